import PyProof.Rows.All
import Wide.All
import OpenK.AllK
import Wide.FinOn
import Lean
import PyProof.EqAt
import PyProof.EqKinds
import PyProof.TupleCall
import PyProof.StrWalks
import KE.KTryMore
import PyProof.ZipIter
import PyProof.Rows.Range3
import PyProof.Draws
import PyProof.WalksMore
import PyProof.ExcBaseAll.ValueError
import PyProof.StrReplace2
import PyProof.FactsAll.range_2
import KE.KRevIter
import KE.KNest
import KE.BitLaws
import PySem.Challenge.RW_pathshape_k42_says
set_option Elab.async false
set_option linter.all false
set_option maxRecDepth 100000
set_option maxHeartbeats 4000000
set_option compiler.extract_closed false
set_option genSizeOf false
set_option genInjectivity false
open PySem renaming Value→XR,wpAny_bind→XS,sizeLine→XT,Shared→XX,wpAny_pure→Yc,wpAny→Ye,starEach→Yj,wpAny_Call_Name_kw→Yo,Program→Yw,wpAny_newObj_type→YC,wpAny_mono→YG,wpAny_field→YI,World→YM,wpAny_callSpecial?_slot→Zb,mem_of_lookup→Zo,wpAny_call_entry→Zu,wpAny_pyIter_revIter→ZE,wpAny_setField→ZS,wpAny_passesOwn→ZY,wpAny_truthy_bool→Z3,rawInt→Z8,wpAny_pyIter_enum→Z9,wpAny_getItem_str_slice→aai,wpAny_seqItems→aaj,wpAny_of_eq→aal,wpAny_specialOf→aas,wpAny_holding→aau,wpAny_newFunctionEnv_cells→aaA,Builtin→aaH,wpAny_updateSeq→aaN,wpAny_load→aaQ,wpAny_pyIter_tuple→aaR,wpAny_pyIter_list→aa2,wpAny_execs_cons→aa8,wpAny_execs_nil→abd,wpAny_loadPart'→abf,wpAny_rule→abx,wpAny_tryCatch→aby,wpAny_assign_Name→abA,wpAny_letGo→abD,wpAny_comprehension_free→abI,wpAny_isInstance→abO,wpAny_pyNext_enum_itemD→abQ,Within→abX,wpAny_pyNext_range_end→abY,wpAny_pyIter_rangeiter→abZ,wpAny_pyNext_enum_endD→ab4,wpAny_storeName_local→ab8,wpAny_throw→aco,wpAny_newFunctionEnv→acp,wpAny_loadName_cell→acw,wpAny_standAt→acA,wpAny_handled→acC,wpAny_attempt→acG,wpAny_Name→acI,wpAny_Constant_int→acJ,wpAny_pyIter_range→acK,wpAny_call→acL,wpAny_Return_some→acS,wpAny_Assign_Name→acT,wpAny_typeOf→acZ,wpAny_update→ac2,wpAny_stack_any→adn,call→adt
open PySem.W renaming Frag→XU,keepIn→YE,findIn→Y3,emptyDict→Ze,fnOf→Zj,tabIn→Zz,nsIn→ZA,instObj→ZI,callWith_K→ZQ,tabObj→ZU,kia_one→Z1,codeIn→aag,CodeHd→aak,cellsFrom_some→aan,noTabs→aa5,plainGet→aa9,plainGet_of→abk,isFn→abn,lookIn→abu,codeRec_of→abv,methodObj→abz,hasDictIn→abB,takerIn→ab5,makesIn→ab6,WalkO→acE,mg_of→acF,plainOver→acU,specialIn→acV,kitx_list→ac0,handedIn→ac6,OpenLaw→ado
open PySem.Heap renaming get?_push_of_some→XW,lt_size→X0,get?_push_size→X6,get?_update_other→Yt,get?_update_self→YB,size_push→Zg,SameBut→ZM,get?_push_ne→abE,of_hide→ab2,ExtBut→acn,FlyingW→ac1
open List renaming getElem?_eq_some_iff→XY,getElem?_eq_getElem→XZ,map_cons→X8,size_toArray→Yb,getElem?_append_left→Yd,length_map→Yh,replicate→Yi,mem_singleton→Yk,map_nil→Yl,length_cons→Ym,mem_cons→Yn,getElem?_append_right→Yp,getElem?_map→Yq,getElem?_cons_zero→Ys,getElem?_cons_succ→Yv,length_append→Yx,mem_of_getElem?→Yy,lookup_cons→Yz,mem_cons_of_mem→YA,getElem?_set_ne→YD,range→YF,range'→YL,set_cons_succ→YS,set_cons_zero→YT,lookup→YU,append_nil→YW,nil_append→YX,getElem?_eq_none_iff→YZ,mem_append_right→Y5,reverse_cons→Y7,append_assoc→Y8,getElem?_set→Y9,length_nil→Zc,map_map→Zl,replicate_succ→Zp,mem_append→Zr,getElem?_eq_none→Zs,getElem_inj→Zt,zip_cons_cons→Zv,getElem_mem→Zw,map_reverse→Zx,mem_append_left→ZC,nodup_cons→ZJ,filterMap_cons→ZK,mem_cons_self→ZO,drop_eq_getElem_cons→ZX,of_mem_zip→ZZ,flatten_cons→Z7,getElem?_mapIdx→aab,mem_map→aac,getElem_of_mem→aae,getElem?_replicate→aaf,drop_eq_nil_of_le→aap,zipWith→aaq,find?_cons→aar,map_append→aat,getElem?_toArray→aav,getElem?_reverse→aaw,nodup_append→aax,length_take→aaF,all_eq_true→aaG,length_reverse→aaK,filter_eq_self→aaL,length_mapIdx→aaS,filter_cons_of_pos→aaY,getElem?_set_self→aa0,zipWith_cons_cons→aa6,length_drop→aba,range'_succ→abb,mem_filter→abc,dropLast_concat_getLast→abi,take_set_of_le→abl,mem_range→abr,mem_filterMap→abt,length→abC,getElem?_take_of_lt→abH,filter_cons_of_neg→abR,mem_reverse→abS,reverse_eq_nil_iff→abU,length_replicate→ab9,length_singleton→acd,dropLast_eq_take→ace,set_append_right→acg,eq_nil_or_concat→ack,range_eq_range'→acq,mem_of_mem_drop→acs,dropLast_concat→acu,getD→acv,getElem?_range→acz,getElem_range→acN,take_sublist→acY,flatMap_cons→ac5,cons_append→adb,mapIdx_cons→adg,not_mem_nil→adh,ext_getElem→adi,sum_append→adl,mem_mapIdx→adp,foldl→ads
open Nat renaming le_refl→X3,lt_of_lt_of_le→X7,ne_of_lt→Yg,succ_pos→YJ,le_trans→YV,lt_irrefl→YY,lt_succ_self→Zd,lt_succ_of_lt→ZH,zero_le→Z4,le_succ→aaU,le_of_lt→aaZ,ne_of_gt→abm,succ_ne_self→abP,testBit_zero→abV,testBit_succ→abW,testBit_and→ab7,le_of_not_lt→ac8,le_add_right→ac9,succ_le_succ→ada,two_pow_pos→adq
open PySem.PyData renaming strOk→X4,canLayAll0→Za,depth→Zk,eqv→Zn,canLay0→ZF,depthAll→Z0,str→aaD,eqvAll→acD
open Eq renaming trans→X5
open PyProof.Rows renaming callWith_type1→Yr,envOfC→Zq,slot_tuple_getitem→aad,callWith_builtin1→aah,AllBare→aaC,boot_max→aa7,boot_sum→acf
open Option.some renaming inj→Yu
open Bool renaming false_ne_true→YH,and_eq_true→Y4,or_eq_true→abe,false_xor→acr,true_and→acB,false_eq_true→acR
open False renaming elim→YK
open PySem.Builtin.SmallTypes renaming nextOf→YN
open PySem.Builtin renaming bitAnd→YO,bitOr→YQ,bitXor→ZD
open PySem.AutoSeq1 renaming wpAny_loadPart'→YR,sub_tuple_tuple→abK
open PySem.Obj renaming data_mapFields→Y0,mapFields→Zi,isFreed_of_fields→ZV,mapSeq→aaB,cls_mapFields→abF
open Ne renaming symm→Y6
open Int renaming toNat_natCast→Zf,fdiv_eq_ediv_of_nonneg→aaz,emod_nonneg→aaP,emod_lt_of_pos→aaT,one_mul→adj,ediv_nonneg→adm
open PySem.Builtin.Tuple renaming tupleExact→Zh
open PySem.Calls renaming spliced_cons→Zm,Name_function_global→ZP,spliced_nil→Z5,loadGlobal_builtin→abG,loadGlobal_global→abL,callWith_builtin→ab1
open PySem.Builtin.List renaming listTooLong→Zy,listExtendWith→aay,listLengthHint→abo,listSameRef→abJ
open PySem.Builtin.Range renaming rangeSize→ZG,small→acy
open PySem.Heap.SameBut renaming update→ZL
open PySem.F renaming plain_max_loop→ZN,slot_tuple_iterator_next→ZT,args_object_init_2→aaE,args_tuple_add_2→aaM,entry_tuple_add→aaV,slot_tuple_add→aa1,args_tuple_iterator_next_1→abg,slot_lri_next→abh,entry_tuple_iterator_next→abp,plainAttrs_list→abN,entry_max_loop→abT,typeCall_enumerate_1→ab3,newCall_enumerate_1→ach,entry_enumerate_new→aci,slot_list_extend→acO,called_enumerate→acP,plain_list_iadd→ac3,args_lri_next_1→ac4,entry_lri_next→ade,slot_int_rmul→adk
open Array renaming getElem?_eq_some_iff→ZR,getElem?_eq_none→aao,getElem?_eq_getElem→aaJ,length_toList→abj
open PySem.Builtin.Slice renaming slicePlaces→ZW,sliceAdjust→aaI,sliceApplied→abw
open PySem.Str renaming ofString→Z6
open PySem.Around renaming under_plainId→aaa,frames_deeper→acm,under→acW
open True renaming intro→aam
open PySem.W.Frag renaming In→aaO
open PySem.Txt renaming slice→aaW
open Classical renaming propDecidable→aaX,choose_spec→acj
open PySem.PassesOwn renaming leaving→aa3
open PyProof.Rows.IsTup renaming new→aa4,new→ac7
open PySem.Builtin.Builtins renaming bindParams→abq
open PySem.Builtin.Str renaming occurrences→abM
open PyProof renaming noPylong_small→ab0
open PySem.SeqAt renaming EqAt→acH
open PySem.Heap.IsSliceOf renaming new→acM
open PySem.ScopeKind renaming function→acQ
open PySem.Code renaming isFrame→acX
open PySem.Heap.ExtBut renaming refl→adf
open PySem.Walks renaming list→adu
open Or renaming inr→adv
local macro_rules
 | `(tactic| nofun)=>`(tactic| first | decide | lia | omega)
local macro_rules
 | `(tactic| symm)=>`(tactic| decide +kernel)
namespace L2
open PySem PySem.Spec PyProof.Rows
variable {pins gS:List (Addr×Obj)} {K:XU} {s s':XX} {A:Around} {Q E:XR→XX→Prop} {u:XR} {P prog:Yw} {mg mA:Str→Option XR} {w:YM} {x m:Str} {us its:List XR} {kw:List (Str×XR)} {h base:Heap} {b a C it dx:Addr} {f:XR→XR→Sem XR} {t' i n tk j:Nat} {e tg c:Expr} {fp ch:List Addr} {fd:FuncData} {g:Int→Int→Int} {body:List Stmt} {outer:List Env} {es:List Expr} {pl:Sem Bool} {R:Result→XX→Prop} {op:CmpOp} {pos pos':Pos} {g':Array GenState} {vs:Array XR} {p:Addr×Obj} {ns N:List Str} {sc:Scope} {β α:Type} {k':Bool} {lo hi:Int} {env:Env}
noncomputable abbrev Key:=Sum Int Str
noncomputable def qB:Key→XR→Bool
  | .inl k,v=>Value.isInt k v
  | .inr x,v=>Value.isStrOf x v
noncomputable def P7 (w:YM):Key→Int
  | .inl k=>hashInt k
  | .inr x=>hashStr w x
theorem cR:∀ {k:Key} {v:XR},qB k v=true→(∃ i t,k=Sum.inl i∧v=Value.int i t)∨(∃ x t,k=Sum.inr x∧v=Value.str x t)
  | .inl i,v,h=>by
    obtain ⟨t,e⟩:=Value.isInt_shape (k:=i) (v:=v) h
    exact .inl ⟨i,t,rfl,e⟩
  | .inr x,v,h=>by
    obtain ⟨t,e⟩:=Value.isStrOf_shape (x:=x) (v:=v) h
    exact .inr ⟨x,t,rfl,e⟩
theorem zg (i:Int) (t:Tok):qB (.inl i) (.int i t)=true:=by simp [qB,Value.isInt]
theorem zh (x:Str) (t:Tok):qB (.inr x) (.str x t)=true:=by simp [qB,Value.isStrOf]
theorem Ja (a b:Int):decide ((Sum.inl a:Key)=Sum.inl b)=(a==b):=by
  by_cases e:a=b
  · subst e;simp
  · have h:¬ (Sum.inl a:Key)=Sum.inl b:=λq=>e (Sum.inl.inj q)
    rw [decide_eq_false h]
    exact (beq_eq_false_iff_ne.mpr e).symm
theorem Jb (a b:Str):decide ((Sum.inr a:Key)=Sum.inr b)=decide (a=b):=by
  by_cases e:a=b
  · subst e;simp
  · have h:¬ (Sum.inr a:Key)=Sum.inr b:=λq=>e (Sum.inr.inj q)
    rw [decide_eq_false h,decide_eq_false e]
theorem Jc (a:Int) (b:Str):decide ((Sum.inl a:Key)=Sum.inr b)=false:=decide_eq_false (λq=>nomatch q)
theorem Jd (a:Str) (b:Int):decide ((Sum.inr a:Key)=Sum.inl b)=false:=decide_eq_false (λq=>nomatch q)
noncomputable def dH (prog:Yw) (w:YM):PySem.KeyKind prog w Key where
  is:=qB
  hash:=P7 w
  inj:=λv a b ha hb=>by
    rcases cR ha with ⟨i,t,rfl,rfl⟩ | ⟨x,t,rfl,rfl⟩
    · rcases cR hb with ⟨j,u,rfl,e⟩ | ⟨y,u,rfl,e⟩
      · injection e with e1 _;rw [e1]
      · exact nomatch e
    · rcases cR hb with ⟨j,u,rfl,e⟩ | ⟨y,u,rfl,e⟩
      · exact nomatch e
      · injection e with e1 _;rw [e1]
  byValue:=λk v h=>by
    rcases cR h with ⟨i,t,rfl,rfl⟩ | ⟨x,t,rfl,rfl⟩<;>rfl
  pyHash:=λhv h=>by
    rcases cR hv with ⟨i,t,rfl,rfl⟩ | ⟨x,t,rfl,rfl⟩
    · exact wpAny_pyHash_int h
    · exact wpAny_pyHash_str h
  eqBool:=λhu hv h=>by
    rcases cR hu with ⟨i,t,rfl,rfl⟩ | ⟨x,t,rfl,rfl⟩
    · rcases cR hv with ⟨j,u,rfl,rfl⟩ | ⟨y,u,rfl,rfl⟩
      · rw [Ja] at h;exact wpAny_eqBool_int h
      · rw [Jc] at h;exact acH.int_str i t y u _ _ _ _ h
    · rcases cR hv with ⟨j,u,rfl,rfl⟩ | ⟨y,u,rfl,rfl⟩
      · rw [Jd] at h;exact acH.str_int x t j u _ _ _ _ h
      · rw [Jb] at h;exact wpAny_eqBool_str h
  «strs»:=λk x t v h=>by
    rcases cR h with ⟨i,u,rfl,e⟩ | ⟨y,u,rfl,e⟩
    · exact nomatch e
    · injection e with e1 _
      subst e1
      cases v<;>rfl
theorem t8 (prog:Yw) (w:YM) (i:Int) (t:Tok):(dH prog w).is (.inl i) (.int i t)=true:=zg i t
theorem t9 (prog:Yw) (w:YM) (x:Str) (t:Tok):(dH prog w).is (.inr x) (.str x t)=true:=zh x t
inductive V where
  | cz | bl (b:Bool) | int (i:Int) | str (x:Str) | Mb (b:Array UInt8) | Mc (b:UInt64) | ref (a:Addr) | ty (n:String)
  deriving DecidableEq
variable {v y:V} {xs:List V}
noncomputable def RelV:V→XR→Prop
  | .cz,u=>u=Value.none
  | .bl b,u=>u=Value.bool b
  | .int i,u=>∃ t,u=Value.int i t
  | .str x,u=>∃ t,u=Value.str x t
  | .Mb b,u=>∃ t,u=Value.bytes b t
  | .Mc b,u=>∃ t,u=Value.float b t
  | .ref a,u=>u=Value.ref a
  | .ty n,u=>u=Value.type n
noncomputable abbrev Vals:List V→List XR→Prop:=Paired RelV
theorem Vals.length (r:Vals xs us):xs.length=us.length:=Paired.length r
theorem Vals.get:∀ {xs:List V} {us:List XR} {i:Nat} {x:V},Vals xs us→xs[i]?=some x→∃ u,us[i]?=some u∧RelV x u
  | _,_,_,_,.nil,e=>by simp at e
  | _,_,0,_,.cons r _,e=>by simp at e;subst e;exact ⟨_,rfl,r⟩
  | _,_,i+1,x,.cons _ t,e=>by
    obtain ⟨u,h1,h2⟩:=Vals.get (i:=i) (x:=x) t (by simpa using e)
    exact ⟨u,by simpa using h1,h2⟩
theorem Vals.set {x:V} (r:RelV x u):∀ {xs:List V} {us:List XR} (i:Nat),Vals xs us→Vals (xs.set i x) (us.set i u)
  | _,_,_,.nil=>.nil
  | _,_,0,.cons _ t=>.cons r t
  | _,_,i+1,.cons q t=>.cons q (Vals.set r i t)
theorem Vals.append:∀ {xs ys:List V} {us ws:List XR},Vals xs us→Vals ys ws→Vals (xs++ys) (us++ws)
  | _,_,_,_,.nil,s=>s
  | _,_,_,_,.cons r t,s=>.cons r (Vals.append t s)
theorem Vals.take:∀ {xs:List V} {us:List XR} (n:Nat),Vals xs us→Vals (xs.take n) (us.take n)
  | _,_,0,_=>.nil
  | _,_,_+1,.nil=>.nil
  | _,_,n+1,.cons r t=>.cons r (Vals.take n t)
theorem Vals.drop:∀ {xs:List V} {us:List XR} (n:Nat),Vals xs us→Vals (xs.drop n) (us.drop n)
  | _,_,0,r=>r
  | _,_,_+1,.nil=>.nil
  | _,_,n+1,.cons _ t=>Vals.drop n t
noncomputable def ko:Option V→Option XR→Prop
  | some v,some u=>RelV v u
  | none,none=>True
  | _,_=>False
noncomputable def KV {κ:Type}:List (κ×V)→List (κ×XR)→Prop:=Paired λ(p:κ×V) (q:κ×XR)=>p.1=q.1∧RelV p.2 q.2
noncomputable def kV:Key→V
  | .inl i=>.int i
  | .inr x=>.str x
inductive HO where
  | lst (xs:List V)
  | tup (xs:List V)
  | dK (kvs:List (Key×V)) | dT (kvs:List (List Key×V))
  | set (S:Int→Bool) (n:Nat)
  | ins (C dx:Addr) (fs:List (Str×V))
  | own (x:Addr)
  | xd (fs:List (Str×V))
  | met (f x:Addr)
  | zj (lo hi:Int)
  | dF (o:Obj) (u:HO)
  | lF (ps:Array XR)
  | ext (φ:Heap→Prop)
variable {o:HO}
noncomputable abbrev Hp:=Addr→Option HO
variable {H:Hp}
noncomputable def upd (H:Hp) (a:Addr) (o:HO):Hp:=λb=>if b=a then some o else H b
theorem aX:upd H a o a=some o:=by unfold upd;rw [if_pos rfl]
theorem aC (h:b≠a):upd H a o b=H b:=by unfold upd;rw [if_neg h]
theorem gz {u:HO} (h:H a=some o) (h':H b=some u) (d:o≠u):a≠b:=by
  intro e;subst e;rw [h] at h';exact d (Yu h')
theorem cj (h:H a=some o) (h':H b=none):a≠b:=by
  intro e;subst e;rw [h] at h';cases h'
section
variable (P:Yw) (w:YM)
noncomputable def dZ (H:Hp) (h:Heap) (a:Addr):HO→Prop
  | .lst xs=>xs.length≤XT∧∃ (its:List XR) (n:Nat),Vals xs its∧h.get? a=some {cls:=.type "list",data:=.seq its.toArray n}
  | .tup xs=>xs.length≤XT∧∃ its:List XR,Vals xs its∧IsTup h a its.toArray
  | .dK kvs=>kvs.length≤XT∧(a==sysModules)=false∧∃ vs,KV kvs vs∧h.DictOf (dH P w) a vs
  | .dT kvs=>kvs.length≤XT∧(a==sysModules)=false∧∃ xs:List (List Key×Addr×XR),
      Paired (λ(p:List Key×V) (q:List Key×Addr×XR)=>p.1=q.1∧H q.2.1=some (.tup (p.1.map kV))∧RelV p.2 q.2.2) kvs xs ∧
      ∃ o es ep,h.get? a=some o∧o.ExactDict∧o.data=.dict es ep∧es.toList=xs.map (entryOfKey (tupleKind (dH P w)))∧(xs.map (·.1)).Nodup
  | .set S n=>h.SetOf (intKind P w) a S n
  | .ins C dx fs=>H dx=some (.own a)∧fs.length≤1000∧dx≠a∧h.get? a=some (ZI C dx) ∧
      ∃ mA,h.Ns1 dx mA∧(∀ f,ko (fs.lookup f) (mA f))∧abX mA (fs.map (·.1))
  | .own _=>∃ o,h.get? a=some o
  | .xd fs=>∃ mA,h.Ns1 a mA∧∀ f,ko (fs.lookup f) (mA f)
  | .zj lo hi=>∃ t u v,h.get? a=some {cls:=.type "range",data:=.fields #[.int lo t,.int hi u,.int 1 v]}
  | .dF o u=>h.get? a=some o∧dZ H h a u
  | .lF ps=>h.get? a=some {cls:=.none,data:=.fields ps}
  | .met f x=>h.get? a=some (abz (.ref f) (.ref x))
  | .ext φ=>φ h∧(∃ o,h.get? a=some o)∧∀ h1 h2:Heap,φ h1→(∀ o,h1.get? a=some o→h2.get? a=some o)→φ h2
noncomputable def i8 (H:Hp) (h:Heap):Prop:=∀ a o,H a=some o→dZ P w H h a o
end
section
variable {P:Yw} {w:YM} {H H':Hp} {h h':Heap} {a:Addr} {o:HO}
theorem dZ.lt (x:dZ P w H h a o):a<h.objs.size:=by
  cases o with
  | lst xs=>obtain ⟨_,_,_,_,e⟩:=x;exact X0 e
  | tup xs=>obtain ⟨_,_,_,p⟩:=x;exact p.lt
  | dK kvs=>obtain ⟨_,_,_,_,o,_,_,e,_⟩:=x;exact X0 e
  | dT kvs=>obtain ⟨_,_,_,_,o,_,_,e,_⟩:=x;exact X0 e
  | set S n=>obtain ⟨o,_,_,_,e,_⟩:=x;exact X0 e
  | ins C dx fs=>obtain ⟨_,_,_,e,_⟩:=x;exact X0 e
  | own y=>obtain ⟨_,e⟩:=x;exact X0 e
  | xd fs=>obtain ⟨_,⟨_,_,_,e,_⟩,_⟩:=x;exact X0 e
  | zj lo hi=>obtain ⟨_,_,_,e⟩:=x;exact X0 e
  | dF ob u=>obtain ⟨e,_⟩:=x;exact X0 e
  | lF ps=>exact X0 (show h.get? a=some _ from x)
  | met f y=>exact X0 (show h.get? a=some _ from x)
  | ext φ=>obtain ⟨_,⟨_,e⟩,_⟩:=x;exact X0 e
theorem Paired.Je {F G:α→β→Prop}:∀ {l₁:List α} {l₂:List β},Paired F l₁ l₂→(∀ a b,F a b→G a b)→Paired G l₁ l₂
  | _,_,.nil,_=>.nil
  | _,_,.cons r t,f=>.cons (f _ _ r) (Paired.Je t f)
theorem dZ.stay (x:dZ P w H h a o) (k:∀ b u,(b=a∨H b=some (.own a))→h.get? b=some u→h'.get? b=some u)
    (ho:∀ b,H b=some (.own a)→H' b=some (.own a)) (ht:∀ b xs,H b=some (.tup xs)→H' b=some (.tup xs)):dZ P w H' h' a o:=by
  induction o with
  | lst xs=>obtain ⟨z,its,n,r,e⟩:=x;exact ⟨z,its,n,r,k _ _ (.inl rfl) e⟩
  | tup xs=>obtain ⟨z,its,r,ob,e,c⟩:=x;exact ⟨z,its,r,ob,k _ _ (.inl rfl) e,c⟩
  | dK kvs=>obtain ⟨z,y,vs,r,ob,es,ep,e,c⟩:=x;exact ⟨z,y,vs,r,ob,es,ep,k _ _ (.inl rfl) e,c⟩
  | dT kvs=>
    obtain ⟨z,y,xs,r,ob,es,ep,e,c⟩:=x
    exact ⟨z,y,xs,Paired.Je r λp q z=>⟨z.1,ht _ _ z.2.1,z.2.2⟩,ob,es,ep,k _ _ (.inl rfl) e,c⟩
  | set S n=>obtain ⟨ob,es,ep,t,e,c⟩:=x;exact ⟨ob,es,ep,t,k _ _ (.inl rfl) e,c⟩
  | ins C dx fs=>
    obtain ⟨d,z,ne,e,mA,⟨od,es,ep,e2,c⟩,r⟩:=x
    exact ⟨ho _ d,z,ne,k _ _ (.inl rfl) e,mA,⟨od,es,ep,k _ _ (.inr d) e2,c⟩,r⟩
  | own y=>obtain ⟨ob,e⟩:=x;exact ⟨ob,k _ _ (.inl rfl) e⟩
  | xd fs=>obtain ⟨mA,⟨od,es,ep,e,c⟩,r⟩:=x;exact ⟨mA,⟨od,es,ep,k _ _ (.inl rfl) e,c⟩,r⟩
  | zj lo hi=>obtain ⟨t,u,v,e⟩:=x;exact ⟨t,u,v,k _ _ (.inl rfl) e⟩
  | dF ob u ih=>obtain ⟨e,q⟩:=x;exact ⟨k _ _ (.inl rfl) e,ih q⟩
  | lF ps=>
    have e:h.get? a=some {cls:=.none,data:=.fields ps}:=x
    show h'.get? a=some {cls:=.none,data:=.fields ps}
    exact k a _ (.inl rfl) e
  | met f y=>
    have e:h.get? a=some (abz (.ref f) (.ref y)):=x
    show h'.get? a=some (abz (.ref f) (.ref y))
    exact k a _ (.inl rfl) e
  | ext φ=>obtain ⟨p,⟨o,e⟩,st⟩:=x;exact ⟨st _ _ p λo q=>k _ _ (.inl rfl) q,⟨o,k _ _ (.inl rfl) e⟩,st⟩
theorem i8.lt (x:i8 P w H h) (e:H a=some o):a<h.objs.size:=(x a o e).lt
theorem i8.fresh (x:i8 P w H h) (e:h.objs.size≤a):H a=none:=by
  cases q:H a with
  | none=>rfl
  | some u=>exact absurd (X7 (x.lt q) e) (YY _)
theorem i8.kept (x:i8 P w H h) (k:∀ b u,h.get? b=some u→h'.get? b=some u):i8 P w H h':=λa o e=>
  (x a o e).stay (λb u _ q=>k b u q) (λ_ q=>q) λ_ _ q=>q
theorem i8.laid (x:i8 P w H h) (k:∀ b u,h.get? b=some u→h'.get? b=some u) (hp:h.objs.size≤a) (new:dZ P w (upd H a o) h' a o):i8 P w (upd H a o) h':=λb u e=>by
  have hn:=x.fresh hp
  by_cases hb:b=a
  · subst hb;rw [aX] at e;cases e;exact new
  · rw [aC hb] at e
    exact (x b u e).stay (λc v _ q=>k c v q) (λc q=>by rw [aC (cj q hn)];exact q) λc xs q=>by rw [aC (cj q hn)];exact q
end
noncomputable def Rd (H:Hp) (a:Addr) (u:HO):Prop:=H a=some u∨∃ o,H a=some (.dF o u)
theorem Rd.of {u:HO} (h:H a=some u):Rd H a u:=.inl h
theorem Rd.ok {u:HO} (r:Rd H a u) (x:i8 P w H h):dZ P w H h a u:=by
  rcases r with r | ⟨o,r⟩
  · exact x a u r
  · obtain ⟨_,q⟩:=x a _ r
    exact q
noncomputable def Mx:Option HO→Prop
  | some (.lst _)=>True
  | some (.dK _)=>True
  | some (.dT _)=>True
  | some (.set _ _)=>True
  | some (.ins _ _ _)=>True
  | some (.ext _)=>True
  | _=>False
section
variable {P:Yw} {w:YM} {H:Hp} {h h':Heap} {x e:Addr} {o':HO}
theorem i8.write (ok:i8 P w H h) (mu:Mx (H x)) (he:e=x∨H e=some (.own x)) (k:∀ b u,b≠e→h.get? b=some u→h'.get? b=some u) (Me:∃ u,h'.get? e=some u)
    (new:dZ P w (upd H x o') h' x o'):i8 P w (upd H x o') h':=λb u q=>by
  have My:∀ c y,H c=some (.own y)→c≠x:=λc y r z=>by subst z;rw [r] at mu;exact mu
  have P8:∀ c xs,H c=some (.tup xs)→c≠x:=λc xs r z=>by subst z;rw [r] at mu;exact mu
  by_cases hb:b=x
  · subst hb;rw [aX] at q;cases q;exact new
  · rw [aC hb] at q
    by_cases Em:b=e
    · have q':H b=some (.own x):=by
        rcases he with z | z
        · exact absurd (Em.trans z) hb
        · rw [Em];exact z
      rw [q] at q';cases q'
      obtain ⟨v,hv⟩:=Me
      exact ⟨v,by rw [Em];exact hv⟩
    · refine (ok b u q).stay (λc v hc r=>k c v ?_ r) (λc r=>by rw [aC (My c b r)];exact r) λc xs r=>by rw [aC (P8 c xs r)];exact r
      rcases hc with rfl | hc
      · exact Em
      · rintro rfl
        rcases he with z | z
        · exact My c b hc z
        · rw [hc] at z;cases z;exact hb rfl
end
structure Un (fs ex:List Addr) (H H':Hp) (h h':Heap):Prop where
  keep:∀ b o,h.get? b=some o→H b=none→b∉fs→b∉ex→h'.get? b=some o
  slot:∀ b o,h.get? b=some o→H b=none→b∈fs→b∉ex→∃ sl,h'.get? b=some {o with slots:=sl}
  free:∀ b o,h.get? b=some o→H b=none→b∉ex→H' b=none
  there:∀ b o,h.get? b=some o→b∉ex→∃ o',h'.get? b=some o'
  tups:∀ b xs,H b=some (.tup xs)→H' b=some (.tup xs)
  i9:∀ b o u,H b=some (.dF o u)→H' b=some (.dF o u)
  jK:∀ b ps,H b=some (.lF ps)→∃ more,H' b=some (.lF (ps++more))
section
variable {fs fs' ex ex':List Addr} {H H1 H2:Hp} {h h1 h2 h':Heap} {a x e:Addr} {o:HO}
theorem Un.any (u:Un fs ex H H1 h h1) {b:Addr} {ob:Obj} (q:h.get? b=some ob) (n:H b=none) (hx:b∉ex):∃ sl,h1.get? b=some {ob with slots:=sl}:=by
  by_cases hb:b∈fs
  · exact u.slot b ob q n hb hx
  · exact ⟨ob.slots,u.keep b ob q n hb hx⟩
theorem Un.kept (k:∀ b u,h.get? b=some u→h'.get? b=some u):Un fs ex H H h h':=
  ⟨λb ob q _ _ _=>k b ob q,λb ob q _ _ _=>⟨ob.slots,k b ob q⟩,λ_ _ _ n _=>n,λb ob q _=>⟨ob,k b ob q⟩,λ_ _ q=>q,λ_ _ _ q=>q,λ_ ps q=>⟨#[],by rw [q];simp⟩⟩
theorem Un.refl:Un fs ex H H h h:=Un.kept λ_ _ q=>q
theorem Un.laid (k:∀ b u,h.get? b=some u→h'.get? b=some u) (hp:h.objs.size≤a) (hn:H a=none):Un fs ex H (upd H a o) h h' where
  keep:=λb u q _ _ _=>k b u q
  slot:=λb u q _ _ _=>⟨u.slots,k b u q⟩
  free:=λb u q n _=>by rw [aC (Yg (X7 (X0 q) hp))];exact n
  there:=λb u q _=>⟨u,k b u q⟩
  tups:=λb xs q=>by rw [aC (cj q hn)];exact q
  i9:=λb u xs q=>by rw [aC (cj q hn)];exact q
  jK:=λb ps q=>⟨#[],by rw [aC (cj q hn),q];simp⟩
theorem Un.write (mu:Mx (H x)) (he:e=x∨H e=some (.own x)) (k:∀ b u,b≠e→h.get? b=some u→h'.get? b=some u) (Me:∃ u,h'.get? e=some u):Un fs ex H (upd H x o) h h':=by
  have hx:∀ b,H b=none→b≠x:=λb n z=>by subst z;rw [n] at mu;exact mu
  have hb:∀ b,H b=none→b≠e:=λb n z=>by
    subst z
    rcases he with r | r
    · exact hx b n r
    · rw [n] at r;cases r
  have hm:∀ b u,H b=some u→¬ Mx (some u)→b≠x:=λb u q nm z=>by subst z;rw [q] at mu;exact nm mu
  refine ⟨λb u q n _ _=>k b u (hb b n) q,λb u q n _ _=>⟨u.slots,k b u (hb b n) q⟩,λb u q n _=>by rw [aC (hx b n)];exact n,λb u q _=>?_,
    λb xs q=>by rw [aC (hm b _ q λz=>z)];exact q,λb u xs q=>by rw [aC (hm b _ q λz=>z)];exact q,λb ps q=>⟨#[],by rw [aC (hm b _ q λz=>z),q];simp⟩⟩
  by_cases Em:b=e
  · subst Em;exact Me
  · exact ⟨u,k b u Em q⟩
end
noncomputable def O8 (h:Heap) (H:Hp):List Addr:=(YF h.objs.size).filter λa=>(H a).isSome
noncomputable def nZ (h:Heap) (H:Hp):Heap:=PySem.W.hideAll h (O8 h H)
theorem zk (h:Heap) (H:Hp):(nZ h H).objs.size=h.objs.size:=PySem.W.hideAll_size _ _
theorem A2 {o:Obj} (e:h.get? b=some o) (n:H b=none):(nZ h H).get? b=some o:=
  PySem.W.hideAll_get _ e λhm=>by
    have q:(H b).isSome=true:=(abc.mp hm).2
    rw [n] at q;simp at q
theorem Ez {o:Obj} (e:(nZ h H).get? b=some o):h.get? b=some o∧H b=none:=by
  have e':h.get? b=some o:=PySem.W.of_hideAll (O8 h H) e
  refine ⟨e',?_⟩
  cases q:H b with
  | none=>rfl
  | some x=>
    have hm:b∈O8 h H:=abc.mpr ⟨abr.mpr (X0 e'),by simp [q]⟩
    have z:(nZ h H).get? b=none:=PySem.W.hideAll_none (O8 h H) hm
    rw [z] at e;cases e
noncomputable def EA (g h:Heap) (L:Addr):List (Addr×Obj):=(YF h.objs.size).filterMap λa=>if a=L∨(g.get? a).isSome=true then none else (h.get? a).map λo=>(a,o)
noncomputable def rest (g h:Heap) (L d:Addr):List (Addr×Obj):=(EA g h L).filter λp=>decide (p.1≠d)
structure Mod (K:XU) (mg:Str→Option XR) (base:Heap):Prop where
  AS:K.In base
  glob:base.Ns mainGlobals mg
  blt:∃ mb,base.Ns builtinsNs mb∧∀ x:Str,x≠"__name__"→mb x=bootBuiltins x
  nolimit:base.NoLimit
structure Cx where
  prog:Yw
  w:YM
  K:XU
  mg:Str→Option XR
  base:Heap
  A:Around
  N:List Str
  s₀:XX
  H₀:Hp
  env:Env
  outer:List Env
  stack:List Env
  ex:List Addr
  fn:Str→Bool
  calm:Bool
  pn:List (Addr×Obj)
  xe:XR→XX→Prop
variable {X:Cx}
noncomputable def frs (l:List Env):List Addr:=l.filterMap (·.frame)
noncomputable abbrev Cx.fs (X:Cx):List Addr:=frs X.outer
noncomputable def A3 (sc:Scope) (x:Str):Prop:=sc.names.lookup x=some .local∨sc.names.lookup x=some .cell∨sc.names.lookup x=some .free
noncomputable def Loc (sc:Scope) (x:Str):Prop:=sc.names.lookup x=some .local∨sc.names.lookup x=some .cell
noncomputable def Look (env:Env) (h:Heap) (m:Str→Option XR) (x:Str) (u:XR):Prop:=
  (env.kindOf x=some .local∧m x=some u)∨((env.kindOf x=some .cell∨env.kindOf x=some .free)∧∃ c,env.cells.lookup x=some c∧h.IsCell c (some u))
structure Cx.Ok (X:Cx):Prop where
  mod:Mod X.K X.mg X.base
  kind:X.env.scope.kind=.function
  glob:X.env.globals=mainGlobals
  blt:X.env.builtins=builtinsNs
  above:X.s₀.heap.objs.size≤X.env.locals
  inj:∀ x y c,X.env.cells.lookup x=some c→X.env.cells.lookup y=some c→x=y
  has:∀ x,(X.env.kindOf x=some .cell∨X.env.kindOf x=some .free)→∃ c,X.env.cells.lookup x=some c
  Mz:∀ x c,X.fn x=true→X.env.cells.lookup x=some c→X.s₀.heap.objs.size≤c
  hd:X.calm=true→X.A.handled=none
  frames:X.A.frames=some X.stack
  stk:X.stack=X.outer∨(X.stack=X.env::X.outer∧X.env.frame=some X.env.locals)
  Ul:∀ b∈X.ex,b≠X.env.locals∧∀ x c,X.env.cells.lookup x=some c→c≠b
  bs:∀ b o,X.base.get? b=some o→X.s₀.heap.get? b=some o∧X.H₀ b=none
  En:X.base.objs.size≤X.s₀.heap.objs.size
  EB:∀ b o,X.base.get? b=some o→b∉X.ex
  EC:∀ b∈X.ex,b∉X.fs
  lG:X.s₀.heap.FunFrames X.base X.outer
  ED:∀ b∈X.fs,X.H₀ b=none
structure Inv (X:Cx) (pins:List (Addr×Obj)) (σ:List (Option V)) (H:Hp) (s:XX):Prop where
  ok:X.Ok
  os:s.os=X.s₀.os∧0<s.toks
  bare:AllBare s.gens
  base:Un X.fs X.ex X.H₀ H X.s₀.heap s.heap
  loc:∃ m,s.heap.Ns X.env.locals m∧∀ (i:Nat) (x:Str) (v:V),X.N[i]?=some x→σ[i]?=some (some v)→A3 X.env.scope x→∃ u,RelV v u∧Look X.env s.heap m x u
  cell:∀ x c,X.env.cells.lookup x=some c→∃ v,s.heap.IsCell c v
  free:H X.env.locals=none
  jB:∀ x c,X.env.cells.lookup x=some c→H c=none∨(X.fn x=false∧∃ o u,H c=some (.dF o u))
  pin:∀ p∈X.pn++pins,s.heap.get? p.1=some p.2∧H p.1=none∧p.1≠X.env.locals∧p.1∉X.fs∧∀ v,p.2.data≠.cell v
  hok:i8 X.prog X.w H s.heap
  len:σ.length=X.N.length
section
variable {X:Cx} {pins:List (Addr×Obj)} {σ:List (Option V)} {H H':Hp} {s:XX} {h':Heap}
theorem Cx.Ok.P9 (ok:X.Ok) {b:Addr} {o:Obj} (e:X.base.get? b=some o):b∉X.fs:=λhb=>by
  have:=(ok.lG.mem hb).1
  rw [e] at this;cases this
theorem Inv.bs (I:Inv X pins σ H s):∀ b o,X.base.get? b=some o→s.heap.get? b=some o∧H b=none:=λb o e=>
  ⟨I.base.keep b o (I.ok.bs b o e).1 (I.ok.bs b o e).2 (I.ok.P9 e) (I.ok.EB b o e),I.base.free b o (I.ok.bs b o e).1 (I.ok.bs b o e).2 (I.ok.EB b o e)⟩
theorem Inv.bk (I:Inv X pins σ H s):∀ b o,X.base.get? b=some o→s.heap.get? b=some o:=λb o e=>(I.bs b o e).1
theorem Inv.mod (I:Inv X pins σ H s):Mod X.K X.mg X.base:=I.ok.mod
theorem Inv.nN (I:Inv X pins σ H s):X.K.In s.heap:=I.ok.mod.AS.keeps I.bk
theorem Inv.nolimit (I:Inv X pins σ H s):s.heap.NoLimit:=I.ok.mod.nolimit.keeps I.bk
theorem Inv.fr (I:Inv X pins σ H s):∃ m,Fr X.base X.env.locals s.heap m:=
  let ⟨m,hn,_⟩:=I.loc
  ⟨m,hn,I.bk,YV I.ok.En I.ok.above⟩
theorem Inv.lt (I:Inv X pins σ H s):X.env.locals<s.heap.objs.size:=let ⟨_,hn,_⟩:=I.loc;hn.lt
theorem Inv.sz (I:Inv X pins σ H s):X.s₀.heap.objs.size≤s.heap.objs.size:=YV I.ok.above (aaZ I.lt)
theorem Inv.Qa (I:Inv X pins σ H s) {a:Addr} (h:s.heap.objs.size≤a):a∉X.fs:=λhb=>by
  obtain ⟨_,o,ho,_⟩:=I.ok.lG.mem hb
  exact absurd (X7 (X0 ho) (YV I.sz h)) (YY _)
theorem Inv.A4 (I:Inv X pins σ H s):∀ x c,X.env.cells.lookup x=some c→c≠X.env.locals:=λx c e z=>by
  obtain ⟨v,o,ho,hd⟩:=I.cell x c e
  obtain ⟨m,⟨o',es,ep,ho',hd',_⟩,_⟩:=I.loc
  rw [z,ho'] at ho;cases ho;rw [hd'] at hd;cases hd
theorem Inv.lG (I:Inv X pins σ H s):s.heap.FunFrames X.base X.outer:=by
  have all:∀ (l:List Env),(∀ b∈frs l,b∈X.fs)→X.s₀.heap.FunFrames X.base l→s.heap.FunFrames X.base l:=by
    intro l
    induction l with
    | nil=>intro _ _;trivial
    | cons env r ih=>
      intro hs hl
      obtain ⟨hk,⟨L,o,hf,hn,ho,hd⟩,hr⟩:=hl
      have hL:L∈X.fs:=hs L (by unfold frs;rw [ZK,hf];exact ZO)
      obtain ⟨sl,e⟩:=I.base.slot L o ho (I.ok.ED L hL) hL λz=>I.ok.EC L z hL
      exact ⟨hk,⟨L,_,hf,hn,e,hd⟩,ih (λb hb=>hs b (by unfold frs;rw [ZK,hf];exact YA _ hb)) hr⟩
  exact all X.outer (λ_ hb=>hb) I.ok.lG
theorem Inv.stack (I:Inv X pins σ H s):s.heap.FunFrames X.base X.stack:=by
  rcases I.ok.stk with e | ⟨e,hf⟩
  · rw [e];exact I.lG
  · rw [e]
    obtain ⟨m,hn,_⟩:=I.loc
    refine .cons (by rw [I.ok.kind];decide) hf hn ?_ I.lG
    exact Heap.get?_none_of_le (YV I.ok.En I.ok.above)
theorem Inv.jL (I:Inv X pins σ H s):∀ b∈frs X.stack,b∈X.env.locals::X.fs:=λb hb=>by
  rcases I.ok.stk with e | ⟨e,hf⟩
  · rw [e] at hb;exact YA _ hb
  · rw [e] at hb
    unfold frs at hb
    rw [ZK,hf] at hb
    exact hb
theorem Inv.nO (I:Inv X pins σ H s):∀ b∈frs X.stack,H b=none:=λb hb=>by
  rcases Yn.mp (I.jL b hb) with e | hb
  · rw [e];exact I.free
  · obtain ⟨_,o,ho,_⟩:=I.ok.lG.mem hb
    exact I.base.free b o ho (I.ok.ED b hb) λz=>I.ok.EC b z hb
theorem Inv.step {g':Array GenState} {t':Nat} {d':Drawn} (I:Inv X pins σ H s)
    (hch:∀ b∈ch,(b∈X.ex∨X.s₀.heap.objs.size≤b)∧b≠X.env.locals∧(∀ x c,X.env.cells.lookup x=some c→c≠b)∧∀ p∈X.pn++pins,p.1≠b)
    (keep:∀ b o,b≠X.env.locals→b∉X.fs→b∉ch→s.heap.get? b=some o→H b=none→h'.get? b=some o)
    (slot:∀ b o,b≠X.env.locals→b∈X.fs→b∉ch→s.heap.get? b=some o→H b=none→∃ sl,h'.get? b=some {o with slots:=sl}) (free:∀ b o,b∉ch→s.heap.get? b=some o→H b=none→H' b=none)
    (there:∀ b o,b∉ch→s.heap.get? b=some o→∃ o',h'.get? b=some o')
    (tups:∀ b xs,H b=some (.tup xs)→H' b=some (.tup xs)) (i9:∀ b o u,H b=some (.dF o u)→H' b=some (.dF o u)) (jK:∀ b ps,H b=some (.lF ps)→∃ more,H' b=some (.lF (ps++more)))
    (ns:∀ m,s.heap.Ns X.env.locals m→h'.Ns X.env.locals m) (hok:i8 X.prog X.w H' h') (hg:AllBare g') (ht:0<t':=by first | exact YJ _ | exact (Inv.os (by assumption)).2 | assumption | nofun) :
    Inv X pins σ H' {s with heap:=h',gens:=g',drawn:=d',toks:=t'}:=by
  have yb:∀ b o,X.s₀.heap.get? b=some o→b≠X.env.locals:=λb o e=>Yg (X7 (X0 e) I.ok.above)
  have HS:∀ b o,X.s₀.heap.get? b=some o→b∉X.ex→b∉ch:=λb o e hx hb=>by
    rcases (hch b hb).1 with z | z
    · exact hx z
    · exact absurd (X7 (X0 e) z) (YY _)
  have cellK:∀ x c,X.env.cells.lookup x=some c→∀ v,s.heap.IsCell c v→h'.IsCell c v:=λx c e v zz=>by
    obtain ⟨o,ho,hd⟩:=zz
    have MA:c∉ch:=λz=>(hch c z).2.2.1 x c e rfl
    rcases I.jB x c e with hfr | ⟨_,fo,fu,hfr⟩
    · by_cases hc:c∈X.fs
      · obtain ⟨sl,q⟩:=slot c o (I.A4 x c e) hc MA ho hfr
        exact ⟨_,q,hd⟩
      · exact ⟨o,keep c o (I.A4 x c e) hc MA ho hfr,hd⟩
    · have q1:=(I.hok c _ hfr).1
      have q2:=(hok c _ (i9 c fo fu hfr)).1
      rw [ho] at q1
      cases q1
      exact ⟨o,q2,hd⟩
  refine ⟨I.ok,⟨I.os.1,ht⟩,hg,⟨λb o e n hb hx=>?_,λb o e n hb hx=>?_,λb o e n hx=>?_,λb o e hx=>?_,λb xs e=>tups b xs (I.base.tups b xs e),λb o xs e=>i9 b o xs (I.base.i9 b o xs e),λb ps e=>?_⟩,?_,λx c e=>?_,?_,λx c e=>?_,λp hp=>?_,hok,I.len⟩
  · exact keep b o (yb b o e) hb (HS b o e hx) (I.base.keep b o e n hb hx) (I.base.free b o e n hx)
  · obtain ⟨sl,e1⟩:=I.base.slot b o e n hb hx
    obtain ⟨MB,e2⟩:=slot b _ (yb b o e) hb (HS b o e hx) e1 (I.base.free b o e n hx)
    exact ⟨MB,e2⟩
  · obtain ⟨o',e1⟩:=I.base.there b o e hx
    exact free b o' (HS b o e hx) e1 (I.base.free b o e n hx)
  · obtain ⟨o',e1⟩:=I.base.there b o e hx
    exact there b o' (HS b o e hx) e1
  · obtain ⟨m1,e1⟩:=I.base.jK b ps e
    obtain ⟨m2,e2⟩:=jK b _ e1
    exact ⟨m1++m2,by rw [e2,Array.append_assoc]⟩
  · obtain ⟨m,hn,hl⟩:=I.loc
    refine ⟨m,ns m hn,λi x v e1 e2 e3=>?_⟩
    obtain ⟨u,r,l⟩:=hl i x v e1 e2 e3
    refine ⟨u,r,?_⟩
    rcases l with l | ⟨k,c,e,z⟩
    · exact .inl l
    · exact .inr ⟨k,c,e,cellK x c e _ z⟩
  · obtain ⟨v,z⟩:=I.cell x c e
    exact ⟨v,cellK x c e v z⟩
  · obtain ⟨m,⟨o,_,_,ho,_⟩,_⟩:=I.loc
    exact free _ o (λz=>(hch _ z).2.1 rfl) ho I.free
  · obtain ⟨v,o,ho,hd⟩:=I.cell x c e
    rcases I.jB x c e with hfr | ⟨hx,fo,fu,hfr⟩
    · exact .inl (free c o (λz=>(hch c z).2.2.1 x c e rfl) ho hfr)
    · exact .inr ⟨hx,fo,fu,i9 c fo fu hfr⟩
  · obtain ⟨e,n,ne,nf,d⟩:=I.pin p hp
    have MA:p.1∉ch:=λz=>(hch p.1 z).2.2.2 p hp rfl
    exact ⟨keep p.1 p.2 ne nf MA e n,free p.1 p.2 MA e n,ne,nf,d⟩
theorem Inv.un (I:Inv X pins σ H s) (u:Un X.fs [] H H' s.heap h') (hok:i8 X.prog X.w H' h') (ht:0<t':=by first | exact YJ _ | exact (Inv.os (by assumption)).2 | assumption | nofun):Inv X pins σ H' {s with heap:=h',toks:=t'}:=by
  obtain ⟨m,⟨o,es,ep,ho,r⟩,_⟩:=id I.loc
  obtain ⟨sl,hL⟩:=u.any ho I.free (by simp)
  exact I.step (g':=s.gens) (d':=s.drawn) (ch:=[]) (λ_ z=>nomatch z) (λb o _ hb _ e n=>u.keep b o e n hb (by simp)) (λb o _ hb _ e n=>u.slot b o e n hb (by simp)) (λb o _ e n=>u.free b o e n (by simp)) (λb o _ e=>u.there b o e (by simp)) u.tups u.i9 u.jK (λm' hm=>by
    obtain ⟨o',es',Qc,ho',r'⟩:=hm
    rw [ho] at ho';cases ho'
    exact ⟨_,es',Qc,hL,r'⟩) hok I.bare
theorem Inv.call {d':Drawn} (I:Inv X pins σ H s) (u:Un (frs X.stack) ch H H' s.heap h') (hok:i8 X.prog X.w H' h') (hg:AllBare g')
    (hch:∀ b∈ch,(b∈X.ex∨X.s₀.heap.objs.size≤b)∧b≠X.env.locals∧(∀ x c,X.env.cells.lookup x=some c→c≠b)∧∀ p∈X.pn++pins,p.1≠b) (ht:0<t':=by first | exact YJ _ | exact (Inv.os (by assumption)).2 | assumption | nofun) :
    Inv X pins σ H' {s with heap:=h',gens:=g',drawn:=d',toks:=t'}:=by
  obtain ⟨m,⟨o,es,ep,ho,r⟩,_⟩:=id I.loc
  obtain ⟨sl,hL⟩:=u.any ho I.free λz=>(hch _ z).2.1 rfl
  exact I.step (ch:=ch) hch (λb o hL hb hc e n=>u.keep b o e n (λz=>(Yn.mp (I.jL b z)).elim hL hb) hc) (λb o _ _ hc e n=>u.any e n hc) (λb o hc e n=>u.free b o e n hc) (λb o hc e=>u.there b o e hc) u.tups u.i9 u.jK (λm' hm=>by
    obtain ⟨o',es',Qc,ho',r'⟩:=hm
    rw [ho] at ho';cases ho'
    exact ⟨_,es',Qc,hL,r'⟩) hok hg
theorem Inv.turned (I:Inv X pins σ H s) (k:∀ b o,b≠it→s.heap.get? b=some o→h'.get? b=some o) (hn:H it=none) (hL:it≠X.env.locals)
    (h1:it∈X.ex∨X.s₀.heap.objs.size≤it) (h2:∀ x c,X.env.cells.lookup x=some c→c≠it) (h3:∀ p∈X.pn++pins,p.1≠it) (ht:0<t':=by first | exact YJ _ | exact (Inv.os (by assumption)).2 | assumption | nofun):Inv X pins σ H {s with heap:=h',toks:=t'}:=by
  have MC:∀ b u,H b=some u→b≠it:=λb u e z=>by rw [z,hn] at e;cases e
  refine I.step (g':=s.gens) (d':=s.drawn) (ch:=[it]) (λb hb=>?_) (λb o _ _ hc e _=>k b o (λz=>hc (by simp [z])) e) (λb o _ _ hc e _=>⟨o.slots,k b o (λz=>hc (by simp [z])) e⟩) (λ_ _ _ _ n=>n)
    (λb o hc e=>⟨o,k b o (λz=>hc (by simp [z])) e⟩) (λ_ _ e=>e) (λ_ _ _ e=>e) (λb ps e=>⟨#[],by rw [e];simp⟩) (λm hm=>?_) (λb u e=>?_) I.bare
  · have e:b=it:=by simpa using hb
    subst e
    exact ⟨h1,hL,h2,h3⟩
  · obtain ⟨o,es,ep,ho,r⟩:=hm
    exact ⟨o,es,ep,k _ o (Y6 hL) ho,r⟩
  · refine (I.hok b u e).stay (λc v hc q=>k c v ?_ q) (λ_ q=>q) λ_ _ q=>q
    rcases hc with z | z
    · rw [z];exact MC b u e
    · exact MC c _ z
theorem Inv.tok (I:Inv X pins σ H s) (t':Nat) (ht:0<t':=by first | exact YJ _ | exact (Inv.os (by assumption)).2 | assumption | nofun):Inv X pins σ H {s with toks:=t'}:=I.un (h':=s.heap) (t':=t') Un.refl I.hok
theorem gR {α:Type} {M:Model} {t:Sem α} {Q:α→XX→Prop} (h:0<s.toks) (h':Ye M A t (λa s'=>0<s'.toks→Q a s') (λe s'=>0<s'.toks→E e s') s):Ye M A t Q E s:=wpAny_with_toks (n:=1) h h'
theorem Inv.kept (I:Inv X pins σ H s) (k:∀ b u,s.heap.get? b=some u→h'.get? b=some u) (ht:0<t':=by first | exact YJ _ | exact (Inv.os (by assumption)).2 | assumption | nofun):Inv X pins σ H {s with heap:=h',toks:=t'}:=I.un (Un.kept k) (I.hok.kept k)
theorem Inv.laid (I:Inv X pins σ H s) (k:∀ b u,s.heap.get? b=some u→h'.get? b=some u) (hp:s.heap.objs.size≤a) (new:dZ X.prog X.w (upd H a o) h' a o) (ht:0<t':=by first | exact YJ _ | exact (Inv.os (by assumption)).2 | assumption | nofun) :
    Inv X pins σ (upd H a o) {s with heap:=h',toks:=t'}:=I.un (Un.laid k hp (I.hok.fresh hp)) (I.hok.laid k hp new)
theorem Inv.write {x e:Addr} (I:Inv X pins σ H s) (mu:Mx (H x)) (he:e=x∨H e=some (.own x)) (k:∀ b u,b≠e→s.heap.get? b=some u→h'.get? b=some u) (Me:∃ u,h'.get? e=some u)
    (new:dZ X.prog X.w (upd H x o) h' x o) (ht:0<t':=by first | exact YJ _ | exact (Inv.os (by assumption)).2 | assumption | nofun):Inv X pins σ (upd H x o) {s with heap:=h',toks:=t'}:=I.un (Un.write mu he k Me) (I.hok.write mu he k Me new)
theorem Inv.rQ (I:Inv X pins σ H s) (h:∀ p∈gS,s.heap.get? p.1=some p.2∧H p.1=none∧p.1≠X.env.locals∧p.1∉X.fs∧∀ v,p.2.data≠.cell v):Inv X gS σ H s:=
  ⟨I.ok,I.os,I.bare,I.base,I.loc,I.cell,I.free,I.jB,λp hp=>(Zr.mp hp).elim (λz=>I.pin p (ZC _ z)) (h p),I.hok,I.len⟩
theorem ua (hN:N.Nodup) {i j:Nat} {x:Str} (a:N[i]?=some x) (b:N[j]?=some x):i=j:=by
  obtain ⟨h1,e1⟩:=XY.mp a
  obtain ⟨h2,e2⟩:=XY.mp b
  exact (Zt hN).mp (e1.trans e2.symm)
theorem qC {M:Model} {A:Around} {E:XR→XX→Prop} {Q:Unit→XX→Prop} (I:Inv X pins σ H s) (hN:X.N.Nodup) (hi:X.N[i]?=some x) (hx:Loc X.env.scope x) (r:RelV v u)
    (h:∀ s',Inv X pins (σ.set i (some v)) H s'→(∃ a,ZM a s.heap s'.heap∧(a=X.env.locals∨X.env.cells.lookup x=some a))→Q () s') (hf:X.fn x=true∨X.env.scope.names.lookup x=some .local:=by first | exact .inl rfl | exact .inr rfl | assumption):Ye M A (storeName X.env x u) Q E s:=by
  obtain ⟨m,hn,hl⟩:=id I.loc
  have hcls:(X.env.scope.kind==.class||(X.env.scope.kind==.module&&X.env.locals != X.env.globals))=false:=by rw [I.ok.kind];rfl
  have SE:i<σ.length:=by rw [I.len];exact (XY.mp hi).1
  have A4:=I.A4
  have tracked:∀ {a:Addr} {h':Heap},(∃ o,s.heap.get? a=some o∧H a=none)→ZM a s.heap h'→i8 X.prog X.w H h':=λ{a h'} ha hs b ob e=>by
    obtain ⟨_,_,hfree⟩:=ha
    refine (I.hok b ob e).stay (λc w' hc q=>(hs.2 c ?_).trans q) (λ_ q=>q) λ_ _ q=>q
    rintro rfl
    rcases hc with rfl | hc
    · rw [hfree] at e;cases e
    · rw [hfree] at hc;cases hc
  rcases hx with hk | hk
  · refine ab8 hk hn (λh' hn' hs=>?_) hcls
    obtain ⟨oL,_,_,SG,_⟩:=id hn
    refine h _ ⟨I.ok,⟨I.os.1,YJ _⟩,I.bare,⟨λb o e n hb hx=>?_,λb o e n hb hx=>?_,I.base.free,λb o e hx=>?_,I.base.tups,I.base.i9,I.base.jK⟩,⟨_,hn',λj y v' e1 e2 e3=>?_⟩,λy c e=>?_,I.free,I.jB,λp hp=>?_,tracked ⟨oL,SG,I.free⟩ hs,by simpa using I.len⟩ ⟨_,hs,.inl rfl⟩
    · exact (hs.2 b (Yg (X7 (X0 e) I.ok.above))).trans (I.base.keep b o e n hb hx)
    · obtain ⟨sl,e1⟩:=I.base.slot b o e n hb hx
      exact ⟨sl,(hs.2 b (Yg (X7 (X0 e) I.ok.above))).trans e1⟩
    · obtain ⟨o',e1⟩:=I.base.there b o e hx
      exact ⟨o',(hs.2 b (Yg (X7 (X0 e) I.ok.above))).trans e1⟩
    · by_cases hj:j=i
      · subst hj
        rw [hi] at e1;cases e1
        rw [aa0 SE] at e2
        cases e2
        exact ⟨u,r,.inl ⟨hk,by simp⟩⟩
      · rw [YD (Y6 hj)] at e2
        obtain ⟨u',r',q⟩:=hl j y v' e1 e2 e3
        refine ⟨u',r',?_⟩
        rcases q with ⟨k,e⟩ | ⟨k,c,e,z⟩
        · refine .inl ⟨k,?_⟩
          have:y≠x:=λe=>hj (ua hN e1 (e▸hi))
          simp [this,e]
        · exact .inr ⟨k,c,e,z.sameBut hs (A4 y c e)⟩
    · obtain ⟨w',z⟩:=I.cell y c e
      exact ⟨w',z.sameBut hs (A4 y c e)⟩
    · obtain ⟨e,n,ne,nf,d⟩:=I.pin p hp
      exact ⟨(hs.2 p.1 ne).trans e,n,ne,nf,d⟩
  · have hfn:X.fn x=true:=by
      rcases hf with z | z
      · exact z
      · rw [z] at hk;cases hk
    obtain ⟨c,hc⟩:=I.ok.has x (.inl hk)
    obtain ⟨w',z⟩:=I.cell x c hc
    refine wpAny_storeName_cell I.ok.kind hk hc z (λh' hc' hs=>?_)
    obtain ⟨oc,hoc,Qd⟩:=id z
    refine h {s with heap:=h'} ⟨I.ok,I.os,I.bare,⟨λb o e n hb hx=>?_,λb o e n hb hx=>?_,I.base.free,λb o e hx=>?_,I.base.tups,I.base.i9,I.base.jK⟩,⟨m,hn.sameBut hs (Y6 (A4 x c hc)),λj y v' e1 e2 e3=>?_⟩,λy c' e=>?_,I.free,I.jB,λp hp=>?_,tracked ⟨oc,hoc,(I.jB x c hc).resolve_right λz=>by rw [hfn] at z;cases z.1⟩ hs,by simpa using I.len⟩ ⟨c,hs,.inr hc⟩
    · exact (hs.2 b (Yg (X7 (X0 e) (I.ok.Mz x c hfn hc)))).trans (I.base.keep b o e n hb hx)
    · obtain ⟨sl,e1⟩:=I.base.slot b o e n hb hx
      exact ⟨sl,(hs.2 b (Yg (X7 (X0 e) (I.ok.Mz x c hfn hc)))).trans e1⟩
    · obtain ⟨o',e1⟩:=I.base.there b o e hx
      exact ⟨o',(hs.2 b (Yg (X7 (X0 e) (I.ok.Mz x c hfn hc)))).trans e1⟩
    · by_cases hj:j=i
      · subst hj
        rw [hi] at e1;cases e1
        rw [aa0 SE] at e2
        cases e2
        exact ⟨u,r,.inr ⟨.inl hk,c,hc,hc'⟩⟩
      · rw [YD (Y6 hj)] at e2
        obtain ⟨u',r',q⟩:=hl j y v' e1 e2 e3
        refine ⟨u',r',?_⟩
        rcases q with q | ⟨k,c',e,z'⟩
        · exact .inl q
        · refine .inr ⟨k,c',e,z'.sameBut hs ?_⟩
          rintro rfl
          exact hj (ua hN e1 (I.ok.inj _ _ _ e hc▸hi))
    · by_cases hcc:c'=c
      · subst hcc;exact ⟨_,hc'⟩
      · obtain ⟨w2,z2⟩:=I.cell y c' e
        exact ⟨w2,z2.sameBut hs hcc⟩
    · obtain ⟨e,n,ne,nf,d⟩:=I.pin p hp
      refine ⟨(hs.2 p.1 ?_).trans e,n,ne,nf,d⟩
      intro q
      rw [q,hoc] at e
      have q':oc=p.2:=Yu e
      exact d w' (by rw [← q'];exact Qd)
theorem n5 {M:Model} {A:Around} {E:XR→XX→Prop} {Q:Unit→XX→Prop} (I:Inv X pins σ H s) (hN:X.N.Nodup) (hi:X.N[i]?=some x) (hx:Loc X.env.scope x) (r:RelV v u)
    (h:∀ s',Inv X pins (σ.set i (some v)) H s'→Q () s') (hf:X.fn x=true∨X.env.scope.names.lookup x=some .local:=by first | exact .inl rfl | exact .inr rfl | assumption):Ye M A (storeName X.env x u) Q E s:=
  qC I hN hi hx r (λs' I' _=>h s' I') hf
theorem Inv.A5 (I:Inv X pins σ H s) (ho:s'.os=s.os∧0<s'.toks) (u:Un (frs X.stack) ch H H' s.heap s'.heap) (hok:i8 X.prog X.w H' s'.heap) (hg:AllBare s'.gens)
    (hch:∀ b∈ch,(b∈X.ex∨X.s₀.heap.objs.size≤b)∧b≠X.env.locals∧(∀ x c,X.env.cells.lookup x=some c→c≠b)∧∀ p∈X.pn++pins,p.1≠b):Inv X pins σ H' s':=by
  obtain ⟨h',g',d',t',o'⟩:=s'
  have e:o'=s.os:=ho.1
  have ht:0<t':=ho.2
  subst e
  exact I.call (g':=g') (t':=t') (d':=d') u hok hg hch
end
noncomputable abbrev XK:=XR→Option Addr→Hp→Prop
noncomputable abbrev St:=List (Option V)
variable {σ:St}
noncomputable abbrev VK:=V→Hp→Prop
noncomputable abbrev TE:=St→Hp→VK→Prop
variable {te:TE}
noncomputable abbrev TT:=St→Hp→(Bool→Hp→Prop)→Prop
variable {tc:TT}
noncomputable abbrev TA:=St→Hp→(List V→Hp→Prop)→Prop
structure Ends where
  nx:St→Hp→Prop
  rt:VK
  bk:St→Hp→Prop:=λ_ _=>False
  ct:St→Hp→Prop:=λ_ _=>False
noncomputable abbrev TS:=Ends→St→Hp→Prop
variable {tb:TS}
noncomputable def EP (X:Cx) (pins:List (Addr×Obj)) (σ:St) (Q:VK) (u:XR) (s':XX):Prop:=∃ v H',Inv X pins σ H' s'∧RelV v u∧Q v H'
noncomputable def TP (X:Cx) (pins:List (Addr×Obj)) (σ:St) (Q:Bool→Hp→Prop) (b:Bool) (s':XX):Prop:=∃ H',Inv X pins σ H' s'∧Q b H'
noncomputable def AP (X:Cx) (pins:List (Addr×Obj)) (σ:St) (Q:List V→Hp→Prop) (us:List XR) (s':XX):Prop:=∃ vs H',Inv X pins σ H' s'∧Vals vs us∧Q vs H'
noncomputable def SP (X:Cx) (pins:List (Addr×Obj)) (D:Ends) (f:Flow) (s':XX):Prop:=
  match f with
  | .next=>∃ σ' H',Inv X pins σ' H' s'∧D.nx σ' H'
  | .brk=>∃ σ' H',Inv X pins σ' H' s'∧D.bk σ' H'
  | .cont=>∃ σ' H',Inv X pins σ' H' s'∧D.ct σ' H'
  | .ret u=>∃ v σ' H',Inv X pins σ' H' s'∧RelV v u∧D.rt v H'
noncomputable def PE (X:Cx) (e:Expr) (t:TE):Prop:=
  ∀ (pins:List (Addr×Obj)) (s:XX) (σ:St) (H:Hp) (Q:VK),Inv X pins σ H s→t σ H Q→Ye (model X.prog X.w) X.A (eval e X.env) (EP X pins σ Q) X.xe s
noncomputable def PT (X:Cx) (e:Expr) (t:TT):Prop:=
  ∀ (pins:List (Addr×Obj)) (s:XX) (σ:St) (H:Hp) (Q:Bool→Hp→Prop),Inv X pins σ H s→t σ H Q→Ye (model X.prog X.w) X.A (isTrue e X.env (eval e X.env)) (TP X pins σ Q) X.xe s
noncomputable def PW (X:Cx) (e:Expr) (t:TT):Prop:=
  ∀ (whole:Sem XR) (pins:List (Addr×Obj)) (s:XX) (σ:St) (H:Hp) (Q:Bool→Hp→Prop),Inv X pins σ H s→t σ H Q→Ye (model X.prog X.w) X.A (isTrue e X.env whole) (TP X pins σ Q) X.xe s
theorem PW.pt {t:TT} (h:PW X e t):PT X e t:=h _
noncomputable def PA (X:Cx) (es:List Expr) (t:TA):Prop:=
  ∀ (pos:Pos) (pins:List (Addr×Obj)) (s:XX) (σ:St) (H:Hp) (Q:List V→Hp→Prop),Inv X pins σ H s→t σ H Q→Ye (model X.prog X.w) X.A (spliced (backTo pos (Yj es X.env))) (AP X pins σ Q) X.xe s
noncomputable def PS (X:Cx) (st:Stmt) (t:TS):Prop:=
  ∀ (pins:List (Addr×Obj)) (s:XX) (σ:St) (H:Hp) (D:Ends),Inv X pins σ H s→t D σ H→Ye (model X.prog X.w) X.A (exec st X.env) (SP X pins D) X.xe s
noncomputable def v8 (X:Cx) (st:List Stmt) (t:TS):Prop:=
  ∀ (pins:List (Addr×Obj)) (s:XX) (σ:St) (H:Hp) (D:Ends),Inv X pins σ H s→t D σ H→Ye (model X.prog X.w) X.A (execs st X.env) (SP X pins D) X.xe s
theorem cO {α:Type} {t:Sem α} {Q Q':α→XX→Prop} {M:Model} (h:Ye M A t Q E s) (hQ:∀ a s,Q a s→Q' a s):Ye M A t Q' E s:=YG h hQ λ_ _ x=>x
section
variable {X:Cx}
theorem bin {a b:Expr} {ta tb:TE} (ha:PE X a ta) (hb:PE X b tb) {pins:List (Addr×Obj)} {s:XX} {σ:St} {H:Hp} {R:V→V→Hp→Prop} (I:Inv X pins σ H s) (h:ta σ H λx H1=>tb σ H1 λy H2=>R x y H2)
    {α:Type} {Q:α→XX→Prop} {f:XR→XR→Sem α}
    (hf:∀ v u s2 x y H2,Inv X pins σ H2 s2→RelV x v→RelV y u→R x y H2→Ye (model X.prog X.w) X.A (f v u) Q X.xe s2) :
    Ye (model X.prog X.w) X.A (eval a X.env) (λv s₁=>Ye (model X.prog X.w) X.A (eval b X.env) (λu s₂=>Ye (model X.prog X.w) X.A (f v u) Q X.xe s₂) X.xe s₁) X.xe s:=by
  refine cO (ha pins s σ H _ I h) λv s1 zz=>?_
  obtain ⟨x,H1,I1,r1,q1⟩:=zz
  refine cO (hb pins s1 σ H1 _ I1 q1) λu s2 zz=>?_
  obtain ⟨y,H2,I2,r2,q2⟩:=zz
  exact hf v u s2 x y H2 I2 r1 r2 q2
noncomputable def Qe (i:Nat):TE:=λσ H Q=>∃ v,σ[i]?=some (some v)∧Q v H
noncomputable def tC (v:V):TE:=λ_ H Q=>Q v H
theorem v9 {pos:Pos} (hN:X.N[i]?=some x) (hv:A3 X.env.scope x) (hd:(x==("__debug__":Str))=false:=by decide) (hcd:(x==("__classdict__":Str))=false:=by decide):PE X (.Name x pos) (Qe i):=by
  intro pins s σ H Q I h
  obtain ⟨v,e,h⟩:=h
  obtain ⟨m,hn,hl⟩:=I.loc
  obtain ⟨u,r,l⟩:=hl i x v hN e hv
  have fin:EP X pins σ Q u s:=⟨v,H,I,r,h⟩
  rcases l with ⟨hk,hm⟩ | ⟨hk,c,hc,hcell⟩
  · exact acI (wpAny_loadName_local I.ok.kind hk hn hm fin) hd
  · rcases hk with hk | hk
    · exact acI (acw I.ok.kind hk hc hcell fin) hd
    · exact acI (wpAny_loadName_free I.ok.kind hk hc hcell fin hcd) hd
theorem Jf {i j pos}:PE X (.Constant (.int i) j pos) (tC (.int i)):=λ_ _ _ H _ I h=>acJ ⟨.int i,H,I.tok _,⟨_,rfl⟩,h⟩
theorem MD {b j pos}:PE X (.Constant (.bool b) j pos) (tC (.bl b)):=λ_ _ _ H _ I h=>Constant_bool ⟨.bl b,H,I,rfl,h⟩
theorem Jg {j pos}:PE X (.Constant .none j pos) (tC .cz):=λ_ _ _ H _ I h=>Constant_none ⟨.cz,H,I,rfl,h⟩
theorem Jh {x j pos}:PE X (.Constant (.str x) j pos) (tC (.str x)):=λ_ _ _ H _ I h=>Calls.Constant_str ⟨.str x,H,I.tok _,⟨_,rfl⟩,h⟩
noncomputable def Gl (X:Cx) (x:Str):Prop:=X.env.kindOf x=some .globalImplicit
theorem rR {E:XR→XX→Prop} {pos:Pos} (I:Inv X pins σ H s) (hg:Gl X x) (hm:X.mg x=some u) (h:Q u s)
    (hd:(x==("__debug__":Str))=false:=by decide):Ye (model X.prog X.w) X.A (eval (.Name x pos) X.env) Q E s:=
  ZP I.ok.kind hg (abL (by rw [I.ok.glob];exact I.mod.glob.keeps I.bk) hm h) hd
theorem fh {E:XR→XX→Prop} {pos:Pos} (I:Inv X pins σ H s) (hg:Gl X x) (hm:X.mg x=none) (hv:bootBuiltins x=some u) (h:Q u s)
    (hn:x≠"__name__":=by decide) (hd:(x==("__debug__":Str))=false:=by decide):Ye (model X.prog X.w) X.A (eval (.Name x pos) X.env) Q E s:=by
  obtain ⟨mb,h1,h2⟩:=I.mod.blt
  exact ZP I.ok.kind hg (abG (by rw [I.ok.glob];exact I.mod.glob.keeps I.bk) hm (by rw [I.ok.blt];exact h1.keeps I.bk) ((h2 x hn).trans hv) h) hd
theorem yc {pos:Pos} (hg:Gl X x) (hm:X.mg x=some u) (r:RelV v u) (hd:(x==("__debug__":Str))=false:=by decide):PE X (.Name x pos) (tC v):=
  λ_ _ _ H _ I h=>rR I hg hm ⟨v,H,I,r,h⟩ hd
theorem EF {pos:Pos} (hg:Gl X x) (hm:X.mg x=none) (hv:bootBuiltins x=some u) (r:RelV v u) (hn:x≠"__name__":=by decide) (hd:(x==("__debug__":Str))=false:=by decide):PE X (.Name x pos) (tC v):=
  λ_ _ _ H _ I h=>fh I hg hm hv ⟨v,H,I,r,h⟩ hn hd
variable {a b:Expr} {ta tb:TE} {pos:Pos}
variable {tA O9:TT} {rest:List Expr}
noncomputable def ME (t u:TT):TT:=λσ H Q=>t σ H λc H1=>if c=true then u σ H1 Q else Q false H1
noncomputable def SH (t u:TT):TT:=λσ H Q=>t σ H λc H1=>if c=true then Q true H1 else u σ H1 Q
noncomputable def Qf (t:TT):TT:=λσ H Q=>t σ H λc H1=>Q (!c) H1
theorem EG (ha:PT X a tA):PW X (.BoolOp .And [a] pos) tA:=by
  intro wh pins s σ H Q I h
  refine isTrue_and (cO (ha pins s σ H Q I h) λc s1 e=>?_)
  cases c with
  | true=>exact isTrue_and_nil e
  | false=>exact e
theorem Ji (ha:PT X a tA):PW X (.BoolOp .Or [a] pos) tA:=by
  intro wh pins s σ H Q I h
  refine isTrue_or (cO (ha pins s σ H Q I h) λc s1 e=>?_)
  cases c with
  | false=>exact isTrue_or_nil e
  | true=>exact e
theorem Jj (ha:PT X a tA) (hb:PW X (.BoolOp .And (b::rest) pos) O9):PW X (.BoolOp .And (a::b::rest) pos) (ME tA O9):=by
  intro wh pins s σ H Q I h
  refine isTrue_and (cO (ha pins s σ H _ I h) λc s1 zz=>?_)
  obtain ⟨H1,I1,q1⟩:=zz
  cases c with
  | true=>exact hb wh pins s1 σ H1 Q I1 q1
  | false=>exact ⟨H1,I1,q1⟩
theorem MF (ha:PT X a tA) (hb:PW X (.BoolOp .Or (b::rest) pos) O9):PW X (.BoolOp .Or (a::b::rest) pos) (SH tA O9):=by
  intro wh pins s σ H Q I h
  refine isTrue_or (cO (ha pins s σ H _ I h) λc s1 zz=>?_)
  obtain ⟨H1,I1,q1⟩:=zz
  cases c with
  | true=>exact ⟨H1,I1,q1⟩
  | false=>exact hb wh pins s1 σ H1 Q I1 q1
theorem Jk (ha:PT X a tA):PT X (.UnaryOp .Not a pos) (Qf tA):=by
  intro pins s σ H Q I h
  exact isTrue_not (ha pins s σ H (λc H1=>Q (!c) H1) I h)
noncomputable def MG (ta tb:TE):TE:=λσ H Q=>ta σ H λx H1=>∃ c,x=.bl c∧if c=true then tb σ H1 Q else Q (.bl false) H1
noncomputable def Qg (ta tb:TE):TE:=λσ H Q=>ta σ H λx H1=>∃ c,x=.bl c∧if c=true then Q (.bl true) H1 else tb σ H1 Q
noncomputable def MH (ta:TE):TE:=λσ H Q=>ta σ H λx H1=>∃ c,x=.bl c∧Q (.bl (!c)) H1
theorem Jl {op} {t:TE} (h:PE X a t):PE X (.BoolOp op [a] pos) t:=λpins s σ H Q I hw=>BoolOp_one (h pins s σ H Q I hw)
theorem Jm (ha:PE X a ta) (hb:PE X (.BoolOp .And (b::rest) pos) tb):PE X (.BoolOp .And (a::b::rest) pos) (MG ta tb):=by
  intro pins s σ H Q I h
  refine BoolOp_and (cO (ha pins s σ H _ I h) λv s1 zz=>?_)
  obtain ⟨x,H1,I1,r1,q1⟩:=zz
  obtain ⟨c,rfl,q1⟩:=q1
  cases r1
  refine Z3 ?_
  cases c with
  | true=>exact hb pins s1 σ H1 Q I1 q1
  | false=>exact ⟨.bl false,H1,I1,rfl,q1⟩
theorem MJ (ha:PE X a ta) (hb:PE X (.BoolOp .Or (b::rest) pos) tb):PE X (.BoolOp .Or (a::b::rest) pos) (Qg ta tb):=by
  intro pins s σ H Q I h
  refine BoolOp_or (cO (ha pins s σ H _ I h) λv s1 zz=>?_)
  obtain ⟨x,H1,I1,r1,q1⟩:=zz
  obtain ⟨c,rfl,q1⟩:=q1
  cases r1
  refine Z3 ?_
  cases c with
  | false=>exact hb pins s1 σ H1 Q I1 q1
  | true=>exact ⟨.bl true,H1,I1,rfl,q1⟩
theorem Jo (ha:PE X a ta):PE X (.UnaryOp .Not a pos) (MH ta):=by
  intro pins s σ H Q I h
  refine UnaryOp_ (cO (ha pins s σ H _ I h) λv s1 zz=>?_)
  obtain ⟨x,H1,I1,r1,q1⟩:=zz
  obtain ⟨c,rfl,q1⟩:=q1
  cases r1
  exact not_of (Z3 ⟨.bl (!c),H1,I1,rfl,q1⟩)
end
noncomputable def j0 (K:XU) (H:Hp) (a:Addr) (xs:List V):Prop:=
  Rd H a (.lst xs) ∨
    ∃ (o:Obj) (its:Array XR) (n:Nat),K.lookup a=some o∧o.cls=.type "list"∧o.dict=none∧o.data=.seq its n∧its.size≤XT∧Vals xs its.toList
noncomputable def kI (K:XU) (H:Hp) (a:Addr) (xs:List V):Prop:=
  Rd H a (.tup xs) ∨
    ∃ (o:Obj) (its:Array XR) (n:Nat),K.lookup a=some o∧o.cls=.type "tuple"∧o.data=.seq its n∧its.size≤XT∧Vals xs its.toList
noncomputable def Qh:XR→Option V
  | .none=>some .cz
  | .bool b=>some (.bl b)
  | .int i _=>some (.int i)
  | .str x _=>some (.str x)
  | .bytes b _=>some (.Mb b)
  | .float b _=>some (.Mc b)
  | .ref a=>some (.ref a)
  | .type n=>some (.ty n)
  | _=>none
theorem RelV.abs {x:V} (r:RelV x u):Qh u=some x:=by
  cases x with
  | cz=>cases r;rfl
  | bl _=>cases r;rfl
  | int _=>obtain ⟨t,rfl⟩:=r;rfl
  | str _=>obtain ⟨t,rfl⟩:=r;rfl
  | Mb _=>obtain ⟨t,rfl⟩:=r;rfl
  | Mc _=>obtain ⟨t,rfl⟩:=r;rfl
  | ref _=>cases r;rfl
  | ty _=>cases r;rfl
theorem RelV.inj {x:V} (r:RelV x u) (q:RelV y u):x=y:=Yu (r.abs.symm.trans q.abs)
theorem Vals.inj:∀ {xs ys:List V} {us:List XR},Vals xs us→Vals ys us→xs=ys
  | _,_,_,.nil,.nil=>rfl
  | _,_,_,.cons r t,.cons r' t'=>by rw [r.inj r',Vals.inj t t']
section
variable {X:Cx} {pins:List (Addr×Obj)} {σ:St} {H:Hp} {s:XX} {a:Addr} {xs ys:List V}
theorem j0.of (h:H a=some (.lst xs)):j0 K H a xs:=.inl (.inl h)
theorem Inv.list (I:Inv X pins σ H s) (h:j0 X.K H a xs):∃ its:List XR,Vals xs its∧PlainL s.heap a its.toArray∧xs.length≤XT:=by
  rcases h with h | ⟨o,its,n,hk,hc,hd,hs,hz,r⟩
  · obtain ⟨z,its,n,r,e⟩:=h.ok I.hok
    exact ⟨its,r,⟨_,n,e,rfl,rfl,rfl⟩,z⟩
  · refine ⟨its.toList,r,⟨o,n,I.nN a o hk,hc,hd,by simpa using hs⟩,?_⟩
    have e:=r.length
    simp only [abj] at e
    nofun
theorem Inv.tuple (I:Inv X pins σ H s) (h:kI X.K H a xs):∃ its:List XR,Vals xs its∧IsTup s.heap a its.toArray∧xs.length≤XT:=by
  rcases h with h | ⟨o,its,n,hk,hc,hs,hz,r⟩
  · obtain ⟨z,its,r,p⟩:=h.ok I.hok
    exact ⟨its,r,p,z⟩
  · refine ⟨its.toList,r,⟨o,I.nN a o hk,hc,n,by simpa using hs⟩,?_⟩
    have e:=r.length
    simp only [abj] at e
    nofun
theorem Inv.lH (I:Inv X pins σ H s) (h:j0 X.K H a xs) (h':j0 X.K H a ys):xs=ys:=by
  obtain ⟨its,r,⟨o,n,e,_,_,d⟩,_⟩:=I.list h
  obtain ⟨its',r',⟨o',n',e',_,_,d'⟩,_⟩:=I.list h'
  rw [e] at e';cases e'
  rw [d] at d'
  injection d' with d1 _
  have:its=its':=by simpa using congrArg Array.toList d1
  subst this
  exact r.inj r'
theorem Inv.l7 (I:Inv X pins σ H s) (h:kI X.K H a xs) (h':kI X.K H a ys):xs=ys:=by
  obtain ⟨its,r,⟨o,e,_,n,d⟩,_⟩:=I.tuple h
  obtain ⟨its',r',⟨o',e',_,n',d'⟩,_⟩:=I.tuple h'
  rw [e] at e';cases e'
  rw [d] at d'
  injection d' with d1 _
  have:its=its':=by simpa using congrArg Array.toList d1
  subst this
  exact r.inj r'
end
section
variable {X:Cx} {st:Stmt} {rest:List Stmt} {t u:TS} {e:Expr} {te:TE} {pos:Pos}
noncomputable def MK:TS:=λD σ H=>D.nx σ H
noncomputable def ML (t u:TS):TS:=λD σ H=>t {D with nx:=u D} σ H
theorem EH:v8 X [] MK:=λ_ _ σ H _ I h=>abd ⟨σ,H,I,h⟩
theorem A6 (h1:PS X st t) (h2:v8 X rest u):v8 X (st::rest) (ML t u):=by
  intro pins s σ H D I h
  refine aa8 (cO (h1 pins s σ H {D with nx:=u D} I h) λf s1 q=>?_)
  cases f with
  | next=>
    obtain ⟨σ',H',I',q⟩:=q
    exact h2 pins s1 σ' H' D I' q
  | ret v=>exact q
  | brk=>exact q
  | cont=>exact q
theorem EI (h1:PS X st t):v8 X [st] t:=by
  intro pins s σ H D I h
  refine aa8 (cO (h1 pins s σ H D I h) λf s1 q=>?_)
  cases f with
  | next=>exact abd q
  | ret v=>exact q
  | brk=>exact q
  | cont=>exact q
theorem Inv.quiet (I:Inv X pins σ H s):interactive X.env=false:=by simp [interactive,I.ok.kind]
noncomputable def MN (te:TE):TS:=λD σ H=>te σ H λ_ H1=>D.nx σ H1
theorem EJ (he:PE X e te) (hs:swapsWith e none pos.line X.env=pure false:=by rfl):PS X (.Expr e pos) (MN te):=by
  intro pins s σ H D I h
  exact wpAny_Expr_any (cO (he pins s σ H _ I h) λv s1 zz=>by obtain ⟨x,H1,I1,r1,q1⟩:=zz;exact ⟨σ,H1,I1,q1⟩) I.quiet hs
noncomputable def Qi (te:TE):TS:=λD σ H=>te σ H D.rt
theorem Jp (he:PE X e te):PS X (.Return (some e) pos) (Qi te):=by
  intro pins s σ H D I h
  exact acS (cO (he pins s σ H _ I h) λv s1 zz=>by obtain ⟨x,H1,I1,r1,q1⟩:=zz;exact ⟨x,σ,H1,I1,r1,q1⟩)
noncomputable def Qj (c:TT) (t u:TS):TS:=λD σ H=>c σ H λb H1=>if b=true then t D σ H1 else u D σ H1
theorem MO {a b:List Stmt} (hc:PT X c tc) (ha:v8 X a t) (hb:v8 X b u):PS X (.If c a b pos) (Qj tc t u):=by
  intro pins s σ H D I h
  refine wpAny_If (cO (hc pins s σ H _ I h) λd s1 zz=>?_)
  obtain ⟨H1,I1,q1⟩:=zz
  cases d with
  | true=>exact ha pins s1 σ H1 D I1 q1
  | false=>exact hb pins s1 σ H1 D I1 q1
end
noncomputable abbrev TG:=V→St→Hp→(St→Hp→Prop)→Prop
noncomputable abbrev Jq:=List V→St→Hp→(St→Hp→Prop)→Prop
noncomputable def PG (X:Cx) (target:Expr) (t:TG):Prop:=
  ∀ (pins:List (Addr×Obj)) (s:XX) (σ:St) (H:Hp) (v:V) (u:XR) (Q:St→Hp→Prop),Inv X pins σ H s→RelV v u→t v σ H Q →
    Ye (model X.prog X.w) X.A (assign target X.env u) (λ_ s'=>∃ σ' H',Inv X pins σ' H' s'∧Q σ' H') X.xe s
noncomputable def Pa (X:Cx) (ts:List Expr) (t:Jq):Prop:=
  ∀ (pins:List (Addr×Obj)) (s:XX) (σ:St) (H:Hp) (vs:List V) (us:List XR) (Q:St→Hp→Prop),Inv X pins σ H s→Vals vs us→t vs σ H Q →
    Ye (model X.prog X.w) X.A (assignInOrder ((assignEach ts X.env).map (·.2)) us) (λ_ s'=>∃ σ' H',Inv X pins σ' H' s'∧Q σ' H') X.xe s
noncomputable abbrev Jr:=V→V→V→Hp→(Hp→Prop)→Prop
noncomputable def MP (X:Cx) (t:Jr):Prop:=
  ∀ (pins:List (Addr×Obj)) (s:XX) (σ:St) (H:Hp) (o i v:V) (ov iv u:XR) (Q:Hp→Prop),Inv X pins σ H s→RelV o ov→RelV i iv→RelV v u→t o i v H Q →
    Ye (model X.prog X.w) X.A (setItem ov iv u) (λ_ s'=>∃ H',Inv X pins σ H' s'∧Q H') X.xe s
section
variable {X:Cx} {pos:Pos}
noncomputable def uc (i:Nat):TG:=λv σ H Q=>Q (σ.set i (some v)) H
theorem ja (hN:X.N.Nodup) (hi:X.N[i]?=some x) (hx:Loc X.env.scope x) (hf:X.fn x=true∨X.env.scope.names.lookup x=some .local:=by first | exact .inl rfl | exact .inr rfl | assumption):PG X (.Name x pos) (uc i):=by
  intro pins s σ H v u Q I r h
  exact abA (n5 I hN hi hx r (λs' I'=>⟨_,H,I',h⟩) hf)
noncomputable def Qk:Jq:=λvs σ H Q=>vs=[]∧Q σ H
noncomputable def MQ (t:TG) (u:Jq):Jq:=λvs σ H Q=>∃ v r,vs=v::r∧t v σ H λσ' H'=>u r σ' H' Q
theorem yd:Pa X [] Qk:=by
  intro pins s σ H vs us Q I r h
  obtain ⟨e,h⟩:=h
  subst e
  cases r
  exact assignInOrder_nil ⟨σ,H,I,h⟩
theorem iU {t:TG} {u:Jq} (h1:PG X e t) (h2:Pa X es u)
    (hs:(assignEach (e::es) X.env).map (·.2)=assign e X.env::(assignEach es X.env).map (·.2):=by rfl):Pa X (e::es) (MQ t u):=by
  intro pins s σ H vs us Q I r h
  obtain ⟨v,vr,e1,h⟩:=h
  subst e1
  cases r with
  | cons r rr=>
    rw [hs]
    refine assignInOrder_cons (cO (h1 pins s σ H _ _ _ I r h) λ_ s1 zz=>?_)
    obtain ⟨σ1,H1,I1,q1⟩:=zz
    exact h2 pins s1 σ1 H1 _ _ Q I1 rr q1
noncomputable def Ql (K:XU) (n:Nat) (t:Jq):TG:=λv σ H Q=>∃ a xs,v=.ref a∧kI K H a xs∧xs.length=n∧t xs σ H Q
theorem A7 {k:Nat} {t:Jq} (hc:X.calm=true) (h:Pa X es t)
    (hn:(assignEach es X.env).length=n:=by rfl) (hst:(assignEach es X.env).findIdx? (·.1)=none:=by rfl):PG X (.Tuple es k pos) (Ql X.K n t):=by
  intro pins s σ H v u Q I r hw
  obtain ⟨a,xs,e1,hq,hl,hw⟩:=hw
  subst e1
  cases r
  obtain ⟨its,rv,ht,hz⟩:=I.tuple hq
  refine assign_Tuple_tuple (I.ok.hd hc) ht (by simp [hn,← hl,rv.length]) hst λh' hx=>?_
  have I1:Inv X pins σ H {s with heap:=h'}:=I.kept (t':=s.toks) λb o e=>hx b o (Yg (X0 e)) e
  exact h pins _ σ H xs _ Q I1 (by simpa using rv) hw
noncomputable def Qm (to ti:TE) (t:Jr):TG:=λv σ H Q=>to σ H λo H1=>ti σ H1 λi H2=>t o i v H2 λH3=>Q σ H3
theorem Js {o i:Expr} {to ti:TE} {t:Jr} (ho:PE X o to) (hi:PE X i ti) (hs:MP X t)
    (ha:∀ v,assign (.Subscript o i pos) X.env v=(do
      let ov ← holding [v] (eval o X.env)
      let iv ← holding [v,ov] (eval i X.env)
      standAt pos
      holding [v,ov,iv] (setItem ov iv v)
      release [v,ov,iv] []):=by intro _;rfl):PG X (.Subscript o i pos) (Qm to ti t):=by
  intro pins s σ H v u Q I r h
  rw [ha]
  refine XS (aau (cO (ho pins s σ H _ I h) λov s1 zz=>?_))
  obtain ⟨x,H1,I1,r1,q1⟩:=zz
  refine XS (aau (cO (hi pins s1 σ H1 _ I1 q1) λiv s2 zz=>?_))
  obtain ⟨y,H2,I2,r2,q2⟩:=zz
  refine XS (acA (XS (aau (cO (hs pins s2 σ H2 x y v ov iv u _ I2 r1 r2 r q2) λ_ s3 zz=>?_))))
  obtain ⟨H3,I3,q3⟩:=zz
  exact wpAny_release ⟨σ,H3,I3,q3⟩
noncomputable def EK (te:TE) (g:TG):TS:=λD σ H=>te σ H λx H1=>g x σ H1 D.nx
theorem A8 {g:TG} (he:PE X e te) (hg:PG X tg g) (hs:swapsWithSole [tg] e pos.line X.env=pure false:=by rfl) (hw:swappedStores [tg] e X.env=pure none:=by rfl)
    (h1:(assignEach [tg] X.env).map (·.2)=[assign tg X.env]:=by rfl):PS X (.Assign [tg] e pos) (EK te g):=by
  intro pins s σ H D I h
  refine wpAny_Assign_stores (cO (he pins s σ H _ I h) λv s1 zz=>?_) hs hw
  obtain ⟨x,H1,I1,r1,q1⟩:=zz
  rw [h1]
  exact cO (hg pins s1 σ H1 x v _ I1 r1 q1) λ_ s2 q=>q
theorem Jt (hN:X.N.Nodup) (hi:X.N[i]?=some x) (hx:Loc X.env.scope x) (he:PE X e te) (hs:swapsWith e (some (.Name x pos')) pos.line X.env=pure false:=by rfl) (hf:X.fn x=true∨X.env.scope.names.lookup x=some .local:=by first | exact .inl rfl | exact .inr rfl | assumption) :
    PS X (.Assign [.Name x pos'] e pos) (EK te (uc i)):=by
  intro pins s σ H D I h
  refine acT (cO (he pins s σ H _ I h) λv s1 zz=>?_) hs
  obtain ⟨y,H1,I1,r1,q1⟩:=zz
  exact n5 I1 hN hi hx r1 (λs2 I2=>⟨_,H1,I2,q1⟩) hf
end
section
variable {X:Cx} {pos:Pos}
noncomputable def Ju (c:TT) (tb:TS):TS:=λD σ H=>∃ W:Nat→St→Hp→Prop,(∃ m,W m σ H)∧∀ m σ H,W m σ H →
  c σ H λb H1=>if b=true then ∃ N:St→Hp→Prop,(∀ σ' H',N σ' H'→∃ m',m'<m∧W m' σ' H')∧tb {D with nx:=N,ct:=N,bk:=D.nx} σ H1 else D.nx σ H1
theorem A9 (hp:PassesOwn (model X.prog X.w) X.A X.env X.xe) (hc:PT X c tc) (hb:v8 X body tb):PS X (.While c body [] pos) (Ju tc tb):=by
  intro pins s σ H D I h
  obtain ⟨W,⟨m0,w0⟩,turn⟩:=h
  refine wpAny_While (codeAny_whileLoop (λn s'=>∃ σ' H',Inv X pins σ' H' s'∧W n σ' H') ?_ m0 ⟨σ,H,I,w0⟩)
  rintro n s1 ⟨σ1,H1,I1,w1⟩
  refine ZY hp (cO (hc pins s1 σ1 H1 _ I1 (turn n σ1 H1 w1)) λb s2 zz=>?_)
  obtain ⟨H2,I2,q2⟩:=zz
  cases b with
  | true=>
    obtain ⟨N,hN,q2⟩:=q2
    rw [if_pos rfl]
    refine ZY hp (cO (hb pins s2 σ1 H2 _ I2 q2) λf s3 q3=>?_)
    cases f with
    | next=>
      obtain ⟨σ3,H3,I3,n3⟩:=q3
      obtain ⟨m',hm,w3⟩:=hN σ3 H3 n3
      exact ⟨m',hm,σ3,H3,I3,w3⟩
    | cont=>
      obtain ⟨σ3,H3,I3,n3⟩:=q3
      obtain ⟨m',hm,w3⟩:=hN σ3 H3 n3
      exact ⟨m',hm,σ3,H3,I3,w3⟩
    | brk=>exact q3
    | ret v=>exact q3
  | false=>
    rw [if_neg YH]
    exact abd ⟨σ1,H2,I2,q2⟩
end
structure It where
  go:Nat→Hp→Prop
  qE:Nat→Hp→V→Hp→Prop
  stop:Nat→Hp→Prop
noncomputable def kJ (X:Cx) (pins:List (Addr×Obj)) (H:Hp) (b:Addr):Prop:=
  H b=none∧b≠X.env.locals∧b∉X.fs∧(b∈X.ex∨X.s₀.heap.objs.size≤b)∧(∀ x c,X.env.cells.lookup x=some c→c≠b)∧∀ p∈X.pn++pins,p.1≠b
theorem Inv.l8 {H':Hp} (I:Inv X pins σ H s) (hb:s.heap.objs.size≤b) (hn:H' b=none):kJ X pins H' b:=by
  refine ⟨hn,abm (X7 I.lt hb),I.Qa hb,.inr (YV I.sz hb),λx c e z=>?_,λp hp z=>?_⟩
  · obtain ⟨v,q⟩:=I.cell x c e
    exact absurd (X7 q.lt (by rw [z];exact hb)) (YY _)
  · exact absurd (X7 (X0 (I.pin p hp).1) (by rw [z];exact hb)) (YY _)
structure Turn (P:Yw) (w:YM) (K:XU) (tg:Expr) (J:It) (fp:List Addr) (it:Addr) (tn:Nat→Heap→Prop):Prop where
  mem:it∈fp
  obj:∀ i h,tn i h→∀ b∈fp,∃ o,h.get? b=some o∧∀ v,o.data≠.cell v
  keep:∀ i h h',tn i h→(∀ b∈fp,∀ o,h.get? b=some o→h'.get? b=some o)→tn i h'
  item:∀ (X:Cx),X.prog=P→X.w=w→X.K=K→X.calm=true→∀ (i:Nat) (pins:List (Addr×Obj)) (s:XX) (σ:St) (H:Hp) (E:XR→XX→Prop),Inv X pins σ H s→(∀ b∈fp,kJ X pins H b)→tn i s.heap→J.go i H →
    Ye (model P w) X.A (pyNext (.ref it)) (λr s1=>∃ u,r=some u ∧
      Ye (model P w) X.A (letOwnedTupleGo tg (.ref it) u) (λ_ s2=>∃ x H',Inv X pins σ H' s2∧RelV x u∧J.qE i H x H'∧tn (i+1) s2.heap∧∀ b∈fp,H' b=none) E s1) E s
  done:∀ (X:Cx),X.prog=P→X.w=w→X.K=K→X.calm=true→∀ (i:Nat) (pins:List (Addr×Obj)) (s:XX) (σ:St) (H:Hp) (E:XR→XX→Prop),Inv X pins σ H s→(∀ b∈fp,kJ X pins H b)→tn i s.heap→J.stop i H →
    Ye (model P w) X.A (pyNext (.ref it)) (λr s1=>r=none∧Inv X pins σ H s1) E s
  self:∀ (A:Around) (i:Nat) (s:XX) (Q:XR→XX→Prop) (E:XR→XX→Prop),tn i s.heap→Q (.ref it) s→Ye (model P w) A (pyIter (.ref it)) Q E s
noncomputable abbrev TI:=St→Hp→(It→Hp→Prop)→Prop
noncomputable def SI (X:Cx) (pins:List (Addr×Obj)) (σ:St) (tg:Expr) (R:It→Hp→Prop) (itv:XR) (s2:XX):Prop:=
  ∃ (it:Addr) (fp:List Addr) (tn:Nat→Heap→Prop) (J:It) (H':Hp),itv=.ref it∧Inv X pins σ H' s2∧Turn X.prog X.w X.K tg J fp it tn∧tn 0 s2.heap∧(∀ b∈fp,kJ X pins H' b)∧R J H'
noncomputable def PI (X:Cx) (tg iter:Expr) (wi:TI):Prop:=
  ∀ (pins:List (Addr×Obj)) (s:XX) (σ:St) (H:Hp) (R:It→Hp→Prop),Inv X pins σ H s→wi σ H R →
    Ye (model X.prog X.w) X.A (eval iter X.env) (λv s1=>Ye (model X.prog X.w) X.A (pyIter v) (SI X pins σ tg R) X.xe s1) X.xe s
theorem n6 {M:Model} {A:Around} {E:XR→XX→Prop} {tg:Expr} {u:XR} {o:Obj} {n:String} {Q:Unit→XX→Prop} (ho:s.heap.get? it=some o) (hc:o.cls=.type n) (hd:o.data=.fields vs)
    (hn:["enumerate","zip","dict_itemiterator","dict_reverseitemiterator","odict_iterator","itertools.zip_longest","itertools.pairwise"].contains n=false) (hQ:Q () s):Ye M A (letOwnedTupleGo tg (.ref it) u) Q E s:=by
  unfold letOwnedTupleGo
  cases tg<;>first
    | exact Yc hQ
    | (cases u<;>first
        | exact Yc hQ
        | (refine XS (aaQ ho ?_)
           rw [hc,hd]
           show Ye M A (if (["enumerate","zip","dict_itemiterator","dict_reverseitemiterator","odict_iterator","itertools.zip_longest","itertools.pairwise"].contains n&&vs[0]?==some (rawInt _))=true then _ else _) Q E s
           rw [if_neg (by intro h;rw [hn,Bool.false_and] at h;cases h)]
           exact Yc hQ))
noncomputable def Eo (K:XU) (a:Addr):It:=
  ⟨λi H=>∃ xs x,j0 K H a xs∧xs[i]?=some x,λi H x H'=>H'=H∧∀ xs,j0 K H a xs→xs[i]?=some x,λi H=>∃ xs,j0 K H a xs∧xs.length≤i⟩
noncomputable def Pb (K:XU) (a:Addr):It:=
  ⟨λi H=>∃ xs x,kI K H a xs∧xs[i]?=some x,λi H x H'=>H'=H∧∀ xs,kI K H a xs→xs[i]?=some x,λi H=>∃ xs,kI K H a xs∧xs.length≤i⟩
noncomputable def rS (lo:Int) (n:Nat):It:=⟨λi _=>i<n,λi H x H'=>H'=H∧x=.int (lo+i),λi _=>n≤i⟩
theorem zl (a it:Addr):Turn P w K tg (Eo K a) [it] it (λi h=>h.IsListIter it a i) where
  mem:=by simp
  obj:=λi h st b hb=>by
    have e:b=it:=by simpa using hb
    subst e
    obtain ⟨o,e,c,d⟩:=st
    exact ⟨o,e,λv z=>by rw [d] at z;cases z⟩
  keep:=λi h h' st k=>st.at λo e=>k it (by simp) o e
  item:=by
    intro X hP hw hK hc i pins s σ H E I hf st hg
    subst hP hw hK
    obtain ⟨xs,x,hq,hx⟩:=hg
    obtain ⟨its,rv,p,hz⟩:=I.list hq
    obtain ⟨u,hu,ru⟩:=rv.get hx
    obtain ⟨f0,f1,f2,f3,f4,f5⟩:=hf it (by simp)
    refine wpAny_pyNext_list_item st p.isList (x:=u) (by simpa using hu) λh' st' sb=>?_
    have I1:Inv X pins σ H {s with heap:=h'}:=I.turned (t':=s.toks) (λb o hb e=>(sb.2 b hb).trans e) f0 f1 f3 f4 f5
    obtain ⟨o,e,c,d⟩:=id st'
    exact ⟨u,rfl,n6 (s:={s with heap:=h'}) e c d (by decide) ⟨x,H,I1,ru,⟨rfl,λys hy=>by rw [I.lH hy hq];exact hx⟩,st',λb hb=>(hf b hb).1⟩⟩
  done:=by
    intro X hP hw hK hc i pins s σ H E I hf st hg
    subst hP hw hK
    obtain ⟨xs,hq,hx⟩:=hg
    obtain ⟨its,rv,p,hz⟩:=I.list hq
    obtain ⟨f0,f1,f2,f3,f4,f5⟩:=hf it (by simp)
    have hl:=rv.length
    exact wpAny_pyNext_list_end (I.ok.hd hc) st p.isList (by simp;nofun) λh' eb=>⟨rfl,I.turned (t':=s.toks) (λb o hb e=>eb b o hb e) f0 f1 f3 f4 f5⟩
  self:=λ_ _ _ _ _ st h=>wpAny_pyIter_listiter st h
theorem wc (a it:Addr):Turn P w K tg (Pb K a) [it] it (λi h=>h.IsTupleIter it a i) where
  mem:=by simp
  obj:=λi h st b hb=>by
    have e:b=it:=by simpa using hb
    subst e
    obtain ⟨o,e,c,d⟩:=st
    exact ⟨o,e,λv z=>by rw [d] at z;cases z⟩
  keep:=λi h h' st k=>st.at λo e=>k it (by simp) o e
  item:=by
    intro X hP hw hK hc i pins s σ H E I hf st hg
    subst hP hw hK
    obtain ⟨xs,x,hq,hx⟩:=hg
    obtain ⟨its,rv,p,hz⟩:=I.tuple hq
    obtain ⟨u,hu,ru⟩:=rv.get hx
    obtain ⟨f0,f1,f2,f3,f4,f5⟩:=hf it (by simp)
    refine wpAny_pyNext_tuple_item st (show s.heap.IsTuple a its.toArray from p) (x:=u) (by simpa using hu) λh' st' sb=>?_
    have I1:Inv X pins σ H {s with heap:=h'}:=I.turned (t':=s.toks) (λb o hb e=>(sb.2 b hb).trans e) f0 f1 f3 f4 f5
    obtain ⟨o,e,c,d⟩:=id st'
    exact ⟨u,rfl,n6 (s:={s with heap:=h'}) e c d (by decide) ⟨x,H,I1,ru,⟨rfl,λys hy=>by rw [I.l7 hy hq];exact hx⟩,st',λb hb=>(hf b hb).1⟩⟩
  done:=by
    intro X hP hw hK hc i pins s σ H E I hf st hg
    subst hP hw hK
    obtain ⟨xs,hq,hx⟩:=hg
    obtain ⟨its,rv,p,hz⟩:=I.tuple hq
    obtain ⟨f0,f1,f2,f3,f4,f5⟩:=hf it (by simp)
    have hl:=rv.length
    exact wpAny_pyNext_tuple_end (I.ok.hd hc) st (show s.heap.IsTuple a its.toArray from p) (by simp;nofun) λh' eb=>⟨rfl,I.turned (t':=s.toks) (λb o hb e=>eb b o hb e) f0 f1 f3 f4 f5⟩
  self:=λ_ _ _ _ _ st h=>wpAny_pyIter_tupleiter st h
theorem we (it:Addr) (lo:Int) (n:Nat):Turn P w K tg (rS lo n) [it] it (λi h=>IsRangeIter h it (lo+(i:Nat)*1) ((n:Int) - (i:Nat)) 1) where
  mem:=by simp
  obj:=λi h st b hb=>by
    have e:b=it:=by simpa using hb
    subst e
    exact ⟨_,st,λv z=>by
      have z':Data.fields _=Data.cell v:=z
      cases z'⟩
  keep:=λi h h' st k=>k it (by simp) _ st
  item:=by
    intro X hP hw hK hc i pins s σ H E I hf st hg
    subst hP hw hK
    obtain ⟨f0,f1,f2,f3,f4,f5⟩:=hf it (by simp)
    have W:=Walks.range (prog:=X.prog) (w:=X.w) (I.ok.hd hc) it lo 1 n
    refine gR I.os.2 (W.item i s _ _ hg st λv h' tk hv st' kk=>λht=>?_)
    obtain ⟨t,rfl⟩:=hv
    have I1:Inv X pins σ H {s with heap:=h',toks:=tk}:=I.turned (λb o hb e=>kk b o (by simpa using hb) e) f0 f1 f3 f4 f5
    refine ⟨_,rfl,n6 (s:={s with heap:=h',toks:=tk}) (n:="range_iterator") st' rfl rfl (by decide) ⟨.int (lo+i),H,I1,⟨t,?_⟩,⟨rfl,rfl⟩,st',λb hb=>(hf b hb).1⟩⟩
    rw [Int.mul_one]
  done:=by
    intro X hP hw hK hc i pins s σ H E I hf st hg
    subst hP hw hK
    obtain ⟨f0,f1,f2,f3,f4,f5⟩:=hf it (by simp)
    exact abY (I.ok.hd hc) st (by have:n≤i:=hg;nofun) λh' eb=>⟨rfl,I.turned (t':=s.toks) (λb o hb e=>eb b o hb e) f0 f1 f3 f4 f5⟩
  self:=λ_ _ _ _ _ st h=>abZ st h
section
variable {X:Cx} {tg:Expr}
theorem Ba {R:It→Hp→Prop} {E:XR→XX→Prop} {t u v:Tok} (I:Inv X pins σ H s) (h1:-(2^62)≤lo) (h2:lo<2^62) (h3:-(2^62)≤hi) (h4:hi<2^62)
    (q:R (rS lo (hi - lo).toNat) H) (ht:0<tk:=by first | exact YJ _ | exact (Inv.os (by assumption)).2 | assumption | nofun):Ye (model X.prog X.w) X.A (pyIter (.ref s.heap.objs.size)) (SI X pins σ tg R) E {s with heap:=s.heap.push {cls:=.type "range",data:=.fields #[.int lo t,.int hi u,.int 1 v]},toks:=tk}:=by
  refine acK (IsRange.new ..) (small_one h1 h2 h3 h4) ?_
  have I1:Inv X pins σ H {s with heap:=s.heap.push {cls:=.type "range",data:=.fields #[.int lo t,.int hi u,.int 1 v]},toks:=tk}:=I.kept λb o e=>XW _ e
  refine ⟨(s.heap.push {cls:=.type "range",data:=.fields #[.int lo t,.int hi u,.int 1 v]}).objs.size,[(s.heap.push {cls:=.type "range",data:=.fields #[.int lo t,.int hi u,.int 1 v]}).objs.size],_,_,H,rfl,
    I1.kept (t':=tk) λb o e=>XW _ e,we _ lo (hi - lo).toNat,?_,λb hb=>?_,q⟩
  · have e1:lo+((0:Nat):Int)*1=lo:=by simp
    have e2:(((hi - lo).toNat:Nat):Int) - ((0:Nat):Int)=ZG lo hi 1:=by rw [rangeSize_one];split<;>nofun
    show IsRangeIter _ _ (lo+((0:Nat):Int)*1) ((((hi - lo).toNat:Nat):Int) - ((0:Nat):Int)) 1
    rw [e1,e2]
    exact X6 _ rfl
  · have e:b=(s.heap.push {cls:=.type "range",data:=.fields #[.int lo t,.int hi u,.int 1 v]}).objs.size:=by simpa using hb
    subst e
    exact I1.l8 (X3 _) (I1.hok.fresh (X3 _))
noncomputable def HU (ta:TA):TI:=λσ H R=>ta σ H λvs H1=>∃ j:Int,vs=[.int j]∧-(2^62)≤j∧j<2^62∧R (rS 0 j.toNat) H1
theorem l9 {a:Expr} {ta:TA} {p:Pos} (hg:Gl X "range") (hm:X.mg "range"=none) (ha:PA X [a] ta) (hs:Yj [a] X.env=[(false,eval a X.env)]:=by rfl):PI X tg (.Call (.Name "range" p) [a] [] pos) (HU ta):=by
  intro pins s σ H R I h
  refine Call_ (fh I hg hm boot_range (Yr (cO (ha pos pins s σ H _ I h) λus s1 zz=>?_) hs rfl))
  obtain ⟨vs,H1,I1,r1,q1⟩:=zz
  obtain ⟨j,e,q1,q2,q⟩:=q1
  subst e
  cases r1 with
  | cons r rr=>
    cases rr
    obtain ⟨t,rfl⟩:=r
    exact call_range_1 (Ba I1 (by nofun) (by nofun) q1 q2 (by simpa using q))
noncomputable def Qn (wi:TI) (g:TG) (tb:TS):TS:=λD σ H=>wi σ H λJ H1=>∃ W:Nat→Nat→St→Hp→Prop,(∃ m,W 0 m σ H1)∧∀ i m σ H,W i m σ H →
  (J.stop i H∧D.nx σ H)∨(J.go i H∧∃ N:St→Hp→Prop,(∀ σ' H',N σ' H'→∃ m',m'<m∧W (i+1) m' σ' H')∧∀ x H',J.qE i H x H'→g x σ H' λσ2 H2=>tb {D with nx:=N,ct:=N,bk:=D.nx} σ2 H2)
noncomputable def mj (fp:List Addr) (h:Heap):List (Addr×Obj):=fp.filterMap λb=>(h.get? b).map λo=>(b,o)
theorem jb {o:Obj} (hb:b∈fp) (e:h.get? b=some o):(b,o)∈mj fp h:=abt.mpr ⟨b,hb,by rw [e];rfl⟩
theorem zm (hp:p∈mj fp h):p.1∈fp∧h.get? p.1=some p.2:=by
  obtain ⟨b,hb,e⟩:=abt.mp hp
  cases q:h.get? b with
  | none=>rw [q] at e;cases e
  | some o=>
    rw [q] at e
    have e':(b,o)=p:=Yu e
    subst e'
    exact ⟨hb,q⟩
theorem Inv.pinned (I:Inv X pins σ H s) (hf:∀ b∈fp,kJ X pins H b) (ho:∀ b∈fp,∃ o,s.heap.get? b=some o∧∀ v,o.data≠.cell v):Inv X (pins++mj fp s.heap) σ H s:=
  I.rQ λp hp=>(Zr.mp hp).elim (λz=>I.pin p (Y5 _ z)) λz=>by
    obtain ⟨hb,e⟩:=zm z
    obtain ⟨f0,f1,f2,_⟩:=hf p.1 hb
    obtain ⟨o,e',d⟩:=ho p.1 hb
    rw [e] at e';cases e'
    exact ⟨e,f0,f1,f2,d⟩
theorem Inv.n8 {pl:List (Addr×Obj)} (I:Inv X (pins++pl) σ H s):Inv X pins σ H s:=I.rQ λp hp=>I.pin p (Y5 _ (ZC _ hp))
theorem wg {iter:Expr} {wi:TI} {g:TG} {pos:Pos} (hp:PassesOwn (model X.prog X.w) X.A X.env X.xe) (hc:X.calm=true) (hi:PI X tg iter wi) (hg:PG X tg g) (hb:v8 X body tb)
    (hs:∀ x,foldedSetIterable iter X.env x=pure x:=by intro _;rfl):PS X (.For tg iter body [] pos) (Qn wi g tb):=by
  intro pins s σ H D I h
  refine wpAny_For (cO (hi pins s σ H _ I h) λv s1 h1=>cO h1 λitv s2 h2=>?_) hs
  obtain ⟨it,fp,tn,J,H2,e,I2,T,st2,f2,W,⟨m0,w0⟩,turn⟩:=h2
  subst e
  have Jv:∀ {H':Hp},(∀ b∈fp,H' b=none)→∀ b∈fp,kJ X pins H' b:=λhn b hb=>⟨hn b hb,(f2 b hb).2⟩
  refine codeAny_forLoop_any (λn s'=>∃ i σ' H',Inv X pins σ' H' s'∧tn i s'.heap∧(∀ b∈fp,H' b=none)∧W i n σ' H') ?_ m0 ⟨0,σ,H2,I2,st2,λb hb=>(f2 b hb).1,w0⟩
  rintro n s3 ⟨i,σ3,H3,I3,st3,SJ,w3⟩
  rcases turn i n σ3 H3 w3 with ⟨stop,qn⟩ | ⟨go,N,hN,step⟩
  · refine ZY hp (cO (T.done X rfl rfl rfl hc i pins s3 σ3 H3 X.xe I3 (Jv SJ) st3 stop) λr s4 zz=>?_)
    obtain ⟨hr,I4⟩:=zz
    subst hr
    exact abd ⟨σ3,H3,I4,qn⟩
  · refine ZY hp (cO (T.item X rfl rfl rfl hc i pins s3 σ3 H3 X.xe I3 (Jv SJ) st3 go) λr s4 zz=>?_)
    obtain ⟨u,hr,h4⟩:=zz
    subst hr
    refine ZY hp (cO h4 λ_ s5 zz=>?_)
    obtain ⟨x,H5,I5,r5,y5,Mf,Pc⟩:=zz
    have Um:=I5.pinned (Jv Pc) (T.obj _ _ Mf)
    refine ZY hp (cO (hg _ s5 σ3 H5 x u _ Um r5 (step x H5 y5)) λ_ s6 zz=>?_)
    obtain ⟨σ6,H6,I6,q6⟩:=zz
    refine ZY hp (cO (hb _ s6 σ6 H6 _ I6 q6) λf s7 q7=>?_)
    have again:∀ {σ7:St} {H7:Hp},Inv X (pins++mj fp s5.heap) σ7 H7 s7→N σ7 H7→∃ m,m<n∧∃ i σ' H',Inv X pins σ' H' s7∧tn i s7.heap∧(∀ b∈fp,H' b=none)∧W i m σ' H':=λ{σ7 H7} I7 n7=>by
      obtain ⟨m',hm,w7⟩:=hN σ7 H7 n7
      refine ⟨m',hm,i+1,σ7,H7,I7.n8,T.keep _ _ _ Mf λb hb o e=>(I7.pin (b,o) (Y5 _ (Y5 _ (jb hb e)))).1,λb hb=>?_,w7⟩
      obtain ⟨o,e,d⟩:=T.obj _ _ Mf b hb
      exact (I7.pin (b,o) (Y5 _ (Y5 _ (jb hb e)))).2.1
    cases f with
    | next=>obtain ⟨σ7,H7,I7,n7⟩:=q7;exact again I7 n7
    | cont=>obtain ⟨σ7,H7,I7,n7⟩:=q7;exact again I7 n7
    | brk=>obtain ⟨σ7,H7,I7,q7⟩:=q7;exact ⟨σ7,H7,I7.n8,q7⟩
    | ret v=>obtain ⟨x7,σ7,H7,I7,r7,q7⟩:=q7;exact ⟨x7,σ7,H7,I7.n8,r7,q7⟩
end
noncomputable abbrev R2:=V→V→Hp→VK→Prop
variable {r:R2}
noncomputable def ia (X:Cx) (f:XR→XR→Sem XR) (r:R2):Prop:=
  ∀ (pins:List (Addr×Obj)) (s:XX) (σ:St) (H:Hp) (x y:V) (v u:XR) (Q:VK),Inv X pins σ H s→RelV x v→RelV y u→r x y H Q →
    Ye (model X.prog X.w) X.A (f v u) (EP X pins σ Q) X.xe s
noncomputable def Qo (X:Cx) (f:XR→Sem XR) (r:V→Hp→VK→Prop):Prop:=
  ∀ (pins:List (Addr×Obj)) (s:XX) (σ:St) (H:Hp) (x:V) (v:XR) (Q:VK),Inv X pins σ H s→RelV x v→r x H Q →
    Ye (model X.prog X.w) X.A (f v) (EP X pins σ Q) X.xe s
noncomputable def cV (X:Cx) (f:XR) (r:List V→Hp→VK→Prop):Prop:=
  ∀ (pins:List (Addr×Obj)) (s:XX) (σ:St) (H:Hp) (xs:List V) (us:List XR) (Q:VK),Inv X pins σ H s→Vals xs us→r xs H Q →
    Ye (model X.prog X.w) X.A (call f us) (EP X pins σ Q) X.xe s
noncomputable def Qp (X:Cx) (r:V→Hp→(Bool→Hp→Prop)→Prop):Prop:=
  ∀ (pins:List (Addr×Obj)) (s:XX) (σ:St) (H:Hp) (x:V) (v:XR) (Q:Bool→Hp→Prop),Inv X pins σ H s→RelV x v→r x H Q →
    Ye (model X.prog X.w) X.A (truthy v) (TP X pins σ Q) X.xe s
noncomputable def MR (r:R2) (ta tb:TE):TE:=λσ H Q=>ta σ H λx H1=>tb σ H1 λy H2=>r x y H2 Q
noncomputable def Uo (r:V→Hp→VK→Prop) (ta:TE):TE:=λσ H Q=>ta σ H λx H1=>r x H1 Q
noncomputable def rI (C:Int→Int→Prop) (g:Int→Int→V):R2:=λx y H Q=>∃ i j,x=.int i∧y=.int j∧C i j∧Q (g i j) H
noncomputable def Bb (g:Int→Int→V):R2:=λx y H Q=>∃ i j,x=.int i∧y=.int j∧Q (g i j) H
noncomputable def rU (g:Int→V):V→Hp→VK→Prop:=λx H Q=>∃ i,x=.int i∧Q (g i) H
section
variable {X:Cx} {a b c:Expr} {ta tb tc:TE} {pos:Pos}
theorem Jw (ha:PE X a ta) (hb:PE X b tb) {pins:List (Addr×Obj)} {s:XX} {σ:St} {H:Hp} {R:V→V→Hp→Prop} (I:Inv X pins σ H s)
    (h:ta σ H λx H1=>tb σ H1 λy H2=>R x y H2) {Q:XR→XX→Prop} {f:XR→XR→Sem XR}
    (hf:∀ v u s2 x y H2,Inv X pins σ H2 s2→RelV x v→RelV y u→R x y H2→Ye (model X.prog X.w) X.A (f v u) Q X.xe s2) :
    Ye (model X.prog X.w) X.A (eval a X.env) (λv s₁=>Ye (model X.prog X.w) X.A (eval b X.env) (λu s₂=>Ye (model X.prog X.w) X.A (f v u) Q X.xe s₂) X.xe s₁) X.xe s:=by
  refine cO (ha pins s σ H _ I h) λv s1 zz=>?_
  obtain ⟨x,H1,I1,r1,q1⟩:=zz
  refine cO (hb pins s1 σ H1 _ I1 q1) λu s2 zz=>?_
  obtain ⟨y,H2,I2,r2,q2⟩:=zz
  exact hf v u s2 x y H2 I2 r1 r2 q2
theorem MT {op:Operator} (ho:ia X (binaryOp op) r) (ha:PE X a ta) (hb:PE X b tb):PE X (.BinOp a op b pos) (MR r ta tb):=by
  intro pins s σ H Q I h
  exact wpAny_BinOp (Jw ha hb I h λv u s2 x y H2 I2 rx ry q=>ho pins s2 σ H2 x y v u Q I2 rx ry q)
theorem MU {op:UnaryOp} {r:V→Hp→VK→Prop} (ho:Qo X (unaryOp op) r) (ha:PE X a ta):PE X (.UnaryOp op a pos) (Uo r ta):=by
  intro pins s σ H Q I h
  exact UnaryOp_ (cO (ha pins s σ H _ I h) λv s1 zz=>by obtain ⟨x,H1,I1,r1,q1⟩:=zz;exact ho pins s1 σ H1 x v Q I1 r1 q1)
theorem Jx {f:XR→XR→Sem XR} {C:Int→Int→Prop}
    (rule:∀ (i j:Int) (t u:Tok) (s:XX) (Q:XR→XX→Prop) (E:XR→XX→Prop),C i j→Q (.int (g i j) s.toks) {s with toks:=s.toks+1}→Ye (model X.prog X.w) X.A (f (.int i t) (.int j u)) Q E s) :
    ia X f (rI C λi j=>.int (g i j)):=by
  intro pins s σ H x y v u Q I rx ry h
  obtain ⟨i,j,rfl,rfl,hc,q⟩:=h
  obtain ⟨t,rfl⟩:=rx
  obtain ⟨t',rfl⟩:=ry
  exact rule i j t t' s _ _ hc ⟨.int (g i j),H,I.tok _,⟨_,rfl⟩,q⟩
theorem Bc {f:XR→XR→Sem XR}
    (rule:∀ (i j:Int) (t u:Tok) (s:XX) (Q:XR→XX→Prop) (E:XR→XX→Prop),Q (.int (g i j) s.toks) {s with toks:=s.toks+1}→Ye (model X.prog X.w) X.A (f (.int i t) (.int j u)) Q E s) :
    ia X f (Bb λi j=>.int (g i j)):=by
  intro pins s σ H x y v u Q I rx ry h
  obtain ⟨i,j,rfl,rfl,q⟩:=h
  obtain ⟨t,rfl⟩:=rx
  obtain ⟨t',rfl⟩:=ry
  exact rule i j t t' s _ _ ⟨.int (g i j),H,I.tok _,⟨_,rfl⟩,q⟩
theorem Jy {g:Int→Int→Bool}
    (rule:∀ (i j:Int) (t u:Tok) (s:XX) (Q:XR→XX→Prop) (E:XR→XX→Prop),Q (.bool (g i j)) s→Ye (model X.prog X.w) X.A (f (.int i t) (.int j u)) Q E s) :
    ia X f (Bb λi j=>.bl (g i j)):=by
  intro pins s σ H x y v u Q I rx ry h
  obtain ⟨i,j,rfl,rfl,q⟩:=h
  obtain ⟨t,rfl⟩:=rx
  obtain ⟨t',rfl⟩:=ry
  exact rule i j t t' s _ _ ⟨.bl (g i j),H,I,rfl,q⟩
noncomputable def Qq (i j:Int):Prop:=0<j∧j<1073741824
noncomputable def EL (i j:Int):Prop:=0≤j∧j≤1000000∧i.natAbs<2^64
noncomputable def Jz (i j:Int):Prop:=(-(2^64)<i∧i<2^64)∨(-(2^64)<j∧j<2^64)
theorem Jz.ok {i j:Int} (h:Jz i j):IntMulOk i j:=by
  rcases h with ⟨h1,h2⟩ | ⟨h1,h2⟩
  · exact .of_left (intBits_le_64 h1 h2)
  · exact .of_right (intBits_le_64 h1 h2)
theorem wj (k:Nat):(0:Int)≤2^k:=by
  rw [two_pow_cast]
  exact Int.natCast_nonneg _
theorem JA:ia X (binaryOp .Add) (Bb λi j=>.int (i+j)):=Bc λ_ _ _ _ _ _ _ q=>add_int q
theorem JB:ia X (binaryOp .Sub) (Bb λi j=>.int (i - j)):=Bc λ_ _ _ _ _ _ _ q=>sub_int q
theorem JC:ia X (binaryOp .Mult) (rI Jz λi j=>.int (i*j)):=Jx λ_ _ _ _ _ _ _ hc q=>mul_int q hc.ok
theorem EM:ia X (binaryOp .FloorDiv) (rI Qq λi j=>.int (i / j)):=Jx λi j _ _ _ _ _ hc q=>by
  have h1:(0:Int)<j:=hc.1
  have h2:j<1073741824:=hc.2
  exact floordiv_int (by nofun) (by rw [aaz i (by nofun)];exact q) (.inl (ab0 (by nofun)))
theorem JD:ia X (binaryOp .Mod) (rI (λ_ j=>0<j) λi j=>.int (i % j)):=Jx λi j _ _ _ _ _ hc q=>by
  have h1:(0:Int)<j:=hc
  exact mod_int' (by nofun) (by rw [Int.fmod_eq_emod_of_nonneg i (by nofun)];exact q)
theorem JE:ia X (binaryOp .Pow) (rI EL λi j=>.int (i^j.toNat)):=Jx λ_ _ _ _ _ _ _ hc q=>pow_int_small hc.1 hc.2.1 hc.2.2 q
theorem JF:ia X (binaryOp .LShift) (rI EL λi j=>.int (i*2^j.toNat)):=Jx λ_ _ _ _ _ _ _ hc q=>lshift_int_small hc.1 hc.2.1 hc.2.2 q
theorem JG:ia X (binaryOp .RShift) (rI (λ_ j=>0≤j) λi j=>.int (i / 2^j.toNat)):=Jx λi j _ _ _ _ _ hc q=>
  rshift_int hc (by rw [aaz i (wj _)];exact q)
theorem JH:ia X (binaryOp .BitAnd) (Bb λi j=>.int (YO i j)):=Bc λ_ _ _ _ _ _ _ q=>and_int q
theorem MV:ia X (binaryOp .BitOr) (Bb λi j=>.int (YQ i j)):=Bc λ_ _ _ _ _ _ _ q=>or_int q
theorem JI:ia X (binaryOp .BitXor) (Bb λi j=>.int (ZD i j)):=Bc λ_ _ _ _ _ _ _ q=>xor_int q
theorem Up {f:XR→Sem XR} {g:Int→Int}
    (rule:∀ (i:Int) (t:Tok) (s:XX) (Q:XR→XX→Prop) (E:XR→XX→Prop),Q (.int (g i) s.toks) {s with toks:=s.toks+1}→Ye (model X.prog X.w) X.A (f (.int i t)) Q E s) :
    Qo X f (rU λi=>.int (g i)):=by
  intro pins s σ H x v Q I rx h
  obtain ⟨i,rfl,q⟩:=h
  obtain ⟨t,rfl⟩:=rx
  exact rule i t s _ _ ⟨.int (g i),H,I.tok _,⟨_,rfl⟩,q⟩
theorem JJ:Qo X (unaryOp .USub) (rU λi=>.int (-i)):=Up λ_ _ _ _ _ q=>neg_int q
end
section
variable {X:Cx} {a b c:Expr} {ta tb tc:TE} {pos:Pos}
theorem Bd {Q:VK} {k:Bool} (I:Inv X pins σ H s) (q:Q (.bl k) H) (e:k=k'):EP X pins σ Q (.bool k') s:=by
  subst e
  exact ⟨.bl k,H,I,rfl,q⟩
theorem MW:ia X (compareOp .Lt) (Bb λi j=>.bl (decide (i<j))):=Jy λ_ _ _ _ _ _ _ q=>lt_int q
theorem HV:ia X (compareOp .Gt) (Bb λi j=>.bl (decide (j<i))):=Jy λ_ _ _ _ _ _ _ q=>gt_int q
theorem MX:ia X (compareOp .GtE) (Bb λi j=>.bl (decide (j≤i))):=Jy λ_ _ _ _ _ _ _ q=>ge_int q
theorem zo:ia X (compareOp .In) (λx y H Q=>∃ i j,x=.str i∧y=.str j∧Q (.bl (!(abM j i 0 j.length 1).isEmpty)) H):=by
  intro pins s σ H x y v u Q I rx ry h
  obtain ⟨i,j,rfl,rfl,q⟩:=h
  obtain ⟨t,rfl⟩:=rx
  obtain ⟨t',rfl⟩:=ry
  exact in_str (Bd I q rfl)
theorem EN:ia X (compareOp .IsNot) (λx y H Q=>y=.cz∧Q (.bl (!decide (x=.cz))) H):=by
  intro pins s σ H x y v u Q I rx ry h
  obtain ⟨rfl,q⟩:=h
  cases ry
  refine isnot_none_gen (Bd I q ?_)
  cases x<;>first
    | (cases rx;rfl)
    | (obtain ⟨t,rfl⟩:=rx;rfl)
theorem ia.or {r':R2} (h:ia X f r) (h':ia X f r'):ia X f (λx y H Q=>r x y H Q∨r' x y H Q):=by
  intro pins s σ H x y v u Q I rx ry q
  rcases q with q | q
  · exact h pins s σ H x y v u Q I rx ry q
  · exact h' pins s σ H x y v u Q I rx ry q
theorem Be (b:Expr) {op:CmpOp} (h:op≠.In:=by decide) (h2:op≠.NotIn:=by decide):behindInMarks op b=false:=by
  have e1:(op==CmpOp.In)=false:=by cases op<;>first | rfl | exact absurd rfl h
  have e2:(op==CmpOp.NotIn)=false:=by cases op<;>first | rfl | exact absurd rfl h2
  cases b<;>simp [behindInMarks,e1,e2]
theorem EO (ho:ia X (compareOp op) r) (ha:PE X a ta) (hb:PE X b tb) (hm:behindInMarks op b=false):PE X (.Compare a [op] [b] pos) (MR r ta tb):=by
  intro pins s σ H Q I h
  exact wpAny_Compare1 (Jw ha hb I h λv u s2 x y H2 I2 rx ry q=>ho pins s2 σ H2 x y v u Q I2 rx ry q) hm
noncomputable def MY (t:TE):TT:=λσ H Q=>t σ H λx H'=>∃ k,x=.bl k∧Q k H'
theorem ER (ho:ia X (compareOp op) r) (ha:PE X a ta) (hb:PE X b tb) (hm:behindInMarks op b=false):PT X (.Compare a [op] [b] pos) (MY (MR r ta tb)):=by
  intro pins s σ H Q I h
  refine wpAny_isTrue_Compare1 (cO (ha pins s σ H _ I h) λv s1 ⟨x,H1,I1,r1,q1⟩=>cO (hb pins s1 σ H1 _ I1 q1) λu s2 ⟨y,H2,I2,r2,q2⟩=>
    cO (ho pins s2 σ H2 x y v u _ I2 r1 r2 q2) λc s3 ⟨z,H3,I3,r3,k,e,q3⟩=>?_) hm
  subst e
  cases r3
  exact Z3 ⟨H3,I3,q3⟩
noncomputable def JK (K:XU) (x:V) (H:Hp) (k:Bool):Prop:=
  match x with
  | .cz=>k=false
  | .bl b=>k=b
  | .int i=>k=(i != 0)
  | .str y=>y.length≤XT∧k=((y.length:Int) != 0)
  | .Mb y=>y.size≤XT∧k=((y.size:Int) != 0)
  | .ref p=>(∃ xs,j0 K H p xs∧k=!xs.isEmpty)∨(∃ xs,kI K H p xs∧k=!xs.isEmpty)∨∃ kvs,H p=some (.dK kvs)∧k=!kvs.isEmpty
  | _=>False
theorem wk {κ:Type} {kvs:List (κ×V)} {vs:List (κ×XR)} (r:KV kvs vs):(!vs.isEmpty)=!kvs.isEmpty:=by
  cases r<;>rfl
theorem n9 (r:Vals xs its):(!its.toArray.isEmpty)=!xs.isEmpty:=by
  cases r<;>simp
theorem kK:(XT:Nat)<2^63:=by rw [sizeLine_eq];decide
theorem JL:Qp X (λx H Q=>∃ k,JK X.K x H k∧Q k H):=by
  intro pins s σ H x v Q I rx h
  obtain ⟨k,e,q⟩:=h
  have hl:=kK
  have hs:XT=16777216:=sizeLine_eq
  cases x with
  | cz=>
    cases rx
    have e':k=false:=e
    subst e'
    exact truthy_none ⟨H,I,q⟩
  | bl b=>
    cases rx
    have e':k=b:=e
    subst e'
    exact Z3 ⟨H,I,q⟩
  | int i=>
    obtain ⟨t,rfl⟩:=rx
    have e':k=(i != 0):=e
    subst e'
    exact PySem.P.truthy_int ⟨H,I,q⟩
  | str y=>
    obtain ⟨t,rfl⟩:=rx
    obtain ⟨hy,e'⟩:y.length≤XT∧k=((y.length:Int) != 0):=e
    subst e'
    exact PySem.P.truthy_str (by nofun) ⟨H,I.tok _,q⟩
  | Mb y=>
    obtain ⟨t,rfl⟩:=rx
    obtain ⟨hy,e'⟩:y.size≤XT∧k=((y.size:Int) != 0):=e
    subst e'
    exact PySem.W.truthy_bytes (by nofun) ⟨H,I.tok _,q⟩
  | ref p=>
    cases rx
    have e':(∃ xs,j0 X.K H p xs∧k=!xs.isEmpty)∨(∃ xs,kI X.K H p xs∧k=!xs.isEmpty)∨∃ kvs,H p=some (.dK kvs)∧k=!kvs.isEmpty:=e
    rcases e' with ⟨xs,hx,e'⟩ | ⟨xs,hx,e'⟩ | ⟨kvs,hx,e'⟩
    · subst e'
      obtain ⟨its,r,pl,hz⟩:=I.list hx
      have hlen:=r.length
      exact wpAny_truthy_list pl.isList (by simp only [Yb];nofun) ⟨H,I.tok _,by rw [n9 r];exact q⟩
    · subst e'
      obtain ⟨its,r,pl,hz⟩:=I.tuple hx
      have hlen:=r.length
      exact truthy_tuple pl (by simp only [Yb];nofun) ⟨H,I.tok _,by rw [n9 r];exact q⟩
    · subst e'
      obtain ⟨hz,hS,vs,r,m⟩:kvs.length≤XT∧(p==sysModules)=false∧∃ vs,KV kvs vs∧s.heap.DictOf (dH X.prog X.w) p vs:=I.hok p _ hx
      have hlen:kvs.length=vs.length:=Paired.length r
      exact wpAny_truthy_dict hS m (by nofun) ⟨H,I.tok _,by rw [wk r];exact q⟩
  | _=>exact (show False from e).elim
theorem Bf (ha:PE X a ta) (he:∀ whole,isTrue a X.env whole=(do let v ← whole;standAt a.pos;holding [v] (truthy v))) :
    PT X a (λσ H Q=>ta σ H λx H'=>∃ k,JK X.K x H' k∧Q k H'):=by
  intro pins s σ H Q I h
  exact isTrue_plain (cO (ha pins s σ H _ I h) λv s1 zz=>by obtain ⟨x,H1,I1,r1,q1⟩:=zz;exact JL pins s1 σ H1 x v Q I1 r1 q1) (he _)
theorem wm:ia X (binaryOp .Add) (λx y H Q=>∃ i j,x=.str i∧y=.str j∧i.length+j.length≤XT∧Q (.str (i++j)) H):=by
  intro pins s σ H x y v u Q I rx ry h
  obtain ⟨i,j,rfl,rfl,hz,q⟩:=h
  obtain ⟨t,rfl⟩:=rx
  obtain ⟨t',rfl⟩:=ry
  exact gR I.os.2 (add_str (λt' tk ht=>⟨.str (i++j),H,I.tok _,⟨_,rfl⟩,q⟩) hz)
theorem vals1 {x:V} (r:Vals [x] us):∃ u,us=[u]∧RelV x u:=by
  cases r with
  | cons r1 r2=>cases r2;exact ⟨_,rfl,r1⟩
theorem vals2 {x:V} (r:Vals [x,y] us):∃ u w',us=[u,w']∧RelV x u∧RelV y w':=by
  cases r with
  | cons r1 r2=>
    cases r2 with
    | cons r3 r4=>cases r4;exact ⟨_,_,rfl,r1,r3⟩
theorem zp (hc:X.calm=true):cV X (.builtin "max") (λxs H Q=>∃ i j,xs=[.int i,.int j]∧Q (.int (if j > i then j else i)) H):=by
  intro pins s σ H xs us Q I r h
  obtain ⟨i,j,rfl,q⟩:=h
  obtain ⟨u,w',rfl,⟨t,rfl⟩,⟨t',rfl⟩⟩:=vals2 r
  refine gR I.os.2 <| max_two_ints (I.ok.hd hc) λh' tk k ht=>⟨_,H,I.kept k,?_,q⟩
  by_cases hj:j > i
  · rw [if_pos hj,if_pos hj];exact ⟨_,rfl⟩
  · rw [if_neg hj,if_neg hj];exact ⟨_,rfl⟩
theorem zq (hc:X.calm=true):cV X (.builtin "min") (λxs H Q=>∃ i j,xs=[.int i,.int j]∧Q (.int (if j<i then j else i)) H):=by
  intro pins s σ H xs us Q I r h
  obtain ⟨i,j,rfl,q⟩:=h
  obtain ⟨u,w',rfl,⟨t,rfl⟩,⟨t',rfl⟩⟩:=vals2 r
  refine gR I.os.2 <| min_two_ints (I.ok.hd hc) λh' tk k ht=>⟨_,H,I.kept k,?_,q⟩
  by_cases hj:j<i
  · rw [if_pos hj,if_pos hj];exact ⟨_,rfl⟩
  · rw [if_neg hj,if_neg hj];exact ⟨_,rfl⟩
theorem qF:cV X (.type "int") (λxs H Q=>(∃ i,xs=[.int i]∧Q (.int i) H)∨∃ k,xs=[.bl k]∧Q (.int (if k then 1 else 0)) H):=by
  intro pins s σ H xs us Q I r h
  rcases h with ⟨i,rfl,q⟩ | ⟨k,rfl,q⟩
  · obtain ⟨u,rfl,t,rfl⟩:=vals1 r
    exact call_int_int ⟨.int i,H,I,⟨_,rfl⟩,q⟩
  · obtain ⟨u,rfl,r1⟩:=vals1 r
    cases r1
    exact call_int_bool ⟨.int (if k then 1 else 0),H,I.tok _,⟨_,rfl⟩,q⟩
theorem wo:cV X (.type "bool") (λxs H Q=>(∃ i,xs=[.int i]∧Q (.bl (i != 0)) H)∨∃ k,xs=[.bl k]∧Q (.bl k) H):=by
  intro pins s σ H xs us Q I r h
  rcases h with ⟨i,rfl,q⟩ | ⟨k,rfl,q⟩
  · obtain ⟨u,rfl,t,rfl⟩:=vals1 r
    exact call_bool_int ⟨.bl (i != 0),H,I,rfl,q⟩
  · obtain ⟨u,rfl,r1⟩:=vals1 r
    cases r1
    exact call_bool_bool ⟨.bl k,H,I,rfl,q⟩
end
structure wu (h:Heap) (x dx C:Addr) (mA:Str→Option XR):Prop where
  obj:h.get? x=some (ZI C dx)
  ns:h.Ns1 dx mA
  ne:dx≠x
theorem zu (n:h.Ns1 dx mA):∃ od,h.get? dx=some od∧∀ name,abu name od=some (mA name):=by
  obtain ⟨o,es,ep,ho,hd,hk,_,hm⟩:=n
  refine ⟨o,ho,λname=>?_⟩
  have e:=hm name
  unfold nsFind findBy at e
  rw [← Array.find?_toList] at e
  unfold abu
  rw [hd]
  dsimp only
  split
  · rename_i y q
    rw [q] at e
    exact congrArg some e
  · rename_i q
    rw [q] at e
    have a:es.toList.any (·.refKey)=false:=by
      rw [List.any_eq_false]
      intro y hy
      obtain ⟨z,t,hkey⟩:=hk y (Array.mem_toList_iff.mp hy)
      simp [DictEntry.refKey,hkey]
    have a':¬ es.toList.any (·.refKey)=true:=by rw [a];exact YH
    rw [if_neg a']
    exact congrArg some e
theorem wu.look {x:Addr} (I:wu h x dx C mA):∃ od,PySem.W.InstAt h x (ZI C dx) C (some od)∧∀ name,abu name od=some (mA name):=
  let ⟨od,ho,hl⟩:=zu I.ns
  ⟨od,⟨I.obj,rfl,rfl,ho⟩,hl⟩
section
variable {prog:Yw} {w:YM} {A:Around} {E:XR→XX→Prop} {s:XX} {K:XU} {x dx C f:Addr} {mA:Str→Option XR} {name:Str} {v:XR}
theorem get_map {expr:Bool} (X:K.In s.heap) (I:wu s.heap x dx C mA) (hg:aa9 K C name=true) (hh:abB K C=true)
    (ha:Y3 K (.ref C) name=some none) (hv:mA name=some v) (hv':ac6 v=true) (h:Q v {s with toks:=s.toks+1}) :
    Ye (model prog w) A (getAttr (.ref x) name expr) Q E s:=by
  obtain ⟨od,J,hl⟩:=I.look
  exact PySem.W.get_value X J (abk hg).1 (PySem.W.findObj_own hh ha rfl (by rw [hl,hv])) hv' h
theorem Bg {Q:XR×List XR→XX→Prop} (X:K.In s.heap) (I:wu s.heap x dx C mA) (hg:aa9 K C name=true)
    (hf:Y3 K (.ref C) name=some (some (.ref f))) (ht:abn K (.ref f)=true) (hv:mA name=none) (h:Q (.ref f,[.ref x]) s) :
    Ye (model prog w) A (getMethod (.ref x) name pl) Q E s:=by
  obtain ⟨od,J,hl⟩:=I.look
  exact PySem.W.method_fn X J (abk hg).1 (abk hg).2 hf (beq_iff_eq.mp ht) (by show (abu name od).map (·.isSome)=some false;rw [hl,hv];rfl) h
theorem ES {Q:Unit→XX→Prop} (X:K.In s.heap) (I:wu s.heap x dx C mA)
    (hs:Y3 K (.ref C) "__setattr__"=some (some (.builtin "object.__setattr__"))) (hp:acU K C=true) (ht:ab5 K C name=some none) (hh:abB K C=true)
    (hw:abX mA ns) (hsz:ns.length≤XT)
    (h:∀ h',wu h' x dx C (λy=>if y=name then some v else mA y)→ZM dx s.heap h'→Q () {s with heap:=h',toks:=s.toks+2}) :
    Ye (model prog w) A (setAttr (.ref x) name v) Q E s:=by
  obtain ⟨od,J,hl⟩:=I.look
  refine PySem.W.set_plain X J hs (PySem.W.osa_open (s:={s with toks:=s.toks+1}) (r:=none) X J hp ht λb=>?_)
  obtain ⟨cd,hc,hd'⟩:=PySem.W.any_some hh
  have hx:s.heap.get? x=some ⟨.ref C,some dx,.plain,#[]⟩:=I.obj
  refine XS (Yc (XS (XS (wpAny_loadPart hx (XS (PySem.W.Looks.here (s:={s with toks:=s.toks+1}) (PySem.W.looks_clsIn X hc) ?_))))))
  rw [hd']
  refine Yc (a:=some dx) (XS (Yc (XS ?_)))
  refine wpAny_nsSet1 (s:={s with toks:=s.toks+1}) I.ns λh' hn2 hs2=>?_
  obtain ⟨oD,esD,WT,Uq,Ur,Us⟩:=hn2.count (abX.cons name v hw)
  refine XS (wpAny_lookBehind Uq (by rw [Ur];exact pastItsLine_dict (YV Us (by rw [Ym];nofun))) ?_)
  exact Yc (h _ ⟨(hs2.2 _ (Y6 I.ne)).trans I.obj,hn2,I.ne⟩ hs2)
theorem Bh {vs:List XR} (X:K.In s.heap) (hm:ab6 K C=true)
    (hi:Y3 K (.ref C) "__init__"=some (some (.ref f))) (hf:PySem.W.typeIn K (.ref f)=some (.type "function"))
    (h:codeAny (model prog w) (A.under (.builtin "type.__call__" ⟨.ref C::vs,kw⟩)) (.call (.ref f) ⟨.ref (s.heap.objs.size+1)::vs,kw⟩) (PySem.W.InitBack (s.heap.objs.size+1) R)
      {s with heap:=(s.heap.push Ze).push (ZI C s.heap.objs.size)}) :
    codeAny (model prog w) A (.call (.ref C) ⟨vs,kw⟩) R s:=by
  obtain ⟨hh,g,d,t,os⟩:=s
  exact PySem.W.make_core (PySem.W.makes_of X hm) (PySem.W.looks_findIn X hi) (λself=>PySem.W.bind_fn X self hf) (.inl rfl) h
end
noncomputable def jd (f:Str) (v:V):List (Str×V)→List (Str×V)
  | []=>[(f,v)]
  | (g,x)::r=>if g=f then (g,v)::r else (g,x)::jd f v r
theorem mW (f g:Str) (v:V):∀ fs:List (Str×V),(jd f v fs).lookup g=if g=f then some v else fs.lookup g
  | []=>by
    show YU g [(f,v)]=_
    by_cases h:g=f
    · have hb:(g==f)=true:=beq_iff_eq.mpr h
      simp only [YU,hb,if_pos h]
    · have hb:(g==f)=false:=beq_eq_false_iff_ne.mpr h
      simp only [YU,hb,if_neg h]
  | (k,x)::r=>by
    have ih:=mW f g v r
    rw [show jd f v ((k,x)::r)=(if k=f then (k,v)::r else (k,x)::jd f v r) from rfl]
    by_cases hk:k=f
    · rw [if_pos hk]
      by_cases h:g=k
      · have hb:(g==k)=true:=beq_iff_eq.mpr h
        simp only [YU,hb,if_pos (h.trans hk)]
      · have hb:(g==k)=false:=beq_eq_false_iff_ne.mpr h
        simp only [YU,hb,if_neg (λe:g=f=>h (e.trans hk.symm))]
    · rw [if_neg hk]
      by_cases h:g=k
      · have hb:(g==k)=true:=beq_iff_eq.mpr h
        simp only [YU,hb,if_neg (λe:g=f=>hk (h.symm.trans e))]
      · have hb:(g==k)=false:=beq_eq_false_iff_ne.mpr h
        simp only [YU,hb]
        exact ih
theorem mq (f:Str) (v:V):∀ fs:List (Str×V),f∈(jd f v fs).map (·.1)∧∀ g,g∈fs.map (·.1)→g∈(jd f v fs).map (·.1)
  | []=>⟨by simp [jd],λg h=>by simp at h⟩
  | (k,x)::r=>by
    obtain ⟨i1,i2⟩:=mq f v r
    rw [show jd f v ((k,x)::r)=(if k=f then (k,v)::r else (k,x)::jd f v r) from rfl]
    by_cases hk:k=f
    · rw [if_pos hk]
      subst hk
      exact ⟨by simp,λg h=>by simpa using h⟩
    · rw [if_neg hk]
      refine ⟨?_,λg h=>?_⟩
      · rw [X8]
        exact YA _ i1
      · rw [X8] at h ⊢
        rcases Yn.mp h with e | e
        · exact Yn.mpr (.inl e)
        · exact YA _ (i2 g e)
theorem mX (f:Str) (v:V):∀ fs:List (Str×V),(jd f v fs).length≤fs.length+1
  | []=>by simp [jd]
  | (k,x)::r=>by
    have ih:=mX f v r
    rw [show jd f v ((k,x)::r)=(if k=f then (k,v)::r else (k,x)::jd f v r) from rfl]
    by_cases hk:k=f
    · rw [if_pos hk,Ym,Ym];nofun
    · rw [if_neg hk,Ym,Ym];nofun
theorem ko.some_of {o:Option XR} (r:ko (some v) o):∃ u,o=some u∧RelV v u:=by
  cases o with
  | none=>exact (show False from r).elim
  | some u=>exact ⟨u,rfl,r⟩
theorem ko.none_of {o:Option XR} (r:ko none o):o=none:=by
  cases o with
  | none=>rfl
  | some u=>exact (show False from r).elim
theorem zv (r:RelV v u):ac6 u=true:=by
  cases v with
  | cz=>cases (show u=Value.none from r);rfl
  | bl b=>cases (show u=Value.bool b from r);rfl
  | int i=>obtain ⟨t,e⟩:=(show ∃ t,u=Value.int i t from r);cases e;rfl
  | str x=>obtain ⟨t,e⟩:=(show ∃ t,u=Value.str x t from r);cases e;rfl
  | Mb b=>obtain ⟨t,e⟩:=(show ∃ t,u=Value.bytes b t from r);cases e;rfl
  | Mc b=>obtain ⟨t,e⟩:=(show ∃ t,u=Value.float b t from r);cases e;rfl
  | ref a=>cases (show u=Value.ref a from r);rfl
  | ty n=>cases (show u=Value.type n from r);rfl
section
variable {P:Yw} {w:YM} {H H':Hp} {h h':Heap} {a C dx:Addr} {fs fs':List (Str×V)}
theorem rT (hok:i8 P w H h) (e:H a=some (.ins C dx fs)):∃ mA,wu h a dx C mA∧(∀ f,ko (fs.lookup f) (mA f))∧abX mA (fs.map (·.1))∧fs.length≤1000∧H dx=some (.own a):=by
  obtain ⟨d,z,ne,ob,mA,n,r,q⟩:=(show dZ P w H h a (.ins C dx fs) from hok a _ e)
  exact ⟨mA,⟨ob,n,ne⟩,r,q,z,d⟩
end
structure t6 (K:XU) (C:Addr):Prop where
  pg:aa9 K C Str.empty=true
  hd:abB K C=true
  po:acU K C=true
  sa:Y3 K (.ref C) "__setattr__"=some (some (.builtin "object.__setattr__"))
theorem t6.get (c:t6 K C) (f:Str):aa9 K C f=true:=c.pg
noncomputable def fH (K:XU) (C:Addr) (f:Str):Prop:=Y3 K (.ref C) f=some none
theorem fH.MZ {f:Str} (n:fH K C f):ab5 K C f=some none:=by
  unfold ab5
  rw [show Y3 K (.ref C) f=some none from n]
  rfl
structure WU (K:XU) (C:Addr) (f:Str) (v:V) (u:XR):Prop where
  at_:Y3 K (.ref C) f=some (some u)
  rel:RelV v u
  get:acV K u "__get__"=some none
  cp:PySem.W.copiedNames.contains f=false
structure Meth (K:XU) (C:Addr) (m:Str) (f:Addr):Prop where
  at_:Y3 K (.ref C) m=some (some (.ref f))
  fn:abn K (.ref f)=true
  kp:YE K (.ref f)=true
section
variable {X:Cx} {pins:List (Addr×Obj)} {σ:St} {H:Hp} {s:XX} {a C dx:Addr} {fs:List (Str×V)} {f:Str} {v:V} {A:Around} {E:XR→XX→Prop}
theorem wz {b:Bool} (I:Inv X pins σ H s) (e:H a=some (.ins C dx fs)) (c:t6 X.K C) (n:fH X.K C f) (l:fs.lookup f=some v)
    (h:∀ u s',Inv X pins σ H s'→RelV v u→Q u s'):Ye (model X.prog X.w) A (getAttr (.ref a) f b) Q E s:=by
  obtain ⟨mA,O,r,_,_,_⟩:=rT I.hok e
  obtain ⟨u,hu,ru⟩:=ko.some_of (v:=v) (o:=mA f) (by rw [← l];exact r f)
  exact get_map I.nN O (c.get f) c.hd n hu (zv ru) (h u _ (I.tok _) ru)
theorem wA {g:Addr} {Q:XR×List XR→XX→Prop} (I:Inv X pins σ H s) (e:H a=some (.ins C dx fs)) (c:t6 X.K C) (k:Meth X.K C m g) (l:fs.lookup m=none)
    (h:Q (.ref g,[.ref a]) s):Ye (model X.prog X.w) A (getMethod (.ref a) m pl) Q E s:=by
  obtain ⟨mA,O,r,_,_,_⟩:=rT I.hok e
  have hn:mA m=none:=ko.none_of (by rw [← l];exact r m)
  exact Bg I.nN O (c.get m) k.at_ k.fn hn h
theorem wB {Q:Unit→XX→Prop} (I:Inv X pins σ H s) (e:H a=some (.ins C dx fs)) (c:t6 X.K C) (n:fH X.K C f) (hl:fs.length<1000) (ry:RelV y u)
    (h:∀ s',Inv X pins σ (upd H a (.ins C dx (jd f y fs))) s'→Q () s'):Ye (model X.prog X.w) A (setAttr (.ref a) f u) Q E s:=by
  obtain ⟨mA,O,r,wi,_,ho⟩:=rT I.hok e
  have hz:(fs.map (·.1)).length≤XT:=by rw [Yh,sizeLine_eq];nofun
  refine ES I.nN O c.sa c.po n.MZ c.hd wi hz λh' O' sb=>h _ ?_
  have hd:∃ o,h'.get? dx=some o:=let ⟨o,_,_,e',_⟩:=O'.ns;⟨o,e'⟩
  refine I.write (x:=a) (e:=dx) (by rw [e];exact aam) (.inr ho) (λb q hb z=>(sb.2 b hb).trans z) hd ?_
  refine ⟨by rw [aC O.ne];exact ho,?_,O.ne,O'.obj,_,O'.ns,λg=>?_,λg hg=>?_⟩
  · have:=mX f y fs;nofun
  · show ko ((jd f y fs).lookup g) (if g=f then some u else mA g)
    rw [mW]
    by_cases q:g=f
    · rw [if_pos q,if_pos q];exact ry
    · rw [if_neg q,if_neg q];exact r g
  · by_cases q:g=f
    · rw [q];exact (mq f y fs).1
    · refine (mq f y fs).2 g (wi g λz=>hg ?_)
      show (if g=f then some u else mA g)=none
      rw [if_neg q];exact z
theorem Inv.made (I:Inv X pins σ H s):Inv X pins σ (upd (upd H s.heap.objs.size (.own (s.heap.objs.size+1))) (s.heap.objs.size+1) (.ins C s.heap.objs.size []))
    {s with heap:=(s.heap.push Ze).push (ZI C s.heap.objs.size)}:=by
  have e1:(s.heap.push Ze).get? s.heap.objs.size=some Ze:=X6 s.heap rfl
  have e2:((s.heap.push Ze).push (ZI C s.heap.objs.size)).get? (s.heap.objs.size+1)=some (ZI C s.heap.objs.size):=by
    have:=X6 (s.heap.push Ze) (o:=ZI C s.heap.objs.size) rfl
    rwa [Zg] at this
  have e3:(s.heap.push Ze).Ns s.heap.objs.size (λ_=>none):=⟨Ze,#[],_,e1,rfl,(λe he=>absurd he (by simp)),λ_=>rfl⟩
  have I1:=I.laid (a:=s.heap.objs.size) (o:=.own (s.heap.objs.size+1)) (h':=s.heap.push Ze) (t':=s.toks) (λb u q=>XW _ q) (X3 _) ⟨_,e1⟩
  refine I1.laid (a:=s.heap.objs.size+1) (o:=.ins C s.heap.objs.size []) (t':=s.toks) (λb u q=>XW _ q) (Nat.le_of_eq (Zg _ _)) ?_
  have ne:s.heap.objs.size≠s.heap.objs.size+1:=Yg (Zd _)
  refine ⟨by rw [aC ne,aX],Z4 _,ne,e2,λ_=>none,(Heap.Ns1.of_empty e3).at λo q=>XW _ q,λ_=>aam,λy hy=>absurd rfl hy⟩
theorem ET {f:Str} (hb:attributeBase e f env (eval e env)=eval e env)
    (h:Ye (model prog w) A (eval e env) (λo s₁=>Ye (model prog w) A (getAttr o f true) Q E s₁) E s):Ye (model prog w) A (eval (.Attribute e f pos) env) Q E s:=
  Attribute_any_ h (by rw [arm_eval_Attribute,hb])
end
noncomputable def Qs (K:XU) (ta:TE) (f:Str):TE:=λσ H Q=>ta σ H λx H1=>∃ a C dx fs v,x=.ref a∧H1 a=some (.ins C dx fs)∧t6 K C∧fH K C f∧fs.lookup f=some v∧Q v H1
noncomputable def Qv (K:XU) (ta tv:TE) (f:Str):TS:=λD σ H=>tv σ H λy H1=>ta σ H1 λx H2=>∃ a C dx fs,x=.ref a∧H2 a=some (.ins C dx fs)∧t6 K C∧fH K C f∧fs.length<1000 ∧
  D.nx σ (upd H2 a (.ins C dx (jd f y fs)))
section
variable {X:Cx} {o e value:Expr} {f:Str} {pos pos' tpos:Pos} {ta tv:TE}
theorem JM (he:PE X e ta) (hb:attributeBase e f X.env (eval e X.env)=eval e X.env):PE X (.Attribute e f pos) (Qs X.K ta f):=by
  intro pins s σ H Q I h
  refine ET hb (cO (he pins s σ H _ I h) λu s1 zz=>?_)
  obtain ⟨x,H1,I1,rx,a,C,dx,fs,v,ex,ea,c,n,l,q⟩:=zz
  subst ex
  obtain rfl:u=Value.ref a:=rx
  exact wz I1 ea c n l λu' s2 I2 ru=>⟨v,H1,I2,ru,q⟩
theorem JN (ha:PE X o ta) (hv:PE X value tv) (hs:swapsWith value (some (.Attribute o f pos')) pos.line X.env=pure false):PS X (.Assign [.Attribute o f pos'] value pos) (Qv X.K ta tv f):=by
  intro pins s σ H D I h
  refine plainObj_wpAny_Assign_Attribute (cO (hv pins s σ H _ I h) λu s1 ⟨y,H1,I1,ry,q⟩=>cO (ha pins s1 σ H1 _ I1 q) λov s2 zz=>?_) hs
  obtain ⟨x,H2,I2,rx,a,C,dx,fs,ex,ea,c,n,l,q2⟩:=zz
  subst ex
  obtain rfl:ov=Value.ref a:=rx
  exact wB I2 ea c n l ry λs3 I3=>⟨σ,_,I3,q2⟩
end
section
variable {X:Cx} {pins:List (Addr×Obj)} {σ:St} {H:Hp} {s:XX} {A:Around} {E:XR→XX→Prop} {Q:XR→XX→Prop} {c:XR} {b:Bool}
inductive oh (K:XU) (H:Hp):V→XR→Prop where
  | cz:oh K H .cz (.type "NoneType")
  | bl (x:Bool):oh K H (.bl x) (.type "bool")
  | int (i:Int):oh K H (.int i) (.type "int")
  | str (x:Str):oh K H (.str x) (.type "str")
  | Mc (x:UInt64):oh K H (.Mc x) (.type "float")
  | lst {a:Addr} {xs:List V} (e:H a=some (.lst xs)):oh K H (.ref a) (.type "list")
  | dF {a:Addr} {o:Obj} {xs:List V} (e:H a=some (.dF o (.lst xs))):oh K H (.ref a) (.type "list")
  | tup {a:Addr} {xs:List V} (e:H a=some (.tup xs)):oh K H (.ref a) (.type "tuple")
  | dK {a:Addr} {kvs:List (Key×V)} (e:H a=some (.dK kvs)):oh K H (.ref a) (.type "dict")
  | dT {a:Addr} {kvs:List (List Key×V)} (e:H a=some (.dT kvs)):oh K H (.ref a) (.type "dict")
  | ins {a C dx:Addr} {fs:List (Str×V)} (e:H a=some (.ins C dx fs)) (cl:t6 K C) (ha:Y3 K (.ref C) "__class__"=some (some (.builtin "object.__class__")))
      (hn:acV K (.builtin "object.__class__") "__get__"=some (some (.builtin "getset_descriptor.__get__"))) (htk:PySem.W.takesIn K (.builtin "object.__class__")=some true)
      (hm:PySem.W.mroIn K C (.type "object")=some true):oh K H (.ref a) (.ref C)
end
structure cK (k:Nat) (A:Around):Prop where
  hd:A.handled=none
  dp:A.depth+3*k+5<recursionLimit
  un:A.units+16*k+600<cLine
theorem cK.mono {k:Nat} (r:cK k A) (h:j≤k):cK j A:=⟨r.hd,by have:=r.dp;nofun,by have:=r.un;nofun⟩
theorem cK.deeper {k:Nat} (r:cK (k+1) A) (env:Env):cK k (A.deeper env):=
  ⟨r.hd,by have:=r.dp;show A.depth+1+3*k+5<_;nofun,by have:=r.un;show A.units+3+16*k+600<_;nofun⟩
theorem cK.in1 {k:Nat} (r:cK (k+1) A):cK k A.in1:=
  ⟨r.hd,by have:=r.dp;show A.depth+3*k+5<_;nofun,by have:=r.un;show A.units+1+16*k+600<_;nofun⟩
theorem wC:(A.under (.builtin "type.__call__" ⟨.ref C::us,kw⟩)).depth=A.depth+1:=by
  first | rfl | simp [acW,Code.weight,Code.isCreation,Code.isGuard,Code.isCaller,Code.frames,acX,guardIds]
theorem wF:(A.under (.builtin "type.__call__" ⟨.ref C::us,kw⟩)).units=A.units+1:=by
  first | rfl | simp [acW,Code.cUnits,Code.frames,acX]
theorem cK.make {k:Nat} (r:cK (k+1) A) (C:Addr) (us:List XR) (kw:List (Str×XR)):cK k (A.under (.builtin "type.__call__" ⟨.ref C::us,kw⟩)):=
  ⟨r.hd,by have:=r.dp;rw [wC];nofun,by have:=r.un;rw [wF];nofun⟩
theorem cK.depth {k:Nat} (r:cK k A):A.depth<recursionLimit:=by have:=r.dp;nofun
theorem cK.units {k:Nat} (r:cK k A):A.units+64<cLine:=by have:=r.un;nofun
noncomputable def EU:TA:=λ_ H Q=>Q [] H
noncomputable def ye (ta:TE) (tr:TA):TA:=λσ H Q=>ta σ H λx H1=>tr σ H1 λxs H2=>Q (x::xs) H2
section
variable {X:Cx} {e:Expr} {es:List Expr} {te:TE} {t:TA} {pos:Pos}
theorem wG:PA X [] EU:=λ_ _ _ _ H Q I h=>Z5 ⟨[],H,I,.nil,h⟩
theorem rV (ha:PE X e te) (hr:PA X es t) (hs:Yj (e::es) X.env=(false,eval e X.env)::Yj es X.env:=by rfl):PA X (e::es) (ye te t):=by
  intro pos pins s σ H Q I h
  rw [hs]
  show Ye _ _ (spliced ((false,eval e X.env)::backTo pos (Yj es X.env))) _ _ s
  refine Zm (cO (ha pins s σ H _ I h) λu s1 zz=>?_)
  obtain ⟨x,H1,I1,r1,q1⟩:=zz
  exact cO (hr pos pins s1 σ H1 _ I1 q1) λus s2 zz=>by obtain ⟨xs,H2,I2,r2,q2⟩:=zz;exact ⟨x::xs,H2,I2,.cons r1 r2,q2⟩
noncomputable def Qw (t:TA):TE:=λσ H Q=>t σ H λxs H1=>xs.length≤XT∧∀ p,H1 p=none→Q (.ref p) (upd H1 p (.tup xs))
noncomputable def Qx (t:TA):TE:=λσ H Q=>t σ H λxs H1=>xs.length≤XT∧∀ p,H1 p=none→Q (.ref p) (upd H1 p (.lst xs))
theorem JO {x1} (h:PA X es t):PE X (.Tuple es x1 pos) (Qw t):=by
  intro pins s σ H Q I hq
  refine wpAny_Tuple_spliced (cO (h pos pins s σ H _ I hq) λus s1 ⟨xs,H1,I1,r,z,q⟩=>⟨by rw [← r.length];exact z,?_⟩)
  have hf:H1 s1.heap.objs.size=none:=I1.hok.fresh (X3 _)
  refine ⟨.ref s1.heap.objs.size,upd H1 s1.heap.objs.size (.tup xs),I1.laid (t':=s1.toks) (λb u e=>XW _ e) (X3 _) ?_,rfl,q _ hf⟩
  exact ⟨z,us,r,⟨_,X6 _ rfl,rfl,_,rfl⟩⟩
theorem JP (h:PA X es t):PE X (.List es pos) (Qx t):=by
  intro pins s σ H Q I hq
  refine wpAny_List_spliced (cO (h pos pins s σ H _ I hq) λus s1 ⟨xs,H1,I1,r,z,q⟩=>⟨by rw [← r.length];exact z,?_⟩)
  have hf:H1 s1.heap.objs.size=none:=I1.hok.fresh (X3 _)
  refine ⟨.ref s1.heap.objs.size,upd H1 s1.heap.objs.size (.lst xs),I1.laid (t':=s1.toks) (λb u e=>XW _ e) (X3 _) ?_,rfl,q _ hf⟩
  exact ⟨z,us,0,r,X6 _ rfl⟩
end
noncomputable abbrev Sp:=List V→Hp→VK→XK→Prop
variable {sp M0:Sp}
noncomputable abbrev l5:=List Env→Hp→XX→XK→XR→XX→Prop
variable {CX:l5}
structure mw (P:Yw) (w:YM) (K:XU) (mg:Str→Option XR) (base:Heap) (A:Around) (outer:List Env) (s:XX) (H:Hp):Prop where
  frames:A.frames=some outer
  mod:Mod K mg base
  bs:∀ b o,base.get? b=some o→s.heap.get? b=some o∧H b=none
  En:base.objs.size≤s.heap.objs.size
  lG:s.heap.FunFrames base outer
  ED:∀ b∈frs outer,H b=none
  hok:i8 P w H s.heap
  bare:AllBare s.gens
noncomputable def CE (outer:List Env) (P:Yw) (w:YM) (H:Hp) (s:XX) (Q:VK) (u:XR) (s':XX):Prop:=
  ∃ v H',(s'.os=s.os∧0<s'.toks)∧AllBare s'.gens∧Un (frs outer) [] H H' s.heap s'.heap∧i8 P w H' s'.heap∧RelV v u∧Q v H'
noncomputable def CR (CX:l5) (outer:List Env) (P:Yw) (w:YM) (H:Hp) (s:XX) (Q:VK) (E:XK) (r:Result) (s':XX):Prop:=
  match r with
  | .ok (.ret u)=>CE outer P w H s Q u s'
  | .ok _=>False
  | .error e=>CX outer H s E e s'
structure gA (P:Yw) (w:YM) (K:XU) (mg:Str→Option XR) (base:Heap) (CX:l5) (k:Nat) (f:Addr) (fd:FuncData) (ps:List Str) (sp:Sp):Prop where
  len:∀ vs H Q E,sp vs H Q E→vs.length=ps.length
  run:∀ (A:Around) (outer:List Env) (s:XX) (H:Hp) (args:Args) (us:List XR) (vs:List V) (Q:VK) (E:XK),cK k A→mw P w K mg base A outer s H→0<s.toks→BindsTo s fd args (ps.zip us)→Vals vs us→sp vs H Q E →
    codeAny (model P w) A (.call (.ref f) args) (CR CX outer P w H s Q E) s
structure jC (P:Yw) (w:YM) (K:XU) (mg:Str→Option XR) (base:Heap) (CX:l5) (k:Nat) (f:Addr) (fd:FuncData) (ps:List Str) (sp:Sp):Prop where
  len:∀ vs H Q E,sp vs H Q E→vs.length=ps.length
  run:∀ (A:Around) (outer:List Env) (s:XX) (H:Hp) (args:Args) (us:List XR) (vs:List V) (Q:VK) (E:XK),cK k A→mw P w K mg base A outer s H→BindsTo s fd args (ps.zip us)→Vals vs us→sp vs H Q E →
    codeAny (model P w) A (.call (.ref f) args) (CR CX outer P w H s Q E) s
theorem jC.imp {k:Nat} {f:Addr} {ps:List Str} (F:jC P w K mg base CX k f fd ps sp)
    (h:∀ vs H Q E,M0 vs H Q E→sp vs H Q E):jC P w K mg base CX k f fd ps M0:=
  ⟨λvs H Q E q=>F.len vs H Q E (h _ _ _ _ q),λA outer s H args us vs Q E hr he hb hv hs=>F.run A outer s H args us vs Q E hr he hb hv (h _ _ _ _ hs)⟩
theorem gA.imp {k:Nat} {f:Addr} {ps:List Str} (F:gA P w K mg base CX k f fd ps sp)
    (h:∀ vs H Q E,M0 vs H Q E→sp vs H Q E):gA P w K mg base CX k f fd ps M0:=
  ⟨λvs H Q E q=>F.len vs H Q E (h _ _ _ _ q),λA outer s H args us vs Q E hr he ht hb hv hs=>F.run A outer s H args us vs Q E hr he ht hb hv (h _ _ _ _ hs)⟩
theorem mw.make (e:mw P w K mg base A outer s H) (C:Addr) (us:List XR) (kw:List (Str×XR)) :
    mw P w K mg base (A.under (.builtin "type.__call__" ⟨.ref C::us,kw⟩)) outer s H:=⟨by first | exact e.frames | (simpa [acW,Code.envs,acX,pushEnvs] using e.frames),e.mod,e.bs,e.En,e.lG,e.ED,e.hok,e.bare⟩
theorem mw.in1 (e:mw P w K mg base A outer s H) :
    mw P w K mg base A.in1 outer s H:=⟨e.frames,e.mod,e.bs,e.En,e.lG,e.ED,e.hok,e.bare⟩
section
variable {X:Cx} {pins:List (Addr×Obj)} {σ:St} {H:Hp} {s s':XX}
theorem Inv.gk (I:Inv X pins σ H s):mw X.prog X.w X.K X.mg X.base X.A X.stack s H:=
  ⟨I.ok.frames,I.ok.mod,I.bs,YV I.ok.En I.sz,I.stack,I.nO,I.hok,I.bare⟩
theorem Inv.after {Q:VK} (I:Inv X pins σ H s) (h:CE X.stack X.prog X.w H s Q u s'):EP X pins σ Q u s':=by
  obtain ⟨v,H',os,bare,un,hok,r,q⟩:=h
  obtain ⟨hh,g,d,t,os'⟩:=s'
  have ht:0<t:=os.2
  obtain rfl:os'=s.os:=os.1
  exact ⟨v,H',I.call (h':=hh) (g':=g) (d':=d) (t':=t) (ch:=[]) un hok bare (λb z=>absurd z (by simp)),r,q⟩
end
noncomputable def M3 (C:Addr) (m:Str) (sp:Sp) (wH:List V) (E:XK) (ta:TE) (t:TA):TE:=λσ H Q=>ta σ H λx H1=>∃ a dx fs,x=.ref a∧H1 a=some (.ins C dx fs)∧fs.lookup m=none ∧
  t σ H1 λvs H2=>sp (x::(vs++wH)) H2 Q E
noncomputable def M4 (C:Addr) (sp:Sp) (wH:List V) (E:XK) (t:TA):TE:=λσ H Q=>t σ H λvs H1=>∀ x dx,H1 x=none→H1 dx=none→dx≠x →
  sp (.ref x::(vs++wH)) (upd (upd H1 dx (.own x)) x (.ins C dx [])) (λv H2=>v=.cz∧Q (.ref x) H2) E
noncomputable def Binds (K:XU) (fd:FuncData) (ps:List Str) (ds:List XR):Prop:=
  ∀ (s:XX) (us:List XR),K.In s.heap→(us++ds).length=ps.length→BindsTo s fd ⟨us,[]⟩ (ps.zip (us++ds))
theorem Binds.all {ps:List Str} (h:∀ us:List XR,us.length=ps.length→bindArgs fd ⟨us,[]⟩=pure (ps.zip us)):Binds K fd ps []:=λs us _ hl=>by
  rw [YW] at hl ⊢
  exact .of_eq (h us hl)
noncomputable def Passes (CX:l5) (X:Cx) (E:XK):Prop:=∀ (pins:List (Addr×Obj)) (σ:St) (H:Hp) (s:XX) (e:XR) (s':XX),Inv X pins σ H s→CX X.stack H s E e s'→X.xe e s'
section
variable {X:Cx} {CX:l5} {k:Nat} {f C:Addr} {fd:FuncData} {ps:List Str} {sp:Sp} {wH:List V} {ds:List XR} {E:XK} {x m:Str} {p pos apos:Pos} {e o:Expr} {es:List Expr} {ta:TE} {t:TA}
theorem JQ {pins:List (Addr×Obj)} {σ:St} {H:Hp} {s:XX} {Q:VK} {us:List XR} {vs:List V} (F:gA X.prog X.w X.K X.mg X.base CX k f fd ps sp) (hr:cK k X.A) (hb:Binds X.K fd ps ds) (hd:Vals wH ds) (hx:Passes CX X E)
    (I:Inv X pins σ H s) (r:Vals vs us) (h:sp (vs++wH) H Q E):Ye (model X.prog X.w) X.A (call (.ref f) us) (EP X pins σ Q) X.xe s:=by
  have r2:Vals (vs++wH) (us++ds):=r.append hd
  have hl:(us++ds).length=ps.length:=by rw [← r2.length];exact F.len _ _ _ _ h
  refine acL (codeAny_mono (F.run X.A X.stack s H ⟨us,[]⟩ (us++ds) (vs++wH) Q E hr I.gk I.os.2 (hb s us I.nN hl) r2 h) λr s' hq=>?_)
  cases r with
  | error e=>exact hx pins σ H s e s' I hq
  | ok fl=>
    cases fl with
    | ret u=>exact I.after hq
    | next=>exact YK hq
    | brk=>exact YK hq
    | cont=>exact YK hq
theorem EV {pl:Sem Bool} (he:PE X o ta) (c:t6 X.K C) (hm:Meth X.K C m f) (F:gA X.prog X.w X.K X.mg X.base CX k f fd ps sp) (hr:cK k X.A) (hb:Binds X.K fd ps ds) (hd:Vals wH ds) (hx:Passes CX X E) (ha:PA X (e::es) t)
    (hst:Yj (e::es) X.env=(false,eval e X.env)::Yj es X.env:=by rfl) (hpl:(backTo pos (Yj es X.env)).any (·.1)=false:=by rfl)
    (ht:eval (.Call (.Attribute o m apos) (e::es) [] pos) X.env=(do
      let ov ← eval o X.env
      standAt apos.atName
      let (f,first) ← holding [ov] (getMethod ov m pl)
      callWith pos f first (backTo pos (Yj (e::es) X.env)) (backToKw pos (keywordEach [] X.env))):=by rfl) :
    PE X (.Call (.Attribute o m apos) (e::es) [] pos) (M3 C m sp wH E ta t):=by
  intro pins s σ H Q I h
  refine PySem.W.methodCall_KW (pl:=pl) (cO (he pins s σ H _ I h) λu s1 zz=>?_) ht
  obtain ⟨x,H1,I1,rx,a,dx,fs,ex,ea,l,q⟩:=zz
  subst ex
  obtain rfl:u=Value.ref a:=rx
  refine wA I1 ea c hm l ?_
  refine ZQ (first:=[.ref a]) (h₀:=X.base) I.ok.mod.AS hm.kp (cO (ha pos pins s1 σ H1 _ I1 q) λus s2 ⟨vs,H2,I2,r,q2⟩=>⟨I2.nN,?_⟩) hst hpl
  exact JQ (us:=.ref a::us) (vs:=.ref a::vs) F hr hb hd hx I2 (.cons rfl r) q2
structure Mk (K:XU) (C f:Addr):Prop where
  makes:ab6 K C=true
  init:Y3 K (.ref C) "__init__"=some (some (.ref f))
  fn:abn K (.ref f)=true
  kp:YE K (.ref C)=true
theorem Bj {pins:List (Addr×Obj)} {σ:St} {H:Hp} {s:XX} {Q:VK} {us:List XR} {vs:List V} (M:Mk X.K C f) (F:gA X.prog X.w X.K X.mg X.base CX k f fd ps sp) (hr:cK (k+1) X.A) (hb:Binds X.K fd ps ds) (hd:Vals wH ds)
    (hx:Passes CX X E) (I:Inv X pins σ H s) (r:Vals vs us)
    (h:∀ x dx,H x=none→H dx=none→dx≠x→sp (.ref x::(vs++wH)) (upd (upd H dx (.own x)) x (.ins C dx [])) (λv H2=>v=.cz∧Q (.ref x) H2) E) :
    Ye (model X.prog X.w) X.A (call (.ref C) us) (EP X pins σ Q) X.xe s:=by
  have hq:=h (s.heap.objs.size+1) s.heap.objs.size (I.hok.fresh (aaU _)) (I.hok.fresh (X3 _)) (Yg (Zd _))
  have I2:=Inv.made (C:=C) I
  have r2:Vals (V.ref (s.heap.objs.size+1)::(vs++wH)) (Value.ref (s.heap.objs.size+1)::(us++ds)):=.cons rfl (r.append hd)
  have hl:(Value.ref (s.heap.objs.size+1)::us++ds).length=ps.length:=by
    have e:=r2.length
    rw [F.len _ _ _ _ hq] at e
    exact e.symm
  refine acL (Bh (f:=f) I.nN M.makes M.init (beq_iff_eq.mp M.fn) (codeAny_mono (F.run _ X.stack _ _ ⟨Value.ref (s.heap.objs.size+1)::us,[]⟩ (Value.ref (s.heap.objs.size+1)::(us++ds)) _ _ E (hr.make C us [])
    (I2.gk.make C us []) I.os.2 (hb _ (Value.ref (s.heap.objs.size+1)::us) I2.nN hl) r2 hq) λr s' hq'=>?_))
  cases r with
  | error e=>exact hx pins σ _ _ e s' I2 hq'
  | ok fl=>
    cases fl with
    | ret u=>
      obtain ⟨v,H',I3,rv,ev,q3⟩:=I2.after hq'
      subst ev
      exact ⟨rv,⟨V.ref (s.heap.objs.size+1),H',I3,rfl,q3⟩⟩
    | next=>exact YK hq'
    | brk=>exact YK hq'
    | cont=>exact YK hq'
theorem EW (M:Mk X.K C f) (F:gA X.prog X.w X.K X.mg X.base CX k f fd ps sp) (hr:cK (k+1) X.A) (hg:Gl X x) (hm:X.mg x=some (.ref C)) (hb:Binds X.K fd ps ds) (hd:Vals wH ds) (hx:Passes CX X E)
    (ha:PA X (e::es) t) (hdb:(x==("__debug__":Str))=false:=by decide) (he:Yj (e::es) X.env=(false,eval e X.env)::Yj es X.env:=by rfl) (hpl:(backTo pos (Yj es X.env)).any (·.1)=false:=by rfl) :
    PE X (.Call (.Name x p) (e::es) [] pos) (M4 C sp wH E t):=by
  intro pins s σ H Q I h
  refine Yo (rR I hg hm ?_ hdb)
  refine ZQ (h₀:=X.base) I.ok.mod.AS M.kp (cO (ha pos pins s σ H _ I h) λus s1 ⟨vs,H1,I1,r,q⟩=>⟨I1.nN,?_⟩) he hpl
  exact Bj M F hr hb hd hx I1 r q
end
section
variable {X:Cx} {CX:l5} {k:Nat} {f C:Addr} {fd:FuncData} {ps ks:List Str} {sp:Sp} {E:XK} {x m:Str} {p pos apos kpos:Pos} {e o:Expr} {es:List Expr} {kws:List Keyword} {te ta:TE} {t tk:TA} {nm:Option Str}
structure Qy (K:XU) (fd:FuncData) (ps ks:List Str) (g:List XR→List XR→List XR) (gV:List V→List V→List V):Prop where
  to:∀ (s:XX) (us ws:List XR),K.In s.heap→(g us ws).length=ps.length→BindsTo s fd ⟨us,ks.zip ws⟩ (ps.zip (g us ws))
  rel:∀ {vs:List V} {us:List XR} {zs:List V} {ws:List XR},Vals vs us→Vals zs ws→Vals (gV vs zs) (g us ws)
variable {g:List XR→List XR→List XR} {gV:List V→List V→List V}
end
structure fV (N P:List Str) (sc:Scope):Prop where
  kind:sc.kind=.function
  co:sc.isCoroutine=false
  gen:sc.isGenerator=false
  nd:N.Nodup
  pre:N.take P.length=P
  par:∀ x∈P,sc.names.lookup x=some .local∨sc.names.lookup x=some .cell
  JR:∀ y∈sc.names,y.2≠.free
theorem qG {kindOf:Str→Option NameKind} {x:Str}:∀ {binds:List (Str×XR)} {m:Str→Option XR},(∀ v,(x,v)∉binds)→bindL kindOf binds m x=m x
  | [],_,_=>rfl
  | (n,v)::r,m,h=>by
    unfold bindL
    rw [qG λw hw=>h w (YA _ hw)]
    split
    · have:x≠n:=by rintro rfl;exact h v ZO
      simp [this]
    · rfl
theorem qH {kindOf:Str→Option NameKind} {x:Str}:∀ {binds:List (Str×XR)} {m:Str→Option XR},(∀ v,(x,v)∉binds)→bindC kindOf binds m x=m x
  | [],_,_=>rfl
  | (n,v)::r,m,h=>by
    unfold bindC
    rw [qH λw hw=>h w (YA _ hw)]
    split
    · rfl
    · have:x≠n:=by rintro rfl;exact h v ZO
      simp [this]
theorem qI {kindOf:Str→Option NameKind} {x:Str} {v:XR}:∀ {P:List Str} {vs:List XR} {i:Nat} {m:Str→Option XR},P.Nodup→P[i]?=some x→vs[i]?=some v→kindOf x=some .local →
    bindL kindOf (P.zip vs) m x=some v
  | [],_,_,_,_,h,_,_=>by simp at h
  | _::_,[],_,_,_,_,h,_=>by simp at h
  | p::P,w::vs,0,m,nd,h1,h2,hk=>by
    simp at h1 h2;subst h1;subst h2
    show bindL kindOf ((p,w)::P.zip vs) m p=_
    unfold bindL
    rw [qG λv hv=>(ZJ.mp nd).1 (ZZ hv).1,if_pos hk]
    simp
  | p::P,w::vs,i+1,m,nd,h1,h2,hk=>by
    show bindL kindOf ((p,w)::P.zip vs) m x=_
    unfold bindL
    exact qI (i:=i) (ZJ.mp nd).2 (by simpa using h1) (by simpa using h2) hk
theorem qJ {kindOf:Str→Option NameKind} {x:Str} {v:XR}:∀ {P:List Str} {vs:List XR} {i:Nat} {m:Str→Option XR},P.Nodup→P[i]?=some x→vs[i]?=some v→kindOf x≠some .local →
    bindC kindOf (P.zip vs) m x=some v
  | [],_,_,_,_,h,_,_=>by simp at h
  | _::_,[],_,_,_,_,h,_=>by simp at h
  | p::P,w::vs,0,m,nd,h1,h2,hk=>by
    simp at h1 h2;subst h1;subst h2
    show bindC kindOf ((p,w)::P.zip vs) m p=_
    unfold bindC
    rw [qH λv hv=>(ZJ.mp nd).1 (ZZ hv).1,if_neg hk]
    simp
  | p::P,w::vs,i+1,m,nd,h1,h2,hk=>by
    show bindC kindOf ((p,w)::P.zip vs) m x=_
    unfold bindC
    exact qJ (i:=i) (ZJ.mp nd).2 (by simpa using h1) (by simpa using h2) hk
noncomputable def start (N:List Str) (vs:List V):St:=vs.map some++Yi (N.length - vs.length) none
noncomputable def kL (CX:l5) (P:Yw) (w:YM) (K:XU) (mg:Str→Option XR) (base:Heap) (N:List Str) (qual:Str) (scope:Scope) (f:Addr) (cd:XR) (A:Around) (outer:List Env) (s:XX) (H:Hp) (E:XK):Cx where
  prog:=P
  w:=w
  K:=K
  mg:=mg
  base:=base
  A:=A.deeper (envOfC qual scope s.heap.objs.size f cd)
  N:=N
  s₀:=s
  H₀:=H
  env:=envOfC qual scope s.heap.objs.size f cd
  outer:=outer
  stack:=envOfC qual scope s.heap.objs.size f cd::outer
  ex:=[]
  calm:=true
  fn:=λ_=>true
  pn:=[]
  xe:=λe s'=>Ye (model P w) (A.deeper (envOfC qual scope s.heap.objs.size f cd)) (leaving (envOfC qual scope s.heap.objs.size f cd) e) (λ_ s''=>CX outer H s E e s'') (λe' s''=>CX outer H s E e' s'') s'
theorem ud (h:sc.names.lookup x=some .cell):∃ c,(cellsFrom n sc.names []).lookup x=some c:=by
  have q:=aan sc.names n [] (.inl h)
  exact Option.isSome_iff_exists.mp q
theorem mz {CX:l5} {P:Yw} {w:YM} {K:XU} {mg:Str→Option XR} {base:Heap} {N ps:List Str} {qual:Str} {scope:Scope} {f:Addr} {cd:XR} {A:Around} {outer:List Env} {s s1:XX} {H:Hp} {E:XK} {us:List XR} {vs:List V}
    (S:fV N ps scope) (hd:A.handled=none) (e0:mw P w K mg base A outer s H) (hl:vs.length=ps.length) (r:Vals vs us)
    (x:InCallC s s.heap.objs.size (bindL (envOfC qual scope s.heap.objs.size f cd).kindOf (ps.zip us) λ_=>none) (cellsFrom (s.heap.objs.size+1) scope.names []) (bindC (envOfC qual scope s.heap.objs.size f cd).kindOf (ps.zip us) λ_=>none) s1) {n:Nat} (ht:0<n) :
    Inv (kL CX P w K mg base N qual scope f cd A outer s H E) [] (start N vs) H {s1 with toks:=n}:=by
  have hpl:ps.length≤N.length:=by have:=congrArg abC S.pre;rw [aaF] at this;nofun
  obtain ⟨h1,tk,rfl,hk⟩:=x.done
  have EX:∀ b:Addr,b∉(kL CX P w K mg base N qual scope f cd A outer s H E).ex:=λb z=>absurd (show b∈([]:List Addr) from z) (by simp)
  refine ⟨⟨e0.mod,S.kind,rfl,rfl,X3 _,λy z c h1 h2=>?_,λy hy=>?_,λy c _ h=>?_,λ_=>hd,acm e0.frames,.inr ⟨rfl,rfl⟩,λb z=>absurd z (EX b),e0.bs,e0.En,λb _ _=>EX b,λb z=>absurd z (EX b),e0.lG,e0.ED⟩,
    ⟨rfl,ht⟩,e0.bare,Un.kept hk,⟨_,x.toInCall.ns,λi y v h1 h2 h3=>?_⟩,λy c h=>⟨_,x.cell y c h⟩,e0.hok.fresh (X3 _),λy c h=>?_,λp hp=>absurd (show p∈([]:List (Addr×Obj)) from hp) (by simp),e0.hok.kept hk,?_⟩
  · exact name_of_addr x.apart (Zo h1) (Zo h2)
  · have hy:scope.names.lookup y=some .cell∨scope.names.lookup y=some .free:=hy
    rcases hy with hy | hy
    · exact ud hy
    · exact absurd rfl (S.JR _ (Zo hy))
  · exact aaZ (x.above y c (Zo h))
  · have hi:i<vs.length:=by
      unfold start at h2
      by_cases hi:i<vs.length
      · exact hi
      · rw [Yp (by simpa using hi)] at h2
        rw [aaf] at h2
        split at h2<;>cases h2
    have ha:vs[i]?=some v:=by
      unfold start at h2
      rw [Yd (by simpa using hi),Yq] at h2
      cases e:vs[i]? with
      | none=>rw [e] at h2;cases h2
      | some a=>rw [e] at h2;cases h2;rfl
    obtain ⟨u,hu,rv⟩:=r.get ha
    have hp:ps[i]?=some y:=by
      rw [← S.pre,abH (by nofun)];exact h1
    have Pd:ps.Nodup:=by rw [← S.pre];exact S.nd.sublist (acY _ _)
    refine ⟨u,rv,?_⟩
    rcases S.par y (Yy hp) with k | k
    · exact .inl ⟨k,qI Pd hp hu k⟩
    · obtain ⟨c,e⟩:=ud (n:=s.heap.objs.size+1) k
      refine .inr ⟨.inl k,c,e,?_⟩
      have q:=x.cell y c e
      rw [qJ Pd hp hu (by show scope.names.lookup y≠_;rw [k];decide)] at q
      exact q
  · exact .inl (e0.hok.fresh (aaZ (x.above y c (Zo h))))
  · unfold start
    show _=N.length
    rw [Yx,Yh,ab9]
    nofun
theorem M5 {CX:l5} {P:Yw} {w:YM} {K:XU} {mg:Str→Option XR} {base:Heap} {k:Nat} {f:Addr} {name qual:Str} {params:Arguments} {body:List Stmt} {scope:Scope} {dV kV doc pm cdv ct oc:XR} {an od:Option Addr}
    {osl:Array (Option XR)} {N ps:List Str} {sp:Sp} (lk:K.lookup f=some ⟨oc,od,.func (Zj name qual params body scope dV kV doc pm an cdv ct),osl⟩) (hcd:aag K cdv qual=true) (S:fV N ps scope)
    (len:∀ vs H Q E,sp vs H Q E→vs.length=ps.length)
    (hbody:∀ (A:Around) (outer:List Env) (s:XX) (H:Hp) (vs:List V) (Q:VK) (E:XK),cK k (A.deeper (envOfC qual scope s.heap.objs.size f cdv))→sp vs H Q E →
      ∃ t,v8 (kL CX P w K mg base N qual scope f cdv A outer s H E) body t∧t {nx:=λ_ H'=>Q .cz H',rt:=Q} (start N vs) H) :
    gA P w K mg base CX (k+1) f (Zj name qual params body scope dV kV doc pm an cdv ct) ps sp:=by
  refine ⟨len,λA outer s H args us vs Q E hr e0 htk hb r yf=>?_⟩
  have hl:=len _ _ _ _ yf
  have KX:K.In s.heap:=e0.mod.AS.keeps λb o e=>(e0.bs b o e).1
  have lim:s.heap.NoLimit:=e0.mod.nolimit.keeps λb o e=>(e0.bs b o e).1
  have hkind:∀ y∈ps.zip us,scope.names.lookup y.1=some .local∨(scope.names.lookup y.1=some .cell∧((cellsFrom (s.heap.objs.size+1) scope.names []).lookup y.1).isSome=true):=λzz hy=>by
    obtain ⟨n,v⟩:=zz
    rcases S.par n (ZZ hy).1 with q | q
    · exact .inl q
    · exact .inr ⟨q,aan _ _ _ (.inl q)⟩
  refine codeAny_call_function hr.depth (KX _ _ lk) rfl S.co S.gen rfl (abv KX hcd) (hb _ _ _ _ ?_)
  refine gR htk (aaA S.kind hkind λenv he s1 x=>λJS=>?_)
  subst he
  refine ⟨lim.keeps x.toInCall.keep,codeAny_func ?_⟩
  obtain ⟨t,ht,hq⟩:=hbody A outer s H vs Q E (hr.deeper _) yf
  have I:Inv (kL CX P w K mg base N qual scope f cdv A outer s H E) [] (start N vs) H s1:=mz S hr.hd e0 hl r x (n:=s1.toks) JS
  refine YG (ht [] s1 (start N vs) H _ I hq) (λfl s' hs=>?_) λe s' hs=>hs
  have fin:∀ {σ':St} {H':Hp} {v:V} {u:XR},Inv (kL CX P w K mg base N qual scope f cdv A outer s H E) [] σ' H' s'→RelV v u→Q v H'→CE outer P w H s Q u s':=
    λ{σ' H' v u} J rv q=>⟨v,H',J.os,J.bare,J.base,J.hok,rv,q⟩
  cases fl with
  | ret u=>
    obtain ⟨v,σ',H',J,rv,q⟩:=hs
    exact fin J rv q
  | next=>
    obtain ⟨σ',H',J,q⟩:=hs
    exact fin (v:=V.cz) (u:=Value.none) J rfl q
  | brk=>
    obtain ⟨_,_,_,q⟩:=hs
    exact YK q
  | cont=>
    obtain ⟨_,_,_,q⟩:=hs
    exact YK q
noncomputable def M6 (X:Cx) (body:List Stmt) (t:TS):Prop:=∀ (s:XX) (σ:St) (H:Hp) (D:Ends),Inv X [] σ H {s with toks:=s.toks+1}→t D σ H→Ye (model X.prog X.w) X.A (execs body X.env) (SP X [] D) X.xe s
theorem JT {CX:l5} {P:Yw} {w:YM} {K:XU} {mg:Str→Option XR} {base:Heap} {k:Nat} {f:Addr} {name qual:Str} {params:Arguments} {body:List Stmt} {scope:Scope} {dV kV doc pm cdv ct oc:XR} {an od:Option Addr}
    {osl:Array (Option XR)} {N ps:List Str} {sp:Sp} (lk:K.lookup f=some ⟨oc,od,.func (Zj name qual params body scope dV kV doc pm an cdv ct),osl⟩) (hcd:aag K cdv qual=true) (S:fV N ps scope)
    (len:∀ vs H Q E,sp vs H Q E→vs.length=ps.length)
    (hbody:∀ (A:Around) (outer:List Env) (s:XX) (H:Hp) (vs:List V) (Q:VK) (E:XK),cK k (A.deeper (envOfC qual scope s.heap.objs.size f cdv))→sp vs H Q E →
      ∃ t,M6 (kL CX P w K mg base N qual scope f cdv A outer s H E) body t∧t {nx:=λ_ H'=>Q .cz H',rt:=Q} (start N vs) H) :
    jC P w K mg base CX (k+1) f (Zj name qual params body scope dV kV doc pm an cdv ct) ps sp:=by
  refine ⟨len,λA outer s H args us vs Q E hr e0 hb r yf=>?_⟩
  have hl:=len _ _ _ _ yf
  have KX:K.In s.heap:=e0.mod.AS.keeps λb o e=>(e0.bs b o e).1
  have lim:s.heap.NoLimit:=e0.mod.nolimit.keeps λb o e=>(e0.bs b o e).1
  have hkind:∀ y∈ps.zip us,scope.names.lookup y.1=some .local∨(scope.names.lookup y.1=some .cell∧((cellsFrom (s.heap.objs.size+1) scope.names []).lookup y.1).isSome=true):=λzz hy=>by
    obtain ⟨n,v⟩:=zz
    rcases S.par n (ZZ hy).1 with q | q
    · exact .inl q
    · exact .inr ⟨q,aan _ _ _ (.inl q)⟩
  refine codeAny_call_function hr.depth (KX _ _ lk) rfl S.co S.gen rfl (abv KX hcd) (hb _ _ _ _ ?_)
  refine aaA S.kind hkind λenv he s1 x=>?_
  subst he
  refine ⟨lim.keeps x.toInCall.keep,codeAny_func ?_⟩
  obtain ⟨t,ht,hq⟩:=hbody A outer s H vs Q E (hr.deeper _) yf
  have I:Inv (kL CX P w K mg base N qual scope f cdv A outer s H E) [] (start N vs) H {s1 with toks:=s1.toks+1}:=mz S hr.hd e0 hl r x (YJ _)
  refine YG (ht s1 (start N vs) H _ I hq) (λfl s' hs=>?_) λe s' hs=>hs
  have fin:∀ {σ':St} {H':Hp} {v:V} {u:XR},Inv (kL CX P w K mg base N qual scope f cdv A outer s H E) [] σ' H' s'→RelV v u→Q v H'→CE outer P w H s Q u s':=
    λ{σ' H' v u} J rv q=>⟨v,H',J.os,J.bare,J.base,J.hok,rv,q⟩
  cases fl with
  | ret u=>
    obtain ⟨v,σ',H',J,rv,q⟩:=hs
    exact fin J rv q
  | next=>
    obtain ⟨σ',H',J,q⟩:=hs
    exact fin (v:=V.cz) (u:=Value.none) J rfl q
  | brk=>
    obtain ⟨_,_,_,q⟩:=hs
    exact YK q
  | cont=>
    obtain ⟨_,_,_,q⟩:=hs
    exact YK q
section
variable {X:Cx} {x:Str} {p pos:Pos} {e:Expr} {es:List Expr} {t:TA} {id T:String} {r:List V→Hp→VK→Prop}
noncomputable def SK (r:List V→Hp→VK→Prop) (t:TA):TE:=λσ H Q=>t σ H λvs H1=>r vs H1 Q
theorem Bk (hc:cV X (.builtin id) r) (hg:Gl X x) (hm:X.mg x=none) (hv:bootBuiltins x=some (.builtin id)) (ha:PA X (e::es) t) (hn:x≠"__name__":=by decide) (hdb:(x==("__debug__":Str))=false:=by decide)
    (he:Yj (e::es) X.env=(false,eval e X.env)::Yj es X.env:=by rfl) (hpl:(backTo pos (Yj es X.env)).any (·.1)=false:=by rfl):PE X (.Call (.Name x p) (e::es) [] pos) (SK r t):=by
  intro pins s σ H Q I h
  refine Yo (fh I hg hm hv ?_ hn hdb)
  exact aah (cO (ha pos pins s σ H _ I h) λus s1 zz=>by obtain ⟨vs,H1,I1,r1,q1⟩:=zz;exact hc pins s1 σ H1 vs us Q I1 r1 q1) he hpl
theorem zw (hc:cV X (.type T) r) (hg:Gl X x) (hm:X.mg x=none) (hv:bootBuiltins x=some (.type T)) (ha:PA X (e::es) t) (hn:x≠"__name__":=by decide) (hdb:(x==("__debug__":Str))=false:=by decide)
    (he:Yj (e::es) X.env=(false,eval e X.env)::Yj es X.env:=by rfl) (hpl:(backTo pos (Yj es X.env)).any (·.1)=false:=by rfl):PE X (.Call (.Name x p) (e::es) [] pos) (SK r t):=by
  intro pins s σ H Q I h
  refine Yo (fh I hg hm hv ?_ hn hdb)
  exact Yr (cO (ha pos pins s σ H _ I h) λus s1 zz=>by obtain ⟨vs,H1,I1,r1,q1⟩:=zz;exact hc pins s1 σ H1 vs us Q I1 r1 q1) he hpl
end
end L2
namespace HT
open PySem PyProof.Rows
theorem ue (A:Around) (s:XX) (a:Int) (t:Tok) (c:Int) (u:Tok):∃ e,acH A s (.int a t) (.int c u) e∧(e=true↔a=c):=
  ⟨(a==c),acH.int_int a t c u,by simp⟩
section
open PySem.SeqAt
open PySem.AutoSeq1 (wpAny_loadPart')
open PySem.MeetsSeq PySem.MeetsSeq2 PySem.MeetsSeq3
end
section
variable {prog:Yw} {w:YM} {A:Around} {E:XR→XX→Prop} {s:XX}
theorem EY {t b:Addr} {vs ws:List XR} {Q:XR→XX→Prop} (ht:IsTup s.heap t vs.toArray) (hb:IsTup s.heap b ws.toArray) (hv:vs≠[])
    (h1:ws=[]→Q (.ref t) s) (h2:ws≠[]→Q (.ref s.heap.objs.size) {s with heap:=s.heap.push {cls:=.type "tuple",data:=.seq (vs++ws).toArray}})
    (hsz:vs.length+ws.length≤XT):Ye (model prog w) A (binaryOp .Add (.ref t) (.ref b)) Q E s:=by
  obtain ⟨⟨cls,dd,data,sl⟩,ho,hc,n,hd⟩:=id ht
  obtain ⟨⟨EZ,dd2,data2,sl2⟩,ho2,hc2,n2,hd2⟩:=id hb
  simp only at hc hd hc2 hd2
  subst hc hd hc2 hd2
  have e:vs.toArray++ws.toArray=(vs++ws).toArray:=by simp
  by_cases hw:ws=[]
  · exact concat_meets ⟨_,ho,rfl⟩ ⟨_,ho2,rfl⟩ noFill_tuple_add seq_tuple_add aa1 aaV (aaM _ _)
      (tuple_addW1 t b vs.toArray ws.toArray n n2 dd dd2 sl sl2 (by simpa using hv) (by simp [hw])) ⟨ho,ho2,h1 hw⟩
  · refine concat_meets ⟨_,ho,rfl⟩ ⟨_,ho2,rfl⟩ noFill_tuple_add seq_tuple_add aa1 aaV (aaM _ _)
      (tuple_addW2 t b vs.toArray ws.toArray n n2 dd dd2 sl sl2 (by simpa using hv) (by simpa using hw) (by rw [Yb,Yb];exact hsz)) ⟨ho,ho2,?_⟩
    rw [e]
    exact h2 hw
noncomputable def fq (n d:Nat):Option Int→Nat
  | none=>d
  | some v=>if v<0 then (v+(n:Int)).toNat else min v.toNat n
theorem uf (n d:Nat):fq n d none=d:=rfl
theorem yg (n d k:Nat):fq n d (some (k:Int))=min k n:=by
  show (if (k:Int)<0 then ((k:Int)+(n:Int)).toNat else min (k:Int).toNat n)=min k n
  rw [if_neg (by nofun),Zf]
theorem JU (n d:Nat) (hd:d≤n) (o:Option Int):fq n d o≤n:=by
  cases o with
  | none=>exact hd
  | some v=>
    show (if v<0 then (v+(n:Int)).toNat else min v.toNat n)≤n
    by_cases hv:v<0
    · rw [if_pos hv];nofun
    · rw [if_neg hv];exact Nat.min_le_right _ _
theorem yh (v:Int) (n d:Nat):(if v<0 then max (v+(n:Int)) 0 else min v (n:Int))=((fq n d (some v):Nat):Int):=by
  show (if v<0 then max (v+(n:Int)) 0 else min v (n:Int))=(((if v<0 then (v+(n:Int)).toNat else min v.toNat n):Nat):Int)
  by_cases hv:v<0
  · simp only [if_pos hv];nofun
  · simp only [if_neg hv];nofun
theorem wI (lo hi:Option Int) (n:Nat):aaI lo hi 1 (n:Int)=(((fq n 0 lo:Nat):Int),((fq n n hi:Nat):Int)):=by
  have h1:¬ ((1:Int)<0):=by nofun
  unfold aaI
  simp only [h1,if_false]
  refine Prod.ext ?_ ?_
  · cases lo with
    | none=>rfl
    | some v=>exact yh v n 0
  · cases hi with
    | none=>rfl
    | some v=>exact yh v n n
theorem wJ (i j:Nat):ZW (i:Int) (j:Int) 1=j - i:=by
  unfold ZW
  have h1:(1:Int) > 0:=by nofun
  simp only [h1,if_true,Int.ediv_one]
  split<;>nofun
theorem oi {v:XR} {o:Option Int} {Q:Option Int→XX→Prop} (p:IsPart v o) (h:Q o s):Ye (model prog w) A (Builtin.Slice.slicePartIndex v) Q E s:=by
  cases p with
  | none=>exact slicePart_none h
  | int i t=>exact slicePart_int h
theorem mC {sl:Addr} {vl vu:XR} {lo hi:Option Int} {n:Nat} {Q:Int×Int×Nat→XX→Prop} (hs:s.heap.IsSliceOf sl vl vu .none) (pl:IsPart vl lo) (pu:IsPart vu hi)
    (h:Q (((fq n 0 lo:Nat):Int),1,fq n n hi - fq n 0 lo) s):Ye (model prog w) A (abw (.ref sl) (pure (n:Int))) Q E s:=by
  obtain ⟨os,hos,hcs,hds⟩:=id hs
  unfold abw Builtin.Slice.sliceFields
  refine XS (XS (YI hos hds (x:=vl) rfl (XS (YI hos hds (x:=vu) rfl (XS (YI hos hds (x:=.none) rfl (Yc ?_)))))))
  refine XS (slicePart_none ?_)
  show Ye _ _ (if ((1:Int)==0)=true then _ else _) _ _ s
  rw [if_neg (by decide)]
  refine XS (oi pl (XS (oi pu (XS (Yc ?_)))))
  show Ye _ _ (match aaI lo hi 1 (n:Int) with | (lo,hi)=>pure (lo,(1:Int),ZW lo hi 1)) _ _ s
  rw [wI lo hi n]
  show Ye _ _ (pure (((fq n 0 lo:Nat):Int),(1:Int),ZW ((fq n 0 lo:Nat):Int) ((fq n n hi:Nat):Int) 1)) _ _ s
  rw [wJ]
  exact Yc h
theorem Bl (xs:Array XR) (i k:Nat):((YF k).filterMap λ(m:Nat)=>xs[((i:Int)+(m:Int)*1).toNat]?).toArray=((xs.toList.drop i).take k).toArray:=by
  have e:(λ(m:Nat)=>xs[((i:Int)+(m:Int)*1).toNat]?)=λm=>xs[i+m]?:=by
    funext m
    have:((i:Int)+(m:Int)*1).toNat=i+m:=by nofun
    rw [this]
  rw [e]
  have:=pick_run xs i k
  rw [List.filterMap_map] at this
  have e2:((λx=>xs[x]?)∘λx=>i+x)=λm=>xs[i+m]?:=rfl
  rw [e2] at this
  rw [this]
theorem lI {t sl:Addr} {items:Array XR} {vl vu:XR} {lo hi:Option Int} {Q:XR→XX→Prop} (ht:IsTup s.heap t items) (hs:s.heap.IsSliceOf sl vl vu .none) (pl:IsPart vl lo) (pu:IsPart vu hi)
    (hw:¬ (fq items.size 0 lo=0∧fq items.size items.size hi=items.size))
    (h:Q (.ref s.heap.objs.size) {s with heap:=s.heap.push {cls:=.type "tuple",data:=.seq ((items.toList.drop (fq items.size 0 lo)).take (fq items.size items.size hi - fq items.size 0 lo)).toArray}})
    (hsz:items.size≤XT):Ye (model prog w) A (getItem (.ref t) (.ref sl)) Q E s:=by
  have yi:sizeOk (.seq ((items.toList.drop (fq items.size 0 lo)).take (fq items.size items.size hi - fq items.size 0 lo)).toArray):=by
    show ((items.toList.drop (fq items.size 0 lo)).take (fq items.size items.size hi - fq items.size 0 lo)).toArray.size≤XT
    rw [Yb,aaF,aba,abj]
    nofun
  have hj:fq items.size items.size hi≤items.size:=JU _ _ (X3 _) hi
  obtain ⟨os,hos,hcs,hds⟩:=id hs
  have Ut:s.TypeIs (.ref sl) "slice":=⟨os,hos,hcs⟩
  unfold getItem
  try with_reducible refine aau ?_
  first | refine XS (Yc ?_) | skip
  refine XS (wpAny_sequenceKey ht.typeIs (by decide) ?_)
  refine XS (Zb (name:=Z6 "__getitem__") ht.typeIs aad
    (Zu aad ht.typeIs entry_tuple_getitem ?_ (args_tuple_getitem _ _)))
  show Ye _ _ (Builtin.Tuple.tupleItemsOf (.ref t) >>= _) _ _ s
  refine XS (tupleItemsOf_ ht ?_)
  refine XS (acZ Ut ?_)
  rw [if_pos (by decide)]
  refine XS (mC hs pl pu ?_)
  have hno:¬ ((((fq items.size 0 lo:Nat):Int)==0&&(1:Int)==1&&(fq items.size items.size hi - fq items.size 0 lo)==items.size)=true):=by
    intro q
    rw [Y4,Y4] at q
    have q1:((fq items.size 0 lo:Nat):Int)=0:=eq_of_beq q.1.1
    have q2:fq items.size items.size hi - fq items.size 0 lo=items.size:=eq_of_beq q.2
    exact hw ⟨by nofun,by nofun⟩
  show Ye _ _ (if (((fq items.size 0 lo:Nat):Int)==0&&(1:Int)==1&&(fq items.size items.size hi - fq items.size 0 lo)==items.size)=true then _ else _) _ _ s
  rw [if_neg hno,Bl]
  first
    | exact XS (m:=Zh _) (YC (Yc ⟨_,rfl,Yc h⟩) yi)
    | exact XS (m:=Zh _) (YC (XS (Yc (Yc ⟨_,rfl,Yc h⟩))) yi)
    | exact XS (XS (m:=Zh _) (YC (Yc (Yc ⟨_,rfl,Yc h⟩)) yi))
    | exact XS (XS (m:=Zh _) (YC (Yc ⟨_,rfl,Yc h⟩) yi))
end
end HT
namespace L2
open PySem PySem.Spec PyProof.Rows
variable {r r':V→Option Int→Option Int→Hp→VK→Prop} {xs:List V} {pins:List (Addr×Obj)} {us its:List XR} {s:XX} {σ:St} {H:Hp} {α:Type} {p:Addr} {n j t':Nat} {i:Int} {T:String} {v f:XR}
noncomputable abbrev TO:=St→Hp→(Option Int→Hp→Prop)→Prop
noncomputable def PO (X:Cx) (e:Option Expr) (t:TO):Prop:=
  ∀ (pins:List (Addr×Obj)) (s:XX) (σ:St) (H:Hp) (Q:Option Int→Hp→Prop),Inv X pins σ H s→t σ H Q →
    Ye (model X.prog X.w) X.A (evalPart e X.env) (λu s'=>∃ o H',Inv X pins σ H' s'∧IsPart u o∧Q o H') X.xe s
noncomputable def E0:TO:=λ_ H Q=>Q none H
noncomputable def M7 (t:TE):TO:=λσ H Q=>t σ H λx H1=>∃ i,x=.int i∧Q (some i) H1
section
variable {X:Cx} {e:Expr} {te:TE} {lo hi:Option Expr} {tl th:TO} {pos p2:Pos}
theorem E2:PO X none E0:=by
  intro pins s σ H Q I h
  rw [evalPart_none]
  exact Yc ⟨none,H,I,.none,h⟩
theorem E3 (h:PE X e te):PO X (some e) (M7 te):=by
  intro pins s σ H Q I hw
  rw [evalPart_some]
  refine cO (h pins s σ H _ I hw) λu s1 zz=>?_
  obtain ⟨x,H1,I1,r1,q1⟩:=zz
  obtain ⟨i,rfl,q⟩:=q1
  obtain ⟨t,rfl⟩:=r1
  exact ⟨some i,H1,I1,.int i t,q⟩
noncomputable def HW (X:Cx) (r:V→Option Int→Option Int→Hp→VK→Prop):Prop:=
  ∀ (pins:List (Addr×Obj)) (s:XX) (σ:St) (H:Hp) (x:V) (v vl vu:XR) (lo hi:Option Int) (sl:Addr) (Q:VK),Inv X pins σ H s→RelV x v→s.heap.IsSliceOf sl vl vu .none→IsPart vl lo→IsPart vu hi→r x lo hi H Q →
    ∃ T id,typeLookup (.type T) "__getitem__"=pure (some (.builtin id))∧s.TypeIs v T∧Ye (model X.prog X.w) X.A (getItem v (.ref sl)) (EP X pins σ Q) X.xe s
theorem HW.or (h:HW X r) (h':HW X r'):HW X (λx lo hi H Q=>r x lo hi H Q∨r' x lo hi H Q):=by
  intro pins s σ H x v vl vu lo hi sl Q I rx hs pl pu q
  rcases q with q | q
  · exact h pins s σ H x v vl vu lo hi sl Q I rx hs pl pu q
  · exact h' pins s σ H x v vl vu lo hi sl Q I rx hs pl pu q
noncomputable def Uu (r:V→Option Int→Option Int→Hp→VK→Prop) (te:TE) (tl th:TO):TE:=λσ H Q=>te σ H λx H1=>tl σ H1 λl H2=>th σ H2 λu H3=>r x l u H3 Q
theorem Bm (hr:HW X r) (he:PE X e te) (hl:PO X lo tl) (hu:PO X hi th):PE X (.Subscript e (.Slice lo hi none p2) pos) (Uu r te tl th):=by
  intro pins s σ H Q I h
  refine Subscript_ (cO (he pins s σ H _ I h) λv s1 zz=>?_)
  obtain ⟨x,H1,I1,r1,q1⟩:=zz
  refine wpAny_Slice (cO (hl pins s1 σ H1 _ I1 q1) λvl s2 ⟨l,H2,I2,pl,q2⟩=>cO (hu pins s2 σ H2 _ I2 q2) λvu s3 zz=>?_)
  obtain ⟨u,H3,I3,pu,q3⟩:=zz
  rw [evalPart_none]
  refine Yc ?_
  have I4:Inv X pins σ H3 {s3 with heap:=s3.heap.push {cls:=.type "slice",data:=.fields #[vl,vu,.none]}}:=I3.kept (t':=s3.toks) λb ob q=>XW _ q
  obtain ⟨T,id,hT,ht,hg⟩:=hr pins {s3 with heap:=s3.heap.push {cls:=.type "slice",data:=.fields #[vl,vu,.none]}} σ H3 x v vl vu l u s3.heap.objs.size Q I4 r1 (acM ..) pl pu q3
  show Ye (model X.prog X.w) X.A (subscriptTail e (.Slice lo hi none p2) v (.ref s3.heap.objs.size)) (EP X pins σ Q) X.xe {s3 with heap:=s3.heap.push {cls:=.type "slice",data:=.fields #[vl,vu,.none]}}
  exact tail_any (ops:=[.ref s3.heap.objs.size,v]) ht hT hg (by with_unfolding_all rfl)
noncomputable def ug (xs:List V) (lo hi:Option Int):List V:=(xs.drop (HT.fq xs.length 0 lo)).take (HT.fq xs.length xs.length hi - HT.fq xs.length 0 lo)
theorem mY (xs:List V) (lo hi:Option Int):(ug xs lo hi).length≤xs.length:=by
  unfold ug
  rw [aaF,aba]
  nofun
noncomputable def Qz (K:XU):V→Option Int→Option Int→Hp→VK→Prop:=λx lo hi H Q=>∃ a xs,x=.ref a∧kI K H a xs ∧
  ¬ (HT.fq xs.length 0 lo=0∧HT.fq xs.length xs.length hi=xs.length)∧∀ p,H p=none→Q (.ref p) (upd H p (.tup (ug xs lo hi)))
theorem JW:HW X (Qz X.K):=by
  intro pins s σ H x v vl vu lo hi sl Q I rx hs pl pu h
  obtain ⟨a,xs,rfl,hx,hw,q⟩:=h
  cases rx
  obtain ⟨its,r,ht,hz⟩:=I.tuple hx
  have hlen:its.toArray.size=xs.length:=by rw [Yb];exact r.length.symm
  refine ⟨"tuple",_,aad.lookup,ht.typeIs,?_⟩
  refine HT.lI ht hs pl pu (by rw [hlen];exact hw) ?_ (by rw [hlen];exact hz)
  rw [hlen]
  refine ⟨.ref s.heap.objs.size,_,I.laid (t':=s.toks) (o:=.tup (ug xs lo hi)) (λb ob q=>XW _ q) (X3 _) ?_,rfl,q _ (I.hok.fresh (X3 _))⟩
  exact ⟨YV (mY xs lo hi) hz,_,(r.drop (HT.fq xs.length 0 lo)).take (HT.fq xs.length xs.length hi - HT.fq xs.length 0 lo),ac7 _ _⟩
noncomputable def M8 (K:XU):R2:=λx y H Q=>∃ a b xs ys,x=.ref a∧y=.ref b∧kI K H a xs∧kI K H b ys∧xs≠[]∧xs.length+ys.length≤XT ∧
  (ys=[]→Q (.ref a) H)∧(ys≠[]→∀ p,H p=none→Q (.ref p) (upd H p (.tup (xs++ys))))
theorem Vals.rW (r:Vals xs us):us=[]↔xs=[]:=by
  cases r with
  | nil=>simp
  | cons _ _=>simp
theorem E4:ia X (binaryOp .Add) (M8 X.K):=by
  intro pins s σ H x y v u Q I rx ry h
  obtain ⟨a,b,xs,ys,rfl,rfl,ha,hb,hx,hz,q1,q2⟩:=h
  cases rx
  cases ry
  obtain ⟨its,r1,p1,_⟩:=I.tuple ha
  obtain ⟨its2,r2,p2,_⟩:=I.tuple hb
  refine HT.EY p1 p2 (λz=>hx (r1.rW.mp z)) (λz=>⟨.ref a,H,I,rfl,q1 (r2.rW.mp z)⟩) (λz=>?_) (by rw [← r1.length,← r2.length];exact hz)
  refine ⟨.ref s.heap.objs.size,_,I.laid (t':=s.toks) (o:=.tup (xs++ys)) (λb ob q=>XW _ q) (X3 _) ?_,rfl,q2 (λw=>z (r2.rW.mpr w)) _ (I.hok.fresh (X3 _))⟩
  exact ⟨by rw [Yx];exact hz,_,r1.append r2,ac7 _ _⟩
end
noncomputable def vY (n:Nat) (i:Int):Option Nat:=if 0≤i then (if i<n then some i.toNat else none) else if -(n:Int)≤i then some (i+n).toNat else none
noncomputable def iV {α:Type} (xs:List α) (i:Int):Option α:=(vY xs.length i).bind λj=>xs[j]?
theorem yj (h:vY n i=some j):seqIndex? i n=some j∧j<n∧-(n:Int)≤i∧i<n:=by
  unfold vY at h
  by_cases h0:0≤i
  · rw [if_pos h0] at h
    by_cases h1:i<n
    · rw [if_pos h1] at h
      have e:i.toNat=j:=Yu h
      exact ⟨by rw [seqIndex_of h0 h1,e],by nofun,by nofun,h1⟩
    · rw [if_neg h1] at h;cases h
  · rw [if_neg h0] at h
    by_cases h1:-(n:Int)≤i
    · rw [if_pos h1] at h
      have e:(i+n).toNat=j:=Yu h
      exact ⟨by rw [seqIndex_neg (by nofun) h1,e],by nofun,h1,by nofun⟩
    · rw [if_neg h1] at h;cases h
theorem rX {α:Type} {xs:List α} {v:α} (h:iV xs i=some v):∃ j,seqIndex? i xs.length=some j∧xs[j]?=some v∧j<xs.length∧-(xs.length:Int)≤i∧i<xs.length:=by
  unfold iV at h
  cases e:vY xs.length i with
  | none=>rw [e] at h;cases h
  | some j=>
    rw [e] at h
    obtain ⟨h1,h2,h3,h4⟩:=yj e
    exact ⟨j,h1,h,h2,h3,h4⟩
theorem j3 {α:Type} {xs:List α} {v:α} (h:xs[j]?=some v):iV xs (j:Int)=some v:=by
  have hj:j<xs.length:=(XY.mp h).1
  have e:vY xs.length (j:Int)=some j:=by
    unfold vY
    rw [if_pos (by nofun),if_pos (by nofun)];simp
  unfold iV;rw [e];exact h
noncomputable def nP (b:Expr):Prop:=∀ o i,subscripted b false o i=operate [o,i] (getItem o i)
noncomputable def Ep (X:Cx) (r:R2):Prop:=
  ∀ (value slice:Expr) (pins:List (Addr×Obj)) (s:XX) (σ:St) (H:Hp) (x y:V) (v u:XR) (Q:VK),Inv X pins σ H s→RelV x v→RelV y u→r x y H Q →
    subscripted slice false v u=operate [v,u] (getItem v u)→Ye (model X.prog X.w) X.A (subscriptTail value slice v u) (EP X pins σ Q) X.xe s
noncomputable def AU (X:Cx) (id:String) (r:V→List V→Hp→VK→Prop):Prop:=
  ∀ (pins:List (Addr×Obj)) (s:XX) (σ:St) (H:Hp) (x:V) (xs:List V) (v:XR) (us:List XR) (Q:VK),Inv X pins σ H s→RelV x v→Vals xs us→r x xs H Q →
    Ye (model X.prog X.w) X.A (call (.builtin id) (v::us)) (EP X pins σ Q) X.xe s
section
variable {X:Cx} {a b:Expr} {ta tb:TE} {pos:Pos}
theorem Ep.or {r r':R2} (h:Ep X r) (h':Ep X r'):Ep X (λx y H Q=>r x y H Q∨r' x y H Q):=by
  intro value slice pins s σ H x y v u Q I rx ry q hs
  rcases q with q | q
  · exact h value slice pins s σ H x y v u Q I rx ry q hs
  · exact h' value slice pins s σ H x y v u Q I rx ry q hs
theorem AU.or {id:String} {r r':V→List V→Hp→VK→Prop} (h:AU X id r) (h':AU X id r'):AU X id (λx xs H Q=>r x xs H Q∨r' x xs H Q):=by
  intro pins s σ H x xs v us Q I rx rs q
  rcases q with q | q
  · exact h pins s σ H x xs v us Q I rx rs q
  · exact h' pins s σ H x xs v us Q I rx rs q
theorem M9 {r:R2} (hr:Ep X r) (ha:PE X a ta) (hb:PE X b tb) (hs:nP b):PE X (.Subscript a b pos) (MR r ta tb):=by
  intro pins s σ H Q I h
  exact Subscript_ (Jw ha hb I h λv u s2 x y H2 I2 rx ry q=>hr a b pins s2 σ H2 x y v u Q I2 rx ry q (hs _ _))
noncomputable def QB (K:XU):R2:=λx y H Q=>∃ p xs i v,x=.ref p∧y=.int i∧j0 K H p xs∧iV xs i=some v∧Q v H
noncomputable def QC (K:XU):R2:=λx y H Q=>∃ p xs i v,x=.ref p∧y=.int i∧kI K H p xs∧iV xs i=some v∧Q v H
noncomputable def QD:R2:=λx y H Q=>∃ z i c,x=.str z∧y=.int i∧z.length≤XT∧iV z.cps.toList i=some c∧Q (.str ⟨#[c]⟩) H
theorem E5:Ep X (QB X.K):=by
  intro value slice pins s σ H x y v u Q I rx ry h hs
  obtain ⟨p,xs,i,z,rfl,rfl,hq,he,q⟩:=h
  cases rx
  obtain ⟨t,rfl⟩:=ry
  obtain ⟨its,r,pl,hz⟩:=I.list hq
  obtain ⟨j,h1,h2,h3,h4,h5⟩:=rX he
  obtain ⟨w,ew,rw'⟩:=r.get h2
  have hl:=r.length
  have hn:=kK
  have fin:EP X pins σ Q w s:=⟨z,H,I,rw',q⟩
  by_cases h0:0≤i
  · have hj:i.toNat=j:=by
      rw [seqIndex_of h0 h5] at h1
      exact Yu h1
    exact item_listR pl.isList h0 (by nofun) (by rw [hj];simpa using ew) fin hs
  · have hj:(i+(its.toArray.size:Int)).toNat=j:=by
      rw [seqIndex_neg (by nofun) h4] at h1
      rw [Yb,← hl]
      exact Yu h1
    exact subscriptTail_builtinR (x:=w) pl.isList.typeIs slot_list_getitem.lookup
      (wpAny_getItem_list_neg (Q:=λr s'=>r=w∧EP X pins σ Q r s') pl.isList (by nofun) (by rw [Yb]<;>nofun) (by nofun) (by rw [hj];simpa using ew) ⟨rfl,fin⟩) hs
theorem JX:Ep X (QC X.K):=by
  intro value slice pins s σ H x y v u Q I rx ry h hs
  obtain ⟨p,xs,i,z,rfl,rfl,hq,he,q⟩:=h
  cases rx
  obtain ⟨t,rfl⟩:=ry
  obtain ⟨its,r,pl,hz⟩:=I.tuple hq
  obtain ⟨j,h1,h2,h3,h4,h5⟩:=rX he
  obtain ⟨w,ew,rw'⟩:=r.get h2
  have hl:=r.length
  have hn:=kK
  have fin:EP X pins σ Q w s:=⟨z,H,I,rw',q⟩
  exact subscriptTail_builtinR (x:=w) pl.typeIs slot_tuple_getitem.lookup
    (getItem_tuple (j:=j) (Q:=λr s'=>r=w∧EP X pins σ Q r s') pl (by nofun) (by nofun) (by rw [Yb,← hl];exact h1) (by simpa using ew) ⟨rfl,fin⟩) hs
theorem JY:Ep X QD:=by
  intro value slice pins s σ H x y v u Q I rx ry h hs
  obtain ⟨z,i,c,rfl,rfl,hz,he,q⟩:=h
  obtain ⟨t,rfl⟩:=rx
  obtain ⟨t',rfl⟩:=ry
  obtain ⟨j,h1,h2,h3,h4,h5⟩:=rX he
  have hl:z.cps.toList.length=z.length:=by simp [Str.length]
  rw [hl] at h1 h4 h5
  have hn:=kK
  exact tail_any (typeIs_str s z t) slot_str_getitem.lookup (getItem_str (c:=c) (by
    have e1:decide (i < -(2^63:Int))=false:=decide_eq_false (by nofun)
    have e2:decide (i ≥ 2^63)=false:=decide_eq_false (by nofun)
    rw [e1,e2,Bool.or_false]) (by rw [h1];simpa using h2) ⟨.str ⟨#[c]⟩,H,I.tok _,⟨_,rfl⟩,q⟩) hs
theorem wK (its:List XR) (n j:Nat) (u:XR):aaB (·.setIfInBounds j u) {cls:=.type "list",data:=.seq its.toArray n}={cls:=.type "list",data:=.seq (its.set j u).toArray n}:=by
  simp [aaB]
theorem Inv.lst (I:Inv X pins σ H s) (h:H p=some (.lst xs)) :
    ∃ (its:List XR) (n:Nat),Vals xs its∧s.heap.get? p=some {cls:=.type "list",data:=.seq its.toArray n}∧xs.length≤XT:=by
  obtain ⟨z,its,n,r,e⟩:=I.hok p _ h
  exact ⟨its,n,r,e,z⟩
theorem Inv.JZ {ys:List V} {its its':List XR} {n n':Nat} {f:Obj→Obj} (I:Inv X pins σ H s) (h:H p=some (.lst xs))
    (ho:s.heap.get? p=some {cls:=.type "list",data:=.seq its.toArray n}) (hf:f {cls:=.type "list",data:=.seq its.toArray n}={cls:=.type "list",data:=.seq its'.toArray n'}) (r:Vals ys its') (hz:ys.length≤XT) (t:Nat) (ht:0<t:=by first | exact YJ _ | exact (Inv.os (by assumption)).2 | assumption | nofun) :
    Inv X pins σ (upd H p (.lst ys)) {s with heap:=s.heap.update p f,toks:=t}:=by
  have e:(s.heap.update p f).get? p=some {cls:=.type "list",data:=.seq its'.toArray n'}:=by
    rw [YB f ho (by rw [hf]<;>rfl),hf]
  refine I.write (x:=p) (e:=p) (by rw [h];trivial) (.inl rfl) (λb u hb q=>(Yt _ _ (Y6 hb)).trans q) ⟨_,e⟩ ?_
  exact ⟨hz,its',n',r,e⟩
noncomputable def Na:V→V→V→Hp→(Hp→Prop)→Prop:=λo i v H Q=>∃ p xs k j,o=.ref p∧i=.int k∧H p=some (.lst xs)∧vY xs.length k=some j∧Q (upd H p (.lst (xs.set j v)))
theorem set_list:MP X Na:=by
  intro pins s σ H o i v ov iv u Q I ro ri rv h
  obtain ⟨p,xs,k,j,rfl,rfl,hp,hj,q⟩:=h
  cases ro
  obtain ⟨t,rfl⟩:=ri
  obtain ⟨its,n,r,ho,hz⟩:=I.lst hp
  obtain ⟨h1,h2,h3,h4⟩:=yj hj
  have hl:=r.length
  have hn:=kK
  have I':Inv X pins σ (upd H p (.lst (xs.set j v))) {s with heap:=s.heap.update p (aaB (·.setIfInBounds j u))}:=
    I.JZ hp ho (wK its n j u) (r.set rv j) (by rw [List.length_set];exact hz) s.toks
  by_cases h0:0≤k
  · have hk:k.toNat=j:=by
      rw [seqIndex_of h0 h4] at h1
      exact Yu h1
    exact PySem.W.ki_setAt ho h0 (by nofun) (by rw [Yb,← hl];exact h4) (by rw [hk];exact ⟨_,I',q⟩)
  · have hk:(k+(its.toArray.size:Int)).toNat=j:=by
      rw [seqIndex_neg (by nofun) h3] at h1
      rw [Yb,← hl]
      exact Yu h1
    exact PySem.W.ki_setBack ho (by nofun) (by rw [Yb,← hl];exact h3) (by nofun) (by rw [hk];exact ⟨_,I',q⟩)
theorem rY (lo hi:Option Int) (n:Nat):(sliceBounds lo hi none n).1=((HT.fq n 0 lo:Nat):Int)∧(sliceBounds lo hi none n).2.1=((HT.fq n n hi:Nat):Int)∧(sliceBounds lo hi none n).2.2=1:=by
  refine ⟨?_,?_,rfl⟩
  · cases lo with
    | none=>simp [sliceBounds,HT.fq]
    | some i=>
      simp only [sliceBounds,HT.fq,Option.getD_none,show (1:Int) > 0 by decide,if_true]
      by_cases h:i<0
      · simp only [h,if_true]<;>nofun
      · simp only [h,if_false]<;>nofun
  · cases hi with
    | none=>simp [sliceBounds,HT.fq]
    | some i=>
      simp only [sliceBounds,HT.fq,Option.getD_none,show (1:Int) > 0 by decide,if_true]
      by_cases h:i<0
      · simp only [h,if_true]<;>nofun
      · simp only [h,if_false]<;>nofun
theorem pW (its:List XR) (lo hi:Option Int):slicePick its.toArray lo hi none=((its.drop (HT.fq its.length 0 lo)).take (HT.fq its.length its.length hi - HT.fq its.length 0 lo)).toArray:=by
  obtain ⟨h1,h2,h3⟩:=rY lo hi its.toArray.size
  unfold slicePick
  rw [h1,h2,h3]
  simp only [sliceRange_one,pick_run,Yb]<;>rfl
noncomputable def QF (K:XU):V→Option Int→Option Int→Hp→VK→Prop:=λx lo hi H Q=>∃ a xs,x=.ref a∧j0 K H a xs∧∀ p,H p=none→Q (.ref p) (upd H p (.lst (ug xs lo hi)))
theorem E6:HW X (QF X.K):=by
  intro pins s σ H x v vl vu lo hi sl Q I rx hs pl pu h
  obtain ⟨a,xs,rfl,hx,q⟩:=h
  cases rx
  obtain ⟨its,r,ht,hz⟩:=I.list hx
  have hlen:=r.length
  refine ⟨"list",_,slot_list_getitem.lookup,ht.isList.typeIs,?_⟩
  refine wpAny_getItem_list_slice ht.isList hs pl pu .none (by simp) ?_ (by rw [Yb]<;>nofun)
  rw [pW,← hlen]
  refine ⟨.ref s.heap.objs.size,_,I.laid (t':=s.toks) (o:=.lst (ug xs lo hi)) (λb ob q=>XW _ q) (X3 _) ?_,rfl,q _ (I.hok.fresh (X3 _))⟩
  exact ⟨YV (mY xs lo hi) hz,_,0,(r.drop (HT.fq xs.length 0 lo)).take (HT.fq xs.length xs.length hi - HT.fq xs.length 0 lo),X6 _ rfl⟩
theorem lJ:cV X (.builtin "len") (λxs H Q=>∃ p ys,xs=[.ref p]∧(j0 X.K H p ys∨kI X.K H p ys)∧Q (.int ys.length) H):=by
  intro pins s σ H xs us Q I r h
  obtain ⟨p,ys,rfl,hq,q⟩:=h
  obtain ⟨u,rfl,rx⟩:=vals1 r
  cases rx
  have hn:=kK
  rcases hq with hq | hq
  · obtain ⟨its,r',pl,hz⟩:=I.list hq
    have hlen:=r'.length
    exact Calls.call_len_list pl.isList (by simp only [Yb]<;>nofun) ⟨.int ys.length,H,I.tok _,⟨s.toks+1,by rw [Yb,hlen]⟩,q⟩
  · obtain ⟨its,r',pl,hz⟩:=I.tuple hq
    have hlen:=r'.length
    exact len_tuple pl (by simp only [Yb]<;>nofun) ⟨.int ys.length,H,I.tok _,⟨s.toks+1,by rw [Yb,hlen]⟩,q⟩
theorem rZ:cV X (.builtin "len") (λxs H Q=>∃ z,xs=[.str z]∧z.length≤XT∧Q (.int z.length) H):=by
  intro pins s σ H xs us Q I r h
  obtain ⟨z,rfl,hz,q⟩:=h
  obtain ⟨u,rfl,t,rfl⟩:=vals1 r
  have hn:=kK
  exact len_str (by nofun) ⟨.int z.length,H,I.tok _,⟨_,rfl⟩,q⟩
theorem cV.or {r r':List V→Hp→VK→Prop} (h:cV X f r) (h':cV X f r'):cV X f (λxs H Q=>r xs H Q∨r' xs H Q):=by
  intro pins s σ H xs us Q I rs q
  rcases q with q | q
  · exact h pins s σ H xs us Q I rs q
  · exact h' pins s σ H xs us Q I rs q
theorem lK:cV X (.type "list") (λxs H Q=>∃ p ys,xs=[.ref p]∧(j0 X.K H p ys∨kI X.K H p ys)∧∀ l,H l=none→Q (.ref l) (upd H l (.lst ys))):=by
  intro pins s σ H xs us Q I r h
  obtain ⟨p,ys,rfl,hq,q⟩:=h
  obtain ⟨u,rfl,rx⟩:=vals1 r
  cases rx
  have fin:∀ (its:List XR),Vals ys its→ys.length≤XT→∀ (h':Heap) (c':Nat),(∀ b o',s.heap.get? b=some o'→h'.get? b=some o') →
      h'.get? s.heap.objs.size=some {cls:=.type "list",dict:=none,data:=.seq its.toArray c',slots:=#[]}→EP X pins σ Q (.ref s.heap.objs.size) {s with heap:=h'}:=λits r' hz h' c' kp e=>
    ⟨.ref s.heap.objs.size,_,I.laid (t':=s.toks) kp (X3 _) (show dZ X.prog X.w _ h' _ (.lst ys) from ⟨hz,its,c',r',e⟩),rfl,q _ (I.hok.fresh (X3 _))⟩
  rcases hq with hq | hq
  · obtain ⟨its,r',pl,hz⟩:=I.list hq
    have hlen:=r'.length
    obtain ⟨o,ho,hc,n,hd⟩:=pl.isList
    exact call_list_seq p (.inl rfl) ho hc hd (λh' c' kp e=>fin its r' hz h' c' kp e) (by simp only [Yb]<;>nofun)
  · obtain ⟨its,r',pl,hz⟩:=I.tuple hq
    have hlen:=r'.length
    obtain ⟨o,ho,hc,n,hd⟩:=pl
    exact call_list_seq p (.inr rfl) ho hc hd (λh' c' kp e=>fin its r' hz h' c' kp e) (by simp only [Yb]<;>nofun)
theorem kC:cV X (.type "tuple") (λxs H Q=>∃ p ys,xs=[.ref p]∧((j0 X.K H p ys∧∀ l,H l=none→Q (.ref l) (upd H l (.tup ys)))∨(kI X.K H p ys∧Q (.ref p) H))):=by
  intro pins s σ H xs us Q I r h
  obtain ⟨p,ys,rfl,h⟩:=h
  obtain ⟨u,rfl,rx⟩:=vals1 r
  cases rx
  rcases h with ⟨hq,q⟩ | ⟨hq,q⟩
  · obtain ⟨its,r',pl,hz⟩:=I.list hq
    have hlen:=r'.length
    refine call_tuple_list pl.isList (λh' kp=>?_) (by simp only [Yb]<;>nofun)
    have I1:Inv X pins σ H {s with heap:=h'}:=I.kept (t':=s.toks) kp
    have I2:Inv X pins σ (upd H h'.objs.size (.tup ys)) {s with heap:=h'.push {cls:=.type "tuple",data:=.seq its.toArray}}:=
      I1.laid (t':=s.toks) (λb o e=>XW _ e) (X3 _) (show dZ X.prog X.w _ _ _ (.tup ys) from ⟨hz,its,r',ac7 _ _⟩)
    exact ⟨.ref h'.objs.size,_,I2,rfl,q _ (I1.hok.fresh (X3 _))⟩
  · obtain ⟨its,r',pl,hz⟩:=I.tuple hq
    exact call_tuple_same pl ⟨.ref p,H,I,rfl,q⟩
noncomputable def Pe (K:XU) (T:String) (x:V) (H:Hp):Prop:=match x with
  | .str _=>T="str"
  | .int _=>T="int"
  | .ref p=>(T="list"∧∃ xs,j0 K H p xs)∨(T="tuple"∧∃ o,K.lookup p=some o∧o.cls=.type "tuple"∧o.dict=none) ∨
      (T="dict"∧((∃ kvs,H p=some (.dK kvs))∨∃ kvs,H p=some (.dT kvs)))∨(T="set"∧∃ S n,H p=some (.set S n))
  | _=>False
theorem Bo {x:V} (I:Inv X pins σ H s) (r:RelV x v) (ty:Pe X.K T x H) :
    s.TypeIs v T∧∀ a,v=.ref a→∃ ob,s.heap.get? a=some ob∧ob.dict=none:=by
  cases x with
  | str z=>
    obtain ⟨t,rfl⟩:=r
    cases (show T="str" from ty)
    exact ⟨typeIs_str s z t,λ_ e=>nomatch e⟩
  | int i=>
    obtain ⟨t,rfl⟩:=r
    cases (show T="int" from ty)
    exact ⟨typeIs_int s i t,λ_ e=>nomatch e⟩
  | ref p=>
    cases r
    rcases ty with ⟨rfl,xs,hq⟩ | ⟨rfl,o,hk,hc,hd⟩ | ⟨rfl,hk⟩ | ⟨rfl,S,n,hk⟩
    · obtain ⟨its,_,pl,_⟩:=I.list hq
      refine ⟨pl.isList.typeIs,λa e=>?_⟩
      cases e
      obtain ⟨o,n,e,c,hd,_⟩:=pl
      exact ⟨o,e,hd⟩
    · refine ⟨⟨o,I.nN p o hk,hc⟩,λa e=>?_⟩
      cases e
      exact ⟨o,I.nN _ o hk,hd⟩
    · have z:∃ o,s.heap.get? p=some o∧o.ExactDict:=by
        rcases hk with ⟨kvs,hk⟩ | ⟨kvs,hk⟩
        · obtain ⟨_,_,_,_,o,_,_,e,ex,_⟩:=I.hok p _ hk
          exact ⟨o,e,ex⟩
        · obtain ⟨_,_,_,_,o,_,_,e,ex,_⟩:=I.hok p _ hk
          exact ⟨o,e,ex⟩
      obtain ⟨o,e,ex⟩:=z
      refine ⟨⟨o,e,ex.1⟩,λa e2=>?_⟩
      cases e2
      exact ⟨o,e,ex.2.1⟩
    · obtain ⟨o,_,_,_,e,ex,_⟩:=I.hok p _ hk
      refine ⟨⟨o,e,ex.1⟩,λa e2=>?_⟩
      cases e2
      exact ⟨o,e,ex.2.1⟩
  | _=>exact YK ty
noncomputable def QH (K:XU) (T:String) (r:V→List V→Hp→VK→Prop) (to:TE):TE:=λσ H Q=>to σ H λx H1=>Pe K T x H1∧r x [] H1 Q
noncomputable def Uv (K:XU) (T:String) (r:V→List V→Hp→VK→Prop) (to:TE) (t:TA):TE:=λσ H Q=>to σ H λx H1=>Pe K T x H1∧t σ H1 λxs H2=>r x xs H2 Q
variable {o e:Expr} {es:List Expr} {to:TE} {t:TA} {name:Str} {apos cpos:Pos} {T id:String} {r:V→List V→Hp→VK→Prop}
theorem J0 (pa:PlainAttrs T) (slot:Slot T name id) (hty:typeOf (.builtin id)=pure (.type "method_descriptor")) (hm:AU X id r) (ho:PE X o to)
    (hbase:attributeBase o name X.env (eval o X.env)=eval o X.env:=by rfl) (hline:(apos.endLine==cpos.line)=true:=by rfl):PE X (.Call (.Attribute o name apos) [] [] cpos) (QH X.K T r to):=by
  intro pins s σ H Q I h
  refine wpAny_Call_method0_late hbase hline (cO (ho pins s σ H _ I h) λv s1 zz=>?_)
  obtain ⟨x,H1,I1,r1,ty,q1⟩:=zz
  obtain ⟨h1,h2⟩:=Bo I1 r1 ty
  exact ⟨T,id,pa,slot,hty,h1,h2,ab1 rfl (PySem.evalArgs_none (hm pins s1 σ H1 x [] v [] Q I1 r1 .nil q1))⟩
theorem Nb (pa:PlainAttrs T) (slot:Slot T name id) (hty:typeOf (.builtin id)=pure (.type "method_descriptor")) (hm:AU X id r) (ho:PE X o to) (ha:PA X (e::es) t)
    (hbase:attributeBase o name X.env (eval o X.env)=eval o X.env:=by rfl)
    (hfew:((backTo cpos (Yj (e::es) X.env)).all (λx=>!x.1)&&(backToKw cpos (keywordEach [] X.env)).all (λx=>x.1.isSome)
      && decide ((e::es).length+([]:List Keyword).length+(if ([]:List Keyword).isEmpty then 0 else 1)<30))=true:=by rfl)
    (hline:(apos.endLine==cpos.line)=true:=by rfl) (hs:Yj (e::es) X.env=(false,eval e X.env)::Yj es X.env:=by rfl) (hplain:(backTo cpos (Yj es X.env)).any (·.1)=false:=by rfl) :
    PE X (.Call (.Attribute o name apos) (e::es) [] cpos) (Uv X.K T r to t):=by
  intro pins s σ H Q I h
  refine wpAny_Call_method_late hbase hfew hline rfl (cO (ho pins s σ H _ I h) λv s1 zz=>?_)
  obtain ⟨x,H1,I1,r1,ty,q1⟩:=zz
  obtain ⟨h1,h2⟩:=Bo I1 r1 ty
  refine ⟨T,id,pa,slot,hty,h1,h2,?_⟩
  have hA:=ha cpos pins s1 σ H1 _ I1 q1
  rw [hs] at hA ⊢
  refine ab1 (by show (false||(backTo cpos (Yj es X.env)).any (·.1))=false;rw [hplain]<;>rfl) (Calls.evalArgs_plain ?_)
  exact cO hA λus s2 zz=>by obtain ⟨vs,H2,I2,r2,q2⟩:=zz;exact hm pins s2 σ H2 x vs v us Q I2 r1 r2 q2
end
noncomputable def SM (X:Cx) (id:String) (r:V→List V→Hp→VK→Prop):Prop:=
  ∀ (pins:List (Addr×Obj)) (s:XX) (σ:St) (H:Hp) (x:V) (xs:List V) (v:XR) (us:List XR) (Q:VK),Inv X pins σ H s→RelV x v→Vals xs us→r x xs H Q →
    Ye (model X.prog X.w) X.A (call (.builtin id) (v::us)) (EP X pins σ Q) X.xe s
theorem Vals.one:∀ {x:V} {us:List XR},Vals [x] us→∃ u,us=[u]∧RelV x u
  | _,_,.cons r .nil=>⟨_,rfl,r⟩
theorem Vals.zero:∀ {us:List XR},Vals [] us→us=[]
  | _,.nil=>rfl
theorem Vals.dropLast (h:Vals xs us):Vals xs.dropLast us.dropLast:=by
  induction h with
  | nil=>exact .nil
  | cons r t ih=>
    cases t with
    | nil=>exact .nil
    | cons q t'=>exact .cons r ih
theorem Vals.eraseIdx:∀ {xs:List V} {us:List XR} (i:Nat),Vals xs us→Vals (xs.eraseIdx i) (us.eraseIdx i)
  | _,_,_,.nil=>.nil
  | _,_,0,.cons _ t=>t
  | _,_,i+1,.cons r t=>.cons r (Vals.eraseIdx i t)
theorem Vals.reverse (h:Vals xs us):Vals xs.reverse us.reverse:=by
  induction h with
  | nil=>exact .nil
  | cons r t ih=>rw [Y7,Y7];exact Vals.append ih (.cons r .nil)
theorem Vals.rep (h:Vals xs us):∀ k:Nat,Vals (Yi k xs).flatten (Yi k us).flatten
  | 0=>.nil
  | k+1=>by
    rw [Zp,Zp,Z7,Z7]
    exact Vals.append h (Vals.rep h k)
theorem wL (l:List α):l.eraseIdx (l.length - 1)=l.dropLast:=by
  induction l with
  | nil=>rfl
  | cons a r ih=>
    cases r with
    | nil=>rfl
    | cons b r=>
      have e:(a::b::r).length - 1=((b::r).length - 1)+1:=by
        have h1:(a::b::r).length=r.length+2:=rfl
        have h2:(b::r).length=r.length+1:=rfl
        nofun
      rw [e,List.eraseIdx_cons_succ,ih]
      all_goals rfl
theorem foldl_rep (its:List XR):∀ (k:Nat) (acc:List XR),
    ads (λx1 x2=>x1++x2) acc.toArray (Yi k its.toArray)=(acc++(Yi k its).flatten).toArray
  | 0,acc=>by simp
  | k+1,acc=>by
    have e:acc.toArray++its.toArray=(acc++its).toArray:=by simp
    have e2:(acc++its)++(Yi k its).flatten=acc++(Yi (k+1) its).flatten:=by
      rw [Zp,Z7,Y8]
    rw [← e2,← foldl_rep its k (acc++its),← e,Zp,List.foldl_cons]
section
variable {X:Cx} {pins:List (Addr×Obj)} {σ:St} {H:Hp} {s:XX} {l b:Addr} {xs ys zs:List V}
theorem Inv.J1 {its its':List XR} {n:Nat} {f:Array XR→Array XR} {t':Nat} (I:Inv X pins σ H s) (hH:H l=some (.lst xs))
    (e:s.heap.get? l=some {cls:=.type "list",data:=.seq its.toArray n}) (hf:f its.toArray=its'.toArray) (hv:Vals ys its') (hz:ys.length≤XT) (ht:0<t':=by first | exact YJ _ | exact (Inv.os (by assumption)).2 | assumption | nofun) :
    Inv X pins σ (upd H l (.lst ys)) {s with heap:=s.heap.update l (aaB f),toks:=t'}:=by
  have q:=PySem.IsL.update e f
  rw [hf] at q
  refine I.write (x:=l) (e:=l) (by rw [hH];exact trivial) (.inl rfl) (λb' u hb hu=>(Yt s.heap (aaB f) (Y6 hb)).trans hu) ⟨_,q⟩ ?_
  exact ⟨hz,its',_,hv,q⟩
theorem Inv.Nc (I:Inv X pins σ H s) (hv:Vals ys its) (hz:ys.length≤XT) (ht:0<t':=by first | exact YJ _ | exact (Inv.os (by assumption)).2 | assumption | nofun) :
    Inv X pins σ (upd H s.heap.objs.size (.lst ys)) {s with heap:=s.heap.push {cls:=.type "list",data:=.seq its.toArray},toks:=t'}:=
  I.laid (λ_ _ q=>XW _ q) (X3 _) ⟨hz,its,0,hv,X6 _ rfl⟩
theorem Inv.fresh (I:Inv X pins σ H s):H s.heap.objs.size=none:=I.hok.fresh (X3 _)
theorem Inv.E7 (I:Inv X pins σ H s) (hH:H l=some (.lst xs)):xs.length≤XT∧∃ (its:List XR) (n:Nat),Vals xs its∧xs.length=its.length∧s.heap.get? l=some {cls:=.type "list",data:=.seq its.toArray n}:=by
  obtain ⟨z,its,n,r,e⟩:=I.hok l _ hH
  exact ⟨z,its,n,r,r.length,e⟩
theorem uh (h:n≤XT):Zy n=false:=by
  unfold Zy
  exact decide_eq_false (by nofun)
end
section
variable {X:Cx}
noncomputable def E8:V→List V→Hp→VK→Prop:=λx vs H Q=>∃ l xs y,x=.ref l∧vs=[y]∧H l=some (.lst xs)∧xs.length<XT∧Q .cz (upd H l (.lst (xs++[y])))
theorem qK:SM X "list.append" E8:=by
  intro pins s σ H x vs v us Q I rx rv h
  obtain ⟨l,xs,y,rfl,rfl,hH,hz,q⟩:=h
  cases rx
  obtain ⟨u,rfl,ru⟩:=rv.one
  obtain ⟨z,its,n,r,hl,e⟩:=I.E7 hH
  refine call_meets F.slot_list_append ⟨_,e,rfl⟩ F.entry_list_append (F.args_list_append_2 _ _) (PySem.list_append l its.toArray n u (by rw [Yb];nofun)) ⟨e,?_⟩
  refine ⟨.cz,_,I.J1 (its':=its++[u]) hH e (by simp) (r.append (.cons ru .nil)) ?_,rfl,q⟩
  rw [Yx,acd]
  nofun
noncomputable def QJ:V→List V→Hp→VK→Prop:=λx vs H Q=>∃ l xs y,x=.ref l∧vs=[]∧H l=some (.lst xs)∧xs[xs.length - 1]?=some y∧Q y (upd H l (.lst xs.dropLast))
theorem J2:SM X "list.pop" QJ:=by
  intro pins s σ H x vs v us Q I rx rv h
  obtain ⟨l,xs,y,rfl,rfl,hH,hy,q⟩:=h
  cases rx
  have oj:=rv.zero
  subst oj
  obtain ⟨z,its,n,r,hl,e⟩:=I.E7 hH
  obtain ⟨u,hu,ru⟩:=r.get hy
  have hy':its.toArray[its.toArray.size - 1]?=some u:=by
    show its.toArray[its.length - 1]?=some u
    rw [← Array.getElem?_toList,← hl]
    exact hu
  refine call_meets F.slot_list_pop ⟨_,e,rfl⟩ F.entry_list_pop (F.args_list_pop_1 _) (MeetsSeq.list_pop_last l its.toArray n u hy' (by rw [Yb];nofun)) ⟨e,?_⟩
  refine ⟨y,_,I.J1 (its':=its.dropLast) hH e ?_ r.dropLast ?_,ru,q⟩
  · show its.toArray.eraseIdxIfInBounds (its.toArray.size - 1)=its.dropLast.toArray
    rw [Yb,List.eraseIdxIfInBounds_toArray,wL]
  · rw [List.length_dropLast]
    nofun
noncomputable def QK:R2:=λx y H Q=>∃ l k xs,x=.ref l∧y=.int k∧H l=some (.lst xs)∧-(2^63)≤k∧k<2^63∧xs.length*k.toNat≤XT ∧
  ∀ p,H p=none→Q (.ref p) (upd H p (.lst (Yi k.toNat xs).flatten))
theorem len_rep (xs:List α) (k:Nat):(Yi k xs).flatten.length=k*xs.length:=by
  induction k with
  | zero=>simp
  | succ k ih=>rw [Zp,Z7,Yx,ih,Nat.succ_mul,Nat.add_comm]
theorem J3:ia X (binaryOp .Mult) QK:=by
  intro pins s σ H x y v u Q I rx ry h
  obtain ⟨l,k,xs,rfl,rfl,hH,h1,h2,hz,q⟩:=h
  cases rx
  obtain ⟨t,rfl⟩:=ry
  obtain ⟨z,its,n,r,hl,e⟩:=I.E7 hH
  have hlen:its.toArray.size*k.toNat≤XT:=by rw [Yb,← hl];exact hz
  have hcap:¬ its.toArray.size*k.toNat > (2^63 - 1) / 8:=by
    have:(XT:Nat)≤(2^63 - 1) / 8:=by decide
    nofun
  have hfit:¬ (!Builtin.List.listFitsIndex k)=true:=by
    rw [fitsIndex_both h1 h2]
    exact YH
  have Bp:¬ Zy (its.toArray.size*k.toNat)=true:=by
    rw [uh hlen]
    exact YH
  have hnew:ads (λx1 x2=>x1++x2) #[] (Yi (if its.toArray.isEmpty=true then 0 else k.toNat) its.toArray)=(Yi k.toNat its).flatten.toArray:=by
    have f0:∀ m:Nat,ads (λx1 x2=>x1++x2) #[] (Yi m its.toArray)=(Yi m its).flatten.toArray:=λm=>by
      have:=foldl_rep its m []
      rw [YX] at this
      exact this
    rw [f0]
    cases its with
    | nil=>simp
    | cons a r'=>rw [if_neg (by simp)]
  refine wpAny_binaryOp_repeat_ref (T:="list") (U:="int") (by decide) ⟨_,e,rfl⟩ (λs'=>typeIs_int s' k t) noFill_list_mul F.fills_int_mul adk repeat_list F.slot_int_index.lookup
    (call_meets adk (typeIs_int s k t) F.entry_int_rmul (F.args_int_rmul_2 _ _) (int___rmul___int_list k t l its.toArray n)
      ⟨e,rfl,⟨_,e,rfl⟩,call_meets F.slot_list_mul ⟨_,e,rfl⟩ F.entry_list_mul (F.args_list_mul_2 _ _) (AutoListH.list___mul___list_int_3 l its.toArray n k t hfit hcap Bp) ⟨e,?_⟩⟩)
  rw [hnew]
  exact ⟨.ref _,_,I.Nc (t':=s.toks) (r.rep k.toNat) (by rw [len_rep,Nat.mul_comm];exact hz),rfl,q _ I.fresh⟩
end
end L2
namespace SN
open PySem PySem.W PySem.Calls PyProof.Rows
theorem nB {P:Params} {h:Heap}:∀ (ns:List Int) (vs:List XR),WellAll P h vs (ns.map WData.int)→IntsAre vs ns:=by
  intro ns
  induction ns with
  | nil=>
    intro vs w
    rw [Yl] at w
    cases w
    exact .nil
  | cons n ns ih=>
    intro vs w
    rw [X8] at w
    cases w with
    | cons a b=>
      cases a
      exact .cons _ _ (ih _ b)
theorem zx {l:OpenLaw} {n:Nat} (hn:l.most=some n) {P:Params} {h:Heap} {args:List WData} {vals:List XR}
    (hpre:l.row.toRowW.claim.pre args=true) (hwl:WellAll P h vals args) :
    ∃ a vs ns,vals=[Value.ref a]∧args=[WData.list (ns.map WData.int)]∧h.get? a=some {cls:=.type "list",data:=.seq vs.toArray}∧IntsAre vs ns∧ns.length≤n:=by
  have hsh:WShape.hasAll [] args [.list .int]=true:=(pre_splitW hpre).1
  have hc:l.pre.holds [] {args:=args}=true:=(pre_splitW hpre).2
  obtain ⟨d,r,rfl,h1,h2⟩:=hasAllW_cons hsh
  obtain rfl:=hasAllW_nil h2
  obtain ⟨xs,rfl,h3⟩:=hasW_list h1
  obtain ⟨ns,rfl⟩:=items_int h3
  have hlen:ns.length≤n:=by
    unfold OpenLaw.pre at hc
    have h4:(WTm.not (.lt (.lit (.int (n:Int))) (.len (.arg 0)))).holds [] {args:=[.list (ns.map .int)]}=true:=by
      have h4:=(holds_andW hc).1
      rw [hn] at h4
      exact h4
    have h5:=condW_of h4 (w_not (w_lt w_lit (w_len_list (w_arg rfl))))
    rw [Yh] at h5
    refine ac8 λq=>?_
    have q':(n:Int)<((ns.length:Nat):Int):=by nofun
    first
      | (rw [decide_eq_true q'] at h5;exact absurd h5 (by decide))
      | (simp at h5;nofun)
  cases hwl with
  | cons w1 w2=>
    cases w2
    cases w1 with
    | list ho hall=>exact ⟨_,_,ns,rfl,rfl,ho,nB ns _ hall,hlen⟩
theorem zy (l:OpenLaw) (args:List WData):l.row.toRowW.claim.post args (.bool true) args=true:=
  postW_of (r:=l.row.toRowW) (X:=(true==true))
    (show WShape.has [] (.bool true) .bool=true by first | rfl | decide | simp [WShape.has,WShape.arms,WShape.armsAll])
    (show (WTm.eq .res (.lit (.bool true))).value [] {args:=args,res:=some (.bool true),after:=args}=some (.bool (true==true)) from w_eq_bool (w_res rfl) w_lit) rfl
theorem um {l:OpenLaw} {n:Nat} {q:Yw} {loose:List Str} {XP:(Str→Option XR)→Heap→Prop} {YP:YM→Heap→Prop} {d:DefRec}
    (hn:l.most=some n) (hdf:d.params.defaults=[])
    (call:∀ (w:YM) (s₀ s₁:XX) (mg mb:Str→Option XR) (fa:Addr) (o:Obj) (pm cd doc:XR) (a:Addr) (vs:List XR) (ns:List Int),
      Ground q loose [] XP w s₀ mg mb s₁.heap→YP w s₁.heap →
      s₁.heap.get? fa=some o→o.data=.func (docDef d.name d.params d.body d.scope pm cd doc)→s₁.heap.CodeRec cd d.name→mg d.name=some (.ref fa) →
      s₁.heap.get? a=some {cls:=.type "list",data:=.seq vs.toArray}→IntsAre vs ns→ns.length≤n→s₁.gens=#[] →
      codeAny (model l.prog w) callerA (.call (.ref fa) ⟨[.ref a],[]⟩) (λr s'=>r=.ok (.ret (.bool true))∧OldK s₁.heap s'.heap∧s'.os=s₁.os∧AllBare s'.gens) s₁) :
    WalkO q loose XP YP l.row.toRowW d [] (λf vs=>adt f vs):=by
  intro w s₀ s₁ mg mb G Y fa o pm cd doc dV kV ho hd hcd hD hmg hg args vals as hpre hlay hrd hwl hlo
  obtain rfl:dV=.none:=Dflts.none hD hdf
  obtain rfl:kV=.none:=Dflts.noKw hD
  obtain ⟨a,vs,ns,rfl,rfl,hobj,hints,hlen⟩:=zx hn hpre hwl
  refine enter_call (codeAny_mono (call w s₀ s₁ mg mb fa o pm cd doc a vs ns G Y ho (fd_plain hd) hcd hmg hobj hints hlen hg) λr s' hq=>?_)
  obtain ⟨rfl,h2,h3,h4⟩:=hq
  exact ⟨.inl ⟨.bool true,.bool true,[],rfl,λ_=>rfl,.bool true,zy l _,λ_=>⟨List.Pairwise.nil,λ_ hm=>(nomatch hm)⟩⟩,h2,h3,h4⟩
end SN
namespace L2
open PySem PySem.Spec PyProof.Rows
variable {kvs:List (List Key×V)} {xs:List (List Key×Addr×XR)} {H H':Hp} {P:Yw} {Fe:List (TE×TE)} {w:YM} {X:Cx} {pos:Pos} {o:Option V} {Q:XR→XX→Prop} {osl:Array (Option XR)} {ks:List (Option Expr)} {qual x:Str} {vs:List (Key×XR)} {h':Heap} {pins:List (Addr×Obj)} {f a:Addr} {u:Option XR} {od an:Option Addr} {values:List Expr} {fd:FuncData} {s:XX} {pm oc doc d' ct cdv:XR} {v:Expr} {t':Nat}
theorem qL:∀ {vs:List XR} {ns:List Int},IntsAre vs ns→Vals (ns.map V.int) vs
  | _,_,.nil=>.nil
  | _,_,.cons n t h=>.cons ⟨t,rfl⟩ (qL h)
noncomputable def gT (s:Stmt):Arguments:=match s with
  | .FunctionDef _ a _ _ _ _ _ _ _ _=>a
  | _=>{posonlyargs:=[],args:=[],vararg:=none,kwonlyargs:=[],kw_defaults:=[],kwarg:=none,defaults:=[]}
noncomputable def bS (s:Stmt):List Stmt:=match s with
  | .FunctionDef _ _ b _ _ _ _ _ _ _=>b
  | _=>[]
noncomputable def au (s:Stmt):Scope:=match s with
  | .FunctionDef _ _ _ _ _ _ sc _ _ _=>sc
  | _=>{kind:=.function,names:=[],isGenerator:=false,isCoroutine:=false}
structure r6 (K:XU) (x qual:Str) (st:Stmt) (f:Addr) (fd:FuncData):Prop where
  ex:∃ (oc:XR) (od:Option Addr) (kV doc pm:XR) (an:Option Addr) (cdv ct:XR) (osl:Array (Option XR)),
    fd=Zj x qual (gT st) (bS st) (au st) .none kV doc pm an cdv ct∧K.lookup f=some ⟨oc,od,.func fd,osl⟩∧aag K cdv qual=true
  kp:YE K (.ref f)=true
section
variable {P:Yw} {w:YM} {K:XU} {mg:Str→Option XR} {base:Heap}
theorem r6.binds {st:Stmt} {ps:List Str} (F:r6 K x qual st f fd)
    (h:∀ (kV doc pm:XR) (an:Option Addr) (cdv ct:XR) (us:List XR),us.length=ps.length→bindArgs (Zj x qual (gT st) (bS st) (au st) .none kV doc pm an cdv ct) ⟨us,[]⟩=pure (ps.zip us)):Binds K fd ps []:=by
  obtain ⟨oc,od,kV,doc,pm,an,cdv,ct,osl,rfl,lk,hcd⟩:=F.ex
  exact .all (h kV doc pm an cdv ct)
theorem Bq {st:Stmt} {kV:XR} (l:K.lookup f=some ⟨oc,od,.func (Zj x qual (gT st) (bS st) (au st) .none kV doc pm an cdv ct),osl⟩)
    (c:aag K cdv qual=true) (k:YE K (.ref f)=true):r6 K x qual st f (Zj x qual (gT st) (bS st) (au st) .none kV doc pm an cdv ct):=⟨⟨oc,od,kV,doc,pm,an,cdv,ct,osl,rfl,l,c⟩,k⟩
end
noncomputable def Nd (H H':Hp):Prop:=∀ b o,H b=some o→H' b=some o
theorem Nd.free (e:Nd H H') {l:Addr} (h:H' l=Option.none):H l=Option.none:=by
  cases q:H l with
  | none=>rfl
  | some o=>
    rw [e l o q] at h
    cases h
section
variable {κ:Type} [DecidableEq κ]
noncomputable def kM (kvs:List (κ×V)) (k:κ):Option V:=(kvs.find? λkv=>decide (kv.1=k)).map (·.2)
noncomputable def putK (kvs:List (κ×V)) (k:κ) (v:V):List (κ×V):=
  if (kvs.any λkv=>decide (kv.1=k))=true then kvs.map (λkv=>if kv.1=k then (kv.1,v) else kv) else kvs++[(k,v)]
theorem uo {p:κ×V} {r:List (κ×V)} {k:κ} (e:p.1=k):kM (p::r) k=some p.2:=by simp [kM,aar,e]
theorem om {p:κ×V} {r:List (κ×V)} {k:κ} (e:¬ p.1=k):kM (p::r) k=kM r k:=by simp [kM,aar,e]
theorem uq (kvs:List (κ×V)) (k:κ) (v:V):(putK kvs k v).length≤kvs.length+1:=by
  unfold putK
  split
  · rw [Yh];nofun
  · rw [Yx,Ym,Zc];nofun
theorem ko.getD {d:V} (r:ko o u) (rd:RelV d d'):RelV (o.getD d) (u.getD d'):=by
  cases o with
  | none=>cases u with
    | none=>exact rd
    | some _=>exact (show False from r).elim
  | some _=>cases u with
    | none=>exact (show False from r).elim
    | some _=>exact r
theorem KV.val {kvs:List (κ×V)} {vs:List (κ×XR)} (r:KV kvs vs) (k:κ):ko (kM kvs k) (valueAt vs k):=by
  unfold KV at r
  induction r with
  | nil=>exact aam
  | @cons p q ps qs h t ih=>
    obtain ⟨h1,h2⟩:=h
    by_cases e:p.1=k
    · have e':q.1=k:=h1.symm.trans e
      have b:valueAt (q::qs) k=some q.2:=by simp [valueAt,aar,e']
      rw [uo e,b];exact h2
    · have e':¬ q.1=k:=λz=>e (h1.trans z)
      have b:valueAt (q::qs) k=valueAt qs k:=by simp [valueAt,aar,e']
      rw [om e,b];exact ih
theorem KV.any {kvs:List (κ×V)} {vs:List (κ×XR)} (r:KV kvs vs) (k:κ):(kvs.any λkv=>decide (kv.1=k))=vs.any λkv=>decide (kv.1=k):=by
  unfold KV at r
  induction r with
  | nil=>rfl
  | cons h t ih=>rw [List.any_cons,List.any_cons,ih,h.1]
theorem KV.repl {kvs:List (κ×V)} {vs:List (κ×XR)} (r:KV kvs vs) (k:κ) {y:V} {u:XR} (ry:RelV y u) :
    KV (kvs.map λkv=>if kv.1=k then (kv.1,y) else kv) (vs.map λkv=>if kv.1=k then (kv.1,u) else kv):=by
  unfold KV at r ⊢
  induction r with
  | nil=>exact .nil
  | @cons p q ps qs h t ih=>
    rw [X8,X8]
    refine .cons ?_ ih
    obtain ⟨h1,h2⟩:=h
    by_cases e:p.1=k
    · rw [if_pos e,if_pos (h1.symm.trans e)];exact ⟨h1,ry⟩
    · rw [if_neg e,if_neg (λz=>e (h1.trans z))];exact ⟨h1,h2⟩
theorem KV.put {kvs:List (κ×V)} {vs:List (κ×XR)} (r:KV kvs vs) (k:κ) {y:V} {u:XR} (ry:RelV y u):KV (putK kvs k y) (stored vs k u):=by
  unfold putK stored
  rw [r.any k]
  by_cases e:(vs.any λkv=>decide (kv.1=k))=true
  · rw [if_pos e,if_pos e];exact r.repl k ry
  · rw [if_neg e,if_neg e];exact Paired.snoc r ⟨rfl,ry⟩
theorem KV.keys {kvs:List (κ×V)} {vs:List (κ×XR)} (r:KV kvs vs):kvs.map (·.1)=vs.map (·.1):=by
  unfold KV at r
  induction r with
  | nil=>rfl
  | cons h t ih=>rw [X8,X8,ih,h.1]
end
theorem Br {k:Key} {u:XR} (r:RelV (kV k) u):(dH P w).is k u=true:=by
  cases k with
  | inl i=>obtain ⟨t,e⟩:=(show ∃ t,u=Value.int i t from r);subst e;exact t8 P w i t
  | inr x=>obtain ⟨t,e⟩:=(show ∃ t,u=Value.str x t from r);subst e;exact t9 P w x t
theorem qM {P:Yw} {w:YM}:∀ {ks:List Key} {us:List XR},Vals (ks.map kV) us→ItemsAre (dH P w) ks us
  | [],_,r=>by rw [Yl] at r;cases r;exact .nil
  | k::ks,_,r=>by
    rw [X8] at r
    cases r with
    | cons h t=>exact .cons (Br h) (qM t)
noncomputable abbrev KT (H:Hp):List (List Key×V)→List (List Key×Addr×XR)→Prop:=Paired λp q=>p.1=q.1∧H q.2.1=some (.tup (p.1.map kV))∧RelV p.2 q.2.2
theorem KT.val (r:KT H kvs xs) (k:List Key):ko (kM kvs k) ((atKey xs k).map (·.2)):=by
  induction r with
  | nil=>exact aam
  | @cons p q ps qs h t ih=>
    obtain ⟨h1,_,h2⟩:=h
    by_cases e:p.1=k
    · have e':q.1=k:=h1.symm.trans e
      have b:atKey (q::qs) k=some q.2:=by simp [atKey,aar,e']
      rw [uo e,b];exact h2
    · have e':¬ q.1=k:=λz=>e (h1.trans z)
      have b:atKey (q::qs) k=atKey qs k:=by simp [atKey,aar,e']
      rw [om e,b];exact ih
theorem KT.keeps (r:KT H kvs xs) (ht:∀ b ys,H b=some (.tup ys)→H' b=some (.tup ys)):KT H' kvs xs:=
  Paired.Je r λ_ _ z=>⟨z.1,ht _ _ z.2.1,z.2.2⟩
section
variable {P:Yw} {w:YM} {H:Hp} {h:Heap} {a:Addr}
theorem HX {u:HO} (ok:i8 P w H h) (e:Rd H a u):dZ P w H h a u:=e.ok ok
theorem Bs {kvs:List (Key×V)} (ok:i8 P w H h) (e:Rd H a (.dK kvs)):kvs.length≤XT∧(a==sysModules)=false∧∃ vs,KV kvs vs∧h.DictOf (dH P w) a vs:=
  show dZ P w H h a (.dK kvs) from HX ok e
theorem Nf {kvs:List (Key×V)} (ok:i8 P w H h) (e:H a=some (.dK kvs)):kvs.length≤XT∧(a==sysModules)=false∧∃ vs,KV kvs vs∧h.DictOf (dH P w) a vs:=Bs ok (.inl e)
theorem Bt {ks:List Key} (ok:i8 P w H h) (e:H a=some (.tup (ks.map kV))):(tupleKind (dH P w)).is h ks a:=by
  obtain ⟨_,its,r,o,h1,h2,n,h3⟩:=(show dZ P w H h a (.tup (ks.map kV)) from ok a _ e)
  exact ⟨o,its.toArray,n,h1,h2,h3,by simpa using qM r⟩
theorem HY (ok:i8 P w H h) (e:Rd H a (.dT kvs)):kvs.length≤XT∧(a==sysModules)=false ∧
    ∃ xs,KT H kvs xs∧h.DictOfH (tupleKind (dH P w)) a xs:=by
  obtain ⟨z,y,xs,r,o,es,ep,h1,h2,h3,h4,h5⟩:=(show dZ P w H h a (.dT kvs) from HX ok e)
  refine ⟨z,y,xs,r,o,es,ep,h1,h2,h3,h4,λx hx=>?_,h5⟩
  have all:∀ {l:List (List Key×V)} {m:List (List Key×Addr×XR)},KT H l m→∀ x∈m,(tupleKind (dH P w)).is h x.1 x.2.1:=by
    intro l m q
    induction q with
    | nil=>intro x hx;exact nomatch hx
    | @cons p q ps qs hq t ih=>
      intro x hx
      rcases Yn.mp hx with e | hx
      · subst e
        exact Bt ok (by rw [← hq.1];exact hq.2.1)
      · exact ih x hx
  exact all r x hx
end
noncomputable def Bu (H:Hp) (a:Addr) (y:V) (r:Option V):Prop:=
  (∃ kvs k,Rd H a (.dK kvs)∧y=kV k∧r=kM kvs k)∨∃ kvs k b,Rd H a (.dT kvs)∧y=.ref b∧H b=some (.tup (k.map kV))∧r=kM kvs k
noncomputable def J4 (H:Hp) (a:Addr) (y v:V) (H':Hp):Prop:=
  (∃ kvs k,H a=some (.dK kvs)∧y=kV k∧kvs.length<XT∧H'=upd H a (.dK (putK kvs k v))) ∨
  ∃ kvs k b,H a=some (.dT kvs)∧y=.ref b∧H b=some (.tup (k.map kV))∧kvs.length<XT∧H'=upd H a (.dT (putK kvs k v))
theorem Bu.k {H:Hp} {a:Addr} {kvs:List (Key×V)} {k:Key} (e:H a=some (.dK kvs)):Bu H a (kV k) (kM kvs k):=.inl ⟨kvs,k,.inl e,rfl,rfl⟩
theorem J4.k {H:Hp} {a:Addr} {kvs:List (Key×V)} {k:Key} {v:V} (e:H a=some (.dK kvs)) (hl:kvs.length<XT):J4 H a (kV k) v (upd H a (.dK (putK kvs k v))):=.inl ⟨kvs,k,e,rfl,hl,rfl⟩
section
variable {X:Cx} {pins:List (Addr×Obj)} {σ:St} {H:Hp} {s:XX} {a:Addr} {y v:V} {u r:XR} {o:Option V} {A:Around} {E:XR→XX→Prop}
theorem Inv.big (I:Inv X pins σ H s):sysModules<s.heap.objs.size:=by
  have h:mainGlobals<s.heap.objs.size:=(I.mod.glob.keeps I.bk).lt
  exact Nat.lt_trans (by decide) h
theorem zA (hu:A.units+1<cLine) (I:Inv X pins σ H s) (g:Bu H a y (some v)) (ry:RelV y u) (h:∀ w' s',Inv X pins σ H s'→RelV v w'→Q w' s') :
    Ye (model X.prog X.w) A (getItem (.ref a) u) Q E s:=by
  rcases g with ⟨kvs,k,e,ey,l⟩ | ⟨kvs,k,b,e,ey,eb,l⟩
  · subst ey
    obtain ⟨z,hd,vs,rel,dd⟩:=Bs I.hok e
    obtain ⟨w',hw,rw'⟩:=ko.some_of (v:=v) (o:=valueAt vs k) (by rw [l];exact rel.val k)
    exact wpAny_getItem_of (Br ry) dd.mapOf hw (h w' _ (I.tok _) rw')
  · subst ey
    cases (show u=Value.ref b from ry)
    obtain ⟨z,hd,xs,rel,dd⟩:=HY I.hok e
    obtain ⟨w',hw,rw'⟩:=ko.some_of (v:=v) (o:=(atKey xs k).map (·.2)) (by rw [l];exact rel.val k)
    obtain ⟨p,hp,hp2⟩:=Option.map_eq_some_iff.mp hw
    refine wpAny_getItem_heap (tupleKind_room_in1 hu) (Bt I.hok eb) dd hp ?_
    rw [hp2]
    exact h w' _ (I.tok _) rw'
theorem E9 {ob:HO} (I:Inv X pins σ H s) (mu:Mx (H a)) (hs:ZM a s.heap h') (he:∃ q,h'.get? a=some q) (new:dZ X.prog X.w (upd H a ob) h' a ob) (ht:0<t':=by first | exact YJ _ | exact (Inv.os (by assumption)).2 | assumption | nofun) :
    Inv X pins σ (upd H a ob) {s with heap:=h',toks:=t'}:=
  I.write (x:=a) (e:=a) mu (.inl rfl) (λb q hb z=>(hs.2 b hb).trans z) he new
theorem J5 {kvs:List (Key×V)} (z:kvs.length≤XT) (hd:(a==sysModules)=false) (rel:KV kvs vs) (dd:h'.DictOf (dH P w) a vs) :
    dZ P w H' h' a (.dK kvs):=⟨z,hd,vs,rel,dd⟩
end
noncomputable def Fb (i:Expr):Prop:=∀ ov iv,subscripted i false ov iv=operate [ov,iv] (getItem ov iv)
theorem Fc {prog:Yw} {w:YM} {A:Around} {E:XR→XX→Prop} {s:XX} {env:Env} {value slice:Expr} {pos:Pos} {T id:String} {Q:XR→XX→Prop}
    (hl:typeLookup (.type T) "__getitem__"=pure (some (.builtin id))) (hs:Fb slice)
    (h:Ye (model prog w) A (eval value env) (λo s₁=>Ye (model prog w) A (eval slice env) (λi s₂=>s₂.TypeIs o T∧Ye (model prog w) A (getItem o i) Q E s₂) E s₁) E s) :
    Ye (model prog w) A (eval (.Subscript value slice pos) env) Q E s:=by
  refine Subscript_ (YG h (λo s₁ h₁=>YG h₁ (λi s₂ h₂=>?_) λ_ _ x=>x) λ_ _ x=>x)
  obtain ⟨hT,h₂⟩:=h₂
  unfold subscriptTail
  refine XS ?_
  rw [getitemInPython_of_ne hT.not_modules]
  refine XS (aas hT hl ?_)
  have fin:Ye (model prog w) A (subscripted slice false o i) (λr s₃=>Ye (model prog w) A (letTemporaryGo value o r >>= λ_=>pure r) Q E s₃) E s₂:=by
    rw [hs o i]
    exact wpAny_operating (YG h₂ (λr s₃ h₃=>XS (wpAny_letTemporaryGo (Yc h₃))) λ_ _ x=>x)
  first
    | exact Yc (XS fin)
    | exact XS (Yc (XS fin))
    | exact XS fin
theorem ur {σ:St} {y:V} (I:Inv X pins σ H s) (g:Bu H a y o):s.TypeIs (.ref a) "dict":=by
  rcases g with ⟨kvs,k,e,_,_⟩ | ⟨kvs,k,b,e,_,_,_⟩
  · obtain ⟨_,_,vs,_,dd⟩:=Bs I.hok e
    exact dd.typeIs
  · obtain ⟨_,_,xs,_,dd⟩:=HY I.hok e
    exact dd.typeIs
noncomputable def Ng (td ty:TE):TE:=λσ H Q=>td σ H λx H1=>ty σ H1 λy H2=>∃ a v,x=.ref a∧Bu H2 a y (some v)∧Q v H2
noncomputable def Bv (td ty tv:TE):TS:=λD σ H=>tv σ H λv H1=>td σ H1 λx H2=>ty σ H2 λy H3=>∃ a H4,x=.ref a∧J4 H3 a y v H4∧D.nx σ H4
section
variable {X:Cx} {o i e value:Expr} {pos pos' tpos:Pos} {td ty tv:TE}
theorem Fd (hu:X.A.units+1<cLine) (ho:PE X o td) (hi:PE X i ty) (hs:Fb i):PE X (.Subscript o i pos) (Ng td ty):=by
  intro pins s σ H Q I h
  refine Fc PySem.F.slot_dict_getitem.lookup hs (cO (ho pins s σ H _ I h) λu s1 ⟨x,H1,I1,rx,q1⟩=>cO (hi pins s1 σ H1 _ I1 q1) λiv s2 zz=>?_)
  obtain ⟨y,H2,I2,ry,a,v,ex,g,q2⟩:=zz
  subst ex
  obtain rfl:u=Value.ref a:=rx
  exact ⟨ur I2 g,zA hu I2 g ry λw' s3 I3 rw'=>⟨v,H2,I3,rw',q2⟩⟩
end
theorem uu (h:Heap) (hb:sysModules<h.objs.size):dZ P w H (h.push {cls:=.type "dict",data:=.dict #[]}) h.objs.size (.dK []):=
  ⟨Z4 _,beq_eq_false_iff_ne.mpr (Y6 (Yg hb)),[],.nil,Heap.DictOf.new h⟩
noncomputable def J6:TE:=λ_ H Q=>∀ p,H p=none→Q (.ref p) (upd H p (.dK []))
section
variable {X:Cx} {pos:Pos}
theorem Bw:PE X (.Dict [] [] pos) J6:=λpins s σ H Q I h=>
  wpAny_Dict_empty ⟨.ref s.heap.objs.size,_,I.laid (a:=s.heap.objs.size) (o:=.dK []) (t':=s.toks) (λ_ _ q=>XW _ q) (X3 _) (uu s.heap I.big),rfl,h _ (I.hok.fresh (X3 _))⟩
end
noncomputable def r8:List (TE×TE)→St→Hp→(List (V×V)→Hp→Prop)→Prop
  | [],_,H,Q=>Q [] H
  | (tk,tv)::r,σ,H,Q=>tk σ H λx H1=>tv σ H1 λy H2=>r8 r σ H2 λps H3=>Q ((x,y)::ps) H3
noncomputable abbrev VV:List (V×V)→List (XR×XR)→Prop:=Paired λp q=>RelV p.1 q.1∧RelV p.2 q.2
noncomputable def HZ (X:Cx) (pos:Pos) (keys:List (Option Expr)) (values:List Expr) (Fe:List (TE×TE)):Prop:=
  ∀ (pins:List (Addr×Obj)) (s:XX) (σ:St) (H:Hp) (Q:List (V×V)→Hp→Prop),Inv X pins σ H s→r8 Fe σ H Q →
    Ye (model X.prog X.w) X.A (evalPairs (pairTrees keys values X.env pos)) (λvs s'=>∃ ps H',Inv X pins σ H' s'∧VV ps vs∧Q ps H') X.xe s
theorem Ff:HZ X pos [] [] []:=λpins s σ H Q I h=>pairTrees_nil_walk ⟨[],H,I,.nil,h⟩
theorem Bx {k:Expr} {vs:List Expr} {tk tv:TE} (hk:PE X k tk) (hv:PE X v tv) (hr:HZ X pos ks vs Fe) :
    HZ X pos (some k::ks) (v::vs) ((tk,tv)::Fe):=λpins s σ H Q I h=>
  pairTrees_cons_walk (cO (hk pins s σ H _ I h) λu s1 ⟨x,H1,I1,rx,q1⟩=>cO (hv pins s1 σ H1 _ I1 q1) λw2 s2 ⟨y,H2,I2,ry,q2⟩=>
    cO (hr pins s2 σ H2 _ I2 q2) λws s3 zz=>by obtain ⟨ps,H3,I3,rel,q3⟩:=zz;exact ⟨(x,y)::ps,H3,I3,.cons ⟨rx,ry⟩ rel,q3⟩)
noncomputable def jM (kvs more:List (Key×V)):List (Key×V):=more.foldl (λacc kv=>putK acc kv.1 kv.2) kvs
theorem KV.merge:∀ {more:List (Key×V)} {rs:List (Key×XR)} {kvs:List (Key×V)} {vs:List (Key×XR)},KV more rs→KV kvs vs→KV (jM kvs more) (merged vs rs):=by
  intro more rs kvs vs r
  unfold KV at r
  induction r generalizing kvs vs with
  | nil=>intro q;exact q
  | @cons p q ps qs h t ih=>
    intro r0
    have e:KV (putK kvs p.1 p.2) (stored vs q.1 q.2):=by
      have:=r0.put p.1 h.2
      rw [← h.1];exact this
    exact ih e
theorem kD:∀ (more kvs:List (Key×V)),(jM kvs more).length≤kvs.length+more.length
  | [],kvs=>by show kvs.length≤kvs.length+0;nofun
  | p::r,kvs=>by
    have h1:=kD r (putK kvs p.1 p.2)
    have h2:=uq kvs p.1 p.2
    show (jM (putK kvs p.1 p.2) r).length≤_
    rw [Ym];nofun
theorem oq {P:Yw} {w:YM}:∀ {kvs:List (Key×V)} {ws:List (XR×XR)},VV (kvs.map λkv=>(kV kv.1,kv.2)) ws→∃ rs,Carries (dH P w) ws rs∧KV kvs rs
  | [],_,r=>by rw [Yl] at r;cases r;exact ⟨[],aam,.nil⟩
  | p::kvs,_,r=>by
    rw [X8] at r
    cases r with
    | @cons a b as bs h t=>
      obtain ⟨rs,c,q⟩:=oq (P:=P) (w:=w) t
      obtain ⟨b1,b2⟩:=b
      exact ⟨(p.1,b2)::rs,⟨Br h.1,rfl,c⟩,.cons ⟨rfl,h.2⟩ q⟩
noncomputable def Nh (Fe:List (TE×TE)):TE:=λσ H Q=>∀ p,H p=none→r8 Fe σ (upd H p (.dK [])) λps H2=>H2 p=some (.dK [])∧∃ kvs:List (Key×V),ps=kvs.map (λkv=>(kV kv.1,kv.2))∧kvs.length≤15∧Q (.ref p) (upd H2 p (.dK (jM [] kvs)))
theorem Fg {keys:List (Option Expr)} (h:HZ X pos keys values Fe) (hall:keys.all (·.isSome)=true) (hl:keys.length=values.length) (h0:keys≠[])
    (QL:keys.length≤15):PE X (.Dict keys values pos) (Nh Fe):=by
  intro pins s σ H Q I q
  have hn:=I.hok.fresh (X3 s.heap.objs.size)
  have I1:=I.laid (a:=s.heap.objs.size) (o:=.dK []) (h':=s.heap.push {cls:=.type "dict",data:=.dict #[]}) (t':=s.toks) (λ_ _ q=>XW _ q) (X3 _) (uu s.heap I.big)
  refine wpAny_Dict_walk (knd:=dH X.prog X.w) hall hl h0 QL (cO (h pins _ σ _ _ I1 (q _ hn)) λws s2 zz=>?_)
  obtain ⟨ps,H2,I2,rel,e,kvs,ep,lk,q2⟩:=zz
  subst ep
  obtain ⟨rs,c,rk⟩:=oq (P:=X.prog) (w:=X.w) rel
  obtain ⟨z,hd,Pf,r0,dd⟩:=Nf I2.hok e
  cases r0
  refine ⟨rs,c,dd,λh' SO hs=>⟨.ref s.heap.objs.size,_,?_,rfl,q2⟩⟩
  have hz:(jM [] kvs).length≤XT:=by
    have h1:=kD kvs []
    rw [Zc] at h1
    rw [sizeLine_eq];nofun
  have he:∃ q,h'.get? s.heap.objs.size=some q:=let ⟨q,_,_,hq,_⟩:=SO;⟨q,hq⟩
  exact E9 I2 (by rw [e];exact aam) hs he (J5 hz hd (rk.merge .nil) SO) (X7 I2.os.2 (ac9 _ _))
structure M1 (X:Cx) (o:Expr) (m:Str) (apos:Pos) (e:Expr) (cpos:Pos):Prop where
  base:attributeBase o m X.env (eval o X.env)=eval o X.env
  few:((backTo cpos (Yj [e] X.env)).all (λx=>!x.1)&&(backToKw cpos (keywordEach [] X.env)).all (λx=>x.1.isSome)
    && decide (([e]:List Expr).length+([]:List Keyword).length+(if ([]:List Keyword).isEmpty then 0 else 1)<30))=true
  line:(apos.endLine==cpos.line)=true
  trees:backTo cpos (Yj [e] X.env)=[(false,eval e X.env)]
structure M2 (X:Cx) (o:Expr) (m:Str) (apos:Pos) (e f:Expr) (cpos:Pos):Prop where
  base:attributeBase o m X.env (eval o X.env)=eval o X.env
  few:((backTo cpos (Yj [e,f] X.env)).all (λx=>!x.1)&&(backToKw cpos (keywordEach [] X.env)).all (λx=>x.1.isSome)
    && decide (([e,f]:List Expr).length+([]:List Keyword).length+(if ([]:List Keyword).isEmpty then 0 else 1)<30))=true
  line:(apos.endLine==cpos.line)=true
  trees:backTo cpos (Yj [e,f] X.env)=[(false,eval e X.env),(false,eval f X.env)]
end L2
set_option genInjectivity true
namespace L3
open PySem PySem.Spec L2
variable {K:XU} {mg:Str→Option XR} {ρ ρ0 fp ρ' wr ch as:List Addr} {H H0 H':Hp} {es values:List Expr} {pins gS:List (Addr×Obj)} {Q E E':XR→XX→Prop} {e tg o:Expr} {n i nn j t' n' ep:Nat} {items ps' ws:Array XR} {s s0 s1:XX} {a l it C c c' Pt dx b fA cA c0:Addr} {σ σ0:L2.St} {w:YM} {y x qual name z y0:Str} {P prog q Pg:Yw} {xs vs ys ni:List V} {fd:FuncData} {p:List XR→Prop} {sl o4 s2:Array (Option XR)} {A A':Around} {body els:List Stmt} {cl:List (Str×Addr)} {h h' base B:Heap} {N ns loose N':List Str} {ks:List Bool} {od o2 an:Option Addr} {XP:(Str→Option XR)→Heap→Prop} {Dd D':Ends} {T:String} {js:List Nat} {oc v0 pm o1 dc ct cdv a0:XR} {X:Cx} {gens:List Comprehension} {py spos px pos pz pu pc p2:Pos} {sc scope Pn:Scope} {gv:Int→Int→V} {lo hi:Int} {u:List (Str×V)} {op:CmpOp} {qs:List PyData} {v:V} {run:XR→List XR→Sem XR} {outer:List Env} {env env':Env} {YP:YM→Heap→Prop} {Q':Bool→Hp→Prop} {kwd:List (Str×Expr)} {α κ:Type} {own:List (Option V)} {fo:Obj} {its:List XR} {v':Int×Int} {pl:Sem Bool} {dy:DefRec} {M':Model} {tz tk:Tok}
structure gU where
 name:Str
 qual:Str
 params:Arguments
 body:FuncBody
 scope:Scope
 pos:Pos
 names:List Str
variable {yJ:gU}
noncomputable def freeNames (sc:Scope):List Str:=((sc.names.filter λq=>q.2==.free).map (·.1)).reverse
noncomputable def ic (q:Str):List Stmt→Option gU
 | .FunctionDef name params body _ _ _ scope _ _ pos::_=>some ⟨name,q++".<locals>."++name,params,.stmts body,scope,pos,freeNames scope⟩
 | .Assign [_] (.Call _ es _ _) _::r=>match es.getLast? with
  | some (.Lambda params body scope pos)=>some ⟨"<lambda>",q++".<locals>."++"<lambda>",params,.expr body,scope,pos,freeNames scope⟩
  | _=>ic q r
 | .Return (some (.Call _ es _ _)) _::r=>match es.getLast? with
  | some (.Lambda params body scope pos)=>some ⟨"<lambda>",q++".<locals>."++"<lambda>",params,.expr body,scope,pos,freeNames scope⟩
  | _=>ic q r
 | _::r=>ic q r
 | []=>none
noncomputable def mZ (K:XU) (mg:Str→Option XR) (y:Str):Option gU:=match mg y with
 | some (.ref f)=>(match K.lookup f with
  | some ⟨_,_,.func fd,_⟩=>(match fd.body with
   | .stmts b=>ic fd.qualname b
   | _=>none)
  | _=>none)
 | _=>none
inductive D where
 | cz | bl (b:Bool) | int (i:Int) | str (x:Str) | tup (xs:List D) | con (xs:List D) | obj (n:Nat) | fn (x:Str) | uv (cls:Str) (args:List D) | iG (y:Str) (caps:List D)
variable {ds os acc zs caps:List D} {d:D} {gO:D→Option (List D)} {kvs:List (Key×D)}
inductive DO where
 | lst (xs:List D)
 | dead
 | dct (kvs:List (Key×D))
 | tab (y:Str)
 | Mg (fz:Bool) (kvs:List (List Key×D))
 | Mh (kvs:List (Key×D))
 | ins (c:Str) (fs:List (Str×D))
noncomputable abbrev DH:=List DO
variable {G G0:DH}
noncomputable abbrev DS:=List (Option D)
variable {τ:DS}
inductive XD where
 | mk (cls:Str) (args:List D)
inductive Out (α:Type) where
 | stuck
 | ok (a:α) (G:DH)
 | bB (c:XD) (G:DH)
noncomputable abbrev M (α:Type):=DH→Out α
variable {m mo te mv mi me:DS→M D} {f:D→D→M D} {r:DS→M (List D)} {mf m0:List D→M D} {tt:DS→M Bool} {Pr:Str→Nat→(List D→M D)→Prop} {ml mh:DS→M (Option Int)}
noncomputable def M.bind {α β:Type} (m:M α) (k:α→M β):M β:=λG=>match m G with
 | .stuck=>.stuck
 | .ok a G'=>k a G'
 | .bB c G'=>.bB c G'
noncomputable def M.ret {α:Type} (a:α):M α:=λG=>.ok a G
noncomputable def M.stop {α:Type}:M α:=λ_=>.stuck
noncomputable def pU (H:Hp) (a:Addr) (xs:List V):Prop:=H a=some (.tup xs)
theorem pU.of (h:H a=some (.tup xs)):pU H a xs:=h
theorem pU.t (h:pU H a xs):kI K H a xs:=.inl (.inl h)
instance {K:XU} {H:Hp} {a:Addr} {xs:List V}:Coe (pU H a xs) (kI K H a xs):=⟨pU.t⟩
noncomputable def Fi (K:XU) (H:Hp) (a:Addr) (xs:List V):Prop:=
 (∃ o,H a=some (.dF o (.lst xs))) ∨
  ∃ (o:Obj) (its:Array XR) (n:Nat),K.lookup a=some o∧o.cls=.type "list"∧o.dict=none∧o.data=.seq its n∧its.size≤XT∧Vals xs its.toList
theorem Fi.seq (h:Fi K H a xs):j0 K H a xs:=by
 rcases h with ⟨o,h⟩ | h
 ·exact .inl (.inr ⟨o,h⟩)
 ·exact .inr h
noncomputable def Ni (a:Addr) (cv:XR):Heap→Prop:=λh=>∃ o,h.get? a=some o∧o.cls=cv
noncomputable abbrev uw (k:gU) (cs:List Addr) (doc pm:XR) (c:Addr) (ctv:XR):FuncData:=
 {name:=k.name,qualname:=k.qual,params:=k.params,body:=k.body,scope:=k.scope,globals:=mainGlobals,closure:=k.names.zip cs,defaults:=.none,kwdefaults:=.none,doc,pyModule:=pm,annotations:=none,code:=.ref c,closureTuple:=ctv,builtins:=builtinsNs}
noncomputable abbrev gn (k:gU) (cs:List Addr) (doc pm:XR) (c:Addr) (ctv:XR):Obj:={cls:=.type "function",data:=.func (uw k cs doc pm c ctv)}
noncomputable def ux (H:Hp) (a:Addr) (o:Obj):Prop:=H a=some (.dF o (.own 0))
noncomputable def mD (H:Hp) (c:Addr) (qual:Str):Prop:=∃ (oc:Obj) (vs:Array XR) (t:Tok),ux H c oc∧oc.data=.fields vs∧vs[1]?=some (.str qual t)
noncomputable def m5 (H:Hp) (k:gU) (a:Addr) (cs:List Addr):Prop:=cs.length=k.names.length∧cs.Nodup∧∃ (doc pm ctv:XR) (c:Addr),ux H a (gn k cs doc pm c ctv)∧mD H c k.qual
noncomputable def dI (H:Hp):List Addr→List V→Prop
 | [],xs=>xs=[]
 | c::cs,xs=>∃ (x:V) (r:List V) (o:Obj) (u:XR),xs=x::r∧ux H c o∧o.data=.cell (some u)∧RelV x u∧dI H cs r
mutual
noncomputable def Rep (K:XU) (mg:Str→Option XR) (ρ:List Addr) (H:Hp):D→V→Prop
 | .cz,v=>v=.cz
 | .bl b,v=>v=.bl b
 | .int i,v=>v=.int i
 | .str x,v=>v=.str x
 | .tup ds,v=>∃ a xs,v=.ref a∧pU H a xs∧aq K mg ρ H ds xs
 | .con ds,v=>∃ a xs,v=.ref a∧Fi K H a xs∧aq K mg ρ H ds xs
 | .obj n,v=>∃ a,v=.ref a∧ρ[n]?=some a
 | .fn x,v=>∃ a,v=.ref a∧mg x=some (.ref a)
 | .uv c _,v=>∃ a cv,v=.ref a∧mg c=some cv∧H a=some (.ext (Ni a cv))
 | .iG y ds,v=>∃ k a cs xs,v=.ref a∧mZ K mg y=some k∧m5 H k a cs∧dI H cs xs∧aq K mg ρ H ds xs
noncomputable def aq (K:XU) (mg:Str→Option XR) (ρ:List Addr) (H:Hp):List D→List V→Prop
 | [],vs=>vs=[]
 | d::ds,vs=>∃ v r,vs=v::r∧Rep K mg ρ H d v∧aq K mg ρ H ds r
end
theorem mD.mono {q:Str} (h:mD H c q) (f:∀ a o u,H a=some (.dF o u)→H' a=some (.dF o u)):mD H' c q:=by
 obtain ⟨oc,vs,t,e,r⟩:=h
 exact ⟨oc,vs,t,f _ _ _ e,r⟩
theorem m5.mono {k:gU} {cs:List Addr} (h:m5 H k a cs) (f:∀ a o u,H a=some (.dF o u)→H' a=some (.dF o u)):m5 H' k a cs:=by
 obtain ⟨l,n,doc,pm,ctv,c,e,r⟩:=h
 exact ⟨l,n,doc,pm,ctv,c,f _ _ _ e,r.mono f⟩
theorem dI.mono (f:∀ a o u,H a=some (.dF o u)→H' a=some (.dF o u)):∀ {cs:List Addr} {xs:List V},dI H cs xs→dI H' cs xs
 | [],xs,h=>h
 | c::cs,xs,⟨x,r,o,u,e,h1,h2,h3,h4⟩=>⟨x,r,o,u,e,f _ _ _ h1,h2,h3,h4.mono f⟩
structure bX (K:XU) (H H':Hp) (ρ ρ':List Addr):Prop where
 tup:∀ a xs,pU H a xs→pU H' a xs
 dF:∀ a o u,H a=some (.dF o u)→H' a=some (.dF o u)
 pre:∃ r,ρ'=ρ++r
 ext:∀ a φ,H a=some (.ext φ)→H' a=some (.ext φ)
section
variable {K:XU} {mg:Str→Option XR} {H H' H1 H2:Hp} {ρ ρ' ρ1 ρ2:List Addr}
theorem bX.con (f:bX K H H' ρ ρ') (a:Addr) (xs:List V) (h:Fi K H a xs):Fi K H' a xs:=by
 rcases h with ⟨o,h⟩ | h
 ·exact .inl ⟨o,f.dF _ _ _ h⟩
 ·exact .inr h
theorem bX.refl:bX K H H ρ ρ:=⟨λ_ _ h=>h,λ_ _ _ h=>h,⟨[],by simp⟩,λ_ _ h=>h⟩
theorem bX.trans (a:bX K H H1 ρ ρ1) (b:bX K H1 H2 ρ1 ρ2):bX K H H2 ρ ρ2:=by
 obtain ⟨r1,e1⟩:=a.pre
 obtain ⟨r2,e2⟩:=b.pre
 exact ⟨λx xs h=>b.tup x xs (a.tup x xs h),λx o u h=>b.dF x o u (a.dF x o u h),⟨r1++r2,by rw [e2,e1,Y8]⟩,λx φ h=>b.ext x φ (a.ext x φ h)⟩
theorem bX.get (f:bX K H H' ρ ρ') {n:Nat} {a:Addr} (h:ρ[n]?=some a):ρ'[n]?=some a:=by
 obtain ⟨r,e⟩:=f.pre
 rw [e,Yd (XY.mp h).1];exact h
mutual
theorem Rep.mono (f:bX K H H' ρ ρ'):∀ (d:D) (v:V),Rep K mg ρ H d v→Rep K mg ρ' H' d v
 | .cz,v,h=>by unfold Rep at h ⊢;exact h
 | .bl b,v,h=>by unfold Rep at h ⊢;exact h
 | .int i,v,h=>by unfold Rep at h ⊢;exact h
 | .str x,v,h=>by unfold Rep at h ⊢;exact h
 | .tup ds,v,h=>by
  unfold Rep at h ⊢
  obtain ⟨a,xs,e,s,r⟩:=h
  exact ⟨a,xs,e,f.tup _ _ s,aq.mono f ds xs r⟩
 | .con ds,v,h=>by
  unfold Rep at h ⊢
  obtain ⟨a,xs,e,s,r⟩:=h
  exact ⟨a,xs,e,f.con _ _ s,aq.mono f ds xs r⟩
 | .obj n,v,h=>by
  unfold Rep at h ⊢
  obtain ⟨a,e,r⟩:=h
  exact ⟨a,e,f.get r⟩
 | .fn x,v,h=>by unfold Rep at h ⊢;exact h
 | .uv c as,v,h=>by
  unfold Rep at h ⊢
  obtain ⟨a,cv,e,m,r⟩:=h
  exact ⟨a,cv,e,m,f.ext _ _ r⟩
 | .iG k ds,v,h=>by
  unfold Rep at h ⊢
  obtain ⟨k,a,cs,xs,e,h0,h1,h2,h3⟩:=h
  exact ⟨k,a,cs,xs,e,h0,h1.mono f.dF,h2.mono f.dF,aq.mono f ds xs h3⟩
theorem aq.mono (f:bX K H H' ρ ρ'):∀ (ds:List D) (vs:List V),aq K mg ρ H ds vs→aq K mg ρ' H' ds vs
 | [],vs,h=>by unfold aq at h ⊢;exact h
 | d::ds,vs,h=>by
  unfold aq at h ⊢
  obtain ⟨v,r,e,h1,h2⟩:=h
  exact ⟨v,r,e,Rep.mono f d v h1,aq.mono f ds r h2⟩
end
theorem aq.length:∀ {ds:List D} {vs:List V},aq K mg ρ H ds vs→ds.length=vs.length
 | [],vs,h=>by unfold aq at h;subst h;rfl
 | d::ds,vs,h=>by
  unfold aq at h
  obtain ⟨v,r,rfl,_,h2⟩:=h
  simp [aq.length h2]
theorem aq.nil:aq K mg ρ H [] []:=by unfold aq;rfl
theorem aq.cons {d:D} {v:V} {ds:List D} {vs:List V} (h:Rep K mg ρ H d v) (t:aq K mg ρ H ds vs):aq K mg ρ H (d::ds) (v::vs):=by
 unfold aq;exact ⟨v,vs,rfl,h,t⟩
theorem aq.get:∀ {ds:List D} {vs:List V} {i:Nat} {d:D},aq K mg ρ H ds vs→ds[i]?=some d→∃ v,vs[i]?=some v∧Rep K mg ρ H d v
 | [],vs,i,d,h,e=>by simp at e
 | x::ds,vs,0,d,h,e=>by
  unfold aq at h
  obtain ⟨v,r,rfl,h1,_⟩:=h
  simp at e;subst e
  exact ⟨v,rfl,h1⟩
 | x::ds,vs,i+1,d,h,e=>by
  unfold aq at h
  obtain ⟨v,r,rfl,_,h2⟩:=h
  obtain ⟨u,e1,e2⟩:=aq.get (i:=i) (d:=d) h2 (by simpa using e)
  exact ⟨u,by simpa using e1,e2⟩
theorem aq.append:∀ {ds es:List D} {vs us:List V},aq K mg ρ H ds vs→aq K mg ρ H es us→aq K mg ρ H (ds++es) (vs++us)
 | [],es,vs,us,h,h'=>by unfold aq at h;subst h;exact h'
 | d::ds,es,vs,us,h,h'=>by
  unfold aq at h
  obtain ⟨v,r,rfl,h1,h2⟩:=h
  exact .cons h1 (aq.append h2 h')
theorem aq.take:∀ (n:Nat) {ds:List D} {vs:List V},aq K mg ρ H ds vs→aq K mg ρ H (ds.take n) (vs.take n)
 | 0,_,_,_=>by simpa using aq.nil
 | n+1,[],vs,h=>by unfold aq at h;subst h;simpa using aq.nil
 | n+1,d::ds,vs,h=>by
  unfold aq at h
  obtain ⟨v,r,rfl,h1,h2⟩:=h
  exact .cons h1 (aq.take n h2)
theorem aq.drop:∀ (n:Nat) {ds:List D} {vs:List V},aq K mg ρ H ds vs→aq K mg ρ H (ds.drop n) (vs.drop n)
 | 0,_,_,h=>by simpa using h
 | n+1,[],vs,h=>by unfold aq at h;subst h;simpa using aq.nil
 | n+1,d::ds,vs,h=>by
  unfold aq at h
  obtain ⟨v,r,rfl,h1,h2⟩:=h
  simpa using aq.drop n h2
theorem aq.set {x:D} {y:V} (hx:Rep K mg ρ H x y):∀ (n:Nat) {ds:List D} {vs:List V},aq K mg ρ H ds vs→aq K mg ρ H (ds.set n x) (vs.set n y)
 | _,[],vs,h=>by unfold aq at h;subst h;simpa using aq.nil
 | 0,d::ds,vs,h=>by
  unfold aq at h
  obtain ⟨v,r,rfl,h1,h2⟩:=h
  exact .cons hx h2
 | n+1,d::ds,vs,h=>by
  unfold aq at h
  obtain ⟨v,r,rfl,h1,h2⟩:=h
  exact .cons h1 (aq.set hx n h2)
theorem aq.ints:∀ (ns:List Int),aq K mg ρ H (ns.map D.int) (ns.map V.int)
 | []=>.nil
 | n::ns=>.cons (by unfold Rep;rfl) (aq.ints ns)
end
noncomputable def Fj (K:XU) (mg:Str→Option XR) (ρ:List Addr) (H:Hp) (a:Addr):DO→Prop
 | .lst ds=>∃ xs,H a=some (.lst xs)∧aq K mg ρ H ds xs
 | .dead=>∃ o,H a=some o
 | .dct kvs=>∃ xs,H a=some (.dK ((kvs.map (·.1)).zip xs))∧aq K mg ρ H (kvs.map (·.2)) xs
 | .tab y=>∃ (ps:Array XR) (c:Addr) (k:gU),H a=some (.lF ps)∧Zz K y=some (c,a)∧mZ K mg y=some k∧(ps=#[]∨∃ c',ps=#[Z8 k.pos.line,Z8 k.pos.col,.ref c']∧mD H c' k.qual)
 | .Mg fz kvs=>∃ xs,(if fz=true then ∃ o,H a=some (.dF o (.dT ((kvs.map (·.1)).zip xs))) else H a=some (.dT ((kvs.map (·.1)).zip xs)))∧aq K mg ρ H (kvs.map (·.2)) xs
 | .Mh kvs=>∃ xs,(∃ o,H a=some (.dF o (.dK ((kvs.map (·.1)).zip xs))))∧aq K mg ρ H (kvs.map (·.2)) xs
 | .ins c fs=>∃ C dx xs,mg c=some (.ref C)∧H a=some (.ins C dx ((fs.map (·.1)).zip xs))∧aq K mg ρ H (fs.map (·.2)) xs
structure fy (K:XU) (mg:Str→Option XR) (H:Hp) (ρ:List Addr) (G:DH):Prop where
 hl:ρ.length=G.length
 nd:ρ.Nodup
 ob:∀ (n:Nat) (o:DO),G[n]?=some o→∃ a,ρ[n]?=some a∧Fj K mg ρ H a o
noncomputable def ou (K:XU) (mg:Str→Option XR) (H:Hp) (ρ:List Addr) (σ:St) (τ:DS):Prop:=
 σ.length=τ.length∧∀ (i:Nat) (d:D),τ[i]?=some (some d)→∃ v,σ[i]?=some (some v)∧Rep K mg ρ H d v
structure Ab (K:XU) (mg:Str→Option XR) (σ:St) (H:Hp) (τ:DS) (ρ:List Addr) (G:DH):Prop where
 st:ou K mg H ρ σ τ
 hp:fy K mg H ρ G
section
variable {K:XU} {mg:Str→Option XR} {H H' H1 H2:Hp} {ρ ρ' ρ1 ρ2:List Addr} {G G':DH} {σ:L2.St} {τ:DS}
theorem ou.mono (f:bX K H H' ρ ρ') (h:ou K mg H ρ σ τ):ou K mg H' ρ' σ τ:=⟨h.1,λi d e=>by
 obtain ⟨v,e1,r⟩:=h.2 i d e
 exact ⟨v,e1,r.mono f⟩⟩
theorem ou.set (h:ou K mg H ρ σ τ) (r:Rep K mg ρ H d v):ou K mg H ρ (σ.set i (some v)) (τ.set i (some d)):=by
 refine ⟨by simp [h.1],λj e he=>?_⟩
 by_cases hj:i=j
 ·subst hj
  rw [Y9] at he
  by_cases hi:i<τ.length
  ·rw [if_pos rfl,if_pos hi] at he
   cases he
   exact ⟨v,by rw [Y9,if_pos rfl,if_pos (by rw [h.1];exact hi)],r⟩
  ·rw [if_pos rfl,if_neg hi] at he
   cases he
 ·rw [YD hj] at he
  obtain ⟨u,e1,r1⟩:=h.2 j e he
  exact ⟨u,by rw [YD hj];exact e1,r1⟩
theorem Ab.fut (ab:Ab K mg σ H τ ρ G) (f:bX K H H' ρ ρ') (hp:fy K mg H' ρ' G'):Ab K mg σ H' τ ρ' G':=⟨ab.st.mono f,hp⟩
theorem fy.lst (h:fy K mg H ρ G) (e:G[n]?=some (.lst ds)):∃ a xs,ρ[n]?=some a∧H a=some (.lst xs)∧aq K mg ρ H ds xs:=by
 obtain ⟨a,e1,xs,e2,r⟩:=h.ob n _ e
 exact ⟨a,xs,e1,e2,r⟩
theorem fy.there (h:fy K mg H ρ G) (e:ρ[n]?=some a):∃ o,H a=some o:=by
 have hn:n<G.length:=by rw [← h.hl];exact (XY.mp e).1
 obtain ⟨a',e1,r⟩:=h.ob n G[n] (XZ hn)
 rw [e] at e1;cases e1
 cases hg:G[n] with
 | lst xs=>rw [hg] at r;obtain ⟨ys,e2,_⟩:=r;exact ⟨_,e2⟩
 | dead=>rw [hg] at r;exact r
 | dct kv=>rw [hg] at r;obtain ⟨ys,e2,_⟩:=r;exact ⟨_,e2⟩
 | tab t=>rw [hg] at r;obtain ⟨ps,c,k,e2,_⟩:=r;exact ⟨_,e2⟩
 | Mg fz kv=>
  rw [hg] at r;obtain ⟨ys,e2,_⟩:=r
  cases fz
  ·exact ⟨_,e2⟩
  ·obtain ⟨o,e2⟩:=e2;exact ⟨_,e2⟩
 | Mh kv=>rw [hg] at r;obtain ⟨ys,⟨o,e2⟩,_⟩:=r;exact ⟨_,e2⟩
 | ins c fs=>rw [hg] at r;obtain ⟨C,dx,xs,_,e2,_⟩:=r;exact ⟨_,e2⟩
theorem fy.not_mem {p:Addr} (h:fy K mg H ρ G) (hp:H p=none):p∉ρ:=λhm=>by
 obtain ⟨n,hn,e⟩:=aae hm
 obtain ⟨o,q⟩:=h.there (n:=n) (a:=p) (by rw [XZ hn,e])
 rw [hp] at q;cases q
theorem Fj.mono {o:DO} (f:bX K H H' ρ ρ') (he:∀ u,H a=some u→H' a=some u) (h:Fj K mg ρ H a o):Fj K mg ρ' H' a o:=by
 cases o with
 | lst ds=>
  obtain ⟨xs,e,r⟩:=h
  exact ⟨xs,he _ e,r.mono f⟩
 | dead=>
  obtain ⟨o,e⟩:=h
  exact ⟨o,he _ e⟩
 | dct kv=>
  obtain ⟨xs,e,r⟩:=h
  exact ⟨xs,he _ e,r.mono f⟩
 | tab t=>
  obtain ⟨ps,c,k,e,q,q2,r⟩:=h
  exact ⟨ps,c,k,he _ e,q,q2,r.imp id λzz=>by obtain ⟨c',e,z⟩:=zz;exact ⟨c',e,z.mono f.dF⟩⟩
 | Mg fz kv=>
  obtain ⟨xs,e,r⟩:=h
  refine ⟨xs,?_,r.mono f⟩
  cases fz
  ·exact he _ e
  ·obtain ⟨o,e⟩:=e;exact ⟨o,he _ e⟩
 | Mh kv=>
  obtain ⟨xs,⟨o,e⟩,r⟩:=h
  exact ⟨xs,⟨o,he _ e⟩,r.mono f⟩
 | ins c fs=>
  obtain ⟨C,dx,xs,m,e,r⟩:=h
  exact ⟨C,dx,xs,m,he _ e,r.mono f⟩
theorem cN {p:Addr} {o:HO} (hp:H p=none) (ρ:List Addr):bX K H (upd H p o) ρ ρ:=by
 refine ⟨λa xs h=>?_,λa q u h=>by rw [aC (cj h hp)];exact h,⟨[],by simp⟩,λa φ h=>by rw [aC (cj h hp)];exact h⟩
 ·rw [pU] at h ⊢;rw [aC (cj h hp)];exact h
theorem nQ {p:Addr} (hp:H p=some (.lst xs)) (ρ:List Addr):bX K H (upd H p (.lst ys)) ρ ρ:=by
 refine ⟨λa zs h=>?_,λa q u h=>by rw [aC (gz h hp (by intro z;cases z))];exact h,⟨[],by simp⟩,λa φ h=>by rw [aC (gz h hp (by intro z;cases z))];exact h⟩
 ·rw [pU] at h ⊢;rw [aC (gz h hp (by intro z;cases z))];exact h
theorem fy.new {p:Addr} {o:HO} (h:fy K mg H ρ G) (hp:H p=none):fy K mg (upd H p o) ρ G:=
 ⟨h.hl,h.nd,λn ob e=>by
  obtain ⟨a,e1,r⟩:=h.ob n ob e
  exact ⟨a,e1,r.mono (cN hp ρ) λu q=>by rw [aC (cj q hp)];exact q⟩⟩
theorem aE (l:List α) (a:α):(l++[a])[l.length]?=some a:=by simp
theorem eB (ρ:List Addr) (p:Addr):bX K H H ρ (ρ++[p]):=⟨λ_ _ h=>h,λ_ _ _ h=>h,⟨[p],rfl⟩,λ_ _ h=>h⟩
theorem fy.more {p:Addr} (h:fy K mg H ρ G) (hp:H p=none) (r:aq K mg ρ H ds xs):fy K mg (upd H p (.lst xs)) (ρ++[p]) (G++[.lst ds]):=by
 have f:bX K H (upd H p (.lst xs)) ρ (ρ++[p]):=(cN hp ρ).trans (eB ρ p)
 refine ⟨by simp [h.hl],?_,λn ob e=>?_⟩
 ·rw [aax]
  refine ⟨h.nd,by simp,λa ha b hb=>?_⟩
  have e:b=p:=by simpa using hb
  subst e
  rintro rfl
  exact h.not_mem hp ha
 ·by_cases hn:n<G.length
  ·rw [Yd hn] at e
   obtain ⟨a,e1,r'⟩:=h.ob n ob e
   exact ⟨a,f.get e1,r'.mono f λu q=>by rw [aC (cj q hp)];exact q⟩
  ·have hl:n<(G++[DO.lst ds]).length:=(XY.mp e).1
   have hn':n=G.length:=by simp at hl;nofun
   subst hn'
   rw [aE] at e
   cases e
   refine ⟨p,by rw [← h.hl,aE],xs,aX,r.mono f⟩
theorem fy.put {ds es:List D} (h:fy K mg H ρ G) (hn:ρ[n]?=some a) (ha:H a=some (.lst xs)) (r:aq K mg ρ H es ys):fy K mg (upd H a (.lst ys)) ρ (G.set n (.lst es)):=by
 have f:bX K H (upd H a (.lst ys)) ρ ρ:=nQ ha ρ
 refine ⟨by simp [h.hl],h.nd,λm ob e=>?_⟩
 by_cases hm:n=m
 ·subst hm
  rw [Y9,if_pos rfl] at e
  split at e
  ·cases e
   exact ⟨a,hn,ys,aX,r.mono f⟩
  ·cases e
 ·rw [YD hm] at e
  obtain ⟨b,e1,r'⟩:=h.ob m ob e
  have hb:b≠a:=by
   rintro rfl
   obtain ⟨h1,yk⟩:=XY.mp hn
   obtain ⟨h2,yl⟩:=XY.mp e1
   exact hm ((Zt h.nd).mp (yk.trans yl.symm))
  exact ⟨b,e1,r'.mono f λu q=>by rw [aC hb];exact q⟩
end
noncomputable abbrev bO:=XD→St→Hp→Prop
variable {EE:bO}
section
variable (K:XU) (mg:Str→Option XR) (EE:bO)
noncomputable def iI (H:Hp) (σ:St) (τ:DS) (ρ:List Addr):Out D→VK→Prop
 | .stuck,_=>False
 | .ok d G',Q=>∀ v H' ρ',bX K H H' ρ ρ'→Ab K mg σ H' τ ρ' G'→Rep K mg ρ' H' d v→Q v H'
 | .bB c G',_=>∀ H' ρ',bX K H H' ρ ρ'→Ab K mg σ H' τ ρ' G'→EE c σ H'
noncomputable def Fl (H:Hp) (σ:St) (τ:DS) (ρ:List Addr):Out Bool→(Bool→Hp→Prop)→Prop
 | .stuck,_=>False
 | .ok b G',Q=>∀ H' ρ',bX K H H' ρ ρ'→Ab K mg σ H' τ ρ' G'→Q b H'
 | .bB c G',_=>∀ H' ρ',bX K H H' ρ ρ'→Ab K mg σ H' τ ρ' G'→EE c σ H'
noncomputable def Nj (H:Hp) (σ:St) (τ:DS) (ρ:List Addr):Out (List D)→(List V→Hp→Prop)→Prop
 | .stuck,_=>False
 | .ok ds G',Q=>∀ vs H' ρ',bX K H H' ρ ρ'→Ab K mg σ H' τ ρ' G'→aq K mg ρ' H' ds vs→Q vs H'
 | .bB c G',_=>∀ H' ρ',bX K H H' ρ ρ'→Ab K mg σ H' τ ρ' G'→EE c σ H'
noncomputable def bh (m:DS→M D):TE:=λσ H Q=>∃ τ ρ G,Ab K mg σ H τ ρ G∧iI K mg EE H σ τ ρ (m τ G) Q
noncomputable def liftT (m:DS→M Bool):TT:=λσ H Q=>∃ τ ρ G,Ab K mg σ H τ ρ G∧Fl K mg EE H σ τ ρ (m τ G) Q
noncomputable def ie (m:DS→M (List D)):TA:=λσ H Q=>∃ τ ρ G,Ab K mg σ H τ ρ G∧Nj K mg EE H σ τ ρ (m τ G) Q
inductive Res where
 | stuck
 | nx (τ:DS) (G:DH)
 | rt (d:D) (G:DH)
 | bk (τ:DS) (G:DH)
 | ct (τ:DS) (G:DH)
 | xn (c:XD) (τ:DS) (G:DH)
noncomputable def pX (H:Hp) (ρ:List Addr) (Dd:Ends):Res→Prop
 | .stuck=>False
 | .nx τ G=>∀ σ' H' ρ',bX K H H' ρ ρ'→Ab K mg σ' H' τ ρ' G→Dd.nx σ' H'
 | .bk τ G=>∀ σ' H' ρ',bX K H H' ρ ρ'→Ab K mg σ' H' τ ρ' G→Dd.bk σ' H'
 | .ct τ G=>∀ σ' H' ρ',bX K H H' ρ ρ'→Ab K mg σ' H' τ ρ' G→Dd.ct σ' H'
 | .rt d G=>∀ v H' ρ',bX K H H' ρ ρ'→fy K mg H' ρ' G→Rep K mg ρ' H' d v→Dd.rt v H'
 | .xn c τ G=>∀ σ' H' ρ',bX K H H' ρ ρ'→Ab K mg σ' H' τ ρ' G→EE c σ' H'
noncomputable abbrev MS:=DS→DH→Res
noncomputable def gB (m:MS):TS:=λDd σ H=>∃ τ ρ G,Ab K mg σ H τ ρ G∧pX K mg EE H ρ Dd (m τ G)
end
variable {ms:MS}
section
variable {K:XU} {mg:Str→Option XR} {EE:bO} {H H1:Hp} {σ:L2.St} {τ:DS} {ρ ρ1:List Addr}
theorem iI.fut {r:Out D} {Q:VK} (f:bX K H H1 ρ ρ1) (h:iI K mg EE H σ τ ρ r Q):iI K mg EE H1 σ τ ρ1 r Q:=by
 cases r with
 | stuck=>exact h
 | ok d G'=>exact λv H' ρ' f'=>h v H' ρ' (f.trans f')
 | bB c G'=>exact λH' ρ' f'=>h H' ρ' (f.trans f')
theorem Fl.fut {r:Out Bool} {Q:Bool→Hp→Prop} (f:bX K H H1 ρ ρ1) (h:Fl K mg EE H σ τ ρ r Q):Fl K mg EE H1 σ τ ρ1 r Q:=by
 cases r with
 | stuck=>exact h
 | ok d G'=>exact λH' ρ' f'=>h H' ρ' (f.trans f')
 | bB c G'=>exact λH' ρ' f'=>h H' ρ' (f.trans f')
theorem Nj.fut {r:Out (List D)} {Q:List V→Hp→Prop} (f:bX K H H1 ρ ρ1) (h:Nj K mg EE H σ τ ρ r Q):Nj K mg EE H1 σ τ ρ1 r Q:=by
 cases r with
 | stuck=>exact h
 | ok d G'=>exact λv H' ρ' f'=>h v H' ρ' (f.trans f')
 | bB c G'=>exact λH' ρ' f'=>h H' ρ' (f.trans f')
theorem pX.fut {r:Res} (f:bX K H H1 ρ ρ1) (h:pX K mg EE H ρ Dd r):pX K mg EE H1 ρ1 Dd r:=by
 cases r with
 | stuck=>exact h
 | nx τ G=>exact λs H' ρ' f'=>h s H' ρ' (f.trans f')
 | bk τ G=>exact λs H' ρ' f'=>h s H' ρ' (f.trans f')
 | ct τ G=>exact λs H' ρ' f'=>h s H' ρ' (f.trans f')
 | rt d G=>exact λs H' ρ' f'=>h s H' ρ' (f.trans f')
 | xn c τ G=>exact λs H' ρ' f'=>h s H' ρ' (f.trans f')
theorem je {k:DS→D→M D} {Q:VK} (h:bh K mg EE (λτ=>(m τ).bind (k τ)) σ H Q) :
  bh K mg EE m σ H λx H1=>∃ τ ρ G d,Ab K mg σ H1 τ ρ G∧Rep K mg ρ H1 d x∧iI K mg EE H1 σ τ ρ (k τ d G) Q:=by
 obtain ⟨τ,ρ,G,ab,ok⟩:=h
 refine ⟨τ,ρ,G,ab,?_⟩
 dsimp only [M.bind] at ok
 cases e:m τ G with
 | stuck=>rw [e] at ok;exact ok
 | bB c G'=>rw [e] at ok;exact ok
 | ok d G'=>rw [e] at ok;exact λv H' ρ' f bq r=>⟨τ,ρ',G',d,bq,r,ok.fut f⟩
theorem By {k:DS→D→M Bool} {Q:Bool→Hp→Prop} (h:liftT K mg EE (λτ=>(m τ).bind (k τ)) σ H Q) :
  bh K mg EE m σ H λx H1=>∃ τ ρ G d,Ab K mg σ H1 τ ρ G∧Rep K mg ρ H1 d x∧Fl K mg EE H1 σ τ ρ (k τ d G) Q:=by
 obtain ⟨τ,ρ,G,ab,ok⟩:=h
 refine ⟨τ,ρ,G,ab,?_⟩
 dsimp only [M.bind] at ok
 cases e:m τ G with
 | stuck=>rw [e] at ok;exact ok
 | bB c G'=>rw [e] at ok;exact ok
 | ok d G'=>rw [e] at ok;exact λv H' ρ' f bq r=>⟨τ,ρ',G',d,bq,r,ok.fut f⟩
theorem wM {m:DS→M Bool} {k:DS→Bool→M Bool} {Q:Bool→Hp→Prop} (h:liftT K mg EE (λτ=>(m τ).bind (k τ)) σ H Q) :
  liftT K mg EE m σ H λb H1=>∃ τ ρ G,Ab K mg σ H1 τ ρ G∧Fl K mg EE H1 σ τ ρ (k τ b G) Q:=by
 obtain ⟨τ,ρ,G,ab,ok⟩:=h
 refine ⟨τ,ρ,G,ab,?_⟩
 dsimp only [M.bind] at ok
 cases e:m τ G with
 | stuck=>rw [e] at ok;exact ok
 | bB c G'=>rw [e] at ok;exact ok
 | ok d G'=>rw [e] at ok;exact λH' ρ' f bq=>⟨τ,ρ',G',bq,ok.fut f⟩
theorem BA {k:DS→D→M (List D)} {Q:List V→Hp→Prop} (h:ie K mg EE (λτ=>(m τ).bind (k τ)) σ H Q) :
  bh K mg EE m σ H λx H1=>∃ τ ρ G d,Ab K mg σ H1 τ ρ G∧Rep K mg ρ H1 d x∧Nj K mg EE H1 σ τ ρ (k τ d G) Q:=by
 obtain ⟨τ,ρ,G,ab,ok⟩:=h
 refine ⟨τ,ρ,G,ab,?_⟩
 dsimp only [M.bind] at ok
 cases e:m τ G with
 | stuck=>rw [e] at ok;exact ok
 | bB c G'=>rw [e] at ok;exact ok
 | ok d G'=>rw [e] at ok;exact λv H' ρ' f bq r=>⟨τ,ρ',G',d,bq,r,ok.fut f⟩
theorem jf {m:DS→M (List D)} {k:DS→List D→M D} {Q:VK} (h:bh K mg EE (λτ=>(m τ).bind (k τ)) σ H Q) :
  ie K mg EE m σ H λx H1=>∃ τ ρ G d,Ab K mg σ H1 τ ρ G∧aq K mg ρ H1 d x∧iI K mg EE H1 σ τ ρ (k τ d G) Q:=by
 obtain ⟨τ,ρ,G,ab,ok⟩:=h
 refine ⟨τ,ρ,G,ab,?_⟩
 dsimp only [M.bind] at ok
 cases e:m τ G with
 | stuck=>rw [e] at ok;exact ok
 | bB c G'=>rw [e] at ok;exact ok
 | ok d G'=>rw [e] at ok;exact λv H' ρ' f bq r=>⟨τ,ρ',G',d,bq,r,ok.fut f⟩
noncomputable def bE {α:Type} (m:M α) (k:α→DH→Res) (x:XD→DH→Res):DH→Res:=λG=>match m G with
 | .stuck=>.stuck
 | .ok a G'=>k a G'
 | .bB c G'=>x c G'
theorem kN {k:DS→D→DH→Res} (h:gB K mg EE (λτ=>bE (m τ) (k τ) λc G=>.xn c τ G) Dd σ H) :
  bh K mg EE m σ H λx H1=>∃ τ ρ G d,Ab K mg σ H1 τ ρ G∧Rep K mg ρ H1 d x∧pX K mg EE H1 ρ Dd (k τ d G):=by
 obtain ⟨τ,ρ,G,ab,ok⟩:=h
 refine ⟨τ,ρ,G,ab,?_⟩
 dsimp only [bE] at ok
 cases e:m τ G with
 | stuck=>rw [e] at ok;exact ok
 | bB c G'=>rw [e] at ok;exact λH' ρ' f bq=>ok σ H' ρ' f bq
 | ok d G'=>rw [e] at ok;exact λv H' ρ' f bq r=>⟨τ,ρ',G',d,bq,r,ok.fut f⟩
theorem BB {m:DS→M Bool} {k:DS→Bool→DH→Res} (h:gB K mg EE (λτ=>bE (m τ) (k τ) λc G=>.xn c τ G) Dd σ H) :
  liftT K mg EE m σ H λb H1=>∃ τ ρ G,Ab K mg σ H1 τ ρ G∧pX K mg EE H1 ρ Dd (k τ b G):=by
 obtain ⟨τ,ρ,G,ab,ok⟩:=h
 refine ⟨τ,ρ,G,ab,?_⟩
 dsimp only [bE] at ok
 cases e:m τ G with
 | stuck=>rw [e] at ok;exact ok
 | bB c G'=>rw [e] at ok;exact λH' ρ' f bq=>ok σ H' ρ' f bq
 | ok d G'=>rw [e] at ok;exact λH' ρ' f bq=>⟨τ,ρ',G',bq,ok.fut f⟩
end
noncomputable def QE (X:Cx) (EE:bO) (e:Expr) (m:DS→M D):Prop:=PE X e (bh X.K X.mg EE m)
noncomputable def QT (X:Cx) (EE:bO) (e:Expr) (m:DS→M Bool):Prop:=PT X e (liftT X.K X.mg EE m)
noncomputable def QW (X:Cx) (EE:bO) (e:Expr) (m:DS→M Bool):Prop:=PW X e (liftT X.K X.mg EE m)
noncomputable def QA (X:Cx) (EE:bO) (es:List Expr) (m:DS→M (List D)):Prop:=PA X es (ie X.K X.mg EE m)
noncomputable def QS (X:Cx) (EE:bO) (st:Stmt) (m:MS):Prop:=PS X st (gB X.K X.mg EE m)
noncomputable def pY (X:Cx) (EE:bO) (st:List Stmt) (m:MS):Prop:=v8 X st (gB X.K X.mg EE m)
section
variable {X:Cx}
theorem PE.mono {t t':TE} (h:PE X e t) (i:∀ σ H Q,t' σ H Q→t σ H Q):PE X e t':=λpins s σ H Q I q=>h pins s σ H Q I (i _ _ _ q)
theorem PT.mono {t t':TT} (h:PT X e t) (i:∀ σ H Q,t' σ H Q→t σ H Q):PT X e t':=λpins s σ H Q I q=>h pins s σ H Q I (i _ _ _ q)
theorem PA.mono {e:List Expr} {t t':TA} (h:PA X e t) (i:∀ σ H Q,t' σ H Q→t σ H Q):PA X e t':=λpos pins s σ H Q I q=>h pos pins s σ H Q I (i _ _ _ q)
theorem PS.mono {e:Stmt} {t t':TS} (h:PS X e t) (i:∀ D σ H,t' D σ H→t D σ H):PS X e t':=λpins s σ H D I q=>h pins s σ H D I (i _ _ _ q)
theorem v8.mono {e:List Stmt} {t t':TS} (h:v8 X e t) (i:∀ D σ H,t' D σ H→t D σ H):v8 X e t':=λpins s σ H D I q=>h pins s σ H D I (i _ _ _ q)
end
section
variable {X:Cx} {EE:bO} {a b c:Expr} {ma mb mc:DS→M D} {pos:Pos}
noncomputable def af (i:Nat):DS→M D:=λτ G=>match τ[i]? with
 | some (some d)=>.ok d G
 | _=>.stuck
noncomputable def eC (d:D):DS→M D:=λ_=>M.ret d
theorem J7 (i:Nat) {x:Str} {pos:Pos} (hN:X.N[i]?=some x:=by rfl) (hv:A3 X.env.scope x:=by first | exact Or.inl rfl | exact adv (Or.inl rfl) | exact adv (adv rfl)) (hd:(x==("__debug__":Str))=false:=by decide)
  (hcd:(x==("__classdict__":Str))=false:=by decide):QE X EE (.Name x pos) (af i):=PE.mono (v9 hN hv hd hcd) λσ H Q ⟨τ,ρ,G,ab,ok⟩=>by
 unfold af at ok
 cases e:τ[i]? with
 | none=>rw [e] at ok;exact ok.elim
 | some o=>
  cases o with
  | none=>rw [e] at ok;exact ok.elim
  | some d=>
   rw [e] at ok
   obtain ⟨v,e1,r⟩:=ab.st.2 i d e
   exact ⟨v,e1,ok v H ρ .refl ab r⟩
theorem BC (h:PE X e (tC v)) (r:∀ ρ H,Rep X.K X.mg ρ H d v):QE X EE e (eC d):=PE.mono h λσ H Q zz=>by obtain ⟨τ,ρ,G,ab,ok⟩:=zz;exact ok v H ρ .refl ab (r ρ H)
theorem J8 {i:Int} {j pos}:QE X EE (.Constant (.int i) j pos) (eC (.int i)):=BC Jf λ_ _=>by unfold Rep;rfl
theorem Nk {i:Bool} {j pos}:QE X EE (.Constant (.bool i) j pos) (eC (.bl i)):=BC MD λ_ _=>by unfold Rep;rfl
theorem J9 {j pos}:QE X EE (.Constant .none j pos) (eC .cz):=BC Jg λ_ _=>by unfold Rep;rfl
theorem Ka {x j pos}:QE X EE (.Constant (.str x) j pos) (eC (.str x)):=BC Jh λ_ _=>by unfold Rep;rfl
noncomputable def aj (f:D→D→M D) (ma mb:DS→M D):DS→M D:=λτ=>(ma τ).bind λx=>(mb τ).bind λy=>f x y
noncomputable def BD (X:Cx) (EE:bO) (r:R2) (f:D→D→M D):Prop:=∀ (σ:L2.St) (H:Hp) (τ:DS) (ρ:List Addr) (G:DH) (x y:V) (d e:D) (Q:VK),
 Ab X.K X.mg σ H τ ρ G→Rep X.K X.mg ρ H d x→Rep X.K X.mg ρ H e y→iI X.K X.mg EE H σ τ ρ (f d e G) Q→r x y H Q
theorem nR {r:R2} (hd:BD X EE r f) {σ:L2.St} {H:Hp} {Q:VK} (h:bh X.K X.mg EE (aj f ma mb) σ H Q) :
  MR r (bh X.K X.mg EE ma) (bh X.K X.mg EE mb) σ H Q:=by
 obtain ⟨τ,ρ,G,ab,ok⟩:=je (k:=λτ x=>(mb τ).bind λy=>f x y) h
 refine ⟨τ,ρ,G,ab,?_⟩
 cases e:ma τ G with
 | stuck=>rw [e] at ok;exact ok
 | bB c G'=>rw [e] at ok;exact ok
 | ok d G'=>
  rw [e] at ok
  intro v H' ρ' f' bq r'
  obtain ⟨τ2,ρ2,G2,d2,bG,r2,aH⟩:=ok v H' ρ' f' bq r'
  refine ⟨τ2,ρ2,G2,bG,?_⟩
  dsimp only [M.bind] at aH
  cases e2:mb τ2 G2 with
  | stuck=>rw [e2] at aH;exact aH
  | bB c G'=>rw [e2] at aH;exact aH
  | ok d3 G3=>
   rw [e2] at aH
   exact λv3 H3 ρ3 f3 oz r3=>hd σ H3 τ2 ρ3 G3 v v3 d2 d3 Q oz (r2.mono f3) r3 (aH.fut f3)
theorem iW {op:Operator} {r:R2} (ho:ia X (binaryOp op) r) (hd:BD X EE r f) (ha:QE X EE a ma) (hb:QE X EE b mb):QE X EE (.BinOp a op b pos) (aj f ma mb):=
 PE.mono (MT ho ha hb) λ_ _ _ h=>nR hd h
theorem BE {r:R2} (ho:ia X (compareOp op) r) (hd:BD X EE r f) (ha:QE X EE a ma) (hb:QE X EE b mb) (hm:behindInMarks op b=false):QE X EE (.Compare a [op] [b] pos) (aj f ma mb):=
 PE.mono (EO ho ha hb hm) λ_ _ _ h=>nR hd h
theorem Nl {r:R2} (ho:Ep X r) (hd:BD X EE r f) (ha:QE X EE a ma) (hb:QE X EE b mb) (hs:nP b:=by intro _ _;rfl):QE X EE (.Subscript a b pos) (aj f ma mb):=
 PE.mono (M9 ho ha hb hs) λ_ _ _ h=>nR hd h
theorem BD.or {r r':R2} (h:∀ (σ:L2.St) (H:Hp) (τ:DS) (ρ:List Addr) (G:DH) (x y:V) (d e:D) (Q:VK),
 Ab X.K X.mg σ H τ ρ G→Rep X.K X.mg ρ H d x→Rep X.K X.mg ρ H e y→iI X.K X.mg EE H σ τ ρ (f d e G) Q→r x y H Q∨r' x y H Q):BD X EE (λx y H Q=>r x y H Q∨r' x y H Q) f:=h
noncomputable def cH (C:Int→Int→Bool) (g:Int→Int→D):D→D→M D
 | .int i,.int j=>if C i j then M.ret (g i j) else M.stop
 | _,_=>M.stop
theorem ym {C:Int→Int→Bool} {g:Int→Int→D} {e:D} {Q:VK} (ok:iI X.K X.mg EE H σ τ ρ (cH C g d e G) Q) :
  ∃ i j,d=.int i∧e=.int j∧C i j=true∧iI X.K X.mg EE H σ τ ρ (.ok (g i j) G) Q:=by
 cases d<;>cases e<;>try exact ok.elim
 rename_i i j
 dsimp only [cH] at ok
 cases hc:C i j with
 | false=>rw [hc] at ok;exact ok.elim
 | true=>rw [hc] at ok;exact ⟨i,j,rfl,rfl,hc,ok⟩
theorem jh {C:Int→Int→Bool} {P:Int→Int→Prop} {g:Int→Int→D} (hC:∀ i j,C i j=true→P i j) (hg:∀ i j ρ H,Rep X.K X.mg ρ H (g i j) (gv i j)):BD X EE (rI P gv) (cH C g):=
 λσ H τ ρ G x y d e Q ab r1 r2 ok=>by
  obtain ⟨i,j,rfl,rfl,hc,ok⟩:=ym ok
  unfold Rep at r1 r2
  exact ⟨i,j,r1,r2,hC i j hc,ok _ H ρ .refl ab (hg i j ρ H)⟩
theorem gC {g:Int→Int→D} (hg:∀ i j ρ H,Rep X.K X.mg ρ H (g i j) (gv i j)):BD X EE (Bb gv) (cH (λ_ _=>true) g):=
 λσ H τ ρ G x y d e Q ab r1 r2 ok=>by
  obtain ⟨i,j,rfl,rfl,hc,ok⟩:=ym ok
  unfold Rep at r1 r2
  exact ⟨i,j,r1,r2,ok _ H ρ .refl ab (hg i j ρ H)⟩
noncomputable abbrev kO:=cH (λ_ _=>true) λi j=>.int (i - j)
noncomputable abbrev nE:=cH (λi j=>(decide (-(2^64)<i)&&decide (i<2^64))||(decide (-(2^64)<j)&&decide (j<2^64))) λi j=>.int (i*j)
noncomputable abbrev qN:=cH (λ_ j=>decide (0<j)&&decide (j<1073741824)) λi j=>.int (i / j)
noncomputable abbrev cL:=cH (λ_ j=>decide (0<j)) λi j=>.int (i % j)
noncomputable abbrev oA:=cH (λi j=>decide (0≤j)&&(decide (j≤1000000)&&decide (i.natAbs<2^64))) λi j=>.int (i^j.toNat)
noncomputable abbrev pV:=cH (λ_ _=>true) λi j=>.bl (decide (i<j))
noncomputable abbrev oB:=cH (λ_ _=>true) λi j=>.bl (decide (j<i))
noncomputable abbrev Fo:=cH (λ_ _=>true) λi j=>.bl (decide (j≤i))
theorem Kc (ha:QE X EE a ma) (hb:QE X EE b mb):QE X EE (.BinOp a .Sub b pos) (aj kO ma mb):=iW JB (gC λ_ _ _ _=>by unfold Rep;rfl) ha hb
theorem Kd (ha:QE X EE a ma) (hb:QE X EE b mb):QE X EE (.BinOp a .Mult b pos) (aj nE ma mb):=iW JC (jh (λi j h=>by
 simp only [abe,Y4,decide_eq_true_eq] at h;exact h) λ_ _ _ _=>by unfold Rep;rfl) ha hb
theorem Fp (ha:QE X EE a ma) (hb:QE X EE b mb):QE X EE (.BinOp a .FloorDiv b pos) (aj qN ma mb):=iW EM (jh (λi j h=>by
 simp only [Y4,decide_eq_true_eq] at h;exact h) λ_ _ _ _=>by unfold Rep;rfl) ha hb
theorem Ke (ha:QE X EE a ma) (hb:QE X EE b mb):QE X EE (.BinOp a .Mod b pos) (aj cL ma mb):=iW JD (jh (λi j h=>of_decide_eq_true h) λ_ _ _ _=>by unfold Rep;rfl) ha hb
theorem Kf (ha:QE X EE a ma) (hb:QE X EE b mb):QE X EE (.BinOp a .Pow b pos) (aj oA ma mb):=iW JE (jh (λi j h=>by
 simp only [Y4,decide_eq_true_eq] at h;exact h) λ_ _ _ _=>by unfold Rep;rfl) ha hb
theorem Nm (ha:QE X EE a ma) (hb:QE X EE b mb):QE X EE (.Compare a [.Gt] [b] pos) (aj oB ma mb):=BE HV (gC λ_ _ _ _=>by unfold Rep;rfl) ha hb (Be _)
noncomputable def aI (ds:List D):M D:=λG=>if ds.length≤XT then .ok (.obj G.length) (G++[.lst ds]) else .stuck
noncomputable def aY (ds:List D):M D:=λG=>if ds.length≤XT then .ok (.tup ds) G else .stuck
theorem kP {Q:VK} (ab:Ab X.K X.mg σ H τ ρ G) (r:aq X.K X.mg ρ H ds vs) (ok:iI X.K X.mg EE H σ τ ρ (aI ds G) Q) :
  vs.length≤XT∧∀ p,H p=none→Q (.ref p) (upd H p (.lst vs)):=by
 unfold aI at ok
 split at ok
 ·rename_i hl
  rw [r.length] at hl
  refine ⟨hl,λp hp=>?_⟩
  have f:bX X.K H (upd H p (.lst vs)) ρ (ρ++[p]):=(cN hp ρ).trans (eB ρ p)
  refine ok (.ref p) _ (ρ++[p]) f (ab.fut f (ab.hp.more hp r)) ?_
  unfold Rep
  exact ⟨p,rfl,by rw [← ab.hp.hl,aE]⟩
 ·exact ok.elim
theorem oE {Q:VK} (ab:Ab X.K X.mg σ H τ ρ G) (r:aq X.K X.mg ρ H ds vs) (ok:iI X.K X.mg EE H σ τ ρ (aY ds G) Q) :
  vs.length≤XT∧∀ p,H p=none→Q (.ref p) (upd H p (.tup vs)):=by
 unfold aY at ok
 split at ok
 ·rename_i hl
  rw [r.length] at hl
  refine ⟨hl,λp hp=>?_⟩
  have f:bX X.K H (upd H p (.tup vs)) ρ ρ:=cN hp ρ
  refine ok (.ref p) _ ρ f (ab.fut f (ab.hp.new hp)) ?_
  unfold Rep
  exact ⟨p,vs,rfl,.of aX,r.mono f⟩
 ·exact ok.elim
noncomputable def ah:DS→M (List D):=λ_=>M.ret []
noncomputable def aa (m:DS→M D) (r:DS→M (List D)):DS→M (List D):=λτ=>(m τ).bind λx=>(r τ).bind λxs=>M.ret (x::xs)
theorem Kg:QA X EE [] ah:=PA.mono wG λσ H Q zz=>by obtain ⟨τ,ρ,G,ab,ok⟩:=zz;exact ok [] H ρ .refl ab .nil
theorem Fq (ha:QE X EE e m) (hr:QA X EE es r) (hs:Yj (e::es) X.env=(false,eval e X.env)::Yj es X.env:=by rfl):QA X EE (e::es) (aa m r):=
 PA.mono (rV ha hr hs) λσ H Q h=>by
  obtain ⟨τ,ρ,G,ab,ok⟩:=BA (k:=λτ x=>(r τ).bind λxs=>M.ret (x::xs)) h
  refine ⟨τ,ρ,G,ab,?_⟩
  cases e:m τ G with
  | stuck=>rw [e] at ok;exact ok
  | bB c G'=>rw [e] at ok;exact ok
  | ok d G'=>
   rw [e] at ok
   intro v H' ρ' f' bq r'
   obtain ⟨τ2,ρ2,G2,d2,bG,r2,aH⟩:=ok v H' ρ' f' bq r'
   refine ⟨τ2,ρ2,G2,bG,?_⟩
   dsimp only [M.bind] at aH
   cases e2:r τ2 G2 with
   | stuck=>rw [e2] at aH;exact aH
   | bB c G'=>rw [e2] at aH;exact aH
   | ok d3 G3=>
    rw [e2] at aH
    exact λv3 H3 ρ3 f3 oz r3=>aH (v::v3) H3 ρ3 f3 oz (.cons (r2.mono f3) r3)
noncomputable def ai (f:List D→M D) (m:DS→M (List D)):DS→M D:=λτ=>(m τ).bind f
theorem j4 {m:DS→M (List D)} {f:List D→M D} {r:List V→Hp→VK→Prop} {σ:L2.St} {H:Hp} {Q:VK}
  (hd:∀ (H:Hp) (τ:DS) (ρ:List Addr) (G:DH) (xs:List V) (ds:List D),Ab X.K X.mg σ H τ ρ G→aq X.K X.mg ρ H ds xs→iI X.K X.mg EE H σ τ ρ (f ds G) Q→r xs H Q)
  (h:bh X.K X.mg EE (ai f m) σ H Q):ie X.K X.mg EE m σ H λxs H1=>r xs H1 Q:=by
 obtain ⟨τ,ρ,G,ab,ok⟩:=jf (k:=λ_=>f) h
 refine ⟨τ,ρ,G,ab,?_⟩
 cases e:m τ G with
 | stuck=>rw [e] at ok;exact ok
 | bB c G'=>rw [e] at ok;exact ok
 | ok d G'=>
  rw [e] at ok
  intro v H' ρ' f' bq r'
  obtain ⟨τ2,ρ2,G2,d2,bG,r2,aH⟩:=ok v H' ρ' f' bq r'
  exact hd H' τ2 ρ2 G2 v d2 bG r2 aH
theorem Kh {m:DS→M (List D)} {x1} (h:QA X EE es m):QE X EE (.Tuple es x1 pos) (ai aY m):=
 PE.mono (JO h) λσ H Q h=>j4 (r:=λxs H1 Q=>xs.length≤XT∧∀ p,H1 p=none→Q (.ref p) (upd H1 p (.tup xs))) (λH τ ρ G xs ds ab r ok=>oE ab r ok) h
theorem Kl {m:DS→M (List D)} (h:QA X EE es m):QE X EE (.List es pos) (ai aI m):=
 PE.mono (JP h) λσ H Q h=>j4 (r:=λxs H1 Q=>xs.length≤XT∧∀ p,H1 p=none→Q (.ref p) (upd H1 p (.lst xs))) (λH τ ρ G xs ds ab r ok=>kP ab r ok) h
noncomputable def CallD (X:Cx) (EE:bO) (r:List V→Hp→VK→Prop) (f:List D→M D):Prop:=∀ (σ:L2.St) (H:Hp) (τ:DS) (ρ:List Addr) (G:DH) (xs:List V) (ds:List D) (Q:VK),
 Ab X.K X.mg σ H τ ρ G→aq X.K X.mg ρ H ds xs→iI X.K X.mg EE H σ τ ρ (f ds G) Q→r xs H Q
theorem BF {p:Pos} {m:DS→M (List D)} {id:String} {r:List V→Hp→VK→Prop} {f:List D→M D} (hc:cV X (.builtin id) r) (hd:CallD X EE r f) (hm:X.mg x=none) (ha:QA X EE (e::es) m)
  (hg:Gl X x:=by rfl) (hv:bootBuiltins x=some (.builtin id):=by first | rfl | decide) (hn:x≠"__name__":=by decide) (hdb:(x==("__debug__":Str))=false:=by decide)
  (he:Yj (e::es) X.env=(false,eval e X.env)::Yj es X.env:=by rfl) (hpl:(backTo pos (Yj es X.env)).any (·.1)=false:=by rfl):QE X EE (.Call (.Name x p) (e::es) [] pos) (ai f m):=
 PE.mono (Bk hc hg hm hv ha hn hdb he hpl) λσ H Q h=>j4 (r:=r) (λH τ ρ G xs ds ab r ok=>hd σ H τ ρ G xs ds Q ab r ok) h
theorem zB {p:Pos} {m:DS→M (List D)} {r:List V→Hp→VK→Prop} {f:List D→M D} (hc:cV X (.type T) r) (hd:CallD X EE r f) (hm:X.mg x=none) (ha:QA X EE (e::es) m)
  (hg:Gl X x:=by rfl) (hv:bootBuiltins x=some (.type T):=by first | rfl | decide) (hn:x≠"__name__":=by decide) (hdb:(x==("__debug__":Str))=false:=by decide)
  (he:Yj (e::es) X.env=(false,eval e X.env)::Yj es X.env:=by rfl) (hpl:(backTo pos (Yj es X.env)).any (·.1)=false:=by rfl):QE X EE (.Call (.Name x p) (e::es) [] pos) (ai f m):=
 PE.mono (zw hc hg hm hv ha hn hdb he hpl) λσ H Q h=>j4 (r:=r) (λH τ ρ G xs ds ab r ok=>hd σ H τ ρ G xs ds Q ab r ok) h
noncomputable def oF (f:D→M Bool) (m:DS→M D):DS→M Bool:=λτ=>(m τ).bind f
noncomputable def r9:D→M Bool
 | .cz=>M.ret false
 | .bl b=>M.ret b
 | .int i=>M.ret (i != 0)
 | .str y=>if y.length≤XT then M.ret ((y.length:Int) != 0) else M.stop
 | .tup xs=>M.ret (!xs.isEmpty)
 | .con xs=>M.ret (!xs.isEmpty)
 | .obj n=>λG=>match G[n]? with
  | some (.lst xs)=>.ok (!xs.isEmpty) G
  | _=>.stuck
 | .fn _=>M.stop
 | .uv _ _=>M.stop
 | .iG _ _=>M.stop
theorem ji (r:aq K mg ρ H ds vs):(!vs.isEmpty)=!ds.isEmpty:=by
 have:=r.length
 cases ds<;>cases vs<;>first | rfl | (simp at this)
theorem BG {Q:Bool→Hp→Prop} (h:liftT X.K X.mg EE (oF r9 m) σ H Q) :
  bh X.K X.mg EE m σ H λx H1=>∃ k,JK X.K x H1 k∧Q k H1:=by
 obtain ⟨τ,ρ,G,ab,ok⟩:=By (k:=λ_=>r9) h
 refine ⟨τ,ρ,G,ab,?_⟩
 cases e:m τ G with
 | stuck=>rw [e] at ok;exact ok
 | bB c G'=>rw [e] at ok;exact ok
 | ok d G'=>
  rw [e] at ok
  intro v H' ρ' f' bq r'
  obtain ⟨τ2,ρ2,G2,d2,bG,r2,aH⟩:=ok v H' ρ' f' bq r'
  cases d2 with
  | cz=>unfold Rep at r2;subst r2;exact ⟨false,rfl,aH H' ρ2 .refl bG⟩
  | bl b=>unfold Rep at r2;subst r2;exact ⟨b,rfl,aH H' ρ2 .refl bG⟩
  | int i=>unfold Rep at r2;subst r2;exact ⟨_,rfl,aH H' ρ2 .refl bG⟩
  | str y=>
   unfold Rep at r2;subst r2
   dsimp only [r9] at aH
   split at aH
   ·rename_i hl;exact ⟨_,⟨hl,rfl⟩,aH H' ρ2 .refl bG⟩
   ·exact aH.elim
  | tup xs=>
   unfold Rep at r2
   obtain ⟨p,vs,rfl,sq,rs⟩:=r2
   exact ⟨!vs.isEmpty,.inr (.inl ⟨vs,sq,rfl⟩),by rw [ji rs];exact aH H' ρ2 .refl bG⟩
  | con xs=>
   unfold Rep at r2
   obtain ⟨p,vs,rfl,sq,rs⟩:=r2
   exact ⟨!vs.isEmpty,.inl ⟨vs,sq.seq,rfl⟩,by rw [ji rs];exact aH H' ρ2 .refl bG⟩
  | obj n=>
   unfold Rep at r2
   obtain ⟨p,rfl,e1⟩:=r2
   dsimp only [r9] at aH
   cases q:G2[n]? with
   | none=>rw [q] at aH;exact aH.elim
   | some o=>
    cases o with
    | lst xs=>
     rw [q] at aH
     obtain ⟨p',vs,e2,hp,rs⟩:=bG.hp.lst q
     rw [e1] at e2;cases e2
     exact ⟨!vs.isEmpty,.inl ⟨vs,.of hp,rfl⟩,by rw [ji rs];exact aH H' ρ2 .refl bG⟩
    | _=>first | (rw [q] at ok;exact ok.elim) | (rw [q] at aH;exact aH.elim) | (rw [q] at e;cases e;done) | (rw [g] at ok;exact ok.elim) | (rw [g] at q;cases q;done) | (rw [g] at h;cases h;done) | (rw [g2] at ok;exact ok.elim) | (rw [g1,g2] at ok;exact ok.elim) | (rw [q1] at ok;exact ok.elim) | exact ok.elim
  | fn x=>exact aH.elim
  | uv c as=>exact aH.elim
  | iG y0 c0=>exact aH.elim
theorem Km (ha:QE X EE a ma) (he:∀ whole,isTrue a X.env whole=(do let v ← whole;standAt a.pos;holding [v] (truthy v)):=by intro _;rfl):QT X EE a (oF r9 ma):=
 PT.mono (Bf ha he) λσ H Q h=>BG h
end
noncomputable def c9 {α β:Type} (f:α→Option β):List α→Option (List β)
 | []=>some []
 | a::r=>match f a,c9 f r with
  | some b,some bs=>some (b::bs)
  | _,_=>none
noncomputable def jJ (G:DH):Nat→D→Option PyData
 | 0,_=>none
 | _+1,.cz=>some .none
 | _+1,.bl b=>some (.bool b)
 | _+1,.int i=>some (.int i)
 | _+1,.str x=>some (.str x)
 | n+1,.tup ds=>(c9 (jJ G n) ds).map .tuple
 | n+1,.con ds=>(c9 (jJ G n) ds).map .list
 | n+1,.obj k=>match G[k]? with
  | some (.lst ds)=>(c9 (jJ G n) ds).map .list
  | _=>none
 | _+1,.fn _=>none
 | _+1,.uv _ _=>none
 | _+1,.iG _ _=>none
section
variable {X:Cx} {EE:bO} {pins:List (Addr×Obj)} {σ:L2.St} {H:Hp} {s:XX} {ρ:List Addr} {G:DH}
theorem readsAll {f:D→Option PyData} (hf:∀ (d:D) (x:V) (u:XR) (p:PyData),Rep X.K X.mg ρ H d x→RelV x u→f d=some p→∃ as,Reads s.heap u p as) :
  ∀ (ds:List D) (xs:List V) (us:List XR) (ps:List PyData),aq X.K X.mg ρ H ds xs→Vals xs us→c9 f ds=some ps→∃ as,ReadsAll s.heap us ps as
 | [],xs,us,ps,r,v,e=>by
  unfold aq at r;subst r
  cases v;cases e
  exact ⟨[],.nil⟩
 | d::ds,xs,us,ps,r,v,e=>by
  unfold aq at r
  obtain ⟨x,r',rfl,h1,h2⟩:=r
  cases v with
  | cons v1 v2=>
  unfold c9 at e
  cases e1:f d with
  | none=>rw [e1] at e;cases e
  | some p=>
   cases e2:c9 f ds with
   | none=>rw [e1,e2] at e;cases e
   | some qs=>
    rw [e1,e2] at e
    cases e
    obtain ⟨as,a1⟩:=hf d x _ p h1 v1 e1
    obtain ⟨bs,a2⟩:=readsAll hf ds r' _ qs h2 v2 e2
    exact ⟨as++bs,.cons a1 a2⟩
theorem eE (I:Inv X pins σ H s) (hp:fy X.K X.mg H ρ G):∀ (n:Nat) (d:D) (x:V) (u:XR) (p:PyData),Rep X.K X.mg ρ H d x→RelV x u→jJ G n d=some p→∃ as,Reads s.heap u p as
 | 0,_,_,_,_,_,_,e=>nomatch e
 | n+1,.cz,x,u,p,r,v,e=>by unfold Rep at r;subst r;cases v;cases e;exact ⟨_,.none⟩
 | n+1,.bl b,x,u,p,r,v,e=>by unfold Rep at r;subst r;cases v;cases e;exact ⟨_,.bool b⟩
 | n+1,.int i,x,u,p,r,v,e=>by unfold Rep at r;subst r;obtain ⟨t,rfl⟩:=v;cases e;exact ⟨_,.int i t⟩
 | n+1,.str y,x,u,p,r,v,e=>by unfold Rep at r;subst r;obtain ⟨t,rfl⟩:=v;cases e;exact ⟨_,.str y t⟩
 | n+1,.tup ds,x,u,p,r,v,e=>by
  unfold Rep at r
  obtain ⟨a,xs,rfl,sq,rs⟩:=r
  cases v
  obtain ⟨its,vs,⟨o,e1,e2,k,e3⟩,_⟩:=I.tuple (pU.t sq)
  unfold jJ at e
  cases q:c9 (jJ G n) ds with
  | none=>rw [q] at e;cases e
  | some ps=>
   rw [q] at e;cases e
   obtain ⟨as,ra⟩:=readsAll (λd x u p=>eE I hp n d x u p) ds xs its ps rs vs q
   exact ⟨as,.tuple e1 e2 e3 (by simpa using ra)⟩
 | n+1,.con ds,x,u,p,r,v,e=>by
  unfold Rep at r
  obtain ⟨a,xs,rfl,sq,rs⟩:=r
  cases v
  obtain ⟨its,vs,⟨o,k,e1,e2,e3,e4⟩,_⟩:=I.list sq.seq
  unfold jJ at e
  cases q:c9 (jJ G n) ds with
  | none=>rw [q] at e;cases e
  | some ps=>
   rw [q] at e;cases e
   obtain ⟨as,ra⟩:=readsAll (λd x u p=>eE I hp n d x u p) ds xs its ps rs vs q
   exact ⟨_,.list e1 e2 e4 (by simpa using ra)⟩
 | n+1,.obj k,x,u,p,r,v,e=>by
  unfold Rep at r
  obtain ⟨a,rfl,e0⟩:=r
  cases v
  dsimp only [jJ] at e
  cases q:G[k]? with
  | none=>rw [q] at e;cases e
  | some o=>
   cases o with
   | lst ds=>
    rw [q] at e
    obtain ⟨a',xs,e1,e2,rs⟩:=hp.lst q
    rw [e0] at e1;cases e1
    obtain ⟨its,vs,⟨o,k,e1,e2,e3,e4⟩,_⟩:=I.list (.of e2)
    dsimp only at e
    cases q:c9 (jJ G n) ds with
    | none=>rw [q] at e;cases e
    | some ps=>
     rw [q] at e;cases e
     obtain ⟨as,ra⟩:=readsAll (λd x u p=>eE I hp n d x u p) ds xs its ps rs vs q
     exact ⟨_,.list e1 e2 e4 (by simpa using ra)⟩
   | _=>first | (rw [q] at ok;exact ok.elim) | (rw [q] at aH;exact aH.elim) | (rw [q] at e;cases e;done) | (rw [g] at ok;exact ok.elim) | (rw [g] at q;cases q;done) | (rw [g] at h;cases h;done) | (rw [g2] at ok;exact ok.elim) | (rw [g1,g2] at ok;exact ok.elim) | (rw [q1] at ok;exact ok.elim) | exact ok.elim
 | n+1,.fn y,x,u,p,r,v,e=>nomatch e
 | n+1,.uv y _,x,u,p,r,v,e=>nomatch e
 | n+1,.iG y _,x,u,p,r,v,e=>nomatch e
end
section
variable {X:Cx} {EE:bO} {a b c:Expr} {ma mb mc:DS→M D} {pos:Pos}
noncomputable def rD (X:Cx) (EE:bO) (f:D→D→M D):R2:=λx y H Q=>∃ σ τ ρ G d e,Ab X.K X.mg σ H τ ρ G∧Rep X.K X.mg ρ H d x∧Rep X.K X.mg ρ H e y∧iI X.K X.mg EE H σ τ ρ (f d e G) Q
theorem jN:BD X EE (rD X EE f) f:=λσ H τ ρ G x y d e Q ab r1 r2 ok=>⟨σ,τ,ρ,G,d,e,ab,r1,r2,ok⟩
theorem Nn {r:R2} (h:BD X EE r f) {x y:V} {H:Hp} {Q:VK} (q:rD X EE f x y H Q):r x y H Q:=by
 obtain ⟨σ,τ,ρ,G,d,e,ab,r1,r2,ok⟩:=q
 exact h σ H τ ρ G x y d e Q ab r1 r2 ok
noncomputable abbrev deep:Nat:=600
noncomputable def wN (d e:D) (G:DH):Option Bool:=match jJ G deep d,jJ G deep e with
 | some p,some q=>if p.canLay0&&(q.canLay0&&decide (min p.depth q.depth≤580)) then some (Zn p q) else none
 | _,_=>none
noncomputable def gj (neg:Bool) (d e:D):M D:=λG=>match wN d e G with
 | some b=>.ok (.bl (neg ^^ b)) G
 | none=>.stuck
theorem BH (hu:X.A.units+600<cLine):ia X (compareOp .Eq) (rD X EE (gj false)):=by
 intro pins s σ0 H x y v u Q I rx ry zu
 obtain ⟨σ,τ,ρ,G,d,e,ab,r1,r2,ok⟩:=zu
 dsimp only [gj,wN] at ok
 cases e1:jJ G deep d with
 | none=>rw [e1] at ok;exact ok.elim
 | some p=>
  cases e2:jJ G deep e with
  | none=>rw [e1,e2] at ok;exact ok.elim
  | some q=>
   rw [e1,e2] at ok
   dsimp only at ok
   by_cases hc:(p.canLay0&&(q.canLay0&&decide (min p.depth q.depth≤580)))=true
   ·rw [if_pos hc] at ok
    simp only [Y4,decide_eq_true_eq] at hc
    obtain ⟨as,ra⟩:=eE I ab.hp deep d x v p r1 rx e1
    obtain ⟨bs,rb⟩:=eE I ab.hp deep e y u q r2 ry e2
    refine SeqAt.compareEq_reads ra rb hc.1 hc.2.1 (by nofun) ⟨.bl _,H,I,rfl,?_⟩
    have:=ok (.bl _) H ρ .refl ab (by unfold Rep;rfl)
    simpa using this
   ·rw [if_neg hc] at ok;exact ok.elim
theorem Kn (hu:X.A.units+600<cLine):ia X (compareOp .NotEq) (rD X EE (gj true)):=by
 intro pins s σ0 H x y v u Q I rx ry zu
 obtain ⟨σ,τ,ρ,G,d,e,ab,r1,r2,ok⟩:=zu
 dsimp only [gj,wN] at ok
 cases e1:jJ G deep d with
 | none=>rw [e1] at ok;exact ok.elim
 | some p=>
  cases e2:jJ G deep e with
  | none=>rw [e1,e2] at ok;exact ok.elim
  | some q=>
   rw [e1,e2] at ok
   dsimp only at ok
   by_cases hc:(p.canLay0&&(q.canLay0&&decide (min p.depth q.depth≤580)))=true
   ·rw [if_pos hc] at ok
    simp only [Y4,decide_eq_true_eq] at hc
    obtain ⟨as,ra⟩:=eE I ab.hp deep d x v p r1 rx e1
    obtain ⟨bs,rb⟩:=eE I ab.hp deep e y u q r2 ry e2
    refine SeqAt.compareNe_reads ra rb hc.1 hc.2.1 (by nofun) ⟨.bl _,H,I,rfl,?_⟩
    have:=ok (.bl _) H ρ .refl ab (by unfold Rep;rfl)
    simpa using this
   ·rw [if_neg hc] at ok;exact ok.elim
theorem Np (hu:X.A.units+600<cLine) (ha:QE X EE a ma) (hb:QE X EE b mb):QE X EE (.Compare a [.Eq] [b] pos) (aj (gj false) ma mb):=BE (BH hu) jN ha hb (Be _)
inductive QM where
 | lst (xs:List D) | tup (xs:List D) | str (x:Str)
noncomputable def aD (G:DH):D→Option QM
 | .tup xs=>some (.tup xs)
 | .con xs=>some (.lst xs)
 | .obj n=>match G[n]? with
  | some (.lst xs)=>some (.lst xs)
  | _=>none
 | .str x=>some (.str x)
 | _=>none
noncomputable def H8 (d:D) (ds:List D) (G:DH):Option Bool:=match jJ G deep d,c9 (jJ G deep) ds with
 | some p,some qs=>if p.canLay0&&(Za qs&&decide (min (Z0 qs) p.depth≤580)) then some (qs.any λy=>Zn y p) else none
 | _,_=>none
noncomputable def t7 (neg:Bool) (d e:D):M D:=λG=>match aD G e with
 | some (.lst ds)=>match H8 d ds G with
  | some b=>.ok (.bl (neg ^^ b)) G
  | none=>.stuck
 | some (.tup ds)=>match H8 d ds G with
  | some b=>.ok (.bl (neg ^^ b)) G
  | none=>.stuck
 | some (.str j)=>match d with
  | .str i=>.ok (.bl (neg ^^ !(abM j i 0 j.length 1).isEmpty)) G
  | _=>.stuck
 | none=>.stuck
theorem bC {pins:List (Addr×Obj)} {σ0:L2.St} {s:XX} {x:V} (h:fy X.K X.mg H ρ G) (r:Rep X.K X.mg ρ H d x) (e:aD G d=some (.lst ds)) :
  ∃ p xs,x=.ref p∧j0 X.K H p xs∧aq X.K X.mg ρ H ds xs:=by
 cases d with
 | con xs=>
  cases e
  unfold Rep at r
  obtain ⟨a,xs,rfl,sq,rs⟩:=r
  exact ⟨a,xs,rfl,sq.seq,rs⟩
 | obj n=>
  unfold Rep at r
  obtain ⟨a,rfl,e0⟩:=r
  dsimp only [aD] at e
  cases q:G[n]? with
  | none=>rw [q] at e;cases e
  | some o=>
   cases o with
   | lst ys=>
    rw [q] at e;cases e
    obtain ⟨a',xs,e1,e2,rs⟩:=h.lst q
    rw [e0] at e1;cases e1
    exact ⟨a,xs,rfl,.of e2,rs⟩
   | _=>first | (rw [q] at ok;exact ok.elim) | (rw [q] at aH;exact aH.elim) | (rw [q] at e;cases e;done) | (rw [g] at ok;exact ok.elim) | (rw [g] at q;cases q;done) | (rw [g] at h;cases h;done) | (rw [g2] at ok;exact ok.elim) | (rw [g1,g2] at ok;exact ok.elim) | (rw [q1] at ok;exact ok.elim) | exact ok.elim
 | _=>cases e
theorem kQ {x:V} (r:Rep X.K X.mg ρ H d x) (e:aD G d=some (.tup ds)) :
  ∃ p xs,x=.ref p∧pU H p xs∧aq X.K X.mg ρ H ds xs:=by
 cases d with
 | tup xs=>
  cases e
  unfold Rep at r
  obtain ⟨a,xs,rfl,sq,rs⟩:=r
  exact ⟨a,xs,rfl,sq,rs⟩
 | obj n=>
  dsimp only [aD] at e
  cases q:G[n]? with
  | none=>rw [q] at e;cases e
  | some o=>cases o<;>(rw [q] at e;cases e)
 | _=>cases e
theorem g8 {x:V} (r:Rep X.K X.mg ρ H d x) (e:aD G d=some (.tup ds)) :
  ∃ p xs,x=.ref p∧kI X.K H p xs∧aq X.K X.mg ρ H ds xs:=let ⟨p,xs,h1,h2,h3⟩:=kQ r e;⟨p,xs,h1,h2.t,h3⟩
theorem j5 {x:V} (r:Rep X.K X.mg ρ H d x) (e:aD G d=some (.str y)):d=.str y∧x=.str y:=by
 cases d with
 | str z=>cases e;unfold Rep at r;exact ⟨rfl,r⟩
 | obj n=>
  dsimp only [aD] at e
  cases q:G[n]? with
  | none=>rw [q] at e;cases e
  | some o=>cases o<;>(rw [q] at e;cases e)
 | _=>cases e
theorem Ko {p:Addr} (I:Inv X pins σ0 H s) (hp:fy X.K X.mg H ρ G) (sq:j0 X.K H p xs) (rs:aq X.K X.mg ρ H ds xs)
  (e:c9 (jJ G deep) ds=some qs):∃ as,Reads s.heap (.ref p) (.list qs) as:=by
 obtain ⟨its,vs,⟨o,k,e1,e2,e3,e4⟩,_⟩:=I.list sq
 obtain ⟨as,ra⟩:=readsAll (λd x u p=>eE I hp deep d x u p) ds xs its qs rs vs e
 exact ⟨_,.list e1 e2 e4 (by simpa using ra)⟩
theorem Kp {p:Addr} (I:Inv X pins σ0 H s) (hp:fy X.K X.mg H ρ G) (sq:kI X.K H p xs) (rs:aq X.K X.mg ρ H ds xs)
  (e:c9 (jJ G deep) ds=some qs):∃ as,Reads s.heap (.ref p) (.tuple qs) as:=by
 obtain ⟨its,vs,⟨o,e1,e2,k,e3⟩,_⟩:=I.tuple sq
 obtain ⟨as,ra⟩:=readsAll (λd x u p=>eE I hp deep d x u p) ds xs its qs rs vs e
 exact ⟨_,.tuple e1 e2 e3 (by simpa using ra)⟩
theorem uy {b:Bool} (h:H8 d ds G=some b):∃ p qs,jJ G deep d=some p∧c9 (jJ G deep) ds=some qs∧p.canLay0=true∧Za qs=true∧min (Z0 qs) p.depth≤580∧b=qs.any λy=>Zn y p:=by
 unfold H8 at h
 cases e1:jJ G deep d with
 | none=>rw [e1] at h;cases h
 | some p=>
  cases e2:c9 (jJ G deep) ds with
  | none=>rw [e1,e2] at h;cases h
  | some qs=>
   rw [e1,e2] at h
   dsimp only at h
   by_cases hc:(p.canLay0&&(Za qs&&decide (min (Z0 qs) p.depth≤580)))=true
   ·rw [if_pos hc] at h
    simp only [Y4,decide_eq_true_eq] at hc
    exact ⟨p,qs,rfl,rfl,hc.1,hc.2.1,hc.2.2,(Yu h).symm⟩
   ·rw [if_neg hc] at h;cases h
theorem Kq (hu:X.A.units+600<cLine):ia X (compareOp .In) (rD X EE (t7 false)):=by
 intro pins s σ0 H x y v u Q I rx ry zu
 obtain ⟨σ,τ,ρ,G,d,e,ab,r1,r2,ok⟩:=zu
 dsimp only [t7] at ok
 cases q:aD G e with
 | none=>rw [q] at ok;exact ok.elim
 | some sk=>
  rw [q] at ok
  cases sk with
  | lst ds=>
   dsimp only at ok
   cases qb:H8 d ds G with
   | none=>rw [qb] at ok;exact ok.elim
   | some b=>
    rw [qb] at ok
    obtain ⟨p,qs,e1,e2,h1,h2,h3,rfl⟩:=uy qb
    obtain ⟨l,xs,rfl,sq,rs⟩:=bC (pins:=pins) (σ0:=σ0) (s:=s) ab.hp r2 q
    cases ry
    obtain ⟨as,ra⟩:=eE I ab.hp deep d x v p r1 rx e1
    obtain ⟨bs,rb⟩:=Ko I ab.hp sq rs e2
    refine SeqAt.in_list_reads rb ra h2 h1 (by nofun) ⟨.bl _,H,I,rfl,?_⟩
    have:=ok (.bl _) H ρ .refl ab (by unfold Rep;rfl)
    simpa using this
  | tup ds=>
   dsimp only at ok
   cases qb:H8 d ds G with
   | none=>rw [qb] at ok;exact ok.elim
   | some b=>
    rw [qb] at ok
    obtain ⟨p,qs,e1,e2,h1,h2,h3,rfl⟩:=uy qb
    obtain ⟨l,xs,rfl,sq,rs⟩:=g8 r2 q
    cases ry
    obtain ⟨as,ra⟩:=eE I ab.hp deep d x v p r1 rx e1
    obtain ⟨bs,rb⟩:=Kp I ab.hp sq rs e2
    refine SeqAt.in_tuple_reads rb ra h2 h1 (by nofun) ⟨.bl _,H,I,rfl,?_⟩
    have:=ok (.bl _) H ρ .refl ab (by unfold Rep;rfl)
    simpa using this
  | str j=>
   obtain ⟨rfl,rfl⟩:=j5 r2 q
   cases d with
   | str i=>
    unfold Rep at r1;subst r1
    refine zo pins s σ0 H _ _ v u Q I rx ry ⟨i,j,rfl,rfl,?_⟩
    have:=ok (.bl _) H ρ .refl ab (by unfold Rep;rfl)
    simpa using this
   | _=>exact ok.elim
noncomputable def Ft (neg:Bool):D→D→M D
 | d,.cz=>match d with
  | .cz=>M.ret (.bl (!neg))
  | _=>M.ret (.bl neg)
 | _,_=>M.stop
theorem Fv {x:V} (r:Rep K mg ρ H d x):decide (x=.cz)=(match d with | .cz=>true | _=>false):=by
 cases d<;>unfold Rep at r
 case cz=>subst r;rfl
 case tup=>obtain ⟨a,xs,rfl,_⟩:=r;rfl
 case con=>obtain ⟨a,xs,rfl,_⟩:=r;rfl
 case obj=>obtain ⟨a,rfl,_⟩:=r;rfl
 case fn=>obtain ⟨a,rfl,_⟩:=r;rfl
 case uv=>obtain ⟨a,cv,rfl,_⟩:=r;rfl
 case iG=>obtain ⟨k,a,cs,xs,rfl,_⟩:=r;rfl
 all_goals (subst r;rfl)
end
section
variable {X:Cx} {EE:bO} {a b c:Expr} {ma mb mc:DS→M D} {pos:Pos}
noncomputable def aU (d e:D):M D:=λG=>match e with
 | .int i=>match aD G d with
  | some (.lst xs)=>match iV xs i with
   | some v=>.ok v G
   | none=>.stuck
  | some (.tup xs)=>match iV xs i with
   | some v=>.ok v G
   | none=>.stuck
  | some (.str z)=>if z.length≤XT then (match iV z.cps.toList i with
   | some c=>.ok (.str ⟨#[c]⟩) G
   | none=>.stuck) else .stuck
  | none=>.stuck
 | _=>.stuck
theorem uz {i:Int} (r:aq K mg ρ H ds vs) (h:iV ds i=some d):∃ v,iV vs i=some v∧Rep K mg ρ H d v:=by
 unfold iV at h ⊢
 rw [← r.length]
 cases e:vY ds.length i with
 | none=>rw [e] at h;cases h
 | some j=>
  rw [e] at h
  obtain ⟨v,e1,e2⟩:=r.get (show ds[j]?=some d from h)
  exact ⟨v,e1,e2⟩
theorem QN:Ep X (rD X EE aU):=by
 intro value slice pins s σ0 H x y v u Q I rx ry zu hs
 obtain ⟨σ,τ,ρ,G,d,e,ab,r1,r2,ok⟩:=zu
 cases e<;>try exact ok.elim
 rename_i i
 unfold Rep at r2;subst r2
 dsimp only [aU] at ok
 cases q:aD G d with
 | none=>rw [q] at ok;exact ok.elim
 | some sk=>
  rw [q] at ok
  cases sk with
  | lst ds=>
   dsimp only at ok
   cases qa:iV ds i with
   | none=>rw [qa] at ok;exact ok.elim
   | some z=>
    rw [qa] at ok
    obtain ⟨l,xs,rfl,sq,rs⟩:=bC (pins:=pins) (σ0:=σ0) (s:=s) ab.hp r1 q
    obtain ⟨w,e1,e2⟩:=uz rs qa
    exact E5 value slice pins s σ0 H _ _ v u Q I rx ry ⟨l,xs,i,w,rfl,rfl,sq,e1,ok w H ρ .refl ab e2⟩ hs
  | tup ds=>
   dsimp only at ok
   cases qa:iV ds i with
   | none=>rw [qa] at ok;exact ok.elim
   | some z=>
    rw [qa] at ok
    obtain ⟨l,xs,rfl,sq,rs⟩:=g8 r1 q
    obtain ⟨w,e1,e2⟩:=uz rs qa
    exact JX value slice pins s σ0 H _ _ v u Q I rx ry ⟨l,xs,i,w,rfl,rfl,sq,e1,ok w H ρ .refl ab e2⟩ hs
  | str z=>
   dsimp only at ok
   obtain ⟨rfl,rfl⟩:=j5 r1 q
   by_cases hz:z.length≤XT
   ·rw [if_pos hz] at ok
    cases qa:iV z.cps.toList i with
    | none=>rw [qa] at ok;exact ok.elim
    | some c=>
     rw [qa] at ok
     exact JY value slice pins s σ0 H _ _ v u Q I rx ry ⟨z,i,c,rfl,rfl,hz,qa,ok _ H ρ .refl ab (by unfold Rep;rfl)⟩ hs
   ·rw [if_neg hz] at ok;exact ok.elim
theorem BI (ha:QE X EE a ma) (hb:QE X EE b mb) (hs:nP b:=by intro _ _;rfl):QE X EE (.Subscript a b pos) (aj aU ma mb):=Nl QN jN ha hb hs
noncomputable def fP:DS→M (Option Int):=λ_=>M.ret none
noncomputable def bR (m:DS→M D):DS→M (Option Int):=λτ=>(m τ).bind λd=>match d with
 | .int i=>M.ret (some i)
 | _=>M.stop
noncomputable def Uw (K:XU) (mg:Str→Option XR) (EE:bO) (H:Hp) (σ:L2.St) (τ:DS) (ρ:List Addr):Out (Option Int)→(Option Int→Hp→Prop)→Prop
 | .stuck,_=>False
 | .ok b G',Q=>∀ H' ρ',bX K H H' ρ ρ'→Ab K mg σ H' τ ρ' G'→Q b H'
 | .bB c G',_=>∀ H' ρ',bX K H H' ρ ρ'→Ab K mg σ H' τ ρ' G'→EE c σ H'
noncomputable def Nq (K:XU) (mg:Str→Option XR) (EE:bO) (m:DS→M (Option Int)):TO:=λσ H Q=>∃ τ ρ G,Ab K mg σ H τ ρ G∧Uw K mg EE H σ τ ρ (m τ G) Q
noncomputable def QO (X:Cx) (EE:bO) (e:Option Expr) (m:DS→M (Option Int)):Prop:=PO X e (Nq X.K X.mg EE m)
theorem PO.mono {e:Option Expr} {t t':TO} (h:PO X e t) (i:∀ σ H Q,t' σ H Q→t σ H Q):PO X e t':=λpins s σ H Q I q=>h pins s σ H Q I (i _ _ _ q)
theorem Fw:QO X EE none fP:=PO.mono E2 λσ H Q zz=>by obtain ⟨τ,ρ,G,ab,ok⟩:=zz;exact ok H ρ .refl ab
theorem Fx (ha:QE X EE a ma):QO X EE (some a) (bR ma):=PO.mono (E3 ha) λσ H Q zz=>by
 obtain ⟨τ,ρ,G,ab,ok⟩:=zz
 refine ⟨τ,ρ,G,ab,?_⟩
 dsimp only [bR,M.bind] at ok
 cases e:ma τ G with
 | stuck=>rw [e] at ok;exact ok
 | bB c G'=>rw [e] at ok;exact ok
 | ok d G'=>
  rw [e] at ok
  intro v H' ρ' f bq r
  cases d<;>try exact ok.elim
  rename_i i
  unfold Rep at r
  exact ⟨i,r,ok H' ρ' f bq⟩
noncomputable def cutD (xs:List D) (lo hi:Option Int):List D:=(xs.drop (HT.fq xs.length 0 lo)).take (HT.fq xs.length xs.length hi - HT.fq xs.length 0 lo)
noncomputable def wO (d:D) (lo hi:Option Int):M D:=λG=>match aD G d with
 | some (.lst xs)=>aI (cutD xs lo hi) G
 | some (.tup xs)=>if HT.fq xs.length 0 lo=0∧HT.fq xs.length xs.length hi=xs.length then .stuck else aY (cutD xs lo hi) G
 | some (.str z)=>if z.length≤XT then .ok (.str (aaW z lo hi)) G else .stuck
 | none=>.stuck
noncomputable def l6 (m:DS→M D) (ml mh:DS→M (Option Int)):DS→M D:=λτ=>(m τ).bind λd=>(ml τ).bind λlo=>(mh τ).bind λhi=>wO d lo hi
noncomputable def QU (X:Cx) (EE:bO):V→Option Int→Option Int→Hp→VK→Prop:=λx lo hi H Q=>∃ σ τ ρ G d,Ab X.K X.mg σ H τ ρ G∧Rep X.K X.mg ρ H d x∧iI X.K X.mg EE H σ τ ρ (wO d lo hi G) Q
theorem uA (r:aq K mg ρ H ds vs) (lo hi:Option Int):aq K mg ρ H (cutD ds lo hi) (ug vs lo hi):=by
 unfold cutD ug
 rw [r.length]
 exact (r.drop _).take _
theorem j6 (x:Str) (l u:Option (Int×Tok)) (lo hi:Option Int) (hl:l.map (·.1)=lo) (hu:u.map (·.1)=hi) (t:Tok) (s:XX) (Q:XR→XX→Prop) (hz:x.length≤XT)
  (h:∀ t' k,Q (.str (aaW x lo hi) t') {s with toks:=k}):(sliceMade x t l u none).post Q s:=by
 subst hl hu
 cases l<;>cases u<;>exact post_val_or_str ⟨YV (Txt.slice_le x _ _) hz,λt' k=>h t' k⟩
theorem Nr:HW X (QU X EE):=by
 intro pins s σ0 H x v vl vu lo hi sl Q I rx hs pl pu zu
 obtain ⟨σ,τ,ρ,G,d,ab,r1,ok⟩:=zu
 dsimp only [wO] at ok
 cases q:aD G d with
 | none=>rw [q] at ok;exact ok.elim
 | some sk=>
  rw [q] at ok
  cases sk with
  | lst ds=>
   obtain ⟨l,xs,rfl,sq,rs⟩:=bC (pins:=pins) (σ0:=σ0) (s:=s) ab.hp r1 q
   exact E6 pins s σ0 H _ v vl vu lo hi sl Q I rx hs pl pu ⟨l,xs,rfl,sq,(kP ab (uA rs lo hi) ok).2⟩
  | tup ds=>
   obtain ⟨l,xs,rfl,sq,rs⟩:=g8 r1 q
   dsimp only at ok
   by_cases hw:HT.fq ds.length 0 lo=0∧HT.fq ds.length ds.length hi=ds.length
   ·rw [if_pos hw] at ok;exact ok.elim
   ·rw [if_neg hw] at ok
    refine JW pins s σ0 H _ v vl vu lo hi sl Q I rx hs pl pu ⟨l,xs,rfl,sq,?_,(oE ab (uA rs lo hi) ok).2⟩
    rw [← rs.length];exact hw
  | str z=>
   obtain ⟨rfl,rfl⟩:=j5 r1 q
   dsimp only at ok
   by_cases hz:z.length≤XT
   ·rw [if_pos hz] at ok
    obtain ⟨t,rfl⟩:=rx
    refine ⟨"str",_,F.slot_str_getitem.lookup,typeIs_str _ _ _,?_⟩
    obtain ⟨o,e1,e2,e3⟩:=hs
    refine gR I.os.2 ?_
    have fin:∀ t' k,0<k→EP X pins σ0 Q (.str (aaW z lo hi) t') {s with toks:=k}:=λt' k ht=>⟨.str _,H,I.tok k,⟨t',rfl⟩,ok _ H ρ .refl ab (by unfold Rep;rfl)⟩
    cases pl with
    | none=>
     cases pu with
     | none=>exact aai (l:=none) (u:=none) (st:=none) ⟨o,e1,e2,e3⟩ rfl (j6 z none none none none rfl rfl t s _ hz fin)
     | int j tj=>exact aai (l:=none) (u:=some (j,tj)) (st:=none) ⟨o,e1,e2,e3⟩ rfl (j6 z none (some (j,tj)) none (some j) rfl rfl t s _ hz fin)
    | int i ti=>
     cases pu with
     | none=>exact aai (l:=some (i,ti)) (u:=none) (st:=none) ⟨o,e1,e2,e3⟩ rfl (j6 z (some (i,ti)) none (some i) none rfl rfl t s _ hz fin)
     | int j tj=>exact aai (l:=some (i,ti)) (u:=some (j,tj)) (st:=none) ⟨o,e1,e2,e3⟩ rfl (j6 z (some (i,ti)) (some (j,tj)) (some i) (some j) rfl rfl t s _ hz fin)
   ·rw [if_neg hz] at ok;exact ok.elim
theorem BJ {lo hi:Option Expr} (ha:QE X EE a ma) (hl:QO X EE lo ml) (hh:QO X EE hi mh):QE X EE (.Subscript a (.Slice lo hi none p2) pos) (l6 ma ml mh):=
 PE.mono (Bm Nr ha hl hh) λσ H Q zz=>by
  obtain ⟨τ,ρ,G,ab,ok⟩:=zz
  refine ⟨τ,ρ,G,ab,?_⟩
  dsimp only [l6,M.bind] at ok
  cases e1:ma τ G with
  | stuck=>rw [e1] at ok;exact ok
  | bB c G'=>rw [e1] at ok;exact ok
  | ok d G1=>
   rw [e1] at ok
   dsimp only at ok
   intro v H1 ρ1 f1 fW r1
   refine ⟨τ,ρ1,G1,fW,?_⟩
   cases e2:ml τ G1 with
   | stuck=>rw [e2] at ok;exact ok
   | bB c G'=>rw [e2] at ok;exact λH' ρ' f'=>ok H' ρ' (f1.trans f')
   | ok l G2=>
    rw [e2] at ok
    dsimp only at ok
    intro H2 ρ2 f2 bG
    refine ⟨τ,ρ2,G2,bG,?_⟩
    cases e3:mh τ G2 with
    | stuck=>rw [e3] at ok;exact ok
    | bB c G'=>rw [e3] at ok;exact λH' ρ' f'=>ok H' ρ' ((f1.trans f2).trans f')
    | ok u G3=>
     rw [e3] at ok
     dsimp only at ok
     intro H3 ρ3 f3 oz
     exact ⟨σ,τ,ρ3,G3,d,oz,r1.mono (f2.trans f3),ok.fut ((f1.trans f2).trans f3)⟩
noncomputable def dY (ma mb:DS→M Bool):DS→M Bool:=λτ=>(ma τ).bind λc=>if c then mb τ else M.ret false
noncomputable def BK (ma mb:DS→M Bool):DS→M Bool:=λτ=>(ma τ).bind λc=>if c then M.ret true else mb τ
noncomputable def BL (ma:DS→M Bool):DS→M Bool:=λτ=>(ma τ).bind λc=>M.ret (!c)
variable {ta tb tc:DS→M Bool} {rest:List Expr}
theorem BN {Q:Bool→Hp→Prop} (h:liftT X.K X.mg EE (dY ta tb) σ H Q):ME (liftT X.K X.mg EE ta) (liftT X.K X.mg EE tb) σ H Q:=by
 obtain ⟨τ,ρ,G,ab,ok⟩:=wM (k:=λτ c=>if c then tb τ else M.ret false) h
 refine ⟨τ,ρ,G,ab,?_⟩
 cases e:ta τ G with
 | stuck=>rw [e] at ok;exact ok
 | bB c G'=>rw [e] at ok;exact ok
 | ok k G'=>
  rw [e] at ok
  intro H' ρ' f' bq
  obtain ⟨τ2,ρ2,G2,bG,aH⟩:=ok H' ρ' f' bq
  cases k with
  | true=>exact ⟨τ2,ρ2,G2,bG,aH⟩
  | false=>exact aH H' ρ2 .refl bG
theorem Fz {Q:Bool→Hp→Prop} (h:liftT X.K X.mg EE (BK ta tb) σ H Q):SH (liftT X.K X.mg EE ta) (liftT X.K X.mg EE tb) σ H Q:=by
 obtain ⟨τ,ρ,G,ab,ok⟩:=wM (k:=λτ c=>if c then M.ret true else tb τ) h
 refine ⟨τ,ρ,G,ab,?_⟩
 cases e:ta τ G with
 | stuck=>rw [e] at ok;exact ok
 | bB c G'=>rw [e] at ok;exact ok
 | ok k G'=>
  rw [e] at ok
  intro H' ρ' f' bq
  obtain ⟨τ2,ρ2,G2,bG,aH⟩:=ok H' ρ' f' bq
  cases k with
  | false=>exact ⟨τ2,ρ2,G2,bG,aH⟩
  | true=>exact aH H' ρ2 .refl bG
theorem PW.mono {t t':TT} (h:PW X e t) (i:∀ σ H Q,t' σ H Q→t σ H Q):PW X e t':=λwh pins s σ H Q I q=>h wh pins s σ H Q I (i _ _ _ q)
theorem FA (ha:QT X EE a ta):QW X EE (.BoolOp .And [a] pos) ta:=EG ha
theorem Kr (ha:QT X EE a ta):QW X EE (.BoolOp .Or [a] pos) ta:=Ji ha
theorem Ks (ha:QT X EE a ta) (hb:QW X EE (.BoolOp .And (b::rest) pos) tb):QW X EE (.BoolOp .And (a::b::rest) pos) (dY ta tb):=PW.mono (Jj ha hb) λ_ _ _ h=>BN h
theorem Nt (ha:QT X EE a ta) (hb:QW X EE (.BoolOp .Or (b::rest) pos) tb):QW X EE (.BoolOp .Or (a::b::rest) pos) (BK ta tb):=PW.mono (MF ha hb) λ_ _ _ h=>Fz h
theorem QV (h:QW X EE e ta):QT X EE e ta:=h.pt
theorem Ku (ha:QT X EE a ta):QT X EE (.UnaryOp .Not a pos) (BL ta):=PT.mono (Jk ha) λσ H Q h=>by
 obtain ⟨τ,ρ,G,ab,ok⟩:=wM (k:=λτ c=>M.ret (!c)) h
 refine ⟨τ,ρ,G,ab,?_⟩
 cases e:ta τ G with
 | stuck=>rw [e] at ok;exact ok
 | bB c G'=>rw [e] at ok;exact ok
 | ok k G'=>
  rw [e] at ok
  intro H' ρ' f' bq
  obtain ⟨τ2,ρ2,G2,bG,aH⟩:=ok H' ρ' f' bq
  exact aH H' ρ2 .refl bG
noncomputable def cW (m:DS→M D):DS→M Bool:=λτ=>(m τ).bind λd=>match d with
 | .bl b=>M.ret b
 | _=>M.stop
theorem FD {Q:Bool→Hp→Prop} (h:liftT X.K X.mg EE (cW m) σ H Q):bh X.K X.mg EE m σ H λx H1=>∃ c,x=.bl c∧Q c H1:=by
 obtain ⟨τ,ρ,G,ab,ok⟩:=By (k:=λ_ d=>match d with | .bl b=>M.ret b | _=>M.stop) h
 refine ⟨τ,ρ,G,ab,?_⟩
 cases e:m τ G with
 | stuck=>rw [e] at ok;exact ok
 | bB c G'=>rw [e] at ok;exact ok
 | ok d G'=>
  rw [e] at ok
  intro v H' ρ' f' bq r'
  obtain ⟨τ2,ρ2,G2,d2,bG,r2,aH⟩:=ok v H' ρ' f' bq r'
  cases d2<;>try exact aH.elim
  rename_i k
  unfold Rep at r2
  exact ⟨k,r2,aH H' ρ2 .refl bG⟩
theorem Kv (ho:ia X (compareOp op) (rD X EE f)) (ha:QE X EE a ma) (hb:QE X EE b mb) (hm:behindInMarks op b=false):QT X EE (.Compare a [op] [b] pos) (cW (aj f ma mb)):=
 PT.mono (ER ho ha hb hm) λσ H Q h=>by
  have h1:=FD h
  exact nR jN h1
theorem yo {g:XR→XR→Sem XR} {r:R2} (ho:ia X g r) (hd:BD X EE r f):ia X g (rD X EE f):=λpins s σ H x y v u Q I rx ry q=>ho pins s σ H x y v u Q I rx ry (Nn hd q)
theorem Kw:ia X (compareOp .Lt) (rD X EE pV):=yo MW (gC λ_ _ _ _=>by unfold Rep;rfl)
theorem Ky:ia X (compareOp .Gt) (rD X EE oB):=yo HV (gC λ_ _ _ _=>by unfold Rep;rfl)
theorem Kz:ia X (compareOp .GtE) (rD X EE Fo):=yo MX (gC λ_ _ _ _=>by unfold Rep;rfl)
theorem BO:ia X (compareOp .IsNot) (rD X EE (Ft true)):=yo EN λσ H τ ρ G x y d e Q ab r1 r2 ok=>by
 cases e with
 | cz=>
  unfold Rep at r2
  refine ⟨r2,?_⟩
  rw [Fv r1]
  cases d<;>exact ok _ H ρ .refl ab (by unfold Rep;rfl)
 | _=>exact ok.elim
noncomputable def Ux (t:DS→M Bool) (ma mb:DS→M D):DS→M D:=λτ=>(t τ).bind λc=>if c then ma τ else mb τ
noncomputable def BP (ma mb:DS→M D):DS→M D:=λτ=>(ma τ).bind λd=>match d with
 | .bl true=>mb τ
 | .bl false=>M.ret (.bl false)
 | _=>M.stop
noncomputable def Ph (ma mb:DS→M D):DS→M D:=λτ=>(ma τ).bind λd=>match d with
 | .bl false=>mb τ
 | .bl true=>M.ret (.bl true)
 | _=>M.stop
noncomputable def FE (ma:DS→M D):DS→M D:=λτ=>(ma τ).bind λd=>match d with
 | .bl b=>M.ret (.bl (!b))
 | _=>M.stop
theorem KA {op} (h:QE X EE a ma):QE X EE (.BoolOp op [a] pos) ma:=Jl h
theorem KC (ha:QE X EE a ma) (hb:QE X EE (.BoolOp .And (b::rest) pos) mb):QE X EE (.BoolOp .And (a::b::rest) pos) (BP ma mb):=PE.mono (Jm ha hb) λσ H Q h=>by
 obtain ⟨τ,ρ,G,ab,ok⟩:=je (k:=λτ d=>match d with | .bl true=>mb τ | .bl false=>M.ret (.bl false) | _=>M.stop) h
 refine ⟨τ,ρ,G,ab,?_⟩
 cases e:ma τ G with
 | stuck=>rw [e] at ok;exact ok
 | bB c G'=>rw [e] at ok;exact ok
 | ok k G'=>
  rw [e] at ok
  intro v H' ρ' f' bq r'
  obtain ⟨τ2,ρ2,G2,d2,bG,r2,aH⟩:=ok v H' ρ' f' bq r'
  cases d2<;>try exact aH.elim
  rename_i k
  unfold Rep at r2
  refine ⟨k,r2,?_⟩
  cases k with
  | true=>exact ⟨τ2,ρ2,G2,bG,aH⟩
  | false=>exact aH _ H' ρ2 .refl bG (by unfold Rep;rfl)
theorem Nu (ha:QE X EE a ma) (hb:QE X EE (.BoolOp .Or (b::rest) pos) mb):QE X EE (.BoolOp .Or (a::b::rest) pos) (Ph ma mb):=PE.mono (MJ ha hb) λσ H Q h=>by
 obtain ⟨τ,ρ,G,ab,ok⟩:=je (k:=λτ d=>match d with | .bl false=>mb τ | .bl true=>M.ret (.bl true) | _=>M.stop) h
 refine ⟨τ,ρ,G,ab,?_⟩
 cases e:ma τ G with
 | stuck=>rw [e] at ok;exact ok
 | bB c G'=>rw [e] at ok;exact ok
 | ok k G'=>
  rw [e] at ok
  intro v H' ρ' f' bq r'
  obtain ⟨τ2,ρ2,G2,d2,bG,r2,aH⟩:=ok v H' ρ' f' bq r'
  cases d2<;>try exact aH.elim
  rename_i k
  unfold Rep at r2
  refine ⟨k,r2,?_⟩
  cases k with
  | false=>exact ⟨τ2,ρ2,G2,bG,aH⟩
  | true=>exact aH _ H' ρ2 .refl bG (by unfold Rep;rfl)
theorem KD (ha:QE X EE a ma):QE X EE (.UnaryOp .Not a pos) (FE ma):=PE.mono (Jo ha) λσ H Q h=>by
 obtain ⟨τ,ρ,G,ab,ok⟩:=je (k:=λτ d=>match d with | .bl b=>M.ret (.bl (!b)) | _=>M.stop) h
 refine ⟨τ,ρ,G,ab,?_⟩
 cases e:ma τ G with
 | stuck=>rw [e] at ok;exact ok
 | bB c G'=>rw [e] at ok;exact ok
 | ok k G'=>
  rw [e] at ok
  intro v H' ρ' f' bq r'
  obtain ⟨τ2,ρ2,G2,d2,bG,r2,aH⟩:=ok v H' ρ' f' bq r'
  cases d2<;>try exact aH.elim
  rename_i k
  unfold Rep at r2
  exact ⟨k,r2,aH _ H' ρ2 .refl bG (by unfold Rep;rfl)⟩
noncomputable def mE (ma:DS→M D):DS→M D:=λτ=>(ma τ).bind λd=>match d with
 | .int i=>M.ret (.int (-i))
 | _=>M.stop
theorem KG (ha:QE X EE a ma):QE X EE (.UnaryOp .USub a pos) (mE ma):=PE.mono (MU JJ ha) λσ H Q h=>by
 obtain ⟨τ,ρ,G,ab,ok⟩:=je (k:=λτ d=>match d with | .int i=>M.ret (.int (-i)) | _=>M.stop) h
 refine ⟨τ,ρ,G,ab,?_⟩
 cases e:ma τ G with
 | stuck=>rw [e] at ok;exact ok
 | bB c G'=>rw [e] at ok;exact ok
 | ok k G'=>
  rw [e] at ok
  intro v H' ρ' f' bq r'
  obtain ⟨τ2,ρ2,G2,d2,bG,r2,aH⟩:=ok v H' ρ' f' bq r'
  cases d2<;>try exact aH.elim
  rename_i k
  unfold Rep at r2
  exact ⟨k,r2,aH _ H' ρ2 .refl bG (by unfold Rep;rfl)⟩
end
section
variable {X:Cx} {EE:bO} {a b c:Expr} {ma mb mc:DS→M D} {pos:Pos} {ta tb tc:DS→M Bool} {ms mt:MS}
noncomputable def bf:MS:=λτ G=>.nx τ G
noncomputable def az (m k:MS):MS:=λτ G=>match m τ G with
 | .nx τ' G'=>k τ' G'
 | r=>r
theorem FF:pY X EE [] bf:=v8.mono EH λD σ H zz=>by obtain ⟨τ,ρ,G,ab,ok⟩:=zz;exact ok σ H ρ .refl ab
theorem uB (h:gB X.K X.mg EE (az ms mt) Dd σ H):ML (gB X.K X.mg EE ms) (gB X.K X.mg EE mt) Dd σ H:=by
 obtain ⟨τ,ρ,G,ab,ok⟩:=h
 refine ⟨τ,ρ,G,ab,?_⟩
 dsimp only [az] at ok
 cases e:ms τ G with
 | nx τ' G'=>rw [e] at ok;exact λσ' H' ρ' f bq=>⟨τ',ρ',G',bq,ok.fut f⟩
 | stuck=>rw [e] at ok;exact ok
 | rt d G=>rw [e] at ok;exact ok
 | bk τ G=>rw [e] at ok;exact ok
 | ct τ G=>rw [e] at ok;exact ok
 | xn c τ G=>rw [e] at ok;exact ok
theorem BQ {st:Stmt} {rest:List Stmt} (h1:QS X EE st ms) (h2:pY X EE rest mt):pY X EE (st::rest) (az ms mt):=v8.mono (A6 h1 h2) λ_ _ _ h=>uB h
theorem FG {st:Stmt} (h1:QS X EE st ms):pY X EE [st] ms:=EI h1
noncomputable def ig (m:DS→M D):MS:=λτ=>bE (m τ) (λ_ G=>.nx τ G) λc G=>.xn c τ G
noncomputable def bJ (m:DS→M D):MS:=λτ=>bE (m τ) (λd G=>.rt d G) λc G=>.xn c τ G
noncomputable def Nv:MS:=λ_ G=>.rt .cz G
noncomputable def aF (i:Nat) (m:DS→M D):MS:=λτ=>bE (m τ) (λd G=>.nx (τ.set i (some d)) G) λc G=>.xn c τ G
noncomputable def gJ (t:DS→M Bool) (ma mb:MS):MS:=λτ=>bE (t τ) (λc G=>if c then ma τ G else mb τ G) λc G=>.xn c τ G
theorem FH (he:QE X EE a ma) (hs:swapsWith a none pos.line X.env=pure false:=by rfl):QS X EE (.Expr a pos) (ig ma):=PS.mono (EJ he hs) λD σ H h=>by
 obtain ⟨τ,ρ,G,ab,ok⟩:=kN (k:=λτ d G=>.nx τ G) h
 refine ⟨τ,ρ,G,ab,?_⟩
 cases e:ma τ G with
 | stuck=>rw [e] at ok;exact ok
 | bB c G'=>rw [e] at ok;exact ok
 | ok d G'=>
  rw [e] at ok
  intro v H' ρ' f' bq r'
  obtain ⟨τ2,ρ2,G2,d2,bG,r2,aH⟩:=ok v H' ρ' f' bq r'
  exact aH σ H' ρ2 .refl bG
theorem KH (he:QE X EE a ma):QS X EE (.Return (some a) pos) (bJ ma):=PS.mono (Jp he) λD σ H h=>by
 obtain ⟨τ,ρ,G,ab,ok⟩:=kN (k:=λτ d G=>.rt d G) h
 refine ⟨τ,ρ,G,ab,?_⟩
 cases e:ma τ G with
 | stuck=>rw [e] at ok;exact ok
 | bB c G'=>rw [e] at ok;exact ok
 | ok d G'=>
  rw [e] at ok
  intro v H' ρ' f' bq r'
  obtain ⟨τ2,ρ2,G2,d2,bG,r2,aH⟩:=ok v H' ρ' f' bq r'
  exact aH v H' ρ2 .refl bG.hp r2
theorem Ab.set (ab:Ab K mg σ H τ ρ G) (r:Rep K mg ρ H d v):Ab K mg (σ.set i (some v)) H (τ.set i (some d)) ρ G:=⟨ab.st.set r,ab.hp⟩
theorem KI {pos':Pos} (hN:X.N.Nodup) (he:QE X EE a ma) (hi:X.N[i]?=some x:=by rfl) (hx:Loc X.env.scope x:=by first | exact Or.inl rfl | exact adv rfl)
  (hs:swapsWith a (some (.Name x pos')) pos.line X.env=pure false:=by rfl) (hf:X.fn x=true∨X.env.scope.names.lookup x=some .local:=by first | exact .inl rfl | exact .inr rfl | assumption) :
  QS X EE (.Assign [.Name x pos'] a pos) (aF i ma):=PS.mono (Jt hN hi hx he hs hf) λD σ H h=>by
 obtain ⟨τ,ρ,G,ab,ok⟩:=kN (k:=λτ d G=>.nx (τ.set i (some d)) G) h
 refine ⟨τ,ρ,G,ab,?_⟩
 cases e:ma τ G with
 | stuck=>rw [e] at ok;exact ok
 | bB c G'=>rw [e] at ok;exact ok
 | ok d G'=>
  rw [e] at ok
  intro v H' ρ' f' bq r'
  obtain ⟨τ2,ρ2,G2,d2,bG,r2,aH⟩:=ok v H' ρ' f' bq r'
  exact aH _ H' ρ2 .refl (bG.set r2)
theorem Nx (hc:QT X EE c tc) (ha:pY X EE body ms) (hb:pY X EE els mt):QS X EE (.If c body els pos) (gJ tc ms mt):=PS.mono (MO hc ha hb) λD σ H h=>by
 obtain ⟨τ,ρ,G,ab,ok⟩:=BB (k:=λτ c G=>if c then ms τ G else mt τ G) h
 refine ⟨τ,ρ,G,ab,?_⟩
 cases e:tc τ G with
 | stuck=>rw [e] at ok;exact ok
 | bB c G'=>rw [e] at ok;exact ok
 | ok k G'=>
  rw [e] at ok
  intro H' ρ' f' bq
  obtain ⟨τ2,ρ2,G2,bG,aH⟩:=ok H' ρ' f' bq
  cases k with
  | true=>exact ⟨τ2,ρ2,G2,bG,aH⟩
  | false=>exact ⟨τ2,ρ2,G2,bG,aH⟩
noncomputable abbrev jI:=D→DS→Option DS
noncomputable def uC (K:XU) (mg:Str→Option XR) (g:jI):TG:=λv σ H Q=>∃ τ ρ G d τ',Ab K mg σ H τ ρ G∧Rep K mg ρ H d v∧g d τ=some τ'∧∀ σ',Ab K mg σ' H τ' ρ G→Q σ' H
noncomputable def QG (X:Cx) (e:Expr) (g:jI):Prop:=PG X e (uC X.K X.mg g)
noncomputable def gN (i:Nat):jI:=λd τ=>some (τ.set i (some d))
theorem FI (hN:X.N.Nodup) (hi:X.N[i]?=some x:=by rfl) (hx:Loc X.env.scope x:=by first | exact Or.inl rfl | exact adv rfl) (hf:X.fn x=true∨X.env.scope.names.lookup x=some .local:=by first | exact .inl rfl | exact .inr rfl | assumption) :
  QG X (.Name x pos) (gN i):=λpins s σ H v u Q I r ⟨τ,ρ,G,d,τ',ab,rd,e,q⟩=>ja hN hi hx hf pins s σ H v u Q I r (by
 cases e
 exact q _ (ab.set rd))
noncomputable def bU (g:jI) (body:MS):List D→MS
 | [],τ,G=>.nx τ G
 | d::r,τ,G=>match g d τ with
  | none=>.stuck
  | some τ1=>match body τ1 G with
   | .nx τ' G'=>bU g body r τ' G'
   | .ct τ' G'=>bU g body r τ' G'
   | .bk τ' G'=>.nx τ' G'
   | x=>x
noncomputable def se (g:jI) (body:MS) (n:Nat):Nat→Nat→MS
 | 0,_,_,_=>.stuck
 | f+1,k,τ,G=>match G[n]? with
  | some (.lst xs)=>match xs[k]? with
   | none=>.nx τ G
   | some d=>match g d τ with
    | none=>.stuck
    | some τ1=>match body τ1 G with
     | .nx τ' G'=>se g body n f (k+1) τ' G'
     | .ct τ' G'=>se g body n f (k+1) τ' G'
     | .bk τ' G'=>.nx τ' G'
     | x=>x
  | _=>.stuck
end
variable {g:jI}
noncomputable def FJ (z:Str):It:=⟨λi _=>i<z.cps.size,λi H x H'=>H'=H∧∃ c,z.cps[i]?=some c∧x=.str ⟨#[c]⟩,λi _=>z.cps.size≤i⟩
theorem BR (z:Str) (t:Tok) (it:Addr):Turn P w K tg (FJ z) [it] it (λi h=>h.IsStrIter it (strIterType z) z t i) where
 mem:=by simp
 obj:=λi h st b hb=>by
  have e:b=it:=by simpa using hb
  subst e
  obtain ⟨o,e,c,d⟩:=st
  exact ⟨o,e,λv z=>by rw [d] at z;cases z⟩
 keep:=λi h h' st k=>by
  obtain ⟨o,e,r⟩:=st
  exact ⟨o,k it (by simp) o e,r⟩
 item:=by
  intro X hP hw hK hc i pins s σ H E I hf st hg
  subst hP hw hK
  obtain ⟨f0,f1,f2,f3,f4,f5⟩:=hf it (by simp)
  have hx:z.cps[i]?=some z.cps[i]:=aaJ hg
  have fin:∀ h',h'.IsStrIter it (strIterType z) z t (i+1)→ZM it s.heap h'→∃ u,some (Value.str ⟨#[z.cps[i]]⟩ s.toks)=some u ∧
   Ye (model X.prog X.w) X.A (letOwnedTupleGo tg (.ref it) u) (λ_ s2=>∃ x H',Inv X pins σ H' s2∧RelV x u∧(FJ z).qE i H x H'∧s2.heap.IsStrIter it (strIterType z) z t (i+1)∧∀ b∈[it],H' b=none) E {s with heap:=h',toks:=s.toks+1}:=λh' st' sb=>by
   have I1:Inv X pins σ H {s with heap:=h',toks:=s.toks+1}:=I.turned (t':=s.toks+1) (λb o hb e=>(sb.2 b hb).trans e) f0 f1 f3 f4 f5
   obtain ⟨o,e,c,d⟩:=id st'
   refine ⟨_,rfl,n6 (s:={s with heap:=h',toks:=s.toks+1}) e c d ?_ ⟨.str ⟨#[z.cps[i]]⟩,H,I1,⟨_,rfl⟩,⟨rfl,_,hx,rfl⟩,st',λb hb=>(hf b hb).1⟩⟩
   unfold strIterType
   split<;>decide
  cases ha:z.cps.all (·<128) with
  | true=>
   have e:strIterType z="str_ascii_iterator":=by unfold strIterType;rw [ha];rfl
   rw [e] at st fin
   exact wpAny_pyNext_ascii_item st hx λh' st' sb=>by rw [e];exact fin h' st' sb
  | false=>
   have e:strIterType z="str_iterator":=by unfold strIterType;rw [ha];rfl
   rw [e] at st fin
   exact wpAny_pyNext_wide_item st hx λh' st' sb=>by rw [e];exact fin h' st' sb
 done:=by
  intro X hP hw hK hc i pins s σ H E I hf st hg
  subst hP hw hK
  obtain ⟨f0,f1,f2,f3,f4,f5⟩:=hf it (by simp)
  have hx:z.cps[i]?=none:=aao hg
  have fin:∀ h',acn it s.heap h'→(none:Option XR)=none∧Inv X pins σ H {s with heap:=h'}:=λh' eb=>⟨rfl,I.turned (t':=s.toks) (λb o hb e=>eb b o hb e) f0 f1 f3 f4 f5⟩
  cases ha:z.cps.all (·<128) with
  | true=>
   have e:strIterType z="str_ascii_iterator":=by unfold strIterType;rw [ha];rfl
   rw [e] at st
   exact wpAny_pyNext_ascii_end (I.ok.hd hc) st hx fin
  | false=>
   have e:strIterType z="str_iterator":=by unfold strIterType;rw [ha];rfl
   rw [e] at st
   exact wpAny_pyNext_wide_end (I.ok.hd hc) st hx fin
 self:=λA i s Q E st h=>by
  cases ha:z.cps.all (·<128) with
  | true=>
   have e:strIterType z="str_ascii_iterator":=by unfold strIterType;rw [ha];rfl
   rw [e] at st
   exact wpAny_pyIter_striter_ascii st h
  | false=>
   have e:strIterType z="str_iterator":=by unfold strIterType;rw [ha];rfl
   rw [e] at st
   exact wpAny_pyIter_striter_wide st h
section
variable {X:Cx} {EE:bO} {a b c tg:Expr} {ma mb mc:DS→M D} {pos:Pos} {ms mt:MS}
noncomputable def kR (g:jI) (m:DS→M D) (body:MS):MS:=λτ=>bE (m τ) (λd G=>match d with
 | .obj n=>match G[n]? with
  | some (.lst xs)=>se g body n (xs.length+1) 0 τ G
  | _=>.stuck
 | .tup xs=>bU g body xs τ G
 | .con xs=>bU g body xs τ G
 | .str z=>bU g body (z.cps.toList.map λc=>.str ⟨#[c]⟩) τ G
 | _=>.stuck) λc G=>.xn c τ G
theorem j7 {g:jI} {body:MS} {Dd:Ends} {J:It} {H0:Hp} {σ0:L2.St} {ρ0:List Addr} {G0:DH} {τ0:DS} (ds:List D)
  (go:∀ i H ρ,i<ds.length→bX X.K H0 H ρ0 ρ→J.go i H) (stop:∀ i H ρ,ds.length≤i→bX X.K H0 H ρ0 ρ→J.stop i H)
  (qE:∀ i d H ρ x H',ds[i]?=some d→bX X.K H0 H ρ0 ρ→J.qE i H x H'→H'=H∧Rep X.K X.mg ρ H d x)
  (ab:Ab X.K X.mg σ0 H0 τ0 ρ0 G0) (ok:pX X.K X.mg EE H0 ρ0 Dd (bU g body ds τ0 G0)) :
  ∃ W:Nat→Nat→L2.St→Hp→Prop,(∃ m,W 0 m σ0 H0)∧∀ i m σ H,W i m σ H →
   (J.stop i H∧Dd.nx σ H)∨(J.go i H∧∃ N:L2.St→Hp→Prop,(∀ σ' H',N σ' H'→∃ m',m'<m∧W (i+1) m' σ' H')∧∀ x H',J.qE i H x H'→uC X.K X.mg g x σ H' λσ2 H2=>gB X.K X.mg EE body {Dd with nx:=N,ct:=N,bk:=Dd.nx} σ2 H2):=by
 refine ⟨λi m σ H=>i≤ds.length∧m=ds.length - i∧∃ τ ρ G,Ab X.K X.mg σ H τ ρ G∧bX X.K H0 H ρ0 ρ∧pX X.K X.mg EE H ρ Dd (bU g body (ds.drop i) τ G),⟨ds.length,Z4 _,rfl,τ0,ρ0,G0,ab,.refl,by simpa using ok⟩,?_⟩
 rintro i m σ H ⟨hi,rfl,τ,ρ,G,ab,f,ok⟩
 by_cases hlt:i<ds.length
 ·refine .inr ⟨go i H ρ hlt f,λσ' H'=>∃ τ' ρ' G',Ab X.K X.mg σ' H' τ' ρ' G'∧bX X.K H0 H' ρ0 ρ'∧pX X.K X.mg EE H' ρ' Dd (bU g body (ds.drop (i+1)) τ' G'),λσ' H' n=>⟨ds.length - (i+1),by nofun,hlt,rfl,n⟩,λx H' y=>?_⟩
  obtain ⟨rfl,rx⟩:=qE i ds[i] H ρ x H' (XZ hlt) f y
  rw [ZX hlt] at ok
  unfold bU at ok
  cases e:g ds[i] τ with
  | none=>rw [e] at ok;exact ok.elim
  | some τ1=>
   rw [e] at ok
   dsimp only at ok
   refine ⟨τ,ρ,G,ds[i],τ1,ab,rx,e,λσ' bq=>⟨τ1,ρ,G,bq,?_⟩⟩
   cases eb:body τ1 G with
   | stuck=>rw [eb] at ok;exact ok
   | nx τ2 G2=>rw [eb] at ok;exact λσ2 H2 ρ2 f2 bG=>⟨τ2,ρ2,G2,bG,f.trans f2,ok.fut f2⟩
   | ct τ2 G2=>rw [eb] at ok;exact λσ2 H2 ρ2 f2 bG=>⟨τ2,ρ2,G2,bG,f.trans f2,ok.fut f2⟩
   | bk τ2 G2=>rw [eb] at ok;exact ok
   | rt d G2=>rw [eb] at ok;exact ok
   | xn c τ2 G2=>rw [eb] at ok;exact ok
 ·have e:i=ds.length:=by nofun
  subst e
  refine .inl ⟨stop _ H ρ (X3 _) f,?_⟩
  rw [aap (X3 _)] at ok
  exact ok σ H ρ .refl ab
theorem FL {g:jI} {body:MS} {Dd:Ends} {H0:Hp} {σ0:L2.St} {G0:DH} {τ0:DS} {p:Addr} {fuel:Nat} (hn:ρ0[n]?=some p)
  (ab:Ab X.K X.mg σ0 H0 τ0 ρ0 G0) (ok:pX X.K X.mg EE H0 ρ0 Dd (se g body n fuel 0 τ0 G0)) :
  ∃ W:Nat→Nat→L2.St→Hp→Prop,(∃ m,W 0 m σ0 H0)∧∀ i m σ H,W i m σ H →
   ((Eo X.K p).stop i H∧Dd.nx σ H)∨((Eo X.K p).go i H∧∃ N:L2.St→Hp→Prop,(∀ σ' H',N σ' H'→∃ m',m'<m∧W (i+1) m' σ' H')∧∀ x H',(Eo X.K p).qE i H x H'→uC X.K X.mg g x σ H' λσ2 H2=>gB X.K X.mg EE body {Dd with nx:=N,ct:=N,bk:=Dd.nx} σ2 H2):=by
 refine ⟨λi m σ H=>∃ τ ρ G,Ab X.K X.mg σ H τ ρ G∧bX X.K H0 H ρ0 ρ∧pX X.K X.mg EE H ρ Dd (se g body n m i τ G),⟨fuel,τ0,ρ0,G0,ab,.refl,ok⟩,?_⟩
 rintro i m σ H ⟨τ,ρ,G,ab,f,ok⟩
 cases m with
 | zero=>exact ok.elim
 | succ m=>
  unfold se at ok
  cases q:G[n]? with
  | none=>rw [q] at ok;exact ok.elim
  | some o=>
   cases o with
   | lst ds=>
    rw [q] at ok
    dsimp only at ok
    obtain ⟨p',xs,e1,e2,rs⟩:=ab.hp.lst q
    rw [f.get hn] at e1;cases e1
    cases qd:ds[i]? with
    | none=>
     rw [qd] at ok
     have hl:xs.length≤i:=by rw [← rs.length];exact YZ.mp qd
     exact .inl ⟨⟨xs,.of e2,hl⟩,ok σ H ρ .refl ab⟩
    | some d=>
     rw [qd] at ok
     dsimp only at ok
     obtain ⟨x0,ex,rx⟩:=rs.get qd
     refine .inr ⟨⟨xs,x0,.of e2,ex⟩,λσ' H'=>∃ τ' ρ' G',Ab X.K X.mg σ' H' τ' ρ' G'∧bX X.K H0 H' ρ0 ρ'∧pX X.K X.mg EE H' ρ' Dd (se g body n m (i+1) τ' G'),λσ' H' z=>⟨m,Zd _,z⟩,λx H' y=>?_⟩
     obtain ⟨rfl,y⟩:=y
     have e3:=y xs (.of e2)
     rw [ex] at e3;cases e3
     cases e:g d τ with
     | none=>rw [e] at ok;exact ok.elim
     | some τ1=>
      rw [e] at ok
      dsimp only at ok
      refine ⟨τ,ρ,G,d,τ1,ab,rx,e,λσ' bq=>⟨τ1,ρ,G,bq,?_⟩⟩
      cases eb:body τ1 G with
      | stuck=>rw [eb] at ok;exact ok
      | nx τ2 G2=>rw [eb] at ok;exact λσ2 H2 ρ2 f2 bG=>⟨τ2,ρ2,G2,bG,f.trans f2,ok.fut f2⟩
      | ct τ2 G2=>rw [eb] at ok;exact λσ2 H2 ρ2 f2 bG=>⟨τ2,ρ2,G2,bG,f.trans f2,ok.fut f2⟩
      | bk τ2 G2=>rw [eb] at ok;exact ok
      | rt d G2=>rw [eb] at ok;exact ok
      | xn c τ2 G2=>rw [eb] at ok;exact ok
   | _=>first | (rw [q] at ok;exact ok.elim) | (rw [q] at aH;exact aH.elim) | (rw [q] at e;cases e;done) | (rw [g] at ok;exact ok.elim) | (rw [g] at q;cases q;done) | (rw [g] at h;cases h;done) | (rw [g2] at ok;exact ok.elim) | (rw [g1,g2] at ok;exact ok.elim) | (rw [q1] at ok;exact ok.elim) | exact ok.elim
theorem PI.any {l:Expr} {tl:TE} (hl:PE X l tl):PI X tg l (λσ H R=>tl σ H λx H1=>(∃ p,x=.ref p∧(∃ xs,j0 X.K H1 p xs)∧R (Eo X.K p) H1)∨(∃ p,x=.ref p∧(∃ xs,kI X.K H1 p xs)∧R (Pb X.K p) H1)∨∃ z,x=.str z∧R (FJ z) H1):=by
 intro pins s σ H R I h
 refine cO (hl pins s σ H _ I h) λu s1 zz=>?_
 obtain ⟨x,H1,I1,r1,q⟩:=zz
 rcases q with ⟨p,rfl,⟨xs,sq⟩,q⟩ | ⟨p,rfl,⟨xs,sq⟩,q⟩ | ⟨z,rfl,q⟩
 ·cases r1
  obtain ⟨its,rv,pl,hz⟩:=I1.list sq
  refine aa2 pl.isList ?_
  have I2:Inv X pins σ H1 {s1 with heap:=s1.heap.push {cls:=.type "list_iterator",data:=.fields #[.ref p,.int 0 0]}}:=I1.kept (t':=s1.toks) λb o e=>XW _ e
  refine ⟨s1.heap.objs.size,[s1.heap.objs.size],_,Eo X.K p,H1,rfl,I2,zl p _,⟨_,X6 _ rfl,rfl,rfl⟩,λb hb=>?_,q⟩
  have e:b=s1.heap.objs.size:=by simpa using hb
  subst e
  exact I1.l8 (X3 _) (I1.hok.fresh (X3 _))
 ·cases r1
  obtain ⟨its,rv,pl,hz⟩:=I1.tuple sq
  refine aaR pl ?_
  have I2:Inv X pins σ H1 {s1 with heap:=s1.heap.push {cls:=.type "tuple_iterator",data:=.fields #[.ref p,.int 0 0]}}:=I1.kept (t':=s1.toks) λb o e=>XW _ e
  refine ⟨s1.heap.objs.size,[s1.heap.objs.size],_,Pb X.K p,H1,rfl,I2,wc p _,⟨_,X6 _ rfl,rfl,rfl⟩,λb hb=>?_,q⟩
  have e:b=s1.heap.objs.size:=by simpa using hb
  subst e
  exact I1.l8 (X3 _) (I1.hok.fresh (X3 _))
 ·obtain ⟨t,rfl⟩:=r1
  refine wpAny_pyIter_strU ?_
  have I2:Inv X pins σ H1 {s1 with heap:=s1.heap.push {cls:=.type (strIterType z),data:=.fields #[.str z t,.int 0 0]}}:=I1.kept (t':=s1.toks) λb o e=>XW _ e
  refine ⟨s1.heap.objs.size,[s1.heap.objs.size],_,FJ z,H1,rfl,I2,BR z t _,⟨_,X6 _ rfl,rfl,rfl⟩,λb hb=>?_,q⟩
  have e:b=s1.heap.objs.size:=by simpa using hb
  subst e
  exact I1.l8 (X3 _) (I1.hok.fresh (X3 _))
theorem KJ (hp:PassesOwn (model X.prog X.w) X.A X.env X.xe) (hc:X.calm=true) (ha:QE X EE a ma) (hg:QG X tg g) (hb:pY X EE body ms) (hs:∀ x,foldedSetIterable a X.env x=pure x:=by intro _;rfl) :
  QS X EE (.For tg a body [] pos) (kR g ma ms):=PS.mono (wg hp hc (PI.any ha) hg hb hs) λDd σ H h=>by
 obtain ⟨τ,ρ,G,ab,ok⟩:=kN (k:=λτ d G=>match d with
  | .obj n=>match G[n]? with
   | some (.lst xs)=>se g ms n (xs.length+1) 0 τ G
   | _=>.stuck
  | .tup xs=>bU g ms xs τ G
  | .con xs=>bU g ms xs τ G
  | .str z=>bU g ms (z.cps.toList.map λc=>.str ⟨#[c]⟩) τ G
  | _=>.stuck) h
 refine ⟨τ,ρ,G,ab,?_⟩
 cases e:ma τ G with
 | stuck=>rw [e] at ok;exact ok
 | bB c G'=>rw [e] at ok;exact ok
 | ok d G'=>
  rw [e] at ok
  intro v H1 ρ1 f1 fW r1
  obtain ⟨τ2,ρ2,G2,d2,bG,r2,aH⟩:=ok v H1 ρ1 f1 fW r1
  cases d2<;>try exact aH.elim
  case obj n=>
   dsimp only at aH
   unfold Rep at r2
   obtain ⟨p,rfl,e1⟩:=r2
   cases q:G2[n]? with
   | none=>rw [q] at aH;exact aH.elim
   | some o=>
    cases o with
    | lst xs=>
     rw [q] at aH
     obtain ⟨p',vs,e2,h2,rs⟩:=bG.hp.lst q
     rw [e1] at e2;cases e2
     exact .inl ⟨p,rfl,⟨vs,.of h2⟩,FL e1 bG aH⟩
    | _=>first | (rw [q] at ok;exact ok.elim) | (rw [q] at aH;exact aH.elim) | (rw [q] at e;cases e;done) | (rw [g] at ok;exact ok.elim) | (rw [g] at q;cases q;done) | (rw [g] at h;cases h;done) | (rw [g2] at ok;exact ok.elim) | (rw [g1,g2] at ok;exact ok.elim) | (rw [q1] at ok;exact ok.elim) | exact ok.elim
  case tup xs=>
   unfold Rep at r2
   obtain ⟨p,vs,rfl,sq,rs⟩:=r2
   refine .inr (.inl ⟨p,rfl,⟨vs,sq⟩,j7 xs (λi H' ρ' hi f=>?_) (λi H' ρ' hi f=>?_) (λi d' H' ρ' x Ny hd f y=>?_) bG aH⟩)
   ·rw [rs.length] at hi
    exact ⟨vs,vs[i],f.tup _ _ sq,XZ hi⟩
   ·exact ⟨vs,f.tup _ _ sq,by rw [← rs.length];exact hi⟩
   ·obtain ⟨rfl,y⟩:=y
    obtain ⟨w',ew,rw'⟩:=rs.get hd
    have:=y vs (f.tup _ _ sq)
    rw [ew] at this;cases this
    exact ⟨rfl,rw'.mono f⟩
  case con xs=>
   unfold Rep at r2
   obtain ⟨p,vs,rfl,sq,rs⟩:=r2
   refine .inl ⟨p,rfl,⟨vs,sq.seq⟩,j7 xs (λi H' ρ' hi f=>?_) (λi H' ρ' hi f=>?_) (λi d' H' ρ' x Ny hd f y=>?_) bG aH⟩
   ·rw [rs.length] at hi
    exact ⟨vs,vs[i],(f.con _ _ sq).seq,XZ hi⟩
   ·exact ⟨vs,(f.con _ _ sq).seq,by rw [← rs.length];exact hi⟩
   ·obtain ⟨rfl,y⟩:=y
    obtain ⟨w',ew,rw'⟩:=rs.get hd
    have:=y vs (f.con _ _ sq).seq
    rw [ew] at this;cases this
    exact ⟨rfl,rw'.mono f⟩
  case str z=>
   unfold Rep at r2;subst r2
   refine .inr (.inr ⟨z,rfl,j7 (z.cps.toList.map λc=>.str ⟨#[c]⟩) (λi H' ρ' hi f=>?_) (λi H' ρ' hi f=>?_) (λi d' H' ρ' x Ny hd f y=>?_) bG aH⟩)
   ·simpa [FJ] using hi
   ·simpa [FJ] using hi
   ·obtain ⟨rfl,c,hc,rfl⟩:=y
    rw [Yq] at hd
    have:z.cps.toList[i]?=some c:=by simpa using hc
    rw [this] at hd
    cases hd
    exact ⟨rfl,by unfold Rep;rfl⟩
noncomputable def eF:List D→Option (List D)
 | [.int j]=>if -(2^62)≤j∧j<2^62 then some ((YF j.toNat).map λ(k:Nat)=>.int (0+(k:Int))) else none
 | _=>none
noncomputable def gx (zj:List D→Option (List D)) (g:jI) (m:DS→M (List D)) (body:MS):MS:=λτ=>bE (m τ) (λds G=>match zj ds with
 | some xs=>bU g body xs τ G
 | none=>.stuck) λc G=>.xn c τ G
theorem KL {m:DS→M (List D)} {k:DS→List D→DH→Res} (h:gB K mg EE (λτ=>bE (m τ) (k τ) λc G=>.xn c τ G) Dd σ H) :
  ie K mg EE m σ H λx H1=>∃ τ ρ G d,Ab K mg σ H1 τ ρ G∧aq K mg ρ H1 d x∧pX K mg EE H1 ρ Dd (k τ d G):=by
 obtain ⟨τ,ρ,G,ab,ok⟩:=h
 refine ⟨τ,ρ,G,ab,?_⟩
 dsimp only [bE] at ok
 cases e:m τ G with
 | stuck=>rw [e] at ok;exact ok
 | bB c G'=>rw [e] at ok;exact λH' ρ' f bq=>ok σ H' ρ' f bq
 | ok d G'=>rw [e] at ok;exact λv H' ρ' f bq r=>⟨τ,ρ',G',d,bq,r,ok.fut f⟩
theorem zC {body:MS} {τ0:DS} (lo:Int) (n:Nat) (ab:Ab X.K X.mg σ0 H0 τ0 ρ0 G0) (ok:pX X.K X.mg EE H0 ρ0 Dd (bU g body ((YF n).map λ(k:Nat)=>.int (lo+(k:Int))) τ0 G0)) :
  ∃ W:Nat→Nat→L2.St→Hp→Prop,(∃ m,W 0 m σ0 H0)∧∀ i m σ H,W i m σ H →
   ((rS lo n).stop i H∧Dd.nx σ H)∨((rS lo n).go i H∧∃ N:L2.St→Hp→Prop,(∀ σ' H',N σ' H'→∃ m',m'<m∧W (i+1) m' σ' H')∧∀ x H',(rS lo n).qE i H x H'→uC X.K X.mg g x σ H' λσ2 H2=>gB X.K X.mg EE body {Dd with nx:=N,ct:=N,bk:=Dd.nx} σ2 H2):=
 j7 (J:=rS lo n) _ (λi H ρ hi f=>by simpa [rS] using hi) (λi H ρ hi f=>by simpa [rS] using hi) (λi d H ρ x H' hd f y=>by
  obtain ⟨rfl,rfl⟩:=y
  rw [Yq] at hd
  cases q:(YF n)[i]? with
  | none=>rw [q] at hd;cases hd
  | some k=>
   rw [q] at hd
   obtain ⟨hk,e⟩:=XY.mp q
   rw [acN] at e
   subst e
   cases hd
   exact ⟨rfl,by unfold Rep;rfl⟩) ab ok
theorem BS {m:DS→M (List D)} {p pc:Pos} (hp:PassesOwn (model X.prog X.w) X.A X.env X.xe) (hc:X.calm=true) (hm:X.mg "range"=none) (ha:QA X EE [a] m) (hg:QG X tg g) (hb:pY X EE body ms)
  (nS:Gl X "range":=by rfl) (hst:Yj [a] X.env=[(false,eval a X.env)]:=by rfl) (hs:∀ x,foldedSetIterable (.Call (.Name "range" p) [a] [] pc) X.env x=pure x:=by intro _;rfl) :
  QS X EE (.For tg (.Call (.Name "range" p) [a] [] pc) body [] pos) (gx eF g m ms):=PS.mono (wg hp hc (l9 nS hm ha hst) hg hb hs) λDd σ H h=>by
 obtain ⟨τ,ρ,G,ab,ok⟩:=KL (k:=λτ ds G=>match eF ds with | some xs=>bU g ms xs τ G | none=>.stuck) h
 refine ⟨τ,ρ,G,ab,?_⟩
 cases e:m τ G with
 | stuck=>rw [e] at ok;exact ok
 | bB c G'=>rw [e] at ok;exact ok
 | ok ds G'=>
  rw [e] at ok
  intro vs H1 ρ1 f1 fW r1
  obtain ⟨τ2,ρ2,G2,d2,bG,r2,aH⟩:=ok vs H1 ρ1 f1 fW r1
  cases q:eF d2 with
  | none=>rw [q] at aH;exact aH.elim
  | some xs=>
   rw [q] at aH
   unfold eF at q
   split at q
   ·rename_i j
    split at q
    ·rename_i hj
     cases q
     unfold aq at r2
     obtain ⟨v,r,rfl,h1,h2⟩:=r2
     unfold aq at h2;subst h2
     unfold Rep at h1;subst h1
     exact ⟨j,rfl,hj.1,hj.2,zC 0 j.toNat bG aH⟩
    ·cases q
   ·cases q
end
noncomputable def Uy (K:XU) (mg:Str→Option XR) (H:Hp) (ρ:List Addr):Out D→VK→XK→Prop
 | .stuck,_,_=>False
 | .ok d G',Q,_=>∀ v H' ρ',bX K H H' ρ ρ'→fy K mg H' ρ' G'→Rep K mg ρ' H' d v→Q v H'
 | .bB c G',_,E=>∀ cls H' ρ',(match c with | .mk n _=>mg n=some cls)→bX K H H' ρ ρ'→fy K mg H' ρ' G'→E cls none H'
noncomputable def fU (K:XU) (mg:Str→Option XR) (n:Nat) (m:List D→M D):Sp:=λvs H Q E=>∃ ds ρ G,ds.length=n∧fy K mg H ρ G∧aq K mg ρ H ds vs∧Uy K mg H ρ (m ds G) Q E
theorem fU.len {m:List D→M D} {Q:VK} {E:XK} (h:fU K mg n m vs H Q E):vs.length=n:=by
 obtain ⟨ds,ρ,G,e,_,r,_⟩:=h
 rw [← r.length,e]
noncomputable def Nz (mg:Str→Option XR) (EE:bO) (σ:L2.St):XK:=λcls _ H'=>∃ c,(match c with | .mk n _=>mg n=some cls)∧EE c σ H'
noncomputable def FN (CX:l5) (X:Cx) (EE:bO):Prop:=∀ (pins:List (Addr×Obj)) (σ:L2.St) (H:Hp) (s:XX) (e:XR) (s':XX),Inv X pins σ H s→CX X.stack H s (Nz X.mg EE σ) e s'→X.xe e s'
section
variable {X:Cx} {CX:l5} {EE:bO} {k n:Nat} {f:Addr} {fd:FuncData} {ps:List Str} {mf:List D→M D} {x:Str} {p pos:Pos} {e:Expr} {es:List Expr} {m:DS→M (List D)}
theorem fy.ab {K:XU} {mg:Str→Option XR} {σ:L2.St} {H H':Hp} {τ:DS} {ρ ρ':List Addr} {G G':DH} (ab:Ab K mg σ H τ ρ G) (f:bX K H H' ρ ρ') (h:fy K mg H' ρ' G'):Ab K mg σ H' τ ρ' G':=⟨ab.st.mono f,h⟩
theorem nT {pins:List (Addr×Obj)} {σ:L2.St} {H:Hp} {s:XX} {Q:VK} {us:List XR} {vs:List V} {τ:DS} {ρ:List Addr} {G:DH} {ds:List D} (F:gA X.prog X.w X.K X.mg X.base CX k f fd ps (fU X.K X.mg n mf)) (hr:cK k X.A) (hb:Binds X.K fd ps [])
  (hx:FN CX X EE) (I:Inv X pins σ H s) (r:Vals vs us) (ab:Ab X.K X.mg σ H τ ρ G) (rs:aq X.K X.mg ρ H ds vs) (hn:ds.length=n) (ok:iI X.K X.mg EE H σ τ ρ (mf ds G) Q):Ye (model X.prog X.w) X.A (call (.ref f) us) (EP X pins σ Q) X.xe s:=by
 have h:fU X.K X.mg n mf vs H Q (Nz X.mg EE σ):=by
  refine ⟨ds,ρ,G,hn,ab.hp,rs,?_⟩
  cases q:mf ds G with
  | stuck=>rw [q] at ok;exact ok
  | ok d G'=>rw [q] at ok;exact λv H' ρ' f hp r=>ok v H' ρ' f (fy.ab ab f hp) r
  | bB c G'=>rw [q] at ok;exact λcls H' ρ' hc f hp=>⟨c,hc,ok H' ρ' f (fy.ab ab f hp)⟩
 have hl:(us++[]).length=ps.length:=by rw [YW,← r.length];exact F.len _ _ _ _ h
 have Pj:=hb s us I.nN hl
 rw [YW] at Pj
 refine acL (codeAny_mono (F.run X.A X.stack s H ⟨us,[]⟩ us vs Q (Nz X.mg EE σ) hr I.gk I.os.2 Pj r h) λr s' hq=>?_)
 cases r with
 | error e=>exact hx pins σ H s e s' I hq
 | ok fl=>
  cases fl with
  | ret u=>exact I.after hq
  | next=>exact YK hq
  | brk=>exact YK hq
  | cont=>exact YK hq
noncomputable def aA (n:Nat) (mf:List D→M D) (m:DS→M (List D)):DS→M D:=ai (λds=>if ds.length=n then mf ds else M.stop) m
theorem FO (F:gA X.prog X.w X.K X.mg X.base CX k f fd ps (fU X.K X.mg n mf)) (hr:cK k X.A) (hm:X.mg x=some (.ref f)) (hk:YE X.K (.ref f)=true) (hb:Binds X.K fd ps []) (hx:FN CX X EE)
  (ha:QA X EE (e::es) m) (hg:Gl X x:=by rfl) (hdb:(x==("__debug__":Str))=false:=by decide) (he:Yj (e::es) X.env=(false,eval e X.env)::Yj es X.env:=by rfl) (hpl:(backTo pos (Yj es X.env)).any (·.1)=false:=by rfl) :
  QE X EE (.Call (.Name x p) (e::es) [] pos) (aA n mf m):=by
 intro pins s σ H Q I h
 obtain ⟨τ,ρ,G,ab,ok⟩:=jf (k:=λ_ ds=>if ds.length=n then mf ds else M.stop) h
 refine Yo (rR I hg hm ?_ hdb)
 refine ZQ (h₀:=X.base) I.ok.mod.AS hk (cO (ha pos pins s σ H _ I ⟨τ,ρ,G,ab,ok⟩) λus s1 ⟨vs,H1,I1,r,q⟩=>⟨I1.nN,?_⟩) he hpl
 obtain ⟨τ1,ρ1,G1,ds,fW,rs,yp⟩:=q
 by_cases hn:ds.length=n
 ·rw [if_pos hn] at yp
  exact nT F hr hb hx I1 r fW rs hn yp
 ·rw [if_neg hn] at yp
  exact yp.elim
end
noncomputable def bQ (N:Nat) (ms:MS) (ds:List D):M D:=λG=>match ms (ds.map some++Yi (N - ds.length) none) G with
 | .stuck=>.stuck
 | .nx _ G'=>.ok .cz G'
 | .rt d G'=>.ok d G'
 | .bk _ _=>.stuck
 | .ct _ _=>.stuck
 | .xn c _ G'=>.bB c G'
theorem jk (r:aq K mg ρ H ds vs):ou K mg H ρ (L2.start N vs) (ds.map some++Yi (N.length - ds.length) none):=by
 have hl:=r.length
 refine ⟨by unfold L2.start;simp [hl],λi d e=>?_⟩
 have hi:i<ds.length:=by
  by_cases hi:i<ds.length
  ·exact hi
  ·rw [Yp (by simpa using hi),aaf] at e
   split at e<;>cases e
 rw [Yd (by simpa using hi),Yq] at e
 cases q:ds[i]? with
 | none=>rw [q] at e;cases e
 | some d'=>
  rw [q] at e;cases e
  obtain ⟨v,e1,r1⟩:=r.get q
  refine ⟨v,?_,r1⟩
  unfold L2.start
  rw [Yd (by simp;nofun),Yq,e1]
  rfl
section
variable {X:Cx} {EE:bO} {a b c:Expr} {ma mb mc:DS→M D} {pos:Pos}
noncomputable def zE (X:Cx) (EE:bO) (f:List D→M D):List V→Hp→VK→Prop:=λxs H Q=>∃ σ τ ρ G ds,Ab X.K X.mg σ H τ ρ G∧aq X.K X.mg ρ H ds xs∧iI X.K X.mg EE H σ τ ρ (f ds G) Q
theorem oG {f:List D→M D}:CallD X EE (zE X EE f) f:=λσ H τ ρ G xs ds Q ab r ok=>⟨σ,τ,ρ,G,ds,ab,r,ok⟩
theorem fX (r:aq K mg ρ H [d] xs):∃ x,xs=[x]∧Rep K mg ρ H d x:=by
 unfold aq at r
 obtain ⟨v,r',rfl,h1,h2⟩:=r
 unfold aq at h2;subst h2
 exact ⟨v,rfl,h1⟩
theorem yq {e:D} (r:aq K mg ρ H [d,e] xs):∃ x y,xs=[x,y]∧Rep K mg ρ H d x∧Rep K mg ρ H e y:=by
 unfold aq at r
 obtain ⟨v,r',rfl,h1,h2⟩:=r
 obtain ⟨y,rfl,h3⟩:=fX h2
 exact ⟨v,y,rfl,h1,h3⟩
noncomputable def bY:List D→M D
 | [d]=>λG=>match aD G d with
  | some (.lst xs)=>.ok (.int xs.length) G
  | some (.tup xs)=>.ok (.int xs.length) G
  | some (.str z)=>if z.length≤XT then .ok (.int z.length) G else .stuck
  | none=>.stuck
 | _=>M.stop
theorem zF:cV X (.builtin "len") (zE X EE bY):=by
 intro pins s σ0 H xs us Q I r zu
 obtain ⟨σ,τ,ρ,G,ds,ab,rs,ok⟩:=zu
 match ds,ok with
 | [],ok=>exact ok.elim
 | _::_::_,ok=>exact ok.elim
 | [d],ok=>
  obtain ⟨x,rfl,rx⟩:=fX rs
  dsimp only [bY] at ok
  cases q:aD G d with
  | none=>rw [q] at ok;exact ok.elim
  | some sk=>
   rw [q] at ok
   cases sk with
   | lst zs=>
    obtain ⟨p,vs,rfl,sq,rv⟩:=bC (pins:=pins) (σ0:=σ0) (s:=s) ab.hp rx q
    exact lJ pins s σ0 H _ us Q I r ⟨p,vs,rfl,.inl sq,ok _ H ρ .refl ab (by unfold Rep;rw [rv.length])⟩
   | tup zs=>
    obtain ⟨p,vs,rfl,sq,rv⟩:=g8 rx q
    exact lJ pins s σ0 H _ us Q I r ⟨p,vs,rfl,.inr sq,ok _ H ρ .refl ab (by unfold Rep;rw [rv.length])⟩
   | str z=>
    obtain ⟨rfl,rfl⟩:=j5 rx q
    dsimp only at ok
    by_cases hz:z.length≤XT
    ·rw [if_pos hz] at ok
     exact rZ pins s σ0 H _ us Q I r ⟨z,rfl,hz,ok _ H ρ .refl ab (by unfold Rep;rfl)⟩
    ·rw [if_neg hz] at ok;exact ok.elim
inductive Ty where
 | cz | bl | int | str | tup | lst | dct
 deriving DecidableEq
noncomputable def Ty.nm:Ty→String
 | .cz=>"NoneType" | .bl=>"bool" | .int=>"int" | .str=>"str" | .tup=>"tuple" | .lst=>"list" | .dct=>"dict"
noncomputable def Pk (G:DH):D→Option Ty
 | .cz=>some .cz
 | .bl _=>some .bl
 | .int _=>some .int
 | .str _=>some .str
 | .tup _=>some .tup
 | .con _=>some .lst
 | .obj n=>match G[n]? with
  | some (.lst _)=>some .lst
  | _=>none
 | .fn _=>none
 | .uv _ _=>none
 | .iG _ _=>none
noncomputable def Ty.is (t c:Ty):Bool:=decide (t=c)||(decide (t=.bl)&&decide (c=.int))
theorem kT (K:XU):∀ (t c:Ty),c≠.cz→PySem.W.kitOne K (.type t.nm) (.type c.nm)=some (t.is c):=by
 intro t c h
 cases t<;>cases c<;>first | exact absurd rfl h | rfl | (with_unfolding_all rfl) | symm
noncomputable def uE (c:Ty) (d:D):M D:=λG=>match Pk G d with
 | some t=>.ok (.bl (t.is c)) G
 | none=>.stuck
noncomputable def FP (c:Ty) (m:DS→M D):DS→M D:=λτ=>(m τ).bind (uE c)
theorem FQ {c:Ty} (hc:c≠.cz) {pins:List (Addr×Obj)} {s:XX} {σ0 σ:L2.St} {H:Hp} {τ:DS} {ρ:List Addr} {G:DH} {d:D} {x:V} {u:XR} {Q:VK} (I:Inv X pins σ0 H s) (ab:Ab X.K X.mg σ H τ ρ G) (rx:Rep X.K X.mg ρ H d x) (ru:RelV x u)
  (ok:iI X.K X.mg EE H σ τ ρ (uE c d G) Q):Ye (model X.prog X.w) X.A (call (.builtin "isinstance") [u,.type c.nm]) (EP X pins σ0 Q) X.xe s:=by
 dsimp only [uE] at ok
 refine gR I.os.2 ?_
 have fin:∀ {b:Bool},Q (.bl b) H→∀ tk,0<tk→EP X pins σ0 Q (.bool b) {s with toks:=tk}:=λq tk ht=>⟨.bl _,H,I.tok tk,rfl,q⟩
 cases d with
 | cz=>
  have q:=ok (.bl _) H ρ .refl ab (by unfold Rep;rfl)
  unfold Rep at rx;subst rx;cases ru
  exact Z1 PySem.W.kitx_none I.nN aam (kT X.K .cz c hc) (λz=>nomatch z) (fin q)
 | bl y=>
  have q:=ok (.bl _) H ρ .refl ab (by unfold Rep;rfl)
  unfold Rep at rx;subst rx;cases ru
  exact Z1 PySem.W.kitx_bool I.nN aam (kT X.K .bl c hc) (λz=>nomatch z) (fin q)
 | int y=>
  have q:=ok (.bl _) H ρ .refl ab (by unfold Rep;rfl)
  unfold Rep at rx;subst rx;obtain ⟨t,rfl⟩:=ru
  exact Z1 PySem.W.kitx_int I.nN aam (kT X.K .int c hc) (λz=>nomatch z) (fin q)
 | str y=>
  have q:=ok (.bl _) H ρ .refl ab (by unfold Rep;rfl)
  unfold Rep at rx;subst rx;obtain ⟨t,rfl⟩:=ru
  exact Z1 PySem.W.kitx_str I.nN aam (kT X.K .str c hc) (λz=>nomatch z) (fin q)
 | tup ys=>
  have q:=ok (.bl _) H ρ .refl ab (by unfold Rep;rfl)
  unfold Rep at rx
  obtain ⟨p,vs,rfl,sq,_⟩:=rx
  cases ru
  obtain ⟨its,_,⟨o,h1,h2,_⟩,_⟩:=I.tuple (pU.t sq)
  exact Z1 PySem.W.kitx_tuple I.nN ⟨o,h1,h2⟩ (kT X.K .tup c hc) (λz=>nomatch z) (fin q)
 | con ys=>
  have q:=ok (.bl _) H ρ .refl ab (by unfold Rep;rfl)
  unfold Rep at rx
  obtain ⟨p,vs,rfl,sq,_⟩:=rx
  cases ru
  obtain ⟨its,_,⟨o,k,h1,h2,_⟩,_⟩:=I.list sq.seq
  exact Z1 ac0 I.nN ⟨o,h1,h2⟩ (kT X.K .lst c hc) (λz=>nomatch z) (fin q)
 | obj n=>
  unfold Rep at rx
  obtain ⟨p,rfl,e1⟩:=rx
  cases ru
  dsimp only [Pk] at ok
  cases g:G[n]? with
  | none=>rw [g] at ok;exact ok.elim
  | some o=>
   cases o with
   | lst ys=>
    rw [g] at ok
    have q:=ok (.bl _) H ρ .refl ab (by unfold Rep;rfl)
    obtain ⟨p',vs,e2,hp,_⟩:=ab.hp.lst g
    rw [e1] at e2;cases e2
    obtain ⟨its,_,⟨o,k,h1,h2,_⟩,_⟩:=I.list (.of hp)
    exact Z1 ac0 I.nN ⟨o,h1,h2⟩ (kT X.K .lst c hc) (λz=>nomatch z) (fin q)
   | _=>first | (rw [q] at ok;exact ok.elim) | (rw [q] at aH;exact aH.elim) | (rw [q] at e;cases e;done) | (rw [g] at ok;exact ok.elim) | (rw [g] at q;cases q;done) | (rw [g] at h;cases h;done) | (rw [g2] at ok;exact ok.elim) | (rw [g1,g2] at ok;exact ok.elim) | (rw [q1] at ok;exact ok.elim) | exact ok.elim
 | uv _ _=>exact ok.elim
 | iG y0 c0=>exact ok.elim
 | fn x=>exact ok.elim
theorem KN (c:Ty) {p pt:Pos} {x:Str} (hc:c≠.cz) (hm:X.mg "isinstance"=none) (hmt:X.mg x=none) (ha:QE X EE a ma) (hb:bootBuiltins x=some (.type c.nm))
  (hg:Gl X "isinstance":=by rfl) (hgt:Gl X x:=by rfl) (hnt:x≠"__name__":=by decide) (hdt:(x==("__debug__":Str))=false:=by decide)
  (he:Yj [a,.Name x pt] X.env=(false,eval a X.env)::Yj [.Name x pt] X.env:=by rfl) (Uz:Yj [.Name x pt] X.env=(false,eval (.Name x pt) X.env)::Yj [] X.env:=by rfl) (hpl:(backTo pos (Yj [.Name x pt] X.env)).any (·.1)=false:=by rfl)
  (hbi:bootBuiltins "isinstance"=some (.builtin "isinstance"):=by first | exact PyProof.Rows.boot_isinstance | symm) :
  QE X EE (.Call (.Name "isinstance" p) [a,.Name x pt] [] pos) (FP c ma):=by
 have hT:PE X (.Name x pt) (tC (.ty c.nm)):=EF hgt hmt hb rfl hnt hdt
 have hA:PA X [a,.Name x pt] (ye (bh X.K X.mg EE ma) (ye (tC (.ty c.nm)) EU)):=rV ha (rV hT wG Uz) he
 intro pins s σ H Q I h
 obtain ⟨τ,ρ,G,ab,ok⟩:=je (k:=λ_ d=>uE c d) h
 refine Yo (fh I hg hm hbi ?_ (by decide) (by decide))
 refine aah (cO (hA pos pins s σ H (λvs H1=>∃ x,vs=[x,.ty c.nm]∧∃ τ ρ G d,Ab X.K X.mg σ H1 τ ρ G∧Rep X.K X.mg ρ H1 d x∧iI X.K X.mg EE H1 σ τ ρ (uE c d G) Q) I ⟨τ,ρ,G,ab,?_⟩) λus s1 ⟨vs,H1,I1,r1,q1⟩=>?_) he hpl
 ·cases e:ma τ G with
  | stuck=>rw [e] at ok;exact ok
  | bB c G'=>rw [e] at ok;exact ok
  | ok d G'=>rw [e] at ok;exact λv H' ρ' f' bq r'=>⟨v,rfl,ok v H' ρ' f' bq r'⟩
 ·obtain ⟨y,rfl,τ2,ρ2,G2,d,bG,rd,aH⟩:=q1
  cases r1 with
  | cons ry rr=>
   cases rr with
   | cons rt rr=>
    cases rr
    cases rt
    exact FQ hc I1 bG rd ry aH
end
section
variable {X:Cx} {EE:bO} {a b c:Expr} {ma mb mc:DS→M D} {pos:Pos}
theorem kU {o:Obj} (hk:∀ b x,b∉[s.heap.objs.size]→(s.heap.push o).get? b=some x→h'.get? b=some x):∀ b x,s.heap.get? b=some x→h'.get? b=some x:=
 λb x e=>hk b x (λhm=>by rw [Yk.mp hm] at e;exact YY _ (X0 e)) (XW _ e)
noncomputable def fj (g:Int→Int→Int):List D→M D
 | [.int i,.int j]=>M.ret (.int (g i j))
 | _=>M.stop
theorem uF {g:Int→Int→Int} {Q:VK} (ok:iI X.K X.mg EE H σ τ ρ (fj g ds G) Q):∃ i j,ds=[.int i,.int j]∧iI X.K X.mg EE H σ τ ρ (.ok (.int (g i j)) G) Q:=by
 unfold fj at ok
 split at ok
 ·exact ⟨_,_,rfl,ok⟩
 ·exact ok.elim
theorem zG (hc:X.calm=true):cV X (.builtin "max") (zE X EE (fj λi j=>if j > i then j else i)):=by
 intro pins s σ0 H xs us Q I r zu
 obtain ⟨σ,τ,ρ,G,ds,ab,rs,ok⟩:=zu
 obtain ⟨i,j,rfl,ok⟩:=uF ok
 obtain ⟨x,y,rfl,r1,r2⟩:=yq rs
 unfold Rep at r1 r2;subst r1 r2
 exact zp hc pins s σ0 H _ us Q I r ⟨i,j,rfl,ok _ H ρ .refl ab (by unfold Rep;rfl)⟩
theorem zH (hc:X.calm=true):cV X (.builtin "min") (zE X EE (fj λi j=>if j<i then j else i)):=by
 intro pins s σ0 H xs us Q I r zu
 obtain ⟨σ,τ,ρ,G,ds,ab,rs,ok⟩:=zu
 obtain ⟨i,j,rfl,ok⟩:=uF ok
 obtain ⟨x,y,rfl,r1,r2⟩:=yq rs
 unfold Rep at r1 r2;subst r1 r2
 exact zq hc pins s σ0 H _ us Q I r ⟨i,j,rfl,ok _ H ρ .refl ab (by unfold Rep;rfl)⟩
noncomputable def NB (X:Cx) (EE:bO) (f:D→List D→M D):V→List V→Hp→VK→Prop:=λx xs H Q=>∃ σ τ ρ G d ds,Ab X.K X.mg σ H τ ρ G∧Rep X.K X.mg ρ H d x∧aq X.K X.mg ρ H ds xs∧iI X.K X.mg EE H σ τ ρ (f d ds G) Q
noncomputable def fY (T:String) (G:DH):D→Bool
 | .str _=>T=="str"
 | .int _=>T=="int"
 | .con _=>T=="list"
 | .obj n=>match G[n]? with
  | some (.lst _)=>T=="list"
  | _=>false
 | _=>false
theorem qO {x:V} (ab:Ab X.K X.mg σ H τ ρ G) (r:Rep X.K X.mg ρ H d x) (h:fY T G d=true):Pe X.K T x H:=by
 cases d with
 | str z=>unfold Rep at r;subst r;exact eq_of_beq h
 | int z=>unfold Rep at r;subst r;exact eq_of_beq h
 | con zs=>
  unfold Rep at r
  obtain ⟨p,vs,rfl,sq,_⟩:=r
  exact .inl ⟨eq_of_beq h,vs,sq.seq⟩
 | obj n=>
  unfold Rep at r
  obtain ⟨p,rfl,e1⟩:=r
  dsimp only [fY] at h
  cases g:G[n]? with
  | none=>rw [g] at h;cases h
  | some o=>
   cases o with
   | lst ys=>
    rw [g] at h
    obtain ⟨p',vs,e2,hp,_⟩:=ab.hp.lst g
    rw [e1] at e2;cases e2
    exact .inl ⟨eq_of_beq h,vs,.of hp⟩
   | _=>first | (rw [q] at ok;exact ok.elim) | (rw [q] at aH;exact aH.elim) | (rw [q] at e;cases e;done) | (rw [g] at ok;exact ok.elim) | (rw [g] at q;cases q;done) | (rw [g] at h;cases h;done) | (rw [g2] at ok;exact ok.elim) | (rw [g1,g2] at ok;exact ok.elim) | (rw [q1] at ok;exact ok.elim) | exact ok.elim
 | _=>cases h
noncomputable def cC (T:String) (f:D→List D→M D) (mo:DS→M D) (m:DS→M (List D)):DS→M D:=λτ=>(mo τ).bind λd G=>if fY T G d then (m τ).bind (λds=>f d ds) G else .stuck
theorem Ia {apos cpos:Pos} {id:String} {f:D→List D→M D} {m:DS→M (List D)} (pa:PlainAttrs T) (slot:Slot T name id) (hty:typeOf (.builtin id)=pure (.type "method_descriptor")) (hm:AU X id (NB X EE f)) (ho:QE X EE o mo) (ha:QA X EE (e::es) m)
  (hbase:attributeBase o name X.env (eval o X.env)=eval o X.env:=by rfl)
  (hfew:((backTo cpos (Yj (e::es) X.env)).all (λx=>!x.1)&&(backToKw cpos (keywordEach [] X.env)).all (λx=>x.1.isSome)
   && decide ((e::es).length+([]:List Keyword).length+(if ([]:List Keyword).isEmpty then 0 else 1)<30))=true:=by rfl)
  (hline:(apos.endLine==cpos.line)=true:=by rfl) (hs:Yj (e::es) X.env=(false,eval e X.env)::Yj es X.env:=by rfl) (hplain:(backTo cpos (Yj es X.env)).any (·.1)=false:=by rfl) :
  QE X EE (.Call (.Attribute o name apos) (e::es) [] cpos) (cC T f mo m):=PE.mono (Nb pa slot hty hm ho ha hbase hfew hline hs hplain) λσ H Q h=>by
 obtain ⟨τ,ρ,G,ab,ok⟩:=je (k:=λτ d G=>if fY T G d then (m τ).bind (λds=>f d ds) G else .stuck) h
 refine ⟨τ,ρ,G,ab,?_⟩
 cases e:mo τ G with
 | stuck=>rw [e] at ok;exact ok
 | bB c G'=>rw [e] at ok;exact ok
 | ok d G'=>
  rw [e] at ok
  intro v H' ρ' f' bq r'
  obtain ⟨τ2,ρ2,G2,d2,bG,r2,aH⟩:=ok v H' ρ' f' bq r'
  by_cases hk:fY T G2 d2=true
  ·rw [if_pos hk] at aH
   refine ⟨qO bG r2 hk,τ2,ρ2,G2,bG,?_⟩
   dsimp only [M.bind] at aH
   cases e2:m τ2 G2 with
   | stuck=>rw [e2] at aH;exact aH
   | bB c G'=>rw [e2] at aH;exact aH
   | ok ds G3=>
    rw [e2] at aH
    exact λvs H3 ρ3 f3 oz r3=>⟨σ,τ2,ρ3,G3,d2,ds,oz,r2.mono f3,r3,aH.fut f3⟩
  ·rw [if_neg hk] at aH;exact aH.elim
theorem KO {apos cpos:Pos} {id:String} {f:D→List D→M D} (pa:PlainAttrs T) (slot:Slot T name id) (hty:typeOf (.builtin id)=pure (.type "method_descriptor")) (hm:AU X id (NB X EE f)) (ho:QE X EE o mo)
  (hbase:attributeBase o name X.env (eval o X.env)=eval o X.env:=by rfl) (hline:(apos.endLine==cpos.line)=true:=by rfl) :
  QE X EE (.Call (.Attribute o name apos) [] [] cpos) (cC T f mo ah):=PE.mono (J0 pa slot hty hm ho hbase hline) λσ H Q h=>by
 obtain ⟨τ,ρ,G,ab,ok⟩:=je (k:=λτ d G=>if fY T G d then (ah τ).bind (λds=>f d ds) G else .stuck) h
 refine ⟨τ,ρ,G,ab,?_⟩
 cases e:mo τ G with
 | stuck=>rw [e] at ok;exact ok
 | bB c G'=>rw [e] at ok;exact ok
 | ok d G'=>
  rw [e] at ok
  intro v H' ρ' f' bq r'
  obtain ⟨τ2,ρ2,G2,d2,bG,r2,aH⟩:=ok v H' ρ' f' bq r'
  by_cases hk:fY T G2 d2=true
  ·rw [if_pos hk] at aH
   exact ⟨qO bG r2 hk,σ,τ2,ρ2,G2,d2,[],bG,r2,.nil,aH⟩
  ·rw [if_neg hk] at aH;exact aH.elim
noncomputable def cE:D→List D→M D
 | .obj n,[v]=>λG=>match G[n]? with
  | some (.lst xs)=>if xs.length<XT then .ok .cz (G.set n (.lst (xs++[v]))) else .stuck
  | _=>.stuck
 | _,_=>M.stop
theorem wQ {xs ys:List D} {w:V} {p:Addr} {ws:List V} {Q:VK} (ab:Ab X.K X.mg σ H τ ρ G) (hn:ρ[n]?=some p) (hp:H p=some (.lst vs)) (r:aq X.K X.mg ρ H ys ws)
  (rd:∀ H',bX X.K H H' ρ ρ→Rep X.K X.mg ρ H' d w) (ok:iI X.K X.mg EE H σ τ ρ (.ok d (G.set n (.lst ys))) Q):Q w (upd H p (.lst ws)):=by
 have f:bX X.K H (upd H p (.lst ws)) ρ ρ:=nQ hp ρ
 exact ok w _ ρ f (ab.fut f (ab.hp.put (ds:=ys) hn hp r)) (rd _ f)
theorem wR:AU X "list.append" (NB X EE cE):=by
 intro pins s σ0 H x xs v us Q I rx NC zu
 obtain ⟨σ,τ,ρ,G,d,ds,ab,rd,yr,ok⟩:=zu
 cases d<;>try exact ok.elim
 rename_i n
 match ds,ok with
 | [],ok=>exact ok.elim
 | _::_::_,ok=>exact ok.elim
 | [y],ok=>
  obtain ⟨yv,rfl,ry⟩:=fX yr
  unfold Rep at rd
  obtain ⟨p,rfl,e1⟩:=rd
  dsimp only [cE] at ok
  cases g:G[n]? with
  | none=>rw [g] at ok;exact ok.elim
  | some o=>
   cases o with
   | lst zs=>
    rw [g] at ok
    dsimp only at ok
    obtain ⟨p',vs,e2,hp,rs⟩:=ab.hp.lst g
    rw [e1] at e2;cases e2
    by_cases hz:zs.length<XT
    ·rw [if_pos hz] at ok
     exact qK pins s σ0 H _ _ v us Q I rx NC ⟨p,vs,yv,rfl,rfl,hp,by rw [← rs.length];exact hz,wQ (xs:=zs) ab e1 hp (rs.append (.cons ry .nil)) (λ_ _=>by unfold Rep;rfl) ok⟩
    ·rw [if_neg hz] at ok;exact ok.elim
   | _=>first | (rw [q] at ok;exact ok.elim) | (rw [q] at aH;exact aH.elim) | (rw [q] at e;cases e;done) | (rw [g] at ok;exact ok.elim) | (rw [g] at q;cases q;done) | (rw [g] at h;cases h;done) | (rw [g2] at ok;exact ok.elim) | (rw [g1,g2] at ok;exact ok.elim) | (rw [q1] at ok;exact ok.elim) | exact ok.elim
theorem zI {apos cpos:Pos} {m:DS→M (List D)} (ho:QE X EE o mo) (ha:QA X EE [e] m)
  (hbase:attributeBase o "append" X.env (eval o X.env)=eval o X.env:=by rfl)
  (hfew:((backTo cpos (Yj [e] X.env)).all (λx=>!x.1)&&(backToKw cpos (keywordEach [] X.env)).all (λx=>x.1.isSome)
   && decide ([e].length+([]:List Keyword).length+(if ([]:List Keyword).isEmpty then 0 else 1)<30))=true:=by rfl)
  (hline:(apos.endLine==cpos.line)=true:=by rfl) (hs:Yj [e] X.env=(false,eval e X.env)::Yj [] X.env:=by rfl) (hplain:(backTo cpos (Yj [] X.env)).any (·.1)=false:=by rfl) :
  QE X EE (.Call (.Attribute o "append" apos) [e] [] cpos) (cC "list" cE mo m):=Ia abN PySem.F.slot_list_append PySem.F.type_list_append wR ho ha hbase hfew hline hs hplain
noncomputable def nF:D→List D→M D
 | .obj n,[]=>λG=>match G[n]? with
  | some (.lst xs)=>match xs[xs.length - 1]? with
   | some y=>.ok y (G.set n (.lst xs.dropLast))
   | none=>.stuck
  | _=>.stuck
 | _,_=>M.stop
theorem aq.dropLast (r:aq K mg ρ H ds vs):aq K mg ρ H ds.dropLast vs.dropLast:=by
 rw [ace,ace,← r.length]
 exact r.take _
theorem FT:AU X "list.pop" (NB X EE nF):=by
 intro pins s σ0 H x xs v us Q I rx NC zu
 obtain ⟨σ,τ,ρ,G,d,ds,ab,rd,yr,ok⟩:=zu
 cases d<;>try exact ok.elim
 rename_i n
 match ds,ok with
 | _::_,ok=>exact ok.elim
 | [],ok=>
  unfold aq at yr;subst yr
  unfold Rep at rd
  obtain ⟨p,rfl,e1⟩:=rd
  dsimp only [nF] at ok
  cases g:G[n]? with
  | none=>rw [g] at ok;exact ok.elim
  | some o=>
   cases o with
   | lst zs=>
    rw [g] at ok
    dsimp only at ok
    obtain ⟨p',vs,e2,hp,rs⟩:=ab.hp.lst g
    rw [e1] at e2;cases e2
    cases qz:zs[zs.length - 1]? with
    | none=>rw [qz] at ok;exact ok.elim
    | some y=>
     rw [qz] at ok
     obtain ⟨yv,ey,ry⟩:=rs.get qz
     exact J2 pins s σ0 H _ _ v us Q I rx NC ⟨p,vs,yv,rfl,rfl,hp,by rw [← rs.length];exact ey,wQ (xs:=zs) ab e1 hp rs.dropLast (λ_ f=>ry.mono f) ok⟩
   | _=>first | (rw [q] at ok;exact ok.elim) | (rw [q] at aH;exact aH.elim) | (rw [q] at e;cases e;done) | (rw [g] at ok;exact ok.elim) | (rw [g] at q;cases q;done) | (rw [g] at h;cases h;done) | (rw [g2] at ok;exact ok.elim) | (rw [g1,g2] at ok;exact ok.elim) | (rw [q1] at ok;exact ok.elim) | exact ok.elim
theorem KP {apos cpos:Pos} (ho:QE X EE o mo) (hbase:attributeBase o "pop" X.env (eval o X.env)=eval o X.env:=by rfl) (hline:(apos.endLine==cpos.line)=true:=by rfl) :
  QE X EE (.Call (.Attribute o "pop" apos) [] [] cpos) (cC "list" nF mo ah):=KO abN PySem.F.slot_list_pop PySem.F.type_list_pop FT ho hbase hline
noncomputable def mF (v o i:D):M D:=λG=>match o,i with
 | .obj n,.int k=>match G[n]? with
  | some (.lst xs)=>match vY xs.length k with
   | some j=>.ok .cz (G.set n (.lst (xs.set j v)))
   | none=>.stuck
  | _=>.stuck
 | _,_=>.stuck
noncomputable def kW (mv mo mi:DS→M D):MS:=λτ=>bE ((mv τ).bind λv=>(mo τ).bind λo=>(mi τ).bind λi=>mF v o i) (λ_ G=>.nx τ G) λc G=>.xn c τ G
theorem BU {i:Expr} {tpos:Pos} (hv:QE X EE a mv) (ho:QE X EE o mo) (hi:QE X EE i mi)
  (hs:swapsWithSole [.Subscript o i tpos] a pos.line X.env=pure false:=by rfl) (hw:swappedStores [.Subscript o i tpos] a X.env=pure none:=by rfl) (h1:(assignEach [.Subscript o i tpos] X.env).map (·.2)=[assign (.Subscript o i tpos) X.env]:=by rfl)
  (KQ:∀ v,assign (.Subscript o i tpos) X.env v=(do
   let ov ← holding [v] (eval o X.env)
   let iv ← holding [v,ov] (eval i X.env)
   standAt tpos
   holding [v,ov,iv] (setItem ov iv v)
   release [v,ov,iv] []):=by intro _;rfl):QS X EE (.Assign [.Subscript o i tpos] a pos) (kW mv mo mi):=
 PS.mono (A8 hv (Js ho hi set_list KQ) hs hw h1) λDd σ H zz=>by
  obtain ⟨τ,ρ,G,ab,ok⟩:=zz
  refine ⟨τ,ρ,G,ab,?_⟩
  dsimp only [kW,bE,M.bind] at ok
  cases e1:mv τ G with
  | stuck=>rw [e1] at ok;exact ok
  | bB c G'=>rw [e1] at ok;exact λH' ρ' f bq=>ok σ H' ρ' f bq
  | ok v G1=>
   rw [e1] at ok
   intro vv H1 ρ1 f1 fW r1
   refine ⟨τ,ρ1,G1,fW,?_⟩
   dsimp only at ok
   cases e2:mo τ G1 with
   | stuck=>rw [e2] at ok;exact ok
   | bB c G'=>rw [e2] at ok;exact λH' ρ' f bq=>ok σ H' ρ' (f1.trans f) bq
   | ok ov G2=>
    rw [e2] at ok
    intro vo H2 ρ2 f2 bG r2
    refine ⟨τ,ρ2,G2,bG,?_⟩
    dsimp only at ok
    cases e3:mi τ G2 with
    | stuck=>rw [e3] at ok;exact ok
    | bB c G'=>rw [e3] at ok;exact λH' ρ' f bq=>ok σ H' ρ' ((f1.trans f2).trans f) bq
    | ok iv G3=>
     rw [e3] at ok
     intro vi H3 ρ3 f3 oz r3
     dsimp only [mF] at ok
     cases ov<;>try exact ok.elim
     cases iv<;>try exact ok.elim
     rename_i n k
     have r2':=r2.mono f3
     unfold Rep at r2' r3
     obtain ⟨p,rfl,e4⟩:=r2'
     dsimp only at ok
     cases g:G3[n]? with
     | none=>rw [g] at ok;exact ok.elim
     | some ob=>
      cases ob with
      | lst zs=>
       rw [g] at ok
       dsimp only at ok
       obtain ⟨p',vs,e5,hp,rs⟩:=oz.hp.lst g
       rw [e4] at e5;cases e5
       cases qj:vY zs.length k with
       | none=>rw [qj] at ok;exact ok.elim
       | some j=>
        rw [qj] at ok
        have rr:=rs.set (r1.mono (f2.trans f3)) j
        have f4:bX X.K H3 (upd H3 p (.lst (vs.set j vv))) ρ3 ρ3:=nQ hp ρ3
        exact ⟨p,vs,k,j,rfl,r3,hp,by rw [← rs.length];exact qj,ok σ _ ρ3 (((f1.trans f2).trans f3).trans f4) (oz.fut f4 (oz.hp.put (ds:=zs) e4 hp rr))⟩
      | _=>first | (rw [q] at ok;exact ok.elim) | (rw [q] at aH;exact aH.elim) | (rw [q] at e;cases e;done) | (rw [g] at ok;exact ok.elim) | (rw [g] at q;cases q;done) | (rw [g] at h;cases h;done) | (rw [g2] at ok;exact ok.elim) | (rw [g1,g2] at ok;exact ok.elim) | (rw [q1] at ok;exact ok.elim) | exact ok.elim
end
structure zJ (B:Heap) (l:List Env) (e:Addr) (cls:XR) (h:Heap):Prop where
 stay:B.StaysIn h
 new:B.get? e=none
 nU:h.FunFrames B l
 tr:(∃ oe vs a0,h.get? e=some oe∧oe.cls=cls∧oe.data=.fields vs∧vs[0]?=some a0∧vs[1]?=some .none)∨∃ a0 fl,h.TracedAtW B e cls a0 fl
section
variable {M:Model} {A:Around} {E:XR→XX→Prop} {s:XX} {B:Heap} {env:Env} {outer l:List Env} {L e:Addr} {cls:XR} {Q:Unit→XX→Prop}
theorem wU (h:env'.frame=env.frame) (v:XR):noteFrame v env'=noteFrame v env:=by
 unfold noteFrame frameOf
 rw [h]
theorem yt (hfr:A.frames=some (env::outer)) (hf:env.frame=some L) (f:zJ B (env::outer) e cls s.heap)
  (hQ:∀ h' a0,Heap.HeldW B (env::outer) e cls a0 L h'→s.heap.UpToSlots h'→Q () {s with heap:=h'}):Ye M A (noteFrame (.ref e) env) Q E s:=by
 obtain ⟨st,nw,fr,tr⟩:=f
 rcases tr with ⟨oe,vs,a0,he,hc,hd,h0,h1⟩ | ⟨a0,fl,oe,vs,T,oT,ts,he,hcls,hd,h1,ND,NF,hT,AV,h3⟩
 ·subst hc
  unfold noteFrame
  simp only [hf]
  refine XS (YI he hd h1 ?_)
  rw [if_neg (by decide)]
  refine wpAny_entryW hfr fr hf he st nw hd (ZR.mp h1).1 h0 λh' hN=>?_
  exact hQ h' a0 ⟨hN.1,nw,hN.2.1,hN.2.2.1⟩ hN.2.2.2
 ·by_cases hq:(fl==rawInt L)=true
  ·unfold noteFrame
   simp only [hf]
   refine XS (YI he hd h1 ?_)
   rw [if_pos (show (Value.ref T != Value.none)=true by simp)]
   refine XS (YI hT AV h3 ?_)
   rw [if_pos hq]
   refine Yc ?_
   have:=hQ s.heap a0 ⟨st,nw,fr,oe,vs,T,oT,ts,he,hcls,hd,h1,ND,NF,hT,AV,by rw [h3,beq_iff_eq.mp hq]⟩ (.refl _)
   exact this
  ·obtain ⟨rfl,h0⟩:=hcls
   unfold noteFrame
   simp only [hf]
   refine XS (YI he hd h1 ?_)
   rw [if_pos (show (Value.ref T != Value.none)=true by simp)]
   refine XS (YI hT AV h3 ?_)
   rw [if_neg hq]
   refine XS (ZS hT AV (ZR.mp h3).1 ?_)
   have pZ:∀ b,b≠T→(s.heap.update T (Zi (·.setIfInBounds 3 Value.none))).get? b=s.heap.get? b:=λb hb=>Yt _ _ (Y6 hb)
   have NG:∀ b o,s.heap.get? b=some o→(∀ vs,o.data≠.fields vs)→b≠T:=λb o hb hnf z=>by
    rw [z,hT] at hb;cases hb;exact hnf ts AV
   refine wpAny_entryW hfr (fr.of_keeps λb o hb hnf=>⟨o,(pZ b (NG b o hb hnf)).trans hb,rfl⟩) hf ((pZ e (Y6 NF)).trans he)
    (λb o QX=>(pZ b λz=>by rw [z,ND] at QX;cases QX).trans (st b o QX)) nw hd (ZR.mp h1).1 h0 λh' hN=>?_
   exact hQ h' a0 ⟨hN.1,nw,hN.2.1,hN.2.2.1⟩ λb o hb hnf=>hN.2.2.2 b o ((pZ b (NG b o hb hnf)).trans hb) hnf
theorem uG (hfr:A.frames=some (env::outer)) (hf:env.frame=some L) (f:zJ B (env::outer) e cls s.heap)
  (hQ:∀ h' a0,ac1 B outer e cls a0 h'→s.heap.UpToSlots h'→Q () {s with heap:=h'}):Ye M A (leaving env (.ref e)) Q E s:=by
 unfold leaving
 refine XS (yt hfr hf f λh1 a0 hH u1=>?_)
 refine wpAny_landsW hH λh2 hF u2=>?_
 obtain ⟨k1,k2,⟨_,_,k3⟩,k4⟩:=hF
 exact hQ h2 a0 ⟨k1,k2,k3,k4⟩ (u1.trans u2)
theorem zJ.zK (f:ac1 B l e cls a0 h):zJ B l e cls h:=⟨f.1,f.2.1,f.2.2.1,.inr ⟨a0,.none,f.2.2.2⟩⟩
end
structure SQ (X:Cx) (B:Heap):Prop where
 keep:∀ b o,X.s₀.heap.get? b=some o→X.H₀ b=none→b∉frs X.stack→b∉X.ex→B.get? b=some o
 there:∀ b o,X.s₀.heap.get? b=some o→b∉frs X.stack→b∉X.ex→∃ o',B.get? b=some o'
 pins:∀ p∈X.pn,B.get? p.1=some p.2
noncomputable def NH (X:Cx) (H:Hp) (e:Addr) (cls:XR) (s:XX):Prop:=∃ B,zJ B X.stack e cls s.heap∧i8 X.prog X.w H B∧SQ X B
noncomputable def yu (mg:Str→Option XR) (c:XD) (cls:XR):Prop:=match c with | .mk n _=>mg n=some cls
noncomputable def fZ (X:Cx) (EE:bO):Prop:=∀ (pins:List (Addr×Obj)) (σ:L2.St) (H:Hp) (s:XX) (e:Addr) (cls:XR) (c:XD),Inv X pins σ H s→NH X H e cls s→yu X.mg c cls→EE c σ H→X.xe (.ref e) s
section
variable {X:Cx} {pins:List (Addr×Obj)} {σ:L2.St} {H:Hp} {s:XX} {h':Heap}
theorem IsCell.slots {v:Option XR} (u:h.UpToSlots h') (hc:h.IsCell c v):h'.IsCell c v:=by
 obtain ⟨o,e,d⟩:=hc
 obtain ⟨sl,e'⟩:=u c o e λvs q=>by rw [d] at q;cases q
 exact ⟨_,e',d⟩
theorem Inv.Ib {t:Nat} (I:Inv X pins σ H s) (C:SQ X B) (hok:i8 X.prog X.w H B) (st:B.StaysIn h') (u:s.heap.UpToSlots h') (ht:0<t:=by first | exact YJ _ | exact (Inv.os (by assumption)).2 | assumption | nofun):Inv X [] σ H {s with heap:=h',toks:=t}:=by
 have yb:∀ b o,X.s₀.heap.get? b=some o→b≠X.env.locals:=λb o e=>Yg (X7 (X0 e) I.ok.above)
 have NI:∀ b o,X.s₀.heap.get? b=some o→b∉X.fs→b∉frs X.stack:=λb o e hb z=>by
  rcases Yn.mp (I.jL b z) with z | z
  ·exact yb b o e z
  ·exact hb z
 have slots:∀ b o,X.s₀.heap.get? b=some o→X.H₀ b=none→b∈X.fs→b∉X.ex→∃ sl,h'.get? b=some {o with slots:=sl}:=λb o e n hb hx=>by
  obtain ⟨sl,e1⟩:=I.base.slot b o e n hb hx
  obtain ⟨_,o',eo,hd⟩:=I.ok.lG.mem hb
  rw [e] at eo;cases eo
  obtain ⟨MB,e2⟩:=u b _ e1 hd
  exact ⟨MB,e2⟩
 refine ⟨I.ok,⟨I.os.1,ht⟩,I.bare,⟨λb o e n hb hx=>st _ _ (C.keep b o e n (NI b o e hb) hx),slots,I.base.free,λb o e hx=>?_,I.base.tups,I.base.i9,I.base.jK⟩,?_,λx c e=>?_,I.free,I.jB,λp hp=>?_,hok.kept st,I.len⟩
 ·by_cases hb:b∈X.fs
  ·obtain ⟨sl,e1⟩:=slots b o e (I.ok.ED b hb) hb hx
   exact ⟨_,e1⟩
  ·obtain ⟨o',e1⟩:=C.there b o e (NI b o e hb) hx
   exact ⟨o',st _ _ e1⟩
 ·obtain ⟨m,hn,hl⟩:=I.loc
  refine ⟨m,u.ns hn,λi x v e1 e2 e3=>?_⟩
  obtain ⟨w,r,l⟩:=hl i x v e1 e2 e3
  refine ⟨w,r,?_⟩
  rcases l with l | ⟨k,c,e,z⟩
  ·exact .inl l
  ·exact .inr ⟨k,c,e,IsCell.slots u z⟩
 ·obtain ⟨v,z⟩:=I.cell x c e
  exact ⟨v,IsCell.slots u z⟩
 ·have AW:p∈X.pn:=by simpa using hp
  obtain ⟨e,n,ne,nf,d⟩:=I.pin p (ZC _ AW)
  exact ⟨st _ _ (C.pins p AW),n,ne,nf,d⟩
end
structure NJ (P:Yw) (w:YM) (outer:List Env) (H:Hp) (s:XX) (H':Hp) (B:Heap) (s':XX):Prop where
 os:s'.os=s.os∧0<s'.toks
 bare:aaC s'.gens
 keep:∀ b o,s.heap.get? b=some o→H b=none→b∉frs outer→B.get? b=some o
 there:∀ b o,s.heap.get? b=some o→b∉frs outer→∃ o',B.get? b=some o'
 slot:∀ b o,s.heap.get? b=some o→H b=none→b∈frs outer→∃ sl,s'.heap.get? b=some {o with slots:=sl}
 free:∀ b o,s.heap.get? b=some o→H b=none→H' b=none
 tups:∀ b xs,H b=some (.tup xs)→H' b=some (.tup xs)
 i9:∀ b o u,H b=some (.dF o u)→H' b=some (.dF o u)
 jK:∀ b ps,H b=some (.lF ps)→∃ more,H' b=some (.lF (ps++more))
 hok:i8 P w H' B
noncomputable def lM (P:Yw) (w:YM):l5:=λouter H s E ev s'=>∃ e cls a0 B H',ev=.ref e∧ac1 B outer e cls a0 s'.heap∧NJ P w outer H s H' B s'∧E cls none H'
theorem zL (h:fZ X EE):FN (lM X.prog X.w) X EE:=by
 intro pins σ H s ev s' I hq
 obtain ⟨e,cls,a0,B,H',rfl,fl,F,c,hc,ee⟩:=hq
 have un:Un (frs X.stack) [] H H' s.heap s'.heap:=⟨λb o e n hb _=>fl.1 _ _ (F.keep b o e n hb),λb o e n hb _=>F.slot b o e n hb,λb o e n _=>F.free b o e n,λb o e _=>by
  by_cases hb:b∈frs X.stack
  ·obtain ⟨sl,q⟩:=F.slot b o e (I.nO b hb) hb
   exact ⟨_,q⟩
  ·obtain ⟨o',q⟩:=F.there b o e hb
   exact ⟨o',fl.1 _ _ q⟩,F.tups,F.i9,F.jK⟩
 have I':Inv X pins σ H' s':=I.A5 F.os un (F.hok.kept fl.1) F.bare λb z=>absurd z (by simp)
 refine h pins σ H' s' e cls c I' ⟨B,.zK fl,F.hok,λb o eb n hb hx=>?_,λb o eb hb hx=>?_,λp hp=>?_⟩ hc ee
 ·have QY:b∉X.fs:=λz=>hb (by
   rcases I.ok.stk with q | ⟨q,_⟩
   ·rw [q];exact z
   ·rw [q];unfold frs;rw [ZK];split
    ·exact z
    ·exact YA _ z)
  exact F.keep b o (I.base.keep b o eb n QY hx) (I.base.free b o eb n hx) hb
 ·obtain ⟨o',q⟩:=I.base.there b o eb hx
  exact F.there b o' q hb
 ·obtain ⟨q,n,ne,nf,d⟩:=I.pin p (ZC _ hp)
  exact F.keep p.1 p.2 q n λz=>by
   rcases Yn.mp (I.jL _ z) with z | z
   ·exact ne z
   ·exact nf z
section
variable {P:Yw} {w:YM} {K:XU} {mg:Str→Option XR} {base:Heap} {f:Addr} {fd:FuncData}
theorem QZ {st:Stmt} {ps:List Str} {k:Nat} {m:List D→M D} (F:r6 K x qual st f fd) (S:fV N ps (au st)) (hps:ps.length=n) (hN:N.length=nn) (hm:∀ ds,m ds=bQ nn ms ds)
  (hbody:∀ (X:Cx) (EE:bO) (cdv:XR) (A:Around) (outer:List Env) (s:XX) (H:Hp) (E:XK),X=kL (lM P w) P w K mg base N qual (au st) f cdv A outer s H E→cK k (A.deeper (Zq qual (au st) s.heap.objs.size f cdv)) →
   fZ X EE→PassesOwn (model P w) X.A X.env X.xe→pY X EE (bS st) ms) :
  gA P w K mg base (lM P w) (k+1) f fd ps (fU K mg n m):=by
 subst hps hN
 have e:m=λds=>bQ N.length ms ds:=funext hm
 subst e
 obtain ⟨oc,od,kV,doc,pm,an,cdv,ct,osl,rfl,lk,hcd⟩:=F.ex
 refine M5 lk hcd S (λvs H Q E h=>h.len) λA outer s H vs Q E hr h=>?_
 obtain ⟨ds,ρ,G,hn,hp,rs,ok⟩:=h
 refine ⟨_,hbody _ (λc σ H'=>∀ cls,yu mg c cls→E cls none H') cdv A outer s H E rfl hr ?_ aa3,ds.map some++Yi (N.length - ds.length) none,ρ,G,⟨jk rs,hp⟩,?_⟩
 ·intro pins σ H' s' e cls c I fx hc ee
  obtain ⟨B,fb,hok,zM⟩:=fx
  refine uG (L:=s.heap.objs.size) I.ok.frames rfl fb λh' a0 fl u=>?_
  have I':Inv _ [] σ H' {s' with heap:=h'}:=Inv.Ib (t:=s'.toks) I zM hok fl.1 u
  have yb:∀ b o,s.heap.get? b=some o→b∉frs outer→b∉frs (Zq qual (au st) s.heap.objs.size f cdv::outer):=λb o e hb z=>by
   rcases Yn.mp (I.jL b z) with z | z
   ·exact absurd (X0 e) (by rw [show b=s.heap.objs.size from z];exact YY _)
   ·exact hb z
  refine ⟨e,cls,a0,B,H',rfl,fl,⟨I'.os,I'.bare,λb o eb nb hb=>zM.keep b o eb nb (yb b o eb hb) (by intro z;exact absurd (show b∈([]:List Addr) from z) (by simp)),λb o eb hb=>zM.there b o eb (yb b o eb hb) (by intro z;exact absurd (show b∈([]:List Addr) from z) (by simp)),
   λb o eb nb hb=>I'.base.slot b o eb nb hb (by intro z;exact absurd (show b∈([]:List Addr) from z) (by simp)),λb o eb nb=>I'.base.free b o eb nb (by intro z;exact absurd (show b∈([]:List Addr) from z) (by simp)),I'.base.tups,I'.base.i9,I'.base.jK,hok⟩,ee cls hc⟩
 ·dsimp only [bQ] at ok
  cases q:ms (ds.map some++Yi (N.length - ds.length) none) G with
  | stuck=>rw [q] at ok;exact ok
  | nx τ G'=>rw [q] at ok;exact λσ' H' ρ' f ab=>ok .cz H' ρ' f ab.hp (by unfold Rep;rfl)
  | rt d G'=>rw [q] at ok;exact λv H' ρ' f hp r=>ok v H' ρ' f hp r
  | bk τ G'=>rw [q] at ok;exact ok.elim
  | ct τ G'=>rw [q] at ok;exact ok.elim
  | xn c τ G'=>rw [q] at ok;exact λσ' H' ρ' f ab cls hc=>ok cls H' ρ' hc f ab.hp
end
theorem BV (x:i8 P w H h) (k:∀ b o,H b≠none→h.get? b=some o→B.get? b=some o):i8 P w H B:=λa o e=>
 (x a o e).stay (λb u hb q=>k b u (by
  rcases hb with z | z
  ·rw [z,e];simp
  ·rw [z];simp) q) (λ_ q=>q) λ_ _ q=>q
section
variable {X:Cx} {EE:bO} {pins:List (Addr×Obj)} {σ:L2.St} {H:Hp} {s:XX}
noncomputable def BW (x:Str) (m:DS→M (List D)):MS:=λτ=>bE (m τ) (λds G=>if ds.length≤XT then .xn (.mk x ds) τ G else .stuck) λc G=>.xn c τ G
end
noncomputable abbrev Cx.to (X:Cx) (E:XR→XX→Prop) (pn:List (Addr×Obj)):Cx:={X with xe:=E,pn:=pn}
noncomputable def gq (env:Env):List (Str×NameKind)→List (Str×Addr)→List (Str×Addr)
 | [],acc=>acc
 | (n,k)::r,acc=>gq env r (if k==.free then (match env.cells.lookup n with | some c=>(n,c)::acc | none=>acc) else acc)
theorem kE (h:∀ x∈scope.names,x.2=.free→∃ c,env.cells.lookup x.1=some c):closureFor scope env=pure (gq env scope.names []):=by
 unfold closureFor
 have key:∀ (names:List (Str×NameKind)) (acc:List (Str×Addr)),(∀ x∈names,x.2=.free→∃ c,env.cells.lookup x.1=some c) →
   (forIn names acc λx r=>match x with | (name,kind)=>if (kind==NameKind.free)=true then do let y ← cellOf env name;pure (ForInStep.yield ((name,y)::r)) else pure (ForInStep.yield r))=(pure (gq env names acc):Sem (List (Str×Addr))):=by
  intro names
  induction names with
  | nil=>intro acc _;rfl
  | cons x r ih=>
   intro acc hx
   obtain ⟨n,k⟩:=x
   rw [List.forIn_cons]
   by_cases hk:(k==NameKind.free)=true
   ·obtain ⟨c,hc⟩:=hx (n,k) ZO (eq_of_beq hk)
    have e:cellOf env n=pure c:=by unfold cellOf;rw [hc]
    simp only [if_pos hk,e,pure_bind]
    rw [ih _ λy hy=>hx y (YA _ hy)]
    show _=pure (gq env r (if (k==NameKind.free)=true then (match env.cells.lookup n with | some c=>(n,c)::acc | none=>acc) else acc))
    rw [if_pos hk,hc]
   ·simp only [if_neg hk,pure_bind]
    rw [ih _ λy hy=>hx y (YA _ hy)]
    show _=pure (gq env r (if (k==NameKind.free)=true then (match env.cells.lookup n with | some c=>(n,c)::acc | none=>acc) else acc))
    rw [if_neg hk]
 have k2:=key scope.names [] h
 first
  | (rw [k2];rfl)
  | (simp only [k2,pure_bind])
  | exact k2
theorem oH {env:Env}:∀ (names:List (Str×NameKind)) (acc:List (Str×Addr)),(∀ y c,acc.lookup y=some c→env.cells.lookup y=some c)→∀ y c,(gq env names acc).lookup y=some c→env.cells.lookup y=some c
 | [],acc,h,y,c,e=>h y c e
 | (n,k)::r,acc,h,y,c,e=>by
  refine oH r _ (λz d ez=>?_) y c e
  by_cases hk:(k==NameKind.free)=true
  ·rw [if_pos hk] at ez
   cases q:env.cells.lookup n with
   | none=>rw [q] at ez;exact h z d ez
   | some c'=>
    rw [q] at ez
    dsimp only at ez
    rw [Yz] at ez
    cases hz:z==n with
    | true=>rw [hz] at ez;cases ez;rw [eq_of_beq hz];exact q
    | false=>rw [hz] at ez;exact h z d ez
  ·rw [if_neg hk] at ez
   exact h z d ez
theorem oJ {env:Env}:∀ (names:List (Str×NameKind)) (acc:List (Str×Addr)) (y:Str),((∃ c,acc.lookup y=some c)∨((y,NameKind.free)∈names∧∃ c,env.cells.lookup y=some c))→∃ c,(gq env names acc).lookup y=some c
 | [],acc,y,h=>by
  rcases h with h | ⟨h,_⟩
  ·exact h
  ·cases h
 | (n,k)::r,acc,y,h=>by
  refine oJ r _ y ?_
  rcases h with ⟨c,h⟩ | ⟨h,c,hc⟩
  ·left
   by_cases hk:(k==NameKind.free)=true
   ·rw [if_pos hk]
    cases q:env.cells.lookup n with
    | none=>exact ⟨c,h⟩
    | some c'=>
     dsimp only
     rw [Yz]
     cases hz:y==n with
     | true=>exact ⟨c',rfl⟩
     | false=>exact ⟨c,h⟩
   ·rw [if_neg hk];exact ⟨c,h⟩
  ·rcases Yn.mp h with e | h
   ·cases e
    left
    rw [if_pos (by rfl),hc]
    dsimp only
    exact ⟨c,by rw [Yz,beq_self_eq_true]⟩
   ·exact .inr ⟨h,c,hc⟩
section
open PyProof.Rows
noncomputable def mask {α:Type}:List Bool→List (Option α)→List (Option α)
 | _,[]=>[]
 | [],_::r=>none::mask [] r
 | k::ks,o::r=>(if k then o else none)::mask ks r
theorem iJ {α:Type}:∀ (ks:List Bool) (l:List (Option α)),(mask ks l).length=l.length
 | _,[]=>by unfold mask;rfl
 | [],_::r=>by unfold mask;simp [iJ [] r]
 | k::ks,o::r=>by unfold mask;simp [iJ ks r]
theorem jO {α:Type} {v:α}:∀ {ks:List Bool} {l:List (Option α)} {i:Nat},(mask ks l)[i]?=some (some v)→ks[i]?=some true∧l[i]?=some (some v)
 | ks,[],i,h=>by unfold mask at h;simp at h
 | [],o::r,0,h=>by unfold mask at h;simp at h
 | [],o::r,i+1,h=>by
  unfold mask at h
  have:=(jO (ks:=[]) (l:=r) (i:=i) (by simpa using h)).1
  simp at this
 | k::ks,o::r,0,h=>by
  unfold mask at h
  cases k with
  | true=>simpa using h
  | false=>simp at h
 | k::ks,o::r,i+1,h=>by
  unfold mask at h
  have:=jO (ks:=ks) (l:=r) (i:=i) (by simpa using h)
  simpa using this
theorem yw {α:Type} {v:α}:∀ {ks:List Bool} {l:List (Option α)} {i:Nat},ks[i]?=some true→l[i]?=some (some v)→(mask ks l)[i]?=some (some v)
 | ks,[],i,_,h=>by simp at h
 | [],o::r,i,h,_=>by simp at h
 | k::ks,o::r,0,h,e=>by unfold mask;simp at h e;simp [h,e]
 | k::ks,o::r,i+1,h,e=>by
  unfold mask
  have:=yw (ks:=ks) (l:=r) (i:=i) (by simpa using h) (by simpa using e)
  simpa using this
noncomputable def p6 (env:Env) (n:Str) (k:NameKind):NameKind:=if (k==.free&&env.scope.kind==.function&&env.kindOf n==some .cell) then .cell else k
theorem eG {env:Env} {y:Str}:∀ (names:List (Str×NameKind)),(names.map λ(n,k)=>if (k==NameKind.free&&env.scope.kind==.function&&env.kindOf n==some .cell) then (n,NameKind.cell) else (n,k)).lookup y=(names.lookup y).map (p6 env y)
 | []=>rfl
 | (n,k)::r=>by
  have ih:=eG (env:=env) (y:=y) r
  rw [X8,Yz]
  by_cases hc:(k==NameKind.free&&env.scope.kind==.function&&env.kindOf n==some .cell)=true
  ·rw [if_pos hc,Yz]
   cases hy:y==n with
   | true=>
    have e:y=n:=eq_of_beq hy
    subst e
    simp [p6,hc]
   | false=>exact ih
  ·rw [if_neg hc,Yz]
   cases hy:y==n with
   | true=>
    have e:y=n:=eq_of_beq hy
    subst e
    simp [p6,hc]
   | false=>exact ih
structure bw (Pn:Scope) (N:List Str) (scope:Scope) (xs:List Str) (ks:List Bool):Prop where
 nd:xs.Nodup
 kind:scope.kind=.function
 oK:∀ y∈scope.names,y.2≠.cell
 names:∀ y∈scope.names,y.2=.local→scope.names.lookup y.1=some .local
 loc:∀ x∈xs,scope.names.lookup x=some .local
 free:∀ y∈scope.names,y.2=.free→Pn.names.lookup y.1=some .cell∨Pn.names.lookup y.1=some .free
 Q0:((ks.zip N).all λp=>!p.1||decide (scope.names.lookup p.2=some .free))=true
theorem bw.cap {xs:List Str} (S:bw Pn N scope xs ks):∀ i<ks.length,ks[i]?=some true→∀ y∈N[i]?,scope.names.lookup y=some .free:=λi _ hk y hy=>by
 have h:=aaG.mp S.Q0 (true,y) (Yy (i:=i) (by rw [List.getElem?_zip_eq_some];exact ⟨hk,hy⟩))
 simpa using h
noncomputable def lN (X:Cx) (scope:Scope) (cl:List (Str×Addr)) (xs:List Str) (C:Addr) (pins:List (Addr×Obj)) (s:XX) (H:Hp) (fp:List Addr) (E:XR→XX→Prop):Cx where
 prog:=X.prog
 w:=X.w
 K:=X.K
 mg:=X.mg
 base:=X.base
 A:=X.A
 N:=xs++X.N
 s₀:=s
 H₀:=H
 env:=compEnvC scope cl C X.env
 outer:=X.stack
 stack:=X.stack
 ex:=fp
 fn:=λ_=>false
 calm:=X.calm
 pn:=X.pn++pins
 xe:=E
section
variable {X:Cx} {scope:Scope} {xs:List Str} {x:Str} {ks:List Bool} {pins:List (Addr×Obj)} {σ:L2.St} {H:Hp} {s s4:XX} {fp:List Addr} {E:XR→XX→Prop} {h1:Heap}
theorem mem_lookup {α β:Type} [BEq α] [LawfulBEq α]:∀ {l:List (α×β)} {a:α} {b:β},l.lookup a=some b→(a,b)∈l
 | [],_,_,h=>by simp at h
 | (a',b')::r,a,b,h=>by
  rw [Yz] at h
  cases hz:a==a' with
  | true=>rw [hz] at h;cases h;rw [eq_of_beq hz];exact ZO
  | false=>rw [hz] at h;exact YA _ (mem_lookup h)
theorem BX (S:bw X.env.scope X.N scope xs ks) {cl:List (Str×Addr)} {C:Addr} {y:Str} (h:(compEnvC scope cl C X.env).kindOf y=some .cell∨(compEnvC scope cl C X.env).kindOf y=some .free):scope.names.lookup y=some .free:=by
 have h':(scope.names.lookup y).map (p6 X.env y)=some .cell∨(scope.names.lookup y).map (p6 X.env y)=some .free:=by
  rw [← eG];exact h
 cases q:scope.names.lookup y with
 | none=>rw [q] at h';rcases h' with h' | h'<;>cases h'
 | some k=>
  rw [q] at h'
  cases k with
  | free=>rfl
  | cell=>exact absurd rfl (S.oK _ (mem_lookup q))
  | _=>rcases h' with h' | h'<;>simp [p6] at h'
theorem mG (S:bw X.env.scope X.N scope xs ks) {cl:List (Str×Addr)} {C:Addr} {y:Str} (h:scope.names.lookup y=some .free):(compEnvC scope cl C X.env).kindOf y=some .cell∨(compEnvC scope cl C X.env).kindOf y=some .free:=by
 have e:(compEnvC scope cl C X.env).kindOf y=(scope.names.lookup y).map (p6 X.env y):=eG scope.names
 rw [e,h]
 unfold p6
 dsimp only [Option.map]
 split
 ·exact .inl rfl
 ·exact .inr rfl
theorem oM (S:bw X.env.scope X.N scope xs ks) (hx:x∈xs) {cl:List (Str×Addr)} {C:Addr}:(compEnvC scope cl C X.env).kindOf x=some .local:=by
 have e:(compEnvC scope cl C X.env).kindOf x=(scope.names.lookup x).map (p6 X.env x):=eG scope.names
 rw [e,S.loc x hx]
 rfl
theorem wV (S:bw X.env.scope X.N scope xs ks) (I:Inv X pins σ H s) (hf:∀ b∈fp,kJ X pins H b∧b<s.heap.objs.size) (hn:h1.Ns s.heap.objs.size λ_=>none) (hk:∀ b o,s.heap.get? b=some o→h1.get? b=some o) (t:Nat) (ht:0<t:=by first | exact YJ _ | exact (Inv.os (by assumption)).2 | assumption | nofun) :
  Inv (lN X scope (gq X.env scope.names []) xs s.heap.objs.size pins s H fp E) [] (Yi xs.length none++mask ks σ) H {s with heap:=h1,toks:=t}:=by
 have cs:∀ y c,(gq X.env scope.names []).lookup y=some c→X.env.cells.lookup y=some c:=oH scope.names [] λy c e=>by simp at e
 have lt:∀ b o,s.heap.get? b=some o→b≠s.heap.objs.size:=λb o e=>Yg (X0 e)
 have KR:∀ y c,X.env.cells.lookup y=some c→∃ v,s.heap.IsCell c v:=λy c e=>I.cell y c e
 have Ic:∀ b,b≠X.env.locals→b∉X.fs→b∉frs X.stack:=λb h1 h2 h3=>(Yn.mp (I.jL b h3)).elim h1 h2
 refine ⟨⟨I.ok.mod,?_,I.ok.glob,I.ok.blt,X3 _,λy z c e1 e2=>I.ok.inj y z c (cs y c e1) (cs z c e2),λy hy=>?_,λy c h _=>absurd (show false=true from h) YH,I.ok.hd,I.ok.frames,.inl rfl,λb hb=>⟨Yg (hf b hb).2,λy c e=>(hf b hb).1.2.2.2.2.1 y c (cs y c e)⟩,I.bs,
   YV I.ok.En I.sz,λb o e hb=>?_,λb hb=>Ic b (hf b hb).1.2.1 (hf b hb).1.2.2.1,I.stack,I.nO⟩,⟨rfl,ht⟩,I.bare,Un.kept hk,⟨_,hn,λi y v e1 e2 e3=>?_⟩,λy c e=>?_,I.hok.fresh (X3 _),λy c e=>(I.jB y c (cs y c e)).imp id λz=>⟨rfl,z.2⟩,λp hp=>?_,I.hok.kept hk,?_⟩
 ·show (relabel scope X.env).kind=.function
  exact S.kind
 ·have hfree:=BX S hy
  have hm:=mem_lookup hfree
  refine oJ scope.names [] y (.inr ⟨hm,?_⟩)
  exact I.ok.has y (S.free _ hm rfl)
 ·rcases (hf b hb).1.2.2.2.1 with z | z
  ·exact I.ok.EB b o e z
  ·exact absurd (X7 (X0 (I.ok.bs b o e).1) z) (YY _)
 ·by_cases hlt:i<xs.length
  ·rw [Yd (by simpa using hlt),aaf] at e2
   rw [if_pos hlt] at e2;cases e2
  ·obtain ⟨j,rfl⟩:∃ j,i=xs.length+j:=⟨i - xs.length,by nofun⟩
   have yl:(mask ks σ)[j]?=some (some v):=by
    rw [Yp (by simp)] at e2
    simpa using e2
   obtain ⟨hks,eσ⟩:=jO yl
   have yk:X.N[j]?=some y:=by
    have:(xs++X.N)[xs.length+j]?=some y:=e1
    rw [Yp (by nofun)] at this
    simpa using this
   have hfree:scope.names.lookup y=some .free:=S.cap j (XY.mp hks).1 hks y (by rw [yk];rfl)
   obtain ⟨m,hm,hl⟩:=I.loc
   have hkind:=S.free _ (mem_lookup hfree) rfl
   obtain ⟨u,r,l⟩:=hl j y v yk eσ (hkind.elim (λz=>.inr (.inl z)) λz=>.inr (.inr z))
   refine ⟨u,r,.inr ⟨mG S hfree,?_⟩⟩
   rcases l with ⟨k,_⟩ | ⟨k,c,ec,hc⟩
   ·have k':X.env.scope.names.lookup y=some .local:=k
    rcases hkind with z | z<;>(rw [k'] at z;cases z)
   ·obtain ⟨c',SR⟩:=oJ (env:=X.env) scope.names [] y (.inr ⟨mem_lookup hfree,c,ec⟩)
    have:=cs y c' SR
    rw [ec] at this;cases this
    exact ⟨c,SR,hc.keeps hk⟩
 ·obtain ⟨v,hc⟩:=KR y c (cs y c e)
  exact ⟨v,hc.keeps hk⟩
 ·have AW:p∈X.pn++pins:=by
   have:p∈(X.pn++pins)++[]:=hp
   simpa using this
  obtain ⟨e,n,ne,nf,d⟩:=I.pin p AW
  exact ⟨hk _ _ e,n,lt _ _ e,Ic _ ne nf,d⟩
 ·show (Yi xs.length none++mask ks σ).length=(xs++X.N).length
  simp [iJ,I.len]
theorem kX {Xc:Cx} {u:XR} {Q:Unit→XX→Prop} {H1:Hp}
  (S:bw X.env.scope X.N scope xs ks) (e:Xc=lN X scope cl xs C pins s0 H0 fp E) (Ie:own.length=xs.length) (hx:xs[n]?=some x) (I:Inv Xc gS (own++mask ks σ0) H1 s1) (r:RelV v u) (h:∀ s',Inv Xc gS (own.set n (some v)++mask ks σ0) H1 s'→Q () s') :
  Ye M' A' (assign (.Name x px) Xc.env u) Q E' s1:=by
 subst e
 obtain ⟨m,hn,hl⟩:=id I.loc
 have NK:=oM (cl:=cl) (C:=C) S (Yy hx)
 refine abA (ab8 NK hn (λh' hn' hs=>?_) (by rw [show (lN X scope cl xs C pins s0 H0 fp E).env.scope.kind=.function from S.kind];rfl))
 refine h _ ?_
 have yb:∀ b o,s0.heap.get? b=some o→b≠C:=λb o e=>Yg (X7 (X0 e) I.ok.above)
 obtain ⟨oL,_,_,SG,_⟩:=id hn
 have hfree:H1 C=none:=I.free
 refine ⟨I.ok,⟨I.os.1,YJ _⟩,I.bare,⟨λb o e n hb hx=>?_,λb o e n hb hx=>?_,I.base.free,λb o e hx=>?_,I.base.tups,I.base.i9,I.base.jK⟩,⟨_,hn',λj y v' e1 e2 e3=>?_⟩,λy c e=>?_,I.free,I.jB,λp hp=>?_,λb ob e=>?_,by simpa using I.len⟩
 ·exact (hs.2 b (yb b o e)).trans (I.base.keep b o e n hb hx)
 ·obtain ⟨sl,e1⟩:=I.base.slot b o e n hb hx
  exact ⟨sl,(hs.2 b (yb b o e)).trans e1⟩
 ·obtain ⟨o',e1⟩:=I.base.there b o e hx
  exact ⟨o',(hs.2 b (yb b o e)).trans e1⟩
 ·have hnl:n<xs.length:=(XY.mp hx).1
  by_cases hlt:j<xs.length
  ·have ey:xs[j]?=some y:=by
    have:(xs++X.N)[j]?=some y:=e1
    rwa [Yd hlt] at this
   rw [Yd (by simp;nofun)] at e2
   by_cases hj:n=j
   ·subst hj
    rw [hx] at ey;cases ey
    rw [Y9,if_pos rfl,if_pos (by nofun)] at e2
    cases e2
    exact ⟨u,r,.inl ⟨NK,by simp⟩⟩
   ·rw [YD hj] at e2
    have hne:y≠x:=by
     rintro rfl
     obtain ⟨h1,yk⟩:=XY.mp hx
     obtain ⟨h2,yl⟩:=XY.mp ey
     exact hj ((Zt S.nd).mp (yk.trans yl.symm))
    obtain ⟨u',r',q⟩:=hl j y v' e1 (by rw [Yd (by nofun)];exact e2) e3
    refine ⟨u',r',?_⟩
    rcases q with ⟨k,e⟩ | ⟨k,c,e,z⟩
    ·exact .inl ⟨k,by simpa [hne] using e⟩
    ·exact .inr ⟨k,c,e,z.sameBut hs (I.A4 y c e)⟩
  ·obtain ⟨j,rfl⟩:∃ k,j=xs.length+k:=⟨j - xs.length,by nofun⟩
   have yl:(mask ks σ0)[j]?=some (some v'):=by
    rw [Yp (by simp;nofun)] at e2
    simpa [Ie] using e2
   obtain ⟨u',r',q⟩:=hl (xs.length+j) y v' e1 (by rw [Yp (by nofun)];simpa [Ie] using yl) e3
   refine ⟨u',r',?_⟩
   rcases q with ⟨k,e⟩ | ⟨k,c,e,z⟩
   ·obtain ⟨hks,_⟩:=jO yl
    have yk:X.N[j]?=some y:=by
     have:(xs++X.N)[xs.length+j]?=some y:=e1
     rw [Yp (by nofun)] at this
     simpa using this
    have hfr:scope.names.lookup y=some .free:=S.cap j (XY.mp hks).1 hks y (by rw [yk];rfl)
    rcases mG (cl:=cl) (C:=C) S hfr with z | z
    ·have k':(compEnvC scope cl C X.env).kindOf y=some .local:=k
     rw [k'] at z;cases z
    ·have k':(compEnvC scope cl C X.env).kindOf y=some .local:=k
     rw [k'] at z;cases z
   ·exact .inr ⟨k,c,e,z.sameBut hs (I.A4 y c e)⟩
 ·obtain ⟨w',z⟩:=I.cell y c e
  exact ⟨w',z.sameBut hs (I.A4 y c e)⟩
 ·obtain ⟨e,n,ne,nf,d⟩:=I.pin p hp
  exact ⟨(hs.2 p.1 ne).trans e,n,ne,nf,d⟩
 ·refine (I.hok b ob e).stay (λc w' hc q=>(hs.2 c ?_).trans q) (λ_ q=>q) λ_ _ q=>q
  intro ec
  rcases hc with hc | hc
  ·have:H1 C=some ob:=by rw [← (show c=C from ec),hc];exact e
   rw [hfree] at this;cases this
  ·have:H1 C=some (.own b):=by rw [← (show c=C from ec)];exact hc
   rw [hfree] at this;cases this
noncomputable def NL:V→Hp→List V→Prop:=λx _ vs=>vs=[x]
noncomputable def NN (K:XU) (n:Nat):V→Hp→List V→Prop:=λx H vs=>∃ a,x=.ref a∧kI K H a vs∧vs.length=n
noncomputable def Own (X:Cx) (scope:Scope) (xs:List Str) (ks:List Bool) (tg:Expr) (ow:V→Hp→List V→Prop):Prop:=
 ∀ (cl:List (Str×Addr)) (C:Addr) (pins:List (Addr×Obj)) (s0:XX) (H0:Hp) (fp:List Addr) (E:XR→XX→Prop) (Xc:Cx) (σ0:L2.St) (own:List (Option V)) (x:V) (vs:List V) (u:XR) (H1:Hp) (s1:XX) (gS:List (Addr×Obj)) (E':XR→XX→Prop) (Q:Unit→XX→Prop),
  Xc=lN X scope cl xs C pins s0 H0 fp E→own.length=xs.length→Inv Xc gS (own++mask ks σ0) H1 s1→RelV x u→ow x H1 vs →
  (vs.length=xs.length→∀ s',Inv Xc gS (vs.map some++mask ks σ0) H1 s'→Q () s')→Ye (model X.prog X.w) X.A (assign tg Xc.env u) Q E' s1
theorem BY (S:bw X.env.scope X.N scope [x] ks):Own X scope [x] ks (.Name x px) NL:=by
 intro cl C pins s0 H0 fp E Xc σ0 own v vs u H1 s1 gS E' Q e ho I r hv h
 cases hv
 rcases own with _ | ⟨a,_ | ⟨b,ro⟩⟩<;>try (cases ho;done)
 exact kX (own:=[a]) (n:=0) S e rfl rfl I r λs' I'=>h rfl s' I'
theorem BZ {pt:Pos} {k:Nat} (hc:X.calm=true) (S:bw X.env.scope X.N scope [x,y] ks):Own X scope [x,y] ks (.Tuple [.Name x px,.Name y py] k pt) (NN X.K 2):=by
 intro cl C pins s0 H0 fp E Xc σ0 own v vs u H1 s1 gS E' Q e ho I r hv h
 obtain ⟨a,rfl,sq,hl⟩:=hv
 cases r
 rcases own with _ | ⟨a1,_ | ⟨a2,_ | ⟨a3,ro⟩⟩⟩<;>try (cases ho;done)
 rcases vs with _ | ⟨v1,_ | ⟨v2,_ | ⟨v3,rw⟩⟩⟩<;>try (cases hl;done)
 have UA:kI Xc.K H1 a [v1,v2]:=by rw [e];exact sq
 obtain ⟨its,rv,ht,hz⟩:=I.tuple UA
 cases rv with
 | cons r1 rv=>
 cases rv with
 | cons r2 rv=>
 cases rv
 have hd:X.A.handled=none:=by
  have:=I.ok.hd (by rw [e];exact hc)
  rw [e] at this;exact this
 refine assign_Tuple_tuple hd ht rfl rfl λh' hx=>?_
 have I1:Inv Xc gS ([a1,a2]++mask ks σ0) H1 {s1 with heap:=h'}:=I.kept (t':=s1.toks) λb o e=>hx b o (Yg (X0 e)) e
 refine assignInOrder_cons (kX (own:=[a1,a2]) (n:=0) S e rfl rfl I1 r1 λs2 I2=>?_)
 refine assignInOrder_cons (kX (own:=[some v1,a2]) (n:=1) S e rfl rfl I2 r2 λs3 I3=>?_)
 exact assignInOrder_nil (h rfl _ I3)
end
end
theorem sf {prog:Yw} {w:YM} {A:Around} {R:Result→XX→Prop} {s:XX} {elt target iter:Expr} {ifs:List Expr} {scope:Scope} {pos:Pos} {it acc:XR} {env:Env} (I:Nat→XX→Prop)
  (turn:∀ (n:Nat) (s:XX),I n s→Ye (model prog w) A (pyNext it) (λr s₁=>match r with
   | none=>R (.ok .next) s₁
   | some v=>Ye (model prog w) A (letOwnedTupleGo target it v) (λ_ s₁'=>Ye (model prog w) A (assign target env v) (λ_ s₂=>Ye (model prog w) A (forIn ifs true λc r=>if r=true then do let ok ← isTrue c env (eval c env);pure (ForInStep.yield ok) else pure (ForInStep.yield r)) (λok s₃=>if ok=true then Ye (model prog w) A (eval elt env) (λx s₄=>Ye (model prog w) A (call (.builtin "list.append") [acc,x]) (λ_ s₅=>∃ m,m<n∧I m s₅) (notedBy (model prog w) A env λe s'=>R (.error e) s') s₄) (notedBy (model prog w) A env λe s'=>R (.error e) s') s₃ else ∃ m,m<n∧I m s₃) (notedBy (model prog w) A env λe s'=>R (.error e) s') s₂) (notedBy (model prog w) A env λe s'=>R (.error e) s') s₁') (notedBy (model prog w) A env λe s'=>R (.error e) s') s₁) (notedBy (model prog w) A env λe s'=>R (.error e) s') s) (n:Nat) (h:I n s) :
  codeAny (model prog w) A (.compLoop (.ListComp elt [⟨target,iter,ifs,0⟩] scope pos) 0 it acc env) R s:=by
 refine codeAny_loop rfl I (λn s hI=>?_) n h
 refine wpAny_noted ?_
 rw [compTurn_list]
 refine XS (acA (XS (YG (turn n s hI) (λr s₁ h₁=>?_) λ_ _ z=>z)))
 cases r with
 | none=>exact Yc h₁
 | some v=>
  refine XS (YG h₁ (λ_ s₂ h₂=>XS (YG h₂ (λ_ s₃ h₃=>XS (YG h₃ (λok s₄ h₄=>?_) λ_ _ z=>z)) λ_ _ z=>z)) λ_ _ z=>z)
  cases ok with
  | false=>exact Yc ⟨rfl,h₄⟩
  | true=>exact XS (XS (YG h₄ (λx s₅ h₅=>XS (YG h₅ (λ_ s₆ h₆=>Yc (Yc ⟨rfl,h₆⟩)) λ_ _ z=>z)) λ_ _ z=>z))
noncomputable def CT (X:Cx) (ifs:List Expr) (tt:TT):Prop:=∀ (pins:List (Addr×Obj)) (s:XX) (σ:L2.St) (H:Hp) (Q:Bool→Hp→Prop),Inv X pins σ H s→tt σ H Q →
 Ye (model X.prog X.w) X.A (forIn ifs true λc r=>if r=true then do let ok ← isTrue c X.env (eval c X.env);pure (ForInStep.yield ok) else pure (ForInStep.yield r)) (TP X pins σ Q) X.xe s
theorem KS:CT X [] (λ_ H Q=>Q true H):=λ_ _ _ H _ I h=>wpAny_tests_nil ⟨H,I,h⟩
theorem KU {c:Expr} {t:TT} (h:PT X c t):CT X [c] t:=λpins s σ H Q I q=>wpAny_tests_one (h pins s σ H Q I q)
noncomputable def uH (wi:TI) (ks:List Bool) (ow:V→Hp→List V→Prop) (tt:TT) (te:TE):TE:=λσ H Q=>wi σ H λJ H1=>∀ D,H1 D=none→∃ W:Nat→Nat→Hp→Prop,(∃ m,W 0 m (upd H1 D (.lst [])))∧∀ i m H,W i m H →
  (J.stop i H∧Q (.ref D) H)∨(J.go i H∧∀ x H',J.qE i H x H'→∃ vs,ow x H' vs∧tt (vs.map some++mask ks σ) H' λb H2=>if b=true then te (vs.map some++mask ks σ) H2 λv H3=>∃ ys,H3 D=some (.lst ys)∧ys.length<XT∧∃ m',m'<m∧W (i+1) m' (upd H3 D (.lst (ys++[v]))) else ∃ m',m'<m∧W (i+1) m' H2)
section
variable {X:Cx} {scope:Scope} {xs:List Str} {tg:Expr} {ow:V→Hp→List V→Prop} {ks:List Bool} {pins:List (Addr×Obj)} {σ:L2.St} {H:Hp} {s s4:XX} {fp:List Addr} {E:XR→XX→Prop} {h1:Heap} {elt iter:Expr} {ifs:List Expr} {px pos:Pos} {tt:TT} {te:TE} {wi:TI}
theorem m6 {h h' B B':Heap}:∀ {l:List Env},h.FunFrames B l→(∀ b∈frs l,∀ o,h.get? b=some o→(∀ vs,o.data≠.fields vs)→∃ o',h'.get? b=some o'∧o'.data=o.data)→(∀ b∈frs l,B'.get? b=none)→h'.FunFrames B' l
 | [],_,_,_=>trivial
 | env::r,⟨hk,⟨L,o,hf,_,ho,hd⟩,hr⟩,hm,hB=>by
  have sub:∀ b,b=L∨b∈frs r→b∈frs (env::r):=λb hb=>by
   unfold frs;rw [ZK,hf]
   rcases hb with z | z
   ·rw [z];exact ZO
   ·exact YA _ z
  obtain ⟨o',e1,e2⟩:=hm L (sub L (.inl rfl)) o ho hd
  exact ⟨hk,⟨L,o',hf,hB L (sub L (.inl rfl)),e1,by rw [e2];exact hd⟩,m6 hr (λb hb=>hm b (sub b (.inr hb))) λb hb=>hB b (sub b (.inr hb))⟩
theorem wW {D C e:Addr} {cls:XR} {c:XD} {gS:List (Addr×Obj)} {σ':L2.St} {H' HD:Hp} {s3 s':XX} {cl:List (Str×Addr)} {RE:XR→XX→Prop} (KW:fZ X EE) (hst:∃ gk gK L,X.stack=gk::gK∧X.env.frame=gk.frame∧gk.frame=some L)
  (I3:Inv X pins σ HD s3) (hC:C=s3.heap.objs.size) (f3:∀ b∈fp,kJ X pins HD b∧b<s3.heap.objs.size)
  (Q2:∀ s'':XX,(∃ m,s''.heap.Ns C m∧∀ h',ZM C s''.heap h'→∀ cenv:Env,cenv.locals=C→Ye (model X.prog X.w) X.A (passOn "comprehension.variables-let-go" (.ref e) cenv:Sem XR) (λ_ _=>False) X.xe {s'' with heap:=h'})→RE (.ref e) s'')
  (I':Inv (lN X scope cl xs C pins s3 HD fp E) gS σ' H' s') (fx:NH (lN X scope cl xs C pins s3 HD fp E) H' e cls s') (hc:yu X.mg c cls) (ee:EE c σ H') :
  notedBy (model X.prog X.w) X.A (compEnvC scope cl C X.env) RE (.ref e) s':=by
 obtain ⟨B,fb,hok,zM⟩:=fx
 obtain ⟨gk,gK,L,h1,h2,h3⟩:=hst
 show Ye _ X.A (noteFrame (.ref e) (compEnvC scope cl C X.env)) _ _ s'
 rw [wU (show (compEnvC scope cl C X.env).frame=gk.frame from h2)]
 have hfr:X.A.frames=some (gk::gK):=by rw [← h1];exact I3.ok.frames
 have UB:zJ B (gk::gK) e cls s'.heap:=by rw [← h1];exact fb
 refine yt hfr h3 UB λh5 a0 hH u5=>?_
 obtain ⟨k1,k2,k3,oe,vs,T,oT,ts,he,hcls,hd,hv1,ND,NF,hT,AV,UC⟩:=hH
 have SS:h5.FunFrames B X.stack:=by rw [h1];exact k3
 obtain ⟨m,hm,_⟩:=id I'.loc
 have SV:h5.Ns C m:=u5.ns hm
 refine Q2 _ ⟨m,SV,λh6 sb cenv _=>?_⟩
 obtain ⟨oC,WV,WW,UD,UE,_⟩:=id SV
 have HS:∀ {b:Addr} {o:Obj} {ws:Array XR},h5.get? b=some o→o.data=.fields ws→b≠C:=λ{b o ws} q d z=>by
  rw [z,UD] at q;cases q;rw [UE] at d;cases d
 have Q3:=(sb.2 e (HS he hd)).trans he
 have SW:=(sb.2 T (HS hT AV)).trans hT
 have SX:3<ts.size:=(ZR.mp UC).1
 unfold passOn setFlight
 refine XS (YI Q3 hd hv1 ?_)
 rw [if_neg (show ¬ ((Value.ref T==Value.none)=true) by simp)]
 have fin:X.xe (.ref e) {s' with heap:=h6.update T (Zi (·.setIfInBounds 3 (cenv.frame.elim .none λf=>rawInt f)))}:=by
  have NO:∀ b,b≠T→(h6.update T (Zi (·.setIfInBounds 3 (cenv.frame.elim .none λf=>rawInt f)))).get? b=h6.get? b:=λb hb=>Yt _ _ (Y6 hb)
  have pZ:∀ b,b≠T→b≠C→(h6.update T (Zi (·.setIfInBounds 3 (cenv.frame.elim .none λf=>rawInt f)))).get? b=h5.get? b:=λb hb hb2=>(NO b hb).trans (sb.2 b hb2)
  generalize UG:h6.update T (Zi (·.setIfInBounds 3 (cenv.frame.elim .none λf=>rawInt f)))=h7 at NO pZ
  have UH:h7.get? T=some (Zi (·.setIfInBounds 3 (cenv.frame.elim .none λf=>rawInt f)) oT):=by rw [← UG];exact YB _ SW (ZV (Y0 AV _))
  have UI:∀ b o,B.get? b=some o→b≠T:=λb o q z=>by rw [z,ND] at q;cases q
  have Po:∀ b o,(B.hide C).get? b=some o→h7.get? b=some o:=λb o q=>by
   have q':=ab2 q
   have nC:b≠C:=λz=>by rw [z,Heap.hide_self] at q;cases q
   rw [pZ b (UI b o q') nC]
   exact k1 b o q'
  have hide:∀ b o,b≠C→B.get? b=some o→(B.hide C).get? b=some o:=λb o z q=>(Heap.hide_ne B z).trans q
  have KY:∀ b o,s3.heap.get? b=some o→b≠C:=λb o q=>by rw [hC];exact Yg (X0 q)
  have NP:i8 X.prog X.w H' (B.hide C):=BV hok λb o n q=>hide b o (λz=>n (by rw [z];exact I'.free)) q
  have QY:∀ b,b∉frs X.stack→b∉X.fs:=λb hb z=>hb (by
   rcases I3.ok.stk with q | ⟨q,_⟩
   ·rw [q];exact z
   ·rw [q];unfold frs;rw [ZK];split
    ·exact z
    ·exact YA _ z)
  have slot:∀ b o,s3.heap.get? b=some o→b∈frs X.stack→∃ sl,h7.get? b=some {o with slots:=sl}:=λb o q hb=>by
   obtain ⟨_,o',q',hnf⟩:=I3.stack.mem hb
   rw [q] at q';cases q'
   obtain ⟨sl,e1⟩:=I'.base.slot b o q (I3.nO b hb) hb λz=>(I'.ok.EC b z) hb
   obtain ⟨MB,e2⟩:=u5 b _ e1 hnf
   refine ⟨MB,?_⟩
   rw [pZ b (λz=>by rw [z,hT] at e2;cases e2;exact hnf _ AV) (KY b o q)]
   exact e2
  have un:Un (frs X.stack) fp HD H' s3.heap h7:=⟨λb o q n hb hx=>Po b o (hide b o (KY b o q) (zM.keep b o q n hb hx)),λb o q n hb hx=>slot b o q hb,λb o q n hx=>I'.base.free b o q n hx,λb o q hx=>by
   by_cases hb:b∈frs X.stack
   ·obtain ⟨sl,z⟩:=slot b o q hb
    exact ⟨_,z⟩
   ·obtain ⟨o',z⟩:=zM.there b o q hb hx
    exact ⟨o',Po b o' (hide b o' (KY b o q) z)⟩,I'.base.tups,I'.base.i9,I'.base.jK⟩
  have I7:Inv X pins σ H' {s' with heap:=h7}:=I3.A5 (ch:=fp) I'.os un (NP.kept Po) I'.bare λb hb=>by
   obtain ⟨g0,g1,g2,g3,g4,g5⟩:=(f3 b hb).1
   exact ⟨g3,g1,g4,g5⟩
  have SY:∀ b o,X.s₀.heap.get? b=some o→b∉X.ex→b∉fp:=λb o q hx hb=>by
   obtain ⟨g0,g1,g2,g3,g4,g5⟩:=(f3 b hb).1
   rcases g3 with z | z
   ·exact hx z
   ·exact absurd (X7 (X0 q) z) (YY _)
  refine KW pins σ H' _ e cls c I7 ⟨B.hide C,⟨Po,?_,?_,.inr ⟨a0,_,oe,vs,T,_,_,?_,hcls,hd,hv1,?_,NF,UH,Y0 AV _,by simp [SX];rfl⟩⟩,NP,⟨λb o q n hb hx=>?_,λb o q hb hx=>?_,λp hp=>?_⟩⟩ hc ee
  ·cases q:(B.hide C).get? e with
   | none=>rfl
   | some o=>have:=ab2 q;rw [k2] at this;cases this
  ·refine m6 SS (λb hb o q hnf=>?_) λb hb=>?_
   ·refine ⟨o,?_,rfl⟩
    show h7.get? b=some o
    rw [pZ b (λz=>by rw [z,hT] at q;cases q;exact hnf _ AV) ?_]
    ·exact q
    ·obtain ⟨_,o',q',_⟩:=I3.stack.mem hb
     exact KY b o' q'
   ·cases q:(B.hide C).get? b with
    | none=>rfl
    | some o=>have:=ab2 q;rw [(SS.mem hb).1] at this;cases this
  ·exact (pZ e (Y6 NF) (HS he hd)).trans he
  ·cases q:(B.hide C).get? T with
   | none=>rfl
   | some o=>have:=ab2 q;rw [ND] at this;cases this
  ·have q3:=I3.base.keep b o q n (QY b hb) hx
   exact hide b o (KY b o q3) (zM.keep b o q3 (I3.base.free b o q n hx) hb (SY b o q hx))
  ·obtain ⟨o',q3⟩:=I3.base.there b o q hx
   obtain ⟨S6,z⟩:=zM.there b o' q3 hb (SY b o q hx)
   exact ⟨S6,hide b S6 (KY b o' q3) z⟩
  ·exact hide _ _ (KY _ _ (I3.pin p (ZC _ hp)).1) (zM.pins p (ZC _ hp))
 first
  | (refine XS (Yc ?_);refine XS (XS (YI Q3 hd hv1 ?_)))
  | refine XS (XS (YI Q3 hd hv1 ?_))
 rw [if_pos (show (Value.ref T != Value.none)=true by simp)]
 exact ZS SW AV SX (aco fin)
theorem oO {Q:VK} {J:It} {it:Addr} {tn:Nat→Heap→Prop} {RR:XR→Addr→Result→XX→Prop} (KW:fZ X EE) (hst:∃ gk gK L,X.stack=gk::gK∧X.env.frame=gk.frame∧gk.frame=some L) (S:bw X.env.scope X.N scope xs ks) (how:Own X scope xs ks tg ow) (hc:X.calm=true) (I:Inv X pins σ H s)
  (T:Turn X.prog X.w X.K tg J fp it tn) (st:tn 0 s.heap) (hf:∀ b∈fp,kJ X pins H b)
  (hb:∀ (cl:List (Str×Addr)) (C:Addr) (pins:List (Addr×Obj)) (s0:XX) (H0:Hp) (fp:List Addr) (E:XR→XX→Prop),fZ (lN X scope cl xs C pins s0 H0 fp E) (λc _ H'=>EE c σ H')→CT (lN X scope cl xs C pins s0 H0 fp E) ifs tt∧PE (lN X scope cl xs C pins s0 H0 fp E) elt te)
  (hw:∀ D,H D=none→∃ W:Nat→Nat→Hp→Prop,(∃ m,W 0 m (upd H D (.lst [])))∧∀ i m H,W i m H →
   (J.stop i H∧Q (.ref D) H)∨(J.go i H∧∀ x H',J.qE i H x H'→∃ vs,ow x H' vs∧tt (vs.map some++mask ks σ) H' λb H2=>if b=true then te (vs.map some++mask ks σ) H2 λv H3=>∃ ys,H3 D=some (.lst ys)∧ys.length<XT∧∃ m',m'<m∧W (i+1) m' (upd H3 D (.lst (ys++[v]))) else ∃ m',m'<m∧W (i+1) m' H2))
  (hRR:∀ (D C:Addr) (s':XX) (H':Hp) (m:Str→Option XR),Inv X pins σ H' s'→s'.heap.Ns C m→H' C=none→C≠X.env.locals→X.s₀.heap.objs.size≤C→(∀ x c,X.env.cells.lookup x=some c→c≠C)→(∀ p∈X.pn++pins,p.1≠C)→Q (.ref D) H'→RR (.ref D) C (.ok .next) s')
  (Q2:∀ (acc:XR) (C e:Addr) (s'':XX),(∃ m,s''.heap.Ns C m∧∀ h',ZM C s''.heap h'→∀ cenv:Env,cenv.locals=C→Ye (model X.prog X.w) X.A (passOn "comprehension.variables-let-go" (.ref e) cenv:Sem XR) (λ_ _=>False) X.xe {s'' with heap:=h'})→RR acc C (.error (.ref e)) s'') :
  Ye (model X.prog X.w) X.A (newList []) (λacc s₃=>Ye (model X.prog X.w) X.A (newFunctionEnv scope X.env.globals (gq X.env scope.names []) [] X.env.qual none .none (some X.env)) (λcenv s₄=>
   codeAny (model X.prog X.w) X.A (.compStart (.ListComp elt [⟨tg,iter,ifs,0⟩] scope pos) 0 (.ref it) acc {cenv with scope:=relabel scope X.env}) (RR acc cenv.locals) s₄) E s₃) E s:=by
 refine YC (acp S.oK (by intro y hy;simp at hy) (λh₁ NQ NR=>?_) S.kind)
 have I3:Inv X pins σ (upd H s.heap.objs.size (.lst [])) {s with heap:=s.heap.push {cls:=.type "list",dict:=none,data:=.seq ([]:List XR).toArray}}:=
  I.laid (t':=s.toks) (λb o e=>XW _ e) (X3 _) ⟨Z4 _,[],0,.nil,X6 _ rfl⟩
 have hfree:=I.hok.fresh (X3 s.heap.objs.size)
 generalize S7:({s with heap:=s.heap.push {cls:=.type "list",dict:=none,data:=.seq ([]:List XR).toArray}}:XX)=s3 at I3 NQ NR ⊢
 have hsz:s3.heap.objs.size=s.heap.objs.size+1:=by rw [← S7];exact Zg ..
 have NS:∀ b o,s.heap.get? b=some o→s3.heap.get? b=some o:=λb o e=>by rw [← S7];exact XW _ e
 have NT:∀ b∈fp,b<s.heap.objs.size:=λb hb'=>by
  obtain ⟨o,e,_⟩:=T.obj 0 _ st b hb'
  exact X0 e
 have f3:∀ b∈fp,kJ X pins (upd H s.heap.objs.size (.lst [])) b∧b<s3.heap.objs.size:=λb hb'=>
  ⟨⟨by rw [aC (Yg (NT b hb'))];exact (hf b hb').1,(hf b hb').2⟩,by rw [hsz];exact ZH (NT b hb')⟩
 have B0:∀ b o,s3.heap.get? b=some o→h₁.get? b=some o:=λb o e=>NR.extBut b o (Yg (X0 e)) (XW _ e)
 obtain ⟨W,⟨m0,w0⟩,turn⟩:=hw s.heap.objs.size hfree
 generalize hX:lN X scope (gq X.env scope.names []) xs s3.heap.objs.size pins s3 (upd H s.heap.objs.size (.lst [])) fp (notedBy (model X.prog X.w) X.A (compEnvC scope (gq X.env scope.names []) s3.heap.objs.size X.env) λe s'=>RR (.ref s.heap.objs.size) s3.heap.objs.size (.error e) s')=Xc
 have I4:Inv Xc [] (Yi xs.length none++mask ks σ) (upd H s.heap.objs.size (.lst [])) {s3 with heap:=h₁,toks:=s3.toks+([]:List (Str×XR)).length}:=by
  rw [← hX]
  exact wV S I3 f3 (by simpa using NQ) B0 _
 have Em:CT Xc ifs tt∧PE Xc elt te:=by
  rw [← hX]
  exact hb _ _ _ _ _ _ _ λgS σ' H' s' e cls c I' fx hc ee=>wW (RE:=λe s'=>RR (.ref s.heap.objs.size) s3.heap.objs.size (.error e) s') (D:=s.heap.objs.size) KW hst I3 rfl f3 (λs''=>Q2 _ _ e s'') I' fx hc ee
 have uI:Xc.prog=X.prog:=by rw [← hX];rfl
 have ew:Xc.w=X.w:=by rw [← hX];rfl
 have eK:Xc.K=X.K:=by rw [← hX];rfl
 have eA:Xc.A=X.A:=by rw [← hX];rfl
 have Ig:Xc.calm=true:=by rw [← hX];exact hc
 have Q4:Xc.xe=notedBy (model X.prog X.w) X.A Xc.env λe s'=>RR (.ref s.heap.objs.size) s3.heap.objs.size (.error e) s':=by rw [← hX];rfl
 have KZ:Xc.env=compEnvC scope (gq X.env scope.names []) s3.heap.objs.size X.env:=by rw [← hX];rfl
 have UJ:Xc.stack=X.stack:=by rw [← hX];rfl
 have Q5:∀ {H':Hp},(∀ b∈fp,H' b=none)→∀ b∈fp,kJ Xc [] H' b:=λ{H'} hn b hb'=>by
  obtain ⟨g0,g1,g2,g3,g4,g5⟩:=(f3 b hb').1
  rw [← hX]
  refine ⟨hn b hb',Yg (f3 b hb').2,λz=>(Yn.mp (I3.jL b z)).elim g1 g2,.inl hb',λy c e=>g4 y c (oH scope.names [] (λy c e=>by simp at e) y c e),λp hp=>g5 p ?_⟩
  have:p∈(X.pn++pins)++[]:=hp
  simpa using this
 have fin:∀ (s':XX) (H':Hp) (a0:List (Option V)),Inv Xc [] (a0++mask ks σ) H' s'→Q (.ref s.heap.objs.size) H'→RR (.ref s.heap.objs.size) s3.heap.objs.size (.ok .next) s':=λs' H' a0 I' q=>by
  have hloc:=I'.loc
  obtain ⟨m,hm,_⟩:=hloc
  have hC:H' s3.heap.objs.size=none:=by have:=I'.free;rw [KZ] at this;exact this
  have hU:Un (frs X.stack) fp (upd H s.heap.objs.size (.lst [])) H' s3.heap s'.heap:=by
   have:=I'.base
   rw [← hX] at this
   exact this
  have hos:s'.os=s3.os∧0<s'.toks:=by have:=I'.os;rw [← hX] at this;exact this
  have Q6:i8 X.prog X.w H' s'.heap:=by have:=I'.hok;rw [← hX] at this;exact this
  have I5:Inv X pins σ H' s':=I3.A5 hos hU Q6 I'.bare λb hb'=>by
   obtain ⟨g0,g1,g2,g3,g4,g5⟩:=(f3 b hb').1
   exact ⟨g3,g1,g4,g5⟩
  refine hRR _ _ s' H' m I5 (by rw [KZ] at hm;exact hm) hC (abm I3.lt) (YV I3.sz (X3 _)) (λy c e z=>?_) (λp hp z=>?_) q
  ·obtain ⟨v,hv⟩:=I3.cell y c e
   exact absurd hv.lt (by rw [z];exact YY _)
  ·exact absurd (X0 (I3.pin p hp).1) (by rw [z];exact YY _)
 have loop:codeAny (model X.prog X.w) X.A (.compLoop (.ListComp elt [⟨tg,iter,ifs,0⟩] scope pos) 0 (.ref it) (.ref s.heap.objs.size) Xc.env) (RR (.ref s.heap.objs.size) s3.heap.objs.size)
   {s3 with heap:=h₁,toks:=s3.toks+([]:List (Str×XR)).length}:=by
  refine sf (λn s'=>∃ i a0 H',a0.length=xs.length∧Inv Xc [] (a0++mask ks σ) H' s'∧tn i s'.heap∧(∀ b∈fp,H' b=none)∧W i n H') ?_ m0 ⟨0,Yi xs.length none,_,by simp,I4,T.keep 0 _ _ st λb hb' o e=>B0 b o (NS b o e),λb hb'=>(f3 b hb').1.1,w0⟩
  rintro n s5 ⟨i,a0,H5,UK,I5,Mf,Pc,w5⟩
  rcases turn i n H5 w5 with ⟨stop,q⟩ | ⟨go,step⟩
  ·have hd:=T.done Xc uI ew eK Ig i [] s5 _ H5 (λ_ _=>False) I5 (Q5 Pc) Mf stop
   rw [eA] at hd
   refine YG hd (λr s6 hr=>?_) (λ_ _ z=>YK z)
   obtain ⟨rfl,I6⟩:=hr
   exact fin s6 H5 a0 I6 q
  ·have hd:=T.item Xc uI ew eK Ig i [] s5 _ H5 (λ_ _=>False) I5 (Q5 Pc) Mf go
   rw [eA] at hd
   refine YG hd (λr s6 hr=>?_) (λ_ _ z=>YK z)
   obtain ⟨u,rfl,h6⟩:=hr
   refine YG h6 (λ_ s7 hq=>?_) (λ_ _ z=>YK z)
   obtain ⟨v,H7,I7,r7,y7,Q7,UL⟩:=hq
   obtain ⟨vs,hvs,step⟩:=step v H7 y7
   have UM:Inv Xc (mj fp s7.heap) (a0++mask ks σ) H7 s7:=by
    have:=Inv.pinned (pins:=[]) I7 (Q5 UL) (T.obj _ _ Q7)
    simpa using this
   have back:∀ {σ':L2.St} {H':Hp} {s':XX},Inv Xc (mj fp s7.heap) σ' H' s'→Inv Xc [] σ' H' s'∧tn (i+1) s'.heap∧∀ b∈fp,H' b=none:=λ{σ' H' s'} I'=>by
    refine ⟨I'.rQ λp hp=>absurd hp (by simp),T.keep _ _ _ Q7 λb hb' o e=>(I'.pin (b,o) (Y5 _ (jb hb' e))).1,λb hb'=>?_⟩
    obtain ⟨o,e,d⟩:=T.obj _ _ Q7 b hb'
    exact (I'.pin (b,o) (Y5 _ (jb hb' e))).2.1
   refine how _ _ _ _ _ _ _ Xc σ a0 v vs u H7 s7 _ _ _ hX.symm UK UM r7 hvs λS8 s8 UN=>?_
   have ht:=Em.1 _ s8 _ H7 _ UN step
   rw [uI,ew,eA,Q4] at ht
   refine YG ht (λUO s9 h9=>?_) (λ_ _ z=>z)
   obtain ⟨H9,I9,q9⟩:=h9
   cases UO with
   | false=>
    rw [if_neg YH] at q9 ⊢
    obtain ⟨m',hm',w'⟩:=q9
    obtain ⟨UP,UQ,UR⟩:=back I9
    exact ⟨m',hm',i+1,vs.map some,H9,by simpa using S8,UP,UQ,UR,w'⟩
   | true=>
    rw [if_pos rfl] at q9 ⊢
    have he:=Em.2 _ s9 _ H9 _ I9 q9
    rw [uI,ew,eA,Q4] at he
    refine YG he (λy US Q8=>?_) (λ_ _ z=>z)
    obtain ⟨yv,UT,UU,UW,ys,hD,hlen,m',hm',w'⟩:=Q8
    have ha:=qK (X:=Xc) _ US _ UT (.ref s.heap.objs.size) [yv] (.ref s.heap.objs.size) [y] (λ_ H'=>∃ m',m'<n∧W (i+1) m' H') UU rfl (.cons UW .nil) ⟨_,ys,yv,rfl,rfl,hD,hlen,m',hm',w'⟩
    rw [uI,ew,eA,Q4] at ha
    refine YG ha (λ_ WX h11=>?_) (λ_ _ z=>z)
    obtain ⟨_,UX,UY,_,UZ,Q9,w''⟩:=h11
    obtain ⟨Ra,Rb,Rc⟩:=back UY
    exact ⟨UZ,Q9,i+1,vs.map some,UX,by simpa using S8,Ra,Rb,Rc,w''⟩
 rw [KZ] at loop
 exact codeAny_compStart_list loop (T.self X.A 0 _ _ _ (T.keep 0 _ _ st λb hb' o e=>B0 b o (NS b o e)) loop)
theorem sj {tt:L2.St→TT} {te:L2.St→TE} (KW:fZ X EE) (hst:∃ gk gK L,X.stack=gk::gK∧X.env.frame=gk.frame∧gk.frame=some L) (S:bw X.env.scope X.N scope xs ks) (how:Own X scope xs ks tg ow) (hc:X.calm=true) (hi:PI X tg iter wi)
  (hb:∀ (σ:L2.St) (cl:List (Str×Addr)) (C:Addr) (pins:List (Addr×Obj)) (s0:XX) (H0:Hp) (fp:List Addr) (E:XR→XX→Prop),fZ (lN X scope cl xs C pins s0 H0 fp E) (λc _ H'=>EE c σ H')→CT (lN X scope cl xs C pins s0 H0 fp E) ifs (tt σ)∧PE (lN X scope cl xs C pins s0 H0 fp E) elt (te σ))
  (hs:∀ x,foldedSetIterable iter X.env x=pure x:=by intro _;rfl):PE X (.ListComp elt [⟨tg,iter,ifs,0⟩] scope pos) (λσ=>uH wi ks ow (tt σ) (te σ) σ):=by
 intro pins s σ H Q I h
 rw [eval_ListComp]
 refine abI (use:=none) rfl hs (kE λy hy hfr=>I.ok.has y.1 (S.free y hy hfr)) S.kind S.names (cO (hi pins s σ H _ I h) λv s1 h1=>cO h1 λitv s2 h2=>?_)
 obtain ⟨it,fp,tn,J,H2,rfl,I2,T,st2,f2,q⟩:=h2
 refine oO (RR:=λacc C=>compPost (model X.prog X.w) X.A X.xe none (EP X pins σ Q) acc C) KW hst S how hc I2 T st2 f2 (hb σ) q ?_ (λ_ _ _ _ z=>z)
 intro D C s' H' m I' hn hC h1 h2 h3 h4 q'
 refine ⟨m,hn,λh' sb=>?_⟩
 exact ⟨.ref D,H',I'.turned (t':=s'.toks) (λb o hb e=>(sb.2 b hb).trans e) hC h1 (.inr h2) h3 h4,rfl,q'⟩
theorem yx {tt:L2.St→TT} {te:L2.St→TE} (KW:fZ X EE) (hst:∃ gk gK L,X.stack=gk::gK∧X.env.frame=gk.frame∧gk.frame=some L) {y:Str} {i:Nat} {py spos:Pos} (S:bw X.env.scope X.N scope xs ks) (how:Own X scope xs ks tg ow) (hc:X.calm=true) (hN:X.N.Nodup) (hi:PI X tg iter wi) (hy:X.N[i]?=some y) (hl:X.env.scope.names.lookup y=some .local)
  (hsw:swapsWith (.ListComp elt [⟨tg,iter,ifs,0⟩] scope pos) (some (.Name y py)) spos.line X.env=pure true)
  (hb:∀ (σ:L2.St) (cl:List (Str×Addr)) (C:Addr) (pins:List (Addr×Obj)) (s0:XX) (H0:Hp) (fp:List Addr) (E:XR→XX→Prop),fZ (lN X scope cl xs C pins s0 H0 fp E) (λc _ H'=>EE c σ H')→CT (lN X scope cl xs C pins s0 H0 fp E) ifs (tt σ)∧PE (lN X scope cl xs C pins s0 H0 fp E) elt (te σ))
  (hs:∀ x,foldedSetIterable iter X.env x=pure x:=by intro _;rfl):PS X (.Assign [.Name y py] (.ListComp elt [⟨tg,iter,ifs,0⟩] scope pos) spos) (EK (λσ=>uH wi ks ow (tt σ) (te σ) σ) (uc i)):=by
 intro pins s σ H Dd I h
 rw [exec_Assign_Name_used _ _ _ _ hsw]
 refine XS (acA (XS ?_))
 show Ye _ X.A (do let _ ← comprehension (.ListComp elt [⟨tg,iter,ifs,0⟩] scope pos) scope X.env _ (newList []) false (eval iter X.env) (some (assign (.Name y py) X.env))) _ _ s
 refine XS (YG (abI (use:=some (assign (.Name y py) X.env)) (Q:=λ_ s'=>SP X pins Dd .next s') rfl hs (kE λy hy hfr=>I.ok.has y.1 (S.free y hy hfr)) S.kind S.names
  (cO (hi pins s σ H _ I h) λv s1 h1=>cO h1 λitv s2 h2=>?_)) (λ_ s' hq=>Yc (Yc hq)) λ_ _ e=>e)
 obtain ⟨it,fp,tn,J,H2,rfl,I2,T,st2,f2,q⟩:=h2
 refine oO (Q:=λv H'=>Dd.nx (σ.set i (some v)) H') (RR:=λacc C=>compPost (model X.prog X.w) X.A X.xe (some (assign (.Name y py) X.env)) (λ_ s'=>SP X pins Dd .next s') acc C) KW hst S how hc I2 T st2 f2 (hb σ) q ?_ (λ_ _ _ _ z=>z)
 intro D C s' H' m I' hn hC h1 h2 h3 h4 q'
 show Ye _ X.A (assign (.Name y py) X.env (.ref D)) _ _ s'
 refine abA (qC I' hN hy (.inl hl) (v:=.ref D) (u:=.ref D) rfl (λs'' U0 sb=>?_) (.inr hl))
 obtain ⟨a,sb,ha⟩:=sb
 have hne:C≠a:=by
  rcases ha with e | e
  ·rw [e];exact h1
  ·exact λz=>h3 y a e z.symm
 refine ⟨m,hn.sameBut sb hne,λh'' sb'=>?_⟩
 exact ⟨_,H',U0.turned (t':=s''.toks) (λb o hb e=>(sb'.2 b hb).trans e) hC h1 (.inr h2) h3 h4,q'⟩
end
noncomputable def oN:D→Option (List D):=λd=>some [d]
noncomputable def oT (n:Nat):D→Option (List D)
 | .tup xs=>if xs.length=n then some xs else none
 | _=>none
noncomputable def jm (K:XU) (mg:Str→Option XR) (ow:V→Hp→List V→Prop) (gO:D→Option (List D)):Prop:=
 ∀ (ρ:List Addr) (H:Hp) (d:D) (v:V) (os:List D),Rep K mg ρ H d v→gO d=some os→∃ vs,ow v H vs∧aq K mg ρ H os vs
theorem zN:jm K mg NL oN:=λρ H d v os r e=>by
 cases e
 exact ⟨[v],rfl,.cons r .nil⟩
theorem B3:jm K mg (NN K n) (oT n):=λρ H d v os r e=>by
 cases d<;>try (cases e;done)
 rename_i xs
 dsimp only [oT] at e
 by_cases h:xs.length=n
 ·rw [if_pos h] at e;cases e
  unfold Rep at r
  obtain ⟨a,vs,rfl,sq,rs⟩:=r
  exact ⟨vs,⟨a,rfl,sq,by rw [← rs.length];exact h⟩,rs⟩
 ·rw [if_neg h] at e;cases e
noncomputable def sr (K:XU) (mg:Str→Option XR) (H H':Hp) (ρ:List Addr):Prop:=bX K H H' ρ ρ∧∀ G,fy K mg H ρ G→fy K mg H' ρ G
theorem sr.refl:sr K mg H H ρ:=⟨.refl,λ_ h=>h⟩
theorem sr.new {p:Addr} {o:HO} (hp:H p=none):sr K mg H (upd H p o) ρ:=⟨cN hp ρ,λ_ h=>h.new hp⟩
noncomputable def dJ (gO:D→Option (List D)) (ks:List Bool) (tt:DS→M Bool) (te:DS→M D) (n:Nat) (d:D) (τ:DS) (G:DH):Out Unit:=match gO d with
 | none=>.stuck
 | some os=>match tt (os.map some++mask ks τ) G with
 | .ok true G1=>match te (os.map some++mask ks τ) G1 with
  | .ok v G2=>match G2[n]? with
   | some (.lst ys)=>if ys.length<XT then .ok () (G2.set n (.lst (ys++[v]))) else .stuck
   | _=>.stuck
  | .bB c G2=>.bB c G2
  | .stuck=>.stuck
 | .ok false G1=>.ok () G1
 | .bB c G1=>.bB c G1
 | .stuck=>.stuck
noncomputable def cM (gO:D→Option (List D)) (ks:List Bool) (tt:DS→M Bool) (te:DS→M D) (n:Nat):List D→DS→DH→Out D
 | [],_,G=>.ok (.obj n) G
 | d::r,τ,G=>match dJ gO ks tt te n d τ G with
  | .ok _ G'=>cM gO ks tt te n r τ G'
  | .bB c G'=>.bB c G'
  | .stuck=>.stuck
noncomputable def m8 (gO:D→Option (List D)) (ks:List Bool) (tt:DS→M Bool) (te:DS→M D) (n src:Nat):Nat→Nat→DS→DH→Out D
 | 0,_,_,_=>.stuck
 | f+1,k,τ,G=>match G[src]? with
  | some (.lst xs)=>match xs[k]? with
   | none=>.ok (.obj n) G
   | some d=>match dJ gO ks tt te n d τ G with
    | .ok _ G'=>m8 gO ks tt te n src f (k+1) τ G'
    | .bB c G'=>.bB c G'
    | .stuck=>.stuck
  | _=>.stuck
noncomputable def jD (gO:D→Option (List D)) (ks:List Bool) (m:DS→M D) (tt:DS→M Bool) (te:DS→M D):DS→M D:=λτ=>(m τ).bind λd G=>match d with
 | .obj k=>match G[k]? with
  | some (.lst xs)=>m8 gO ks tt te G.length k (xs.length+1) 0 τ (G++[.lst []])
  | _=>.stuck
 | .tup xs=>cM gO ks tt te G.length xs τ (G++[.lst []])
 | .con xs=>cM gO ks tt te G.length xs τ (G++[.lst []])
 | .str z=>cM gO ks tt te G.length (z.cps.toList.map λc=>.str ⟨#[c]⟩) τ (G++[.lst []])
 | _=>.stuck
noncomputable def dh (zj:List D→Option (List D)) (gO:D→Option (List D)) (ks:List Bool) (m:DS→M (List D)) (tt:DS→M Bool) (te:DS→M D):DS→M D:=λτ=>(m τ).bind λds G=>match zj ds with
 | some xs=>cM gO ks tt te G.length xs τ (G++[.lst []])
 | none=>.stuck
section
variable {X:Cx} {EE:bO} {gO:D→Option (List D)} {ow:V→Hp→List V→Prop} {xs:List Str} {tg:Expr} {ks:List Bool} {tt:DS→M Bool} {te:DS→M D}
theorem zO (h:ou K mg H ρ σ τ) (r:aq K mg ρ H os vs):ou K mg H ρ (vs.map some++mask ks σ) (os.map some++mask ks τ):=by
 have hl:=r.length
 refine ⟨by simp [iJ,h.1,hl],λi e he=>?_⟩
 by_cases hi:i<os.length
 ·rw [Yd (by simpa using hi),Yq] at he
  cases q:os[i]? with
  | none=>rw [q] at he;cases he
  | some d=>
   rw [q] at he;cases he
   obtain ⟨v,e1,r1⟩:=r.get q
   exact ⟨v,by rw [Yd (by simp;nofun),Yq,e1];rfl,r1⟩
 ·rw [Yp (by simp;nofun)] at he
  obtain ⟨h1,h2⟩:=jO he
  obtain ⟨w,e1,r1⟩:=h.2 _ e h2
  refine ⟨w,?_,r1⟩
  rw [Yp (by simp;nofun)]
  have:=yw h1 e1
  simpa [hl] using this
noncomputable def m9 (EE:bO) (σ:L2.St):bO:=λc _ H'=>EE c σ H'
theorem mH (hO:jm X.K X.mg ow gO) {W:Hp→Prop} {n:Nat} {p:Addr} {σ:L2.St} {H:Hp} {τ:DS} {ρ:List Addr} {G:DH} {d:D} {v:V} (ab:Ab X.K X.mg σ H τ ρ G) (r:Rep X.K X.mg ρ H d v) (hn:ρ[n]?=some p)
  (hW:match dJ gO ks tt te n d τ G with
   | .stuck=>False
   | .ok _ G'=>∀ H' ρ',bX X.K H H' ρ ρ'→Ab X.K X.mg σ H' τ ρ' G'→W H'
   | .bB c G'=>∀ H' ρ',bX X.K H H' ρ ρ'→Ab X.K X.mg σ H' τ ρ' G'→EE c σ H') :
  ∃ vs,ow v H vs∧liftT X.K X.mg (m9 EE σ) tt (vs.map some++mask ks σ) H λb H2=>if b=true then bh X.K X.mg (m9 EE σ) te (vs.map some++mask ks σ) H2 λu H3=>∃ ys,H3 p=some (.lst ys)∧ys.length<XT∧W (upd H3 p (.lst (ys++[u]))) else W H2:=by
 unfold dJ at hW
 cases qo:gO d with
 | none=>rw [qo] at hW;exact hW.elim
 | some os=>
 rw [qo] at hW
 dsimp only at hW
 obtain ⟨us,oj,U1⟩:=hO ρ H d v os r qo
 refine ⟨us,oj,?_⟩
 refine ⟨_,ρ,G,⟨zO ab.st U1,ab.hp⟩,?_⟩
 cases q:tt (os.map some++mask ks τ) G with
 | stuck=>rw [q] at hW;exact hW
 | bB c G1=>rw [q] at hW;exact λH' ρ' f bq=>hW H' ρ' f ⟨ab.st.mono f,bq.hp⟩
 | ok b G1=>
  rw [q] at hW
  intro H1 ρ1 f1 fW
  cases b with
  | false=>
   rw [if_neg YH]
   exact hW H1 ρ1 f1 ⟨ab.st.mono f1,fW.hp⟩
  | true=>
   rw [if_pos rfl]
   dsimp only at hW
   refine ⟨_,ρ1,G1,fW,?_⟩
   cases q2:te (os.map some++mask ks τ) G1 with
   | stuck=>rw [q2] at hW;exact hW
   | bB c G2=>rw [q2] at hW;exact λH' ρ' f bq=>hW H' ρ' (f1.trans f) ⟨ab.st.mono (f1.trans f),bq.hp⟩
   | ok u G2=>
    rw [q2] at hW
    dsimp only at hW
    intro w H2 ρ2 f2 bG r2
    cases q3:G2[n]? with
    | none=>rw [q3] at hW;exact hW.elim
    | some o=>
     cases o with
     | lst ys=>
      rw [q3] at hW
      dsimp only at hW
      by_cases hl:ys.length<XT
      ·rw [if_pos hl] at hW
       dsimp only at hW
       obtain ⟨p',vs,e1,e2,rs⟩:=bG.hp.lst q3
       have Pp:=f1.trans f2
       rw [Pp.get hn] at e1;cases e1
       refine ⟨vs,e2,by rw [← rs.length];exact hl,?_⟩
       have f3:bX X.K H2 (upd H2 p (.lst (vs++[w]))) ρ2 ρ2:=nQ e2 ρ2
       exact hW _ ρ2 (Pp.trans f3) ⟨ab.st.mono (Pp.trans f3),bG.hp.put (ds:=ys) (Pp.get hn) e2 (rs.append (.cons r2 .nil))⟩
      ·rw [if_neg hl] at hW;exact hW.elim
     | _=>first | (rw [q] at ok;exact ok.elim) | (rw [q] at aH;exact aH.elim) | (rw [q3] at hW;exact hW.elim) | (rw [q] at e;cases e;done) | (rw [g] at ok;exact ok.elim) | (rw [g] at q;cases q;done) | (rw [g] at h;cases h;done) | exact ok.elim
theorem jn (hO:jm X.K X.mg ow gO) {Q:VK} {J:It} {H0:Hp} {σ:L2.St} {ρ0:List Addr} {G0:DH} {τ:DS} (ds:List D)
  (go:∀ i H ρ,i<ds.length→bX X.K H0 H ρ0 ρ→J.go i H) (stop:∀ i H ρ,ds.length≤i→bX X.K H0 H ρ0 ρ→J.stop i H)
  (qE:∀ i d H ρ x H',ds[i]?=some d→bX X.K H0 H ρ0 ρ→J.qE i H x H'→sr X.K X.mg H H' ρ∧Rep X.K X.mg ρ H' d x)
  (ab:Ab X.K X.mg σ H0 τ ρ0 G0) (ok:iI X.K X.mg EE H0 σ τ ρ0 (cM gO ks tt te G0.length ds τ (G0++[.lst []])) Q) :
  ∀ D,H0 D=none→∃ W:Nat→Nat→Hp→Prop,(∃ m,W 0 m (upd H0 D (.lst [])))∧∀ i m H,W i m H →
   (J.stop i H∧Q (.ref D) H)∨(J.go i H∧∀ x H',J.qE i H x H'→∃ vs,ow x H' vs∧liftT X.K X.mg (m9 EE σ) tt (vs.map some++mask ks σ) H' λb H2=>if b=true then bh X.K X.mg (m9 EE σ) te (vs.map some++mask ks σ) H2 λv H3=>∃ ys,H3 D=some (.lst ys)∧ys.length<XT∧∃ m',m'<m∧W (i+1) m' (upd H3 D (.lst (ys++[v]))) else ∃ m',m'<m∧W (i+1) m' H2):=by
 intro D hD
 have f0:bX X.K H0 (upd H0 D (.lst [])) ρ0 (ρ0++[D]):=(cN hD ρ0).trans (eB ρ0 D)
 have FU:Ab X.K X.mg σ (upd H0 D (.lst [])) τ (ρ0++[D]) (G0++[.lst []]):=ab.fut f0 (ab.hp.more hD .nil)
 have hn0:(ρ0++[D])[G0.length]?=some D:=by rw [← ab.hp.hl,aE]
 refine ⟨λi m H=>i≤ds.length∧m=ds.length - i∧∃ ρ G,Ab X.K X.mg σ H τ ρ G∧bX X.K H0 H ρ0 ρ∧ρ[G0.length]?=some D∧iI X.K X.mg EE H σ τ ρ (cM gO ks tt te G0.length (ds.drop i) τ G) Q,
  ⟨ds.length,Z4 _,rfl,ρ0++[D],_,FU,f0,hn0,by simpa using ok.fut f0⟩,?_⟩
 rintro i m H ⟨hi,rfl,ρ,G,ab,f,hn,ok⟩
 by_cases hlt:i<ds.length
 ·refine .inr ⟨go i H ρ hlt f,λx H' y=>?_⟩
  obtain ⟨⟨fN,hN⟩,rx⟩:=qE i ds[i] H ρ x H' (XZ hlt) f y
  replace ok:=iI.fut fN ok
  replace ab:Ab X.K X.mg σ H' τ ρ G:=ab.fut fN (hN _ ab.hp)
  replace f:=f.trans fN
  rw [ZX hlt] at ok
  unfold cM at ok
  refine mH hO (W:=λH3=>∃ m',m'<ds.length - i∧i+1≤ds.length∧m'=ds.length - (i+1)∧∃ ρ G,Ab X.K X.mg σ H3 τ ρ G∧bX X.K H0 H3 ρ0 ρ∧ρ[G0.length]?=some D∧iI X.K X.mg EE H3 σ τ ρ (cM gO ks tt te G0.length (ds.drop (i+1)) τ G) Q)
    ab rx hn ?_
  cases e:dJ gO ks tt te G0.length ds[i] τ G with
  | stuck=>rw [e] at ok;exact ok
  | bB c G'=>rw [e] at ok;exact ok
  | ok _ G'=>
   rw [e] at ok
   exact λH3 ρ3 f3 oz=>⟨ds.length - (i+1),by nofun,hlt,rfl,ρ3,G',oz,f.trans f3,f3.get hn,ok.fut f3⟩
 ·have e:i=ds.length:=by nofun
  subst e
  refine .inl ⟨stop _ H ρ (X3 _) f,?_⟩
  rw [aap (X3 _)] at ok
  exact ok _ H ρ .refl ab (by unfold Rep;exact ⟨D,rfl,hn⟩)
theorem B4 (hO:jm X.K X.mg ow gO) {Q:VK} {H0:Hp} {σ:L2.St} {ρ0:List Addr} {G0:DH} {τ:DS} {k fuel:Nat} {p:Addr} (hk:ρ0[k]?=some p)
  (ab:Ab X.K X.mg σ H0 τ ρ0 G0) (ok:iI X.K X.mg EE H0 σ τ ρ0 (m8 gO ks tt te G0.length k fuel 0 τ (G0++[.lst []])) Q) :
  ∀ D,H0 D=none→∃ W:Nat→Nat→Hp→Prop,(∃ m,W 0 m (upd H0 D (.lst [])))∧∀ i m H,W i m H →
   ((Eo X.K p).stop i H∧Q (.ref D) H)∨((Eo X.K p).go i H∧∀ x H',(Eo X.K p).qE i H x H'→∃ vs,ow x H' vs∧liftT X.K X.mg (m9 EE σ) tt (vs.map some++mask ks σ) H' λb H2=>if b=true then bh X.K X.mg (m9 EE σ) te (vs.map some++mask ks σ) H2 λv H3=>∃ ys,H3 D=some (.lst ys)∧ys.length<XT∧∃ m',m'<m∧W (i+1) m' (upd H3 D (.lst (ys++[v]))) else ∃ m',m'<m∧W (i+1) m' H2):=by
 intro D hD
 have f0:bX X.K H0 (upd H0 D (.lst [])) ρ0 (ρ0++[D]):=(cN hD ρ0).trans (eB ρ0 D)
 have FU:Ab X.K X.mg σ (upd H0 D (.lst [])) τ (ρ0++[D]) (G0++[.lst []]):=ab.fut f0 (ab.hp.more hD .nil)
 have hn0:(ρ0++[D])[G0.length]?=some D:=by rw [← ab.hp.hl,aE]
 refine ⟨λi m H=>∃ ρ G,Ab X.K X.mg σ H τ ρ G∧bX X.K H0 H ρ0 ρ∧ρ[G0.length]?=some D∧iI X.K X.mg EE H σ τ ρ (m8 gO ks tt te G0.length k m i τ G) Q,
  ⟨fuel,ρ0++[D],_,FU,f0,hn0,ok.fut f0⟩,?_⟩
 rintro i m H ⟨ρ,G,ab,f,hn,ok⟩
 cases m with
 | zero=>exact ok.elim
 | succ m=>
  unfold m8 at ok
  cases q:G[k]? with
  | none=>rw [q] at ok;exact ok.elim
  | some o=>
   cases o with
   | lst ds=>
    rw [q] at ok
    dsimp only at ok
    obtain ⟨p',xs,e1,e2,rs⟩:=ab.hp.lst q
    rw [f.get hk] at e1;cases e1
    cases qd:ds[i]? with
    | none=>
     rw [qd] at ok
     have hl:xs.length≤i:=by rw [← rs.length];exact YZ.mp qd
     exact .inl ⟨⟨xs,.of e2,hl⟩,ok _ H ρ .refl ab (by unfold Rep;exact ⟨D,rfl,hn⟩)⟩
    | some d=>
     rw [qd] at ok
     dsimp only at ok
     obtain ⟨x0,ex,rx⟩:=rs.get qd
     refine .inr ⟨⟨xs,x0,.of e2,ex⟩,λx H' y=>?_⟩
     obtain ⟨rfl,y⟩:=y
     have e3:=y xs (.of e2)
     rw [ex] at e3;cases e3
     refine mH hO (W:=λH3=>∃ m',m'<m+1∧∃ ρ G,Ab X.K X.mg σ H3 τ ρ G∧bX X.K H0 H3 ρ0 ρ∧ρ[G0.length]?=some D∧iI X.K X.mg EE H3 σ τ ρ (m8 gO ks tt te G0.length k m' (i+1) τ G) Q)
       ab rx hn ?_
     cases e:dJ gO ks tt te G0.length d τ G with
     | stuck=>rw [e] at ok;exact ok
     | bB c G'=>rw [e] at ok;exact ok
     | ok _ G'=>
      rw [e] at ok
      exact λH3 ρ3 f3 oz=>⟨m,Zd _,ρ3,G',oz,f.trans f3,f3.get hn,ok.fut f3⟩
   | _=>first | (rw [q] at ok;exact ok.elim) | (rw [q] at aH;exact aH.elim) | (rw [q3] at hW;exact hW.elim) | (rw [q] at e;cases e;done) | (rw [g] at ok;exact ok.elim) | (rw [g] at q;cases q;done) | (rw [g] at h;cases h;done) | exact ok.elim
variable {scope:Scope} {elt iter a b:Expr} {ifs:List Expr} {px pos:Pos} {m:DS→M D}
theorem zP (hO:jm X.K X.mg ow gO) {σ:L2.St} {H:Hp} {Q:VK} (h:bh X.K X.mg EE (jD gO ks m tt te) σ H Q) :
  uH (λσ H R=>bh X.K X.mg EE m σ H λx H1=>(∃ p,x=.ref p∧(∃ xs,j0 X.K H1 p xs)∧R (Eo X.K p) H1)∨(∃ p,x=.ref p∧(∃ xs,kI X.K H1 p xs)∧R (Pb X.K p) H1)∨∃ z,x=.str z∧R (FJ z) H1) ks ow (liftT X.K X.mg (m9 EE σ) tt) (bh X.K X.mg (m9 EE σ) te) σ H Q:=by
 obtain ⟨τ,ρ,G,ab,ok⟩:=je (k:=λτ d G=>match d with
  | .obj k=>match G[k]? with
   | some (.lst xs)=>m8 gO ks tt te G.length k (xs.length+1) 0 τ (G++[.lst []])
   | _=>.stuck
  | .tup xs=>cM gO ks tt te G.length xs τ (G++[.lst []])
  | .con xs=>cM gO ks tt te G.length xs τ (G++[.lst []])
  | .str z=>cM gO ks tt te G.length (z.cps.toList.map λc=>.str ⟨#[c]⟩) τ (G++[.lst []])
  | _=>.stuck) h
 refine ⟨τ,ρ,G,ab,?_⟩
 cases e:m τ G with
 | stuck=>rw [e] at ok;exact ok
 | bB c G'=>rw [e] at ok;exact ok
 | ok d G'=>
  rw [e] at ok
  intro v H1 ρ1 f1 fW r1
  obtain ⟨τ2,ρ2,G2,d2,bG,r2,aH⟩:=ok v H1 ρ1 f1 fW r1
  cases d2<;>try exact aH.elim
  case obj n=>
   dsimp only at aH
   unfold Rep at r2
   obtain ⟨p,rfl,e1⟩:=r2
   cases q:G2[n]? with
   | none=>rw [q] at aH;exact aH.elim
   | some o=>
    cases o with
    | lst xs=>
     rw [q] at aH
     obtain ⟨p',vs,e2,h2,rs⟩:=bG.hp.lst q
     rw [e1] at e2;cases e2
     exact .inl ⟨p,rfl,⟨vs,.of h2⟩,B4 hO e1 bG aH⟩
    | _=>first | (rw [q] at ok;exact ok.elim) | (rw [q] at aH;exact aH.elim) | (rw [q3] at hW;exact hW.elim) | (rw [q] at e;cases e;done) | (rw [g] at ok;exact ok.elim) | (rw [g] at q;cases q;done) | (rw [g] at h;cases h;done) | exact ok.elim
  case tup xs=>
   unfold Rep at r2
   obtain ⟨p,vs,rfl,sq,rs⟩:=r2
   refine .inr (.inl ⟨p,rfl,⟨vs,sq⟩,jn hO xs (λi H' ρ' hi f=>?_) (λi H' ρ' hi f=>?_) (λi d' H' ρ' x Ny hd f y=>?_) bG aH⟩)
   ·rw [rs.length] at hi
    exact ⟨vs,vs[i],f.tup _ _ sq,XZ hi⟩
   ·exact ⟨vs,f.tup _ _ sq,by rw [← rs.length];exact hi⟩
   ·obtain ⟨rfl,y⟩:=y
    obtain ⟨w',ew,rw'⟩:=rs.get hd
    have:=y vs (f.tup _ _ sq)
    rw [ew] at this;cases this
    exact ⟨.refl,rw'.mono f⟩
  case con xs=>
   unfold Rep at r2
   obtain ⟨p,vs,rfl,sq,rs⟩:=r2
   refine .inl ⟨p,rfl,⟨vs,sq.seq⟩,jn hO xs (λi H' ρ' hi f=>?_) (λi H' ρ' hi f=>?_) (λi d' H' ρ' x Ny hd f y=>?_) bG aH⟩
   ·rw [rs.length] at hi
    exact ⟨vs,vs[i],(f.con _ _ sq).seq,XZ hi⟩
   ·exact ⟨vs,(f.con _ _ sq).seq,by rw [← rs.length];exact hi⟩
   ·obtain ⟨rfl,y⟩:=y
    obtain ⟨w',ew,rw'⟩:=rs.get hd
    have:=y vs (f.con _ _ sq).seq
    rw [ew] at this;cases this
    exact ⟨.refl,rw'.mono f⟩
  case str z=>
   unfold Rep at r2;subst r2
   refine .inr (.inr ⟨z,rfl,jn hO (z.cps.toList.map λc=>.str ⟨#[c]⟩) (λi H' ρ' hi f=>?_) (λi H' ρ' hi f=>?_) (λi d' H' ρ' x Ny hd f y=>?_) bG aH⟩)
   ·simpa [FJ] using hi
   ·simpa [FJ] using hi
   ·obtain ⟨rfl,c,hc,rfl⟩:=y
    rw [Yq] at hd
    have:z.cps.toList[i]?=some c:=by simpa using hc
    rw [this] at hd
    cases hd
    exact ⟨.refl,by unfold Rep;rfl⟩
noncomputable def jP (X:Cx) (scope:Scope) (xs:List Str) (ifs:List Expr) (elt:Expr) (tt:DS→M Bool) (te:DS→M D):Prop:=
 ∀ (cl:List (Str×Addr)) (C:Addr) (pins:List (Addr×Obj)) (s0:XX) (H0:Hp) (fp:List Addr) (E:XR→XX→Prop) (EE:bO),fZ (lN X scope cl xs C pins s0 H0 fp E) EE→CT (lN X scope cl xs C pins s0 H0 fp E) ifs (liftT X.K X.mg EE tt)∧QE (lN X scope cl xs C pins s0 H0 fp E) EE elt te
noncomputable def dW:DS→M Bool:=λ_=>M.ret true
theorem zQ (h:∀ (cl:List (Str×Addr)) (C:Addr) (pins:List (Addr×Obj)) (s0:XX) (H0:Hp) (fp:List Addr) (E:XR→XX→Prop) (EE:bO),fZ (lN X scope cl xs C pins s0 H0 fp E) EE→QE (lN X scope cl xs C pins s0 H0 fp E) EE elt te):jP X scope xs [] elt dW te:=
 λcl C pins s0 H0 fp E EE hx=>⟨λgS s σ H Q I zz=>by obtain ⟨τ,ρ,G,ab,ok⟩:=zz;exact KS gS s σ H Q I (ok H ρ .refl ab),h cl C pins s0 H0 fp E EE hx⟩
theorem zR {c:Expr} (h:∀ (cl:List (Str×Addr)) (C:Addr) (pins:List (Addr×Obj)) (s0:XX) (H0:Hp) (fp:List Addr) (E:XR→XX→Prop) (EE:bO),fZ (lN X scope cl xs C pins s0 H0 fp E) EE→QT (lN X scope cl xs C pins s0 H0 fp E) EE c tt∧QE (lN X scope cl xs C pins s0 H0 fp E) EE elt te):jP X scope xs [c] elt tt te:=
 λcl C pins s0 H0 fp E EE hx=>⟨KU (h cl C pins s0 H0 fp E EE hx).1,(h cl C pins s0 H0 fp E EE hx).2⟩
noncomputable def lO (X:Cx):Prop:=∃ gk gK L,X.stack=gk::gK∧X.env.frame=gk.frame∧gk.frame=some L
theorem FW (hx:fZ X EE) (hst:lO X) (S:bw X.env.scope X.N scope xs ks) (how:Own X scope xs ks tg ow) (hO:jm X.K X.mg ow gO) (hc:X.calm=true) (ha:QE X EE iter m) (hb:jP X scope xs ifs elt tt te) (hs:∀ x,foldedSetIterable iter X.env x=pure x:=by intro _;rfl) :
  QE X EE (.ListComp elt [⟨tg,iter,ifs,0⟩] scope pos) (jD gO ks m tt te):=PE.mono (sj (tt:=λσ=>liftT X.K X.mg (m9 EE σ) tt) (te:=λσ=>bh X.K X.mg (m9 EE σ) te) hx hst S how hc (PI.any ha) (λσ cl C pins s0 H0 fp E=>hb cl C pins s0 H0 fp E _) hs) λ_ _ _ h=>zP hO h
theorem B5 (hO:jm X.K X.mg ow gO) {Q:VK} {H0:Hp} {σ:L2.St} {ρ0:List Addr} {G0:DH} {τ:DS} (lo:Int) (n:Nat) (ab:Ab X.K X.mg σ H0 τ ρ0 G0)
  (ok:iI X.K X.mg EE H0 σ τ ρ0 (cM gO ks tt te G0.length ((YF n).map λ(k:Nat)=>.int (lo+(k:Int))) τ (G0++[.lst []])) Q) :
  ∀ D,H0 D=none→∃ W:Nat→Nat→Hp→Prop,(∃ m,W 0 m (upd H0 D (.lst [])))∧∀ i m H,W i m H →
   ((rS lo n).stop i H∧Q (.ref D) H)∨((rS lo n).go i H∧∀ x H',(rS lo n).qE i H x H'→∃ vs,ow x H' vs∧liftT X.K X.mg (m9 EE σ) tt (vs.map some++mask ks σ) H' λb H2=>if b=true then bh X.K X.mg (m9 EE σ) te (vs.map some++mask ks σ) H2 λv H3=>∃ ys,H3 D=some (.lst ys)∧ys.length<XT∧∃ m',m'<m∧W (i+1) m' (upd H3 D (.lst (ys++[v]))) else ∃ m',m'<m∧W (i+1) m' H2):=
 jn hO (J:=rS lo n) _ (λi H ρ hi f=>by simpa [rS] using hi) (λi H ρ hi f=>by simpa [rS] using hi) (λi d H ρ x H' hd f y=>by
  obtain ⟨rfl,rfl⟩:=y
  rw [Yq] at hd
  cases q:(YF n)[i]? with
  | none=>rw [q] at hd;cases hd
  | some k=>
   rw [q] at hd
   obtain ⟨hk,e⟩:=XY.mp q
   rw [acN] at e
   subst e
   cases hd
   exact ⟨.refl,by unfold Rep;rfl⟩) ab ok
variable {ma:DS→M (List D)}
theorem nc (hO:jm X.K X.mg ow gO) {σ:L2.St} {H:Hp} {Q:VK} (h:bh X.K X.mg EE (dh eF gO ks ma tt te) σ H Q):uH (HU (ie X.K X.mg EE ma)) ks ow (liftT X.K X.mg (m9 EE σ) tt) (bh X.K X.mg (m9 EE σ) te) σ H Q:=by
 obtain ⟨τ,ρ,G,ab,ok⟩:=jf (k:=λτ ds G=>match eF ds with | some xs=>cM gO ks tt te G.length xs τ (G++[.lst []]) | none=>.stuck) h
 refine ⟨τ,ρ,G,ab,?_⟩
 cases e:ma τ G with
 | stuck=>rw [e] at ok;exact ok
 | bB c G'=>rw [e] at ok;exact ok
 | ok ds G'=>
  rw [e] at ok
  intro vs H1 ρ1 f1 fW r1
  obtain ⟨τ2,ρ2,G2,d2,bG,r2,aH⟩:=ok vs H1 ρ1 f1 fW r1
  cases q:eF d2 with
  | none=>rw [q] at aH;exact aH.elim
  | some xs=>
   rw [q] at aH
   unfold eF at q
   split at q
   ·rename_i j
    split at q
    ·rename_i hj
     cases q
     obtain ⟨v,rfl,h1⟩:=fX r2
     unfold Rep at h1;subst h1
     exact ⟨j,rfl,hj.1,hj.2,B5 hO 0 j.toNat bG aH⟩
    ·cases q
   ·cases q
theorem uJ {t:TE} (hl:∀ σ H Q,bh X.K X.mg EE me σ H Q→t σ H Q) {Dd:Ends} {σ:L2.St} {H:Hp} (h:gB X.K X.mg EE (aF i me) Dd σ H):EK t (uc i) Dd σ H:=by
 obtain ⟨τ,ρ,G,ab,ok⟩:=h
 refine hl σ H (λv H1=>uc i v σ H1 Dd.nx) ⟨τ,ρ,G,ab,?_⟩
 dsimp only [aF,bE] at ok
 cases e:me τ G with
 | stuck=>rw [e] at ok;exact ok
 | bB c G'=>rw [e] at ok;exact λH' ρ' f bq=>ok σ H' ρ' f bq
 | ok d G'=>rw [e] at ok;exact λv H' ρ' f bq r=>ok _ H' ρ' f (bq.set r)
theorem zS {p pc:Pos} (hx:fZ X EE) (hst:lO X) (S:bw X.env.scope X.N scope xs ks) (how:Own X scope xs ks tg ow) (hO:jm X.K X.mg ow gO) (hc:X.calm=true) (hm:X.mg "range"=none) (ha:QA X EE [a] ma) (hb:jP X scope xs ifs elt tt te) (nS:Gl X "range":=by rfl) (uK:Yj [a] X.env=[(false,eval a X.env)]:=by rfl)
  (hs:∀ x,foldedSetIterable (.Call (.Name "range" p) [a] [] pc) X.env x=pure x:=by intro _;rfl) :
  QE X EE (.ListComp elt [⟨tg,.Call (.Name "range" p) [a] [] pc,ifs,0⟩] scope pos) (dh eF gO ks ma tt te):=PE.mono (sj (tt:=λσ=>liftT X.K X.mg (m9 EE σ) tt) (te:=λσ=>bh X.K X.mg (m9 EE σ) te) hx hst S how hc (l9 nS hm ha uK) (λσ cl C pins s0 H0 fp E=>hb cl C pins s0 H0 fp E _) hs) λ_ _ _ h=>nc hO h
theorem zT {py spos p pc:Pos} (hx:fZ X EE) (hst:lO X) (S:bw X.env.scope X.N scope xs ks) (how:Own X scope xs ks tg ow) (hO:jm X.K X.mg ow gO) (hc:X.calm=true) (hN:X.N.Nodup) (hm:X.mg "range"=none) (ha:QA X EE [a] ma) (hb:jP X scope xs ifs elt tt te) (hy:X.N[i]?=some y:=by rfl) (hl:X.env.scope.names.lookup y=some .local:=by rfl)
  (nS:Gl X "range":=by rfl) (uK:Yj [a] X.env=[(false,eval a X.env)]:=by rfl)
  (hsw:swapsWith (.ListComp elt [⟨tg,.Call (.Name "range" p) [a] [] pc,ifs,0⟩] scope pos) (some (.Name y py)) spos.line X.env=pure true:=by rfl) (hs:∀ x,foldedSetIterable (.Call (.Name "range" p) [a] [] pc) X.env x=pure x:=by intro _;rfl) :
  QS X EE (.Assign [.Name y py] (.ListComp elt [⟨tg,.Call (.Name "range" p) [a] [] pc,ifs,0⟩] scope pos) spos) (aF i (dh eF gO ks ma tt te)):=
 PS.mono (yx (tt:=λσ=>liftT X.K X.mg (m9 EE σ) tt) (te:=λσ=>bh X.K X.mg (m9 EE σ) te) hx hst S how hc hN (l9 nS hm ha uK) hy hl hsw (λσ cl C pins s0 H0 fp E=>hb cl C pins s0 H0 fp E _) hs) λ_ _ _ h=>uJ (λ_ _ _ h=>nc hO h) h
end
theorem FY {k:Nat} (r:cK k A):A.units+600<cLine:=by have:=r.un;nofun
theorem NU {EE:bO} {f:Addr} {pos:Pos} (hm:X.mg x=some (.ref f)) (hg:Gl X x:=by rfl) (hd:(x==("__debug__":Str))=false:=by decide):QE X EE (.Name x pos) (eC (.fn x)):=
 BC (yc hg hm (v:=.ref f) rfl hd) λ_ _=>by unfold Rep;exact ⟨f,rfl,hm⟩
noncomputable def br:Expr→Bool
 | .Starred ..=>false
 | _=>true
noncomputable def plainT:Expr→Bool
 | .UnaryOp .Not _ _=>false
 | .BoolOp ..=>false
 | .IfExp ..=>false
 | .Compare ..=>false
 | _=>true
noncomputable def ir:Expr→Bool
 | .Set ..=>false
 | _=>true
noncomputable def kY:Expr→Bool
 | .ListComp ..=>false
 | .SetComp ..=>false
 | .DictComp ..=>false
 | _=>true
noncomputable def mJ:Expr→Bool
 | .Call (.Name _ _) [] [] _=>false
 | _=>true
noncomputable def yy:Expr→Bool
 | .Slice ..=>false
 | _=>true
noncomputable def ao:List Expr→Bool
 | []=>true
 | e::es=>br e&&ao es
theorem aM (h:br e=true) (es:List Expr) (env:Env):Yj (e::es) env=(false,eval e env)::Yj es env:=by
 cases e<;>first | rfl | cases h
theorem zU (h:plainT e=true) (env:Env) (whole:Sem XR):isTrue e env whole=(do let v ← whole;standAt e.pos;holding [v] (truthy v)):=by
 cases e<;>first | rfl | cases h | (rename_i op _ _;cases op<;>first | rfl | cases h)
theorem iK (h:ir e=true) (env:Env) (x:XR):foldedSetIterable e env x=pure x:=by
 cases e<;>first | rfl | cases h
theorem lP (h:kY e=true) (t:Option Expr) (l:Nat) (env:Env):swapsWith e t l env=pure false:=by
 cases e<;>first | rfl | cases h
theorem gW (h:mJ e=true) (n:Str) (env:Env):attributeBase e n env (eval e env)=eval e env:=by
 unfold attributeBase
 split
 ·cases h
 ·rfl
theorem NV (h:yy e=true):nP e:=λo i=>by
 cases e<;>first | rfl | cases h
theorem FZ (h:ir e=true) (op:CmpOp):behindInMarks op e=false:=by
 cases e<;>first | rfl | cases h
theorem aO {env:Env} {pos:Pos}:∀ {es:List Expr},ao es=true→(backTo pos (Yj es env)).any (·.1)=false
 | [],_=>rfl
 | e::es,h=>by
  have h':br e=true∧ao es=true:=by simpa [ao] using h
  rw [aM h'.1]
  have ih:=aO (env:=env) (pos:=pos) h'.2
  show (false||(backTo pos (Yj es env)).any (·.1))=false
  rw [ih];rfl
theorem qP {env:Env} {pos:Pos}:∀ {es:List Expr},ao es=true→(backTo pos (Yj es env)).all (λx=>!x.1)=true
 | [],_=>rfl
 | e::es,h=>by
  have h':br e=true∧ao es=true:=by simpa [ao] using h
  rw [aM h'.1]
  have ih:=qP (env:=env) (pos:=pos) h'.2
  show (!false&&(backTo pos (Yj es env)).all (λx=>!x.1))=true
  rw [ih];rfl
theorem B6 (h:ao es=true) (hl:es.length<30):((backTo pos (Yj es env)).all (λx=>!x.1)&&(backToKw pos (keywordEach [] env)).all (λx=>x.1.isSome)
   && decide (es.length+([]:List Keyword).length+(if ([]:List Keyword).isEmpty then 0 else 1)<30))=true:=by
 rw [qP h]
 simp only [acB,Y4,decide_eq_true_eq]
 exact ⟨rfl,by simpa using hl⟩
section
variable {X:Cx} {EE:bO} {a b c e o:Expr} {es:List Expr} {ma mb mc me mo:DS→M D} {pos p apos cpos:Pos} {m:DS→M (List D)} {ms mt:MS} {x:Str} {ks:List Bool} {tt:DS→M Bool} {te:DS→M D}
theorem F0 {m:DS→M D} (ha:QE X EE e m) (hr:QA X EE es r) (h:br e=true:=by rfl):QA X EE (e::es) (aa m r):=Fq ha hr (aM h _ _)
theorem K0 (i:Nat) (hv:A3 X.env.scope x) (hd:(x==("__debug__":Str))=false∧(x==("__classdict__":Str))=false) (hN:X.N[i]?=some x:=by rfl):QE X EE (.Name x pos) (af i):=J7 i hN hv hd.1 hd.2
theorem NW {f:Addr} (hm:X.mg x=some (.ref f)) (hg:Gl X x) (hd:(x==("__debug__":Str))=false∧(x==("__classdict__":Str))=false):QE X EE (.Name x pos) (eC (.fn x)):=NU hm hg hd.1
theorem B7 (ha:QE X EE a ma) (hb:QE X EE b mb) (h:yy b=true:=by rfl):QE X EE (.Subscript a b pos) (aj aU ma mb):=BI ha hb (NV h)
theorem K1 (ho:ia X (compareOp op) (rD X EE f)) (ha:QE X EE a ma) (hb:QE X EE b mb) (h:ir b=true:=by rfl):QT X EE (.Compare a [op] [b] pos) (cW (aj f ma mb)):=Kv ho ha hb (FZ h _)
theorem K2 (ha:QE X EE a ma) (h:plainT a=true:=by rfl):QT X EE a (oF r9 ma):=Km ha (zU h _)
theorem iX {id:String} {f:List D→M D} (hc:cV X (.builtin id) (zE X EE f)) (hm:X.mg x=none) (hg:Gl X x) (hv:bootBuiltins x=some (.builtin id)) (ha:QA X EE (e::es) m) (hn:x≠"__name__":=by decide) (hdb:(x==("__debug__":Str))=false:=by decide) (h:ao (e::es)=true:=by rfl) :
  QE X EE (.Call (.Name x p) (e::es) [] pos) (ai f m):=by
 have h':br e=true∧ao es=true:=by simpa [ao] using h
 exact BF hc oG hm ha hg hv hn hdb (aM h'.1 _ _) (aO h'.2)
theorem j8 {id:String} {f:List D→M D} (hc:cV X (.type id) (zE X EE f)) (hm:X.mg x=none) (hg:Gl X x) (hv:bootBuiltins x=some (.type id)) (ha:QA X EE (e::es) m) (hn:x≠"__name__":=by decide) (hdb:(x==("__debug__":Str))=false:=by decide) (h:ao (e::es)=true:=by rfl) :
  QE X EE (.Call (.Name x p) (e::es) [] pos) (ai f m):=by
 have h':br e=true∧ao es=true:=by simpa [ao] using h
 exact zB hc oG hm ha hg hv hn hdb (aM h'.1 _ _) (aO h'.2)
theorem K3 (hm:X.mg "len"=none) (hg:Gl X "len") (ha:QA X EE [e] m) (h:ao [e]=true:=by rfl):QE X EE (.Call (.Name "len" p) [e] [] pos) (ai bY m):=iX zF hm hg PySem.boot_len ha (by decide) (by decide) h
theorem F1 (hc:X.calm=true) (hm:X.mg "max"=none) (hg:Gl X "max") (ha:QA X EE [e,a] m) (h:ao [e,a]=true:=by rfl):QE X EE (.Call (.Name "max" p) [e,a] [] pos) (ai (fj λi j=>if j > i then j else i) m):=iX (zG hc) hm hg aa7 ha (by decide) (by decide) h
theorem F2 (hc:X.calm=true) (hm:X.mg "min"=none) (hg:Gl X "min") (ha:QA X EE [e,a] m) (h:ao [e,a]=true:=by rfl):QE X EE (.Call (.Name "min" p) [e,a] [] pos) (ai (fj λi j=>if j<i then j else i) m):=iX (zH hc) hm hg PyProof.Rows.boot_min ha (by decide) (by decide) h
theorem K4 (c:Ty) {pt:Pos} (hc:c≠.cz) (hm:X.mg "isinstance"=none) (hmt:X.mg x=none) (hg:Gl X "isinstance") (hgt:Gl X x) (ha:QE X EE a ma) (hb:bootBuiltins x=some (.type c.nm)) (hnt:x≠"__name__") (hdt:(x==("__debug__":Str))=false) (h:br a=true:=by rfl) :
  QE X EE (.Call (.Name "isinstance" p) [a,.Name x pt] [] pos) (FP c ma):=KN c hc hm hmt ha hb hg hgt hnt hdt (aM h _ _) (aM rfl _ _) (aO (es:=[.Name x pt]) rfl)
theorem yz {CX:l5} {k:Nat} {f:Addr} {ps:List Str} (F:gA X.prog X.w X.K X.mg X.base CX k f fd ps (fU X.K X.mg n mf)) (hr:cK k X.A) (hm:X.mg x=some (.ref f)) (hk:YE X.K (.ref f)=true) (hb:Binds X.K fd ps []) (hx:FN CX X EE) (hg:Gl X x)
  (hd:(x==("__debug__":Str))=false∧(x==("__classdict__":Str))=false) (ha:QA X EE (e::es) m) (h:ao (e::es)=true:=by rfl):QE X EE (.Call (.Name x p) (e::es) [] pos) (aA n mf m):=by
 have h':br e=true∧ao es=true:=by simpa [ao] using h
 exact FO F hr hm hk hb hx ha hg hd.1 (aM h'.1 _ _) (aO h'.2)
theorem zV (ho:QE X EE o mo) (ha:QA X EE [e] m) (hb:mJ o=true:=by rfl) (h:ao [e]=true:=by rfl) (hline:(apos.endLine==cpos.line)=true:=by rfl):QE X EE (.Call (.Attribute o "append" apos) [e] [] cpos) (cC "list" cE mo m):=by
 have h':br e=true∧ao []=true:=by simpa [ao] using h
 exact zI ho ha (gW hb _ _) (B6 h (by simp)) hline (aM h'.1 _ _) (aO (es:=[]) rfl)
theorem K5 (ho:QE X EE o mo) (hb:mJ o=true:=by rfl) (hline:(apos.endLine==cpos.line)=true:=by rfl):QE X EE (.Call (.Attribute o "pop" apos) [] [] cpos) (cC "list" nF mo ah):=KP ho (gW hb _ _) hline
theorem F3 (he:QE X EE a ma) (h:kY a=true:=by rfl):QS X EE (.Expr a pos) (ig ma):=FH he (lP h _ _ _)
theorem K6 {pos':Pos} (hN:X.N.Nodup) (hx:Loc X.env.scope x) (he:QE X EE a ma) (hf:X.fn x=true∨X.env.scope.names.lookup x=some .local) (hi:X.N[i]?=some x:=by rfl) (h:kY a=true:=by rfl):QS X EE (.Assign [.Name x pos'] a pos) (aF i ma):=KI hN he hi hx (lP h _ _ _) hf
theorem B8 {i:Expr} {tpos:Pos} (hv:QE X EE a mv) (ho:QE X EE o mo) (hi:QE X EE i mi) (h:kY a=true:=by rfl)
  (KQ:∀ v,assign (.Subscript o i tpos) X.env v=(do
   let ov ← holding [v] (eval o X.env)
   let iv ← holding [v,ov] (eval i X.env)
   standAt tpos
   holding [v,ov,iv] (setItem ov iv v)
   release [v,ov,iv] []):=by intro _;rfl):QS X EE (.Assign [.Subscript o i tpos] a pos) (kW mv mo mi):=
 BU hv ho hi (by unfold swapsWithSole;exact lP h _ _ _) (by first | rfl | (unfold swappedStores;rfl)) rfl KQ
theorem F4 (hN:X.N.Nodup) (hx:Loc X.env.scope x) (hf:X.fn x=true∨X.env.scope.names.lookup x=some .local) (hi:X.N[i]?=some x:=by rfl):QG X (.Name x pos) (gN i):=FI hN hi hx hf
theorem K7 (hp:PassesOwn (model X.prog X.w) X.A X.env X.xe) (hc:X.calm=true) (ha:QE X EE a ma) (hg:QG X tg g) (hb:pY X EE body ms) (h:ir a=true:=by rfl):QS X EE (.For tg a body [] pos) (kR g ma ms):=KJ hp hc ha hg hb (iK h _)
theorem B9 {pc:Pos} (hp:PassesOwn (model X.prog X.w) X.A X.env X.xe) (hc:X.calm=true) (hm:X.mg "range"=none) (nS:Gl X "range") (ha:QA X EE [a] m) (hg:QG X tg g) (hb:pY X EE body ms) (h:br a=true:=by rfl) :
  QS X EE (.For tg (.Call (.Name "range" p) [a] [] pc) body [] pos) (gx eF g m ms):=BS hp hc hm ha hg hb nS (aM h _ _) (iK rfl _)
variable {scope:Scope} {elt iter tg:Expr} {xs:List Str} {ow:V→Hp→List V→Prop} {gO:D→Option (List D)} {ifs:List Expr} {px:Pos}
theorem F5 (hx:fZ X EE) (hst:lO X) (S:bw X.env.scope X.N scope xs ks) (how:Own X scope xs ks tg ow) (hO:jm X.K X.mg ow gO) (hc:X.calm=true) (ha:QE X EE iter ma) (hb:jP X scope xs ifs elt tt te) (h:ir iter=true:=by rfl):QE X EE (.ListComp elt [⟨tg,iter,ifs,0⟩] scope pos) (jD gO ks ma tt te):=FW hx hst S how hO hc ha hb (iK h _)
theorem zW {pc:Pos} (hx:fZ X EE) (hst:lO X) (S:bw X.env.scope X.N scope xs ks) (how:Own X scope xs ks tg ow) (hO:jm X.K X.mg ow gO) (hc:X.calm=true) (hm:X.mg "range"=none) (nS:Gl X "range") (ha:QA X EE [a] m) (hb:jP X scope xs ifs elt tt te) (h:br a=true:=by rfl) :
  QE X EE (.ListComp elt [⟨tg,.Call (.Name "range" p) [a] [] pc,ifs,0⟩] scope pos) (dh eF gO ks m tt te):=zS hx hst S how hO hc hm ha hb nS (aM h _ _) (iK rfl _)
theorem zX (hx:fZ X EE) (hst:lO X) (S:bw X.env.scope X.N scope xs ks) (how:Own X scope xs ks tg ow) (hO:jm X.K X.mg ow gO) (hc:X.calm=true) (hN:X.N.Nodup) (hl:X.env.scope.names.lookup y=some .local) (hm:X.mg "range"=none) (nS:Gl X "range") (ha:QA X EE [a] m) (hb:jP X scope xs ifs elt tt te)
  (hsw:swapsWith (.ListComp elt [⟨tg,.Call (.Name "range" p) [a] [] pc,ifs,0⟩] scope pos) (some (.Name y py)) spos.line X.env=pure true) (hy:X.N[i]?=some y:=by rfl) (h:br a=true:=by rfl) :
  QS X EE (.Assign [.Name y py] (.ListComp elt [⟨tg,.Call (.Name "range" p) [a] [] pc,ifs,0⟩] scope pos) spos) (aF i (dh eF gO ks m tt te)):=zT hx hst S how hO hc hN hm ha hb hy hl nS (aM h _ _) hsw (iK rfl _)
theorem zY {l:Nat} (hb:(env.blockKind==.function)=true) (hl:env.scope.names.lookup y=some .local) (hp:(py.line==pos.line)=true) (hq:(scope.names.any λx=>x.1==y&&(x.2==.local||x.2==.cell))=false):swapsWith (.ListComp elt gens scope pos) (some (.Name y py)) l env=pure true:=by
 unfold swapsWith
 dsimp only
 show (pure (env.blockKind==.function&&env.kindOf y==some .local&&py.line==pos.line&&!(scope.names.any λx=>x.1==y&&(x.2==.local||x.2==.cell))):Sem Bool)=pure true
 have e:(env.kindOf y==some NameKind.local)=true:=by rw [show env.kindOf y=some NameKind.local from hl];rfl
 rw [hb,e,hp,hq];rfl
theorem K8 (S:bw X.env.scope X.N scope xs ks) (h:x∈xs):A3 (lN X scope cl xs C pins s0 H0 fp E).env.scope x:=.inl (oM (cl:=cl) (C:=C) S h)
theorem F6 (S:bw X.env.scope X.N scope xs ks) (h:scope.names.lookup y=some .free):A3 (lN X scope cl xs C pins s0 H0 fp E).env.scope y:=.inr (mG (cl:=cl) (C:=C) S h)
theorem F7 (h:scope.names.lookup y=some .globalImplicit):Gl (lN X scope cl xs C pins s0 H0 fp E) y:=by
 show (compEnvC scope cl C X.env).kindOf y=some .globalImplicit
 have e:(compEnvC scope cl C X.env).kindOf y=(scope.names.lookup y).map (p6 X.env y):=eG scope.names
 rw [e,h];rfl
end
section
open Builtin Builtin.Str
section
variable {X:Cx} {EE:bO}
noncomputable def oQ:List D→M D
 | [d]=>λG=>match aD G d with
  | some (.lst xs)=>aY xs G
  | some (.tup xs)=>.ok d G
  | _=>.stuck
 | _=>M.stop
theorem zZ:cV X (.type "tuple") (zE X EE oQ):=by
 intro pins s σ0 H xs us Q I r zu
 obtain ⟨σ,τ,ρ,G,ds,ab,yr,ok⟩:=zu
 match ds,ok with
 | [],ok=>exact ok.elim
 | _::_::_,ok=>exact ok.elim
 | [y],ok=>
  obtain ⟨yv,rfl,ry⟩:=fX yr
  dsimp only [oQ] at ok
  cases q:aD G y with
  | none=>rw [q] at ok;exact ok.elim
  | some sk=>
   rw [q] at ok
   cases sk with
   | str _=>exact ok.elim
   | tup ys=>
    obtain ⟨p,vs,rfl,sq,rs⟩:=g8 ry q
    exact kC pins s σ0 H _ us Q I r ⟨p,vs,rfl,.inr ⟨sq,ok _ H ρ .refl ab ry⟩⟩
   | lst ys=>
    obtain ⟨p,vs,rfl,sq,rs⟩:=bC (pins:=pins) (σ0:=σ0) (s:=s) ab.hp ry q
    exact kC pins s σ0 H _ us Q I r ⟨p,vs,rfl,.inl ⟨sq,λl hl=>(oE ab rs ok).2 l hl⟩⟩
noncomputable def mK:List D→M D
 | [d]=>λG=>match aD G d with
  | some (.lst xs)=>aI xs G
  | some (.tup xs)=>aI xs G
  | _=>.stuck
 | _=>M.stop
theorem z5:cV X (.type "list") (zE X EE mK):=by
 intro pins s σ0 H xs us Q I r zu
 obtain ⟨σ,τ,ρ,G,ds,ab,yr,ok⟩:=zu
 match ds,ok with
 | [],ok=>exact ok.elim
 | _::_::_,ok=>exact ok.elim
 | [y],ok=>
  obtain ⟨yv,rfl,ry⟩:=fX yr
  dsimp only [mK] at ok
  cases q:aD G y with
  | none=>rw [q] at ok;exact ok.elim
  | some sk=>
   rw [q] at ok
   cases sk with
   | str _=>exact ok.elim
   | tup ys=>
    obtain ⟨p,vs,rfl,sq,rs⟩:=g8 ry q
    exact lK pins s σ0 H _ us Q I r ⟨p,vs,rfl,.inr sq,λl hl=>(kP ab rs ok).2 l hl⟩
   | lst ys=>
    obtain ⟨p,vs,rfl,sq,rs⟩:=bC (pins:=pins) (σ0:=σ0) (s:=s) ab.hp ry q
    exact lK pins s σ0 H _ us Q I r ⟨p,vs,rfl,.inl sq,λl hl=>(kP ab rs ok).2 l hl⟩
variable {x:Str} {p pos apos cpos:Pos} {e o:Expr} {es:List Expr} {m:DS→M (List D)} {mo:DS→M D}
theorem boot_tuple:bootBuiltins "tuple"=some (.type "tuple"):=by symm
theorem boot_list:bootBuiltins "list"=some (.type "list"):=by symm
theorem Ca (hm:X.mg "tuple"=none) (hg:Gl X "tuple") (ha:QA X EE [e] m) (h:ao [e]=true:=by rfl):QE X EE (.Call (.Name "tuple" p) [e] [] pos) (ai oQ m):=j8 zZ hm hg boot_tuple ha (by decide) (by decide) h
theorem F8 (hm:X.mg "list"=none) (hg:Gl X "list") (ha:QA X EE [e] m) (h:ao [e]=true:=by rfl):QE X EE (.Call (.Name "list" p) [e] [] pos) (ai mK m):=j8 z5 hm hg boot_list ha (by decide) (by decide) h
noncomputable def kZ (i n:Nat) (lF:Str→Option (List D→M D)) (m:DS→M (List D)):DS→M D:=λτ G=>match τ[i]? with
 | some (some (.fn y))=>match lF y with
  | some mf=>aA n mf m τ G
  | none=>.stuck
 | _=>.stuck
theorem Cb {CX:l5} {n:Nat} {lF:Str→Option (List D→M D)} (hN:X.N[i]?=some x) (hv:A3 X.env.scope x) (hd:(x==("__debug__":Str))=false∧(x==("__classdict__":Str))=false)
  (hF:∀ y mf,lF y=some mf→∃ k f fd ps,gA X.prog X.w X.K X.mg X.base CX k f fd ps (fU X.K X.mg n mf)∧cK k X.A∧X.mg y=some (.ref f)∧YE X.K (.ref f)=true∧Binds X.K fd ps []) (hx:FN CX X EE)
  (ha:QA X EE (e::es) m) (h:ao (e::es)=true:=by rfl):QE X EE (.Call (.Name x p) (e::es) [] pos) (kZ i n lF m):=by
 have h':br e=true∧ao es=true:=by simpa [ao] using h
 intro pins s σ H Q I hq
 obtain ⟨τ,ρ,G,ab,ok⟩:=hq
 unfold kZ at ok
 cases q:τ[i]? with
 | none=>rw [q] at ok;exact ok.elim
 | some od=>
  cases od with
  | none=>rw [q] at ok;exact ok.elim
  | some d=>
   rw [q] at ok
   cases d<;>try exact ok.elim
   rename_i y
   dsimp only at ok
   cases qt:lF y with
   | none=>rw [qt] at ok;exact ok.elim
   | some mf=>
    rw [qt] at ok
    obtain ⟨k,f,fd,ps,F,hr,hm,hk,hb⟩:=hF y mf qt
    obtain ⟨v,ev,rv⟩:=ab.st.2 i (.fn y) q
    unfold Rep at rv
    obtain ⟨a,rfl,ha'⟩:=rv
    rw [hm] at ha'
    cases ha'
    obtain ⟨τ1,ρ1,G1,fW,yp⟩:=jf (k:=λ_ ds=>if ds.length=n then mf ds else M.stop) ⟨τ,ρ,G,ab,ok⟩
    refine Yo (YG (v9 hN hv hd.1 hd.2 pins s σ H (λv' H'=>v'=.ref f∧H'=H) I ⟨_,ev,rfl,rfl⟩) (λu s0 hu=>?_) λ_ _ z=>z)
    obtain ⟨v',H',I0,r0,rfl,rfl⟩:=hu
    cases r0
    refine ZQ (h₀:=X.base) I0.ok.mod.AS hk (cO (ha pos pins s0 σ H' _ I0 ⟨τ1,ρ1,G1,fW,yp⟩) λus s1 ⟨vs,H1,I1,r,q⟩=>⟨I1.nN,?_⟩) (aM h'.1 _ _) (aO h'.2)
    obtain ⟨τ2,ρ2,G2,ds,bG,rs,aH⟩:=q
    by_cases hn:ds.length=n
    ·rw [if_pos hn] at aH
     exact nT F hr hb hx I1 r bG rs hn aH
    ·rw [if_neg hn] at aH
     exact aH.elim
end
end
section
open Builtin Builtin.Str
section
variable {X:Cx} {EE:bO}
noncomputable def U3 (f:D→M D) (m:DS→M D):DS→M D:=λτ=>(m τ).bind f
variable {o:Expr} {mo:DS→M D} {y z:Str} {j1 j2:Nat} {p1 p2 apos cpos:Pos}
end
end
noncomputable def K9 (CX:l5) (X:Cx) (n:Nat):List (Str×(List D→M D))→Prop
 | []=>True
 | q::r=>(∃ k f fd ps,gA X.prog X.w X.K X.mg X.base CX k f fd ps (fU X.K X.mg n q.2)∧cK k X.A∧X.mg q.1=some (.ref f)∧YE X.K (.ref f)=true∧Binds X.K fd ps [])∧K9 CX X n r
theorem NX {CX:l5} {X:Cx} {n:Nat}:∀ {l:List (Str×(List D→M D))},K9 CX X n l→∀ (y:Str) (mf:List D→M D),l.lookup y=some mf→∃ k f fd ps,gA X.prog X.w X.K X.mg X.base CX k f fd ps (fU X.K X.mg n mf)∧cK k X.A∧X.mg y=some (.ref f)∧YE X.K (.ref f)=true∧Binds X.K fd ps []
 | [],_,_,_,h=>nomatch h
 | q::r,⟨h1,hr⟩,y,mf,h=>by
  obtain ⟨qn,qm⟩:=q
  rw [Yz] at h
  cases e:y==qn with
  | true=>
   rw [e] at h
   cases h
   have:=eq_of_beq e
   subst this
   exact h1
  | false=>rw [e] at h;exact NX hr y mf h
theorem Rf (ha:QE X EE e m) (h:br e=true) (hr:QA X EE es r):QA X EE (e::es) (aa m r):=F0 ha hr h
theorem wX:typeLookup (.type "list_reverseiterator") (Z6 "__len__")=(pure none:Sem (Option XR)):=by
 rw [typeLookup_type,builtinLookup_eq_fast];rfl
theorem Cc:typeLookup (.type "list_reverseiterator") (Z6 "__length_hint__")=(pure (some (.builtin "list_reverseiterator.__length_hint__")):Sem (Option XR)):=by
 rw [typeLookup_type,builtinLookup_eq_fast];rfl
theorem Cd:isSubtype (.type "list_reverseiterator") (.type "list_reverseiterator")=(pure true:Sem Bool):=by
 rw [isSubtype_type];rfl
theorem Ce {M:Model} {i:Int} {Q:Bool→XX→Prop} (hr:s.heap.IsRevIter it l i) (h:Q false s):Ye M A (abo (.ref it)) Q E s:=by
 have ty:s.TypeIs (.ref it) "list_reverseiterator":=by
  obtain ⟨o,e,c,_⟩:=hr
  exact ⟨o,e,c⟩
 unfold abo
 refine XS (aas ty wX ?_)
 refine XS (aas ty Cc ?_)
 have e1:splitId "list_reverseiterator.__length_hint__"=some ("list_reverseiterator","__length_hint__"):=by symm
 dsimp only
 rw [e1]
 dsimp only
 refine XS (abO ty Cd ?_)
 rw [if_neg (by decide)]
 split
 ·rw [if_neg (by decide)]
  exact Yc h
 ·rename_i hs
  exact absurd (by symm) hs
theorem oR {prog:Yw} {w:YM} {R:Result→XX→Prop} (hh:A.handled=none) (hit:s.heap.IsRevIter it l ((items.size:Int) - 1)) (hl:s.heap.IsList l items) (hne:l≠it) (hz:items.size≤XT) (S:Addr) (res:XR) (c₀:Nat)
  (hS:s.heap.get? S=some {cls:=.type "list",data:=.seq #[] c₀}) (U4:S≠l)
  (hR:∀ (s':XX) (acc':Array XR) (c':Nat),Moved [S,it] (λa b=>b=a) s s'→s'.heap.get? S=some {cls:=.type "list",data:=.seq acc' c'}→ItemsOf (λi v=>items[items.size - 1 - i]?=some v) acc' items.size→R (.ok (.ret res)) s') :
  Ye (model prog w) A.in1 (aay (.ref S) (.ref it) res) (λfin s'=>match fin with
   | .done f=>R (.ok f) s'
   | .again c'=>c'.quiet=true∧codeAny (model prog w) A c' R s') (λe s'=>R (.error e) s') s:=by
 have NY:S≠it:=by
  rintro rfl
  obtain ⟨o,e,c,d⟩:=hit
  rw [hS] at e;cases e
  exact absurd (Value.type.inj c) (by decide)
 have ty:s.TypeIs (.ref it) "list_reverseiterator":=by
  obtain ⟨o,e,c,_⟩:=hit
  exact ⟨o,e,c⟩
 have Wk:=Walks.toS (Walks.listRev (prog:=prog) (w:=w) (A:=A.in1) (show A.in1.handled=none from hh) it l hne items)
 have key:=codeAny_extend_loopS Wk hz S (by simp [NY,U4]) res items.size 0 (R:=R)
 unfold aay
 refine XS (acZ ty ?_)
 have h1:abJ (.ref S) (.ref it)=false:=by simp [abJ,NY]
 rw [if_neg (by rw [h1];decide)]
 refine XS (ZE hit ?_)
 refine XS (aau (Ce hit ?_))
 dsimp only
 split
 ·rename_i hs
  exact absurd hs (by symm)
 ·exact Yc ⟨plainId_quiet F.plain_extend_loop _,key s #[] c₀ rfl (Z4 _) ⟨Z4 _,by simpa using hit,hl⟩ hS (ItemsOf.nil _) hR⟩
theorem p7 {prog:Yw} {w:YM} {E:XR→XX→Prop} {Q:XR→XX→Prop} (hh:A.handled=none) (hit:s.heap.IsRevIter it l ((items.size:Int) - 1)) (hl:s.heap.IsList l items) (hne:l≠it) (hz:items.size≤XT)
  (hQ:∀ (h':Heap) (tk:Nat) (acc':Array XR) (c':Nat),(∀ b o,b≠it→s.heap.get? b=some o→h'.get? b=some o)→h'.get? s.heap.objs.size=some {cls:=.type "list",data:=.seq acc' c'}→ItemsOf (λi v=>items[items.size - 1 - i]?=some v) acc' items.size→Q (.ref s.heap.objs.size) {s with heap:=h',toks:=tk}) :
  Ye (model prog w) A (call (.type "list") [.ref it]) Q E s:=by
 have Rg:l<s.heap.objs.size:=by obtain ⟨o,e,_⟩:=hl;exact X0 e
 have U5:it<s.heap.objs.size:=by obtain ⟨o,e,_⟩:=hit;exact X0 e
 refine callType_codes (Q₁:=λv s1=>v=.ref s.heap.objs.size∧s1={s with heap:=s.heap.push {cls:=.type "list",data:=.seq #[]}}) F.called_list (F.typeCall_list_1 (.ref it)) F.entry_list_init (code_list_new (.ref it) ⟨rfl,rfl⟩) λobj s₁ h₁=>?_
 obtain ⟨rfl,rfl⟩:=h₁
 have hS:=X6 (o:={cls:=.type "list",data:=.seq #[]}) s.heap rfl
 refine ⟨⟨_,hS,rfl⟩,F.args_list_init_2 (.ref s.heap.objs.size) (.ref it),?_⟩
 have kp:∀ b o,s.heap.get? b=some o→(s.heap.push {cls:=.type "list",data:=.seq #[]}).get? b=some o:=λb o e=>XW _ e
 unfold aaH.«list.__init__»
 refine XS ?_
 unfold Builtin.List.listItems
 refine XS (aaj hS rfl (Yc ?_))
 refine XS ?_
 unfold Builtin.List.listUpdate
 refine aaN hS rfl ?_ (by simp [sizeLine_eq]) (by simp [sizeLine_eq])
 have U6:=YB (aaB λx=>#[]) hS rfl
 have pZ:∀ b o,b≠s.heap.objs.size→(s.heap.push {cls:=.type "list",data:=.seq #[]}).get? b=some o→((s.heap.push {cls:=.type "list",data:=.seq #[]}).update s.heap.objs.size (aaB λx=>#[])).get? b=some o:=λb o hb e=>(Yt _ _ (Y6 hb)).trans e
 refine XS (abD ?_)
 have up:∀ b o,s.heap.get? b=some o→((s.heap.push {cls:=.type "list",data:=.seq #[]}).update s.heap.objs.size (aaB λx=>#[])).get? b=some o:=λb o e=>pZ b o (Yg (X0 e)) (kp b o e)
 refine oR (l:=l) (items:=items) (show A.in1.handled=none from hh) ?_ ?_ hne hz s.heap.objs.size .none (if ((#[]:Array XR).size==(#[]:Array XR).size)=true then 0 else 0+1) ?_ (abm Rg) ?_
 ·obtain ⟨o,e,r⟩:=hit
  exact ⟨o,up _ _ e,r⟩
 ·obtain ⟨o,e,r⟩:=hl
  exact ⟨o,up _ _ e,r⟩
 ·exact U6
 ·intro s' acc' c' hm hS' hacc
  rw [Moved.eq_with hm]
  refine ⟨rfl,hQ s'.heap s'.toks acc' c' (λb o hb e=>?_) hS' hacc⟩
  refine hm.heap b o ?_ (up b o e)
  simp [hb,Yg (X0 e)]
section
variable {X:Cx} {EE:bO} {a b c e o:Expr} {es:List Expr} {ma mb mo:DS→M D} {m:DS→M (List D)} {t:DS→M Bool} {ms:MS} {pos p p2 pos2 apos cpos:Pos}
noncomputable def fuel:Nat:=100000
noncomputable def f6 (t:DS→M Bool) (ms:MS):Nat→MS
 | 0=>λ_ _=>.stuck
 | n+1=>λτ=>bE (t τ) (λc G=>if c=true then (match ms τ G with
   | .nx τ' G'=>f6 t ms n τ' G'
   | .ct τ' G'=>f6 t ms n τ' G'
   | .bk τ' G'=>.nx τ' G'
   | r=>r) else .nx τ G) λc G=>.xn c τ G
theorem Fl.imp {r:Out Bool} {Q:Bool→Hp→Prop} (h:Fl X.K X.mg EE H σ τ ρ r Q) (i:∀ b H',Q b H'→Q' b H'):Fl X.K X.mg EE H σ τ ρ r Q':=by
 cases r with
 | stuck=>exact h
 | ok b G=>exact λH' ρ' f ab=>i b H' (h H' ρ' f ab)
 | bB c G=>exact h
theorem Cg (hp:PassesOwn (model X.prog X.w) X.A X.env X.xe) (hc:QT X EE c t) (hb:pY X EE body ms):QS X EE (.While c body [] pos) (f6 t ms n):=PS.mono (A9 hp hc hb) λDd σ H h=>by
 obtain ⟨τ0,ρ0,G0,FU,U7⟩:=h
 refine ⟨λm σ H=>∃ τ ρ G,Ab X.K X.mg σ H τ ρ G∧pX X.K X.mg EE H ρ Dd (f6 t ms m τ G),⟨n,τ0,ρ0,G0,FU,U7⟩,?_⟩
 rintro m σ H ⟨τ,ρ,G,ab,ok⟩
 cases m with
 | zero=>exact ok.elim
 | succ m=>
  obtain ⟨τ1,ρ1,G1,fW,yp⟩:=BB (k:=λτ c G=>if c=true then (match ms τ G with
   | .nx τ' G'=>f6 t ms m τ' G'
   | .ct τ' G'=>f6 t ms m τ' G'
   | .bk τ' G'=>.nx τ' G'
   | r=>r) else .nx τ G) (show gB X.K X.mg EE (λτ=>bE (t τ) (λc G=>if c=true then (match ms τ G with
   | .nx τ' G'=>f6 t ms m τ' G'
   | .ct τ' G'=>f6 t ms m τ' G'
   | .bk τ' G'=>.nx τ' G'
   | r=>r) else .nx τ G) λc G=>.xn c τ G) Dd σ H from ⟨τ,ρ,G,ab,ok⟩)
  refine ⟨τ1,ρ1,G1,fW,yp.imp λb H1 hq=>?_⟩
  obtain ⟨τ2,ρ2,G2,bG,aH⟩:=hq
  cases b with
  | false=>
   rw [if_neg YH] at aH ⊢
   exact aH σ H1 ρ2 .refl bG
  | true=>
   rw [if_pos rfl] at aH ⊢
   refine ⟨λσ' H'=>∃ τ ρ G,Ab X.K X.mg σ' H' τ ρ G∧pX X.K X.mg EE H' ρ Dd (f6 t ms m τ G),λσ' H' w=>⟨m,Zd _,w⟩,τ2,ρ2,G2,bG,?_⟩
   cases q:ms τ2 G2 with
   | stuck=>rw [q] at aH;exact aH
   | nx τ' G'=>rw [q] at aH;exact λσ' H' ρ' f bq=>⟨τ',ρ',G',bq,aH.fut f⟩
   | ct τ' G'=>rw [q] at aH;exact λσ' H' ρ' f bq=>⟨τ',ρ',G',bq,aH.fut f⟩
   | bk τ' G'=>rw [q] at aH;exact aH
   | rt d G'=>rw [q] at aH;exact aH
   | xn c τ' G'=>rw [q] at aH;exact aH
noncomputable def uL:List D→M D
 | [d]=>λG=>match aD G d with
  | some (.lst xs)=>aI xs.reverse G
  | _=>.stuck
 | _=>M.stop
theorem jQ:bootBuiltins "reversed"=some (.type "reversed"):=by symm
theorem aq.rev:∀ {ds:List D} {vs:List V},aq K mg ρ H ds vs→aq K mg ρ H ds.reverse vs.reverse
 | [],vs,h=>by unfold aq at h;subst h;exact .nil
 | d::ds,vs,h=>by
  unfold aq at h
  obtain ⟨v,r,rfl,h1,h2⟩:=h
  rw [Y7,Y7]
  exact (aq.rev h2).append (.cons h1 .nil)
theorem Vals.app:∀ {xs ys:List V} {us vs:List XR},Vals xs us→Vals ys vs→Vals (xs++ys) (us++vs)
 | _,_,_,_,.nil,h=>h
 | _,_,_,_,.cons r t,h=>.cons r (Vals.app t h)
theorem Vals.rev:∀ {xs:List V} {us:List XR},Vals xs us→Vals xs.reverse us.reverse
 | _,_,.nil=>.nil
 | _,_,.cons r t=>by
  rw [Y7,Y7]
  exact Vals.app (Vals.rev t) (.cons r .nil)
theorem qQ {acc:Array XR} (h:ItemsOf (λi v=>its.toArray[its.toArray.size - 1 - i]?=some v) acc its.toArray.size):acc=its.reverse.toArray:=by
 obtain ⟨h1,h2⟩:=h
 have hs:its.toArray.size=its.length:=by simp
 rw [hs] at h1
 apply Array.ext_getElem?
 intro i
 by_cases hi:i<acc.size
 ·have e:=h2 i acc[i] (aaJ hi)
  rw [aaJ hi,← e]
  rw [aav,aav,aaw (by nofun),hs]
 ·rw [aao (by nofun),aao (by simp;nofun)]
theorem wY (hc:X.calm=true) (hm1:X.mg "list"=none) (Rh:Gl X "list") (hm2:X.mg "reversed"=none) (Ri:Gl X "reversed") (ha:QA X EE [e] m) (h:ao [e]=true:=by rfl) :
  QE X EE (.Call (.Name "list" p) [.Call (.Name "reversed" p2) [e] [] pos2] [] pos) (ai uL m):=by
 have h':br e=true∧ao []=true:=by simpa [ao] using h
 intro pins s σ H Q I hq
 have hq':=jf (k:=λ_ ds=>uL ds) hq
 refine Yo (fh I Rh hm1 boot_list ?_ (by decide) (by decide))
 refine Yr ?_ (aM rfl _ _) (aO (es:=[]) rfl)
 rw [aM (e:=.Call (.Name "reversed" p2) [e] [] pos2) rfl]
 show Ye _ _ (spliced ((false,eval _ X.env)::backTo pos (Yj [] X.env))) _ _ s
 refine Zm ?_
 refine Yo (fh I Ri hm2 jQ ?_ (by decide) (by decide))
 refine Yr (cO (ha pos2 pins s σ H _ I hq') λus s1 oj=>?_) (aM h'.1 _ _) (aO (es:=[]) rfl)
 obtain ⟨vs,H1,I1,r1,τ,ρ,G,ds,ab,rs,ok⟩:=oj
 match ds,ok with
 | [],ok=>exact ok.elim
 | _::_::_,ok=>exact ok.elim
 | [d],ok=>
  obtain ⟨x,rfl,rx⟩:=fX rs
  obtain ⟨u,rfl,ru⟩:=vals1 r1
  dsimp only [uL] at ok
  cases q:aD G d with
  | none=>rw [q] at ok;exact ok.elim
  | some sk=>
   rw [q] at ok
   cases sk with
   | tup zs=>exact ok.elim
   | str z=>exact ok.elim
   | lst zs=>
    dsimp only at ok
    obtain ⟨l,ys,rfl,sq,rv⟩:=bC (pins:=pins) (σ0:=σ) (s:=s1) ab.hp rx q
    cases ru
    obtain ⟨its,vv,pl,hz⟩:=I1.list sq
    have hlen:=vv.length
    have hl:=pl.isList
    have hlt:l<s1.heap.objs.size:=by obtain ⟨_,e,_⟩:=hl;exact X0 e
    refine call_reversed_list hl ?_
    refine Z5 ?_
    refine gR (by first | exact I1.os.2 | exact YJ _) <| p7 (l:=l) (items:=its.toArray) (show X.A.handled=none from I.ok.hd hc) ⟨_,X6 _ rfl,rfl,rfl⟩ (hl.push _) (Yg hlt) (by simp;nofun) λh' tk acc' c' kp hS hacc ht=>?_
    have ea:=qQ hacc
    subst ea
    obtain ⟨hlr,hn⟩:=kP ab rv.rev ok
    have hsz:(s1.heap.push (revObj l ((its.toArray.size:Int) - 1))).objs.size=s1.heap.objs.size+1:=Zg ..
    refine ⟨.ref _,upd H1 _ (.lst ys.reverse),I1.laid (t':=tk) (λb o e=>kp b o (Yg (X0 e)) (XW _ e)) ?_ ⟨hlr,its.reverse,c',Vals.rev vv,hS⟩,rfl,hn _ (I1.hok.fresh ?_)⟩
    ·show s1.heap.objs.size≤(s1.heap.push _).objs.size
     rw [hsz];nofun
    ·show s1.heap.objs.size≤(s1.heap.push _).objs.size
     rw [hsz];nofun
noncomputable def intsOf:List D→Option (List Int)
 | []=>some []
 | .int b::r=>(intsOf r).map (b::·)
 | _::_=>none
theorem k6 {K:XU} {mg:Str→Option XR} {ρ:List Addr} {H:Hp}:∀ {ds:List D} {vs:List V} {us:List XR} {bs:List Int},aq K mg ρ H ds vs→Vals vs us→intsOf ds=some bs→us.length=bs.length∧∀ (i:Nat) (v:XR),us[i]?=some v→∃ t,v=Value.int (bs.getD i 0) t
 | [],vs,us,bs,r,v,e=>by unfold aq at r;subst r;cases v;cases e;exact ⟨rfl,λi v h=>by simp at h⟩
 | d::ds,vs,us,bs,r,v,e=>by
  unfold aq at r
  obtain ⟨x,r',rfl,h1,h2⟩:=r
  cases v with
  | cons v1 v2=>
   cases d<;>try (cases e;done)
   rename_i b
   dsimp only [intsOf] at e
   cases q:intsOf ds with
   | none=>rw [q] at e;cases e
   | some bs'=>
    rw [q] at e;cases e
    unfold Rep at h1;subst h1
    obtain ⟨t,rfl⟩:=v1
    obtain ⟨hl,hi⟩:=k6 h2 v2 q
    refine ⟨by simp [hl],λi v h=>?_⟩
    cases i with
    | zero=>simp at h;exact ⟨t,by simp [h]⟩
    | succ i=>obtain ⟨t',e'⟩:=hi i v (by simpa using h);exact ⟨t',by simpa using e'⟩
theorem preSum_eq (bs:List Int):∀ n,n≤bs.length→preSum (λi=>bs.getD i 0) n=(bs.take n).sum
 | 0,_=>by simp [preSum]
 | n+1,h=>by
  show preSum (λi=>bs.getD i 0) n+bs.getD n 0=_
  have:bs[n]?=some bs[n]:=XZ (by nofun)
  rw [preSum_eq bs n (by nofun),← List.take_append_getElem (show n<bs.length by nofun),adl,acv,this]
  rw [List.sum_singleton]
  rfl
noncomputable def iP:List D→M D
 | [d]=>λG=>match aD G d with
  | some (.lst xs)=>match intsOf xs with
   | some bs=>.ok (.int bs.sum) G
   | none=>.stuck
  | _=>.stuck
 | _=>M.stop
noncomputable def Ci (bs:List Int):Int:=bs.getD (argBest (λi j=>decide (bs.getD i 0 > bs.getD j 0)) (bs.length - 1)) 0
noncomputable def qR:List D→M D
 | [d]=>λG=>match aD G d with
  | some (.lst xs)=>match intsOf xs with
   | some bs=>if 0<bs.length then .ok (.int (Ci bs)) G else .stuck
   | none=>.stuck
  | _=>.stuck
 | _=>M.stop
theorem qS (hc:X.calm=true):cV X (.builtin "sum") (zE X EE iP):=by
 intro pins s σ0 H xs us Q I r zu
 obtain ⟨σ,τ,ρ,G,ds,ab,rs,ok⟩:=zu
 match ds,ok with
 | [],ok=>exact ok.elim
 | _::_::_,ok=>exact ok.elim
 | [d],ok=>
  obtain ⟨x,rfl,rx⟩:=fX rs
  obtain ⟨u,rfl,ru⟩:=vals1 r
  dsimp only [iP] at ok
  cases q:aD G d with
  | none=>rw [q] at ok;exact ok.elim
  | some sk=>
   rw [q] at ok
   cases sk with
   | tup zs=>exact ok.elim
   | str z=>exact ok.elim
   | lst zs=>
    dsimp only at ok
    cases qb:intsOf zs with
    | none=>rw [qb] at ok;exact ok.elim
    | some bs=>
     rw [qb] at ok
     obtain ⟨p,vs,rfl,sq,rv⟩:=bC (pins:=pins) (σ0:=σ0) (s:=s) ab.hp rx q
     cases ru
     obtain ⟨its,vv,pl,hz⟩:=I.list sq
     obtain ⟨hlen,hints⟩:=k6 rv vv qb
     have hl:=pl.isList
     have hlt:p<s.heap.objs.size:=by obtain ⟨_,e,_⟩:=hl;exact X0 e
     refine gR I.os.2 (call_sum_walkG (aa2 hl ?_))
     refine ⟨s.heap.objs.size,[s.heap.objs.size,p],[s.heap.objs.size],its.toArray.size,_,_,λi=>bs.getD i 0,rfl,adu (A:=X.A.in1) (I.ok.hd hc) _ p (Yg hlt) _,
      ⟨⟨_,X6 _ rfl,rfl,rfl⟩,hl.push _⟩,λb hb=>?_,λi v hP=>hints i v (by simpa using hP),λh' tk t' hk ht=>?_⟩
     ·show b<(s.heap.push _).objs.size
      rw [Zg]
      rcases Yn.mp hb with rfl | hb
      ·exact Zd _
      ·rw [Yk.mp hb];exact ZH hlt
     ·rw [show its.toArray.size=bs.length by simpa using hlen,preSum_eq bs _ (X3 _),List.take_length]
      exact ⟨.int _,H,I.kept (t':=tk) (kU hk),⟨_,rfl⟩,ok _ H ρ .refl ab (by unfold Rep;rfl)⟩
theorem wZ (hc:X.calm=true):cV X (.builtin "max") (zE X EE qR):=by
 intro pins s σ0 H xs us Q I r zu
 obtain ⟨σ,τ,ρ,G,ds,ab,rs,ok⟩:=zu
 match ds,ok with
 | [],ok=>exact ok.elim
 | _::_::_,ok=>exact ok.elim
 | [d],ok=>
  obtain ⟨x,rfl,rx⟩:=fX rs
  obtain ⟨u,rfl,ru⟩:=vals1 r
  dsimp only [qR] at ok
  cases q:aD G d with
  | none=>rw [q] at ok;exact ok.elim
  | some sk=>
   rw [q] at ok
   cases sk with
   | tup zs=>exact ok.elim
   | str z=>exact ok.elim
   | lst zs=>
    dsimp only at ok
    cases qb:intsOf zs with
    | none=>rw [qb] at ok;exact ok.elim
    | some bs=>
     rw [qb] at ok
     dsimp only at ok
     by_cases h0:0<bs.length
     ·rw [if_pos h0] at ok
      obtain ⟨p,vs,rfl,sq,rv⟩:=bC (pins:=pins) (σ0:=σ0) (s:=s) ab.hp rx q
      cases ru
      obtain ⟨its,vv,pl,hz⟩:=I.list sq
      obtain ⟨hlen,hints⟩:=k6 rv vv qb
      have hl:=pl.isList
      have hlt:p<s.heap.objs.size:=by obtain ⟨_,e,_⟩:=hl;exact X0 e
      have hP:∀ (i:Nat) (v:XR),its.toArray[i]?=some v→∃ t,v=Value.int ((λi=>bs.getD i 0) i) t:=λi v h=>hints i v (by simpa using h)
      refine gR I.os.2 (call_max_walk (aa2 hl ?_))
      refine ⟨s.heap.objs.size,[s.heap.objs.size,p],[s.heap.objs.size],its.toArray.size,_,_,_,rfl,adu (A:=X.A.in1) (I.ok.hd hc) _ p (Yg hlt) _,
       ⟨⟨_,X6 _ rfl,rfl,rfl⟩,hl.push _⟩,λb hb=>?_,by simp;nofun,CmpOf.ints_gt (λi=>bs.getD i 0) hP,λv h' tk hv hk ht=>?_⟩
      ·show b<(s.heap.push _).objs.size
       rw [Zg]
       rcases Yn.mp hb with rfl | hb
       ·exact Zd _
       ·rw [Yk.mp hb];exact ZH hlt
      ·obtain ⟨t,rfl⟩:=hP _ v hv
       rw [show its.toArray.size=bs.length by simpa using hlen]
       exact ⟨.int _,H,I.kept (t':=tk) (kU hk),⟨_,rfl⟩,ok _ H ρ .refl ab (by unfold Rep;rfl)⟩
     ·rw [if_neg h0] at ok;exact ok.elim
noncomputable def iY:List D→M D
 | [.int i]=>M.ret (.int i)
 | [.bl k]=>M.ret (.int (if k then 1 else 0))
 | _=>M.stop
theorem z6:cV X (.type "int") (zE X EE iY):=by
 intro pins s σ0 H xs us Q I r zu
 obtain ⟨σ,τ,ρ,G,ds,ab,yr,ok⟩:=zu
 match ds,ok with
 | [],ok=>exact ok.elim
 | d::_::_,ok=>cases d<;>exact ok.elim
 | [d],ok=>
  obtain ⟨x,rfl,rx⟩:=fX yr
  cases d<;>try exact ok.elim
  ·rename_i k
   unfold Rep at rx;subst rx
   exact qF pins s σ0 H _ us Q I r (.inr ⟨k,rfl,ok _ H ρ .refl ab (by unfold Rep;rfl)⟩)
  ·rename_i i
   unfold Rep at rx;subst rx
   exact qF pins s σ0 H _ us Q I r (.inl ⟨i,rfl,ok _ H ρ .refl ab (by unfold Rep;rfl)⟩)
theorem boot_int:bootBuiltins "int"=some (.type "int"):=by symm
theorem La (hm:X.mg "int"=none) (hg:Gl X "int") (ha:QA X EE [e] m) (h:ao [e]=true:=by rfl):QE X EE (.Call (.Name "int" p) [e] [] pos) (ai iY m):=j8 z6 hm hg boot_int ha (by decide) (by decide) h
theorem Lb (hc:X.calm=true) (hm:X.mg "sum"=none) (hg:Gl X "sum") (ha:QA X EE [e] m) (h:ao [e]=true:=by rfl):QE X EE (.Call (.Name "sum" p) [e] [] pos) (ai iP m):=iX (qS hc) hm hg acf ha (by decide) (by decide) h
theorem F9 (hc:X.calm=true) (hm:X.mg "max"=none) (hg:Gl X "max") (ha:QA X EE [e] m) (h:ao [e]=true:=by rfl):QE X EE (.Call (.Name "max" p) [e] [] pos) (ai qR m):=iX (wZ hc) hm hg aa7 ha (by decide) (by decide) h
end
theorem su (I:Inv X pins σ H s) (k:∀ b o,b∉ch→s.heap.get? b=some o→h'.get? b=some o) (hf:∀ b∈ch,kJ X pins H b) (ht:0<t':=by first | exact YJ _ | exact (Inv.os (by assumption)).2 | assumption | nofun):Inv X pins σ H {s with heap:=h',toks:=t'}:=by
 have MC:∀ b u,H b=some u→b∉ch:=λb u e z=>by rw [(hf b z).1] at e;cases e
 refine I.step (g':=s.gens) (d':=s.drawn) (ch:=ch) (λb hb=>⟨(hf b hb).2.2.2.1,(hf b hb).2.1,(hf b hb).2.2.2.2.1,(hf b hb).2.2.2.2.2⟩) (λb o _ _ hc e _=>k b o hc e) (λb o _ _ hc e _=>⟨o.slots,k b o hc e⟩) (λ_ _ _ _ n=>n)
  (λb o hc e=>⟨o,k b o hc e⟩) (λ_ _ e=>e) (λ_ _ _ e=>e) (λb ps e=>⟨#[],by rw [e];simp⟩) (λm hm=>?_) (λb u e=>?_) I.bare
 ·obtain ⟨o,es,ep,ho,r⟩:=hm
  exact ⟨o,es,ep,k _ o (λz=>(hf _ z).2.1 rfl) ho,r⟩
 ·refine (I.hok b u e).stay (λc v hc q=>k c v ?_ q) (λ_ q=>q) λ_ _ q=>q
  rcases hc with z | z
  ·rw [z];exact MC b u e
  ·exact MC c _ z
noncomputable abbrev View:=DH→Nat→Option (Option D)
variable {vw:View}
noncomputable def JV (K:XU) (mg:Str→Option XR) (J:It) (vw:View) (H0:Hp) (ρ0:List Addr):Prop:=
 ∀ (i:Nat) (H:Hp) (ρ:List Addr) (G:DH),bX K H0 H ρ0 ρ→fy K mg H ρ G→(vw G i=some none→J.stop i H) ∧
  ∀ d,vw G i=some (some d)→J.go i H∧∀ x H',J.qE i H x H'→sr K mg H H' ρ∧Rep K mg ρ H' d x
noncomputable def kq (g:jI) (body:MS) (vw:View):Nat→Nat→MS
 | 0,_=>λ_ _=>.stuck
 | f+1,i=>λτ G=>match vw G i with
  | none=>.stuck
  | some none=>.nx τ G
  | some (some d)=>match g d τ with
   | none=>.stuck
   | some τ1=>match body τ1 G with
    | .nx τ2 G2=>kq g body vw f (i+1) τ2 G2
    | .ct τ2 G2=>kq g body vw f (i+1) τ2 G2
    | .bk τ2 G2=>.nx τ2 G2
    | r=>r
noncomputable abbrev MI:=DS→M (Nat×View)
noncomputable def Ih (K:XU) (mg:Str→Option XR) (EE:bO) (mi:MI):TI:=λσ H R=>∃ τ ρ G,Ab K mg σ H τ ρ G∧match mi τ G with
 | .stuck=>False
 | .bB c G'=>∀ H' ρ',bX K H H' ρ ρ'→Ab K mg σ H' τ ρ' G'→EE c σ H'
 | .ok (_,vw) G'=>∀ J H' ρ',bX K H H' ρ ρ'→Ab K mg σ H' τ ρ' G'→JV K mg J vw H' ρ'→R J H'
noncomputable def QI (X:Cx) (EE:bO) (tg iter:Expr) (mi:MI):Prop:=PI X tg iter (Ih X.K X.mg EE mi)
section
variable {X:Cx} {EE:bO} {tg iter a b:Expr} {g:jI} {mi:MI} {ms:MS} {pos p pc:Pos} {m:DS→M (List D)}
theorem Cj {body:MS} {Dd:Ends} {J:It} {σ0:L2.St} {G0:DH} {τ0:DS} {fuel:Nat} (jv:JV X.K X.mg J vw H0 ρ0)
  (ab:Ab X.K X.mg σ0 H0 τ0 ρ0 G0) (ok:pX X.K X.mg EE H0 ρ0 Dd (kq g body vw fuel 0 τ0 G0)) :
  ∃ W:Nat→Nat→L2.St→Hp→Prop,(∃ m,W 0 m σ0 H0)∧∀ i m σ H,W i m σ H →
   (J.stop i H∧Dd.nx σ H)∨(J.go i H∧∃ N:L2.St→Hp→Prop,(∀ σ' H',N σ' H'→∃ m',m'<m∧W (i+1) m' σ' H')∧∀ x H',J.qE i H x H'→uC X.K X.mg g x σ H' λσ2 H2=>gB X.K X.mg EE body {Dd with nx:=N,ct:=N,bk:=Dd.nx} σ2 H2):=by
 refine ⟨λi m σ H=>∃ τ ρ G,Ab X.K X.mg σ H τ ρ G∧bX X.K H0 H ρ0 ρ∧pX X.K X.mg EE H ρ Dd (kq g body vw m i τ G),⟨fuel,τ0,ρ0,G0,ab,.refl,ok⟩,?_⟩
 rintro i m σ H ⟨τ,ρ,G,ab,f,ok⟩
 cases m with
 | zero=>exact ok.elim
 | succ m=>
  unfold kq at ok
  obtain ⟨j1,j2⟩:=jv i H ρ G f ab.hp
  cases q:vw G i with
  | none=>rw [q] at ok;exact ok.elim
  | some od=>
   rw [q] at ok
   cases od with
   | none=>exact .inl ⟨j1 q,ok σ H ρ .refl ab⟩
   | some d=>
    dsimp only at ok
    obtain ⟨jg,jy⟩:=j2 d q
    refine .inr ⟨jg,λσ' H'=>∃ τ' ρ' G',Ab X.K X.mg σ' H' τ' ρ' G'∧bX X.K H0 H' ρ0 ρ'∧pX X.K X.mg EE H' ρ' Dd (kq g body vw m (i+1) τ' G'),λσ' H' z=>⟨m,Zd _,z⟩,λx H' y=>?_⟩
    obtain ⟨⟨fN,hN⟩,rx⟩:=jy x H' y
    replace ok:=pX.fut fN ok
    replace ab:Ab X.K X.mg σ H' τ ρ G:=ab.fut fN (hN _ ab.hp)
    replace f:=f.trans fN
    cases e:g d τ with
    | none=>rw [e] at ok;exact ok.elim
    | some τ1=>
     rw [e] at ok
     dsimp only at ok
     refine ⟨τ,ρ,G,d,τ1,ab,rx,e,λσ' bq=>⟨τ1,ρ,G,bq,?_⟩⟩
     cases eb:body τ1 G with
     | stuck=>rw [eb] at ok;exact ok
     | nx τ2 G2=>rw [eb] at ok;exact λσ2 H2 ρ2 f2 bG=>⟨τ2,ρ2,G2,bG,f.trans f2,ok.fut f2⟩
     | ct τ2 G2=>rw [eb] at ok;exact λσ2 H2 ρ2 f2 bG=>⟨τ2,ρ2,G2,bG,f.trans f2,ok.fut f2⟩
     | bk τ2 G2=>rw [eb] at ok;exact ok
     | rt d G2=>rw [eb] at ok;exact ok
     | xn c τ2 G2=>rw [eb] at ok;exact ok
noncomputable def kF (g:jI) (mi:MI) (body:MS):MS:=λτ=>bE (mi τ) (λx G=>kq g body x.2 x.1 0 τ G) λc G=>.xn c τ G
theorem Ga (hp:PassesOwn (model X.prog X.w) X.A X.env X.xe) (hc:X.calm=true) (hi:QI X EE tg iter mi) (hg:QG X tg g) (hb:pY X EE body ms) (hs:ir iter=true:=by rfl) :
  QS X EE (.For tg iter body [] pos) (kF g mi ms):=PS.mono (wg hp hc hi hg hb (iK hs _)) λDd σ H h=>by
 obtain ⟨τ,ρ,G,ab,ok⟩:=h
 refine ⟨τ,ρ,G,ab,?_⟩
 dsimp only [kF,bE] at ok
 cases e:mi τ G with
 | stuck=>rw [e] at ok;exact ok
 | bB c G'=>rw [e] at ok;exact λH' ρ' f bq=>ok σ H' ρ' f bq
 | ok x G'=>rw [e] at ok;exact λJ H' ρ' f bq jv=>Cj jv bq (ok.fut f)
noncomputable def jE (gO:D→Option (List D)) (ks:List Bool) (tt:DS→M Bool) (te:DS→M D) (n:Nat) (vw:View):Nat→Nat→DS→DH→Out D
 | 0,_,_,_=>.stuck
 | f+1,i,τ,G=>match vw G i with
  | none=>.stuck
  | some none=>.ok (.obj n) G
  | some (some d)=>match dJ gO ks tt te n d τ G with
   | .ok _ G'=>jE gO ks tt te n vw f (i+1) τ G'
   | .bB c G'=>.bB c G'
   | .stuck=>.stuck
variable {gO:D→Option (List D)} {ow:V→Hp→List V→Prop} {xs:List Str} {ks:List Bool} {tt:DS→M Bool} {te:DS→M D}
theorem z7 (hO:jm X.K X.mg ow gO) {Q:VK} {J:It} {vw:View} {H0:Hp} {σ:L2.St} {ρ0:List Addr} {G0:DH} {τ:DS} {fuel:Nat} (jv:JV X.K X.mg J vw H0 ρ0)
  (ab:Ab X.K X.mg σ H0 τ ρ0 G0) (ok:iI X.K X.mg EE H0 σ τ ρ0 (jE gO ks tt te G0.length vw fuel 0 τ (G0++[.lst []])) Q) :
  ∀ D,H0 D=none→∃ W:Nat→Nat→Hp→Prop,(∃ m,W 0 m (upd H0 D (.lst [])))∧∀ i m H,W i m H →
   (J.stop i H∧Q (.ref D) H)∨(J.go i H∧∀ x H',J.qE i H x H'→∃ vs,ow x H' vs∧liftT X.K X.mg (m9 EE σ) tt (vs.map some++mask ks σ) H' λb H2=>if b=true then bh X.K X.mg (m9 EE σ) te (vs.map some++mask ks σ) H2 λv H3=>∃ ys,H3 D=some (.lst ys)∧ys.length<XT∧∃ m',m'<m∧W (i+1) m' (upd H3 D (.lst (ys++[v]))) else ∃ m',m'<m∧W (i+1) m' H2):=by
 intro D hD
 have f0:bX X.K H0 (upd H0 D (.lst [])) ρ0 (ρ0++[D]):=(cN hD ρ0).trans (eB ρ0 D)
 have FU:Ab X.K X.mg σ (upd H0 D (.lst [])) τ (ρ0++[D]) (G0++[.lst []]):=ab.fut f0 (ab.hp.more hD .nil)
 have hn0:(ρ0++[D])[G0.length]?=some D:=by rw [← ab.hp.hl,aE]
 refine ⟨λi m H=>∃ ρ G,Ab X.K X.mg σ H τ ρ G∧bX X.K H0 H ρ0 ρ∧ρ[G0.length]?=some D∧iI X.K X.mg EE H σ τ ρ (jE gO ks tt te G0.length vw m i τ G) Q,
  ⟨fuel,ρ0++[D],_,FU,f0,hn0,ok.fut f0⟩,?_⟩
 rintro i m H ⟨ρ,G,ab,f,hn,ok⟩
 cases m with
 | zero=>exact ok.elim
 | succ m=>
  unfold jE at ok
  obtain ⟨j1,j2⟩:=jv i H ρ G f ab.hp
  cases q:vw G i with
  | none=>rw [q] at ok;exact ok.elim
  | some od=>
   rw [q] at ok
   cases od with
   | none=>exact .inl ⟨j1 q,ok _ H ρ .refl ab (by unfold Rep;exact ⟨D,rfl,hn⟩)⟩
   | some d=>
    dsimp only at ok
    obtain ⟨jg,jy⟩:=j2 d q
    refine .inr ⟨jg,λx H' y=>?_⟩
    obtain ⟨⟨fN,hN⟩,rx⟩:=jy x H' y
    replace ok:=iI.fut fN ok
    replace ab:Ab X.K X.mg σ H' τ ρ G:=ab.fut fN (hN _ ab.hp)
    replace f:=f.trans fN
    refine mH hO (W:=λH3=>∃ m',m'<m+1∧∃ ρ G,Ab X.K X.mg σ H3 τ ρ G∧bX X.K H0 H3 ρ0 ρ∧ρ[G0.length]?=some D∧iI X.K X.mg EE H3 σ τ ρ (jE gO ks tt te G0.length vw m' (i+1) τ G) Q)
      ab rx hn ?_
    cases e:dJ gO ks tt te G0.length d τ G with
    | stuck=>rw [e] at ok;exact ok
    | bB c G'=>rw [e] at ok;exact ok
    | ok _ G'=>
     rw [e] at ok
     exact λH3 ρ3 f3 oz=>⟨m,Zd _,ρ3,G',oz,f.trans f3,f3.get hn,ok.fut f3⟩
noncomputable def fk (gO:D→Option (List D)) (ks:List Bool) (mi:MI) (tt:DS→M Bool) (te:DS→M D):DS→M D:=λτ=>(mi τ).bind λx G=>jE gO ks tt te G.length x.2 x.1 0 τ (G++[.lst []])
theorem oS (hO:jm X.K X.mg ow gO) {σ:L2.St} {H:Hp} {Q:VK} (h:bh X.K X.mg EE (fk gO ks mi tt te) σ H Q) :
  uH (Ih X.K X.mg EE mi) ks ow (liftT X.K X.mg (m9 EE σ) tt) (bh X.K X.mg (m9 EE σ) te) σ H Q:=by
 obtain ⟨τ,ρ,G,ab,ok⟩:=h
 refine ⟨τ,ρ,G,ab,?_⟩
 dsimp only [fk,M.bind] at ok
 cases e:mi τ G with
 | stuck=>rw [e] at ok;exact ok
 | bB c G'=>rw [e] at ok;exact ok
 | ok x G'=>rw [e] at ok;exact λJ H' ρ' f bq jv=>z7 hO jv bq (ok.fut f)
variable {scope:Scope} {elt:Expr} {ifs:List Expr}
theorem Ck (hx:fZ X EE) (hst:lO X) (S:bw X.env.scope X.N scope xs ks) (how:Own X scope xs ks tg ow) (hO:jm X.K X.mg ow gO) (hc:X.calm=true) (ha:QI X EE tg iter mi) (hb:jP X scope xs ifs elt tt te) (hs:ir iter=true:=by rfl) :
  QE X EE (.ListComp elt [⟨tg,iter,ifs,0⟩] scope pos) (fk gO ks mi tt te):=PE.mono (sj (tt:=λσ=>liftT X.K X.mg (m9 EE σ) tt) (te:=λσ=>bh X.K X.mg (m9 EE σ) te) hx hst S how hc ha (λσ cl C pins s0 H0 fp E=>hb cl C pins s0 H0 fp E _) (iK hs _)) λ_ _ _ h=>oS hO h
theorem Cm (hx:fZ X EE) (hst:lO X) (S:bw X.env.scope X.N scope xs ks) (how:Own X scope xs ks tg ow) (hO:jm X.K X.mg ow gO) (hc:X.calm=true) (hN:X.N.Nodup) (hl:X.env.scope.names.lookup y=some .local) (ha:QI X EE tg iter mi) (hb:jP X scope xs ifs elt tt te)
  (hsw:swapsWith (.ListComp elt [⟨tg,iter,ifs,0⟩] scope pos) (some (.Name y py)) spos.line X.env=pure true) (hy:X.N[i]?=some y:=by rfl) (hs:ir iter=true:=by rfl) :
  QS X EE (.Assign [.Name y py] (.ListComp elt [⟨tg,iter,ifs,0⟩] scope pos) spos) (aF i (fk gO ks mi tt te)):=
 PS.mono (yx (tt:=λσ=>liftT X.K X.mg (m9 EE σ) tt) (te:=λσ=>bh X.K X.mg (m9 EE σ) te) hx hst S how hc hN ha hy hl hsw (λσ cl C pins s0 H0 fp E=>hb cl C pins s0 H0 fp E _) (iK hs _)) λ_ _ _ h=>uJ (λ_ _ _ h=>oS hO h) h
noncomputable def gP (i j:Nat):jI:=λd τ=>match d with
 | .tup [x,y]=>some ((τ.set i (some x)).set j (some y))
 | _=>none
theorem Gb {px py:Pos} {k:Nat} (hc:X.calm=true) (hN:X.N.Nodup) (hx:Loc X.env.scope x) (hy:Loc X.env.scope y) (hfx:X.fn x=true∨X.env.scope.names.lookup x=some .local) (Rj:X.fn y=true∨X.env.scope.names.lookup y=some .local) (hi:X.N[i]?=some x:=by rfl) (hj:X.N[j]?=some y:=by rfl) :
  QG X (.Tuple [.Name x px,.Name y py] k pos) (gP i j):=by
 intro pins s σ H v u Q I r zu
 obtain ⟨τ,ρ,G,d,τ',ab,rd,e,q⟩:=zu
 refine A7 (n:=2) hc (iU (ja hN hi hx hfx) (iU (ja hN hj hy Rj) yd)) rfl rfl pins s σ H v u Q I r ?_
 cases d<;>try (cases e;done)
 rename_i ds
 match ds,e with
 | [d1,d2],e=>
  cases e
  unfold Rep at rd
  obtain ⟨a,vs,rfl,sq,rs⟩:=rd
  obtain ⟨v1,v2,rfl,r1,r2⟩:=yq rs
  exact ⟨a,[v1,v2],rfl,sq,rfl,v1,[v2],rfl,v2,[],rfl,rfl,q _ (Ab.set (Ab.set ab r1) r2)⟩
noncomputable def Rk (K:XU) (a:Addr):It:=
 ⟨λi H=>∃ xs x,j0 K H a xs∧xs[i]?=some x,λi H y H'=>∃ x p,(∀ xs,j0 K H a xs→xs[i]?=some x)∧H p=none∧y=.ref p∧H'=upd H p (.tup [.int i,x]),λi H=>∃ xs,j0 K H a xs∧xs.length≤i⟩
theorem z8 {k:Nat} {pt:Pos} (l e it:Addr) (hne:e≠it):Turn P w K (.Tuple es k pt) (Rk K l) [e,it] e (λi h=>∃ old,IsEnum h e it i old∧h.IsListIter it l i) where
 mem:=by simp
 obj:=λi h zz b hb=>by
  obtain ⟨old,st1,st2⟩:=zz
  rcases Yn.mp hb with rfl | hb
  ·exact ⟨_,st1,λv z=>by cases z⟩
  ·have e:b=it:=by simpa using hb
   subst e
   obtain ⟨o,e,c,d⟩:=st2
   exact ⟨o,e,λv z=>by rw [d] at z;cases z⟩
 keep:=λi h h' zz kp=>by obtain ⟨old,st1,st2⟩:=zz;exact ⟨old,kp e (by simp) _ st1,st2.at λo q=>kp it (by simp) o q⟩
 item:=by
  intro X hP hw hK hc i pins s σ H E I hf zu hg
  obtain ⟨old,st1,st2⟩:=zu
  subst hP hw hK
  obtain ⟨xs,x,hq,hx⟩:=hg
  obtain ⟨its,rv,p,hz⟩:=I.list hq
  obtain ⟨u,hu,ru⟩:=rv.get hx
  have NZ:e<s.heap.objs.size:=X0 st1
  have Cn:it<s.heap.objs.size:=by obtain ⟨o,q,_⟩:=st2;exact X0 q
  refine wpAny_pyNext_enum_item st1 st2 p.isList (x:=u) (by simpa using hu) hne λh' hO hL htup hsz kp=>?_
  refine ⟨.ref s.heap.objs.size,rfl,?_⟩
  have I1:Inv X pins σ (upd H s.heap.objs.size (.tup [.int i,x])) {s with heap:=s.heap.push {cls:=.type "tuple",data:=.seq #[.int i s.toks,u]}}:=
   I.laid (t':=s.toks) (λb o q=>XW _ q) (X3 _) ⟨by simp [sizeLine_eq],[.int i s.toks,u],.cons ⟨_,rfl⟩ (.cons ru .nil),aa4 _ _⟩
  have hfree:=I.hok.fresh (X3 s.heap.objs.size)
  have hf1:∀ b∈[e,it],kJ X pins (upd H s.heap.objs.size (.tup [.int i,x])) b:=λb hb=>by
   have hlt:b≠s.heap.objs.size:=by
    rcases Yn.mp hb with rfl | hb
    ·exact Yg NZ
    ·rw [Yk.mp hb];exact Yg Cn
   exact ⟨by rw [aC hlt];exact (hf b hb).1,(hf b hb).2⟩
  unfold letOwnedTupleGo
  refine XS (aaQ hO ?_)
  dsimp only
  rw [if_pos (by simp)]
  refine XS (abx ?_)
  unfold updateField
  refine XS (aaQ hO ?_)
  dsimp only
  rw [if_pos (by simp)]
  refine ac2 hO ?_
  have pZ:∀ b,b≠e→(h'.update e (Zi λx=>x.setIfInBounds 0 Value.none)).get? b=h'.get? b:=λb hb=>Yt _ _ (Y6 hb)
  refine ⟨.ref s.heap.objs.size,_,su (t':=s.toks+1) (s:={s with heap:=s.heap.push {cls:=.type "tuple",data:=.seq #[.int i s.toks,u]}}) (ch:=[e,it]) I1 (λb o hb q=>?_) hf1,rfl,⟨x,s.heap.objs.size,λys hy=>by rw [I.lH hy hq];exact hx,hfree,rfl,rfl⟩,⟨u,?_,?_⟩,λb hb=>(hf1 b hb).1⟩
  ·have hb1:b≠e:=λz=>hb (by simp [z])
   have hb2:b≠it:=λz=>hb (by simp [z])
   show (h'.update e _).get? b=some o
   rw [pZ b hb1]
   by_cases Co:b=s.heap.objs.size
   ·subst Co
    have:=X6 (o:={cls:=.type "tuple",data:=.seq #[.int (i:Int) s.toks,u]}) s.heap rfl
    rw [this] at q;cases q
    exact htup
   ·have q':(s.heap.push {cls:=.type "tuple",data:=.seq #[.int (i:Int) s.toks,u]}).get? b=some o:=q
    refine kp b o hb1 hb2 ?_
    rwa [abE _ _ _ Co] at q'
  ·show (h'.update e _).get? e=_
   rw [YB _ hO rfl]
   rfl
  ·exact hL.at λo q=>(pZ it (Y6 hne)).trans q
 done:=by
  intro X hP hw hK hc i pins s σ H E I hf zu hg
  obtain ⟨old,st1,st2⟩:=zu
  subst hP hw hK
  obtain ⟨xs,hq,hx⟩:=hg
  obtain ⟨its,rv,p,hz⟩:=I.list hq
  obtain ⟨f0,f1,f2,f3,f4,f5⟩:=hf it (by simp)
  have hl:=rv.length
  exact wpAny_pyNext_enum_end (I.ok.hd hc) st1 st2 p.isList (by simp;nofun) λh' eb=>⟨rfl,I.turned (t':=s.toks) (λb o hb e=>eb b o hb e) f0 f1 f3 f4 f5⟩
 self:=λ_ _ _ _ _ zz h=>by obtain ⟨old,st1,_⟩:=zz;exact Z9 st1 h
noncomputable def iu (d:D):View:=λG i=>match aD G d with
 | some (.lst xs)=>some (xs[i]?.map λx=>.tup [.int i,x])
 | _=>none
noncomputable def uM (m:DS→M (List D)):MI:=λτ=>(m τ).bind λds=>match ds with
 | [d]=>λG=>match aD G d with
  | some (.lst xs)=>.ok (xs.length+1,iu d) G
  | _=>.stuck
 | _=>M.stop
theorem mL:bootBuiltins "enumerate"=some (.type "enumerate"):=by symm
theorem Ge (r:Rep K mg ρ0 H0 d (.ref l)) (hd:∃ xs,aD G0 d=some (.lst xs)):JV K mg (Rk K l) (iu d) H0 ρ0:=by
 intro i H ρ G f hp
 have key:∀ zs,aD G d=some (.lst zs)→∃ xs,j0 K H l xs∧aq K mg ρ H zs xs:=λzs q=>by
  have r':=Rep.mono f d _ r
  cases d with
  | con ws=>
   cases q
   unfold Rep at r'
   obtain ⟨a,xs,e,sq,rs⟩:=r'
   cases e
   exact ⟨xs,sq.seq,rs⟩
  | obj n=>
   unfold aD at q
   dsimp only at q
   unfold Rep at r'
   obtain ⟨a,e,e1⟩:=r'
   cases e
   cases g:G[n]? with
   | none=>rw [g] at q;cases q
   | some o=>
    cases o with
    | lst ws=>
     rw [g] at q;cases q
     obtain ⟨a',xs,e2,h2,rs⟩:=hp.lst g
     rw [e1] at e2;cases e2
     exact ⟨xs,.of h2,rs⟩
    | _=>first | (rw [q] at ok;exact ok.elim) | (rw [q] at aH;exact aH.elim) | (rw [q] at e;cases e;done) | (rw [g] at ok;exact ok.elim) | (rw [g] at q;cases q;done) | (rw [g] at h;cases h;done) | (rw [g2] at ok;exact ok.elim) | (rw [g1,g2] at ok;exact ok.elim) | (rw [q1] at ok;exact ok.elim) | exact ok.elim
  | tup ws=>cases q
  | str z=>cases q
  | _=>cases q
 unfold iu
 cases q:aD G d with
 | none=>exact ⟨λe=>(by cases e),λx e=>(by cases e)⟩
 | some sk=>
  cases sk with
  | tup zs=>exact ⟨λe=>(by cases e),λx e=>(by cases e)⟩
  | str z=>exact ⟨λe=>(by cases e),λx e=>(by cases e)⟩
  | lst zs=>
   obtain ⟨xs,sq,rs⟩:=key zs q
   dsimp only
   constructor
   ·intro e
    cases qi:zs[i]? with
    | some z=>rw [qi] at e;cases e
    | none=>exact ⟨xs,sq,by rw [← rs.length];exact YZ.mp qi⟩
   ·intro dd e
    cases qi:zs[i]? with
    | none=>rw [qi] at e;cases e
    | some z=>
     rw [qi] at e;cases e
     obtain ⟨v,ev,rv⟩:=rs.get qi
     refine ⟨⟨xs,v,sq,ev⟩,λy H' hy=>?_⟩
     obtain ⟨v',p,ev',hp0,rfl,rfl⟩:=hy
     have ev':=ev' xs sq
     rw [ev] at ev';cases ev'
     refine ⟨sr.new hp0,?_⟩
     unfold Rep
     refine ⟨p,[.int i,v],rfl,.of aX,.cons (by unfold Rep;rfl) (.cons (Rep.mono (cN hp0 ρ) _ _ rv) .nil)⟩
theorem Gf {k:Nat} {pt:Pos} (hm:X.mg "enumerate"=none) (nS:Gl X "enumerate") (ha:QA X EE [a] m) (h:ao [a]=true:=by rfl):QI X EE (.Tuple es k pt) (.Call (.Name "enumerate" p) [a] [] pc) (uM m):=by
 have h':br a=true∧ao []=true:=by simpa [ao] using h
 intro pins s σ H R I hq
 obtain ⟨τ,ρ,G,ab,ok⟩:=hq
 dsimp only [uM,M.bind] at ok
 refine Yo (fh I nS hm mL ?_ (by decide) (by decide))
 have hA:ie X.K X.mg EE m σ H λvs H1=>∃ ρ1 G1 ds,Ab X.K X.mg σ H1 τ ρ1 G1∧bX X.K H H1 ρ ρ1∧aq X.K X.mg ρ1 H1 ds vs∧m τ G=.ok ds G1:=by
  refine ⟨τ,ρ,G,ab,?_⟩
  cases e:m τ G with
  | stuck=>rw [e] at ok;exact ok
  | bB c G'=>rw [e] at ok;exact ok
  | ok ds G'=>exact λvs H' ρ' f bq r=>⟨ρ',G',ds,bq,f,r,rfl⟩
 refine Yr (cO (ha pc pins s σ H _ I hA) λus s1 oj=>?_) (aM h'.1 _ _) (aO (es:=[]) rfl)
 obtain ⟨vs,H1,I1,r1,ρ1,G1,ds,fW,f1,rs,em⟩:=oj
 rw [em] at ok
 dsimp only at ok
 match ds,rs,ok with
 | [],_,ok=>exact ok.elim
 | _::_::_,_,ok=>exact ok.elim
 | [d],rs,ok=>
  obtain ⟨x,rfl,rx⟩:=fX rs
  obtain ⟨u,rfl,ru⟩:=vals1 r1
  dsimp only at ok
  cases q:aD G1 d with
  | none=>rw [q] at ok;exact ok.elim
  | some sk=>
   rw [q] at ok
   cases sk with
   | tup zs=>exact ok.elim
   | str z=>exact ok.elim
   | lst zs=>
    dsimp only at ok
    obtain ⟨l,ys,rfl,sq,rv⟩:=bC (pins:=pins) (σ0:=σ) (s:=s1) fW.hp rx q
    cases ru
    obtain ⟨its,vv,pl,hz⟩:=I1.list sq
    refine call_enumerate_list pl.isList λh2 hE hL hsz kp=>?_
    refine Z9 hE ?_
    have I2:Inv X pins σ H1 {s1 with heap:=h2}:=I1.kept (t':=s1.toks) kp
    refine ⟨s1.heap.objs.size+1,[s1.heap.objs.size+1,s1.heap.objs.size],_,Rk X.K l,H1,rfl,I2,z8 l _ _ (abP _),⟨_,hE,hL⟩,λb hb=>?_,ok _ H1 ρ1 f1 fW (Ge rx ⟨zs,q⟩)⟩
    rcases Yn.mp hb with rfl | hb
    ·exact I1.l8 (aaU _) (I1.hok.fresh (aaU _))
    ·rw [Yk.mp hb]
     exact I1.l8 (X3 _) (I1.hok.fresh (X3 _))
end
theorem lz (h:n≤2000000):n≤XT:=by rw [sizeLine_eq];nofun
theorem nV (A:DH) (x:DO) (B:DH):(A++x::B)[A.length]?=some x:=by simp
theorem Rl (A:DH) (x y:DO) (B:DH):(A++x::y::B)[A.length+1]?=some y:=by
 rw [Yp (by nofun)];simp
theorem yC (A:DH) (x y:DO) (B:DH):(A++x::B).set A.length y=A++y::B:=by
 rw [acg _ _ (X3 _)];simp
theorem U8 (A:DH) (x y z:DO) (B:DH):(A++x::y::B).set (A.length+1) z=A++x::z::B:=by
 rw [acg _ _ (by nofun)];simp
theorem aP (g:Bool) (i j:Int) (G:DH):gj g (.int i) (.int j) G=.ok (.bl (g ^^ (i==j))) G:=by
 simp [gj,wN,jJ,ZF,Zk,Zn]
theorem sy (g:Bool) (a b:Str) (G:DH) (ha:X4 a=true) (hb:X4 b=true):gj g (.str a) (.str b) G=.ok (.bl (g ^^ (a==b))) G:=by
 simp [gj,wN,jJ,ZF,Zk,Zn,ha,hb]
theorem ng (G:DH):∀ ws:List Str,c9 (jJ G deep) (ws.map D.str)=some (ws.map aaD)
 | []=>rfl
 | w::ws=>by
  have ih:=ng G ws
  simp only [X8,c9,ih]
  rfl
theorem oU (t:Str) (ws:List Str) (G:DH) (h:X4 t=true) (hw:Za (ws.map aaD)=true):H8 (.str t) (ws.map D.str) G=some (ws.any (·==t)):=by
 have e1:jJ G deep (.str t)=some (.str t):=rfl
 unfold H8
 rw [e1,ng]
 dsimp only
 have c1:(aaD t).canLay0=true:=by simpa [ZF] using h
 have c3:min (Z0 (ws.map aaD)) (aaD t).depth≤580:=by
  have:(aaD t).depth≤580:=by simp [Zk]
  nofun
 rw [if_pos (by rw [c1,hw];simpa using c3)]
 simp only [List.any_map]
 congr 1
theorem good_add {a b:Str} (ha:X4 a=true) (hb:X4 b=true):X4 (a++b)=true:=by
 have e:(a++b).cps=a.cps++b.cps:=rfl
 unfold X4 at *
 rw [e,Array.all_append,ha,hb];rfl
theorem sA (a b:Str):(a++b).length=a.length+b.length:=by
 show (a.cps++b.cps).size=a.cps.size+b.cps.size
 simp
theorem iZ {α:Type} {xs:List α} {i:Int} (h0:0≤i) (h1:i<xs.length):∃ v,iV xs i=some v∧xs[i.toNat]?=some v:=by
 have hi:i.toNat<xs.length:=by nofun
 refine ⟨xs[i.toNat],?_,XZ hi⟩
 have:=j3 (xs:=xs) (j:=i.toNat) (v:=xs[i.toNat]) (XZ hi)
 rwa [show ((i.toNat:Nat):Int)=i by nofun] at this
theorem Lc (z:Str) (i:Int) (G:DH) (h0:0≤i) (h1:i<z.length) (hz:z.length≤1000) (hok:X4 z=true):∃ s,aU (.str z) (.int i) G=.ok (.str s) G∧X4 s=true∧s.length=1:=by
 have hs:z.length≤XT:=lz (by nofun)
 have hl:z.length=z.cps.toList.length:=by simp [Str.length]
 have hi:i.toNat<z.cps.toList.length:=by nofun
 obtain ⟨c,e,ec⟩:=iZ (xs:=z.cps.toList) (i:=i) h0 (by nofun)
 refine ⟨⟨#[c]⟩,?_,?_,rfl⟩
 ·simp only [aU,aD,if_pos hs,e]
 ·have h2:z.cps.toList.all (·<0x110000)=true:=by simpa [X4] using hok
  have:=aaG.mp h2 _ (Yy ec)
  simpa [X4] using this
theorem iL {j:Int} (h0:0≤j) (h1:j<100000):eF [.int j]=some ((YL 0 j.toNat).map λ(k:Nat)=>.int (0+(k:Int))):=by
 show (if -(2^62)≤j∧j<2^62 then some ((YF j.toNat).map λ(k:Nat)=>D.int (0+(k:Int))) else none)=_
 rw [if_pos ⟨by nofun,by nofun⟩,acq]
noncomputable def Res.sq (r:Res) (k:MS):Res:=match r with
 | .nx τ G=>k τ G
 | r=>r
noncomputable def Out.cs (r:Out Bool) (a b:MS) (τ:DS):Res:=match r with
 | .stuck=>.stuck
 | .ok c G=>if c=true then a τ G else b τ G
 | .bB c G=>.xn c τ G
noncomputable def Out.st (r:Out D) (i:Nat) (τ:DS):Res:=match r with
 | .stuck=>.stuck
 | .ok d G=>.nx (τ.set i (some d)) G
 | .bB c G=>.xn c τ G
noncomputable def Out.xp (r:Out D) (τ:DS):Res:=match r with
 | .stuck=>.stuck
 | .ok d G=>.nx τ G
 | .bB c G=>.xn c τ G
noncomputable def Out.rn (r:Out D) (τ:DS):Res:=match r with
 | .stuck=>.stuck
 | .ok d G=>.rt d G
 | .bB c G=>.xn c τ G
noncomputable def Out.bd {α β:Type} (r:Out α) (k:α→M β):Out β:=match r with
 | .stuck=>.stuck
 | .ok a G=>k a G
 | .bB c G=>.bB c G
noncomputable def Out.sb {α:Type} (r:Out α) (τ:DS) (k:α→DH→Res):Res:=match r with
 | .stuck=>.stuck
 | .ok a G=>k a G
 | .bB c G=>.xn c τ G
noncomputable def Res.fn (r:Res):Out D:=match r with
 | .stuck=>.stuck
 | .nx _ G'=>.ok .cz G'
 | .rt d G'=>.ok d G'
 | .bk _ _=>.stuck
 | .ct _ _=>.stuck
 | .xn c _ G'=>.bB c G'
noncomputable def Res.lp (r:Res) (k:MS):Res:=match r with
 | .nx τ G=>k τ G
 | .ct τ G=>k τ G
 | .bk τ G=>.nx τ G
 | r=>r
noncomputable def Rm (m k:MS):MS:=λτ G=>(m τ G).lp k
section
variable {m k:MS} {t ta tb:DS→M Bool} {a b:MS} {τ:DS} {G:DH} {e ma mb mo:DS→M D} {i n:Nat} {d:D} {c:XD} {α β:Type} {ml:DS→M (List D)} {f:D→D→M D} {fl:List D→M D}
@[simp] theorem bu:az m k τ G=(m τ G).sq k:=by
 unfold az Res.sq
 cases m τ G<;>rfl
@[simp] theorem cI:(Res.nx τ G).sq k=k τ G:=X5 rfl rfl
@[simp] theorem uN:(Res.rt d G).sq k=.rt d G:=X5 rfl rfl
@[simp] theorem Cp:Res.stuck.sq k=.stuck:=X5 rfl rfl
@[simp] theorem Cq:(Res.bk τ G).sq k=.bk τ G:=X5 rfl rfl
@[simp] theorem Cr:(Res.ct τ G).sq k=.ct τ G:=X5 rfl rfl
@[simp] theorem Ct:(Res.xn c τ G).sq k=.xn c τ G:=X5 rfl rfl
@[simp] theorem jF:gJ t a b τ G=(t τ G).cs a b τ:=by
 unfold gJ bE Out.cs
 cases t τ G<;>rfl
@[simp] theorem Ld:(Out.ok true G).cs a b τ=a τ G:=X5 rfl rfl
@[simp] theorem oV:(Out.ok false G).cs a b τ=b τ G:=X5 rfl rfl
@[simp] theorem U9:(Out.bB c G).cs a b τ=.xn c τ G:=X5 rfl rfl
@[simp] theorem jR:aF i e τ G=(e τ G).st i τ:=by
 unfold aF bE Out.st
 cases e τ G<;>rfl
@[simp] theorem nh:(Out.ok d G).st i τ=.nx (τ.set i (some d)) G:=X5 rfl rfl
@[simp] theorem Va:(Out.bB c G).st i τ=.xn c τ G:=X5 rfl rfl
@[simp] theorem sC:ig e τ G=(e τ G).xp τ:=by
 unfold ig bE Out.xp
 cases e τ G<;>rfl
@[simp] theorem Ii:(Out.ok d G).xp τ=.nx τ G:=X5 rfl rfl
@[simp] theorem Vb:(Out.bB c G).xp τ=.xn c τ G:=X5 rfl rfl
@[simp] theorem jS:bJ e τ G=(e τ G).rn τ:=by
 unfold bJ bE Out.rn
 cases e τ G<;>rfl
@[simp] theorem Cu:(Out.ok d G).rn τ=.rt d G:=X5 rfl rfl
@[simp] theorem Vc:(Out.bB c G).rn τ=.xn c τ G:=X5 rfl rfl
@[simp] theorem f7:bf τ G=.nx τ G:=X5 rfl rfl
@[simp] theorem Pq:Nv τ G=.rt .cz G:=X5 rfl rfl
@[simp] theorem aK {x:α} {q:α→M β}:(Out.ok x G).bd q=q x G:=X5 rfl rfl
@[simp] theorem Vd {q:α→M β}:(Out.bB c G).bd q=.bB c G:=X5 rfl rfl
@[simp] theorem Ve {q:α→M β}:(Out.stuck (α:=α)).bd q=.stuck:=X5 rfl rfl
@[simp] theorem ak {mm:M α} {q:α→M β}:M.bind mm q G=(mm G).bd q:=by
 unfold M.bind Out.bd
 cases mm G<;>rfl
@[simp] theorem di {x:α}:M.ret x G=.ok x G:=X5 rfl rfl
@[simp] theorem Rn:(M.stop (α:=α)) G=.stuck:=X5 rfl rfl
@[simp] theorem cP:af i τ G=match τ[i]? with
 | some (some d)=>.ok d G
 | _=>.stuck:=X5 rfl rfl
@[simp] theorem jo:eC d τ G=.ok d G:=X5 rfl rfl
@[simp] theorem f9:aj f ma mb τ G=(ma τ G).bd λx=>(mb τ).bind λy=>f x y:=ak
@[simp] theorem cX:ai fl ml τ G=(ml τ G).bd fl:=ak
@[simp] theorem bP:ah τ G=.ok [] G:=X5 rfl rfl
@[simp] theorem aZ:aa ma ml τ G=(ma τ G).bd λx=>(ml τ).bind λxs=>M.ret (x::xs):=ak
noncomputable def N1:D→M Bool
 | .bl b=>M.ret b
 | _=>M.stop
@[simp] theorem yE:cW e τ G=(e τ G).bd N1:=by
 unfold cW
 rw [ak]
 unfold Out.bd
 cases e τ G<;>try rfl
@[simp] theorem sD {b:Bool}:N1 (.bl b) G=.ok b G:=X5 rfl rfl
@[simp] theorem N2 {q:D→M Bool}:oF q e τ G=(e τ G).bd q:=ak
@[simp] theorem Pu:BL t τ G=(t τ G).bd λc=>M.ret (!c):=ak
@[simp] theorem Le:BK ta tb τ G=(ta τ G).bd λc=>if c=true then M.ret true else tb τ:=ak
@[simp] theorem Pw:dY ta tb τ G=(ta τ G).bd λc=>if c=true then tb τ else M.ret false:=ak
@[simp] theorem Ro {y:Ty}:FP y e τ G=(e τ G).bd (uE y):=ak
@[simp] theorem eX {mf:List D→M D}:aA n mf ml τ G=(ml τ G).bd λds=>if ds.length=n then mf ds else M.stop:=ak
@[simp] theorem lQ {T:String} {g:D→List D→M D}:cC T g mo ml τ G=(mo τ G).bd λd G=>if fY T G d=true then (ml τ G).bd (g d) else .stuck:=by
 unfold cC
 rw [ak]
 unfold Out.bd
 cases mo τ G with
 | stuck=>rfl
 | bB c G=>rfl
 | ok d G'=>simp only [ak];rfl
@[simp] theorem S9:Ux t ma mb τ G=(t τ G).bd λc=>if c=true then ma τ else mb τ:=ak
@[simp] theorem z9 {zj:List D→Option (List D)} {g:jI} {body:MS}:gx zj g ml body τ G=(ml τ G).sb τ λds G=>match zj ds with
  | some xs=>bU g body xs τ G
  | none=>.stuck:=by
 unfold gx bE Out.sb
 cases ml τ G<;>rfl
@[simp] theorem Cv {g:jI} {body:MS}:kR g e body τ G=(e τ G).sb τ λd G=>match d with
  | .obj n=>match G[n]? with
   | some (.lst xs)=>se g body n (xs.length+1) 0 τ G
   | _=>.stuck
  | .tup xs=>bU g body xs τ G
  | .con xs=>bU g body xs τ G
  | .str z=>bU g body (z.cps.toList.map λc=>.str ⟨#[c]⟩) τ G
  | _=>.stuck:=by
 unfold kR bE Out.sb
 cases e τ G<;>rfl
@[simp] theorem Gg {g:jI} {mi:MI} {body:MS}:kF g mi body τ G=(mi τ G).sb τ λx G=>kq g body x.2 x.1 0 τ G:=by
 unfold kF bE Out.sb
 cases mi τ G<;>rfl
@[simp] theorem Ij {x:α} {q:α→DH→Res}:(Out.ok x G).sb τ q=q x G:=X5 rfl rfl
@[simp] theorem Vf {q:α→DH→Res}:(Out.bB c G).sb τ q=.xn c τ G:=X5 rfl rfl
@[simp] theorem Gh {gO:D→Option (List D)} {ks:List Bool} {tt:DS→M Bool} {te:DS→M D}:jD gO ks e tt te τ G=(e τ G).bd λd G=>match d with
  | .obj k=>match G[k]? with
   | some (.lst xs)=>m8 gO ks tt te G.length k (xs.length+1) 0 τ (G++[.lst []])
   | _=>.stuck
  | .tup xs=>cM gO ks tt te G.length xs τ (G++[.lst []])
  | .con xs=>cM gO ks tt te G.length xs τ (G++[.lst []])
  | .str z=>cM gO ks tt te G.length (z.cps.toList.map λc=>.str ⟨#[c]⟩) τ (G++[.lst []])
  | _=>.stuck:=ak
@[simp] theorem oW {zj:List D→Option (List D)} {gO:D→Option (List D)} {ks:List Bool} {tt:DS→M Bool} {te:DS→M D}:dh zj gO ks ml tt te τ G=(ml τ G).bd λds G=>match zj ds with
  | some xs=>cM gO ks tt te G.length xs τ (G++[.lst []])
  | none=>.stuck:=ak
@[simp] theorem uO {gO:D→Option (List D)} {ks:List Bool} {mi:MI} {tt:DS→M Bool} {te:DS→M D}:fk gO ks mi tt te τ G=(mi τ G).bd λx G=>jE gO ks tt te G.length x.2 x.1 0 τ (G++[.lst []]):=ak
@[simp] theorem dm {ds:List D}:bQ n m ds G=(m (ds.map some++Yi (n - ds.length) none) G).fn:=by
 unfold bQ Res.fn
 cases m (ds.map some++Yi (n - ds.length) none) G<;>rfl
@[simp] theorem Tc:(Res.nx τ G).fn=.ok .cz G:=X5 rfl rfl
@[simp] theorem Ik:(Res.rt d G).fn=.ok d G:=X5 rfl rfl
@[simp] theorem Vg:(Res.xn c τ G).fn=.bB c G:=X5 rfl rfl
@[simp] theorem Te {lo hi:DS→M (Option Int)}:l6 e lo hi τ G=(e τ G).bd λd=>(lo τ).bind λl=>(hi τ).bind λh=>wO d l h:=ak
@[simp] theorem Px:fP τ G=.ok none G:=X5 rfl rfl
noncomputable def Il:D→M (Option Int)
 | .int i=>M.ret (some i)
 | _=>M.stop
@[simp] theorem Py:bR e τ G=(e τ G).bd Il:=by
 unfold bR
 rw [ak]
 unfold Out.bd
 cases e τ G<;>try rfl
@[simp] theorem Pz {i:Int}:Il (.int i) G=.ok (some i) G:=X5 rfl rfl
noncomputable def N3:D→M D
 | .int i=>M.ret (.int (-i))
 | _=>M.stop
@[simp] theorem Rp:mE e τ G=(e τ G).bd N3:=by
 unfold mE
 rw [ak]
 unfold Out.bd
 cases e τ G<;>try rfl
@[simp] theorem Rq {i:Int}:N3 (.int i) G=.ok (.int (-i)) G:=X5 rfl rfl
@[simp] theorem PB:uM ml τ G=(ml τ G).bd λds=>match ds with
 | [d]=>λG=>match aD G d with
  | some (.lst xs)=>.ok (xs.length+1,iu d) G
  | _=>.stuck
 | _=>M.stop:=ak
@[simp] theorem N4 {lF:Str→Option (List D→M D)}:kZ i n lF ml τ G=match τ[i]? with
 | some (some (.fn y))=>match lF y with
  | some mf=>aA n mf ml τ G
  | none=>.stuck
 | _=>.stuck:=X5 rfl rfl
@[simp] theorem N5:Rm m k τ G=(m τ G).lp k:=X5 rfl rfl
@[simp] theorem iw:(Res.nx τ G).lp k=k τ G:=X5 rfl rfl
@[simp] theorem Tf:(Res.ct τ G).lp k=k τ G:=X5 rfl rfl
@[simp] theorem Tg:(Res.bk τ G).lp k=.nx τ G:=X5 rfl rfl
@[simp] theorem Th:(Res.rt d G).lp k=.rt d G:=X5 rfl rfl
@[simp] theorem Ti:(Res.xn c τ G).lp k=.xn c τ G:=X5 rfl rfl
@[simp] theorem uP:f6 t m (n+1) τ G=(t τ G).cs (Rm m (f6 t m n)) bf τ:=by
 rw [f6]
 unfold bE Out.cs
 dsimp only
 cases t τ G with
 | stuck=>rfl
 | bB c G=>rfl
 | ok b G'=>
  cases b with
  | false=>rfl
  | true=>
   simp only [if_true]
   unfold Rm Res.lp
   cases m τ G'<;>rfl
theorem fB {body:MS}:bU g body [] τ G=.nx τ G:=X5 rfl rfl
theorem bZ {body:MS} {x:D} {r:List D} {τ1:DS} (h:g x τ=some τ1):bU g body (x::r) τ G=(body τ1 G).lp (bU g body r):=by
 rw [bU,h]
 dsimp only
 unfold Res.lp
 cases body τ1 G<;>rfl
end
section
variable {m k mb me:MS} {τ:DS} {G:DH} {e:DS→M D} {c:XD} {x:Str} {ml:DS→M (List D)} {d:D}
@[simp] theorem N6:BW x ml τ G=(ml τ G).sb τ λds G=>if ds.length≤XT then .xn (.mk x ds) τ G else .stuck:=by
 unfold BW bE Out.sb
 cases ml τ G<;>rfl
@[simp] theorem Tj {f:D→M D}:U3 f e τ G=(e τ G).bd f:=ak
noncomputable def Res.tr (r:Res) (mh:XD→MS) (me:MS):Res:=match r with
 | .nx τ' G'=>me τ' G'
 | .xn c τ' G'=>mh c τ' G'
 | r=>r
end
mutual
noncomputable def D.closed:D→Bool
 | .tup ds=>aV ds
 | .con ds=>aV ds
 | .obj _=>false
 | .uv _ _=>false
 | .iG _ _=>false
 | _=>true
noncomputable def aV:List D→Bool
 | []=>true
 | d::r=>d.closed&&aV r
end
noncomputable def oX (a b:DH):Bool:=@decide (a=b) (aaX _)
theorem qT (a:DH):oX a a=true:=@decide_eq_true _ (aaX _) rfl
theorem lR (a b:DH) (h:oX a b=true):a=b:=@of_decide_eq_true _ (aaX _) h
section
variable {K:XU} {mg:Str→Option XR} {H H':Hp} {ρ ρ':List Addr} {G G':DH}
mutual
theorem oY:∀ (d:D) (v:V),d.closed=true→Rep K mg ρ H d v→Rep K mg ρ' H d v
 | .cz,v,c,h=>by unfold Rep at h ⊢;exact h
 | .bl b,v,c,h=>by unfold Rep at h ⊢;exact h
 | .int i,v,c,h=>by unfold Rep at h ⊢;exact h
 | .str x,v,c,h=>by unfold Rep at h ⊢;exact h
 | .tup ds,v,c,h=>by
  unfold Rep at h ⊢
  obtain ⟨a,xs,e,s,r⟩:=h
  exact ⟨a,xs,e,s,fQ ds xs (by simpa [D.closed] using c) r⟩
 | .con ds,v,c,h=>by
  unfold Rep at h ⊢
  obtain ⟨a,xs,e,s,r⟩:=h
  exact ⟨a,xs,e,s,fQ ds xs (by simpa [D.closed] using c) r⟩
 | .obj n,v,c,h=>by simp [D.closed] at c
 | .fn x,v,c,h=>by unfold Rep at h ⊢;exact h
 | .uv _ _,v,c,h=>by simp [D.closed] at c
 | .iG _ _,v,c,h=>by simp [D.closed] at c
theorem fQ:∀ (ds:List D) (vs:List V),aV ds=true→aq K mg ρ H ds vs→aq K mg ρ' H ds vs
 | [],vs,c,h=>by unfold aq at h ⊢;exact h
 | d::ds,vs,c,h=>by
  have c':d.closed=true∧aV ds=true:=by simpa [aV] using c
  unfold aq at h ⊢
  obtain ⟨v,r,e,h1,h2⟩:=h
  exact ⟨v,r,e,oY d v c'.1 h1,fQ ds r c'.2 h2⟩
end
mutual
theorem Rep.back (p:∃ r,ρ'=ρ++r):∀ (d:D) (v0 v:V),Rep K mg ρ H d v0→Rep K mg ρ' H' d v→Rep K mg ρ H' d v
 | .cz,v0,v,h0,h=>by unfold Rep at h ⊢;exact h
 | .bl b,v0,v,h0,h=>by unfold Rep at h ⊢;exact h
 | .int i,v0,v,h0,h=>by unfold Rep at h ⊢;exact h
 | .str x,v0,v,h0,h=>by unfold Rep at h ⊢;exact h
 | .tup ds,v0,v,h0,h=>by
  unfold Rep at h0 h ⊢
  obtain ⟨a,xs,e,s,r⟩:=h
  obtain ⟨a0,ni,e0,s0,r0⟩:=h0
  exact ⟨a,xs,e,s,aq.back p ds ni xs r0 r⟩
 | .con ds,v0,v,h0,h=>by
  unfold Rep at h0 h ⊢
  obtain ⟨a,xs,e,s,r⟩:=h
  obtain ⟨a0,ni,e0,s0,r0⟩:=h0
  exact ⟨a,xs,e,s,aq.back p ds ni xs r0 r⟩
 | .obj n,v0,v,h0,h=>by
  unfold Rep at h0 h ⊢
  obtain ⟨a,e,q⟩:=h
  obtain ⟨a0,e0,q0⟩:=h0
  obtain ⟨r,rfl⟩:=p
  rw [Yd (XY.mp q0).1] at q
  exact ⟨a,e,q⟩
 | .fn x,v0,v,h0,h=>by unfold Rep at h ⊢;exact h
 | .uv c as,v0,v,h0,h=>by unfold Rep at h ⊢;exact h
 | .iG y ds,v0,v,h0,h=>by
  unfold Rep at h0 h ⊢
  obtain ⟨k,a,cs,xs,e,q0,q1,q2,r⟩:=h
  obtain ⟨_,_,_,ni,_,_,_,_,r0⟩:=h0
  exact ⟨k,a,cs,xs,e,q0,q1,q2,aq.back p ds ni xs r0 r⟩
theorem aq.back (p:∃ r,ρ'=ρ++r):∀ (ds:List D) (Pf vs:List V),aq K mg ρ H ds Pf→aq K mg ρ' H' ds vs→aq K mg ρ H' ds vs
 | [],Pf,vs,h0,h=>by unfold aq at h ⊢;exact h
 | d::ds,Pf,vs,h0,h=>by
  unfold aq at h0 h ⊢
  obtain ⟨v,r,e,h1,h2⟩:=h
  obtain ⟨v0,r0,e0,Q8,Vh⟩:=h0
  exact ⟨v,r,e,Rep.back p d v0 v Q8 h1,aq.back p ds r0 r Vh h2⟩
end
theorem fy.cut (h:fy K mg H ρ G) (p:∃ r,ρ'=ρ++r) (h':fy K mg H' ρ' G') (e:G'.take G.length=G):fy K mg H' ρ G:=by
 refine ⟨h.hl,h.nd,λn o q=>?_⟩
 have hn:n<G.length:=(XY.mp q).1
 have q':G'[n]?=some o:=by
  rw [← e,List.getElem?_take] at q
  rw [if_pos hn] at q;exact q
 obtain ⟨a0,e0,r0⟩:=h.ob n o q
 obtain ⟨a,e1,r1⟩:=h'.ob n o q'
 have ea:a=a0:=by
  obtain ⟨r,rfl⟩:=p
  rw [Yd (by rw [h.hl];exact hn),e0] at e1
  exact (Yu e1).symm
 subst ea
 refine ⟨a,e0,?_⟩
 cases o with
 | dct kv=>
  obtain ⟨xs,e2,rs⟩:=r1
  obtain ⟨ni,_,Aa⟩:=r0
  exact ⟨xs,e2,aq.back p _ ni xs Aa rs⟩
 | Mg f kv=>
  obtain ⟨xs,e2,rs⟩:=r1
  obtain ⟨ni,_,Aa⟩:=r0
  exact ⟨xs,e2,aq.back p _ ni xs Aa rs⟩
 | Mh kv=>
  obtain ⟨xs,e2,rs⟩:=r1
  obtain ⟨ni,_,Aa⟩:=r0
  exact ⟨xs,e2,aq.back p _ ni xs Aa rs⟩
 | ins c fs=>
  obtain ⟨C,dx,xs,m,e2,rs⟩:=r1
  obtain ⟨_,_,ni,_,_,Aa⟩:=r0
  exact ⟨C,dx,xs,m,e2,aq.back p _ ni xs Aa rs⟩
 | lst ds=>
  obtain ⟨xs,e2,rs⟩:=r1
  obtain ⟨ni,_,Aa⟩:=r0
  exact ⟨xs,e2,aq.back p ds ni xs Aa rs⟩
 | _=>exact r1
theorem lS {o:Obj} (e:H a=some (.lst xs)) (ρ:List Addr):bX K H (upd H a (.dF o (.lst xs))) ρ ρ:=by
 refine ⟨λb zs h=>?_,λb q u h=>by rw [aC (gz h e (by intro z;cases z))];exact h,⟨[],by simp⟩,λb φ h=>by rw [aC (gz h e (by intro z;cases z))];exact h⟩
 ·rw [pU] at h ⊢;rw [aC (gz h e (by intro z;cases z))];exact h
theorem fy.dF {o:Obj} (h:fy K mg H ρ G) (hn:ρ[n]?=some a) (e:H a=some (.lst xs)):fy K mg (upd H a (.dF o (.lst xs))) ρ (G.set n .dead):=by
 have f:bX K H (upd H a (.dF o (.lst xs))) ρ ρ:=lS e ρ
 refine ⟨by simp [h.hl],h.nd,λm ob q=>?_⟩
 by_cases hm:n=m
 ·subst hm
  rw [Y9,if_pos rfl] at q
  split at q
  ·cases q
   exact ⟨a,hn,_,aX⟩
  ·cases q
 ·rw [YD hm] at q
  obtain ⟨b,e1,r'⟩:=h.ob m ob q
  have hb:b≠a:=by
   rintro rfl
   obtain ⟨h1,yk⟩:=XY.mp hn
   obtain ⟨h2,yl⟩:=XY.mp e1
   exact hm ((Zt h.nd).mp (yk.trans yl.symm))
  exact ⟨b,e1,r'.mono f λu q=>by rw [aC hb];exact q⟩
end
section
variable {X:Cx} {EE:bO}
theorem yF (I:Inv X pins σ H s) (e:H a=some (.lst xs)):∃ o,Inv X pins σ (upd H a (.dF o (.lst xs))) s:=by
 obtain ⟨z,its,n,r,hg⟩:=I.hok a _ e
 refine ⟨_,I.un (H':=upd H a (.dF {cls:=.type "list",data:=.seq its.toArray n} (.lst xs))) (h':=s.heap) (t':=s.toks) ⟨λb o q _ _ _=>q,λb o q _ _ _=>⟨o.slots,q⟩,λb o q hn _=>?_,λb o q _=>⟨o,q⟩,λb ys q=>?_,λb o u q=>?_,λb ps q=>⟨#[],?_⟩⟩ λb u q=>?_⟩
 ·rw [aC (by rintro rfl;rw [e] at hn;cases hn)];exact hn
 ·rw [aC (gz q e (by intro z;cases z))];exact q
 ·rw [aC (gz q e (by intro z;cases z))];exact q
 ·rw [aC (gz q e (by intro z;cases z)),q];simp
 ·have ho:∀ c y,H c=some (.own y)→upd H a (.dF {cls:=.type "list",data:=.seq its.toArray n} (.lst xs)) c=some (.own y):=λc y w=>by rw [aC (gz w e (by intro z;cases z))];exact w
  have ht:∀ c ys,H c=some (.tup ys)→upd H a (.dF {cls:=.type "list",data:=.seq its.toArray n} (.lst xs)) c=some (.tup ys):=λc ys w=>by rw [aC (gz w e (by intro z;cases z))];exact w
  by_cases hb:b=a
  ·subst hb
   rw [aX] at q;cases q
   exact ⟨hg,(I.hok b _ e).stay (λ_ _ _ w=>w) (λc w=>ho c b w) ht⟩
  ·rw [aC hb] at q
   exact (I.hok b u q).stay (λ_ _ _ w=>w) (λc w=>ho c b w) ht
noncomputable def sE (m:DS→M D):DS→M D:=λτ G=>match m τ G with
 | .ok (.obj n) G'=>match G'[n]? with
  | some (.lst ds)=>.ok (.con ds) (G'.set n .dead)
  | _=>.stuck
 | r=>r
noncomputable def eFn (m:DS→M D):DS→M D:=λτ G=>match m τ G with
 | .ok (.obj n) G'=>match G'[n]? with
  | some (.lst ds)=>if n=G.length∧G'.length=n+1∧oX (G'.take G.length) G=true∧aV ds=true then .ok (.con ds) G else .stuck
  | _=>.stuck
 | r=>r
theorem w6 {Q Q':VK} {u:XR} (h:EP X pins σ Q' u s) (hq:∀ v H',Q' v H'→Q v H'∨∃ a xs,v=.ref a∧H' a=some (.lst xs)∧∀ o,Q v (upd H' a (.dF o (.lst xs)))):EP X pins σ Q u s:=by
 obtain ⟨v,H',I,r,q⟩:=h
 rcases hq v H' q with q | ⟨a,xs,rfl,e,q⟩
 ·exact ⟨v,H',I,r,q⟩
 ·obtain ⟨o,I'⟩:=yF I e
  exact ⟨_,_,I',r,q o⟩
theorem N7 (ha:QE X EE e m):QE X EE e (sE m):=by
 intro pins s σ H Q I zu
 obtain ⟨τ,ρ,G,ab,ok⟩:=zu
 dsimp only [sE] at ok
 cases q:m τ G with
 | stuck=>rw [q] at ok;exact ok.elim
 | bB c G'=>rw [q] at ok;exact ha pins s σ H Q I ⟨τ,ρ,G,ab,by rw [q];exact ok⟩
 | ok d G'=>
  rw [q] at ok
  by_cases hd:∃ n,d=.obj n
  ·obtain ⟨n,rfl⟩:=hd
   dsimp only at ok
   cases g:G'[n]? with
   | none=>rw [g] at ok;exact ok.elim
   | some o=>
    rw [g] at ok
    cases o with
    | lst ds=>
     refine cO (ha pins s σ H (λv H'=>∃ a xs,v=.ref a∧H' a=some (.lst xs)∧∀ o,Q v (upd H' a (.dF o (.lst xs)))) I ⟨τ,ρ,G,ab,?_⟩) λu s' h=>w6 h λv H' q=>.inr q
     rw [q]
     intro v H' ρ' f bq r
     unfold Rep at r
     obtain ⟨a,rfl,hn⟩:=r
     obtain ⟨a',xs,e1,e2,rs⟩:=bq.hp.lst g
     rw [hn] at e1;cases e1
     refine ⟨a,xs,rfl,e2,λob=>?_⟩
     have f2:bX X.K H' (upd H' a (.dF ob (.lst xs))) ρ' ρ':=lS e2 ρ'
     refine ok _ _ ρ' (f.trans f2) ⟨bq.st.mono f2,bq.hp.dF hn e2⟩ ?_
     unfold Rep
     exact ⟨a,xs,rfl,.inl ⟨ob,aX⟩,rs.mono f2⟩
    | _=>exact ok.elim
  ·have ok':iI X.K X.mg EE H σ τ ρ (.ok d G') Q:=by
    cases d<;>first | exact ok | exact absurd ⟨_,rfl⟩ hd
   exact ha pins s σ H Q I ⟨τ,ρ,G,ab,by rw [q];exact ok'⟩
theorem Lf (ha:QE X EE e m):QE X EE e (eFn m):=by
 intro pins s σ H Q I zu
 obtain ⟨τ,ρ,G,ab,ok⟩:=zu
 dsimp only [eFn] at ok
 cases q:m τ G with
 | stuck=>rw [q] at ok;exact ok.elim
 | bB c G'=>rw [q] at ok;exact ha pins s σ H Q I ⟨τ,ρ,G,ab,by rw [q];exact ok⟩
 | ok d G'=>
  rw [q] at ok
  by_cases hd:∃ n,d=.obj n
  ·obtain ⟨n,rfl⟩:=hd
   dsimp only at ok
   cases g:G'[n]? with
   | none=>rw [g] at ok;exact ok.elim
   | some o=>
    rw [g] at ok
    cases o with
    | lst ds=>
     dsimp only at ok
     by_cases hc:n=G.length∧G'.length=n+1∧oX (G'.take G.length) G=true∧aV ds=true
     ·rw [if_pos hc] at ok
      obtain ⟨hn0,hl,hb,hcl⟩:=hc
      refine cO (ha pins s σ H (λv H'=>∃ a xs,v=.ref a∧H' a=some (.lst xs)∧∀ o,Q v (upd H' a (.dF o (.lst xs)))) I ⟨τ,ρ,G,ab,?_⟩) λu s' h=>w6 h λv H' q=>.inr q
      rw [q]
      intro v H' ρ' f bq r
      unfold Rep at r
      obtain ⟨a,rfl,hn⟩:=r
      obtain ⟨a',xs,e1,e2,rs⟩:=bq.hp.lst g
      rw [hn] at e1;cases e1
      refine ⟨a,xs,rfl,e2,λob=>?_⟩
      have f2:bX X.K H' (upd H' a (.dF ob (.lst xs))) ρ' ρ':=lS e2 ρ'
      have f3:bX X.K H (upd H' a (.dF ob (.lst xs))) ρ ρ:=⟨λb ys w=>f2.tup b ys (f.tup b ys w),λb o u w=>f2.dF b o u (f.dF b o u w),⟨[],by simp⟩,λb φ w=>f2.ext b φ (f.ext b φ w)⟩
      have hp2:=bq.hp.dF (o:=ob) hn e2
      have sF:fy X.K X.mg (upd H' a (.dF ob (.lst xs))) ρ G:=ab.hp.cut f.pre hp2 (by
       rw [abl (by nofun)]
       exact lR _ _ hb)
      refine ok _ _ ρ f3 ⟨ab.st.mono f3,sF⟩ ?_
      unfold Rep
      exact ⟨a,xs,rfl,.inl ⟨ob,aX⟩,fQ ds xs hcl (rs.mono f2)⟩
     ·rw [if_neg hc] at ok;exact ok.elim
    | _=>exact ok.elim
  ·have ok':iI X.K X.mg EE H σ τ ρ (.ok d G') Q:=by
    cases d<;>first | exact ok | exact absurd ⟨_,rfl⟩ hd
   exact ha pins s σ H Q I ⟨τ,ρ,G,ab,by rw [q];exact ok'⟩
end
noncomputable def cB (m:List D→M D):List D→M D:=λds G=>match m ds G with
 | .ok d G'=>if oX (G'.take G.length) G=true∧d.closed=true then .ok d G else .stuck
 | .bB c G'=>if oX (G'.take G.length) G=true then .bB c G else .stuck
 | .stuck=>.stuck
section
variable {K:XU} {mg:Str→Option XR} {n:Nat} {m:List D→M D}
theorem uQ (f:bX K H H' ρ ρ'):bX K H H' ρ ρ:=⟨f.tup,f.dF,⟨[],by simp⟩,f.ext⟩
theorem sG (vs:List V) (H:Hp) (Q:VK) (E:XK) (h:fU K mg n (cB m) vs H Q E):fU K mg n m vs H Q E:=by
 obtain ⟨ds,ρ,G,hl,hp,rs,ok⟩:=h
 refine ⟨ds,ρ,G,hl,hp,rs,?_⟩
 dsimp only [cB] at ok
 cases q:m ds G with
 | stuck=>rw [q] at ok;exact ok
 | ok d G'=>
  rw [q] at ok
  dsimp only at ok
  by_cases hc:oX (G'.take G.length) G=true∧d.closed=true
  ·rw [if_pos hc] at ok
   intro v H' ρ' f AW r
   exact ok v H' ρ (uQ f) (hp.cut f.pre AW (lR _ _ hc.1)) (oY d v hc.2 r)
  ·rw [if_neg hc] at ok;exact ok.elim
 | bB c G'=>
  rw [q] at ok
  dsimp only at ok
  by_cases hc:oX (G'.take G.length) G=true
  ·rw [if_pos hc] at ok
   intro cls H' ρ' hcl f AW
   exact ok cls H' ρ hcl (uQ f) (hp.cut f.pre AW (lR _ _ hc))
  ·rw [if_neg hc] at ok;exact ok.elim
end
noncomputable def rS (K:XU) (a:Addr) (n:Nat):It:=
 ⟨λi H=>∃ xs x,j0 K H a xs∧xs.length=n∧i<n∧xs[n - 1 - i]?=some x,λi H y H'=>H'=H∧∀ xs,j0 K H a xs→xs[n - 1 - i]?=some y,λi H=>i=n⟩
theorem Cw (a it:Addr) (n:Nat):Turn P w K tg (rS K a n) [it] it (λi h=>h.IsRevIter it a ((n:Int) - 1 - (i:Int))) where
 mem:=by simp
 obj:=λi h st b hb=>by
  have e:b=it:=by simpa using hb
  subst e
  obtain ⟨o,e,c,d⟩:=st
  exact ⟨o,e,λv z=>by rw [d] at z;cases z⟩
 keep:=λi h h' st k=>st.at λo e=>k it (by simp) o e
 item:=by
  intro X hP hw hK hc i pins s σ H E I hf st hg
  subst hP hw hK
  obtain ⟨xs,x,hq,hn,hi,hx⟩:=hg
  obtain ⟨its,rv,p,hz⟩:=I.list hq
  obtain ⟨u,hu,ru⟩:=rv.get hx
  obtain ⟨f0,f1,f2,f3,f4,f5⟩:=hf it (by simp)
  have e:(n:Int) - 1 - (i:Int)=((n - 1 - i:Nat):Int):=by nofun
  rw [e] at st
  refine wpAny_pyNext_rev_item st p.isList (x:=u) (by simpa using hu) λh' st' sb=>?_
  have I1:Inv X pins σ H {s with heap:=h'}:=I.turned (t':=s.toks) (λb o hb e=>(sb.2 b hb).trans e) f0 f1 f3 f4 f5
  have e2:((n - 1 - i:Nat):Int) - 1=(n:Int) - 1 - ((i+1:Nat):Int):=by nofun
  rw [e2] at st'
  obtain ⟨o,e,c,d⟩:=id st'
  exact ⟨u,rfl,n6 (s:={s with heap:=h'}) e c d (by decide) ⟨x,H,I1,ru,⟨rfl,λys hy=>by rw [I.lH hy hq];exact hx⟩,st',λb hb=>(hf b hb).1⟩⟩
 done:=by
  intro X hP hw hK hc i pins s σ H E I hf st hg
  subst hP hw hK
  have hi:i=n:=hg
  subst hi
  obtain ⟨f0,f1,f2,f3,f4,f5⟩:=hf it (by simp)
  rw [show (i:Int) - 1 - (i:Int)=-1 by nofun] at st
  exact wpAny_pyNext_rev_end (I.ok.hd hc) st λh' eb=>⟨rfl,I.turned (t':=s.toks) (λb o hb e=>eb b o hb e) f0 f1 f3 f4 f5⟩
 self:=λ_ _ _ _ _ st h=>ZE st h
noncomputable def w9 (d:D) (n:Nat):View:=λG i=>match aD G d with
 | some (.lst xs)=>if xs.length=n then (if i=n then some none else if i<n then some xs[n - 1 - i]? else none) else none
 | _=>none
noncomputable def Gi (m:DS→M (List D)):MI:=λτ=>(m τ).bind λds=>match ds with
 | [d]=>λG=>match aD G d with
  | some (.lst xs)=>.ok (xs.length+1,w9 d xs.length) G
  | _=>.stuck
 | _=>M.stop
section
variable {X:Cx} {EE:bO} {tg iter a b:Expr} {g:jI} {mi:MI} {ms:MS} {pos p pc:Pos} {m:DS→M (List D)}
theorem Cy {G':DH} {ws:List D} (f:bX X.K H H' ρ ρ') (rx:Rep X.K X.mg ρ H d (.ref l)) (hp:fy X.K X.mg H' ρ' G') (q:aD G' d=some (.lst ws)):∃ xs,j0 X.K H' l xs∧aq X.K X.mg ρ' H' ws xs:=by
 have PC:=rx.mono f
 cases d with
 | con ds=>
  cases q
  unfold Rep at PC
  obtain ⟨a',xs,e,s,r⟩:=PC
  cases e
  exact ⟨xs,s.seq,r⟩
 | obj n=>
  unfold Rep at PC
  obtain ⟨a',e,r⟩:=PC
  cases e
  dsimp only [aD] at q
  cases g:G'[n]? with
  | none=>rw [g] at q;cases q
  | some o=>
   cases o with
   | lst ys=>
    rw [g] at q;cases q
    obtain ⟨a',xs,e1,e2,rs⟩:=hp.lst g
    rw [r] at e1;cases e1
    exact ⟨xs,.inl (.of e2),rs⟩
   | _=>rw [g] at q;cases q
 | _=>cases q
theorem Lg (rx:Rep X.K X.mg ρ H d (.ref l)):JV X.K X.mg (rS X.K l n) (w9 d n) H ρ:=by
 intro i H' ρ' G' f hp
 unfold w9
 cases q:aD G' d with
 | none=>exact ⟨λe=>(by cases e),λx e=>(by cases e)⟩
 | some sk=>
  cases sk with
  | tup zs=>exact ⟨λe=>(by cases e),λx e=>(by cases e)⟩
  | str z=>exact ⟨λe=>(by cases e),λx e=>(by cases e)⟩
  | lst zs=>
   dsimp only
   by_cases hn:zs.length=n
   ·rw [if_pos hn]
    by_cases hi:i=n
    ·rw [if_pos hi]
     exact ⟨λ_=>hi,λx e=>(by cases e)⟩
    ·rw [if_neg hi]
     by_cases hlt:i<n
     ·rw [if_pos hlt]
      obtain ⟨xs,sq,rs⟩:=Cy f rx hp q
      refine ⟨λe=>?_,λx e=>?_⟩
      ·have:=Yu e
       rw [YZ] at this
       nofun
      ·have e':=Yu e
       obtain ⟨v,hv,rv⟩:=rs.get e'
       refine ⟨⟨xs,v,sq,by rw [← rs.length];exact hn,hlt,hv⟩,λy H2 hy=>?_⟩
       obtain ⟨rfl,hy⟩:=hy
       have:=hy xs sq
       rw [hv] at this;cases this
       exact ⟨⟨.refl,λ_ h=>h⟩,rv⟩
     ·rw [if_neg hlt];exact ⟨λe=>(by cases e),λx e=>(by cases e)⟩
   ·rw [if_neg hn];exact ⟨λe=>(by cases e),λx e=>(by cases e)⟩
theorem Lh (hm:X.mg "reversed"=none) (nS:Gl X "reversed") (ha:QA X EE [a] m) (h:ao [a]=true:=by rfl):QI X EE tg (.Call (.Name "reversed" p) [a] [] pc) (Gi m):=by
 have h':br a=true∧ao []=true:=by simpa [ao] using h
 intro pins s σ H R I hq
 obtain ⟨τ,ρ,G,ab,ok⟩:=hq
 dsimp only [Gi,M.bind] at ok
 refine Yo (fh I nS hm jQ ?_ (by decide) (by decide))
 have hA:ie X.K X.mg EE m σ H λvs H1=>∃ ρ1 G1 ds,Ab X.K X.mg σ H1 τ ρ1 G1∧bX X.K H H1 ρ ρ1∧aq X.K X.mg ρ1 H1 ds vs∧m τ G=.ok ds G1:=by
  refine ⟨τ,ρ,G,ab,?_⟩
  cases e:m τ G with
  | stuck=>rw [e] at ok;exact ok
  | bB c G'=>rw [e] at ok;exact ok
  | ok ds G'=>exact λvs H' ρ' f bq r=>⟨ρ',G',ds,bq,f,r,rfl⟩
 refine Yr (cO (ha pc pins s σ H _ I hA) λus s1 oj=>?_) (aM h'.1 _ _) (aO (es:=[]) rfl)
 obtain ⟨vs,H1,I1,r1,ρ1,G1,ds,fW,f1,rs,em⟩:=oj
 rw [em] at ok
 dsimp only at ok
 match ds,rs,ok with
 | [],_,ok=>exact ok.elim
 | _::_::_,_,ok=>exact ok.elim
 | [d],rs,ok=>
  obtain ⟨x,rfl,rx⟩:=fX rs
  obtain ⟨u,rfl,ru⟩:=vals1 r1
  dsimp only at ok
  cases q:aD G1 d with
  | none=>rw [q] at ok;exact ok.elim
  | some sk=>
   rw [q] at ok
   cases sk with
   | tup zs=>exact ok.elim
   | str z=>exact ok.elim
   | lst zs=>
    dsimp only at ok
    obtain ⟨l,ys,rfl,sq,rv⟩:=bC (pins:=pins) (σ0:=σ) (s:=s1) fW.hp rx q
    cases ru
    obtain ⟨its,vv,pl,hz⟩:=I1.list sq
    refine call_reversed_list pl.isList ?_
    have hst:(s1.heap.push (revObj l ((its.toArray.size:Int) - 1))).IsRevIter s1.heap.objs.size l ((its.toArray.size:Int) - 1):=⟨_,X6 _ rfl,rfl,rfl⟩
    refine ZE (s:={s1 with heap:=s1.heap.push (revObj l ((its.toArray.size:Int) - 1))}) hst ?_
    have I2:Inv X pins σ H1 {s1 with heap:=s1.heap.push (revObj l ((its.toArray.size:Int) - 1))}:=I1.kept (t':=s1.toks) λb o e=>XW _ e
    have hlen:its.toArray.size=zs.length:=by rw [Yb,← vv.length,rv.length]
    refine ⟨s1.heap.objs.size,[s1.heap.objs.size],_,rS X.K l zs.length,H1,rfl,I2,Cw l _ _,?_,λb hb=>?_,ok _ H1 ρ1 f1 fW (Lg rx)⟩
    ·show (s1.heap.push (revObj l ((its.toArray.size:Int) - 1))).IsRevIter s1.heap.objs.size l ((zs.length:Int) - 1 - ((0:Nat):Int))
     rw [← hlen]
     simpa using hst
    ·rw [Yk.mp hb]
     exact I1.l8 (X3 _) (I1.hok.fresh (X3 _))
end
noncomputable def N8 (d e:D):View:=λG i=>match aD G d,aD G e with
 | some (.lst xs),some (.lst ys)=>some (match xs[i]?,ys[i]? with
  | some x,some y=>some (.tup [x,y])
  | _,_=>none)
 | _,_=>none
noncomputable def Rr (m:DS→M (List D)):MI:=λτ=>(m τ).bind λds=>match ds with
 | [d,e]=>λG=>match aD G d,aD G e with
  | some (.lst xs),some (.lst ys)=>.ok (min xs.length ys.length+1,N8 d e) G
  | _,_=>.stuck
 | _=>M.stop
section
open PyProof.Rows
section
variable {X:Cx} {EE:bO} {a b e:Expr} {ma mb:DS→M D} {pos:Pos}
theorem Gj:ia X (binaryOp .Add) (λx y H Q=>∃ l b xs zs,x=.ref l∧y=.ref b∧j0 X.K H l xs∧j0 X.K H b zs∧xs.length+zs.length≤XT∧∀ p,H p=none→Q (.ref p) (upd H p (.lst (xs++zs)))):=by
 intro pins s σ H x y v u Q I rx ry h
 obtain ⟨l,b,xs,zs,rfl,rfl,hH,hB,hz,q⟩:=h
 cases rx
 cases ry
 obtain ⟨its,r,⟨o,n,e,c,dn,d⟩,hl⟩:=I.list hH
 obtain ⟨its2,r2,⟨o2,n2,e2,c2,N9,d2⟩,hl2⟩:=I.list hB
 obtain ⟨cls,dd,data,sl⟩:=o
 obtain ⟨EZ,dd2,data2,sl2⟩:=o2
 simp only at c dn d c2 N9 d2
 subst c dn d c2 N9 d2
 have hlen:=r.length
 have hlen2:=r2.length
 have ea:its.toArray++its2.toArray=(its++its2).toArray:=by simp
 refine concat_meets ⟨_,e,rfl⟩ ⟨_,e2,rfl⟩ noFill_list_add seq_list_add PySem.F.slot_list_add PySem.F.entry_list_add (PySem.F.args_list_add_2 _ _) (list_addW l b its.toArray its2.toArray n n2 _ _ sl sl2 (by simp only [Yb];nofun)) ⟨e,e2,?_⟩
 rw [ea]
 exact ⟨.ref _,_,I.Nc (t':=s.toks) (r.append r2) (by rw [Yx];nofun),rfl,q _ I.fresh⟩
theorem Gk:ia X (binaryOp .Add) (λx y H Q=>∃ a b ys,x=.ref a∧y=.ref b∧kI X.K H a []∧kI X.K H b ys∧Q (.ref b) H):=by
 intro pins s σ H x y v u Q I rx ry h
 obtain ⟨a,b,ys,rfl,rfl,ha,hb,q⟩:=h
 cases rx
 cases ry
 obtain ⟨its,r1,p1,_⟩:=I.tuple ha
 obtain ⟨its2,r2,p2,_⟩:=I.tuple hb
 have e0:its=[]:=by cases r1;rfl
 subst e0
 obtain ⟨⟨cls,dd,data,sl⟩,ho,hc,n,hd⟩:=id p1
 obtain ⟨⟨EZ,dd2,data2,sl2⟩,ho2,hc2,n2,hd2⟩:=id p2
 simp only at hc hd hc2 hd2
 subst hc hd hc2 hd2
 exact concat_meets ⟨_,ho,rfl⟩ ⟨_,ho2,rfl⟩ noFill_tuple_add seq_tuple_add aa1 aaV (aaM _ _)
   (tuple_addW0 a b _ _ n n2 dd dd2 sl sl2 (by simp)) ⟨ho,ho2,⟨.ref b,H,I,rfl,q⟩⟩
noncomputable def kr (G:DH):D→Option (List D)
 | .con xs=>some xs
 | .obj n=>match G[n]? with
  | some (.lst xs)=>some xs
  | _=>none
 | _=>none
theorem oZ {xs:List D} (h:kr G d=some xs):aD G d=some (.lst xs):=by
 cases d with
 | con ys=>cases h;rfl
 | obj n=>
  dsimp only [kr] at h
  dsimp only [aD]
  cases g:G[n]? with
  | none=>rw [g] at h;cases h
  | some o=>
   cases o with
   | lst ys=>rw [g] at h;cases h;rfl
   | _=>rw [g] at h;cases h
 | _=>cases h
noncomputable def aJ (d e:D):M D:=λG=>match d,e with
 | .int i,.int j=>.ok (.int (i+j)) G
 | .str i,.str j=>if i.length+j.length≤XT then .ok (.str (i++j)) G else .stuck
 | .tup [],.tup ys=>.ok (.tup ys) G
 | .tup (x::xs),.tup ys=>aY (x::xs++ys) G
 | d,e=>match kr G d,kr G e with
  | some xs,some ys=>aI (xs++ys) G
  | _,_=>.stuck
theorem Gm:ia X (binaryOp .Add) (rD X EE aJ):=by
 intro pins s σ0 H x y v u Q I rx ry zu
 obtain ⟨σ,τ,ρ,G,d,e,ab,r1,r2,ok⟩:=zu
 have lists:∀ xs ys,kr G d=some xs→kr G e=some ys→iI X.K X.mg EE H σ τ ρ (aI (xs++ys) G) Q→Ye (model X.prog X.w) X.A (binaryOp .Add v u) (EP X pins σ0 Q) X.xe s:=λxs ys h1 h2 ok=>by
  obtain ⟨l,vs,rfl,s1,t1⟩:=bC (pins:=pins) (σ0:=σ0) (s:=s) ab.hp r1 (oZ h1)
  obtain ⟨l2,ws,rfl,s2,t2⟩:=bC (pins:=pins) (σ0:=σ0) (s:=s) ab.hp r2 (oZ h2)
  obtain ⟨hl,q1⟩:=kP ab (t1.append t2) ok
  rw [Yx] at hl
  exact Gj pins s σ0 H _ _ v u Q I rx ry ⟨l,l2,vs,ws,rfl,rfl,s1,s2,hl,q1⟩
 have rest:(iI X.K X.mg EE H σ τ ρ (match kr G d,kr G e with
  | some xs,some ys=>aI (xs++ys) G
  | _,_=>.stuck) Q)→Ye (model X.prog X.w) X.A (binaryOp .Add v u) (EP X pins σ0 Q) X.xe s:=λok=>by
  cases h1:kr G d with
  | none=>rw [h1] at ok;exact ok.elim
  | some xs=>
   cases h2:kr G e with
   | none=>rw [h1,h2] at ok;exact ok.elim
   | some ys=>rw [h1,h2] at ok;exact lists xs ys h1 h2 ok
 cases d with
 | int i=>
  cases e with
  | int j=>
   unfold Rep at r1 r2;subst r1 r2
   exact JA pins s σ0 H _ _ v u Q I rx ry ⟨i,j,rfl,rfl,ok _ H ρ .refl ab (by unfold Rep;rfl)⟩
  | _=>exact rest ok
 | str i=>
  cases e with
  | str j=>
   unfold Rep at r1 r2;subst r1 r2
   dsimp only [aJ] at ok
   by_cases h:i.length+j.length≤XT
   ·rw [if_pos h] at ok
    exact wm pins s σ0 H _ _ v u Q I rx ry ⟨i,j,rfl,rfl,h,ok _ H ρ .refl ab (by unfold Rep;rfl)⟩
   ·rw [if_neg h] at ok;exact ok.elim
  | _=>exact rest ok
 | tup xs=>
  cases e with
  | tup ys=>
   have r2':=r2
   unfold Rep at r1 r2
   obtain ⟨p,vs,rfl,s1,t1⟩:=r1
   obtain ⟨q,ws,rfl,s2,t2⟩:=r2
   cases xs with
   | nil=>
    have hv:vs=[]:=by have:=t1.length;cases vs with | nil=>rfl | cons _ _=>simp at this
    subst hv
    exact Gk pins s σ0 H _ _ v u Q I rx ry ⟨p,q,ws,rfl,rfl,s1,s2,ok _ H ρ .refl ab r2'⟩
   | cons x xs=>
    have ok':iI X.K X.mg EE H σ τ ρ (aY (x::xs++ys) G) Q:=ok
    have Vi:=t1.append t2
    obtain ⟨hl,q1⟩:=oE ab Vi ok'
    rw [Yx] at hl
    have hv:vs≠[]:=by
     intro z;subst z
     have:=t1.length
     simp at this
    refine E4 pins s σ0 H _ _ v u Q I rx ry ⟨p,q,vs,ws,rfl,rfl,s1,s2,hv,hl,λz=>?_,λz p hp=>q1 p hp⟩
    subst z
    have hy:ys=[]:=by
     have:=t2.length
     cases ys with
     | nil=>rfl
     | cons _ _=>simp at this
    subst hy
    unfold aY at ok'
    split at ok'
    ·exact ok' _ H ρ .refl ab (by rw [YW];unfold Rep;exact ⟨p,vs,rfl,s1,t1⟩)
    ·exact ok'.elim
  | _=>cases xs<;>exact rest ok
 | _=>exact rest (by cases e<;>exact ok)
theorem Gn (ha:QE X EE a ma) (hb:QE X EE b mb):QE X EE (.BinOp a .Add b pos) (aj aJ ma mb):=iW Gm jN ha hb
theorem Li {f:Flow} (h:SP X pins D' f s) (hb:D'.bk=Dd.bk) (hc:D'.ct=Dd.ct) (hr:D'.rt=Dd.rt)
  (hq:∀ σ H,D'.nx σ H→Dd.nx σ H∨∃ a xs,H a=some (.lst xs)∧∀ o,Dd.nx σ (upd H a (.dF o (.lst xs)))):SP X pins Dd f s:=by
 obtain ⟨nx,bk,ct,rt⟩:=D'
 subst hb hc hr
 cases f with
 | next=>
  obtain ⟨σ',H',I,q⟩:=h
  rcases hq σ' H' q with q | ⟨a,xs,e,q⟩
  ·exact ⟨σ',H',I,q⟩
  ·obtain ⟨o,I'⟩:=yF I e
   exact ⟨σ',_,I',q o⟩
 | _=>exact h
theorem Oa {st:Stmt} (hs:QS X EE st (aF i m)):QS X EE st (aF i (eFn m)):=by
 intro pins s σ H Dd I zu
 obtain ⟨τ,ρ,G,ab,ok⟩:=zu
 dsimp only [aF,bE,eFn] at ok
 cases q:m τ G with
 | stuck=>rw [q] at ok;exact ok.elim
 | bB c G'=>rw [q] at ok;exact hs pins s σ H Dd I ⟨τ,ρ,G,ab,by dsimp only [aF,bE];rw [q];exact ok⟩
 | ok d G'=>
  rw [q] at ok
  by_cases hd:∃ n,d=.obj n
  ·obtain ⟨n,rfl⟩:=hd
   dsimp only at ok
   cases g:G'[n]? with
   | none=>rw [g] at ok;exact ok.elim
   | some o=>
    rw [g] at ok
    cases o with
    | lst ds=>
     dsimp only at ok
     by_cases hc:n=G.length∧G'.length=n+1∧oX (G'.take G.length) G=true∧aV ds=true
     ·rw [if_pos hc] at ok
      obtain ⟨hn0,hl,hb,hcl⟩:=hc
      refine cO (hs pins s σ H {Dd with nx:=λσ' H'=>∃ a xs,H' a=some (.lst xs)∧∀ o,Dd.nx σ' (upd H' a (.dF o (.lst xs)))} I ⟨τ,ρ,G,ab,?_⟩) λu s' h=>Li h rfl rfl rfl λσ' H' q=>.inr q
      dsimp only [aF,bE]
      rw [q]
      intro σ' H' ρ' f bq
      obtain ⟨a,xs,e1,e2,rs⟩:=bq.hp.lst g
      refine ⟨a,xs,e2,λob=>?_⟩
      have f2:bX X.K H' (upd H' a (.dF ob (.lst xs))) ρ' ρ':=lS e2 ρ'
      have f3:bX X.K H (upd H' a (.dF ob (.lst xs))) ρ ρ:=⟨λb ys w=>f2.tup b ys (f.tup b ys w),λb o u w=>f2.dF b o u (f.dF b o u w),⟨[],by simp⟩,λb φ w=>f2.ext b φ (f.ext b φ w)⟩
      have sF:fy X.K X.mg (upd H' a (.dF ob (.lst xs))) ρ G:=ab.hp.cut f.pre (bq.hp.dF (o:=ob) e1 e2) (by
       rw [abl (by nofun)]
       exact lR _ _ hb)
      refine ok σ' _ ρ f3 ⟨⟨by rw [bq.st.1];simp,λj dj ej=>?_⟩,sF⟩
      by_cases hij:i=j
      ·subst hij
       by_cases hi:i<τ.length
       ·rw [Y9,if_pos rfl,if_pos hi] at ej
        cases ej
        obtain ⟨vv,ev,rv⟩:=bq.st.2 i (.obj n) (by rw [Y9,if_pos rfl,if_pos hi])
        unfold Rep at rv
        obtain ⟨a',rfl,hn'⟩:=rv
        rw [e1] at hn';cases hn'
        refine ⟨_,ev,?_⟩
        unfold Rep
        exact ⟨a,xs,rfl,.inl ⟨ob,aX⟩,fQ ds xs hcl (rs.mono f2)⟩
       ·rw [Y9,if_pos rfl,if_neg hi] at ej;cases ej
      ·have WY:=ej
       rw [YD hij] at ej
       obtain ⟨v',ev',Vj⟩:=bq.st.2 j dj (by rw [YD hij];exact ej)
       obtain ⟨v0,PD,Vk⟩:=ab.st.2 j dj ej
       exact ⟨v',ev',Rep.back f.pre dj v0 v' Vk (Vj.mono f2)⟩
     ·rw [if_neg hc] at ok;exact ok.elim
    | _=>exact ok.elim
  ·have ok':pX X.K X.mg EE H ρ Dd (.nx (τ.set i (some d)) G'):=by
    cases d<;>first | exact ok | exact absurd ⟨_,rfl⟩ hd
   exact hs pins s σ H Dd I ⟨τ,ρ,G,ab,by dsimp only [aF,bE];rw [q];exact ok'⟩
theorem xg (l:Addr) (items:Array XR) (n:Nat) (b:Addr) (items2:Array XR) (n2:Nat) (sl2:Array (Option XR)) (hc0:¬(!items.isEmpty&&Zy (items.size+items2.size))=true) (hc1:items.size≤XT) (hs2:items.size+items2.size≤XT+1) :
  Meets (aaH.«list.extend» ⟨[.ref l,.ref b],[]⟩) (λ_ R s=>s.heap.get? l=some {cls:=.type "list",dict:=none,data:=.seq items n,slots:=#[]}∧s.heap.get? b=some {cls:=.type "list",dict:=none,data:=.seq items2 n2,slots:=sl2}∧R (.ok (.ret Value.none)) {s with heap:=s.heap.update l (aaB λx=>x++items2),toks:=s.toks}):=
 .of_wp λprog w A R s h=>by
  obtain ⟨hp,g,d,tk,os⟩:=s;obtain ⟨hl,hb,h⟩:=h;have f1:=AutoSeq1.idx_int;have f2:=abK;have f3:=AutoSeq1.sub_list_list;have f4:=AutoSeq1.sub_tuple_list;have f5:=AutoSeq1.sub_list_tuple;
  have hz':(items++items2).size≤XT+1:=by rw [Array.size_append];exact hs2
  wp_walk using (aaN hl rfl (hz:=hc1) (_hz':=hz')),abf hl,abf hb;exact ⟨_,rfl,h⟩
theorem xh:AU X "list.extend" (λx vs H Q=>∃ l b xs zs,x=.ref l∧vs=[.ref b]∧H l=some (.lst xs)∧j0 X.K H b zs∧xs.length+zs.length≤XT∧Q .cz (upd H l (.lst (xs++zs)))):=by
 intro pins s σ H x vs v us Q I rx rv h
 obtain ⟨l,b,xs,zs,rfl,rfl,hH,hB,hz,q⟩:=h
 cases rx
 obtain ⟨u,rfl,ru⟩:=rv.one
 cases ru
 obtain ⟨z,its,n,r,hl,e⟩:=I.E7 hH
 obtain ⟨its2,r2,⟨o2,n2,e2,c2,N9,d2⟩,_⟩:=I.list hB
 obtain ⟨EZ,dd2,data2,sl2⟩:=o2
 simp only at c2 N9 d2
 subst c2 N9 d2
 have hl2:=r2.length
 have hsz:its.toArray.size+its2.toArray.size≤XT:=by rw [Yb,Yb];nofun
 have Bp:¬ (!its.toArray.isEmpty&&Zy (its.toArray.size+its2.toArray.size))=true:=by
  rw [uh hsz,Bool.and_false]
  exact YH
 refine call_meets acO ⟨_,e,rfl⟩ F.entry_list_extend (F.args_list_extend_2 _ _)
  (xg l its.toArray n b its2.toArray n2 sl2 Bp (by rw [Yb];nofun) (by nofun)) ⟨e,e2,?_⟩
 refine ⟨.cz,_,I.J1 (its':=its++its2) hH e (by simp) (r.append r2) ?_,rfl,q⟩
 rw [Yx]
 nofun
noncomputable def uR:D→List D→M D
 | .obj n,[y]=>λG=>match G[n]?,kr G y with
  | some (.lst xs),some ys=>if xs.length+ys.length≤XT then .ok .cz (G.set n (.lst (xs++ys))) else .stuck
  | _,_=>.stuck
 | _,_=>M.stop
theorem Gp:AU X "list.extend" (NB X EE uR):=by
 intro pins s σ0 H x xs v us Q I rx NC zu
 obtain ⟨σ,τ,ρ,G,d,ds,ab,rd,yr,ok⟩:=zu
 cases d<;>try exact ok.elim
 rename_i n
 match ds,ok with
 | [],ok=>exact ok.elim
 | a::_::_,ok=>exact ok.elim
 | [y],ok=>
  obtain ⟨yv,rfl,ry⟩:=fX yr
  unfold Rep at rd
  obtain ⟨p,rfl,e1⟩:=rd
  dsimp only [uR] at ok
  cases g:G[n]? with
  | none=>rw [g] at ok;exact ok.elim
  | some o=>
   cases g2:kr G y with
   | none=>rw [g,g2] at ok;cases o<;>exact ok.elim
   | some ys=>
    rw [g,g2] at ok
    cases o with
    | lst zs=>
     dsimp only at ok
     obtain ⟨p',vs,e3,hp,rs⟩:=ab.hp.lst g
     rw [e1] at e3;cases e3
     obtain ⟨p2,ws,rfl,s2,To⟩:=bC (pins:=pins) (σ0:=σ0) (s:=s) ab.hp ry (oZ g2)
     by_cases hz:zs.length+ys.length≤XT
     ·rw [if_pos hz] at ok
      exact xh pins s σ0 H _ _ v us Q I rx NC ⟨p,p2,vs,ws,rfl,rfl,hp,s2,by rw [← rs.length,← To.length];exact hz,wQ (xs:=zs) ab e1 hp (rs.append To) (λ_ _=>by unfold Rep;rfl) ok⟩
     ·rw [if_neg hz] at ok;exact ok.elim
    | _=>exact ok.elim
theorem Gq {apos cpos:Pos} {m:DS→M (List D)} (ho:QE X EE o mo) (ha:QA X EE [e] m) (hb:mJ o=true:=by rfl) (h:ao [e]=true:=by rfl) (hline:(apos.endLine==cpos.line)=true:=by rfl):QE X EE (.Call (.Attribute o "extend" apos) [e] [] cpos) (cC "list" uR mo m):=by
 have h':br e=true∧ao []=true:=by simpa [ao] using h
 exact Ia F.plainAttrs_list acO F.type_list_extend Gp ho ha (gW hb _ _) (B6 h (by simp)) hline (aM h'.1 _ _) (aO (es:=[]) rfl)
end
end
section
open PyProof.Rows
noncomputable def Lj (lo st:Int) (n:Nat):It:=⟨λi _=>i<n,λi H x H'=>H'=H∧x=.int (lo+(i:Int)*st),λi _=>n≤i⟩
theorem uS (it:Addr) (lo c:Int) (n:Nat):Turn P w K tg (Lj lo c n) [it] it (λi h=>IsRangeIter h it (lo+(i:Nat)*c) ((n:Int) - (i:Nat)) c) where
 mem:=by simp
 obj:=λi h st b hb=>by
  have e:b=it:=by simpa using hb
  subst e
  exact ⟨_,st,λv z=>by
   have z':Data.fields _=Data.cell v:=z
   cases z'⟩
 keep:=λi h h' st k=>k it (by simp) _ st
 item:=by
  intro X hP hw hK hc i pins s σ H E I hf st hg
  subst hP hw hK
  obtain ⟨f0,f1,f2,f3,f4,f5⟩:=hf it (by simp)
  have W:=Walks.range (prog:=X.prog) (w:=X.w) (I.ok.hd hc) it lo c n
  refine gR I.os.2 <| W.item i s _ _ hg st λv h' tk hv st' kk ht=>?_
  obtain ⟨t,rfl⟩:=hv
  have I1:Inv X pins σ H {s with heap:=h',toks:=tk}:=I.turned (λb o hb e=>kk b o (by simpa using hb) e) f0 f1 f3 f4 f5
  exact ⟨_,rfl,n6 (s:={s with heap:=h',toks:=tk}) (n:="range_iterator") st' rfl rfl (by decide) ⟨.int (lo+i*c),H,I1,⟨t,rfl⟩,⟨rfl,rfl⟩,st',λb hb=>(hf b hb).1⟩⟩
 done:=by
  intro X hP hw hK hc i pins s σ H E I hf st hg
  subst hP hw hK
  obtain ⟨f0,f1,f2,f3,f4,f5⟩:=hf it (by simp)
  exact abY (I.ok.hd hc) st (by have:n≤i:=hg;nofun) λh' eb=>⟨rfl,I.turned (t':=s.toks) (λb o hb e=>eb b o hb e) f0 f1 f3 f4 f5⟩
 self:=λ_ _ _ _ _ st h=>abZ st h
noncomputable def lT (lo hi c:Int):Nat:=if lo<hi then ((hi - lo - 1) / c+1).toNat else 0
noncomputable def xj (lo c:Int) (n:Nat):View:=λ_ i=>some (if i<n then some (.int (lo+(i:Int)*c)) else none)
noncomputable def ints3:List D→Option (Int×Int×Int)
 | [.int lo,.int hi,.int c]=>some (lo,hi,c)
 | _=>none
theorem Cz {c:Int} (h:ints3 ds=some (lo,hi,c)):ds=[.int lo,.int hi,.int c]:=by
 unfold ints3 at h
 split at h
 ·cases h;rfl
 ·cases h
noncomputable def qU (m:DS→M (List D)):MI:=λτ=>(m τ).bind λds=>match ints3 ds with
 | some (lo,hi,c)=>λG=>if -(2^30)≤lo∧lo<2^30∧-(2^30)≤hi∧hi<2^30∧0<c∧c<2^30 then .ok (lT lo hi c+1,xj lo c (lT lo hi c)) G else .stuck
 | none=>M.stop
section
variable {X:Cx} {EE:bO} {tg iter a b c:Expr} {pos p pc:Pos} {m:DS→M (List D)}
theorem Ll {c:Int}:JV X.K X.mg (Lj lo c n) (xj lo c n) H ρ:=by
 intro i H' ρ' G' f hp
 unfold xj
 by_cases h:i<n
 ·rw [if_pos h]
  refine ⟨λe=>(by cases e),λd e=>⟨h,λx H2 hy=>?_⟩⟩
  cases e
  obtain ⟨rfl,rfl⟩:=hy
  exact ⟨⟨.refl,λ_ h=>h⟩,by unfold Rep;rfl⟩
 ·rw [if_neg h]
  exact ⟨λ_=>ac8 h,λd e=>(by cases e)⟩
theorem Lm {c:Int} (h1:-(2^30)≤lo) (h2:lo<2^30) (h3:-(2^30)≤hi) (h4:hi<2^30) (h5:0<c) (h6:c<2^30):acy lo hi c=true:=by
 unfold acy
 have hs:ZG lo hi c=if lo<hi then (hi - lo - 1) / c+1 else 0:=by
  unfold ZG;rw [if_pos h5]
 rw [hs]
 have hd:0≤hi - lo - 1→(hi - lo - 1) / c≤hi - lo - 1:=λh=>Int.ediv_le_self _ h
 have hd2:0≤hi - lo - 1→0≤(hi - lo - 1) / c:=λh=>adm h (by nofun)
 have hm:(hi - lo - 1) / c*c≤hi - lo - 1:=Int.ediv_mul_le _ (by nofun)
 simp only [Builtin.Range.rangeFitsLong,Y4,abe,decide_eq_true_eq,beq_iff_eq,show c > 0 from h5,if_true]
 split<;>nofun
theorem Gr (hm:X.mg "range"=none) (nS:Gl X "range") (ha:QA X EE [a,b,c] m) (h:ao [a,b,c]=true:=by rfl):QI X EE tg (.Call (.Name "range" p) [a,b,c] [] pc) (qU m):=by
 have h':br a=true∧ao [b,c]=true:=by simpa [ao] using h
 intro pins s σ H R I hq
 obtain ⟨τ,ρ,G,ab,ok⟩:=hq
 dsimp only [qU,M.bind] at ok
 refine Yo (fh I nS hm boot_range ?_ (by decide) (by decide))
 have hA:ie X.K X.mg EE m σ H λvs H1=>∃ ρ1 G1 ds,Ab X.K X.mg σ H1 τ ρ1 G1∧bX X.K H H1 ρ ρ1∧aq X.K X.mg ρ1 H1 ds vs∧m τ G=.ok ds G1:=by
  refine ⟨τ,ρ,G,ab,?_⟩
  cases e:m τ G with
  | stuck=>rw [e] at ok;exact ok
  | bB c G'=>rw [e] at ok;exact ok
  | ok ds G'=>exact λvs H' ρ' f bq r=>⟨ρ',G',ds,bq,f,r,rfl⟩
 refine Yr (cO (ha pc pins s σ H _ I hA) λus s1 oj=>?_) (aM h'.1 _ _) (aO h'.2)
 obtain ⟨vs,H1,I1,r1,ρ1,G1,ds,fW,f1,rs,em⟩:=oj
 rw [em] at ok
 dsimp only at ok
 cases q:ints3 ds with
 | none=>rw [q] at ok;exact ok.elim
 | some x=>
  obtain ⟨lo,hi,c⟩:=x
  rw [q] at ok
  dsimp only at ok
  have e:=Cz q
  subst e
  by_cases hc:-(2^30)≤lo∧lo<2^30∧-(2^30)≤hi∧hi<2^30∧0<c∧c<2^30
  ·rw [if_pos hc] at ok
   obtain ⟨h1,h2,h3,h4,h5,h6⟩:=hc
   simp only [aq,Rep] at rs
   obtain ⟨v1,w1,rfl,rfl,v2,w2,rfl,rfl,v3,w3,rfl,rfl,rfl⟩:=rs
   cases r1 with
   | cons u1 r1=>
   cases r1 with
   | cons u2 r1=>
   cases r1 with
   | cons u3 r1=>
   cases r1
   obtain ⟨t1,rfl⟩:=u1
   obtain ⟨t2,rfl⟩:=u2
   obtain ⟨t3,rfl⟩:=u3
   refine call_range_3 (by nofun) ?_ (.inl (ab0 (by nofun)))
   refine acK (s:={s1 with heap:=s1.heap.push {cls:=.type "range",data:=.fields #[.int lo t1,.int hi t2,.int c t3]},toks:=s1.toks}) (IsRange.new ..) (Lm h1 h2 h3 h4 h5 h6) ?_
   have I2:Inv X pins σ H1 {s1 with heap:=s1.heap.push {cls:=.type "range",data:=.fields #[.int lo t1,.int hi t2,.int c t3]},toks:=s1.toks}:=I1.kept λb o e=>XW _ e
   refine ⟨_,[_],_,Lj lo c (lT lo hi c),H1,rfl,I2.kept (t':=s1.toks) λb o e=>XW _ e,uS _ lo c (lT lo hi c),?_,λb hb=>?_,ok _ H1 ρ1 f1 fW Ll⟩
   ·have e1:lo+((0:Nat):Int)*c=lo:=by simp
    have e2:((lT lo hi c:Nat):Int) - ((0:Nat):Int)=ZG lo hi c:=by
     unfold lT ZG
     rw [if_pos h5]
     split
     ·have:0≤(hi - lo - 1) / c:=adm (by nofun) (by nofun)
      nofun
     ·simp
    show IsRangeIter _ _ (lo+((0:Nat):Int)*c) (((lT lo hi c:Nat):Int) - ((0:Nat):Int)) c
    rw [e1,e2]
    exact X6 _ rfl
   ·rw [Yk.mp hb]
    exact I2.l8 (X3 _) (I2.hok.fresh (X3 _))
  ·rw [if_neg hc] at ok;exact ok.elim
end
end
noncomputable def xm:D→Option Key
 | .int i=>some (Sum.inl i)
 | .str x=>some (Sum.inr x)
 | _=>none
noncomputable def sH {κ:Type} [DecidableEq κ] (kvs:List (κ×D)) (k:κ):Option D:=(kvs.find? λkv=>decide (kv.1=k)).map (·.2)
noncomputable def o6 {κ:Type} [DecidableEq κ] (kvs:List (κ×D)) (k:κ) (v:D):List (κ×D):=
 if (kvs.any λkv=>decide (kv.1=k))=true then kvs.map (λkv=>if kv.1=k then (kv.1,v) else kv) else kvs++[(k,v)]
section
variable {K:XU} {mg:Str→Option XR} {H:Hp} {ρ:List Addr} {G:DH}
theorem uT {κ:Type} [DecidableEq κ] (k:κ):∀ {kvs:List (κ×D)} {xs:List V},aq K mg ρ H (kvs.map (·.2)) xs →
  (sH kvs k=none∧kM ((kvs.map (·.1)).zip xs) k=none)∨∃ d v,sH kvs k=some d∧kM ((kvs.map (·.1)).zip xs) k=some v∧Rep K mg ρ H d v
 | [],xs,r=>.inl ⟨rfl,rfl⟩
 | p::q,xs,r=>by
  unfold aq at r
  obtain ⟨v,r',rfl,h1,h2⟩:=r
  by_cases e:p.1=k
  ·exact .inr ⟨p.2,v,by simp [sH,e],by simp [kM,e],h1⟩
  ·have ih:=uT k h2
   have e1:sH (p::q) k=sH q k:=by simp [sH,e]
   have e2:kM (((p::q).map (·.1)).zip (v::r')) k=kM ((q.map (·.1)).zip r') k:=om (p:=(p.1,v)) e
   rw [e1,e2];exact ih
theorem yG {κ:Type} [DecidableEq κ] (k:κ):∀ {kvs:List (κ×D)} {xs:List V},kvs.length=xs.length→(((kvs.map (·.1)).zip xs).any λkv=>decide (kv.1=k))=(kvs.any λkv=>decide (kv.1=k))
 | [],xs,h=>by simp
 | p::q,[],h=>by simp at h
 | p::q,x::xs,h=>by
  have:=yG k (kvs:=q) (xs:=xs) (by simpa using h)
  simp [this]
theorem uU {κ:Type} [DecidableEq κ] (k:κ) {d:D} {v:V} (rv:Rep K mg ρ H d v):∀ {kvs:List (κ×D)} {xs:List V},aq K mg ρ H (kvs.map (·.2)) xs →
  ∃ ys,(((kvs.map (·.1)).zip xs).map λkv=>if kv.1=k then (kv.1,v) else kv)=((kvs.map λkv=>if kv.1=k then (kv.1,d) else kv).map (·.1)).zip ys∧aq K mg ρ H ((kvs.map λkv=>if kv.1=k then (kv.1,d) else kv).map (·.2)) ys
 | [],xs,r=>⟨[],by simp,by simpa using aq.nil⟩
 | p::q,xs,r=>by
  unfold aq at r
  obtain ⟨x,r',rfl,h1,h2⟩:=r
  obtain ⟨ys,e,rs⟩:=uU k rv h2
  by_cases hk:p.1=k
  ·refine ⟨v::ys,?_,?_⟩
   ·simp only [X8,Zv,if_pos hk,e]
   ·simp only [X8,if_pos hk];exact .cons rv rs
  ·refine ⟨x::ys,?_,?_⟩
   ·simp only [X8,Zv,if_neg hk,e]
   ·simp only [X8,if_neg hk];exact .cons h1 rs
theorem uV {α β:Type}:∀ {a:List α} {b:List β} (x:α) (y:β),a.length=b.length→(a++[x]).zip (b++[y])=a.zip b++[(x,y)]
 | [],[],x,y,_=>rfl
 | [],_::_,_,_,h=>by simp at h
 | _::_,[],_,_,h=>by simp at h
 | p::a,q::b,x,y,h=>by simp [uV (a:=a) (b:=b) x y (by simpa using h)]
theorem CA [DecidableEq κ] (k:κ) {d:D} {v:V} (rv:Rep K mg ρ H d v) {kvs:List (κ×D)} {xs:List V} (r:aq K mg ρ H (kvs.map (·.2)) xs) :
  ∃ ys,putK ((kvs.map (·.1)).zip xs) k v=((o6 kvs k d).map (·.1)).zip ys∧aq K mg ρ H ((o6 kvs k d).map (·.2)) ys:=by
 have hl:kvs.length=xs.length:=by simpa using r.length
 unfold putK o6
 rw [yG k hl]
 by_cases e:(kvs.any λkv=>decide (kv.1=k))=true
 ·rw [if_pos e,if_pos e];exact uU k rv r
 ·rw [if_neg e,if_neg e]
  refine ⟨xs++[v],?_,?_⟩
  ·rw [aat,X8,Yl,uV _ _ (by simpa using hl)]
  ·rw [aat];exact r.append (.cons rv .nil)
theorem fy.dct (h:fy K mg H ρ G) (e:G[n]?=some (.dct kvs)):∃ a xs,ρ[n]?=some a∧H a=some (.dK ((kvs.map (·.1)).zip xs))∧aq K mg ρ H (kvs.map (·.2)) xs:=by
 obtain ⟨a,e1,xs,e2,r⟩:=h.ob n _ e
 exact ⟨a,xs,e1,e2,r⟩
theorem uW {p:Addr} {u w:List (Key×V)} (hp:H p=some (.dK u)) (ρ:List Addr):bX K H (upd H p (.dK w)) ρ ρ:=by
 refine ⟨λa zs h=>?_,λa q u h=>by rw [aC (gz h hp (by intro z;cases z))];exact h,⟨[],by simp⟩,λa φ h=>by rw [aC (gz h hp (by intro z;cases z))];exact h⟩
 ·rw [pU] at h ⊢;rw [aC (gz h hp (by intro z;cases z))];exact h
theorem fy.Im {p:Addr} (h:fy K mg H ρ G) (hp:H p=none):fy K mg (upd H p (.dK [])) (ρ++[p]) (G++[.dct []]):=by
 have f:bX K H (upd H p (.dK [])) ρ (ρ++[p]):=(cN hp ρ).trans (eB ρ p)
 refine ⟨by simp [h.hl],?_,λn ob e=>?_⟩
 ·rw [aax]
  refine ⟨h.nd,by simp,λa ha b hb=>?_⟩
  have e:b=p:=by simpa using hb
  subst e
  rintro rfl
  exact h.not_mem hp ha
 ·by_cases hn:n<G.length
  ·rw [Yd hn] at e
   obtain ⟨a,e1,r'⟩:=h.ob n ob e
   exact ⟨a,f.get e1,r'.mono f λu q=>by rw [aC (cj q hp)];exact q⟩
  ·have hl:n<(G++[DO.dct []]).length:=(XY.mp e).1
   have hn':n=G.length:=by simp at hl;nofun
   subst hn'
   rw [aE] at e
   cases e
   exact ⟨p,by rw [← h.hl,aE],[],aX,.nil⟩
theorem fy.putD {es:List (Key×D)} {u:List (Key×V)} (h:fy K mg H ρ G) (hn:ρ[n]?=some a) (ha:H a=some (.dK u)) (r:aq K mg ρ H (es.map (·.2)) ys) :
  fy K mg (upd H a (.dK ((es.map (·.1)).zip ys))) ρ (G.set n (.dct es)):=by
 have f:bX K H (upd H a (.dK ((es.map (·.1)).zip ys))) ρ ρ:=uW ha ρ
 refine ⟨by simp [h.hl],h.nd,λm ob e=>?_⟩
 by_cases hm:n=m
 ·subst hm
  rw [Y9,if_pos rfl] at e
  split at e
  ·cases e
   exact ⟨a,hn,ys,aX,r.mono f⟩
  ·cases e
 ·rw [YD hm] at e
  obtain ⟨b,e1,r'⟩:=h.ob m ob e
  have hb:b≠a:=by
   rintro rfl
   obtain ⟨h1,yk⟩:=XY.mp hn
   obtain ⟨h2,yl⟩:=XY.mp e1
   exact hm ((Zt h.nd).mp (yk.trans yl.symm))
  exact ⟨b,e1,r'.mono f λu q=>by rw [aC hb];exact q⟩
theorem Gs {k:Key} (r:Rep K mg ρ H d v) (e:xm d=some k):v=kV k:=by
 cases d<;>simp [xm] at e
 ·subst e;unfold Rep at r;exact r
 ·subst e;unfold Rep at r;exact r
end
section
variable {X:Cx} {EE:bO} {e f o i a:Expr} {pos apos cpos tpos:Pos} {mo me mf mv mi:DS→M D}
noncomputable def uX:DS→M D:=λ_ G=>.ok (.obj G.length) (G++[.dct []])
theorem Gu:QE X EE (.Dict [] [] pos) uX:=PE.mono Bw λσ H Q ⟨τ,ρ,G,ab,ok⟩=>λp hp=>by
 refine ok (.ref p) _ (ρ++[p]) ((cN hp ρ).trans (eB ρ p)) ⟨ab.st.mono ((cN hp ρ).trans (eB ρ p)),ab.hp.Im hp⟩ ?_
 unfold Rep
 exact ⟨p,rfl,by rw [← ab.hp.hl,aE]⟩
noncomputable def Io (G:DH):D→Bool
 | .obj n=>match G[n]? with
  | some (.dct _)=>true
  | _=>false
 | _=>false
noncomputable def Ip (d k x:D):M D:=λG=>match d,xm k with
 | .obj n,some y=>match G[n]? with
  | some (.dct kvs)=>.ok ((sH kvs y).getD x) G
  | _=>.stuck
 | _,_=>.stuck
noncomputable def CB (mo me mf:DS→M D):DS→M D:=λτ=>(mo τ).bind λd G=>if Io G d=true then ((me τ).bind λk=>(mf τ).bind λx=>Ip d k x) G else .stuck
noncomputable def CC (v d k:D):M D:=λG=>match d,xm k with
 | .obj n,some y=>match G[n]? with
  | some (.dct kvs)=>if kvs.length<XT then .ok .cz (G.set n (.dct (o6 kvs y v))) else .stuck
  | _=>.stuck
 | _,_=>.stuck
noncomputable def Bv (mv mo mi:DS→M D):MS:=λτ=>bE ((mv τ).bind λv=>(mo τ).bind λo=>(mi τ).bind λi=>CC v o i) (λ_ G=>.nx τ G) λc G=>.xn c τ G
end
section
open PyProof.Rows
theorem uY {prog:Yw} {w:YM} {E:XR→XX→Prop} {Q:List XR→XX→Prop} (hh:A.handled=none) (hit:s.heap.IsRevIter it l ((items.size:Int) - 1)) (hl:s.heap.IsList l items) (hne:l≠it) (hz:items.size≤XT)
  (hQ:∀ s' acc,(∀ b o,b≠it→s.heap.get? b=some o→s'.heap.get? b=some o)→s'.gens=s.gens→s'.drawn=s.drawn→s'.os=s.os→ItemsOf (λi v=>items[items.size - 1 - i]?=some v) acc items.size→Q acc.toList s') :
  Ye (model prog w) A (collect (.ref it)) Q E s:=by
 have Rg:l<s.heap.objs.size:=by obtain ⟨o,e,_⟩:=hl;exact X0 e
 have U5:it<s.heap.objs.size:=by obtain ⟨o,e,_⟩:=hit;exact X0 e
 unfold collect
 refine XS (wpAny_runValue (codeAny_builtin F.entry_proto_collect ?_))
 rw [aaa F.plain_proto_collect _]
 show Ye _ A.in1 (newList [] >>= λl=>again (.builtin "list.__iadd__" ⟨[l,.ref it],[]⟩)) _ _ s
 refine XS (YC ?_)
 refine Yc ⟨plainId_quiet ac3 _,codeAny_builtin F.entry_list_iadd ?_⟩
 rw [aaa ac3 _]
 show Ye _ A.in1 (aay (.ref s.heap.objs.size) (.ref it) (.ref s.heap.objs.size)) _ _ _
 have up:∀ b o,s.heap.get? b=some o→(s.heap.push {cls:=.type "list",data:=.seq ([]:List XR).toArray}).get? b=some o:=λb o e=>XW _ e
 have fin':∀ (s':XX) (acc':Array XR) (c':Nat),Moved [s.heap.objs.size,it] (λa b=>b=a) {s with heap:=s.heap.push {cls:=.type "list",data:=.seq ([]:List XR).toArray}} s'→s'.heap.get? s.heap.objs.size=some {cls:=.type "list",data:=.seq acc' c'} →
   ItemsOf (λi v=>items[items.size - 1 - i]?=some v) acc' items.size→Ye (model prog w) A (match Value.ref s.heap.objs.size with
   | Value.ref a=>do
    match (← load a).data with
     | Data.seq xs _=>pure xs.toList
     | _=>unsupported "internal:collect"
   | _=>unsupported "internal:collect") Q E s':=λs' acc' c' hm hS' hacc=>by
  show Ye _ A (load s.heap.objs.size >>= _) _ _ s'
  refine XS (aaQ hS' ?_)
  refine Yc (hQ s' acc' (λb o hb e=>hm.heap b o ?_ (up b o e)) hm.gens hm.drawn hm.os hacc)
  simp [hb,Yg (X0 e)]
 refine YG (oR (A:=A) (R:=λr s'=>r=.ok (.ret (.ref s.heap.objs.size))∧∃ acc' c',Moved [s.heap.objs.size,it] (λa b=>b=a) {s with heap:=s.heap.push {cls:=.type "list",data:=.seq ([]:List XR).toArray}} s'∧s'.heap.get? s.heap.objs.size=some {cls:=.type "list",data:=.seq acc' c'} ∧
   ItemsOf (λi v=>items[items.size - 1 - i]?=some v) acc' items.size) (l:=l) (items:=items) (show A.handled=none from hh) ?_ ?_ hne hz s.heap.objs.size (.ref s.heap.objs.size) 0 ?_ (abm Rg) ?_) (λfin s' h=>?_) (λe s' h=>?_)
 ·obtain ⟨o,e,r⟩:=hit
  exact ⟨o,up _ _ e,r⟩
 ·obtain ⟨o,e,r⟩:=hl
  exact ⟨o,up _ _ e,r⟩
 ·exact X6 _ rfl
 ·intro s' acc' c' hm hS' hacc
  exact ⟨rfl,acc',c',hm,hS',hacc⟩
 ·cases fin with
  | done f=>
   obtain ⟨e,acc',c',h1,h2,h3⟩:=h
   cases e
   exact fin' s' acc' c' h1 h2 h3
  | again c'=>exact ⟨h.1,codeAny_mono h.2 λr s'' hr=>by obtain ⟨rfl,acc',c',h1,h2,h3⟩:=hr;exact fin' s'' acc' c' h1 h2 h3⟩
 ·exact absurd h.1 (by simp)
theorem nG (it l:Addr) (items:Array XR) (hne:l≠it) (hz:items.size≤XT) :
  Meets (aaH.«tuple.__new__» ⟨[.type "tuple",.ref it],[]⟩)
   (λA R s=>A.handled=none∧s.heap.IsRevIter it l ((items.size:Int) - 1)∧s.heap.IsList l items∧∀ (s':XX) (acc:Array XR),(∀ b o,b≠it→s.heap.get? b=some o→s'.heap.get? b=some o)→s'.gens=s.gens→s'.drawn=s.drawn→s'.os=s.os→ItemsOf (λi v=>items[items.size - 1 - i]?=some v) acc items.size →
    R (.ok (.ret (.ref s'.heap.objs.size))) {s' with heap:=s'.heap.push {cls:=.type "tuple",data:=.seq acc}}):=
 .of_wp λprog w A R s h=>by
  obtain ⟨hh,hit,hl,h⟩:=h
  have hsub:=sub_tuple_self
  have Tp:=init_tuple_lookup
  have WZ:=madeHere_tuple
  have hT:s.TypeIs (.ref it) "list_reverseiterator":=by
   obtain ⟨o,e,c,_⟩:=hit
   exact ⟨o,e,c⟩
  have Vl:A.in1.handled=none:=hh
  wp_walk using acZ hT,uY Vl hit hl hne hz
  intro s' acc hk hg hd hos hacc
  show Ye _ _ (Zh acc.toList.toArray >>= λv=>ret v) _ _ _
  unfold Zh
  refine XS (YC ?_ (show acc.toList.toArray.size≤XT by simp only [Array.toArray_toList];rw [hacc.1];exact hz))
  refine Yc ⟨_,rfl,?_⟩
  have e:acc.toList.toArray=acc:=by simp
  rw [e]
  exact h s' acc hk hg hd hos hacc
theorem o7 {prog:Yw} {w:YM} {E:XR→XX→Prop} (hh:A.handled=none) (hit:s.heap.IsRevIter it l ((items.size:Int) - 1)) (hl:s.heap.IsList l items) (hne:l≠it) (hz:items.size≤XT)
  (hQ:∀ (h':Heap) (tk:Nat) (acc:Array XR),(∀ b o,b≠it→s.heap.get? b=some o→h'.get? b=some o)→ItemsOf (λi v=>items[items.size - 1 - i]?=some v) acc items.size→Q (.ref h'.objs.size) {s with heap:=h'.push {cls:=.type "tuple",data:=.seq acc},toks:=tk}) :
  Ye (model prog w) A (call (.type "tuple") [.ref it]) Q E s:=by
 refine callType_new F.called_tuple (by decide) (F.typeCall_tuple_1 _) (F.newCall_tuple_1 _) (λobj=>aaE obj _) F.entry_tuple_new
  (nG it l items hne hz) ⟨hh,hit,hl,λs' acc hk hg hd hos hacc=>⟨⟨_,X6 _ rfl,rfl⟩,?_⟩⟩
 obtain ⟨h',g',d',tk',os'⟩:=s'
 have e1:g'=s.gens:=hg
 have e2:d'=s.drawn:=hd
 have e3:os'=s.os:=hos
 subst e1 e2 e3
 exact hQ h' tk' acc hk hacc
noncomputable def uZ:List D→M D
 | [d]=>λG=>match aD G d with
  | some (.lst xs)=>aY xs.reverse G
  | _=>.stuck
 | _=>M.stop
section
variable {X:Cx} {EE:bO} {e:Expr} {m:DS→M (List D)} {p p2 pos pos2:Pos}
theorem u0 (hc:X.calm=true) (hm1:X.mg "tuple"=none) (Rh:Gl X "tuple") (hm2:X.mg "reversed"=none) (Ri:Gl X "reversed") (ha:QA X EE [e] m) (h:ao [e]=true:=by rfl) :
  QE X EE (.Call (.Name "tuple" p) [.Call (.Name "reversed" p2) [e] [] pos2] [] pos) (ai uZ m):=by
 have h':br e=true∧ao []=true:=by simpa [ao] using h
 intro pins s σ H Q I hq
 have hq':=jf (k:=λ_ ds=>uZ ds) hq
 refine Yo (fh I Rh hm1 boot_tuple ?_ (by decide) (by decide))
 refine Yr ?_ (aM rfl _ _) (aO (es:=[]) rfl)
 rw [aM (e:=.Call (.Name "reversed" p2) [e] [] pos2) rfl]
 show Ye _ _ (spliced ((false,eval _ X.env)::backTo pos (Yj [] X.env))) _ _ s
 refine Zm ?_
 refine Yo (fh I Ri hm2 jQ ?_ (by decide) (by decide))
 refine Yr (cO (ha pos2 pins s σ H _ I hq') λus s1 oj=>?_) (aM h'.1 _ _) (aO (es:=[]) rfl)
 obtain ⟨vs,H1,I1,r1,τ,ρ,G,ds,ab,rs,ok⟩:=oj
 match ds,ok with
 | [],ok=>exact ok.elim
 | _::_::_,ok=>exact ok.elim
 | [d],ok=>
  obtain ⟨x,rfl,rx⟩:=fX rs
  obtain ⟨u,rfl,ru⟩:=vals1 r1
  dsimp only [uZ] at ok
  cases q:aD G d with
  | none=>rw [q] at ok;exact ok.elim
  | some sk=>
   rw [q] at ok
   cases sk with
   | tup zs=>exact ok.elim
   | str z=>exact ok.elim
   | lst zs=>
    dsimp only at ok
    obtain ⟨l,ys,rfl,sq,rv⟩:=bC (pins:=pins) (σ0:=σ) (s:=s1) ab.hp rx q
    cases ru
    obtain ⟨its,vv,pl,hz⟩:=I1.list sq
    have hlen:=vv.length
    have hl:=pl.isList
    have hlt:l<s1.heap.objs.size:=by obtain ⟨_,e,_⟩:=hl;exact X0 e
    refine call_reversed_list hl ?_
    refine Z5 ?_
    refine gR I1.os.2 <| o7 (l:=l) (items:=its.toArray) (show X.A.handled=none from I.ok.hd hc) ⟨_,X6 _ rfl,rfl,rfl⟩ (hl.push _) (Yg hlt) (by simp;nofun) λh' tk acc' kp hacc=>λht=>?_
    have ea:=qQ hacc
    subst ea
    obtain ⟨hlr,hn⟩:=oE ab rv.rev ok
    have I2:Inv X pins σ H1 {s1 with heap:=h',toks:=tk}:=I1.kept (t':=tk) (λb o e=>kp b o (Yg (X0 e)) (XW _ e))
    have I3:Inv X pins σ (upd H1 h'.objs.size (.tup ys.reverse)) {s1 with heap:=h'.push {cls:=.type "tuple",data:=.seq its.reverse.toArray},toks:=tk}:=
     I2.laid (t':=tk) (λb o e=>XW _ e) (X3 _) (show dZ X.prog X.w _ _ _ (.tup ys.reverse) from ⟨hlr,its.reverse,Vals.rev vv,ac7 _ _⟩)
    exact ⟨.ref h'.objs.size,_,I3,rfl,hn _ (I2.hok.fresh (X3 _))⟩
end
end
section
variable {prog:Yw} {w:YM} {A:Around} {E:XR→XX→Prop} {s:XX}
theorem nH {t:Addr} {x:XR} (hit:s.heap.IsTupleIter it t i)
  (ht:s.heap.IsTuple t items) (hx:items[i]?=some x)
  (hQ:∀ h',h'.IsTupleIter it t (i+1)→ZM it s.heap h'→Q x {s with heap:=h'}) :
  Ye (model prog w) A (YN (.ref it)) Q E s:=by
 obtain ⟨o,ho,hc,hd⟩:=id hit
 obtain ⟨ol,Ie,_,nl,hdl⟩:=ht
 unfold YN
 refine XS (Zb (name:=Z6 "__next__") hit.typeIs ZT
  (Zu ZT hit.typeIs abp ?_ (abg _)))
 show Ye _ _ (field (.ref it) 0 >>= _) _ _ s
 refine XS (YI ho hd (x:=.ref t) rfl ?_)
 show Ye _ _ (if (Value.ref t==Value.none)=true then _ else _) _ _ s
 rw [if_neg (show ¬ ((Value.ref t==Value.none)=true) from YH)]
 show Ye _ _ (field (.ref it) 1 >>= _) _ _ s
 refine XS (YI ho hd (x:=.int i 0) rfl ?_)
 show Ye _ _ (seqItems? (.ref t) >>= _) _ _ s
 refine XS (aaj Ie hdl ?_)
 simp only [Zf,hx]
 refine XS (ZS ho hd (by simp) (Yc ⟨x,rfl,Yc (hQ _ ?_ (ZL ..))⟩))
 exact ⟨_,YB _ ho (ZV (Y0 hd _)),(abF ..).trans hc,by
  rw [Y0 hd];simp [rawInt]⟩
theorem o8 {t:Addr} {Q:XR→XX→Prop} (hh:A.handled=none)
  (hit:s.heap.IsTupleIter it t i) (ht:s.heap.IsTuple t items) (hx:items[i]?=none)
  (hE:∀ h' e,acn it s.heap h'→(∃ o,h'.get? e=some o∧o.cls=.type "StopIteration")→E (.ref e) {s with heap:=h'}) :
  Ye (model prog w) A (YN (.ref it)) Q E s:=by
 obtain ⟨o,ho,hc,hd⟩:=id hit
 obtain ⟨ol,Ie,_,nl,hdl⟩:=ht
 unfold YN
 refine XS (Zb (name:=Z6 "__next__") hit.typeIs ZT
  (Zu ZT hit.typeIs abp ?_ (abg _)))
 show Ye _ _ (field (.ref it) 0 >>= _) _ _ s
 refine XS (YI ho hd (x:=.ref t) rfl ?_)
 show Ye _ _ (if (Value.ref t==Value.none)=true then _ else _) _ _ s
 rw [if_neg (show ¬ ((Value.ref t==Value.none)=true) from YH)]
 show Ye _ _ (field (.ref it) 1 >>= _) _ _ s
 refine XS (YI ho hd (x:=.int i 0) rfl ?_)
 show Ye _ _ (seqItems? (.ref t) >>= _) _ _ s
 refine XS (aaj Ie hdl ?_)
 simp only [Zf,hx]
 refine XS (abx (XS (ZS ho hd (by simp) ?_)))
 show Ye _ _ (newExc (.type "StopIteration") [] >>= _) _ _ _
 refine XS ?_
 simp only [newExc,newTuple]
 refine XS (YC ?_ (by size_fits))
 refine XS (m:=firstArgMember _ _) (aal (a:=Value.none) (by first | rfl | (simp only [firstArgMember];rfl)) ?_)
 refine YC ?_ (by size_fits)
 simp only [raiseNew]
 refine XS (acC ?_)
 first | rw [show A.in1.handled=none from hh] | rw [hh]
 refine XS (Yc (aco ?_))
 exact hE _ _ (((ZL ..).extBut.push _).push _) ⟨_,X6 _ rfl,rfl⟩
end
theorem qV (hh:A.handled=none) (it l:Addr) (hne:l≠it) (items:Array XR) :
  Draws prog w A it [it,l] items.size (λi v=>items[i]?=some v) (λi h=>h.IsTupleIter it l i∧h.IsTuple l items) where
 live:=λ_ _ st=>let ⟨o,ho,_⟩:=st.1;⟨o,ho⟩
 frame:=λ_ _ _ st hk=>⟨st.1.at λo e=>hk it (by simp) o e,st.2.at λo e=>hk l (by simp) o e⟩
 item:=λi s Q E hi st hQ=>by
  refine nH st.1 st.2 (x:=items[i]) (by simp [hi]) λh' Gv hs'=>?_
  exact hQ _ h' s.toks (by simp [hi]) ⟨Gv,st.2.extBut hs'.extBut hne⟩ hs'
 done:=λs Q E st hE=>o8 hh st.1 st.2 (by simp) hE
theorem u6 (l:Addr) (items:Array XR) (n:Nat) (dct:Option Addr) (sl:Array (Option XR)) :
  Meets (aaH.«enumerate.__new__» ⟨[.type "enumerate",.ref l],[]⟩) (λ_ R s=>s.heap.get? l=some {cls:=.type "tuple",dict:=dct,data:=.seq items n,slots:=sl} ∧
   R (.ok (.ret (.ref (s.heap.push {cls:=.type "tuple_iterator",data:=.fields #[.ref l,.int 0 0]}).objs.size)))
    {s with heap:=(s.heap.push {cls:=.type "tuple_iterator",data:=.fields #[.ref l,.int 0 0]}).push {cls:=.type "enumerate",data:=.fields #[.none,.bool false,.ref s.heap.objs.size,rawInt 0,.none,.none]}}):=
 .of_wp λprog w A R s h=>by
  obtain ⟨hp,g,d,tk,os⟩:=s;obtain ⟨hl,h⟩:=h
  have hsub:=sub_enumerate
  have hL:Heap.IsTuple (Shared.heap ⟨hp,g,d,tk,os⟩) l items:=⟨_,hl,rfl,n,rfl⟩
  wp_walk using YR hl
  refine adn λst=>Yc ?_
  split
  ·rename_i c _ _ _ _ _
   cases (c==Value.type "enumerate")
   ·wp_walk using YR hl,aaR hL
    exact ⟨_,rfl,h⟩
   ·wp_walk using YR hl,aaR hL
    exact ⟨_,rfl,h⟩
  ·wp_walk using YR hl,aaR hL
   exact ⟨_,rfl,h⟩
theorem p8 {prog:Yw} {w:YM} {A:Around} {E:XR→XX→Prop} (hL:s.heap.IsTuple l items)
  (h:∀ h',IsEnum h' (s.heap.objs.size+1) s.heap.objs.size 0 .none→h'.IsTupleIter s.heap.objs.size l 0→h'.objs.size=s.heap.objs.size+2 →
   (∀ b o,s.heap.get? b=some o→h'.get? b=some o)→Q (.ref (s.heap.objs.size+1)) {s with heap:=h'}) :
  Ye (model prog w) A (call (.type "enumerate") [.ref l]) Q E s:=by
 obtain ⟨⟨c,dct,dt,sl⟩,hl,hc,n,hd⟩:=hL
 replace hc:c=.type "tuple":=hc
 replace hd:dt=.seq items n:=hd
 subst hc hd
 refine callType_new acP (by decide) (ab3 _) (ach _) (λobj=>aaE obj _) aci
  (u6 l items n dct sl) ⟨hl,?_⟩
 have hz:(s.heap.push {cls:=.type "tuple_iterator",data:=.fields #[.ref l,.int 0 0]}).objs.size=s.heap.objs.size+1:=Zg ..
 show _∧_
 rw [hz]
 have he:IsEnum ((s.heap.push {cls:=.type "tuple_iterator",data:=.fields #[.ref l,.int 0 0]}).push
   {cls:=.type "enumerate",data:=.fields #[.none,.bool false,.ref s.heap.objs.size,rawInt 0,.none,.none]}) (s.heap.objs.size+1) s.heap.objs.size 0 .none:=by
  have:=X6 (s.heap.push {cls:=.type "tuple_iterator",data:=.fields #[.ref l,.int 0 0]})
   (o:={cls:=.type "enumerate",data:=.fields #[.none,.bool false,.ref s.heap.objs.size,rawInt 0,.none,.none]}) rfl
  rw [hz] at this;exact this
 refine ⟨⟨_,he,rfl⟩,h _ he ⟨_,XW _ (X6 _ rfl),rfl,rfl⟩ (by rw [Zg,hz]) λb o x=>XW _ (XW _ x)⟩
noncomputable def Ln (K:XU) (a:Addr):It:=
 ⟨λi H=>∃ xs x,kI K H a xs∧xs[i]?=some x,λi H y H'=>∃ x p,(∀ xs,kI K H a xs→xs[i]?=some x)∧H p=none∧y=.ref p∧H'=upd H p (.tup [.int i,x]),λi H=>∃ xs,kI K H a xs∧xs.length=i⟩
theorem xo {k:Nat} {pt:Pos} (l e it:Addr) (hne:e≠it) (hle:l≠e) (hli:l≠it):Turn P w K (.Tuple es k pt) (Ln K l) [e,it] e (λi h=>∃ old,IsEnum h e it i old∧h.IsTupleIter it l i) where
 mem:=by simp
 obj:=λi h zz b hb=>by
  obtain ⟨old,st1,st2⟩:=zz
  rcases Yn.mp hb with rfl | hb
  ·exact ⟨_,st1,λv z=>by cases z⟩
  ·have e:b=it:=by simpa using hb
   subst e
   obtain ⟨o,e,c,d⟩:=st2
   exact ⟨o,e,λv z=>by rw [d] at z;cases z⟩
 keep:=λi h h' zz kp=>by obtain ⟨old,st1,st2⟩:=zz;exact ⟨old,kp e (by simp) _ st1,st2.at λo q=>kp it (by simp) o q⟩
 item:=by
  intro X hP hw hK hc i pins s σ H E I hf zu hg
  obtain ⟨old,st1,st2⟩:=zu
  subst hP hw hK
  obtain ⟨xs,x,hq,hx⟩:=hg
  obtain ⟨its,rv,p,hz⟩:=I.tuple hq
  obtain ⟨u,hu,ru⟩:=rv.get hx
  have NZ:e<s.heap.objs.size:=X0 st1
  have Cn:it<s.heap.objs.size:=by obtain ⟨o,q,_⟩:=st2;exact X0 q
  have hlen:i<its.length:=(XY.mp hu).1
  refine abQ (qV (show X.A.in1.handled=none from I.ok.hd hc) it l hli its.toArray) st1 ⟨st2,p⟩ (by simpa using hlen) hne (by simp [hne,Y6 hle]) λx' h' tk hx' hO hst htup hsz kp=>?_
  have Rt:x'=u:=by
   have e:its.toArray[i]?=some x':=hx'
   rw [aav,hu] at e
   exact (Yu e).symm
  subst Rt
  have hL:=hst.1
  refine ⟨.ref s.heap.objs.size,rfl,?_⟩
  have I1:Inv X pins σ (upd H s.heap.objs.size (.tup [.int i,x])) {s with heap:=s.heap.push {cls:=.type "tuple",data:=.seq #[.int i tk,x']}}:=
   I.laid (t':=s.toks) (λb o q=>XW _ q) (X3 _) ⟨by simp [sizeLine_eq],[.int i tk,x'],.cons ⟨_,rfl⟩ (.cons ru .nil),aa4 _ _⟩
  have hfree:=I.hok.fresh (X3 s.heap.objs.size)
  have hf1:∀ b∈[e,it],kJ X pins (upd H s.heap.objs.size (.tup [.int i,x])) b:=λb hb=>by
   have hlt:b≠s.heap.objs.size:=by
    rcases Yn.mp hb with rfl | hb
    ·exact Yg NZ
    ·rw [Yk.mp hb];exact Yg Cn
   exact ⟨by rw [aC hlt];exact (hf b hb).1,(hf b hb).2⟩
  unfold letOwnedTupleGo
  refine XS (aaQ hO ?_)
  dsimp only
  rw [if_pos (by simp)]
  refine XS (abx ?_)
  unfold updateField
  refine XS (aaQ hO ?_)
  dsimp only
  rw [if_pos (by simp)]
  refine ac2 hO ?_
  have pZ:∀ b,b≠e→(h'.update e (Zi λx=>x.setIfInBounds 0 Value.none)).get? b=h'.get? b:=λb hb=>Yt _ _ (Y6 hb)
  refine ⟨.ref s.heap.objs.size,_,su (t':=tk+1) (s:={s with heap:=s.heap.push {cls:=.type "tuple",data:=.seq #[.int i tk,x']}}) (ch:=[e,it]) I1 (λb o hb q=>?_) hf1,rfl,⟨x,s.heap.objs.size,λys hy=>by rw [I.l7 hy hq];exact hx,hfree,rfl,rfl⟩,⟨x',?_,?_⟩,λb hb=>(hf1 b hb).1⟩
  ·have hb1:b≠e:=λz=>hb (by simp [z])
   have hb2:b≠it:=λz=>hb (by simp [z])
   show (h'.update e _).get? b=some o
   rw [pZ b hb1]
   by_cases Co:b=s.heap.objs.size
   ·subst Co
    have:=X6 (o:={cls:=.type "tuple",data:=.seq #[.int (i:Int) tk,x']}) s.heap rfl
    rw [this] at q;cases q
    exact htup
   ·have q':(s.heap.push {cls:=.type "tuple",data:=.seq #[.int (i:Int) tk,x']}).get? b=some o:=q
    refine kp b o hb1 hb2 ?_
    rwa [abE _ _ _ Co] at q'
  ·show (h'.update e _).get? e=_
   rw [YB _ hO rfl]
   rfl
  ·exact hL.at λo q=>(pZ it (Y6 hne)).trans q
 done:=by
  intro X hP hw hK hc i pins s σ H E I hf zu hg
  obtain ⟨old,st1,st2⟩:=zu
  subst hP hw hK
  obtain ⟨xs,hq,hx⟩:=hg
  obtain ⟨its,rv,p,hz⟩:=I.tuple hq
  obtain ⟨f0,f1,f2,f3,f4,f5⟩:=hf it (by simp)
  have hl:=rv.length
  have hi:i=its.toArray.size:=by simp;nofun
  subst hi
  exact ab4 (qV (show X.A.in1.handled=none from I.ok.hd hc) it l hli its.toArray) st1 ⟨st2,p⟩ λh' eb=>⟨rfl,I.turned (t':=s.toks) (λb o hb e=>eb b o hb e) f0 f1 f3 f4 f5⟩
 self:=λ_ _ _ _ _ zz h=>by obtain ⟨old,st1,_⟩:=zz;exact Z9 st1 h
noncomputable def jT (xs:List D):View:=λ_ i=>if i≤xs.length then some (xs[i]?.map λx=>.tup [.int i,x]) else none
noncomputable def eN (m:DS→M (List D)):MI:=λτ=>(m τ).bind λds=>match ds with
 | [d]=>λG=>match aD G d with
  | some (.lst xs)=>.ok (xs.length+1,iu d) G
  | some (.tup xs)=>.ok (xs.length+1,jT xs) G
  | _=>.stuck
 | _=>M.stop
theorem CD (Ru:pU H0 l ni) (Aa:aq K mg ρ0 H0 zs ni):JV K mg (Ln K l) (jT zs) H0 ρ0:=by
 intro i H ρ G f hp
 have sq:=pU.t (K:=K) (f.tup _ _ Ru)
 have rs:=Aa.mono f
 unfold jT
 constructor
 ·intro e
  by_cases hi:i≤zs.length
  ·rw [if_pos hi] at e
   cases qi:zs[i]? with
   | some z=>rw [qi] at e;cases e
   | none=>
    have:=YZ.mp qi
    exact ⟨ni,sq,by rw [← rs.length];nofun⟩
  ·rw [if_neg hi] at e;cases e
 ·intro dd e
  by_cases hi:i≤zs.length
  ·rw [if_pos hi] at e
   cases qi:zs[i]? with
   | none=>rw [qi] at e;cases e
   | some z=>
    rw [qi] at e;cases e
    obtain ⟨v,ev,rv⟩:=rs.get qi
    refine ⟨⟨ni,v,sq,ev⟩,λy H' hy=>?_⟩
    obtain ⟨v',p,ev',hp0,rfl,rfl⟩:=hy
    have ev':=ev' ni sq
    rw [ev] at ev';cases ev'
    refine ⟨sr.new hp0,?_⟩
    unfold Rep
    refine ⟨p,[.int i,v],rfl,.of aX,.cons (by unfold Rep;rfl) (.cons (Rep.mono (cN hp0 ρ) _ _ rv) .nil)⟩
  ·rw [if_neg hi] at e;cases e
section
variable {X:Cx} {EE:bO} {a:Expr} {p pc:Pos} {m:DS→M (List D)}
theorem CF {k:Nat} {pt:Pos} (hm:X.mg "enumerate"=none) (nS:Gl X "enumerate") (ha:QA X EE [a] m) (h:ao [a]=true:=by rfl):QI X EE (.Tuple es k pt) (.Call (.Name "enumerate" p) [a] [] pc) (eN m):=by
 have h':br a=true∧ao []=true:=by simpa [ao] using h
 intro pins s σ H R I hq
 obtain ⟨τ,ρ,G,ab,ok⟩:=hq
 by_cases hT:∃ d G1 zs,m τ G=.ok [d] G1∧aD G1 d=some (.tup zs)
 ·obtain ⟨d,G1,zs,em,q⟩:=hT
  dsimp only [eN,M.bind] at ok
  rw [em] at ok
  dsimp only at ok
  rw [q] at ok
  dsimp only at ok
  refine Yo (fh I nS hm mL ?_ (by decide) (by decide))
  have hA:ie X.K X.mg EE m σ H λvs H1=>∃ ρ1,Ab X.K X.mg σ H1 τ ρ1 G1∧bX X.K H H1 ρ ρ1∧aq X.K X.mg ρ1 H1 [d] vs:=by
   refine ⟨τ,ρ,G,ab,?_⟩
   rw [em]
   exact λvs H' ρ' f bq r=>⟨ρ',bq,f,r⟩
  refine Yr (cO (ha pc pins s σ H _ I hA) λus s1 oj=>?_) (aM h'.1 _ _) (aO (es:=[]) rfl)
  obtain ⟨vs,H1,I1,r1,ρ1,fW,f1,rs⟩:=oj
  obtain ⟨x,rfl,rx⟩:=fX rs
  obtain ⟨u,rfl,ru⟩:=vals1 r1
  obtain ⟨l,ys,rfl,sq,rv⟩:=kQ rx q
  cases ru
  obtain ⟨its,vv,pl,hz⟩:=I1.tuple sq.t
  have hlt:l<s1.heap.objs.size:=by obtain ⟨_,e,_⟩:=pl;exact X0 e
  refine p8 pl λh2 hE hL hsz kp=>?_
  refine Z9 hE ?_
  have I2:Inv X pins σ H1 {s1 with heap:=h2}:=I1.kept (t':=s1.toks) kp
  refine ⟨s1.heap.objs.size+1,[s1.heap.objs.size+1,s1.heap.objs.size],_,Ln X.K l,H1,rfl,I2,xo l _ _ (abP _) (Yg (ZH hlt)) (Yg hlt),⟨_,hE,hL⟩,λb hb=>?_,ok _ H1 ρ1 f1 fW (CD sq rv)⟩
  rcases Yn.mp hb with rfl | hb
  ·exact I1.l8 (aaU _) (I1.hok.fresh (aaU _))
  ·rw [Yk.mp hb]
   exact I1.l8 (X3 _) (I1.hok.fresh (X3 _))
 ·refine Gf hm nS ha h pins s σ H R I ⟨τ,ρ,G,ab,?_⟩
  have e:uM m τ G=eN m τ G:=by
   dsimp only [eN,uM,M.bind]
   cases em:m τ G with
   | stuck=>rfl
   | bB c G'=>rfl
   | ok ds G'=>
    dsimp only
    match ds with
    | []=>rfl
    | _::_::_=>rfl
    | [d]=>
     dsimp only
     cases q:aD G' d with
     | none=>rfl
     | some sk=>
      cases sk with
      | lst _=>rfl
      | str _=>rfl
      | tup zs=>exact absurd ⟨d,G',zs,em,q⟩ hT
  rw [e];exact ok
end
noncomputable abbrev DN (s:Str):Prop:=(s==("__debug__":Str))=false∧(s==("__classdict__":Str))=false
noncomputable def Out.fw (r:Out D) (G:DH):Out D:=match r with
 | .ok (.obj n) G'=>match G'[n]? with
  | some (.lst ds)=>if n=G.length∧G'.length=n+1∧oX (G'.take G.length) G=true∧aV ds=true then .ok (.con ds) G else .stuck
  | _=>.stuck
 | r=>r
noncomputable def Out.fz (r:Out D):Out D:=match r with
 | .ok (.obj n) G'=>match G'[n]? with
  | some (.lst ds)=>.ok (.con ds) (G'.set n .dead)
  | _=>.stuck
 | r=>r
section
variable {τ:DS} {G G' A B R:DH} {e ma mb mc:DS→M D} {n i:Nat} {d:D} {c:XD} {ml:DS→M (List D)} {ds xs ys:List D} {m:List D→M D}
theorem aN:eFn e τ G=(e τ G).fw G:=X5 rfl rfl
@[simp] theorem Tq:sE e τ G=(e τ G).fz:=X5 rfl rfl
@[simp] theorem Rv:(Out.ok (.tup xs) G').fw G=.ok (.tup xs) G':=X5 rfl rfl
@[simp] theorem Rx:(Out.ok (.con xs) G').fw G=.ok (.con xs) G':=X5 rfl rfl
@[simp] theorem Ry {z:Str}:(Out.ok (.str z) G').fw G=.ok (.str z) G':=X5 rfl rfl
@[simp] theorem Rz {j:Int}:(Out.ok (.int j) G').fw G=.ok (.int j) G':=X5 rfl rfl
theorem jq (h:aV ds=true):(Out.ok (.obj G.length) (G++[.lst ds])).fw G=.ok (.con ds) G:=by
 simp [Out.fw,h,qT]
theorem bK (hz:ds.length≤XT) (h:aV ds=true):(aI ds G).fw G=.ok (.con ds) G:=by
 rw [aI,if_pos hz,jq h]
@[simp] theorem yH:(Out.ok (.obj A.length) (A++.lst ds::B)).fz=.ok (.con ds) (A++.dead::B):=by
 simp [Out.fz,yC]
theorem gy (h:m ds G=.ok d (G++R)) (hc:d.closed=true):cB m ds G=.ok d G:=by
 simp [cB,h,hc,qT]
theorem aS (h:m ds G=.ok d G) (hc:d.closed=true):cB m ds G=.ok d G:=gy (R:=[]) (by simpa using h) hc
@[simp] theorem RA:Gi ml τ G=(ml τ G).bd λds=>match ds with
 | [d]=>λG=>match aD G d with
  | some (.lst xs)=>.ok (xs.length+1,w9 d xs.length) G
  | _=>.stuck
 | _=>M.stop:=ak
@[simp] theorem RB:Rr ml τ G=(ml τ G).bd λds=>match ds with
 | [d,e]=>λG=>match aD G d,aD G e with
  | some (.lst xs),some (.lst ys)=>.ok (min xs.length ys.length+1,N8 d e) G
  | _,_=>.stuck
 | _=>M.stop:=ak
@[simp] theorem Ob:eN ml τ G=(ml τ G).bd λds=>match ds with
 | [d]=>λG=>match aD G d with
  | some (.lst xs)=>.ok (xs.length+1,iu d) G
  | some (.tup xs)=>.ok (xs.length+1,jT xs) G
  | _=>.stuck
 | _=>M.stop:=ak
@[simp] theorem PF:qU ml τ G=(ml τ G).bd λds=>match ints3 ds with
 | some (lo,hi,c)=>λG=>if -(2^30)≤lo∧lo<2^30∧-(2^30)≤hi∧hi<2^30∧0<c∧c<2^30 then .ok (lT lo hi c+1,xj lo c (lT lo hi c)) G else .stuck
 | none=>M.stop:=ak
@[simp] theorem PJ:uX τ G=.ok (.obj G.length) (G++[.dct []]):=X5 rfl rfl
@[simp] theorem Oc:CB ma mb mc τ G=(ma τ G).bd λd G=>if Io G d=true then (mb τ G).bd (λk=>(mc τ).bind λx=>Ip d k x) else .stuck:=by
 unfold CB
 rw [ak]
 unfold Out.bd
 cases ma τ G with
 | stuck=>rfl
 | bB c G=>rfl
 | ok d G'=>simp only [ak];rfl
@[simp] theorem PK:Bv ma mb mc τ G=((ma τ G).bd λv=>(mb τ).bind λo=>(mc τ).bind λi=>CC v o i).xp τ:=by
 unfold Bv bE Out.xp
 rw [ak]
 cases ((ma τ G).bd λv=>(mb τ).bind λo=>(mc τ).bind λi=>CC v o i)<;>rfl
theorem i0 {g:jI} {body:MS} {vw:View} (hv:∀ G i,i≤xs.length→vw G i=some xs[i]?):∀ (fuel i:Nat) (τ:DS) (G:DH),i≤xs.length→xs.length<fuel+i→kq g body vw fuel i τ G=bU g body (xs.drop i) τ G
 | 0,i,τ,G,h1,h2=>by nofun
 | fuel+1,i,τ,G,h1,h2=>by
  rw [kq]
  dsimp only
  rw [hv G i h1]
  by_cases hi:i<xs.length
  ·rw [XZ hi,ZX hi,bU]
   dsimp only
   cases g xs[i] τ with
   | none=>rfl
   | some τ1=>
    dsimp only
    cases body τ1 G with
    | nx τ2 G2=>exact i0 hv fuel (i+1) τ2 G2 (by nofun) (by nofun)
    | ct τ2 G2=>exact i0 hv fuel (i+1) τ2 G2 (by nofun) (by nofun)
    | _=>rfl
  ·rw [Zs (by nofun),aap (by nofun),bU]
theorem j9 {gO:D→Option (List D)} {ks:List Bool} {tt:DS→M Bool} {te:DS→M D} {vw:View} (hv:∀ G i,i≤xs.length→vw G i=some xs[i]?):∀ (fuel i:Nat) (τ:DS) (G:DH),i≤xs.length→xs.length<fuel+i→jE gO ks tt te n vw fuel i τ G=cM gO ks tt te n (xs.drop i) τ G
 | 0,i,τ,G,h1,h2=>by nofun
 | fuel+1,i,τ,G,h1,h2=>by
  rw [jE]
  rw [hv G i h1]
  by_cases hi:i<xs.length
  ·rw [XZ hi,ZX hi,cM]
   dsimp only
   cases dJ gO ks tt te n xs[i] τ G with
   | ok u G2=>exact j9 hv fuel (i+1) τ G2 (by nofun) (by nofun)
   | _=>rfl
  ·rw [Zs (by nofun),aap (by nofun),cM]
theorem Gw {body:MS}:kq g body (w9 (.con xs) xs.length) (xs.length+1) 0 τ G=bU g body xs.reverse τ G:=by
 have:=i0 (g:=g) (body:=body) (xs:=xs.reverse) (vw:=w9 (.con xs) xs.length) (λG i h=>by
  simp only [aaK] at h
  simp only [w9,aD,if_true]
  by_cases hi:i=xs.length
  ·rw [if_pos hi,Zs (by simp;nofun)]
  ·rw [if_neg hi,if_pos (by nofun),aaw (by nofun)]) (xs.length+1) 0 τ G (by simp) (by simp)
 simpa using this
theorem xq:jE gO ks tt te n (jT xs) (xs.length+1) 0 τ G=cM gO ks tt te n (xs.mapIdx λi x=>.tup [.int i,x]) τ G:=by
 have:=j9 (n:=n) (gO:=gO) (ks:=ks) (tt:=tt) (te:=te) (xs:=xs.mapIdx λi x=>D.tup [.int i,x]) (vw:=jT xs) (λG i h=>by
  simp only [aaS] at h
  simp only [jT,if_pos h,aab]) (xs.length+1) 0 τ G (by simp) (by simp)
 simpa using this
theorem CG {c:Int} {k:Nat}:jE gO ks tt te n (xj lo c k) (k+1) 0 τ G=cM gO ks tt te n ((YF k).map λ(i:Nat)=>.int (lo+(i:Int)*c)) τ G:=by
 have:=j9 (n:=n) (gO:=gO) (ks:=ks) (tt:=tt) (te:=te) (xs:=(YF k).map λ(i:Nat)=>D.int (lo+(i:Int)*c)) (vw:=xj lo c k) (λG i h=>by
  simp only [Yh,List.length_range] at h
  simp only [xj,Yq]
  by_cases hi:i<k
  ·rw [if_pos hi,acz hi];rfl
  ·rw [if_neg hi,Zs (by simp;nofun)];rfl) (k+1) 0 τ G (by simp) (by simp)
 simpa using this
theorem xr {x v:D} (h1:gO x=some os) (h2:te (os.map some++mask ks τ) (G++[.lst acc])=.ok v (G++[.lst acc])) (hz:acc.length<XT) :
  dJ gO ks dW te G.length x τ (G++[.lst acc])=.ok () (G++[.lst (acc++[v])]):=by
 simp only [dJ,h1,dW,M.ret,h2,nV,if_pos hz,yC]
theorem kg {gO:D→Option (List D)} {ks:List Bool} {te:DS→M D} {own:D→List D} {f:D→D}:∀ (xs acc:List D),acc.length+xs.length≤1000000→(∀ x∈xs,gO x=some (own x))→(∀ x∈xs,∀ acc,te ((own x).map some++mask ks τ) (G++[.lst acc])=.ok (f x) (G++[.lst acc])) →
  cM gO ks dW te G.length xs τ (G++[.lst acc])=.ok (.obj G.length) (G++[.lst (acc++xs.map f)])
 | [],acc,_,_,_=>by simp [cM]
 | x::xs,acc,hl,h1,h2=>by
  have hz:acc.length<XT:=X7 (by simp at hl;nofun) (lz (n:=1000001) (by nofun))
  rw [cM,xr (h1 x (by simp)) (h2 x (by simp) acc) hz]
  dsimp only
  rw [kg xs (acc++[f x]) (by simp at hl ⊢;nofun) (λy hy=>h1 y (by simp [hy])) (λy hy=>h2 y (by simp [hy]))]
  simp
end
theorem k8:∀ {xs:List D},(∀ x∈xs,x.closed=true)→aV xs=true
 | [],_=>rfl
 | x::xs,h=>by rw [aV,h x (by simp),k8 λy hy=>h y (by simp [hy])];rfl
theorem aB {α:Type} {f:α→D} {l:List α} (h:∀ x,(f x).closed=true):aV (l.map f)=true:=k8 (by
 intro x hx
 obtain ⟨a,_,rfl⟩:=aac.mp hx
 exact h a)
theorem bL {xs:List D}:(D.con xs).closed=aV xs:=by rw [D.closed]
theorem aT {i:Int}:(D.int i).closed=true:=by rw [D.closed]<;>simp
theorem bz {i:Str}:(D.str i).closed=true:=by rw [D.closed]<;>simp
theorem aL:aV []=true:=rfl
theorem aG {x:D} {xs:List D}:aV (x::xs)=(x.closed&&aV xs):=by rw [aV]
mutual
noncomputable def D.pd:D→PyData
 | .bl b=>.bool b
 | .int i=>.int i
 | .str x=>.str x
 | .tup ds=>.tuple (vZ ds)
 | .con ds=>.list (vZ ds)
 | _=>.none
noncomputable def vZ:List D→List PyData
 | []=>[]
 | d::r=>d.pd::vZ r
end
mutual
noncomputable def D.plain:D→Bool
 | .tup ds=>dX ds
 | .con ds=>dX ds
 | .str x=>X4 x
 | .obj _=>false
 | .uv _ _=>false
 | .iG _ _=>false
 | .fn _=>false
 | _=>true
noncomputable def dX:List D→Bool
 | []=>true
 | d::r=>d.plain&&dX r
end
mutual
noncomputable def D.dp:D→Nat
 | .tup ds=>v5 ds+1
 | .con ds=>v5 ds+1
 | _=>0
noncomputable def v5:List D→Nat
 | []=>0
 | d::r=>max d.dp (v5 r)
end
mutual
theorem sI (G:DH):∀ (d:D) (n:Nat),d.plain=true→d.dp<n→jJ G n d=some d.pd
 | .cz,n+1,_,_=>by simp [jJ,D.pd]
 | .bl b,n+1,_,_=>by simp [jJ,D.pd]
 | .int b,n+1,_,_=>by simp [jJ,D.pd]
 | .str b,n+1,_,_=>by simp [jJ,D.pd]
 | .tup ds,n+1,h,hn=>by
  rw [jJ,sJ G ds n (by simpa [D.plain] using h) (by rw [D.dp] at hn;nofun),D.pd];rfl
 | .con ds,n+1,h,hn=>by
  rw [jJ,sJ G ds n (by simpa [D.plain] using h) (by rw [D.dp] at hn;nofun),D.pd];rfl
 | .obj k,n+1,h,_=>by simp [D.plain] at h
 | .uv _ _,n+1,h,_=>by simp [D.plain] at h
 | .iG _ _,n+1,h,_=>by simp [D.plain] at h
 | .fn _,n+1,h,_=>by simp [D.plain] at h
theorem sJ (G:DH):∀ (ds:List D) (n:Nat),dX ds=true→v5 ds<n→c9 (jJ G n) ds=some (vZ ds)
 | [],n,_,_=>by simp [c9,vZ]
 | d::ds,n,h,hn=>by
  have h':d.plain=true∧dX ds=true:=by simpa [dX] using h
  rw [v5] at hn
  rw [c9,sI G d n h'.1 (by nofun),sJ G ds n h'.2 (by nofun),vZ]
end
mutual
theorem lay_of:∀ (d:D),d.plain=true→d.pd.canLay0=true
 | .cz,_=>by simp [D.pd,ZF]
 | .bl b,_=>by simp [D.pd,ZF]
 | .int b,_=>by simp [D.pd,ZF]
 | .str b,h=>by simpa [D.pd,ZF,D.plain] using h
 | .tup ds,h=>by
  rw [D.pd,ZF];exact sL ds (by simpa [D.plain] using h)
 | .con ds,h=>by
  rw [D.pd,ZF];exact sL ds (by simpa [D.plain] using h)
 | .obj k,h=>by simp [D.plain] at h
 | .uv _ _,h=>by simp [D.plain] at h
 | .iG _ _,h=>by simp [D.plain] at h
 | .fn _,h=>by simp [D.plain] at h
theorem sL:∀ (ds:List D),dX ds=true→Za (vZ ds)=true
 | [],_=>by simp [vZ,Za]
 | d::ds,h=>by
  have h':d.plain=true∧dX ds=true:=by simpa [dX] using h
  rw [vZ,Za,lay_of d h'.1,sL ds h'.2];rfl
end
mutual
theorem CH:∀ (d:D),d.pd.depth≤d.dp
 | .cz=>by simp [D.pd,Zk]
 | .bl b=>by simp [D.pd,Zk]
 | .int b=>by simp [D.pd,Zk]
 | .str b=>by simp [D.pd,Zk]
 | .tup ds=>by rw [D.pd,Zk,D.dp];exact ada (xu ds)
 | .con ds=>by rw [D.pd,Zk,D.dp];exact ada (xu ds)
 | .obj k=>by simp [D.pd,Zk]
 | .uv _ _=>by simp [D.pd,Zk]
 | .iG _ _=>by simp [D.pd,Zk]
 | .fn _=>by simp [D.pd,Zk]
theorem xu:∀ (ds:List D),Z0 (vZ ds)≤v5 ds
 | []=>by simp [vZ,Z0]
 | d::ds=>by
  rw [vZ,Z0,v5]
  have:=CH d
  have:=xu ds
  nofun
end
mutual
theorem u7:∀ (d:D),Zn d.pd d.pd=true
 | .cz=>by simp [D.pd,Zn]
 | .bl b=>by simp [D.pd,Zn]
 | .int b=>by simp [D.pd,Zn]
 | .str b=>by simp [D.pd,Zn]
 | .tup ds=>by rw [D.pd,Zn];exact mO ds
 | .con ds=>by rw [D.pd,Zn];exact mO ds
 | .obj k=>by simp [D.pd,Zn]
 | .uv _ _=>by simp [D.pd,Zn]
 | .iG _ _=>by simp [D.pd,Zn]
 | .fn _=>by simp [D.pd,Zn]
theorem mO:∀ (ds:List D),acD (vZ ds) (vZ ds)=true
 | []=>by simp [vZ,acD]
 | d::ds=>by rw [vZ,acD,u7 d,mO ds];rfl
end
theorem u9 (g:Bool) (d:D) (G:DH) (h:d.plain=true) (hn:d.dp≤580):gj g d d G=.ok (.bl (g ^^ true)) G:=by
 have hd:=CH d
 unfold gj wN
 rw [sI G d deep h (by show d.dp<600;nofun)]
 dsimp only
 rw [if_pos (by rw [lay_of d h];simp;nofun),u7]
section
variable {K:XU} {mg:Str→Option XR} {H:Hp} {ρ:List Addr} {G:DH}
noncomputable def Lo (fz:Bool) (H:Hp) (a:Addr) (u:List (List Key×V)):Prop:=if fz=true then ∃ o,H a=some (.dF o (.dT u)) else H a=some (.dT u)
theorem Lo.rd {fz:Bool} {u:List (List Key×V)} (h:Lo fz H a u):Rd H a (.dT u):=by
 cases fz
 ·exact .inl h
 ·exact .inr h
theorem fy.Mg {fz:Bool} {kvs:List (List Key×D)} (h:fy K mg H ρ G) (e:G[n]?=some (.Mg fz kvs)):∃ a xs,ρ[n]?=some a∧Lo fz H a ((kvs.map (·.1)).zip xs)∧aq K mg ρ H (kvs.map (·.2)) xs:=by
 obtain ⟨a,e1,xs,e2,r⟩:=h.ob n _ e
 exact ⟨a,xs,e1,e2,r⟩
end
section
open PyProof.Rows
section
variable {X:Cx} {pos:Pos}
noncomputable def Od (i j l n:Nat):jI:=λd τ=>match d with
 | .tup [x,y,z,u]=>some ((((τ.set i (some x)).set j (some y)).set l (some z)).set n (some u))
 | _=>none
theorem Gx {u:Str} {i j l n:Nat} {px py pz pu:Pos} {k:Nat} (hc:X.calm=true) (hN:X.N.Nodup) (hx:Loc X.env.scope x) (hy:Loc X.env.scope y) (hz:Loc X.env.scope z) (hw:Loc X.env.scope u) (hfx:X.fn x=true∨X.env.scope.names.lookup x=some .local) (Rj:X.fn y=true∨X.env.scope.names.lookup y=some .local) (p9:X.fn z=true∨X.env.scope.names.lookup z=some .local) (hfu:X.fn u=true∨X.env.scope.names.lookup u=some .local)
  (hi:X.N[i]?=some x:=by rfl) (hj:X.N[j]?=some y:=by rfl) (hl:X.N[l]?=some z:=by rfl) (hn:X.N[n]?=some u:=by rfl):QG X (.Tuple [.Name x px,.Name y py,.Name z pz,.Name u pu] k pos) (Od i j l n):=by
 intro pins s σ H v w Q I r zu
 obtain ⟨τ,ρ,G,d,τ',ab,rd,e,q⟩:=zu
 refine A7 (n:=4) hc (iU (ja hN hi hx hfx) (iU (ja hN hj hy Rj) (iU (ja hN hl hz p9) (iU (ja hN hn hw hfu) yd)))) rfl rfl pins s σ H v w Q I r ?_
 cases d<;>try (cases e;done)
 rename_i ds
 match ds,e with
 | [d1,d2,d3,d4],e=>
  cases e
  unfold Rep at rd
  obtain ⟨a,vs,rfl,sq,rs⟩:=rd
  unfold aq at rs
  obtain ⟨v1,vs',rfl,r1,rs⟩:=rs
  unfold aq at rs
  obtain ⟨v2,vs',rfl,r2,rs⟩:=rs
  obtain ⟨v3,v4,rfl,r3,r4⟩:=yq rs
  exact ⟨a,[v1,v2,v3,v4],rfl,sq,rfl,v1,[v2,v3,v4],rfl,v2,[v3,v4],rfl,v3,[v4],rfl,v4,[],rfl,rfl,q _ (Ab.set (Ab.set (Ab.set (Ab.set ab r1) r2) r3) r4)⟩
end
section
variable {X:Cx} {EE:bO} {o i:Expr} {mo mi:DS→M D} {y:Str} {j1:Nat} {p1 lp sp apos cpos:Pos}
noncomputable def CI (y:Str) (zs:List Str) (x:Str):D→M D
 | .int k=>if 0≤k∧k<1000 then (match zs[k.toNat]? with
  | some z=>if x.length+(x.length+1)*z.length≤16777216 then M.ret (.str (Txt.replace x y z)) else M.stop
  | none=>M.stop) else M.stop
 | _=>M.stop
noncomputable def Lp (y:Str) (zs:List Str) (m:M D):D→M D
 | .str x=>m.bind (CI y zs x)
 | _=>M.stop
noncomputable def Lq (y:Str) (zs:List Str) (mo mi:DS→M D):DS→M D:=λτ=>(mo τ).bind (Lp y zs (mi τ))
end
section
variable {X:Cx} {EE:bO}
noncomputable def Oe (X:Cx) (EE:bO) (st:List Stmt) (m:MS):Prop:=M6 X st (gB X.K X.mg EE m)
theorem RC {P:Yw} {w:YM} {mg:Str→Option XR} {base:Heap} {f:Addr} {st:Stmt} {ps:List Str} {k:Nat} {m:List D→M D} (F:r6 K x qual st f fd) (S:fV N ps (au st)) (hps:ps.length=n) (hN:N.length=nn) (hm:∀ ds,m ds=bQ nn ms ds)
  (hbody:∀ (X:Cx) (EE:bO) (cdv:XR) (A:Around) (outer:List Env) (s:XX) (H:Hp) (E:XK),X=kL (lM P w) P w K mg base N qual (au st) f cdv A outer s H E→cK k (A.deeper (Zq qual (au st) s.heap.objs.size f cdv)) →
   fZ X EE→PassesOwn (model P w) X.A X.env X.xe→Oe X EE (bS st) ms) :
  jC P w K mg base (lM P w) (k+1) f fd ps (fU K mg n m):=by
 subst hps hN
 have e:m=λds=>bQ N.length ms ds:=funext hm
 subst e
 obtain ⟨oc,od,kV,doc,pm,an,cdv,ct,osl,rfl,lk,hcd⟩:=F.ex
 refine JT lk hcd S (λvs H Q E h=>h.len) λA outer s H vs Q E hr h=>?_
 obtain ⟨ds,ρ,G,hn,hp,rs,ok⟩:=h
 refine ⟨_,hbody _ (λc σ H'=>∀ cls,yu mg c cls→E cls none H') cdv A outer s H E rfl hr ?_ aa3,ds.map some++Yi (N.length - ds.length) none,ρ,G,⟨jk rs,hp⟩,?_⟩
 ·intro pins σ H' s' e cls c I fx hc ee
  obtain ⟨B,fb,hok,zM⟩:=fx
  refine uG (L:=s.heap.objs.size) I.ok.frames rfl fb λh' a0 fl u=>?_
  have I':Inv _ [] σ H' {s' with heap:=h'}:=Inv.Ib (t:=s'.toks) I zM hok fl.1 u
  have yb:∀ b o,s.heap.get? b=some o→b∉frs outer→b∉frs (Zq qual (au st) s.heap.objs.size f cdv::outer):=λb o e hb z=>by
   rcases Yn.mp (I.jL b z) with z | z
   ·exact absurd (X0 e) (by rw [show b=s.heap.objs.size from z];exact YY _)
   ·exact hb z
  refine ⟨e,cls,a0,B,H',rfl,fl,⟨I'.os,I'.bare,λb o eb nb hb=>zM.keep b o eb nb (yb b o eb hb) (by intro z;exact absurd (show b∈([]:List Addr) from z) (by simp)),λb o eb hb=>zM.there b o eb (yb b o eb hb) (by intro z;exact absurd (show b∈([]:List Addr) from z) (by simp)),
   λb o eb nb hb=>I'.base.slot b o eb nb hb (by intro z;exact absurd (show b∈([]:List Addr) from z) (by simp)),λb o eb nb=>I'.base.free b o eb nb (by intro z;exact absurd (show b∈([]:List Addr) from z) (by simp)),I'.base.tups,I'.base.i9,I'.base.jK,hok⟩,ee cls hc⟩
 ·dsimp only [bQ] at ok
  cases q:ms (ds.map some++Yi (N.length - ds.length) none) G with
  | stuck=>rw [q] at ok;exact ok
  | nx τ G'=>rw [q] at ok;exact λσ' H' ρ' f ab=>ok .cz H' ρ' f ab.hp (by unfold Rep;rfl)
  | rt d G'=>rw [q] at ok;exact λv H' ρ' f hp r=>ok v H' ρ' f hp r
  | bk τ G'=>rw [q] at ok;exact ok.elim
  | ct τ G'=>rw [q] at ok;exact ok.elim
  | xn c τ G'=>rw [q] at ok;exact λσ' H' ρ' f ab cls hc=>ok cls H' ρ' hc f ab.hp
end
end
theorem RG {i j:Int}:aJ (.int i) (.int j) G=.ok (.int (i+j)) G:=X5 rfl rfl
section
variable {τ:DS} {G:DH} {ma mb mo mi:DS→M D}
@[simp] theorem Of:Ph ma mb τ G=(ma τ G).bd λd=>match d with
 | .bl false=>mb τ
 | .bl true=>M.ret (.bl true)
 | _=>M.stop:=ak
@[simp] theorem Lr:BP ma mb τ G=(ma τ G).bd λd=>match d with
 | .bl true=>mb τ
 | .bl false=>M.ret (.bl false)
 | _=>M.stop:=ak
@[simp] theorem Og {y:Str} {zs:List Str}:Lq y zs mo mi τ G=(mo τ G).bd (Lp y zs (mi τ)):=ak
@[simp] theorem RH {y x:Str} {zs:List Str} {m:M D}:Lp y zs m (.str x) G=(m G).bd (CI y zs x):=ak
theorem xw {x:D} (h1:gO x=some os) (h2:tt (os.map some++mask ks τ) (G++[.lst acc])=.ok false (G++[.lst acc])) :
  dJ gO ks tt te G.length x τ (G++[.lst acc])=.ok () (G++[.lst acc]):=by
 simp only [dJ,h1,h2]
theorem vc {x v:D} (h1:gO x=some os) (h2:tt (os.map some++mask ks τ) (G++[.lst acc])=.ok true (G++[.lst acc])) (h3:te (os.map some++mask ks τ) (G++[.lst acc])=.ok v (G++[.lst acc])) (hz:acc.length<XT) :
  dJ gO ks tt te G.length x τ (G++[.lst acc])=.ok () (G++[.lst (acc++[v])]):=by
 simp only [dJ,h1,h2,h3,nV,if_pos hz,yC]
theorem dM {gO:D→Option (List D)} {ks:List Bool} {tt:DS→M Bool} {te:DS→M D} {α:Type} {own:α→List D} {dat f:α→D} {c:α→Bool}:∀ (as:List α) (acc:List D),acc.length+as.length≤1000000→(∀ x∈as,gO (dat x)=some (own x)) →
  (∀ x∈as,∀ acc,tt ((own x).map some++mask ks τ) (G++[.lst acc])=.ok (c x) (G++[.lst acc]))→(∀ x∈as,∀ acc,te ((own x).map some++mask ks τ) (G++[.lst acc])=.ok (f x) (G++[.lst acc])) →
  cM gO ks tt te G.length (as.map dat) τ (G++[.lst acc])=.ok (.obj G.length) (G++[.lst (acc++(as.filter c).map f)])
 | [],acc,_,_,_,_=>by simp [cM]
 | x::as,acc,hl,h1,h2,h3=>by
  have hz:acc.length<XT:=X7 (by simp at hl;nofun) (lz (n:=1000001) (by nofun))
  rw [X8,cM]
  have hp:=h2 x (by simp) acc
  cases hc:c x with
  | false=>
   rw [hc] at hp
   rw [xw (h1 x (by simp)) hp]
   dsimp only
   rw [dM as acc (by simp at hl;nofun) (λq hq=>h1 q (by simp [hq])) (λq hq=>h2 q (by simp [hq])) (λq hq=>h3 q (by simp [hq])),abR (by rw [hc];decide)]
  | true=>
   rw [hc] at hp
   rw [vc (h1 x (by simp)) hp (h3 x (by simp) acc) hz]
   dsimp only
   rw [dM as (acc++[f x]) (by simp at hl ⊢;nofun) (λq hq=>h1 q (by simp [hq])) (λq hq=>h2 q (by simp [hq])) (λq hq=>h3 q (by simp [hq])),aaY hc]
   simp
end
section
open PyProof.Rows
end
section
variable {X:Cx} {EE:bO} {a b:Expr} {pos:Pos} {ma mb m:DS→M D}
noncomputable def qW (d e:D):M D:=λG=>match d,e with
 | .obj n,.int k=>match G[n]? with
  | some (.lst xs)=>if k<1000∧-1000<k∧xs.length*k.toNat≤XT then aI (Yi k.toNat xs).flatten G else .stuck
  | _=>.stuck
 | _,_=>.stuck
theorem aq.rep (r:aq K mg ρ H ds vs):∀ k:Nat,aq K mg ρ H (Yi k ds).flatten (Yi k vs).flatten
 | 0=>.nil
 | k+1=>by
  rw [Zp,Z7,Zp,Z7]
  exact r.append (r.rep k)
theorem Gy:ia X (binaryOp .Mult) (rD X EE qW):=by
 intro pins s σ0 H x y v u Q I rx ry zu
 obtain ⟨σ,τ,ρ,G,d,e,ab,r1,r2,ok⟩:=zu
 cases d<;>try exact ok.elim
 rename_i n
 cases e<;>try exact ok.elim
 rename_i k
 dsimp only [qW] at ok
 cases g:G[n]? with
 | none=>rw [g] at ok;exact ok.elim
 | some o=>
  cases o with
  | lst zs=>
   rw [g] at ok
   dsimp only at ok
   unfold Rep at r1 r2
   subst r2
   obtain ⟨p,rfl,e1⟩:=r1
   obtain ⟨p',vs,e2,hp,rs⟩:=ab.hp.lst g
   rw [e1] at e2;cases e2
   by_cases hk:k<1000∧-1000<k∧zs.length*k.toNat≤XT
   ·rw [if_pos hk] at ok
    obtain ⟨hl,q1⟩:=kP ab (rs.rep k.toNat) ok
    exact J3 pins s σ0 H _ _ v u Q I rx ry ⟨p,k,vs,rfl,rfl,hp,by nofun,by nofun,by rw [← rs.length];exact hk.2.2,q1⟩
   ·rw [if_neg hk] at ok;exact ok.elim
  | _=>rw [g] at ok;exact ok.elim
theorem Ls (ha:QE X EE a ma) (hb:QE X EE b mb):QE X EE (.BinOp a .Mult b pos) (aj qW ma mb):=iW Gy jN ha hb
noncomputable def Lu (g:jI) (τ:DS) (d:D) (G:DH):Res:=match g d τ with
 | some τ'=>.nx τ' G
 | none=>.stuck
noncomputable def CJ (g:jI) (m:DS→M D):MS:=λτ=>bE (m τ) (λd G=>Lu g τ d G) λc G=>.xn c τ G
theorem Lv (ha:QE X EE a ma) (hg:QG X tg g) (hs:swapsWithSole [tg] a pos.line X.env=pure false) (hw:swappedStores [tg] a X.env=pure none) (h1:(assignEach [tg] X.env).map (·.2)=[assign tg X.env]):QS X EE (.Assign [tg] a pos) (CJ g ma):=by
 intro pins s σ H Dd I h
 refine A8 ha hg hs hw h1 pins s σ H Dd I ?_
 have h2:=kN (k:=λτ d G=>Lu g τ d G) h
 obtain ⟨τ,ρ,G,ab,ok⟩:=h2
 refine ⟨τ,ρ,G,ab,?_⟩
 cases e:ma τ G with
 | stuck=>rw [e] at ok;exact ok
 | bB c G'=>rw [e] at ok;exact ok
 | ok d G'=>
  rw [e] at ok
  intro v H' ρ' f bq r
  obtain ⟨τ2,ρ2,G2,d2,bG,r2,aH⟩:=ok v H' ρ' f bq r
  unfold Lu at aH
  cases eg:g d2 τ2 with
  | none=>rw [eg] at aH;exact aH.elim
  | some τ3=>
   rw [eg] at aH
   exact ⟨τ2,ρ2,G2,d2,τ3,bG,r2,eg,λσ' oz=>aH σ' H' ρ2 .refl oz⟩
end
section
variable {τ:DS} {G:DH} {e:DS→M D} {ml:DS→M (List D)} {d:D}
section
variable {mv mo mi:DS→M D} {g:jI}
theorem ve:kW mv mo mi τ G=((mv τ G).bd λv=>(mo τ).bind λo=>(mi τ).bind λi=>mF v o i).xp τ:=by
 unfold kW bE Out.xp
 rw [ak]
 cases (mv τ G).bd λv=>(mo τ).bind λo=>(mi τ).bind λi=>mF v o i<;>rfl
end
end
section
variable {X:Cx} {EE:bO}
theorem aq.eraseIdx:∀ (n:Nat) {ds:List D} {vs:List V},aq K mg ρ H ds vs→aq K mg ρ H (ds.eraseIdx n) (vs.eraseIdx n)
 | _,[],vs,h=>by unfold aq at h;subst h;exact .nil
 | 0,d::ds,vs,h=>by
  unfold aq at h
  obtain ⟨v,r,rfl,h1,h2⟩:=h
  exact h2
 | n+1,d::ds,vs,h=>by
  unfold aq at h
  obtain ⟨v,r,rfl,h1,h2⟩:=h
  exact .cons h1 (aq.eraseIdx n h2)
end
theorem Gz {CX:l5} {k:Nat} {f:Addr} {ps:List Str}:gA P w K mg base CX k f fd ps (fU K mg n (λ_=>M.stop)):=
 ⟨λvs H Q E zz=>by obtain ⟨ds,ρ,G,hn,hp,rs,ok⟩:=zz;exact ok.elim,λA outer s H args us vs Q E _ _ _ _ _ ⟨ds,ρ,G,hn,hp,rs,ok⟩=>ok.elim⟩
structure o9 (N ps names:List Str) (sc:Scope):Prop where
 kind:sc.kind=.function
 co:sc.isCoroutine=false
 gen:sc.isGenerator=false
 nd:N.Nodup
 pre:N.take (ps.length+names.length)=ps++names
 par:∀ x∈ps,sc.names.lookup x=some .local
 fr:∀ x∈names,sc.names.lookup x=some .free
 oK:∀ y∈sc.names,y.2≠.cell
 frs:∀ y∈sc.names,y.2=.free→y.1∈names
noncomputable abbrev vf (k:gU) (cs:List Addr) (L a c:Addr):Env:=PySem.W.envX k.qual k.scope L a (.ref c) (k.names.zip cs)
noncomputable def Mi (CX:l5) (P:Yw) (w:YM) (K:XU) (mg:Str→Option XR) (base:Heap) (N:List Str) (k:gU) (cs:List Addr) (a c:Addr) (A:Around) (outer:List Env) (s:XX) (H:Hp) (E:XK):Cx where
 prog:=P
 w:=w
 K:=K
 mg:=mg
 base:=base
 A:=A.deeper (vf k cs s.heap.objs.size a c)
 N:=N
 s₀:=s
 H₀:=H
 env:=vf k cs s.heap.objs.size a c
 outer:=outer
 stack:=vf k cs s.heap.objs.size a c::outer
 ex:=[]
 fn:=λ_=>false
 calm:=true
 pn:=[]
 xe:=λe s'=>Ye (model P w) (A.deeper (vf k cs s.heap.objs.size a c)) (leaving (vf k cs s.heap.objs.size a c) e) (λ_ s''=>CX outer H s E e s'') (λe' s''=>CX outer H s E e' s'') s'
theorem jr:∀ {ns:List Str} {cs:List Addr} {y:Str} {c:Addr},(ns.zip cs).lookup y=some c→∃ i:Nat,ns[i]?=some y∧cs[i]?=some c
 | [],cs,y,c,h=>by simp at h
 | n::ns,[],y,c,h=>by simp at h
 | n::ns,d::cs,y,c,h=>by
  rw [Zv,Yz] at h
  cases e:(y==n) with
  | true=>
   rw [e] at h
   cases h
   exact ⟨0,by rw [beq_iff_eq.mp e];rfl,rfl⟩
  | false=>
   rw [e] at h
   obtain ⟨i,h1,h2⟩:=jr h
   exact ⟨i+1,by simpa using h1,by simpa using h2⟩
theorem k9:∀ {ns:List Str} {cs:List Addr} {y:Str} {c:Addr} {i:Nat},ns.Nodup→ns[i]?=some y→cs[i]?=some c→(ns.zip cs).lookup y=some c
 | [],cs,y,c,i,_,h,_=>by simp at h
 | n::ns,[],y,c,i,_,_,h=>by simp at h
 | n::ns,d::cs,y,c,0,_,h,h2=>by
  simp at h h2
  subst h h2
  simp
 | n::ns,d::cs,y,c,i+1,nd,h,h2=>by
  have h':ns[i]?=some y:=by simpa using h
  have ne:(y==n)=false:=beq_eq_false_iff_ne.mpr λz=>(ZJ.mp nd).1 (z▸Yy h')
  rw [Zv,Yz,ne]
  exact k9 (ZJ.mp nd).2 h' (by simpa using h2)
theorem dI.get:∀ {cs:List Addr} {xs:List V} {i:Nat} {c:Addr},dI H cs xs→cs[i]?=some c→∃ x o u,xs[i]?=some x∧ux H c o∧o.data=.cell (some u)∧RelV x u
 | [],xs,i,c,_,h=>by simp at h
 | d::cs,xs,0,c,⟨x,r,o,u,e,h1,h2,h3,_⟩,h=>by
  simp at h
  subst h e
  exact ⟨x,o,u,rfl,h1,h2,h3⟩
 | d::cs,xs,i+1,c,⟨x,r,o,u,e,_,_,_,h4⟩,h=>by
  subst e
  obtain ⟨x',o',u',g⟩:=dI.get h4 (i:=i) (by simpa using h)
  exact ⟨x',o',u',by simpa using g⟩
theorem dI.len:∀ {cs:List Addr} {xs:List V},dI H cs xs→xs.length=cs.length
 | [],xs,h=>by rw [show xs=[] from h];rfl
 | d::cs,xs,⟨x,r,o,u,e,_,_,_,h4⟩=>by rw [e,Ym,Ym,h4.len]
theorem sM:∀ {ps:List Str} {us:List XR} {y:Str} {u:XR} {i:Nat},ps.Nodup→ps[i]?=some y→us[i]?=some u→(ps.zip us).reverse.lookup y=some u:=by
 intro ps us y u i nd h1 h2
 have key:∀ {ps:List Str} {us:List XR} {i:Nat} (r:List (Str×XR)),ps.Nodup→ps[i]?=some y→us[i]?=some u→((ps.zip us).reverse++r).lookup y=some u:=by
  intro ps
  induction ps with
  | nil=>intro us i r _ h;simp at h
  | cons p ps ih=>
   intro us i r nd h1 h2
   cases us with
   | nil=>simp at h2
   | cons w us=>
    rw [Zv,Y7,Y8]
    cases i with
    | zero=>
     simp at h1 h2
     subst h1 h2
     have none:∀ (q:List (Str×XR)) (r:List (Str×XR)),(∀ z∈q,z.1≠p)→(q++r).lookup p=r.lookup p:=by
      intro q
      induction q with
      | nil=>intro r _;rfl
      | cons z q Vm=>
       intro r hz
       rw [adb,Yz,beq_eq_false_iff_ne.mpr (Y6 (hz z (by simp)))]
       exact Vm r λz' h'=>hz z' (by simp [h'])
     rw [none _ _ (λz hz=>by
      have:=(ZZ (abS.mp hz)).1
      intro e
      exact (ZJ.mp nd).1 (e▸this))]
     simp
    | succ i=>exact ih ([(p,w)]++r) (ZJ.mp nd).2 (by simpa using h1) (by simpa using h2)
 have:=key (ps:=ps) (us:=us) (i:=i) [] nd h1 h2
 rwa [YW] at this
theorem GA {CX:l5} {P:Yw} {w:YM} {K:XU} {mg:Str→Option XR} {base h1:Heap} {N ps:List Str} {k:gU} {cs:List Addr} {a c:Addr} {A:Around} {outer:List Env} {s:XX} {H:Hp} {E:XK} {us:List XR} {vs xs:List V}
  (S:o9 N ps k.names k.scope) (hd:A.handled=none) (e0:mw P w K mg base A outer s H) (hl:vs.length=ps.length) (r:Vals vs us) (hcl:cs.length=k.names.length) (hnd:cs.Nodup) (hc:dI H cs xs)
  (hns:h1.Ns s.heap.objs.size λy=>(ps.zip us).reverse.lookup y) (hk:∀ b o,s.heap.get? b=some o→h1.get? b=some o) {n:Nat} (ht:0<n) :
  Inv (Mi CX P w K mg base N k cs a c A outer s H E) [] (start N (vs++xs)) H {s with heap:=h1,toks:=n}:=by
 have Oh:(ps++k.names).Nodup:=by rw [← S.pre];exact S.nd.sublist (acY _ _)
 have Pd:ps.Nodup:=(aax.mp Oh).1
 have Tr:k.names.Nodup:=(aax.mp Oh).2.1
 have PL:xs.length=k.names.length:=by rw [hc.len,hcl]
 have hpl:ps.length+k.names.length≤N.length:=by have:=congrArg abC S.pre;rw [aaF,Yx] at this;nofun
 have cellAt:∀ y d,(k.names.zip cs).lookup y=some d→∃ i x o u,k.names[i]?=some y∧xs[i]?=some x∧ux H d o∧o.data=.cell (some u)∧RelV x u∧s.heap.get? d=some o:=λy d e=>by
  obtain ⟨i,h1,h2⟩:=jr e
  obtain ⟨x,o,u,g1,g2,g3,g4⟩:=hc.get h2
  exact ⟨i,x,o,u,h1,g1,g2,g3,g4,(e0.hok d _ g2).1⟩
 have EX:∀ b:Addr,b∉(Mi CX P w K mg base N k cs a c A outer s H E).ex:=λb z=>absurd (show b∈([]:List Addr) from z) (by simp)
 refine ⟨⟨e0.mod,S.kind,rfl,rfl,X3 _,λy z d h1 h2=>?_,λy hy=>?_,λy d h _=>absurd (show false=true from h) YH,λ_=>hd,acm e0.frames,.inr ⟨rfl,rfl⟩,λb z=>absurd z (EX b),e0.bs,e0.En,λb _ _=>EX b,λb z=>absurd z (EX b),e0.lG,e0.ED⟩,
  ⟨rfl,ht⟩,e0.bare,Un.kept hk,⟨_,hns,λi y v h1 h2 h3=>?_⟩,λy d h=>?_,e0.hok.fresh (X3 _),λy d h=>?_,λp hp=>absurd (show p∈([]:List (Addr×Obj)) from hp) (by simp),e0.hok.kept hk,?_⟩
 ·obtain ⟨i,a1,a2⟩:=jr h1
  obtain ⟨j,b1,b2⟩:=jr h2
  have ij:i=j:=by
   obtain ⟨l1,e1⟩:=XY.mp a2
   obtain ⟨l2,e2⟩:=XY.mp b2
   exact (Zt hnd).mp (e1.trans e2.symm)
  subst ij
  rw [a1] at b1
  exact Yu b1
 ·have hy:k.scope.names.lookup y=some .cell∨k.scope.names.lookup y=some .free:=hy
  rcases hy with hy | hy
  ·exact absurd rfl (S.oK _ (Zo hy))
  ·have hm:=S.frs _ (Zo hy) rfl
   obtain ⟨i,hi,e⟩:=aae hm
   have e':k.names[i]?=some y:=by rw [XZ hi,e]
   exact ⟨_,k9 Tr e' (XZ (by nofun))⟩
 ·have hi:i<(vs++xs).length:=by
   unfold L2.start at h2
   by_cases hi:i<(vs++xs).length
   ·exact hi
   ·rw [Yp (by simpa using hi)] at h2
    rw [aaf] at h2
    split at h2<;>cases h2
  have ha:(vs++xs)[i]?=some v:=by
   unfold L2.start at h2
   rw [Yd (by simpa using hi),Yq] at h2
   cases e:(vs++xs)[i]? with
   | none=>rw [e] at h2;cases h2
   | some a=>rw [e] at h2;cases h2;rfl
  rw [Yx] at hi
  have hy:(ps++k.names)[i]?=some y:=by
   rw [← S.pre,abH (by nofun)];exact h1
  by_cases hiv:i<vs.length
  ·rw [Yd hiv] at ha
   rw [Yd (by nofun)] at hy
   obtain ⟨u,hu,rv⟩:=r.get ha
   exact ⟨u,rv,.inl ⟨S.par y (Yy hy),sM Pd hy hu⟩⟩
  ·rw [Yp (by nofun)] at ha hy
   rw [hl] at ha
   have hic:i - ps.length<cs.length:=by nofun
   have ec:=XZ hic
   obtain ⟨x,o,u,g1,g2,g3,g4⟩:=hc.get ec
   rw [g1] at ha
   cases ha
   refine ⟨u,g4,.inr ⟨.inr (S.fr y (Yy hy)),_,k9 Tr hy ec,o,hk _ _ (e0.hok _ _ g2).1,g3⟩⟩
 ·obtain ⟨i,x,o,u,_,_,_,g3,_,g5⟩:=cellAt y d h
  exact ⟨_,o,hk _ _ g5,g3⟩
 ·obtain ⟨i,x,o,u,_,_,g2,_⟩:=cellAt y d h
  exact .inr ⟨rfl,o,_,g2⟩
 ·unfold L2.start
  show _=N.length
  rw [Yx,Yh,ab9,Yx]
  nofun
noncomputable def yI (P:Yw) (w:YM) (K:XU) (mg:Str→Option XR) (base:Heap) (CX:l5) (k:Nat) (c:gU) (n:Nat) (m:List D→M D):Prop:=
 ∀ (A:Around) (outer:List Env) (s:XX) (H:Hp) (us:List XR) (vs xs:List V) (Q:VK) (E:XK) (a:Addr) (cs:List Addr),cK k A→mw P w K mg base A outer s H→0<s.toks→m5 H c a cs→dI H cs xs→Vals vs us→us.length=n →
  fU K mg (n+c.names.length) m (vs++xs) H Q E→codeAny (model P w) A (.call (.ref a) ⟨us,[]⟩) (CR CX outer P w H s Q E) s
noncomputable def i6 (r:Out D):Out D:=match r with
 | .bB _ _=>.stuck
 | r=>r
noncomputable def Ac (n:Nat) (m:DS→M D) (ds:List D):M D:=m (ds.map some++Yi (n - ds.length) none)
theorem GB {P:Yw} {w:YM} {K:XU} {mg:Str→Option XR} {base:Heap} {c:gU} {ps:List Str} {k:Nat} {m:List D→M D} (S:o9 N ps c.names c.scope) (hps:ps.length=n) (hN:N.length=nn) (hm:∀ ds G,m ds G=i6 (Ac nn me ds G))
  (hbind:∀ (doc pm ctv:XR) (c':Addr) (cs:List Addr) (us:List XR) (s:XX),us.length=ps.length→bindArgs (uw c cs doc pm c' ctv) ⟨us,[]⟩=pure (ps.zip us)) {bd:Expr} (hbd:c.body=.expr bd)
  (hbody:∀ (X:Cx) (EE:bO) (cs:List Addr) (a c':Addr) (A:Around) (outer:List Env) (s:XX) (H:Hp) (E:XK),X=Mi (lM P w) P w K mg base N c cs a c' A outer s H E→cK k (A.deeper (vf c cs s.heap.objs.size a c')) →
   fZ X EE→PassesOwn (model P w) X.A X.env X.xe→QE X EE bd me) :
  yI P w K mg base (lM P w) (k+1) c n m:=by
 intro A outer s H us vs xs Q E a cs hr e0 htk hca hce r Oi yf
 obtain ⟨hcl,hnd,doc,pm,ctv,c',fo,oc,ws,t,fc,hd,hv⟩:=hca
 subst hps hN
 obtain ⟨ds,ρ,G,hn,hp,rs,ok⟩:=yf
 have hvl:vs.length=ps.length:=by rw [r.length];exact Oi
 have ho:=(e0.hok a _ fo).1
 have hoc:=(e0.hok c' _ fc).1
 have lim:s.heap.NoLimit:=e0.mod.nolimit.keeps λb o e=>(e0.bs b o e).1
 refine PySem.W.kla_callFunE (fd:=uw c cs doc pm c' ctv) hr.depth ho rfl S.co S.gen hbd ⟨c',oc,ws,t,rfl,hoc,hd,hv⟩ ?_
 rw [hbind doc pm ctv c' cs us s Oi]
 refine Yc (acp S.oK (λy hy=>S.par y.1 (ZZ hy).1) (λh1 hns Tt=>⟨lim.fresh _ Tt,?_⟩) S.kind)
 have hk1:∀ b o,s.heap.get? b=some o→h1.get? b=some o:=λb o e=>Tt.extBut b o (Yg (X0 e)) (XW _ e)
 have I:Inv (Mi (lM P w) P w K mg base N c cs a c' A outer s H E) [] (L2.start N (vs++xs)) H {s with heap:=h1,toks:=s.toks+(ps.zip us).length}:=GA S hr.hd e0 hvl r hcl hnd hce hns hk1 (X7 htk (ac9 _ _))
 have hB:=hbody _ (λ_ _ _=>False) cs a c' A outer s H E rfl (hr.deeper _) (λ_ _ _ _ _ _ _ _ _ _ z=>z.elim) aa3
 have hq:bh K mg (λ_ _ _=>False) me (L2.start N (vs++xs)) H Q:=by
  refine ⟨ds.map some++Yi (N.length - ds.length) none,ρ,G,⟨jk rs,hp⟩,?_⟩
  rw [hm] at ok
  unfold Ac at ok
  cases q:me (ds.map some++Yi (N.length - ds.length) none) G with
  | stuck=>rw [q] at ok;exact ok
  | ok d G'=>rw [q] at ok;exact λv H' ρ' f ab r=>ok v H' ρ' f ab.hp r
  | bB c G'=>rw [q] at ok;exact ok.elim
 show codeAny _ _ (.expr bd (vf c cs s.heap.objs.size a c')) _ _
 refine PySem.W.kla_codeExpr (YG (hB [] _ (L2.start N (vs++xs)) H Q I hq) (λu s' hs=>?_) λe s' hs=>hs)
 obtain ⟨v,H',J,rv,q⟩:=hs
 exact ⟨v,H',J.os,J.bare,J.base,J.hok,rv,q⟩
noncomputable def sN (i n:Nat) (Iq:Str→Option (Nat×(List D→M D))) (τ:DS) (ds:List D):M D:=match τ[i]? with
 | some (some (.iG y caps))=>match Iq y with
  | some (c,mf)=>if ds.length=n∧caps.length=c then mf (ds++caps) else M.stop
  | none=>M.stop
 | _=>M.stop
noncomputable def lg (i n:Nat) (Iq:Str→Option (Nat×(List D→M D))) (m:DS→M (List D)):DS→M D:=λτ G=>match τ[i]? with
 | some (some (.iG _ _))=>((m τ).bind (sN i n Iq τ)) G
 | _=>.stuck
section
variable {X:Cx} {CX:l5} {EE:bO} {k n:Nat} {x:Str} {p pos:Pos} {e:Expr} {es:List Expr} {m:DS→M (List D)}
theorem CK {pins:List (Addr×Obj)} {σ:L2.St} {H:Hp} {s:XX} {Q:VK} {us:List XR} {vs xs:List V} {τ:DS} {ρ:List Addr} {G:DH} {ds caps:List D} {a:Addr} {cs:List Addr} (F:yI X.prog X.w X.K X.mg X.base CX k yJ n mf) (hr:cK k X.A)
  (hx:FN CX X EE) (I:Inv X pins σ H s) (r:Vals vs us) (ab:Ab X.K X.mg σ H τ ρ G) (rs:aq X.K X.mg ρ H ds vs) (hn:ds.length=n) (hca:m5 H yJ a cs) (hce:dI H cs xs) (rc:aq X.K X.mg ρ H caps xs) (ok:iI X.K X.mg EE H σ τ ρ (mf (ds++caps) G) Q):Ye (model X.prog X.w) X.A (call (.ref a) us) (EP X pins σ Q) X.xe s:=by
 have h:fU X.K X.mg (n+yJ.names.length) mf (vs++xs) H Q (Nz X.mg EE σ):=by
  refine ⟨ds++caps,ρ,G,?_,ab.hp,rs.append rc,?_⟩
  ·rw [Yx,hn,rc.length,hce.len,hca.1]
  cases q:mf (ds++caps) G with
  | stuck=>rw [q] at ok;exact ok
  | ok d G'=>rw [q] at ok;exact λv H' ρ' f hp r=>ok v H' ρ' f (fy.ab ab f hp) r
  | bB c G'=>rw [q] at ok;exact λcls H' ρ' hc f hp=>⟨c,hc,ok H' ρ' f (fy.ab ab f hp)⟩
 refine acL (codeAny_mono (F X.A X.stack s H us vs xs Q (Nz X.mg EE σ) a cs hr I.gk I.os.2 hca hce r (by rw [← r.length,← rs.length,hn]) h) λr s' hq=>?_)
 cases r with
 | error e=>exact hx pins σ H s e s' I hq
 | ok fl=>
  cases fl with
  | ret u=>exact I.after hq
  | next=>exact YK hq
  | brk=>exact YK hq
  | cont=>exact YK hq
theorem m5.fn {cs:List Addr} (hok:i8 P w H h) (hc:m5 H yJ a cs):PySem.W.FnAt a h:=by
 obtain ⟨_,_,doc,pm,ctv,c,fo,_⟩:=hc
 exact ⟨_,_,_,_,(hok a _ fo).1⟩
theorem CL {Iq:Str→Option (Nat×(List D→M D))} (hN:X.N[i]?=some x) (hv:A3 X.env.scope x) (hd:(x==("__debug__":Str))=false∧(x==("__classdict__":Str))=false)
  (hC:∀ y c mf,Iq y=some (c,mf)→∃ k yJ,mZ X.K X.mg y=some yJ∧yI X.prog X.w X.K X.mg X.base CX k yJ n mf∧cK k X.A) (hx:FN CX X EE)
  (ha:QA X EE (e::es) m) (h:ao (e::es)=true:=by rfl):QE X EE (.Call (.Name x p) (e::es) [] pos) (lg i n Iq m):=by
 have h':br e=true∧ao es=true:=by simpa [ao] using h
 intro pins s σ H Q I hq
 obtain ⟨τ,ρ,G,ab,ok⟩:=hq
 unfold lg at ok
 cases q:τ[i]? with
 | none=>rw [q] at ok;exact ok.elim
 | some od=>
  cases od with
  | none=>rw [q] at ok;exact ok.elim
  | some d=>
   rw [q] at ok
   cases d<;>try exact ok.elim
   rename_i y caps
   dsimp only at ok
   obtain ⟨v,ev,rv⟩:=ab.st.2 i (.iG y caps) q
   unfold Rep at rv
   obtain ⟨yJ,a,cs,xs,rfl,hk,hca,hce,rc⟩:=rv
   obtain ⟨τ1,ρ1,G1,fW,yp⟩:=jf (m:=m) (k:=sN i n Iq) ⟨τ,ρ,G,ab,ok⟩
   refine Yo (YG (v9 hN hv hd.1 hd.2 pins s σ H (λv' H'=>v'=.ref a∧H'=H) I ⟨_,ev,rfl,rfl⟩) (λu s0 hu=>?_) λ_ _ z=>z)
   obtain ⟨v',H',I0,r0,rfl,rfl⟩:=hu
   cases r0
   refine PySem.W.callWith_F (hca.fn I0.hok) (cO (ha pos pins s0 σ H' _ I0 ⟨τ1,ρ1,G1,fW,yp⟩) λus s1 zz=>?_) (aM h'.1 _ _) (aO h'.2)
   obtain ⟨vs,H1,I1,r,q⟩:=zz
   obtain ⟨τ2,ρ2,G2,ds,bG,rs,aH⟩:=q
   unfold sN at aH
   cases q2:τ2[i]? with
   | none=>rw [q2] at aH;exact aH.elim
   | some od=>
    cases od with
    | none=>rw [q2] at aH;exact aH.elim
    | some d=>
     rw [q2] at aH
     cases d<;>try exact aH.elim
     rename_i y2 Ir
     dsimp only at aH
     obtain ⟨v2,RJ,Tu⟩:=bG.st.2 i (.iG y2 Ir) q2
     unfold Rep at Tu
     obtain ⟨Vn,a2,W0,W2,rfl,hk2,Oj,RK,Vp⟩:=Tu
     rw [ev] at RJ
     cases RJ
     refine ⟨Oj.fn I1.hok,?_⟩
     cases qt:Iq y2 with
     | none=>rw [qt] at aH;exact aH.elim
     | some z=>
      obtain ⟨c,mf⟩:=z
      rw [qt] at aH
      dsimp only at aH
      obtain ⟨k,Vq,e3,F,hr⟩:=hC y2 c mf qt
      rw [hk2] at e3
      cases e3
      by_cases hn:ds.length=n∧Ir.length=c
      ·rw [if_pos hn] at aH
       exact CK F hr hx I1 r bG rs hn.1 Oj RK Vp aH
      ·rw [if_neg hn] at aH
       exact aH.elim
end
noncomputable def Cx.held (X:Cx) (ns:List Str):Cx:={X with fn:=λx=>X.fn x&&!(ns.contains x)}
structure Lw (X:Cx) (H':Hp) (s':XX):Prop where
 os:s'.os=X.s₀.os∧0<s'.toks
 bare:aaC s'.gens
 base:Un X.fs X.ex X.H₀ H' X.s₀.heap s'.heap
 hok:i8 X.prog X.w H' s'.heap
noncomputable def Vr (X:Cx) (D:Ends) (fl:Flow) (s':XX):Prop:=match fl with
 | .ret u=>∃ v H',Lw X H' s'∧RelV v u∧D.rt v H'
 | .next=>∃ σ' H',Lw X H' s'∧D.nx σ' H'
 | .brk=>∃ σ' H',D.bk σ' H'
 | .cont=>∃ σ' H',D.ct σ' H'
noncomputable def CM (X:Cx) (EE:bO) (st:List Stmt) (m:MS):Prop:=∀ (pins:List (Addr×Obj)) (s:XX) (σ:L2.St) (H:Hp) (D:Ends),Inv X pins σ H s→gB X.K X.mg EE m D σ H→Ye (model X.prog X.w) X.A (execs st X.env) (Vr X D) X.xe s
section
variable {X:Cx} {EE:bO} {pins:List (Addr×Obj)} {σ:L2.St} {H:Hp} {s:XX} {st:Stmt} {rest:List Stmt} {ms mt:MS}
noncomputable def nj (y:Str):DO→Bool
 | .tab z=>z==y
 | _=>false
theorem yK {K:XU} {mg:Str→Option XR} {ρ:List Addr} {τ:DS} (h:ou K mg H ρ σ τ):∀ (js:List Nat) (caps:List D),js.mapM (λj=>(τ[j]?).join)=some caps→∃ xs,aq K mg ρ H caps xs∧xs.length=js.length∧∀ (l j:Nat),js[l]?=some j→∃ x:V,xs[l]?=some x∧σ[j]?=some (some x)
 | [],caps,e=>by
  simp at e
  subst e
  exact ⟨[],.nil,rfl,λl j h=>by simp at h⟩
 | j::js,caps,e=>by
  rw [List.mapM_cons] at e
  cases q:(τ[j]?).join with
  | none=>rw [q] at e;cases e
  | some d=>
   rw [q] at e
   cases q2:js.mapM (λj=>(τ[j]?).join) with
   | none=>rw [q2] at e;cases e
   | some ds=>
    rw [q2] at e
    cases e
    obtain ⟨xs,r,hl,hx⟩:=yK h js ds q2
    have qj:τ[j]?=some (some d):=by
     cases z:τ[j]? with
     | none=>rw [z] at q;cases q
     | some o=>rw [z] at q;cases q;rfl
    obtain ⟨v,e1,rv⟩:=h.2 j d qj
    refine ⟨v::xs,.cons rv r,by simp [hl],λl j' hj=>?_⟩
    cases l with
    | zero=>
     simp at hj
     subst hj
     exact ⟨v,rfl,e1⟩
    | succ l=>exact hx l j' (by simpa using hj)
theorem pe {H:Hp}:∀ {cs:List Addr} {xs:List V},xs.length=cs.length→(∀ (l:Nat) (c:Addr) (x:V),cs[l]?=some c→xs[l]?=some x→∃ (o:Obj) (u:XR),ux H c o∧o.data=.cell (some u)∧RelV x u)→dI H cs xs
 | [],[],_,_=>rfl
 | [],x::xs,h,_=>by simp at h
 | c::cs,[],h,_=>by simp at h
 | c::cs,x::xs,h,k=>by
  obtain ⟨o,u,h1,h2,h3⟩:=k 0 c x rfl rfl
  exact ⟨x,xs,o,u,rfl,h1,h2,h3,pe (by simpa using h) λl c' x' e1 e2=>k (l+1) c' x' (by simpa using e1) (by simpa using e2)⟩
noncomputable def gM (H:Hp) (h:Heap) (cs:List Addr):Hp:=λb=>if b∈cs then (h.get? b).map λo=>.dF o (.own 0) else H b
theorem fJ {cs:List Addr} (e:b∉cs):gM H h cs b=H b:=if_neg e
theorem mP {cs:List Addr} {o:Obj} (e:b∈cs) (q:h.get? b=some o):ux (gM H h cs) b o:=by
 unfold ux gM
 rw [if_pos e,q];rfl
theorem CN {cs:List Addr} (I:Inv X pins σ H s) (hfn:∀ x,X.fn x=true) (hlen:cs.length=ns.length) (hcs:∀ (l:Nat) (y:Str),ns[l]?=some y→∃ c,cs[l]?=some c∧X.env.cells.lookup y=some c):Inv (Cx.held X ns) pins σ (gM H s.heap cs) s:=by
 have name:∀ c∈cs,∃ y∈ns,X.env.cells.lookup y=some c:=λc hc=>by
  obtain ⟨l,hl,e⟩:=aae hc
  have hl2:l<ns.length:=by nofun
  obtain ⟨c',e1,e2⟩:=hcs l ns[l] (XZ hl2)
  rw [XZ hl,e] at e1
  cases e1
  exact ⟨ns[l],Zw hl2,e2⟩
 have hnone:∀ c∈cs,H c=none:=λc hc=>by
  obtain ⟨y,_,e⟩:=name c hc
  exact (I.jB y c e).resolve_right λz=>by rw [hfn] at z;cases z.1
 have out:∀ {b:Addr} {u:HO},H b=some u→gM H s.heap cs b=some u:=λ{b u} e=>by
  rw [fJ (λhb=>by rw [hnone b hb] at e;cases e)];exact e
 have obj:∀ c∈cs,∃ o v,s.heap.get? c=some o∧o.data=.cell v:=λc hc=>by
  obtain ⟨y,_,e⟩:=name c hc
  obtain ⟨v,o,h1,h2⟩:=I.cell y c e
  exact ⟨o,v,h1,h2⟩
 refine ⟨⟨I.ok.mod,I.ok.kind,I.ok.glob,I.ok.blt,I.ok.above,I.ok.inj,I.ok.has,λx c h e=>I.ok.Mz x c (hfn x) e,I.ok.hd,I.ok.frames,I.ok.stk,I.ok.Ul,I.ok.bs,I.ok.En,I.ok.EB,I.ok.EC,I.ok.lG,I.ok.ED⟩,I.os,I.bare,
  ⟨I.base.keep,I.base.slot,λb o e n hx=>?_,I.base.there,λb xs e=>out (I.base.tups b xs e),λb o u e=>out (I.base.i9 b o u e),λb ps e=>?_⟩,I.loc,I.cell,?_,λx c e=>?_,λp hp=>?_,λb ob e=>?_,I.len⟩
 ·rw [fJ (λhb=>?_)]
  ·exact I.base.free b o e n hx
  ·obtain ⟨y,_,ec⟩:=name b hb
   exact absurd (X7 (X0 e) (I.ok.Mz y b (hfn y) ec)) (YY _)
 ·obtain ⟨more,z⟩:=I.base.jK b ps e
  exact ⟨more,out z⟩
 ·show gM H s.heap cs X.env.locals=none
  rw [fJ (λhb=>?_)]
  ·exact I.free
  ·obtain ⟨y,_,ec⟩:=name _ hb
   exact I.A4 y _ ec rfl
 ·by_cases hc:c∈cs
  ·obtain ⟨o,v,h1,_⟩:=obj c hc
   obtain ⟨y,hy,ec⟩:=name c hc
   have e':X.env.cells.lookup x=some c:=e
   have hxy:x=y:=I.ok.inj x y c e' ec
   subst hxy
   refine .inr ⟨?_,o,_,mP hc h1⟩
   show (X.fn x&&!(ns.contains x))=false
   rw [List.contains_iff_mem.mpr hy]
   simp
  ·refine .inl ?_
   rw [fJ hc]
   exact (I.jB x c e).resolve_right λz=>by rw [hfn] at z;cases z.1
 ·obtain ⟨e,n,ne,nf,d⟩:=I.pin p hp
  refine ⟨e,?_,ne,nf,d⟩
  rw [fJ (λhb=>?_)]
  ·exact n
  ·obtain ⟨o,v,h1,h2⟩:=obj _ hb
   rw [e] at h1
   cases h1
   exact d v h2
 ·by_cases hb:b∈cs
  ·obtain ⟨o,v,h1,h2⟩:=obj b hb
   have z:some (HO.dF o (.own 0))=some ob:=(mP (H:=H) hb h1).symm.trans e
   cases z
   exact ⟨h1,o,h1⟩
  ·rw [fJ hb] at e
   exact (I.hok b ob e).stay (λc u hc q=>q) (λc q=>out q) λc xs q=>out q
end
section
variable {X:Cx} {EE:bO} {pins:List (Addr×Obj)} {σ:L2.St} {H:Hp} {s:XX} {st:Stmt} {rest:List Stmt} {ms mt:MS}
structure Made (P c':Addr) (H:Hp) (h h':Heap) (ps ps':Array XR) (oc:Obj):Prop where
 ext:∀ b o,b≠P→h.get? b=some o→h'.get? b=some o
 tab:h'.get? P=some (ZU ps')
 code:h'.get? c'=some oc
 sz:h.objs.size≤h'.objs.size
 old:(H c'=none∧h.objs.size≤c')∨H c'=some (.dF oc (.own 0))
 grow:∃ more,ps'=ps++more
noncomputable def gm (H:Hp) (P c' a:Addr) (ps':Array XR) (oc fo:Obj):Hp:=upd (upd (upd H P (.lF ps')) c' (.dF oc (.own 0))) a (.dF fo (.own 0))
theorem qX {P:Addr} {ps:Array XR} {oc:Obj} (M:Made P c' H h h' ps ps' oc) (hok:i8 Pg w H h) (ha:a=h'.objs.size) (eP:H P=some (.lF ps)) {b:Addr} {u:HO} (e:H b=some u) (hb:b≠P):gm H P c' a ps' oc fo b=some u:=by
 have hba:b≠a:=λz=>by
  have:=hok.fresh (a:=b) (by rw [z,ha];exact M.sz)
  rw [this] at e;cases e
 unfold gm
 rw [aC hba]
 by_cases hbc:b=c'
 ·subst hbc
  rcases M.old with ⟨z,_⟩ | z
  ·rw [z] at e;cases e
  ·rw [aX,← e,z]
 ·rw [aC hbc,aC hb];exact e
theorem CO {P:Addr} {ps:Array XR} {oc:Obj} (I:Inv X pins σ H s) (M:Made P c' H s.heap h' ps ps' oc) (eP:H P=some (.lF ps)) (ht:0<t') (hfo:fo.isFreed=false) :
  Inv X pins σ (gm H P c' h'.objs.size ps' oc fo) {s with heap:=h'.push fo,toks:=t'}:=by
 have hca:c'≠h'.objs.size:=Yg (X0 M.code)
 have RL:P<s.heap.objs.size:=I.hok.lt eP
 have hPa:P≠h'.objs.size:=Yg (X7 RL M.sz)
 have RM:c'≠P:=by
  rintro rfl
  rcases M.old with ⟨z,_⟩ | z
  ·rw [eP] at z;cases z
  ·rw [eP] at z;cases z
 have vg:∀ {b:Addr} {u:HO},H b=some u→b≠P→gm H P c' h'.objs.size ps' oc fo b=some u:=λe hb=>qX M I.hok rfl eP e hb
 have Ol:gm H P c' h'.objs.size ps' oc fo P=some (.lF ps'):=by
  unfold gm
  rw [aC hPa,aC (Y6 RM),aX]
 have atC:gm H P c' h'.objs.size ps' oc fo c'=some (.dF oc (.own 0)):=by
  unfold gm
  rw [aC hca,aX]
 have PM:gm H P c' h'.objs.size ps' oc fo h'.objs.size=some (.dF fo (.own 0)):=aX
 have pP:(h'.push fo).get? P=some (ZU ps'):=XW _ M.tab
 have keep:∀ b o,b≠P→s.heap.get? b=some o→(h'.push fo).get? b=some o:=λb o hb e=>XW _ (M.ext b o hb e)
 refine I.step (g':=s.gens) (d':=s.drawn) (t':=t') (ch:=[]) (λ_ z=>nomatch z) (λb o hL hb _ e n=>keep b o (λz=>by rw [z,eP] at n;cases n) e) (λb o hL hb _ e n=>⟨o.slots,keep b o (λz=>by rw [z,eP] at n;cases n) e⟩) (λb o _ e n=>?_) (λb o _ e=>?_) (λb xs e=>vg e λz=>by rw [z,eP] at e;cases e) (λb o u e=>vg e λz=>by rw [z,eP] at e;cases e) (λb qs e=>?_) (λm hn=>?_) (λb ob e=>?_) I.bare ht
 ·have Co:=X0 e
  have h1:b≠h'.objs.size:=Yg (X7 Co M.sz)
  have h2:b≠c':=by
   rintro rfl
   rcases M.old with ⟨_,z⟩ | z
   ·exact absurd (X7 Co z) (YY _)
   ·rw [n] at z;cases z
  have h3:b≠P:=λz=>by rw [z,eP] at n;cases n
  unfold gm
  rw [aC h1,aC h2,aC h3];exact n
 ·by_cases hb:b=P
  ·exact ⟨_,hb▸pP⟩
  ·exact ⟨o,keep b o hb e⟩
 ·by_cases hb:b=P
  ·subst hb
   rw [eP] at e
   cases e
   obtain ⟨more,z⟩:=M.grow
   exact ⟨more,by rw [Ol,z]⟩
  ·exact ⟨#[],by rw [vg e hb];simp⟩
 ·have Vs:X.env.locals≠P:=λz=>by
   have:=I.free
   rw [z,eP] at this;cases this
  exact (hn.extBut (λb o hb e=>M.ext b o hb e) Vs).push _
 ·by_cases Tv:b=h'.objs.size
  ·subst Tv
   rw [PM] at e
   cases e
   exact ⟨X6 _ hfo,_,X6 _ hfo⟩
  ·by_cases Tw:b=c'
   ·subst Tw
    rw [atC] at e
    cases e
    exact ⟨XW _ M.code,_,XW _ M.code⟩
   ·by_cases Iu:b=P
    ·subst Iu
     rw [Ol] at e
     cases e
     exact pP
    ·have e':H b=some ob:=by
      unfold gm at e
      rw [aC Tv,aC Tw,aC Iu] at e;exact e
     refine (I.hok b ob e').stay (λc u hc q=>keep c u (λz=>?_) q) (λc q=>vg q λz=>by rw [z,eP] at q;cases q) λc xs q=>vg q λz=>by rw [z,eP] at q;cases q
     rcases hc with rfl | hc
     ·exact Iu z
     ·rw [z,eP] at hc;cases hc
theorem Ad (hG:G.any (nj y)=true):∃ t:Nat,G[t]?=some (.tab y):=by
 obtain ⟨o,hm,ho⟩:=List.any_eq_true.mp hG
 obtain ⟨t,Vt,Vu⟩:=aae hm
 refine ⟨t,?_⟩
 rw [XZ Vt,Vu]
 cases o with
 | tab z=>rw [show z=y from beq_iff_eq.mp ho]
 | lst _=>cases ho
 | _=>cases ho
structure yL (X:Cx) (k:gU) (y:Str) (js:List Nat) (cs:List Addr) (c P:Addr):Prop where
 hk:mZ X.K X.mg y=some k
 hcode:X.env.code=.ref c
 htab:Zz X.K y=some (c,P)
 hC:aak X.base c P
 hB:X.base.BuiltinsAt X.mg P
 hcl:closureFor k.scope X.env=pure (k.names.zip cs)
 hlen:cs.length=k.names.length
 hnd:cs.Nodup
 hcs:∀ (l:Nat) (z:Str),k.names[l]?=some z→∃ d,cs[l]?=some d∧X.env.cells.lookup z=some d
 Om:js.length=k.names.length
 hjn:∀ (l j:Nat) (z:Str),js[l]?=some j→k.names[l]?=some z→X.N[j]?=some z
 hcell:∀ z∈k.names,X.env.scope.names.lookup z=some .cell
 hfn:∀ x,X.fn x=true
theorem Ae {k:gU} {cs:List Addr} {P:Addr} {t:Nat} {ps:Array XR} {tk:Nat} {doc pm ctv:XR} {oc:Obj} (T:yL X k y js cs c P) (I:Inv X pins σ H s) (ab:Ab X.K X.mg σ H τ ρ G)
  (gt:G[t]?=some (.tab y)) (eρ:ρ[t]?=some P) (eP:H P=some (.lF ps)) (hcap:js.mapM (λj=>(τ[j]?).join)=some caps) (htk:0<tk) (M:Made P c' H s.heap h' ps ps' oc) (hd:oc.data=.fields ws) (hv:ws[1]?=some (.str k.qual tz)) (Lx:ps'=#[Z8 k.pos.line,Z8 k.pos.col,.ref c']) :
  ∃ H2,Inv (Cx.held X k.names) pins σ H2 {s with heap:=h'.push (gn k cs doc pm c' ctv),toks:=tk}∧bX X.K H H2 ρ ρ∧fy X.K X.mg H2 ρ G∧Rep X.K X.mg ρ H2 (.iG y caps) (.ref h'.objs.size):=by
 obtain ⟨hk,hcode,htab,hC,hB,hcl,hlen,hnd,hcs,Om,hjn,hcell,hfn⟩:=T
 obtain ⟨xs,Oo,PL,hx⟩:=yK ab.st js caps hcap
 have I1:=CO (fo:=gn k cs doc pm c' ctv) I M eP htk rfl
 have vg:∀ {b:Addr} {u:HO},H b=some u→b≠P→gm H P c' h'.objs.size ps' oc (gn k cs doc pm c' ctv) b=some u:=λe hb=>qX M I.hok rfl eP e hb
 have hca:c'≠h'.objs.size:=Yg (X0 M.code)
 have RL:P<s.heap.objs.size:=I.hok.lt eP
 have hPa:P≠h'.objs.size:=Yg (X7 RL M.sz)
 have RM:c'≠P:=by
  rintro rfl
  rcases M.old with ⟨z,_⟩ | z
  ·rw [eP] at z;cases z
  ·rw [eP] at z;cases z
 have Ol:gm H P c' h'.objs.size ps' oc (gn k cs doc pm c' ctv) P=some (.lF ps'):=by
  unfold gm
  rw [aC hPa,aC (Y6 RM),aX]
 have atC:gm H P c' h'.objs.size ps' oc (gn k cs doc pm c' ctv) c'=some (.dF oc (.own 0)):=by
  unfold gm
  rw [aC hca,aX]
 have PM:gm H P c' h'.objs.size ps' oc (gn k cs doc pm c' ctv) h'.objs.size=some (.dF (gn k cs doc pm c' ctv) (.own 0)):=aX
 generalize gm H P c' h'.objs.size ps' oc (gn k cs doc pm c' ctv)=H1 at I1 vg Ol atC PM
 generalize hs1:({s with heap:=h'.push (gn k cs doc pm c' ctv),toks:=tk}:XX)=s1 at I1 ⊢
 have I3:=CN (ns:=k.names) I1 hfn hlen hcs
 have Oq:∀ d∈cs,H1 d=none:=λd Vv=>by
  obtain ⟨l,hl,e⟩:=aae Vv
  have hl2:l<k.names.length:=by nofun
  obtain ⟨d',e1,e2⟩:=hcs l k.names[l] (XZ hl2)
  rw [XZ hl,e] at e1
  cases e1
  exact (I1.jB _ _ e2).resolve_right λz=>by rw [hfn] at z;cases z.1
 have out:∀ {b:Addr} {u:HO},H1 b=some u→gM H1 s1.heap cs b=some u:=λ{b u} e=>by
  rw [fJ (λhb=>by rw [Oq b hb] at e;cases e)];exact e
 have GC:∀ {b:Addr} {u:HO},H b=some u→b≠P→gM H1 s1.heap cs b=some u:=λe hb=>out (vg e hb)
 have fut:bX X.K H (gM H1 s1.heap cs) ρ ρ:=by
  refine ⟨λb zs hh=>?_,λb q u hh=>GC hh λz=>(by rw [z,eP] at hh;cases hh),⟨[],by simp⟩,λb φ hh=>GC hh λz=>(by rw [z,eP] at hh;cases hh)⟩
  rw [pU] at hh ⊢;exact GC hh λz=>by rw [z,eP] at hh;cases hh
 have CP:mD (gM H1 s1.heap cs) c' k.qual:=⟨oc,ws,tz,out atC,hd,hv⟩
 have AW:fy X.K X.mg (gM H1 s1.heap cs) ρ G:=by
  refine ⟨ab.hp.hl,ab.hp.nd,λn ob e=>?_⟩
  obtain ⟨a',e1,r⟩:=ab.hp.ob n ob e
  by_cases ha':a'=P
  ·subst ha'
   have hnt:n=t:=by
    obtain ⟨l1,q1⟩:=XY.mp e1
    obtain ⟨l2,q2⟩:=XY.mp eρ
    exact (Zt ab.hp.nd).mp (q1.trans q2.symm)
   subst hnt
   rw [gt] at e
   cases e
   exact ⟨a',e1,ps',c,k,out Ol,htab,hk,.inr ⟨c',Lx,CP⟩⟩
  ·exact ⟨a',e1,r.mono fut λu q=>GC q ha'⟩
 have hce:dI (gM H1 s1.heap cs) cs xs:=by
  refine pe (by rw [PL,Om,hlen]) λl d x e1 e2=>?_
  have hl:l<js.length:=by
   have:=(XY.mp e2).1
   nofun
  have hl2:l<k.names.length:=by nofun
  obtain ⟨x',e3,e4⟩:=hx l js[l] (XZ hl)
  rw [e2] at e3
  cases e3
  have nm:=hjn l js[l] k.names[l] (XZ hl) (XZ hl2)
  have kc:=hcell k.names[l] (Zw hl2)
  obtain ⟨m,_,hlk⟩:=I1.loc
  obtain ⟨u,ru,lk⟩:=hlk js[l] k.names[l] x nm e4 (.inr (.inl kc))
  rcases lk with ⟨kk,_⟩ | ⟨_,d',e5,Vw,e6,e7⟩
  ·have Tz:X.env.scope.names.lookup k.names[l]=some .local:=kk
   rw [kc] at Tz;cases Tz
  ·obtain ⟨d2,e8,e9⟩:=hcs l k.names[l] (XZ hl2)
   rw [e1] at e8
   cases e8
   rw [e9] at e5
   cases e5
   exact ⟨Vw,u,mP (Yy e1) e6,e7,ru⟩
 refine ⟨_,I3,fut,AW,?_⟩
 unfold Rep
 exact ⟨k,_,cs,xs,rfl,hk,⟨hlen,hnd,doc,pm,ctv,c',out PM,CP⟩,hce,Oo.mono fut⟩
theorem Af {k:gU} {cs:List Addr} {P:Addr} (T:yL X k y js cs c P) (I:Inv X pins σ H s) (ab:Ab X.K X.mg σ H τ ρ G) (hG:G.any (nj y)=true) :
  ∃ (t:Nat) (ps:Array XR),G[t]?=some (.tab y)∧ρ[t]?=some P∧H P=some (.lF ps)∧s.heap.get? P=some (ZU ps)∧aak s.heap c P∧s.heap.Ns mainGlobals X.mg∧mainGlobals≠P∧s.heap.BuiltinsAt X.mg P ∧
   (ps=#[]∨∃ (c':Addr) (oc:Obj) (ws:Array XR) (tz:Tok),ps=#[Z8 k.pos.line,Z8 k.pos.col,.ref c']∧H c'=some (.dF oc (.own 0))∧s.heap.get? c'=some oc∧oc.data=.fields ws∧ws[1]?=some (.str k.qual tz)):=by
 obtain ⟨t,gt⟩:=Ad hG
 obtain ⟨P',eρ,ps,c0,k0,eP,et,ek,hps⟩:=ab.hp.ob t _ gt
 rw [T.htab] at et
 cases et
 rw [T.hk] at ek
 cases ek
 have hP:s.heap.get? P=some (ZU ps):=I.hok P _ eP
 have hg:s.heap.Ns mainGlobals X.mg:=I.ok.mod.glob.keeps I.bk
 refine ⟨t,ps,gt,eρ,eP,hP,T.hC.keeps I.bk,hg,λz=>?_,?_,?_⟩
 ·obtain ⟨o,es,ep,e,hd,_⟩:=hg
  rw [z,hP] at e;cases e;cases hd
 ·obtain ⟨bm,o,b1,b2,b3,b4,b5,b6⟩:=T.hB
  exact ⟨bm,o,b1,b2,b3,b4,I.bk _ _ b5,b6⟩
 ·rcases hps with rfl | ⟨c',rfl,oc,ws,tz,fc,hd,hv⟩
  ·exact .inl rfl
  ·exact .inr ⟨c',oc,ws,tz,rfl,fc,(I.hok c' _ fc).1,hd,hv⟩
noncomputable def GD (X:Cx) (ns:List Str) (EE:bO) (e:Expr) (m:DS→M D):Prop:=∀ (pins:List (Addr×Obj)) (s:XX) (σ:L2.St) (H:Hp) (Q:VK),Inv X pins σ H s→bh X.K X.mg EE m σ H Q→Ye (model X.prog X.w) X.A (eval e X.env) (EP (Cx.held X ns) pins σ Q) X.xe s
noncomputable def Ot (X:Cx) (ns:List Str) (EE:bO) (es:List Expr) (m:DS→M (List D)):Prop:=∀ (pos:Pos) (pins:List (Addr×Obj)) (s:XX) (σ:L2.St) (H:Hp) (Q:List V→Hp→Prop),Inv X pins σ H s→ie X.K X.mg EE m σ H Q→Ye (model X.prog X.w) X.A (spliced (backTo pos (Yj es X.env))) (AP (Cx.held X ns) pins σ Q) X.xe s
noncomputable def Ag (y:Str) (js:List Nat):DS→M D:=λτ G=>if G.any (nj y)=true then match js.mapM (λj=>(τ[j]?).join) with
 | some caps=>.ok (.iG y caps) G
 | none=>.stuck
 else .stuck
theorem GF {k:gU} {cs:List Addr} {P:Addr} {bd:Expr} (he:e=.Lambda k.params bd k.scope k.pos) (hbd:k.body=.expr bd) (hnm:k.name="<lambda>") (T:yL X k y js cs c P) (hdef:defaultsOf k.params X.env=([],[])) (hq:X.env.qual++"<lambda>"=k.qual):GD X k.names EE e (Ag y js):=by
 subst he
 intro pins s σ H Q I h
 obtain ⟨τ,ρ,G,ab,ok⟩:=h
 unfold Ag at ok
 by_cases hG:G.any (nj y)=true
 ·rw [if_pos hG] at ok
  cases hcap:js.mapM (λj=>(τ[j]?).join) with
  | none=>rw [hcap] at ok;exact ok.elim
  | some caps=>
   rw [hcap] at ok
   dsimp only at ok
   obtain ⟨t,ps,gt,eρ,eP,hP,TF,hg,hgP,TH,hps⟩:=Af T I ab hG
   have Ou:∀ (pm ctv:XR) (c':Addr),PySem.W.kla_obj "<lambda>" k.qual k.params bd k.scope (k.names.zip cs) pm c' ctv=gn k cs .none pm c' ctv:=λpm ctv c'=>by unfold gn uw;rw [hbd,hnm]
   have fin:∀ (h':Heap) (tk:Nat) (c':Addr) (pm ctv:XR) (ps':Array XR) (oc:Obj) (ws:Array XR) (tz:Tok),0<tk→Made P c' H s.heap h' ps ps' oc→oc.data=.fields ws→ws[1]?=some (.str k.qual tz) →
     ps'=#[Z8 k.pos.line,Z8 k.pos.col,.ref c']→EP (Cx.held X k.names) pins σ Q (.ref h'.objs.size) {s with heap:=h'.push (gn k cs .none pm c' ctv),toks:=tk}:=by
    intro h' tk c' pm ctv ps' oc ws tz htk M hd hv Lx
    obtain ⟨H2,I3,fut,AW,Vx⟩:=Ae (doc:=.none) (pm:=pm) (ctv:=ctv) T I ab gt eρ eP hcap htk M hd hv Lx
    exact ⟨.ref h'.objs.size,H2,I3,rfl,ok _ H2 ρ fut ⟨ab.st.mono fut,AW⟩ Vx⟩
   refine PySem.W.kla_eval hdef ?_
   rw [hq]
   rcases hps with rfl | ⟨c',oc,ws,tz,rfl,fc,Ly,hd,hv⟩
   ·refine gR I.os.2 (PySem.W.kla_makeFunction (mg:=X.mg) T.hcl I.ok.glob hg T.hcode TF hP trivial rfl hgP TH λc' ctv h' tk hx hge hlt hrec htb=>λhtk=>?_)
    obtain ⟨c₂,oc,ws,tz,e2,hoc,hd,hv⟩:=hrec
    cases e2
    rw [Ou]
    exact fin h' tk c' _ ctv _ oc ws tz htk ⟨λb o hb e=>hx b o hb e,htb,hoc,YV hge (aaZ hlt),.inl ⟨I.hok.fresh hge,hge⟩,⟨_,rfl⟩⟩ hd hv (by simp)
   ·refine gR I.os.2 (PySem.W.kla_makeFunctionHit (mg:=X.mg) (cv:=.ref c') T.hcl I.ok.glob hg T.hcode TF hP trivial (by simp [codeAmong,Z8]) TH λctv h' tk hkp hsz=>λhtk=>?_)
    have:=fin h' tk c' ((X.mg "__name__").getD .none) ctv _ oc ws tz htk ⟨λb o _ e=>hkp b o e,hkp _ _ hP,hkp _ _ Ly,hsz,.inr fc,⟨#[],by simp⟩⟩ hd hv rfl
    rw [← Ou] at this
    exact this
 ·rw [if_neg hG] at ok
  exact ok.elim
theorem pA {Q:List V→Hp→Prop} (h:ie X.K X.mg EE (aa m r) σ H Q):ye (bh X.K X.mg EE m) (ie X.K X.mg EE r) σ H Q:=by
 obtain ⟨τ,ρ,G,ab,ok⟩:=BA (k:=λτ x=>(r τ).bind λxs=>M.ret (x::xs)) h
 refine ⟨τ,ρ,G,ab,?_⟩
 cases e:m τ G with
 | stuck=>rw [e] at ok;exact ok
 | bB c G'=>rw [e] at ok;exact ok
 | ok d G'=>
  rw [e] at ok
  intro v H' ρ' f' bq r'
  obtain ⟨τ2,ρ2,G2,d2,bG,r2,aH⟩:=ok v H' ρ' f' bq r'
  refine ⟨τ2,ρ2,G2,bG,?_⟩
  dsimp only [M.bind] at aH
  cases e2:r τ2 G2 with
  | stuck=>rw [e2] at aH;exact aH
  | bB c G'=>rw [e2] at aH;exact aH
  | ok d3 G3=>
   rw [e2] at aH
   exact λv3 H3 ρ3 f3 oz r3=>aH (v::v3) H3 ρ3 f3 oz (.cons (r2.mono f3) r3)
theorem CQ (ha:QE X EE e m) (h:br e=true) (hr:Ot X ns EE es r):Ot X ns EE (e::es) (aa m r):=by
 intro pos pins s σ H Q I hq
 rw [aM h]
 show Ye _ _ (spliced ((false,eval e X.env)::backTo pos (Yj es X.env))) _ _ s
 refine Zm (cO (ha pins s σ H _ I (pA hq)) λu s1 zz=>?_)
 obtain ⟨x,H1,I1,r1,q1⟩:=zz
 exact cO (hr pos pins s1 σ H1 _ I1 q1) λus s2 zz=>by obtain ⟨xs,H2,I2,r2,q2⟩:=zz;exact ⟨x::xs,H2,I2,.cons r1 r2,q2⟩
theorem GG (ha:GD X ns EE e m) (h:br e=true):Ot X ns EE [e] (aa m ah):=by
 intro pos pins s σ H Q I hq
 rw [aM h]
 show Ye _ _ (spliced ((false,eval e X.env)::backTo pos (Yj [] X.env))) _ _ s
 refine Zm (cO (ha pins s σ H _ I (pA hq)) λu s1 zz=>?_)
 obtain ⟨x,H1,I1,r1,q1⟩:=zz
 have hn:PA (Cx.held X ns) [] EU:=wG
 have Vy:EU σ H1 λxs H2=>Q (x::xs) H2:=by
  obtain ⟨τ,ρ,G,ab,ok⟩:=q1
  exact ok [] H1 ρ .refl ab .nil
 exact cO (hn pos pins s1 σ H1 _ I1 Vy) λus s2 zz=>by obtain ⟨xs,H2,I2,r2,q2⟩:=zz;exact ⟨x::xs,H2,I2,.cons r1 r2,q2⟩
theorem CS {CX:l5} {k:Nat} {f:Addr} {ps:List Str} {p pos:Pos} {m:DS→M (List D)} (F:gA X.prog X.w X.K X.mg X.base CX k f fd ps (fU X.K X.mg n mf)) (hr:cK k X.A) (hm:X.mg x=some (.ref f)) (hk:YE X.K (.ref f)=true) (hb:Binds X.K fd ps []) (hx:FN CX (Cx.held X ns) EE) (hg:Gl X x)
  (hd:(x==("__debug__":Str))=false∧(x==("__classdict__":Str))=false) (ha:Ot X ns EE (e::es) m) (h:ao (e::es)=true:=by rfl):GD X ns EE (.Call (.Name x p) (e::es) [] pos) (aA n mf m):=by
 have h':br e=true∧ao es=true:=by simpa [ao] using h
 intro pins s σ H Q I hq
 obtain ⟨τ1,ρ1,G1,fW,yp⟩:=jf (k:=λ_ ds=>if ds.length=n then mf ds else M.stop) hq
 refine Yo (YG (yc hg hm (v:=.ref f) rfl hd.1 pins s σ H (λv' H'=>v'=.ref f∧H'=H) I ⟨rfl,rfl⟩) (λu s0 hu=>?_) λ_ _ z=>z)
 obtain ⟨v',H',I0,r0,rfl,rfl⟩:=hu
 cases r0
 refine ZQ (h₀:=X.base) I0.ok.mod.AS hk (cO (ha pos pins s0 σ H' _ I0 ⟨τ1,ρ1,G1,fW,yp⟩) λus s1 ⟨vs,H1,I1,r,q⟩=>⟨I1.nN,?_⟩) (aM h'.1 _ _) (aO h'.2)
 obtain ⟨τ2,ρ2,G2,ds,bG,rs,aH⟩:=q
 by_cases hn:ds.length=n
 ·rw [if_pos hn] at aH
  exact nT (X:=Cx.held X ns) F hr hb hx I1 r bG rs hn aH
 ·rw [if_neg hn] at aH
  exact aH.elim
end
section
variable {P:Yw} {w:YM} {K:XU} {mg:Str→Option XR} {base:Heap} {f:Addr} {fd:FuncData}
theorem RN {st:Stmt} {ps:List Str} {k:Nat} {m:List D→M D} {c Pt:Addr} (F:r6 K x qual st f fd) (S:fV N ps (au st)) (hps:ps.length=n) (hN:N.length=nn) (hm:∀ ds G,m ds G=i6 (bQ nn ms ds G))
  (htab:Zz K x=some (c,Pt)) (Vz:mg x=some (.ref f))
  (hbody:∀ (X:Cx) (EE:bO) (A:Around) (outer:List Env) (s:XX) (H:Hp) (E:XK),X=kL (lM P w) P w K mg base N qual (au st) f (.ref c) A outer s H E→cK k (A.deeper (Zq qual (au st) s.heap.objs.size f (.ref c))) →
   fZ X EE→(∀ ns,fZ (Cx.held X ns) EE)→PassesOwn (model P w) X.A X.env X.xe→CM X EE (bS st) ms) :
  gA P w K mg base (lM P w) (k+1) f fd ps (fU K mg n m):=by
 subst hps hN
 obtain ⟨oc,od,kV,doc,pm,an,cdv,ct,osl,rfl,lk,hcd⟩:=F.ex
 refine ⟨λvs H Q E h=>h.len,λA outer s H args us vs Q E hr e0 htk hb r yf=>?_⟩
 have hc:cdv=.ref c:=PySem.W.law_code e0.mod.AS e0.mod.glob htab Vz (e0.mod.AS _ _ lk) rfl
 subst hc
 have hl:=yf.len
 obtain ⟨ds,ρ,G,hn,hp,rs,ok⟩:=yf
 have KX:K.In s.heap:=e0.mod.AS.keeps λb o e=>(e0.bs b o e).1
 have lim:s.heap.NoLimit:=e0.mod.nolimit.keeps λb o e=>(e0.bs b o e).1
 have hkind:∀ y∈ps.zip us,(au st).names.lookup y.1=some .local∨((au st).names.lookup y.1=some .cell∧((cellsFrom (s.heap.objs.size+1) (au st).names []).lookup y.1).isSome=true):=λzz hy=>by
  obtain ⟨n,v⟩:=zz
  rcases S.par n (ZZ hy).1 with q | q
  ·exact .inl q
  ·exact .inr ⟨q,aan _ _ _ (.inl q)⟩
 refine codeAny_call_function hr.depth (KX _ _ lk) rfl S.co S.gen rfl (abv KX hcd) (hb _ _ _ _ ?_)
 refine gR htk (aaA S.kind hkind λenv he s1 x=>λJS=>?_)
 subst he
 refine ⟨lim.keeps x.toInCall.keep,codeAny_func ?_⟩
 have hB:=hbody _ (λ_ _ _=>False) A outer s H E rfl (hr.deeper _) (λ_ _ _ _ _ _ _ _ _ _ z=>z.elim) (λ_ _ _ _ _ _ _ _ _ _ _ z=>z.elim) aa3
 have I:Inv (kL (lM P w) P w K mg base N qual (au st) f (.ref c) A outer s H E) [] (L2.start N vs) H s1:=mz S hr.hd e0 hl r x (n:=s1.toks) JS
 have hq:gB K mg (λ_ _ _=>False) ms {nx:=λ_ H'=>Q .cz H',rt:=Q} (L2.start N vs) H:=by
  refine ⟨ds.map some++Yi (N.length - ds.length) none,ρ,G,⟨jk rs,hp⟩,?_⟩
  rw [hm] at ok
  dsimp only [bQ] at ok
  cases q:ms (ds.map some++Yi (N.length - ds.length) none) G with
  | stuck=>rw [q] at ok;exact ok
  | nx τ G'=>rw [q] at ok;exact λσ' H' ρ' f ab=>ok .cz H' ρ' f ab.hp (by unfold Rep;rfl)
  | rt d G'=>rw [q] at ok;exact λv H' ρ' f hp r=>ok v H' ρ' f hp r
  | bk τ G'=>rw [q] at ok;exact ok.elim
  | ct τ G'=>rw [q] at ok;exact ok.elim
  | xn c τ G'=>rw [q] at ok;exact ok.elim
 refine YG (hB [] s1 (L2.start N vs) H _ I hq) (λfl s' hs=>?_) λe s' hs=>hs
 have fin:∀ {H':Hp} {v:V} {u:XR},Lw (kL (lM P w) P w K mg base N qual (au st) f (.ref c) A outer s H E) H' s'→RelV v u→Q v H'→CE outer P w H s Q u s':=
  λ{H' v u} J rv q=>⟨v,H',J.os,J.bare,J.base,J.hok,rv,q⟩
 cases fl with
 | ret u=>
  obtain ⟨v,H',J,rv,q⟩:=hs
  exact fin J rv q
 | next=>
  obtain ⟨σ',H',J,q⟩:=hs
  exact fin (v:=V.cz) (u:=Value.none) J rfl q
 | brk=>
  obtain ⟨_,_,q⟩:=hs
  exact YK q
 | cont=>
  obtain ⟨_,_,q⟩:=hs
  exact YK q
end
section
open PyProof.Rows
noncomputable def yM (Pt:Addr) (H:Hp):Prop:=H Pt=some (.lF #[])∧∀ b,b≠Pt→H b=none∨∃ o xs,H b=some (.dF o (.lst xs))
theorem Ah {P:Yw} {w:YM} {K:XU} {mg mb:Str→Option XR} {CX:l5} {k:Nat} {fa a c Pt:Addr} {fd:FuncData} {x:Str} {sp:Sp} {s₁:XX} {vs:List XR} {ns:List Int}
  (KX:K.In s₁.heap) (hns:s₁.heap.Ns mainGlobals mg) (hb:s₁.heap.Ns builtinsNs mb) (Pj:∀ x:Str,x≠"__name__"→mb x=bootBuiltins x) (hlim:s₁.heap.NoLimit) (hg:s₁.gens=#[])
  (ha:s₁.heap.get? a=some {cls:=.type "list",data:=.seq vs.toArray}) (hi:PyProof.Rows.IntsAre vs ns) (hl:ns.length≤XT) (hr:cK k callerA)
  (TJ:aak s₁.heap c Pt) (Mj:s₁.heap.get? Pt=some (ZU #[])) (VA:K.lookup Pt=none) (VB:s₁.heap.BuiltinsAt mg Pt)
  (F:∀ base:Heap,K.In base→base.Ns mainGlobals mg→aak base c Pt→base.BuiltinsAt mg Pt→jC P w K mg base CX k fa fd [x] sp) (hbind:∀ (s:XX) (u:XR),BindsTo s fd ⟨[u],[]⟩ [(x,u)])
  (yf:∀ H:Hp,yM Pt H→Fi K H a (ns.map V.int)→sp [.ref a] H (λv _=>v=.bl true) λ_ _ _=>False)
  (RO:∀ H e s',CX [] H s₁ (λ_ _ _=>False) e s'→False) :
  codeAny (model P w) callerA (.call (.ref fa) ⟨[.ref a],[]⟩) (λr s'=>r=.ok (.ret (.bool true))∧OldK s₁.heap s'.heap∧s'.os=s₁.os∧aaC s'.gens) s₁:=by
 have rv:=qL hi
 have RP:=hi.length
 have TL:a≠Pt:=λz=>by rw [z,Mj] at ha;cases ha
 have core:∀ H:Hp,yM Pt H→Fi K H a (ns.map V.int)→i8 P w H s₁.heap→(∀ b,H b≠none→b=a∨b=Pt)→(H a≠none→K.lookup a=none) →
   codeAny (model P w) callerA (.call (.ref fa) ⟨[.ref a],[]⟩) (λr s'=>r=.ok (.ret (.bool true))∧OldK s₁.heap s'.heap∧s'.os=s₁.os∧aaC s'.gens) s₁:=by
  intro H hO hS hok hA hK
  have gW:∀ {b:Addr} {o:Obj},s₁.heap.get? b=some o→H b=none→(nZ s₁.heap H).get? b=some o:=λe n=>A2 e n
  have free:∀ {b:Addr} {o:Obj},s₁.heap.get? b=some o→o≠{cls:=.type "list",data:=.seq vs.toArray}→o≠ZU #[]→H b=none:=λ{b o} e n1 n2=>by
   cases q:H b with
   | none=>rfl
   | some u=>
    rcases hA b (by rw [q];simp) with z | z
    ·rw [z,ha] at e;cases e;exact absurd rfl n1
    ·rw [z,Mj] at e;cases e;exact absurd rfl n2
  have EX:∀ {b:Addr} {o:Obj} {es:Array DictEntry} {ep:Nat},s₁.heap.get? b=some o→o.data=.dict es ep→H b=none:=λ{b o es ep} e d=>free e (λz=>by rw [z] at d;cases d) λz=>by rw [z] at d;cases d
  have PN:∀ {b:Addr} {m:Str→Option XR},s₁.heap.Ns b m→(nZ s₁.heap H).Ns b m:=λ{b m} zz=>by obtain ⟨o,es,ep,e,d,r⟩:=zz;exact ⟨o,es,ep,gW e (EX e d),d,r⟩
  have TM:K.In (nZ s₁.heap H):=λb o e=>gW (KX b o e) (by
   cases q:H b with
   | none=>rfl
   | some u=>
    rcases hA b (by rw [q];simp) with z | z
    ·subst z
     rw [hK (by rw [q];simp)] at e;cases e
    ·rw [z,VA] at e;cases e)
  have hM:Mod K mg (nZ s₁.heap H):=⟨TM,PN hns,⟨mb,PN hb,Pj⟩,let ⟨mc,h1,h2⟩:=hlim;⟨mc,PN h1,h2⟩⟩
  have VC:aak (nZ s₁.heap H) c Pt:=by
   obtain ⟨o,ws,file,tf,flags,tg,VD,text,tt,e,hcl,r⟩:=id TJ
   exact ⟨o,ws,file,tf,flags,tg,VD,text,tt,gW e (free e (λz=>by rw [z] at hcl;simp at hcl) λz=>by rw [z] at hcl;cases hcl),hcl,r⟩
  have VE:(nZ s₁.heap H).BuiltinsAt mg Pt:=by
   obtain ⟨bm,o,b1,b2,b3,b4,e,hcl,r⟩:=id VB
   exact ⟨bm,o,b1,b2,b3,b4,gW e (free e (λz=>by rw [z] at hcl;simp at hcl) λz=>by rw [z] at hcl;cases hcl),hcl,r⟩
  have e0:mw P w K mg (nZ s₁.heap H) callerA [] s₁ H:=⟨rfl,hM,λb o e=>Ez e,Nat.le_of_eq (zk _ _),trivial,λb hb=>absurd (show b∈([]:List Addr) from hb) (by simp),hok,.of_eq hg⟩
  refine codeAny_mono ((F _ TM (PN hns) VC VE).run callerA [] s₁ H ⟨[.ref a],[]⟩ [.ref a] [.ref a] _ _ hr e0 (hbind s₁ (.ref a)) (.cons rfl .nil) (yf H hO hS)) λr s' h=>?_
  cases r with
  | error e=>exact (RO H e s' h).elim
  | ok fl=>
   cases fl with
   | next=>exact YK h
   | brk=>exact YK h
   | cont=>exact YK h
   | ret u=>
    obtain ⟨v,H',os,bare,un,Ov,r',q⟩:=h
    have q':v=.bl true:=q
    subst q'
    obtain rfl:u=Value.bool true:=r'
    refine ⟨rfl,⟨λb o e=>?_,λb o e=>un.there b o e (by simp)⟩,os.1,bare⟩
    cases q:H b with
    | none=>exact .inl (un.keep b o e q (by intro z;exact absurd (show b∈([]:List Addr) from z) (by simp)) (by simp))
    | some u=>
     by_cases Iu:b=Pt
     ·subst Iu
      obtain ⟨more,z2⟩:=un.jK b _ hO.1
      have e2:s'.heap.get? b=some (ZU (#[]++more)):=Ov b _ z2
      rw [Mj] at e
      cases e
      exact .inr (.inl ⟨(TJ.tab Mj).isCodeTable,rfl,#[],more,rfl,e2⟩)
     ·rcases hO.2 b Iu with z | ⟨ob,xs,z⟩
      ·rw [q] at z;cases z
      ·have z2:=un.i9 b ob _ z
       obtain ⟨e1,_⟩:=hok b _ z
       obtain ⟨e2,_⟩:=Ov b _ z2
       rw [e] at e1;cases e1
       exact .inl e2
 cases hk:K.lookup a with
 | some o=>
  have e:=KX a o hk
  rw [ha] at e
  cases e
  refine core (λb=>if b=Pt then some (.lF #[]) else none) ⟨if_pos rfl,λb hb=>.inl (if_neg hb)⟩ (.inr ⟨_,vs.toArray,_,hk,rfl,rfl,rfl,by rw [Yb,RP];exact hl,by simpa using rv⟩) (λb u z=>?_) (λb z=>?_) λz=>absurd (if_neg TL) z
  ·by_cases hb:b=Pt
   ·have z':=(if_pos hb).symm.trans z
    cases z'
    subst hb
    exact Mj
   ·have z':=(if_neg hb).symm.trans z
    cases z'
  ·by_cases hb:b=Pt
   ·exact .inr hb
   ·exact absurd (if_neg hb) z
 | none=>
  refine core (λb=>if b=Pt then some (.lF #[]) else if b=a then some (.dF {cls:=.type "list",data:=.seq vs.toArray} (.lst (ns.map V.int))) else none) ⟨if_pos rfl,λb hb=>?_⟩ (.inl ⟨{cls:=.type "list",data:=.seq vs.toArray},(if_neg TL).trans (if_pos rfl)⟩) (λb u z=>?_) (λb z=>?_) λ_=>hk
  ·by_cases hba:b=a
   ·exact .inr ⟨_,_,(if_neg hb).trans (if_pos hba)⟩
   ·exact .inl ((if_neg hb).trans (if_neg hba))
  ·by_cases hb:b=Pt
   ·have z':=(if_pos hb).symm.trans z
    cases z'
    subst hb
    exact Mj
   ·have z0:=(if_neg hb).symm.trans z
    by_cases hba:b=a
    ·have z':=(if_pos hba).symm.trans z0
     cases z'
     subst hba
     exact ⟨ha,by rw [Yh];exact hl,vs,_,rv,ha⟩
    ·have z':=(if_neg hba).symm.trans z0
     cases z'
  ·by_cases hb:b=Pt
   ·exact .inr hb
   ·by_cases hba:b=a
    ·exact .inl hba
    ·exact absurd ((if_neg hb).trans (if_neg hba)) z
theorem sO (X:K.In h) (hK:aa5 K=true) (hP:h.get? Pt=some (ZU #[])):K.lookup Pt=none:=by
 cases e:K.lookup Pt with
 | none=>rfl
 | some o=>
  have e1:=X Pt o e
  rw [hP] at e1
  cases e1
  have:=aaG.mp hK _ (PySem.W.mem_of_lookupK e)
  cases this
theorem CU {l:ado} {k:Nat} {d:DefRec} {K:Params→XU} {CX:YM→l5}
  (hn:l.most=some n) (hn2:n≤XT) (hdf:d.params.defaults=[]) (hr:cK k callerA) (hrec:(recsOf q).find? (λe=>e.name==y)=some dy)
  (hY:∀ (w:YM) (h:Heap),YP w h→(K w.params).In h) (hT:∀ w:YM,aa5 (K w.params)=true)
  (F:∀ (w:YM) (mg:Str→Option XR) (fa:Addr) (h:Heap),(K w.params).In h→h.Ns mainGlobals mg→mg d.name=some (.ref fa) →
   ∃ (fd:FuncData) (c Pt:Addr) (sp:Sp),Zz (K w.params) y=some (c,Pt)∧(∀ (s:XX) (u:XR),BindsTo s fd ⟨[u],[]⟩ [(x,u)]) ∧
    (∀ base:Heap,(K w.params).In base→base.Ns mainGlobals mg→aak base c Pt→base.BuiltinsAt mg Pt→jC l.prog w (K w.params) mg base (CX w) k fa fd [x] sp) ∧
    ∀ (H:Hp) (a:Addr) (ns:List Int),ns.length≤n→yM Pt H→Fi (K w.params) H a (ns.map V.int)→sp [.ref a] H (λv _=>v=.bl true) λ_ _ _=>False)
  (RO:∀ (w:YM) (H:Hp) (s:XX) (e:XR) (s':XX),CX w [] H s (λ_ _ _=>False) e s'→False) :
  acE q loose XP YP l.row.toRowW d [] (λf vs=>adt f vs):=by
 refine SN.um hn hdf λw s₀ s₁ mg mb fa o pm cd doc a vs ns G Y ho hd hcd hmg hobj hints hlen hg=>?_
 have KX:=hY w _ Y
 obtain ⟨fd,c,Pt,sp,ht,hb,hF,yf⟩:=F w mg fa _ KX G.T.g hmg
 obtain ⟨hC,hP⟩:=PySem.W.tab_of G.T KX hrec ht
 obtain ⟨bm,ob,b1,b2,b3,b4,b5,b6⟩:=G.T.bmain
 have Iu:bm≠Pt:=λz=>by rw [z,hP] at b3;cases b3;cases b4
 have VF:bm≠mainGlobals:=λz=>by
  obtain ⟨o,es,ep,e,hd,_⟩:=G.T.g
  rw [z,e] at b3;cases b3;rw [hd] at b6;cases b6
 exact Ah KX G.T.g G.T.b G.T.builtins G.T.nolimit hg hobj hints (YV hlen hn2) hr hC hP (sO KX (hT w) hP) ⟨bm,ob,b1,b2,VF,Iu,b3,b4,b5,b6⟩ hF hb (λH hO hS=>yf H a ns hlen hO hS) λH e s'=>RO w H s₁ e s'
theorem Lz {m:List D→M D} {ns:List Int} (hm:∀ ns:List Int,ns.length≤63→∃ G,m [.con (ns.map .int)] [.tab y]=.ok (.bl true) G) (hl:ns.length≤63) (ht:Zz K y=some (c,Pt)) (hk:mZ K mg y=some yJ) (hO:yM Pt H) (hS:Fi K H a (ns.map V.int)) :
  fU K mg 1 m [.ref a] H (λv _=>v=.bl true) λ_ _ _=>False:=by
 obtain ⟨G,e⟩:=hm ns hl
 refine ⟨[.con (ns.map .int)],[Pt],[.tab y],rfl,⟨rfl,by simp,λn o e=>?_⟩,.cons (by unfold Rep;exact ⟨a,_,rfl,hS,.ints ns⟩) .nil,?_⟩
 ·cases n with
  | zero=>
   simp at e
   subst e
   exact ⟨Pt,rfl,#[],c,yJ,hO.1,ht,hk,.inl rfl⟩
  | succ n=>simp at e
 ·rw [e]
  intro v H' ρ' _ _ r
  unfold Rep at r
  exact r
end
section
open PyProof.Rows
theorem RQ {c0:Nat} (h:Pr y0 c0 m0):∀ y c mf,YU y [(y0,(c0,m0))]=some (c,mf)→Pr y c mf:=λy c mf e=>by
 rw [Yz] at e
 cases q:(y==y0) with
 | false=>rw [q] at e;cases e
 | true=>
  rw [q] at e
  cases e
  rw [beq_iff_eq.mp q];exact h
theorem xx {st:Stmt} {f:Addr} {k:gU} (F:r6 K x qual st f fd) (hm:mg x=some (.ref f)) (h:ic qual (bS st)=some k):mZ K mg x=some k:=by
 obtain ⟨oc,od,kV,doc,pm,an,cdv,ct,osl,rfl,lk,hcd⟩:=F.ex
 unfold mZ
 rw [hm]
 dsimp only
 rw [lk]
 exact h
theorem CV {f:Addr} {vs:Array XR} (h1:ZA K mainGlobals x=some (some (.ref f))) (h2:K.lookup f=some ⟨oc,od,.func fd,sl⟩) (h3:fd.code=.ref c)
  (h4:K.lookup c=some ⟨o1,o2,.fields vs,o4⟩) (h5:vs[11]?=some (.ref Pt)):Zz K x=some (c,Pt):=by
 unfold Zz
 rw [h1]
 dsimp only
 rw [h2]
 dsimp only
 rw [h3]
 dsimp only
 rw [h4]
 dsimp only
 rw [h5]
section
variable {X:Cx} {EE:bO} {a b:Expr} {ma mb:DS→M D} {pos:Pos}
noncomputable abbrev lq:=cH (λ_ j=>decide (0<j)&&decide (j<18446744073709551616)) λi j=>.int (i / j)
theorem CW:ia X (binaryOp .FloorDiv) (rI (λ_ j=>0<j∧j<18446744073709551616) λi j=>.int (i / j)):=Jx λi j _ _ _ _ _ hc q=>by
 have h1:(0:Int)<j:=hc.1
 have h2:j<18446744073709551616:=hc.2
 refine floordiv_int (by nofun) (by rw [aaz i (by nofun)];exact q) (.inl (PyProof.noPylong_of_log2 ?_))
 have h3:j.natAbs≠0:=by nofun
 have h4:j.natAbs<2^64:=by nofun
 exact X7 ((Nat.log2_lt h3).mpr h4) (by decide)
theorem CY (ha:QE X EE a ma) (hb:QE X EE b mb):QE X EE (.BinOp a .FloorDiv b pos) (aj lq ma mb):=iW CW (jh (λi j h=>by simpa using h) λ_ _ _ _=>by unfold Rep;rfl) ha hb
end
end
section
open PyProof.Rows
noncomputable def yN (s:Stmt):Expr:=match s with
 | .Assign [_] (.Call _ es _ _) _=>es.getLast?.getD (.Constant .none 0 ⟨0,0,0,0⟩)
 | .Return (some (.Call _ es _ _)) _=>es.getLast?.getD (.Constant .none 0 ⟨0,0,0,0⟩)
 | _=>.Constant .none 0 ⟨0,0,0,0⟩
noncomputable def GH (e:Expr):Arguments:=match e with
 | .Lambda a _ _ _=>a
 | _=>{posonlyargs:=[],args:=[],vararg:=none,kwonlyargs:=[],kw_defaults:=[],kwarg:=none,defaults:=[]}
noncomputable def GI (e:Expr):Expr:=match e with
 | .Lambda _ b _ _=>b
 | e=>e
noncomputable def CZ (e:Expr):Scope:=match e with
 | .Lambda _ _ s _=>s
 | _=>{kind:=.function,names:=[],isGenerator:=false,isCoroutine:=false}
section
variable {X:Cx} {EE:bO} {a b:Expr} {ma mb:DS→M D} {pos:Pos}
noncomputable abbrev sP:=cH (λ_ _=>true) λi j=>.int (YO i j)
noncomputable abbrev LA:=cH (λ_ _=>true) λi j=>.int (YQ i j)
noncomputable abbrev LB:=cH (λ_ _=>true) λi j=>.int (ZD i j)
noncomputable abbrev jU:=cH (λi j=>decide (0≤j)&&(decide (j≤1000000)&&decide (i.natAbs<2^64))) λi j=>.int (i*2^j.toNat)
theorem GJ (ha:QE X EE a ma) (hb:QE X EE b mb):QE X EE (.BinOp a .BitAnd b pos) (aj sP ma mb):=iW JH (gC λ_ _ _ _=>by unfold Rep;rfl) ha hb
theorem LC (ha:QE X EE a ma) (hb:QE X EE b mb):QE X EE (.BinOp a .BitOr b pos) (aj LA ma mb):=iW MV (gC λ_ _ _ _=>by unfold Rep;rfl) ha hb
theorem GK (ha:QE X EE a ma) (hb:QE X EE b mb):QE X EE (.BinOp a .BitXor b pos) (aj LB ma mb):=iW JI (gC λ_ _ _ _=>by unfold Rep;rfl) ha hb
theorem LD (ha:QE X EE a ma) (hb:QE X EE b mb):QE X EE (.BinOp a .LShift b pos) (aj jU ma mb):=iW JF (jh (P:=EL) (λi j h=>by simpa [EL] using h) λ_ _ _ _=>by unfold Rep;rfl) ha hb
noncomputable abbrev GL:=cH (λ_ j=>decide (0≤j)) λi j=>.int (i / 2^j.toNat)
theorem LF (ha:QE X EE a ma) (hb:QE X EE b mb):QE X EE (.BinOp a .RShift b pos) (aj GL ma mb):=iW JG (jh (P:=λ_ j=>0≤j) (λi j h=>by simpa using h) λ_ _ _ _=>by unfold Rep;rfl) ha hb
end
end
section
variable {prog:Yw} {w:YM} {A:Around} {E:XR→XX→Prop} {s:XX}
theorem nJ {t:Addr} {x:XR} (hit:s.heap.IsRevIter it t (i:Int))
  (ht:s.heap.IsList t items) (hx:items[i]?=some x)
  (hQ:∀ h',h'.IsRevIter it t ((i:Int) - 1)→ZM it s.heap h'→Q x {s with heap:=h'}) :
  Ye (model prog w) A (YN (.ref it)) Q E s:=by
 obtain ⟨q,ho,hc,hd⟩:=id hit
 obtain ⟨ql,Ie,_,nl,hdl⟩:=ht
 unfold YN
 refine XS (Zb (name:=Z6 "__next__") hit.typeIs abh (Zu abh hit.typeIs ade ?_ (ac4 _)))
 unfold aaH.«list_reverseiterator.__next__»
 refine XS (Yc ?_);dsimp only
 refine XS (YI ho hd (x:=rawInt (i:Int)) rfl ?_)
 show Ye _ _ (if (i:Int)<0 then _ else _) _ _ s
 rw [if_neg (by nofun)];refine XS (YI ho hd (x:=.ref t) rfl ?_)
 refine XS (aaj Ie hdl ?_);simp only [Zf,hx]
 refine XS (ZS ho hd (by simp) (Yc ⟨x,rfl,Yc (hQ _ ?_ (ZL ..))⟩))
 exact ⟨_,YB _ ho (ZV (Y0 hd _)),(abF ..).trans hc,by rw [Y0 hd];simp⟩
theorem pB {t:Addr} {Q:XR→XX→Prop} (hh:A.handled=none) (hit:s.heap.IsRevIter it t (-1))
  (hE:∀ h' e,acn it s.heap h'→(∃ o,h'.get? e=some o∧o.cls=.type "StopIteration")→E (.ref e) {s with heap:=h'}) :
  Ye (model prog w) A (YN (.ref it)) Q E s:=by
 obtain ⟨q,ho,hc,hd⟩:=id hit
 unfold YN
 refine XS (Zb (name:=Z6 "__next__") hit.typeIs abh (Zu abh hit.typeIs ade ?_ (ac4 _)))
 unfold aaH.«list_reverseiterator.__next__»
 refine XS (Yc ?_);dsimp only
 refine XS (YI ho hd (x:=rawInt (-1)) rfl ?_)
 show Ye _ _ (if (-1:Int)<0 then _ else _) _ _ s
 rw [if_pos (by decide)];refine XS (abx ?_)
 refine XS ?_
 show Ye _ _ (newExc (.type "StopIteration") [] >>= _) _ _ _
 refine XS ?_;simp only [newExc,newTuple]
 refine XS (YC ?_ (by size_fits));refine XS (m:=firstArgMember _ _) (aal (a:=Value.none) (by first | rfl | (simp only [firstArgMember];rfl)) ?_)
 refine YC ?_ (by size_fits);simp only [raiseNew]
 refine XS (acC ?_);first | rw [show A.in1.handled=none from hh] | rw [hh]
 refine XS (Yc (aco ?_))
 exact hE _ _ (((adf _ _).push _).push _) ⟨_,X6 _ rfl,rfl⟩
end
theorem qY (hh:A.handled=none) (it l:Addr) (hne:l≠it) (items:Array XR) :
  Draws prog w A it [it,l] items.size (λi v=>items[items.size - 1 - i]?=some v) (λi h=>i≤items.size∧h.IsRevIter it l ((items.size:Int) - 1 - (i:Int))∧h.IsList l items) where
 live:=λ_ _ st=>let ⟨o,ho,_⟩:=st.2.1;⟨o,ho⟩
 frame:=λ_ _ _ st hk=>⟨st.1,st.2.1.at λo e=>hk it (by simp) o e,let ⟨o,e,r⟩:=st.2.2;⟨o,hk l (by simp) o e,r⟩⟩
 item:=λi s Q E hi st hQ=>by
  obtain ⟨W3,st1,st2⟩:=st
  rw [show (items.size:Int) - 1 - (i:Int)=((items.size - 1 - i:Nat):Int) by nofun] at st1
  refine nJ st1 st2 (x:=items[items.size - 1 - i]) (by simp [show items.size - 1 - i<items.size by nofun]) λh' Gv hs'=>?_
  rw [show ((items.size - 1 - i:Nat):Int) - 1=(items.size:Int) - 1 - ((i+1:Nat):Int) by nofun] at Gv
  exact hQ _ h' s.toks (by simp [show items.size - 1 - i<items.size by nofun]) ⟨by nofun,Gv,let ⟨o,e,r⟩:=st2;⟨o,(hs'.2 l hne).trans e,r⟩⟩ hs'
 done:=λs Q E st hE=>pB hh (by have:=st.2.1;rwa [show (items.size:Int) - 1 - ((items.size:Nat):Int)=-1 by nofun] at this) hE
theorem vh (l r:Addr) (i:Int) :
  Meets (aaH.«enumerate.__new__» ⟨[.type "enumerate",.ref r],[]⟩) (λ_ R s=>s.heap.get? r=some (revObj l i) ∧
   R (.ok (.ret (.ref s.heap.objs.size)))
    {s with heap:=s.heap.push {cls:=.type "enumerate",data:=.fields #[.none,.bool false,.ref r,rawInt 0,.none,.none]}}):=
 .of_wp λprog w A R s h=>by
  obtain ⟨hp,g,d,tk,os⟩:=s;obtain ⟨hl,h⟩:=h
  have hsub:=sub_enumerate
  have hL:Heap.IsRevIter (Shared.heap ⟨hp,g,d,tk,os⟩) r l i:=⟨_,hl,rfl,rfl⟩
  wp_walk using YR hl
  refine adn λst=>Yc ?_
  split
  ·rename_i c _ _ _ _ _
   cases (c==Value.type "enumerate")
   ·wp_walk using YR hl,ZE hL
    exact ⟨_,rfl,h⟩
   ·wp_walk using YR hl,ZE hL
    exact ⟨_,rfl,h⟩
  ·wp_walk using YR hl,ZE hL
   exact ⟨_,rfl,h⟩
theorem qc {prog:Yw} {w:YM} {A:Around} {E:XR→XX→Prop} {r:Addr} {i:Int} (hl:s.heap.get? r=some (revObj l i))
  (h:∀ h',IsEnum h' s.heap.objs.size r 0 .none→(∀ b o,s.heap.get? b=some o→h'.get? b=some o)→Q (.ref s.heap.objs.size) {s with heap:=h'}) :
  Ye (model prog w) A (call (.type "enumerate") [.ref r]) Q E s:=by
 refine callType_new acP (by decide) (ab3 _) (ach _) (λobj=>aaE obj _) aci (vh l r i) ⟨hl,?_⟩
 have he:IsEnum (s.heap.push {cls:=.type "enumerate",data:=.fields #[.none,.bool false,.ref r,rawInt 0,.none,.none]}) s.heap.objs.size r 0 .none:=X6 s.heap rfl
 exact ⟨⟨_,he,rfl⟩,h _ he λb o x=>XW _ x⟩
noncomputable def LG (K:XU) (a:Addr) (n:Nat):It:=
 ⟨λi H=>∃ xs x,j0 K H a xs∧xs.length=n∧i<n∧xs[n - 1 - i]?=some x,λi H y H'=>∃ x p,(∀ xs,j0 K H a xs→xs[n - 1 - i]?=some x)∧H p=none∧y=.ref p∧H'=upd H p (.tup [.int i,x]),λi H=>i=n∧∃ xs,j0 K H a xs∧xs.length=n⟩
theorem xy {k:Nat} {pt:Pos} (l e it:Addr) (n:Nat) (hne:e≠it) (hle:l≠e) (hli:l≠it):Turn P w K (.Tuple es k pt) (LG K l n) [e,it] e (λi h=>∃ old,IsEnum h e it i old∧h.IsRevIter it l ((n:Int) - 1 - (i:Int))) where
 mem:=by simp
 obj:=λi h zz b hb=>by
  obtain ⟨old,st1,st2⟩:=zz
  rcases Yn.mp hb with rfl | hb
  ·exact ⟨_,st1,λv z=>by cases z⟩
  ·have e:b=it:=by simpa using hb
   subst e
   obtain ⟨o,e,c,d⟩:=st2
   exact ⟨o,e,λv z=>by rw [d] at z;cases z⟩
 keep:=λi h h' zz kp=>by obtain ⟨old,st1,st2⟩:=zz;exact ⟨old,kp e (by simp) _ st1,st2.at λo q=>kp it (by simp) o q⟩
 item:=by
  intro X hP hw hK hc i pins s σ H E I hf zu hg
  obtain ⟨old,st1,st2⟩:=zu
  subst hP hw hK
  obtain ⟨xs,x,hq,hn,hi,hx⟩:=hg
  obtain ⟨its,rv,p,hz⟩:=I.list hq
  obtain ⟨u,hu,ru⟩:=rv.get hx
  have NZ:e<s.heap.objs.size:=X0 st1
  have Cn:it<s.heap.objs.size:=by obtain ⟨o,q,_⟩:=st2;exact X0 q
  have C7:its.toArray.size=n:=by rw [Yb,← rv.length];exact hn
  refine abQ (qY (show X.A.in1.handled=none from I.ok.hd hc) it l hli its.toArray) st1 ⟨by nofun,by rw [C7];exact st2,p.isList⟩ (by nofun) hne (by simp [hne,Y6 hle]) λx' h' tk hx' hO hst htup hsz kp=>?_
  have Rt:x'=u:=by
   rw [C7] at hx'
   have e:its.toArray[n - 1 - i]?=some x':=hx'
   rw [aav,hu] at e
   exact (Yu e).symm
  subst Rt
  have hL:=hst.2.1
  rw [C7] at hL
  refine ⟨.ref s.heap.objs.size,rfl,?_⟩
  have I1:Inv X pins σ (upd H s.heap.objs.size (.tup [.int i,x])) {s with heap:=s.heap.push {cls:=.type "tuple",data:=.seq #[.int i tk,x']}}:=
   I.laid (t':=s.toks) (λb o q=>XW _ q) (X3 _) ⟨by simp [sizeLine_eq],[.int i tk,x'],.cons ⟨_,rfl⟩ (.cons ru .nil),aa4 _ _⟩
  have hfree:=I.hok.fresh (X3 s.heap.objs.size)
  have hf1:∀ b∈[e,it],kJ X pins (upd H s.heap.objs.size (.tup [.int i,x])) b:=λb hb=>by
   have hlt:b≠s.heap.objs.size:=by
    rcases Yn.mp hb with rfl | hb
    ·exact Yg NZ
    ·rw [Yk.mp hb];exact Yg Cn
   exact ⟨by rw [aC hlt];exact (hf b hb).1,(hf b hb).2⟩
  unfold letOwnedTupleGo
  refine XS (aaQ hO ?_)
  dsimp only
  rw [if_pos (by simp)]
  refine XS (abx ?_)
  unfold updateField
  refine XS (aaQ hO ?_)
  dsimp only
  rw [if_pos (by simp)]
  refine ac2 hO ?_
  have pZ:∀ b,b≠e→(h'.update e (Zi λx=>x.setIfInBounds 0 Value.none)).get? b=h'.get? b:=λb hb=>Yt _ _ (Y6 hb)
  refine ⟨.ref s.heap.objs.size,_,su (t':=tk+1) (s:={s with heap:=s.heap.push {cls:=.type "tuple",data:=.seq #[.int i tk,x']}}) (ch:=[e,it]) I1 (λb o hb q=>?_) hf1,rfl,⟨x,s.heap.objs.size,λys hy=>by rw [I.lH hy hq];exact hx,hfree,rfl,rfl⟩,⟨x',?_,?_⟩,λb hb=>(hf1 b hb).1⟩
  ·have hb1:b≠e:=λz=>hb (by simp [z])
   have hb2:b≠it:=λz=>hb (by simp [z])
   show (h'.update e _).get? b=some o
   rw [pZ b hb1]
   by_cases Co:b=s.heap.objs.size
   ·subst Co
    have:=X6 (o:={cls:=.type "tuple",data:=.seq #[.int (i:Int) tk,x']}) s.heap rfl
    rw [this] at q;cases q
    exact htup
   ·have q':(s.heap.push {cls:=.type "tuple",data:=.seq #[.int (i:Int) tk,x']}).get? b=some o:=q
    refine kp b o hb1 hb2 ?_
    rwa [abE _ _ _ Co] at q'
  ·show (h'.update e _).get? e=_
   rw [YB _ hO rfl]
   rfl
  ·exact hL.at λo q=>(pZ it (Y6 hne)).trans q
 done:=by
  intro X hP hw hK hc i pins s σ H E I hf zu hg
  obtain ⟨old,st1,st2⟩:=zu
  subst hP hw hK
  obtain ⟨rfl,xs,hq,hn⟩:=hg
  obtain ⟨its,rv,p,hz⟩:=I.list hq
  obtain ⟨f0,f1,f2,f3,f4,f5⟩:=hf it (by simp)
  have C7:its.toArray.size=i:=by rw [Yb,← rv.length];exact hn
  exact ab4 (qY (show X.A.in1.handled=none from I.ok.hd hc) it l hli its.toArray) st1 ⟨X3 _,by rw [C7];exact st2,p.isList⟩ λh' eb=>⟨rfl,I.turned (t':=s.toks) (λb o hb e=>eb b o hb e) f0 f1 f3 f4 f5⟩
 self:=λ_ _ _ _ _ zz h=>by obtain ⟨old,st1,_⟩:=zz;exact Z9 st1 h
noncomputable def ly (d:D) (n:Nat):View:=λG i=>match aD G d with
 | some (.lst xs)=>if xs.length=n then (if i=n then some none else if i<n then some (xs[n - 1 - i]?.map λx=>.tup [.int i,x]) else none) else none
 | _=>none
noncomputable def sQ (m:DS→M (List D)):MI:=λτ=>(m τ).bind λds=>match ds with
 | [d]=>λG=>match aD G d with
  | some (.lst xs)=>.ok (xs.length+1,ly d xs.length) G
  | _=>.stuck
 | _=>M.stop
section
variable {X:Cx} {EE:bO} {tg iter a b:Expr} {g:jI} {mi:MI} {ms:MS} {pos p pc p2 RI:Pos} {m:DS→M (List D)}
theorem C8 (rx:Rep X.K X.mg ρ H d (.ref l)):JV X.K X.mg (LG X.K l n) (ly d n) H ρ:=by
 intro i H' ρ' G' f hp
 unfold ly
 cases q:aD G' d with
 | none=>exact ⟨λe=>(by cases e),λx e=>(by cases e)⟩
 | some sk=>
  cases sk with
  | tup zs=>exact ⟨λe=>(by cases e),λx e=>(by cases e)⟩
  | str z=>exact ⟨λe=>(by cases e),λx e=>(by cases e)⟩
  | lst zs=>
   dsimp only
   by_cases hn:zs.length=n
   ·rw [if_pos hn]
    obtain ⟨xs,sq,rs⟩:=Cy f rx hp q
    by_cases hi:i=n
    ·rw [if_pos hi]
     exact ⟨λ_=>⟨hi,xs,sq,by rw [← rs.length];exact hn⟩,λx e=>(by cases e)⟩
    ·rw [if_neg hi]
     by_cases hlt:i<n
     ·rw [if_pos hlt]
      refine ⟨λe=>?_,λx e=>?_⟩
      ·have:=Yu e
       rw [Option.map_eq_none_iff,YZ] at this
       nofun
      ·have e':=Yu e
       cases qi:zs[n - 1 - i]? with
       | none=>rw [qi] at e';cases e'
       | some z=>
        rw [qi] at e';cases e'
        obtain ⟨v,hv,rv⟩:=rs.get qi
        refine ⟨⟨xs,v,sq,by rw [← rs.length];exact hn,hlt,hv⟩,λy H2 hy=>?_⟩
        obtain ⟨v',p,ev',hp0,rfl,rfl⟩:=hy
        have ev':=ev' xs sq
        rw [hv] at ev';cases ev'
        refine ⟨sr.new hp0,?_⟩
        unfold Rep
        refine ⟨p,[.int i,v],rfl,.of aX,.cons (by unfold Rep;rfl) (.cons (Rep.mono (cN hp0 ρ') _ _ rv) .nil)⟩
     ·rw [if_neg hlt];exact ⟨λe=>(by cases e),λx e=>(by cases e)⟩
   ·rw [if_neg hn];exact ⟨λe=>(by cases e),λx e=>(by cases e)⟩
theorem C9 {k:Nat} {pt:Pos} (hm0:X.mg "enumerate"=none) (VG:Gl X "enumerate") (hm:X.mg "reversed"=none) (nS:Gl X "reversed") (ha:QA X EE [a] m) (h:ao [a]=true:=by rfl):QI X EE (.Tuple es k pt) (.Call (.Name "enumerate" p2) [.Call (.Name "reversed" p) [a] [] pc] [] RI) (sQ m):=by
 have h':br a=true∧ao []=true:=by simpa [ao] using h
 intro pins s σ H R I hq
 obtain ⟨τ,ρ,G,ab,ok⟩:=hq
 dsimp only [sQ,M.bind] at ok
 have hA:ie X.K X.mg EE m σ H λvs H1=>∃ ρ1 G1 ds,Ab X.K X.mg σ H1 τ ρ1 G1∧bX X.K H H1 ρ ρ1∧aq X.K X.mg ρ1 H1 ds vs∧m τ G=.ok ds G1:=by
  refine ⟨τ,ρ,G,ab,?_⟩
  cases e:m τ G with
  | stuck=>rw [e] at ok;exact ok
  | bB c G'=>rw [e] at ok;exact ok
  | ok ds G'=>exact λvs H' ρ' f bq r=>⟨ρ',G',ds,bq,f,r,rfl⟩
 refine Yo (fh I VG hm0 mL ?_ (by decide) (by decide))
 refine Yr ?_ (aM rfl _ _) (aO (es:=[]) rfl)
 rw [aM (e:=.Call (.Name "reversed" p) [a] [] pc) rfl]
 show Ye _ _ (spliced ((false,eval _ X.env)::backTo RI (Yj [] X.env))) _ _ s
 refine Zm ?_
 refine Yo (fh I nS hm jQ ?_ (by decide) (by decide))
 refine Yr (cO (ha pc pins s σ H _ I hA) λus s1 oj=>?_) (aM h'.1 _ _) (aO (es:=[]) rfl)
 obtain ⟨vs,H1,I1,r1,ρ1,G1,ds,fW,f1,rs,em⟩:=oj
 rw [em] at ok
 dsimp only at ok
 match ds,rs,ok with
 | [],_,ok=>exact ok.elim
 | _::_::_,_,ok=>exact ok.elim
 | [d],rs,ok=>
  obtain ⟨x,rfl,rx⟩:=fX rs
  obtain ⟨u,rfl,ru⟩:=vals1 r1
  dsimp only at ok
  cases q:aD G1 d with
  | none=>rw [q] at ok;exact ok.elim
  | some sk=>
   rw [q] at ok
   cases sk with
   | tup zs=>exact ok.elim
   | str z=>exact ok.elim
   | lst zs=>
    dsimp only at ok
    obtain ⟨l,ys,rfl,sq,rv⟩:=bC (pins:=pins) (σ0:=σ) (s:=s1) fW.hp rx q
    cases ru
    obtain ⟨its,vv,pl,hz⟩:=I1.list sq
    have hlt:l<s1.heap.objs.size:=by obtain ⟨_,e,_⟩:=pl.isList;exact X0 e
    refine call_reversed_list pl.isList ?_
    refine Z5 ?_
    have TN:=X6 (o:=revObj l ((its.toArray.size:Int) - 1)) s1.heap rfl
    have TQ:(s1.heap.push (revObj l ((its.toArray.size:Int) - 1))).objs.size=s1.heap.objs.size+1:=Zg ..
    refine qc (s:={s1 with heap:=s1.heap.push (revObj l ((its.toArray.size:Int) - 1))}) TN λh2 hE kp=>?_
    dsimp only at hE kp
    rw [TQ] at hE
    show Ye _ _ (pyIter (.ref (s1.heap.push _).objs.size)) _ _ _
    rw [TQ]
    refine Z9 (s:={s1 with heap:=h2}) hE ?_
    have I2:Inv X pins σ H1 {s1 with heap:=h2}:=I1.kept (t':=s1.toks) λb o e=>kp b o (XW _ e)
    have hlen:its.toArray.size=zs.length:=by rw [Yb,← vv.length,rv.length]
    refine ⟨s1.heap.objs.size+1,[s1.heap.objs.size+1,s1.heap.objs.size],_,LG X.K l zs.length,H1,rfl,I2,xy l _ _ _ (abP _) (Yg (ZH hlt)) (Yg hlt),⟨_,hE,?_⟩,λb hb=>?_,ok _ H1 ρ1 f1 fW (C8 rx)⟩
    ·rw [← hlen]
     exact ⟨_,kp _ _ TN,rfl,by simp [revObj]⟩
    ·rcases Yn.mp hb with rfl | hb
     ·exact I1.l8 (aaU _) (I1.hok.fresh (aaU _))
     ·rw [Yk.mp hb]
      exact I1.l8 (X3 _) (I1.hok.fresh (X3 _))
end
section
variable {X:Cx} {EE:bO} {o i e:Expr} {pos p:Pos} {mo mi:DS→M D} {m:DS→M (List D)}
noncomputable def vj (G:DH):D→Option (List (Key×D))
 | .obj n=>match G[n]? with
  | some (.dct kvs)=>some kvs
  | some (.Mh kvs)=>some kvs
  | _=>none
 | _=>none
theorem Ai {x:V} (h:fy X.K X.mg H ρ G) (r:Rep X.K X.mg ρ H d x) (e:vj G d=some kvs):∃ a xs,x=.ref a∧Rd H a (.dK ((kvs.map (·.1)).zip xs))∧aq X.K X.mg ρ H (kvs.map (·.2)) xs:=by
 cases d with
 | obj n=>
  unfold Rep at r
  obtain ⟨a,rfl,ea⟩:=r
  dsimp only [vj] at e
  cases g:G[n]? with
  | none=>rw [g] at e;cases e
  | some ob=>
   cases ob with
   | dct kv=>
    rw [g] at e;cases e
    obtain ⟨a',xs,e1,e2,rs⟩:=h.dct g
    rw [ea] at e1;cases e1
    exact ⟨a,xs,rfl,.inl e2,rs⟩
   | Mh kv=>
    rw [g] at e;cases e
    obtain ⟨a',e1,xs,e2,rs⟩:=h.ob n _ g
    rw [ea] at e1;cases e1
    exact ⟨a,xs,rfl,.inr e2,rs⟩
   | _=>rw [g] at e;cases e
 | _=>cases e
noncomputable def LH (d k:D):M D:=λG=>match vj G d,xm k with
 | some kvs,some y=>match sH kvs y with
  | some v=>.ok v G
  | none=>.stuck
 | _,_=>.stuck
noncomputable def Dc (mo mi:DS→M D):DS→M D:=λτ=>(mo τ).bind λd=>(mi τ).bind λk=>LH d k
theorem LI (hu:X.A.units+600<cLine) (ho:QE X EE o mo) (hi:QE X EE i mi) (hs:Fb i):QE X EE (.Subscript o i pos) (Dc mo mi):=by
 refine PE.mono (Fd (by nofun) ho hi hs) λσ H Q zz=>?_
 obtain ⟨τ,ρ,G,ab,ok⟩:=zz
 refine ⟨τ,ρ,G,ab,?_⟩
 dsimp only [Dc,M.bind] at ok
 cases e1:mo τ G with
 | stuck=>rw [e1] at ok;exact ok
 | bB c G'=>rw [e1] at ok;exact ok
 | ok d G1=>
  rw [e1] at ok
  dsimp only at ok
  intro vd H1 ρ1 f1 fW r1
  refine ⟨τ,ρ1,G1,fW,?_⟩
  cases e2:mi τ G1 with
  | stuck=>rw [e2] at ok;exact ok
  | bB c G'=>rw [e2] at ok;exact λH' ρ' f bq=>ok H' ρ' (f1.trans f) bq
  | ok k G2=>
   rw [e2] at ok
   dsimp only [LH] at ok
   intro vk H2 ρ2 f2 bG r2
   cases q:vj G2 d with
   | none=>rw [q] at ok;exact ok.elim
   | some kvs=>
    cases ek:xm k with
    | none=>rw [q,ek] at ok;exact ok.elim
    | some y=>
     rw [q,ek] at ok
     dsimp only at ok
     obtain ⟨a,xs,rfl,eH,rs⟩:=Ai bG.hp (r1.mono f2) q
     have ev:=Gs r2 ek
     subst ev
     rcases uT y rs with ⟨z1,z2⟩ | ⟨dv,v,z1,z2,z3⟩
     ·rw [z1] at ok;exact ok.elim
     ·rw [z1] at ok
      refine ⟨a,v,rfl,?_,ok v H2 ρ2 (f1.trans f2) bG z3⟩
      exact .inl ⟨_,y,eH,rfl,z2.symm⟩
noncomputable def nk:List (Str×(DS→M D))→DS→M (List (Key×D))
 | [],_=>M.ret []
 | (k,m)::r,τ=>(m τ).bind λa=>(nk r τ).bind λl=>M.ret ((Sum.inr k,a)::l)
noncomputable def VH (X:Cx) (H:Hp) (σ:L2.St) (τ:DS) (ρ:List Addr) (Q:List (V×V)→Hp→Prop):Out (List (Key×D))→Prop
 | .ok AX G2=>∀ H2 ρ2 xs,bX X.K H H2 ρ ρ2→Ab X.K X.mg σ H2 τ ρ2 G2→aq X.K X.mg ρ2 H2 (AX.map (·.2)) xs→Q (((AX.map (·.1)).zip xs).map λkv=>(kV kv.1,kv.2)) H2
 | _=>False
theorem vm {σ:L2.St} {τ:DS}:∀ (l:List (Str×(DS→M D))) (H:Hp) (ρ:List Addr) (G:DH) (Q:List (V×V)→Hp→Prop),Ab X.K X.mg σ H τ ρ G→VH X H σ τ ρ Q (nk l τ G) →
  r8 (l.map λkm=>(bh X.K X.mg EE (eC (.str km.1)),bh X.K X.mg EE km.2)) σ H Q
 | [],H,ρ,G,Q,ab,ok=>ok H ρ [] .refl ab .nil
 | (k,m)::r,H,ρ,G,Q,ab,ok=>by
  dsimp only [nk,M.bind,M.ret] at ok
  show bh X.K X.mg EE (eC (.str k)) σ H _
  refine ⟨τ,ρ,G,ab,λvk H1 ρ1 f1 fW r1=>⟨τ,ρ1,G,fW,?_⟩⟩
  unfold Rep at r1;subst r1
  dsimp only
  cases e1:m τ G with
  | stuck=>rw [e1] at ok;exact ok.elim
  | bB c G'=>rw [e1] at ok;exact ok.elim
  | ok a G1=>
   rw [e1] at ok
   dsimp only at ok
   intro va H2 ρ2 f2 bG r2
   refine vm r H2 ρ2 G1 _ bG ?_
   cases e2:nk r τ G1 with
   | stuck=>rw [e2] at ok;exact ok.elim
   | bB c G'=>rw [e2] at ok;exact ok.elim
   | ok l G2=>
    rw [e2] at ok
    intro H3 ρ3 xs f3 oz rs
    exact ok H3 ρ3 (va::xs) ((f1.trans f2).trans f3) oz (.cons (r2.mono f3) rs)
noncomputable def sR (l:List (Key×D)):List (Key×D):=l.foldl (λacc kv=>o6 acc kv.1 kv.2) []
theorem qZ {H:Hp} {ρ:List Addr}:∀ {l:List (Key×D)} {xs:List V} {acc:List (Key×D)} {ys:List V},aq X.K X.mg ρ H (l.map (·.2)) xs→aq X.K X.mg ρ H (acc.map (·.2)) ys →
  ∃ zs,jM ((acc.map (·.1)).zip ys) ((l.map (·.1)).zip xs)=((l.foldl (λacc kv=>o6 acc kv.1 kv.2) acc).map (·.1)).zip zs∧aq X.K X.mg ρ H ((l.foldl (λacc kv=>o6 acc kv.1 kv.2) acc).map (·.2)) zs
 | [],xs,acc,ys,r,ra=>⟨ys,by simp [jM],ra⟩
 | kv::l,xs,acc,ys,r,ra=>by
  rw [X8] at r
  unfold aq at r
  obtain ⟨v,r',rfl,h1,h2⟩:=r
  obtain ⟨ws,e,rw'⟩:=CA kv.1 h1 ra
  obtain ⟨zs,e2,rz⟩:=qZ h2 rw'
  refine ⟨zs,?_,rz⟩
  rw [← e] at e2
  exact e2
noncomputable def q8 (l:List (Str×(DS→M D))):DS→M D:=λτ G=>match nk l τ (G++[.dct []]) with
 | .ok AX G2=>match G2[G.length]? with
  | some (.dct [])=>if AX.length≤15 then .ok (.obj G.length) (G2.set G.length (.dct (sR AX))) else .stuck
  | _=>.stuck
 | _=>.stuck
theorem Ow {k v:Expr} {m:DS→M D} {r:List (Str×(DS→M D))} {ks:List (Option Expr)} {vs:List Expr} (hk:QE X EE k (eC (.str x))) (hv:QE X EE v m) (hr:HZ X pos ks vs (r.map λkm=>(bh X.K X.mg EE (eC (.str km.1)),bh X.K X.mg EE km.2))) :
  HZ X pos (some k::ks) (v::vs) (((x,m)::r).map λkm=>(bh X.K X.mg EE (eC (.str km.1)),bh X.K X.mg EE km.2)):=Bx hk hv hr
theorem GN {keys:List (Option Expr)} {l:List (Str×(DS→M D))} (hp:HZ X pos keys values (l.map λkm=>(bh X.K X.mg EE (eC (.str km.1)),bh X.K X.mg EE km.2))) (hall:keys.all (·.isSome)=true) (hl:keys.length=values.length) (h0:keys≠[]) (QL:keys.length≤15):QE X EE (.Dict keys values pos) (q8 l):=by
 refine PE.mono (Fg hp hall hl h0 QL) λσ H Q zz=>?_
 obtain ⟨τ,ρ,G,ab,ok⟩:=zz
 intro p hp
 have f0:bX X.K H (upd H p (.dK [])) ρ (ρ++[p]):=(cN hp ρ).trans (eB ρ p)
 have FU:Ab X.K X.mg σ (upd H p (.dK [])) τ (ρ++[p]) (G++[.dct []]):=⟨ab.st.mono f0,ab.hp.Im hp⟩
 have r0:(ρ++[p])[G.length]?=some p:=by rw [← ab.hp.hl,aE]
 refine vm l _ _ _ _ FU ?_
 unfold q8 at ok
 cases e1:nk l τ (G++[.dct []]) with
 | stuck=>rw [e1] at ok;exact ok.elim
 | bB c G'=>rw [e1] at ok;exact ok.elim
 | ok AX G2=>
  rw [e1] at ok
  dsimp only at ok
  intro H2 ρ2 xs f2 bG rs
  cases g:G2[G.length]? with
  | none=>rw [g] at ok;exact ok.elim
  | some ob=>
   rw [g] at ok
   cases ob with
   | dct kvs=>
    cases kvs with
    | cons a b=>exact ok.elim
    | nil=>
     dsimp only at ok
     by_cases h:AX.length≤15
     ·rw [if_pos h] at ok
      obtain ⟨a,ys,e2,eH,_⟩:=bG.hp.dct g
      rw [f2.get r0] at e2;cases e2
      have hlx:AX.length=xs.length:=by simpa using rs.length
      obtain ⟨zs,e3,rz⟩:=qZ (acc:=[]) (ys:=[]) rs .nil
      refine ⟨by simpa using eH,(AX.map (·.1)).zip xs,rfl,by simp;nofun,?_⟩
      have Ox:jM [] ((AX.map (·.1)).zip xs)=((sR AX).map (·.1)).zip zs:=e3
      rw [Ox]
      have f3:bX X.K H2 (upd H2 p (.dK (((sR AX).map (·.1)).zip zs))) ρ2 ρ2:=uW eH ρ2
      refine ok (.ref p) _ ρ2 ((f0.trans f2).trans f3) ⟨bG.st.mono f3,bG.hp.putD (f2.get r0) eH rz⟩ ?_
      unfold Rep
      exact ⟨p,rfl,f2.get r0⟩
     ·rw [if_neg h] at ok;exact ok.elim
   | _=>exact ok.elim
end
section
variable {X:Cx} {EE:bO}
theorem GO (he:GD X ns EE e m):CM X EE [.Return (some e) pos] (bJ m):=by
 intro pins s σ H D I h
 have hl:bh X.K X.mg EE m σ H D.rt:=by
  obtain ⟨τ,ρ,G,ab,ok⟩:=kN (k:=λτ d G=>.rt d G) h
  refine ⟨τ,ρ,G,ab,?_⟩
  cases e:m τ G with
  | stuck=>rw [e] at ok;exact ok
  | bB c G'=>rw [e] at ok;exact ok
  | ok d G'=>
   rw [e] at ok
   intro v H' ρ' f' bq r'
   obtain ⟨τ2,ρ2,G2,d2,bG,r2,aH⟩:=ok v H' ρ' f' bq r'
   exact aH v H' ρ2 .refl bG.hp r2
 refine aa8 (acS (cO (he pins s σ H _ I hl) λv s1 zz=>?_))
 obtain ⟨x,H1,I1,r1,q1⟩:=zz
 exact ⟨x,H1,⟨I1.os,I1.bare,I1.base,I1.hok⟩,r1,q1⟩
end
structure rj where
 P:Yw
 w:YM
 K:XU
 mg:Str→Option XR
 base:Heap
noncomputable def iy (g:rj) (x:Str) (k n:Nat) (m:List D→M D):Prop:=∃ f fd ps,gA g.P g.w g.K g.mg g.base (lM g.P g.w) k f fd ps (fU g.K g.mg n m)∧g.mg x=some (.ref f)∧YE g.K (.ref f)=true∧Binds g.K fd ps []
noncomputable def GP (g:rj) (y:Str) (k n:Nat) (m:List D→M D):Prop:=∃ c,mZ g.K g.mg y=some c∧yI g.P g.w g.K g.mg g.base (lM g.P g.w) k c n m
noncomputable def Oz (g:rj) (x:Str):Prop:=∃ f,g.mg x=some (.ref f)
noncomputable def AY (x:Str):Bool:=!(x=="__debug__")&&!(x=="__classdict__")
noncomputable def mQ (sc:Scope) (x:Str) (k:NameKind):Bool:=decide (sc.names.lookup x=some k)
noncomputable def qe (sc:Scope) (N:List Str):List (Option Str):=N.map λx=>if (mQ sc x .local||mQ sc x .cell||mQ sc x .free)=true then some x else none
noncomputable def qf (c:Bool) (sc:Scope) (N:List Str):List (Option Str):=N.map λx=>if (mQ sc x .local||(c&&mQ sc x .cell))=true then some x else none
noncomputable def De (scope:Scope) (xs N:List Str):List (Option Str):=xs.map some++N.map λx=>if mQ scope x .free=true then some x else none
structure Cf (X:Cx) (EE:bO) (g:rj) (k:Nat) (B:List Str) (sc:Scope) (V W:List (Option Str)):Prop where
 eq:X.prog=g.P∧X.w=g.w∧X.K=g.K∧X.mg=g.mg∧X.base=g.base
 vis:∀ (i:Nat) (x:Str),V[i]?=some (some x)→X.N[i]?=some x∧A3 X.env.scope x
 gl:∀ x,mQ sc x .globalImplicit=true→Gl X x
 st:∀ (i:Nat) (x:Str),W[i]?=some (some x)→X.N[i]?=some x∧Loc X.env.scope x∧(X.fn x=true∨X.env.scope.names.lookup x=some .local)
 bl:∀ b,B.contains b=true→X.mg b=none
 hx:fZ X EE
 hr:cK k X.A
 hc:X.calm=true
structure Cs (X:Cx) (sc:Scope) (N:List Str):Prop where
 nd:X.N.Nodup
 hf:lO X
 po:PassesOwn (model X.prog X.w) X.A X.env X.xe
 hs:X.env.scope=sc
 hN:X.N=N
 bk:(X.env.blockKind==.function)=true
theorem bV {a b:Bool} (h:(a&&b)=true):a=true∧b=true:=by simpa using h
theorem nq (h:AY x=true):DN x:=by
 obtain ⟨h1,h2⟩:=bV h
 exact ⟨by simpa using h1,by simpa using h2⟩
theorem map_some {α:Type} {f:α→Bool} {l:List α} {x:α} (h:(l.map λx=>if f x=true then some x else none)[i]?=some (some x)):l[i]?=some x∧f x=true:=by
 rw [Yq] at h
 cases e:l[i]? with
 | none=>rw [e] at h;cases h
 | some y=>
  rw [e] at h
  dsimp only [Option.map] at h
  by_cases q:f y=true
  ·rw [if_pos q] at h;cases h;exact ⟨rfl,q⟩
  ·rw [if_neg q] at h;cases h
theorem i7 {k:NameKind} (h:mQ sc x k=true):sc.names.lookup x=some k:=of_decide_eq_true h
section
variable {X:Cx} {EE:bO} {g:rj} {k k' n i j:Nat} {B N xs:List Str} {sc scope:Scope} {V W:List (Option Str)} {x y:Str} {pos p px py:Pos} {e a b elt tg iter:Expr} {es ifs:List Expr} {m:DS→M (List D)} {ma te:DS→M D} {mf:List D→M D} {ks:List Bool} {gO:D→Option (List D)} {tt:DS→M Bool} {mi:MI}
theorem Cf.hu (c:Cf X EE g k B sc V W):X.A.units+600<cLine:=FY c.hr
theorem Cf.RS (c:Cf X EE g k B sc V W) (h:(decide (V[i]?=some (some x))&&AY x)=true):(X.N[i]?=some x∧A3 X.env.scope x)∧DN x:=⟨c.vis i x (of_decide_eq_true (bV h).1),nq (bV h).2⟩
theorem GQ (c:Cf X EE g k B sc V W) (h:(decide (V[i]?=some (some x))&&AY x)=true):QE X EE (.Name x pos) (af i):=by
 obtain ⟨⟨h1,h2⟩,h3⟩:=c.RS h
 exact K0 i h2 h3 h1
theorem iy.at (c:Cf X EE g k B sc V W) (C:iy g x k' n mf) (h:k'≤k):∃ f fd ps,gA X.prog X.w X.K X.mg X.base (lM X.prog X.w) k' f fd ps (fU X.K X.mg n mf)∧cK k' X.A∧X.mg x=some (.ref f)∧YE X.K (.ref f)=true∧Binds X.K fd ps []:=by
 obtain ⟨f,fd,ps,h1,h2,h3,h4⟩:=C
 have r:=c.hr.mono h
 obtain ⟨e1,e2,e3,e4,e5⟩:=c.eq
 rw [e1,e2,e3,e4,e5]
 exact ⟨f,fd,ps,h1,r,h2,h3,h4⟩
theorem vn (c:Cf X EE g k B sc V W) (C:iy g x k' n mf) (h:(decide (k'≤k)&&(mQ sc x .globalImplicit&&(AY x&&ao (e::es))))=true) (ha:QA X EE (e::es) m):QE X EE (.Call (.Name x p) (e::es) [] pos) (aA n mf m):=by
 obtain ⟨h1,h⟩:=bV h
 obtain ⟨h2,h⟩:=bV h
 obtain ⟨h3,h4⟩:=bV h
 obtain ⟨f,fd,ps,q1,q2,q3,q4,q5⟩:=C.at c (of_decide_eq_true h1)
 exact yz q1 q2 q3 q4 q5 (zL c.hx) (c.gl x h2) (nq h3) ha h4
theorem LJ (c:Cf X EE g k B sc V W) (C:Oz g x) (h:(mQ sc x .globalImplicit&&AY x)=true):QE X EE (.Name x pos) (eC (.fn x)):=by
 obtain ⟨h2,h3⟩:=bV h
 obtain ⟨f,hf⟩:=C
 exact NW (f:=f) (by rw [c.eq.2.2.2.1];exact hf) (c.gl x h2) (nq h3)
noncomputable def Aj (g:rj) (k n:Nat):List (Str×(List D→M D))→Prop
 | []=>True
 | q::r=>(∃ k',iy g q.1 k' n q.2∧k'≤k)∧Aj g k n r
theorem Aj.at (c:Cf X EE g k B sc V W):∀ {l:List (Str×(List D→M D))},Aj g k n l→K9 (lM X.prog X.w) X n l
 | [],h=>trivial
 | q::r,⟨⟨k',h1,h2⟩,hr⟩=>by
  obtain ⟨f,fd,ps,q1,q2,q3,q4,q5⟩:=h1.at c h2
  exact ⟨⟨k',f,fd,ps,q1,q2,q3,q4,q5⟩,Aj.at c hr⟩
theorem Ak {l:List (Str×(List D→M D))} (c:Cf X EE g k B sc V W) (C:Aj g k n l) (h:((decide (V[i]?=some (some x))&&AY x)&&ao (e::es))=true) (ha:QA X EE (e::es) m):QE X EE (.Call (.Name x p) (e::es) [] pos) (kZ i n (λy=>YU y l) m):=by
 obtain ⟨h1,h⟩:=bV h
 obtain ⟨⟨q1,q2⟩,q3⟩:=c.RS h1
 exact Cb q1 q2 q3 (NX (C.at c)) (zL c.hx) ha h
theorem Al {z:Nat} (c:Cf X EE g k B sc V W) (C:GP g y k' n mf) (h:((decide (V[i]?=some (some x))&&AY x)&&(decide (k'≤k)&&ao (e::es)))=true) (ha:QA X EE (e::es) m):QE X EE (.Call (.Name x p) (e::es) [] pos) (lg i n (λw=>YU w [(y,(z,mf))]) m):=by
 obtain ⟨h1,h⟩:=bV h
 obtain ⟨h2,h⟩:=bV h
 obtain ⟨⟨q1,q2⟩,q3⟩:=c.RS h1
 have r:=c.hr.mono (of_decide_eq_true h2)
 refine CL (CX:=lM X.prog X.w) q1 q2 q3 (RQ ?_) (zL c.hx) ha h
 obtain ⟨yJ,z1,z2⟩:=C
 obtain ⟨e1,e2,e3,e4,e5⟩:=c.eq
 rw [e1,e2,e3,e4,e5]
 exact ⟨k',yJ,z1,z2,r⟩
theorem Cf.Er (c:Cf X EE g k B sc V W) (h:decide (W[i]?=some (some x))=true):X.N[i]?=some x∧Loc X.env.scope x∧(X.fn x=true∨X.env.scope.names.lookup x=some .local):=c.st i x (of_decide_eq_true h)
theorem GR (c:Cf X EE g k B sc V W) (s:Cs X scope N) (h:(decide (W[i]?=some (some x))&&kY a)=true) (he:QE X EE a ma):QS X EE (.Assign [.Name x px] a pos) (aF i ma):=by
 obtain ⟨h1,h2⟩:=bV h
 obtain ⟨q1,q2,q3⟩:=c.Er h1
 exact K6 s.nd q2 he q3 q1 h2
theorem Df (c:Cf X EE g k B sc V W) (s:Cs X scope N) (h:decide (W[i]?=some (some x))=true):QG X (.Name x pos) (gN i):=by
 obtain ⟨q1,q2,q3⟩:=c.Er h
 exact F4 s.nd q2 q3 q1
theorem Dg {q:Nat} (c:Cf X EE g k B sc V W) (s:Cs X scope N) (h:(decide (W[i]?=some (some x))&&decide (W[j]?=some (some y)))=true):QG X (.Tuple [.Name x px,.Name y py] q pos) (gP i j):=by
 obtain ⟨h1,h2⟩:=bV h
 obtain ⟨q1,q2,q3⟩:=c.Er h1
 obtain ⟨r1,r2,r3⟩:=c.Er h2
 exact Gb c.hc s.nd q2 r2 q3 r3 q1 r1
noncomputable def Iv:MS:=λ_ _=>.stuck
theorem Dh {b:List Stmt}:pY X EE b Iv:=λ_ _ _ _ _ _ zz=>by obtain ⟨_,_,_,_,h⟩:=zz;exact h.elim
noncomputable def Iw (tg:Expr) (xs:List Str) (gO:D→Option (List D)):Prop:=(∃ x p,tg=.Name x p∧xs=[x]∧gO=oN)∨∃ x y p q k r,tg=.Tuple [.Name x p,.Name y q] k r∧xs=[x,y]∧gO=oT 2
theorem OA {q:Pos}:Iw (.Name x q) [x] oN:=.inl ⟨_,_,rfl,rfl,rfl⟩
theorem OB {q r:Pos} {k:Nat}:Iw (.Tuple [.Name x p,.Name y q] k r) [x,y] (oT 2):=.inr ⟨_,_,_,_,_,_,rfl,rfl,rfl⟩
theorem pC (c:X.calm=true) (h:Iw tg xs gO) (S:bw X.env.scope X.N scope xs ks):∃ ow,Own X scope xs ks tg ow∧jm X.K X.mg ow gO:=by
 rcases h with ⟨x,p,rfl,rfl,rfl⟩ | ⟨x,y,p,q,k,r,rfl,rfl,rfl⟩
 ·exact ⟨_,BY S,zN⟩
 ·exact ⟨_,BZ c S,B3⟩
instance {a:Scope} {N:List Str} {b:Scope} {xs:List Str} {ks:List Bool}:Decidable (bw a N b xs ks):=
 decidable_of_iff (xs.Nodup∧b.kind=.function∧(∀ y∈b.names,y.2≠.cell)∧(∀ y∈b.names,y.2=.local→b.names.lookup y.1=some .local)∧(∀ x∈xs,b.names.lookup x=some .local)∧(∀ y∈b.names,y.2=.free→a.names.lookup y.1=some .cell∨a.names.lookup y.1=some .free)∧((ks.zip N).all λp=>!p.1||decide (b.names.lookup p.2=some .free))=true)
  ⟨λzz=>by obtain ⟨a,b,c,d,e,f,g⟩:=zz;exact ⟨a,b,c,d,e,f,g⟩,λzz=>by obtain ⟨a,b,c,d,e,f,g⟩:=zz;exact ⟨a,b,c,d,e,f,g⟩⟩
theorem nW {PR:bO} (c:Cf X EE g k B sc V W) (s:Cs X sc N) (S:bw X.env.scope X.N scope xs ks) (hx:fZ (lN X scope cl xs C pins s0 H0 fp E) PR) :
  Cf (lN X scope cl xs C pins s0 H0 fp E) PR g k B scope (De scope xs N) []:=by
 refine ⟨c.eq,λi x h=>?_,λx h=>F7 (i7 h),λi x h=>by simp at h,c.bl,hx,c.hr,c.hc⟩
 unfold De at h
 by_cases q:i<xs.length
 ·rw [Yd (by simpa using q),Yq] at h
  cases e:xs[i]? with
  | none=>rw [e] at h;cases h
  | some z=>
   rw [e] at h;cases h
   exact ⟨by show (xs++X.N)[i]?=some x;rw [Yd q,e],K8 S (Yy e)⟩
 ·rw [Yp (by simpa using q),Yh] at h
  obtain ⟨h1,h2⟩:=map_some h
  exact ⟨by show (xs++X.N)[i]?=some x;rw [Yp (by nofun),s.hN,h1],F6 S (i7 h2)⟩
noncomputable def Iz (g:rj) (k:Nat) (B:List Str) (scope:Scope) (xs N:List Str) (ifs:List Expr) (elt:Expr) (tt:DS→M Bool) (te:DS→M D):Prop:=
 ∀ (X:Cx) (EE:bO),Cf X EE g k B scope (De scope xs N) []→(match ifs with
  | []=>tt=dW
  | [c]=>QT X EE c tt
  | _=>False)∧QE X EE elt te
theorem RT (h:∀ (X:Cx) (EE:bO),Cf X EE g k B scope (De scope xs N) []→QE X EE elt te):Iz g k B scope xs N [] elt dW te:=λX EE c=>⟨rfl,h X EE c⟩
theorem RU (h:∀ (X:Cx) (EE:bO),Cf X EE g k B scope (De scope xs N) []→QT X EE a tt∧QE X EE elt te):Iz g k B scope xs N [a] elt tt te:=h
theorem jV (c:Cf X EE g k B sc V W) (s:Cs X sc N) (S:bw X.env.scope X.N scope xs ks) (h:Iz g k B scope xs N ifs elt tt te):jP X scope xs ifs elt tt te:=by
 match ifs,h with
 | [],h=>
  have e:tt=dW:=(h _ _ (nW (cl:=[]) (C:=0) (pins:=[]) (s0:=X.s₀) (H0:=X.H₀) (fp:=[]) (E:=λ_ _=>True) (PR:=EE) c s S (λ_ _ _ _ _ _ _ _ _ _ _=>trivial))).1
  subst e
  exact zQ λcl C pins s0 H0 fp E1 VI hx=>(h _ _ (nW c s S hx)).2
 | [_],h=>exact zR λcl C pins s0 H0 fp E1 VI hx=>h _ _ (nW c s S hx)
 | _::_::_,h=>exact ((h _ _ (nW (cl:=[]) (C:=0) (pins:=[]) (s0:=X.s₀) (H0:=X.H₀) (fp:=[]) (E:=λ_ _=>True) (PR:=EE) c s S (λ_ _ _ _ _ _ _ _ _ _ _=>trivial))).1).elim
theorem Cs.S (s:Cs X sc N) (h:bw sc N scope xs ks):bw X.env.scope X.N scope xs ks:=by rw [s.hs,s.hN];exact h
theorem vp (c:Cf X EE g k B sc V W) (s:Cs X sc N) (t:Iw tg xs gO) (S:bw sc N scope xs ks) (h:ir iter=true) (ha:QE X EE iter ma) (hb:Iz g k B scope xs N ifs elt tt te):QE X EE (.ListComp elt [⟨tg,iter,ifs,0⟩] scope pos) (jD gO ks ma tt te):=by
 obtain ⟨_,o1,o2⟩:=pC c.hc t (s.S S)
 exact F5 c.hx s.hf (s.S S) o1 o2 c.hc ha (jV c s (s.S S) hb) h
theorem rm (c:Cf X EE g k B sc V W) (s:Cs X sc N) (t:Iw tg xs gO) (S:bw sc N scope xs ks) (h:ir iter=true) (ha:QI X EE tg iter mi) (hb:Iz g k B scope xs N ifs elt tt te):QE X EE (.ListComp elt [⟨tg,iter,ifs,0⟩] scope pos) (fk gO ks mi tt te):=by
 obtain ⟨_,o1,o2⟩:=pC c.hc t (s.S S)
 exact Ck c.hx s.hf (s.S S) o1 o2 c.hc ha (jV c s (s.S S) hb) h
theorem pF (c:Cf X EE g k B sc V W) (s:Cs X sc N) (t:Iw tg xs gO) (S:bw sc N scope xs ks) (h:(B.contains "range"&&(mQ sc "range" .globalImplicit&&br a))=true) (ha:QA X EE [a] m) (hb:Iz g k B scope xs N ifs elt tt te):QE X EE (.ListComp elt [⟨tg,.Call (.Name "range" p) [a] [] px,ifs,0⟩] scope pos) (dh eF gO ks m tt te):=by
 obtain ⟨_,o1,o2⟩:=pC c.hc t (s.S S)
 exact zW c.hx s.hf (s.S S) o1 o2 c.hc (c.bl _ (bV h).1) (c.gl _ (bV (bV h).2).1) ha (jV c s (s.S S) hb) (bV (bV h).2).2
noncomputable def RV (W:List (Option Str)) (sc scope:Scope) (i:Nat) (y:Str) (py pos:Pos):Bool:=(decide (W[i]?=some (some y))&&mQ sc y .local)&&((py.line==pos.line)&&!(scope.names.any λx=>x.1==y&&(x.2==.local||x.2==.cell)))
theorem Cf.sw {l:Nat} (c:Cf X EE g k B sc V W) (s:Cs X sc N) (h:RV W sc scope i y py pos=true):X.env.scope.names.lookup y=some .local∧swapsWith (.ListComp elt gens scope pos) (some (.Name y py)) l X.env=pure true∧X.N[i]?=some y:=by
 obtain ⟨h1,h2⟩:=bV h
 have hl:X.env.scope.names.lookup y=some .local:=by rw [s.hs];exact i7 (bV h1).2
 exact ⟨hl,zY s.bk hl (bV h2).1 (by simpa using (bV h2).2),(c.Er (bV h1).1).1⟩
theorem rq (c:Cf X EE g k B sc V W) (s:Cs X sc N) (t:Iw tg xs gO) (S:bw sc N scope xs ks) (h:(RV W sc scope i y py pos&&ir iter)=true) (ha:QI X EE tg iter mi) (hb:Iz g k B scope xs N ifs elt tt te):QS X EE (.Assign [.Name y py] (.ListComp elt [⟨tg,iter,ifs,0⟩] scope pos) spos) (aF i (fk gO ks mi tt te)):=by
 obtain ⟨_,o1,o2⟩:=pC c.hc t (s.S S)
 obtain ⟨w1,w2,w3⟩:=c.sw s (bV h).1
 exact Cm c.hx s.hf (s.S S) o1 o2 c.hc s.nd w1 ha (jV c s (s.S S) hb) w2 w3 (bV h).2
theorem pG (c:Cf X EE g k B sc V W) (s:Cs X sc N) (t:Iw tg xs gO) (S:bw sc N scope xs ks) (h:(RV W sc scope i y py pos&&(B.contains "range"&&(mQ sc "range" .globalImplicit&&br a)))=true) (ha:QA X EE [a] m) (hb:Iz g k B scope xs N ifs elt tt te):QS X EE (.Assign [.Name y py] (.ListComp elt [⟨tg,.Call (.Name "range" p) [a] [] px,ifs,0⟩] scope pos) spos) (aF i (dh eF gO ks m tt te)):=by
 obtain ⟨_,o1,o2⟩:=pC c.hc t (s.S S)
 obtain ⟨w1,w2,w3⟩:=c.sw s (bV h).1
 exact zX c.hx s.hf (s.S S) o1 o2 c.hc s.nd w1 (c.bl _ (bV (bV h).2).1) (c.gl _ (bV (bV (bV h).2).2).1) ha (jV c s (s.S S) hb) w2 w3 (bV (bV (bV h).2).2).2
end
theorem qg (h:∀ a0,p [a0]):∀ us:List XR,us.length=1→p us:=λus e=>by
 rcases us with _ | ⟨a0,_ | ⟨z,zs⟩⟩<;>first | exact h a0 | (cases e;done)
theorem qh (h:∀ a0 a1,p [a0,a1]):∀ us:List XR,us.length=2→p us:=λus e=>by
 rcases us with _ | ⟨a0,_ | ⟨a1,_ | ⟨z,zs⟩⟩⟩<;>first | exact h a0 a1 | (cases e;done)
theorem sS (h:∀ a0 a1 a2,p [a0,a1,a2]):∀ us:List XR,us.length=3→p us:=λus e=>by
 rcases us with _ | ⟨a0,_ | ⟨a1,_ | ⟨a2,_ | ⟨z,zs⟩⟩⟩⟩<;>first | exact h a0 a1 a2 | (cases e;done)
theorem qk (h:∀ a0 a1 a2 a3,p [a0,a1,a2,a3]):∀ us:List XR,us.length=4→p us:=λus e=>by
 rcases us with _ | ⟨a0,_ | ⟨a1,_ | ⟨a2,_ | ⟨a3,_ | ⟨z,zs⟩⟩⟩⟩⟩<;>first | exact h a0 a1 a2 a3 | (cases e;done)
theorem sU (h:∀ a0 a1 a2 a3 a4,p [a0,a1,a2,a3,a4]):∀ us:List XR,us.length=5→p us:=λus e=>by
 rcases us with _ | ⟨a0,_ | ⟨a1,_ | ⟨a2,_ | ⟨a3,_ | ⟨a4,_ | ⟨z,zs⟩⟩⟩⟩⟩⟩<;>first | exact h a0 a1 a2 a3 a4 | (cases e;done)
noncomputable abbrev Di:=Str×Nat×List Str×Stmt
noncomputable def qp (K:XU) (mg:Str→Option XR) (x:Str) (n:Nat) (N:List Str) (st:Stmt):Prop:=∃ f fd,r6 K x x st f fd∧mg x=some (.ref f)
noncomputable def lU (K:XU) (mg:Str→Option XR):List Di→Prop
 | []=>True
 | (x,n,N,st)::r=>qp K mg x n N st∧lU K mg r
section
variable {K:XU} {mg:Str→Option XR} {h:Heap} {x:Str} {n:Nat} {N:List Str} {st:Stmt}
theorem lU.at:∀ {l:List Di} (T:lU K mg l) (i:Nat) {x:Str} {n:Nat} {N:List Str} {st:Stmt},l[i]?=some (x,n,N,st)→qp K mg x n N st
 | d::l,T,0,_,_,_,_,h=>by cases h;exact T.1
 | d::l,T,i+1,_,_,_,_,h=>lU.at T.2 i (by simpa using h)
theorem lU.cons {l:List Di} (X:K.In h) (G:h.Ns mainGlobals mg) {f:Addr} {od an:Option Addr} {sl:Array (Option XR)} {oc kV dc pm cd ct:XR} (a:ZA K mainGlobals x=some (some (.ref f)))
  (l0:K.lookup f=some ⟨oc,od,.func (Zj x x (gT st) (bS st) (au st) .none kV dc pm an cd ct),sl⟩) (c:aag K cd x=true) (k:YE K (.ref f)=true) (r:lU K mg l):lU K mg ((x,n,N,st)::l):=⟨⟨f,_,Bq l0 c k,acF X G a⟩,r⟩
noncomputable def iH (mg:Str→Option XR):List Str→Prop
 | []=>True
 | x::r=>mg x=none∧iH mg r
theorem iH.cons {l:List Str} (X:K.In h) (G:h.Ns mainGlobals mg) (a:ZA K mainGlobals x=some none) (r:iH mg l):iH mg (x::l):=⟨PySem.W.mg_none_of X G a,r⟩
theorem iH.at:∀ {l:List Str},iH mg l→∀ b,l.contains b=true→mg b=none
 | x::l,T,b,h=>by
  rw [List.contains_cons] at h
  cases e:b==x with
  | true=>rw [eq_of_beq e];exact T.1
  | false=>rw [e] at h;exact iH.at T.2 b (by simpa using h)
end
section
variable {g:rj} {k n nn:Nat} {x:Str} {N B ps:List Str} {st:Stmt} {ms:MS} {me:DS→M D} {m:List D→M D} {c:gU}
noncomputable def pH (st:Stmt) (x:Str) (ps:List Str):Prop:=∀ (kV doc pm:XR) (an:Option Addr) (cdv ct:XR) (us:List XR),us.length=ps.length→bindArgs (Zj x x (gT st) (bS st) (au st) .none kV doc pm an cdv ct) ⟨us,[]⟩=pure (ps.zip us)
theorem Dj (h:(qe sc N)[i]?=some (some x)):N[i]?=some x∧A3 sc x:=by
 obtain ⟨h1,h2⟩:=map_some (f:=λx=>mQ sc x .local||mQ sc x .cell||mQ sc x .free) h
 refine ⟨h1,?_⟩
 simp only [abe] at h2
 rcases h2 with (h2 | h2) | h2
 ·exact .inl (i7 h2)
 ·exact .inr (.inl (i7 h2))
 ·exact .inr (.inr (i7 h2))
theorem pI {f:Addr} {E:XK} (hB:iH mg B)
  (hr:cK k (A.deeper (Zq x sc s.heap.objs.size f cdv))) (hx:fZ (kL (lM P w) P w K mg base N x sc f cdv A outer s H E) EE):Cf (kL (lM P w) P w K mg base N x sc f cdv A outer s H E) EE ⟨P,w,K,mg,base⟩ k B sc (qe sc N) (qf true sc N):=by
 refine ⟨⟨rfl,rfl,rfl,rfl,rfl⟩,λi x h=>Dj h,λx h=>i7 h,λi x h=>?_,hB.at,hx,hr,rfl⟩
 obtain ⟨h1,h2⟩:=map_some (f:=λx=>mQ sc x .local||(true&&mQ sc x .cell)) h
 refine ⟨h1,?_,.inl rfl⟩
 simp only [abe,acB] at h2
 exact h2.imp i7 i7
theorem LK {cs:List Addr} {E:XK} (hB:iH mg B)
  (hr:cK k (A.deeper (vf c cs s.heap.objs.size a c'))) (hx:fZ (Mi (lM P w) P w K mg base N c cs a c' A outer s H E) EE):Cf (Mi (lM P w) P w K mg base N c cs a c' A outer s H E) EE ⟨P,w,K,mg,base⟩ k B c.scope (qe c.scope N) (qf false c.scope N):=by
 refine ⟨⟨rfl,rfl,rfl,rfl,rfl⟩,λi x h=>Dj h,λx h=>i7 h,λi x h=>?_,hB.at,hx,hr,rfl⟩
 obtain ⟨h1,h2⟩:=map_some (f:=λx=>mQ c.scope x .local||(false&&mQ c.scope x .cell)) h
 have h3:mQ c.scope x .local=true:=by simpa using h2
 exact ⟨h1,.inl (i7 h3),.inr (i7 h3)⟩
theorem rA (h:sc.kind=.function):((if sc.kind.isAnnotationScope then acQ else sc.kind)==acQ)=true:=by rw [h];rfl
theorem lV (Dd:qp g.K g.mg x n N st) (hB:iH g.mg B) (S:fV N (N.take n) (au st)) (hps:(N.take n).length=n) (hN:N.length=nn) (hb:pH st x (N.take n))
  (body:∀ (X:Cx) (EE:bO),Cf X EE g k B (au st) (qe (au st) N) (qf true (au st) N)→Cs X (au st) N→pY X EE (bS st) ms):iy g x (k+1) n (λds=>bQ nn ms ds):=by
 obtain ⟨f,fd,F,hm⟩:=Dd
 refine ⟨f,fd,_,QZ (k:=k) (ms:=ms) F S hps hN (λ_=>rfl) ?_,hm,F.kp,F.binds hb⟩
 intro X EE cdv A outer s H E hX hr hx Dk
 subst hX
 exact body _ EE (pI hB hr hx) ⟨S.nd,⟨_,outer,s.heap.objs.size,rfl,rfl,rfl⟩,Dk,rfl,rfl,rA S.kind⟩
theorem iy.pure (h:iy g x k n m):iy g x k n (cB m):=by
 obtain ⟨f,fd,ps,h1,h2⟩:=h
 exact ⟨f,fd,ps,h1.imp sG,h2⟩
theorem qp.has (h:qp g.K g.mg x n N st):Oz g x:=by
 obtain ⟨f,_,_,h⟩:=h
 exact ⟨f,h⟩
theorem Am {f:Addr} (F:r6 K x x st f fd) (hb:pH st x [y]) (s:XX) (u:XR):BindsTo s fd ⟨[u],[]⟩ [(y,u)]:=by
 obtain ⟨oc,od,kV,doc,pm,an,cdv,ct,osl,rfl,lk,hcd⟩:=F.ex
 exact .of_eq (hb kV doc pm an cdv ct [u] rfl)
theorem GS {bd:Expr} (Dd:qp g.K g.mg x n' N' st) (hB:iH g.mg B) (hk:ic x (bS st)=some c) (S:o9 N (N.take n) c.names c.scope) (hps:(N.take n).length=n) (hN:N.length=nn)
  (hb:∀ (doc pm ctv:XR) (c':Addr) (cs:List Addr) (us:List XR),us.length=(N.take n).length→bindArgs (uw c cs doc pm c' ctv) ⟨us,[]⟩=pure ((N.take n).zip us)) (hbd:c.body=.expr bd)
  (body:∀ (X:Cx) (EE:bO),Cf X EE g k B c.scope (qe c.scope N) (qf false c.scope N)→Cs X c.scope N→QE X EE bd me):GP g x (k+1) n (λds G=>i6 (Ac nn me ds G)):=by
 obtain ⟨f,fd,F,hm⟩:=Dd
 refine ⟨c,xx F hm hk,GB (k:=k) (me:=me) S hps hN (λ_ _=>rfl) (λa b c d e f _=>hb a b c d e f) hbd ?_⟩
 intro X EE cs a c' A outer s H E hX hr hx Dk
 subst hX
 exact body _ EE (LK hB hr hx) ⟨S.nd,⟨_,outer,s.heap.objs.size,rfl,rfl,rfl⟩,Dk,rfl,rfl,rA S.kind⟩
noncomputable def OC (g:rj) (y:Str) (c P:Addr):Prop:=Zz g.K y=some (c,P)∧aak g.base c P∧g.base.BuiltinsAt g.mg P
theorem get_map {β:Type} {f:α→Option β} {l:List α} {r:List β} (h:l.map f=r.map some) {i:Nat} {a:α} (e:l[i]?=some a):∃ b,r[i]?=some b∧f a=some b:=by
 have q:(l.map f)[i]?=(r.map some)[i]?:=by rw [h]
 rw [Yq,Yq,e] at q
 cases z:r[i]? with
 | none=>rw [z] at q;cases q
 | some b=>rw [z] at q;exact ⟨b,rfl,by simpa using q⟩
structure Hl (X:Cx) (EE:bO) (k:gU) (y:Str) (js:List Nat):Prop where
 tx:∃ cs c P,yL X k y js cs c P
 hx:fZ (Cx.held X k.names) EE
 hq:X.env.qual=y++".<locals>."
theorem GU {cs:Addr→List Addr} {P:Addr} (Dd:qp g.K g.mg x n N st) (hB:iH g.mg B) (ht:OC g x c0 P) (hk:ic x (bS st)=some c) (S:fV N (N.take n) (au st)) (hps:(N.take n).length=n) (hN:N.length=nn) (hb:pH st x (N.take n))
  (hcl:∀ (L f:Addr) (v:XR),closureFor c.scope (Zq x (au st) L f v)=pure (c.names.zip (cs L))) (hnd:∀ L,(cs L).Nodup) (hcs:∀ L,(c.names.map λz=>(cellsFrom (L+1) (au st).names []).lookup z)=(cs L).map some) (Om:(js.map λj=>N[j]?)=c.names.map some) (hcell:∀ z∈c.names,(au st).names.lookup z=some .cell)
  (body:∀ (X:Cx) (EE:bO),Cf X EE g k B (au st) (qe (au st) N) (qf true (au st) N)→Cs X (au st) N→Hl X EE c x js→CM X EE (bS st) ms):iy g x (k+1) n (cB λds G=>i6 (bQ nn ms ds G)):=by
 obtain ⟨f,fd,F,hm⟩:=Dd
 obtain ⟨t1,t2,t3⟩:=ht
 refine ⟨f,fd,_,gA.imp (RN (k:=k) (ms:=ms) F S hps hN (λ_ _=>rfl) t1 hm ?_) sG,hm,F.kp,F.binds hb⟩
 intro X EE A outer s H E hX hr hx hxs Dk
 subst hX
 have hl:∀ L,(cs L).length=c.names.length:=λL=>by have:=congrArg abC (hcs L);simpa using this.symm
 exact body _ EE (pI hB hr hx) ⟨S.nd,⟨_,outer,s.heap.objs.size,rfl,rfl,rfl⟩,Dk,rfl,rfl,rA S.kind⟩
  ⟨⟨cs s.heap.objs.size,c0,P,xx F hm hk,rfl,t1,t2,t3,hcl _ _ _,hl _,hnd _,λl z e=>get_map (hcs _) e,by simpa using congrArg abC Om,λl j z e1 e2=>by
   obtain ⟨b,q1,q2⟩:=get_map Om e1
   rw [e2] at q1;cases q1;exact q2,hcell,λ_=>rfl⟩,hxs _,rfl⟩
end
section
variable {X:Cx} {EE:bO} {g:rj} {k k' n i:Nat} {B N:List Str} {sc:Scope} {V W:List (Option Str)} {x y:Str} {pos p:Pos} {e bd:Expr} {es:List Expr} {m:DS→M (List D)} {mf:List D→M D} {c:gU} {js:List Nat}
theorem Dl (h:Hl X EE c y js) (he:e=.Lambda c.params bd c.scope c.pos) (hbd:c.body=.expr bd) (hnm:c.name="<lambda>") (hdef:defaultsOf c.params X.env=([],[])) (hq:y++".<locals>."++"<lambda>"=c.qual):GD X c.names EE e (Ag y js):=by
 obtain ⟨cs,c0,P,T⟩:=h.tx
 exact GF he hbd hnm T hdef (by rw [h.hq];exact hq)
theorem Dm {m:DS→M D} (h:Hl X EE c y js) (he:GD X c.names EE e m):CM X EE [.Return (some e) pos] (bJ m):=GO he
theorem An (f:Cf X EE g k B sc V W) (l:Hl X EE c y js) (C:iy g x k' n mf) (h:(decide (k'≤k)&&(mQ sc x .globalImplicit&&(AY x&&ao (e::es))))=true) (ha:Ot X c.names EE (e::es) m):GD X c.names EE (.Call (.Name x p) (e::es) [] pos) (aA n mf m):=by
 obtain ⟨h1,h⟩:=bV h
 obtain ⟨h2,h⟩:=bV h
 obtain ⟨h3,h4⟩:=bV h
 obtain ⟨_,fd,ps,q1,q2,q3,q4,q5⟩:=C.at f (of_decide_eq_true h1)
 exact CS q1 q2 q3 q4 q5 (zL l.hx) (f.gl x h2) (nq h3) ha h4
end
noncomputable def lE (o:Obj):Bool:=match o.cls,o.data with
 | .none,.fields _=>false
 | _,_=>true
noncomputable abbrev fK (K:Params→XU) (P:Params):XU:=(K P).filter λp=>lE p.2
section
variable {K:XU}
theorem gD {a:Addr} {o:Obj} (ht:lE o=true):∀ {K:XU},K.lookup a=some o→(K.filter λp=>lE p.2).lookup a=some o
 | (b,u)::K,h=>by
  rw [Yz] at h
  by_cases e:a=b
  ·subst e
   rw [show (a==a)=true by simp] at h
   cases h
   rw [aaY (by exact ht),Yz,show (a==a)=true by simp]
  ·have e':(a==b)=false:=beq_eq_false_iff_ne.mpr e
   rw [e'] at h
   have ih:=gD ht h
   by_cases q:lE u=true
   ·rw [aaY (by exact q),Yz,e'];exact ih
   ·rw [abR (by exact q)];exact ih
theorem pJ:lE ⟨oc,od,.func fd,sl⟩=true:=by cases oc<;>rfl
theorem Dn {es:Array DictEntry}:lE ⟨oc,od,.dict es ep,sl⟩=true:=by cases oc<;>rfl
theorem mR {ns:Addr} {r:Option XR} (h:ZA K ns x=some r):ZA (K.filter λp=>lE p.2) ns x=some r:=by
 unfold ZA at h ⊢
 cases e:K.lookup ns with
 | none=>rw [e] at h;cases h
 | some o=>
  rw [e] at h
  obtain ⟨oc,od,dt,sl⟩:=o
  cases dt with
  | dict es ep=>rw [gD Dn e];exact h
  | _=>cases h
theorem Dp:aa5 (K.filter λp=>lE p.2)=true:=by
 unfold aa5
 rw [aaG]
 intro p hp
 exact (abc.mp hp).2
variable {mg:Str→Option XR} {h:Heap} {x:Str} {n:Nat} {N:List Str} {st:Stmt}
theorem lU.Dq {l:List Di} (X:aaO (K.filter λp=>lE p.2) h) (G:h.Ns mainGlobals mg) {f cA:Addr} {od an o2:Option Addr} {sl s2:Array (Option XR)} {oc kV dc pm ct v0:XR} {T:String} {tk:Tok} {vs:Array XR} {rest:List XR} (a:ZA K mainGlobals x=some (some (.ref f)))
  (l0:K.lookup f=some ⟨oc,od,.func (Zj x x (gT st) (bS st) (au st) .none kV dc pm an (.ref cA) ct),sl⟩) (lc:K.lookup cA=some ⟨.type T,o2,.fields vs,s2⟩) (hv:vs.toList=v0::.str x tk::rest) (r:lU (K.filter λp=>lE p.2) mg l):lU (K.filter λp=>lE p.2) mg ((x,n,N,st)::l):=by
 have l1:=gD pJ l0
 have l2:=gD (show lE ⟨.type T,o2,.fields vs,s2⟩=true from rfl) lc
 refine lU.cons X G (mR a) l1 ?_ ?_ r
 ·unfold aag
  dsimp only
  rw [l2]
  dsimp only
  rw [hv]
  simp
 ·unfold YE
  dsimp only
  rw [l1]
theorem iH.Dq {l:List Str} (X:aaO (K.filter λp=>lE p.2) h) (G:h.Ns mainGlobals mg) (a:ZA K mainGlobals x=some none) (r:iH mg l):iH mg (x::l):=iH.cons X G (mR a) r
theorem Ao {f:Addr} {vs:Array XR} (t1:ZA K mainGlobals x=some (some (.ref f))) (t2:K.lookup f=some ⟨oc,od,.func fd,sl⟩) (t3:fd.code=.ref c) (t4:K.lookup c=some ⟨.type T,o2,.fields vs,o4⟩) (t5:vs[11]?=some (.ref Pt)) :
  Zz (K.filter λp=>lE p.2) x=some (c,Pt):=CV (mR t1) (gD pJ t2) t3 (gD rfl t4) t5
end
theorem Dr {a:Addr} {o:Obj}:∀ {K:XU},K.lookup a=some o→(a,o)∈K
 | (b,u)::K,h=>by
  rw [Yz] at h
  by_cases e:a=b
  ·subst e
   rw [show (a==a)=true by simp] at h
   cases h;simp
  ·rw [show (a==b)=false from beq_eq_false_iff_ne.mpr e] at h
   exact YA _ (Dr h)
theorem Dt {K:Params→XU} {t:Nat} {r:PySem.W.RowW} {d:DefRec} (has:∀ P,as=(K P).map (·.1))
  (h:acE q loose XP (λw h=>aaO (fK K w.params) h) r d kwd run):PySem.W.WalkX q loose XP (PySem.W.X.obsZ as) (PySem.W.X.valZ K n t) r d kwd run:=by
 intro w s₀ s₁ mg mb G e a o pm cd doc dV kV h1 h2 h3 h4 h5 h6 args vals as' L p1 p2 p3 p4 p5
 refine h w s₀ s₁ mg mb G (λb u hb=>?_) a o pm cd doc dV kV h1 h2 h3 h4 h5 h6 args vals as' p1 p2 p3 p4 p5
 have hm:=(abc.mp (Dr hb)).1
 have e1:as.map s₀.heap.get?=(K w.params).map λp=>some p.2:=congrArg (·.1) e
 rw [has w.params,Zl] at e1
 exact L.keeps b u (List.map_inj_left.mp e1 (b,u) hm)
noncomputable def nt (f:Str) (v:D):List (Str×D)→List (Str×D)
 | []=>[(f,v)]
 | (g,x)::r=>if g=f then (g,v)::r else (g,x)::nt f v r
section
variable {K:XU} {mg:Str→Option XR} {H:Hp} {ρ:List Addr} {G:DH}
theorem sV (f:Str):∀ {fs:List (Str×D)} {xs:List V},aq K mg ρ H (fs.map (·.2)) xs →
  (fs.lookup f=none∧((fs.map (·.1)).zip xs).lookup f=none)∨∃ d v,fs.lookup f=some d∧((fs.map (·.1)).zip xs).lookup f=some v∧Rep K mg ρ H d v
 | [],xs,r=>.inl ⟨rfl,rfl⟩
 | (g,d)::q,xs,r=>by
  rw [X8] at r
  unfold aq at r
  obtain ⟨v,r',rfl,h1,h2⟩:=r
  rw [X8,Zv,Yz,Yz]
  by_cases e:f=g
  ·subst e
   have z:(f==f)=true:=by simp
   rw [z]
   exact .inr ⟨d,v,rfl,rfl,h1⟩
  ·have z:(f==g)=false:=beq_eq_false_iff_ne.mpr e
   rw [z]
   exact sV f h2
theorem vq (f:Str) {d:D} {v:V} (rv:Rep K mg ρ H d v):∀ {fs:List (Str×D)} {xs:List V},aq K mg ρ H (fs.map (·.2)) xs →
  ∃ ys,jd f v ((fs.map (·.1)).zip xs)=((nt f d fs).map (·.1)).zip ys∧aq K mg ρ H ((nt f d fs).map (·.2)) ys
 | [],xs,r=>⟨[v],by simp [jd,nt],by simpa [nt] using aq.cons rv .nil⟩
 | (g,x)::q,xs,r=>by
  rw [X8] at r
  unfold aq at r
  obtain ⟨u,r',rfl,h1,h2⟩:=r
  rw [X8,Zv,jd,nt]
  by_cases e:g=f
  ·rw [if_pos e,if_pos e]
   exact ⟨v::r',rfl,.cons rv h2⟩
  ·rw [if_neg e,if_neg e]
   obtain ⟨ys,e1,e2⟩:=vq f rv h2
   exact ⟨u::ys,by rw [e1];rfl,.cons h1 e2⟩
theorem sW {p:Addr} {ob:HO} (hp:H p=some (.ins C dx u)) (ρ:List Addr):bX K H (upd H p ob) ρ ρ:=by
 refine ⟨λa zs h=>?_,λa q w h=>by rw [aC (gz h hp (by intro z;cases z))];exact h,⟨[],by simp⟩,λa φ h=>by rw [aC (gz h hp (by intro z;cases z))];exact h⟩
 ·rw [pU] at h ⊢;rw [aC (gz h hp (by intro z;cases z))];exact h
theorem fy.RW {c:Str} {es:List (Str×D)} (h:fy K mg H ρ G) (hn:ρ[n]?=some a) (ha:H a=some (.ins C dx u)) (hc:mg c=some (.ref C)) (r:aq K mg ρ H (es.map (·.2)) ys) :
  fy K mg (upd H a (.ins C dx ((es.map (·.1)).zip ys))) ρ (G.set n (.ins c es)):=by
 have f:bX K H (upd H a (.ins C dx ((es.map (·.1)).zip ys))) ρ ρ:=sW ha ρ
 refine ⟨by simp [h.hl],h.nd,λm ob e=>?_⟩
 by_cases hm:n=m
 ·subst hm
  rw [Y9,if_pos rfl] at e
  split at e
  ·cases e
   exact ⟨a,hn,C,dx,ys,hc,aX,r.mono f⟩
  ·cases e
 ·rw [YD hm] at e
  obtain ⟨b,e1,r'⟩:=h.ob m ob e
  have hb:b≠a:=by
   rintro rfl
   obtain ⟨h1,yk⟩:=XY.mp hn
   obtain ⟨h2,yl⟩:=XY.mp e1
   exact hm ((Zt h.nd).mp (yk.trans yl.symm))
  exact ⟨b,e1,r'.mono f λu q=>by rw [aC hb];exact q⟩
theorem fy.OD {p:Addr} {c:Str} (h:fy K mg H ρ G) (hp:H p=none) (hc:mg c=some (.ref C)):fy K mg (upd H p (.ins C dx [])) (ρ++[p]) (G++[.ins c []]):=by
 have f:bX K H (upd H p (.ins C dx [])) ρ (ρ++[p]):=(cN hp ρ).trans (eB ρ p)
 refine ⟨by simp [h.hl],?_,λn ob e=>?_⟩
 ·rw [aax]
  refine ⟨h.nd,by simp,λa ha b hb=>?_⟩
  have e:b=p:=by simpa using hb
  subst e
  rintro rfl
  exact h.not_mem hp ha
 ·by_cases hn:n<G.length
  ·rw [Yd hn] at e
   obtain ⟨a,e1,r'⟩:=h.ob n ob e
   exact ⟨a,f.get e1,r'.mono f λu q=>by rw [aC (cj q hp)];exact q⟩
  ·have hl:n<(G++[DO.ins c []]).length:=(XY.mp e).1
   have hn':n=G.length:=by simp at hl;nofun
   subst hn'
   rw [aE] at e
   cases e
   exact ⟨p,by rw [← h.hl,aE],C,dx,[],hc,aX,.nil⟩
end
noncomputable def kG (G:DH) (c:Str):D→Option (List (Str×D))
 | .obj n=>match G[n]? with
  | some (.ins b fs)=>if b=c then some fs else none
  | _=>none
 | _=>none
theorem mS {c:Str} {fs:List (Str×D)} {x:V} (hc:mg c=some (.ref C)) (h:fy K mg H ρ G) (r:Rep K mg ρ H d x) (e:kG G c d=some fs) :
  ∃ n a dx xs,d=.obj n∧x=.ref a∧ρ[n]?=some a∧H a=some (.ins C dx ((fs.map (·.1)).zip xs))∧aq K mg ρ H (fs.map (·.2)) xs:=by
 cases d with
 | obj n=>
  unfold Rep at r
  obtain ⟨a,rfl,ea⟩:=r
  dsimp only [kG] at e
  cases g:G[n]? with
  | none=>rw [g] at e;cases e
  | some ob=>
   cases ob with
   | ins b us=>
    rw [g] at e
    dsimp only at e
    by_cases hb:b=c
    ·subst hb
     rw [if_pos rfl] at e;cases e
     obtain ⟨a',e1,C',dx,xs,hC,e2,rs⟩:=h.ob n _ g
     rw [ea] at e1;cases e1
     rw [hc] at hC;cases hC
     exact ⟨n,a,dx,xs,rfl,rfl,ea,e2,rs⟩
    ·rw [if_neg hb] at e;cases e
   | _=>rw [g] at e;cases e
 | _=>cases e
section
variable {X:Cx} {EE:bO} {o a:Expr} {f c:Str} {pos pos':Pos} {mo mv:DS→M D} {C:Addr}
noncomputable def vt (c f:Str) (mo:DS→M D):DS→M D:=λτ=>(mo τ).bind λd G=>match kG G c d with
 | some fs=>match fs.lookup f with
  | some v=>.ok v G
  | none=>.stuck
 | none=>.stuck
theorem LM (hc:X.mg c=some (.ref C)) (hC:t6 X.K C) (hn:fH X.K C f) (ho:QE X EE o mo) (hb:mJ o=true:=by rfl):QE X EE (.Attribute o f pos) (vt c f mo):=by
 refine PE.mono (JM ho (gW hb _ _)) λσ H Q zz=>?_
 obtain ⟨τ,ρ,G,ab,ok⟩:=zz
 refine ⟨τ,ρ,G,ab,?_⟩
 dsimp only [vt,M.bind] at ok
 cases e1:mo τ G with
 | stuck=>rw [e1] at ok;exact ok
 | bB c G'=>rw [e1] at ok;exact ok
 | ok d G1=>
  rw [e1] at ok
  dsimp only at ok
  intro vd H1 ρ1 f1 fW r1
  cases q:kG G1 c d with
  | none=>rw [q] at ok;exact ok.elim
  | some fs=>
   rw [q] at ok
   dsimp only at ok
   obtain ⟨n,a,dx,xs,rfl,rfl,ea,eH,rs⟩:=mS hc fW.hp r1 q
   rcases sV f rs with ⟨z1,z2⟩ | ⟨dv,v,z1,z2,z3⟩
   ·rw [z1] at ok;exact ok.elim
   ·rw [z1] at ok
    exact ⟨a,C,dx,_,v,rfl,eH,hC,hn,z2,ok v H1 ρ1 f1 fW z3⟩
noncomputable def yO (c f:Str) (v d:D):M D:=λG=>match d,kG G c d with
 | .obj n,some fs=>if fs.length<1000 then .ok .cz (G.set n (.ins c (nt f v fs))) else .stuck
 | _,_=>.stuck
noncomputable def jW (c f:Str) (mv mo:DS→M D):MS:=λτ=>bE ((mv τ).bind λv=>(mo τ).bind λd=>yO c f v d) (λ_ G=>.nx τ G) λc G=>.xn c τ G
theorem LN (hc:X.mg c=some (.ref C)) (hC:t6 X.K C) (hn:fH X.K C f) (hv:QE X EE a mv) (ho:QE X EE o mo) (h:kY a=true:=by rfl):QS X EE (.Assign [.Attribute o f pos'] a pos) (jW c f mv mo):=
 PS.mono (JN ho hv (lP h _ _ _)) λDd σ H zz=>by
  obtain ⟨τ,ρ,G,ab,ok⟩:=zz
  refine ⟨τ,ρ,G,ab,?_⟩
  dsimp only [jW,bE,M.bind] at ok
  cases e1:mv τ G with
  | stuck=>rw [e1] at ok;exact ok
  | bB c G'=>rw [e1] at ok;exact λH' ρ' f bq=>ok σ H' ρ' f bq
  | ok v G1=>
   rw [e1] at ok
   intro vv H1 ρ1 f1 fW r1
   refine ⟨τ,ρ1,G1,fW,?_⟩
   dsimp only at ok
   cases e2:mo τ G1 with
   | stuck=>rw [e2] at ok;exact ok
   | bB c G'=>rw [e2] at ok;exact λH' ρ' f bq=>ok σ H' ρ' (f1.trans f) bq
   | ok d G2=>
    rw [e2] at ok
    intro vo H2 ρ2 f2 bG r2
    dsimp only [yO] at ok
    cases q:kG G2 c d with
    | none=>rw [q] at ok;cases d<;>exact ok.elim
    | some fs=>
     obtain ⟨n,b,dx,xs,rfl,rfl,ea,eH,rs⟩:=mS hc bG.hp r2 q
     rw [q] at ok
     dsimp only at ok
     by_cases hl:fs.length<1000
     ·rw [if_pos hl] at ok
      obtain ⟨ys,ey,ry⟩:=vq f (r1.mono f2) rs
      refine ⟨b,C,dx,_,rfl,eH,hC,hn,?_,?_⟩
      ·have:=rs.length
       simp at this
       simp;nofun
      ·rw [ey]
       exact ok σ _ ρ2 ((f1.trans f2).trans (sW eH ρ2)) ⟨bG.st.mono (sW eH ρ2),bG.hp.RW ea eH hc ry⟩
     ·rw [if_neg hl] at ok;exact ok.elim
end
section
variable {X:Cx} {EE:bO} {e o:Expr} {es:List Expr} {x c m:Str} {p pos apos:Pos} {k n:Nat} {f C:Addr} {fd:FuncData} {ps:List Str} {mf:List D→M D} {ma:DS→M (List D)} {mo:DS→M D}
theorem IA:Passes (lM P w) X (λ_ _ _=>False):=λ_ _ _ _ _ _ _ zz=>by obtain ⟨_,_,_,_,_,_,_,_,z⟩:=zz;exact z.elim
noncomputable def nu (c:Str) (n:Nat) (mf:List D→M D) (ma:DS→M (List D)):DS→M D:=λτ=>(ma τ).bind λds G=>if ds.length+1=n then match mf (.obj G.length::ds) (G++[.ins c []]) with
  | .ok .cz G'=>.ok (.obj G.length) G'
  | _=>.stuck
 else .stuck
theorem GV (M:Mk X.K C f) (F:gA X.prog X.w X.K X.mg X.base (lM X.prog X.w) k f fd ps (fU X.K X.mg n mf)) (hr:cK (k+1) X.A) (hm:X.mg x=some (.ref C)) (hb:Binds X.K fd ps []) (hg:Gl X x) (hd:(x==("__debug__":Str))=false) (ha:QA X EE (e::es) ma) (h:ao (e::es)=true:=by rfl) :
  QE X EE (.Call (.Name x p) (e::es) [] pos) (nu x n mf ma):=by
 have h':br e=true∧ao es=true:=by simpa [ao] using h
 refine PE.mono (EW M F hr hg hm hb .nil IA ha hd (aM h'.1 _ _) (aO h'.2)) λσ H Q hq=>?_
 obtain ⟨τ,ρ,G,ab,ok⟩:=jf (k:=λ_ ds G=>if ds.length+1=n then match mf (.obj G.length::ds) (G++[.ins x []]) with
  | .ok .cz G'=>Out.ok (.obj G.length) G'
  | _=>.stuck
 else .stuck) hq
 refine ⟨τ,ρ,G,ab,?_⟩
 cases e1:ma τ G with
 | stuck=>rw [e1] at ok;exact ok
 | bB c G'=>rw [e1] at ok;exact ok
 | ok ds G'=>
  rw [e1] at ok
  intro vs H1 ρ1 f1 fW r1
  obtain ⟨τ2,ρ2,G2,d2,bG,r2,aH⟩:=ok vs H1 ρ1 f1 fW r1
  intro y dx hy hdx hne
  by_cases hn:d2.length+1=n
  ·rw [if_pos hn] at aH
   have PU:upd H1 dx (.own y) y=none:=by rw [aC (Y6 hne)];exact hy
   have g1:bX X.K H1 (upd H1 dx (.own y)) ρ2 ρ2:=cN hdx ρ2
   have g2:bX X.K (upd H1 dx (.own y)) (upd (upd H1 dx (.own y)) y (.ins C dx [])) ρ2 (ρ2++[y]):=(cN PU ρ2).trans (eB ρ2 y)
   have hA:=(bG.hp.new (o:=.own y) hdx).OD (dx:=dx) PU hm
   have hn2:(ρ2++[y])[G2.length]?=some y:=by rw [← bG.hp.hl,aE]
   refine ⟨.obj G2.length::d2,ρ2++[y],G2++[.ins x []],by rw [Ym];exact hn,hA,?_,?_⟩
   ·rw [YW]
    exact .cons (by unfold Rep;exact ⟨y,rfl,hn2⟩) (r2.mono (g1.trans g2))
   ·cases e2:mf (.obj G2.length::d2) (G2++[.ins x []]) with
    | stuck=>rw [e2] at aH;exact aH
    | bB c G'=>rw [e2] at aH;exact aH.elim
    | ok d G3=>
     rw [e2] at aH
     cases d<;>try exact aH.elim
     intro v H' ρ' ff hb' rv
     unfold Rep at rv
     subst rv
     refine ⟨rfl,aH (.ref y) H' ρ' ((g1.trans g2).trans ff) ⟨bG.st.mono ((g1.trans g2).trans ff),hb'⟩ ?_⟩
     unfold Rep
     exact ⟨y,rfl,ff.get hn2⟩
  ·rw [if_neg hn] at aH;exact aH.elim
noncomputable def jX (c m:Str) (n:Nat) (mf:List D→M D) (mo:DS→M D) (ma:DS→M (List D)):DS→M D:=λτ=>(mo τ).bind λd G=>match kG G c d with
 | some fs=>if fs.lookup m=none then ((ma τ).bind λds G=>if ds.length+1=n then i6 (mf (d::ds) G) else .stuck) G else .stuck
 | none=>.stuck
theorem GW {pl:Sem Bool} (hc:X.mg c=some (.ref C)) (hC:t6 X.K C) (hm:Meth X.K C m f) (F:gA X.prog X.w X.K X.mg X.base (lM X.prog X.w) k f fd ps (fU X.K X.mg n mf)) (hr:cK k X.A) (hb:Binds X.K fd ps []) (ho:QE X EE o mo) (ha:QA X EE (e::es) ma)
  (ht:eval (.Call (.Attribute o m apos) (e::es) [] pos) X.env=(do
   let ov ← eval o X.env
   standAt apos.atName
   let (f,first) ← holding [ov] (getMethod ov m pl)
   callWith pos f first (backTo pos (Yj (e::es) X.env)) (backToKw pos (keywordEach [] X.env)))) (h:ao (e::es)=true:=by rfl) :
  QE X EE (.Call (.Attribute o m apos) (e::es) [] pos) (jX c m n mf mo ma):=by
 have h':br e=true∧ao es=true:=by simpa [ao] using h
 refine PE.mono (EV ho hC hm F hr hb .nil IA ha (aM h'.1 _ _) (aO h'.2) ht) λσ H Q zz=>?_
 obtain ⟨τ,ρ,G,ab,ok⟩:=zz
 refine ⟨τ,ρ,G,ab,?_⟩
 dsimp only [jX,M.bind] at ok
 cases e1:mo τ G with
 | stuck=>rw [e1] at ok;exact ok
 | bB c G'=>rw [e1] at ok;exact ok
 | ok d G1=>
  rw [e1] at ok
  dsimp only at ok
  intro vd H1 ρ1 f1 fW r1
  cases q:kG G1 c d with
  | none=>rw [q] at ok;exact ok.elim
  | some fs=>
   rw [q] at ok
   dsimp only at ok
   obtain ⟨nn,a,dx,xs,rfl,rfl,ea,eH,rs⟩:=mS hc fW.hp r1 q
   by_cases hl:fs.lookup m=none
   ·rw [if_pos hl] at ok
    have z:((fs.map (·.1)).zip xs).lookup m=none:=by
     rcases sV m rs with ⟨_,z⟩ | ⟨d,v,z1,_⟩
     ·exact z
     ·rw [hl] at z1;cases z1
    refine ⟨a,dx,_,rfl,eH,z,τ,ρ1,G1,fW,?_⟩
    cases e2:ma τ G1 with
    | stuck=>rw [e2] at ok;exact ok
    | bB c G'=>rw [e2] at ok;exact λH' ρ' f bq=>ok H' ρ' (f1.trans f) bq
    | ok ds G2=>
     rw [e2] at ok
     dsimp only at ok
     intro vs H2 ρ2 f2 bG r2
     by_cases hn:ds.length+1=n
     ·rw [if_pos hn] at ok
      refine ⟨.obj nn::ds,ρ2,G2,by rw [Ym];exact hn,bG.hp,?_,?_⟩
      ·rw [YW];exact .cons (r1.mono f2) r2
      ·cases e3:mf (.obj nn::ds) G2 with
       | stuck=>rw [e3] at ok;exact ok
       | bB c G'=>rw [e3] at ok;exact ok.elim
       | ok d3 G3=>
        rw [e3] at ok
        exact λv H' ρ' ff hb' rv=>ok v H' ρ' ((f1.trans f2).trans ff) ⟨bG.st.mono ff,hb'⟩ rv
     ·rw [if_neg hn] at ok;exact ok.elim
   ·rw [if_neg hl] at ok;exact ok.elim
end
noncomputable def yP:Stmt→List Stmt
 | .ClassDef _ _ _ b _ _ _ _ _ _ _=>b
 | _=>[]
noncomputable def GX (g:rj) (cn:Str) (k n:Nat) (m:List D→M D):Prop:=∃ C f fd ps,gA g.P g.w g.K g.mg g.base (lM g.P g.w) k f fd ps (fU g.K g.mg n m)∧g.mg cn=some (.ref C)∧Mk g.K C f∧Binds g.K fd ps []
noncomputable def GY (g:rj) (cn mm:Str) (k n:Nat) (m:List D→M D):Prop:=∃ C f fd ps,gA g.P g.w g.K g.mg g.base (lM g.P g.w) k f fd ps (fU g.K g.mg n m)∧g.mg cn=some (.ref C)∧t6 g.K C∧Meth g.K C mm f∧Binds g.K fd ps []
noncomputable def sX (g:rj) (cn f:Str):Prop:=∃ C,g.mg cn=some (.ref C)∧t6 g.K C∧fH g.K C f
noncomputable def Aq (K:XU) (mg:Str→Option XR) (cn q:Str) (st:Stmt):Prop:=∃ C f fd,mg cn=some (.ref C)∧Mk K C f∧r6 K "__init__" q st f fd
noncomputable def Ar (K:XU) (mg:Str→Option XR) (cn mm q:Str) (st:Stmt):Prop:=∃ C f fd,mg cn=some (.ref C)∧t6 K C∧Meth K C mm f∧r6 K mm q st f fd
noncomputable def Du (st:Stmt) (x q:Str) (ps:List Str):Prop:=∀ (kV doc pm:XR) (an:Option Addr) (cdv ct:XR) (us:List XR),us.length=ps.length→bindArgs (Zj x q (gT st) (bS st) (au st) .none kV doc pm an cdv ct) ⟨us,[]⟩=pure (ps.zip us)
section
variable {g:rj} {k n nn:Nat} {cn mm q:Str} {N B:List Str} {st:Stmt} {ms:MS}
theorem G6 (I:Aq g.K g.mg cn q st) (hB:iH g.mg B) (S:fV N (N.take n) (au st)) (hps:(N.take n).length=n) (hN:N.length=nn) (hb:Du st "__init__" q (N.take n))
  (body:∀ (X:Cx) (EE:bO),Cf X EE g k B (au st) (qe (au st) N) (qf true (au st) N)→Cs X (au st) N→pY X EE (bS st) ms):GX g cn (k+1) n (λds=>bQ nn ms ds):=by
 obtain ⟨C,f,fd,hC,hM,F⟩:=I
 refine ⟨C,f,fd,_,QZ (k:=k) (ms:=ms) F S hps hN (λ_=>rfl) ?_,hC,hM,F.binds hb⟩
 intro X EE cdv A outer s H E hX hr hx Dk
 subst hX
 exact body _ EE (pI hB hr hx) ⟨S.nd,⟨_,outer,s.heap.objs.size,rfl,rfl,rfl⟩,Dk,rfl,rfl,rA S.kind⟩
theorem G7 (I:Ar g.K g.mg cn mm q st) (hB:iH g.mg B) (S:fV N (N.take n) (au st)) (hps:(N.take n).length=n) (hN:N.length=nn) (hb:Du st mm q (N.take n))
  (body:∀ (X:Cx) (EE:bO),Cf X EE g k B (au st) (qe (au st) N) (qf true (au st) N)→Cs X (au st) N→pY X EE (bS st) ms):GY g cn mm (k+1) n (λds=>bQ nn ms ds):=by
 obtain ⟨C,f,fd,hC,hM,VJ,F⟩:=I
 refine ⟨C,f,fd,_,QZ (k:=k) (ms:=ms) F S hps hN (λ_=>rfl) ?_,hC,hM,VJ,F.binds hb⟩
 intro X EE cdv A outer s H E hX hr hx Dk
 subst hX
 exact body _ EE (pI hB hr hx) ⟨S.nd,⟨_,outer,s.heap.objs.size,rfl,rfl,rfl⟩,Dk,rfl,rfl,rA S.kind⟩
end
section
variable {X:Cx} {EE:bO} {g:rj} {k k' n:Nat} {B:List Str} {sc:Scope} {V W:List (Option Str)} {x cn f mm:Str} {pos pos' p apos:Pos} {e o a:Expr} {es:List Expr} {ma:DS→M (List D)} {mo mv:DS→M D} {mf:List D→M D}
theorem sX.at (c:Cf X EE g k B sc V W) (C:sX g cn f):∃ C,X.mg cn=some (.ref C)∧t6 X.K C∧fH X.K C f:=by
 obtain ⟨e1,e2,e3,e4,e5⟩:=c.eq
 rw [e3,e4];exact C
theorem G8 (c:Cf X EE g k B sc V W) (C:sX g cn f) (h:mJ o=true) (ho:QE X EE o mo):QE X EE (.Attribute o f pos) (vt cn f mo):=by
 obtain ⟨A,h1,h2,h3⟩:=C.at c
 exact LM h1 h2 h3 ho h
theorem G9 (c:Cf X EE g k B sc V W) (C:sX g cn f) (h:kY a=true) (hv:QE X EE a mv) (ho:QE X EE o mo):QS X EE (.Assign [.Attribute o f pos'] a pos) (jW cn f mv mo):=by
 obtain ⟨A,h1,h2,h3⟩:=C.at c
 exact LN h1 h2 h3 hv ho h
theorem Dv (c:Cf X EE g k B sc V W) (C:GX g x k' n mf) (h:(decide (k'+1≤k)&&(mQ sc x .globalImplicit&&(AY x&&ao (e::es))))=true) (ha:QA X EE (e::es) ma):QE X EE (.Call (.Name x p) (e::es) [] pos) (nu x n mf ma):=by
 obtain ⟨h1,h⟩:=bV h
 obtain ⟨h2,h⟩:=bV h
 obtain ⟨h3,h4⟩:=bV h
 obtain ⟨A,f,fd,ps,q1,q2,q3,q4⟩:=C
 have r:=c.hr.mono (of_decide_eq_true h1)
 obtain ⟨e1,e2,e3,e4,e5⟩:=c.eq
 rw [← e1,← e2,← e3,← e4,← e5] at q1
 rw [← e4] at q2
 rw [← e3] at q3 q4
 exact GV q3 q1 r q2 q4 (c.gl x h2) (nq h3).1 ha h4
theorem Dw (c:Cf X EE g k B sc V W) (C:GY g cn mm k' n mf) (h:(decide (k'≤k)&&ao (e::es))=true) (ho:QE X EE o mo) (ha:QA X EE (e::es) ma)
  (ht:eval (.Call (.Attribute o mm apos) (e::es) [] pos) X.env=(do
   let ov ← eval o X.env
   standAt apos.atName
   let (f,first) ← holding [ov] (getMethod ov mm pl)
   callWith pos f first (backTo pos (Yj (e::es) X.env)) (backToKw pos (keywordEach [] X.env)))):QE X EE (.Call (.Attribute o mm apos) (e::es) [] pos) (jX cn mm n mf mo ma):=by
 obtain ⟨h1,h4⟩:=bV h
 obtain ⟨A,f,fd,ps,q1,q2,q3,q5,q4⟩:=C
 have r:=c.hr.mono (of_decide_eq_true h1)
 obtain ⟨e1,e2,e3,e4,e5⟩:=c.eq
 rw [← e1,← e2,← e3,← e4,← e5] at q1
 rw [← e4] at q2
 rw [← e3] at q3 q4 q5
 exact GW q2 q3 q5 q1 r q4 ho ha ht h4
end
section
variable {K:XU} {mg:Str→Option XR} {h:Heap} {cn mm q f:Str} {st:Stmt}
theorem r6.Ml {kV:XR} {vs:Array XR} {rest:List XR}
  (l0:K.lookup fA=some ⟨oc,od,.func (Zj mm q (gT st) (bS st) (au st) .none kV dc pm an (.ref cA) ct),sl⟩) (lc:K.lookup cA=some ⟨.type T,o2,.fields vs,s2⟩) (hv:vs.toList=v0::.str q tk::rest):∃ fd,r6 (K.filter λp=>lE p.2) mm q st fA fd:=by
 have l1:=gD pJ l0
 have l2:=gD (show lE ⟨.type T,o2,.fields vs,s2⟩=true from rfl) lc
 refine ⟨_,Bq l1 ?_ ?_⟩
 ·unfold aag
  dsimp only
  rw [l2]
  dsimp only
  rw [hv]
  simp
 ·unfold YE
  dsimp only
  rw [l1]
theorem Aq.Ml (X:aaO (K.filter λp=>lE p.2) h) (G:h.Ns mainGlobals mg) {C fA:Addr} (a:ZA K mainGlobals cn=some (some (.ref C))) (m1:ab6 (K.filter λp=>lE p.2) C=true) (m2:Y3 (K.filter λp=>lE p.2) (.ref C) "__init__"=some (some (.ref fA))) (m3:abn (K.filter λp=>lE p.2) (.ref fA)=true)
  (m4:YE (K.filter λp=>lE p.2) (.ref C)=true) (F:∃ fd,r6 (K.filter λp=>lE p.2) "__init__" q st fA fd):Aq (K.filter λp=>lE p.2) mg cn q st:=by
 obtain ⟨fd,F⟩:=F
 exact ⟨C,fA,fd,acF X G (mR a),⟨m1,m2,m3,m4⟩,F⟩
theorem Ar.Ml (X:aaO (K.filter λp=>lE p.2) h) (G:h.Ns mainGlobals mg) {C fA:Addr} (a:ZA K mainGlobals cn=some (some (.ref C))) (hC:t6 (K.filter λp=>lE p.2) C) (m2:Y3 (K.filter λp=>lE p.2) (.ref C) mm=some (some (.ref fA))) (m3:abn (K.filter λp=>lE p.2) (.ref fA)=true)
  (m4:YE (K.filter λp=>lE p.2) (.ref fA)=true) (F:∃ fd,r6 (K.filter λp=>lE p.2) mm q st fA fd):Ar (K.filter λp=>lE p.2) mg cn mm q st:=by
 obtain ⟨fd,F⟩:=F
 exact ⟨C,fA,fd,acF X G (mR a),hC,⟨m2,m3,m4⟩,F⟩
end
noncomputable def sY:List D→M D
 | [.bl k]=>M.ret (.bl k)
 | _=>M.stop
noncomputable def nv:List D→Option (List (Int×Int))
 | []=>some []
 | .tup [.int a,.int b]::r=>(nv r).map ((a,b)::·)
 | _=>none
noncomputable def vz (a b:Int×Int):Bool:=decide (a.1 > b.1∨a.1=b.1∧a.2 > b.2)
noncomputable def Hf (bs:List (Int×Int)):Int×Int:=bs.getD (argBest (λi j=>vz (bs.getD i (0,0)) (bs.getD j (0,0))) (bs.length - 1)) (0,0)
noncomputable def rB:List D→M D
 | [d]=>λG=>match aD G d with
  | some (.lst xs)=>match nv xs with
   | some bs=>if 0<bs.length then .ok (.tup [.int (Hf bs).1,.int (Hf bs).2]) G else .stuck
   | none=>.stuck
  | _=>.stuck
 | _=>M.stop
section
variable {X:Cx} {EE:bO} {e:Expr} {m:DS→M (List D)} {pos p:Pos}
theorem xA:cV X (.type "bool") (zE X EE sY):=by
 intro pins s σ0 H xs us Q I r zu
 obtain ⟨σ,τ,ρ,G,ds,ab,yr,ok⟩:=zu
 match ds,ok with
 | [],ok=>exact ok.elim
 | d::_::_,ok=>cases d<;>exact ok.elim
 | [d],ok=>
  obtain ⟨x,rfl,rx⟩:=fX yr
  cases d<;>try exact ok.elim
  rename_i k
  unfold Rep at rx;subst rx
  exact wo pins s σ0 H _ us Q I r (.inr ⟨k,rfl,ok _ H ρ .refl ab (by unfold Rep;rfl)⟩)
theorem boot_bool:bootBuiltins "bool"=some (.type "bool"):=by symm
theorem Hg (hm:X.mg "bool"=none) (hg:Gl X "bool") (ha:QA X EE [e] m) (h:ao [e]=true:=by rfl):QE X EE (.Call (.Name "bool" p) [e] [] pos) (ai sY m):=j8 xA hm hg boot_bool ha (by decide) (by decide) h
end
section
open PyProof.Rows
namespace As
theorem slot_next:Slot "reversed" "__next__" "reversed.__next__":=
 .of (owner:="reversed") (n:="__next__") (by rw [typeLookup_type,builtinLookup_eq_fast];kernel_rfl) (by symm) (by symm) (by symm)
  (by first | exact .inl (by symm) | exact .inr (by symm)) (by rw [isSubtype_type];kernel_rfl)
theorem rC:Slot "reversed" "__iter__" "reversed.__iter__":=
 .of (owner:="reversed") (n:="__iter__") (by rw [typeLookup_type,builtinLookup_eq_fast];kernel_rfl) (by symm) (by symm) (by symm)
  (by first | exact .inl (by symm) | exact .inr (by symm)) (by rw [isSubtype_type];kernel_rfl)
theorem Au:Slot "reversed" "__init__" "object.__init__":=
 .of (owner:="object") (n:="__init__") (by rw [typeLookup_type,builtinLookup_eq_fast];kernel_rfl) (by symm) (by symm) (by symm)
  (by first | exact .inl (by symm) | exact .inr (by symm)) (by rw [isSubtype_type];kernel_rfl)
theorem entry_next:entryFor table "reversed.__next__"=some aaH.«reversed.__next__»:=entryFor_of_tree (by kernel_rfl)
theorem xB:entryFor table "reversed.__iter__"=some aaH.«dict_keyiterator.__iter__»:=
 entryFor_alias (id':="dict_keyiterator.__iter__") (by kernel_rfl) (by first | rfl | symm | (unfold String.splitOn;simp +decide [String.splitOnAux])) (by symm) (by kernel_rfl)
theorem args_next (a:XR):argsOk "reversed.__next__" ⟨[a],[]⟩:=by unfold argsOk;kernel_rfl
theorem Av (a:XR):argsOk "reversed.__iter__" ⟨[a],[]⟩:=by unfold argsOk;kernel_rfl
theorem called:TypeCalled "reversed" "reversed.__new__" "object.__init__":=
 ⟨by symm,F.create_reversed,⟨_,_,F.mro_reversed⟩,F.made_reversed,F.plain_reversed_new,F.sub_reversed_self,Au⟩
theorem OE:typeLookup (.type "tuple") "__reversed__"=pure none:=by rw [typeLookup_type,builtinLookup_eq_fast];kernel_rfl
theorem nodict:isSubtype (.type "tuple") (.type "dict")=pure false:=by rw [isSubtype_type];kernel_rfl
noncomputable def O (t:Addr) (i:Int):Obj:={cls:=.type "reversed",data:=.fields #[.ref t,rawInt i]}
section
variable {prog:Yw} {w:YM} {A:Around} {E:XR→XX→Prop} {s:XX}
theorem Aw (t:Addr) (items:Array XR):Meets (aaH.«reversed.__new__» ⟨[.type "reversed",.ref t],[]⟩) (λ_ R s=>IsTup s.heap t items∧items.size≤XT ∧
  R (.ok (.ret (Value.ref s.heap.objs.size))) {s with heap:=s.heap.push (O t ((items.size:Int) - 1)),toks:=s.toks+1+1}):=by
 intro prog w A R s zu
 obtain ⟨ht,hz,h⟩:=zu
 have hs:XT=16777216:=sizeLine_eq
 unfold aaH.«reversed.__new__»
 refine XS (aal (newClass_reversed _) ?_)
 try dsimp only
 refine XS (aal (a:=()) (by first | rfl | kernel_rfl) ?_)
 refine XS (aal (a:=()) (by first | rfl | kernel_rfl) ?_)
 try dsimp only
 refine XS (aas ht.typeIs OE ?_)
 try dsimp only
 refine XS ?_
 refine XS (abO ht.typeIs nodict ?_)
 refine XS (aas ht.typeIs slot_tuple_getitem.lookup ?_)
 show Ye _ _ (if _ then _ else _) _ _ _
 rw [if_pos (by symm)]
 refine Yc ?_
 refine XS (len_tuple ht (by nofun) ?_)
 refine XS (m:=asInt? _) (Yc ?_)
 refine XS (m:=Builtin.SmallTypes.newRecord _ _) ?_
 show Ye _ _ (newObj (.type "reversed") (.fields #[.ref t,rawInt ((items.size:Int) - 1)])) _ _ _
 exact YC (Yc h) (by size_fits)
theorem Dy {t:Addr} (ht:IsTup s.heap t items) (hz:items.size≤XT)
  (h:Q (.ref s.heap.objs.size) {s with heap:=s.heap.push (O t ((items.size:Int) - 1)),toks:=s.toks+1+1}):Ye (model prog w) A (call (.type "reversed") [.ref t]) Q E s:=
 callType_new called (by decide) (F.typeCall_reversed_1 _) (F.newCall_reversed_1 _) (λobj=>aaE obj _) F.entry_reversed_new (Aw t items) ⟨ht,hz,⟨_,X6 _ rfl,rfl⟩,h⟩
noncomputable def Is (h:Heap) (a t:Addr) (i:Int):Prop:=∃ o,h.get? a=some o∧o.cls=.type "reversed"∧o.data=.fields #[.ref t,rawInt i]
theorem Is.typeIs {t:Addr} {i:Int} (x:Is s.heap a t i):s.TypeIs (.ref a) "reversed":=let ⟨o,ho,hc,_⟩:=x;⟨o,ho,hc⟩
theorem Is.at {t:Addr} {i:Int} (x:Is h a t i) (e:∀ o,h.get? a=some o→h'.get? a=some o):Is h' a t i:=let ⟨o,ho,r⟩:=x;⟨o,e _ ho,r⟩
theorem next_item {t:Addr} {x:XR} {Q:Option XR→XX→Prop} (hit:Is s.heap it t (i:Int)) (ht:IsTup s.heap t items) (hz:items.size≤XT) (hx:items[i]?=some x)
  (hQ:∀ h',Is h' it t ((i:Int) - 1)→ZM it s.heap h'→Q (some x) {s with heap:=h',toks:=s.toks+1}):Ye (model prog w) A (pyNext (.ref it)) Q E s:=by
 have hs:XT=16777216:=sizeLine_eq
 have hi:i<items.size:=by
  by_cases hh:i<items.size
  ·exact hh
  ·rw [aao (by nofun)] at hx;cases hx
 obtain ⟨o,ho,hc,hd⟩:=id hit
 unfold pyNext
 refine XS (acG (Zb (name:=Z6 "__next__") hit.typeIs slot_next
  (Zu slot_next hit.typeIs entry_next ?_ (args_next _))))
 unfold aaH.«reversed.__next__»
 refine XS (aal (a:=(Value.ref it,[])) rfl ?_)
 try dsimp only
 refine XS (YI ho hd (x:=.ref t) rfl ?_)
 refine XS (YI ho hd (x:=rawInt (i:Int)) rfl ?_)
 show Ye _ _ (if (i:Int)<0 then _ else _) _ _ s
 rw [if_neg (by nofun)]
 refine XS (aas ht.typeIs slot_tuple_getitem.lookup ?_)
 show Ye _ _ (if false=true then _ else _) _ _ s
 rw [if_neg (by decide)]
 refine XS (wpAny_mkInt ?_)
 refine XS (acG (getItem_tuple (j:=i) (s:={s with toks:=s.toks+1}) ht (by nofun) (by nofun) ?_ hx ?_))
 ·unfold seqIndex?
  simp only [show ¬ ((i:Int)<0) by nofun,if_false]
  rw [if_pos (by simp only [Y4,decide_eq_true_eq];nofun)]
  simp
 show Ye _ _ (field (.ref it) 1 >>= _) _ _ _
 refine XS (YI (s:={s with toks:=s.toks+1}) ho hd (x:=rawInt (i:Int)) rfl ?_)
 show Ye _ _ (setField (.ref it) 1 (rawInt ((i:Int) - 1)) >>= _) _ _ _
 refine XS (ZS (s:={s with toks:=s.toks+1}) ho hd (by simp) ?_)
 refine Yc ⟨x,rfl,Yc (hQ _ ?_ (ZL ..))⟩
 exact ⟨_,YB _ ho (ZV (Y0 hd _)),(abF ..).trans hc,by
  rw [Y0 hd];simp⟩
theorem iter {t:Addr} {i:Int} (hit:Is s.heap it t i) (h:Q (.ref it) s):Ye (model prog w) A (pyIter (.ref it)) Q E s:=by
 refine wpAny_pyIter_slot hit.typeIs rC (Zu rC hit.typeIs xB ?_ (Av _))
 show Ye _ _ (ret (.ref it)) _ _ s
 exact Yc ⟨_,rfl,"reversed",_,hit.typeIs,slot_next.lookup,h⟩
theorem next_end {t:Addr} {Q:Option XR→XX→Prop} (hh:A.handled=none) (hit:Is s.heap it t (-1))
  (hQ:∀ h',acn it s.heap h'→Q none {s with heap:=h'}):Ye (model prog w) A (pyNext (.ref it)) Q E s:=by
 obtain ⟨o,ho,hc,hd⟩:=id hit
 unfold pyNext
 refine XS (acG (Zb (name:=Z6 "__next__") hit.typeIs slot_next
  (Zu slot_next hit.typeIs entry_next ?_ (args_next _))))
 unfold aaH.«reversed.__next__»
 refine XS (aal (a:=(Value.ref it,[])) rfl ?_)
 try dsimp only
 refine XS (YI ho hd (x:=.ref t) rfl ?_)
 refine XS (YI ho hd (x:=rawInt (-1)) rfl ?_)
 show Ye _ _ (if (-1:Int)<0 then _ else _) _ _ s
 rw [if_pos (by decide)]
 refine XS (abx ?_)
 refine XS ?_
 refine XS (ZS ho hd (by simp) ?_)
 have OF:(s.heap.update it (Zi λx=>x.setIfInBounds 1 (rawInt (-1)))).get? it=some (Zi (λx=>x.setIfInBounds 1 (rawInt (-1))) o):=YB _ ho (ZV (Y0 hd _))
 refine ZS (s:={s with heap:=s.heap.update it (Zi λx=>x.setIfInBounds 1 (rawInt (-1)))}) OF (Y0 hd _) (by simp) ?_
 refine XS ?_
 show Ye _ _ (newExc (.type "StopIteration") [] >>= _) _ _ _
 refine XS ?_
 simp only [newExc,newTuple]
 refine XS (YC ?_ (by size_fits))
 refine XS (m:=firstArgMember _ _) (aal (a:=Value.none) (by first | rfl | (simp only [firstArgMember];rfl)) ?_)
 refine YC ?_ (by size_fits)
 simp only [raiseNew]
 refine XS (acC ?_)
 first | rw [show A.in1.handled=none from hh] | rw [hh]
 refine XS (Yc (aco ?_))
 refine XS (abO (T:="StopIteration") (b:=true) ⟨_,X6 _ rfl,rfl⟩ isSubtype_stop ?_)
 exact Yc (hQ _ λb ob hb e=>(((adf it _).push _).push _) b ob hb (((ZL ..).2 b hb).trans (((ZL ..).2 b hb).trans e)))
end
end As
end
section
open PyProof.Rows
noncomputable def LO (K:XU) (a:Addr) (n:Nat):It:=
 ⟨λi H=>∃ xs x,kI K H a xs∧xs.length=n∧i<n∧xs[n - 1 - i]?=some x,λi H y H'=>H'=H∧∀ xs,kI K H a xs→xs[n - 1 - i]?=some y,λi H=>i=n⟩
theorem Ax (a it:Addr) (n:Nat):Turn P w K tg (LO K a n) [it] it (λi h=>As.Is h it a ((n:Int) - 1 - (i:Int))) where
 mem:=by simp
 obj:=λi h st b hb=>by
  have e:b=it:=by simpa using hb
  subst e
  obtain ⟨o,e,c,d⟩:=st
  exact ⟨o,e,λv z=>by rw [d] at z;cases z⟩
 keep:=λi h h' st k=>st.at λo e=>k it (by simp) o e
 item:=by
  intro X hP hw hK hc i pins s σ H E I hf st hg
  subst hP hw hK
  obtain ⟨xs,x,hq,hn,hi,hx⟩:=hg
  obtain ⟨its,rv,p,hz⟩:=I.tuple hq
  obtain ⟨u,hu,ru⟩:=rv.get hx
  obtain ⟨f0,f1,f2,f3,f4,f5⟩:=hf it (by simp)
  have e:(n:Int) - 1 - (i:Int)=((n - 1 - i:Nat):Int):=by nofun
  rw [e] at st
  refine As.next_item st p (by rw [Yb,← rv.length];exact hz) (x:=u) (by simpa using hu) λh' st' sb=>?_
  have I1:Inv X pins σ H {s with heap:=h',toks:=s.toks+1}:=I.turned (t':=s.toks+1) (λb o hb e=>(sb.2 b hb).trans e) f0 f1 f3 f4 f5
  have e2:((n - 1 - i:Nat):Int) - 1=(n:Int) - 1 - ((i+1:Nat):Int):=by nofun
  rw [e2] at st'
  obtain ⟨o,e,c,d⟩:=id st'
  exact ⟨u,rfl,n6 (s:={s with heap:=h',toks:=s.toks+1}) e c d (by decide) ⟨x,H,I1,ru,⟨rfl,λys hy=>by rw [I.l7 hy hq];exact hx⟩,st',λb hb=>(hf b hb).1⟩⟩
 done:=by
  intro X hP hw hK hc i pins s σ H E I hf st hg
  subst hP hw hK
  have hi:i=n:=hg
  subst hi
  obtain ⟨f0,f1,f2,f3,f4,f5⟩:=hf it (by simp)
  rw [show (i:Int) - 1 - (i:Int)=-1 by nofun] at st
  exact As.next_end (I.ok.hd hc) st λh' eb=>⟨rfl,I.turned (t':=s.toks) (λb o hb e=>eb b o hb e) f0 f1 f3 f4 f5⟩
 self:=λ_ _ _ _ _ st h=>As.iter st h
noncomputable def pK (xs:List D):View:=λ_ i=>if i=xs.length then some none else if i<xs.length then some xs[xs.length - 1 - i]? else none
noncomputable def yQ (m:DS→M (List D)):MI:=λτ=>(m τ).bind λds=>match ds with
 | [d]=>λG=>match aD G d with
  | some (.tup xs)=>.ok (xs.length+1,pK xs) G
  | _=>.stuck
 | _=>M.stop
theorem Hh (Ru:pU H0 l ni) (Aa:aq K mg ρ0 H0 zs ni):JV K mg (LO K l zs.length) (pK zs) H0 ρ0:=by
 intro i H ρ G f hp
 have sq:=pU.t (K:=K) (f.tup _ _ Ru)
 have rs:=Aa.mono f
 unfold pK
 by_cases hi:i=zs.length
 ·rw [if_pos hi]
  exact ⟨λ_=>hi,λx e=>(by cases e)⟩
 ·rw [if_neg hi]
  by_cases hlt:i<zs.length
  ·rw [if_pos hlt]
   refine ⟨λe=>?_,λx e=>?_⟩
   ·have:=Yu e
    rw [YZ] at this
    nofun
   ·have e':=Yu e
    obtain ⟨v,hv,rv⟩:=rs.get e'
    refine ⟨⟨ni,v,sq,rs.length.symm,hlt,hv⟩,λy H2 hy=>?_⟩
    obtain ⟨rfl,hy⟩:=hy
    have:=hy ni sq
    rw [hv] at this;cases this
    exact ⟨⟨.refl,λ_ h=>h⟩,rv⟩
  ·rw [if_neg hlt];exact ⟨λe=>(by cases e),λx e=>(by cases e)⟩
section
variable {X:Cx} {EE:bO} {tg a:Expr} {p pc:Pos} {m:DS→M (List D)}
theorem Hi (hm:X.mg "reversed"=none) (nS:Gl X "reversed") (ha:QA X EE [a] m) (h:ao [a]=true:=by rfl):QI X EE tg (.Call (.Name "reversed" p) [a] [] pc) (yQ m):=by
 have h':br a=true∧ao []=true:=by simpa [ao] using h
 intro pins s σ H R I hq
 obtain ⟨τ,ρ,G,ab,ok⟩:=hq
 dsimp only [yQ,M.bind] at ok
 refine Yo (fh I nS hm jQ ?_ (by decide) (by decide))
 have hA:ie X.K X.mg EE m σ H λvs H1=>∃ ρ1 G1 ds,Ab X.K X.mg σ H1 τ ρ1 G1∧bX X.K H H1 ρ ρ1∧aq X.K X.mg ρ1 H1 ds vs∧m τ G=.ok ds G1:=by
  refine ⟨τ,ρ,G,ab,?_⟩
  cases e:m τ G with
  | stuck=>rw [e] at ok;exact ok
  | bB c G'=>rw [e] at ok;exact ok
  | ok ds G'=>exact λvs H' ρ' f bq r=>⟨ρ',G',ds,bq,f,r,rfl⟩
 refine Yr (cO (ha pc pins s σ H _ I hA) λus s1 oj=>?_) (aM h'.1 _ _) (aO (es:=[]) rfl)
 obtain ⟨vs,H1,I1,r1,ρ1,G1,ds,fW,f1,rs,em⟩:=oj
 rw [em] at ok
 dsimp only at ok
 match ds,rs,ok with
 | [],_,ok=>exact ok.elim
 | _::_::_,_,ok=>exact ok.elim
 | [d],rs,ok=>
  obtain ⟨x,rfl,rx⟩:=fX rs
  obtain ⟨u,rfl,ru⟩:=vals1 r1
  dsimp only at ok
  cases q:aD G1 d with
  | none=>rw [q] at ok;exact ok.elim
  | some sk=>
   rw [q] at ok
   cases sk with
   | lst zs=>exact ok.elim
   | str z=>exact ok.elim
   | tup zs=>
    dsimp only at ok
    obtain ⟨l,ys,rfl,sq,rv⟩:=kQ rx q
    cases ru
    obtain ⟨its,vv,pl,hz⟩:=I1.tuple sq.t
    have hlen:its.toArray.size=zs.length:=by rw [Yb,← vv.length,rv.length]
    refine As.Dy pl (by rw [Yb,← vv.length];exact hz) ?_
    have hst:As.Is (s1.heap.push (As.O l ((its.toArray.size:Int) - 1))) s1.heap.objs.size l ((its.toArray.size:Int) - 1):=⟨_,X6 _ rfl,rfl,rfl⟩
    refine As.iter (s:={s1 with heap:=s1.heap.push (As.O l ((its.toArray.size:Int) - 1)),toks:=s1.toks+1+1}) hst ?_
    have I2:Inv X pins σ H1 {s1 with heap:=s1.heap.push (As.O l ((its.toArray.size:Int) - 1)),toks:=s1.toks+1+1}:=I1.kept (t':=s1.toks+1+1) λb o e=>XW _ e
    refine ⟨s1.heap.objs.size,[s1.heap.objs.size],_,LO X.K l zs.length,H1,rfl,I2,Ax l _ _,?_,λb hb=>?_,ok _ H1 ρ1 f1 fW (Hh sq rv)⟩
    ·show As.Is (s1.heap.push (As.O l ((its.toArray.size:Int) - 1))) s1.heap.objs.size l ((zs.length:Int) - 1 - ((0:Nat):Int))
     rw [← hlen]
     simpa using hst
    ·rw [Yk.mp hb]
     exact I1.l8 (X3 _) (I1.hok.fresh (X3 _))
end
end
theorem sZ (h:∀ a0 a1 a2 a3 a4 a5,p [a0,a1,a2,a3,a4,a5]):∀ us:List XR,us.length=6→p us
 | [_,_,_,_,_,_],_=>h _ _ _ _ _ _
section
variable {g:rj} {x:Str} {k n:Nat} {N:List Str} {st:Stmt}
theorem Dz (Dd:qp g.K g.mg x n N st) (hb:pH st x (N.take n)):iy g x k n (λ_=>M.stop):=by
 obtain ⟨f,fd,F,hm⟩:=Dd
 exact ⟨f,fd,_,Gz,hm,F.kp,F.binds hb⟩
theorem tu {MM:Nat→List D→M D} {F:(List D→M D)→List D→M D} (Dd:qp g.K g.mg x n N st) (hb:pH st x (N.take n)) (e0:MM 0=λ_=>M.stop) (es:∀ i,MM (i+1)=F (MM i))
  (hs:∀ i,iy g x (k+i) n (MM i)→iy g x (k+i+1) n (F (MM i))):∀ j,iy g x (k+j) n (MM j)
 | 0=>by rw [e0];exact Dz Dd hb
 | j+1=>by rw [es];exact hs j (tu Dd hb e0 es hs j)
end
section
variable {X:Cx} {EE:bO} {g:rj} {k n:Nat} {B:List Str} {sc:Scope} {V W:List (Option Str)} {x:Str} {pos p:Pos} {e:Expr} {es:List Expr} {m:DS→M (List D)} {mf:List D→M D}
theorem DA (c:Cf X EE g k B sc V W) (C:iy g x k n mf) (h:(mQ sc x .globalImplicit&&(AY x&&ao (e::es)))=true) (ha:QA X EE (e::es) m):QE X EE (.Call (.Name x p) (e::es) [] pos) (aA n mf m):=by
 obtain ⟨h2,h⟩:=bV h
 obtain ⟨h3,h4⟩:=bV h
 obtain ⟨f,fd,ps,q1,q2,q3,q4,q5⟩:=C.at c (X3 _)
 exact yz q1 q2 q3 q4 q5 (zL c.hx) (c.gl x h2) (nq h3) ha h4
theorem DB {u:Str} {l o q:Nat} (c:Cf X EE g k B sc V W) (s:Cs X scope N) (h:(decide (W[i]?=some (some x))&&(decide (W[j]?=some (some y))&&(decide (W[l]?=some (some z))&&decide (W[o]?=some (some u)))))=true):QG X (.Tuple [.Name x px,.Name y py,.Name z pz,.Name u pu] q pos) (Od i j l o):=by
 obtain ⟨h1,h⟩:=bV h
 obtain ⟨h2,h⟩:=bV h
 obtain ⟨h3,h4⟩:=bV h
 obtain ⟨q1,q2,q3⟩:=c.Er h1
 obtain ⟨r1,r2,r3⟩:=c.Er h2
 obtain ⟨s1,s2,s3⟩:=c.Er h3
 obtain ⟨t1,t2,t3⟩:=c.Er h4
 exact Gx c.hc s.nd q2 r2 s2 t2 q3 r3 s3 t3 q1 r1 s1 t1
end
section
open PyProof.Rows
section
variable {X:Cx} {EE:bO} {e:Expr} {m:DS→M D}
noncomputable def Mm (X:Cx) (EE:bO) (e:Expr) (m:DS→M D):Prop:=∀ (s:XX) (σ:L2.St) (H:Hp) (Q:VK),Inv X [] σ H {s with toks:=s.toks+1}→bh X.K X.mg EE m σ H Q→Ye (model X.prog X.w) X.A (eval e X.env) (EP X [] σ Q) X.xe s
theorem Ay {jc:Nat} {n:Int} {py pc p2 pos:Pos} (hj:X.N[j]?=some y) (hv:X.env.scope.names.lookup y=some .cell) (VL:(y==("__debug__":Str))=false) :
  Mm X EE (.Subscript (.Name y py) (.Slice none (some (.Constant (.int n) jc pc)) none p2) pos) (l6 (af j) fP (bR (eC (.int n)))):=by
 intro s σ H Q I zu
 obtain ⟨τ,ρ,G,ab,ok⟩:=zu
 dsimp only [l6,af,fP,bR,eC,M.bind,M.ret] at ok
 cases e:τ[j]? with
 | none=>rw [e] at ok;exact ok.elim
 | some o=>
  cases o with
  | none=>rw [e] at ok;exact ok.elim
  | some d=>
   rw [e] at ok
   dsimp only at ok
   obtain ⟨v,e1,r⟩:=ab.st.2 j d e
   obtain ⟨m,hn,hl⟩:=I.loc
   obtain ⟨u,ru,l⟩:=hl j y v hj e1 (.inr (by first | exact hv | exact .inl hv))
   rcases l with ⟨NK,hml⟩ | ⟨NK,c,hc,hcell⟩
   ·have:=hv.symm.trans NK;cases this
   ·refine Subscript_ (acI (acw I.ok.kind hv hc hcell ?_) VL)
    refine wpAny_Slice ?_
    rw [evalPart_none]
    refine Yc ?_
    rw [evalPart_some]
    refine acJ ?_
    refine Yc ?_
    have I4:Inv X [] σ H {s with heap:=s.heap.push {cls:=.type "slice",data:=.fields #[.none,.int n s.toks,.none]},toks:=s.toks+1}:=I.kept (t':=s.toks+1) λb ob q=>XW _ q
    obtain ⟨T,id,hT,ht,hg⟩:=Nr (EE:=EE) [] {s with heap:=s.heap.push {cls:=.type "slice",data:=.fields #[.none,.int n s.toks,.none]},toks:=s.toks+1} σ H v u .none (.int n s.toks) none (some n) s.heap.objs.size Q I4 ru (acM ..) .none (.int n s.toks) ⟨σ,τ,ρ,G,d,ab,r,ok⟩
    exact tail_any (ops:=[.ref s.heap.objs.size,u]) ht hT hg (by with_unfolding_all rfl)
theorem Hj (ha:Mm X EE e m):Mm X EE e (eFn m):=by
 intro s σ H Q I zu
 obtain ⟨τ,ρ,G,ab,ok⟩:=zu
 dsimp only [eFn] at ok
 cases q:m τ G with
 | stuck=>rw [q] at ok;exact ok.elim
 | bB c G'=>rw [q] at ok;exact ha s σ H Q I ⟨τ,ρ,G,ab,by rw [q];exact ok⟩
 | ok d G'=>
  rw [q] at ok
  by_cases hd:∃ n,d=.obj n
  ·obtain ⟨n,rfl⟩:=hd
   dsimp only at ok
   cases g:G'[n]? with
   | none=>rw [g] at ok;exact ok.elim
   | some o=>
    rw [g] at ok
    cases o with
    | lst ds=>
     dsimp only at ok
     by_cases hc:n=G.length∧G'.length=n+1∧oX (G'.take G.length) G=true∧aV ds=true
     ·rw [if_pos hc] at ok
      obtain ⟨hn0,hl,hb,hcl⟩:=hc
      refine cO (ha s σ H (λv H'=>∃ a xs,v=.ref a∧H' a=some (.lst xs)∧∀ o,Q v (upd H' a (.dF o (.lst xs)))) I ⟨τ,ρ,G,ab,?_⟩) λu s' h=>w6 h λv H' q=>.inr q
      rw [q]
      intro v H' ρ' f bq r
      unfold Rep at r
      obtain ⟨a,rfl,hn⟩:=r
      obtain ⟨a',xs,e1,e2,rs⟩:=bq.hp.lst g
      rw [hn] at e1;cases e1
      refine ⟨a,xs,rfl,e2,λob=>?_⟩
      have f2:bX X.K H' (upd H' a (.dF ob (.lst xs))) ρ' ρ':=lS e2 ρ'
      have f3:bX X.K H (upd H' a (.dF ob (.lst xs))) ρ ρ:=⟨λb ys w=>f2.tup b ys (f.tup b ys w),λb o u w=>f2.dF b o u (f.dF b o u w),⟨[],by simp⟩,λb φ w=>f2.ext b φ (f.ext b φ w)⟩
      have hp2:=bq.hp.dF (o:=ob) hn e2
      have sF:fy X.K X.mg (upd H' a (.dF ob (.lst xs))) ρ G:=ab.hp.cut f.pre hp2 (by
       rw [abl (by nofun)]
       exact lR _ _ hb)
      refine ok _ _ ρ f3 ⟨ab.st.mono f3,sF⟩ ?_
      unfold Rep
      exact ⟨a,xs,rfl,.inl ⟨ob,aX⟩,fQ ds xs hcl (rs.mono f2)⟩
     ·rw [if_neg hc] at ok;exact ok.elim
    | _=>exact ok.elim
  ·have ok':iI X.K X.mg EE H σ τ ρ (.ok d G') Q:=by
    cases d<;>first | exact ok | exact absurd ⟨_,rfl⟩ hd
   exact ha s σ H Q I ⟨τ,ρ,G,ab,by rw [q];exact ok'⟩
theorem Ho {p:Pos} (hc:X.calm=true) (hm:X.mg "sum"=none) (hg:Gl X "sum") (he:Mm X EE e m) (h:br e=true):Mm X EE (.Call (.Name "sum" p) [e] [] pos) (ai iP (aa m ah)):=by
 intro s σ H Q I hq
 obtain ⟨mb,h1,h2⟩:=I.mod.blt
 refine Yo (ZP I.ok.kind hg (abG (by rw [I.ok.glob];exact I.mod.glob.keeps I.bk) hm (by rw [I.ok.blt];exact h1.keeps I.bk) ((h2 "sum" (by decide)).trans acf) ?_) (by decide))
 have hst:Yj [e] X.env=(false,eval e X.env)::Yj [] X.env:=aM h _ _
 refine aah ?_ hst (aO (es:=[]) rfl)
 rw [hst]
 show Ye _ _ (spliced ((false,eval e X.env)::backTo pos (Yj [] X.env))) _ _ s
 refine Zm ?_
 obtain ⟨τ,ρ,G,ab,ok⟩:=hq
 refine cO (he s σ H (λv H1=>∃ ρ1 G1 d,Ab X.K X.mg σ H1 τ ρ1 G1∧bX X.K H H1 ρ ρ1∧Rep X.K X.mg ρ1 H1 d v∧m τ G=.ok d G1) I ⟨τ,ρ,G,ab,?_⟩) λu s1 ⟨x,H1,I1,r1,ρ1,G1,d,fW,f1,rd,em⟩=>?_
 ·dsimp only [ai,aa,ah,M.bind,M.ret] at ok
  cases q:m τ G with
  | stuck=>rw [q] at ok;exact ok
  | bB c G'=>rw [q] at ok;exact ok
  | ok d G'=>exact λv H' ρ' f bq r=>⟨ρ',G',d,bq,f,r,rfl⟩
 ·refine Z5 ?_
  dsimp only [ai,aa,ah,M.bind,M.ret] at ok
  rw [em] at ok
  exact qS (EE:=EE) hc [] s1 σ H1 [x] [u] Q I1 (.cons r1 .nil) ⟨σ,τ,ρ1,G1,[d],fW,.cons rd .nil,ok.fut f1⟩
theorem OG {CX:l5} {k:Nat} {f:Addr} {ps:List Str} {g x:Str} {i:Nat} {px pg cpos pos:Pos} {rest:List Stmt} {mt:MS} (F:gA X.prog X.w X.K X.mg X.base CX k f fd ps (fU X.K X.mg 1 mf)) (hr:cK k X.A) (hm:X.mg g=some (.ref f)) (hk:YE X.K (.ref f)=true) (hb:Binds X.K fd ps []) (hx:FN CX X EE) (hg:Gl X g)
  (hdg:(g==("__debug__":Str))=false) (hN:X.N.Nodup) (PL:Loc X.env.scope x) (hf:X.fn x=true∨X.env.scope.names.lookup x=some .local) (he:Mm X EE e m) (h:br e=true) (h2:pY X EE rest mt) (hi:X.N[i]?=some x) :
  Oe X EE (.Assign [.Name x px] (.Call (.Name g pg) [e] [] cpos) pos::rest) (az (aF i (aA 1 mf (aa m ah))) mt):=by
 intro s σ H Dd I hq
 have h1:=uB hq
 have h3:=kN (m:=aA 1 mf (aa m ah)) (k:=λτ d G=>.nx (τ.set i (some d)) G) h1
 obtain ⟨τ,ρ,G,ab,ok⟩:=h3
 have hst:Yj [e] X.env=(false,eval e X.env)::Yj [] X.env:=aM h _ _
 refine aa8 (acT ?_ (lP (e:=.Call (.Name g pg) [e] [] cpos) rfl _ _ _))
 refine Yo (ZP I.ok.kind hg (abL (by rw [I.ok.glob];exact I.mod.glob.keeps I.bk) hm ?_) hdg)
 refine ZQ (h₀:=X.base) I.ok.mod.AS hk ?_ hst (aO (es:=[]) rfl)
 rw [hst]
 show Ye _ _ (spliced ((false,eval e X.env)::backTo cpos (Yj [] X.env))) _ _ s
 refine Zm ?_
 refine cO (he s σ H (λv H1=>∃ ρ1 G1 d,Ab X.K X.mg σ H1 τ ρ1 G1∧bX X.K H H1 ρ ρ1∧Rep X.K X.mg ρ1 H1 d v∧m τ G=.ok d G1) I ⟨τ,ρ,G,ab,?_⟩) λu s1 ⟨xv,H1,I1,r1,ρ1,G1,d,fW,f1,rd,em⟩=>?_
 ·unfold aA ai aa ah at ok
  dsimp only [M.bind,M.ret] at ok
  cases q:m τ G with
  | stuck=>rw [q] at ok;exact ok
  | bB c G'=>rw [q] at ok;exact ok
  | ok d G'=>exact λv H' ρ' f bq r=>⟨ρ',G',d,bq,f,r,rfl⟩
 ·refine Z5 ⟨I1.nN,?_⟩
  unfold aA ai aa ah at ok
  dsimp only [M.bind,M.ret] at ok
  rw [em] at ok
  have hn2:[d].length=1:=rfl
  have ok:iI X.K X.mg EE H σ τ ρ ((if [d].length=1 then mf [d] else M.stop) G1) _:=ok
  rw [if_pos hn2] at ok
  refine cO (nT F hr hb hx I1 (.cons r1 .nil) fW (.cons rd .nil) hn2 (ok.fut f1)) λw s1 zz=>?_
  obtain ⟨z,H1,I1,r1,τ1,ρ1,G1,d1,fW,VM,yp⟩:=zz
  refine n5 I1 hN hi PL r1 (λs2 I2=>?_) hf
  exact h2 [] s2 _ H1 Dd I2 (yp _ H1 ρ1 .refl (Ab.set fW VM))
end
end
theorem DC {m:List D→M D} (vs:List V) (H:Hp) (Q:VK) (E:XK) (h:fU K mg n (λds G=>i6 (m ds G)) vs H Q E):fU K mg n m vs H Q E:=by
 obtain ⟨ds,ρ,G,hl,hp,rs,ok⟩:=h
 refine ⟨ds,ρ,G,hl,hp,rs,?_⟩
 dsimp only at ok
 cases q:m ds G with
 | stuck=>rw [q] at ok;exact ok
 | bB c G'=>rw [q] at ok;exact ok.elim
 | ok d G'=>rw [q] at ok;exact ok
section
variable {g:rj} {x gg x1:Str} {k k' n nn i j jc:Nat} {nI:Int} {N B:List Str} {st:Stmt} {mt:MS} {mf:List D→M D} {px pg p py pc p2 p3 p4 cpos pos:Pos} {rest:List Stmt}
theorem DE {f:Addr} (F:r6 g.K x x st f fd) (hB:iH g.mg B) (S:fV N [y] (au st)) (hN:N.length=nn)
  (hbd:bS st=.Assign [.Name x1 px] (.Call (.Name gg pg) [.Call (.Name "sum" p) [.Subscript (.Name y py) (.Slice none (some (.Constant (.int nI) jc pc)) none p2) p3] [] p4] [] cpos) pos::rest)
  (C:iy g gg k' 1 mf) (h:(decide (k'≤k)&&(mQ (au st) gg .globalImplicit&&(AY gg&&(mQ (au st) y .cell&&(AY y&&(decide (N[j]?=some y)&&(decide ((qf true (au st) N)[i]?=some (some x1))&&(B.contains "sum"&&mQ (au st) "sum" .globalImplicit))))))))=true)
  (body:∀ (X:Cx) (EE:bO),Cf X EE g k B (au st) (qe (au st) N) (qf true (au st) N)→Cs X (au st) N→pY X EE rest mt) :
  jC g.P g.w g.K g.mg g.base (lM g.P g.w) (k+1) f fd [y] (fU g.K g.mg 1 (cB λds G=>i6 (bQ nn (az (aF i (aA 1 mf (aa (ai iP (aa (eFn (l6 (af j) fP (bR (eC (.int nI))))) ah)) ah))) mt) ds G))):=by
 obtain ⟨h1,h⟩:=bV h
 obtain ⟨h2,h⟩:=bV h
 obtain ⟨h3,h⟩:=bV h
 obtain ⟨h4,h⟩:=bV h
 obtain ⟨h5,h⟩:=bV h
 obtain ⟨h6,h⟩:=bV h
 obtain ⟨h7,h⟩:=bV h
 obtain ⟨h8,h9⟩:=bV h
 refine jC.imp (jC.imp (RC (k:=k) F S rfl hN (λ_=>rfl) ?_) DC) sG
 intro X EE cdv A outer s H E hX hr hx Dk
 have c:Cf X EE g k B (au st) (qe (au st) N) (qf true (au st) N):=by subst hX;exact pI hB hr hx
 have cs:Cs X (au st) N:=by subst hX;exact ⟨S.nd,⟨_,outer,s.heap.objs.size,rfl,rfl,rfl⟩,Dk,rfl,rfl,rA S.kind⟩
 have TR:X.N=N:=by subst hX;rfl
 have VN:X.env.scope=au st:=by subst hX;rfl
 rw [hbd]
 obtain ⟨f',fd',ps,q1,q2,q3,q4,q5⟩:=C.at c (of_decide_eq_true h1)
 obtain ⟨r1,r2,r3⟩:=c.Er h7
 exact OG q1 q2 q3 q4 q5 (zL c.hx) (c.gl gg h2) (nq h3).1 (by rw [TR];exact S.nd) r2 r3 (Ho c.hc (c.bl _ h8) (c.gl _ h9) (Hj (Ay (by rw [TR];exact of_decide_eq_true h6) (by rw [VN];exact i7 h4) (nq h5).1)) rfl) rfl (body _ EE c cs) r1
end
section
open PyProof.Rows
section
open PySem.SeqAt
open PySem.AutoSeq1 (wpAny_loadPart')
open PySem.MeetsSeq PySem.MeetsSeq2 PySem.MeetsSeq3
theorem vA (A:Around) (s:XX) (a:Int) (t:Tok) (c:Int) (u:Tok) (prog:Yw) (w:YM) (E:XR→XX→Prop) (Q:XR→XX→Prop) (h:Q (.bool (decide (a > c))) s) :
  Ye (model prog w) A (richCompare .Gt (.int a t) (.int c u)) Q E s:=
 richCompare_gives (op:=.Gt) (typeIs_int s _ t) (typeIs_int s _ u) F.slot_int_gt F.entry_int_gt (F.args_int_gt_2 _ _) (gives_int_gt _ _ t u) (λx=>nomatch x) h
theorem Hq (l b:Addr) (a1 a2 b1 b2:Int) (t1 t2 u1 u2:Tok) (n n2:Nat) (dd dd2:Option Addr) (sl sl2:Array (Option XR)) :
  Meets (aaH.«tuple.__gt__» ⟨[.ref l,.ref b],[]⟩)
   (λ_ R s=>s.heap.get? l=some {cls:=.type "tuple",dict:=dd,data:=.seq #[.int a1 t1,.int a2 t2] n,slots:=sl}∧s.heap.get? b=some {cls:=.type "tuple",dict:=dd2,data:=.seq #[.int b1 u1,.int b2 u2] n2,slots:=sl2} ∧
    R (.ok (.ret (.bool (vz (a1,a2) (b1,b2))))) s):=
 .of_wp λprog w A R s h=>by
  obtain ⟨hp,g,d,tk,os⟩:=s;obtain ⟨hl,hb,h⟩:=h
  have f2:=abK
  wp_walk using abf hl,abf hb,wpAny_forIn_list _ (λrest b s'=>b.1=none∧s'=⟨hp,g,d,tk,os⟩∧(rest=[(Value.int a1 t1,Value.int b1 u1),(Value.int a2 t2,Value.int b2 u2)]∨(rest=[(Value.int a2 t2,Value.int b2 u2)]∧a1=b1)∨(rest=[]∧a1=b1∧a2=b2))) _
  case turn=>
   rintro ⟨y,x⟩ rest b s' ⟨hb',rfl,hr⟩
   rcases hr with hr | ⟨hr,e1⟩ | ⟨hr,_,_⟩
   ·cases hr
    obtain ⟨e,he,hiff⟩:=HT.ue A.in1 ⟨hp,g,d,tk,os⟩ a1 t1 b1 u1
    refine XS (he prog w _ _ ?_)
    cases e with
    | true=>
     wp_walk
     exact ⟨rfl,rfl,.inr (.inl ⟨rfl,hiff.mp rfl⟩)⟩
    | false=>
     have ne:¬ a1=b1:=λq=>absurd (hiff.mpr q) YH
     have RX:=vA A.in1 ⟨hp,g,d,tk,os⟩ a1 t1 b1 u1 prog w
     have hg:vz (a1,a2) (b1,b2)=decide (a1 > b1):=by simp [vz,ne]
     rw [hg] at h
     wp_walk using RX
     exact ⟨_,rfl,by simpa using h⟩
   ·cases hr
    obtain ⟨e,he,hiff⟩:=HT.ue A.in1 ⟨hp,g,d,tk,os⟩ a2 t2 b2 u2
    refine XS (he prog w _ _ ?_)
    cases e with
    | true=>
     wp_walk
     exact ⟨rfl,rfl,.inr (.inr ⟨rfl,e1,hiff.mp rfl⟩)⟩
    | false=>
     have RX:=vA A.in1 ⟨hp,g,d,tk,os⟩ a2 t2 b2 u2 prog w
     have hg:vz (a1,a2) (b1,b2)=decide (a2 > b2):=by simp [vz,e1]
     rw [hg] at h
     wp_walk using RX
     exact ⟨_,rfl,by simpa using h⟩
   ·cases hr
  case fin=>
   rintro ⟨q1,q2⟩ s' ⟨hb',rfl,hr⟩
   simp only at hb'
   subst hb'
   rcases hr with hr | ⟨hr,e1⟩ | ⟨hr,e1,e2⟩
   ·cases hr
   ·cases hr
   ·have hg:vz (a1,a2) (b1,b2)=false:=by simp [vz,e1,e2]
    rw [hg] at h
    wp_walk
    exact ⟨_,rfl,by simpa [Builtin.Tuple.tupleCompareSizes] using h⟩
  case h=>
   exact ⟨rfl,rfl,.inl rfl⟩
end
noncomputable def xC (h:Heap) (a:Addr) (v:Int×Int):Prop:=∃ t u,IsTup h a #[.int v.1 t,.int v.2 u]
theorem Hr {v:Int×Int} (hl:xC s.heap l v) (hb:xC s.heap b v') (hu:A.units<cLine) (h:Q (.bool (vz v v')) s):Ye (model prog w) A (richCompare .Gt (.ref l) (.ref b)) Q E s:=by
 obtain ⟨t1,t2,⟨cls,dd,data,sl⟩,ho,hc,n,hd⟩:=hl
 obtain ⟨u1,u2,⟨EZ,dd2,data2,sl2⟩,ho2,hc2,n2,hd2⟩:=hb
 simp only at hc hd hc2 hd2
 subst hc hd hc2 hd2
 exact richCompare_meets_room (op:=.Gt) ⟨_,ho,rfl⟩ ⟨_,ho2,rfl⟩ PySem.F.slot_tuple_gt PySem.F.entry_tuple_gt (PySem.F.args_tuple_gt_2 _ _) (Hq l b v.1 v.2 v'.1 v'.2 t1 t2 u1 u2 n n2 dd dd2 sl sl2)
  ⟨ho,ho2,show Value.bool (vz v v')≠Value.notImplemented∧Q (.bool (vz v v')) s from ⟨(λx=>nomatch x),h⟩⟩ hu
end
section
open PyProof.Rows
theorem xC.keep {v:Int×Int} (x:xC h a v) (k:∀ o,h.get? a=some o→h'.get? a=some o):xC h' a v:=let ⟨t,u,o,e,r⟩:=x;⟨t,u,o,k o e,r⟩
noncomputable def pL (P:Nat→XR→Prop) (wr:List Addr) (S:Addr) (val:Nat→Int×Int) (h:Heap):Prop:=∀ i v,P i v→∃ a,v=.ref a∧a∉wr∧a≠S∧xC h a (val i)
theorem pL.keep {P:Nat→XR→Prop} {S:Addr} {val:Nat→Int×Int} (x:pL P wr S val h) (k:∀ b o,b∉wr→b≠S→h.get? b=some o→h'.get? b=some o):pL P wr S val h':=
 λi v p=>let ⟨a,e,n1,n2,q⟩:=x i v p;⟨a,e,n1,n2,q.keep λo e=>k a o n1 n2 e⟩
section
variable {prog:Yw} {w:YM} {A:Around} {R:Result→XX→Prop} {I:Addr} {fp wr:List Addr} {n:Nat} {P:Nat→XR→Prop} {St:Nat→Heap→Prop}
theorem Az (W:Walks prog w A.in1 I fp wr n P St) (val:Nat→Int×Int) (S:Addr) (hSf:S∉fp) (hu:A.in1.units<cLine) :
  ∀ (k j:Nat) (s:XX) (vb:XR) (c:Nat),n - (j+1)=k→j+1≤n→St (j+1) s.heap→P (argBest (λi j=>vz (val i) (val j)) j) vb→pL P wr S val s.heap →
  s.heap.get? S=some {cls:=.type "list",dict:=none,data:=.seq #[vb,vb] c,slots:=#[]} →
  (∀ v h' tk,P (argBest (λi j=>vz (val i) (val j)) (n - 1)) v→(∀ b o,b∉wr→b≠S→s.heap.get? b=some o→h'.get? b=some o)→R (.ok (.ret v)) {s with heap:=h',toks:=tk}) →
  codeAny (model prog w) A (.builtin "max.loop" ⟨[.ref I,.none,.ref S],[]⟩) R s:=by
 have PV:S∉wr:=λh=>hSf (W.sub _ h)
 have hname:(toString "max"++toString ".loop":String)="max.loop":=by decide
 intro k
 induction k with
 | zero=>
  intro j s vb c hk hj hst PX hT hS hR
  have hin:j+1=n:=by nofun
  refine codeAny_builtin abT ?_
  rw [aaa ZN _]
  show Ye _ A.in1 (seqItems? (.ref S) >>= _) _ _ s
  refine XS (aaj hS rfl ?_)
  show Ye _ A.in1 (tryCatch (pyNext (.ref I)) _ >>= _) _ _ s
  refine XS (aby (W.done s _ _ (hin▸hst) λh' tk hk'=>?_))
  have hS':=hk' S _ PV hS
  show Ye _ A.in1 (updateSeq S (λ_=>#[]) >>= _) _ _ _
  refine XS ?_
  refine aaN hS' rfl (XS (abD (Yc ?_)))
  refine hR vb _ tk (by rw [← hin];exact PX) λb o Es Et e=>(Yt _ _ (Y6 Et)).trans (hk' b o Es e)
 | succ k ih=>
  intro j s vb c hk hj hst PX hT hS hR
  have hlt:j+1<n:=by nofun
  refine codeAny_builtin abT ?_
  rw [aaa ZN _]
  show Ye _ A.in1 (seqItems? (.ref S) >>= _) _ _ s
  refine XS (aaj hS rfl ?_)
  show Ye _ A.in1 (tryCatch (pyNext (.ref I)) _ >>= _) _ _ s
  refine XS (aby (W.item (j+1) s _ _ hlt hst λv h' tk hP uK hk'=>?_))
  have hS':=hk' S _ PV hS
  have PY:pL P wr S val h':=hT.keep λb o hb _ e=>hk' b o hb e
  obtain ⟨av,rfl,-,-,VO⟩:=PY _ _ hP
  obtain ⟨ab,rfl,-,-,VP⟩:=PY _ _ PX
  show Ye _ A.in1 (tryCatch (holding [.ref av,.ref av] (richCompare .Gt (.ref av) (.ref ab) >>= _)) _ >>= _) _ _ _
  refine XS (aby (aau (XS (Hr (s:={s with heap:=h',toks:=tk}) VO VP hu ?_))))
  refine XS (aau (Z3 ?_))
  refine XS (abD (Yc ?_))
  cases hb:vz (val (j+1)) (val (argBest (λi j=>vz (val i) (val j)) j)) with
  | true=>
   simp only [if_true]
   refine XS ?_
   refine aaN hS' rfl (XS (abD ?_))
   rw [hname]
   refine Yc ⟨plainId_quiet ZN _,ih (j+1) _ (.ref av) _ (by nofun) hlt (W.frame _ _ _ uK λb RY o e=>?_) (by simp only [argBest,hb,if_true];exact hP) (PY.keep λb o _ Et e=>(Yt _ _ (Y6 Et)).trans e) (YB _ hS' rfl)
    λv' h'' DF OH DG=>?_⟩
   ·exact (Yt _ _ (λh:S=b=>hSf (by rw [h];exact RY))).trans e
   ·exact hR v' h'' DF OH λb o Es Et e=>DG b o Es Et ((Yt _ _ (Y6 Et)).trans (hk' b o Es e))
  | false=>
   simp only [acR,if_false]
   refine XS (abD ?_)
   rw [hname]
   refine Yc ⟨plainId_quiet ZN _,ih (j+1) _ (.ref ab) c (by nofun) hlt uK (by simp only [argBest,hb,acR,if_false];exact PX) PY hS' λv' h'' DF OH DG=>?_⟩
   exact hR v' h'' DF OH λb o Es Et e=>DG b o Es Et (hk' b o Es e)
theorem AA {E:XR→XX→Prop} {s:XX} {x:XR} (hu:A.in1.units<cLine)
  (h:Ye (model prog w) A.in1 (pyIter x) (λit s₂=>∃ I fp wr n P St val,it=.ref I∧Walks prog w A.in1 I fp wr n P St∧St 0 s₂.heap∧(∀ b∈fp,b<s₂.heap.objs.size)∧0<n∧pL P wr s₂.heap.objs.size val s₂.heap ∧
   ∀ v h' tk,P (argBest (λi j=>vz (val i) (val j)) (n - 1)) v→(∀ b o,b∉wr→s₂.heap.get? b=some o→h'.get? b=some o)→Q v {s₂ with heap:=h',toks:=tk}) E s) :
  Ye (model prog w) A (call (.builtin "max") [x]) Q E s:=by
 have hname:(toString "max"++toString ".loop":String)="max.loop":=by decide
 refine call_function_tree F.kind_max F.plain_max F.entry_max (F.args_max1 _) ?_
 show Ye _ A.in1 (abq "max" ["key","default"] 0 ⟨[],[]⟩ >>= _) _ _ s
 refine XS (aal (show abq "max" ["key","default"] 0 ⟨[],[]⟩=pure [none,none] from rfl) ?_)
 refine XS (Yc ?_)
 refine XS (YG h (λit s₂ h₂=>?_) λ_ _ e=>e)
 obtain ⟨I,fp,wr,n,P,St,val,rfl,W,hst,hfp,hn,hT,hQ⟩:=h₂
 refine XS (YC ?_)
 have hSf:s₂.heap.objs.size∉fp:=λhm=>YY _ (hfp _ hm)
 have PV:s₂.heap.objs.size∉wr:=λh=>hSf (W.sub _ h)
 rw [hname]
 refine Yc ⟨plainId_quiet ZN _,codeAny_builtin abT ?_⟩
 rw [aaa ZN _]
 show Ye _ A.in1 (seqItems? (.ref s₂.heap.objs.size) >>= _) _ _ _
 refine XS (aaj (X6 _ rfl) rfl ?_)
 have RZ:=W.frame _ _ (s₂.heap.push {cls:=.type "list",data:=.seq #[]}) hst λb _ o e=>XW _ e
 show Ye _ A.in1 (tryCatch (pyNext (.ref I)) _ >>= _) _ _ _
 refine XS (aby (W.item 0 _ _ _ hn RZ λv h' tk hP uK hk'=>?_))
 have hS':=hk' s₂.heap.objs.size _ PV (X6 _ rfl)
 show Ye _ A.in1 (updateSeq s₂.heap.objs.size (λ_=>#[v,v]) >>= _) _ _ _
 refine XS ?_
 refine aaN hS' rfl ?_
 rw [hname]
 have hT1:pL P wr s₂.heap.objs.size val h':=hT.keep λb o hb hS e=>hk' b o hb (XW _ e)
 refine Yc ⟨plainId_quiet ZN _,Az W val s₂.heap.objs.size hSf hu _ 0 _ v _ rfl hn (W.frame _ _ _ uK λb RY o e=>?_) hP (hT1.keep λb o _ Et e=>(Yt _ _ (Y6 Et)).trans e) (YB _ hS' rfl) λv' h'' DF OH DG=>?_⟩
 ·exact (Yt _ _ (λh:s₂.heap.objs.size=b=>hSf (by rw [h];exact RY))).trans e
 ·exact hQ v' h'' DF OH λb o Es e=>DG b o Es (Yg (X0 e)) ((Yt _ _ (abm (X0 e))).trans (hk' b o Es (XW _ e)))
end
end
section
open PyProof.Rows
theorem vB:∀ {ds:List D} {bs:List (Int×Int)},nv ds=some bs→ds.length=bs.length∧∀ i:Nat,i<bs.length→ds[i]?=some (.tup [.int (bs.getD i (0,0)).1,.int (bs.getD i (0,0)).2])
 | [],bs,e=>by cases e;exact ⟨rfl,λi h=>by simp at h⟩
 | d::ds,bs,e=>by
  unfold nv at e
  split at e
  ·rename_i hh;cases hh
  ·rename_i a b r hh
   cases hh
   cases q:nv ds with
   | none=>rw [q] at e;cases e
   | some bs'=>
    rw [q] at e;cases e
    obtain ⟨h1,h2⟩:=vB q
    refine ⟨by simp [h1],λi hi=>?_⟩
    cases i with
    | zero=>rfl
    | succ i=>simpa using h2 i (by simpa using hi)
  ·cases e
section
variable {X:Cx} {EE:bO} {e:Expr} {m:DS→M (List D)} {pos p:Pos}
theorem xE (hc:X.calm=true) (hu:X.A.in1.units<cLine):cV X (.builtin "max") (zE X EE rB):=by
 intro pins s σ0 H xs us Q I r zu
 obtain ⟨σ,τ,ρ,G,ds,ab,rs,ok⟩:=zu
 match ds,ok with
 | [],ok=>exact ok.elim
 | _::_::_,ok=>exact ok.elim
 | [d],ok=>
  obtain ⟨x,rfl,rx⟩:=fX rs
  obtain ⟨u,rfl,ru⟩:=vals1 r
  dsimp only [rB] at ok
  cases q:aD G d with
  | none=>rw [q] at ok;exact ok.elim
  | some sk=>
   rw [q] at ok
   cases sk with
   | tup zs=>exact ok.elim
   | str z=>exact ok.elim
   | lst zs=>
    dsimp only at ok
    cases qb:nv zs with
    | none=>rw [qb] at ok;exact ok.elim
    | some bs=>
     rw [qb] at ok
     dsimp only at ok
     by_cases h0:0<bs.length
     ·rw [if_pos h0] at ok
      obtain ⟨p,vs,rfl,sq,rv⟩:=bC (pins:=pins) (σ0:=σ0) (s:=s) ab.hp rx q
      cases ru
      obtain ⟨its,vv,pl,hz⟩:=I.list sq
      obtain ⟨hl1,hat⟩:=vB qb
      have hlen:its.length=bs.length:=by rw [← vv.length,← rv.length,hl1]
      have hit:∀ (i:Nat) (v:XR),its[i]?=some v→∃ a,v=.ref a∧a<s.heap.objs.size∧xC s.heap a (bs.getD i (0,0))∧Rep X.K X.mg ρ H (.tup [.int (bs.getD i (0,0)).1,.int (bs.getD i (0,0)).2]) (.ref a):=by
       intro i v hv
       have hi:i<bs.length:=by rw [← hlen];exact (XY.mp hv).1
       obtain ⟨w,hw,rw'⟩:=rv.get (hat i hi)
       obtain ⟨u,TU,VQ⟩:=vv.get hw
       rw [hv] at TU;cases TU
       have rr:=rw'
       unfold Rep at rr
       obtain ⟨a,ys,rfl,VR,IB⟩:=rr
       cases VQ
       obtain ⟨W4,jv,jl,_⟩:=I.tuple VR.t
       obtain ⟨y1,y2,rfl,k1,k2⟩:∃ y1 y2,ys=[y1,y2]∧Rep X.K X.mg ρ H (.int (bs.getD i (0,0)).1) y1∧Rep X.K X.mg ρ H (.int (bs.getD i (0,0)).2) y2:=by
        unfold aq at IB
        obtain ⟨y1,r1,rfl,k1,IB⟩:=IB
        unfold aq at IB
        obtain ⟨y2,r2,rfl,k2,IB⟩:=IB
        unfold aq at IB
        subst IB
        exact ⟨y1,y2,rfl,k1,k2⟩
       unfold Rep at k1 k2
       subst k1 k2
       cases jv with
       | cons j1 jv=>
        cases jv with
        | cons j2 jv=>
         cases jv
         obtain ⟨t1,rfl⟩:=j1
         obtain ⟨t2,rfl⟩:=j2
         exact ⟨a,rfl,(by obtain ⟨_,e,_⟩:=jl;exact X0 e),⟨t1,t2,jl⟩,rw'⟩
      have hl:=pl.isList
      have hlt:p<s.heap.objs.size:=by obtain ⟨_,e,_⟩:=hl;exact X0 e
      refine gR I.os.2 (AA hu (aa2 hl ?_))
      refine ⟨s.heap.objs.size,[s.heap.objs.size,p],[s.heap.objs.size],its.toArray.size,_,_,λi=>bs.getD i (0,0),rfl,adu (A:=X.A.in1) (I.ok.hd hc) _ p (Yg hlt) _,
       ⟨⟨_,X6 _ rfl,rfl,rfl⟩,hl.push _⟩,λb hb=>?_,by simp;nofun,λi v hv=>?_,λv h' tk hv hk ht=>?_⟩
      ·show b<(s.heap.push _).objs.size
       rw [Zg]
       rcases Yn.mp hb with rfl | hb
       ·exact Zd _
       ·rw [Yk.mp hb];exact ZH hlt
      ·obtain ⟨a,rfl,ha,Hs,_⟩:=hit i v (by simpa using hv)
       refine ⟨a,rfl,by simp;exact Yg ha,?_,Hs.keep λo e=>XW _ e⟩
       show a≠(s.heap.push _).objs.size
       rw [Zg]
       exact Yg (ZH ha)
      ·rw [show its.toArray.size=bs.length by simpa using hlen] at hv
       obtain ⟨a,rfl,ha,Hs,hrep⟩:=hit _ v (by simpa using hv)
       exact ⟨.ref a,H,I.kept (t':=tk) (kU hk),rfl,ok _ H ρ .refl ab hrep⟩
     ·rw [if_neg h0] at ok;exact ok.elim
theorem Ht (hc:X.calm=true) (hu:X.A.units+600<cLine) (hm:X.mg "max"=none) (hg:Gl X "max") (ha:QA X EE [e] m) (h:ao [e]=true:=by rfl):QE X EE (.Call (.Name "max" p) [e] [] pos) (ai rB m):=iX (xE hc (by rw [show X.A.in1.units=X.A.units+1 from rfl];nofun)) hm hg aa7 ha (by decide) (by decide) h
end
end
section
variable {τ r:DS} {G:DH} {x y d:D} {f:D→D→M D} {ma mb:DS→M D} {ml:DS→M (List D)} {a b c e g h i j k l m n o:Option D}
@[simp high] theorem W5:(a::r)[0]?=some a:=X5 rfl rfl
@[simp high] theorem W6 {w:Option D}:(a::r).set 0 w=w::r:=X5 rfl rfl
@[simp high] theorem PD:af 0 (some x::r) G=.ok x G:=X5 rfl rfl
@[simp high] theorem VS:aj f (af 0) (eC d) (some x::r) G=f x d G:=X5 rfl rfl
@[simp high] theorem W7:aj f (af 0) mb (some x::r) G=(mb (some x::r) G).bd (f x):=ak
@[simp high] theorem R0:aa (af 0) ml (some x::r) G=(ml (some x::r) G).bd λz=>M.ret (x::z):=ak
@[simp high] theorem W8:(a::b::r)[1]?=some b:=X5 rfl rfl
@[simp high] theorem VT {w:Option D}:(a::b::r).set 1 w=a::w::r:=X5 rfl rfl
@[simp high] theorem W9:af 1 (a::some x::r) G=.ok x G:=X5 rfl rfl
@[simp high] theorem R3:aj f (af 1) (eC d) (a::some x::r) G=f x d G:=X5 rfl rfl
@[simp high] theorem TV:aj f (af 1) mb (a::some x::r) G=(mb (a::some x::r) G).bd (f x):=ak
@[simp high] theorem TX:aa (af 1) ml (a::some x::r) G=(ml (a::some x::r) G).bd λz=>M.ret (x::z):=ak
@[simp high] theorem TY:(a::b::c::r)[2]?=some c:=X5 rfl rfl
@[simp high] theorem TZ {w:Option D}:(a::b::c::r).set 2 w=a::b::w::r:=X5 rfl rfl
@[simp high] theorem RJ:af 2 (a::b::some x::r) G=.ok x G:=X5 rfl rfl
@[simp high] theorem VU:aj f (af 2) (eC d) (a::b::some x::r) G=f x d G:=X5 rfl rfl
@[simp high] theorem VW:aj f (af 2) mb (a::b::some x::r) G=(mb (a::b::some x::r) G).bd (f x):=ak
@[simp high] theorem T3:aa (af 2) ml (a::b::some x::r) G=(ml (a::b::some x::r) G).bd λz=>M.ret (x::z):=ak
@[simp high] theorem Xa:(a::b::c::e::r)[3]?=some e:=X5 rfl rfl
@[simp high] theorem T4 {w:Option D}:(a::b::c::e::r).set 3 w=a::b::c::w::r:=X5 rfl rfl
@[simp high] theorem T5:af 3 (a::b::c::some x::r) G=.ok x G:=X5 rfl rfl
@[simp high] theorem VX:aj f (af 3) (eC d) (a::b::c::some x::r) G=f x d G:=X5 rfl rfl
@[simp high] theorem Xb:aj f (af 3) mb (a::b::c::some x::r) G=(mb (a::b::c::some x::r) G).bd (f x):=ak
@[simp high] theorem T6:aa (af 3) ml (a::b::c::some x::r) G=(ml (a::b::c::some x::r) G).bd λz=>M.ret (x::z):=ak
@[simp high] theorem Xd:(a::b::c::e::g::r)[4]?=some g:=X5 rfl rfl
@[simp high] theorem OI {w:Option D}:(a::b::c::e::g::r).set 4 w=a::b::c::e::w::r:=X5 rfl rfl
@[simp high] theorem VY:af 4 (a::b::c::e::some x::r) G=.ok x G:=X5 rfl rfl
@[simp high] theorem VZ:aj f (af 4) (eC d) (a::b::c::e::some x::r) G=f x d G:=X5 rfl rfl
@[simp high] theorem Xe:aj f (af 4) mb (a::b::c::e::some x::r) G=(mb (a::b::c::e::some x::r) G).bd (f x):=ak
@[simp high] theorem T7:aa (af 4) ml (a::b::c::e::some x::r) G=(ml (a::b::c::e::some x::r) G).bd λz=>M.ret (x::z):=ak
@[simp high] theorem Xf:(a::b::c::e::g::h::r)[5]?=some h:=X5 rfl rfl
@[simp high] theorem OJ {w:Option D}:(a::b::c::e::g::h::r).set 5 w=a::b::c::e::g::w::r:=X5 rfl rfl
@[simp high] theorem V0:af 5 (a::b::c::e::g::some x::r) G=.ok x G:=X5 rfl rfl
@[simp high] theorem V1:aj f (af 5) (eC d) (a::b::c::e::g::some x::r) G=f x d G:=X5 rfl rfl
@[simp high] theorem Xg:aj f (af 5) mb (a::b::c::e::g::some x::r) G=(mb (a::b::c::e::g::some x::r) G).bd (f x):=ak
@[simp high] theorem T8:aa (af 5) ml (a::b::c::e::g::some x::r) G=(ml (a::b::c::e::g::some x::r) G).bd λz=>M.ret (x::z):=ak
@[simp high] theorem Xh:(a::b::c::e::g::h::i::r)[6]?=some i:=X5 rfl rfl
@[simp high] theorem PZ {w:Option D}:(a::b::c::e::g::h::i::r).set 6 w=a::b::c::e::g::h::w::r:=X5 rfl rfl
@[simp high] theorem Xi:af 6 (a::b::c::e::g::h::some x::r) G=.ok x G:=X5 rfl rfl
@[simp high] theorem V2:aj f (af 6) (eC d) (a::b::c::e::g::h::some x::r) G=f x d G:=X5 rfl rfl
@[simp high] theorem Xj:aj f (af 6) mb (a::b::c::e::g::h::some x::r) G=(mb (a::b::c::e::g::h::some x::r) G).bd (f x):=ak
@[simp high] theorem Xk:aa (af 6) ml (a::b::c::e::g::h::some x::r) G=(ml (a::b::c::e::g::h::some x::r) G).bd λz=>M.ret (x::z):=ak
@[simp high] theorem Xl:(a::b::c::e::g::h::i::j::r)[7]?=some j:=X5 rfl rfl
@[simp high] theorem R4 {w:Option D}:(a::b::c::e::g::h::i::j::r).set 7 w=a::b::c::e::g::h::i::w::r:=X5 rfl rfl
@[simp high] theorem Xm:af 7 (a::b::c::e::g::h::i::some x::r) G=.ok x G:=X5 rfl rfl
@[simp high] theorem V3:aj f (af 7) (eC d) (a::b::c::e::g::h::i::some x::r) G=f x d G:=X5 rfl rfl
@[simp high] theorem Xn:aj f (af 7) mb (a::b::c::e::g::h::i::some x::r) G=(mb (a::b::c::e::g::h::i::some x::r) G).bd (f x):=ak
@[simp high] theorem Xo:aa (af 7) ml (a::b::c::e::g::h::i::some x::r) G=(ml (a::b::c::e::g::h::i::some x::r) G).bd λz=>M.ret (x::z):=ak
@[simp high] theorem Xp:(a::b::c::e::g::h::i::j::k::r)[8]?=some k:=X5 rfl rfl
@[simp high] theorem V4 {w:Option D}:(a::b::c::e::g::h::i::j::k::r).set 8 w=a::b::c::e::g::h::i::j::w::r:=X5 rfl rfl
@[simp high] theorem Xq:af 8 (a::b::c::e::g::h::i::j::some x::r) G=.ok x G:=X5 rfl rfl
@[simp high] theorem V5:aj f (af 8) (eC d) (a::b::c::e::g::h::i::j::some x::r) G=f x d G:=X5 rfl rfl
@[simp high] theorem Xr:aj f (af 8) mb (a::b::c::e::g::h::i::j::some x::r) G=(mb (a::b::c::e::g::h::i::j::some x::r) G).bd (f x):=ak
@[simp high] theorem Xs:aa (af 8) ml (a::b::c::e::g::h::i::j::some x::r) G=(ml (a::b::c::e::g::h::i::j::some x::r) G).bd λz=>M.ret (x::z):=ak
@[simp high] theorem Xu:(a::b::c::e::g::h::i::j::k::l::r)[9]?=some l:=X5 rfl rfl
@[simp high] theorem Xv {w:Option D}:(a::b::c::e::g::h::i::j::k::l::r).set 9 w=a::b::c::e::g::h::i::j::k::w::r:=X5 rfl rfl
@[simp high] theorem Xw:af 9 (a::b::c::e::g::h::i::j::k::some x::r) G=.ok x G:=X5 rfl rfl
@[simp high] theorem V6:aj f (af 9) (eC d) (a::b::c::e::g::h::i::j::k::some x::r) G=f x d G:=X5 rfl rfl
@[simp high] theorem Xx:aj f (af 9) mb (a::b::c::e::g::h::i::j::k::some x::r) G=(mb (a::b::c::e::g::h::i::j::k::some x::r) G).bd (f x):=ak
@[simp high] theorem Xy:aa (af 9) ml (a::b::c::e::g::h::i::j::k::some x::r) G=(ml (a::b::c::e::g::h::i::j::k::some x::r) G).bd λz=>M.ret (x::z):=ak
@[simp high] theorem V7:(a::b::c::e::g::h::i::j::k::l::m::r)[10]?=some m:=X5 rfl rfl
@[simp high] theorem V8 {w:Option D}:(a::b::c::e::g::h::i::j::k::l::m::r).set 10 w=a::b::c::e::g::h::i::j::k::l::w::r:=X5 rfl rfl
@[simp high] theorem V9:af 10 (a::b::c::e::g::h::i::j::k::l::some x::r) G=.ok x G:=X5 rfl rfl
@[simp high] theorem T9:aj f (af 10) (eC d) (a::b::c::e::g::h::i::j::k::l::some x::r) G=f x d G:=X5 rfl rfl
@[simp high] theorem Wa:aj f (af 10) mb (a::b::c::e::g::h::i::j::k::l::some x::r) G=(mb (a::b::c::e::g::h::i::j::k::l::some x::r) G).bd (f x):=ak
@[simp high] theorem Wb:aa (af 10) ml (a::b::c::e::g::h::i::j::k::l::some x::r) G=(ml (a::b::c::e::g::h::i::j::k::l::some x::r) G).bd λz=>M.ret (x::z):=ak
@[simp high] theorem Wc:(a::b::c::e::g::h::i::j::k::l::m::n::r)[11]?=some n:=X5 rfl rfl
@[simp high] theorem Wd {w:Option D}:(a::b::c::e::g::h::i::j::k::l::m::n::r).set 11 w=a::b::c::e::g::h::i::j::k::l::m::w::r:=X5 rfl rfl
@[simp high] theorem We:af 11 (a::b::c::e::g::h::i::j::k::l::m::some x::r) G=.ok x G:=X5 rfl rfl
@[simp high] theorem Ua:aj f (af 11) (eC d) (a::b::c::e::g::h::i::j::k::l::m::some x::r) G=f x d G:=X5 rfl rfl
@[simp high] theorem Wf:aj f (af 11) mb (a::b::c::e::g::h::i::j::k::l::m::some x::r) G=(mb (a::b::c::e::g::h::i::j::k::l::m::some x::r) G).bd (f x):=ak
@[simp high] theorem Wg:aa (af 11) ml (a::b::c::e::g::h::i::j::k::l::m::some x::r) G=(ml (a::b::c::e::g::h::i::j::k::l::m::some x::r) G).bd λz=>M.ret (x::z):=ak
@[simp high] theorem Wh:(a::b::c::e::g::h::i::j::k::l::m::n::o::r)[12]?=some o:=X5 rfl rfl
@[simp high] theorem Wi {w:Option D}:(a::b::c::e::g::h::i::j::k::l::m::n::o::r).set 12 w=a::b::c::e::g::h::i::j::k::l::m::n::w::r:=X5 rfl rfl
@[simp high] theorem Wj:af 12 (a::b::c::e::g::h::i::j::k::l::m::n::some x::r) G=.ok x G:=X5 rfl rfl
@[simp high] theorem Ub:aj f (af 12) (eC d) (a::b::c::e::g::h::i::j::k::l::m::n::some x::r) G=f x d G:=X5 rfl rfl
@[simp high] theorem Wl:aj f (af 12) mb (a::b::c::e::g::h::i::j::k::l::m::n::some x::r) G=(mb (a::b::c::e::g::h::i::j::k::l::m::n::some x::r) G).bd (f x):=ak
@[simp high] theorem Wm:aa (af 12) ml (a::b::c::e::g::h::i::j::k::l::m::n::some x::r) G=(ml (a::b::c::e::g::h::i::j::k::l::m::n::some x::r) G).bd λz=>M.ret (x::z):=ak
@[simp high] theorem Xz:aj f (eC x) (eC d) τ G=f x d G:=X5 rfl rfl
@[simp high] theorem XA:aj f (eC x) mb τ G=(mb τ G).bd (f x):=ak
@[simp] theorem XC:aj f ma (eC d) τ G=(ma τ G).bd λx=>f x d:=ak
@[simp high] theorem acl:aa (eC x) ml τ G=(ml τ G).bd λz=>M.ret (x::z):=ak
@[simp high] theorem XE:aa (eC x) ah τ G=.ok [x] G:=X5 rfl rfl
end
end L3
namespace K42
noncomputable section
open PySem PySem.Spec L2 L3
def top (i:Nat):Stmt:=PySem.Challenge.pw_pathshape_k42_says.main.body.getD i (.Pass ⟨0,0,0,0⟩)
abbrev tw:Stmt:=top 2
abbrev tB:Stmt:=top 3
abbrev DI:Stmt:=top 4
abbrev LP:Stmt:=top 6
abbrev tE:Stmt:=top 8
abbrev AB:Stmt:=top 9
abbrev pM:Stmt:=top 10
abbrev xF:Stmt:=top 11
abbrev xG:Stmt:=top 13
abbrev tF:Stmt:=top 14
abbrev tG:Stmt:=top 15
abbrev vC:Stmt:=top 16
abbrev qu:Stmt:=top 17
abbrev qv:Stmt:=top 18
abbrev vE:Stmt:=top 19
abbrev xH:Stmt:=top 20
abbrev vF:Stmt:=top 21
abbrev qw:Stmt:=top 22
abbrev lW:Stmt:=top 23
abbrev tH:Stmt:=top 24
abbrev xJ:Stmt:=top 25
abbrev tK:Stmt:=top 26
abbrev vG:Stmt:=top 27
abbrev IC:Stmt:=top 28
abbrev jG:Stmt:=(yP (top 7)).getD 0 (.Pass ⟨0,0,0,0⟩)
abbrev jH:Stmt:=(yP (top 7)).getD 1 (.Pass ⟨0,0,0,0⟩)
abbrev gb:Stmt:=(bS pM).getD 0 (.Pass ⟨0,0,0,0⟩)
abbrev lA:gU:=⟨"<lambda>","holds_by.<locals>.<lambda>",GH (yN gb),.expr (GI (yN gb)),CZ (yN gb),(yN gb).pos,["seen","marked","kind"]⟩
abbrev tL:List Str:=["look"]
def dN:MS:=az (gJ (cW (aj (gj false) (aj aU (af 0) (eC (.int 0))) (eC (.str "way")))) (Iv) (bf)) (az (gJ (cW (aj (t7 false) (aj aU (af 0) (eC (.int 0))) (ai aY (aa (eC (.str "not")) (aa (eC (.str "both")) (aa (eC (.str "either")) (ah))))))) (bJ (eFn (ai mK (aa (eFn (l6 (af 0) (bR (eC (.int 1))) (fP))) (ah))))) (bf)) (bJ (eFn (ai aI (ah)))))
def cS (ds:List D):M D:=cB (λds=>bQ 1 dN ds) ds
abbrev tM:List Str:=["rows","goes"]
def gX:MS:=bJ (ai iP (aa (eFn (fk (oT 2) [false,true] (eN (aa (af 0) (ah))) (cW (aj (t7 false) (aj aU (af 1) (eC (.int 0))) (af 3))) (aj jU (eC (.int 1)) (af 0)))) (ah)))
def cF (ds:List D):M D:=cB (λds=>bQ 2 gX ds) ds
abbrev AD:List Str:=["j","seen"]
def kh:MS:=bJ (aj (gj false) (aj sP (aj GL (af 1) (af 0)) (eC (.int 1))) (eC (.int 1)))
def ki (ds:List D):M D:=cB (λds=>bQ 2 kh ds) ds
abbrev xK:List Str:=["_law_cell","_law_k","_law_digit","_law_j","_law_number"]
def gE:MS:=aF 2 (aj qN (af 2) (eC (.int 840)))
def gF:MS:=az (aF 2 (af 0)) (gx eF (gN 3) (aa (aj cL (af 1) (eC (.int 46))) (ah)) gE)
def jt:MS:=az (aF 2 (eC (.int 0))) (az (gJ (cW (aj Fo (af 0) (aj oA (eC (.int 10)) (eC (.int 9))))) (gF) (bf)) (az (gJ (cW (aj oB (af 2) (eC (.int 0)))) (bJ (aj cL (af 2) (eC (.int 840)))) (bf)) (az (aF 4 (aj aJ (aj aJ (aj cL (af 0) (eC (.int 1000000007))) (aj nE (eC (.int 7919)) (af 1))) (eC (.int 13)))) (az (aF 4 (aj cL (aj nE (af 4) (af 4)) (eC (.int 998244353)))) (bJ (aj qN (aj cL (aj nE (af 4) (aj aJ (aj aJ (af 4) (aj nE (eC (.int 16807)) (af 1))) (eC (.int 1)))) (eC (.int 1000000007))) (eC (.int 3))))))))
def ay (ds:List D):M D:=cB (λds=>bQ 5 jt ds) ds
abbrev qx:List Str:=["_law_masks_of","_law_bits_here","_law_here","_law_i","_law_mask"]
def dw:MS:=gJ (cW (aj (gj true) (aj sP (af 4) (af 1)) (eC (.int 0)))) (aF 2 (aj LA (af 2) (aj jU (eC (.int 1)) (af 3)))) (bf)
def iQ:MS:=az (aF 2 (eC (.int 0))) (az (kF (gP 3 4) (eN (aa (af 0) (ah))) dw) (bJ (af 2)))
def iR (ds:List D):M D:=cB (λds=>bQ 5 iQ ds) ds
abbrev nK:List Str:=["self","below","beside"]
def dQ:MS:=bJ (aj LA (aj sP (af 1) (vt "MaskBook" "into" (af 0))) (aj sP (af 2) (vt "MaskBook" "across" (af 0))))
def ck (ds:List D):M D:=bQ 3 dQ ds
abbrev tN:List Str:=["top","parts_of","found","waiting","one"]
def fC:MS:=az (aF 4 (cC "list" nF (af 3) ah)) (az (ig (cC "list" cE (af 2) (aa (af 4) (ah)))) (ig (cC "list" uR (af 3) (aa (eFn (ai uL (aa (kZ 1 1 (λy=>YU y [("look_parts",cS)]) (aa (af 4) (ah))) (ah)))) (ah)))))
def ju:MS:=az (aF 2 (ai aI (ah))) (az (aF 3 (ai aI (aa (af 0) (ah)))) (az (f6 (cW (aj oB (ai bY (aa (af 3) (ah))) (eC (.int 0)))) fC fuel) (bJ (sE (af 2)))))
def gY (ds:List D):M D:=cB (λds=>bQ 5 ju ds) ds
abbrev xM:List Str:=["look","parts","kind","marked","seen"]
def dO:MS:=az (gJ (cW (aj (gj false) (aj aU (af 0) (eC (.int 0))) (eC (.str "kind")))) (bJ (aj (gj false) (af 2) (aj aU (af 0) (eC (.int 1))))) (bf)) (az (gJ (cW (aj (gj false) (aj aU (af 0) (eC (.int 0))) (eC (.str "mark")))) (bJ (ai sY (aa (af 3) (ah)))) (bf)) (az (gJ (cW (aj (gj false) (aj aU (af 0) (eC (.int 0))) (eC (.str "from")))) (bJ (aA 2 ki (aa (aj aU (af 0) (eC (.int 1))) (aa (af 4) (ah))))) (bf)) (az (gJ (cW (aj (gj false) (aj aU (af 0) (eC (.int 0))) (eC (.str "not")))) (bJ (FE (aj aU (af 1) (eC (.int 0))))) (bf)) (az (gJ (cW (aj (gj false) (aj aU (af 0) (eC (.int 0))) (eC (.str "both")))) (bJ (BP (aj aU (af 1) (eC (.int 0))) (aj aU (af 1) (eC (.int 1))))) (bf)) (az (gJ (cW (aj (gj false) (aj aU (af 0) (eC (.int 0))) (eC (.str "either")))) (bJ (Ph (aj aU (af 1) (eC (.int 0))) (aj aU (af 1) (eC (.int 1))))) (bf)) (bJ (eC (.bl true))))))))
def jw (ds:List D):M D:=cB (λds=>bQ 5 dO ds) ds
abbrev tO:List Str:=["_law_script","_law_start","_law_cells_here"]
def jx:MS:=az (aF 2 (eFn (fk oN [true] (qU (aa (af 1) (aa (ai (fj λi j=>if j<i then j else i) (aa (ai bY (aa (af 0) (ah))) (aa (eC (.int 64)) (ah)))) (aa (eC (.int 2)) (ah))))) (dW) (aj aU (af 1) (af 0))))) (bJ (eFn (aj aJ (af 2) (eFn (dh eF oN [true,true] (aa (aj kO (eC (.int 6)) (ai bY (aa (af 2) (ah)))) (ah)) (dW) (aA 2 ay (aa (ai bY (aa (af 1) (ah))) (aa (aj aJ (aj aJ (eC (.int 40)) (af 2)) (af 0)) (ah)))))))))
def dP (ds:List D):M D:=cB (λds=>bQ 3 jx ds) ds
abbrev tP:List Str:=["_law_cell","_law_names_here","_law_word","_law_j","_law_wide","_law_place","_law_k","_law_name"]
def fD:MS:=aF 2 (aj aJ (af 2) (aj aU (eC (.str "abcdefghijklmnopqrstuvwxyz")) (aj cL (aA 2 ay (aa (af 0) (aa (aj aJ (eC (.int 32)) (af 3)) (ah)))) (eC (.int 26)))))
def iS:MS:=az (aF 2 (eC (.str "q"))) (az (gx eF (gN 3) (aa (eC (.int 7)) (ah)) fD) (bJ (eFn (dh eF oN [true,false,true] (aa (eC (.int 5)) (ah)) (dW) (eFn (l6 (af 3) (fP) (bR (aj aJ (aj aJ (eC (.int 1)) (aj cL (aA 2 ay (aa (af 1) (aa (eC (.int 43)) (ah)))) (eC (.int 4)))) (af 0)))))))))
def fE:MS:=aF 7 (aj aJ (af 7) (aj aU (eC (.str "abcdefghijklmnopqrstuvwxyz")) (aj cL (aj aJ (aA 2 ay (aa (af 0) (aa (aj aJ (eC (.int 32)) (af 3)) (ah)))) (aj nE (af 6) (ai iY (aa (aj (gj false) (af 3) (af 5)) (ah))))) (eC (.int 26)))))
def fF:MS:=az (gJ (cW (aj (t7 false) (af 7) (eFn (ai aI (aa (eC (.str "start")) (aa (eC (.str "rule")) (aa (eC (.str "row")) (aa (eC (.str "mix")) (aa (eC (.str "many")) (aa (eC (.str "any")) (aa (eC (.str "kind")) (aa (eC (.str "not")) (aa (eC (.str "both")) (aa (eC (.str "either")) (aa (eC (.str "way")) (aa (eC (.str "mark")) (ah))))))))))))))))) (aF 7 (aj aJ (af 7) (eC (.str "z")))) (bf)) (ig (cC "list" cE (af 1) (aa (af 7) (ah))))
def fG:MS:=az (aF 7 (eC (.str ""))) (az (gx eF (gN 3) (aa (af 4) (ah)) fE) (fF))
def gZ:MS:=az (aF 1 (ai aI (ah))) (az (gJ (cW (aj (gj false) (aj cL (aA 2 ay (aa (af 0) (aa (eC (.int 40)) (ah)))) (eC (.int 3))) (eC (.int 0)))) (iS) (bf)) (az (aF 4 (aj aJ (eC (.int 1)) (aj cL (aA 2 ay (aa (af 0) (aa (eC (.int 41)) (ah)))) (eC (.int 8))))) (az (aF 5 (aj cL (aA 2 ay (aa (af 0) (aa (eC (.int 42)) (ah)))) (af 4))) (az (gx eF (gN 6) (aa (eC (.int 5)) (ah)) fG) (bJ (sE (af 1)))))))
def jz (ds:List D):M D:=cB (λds=>bQ 8 gZ ds) ds
abbrev vH:List Str:=["_law_cell","_law_names_here","_law_rows","_law_spot","_law_kind","_law_bits_here","_law_j","_law_row"]
def eY:MS:=aF 5 (aj LA (af 5) (aj jU (ai iY (aa (aj (gj false) (aj aU (af 7) (eC (.int 1))) (af 4)) (ah))) (af 6)))
def gG:MS:=az (gJ (cW (aj (gj false) (aj cL (aA 2 ay (aa (af 0) (aa (eC (.int 10)) (ah)))) (eC (.int 5))) (eC (.int 1)))) (bJ (ai aY (aa (ai aY (aa (eC (.str "mark")) (ah))) (aa (af 3) (aa (eC (.int 1)) (aa (eC (.int 1)) (ah))))))) (bf)) (az (gJ (cW (aj (gj false) (aj cL (aA 2 ay (aa (af 0) (aa (eC (.int 10)) (ah)))) (eC (.int 5))) (eC (.int 0)))) (bJ (ai aY (aa (ai aY (aa (eC (.str "any")) (ah))) (aa (aj kO (aj jU (eC (.int 1)) (ai bY (aa (af 2) (ah)))) (eC (.int 1))) (aa (eC (.int 1)) (aa (eC (.int 1)) (ah))))))) (bf)) (az (aF 4 (aj aU (af 1) (aj cL (aA 2 ay (aa (af 0) (aa (eC (.int 14)) (ah)))) (eC (.int 5))))) (az (aF 5 (eC (.int 0))) (az (kF (gP 6 7) (eN (aa (af 2) (ah))) eY) (bJ (ai aY (aa (ai aY (aa (eC (.str "kind")) (aa (af 4) (ah)))) (aa (af 5) (aa (eC (.int 1)) (aa (eC (.int 1)) (ah)))))))))))
def fR (ds:List D):M D:=cB (λds=>bQ 8 gG ds) ds
abbrev qy:List Str:=["_law_pile_here","_law_cell","_law_every","_law_way_here","_law_one","_law_other","_law_many_here","_law_deep"]
def dz:MS:=az (aF 5 (aj aU (af 0) (mE (eC (.int 2))))) (az (aF 6 (aj aJ (aj aJ (aj aU (af 4) (eC (.int 2))) (aj aU (af 5) (eC (.int 2)))) (eC (.int 1)))) (az (aF 7 (aj aJ (ai (fj λi j=>if j > i then j else i) (aa (aj aU (af 4) (eC (.int 3))) (aa (aj aU (af 5) (eC (.int 3))) (ah)))) (eC (.int 1)))) (az (gJ (dY (cW (aj pV (af 6) (eC (.int 41)))) (dY (cW (aj pV (af 7) (eC (.int 13)))) (cW (aj (gj false) (af 3) (eC (.int 1)))))) (bJ (eFn (ai aI (aa (ai aY (aa (ai aY (aa (eC (.str "both")) (aa (aj aU (af 5) (eC (.int 0))) (aa (aj aU (af 4) (eC (.int 0))) (ah))))) (aa (aj sP (aj aU (af 5) (eC (.int 1))) (aj aU (af 4) (eC (.int 1)))) (aa (af 6) (aa (af 7) (ah)))))) (ah))))) (bf)) (gJ (dY (cW (aj pV (af 6) (eC (.int 41)))) (cW (aj pV (af 7) (eC (.int 13))))) (bJ (eFn (ai aI (aa (ai aY (aa (ai aY (aa (eC (.str "either")) (aa (aj aU (af 5) (eC (.int 0))) (aa (aj aU (af 4) (eC (.int 0))) (ah))))) (aa (aj LA (aj aU (af 5) (eC (.int 1))) (aj aU (af 4) (eC (.int 1)))) (aa (af 6) (aa (af 7) (ah)))))) (ah))))) (bf)))))
def bA:MS:=az (aF 3 (aj cL (aA 2 ay (aa (af 1) (aa (eC (.int 11)) (ah)))) (eC (.int 6)))) (az (aF 4 (aj aU (af 0) (mE (eC (.int 1))))) (az (gJ (dY (cW (aj (gj false) (af 3) (eC (.int 0)))) (dY (cW (aj pV (aj aU (af 4) (eC (.int 3))) (eC (.int 12)))) (cW (aj pV (aj aU (af 4) (eC (.int 2))) (eC (.int 40)))))) (bJ (eFn (ai aI (aa (ai aY (aa (ai aY (aa (eC (.str "not")) (aa (aj aU (af 4) (eC (.int 0))) (ah)))) (aa (aj LB (af 2) (aj aU (af 4) (eC (.int 1)))) (aa (aj aJ (aj aU (af 4) (eC (.int 2))) (eC (.int 1))) (aa (aj aJ (aj aU (af 4) (eC (.int 3))) (eC (.int 1))) (ah)))))) (ah))))) (bf)) (az (gJ (dY (cW (aj pV (af 3) (eC (.int 3)))) (cW (aj oB (ai bY (aa (af 0) (ah))) (eC (.int 1))))) (dz) (bf)) (bJ (eFn (ai aI (ah)))))))
def cJ (ds:List D):M D:=cB (λds=>bQ 8 bA ds) ds
abbrev vI:List Str:=["_law_pile_here","_law_cell"]
def iM:MS:=bJ (ai (fj λi j=>if j<i then j else i) (aa (ai bY (aa (af 0) (ah))) (aa (aj aU (eFn (ai aI (aa (eC (.int 1)) (aa (eC (.int 2)) (aa (eC (.int 3)) (aa (eC (.int 1)) (aa (eC (.int 2)) (aa (eC (.int 3)) (aa (eC (.int 2)) (aa (eC (.int 7)) (ah))))))))))) (aj cL (aA 2 ay (aa (af 1) (aa (eC (.int 15)) (ah)))) (eC (.int 8)))) (ah))))
def gH (ds:List D):M D:=cB (λds=>bQ 2 iM ds) ds
abbrev xN:List Str:=["_law_cell","_law_names_here","_law_table","_law_case","_law_kind","_law_marked","_law_below","_law_beside","_law_way_here","_law_j","_law_bits_here","_law_told"]
def eO:MS:=az (aF 9 (aj cL (aA 2 ay (aa (af 0) (aa (eC (.int 22)) (ah)))) (ai bY (aa (af 2) (ah))))) (az (aF 10 (aj aU (eFn (ai aI (aa (af 6) (aa (af 7) (ah))))) (ai iY (aa (aj (gj false) (aj aU (aj aU (af 2) (af 9)) (eC (.int 0))) (eC (.str "later"))) (ah))))) (bJ (ai aY (aa (ai aY (aa (eC (.str "from")) (aa (af 9) (ah)))) (aa (aj (gj false) (aj cL (aj lq (af 10) (aj jU (eC (.int 1)) (af 9))) (eC (.int 2))) (eC (.int 1))) (aa (eC (.int 1)) (aa (eC (.int 1)) (ah))))))))
def fL:MS:=az (CJ (Od 4 5 6 7) (af 3)) (az (aF 8 (aj cL (aA 2 ay (aa (af 0) (aa (eC (.int 21)) (ah)))) (eC (.int 6)))) (az (gJ (cW (aj (gj false) (af 8) (eC (.int 0)))) (bJ (ai aY (aa (ai aY (aa (eC (.str "any")) (ah))) (aa (eC (.bl true)) (aa (eC (.int 1)) (aa (eC (.int 1)) (ah))))))) (bf)) (az (gJ (cW (aj (gj false) (af 8) (eC (.int 1)))) (bJ (ai aY (aa (ai aY (aa (eC (.str "mark")) (ah))) (aa (af 5) (aa (eC (.int 1)) (aa (eC (.int 1)) (ah))))))) (bf)) (az (gJ (dY (cW (aj pV (af 8) (eC (.int 4)))) (cW (aj oB (ai bY (aa (af 2) (ah))) (eC (.int 0))))) (eO) (bf)) (az (aF 11 (aj aU (af 1) (aj cL (aA 2 ay (aa (af 0) (aa (eC (.int 23)) (ah)))) (eC (.int 5))))) (bJ (ai aY (aa (ai aY (aa (eC (.str "kind")) (aa (af 11) (ah)))) (aa (aj (gj false) (af 11) (af 4)) (aa (eC (.int 1)) (aa (eC (.int 1)) (ah))))))))))))
def gr (ds:List D):M D:=cB (λds=>bQ 12 fL ds) ds
abbrev tQ:List Str:=["_law_bits_here","_law_cell","_law_way_here","_law_one","_law_other","_law_many_here","_law_deep"]
def dS:MS:=az (aF 4 (aj aU (af 0) (mE (eC (.int 2))))) (az (aF 5 (aj aJ (aj aJ (aj aU (af 3) (eC (.int 2))) (aj aU (af 4) (eC (.int 2)))) (eC (.int 1)))) (az (aF 6 (aj aJ (ai (fj λi j=>if j > i then j else i) (aa (aj aU (af 3) (eC (.int 3))) (aa (aj aU (af 4) (eC (.int 3))) (ah)))) (eC (.int 1)))) (az (gJ (dY (cW (aj pV (af 5) (eC (.int 41)))) (dY (cW (aj pV (af 6) (eC (.int 13)))) (cW (aj (gj false) (af 2) (eC (.int 1)))))) (bJ (eFn (ai aI (aa (ai aY (aa (ai aY (aa (eC (.str "both")) (aa (aj aU (af 4) (eC (.int 0))) (aa (aj aU (af 3) (eC (.int 0))) (ah))))) (aa (BP (aj aU (af 4) (eC (.int 1))) (aj aU (af 3) (eC (.int 1)))) (aa (af 5) (aa (af 6) (ah)))))) (ah))))) (bf)) (gJ (dY (cW (aj pV (af 5) (eC (.int 41)))) (cW (aj pV (af 6) (eC (.int 13))))) (bJ (eFn (ai aI (aa (ai aY (aa (ai aY (aa (eC (.str "either")) (aa (aj aU (af 4) (eC (.int 0))) (aa (aj aU (af 3) (eC (.int 0))) (ah))))) (aa (Ph (aj aU (af 4) (eC (.int 1))) (aj aU (af 3) (eC (.int 1)))) (aa (af 5) (aa (af 6) (ah)))))) (ah))))) (bf)))))
def bM:MS:=az (aF 2 (aj cL (aA 2 ay (aa (af 1) (aa (eC (.int 11)) (ah)))) (eC (.int 6)))) (az (aF 3 (aj aU (af 0) (mE (eC (.int 1))))) (az (gJ (dY (cW (aj (gj false) (af 2) (eC (.int 0)))) (dY (cW (aj pV (aj aU (af 3) (eC (.int 3))) (eC (.int 12)))) (cW (aj pV (aj aU (af 3) (eC (.int 2))) (eC (.int 40)))))) (bJ (eFn (ai aI (aa (ai aY (aa (ai aY (aa (eC (.str "not")) (aa (aj aU (af 3) (eC (.int 0))) (ah)))) (aa (FE (aj aU (af 3) (eC (.int 1)))) (aa (aj aJ (aj aU (af 3) (eC (.int 2))) (eC (.int 1))) (aa (aj aJ (aj aU (af 3) (eC (.int 3))) (eC (.int 1))) (ah)))))) (ah))))) (bf)) (az (gJ (dY (cW (aj pV (af 2) (eC (.int 3)))) (cW (aj oB (ai bY (aa (af 0) (ah))) (eC (.int 1))))) (dS) (bf)) (bJ (eFn (ai aI (ah)))))))
def cG (ds:List D):M D:=cB (λds=>bQ 7 bM ds) ds
abbrev vJ:List Str:=["_law_cell","_law_turn","_law_many_here"]
def fS:MS:=az (gJ (cW (aj Fo (af 0) (aj oA (eC (.int 10)) (eC (.int 9))))) (bJ (aj cL (aj lq (af 0) (aj aU (eFn (ai aI (aa (eC (.int 1)) (aa (aj oA (eC (.int 2)) (eC (.int 40))) (ah))))) (af 1))) (aj jU (eC (.int 1)) (af 2)))) (bf)) (bJ (aj cL (aj aJ (aj nE (aA 2 ay (aa (af 0) (aa (aj aJ (eC (.int 26)) (af 1)) (ah)))) (aj oA (eC (.int 2)) (eC (.int 28)))) (aA 2 ay (aa (af 0) (aa (aj aJ (eC (.int 28)) (af 1)) (ah))))) (aj jU (eC (.int 1)) (af 2))))
def dG (ds:List D):M D:=cB (λds=>bQ 3 fS ds) ds
abbrev nL:List Str:=["self","rows"]
def dR:MS:=az (jW "MaskBook" "rows" (af 1) (af 0)) (az (jW "MaskBook" "into" (aA 2 cF (aa (af 1) (aa (ai aY (aa (eC (.str "down")) (aa (eC (.str "deep")) (ah)))) (ah)))) (af 0)) (az (jW "MaskBook" "across" (aA 2 cF (aa (af 1) (aa (ai aY (aa (eC (.str "later")) (ah))) (ah)))) (af 0)) (az (jW "MaskBook" "through" (aA 2 cF (aa (af 1) (aa (ai aY (aa (eC (.str "deep")) (ah))) (ah)))) (af 0)) (jW "MaskBook" "hits" (uX) (af 0)))))
def cu (ds:List D):M D:=bQ 2 dR ds
abbrev xO:List Str:=["_law_pile_here","_law_cell","_law_every","_law_reach","_law_many_here","_law_some","_law_looks","_law_deep","_law_steps","_law_good","_law_k","_law_item","_law_go"]
def fT:MS:=az (aF 12 (aj aU (eFn (ai aI (aa (eC (.str "down")) (aa (eC (.str "deep")) (aa (eC (.str "later")) (aa (eC (.str "down")) (ah))))))) (aj cL (aA 2 ay (aa (af 1) (aa (aj aJ (eC (.int 50)) (af 10)) (ah)))) (eC (.int 4))))) (az (ig (cC "list" cE (af 8) (aa (ai aY (aa (af 12) (aa (aj aU (af 11) (eC (.int 0))) (ah)))) (ah)))) (aF 9 (aA 2 iR (aa (Dc (af 3) (af 12)) (aa (aj sP (af 9) (aj aU (af 11) (eC (.int 1)))) (ah))))))
def gu:MS:=az (aF 4 (aA 2 gH (aa (af 0) (aa (af 1) (ah))))) (az (aF 5 (eFn (l6 (af 0) (bR (aj kO (ai bY (aa (af 0) (ah))) (af 4))) (fP)))) (az (aF 6 (aj aJ (eC (.int 1)) (ai iP (aa (eFn (jD oN [] (af 5) (dW) (aj aU (af 0) (eC (.int 2))))) (ah))))) (az (aF 7 (aj aJ (eC (.int 1)) (ai qR (aa (eFn (jD oN [] (af 5) (dW) (aj aU (af 0) (eC (.int 3))))) (ah))))) (az (gJ (BK (cW (aj oB (af 6) (eC (.int 40)))) (cW (aj oB (af 7) (eC (.int 12))))) (bJ (eFn (ai aI (ah)))) (bf)) (az (aF 8 (ai aI (ah))) (az (aF 9 (af 2)) (az (kF (gP 10 11) (sQ (aa (af 5) (ah))) fT) (bJ (eFn (ai aI (aa (ai aY (aa (ai aY (aa (eC (.str "way")) (aa (ai uZ (aa (af 8) (ah))) (ah)))) (aa (af 9) (aa (af 6) (aa (af 7) (ah)))))) (ah))))))))))))
def iz (ds:List D):M D:=cB (λds=>bQ 13 gu ds) ds
abbrev pN:List Str:=["one","parts","seen","marked","kind"]
def dB:DS→M D:=aA 5 jw (aa (af 0) (aa (af 1) (aa (af 4) (aa (af 3) (aa (af 2) (ah))))))
def bN (ds:List D):M D:=λG=>i6 (Ac 5 dB ds G)
abbrev DJ:List Str:=["top","parts_of","make","made","one","parts","number"]
def g9:MS:=ig (cC "list" cE (af 5) (aa (cC "list" nF (af 3) ah) (ah)))
def cg:MS:=az (aF 5 (ai aI (ah))) (az (gx eF (gN 6) (aa (ai bY (aa (kZ 1 1 (λy=>YU y [("look_parts",cS)]) (aa (af 4) (ah))) (ah))) (ah)) g9) (ig (cC "list" cE (af 3) (aa (lg 2 2 (λy=>YU y [("holds_by",(3,bN))]) (aa (af 4) (aa (sE (af 5)) (ah)))) (ah)))))
def pO:MS:=az (aF 3 (ai aI (ah))) (az (kF (gN 4) (Gi (aa (aA 2 gY (aa (af 0) (aa (af 1) (ah)))) (ah))) cg) (bJ (aj aU (af 3) (eC (.int 0)))))
def lX (ds:List D):M D:=bQ 7 pO ds
abbrev vK:List Str:=["_law_cells_here","_law_names_here","_law_rows","_law_reach","_law_spot","_law_every","_law_pile_here","_law_cell","_law_some","_law_many_here"]
def gc:MS:=az (aF 8 (aA 3 cJ (aa (af 6) (aa (af 7) (aa (af 5) (ah)))))) (aF 9 (aj kO (eC (.int 2)) (ai iY (aa (BP (aj oB (ai bY (aa (af 8) (ah))) (eC (.int 0))) (aj (gj false) (aj aU (aj aU (aj aU (af 8) (eC (.int 0))) (eC (.int 0))) (eC (.int 0))) (eC (.str "not")))) (ah)))))
def g6:MS:=az (aF 8 (aA 4 iz (aa (af 6) (aa (af 7) (aa (af 5) (aa (af 3) (ah))))))) (aF 9 (aA 2 gH (aa (af 6) (aa (af 7) (ah)))))
def eZ:MS:=az (aF 8 (eFn (ai aI (ah)))) (az (aF 9 (eC (.int 1))) (az (gJ (dY (cW (aj oB (ai bY (aa (af 6) (ah))) (eC (.int 0)))) (cW (aj (gj false) (aj cL (aA 2 ay (aa (af 7) (aa (eC (.int 19)) (ah)))) (eC (.int 3))) (eC (.int 0))))) (g6) (gJ (cW (aj oB (ai bY (aa (af 6) (ah))) (eC (.int 0)))) (gc) (bf))) (gJ (cW (aj oB (ai bY (aa (af 8) (ah))) (eC (.int 0)))) (aF 6 (aj aJ (eFn (l6 (af 6) (fP) (bR (aj kO (ai bY (aa (af 6) (ah))) (af 9))))) (af 8))) (ig (cC "list" cE (af 6) (aa (aA 4 fR (aa (af 7) (aa (af 1) (aa (af 2) (aa (af 4) (ah)))))) (ah)))))))
def jY:MS:=az (aF 5 (aj kO (aj jU (eC (.int 1)) (ai bY (aa (af 2) (ah)))) (eC (.int 1)))) (az (aF 6 (ai aI (ah))) (az (kR (gN 7) (af 0) eZ) (bJ (sE (af 6)))))
def iN (ds:List D):M D:=cB (λds=>bQ 10 jY ds) ds
abbrev xP:List Str:=["look","kind","marked","seen"]
def iA:MS:=bJ (aA 3 lX (aa (af 0) (aa (eC (.fn "look_parts")) (aa (Ag "holds_by" [3,2,1]) (ah)))))
def iB (ds:List D):M D:=cB (λds G=>i6 (bQ 4 iA ds G)) ds
abbrev LQ:List Str:=["rows","look","kind","marked","below","beside"]
def tR:MS:=bJ (aA 4 iB (aa (af 1) (aa (af 2) (aa (af 3) (aa (jX "MaskBook" "seen" 3 ck (nu "MaskBook" 2 cu (aa (af 0) (ah))) (aa (af 4) (aa (af 5) (ah)))) (ah))))))
def tS (ds:List D):M D:=cB (λds=>bQ 6 tR ds) ds
abbrev qA:List Str:=["_law_look","_law_table","_law_rest","_law_go","_law_inner","_law_turned_here","_law_one"]
def eU (bH:List D→M D):MS:=az (aF 5 (aA 2 bH (aa (af 4) (aa (af 1) (ah))))) (az (ig (cC "list" cE (af 1) (aa (ai aY (aa (af 3) (aa (af 5) (aa (af 2) (ah))))) (ah)))) (aF 2 (aj kO (ai bY (aa (af 1) (ah))) (eC (.int 1)))))
def iC (bH:List D→M D):MS:=az (aF 2 (eC .cz)) (az (kF (gP 3 4) (yQ (aa (aj aU (af 0) (eC (.int 1))) (ah))) (eU bH)) (bJ (ai aY (aa (eC (.str "from")) (aa (af 2) (ah))))))
def iD (bH:List D→M D):MS:=az (aF 6 (aA 2 bH (aa (aj aU (af 0) (eC (.int 1))) (aa (af 1) (ah))))) (bJ (ai aY (aa (aj aU (af 0) (eC (.int 0))) (aa (af 6) (aa (aA 2 bH (aa (aj aU (af 0) (eC (.int 2))) (aa (af 1) (ah)))) (ah))))))
def bI (bH:List D→M D):MS:=az (gJ (cW (aj (gj false) (aj aU (af 0) (eC (.int 0))) (eC (.str "way")))) ((iC bH)) (bf)) (az (gJ (cW (aj (gj false) (aj aU (af 0) (eC (.int 0))) (eC (.str "not")))) (bJ (ai aY (aa (eC (.str "not")) (aa (aA 2 bH (aa (aj aU (af 0) (eC (.int 1))) (aa (af 1) (ah)))) (ah))))) (bf)) (az (gJ (cW (aj (t7 false) (aj aU (af 0) (eC (.int 0))) (eFn (ai aI (aa (eC (.str "both")) (aa (eC (.str "either")) (ah))))))) ((iD bH)) (bf)) (bJ (af 0))))
mutual
def bg:Nat→List D→M D
  | 0,_=>M.stop
  | n+1,ds=>bQ 7 (bI (bg n)) ds
end
abbrev kH:List D→M D:=bg 60
abbrev lY:List Str:=["_law_look","_law_places_now","_law_one"]
def fM (cT:List D→M D):MS:=az (aF 2 (aA 2 cT (aa (aj aU (af 0) (eC (.int 1))) (aa (af 1) (ah))))) (bJ (ai aY (aa (aj aU (af 0) (eC (.int 0))) (aa (af 2) (aa (aA 2 cT (aa (aj aU (af 0) (eC (.int 2))) (aa (af 1) (ah)))) (ah))))))
def aW (cT:List D→M D):MS:=az (gJ (cW (aj (gj false) (aj aU (af 0) (eC (.int 0))) (eC (.str "from")))) (bJ (ai aY (aa (eC (.str "from")) (aa (aj aU (af 1) (aj aU (af 0) (eC (.int 1)))) (ah))))) (bf)) (az (gJ (cW (aj (gj false) (aj aU (af 0) (eC (.int 0))) (eC (.str "not")))) (bJ (ai aY (aa (eC (.str "not")) (aa (aA 2 cT (aa (aj aU (af 0) (eC (.int 1))) (aa (af 1) (ah)))) (ah))))) (bf)) (az (gJ (cW (aj (t7 false) (aj aU (af 0) (eC (.int 0))) (eFn (ai aI (aa (eC (.str "both")) (aa (eC (.str "either")) (ah))))))) ((fM cT)) (bf)) (bJ (af 0))))
mutual
def aQ:Nat→List D→M D
  | 0,_=>M.stop
  | n+1,ds=>cB (λds=>bQ 3 (aW (aQ n)) ds) ds
end
abbrev iO:List D→M D:=aQ 60
abbrev tT:List Str:=["_law_table","_law_cell","_law_many_here","_law_by","_law_places_now","_law_rows","_law_j","_law_row","_law_rest"]
def dU:MS:=az (aF 8 (aj aU (af 7) (eC (.int 2)))) (az (gJ (cW (aj (Ft true) (af 8) (eC .cz))) (aF 8 (aj aU (af 4) (af 8))) (bf)) (kW (ai aY (aa (aj aU (af 7) (eC (.int 0))) (aa (aA 2 iO (aa (aj aU (af 7) (eC (.int 1))) (aa (af 4) (ah)))) (aa (af 8) (ah))))) (af 5) (aj aU (af 4) (af 6))))
def iT:MS:=az (aF 5 (aj qW (ai aI (aa (eC .cz) (ah))) (af 2))) (az (kF (gP 6 7) (eN (aa (af 0) (ah))) dU) (bJ (ai aY (aa (sE (af 5)) (aa (af 4) (ah))))))
def g7:MS:=az (aF 2 (ai bY (aa (af 0) (ah)))) (az (aF 3 (aj aU (eFn (ai aI (aa (eC (.int 1)) (aa (ai (fj λi j=>if j > i then j else i) (aa (aj kO (af 2) (eC (.int 1))) (aa (eC (.int 1)) (ah)))) (ah))))) (aj cL (af 1) (eC (.int 2))))) (az (aF 4 (eFn (dh eF oN [false,true,true,true] (aa (af 2) (ah)) (dW) (aj cL (aj aJ (aj qN (af 2) (eC (.int 2))) (aj nE (af 4) (af 0))) (af 3))))) (iT)))
def gf (ds:List D):M D:=cB (λds=>bQ 9 g7 ds) ds
abbrev ID:List Str:=["_law_script","_law_names_here","_law_reach","_law_pile_here","_law_table","_law_cell","_law_case","_law_more","_law_bits_here","_law_one","_law_some","_law_item","_law_told"]
def mT:MS:=az (aF 10 (eFn (ai aI (ah)))) (az (gJ (cW (aj oB (ai bY (aa (af 8) (ah))) (eC (.int 0)))) (aF 10 (aA 2 cG (aa (af 8) (aa (af 9) (ah))))) (bf)) (gJ (cW (aj (gj false) (af 10) (eFn (ai aI (ah))))) (ig (cC "list" cE (af 8) (aa (aA 4 gr (aa (af 9) (aa (af 1) (aa (sE (af 4)) (aa (af 6) (ah)))))) (ah)))) (aF 8 (aj aJ (eFn (l6 (af 8) (fP) (bR (aj aJ (aj kO (ai bY (aa (af 8) (ah))) (eC (.int 2))) (ai iY (aa (aj (gj false) (aj aU (aj aU (aj aU (af 10) (eC (.int 0))) (eC (.int 0))) (eC (.int 0))) (eC (.str "not"))) (ah))))))) (af 10)))))
def mU:MS:=az (aF 12 (aA 6 tS (aa (ai oQ (aa (af 4) (ah))) (aa (aj aU (af 11) (eC (.int 0))) (aa (aj aU (af 6) (eC (.int 0))) (aa (aj aU (af 6) (eC (.int 1))) (aa (aj aU (af 6) (eC (.int 2))) (aa (aj aU (af 6) (eC (.int 3))) (ah))))))))) (gJ (BK (BL (oF r9 (FP .bl (af 12)))) (cW (aj (gj true) (af 12) (aj aU (af 11) (eC (.int 1)))))) (bJ (eC (.bl false))) (bf))
def xQ:MS:=az (kR (gN 11) (eFn (l6 (af 8) (bR (mE (eC (.int 8)))) (fP))) mU) (bJ (eC (.bl true)))
def xR:MS:=az (aF 6 (aj aJ (af 6) (ai aY (aa (aj aU (af 7) (eC (.int 0))) (aa (aj aU (af 7) (eC (.int 1))) (ah)))))) (az (aF 8 (ai aI (ah))) (az (kR (gN 9) (aA 2 dP (aa (af 0) (aa (eC (.int 1)) (ah)))) mT) (xQ)))
def rE:MS:=az (aF 1 (aA 1 jz (aa (ai iP (aa (eFn (l6 (af 0) (fP) (bR (eC (.int 1))))) (ah))) (ah)))) (az (aF 2 (q8 [("down",eFn (ai aI (aa (eC (.int 0)) (ah)))),("deep",eFn (ai aI (aa (eC (.int 0)) (ah)))),("later",eFn (ai aI (aa (eC (.int 0)) (ah))))])) (az (aF 3 (aA 5 iN (aa (aA 2 dP (aa (af 0) (aa (eC (.int 0)) (ah)))) (aa (af 1) (aa (eFn (ai aI (aa (ai aY (aa (eC (.int 0)) (aa (aj aU (af 1) (eC (.int 0))) (ah)))) (ah)))) (aa (af 2) (aa (eC (.int 1)) (ah)))))))) (az (aF 4 (ai aI (ah))) (az (ig (aA 2 kH (aa (aj aU (aj aU (af 3) (aj aU (ai rB (aa (eFn (fk (oT 2) [] (eN (aa (af 3) (ah))) (dW) (ai aY (aa (aj aU (af 1) (eC (.int 2))) (aa (af 0) (ah)))))) (ah))) (eC (.int 1)))) (eC (.int 0))) (aa (af 4) (ah))))) (az (aF 5 (ai iP (aa (eFn (l6 (af 0) (bR (eC (.int 2))) (bR (eC (.int 3))))) (ah)))) (az (aF 4 (aj aU (aA 2 gf (aa (sE (af 4)) (aa (aA 2 ay (aa (af 5) (aa (eC (.int 28)) (ah)))) (ah)))) (eC (.int 0)))) (az (aF 6 (ai aY (aa (aj aU (af 1) (aj cL (aA 2 ay (aa (af 5) (aa (eC (.int 24)) (ah)))) (eC (.int 5)))) (aa (aj (gj false) (aj cL (aA 2 ay (aa (af 5) (aa (eC (.int 25)) (ah)))) (eC (.int 2))) (eC (.int 1))) (ah))))) (az (aF 7 (eFn (dh eF oN [true,false,false,false,true] (aa (eC (.int 2)) (ah)) (dW) (aA 3 dG (aa (ai iP (aa (eFn (l6 (af 1) (bR (eC (.int 3))) (bR (eC (.int 4))))) (ah))) (aa (af 0) (aa (ai bY (aa (af 5) (ah))) (ah)))))))) (xR)))))))))
def DK (ds:List D):M D:=cB (λds G=>i6 (bQ 13 rE ds G)) ds
def defs:List Di:=[("look_parts",1,tL,tw),("all_within",2,tN,tB),("folded",3,DJ,DI),("says",6,LQ,LP),("bits_by_go",2,tM,tE),("is_seen",2,AD,AB),("holds_by",4,xP,pM),("truth_by",5,xM,xF),("_law_mix",2,xK,xG),("_law_cells",2,tO,tF),("_law_names",1,tP,tG),("_law_leaf",4,vH,vC),("_law_truths",3,qy,qu),("_law_before",2,qx,qv),("_law_many",2,vI,vE),("_law_way",4,xO,xH),("_law_pile",5,vK,vF),("_law_turned",2,qA,qw),("_law_dealt_look",2,lY,lW),("_law_dealt",2,tT,tH),("_law_bit",4,xN,xJ),("_law_truth",2,tQ,tK),("_law_bits",3,vJ,vG),("law",1,ID,IC)]
def LR:List Str:=["bool","enumerate","int","isinstance","len","list","max","min","range","reversed","sum","tuple"]
structure Txt (g:rj):Prop where
  D:lU g.K g.mg defs
  B:iH g.mg LR
  xS:∃ c P,OC g "holds_by" c P
  C0:Ar g.K g.mg "MaskBook" "seen" "MaskBook.seen" jH
  C1:Aq g.K g.mg "MaskBook" "MaskBook.__init__" jG
  C2:sX g "MaskBook" "across"
  C3:sX g "MaskBook" "hits"
  C4:sX g "MaskBook" "into"
  C5:sX g "MaskBook" "rows"
  C6:sX g "MaskBook" "through"
theorem bW {a b:Prop} (h:a) (k:a→b):b:=k h
theorem LS {g:rj} (T:Txt g) {f:Addr} {fd:FuncData} (F:r6 g.K "law" "law" IC f fd):jC g.P g.w g.K g.mg g.base (lM g.P g.w) 62 f fd ["_law_script"] (fU g.K g.mg 1 DK):=by
 obtain ⟨_,_,_,_,_,_,_,_,_,_,_,_,_,_,_,_,_,_,_,_,_,_,_,_,_⟩:=T.D
 obtain ⟨_,_,xT⟩:=T.xS
 have:=T.C0
 have:=T.C1
 have:=T.C2
 have:=T.C3
 have:=T.C4
 have:=T.C5
 have:=T.C6
 refine bW (a:=iy g "look_parts" 1 1 cS) ?_ λ_=>bW (a:=iy g "bits_by_go" 1 2 cF) ?_ λ_=>bW (a:=iy g "is_seen" 1 2 ki) ?_ λ_=>bW (a:=iy g "_law_mix" 1 2 ay) ?_ λ_=>bW (a:=iy g "_law_before" 1 2 iR) ?_ λ_=>bW (a:=GY g "MaskBook" "seen" 1 3 ck) ?_ λ_=>bW (a:=iy g "all_within" 2 2 gY) ?_ λ_=>bW (a:=iy g "truth_by" 2 5 jw) ?_ λ_=>bW (a:=iy g "_law_cells" 2 2 dP) ?_ λ_=>bW (a:=iy g "_law_names" 2 1 jz) ?_ λ_=>bW (a:=iy g "_law_leaf" 2 4 fR) ?_ λ_=>bW (a:=iy g "_law_truths" 2 3 cJ) ?_ λ_=>bW (a:=iy g "_law_many" 2 2 gH) ?_ λ_=>bW (a:=iy g "_law_bit" 2 4 gr) ?_ λ_=>bW (a:=iy g "_law_truth" 2 2 cG) ?_ λ_=>bW (a:=iy g "_law_bits" 2 3 dG) ?_ λ_=>bW (a:=GX g "MaskBook" 2 2 cu) ?_ λ_=>bW (a:=iy g "_law_way" 3 4 iz) ?_ λ_=>bW (a:=GP g "holds_by" 3 2 bN) ?_ λ_=>bW (a:=iy g "folded" 4 3 lX) ?_ λ_=>bW (a:=iy g "_law_pile" 4 5 iN) ?_ λ_=>bW (a:=iy g "holds_by" 5 4 iB) ?_ λ_=>bW (a:=iy g "says" 6 6 tS) ?_ λ_=>bW (a:=iy g "_law_turned" 60 2 kH) ?_ λ_=>bW (a:=iy g "_law_dealt_look" 60 2 iO) ?_ λ_=>bW (a:=iy g "_law_dealt" 61 2 gf) ?_ λ_=>?_
 all_goals
  first
   | (with_reducible show GY _ "MaskBook" "seen" _ _ _);refine G7 (N:=nK) (by assumption) T.B ⟨rfl,rfl,rfl,by symm,rfl,by symm,by symm⟩ rfl rfl (by intro _ _ _ _ _ _;first | exact qg λ_=>rfl | exact qh λ_ _=>rfl | exact sS λ_ _ _=>rfl | exact qk λ_ _ _ _=>rfl | exact sU λ_ _ _ _ _=>rfl | exact sZ λ_ _ _ _ _ _=>rfl) λX EE hV hS=>?_
   | (with_reducible show GX _ "MaskBook" _ _ _);refine G6 (N:=nL) (by assumption) T.B ⟨rfl,rfl,rfl,by symm,rfl,by symm,by symm⟩ rfl rfl (by intro _ _ _ _ _ _;first | exact qg λ_=>rfl | exact qh λ_ _=>rfl | exact sS λ_ _ _=>rfl | exact qk λ_ _ _ _=>rfl | exact sU λ_ _ _ _ _=>rfl | exact sZ λ_ _ _ _ _ _=>rfl) λX EE hV hS=>?_
   | (with_reducible show GP _ "holds_by" _ _ _);refine GS (x:="holds_by") (N:=pN) (c:=lA) (by assumption) T.B rfl ⟨rfl,rfl,rfl,by symm,rfl,by symm,by symm,by symm,by symm⟩ rfl rfl (by intro _ _ _ _ _;exact qh λ_ _=>rfl) rfl λX EE hV hS=>?_
   | (with_reducible show iy _ "holds_by" _ _ _);refine GU (x:="holds_by") (c:=lA) (js:=[3,2,1]) (cs:=λL=>[L+1+1+1,L+1+1,L+1]) (by assumption) T.B xT rfl ⟨rfl,rfl,rfl,by symm,rfl,by symm,by symm⟩ rfl rfl (by intro _ _ _ _ _ _;exact qk λ_ _ _ _=>rfl) (λ_ _ _=>rfl) (λL=>by first | (simp;done) | (simp;nofun)) (λL=>rfl) rfl (by symm) λX EE hV hS hL=>?_
   | (with_reducible show iy _ "_law_turned" _ _ _);refine tu (k:=0) (MM:=bg) (F:=λr=>λds=>bQ 7 (bI r) ds) (by assumption) (by intro _ _ _ _ _ _;first | exact qg λ_=>rfl | exact qh λ_ _=>rfl | exact sS λ_ _ _=>rfl | exact qk λ_ _ _ _=>rfl | exact sU λ_ _ _ _ _=>rfl | exact sZ λ_ _ _ _ _ _=>rfl) (by funext ds;rw [bg]) (λi=>by funext ds;rw [bg]) (λi _=>?_) 60;show iy _ _ _ _ (λds=>bQ 7 (bI (bg i)) ds);refine lV (by assumption) T.B ⟨rfl,rfl,rfl,by symm,rfl,by symm,by symm⟩ rfl rfl (by intro _ _ _ _ _ _;first | exact qg λ_=>rfl | exact qh λ_ _=>rfl | exact sS λ_ _ _=>rfl | exact qk λ_ _ _ _=>rfl | exact sU λ_ _ _ _ _=>rfl | exact sZ λ_ _ _ _ _ _=>rfl) λX EE hV hS=>?_
   | (with_reducible show iy _ "_law_dealt_look" _ _ _);refine tu (k:=0) (MM:=aQ) (F:=λr=>cB (λds=>bQ 3 (aW r) ds)) (by assumption) (by intro _ _ _ _ _ _;first | exact qg λ_=>rfl | exact qh λ_ _=>rfl | exact sS λ_ _ _=>rfl | exact qk λ_ _ _ _=>rfl | exact sU λ_ _ _ _ _=>rfl | exact sZ λ_ _ _ _ _ _=>rfl) (by funext ds;rw [aQ]) (λi=>by funext ds;rw [aQ]) (λi _=>?_) 60;show iy _ _ _ _ (cB (λds=>bQ 3 (aW (aQ i)) ds));refine iy.pure (lV (by assumption) T.B ⟨rfl,rfl,rfl,by symm,rfl,by symm,by symm⟩ rfl rfl (by intro _ _ _ _ _ _;first | exact qg λ_=>rfl | exact qh λ_ _=>rfl | exact sS λ_ _ _=>rfl | exact qk λ_ _ _ _=>rfl | exact sU λ_ _ _ _ _=>rfl | exact sZ λ_ _ _ _ _ _=>rfl) λX EE hV hS=>?_)
   | (with_reducible show jC _ _ _ _ _ _ _ _ _ _ _);refine DE (N:=ID) (y:="_law_script") F T.B ⟨rfl,rfl,rfl,by symm,rfl,by symm,by symm⟩ rfl rfl (by assumption) (by symm) λX EE hV hS=>?_
   | refine iy.pure (lV (by assumption) T.B ⟨rfl,rfl,rfl,by symm,rfl,by symm,by symm⟩ rfl rfl (by intro _ _ _ _ _ _;first | exact qg λ_=>rfl | exact qh λ_ _=>rfl | exact sS λ_ _ _=>rfl | exact qk λ_ _ _ _=>rfl | exact sU λ_ _ _ _ _=>rfl | exact sZ λ_ _ _ _ _ _=>rfl) λX EE hV hS=>?_)
   | refine iy.fresh (lV (by assumption) T.B ⟨rfl,rfl,rfl,by symm,rfl,by symm,by symm⟩ rfl rfl (by intro _ _ _ _ _ _;first | exact qg λ_=>rfl | exact qh λ_ _=>rfl | exact sS λ_ _ _=>rfl | exact qk λ_ _ _ _=>rfl | exact sU λ_ _ _ _ _=>rfl | exact sZ λ_ _ _ _ _ _=>rfl) λX EE hV hS=>?_)
   | refine lV (by assumption) T.B ⟨rfl,rfl,rfl,by symm,rfl,by symm,by symm⟩ rfl rfl (by intro _ _ _ _ _ _;first | exact qg λ_=>rfl | exact qh λ_ _=>rfl | exact sS λ_ _ _=>rfl | exact qk λ_ _ _ _=>rfl | exact sU λ_ _ _ _ _=>rfl | exact sZ λ_ _ _ _ _ _=>rfl) λX EE hV hS=>?_
  delta dN gX kh jt gE gF iQ dw dQ ju fC dO jx gZ fD iS fE fF fG gG eY bA dz iM fL eO bM dS fS dR gu fT dB pO g9 cg jY gc g6 eZ iA tR bI eU iC iD aW fM g7 dU iT rE mT mU xQ xR
  repeat' first
    | (with_reducible show @Eq Bool _ true);kernel_rfl
    | with_reducible show QE _ _ _ _;first
       | refine GQ hV ?_
       | (show QE _ _ _ (eC _));first | exact J8 | exact Ka | ((show QE _ _ _ (eC (.fn _)));refine LJ hV (qp.has (by assumption)) ?_) | exact Nk | exact J9
       | (show QE _ _ _ (aj _ _ _));first | refine B7 ?_ ?_ ?_ | refine Gn ?_ ?_ | refine Ke ?_ ?_ | refine Kc ?_ ?_ | refine Kd ?_ ?_ | refine Fp ?_ ?_ | refine CY ?_ ?_ | refine Ls ?_ ?_ | refine Kf ?_ ?_ | refine GJ ?_ ?_ | refine LC ?_ ?_ | refine GK ?_ ?_ | refine LD ?_ ?_ | refine LF ?_ ?_ | refine Np hV.hu ?_ ?_ | refine Nm ?_ ?_
       | refine Lf ?_
       | refine N7 ?_
       | ((show QE _ _ _ (aA _ _ _));first | refine DA hV (by assumption) ?_ ?_ | refine vn hV (by assumption) ?_ ?_)
       | ((show QE _ _ _ (vt _ _ _));refine G8 hV (by assumption) ?_ ?_)
       | ((show QE _ _ _ (nu _ _ _ _));refine Dv hV (by assumption) ?_ ?_)
       | ((show QE _ _ _ (jX _ _ _ _ _ _));refine Dw hV (by assumption) ?_ ?_ ?_ (by with_unfolding_all exact rfl))
       | ((show QE _ _ (.ListComp _ _ _ _) _);first | refine vp hV hS OA ?_ ?_ ?_ ?_ | refine vp hV hS OB ?_ ?_ ?_ ?_ | refine rm hV hS OA ?_ ?_ ?_ ?_ | refine rm hV hS OB ?_ ?_ ?_ ?_ | refine pF hV hS OA ?_ ?_ ?_ ?_ | refine pF hV hS OB ?_ ?_ ?_ ?_)
       | ((show QE _ _ _ (lg _ _ _ _));refine Al hV (by assumption) ?_ ?_)
       | (show QE _ _ _ (ai _ _));first | refine Kh ?_ | refine Kl ?_ | refine K3 (hV.bl _ ?_) (hV.gl _ ?_) ?_ ?_ | refine La (hV.bl _ ?_) (hV.gl _ ?_) ?_ ?_ | refine Hg (hV.bl _ ?_) (hV.gl _ ?_) ?_ ?_ | refine Ht hV.hc hV.hu (hV.bl _ ?_) (hV.gl _ ?_) ?_ ?_ | refine F9 hV.hc (hV.bl _ ?_) (hV.gl _ ?_) ?_ ?_ | refine Lb hV.hc (hV.bl _ ?_) (hV.gl _ ?_) ?_ ?_ | refine F1 hV.hc (hV.bl _ ?_) (hV.gl _ ?_) ?_ ?_ | refine F2 hV.hc (hV.bl _ ?_) (hV.gl _ ?_) ?_ ?_ | refine F8 (hV.bl _ ?_) (hV.gl _ ?_) ?_ ?_ | refine Ca (hV.bl _ ?_) (hV.gl _ ?_) ?_ ?_ | refine wY hV.hc (hV.bl _ ?_) (hV.gl _ ?_) (hV.bl _ ?_) (hV.gl _ ?_) ?_ ?_ | refine u0 hV.hc (hV.bl _ ?_) (hV.gl _ ?_) (hV.bl _ ?_) (hV.gl _ ?_) ?_ ?_
       | refine KG ?_
       | refine KD ?_
       | refine BJ ?_ ?_ ?_
       | ((show QE _ _ _ (q8 _));refine GN ?_ (by decide+kernel) (by decide+kernel) (List.cons_ne_nil _ _) (by decide+kernel))
       | refine K4 _ ?_ (hV.bl _ ?_) (hV.bl _ ?_) (hV.gl _ ?_) (hV.gl _ ?_) ?_ ?_ ?_ ?_ ?_
       | (show QE _ _ _ (cC _ _ _ _));first | refine zV ?_ ?_ ?_ ?_ ?_ | refine Gq ?_ ?_ ?_ ?_ ?_ | refine K5 ?_ ?_ ?_
       | refine LI hV.hu ?_ ?_ ?_
       | exact Gu
       | refine Ak hV ?_ ?_ ?_
       | refine KC ?_ ?_
       | refine Nu ?_ ?_
       | refine KA ?_
    | with_reducible show QA _ _ _ _;first
       | refine Rf ?_ ?_ ?_
       | exact Kg
    | (with_reducible show pY _ _ _ _);first | with_reducible exact Dh | ((with_reducible show pY _ _ _ (az _ _));refine BQ ?_ ?_) | refine FG ?_ | exact FF
    | with_reducible show QS _ _ _ _;first
       | ((show QS _ _ _ (jW _ _ _ _));refine G9 hV (by assumption) ?_ ?_ ?_)
       | ((show QS _ _ _ (CJ _ _));refine Lv ?_ ?_ (by with_unfolding_all exact rfl) (by with_unfolding_all exact rfl) (by with_unfolding_all exact rfl))
       | ((show QS _ _ _ (kW _ _ _));refine B8 ?_ ?_ ?_ ?_ (by with_unfolding_all exact λ_=>rfl))
       | ((show QS _ _ (.Assign _ (.ListComp _ _ _ _) _) _);first | refine rq hV hS OA ?_ (by decide+kernel) ?_ ?_ | refine rq hV hS OB ?_ (by decide+kernel) ?_ ?_ | refine pG hV hS OA ?_ (by decide+kernel) ?_ ?_ | refine pG hV hS OB ?_ (by decide+kernel) ?_ ?_)
       | refine KH ?_
       | refine Nx ?_ ?_ ?_
       | refine F3 ?_ ?_
       | refine Oa ?_
       | refine GR hV hS ?_ ?_
       | refine K7 hS.po hV.hc ?_ ?_ ?_ ?_
       | refine B9 hS.po hV.hc (hV.bl _ ?_) (hV.gl _ ?_) ?_ ?_ ?_ ?_
       | refine Ga hS.po hV.hc ?_ ?_ ?_ ?_
       | refine Cg hS.po ?_ ?_
    | with_reducible show QT _ _ _ _;first
       | refine K1 ?_ ?_ ?_ ?_
       | refine K2 ?_ ?_
       | refine Ku ?_
       | refine QV ?_
    | with_reducible first
      | (show GD _ _ _ _ (aA _ _ _));refine An hV hL (by assumption) ?_ ?_
      | exact BH hV.hu
      | exact Kw
      | exact Ky
      | exact Kz
      | exact Kn hV.hu
      | exact Kq hV.hu
      | exact BO
      | refine Fx ?_
      | exact Fw
      | refine RT λX EE hV=>?_
      | refine RU λX EE hV=>⟨?_,?_⟩
      | refine C9 (hV.bl _ ?_) (hV.gl _ ?_) (hV.bl _ ?_) (hV.gl _ ?_) ?_ ?_
      | refine CF (hV.bl _ ?_) (hV.gl _ ?_) ?_ ?_
      | refine Hi (hV.bl _ ?_) (hV.gl _ ?_) ?_ ?_
      | refine Lh (hV.bl _ ?_) (hV.gl _ ?_) ?_ ?_
      | refine Gr (hV.bl _ ?_) (hV.gl _ ?_) ?_ ?_
      | refine Ks ?_ ?_
      | refine FA ?_
      | refine Nt ?_ ?_
      | refine Kr ?_
      | refine Df hV hS ?_
      | refine Dg hV hS ?_
      | refine DB hV hS ?_
      | refine GG ?_ ?_
      | refine CQ ?_ ?_ ?_
      | exact trivial
    | decide+kernel
    | (with_reducible show HZ _ _ _ _ _);first | with_reducible refine Ow ?_ ?_ ?_ | exact Ff
    | (with_reducible show Fb _);exact λ_ _=>rfl
    | (with_reducible show Aj _ _ _ _);first | exact trivial | refine ⟨⟨_,by assumption,by decide⟩,?_⟩
    | (with_reducible show CM _ _ _ _);refine Dm hL ?_
    | (with_reducible show GD _ _ _ _ _);exact Dl hL rfl rfl rfl rfl rfl
    | refine vn hV (by assumption) ?_ ?_
end
end K42
section
open PySem PySem.Spec L2 L3
local macro_rules
 | `(tactic| simp! [$a,*])=>`(tactic| simp [r9,aU,aD,cH,fj,bY,aJ,aY,fY,cE,nF,uE,Pk,Ty.is,$a,*])
local macro_rules
 | `(tactic| dsimp! [$a,*])=>`(tactic| simp [r9,aU,aD,cH,fj,bY,RG,aY,fY,cE,nF,uE,Pk,Ty.is,$a,*])
namespace K42
open PySem PySem.Spec L2 L3
theorem vL (c k:Int) (n4:Option D):∀ (its:List D) (dg:Int) (j:Option D),0≤dg→∃ (P0:Int) (j':Option D),0≤P0∧∀ G,bU (gN 3) gE its [some (.int c),some (.int k),some (.int dg),j,n4] G=.nx [some (.int c),some (.int k),some (.int P0),j',n4] G
 | [],dg,j,h=>⟨dg,j,h,λG=>by rw [fB]⟩
 | x::its,dg,j,h=>by
  obtain ⟨P0,j',h',e⟩:=vL c k n4 its (dg / 840) (some x) (by nofun)
  refine ⟨P0,j',h',λG=>?_⟩
  rw [bZ rfl]
  have e1:gE [some (.int c),some (.int k),some (.int dg),some x,n4] G=.nx [some (.int c),some (.int k),some (.int (dg / 840)),some x,n4] G:=by
   simp! [gE]
  simp only [YS,YT,e1,iw]
  exact e G
theorem xU (c k:Int) (hk:0≤k∧k<10000):∃ v:Int,0≤v∧∀ G,ay [.int c,.int k] G=.ok (.int v) G:=by
 obtain ⟨k0,k1⟩:=hk
 have hr:=iL (j:=k % 46) (by nofun) (by nofun)
 have key:∃ dg:Int,∃ j,0≤dg∧∀ G,(gJ (cW (aj Fo (af 0) (aj oA (eC (.int 10)) (eC (.int 9))))) (gF) (bf)) [some (.int c),some (.int k),some (.int 0),none,none] G=.nx [some (.int c),some (.int k),some (.int dg),j,none] G:=by
  by_cases hc:(1000000000:Int)≤c
  ·obtain ⟨dg,j,h,e⟩:=vL c k none ((YL 0 (k % 46).toNat).map λ(k:Nat)=>.int (0+(k:Int))) c none (by nofun)
   refine ⟨dg,j,h,λG=>?_⟩
   generalize ((YL 0 (k % 46).toNat).map λ(k:Nat)=>D.int (0+(k:Int)))=its at hr e
   simp! [hc,gF,hr,e]
  ·refine ⟨0,none,by nofun,λG=>?_⟩
   simp! [hc]
 obtain ⟨dg,j,hd,e⟩:=key
 generalize hS:gJ (cW (aj Fo (af 0) (aj oA (eC (.int 10)) (eC (.int 9))))) (gF) (bf)=S at e
 by_cases h0:0<dg
 ·refine ⟨dg % 840,by nofun,λG=>?_⟩
  refine aS ?_ aT
  unfold jt
  rw [hS]
  simp! [e,h0]
 ·have p0:0≤c % 1000000007:=by nofun
  have p1:c % 1000000007<1000000007:=by nofun
  generalize hy:c % 1000000007=y at p0 p1
  have a1:-18446744073709551616<y+7919*k+13:=by nofun
  have a2:y+7919*k+13<18446744073709551616:=by nofun
  generalize hz:y+7919*k+13=z at a1 a2
  have b1:0≤z*z % 998244353:=by nofun
  have b2:z*z % 998244353<998244353:=by nofun
  have b3:-18446744073709551616<z*z % 998244353:=by nofun
  have b4:z*z % 998244353<18446744073709551616:=by nofun
  generalize hu:z*z % 998244353=u at b1 b2 b3 b4
  refine ⟨u*(u+16807*k+1) % 1000000007 / 3,by nofun,λG=>?_⟩
  refine aS ?_ aT
  unfold jt
  rw [hS]
  have h0':dg≤0:=by nofun
  simp! [e,h0,h0',hy,hz,hu,a1,a2,b3,b4]
noncomputable def mx (c k:Int):Int:=if h:0≤k∧k<10000 then Classical.choose (xU c k h) else 0
theorem ny (c k:Int):0≤mx c k:=by
 unfold mx
 split
 ·rename_i h;exact (acj (xU c k h)).1
 ·nofun
theorem cQ (c k:Int) (h0:0≤k) (h1:k<10000) (G:DH):ay [.int c,.int k] G=.ok (.int (mx c k)) G:=by
 have h:0≤k∧k<10000:=⟨h0,h1⟩
 unfold mx
 rw [dif_pos h]
 exact (acj (xU c k h)).2 G
theorem R5 (n:Nat):HT.fq n n (some 1)=min 1 n:=HT.yg n n 1
theorem gw:∀ ns:List Int,intsOf (ns.map .int)=some ns
 | []=>rfl
 | n::ns=>by rw [X8,intsOf,gw ns];rfl
theorem DL (ns:List Int) (τ:DS) (G:DH):∃ c:Int,ai iP (aa (eFn (l6 (af 0) (fP) (bR (eC (.int 1))))) (ah)) (some (.con (ns.map .int))::τ) G=.ok (.int c) G:=by
 have z1:(1:Nat)≤XT:=lz (by nofun)
 have e:cutD (ns.map D.int) none (some 1)=(ns.take 1).map .int:=by
  unfold cutD
  rw [R5,HT.uf]
  cases ns<;>simp
 have hc:aV ((ns.take 1).map D.int)=true:=aB λ_=>aT
 have hz:((ns.take 1).map D.int).length≤XT:=YV (by simp;nofun) z1
 have e1:eFn (l6 (af 0) (fP) (bR (eC (.int 1)))) (some (.con (ns.map .int))::τ) G=.ok (.con ((ns.take 1).map .int)) G:=by
  rw [aN]
  have e2:l6 (af 0) (fP) (bR (eC (.int 1))) (some (.con (ns.map .int))::τ) G=aI ((ns.take 1).map .int) G:=by
   simp! [wO,e]
  rw [e2,bK hz hc]
 refine ⟨(ns.take 1).sum,?_⟩
 simp! [e1,iP,gw,← List.map_take]
noncomputable def Mn (ns:List Int):D→D
 | .int j=>.int (ns.getD j.toNat 0)
 | _=>.cz
noncomputable def OL (n s:Int):D→D
 | .int j=>.int (mx n (40+s+j))
 | _=>.cz
theorem Hu (ns:List Int) (j:Nat) (h:j<ns.length):iV (ns.map D.int) (j:Int)=some (.int (ns.getD j 0)):=by
 refine j3 ?_
 rw [Yq,XZ h]
 simp [h]
theorem vM (ns:List Int) (hl:ns.length≤63) (s:Nat) (hs:s≤1) (G:DH):∃ xs:List Int,6≤xs.length∧xs.length≤40∧dP [.con (ns.map .int),.int s] G=.ok (.con (xs.map .int)) G:=by
 have hN:lT (s:Int) (ns.length:Int) 2≤32:=by
  unfold lT
  split<;>nofun
 have hI:∀ i:Nat,i<lT (s:Int) (ns.length:Int) 2→s+i*2<ns.length:=by
  intro i hi
  unfold lT at hi
  split at hi<;>nofun
 have h64:¬ ((64:Int)<(ns.length:Int)):=by nofun
 have R6:(ns.length:Int)≤64:=by nofun
 generalize Wn:lT (s:Int) (ns.length:Int) 2=N at hN hI
 have q1:-1073741824≤(s:Int):=by nofun
 have q2:(s:Int)<1073741824:=by nofun
 have q3:-1073741824≤(ns.length:Int):=by nofun
 have q4:(ns.length:Int)<1073741824:=by nofun
 have c1:=kg (τ:=[some (D.con (ns.map D.int)),some (.int (s:Int)),none]) (G:=G) (gO:=oN) (ks:=[true]) (te:=aj aU (af 1) (af 0)) (own:=λx=>[x]) (f:=Mn ns) ((YF N).map λ(i:Nat)=>D.int ((s:Int)+(i:Int)*2)) [] (by simp;nofun) (λx _=>rfl) (λx hx acc=>by
  obtain ⟨i,hi,rfl⟩:=aac.mp hx
  have hi':=hI i (abr.mp hi)
  have ea:=Hu ns (s+i*2) hi'
  rw [show ((s+i*2:Nat):Int)=(s:Int)+(i:Int)*2 by nofun] at ea
  have et:((s:Int)+(i:Int)*2).toNat=s+i*2:=by nofun
  simp! [mask,ea,Mn,et])
 have e1:eFn (fk oN [true] (qU (aa (af 1) (aa (ai (fj λi j=>if j<i then j else i) (aa (ai bY (aa (af 0) (ah))) (aa (eC (.int 64)) (ah)))) (aa (eC (.int 2)) (ah))))) (dW) (aj aU (af 1) (af 0))) [some (D.con (ns.map D.int)),some (.int (s:Int)),none] G=.ok (.con (((YF N).map λ(i:Nat)=>D.int ((s:Int)+(i:Int)*2)).map (Mn ns))) G:=by
  rw [aN]
  have e2:fk oN [true] (qU (aa (af 1) (aa (ai (fj λi j=>if j<i then j else i) (aa (ai bY (aa (af 0) (ah))) (aa (eC (.int 64)) (ah)))) (aa (eC (.int 2)) (ah))))) (dW) (aj aU (af 1) (af 0)) [some (D.con (ns.map D.int)),some (.int (s:Int)),none] G=.ok (.obj G.length) (G++[.lst (((YF N).map λ(i:Nat)=>D.int ((s:Int)+(i:Int)*2)).map (Mn ns))]):=by
   simp only [YX] at c1
   rw [← c1,← CG]
   simp! [ints3,h64,R6,q1,q2,q3,q4,Wn]
  rw [e2,jq]
  rw [Zl]
  exact aB λ_=>aT
 have Wo:((YF N).map λ(i:Nat)=>D.int ((s:Int)+(i:Int)*2)).map (Mn ns)=((YF N).map λi=>ns.getD (s+i*2) 0).map .int:=by
  rw [Zl,Zl]
  refine List.map_congr_left λi _=>?_
  have et:((s:Int)+(i:Int)*2).toNat=s+i*2:=by nofun
  simp only [Function.comp,Mn,et]
 rw [Wo] at e1
 generalize hX:(YF N).map (λi=>ns.getD (s+i*2) 0)=X at e1
 have XF:X.length=N:=by rw [← hX];simp
 have hr:eF [.int (6 - (X.length:Int))]=some ((YF (6 - (X.length:Int)).toNat).map λ(k:Nat)=>.int (0+(k:Int))):=by
  show (if -(2^62)≤(6 - (X.length:Int))∧(6 - (X.length:Int))<2^62 then some ((YF (6 - (X.length:Int)).toNat).map λ(k:Nat)=>D.int (0+(k:Int))) else none)=_
  rw [if_pos ⟨by nofun,by nofun⟩]
 have c2:=kg (τ:=[some (D.con (ns.map D.int)),some (.int (s:Int)),some (.con (X.map .int))]) (G:=G) (gO:=oN) (ks:=[true,true]) (te:=aA 2 ay (aa (ai bY (aa (af 1) (ah))) (aa (aj aJ (aj aJ (eC (.int 40)) (af 2)) (af 0)) (ah)))) (own:=λx=>[x]) (f:=OL ns.length s) ((YF (6 - (X.length:Int)).toNat).map λ(k:Nat)=>D.int (0+(k:Int))) [] (by simp;nofun) (λx _=>rfl) (λx hx acc=>by
  obtain ⟨i,hi,rfl⟩:=aac.mp hx
  have hi':=abr.mp hi
  have hm:=cQ ns.length (40+s+(0+(i:Int))) (by nofun) (by nofun) (G++[.lst acc])
  simp only [Int.zero_add] at hm
  simp! [mask,OL,hm])
 generalize hL:(YF (6 - (X.length:Int)).toNat).map (λ(k:Nat)=>D.int (0+(k:Int)))=L at hr c2
 have e3:eFn (dh eF oN [true,true] (aa (aj kO (eC (.int 6)) (ai bY (aa (af 2) (ah)))) (ah)) (dW) (aA 2 ay (aa (ai bY (aa (af 1) (ah))) (aa (aj aJ (aj aJ (eC (.int 40)) (af 2)) (af 0)) (ah))))) [some (D.con (ns.map D.int)),some (.int (s:Int)),some (.con (X.map .int))] G=.ok (.con (L.map (OL ns.length s))) G:=by
  rw [aN]
  have e4:dh eF oN [true,true] (aa (aj kO (eC (.int 6)) (ai bY (aa (af 2) (ah)))) (ah)) (dW) (aA 2 ay (aa (ai bY (aa (af 1) (ah))) (aa (aj aJ (aj aJ (eC (.int 40)) (af 2)) (af 0)) (ah)))) [some (D.con (ns.map D.int)),some (.int (s:Int)),some (.con (X.map .int))] G=.ok (.obj G.length) (G++[.lst (L.map (OL ns.length s))]):=by
   simp only [YX] at c2
   rw [← c2]
   simp! [hr]
  rw [e4,jq]
  rw [← hL,Zl]
  exact aB λ_=>aT
 have Wq:L.map (OL ns.length s)=((YF (6 - (X.length:Int)).toNat).map λ(k:Nat)=>mx ns.length (40+s+(0+(k:Int)))).map .int:=by
  rw [← hL,Zl,Zl];rfl
 rw [Wq] at e3
 generalize hY:(YF (6 - (X.length:Int)).toNat).map (λ(k:Nat)=>mx ns.length (40+s+(0+(k:Int))))=Y at e3
 have XG:Y.length=(6 - (X.length:Int)).toNat:=by rw [← hY];simp
 refine ⟨X++Y,by simp;nofun,by simp;nofun,aS ?_ (by rw [bL];exact aB λ_=>aT)⟩
 have hz:(X.map D.int++Y.map D.int).length≤XT:=lz (by simp;nofun)
 have hcl:aV (X.map D.int++Y.map D.int)=true:=by rw [← aat];exact aB λ_=>aT
 have e5:eFn (aj aJ (af 2) (eFn (dh eF oN [true,true] (aa (aj kO (eC (.int 6)) (ai bY (aa (af 2) (ah)))) (ah)) (dW) (aA 2 ay (aa (ai bY (aa (af 1) (ah))) (aa (aj aJ (aj aJ (eC (.int 40)) (af 2)) (af 0)) (ah))))))) [some (D.con (ns.map D.int)),some (.int (s:Int)),some (.con (X.map .int))] G=.ok (.con (X.map D.int++Y.map D.int)) G:=by
  rw [aN,f9]
  have e6:af 2 [some (D.con (ns.map D.int)),some (.int (s:Int)),some (.con (X.map .int))] G=.ok (.con (X.map .int)) G:=rfl
  rw [e6,aK,ak,e3,aK]
  show (aI _ G).fw G=_
  rw [bK hz hcl]
 unfold jx
 rw [aat]
 simp! [e1,e5]
theorem DM (x:Str) (l u:Option Int) (h:X4 x=true):X4 (aaW x l u)=true:=by
 unfold aaW
 split
 ·exact h
 ·unfold X4 at h ⊢
  simp only [List.all_toArray,aaG,abt] at h ⊢
  rintro c ⟨i,_,hi⟩
  have h2:=Array.all_eq_true'.mp h c (Array.mem_of_getElem? hi)
  exact h2
noncomputable abbrev lets:Str:="abcdefghijklmnopqrstuvwxyz"
theorem yR (i:Int) (G:DH):∃ s,aU (.str lets) (.int (i % 26)) G=.ok (.str s) G∧X4 s=true∧s.length=1:=
 Lc lets (i % 26) G (by nofun) (by show i % 26<((26:Nat):Int);nofun) (by symm) (by symm)
theorem rF (c:Int) (G:DH) (a1 a4 a5 a6 a7:Option D):∀ (m j:Nat) (t:Str) (a3:Option D),j+m≤100→X4 t=true→t.length≤j+1 →
  ∃ (u:Str) (b3:Option D),X4 u=true∧u.length≤j+m+1∧bU (gN 3) fD ((YL j m).map λ(k:Nat)=>.int (0+(k:Int))) [some (.int c),a1,some (.str t),a3,a4,a5,a6,a7] G=.nx [some (.int c),a1,some (.str u),b3,a4,a5,a6,a7] G
 | 0,j,t,a3,h,k1,k2=>⟨t,a3,k1,by nofun,by simp [bU]⟩
 | m+1,j,t,a3,h,k1,k2=>by
  have hm:=cQ c (32+(0+(j:Int))) (by nofun) (by nofun) G
  obtain ⟨s,es,ks,ls⟩:=yR (mx c (32+(0+(j:Int)))) G
  have hz:t.length+s.length≤XT:=lz (by nofun)
  obtain ⟨u,b3,ku,lu,ih⟩:=rF c G a1 a4 a5 a6 a7 m (j+1) (t++s) (some (.int (0+(j:Int)))) (by nofun) (good_add k1 ks) (by rw [sA];nofun)
  refine ⟨u,b3,ku,by nofun,?_⟩
  rw [abb,X8,bZ rfl]
  have e:fD [some (.int c),a1,some (.str t),some (.int (0+(j:Int))),a4,a5,a6,a7] G=.nx [some (.int c),a1,some (.str (t++s)),some (.int (0+(j:Int))),a4,a5,a6,a7] G:=by
   generalize (0+(j:Int))=jj at hm es
   unfold fD
   simp only [jR,f9,cP,jo,aK,ak,eX,aZ,bP,di,Yv,Ys,Ym,Zc,if_true,aJ,hm,cH,es,if_pos hz,nh,YS,YT,show (0:Int)<26 from by decide,decide_true]
  simp only [YS,YT,e,iw]
  rw [ih]
theorem rG (c w p kk:Int) (hk:-100<kk∧kk<100) (G:DH) (a1 a2:Option D):∀ (m j:Nat) (t:Str) (a3:Option D),j+m≤100→X4 t=true→t.length≤j+1 →
  ∃ (u:Str) (b3:Option D),X4 u=true∧u.length≤j+m+1∧bU (gN 3) fE ((YL j m).map λ(k:Nat)=>.int (0+(k:Int))) [some (.int c),a1,a2,a3,some (.int w),some (.int p),some (.int kk),some (.str t)] G=.nx [some (.int c),a1,a2,b3,some (.int w),some (.int p),some (.int kk),some (.str u)] G
 | 0,j,t,a3,h,k1,k2=>⟨t,a3,k1,by nofun,by simp [bU]⟩
 | m+1,j,t,a3,h,k1,k2=>by
  have hm:=cQ c (32+(0+(j:Int))) (by nofun) (by nofun) G
  obtain ⟨s,es,ks,ls⟩:=yR (mx c (32+(0+(j:Int)))+kk*(if (0+(j:Int))==p then 1 else 0)) G
  have hz:t.length+s.length≤XT:=lz (by nofun)
  obtain ⟨u,b3,ku,lu,ih⟩:=rG c w p kk hk G a1 a2 m (j+1) (t++s) (some (.int (0+(j:Int)))) (by nofun) (good_add k1 ks) (by rw [sA];nofun)
  refine ⟨u,b3,ku,by nofun,?_⟩
  rw [abb,X8,bZ rfl]
  have hk1:(decide (-(2^64)<kk)&&decide (kk<2^64))=true:=by simp;nofun
  have e:fE [some (.int c),a1,a2,some (.int (0+(j:Int))),some (.int w),some (.int p),some (.int kk),some (.str t)] G=.nx [some (.int c),a1,a2,some (.int (0+(j:Int))),some (.int w),some (.int p),some (.int kk),some (.str (t++s))] G:=by
   generalize (0+(j:Int))=jj at hm es
   unfold fE
   simp only [jR,f9,cX,cP,jo,aK,ak,eX,aZ,bP,di,Yv,Ys,Ym,Zc,if_true,aJ,hm,aP,iY,acr,cH,hk1,Bool.true_or,es,if_pos hz,nh,YS,YT,show (0:Int)<26 from by decide,decide_true]
  simp only [YS,YT,e,iw]
  rw [ih]
noncomputable def kept:List Str:=["start","rule","row","mix","many","any","kind","not","both","either","way","mark"]
noncomputable abbrev IE:DS→M D:=eFn (ai aI (aa (eC (.str "start")) (aa (eC (.str "rule")) (aa (eC (.str "row")) (aa (eC (.str "mix")) (aa (eC (.str "many")) (aa (eC (.str "any")) (aa (eC (.str "kind")) (aa (eC (.str "not")) (aa (eC (.str "both")) (aa (eC (.str "either")) (aa (eC (.str "way")) (aa (eC (.str "mark")) (ah))))))))))))))
theorem DP (τ:DS) (G:DH):IE τ G=.ok (.con (kept.map .str)) G:=by
 unfold IE
 rw [aN]
 have Wr:(12:Nat)≤XT:=lz (by nofun)
 have e:ai aI (aa (eC (.str "start")) (aa (eC (.str "rule")) (aa (eC (.str "row")) (aa (eC (.str "mix")) (aa (eC (.str "many")) (aa (eC (.str "any")) (aa (eC (.str "kind")) (aa (eC (.str "not")) (aa (eC (.str "both")) (aa (eC (.str "either")) (aa (eC (.str "way")) (aa (eC (.str "mark")) (ah))))))))))))) τ G=aI (kept.map .str) G:=by
  simp only [cX,aZ,bP,jo,aK,ak,di];rfl
 rw [e,bK (ds:=kept.map .str) (show (kept.map D.str).length≤XT from Wr) (aB λ_=>bz)]
theorem Hv (c w p kk:Int) (G:DH) (ws:List Str) (hw:ws.length≤100) (a2 a3:Option D) (u:Str) (ku:X4 u=true) (lu:u.length≤20):∃ v:Str,X4 v=true∧v.length≤21 ∧
  fF [some (.int c),some (.obj G.length),a2,a3,some (.int w),some (.int p),some (.int kk),some (.str u)] (G++[.lst (ws.map .str)]) =
   .nx [some (.int c),some (.obj G.length),a2,a3,some (.int w),some (.int p),some (.int kk),some (.str v)] (G++[.lst ((ws++[v]).map .str)]):=by
 have hin:=oU u kept (G++[.lst (ws.map .str)]) ku (by symm)
 generalize kept.any (·==u)=bb at hin
 have hz:u.length+("z":Str).length≤XT:=by
  have:("z":Str).length=1:=by symm
  exact lz (by nofun)
 have hz2:ws.length<XT:=X7 (by nofun) (lz (n:=101) (by nofun))
 have hk:=DP
 cases bb with
 | true=>
  refine ⟨u++"z",good_add ku (by symm),(by rw [sA];have:=(show ("z":Str).length=1 by symm);nofun),?_⟩
  unfold fF
  simp! [hk,t7,hin,hz,hz2]
 | false=>
  refine ⟨u,ku,by nofun,?_⟩
  unfold fF
  simp! [hk,t7,hin,hz2]
theorem pQ (c w p:Int) (hw:0≤w) (Mp:w≤8) (G:DH) (a2:Option D):∀ (m j:Nat) (ws:List Str) (a3 a6 a7:Option D),j+m≤5→ws.length=j→(∀ s∈ws,X4 s=true∧s.length≤21) →
  ∃ (us:List Str) (b3 b6 b7:Option D),us.length=j+m∧(∀ s∈us,X4 s=true∧s.length≤21) ∧
   bU (gN 6) fG ((YL j m).map λ(k:Nat)=>.int (0+(k:Int))) [some (.int c),some (.obj G.length),a2,a3,some (.int w),some (.int p),a6,a7] (G++[.lst (ws.map .str)])=.nx [some (.int c),some (.obj G.length),a2,b3,some (.int w),some (.int p),b6,b7] (G++[.lst (us.map .str)])
 | 0,j,ws,a3,a6,a7,h,hl,hs=>⟨ws,a3,a6,a7,by nofun,hs,by simp [bU]⟩
 | m+1,j,ws,a3,a6,a7,h,hl,hs=>by
  obtain ⟨u,b3,ku,lu,e1⟩:=rG c w p (0+(j:Int)) (by nofun) (G++[.lst (ws.map .str)]) (some (.obj G.length)) a2 w.toNat 0 ⟨#[]⟩ a3 (by nofun) (by symm) (by show 0≤1;nofun)
  obtain ⟨v,kv,lv,e2⟩:=Hv c w p (0+(j:Int)) G ws (by nofun) a2 b3 u ku (by nofun)
  obtain ⟨us,c3,c6,c7,Oi,oj,ih⟩:=pQ c w p hw Mp G a2 m (j+1) (ws++[v]) b3 (some (.int (0+(j:Int)))) (some (.str v)) (by nofun) (by simp [hl]) (λs hm=>by
   rcases Zr.mp hm with h | h
   ·exact hs s h
   ·rw [Yk.mp h];exact ⟨kv,lv⟩)
  refine ⟨us,c3,c6,c7,by nofun,oj,?_⟩
  have hr:=iL (j:=w) hw (by nofun)
  generalize ((YL 0 w.toNat).map λ(k:Nat)=>D.int (0+(k:Int)))=its at hr e1
  rw [abb,X8,bZ rfl]
  generalize (0+(j:Int))=jj at e1 e2 ih
  have e:fG [some (.int c),some (.obj G.length),a2,a3,some (.int w),some (.int p),some (.int jj),a7] (G++[.lst (ws.map .str)])=.nx [some (.int c),some (.obj G.length),a2,b3,some (.int w),some (.int p),some (.int jj),some (.str v)] (G++[.lst ((ws++[v]).map .str)]):=by
   unfold fG
   have e0:("":Str)=⟨#[]⟩:=rfl
   rw [e0]
   simp only [bu,jR,jo,nh,cI,YS,YT,z9,aZ,bP,cP,aK,ak,di,Yv,Ys,Ij,hr,e1,e2]
  simp only [YS,YT,e,iw]
  exact ih
noncomputable def OM (t:Str) (v:Int):D→D
 | .int j=>.str (aaW t none (some (1+v % 4+j)))
 | _=>.cz
theorem DQ (c:Int) (G:DH):∃ ws:List Str,ws.length=5∧(∀ s∈ws,X4 s=true∧s.length≤21)∧jz [.int c] G=.ok (.con (ws.map .str)) G:=by
 have z0:(0:Nat)≤XT:=Z4 _
 have Uc:=cQ c 40 (by nofun) (by nofun)
 have Ws:=cQ c 41 (by nofun) (by nofun)
 have Wt:=cQ c 42 (by nofun) (by nofun)
 have Wu:=cQ c 43 (by nofun) (by nofun)
 have XH:=ny c 41
 have XI:=ny c 42
 by_cases h0:mx c 40 % 3=0
 ·obtain ⟨u,b3,ku,lu,e1⟩:=rF c (G++[.lst []]) (some (.obj G.length)) none none none none 7 0 "q" none (by nofun) (by symm) (by symm)
  have hr:=iL (j:=7) (by nofun) (by nofun)
  rw [show (7:Int).toNat=7 from rfl] at hr
  generalize ((YL 0 7).map λ(k:Nat)=>D.int (0+(k:Int)))=its at hr e1
  have Mq:=iL (j:=5) (by nofun) (by nofun)
  rw [show (5:Int).toNat=5 from rfl] at Mq
  have hsz:u.length≤XT:=lz (by nofun)
  generalize hτ:([some (.int c),some (.obj G.length),some (.str u),b3,none,none,none,none]:DS)=τ at e1
  have hc:∀ G1,eFn (dh eF oN [true,false,true] (aa (eC (.int 5)) (ah)) (dW) (eFn (l6 (af 3) (fP) (bR (aj aJ (aj aJ (eC (.int 1)) (aj cL (aA 2 ay (aa (af 1) (aa (eC (.int 43)) (ah)))) (eC (.int 4)))) (af 0)))))) τ G1=.ok (.con (((YL 0 5).map λ(k:Nat)=>D.int (0+(k:Int))).map (OM u (mx c 43)))) G1:=λG1=>by
   have c1:=kg (τ:=τ) (G:=G1) (gO:=oN) (ks:=[true,false,true]) (te:=eFn (l6 (af 3) (fP) (bR (aj aJ (aj aJ (eC (.int 1)) (aj cL (aA 2 ay (aa (af 1) (aa (eC (.int 43)) (ah)))) (eC (.int 4)))) (af 0))))) (own:=λx=>[x]) (f:=OM u (mx c 43)) ((YL 0 5).map λ(k:Nat)=>D.int (0+(k:Int))) [] (by simp) (λx _=>rfl) (λx hx acc=>by
    obtain ⟨i,hi,rfl⟩:=aac.mp hx
    subst hτ
    generalize (0+(i:Int))=ii
    simp! [aN,mask,Wu,wO,OM,hsz])
   rw [aN]
   have e2:dh eF oN [true,false,true] (aa (eC (.int 5)) (ah)) (dW) (eFn (l6 (af 3) (fP) (bR (aj aJ (aj aJ (eC (.int 1)) (aj cL (aA 2 ay (aa (af 1) (aa (eC (.int 43)) (ah)))) (eC (.int 4)))) (af 0))))) τ G1=.ok (.obj G1.length) (G1++[.lst (((YL 0 5).map λ(k:Nat)=>D.int (0+(k:Int))).map (OM u (mx c 43)))]):=by
    simp only [YX] at c1
    rw [← c1]
    simp only [oW,aZ,bP,jo,aK,ak,di,Mq]
   rw [e2,jq]
   rw [Zl]
   exact aB λ_=>bz
  have ex:((YL 0 5).map λ(k:Nat)=>D.int (0+(k:Int))).map (OM u (mx c 43))=((YL 0 5).map λ(k:Nat)=>aaW u none (some (1+mx c 43 % 4+(0+(k:Int))))).map .str:=by
   rw [Zl,Zl];rfl
  rw [ex] at hc
  refine ⟨(YL 0 5).map λ(k:Nat)=>aaW u none (some (1+mx c 43 % 4+(0+(k:Int)))),by simp,λs hs=>?_,?_⟩
  ·obtain ⟨i,_,rfl⟩:=aac.mp hs
   exact ⟨DM u _ _ ku,YV (Txt.slice_le u _ _) (by nofun)⟩
  ·refine gy (R:=[.lst []]) ?_ (by rw [bL];exact aB λ_=>bz)
   generalize (((YL 0 5).map λ(k:Nat)=>aaW u none (some (1+mx c 43 % 4+(0+(k:Int))))).map D.str)=ws at hc
   generalize hC:eFn (dh eF oN [true,false,true] (aa (eC (.int 5)) (ah)) (dW) (eFn (l6 (af 3) (fP) (bR (aj aJ (aj aJ (eC (.int 1)) (aj cL (aA 2 ay (aa (af 1) (aa (eC (.int 43)) (ah)))) (eC (.int 4)))) (af 0))))))=C at hc
   subst hτ
   unfold gZ iS
   rw [hC]
   have hn:aI [] G=.ok (.obj G.length) (G++[.lst []]):=if_pos z0
   simp! [hn,Uc,aP,h0,hr,e1,hc]
 ·have hw1:0≤1+mx c 41 % 8:=by nofun
  have Mp:1+mx c 41 % 8≤8:=by nofun
  have Ud:0<1+mx c 41 % 8:=by nofun
  obtain ⟨us,b3,b6,b7,Oi,oj,e1⟩:=pQ c (1+mx c 41 % 8) (mx c 42 % (1+mx c 41 % 8)) hw1 Mp G none 5 0 [] none none none (by nofun) rfl (λs h=>by simp at h)
  have Mq:=iL (j:=5) (by nofun) (by nofun)
  rw [show (5:Int).toNat=5 from rfl] at Mq
  generalize ((YL 0 5).map λ(k:Nat)=>D.int (0+(k:Int)))=its at Mq e1
  generalize Wv:1+mx c 41 % 8=w at e1 hw1 Mp Ud
  generalize hpp:mx c 42 % w=pp at e1
  refine ⟨us,Oi,oj,gy (R:=[.dead]) ?_ (by rw [bL];exact aB λ_=>bz)⟩
  have hn:aI [] G=.ok (.obj G.length) (G++[.lst []]):=if_pos z0
  have h0':(mx c 40 % 3==0)=false:=by simpa using h0
  unfold gZ
  simp only [Yl] at e1
  simp! [hn,Uc,Ws,Wt,aP,h0',Mq,Wv,hpp,Ud,e1]
theorem yS {a b:D}:iV [a,b] 0=some a:=rfl
theorem Eu {a b:D}:iV [a,b] 1=some b:=rfl
theorem Mr {a b c:D}:iV [a,b,c] 0=some a:=rfl
theorem P1 {a b c:D}:iV [a,b,c] 1=some b:=rfl
theorem a32 {a b c:D}:iV [a,b,c] 2=some c:=rfl
theorem IF {a:D}:iV [a] 0=some a:=rfl
theorem jA {e:DS→M D} {i:Nat} {v:D} {τ:DS} {G G':DH} {R:MS} (h:e τ G=.ok v G'):(az (aF i e) R τ G).fn=(R (τ.set i (some v)) G').fn:=by
 rw [bu,jR,h,nh,cI]
theorem gh {e:DS→M D} {i:Nat} {v:D} {τ:DS} {G G':DH} {R:MS} {r:Out D} (h:e τ G=.ok v G') (k:(R (τ.set i (some v)) G').fn=r):(az (aF i e) R τ G).fn=r:=(jA h).trans k
theorem yT {S R:MS} {τ τ':DS} {G G':DH} {r:Out D} (h:S τ G=.nx τ' G') (k:(R τ' G').fn=r):(az S R τ G).fn=r:=by
 rw [bu,h,cI];exact k
mutual
inductive Lk where
 | one (m:Bool)
 | kind (s:Str)
 | nU (j:Nat)
 | not (l:Lk)
 | bin (e:Bool) (l r:Lk)
 | way (w:Wy)
inductive Wy where
 | nil
 | cons (g:Str) (l:Lk) (w:Wy)
end
noncomputable def kB (m:Bool):Str:=if m then "mark" else "any"
noncomputable def iE (e:Bool):Str:=if e then "either" else "both"
mutual
noncomputable def Lk.D:Lk→L3.D
 | .one m=>.tup [.str (kB m)]
 | .kind s=>.tup [.str "kind",.str s]
 | .nU j=>.tup [.str "from",.int (j:Int)]
 | .not l=>.tup [.str "not",l.D]
 | .bin e l r=>.tup [.str (iE e),l.D,r.D]
 | .way w=>.tup [.str "way",.tup w.Ds]
noncomputable def Wy.Ds:Wy→List L3.D
 | .nil=>[]
 | .cons g l w=>.tup [.str g,l.D]::w.Ds
end
mutual
noncomputable def Lk.sz:Lk→Nat
 | .one _=>1
 | .kind _=>1
 | .nU _=>1
 | .not l=>1+l.sz
 | .bin _ l r=>1+(l.sz+r.sz)
 | .way w=>1+w.sz
noncomputable def Wy.sz:Wy→Nat
 | .nil=>0
 | .cons _ l w=>l.sz+w.sz
end
noncomputable def Gd (g:Str):Prop:=g="down"∨g="deep"∨g="later"
theorem Gd.ok {g:Str} (h:Gd g):X4 g=true:=by rcases h with rfl | rfl | rfl<;>symm
mutual
noncomputable def Lk.Ok:Lk→Prop
 | .one _=>True
 | .kind s=>X4 s=true
 | .nU _=>False
 | .not l=>l.Ok
 | .bin _ l r=>l.Ok∧r.Ok
 | .way w=>w≠.nil∧w.Ok
noncomputable def Wy.Ok:Wy→Prop
 | .nil=>True
 | .cons g l w=>Gd g∧l.Ok∧w.Ok
end
noncomputable def Lk.Vo (n:Nat):Lk→Prop
 | .one _=>True
 | .kind s=>X4 s=true
 | .nU j=>j<n
 | .not l=>l.Vo n
 | .bin _ l r=>l.Vo n∧r.Vo n
 | .way _=>False
mutual
noncomputable def Lk.dep:Lk→Nat
 | .one _=>1
 | .kind _=>1
 | .nU _=>1
 | .not l=>1+l.dep
 | .bin _ l r=>1+max l.dep r.dep
 | .way w=>1+w.dep
noncomputable def Wy.dep:Wy→Nat
 | .nil=>0
 | .cons _ l w=>max l.dep w.dep
end
theorem fm (m:Bool):X4 (kB m)=true:=by cases m<;>symm
theorem cY:X4 ("kind":Str)=true:=by symm
theorem cy:X4 ("not":Str)=true:=by symm
theorem gQ:X4 ("way":Str)=true:=by symm
theorem cU:X4 ("from":Str)=true:=by symm
theorem cZ (e:Bool):X4 (iE e)=true:=by cases e<;>symm
mutual
theorem lB:∀ (l:Lk),l.D.closed=true
 | .one m=>by simp [Lk.D,D.closed,aG,aL,bz]
 | .kind nm=>by simp [Lk.D,D.closed,aG,aL,bz]
 | .nU _=>by simp [Lk.D,D.closed,aG,aL,bz]
 | .not l=>by simp [Lk.D,D.closed,aG,aL,bz,lB l]
 | .bin e l r=>by simp [Lk.D,D.closed,aG,aL,bz,lB l,lB r]
 | .way w=>by simp [Lk.D,D.closed,aG,aL,bz,ON w]
theorem ON:∀ (w:Wy),aV w.Ds=true
 | .nil=>by simp [Wy.Ds,aL]
 | .cons g l w=>by
  rw [Wy.Ds,aG,ON w]
  simp [D.closed,aG,aL,bz,lB l]
end
noncomputable def Wy.ps:Wy→List (Str×Lk)
 | .nil=>[]
 | .cons g l w=>(g,l)::w.ps
noncomputable def vN (q:Str×Lk):D:=.tup [.str q.1,q.2.D]
theorem IG:∀ w:Wy,w.Ds=w.ps.map vN
 | .nil=>rfl
 | .cons g l w=>by rw [Wy.Ds,IG w];rfl
theorem DR (l:Lk):1≤l.sz:=by cases l<;>simp [Lk.sz]
noncomputable def szl:List Lk→Nat
 | []=>0
 | l::ls=>l.sz+szl ls
theorem tU:∀ a b:List Lk,szl (a++b)=szl a+szl b
 | [],b=>by simp [szl]
 | t::a,b=>by rw [adb,szl,szl,tU a b];nofun
theorem R7:∀ w:Wy,w.sz=szl (w.ps.map (·.2))
 | .nil=>by simp [Wy.sz,Wy.ps,szl]
 | .cons g l w=>by rw [Wy.sz,R7 w,Wy.ps];simp [szl]
theorem eqs (s t:Str) (G:DH) (hs:X4 s=true) (ht:X4 t=true) {b:Bool} (h:(s==t)=b):gj false (.str s) (.str t) G=.ok (.bl b) G:=by
 rw [sy false s t G hs ht,h];simp
theorem ins (s:Str) (ws:List Str) (G:DH) (hs:X4 s=true) (hw:Za (ws.map aaD)=true) {b:Bool} (h:ws.any (·==s)=b):t7 false (.str s) (.tup (ws.map .str)) G=.ok (.bl b) G:=by
 have hk:=oU s ws G hs hw
 rw [h] at hk
 simp [t7,aD,hk]
theorem R8 (s:Str) (ws:List Str) (G:DH) (hs:X4 s=true) (hw:Za (ws.map aaD)=true) {b:Bool} (h:ws.any (·==s)=b):t7 false (.str s) (.con (ws.map .str)) G=.ok (.bl b) G:=by
 have hk:=oU s ws G hs hw
 rw [h] at hk
 simp [t7,aD,hk]
theorem Ms (s:Str) (G:DH) (hs:X4 s=true) {b:Bool} (h:(["both","either"]:List Str).any (·==s)=b):t7 false (.str s) (.con [.str "both",.str "either"]) G=.ok (.bl b) G:=R8 s ["both","either"] G hs (by symm) h
theorem OO (s:Str) (G:DH) (hs:X4 s=true) {b:Bool} (h:(["not","both","either"]:List Str).any (·==s)=b):t7 false (.str s) (.tup [.str "not",.str "both",.str "either"]) G=.ok (.bl b) G:=ins s ["not","both","either"] G hs (by symm) h
theorem mk2 (G:DH):(aI [.str "both",.str "either"] G).fw G=.ok (.con [.str "both",.str "either"]) G:=bK (lz (n:=2) (by nofun)) rfl
noncomputable def eD (j:Nat) (xs:List D):List D:=xs.mapIdx λi x=>.tup [.int ((i+j:Nat):Int),x]
theorem yU (j:Nat) (x:D) (xs:List D):eD j (x::xs)=.tup [.int (j:Int),x]::eD (j+1) xs:=by
 unfold eD
 rw [adg]
 congr 1
 ·simp
 ·congr 1
  funext i x
  rw [show i+1+j=i+(j+1) by nofun]
structure Qt where
 l:Lk
 b:Int
 s:Int
 d:Int
noncomputable def Qt.D (q:Qt):L3.D:=.tup [q.l.D,.int q.b,.int q.s,.int q.d]
noncomputable def Qt.Ok (q:Qt):Prop:=q.l.Ok∧(q.l.sz:Int)≤q.s∧(q.l.dep:Int)≤q.d∧q.s≤40∧q.d≤12
theorem pR (q:Qt):q.D.closed=true:=by simp [Qt.D,D.closed,aG,aL,lB]
theorem xV {a b c d:D}:iV [a,b,c,d] 0=some a:=rfl
theorem AZ {a b c d:D}:iV [a,b,c,d] 1=some b:=rfl
theorem v7 {a b c d:D}:iV [a,b,c,d] 2=some c:=rfl
theorem xW {a b c d:D}:iV [a,b,c,d] 3=some d:=rfl
theorem mV {g:jI} {body:MS} {xs:List D} {τ:DS} {G:DH}:kq g body (iu (.con xs)) (xs.length+1) 0 τ G=bU g body (xs.mapIdx λi x=>.tup [.int i,x]) τ G:=by
 have:=i0 (g:=g) (body:=body) (xs:=xs.mapIdx λi x=>D.tup [.int i,x]) (vw:=iu (.con xs)) (λG i h=>by
  simp only [aaS] at h
  simp only [iu,aD,if_pos h,aab]) (xs.length+1) 0 τ G (by simp) (by simp)
 simpa using this
theorem R9 (i j:Int) (G:DH):LA (.int i) (.int j) G=.ok (.int (YQ i j)) G:=rfl
theorem xX (i j:Int) (G:DH):sP (.int i) (.int j) G=.ok (.int (YO i j)) G:=rfl
theorem Sa (i j:Int) (G:DH):LB (.int i) (.int j) G=.ok (.int (ZD i j)) G:=rfl
theorem Sb (b:Bool) (G:DH):jU (.int (if b then 1 else 0)) (.int 0) G=.ok (.int (if b then 1 else 0)) G:=by
 cases b<;>rfl
theorem OP (G:DH):jU (.int 1) (.int 0) G=.ok (.int 1) G:=rfl
theorem II (G:DH):jU (.int 1) (.int 1) G=.ok (.int 2) G:=rfl
theorem Hw (c:Int) (ws:List Str) (h5:ws.length=5) (hw:∀ s∈ws,X4 s=true) (n0:Str) (hn:X4 n0=true) (sp:Int) (G:DH):∃ q:Qt,q.Ok∧fR [.int c,.con (ws.map .str),.con [.tup [.int 0,.str n0]],.int sp] G=.ok q.D G:=by
 have hm:=cQ c 10 (by nofun) (by nofun)
 have hm2:=cQ c 14 (by nofun) (by nofun)
 have hn1:=ny c 10
 have z1:(1:Nat)≤XT:=lz (by nofun)
 have z2:(2:Nat)≤XT:=lz (by nofun)
 have z4:(4:Nat)≤XT:=lz (by nofun)
 generalize mx c 10=v at hm hn1
 generalize mx c 14=u at hm2
 by_cases c1:v % 5=1
 ·refine ⟨⟨.one true,sp,1,1⟩,⟨by rw [Lk.Ok];trivial,by simp [Lk.sz],by simp [Lk.dep],by show (1:Int)≤40;nofun,by show (1:Int)≤12;nofun⟩,?_⟩
  have eD:(Qt.mk (.one true) sp 1 1).D=.tup [.tup [.str "mark"],.int sp,.int 1,.int 1]:=rfl
  unfold fR
  refine aS ?_ (pR _)
  rw [eD]
  generalize D.con (ws.map .str)=wD
  simp! [gG,hm,c1,aP,z1,z4]
 by_cases c0:v % 5=0
 ·refine ⟨⟨.one false,2 - 1,1,1⟩,⟨by rw [Lk.Ok];trivial,by simp [Lk.sz],by simp [Lk.dep],by show (1:Int)≤40;nofun,by show (1:Int)≤12;nofun⟩,?_⟩
  have eD:(Qt.mk (.one false) (2 - 1) 1 1).D=.tup [.tup [.str "any"],.int (2 - 1),.int 1,.int 1]:=rfl
  unfold fR
  refine aS ?_ (pR _)
  rw [eD]
  generalize D.con (ws.map .str)=wD
  have n1:((0:Int)==1)=false:=by decide
  simp! [gG,hm,c0,aP,n1,z1,z4,II]
 ·have hu:0≤u % 5∧u % 5<5:=by nofun
  obtain ⟨x,hx,DT⟩:=iZ (xs:=ws.map D.str) hu.1 (by simp [h5];nofun)
  rw [Yq] at DT
  cases hg:ws[(u % 5).toNat]? with
  | none=>rw [hg] at DT;cases DT
  | some k=>
   rw [hg] at DT;cases DT
   have hk:=hw k (Yy hg)
   refine ⟨⟨.kind k,YQ 0 (if (n0==k) then 1 else 0),1,1⟩,⟨by rw [Lk.Ok];exact hk,by simp [Lk.sz],by simp [Lk.dep],by show (1:Int)≤40;nofun,by show (1:Int)≤12;nofun⟩,?_⟩
   have eD:(Qt.mk (.kind k) (YQ 0 (if (n0==k) then 1 else 0)) 1 1).D=.tup [.tup [.str "kind",.str k],.int (YQ 0 (if (n0==k) then 1 else 0)),.int 1,.int 1]:=rfl
   unfold fR
   refine aS ?_ (pR _)
   rw [eD]
   have n1:(v % 5==(1:Int))=false:=beq_eq_false_iff_ne.mpr c1
   have Sd:(v % 5==(0:Int))=false:=beq_eq_false_iff_ne.mpr c0
   have hq:=λG=>sy false n0 k G hn hk
   simp only [acr] at hq
   generalize (n0==k)=bb at hq
   have sh:=λG=>Sb bb G
   have hi:∀ G,iY [.bl bb] G=.ok (.int (if bb=true then (1:Int) else 0)) G:=λG=>rfl
   generalize (if bb=true then (1:Int) else 0)=ib at sh hi ⊢
   generalize ws.map D.str=wD at hx
   have eT:eY [some (.int c),some (.con wD),some (.con [.tup [.int 0,.str n0]]),some (.int sp),some (.str k),some (.int 0),some (.int 0),some (.tup [.int 0,.str n0])] G=.nx [some (.int c),some (.con wD),some (.con [.tup [.int 0,.str n0]]),some (.int sp),some (.str k),some (.int (YQ 0 ib)),some (.int 0),some (.tup [.int 0,.str n0])] G:=by
    unfold eY
    simp! [Eu,hq,hi,sh,R9]
   have eL:kq (gP 6 7) eY (iu (.con [.tup [.int 0,.str n0]])) 2 0 [some (.int c),some (.con wD),some (.con [.tup [.int 0,.str n0]]),some (.int sp),some (.str k),some (.int 0),none,none] G=.nx [some (.int c),some (.con wD),some (.con [.tup [.int 0,.str n0]]),some (.int sp),some (.str k),some (.int (YQ 0 ib)),some (.int 0),some (.tup [.int 0,.str n0])] G:=by
    have hfe:=mV (g:=gP 6 7) (body:=eY) (xs:=[.tup [.int 0,.str n0]]) (τ:=[some (.int c),some (.con wD),some (.con [.tup [.int 0,.str n0]]),some (.int sp),some (.str k),some (.int 0),none,none]) (G:=G)
    refine hfe.trans ?_
    have e1:([D.tup [.int 0,.str n0]].mapIdx λi x=>D.tup [.int (i:Int),x])=[.tup [.int 0,.tup [.int 0,.str n0]]]:=rfl
    rw [e1,bZ (τ1:=[some (.int c),some (.con wD),some (.con [.tup [.int 0,.str n0]]),some (.int sp),some (.str k),some (.int 0),some (.int 0),some (.tup [.int 0,.str n0])]) rfl,eT,iw,fB]
   unfold gG
   simp! [hm,hm2,n1,Sd,aP,hx,eL,z2,z4]
theorem AE (x:Int) (G:DH):∃ y:Int,iR [.con [.int 0],.int x] G=.ok (.int y) G:=by
 have key:∃ y:Int,dw [some (.con [.int 0]),some (.int x),some (.int 0),some (.int 0),some (.int 0)] G=.nx [some (.con [.int 0]),some (.int x),some (.int y),some (.int 0),some (.int 0)] G:=by
  unfold dw
  by_cases h:YO 0 x=0
  ·refine ⟨0,?_⟩
   simp! [xX,h,aP]
  ·have hb:(YO 0 x==0)=false:=beq_eq_false_iff_ne.mpr h
   refine ⟨YQ 0 1,?_⟩
   simp! [xX,hb,aP,R9,OP]
 obtain ⟨y,e⟩:=key
 refine ⟨y,aS ?_ aT⟩
 have eL:kq (gP 3 4) dw (iu (.con [.int 0])) 2 0 [some (.con [.int 0]),some (.int x),some (.int 0),none,none] G=.nx [some (.con [.int 0]),some (.int x),some (.int y),some (.int 0),some (.int 0)] G:=by
  have hfe:=mV (g:=gP 3 4) (body:=dw) (xs:=[.int 0]) (τ:=[some (.con [.int 0]),some (.int x),some (.int 0),none,none]) (G:=G)
  refine hfe.trans ?_
  have e1:([D.int 0].mapIdx λi x=>D.tup [.int (i:Int),x])=[.tup [.int 0,.int 0]]:=rfl
  rw [e1,bZ (τ1:=[some (.con [.int 0]),some (.int x),some (.int 0),some (.int 0),some (.int 0)]) rfl,e,iw,fB]
 unfold iQ
 simp! [eL]
theorem IJ (G:DH):(aI [.int 1,.int 2,.int 3,.int 1,.int 2,.int 3,.int 2,.int 7] G).fw G=.ok (.con [.int 1,.int 2,.int 3,.int 1,.int 2,.int 3,.int 2,.int 7]) G:=bK (lz (n:=8) (by nofun)) rfl
theorem yV (c:Int) (A B:DH) (xs:List D) (hx:1≤xs.length) (hz:xs.length≤1000):∃ m:Nat,1≤m∧m≤xs.length∧m≤7∧gH [.obj A.length,.int c] (A++.lst xs::B)=.ok (.int (m:Int)) (A++.lst xs::B):=by
 have hm:=cQ c 15 (by nofun) (by nofun)
 generalize mx c 15=v at hm
 have hv:0≤v % 8∧v % 8<8:=by nofun
 obtain ⟨d,e1,e2⟩:=iZ (xs:=[D.int 1,.int 2,.int 3,.int 1,.int 2,.int 3,.int 2,.int 7]) hv.1 (by simpa using hv.2)
 have hd:∃ k:Nat,d=.int (k:Int)∧1≤k∧k≤7:=by
  have hmem:=Yy e2
  simp only [Yn,adh,or_false] at hmem
  rcases hmem with rfl | rfl | rfl | rfl | rfl | rfl | rfl | rfl
  ·exact ⟨1,rfl,by nofun,by nofun⟩
  ·exact ⟨2,rfl,by nofun,by nofun⟩
  ·exact ⟨3,rfl,by nofun,by nofun⟩
  ·exact ⟨1,rfl,by nofun,by nofun⟩
  ·exact ⟨2,rfl,by nofun,by nofun⟩
  ·exact ⟨3,rfl,by nofun,by nofun⟩
  ·exact ⟨2,rfl,by nofun,by nofun⟩
  ·exact ⟨7,rfl,by nofun,by nofun⟩
 obtain ⟨k,rfl,k1,k7⟩:=hd
 have g0:∀ x Y,(A++x::Y)[A.length]?=some x:=λx Y=>nV A x Y
 refine ⟨if k<xs.length then k else xs.length,by split<;>nofun,by split<;>nofun,by split<;>nofun,aS ?_ aT⟩
 have Mt:xs.length≤XT:=lz (by nofun)
 by_cases hk:k<xs.length
 ·have hk':(k:Int)<(xs.length:Int):=by nofun
  simp! [iM,g0,Mt,hm,aN,IJ,e1,hk,hk']
 ·have hk':¬ (k:Int)<(xs.length:Int):=by nofun
  simp! [iM,g0,Mt,hm,aN,IJ,e1,hk,hk']
theorem OQ (xs:List D) (x:D):iV (xs++[x]) (-1)=some x:=by
 have e:vY (xs++[x]).length (-1)=some xs.length:=by
  unfold vY
  rw [if_neg (by nofun),if_pos (by simp;nofun)]
  simp;nofun
 unfold iV
 rw [e]
 simp
theorem OR (xs:List D) (x y:D):iV (xs++[x,y]) (-2)=some x:=by
 have e:vY (xs++[x,y]).length (-2)=some xs.length:=by
  unfold vY
  rw [if_neg (by nofun),if_pos (by simp;nofun)]
  simp;nofun
 unfold iV
 rw [e]
 simp
theorem yW (q:Qt) (G:DH):(aI [q.D] G).fw G=.ok (.con [q.D]) G:=bK (lz (n:=1) (by nofun)) (by simp [aG,aL,pR])
theorem iF (G:DH):(aI [] G).fw G=.ok (.con []) G:=bK (Z4 _) rfl
theorem P4 (τ:DS) (G:DH):mE (eC (.int 1)) τ G=.ok (.int (-1)) G:=rfl
theorem IK (τ:DS) (G:DH):mE (eC (.int 2)) τ G=.ok (.int (-2)) G:=rfl
theorem AF (c ev:Int) (A B:DH) (gI:List Qt) (q1:Qt) (hq:∀ q∈gI++[q1],q.Ok) (hz:gI.length≤1000):∃ rs:List Qt,rs.length≤1∧(∀ q∈rs,q.Ok) ∧
  cJ [.obj A.length,.int c,.int ev] (A++.lst ((gI++[q1]).map Qt.D)::B)=.ok (.con (rs.map Qt.D)) (A++.lst ((gI++[q1]).map Qt.D)::B):=by
 have hm:=cQ c 11 (by nofun) (by nofun)
 have hn1:=ny c 11
 generalize mx c 11=v at hm hn1
 have OF:=hq q1 (by simp)
 have g0:∀ x Y,(A++x::Y)[A.length]?=some x:=λx Y=>nV A x Y
 have z2:(2:Nat)≤XT:=lz (by nofun)
 have z3:(3:Nat)≤XT:=lz (by nofun)
 have z4:(4:Nat)≤XT:=lz (by nofun)
 have em:(gI++[q1]).map Qt.D=gI.map Qt.D++[.tup [q1.l.D,.int q1.b,.int q1.s,.int q1.d]]:=by simp [Qt.D]
 have hat:=OQ (gI.map Qt.D) (.tup [q1.l.D,.int q1.b,.int q1.s,.int q1.d])
 obtain ⟨w1,w2,w3,w4,w5⟩:=OF
 have hlen:((gI++[q1]).map Qt.D).length=gI.length+1:=by simp
 have Mt:gI.length+1≤XT:=lz (by nofun)
 rw [← em] at hat
 by_cases hA:v % 6=0∧q1.d<12∧q1.s<40
 ·obtain ⟨h1,h2,h3⟩:=hA
  refine ⟨[⟨.not q1.l,ZD ev q1.b,q1.s+1,q1.d+1⟩],by simp,λq h=>?_,?_⟩
  ·rw [Yk.mp h]
   refine ⟨by rw [Lk.Ok];exact w1,?_,?_,?_,?_⟩
   ·show ((Lk.not q1.l).sz:Int)≤q1.s+1;rw [Lk.sz];nofun
   ·show ((Lk.not q1.l).dep:Int)≤q1.d+1;rw [Lk.dep];nofun
   ·show q1.s+1≤40;nofun
   ·show q1.d+1≤12;nofun
  have f:=λG=>yW ⟨.not q1.l,ZD ev q1.b,q1.s+1,q1.d+1⟩ G
  have eD:(Qt.mk (.not q1.l) (ZD ev q1.b) (q1.s+1) (q1.d+1)).D=.tup [.tup [.str "not",q1.l.D],.int (ZD ev q1.b),.int (q1.s+1),.int (q1.d+1)]:=by simp [Qt.D,Lk.D]
  unfold cJ
  refine aS ?_ (by rw [bL];exact aB pR)
  rw [X8,Yl]
  rw [eD] at f ⊢
  generalize (gI++[q1]).map Qt.D=xs at hat hlen
  generalize q1.l.D=ld at f hat
  have hx:=λG=>Sa ev q1.b G
  generalize ZD ev q1.b=bx at f hx
  simp! [bA,hm,h1,g0,P4,hat,aP,xV,AZ,v7,xW,h2,h3,hx,z2,z4,aN,f]
 ·have DU:∀ S:MS,(az (aF 3 (aj cL (aA 2 ay (aa (af 1) (aa (eC (.int 11)) (ah)))) (eC (.int 6)))) (az (aF 4 (aj aU (af 0) (mE (eC (.int 1))))) S)) [some (.obj A.length),some (.int c),some (.int ev),none,none,none,none,none] (A++.lst ((gI++[q1]).map Qt.D)::B)=S [some (.obj A.length),some (.int c),some (.int ev),some (.int (v % 6)),some (.tup [q1.l.D,.int q1.b,.int q1.s,.int q1.d]),none,none,none] (A++.lst ((gI++[q1]).map Qt.D)::B):=by
   intro S
   generalize (gI++[q1]).map Qt.D=xs at hat hlen
   generalize q1.l.D=ld at hat
   simp! [hm,g0,P4,hat]
  have SA:(dY (cW (aj (gj false) (af 3) (eC (.int 0)))) (dY (cW (aj pV (aj aU (af 4) (eC (.int 3))) (eC (.int 12)))) (cW (aj pV (aj aU (af 4) (eC (.int 2))) (eC (.int 40)))))) [some (.obj A.length),some (.int c),some (.int ev),some (.int (v % 6)),some (.tup [q1.l.D,.int q1.b,.int q1.s,.int q1.d]),none,none,none] (A++.lst ((gI++[q1]).map Qt.D)::B)=.ok false (A++.lst ((gI++[q1]).map Qt.D)::B):=by
   generalize (gI++[q1]).map Qt.D=xs at hat hlen
   generalize q1.l.D=ld at hat
   by_cases h1:v % 6=0
   ·by_cases h2:q1.d<12
    ·have h3:¬ q1.s<40:=λh3=>hA ⟨h1,h2,h3⟩
     simp! [h1,aP,v7,xW,h2,h3]
    ·simp! [h1,aP,v7,xW,h2]
   ·have hb:(v % 6==(0:Int))=false:=beq_eq_false_iff_ne.mpr h1
    simp! [aP,hb]
  by_cases hB:v % 6<3∧1≤gI.length
  ·obtain ⟨pS,q2,rfl⟩:∃ (pS:List Qt) (q2:Qt),gI=pS++[q2]:=⟨gI.dropLast,gI.getLast (by intro h;rw [h] at hB;simp at hB),(abi _).symm⟩
   have ho2:=hq q2 (by simp)
   obtain ⟨u1,u2,u3,u4,u5⟩:=ho2
   have LU:(pS++[q2]++[q1]).map Qt.D=pS.map Qt.D++[.tup [q2.l.D,.int q2.b,.int q2.s,.int q2.d],.tup [q1.l.D,.int q1.b,.int q1.s,.int q1.d]]:=by simp [Qt.D]
   have fO:=OR (pS.map Qt.D) (.tup [q2.l.D,.int q2.b,.int q2.s,.int q2.d]) (.tup [q1.l.D,.int q1.b,.int q1.s,.int q1.d])
   rw [← LU] at fO
   have Hx:=hB.1
   obtain ⟨n,vO,hl1⟩:∃ n:Nat,((pS++[q2]++[q1]).map Qt.D).length=n∧(1:Int)<(n:Int):=⟨_,rfl,by simp;nofun⟩
   obtain ⟨me,hp1,hp2,Hy⟩:∃ me:Int,q1.d≤me∧q2.d≤me∧(if q1.d<q2.d then q2.d else q1.d)=me:=⟨_,by split<;>nofun,by split<;>nofun,rfl⟩
   have hok:∀ (e:Bool) (b:Int),q1.s+q2.s+1<41→me+1<13→(Qt.mk (.bin e q2.l q1.l) b (q1.s+q2.s+1) (me+1)).Ok:=λe b k1 k2=>by
    refine ⟨by rw [Lk.Ok];exact ⟨u1,w1⟩,?_,?_,?_,?_⟩
    ·show ((Lk.bin e q2.l q1.l).sz:Int)≤q1.s+q2.s+1;rw [Lk.sz];nofun
    ·show ((Lk.bin e q2.l q1.l).dep:Int)≤me+1;rw [Lk.dep];nofun
    ·show q1.s+q2.s+1≤40;nofun
    ·show me+1≤12;nofun
   have hD:∀ (e:Bool) (b:Int),(Qt.mk (.bin e q2.l q1.l) b (q1.s+q2.s+1) (me+1)).D=.tup [.tup [.str (iE e),q2.l.D,q1.l.D],.int b,.int (q1.s+q2.s+1),.int (me+1)]:=λe b=>by simp [Qt.D,Lk.D]
   have bF:iE false="both":=rfl
   have bT:iE true="either":=rfl
   have Hz:n≤XT:=lz (by simp at vO hz;nofun)
   by_cases hC:q1.s+q2.s+1<41∧me+1<13
   ·obtain ⟨k1,k2⟩:=hC
    by_cases hv1:v % 6=1
    ·refine ⟨[⟨.bin false q2.l q1.l,YO q2.b q1.b,q1.s+q2.s+1,me+1⟩],by simp,λq h=>by rw [Yk.mp h];exact hok _ _ k1 k2,?_⟩
     have f:=λG=>yW ⟨.bin false q2.l q1.l,YO q2.b q1.b,q1.s+q2.s+1,me+1⟩ G
     unfold cJ
     refine aS ?_ (by rw [bL];exact aB pR)
     rw [dm]
     show (bA [some (.obj A.length),some (.int c),some (.int ev),none,none,none,none,none] _).fn=_
     unfold bA
     rw [DU,bu,jF,SA,oV,f7,cI,X8,Yl]
     rw [hD,bF] at f ⊢
     have hx:=λG=>xX q2.b q1.b G
     generalize YO q2.b q1.b=bx at f hx
     generalize (pS++[q2]++[q1]).map Qt.D=xs at fO vO
     generalize q1.l.D=l1 at f fO
     generalize q2.l.D=l2 at f fO
     simp! [dz,g0,vO,Hz,Hx,hl1,IK,fO,xV,AZ,v7,xW,Hy,k1,k2,hv1,aP,hx,z3,z4,aN,f]
    ·refine ⟨[⟨.bin true q2.l q1.l,YQ q2.b q1.b,q1.s+q2.s+1,me+1⟩],by simp,λq h=>by rw [Yk.mp h];exact hok _ _ k1 k2,?_⟩
     have f:=λG=>yW ⟨.bin true q2.l q1.l,YQ q2.b q1.b,q1.s+q2.s+1,me+1⟩ G
     have LV:(v % 6==(1:Int))=false:=beq_eq_false_iff_ne.mpr hv1
     unfold cJ
     refine aS ?_ (by rw [bL];exact aB pR)
     rw [dm]
     show (bA [some (.obj A.length),some (.int c),some (.int ev),none,none,none,none,none] _).fn=_
     unfold bA
     rw [DU,bu,jF,SA,oV,f7,cI,X8,Yl]
     rw [hD,bT] at f ⊢
     have hx:=λG=>R9 q2.b q1.b G
     generalize YQ q2.b q1.b=bx at f hx
     generalize (pS++[q2]++[q1]).map Qt.D=xs at fO vO
     generalize q1.l.D=l1 at f fO
     generalize q2.l.D=l2 at f fO
     simp! [dz,g0,vO,Hz,Hx,hl1,IK,fO,xV,AZ,v7,xW,Hy,k1,k2,LV,aP,hx,z3,z4,aN,f]
   ·refine ⟨[],by simp,λq h=>by simp at h,?_⟩
    unfold cJ
    refine aS ?_ rfl
    rw [dm]
    show (bA [some (.obj A.length),some (.int c),some (.int ev),none,none,none,none,none] _).fn=_
    unfold bA
    rw [DU,bu,jF,SA,oV,f7,cI,Yl]
    generalize (pS++[q2]++[q1]).map Qt.D=xs at fO vO
    generalize q1.l.D=l1 at fO
    generalize q2.l.D=l2 at fO
    by_cases k1:q1.s+q2.s+1<41
    ·have k2:¬ me+1<13:=λk2=>hC ⟨k1,k2⟩
     simp! [dz,g0,vO,Hz,Hx,hl1,IK,fO,xV,AZ,v7,xW,Hy,k1,k2,aP,aN,iF]
    ·simp! [dz,g0,vO,Hz,Hx,hl1,IK,fO,xV,AZ,v7,xW,Hy,k1,aP,aN,iF]
  ·refine ⟨[],by simp,λq h=>by simp at h,?_⟩
   unfold cJ
   refine aS ?_ rfl
   rw [dm]
   show (bA [some (.obj A.length),some (.int c),some (.int ev),none,none,none,none,none] _).fn=_
   unfold bA
   rw [DU,bu,jF,SA,oV,f7,cI,Yl]
   generalize (gI++[q1]).map Qt.D=xs at hlen
   generalize q1.l.D=l1
   by_cases k1:v % 6<3
   ·have k2:¬ (1:Int)<(gI.length:Int)+1:=λk2=>hB ⟨k1,by nofun⟩
    simp! [g0,hlen,Mt,k1,k2,aN,iF]
   ·simp! [k1,aN,iF]
theorem yX (f:Nat→Int):∀ (j i:Nat),i≤j→f i≤f (argBest (λi j=>decide (f i > f j)) j)
 | 0,i,h=>by
  have:i=0:=by nofun
  subst this
  exact Int.le_refl _
 | j+1,i,h=>by
  have ih:=yX f j
  rw [argBest]
  split
  ·rename_i hb
   have hb:=of_decide_eq_true hb
   by_cases hi:i=j+1
   ·subst hi;exact Int.le_refl _
   ·have:=ih i (by nofun);nofun
  ·rename_i hb
   by_cases hi:i=j+1
   ·subst hi
    have hb:=of_decide_eq_false (Bool.not_eq_true _▸hb)
    nofun
   ·exact ih i (by nofun)
theorem HA (bs:List Int) (x:Int) (h:x∈bs):x≤Ci bs:=by
 obtain ⟨i,hi⟩:=List.getElem?_of_mem h
 have hlt:=(XY.mp hi).1
 have:=yX (λi=>bs.getD i 0) (bs.length - 1) i (by nofun)
 have e:bs.getD i 0=x:=by rw [acv,hi];rfl
 simp only [e] at this
 exact this
theorem LW (qs:List Qt) (h:∀ q∈qs,q.Ok):(szl (qs.map (·.l)):Int)≤(qs.map (·.s)).sum:=by
 induction qs with
 | nil=>simp [szl]
 | cons q qs ih=>
  have h1:=ih λx hx=>h x (by simp [hx])
  have h2:=(h q (by simp)).2.1
  simp only [X8,szl,List.sum_cons]
  nofun
noncomputable def Wy.of:List (Str×Lk)→Wy
 | []=>.nil
 | (g,l)::ps=>.cons g l (Wy.of ps)
theorem IL:∀ ps:List (Str×Lk),(Wy.of ps).Ds=ps.map vN
 | []=>rfl
 | (g,l)::ps=>by rw [Wy.of,Wy.Ds,IL ps];rfl
theorem IM:∀ ps:List (Str×Lk),(Wy.of ps).sz=szl (ps.map (·.2))
 | []=>rfl
 | (g,l)::ps=>by rw [Wy.of,Wy.sz,IM ps,X8,szl]
theorem DV (n:Nat):∀ ps:List (Str×Lk),(∀ l∈ps.map (·.2),l.dep≤n)→(Wy.of ps).dep≤n
 | [],_=>by rw [Wy.of,Wy.dep];nofun
 | (g,l)::ps,h=>by
  have h1:=DV n ps λx hx=>h x (by simp only [X8,Yn];exact .inr hx)
  have h2:=h l (by simp)
  rw [Wy.of,Wy.dep];nofun
theorem of_ok:∀ ps:List (Str×Lk),(∀ p∈ps,Gd p.1∧p.2.Ok)→(Wy.of ps).Ok
 | [],_=>by rw [Wy.of,Wy.Ok];trivial
 | (g,l)::ps,h=>by
  have h2:=h (g,l) (by simp)
  rw [Wy.of,Wy.Ok]
  exact ⟨h2.1,h2.2,of_ok ps λx hx=>h x (by simp [hx])⟩
theorem OS:∀ {ps:List (Str×Lk)},ps≠[]→Wy.of ps≠.nil
 | [],h=>absurd rfl h
 | (g,l)::ps,_=>by rw [Wy.of];exact Wy.noConfusion
noncomputable def aR:List (Key×D):=[(Sum.inr "down",.con [.int 0]),(Sum.inr "deep",.con [.int 0]),(Sum.inr "later",.con [.int 0])]
theorem Ww (G:DH):(aI [.str "down",.str "deep",.str "later",.str "down"] G).fw G=.ok (.con [.str "down",.str "deep",.str "later",.str "down"]) G:=bK (lz (n:=4) (by nofun)) rfl
theorem OT (v:Int):∃ g:Str,iV [D.str "down",.str "deep",.str "later",.str "down"] (v % 4)=some (.str g)∧Gd g∧sH aR (Sum.inr g)=some (.con [.int 0]):=by
 have hv:0≤v % 4∧v % 4<4:=by nofun
 obtain ⟨d,e1,e2⟩:=iZ (xs:=[D.str "down",.str "deep",.str "later",.str "down"]) hv.1 (by simpa using hv.2)
 have hmem:=Yy e2
 simp only [Yn,adh,or_false] at hmem
 rcases hmem with rfl | rfl | rfl | rfl
 ·exact ⟨_,e1,.inl rfl,by rfl⟩
 ·exact ⟨_,e1,.inr (.inl rfl),by rfl⟩
 ·exact ⟨_,e1,.inr (.inr rfl),by rfl⟩
 ·exact ⟨_,e1,.inl rfl,by rfl⟩
theorem DW (c ev good:Int) (j r:Nat) (hj:j≤100) (q:Qt) (ps:List (Str×Lk)) (hps:ps.length≤1000) (A:DH) (hr:A[r]?=some (.dct aR)) (a0 a4 a5 a6 a7 lC:Option D):∃ (g:Str) (jZ:Int),Gd g ∧
  fT [a0,some (.int c),some (.int ev),some (.obj r),a4,a5,a6,a7,some (.obj A.length),some (.int good),some (.int (j:Int)),some q.D,lC] (A++[.lst (ps.map vN)]) =
   .nx [a0,some (.int c),some (.int ev),some (.obj r),a4,a5,a6,a7,some (.obj A.length),some (.int jZ),some (.int (j:Int)),some q.D,some (.str g)] (A++[.lst ((ps++[(g,q.l)]).map vN)]):=by
 have hm:=cQ c (50+(j:Int)) (by nofun) (by nofun)
 generalize mx c (50+(j:Int))=v at hm
 obtain ⟨g,e1,e2,e3⟩:=OT v
 obtain ⟨y,e4⟩:=AE (YO good q.b) (A++[.lst ((ps++[(g,q.l)]).map vN)])
 refine ⟨g,y,e2,?_⟩
 have hlt:=(XY.mp hr).1
 have hr':∀ Y:DH,(A++Y)[r]?=some (.dct aR):=λY=>by rw [Yd hlt];exact hr
 have g0:∀ x:DO,(A++[x])[A.length]?=some x:=λx=>nV A x []
 have s0:∀ x z:DO,(A++[x]).set A.length z=A++[z]:=λx z=>yC A x z []
 have z2:(2:Nat)≤XT:=lz (by nofun)
 have hz:(ps.map vN).length<XT:=X7 (by rw [Yh];nofun) (lz (n:=2000) (by nofun))
 have eP:(ps++[(g,q.l)]).map vN=ps.map vN++[.tup [.str g,q.l.D]]:=by simp [vN]
 rw [eP] at e4 ⊢
 have hx:=λG=>xX good q.b G
 generalize YO good q.b=bx at hx e4
 generalize ps.map vN=pD at hz e4
 have eQ:q.D=.tup [q.l.D,.int q.b,.int q.s,.int q.d]:=rfl
 rw [eQ]
 generalize q.l.D=ld at e4
 have S1:(aF 12 (aj aU (eFn (ai aI (aa (eC (.str "down")) (aa (eC (.str "deep")) (aa (eC (.str "later")) (aa (eC (.str "down")) (ah))))))) (aj cL (aA 2 ay (aa (af 1) (aa (aj aJ (eC (.int 50)) (af 10)) (ah)))) (eC (.int 4))))) [a0,some (.int c),some (.int ev),some (.obj r),a4,a5,a6,a7,some (.obj A.length),some (.int good),some (.int (j:Int)),some (.tup [ld,.int q.b,.int q.s,.int q.d]),lC] (A++[.lst pD])=.nx [a0,some (.int c),some (.int ev),some (.obj r),a4,a5,a6,a7,some (.obj A.length),some (.int good),some (.int (j:Int)),some (.tup [ld,.int q.b,.int q.s,.int q.d]),some (.str g)] (A++[.lst pD]):=by
  simp! [aN,Ww,hm,e1]
 have S2:(ig (cC "list" cE (af 8) (aa (ai aY (aa (af 12) (aa (aj aU (af 11) (eC (.int 0))) (ah)))) (ah)))) [a0,some (.int c),some (.int ev),some (.obj r),a4,a5,a6,a7,some (.obj A.length),some (.int good),some (.int (j:Int)),some (.tup [ld,.int q.b,.int q.s,.int q.d]),some (.str g)] (A++[.lst pD])=.nx [a0,some (.int c),some (.int ev),some (.obj r),a4,a5,a6,a7,some (.obj A.length),some (.int good),some (.int (j:Int)),some (.tup [ld,.int q.b,.int q.s,.int q.d]),some (.str g)] (A++[.lst (pD++[.tup [.str g,ld]])]):=by
  simp! [g0,s0,xV,z2,hz]
 have e5:∀ τ G,τ[3]?=some (some (.obj r))→τ[12]?=some (some (.str g))→G[r]?=some (.dct aR)→Dc (af 3) (af 12) τ G=.ok (.con [.int 0]) G:=by
  intro τ G t1 t2 t3
  unfold Dc
  rw [ak,cP,t1]
  dsimp only
  rw [aK,ak,cP,t2]
  dsimp only
  rw [aK]
  unfold LH vj xm
  dsimp only
  rw [t3]
  dsimp only
  rw [e3]
 have e6:=λ(a0:Option D)=>e5 [a0,some (.int c),some (.int ev),some (.obj r),a4,a5,a6,a7,some (.obj A.length),some (.int good),some (.int (j:Int)),some (.tup [ld,.int q.b,.int q.s,.int q.d]),some (.str g)] (A++[.lst (pD++[.tup [.str g,ld]])]) rfl rfl (hr' _)
 rw [fT,bu,S1,cI,bu,S2,cI]
 simp! [e6,AZ,hx,e4]
theorem rH (c ev:Int) (r:Nat) (A:DH) (hr:A[r]?=some (.dct aR)) (a0 a4 a5 a6 a7:Option D):∀ (qs:List Qt) (j:Nat) (good:Int) (ps:List (Str×Lk)) (pT nX lC:Option D),j+qs.length≤100→ps.length+qs.length≤1000→∃ (ps':List (Str×Lk)) (jZ:Int) (A0 IP IQ:Option D),ps'.map (·.2)=qs.map (·.l)∧(∀ p∈ps',Gd p.1) ∧
  bU (gP 10 11) fT (eD j (qs.map Qt.D)) [a0,some (.int c),some (.int ev),some (.obj r),a4,a5,a6,a7,some (.obj A.length),some (.int good),pT,nX,lC] (A++[.lst (ps.map vN)]) =
   .nx [a0,some (.int c),some (.int ev),some (.obj r),a4,a5,a6,a7,some (.obj A.length),some (.int jZ),A0,IP,IQ] (A++[.lst ((ps++ps').map vN)])
 | [],j,good,ps,pT,nX,lC,_,_=>⟨[],good,pT,nX,lC,rfl,by simp,by rw [YW];exact fB⟩
 | q::qs,j,good,ps,pT,nX,lC,h1,h2=>by
  simp only [Ym] at h1 h2
  obtain ⟨g,OU,hg,e1⟩:=DW c ev good j r (by nofun) q ps (by nofun) A hr a0 a4 a5 a6 a7 lC
  obtain ⟨ps',jZ,A0,IP,IQ,h3,h4,e2⟩:=rH c ev r A hr a0 a4 a5 a6 a7 qs (j+1) OU (ps++[(g,q.l)]) (some (.int (j:Int))) (some q.D) (some (.str g)) (by nofun) (by simp;nofun)
  refine ⟨(g,q.l)::ps',jZ,A0,IP,IQ,by simp [h3],λp hp=>?_,?_⟩
  ·rcases Yn.mp hp with rfl | hp
   ·exact hg
   ·exact h4 p hp
  ·rw [X8,yU,bZ (τ1:=[a0,some (.int c),some (.int ev),some (.obj r),a4,a5,a6,a7,some (.obj A.length),some (.int good),some (.int (j:Int)),some q.D,lC]) rfl,e1,iw,e2]
   simp
theorem AG {g:jI} {body:MS} {xs:List D} {τ:DS} {G:DH}:kq g body (ly (.con xs) xs.length) (xs.length+1) 0 τ G=bU g body (xs.reverse.mapIdx λi x=>.tup [.int i,x]) τ G:=by
 have:=i0 (g:=g) (body:=body) (xs:=xs.reverse.mapIdx λi x=>D.tup [.int i,x]) (vw:=ly (.con xs) xs.length) (λG i h=>by
  simp only [aaS,aaK] at h
  simp only [ly,aD,if_true,aab]
  by_cases hi:i=xs.length
  ·rw [if_pos hi,Zs (by simp;nofun)];rfl
  ·rw [if_neg hi,if_pos (by nofun),aaw (by nofun)]) (xs.length+1) 0 τ G (by simp) (by simp)
 simpa using this
theorem DX {ml:DS→M (List D)} {τ:DS} {G:DH}:sQ ml τ G=(ml τ G).bd λds=>match ds with
 | [d]=>λG=>match aD G d with
  | some (.lst xs)=>.ok (xs.length+1,ly d xs.length) G
  | _=>.stuck
 | _=>M.stop:=ak
theorem DY (k:Int) (f:Qt→Int) (hf:∀ q G,aU q.D (.int k) G=.ok (.int (f q)) G) (zs:List Qt) (hz:zs.length≤1000) (τ:DS) (G:DH) (ht:τ[5]?=some (some (.con (zs.map Qt.D)))) :
  eFn (jD oN [] (af 5) (dW) (aj aU (af 0) (eC (.int k)))) τ G=.ok (.con ((zs.map f).map .int)) G:=by
 have hc:=dM (gO:=oN) (ks:=[]) (tt:=dW) (te:=aj aU (af 0) (eC (.int k))) (own:=λq:Qt=>[q.D]) (dat:=Qt.D) (f:=λq=>D.int (f q)) (c:=λ_=>true) (G:=G) (τ:=τ) zs [] (by simp;nofun) (λ_ _=>rfl) (λ_ _ _=>rfl) (λq _ acc=>by
  have e:∀ r:DS,(([q.D]:List D).map some++r)=some q.D::r:=λr=>rfl
  rw [e]
  generalize mask [] τ=r
  have:=hf q
  generalize q.D=qD at this
  simp only [f9,cP,jo,Ys,aK,ak,this])
 rw [YX,aaL.mpr (λ_ _=>rfl)] at hc
 have hcl:aV (zs.map λq=>D.int (f q))=true:=aB λ_=>aT
 have em:(zs.map f).map D.int=zs.map λq=>D.int (f q):=by simp
 rw [em,aN,Gh,cP,ht]
 dsimp only
 rw [aK]
 dsimp only
 rw [hc]
 exact jq hcl
theorem LX (xs:List D) (k:Nat) (h:k≤xs.length):cutD xs (some (k:Int)) none=xs.drop k:=by
 unfold cutD
 rw [HT.yg,HT.uf,Nat.min_eq_left h,List.take_of_length_le (by simp)]
theorem LY (c ev:Int) (A:DH) (r:Nat) (hr:A[r]?=some (.dct aR)) (qs:List Qt) (hq:∀ q∈qs,q.Ok) (h1:1≤qs.length) (hz:qs.length≤500):∃ rs:List Qt,rs.length≤1∧(∀ q∈rs,q.Ok) ∧
  iz [.obj A.length,.int c,.int ev,.obj r] (A++[.lst (qs.map Qt.D)])=.ok (.con (rs.map Qt.D)) (A++[.lst (qs.map Qt.D)]):=by
 obtain ⟨m,m1,m2,m7,em⟩:=yV c A [] (qs.map Qt.D) (by simpa using h1) (by rw [Yh];nofun)
 rw [Yh] at m2
 have g0:∀ x Y,(A++x::Y)[A.length]?=some x:=λx Y=>nV A x Y
 have tV:(qs.map Qt.D).length≤XT:=lz (by rw [Yh];nofun)
 have z2:(2:Nat)≤XT:=lz (by nofun)
 have z4:(4:Nat)≤XT:=lz (by nofun)
 obtain ⟨zs,hzs⟩:∃ zs:List Qt,zs=qs.drop (qs.length - m):=⟨_,rfl⟩
 have Ew:zs.length=m:=by rw [hzs,aba];nofun
 have OV:∀ q∈zs,q.Ok:=λq h=>hq q (acs (hzs▸h))
 have sF:cutD (qs.map Qt.D) (some (((qs.map Qt.D).length:Int) - (m:Int))) none=zs.map Qt.D:=by
  have e:((qs.map Qt.D).length:Int) - (m:Int)=((qs.length - m:Nat):Int):=by rw [Yh];nofun
  rw [e,LX _ _ (by rw [Yh];nofun),hzs,List.map_drop]
 have fz:∀ G,(aI (zs.map Qt.D) G).fw G=.ok (.con (zs.map Qt.D)) G:=λG=>bK (lz (by rw [Yh];nofun)) (aB pR)
 have hsum:=λτ G h=>DY 2 (·.s) (λq G=>rfl) zs (by nofun) τ G h
 have Se:=λτ G h=>DY 3 (·.d) (λq G=>rfl) zs (by nofun) τ G h
 have OW:=gw (zs.map (·.s))
 have imax:=gw (zs.map (·.d))
 have hm0:0<(zs.map (·.d)).length:=by rw [Yh];nofun
 have S1:(aA 2 gH (aa (af 0) (aa (af 1) (ah)))) [some (.obj A.length),some (.int c),some (.int ev),some (.obj r),none,none,none,none,none,none,none,none,none] (A++[.lst (qs.map Qt.D)])=.ok (.int (m:Int)) (A++[.lst (qs.map Qt.D)]):=by
  generalize qs.map Qt.D=xs at em
  simp! [em]
 have S2:(eFn (l6 (af 0) (bR (aj kO (ai bY (aa (af 0) (ah))) (af 4))) (fP))) [some (.obj A.length),some (.int c),some (.int ev),some (.obj r),some (.int (m:Int)),none,none,none,none,none,none,none,none] (A++[.lst (qs.map Qt.D)])=.ok (.con (zs.map Qt.D)) (A++[.lst (qs.map Qt.D)]):=by
  generalize qs.map Qt.D=xs at sF tV
  generalize zs.map Qt.D=zD at sF fz
  simp! [aN,g0,tV,wO,sF,fz]
 have S3:(aj aJ (eC (.int 1)) (ai iP (aa (eFn (jD oN [] (af 5) (dW) (aj aU (af 0) (eC (.int 2))))) (ah)))) [some (.obj A.length),some (.int c),some (.int ev),some (.obj r),some (.int (m:Int)),some (.con (zs.map Qt.D)),none,none,none,none,none,none,none] (A++[.lst (qs.map Qt.D)])=.ok (.int (1+(zs.map (·.s)).sum)) (A++[.lst (qs.map Qt.D)]):=by
  have e:=hsum [some (.obj A.length),some (.int c),some (.int ev),some (.obj r),some (.int (m:Int)),some (.con (zs.map Qt.D)),none,none,none,none,none,none,none] (A++[.lst (qs.map Qt.D)]) rfl
  generalize eFn (jD oN [] (af 5) (dW) (aj aU (af 0) (eC (.int 2))))=S at e
  generalize qs.map Qt.D=xs at e
  generalize zs.map Qt.D=zD at e
  generalize zs.map (·.s)=bs at e OW
  simp only [f9,jo,aK,ak,cX,aZ,e,bP,di,iP,aD,OW,aJ]
 have S4:(aj aJ (eC (.int 1)) (ai qR (aa (eFn (jD oN [] (af 5) (dW) (aj aU (af 0) (eC (.int 3))))) (ah)))) [some (.obj A.length),some (.int c),some (.int ev),some (.obj r),some (.int (m:Int)),some (.con (zs.map Qt.D)),some (.int (1+(zs.map (·.s)).sum)),none,none,none,none,none,none] (A++[.lst (qs.map Qt.D)])=.ok (.int (1+Ci (zs.map (·.d)))) (A++[.lst (qs.map Qt.D)]):=by
  have e:=Se [some (.obj A.length),some (.int c),some (.int ev),some (.obj r),some (.int (m:Int)),some (.con (zs.map Qt.D)),some (.int (1+(zs.map (·.s)).sum)),none,none,none,none,none,none] (A++[.lst (qs.map Qt.D)]) rfl
  generalize eFn (jD oN [] (af 5) (dW) (aj aU (af 0) (eC (.int 3))))=S at e
  generalize qs.map Qt.D=xs at e
  generalize zs.map Qt.D=zD at e
  generalize zs.map (·.d)=bs at e imax hm0
  simp only [f9,jo,aK,ak,cX,aZ,e,bP,di,qR,aD,imax,if_pos hm0,aJ]
 have hsz:=LW zs OV
 have hge:∀ q∈zs,q.d≤Ci (zs.map (·.d)):=λq h=>HA _ _ (aac.mpr ⟨q,h,rfl⟩)
 obtain ⟨sm,Wx⟩:∃ sm:Int,sm=(zs.map (·.s)).sum:=⟨_,rfl⟩
 obtain ⟨xY,Wz⟩:∃ xY:Int,xY=Ci (zs.map (·.d)):=⟨_,rfl⟩
 rw [← Wx] at S3 S4 hsz
 rw [← Wz] at S4 hge
 by_cases hbig:1+sm > 40∨1+xY > 12
 ·refine ⟨[],by simp,λq h=>by simp at h,?_⟩
  unfold iz
  refine aS ?_ rfl
  rw [dm]
  show (gu [some (.obj A.length),some (.int c),some (.int ev),some (.obj r),none,none,none,none,none,none,none,none,none] _).fn=_
  rw [gu,jA S1,OI,jA S2,OJ,jA S3,PZ,jA S4,R4,Yl]
  generalize qs.map Qt.D=xs
  generalize zs.map Qt.D=zD
  by_cases k1:(40:Int)<1+sm
  ·simp! [k1,aN,iF]
  ·have k2:(12:Int)<1+xY:=by nofun
   simp! [k1,k2,aN,iF]
 ·have k1:¬ (40:Int)<1+sm:=by nofun
  have k2:¬ (12:Int)<1+xY:=by nofun
  have hr1:(A++[DO.lst (qs.map Qt.D)])[r]?=some (.dct aR):=by
   rw [Yd (XY.mp hr).1];exact hr
  obtain ⟨ps,jZ,A0,IP,IQ,hpl,WA,el⟩:=rH c ev r (A++[.lst (qs.map Qt.D)]) hr1 (some (.obj A.length)) (some (.int (m:Int))) (some (.con (zs.map Qt.D))) (some (.int (1+sm))) (some (.int (1+xY))) zs.reverse 0 ev [] none none none (by simp;nofun) (by simp;nofun)
  have Hs:ps.reverse.map (·.2)=zs.map (·.l):=by rw [Zx,hpl,Zx,List.reverse_reverse]
  have OX:ps.length=zs.length:=by have:=congrArg abC hpl;simpa using this
  have Sf:∃ q,q∈zs:=by
   cases zs with
   | nil=>simp at Ew;nofun
   | cons q zs=>exact ⟨q,by simp⟩
  have hok:(Qt.mk (.way (Wy.of ps.reverse)) jZ (1+sm) (1+xY)).Ok:=by
   have hall:∀ l∈ps.reverse.map (·.2),l.Ok∧(l.dep:Int)≤xY:=λl hl=>by
    rw [Hs] at hl
    obtain ⟨q,hm,rfl⟩:=aac.mp hl
    have:=OV q hm
    have:=hge q hm
    exact ⟨(OV q hm).1,by have:=(OV q hm).2.2.1;nofun⟩
   refine ⟨by rw [Lk.Ok];exact ⟨OS (by intro h;rw [abU] at h;rw [h,Zc] at OX;nofun),of_ok _ λp hp=>⟨WA p (abS.mp hp),(hall p.2 (aac.mpr ⟨p,hp,rfl⟩)).1⟩⟩,?_,?_,?_,?_⟩
   ·show ((Lk.way (Wy.of ps.reverse)).sz:Int)≤1+sm
    rw [Lk.sz,IM,Hs];nofun
   ·show ((Lk.way (Wy.of ps.reverse)).dep:Int)≤1+xY
    have hd:=DV xY.toNat ps.reverse λl hl=>by have:=(hall l hl).2;nofun
    obtain ⟨q,Ue⟩:=Sf
    have h5:=(OV q Ue).2.2.1
    have h6:=hge q Ue
    rw [Lk.dep];nofun
   ·show 1+sm≤40;nofun
   ·show 1+xY≤12;nofun
  refine ⟨[⟨.way (Wy.of ps.reverse),jZ,1+sm,1+xY⟩],by simp,λq h=>by rw [Yk.mp h];exact hok,?_⟩
  have f:=λG=>yW ⟨.way (Wy.of ps.reverse),jZ,1+sm,1+xY⟩ G
  have eD:(Qt.mk (.way (Wy.of ps.reverse)) jZ (1+sm) (1+xY)).D=.tup [.tup [.str "way",.tup (ps.map vN).reverse],.int jZ,.int (1+sm),.int (1+xY)]:=by
   rw [Qt.D,Lk.D,IL,Zx]
  have ee:K42.eD 0 (zs.reverse.map Qt.D)=(zs.map Qt.D).reverse.mapIdx λi x=>D.tup [.int (i:Int),x]:=by
   rw [Zx];rfl
  rw [ee,Yl,YX] at el
  have hfe:=λτ G=>AG (g:=gP 10 11) (body:=fT) (xs:=zs.map Qt.D) (τ:=τ) (G:=G)
  have Ug:(ps.map vN).length≤XT:=lz (by rw [Yh];nofun)
  unfold iz
  refine gy (R:=[.lst (ps.map vN)]) ?_ (by rw [bL];exact aB pR)
  rw [dm]
  show (gu [some (.obj A.length),some (.int c),some (.int ev),some (.obj r),none,none,none,none,none,none,none,none,none] _).fn=_
  rw [gu,jA S1,OI,jA S2,OJ,jA S3,PZ,jA S4,R4,X8,Yl]
  rw [eD] at f ⊢
  have gp:∀ x,((A++[DO.lst (qs.map Qt.D)])++[x])[(A++[DO.lst (qs.map Qt.D)]).length]?=some x:=λx=>nV _ x []
  have n0:∀ G,aI [] G=.ok (.obj G.length) (G++[.lst []]):=λG=>by simp [aI]
  generalize (A++[DO.lst (qs.map Qt.D)])=G0 at el gp
  generalize zs.map Qt.D=zD at el hfe
  generalize ((zD.reverse).mapIdx λi x=>D.tup [.int (i:Int),x])=lst at el hfe
  generalize ps.map vN=pD at el f Ug
  simp only [bu,jF,Le,yE,f9,cP,jo,Yv,Ys,aK,ak,cH,sD,f7,cI,jR,cX,bP,n0,nh,YS,YT,if_true,decide_eq_false k1,decide_eq_false k2,oV,Ld,di]
  simp! [k1,k2,DX,hfe,el,n0,aN,uZ,gp,Ug,z2,z4,f]
theorem IS (l:Lk):∃ (xs:List D) (s:Str),l.D=.tup xs∧iV xs 0=some (.str s)∧X4 s=true:=by
 cases l with
 | one m=>exact ⟨_,_,by rw [Lk.D],rfl,fm m⟩
 | kind s=>exact ⟨_,_,by rw [Lk.D],rfl,cY⟩
 | nU j=>exact ⟨_,_,by rw [Lk.D],rfl,cU⟩
 | not l=>exact ⟨_,_,by rw [Lk.D],rfl,cy⟩
 | bin e l r=>exact ⟨_,_,by rw [Lk.D],rfl,cZ e⟩
 | way w=>exact ⟨_,_,by rw [Lk.D],rfl,gQ⟩
theorem yY {α:Type} (f:α→D) (qs:List α) (lo hi:Option Int):∃ ys:List α,cutD (qs.map f) lo hi=ys.map f∧(∀ q∈ys,q∈qs)∧ys.length≤qs.length:=by
 unfold cutD
 rw [Yh]
 generalize HT.fq qs.length 0 lo=a
 generalize HT.fq qs.length qs.length hi - a=b
 refine ⟨(qs.drop a).take b,by rw [List.map_take,List.map_drop],λq h=>acs (List.mem_of_mem_take h),?_⟩
 rw [aaF,aba];nofun
theorem HB (ys:List Qt) (h:ys.length≤1000) (G:DH):(aI (ys.map Qt.D) G).fw G=.ok (.con (ys.map Qt.D)) G:=bK (lz (by rw [Yh];nofun)) (aB pR)
theorem DZ (ws:List Str) (n0:Str) (r:Nat) (ev c:Int) (A:DH) (hr:A[r]?=some (.dct aR)) (qs:List Qt) (hq:∀ q∈qs,q.Ok) (hz:qs.length≤400) (c0 a8 a9:Option D):∃ (rs:List Qt) (k:Int),rs.length≤1∧(∀ q∈rs,q.Ok) ∧
  (az (aF 8 (eFn (ai aI (ah)))) (az (aF 9 (eC (.int 1))) (gJ (dY (cW (aj oB (ai bY (aa (af 6) (ah))) (eC (.int 0)))) (cW (aj (gj false) (aj cL (aA 2 ay (aa (af 7) (aa (eC (.int 19)) (ah)))) (eC (.int 3))) (eC (.int 0))))) (g6) (gJ (cW (aj oB (ai bY (aa (af 6) (ah))) (eC (.int 0)))) (gc) (bf))))) [c0,some (.con (ws.map .str)),some (.con [.tup [.int 0,.str n0]]),some (.obj r),some (.int 1),some (.int ev),some (.obj A.length),some (.int c),a8,a9] (A++[.lst (qs.map Qt.D)])=.nx [c0,some (.con (ws.map .str)),some (.con [.tup [.int 0,.str n0]]),some (.obj r),some (.int 1),some (.int ev),some (.obj A.length),some (.int c),some (.con (rs.map Qt.D)),some (.int k)] (A++[.lst (qs.map Qt.D)]):=by
 have hm:=cQ c 19 (by nofun) (by nofun)
 generalize mx c 19=v at hm
 have g0:∀ x Y,(A++x::Y)[A.length]?=some x:=λx Y=>nV A x Y
 have tV:(qs.map Qt.D).length≤XT:=lz (by rw [Yh];nofun)
 have DU:∀ S:MS,(az (aF 8 (eFn (ai aI (ah)))) (az (aF 9 (eC (.int 1))) S)) [c0,some (.con (ws.map .str)),some (.con [.tup [.int 0,.str n0]]),some (.obj r),some (.int 1),some (.int ev),some (.obj A.length),some (.int c),a8,a9] (A++[.lst (qs.map Qt.D)])=S [c0,some (.con (ws.map .str)),some (.con [.tup [.int 0,.str n0]]),some (.obj r),some (.int 1),some (.int ev),some (.obj A.length),some (.int c),some (.con []),some (.int 1)] (A++[.lst (qs.map Qt.D)]):=by
  intro S
  generalize qs.map Qt.D=xs
  generalize D.con (ws.map .str)=wD
  simp! [aN,iF]
 rw [DU]
 rcases ack qs with rfl | ⟨gI,q1,Mu⟩
 ·refine ⟨[],1,by simp,by simp,?_⟩
  rw [Yl]
  generalize D.con (ws.map .str)=wD
  simp! [g0]
 ·have hpos:0<(qs.map Qt.D).length:=by rw [Mu];simp
  by_cases h3:v % 3=0
  ·obtain ⟨rs,l1,o1,e1⟩:=LY c ev A r hr qs hq (by rw [Mu];simp) (by nofun)
   obtain ⟨m,_,_,_,e2⟩:=yV c A [] (qs.map Qt.D) (by rw [Mu];simp) (by rw [Yh];nofun)
   refine ⟨rs,(m:Int),l1,o1,?_⟩
   generalize qs.map Qt.D=xs at e1 e2 tV hpos
   generalize rs.map Qt.D=rD at e1
   generalize D.con (ws.map .str)=wD
   unfold g6
   simp! [g0,tV,hpos,hm,h3,aP,e1,e2]
  ·have Uh:(v % 3==(0:Int))=false:=beq_eq_false_iff_ne.mpr h3
   have vP:qs=gI++[q1]:=by rw [Mu];simp
   obtain ⟨rs,l1,o1,e1⟩:=AF c ev A [] gI q1 (by rw [← vP];exact hq) (by rw [vP] at hz;simp at hz;nofun)
   rw [← vP] at e1
   match rs,l1,o1,e1 with
   | [],_,_,e1=>
    refine ⟨[],2 - 0,by simp,by simp,?_⟩
    rw [Yl] at e1 ⊢
    generalize qs.map Qt.D=xs at e1 tV hpos
    generalize D.con (ws.map .str)=wD
    unfold gc
    simp! [g0,tV,hpos,hm,Uh,aP,e1,iY]
   | [q],_,o1,e1=>
    obtain ⟨xl,s,hl1,hl2,hl3⟩:=IS q.l
    refine ⟨[q],2 - (if (s==("not":Str)) then 1 else 0),by simp,o1,?_⟩
    have hq2:=λG=>sy false s "not" G hl3 cy
    simp only [acr] at hq2
    generalize (s==("not":Str))=bb at hq2
    have eQ:q.D=.tup [.tup xl,.int q.b,.int q.s,.int q.d]:=by rw [Qt.D,hl1]
    rw [X8,Yl,eQ] at e1 ⊢
    generalize qs.map Qt.D=xs at e1 tV hpos
    generalize D.con (ws.map .str)=wD
    have hi:∀ G,iY [.bl bb] G=.ok (.int (if bb=true then (1:Int) else 0)) G:=λG=>rfl
    generalize (if bb=true then (1:Int) else 0)=ib at hi ⊢
    unfold gc
    simp! [g0,tV,hpos,hm,Uh,aP,e1,IF,xV,hl2,hq2,hi]
   | _::_::_,l1,_,_=>simp at l1
theorem AH (ws:List Str) (h5:ws.length=5) (hw:∀ s∈ws,X4 s=true) (n0:Str) (hn:X4 n0=true) (r:Nat) (ev c:Int) (A:DH) (hr:A[r]?=some (.dct aR)) (qs:List Qt) (hq:∀ q∈qs,q.Ok) (hz:qs.length≤400) (c0 a8 a9:Option D):∃ (vQ:List Qt) (W:DH) (b8 b9:Option D),1≤vQ.length∧vQ.length≤qs.length+1∧(∀ q∈vQ,q.Ok) ∧
  eZ [c0,some (.con (ws.map .str)),some (.con [.tup [.int 0,.str n0]]),some (.obj r),some (.int 1),some (.int ev),some (.obj A.length),some (.int c),a8,a9] (A++[.lst (qs.map Qt.D)])=.nx [c0,some (.con (ws.map .str)),some (.con [.tup [.int 0,.str n0]]),some (.obj r),some (.int 1),some (.int ev),some (.obj (A++W).length),some (.int c),b8,b9] ((A++W)++[.lst (vQ.map Qt.D)]):=by
 obtain ⟨rs,k,l1,o1,e1⟩:=DZ ws n0 r ev c A hr qs hq hz c0 a8 a9
 have g0:∀ x:DO,(A++[x])[A.length]?=some x:=λx=>nV A x []
 have s0:∀ x z:DO,(A++[x]).set A.length z=A++[z]:=λx z=>yC A x z []
 have tV:(qs.map Qt.D).length<XT:=X7 (by rw [Yh];nofun) (lz (n:=1000) (by nofun))
 have split:∀ (X Y S:MS) (τ:DS) (G:DH),az X (az Y S) τ G=az X (az Y S) τ G:=λ_ _ _ _ _=>rfl
 have eL:∀ (S0 S1 S2 S3:MS) (τ:DS) (G:DH),az S0 (az S1 (az S2 S3)) τ G=az (az S0 (az S1 S2)) S3 τ G:=λS0 S1 S2 S3 τ G=>by
  simp only [bu]
  cases S0 τ G<;>simp only [cI,uN,Cp,Cq,Cr,Ct,bu]
  rename_i τ1 G1
  cases S1 τ1 G1<;>simp only [cI,uN,Cp,Cq,Cr,Ct,bu]
 match rs,l1,o1,e1 with
 | [],_,_,e1=>
  obtain ⟨q,OY,eq⟩:=Hw c ws h5 hw n0 hn 1 (A++[.lst (qs.map Qt.D)])
  refine ⟨qs++[q],[],some (.con []),some (.int k),by simp,by simp,λx hx=>?_,?_⟩
  ·rcases Zr.mp hx with h | h
   ·exact hq x h
   ·rw [Yk.mp h];exact OY
  rw [eZ,eL,bu,e1,cI,YW,Yl]
  have em:(qs++[q]).map Qt.D=qs.map Qt.D++[q.D]:=by simp
  rw [em]
  generalize qs.map Qt.D=xs at eq tV
  generalize q.D=qD at eq
  generalize D.con (ws.map .str)=wD at eq
  simp! [g0,s0,tV,eq]
 | [q],_,o1,e1=>
  obtain ⟨ys,c1,c2,c3⟩:=yY Qt.D qs none (some (((qs.map Qt.D).length:Int) - k))
  refine ⟨ys++[q],[.lst (qs.map Qt.D)],some (.con [q.D]),some (.int k),by simp,by simp;nofun,λx hx=>?_,?_⟩
  ·rcases Zr.mp hx with h | h
   ·exact hq x (c2 x h)
   ·exact o1 x h
  rw [eZ,eL,bu,e1,cI,X8,Yl]
  have em:(ys++[q]).map Qt.D=ys.map Qt.D++[q.D]:=by simp
  have f:=λG=>HB ys (by nofun) G
  have OZ:(ys.map Qt.D).length+1≤XT:=lz (by rw [Yh];nofun)
  have Ew:(qs.map Qt.D).length≤XT:=aaZ tV
  rw [em]
  generalize qs.map Qt.D=xs at c1 tV Ew
  generalize ys.map Qt.D=yD at c1 f OZ
  generalize q.D=qD
  generalize D.con (ws.map .str)=wD
  have n2:aI (yD++[qD]) (A++[.lst xs])=.ok (.obj (A.length+1)) (A++[.lst xs,.lst (yD++[qD])]):=by simp [aI,OZ]
  simp! [g0,Ew,aN,wO,c1,f,kr,n2]
 | _::_::_,l1,_,_=>simp at l1
theorem rJ (ws:List Str) (h5:ws.length=5) (hw:∀ s∈ws,X4 s=true) (n0:Str) (hn:X4 n0=true) (r:Nat) (ev:Int) (c0:Option D) (G:DH) (hr:G[r]?=some (.dct aR)):∀ (cs:List Int) (Z:DH) (qs:List Qt) (a7 a8 a9:Option D),(∀ q∈qs,q.Ok)→qs.length+cs.length≤300→∃ (vQ:List Qt) (Z':DH) (b7 b8 b9:Option D),(1≤qs.length∨1≤cs.length→1≤vQ.length)∧vQ.length≤300∧(∀ q∈vQ,q.Ok) ∧
  bU (gN 7) eZ (cs.map .int) [c0,some (.con (ws.map .str)),some (.con [.tup [.int 0,.str n0]]),some (.obj r),some (.int 1),some (.int ev),some (.obj (G++Z).length),a7,a8,a9] ((G++Z)++[.lst (qs.map Qt.D)]) =
   .nx [c0,some (.con (ws.map .str)),some (.con [.tup [.int 0,.str n0]]),some (.obj r),some (.int 1),some (.int ev),some (.obj (G++Z').length),b7,b8,b9] ((G++Z')++[.lst (vQ.map Qt.D)])
 | [],Z,qs,a7,a8,a9,hq,hl=>⟨qs,Z,a7,a8,a9,λh=>by simp at h;nofun,by nofun,hq,by rw [Yl];exact fB⟩
 | c::cs,Z,qs,a7,a8,a9,hq,hl=>by
  simp only [Ym] at hl
  have hr':(G++Z)[r]?=some (.dct aR):=by rw [Yd (XY.mp hr).1];exact hr
  obtain ⟨pS,W,b8,b9,l0,l1,o1,e1⟩:=AH ws h5 hw n0 hn r ev c (G++Z) hr' qs hq (by nofun) c0 a8 a9
  obtain ⟨Sg,Z',d7,d8,d9,l3,l2,o2,e2⟩:=rJ ws h5 hw n0 hn r ev c0 G hr cs (Z++W) pS (some (.int c)) b8 b9 o1 (by nofun)
  refine ⟨Sg,Z',d7,d8,d9,λ_=>l3 (.inl l0),l2,o2,?_⟩
  rw [X8,bZ (τ1:=[c0,some (.con (ws.map .str)),some (.con [.tup [.int 0,.str n0]]),some (.obj r),some (.int 1),some (.int ev),some (.obj (G++Z).length),some (.int c),a8,a9]) rfl,e1,iw]
  rw [← Y8] at e2
  exact e2
theorem HC (cs:List Int) (hc1:1≤cs.length) (hc:cs.length≤200) (ws:List Str) (h5:ws.length=5) (hw:∀ s∈ws,X4 s=true) (n0:Str) (hn:X4 n0=true) (r:Nat) (G:DH) (hr:G[r]?=some (.dct aR)):∃ qs:List Qt,1≤qs.length∧qs.length≤300∧(∀ q∈qs,q.Ok) ∧
  iN [.con (cs.map .int),.con (ws.map .str),.con [.tup [.int 0,.str n0]],.obj r,.int 1] G=.ok (.con (qs.map Qt.D)) G:=by
 obtain ⟨qs,Z',b7,b8,b9,l0,l1,o1,e1⟩:=rJ ws h5 hw n0 hn r 1 (some (.con (cs.map .int))) G hr cs [] [] none none none (by simp) (by simp;nofun)
 refine ⟨qs,l0 (.inr hc1),l1,o1,?_⟩
 rw [YW,Yl] at e1
 have p9:(Out.ok (D.obj (G++Z').length) ((G++Z')++[.lst (qs.map Qt.D)])).fz=.ok (.con (qs.map Qt.D)) ((G++Z')++[.dead]):=yH
 unfold iN
 refine gy (R:=Z'++[.dead]) ?_ (by rw [bL];exact aB pR)
 rw [← Y8]
 have z1:(1:Nat)≤XT:=lz (by nofun)
 have Sd:aI [] G=.ok (.obj G.length) (G++[.lst []]):=by simp [aI]
 generalize qs.map Qt.D=qD at e1 p9
 generalize D.con (ws.map .str)=wD at e1
 generalize cs.map D.int=cD at e1
 generalize G++Z'=GZ at e1 p9
 unfold jY
 simp! [II,Sd,e1,p9]
theorem D0 (b:Nat→Nat→Bool):∀ j,argBest b j≤j
 | 0=>X3 _
 | j+1=>by
  have:=D0 b j
  rw [argBest]
  split<;>nofun
theorem rK:∀ bs:List (Int×Int),nv (bs.map λp=>.tup [.int p.1,.int p.2])=some bs
 | []=>rfl
 | p::bs=>by rw [X8,nv,rK bs];rfl
noncomputable def pq (p:Nat×Qt):Int×Int:=(p.2.s,(p.1:Int))
theorem HE (qs:List Qt) (h:1≤qs.length):∃ i,i<qs.length∧(Hf ((qs.mapIdx λi q=>(i,q)).map pq)).2=(i:Int):=by
 unfold Hf
 generalize hb:argBest _ _=i
 have hi:=D0 (λi j=>vz (((qs.mapIdx λi q=>(i,q)).map pq).getD i (0,0)) (((qs.mapIdx λi q=>(i,q)).map pq).getD j (0,0))) (((qs.mapIdx λi q=>(i,q)).map pq).length - 1)
 rw [hb] at hi
 simp only [Yh,aaS] at hi
 have hl:i<qs.length:=by nofun
 refine ⟨i,hl,?_⟩
 simp [acv,aab,hl,pq]
theorem xZ {gO:D→Option (List D)} {ks:List Bool} {tt:DS→M Bool} {te:DS→M D} {n:Nat} {xs:List D} {τ:DS} {G:DH}:jE gO ks tt te n (iu (.con xs)) (xs.length+1) 0 τ G=cM gO ks tt te n (xs.mapIdx λi x=>.tup [.int i,x]) τ G:=by
 have:=j9 (n:=n) (gO:=gO) (ks:=ks) (tt:=tt) (te:=te) (xs:=xs.mapIdx λi x=>D.tup [.int i,x]) (vw:=iu (.con xs)) (λG i h=>by
  simp only [iu,aD,aab]) (xs.length+1) 0 τ G (by simp) (by simp)
 simpa using this
theorem vR (xs:List D) (τ:DS) (G:DH) (k:Nat) (h:τ[k]?=some (some (.con xs))):eN (aa (af k) (ah)) τ G=.ok (xs.length+1,iu (.con xs)) G:=by
 have e:(aa (af k) (ah)) τ G=.ok [.con xs] G:=by
  rw [aZ,cP,h]
  rfl
 unfold eN
 rw [ak,e]
 rfl
theorem HF (qs:List Qt) (h1:1≤qs.length) (hz:qs.length≤300) (τ:DS) (G:DH) (ht:τ[3]?=some (some (.con (qs.map Qt.D)))):∃ q∈qs,aj aU (aj aU (af 3) (aj aU (ai rB (aa (eFn (fk (oT 2) [] (eN (aa (af 3) (ah))) (dW) (ai aY (aa (aj aU (af 1) (eC (.int 2))) (aa (af 0) (ah)))))) (ah))) (eC (.int 1)))) (eC (.int 0)) τ G=.ok q.l.D G:=by
 obtain ⟨i,hi,ei⟩:=HE qs h1
 have z2:(2:Nat)≤XT:=lz (by nofun)
 have hc:=dM (gO:=oT 2) (ks:=[]) (tt:=dW) (te:=ai aY (aa (aj aU (af 1) (eC (.int 2))) (aa (af 0) (ah)))) (own:=λp:Nat×Qt=>[D.int (p.1:Int),p.2.D]) (dat:=λp=>D.tup [.int (p.1:Int),p.2.D]) (f:=λp=>D.tup [.int (pq p).1,.int (pq p).2]) (c:=λ_=>true) (G:=G) (τ:=τ) (qs.mapIdx λi q=>(i,q)) [] (by simp;nofun) (λ_ _=>rfl) (λ_ _ _=>rfl) (λp _ acc=>by
  show ai aY (aa (aj aU (af 1) (eC (.int 2))) (aa (af 0) (ah))) (some (.int (p.1:Int))::some p.2.D::mask [] τ) _=_
  have eQ:p.2.D=.tup [p.2.l.D,.int p.2.b,.int p.2.s,.int p.2.d]:=rfl
  rw [eQ]
  generalize p.2.l.D=ld
  generalize mask [] τ=r
  simp! [v7,z2,pq])
 rw [YX,aaL.mpr (λ_ _=>rfl)] at hc
 have em:((qs.mapIdx λi q=>(i,q)).map λp:Nat×Qt=>D.tup [.int (p.1:Int),p.2.D])=(qs.map Qt.D).mapIdx λi x=>D.tup [.int (i:Int),x]:=by
  apply adi
  ·simp
  ·intro i h1 h2;simp
 have LU:((qs.mapIdx λi q=>(i,q)).map λp:Nat×Qt=>D.tup [.int (pq p).1,.int (pq p).2])=((qs.mapIdx λi q=>(i,q)).map pq).map λp=>.tup [.int p.1,.int p.2]:=by rw [Zl];rfl
 rw [em,LU] at hc
 have Hs:=rK ((qs.mapIdx λi q=>(i,q)).map pq)
 have hlen:0<((qs.mapIdx λi q=>(i,q)).map pq).length:=by simp;nofun
 have hcl:aV (((qs.mapIdx λi q=>(i,q)).map pq).map λp=>D.tup [.int p.1,.int p.2])=true:=aB λ_=>by simp [D.closed,aG,aL,aT]
 have P5:eFn (fk (oT 2) [] (eN (aa (af 3) (ah))) (dW) (ai aY (aa (aj aU (af 1) (eC (.int 2))) (aa (af 0) (ah))))) τ G=.ok (.con (((qs.mapIdx λi q=>(i,q)).map pq).map λp=>.tup [.int p.1,.int p.2])) G:=by
  rw [aN,uO,vR _ τ G 3 ht,aK,xZ,hc]
  exact jq hcl
 have hq:(qs.map Qt.D)[i]?=some (qs[i]).D:=by rw [Yq,XZ hi];rfl
 have hat:iV (qs.map Qt.D) (i:Int)=some (qs[i]).D:=j3 hq
 refine ⟨qs[i],Zw hi,?_⟩
 generalize eFn (fk (oT 2) [] (eN (aa (af 3) (ah))) (dW) (ai aY (aa (aj aU (af 1) (eC (.int 2))) (aa (af 0) (ah)))))=S at P5
 generalize (qs.mapIdx λi q=>(i,q)).map pq=bs at ei P5 Hs hlen
 have eV:af 3 τ G=.ok (.con (qs.map Qt.D)) G:=by rw [cP,ht]
 have eQ:(qs[i]).D=.tup [(qs[i]).l.D,.int (qs[i]).b,.int (qs[i]).s,.int (qs[i]).d]:=rfl
 rw [eQ] at hat
 generalize (qs[i]).l.D=ld at hat
 generalize qs.map Qt.D=qD at eV hat
 generalize (bs.map λp=>D.tup [.int p.1,.int p.2])=bD at P5 Hs
 simp only [f9,cX,aZ,bP,eV,P5,jo,aK,ak,di,rB,aD,Hs,if_pos hlen,aU,Eu,ei,hat,xV]
structure Rw where
 g:Str
 t:Lk
 r:Option Nat
noncomputable def oD:Option Nat→D
 | none=>.cz
 | some k=>.int (k:Int)
noncomputable def Rw.D (w:Rw):L3.D:=.tup [.str w.g,w.t.D,oD w.r]
noncomputable def Rw.Ok (n:Nat) (w:Rw):Prop:=Gd w.g∧w.t.Vo n∧w.t.dep≤20∧∀ k,w.r=some k→k<n
noncomputable def Tb (R:List Rw):Prop:=∀ w∈R,w.Ok R.length
theorem kj {n m:Nat} (h:n≤m):∀ l:Lk,l.Vo n→l.Vo m
 | .one _,_=>trivial
 | .kind _,k=>k
 | .nU _,k=>X7 k h
 | .not l,k=>kj h l k
 | .bin _ l r,k=>⟨kj h l k.1,kj h r k.2⟩
 | .way _,k=>k
theorem HG {n m:Nat} (h:n≤m) {w:Rw} (k:w.Ok n):w.Ok m:=⟨k.1,kj h _ k.2.1,k.2.2.1,λj e=>X7 (k.2.2.2 j e) h⟩
noncomputable def tW (r:List D→M D) (l:Lk):Prop:=∀ (A B:DH) (R:List Rw),Tb R→R.length+l.sz≤1000→∃ (R':List Rw) (t:Lk),Tb R'∧R.length≤R'.length∧R'.length+1≤R.length+l.sz∧t.Vo R'.length∧t.dep≤l.dep ∧
  r [l.D,.obj A.length] (A++.lst (R.map Rw.D)::B)=.ok t.D (A++.lst (R'.map Rw.D)::B)
theorem AI (r:List D→M D) (A B:DH) (l0 a3 a4 a5 a6:Option D) (g:Str) (hg:Gd g) (l:Lk) (hl:tW r l) (hd:l.dep≤20) (R:List Rw) (rest:Option Nat) (hR:Tb R) (hr:∀ k,rest=some k→k<R.length) (hz:R.length+l.sz≤1000):∃ (R':List Rw) (t:Lk),Tb R'∧1≤R'.length∧R.length≤R'.length∧R'.length≤R.length+l.sz ∧
  eU r [l0,some (.obj A.length),some (oD rest),some (.str g),some l.D,a5,a6] (A++.lst (R.map Rw.D)::B)=.nx [l0,some (.obj A.length),some (oD (some (R'.length - 1))),some (.str g),some l.D,some t.D,a6] (A++.lst (R'.map Rw.D)::B):=by
 obtain ⟨R1,t,h1,h2,h3,h4,h5,e⟩:=hl A B R hR hz
 refine ⟨R1++[Rw.mk g t rest],t,λw hw=>?_,by simp,by simp;nofun,by simp;nofun,?_⟩
 ·rw [Yx,acd]
  rcases Zr.mp hw with h | h
  ·exact HG (by nofun) (h1 w h)
  ·rw [Yk.mp h]
   exact ⟨hg,kj (by nofun) _ h4,by show t.dep≤20;nofun,λk e=>by have:=hr k e;nofun⟩
 have em:(R1++[Rw.mk g t rest]).map Rw.D=R1.map Rw.D++[.tup [.str g,t.D,oD rest]]:=by simp [Rw.D]
 have eo:oD (some ((R1++[Rw.mk g t rest]).length - 1))=.int ((((R1.map Rw.D).length+1:Nat):Int) - 1):=by
  simp [oD]
 rw [em,eo]
 have g0:∀ x Y,(A++x::Y)[A.length]?=some x:=λx Y=>nV A x Y
 have s0:∀ x z Y,(A++x::Y).set A.length z=A++z::Y:=λx z Y=>yC A x z Y
 have z3:(3:Nat)≤XT:=lz (by nofun)
 have zz:(R1.map Rw.D).length<XT:=X7 (by rw [Yh];nofun) (lz (n:=2000) (by nofun))
 have Ui:(R1.map Rw.D).length+1≤XT:=zz
 generalize R1.map Rw.D=L1 at e zz Ui
 generalize R.map Rw.D=L at e
 generalize l.D=ld at e
 generalize t.D=td at e
 generalize oD rest=rd
 unfold eU
 simp! [e,g0,s0,z3,zz,Ui]
theorem rL (r:List D→M D) (A B:DH) (l0 a6:Option D):∀ (ps:List (Str×Lk)),(∀ p∈ps,Gd p.1∧tW r p.2∧p.2.dep≤20)→∀ (R:List Rw) (rest:Option Nat) (a3 a4 a5:Option D),Tb R→(∀ k,rest=some k→k<R.length)→R.length+szl (ps.map (·.2))≤1000→∃ (R':List Rw) (rest':Option Nat) (b3 b4 b5:Option D),Tb R'∧R.length≤R'.length∧R'.length≤R.length+szl (ps.map (·.2))∧(∀ k,rest'=some k→k<R'.length)∧((ps=[]∧rest'=rest)∨∃ k,rest'=some k) ∧
  bU (gP 3 4) (eU r) (ps.map vN) [l0,some (.obj A.length),some (oD rest),a3,a4,a5,a6] (A++.lst (R.map Rw.D)::B)=.nx [l0,some (.obj A.length),some (oD rest'),b3,b4,b5,a6] (A++.lst (R'.map Rw.D)::B)
 | [],_,R,rest,a3,a4,a5,hR,hr,hz=>⟨R,rest,a3,a4,a5,hR,by nofun,by nofun,hr,.inl ⟨rfl,rfl⟩,by rw [Yl];exact fB⟩
 | p::ps,hp,R,rest,a3,a4,a5,hR,hr,hz=>by
  rw [X8,szl] at hz
  obtain ⟨g1,g2,g3⟩:=hp p (by simp)
  obtain ⟨R1,t,h1,h2,h3,h4,e1⟩:=AI r A B l0 a3 a4 a5 a6 p.1 g1 p.2 g2 g3 R rest hR hr (by nofun)
  obtain ⟨R2,O0,b3,b4,b5,k1,k2,k3,k4,k5,e2⟩:=rL r A B l0 a6 ps (λq hq=>hp q (by simp [hq])) R1 (some (R1.length - 1)) (some (.str p.1)) (some p.2.D) (some t.D) h1 (λk e=>by cases e;nofun) (by nofun)
  refine ⟨R2,O0,b3,b4,b5,k1,by nofun,by rw [X8,szl];nofun,k4,.inr ?_,?_⟩
  ·rcases k5 with ⟨_,h⟩ | h
   ·exact ⟨_,h⟩
   ·exact h
  ·rw [X8,bZ (τ1:=[l0,some (.obj A.length),some (oD rest),some (.str p.1),some p.2.D,a5,a6]) rfl,e1,iw,e2]
theorem D3 {g:jI} {body:MS} {xs:List D} {τ:DS} {G:DH}:kq g body (pK xs) (xs.length+1) 0 τ G=bU g body xs.reverse τ G:=by
 have:=i0 (g:=g) (body:=body) (xs:=xs.reverse) (vw:=pK xs) (λG i h=>by
  simp only [aaK] at h
  simp only [pK]
  by_cases hi:i=xs.length
  ·rw [if_pos hi,Zs (by simp;nofun)]
  ·rw [if_neg hi,if_pos (by nofun),aaw (by nofun)]) (xs.length+1) 0 τ G (by simp) (by simp)
 simpa using this
theorem HH {ml:DS→M (List D)} {τ:DS} {G:DH}:yQ ml τ G=(ml τ G).bd λds=>match ds with
 | [d]=>λG=>match aD G d with
  | some (.tup xs)=>.ok (xs.length+1,pK xs) G
  | _=>.stuck
 | _=>M.stop:=ak
theorem D4:∀ (w:Wy),w.Ok→∀ p∈w.ps,Gd p.1∧p.2.Ok∧p.2.dep≤w.dep
 | .nil,_,p,h=>by simp [Wy.ps] at h
 | .cons g l w,ho,p,h=>by
  rw [Wy.Ok] at ho
  rw [Wy.ps] at h
  rw [Wy.dep]
  rcases Yn.mp h with rfl | h
  ·exact ⟨ho.1,ho.2.1,Nat.le_max_left _ _⟩
  ·obtain ⟨h1,h2,h3⟩:=D4 w ho.2.2 p h
   exact ⟨h1,h2,YV h3 (Nat.le_max_right _ _)⟩
theorem HJ (ls:List Lk):szl ls.reverse=szl ls:=by
 induction ls with
 | nil=>rfl
 | cons l ls ih=>rw [Y7,tU,ih,szl,szl,szl];nofun
theorem rM:∀ (n:Nat) (l:Lk),l.dep≤n→l.dep≤20→l.Ok→tW (bg n) l
 | 0,l,h,_,_=>by cases l<;>simp [Lk.dep] at h
 | n+1,l,hn,hd,ho=>by
  intro A B R hR hz
  have z2:(2:Nat)≤XT:=lz (by nofun)
  have z3:(3:Nat)≤XT:=lz (by nofun)
  have rv:∀ X,(A++.lst (R.map Rw.D)::B:DH)=X→bg (n+1) [l.D,.obj A.length] X=bQ 7 (bI (bg n)) [l.D,.obj A.length] X:=λX _=>by rw [bg]
  rw [rv _ rfl]
  have ih:=λl=>rM n l
  generalize bg n=r at ih
  cases l with
  | one m=>
   refine ⟨R,.one m,hR,X3 _,by rw [Lk.sz];nofun,trivial,X3 _,?_⟩
   have e1:=λG=>eqs (kB m) "way" G (fm m) gQ (b:=false) (by cases m<;>symm)
   have e2:=λG=>eqs (kB m) "not" G (fm m) cy (b:=false) (by cases m<;>symm)
   have e3:=λG=>Ms (kB m) G (fm m) (b:=false) (by cases m<;>symm)
   generalize R.map Rw.D=L
   simp! [bI,Lk.D,IF,e1,e2,e3,aN,mk2]
  | kind s=>
   refine ⟨R,.kind s,hR,X3 _,by rw [Lk.sz];nofun,by rw [Lk.Ok] at ho;exact ho,X3 _,?_⟩
   have e1:=λG=>eqs "kind" "way" G cY gQ (b:=false) (by symm)
   have e2:=λG=>eqs "kind" "not" G cY cy (b:=false) (by symm)
   have e3:=λG=>Ms "kind" G cY (b:=false) (by symm)
   generalize R.map Rw.D=L
   simp! [bI,Lk.D,yS,e1,e2,e3,aN,mk2]
  | nU j=>rw [Lk.Ok] at ho;exact ho.elim
  | not l=>
   rw [Lk.Ok] at ho
   rw [Lk.dep] at hn hd
   rw [Lk.sz] at hz
   obtain ⟨R1,t,h1,h2,h3,h4,h5,e⟩:=ih l (by nofun) (by nofun) ho A B R hR (by nofun)
   refine ⟨R1,.not t,h1,h2,by rw [Lk.sz];nofun,h4,by rw [Lk.dep,Lk.dep];nofun,?_⟩
   have e1:=λG=>eqs "not" "way" G cy gQ (b:=false) (by symm)
   have e2:=λG=>eqs "not" "not" G cy cy (b:=true) (by symm)
   rw [Lk.D,Lk.D]
   generalize R.map Rw.D=L at e
   generalize R1.map Rw.D=L1 at e
   generalize l.D=ld at e
   generalize t.D=td at e
   simp! [bI,yS,Eu,e1,e2,e,z2]
  | bin b l l'=>
   rw [Lk.Ok] at ho
   rw [Lk.dep] at hn hd
   rw [Lk.sz] at hz
   obtain ⟨R1,t,h1,h2,h3,h4,h5,e⟩:=ih l (by nofun) (by nofun) ho.1 A B R hR (by nofun)
   obtain ⟨R2,t',k1,k2,k3,k4,k5,e'⟩:=ih l' (by nofun) (by nofun) ho.2 A B R1 h1 (by nofun)
   refine ⟨R2,.bin b t t',k1,by nofun,by rw [Lk.sz];nofun,⟨kj k2 _ h4,k4⟩,by rw [Lk.dep,Lk.dep];nofun,?_⟩
   have e1:=λG=>eqs (iE b) "way" G (cZ b) gQ (b:=false) (by cases b<;>symm)
   have e2:=λG=>eqs (iE b) "not" G (cZ b) cy (b:=false) (by cases b<;>symm)
   have e3:=λG=>Ms (iE b) G (cZ b) (b:=true) (by cases b<;>symm)
   rw [Lk.D,Lk.D]
   generalize R.map Rw.D=L at e
   generalize R1.map Rw.D=L1 at e e'
   generalize R2.map Rw.D=L2 at e'
   generalize l.D=ld at e
   generalize l'.D=XJ at e'
   generalize t.D=td at e
   generalize t'.D=WB at e'
   simp! [bI,iD,Mr,P1,a32,e1,e2,e3,aN,mk2,e,e',z3]
  | way w=>
   rw [Lk.Ok] at ho
   rw [Lk.dep] at hn hd
   rw [Lk.sz,R7] at hz
   have hp:∀ p∈w.ps.reverse,Gd p.1∧tW r p.2∧p.2.dep≤20:=λp hp=>by
    obtain ⟨h1,h2,h3⟩:=D4 w ho.2 p (abS.mp hp)
    exact ⟨h1,ih p.2 (by nofun) (by nofun) h2,by nofun⟩
   have hsz:szl (w.ps.reverse.map (·.2))=szl (w.ps.map (·.2)):=by rw [Zx,HJ]
   obtain ⟨R1,rest,b3,b4,b5,h1,h2,h3,h4,h5,e⟩:=rL r A B (some (Lk.way w).D) none w.ps.reverse hp R none none none none hR (by simp) (by nofun)
   obtain ⟨k,rfl⟩:∃ k,rest=some k:=by
    rcases h5 with ⟨h,_⟩ | h
    ·refine absurd ?_ ho.1
     have h:=abU.mp h
     cases w with
     | nil=>rfl
     | cons g l w=>rw [Wy.ps] at h;cases h
    ·exact h
   refine ⟨R1,.nU k,h1,h2,by rw [Lk.sz,R7];nofun,h4 k rfl,by rw [Lk.dep,Lk.dep];nofun,?_⟩
   have e1:=λG=>eqs "way" "way" G gQ gQ (b:=true) (by symm)
   rw [Lk.D] at e
   rw [Lk.D,Lk.D]
   rw [show oD none=.cz from rfl,show oD (some k)=.int (k:Int) from rfl,Zx,← IG,← D3] at e
   generalize R.map Rw.D=L at e
   generalize R1.map Rw.D=L1 at e
   generalize w.Ds=ws at e
   simp! [bI,iC,yS,Eu,e1,HH,e,z2]
noncomputable def nD (pl:List Nat):D:=.con (pl.map λ(k:Nat)=>.int (k:Int))
theorem D5 (pl:List Nat) (j k:Nat) (h:pl[j]?=some k):iV (pl.map λ(k:Nat)=>D.int (k:Int)) (j:Int)=some (.int (k:Int)):=
 j3 (by rw [Yq,h];rfl)
theorem vS (pl:List Nat):∀ (m:Nat) (t:Lk),t.dep≤m→t.Vo pl.length→∃ d:D,d.closed=true∧∀ G,aQ m [t.D,nD pl] G=.ok d G
 | 0,t,h,_=>by cases t<;>simp [Lk.dep] at h
 | m+1,t,h,ho=>by
  have z2:(2:Nat)≤XT:=lz (by nofun)
  have z3:(3:Nat)≤XT:=lz (by nofun)
  have rv:∀ (d:D) (G:DH),d.closed=true→bQ 3 (aW (aQ m)) [t.D,nD pl] G=.ok d G→aQ (m+1) [t.D,nD pl] G=.ok d G:=λd G hc e=>by
   rw [aQ]
   exact aS e hc
  have ih:=λt=>vS pl m t
  generalize aQ m=r at ih rv
  cases t with
  | one b=>
   refine ⟨(Lk.one b).D,lB _,λG=>rv _ G (lB _) ?_⟩
   have e1:=eqs (kB b) "from" G (fm b) cU (b:=false) (by cases b<;>symm)
   have e2:=eqs (kB b) "not" G (fm b) cy (b:=false) (by cases b<;>symm)
   have e3:=Ms (kB b) G (fm b) (b:=false) (by cases b<;>symm)
   generalize nD pl=pd
   simp! [aW,Lk.D,IF,e1,e2,e3,aN,mk2]
  | kind s=>
   refine ⟨(Lk.kind s).D,lB _,λG=>rv _ G (lB _) ?_⟩
   have e1:=eqs "kind" "from" G cY cU (b:=false) (by symm)
   have e2:=eqs "kind" "not" G cY cy (b:=false) (by symm)
   have e3:=Ms "kind" G cY (b:=false) (by symm)
   generalize nD pl=pd
   simp! [aW,Lk.D,yS,e1,e2,e3,aN,mk2]
  | nU j=>
   have hj:j<pl.length:=ho
   have hc:(D.tup [.str "from",.int ((pl[j]:Nat):Int)]).closed=true:=by simp [D.closed,aG,aL,bz,aT]
   refine ⟨_,hc,λG=>rv _ G hc ?_⟩
   have e1:=eqs "from" "from" G cU cU (b:=true) (by symm)
   have e2:=D5 pl j pl[j] (XZ hj)
   generalize (pl[j]:Nat)=k at e2
   rw [nD]
   generalize (pl.map λ(k:Nat)=>D.int (k:Int))=pD at e2
   simp! [aW,Lk.D,yS,Eu,e1,e2,z2]
  | not t=>
   rw [Lk.dep] at h
   obtain ⟨d,hd,e⟩:=ih t (by nofun) ho
   have hc:(D.tup [.str "not",d]).closed=true:=by simp [D.closed,aG,aL,bz,hd]
   refine ⟨_,hc,λG=>rv _ G hc ?_⟩
   have e0:=e G
   have e1:=eqs "not" "from" G cy cU (b:=false) (by symm)
   have e2:=eqs "not" "not" G cy cy (b:=true) (by symm)
   rw [Lk.D]
   generalize nD pl=pd at e0
   generalize t.D=td at e0
   simp! [aW,yS,Eu,e1,e2,e0,z2]
  | bin b t t'=>
   rw [Lk.dep] at h
   obtain ⟨d,hd,e⟩:=ih t (by nofun) ho.1
   obtain ⟨d',hd',e'⟩:=ih t' (by nofun) ho.2
   have hc:(D.tup [.str (iE b),d,d']).closed=true:=by simp [D.closed,aG,aL,bz,hd,hd']
   refine ⟨_,hc,λG=>rv _ G hc ?_⟩
   have e0:=e G
   have Sh:=e' G
   have e1:=eqs (iE b) "from" G (cZ b) cU (b:=false) (by cases b<;>symm)
   have e2:=eqs (iE b) "not" G (cZ b) cy (b:=false) (by cases b<;>symm)
   have e3:=Ms (iE b) G (cZ b) (b:=true) (by cases b<;>symm)
   rw [Lk.D]
   generalize nD pl=pd at e0 Sh
   generalize t.D=td at e0
   generalize t'.D=WB at Sh
   simp! [aW,fM,Mr,P1,a32,e1,e2,e3,aN,mk2,e0,Sh,z3]
  | way w=>exact ho.elim
noncomputable def Good (d:D):Prop:=d.closed=true∧∃ g t r,d=.tup [.str g,t,r]∧Gd g
theorem Si (r:Option Nat):(oD r).closed=true:=by cases r<;>rfl
theorem AJ (pl:List Nat) (hp:∀ p∈pl,p<pl.length) (w:Rw) (hw:w.Ok pl.length) (j:Nat) (hj:j<pl.length) (L:List D) (hL:L.length=pl.length) (A:DH) (a0 a1 a2 a3 a8:Option D):∃ (d:D) (b8:Option D),Good d ∧
  dU [a0,a1,a2,a3,some (nD pl),some (.obj A.length),some (.int (j:Int)),some w.D,a8] (A++[.lst L])=.nx [a0,a1,a2,a3,some (nD pl),some (.obj A.length),some (.int (j:Int)),some w.D,b8] (A++[.lst (L.set pl[j] d)]):=by
 obtain ⟨h1,h2,h3,h4⟩:=hw
 obtain ⟨d,hd,e⟩:=vS pl 60 w.t (by nofun) h2
 have WC:=hp pl[j] (Zw hj)
 have ea:=D5 pl j pl[j] (XZ hj)
 have ei:vY L.length ((pl[j]:Nat):Int)=some pl[j]:=by
  unfold vY
  rw [if_pos (by nofun),if_pos (by nofun),Zf]
 have g0:∀ x:DO,(A++[x])[A.length]?=some x:=λx=>nV A x []
 have s0:∀ x z:DO,(A++[x]).set A.length z=A++[z]:=λx z=>yC A x z []
 have z3:(3:Nat)≤XT:=lz (by nofun)
 have eW:w.D=.tup [.str w.g,w.t.D,oD w.r]:=rfl
 have hc:∀ r:Option Nat,(D.tup [.str w.g,d,oD r]).closed=true:=λr=>by simp [D.closed,aG,aL,bz,hd,Si]
 have e0:=e (A++[.lst L])
 rw [eW]
 generalize (pl[j]:Nat)=p at ea ei WC
 cases hr:w.r with
 | none=>
  refine ⟨.tup [.str w.g,d,oD none],some (oD none),⟨hc none,_,_,_,rfl,h1⟩,?_⟩
  rw [show oD none=.cz from rfl]
  generalize w.t.D=td at e0
  rw [nD] at e0 ⊢
  generalize (pl.map λ(k:Nat)=>D.int (k:Int))=pD at ea e0
  unfold dU
  simp! [Mr,P1,a32,Ft,ve,e0,z3,ea,mF,g0,ei,s0]
 | some k=>
  have hk:=h4 k hr
  have ek:=D5 pl k pl[k] (XZ hk)
  refine ⟨.tup [.str w.g,d,oD (some pl[k])],some (oD (some pl[k])),⟨hc _,_,_,_,rfl,h1⟩,?_⟩
  generalize (pl[k]:Nat)=q at ek
  rw [show oD (some k)=.int (k:Int) from rfl,show oD (some q)=.int (q:Int) from rfl]
  generalize w.t.D=td at e0
  rw [nD] at e0 ⊢
  generalize (pl.map λ(k:Nat)=>D.int (k:Int))=pD at ea ek e0
  unfold dU
  simp! [Mr,P1,a32,Ft,ve,e0,z3,ea,ek,mF,g0,ei,s0]
theorem rN (pl:List Nat) (hp:∀ p∈pl,p<pl.length) (A:DH) (a0 a1 a2 a3:Option D):∀ (R:List Rw) (j:Nat) (L:List D) (a6 a7 a8:Option D),(∀ w∈R,w.Ok pl.length)→j+R.length=pl.length→L.length=pl.length→(∀ x∈L,x.closed=true)→(∀ i k:Nat,i<j→pl[i]?=some k→∃ d,L[k]?=some d∧Good d)→∃ (L':List D) (b6 b7 b8:Option D),L'.length=pl.length∧(∀ x∈L',x.closed=true)∧(∀ i k:Nat,pl[i]?=some k→∃ d,L'[k]?=some d∧Good d) ∧
  bU (gP 6 7) dU (eD j (R.map Rw.D)) [a0,a1,a2,a3,some (nD pl),some (.obj A.length),a6,a7,a8] (A++[.lst L])=.nx [a0,a1,a2,a3,some (nD pl),some (.obj A.length),b6,b7,b8] (A++[.lst L'])
 | [],j,L,a6,a7,a8,_,hj,hL,hc,hg=>⟨L,a6,a7,a8,hL,hc,λi k h=>hg i k (by have:=(XY.mp h).1;simp at hj;nofun) h,by rw [Yl];exact fB⟩
 | w::R,j,L,a6,a7,a8,hw,hj,hL,hc,hg=>by
  rw [Ym] at hj
  have hjl:j<pl.length:=by nofun
  obtain ⟨d,b8,hd,e1⟩:=AJ pl hp w (hw w (by simp)) j hjl L hL A a0 a1 a2 a3 a8
  obtain ⟨L',c6,c7,c8,k1,k2,k3,e2⟩:=rN pl hp A a0 a1 a2 a3 R (j+1) (L.set pl[j] d) (some (.int (j:Int))) (some w.D) b8 (λx hx=>hw x (by simp [hx])) (by nofun) (by simp [hL]) (λx hx=>by
    rcases List.mem_or_eq_of_mem_set hx with h | rfl
    ·exact hc x h
    ·exact hd.1) (λi k hi hk=>by
    by_cases hkp:k=pl[j]
    ·subst hkp
     exact ⟨d,by rw [aa0 (by rw [hL];exact hp _ (Zw hjl))],hd⟩
    ·have hij:i<j:=by
      rcases Nat.lt_or_ge i j with h | h
      ·exact h
      ·have:i=j:=by nofun
       subst this
       rw [XZ hjl] at hk
       exact absurd (Yu hk).symm hkp
     obtain ⟨d',h1,h2⟩:=hg i k hij hk
     exact ⟨d',by rw [YD (Y6 hkp)];exact h1,h2⟩)
  refine ⟨L',c6,c7,c8,k1,k2,k3,?_⟩
  rw [X8,yU,bZ (τ1:=[a0,a1,a2,a3,some (nD pl),some (.obj A.length),some (.int (j:Int)),some w.D,a8]) rfl,e1,iw,e2]
theorem Sj (n:Nat) (c b:Int) (hb:b=1∨b=n - 1) (i:Nat) (hi:i<n):∃ j:Nat,j<n∧((c+b*j) % n).toNat=i:=by
 have hn:(0:Int)<n:=by nofun
 have O1:∀ q:Int,(((i:Int)+n*q) % n).toNat=i:=λq=>by
  rw [Int.add_mul_emod_self_left,Int.emod_eq_of_lt (by nofun) (by nofun),Zf]
 have Mv:∀ x:Int,∃ j:Nat,j<n∧(j:Int)=x - n*(x / n):=λx=>by
  have h1:=aaP x (by nofun:(n:Int)≠0)
  have h2:=aaT x hn
  rw [Int.emod_def] at h1 h2
  exact ⟨(x - n*(x / n)).toNat,by nofun,by nofun⟩
 rcases hb with rfl | rfl
 ·obtain ⟨j,h1,h2⟩:=Mv (i - c)
  refine ⟨j,h1,?_⟩
  rw [h2,show c+1*((i:Int) - c - n*(((i:Int) - c) / n))=i+n*(-(((i:Int) - c) / n)) by rw [adj,Int.mul_neg];nofun]
  exact O1 _
 ·obtain ⟨j,h1,h2⟩:=Mv (c - i)
  refine ⟨j,h1,?_⟩
  have e:c+((n:Int) - 1)*(j:Int)=i+n*((c - i) / n+j):=by
   rw [Int.sub_mul,adj,Int.mul_add]
   nofun
  rw [e]
  exact O1 _
theorem IT (c m:Int) (G:DH):∃ b:Int,(b=1∨b=m)∧iV [D.int 1,.int m] (c % 2)=some (.int b)∧(aI [.int 1,.int m] G).fw G=.ok (.con [.int 1,.int m]) G:=by
 have hf:(aI [.int 1,.int m] G).fw G=.ok (.con [.int 1,.int m]) G:=bK (lz (n:=2) (by nofun)) rfl
 rcases (show c % 2=0∨c % 2=1 by nofun) with h | h
 ·exact ⟨1,.inl rfl,by rw [h];rfl,hf⟩
 ·exact ⟨m,.inr rfl,by rw [h];rfl,hf⟩
noncomputable def Ex (n:Nat) (c b:Int) (j:Nat):Nat:=((c / 2+b*j) % n).toNat
theorem AK (n:Nat) (c b:Int) (hb:-1000<b∧b<1000) (hn:n≤900) (a0:Option D) (τ:DS) (G:DH):eFn (dh eF oN [false,true,true,true] (aa (af 2) (ah)) (dW) (aj cL (aj aJ (aj qN (af 2) (eC (.int 2))) (aj nE (af 4) (af 0))) (af 3))) (a0::some (.int c)::some (.int (n:Int))::some (.int b)::τ) G=.ok (nD ((YF n).map (Ex n c b))) G:=by
 have hr:=iL (j:=(n:Int)) (by nofun) (by nofun)
 rw [Zf] at hr
 have hc:=dM (gO:=oN) (ks:=[false,true,true,true]) (tt:=dW) (te:=aj cL (aj aJ (aj qN (af 2) (eC (.int 2))) (aj nE (af 4) (af 0))) (af 3)) (own:=λj:Nat=>[D.int (0+(j:Int))]) (dat:=λj=>D.int (0+(j:Int))) (f:=λj=>D.int (Ex n c b j:Int)) (c:=λ_=>true) (G:=G) (τ:=a0::some (.int c)::some (.int (n:Int))::some (.int b)::τ) (YL 0 n) [] (by simp;nofun) (λ_ _=>rfl) (λ_ _ _=>rfl) (λj hj acc=>by
  have hj2:j<n:=by simpa using hj
  have hp:(0:Int)<n:=by nofun
  have q1:-18446744073709551616<b:=by nofun
  have q2:b<18446744073709551616:=by nofun
  have e:(Ex n c b j:Int)=(c / 2+b*(0+(j:Int))) % n:=by
   unfold Ex
   rw [Int.zero_add]
   exact Int.toNat_of_nonneg (aaP _ (by nofun))
  rw [e]
  generalize (0+(j:Int))=jj
  have hp2:0<n:=by nofun
  simp! [mask,hp2,q1,q2])
 rw [YX,aaL.mpr (λ_ _=>rfl)] at hc
 have hcl:aV ((YL 0 n).map λj=>D.int (Ex n c b j:Int))=true:=aB λ_=>aT
 have em:nD ((YF n).map (Ex n c b))=.con ((YL 0 n).map λj=>D.int (Ex n c b j:Int)):=by
  unfold nD
  rw [Zl,acq]
  rfl
 rw [em,aN,← jq hcl,← hc]
 simp only [oW,aZ,bP,cP,Yv,Ys,aK,ak,di,hr]
theorem D6 (R:List Rw) (hR:Tb R) (hz:R.length≤500) (c:Int) (hc0:0≤c) (G:DH):∃ (T pl:List D),T.length=R.length∧(∀ d∈T,Good d)∧gf [.con (R.map Rw.D),.int c] G=.ok (.tup [.con T,.con pl]) G:=by
 obtain ⟨mm,hm1,hm2⟩:∃ mm:Int,(if (R.length:Int) - 1<1 then (1:Int) else (R.length:Int) - 1)=mm∧(mm=1∨mm=R.length - 1):=⟨_,rfl,by split<;>simp⟩
 obtain ⟨b,hb,e1,_⟩:=IT c mm G
 have hb2:b=1∨b=R.length - 1:=by
  rcases hb with h | h
  ·exact .inl h
  ·rw [h];exact hm2
 obtain ⟨pl,hpl⟩:∃ pl:List Nat,pl=(YF R.length).map (Ex R.length c b):=⟨_,rfl⟩
 have hlen:pl.length=R.length:=by rw [hpl];simp
 have hp:∀ p∈pl,p<pl.length:=λp h=>by
  rw [hpl] at h
  obtain ⟨j,hj,rfl⟩:=aac.mp h
  have hj:=abr.mp hj
  have h2:=aaT (c / 2+b*j) (by nofun:(0:Int)<R.length)
  have h1:=aaP (c / 2+b*j) (by nofun:(R.length:Int)≠0)
  rw [hlen]
  unfold Ex
  nofun
 have ep:=λG=>AK R.length c b (by nofun) (by nofun) (some (.con (R.map Rw.D))) [none,none,none,none,none] G
 rw [← hpl] at ep
 have hrep:(Yi R.length [D.cz]).flatten=Yi R.length .cz:=by simp
 obtain ⟨L',b6,b7,b8,h1,h2,h3,el⟩:=rN pl hp (G++[.lst [.cz]]) (some (.con (R.map Rw.D))) (some (.int c)) (some (.int (R.length:Int))) (some (.int b)) R 0 (Yi R.length .cz) none none none (by rw [hlen];exact hR) (by nofun) (by simp [hlen]) (λx hx=>by rw [List.eq_of_mem_replicate hx];rfl) (λi k h=>by nofun)
 have hT:∀ d∈L',Good d:=λd hd=>by
  obtain ⟨i,hi,rfl⟩:=List.mem_iff_getElem.mp hd
  obtain ⟨j,hj,ej⟩:=Sj R.length (c / 2) b hb2 i (by nofun)
  obtain ⟨d',hd1,hd2⟩:=h3 j i (by rw [hpl,Yq,acz hj];simp [Ex,ej])
  rw [XZ hi] at hd1
  rw [Yu hd1]
  exact hd2
 refine ⟨L',pl.map λ(k:Nat)=>.int (k:Int),by nofun,hT,?_⟩
 have hcl:(D.tup [.con L',nD pl]).closed=true:=by
  have:(nD pl).closed=true:=by rw [nD,bL];exact aB λ_=>aT
  simp [D.closed,aG,aL,this,k8 h2]
 have ee:eD 0 (R.map Rw.D)=(R.map Rw.D).mapIdx λi x=>D.tup [.int (i:Int),x]:=rfl
 rw [ee,← mV] at el
 have Sk:(R.map Rw.D).length≤XT:=lz (by rw [Yh];nofun)
 have hlr:(R.map Rw.D).length=R.length:=Yh _
 have z2:(2:Nat)≤XT:=lz (by nofun)
 have f2:=λG=>(IT c mm G).choose_spec.2.2
 have p9:(Out.ok (D.obj (G++[DO.lst [.cz]]).length) ((G++[.lst [.cz]])++[.lst L'])).fz=.ok (.con L') ((G++[.lst [.cz]])++[.dead]):=yH
 unfold gf
 show cB _ _ G=Out.ok (.tup [.con L',nD pl]) G
 refine gy (R:=[.lst [.cz],.dead]) ?_ hcl
 have Mw:∀ k,k=R.length→qW (.obj G.length) (.int (k:Int)) (G++[.lst [.cz]])=.ok (.obj (G++[DO.lst [.cz]]).length) ((G++[.lst [.cz]])++[.lst (Yi R.length .cz)]):=λk hk=>by
  subst hk
  have g0:(G++[DO.lst [.cz]])[G.length]?=some (.lst [.cz]):=nV G _ []
  have hz2:R.length≤XT:=lz (by nofun)
  have O2:(R.length:Int)<1000∧-1000<(R.length:Int)∧[D.cz].length*(R.length:Int).toNat≤XT:=⟨by nofun,by nofun,by simpa using hz2⟩
  unfold qW
  dsimp only
  rw [g0]
  dsimp only
  rw [if_pos O2,Zf,hrep]
  simp [aI,hz2]
 have Mw:=Mw R.length rfl
 have n1:aI [.cz] G=.ok (.obj G.length) (G++[.lst [.cz]]):=by
  have z1:(1:Nat)≤XT:=lz (by nofun)
  simp [aI,z1]
 generalize Yi R.length D.cz=L0 at el Mw
 rw [show G++[DO.lst [.cz],.dead]=(G++[.lst [.cz]])++[.dead] by simp]
 generalize (G++[DO.lst [.cz]])=G1 at el p9 Mw n1
 generalize R.map Rw.D=RD at el ep Sk hlr
 generalize hnn:R.length=nn at hm1 ep el Mw hlr
 generalize nD pl=pd at ep el hcl
 rw [hlr] at el Sk
 rw [dm]
 show (g7 [some (.con RD),some (.int c),none,none,none,none,none,none,none] G).fn=_
 rw [g7]
 refine gh (v:=.int (nn:Int)) (G':=G) (by simp! [hlr,Sk]) ?_
 rw [TZ]
 refine gh (v:=.int b) (G':=G) ?_ ?_
 ·have es:∀ G,kO (.int (nn:Int)) (.int 1) G=.ok (.int ((nn:Int) - 1)) G:=λG=>rfl
  generalize (nn:Int) - 1=n1 at es hm1
  have em:∀ G,fj (λi j=>if j > i then j else i) [.int n1,.int 1] G=.ok (.int mm) G:=λG=>by rw [← hm1];rfl
  have ed:aU (.con [.int 1,.int mm]) (.int (c % 2)) G=.ok (.int b) G:=by simp [aU,aD,e1]
  have ec:∀ G,cL (.int c) (.int 2) G=.ok (.int (c % 2)) G:=λG=>rfl
  simp only [f9,aN,cX,aZ,bP,jo,cP,Yv,Ys,aK,ak,di,es,em,f2,ec,ed]
 rw [T4]
 refine gh (ep _) ?_
 rw [OI,iT]
 refine gh (v:=.obj G1.length) (G':=G1++[.lst L0]) ?_ ?_
 ·simp only [f9,cX,aZ,bP,jo,cP,Yv,Ys,aK,ak,di,n1,Mw]
 rw [OJ]
 refine yT (X5 ?_ el) ?_
 ·rw [Gg,vR RD _ _ 0 rfl,Ij,hlr]
 have e5:sE (af 5) [some (.con RD),some (.int c),some (.int (nn:Int)),some (.int b),some pd,some (.obj G1.length),b6,b7,b8] (G1++[.lst L'])=_:=p9
 have et:∀ G,aY [.con L',pd] G=.ok (.tup [.con L',pd]) G:=λG=>by simp [aY,z2]
 rw [jS,cX,aZ,e5]
 change ((aY [.con L',pd] _).rn _).fn=_
 rw [et]
 rfl
noncomputable def csl:Lk→List Lk
 | .not l=>[l]
 | .bin _ l r=>[l,r]
 | _=>[]
noncomputable def Lk.pre:Lk→List Lk
 | .not l=>.not l::l.pre
 | .bin e l r=>.bin e l r::(l.pre++r.pre)
 | .one m=>[.one m]
 | .kind s=>[.kind s]
 | .nU j=>[.nU j]
 | .way w=>[.way w]
theorem D7 (l:Lk):l.pre=l::(csl l).flatMap Lk.pre:=by cases l<;>simp [Lk.pre,csl]
theorem yZ {n:Nat} {l:Lk} (h:l.Vo n):l.sz=1+szl (csl l):=by
 cases l with
 | way w=>exact h.elim
 | _=>simp [Lk.sz,csl,szl]
theorem D8 {n:Nat} {l:Lk} (h:l.Vo n):∀ c∈csl l,c.Vo n:=by
 intro c hc
 cases l with
 | not l=>rw [Yk.mp hc];exact h
 | bin e l r=>
  rcases Yn.mp hc with rfl | hc
  ·exact h.1
  ·rw [Yk.mp hc];exact h.2
 | _=>cases hc
theorem AL:∀ ls:List Lk,ls.length≤szl ls
 | []=>X3 _
 | l::ls=>by have:=AL ls;have:=DR l;rw [szl,Ym];nofun
theorem y9:∀ {ls:List Lk} {l:Lk},l∈ls→l.sz≤szl ls
 | l'::ls,l,h=>by
  rw [szl]
  rcases Yn.mp h with rfl | h
  ·nofun
  ·have:=y9 h;nofun
theorem LZ (l:Lk) (G:DH):wO (.tup [.str "not",l.D]) (some 1) none G=.ok (.tup [l.D]) G:=by
 have z1:(1:Nat)≤XT:=lz (by nofun)
 simp [wO,aD,cutD,HT.fq,aY,z1]
theorem L4 (s:Str) (l r:Lk) (G:DH):wO (.tup [.str s,l.D,r.D]) (some 1) none G=.ok (.tup [l.D,r.D]) G:=by
 have z2:(2:Nat)≤XT:=lz (by nofun)
 simp [wO,aD,cutD,HT.fq,aY,z2]
theorem vU {n:Nat} (l:Lk) (ho:l.Vo n) (G:DH):cS [l.D] G=.ok (.con ((csl l).map Lk.D)) G:=by
 have z1:(1:Nat)≤XT:=lz (by nofun)
 have z2:(2:Nat)≤XT:=lz (by nofun)
 have z3:(3:Nat)≤XT:=lz (by nofun)
 have hcl:aV ((csl l).map Lk.D)=true:=aB lB
 have n0:(aI [] G).fw G=.ok (.con []) G:=bK (Z4 _) rfl
 unfold cS
 refine aS ?_ (by rw [bL];exact hcl)
 cases l with
 | one m=>
  have e1:=eqs (kB m) "way" G (fm m) gQ (b:=false) (by cases m<;>symm)
  have e2:=OO (kB m) G (fm m) (b:=false) (by cases m<;>symm)
  simp! [dN,Lk.D,csl,IF,e1,e2,z3,aN,n0]
 | kind nm=>
  have e1:=eqs "kind" "way" G cY gQ (b:=false) (by symm)
  have e2:=OO "kind" G cY (b:=false) (by symm)
  simp! [dN,Lk.D,csl,yS,e1,e2,z3,aN,n0]
 | nU j=>
  have e1:=eqs "from" "way" G cU gQ (b:=false) (by symm)
  have e2:=OO "from" G cU (b:=false) (by symm)
  simp! [dN,Lk.D,csl,yS,e1,e2,z3,aN,n0]
 | not l=>
  have f:(aI [l.D] G).fw G=.ok (.con [l.D]) G:=bK (by simpa using z1) (by simp [aG,aL,lB])
  have e1:=eqs "not" "way" G cy gQ (b:=false) (by symm)
  have e2:=OO "not" G cy (b:=true) (by symm)
  simp! [dN,Lk.D,csl,yS,e1,e2,z3,aN,LZ,mK,f]
 | bin e l r=>
  have f:(aI [l.D,r.D] G).fw G=.ok (.con [l.D,r.D]) G:=bK (by simpa using z2) (by simp [aG,aL,lB])
  have e1:=eqs (iE e) "way" G (cZ e) gQ (b:=false) (by cases e<;>symm)
  have e2:=OO (iE e) G (cZ e) (b:=true) (by cases e<;>symm)
  simp! [dN,Lk.D,csl,Mr,e1,e2,z3,aN,L4,mK,f]
 | way w=>exact ho.elim
theorem D9:YU ("look_parts":Str) [("look_parts",cS)]=some cS:=by
 simp only [YU,beq_self_eq_true]
theorem vV {n:Nat} (G:DH) (a0:Option D) (t:Lk) (rest acc:List Lk) (one:Option D) (h1:acc.length≤10000) (h2:rest.length≤10000) (h3:t.sz≤1000) (ho:t.Vo n) :
  fC [a0,some (.fn "look_parts"),some (.obj G.length),some (.obj (G.length+1)),one] (G++[.lst (acc.map Lk.D),.lst ((t::rest).reverse.map Lk.D)]) =
   .nx [a0,some (.fn "look_parts"),some (.obj G.length),some (.obj (G.length+1)),some t.D] (G++[.lst ((acc++[t]).map Lk.D),.lst ((csl t++rest).reverse.map Lk.D)]):=by
 have hl:=AL (csl t)
 have hs:=yZ ho
 have ep:=λG=>vU t ho G
 generalize csl t=ts at hl hs ep ⊢
 have hz1:acc.length<XT:=X7 (by nofun) (lz (n:=20000) (by nofun))
 have hz2:rest.length+ts.length≤XT:=lz (by nofun)
 have WD:ts.length≤XT:=lz (by nofun)
 have hcl:aV (ts.map Lk.D).reverse=true:=by
  rw [← Zx];exact aB lB
 have f:∀ G,(aI (ts.map Lk.D).reverse G).fw G=.ok (.con (ts.map Lk.D).reverse) G:=λG=>bK (by simpa using WD) hcl
 have hdl:((rest.map Lk.D).reverse++[t.D]).dropLast=(rest.map Lk.D).reverse:=acu
 have hix:((rest.map Lk.D).reverse++[t.D])[((rest.map Lk.D).reverse++[t.D]).length - 1]?=some t.D:=by simp
 have g1:∀ x y:DO,(G++[x,y])[G.length+1]?=some y:=λx y=>Rl G x y []
 have s1:∀ x y z:DO,(G++[x,y]).set (G.length+1) z=G++[x,z]:=λx y z=>U8 G x y z []
 have g0:∀ x y:DO,(G++[x,y])[G.length]?=some x:=λx y=>nV G x [y]
 have s0:∀ x y z:DO,(G++[x,y]).set G.length z=G++[z,y]:=λx y z=>yC G x z [y]
 have er:(t::rest).reverse.map Lk.D=(rest.map Lk.D).reverse++[t.D]:=by simp
 rw [er]
 have e1:(aF 4 (cC "list" nF (af 3) ah)) [a0,some (.fn "look_parts"),some (.obj G.length),some (.obj (G.length+1)),one] (G++[.lst (acc.map Lk.D),.lst ((rest.map Lk.D).reverse++[t.D])])=.nx [a0,some (.fn "look_parts"),some (.obj G.length),some (.obj (G.length+1)),some t.D] (G++[.lst (acc.map Lk.D),.lst (rest.map Lk.D).reverse]):=by
  simp only [jR,lQ,cP,Yv,Ys,aK,fY,g1,bP,nF,hix,hdl,beq_self_eq_true,if_true,nh,YS,YT,s1]
 rw [fC,bu,e1,cI]
 simp! [g0,s0,g1,s1,hz1,D9,ep,uL,aN,f,uR,kr,hz2]
theorem nA {v:Nat} (G:DH) (a0:Option D):∀ (n fl:Nat) (stk acc:List Lk) (one:Option D),szl stk=n→n<fl→acc.length+n≤1000→(∀ t∈stk,t.Vo v) →
  ∃ one',f6 (cW (aj oB (ai bY (aa (af 3) (ah))) (eC (.int 0)))) fC fl [a0,some (.fn "look_parts"),some (.obj G.length),some (.obj (G.length+1)),one] (G++[.lst (acc.map Lk.D),.lst (stk.reverse.map Lk.D)])=.nx [a0,some (.fn "look_parts"),some (.obj G.length),some (.obj (G.length+1)),one'] (G++[.lst ((acc++stk.flatMap Lk.pre).map Lk.D),.lst []])
 | n,0,stk,acc,one,_,h,_,_=>by nofun
 | n,fl+1,[],acc,one,hn,h,hb,_=>by
  refine ⟨one,?_⟩
  have g1:∀ x y:DO,(G++[x,y])[G.length+1]?=some y:=λx y=>Rl G x y []
  rw [uP]
  simp! [g1,oB]
 | n,fl+1,t::stk,acc,one,hn,h,hb,ho=>by
  have ht:=ho t (by simp)
  rw [szl] at hn
  have hq:=yZ ht
  have hss:=tU (csl t) stk
  have hl1:=AL (csl t)
  have hl2:=AL stk
  obtain ⟨one',e⟩:=nA G a0 (n - 1) fl (csl t++stk) (acc++[t]) (some t.D) (by nofun) (by nofun) (by simp;nofun) (λc hc=>by
   rcases Zr.mp hc with h | h
   ·exact D8 ht c h
   ·exact ho c (by simp [h]))
  refine ⟨one',?_⟩
  have g1:∀ x y:DO,(G++[x,y])[G.length+1]?=some y:=λx y=>Rl G x y []
  have hz:stk.length+1≤XT:=lz (by nofun)
  have hp:(0:Int)<(stk.length:Int)+1:=by nofun
  have et:=vV G a0 t stk acc one (by nofun) (by nofun) (by nofun) ht
  have ec:cW (aj oB (ai bY (aa (af 3) (ah))) (eC (.int 0))) [a0,some (.fn "look_parts"),some (.obj G.length),some (.obj (G.length+1)),one] (G++[.lst (acc.map Lk.D),.lst ((t::stk).reverse.map Lk.D)])=.ok true (G++[.lst (acc.map Lk.D),.lst ((t::stk).reverse.map Lk.D)]):=by
   simp! [g1,oB,hz,hp]
  rw [uP,ec,Ld,N5,et,iw,e,List.flatMap_append,ac5,D7 t]
  simp
theorem AM {v:Nat} (t:Lk) (ho:t.Vo v) (h:t.sz≤1000) (G:DH):gY [t.D,.fn "look_parts"] G=.ok (.con (t.pre.map Lk.D)) G:=by
 obtain ⟨one',e⟩:=nA G (some t.D) t.sz fuel [t] [] none (by simp [szl]) (by unfold fuel;nofun) (by simp;nofun) (λc hc=>by rw [Yk.mp hc];exact ho)
 have hp:[t].flatMap Lk.pre=t.pre:=by simp
 rw [hp] at e
 simp only [Y7,List.reverse_nil,YX,X8,Yl] at e
 have z1:(1:Nat)≤XT:=lz (by nofun)
 have hcl:aV (t.pre.map Lk.D)=true:=aB lB
 unfold gY
 refine gy (R:=[.dead,.lst []]) ?_ (by rw [bL];exact hcl)
 have p9:(Out.ok (D.obj G.length) (G++[.lst (t.pre.map Lk.D),.lst []])).fz=.ok (.con (t.pre.map Lk.D)) (G++[.dead,.lst []]):=yH
 unfold ju
 generalize fuel=fl at e ⊢
 simp! [aI,z1,e,p9]
theorem L5:YU ("holds_by":Str) [("holds_by",((3:Nat),bN))]=some (3,bN):=by
 simp only [YU,beq_self_eq_true]
theorem IU (G Z:DH) (x y:DO):(G++x::(Z++[y]))[G.length+(Z.length+1)]?=some y:=by
 have e:G++x::(Z++[y])=(G++x::Z)++y::[]:=by simp
 have l:G.length+(Z.length+1)=(G++x::Z).length:=by simp
 rw [e,l]
 exact nV _ _ _
theorem IV (G Z:DH) (x y z:DO):(G++x::(Z++[y])).set (G.length+(Z.length+1)) z=G++x::(Z++[z]):=by
 have e:G++x::(Z++[y])=(G++x::Z)++y::[]:=by simp
 have l:G.length+(Z.length+1)=(G++x::Z).length:=by simp
 rw [e,l,yC]
 simp
theorem rO (G Z:DH) (a0 a1 a2 a4:Option D) (B:List D):∀ (xs:List D) (j:Nat) (ps:List D) (a6:Option D),ps.length+xs.length≤1000 →
  ∃ b6,bU (gN 6) g9 ((YL j xs.length).map λ(k:Nat)=>.int (0+(k:Int))) [a0,a1,a2,some (.obj G.length),a4,some (.obj (G.length+(Z.length+1))),a6] (G++.lst (B++xs.reverse)::(Z++[.lst ps])) =
   .nx [a0,a1,a2,some (.obj G.length),a4,some (.obj (G.length+(Z.length+1))),b6] (G++.lst B::(Z++[.lst (ps++xs)]))
 | [],j,ps,a6,_=>⟨a6,by simp [bU]⟩
 | x::xs,j,ps,a6,h=>by
  simp only [Ym] at h
  obtain ⟨b6,e⟩:=rO G Z a0 a1 a2 a4 B xs (j+1) (ps++[x]) (some (.int (0+(j:Int)))) (by simp;nofun)
  refine ⟨b6,?_⟩
  have hz:ps.length<XT:=X7 (by nofun) (lz (n:=2000) (by nofun))
  have er:B++(x::xs).reverse=(B++xs.reverse)++[x]:=by simp
  rw [er]
  generalize B++xs.reverse=C at e
  have hdl:(C++[x]).dropLast=C:=acu
  have hix:(C++[x])[(C++[x]).length - 1]?=some x:=by simp
  have g1:=λx y=>IU G Z x y
  have s1:=λx y z=>IV G Z x y z
  have g0:∀ x y,(G++x::(Z++[y]))[G.length]?=some x:=λx y=>nV G x _
  have s0:∀ x y z,(G++x::(Z++[y])).set G.length z=G++z::(Z++[y]):=λx y z=>yC G x z _
  have ep:cC "list" nF (af 3) ah [a0,a1,a2,some (.obj G.length),a4,some (.obj (G.length+(Z.length+1))),some (.int (0+(j:Int)))] (G++.lst (C++[x])::(Z++[.lst ps]))=.ok x (G++.lst C::(Z++[.lst ps])):=by
   simp only [lQ,cP,Yv,Ys,aK,fY,g0,bP,nF,hix,hdl,beq_self_eq_true,if_true,s0]
  have e1:g9 [a0,a1,a2,some (.obj G.length),a4,some (.obj (G.length+(Z.length+1))),some (.int (0+(j:Int)))] (G++.lst (C++[x])::(Z++[.lst ps]))=.nx [a0,a1,a2,some (.obj G.length),a4,some (.obj (G.length+(Z.length+1))),some (.int (0+(j:Int)))] (G++.lst C::(Z++[.lst (ps++[x])])):=by
   simp only [g9,sC,lQ (g:=cE),cP,Yv,Ys,aK,fY,g1,aZ,ep,bP,ak,di,cE,beq_self_eq_true,if_true,hz,s1,Ii]
  rw [Ym,abb,X8,bZ rfl]
  simp only [YS,YT,e1,iw]
  rw [e]
  simp
theorem Ea {n:Nat} (A Z:DH) (a0 a5 a6:Option D) (caps:List D) (B:List D) (t:Lk) (ho:t.Vo n) (lD:List D) (rd:D) (hl:lD.length=(csl t).length) (hz:t.sz≤900) (hB:B.length≤5000) (hc2:caps.length=3) (em:∀ G,bN ([t.D,.con lD]++caps) G=.ok rd G) :
  ∃ (b5 b6:Option D),cg [a0,some (.fn "look_parts"),some (.iG "holds_by" caps),some (.obj A.length),some t.D,a5,a6] (A++.lst (B++lD.reverse)::Z) =
   .nx [a0,some (.fn "look_parts"),some (.iG "holds_by" caps),some (.obj A.length),some t.D,b5,b6] (A++.lst (B++[rd])::(Z++[.dead])):=by
 have hlt:=AL (csl t)
 have XM:=yZ ho
 have XN:lD.length≤1000:=by nofun
 obtain ⟨b6,e⟩:=rO A Z a0 (some (.fn "look_parts")) (some (.iG "holds_by" caps)) (some t.D) B lD 0 [] a6 (by simp;nofun)
 have ep:=λG=>vU t ho G
 have hr:=iL (j:=(lD.length:Int)) (by nofun) (by nofun)
 rw [Zf] at hr
 simp only [YX] at e
 have hcl:((csl t).map Lk.D).length=lD.length:=by rw [Yh,hl]
 generalize t.D=td at e ep em
 generalize (csl t).map Lk.D=cD at ep hcl
 generalize ((YL 0 lD.length).map λ(k:Nat)=>D.int (0+(k:Int)))=rg at hr e
 have Ew:lD.length≤XT:=lz (by nofun)
 have WE:B.length<XT:=X7 (by nofun) (lz (n:=6000) (by nofun))
 refine ⟨some (.obj (A.length+(Z.length+1))),b6,?_⟩
 have n0:∀ M:DO,aI [] (A++M::Z)=.ok (.obj (A.length+(Z.length+1))) (A++M::(Z++[.lst []])):=λM=>by simp [aI]
 have g1:=λx y=>IU A Z x y
 have s1:=λx y z=>IV A Z x y z
 have g0:∀ x Y,(A++x::Y)[A.length]?=some x:=λx Y=>nV A x Y
 have s0:∀ x z Y,(A++x::Y).set A.length z=A++z::Y:=λx z Y=>yC A x z Y
 have S1:(aF 5 (ai aI (ah))) [a0,some (.fn "look_parts"),some (.iG "holds_by" caps),some (.obj A.length),some td,a5,a6] (A++.lst (B++lD.reverse)::Z)=.nx [a0,some (.fn "look_parts"),some (.iG "holds_by" caps),some (.obj A.length),some td,some (.obj (A.length+(Z.length+1))),a6] (A++.lst (B++lD.reverse)::(Z++[.lst []])):=by
  simp only [jR,cX,bP,aK,n0,nh,OJ]
 have S2:(gx eF (gN 6) (aa (ai bY (aa (kZ 1 1 (λy=>YU y [("look_parts",cS)]) (aa (af 4) (ah))) (ah))) (ah)) g9) [a0,some (.fn "look_parts"),some (.iG "holds_by" caps),some (.obj A.length),some td,some (.obj (A.length+(Z.length+1))),a6] (A++.lst (B++lD.reverse)::(Z++[.lst []]))=.nx [a0,some (.fn "look_parts"),some (.iG "holds_by" caps),some (.obj A.length),some td,some (.obj (A.length+(Z.length+1))),b6] (A++.lst B::(Z++[.lst lD])):=by
  simp! [D9,ep,hcl,Ew,hr,e]
 have eA:(aa (af 4) (aa (sE (af 5)) (ah))) [a0,some (.fn "look_parts"),some (.iG "holds_by" caps),some (.obj A.length),some td,some (.obj (A.length+(Z.length+1))),b6] (A++.lst B::(Z++[.lst lD]))=.ok [td,.con lD] (A++.lst B::(Z++[.dead])):=by
  have ef:sE (af 5) [a0,some (.fn "look_parts"),some (.iG "holds_by" caps),some (.obj A.length),some td,some (.obj (A.length+(Z.length+1))),b6] (A++.lst B::(Z++[.lst lD]))=.ok (.con lD) (A++.lst B::(Z++[.dead])):=by
   unfold sE
   rw [V0]
   simp only [g1,s1]
  rw [aZ,VY,aK,ak,aZ,ef,aK,ak,bP,aK,di,aK,di]
 have eC:lg 2 2 (λy=>YU y [("holds_by",(3,bN))]) (aa (af 4) (aa (sE (af 5)) (ah))) [a0,some (.fn "look_parts"),some (.iG "holds_by" caps),some (.obj A.length),some td,some (.obj (A.length+(Z.length+1))),b6] (A++.lst B::(Z++[.lst lD]))=.ok rd (A++.lst B::(Z++[.dead])):=by
  unfold lg
  rw [TY]
  dsimp only
  rw [ak,eA,aK]
  unfold sN
  rw [TY]
  dsimp only
  rw [L5]
  simp only [hc2]
  exact em _
 rw [cg,bu,S1,cI,bu,S2,cI,sC,lQ (g:=cE),T5]
 simp only [aK,fY,g0,aZ,eC,ak,bP,di,cE,beq_self_eq_true,if_true,WE,s0,Ii]
noncomputable def x6 (A:DH) (a0:Option D) (caps:List D) (f:Lk→D) (t:Lk):Prop:=∀ (B:List D) (Z:DH) (a4 a5 a6:Option D),B.length+t.sz≤4000→∃ (Z':DH) (b4 b5 b6:Option D),∀ rest:List D,
  bU (gN 4) cg (t.pre.reverse.map Lk.D++rest) [a0,some (.fn "look_parts"),some (.iG "holds_by" caps),some (.obj A.length),a4,a5,a6] (A++.lst B::Z) =
  bU (gN 4) cg rest [a0,some (.fn "look_parts"),some (.iG "holds_by" caps),some (.obj A.length),b4,b5,b6] (A++.lst (B++[f t])::Z')
theorem za (A:DH) (a0:Option D) (caps:List D) (f:Lk→D):∀ (ts:List Lk),(∀ t∈ts,x6 A a0 caps f t)→∀ (B:List D) (Z:DH) (a4 a5 a6:Option D),B.length+szl ts≤4000→∃ (Z':DH) (b4 b5 b6:Option D),∀ rest:List D,
  bU (gN 4) cg ((ts.flatMap Lk.pre).reverse.map Lk.D++rest) [a0,some (.fn "look_parts"),some (.iG "holds_by" caps),some (.obj A.length),a4,a5,a6] (A++.lst B::Z) =
  bU (gN 4) cg rest [a0,some (.fn "look_parts"),some (.iG "holds_by" caps),some (.obj A.length),b4,b5,b6] (A++.lst (B++(ts.map f).reverse)::Z')
 | [],_,B,Z,a4,a5,a6,_=>⟨Z,a4,a5,a6,λrest=>by simp⟩
 | t::ts,h,B,Z,a4,a5,a6,hB=>by
  rw [szl] at hB
  have hlt:=AL ts
  obtain ⟨Z',b4,b5,b6,e⟩:=za A a0 caps f ts (λx hx=>h x (by simp [hx])) B Z a4 a5 a6 (by nofun)
  obtain ⟨Z2,c4,c5,c6,e1⟩:=h t (by simp) (B++(ts.map f).reverse) Z' b4 b5 b6 (by rw [Yx,aaK,Yh];nofun)
  refine ⟨Z2,c4,c5,c6,λrest=>?_⟩
  have er:((t::ts).flatMap Lk.pre).reverse.map Lk.D++rest=(ts.flatMap Lk.pre).reverse.map Lk.D++(t.pre.reverse.map Lk.D++rest):=by
   rw [ac5,List.reverse_append,aat,Y8]
  rw [er,e,e1]
  simp
theorem AN {n:Nat} (A Z' Z:DH) (a0:Option D) (caps:List D) (f:Lk→D) (t:Lk) (ho:t.Vo n) (B:List D) (a4 a5 a6 b4 b5 b6:Option D) (lD:List D) (hl:lD.length=(csl t).length) (hz:t.sz≤900) (hB:B.length≤5000) (hc2:caps.length=3) (em:∀ G,bN ([t.D,.con lD]++caps) G=.ok (f t) G)
  (e:∀ rest:List D,bU (gN 4) cg (((csl t).flatMap Lk.pre).reverse.map Lk.D++rest) [a0,some (.fn "look_parts"),some (.iG "holds_by" caps),some (.obj A.length),a4,a5,a6] (A++.lst B::Z) =
  bU (gN 4) cg rest [a0,some (.fn "look_parts"),some (.iG "holds_by" caps),some (.obj A.length),b4,b5,b6] (A++.lst (B++lD.reverse)::Z')) :
  ∃ (Z2:DH) (c4 c5 c6:Option D),∀ rest:List D,bU (gN 4) cg (t.pre.reverse.map Lk.D++rest) [a0,some (.fn "look_parts"),some (.iG "holds_by" caps),some (.obj A.length),a4,a5,a6] (A++.lst B::Z) =
  bU (gN 4) cg rest [a0,some (.fn "look_parts"),some (.iG "holds_by" caps),some (.obj A.length),c4,c5,c6] (A++.lst (B++[f t])::Z2):=by
 obtain ⟨c5,c6,e1⟩:=Ea A Z' a0 b5 b6 caps B t ho lD (f t) hl hz hB hc2 em
 refine ⟨Z'++[.dead],some t.D,c5,c6,λrest=>?_⟩
 have er:t.pre.reverse.map Lk.D++rest=((csl t).flatMap Lk.pre).reverse.map Lk.D++t.D::rest:=by
  rw [D7,Y7,aat,Y8];rfl
 rw [er,e]
 have ec:=bZ (g:=gN 4) (body:=cg) (x:=t.D) (r:=rest) (G:=A++.lst (B++lD.reverse)::Z') (τ:=[a0,some (.fn "look_parts"),some (.iG "holds_by" caps),some (.obj A.length),b4,b5,b6]) (τ1:=[a0,some (.fn "look_parts"),some (.iG "holds_by" caps),some (.obj A.length),some t.D,b5,b6]) rfl
 rw [ec,e1,iw]
theorem HK {v:Nat} (A:DH) (a0:Option D) (f:Lk→D) (caps:List D) (hcp:caps.length=3) (L6:∀ t:Lk,t.Vo v→∀ G,bN ([t.D,.con ((csl t).map f)]++caps) G=.ok (f t) G):∀ (n:Nat) (t:Lk),t.sz≤n→t.sz≤900→t.Vo v→x6 A a0 caps f t:=by
 intro n
 induction n with
 | zero=>intro t h;have:=DR t;nofun
 | succ n ih=>
  intro t hn hz ho B Z a4 a5 a6 hB
  have hq:=yZ ho
  have WG:B.length≤5000:=by nofun
  have hs:B.length+szl (csl t)≤4000:=by nofun
  have hch:∀ c∈csl t,x6 A a0 caps f c:=λc hc=>by
   have:=y9 hc
   exact ih c (by nofun) (by nofun) (D8 ho c hc)
  obtain ⟨Z',b4,b5,b6,e⟩:=za A a0 caps f (csl t) hch B Z a4 a5 a6 hs
  exact AN A Z' Z a0 caps f t ho B a4 a5 a6 b4 b5 b6 _ (Yh _) hz WG hcp (L6 t ho) e
theorem AO {v:Nat} (f:Lk→D) (hf:∀ t,(f t).closed=true) (k m s:D) (L6:∀ t:Lk,t.Vo v→∀ G,bN ([t.D,.con ((csl t).map f)]++[s,m,k]) G=.ok (f t) G) (l:Lk) (hz:l.sz≤900) (ho:l.Vo v) (G:DH) (hG:G.any (nj "holds_by")=true):iB [l.D,k,m,s] G=.ok (f l) G:=by
 obtain ⟨Z',b4,b5,b6,e⟩:=HK G (some l.D) f [s,m,k] rfl L6 l.sz l (X3 _) hz ho [] [] none none none (by simp;nofun)
 have e2:=e []
 rw [YW,fB] at e2
 have ew:=AM l ho (by nofun) (G++[.lst []])
 have hfr:=λτ G=>Gw (g:=gN 4) (body:=cg) (xs:=l.pre.map Lk.D) (τ:=τ) (G:=G)
 rw [Zx] at e2
 simp only [YX] at e2
 have n0:aI [] G=.ok (.obj G.length) (G++[.lst []]):=by simp [aI]
 have g0:∀ x Y,(G++x::Y)[G.length]?=some x:=λx Y=>nV G x Y
 have hcl:=hf l
 have ef:lX [l.D,.fn "look_parts",.iG "holds_by" [s,m,k]] G=.ok (f l) (G++.lst [f l]::Z'):=by
  unfold lX
  generalize l.pre.map Lk.D=pD at e2 ew hfr
  generalize f l=tD at e2
  generalize l.D=ld at e2 ew
  simp! [pO,n0,ew,hfr,e2,g0,IF]
 unfold iB
 refine gy (R:=.lst [f l]::Z') ?_ hcl
 generalize f l=tD at ef
 generalize l.D=ld at ef
 have eL:Ag "holds_by" [3,2,1] [some ld,some k,some m,some s] G=.ok (.iG "holds_by" [s,m,k]) G:=by
  unfold Ag
  rw [if_pos hG]
  rfl
 have e5:bQ 4 iA [ld,k,m,s] G=.ok tD (G++.lst [tD]::Z'):=by
  simp! [iA,eL,ef]
 show i6 (bQ 4 iA [ld,k,m,s] G)=_
 rw [e5];rfl
noncomputable def nb:List Bool→Nat
 | []=>0
 | b::r=>b.toNat+2*nb r
theorem AQ (a b:Bool) (m n:Nat):(a.toNat+2*m) &&& (b.toNat+2*n)=(a&&b).toNat+2*(m &&& n):=by
 have h1:(a.toNat+2*m) / 2=m:=by cases a<;>simp<;>nofun
 have h2:(b.toNat+2*n) / 2=n:=by cases b<;>simp<;>nofun
 have h3:((a&&b).toNat+2*(m &&& n)) / 2=m &&& n:=by cases a<;>cases b<;>simp<;>nofun
 apply Nat.eq_of_testBit_eq
 intro i
 cases i with
 | zero=>
  rw [ab7,abV,abV,abV]
  cases a<;>cases b<;>simp<;>nofun
 | succ i=>rw [ab7,abW,abW,abW,h1,h2,h3,ab7]
theorem Eb:∀ as bs:List Bool,as.length=bs.length→nb (aaq and as bs)=nb as &&& nb bs
 | [],[],_=>rfl
 | a::as,b::bs,h=>by
  rw [aa6,nb,nb,nb,AQ,Eb as bs (by simpa using h)]
theorem IW:∀ as bs:List Bool,as.length=bs.length→nb (aaq or as bs)+nb (aaq and as bs)=nb as+nb bs
 | [],[],_=>rfl
 | a::as,b::bs,h=>by
  have:=IW as bs (by simpa using h)
  rw [aa6,aa6,nb,nb,nb,nb]
  cases a<;>cases b<;>simp<;>nofun
theorem Ec:∀ (bs:List Bool) (j:Nat) (b:Bool),bs[j]?=some b→nb bs / 2^j % 2=b.toNat
 | c::bs,0,b,h=>by
  simp at h;subst h
  rw [nb];cases c<;>simp<;>nofun
 | c::bs,j+1,b,h=>by
  have:=Ec bs j b (by simpa using h)
  have e:nb (c::bs) / 2=nb bs:=by rw [nb];cases c<;>simp<;>nofun
  rw [Nat.pow_succ,Nat.mul_comm,← Nat.div_div_eq_div_mul,e,this]
theorem Sl (m n:Nat):YO (m:Int) (n:Int)=((m &&& n:Nat):Int):=by
 rfl
theorem Ed (as bs:List Bool) (h:as.length=bs.length):YO (nb as:Int) (nb bs:Int)=(nb (aaq and as bs):Int):=by
 rw [Sl,Eb as bs h]
theorem Sm (as bs:List Bool) (h:as.length=bs.length):YQ (nb as:Int) (nb bs:Int)=(nb (aaq or as bs):Int):=by
 have e1:=PyProof.Rows.bitXor_and (nb as:Int) (nb bs:Int)
 have e2:ZD (nb as:Int) (nb bs:Int)=YQ (nb as:Int) (nb bs:Int) - YO (nb as:Int) (nb bs:Int):=rfl
 have e3:=Ed as bs h
 have:=IW as bs h
 nofun
theorem Ef:∀ (n v:Nat),v<2^n→∃ bs:List Bool,bs.length=n∧nb bs=v
 | 0,v,h=>⟨[],rfl,by simp at h;simp [nb,h]⟩
 | n+1,v,h=>by
  rw [Nat.pow_succ] at h
  obtain ⟨bs,h1,h2⟩:=Ef n (v / 2) (by nofun)
  refine ⟨(v % 2==1)::bs,by simp [h1],?_⟩
  rw [nb,h2]
  rcases (show v % 2=0∨v % 2=1 by nofun) with e | e<;>simp [e]<;>nofun
theorem tX (n:Nat) (hn:n≤1000) (G:DH):jU (.int 1) (.int (n:Int)) G=.ok (.int (2^n)) G:=by
 have z1:((n:Nat):Int)≤1000000:=by nofun
 simp [jU,cH,z1,M.ret]
noncomputable def Ey:D→Str
 | .tup (.str g::_)=>g
 | _=>""
noncomputable def nM (goes:List Str) (d:D):Bool:=goes.any (·==Ey d)
noncomputable def A1 (goes:List Str) (n:Nat) (T:List D):List Int:=((T.mapIdx λi d=>(n+i,d)).filter λp=>nM goes p.2).map λp=>(2:Int)^p.1
theorem zb (goes:List Str):∀ (T:List D) (n:Nat),(A1 goes n T).sum=(2:Int)^n*(nb (T.map (nM goes)):Int)
 | [],n=>by simp [A1,nb]
 | d::T,n=>by
  have ih:=zb goes T (n+1)
  have em:(T.mapIdx λi d=>(n+(i+1),d))=T.mapIdx λi d=>(n+1+i,d):=by
   congr 1;funext i d;rw [Nat.add_assoc,Nat.add_comm 1 i]
  have e:A1 goes n (d::T)=(if nM goes d then [(2:Int)^n] else [])++A1 goes (n+1) T:=by
   unfold A1
   rw [adg,em]
   cases h:nM goes d<;>simp [h]
  rw [e,adl,ih,X8,nb,Int.pow_succ]
  cases nM goes d<;>simp [Int.mul_add,Int.mul_assoc]
theorem tY {d:D} (h:Good d) (G:DH):aU d (.int 0) G=.ok (.str (Ey d)) G∧Gd (Ey d):=by
 obtain ⟨_,g,t,r,rfl,hg⟩:=h
 exact ⟨rfl,hg⟩
theorem tZ (T:List D) (hT:∀ d∈T,Good d) (hz:T.length≤500) (goes:List Str) (hgo:Za (goes.map aaD)=true) (G:DH):cF [.tup T,.tup (goes.map .str)] G=.ok (.int (nb (T.map (nM goes)):Int)) G:=by
 have hc:=dM (gO:=oT 2) (ks:=[false,true]) (tt:=cW (aj (t7 false) (aj aU (af 1) (eC (.int 0))) (af 3))) (te:=aj jU (eC (.int 1)) (af 0)) (own:=λp:Nat×D=>[D.int (p.1:Int),p.2]) (dat:=λp=>D.tup [.int (p.1:Int),p.2]) (f:=λp=>D.int ((2:Int)^p.1)) (c:=λp=>nM goes p.2) (G:=G) (τ:=[some (.tup T),some (.tup (goes.map .str))]) (T.mapIdx λi d=>(0+i,d)) [] (by simp;nofun) (λ_ _=>rfl) (λp hp acc=>by
  obtain ⟨i,hi,e⟩:=adp.mp hp
  obtain ⟨h1,h2⟩:=tY (hT p.2 (by rw [← e];exact Zw hi)) (G++[.lst acc])
  have h3:=ins (Ey p.2) goes (G++[.lst acc]) h2.ok hgo (b:=nM goes p.2) rfl
  show cW (aj (t7 false) (aj aU (af 1) (eC (.int 0))) (af 3)) [some (.int (p.1:Int)),some p.2,none,some (.tup (goes.map .str))] _=_
  rw [yE,f9,R3,h1,aK,ak,T5,aK,h3,aK,sD]) (λp hp acc=>by
  obtain ⟨i,hi,e⟩:=adp.mp hp
  have hl:p.1≤1000:=by rw [← e];show 0+i≤1000;nofun
  show aj jU (eC (.int 1)) (af 0) [some (.int (p.1:Int)),some p.2,none,some (.tup (goes.map .str))] _=_
  rw [f9,jo,aK,ak,PD,aK,tX p.1 hl])
 have em:((T.mapIdx λi d=>(0+i,d)).map λp:Nat×D=>D.tup [.int (p.1:Int),p.2])=T.mapIdx λi x=>D.tup [.int (i:Int),x]:=by
  apply adi
  ·simp
  ·intro i h1 h2;simp
 have LU:(((T.mapIdx λi d=>(0+i,d)).filter λp=>nM goes p.2).map λp:Nat×D=>D.int ((2:Int)^p.1))=(A1 goes 0 T).map .int:=by
  unfold A1;rw [Zl];rfl
 rw [em,LU,YX,← xq] at hc
 have hs:=zb goes T 0
 rw [Int.pow_zero,adj] at hs
 have hcl:aV ((A1 goes 0 T).map D.int)=true:=aB λ_=>aT
 have hi:=gw (A1 goes 0 T)
 rw [← hs]
 unfold cF
 refine aS ?_ aT
 have eI:eN (aa (af 0) (ah)) [some (.tup T),some (.tup (goes.map .str))] G=.ok (T.length+1,jT T) G:=rfl
 have eC:eFn (fk (oT 2) [false,true] (eN (aa (af 0) (ah))) (cW (aj (t7 false) (aj aU (af 1) (eC (.int 0))) (af 3))) (aj jU (eC (.int 1)) (af 0))) [some (.tup T),some (.tup (goes.map .str))] G=.ok (.con ((A1 goes 0 T).map .int)) G:=by
  rw [aN,uO,eI,aK,hc]
  exact jq hcl
 have eS:iP [.con ((A1 goes 0 T).map D.int)] G=.ok (.int (A1 goes 0 T).sum) G:=by simp [iP,aD,hi]
 rw [dm]
 show (gX [some (.tup T),some (.tup (goes.map .str))] G).fn=_
 unfold gX
 rw [jS,cX,aZ,eC,aK,ak,bP,aK,di,aK,eS]
 rfl
theorem HL (sb:List Bool) (j:Nat) (b:Bool) (h:sb[j]?=some b) (G:DH):ki [.int (j:Int),.int (nb sb:Int)] G=.ok (.bl b) G:=by
 have e1:GL (.int (nb sb:Int)) (.int (j:Int)) G=.ok (.int ((nb sb / 2^j:Nat):Int)) G:=by
  simp [GL,cH,M.ret]
 have e2:sP (.int ((nb sb / 2^j:Nat):Int)) (.int 1) G=.ok (.int (b.toNat:Int)) G:=by
  rw [xX,PyProof.Rows.bitAnd_m1,← Ec sb j b h];rfl
 have e3:gj false (.int (b.toNat:Int)) (.int 1) G=.ok (.bl b) G:=by rw [aP];cases b<;>rfl
 generalize ((nb sb / 2^j:Nat):Int)=v at e1 e2
 unfold ki
 refine aS ?_ rfl
 rw [dm]
 show (kh [some (.int (j:Int)),some (.int (nb sb:Int))] G).fn=_
 unfold kh
 rw [jS,f9,f9,TV,PD,aK,e1,aK,ak,jo,aK,e2,aK,ak,jo,aK,e3]
 rfl
theorem Eg {ma:DS→M D} {τ:DS} {G:DH}:FE ma τ G=(ma τ G).bd λd=>match d with
 | .bl b=>M.ret (.bl (!b))
 | _=>M.stop:=ak
noncomputable def Lk.ev (k:Str) (m:Bool) (sb:List Bool):Lk→Bool
 | .one b=>!b||m
 | .kind s=>k==s
 | .nU j=>sb.getD j false
 | .not l=>!(l.ev k m sb)
 | .bin e l r=>if e then l.ev k m sb||r.ev k m sb else l.ev k m sb&&r.ev k m sb
 | .way _=>true
theorem Eh (k:Str) (hk:X4 k=true) (m:Bool) (sb:List Bool) (t:Lk) (ho:t.Vo sb.length) (G:DH):jw [t.D,.con ((csl t).map λc=>.bl (c.ev k m sb)),.str k,.bl m,.int (nb sb:Int)] G=.ok (.bl (t.ev k m sb)) G:=by
 unfold jw
 refine aS ?_ rfl
 have go:∀ (s:Str) (b:Bool) (c:Str),X4 s=true→X4 c=true→(s==c)=b→gj false (.str s) (.str c) G=.ok (.bl b) G:=λs b c h1 h2 h3=>eqs s c G h1 h2 h3
 have nY:X4 ("mark":Str)=true:=by symm
 have zc:X4 ("both":Str)=true:=by symm
 have rP:X4 ("either":Str)=true:=by symm
 cases t with
 | one b=>
  have e1:=go (kB b) false "kind" (fm b) cY (by cases b<;>symm)
  have e2:=go (kB b) b "mark" (fm b) nY (by cases b<;>symm)
  have e3:=go (kB b) false "from" (fm b) cU (by cases b<;>symm)
  have e4:=go (kB b) false "not" (fm b) cy (by cases b<;>symm)
  have e5:=go (kB b) false "both" (fm b) zc (by cases b<;>symm)
  have e6:=go (kB b) false "either" (fm b) rP (by cases b<;>symm)
  rw [Lk.ev]
  generalize (nb sb:Int)=v
  cases b<;>simp! [dO,Lk.D,csl,IF,e1,e2,e3,e4,e5,e6,sY]
 | kind s=>
  have hs:X4 s=true:=ho
  have e1:=go "kind" true "kind" cY cY (by symm)
  have e2:=go k _ s hk hs rfl
  rw [Lk.ev]
  generalize (nb sb:Int)=v
  generalize (k==s)=bb at e2
  simp! [dO,Lk.D,csl,yS,Eu,e1,e2]
 | nU j=>
  have hj:j<sb.length:=ho
  have e1:=go "from" false "kind" cU cY (by symm)
  have e2:=go "from" false "mark" cU nY (by symm)
  have e3:=go "from" true "from" cU cU (by symm)
  have e4:=HL sb j sb[j] (XZ hj) G
  have e5:Lk.ev k m sb (.nU j)=sb[j]:=by simp [Lk.ev,acv,hj]
  rw [e5]
  generalize (nb sb:Int)=v at e4
  generalize sb[j]=bb at e4
  simp! [dO,Lk.D,csl,yS,Eu,e1,e2,e3,e4]
 | not l=>
  have e1:=go "not" false "kind" cy cY (by symm)
  have e2:=go "not" false "mark" cy nY (by symm)
  have e3:=go "not" false "from" cy cU (by symm)
  have e4:=go "not" true "not" cy cy (by symm)
  rw [Lk.ev]
  generalize (nb sb:Int)=v
  show bQ 5 dO [_,.con [.bl (l.ev k m sb)],_,_,_] G=_
  generalize l.ev k m sb=bb
  generalize l.D=ld
  rw [Lk.D]
  simp! [dO,yS,IF,e1,e2,e3,e4,Eg]
 | bin e l r=>
  have e1:=go (iE e) false "kind" (cZ e) cY (by cases e<;>symm)
  have e2:=go (iE e) false "mark" (cZ e) nY (by cases e<;>symm)
  have e3:=go (iE e) false "from" (cZ e) cU (by cases e<;>symm)
  have e4:=go (iE e) false "not" (cZ e) cy (by cases e<;>symm)
  have e5:=go (iE e) (!e) "both" (cZ e) zc (by cases e<;>symm)
  have e6:=go (iE e) e "either" (cZ e) rP (by cases e<;>symm)
  rw [Lk.ev]
  generalize (nb sb:Int)=v
  show bQ 5 dO [_,.con [.bl (l.ev k m sb),.bl (r.ev k m sb)],_,_,_] G=_
  generalize l.ev k m sb=bb
  generalize r.ev k m sb=bc
  rw [Lk.D]
  generalize l.D=ld
  generalize r.D=rd
  cases e<;>cases bb<;>simp! [dO,Mr,yS,Eu,e1,e2,e3,e4,e5,e6,Lr,Of]
 | way w=>exact ho.elim
theorem x8 (A B:DH) (c:Str) (fs:List (Str×D)):kG (A++.ins c fs::B) c (.obj A.length)=some fs:=by
 unfold kG
 dsimp only
 rw [nV]
 exact if_pos rfl
theorem lZ {A B B':DH} {c f:Str} {v:D} {fs fs':List (Str×D)} (hfs:fs.length<1000) {mv mo:DS→M D} {τ:DS} (h1:mv τ (A++.ins c fs::B)=.ok v (A++.ins c fs::B')) (h2:mo τ (A++.ins c fs::B')=.ok (.obj A.length) (A++.ins c fs::B')) (h3:nt f v fs=fs'):jW c f mv mo τ (A++.ins c fs::B)=.nx τ (A++.ins c fs'::B'):=by
 have e:yO c f v (.obj A.length) (A++.ins c fs::B')=.ok .cz (A++.ins c fs'::B'):=by
  unfold yO
  rw [x8]
  dsimp only
  rw [if_pos hfs,yC,h3]
 unfold jW bE
 rw [ak,h1,aK,ak,h2,aK,e]
theorem zd (A B:DH) (c f:Str) (fs:List (Str×D)) (v:D) (h:fs.lookup f=some v) (τ:DS):vt c f (af 0) (some (.obj A.length)::τ) (A++.ins c fs::B)=.ok v (A++.ins c fs::B):=by
 unfold vt
 rw [ak,PD,aK,x8]
 dsimp only
 rw [h]
noncomputable abbrev fields (t a b c h:D):List (Str×D):=[("rows",t),("into",a),("across",b),("through",c),("hits",h)]
theorem HM (T:List D) (hT:∀ d∈T,Good d) (hz:T.length≤500) (G:DH):∃ c:D,cu [.obj G.length,.tup T] (G++[.ins "MaskBook" []])=.ok .cz (G++[.ins "MaskBook" (fields (.tup T) (.int (nb (T.map (nM ["down","deep"])):Int)) (.int (nb (T.map (nM ["later"])):Int)) c (.obj (G.length+1))),.dct []]):=by
 have b1:=λG=>tZ T hT hz ["down","deep"] (by symm) G
 have b2:=λG=>tZ T hT hz ["later"] (by symm) G
 have b3:=λG=>tZ T hT hz ["deep"] (by symm) G
 simp only [X8,Yl] at b1 b2 b3
 generalize (nb (T.map (nM ["down","deep"])):Int)=i1 at b1
 generalize (nb (T.map (nM ["later"])):Int)=i2 at b2
 generalize (nb (T.map (nM ["deep"])):Int)=i3 at b3
 refine ⟨.int i3,?_⟩
 have z1:(1:Nat)≤XT:=lz (by nofun)
 have z2:(2:Nat)≤XT:=lz (by nofun)
 rw [show cu [.obj G.length,.tup T]=bQ 2 dR [.obj G.length,.tup T] from rfl,dm]
 show (dR [some (.obj G.length),some (.tup T)] _).fn=_
 have S1:=lZ (A:=G) (B:=[]) (B':=[]) (c:="MaskBook") (f:="rows") (v:=.tup T) (fs:=[]) (fs':=[("rows",.tup T)]) (by simp) (mv:=af 1) (mo:=af 0) (τ:=[some (.obj G.length),some (.tup T)]) rfl rfl rfl
 have S2:=lZ (A:=G) (B:=[]) (B':=[]) (c:="MaskBook") (f:="into") (v:=.int i1) (fs:=[("rows",.tup T)]) (fs':=[("rows",.tup T),("into",.int i1)]) (by simp) (mv:=aA 2 cF (aa (af 1) (aa (ai aY (aa (eC (.str "down")) (aa (eC (.str "deep")) (ah)))) (ah)))) (mo:=af 0) (τ:=[some (.obj G.length),some (.tup T)]) (by simp! [z2,b1]) rfl rfl
 have S3:=lZ (A:=G) (B:=[]) (B':=[]) (c:="MaskBook") (f:="across") (v:=.int i2) (fs:=[("rows",.tup T),("into",.int i1)]) (fs':=[("rows",.tup T),("into",.int i1),("across",.int i2)]) (by simp) (mv:=aA 2 cF (aa (af 1) (aa (ai aY (aa (eC (.str "later")) (ah))) (ah)))) (mo:=af 0) (τ:=[some (.obj G.length),some (.tup T)]) (by simp! [z1,b2]) rfl rfl
 have S4:=lZ (A:=G) (B:=[]) (B':=[]) (c:="MaskBook") (f:="through") (v:=.int i3) (fs:=[("rows",.tup T),("into",.int i1),("across",.int i2)]) (fs':=[("rows",.tup T),("into",.int i1),("across",.int i2),("through",.int i3)]) (by simp) (mv:=aA 2 cF (aa (af 1) (aa (ai aY (aa (eC (.str "deep")) (ah))) (ah)))) (mo:=af 0) (τ:=[some (.obj G.length),some (.tup T)]) (by simp! [z1,b3]) rfl rfl
 have S5:=lZ (A:=G) (B:=[]) (B':=[.dct []]) (c:="MaskBook") (f:="hits") (v:=.obj (G.length+1)) (fs:=[("rows",.tup T),("into",.int i1),("across",.int i2),("through",.int i3)]) (fs':=fields (.tup T) (.int i1) (.int i2) (.int i3) (.obj (G.length+1))) (by simp) (mv:=uX) (mo:=af 0) (τ:=[some (.obj G.length),some (.tup T)]) (by simp [uX]) rfl rfl
 unfold dR
 rw [bu,S1,cI,bu,S2,cI,bu,S3,cI,bu,S4,cI,S5]
 rfl
theorem Sn (i j:Int) (G:DH):LA (.int i) (.int j) G=.ok (.int (YQ i j)) G:=rfl
theorem AR (G B:DH) (t c h:D) (a b x y:Int):ck [.obj G.length,.int x,.int y] (G++.ins "MaskBook" (fields t (.int a) (.int b) c h)::B)=.ok (.int (YQ (YO x a) (YO y b))) (G++.ins "MaskBook" (fields t (.int a) (.int b) c h)::B):=by
 have f1:=zd G B "MaskBook" "into" (fields t (.int a) (.int b) c h) (.int a) rfl [some (.int x),some (.int y)]
 have f2:=zd G B "MaskBook" "across" (fields t (.int a) (.int b) c h) (.int b) rfl [some (.int x),some (.int y)]
 generalize fields t (.int a) (.int b) c h=fs at f1 f2
 rw [show ck [.obj G.length,.int x,.int y]=bQ 3 dQ [.obj G.length,.int x,.int y] from rfl,dm]
 show (dQ [some (.obj G.length),some (.int x),some (.int y)] _).fn=_
 unfold dQ
 rw [jS,f9,TV,f1,aK,xX,aK,ak,VW,f2,aK,xX,aK,Sn]
 rfl
noncomputable def dD (T:List D) (bb be:List Bool):List Bool:=aaq or (aaq and bb (T.map (nM ["down","deep"]))) (aaq and be (T.map (nM ["later"])))
theorem HN (T:List D) (hT:∀ d∈T,Good d) (hz:T.length≤500) (k:Str) (hk:X4 k=true) (m:Bool) (bb be:List Bool) (h1:bb.length=T.length) (h2:be.length=T.length) (l:Lk) (hl:l.Vo T.length) (hs:l.sz≤900) (G:DH) (hG:G.any (nj "holds_by")=true):tS [.tup T,l.D,.str k,.bl m,.int (nb bb:Int),.int (nb be:Int)] G=.ok (.bl (l.ev k m (dD T bb be))) G:=by
 have hsl:(dD T bb be).length=T.length:=by simp [dD,h1,h2]
 obtain ⟨c,e1⟩:=HM T hT hz G
 obtain ⟨h,hh⟩:∃ h:D,h=.obj (G.length+1):=⟨_,rfl⟩
 rw [← hh] at e1
 have e2:=AR G [.dct []] (.tup T) c h (nb (T.map (nM ["down","deep"])):Int) (nb (T.map (nM ["later"])):Int) (nb bb:Int) (nb be:Int)
 rw [Ed _ _ (by simp [h1]),Ed _ _ (by simp [h2]),Sm _ _ (by simp [h1,h2])] at e2
 have e3:=AO (v:=T.length) (λt=>.bl (t.ev k m (dD T bb be))) (λ_=>rfl) (.str k) (.bl m) (.int (nb (dD T bb be):Int)) (λt ht G=>by
  have e:=Eh k hk m (dD T bb be) t (by rw [hsl];exact ht) G
  generalize (csl t).map (λc=>D.bl (c.ev k m (dD T bb be)))=ps at e
  generalize D.bl (t.ev k m (dD T bb be))=res at e
  generalize (nb (dD T bb be):Int)=sv at e
  generalize t.D=td at e
  show i6 (Ac 5 dB [td,.con ps,.int sv,.bl m,.str k] G)=_
  have e2:Ac 5 dB [td,.con ps,.int sv,.bl m,.str k] G=.ok res G:=by
   show dB [some td,some (.con ps),some (.int sv),some (.bl m),some (.str k)] G=_
   unfold dB
   simp only [eX,T7,T6,T3,R0,TX,bP,aK,di,Ym,Zc,if_true,e]
  rw [e2];rfl) l hs hl (G++.ins "MaskBook" (fields (.tup T) (.int (nb (T.map (nM ["down","deep"])):Int)) (.int (nb (T.map (nM ["later"])):Int)) c h)::[.dct []]) (by rw [List.any_append,hG];rfl)
 change iB _ (G++.ins "MaskBook" _::[.dct []])=.ok (.bl (l.ev k m (dD T bb be))) _ at e3
 change ck _ _=.ok (.int (nb (dD T bb be):Int)) _ at e2
 generalize l.ev k m (dD T bb be)=res at e3
 generalize (nb (dD T bb be):Int)=sv at e2 e3
 generalize (nb (T.map (nM ["down","deep"])):Int)=i1 at e1 e2 e3
 generalize (nb (T.map (nM ["later"])):Int)=i2 at e1 e2 e3
 generalize (nb bb:Int)=v1 at e2
 generalize (nb be:Int)=v2 at e2
 have hno:(fields (.tup T) (.int i1) (.int i2) c h).lookup ("seen":Str)=none:=rfl
 generalize fields (.tup T) (.int i1) (.int i2) c h=fs at e1 e2 e3 hno
 generalize l.D=ld at e3
 unfold tS
 refine gy (R:=.ins "MaskBook" fs::[.dct []]) ?_ rfl
 have eM:nu "MaskBook" 2 cu (aa (af 0) (ah)) [some (.tup T),some ld,some (.str k),some (.bl m),some (.int v1),some (.int v2)] G=.ok (.obj G.length) (G++.ins "MaskBook" fs::[.dct []]):=by
  unfold nu
  rw [ak,R0,bP,aK,di,aK,if_pos (show [D.tup T].length+1=2 from rfl),e1]
 have eS:jX "MaskBook" "seen" 3 ck (nu "MaskBook" 2 cu (aa (af 0) (ah))) (aa (af 4) (aa (af 5) (ah))) [some (.tup T),some ld,some (.str k),some (.bl m),some (.int v1),some (.int v2)] G=.ok (.int sv) (G++.ins "MaskBook" fs::[.dct []]):=by
  unfold jX
  rw [ak,eM,aK,x8]
  dsimp only
  rw [if_pos hno,ak,T7,T8,bP,aK,di,aK,di,aK,if_pos (show [D.int v1,.int v2].length+1=3 from rfl),e2]
  rfl
 generalize hS:jX "MaskBook" "seen" 3 ck (nu "MaskBook" 2 cu (aa (af 0) (ah))) (aa (af 4) (aa (af 5) (ah)))=S at eS
 rw [dm]
 show (tR [some (.tup T),some ld,some (.str k),some (.bl m),some (.int v1),some (.int v2)] G).fn=_
 unfold tR
 rw [hS]
 have eA:aa (af 1) (aa (af 2) (aa (af 3) (aa S (ah)))) [some (.tup T),some ld,some (.str k),some (.bl m),some (.int v1),some (.int v2)] G=.ok [ld,.str k,.bl m,.int sv] (G++.ins "MaskBook" fs::[.dct []]):=by
  rw [TX,T3,T6,aZ,eS];rfl
 rw [jS,eX,eA,aK,if_pos (show [ld,D.str k,.bl m,.int sv].length=4 from rfl),e3]
 rfl
structure Qu where
 l:Lk
 b:Bool
 s:Int
 d:Int
noncomputable def Qu.D (q:Qu):L3.D:=.tup [q.l.D,.bl q.b,.int q.s,.int q.d]
noncomputable def Qu.Ok (k:Str) (m:Bool) (sb:List Bool) (q:Qu):Prop:=q.l.Vo sb.length∧(q.l.sz:Int)≤q.s∧q.b=q.l.ev k m sb∧q.s≤40∧q.d≤12
theorem x9 (q:Qu):q.D.closed=true:=by simp [Qu.D,D.closed,aG,aL,lB]
theorem Ei (q:Qu) (G:DH):(aI [q.D] G).fw G=.ok (.con [q.D]) G:=bK (lz (n:=1) (by nofun)) (by simp [aG,aL,x9])
theorem ya (k:Str) (m:Bool) (sb:List Bool) (c:Int) (A B:DH) (gI:List Qu) (q1:Qu) (hq:∀ q∈gI++[q1],q.Ok k m sb) (hz:gI.length≤1000):∃ rs:List Qu,rs.length≤1∧(∀ q∈rs,q.Ok k m sb) ∧
  cG [.obj A.length,.int c] (A++.lst ((gI++[q1]).map Qu.D)::B)=.ok (.con (rs.map Qu.D)) (A++.lst ((gI++[q1]).map Qu.D)::B):=by
 have hm:=cQ c 11 (by nofun) (by nofun)
 have hn1:=ny c 11
 generalize mx c 11=v at hm hn1
 have OF:=hq q1 (by simp)
 have g0:∀ x Y,(A++x::Y)[A.length]?=some x:=λx Y=>nV A x Y
 have z2:(2:Nat)≤XT:=lz (by nofun)
 have z3:(3:Nat)≤XT:=lz (by nofun)
 have z4:(4:Nat)≤XT:=lz (by nofun)
 have em:(gI++[q1]).map Qu.D=gI.map Qu.D++[.tup [q1.l.D,.bl q1.b,.int q1.s,.int q1.d]]:=by simp [Qu.D]
 have hat:=OQ (gI.map Qu.D) (.tup [q1.l.D,.bl q1.b,.int q1.s,.int q1.d])
 obtain ⟨w1,w2,w3,w4,w5⟩:=OF
 have hlen:((gI++[q1]).map Qu.D).length=gI.length+1:=by simp
 have Mt:gI.length+1≤XT:=lz (by nofun)
 rw [← em] at hat
 by_cases hA:v % 6=0∧q1.d<12∧q1.s<40
 ·obtain ⟨h1,h2,h3⟩:=hA
  refine ⟨[⟨.not q1.l,!q1.b,q1.s+1,q1.d+1⟩],by simp,λq h=>?_,?_⟩
  ·rw [Yk.mp h]
   refine ⟨w1,?_,?_,?_,?_⟩
   ·show ((Lk.not q1.l).sz:Int)≤q1.s+1;rw [Lk.sz];nofun
   ·show (!q1.b)=(Lk.not q1.l).ev k m sb;rw [Lk.ev,w3]
   ·show q1.s+1≤40;nofun
   ·show q1.d+1≤12;nofun
  have f:=λG=>Ei ⟨.not q1.l,!q1.b,q1.s+1,q1.d+1⟩ G
  have eD:(Qu.mk (.not q1.l) (!q1.b) (q1.s+1) (q1.d+1)).D=.tup [.tup [.str "not",q1.l.D],.bl (!q1.b),.int (q1.s+1),.int (q1.d+1)]:=by simp [Qu.D,Lk.D]
  unfold cG
  refine aS ?_ (by rw [bL];exact aB x9)
  rw [X8,Yl]
  rw [eD] at f ⊢
  generalize (gI++[q1]).map Qu.D=xs at hat hlen
  generalize q1.l.D=ld at f hat
  simp! [bM,hm,h1,g0,P4,hat,aP,xV,AZ,v7,xW,h2,h3,Eg,z2,z4,aN,f]
 ·have DU:∀ S:MS,(az (aF 2 (aj cL (aA 2 ay (aa (af 1) (aa (eC (.int 11)) (ah)))) (eC (.int 6)))) (az (aF 3 (aj aU (af 0) (mE (eC (.int 1))))) S)) [some (.obj A.length),some (.int c),none,none,none,none,none] (A++.lst ((gI++[q1]).map Qu.D)::B)=S [some (.obj A.length),some (.int c),some (.int (v % 6)),some (.tup [q1.l.D,.bl q1.b,.int q1.s,.int q1.d]),none,none,none] (A++.lst ((gI++[q1]).map Qu.D)::B):=by
   intro S
   generalize (gI++[q1]).map Qu.D=xs at hat hlen
   generalize q1.l.D=ld at hat
   simp! [hm,g0,P4,hat]
  have SA:(dY (cW (aj (gj false) (af 2) (eC (.int 0)))) (dY (cW (aj pV (aj aU (af 3) (eC (.int 3))) (eC (.int 12)))) (cW (aj pV (aj aU (af 3) (eC (.int 2))) (eC (.int 40)))))) [some (.obj A.length),some (.int c),some (.int (v % 6)),some (.tup [q1.l.D,.bl q1.b,.int q1.s,.int q1.d]),none,none,none] (A++.lst ((gI++[q1]).map Qu.D)::B)=.ok false (A++.lst ((gI++[q1]).map Qu.D)::B):=by
   generalize (gI++[q1]).map Qu.D=xs at hat hlen
   generalize q1.l.D=ld at hat
   by_cases h1:v % 6=0
   ·by_cases h2:q1.d<12
    ·have h3:¬ q1.s<40:=λh3=>hA ⟨h1,h2,h3⟩
     simp! [h1,aP,v7,xW,h2,h3]
    ·simp! [h1,aP,v7,xW,h2]
   ·have hb:(v % 6==(0:Int))=false:=beq_eq_false_iff_ne.mpr h1
    simp! [aP,hb]
  by_cases hB:v % 6<3∧1≤gI.length
  ·obtain ⟨pS,q2,rfl⟩:∃ (pS:List Qu) (q2:Qu),gI=pS++[q2]:=⟨gI.dropLast,gI.getLast (by intro h;rw [h] at hB;simp at hB),(abi _).symm⟩
   have ho2:=hq q2 (by simp)
   obtain ⟨u1,u2,u3,u4,u5⟩:=ho2
   have LU:(pS++[q2]++[q1]).map Qu.D=pS.map Qu.D++[.tup [q2.l.D,.bl q2.b,.int q2.s,.int q2.d],.tup [q1.l.D,.bl q1.b,.int q1.s,.int q1.d]]:=by simp [Qu.D]
   have fO:=OR (pS.map Qu.D) (.tup [q2.l.D,.bl q2.b,.int q2.s,.int q2.d]) (.tup [q1.l.D,.bl q1.b,.int q1.s,.int q1.d])
   rw [← LU] at fO
   have Hx:=hB.1
   obtain ⟨n,vO,hl1⟩:∃ n:Nat,((pS++[q2]++[q1]).map Qu.D).length=n∧(1:Int)<(n:Int):=⟨_,rfl,by simp;nofun⟩
   obtain ⟨me,hp1,hp2,Hy⟩:∃ me:Int,q1.d≤me∧q2.d≤me∧(if q1.d<q2.d then q2.d else q1.d)=me:=⟨_,by split<;>nofun,by split<;>nofun,rfl⟩
   have hok:∀ (e:Bool) (b:Bool),b=(Lk.bin e q2.l q1.l).ev k m sb→q1.s+q2.s+1<41→me+1<13→(Qu.mk (.bin e q2.l q1.l) b (q1.s+q2.s+1) (me+1)).Ok k m sb:=λe b hb k1 k2=>by
    refine ⟨⟨u1,w1⟩,?_,hb,?_,?_⟩
    ·show ((Lk.bin e q2.l q1.l).sz:Int)≤q1.s+q2.s+1;rw [Lk.sz];nofun
    ·show q1.s+q2.s+1≤40;nofun
    ·show me+1≤12;nofun
   have hD:∀ (e:Bool) (b:Bool),(Qu.mk (.bin e q2.l q1.l) b (q1.s+q2.s+1) (me+1)).D=.tup [.tup [.str (iE e),q2.l.D,q1.l.D],.bl b,.int (q1.s+q2.s+1),.int (me+1)]:=λe b=>by simp [Qu.D,Lk.D]
   have bF:iE false="both":=rfl
   have bT:iE true="either":=rfl
   have Hz:n≤XT:=lz (by simp at vO hz;nofun)
   by_cases hC:q1.s+q2.s+1<41∧me+1<13
   ·obtain ⟨k1,k2⟩:=hC
    by_cases hv1:v % 6=1
    ·refine ⟨[⟨.bin false q2.l q1.l,q2.b&&q1.b,q1.s+q2.s+1,me+1⟩],by simp,λq h=>by rw [Yk.mp h];exact hok _ _ (by rw [Lk.ev,u3,w3];rfl) k1 k2,?_⟩
     have f:=λG=>Ei ⟨.bin false q2.l q1.l,q2.b&&q1.b,q1.s+q2.s+1,me+1⟩ G
     unfold cG
     refine aS ?_ (by rw [bL];exact aB x9)
     rw [dm]
     show (bM [some (.obj A.length),some (.int c),none,none,none,none,none] _).fn=_
     unfold bM
     rw [DU,bu,jF,SA,oV,f7,cI,X8,Yl]
     rw [hD,bF] at f ⊢
     generalize (pS++[q2]++[q1]).map Qu.D=xs at fO vO
     generalize q1.l.D=l1 at f fO
     generalize q2.l.D=l2 at f fO
     generalize q2.b=b2 at f fO
     cases b2<;>simp only [Bool.false_and,acB] at f ⊢<;>simp! [dS,g0,vO,Hz,Hx,hl1,IK,fO,xV,AZ,v7,xW,Hy,k1,k2,hv1,aP,z3,z4,aN,f]
    ·refine ⟨[⟨.bin true q2.l q1.l,q2.b||q1.b,q1.s+q2.s+1,me+1⟩],by simp,λq h=>by rw [Yk.mp h];exact hok _ _ (by rw [Lk.ev,u3,w3];rfl) k1 k2,?_⟩
     have f:=λG=>Ei ⟨.bin true q2.l q1.l,q2.b||q1.b,q1.s+q2.s+1,me+1⟩ G
     have LV:(v % 6==(1:Int))=false:=beq_eq_false_iff_ne.mpr hv1
     unfold cG
     refine aS ?_ (by rw [bL];exact aB x9)
     rw [dm]
     show (bM [some (.obj A.length),some (.int c),none,none,none,none,none] _).fn=_
     unfold bM
     rw [DU,bu,jF,SA,oV,f7,cI,X8,Yl]
     rw [hD,bT] at f ⊢
     generalize (pS++[q2]++[q1]).map Qu.D=xs at fO vO
     generalize q1.l.D=l1 at f fO
     generalize q2.l.D=l2 at f fO
     generalize q2.b=b2 at f fO
     cases b2<;>simp only [Bool.false_or,Bool.true_or] at f ⊢<;>simp! [dS,g0,vO,Hz,Hx,hl1,IK,fO,xV,AZ,v7,xW,Hy,k1,k2,LV,aP,z3,z4,aN,f]
   ·refine ⟨[],by simp,λq h=>by simp at h,?_⟩
    unfold cG
    refine aS ?_ rfl
    rw [dm]
    show (bM [some (.obj A.length),some (.int c),none,none,none,none,none] _).fn=_
    unfold bM
    rw [DU,bu,jF,SA,oV,f7,cI,Yl]
    generalize (pS++[q2]++[q1]).map Qu.D=xs at fO vO
    generalize q1.l.D=l1 at fO
    generalize q2.l.D=l2 at fO
    by_cases k1:q1.s+q2.s+1<41
    ·have k2:¬ me+1<13:=λk2=>hC ⟨k1,k2⟩
     simp! [dS,g0,vO,Hz,Hx,hl1,IK,fO,xV,AZ,v7,xW,Hy,k1,k2,aP,aN,iF]
    ·simp! [dS,g0,vO,Hz,Hx,hl1,IK,fO,xV,AZ,v7,xW,Hy,k1,aP,aN,iF]
  ·refine ⟨[],by simp,λq h=>by simp at h,?_⟩
   unfold cG
   refine aS ?_ rfl
   rw [dm]
   show (bM [some (.obj A.length),some (.int c),none,none,none,none,none] _).fn=_
   unfold bM
   rw [DU,bu,jF,SA,oV,f7,cI,Yl]
   generalize (gI++[q1]).map Qu.D=xs at hlen
   generalize q1.l.D=l1
   by_cases k1:v % 6<3
   ·have k2:¬ (1:Int)<(gI.length:Int)+1:=λk2=>hB ⟨k1,by nofun⟩
    simp! [g0,hlen,Mt,k1,k2,aN,iF]
   ·simp! [k1,aN,iF]
theorem L7 (T:List D) (hT:∀ d∈T,Good d) (bb be:List Bool) (h1:bb.length=T.length) (h2:be.length=T.length) (j:Nat) (hj:j<T.length) (k:Str) (m:Bool):∃ b:Bool,(if (Ey T[j]=="later")=true then be else bb)[j]?=some b∧Lk.ev k m (dD T bb be) (.nU j)=b:=by
 have hg:=(tY (hT T[j] (Zw hj)) []).2
 have e1:∀ goes,nM goes T[j]=goes.any (·==Ey T[j]):=λ_=>rfl
 have hb:j<bb.length:=by nofun
 have hb':j<be.length:=by nofun
 have e:Lk.ev k m (dD T bb be) (.nU j)=(bb[j]&&nM ["down","deep"] T[j]||be[j]&&nM ["later"] T[j]):=by
  simp [Lk.ev,dD,acv,hj,hb,hb',h1,h2]
 rw [e,e1,e1]
 generalize Ey T[j]=g at hg
 rcases hg with rfl | rfl | rfl
 ·rw [show (("down":Str)=="later")=false by symm,show (["down","deep"]:List Str).any (·==("down":Str))=true by symm,show (["later"]:List Str).any (·==("down":Str))=false by symm]
  exact ⟨bb[j],by simp [hb],by simp⟩
 ·rw [show (("deep":Str)=="later")=false by symm,show (["down","deep"]:List Str).any (·==("deep":Str))=true by symm,show (["later"]:List Str).any (·==("deep":Str))=false by symm]
  exact ⟨bb[j],by simp [hb],by simp⟩
 ·rw [show (("later":Str)=="later")=true by symm,show (["down","deep"]:List Str).any (·==("later":Str))=false by symm,show (["later"]:List Str).any (·==("later":Str))=true by symm]
  exact ⟨be[j],by simp [hb'],by simp⟩
theorem L8 (c:Int) (ws:List Str) (h5:ws.length=5) (hw:∀ s∈ws,X4 s=true) (T:List D) (hT:∀ d∈T,Good d) (hz:T.length≤60) (k:Str) (hk:X4 k=true) (m:Bool) (bb be:List Bool) (h1:bb.length=T.length) (h2:be.length=T.length) (G:DH):∃ q:Qu,q.Ok k m (dD T bb be)∧gr [.int c,.con (ws.map .str),.con T,.tup [.str k,.bl m,.int (nb bb:Int),.int (nb be:Int)]] G=.ok q.D G:=by
 have hm:=cQ c 21 (by nofun) (by nofun)
 have hm2:=cQ c 22 (by nofun) (by nofun)
 have So:=cQ c 23 (by nofun) (by nofun)
 have hn1:=ny c 21
 have hn2:=ny c 22
 generalize mx c 21=v at hm hn1
 generalize mx c 22=u at hm2 hn2
 generalize mx c 23=w at So
 have z1:(1:Nat)≤XT:=lz (by nofun)
 have z2:(2:Nat)≤XT:=lz (by nofun)
 have z4:(4:Nat)≤XT:=lz (by nofun)
 have hsl:(dD T bb be).length=T.length:=by simp [dD,h1,h2]
 have S1:∀ S:MS,(az (CJ (Od 4 5 6 7) (af 3)) (az (aF 8 (aj cL (aA 2 ay (aa (af 0) (aa (eC (.int 21)) (ah)))) (eC (.int 6)))) S)) [some (.int c),some (.con (ws.map .str)),some (.con T),some (.tup [.str k,.bl m,.int (nb bb:Int),.int (nb be:Int)]),none,none,none,none,none,none,none,none] G=S [some (.int c),some (.con (ws.map .str)),some (.con T),some (.tup [.str k,.bl m,.int (nb bb:Int),.int (nb be:Int)]),some (.str k),some (.bl m),some (.int (nb bb:Int)),some (.int (nb be:Int)),some (.int (v % 6)),none,none,none] G:=by
  intro S
  have e:(CJ (Od 4 5 6 7) (af 3)) [some (.int c),some (.con (ws.map .str)),some (.con T),some (.tup [.str k,.bl m,.int (nb bb:Int),.int (nb be:Int)]),none,none,none,none,none,none,none,none] G=.nx [some (.int c),some (.con (ws.map .str)),some (.con T),some (.tup [.str k,.bl m,.int (nb bb:Int),.int (nb be:Int)]),some (.str k),some (.bl m),some (.int (nb bb:Int)),some (.int (nb be:Int)),none,none,none,none] G:=rfl
  rw [bu,e,cI]
  generalize ws.map D.str=wD
  generalize (nb bb:Int)=i1
  generalize (nb be:Int)=i2
  simp! [hm]
 have rn:∀ q:Qu,(fL [some (.int c),some (.con (ws.map .str)),some (.con T),some (.tup [.str k,.bl m,.int (nb bb:Int),.int (nb be:Int)]),none,none,none,none,none,none,none,none] G).fn=.ok q.D G→gr [.int c,.con (ws.map .str),.con T,.tup [.str k,.bl m,.int (nb bb:Int),.int (nb be:Int)]] G=.ok q.D G:=λq e=>by
  unfold gr
  exact aS (by rw [dm];exact e) (x9 q)
 by_cases c0:v % 6=0
 ·refine ⟨⟨.one false,true,1,1⟩,⟨trivial,by simp [Lk.sz],by rfl,by show (1:Int)≤40;nofun,by show (1:Int)≤12;nofun⟩,rn _ ?_⟩
  rw [show (Qu.mk (.one false) true 1 1).D=.tup [.tup [.str "any"],.bl true,.int 1,.int 1] from rfl,fL,S1]
  generalize ws.map D.str=wD
  generalize (nb bb:Int)=i1
  generalize (nb be:Int)=i2
  simp! [c0,aP,z1,z4]
 have n0:(v % 6==(0:Int))=false:=beq_eq_false_iff_ne.mpr c0
 by_cases c1:v % 6=1
 ·refine ⟨⟨.one true,m,1,1⟩,⟨trivial,by simp [Lk.sz],by simp [Lk.ev],by show (1:Int)≤40;nofun,by show (1:Int)≤12;nofun⟩,rn _ ?_⟩
  rw [show (Qu.mk (.one true) m 1 1).D=.tup [.tup [.str "mark"],.bl m,.int 1,.int 1] from rfl,fL,S1]
  generalize ws.map D.str=wD
  generalize (nb bb:Int)=i1
  generalize (nb be:Int)=i2
  have WH:((1:Int)==0)=false:=by decide
  simp! [c1,aP,WH,z1,z4]
 have n1:(v % 6==(1:Int))=false:=beq_eq_false_iff_ne.mpr c1
 have Ma:T.length≤XT:=lz (by nofun)
 by_cases c4:v % 6<4∧0<T.length
 ·obtain ⟨c4,Uj⟩:=c4
  have Sq:(0:Int)<(T.length:Int):=by nofun
  obtain ⟨j,hj,ej⟩:∃ j:Nat,j<T.length∧u % (T.length:Int)=(j:Int):=by
   have a1:=aaP u (by nofun:(T.length:Int)≠0)
   have a2:=aaT u Sq
   exact ⟨(u % (T.length:Int)).toNat,by nofun,by nofun⟩
  obtain ⟨b,hb1,hb2⟩:=L7 T hT bb be h1 h2 j hj k m
  refine ⟨⟨.nU j,b,1,1⟩,⟨by rw [hsl];exact hj,by simp [Lk.sz],hb2.symm,by show (1:Int)≤40;nofun,by show (1:Int)≤12;nofun⟩,rn _ ?_⟩
  obtain ⟨gd,hgd⟩:=tY (hT T[j] (Zw hj)) G
  have hat:iV T (j:Int)=some T[j]:=j3 (XZ hj)
  have el:=eqs (Ey T[j]) "later" G hgd.ok (by symm) rfl
  generalize (Ey T[j]=="later")=lt at el hb1
  have hi:∀ G,iY [.bl lt] G=.ok (.int (if lt=true then (1:Int) else 0)) G:=λG=>rfl
  have hf:∀ G,(aI [.int (nb bb:Int),.int (nb be:Int)] G).fw G=.ok (.con [.int (nb bb:Int),.int (nb be:Int)]) G:=λG=>bK (lz (n:=2) (by nofun)) rfl
  have hp:iV [D.int (nb bb:Int),.int (nb be:Int)] (if lt=true then (1:Int) else 0)=some (.int (nb (if lt=true then be else bb):Int)):=by cases lt<;>rfl
  have hn:=Ec _ j b hb1
  generalize nb (if lt=true then be else bb)=sel at hp hn
  generalize (if lt=true then (1:Int) else 0)=li at hi hp
  have hsh:=tX j (by nofun) G
  have hp2:(0:Int)<2^j∧(2:Int)^j<18446744073709551616:=by
   have:(2:Nat)^j<2^64:=Nat.pow_lt_pow_right (by nofun) (by nofun)
   have h0:0<2^j:=adq j
   have e:((2^j:Nat):Int)=(2:Int)^j:=by simp
   nofun
  have O3:lq (.int (sel:Int)) (.int (2^j)) G=.ok (.int ((sel / 2^j:Nat):Int)) G:=by
   have e:((sel / 2^j:Nat):Int)=(sel:Int) / 2^j:=by simp
   rw [e]
   simp [lq,cH,hp2,M.ret]
  have hmd:cL (.int ((sel / 2^j:Nat):Int)) (.int 2) G=.ok (.int (b.toNat:Int)) G:=by
   rw [← hn];rfl
  have heq:gj false (.int (b.toNat:Int)) (.int 1) G=.ok (.bl b) G:=by rw [aP];cases b<;>rfl
  rw [show (Qu.mk (.nU j) b 1 1).D=.tup [.tup [.str "from",.int (j:Int)],.bl b,.int 1,.int 1] from rfl,fL,S1]
  have hr:∀ a8,eO [some (.int c),some (.con (ws.map .str)),some (.con T),some (.tup [.str k,.bl m,.int (nb bb:Int),.int (nb be:Int)]),some (.str k),some (.bl m),some (.int (nb bb:Int)),some (.int (nb be:Int)),a8,none,none,none] G=.rt (.tup [.tup [.str "from",.int (j:Int)],.bl b,.int 1,.int 1]) G:=by
   intro a8
   have et:aU (.con T) (.int (j:Int)) G=.ok T[j] G:=by simp [aU,aD,hat]
   have ep:aU (.con [.int (nb bb:Int),.int (nb be:Int)]) (.int li) G=.ok (.int (sel:Int)) G:=by simp [aU,aD,hp]
   have eu:cL (.int u) (.int (T.length:Int)) G=.ok (.int (j:Int)) G:=by rw [← ej];simp [cL,cH,Uj,M.ret]
   have ln:bY [.con T] G=.ok (.int (T.length:Int)) G:=by simp [bY,aD,Ma]
   have t2:∀ x,aY [.str "from",x] G=.ok (.tup [.str "from",x]) G:=λx=>by simp [aY,z2]
   have t4:∀ w x y z,aY [w,x,y,z] G=.ok (.tup [w,x,y,z]) G:=λw x y z=>by simp [aY,z4]
   generalize T[j]=d at gd et el
   generalize Ey d=g at gd el
   generalize ((2:Int)^j)=pj at hsh O3
   generalize ((sel / 2^j:Nat):Int)=sd at O3 hmd
   generalize (j:Int)=jj at et eu hsh t2 ⊢
   generalize ws.map D.str=wD
   generalize (nb bb:Int)=i1 at hf ep
   generalize (nb be:Int)=i2 at hf ep
   unfold eO
   simp only [bu,jR,jS,f9,cX,aN,eX,aZ,bP,jo,cP,Yv,Ys,aK,ak,di,Ym,Zc,if_true,hm2,ln,eu,nh,cI,YS,YT,hf,et,gd,el,hi,ep,hsh,O3,hmd,heq,t2,t4,Cu]
  have hc4:(gJ (dY (cW (aj pV (af 8) (eC (.int 4)))) (cW (aj oB (ai bY (aa (af 2) (ah))) (eC (.int 0))))) (eO) (bf)) [some (.int c),some (.con (ws.map .str)),some (.con T),some (.tup [.str k,.bl m,.int (nb bb:Int),.int (nb be:Int)]),some (.str k),some (.bl m),some (.int (nb bb:Int)),some (.int (nb be:Int)),some (.int (v % 6)),none,none,none] G=.rt (.tup [.tup [.str "from",.int (j:Int)],.bl b,.int 1,.int 1]) G:=by
   have hr:=hr (some (.int (v % 6)))
   generalize eO=I at hr
   generalize ws.map D.str=wD at hr
   generalize (nb bb:Int)=i1 at hr
   generalize (nb be:Int)=i2 at hr
   simp! [c4,Ma,Uj,hr]
  generalize gJ (dY (cW (aj pV (af 8) (eC (.int 4)))) (cW (aj oB (ai bY (aa (af 2) (ah))) (eC (.int 0))))) (eO) (bf)=I at hc4
  generalize ws.map D.str=wD at hc4
  generalize (nb bb:Int)=i1 at hc4
  generalize (nb be:Int)=i2 at hc4
  simp! [aP,n0,n1,hc4]
 ·have hu:0≤w % 5∧w % 5<5:=by nofun
  obtain ⟨x,hx,DT⟩:=iZ (xs:=ws.map D.str) hu.1 (by simp [h5];nofun)
  rw [Yq] at DT
  cases hg:ws[(w % 5).toNat]? with
  | none=>rw [hg] at DT;cases DT
  | some s=>
   rw [hg] at DT;cases DT
   have hs:=hw s (Yy hg)
   have e2:=eqs s k G hs hk (b:=k==s) BEq.comm
   refine ⟨⟨.kind s,k==s,1,1⟩,⟨hs,by simp [Lk.sz],rfl,by show (1:Int)≤40;nofun,by show (1:Int)≤12;nofun⟩,rn _ ?_⟩
   rw [show (Qu.mk (.kind s) (k==s) 1 1).D=.tup [.tup [.str "kind",.str s],.bl (k==s),.int 1,.int 1] from rfl,fL,S1]
   generalize (k==s)=bo at e2
   generalize ws.map D.str=wD at hx
   generalize (nb bb:Int)=i1
   generalize (nb be:Int)=i2
   by_cases c5:v % 6<4
   ·have h0:¬ 0<T.length:=λh=>c4 ⟨c5,h⟩
    simp! [aP,n0,n1,c5,Ma,h0,So,hx,e2,z2,z4]
   ·simp! [aP,n0,n1,c5,So,hx,e2,z2,z4]
theorem vW (c:Int) (t:Nat) (ht:t≤1) (n:Nat) (hn:n≤60):∃ v:Nat,v<2^n∧∀ G,dG [.int c,.int (t:Int),.int (n:Int)] G=.ok (.int (v:Int)) G:=by
 have hp:(0:Int)<2^n:=by
  have e:((2^n:Nat):Int)=(2:Int)^n:=by simp
  have:=adq n
  nofun
 have Mv:∀ x:Int,∃ v:Nat,v<2^n∧(v:Int)=x % 2^n:=λx=>by
  have e:((2^n:Nat):Int)=(2:Int)^n:=by simp
  have h1:=aaP x (by nofun:(2:Int)^n≠0)
  have h2:=aaT x hp
  exact ⟨(x % 2^n).toNat,by nofun,by nofun⟩
 have hsh:=tX n (by nofun)
 have hmd:∀ (x:Int) (G:DH),cL (.int x) (.int (2^n)) G=.ok (.int (x % 2^n)) G:=λx G=>by simp [cL,cH,hp,M.ret]
 generalize (2:Int)^n=pn at hsh hmd Mv hp
 unfold dG
 by_cases hc:(1000000000:Int)≤c
 ·obtain ⟨x,Sf,PU,hx⟩:∃ x:Int,0<x∧x<18446744073709551616∧iV [D.int 1,.int 1099511627776] (t:Int)=some (.int x):=by
   rcases (show t=0∨t=1 by nofun) with rfl | rfl
   ·exact ⟨1,by nofun,by nofun,rfl⟩
   ·exact ⟨1099511627776,by nofun,by nofun,rfl⟩
  obtain ⟨v,h1,h2⟩:=Mv (c / x)
  refine ⟨v,h1,λG=>aS ?_ aT⟩
  rw [h2]
  have hf:(aI [.int 1,.int 1099511627776] G).fw G=.ok (.con [.int 1,.int 1099511627776]) G:=bK (lz (n:=2) (by nofun)) rfl
  have WI:oA (.int 2) (.int 40) G=.ok (.int 1099511627776) G:=rfl
  have h9:oA (.int 10) (.int 9) G=.ok (.int 1000000000) G:=rfl
  have hge:Fo (.int c) (.int 1000000000) G=.ok (.bl true) G:=by simp [Fo,cH,M.ret,hc]
  have hix:aU (.con [.int 1,.int 1099511627776]) (.int (t:Int)) G=.ok (.int x) G:=by simp [aU,aD,hx]
  have O3:lq (.int c) (.int x) G=.ok (.int (c / x)) G:=by simp [lq,cH,Sf,PU,M.ret]
  rw [dm]
  show (fS [some (.int c),some (.int (t:Int)),some (.int (n:Int))] G).fn=_
  unfold fS
  simp only [bu,jF,f7,jS,yE,f9,cX,aN,eX,aZ,bP,jo,cP,Yv,Ys,aK,ak,di,Ym,Zc,if_true,sD,cI,uN,Cu,Ik,h9,hge,Ld,WI,hf,hix,O3,hsh,hmd]
 ·have hm1:=cQ c (26+(t:Int)) (by nofun) (by nofun)
  have hm2:=cQ c (28+(t:Int)) (by nofun) (by nofun)
  obtain ⟨v,h1,h2⟩:=Mv (mx c (26+(t:Int))*268435456+mx c (28+(t:Int)))
  refine ⟨v,h1,λG=>aS ?_ aT⟩
  rw [h2]
  have h9:oA (.int 10) (.int 9) G=.ok (.int 1000000000) G:=rfl
  have WJ:oA (.int 2) (.int 28) G=.ok (.int 268435456) G:=rfl
  have hge:Fo (.int c) (.int 1000000000) G=.ok (.bl false) G:=by simp [Fo,cH,M.ret,hc]
  have ha:∀ x y:Int,aJ (.int x) (.int y) G=.ok (.int (x+y)) G:=λx y=>rfl
  have hml:∀ x:Int,nE (.int x) (.int 268435456) G=.ok (.int (x*268435456)) G:=λx=>by simp [nE,cH,M.ret]
  generalize mx c (26+(t:Int))=y1 at hm1
  generalize mx c (28+(t:Int))=y2 at hm2
  rw [dm]
  show (fS [some (.int c),some (.int (t:Int)),some (.int (n:Int))] G).fn=_
  unfold fS
  simp only [bu,jF,f7,jS,yE,f9,cX,aN,eX,aZ,bP,jo,cP,Yv,Ys,aK,ak,di,Ym,Zc,if_true,sD,cI,uN,Cu,Ik,h9,WJ,hge,oV,ha,hm1,hm2,hml,hsh,hmd]
theorem ze {n:Nat}:∀ (l:Lk),l.Vo n→l.D.plain=true
 | .one m,_=>by simp [Lk.D,D.plain,dX,fm]
 | .kind nm,h=>by have h:X4 nm=true:=h;simp [Lk.D,D.plain,dX,cY,h]
 | .nU j,_=>by simp [Lk.D,D.plain,dX,cU]
 | .not l,h=>by simp [Lk.D,D.plain,dX,cy,ze l h]
 | .bin e l r,h=>by simp [Lk.D,D.plain,dX,cZ,ze l h.1,ze r h.2]
 | .way w,h=>h.elim
theorem zf {n:Nat}:∀ (l:Lk),l.Vo n→l.D.dp≤4*l.sz
 | .one m,_=>by simp [Lk.D,D.dp,v5,Lk.sz]
 | .kind nm,_=>by simp [Lk.D,D.dp,v5,Lk.sz]
 | .nU j,_=>by simp [Lk.D,D.dp,v5,Lk.sz]
 | .not l,h=>by have:=zf l h;simp only [Lk.D,D.dp,v5,Lk.sz];nofun
 | .bin e l r,h=>by have:=zf l h.1;have:=zf r h.2;simp only [Lk.D,D.dp,v5,Lk.sz];nofun
 | .way w,h=>h.elim
theorem HP {k:Str} {m:Bool} {sb:List Bool} {q:Qu} (h:q.Ok k m sb) (G:DH):gj false (.con [q.D]) (.con []) G=.ok (.bl false) G:=by
 have hp:q.D.plain=true:=by simp [Qu.D,D.plain,dX,ze q.l h.1]
 have hd:q.D.dp≤500:=by
  have:=zf q.l h.1
  have h2:=h.2.1
  have h4:=h.2.2.2.1
  simp only [Qu.D,D.dp,v5]
  nofun
 generalize q.D=x at hp hd
 have p1:(D.con [x]).plain=true:=by simp [D.plain,dX,hp]
 have p2:(D.con []).plain=true:=by simp [D.plain,dX]
 have d1:(D.con [x]).dp≤510:=by simp only [D.dp,v5];nofun
 have d2:(D.con []).dp≤510:=by simp [D.dp,v5]
 have h1:=CH (D.con [x])
 unfold gj wN
 rw [sI G (.con [x]) deep p1 (by show (D.con [x]).dp<600;nofun),sI G (.con []) deep p2 (by show (D.con []).dp<600;nofun)]
 dsimp only
 rw [if_pos (by rw [lay_of _ p1,lay_of _ p2];simp;nofun)]
 rfl
theorem Ej (G:DH):gj false (.con []) (.con []) G=.ok (.bl true) G:=u9 false (.con []) G (by simp [D.plain,dX]) (by simp [D.dp,v5])
noncomputable def gi (k:Str) (m:Bool) (bb be:List Bool):D:=.tup [.str k,.bl m,.int (nb bb:Int),.int (nb be:Int)]
theorem Ek (k:Str) (m:Bool) (sb:List Bool) (A:DH) (qs:List Qu) (hq:∀ q∈qs,q.Ok k m sb) (hz:qs.length≤900) (c:Int) (a0 a1 a2 a3 a4 a5 a6 a7 pT nX lC:Option D):∃ rs:List Qu,rs.length≤1∧(∀ q∈rs,q.Ok k m sb) ∧
  (az (aF 10 (eFn (ai aI (ah)))) (gJ (cW (aj oB (ai bY (aa (af 8) (ah))) (eC (.int 0)))) (aF 10 (aA 2 cG (aa (af 8) (aa (af 9) (ah))))) (bf))) [a0,a1,a2,a3,a4,a5,a6,a7,some (.obj A.length),some (.int c),pT,nX,lC] (A++[.lst (qs.map Qu.D)])=.nx [a0,a1,a2,a3,a4,a5,a6,a7,some (.obj A.length),some (.int c),some (.con (rs.map Qu.D)),nX,lC] (A++[.lst (qs.map Qu.D)]):=by
 have g0:∀ x:DO,(A++[x])[A.length]?=some x:=λx=>nV A x []
 have tV:(qs.map Qu.D).length≤XT:=lz (by rw [Yh];nofun)
 rcases ack qs with rfl | ⟨gI,q1,Mu⟩
 ·refine ⟨[],by simp,by simp,?_⟩
  rw [Yl]
  simp! [aN,iF,g0]
 ·have vP:qs=gI++[q1]:=by rw [Mu];simp
  obtain ⟨rs,l1,o1,e1⟩:=ya k m sb c A [] gI q1 (by rw [← vP];exact hq) (by rw [vP] at hz;simp at hz;nofun)
  rw [← vP] at e1
  refine ⟨rs,l1,o1,?_⟩
  have hpos:0<(qs.map Qu.D).length:=by rw [vP];simp
  generalize qs.map Qu.D=xs at e1 tV hpos
  generalize rs.map Qu.D=rD at e1
  simp! [aN,iF,g0,tV,hpos,e1]
theorem O4 (ws:List Str) (h5:ws.length=5) (hw:∀ s∈ws,X4 s=true) (T:List D) (hT:∀ d∈T,Good d) (hz:T.length≤60) (k:Str) (hk:X4 k=true) (m:Bool) (bb be:List Bool) (h1:bb.length=T.length) (h2:be.length=T.length) (A:DH) (qs:List Qu) (hq:∀ q∈qs,q.Ok k m (dD T bb be)) (tV:qs.length≤900) (c:Int) (a0 a2 a3 a5 a7 pT nX lC:Option D):∃ (vQ:List Qu) (W:DH) (A0:Option D),vQ.length≤qs.length+1∧(∀ q∈vQ,q.Ok k m (dD T bb be)) ∧
  mT [a0,some (.con (ws.map .str)),a2,a3,some (.con T),a5,some (gi k m bb be),a7,some (.obj A.length),some (.int c),pT,nX,lC] (A++[.lst (qs.map Qu.D)])=.nx [a0,some (.con (ws.map .str)),a2,a3,some (.con T),a5,some (gi k m bb be),a7,some (.obj (A++W).length),some (.int c),A0,nX,lC] ((A++W)++[.lst (vQ.map Qu.D)]):=by
 obtain ⟨rs,l1,o1,e1⟩:=Ek k m (dD T bb be) A qs hq tV c a0 (some (.con (ws.map .str))) a2 a3 (some (.con T)) a5 (some (gi k m bb be)) a7 pT nX lC
 have g0:∀ x:DO,(A++[x])[A.length]?=some x:=λx=>nV A x []
 have s0:∀ x z:DO,(A++[x]).set A.length z=A++[z]:=λx z=>yC A x z []
 have Ew:(qs.map Qu.D).length<XT:=X7 (by rw [Yh];nofun) (lz (n:=1000) (by nofun))
 have eL:∀ (S0 S1 S2:MS) (τ:DS) (G:DH),az S0 (az S1 S2) τ G=az (az S0 S1) S2 τ G:=λS0 S1 S2 τ G=>by
  simp only [bu]
  cases S0 τ G<;>simp only [cI,uN,Cp,Cq,Cr,Ct,bu]
 match rs,l1,o1,e1 with
 | [],_,_,e1=>
  obtain ⟨q,OY,eq⟩:=L8 c ws h5 hw T hT hz k hk m bb be h1 h2 (A++[.lst (qs.map Qu.D)])
  refine ⟨qs++[q],[],some (.con []),by simp,λx hx=>?_,?_⟩
  ·rcases Zr.mp hx with h | h
   ·exact hq x h
   ·rw [Yk.mp h];exact OY
  rw [mT,eL,bu,e1,cI,YW,Yl]
  have em:(qs++[q]).map Qu.D=qs.map Qu.D++[q.D]:=by simp
  rw [em]
  change gr [.int c,.con (ws.map .str),.con T,gi k m bb be] _=_ at eq
  have p9:∀ (τ:DS) (G:DH),τ[4]?=some (some (.con T))→sE (af 4) τ G=.ok (.con T) G:=λτ G h=>by
   unfold sE
   rw [cP,h]
  have p9:=p9 [a0,some (.con (ws.map .str)),a2,a3,some (.con T),a5,some (gi k m bb be),a7,some (.obj A.length),some (.int c),some (.con []),nX,lC] (A++[.lst (qs.map Qu.D)]) rfl
  generalize sE (af 4)=Z at p9
  generalize gi k m bb be=cd at eq p9
  generalize qs.map Qu.D=xs at eq Ew p9
  generalize q.D=qD at eq
  generalize ws.map D.str=wD at eq p9
  simp! [aN,iF,Ej,g0,s0,Ew,p9,eq]
 | [q],_,o1,e1=>
  obtain ⟨xl,s,hl1,hl2,hl3⟩:=IS q.l
  have OY:=o1 q (by simp)
  have hq2:=λG=>eqs s "not" G hl3 cy (b:=s=="not") rfl
  generalize (s==("not":Str))=Ss at hq2
  have hi:∀ G,iY [.bl Ss] G=.ok (.int (if Ss=true then (1:Int) else 0)) G:=λG=>rfl
  generalize (if Ss=true then (1:Int) else 0)=ib at hi
  obtain ⟨ys,c1,c2,c3⟩:=yY Qu.D qs none (some (((qs.map Qu.D).length:Int) - 2+ib))
  refine ⟨ys++[q],[.lst (qs.map Qu.D)],some (.con [q.D]),by simp;nofun,λx hx=>?_,?_⟩
  ·rcases Zr.mp hx with h | h
   ·exact hq x (c2 x h)
   ·exact o1 x h
  rw [mT,eL,bu,e1,cI,X8,Yl]
  have em:(ys++[q]).map Qu.D=ys.map Qu.D++[q.D]:=by simp
  have f:∀ G,(aI (ys.map Qu.D) G).fw G=.ok (.con (ys.map Qu.D)) G:=λG=>bK (lz (by rw [Yh];nofun)) (aB x9)
  have OZ:(ys.map Qu.D).length+1≤XT:=lz (by rw [Yh];nofun)
  have O5:(qs.map Qu.D).length≤XT:=aaZ Ew
  have eq1:=λG=>HP OY G
  have eQ:q.D=.tup [.tup xl,.bl q.b,.int q.s,.int q.d]:=by rw [Qu.D,hl1]
  rw [em]
  rw [eQ] at eq1 ⊢
  generalize qs.map Qu.D=xs at c1 O5
  generalize ys.map Qu.D=yD at c1 f OZ
  generalize ws.map D.str=wD
  generalize gi k m bb be=cd
  have n2:∀ qD,aI (yD++[qD]) (A++[.lst xs])=.ok (.obj (A.length+1)) (A++[.lst xs,.lst (yD++[qD])]):=λqD=>by simp [aI,OZ]
  have ec:(cW (aj (gj false) (af 10) (eFn (ai aI (ah))))) [a0,some (.con wD),a2,a3,some (.con T),a5,some cd,a7,some (.obj A.length),some (.int c),some (.con [.tup [.tup xl,.bl q.b,.int q.s,.int q.d]]),nX,lC] (A++[.lst xs])=.ok false (A++[.lst xs]):=by
   simp! [aN,iF,eq1]
  rw [jF,ec,oV]
  simp! [g0,O5,aN,IF,xV,hl2,hq2,hi,wO,c1,f,kr,n2]
 | _::_::_,l1,_,_=>simp at l1
theorem IX (ws:List Str) (h5:ws.length=5) (hw:∀ s∈ws,X4 s=true) (T:List D) (hT:∀ d∈T,Good d) (hz:T.length≤60) (k:Str) (hk:X4 k=true) (m:Bool) (bb be:List Bool) (h1:bb.length=T.length) (h2:be.length=T.length) (G:DH) (a0 a2 a3 a5 a7 nX lC:Option D):∀ (cs:List Int) (Z:DH) (qs:List Qu) (a9 pT:Option D),(∀ q∈qs,q.Ok k m (dD T bb be))→qs.length+cs.length≤300→∃ (vQ:List Qu) (Z':DH) (b9 A0:Option D),vQ.length≤300∧(∀ q∈vQ,q.Ok k m (dD T bb be)) ∧
  bU (gN 9) mT (cs.map .int) [a0,some (.con (ws.map .str)),a2,a3,some (.con T),a5,some (gi k m bb be),a7,some (.obj (G++Z).length),a9,pT,nX,lC] ((G++Z)++[.lst (qs.map Qu.D)])=.nx [a0,some (.con (ws.map .str)),a2,a3,some (.con T),a5,some (gi k m bb be),a7,some (.obj (G++Z').length),b9,A0,nX,lC] ((G++Z')++[.lst (vQ.map Qu.D)])
 | [],Z,qs,a9,pT,hq,hl=>⟨qs,Z,a9,pT,by nofun,hq,by rw [Yl];exact fB⟩
 | c::cs,Z,qs,a9,pT,hq,hl=>by
  simp only [Ym] at hl
  obtain ⟨pS,W,A0,l1,o1,e1⟩:=O4 ws h5 hw T hT hz k hk m bb be h1 h2 (G++Z) qs hq (by nofun) c a0 a2 a3 a5 a7 pT nX lC
  obtain ⟨Sg,Z',d9,WK,l2,o2,e2⟩:=IX ws h5 hw T hT hz k hk m bb be h1 h2 G a0 a2 a3 a5 a7 nX lC cs (Z++W) pS (some (.int c)) A0 o1 (by nofun)
  refine ⟨Sg,Z',d9,WK,l2,o2,?_⟩
  rw [X8,bZ (τ1:=[a0,some (.con (ws.map .str)),a2,a3,some (.con T),a5,some (gi k m bb be),a7,some (.obj (G++Z).length),some (.int c),pT,nX,lC]) rfl,e1,iw]
  rw [← Y8] at e2
  exact e2
theorem IY (T:List D) (hT:∀ d∈T,Good d) (hz:T.length≤60) (k:Str) (hk:X4 k=true) (m:Bool) (bb be:List Bool) (h1:bb.length=T.length) (h2:be.length=T.length) (G:DH) (hG:G.any (nj "holds_by")=true) (a0 a1 a2 a3 a5 a7 a8 a9 pT:Option D):∀ (qs:List Qu) (nX lC:Option D),(∀ q∈qs,q.Ok k m (dD T bb be))→∃ IP IQ,
  bU (gN 11) mU (qs.map Qu.D) [a0,a1,a2,a3,some (.con T),a5,some (gi k m bb be),a7,a8,a9,pT,nX,lC] G=.nx [a0,a1,a2,a3,some (.con T),a5,some (gi k m bb be),a7,a8,a9,pT,IP,IQ] G
 | [],nX,lC,_=>⟨nX,lC,by rw [Yl];exact fB⟩
 | q::qs,nX,lC,hq=>by
  obtain ⟨IP,IQ,e⟩:=IY T hT hz k hk m bb be h1 h2 G hG a0 a1 a2 a3 a5 a7 a8 a9 pT qs (some q.D) (some (.bl q.b)) λx hx=>hq x (by simp [hx])
  obtain ⟨w1,w2,w3,w4,w5⟩:=hq q (by simp)
  have hsl:(dD T bb be).length=T.length:=by simp [dD,h1,h2]
  have es:=HN T hT (by nofun) k hk m bb be h1 h2 q.l (by rw [← hsl];exact w1) (by nofun) G hG
  rw [← w3] at es
  refine ⟨IP,IQ,?_⟩
  have eQ:q.D=.tup [q.l.D,.bl q.b,.int q.s,.int q.d]:=rfl
  have Ma:T.length≤XT:=lz (by nofun)
  have ee:gj true (.bl q.b) (.bl q.b) G=.ok (.bl false) G:=by
   have:=u9 true (.bl q.b) G rfl (by simp [D.dp])
   rw [this];rfl
  have e1:mU [a0,a1,a2,a3,some (.con T),a5,some (gi k m bb be),a7,a8,a9,pT,some q.D,lC] G=.nx [a0,a1,a2,a3,some (.con T),a5,some (gi k m bb be),a7,a8,a9,pT,some q.D,some (.bl q.b)] G:=by
   rw [eQ,gi]
   generalize q.l.D=ld at es
   generalize q.b=b at es ee
   generalize (nb bb:Int)=i1 at es
   generalize (nb be:Int)=i2 at es
   simp! [mU,oQ,Ma,xV,AZ,v7,xW,es,ee]
  rw [X8,bZ (τ1:=[a0,a1,a2,a3,some (.con T),a5,some (gi k m bb be),a7,a8,a9,pT,some q.D,lC]) rfl,e1,iw,e]
theorem HQ (m:DS→M D) (hm:∀ τ G,m τ G=.ok (.con [.int 0]) G) (τ:DS) (G:DH):q8 [("down",m),("deep",m),("later",m)] τ G=.ok (.obj G.length) (G++[.dct aR]):=by
 have e1:nk [("down",m),("deep",m),("later",m)] τ (G++[.dct []])=.ok aR (G++[.dct []]):=by
  simp only [nk,M.bind,M.ret,hm,aR]
 have g0:=nV G (.dct []) []
 have s0:=λz=>yC G (.dct []) z []
 have hl:aR.length≤15:=by decide
 have hmg:sR aR=aR:=by rfl
 unfold q8
 rw [e1]
 dsimp only
 rw [g0]
 dsimp only
 rw [if_pos hl,s0,hmg]
theorem O6 (τ:DS) (G:DH):eFn (ai aI (aa (eC (.int 0)) (ah))) τ G=.ok (.con [.int 0]) G:=by
 have f:(aI [.int 0] G).fw G=.ok (.con [.int 0]) G:=bK (lz (n:=1) (by nofun)) rfl
 rw [aN]
 simp! [f]
theorem vX (ns:List Int) (hl:ns.length≤63) (lo hi:Int):∃ c:Int,∀ (i:Nat) (τ:DS) (G:DH),τ[i]?=some (some (.con (ns.map .int)))→ai iP (aa (eFn (l6 (af i) (bR (eC (.int lo))) (bR (eC (.int hi))))) (ah)) τ G=.ok (.int c) G:=by
 obtain ⟨ys,h1,_,h3⟩:=yY D.int ns (some lo) (some hi)
 refine ⟨ys.sum,λi τ G ht=>?_⟩
 have eV:af i τ G=.ok (.con (ns.map .int)) G:=by rw [cP,ht]
 have f:(aI (ys.map D.int) G).fw G=.ok (.con (ys.map .int)) G:=bK (lz (by rw [Yh];nofun)) (aB λ_=>aT)
 have hs:=gw ys
 generalize ns.map D.int=nD at eV h1
 generalize ys.map D.int=yD at h1 f hs
 have e1:l6 (af i) (bR (eC (.int lo))) (bR (eC (.int hi))) τ G=aI yD G:=by
  generalize af i=V at eV
  simp! [eV,wO,h1]
 rw [cX,aZ,aN,e1,f]
 simp [iP,aD,hs,bP,di,ak,aK]
theorem HR (ns:List Int) (hl:ns.length≤63) (T:List D) (hz:T.length≤60):∃ v w:Nat,v<2^T.length∧w<2^T.length∧∀ (a1 a2 a3:Option D) (τ:DS) (G:DH),eFn (dh eF oN [true,false,false,false,true] (aa (eC (.int 2)) (ah)) (dW) (aA 3 dG (aa (ai iP (aa (eFn (l6 (af 1) (bR (eC (.int 3))) (bR (eC (.int 4))))) (ah))) (aa (af 0) (aa (ai bY (aa (af 5) (ah))) (ah)))))) (some (.con (ns.map .int))::a1::a2::a3::some (.con T)::τ) G=.ok (.con [.int (v:Int),.int (w:Int)]) G:=by
 obtain ⟨c,hc⟩:=vX ns hl 3 4
 obtain ⟨v,hv,e0⟩:=vW c 0 (by nofun) T.length hz
 obtain ⟨w,hw,e1⟩:=vW c 1 (by nofun) T.length hz
 refine ⟨v,w,hv,hw,λa1 a2 a3 τ G=>?_⟩
 have hr:=iL (j:=2) (by nofun) (by nofun)
 rw [show (2:Int).toNat=2 from rfl] at hr
 have Ma:T.length≤XT:=lz (by nofun)
 generalize ns.map D.int=nD at hc
 have hcp:=dM (gO:=oN) (ks:=[true,false,false,false,true]) (tt:=dW) (te:=aA 3 dG (aa (ai iP (aa (eFn (l6 (af 1) (bR (eC (.int 3))) (bR (eC (.int 4))))) (ah))) (aa (af 0) (aa (ai bY (aa (af 5) (ah))) (ah))))) (own:=λj:Nat=>[D.int (0+(j:Int))]) (dat:=λj=>D.int (0+(j:Int))) (f:=λj=>D.int ((if j=0 then v else w:Nat):Int)) (c:=λ_=>true) (G:=G) (τ:=some (.con nD)::a1::a2::a3::some (.con T)::τ) (YL 0 2) [] (by simp) (λ_ _=>rfl) (λ_ _ _=>rfl) (λj hj acc=>by
  show aA 3 dG _ (some (.int (0+(j:Int)))::some (.con nD)::none::none::none::some (.con T)::mask [] τ) (G++[.lst acc])=_
  have hs:=hc 1 (some (.int (0+(j:Int)))::some (.con nD)::none::none::none::some (.con T)::mask [] τ) (G++[.lst acc]) rfl
  generalize mask [] τ=r at hs
  have ln:bY [.con T] (G++[.lst acc])=.ok (.int (T.length:Int)) (G++[.lst acc]):=by simp [bY,aD,Ma]
  have eb:dG [.int c,.int (0+(j:Int)),.int (T.length:Int)] (G++[.lst acc])=.ok (.int ((if j=0 then v else w:Nat):Int)) (G++[.lst acc]):=by
   have hj2:j<2:=by simpa using hj
   rcases (show j=0∨j=1 by nofun) with rfl | rfl
   ·exact e0 _
   ·exact e1 _
  generalize ai iP (aa (eFn (l6 (af 1) (bR (eC (.int 3))) (bR (eC (.int 4))))) (ah))=S at hs
  generalize (0+(j:Int))=jj at hs eb
  simp only [eX,aZ,hs,cP,Yv,Ys,cX,bP,aK,ak,di,ln,Ym,Zc,if_true,eb])
 rw [YX,aaL.mpr (λ_ _=>rfl)] at hcp
 have hcl:aV [D.int (v:Int),.int (w:Int)]=true:=rfl
 rw [aN,← jq hcl]
 change cM _ _ _ _ _ _ _ _=Out.ok (.obj G.length) (G++[.lst [.int (v:Int),.int (w:Int)]]) at hcp
 rw [← hcp]
 simp only [oW,aZ,bP,jo,aK,ak,di,hr]
theorem El (ns:List Int) (hl:ns.length≤63):∃ G,DK [.con (ns.map .int)] [.tab "holds_by"]=.ok (.bl true) G:=by
 refine ⟨[.tab "holds_by"],?_⟩
 generalize hA:([.tab "holds_by"]:DH)=A
 have hG:∀ X:DH,(A++X).any (nj "holds_by")=true:=λX=>by rw [← hA];rfl
 obtain ⟨c,e1⟩:=DL ns [none,none,none,none,none,none,none,none,none,none,none,none] A
 obtain ⟨ws,h5,hw,e2⟩:=DQ c A
 obtain ⟨xs,x1,x2,e3⟩:=vM ns hl 0 (by nofun) (A++[.dct aR])
 obtain ⟨ys,y1,y2,e4⟩:=vM ns hl 1 (by nofun) ((A++[.dct aR,.dead])++[.lst []])
 obtain ⟨w0,wr,hws⟩:∃ w0 wr,ws=w0::wr:=by
  cases ws with
  | nil=>simp at h5
  | cons a b=>exact ⟨a,b,rfl⟩
 have hw0:w0∈ws:=by rw [hws];simp
 have hr:(A++[DO.dct aR])[A.length]?=some (.dct aR):=nV A _ []
 obtain ⟨qs,q0,q1,qo,e5⟩:=HC xs (by nofun) (by nofun) ws h5 (λs hs=>(hw s hs).1) w0 (hw w0 hw0).1 A.length (A++[.dct aR]) hr
 have hat:iV (ws.map D.str) 0=some (.str w0):=by rw [hws];exact j3 (j:=0) (show ((w0::wr).map D.str)[0]?=some (.str w0) from rfl)
 have fr:∀ G,(aI [.tup [.int 0,.str w0]] G).fw G=.ok (.con [.tup [.int 0,.str w0]]) G:=λG=>bK (lz (n:=1) (by nofun)) (by simp [aG,aL,D.closed,bz,aT])
 have z2:(2:Nat)≤XT:=lz (by nofun)
 have z4:(4:Nat)≤XT:=lz (by nofun)
 obtain ⟨q,hq,e6⟩:=HF qs q0 q1 [some (.con (ns.map .int)),some (.con (ws.map .str)),some (.obj A.length),some (.con (qs.map Qt.D)),some (.obj (A++[DO.dct aR]).length),none,none,none,none,none,none,none,none] ((A++[.dct aR])++[.lst []]) rfl
 obtain ⟨o1,o2,o3,o4,o5⟩:=qo q hq
 obtain ⟨R,t,r1,r2,r3,r4,r5,e7⟩:=rM 60 q.l (by nofun) (by nofun) o1 (A++[.dct aR]) [] [] (λw h=>by simp at h) (by simp;nofun)
 simp only [Zc,Nat.zero_add,Yl] at r3 e7
 obtain ⟨c2,e8⟩:=vX ns hl 2 3
 have WL:=cQ c2 28 (by nofun) (by nofun)
 have WM:=cQ c2 24 (by nofun) (by nofun)
 have WN:=cQ c2 25 (by nofun) (by nofun)
 have WO:=ny c2 28
 obtain ⟨T,pl,t1,t2,e9⟩:=D6 R r1 (by nofun) (mx c2 28) WO (A++[.dct aR,.dead])
 have Su:T.length≤60:=by nofun
 obtain ⟨v,w,hv,Mp,Uk⟩:=HR ns hl T Su
 obtain ⟨bb,b1,b2⟩:=Ef T.length v hv
 obtain ⟨be,b3,b4⟩:=Ef T.length w Mp
 subst b2 b4
 have hu:0≤mx c2 24 % 5∧mx c2 24 % 5<5:=by nofun
 obtain ⟨kd,hkd,hk2⟩:=iZ (xs:=ws.map D.str) hu.1 (by simp [h5];nofun)
 rw [Yq] at hk2
 obtain ⟨k,hk,rfl⟩:∃ k,X4 k=true∧kd=.str k:=by
  cases hg:ws[(mx c2 24 % 5).toNat]? with
  | none=>rw [hg] at hk2;cases hk2
  | some k=>rw [hg] at hk2;cases hk2;exact ⟨k,(hw k (Yy hg)).1,rfl⟩
 obtain ⟨m,hm⟩:∃ m:Bool,m=(mx c2 25 % 2==1):=⟨_,rfl⟩
 obtain ⟨us,Z',b9,A0,l2,WQ,IZ⟩:=IX ws h5 (λs hs=>(hw s hs).1) T t2 Su k hk m bb be b1 b3 (A++[.dct aR,.dead]) (some (.con (ns.map .int))) (some (.obj A.length)) (some (.con (qs.map Qt.D))) (some (.int c2)) (some (.con [.int (nb bb:Int),.int (nb be:Int)])) none none ys [] [] none none (by simp) (by simp;nofun)
 obtain ⟨vs,c1,c3,c4⟩:=yY Qu.D us (some (-8)) none
 obtain ⟨XO,XQ,I8⟩:=IY T t2 Su k hk m bb be b1 b3 (((A++[.dct aR,.dead])++Z')++[.lst (us.map Qu.D)]) (by rw [Y8,Y8];exact hG _) (some (.con (ns.map .int))) (some (.con (ws.map .str))) (some (.obj A.length)) (some (.con (qs.map Qt.D))) (some (.int c2)) (some (.con [.int (nb bb:Int),.int (nb be:Int)])) (some (.obj ((A++[DO.dct aR,.dead])++Z').length)) b9 A0 vs none none (λx hx=>WQ x (c3 x hx))
 have fv:∀ G,(aI (vs.map Qu.D) G).fw G=.ok (.con (vs.map Qu.D)) G:=λG=>bK (lz (by rw [Yh];nofun)) (aB x9)
 rw [YW,Yl] at IZ
 unfold DK
 refine gy (R:=[.dct aR,.dead]++Z'++[.lst (us.map Qu.D)]) ?_ rfl
 show i6 (bQ 13 rE [.con (ns.map .int)] A)=_
 have Sv:bQ 13 rE [.con (ns.map .int)] A=.ok (.bl true) (((A++[.dct aR,.dead])++Z')++[.lst (us.map Qu.D)]):=by
  have Ox:dP [.con (ns.map .int),.int 0] (A++[.dct aR])=.ok (.con (xs.map .int)) (A++[.dct aR]):=e3
  have P6:dP [.con (ns.map .int),.int 1] ((A++[.dct aR,.dead])++[.lst []])=.ok (.con (ys.map .int)) ((A++[.dct aR,.dead])++[.lst []]):=e4
  clear e3 e4
  generalize xs.map D.int=xD at Ox e5
  generalize ys.map D.int=yD at P6 IZ
  generalize ns.map D.int=nD at e1 Ox P6 e6 e8 Uk IZ I8
  generalize qs.map Qt.D=qD at e5 e6 IZ I8
  generalize ws.map D.str=wD at hat e2 e5 e6 IZ I8 hkd
  generalize us.map Qu.D=uD at IZ I8 c1
  generalize vs.map Qu.D=vD at I8 c1 fv
  generalize q.l.D=ld at e6 e7
  generalize R.map Rw.D=RD at e7 e9
  rw [dm]
  show (rE [some (.con nD),none,none,none,none,none,none,none,none,none,none,none,none] A).fn=_
  rw [rE]
  refine gh (v:=.con wD) (G':=A) ?_ ?_
  ·rw [eX,aZ,e1]
   exact e2
  rw [VT]
  refine gh (HQ _ O6 _ _) ?_
  rw [TZ]
  refine gh (v:=.con qD) (G':=A++[.dct aR]) ?_ ?_
  ·simp! [aN,Ox,kr,hat,z2,fr,e5]
  have n0:∀ G,ai aI (ah) [some (.con nD),some (.con wD),some (.obj A.length),some (.con qD),none,none,none,none,none,none,none,none,none] G=.ok (.obj G.length) (G++[.lst []]):=λG=>by simp! [aI]
  rw [T4]
  refine gh (n0 _) ?_
  rw [OI]
  generalize WR:A++[DO.dct aR]=G1 at e6 e7
  refine yT (τ':=[some (.con nD),some (.con wD),some (.obj A.length),some (.con qD),some (.obj G1.length),none,none,none,none,none,none,none,none]) (G':=G1++[.lst RD]) ?_ ?_
  ·rw [sC,eX,aZ,e6]
   change (bg 60 _ _).xp _=_
   rw [e7]
   rfl
  refine gh (e8 0 _ _ rfl) ?_
  rw [OJ]
  have p9:(Out.ok (D.obj G1.length) (G1++[.lst RD])).fz=.ok (.con RD) (G1++[.dead]):=yH
  have hd:G1++[.dead]=A++[.dct aR,.dead]:=by rw [← WR];simp
  rw [hd] at p9
  refine gh (v:=.con T) (G':=A++[.dct aR,.dead]) ?_ ?_
  ·have ef:sE (af 4) [some (.con nD),some (.con wD),some (.obj A.length),some (.con qD),some (.obj G1.length),some (.int c2),none,none,none,none,none,none,none] (G1++[.lst RD])=_:=p9
   rw [f9,eX,aZ,ef,aK,ak,aZ,eX,T8]
   change ((((ay [.int c2,.int 28] _).bd _).bd _).bd _).bd _=_
   rw [WL]
   change (gf [.con RD,.int (mx c2 28)] _).bd _=_
   rw [e9]
   rfl
  rw [OI]
  have eb:∀ G,gj false (.int (mx c2 25 % 2)) (.int 1) G=.ok (.bl m) G:=λG=>by rw [aP,hm];simp
  refine gh (v:=.tup [.str k,.bl m]) (G':=A++[.dct aR,.dead]) ?_ ?_
  ·simp! [WM,WN,hkd,eb,z2]
  rw [PZ]
  refine gh (Uk _ _ _ _ _) ?_
  rw [R4,xR]
  generalize A++[DO.dct aR,.dead]=G4 at P6 IZ I8
  refine gh (v:=gi k m bb be) (G':=G4) ?_ ?_
  ·rw [gi]
   generalize (nb bb:Int)=i1
   generalize (nb be:Int)=i2
   simp! [yS,Eu,z2,z4]
  rw [PZ]
  refine gh (v:=.obj G4.length) (G':=G4++[.lst []]) (by simp! [aI]) ?_
  rw [V4]
  refine yT (X5 ?_ IZ) ?_
  ·rw [Cv,eX,R0]
   change (dP [.con nD,.int 1] _).sb _ _=_
   rw [P6]
   rfl
  rw [xQ]
  generalize G4++Z'=G5 at I8
  have g0:(G5++[DO.lst uD])[G5.length]?=some (.lst uD):=nV G5 _ []
  have WS:∀ τ G,mE (eC (.int 8)) τ G=.ok (.int (-8)) G:=λτ G=>rfl
  refine yT (X5 ?_ I8) rfl
  generalize mU=LL
  generalize gi k m bb be=cd
  simp! [aN,g0,WS,wO,c1,fv]
 rw [Sv]
 show Out.ok _ _=_
 simp
end K42
end
namespace K42
open PySem PySem.Spec L2 L3
theorem walk {l:ado} {qq:Yw} {loose:List Str} {XP:(Str→Option XR)→Heap→Prop} {YP:YM→Heap→Prop} {d dy:DefRec} {K:Params→XU} (hn:l.most=some 63) (hdf:d.params.defaults=[]) (hrec:(PyProof.Rows.recsOf qq).find? (λe=>e.name==("holds_by":Str))=some dy)
    (hY:∀ (w:YM) (h:Heap),YP w h→(K w.params).In h) (hT:∀ w:YM,aa5 (K w.params)=true) (hd:d.name="law")
    (F:∀ (w:YM) (mg:Str→Option XR) (h:Heap),(K w.params).In h→h.Ns mainGlobals mg→lU (K w.params) mg defs∧iH mg LR∧(∃ c Pt,Zz (K w.params) "holds_by"=some (c,Pt))∧Ar (K w.params) mg "MaskBook" "seen" "MaskBook.seen" jH∧Aq (K w.params) mg "MaskBook" "MaskBook.__init__" jG∧∃ C,mg "MaskBook"=some (.ref C)∧t6 (K w.params) C∧fH (K w.params) C "across"∧fH (K w.params) C "hits"∧fH (K w.params) C "into"∧fH (K w.params) C "rows"∧fH (K w.params) C "through") :
    acE qq loose XP YP l.row.toRowW d [] (λf vs=>adt f vs):=
  CU (n:=63) (k:=62) (x:="_law_script") (y:="holds_by") (CX:=λw=>lM l.prog w) hn (by decide) hdf ⟨rfl,by decide,by decide⟩ hrec hY hT (λw mg fa h KX G hm=>by
    obtain ⟨Td,Tn,⟨c,Pt,ht⟩,k0,k1,⟨C0,hm0,O7,Sw,Sx,Sy,Sz,SD⟩⟩:=F w mg h KX G
    obtain ⟨f,fd,Fu,hm1⟩:=Td.at 23 rfl
    rw [hd,hm1] at hm;cases hm
    obtain ⟨_,_,Fy,hy⟩:=Td.at 6 rfl
    exact ⟨fd,c,Pt,_,ht,Am Fu (by intro _ _ _ _ _ _;exact qg λ_=>rfl),λbase _ _ hC hB=>LS (g:=⟨l.prog,w,K w.params,mg,base⟩) ⟨Td,Tn,⟨c,Pt,ht,hC,hB⟩,k0,k1,⟨C0,hm0,O7,Sw⟩,⟨C0,hm0,O7,Sx⟩,⟨C0,hm0,O7,Sy⟩,⟨C0,hm0,O7,Sz⟩,⟨C0,hm0,O7,SD⟩⟩ Fu,λH a ns hl hO hS=>Lz El hl ht (xx (k:=lA) Fy hy rfl) hO hS⟩) λ_ _ _ _ _ zz=>by obtain ⟨_,_,_,_,_,_,_,_,z⟩:=zz;exact z
end K42
def PySem.W.Fast.tw16684170110341418973:=0
def PySem.W.Fast.tw5962070438921866885:=0
def PySem.W.Fast.tw14210991396975137699:=0
def PySem.W.Fast.tw16106740607000814187:=0
def PySem.W.Fast.tw14282254946666933649:=0
open PySem PySem.W PyProof.Rows
set_option maxRecDepth 100000 in
set_option maxHeartbeats 0 in
theorem PySem.Challenge.cw_pathshape_k42_says_holds : PySem.Challenge.rw_pathshape_k42_says.Holds := by
  w_on;o_law;z_head;(case hw=>w_witness2)
  k_fill
  refine L3.Dt (λP=>rfl) (K42.walk (l:=PySem.Challenge.rw_pathshape_k42_says) rfl rfl rfl (λ_ _ Y=>Y) (λ_=>L3.Dp) rfl ?F)
  case F=>
    intro w mg h KX G
    refine ⟨?_,?_,?_,?_,?_,?_⟩
    · delta K42.defs
      repeat (refine' L3.lU.Dq KX G ?_ ?_ ?_ ?_ ?_;any_goals exact rfl)
      exact trivial
    · delta K42.LR
      repeat (refine L3.iH.Dq KX G ?_ ?_;exact rfl)
      exact trivial
    · refine' ⟨_,_,L3.Ao ?_ ?_ ?_ ?_ ?_⟩;any_goals exact rfl
    · refine' L3.Ar.Ml KX G ?_ ⟨?_,?_,?_,?_⟩ ?_ ?_ ?_ (L3.r6.Ml ?_ ?_ ?_);any_goals exact rfl
    · refine' L3.Aq.Ml KX G ?_ ?_ ?_ ?_ ?_ (L3.r6.Ml ?_ ?_ ?_);any_goals exact rfl
    · refine' ⟨_,PySem.W.mg_of KX G (L3.mR ?_),⟨?_,?_,?_,?_⟩,?_,?_,?_,?_,?_⟩;any_goals exact rfl
