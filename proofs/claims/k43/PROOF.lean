import PyProof.Rows.All
import Wide.All
import OpenK.AllK
import Wide.FinOn
import Lean
import PyProof.EqAt
import PyProof.EqKinds
import PyProof.TupleCall
import PyProof.StrWalks
import KE.KTryMore
import PyProof.ZipIter
import PyProof.Rows.Range3
import PyProof.Draws
import PyProof.WalksMore
import PyProof.ExcBaseAll.ValueError
import PyProof.StrReplace2
import PyProof.FactsAll.range_2
import KE.KRevIter
import KE.KNest
import KE.BitLaws
import PySem.Challenge.RW_pathshape_k43_masks_of_places
set_option Elab.async false
set_option linter.all false
set_option maxRecDepth 100000
set_option maxHeartbeats 4000000
set_option compiler.extract_closed false
set_option genSizeOf false
set_option genInjectivity false
open Option renaming some→Zg,none→Zl
open Bool renaming true→Zh,false→Zk,false_ne_true→ZX,and_eq_true→aan,or_eq_true→acL,false_xor→ad2,false_eq_true→aeo
open PySem renaming wpAny_bind→Zi,Value→Zj,sizeLine→Zm,Shared→Zq,wpAny_pure→Zz,wpAny→ZD,starEach→ZF,wpAny_Call_Name_kw→ZK,Program→ZT,wpAny_newObj_type→Z3,wpAny_mono→Z8,wpAny_field→Z9,World→aaa,wpAny_callSpecial?_slot→aay,wpAny_of_eq→aaP,mem_of_lookup→aaR,wpAny_call_entry→aaV,wpAny_pyIter_revIter→aa3,wpAny_setField→abl,wpAny_passesOwn→abr,wpAny_specialOf→abu,wpAny_truthy_bool→abx,rawInt→abA,wpAny_pyIter_enum→abC,wpAny_getItem_str_slice→abL,wpAny_seqItems→abM,Builtin→abR,wpAny_holding→abU,wpAny_newFunctionEnv_cells→abZ,wpAny_updateSeq→acf,wpAny_load→ach,wpAny_pyIter_tuple→aci,wpAny_pyIter_rangeiter→acq,wpAny_pyIter_list→acs,wpAny_execs_cons→acC,wpAny_rule→acF,wpAny_execs_nil→acK,wpAny_loadPart'→acM,wpAny_tryCatch→ac5,wpAny_assign_Name→ac8,wpAny_letGo→ada,wpAny_comprehension_free→adj,wpAny_isInstance→adp,wpAny_pyNext_enum_itemD→ads,Within→adB,wpAny_pyNext_range_end→adC,wpAny_pyNext_enum_endD→adH,wpAny_storeName_local→adM,wpAny_throw→adY,wpAny_newFunctionEnv→adZ,wpAny_loadName_cell→ad5,wpAny_standAt→ad7,wpAny_handled→ad8,wpAny_attempt→aec,wpAny_Name→aef,wpAny_Constant_int→aeg,wpAny_pyIter_range→aeh,wpAny_call→aei,wpAny_Return_some→aep,wpAny_Assign_Name→aeq,wpAny_typeOf→aew,wpAny_update→aeA,wpAny_pyHash_int→aeF,wpAny_pyHash_str→aeG,wpAny_eqBool_int→aeH,wpAny_eqBool_str→aeI,wpAny_mkInt→aeT,wpAny_stack_any→aeZ,call→ae6
open PySem.Heap renaming get?_push_of_some→Zn,lt_size→Zu,get?_push_size→Zv,get?_update_other→ZR,get?_update_self→Z1,size_push→aaF,SameBut→abc,get?_push_ne→adb,of_hide→adF,ExtBut→adX,FlyingW→aez
open PySem.W renaming Frag→Zo,keepIn→Z5,findIn→aas,emptyDict→aaC,fnOf→aaI,tabIn→aaZ,nsIn→aa0,instObj→aa8,callWith_K→abj,tabObj→abn,kia_one→abw,codeIn→abJ,CodeHd→abN,cellsFrom_some→abO,noTabs→acw,plainGet→acD,plainGet_of→acR,isFn→acW,lookIn→ac2,codeRec_of→ac3,methodObj→ac7,hasDictIn→ac9,takerIn→adJ,makesIn→adK,WalkO→aea,mg_of→aeb,plainOver→aer,specialIn→aes,kitx_list→aey,handedIn→aeJ,OpenLaw→ae1
open List renaming getElem?_eq_some_iff→Zp,getElem?_eq_getElem→Zr,map_cons→Zy,size_toArray→ZA,getElem?_append_left→ZC,length_map→ZG,replicate→ZH,mem_singleton→ZI,getElem?_map→ZL,mem_cons→ZM,length_cons→ZN,getElem?_append_right→ZO,getElem?_cons_zero→ZP,getElem?_cons_succ→ZQ,map_nil→ZU,length_append→ZV,lookup_cons→ZW,mem_cons_of_mem→ZY,getElem?_set_ne→ZZ,mem_of_getElem?→Z0,range→Z4,range'→Z6,set_cons_succ→aai,set_cons_zero→aaj,lookup→aak,nil_append→aam,getElem?_set→aap,getElem?_eq_none_iff→aaq,getElem_mem→aau,mem_append_right→aav,reverse_cons→aaw,append_nil→aaA,getElem?_eq_none→aaE,length_nil→aaJ,map_append→aaL,map_map→aaM,getElem_inj→aaO,append_assoc→aaQ,replicate_succ→aaS,mem_append→aaU,zip_cons_cons→aaW,map_reverse→aaX,mem_append_left→aa1,nodup_cons→aa9,filterMap_cons→aba,zipWith→abd,mem_cons_self→abg,drop_eq_getElem_cons→abq,of_mem_zip→abt,flatten_cons→abz,nodup_append→abB,getElem?_mapIdx→abD,mem_map→abE,getElem_of_mem→abG,length_take→abH,getElem?_replicate→abI,drop_eq_nil_of_le→abQ,length_mapIdx→abS,find?_cons→abT,getElem?_toArray→abV,getElem?_reverse→abW,all_eq_true→ab4,getD→ab5,range'_succ→ab6,length_reverse→ab9,filter_eq_self→acd,filter_cons_of_pos→aco,getElem?_set_self→acp,zipWith_cons_cons→acy,length_drop→acE,length→acG,range_eq_range'→acH,mem_filter→acJ,take_set_of_le→acS,getElem?_range→acT,mem_range→ac0,mem_filterMap→ac1,getElem?_take_of_lt→adh,any_cons→adi,filter_cons_of_neg→adt,cons_append→adu,mem_reverse→adv,reverse_eq_nil_iff→adx,ext_getElem→ady,length_replicate→adN,length_singleton→adO,dropLast_eq_take→adP,set_append_right→adR,mem_of_mem_drop→ad3,dropLast_concat→ad4,getElem_range→aek,take_sublist→aev,flatMap_cons→aeE,take_length→aeN,mapIdx_cons→aeR,not_mem_nil→aeS,sum_append→aeX,mem_mapIdx→ae2,any_append→ae3,foldl→ae5
open Nat renaming le_refl→Zs,lt_of_lt_of_le→Zx,ne_of_lt→ZE,succ_pos→aab,le_trans→aal,lt_irrefl→aao,lt_succ_self→aaB,lt_succ_of_lt→aa7,zero_le→abe,le_succ→acj,le_of_lt→acU,ne_of_gt→acV,succ_ne_self→adq,testBit_zero→adz,testBit_succ→adA,pow_succ→adI,testBit_and→adL,mul_comm→aex,le_of_not_lt→aeL,le_add_right→aeM,succ_le_succ→aeO,two_pow_pos→ae4
open PySem.PyData renaming strOk→Zt,canLayAll0→aax,depth→aaK,eqv→aaN,canLay0→aa4,depthAll→abv,str→ab2,eqvAll→ad9
open Eq renaming trans→Zw
open PyProof.Rows renaming callWith_type1→ZJ,envOfC→aaT,slot_tuple_getitem→abF,callWith_builtin1→abK,AllBare→ab1,boot_max→acz,boot_sum→adQ
open Option.some renaming inj→ZS
open PySem.Builtin.Range renaming rangeSize→Z7,rangeFitsLong→aad,small→ad6
open False renaming elim→aac
open PySem.Builtin renaming bitAnd→aae,bitOr→aag,bitXor→aa2
open PySem.Builtin.SmallTypes renaming nextOf→aaf
open PySem.AutoSeq1 renaming wpAny_loadPart'→aah,sub_tuple_tuple→adl
open PySem.Obj renaming data_mapFields→aar,mapFields→aaH,isFreed_of_fields→abo,mapSeq→ab0,cls_mapFields→ade
open Ne renaming symm→aat
open PySem.Calls renaming spliced_cons→aaz,spliced_nil→aa6,Name_function_global→abh,loadGlobal_builtin→adg,loadGlobal_global→adm,callWith_builtin→adE
open Int renaming toNat_natCast→aaD,fdiv_eq_ediv_of_nonneg→abY,emod_nonneg→acP,emod_lt_of_pos→ac6,one_mul→aeV,ediv_nonneg→aeY
open PySem.Builtin.Tuple renaming tupleExact→aaG
open PySem.Builtin.List renaming listTooLong→aaY,listExtendWith→abX,listLengthHint→acX,listSameRef→adk
open PySem.Around renaming under_plainId→aa5,frames_deeper→adW,under→aet
open PySem.Heap.SameBut renaming update→abb
open PySem.F renaming plain_max_loop→abf,slot_tuple_iterator_next→abm,args_object_init_2→ab3,args_tuple_add_2→ace,entry_tuple_add→ack,slot_tuple_add→acr,slot_range_reversed→acA,plain_reversed_new→acI,args_tuple_iterator_next_1→acN,slot_lri_next→acO,entry_tuple_iterator_next→acY,plainAttrs_list→ado,entry_max_loop→adw,typeCall_enumerate_1→adG,newCall_enumerate_1→adS,entry_enumerate_new→adT,typeCall_reversed_1→adU,newCall_reversed_1→ad0,entry_reversed_new→ad1,slot_list_extend→ael,called_enumerate→aem,plain_list_iadd→aeB,create_reversed→aeC,args_lri_next_1→aeD,entry_lri_next→aeP,slot_int_rmul→aeW,made_reversed→ae0
open True renaming intro→abi
open Array renaming getElem?_eq_some_iff→abk,getElem?_eq_none→abP,getElem?_eq_getElem→ab8,length_toList→acQ
open PySem.Builtin.Slice renaming slicePlaces→abp,sliceAdjust→ab7,sliceApplied→ac4
open PySem.Str renaming ofString→aby
open PySem.W.Frag renaming In→acg
open PySem.Txt renaming slice→acm
open Classical renaming propDecidable→acn,choose_spec→adV
open PySem.PassesOwn renaming leaving→acu
open PyProof.Rows.IsTup renaming new→acv,new→aeK
open PySem.SeqAt renaming EqAt→acB
open PySem.Builtin.Builtins renaming bindParams→acZ
open PySem.Paired renaming length→adf
open PySem.Builtin.Str renaming occurrences→adn
open PyProof renaming noPylong_small→adD
open PySem.SeqAt.EqAt renaming int_str→aed,str_int→aee
open PySem.Heap.IsSliceOf renaming new→aej
open PySem.ScopeKind renaming function→aen
open PySem.Code renaming isFrame→aeu
open PySem.Heap.ExtBut renaming refl→aeQ
open PySem.IsRange renaming new→aeU
open PySem.Walks renaming list→ae7
open Or renaming inr→ae8
local macro_rules
 | `(tactic| nofun)=>`(tactic| first | decide | lia | omega)
local macro_rules
 | `(tactic| symm)=>`(tactic| decide +kernel)
namespace L2
noncomputable section
open PySem PySem.Spec PyProof.Rows
variable {pins gT:List (Addr×Obj)} {K:Zo} {s s':Zq} {A:Around} {Q E:Zj→Zq→Prop} {u:Zj} {P prog:ZT} {mg mA:Str→Option Zj} {w:aaa} {x m:Str} {us its:List Zj} {kw:List (Str×Zj)} {h base:Heap} {b a C it dx:Addr} {f:Zj→Zj→Sem Zj} {t' i n tk j:Nat} {e tg c:Expr} {fp ch:List Addr} {fd:FuncData} {g:Int→Int→Int} {body:List Stmt} {outer:List Env} {es:List Expr} {pl:Sem Bool} {R:Result→Zq→Prop} {op:CmpOp} {pos pos':Pos} {g':Array GenState} {vs:Array Zj} {p:Addr×Obj} {ns N:List Str} {sc:Scope} {β α:Type} {k':Bool} {lo hi:Int} {env:Env}
abbrev Key:=Sum Int Str
def nS:Key→Zj→Bool
 | .inl k,v=>Value.isInt k v
 | .inr x,v=>Value.isStrOf x v
def NK (w:aaa):Key→Int
 | .inl k=>hashInt k
 | .inr x=>hashStr w x
theorem cM:∀ {k:Key} {v:Zj},nS k v=Zh→(∃ i t,k=Sum.inl i∧v=Value.int i t)∨(∃ x t,k=Sum.inr x∧v=Value.str x t)
 | .inl i,v,h=>by obtain ⟨t,e⟩:=Value.isInt_shape (k:=i) (v:=v) h;exact .inl ⟨i,t,rfl,e⟩
 | .inr x,v,h=>by obtain ⟨t,e⟩:=Value.isStrOf_shape (x:=x) (v:=v) h;exact .inr ⟨x,t,rfl,e⟩
theorem rN (i:Int) (t:Tok):nS (.inl i) (.int i t)=Zh:=by simp [nS,Value.isInt]
theorem rO (x:Str) (t:Tok):nS (.inr x) (.str x t)=Zh:=by simp [nS,Value.isStrOf]
theorem tL (a b:Int):decide ((Sum.inl a:Key)=Sum.inl b)=(a==b):=by
 by_cases e:a=b
 ·subst e;simp
 ·have h:¬ (Sum.inl a:Key)=Sum.inl b:=λq=>e (Sum.inl.inj q);rw [decide_eq_false h];exact (beq_eq_false_iff_ne.mpr e).symm
theorem Cb (a b:Str):decide ((Sum.inr a:Key)=Sum.inr b)=decide (a=b):=by
 by_cases e:a=b
 ·subst e;simp
 ·have h:¬ (Sum.inr a:Key)=Sum.inr b:=λq=>e (Sum.inr.inj q);rw [decide_eq_false h,decide_eq_false e]
theorem xH (a:Int) (b:Str):decide ((Sum.inl a:Key)=Sum.inr b)=Zk:=decide_eq_false (λq=>nomatch q)
theorem xJ (a:Str) (b:Int):decide ((Sum.inr a:Key)=Sum.inl b)=Zk:=decide_eq_false (λq=>nomatch q)
def gx (prog:ZT) (w:aaa):PySem.KeyKind prog w Key where
 is:=nS
 hash:=NK w
 inj:=λv a b ha hb=>by
  rcases cM ha with ⟨i,t,rfl,rfl⟩ | ⟨x,t,rfl,rfl⟩
  ·rcases cM hb with ⟨j,u,rfl,e⟩ | ⟨y,u,rfl,e⟩
   ·injection e with e1 _;rw [e1]
   ·exact nomatch e
  ·rcases cM hb with ⟨j,u,rfl,e⟩ | ⟨y,u,rfl,e⟩
   ·exact nomatch e
   ·injection e with e1 _;rw [e1]
 byValue:=λk v h=>by rcases cM h with ⟨i,t,rfl,rfl⟩ | ⟨x,t,rfl,rfl⟩<;>rfl
 pyHash:=λhv h=>by
  rcases cM hv with ⟨i,t,rfl,rfl⟩ | ⟨x,t,rfl,rfl⟩
  ·exact aeF h
  ·exact aeG h
 eqBool:=λhu hv h=>by
  rcases cM hu with ⟨i,t,rfl,rfl⟩ | ⟨x,t,rfl,rfl⟩
  ·rcases cM hv with ⟨j,u,rfl,rfl⟩ | ⟨y,u,rfl,rfl⟩
   ·rw [tL] at h;exact aeH h
   ·rw [xH] at h;exact aed i t y u _ _ _ _ h
  ·rcases cM hv with ⟨j,u,rfl,rfl⟩ | ⟨y,u,rfl,rfl⟩
   ·rw [xJ] at h;exact aee x t j u _ _ _ _ h
   ·rw [Cb] at h;exact aeI h
 «strs»:=λk x t v h=>by
  rcases cM h with ⟨i,u,rfl,e⟩ | ⟨y,u,rfl,e⟩
  ·exact nomatch e
  ·injection e with e1 _;subst e1;cases v<;>rfl
theorem u7 (prog:ZT) (w:aaa) (i:Int) (t:Tok):(gx prog w).is (.inl i) (.int i t)=Zh:=rN i t
theorem u9 (prog:ZT) (w:aaa) (x:Str) (t:Tok):(gx prog w).is (.inr x) (.str x t)=Zh:=rO x t
def bI (b:Bool):Int:=if b=Zh then 1 else 0
def Cc (k:Key) (v:Zj):Bool:=match v with
 | .bool b=>decide (k=Sum.inl (bI b))
 | v=>nS k v
theorem cG {k:Key} {v:Zj} (h:Cc k v=Zh):(∃ i t,k=Sum.inl i∧v=Value.int i t)∨(∃ x t,k=Sum.inr x∧v=Value.str x t)∨∃ b,k=Sum.inl (bI b)∧v=Value.bool b:=by
 by_cases hb:∃ b,v=Value.bool b
 ·obtain ⟨b,rfl⟩:=hb;exact .inr (.inr ⟨b,of_decide_eq_true h,rfl⟩)
 ·have h2:nS k v=Zh:=by cases v<;>first | exact h | exact absurd ⟨_,rfl⟩ hb
  rcases cM h2 with h | h
  ·exact .inl h
  ·exact .inr (.inl h)
theorem Ah {prog:ZT} {w:aaa} {A:Around} {E:Zj→Zq→Prop} {b:Bool} {Q:Int→Zq→Prop} (h:Q (hashInt (bI b)) {s with toks:=s.toks+1}):ZD (model prog w) A (pyHash (.bool b)) Q E s:=by
 refine PySem.W.pyHash_slot (T:="bool") rfl F.slot_bool_hash entry_int_hash (args_int_hash _) (beq_builtin_none _) (.inl rfl) ?_;cases b
 ·exact (show ZD _ _ (do ret (← mkInt 0)) _ _ s from Zi (aeT (Zz ⟨_,_,rfl,h⟩)))
 ·exact (show ZD _ _ (do ret (← mkInt 1)) _ _ s from Zi (aeT (Zz ⟨_,_,rfl,h⟩)))
theorem NL (a b:Bool):decide ((Sum.inl (bI a):Key)=Sum.inl (bI b))=(a==b):=by cases a<;>cases b<;>rfl
def iz (prog:ZT) (w:aaa):PySem.KeyKind prog w Key where
 is:=Cc
 hash:=NK w
 inj:=λv a b ha hb=>by rcases cG ha with ⟨i,t,rfl,rfl⟩ | ⟨x,t,rfl,rfl⟩ | ⟨c,rfl,rfl⟩<;>rcases cG hb with ⟨j,u,rfl,e⟩ | ⟨y,u,rfl,e⟩ | ⟨d,rfl,e⟩<;>first | (injection e with e1;rw [e1];done) | (injection e)
 byValue:=λk v h=>by rcases cG h with ⟨i,t,rfl,rfl⟩ | ⟨x,t,rfl,rfl⟩ | ⟨c,rfl,rfl⟩<;>rfl
 pyHash:=λhv h=>by
  rcases cG hv with ⟨i,t,rfl,rfl⟩ | ⟨x,t,rfl,rfl⟩ | ⟨c,rfl,rfl⟩
  ·exact aeF h
  ·exact aeG h
  ·exact Ah h
 eqBool:=λhu hv h=>by
  rcases cG hu with ⟨i,t,rfl,rfl⟩ | ⟨x,t,rfl,rfl⟩ | ⟨c,rfl,rfl⟩
  ·rcases cG hv with ⟨j,u,rfl,rfl⟩ | ⟨y,u,rfl,rfl⟩ | ⟨d,rfl,rfl⟩
   ·rw [tL] at h;exact aeH h
   ·rw [xH] at h;exact aed i t y u _ _ _ _ h
   ·rw [tL] at h;exact acB.int_bool i t d _ _ _ _ h
  ·rcases cG hv with ⟨j,u,rfl,rfl⟩ | ⟨y,u,rfl,rfl⟩ | ⟨d,rfl,rfl⟩
   ·rw [xJ] at h;exact aee x t j u _ _ _ _ h
   ·rw [Cb] at h;exact aeI h
   ·rw [xJ] at h;exact acB.str_bool x t d _ _ _ _ h
  ·rcases cG hv with ⟨j,u,rfl,rfl⟩ | ⟨y,u,rfl,rfl⟩ | ⟨d,rfl,rfl⟩
   ·rw [tL] at h;exact acB.bool_int c j u _ _ _ _ h
   ·rw [xH] at h;exact acB.bool_str c y u _ _ _ _ h
   ·rw [NL] at h;exact acB.bool_bool c d _ _ _ _ h
 «strs»:=λk x t v h=>by
  rcases cG h with ⟨i,u,rfl,e⟩ | ⟨y,u,rfl,e⟩ | ⟨b,rfl,e⟩
  ·exact nomatch e
  ·injection e with e1 _;subst e1;cases v<;>rfl
  ·exact nomatch e
inductive V where
 | cy | bl (b:Bool) | int (i:Int) | str (x:Str) | Nm (b:Array UInt8) | Nn (b:UInt64) | ref (a:Addr) | ty (n:String)
 deriving DecidableEq
variable {v y:V} {xs:List V}
def RelV:V→Zj→Prop
 | .cy,u=>u=Value.none
 | .bl b,u=>u=Value.bool b
 | .int i,u=>∃ t,u=Value.int i t
 | .str x,u=>∃ t,u=Value.str x t
 | .Nm b,u=>∃ t,u=Value.bytes b t
 | .Nn b,u=>∃ t,u=Value.float b t
 | .ref a,u=>u=Value.ref a
 | .ty n,u=>u=Value.type n
abbrev Vals:List V→List Zj→Prop:=Paired RelV
theorem Vals.length (r:Vals xs us):xs.length=us.length:=adf r
theorem Vals.get:∀ {xs:List V} {us:List Zj} {i:Nat} {x:V},Vals xs us→xs[i]?=Zg x→∃ u,us[i]?=Zg u∧RelV x u
 | _,_,_,_,.nil,e=>by simp at e
 | _,_,0,_,.cons r _,e=>by simp at e;subst e;exact ⟨_,rfl,r⟩
 | _,_,i+1,x,.cons _ t,e=>by obtain ⟨u,h1,h2⟩:=Vals.get (i:=i) (x:=x) t (by simpa using e);exact ⟨u,by simpa using h1,h2⟩
theorem Vals.set {x:V} (r:RelV x u):∀ {xs:List V} {us:List Zj} (i:Nat),Vals xs us→Vals (xs.set i x) (us.set i u)
 | _,_,_,.nil=>.nil
 | _,_,0,.cons _ t=>.cons r t
 | _,_,i+1,.cons q t=>.cons q (Vals.set r i t)
theorem Vals.append:∀ {xs ys:List V} {us ws:List Zj},Vals xs us→Vals ys ws→Vals (xs++ys) (us++ws)
 | _,_,_,_,.nil,s=>s
 | _,_,_,_,.cons r t,s=>.cons r (Vals.append t s)
theorem Vals.take:∀ {xs:List V} {us:List Zj} (n:Nat),Vals xs us→Vals (xs.take n) (us.take n)
 | _,_,0,_=>.nil
 | _,_,_+1,.nil=>.nil
 | _,_,n+1,.cons r t=>.cons r (Vals.take n t)
theorem Vals.drop:∀ {xs:List V} {us:List Zj} (n:Nat),Vals xs us→Vals (xs.drop n) (us.drop n)
 | _,_,0,r=>r
 | _,_,_+1,.nil=>.nil
 | _,_,n+1,.cons _ t=>Vals.drop n t
def jY:Option V→Option Zj→Prop
 | some v,Zg u=>RelV v u
 | none,Zl=>True
 | _,_=>False
def KV {κ:Type}:List (κ×V)→List (κ×Zj)→Prop:=Paired λ(p:κ×V) (q:κ×Zj)=>p.1=q.1∧RelV p.2 q.2
def kV:Key→V
 | .inl i=>.int i
 | .inr x=>.str x
def Np:V→Option Key
 | .int i=>Zg (.inl i)
 | .str x=>Zg (.inr x)
 | .bl b=>Zg (.inl (bI b))
 | _=>Zl
inductive HO where
 | lst (xs:List V)
 | tup (xs:List V)
 | dK (kvs:List (Key×V)) | dT (kvs:List (List Key×V))
 | set (S:Int→Bool) (n:Nat)
 | ins (C dx:Addr) (fs:List (Str×V))
 | own (x:Addr)
 | xd (fs:List (Str×V))
 | met (f x:Addr)
 | Ai (lo hi:Int)
 | dz (o:Obj) (u:HO)
 | lU (ps:Array Zj)
 | ext (φ:Heap→Prop)
variable {o:HO}
abbrev Hp:=Addr→Option HO
variable {H:Hp}
def upd (H:Hp) (a:Addr) (o:HO):Hp:=λb=>if b=a then Zg o else H b
theorem aN:upd H a o a=Zg o:=by unfold upd;rw [if_pos rfl]
theorem aA (h:b≠a):upd H a o b=H b:=by unfold upd;rw [if_neg h]
theorem fB {u:HO} (h:H a=Zg o) (h':H b=Zg u) (d:o≠u):a≠b:=by intro e;subst e;rw [h] at h';exact d (ZS h')
theorem bW (h:H a=Zg o) (h':H b=Zl):a≠b:=by intro e;subst e;rw [h] at h';cases h'
section
variable (P:ZT) (w:aaa)
def eF (H:Hp) (h:Heap) (a:Addr):HO→Prop
 | .lst xs=>xs.length≤Zm∧∃ (its:List Zj) (n:Nat),Vals xs its∧h.get? a=Zg {cls:=.type "list",data:=.seq its.toArray n}
 | .tup xs=>xs.length≤Zm∧∃ its:List Zj,Vals xs its∧IsTup h a its.toArray
 | .dK kvs=>kvs.length≤Zm∧(a==sysModules)=Zk∧∃ vs,KV kvs vs∧h.DictOf (gx P w) a vs
 | .dT kvs=>kvs.length≤Zm∧(a==sysModules)=Zk∧∃ xs:List (List Key×Addr×Zj),
   Paired (λ(p:List Key×V) (q:List Key×Addr×Zj)=>p.1=q.1∧(∃ ys,H q.2.1=Zg (.tup ys)∧ys.map Np=p.1.map Zg)∧RelV p.2 q.2.2) kvs xs ∧
   ∃ o es ep,h.get? a=Zg o∧o.ExactDict∧o.data=.dict es ep∧es.toList=xs.map (entryOfKey (tupleKind (iz P w)))∧(xs.map (·.1)).Nodup
 | .set S n=>h.SetOf (intKind P w) a S n
 | .ins C dx fs=>H dx=Zg (.own a)∧fs.length≤1000∧dx≠a∧h.get? a=Zg (aa8 C dx) ∧
   ∃ mA,h.Ns1 dx mA∧(∀ f,jY (fs.lookup f) (mA f))∧adB mA (fs.map (·.1))
 | .own _=>∃ o,h.get? a=Zg o
 | .xd fs=>∃ mA,h.Ns1 a mA∧∀ f,jY (fs.lookup f) (mA f)
 | .Ai lo hi=>∃ t u v,h.get? a=Zg {cls:=.type "range",data:=.fields #[.int lo t,.int hi u,.int 1 v]}
 | .dz o u=>h.get? a=Zg o∧eF H h a u
 | .lU ps=>h.get? a=Zg {cls:=.none,data:=.fields ps}
 | .met f x=>h.get? a=Zg (ac7 (.ref f) (.ref x))
 | .ext φ=>φ h∧(∃ o,h.get? a=Zg o)∧∀ h1 h2:Heap,φ h1→(∀ o,h1.get? a=Zg o→h2.get? a=Zg o)→φ h2
def jo (H:Hp) (h:Heap):Prop:=∀ a o,H a=Zg o→eF P w H h a o
end
section
variable {P:ZT} {w:aaa} {H H':Hp} {h h':Heap} {a:Addr} {o:HO}
theorem eF.lt (x:eF P w H h a o):a<h.objs.size:=by
 cases o with
 | lst xs=>obtain ⟨_,_,_,_,e⟩:=x;exact Zu e
 | tup xs=>obtain ⟨_,_,_,p⟩:=x;exact p.lt
 | dK kvs=>obtain ⟨_,_,_,_,o,_,_,e,_⟩:=x;exact Zu e
 | dT kvs=>obtain ⟨_,_,_,_,o,_,_,e,_⟩:=x;exact Zu e
 | set S n=>obtain ⟨o,_,_,_,e,_⟩:=x;exact Zu e
 | ins C dx fs=>obtain ⟨_,_,_,e,_⟩:=x;exact Zu e
 | own y=>obtain ⟨_,e⟩:=x;exact Zu e
 | xd fs=>obtain ⟨_,⟨_,_,_,e,_⟩,_⟩:=x;exact Zu e
 | Ai lo hi=>obtain ⟨_,_,_,e⟩:=x;exact Zu e
 | dz ob u=>obtain ⟨e,_⟩:=x;exact Zu e
 | lU ps=>exact Zu (show h.get? a=Zg _ from x)
 | met f y=>exact Zu (show h.get? a=Zg _ from x)
 | ext φ=>obtain ⟨_,⟨_,e⟩,_⟩:=x;exact Zu e
theorem Paired.Ko {F G:α→β→Prop}:∀ {l₁:List α} {l₂:List β},Paired F l₁ l₂→(∀ a b,F a b→G a b)→Paired G l₁ l₂
 | _,_,.nil,_=>.nil
 | _,_,.cons r t,f=>.cons (f _ _ r) (Paired.Ko t f)
theorem eF.stay (x:eF P w H h a o) (k:∀ b u,(b=a∨H b=Zg (.own a))→h.get? b=Zg u→h'.get? b=Zg u)
  (ho:∀ b,H b=Zg (.own a)→H' b=Zg (.own a)) (ht:∀ b xs,H b=Zg (.tup xs)→H' b=Zg (.tup xs)):eF P w H' h' a o:=by
 induction o with
 | lst xs=>obtain ⟨z,its,n,r,e⟩:=x;exact ⟨z,its,n,r,k _ _ (.inl rfl) e⟩
 | tup xs=>obtain ⟨z,its,r,ob,e,c⟩:=x;exact ⟨z,its,r,ob,k _ _ (.inl rfl) e,c⟩
 | dK kvs=>obtain ⟨z,y,vs,r,ob,es,ep,e,c⟩:=x;exact ⟨z,y,vs,r,ob,es,ep,k _ _ (.inl rfl) e,c⟩
 | dT kvs=>obtain ⟨z,y,xs,r,ob,es,ep,e,c⟩:=x;exact ⟨z,y,xs,Paired.Ko r λp q z=>⟨z.1,(let ⟨ys,u,v⟩:=z.2.1;⟨ys,ht _ _ u,v⟩),z.2.2⟩,ob,es,ep,k _ _ (.inl rfl) e,c⟩
 | set S n=>obtain ⟨ob,es,ep,t,e,c⟩:=x;exact ⟨ob,es,ep,t,k _ _ (.inl rfl) e,c⟩
 | ins C dx fs=>obtain ⟨d,z,ne,e,mA,⟨od,es,ep,e2,c⟩,r⟩:=x;exact ⟨ho _ d,z,ne,k _ _ (.inl rfl) e,mA,⟨od,es,ep,k _ _ (.inr d) e2,c⟩,r⟩
 | own y=>obtain ⟨ob,e⟩:=x;exact ⟨ob,k _ _ (.inl rfl) e⟩
 | xd fs=>obtain ⟨mA,⟨od,es,ep,e,c⟩,r⟩:=x;exact ⟨mA,⟨od,es,ep,k _ _ (.inl rfl) e,c⟩,r⟩
 | Ai lo hi=>obtain ⟨t,u,v,e⟩:=x;exact ⟨t,u,v,k _ _ (.inl rfl) e⟩
 | dz ob u ih=>obtain ⟨e,q⟩:=x;exact ⟨k _ _ (.inl rfl) e,ih q⟩
 | lU ps=>have e:h.get? a=Zg {cls:=.none,data:=.fields ps}:=x;show h'.get? a=Zg {cls:=.none,data:=.fields ps};exact k a _ (.inl rfl) e
 | met f y=>have e:h.get? a=Zg (ac7 (.ref f) (.ref y)):=x;show h'.get? a=Zg (ac7 (.ref f) (.ref y));exact k a _ (.inl rfl) e
 | ext φ=>obtain ⟨p,⟨o,e⟩,st⟩:=x;exact ⟨st _ _ p λo q=>k _ _ (.inl rfl) q,⟨o,k _ _ (.inl rfl) e⟩,st⟩
theorem jo.lt (x:jo P w H h) (e:H a=Zg o):a<h.objs.size:=(x a o e).lt
theorem jo.fresh (x:jo P w H h) (e:h.objs.size≤a):H a=Zl:=by
 cases q:H a with
 | none=>rfl
 | some u=>exact absurd (Zx (x.lt q) e) (aao _)
theorem jo.kept (x:jo P w H h) (k:∀ b u,h.get? b=Zg u→h'.get? b=Zg u):jo P w H h':=λa o e=>
 (x a o e).stay (λb u _ q=>k b u q) (λ_ q=>q) λ_ _ q=>q
theorem jo.laid (x:jo P w H h) (k:∀ b u,h.get? b=Zg u→h'.get? b=Zg u) (hp:h.objs.size≤a) (new:eF P w (upd H a o) h' a o):jo P w (upd H a o) h':=λb u e=>by
 have hn:=x.fresh hp;by_cases hb:b=a
 ·subst hb;rw [aN] at e;cases e;exact new
 ·rw [aA hb] at e;exact (x b u e).stay (λc v _ q=>k c v q) (λc q=>by rw [aA (bW q hn)];exact q) λc xs q=>by rw [aA (bW q hn)];exact q
end
def Rd (H:Hp) (a:Addr) (u:HO):Prop:=H a=Zg u∨∃ o,H a=Zg (.dz o u)
theorem Rd.of {u:HO} (h:H a=Zg u):Rd H a u:=.inl h
theorem Rd.ok {u:HO} (r:Rd H a u) (x:jo P w H h):eF P w H h a u:=by
 rcases r with r | ⟨o,r⟩
 ·exact x a u r
 ·obtain ⟨_,q⟩:=x a _ r;exact q
def NN:Option HO→Prop
 | some (.lst _)=>True
 | some (.dK _)=>True
 | some (.dT _)=>True
 | some (.set _ _)=>True
 | some (.ins _ _ _)=>True
 | some (.ext _)=>True
 | _=>False
section
variable {P:ZT} {w:aaa} {H:Hp} {h h':Heap} {x e:Addr} {o':HO}
theorem jo.write (ok:jo P w H h) (mu:NN (H x)) (he:e=x∨H e=Zg (.own x)) (k:∀ b u,b≠e→h.get? b=Zg u→h'.get? b=Zg u) (Nq:∃ u,h'.get? e=Zg u)
  (new:eF P w (upd H x o') h' x o'):jo P w (upd H x o') h':=λb u q=>by
 have NO:∀ c y,H c=Zg (.own y)→c≠x:=λc y r z=>by subst z;rw [r] at mu;exact mu
 have RI:∀ c xs,H c=Zg (.tup xs)→c≠x:=λc xs r z=>by subst z;rw [r] at mu;exact mu
 by_cases hb:b=x
 ·subst hb;rw [aN] at q;cases q;exact new
 ·rw [aA hb] at q;by_cases FL:b=e
  ·have q':H b=Zg (.own x):=by
    rcases he with z | z
    ·exact absurd (FL.trans z) hb
    ·rw [FL];exact z
   rw [q] at q';cases q';obtain ⟨v,hv⟩:=Nq;exact ⟨v,by rw [FL];exact hv⟩
  ·refine (ok b u q).stay (λc v hc r=>k c v ?_ r) (λc r=>by rw [aA (NO c b r)];exact r) λc xs r=>by rw [aA (RI c xs r)];exact r
   rcases hc with rfl | hc
   ·exact FL
   ·rintro rfl;rcases he with z | z
    ·exact NO c b hc z
    ·rw [hc] at z;cases z;exact hb rfl
end
structure Un (fs ex:List Addr) (H H':Hp) (h h':Heap):Prop where
 keep:∀ b o,h.get? b=Zg o→H b=Zl→b∉fs→b∉ex→h'.get? b=Zg o
 slot:∀ b o,h.get? b=Zg o→H b=Zl→b∈fs→b∉ex→∃ sl,h'.get? b=Zg {o with slots:=sl}
 free:∀ b o,h.get? b=Zg o→H b=Zl→b∉ex→H' b=Zl
 there:∀ b o,h.get? b=Zg o→b∉ex→∃ o',h'.get? b=Zg o'
 tups:∀ b xs,H b=Zg (.tup xs)→H' b=Zg (.tup xs)
 jq:∀ b o u,H b=Zg (.dz o u)→H' b=Zg (.dz o u)
 j0:∀ b ps,H b=Zg (.lU ps)→∃ more,H' b=Zg (.lU (ps++more))
section
variable {fs fs' ex ex':List Addr} {H H1 H2:Hp} {h h1 h2 h':Heap} {a x e:Addr} {o:HO}
theorem Un.any (u:Un fs ex H H1 h h1) {b:Addr} {ob:Obj} (q:h.get? b=Zg ob) (n:H b=Zl) (hx:b∉ex):∃ sl,h1.get? b=Zg {ob with slots:=sl}:=by
 by_cases hb:b∈fs
 ·exact u.slot b ob q n hb hx
 ·exact ⟨ob.slots,u.keep b ob q n hb hx⟩
theorem Un.kept (k:∀ b u,h.get? b=Zg u→h'.get? b=Zg u):Un fs ex H H h h':=
 ⟨λb ob q _ _ _=>k b ob q,λb ob q _ _ _=>⟨ob.slots,k b ob q⟩,λ_ _ _ n _=>n,λb ob q _=>⟨ob,k b ob q⟩,λ_ _ q=>q,λ_ _ _ q=>q,λ_ ps q=>⟨#[],by rw [q];simp⟩⟩
theorem Un.refl:Un fs ex H H h h:=Un.kept λ_ _ q=>q
theorem Un.laid (k:∀ b u,h.get? b=Zg u→h'.get? b=Zg u) (hp:h.objs.size≤a) (hn:H a=Zl):Un fs ex H (upd H a o) h h' where
 keep:=λb u q _ _ _=>k b u q
 slot:=λb u q _ _ _=>⟨u.slots,k b u q⟩
 free:=λb u q n _=>by rw [aA (ZE (Zx (Zu q) hp))];exact n
 there:=λb u q _=>⟨u,k b u q⟩
 tups:=λb xs q=>by rw [aA (bW q hn)];exact q
 jq:=λb u xs q=>by rw [aA (bW q hn)];exact q
 j0:=λb ps q=>⟨#[],by rw [aA (bW q hn),q];simp⟩
theorem Un.write (mu:NN (H x)) (he:e=x∨H e=Zg (.own x)) (k:∀ b u,b≠e→h.get? b=Zg u→h'.get? b=Zg u) (Nq:∃ u,h'.get? e=Zg u):Un fs ex H (upd H x o) h h':=by
 have hx:∀ b,H b=Zl→b≠x:=λb n z=>by subst z;rw [n] at mu;exact mu
 have hb:∀ b,H b=Zl→b≠e:=λb n z=>by
  subst z;rcases he with r | r
  ·exact hx b n r
  ·rw [n] at r;cases r
 have hm:∀ b u,H b=Zg u→¬ NN (Zg u)→b≠x:=λb u q nm z=>by subst z;rw [q] at mu;exact nm mu
 refine ⟨λb u q n _ _=>k b u (hb b n) q,λb u q n _ _=>⟨u.slots,k b u (hb b n) q⟩,λb u q n _=>by rw [aA (hx b n)];exact n,λb u q _=>?_,
  λb xs q=>by rw [aA (hm b _ q λz=>z)];exact q,λb u xs q=>by rw [aA (hm b _ q λz=>z)];exact q,λb ps q=>⟨#[],by rw [aA (hm b _ q λz=>z),q];simp⟩⟩
 by_cases FL:b=e
 ·subst FL;exact Nq
 ·exact ⟨u,k b u FL q⟩
end
def QD (h:Heap) (H:Hp):List Addr:=(Z4 h.objs.size).filter λa=>(H a).isSome
def pG (h:Heap) (H:Hp):Heap:=PySem.W.hideAll h (QD h H)
theorem Aj (h:Heap) (H:Hp):(pG h H).objs.size=h.objs.size:=PySem.W.hideAll_size _ _
theorem Cd {o:Obj} (e:h.get? b=Zg o) (n:H b=Zl):(pG h H).get? b=Zg o:=
 PySem.W.hideAll_get _ e λhm=>by have q:(H b).isSome=Zh:=(acJ.mp hm).2;rw [n] at q;simp at q
theorem FZ {o:Obj} (e:(pG h H).get? b=Zg o):h.get? b=Zg o∧H b=Zl:=by
 have e':h.get? b=Zg o:=PySem.W.of_hideAll (QD h H) e;refine ⟨e',?_⟩;cases q:H b with
 | none=>rfl
 | some x=>have hm:b∈QD h H:=acJ.mpr ⟨ac0.mpr (Zu e'),by simp [q]⟩;have z:(pG h H).get? b=Zl:=PySem.W.hideAll_none (QD h H) hm;rw [z] at e;cases e
def F0 (g h:Heap) (L:Addr):List (Addr×Obj):=(Z4 h.objs.size).filterMap λa=>if a=L∨(g.get? a).isSome=Zh then Zl else (h.get? a).map λo=>(a,o)
def rest (g h:Heap) (L d:Addr):List (Addr×Obj):=(F0 g h L).filter λp=>decide (p.1≠d)
structure Mod (K:Zo) (mg:Str→Option Zj) (base:Heap):Prop where
 BZ:K.In base
 glob:base.Ns mainGlobals mg
 blt:∃ mb,base.Ns builtinsNs mb∧∀ x:Str,x≠"__name__"→mb x=bootBuiltins x
 nolimit:base.NoLimit
structure Cx where
 prog:ZT
 w:aaa
 K:Zo
 mg:Str→Option Zj
 base:Heap
 A:Around
 N:List Str
 s₀:Zq
 H₀:Hp
 env:Env
 outer:List Env
 stack:List Env
 ex:List Addr
 fn:Str→Bool
 calm:Bool
 pn:List (Addr×Obj)
 xe:Zj→Zq→Prop
variable {X:Cx}
def frs (l:List Env):List Addr:=l.filterMap (·.frame)
abbrev Cx.fs (X:Cx):List Addr:=frs X.outer
def Ce (sc:Scope) (x:Str):Prop:=sc.names.lookup x=Zg .local∨sc.names.lookup x=Zg .cell∨sc.names.lookup x=Zg .free
def Loc (sc:Scope) (x:Str):Prop:=sc.names.lookup x=Zg .local∨sc.names.lookup x=Zg .cell
def Look (env:Env) (h:Heap) (m:Str→Option Zj) (x:Str) (u:Zj):Prop:=
 (env.kindOf x=Zg .local∧m x=Zg u)∨((env.kindOf x=Zg .cell∨env.kindOf x=Zg .free)∧∃ c,env.cells.lookup x=Zg c∧h.IsCell c (Zg u))
structure Cx.Ok (X:Cx):Prop where
 mod:Mod X.K X.mg X.base
 kind:X.env.scope.kind=.function
 glob:X.env.globals=mainGlobals
 blt:X.env.builtins=builtinsNs
 above:X.s₀.heap.objs.size≤X.env.locals
 inj:∀ x y c,X.env.cells.lookup x=Zg c→X.env.cells.lookup y=Zg c→x=y
 has:∀ x,(X.env.kindOf x=Zg .cell∨X.env.kindOf x=Zg .free)→∃ c,X.env.cells.lookup x=Zg c
 NP:∀ x c,X.fn x=Zh→X.env.cells.lookup x=Zg c→X.s₀.heap.objs.size≤c
 hd:X.calm=Zh→X.A.handled=Zl
 frames:X.A.frames=Zg X.stack
 stk:X.stack=X.outer∨(X.stack=X.env::X.outer∧X.env.frame=Zg X.env.locals)
 VG:∀ b∈X.ex,b≠X.env.locals∧∀ x c,X.env.cells.lookup x=Zg c→c≠b
 bs:∀ b o,X.base.get? b=Zg o→X.s₀.heap.get? b=Zg o∧X.H₀ b=Zl
 FN:X.base.objs.size≤X.s₀.heap.objs.size
 F1:∀ b o,X.base.get? b=Zg o→b∉X.ex
 F2:∀ b∈X.ex,b∉X.fs
 lV:X.s₀.heap.FunFrames X.base X.outer
 F3:∀ b∈X.fs,X.H₀ b=Zl
structure Inv (X:Cx) (pins:List (Addr×Obj)) (σ:List (Option V)) (H:Hp) (s:Zq):Prop where
 ok:X.Ok
 os:s.os=X.s₀.os∧0<s.toks
 bare:AllBare s.gens
 base:Un X.fs X.ex X.H₀ H X.s₀.heap s.heap
 loc:∃ m,s.heap.Ns X.env.locals m∧∀ (i:Nat) (x:Str) (v:V),X.N[i]?=Zg x→σ[i]?=Zg (Zg v)→Ce X.env.scope x→∃ u,RelV v u∧Look X.env s.heap m x u
 cell:∀ x c,X.env.cells.lookup x=Zg c→∃ v,s.heap.IsCell c v
 free:H X.env.locals=Zl
 jR:∀ x c,X.env.cells.lookup x=Zg c→H c=Zl∨(X.fn x=Zk∧∃ o u,H c=Zg (.dz o u))
 pin:∀ p∈X.pn++pins,s.heap.get? p.1=Zg p.2∧H p.1=Zl∧p.1≠X.env.locals∧p.1∉X.fs∧∀ v,p.2.data≠.cell v
 hok:jo X.prog X.w H s.heap
 len:σ.length=X.N.length
section
variable {X:Cx} {pins:List (Addr×Obj)} {σ:List (Option V)} {H H':Hp} {s:Zq} {h':Heap}
theorem Cx.Ok.RJ (ok:X.Ok) {b:Addr} {o:Obj} (e:X.base.get? b=Zg o):b∉X.fs:=λhb=>by have:=(ok.lV.mem hb).1;rw [e] at this;cases this
theorem Inv.bs (I:Inv X pins σ H s):∀ b o,X.base.get? b=Zg o→s.heap.get? b=Zg o∧H b=Zl:=λb o e=>
 ⟨I.base.keep b o (I.ok.bs b o e).1 (I.ok.bs b o e).2 (I.ok.RJ e) (I.ok.F1 b o e),I.base.free b o (I.ok.bs b o e).1 (I.ok.bs b o e).2 (I.ok.F1 b o e)⟩
theorem Inv.bk (I:Inv X pins σ H s):∀ b o,X.base.get? b=Zg o→s.heap.get? b=Zg o:=λb o e=>(I.bs b o e).1
theorem Inv.mod (I:Inv X pins σ H s):Mod X.K X.mg X.base:=I.ok.mod
theorem Inv.oY (I:Inv X pins σ H s):X.K.In s.heap:=I.ok.mod.BZ.keeps I.bk
theorem Inv.nolimit (I:Inv X pins σ H s):s.heap.NoLimit:=I.ok.mod.nolimit.keeps I.bk
theorem Inv.fr (I:Inv X pins σ H s):∃ m,Fr X.base X.env.locals s.heap m:=
 let ⟨m,hn,_⟩:=I.loc
 ⟨m,hn,I.bk,aal I.ok.FN I.ok.above⟩
theorem Inv.lt (I:Inv X pins σ H s):X.env.locals<s.heap.objs.size:=let ⟨_,hn,_⟩:=I.loc;hn.lt
theorem Inv.sz (I:Inv X pins σ H s):X.s₀.heap.objs.size≤s.heap.objs.size:=aal I.ok.above (acU I.lt)
theorem Inv.RK (I:Inv X pins σ H s) {a:Addr} (h:s.heap.objs.size≤a):a∉X.fs:=λhb=>by obtain ⟨_,o,ho,_⟩:=I.ok.lV.mem hb;exact absurd (Zx (Zu ho) (aal I.sz h)) (aao _)
theorem Inv.Cg (I:Inv X pins σ H s):∀ x c,X.env.cells.lookup x=Zg c→c≠X.env.locals:=λx c e z=>by obtain ⟨v,o,ho,hd⟩:=I.cell x c e;obtain ⟨m,⟨o',es,ep,ho',hd',_⟩,_⟩:=I.loc;rw [z,ho'] at ho;cases ho;rw [hd'] at hd;cases hd
theorem Inv.lV (I:Inv X pins σ H s):s.heap.FunFrames X.base X.outer:=by
 have all:∀ (l:List Env),(∀ b∈frs l,b∈X.fs)→X.s₀.heap.FunFrames X.base l→s.heap.FunFrames X.base l:=by
  intro l
  induction l with
  | nil=>intro _ _;trivial
  | cons env r ih=>intro hs hl;obtain ⟨hk,⟨L,o,hf,hn,ho,hd⟩,hr⟩:=hl;have hL:L∈X.fs:=hs L (by unfold frs;rw [aba,hf];exact abg);obtain ⟨sl,e⟩:=I.base.slot L o ho (I.ok.F3 L hL) hL λz=>I.ok.F2 L z hL;exact ⟨hk,⟨L,_,hf,hn,e,hd⟩,ih (λb hb=>hs b (by unfold frs;rw [aba,hf];exact ZY _ hb)) hr⟩
 exact all X.outer (λ_ hb=>hb) I.ok.lV
theorem Inv.stack (I:Inv X pins σ H s):s.heap.FunFrames X.base X.stack:=by
 rcases I.ok.stk with e | ⟨e,hf⟩
 ·rw [e];exact I.lV
 ·rw [e];obtain ⟨m,hn,_⟩:=I.loc;refine .cons (by rw [I.ok.kind];decide) hf hn ?_ I.lV;exact Heap.get?_none_of_le (aal I.ok.FN I.ok.above)
theorem Inv.j3 (I:Inv X pins σ H s):∀ b∈frs X.stack,b∈X.env.locals::X.fs:=λb hb=>by
 rcases I.ok.stk with e | ⟨e,hf⟩
 ·rw [e] at hb;exact ZY _ hb
 ·rw [e] at hb;unfold frs at hb;rw [aba,hf] at hb;exact hb
theorem Inv.oZ (I:Inv X pins σ H s):∀ b∈frs X.stack,H b=Zl:=λb hb=>by
 rcases ZM.mp (I.j3 b hb) with e | hb
 ·rw [e];exact I.free
 ·obtain ⟨_,o,ho,_⟩:=I.ok.lV.mem hb;exact I.base.free b o ho (I.ok.F3 b hb) λz=>I.ok.F2 b z hb
theorem Inv.step {g':Array GenState} {t':Nat} {d':Drawn} (I:Inv X pins σ H s)
  (hch:∀ b∈ch,(b∈X.ex∨X.s₀.heap.objs.size≤b)∧b≠X.env.locals∧(∀ x c,X.env.cells.lookup x=Zg c→c≠b)∧∀ p∈X.pn++pins,p.1≠b)
  (keep:∀ b o,b≠X.env.locals→b∉X.fs→b∉ch→s.heap.get? b=Zg o→H b=Zl→h'.get? b=Zg o)
  (slot:∀ b o,b≠X.env.locals→b∈X.fs→b∉ch→s.heap.get? b=Zg o→H b=Zl→∃ sl,h'.get? b=Zg {o with slots:=sl}) (free:∀ b o,b∉ch→s.heap.get? b=Zg o→H b=Zl→H' b=Zl)
  (there:∀ b o,b∉ch→s.heap.get? b=Zg o→∃ o',h'.get? b=Zg o')
  (tups:∀ b xs,H b=Zg (.tup xs)→H' b=Zg (.tup xs)) (jq:∀ b o u,H b=Zg (.dz o u)→H' b=Zg (.dz o u)) (j0:∀ b ps,H b=Zg (.lU ps)→∃ more,H' b=Zg (.lU (ps++more)))
  (ns:∀ m,s.heap.Ns X.env.locals m→h'.Ns X.env.locals m) (hok:jo X.prog X.w H' h') (hg:AllBare g') (ht:0<t':=by first | exact aab _ | exact (Inv.os (by assumption)).2 | assumption | nofun) :
  Inv X pins σ H' {s with heap:=h',gens:=g',drawn:=d',toks:=t'}:=by
 have zc:∀ b o,X.s₀.heap.get? b=Zg o→b≠X.env.locals:=λb o e=>ZE (Zx (Zu e) I.ok.above);have Ju:∀ b o,X.s₀.heap.get? b=Zg o→b∉X.ex→b∉ch:=λb o e hx hb=>by
  rcases (hch b hb).1 with z | z
  ·exact hx z
  ·exact absurd (Zx (Zu e) z) (aao _)
 have cellK:∀ x c,X.env.cells.lookup x=Zg c→∀ v,s.heap.IsCell c v→h'.IsCell c v:=λx c e v zz=>by
  obtain ⟨o,ho,hd⟩:=zz;have NQ:c∉ch:=λz=>(hch c z).2.2.1 x c e rfl;rcases I.jR x c e with hfr | ⟨_,fo,fu,hfr⟩
  ·by_cases hc:c∈X.fs
   ·obtain ⟨sl,q⟩:=slot c o (I.Cg x c e) hc NQ ho hfr;exact ⟨_,q,hd⟩
   ·exact ⟨o,keep c o (I.Cg x c e) hc NQ ho hfr,hd⟩
  ·have q1:=(I.hok c _ hfr).1;have q2:=(hok c _ (jq c fo fu hfr)).1;rw [ho] at q1;cases q1;exact ⟨o,q2,hd⟩
 refine ⟨I.ok,⟨I.os.1,ht⟩,hg,⟨λb o e n hb hx=>?_,λb o e n hb hx=>?_,λb o e n hx=>?_,λb o e hx=>?_,λb xs e=>tups b xs (I.base.tups b xs e),λb o xs e=>jq b o xs (I.base.jq b o xs e),λb ps e=>?_⟩,?_,λx c e=>?_,?_,λx c e=>?_,λp hp=>?_,hok,I.len⟩
 ·exact keep b o (zc b o e) hb (Ju b o e hx) (I.base.keep b o e n hb hx) (I.base.free b o e n hx)
 ·obtain ⟨sl,e1⟩:=I.base.slot b o e n hb hx;obtain ⟨NR,e2⟩:=slot b _ (zc b o e) hb (Ju b o e hx) e1 (I.base.free b o e n hx);exact ⟨NR,e2⟩
 ·obtain ⟨o',e1⟩:=I.base.there b o e hx;exact free b o' (Ju b o e hx) e1 (I.base.free b o e n hx)
 ·obtain ⟨o',e1⟩:=I.base.there b o e hx;exact there b o' (Ju b o e hx) e1
 ·obtain ⟨m1,e1⟩:=I.base.j0 b ps e;obtain ⟨m2,e2⟩:=j0 b _ e1;exact ⟨m1++m2,by rw [e2,Array.append_assoc]⟩
 ·obtain ⟨m,hn,hl⟩:=I.loc;refine ⟨m,ns m hn,λi x v e1 e2 e3=>?_⟩;obtain ⟨u,r,l⟩:=hl i x v e1 e2 e3;refine ⟨u,r,?_⟩;rcases l with l | ⟨k,c,e,z⟩
  ·exact .inl l
  ·exact .inr ⟨k,c,e,cellK x c e _ z⟩
 ·obtain ⟨v,z⟩:=I.cell x c e;exact ⟨v,cellK x c e v z⟩
 ·obtain ⟨m,⟨o,_,_,ho,_⟩,_⟩:=I.loc;exact free _ o (λz=>(hch _ z).2.1 rfl) ho I.free
 ·obtain ⟨v,o,ho,hd⟩:=I.cell x c e;rcases I.jR x c e with hfr | ⟨hx,fo,fu,hfr⟩
  ·exact .inl (free c o (λz=>(hch c z).2.2.1 x c e rfl) ho hfr)
  ·exact .inr ⟨hx,fo,fu,jq c fo fu hfr⟩
 ·obtain ⟨e,n,ne,nf,d⟩:=I.pin p hp;have NQ:p.1∉ch:=λz=>(hch p.1 z).2.2.2 p hp rfl;exact ⟨keep p.1 p.2 ne nf NQ e n,free p.1 p.2 NQ e n,ne,nf,d⟩
theorem Inv.un (I:Inv X pins σ H s) (u:Un X.fs [] H H' s.heap h') (hok:jo X.prog X.w H' h') (ht:0<t':=by first | exact aab _ | exact (Inv.os (by assumption)).2 | assumption | nofun):Inv X pins σ H' {s with heap:=h',toks:=t'}:=by
 obtain ⟨m,⟨o,es,ep,ho,r⟩,_⟩:=id I.loc;obtain ⟨sl,hL⟩:=u.any ho I.free (by simp);exact I.step (g':=s.gens) (d':=s.drawn) (ch:=[]) (λ_ z=>nomatch z) (λb o _ hb _ e n=>u.keep b o e n hb (by simp)) (λb o _ hb _ e n=>u.slot b o e n hb (by simp)) (λb o _ e n=>u.free b o e n (by simp)) (λb o _ e=>u.there b o e (by simp)) u.tups u.jq u.j0 (λm' hm=>by obtain ⟨o',es',B0,ho',r'⟩:=hm;rw [ho] at ho';cases ho';exact ⟨_,es',B0,hL,r'⟩) hok I.bare
theorem Inv.call {d':Drawn} (I:Inv X pins σ H s) (u:Un (frs X.stack) ch H H' s.heap h') (hok:jo X.prog X.w H' h') (hg:AllBare g')
  (hch:∀ b∈ch,(b∈X.ex∨X.s₀.heap.objs.size≤b)∧b≠X.env.locals∧(∀ x c,X.env.cells.lookup x=Zg c→c≠b)∧∀ p∈X.pn++pins,p.1≠b) (ht:0<t':=by first | exact aab _ | exact (Inv.os (by assumption)).2 | assumption | nofun) :
  Inv X pins σ H' {s with heap:=h',gens:=g',drawn:=d',toks:=t'}:=by
 obtain ⟨m,⟨o,es,ep,ho,r⟩,_⟩:=id I.loc;obtain ⟨sl,hL⟩:=u.any ho I.free λz=>(hch _ z).2.1 rfl;exact I.step (ch:=ch) hch (λb o hL hb hc e n=>u.keep b o e n (λz=>(ZM.mp (I.j3 b z)).elim hL hb) hc) (λb o _ _ hc e n=>u.any e n hc) (λb o hc e n=>u.free b o e n hc) (λb o hc e=>u.there b o e hc) u.tups u.jq u.j0 (λm' hm=>by obtain ⟨o',es',B0,ho',r'⟩:=hm;rw [ho] at ho';cases ho';exact ⟨_,es',B0,hL,r'⟩) hok hg
theorem Inv.turned (I:Inv X pins σ H s) (k:∀ b o,b≠it→s.heap.get? b=Zg o→h'.get? b=Zg o) (hn:H it=Zl) (hL:it≠X.env.locals)
  (h1:it∈X.ex∨X.s₀.heap.objs.size≤it) (h2:∀ x c,X.env.cells.lookup x=Zg c→c≠it) (h3:∀ p∈X.pn++pins,p.1≠it) (ht:0<t':=by first | exact aab _ | exact (Inv.os (by assumption)).2 | assumption | nofun):Inv X pins σ H {s with heap:=h',toks:=t'}:=by
 have NS:∀ b u,H b=Zg u→b≠it:=λb u e z=>by rw [z,hn] at e;cases e
 refine I.step (g':=s.gens) (d':=s.drawn) (ch:=[it]) (λb hb=>?_) (λb o _ _ hc e _=>k b o (λz=>hc (by simp [z])) e) (λb o _ _ hc e _=>⟨o.slots,k b o (λz=>hc (by simp [z])) e⟩) (λ_ _ _ _ n=>n)
  (λb o hc e=>⟨o,k b o (λz=>hc (by simp [z])) e⟩) (λ_ _ e=>e) (λ_ _ _ e=>e) (λb ps e=>⟨#[],by rw [e];simp⟩) (λm hm=>?_) (λb u e=>?_) I.bare
 ·have e:b=it:=by simpa using hb
  subst e;exact ⟨h1,hL,h2,h3⟩
 ·obtain ⟨o,es,ep,ho,r⟩:=hm;exact ⟨o,es,ep,k _ o (aat hL) ho,r⟩
 ·refine (I.hok b u e).stay (λc v hc q=>k c v ?_ q) (λ_ q=>q) λ_ _ q=>q;rcases hc with z | z
  ·rw [z];exact NS b u e
  ·exact NS c _ z
theorem Inv.tok (I:Inv X pins σ H s) (t':Nat) (ht:0<t':=by first | exact aab _ | exact (Inv.os (by assumption)).2 | assumption | nofun):Inv X pins σ H {s with toks:=t'}:=I.un (h':=s.heap) (t':=t') Un.refl I.hok
theorem gS {α:Type} {M:Model} {t:Sem α} {Q:α→Zq→Prop} (h:0<s.toks) (h':ZD M A t (λa s'=>0<s'.toks→Q a s') (λe s'=>0<s'.toks→E e s') s):ZD M A t Q E s:=wpAny_with_toks (n:=1) h h'
theorem Inv.kept (I:Inv X pins σ H s) (k:∀ b u,s.heap.get? b=Zg u→h'.get? b=Zg u) (ht:0<t':=by first | exact aab _ | exact (Inv.os (by assumption)).2 | assumption | nofun):Inv X pins σ H {s with heap:=h',toks:=t'}:=I.un (Un.kept k) (I.hok.kept k)
theorem Inv.laid (I:Inv X pins σ H s) (k:∀ b u,s.heap.get? b=Zg u→h'.get? b=Zg u) (hp:s.heap.objs.size≤a) (new:eF X.prog X.w (upd H a o) h' a o) (ht:0<t':=by first | exact aab _ | exact (Inv.os (by assumption)).2 | assumption | nofun) :
  Inv X pins σ (upd H a o) {s with heap:=h',toks:=t'}:=I.un (Un.laid k hp (I.hok.fresh hp)) (I.hok.laid k hp new)
theorem Inv.write {x e:Addr} (I:Inv X pins σ H s) (mu:NN (H x)) (he:e=x∨H e=Zg (.own x)) (k:∀ b u,b≠e→s.heap.get? b=Zg u→h'.get? b=Zg u) (Nq:∃ u,h'.get? e=Zg u)
  (new:eF X.prog X.w (upd H x o) h' x o) (ht:0<t':=by first | exact aab _ | exact (Inv.os (by assumption)).2 | assumption | nofun):Inv X pins σ (upd H x o) {s with heap:=h',toks:=t'}:=I.un (Un.write mu he k Nq) (I.hok.write mu he k Nq new)
theorem Inv.tM (I:Inv X pins σ H s) (h:∀ p∈gT,s.heap.get? p.1=Zg p.2∧H p.1=Zl∧p.1≠X.env.locals∧p.1∉X.fs∧∀ v,p.2.data≠.cell v):Inv X gT σ H s:=
 ⟨I.ok,I.os,I.bare,I.base,I.loc,I.cell,I.free,I.jR,λp hp=>(aaU.mp hp).elim (λz=>I.pin p (aa1 _ z)) (h p),I.hok,I.len⟩
theorem vc (hN:N.Nodup) {i j:Nat} {x:Str} (a:N[i]?=Zg x) (b:N[j]?=Zg x):i=j:=by obtain ⟨h1,e1⟩:=Zp.mp a;obtain ⟨h2,e2⟩:=Zp.mp b;exact (aaO hN).mp (e1.trans e2.symm)
theorem rP {M:Model} {A:Around} {E:Zj→Zq→Prop} {Q:Unit→Zq→Prop} (I:Inv X pins σ H s) (hN:X.N.Nodup) (hi:X.N[i]?=Zg x) (hx:Loc X.env.scope x) (r:RelV v u)
  (h:∀ s',Inv X pins (σ.set i (Zg v)) H s'→(∃ a,abc a s.heap s'.heap∧(a=X.env.locals∨X.env.cells.lookup x=Zg a))→Q () s') (hf:X.fn x=Zh∨X.env.scope.names.lookup x=Zg .local:=by first | exact .inl rfl | exact .inr rfl | assumption):ZD M A (storeName X.env x u) Q E s:=by
 obtain ⟨m,hn,hl⟩:=id I.loc;have hcls:(X.env.scope.kind==.class||(X.env.scope.kind==.module&&X.env.locals != X.env.globals))=Zk:=by rw [I.ok.kind];rfl
 have Ut:i<σ.length:=by rw [I.len];exact (Zp.mp hi).1
 have Cg:=I.Cg;have tracked:∀ {a:Addr} {h':Heap},(∃ o,s.heap.get? a=Zg o∧H a=Zl)→abc a s.heap h'→jo X.prog X.w H h':=λ{a h'} ha hs b ob e=>by
  obtain ⟨_,_,hfree⟩:=ha;refine (I.hok b ob e).stay (λc w' hc q=>(hs.2 c ?_).trans q) (λ_ q=>q) λ_ _ q=>q;rintro rfl;rcases hc with rfl | hc
  ·rw [hfree] at e;cases e
  ·rw [hfree] at hc;cases hc
 rcases hx with hk | hk
 ·refine adM hk hn (λh' hn' hs=>?_) hcls;obtain ⟨oL,_,_,Uu,_⟩:=id hn;refine h _ ⟨I.ok,⟨I.os.1,aab _⟩,I.bare,⟨λb o e n hb hx=>?_,λb o e n hb hx=>?_,I.base.free,λb o e hx=>?_,I.base.tups,I.base.jq,I.base.j0⟩,⟨_,hn',λj y v' e1 e2 e3=>?_⟩,λy c e=>?_,I.free,I.jR,λp hp=>?_,tracked ⟨oL,Uu,I.free⟩ hs,by simpa using I.len⟩ ⟨_,hs,.inl rfl⟩
  ·exact (hs.2 b (ZE (Zx (Zu e) I.ok.above))).trans (I.base.keep b o e n hb hx)
  ·obtain ⟨sl,e1⟩:=I.base.slot b o e n hb hx;exact ⟨sl,(hs.2 b (ZE (Zx (Zu e) I.ok.above))).trans e1⟩
  ·obtain ⟨o',e1⟩:=I.base.there b o e hx;exact ⟨o',(hs.2 b (ZE (Zx (Zu e) I.ok.above))).trans e1⟩
  ·by_cases hj:j=i
   ·subst hj;rw [hi] at e1;cases e1;rw [acp Ut] at e2;cases e2;exact ⟨u,r,.inl ⟨hk,by simp⟩⟩
   ·rw [ZZ (aat hj)] at e2;obtain ⟨u',r',q⟩:=hl j y v' e1 e2 e3;refine ⟨u',r',?_⟩;rcases q with ⟨k,e⟩ | ⟨k,c,e,z⟩
    ·refine .inl ⟨k,?_⟩;have:y≠x:=λe=>hj (vc hN e1 (e▸hi));simp [this,e]
    ·exact .inr ⟨k,c,e,z.sameBut hs (Cg y c e)⟩
  ·obtain ⟨w',z⟩:=I.cell y c e;exact ⟨w',z.sameBut hs (Cg y c e)⟩
  ·obtain ⟨e,n,ne,nf,d⟩:=I.pin p hp;exact ⟨(hs.2 p.1 ne).trans e,n,ne,nf,d⟩
 ·have hfn:X.fn x=Zh:=by
   rcases hf with z | z
   ·exact z
   ·rw [z] at hk;cases hk
  obtain ⟨c,hc⟩:=I.ok.has x (.inl hk);obtain ⟨w',z⟩:=I.cell x c hc;refine wpAny_storeName_cell I.ok.kind hk hc z (λh' hc' hs=>?_);obtain ⟨oc,hoc,RL⟩:=id z;refine h {s with heap:=h'} ⟨I.ok,I.os,I.bare,⟨λb o e n hb hx=>?_,λb o e n hb hx=>?_,I.base.free,λb o e hx=>?_,I.base.tups,I.base.jq,I.base.j0⟩,⟨m,hn.sameBut hs (aat (Cg x c hc)),λj y v' e1 e2 e3=>?_⟩,λy c' e=>?_,I.free,I.jR,λp hp=>?_,tracked ⟨oc,hoc,(I.jR x c hc).resolve_right λz=>by rw [hfn] at z;cases z.1⟩ hs,by simpa using I.len⟩ ⟨c,hs,.inr hc⟩
  ·exact (hs.2 b (ZE (Zx (Zu e) (I.ok.NP x c hfn hc)))).trans (I.base.keep b o e n hb hx)
  ·obtain ⟨sl,e1⟩:=I.base.slot b o e n hb hx;exact ⟨sl,(hs.2 b (ZE (Zx (Zu e) (I.ok.NP x c hfn hc)))).trans e1⟩
  ·obtain ⟨o',e1⟩:=I.base.there b o e hx;exact ⟨o',(hs.2 b (ZE (Zx (Zu e) (I.ok.NP x c hfn hc)))).trans e1⟩
  ·by_cases hj:j=i
   ·subst hj;rw [hi] at e1;cases e1;rw [acp Ut] at e2;cases e2;exact ⟨u,r,.inr ⟨.inl hk,c,hc,hc'⟩⟩
   ·rw [ZZ (aat hj)] at e2;obtain ⟨u',r',q⟩:=hl j y v' e1 e2 e3;refine ⟨u',r',?_⟩;rcases q with q | ⟨k,c',e,z'⟩
    ·exact .inl q
    ·refine .inr ⟨k,c',e,z'.sameBut hs ?_⟩;rintro rfl;exact hj (vc hN e1 (I.ok.inj _ _ _ e hc▸hi))
  ·by_cases hcc:c'=c
   ·subst hcc;exact ⟨_,hc'⟩
   ·obtain ⟨w2,z2⟩:=I.cell y c' e;exact ⟨w2,z2.sameBut hs hcc⟩
  ·obtain ⟨e,n,ne,nf,d⟩:=I.pin p hp;refine ⟨(hs.2 p.1 ?_).trans e,n,ne,nf,d⟩;intro q;rw [q,hoc] at e;have q':oc=p.2:=ZS e;exact d w' (by rw [← q'];exact RL)
theorem pH {M:Model} {A:Around} {E:Zj→Zq→Prop} {Q:Unit→Zq→Prop} (I:Inv X pins σ H s) (hN:X.N.Nodup) (hi:X.N[i]?=Zg x) (hx:Loc X.env.scope x) (r:RelV v u)
  (h:∀ s',Inv X pins (σ.set i (Zg v)) H s'→Q () s') (hf:X.fn x=Zh∨X.env.scope.names.lookup x=Zg .local:=by first | exact .inl rfl | exact .inr rfl | assumption):ZD M A (storeName X.env x u) Q E s:=
 rP I hN hi hx r (λs' I' _=>h s' I') hf
theorem Inv.Ci (I:Inv X pins σ H s) (ho:s'.os=s.os∧0<s'.toks) (u:Un (frs X.stack) ch H H' s.heap s'.heap) (hok:jo X.prog X.w H' s'.heap) (hg:AllBare s'.gens)
  (hch:∀ b∈ch,(b∈X.ex∨X.s₀.heap.objs.size≤b)∧b≠X.env.locals∧(∀ x c,X.env.cells.lookup x=Zg c→c≠b)∧∀ p∈X.pn++pins,p.1≠b):Inv X pins σ H' s':=by
 obtain ⟨h',g',d',t',o'⟩:=s';have e:o'=s.os:=ho.1;have ht:0<t':=ho.2;subst e;exact I.call (g':=g') (t':=t') (d':=d') u hok hg hch
end
abbrev XK:=Zj→Option Addr→Hp→Prop
abbrev St:=List (Option V)
variable {σ:St}
abbrev VK:=V→Hp→Prop
abbrev TE:=St→Hp→VK→Prop
variable {te:TE}
abbrev TT:=St→Hp→(Bool→Hp→Prop)→Prop
variable {tc:TT}
abbrev TA:=St→Hp→(List V→Hp→Prop)→Prop
structure Ends where
 nx:St→Hp→Prop
 rt:VK
 bk:St→Hp→Prop:=λ_ _=>False
 ct:St→Hp→Prop:=λ_ _=>False
abbrev TS:=Ends→St→Hp→Prop
variable {tb:TS}
def EP (X:Cx) (pins:List (Addr×Obj)) (σ:St) (Q:VK) (u:Zj) (s':Zq):Prop:=∃ v H',Inv X pins σ H' s'∧RelV v u∧Q v H'
def TP (X:Cx) (pins:List (Addr×Obj)) (σ:St) (Q:Bool→Hp→Prop) (b:Bool) (s':Zq):Prop:=∃ H',Inv X pins σ H' s'∧Q b H'
def AP (X:Cx) (pins:List (Addr×Obj)) (σ:St) (Q:List V→Hp→Prop) (us:List Zj) (s':Zq):Prop:=∃ vs H',Inv X pins σ H' s'∧Vals vs us∧Q vs H'
def SP (X:Cx) (pins:List (Addr×Obj)) (D:Ends) (f:Flow) (s':Zq):Prop:=
 match f with
 | .next=>∃ σ' H',Inv X pins σ' H' s'∧D.nx σ' H'
 | .brk=>∃ σ' H',Inv X pins σ' H' s'∧D.bk σ' H'
 | .cont=>∃ σ' H',Inv X pins σ' H' s'∧D.ct σ' H'
 | .ret u=>∃ v σ' H',Inv X pins σ' H' s'∧RelV v u∧D.rt v H'
def PE (X:Cx) (e:Expr) (t:TE):Prop:=
 ∀ (pins:List (Addr×Obj)) (s:Zq) (σ:St) (H:Hp) (Q:VK),Inv X pins σ H s→t σ H Q→ZD (model X.prog X.w) X.A (eval e X.env) (EP X pins σ Q) X.xe s
def PT (X:Cx) (e:Expr) (t:TT):Prop:=
 ∀ (pins:List (Addr×Obj)) (s:Zq) (σ:St) (H:Hp) (Q:Bool→Hp→Prop),Inv X pins σ H s→t σ H Q→ZD (model X.prog X.w) X.A (isTrue e X.env (eval e X.env)) (TP X pins σ Q) X.xe s
def PW (X:Cx) (e:Expr) (t:TT):Prop:=
 ∀ (whole:Sem Zj) (pins:List (Addr×Obj)) (s:Zq) (σ:St) (H:Hp) (Q:Bool→Hp→Prop),Inv X pins σ H s→t σ H Q→ZD (model X.prog X.w) X.A (isTrue e X.env whole) (TP X pins σ Q) X.xe s
theorem PW.pt {t:TT} (h:PW X e t):PT X e t:=h _
def PA (X:Cx) (es:List Expr) (t:TA):Prop:=
 ∀ (pos:Pos) (pins:List (Addr×Obj)) (s:Zq) (σ:St) (H:Hp) (Q:List V→Hp→Prop),Inv X pins σ H s→t σ H Q→ZD (model X.prog X.w) X.A (spliced (backTo pos (ZF es X.env))) (AP X pins σ Q) X.xe s
def PS (X:Cx) (st:Stmt) (t:TS):Prop:=
 ∀ (pins:List (Addr×Obj)) (s:Zq) (σ:St) (H:Hp) (D:Ends),Inv X pins σ H s→t D σ H→ZD (model X.prog X.w) X.A (exec st X.env) (SP X pins D) X.xe s
def xK (X:Cx) (st:List Stmt) (t:TS):Prop:=
 ∀ (pins:List (Addr×Obj)) (s:Zq) (σ:St) (H:Hp) (D:Ends),Inv X pins σ H s→t D σ H→ZD (model X.prog X.w) X.A (execs st X.env) (SP X pins D) X.xe s
theorem cO {α:Type} {t:Sem α} {Q Q':α→Zq→Prop} {M:Model} (h:ZD M A t Q E s) (hQ:∀ a s,Q a s→Q' a s):ZD M A t Q' E s:=Z8 h hQ λ_ _ x=>x
section
variable {X:Cx}
theorem bin {a b:Expr} {ta tb:TE} (ha:PE X a ta) (hb:PE X b tb) {pins:List (Addr×Obj)} {s:Zq} {σ:St} {H:Hp} {R:V→V→Hp→Prop} (I:Inv X pins σ H s) (h:ta σ H λx H1=>tb σ H1 λy H2=>R x y H2)
  {α:Type} {Q:α→Zq→Prop} {f:Zj→Zj→Sem α}
  (hf:∀ v u s2 x y H2,Inv X pins σ H2 s2→RelV x v→RelV y u→R x y H2→ZD (model X.prog X.w) X.A (f v u) Q X.xe s2) :
  ZD (model X.prog X.w) X.A (eval a X.env) (λv s₁=>ZD (model X.prog X.w) X.A (eval b X.env) (λu s₂=>ZD (model X.prog X.w) X.A (f v u) Q X.xe s₂) X.xe s₁) X.xe s:=by
 refine cO (ha pins s σ H _ I h) λv s1 zz=>?_;obtain ⟨x,H1,I1,r1,q1⟩:=zz;refine cO (hb pins s1 σ H1 _ I1 q1) λu s2 zz=>?_;obtain ⟨y,H2,I2,r2,q2⟩:=zz;exact hf v u s2 x y H2 I2 r1 r2 q2
def RM (i:Nat):TE:=λσ H Q=>∃ v,σ[i]?=Zg (Zg v)∧Q v H
def tC (v:V):TE:=λ_ H Q=>Q v H
theorem xM {pos:Pos} (hN:X.N[i]?=Zg x) (hv:Ce X.env.scope x) (hd:(x==("__debug__":Str))=Zk:=by decide) (hcd:(x==("__classdict__":Str))=Zk:=by decide):PE X (.Name x pos) (RM i):=by
 intro pins s σ H Q I h;obtain ⟨v,e,h⟩:=h;obtain ⟨m,hn,hl⟩:=I.loc;obtain ⟨u,r,l⟩:=hl i x v hN e hv;have fin:EP X pins σ Q u s:=⟨v,H,I,r,h⟩;rcases l with ⟨hk,hm⟩ | ⟨hk,c,hc,hcell⟩
 ·exact aef (wpAny_loadName_local I.ok.kind hk hn hm fin) hd
 ·rcases hk with hk | hk
  ·exact aef (ad5 I.ok.kind hk hc hcell fin) hd
  ·exact aef (wpAny_loadName_free I.ok.kind hk hc hcell fin hcd) hd
theorem Kp {i j pos}:PE X (.Constant (.int i) j pos) (tC (.int i)):=λ_ _ _ H _ I h=>aeg ⟨.int i,H,I.tok _,⟨_,rfl⟩,h⟩
theorem NT {b j pos}:PE X (.Constant (.bool b) j pos) (tC (.bl b)):=λ_ _ _ H _ I h=>Constant_bool ⟨.bl b,H,I,rfl,h⟩
theorem Kq {j pos}:PE X (.Constant .none j pos) (tC .cy):=λ_ _ _ H _ I h=>Constant_none ⟨.cy,H,I,rfl,h⟩
theorem Kr {x j pos}:PE X (.Constant (.str x) j pos) (tC (.str x)):=λ_ _ _ H _ I h=>Calls.Constant_str ⟨.str x,H,I.tok _,⟨_,rfl⟩,h⟩
def Gl (X:Cx) (x:Str):Prop:=X.env.kindOf x=Zg .globalImplicit
theorem tN {E:Zj→Zq→Prop} {pos:Pos} (I:Inv X pins σ H s) (hg:Gl X x) (hm:X.mg x=Zg u) (h:Q u s)
  (hd:(x==("__debug__":Str))=Zk:=by decide):ZD (model X.prog X.w) X.A (eval (.Name x pos) X.env) Q E s:=
 abh I.ok.kind hg (adm (by rw [I.ok.glob];exact I.mod.glob.keeps I.bk) hm h) hd
theorem dX {E:Zj→Zq→Prop} {pos:Pos} (I:Inv X pins σ H s) (hg:Gl X x) (hm:X.mg x=Zl) (hv:bootBuiltins x=Zg u) (h:Q u s)
  (hn:x≠"__name__":=by decide) (hd:(x==("__debug__":Str))=Zk:=by decide):ZD (model X.prog X.w) X.A (eval (.Name x pos) X.env) Q E s:=by
 obtain ⟨mb,h1,h2⟩:=I.mod.blt;exact abh I.ok.kind hg (adg (by rw [I.ok.glob];exact I.mod.glob.keeps I.bk) hm (by rw [I.ok.blt];exact h1.keeps I.bk) ((h2 x hn).trans hv) h) hd
theorem zd {pos:Pos} (hg:Gl X x) (hm:X.mg x=Zg u) (r:RelV v u) (hd:(x==("__debug__":Str))=Zk:=by decide):PE X (.Name x pos) (tC v):=
 λ_ _ _ H _ I h=>tN I hg hm ⟨v,H,I,r,h⟩ hd
theorem F4 {pos:Pos} (hg:Gl X x) (hm:X.mg x=Zl) (hv:bootBuiltins x=Zg u) (r:RelV v u) (hn:x≠"__name__":=by decide) (hd:(x==("__debug__":Str))=Zk:=by decide):PE X (.Name x pos) (tC v):=
 λ_ _ _ H _ I h=>dX I hg hm hv ⟨v,H,I,r,h⟩ hn hd
variable {a b:Expr} {ta tb:TE} {pos:Pos}
variable {tA QF:TT} {rest:List Expr}
def NU (t u:TT):TT:=λσ H Q=>t σ H λc H1=>if c=Zh then u σ H1 Q else Q Zk H1
def Uv (t u:TT):TT:=λσ H Q=>t σ H λc H1=>if c=Zh then Q Zh H1 else u σ H1 Q
def RN (t:TT):TT:=λσ H Q=>t σ H λc H1=>Q (!c) H1
theorem F5 (ha:PT X a tA):PW X (.BoolOp .And [a] pos) tA:=by
 intro wh pins s σ H Q I h;refine isTrue_and (cO (ha pins s σ H Q I h) λc s1 e=>?_);cases c with
 | true=>exact isTrue_and_nil e
 | false=>exact e
theorem Ks (ha:PT X a tA):PW X (.BoolOp .Or [a] pos) tA:=by
 intro wh pins s σ H Q I h;refine isTrue_or (cO (ha pins s σ H Q I h) λc s1 e=>?_);cases c with
 | false=>exact isTrue_or_nil e
 | true=>exact e
theorem Ku (ha:PT X a tA) (hb:PW X (.BoolOp .And (b::rest) pos) QF):PW X (.BoolOp .And (a::b::rest) pos) (NU tA QF):=by
 intro wh pins s σ H Q I h;refine isTrue_and (cO (ha pins s σ H _ I h) λc s1 zz=>?_);obtain ⟨H1,I1,q1⟩:=zz;cases c with
 | true=>exact hb wh pins s1 σ H1 Q I1 q1
 | false=>exact ⟨H1,I1,q1⟩
theorem NV (ha:PT X a tA) (hb:PW X (.BoolOp .Or (b::rest) pos) QF):PW X (.BoolOp .Or (a::b::rest) pos) (Uv tA QF):=by
 intro wh pins s σ H Q I h;refine isTrue_or (cO (ha pins s σ H _ I h) λc s1 zz=>?_);obtain ⟨H1,I1,q1⟩:=zz;cases c with
 | true=>exact ⟨H1,I1,q1⟩
 | false=>exact hb wh pins s1 σ H1 Q I1 q1
theorem Kv (ha:PT X a tA):PT X (.UnaryOp .Not a pos) (RN tA):=by intro pins s σ H Q I h;exact isTrue_not (ha pins s σ H (λc H1=>Q (!c) H1) I h)
def NW (ta tb:TE):TE:=λσ H Q=>ta σ H λx H1=>∃ c,x=.bl c∧if c=Zh then tb σ H1 Q else Q (.bl Zk) H1
def RO (ta tb:TE):TE:=λσ H Q=>ta σ H λx H1=>∃ c,x=.bl c∧if c=Zh then Q (.bl Zh) H1 else tb σ H1 Q
def NX (ta:TE):TE:=λσ H Q=>ta σ H λx H1=>∃ c,x=.bl c∧Q (.bl (!c)) H1
theorem Kw {op} {t:TE} (h:PE X a t):PE X (.BoolOp op [a] pos) t:=λpins s σ H Q I hw=>BoolOp_one (h pins s σ H Q I hw)
theorem Ky (ha:PE X a ta) (hb:PE X (.BoolOp .And (b::rest) pos) tb):PE X (.BoolOp .And (a::b::rest) pos) (NW ta tb):=by
 intro pins s σ H Q I h;refine BoolOp_and (cO (ha pins s σ H _ I h) λv s1 zz=>?_);obtain ⟨x,H1,I1,r1,q1⟩:=zz;obtain ⟨c,rfl,q1⟩:=q1;cases r1;refine abx ?_;cases c with
 | true=>exact hb pins s1 σ H1 Q I1 q1
 | false=>exact ⟨.bl Zk,H1,I1,rfl,q1⟩
theorem NY (ha:PE X a ta) (hb:PE X (.BoolOp .Or (b::rest) pos) tb):PE X (.BoolOp .Or (a::b::rest) pos) (RO ta tb):=by
 intro pins s σ H Q I h;refine BoolOp_or (cO (ha pins s σ H _ I h) λv s1 zz=>?_);obtain ⟨x,H1,I1,r1,q1⟩:=zz;obtain ⟨c,rfl,q1⟩:=q1;cases r1;refine abx ?_;cases c with
 | false=>exact hb pins s1 σ H1 Q I1 q1
 | true=>exact ⟨.bl Zh,H1,I1,rfl,q1⟩
theorem Kz (ha:PE X a ta):PE X (.UnaryOp .Not a pos) (NX ta):=by intro pins s σ H Q I h;refine UnaryOp_ (cO (ha pins s σ H _ I h) λv s1 zz=>?_);obtain ⟨x,H1,I1,r1,q1⟩:=zz;obtain ⟨c,rfl,q1⟩:=q1;cases r1;exact not_of (abx ⟨.bl (!c),H1,I1,rfl,q1⟩)
end
def kE (K:Zo) (H:Hp) (a:Addr) (xs:List V):Prop:=
 Rd H a (.lst xs) ∨
  ∃ (o:Obj) (its:Array Zj) (n:Nat),K.lookup a=Zg o∧o.cls=.type "list"∧o.dict=Zl∧o.data=.seq its n∧its.size≤Zm∧Vals xs its.toList
def lq (K:Zo) (H:Hp) (a:Addr) (xs:List V):Prop:=
 Rd H a (.tup xs) ∨
  ∃ (o:Obj) (its:Array Zj) (n:Nat),K.lookup a=Zg o∧o.cls=.type "tuple"∧o.data=.seq its n∧its.size≤Zm∧Vals xs its.toList
def RP:Zj→Option V
 | .none=>Zg .cy
 | .bool b=>Zg (.bl b)
 | .int i _=>Zg (.int i)
 | .str x _=>Zg (.str x)
 | .bytes b _=>Zg (.Nm b)
 | .float b _=>Zg (.Nn b)
 | .ref a=>Zg (.ref a)
 | .type n=>Zg (.ty n)
 | _=>Zl
theorem RelV.abs {x:V} (r:RelV x u):RP u=Zg x:=by
 cases x with
 | cy=>cases r;rfl
 | bl _=>cases r;rfl
 | int _=>obtain ⟨t,rfl⟩:=r;rfl
 | str _=>obtain ⟨t,rfl⟩:=r;rfl
 | Nm _=>obtain ⟨t,rfl⟩:=r;rfl
 | Nn _=>obtain ⟨t,rfl⟩:=r;rfl
 | ref _=>cases r;rfl
 | ty _=>cases r;rfl
theorem RelV.inj {x:V} (r:RelV x u) (q:RelV y u):x=y:=ZS (r.abs.symm.trans q.abs)
theorem Vals.inj:∀ {xs ys:List V} {us:List Zj},Vals xs us→Vals ys us→xs=ys
 | _,_,_,.nil,.nil=>rfl
 | _,_,_,.cons r t,.cons r' t'=>by rw [r.inj r',Vals.inj t t']
section
variable {X:Cx} {pins:List (Addr×Obj)} {σ:St} {H:Hp} {s:Zq} {a:Addr} {xs ys:List V}
theorem kE.of (h:H a=Zg (.lst xs)):kE K H a xs:=.inl (.inl h)
theorem Inv.list (I:Inv X pins σ H s) (h:kE X.K H a xs):∃ its:List Zj,Vals xs its∧PlainL s.heap a its.toArray∧xs.length≤Zm:=by
 rcases h with h | ⟨o,its,n,hk,hc,hd,hs,hz,r⟩
 ·obtain ⟨z,its,n,r,e⟩:=h.ok I.hok;exact ⟨its,r,⟨_,n,e,rfl,rfl,rfl⟩,z⟩
 ·refine ⟨its.toList,r,⟨o,n,I.oY a o hk,hc,hd,by simpa using hs⟩,?_⟩;have e:=r.length;simp only [acQ] at e;nofun
theorem Inv.tuple (I:Inv X pins σ H s) (h:lq X.K H a xs):∃ its:List Zj,Vals xs its∧IsTup s.heap a its.toArray∧xs.length≤Zm:=by
 rcases h with h | ⟨o,its,n,hk,hc,hs,hz,r⟩
 ·obtain ⟨z,its,r,p⟩:=h.ok I.hok;exact ⟨its,r,p,z⟩
 ·refine ⟨its.toList,r,⟨o,I.oY a o hk,hc,n,by simpa using hs⟩,?_⟩;have e:=r.length;simp only [acQ] at e;nofun
theorem Inv.lW (I:Inv X pins σ H s) (h:kE X.K H a xs) (h':kE X.K H a ys):xs=ys:=by
 obtain ⟨its,r,⟨o,n,e,_,_,d⟩,_⟩:=I.list h;obtain ⟨its',r',⟨o',n',e',_,_,d'⟩,_⟩:=I.list h';rw [e] at e';cases e';rw [d] at d';injection d' with d1 _;have:its=its':=by simpa using congrArg Array.toList d1
 subst this;exact r.inj r'
theorem Inv.mZ (I:Inv X pins σ H s) (h:lq X.K H a xs) (h':lq X.K H a ys):xs=ys:=by
 obtain ⟨its,r,⟨o,e,_,n,d⟩,_⟩:=I.tuple h;obtain ⟨its',r',⟨o',e',_,n',d'⟩,_⟩:=I.tuple h';rw [e] at e';cases e';rw [d] at d';injection d' with d1 _;have:its=its':=by simpa using congrArg Array.toList d1
 subst this;exact r.inj r'
end
section
variable {X:Cx} {st:Stmt} {rest:List Stmt} {t u:TS} {e:Expr} {te:TE} {pos:Pos}
def NZ:TS:=λD σ H=>D.nx σ H
def N1 (t u:TS):TS:=λD σ H=>t {D with nx:=u D} σ H
theorem F6:xK X [] NZ:=λ_ _ σ H _ I h=>acK ⟨σ,H,I,h⟩
theorem Cj (h1:PS X st t) (h2:xK X rest u):xK X (st::rest) (N1 t u):=by
 intro pins s σ H D I h;refine acC (cO (h1 pins s σ H {D with nx:=u D} I h) λf s1 q=>?_);cases f with
 | next=>obtain ⟨σ',H',I',q⟩:=q;exact h2 pins s1 σ' H' D I' q
 | ret v=>exact q
 | brk=>exact q
 | cont=>exact q
theorem F7 (h1:PS X st t):xK X [st] t:=by
 intro pins s σ H D I h;refine acC (cO (h1 pins s σ H D I h) λf s1 q=>?_);cases f with
 | next=>exact acK q
 | ret v=>exact q
 | brk=>exact q
 | cont=>exact q
theorem Inv.quiet (I:Inv X pins σ H s):interactive X.env=Zk:=by simp [interactive,I.ok.kind]
def N2 (te:TE):TS:=λD σ H=>te σ H λ_ H1=>D.nx σ H1
theorem F8 (he:PE X e te) (hs:swapsWith e Zl pos.line X.env=pure Zk:=by rfl):PS X (.Expr e pos) (N2 te):=by intro pins s σ H D I h;exact wpAny_Expr_any (cO (he pins s σ H _ I h) λv s1 zz=>by obtain ⟨x,H1,I1,r1,q1⟩:=zz;exact ⟨σ,H1,I1,q1⟩) I.quiet hs
def RQ (te:TE):TS:=λD σ H=>te σ H D.rt
theorem KA (he:PE X e te):PS X (.Return (Zg e) pos) (RQ te):=by intro pins s σ H D I h;exact aep (cO (he pins s σ H _ I h) λv s1 zz=>by obtain ⟨x,H1,I1,r1,q1⟩:=zz;exact ⟨x,σ,H1,I1,r1,q1⟩)
def RS (c:TT) (t u:TS):TS:=λD σ H=>c σ H λb H1=>if b=Zh then t D σ H1 else u D σ H1
theorem N3 {a b:List Stmt} (hc:PT X c tc) (ha:xK X a t) (hb:xK X b u):PS X (.If c a b pos) (RS tc t u):=by
 intro pins s σ H D I h;refine wpAny_If (cO (hc pins s σ H _ I h) λd s1 zz=>?_);obtain ⟨H1,I1,q1⟩:=zz;cases d with
 | true=>exact ha pins s1 σ H1 D I1 q1
 | false=>exact hb pins s1 σ H1 D I1 q1
end
abbrev TG:=V→St→Hp→(St→Hp→Prop)→Prop
abbrev KC:=List V→St→Hp→(St→Hp→Prop)→Prop
def PG (X:Cx) (target:Expr) (t:TG):Prop:=
 ∀ (pins:List (Addr×Obj)) (s:Zq) (σ:St) (H:Hp) (v:V) (u:Zj) (Q:St→Hp→Prop),Inv X pins σ H s→RelV v u→t v σ H Q →
  ZD (model X.prog X.w) X.A (assign target X.env u) (λ_ s'=>∃ σ' H',Inv X pins σ' H' s'∧Q σ' H') X.xe s
def QH (X:Cx) (ts:List Expr) (t:KC):Prop:=
 ∀ (pins:List (Addr×Obj)) (s:Zq) (σ:St) (H:Hp) (vs:List V) (us:List Zj) (Q:St→Hp→Prop),Inv X pins σ H s→Vals vs us→t vs σ H Q →
  ZD (model X.prog X.w) X.A (assignInOrder ((assignEach ts X.env).map (·.2)) us) (λ_ s'=>∃ σ' H',Inv X pins σ' H' s'∧Q σ' H') X.xe s
abbrev KD:=V→V→V→Hp→(Hp→Prop)→Prop
def N4 (X:Cx) (t:KD):Prop:=
 ∀ (pins:List (Addr×Obj)) (s:Zq) (σ:St) (H:Hp) (o i v:V) (ov iv u:Zj) (Q:Hp→Prop),Inv X pins σ H s→RelV o ov→RelV i iv→RelV v u→t o i v H Q →
  ZD (model X.prog X.w) X.A (setItem ov iv u) (λ_ s'=>∃ H',Inv X pins σ H' s'∧Q H') X.xe s
section
variable {X:Cx} {pos:Pos}
def ve (i:Nat):TG:=λv σ H Q=>Q (σ.set i (Zg v)) H
theorem gy (hN:X.N.Nodup) (hi:X.N[i]?=Zg x) (hx:Loc X.env.scope x) (hf:X.fn x=Zh∨X.env.scope.names.lookup x=Zg .local:=by first | exact .inl rfl | exact .inr rfl | assumption):PG X (.Name x pos) (ve i):=by intro pins s σ H v u Q I r h;exact ac8 (pH I hN hi hx r (λs' I'=>⟨_,H,I',h⟩) hf)
def RT:KC:=λvs σ H Q=>vs=[]∧Q σ H
def N5 (t:TG) (u:KC):KC:=λvs σ H Q=>∃ v r,vs=v::r∧t v σ H λσ' H'=>u r σ' H' Q
theorem tO:QH X [] RT:=by intro pins s σ H vs us Q I r h;obtain ⟨e,h⟩:=h;subst e;cases r;exact assignInOrder_nil ⟨σ,H,I,h⟩
theorem fX {t:TG} {u:KC} (h1:PG X e t) (h2:QH X es u)
  (hs:(assignEach (e::es) X.env).map (·.2)=assign e X.env::(assignEach es X.env).map (·.2):=by rfl):QH X (e::es) (N5 t u):=by
 intro pins s σ H vs us Q I r h;obtain ⟨v,vr,e1,h⟩:=h;subst e1;cases r with
 | cons r rr=>rw [hs];refine assignInOrder_cons (cO (h1 pins s σ H _ _ _ I r h) λ_ s1 zz=>?_);obtain ⟨σ1,H1,I1,q1⟩:=zz;exact h2 pins s1 σ1 H1 _ _ Q I1 rr q1
def RU (K:Zo) (n:Nat) (t:KC):TG:=λv σ H Q=>∃ a xs,v=.ref a∧lq K H a xs∧xs.length=n∧t xs σ H Q
theorem xN {k:Nat} {t:KC} (hc:X.calm=Zh) (h:QH X es t)
  (hn:(assignEach es X.env).length=n:=by rfl) (hst:(assignEach es X.env).findIdx? (·.1)=Zl:=by rfl):PG X (.Tuple es k pos) (RU X.K n t):=by
 intro pins s σ H v u Q I r hw;obtain ⟨a,xs,e1,hq,hl,hw⟩:=hw;subst e1;cases r;obtain ⟨its,rv,ht,hz⟩:=I.tuple hq;refine assign_Tuple_tuple (I.ok.hd hc) ht (by simp [hn,← hl,rv.length]) hst λh' hx=>?_;have I1:Inv X pins σ H {s with heap:=h'}:=I.kept (t':=s.toks) λb o e=>hx b o (ZE (Zu e)) e;exact h pins _ σ H xs _ Q I1 (by simpa using rv) hw
def RV (to ti:TE) (t:KD):TG:=λv σ H Q=>to σ H λo H1=>ti σ H1 λi H2=>t o i v H2 λH3=>Q σ H3
theorem KG {o i:Expr} {to ti:TE} {t:KD} (ho:PE X o to) (hi:PE X i ti) (hs:N4 X t)
  (ha:∀ v,assign (.Subscript o i pos) X.env v=(do
   let ov ← holding [v] (eval o X.env)
   let iv ← holding [v,ov] (eval i X.env)
   standAt pos
   holding [v,ov,iv] (setItem ov iv v)
   release [v,ov,iv] []):=by intro _;rfl):PG X (.Subscript o i pos) (RV to ti t):=by
 intro pins s σ H v u Q I r h;rw [ha];refine Zi (abU (cO (ho pins s σ H _ I h) λov s1 zz=>?_));obtain ⟨x,H1,I1,r1,q1⟩:=zz;refine Zi (abU (cO (hi pins s1 σ H1 _ I1 q1) λiv s2 zz=>?_));obtain ⟨y,H2,I2,r2,q2⟩:=zz;refine Zi (ad7 (Zi (abU (cO (hs pins s2 σ H2 x y v ov iv u _ I2 r1 r2 r q2) λ_ s3 zz=>?_))));obtain ⟨H3,I3,q3⟩:=zz;exact wpAny_release ⟨σ,H3,I3,q3⟩
def F9 (te:TE) (g:TG):TS:=λD σ H=>te σ H λx H1=>g x σ H1 D.nx
theorem Ck {g:TG} (he:PE X e te) (hg:PG X tg g) (hs:swapsWithSole [tg] e pos.line X.env=pure Zk:=by rfl) (hw:swappedStores [tg] e X.env=pure Zl:=by rfl)
  (h1:(assignEach [tg] X.env).map (·.2)=[assign tg X.env]:=by rfl):PS X (.Assign [tg] e pos) (F9 te g):=by
 intro pins s σ H D I h;refine wpAny_Assign_stores (cO (he pins s σ H _ I h) λv s1 zz=>?_) hs hw;obtain ⟨x,H1,I1,r1,q1⟩:=zz;rw [h1];exact cO (hg pins s1 σ H1 x v _ I1 r1 q1) λ_ s2 q=>q
theorem KH (hN:X.N.Nodup) (hi:X.N[i]?=Zg x) (hx:Loc X.env.scope x) (he:PE X e te) (hs:swapsWith e (Zg (.Name x pos')) pos.line X.env=pure Zk:=by rfl) (hf:X.fn x=Zh∨X.env.scope.names.lookup x=Zg .local:=by first | exact .inl rfl | exact .inr rfl | assumption) :
  PS X (.Assign [.Name x pos'] e pos) (F9 te (ve i)):=by
 intro pins s σ H D I h;refine aeq (cO (he pins s σ H _ I h) λv s1 zz=>?_) hs;obtain ⟨y,H1,I1,r1,q1⟩:=zz;exact pH I1 hN hi hx r1 (λs2 I2=>⟨_,H1,I2,q1⟩) hf
end
section
variable {X:Cx} {pos:Pos}
def KI (c:TT) (tb:TS):TS:=λD σ H=>∃ W:Nat→St→Hp→Prop,(∃ m,W m σ H)∧∀ m σ H,W m σ H →
 c σ H λb H1=>if b=Zh then ∃ N:St→Hp→Prop,(∀ σ' H',N σ' H'→∃ m',m'<m∧W m' σ' H')∧tb {D with nx:=N,ct:=N,bk:=D.nx} σ H1 else D.nx σ H1
theorem Cm (hp:PassesOwn (model X.prog X.w) X.A X.env X.xe) (hc:PT X c tc) (hb:xK X body tb):PS X (.While c body [] pos) (KI tc tb):=by
 intro pins s σ H D I h;obtain ⟨W,⟨m0,w0⟩,turn⟩:=h;refine wpAny_While (codeAny_whileLoop (λn s'=>∃ σ' H',Inv X pins σ' H' s'∧W n σ' H') ?_ m0 ⟨σ,H,I,w0⟩);rintro n s1 ⟨σ1,H1,I1,w1⟩;refine abr hp (cO (hc pins s1 σ1 H1 _ I1 (turn n σ1 H1 w1)) λb s2 zz=>?_);obtain ⟨H2,I2,q2⟩:=zz;cases b with
 | true=>
  obtain ⟨N,hN,q2⟩:=q2;rw [if_pos rfl];refine abr hp (cO (hb pins s2 σ1 H2 _ I2 q2) λf s3 q3=>?_);cases f with
  | next=>obtain ⟨σ3,H3,I3,n3⟩:=q3;obtain ⟨m',hm,w3⟩:=hN σ3 H3 n3;exact ⟨m',hm,σ3,H3,I3,w3⟩
  | cont=>obtain ⟨σ3,H3,I3,n3⟩:=q3;obtain ⟨m',hm,w3⟩:=hN σ3 H3 n3;exact ⟨m',hm,σ3,H3,I3,w3⟩
  | brk=>exact q3
  | ret v=>exact q3
 | false=>rw [if_neg ZX];exact acK ⟨σ1,H2,I2,q2⟩
end
structure It where
 go:Nat→Hp→Prop
 rQ:Nat→Hp→V→Hp→Prop
 stop:Nat→Hp→Prop
def ly (X:Cx) (pins:List (Addr×Obj)) (H:Hp) (b:Addr):Prop:=
 H b=Zl∧b≠X.env.locals∧b∉X.fs∧(b∈X.ex∨X.s₀.heap.objs.size≤b)∧(∀ x c,X.env.cells.lookup x=Zg c→c≠b)∧∀ p∈X.pn++pins,p.1≠b
theorem Inv.lX {H':Hp} (I:Inv X pins σ H s) (hb:s.heap.objs.size≤b) (hn:H' b=Zl):ly X pins H' b:=by
 refine ⟨hn,acV (Zx I.lt hb),I.RK hb,.inr (aal I.sz hb),λx c e z=>?_,λp hp z=>?_⟩
 ·obtain ⟨v,q⟩:=I.cell x c e;exact absurd (Zx q.lt (by rw [z];exact hb)) (aao _)
 ·exact absurd (Zx (Zu (I.pin p hp).1) (by rw [z];exact hb)) (aao _)
structure Turn (P:ZT) (w:aaa) (K:Zo) (tg:Expr) (J:It) (fp:List Addr) (it:Addr) (tn:Nat→Heap→Prop):Prop where
 mem:it∈fp
 obj:∀ i h,tn i h→∀ b∈fp,∃ o,h.get? b=Zg o∧∀ v,o.data≠.cell v
 keep:∀ i h h',tn i h→(∀ b∈fp,∀ o,h.get? b=Zg o→h'.get? b=Zg o)→tn i h'
 item:∀ (X:Cx),X.prog=P→X.w=w→X.K=K→X.calm=Zh→∀ (i:Nat) (pins:List (Addr×Obj)) (s:Zq) (σ:St) (H:Hp) (E:Zj→Zq→Prop),Inv X pins σ H s→(∀ b∈fp,ly X pins H b)→tn i s.heap→J.go i H →
  ZD (model P w) X.A (pyNext (.ref it)) (λr s1=>∃ u,r=Zg u ∧
   ZD (model P w) X.A (letOwnedTupleGo tg (.ref it) u) (λ_ s2=>∃ x H',Inv X pins σ H' s2∧RelV x u∧J.rQ i H x H'∧tn (i+1) s2.heap∧∀ b∈fp,H' b=Zl) E s1) E s
 done:∀ (X:Cx),X.prog=P→X.w=w→X.K=K→X.calm=Zh→∀ (i:Nat) (pins:List (Addr×Obj)) (s:Zq) (σ:St) (H:Hp) (E:Zj→Zq→Prop),Inv X pins σ H s→(∀ b∈fp,ly X pins H b)→tn i s.heap→J.stop i H →
  ZD (model P w) X.A (pyNext (.ref it)) (λr s1=>r=Zl∧Inv X pins σ H s1) E s
 self:∀ (A:Around) (i:Nat) (s:Zq) (Q:Zj→Zq→Prop) (E:Zj→Zq→Prop),tn i s.heap→Q (.ref it) s→ZD (model P w) A (pyIter (.ref it)) Q E s
abbrev TI:=St→Hp→(It→Hp→Prop)→Prop
def Uw (X:Cx) (pins:List (Addr×Obj)) (σ:St) (tg:Expr) (R:It→Hp→Prop) (itv:Zj) (s2:Zq):Prop:=
 ∃ (it:Addr) (fp:List Addr) (tn:Nat→Heap→Prop) (J:It) (H':Hp),itv=.ref it∧Inv X pins σ H' s2∧Turn X.prog X.w X.K tg J fp it tn∧tn 0 s2.heap∧(∀ b∈fp,ly X pins H' b)∧R J H'
def PI (X:Cx) (tg iter:Expr) (wi:TI):Prop:=
 ∀ (pins:List (Addr×Obj)) (s:Zq) (σ:St) (H:Hp) (R:It→Hp→Prop),Inv X pins σ H s→wi σ H R →
  ZD (model X.prog X.w) X.A (eval iter X.env) (λv s1=>ZD (model X.prog X.w) X.A (pyIter v) (Uw X pins σ tg R) X.xe s1) X.xe s
theorem pI {M:Model} {A:Around} {E:Zj→Zq→Prop} {tg:Expr} {u:Zj} {o:Obj} {n:String} {Q:Unit→Zq→Prop} (ho:s.heap.get? it=Zg o) (hc:o.cls=.type n) (hd:o.data=.fields vs)
  (hn:["enumerate","zip","dict_itemiterator","dict_reverseitemiterator","odict_iterator","itertools.zip_longest","itertools.pairwise"].contains n=Zk) (hQ:Q () s):ZD M A (letOwnedTupleGo tg (.ref it) u) Q E s:=by
 unfold letOwnedTupleGo
 cases tg<;>first
  | exact Zz hQ
  | (cases u<;>first
      | exact Zz hQ
      | (refine Zi (ach ho ?_)
         rw [hc,hd];show ZD M A (if (["enumerate","zip","dict_itemiterator","dict_reverseitemiterator","odict_iterator","itertools.zip_longest","itertools.pairwise"].contains n&&vs[0]?==Zg (rawInt _))=Zh then _ else _) Q E s;rw [if_neg (by intro h;rw [hn,Bool.false_and] at h;cases h)];exact Zz hQ))
def FO (K:Zo) (a:Addr):It:=
 ⟨λi H=>∃ xs x,kE K H a xs∧xs[i]?=Zg x,λi H x H'=>H'=H∧∀ xs,kE K H a xs→xs[i]?=Zg x,λi H=>∃ xs,kE K H a xs∧xs.length≤i⟩
def QJ (K:Zo) (a:Addr):It:=
 ⟨λi H=>∃ xs x,lq K H a xs∧xs[i]?=Zg x,λi H x H'=>H'=H∧∀ xs,lq K H a xs→xs[i]?=Zg x,λi H=>∃ xs,lq K H a xs∧xs.length≤i⟩
def tP (lo:Int) (n:Nat):It:=⟨λi _=>i<n,λi H x H'=>H'=H∧x=.int (lo+i),λi _=>n≤i⟩
theorem Ak (a it:Addr):Turn P w K tg (FO K a) [it] it (λi h=>h.IsListIter it a i) where
 mem:=by simp
 obj:=λi h st b hb=>by
  have e:b=it:=by simpa using hb
  subst e;obtain ⟨o,e,c,d⟩:=st;exact ⟨o,e,λv z=>by rw [d] at z;cases z⟩
 keep:=λi h h' st k=>st.at λo e=>k it (by simp) o e
 item:=by intro X hP hw hK hc i pins s σ H E I hf st hg;subst hP hw hK;obtain ⟨xs,x,hq,hx⟩:=hg;obtain ⟨its,rv,p,hz⟩:=I.list hq;obtain ⟨u,hu,ru⟩:=rv.get hx;obtain ⟨f0,f1,f2,f3,f4,f5⟩:=hf it (by simp);refine wpAny_pyNext_list_item st p.isList (x:=u) (by simpa using hu) λh' st' sb=>?_;have I1:Inv X pins σ H {s with heap:=h'}:=I.turned (t':=s.toks) (λb o hb e=>(sb.2 b hb).trans e) f0 f1 f3 f4 f5;obtain ⟨o,e,c,d⟩:=id st';exact ⟨u,rfl,pI (s:={s with heap:=h'}) e c d (by decide) ⟨x,H,I1,ru,⟨rfl,λys hy=>by rw [I.lW hy hq];exact hx⟩,st',λb hb=>(hf b hb).1⟩⟩
 done:=by intro X hP hw hK hc i pins s σ H E I hf st hg;subst hP hw hK;obtain ⟨xs,hq,hx⟩:=hg;obtain ⟨its,rv,p,hz⟩:=I.list hq;obtain ⟨f0,f1,f2,f3,f4,f5⟩:=hf it (by simp);have hl:=rv.length;exact wpAny_pyNext_list_end (I.ok.hd hc) st p.isList (by simp;nofun) λh' eb=>⟨rfl,I.turned (t':=s.toks) (λb o hb e=>eb b o hb e) f0 f1 f3 f4 f5⟩
 self:=λ_ _ _ _ _ st h=>wpAny_pyIter_listiter st h
theorem xO (a it:Addr):Turn P w K tg (QJ K a) [it] it (λi h=>h.IsTupleIter it a i) where
 mem:=by simp
 obj:=λi h st b hb=>by
  have e:b=it:=by simpa using hb
  subst e;obtain ⟨o,e,c,d⟩:=st;exact ⟨o,e,λv z=>by rw [d] at z;cases z⟩
 keep:=λi h h' st k=>st.at λo e=>k it (by simp) o e
 item:=by intro X hP hw hK hc i pins s σ H E I hf st hg;subst hP hw hK;obtain ⟨xs,x,hq,hx⟩:=hg;obtain ⟨its,rv,p,hz⟩:=I.tuple hq;obtain ⟨u,hu,ru⟩:=rv.get hx;obtain ⟨f0,f1,f2,f3,f4,f5⟩:=hf it (by simp);refine wpAny_pyNext_tuple_item st (show s.heap.IsTuple a its.toArray from p) (x:=u) (by simpa using hu) λh' st' sb=>?_;have I1:Inv X pins σ H {s with heap:=h'}:=I.turned (t':=s.toks) (λb o hb e=>(sb.2 b hb).trans e) f0 f1 f3 f4 f5;obtain ⟨o,e,c,d⟩:=id st';exact ⟨u,rfl,pI (s:={s with heap:=h'}) e c d (by decide) ⟨x,H,I1,ru,⟨rfl,λys hy=>by rw [I.mZ hy hq];exact hx⟩,st',λb hb=>(hf b hb).1⟩⟩
 done:=by intro X hP hw hK hc i pins s σ H E I hf st hg;subst hP hw hK;obtain ⟨xs,hq,hx⟩:=hg;obtain ⟨its,rv,p,hz⟩:=I.tuple hq;obtain ⟨f0,f1,f2,f3,f4,f5⟩:=hf it (by simp);have hl:=rv.length;exact wpAny_pyNext_tuple_end (I.ok.hd hc) st (show s.heap.IsTuple a its.toArray from p) (by simp;nofun) λh' eb=>⟨rfl,I.turned (t':=s.toks) (λb o hb e=>eb b o hb e) f0 f1 f3 f4 f5⟩
 self:=λ_ _ _ _ _ st h=>wpAny_pyIter_tupleiter st h
theorem xP (it:Addr) (lo:Int) (n:Nat):Turn P w K tg (tP lo n) [it] it (λi h=>IsRangeIter h it (lo+(i:Nat)*1) ((n:Int) - (i:Nat)) 1) where
 mem:=by simp
 obj:=λi h st b hb=>by
  have e:b=it:=by simpa using hb
  subst e;exact ⟨_,st,λv z=>by have z':Data.fields _=Data.cell v:=z;cases z'⟩
 keep:=λi h h' st k=>k it (by simp) _ st
 item:=by intro X hP hw hK hc i pins s σ H E I hf st hg;subst hP hw hK;obtain ⟨f0,f1,f2,f3,f4,f5⟩:=hf it (by simp);have W:=Walks.range (prog:=X.prog) (w:=X.w) (I.ok.hd hc) it lo 1 n;refine gS I.os.2 (W.item i s _ _ hg st λv h' tk hv st' kk=>λht=>?_);obtain ⟨t,rfl⟩:=hv;have I1:Inv X pins σ H {s with heap:=h',toks:=tk}:=I.turned (λb o hb e=>kk b o (by simpa using hb) e) f0 f1 f3 f4 f5;refine ⟨_,rfl,pI (s:={s with heap:=h',toks:=tk}) (n:="range_iterator") st' rfl rfl (by decide) ⟨.int (lo+i),H,I1,⟨t,?_⟩,⟨rfl,rfl⟩,st',λb hb=>(hf b hb).1⟩⟩;rw [Int.mul_one]
 done:=by intro X hP hw hK hc i pins s σ H E I hf st hg;subst hP hw hK;obtain ⟨f0,f1,f2,f3,f4,f5⟩:=hf it (by simp);exact adC (I.ok.hd hc) st (by have:n≤i:=hg;nofun) λh' eb=>⟨rfl,I.turned (t':=s.toks) (λb o hb e=>eb b o hb e) f0 f1 f3 f4 f5⟩
 self:=λ_ _ _ _ _ st h=>acq st h
section
variable {X:Cx} {tg:Expr}
theorem Cn {R:It→Hp→Prop} {E:Zj→Zq→Prop} {t u v:Tok} (I:Inv X pins σ H s) (h1:-(2^62)≤lo) (h2:lo<2^62) (h3:-(2^62)≤hi) (h4:hi<2^62)
  (q:R (tP lo (hi - lo).toNat) H) (ht:0<tk:=by first | exact aab _ | exact (Inv.os (by assumption)).2 | assumption | nofun):ZD (model X.prog X.w) X.A (pyIter (.ref s.heap.objs.size)) (Uw X pins σ tg R) E {s with heap:=s.heap.push {cls:=.type "range",data:=.fields #[.int lo t,.int hi u,.int 1 v]},toks:=tk}:=by
 refine aeh (aeU ..) (small_one h1 h2 h3 h4) ?_;have I1:Inv X pins σ H {s with heap:=s.heap.push {cls:=.type "range",data:=.fields #[.int lo t,.int hi u,.int 1 v]},toks:=tk}:=I.kept λb o e=>Zn _ e
 refine ⟨(s.heap.push {cls:=.type "range",data:=.fields #[.int lo t,.int hi u,.int 1 v]}).objs.size,[(s.heap.push {cls:=.type "range",data:=.fields #[.int lo t,.int hi u,.int 1 v]}).objs.size],_,_,H,rfl,
  I1.kept (t':=tk) λb o e=>Zn _ e,xP _ lo (hi - lo).toNat,?_,λb hb=>?_,q⟩
 ·have e1:lo+((0:Nat):Int)*1=lo:=by simp
  have e2:(((hi - lo).toNat:Nat):Int) - ((0:Nat):Int)=Z7 lo hi 1:=by rw [rangeSize_one];split<;>nofun
  show IsRangeIter _ _ (lo+((0:Nat):Int)*1) ((((hi - lo).toNat:Nat):Int) - ((0:Nat):Int)) 1;rw [e1,e2];exact Zv _ rfl
 ·have e:b=(s.heap.push {cls:=.type "range",data:=.fields #[.int lo t,.int hi u,.int 1 v]}).objs.size:=by simpa using hb
  subst e;exact I1.lX (Zs _) (I1.hok.fresh (Zs _))
def Jv (ta:TA):TI:=λσ H R=>ta σ H λvs H1=>∃ j:Int,vs=[.int j]∧-(2^62)≤j∧j<2^62∧R (tP 0 j.toNat) H1
theorem m5 {a:Expr} {ta:TA} {p:Pos} (hg:Gl X "range") (hm:X.mg "range"=Zl) (ha:PA X [a] ta) (hs:ZF [a] X.env=[(Zk,eval a X.env)]:=by rfl):PI X tg (.Call (.Name "range" p) [a] [] pos) (Jv ta):=by
 intro pins s σ H R I h;refine Call_ (dX I hg hm boot_range (ZJ (cO (ha pos pins s σ H _ I h) λus s1 zz=>?_) hs rfl));obtain ⟨vs,H1,I1,r1,q1⟩:=zz;obtain ⟨j,e,q1,q2,q⟩:=q1;subst e;cases r1 with
 | cons r rr=>cases rr;obtain ⟨t,rfl⟩:=r;exact call_range_1 (Cn I1 (by nofun) (by nofun) q1 q2 (by simpa using q))
def RW (wi:TI) (g:TG) (tb:TS):TS:=λD σ H=>wi σ H λJ H1=>∃ W:Nat→Nat→St→Hp→Prop,(∃ m,W 0 m σ H1)∧∀ i m σ H,W i m σ H →
 (J.stop i H∧D.nx σ H)∨(J.go i H∧∃ N:St→Hp→Prop,(∀ σ' H',N σ' H'→∃ m',m'<m∧W (i+1) m' σ' H')∧∀ x H',J.rQ i H x H'→g x σ H' λσ2 H2=>tb {D with nx:=N,ct:=N,bk:=D.nx} σ2 H2)
def m6 (fp:List Addr) (h:Heap):List (Addr×Obj):=fp.filterMap λb=>(h.get? b).map λo=>(b,o)
theorem jr {o:Obj} (hb:b∈fp) (e:h.get? b=Zg o):(b,o)∈m6 fp h:=ac1.mpr ⟨b,hb,by rw [e];rfl⟩
theorem Al (hp:p∈m6 fp h):p.1∈fp∧h.get? p.1=Zg p.2:=by
 obtain ⟨b,hb,e⟩:=ac1.mp hp;cases q:h.get? b with
 | none=>rw [q] at e;cases e
 | some o=>rw [q] at e;have e':(b,o)=p:=ZS e;subst e';exact ⟨hb,q⟩
theorem Inv.pinned (I:Inv X pins σ H s) (hf:∀ b∈fp,ly X pins H b) (ho:∀ b∈fp,∃ o,s.heap.get? b=Zg o∧∀ v,o.data≠.cell v):Inv X (pins++m6 fp s.heap) σ H s:=
 I.tM λp hp=>(aaU.mp hp).elim (λz=>I.pin p (aav _ z)) λz=>by obtain ⟨hb,e⟩:=Al z;obtain ⟨f0,f1,f2,_⟩:=hf p.1 hb;obtain ⟨o,e',d⟩:=ho p.1 hb;rw [e] at e';cases e';exact ⟨e,f0,f1,f2,d⟩
theorem Inv.pJ {pl:List (Addr×Obj)} (I:Inv X (pins++pl) σ H s):Inv X pins σ H s:=I.tM λp hp=>I.pin p (aav _ (aa1 _ hp))
theorem xQ {iter:Expr} {wi:TI} {g:TG} {pos:Pos} (hp:PassesOwn (model X.prog X.w) X.A X.env X.xe) (hc:X.calm=Zh) (hi:PI X tg iter wi) (hg:PG X tg g) (hb:xK X body tb)
  (hs:∀ x,foldedSetIterable iter X.env x=pure x:=by intro _;rfl):PS X (.For tg iter body [] pos) (RW wi g tb):=by
 intro pins s σ H D I h;refine wpAny_For (cO (hi pins s σ H _ I h) λv s1 h1=>cO h1 λitv s2 h2=>?_) hs;obtain ⟨it,fp,tn,J,H2,e,I2,T,st2,f2,W,⟨m0,w0⟩,turn⟩:=h2;subst e;have KJ:∀ {H':Hp},(∀ b∈fp,H' b=Zl)→∀ b∈fp,ly X pins H' b:=λhn b hb=>⟨hn b hb,(f2 b hb).2⟩;refine codeAny_forLoop_any (λn s'=>∃ i σ' H',Inv X pins σ' H' s'∧tn i s'.heap∧(∀ b∈fp,H' b=Zl)∧W i n σ' H') ?_ m0 ⟨0,σ,H2,I2,st2,λb hb=>(f2 b hb).1,w0⟩;rintro n s3 ⟨i,σ3,H3,I3,st3,Ux,w3⟩;rcases turn i n σ3 H3 w3 with ⟨stop,qn⟩ | ⟨go,N,hN,step⟩
 ·refine abr hp (cO (T.done X rfl rfl rfl hc i pins s3 σ3 H3 X.xe I3 (KJ Ux) st3 stop) λr s4 zz=>?_);obtain ⟨hr,I4⟩:=zz;subst hr;exact acK ⟨σ3,H3,I4,qn⟩
 ·refine abr hp (cO (T.item X rfl rfl rfl hc i pins s3 σ3 H3 X.xe I3 (KJ Ux) st3 go) λr s4 zz=>?_);obtain ⟨u,hr,h4⟩:=zz;subst hr;refine abr hp (cO h4 λ_ s5 zz=>?_);obtain ⟨x,H5,I5,r5,y5,Nr,QK⟩:=zz;have VH:=I5.pinned (KJ QK) (T.obj _ _ Nr);refine abr hp (cO (hg _ s5 σ3 H5 x u _ VH r5 (step x H5 y5)) λ_ s6 zz=>?_);obtain ⟨σ6,H6,I6,q6⟩:=zz;refine abr hp (cO (hb _ s6 σ6 H6 _ I6 q6) λf s7 q7=>?_);have again:∀ {σ7:St} {H7:Hp},Inv X (pins++m6 fp s5.heap) σ7 H7 s7→N σ7 H7→∃ m,m<n∧∃ i σ' H',Inv X pins σ' H' s7∧tn i s7.heap∧(∀ b∈fp,H' b=Zl)∧W i m σ' H':=λ{σ7 H7} I7 n7=>by obtain ⟨m',hm,w7⟩:=hN σ7 H7 n7;refine ⟨m',hm,i+1,σ7,H7,I7.pJ,T.keep _ _ _ Nr λb hb o e=>(I7.pin (b,o) (aav _ (aav _ (jr hb e)))).1,λb hb=>?_,w7⟩;obtain ⟨o,e,d⟩:=T.obj _ _ Nr b hb;exact (I7.pin (b,o) (aav _ (aav _ (jr hb e)))).2.1
  cases f with
  | next=>obtain ⟨σ7,H7,I7,n7⟩:=q7;exact again I7 n7
  | cont=>obtain ⟨σ7,H7,I7,n7⟩:=q7;exact again I7 n7
  | brk=>obtain ⟨σ7,H7,I7,q7⟩:=q7;exact ⟨σ7,H7,I7.pJ,q7⟩
  | ret v=>obtain ⟨x7,σ7,H7,I7,r7,q7⟩:=q7;exact ⟨x7,σ7,H7,I7.pJ,r7,q7⟩
end
abbrev R2:=V→V→Hp→VK→Prop
variable {r:R2}
def iu (X:Cx) (f:Zj→Zj→Sem Zj) (r:R2):Prop:=
 ∀ (pins:List (Addr×Obj)) (s:Zq) (σ:St) (H:Hp) (x y:V) (v u:Zj) (Q:VK),Inv X pins σ H s→RelV x v→RelV y u→r x y H Q →
  ZD (model X.prog X.w) X.A (f v u) (EP X pins σ Q) X.xe s
def RX (X:Cx) (f:Zj→Sem Zj) (r:V→Hp→VK→Prop):Prop:=
 ∀ (pins:List (Addr×Obj)) (s:Zq) (σ:St) (H:Hp) (x:V) (v:Zj) (Q:VK),Inv X pins σ H s→RelV x v→r x H Q →
  ZD (model X.prog X.w) X.A (f v) (EP X pins σ Q) X.xe s
def c9 (X:Cx) (f:Zj) (r:List V→Hp→VK→Prop):Prop:=
 ∀ (pins:List (Addr×Obj)) (s:Zq) (σ:St) (H:Hp) (xs:List V) (us:List Zj) (Q:VK),Inv X pins σ H s→Vals xs us→r xs H Q →
  ZD (model X.prog X.w) X.A (call f us) (EP X pins σ Q) X.xe s
def RY (X:Cx) (r:V→Hp→(Bool→Hp→Prop)→Prop):Prop:=
 ∀ (pins:List (Addr×Obj)) (s:Zq) (σ:St) (H:Hp) (x:V) (v:Zj) (Q:Bool→Hp→Prop),Inv X pins σ H s→RelV x v→r x H Q →
  ZD (model X.prog X.w) X.A (truthy v) (TP X pins σ Q) X.xe s
def N6 (r:R2) (ta tb:TE):TE:=λσ H Q=>ta σ H λx H1=>tb σ H1 λy H2=>r x y H2 Q
def VI (r:V→Hp→VK→Prop) (ta:TE):TE:=λσ H Q=>ta σ H λx H1=>r x H1 Q
def rI (C:Int→Int→Prop) (g:Int→Int→V):R2:=λx y H Q=>∃ i j,x=.int i∧y=.int j∧C i j∧Q (g i j) H
def Co (g:Int→Int→V):R2:=λx y H Q=>∃ i j,x=.int i∧y=.int j∧Q (g i j) H
def rU (g:Int→V):V→Hp→VK→Prop:=λx H Q=>∃ i,x=.int i∧Q (g i) H
section
variable {X:Cx} {a b c:Expr} {ta tb tc:TE} {pos:Pos}
theorem KL (ha:PE X a ta) (hb:PE X b tb) {pins:List (Addr×Obj)} {s:Zq} {σ:St} {H:Hp} {R:V→V→Hp→Prop} (I:Inv X pins σ H s)
  (h:ta σ H λx H1=>tb σ H1 λy H2=>R x y H2) {Q:Zj→Zq→Prop} {f:Zj→Zj→Sem Zj}
  (hf:∀ v u s2 x y H2,Inv X pins σ H2 s2→RelV x v→RelV y u→R x y H2→ZD (model X.prog X.w) X.A (f v u) Q X.xe s2) :
  ZD (model X.prog X.w) X.A (eval a X.env) (λv s₁=>ZD (model X.prog X.w) X.A (eval b X.env) (λu s₂=>ZD (model X.prog X.w) X.A (f v u) Q X.xe s₂) X.xe s₁) X.xe s:=by
 refine cO (ha pins s σ H _ I h) λv s1 zz=>?_;obtain ⟨x,H1,I1,r1,q1⟩:=zz;refine cO (hb pins s1 σ H1 _ I1 q1) λu s2 zz=>?_;obtain ⟨y,H2,I2,r2,q2⟩:=zz;exact hf v u s2 x y H2 I2 r1 r2 q2
theorem N7 {op:Operator} (ho:iu X (binaryOp op) r) (ha:PE X a ta) (hb:PE X b tb):PE X (.BinOp a op b pos) (N6 r ta tb):=by intro pins s σ H Q I h;exact wpAny_BinOp (KL ha hb I h λv u s2 x y H2 I2 rx ry q=>ho pins s2 σ H2 x y v u Q I2 rx ry q)
theorem N8 {op:UnaryOp} {r:V→Hp→VK→Prop} (ho:RX X (unaryOp op) r) (ha:PE X a ta):PE X (.UnaryOp op a pos) (VI r ta):=by intro pins s σ H Q I h;exact UnaryOp_ (cO (ha pins s σ H _ I h) λv s1 zz=>by obtain ⟨x,H1,I1,r1,q1⟩:=zz;exact ho pins s1 σ H1 x v Q I1 r1 q1)
theorem KN {f:Zj→Zj→Sem Zj} {C:Int→Int→Prop}
  (rule:∀ (i j:Int) (t u:Tok) (s:Zq) (Q:Zj→Zq→Prop) (E:Zj→Zq→Prop),C i j→Q (.int (g i j) s.toks) {s with toks:=s.toks+1}→ZD (model X.prog X.w) X.A (f (.int i t) (.int j u)) Q E s) :
  iu X f (rI C λi j=>.int (g i j)):=by
 intro pins s σ H x y v u Q I rx ry h;obtain ⟨i,j,rfl,rfl,hc,q⟩:=h;obtain ⟨t,rfl⟩:=rx;obtain ⟨t',rfl⟩:=ry;exact rule i j t t' s _ _ hc ⟨.int (g i j),H,I.tok _,⟨_,rfl⟩,q⟩
theorem Cp {f:Zj→Zj→Sem Zj}
  (rule:∀ (i j:Int) (t u:Tok) (s:Zq) (Q:Zj→Zq→Prop) (E:Zj→Zq→Prop),Q (.int (g i j) s.toks) {s with toks:=s.toks+1}→ZD (model X.prog X.w) X.A (f (.int i t) (.int j u)) Q E s) :
  iu X f (Co λi j=>.int (g i j)):=by
 intro pins s σ H x y v u Q I rx ry h;obtain ⟨i,j,rfl,rfl,q⟩:=h;obtain ⟨t,rfl⟩:=rx;obtain ⟨t',rfl⟩:=ry;exact rule i j t t' s _ _ ⟨.int (g i j),H,I.tok _,⟨_,rfl⟩,q⟩
theorem KO {g:Int→Int→Bool}
  (rule:∀ (i j:Int) (t u:Tok) (s:Zq) (Q:Zj→Zq→Prop) (E:Zj→Zq→Prop),Q (.bool (g i j)) s→ZD (model X.prog X.w) X.A (f (.int i t) (.int j u)) Q E s) :
  iu X f (Co λi j=>.bl (g i j)):=by
 intro pins s σ H x y v u Q I rx ry h;obtain ⟨i,j,rfl,rfl,q⟩:=h;obtain ⟨t,rfl⟩:=rx;obtain ⟨t',rfl⟩:=ry;exact rule i j t t' s _ _ ⟨.bl (g i j),H,I,rfl,q⟩
def RZ (i j:Int):Prop:=0<j∧j<1073741824
def Ga (i j:Int):Prop:=0≤j∧j≤1000000∧i.natAbs<2^64
def KP (i j:Int):Prop:=(-(2^64)<i∧i<2^64)∨(-(2^64)<j∧j<2^64)
theorem KP.ok {i j:Int} (h:KP i j):IntMulOk i j:=by
 rcases h with ⟨h1,h2⟩ | ⟨h1,h2⟩
 ·exact .of_left (intBits_le_64 h1 h2)
 ·exact .of_right (intBits_le_64 h1 h2)
theorem xR (k:Nat):(0:Int)≤2^k:=by rw [two_pow_cast];exact Int.natCast_nonneg _
theorem KQ:iu X (binaryOp .Add) (Co λi j=>.int (i+j)):=Cp λ_ _ _ _ _ _ _ q=>add_int q
theorem KR:iu X (binaryOp .Sub) (Co λi j=>.int (i - j)):=Cp λ_ _ _ _ _ _ _ q=>sub_int q
theorem KS:iu X (binaryOp .Mult) (rI KP λi j=>.int (i*j)):=KN λ_ _ _ _ _ _ _ hc q=>mul_int q hc.ok
theorem Gb:iu X (binaryOp .FloorDiv) (rI RZ λi j=>.int (i / j)):=KN λi j _ _ _ _ _ hc q=>by have h1:(0:Int)<j:=hc.1;have h2:j<1073741824:=hc.2;exact floordiv_int (by nofun) (by rw [abY i (by nofun)];exact q) (.inl (adD (by nofun)))
theorem KU:iu X (binaryOp .Mod) (rI (λ_ j=>0<j) λi j=>.int (i % j)):=KN λi j _ _ _ _ _ hc q=>by have h1:(0:Int)<j:=hc;exact mod_int' (by nofun) (by rw [Int.fmod_eq_emod_of_nonneg i (by nofun)];exact q)
theorem KW:iu X (binaryOp .Pow) (rI Ga λi j=>.int (i^j.toNat)):=KN λ_ _ _ _ _ _ _ hc q=>pow_int_small hc.1 hc.2.1 hc.2.2 q
theorem KY:iu X (binaryOp .LShift) (rI Ga λi j=>.int (i*2^j.toNat)):=KN λ_ _ _ _ _ _ _ hc q=>lshift_int_small hc.1 hc.2.1 hc.2.2 q
theorem KZ:iu X (binaryOp .RShift) (rI (λ_ j=>0≤j) λi j=>.int (i / 2^j.toNat)):=KN λi j _ _ _ _ _ hc q=>
 rshift_int hc (by rw [abY i (xR _)];exact q)
theorem K0:iu X (binaryOp .BitAnd) (Co λi j=>.int (aae i j)):=Cp λ_ _ _ _ _ _ _ q=>and_int q
theorem N9:iu X (binaryOp .BitOr) (Co λi j=>.int (aag i j)):=Cp λ_ _ _ _ _ _ _ q=>or_int q
theorem K1:iu X (binaryOp .BitXor) (Co λi j=>.int (aa2 i j)):=Cp λ_ _ _ _ _ _ _ q=>xor_int q
theorem VJ {f:Zj→Sem Zj} {g:Int→Int}
  (rule:∀ (i:Int) (t:Tok) (s:Zq) (Q:Zj→Zq→Prop) (E:Zj→Zq→Prop),Q (.int (g i) s.toks) {s with toks:=s.toks+1}→ZD (model X.prog X.w) X.A (f (.int i t)) Q E s) :
  RX X f (rU λi=>.int (g i)):=by
 intro pins s σ H x v Q I rx h;obtain ⟨i,rfl,q⟩:=h;obtain ⟨t,rfl⟩:=rx;exact rule i t s _ _ ⟨.int (g i),H,I.tok _,⟨_,rfl⟩,q⟩
theorem K2:RX X (unaryOp .USub) (rU λi=>.int (-i)):=VJ λ_ _ _ _ _ q=>neg_int q
end
section
variable {X:Cx} {a b c:Expr} {ta tb tc:TE} {pos:Pos}
theorem Cq {Q:VK} {k:Bool} (I:Inv X pins σ H s) (q:Q (.bl k) H) (e:k=k'):EP X pins σ Q (.bool k') s:=by subst e;exact ⟨.bl k,H,I,rfl,q⟩
theorem Oa:iu X (compareOp .Lt) (Co λi j=>.bl (decide (i<j))):=KO λ_ _ _ _ _ _ _ q=>lt_int q
theorem Jw:iu X (compareOp .Gt) (Co λi j=>.bl (decide (j<i))):=KO λ_ _ _ _ _ _ _ q=>gt_int q
theorem Ob:iu X (compareOp .GtE) (Co λi j=>.bl (decide (j≤i))):=KO λ_ _ _ _ _ _ _ q=>ge_int q
theorem Am:iu X (compareOp .In) (λx y H Q=>∃ i j,x=.str i∧y=.str j∧Q (.bl (!(adn j i 0 j.length 1).isEmpty)) H):=by intro pins s σ H x y v u Q I rx ry h;obtain ⟨i,j,rfl,rfl,q⟩:=h;obtain ⟨t,rfl⟩:=rx;obtain ⟨t',rfl⟩:=ry;exact in_str (Cq I q rfl)
theorem Ge:iu X (compareOp .IsNot) (λx y H Q=>y=.cy∧Q (.bl (!decide (x=.cy))) H):=by
 intro pins s σ H x y v u Q I rx ry h;obtain ⟨rfl,q⟩:=h;cases ry;refine isnot_none_gen (Cq I q ?_)
 cases x<;>first
  | (cases rx;rfl)
  | (obtain ⟨t,rfl⟩:=rx;rfl)
theorem iu.or {r':R2} (h:iu X f r) (h':iu X f r'):iu X f (λx y H Q=>r x y H Q∨r' x y H Q):=by
 intro pins s σ H x y v u Q I rx ry q;rcases q with q | q
 ·exact h pins s σ H x y v u Q I rx ry q
 ·exact h' pins s σ H x y v u Q I rx ry q
theorem Cr (b:Expr) {op:CmpOp} (h:op≠.In:=by decide) (h2:op≠.NotIn:=by decide):behindInMarks op b=Zk:=by
 have e1:(op==CmpOp.In)=Zk:=by cases op<;>first | rfl | exact absurd rfl h
 have e2:(op==CmpOp.NotIn)=Zk:=by cases op<;>first | rfl | exact absurd rfl h2
 cases b<;>simp [behindInMarks,e1,e2]
theorem Gf (ho:iu X (compareOp op) r) (ha:PE X a ta) (hb:PE X b tb) (hm:behindInMarks op b=Zk):PE X (.Compare a [op] [b] pos) (N6 r ta tb):=by intro pins s σ H Q I h;exact wpAny_Compare1 (KL ha hb I h λv u s2 x y H2 I2 rx ry q=>ho pins s2 σ H2 x y v u Q I2 rx ry q) hm
def Oc (t:TE):TT:=λσ H Q=>t σ H λx H'=>∃ k,x=.bl k∧Q k H'
theorem Gg (ho:iu X (compareOp op) r) (ha:PE X a ta) (hb:PE X b tb) (hm:behindInMarks op b=Zk):PT X (.Compare a [op] [b] pos) (Oc (N6 r ta tb)):=by
 intro pins s σ H Q I h;refine wpAny_isTrue_Compare1 (cO (ha pins s σ H _ I h) λv s1 ⟨x,H1,I1,r1,q1⟩=>cO (hb pins s1 σ H1 _ I1 q1) λu s2 ⟨y,H2,I2,r2,q2⟩=>
  cO (ho pins s2 σ H2 x y v u _ I2 r1 r2 q2) λc s3 ⟨z,H3,I3,r3,k,e,q3⟩=>?_) hm
 subst e;cases r3;exact abx ⟨H3,I3,q3⟩
def K3 (K:Zo) (x:V) (H:Hp) (k:Bool):Prop:=
 match x with
 | .cy=>k=Zk
 | .bl b=>k=b
 | .int i=>k=(i != 0)
 | .str y=>y.length≤Zm∧k=((y.length:Int) != 0)
 | .Nm y=>y.size≤Zm∧k=((y.size:Int) != 0)
 | .ref p=>(∃ xs,kE K H p xs∧k=!xs.isEmpty)∨(∃ xs,lq K H p xs∧k=!xs.isEmpty)∨∃ kvs,H p=Zg (.dK kvs)∧k=!kvs.isEmpty
 | _=>False
theorem xS {κ:Type} {kvs:List (κ×V)} {vs:List (κ×Zj)} (r:KV kvs vs):(!vs.isEmpty)=!kvs.isEmpty:=by cases r<;>rfl
theorem pK (r:Vals xs its):(!its.toArray.isEmpty)=!xs.isEmpty:=by cases r<;>simp
theorem lA:(Zm:Nat)<2^63:=by rw [sizeLine_eq];decide
theorem K4:RY X (λx H Q=>∃ k,K3 X.K x H k∧Q k H):=by
 intro pins s σ H x v Q I rx h;obtain ⟨k,e,q⟩:=h;have hl:=lA;have hs:Zm=16777216:=sizeLine_eq;cases x with
 | cy=>cases rx;have e':k=Zk:=e;subst e';exact truthy_none ⟨H,I,q⟩
 | bl b=>cases rx;have e':k=b:=e;subst e';exact abx ⟨H,I,q⟩
 | int i=>obtain ⟨t,rfl⟩:=rx;have e':k=(i != 0):=e;subst e';exact PySem.P.truthy_int ⟨H,I,q⟩
 | str y=>obtain ⟨t,rfl⟩:=rx;obtain ⟨hy,e'⟩:y.length≤Zm∧k=((y.length:Int) != 0):=e;subst e';exact PySem.P.truthy_str (by nofun) ⟨H,I.tok _,q⟩
 | Nm y=>obtain ⟨t,rfl⟩:=rx;obtain ⟨hy,e'⟩:y.size≤Zm∧k=((y.size:Int) != 0):=e;subst e';exact PySem.W.truthy_bytes (by nofun) ⟨H,I.tok _,q⟩
 | ref p=>
  cases rx;have e':(∃ xs,kE X.K H p xs∧k=!xs.isEmpty)∨(∃ xs,lq X.K H p xs∧k=!xs.isEmpty)∨∃ kvs,H p=Zg (.dK kvs)∧k=!kvs.isEmpty:=e;rcases e' with ⟨xs,hx,e'⟩ | ⟨xs,hx,e'⟩ | ⟨kvs,hx,e'⟩
  ·subst e';obtain ⟨its,r,pl,hz⟩:=I.list hx;have hlen:=r.length;exact wpAny_truthy_list pl.isList (by simp only [ZA];nofun) ⟨H,I.tok _,by rw [pK r];exact q⟩
  ·subst e';obtain ⟨its,r,pl,hz⟩:=I.tuple hx;have hlen:=r.length;exact truthy_tuple pl (by simp only [ZA];nofun) ⟨H,I.tok _,by rw [pK r];exact q⟩
  ·subst e';obtain ⟨hz,hS,vs,r,m⟩:kvs.length≤Zm∧(p==sysModules)=Zk∧∃ vs,KV kvs vs∧s.heap.DictOf (gx X.prog X.w) p vs:=I.hok p _ hx;have hlen:kvs.length=vs.length:=adf r;exact wpAny_truthy_dict hS m (by nofun) ⟨H,I.tok _,by rw [xS r];exact q⟩
 | _=>exact (show False from e).elim
theorem Ct (ha:PE X a ta) (he:∀ whole,isTrue a X.env whole=(do let v ← whole;standAt a.pos;holding [v] (truthy v))) :
  PT X a (λσ H Q=>ta σ H λx H'=>∃ k,K3 X.K x H' k∧Q k H'):=by
 intro pins s σ H Q I h;exact isTrue_plain (cO (ha pins s σ H _ I h) λv s1 zz=>by obtain ⟨x,H1,I1,r1,q1⟩:=zz;exact K4 pins s1 σ H1 x v Q I1 r1 q1) (he _)
theorem xT:iu X (binaryOp .Add) (λx y H Q=>∃ i j,x=.str i∧y=.str j∧i.length+j.length≤Zm∧Q (.str (i++j)) H):=by intro pins s σ H x y v u Q I rx ry h;obtain ⟨i,j,rfl,rfl,hz,q⟩:=h;obtain ⟨t,rfl⟩:=rx;obtain ⟨t',rfl⟩:=ry;exact gS I.os.2 (add_str (λt' tk ht=>⟨.str (i++j),H,I.tok _,⟨_,rfl⟩,q⟩) hz)
theorem vals1 {x:V} (r:Vals [x] us):∃ u,us=[u]∧RelV x u:=by
 cases r with
 | cons r1 r2=>cases r2;exact ⟨_,rfl,r1⟩
theorem vals2 {x:V} (r:Vals [x,y] us):∃ u w',us=[u,w']∧RelV x u∧RelV y w':=by
 cases r with
 | cons r1 r2=>
  cases r2 with
  | cons r3 r4=>cases r4;exact ⟨_,_,rfl,r1,r3⟩
theorem An (hc:X.calm=Zh):c9 X (.builtin "max") (λxs H Q=>∃ i j,xs=[.int i,.int j]∧Q (.int (if j > i then j else i)) H):=by
 intro pins s σ H xs us Q I r h;obtain ⟨i,j,rfl,q⟩:=h;obtain ⟨u,w',rfl,⟨t,rfl⟩,⟨t',rfl⟩⟩:=vals2 r;refine gS I.os.2 <| max_two_ints (I.ok.hd hc) λh' tk k ht=>⟨_,H,I.kept k,?_,q⟩;by_cases hj:j > i
 ·rw [if_pos hj,if_pos hj];exact ⟨_,rfl⟩
 ·rw [if_neg hj,if_neg hj];exact ⟨_,rfl⟩
theorem Ao (hc:X.calm=Zh):c9 X (.builtin "min") (λxs H Q=>∃ i j,xs=[.int i,.int j]∧Q (.int (if j<i then j else i)) H):=by
 intro pins s σ H xs us Q I r h;obtain ⟨i,j,rfl,q⟩:=h;obtain ⟨u,w',rfl,⟨t,rfl⟩,⟨t',rfl⟩⟩:=vals2 r;refine gS I.os.2 <| min_two_ints (I.ok.hd hc) λh' tk k ht=>⟨_,H,I.kept k,?_,q⟩;by_cases hj:j<i
 ·rw [if_pos hj,if_pos hj];exact ⟨_,rfl⟩
 ·rw [if_neg hj,if_neg hj];exact ⟨_,rfl⟩
theorem rR:c9 X (.type "int") (λxs H Q=>(∃ i,xs=[.int i]∧Q (.int i) H)∨∃ k,xs=[.bl k]∧Q (.int (if k then 1 else 0)) H):=by
 intro pins s σ H xs us Q I r h;rcases h with ⟨i,rfl,q⟩ | ⟨k,rfl,q⟩
 ·obtain ⟨u,rfl,t,rfl⟩:=vals1 r;exact call_int_int ⟨.int i,H,I,⟨_,rfl⟩,q⟩
 ·obtain ⟨u,rfl,r1⟩:=vals1 r;cases r1;exact call_int_bool ⟨.int (if k then 1 else 0),H,I.tok _,⟨_,rfl⟩,q⟩
theorem xU:c9 X (.type "bool") (λxs H Q=>(∃ i,xs=[.int i]∧Q (.bl (i != 0)) H)∨∃ k,xs=[.bl k]∧Q (.bl k) H):=by
 intro pins s σ H xs us Q I r h;rcases h with ⟨i,rfl,q⟩ | ⟨k,rfl,q⟩
 ·obtain ⟨u,rfl,t,rfl⟩:=vals1 r;exact call_bool_int ⟨.bl (i != 0),H,I,rfl,q⟩
 ·obtain ⟨u,rfl,r1⟩:=vals1 r;cases r1;exact call_bool_bool ⟨.bl k,H,I,rfl,q⟩
end
structure xV (h:Heap) (x dx C:Addr) (mA:Str→Option Zj):Prop where
 obj:h.get? x=Zg (aa8 C dx)
 ns:h.Ns1 dx mA
 ne:dx≠x
theorem Aq (n:h.Ns1 dx mA):∃ od,h.get? dx=Zg od∧∀ name,ac2 name od=Zg (mA name):=by
 obtain ⟨o,es,ep,ho,hd,hk,_,hm⟩:=n;refine ⟨o,ho,λname=>?_⟩;have e:=hm name;unfold nsFind findBy at e;rw [← Array.find?_toList] at e;unfold ac2;rw [hd];dsimp only;split
 ·rename_i y q;rw [q] at e;exact congrArg Zg e
 ·rename_i q;rw [q] at e;have a:es.toList.any (·.refKey)=Zk:=by rw [List.any_eq_false];intro y hy;obtain ⟨z,t,hkey⟩:=hk y (Array.mem_toList_iff.mp hy);simp [DictEntry.refKey,hkey]
  have a':¬ es.toList.any (·.refKey)=Zh:=by rw [a];exact ZX
  rw [if_neg a'];exact congrArg Zg e
theorem xV.look {x:Addr} (I:xV h x dx C mA):∃ od,PySem.W.InstAt h x (aa8 C dx) C (Zg od)∧∀ name,ac2 name od=Zg (mA name):=
 let ⟨od,ho,hl⟩:=Aq I.ns
 ⟨od,⟨I.obj,rfl,rfl,ho⟩,hl⟩
section
variable {prog:ZT} {w:aaa} {A:Around} {E:Zj→Zq→Prop} {s:Zq} {K:Zo} {x dx C f:Addr} {mA:Str→Option Zj} {name:Str} {v:Zj}
theorem get_map {expr:Bool} (X:K.In s.heap) (I:xV s.heap x dx C mA) (hg:acD K C name=Zh) (hh:ac9 K C=Zh)
  (ha:aas K (.ref C) name=Zg Zl) (hv:mA name=Zg v) (hv':aeJ v=Zh) (h:Q v {s with toks:=s.toks+1}) :
  ZD (model prog w) A (getAttr (.ref x) name expr) Q E s:=by
 obtain ⟨od,J,hl⟩:=I.look;exact PySem.W.get_value X J (acR hg).1 (PySem.W.findObj_own hh ha rfl (by rw [hl,hv])) hv' h
theorem Cu {Q:Zj×List Zj→Zq→Prop} (X:K.In s.heap) (I:xV s.heap x dx C mA) (hg:acD K C name=Zh)
  (hf:aas K (.ref C) name=Zg (Zg (.ref f))) (ht:acW K (.ref f)=Zh) (hv:mA name=Zl) (h:Q (.ref f,[.ref x]) s) :
  ZD (model prog w) A (getMethod (.ref x) name pl) Q E s:=by
 obtain ⟨od,J,hl⟩:=I.look;exact PySem.W.method_fn X J (acR hg).1 (acR hg).2 hf (beq_iff_eq.mp ht) (by show (ac2 name od).map (·.isSome)=Zg Zk;rw [hl,hv];rfl) h
theorem Gh {Q:Unit→Zq→Prop} (X:K.In s.heap) (I:xV s.heap x dx C mA)
  (hs:aas K (.ref C) "__setattr__"=Zg (Zg (.builtin "object.__setattr__"))) (hp:aer K C=Zh) (ht:adJ K C name=Zg Zl) (hh:ac9 K C=Zh)
  (hw:adB mA ns) (hsz:ns.length≤Zm)
  (h:∀ h',xV h' x dx C (λy=>if y=name then Zg v else mA y)→abc dx s.heap h'→Q () {s with heap:=h',toks:=s.toks+2}) :
  ZD (model prog w) A (setAttr (.ref x) name v) Q E s:=by
 obtain ⟨od,J,hl⟩:=I.look;refine PySem.W.set_plain X J hs (PySem.W.osa_open (s:={s with toks:=s.toks+1}) (r:=Zl) X J hp ht λb=>?_);obtain ⟨cd,hc,hd'⟩:=PySem.W.any_some hh;have hx:s.heap.get? x=Zg ⟨.ref C,Zg dx,.plain,#[]⟩:=I.obj;refine Zi (Zz (Zi (Zi (wpAny_loadPart hx (Zi (PySem.W.Looks.here (s:={s with toks:=s.toks+1}) (PySem.W.looks_clsIn X hc) ?_))))));rw [hd'];refine Zz (a:=Zg dx) (Zi (Zz (Zi ?_)));refine wpAny_nsSet1 (s:={s with toks:=s.toks+1}) I.ns λh' hn2 hs2=>?_;obtain ⟨oD,esD,Yq,VL,VM,VN⟩:=hn2.count (adB.cons name v hw);refine Zi (wpAny_lookBehind VL (by rw [VM];exact pastItsLine_dict (aal VN (by rw [ZN];nofun))) ?_);exact Zz (h _ ⟨(hs2.2 _ (aat I.ne)).trans I.obj,hn2,I.ne⟩ hs2)
theorem Cv {vs:List Zj} (X:K.In s.heap) (hm:adK K C=Zh)
  (hi:aas K (.ref C) "__init__"=Zg (Zg (.ref f))) (hf:PySem.W.typeIn K (.ref f)=Zg (.type "function"))
  (h:codeAny (model prog w) (A.under (.builtin "type.__call__" ⟨.ref C::vs,kw⟩)) (.call (.ref f) ⟨.ref (s.heap.objs.size+1)::vs,kw⟩) (PySem.W.InitBack (s.heap.objs.size+1) R)
   {s with heap:=(s.heap.push aaC).push (aa8 C s.heap.objs.size)}) :
  codeAny (model prog w) A (.call (.ref C) ⟨vs,kw⟩) R s:=by
 obtain ⟨hh,g,d,t,os⟩:=s;exact PySem.W.make_core (PySem.W.makes_of X hm) (PySem.W.looks_findIn X hi) (λself=>PySem.W.bind_fn X self hf) (.inl rfl) h
end
def jt (f:Str) (v:V):List (Str×V)→List (Str×V)
 | []=>[(f,v)]
 | (g,x)::r=>if g=f then (g,v)::r else (g,x)::jt f v r
theorem nT (f g:Str) (v:V):∀ fs:List (Str×V),(jt f v fs).lookup g=if g=f then Zg v else fs.lookup g
 | []=>by
  show aak g [(f,v)]=_;by_cases h:g=f
  ·have hb:(g==f)=Zh:=beq_iff_eq.mpr h;simp only [aak,hb,if_pos h]
  ·have hb:(g==f)=Zk:=beq_eq_false_iff_ne.mpr h;simp only [aak,hb,if_neg h]
 | (k,x)::r=>by
  have ih:=nT f g v r;rw [show jt f v ((k,x)::r)=(if k=f then (k,v)::r else (k,x)::jt f v r) from rfl];by_cases hk:k=f
  ·rw [if_pos hk];by_cases h:g=k
   ·have hb:(g==k)=Zh:=beq_iff_eq.mpr h;simp only [aak,hb,if_pos (h.trans hk)]
   ·have hb:(g==k)=Zk:=beq_eq_false_iff_ne.mpr h;simp only [aak,hb,if_neg (λe:g=f=>h (e.trans hk.symm))]
  ·rw [if_neg hk];by_cases h:g=k
   ·have hb:(g==k)=Zh:=beq_iff_eq.mpr h;simp only [aak,hb,if_neg (λe:g=f=>hk (h.symm.trans e))]
   ·have hb:(g==k)=Zk:=beq_eq_false_iff_ne.mpr h;simp only [aak,hb];exact ih
theorem m8 (f:Str) (v:V):∀ fs:List (Str×V),f∈(jt f v fs).map (·.1)∧∀ g,g∈fs.map (·.1)→g∈(jt f v fs).map (·.1)
 | []=>⟨by simp [jt],λg h=>by simp at h⟩
 | (k,x)::r=>by
  obtain ⟨i1,i2⟩:=m8 f v r;rw [show jt f v ((k,x)::r)=(if k=f then (k,v)::r else (k,x)::jt f v r) from rfl];by_cases hk:k=f
  ·rw [if_pos hk];subst hk;exact ⟨by simp,λg h=>by simpa using h⟩
  ·rw [if_neg hk];refine ⟨?_,λg h=>?_⟩
   ·rw [Zy];exact ZY _ i1
   ·rw [Zy] at h ⊢;rcases ZM.mp h with e | e
    ·exact ZM.mpr (.inl e)
    ·exact ZY _ (i2 g e)
theorem nU (f:Str) (v:V):∀ fs:List (Str×V),(jt f v fs).length≤fs.length+1
 | []=>by simp [jt]
 | (k,x)::r=>by
  have ih:=nU f v r;rw [show jt f v ((k,x)::r)=(if k=f then (k,v)::r else (k,x)::jt f v r) from rfl];by_cases hk:k=f
  ·rw [if_pos hk,ZN,ZN];nofun
  ·rw [if_neg hk,ZN,ZN];nofun
theorem jY.some_of {o:Option Zj} (r:jY (Zg v) o):∃ u,o=Zg u∧RelV v u:=by
 cases o with
 | none=>exact (show False from r).elim
 | some u=>exact ⟨u,rfl,r⟩
theorem jY.none_of {o:Option Zj} (r:jY Zl o):o=Zl:=by
 cases o with
 | none=>rfl
 | some u=>exact (show False from r).elim
theorem Ar (r:RelV v u):aeJ u=Zh:=by
 cases v with
 | cy=>cases (show u=Value.none from r);rfl
 | bl b=>cases (show u=Value.bool b from r);rfl
 | int i=>obtain ⟨t,e⟩:=(show ∃ t,u=Value.int i t from r);cases e;rfl
 | str x=>obtain ⟨t,e⟩:=(show ∃ t,u=Value.str x t from r);cases e;rfl
 | Nm b=>obtain ⟨t,e⟩:=(show ∃ t,u=Value.bytes b t from r);cases e;rfl
 | Nn b=>obtain ⟨t,e⟩:=(show ∃ t,u=Value.float b t from r);cases e;rfl
 | ref a=>cases (show u=Value.ref a from r);rfl
 | ty n=>cases (show u=Value.type n from r);rfl
section
variable {P:ZT} {w:aaa} {H H':Hp} {h h':Heap} {a C dx:Addr} {fs fs':List (Str×V)}
theorem tQ (hok:jo P w H h) (e:H a=Zg (.ins C dx fs)):∃ mA,xV h a dx C mA∧(∀ f,jY (fs.lookup f) (mA f))∧adB mA (fs.map (·.1))∧fs.length≤1000∧H dx=Zg (.own a):=by obtain ⟨d,z,ne,ob,mA,n,r,q⟩:=(show eF P w H h a (.ins C dx fs) from hok a _ e);exact ⟨mA,⟨ob,n,ne⟩,r,q,z,d⟩
end
structure uZ (K:Zo) (C:Addr):Prop where
 pg:acD K C Str.empty=Zh
 hd:ac9 K C=Zh
 po:aer K C=Zh
 sa:aas K (.ref C) "__setattr__"=Zg (Zg (.builtin "object.__setattr__"))
theorem uZ.get (c:uZ K C) (f:Str):acD K C f=Zh:=c.pg
def fL (K:Zo) (C:Addr) (f:Str):Prop:=aas K (.ref C) f=Zg Zl
theorem fL.Od {f:Str} (n:fL K C f):adJ K C f=Zg Zl:=by unfold adJ;rw [show aas K (.ref C) f=Zg Zl from n];rfl
structure Yr (K:Zo) (C:Addr) (f:Str) (v:V) (u:Zj):Prop where
 at_:aas K (.ref C) f=Zg (Zg u)
 rel:RelV v u
 get:aes K u "__get__"=Zg Zl
 cp:PySem.W.copiedNames.contains f=Zk
structure Meth (K:Zo) (C:Addr) (m:Str) (f:Addr):Prop where
 at_:aas K (.ref C) m=Zg (Zg (.ref f))
 fn:acW K (.ref f)=Zh
 kp:Z5 K (.ref f)=Zh
section
variable {X:Cx} {pins:List (Addr×Obj)} {σ:St} {H:Hp} {s:Zq} {a C dx:Addr} {fs:List (Str×V)} {f:Str} {v:V} {A:Around} {E:Zj→Zq→Prop}
theorem xW {b:Bool} (I:Inv X pins σ H s) (e:H a=Zg (.ins C dx fs)) (c:uZ X.K C) (n:fL X.K C f) (l:fs.lookup f=Zg v)
  (h:∀ u s',Inv X pins σ H s'→RelV v u→Q u s'):ZD (model X.prog X.w) A (getAttr (.ref a) f b) Q E s:=by
 obtain ⟨mA,O,r,_,_,_⟩:=tQ I.hok e;obtain ⟨u,hu,ru⟩:=jY.some_of (v:=v) (o:=mA f) (by rw [← l];exact r f);exact get_map I.oY O (c.get f) c.hd n hu (Ar ru) (h u _ (I.tok _) ru)
theorem xX {g:Addr} {Q:Zj×List Zj→Zq→Prop} (I:Inv X pins σ H s) (e:H a=Zg (.ins C dx fs)) (c:uZ X.K C) (k:Meth X.K C m g) (l:fs.lookup m=Zl)
  (h:Q (.ref g,[.ref a]) s):ZD (model X.prog X.w) A (getMethod (.ref a) m pl) Q E s:=by
 obtain ⟨mA,O,r,_,_,_⟩:=tQ I.hok e;have hn:mA m=Zl:=jY.none_of (by rw [← l];exact r m);exact Cu I.oY O (c.get m) k.at_ k.fn hn h
theorem xY {Q:Unit→Zq→Prop} (I:Inv X pins σ H s) (e:H a=Zg (.ins C dx fs)) (c:uZ X.K C) (n:fL X.K C f) (hl:fs.length<1000) (ry:RelV y u)
  (h:∀ s',Inv X pins σ (upd H a (.ins C dx (jt f y fs))) s'→Q () s'):ZD (model X.prog X.w) A (setAttr (.ref a) f u) Q E s:=by
 obtain ⟨mA,O,r,wi,_,ho⟩:=tQ I.hok e;have hz:(fs.map (·.1)).length≤Zm:=by rw [ZG,sizeLine_eq];nofun
 refine Gh I.oY O c.sa c.po n.Od c.hd wi hz λh' O' sb=>h _ ?_;have hd:∃ o,h'.get? dx=Zg o:=let ⟨o,_,_,e',_⟩:=O'.ns;⟨o,e'⟩
 refine I.write (x:=a) (e:=dx) (by rw [e];exact abi) (.inr ho) (λb q hb z=>(sb.2 b hb).trans z) hd ?_;refine ⟨by rw [aA O.ne];exact ho,?_,O.ne,O'.obj,_,O'.ns,λg=>?_,λg hg=>?_⟩
 ·have:=nU f y fs;nofun
 ·show jY ((jt f y fs).lookup g) (if g=f then Zg u else mA g);rw [nT];by_cases q:g=f
  ·rw [if_pos q,if_pos q];exact ry
  ·rw [if_neg q,if_neg q];exact r g
 ·by_cases q:g=f
  ·rw [q];exact (m8 f y fs).1
  ·refine (m8 f y fs).2 g (wi g λz=>hg ?_);show (if g=f then Zg u else mA g)=Zl;rw [if_neg q];exact z
theorem Inv.made (I:Inv X pins σ H s):Inv X pins σ (upd (upd H s.heap.objs.size (.own (s.heap.objs.size+1))) (s.heap.objs.size+1) (.ins C s.heap.objs.size []))
  {s with heap:=(s.heap.push aaC).push (aa8 C s.heap.objs.size)}:=by
 have e1:(s.heap.push aaC).get? s.heap.objs.size=Zg aaC:=Zv s.heap rfl;have e2:((s.heap.push aaC).push (aa8 C s.heap.objs.size)).get? (s.heap.objs.size+1)=Zg (aa8 C s.heap.objs.size):=by
  have:=Zv (s.heap.push aaC) (o:=aa8 C s.heap.objs.size) rfl
  rwa [aaF] at this
 have e3:(s.heap.push aaC).Ns s.heap.objs.size (λ_=>Zl):=⟨aaC,#[],_,e1,rfl,(λe he=>absurd he (by simp)),λ_=>rfl⟩;have I1:=I.laid (a:=s.heap.objs.size) (o:=.own (s.heap.objs.size+1)) (h':=s.heap.push aaC) (t':=s.toks) (λb u q=>Zn _ q) (Zs _) ⟨_,e1⟩;refine I1.laid (a:=s.heap.objs.size+1) (o:=.ins C s.heap.objs.size []) (t':=s.toks) (λb u q=>Zn _ q) (Nat.le_of_eq (aaF _ _)) ?_;have ne:s.heap.objs.size≠s.heap.objs.size+1:=ZE (aaB _);refine ⟨by rw [aA ne,aN],abe _,ne,e2,λ_=>Zl,(Heap.Ns1.of_empty e3).at λo q=>Zn _ q,λ_=>abi,λy hy=>absurd rfl hy⟩
theorem Gi {f:Str} (hb:attributeBase e f env (eval e env)=eval e env)
  (h:ZD (model prog w) A (eval e env) (λo s₁=>ZD (model prog w) A (getAttr o f Zh) Q E s₁) E s):ZD (model prog w) A (eval (.Attribute e f pos) env) Q E s:=
 Attribute_any_ h (by rw [arm_eval_Attribute,hb])
end
def R0 (K:Zo) (ta:TE) (f:Str):TE:=λσ H Q=>ta σ H λx H1=>∃ a C dx fs v,x=.ref a∧H1 a=Zg (.ins C dx fs)∧uZ K C∧fL K C f∧fs.lookup f=Zg v∧Q v H1
def R3 (K:Zo) (ta tv:TE) (f:Str):TS:=λD σ H=>tv σ H λy H1=>ta σ H1 λx H2=>∃ a C dx fs,x=.ref a∧H2 a=Zg (.ins C dx fs)∧uZ K C∧fL K C f∧fs.length<1000 ∧
 D.nx σ (upd H2 a (.ins C dx (jt f y fs)))
section
variable {X:Cx} {o e value:Expr} {f:Str} {pos pos' tpos:Pos} {ta tv:TE}
theorem K5 (he:PE X e ta) (hb:attributeBase e f X.env (eval e X.env)=eval e X.env):PE X (.Attribute e f pos) (R0 X.K ta f):=by intro pins s σ H Q I h;refine Gi hb (cO (he pins s σ H _ I h) λu s1 zz=>?_);obtain ⟨x,H1,I1,rx,a,C,dx,fs,v,ex,ea,c,n,l,q⟩:=zz;subst ex;obtain rfl:u=Value.ref a:=rx;exact xW I1 ea c n l λu' s2 I2 ru=>⟨v,H1,I2,ru,q⟩
theorem K6 (ha:PE X o ta) (hv:PE X value tv) (hs:swapsWith value (Zg (.Attribute o f pos')) pos.line X.env=pure Zk):PS X (.Assign [.Attribute o f pos'] value pos) (R3 X.K ta tv f):=by intro pins s σ H D I h;refine plainObj_wpAny_Assign_Attribute (cO (hv pins s σ H _ I h) λu s1 ⟨y,H1,I1,ry,q⟩=>cO (ha pins s1 σ H1 _ I1 q) λov s2 zz=>?_) hs;obtain ⟨x,H2,I2,rx,a,C,dx,fs,ex,ea,c,n,l,q2⟩:=zz;subst ex;obtain rfl:ov=Value.ref a:=rx;exact xY I2 ea c n l ry λs3 I3=>⟨σ,_,I3,q2⟩
end
section
variable {X:Cx} {pins:List (Addr×Obj)} {σ:St} {H:Hp} {s:Zq} {A:Around} {E:Zj→Zq→Prop} {Q:Zj→Zq→Prop} {c:Zj} {b:Bool}
inductive pL (K:Zo) (H:Hp):V→Zj→Prop where
 | cy:pL K H .cy (.type "NoneType")
 | bl (x:Bool):pL K H (.bl x) (.type "bool")
 | int (i:Int):pL K H (.int i) (.type "int")
 | str (x:Str):pL K H (.str x) (.type "str")
 | Nn (x:UInt64):pL K H (.Nn x) (.type "float")
 | lst {a:Addr} {xs:List V} (e:H a=Zg (.lst xs)):pL K H (.ref a) (.type "list")
 | dz {a:Addr} {o:Obj} {xs:List V} (e:H a=Zg (.dz o (.lst xs))):pL K H (.ref a) (.type "list")
 | tup {a:Addr} {xs:List V} (e:H a=Zg (.tup xs)):pL K H (.ref a) (.type "tuple")
 | dK {a:Addr} {kvs:List (Key×V)} (e:H a=Zg (.dK kvs)):pL K H (.ref a) (.type "dict")
 | dT {a:Addr} {kvs:List (List Key×V)} (e:H a=Zg (.dT kvs)):pL K H (.ref a) (.type "dict")
 | ins {a C dx:Addr} {fs:List (Str×V)} (e:H a=Zg (.ins C dx fs)) (cl:uZ K C) (ha:aas K (.ref C) "__class__"=Zg (Zg (.builtin "object.__class__")))
   (hn:aes K (.builtin "object.__class__") "__get__"=Zg (Zg (.builtin "getset_descriptor.__get__"))) (htk:PySem.W.takesIn K (.builtin "object.__class__")=Zg Zh)
   (hm:PySem.W.mroIn K C (.type "object")=Zg Zh):pL K H (.ref a) (.ref C)
end
structure cP (k:Nat) (A:Around):Prop where
 hd:A.handled=Zl
 dp:A.depth+3*k+5<recursionLimit
 un:A.units+16*k+600<cLine
theorem cP.mono {k:Nat} (r:cP k A) (h:j≤k):cP j A:=⟨r.hd,by have:=r.dp;nofun,by have:=r.un;nofun⟩
theorem cP.deeper {k:Nat} (r:cP (k+1) A) (env:Env):cP k (A.deeper env):=
 ⟨r.hd,by have:=r.dp;show A.depth+1+3*k+5<_;nofun,by have:=r.un;show A.units+3+16*k+600<_;nofun⟩
theorem cP.in1 {k:Nat} (r:cP (k+1) A):cP k A.in1:=
 ⟨r.hd,by have:=r.dp;show A.depth+3*k+5<_;nofun,by have:=r.un;show A.units+1+16*k+600<_;nofun⟩
theorem xZ:(A.under (.builtin "type.__call__" ⟨.ref C::us,kw⟩)).depth=A.depth+1:=by
 first | rfl | simp [aet,Code.weight,Code.isCreation,Code.isGuard,Code.isCaller,Code.frames,aeu,guardIds]
theorem x6:(A.under (.builtin "type.__call__" ⟨.ref C::us,kw⟩)).units=A.units+1:=by
 first | rfl | simp [aet,Code.cUnits,Code.frames,aeu]
theorem cP.make {k:Nat} (r:cP (k+1) A) (C:Addr) (us:List Zj) (kw:List (Str×Zj)):cP k (A.under (.builtin "type.__call__" ⟨.ref C::us,kw⟩)):=
 ⟨r.hd,by have:=r.dp;rw [xZ];nofun,by have:=r.un;rw [x6];nofun⟩
theorem cP.depth {k:Nat} (r:cP k A):A.depth<recursionLimit:=by have:=r.dp;nofun
theorem cP.units {k:Nat} (r:cP k A):A.units+64<cLine:=by have:=r.un;nofun
def Gj:TA:=λ_ H Q=>Q [] H
def ze (ta:TE) (tr:TA):TA:=λσ H Q=>ta σ H λx H1=>tr σ H1 λxs H2=>Q (x::xs) H2
section
variable {X:Cx} {e:Expr} {es:List Expr} {te:TE} {t:TA} {pos:Pos}
theorem x8:PA X [] Gj:=λ_ _ _ _ H Q I h=>aa6 ⟨[],H,I,.nil,h⟩
theorem tR (ha:PE X e te) (hr:PA X es t) (hs:ZF (e::es) X.env=(Zk,eval e X.env)::ZF es X.env:=by rfl):PA X (e::es) (ze te t):=by intro pos pins s σ H Q I h;rw [hs];show ZD _ _ (spliced ((Zk,eval e X.env)::backTo pos (ZF es X.env))) _ _ s;refine aaz (cO (ha pins s σ H _ I h) λu s1 zz=>?_);obtain ⟨x,H1,I1,r1,q1⟩:=zz;exact cO (hr pos pins s1 σ H1 _ I1 q1) λus s2 zz=>by obtain ⟨xs,H2,I2,r2,q2⟩:=zz;exact ⟨x::xs,H2,I2,.cons r1 r2,q2⟩
def R4 (t:TA):TE:=λσ H Q=>t σ H λxs H1=>xs.length≤Zm∧∀ p,H1 p=Zl→Q (.ref p) (upd H1 p (.tup xs))
def R5 (t:TA):TE:=λσ H Q=>t σ H λxs H1=>xs.length≤Zm∧∀ p,H1 p=Zl→Q (.ref p) (upd H1 p (.lst xs))
theorem K7 {x1} (h:PA X es t):PE X (.Tuple es x1 pos) (R4 t):=by intro pins s σ H Q I hq;refine wpAny_Tuple_spliced (cO (h pos pins s σ H _ I hq) λus s1 ⟨xs,H1,I1,r,z,q⟩=>⟨by rw [← r.length];exact z,?_⟩);have hf:H1 s1.heap.objs.size=Zl:=I1.hok.fresh (Zs _);refine ⟨.ref s1.heap.objs.size,upd H1 s1.heap.objs.size (.tup xs),I1.laid (t':=s1.toks) (λb u e=>Zn _ e) (Zs _) ?_,rfl,q _ hf⟩;exact ⟨z,us,r,⟨_,Zv _ rfl,rfl,_,rfl⟩⟩
theorem K8 (h:PA X es t):PE X (.List es pos) (R5 t):=by intro pins s σ H Q I hq;refine wpAny_List_spliced (cO (h pos pins s σ H _ I hq) λus s1 ⟨xs,H1,I1,r,z,q⟩=>⟨by rw [← r.length];exact z,?_⟩);have hf:H1 s1.heap.objs.size=Zl:=I1.hok.fresh (Zs _);refine ⟨.ref s1.heap.objs.size,upd H1 s1.heap.objs.size (.lst xs),I1.laid (t':=s1.toks) (λb u e=>Zn _ e) (Zs _) ?_,rfl,q _ hf⟩;exact ⟨z,us,0,r,Zv _ rfl⟩
end
abbrev Sp:=List V→Hp→VK→XK→Prop
variable {sp Oe:Sp}
abbrev mY:=List Env→Hp→Zq→XK→Zj→Zq→Prop
variable {CX:mY}
structure m9 (P:ZT) (w:aaa) (K:Zo) (mg:Str→Option Zj) (base:Heap) (A:Around) (outer:List Env) (s:Zq) (H:Hp):Prop where
 frames:A.frames=Zg outer
 mod:Mod K mg base
 bs:∀ b o,base.get? b=Zg o→s.heap.get? b=Zg o∧H b=Zl
 FN:base.objs.size≤s.heap.objs.size
 lV:s.heap.FunFrames base outer
 F3:∀ b∈frs outer,H b=Zl
 hok:jo P w H s.heap
 bare:AllBare s.gens
def CE (outer:List Env) (P:ZT) (w:aaa) (H:Hp) (s:Zq) (Q:VK) (u:Zj) (s':Zq):Prop:=
 ∃ v H',(s'.os=s.os∧0<s'.toks)∧AllBare s'.gens∧Un (frs outer) [] H H' s.heap s'.heap∧jo P w H' s'.heap∧RelV v u∧Q v H'
def CR (CX:mY) (outer:List Env) (P:ZT) (w:aaa) (H:Hp) (s:Zq) (Q:VK) (E:XK) (r:Result) (s':Zq):Prop:=
 match r with
 | .ok (.ret u)=>CE outer P w H s Q u s'
 | .ok _=>False
 | .error e=>CX outer H s E e s'
structure gA (P:ZT) (w:aaa) (K:Zo) (mg:Str→Option Zj) (base:Heap) (CX:mY) (k:Nat) (f:Addr) (fd:FuncData) (ps:List Str) (sp:Sp):Prop where
 len:∀ vs H Q E,sp vs H Q E→vs.length=ps.length
 run:∀ (A:Around) (outer:List Env) (s:Zq) (H:Hp) (args:Args) (us:List Zj) (vs:List V) (Q:VK) (E:XK),cP k A→m9 P w K mg base A outer s H→0<s.toks→BindsTo s fd args (ps.zip us)→Vals vs us→sp vs H Q E →
  codeAny (model P w) A (.call (.ref f) args) (CR CX outer P w H s Q E) s
structure jS (P:ZT) (w:aaa) (K:Zo) (mg:Str→Option Zj) (base:Heap) (CX:mY) (k:Nat) (f:Addr) (fd:FuncData) (ps:List Str) (sp:Sp):Prop where
 len:∀ vs H Q E,sp vs H Q E→vs.length=ps.length
 run:∀ (A:Around) (outer:List Env) (s:Zq) (H:Hp) (args:Args) (us:List Zj) (vs:List V) (Q:VK) (E:XK),cP k A→m9 P w K mg base A outer s H→BindsTo s fd args (ps.zip us)→Vals vs us→sp vs H Q E →
  codeAny (model P w) A (.call (.ref f) args) (CR CX outer P w H s Q E) s
theorem jS.imp {k:Nat} {f:Addr} {ps:List Str} (F:jS P w K mg base CX k f fd ps sp)
  (h:∀ vs H Q E,Oe vs H Q E→sp vs H Q E):jS P w K mg base CX k f fd ps Oe:=
 ⟨λvs H Q E q=>F.len vs H Q E (h _ _ _ _ q),λA outer s H args us vs Q E hr he hb hv hs=>F.run A outer s H args us vs Q E hr he hb hv (h _ _ _ _ hs)⟩
theorem gA.imp {k:Nat} {f:Addr} {ps:List Str} (F:gA P w K mg base CX k f fd ps sp)
  (h:∀ vs H Q E,Oe vs H Q E→sp vs H Q E):gA P w K mg base CX k f fd ps Oe:=
 ⟨λvs H Q E q=>F.len vs H Q E (h _ _ _ _ q),λA outer s H args us vs Q E hr he ht hb hv hs=>F.run A outer s H args us vs Q E hr he ht hb hv (h _ _ _ _ hs)⟩
theorem m9.make (e:m9 P w K mg base A outer s H) (C:Addr) (us:List Zj) (kw:List (Str×Zj)) :
  m9 P w K mg base (A.under (.builtin "type.__call__" ⟨.ref C::us,kw⟩)) outer s H:=⟨by first | exact e.frames | (simpa [aet,Code.envs,aeu,pushEnvs] using e.frames),e.mod,e.bs,e.FN,e.lV,e.F3,e.hok,e.bare⟩
theorem m9.in1 (e:m9 P w K mg base A outer s H) :
  m9 P w K mg base A.in1 outer s H:=⟨e.frames,e.mod,e.bs,e.FN,e.lV,e.F3,e.hok,e.bare⟩
section
variable {X:Cx} {pins:List (Addr×Obj)} {σ:St} {H:Hp} {s s':Zq}
theorem Inv.gk (I:Inv X pins σ H s):m9 X.prog X.w X.K X.mg X.base X.A X.stack s H:=
 ⟨I.ok.frames,I.ok.mod,I.bs,aal I.ok.FN I.sz,I.stack,I.oZ,I.hok,I.bare⟩
theorem Inv.after {Q:VK} (I:Inv X pins σ H s) (h:CE X.stack X.prog X.w H s Q u s'):EP X pins σ Q u s':=by obtain ⟨v,H',os,bare,un,hok,r,q⟩:=h;obtain ⟨hh,g,d,t,os'⟩:=s';have ht:0<t:=os.2;obtain rfl:os'=s.os:=os.1;exact ⟨v,H',I.call (h':=hh) (g':=g) (d':=d) (t':=t) (ch:=[]) un hok bare (λb z=>absurd z (by simp)),r,q⟩
end
def Of (C:Addr) (m:Str) (sp:Sp) (x9:List V) (E:XK) (ta:TE) (t:TA):TE:=λσ H Q=>ta σ H λx H1=>∃ a dx fs,x=.ref a∧H1 a=Zg (.ins C dx fs)∧fs.lookup m=Zl ∧
 t σ H1 λvs H2=>sp (x::(vs++x9)) H2 Q E
def Og (C:Addr) (sp:Sp) (x9:List V) (E:XK) (t:TA):TE:=λσ H Q=>t σ H λvs H1=>∀ x dx,H1 x=Zl→H1 dx=Zl→dx≠x →
 sp (.ref x::(vs++x9)) (upd (upd H1 dx (.own x)) x (.ins C dx [])) (λv H2=>v=.cy∧Q (.ref x) H2) E
def Binds (K:Zo) (fd:FuncData) (ps:List Str) (ds:List Zj):Prop:=
 ∀ (s:Zq) (us:List Zj),K.In s.heap→(us++ds).length=ps.length→BindsTo s fd ⟨us,[]⟩ (ps.zip (us++ds))
theorem Binds.all {ps:List Str} (h:∀ us:List Zj,us.length=ps.length→bindArgs fd ⟨us,[]⟩=pure (ps.zip us)):Binds K fd ps []:=λs us _ hl=>by rw [aaA] at hl ⊢;exact .of_eq (h us hl)
def Passes (CX:mY) (X:Cx) (E:XK):Prop:=∀ (pins:List (Addr×Obj)) (σ:St) (H:Hp) (s:Zq) (e:Zj) (s':Zq),Inv X pins σ H s→CX X.stack H s E e s'→X.xe e s'
section
variable {X:Cx} {CX:mY} {k:Nat} {f C:Addr} {fd:FuncData} {ps:List Str} {sp:Sp} {x9:List V} {ds:List Zj} {E:XK} {x m:Str} {p pos apos:Pos} {e o:Expr} {es:List Expr} {ta:TE} {t:TA}
theorem K9 {pins:List (Addr×Obj)} {σ:St} {H:Hp} {s:Zq} {Q:VK} {us:List Zj} {vs:List V} (F:gA X.prog X.w X.K X.mg X.base CX k f fd ps sp) (hr:cP k X.A) (hb:Binds X.K fd ps ds) (hd:Vals x9 ds) (hx:Passes CX X E)
  (I:Inv X pins σ H s) (r:Vals vs us) (h:sp (vs++x9) H Q E):ZD (model X.prog X.w) X.A (call (.ref f) us) (EP X pins σ Q) X.xe s:=by
 have r2:Vals (vs++x9) (us++ds):=r.append hd;have hl:(us++ds).length=ps.length:=by rw [← r2.length];exact F.len _ _ _ _ h
 refine aei (codeAny_mono (F.run X.A X.stack s H ⟨us,[]⟩ (us++ds) (vs++x9) Q E hr I.gk I.os.2 (hb s us I.oY hl) r2 h) λr s' hq=>?_);cases r with
 | error e=>exact hx pins σ H s e s' I hq
 | ok fl=>
  cases fl with
  | ret u=>exact I.after hq
  | next=>exact aac hq
  | brk=>exact aac hq
  | cont=>exact aac hq
theorem Gk {pl:Sem Bool} (he:PE X o ta) (c:uZ X.K C) (hm:Meth X.K C m f) (F:gA X.prog X.w X.K X.mg X.base CX k f fd ps sp) (hr:cP k X.A) (hb:Binds X.K fd ps ds) (hd:Vals x9 ds) (hx:Passes CX X E) (ha:PA X (e::es) t)
  (hst:ZF (e::es) X.env=(Zk,eval e X.env)::ZF es X.env:=by rfl) (hpl:(backTo pos (ZF es X.env)).any (·.1)=Zk:=by rfl)
  (ht:eval (.Call (.Attribute o m apos) (e::es) [] pos) X.env=(do
   let ov ← eval o X.env
   standAt apos.atName
   let (f,first) ← holding [ov] (getMethod ov m pl)
   callWith pos f first (backTo pos (ZF (e::es) X.env)) (backToKw pos (keywordEach [] X.env))):=by rfl) :
  PE X (.Call (.Attribute o m apos) (e::es) [] pos) (Of C m sp x9 E ta t):=by
 intro pins s σ H Q I h;refine PySem.W.methodCall_KW (pl:=pl) (cO (he pins s σ H _ I h) λu s1 zz=>?_) ht;obtain ⟨x,H1,I1,rx,a,dx,fs,ex,ea,l,q⟩:=zz;subst ex;obtain rfl:u=Value.ref a:=rx;refine xX I1 ea c hm l ?_;refine abj (first:=[.ref a]) (h₀:=X.base) I.ok.mod.BZ hm.kp (cO (ha pos pins s1 σ H1 _ I1 q) λus s2 ⟨vs,H2,I2,r,q2⟩=>⟨I2.oY,?_⟩) hst hpl;exact K9 (us:=.ref a::us) (vs:=.ref a::vs) F hr hb hd hx I2 (.cons rfl r) q2
structure Mk (K:Zo) (C f:Addr):Prop where
 makes:adK K C=Zh
 init:aas K (.ref C) "__init__"=Zg (Zg (.ref f))
 fn:acW K (.ref f)=Zh
 kp:Z5 K (.ref C)=Zh
theorem Cw {pins:List (Addr×Obj)} {σ:St} {H:Hp} {s:Zq} {Q:VK} {us:List Zj} {vs:List V} (M:Mk X.K C f) (F:gA X.prog X.w X.K X.mg X.base CX k f fd ps sp) (hr:cP (k+1) X.A) (hb:Binds X.K fd ps ds) (hd:Vals x9 ds)
  (hx:Passes CX X E) (I:Inv X pins σ H s) (r:Vals vs us)
  (h:∀ x dx,H x=Zl→H dx=Zl→dx≠x→sp (.ref x::(vs++x9)) (upd (upd H dx (.own x)) x (.ins C dx [])) (λv H2=>v=.cy∧Q (.ref x) H2) E) :
  ZD (model X.prog X.w) X.A (call (.ref C) us) (EP X pins σ Q) X.xe s:=by
 have hq:=h (s.heap.objs.size+1) s.heap.objs.size (I.hok.fresh (acj _)) (I.hok.fresh (Zs _)) (ZE (aaB _));have I2:=Inv.made (C:=C) I;have r2:Vals (V.ref (s.heap.objs.size+1)::(vs++x9)) (Value.ref (s.heap.objs.size+1)::(us++ds)):=.cons rfl (r.append hd);have hl:(Value.ref (s.heap.objs.size+1)::us++ds).length=ps.length:=by have e:=r2.length;rw [F.len _ _ _ _ hq] at e;exact e.symm
 refine aei (Cv (f:=f) I.oY M.makes M.init (beq_iff_eq.mp M.fn) (codeAny_mono (F.run _ X.stack _ _ ⟨Value.ref (s.heap.objs.size+1)::us,[]⟩ (Value.ref (s.heap.objs.size+1)::(us++ds)) _ _ E (hr.make C us [])
  (I2.gk.make C us []) I.os.2 (hb _ (Value.ref (s.heap.objs.size+1)::us) I2.oY hl) r2 hq) λr s' hq'=>?_))
 cases r with
 | error e=>exact hx pins σ _ _ e s' I2 hq'
 | ok fl=>
  cases fl with
  | ret u=>obtain ⟨v,H',I3,rv,ev,q3⟩:=I2.after hq';subst ev;exact ⟨rv,⟨V.ref (s.heap.objs.size+1),H',I3,rfl,q3⟩⟩
  | next=>exact aac hq'
  | brk=>exact aac hq'
  | cont=>exact aac hq'
theorem Gm (M:Mk X.K C f) (F:gA X.prog X.w X.K X.mg X.base CX k f fd ps sp) (hr:cP (k+1) X.A) (hg:Gl X x) (hm:X.mg x=Zg (.ref C)) (hb:Binds X.K fd ps ds) (hd:Vals x9 ds) (hx:Passes CX X E)
  (ha:PA X (e::es) t) (hdb:(x==("__debug__":Str))=Zk:=by decide) (he:ZF (e::es) X.env=(Zk,eval e X.env)::ZF es X.env:=by rfl) (hpl:(backTo pos (ZF es X.env)).any (·.1)=Zk:=by rfl) :
  PE X (.Call (.Name x p) (e::es) [] pos) (Og C sp x9 E t):=by
 intro pins s σ H Q I h;refine ZK (tN I hg hm ?_ hdb);refine abj (h₀:=X.base) I.ok.mod.BZ M.kp (cO (ha pos pins s σ H _ I h) λus s1 ⟨vs,H1,I1,r,q⟩=>⟨I1.oY,?_⟩) he hpl;exact Cw M F hr hb hd hx I1 r q
end
section
variable {X:Cx} {CX:mY} {k:Nat} {f C:Addr} {fd:FuncData} {ps ks:List Str} {sp:Sp} {E:XK} {x m:Str} {p pos apos kpos:Pos} {e o:Expr} {es:List Expr} {kws:List Keyword} {te ta:TE} {t tk:TA} {nm:Option Str}
structure R6 (K:Zo) (fd:FuncData) (ps ks:List Str) (g:List Zj→List Zj→List Zj) (gV:List V→List V→List V):Prop where
 to:∀ (s:Zq) (us ws:List Zj),K.In s.heap→(g us ws).length=ps.length→BindsTo s fd ⟨us,ks.zip ws⟩ (ps.zip (g us ws))
 rel:∀ {vs:List V} {us:List Zj} {zs:List V} {ws:List Zj},Vals vs us→Vals zs ws→Vals (gV vs zs) (g us ws)
variable {g:List Zj→List Zj→List Zj} {gV:List V→List V→List V}
end
structure fY (N P:List Str) (sc:Scope):Prop where
 kind:sc.kind=.function
 co:sc.isCoroutine=Zk
 gen:sc.isGenerator=Zk
 nd:N.Nodup
 pre:N.take P.length=P
 par:∀ x∈P,sc.names.lookup x=Zg .local∨sc.names.lookup x=Zg .cell
 La:∀ y∈sc.names,y.2≠.free
theorem rS {kindOf:Str→Option NameKind} {x:Str}:∀ {binds:List (Str×Zj)} {m:Str→Option Zj},(∀ v,(x,v)∉binds)→bindL kindOf binds m x=m x
 | [],_,_=>rfl
 | (n,v)::r,m,h=>by
  unfold bindL;rw [rS λw hw=>h w (ZY _ hw)];split
  ·have:x≠n:=by rintro rfl;exact h v abg
   simp [this]
  ·rfl
theorem rT {kindOf:Str→Option NameKind} {x:Str}:∀ {binds:List (Str×Zj)} {m:Str→Option Zj},(∀ v,(x,v)∉binds)→bindC kindOf binds m x=m x
 | [],_,_=>rfl
 | (n,v)::r,m,h=>by
  unfold bindC;rw [rT λw hw=>h w (ZY _ hw)];split
  ·rfl
  ·have:x≠n:=by rintro rfl;exact h v abg
   simp [this]
theorem rV {kindOf:Str→Option NameKind} {x:Str} {v:Zj}:∀ {P:List Str} {vs:List Zj} {i:Nat} {m:Str→Option Zj},P.Nodup→P[i]?=Zg x→vs[i]?=Zg v→kindOf x=Zg .local →
  bindL kindOf (P.zip vs) m x=Zg v
 | [],_,_,_,_,h,_,_=>by simp at h
 | _::_,[],_,_,_,_,h,_=>by simp at h
 | p::P,w::vs,0,m,nd,h1,h2,hk=>by simp at h1 h2;subst h1;subst h2;show bindL kindOf ((p,w)::P.zip vs) m p=_;unfold bindL;rw [rS λv hv=>(aa9.mp nd).1 (abt hv).1,if_pos hk];simp
 | p::P,w::vs,i+1,m,nd,h1,h2,hk=>by show bindL kindOf ((p,w)::P.zip vs) m x=_;unfold bindL;exact rV (i:=i) (aa9.mp nd).2 (by simpa using h1) (by simpa using h2) hk
theorem rW {kindOf:Str→Option NameKind} {x:Str} {v:Zj}:∀ {P:List Str} {vs:List Zj} {i:Nat} {m:Str→Option Zj},P.Nodup→P[i]?=Zg x→vs[i]?=Zg v→kindOf x≠Zg .local →
  bindC kindOf (P.zip vs) m x=Zg v
 | [],_,_,_,_,h,_,_=>by simp at h
 | _::_,[],_,_,_,_,h,_=>by simp at h
 | p::P,w::vs,0,m,nd,h1,h2,hk=>by simp at h1 h2;subst h1;subst h2;show bindC kindOf ((p,w)::P.zip vs) m p=_;unfold bindC;rw [rT λv hv=>(aa9.mp nd).1 (abt hv).1,if_neg hk];simp
 | p::P,w::vs,i+1,m,nd,h1,h2,hk=>by show bindC kindOf ((p,w)::P.zip vs) m x=_;unfold bindC;exact rW (i:=i) (aa9.mp nd).2 (by simpa using h1) (by simpa using h2) hk
def start (N:List Str) (vs:List V):St:=vs.map Zg++ZH (N.length - vs.length) Zl
def lB (CX:mY) (P:ZT) (w:aaa) (K:Zo) (mg:Str→Option Zj) (base:Heap) (N:List Str) (qual:Str) (scope:Scope) (f:Addr) (cd:Zj) (A:Around) (outer:List Env) (s:Zq) (H:Hp) (E:XK):Cx where
 prog:=P
 w:=w
 K:=K
 mg:=mg
 base:=base
 A:=A.deeper (envOfC qual scope s.heap.objs.size f cd)
 N:=N
 s₀:=s
 H₀:=H
 env:=envOfC qual scope s.heap.objs.size f cd
 outer:=outer
 stack:=envOfC qual scope s.heap.objs.size f cd::outer
 ex:=[]
 calm:=Zh
 fn:=λ_=>Zh
 pn:=[]
 xe:=λe s'=>ZD (model P w) (A.deeper (envOfC qual scope s.heap.objs.size f cd)) (leaving (envOfC qual scope s.heap.objs.size f cd) e) (λ_ s''=>CX outer H s E e s'') (λe' s''=>CX outer H s E e' s'') s'
theorem vf (h:sc.names.lookup x=Zg .cell):∃ c,(cellsFrom n sc.names []).lookup x=Zg c:=by have q:=abO sc.names n [] (.inl h);exact Option.isSome_iff_exists.mp q
theorem nc {CX:mY} {P:ZT} {w:aaa} {K:Zo} {mg:Str→Option Zj} {base:Heap} {N ps:List Str} {qual:Str} {scope:Scope} {f:Addr} {cd:Zj} {A:Around} {outer:List Env} {s s1:Zq} {H:Hp} {E:XK} {us:List Zj} {vs:List V}
  (S:fY N ps scope) (hd:A.handled=Zl) (e0:m9 P w K mg base A outer s H) (hl:vs.length=ps.length) (r:Vals vs us)
  (x:InCallC s s.heap.objs.size (bindL (envOfC qual scope s.heap.objs.size f cd).kindOf (ps.zip us) λ_=>Zl) (cellsFrom (s.heap.objs.size+1) scope.names []) (bindC (envOfC qual scope s.heap.objs.size f cd).kindOf (ps.zip us) λ_=>Zl) s1) {n:Nat} (ht:0<n) :
  Inv (lB CX P w K mg base N qual scope f cd A outer s H E) [] (start N vs) H {s1 with toks:=n}:=by
 have hpl:ps.length≤N.length:=by have:=congrArg acG S.pre;rw [abH] at this;nofun
 obtain ⟨h1,tk,rfl,hk⟩:=x.done;have Gn:∀ b:Addr,b∉(lB CX P w K mg base N qual scope f cd A outer s H E).ex:=λb z=>absurd (show b∈([]:List Addr) from z) (by simp)
 refine ⟨⟨e0.mod,S.kind,rfl,rfl,Zs _,λy z c h1 h2=>?_,λy hy=>?_,λy c _ h=>?_,λ_=>hd,adW e0.frames,.inr ⟨rfl,rfl⟩,λb z=>absurd z (Gn b),e0.bs,e0.FN,λb _ _=>Gn b,λb z=>absurd z (Gn b),e0.lV,e0.F3⟩,
  ⟨rfl,ht⟩,e0.bare,Un.kept hk,⟨_,x.toInCall.ns,λi y v h1 h2 h3=>?_⟩,λy c h=>⟨_,x.cell y c h⟩,e0.hok.fresh (Zs _),λy c h=>?_,λp hp=>absurd (show p∈([]:List (Addr×Obj)) from hp) (by simp),e0.hok.kept hk,?_⟩
 ·exact name_of_addr x.apart (aaR h1) (aaR h2)
 ·have hy:scope.names.lookup y=Zg .cell∨scope.names.lookup y=Zg .free:=hy;rcases hy with hy | hy
  ·exact vf hy
  ·exact absurd rfl (S.La _ (aaR hy))
 ·exact acU (x.above y c (aaR h))
 ·have hi:i<vs.length:=by
   unfold start at h2;by_cases hi:i<vs.length
   ·exact hi
   ·rw [ZO (by simpa using hi)] at h2;rw [abI] at h2;split at h2<;>cases h2
  have ha:vs[i]?=Zg v:=by
   unfold start at h2;rw [ZC (by simpa using hi),ZL] at h2;cases e:vs[i]? with
   | none=>rw [e] at h2;cases h2
   | some a=>rw [e] at h2;cases h2;rfl
  obtain ⟨u,hu,rv⟩:=r.get ha;have hp:ps[i]?=Zg y:=by rw [← S.pre,adh (by nofun)];exact h1
  have QL:ps.Nodup:=by rw [← S.pre];exact S.nd.sublist (aev _ _)
  refine ⟨u,rv,?_⟩;rcases S.par y (Z0 hp) with k | k
  ·exact .inl ⟨k,rV QL hp hu k⟩
  ·obtain ⟨c,e⟩:=vf (n:=s.heap.objs.size+1) k;refine .inr ⟨.inl k,c,e,?_⟩;have q:=x.cell y c e;rw [rW QL hp hu (by show scope.names.lookup y≠_;rw [k];decide)] at q;exact q
 ·exact .inl (e0.hok.fresh (acU (x.above y c (aaR h))))
 ·unfold start;show _=N.length;rw [ZV,ZG,adN];nofun
theorem Oh {CX:mY} {P:ZT} {w:aaa} {K:Zo} {mg:Str→Option Zj} {base:Heap} {k:Nat} {f:Addr} {name qual:Str} {params:Arguments} {body:List Stmt} {scope:Scope} {dV kV doc pm cdv ct oc:Zj} {an od:Option Addr}
  {osl:Array (Option Zj)} {N ps:List Str} {sp:Sp} (lk:K.lookup f=Zg ⟨oc,od,.func (aaI name qual params body scope dV kV doc pm an cdv ct),osl⟩) (hcd:abJ K cdv qual=Zh) (S:fY N ps scope)
  (len:∀ vs H Q E,sp vs H Q E→vs.length=ps.length)
  (hbody:∀ (A:Around) (outer:List Env) (s:Zq) (H:Hp) (vs:List V) (Q:VK) (E:XK),cP k (A.deeper (envOfC qual scope s.heap.objs.size f cdv))→sp vs H Q E →
   ∃ t,xK (lB CX P w K mg base N qual scope f cdv A outer s H E) body t∧t {nx:=λ_ H'=>Q .cy H',rt:=Q} (start N vs) H) :
  gA P w K mg base CX (k+1) f (aaI name qual params body scope dV kV doc pm an cdv ct) ps sp:=by
 refine ⟨len,λA outer s H args us vs Q E hr e0 htk hb r zf=>?_⟩;have hl:=len _ _ _ _ zf;have KX:K.In s.heap:=e0.mod.BZ.keeps λb o e=>(e0.bs b o e).1;have lim:s.heap.NoLimit:=e0.mod.nolimit.keeps λb o e=>(e0.bs b o e).1;have hkind:∀ y∈ps.zip us,scope.names.lookup y.1=Zg .local∨(scope.names.lookup y.1=Zg .cell∧((cellsFrom (s.heap.objs.size+1) scope.names []).lookup y.1).isSome=Zh):=λzz hy=>by
  obtain ⟨n,v⟩:=zz;rcases S.par n (abt hy).1 with q | q
  ·exact .inl q
  ·exact .inr ⟨q,abO _ _ _ (.inl q)⟩
 refine codeAny_call_function hr.depth (KX _ _ lk) rfl S.co S.gen rfl (ac3 KX hcd) (hb _ _ _ _ ?_);refine gS htk (abZ S.kind hkind λenv he s1 x=>λLb=>?_);subst he;refine ⟨lim.keeps x.toInCall.keep,codeAny_func ?_⟩;obtain ⟨t,ht,hq⟩:=hbody A outer s H vs Q E (hr.deeper _) zf;have I:Inv (lB CX P w K mg base N qual scope f cdv A outer s H E) [] (start N vs) H s1:=nc S hr.hd e0 hl r x (n:=s1.toks) Lb;refine Z8 (ht [] s1 (start N vs) H _ I hq) (λfl s' hs=>?_) λe s' hs=>hs
 have fin:∀ {σ':St} {H':Hp} {v:V} {u:Zj},Inv (lB CX P w K mg base N qual scope f cdv A outer s H E) [] σ' H' s'→RelV v u→Q v H'→CE outer P w H s Q u s':=
  λ{σ' H' v u} J rv q=>⟨v,H',J.os,J.bare,J.base,J.hok,rv,q⟩
 cases fl with
 | ret u=>obtain ⟨v,σ',H',J,rv,q⟩:=hs;exact fin J rv q
 | next=>obtain ⟨σ',H',J,q⟩:=hs;exact fin (v:=V.cy) (u:=Value.none) J rfl q
 | brk=>obtain ⟨_,_,_,q⟩:=hs;exact aac q
 | cont=>obtain ⟨_,_,_,q⟩:=hs;exact aac q
def Oi (X:Cx) (body:List Stmt) (t:TS):Prop:=∀ (s:Zq) (σ:St) (H:Hp) (D:Ends),Inv X [] σ H {s with toks:=s.toks+1}→t D σ H→ZD (model X.prog X.w) X.A (execs body X.env) (SP X [] D) X.xe s
theorem Lc {CX:mY} {P:ZT} {w:aaa} {K:Zo} {mg:Str→Option Zj} {base:Heap} {k:Nat} {f:Addr} {name qual:Str} {params:Arguments} {body:List Stmt} {scope:Scope} {dV kV doc pm cdv ct oc:Zj} {an od:Option Addr}
  {osl:Array (Option Zj)} {N ps:List Str} {sp:Sp} (lk:K.lookup f=Zg ⟨oc,od,.func (aaI name qual params body scope dV kV doc pm an cdv ct),osl⟩) (hcd:abJ K cdv qual=Zh) (S:fY N ps scope)
  (len:∀ vs H Q E,sp vs H Q E→vs.length=ps.length)
  (hbody:∀ (A:Around) (outer:List Env) (s:Zq) (H:Hp) (vs:List V) (Q:VK) (E:XK),cP k (A.deeper (envOfC qual scope s.heap.objs.size f cdv))→sp vs H Q E →
   ∃ t,Oi (lB CX P w K mg base N qual scope f cdv A outer s H E) body t∧t {nx:=λ_ H'=>Q .cy H',rt:=Q} (start N vs) H) :
  jS P w K mg base CX (k+1) f (aaI name qual params body scope dV kV doc pm an cdv ct) ps sp:=by
 refine ⟨len,λA outer s H args us vs Q E hr e0 hb r zf=>?_⟩;have hl:=len _ _ _ _ zf;have KX:K.In s.heap:=e0.mod.BZ.keeps λb o e=>(e0.bs b o e).1;have lim:s.heap.NoLimit:=e0.mod.nolimit.keeps λb o e=>(e0.bs b o e).1;have hkind:∀ y∈ps.zip us,scope.names.lookup y.1=Zg .local∨(scope.names.lookup y.1=Zg .cell∧((cellsFrom (s.heap.objs.size+1) scope.names []).lookup y.1).isSome=Zh):=λzz hy=>by
  obtain ⟨n,v⟩:=zz;rcases S.par n (abt hy).1 with q | q
  ·exact .inl q
  ·exact .inr ⟨q,abO _ _ _ (.inl q)⟩
 refine codeAny_call_function hr.depth (KX _ _ lk) rfl S.co S.gen rfl (ac3 KX hcd) (hb _ _ _ _ ?_);refine abZ S.kind hkind λenv he s1 x=>?_;subst he;refine ⟨lim.keeps x.toInCall.keep,codeAny_func ?_⟩;obtain ⟨t,ht,hq⟩:=hbody A outer s H vs Q E (hr.deeper _) zf;have I:Inv (lB CX P w K mg base N qual scope f cdv A outer s H E) [] (start N vs) H {s1 with toks:=s1.toks+1}:=nc S hr.hd e0 hl r x (aab _);refine Z8 (ht s1 (start N vs) H _ I hq) (λfl s' hs=>?_) λe s' hs=>hs
 have fin:∀ {σ':St} {H':Hp} {v:V} {u:Zj},Inv (lB CX P w K mg base N qual scope f cdv A outer s H E) [] σ' H' s'→RelV v u→Q v H'→CE outer P w H s Q u s':=
  λ{σ' H' v u} J rv q=>⟨v,H',J.os,J.bare,J.base,J.hok,rv,q⟩
 cases fl with
 | ret u=>obtain ⟨v,σ',H',J,rv,q⟩:=hs;exact fin J rv q
 | next=>obtain ⟨σ',H',J,q⟩:=hs;exact fin (v:=V.cy) (u:=Value.none) J rfl q
 | brk=>obtain ⟨_,_,_,q⟩:=hs;exact aac q
 | cont=>obtain ⟨_,_,_,q⟩:=hs;exact aac q
section
variable {X:Cx} {x:Str} {p pos:Pos} {e:Expr} {es:List Expr} {t:TA} {id T:String} {r:List V→Hp→VK→Prop}
def Uy (r:List V→Hp→VK→Prop) (t:TA):TE:=λσ H Q=>t σ H λvs H1=>r vs H1 Q
theorem Cy (hc:c9 X (.builtin id) r) (hg:Gl X x) (hm:X.mg x=Zl) (hv:bootBuiltins x=Zg (.builtin id)) (ha:PA X (e::es) t) (hn:x≠"__name__":=by decide) (hdb:(x==("__debug__":Str))=Zk:=by decide)
  (he:ZF (e::es) X.env=(Zk,eval e X.env)::ZF es X.env:=by rfl) (hpl:(backTo pos (ZF es X.env)).any (·.1)=Zk:=by rfl):PE X (.Call (.Name x p) (e::es) [] pos) (Uy r t):=by
 intro pins s σ H Q I h;refine ZK (dX I hg hm hv ?_ hn hdb);exact abK (cO (ha pos pins s σ H _ I h) λus s1 zz=>by obtain ⟨vs,H1,I1,r1,q1⟩:=zz;exact hc pins s1 σ H1 vs us Q I1 r1 q1) he hpl
theorem As (hc:c9 X (.type T) r) (hg:Gl X x) (hm:X.mg x=Zl) (hv:bootBuiltins x=Zg (.type T)) (ha:PA X (e::es) t) (hn:x≠"__name__":=by decide) (hdb:(x==("__debug__":Str))=Zk:=by decide)
  (he:ZF (e::es) X.env=(Zk,eval e X.env)::ZF es X.env:=by rfl) (hpl:(backTo pos (ZF es X.env)).any (·.1)=Zk:=by rfl):PE X (.Call (.Name x p) (e::es) [] pos) (Uy r t):=by
 intro pins s σ H Q I h;refine ZK (dX I hg hm hv ?_ hn hdb);exact ZJ (cO (ha pos pins s σ H _ I h) λus s1 zz=>by obtain ⟨vs,H1,I1,r1,q1⟩:=zz;exact hc pins s1 σ H1 vs us Q I1 r1 q1) he hpl
end
end
end L2
namespace HT
noncomputable section
open PySem PyProof.Rows
theorem vg (A:Around) (s:Zq) (a:Int) (t:Tok) (c:Int) (u:Tok):∃ e,acB A s (.int a t) (.int c u) e∧(e=Zh↔a=c):=
 ⟨(a==c),acB.int_int a t c u,by simp⟩
section
open PySem.SeqAt
open PySem.AutoSeq1 (wpAny_loadPart')
open PySem.MeetsSeq PySem.MeetsSeq2 PySem.MeetsSeq3
end
section
variable {prog:ZT} {w:aaa} {A:Around} {E:Zj→Zq→Prop} {s:Zq}
theorem Gp {t b:Addr} {vs ws:List Zj} {Q:Zj→Zq→Prop} (ht:IsTup s.heap t vs.toArray) (hb:IsTup s.heap b ws.toArray) (hv:vs≠[])
  (h1:ws=[]→Q (.ref t) s) (h2:ws≠[]→Q (.ref s.heap.objs.size) {s with heap:=s.heap.push {cls:=.type "tuple",data:=.seq (vs++ws).toArray}})
  (hsz:vs.length+ws.length≤Zm):ZD (model prog w) A (binaryOp .Add (.ref t) (.ref b)) Q E s:=by
 obtain ⟨⟨cls,dd,data,sl⟩,ho,hc,n,hd⟩:=id ht;obtain ⟨⟨Gq,dd2,data2,sl2⟩,ho2,hc2,n2,hd2⟩:=id hb;simp only at hc hd hc2 hd2;subst hc hd hc2 hd2;have e:vs.toArray++ws.toArray=(vs++ws).toArray:=by simp
 by_cases hw:ws=[]
 ·exact concat_meets ⟨_,ho,rfl⟩ ⟨_,ho2,rfl⟩ noFill_tuple_add seq_tuple_add acr ack (ace _ _)
   (tuple_addW1 t b vs.toArray ws.toArray n n2 dd dd2 sl sl2 (by simpa using hv) (by simp [hw])) ⟨ho,ho2,h1 hw⟩
 ·refine concat_meets ⟨_,ho,rfl⟩ ⟨_,ho2,rfl⟩ noFill_tuple_add seq_tuple_add acr ack (ace _ _)
   (tuple_addW2 t b vs.toArray ws.toArray n n2 dd dd2 sl sl2 (by simpa using hv) (by simpa using hw) (by rw [ZA,ZA];exact hsz)) ⟨ho,ho2,?_⟩
  rw [e];exact h2 hw
def fC (n d:Nat):Option Int→Nat
 | none=>d
 | some v=>if v<0 then (v+(n:Int)).toNat else min v.toNat n
theorem vh (n d:Nat):fC n d Zl=d:=rfl
theorem zg (n d k:Nat):fC n d (Zg (k:Int))=min k n:=by show (if (k:Int)<0 then ((k:Int)+(n:Int)).toNat else min (k:Int).toNat n)=min k n;rw [if_neg (by nofun),aaD]
theorem Ld (n d:Nat) (hd:d≤n) (o:Option Int):fC n d o≤n:=by
 cases o with
 | none=>exact hd
 | some v=>
  show (if v<0 then (v+(n:Int)).toNat else min v.toNat n)≤n;by_cases hv:v<0
  ·rw [if_pos hv];nofun
  ·rw [if_neg hv];exact Nat.min_le_right _ _
theorem zh (v:Int) (n d:Nat):(if v<0 then max (v+(n:Int)) 0 else min v (n:Int))=((fC n d (Zg v):Nat):Int):=by
 show (if v<0 then max (v+(n:Int)) 0 else min v (n:Int))=(((if v<0 then (v+(n:Int)).toNat else min v.toNat n):Nat):Int);by_cases hv:v<0
 ·simp only [if_pos hv];nofun
 ·simp only [if_neg hv];nofun
theorem ya (lo hi:Option Int) (n:Nat):ab7 lo hi 1 (n:Int)=(((fC n 0 lo:Nat):Int),((fC n n hi:Nat):Int)):=by
 have h1:¬ ((1:Int)<0):=by nofun
 unfold ab7;simp only [h1,if_false];refine Prod.ext ?_ ?_
 ·cases lo with
  | none=>rfl
  | some v=>exact zh v n 0
 ·cases hi with
  | none=>rfl
  | some v=>exact zh v n n
theorem yb (i j:Nat):abp (i:Int) (j:Int) 1=j - i:=by
 unfold abp;have h1:(1:Int) > 0:=by nofun
 simp only [h1,if_true,Int.ediv_one];split<;>nofun
theorem pM {v:Zj} {o:Option Int} {Q:Option Int→Zq→Prop} (p:IsPart v o) (h:Q o s):ZD (model prog w) A (Builtin.Slice.slicePartIndex v) Q E s:=by
 cases p with
 | none=>exact slicePart_none h
 | int i t=>exact slicePart_int h
theorem ng {sl:Addr} {vl vu:Zj} {lo hi:Option Int} {n:Nat} {Q:Int×Int×Nat→Zq→Prop} (hs:s.heap.IsSliceOf sl vl vu .none) (pl:IsPart vl lo) (pu:IsPart vu hi)
  (h:Q (((fC n 0 lo:Nat):Int),1,fC n n hi - fC n 0 lo) s):ZD (model prog w) A (ac4 (.ref sl) (pure (n:Int))) Q E s:=by
 obtain ⟨os,hos,hcs,hds⟩:=id hs;unfold ac4 Builtin.Slice.sliceFields;refine Zi (Zi (Z9 hos hds (x:=vl) rfl (Zi (Z9 hos hds (x:=vu) rfl (Zi (Z9 hos hds (x:=.none) rfl (Zz ?_)))))));refine Zi (slicePart_none ?_);show ZD _ _ (if ((1:Int)==0)=Zh then _ else _) _ _ s;rw [if_neg (by decide)];refine Zi (pM pl (Zi (pM pu (Zi (Zz ?_)))));show ZD _ _ (match ab7 lo hi 1 (n:Int) with | (lo,hi)=>pure (lo,(1:Int),abp lo hi 1)) _ _ s;rw [ya lo hi n];show ZD _ _ (pure (((fC n 0 lo:Nat):Int),(1:Int),abp ((fC n 0 lo:Nat):Int) ((fC n n hi:Nat):Int) 1)) _ _ s;rw [yb];exact Zz h
theorem Cz (xs:Array Zj) (i k:Nat):((Z4 k).filterMap λ(m:Nat)=>xs[((i:Int)+(m:Int)*1).toNat]?).toArray=((xs.toList.drop i).take k).toArray:=by
 have e:(λ(m:Nat)=>xs[((i:Int)+(m:Int)*1).toNat]?)=λm=>xs[i+m]?:=by
  funext m;have:((i:Int)+(m:Int)*1).toNat=i+m:=by nofun
  rw [this]
 rw [e];have:=pick_run xs i k;rw [List.filterMap_map] at this;have e2:((λx=>xs[x]?)∘λx=>i+x)=λm=>xs[i+m]?:=rfl;rw [e2] at this;rw [this]
theorem lY {t sl:Addr} {items:Array Zj} {vl vu:Zj} {lo hi:Option Int} {Q:Zj→Zq→Prop} (ht:IsTup s.heap t items) (hs:s.heap.IsSliceOf sl vl vu .none) (pl:IsPart vl lo) (pu:IsPart vu hi)
  (hw:¬ (fC items.size 0 lo=0∧fC items.size items.size hi=items.size))
  (h:Q (.ref s.heap.objs.size) {s with heap:=s.heap.push {cls:=.type "tuple",data:=.seq ((items.toList.drop (fC items.size 0 lo)).take (fC items.size items.size hi - fC items.size 0 lo)).toArray}})
  (hsz:items.size≤Zm):ZD (model prog w) A (getItem (.ref t) (.ref sl)) Q E s:=by
 have zj:sizeOk (.seq ((items.toList.drop (fC items.size 0 lo)).take (fC items.size items.size hi - fC items.size 0 lo)).toArray):=by show ((items.toList.drop (fC items.size 0 lo)).take (fC items.size items.size hi - fC items.size 0 lo)).toArray.size≤Zm;rw [ZA,abH,acE,acQ];nofun
 have hj:fC items.size items.size hi≤items.size:=Ld _ _ (Zs _) hi;obtain ⟨os,hos,hcs,hds⟩:=id hs;have VO:s.TypeIs (.ref sl) "slice":=⟨os,hos,hcs⟩;unfold getItem
 try with_reducible refine abU ?_
 first | refine Zi (Zz ?_) | skip
 refine Zi (wpAny_sequenceKey ht.typeIs (by decide) ?_)
 refine Zi (aay (name:=aby "__getitem__") ht.typeIs abF
  (aaV abF ht.typeIs entry_tuple_getitem ?_ (args_tuple_getitem _ _)))
 show ZD _ _ (Builtin.Tuple.tupleItemsOf (.ref t) >>= _) _ _ s;refine Zi (tupleItemsOf_ ht ?_);refine Zi (aew VO ?_);rw [if_pos (by decide)];refine Zi (ng hs pl pu ?_);have hno:¬ ((((fC items.size 0 lo:Nat):Int)==0&&(1:Int)==1&&(fC items.size items.size hi - fC items.size 0 lo)==items.size)=Zh):=by intro q;rw [aan,aan] at q;have q1:((fC items.size 0 lo:Nat):Int)=0:=eq_of_beq q.1.1;have q2:fC items.size items.size hi - fC items.size 0 lo=items.size:=eq_of_beq q.2;exact hw ⟨by nofun,by nofun⟩
 show ZD _ _ (if (((fC items.size 0 lo:Nat):Int)==0&&(1:Int)==1&&(fC items.size items.size hi - fC items.size 0 lo)==items.size)=Zh then _ else _) _ _ s;rw [if_neg hno,Cz]
 first
  | exact Zi (m:=aaG _) (Z3 (Zz ⟨_,rfl,Zz h⟩) zj)
  | exact Zi (m:=aaG _) (Z3 (Zi (Zz (Zz ⟨_,rfl,Zz h⟩))) zj)
  | exact Zi (Zi (m:=aaG _) (Z3 (Zz (Zz ⟨_,rfl,Zz h⟩)) zj))
  | exact Zi (Zi (m:=aaG _) (Z3 (Zz ⟨_,rfl,Zz h⟩) zj))
end
end
end HT
namespace L2
noncomputable section
open PySem PySem.Spec PyProof.Rows
variable {r r':V→Option Int→Option Int→Hp→VK→Prop} {xs:List V} {pins:List (Addr×Obj)} {us its:List Zj} {s:Zq} {σ:St} {H:Hp} {α:Type} {p:Addr} {n j t':Nat} {i:Int} {T:String} {v f:Zj}
abbrev TO:=St→Hp→(Option Int→Hp→Prop)→Prop
def PO (X:Cx) (e:Option Expr) (t:TO):Prop:=
 ∀ (pins:List (Addr×Obj)) (s:Zq) (σ:St) (H:Hp) (Q:Option Int→Hp→Prop),Inv X pins σ H s→t σ H Q →
  ZD (model X.prog X.w) X.A (evalPart e X.env) (λu s'=>∃ o H',Inv X pins σ H' s'∧IsPart u o∧Q o H') X.xe s
def Gr:TO:=λ_ H Q=>Q Zl H
def Oj (t:TE):TO:=λσ H Q=>t σ H λx H1=>∃ i,x=.int i∧Q (Zg i) H1
section
variable {X:Cx} {e:Expr} {te:TE} {lo hi:Option Expr} {tl th:TO} {pos p2:Pos}
theorem Gs:PO X Zl Gr:=by intro pins s σ H Q I h;rw [evalPart_none];exact Zz ⟨Zl,H,I,.none,h⟩
theorem Gu (h:PE X e te):PO X (Zg e) (Oj te):=by intro pins s σ H Q I hw;rw [evalPart_some];refine cO (h pins s σ H _ I hw) λu s1 zz=>?_;obtain ⟨x,H1,I1,r1,q1⟩:=zz;obtain ⟨i,rfl,q⟩:=q1;obtain ⟨t,rfl⟩:=r1;exact ⟨Zg i,H1,I1,.int i t,q⟩
def Jx (X:Cx) (r:V→Option Int→Option Int→Hp→VK→Prop):Prop:=
 ∀ (pins:List (Addr×Obj)) (s:Zq) (σ:St) (H:Hp) (x:V) (v vl vu:Zj) (lo hi:Option Int) (sl:Addr) (Q:VK),Inv X pins σ H s→RelV x v→s.heap.IsSliceOf sl vl vu .none→IsPart vl lo→IsPart vu hi→r x lo hi H Q →
  ∃ T id,typeLookup (.type T) "__getitem__"=pure (Zg (.builtin id))∧s.TypeIs v T∧ZD (model X.prog X.w) X.A (getItem v (.ref sl)) (EP X pins σ Q) X.xe s
theorem Jx.or (h:Jx X r) (h':Jx X r'):Jx X (λx lo hi H Q=>r x lo hi H Q∨r' x lo hi H Q):=by
 intro pins s σ H x v vl vu lo hi sl Q I rx hs pl pu q;rcases q with q | q
 ·exact h pins s σ H x v vl vu lo hi sl Q I rx hs pl pu q
 ·exact h' pins s σ H x v vl vu lo hi sl Q I rx hs pl pu q
def VP (r:V→Option Int→Option Int→Hp→VK→Prop) (te:TE) (tl th:TO):TE:=λσ H Q=>te σ H λx H1=>tl σ H1 λl H2=>th σ H2 λu H3=>r x l u H3 Q
theorem CA (hr:Jx X r) (he:PE X e te) (hl:PO X lo tl) (hu:PO X hi th):PE X (.Subscript e (.Slice lo hi Zl p2) pos) (VP r te tl th):=by intro pins s σ H Q I h;refine Subscript_ (cO (he pins s σ H _ I h) λv s1 zz=>?_);obtain ⟨x,H1,I1,r1,q1⟩:=zz;refine wpAny_Slice (cO (hl pins s1 σ H1 _ I1 q1) λvl s2 ⟨l,H2,I2,pl,q2⟩=>cO (hu pins s2 σ H2 _ I2 q2) λvu s3 zz=>?_);obtain ⟨u,H3,I3,pu,q3⟩:=zz;rw [evalPart_none];refine Zz ?_;have I4:Inv X pins σ H3 {s3 with heap:=s3.heap.push {cls:=.type "slice",data:=.fields #[vl,vu,.none]}}:=I3.kept (t':=s3.toks) λb ob q=>Zn _ q;obtain ⟨T,id,hT,ht,hg⟩:=hr pins {s3 with heap:=s3.heap.push {cls:=.type "slice",data:=.fields #[vl,vu,.none]}} σ H3 x v vl vu l u s3.heap.objs.size Q I4 r1 (aej ..) pl pu q3;show ZD (model X.prog X.w) X.A (subscriptTail e (.Slice lo hi Zl p2) v (.ref s3.heap.objs.size)) (EP X pins σ Q) X.xe {s3 with heap:=s3.heap.push {cls:=.type "slice",data:=.fields #[vl,vu,.none]}};exact tail_any (ops:=[.ref s3.heap.objs.size,v]) ht hT hg (by with_unfolding_all rfl)
def vj (xs:List V) (lo hi:Option Int):List V:=(xs.drop (HT.fC xs.length 0 lo)).take (HT.fC xs.length xs.length hi - HT.fC xs.length 0 lo)
theorem nV (xs:List V) (lo hi:Option Int):(vj xs lo hi).length≤xs.length:=by unfold vj;rw [abH,acE];nofun
def R7 (K:Zo):V→Option Int→Option Int→Hp→VK→Prop:=λx lo hi H Q=>∃ a xs,x=.ref a∧lq K H a xs ∧
 ¬ (HT.fC xs.length 0 lo=0∧HT.fC xs.length xs.length hi=xs.length)∧∀ p,H p=Zl→Q (.ref p) (upd H p (.tup (vj xs lo hi)))
theorem Le:Jx X (R7 X.K):=by
 intro pins s σ H x v vl vu lo hi sl Q I rx hs pl pu h;obtain ⟨a,xs,rfl,hx,hw,q⟩:=h;cases rx;obtain ⟨its,r,ht,hz⟩:=I.tuple hx;have hlen:its.toArray.size=xs.length:=by rw [ZA];exact r.length.symm
 refine ⟨"tuple",_,abF.lookup,ht.typeIs,?_⟩;refine HT.lY ht hs pl pu (by rw [hlen];exact hw) ?_ (by rw [hlen];exact hz);rw [hlen];refine ⟨.ref s.heap.objs.size,_,I.laid (t':=s.toks) (o:=.tup (vj xs lo hi)) (λb ob q=>Zn _ q) (Zs _) ?_,rfl,q _ (I.hok.fresh (Zs _))⟩;exact ⟨aal (nV xs lo hi) hz,_,(r.drop (HT.fC xs.length 0 lo)).take (HT.fC xs.length xs.length hi - HT.fC xs.length 0 lo),aeK _ _⟩
def Ol (K:Zo):R2:=λx y H Q=>∃ a b xs ys,x=.ref a∧y=.ref b∧lq K H a xs∧lq K H b ys∧xs≠[]∧xs.length+ys.length≤Zm ∧
 (ys=[]→Q (.ref a) H)∧(ys≠[]→∀ p,H p=Zl→Q (.ref p) (upd H p (.tup (xs++ys))))
theorem Vals.tS (r:Vals xs us):us=[]↔xs=[]:=by
 cases r with
 | nil=>simp
 | cons _ _=>simp
theorem Gv:iu X (binaryOp .Add) (Ol X.K):=by intro pins s σ H x y v u Q I rx ry h;obtain ⟨a,b,xs,ys,rfl,rfl,ha,hb,hx,hz,q1,q2⟩:=h;cases rx;cases ry;obtain ⟨its,r1,p1,_⟩:=I.tuple ha;obtain ⟨its2,r2,p2,_⟩:=I.tuple hb;refine HT.Gp p1 p2 (λz=>hx (r1.tS.mp z)) (λz=>⟨.ref a,H,I,rfl,q1 (r2.tS.mp z)⟩) (λz=>?_) (by rw [← r1.length,← r2.length];exact hz);refine ⟨.ref s.heap.objs.size,_,I.laid (t':=s.toks) (o:=.tup (xs++ys)) (λb ob q=>Zn _ q) (Zs _) ?_,rfl,q2 (λw=>z (r2.tS.mpr w)) _ (I.hok.fresh (Zs _))⟩;exact ⟨by rw [ZV];exact hz,_,r1.append r2,aeK _ _⟩
end
def xE (n:Nat) (i:Int):Option Nat:=if 0≤i then (if i<n then Zg i.toNat else Zl) else if -(n:Int)≤i then Zg (i+n).toNat else Zl
def jb {α:Type} (xs:List α) (i:Int):Option α:=(xE xs.length i).bind λj=>xs[j]?
theorem zk (h:xE n i=Zg j):seqIndex? i n=Zg j∧j<n∧-(n:Int)≤i∧i<n:=by
 unfold xE at h;by_cases h0:0≤i
 ·rw [if_pos h0] at h;by_cases h1:i<n
  ·rw [if_pos h1] at h;have e:i.toNat=j:=ZS h;exact ⟨by rw [seqIndex_of h0 h1,e],by nofun,by nofun,h1⟩
  ·rw [if_neg h1] at h;cases h
 ·rw [if_neg h0] at h;by_cases h1:-(n:Int)≤i
  ·rw [if_pos h1] at h;have e:(i+n).toNat=j:=ZS h;exact ⟨by rw [seqIndex_neg (by nofun) h1,e],by nofun,h1,by nofun⟩
  ·rw [if_neg h1] at h;cases h
theorem tT {α:Type} {xs:List α} {v:α} (h:jb xs i=Zg v):∃ j,seqIndex? i xs.length=Zg j∧xs[j]?=Zg v∧j<xs.length∧-(xs.length:Int)≤i∧i<xs.length:=by
 unfold jb at h;cases e:xE xs.length i with
 | none=>rw [e] at h;cases h
 | some j=>rw [e] at h;obtain ⟨h1,h2,h3,h4⟩:=zk e;exact ⟨j,h1,h,h2,h3,h4⟩
theorem ju {α:Type} {xs:List α} {v:α} (h:xs[j]?=Zg v):jb xs (j:Int)=Zg v:=by
 have hj:j<xs.length:=(Zp.mp h).1;have e:xE xs.length (j:Int)=Zg j:=by unfold xE;rw [if_pos (by nofun),if_pos (by nofun)];simp
 unfold jb;rw [e];exact h
def o6 (b:Expr):Prop:=∀ o i,subscripted b Zk o i=operate [o,i] (getItem o i)
def FP (X:Cx) (r:R2):Prop:=
 ∀ (value slice:Expr) (pins:List (Addr×Obj)) (s:Zq) (σ:St) (H:Hp) (x y:V) (v u:Zj) (Q:VK),Inv X pins σ H s→RelV x v→RelV y u→r x y H Q →
  subscripted slice Zk v u=operate [v,u] (getItem v u)→ZD (model X.prog X.w) X.A (subscriptTail value slice v u) (EP X pins σ Q) X.xe s
def B3 (X:Cx) (id:String) (r:V→List V→Hp→VK→Prop):Prop:=
 ∀ (pins:List (Addr×Obj)) (s:Zq) (σ:St) (H:Hp) (x:V) (xs:List V) (v:Zj) (us:List Zj) (Q:VK),Inv X pins σ H s→RelV x v→Vals xs us→r x xs H Q →
  ZD (model X.prog X.w) X.A (call (.builtin id) (v::us)) (EP X pins σ Q) X.xe s
section
variable {X:Cx} {a b:Expr} {ta tb:TE} {pos:Pos}
theorem FP.or {r r':R2} (h:FP X r) (h':FP X r'):FP X (λx y H Q=>r x y H Q∨r' x y H Q):=by
 intro value slice pins s σ H x y v u Q I rx ry q hs;rcases q with q | q
 ·exact h value slice pins s σ H x y v u Q I rx ry q hs
 ·exact h' value slice pins s σ H x y v u Q I rx ry q hs
theorem B3.or {id:String} {r r':V→List V→Hp→VK→Prop} (h:B3 X id r) (h':B3 X id r'):B3 X id (λx xs H Q=>r x xs H Q∨r' x xs H Q):=by
 intro pins s σ H x xs v us Q I rx rs q;rcases q with q | q
 ·exact h pins s σ H x xs v us Q I rx rs q
 ·exact h' pins s σ H x xs v us Q I rx rs q
theorem Om {r:R2} (hr:FP X r) (ha:PE X a ta) (hb:PE X b tb) (hs:o6 b):PE X (.Subscript a b pos) (N6 r ta tb):=by intro pins s σ H Q I h;exact Subscript_ (KL ha hb I h λv u s2 x y H2 I2 rx ry q=>hr a b pins s2 σ H2 x y v u Q I2 rx ry q (hs _ _))
def R8 (K:Zo):R2:=λx y H Q=>∃ p xs i v,x=.ref p∧y=.int i∧kE K H p xs∧jb xs i=Zg v∧Q v H
def R9 (K:Zo):R2:=λx y H Q=>∃ p xs i v,x=.ref p∧y=.int i∧lq K H p xs∧jb xs i=Zg v∧Q v H
def Sa:R2:=λx y H Q=>∃ z i c,x=.str z∧y=.int i∧z.length≤Zm∧jb z.cps.toList i=Zg c∧Q (.str ⟨#[c]⟩) H
theorem Gw:FP X (R8 X.K):=by
 intro value slice pins s σ H x y v u Q I rx ry h hs;obtain ⟨p,xs,i,z,rfl,rfl,hq,he,q⟩:=h;cases rx;obtain ⟨t,rfl⟩:=ry;obtain ⟨its,r,pl,hz⟩:=I.list hq;obtain ⟨j,h1,h2,h3,h4,h5⟩:=tT he;obtain ⟨w,ew,rw'⟩:=r.get h2;have hl:=r.length;have hn:=lA;have fin:EP X pins σ Q w s:=⟨z,H,I,rw',q⟩;by_cases h0:0≤i
 ·have hj:i.toNat=j:=by rw [seqIndex_of h0 h5] at h1;exact ZS h1
  exact item_listR pl.isList h0 (by nofun) (by rw [hj];simpa using ew) fin hs
 ·have hj:(i+(its.toArray.size:Int)).toNat=j:=by rw [seqIndex_neg (by nofun) h4] at h1;rw [ZA,← hl];exact ZS h1
  exact subscriptTail_builtinR (x:=w) pl.isList.typeIs slot_list_getitem.lookup
   (wpAny_getItem_list_neg (Q:=λr s'=>r=w∧EP X pins σ Q r s') pl.isList (by nofun) (by rw [ZA]<;>nofun) (by nofun) (by rw [hj];simpa using ew) ⟨rfl,fin⟩) hs
theorem Lf:FP X (R9 X.K):=by
 intro value slice pins s σ H x y v u Q I rx ry h hs;obtain ⟨p,xs,i,z,rfl,rfl,hq,he,q⟩:=h;cases rx;obtain ⟨t,rfl⟩:=ry;obtain ⟨its,r,pl,hz⟩:=I.tuple hq;obtain ⟨j,h1,h2,h3,h4,h5⟩:=tT he;obtain ⟨w,ew,rw'⟩:=r.get h2;have hl:=r.length;have hn:=lA;have fin:EP X pins σ Q w s:=⟨z,H,I,rw',q⟩
 exact subscriptTail_builtinR (x:=w) pl.typeIs slot_tuple_getitem.lookup
  (getItem_tuple (j:=j) (Q:=λr s'=>r=w∧EP X pins σ Q r s') pl (by nofun) (by nofun) (by rw [ZA,← hl];exact h1) (by simpa using ew) ⟨rfl,fin⟩) hs
theorem Lg:FP X Sa:=by
 intro value slice pins s σ H x y v u Q I rx ry h hs;obtain ⟨z,i,c,rfl,rfl,hz,he,q⟩:=h;obtain ⟨t,rfl⟩:=rx;obtain ⟨t',rfl⟩:=ry;obtain ⟨j,h1,h2,h3,h4,h5⟩:=tT he;have hl:z.cps.toList.length=z.length:=by simp [Str.length]
 rw [hl] at h1 h4 h5;have hn:=lA;exact tail_any (typeIs_str s z t) slot_str_getitem.lookup (getItem_str (c:=c) (by have e1:decide (i < -(2^63:Int))=Zk:=decide_eq_false (by nofun);have e2:decide (i ≥ 2^63)=Zk:=decide_eq_false (by nofun);rw [e1,e2,Bool.or_false]) (by rw [h1];simpa using h2) ⟨.str ⟨#[c]⟩,H,I.tok _,⟨_,rfl⟩,q⟩) hs
theorem yc (its:List Zj) (n j:Nat) (u:Zj):ab0 (·.setIfInBounds j u) {cls:=.type "list",data:=.seq its.toArray n}={cls:=.type "list",data:=.seq (its.set j u).toArray n}:=by simp [ab0]
theorem Inv.lst (I:Inv X pins σ H s) (h:H p=Zg (.lst xs)) :
  ∃ (its:List Zj) (n:Nat),Vals xs its∧s.heap.get? p=Zg {cls:=.type "list",data:=.seq its.toArray n}∧xs.length≤Zm:=by
 obtain ⟨z,its,n,r,e⟩:=I.hok p _ h;exact ⟨its,n,r,e,z⟩
theorem Inv.Lh {ys:List V} {its its':List Zj} {n n':Nat} {f:Obj→Obj} (I:Inv X pins σ H s) (h:H p=Zg (.lst xs))
  (ho:s.heap.get? p=Zg {cls:=.type "list",data:=.seq its.toArray n}) (hf:f {cls:=.type "list",data:=.seq its.toArray n}={cls:=.type "list",data:=.seq its'.toArray n'}) (r:Vals ys its') (hz:ys.length≤Zm) (t:Nat) (ht:0<t:=by first | exact aab _ | exact (Inv.os (by assumption)).2 | assumption | nofun) :
  Inv X pins σ (upd H p (.lst ys)) {s with heap:=s.heap.update p f,toks:=t}:=by
 have e:(s.heap.update p f).get? p=Zg {cls:=.type "list",data:=.seq its'.toArray n'}:=by rw [Z1 f ho (by rw [hf]<;>rfl),hf]
 refine I.write (x:=p) (e:=p) (by rw [h];trivial) (.inl rfl) (λb u hb q=>(ZR _ _ (aat hb)).trans q) ⟨_,e⟩ ?_;exact ⟨hz,its',n',r,e⟩
def Oo:V→V→V→Hp→(Hp→Prop)→Prop:=λo i v H Q=>∃ p xs k j,o=.ref p∧i=.int k∧H p=Zg (.lst xs)∧xE xs.length k=Zg j∧Q (upd H p (.lst (xs.set j v)))
theorem set_list:N4 X Oo:=by
 intro pins s σ H o i v ov iv u Q I ro ri rv h;obtain ⟨p,xs,k,j,rfl,rfl,hp,hj,q⟩:=h;cases ro;obtain ⟨t,rfl⟩:=ri;obtain ⟨its,n,r,ho,hz⟩:=I.lst hp;obtain ⟨h1,h2,h3,h4⟩:=zk hj;have hl:=r.length;have hn:=lA
 have I':Inv X pins σ (upd H p (.lst (xs.set j v))) {s with heap:=s.heap.update p (ab0 (·.setIfInBounds j u))}:=
  I.Lh hp ho (yc its n j u) (r.set rv j) (by rw [List.length_set];exact hz) s.toks
 by_cases h0:0≤k
 ·have hk:k.toNat=j:=by rw [seqIndex_of h0 h4] at h1;exact ZS h1
  exact PySem.W.ki_setAt ho h0 (by nofun) (by rw [ZA,← hl];exact h4) (by rw [hk];exact ⟨_,I',q⟩)
 ·have hk:(k+(its.toArray.size:Int)).toNat=j:=by rw [seqIndex_neg (by nofun) h3] at h1;rw [ZA,← hl];exact ZS h1
  exact PySem.W.ki_setBack ho (by nofun) (by rw [ZA,← hl];exact h3) (by nofun) (by rw [hk];exact ⟨_,I',q⟩)
theorem tU (lo hi:Option Int) (n:Nat):(sliceBounds lo hi Zl n).1=((HT.fC n 0 lo:Nat):Int)∧(sliceBounds lo hi Zl n).2.1=((HT.fC n n hi:Nat):Int)∧(sliceBounds lo hi Zl n).2.2=1:=by
 refine ⟨?_,?_,rfl⟩
 ·cases lo with
  | none=>simp [sliceBounds,HT.fC]
  | some i=>
   simp only [sliceBounds,HT.fC,Option.getD_none,show (1:Int) > 0 by decide,if_true];by_cases h:i<0
   ·simp only [h,if_true]<;>nofun
   ·simp only [h,if_false]<;>nofun
 ·cases hi with
  | none=>simp [sliceBounds,HT.fC]
  | some i=>
   simp only [sliceBounds,HT.fC,Option.getD_none,show (1:Int) > 0 by decide,if_true];by_cases h:i<0
   ·simp only [h,if_true]<;>nofun
   ·simp only [h,if_false]<;>nofun
theorem qW (its:List Zj) (lo hi:Option Int):slicePick its.toArray lo hi Zl=((its.drop (HT.fC its.length 0 lo)).take (HT.fC its.length its.length hi - HT.fC its.length 0 lo)).toArray:=by obtain ⟨h1,h2,h3⟩:=tU lo hi its.toArray.size;unfold slicePick;rw [h1,h2,h3];simp only [sliceRange_one,pick_run,ZA]<;>rfl
def Sb (K:Zo):V→Option Int→Option Int→Hp→VK→Prop:=λx lo hi H Q=>∃ a xs,x=.ref a∧kE K H a xs∧∀ p,H p=Zl→Q (.ref p) (upd H p (.lst (vj xs lo hi)))
theorem Gx:Jx X (Sb X.K):=by intro pins s σ H x v vl vu lo hi sl Q I rx hs pl pu h;obtain ⟨a,xs,rfl,hx,q⟩:=h;cases rx;obtain ⟨its,r,ht,hz⟩:=I.list hx;have hlen:=r.length;refine ⟨"list",_,slot_list_getitem.lookup,ht.isList.typeIs,?_⟩;refine wpAny_getItem_list_slice ht.isList hs pl pu .none (by simp) ?_ (by rw [ZA]<;>nofun);rw [qW,← hlen];refine ⟨.ref s.heap.objs.size,_,I.laid (t':=s.toks) (o:=.lst (vj xs lo hi)) (λb ob q=>Zn _ q) (Zs _) ?_,rfl,q _ (I.hok.fresh (Zs _))⟩;exact ⟨aal (nV xs lo hi) hz,_,0,(r.drop (HT.fC xs.length 0 lo)).take (HT.fC xs.length xs.length hi - HT.fC xs.length 0 lo),Zv _ rfl⟩
theorem lZ:c9 X (.builtin "len") (λxs H Q=>∃ p ys,xs=[.ref p]∧(kE X.K H p ys∨lq X.K H p ys)∧Q (.int ys.length) H):=by
 intro pins s σ H xs us Q I r h;obtain ⟨p,ys,rfl,hq,q⟩:=h;obtain ⟨u,rfl,rx⟩:=vals1 r;cases rx;have hn:=lA;rcases hq with hq | hq
 ·obtain ⟨its,r',pl,hz⟩:=I.list hq;have hlen:=r'.length;exact Calls.call_len_list pl.isList (by simp only [ZA]<;>nofun) ⟨.int ys.length,H,I.tok _,⟨s.toks+1,by rw [ZA,hlen]⟩,q⟩
 ·obtain ⟨its,r',pl,hz⟩:=I.tuple hq;have hlen:=r'.length;exact len_tuple pl (by simp only [ZA]<;>nofun) ⟨.int ys.length,H,I.tok _,⟨s.toks+1,by rw [ZA,hlen]⟩,q⟩
theorem tV:c9 X (.builtin "len") (λxs H Q=>∃ z,xs=[.str z]∧z.length≤Zm∧Q (.int z.length) H):=by intro pins s σ H xs us Q I r h;obtain ⟨z,rfl,hz,q⟩:=h;obtain ⟨u,rfl,t,rfl⟩:=vals1 r;have hn:=lA;exact len_str (by nofun) ⟨.int z.length,H,I.tok _,⟨_,rfl⟩,q⟩
theorem c9.or {r r':List V→Hp→VK→Prop} (h:c9 X f r) (h':c9 X f r'):c9 X f (λxs H Q=>r xs H Q∨r' xs H Q):=by
 intro pins s σ H xs us Q I rs q;rcases q with q | q
 ·exact h pins s σ H xs us Q I rs q
 ·exact h' pins s σ H xs us Q I rs q
theorem l6:c9 X (.type "list") (λxs H Q=>∃ p ys,xs=[.ref p]∧(kE X.K H p ys∨lq X.K H p ys)∧∀ l,H l=Zl→Q (.ref l) (upd H l (.lst ys))):=by
 intro pins s σ H xs us Q I r h;obtain ⟨p,ys,rfl,hq,q⟩:=h;obtain ⟨u,rfl,rx⟩:=vals1 r;cases rx
 have fin:∀ (its:List Zj),Vals ys its→ys.length≤Zm→∀ (h':Heap) (c':Nat),(∀ b o',s.heap.get? b=Zg o'→h'.get? b=Zg o') →
   h'.get? s.heap.objs.size=Zg {cls:=.type "list",dict:=Zl,data:=.seq its.toArray c',slots:=#[]}→EP X pins σ Q (.ref s.heap.objs.size) {s with heap:=h'}:=λits r' hz h' c' kp e=>
  ⟨.ref s.heap.objs.size,_,I.laid (t':=s.toks) kp (Zs _) (show eF X.prog X.w _ h' _ (.lst ys) from ⟨hz,its,c',r',e⟩),rfl,q _ (I.hok.fresh (Zs _))⟩
 rcases hq with hq | hq
 ·obtain ⟨its,r',pl,hz⟩:=I.list hq;have hlen:=r'.length;obtain ⟨o,ho,hc,n,hd⟩:=pl.isList;exact call_list_seq p (.inl rfl) ho hc hd (λh' c' kp e=>fin its r' hz h' c' kp e) (by simp only [ZA]<;>nofun)
 ·obtain ⟨its,r',pl,hz⟩:=I.tuple hq;have hlen:=r'.length;obtain ⟨o,ho,hc,n,hd⟩:=pl;exact call_list_seq p (.inr rfl) ho hc hd (λh' c' kp e=>fin its r' hz h' c' kp e) (by simp only [ZA]<;>nofun)
theorem kY:c9 X (.type "tuple") (λxs H Q=>∃ p ys,xs=[.ref p]∧((kE X.K H p ys∧∀ l,H l=Zl→Q (.ref l) (upd H l (.tup ys)))∨(lq X.K H p ys∧Q (.ref p) H))):=by
 intro pins s σ H xs us Q I r h;obtain ⟨p,ys,rfl,h⟩:=h;obtain ⟨u,rfl,rx⟩:=vals1 r;cases rx;rcases h with ⟨hq,q⟩ | ⟨hq,q⟩
 ·obtain ⟨its,r',pl,hz⟩:=I.list hq;have hlen:=r'.length;refine call_tuple_list pl.isList (λh' kp=>?_) (by simp only [ZA]<;>nofun);have I1:Inv X pins σ H {s with heap:=h'}:=I.kept (t':=s.toks) kp
  have I2:Inv X pins σ (upd H h'.objs.size (.tup ys)) {s with heap:=h'.push {cls:=.type "tuple",data:=.seq its.toArray}}:=
   I1.laid (t':=s.toks) (λb o e=>Zn _ e) (Zs _) (show eF X.prog X.w _ _ _ (.tup ys) from ⟨hz,its,r',aeK _ _⟩)
  exact ⟨.ref h'.objs.size,_,I2,rfl,q _ (I1.hok.fresh (Zs _))⟩
 ·obtain ⟨its,r',pl,hz⟩:=I.tuple hq;exact call_tuple_same pl ⟨.ref p,H,I,rfl,q⟩
def QM (K:Zo) (T:String) (x:V) (H:Hp):Prop:=match x with
 | .str _=>T="str"
 | .int _=>T="int"
 | .ref p=>(T="list"∧∃ xs,kE K H p xs)∨(T="tuple"∧∃ o,K.lookup p=Zg o∧o.cls=.type "tuple"∧o.dict=Zl) ∨
   (T="dict"∧((∃ kvs,H p=Zg (.dK kvs))∨∃ kvs,H p=Zg (.dT kvs)))∨(T="set"∧∃ S n,H p=Zg (.set S n))
 | _=>False
theorem CB {x:V} (I:Inv X pins σ H s) (r:RelV x v) (ty:QM X.K T x H) :
  s.TypeIs v T∧∀ a,v=.ref a→∃ ob,s.heap.get? a=Zg ob∧ob.dict=Zl:=by
 cases x with
 | str z=>obtain ⟨t,rfl⟩:=r;cases (show T="str" from ty);exact ⟨typeIs_str s z t,λ_ e=>nomatch e⟩
 | int i=>obtain ⟨t,rfl⟩:=r;cases (show T="int" from ty);exact ⟨typeIs_int s i t,λ_ e=>nomatch e⟩
 | ref p=>
  cases r;rcases ty with ⟨rfl,xs,hq⟩ | ⟨rfl,o,hk,hc,hd⟩ | ⟨rfl,hk⟩ | ⟨rfl,S,n,hk⟩
  ·obtain ⟨its,_,pl,_⟩:=I.list hq;refine ⟨pl.isList.typeIs,λa e=>?_⟩;cases e;obtain ⟨o,n,e,c,hd,_⟩:=pl;exact ⟨o,e,hd⟩
  ·refine ⟨⟨o,I.oY p o hk,hc⟩,λa e=>?_⟩;cases e;exact ⟨o,I.oY _ o hk,hd⟩
  ·have z:∃ o,s.heap.get? p=Zg o∧o.ExactDict:=by
    rcases hk with ⟨kvs,hk⟩ | ⟨kvs,hk⟩
    ·obtain ⟨_,_,_,_,o,_,_,e,ex,_⟩:=I.hok p _ hk;exact ⟨o,e,ex⟩
    ·obtain ⟨_,_,_,_,o,_,_,e,ex,_⟩:=I.hok p _ hk;exact ⟨o,e,ex⟩
   obtain ⟨o,e,ex⟩:=z;refine ⟨⟨o,e,ex.1⟩,λa e2=>?_⟩;cases e2;exact ⟨o,e,ex.2.1⟩
  ·obtain ⟨o,_,_,_,e,ex,_⟩:=I.hok p _ hk;refine ⟨⟨o,e,ex.1⟩,λa e2=>?_⟩;cases e2;exact ⟨o,e,ex.2.1⟩
 | _=>exact aac ty
def Sd (K:Zo) (T:String) (r:V→List V→Hp→VK→Prop) (to:TE):TE:=λσ H Q=>to σ H λx H1=>QM K T x H1∧r x [] H1 Q
def VQ (K:Zo) (T:String) (r:V→List V→Hp→VK→Prop) (to:TE) (t:TA):TE:=λσ H Q=>to σ H λx H1=>QM K T x H1∧t σ H1 λxs H2=>r x xs H2 Q
variable {o e:Expr} {es:List Expr} {to:TE} {t:TA} {name:Str} {apos cpos:Pos} {T id:String} {r:V→List V→Hp→VK→Prop}
theorem Li (pa:PlainAttrs T) (slot:Slot T name id) (hty:typeOf (.builtin id)=pure (.type "method_descriptor")) (hm:B3 X id r) (ho:PE X o to)
  (hbase:attributeBase o name X.env (eval o X.env)=eval o X.env:=by rfl) (hline:(apos.endLine==cpos.line)=Zh:=by rfl):PE X (.Call (.Attribute o name apos) [] [] cpos) (Sd X.K T r to):=by
 intro pins s σ H Q I h;refine wpAny_Call_method0_late hbase hline (cO (ho pins s σ H _ I h) λv s1 zz=>?_);obtain ⟨x,H1,I1,r1,ty,q1⟩:=zz;obtain ⟨h1,h2⟩:=CB I1 r1 ty;exact ⟨T,id,pa,slot,hty,h1,h2,adE rfl (PySem.evalArgs_none (hm pins s1 σ H1 x [] v [] Q I1 r1 .nil q1))⟩
theorem Oq (pa:PlainAttrs T) (slot:Slot T name id) (hty:typeOf (.builtin id)=pure (.type "method_descriptor")) (hm:B3 X id r) (ho:PE X o to) (ha:PA X (e::es) t)
  (hbase:attributeBase o name X.env (eval o X.env)=eval o X.env:=by rfl)
  (hfew:((backTo cpos (ZF (e::es) X.env)).all (λx=>!x.1)&&(backToKw cpos (keywordEach [] X.env)).all (λx=>x.1.isSome)
   && decide ((e::es).length+([]:List Keyword).length+(if ([]:List Keyword).isEmpty then 0 else 1)<30))=Zh:=by rfl)
  (hline:(apos.endLine==cpos.line)=Zh:=by rfl) (hs:ZF (e::es) X.env=(Zk,eval e X.env)::ZF es X.env:=by rfl) (hplain:(backTo cpos (ZF es X.env)).any (·.1)=Zk:=by rfl) :
  PE X (.Call (.Attribute o name apos) (e::es) [] cpos) (VQ X.K T r to t):=by
 intro pins s σ H Q I h;refine wpAny_Call_method_late hbase hfew hline rfl (cO (ho pins s σ H _ I h) λv s1 zz=>?_);obtain ⟨x,H1,I1,r1,ty,q1⟩:=zz;obtain ⟨h1,h2⟩:=CB I1 r1 ty;refine ⟨T,id,pa,slot,hty,h1,h2,?_⟩;have hA:=ha cpos pins s1 σ H1 _ I1 q1;rw [hs] at hA ⊢;refine adE (by show (Zk||(backTo cpos (ZF es X.env)).any (·.1))=Zk;rw [hplain]<;>rfl) (Calls.evalArgs_plain ?_);exact cO hA λus s2 zz=>by obtain ⟨vs,H2,I2,r2,q2⟩:=zz;exact hm pins s2 σ H2 x vs v us Q I2 r1 r2 q2
end
def Uz (X:Cx) (id:String) (r:V→List V→Hp→VK→Prop):Prop:=
 ∀ (pins:List (Addr×Obj)) (s:Zq) (σ:St) (H:Hp) (x:V) (xs:List V) (v:Zj) (us:List Zj) (Q:VK),Inv X pins σ H s→RelV x v→Vals xs us→r x xs H Q →
  ZD (model X.prog X.w) X.A (call (.builtin id) (v::us)) (EP X pins σ Q) X.xe s
theorem Vals.one:∀ {x:V} {us:List Zj},Vals [x] us→∃ u,us=[u]∧RelV x u
 | _,_,.cons r .nil=>⟨_,rfl,r⟩
theorem Vals.zero:∀ {us:List Zj},Vals [] us→us=[]
 | _,.nil=>rfl
theorem Vals.dropLast (h:Vals xs us):Vals xs.dropLast us.dropLast:=by
 induction h with
 | nil=>exact .nil
 | cons r t ih=>
  cases t with
  | nil=>exact .nil
  | cons q t'=>exact .cons r ih
theorem Vals.eraseIdx:∀ {xs:List V} {us:List Zj} (i:Nat),Vals xs us→Vals (xs.eraseIdx i) (us.eraseIdx i)
 | _,_,_,.nil=>.nil
 | _,_,0,.cons _ t=>t
 | _,_,i+1,.cons r t=>.cons r (Vals.eraseIdx i t)
theorem Vals.reverse (h:Vals xs us):Vals xs.reverse us.reverse:=by
 induction h with
 | nil=>exact .nil
 | cons r t ih=>rw [aaw,aaw];exact Vals.append ih (.cons r .nil)
theorem Vals.rep (h:Vals xs us):∀ k:Nat,Vals (ZH k xs).flatten (ZH k us).flatten
 | 0=>.nil
 | k+1=>by rw [aaS,aaS,abz,abz];exact Vals.append h (Vals.rep h k)
theorem yd (l:List α):l.eraseIdx (l.length - 1)=l.dropLast:=by
 induction l with
 | nil=>rfl
 | cons a r ih=>
  cases r with
  | nil=>rfl
  | cons b r=>
   have e:(a::b::r).length - 1=((b::r).length - 1)+1:=by have h1:(a::b::r).length=r.length+2:=rfl;have h2:(b::r).length=r.length+1:=rfl;nofun
   rw [e,List.eraseIdx_cons_succ,ih]
   all_goals rfl
theorem foldl_rep (its:List Zj):∀ (k:Nat) (acc:List Zj),
  ae5 (λx1 x2=>x1++x2) acc.toArray (ZH k its.toArray)=(acc++(ZH k its).flatten).toArray
 | 0,acc=>by simp
 | k+1,acc=>by
  have e:acc.toArray++its.toArray=(acc++its).toArray:=by simp
  have e2:(acc++its)++(ZH k its).flatten=acc++(ZH (k+1) its).flatten:=by rw [aaS,abz,aaQ]
  rw [← e2,← foldl_rep its k (acc++its),← e,aaS,List.foldl_cons]
section
variable {X:Cx} {pins:List (Addr×Obj)} {σ:St} {H:Hp} {s:Zq} {l b:Addr} {xs ys zs:List V}
theorem Inv.Lj {its its':List Zj} {n:Nat} {f:Array Zj→Array Zj} {t':Nat} (I:Inv X pins σ H s) (hH:H l=Zg (.lst xs))
  (e:s.heap.get? l=Zg {cls:=.type "list",data:=.seq its.toArray n}) (hf:f its.toArray=its'.toArray) (hv:Vals ys its') (hz:ys.length≤Zm) (ht:0<t':=by first | exact aab _ | exact (Inv.os (by assumption)).2 | assumption | nofun) :
  Inv X pins σ (upd H l (.lst ys)) {s with heap:=s.heap.update l (ab0 f),toks:=t'}:=by
 have q:=PySem.IsL.update e f;rw [hf] at q;refine I.write (x:=l) (e:=l) (by rw [hH];exact trivial) (.inl rfl) (λb' u hb hu=>(ZR s.heap (ab0 f) (aat hb)).trans hu) ⟨_,q⟩ ?_;exact ⟨hz,its',_,hv,q⟩
theorem Inv.Ot (I:Inv X pins σ H s) (hv:Vals ys its) (hz:ys.length≤Zm) (ht:0<t':=by first | exact aab _ | exact (Inv.os (by assumption)).2 | assumption | nofun) :
  Inv X pins σ (upd H s.heap.objs.size (.lst ys)) {s with heap:=s.heap.push {cls:=.type "list",data:=.seq its.toArray},toks:=t'}:=
 I.laid (λ_ _ q=>Zn _ q) (Zs _) ⟨hz,its,0,hv,Zv _ rfl⟩
theorem Inv.fresh (I:Inv X pins σ H s):H s.heap.objs.size=Zl:=I.hok.fresh (Zs _)
theorem Inv.Gy (I:Inv X pins σ H s) (hH:H l=Zg (.lst xs)):xs.length≤Zm∧∃ (its:List Zj) (n:Nat),Vals xs its∧xs.length=its.length∧s.heap.get? l=Zg {cls:=.type "list",data:=.seq its.toArray n}:=by obtain ⟨z,its,n,r,e⟩:=I.hok l _ hH;exact ⟨z,its,n,r,r.length,e⟩
theorem vm (h:n≤Zm):aaY n=Zk:=by unfold aaY;exact decide_eq_false (by nofun)
end
section
variable {X:Cx}
def Gz:V→List V→Hp→VK→Prop:=λx vs H Q=>∃ l xs y,x=.ref l∧vs=[y]∧H l=Zg (.lst xs)∧xs.length<Zm∧Q .cy (upd H l (.lst (xs++[y])))
theorem rX:Uz X "list.append" Gz:=by intro pins s σ H x vs v us Q I rx rv h;obtain ⟨l,xs,y,rfl,rfl,hH,hz,q⟩:=h;cases rx;obtain ⟨u,rfl,ru⟩:=rv.one;obtain ⟨z,its,n,r,hl,e⟩:=I.Gy hH;refine call_meets F.slot_list_append ⟨_,e,rfl⟩ F.entry_list_append (F.args_list_append_2 _ _) (PySem.list_append l its.toArray n u (by rw [ZA];nofun)) ⟨e,?_⟩;refine ⟨.cy,_,I.Lj (its':=its++[u]) hH e (by simp) (r.append (.cons ru .nil)) ?_,rfl,q⟩;rw [ZV,adO];nofun
def Se:V→List V→Hp→VK→Prop:=λx vs H Q=>∃ l xs y,x=.ref l∧vs=[]∧H l=Zg (.lst xs)∧xs[xs.length - 1]?=Zg y∧Q y (upd H l (.lst xs.dropLast))
theorem Ll:Uz X "list.pop" Se:=by
 intro pins s σ H x vs v us Q I rx rv h;obtain ⟨l,xs,y,rfl,rfl,hH,hy,q⟩:=h;cases rx;have oE:=rv.zero;subst oE;obtain ⟨z,its,n,r,hl,e⟩:=I.Gy hH;obtain ⟨u,hu,ru⟩:=r.get hy;have hy':its.toArray[its.toArray.size - 1]?=Zg u:=by show its.toArray[its.length - 1]?=Zg u;rw [← Array.getElem?_toList,← hl];exact hu
 refine call_meets F.slot_list_pop ⟨_,e,rfl⟩ F.entry_list_pop (F.args_list_pop_1 _) (MeetsSeq.list_pop_last l its.toArray n u hy' (by rw [ZA];nofun)) ⟨e,?_⟩;refine ⟨y,_,I.Lj (its':=its.dropLast) hH e ?_ r.dropLast ?_,ru,q⟩
 ·show its.toArray.eraseIdxIfInBounds (its.toArray.size - 1)=its.dropLast.toArray;rw [ZA,List.eraseIdxIfInBounds_toArray,yd]
 ·rw [List.length_dropLast];nofun
def Sf:R2:=λx y H Q=>∃ l k xs,x=.ref l∧y=.int k∧H l=Zg (.lst xs)∧-(2^63)≤k∧k<2^63∧xs.length*k.toNat≤Zm ∧
 ∀ p,H p=Zl→Q (.ref p) (upd H p (.lst (ZH k.toNat xs).flatten))
theorem len_rep (xs:List α) (k:Nat):(ZH k xs).flatten.length=k*xs.length:=by
 induction k with
 | zero=>simp
 | succ k ih=>rw [aaS,abz,ZV,ih,Nat.succ_mul,Nat.add_comm]
theorem Lm:iu X (binaryOp .Mult) Sf:=by
 intro pins s σ H x y v u Q I rx ry h;obtain ⟨l,k,xs,rfl,rfl,hH,h1,h2,hz,q⟩:=h;cases rx;obtain ⟨t,rfl⟩:=ry;obtain ⟨z,its,n,r,hl,e⟩:=I.Gy hH;have hlen:its.toArray.size*k.toNat≤Zm:=by rw [ZA,← hl];exact hz
 have hcap:¬ its.toArray.size*k.toNat > (2^63 - 1) / 8:=by
  have:(Zm:Nat)≤(2^63 - 1) / 8:=by decide
  nofun
 have hfit:¬ (!Builtin.List.listFitsIndex k)=Zh:=by rw [fitsIndex_both h1 h2];exact ZX
 have CC:¬ aaY (its.toArray.size*k.toNat)=Zh:=by rw [vm hlen];exact ZX
 have hnew:ae5 (λx1 x2=>x1++x2) #[] (ZH (if its.toArray.isEmpty=Zh then 0 else k.toNat) its.toArray)=(ZH k.toNat its).flatten.toArray:=by
  have f0:∀ m:Nat,ae5 (λx1 x2=>x1++x2) #[] (ZH m its.toArray)=(ZH m its).flatten.toArray:=λm=>by have:=foldl_rep its m [];rw [aam] at this;exact this
  rw [f0];cases its with
  | nil=>simp
  | cons a r'=>rw [if_neg (by simp)]
 refine wpAny_binaryOp_repeat_ref (T:="list") (U:="int") (by decide) ⟨_,e,rfl⟩ (λs'=>typeIs_int s' k t) noFill_list_mul F.fills_int_mul aeW repeat_list F.slot_int_index.lookup
  (call_meets aeW (typeIs_int s k t) F.entry_int_rmul (F.args_int_rmul_2 _ _) (int___rmul___int_list k t l its.toArray n)
   ⟨e,rfl,⟨_,e,rfl⟩,call_meets F.slot_list_mul ⟨_,e,rfl⟩ F.entry_list_mul (F.args_list_mul_2 _ _) (AutoListH.list___mul___list_int_3 l its.toArray n k t hfit hcap CC) ⟨e,?_⟩⟩)
 rw [hnew];exact ⟨.ref _,_,I.Ot (t':=s.toks) (r.rep k.toNat) (by rw [len_rep,aex];exact hz),rfl,q _ I.fresh⟩
end
end
end L2
namespace UA
noncomputable section
open PySem PySem.W PySem.Calls PyProof.Rows
theorem oF {P:Params} {h:Heap}:∀ (ns:List Int) (vs:List Zj),WellAll P h vs (ns.map WData.int)→IntsAre vs ns:=by
 intro ns
 induction ns with
 | nil=>intro vs w;rw [ZU] at w;cases w;exact .nil
 | cons n ns ih=>
  intro vs w;rw [Zy] at w;cases w with
  | cons a b=>cases a;exact .cons _ _ (ih _ b)
theorem Au {l:OpenLaw} {n:Nat} (hn:l.most=Zg n) {P:Params} {h:Heap} {args:List WData} {vals:List Zj}
  (hpre:l.row.toRowW.claim.pre args=Zh) (hwl:WellAll P h vals args) :
  ∃ a vs ns,vals=[Value.ref a]∧args=[WData.list (ns.map WData.int)]∧h.get? a=Zg {cls:=.type "list",data:=.seq vs.toArray}∧IntsAre vs ns∧ns.length≤n:=by
 have hsh:WShape.hasAll [] args [.list .int]=Zh:=(pre_splitW hpre).1;have hc:l.pre.holds [] {args:=args}=Zh:=(pre_splitW hpre).2;obtain ⟨d,r,rfl,h1,h2⟩:=hasAllW_cons hsh;obtain rfl:=hasAllW_nil h2;obtain ⟨xs,rfl,h3⟩:=hasW_list h1;obtain ⟨ns,rfl⟩:=items_int h3;have hlen:ns.length≤n:=by
  unfold OpenLaw.pre at hc;have h4:(WTm.not (.lt (.lit (.int (n:Int))) (.len (.arg 0)))).holds [] {args:=[.list (ns.map .int)]}=Zh:=by have h4:=(holds_andW hc).1;rw [hn] at h4;exact h4
  have h5:=condW_of h4 (w_not (w_lt w_lit (w_len_list (w_arg rfl))));rw [ZG] at h5;refine aeL λq=>?_;have q':(n:Int)<((ns.length:Nat):Int):=by nofun
  first
   | (rw [decide_eq_true q'] at h5;exact absurd h5 (by decide))
   | (simp at h5;nofun)
 cases hwl with
 | cons w1 w2=>
  cases w2;cases w1 with
  | list ho hall=>exact ⟨_,_,ns,rfl,rfl,ho,oF ns _ hall,hlen⟩
theorem Av (l:OpenLaw) (args:List WData):l.row.toRowW.claim.post args (.bool Zh) args=Zh:=
 postW_of (r:=l.row.toRowW) (X:=(Zh==Zh))
  (show WShape.has [] (.bool Zh) .bool=Zh by first | rfl | decide | simp [WShape.has,WShape.arms,WShape.armsAll])
  (show (WTm.eq .res (.lit (.bool Zh))).value [] {args:=args,res:=Zg (.bool Zh),after:=args}=Zg (.bool (Zh==Zh)) from w_eq_bool (w_res rfl) w_lit) rfl
theorem vn {l:OpenLaw} {n:Nat} {q:ZT} {loose:List Str} {XP:(Str→Option Zj)→Heap→Prop} {YP:aaa→Heap→Prop} {d:DefRec}
  (hn:l.most=Zg n) (hdf:d.params.defaults=[])
  (call:∀ (w:aaa) (s₀ s₁:Zq) (mg mb:Str→Option Zj) (fa:Addr) (o:Obj) (pm cd doc:Zj) (a:Addr) (vs:List Zj) (ns:List Int),
   Ground q loose [] XP w s₀ mg mb s₁.heap→YP w s₁.heap →
   s₁.heap.get? fa=Zg o→o.data=.func (docDef d.name d.params d.body d.scope pm cd doc)→s₁.heap.CodeRec cd d.name→mg d.name=Zg (.ref fa) →
   s₁.heap.get? a=Zg {cls:=.type "list",data:=.seq vs.toArray}→IntsAre vs ns→ns.length≤n→s₁.gens=#[] →
   codeAny (model l.prog w) callerA (.call (.ref fa) ⟨[.ref a],[]⟩) (λr s'=>r=.ok (.ret (.bool Zh))∧OldK s₁.heap s'.heap∧s'.os=s₁.os∧AllBare s'.gens) s₁) :
  WalkO q loose XP YP l.row.toRowW d [] (λf vs=>ae6 f vs):=by
 intro w s₀ s₁ mg mb G Y fa o pm cd doc dV kV ho hd hcd hD hmg hg args vals as hpre hlay hrd hwl hlo;obtain rfl:dV=.none:=Dflts.none hD hdf;obtain rfl:kV=.none:=Dflts.noKw hD;obtain ⟨a,vs,ns,rfl,rfl,hobj,hints,hlen⟩:=Au hn hpre hwl;refine enter_call (codeAny_mono (call w s₀ s₁ mg mb fa o pm cd doc a vs ns G Y ho (fd_plain hd) hcd hmg hobj hints hlen hg) λr s' hq=>?_);obtain ⟨rfl,h2,h3,h4⟩:=hq;exact ⟨.inl ⟨.bool Zh,.bool Zh,[],rfl,λ_=>rfl,.bool Zh,Av l _,λ_=>⟨List.Pairwise.nil,λ_ hm=>(nomatch hm)⟩⟩,h2,h3,h4⟩
end
end UA
namespace L2
noncomputable section
open PySem PySem.Spec PyProof.Rows
variable {kvs:List (List Key×V)} {xs:List (List Key×Addr×Zj)} {H H':Hp} {P:ZT} {w:aaa} {Q:Zj→Zq→Prop} {o:Option V} {GD:List (TE×TE)} {u:Option Zj} {X:Cx} {pos:Pos} {osl:Array (Option Zj)} {ks:List (Option Expr)} {qual x:Str} {vs:List (Key×Zj)} {h':Heap} {pins:List (Addr×Obj)} {f a b:Addr} {od an:Option Addr} {y:V} {values:List Expr} {fd:FuncData} {s:Zq} {pm oc doc d' ct cdv:Zj} {v:Expr} {t':Nat}
theorem rY:∀ {vs:List Zj} {ns:List Int},IntsAre vs ns→Vals (ns.map V.int) vs
 | _,_,.nil=>.nil
 | _,_,.cons n t h=>.cons ⟨t,rfl⟩ (rY h)
def gX (s:Stmt):Arguments:=match s with
 | .FunctionDef _ a _ _ _ _ _ _ _ _=>a
 | _=>{posonlyargs:=[],args:=[],vararg:=Zl,kwonlyargs:=[],kw_defaults:=[],kwarg:=Zl,defaults:=[]}
def ck (s:Stmt):List Stmt:=match s with
 | .FunctionDef _ _ b _ _ _ _ _ _ _=>b
 | _=>[]
def au (s:Stmt):Scope:=match s with
 | .FunctionDef _ _ _ _ _ _ sc _ _ _=>sc
 | _=>{kind:=.function,names:=[],isGenerator:=Zk,isCoroutine:=Zk}
structure rZ (K:Zo) (x qual:Str) (st:Stmt) (f:Addr) (fd:FuncData):Prop where
 ex:∃ (oc:Zj) (od:Option Addr) (kV doc pm:Zj) (an:Option Addr) (cdv ct:Zj) (osl:Array (Option Zj)),
  fd=aaI x qual (gX st) (ck st) (au st) .none kV doc pm an cdv ct∧K.lookup f=Zg ⟨oc,od,.func fd,osl⟩∧abJ K cdv qual=Zh
 kp:Z5 K (.ref f)=Zh
section
variable {P:ZT} {w:aaa} {K:Zo} {mg:Str→Option Zj} {base:Heap}
theorem rZ.binds {st:Stmt} {ps:List Str} (F:rZ K x qual st f fd)
  (h:∀ (kV doc pm:Zj) (an:Option Addr) (cdv ct:Zj) (us:List Zj),us.length=ps.length→bindArgs (aaI x qual (gX st) (ck st) (au st) .none kV doc pm an cdv ct) ⟨us,[]⟩=pure (ps.zip us)):Binds K fd ps []:=by
 obtain ⟨oc,od,kV,doc,pm,an,cdv,ct,osl,rfl,lk,hcd⟩:=F.ex;exact .all (h kV doc pm an cdv ct)
theorem CD {st:Stmt} {kV:Zj} (l:K.lookup f=Zg ⟨oc,od,.func (aaI x qual (gX st) (ck st) (au st) .none kV doc pm an cdv ct),osl⟩)
  (c:abJ K cdv qual=Zh) (k:Z5 K (.ref f)=Zh):rZ K x qual st f (aaI x qual (gX st) (ck st) (au st) .none kV doc pm an cdv ct):=⟨⟨oc,od,kV,doc,pm,an,cdv,ct,osl,rfl,l,c⟩,k⟩
end
def Ou (H H':Hp):Prop:=∀ b o,H b=Zg o→H' b=Zg o
theorem Ou.free (e:Ou H H') {l:Addr} (h:H' l=Option.none):H l=Option.none:=by
 cases q:H l with
 | none=>rfl
 | some o=>rw [e l o q] at h;cases h
section
variable {κ:Type} [DecidableEq κ]
def kW (kvs:List (κ×V)) (k:κ):Option V:=(kvs.find? λkv=>decide (kv.1=k)).map (·.2)
def putK (kvs:List (κ×V)) (k:κ) (v:V):List (κ×V):=
 if (kvs.any λkv=>decide (kv.1=k))=Zh then kvs.map (λkv=>if kv.1=k then (kv.1,v) else kv) else kvs++[(k,v)]
theorem pN {p:κ×V} {r:List (κ×V)} {k:κ} (e:p.1=k):kW (p::r) k=Zg p.2:=by simp [kW,abT,e]
theorem l7 {p:κ×V} {r:List (κ×V)} {k:κ} (e:¬ p.1=k):kW (p::r) k=kW r k:=by simp [kW,abT,e]
theorem vp (k:κ):∀ kvs:List (κ×V),(kvs.any λkv=>decide (kv.1=k))=(kW kvs k).isSome
 | []=>rfl
 | p::r=>by
  rw [adi];by_cases e:p.1=k
  ·simp only [pN e,decide_eq_true e,Bool.true_or,Option.isSome_some]
  ·rw [l7 e,decide_eq_false e,Bool.false_or];exact vp k r
theorem j4 (kvs:List (κ×V)) (k:κ) (v:V):(putK kvs k v).length≤kvs.length+1:=by
 unfold putK;split
 ·rw [ZG];nofun
 ·rw [ZV,ZN,aaJ];nofun
theorem jY.nh (r:jY o u):o.isSome=u.isSome:=by
 cases o with
 | none=>cases u with
  | none=>rfl
  | some _=>exact (show False from r).elim
 | some _=>cases u with
  | none=>exact (show False from r).elim
  | some _=>rfl
theorem jY.getD {d:V} (r:jY o u) (rd:RelV d d'):RelV (o.getD d) (u.getD d'):=by
 cases o with
 | none=>cases u with
  | none=>exact rd
  | some _=>exact (show False from r).elim
 | some _=>cases u with
  | none=>exact (show False from r).elim
  | some _=>exact r
theorem KV.val {kvs:List (κ×V)} {vs:List (κ×Zj)} (r:KV kvs vs) (k:κ):jY (kW kvs k) (valueAt vs k):=by
 unfold KV at r
 induction r with
 | nil=>exact abi
 | @cons p q ps qs h t ih=>
  obtain ⟨h1,h2⟩:=h;by_cases e:p.1=k
  ·have e':q.1=k:=h1.symm.trans e;have b:valueAt (q::qs) k=Zg q.2:=by simp [valueAt,abT,e']
   rw [pN e,b];exact h2
  ·have e':¬ q.1=k:=λz=>e (h1.trans z);have b:valueAt (q::qs) k=valueAt qs k:=by simp [valueAt,abT,e']
   rw [l7 e,b];exact ih
theorem KV.any {kvs:List (κ×V)} {vs:List (κ×Zj)} (r:KV kvs vs) (k:κ):(kvs.any λkv=>decide (kv.1=k))=vs.any λkv=>decide (kv.1=k):=by
 unfold KV at r
 induction r with
 | nil=>rfl
 | cons h t ih=>rw [adi,adi,ih,h.1]
theorem KV.repl {kvs:List (κ×V)} {vs:List (κ×Zj)} (r:KV kvs vs) (k:κ) {y:V} {u:Zj} (ry:RelV y u) :
  KV (kvs.map λkv=>if kv.1=k then (kv.1,y) else kv) (vs.map λkv=>if kv.1=k then (kv.1,u) else kv):=by
 unfold KV at r ⊢
 induction r with
 | nil=>exact .nil
 | @cons p q ps qs h t ih=>
  rw [Zy,Zy];refine .cons ?_ ih;obtain ⟨h1,h2⟩:=h;by_cases e:p.1=k
  ·rw [if_pos e,if_pos (h1.symm.trans e)];exact ⟨h1,ry⟩
  ·rw [if_neg e,if_neg (λz=>e (h1.trans z))];exact ⟨h1,h2⟩
theorem KV.put {kvs:List (κ×V)} {vs:List (κ×Zj)} (r:KV kvs vs) (k:κ) {y:V} {u:Zj} (ry:RelV y u):KV (putK kvs k y) (stored vs k u):=by
 unfold putK stored;rw [r.any k];by_cases e:(vs.any λkv=>decide (kv.1=k))=Zh
 ·rw [if_pos e,if_pos e];exact r.repl k ry
 ·rw [if_neg e,if_neg e];exact Paired.snoc r ⟨rfl,ry⟩
theorem KV.keys {kvs:List (κ×V)} {vs:List (κ×Zj)} (r:KV kvs vs):kvs.map (·.1)=vs.map (·.1):=by
 unfold KV at r
 induction r with
 | nil=>rfl
 | cons h t ih=>rw [Zy,Zy,ih,h.1]
theorem KV.length {kvs:List (κ×V)} {vs:List (κ×Zj)} (r:KV kvs vs):kvs.length=vs.length:=adf r
end
theorem zl {k:Key} {u:Zj} (r:RelV (kV k) u):(gx P w).is k u=Zh:=by
 cases k with
 | inl i=>obtain ⟨t,e⟩:=(show ∃ t,u=Value.int i t from r);subst e;exact u7 P w i t
 | inr x=>obtain ⟨t,e⟩:=(show ∃ t,u=Value.str x t from r);subst e;exact u9 P w x t
abbrev ye (H:Hp) (b:Addr) (k:List Key):Prop:=∃ ys,H b=Zg (.tup ys)∧ys.map Np=k.map Zg
theorem Ln {k:Key} {u:Zj} (e:Np y=Zg k) (r:RelV y u):(iz P w).is k u=Zh:=by
 cases y<;>try cases e
 ·have r:u=Value.bool _:=r;subst r;exact decide_eq_true rfl
 ·obtain ⟨t,r⟩:=(show ∃ t,u=Value.int _ t from r);subst r;exact rN _ t
 ·obtain ⟨t,r⟩:=(show ∃ t,u=Value.str _ t from r);subst r;exact rO _ t
theorem r8 {P:ZT} {w:aaa}:∀ {ks:List Key} {ys:List V} {us:List Zj},Vals ys us→ys.map Np=ks.map Zg→ItemsAre (iz P w) ks us
 | [],[],_,r,_=>by cases r;exact .nil
 | [],_::_,_,_,e=>by simp at e
 | _::_,[],_,_,e=>by simp at e
 | k::ks,y::ys,_,r,e=>by
  rw [Zy,Zy] at e;injection e with e1 e2;cases r with
  | cons h t=>exact .cons (Ln e1 h) (r8 t e2)
abbrev KT (H:Hp):List (List Key×V)→List (List Key×Addr×Zj)→Prop:=Paired λp q=>p.1=q.1∧ye H q.2.1 p.1∧RelV p.2 q.2.2
theorem KT.val (r:KT H kvs xs) (k:List Key):jY (kW kvs k) ((atKey xs k).map (·.2)):=by
 induction r with
 | nil=>exact abi
 | @cons p q ps qs h t ih=>
  obtain ⟨h1,_,h2⟩:=h;by_cases e:p.1=k
  ·have e':q.1=k:=h1.symm.trans e;have b:atKey (q::qs) k=Zg q.2:=by simp [atKey,abT,e']
   rw [pN e,b];exact h2
  ·have e':¬ q.1=k:=λz=>e (h1.trans z);have b:atKey (q::qs) k=atKey qs k:=by simp [atKey,abT,e']
   rw [l7 e,b];exact ih
theorem KT.repl (r:KT H kvs xs) (k:List Key) {y:V} {u:Zj} (ry:RelV y u) :
  KT H (kvs.map λkv=>if kv.1=k then (kv.1,y) else kv) (xs.map (putAt k u)):=by
 induction r with
 | nil=>exact .nil
 | @cons p q ps qs h t ih=>
  rw [Zy,Zy];refine .cons ?_ ih;obtain ⟨h1,h2,h3⟩:=h;unfold putAt;by_cases e:p.1=k
  ·rw [if_pos e,if_pos (h1.symm.trans e)];exact ⟨h1,h2,ry⟩
  ·rw [if_neg e,if_neg (λz=>e (h1.trans z))];exact ⟨h1,h2,h3⟩
theorem KT.put (r:KT H kvs xs) (k:List Key) {b:Addr} {y:V} {u:Zj} (hb:ye H b k) (ry:RelV y u) :
  KT H (putK kvs k y) (storedH xs k b u):=by
 have e:(kvs.any λkv=>decide (kv.1=k))=(atKey xs k).isSome:=by rw [vp,(r.val k).nh,Option.isSome_map]
 unfold putK storedH;rw [e];by_cases q:(atKey xs k).isSome=Zh
 ·rw [if_pos q,if_pos q];exact r.repl k ry
 ·rw [if_neg q,if_neg q];exact Paired.snoc r ⟨rfl,hb,ry⟩
theorem KT.keeps (r:KT H kvs xs) (ht:∀ b ys,H b=Zg (.tup ys)→H' b=Zg (.tup ys)):KT H' kvs xs:=
 Paired.Ko r λ_ _ z=>⟨z.1,(let ⟨ys,u,v⟩:=z.2.1;⟨ys,ht _ _ u,v⟩),z.2.2⟩
section
variable {P:ZT} {w:aaa} {H:Hp} {h:Heap} {a:Addr}
theorem Jy {u:HO} (ok:jo P w H h) (e:Rd H a u):eF P w H h a u:=e.ok ok
theorem zm {kvs:List (Key×V)} (ok:jo P w H h) (e:Rd H a (.dK kvs)):kvs.length≤Zm∧(a==sysModules)=Zk∧∃ vs,KV kvs vs∧h.DictOf (gx P w) a vs:=
 show eF P w H h a (.dK kvs) from Jy ok e
theorem Jz {kvs:List (Key×V)} (ok:jo P w H h) (e:H a=Zg (.dK kvs)):kvs.length≤Zm∧(a==sysModules)=Zk∧∃ vs,KV kvs vs∧h.DictOf (gx P w) a vs:=zm ok (.inl e)
theorem tW {ks:List Key} (ok:jo P w H h) (e:ye H a ks):(tupleKind (iz P w)).is h ks a:=by obtain ⟨ys,e,hk⟩:=e;obtain ⟨_,its,r,o,h1,h2,n,h3⟩:=(show eF P w H h a (.tup ys) from ok a _ e);exact ⟨o,its.toArray,n,h1,h2,h3,by simpa using r8 r hk⟩
theorem zo (ok:jo P w H h) (e:Rd H a (.dT kvs)):kvs.length≤Zm∧(a==sysModules)=Zk ∧
  ∃ xs,KT H kvs xs∧h.DictOfH (tupleKind (iz P w)) a xs:=by
 obtain ⟨z,y,xs,r,o,es,ep,h1,h2,h3,h4,h5⟩:=(show eF P w H h a (.dT kvs) from Jy ok e);refine ⟨z,y,xs,r,o,es,ep,h1,h2,h3,h4,λx hx=>?_,h5⟩;have all:∀ {l:List (List Key×V)} {m:List (List Key×Addr×Zj)},KT H l m→∀ x∈m,(tupleKind (iz P w)).is h x.1 x.2.1:=by
  intro l m q
  induction q with
  | nil=>intro x hx;exact nomatch hx
  | @cons p q ps qs hq t ih=>
   intro x hx;rcases ZM.mp hx with e | hx
   ·subst e;exact tW ok (by rw [← hq.1];exact hq.2.1)
   ·exact ih x hx
 exact all r x hx
theorem Ov (ok:jo P w H h) (e:H a=Zg (.dT kvs)):kvs.length≤Zm∧(a==sysModules)=Zk ∧
  ∃ xs,KT H kvs xs∧h.DictOfH (tupleKind (iz P w)) a xs:=zo ok (.inl e)
end
def Aw (H:Hp) (a:Addr) (y:V) (r:Option V):Prop:=
 (∃ kvs k,Rd H a (.dK kvs)∧y=kV k∧r=kW kvs k)∨∃ kvs k b,Rd H a (.dT kvs)∧y=.ref b∧ye H b k∧r=kW kvs k
def vq (H:Hp) (a:Addr) (y v:V) (H':Hp):Prop:=
 (∃ kvs k,H a=Zg (.dK kvs)∧y=kV k∧kvs.length<Zm∧H'=upd H a (.dK (putK kvs k v))) ∨
 ∃ kvs k b,H a=Zg (.dT kvs)∧y=.ref b∧ye H b k∧kvs.length<Zm∧H'=upd H a (.dT (putK kvs k v))
theorem Aw.k {H:Hp} {a:Addr} {kvs:List (Key×V)} {k:Key} (e:H a=Zg (.dK kvs)):Aw H a (kV k) (kW kvs k):=.inl ⟨kvs,k,.inl e,rfl,rfl⟩
theorem vq.k {H:Hp} {a:Addr} {kvs:List (Key×V)} {k:Key} {v:V} (e:H a=Zg (.dK kvs)) (hl:kvs.length<Zm):vq H a (kV k) v (upd H a (.dK (putK kvs k v))):=.inl ⟨kvs,k,e,rfl,hl,rfl⟩
theorem vq.t {k:List Key} {v:V} (e:H a=Zg (.dT kvs)) (eb:ye H b k) (hl:kvs.length<Zm) :
  vq H a (.ref b) v (upd H a (.dT (putK kvs k v))):=.inr ⟨kvs,k,b,e,rfl,eb,hl,rfl⟩
section
variable {X:Cx} {pins:List (Addr×Obj)} {σ:St} {H:Hp} {s:Zq} {a:Addr} {y v:V} {u r:Zj} {o:Option V} {A:Around} {E:Zj→Zq→Prop}
theorem Inv.big (I:Inv X pins σ H s):sysModules<s.heap.objs.size:=by have h:mainGlobals<s.heap.objs.size:=(I.mod.glob.keeps I.bk).lt;exact Nat.lt_trans (by decide) h
theorem Ax (hu:A.units+1<cLine) (I:Inv X pins σ H s) (g:Aw H a y (Zg v)) (ry:RelV y u) (h:∀ w' s',Inv X pins σ H s'→RelV v w'→Q w' s') :
  ZD (model X.prog X.w) A (getItem (.ref a) u) Q E s:=by
 rcases g with ⟨kvs,k,e,ey,l⟩ | ⟨kvs,k,b,e,ey,eb,l⟩
 ·subst ey;obtain ⟨z,hd,vs,rel,dd⟩:=zm I.hok e;obtain ⟨w',hw,rw'⟩:=jY.some_of (v:=v) (o:=valueAt vs k) (by rw [l];exact rel.val k);exact wpAny_getItem_of (zl ry) dd.mapOf hw (h w' _ (I.tok _) rw')
 ·subst ey;cases (show u=Value.ref b from ry);obtain ⟨z,hd,xs,rel,dd⟩:=zo I.hok e;obtain ⟨w',hw,rw'⟩:=jY.some_of (v:=v) (o:=(atKey xs k).map (·.2)) (by rw [l];exact rel.val k);obtain ⟨p,hp,hp2⟩:=Option.map_eq_some_iff.mp hw;refine wpAny_getItem_heap (tupleKind_room_in1 hu) (tW I.hok eb) dd hp ?_;rw [hp2];exact h w' _ (I.tok _) rw'
theorem GA (hu:A.units+1<cLine) (I:Inv X pins σ H s) (g:Aw H a y o) (ry:RelV y u) (h:∀ s',Inv X pins σ H s'→Q (.bool (!o.isSome)) s') :
  ZD (model X.prog X.w) A (compareOp .NotIn u (.ref a)) Q E s:=by
 rcases g with ⟨kvs,k,e,ey,l⟩ | ⟨kvs,k,b,e,ey,eb,l⟩
 ·subst ey;obtain ⟨z,hd,vs,rel,dd⟩:=zm I.hok e;refine wpAny_notIn_of (zl ry) hd dd.mapOf ?_;rw [← (rel.val k).nh,← l];exact h _ (I.tok _)
 ·subst ey;cases (show u=Value.ref b from ry);obtain ⟨z,hd,xs,rel,dd⟩:=zo I.hok e;refine wpAny_notIn_heap (tupleKind_room_in1 hu) (tW I.hok eb) hd dd ?_;have q:=(rel.val k).nh;rw [Option.isSome_map] at q;rw [← q,← l];exact h _ (I.tok _)
theorem tX {ob:HO} (I:Inv X pins σ H s) (mu:NN (H a)) (hs:abc a s.heap h') (he:∃ q,h'.get? a=Zg q) (new:eF X.prog X.w (upd H a ob) h' a ob) (ht:0<t':=by first | exact aab _ | exact (Inv.os (by assumption)).2 | assumption | nofun) :
  Inv X pins σ (upd H a ob) {s with heap:=h',toks:=t'}:=
 I.write (x:=a) (e:=a) mu (.inl rfl) (λb q hb z=>(hs.2 b hb).trans z) he new
theorem CF {kvs:List (Key×V)} (z:kvs.length≤Zm) (hd:(a==sysModules)=Zk) (rel:KV kvs vs) (dd:h'.DictOf (gx P w) a vs) :
  eF P w H' h' a (.dK kvs):=⟨z,hd,vs,rel,dd⟩
theorem Ay {Q:Unit→Zq→Prop} (hu:A.units+1<cLine) (I:Inv X pins σ H s) (g:vq H a y v H') (ry:RelV y u) (rv:RelV v r) (h:∀ s',Inv X pins σ H' s'→Q () s') :
  ZD (model X.prog X.w) A (setItem (.ref a) u r) Q E s:=by
 rcases g with ⟨kvs,k,e,ey,l,eH⟩ | ⟨kvs,k,b,e,ey,eb,l,eH⟩
 ·subst ey eH;obtain ⟨z,hd,vs,rel,dd⟩:=Jz I.hok e;have hz:vs.length≤Zm:=by rw [← rel.length];exact z
  have hl:(putK kvs k v).length≤Zm:=by have:=j4 kvs k v;nofun
  refine wpAny_setItem_pairs (hsz:=hz) (zl ry) dd λh' Lo hs=>h _ ?_;have he:∃ q,h'.get? a=Zg q:=let ⟨q,_,_,hq,_⟩:=Lo;⟨q,hq⟩
  exact tX I (by rw [e];exact abi) hs he (CF hl hd (rel.put k rv) Lo)
 ·subst ey eH;cases (show u=Value.ref b from ry);obtain ⟨z,hd,xs,rel,dd⟩:=Ov I.hok e;have hz:xs.length≤Zm:=by rw [← adf rel];exact z
  have hl:(putK kvs k v).length≤Zm:=by have:=j4 kvs k v;nofun
  refine wpAny_setItem_heap (hsz:=hz) (tupleKind_room_in1 hu) (tW I.hok eb) dd λh' Lo hs=>h _ ?_;obtain ⟨q,es,ep,hq,h2,h3,h4,_,h5⟩:=Lo;refine tX I (by rw [e];exact abi) hs ⟨q,hq⟩ ⟨hl,hd,_,(rel.put k eb rv).keeps λc ys ec=>?_,q,es,ep,hq,h2,h3,h4,h5⟩;rw [aA (fB ec e (λz=>nomatch z))];exact ec
end
def CG (i:Expr):Prop:=∀ ov iv,subscripted i Zk ov iv=operate [ov,iv] (getItem ov iv)
theorem GB {prog:ZT} {w:aaa} {A:Around} {E:Zj→Zq→Prop} {s:Zq} {env:Env} {value slice:Expr} {pos:Pos} {T id:String} {Q:Zj→Zq→Prop}
  (hl:typeLookup (.type T) "__getitem__"=pure (Zg (.builtin id))) (hs:CG slice)
  (h:ZD (model prog w) A (eval value env) (λo s₁=>ZD (model prog w) A (eval slice env) (λi s₂=>s₂.TypeIs o T∧ZD (model prog w) A (getItem o i) Q E s₂) E s₁) E s) :
  ZD (model prog w) A (eval (.Subscript value slice pos) env) Q E s:=by
 refine Subscript_ (Z8 h (λo s₁ h₁=>Z8 h₁ (λi s₂ h₂=>?_) λ_ _ x=>x) λ_ _ x=>x);obtain ⟨hT,h₂⟩:=h₂;unfold subscriptTail;refine Zi ?_;rw [getitemInPython_of_ne hT.not_modules];refine Zi (abu hT hl ?_);have fin:ZD (model prog w) A (subscripted slice Zk o i) (λr s₃=>ZD (model prog w) A (letTemporaryGo value o r >>= λ_=>pure r) Q E s₃) E s₂:=by rw [hs o i];exact wpAny_operating (Z8 h₂ (λr s₃ h₃=>Zi (wpAny_letTemporaryGo (Zz h₃))) λ_ _ x=>x)
 first
  | exact Zz (Zi fin)
  | exact Zi (Zz (Zi fin))
  | exact Zi fin
theorem vt {σ:St} (I:Inv X pins σ H s) (g:Aw H a y o):s.TypeIs (.ref a) "dict":=by
 rcases g with ⟨kvs,k,e,_,_⟩ | ⟨kvs,k,b,e,_,_,_⟩
 ·obtain ⟨_,_,vs,_,dd⟩:=zm I.hok e;exact dd.typeIs
 ·obtain ⟨_,_,xs,_,dd⟩:=zo I.hok e;exact dd.typeIs
def Ow (td ty:TE):TE:=λσ H Q=>td σ H λx H1=>ty σ H1 λy H2=>∃ a v,x=.ref a∧Aw H2 a y (Zg v)∧Q v H2
def Ox (td ty tv:TE):TS:=λD σ H=>tv σ H λv H1=>td σ H1 λx H2=>ty σ H2 λy H3=>∃ a H4,x=.ref a∧vq H3 a y v H4∧D.nx σ H4
section
variable {X:Cx} {o i e value:Expr} {pos pos' tpos:Pos} {td ty tv:TE}
theorem zp (hu:X.A.units+1<cLine) (ho:PE X o td) (hi:PE X i ty) (hs:CG i):PE X (.Subscript o i pos) (Ow td ty):=by intro pins s σ H Q I h;refine GB PySem.F.slot_dict_getitem.lookup hs (cO (ho pins s σ H _ I h) λu s1 ⟨x,H1,I1,rx,q1⟩=>cO (hi pins s1 σ H1 _ I1 q1) λiv s2 zz=>?_);obtain ⟨y,H2,I2,ry,a,v,ex,g,q2⟩:=zz;subst ex;obtain rfl:u=Value.ref a:=rx;exact ⟨vt I2 g,Ax hu I2 g ry λw' s3 I3 rw'=>⟨v,H2,I3,rw',q2⟩⟩
theorem GC (hu:X.A.units+1<cLine) (ho:PE X o td) (hi:PE X i ty) (hv:PE X value tv) (hs:swapsWith value (Zg (.Subscript o i pos')) pos.line X.env=pure Zk) :
  PS X (.Assign [.Subscript o i pos'] value pos) (Ox td ty tv):=by
 intro pins s σ H D I h;refine wpAny_Assign_Subscript (cO (hv pins s σ H _ I h) λr s1 ⟨v,H1,I1,rv,q1⟩=>cO (ho pins s1 σ H1 _ I1 q1) λu s2 ⟨x,H2,I2,rx,q2⟩=>cO (hi pins s2 σ H2 _ I2 q2) λiv s3 zz=>?_) hs;obtain ⟨y,H3,I3,ry,a,H4,ex,g,q3⟩:=zz;subst ex;obtain rfl:u=Value.ref a:=rx;exact Ay hu I3 g ry rv λs4 I4=>⟨σ,H4,I4,q3⟩
end
theorem CH (h:Heap) (hb:sysModules<h.objs.size):eF P w H (h.push {cls:=.type "dict",data:=.dict #[]}) h.objs.size (.dK []):=
 ⟨abe _,beq_eq_false_iff_ne.mpr (aat (ZE hb)),[],.nil,Heap.DictOf.new h⟩
theorem CI (h:Heap) (hb:sysModules<h.objs.size):eF P w H (h.push {cls:=.type "dict",data:=.dict #[]}) h.objs.size (.dT []):=
 ⟨abe _,beq_eq_false_iff_ne.mpr (aat (ZE hb)),[],.nil,_,#[],0,Zv _ rfl,⟨rfl,rfl,rfl⟩,rfl,rfl,List.nodup_nil⟩
def Lp:TE:=λ_ H Q=>∀ p,H p=Zl→Q (.ref p) (upd H p (.dT []))
section
variable {X:Cx} {pos:Pos}
theorem CJ:PE X (.Dict [] [] pos) Lp:=λpins s σ H Q I h=>
 wpAny_Dict_empty ⟨.ref s.heap.objs.size,_,I.laid (a:=s.heap.objs.size) (o:=.dT []) (t':=s.toks) (λ_ _ q=>Zn _ q) (Zs _) (CI s.heap I.big),rfl,h _ (I.hok.fresh (Zs _))⟩
end
def tY:List (TE×TE)→St→Hp→(List (V×V)→Hp→Prop)→Prop
 | [],_,H,Q=>Q [] H
 | (tk,tv)::r,σ,H,Q=>tk σ H λx H1=>tv σ H1 λy H2=>tY r σ H2 λps H3=>Q ((x,y)::ps) H3
abbrev VV:List (V×V)→List (Zj×Zj)→Prop:=Paired λp q=>RelV p.1 q.1∧RelV p.2 q.2
def JA (X:Cx) (pos:Pos) (keys:List (Option Expr)) (values:List Expr) (GD:List (TE×TE)):Prop:=
 ∀ (pins:List (Addr×Obj)) (s:Zq) (σ:St) (H:Hp) (Q:List (V×V)→Hp→Prop),Inv X pins σ H s→tY GD σ H Q →
  ZD (model X.prog X.w) X.A (evalPairs (pairTrees keys values X.env pos)) (λvs s'=>∃ ps H',Inv X pins σ H' s'∧VV ps vs∧Q ps H') X.xe s
theorem GF:JA X pos [] [] []:=λpins s σ H Q I h=>pairTrees_nil_walk ⟨[],H,I,.nil,h⟩
theorem CK {k:Expr} {vs:List Expr} {tk tv:TE} (hk:PE X k tk) (hv:PE X v tv) (hr:JA X pos ks vs GD) :
  JA X pos (Zg k::ks) (v::vs) ((tk,tv)::GD):=λpins s σ H Q I h=>
 pairTrees_cons_walk (cO (hk pins s σ H _ I h) λu s1 ⟨x,H1,I1,rx,q1⟩=>cO (hv pins s1 σ H1 _ I1 q1) λw2 s2 ⟨y,H2,I2,ry,q2⟩=>
  cO (hr pins s2 σ H2 _ I2 q2) λws s3 zz=>by obtain ⟨ps,H3,I3,rel,q3⟩:=zz;exact ⟨(x,y)::ps,H3,I3,.cons ⟨rx,ry⟩ rel,q3⟩)
def j5 (kvs more:List (Key×V)):List (Key×V):=more.foldl (λacc kv=>putK acc kv.1 kv.2) kvs
theorem KV.merge:∀ {more:List (Key×V)} {rs:List (Key×Zj)} {kvs:List (Key×V)} {vs:List (Key×Zj)},KV more rs→KV kvs vs→KV (j5 kvs more) (merged vs rs):=by
 intro more rs kvs vs r;unfold KV at r
 induction r generalizing kvs vs with
 | nil=>intro q;exact q
 | @cons p q ps qs h t ih=>
  intro r0;have e:KV (putK kvs p.1 p.2) (stored vs q.1 q.2):=by have:=r0.put p.1 h.2;rw [← h.1];exact this
  exact ih e
theorem kZ:∀ (more kvs:List (Key×V)),(j5 kvs more).length≤kvs.length+more.length
 | [],kvs=>by show kvs.length≤kvs.length+0;nofun
 | p::r,kvs=>by have h1:=kZ r (putK kvs p.1 p.2);have h2:=j4 kvs p.1 p.2;show (j5 (putK kvs p.1 p.2) r).length≤_;rw [ZN];nofun
theorem pO {P:ZT} {w:aaa}:∀ {kvs:List (Key×V)} {ws:List (Zj×Zj)},VV (kvs.map λkv=>(kV kv.1,kv.2)) ws→∃ rs,Carries (gx P w) ws rs∧KV kvs rs
 | [],_,r=>by rw [ZU] at r;cases r;exact ⟨[],abi,.nil⟩
 | p::kvs,_,r=>by
  rw [Zy] at r;cases r with
  | @cons a b as bs h t=>obtain ⟨rs,c,q⟩:=pO (P:=P) (w:=w) t;obtain ⟨b1,b2⟩:=b;exact ⟨(p.1,b2)::rs,⟨zl h.1,rfl,c⟩,.cons ⟨rfl,h.2⟩ q⟩
def Oz (GD:List (TE×TE)):TE:=λσ H Q=>∀ p,H p=Zl→tY GD σ (upd H p (.dK [])) λps H2=>H2 p=Zg (.dK [])∧∃ kvs:List (Key×V),ps=kvs.map (λkv=>(kV kv.1,kv.2))∧kvs.length≤15∧Q (.ref p) (upd H2 p (.dK (j5 [] kvs)))
theorem GG {keys:List (Option Expr)} (h:JA X pos keys values GD) (hall:keys.all (·.isSome)=Zh) (hl:keys.length=values.length) (h0:keys≠[])
  (Sg:keys.length≤15):PE X (.Dict keys values pos) (Oz GD):=by
 intro pins s σ H Q I q;have hn:=I.hok.fresh (Zs s.heap.objs.size);have I1:=I.laid (a:=s.heap.objs.size) (o:=.dK []) (h':=s.heap.push {cls:=.type "dict",data:=.dict #[]}) (t':=s.toks) (λ_ _ q=>Zn _ q) (Zs _) (CH s.heap I.big);refine wpAny_Dict_walk (knd:=gx X.prog X.w) hall hl h0 Sg (cO (h pins _ σ _ _ I1 (q _ hn)) λws s2 zz=>?_);obtain ⟨ps,H2,I2,rel,e,kvs,ep,lk,q2⟩:=zz;subst ep;obtain ⟨rs,c,rk⟩:=pO (P:=X.prog) (w:=X.w) rel;obtain ⟨z,hd,QN,r0,dd⟩:=Jz I2.hok e;cases r0;refine ⟨rs,c,dd,λh' Lo hs=>⟨.ref s.heap.objs.size,_,?_,rfl,q2⟩⟩;have hz:(j5 [] kvs).length≤Zm:=by have h1:=kZ kvs [];rw [aaJ] at h1;rw [sizeLine_eq];nofun
 have he:∃ q,h'.get? s.heap.objs.size=Zg q:=let ⟨q,_,_,hq,_⟩:=Lo;⟨q,hq⟩
 exact tX I2 (by rw [e];exact abi) hs he (CF hz hd (rk.merge .nil) Lo) (Zx I2.os.2 (aeM _ _))
structure M1 (X:Cx) (o:Expr) (m:Str) (apos:Pos) (e:Expr) (cpos:Pos):Prop where
 base:attributeBase o m X.env (eval o X.env)=eval o X.env
 few:((backTo cpos (ZF [e] X.env)).all (λx=>!x.1)&&(backToKw cpos (keywordEach [] X.env)).all (λx=>x.1.isSome)
  && decide (([e]:List Expr).length+([]:List Keyword).length+(if ([]:List Keyword).isEmpty then 0 else 1)<30))=Zh
 line:(apos.endLine==cpos.line)=Zh
 trees:backTo cpos (ZF [e] X.env)=[(Zk,eval e X.env)]
structure M2 (X:Cx) (o:Expr) (m:Str) (apos:Pos) (e f:Expr) (cpos:Pos):Prop where
 base:attributeBase o m X.env (eval o X.env)=eval o X.env
 few:((backTo cpos (ZF [e,f] X.env)).all (λx=>!x.1)&&(backToKw cpos (keywordEach [] X.env)).all (λx=>x.1.isSome)
  && decide (([e,f]:List Expr).length+([]:List Keyword).length+(if ([]:List Keyword).isEmpty then 0 else 1)<30))=Zh
 line:(apos.endLine==cpos.line)=Zh
 trees:backTo cpos (ZF [e,f] X.env)=[(Zk,eval e X.env),(Zk,eval f X.env)]
end
end L2
set_option genInjectivity true
namespace L3
noncomputable section
open PySem PySem.Spec L2
variable {K:Zo} {mg:Str→Option Zj} {ρ ρ0 fp ρ' wr ch as:List Addr} {H H0 H':Hp} {Q E E':Zj→Zq→Prop} {es values:List Expr} {pins gT:List (Addr×Obj)} {n i j nn q t' n' ep:Nat} {e tg o:Expr} {items ps' ws:Array Zj} {σ σ0:L2.St} {a p l it C c c' Pt dx b fA cA c0:Addr} {s s0 s1:Zq} {y x qual z name y0:Str} {w:aaa} {P prog Pg:ZT} {xs vs ys oh:List V} {fd:FuncData} {sl o4 s2:Array (Option Zj)} {A A':Around} {body els:List Stmt} {cl:List (Str×Addr)} {N ns loose N':List Str} {h h' base B:Heap} {ks:List Bool} {od o2 an:Option Addr} {XP:(Str→Option Zj)→Heap→Prop} {Dd D':Ends} {u:List (List Key×V)} {T:String} {js:List Nat} {sc scope QX:Scope} {oc v0 pm o1 dc ct cdv a0:Zj} {py px spos pos pz pu pc p2:Pos} {X:Cx} {gens:List Comprehension} {v:V} {gv:Int→Int→V} {lo hi:Int} {op:CmpOp} {qs:List PyData} {run:Zj→List Zj→Sem Zj} {outer:List Env} {env env':Env} {ob:HO} {YP:aaa→Heap→Prop} {Q':Bool→Hp→Prop} {W:List (Option Str)} {kwd:List (Str×Expr)} {α κ:Type} {own:List (Option V)} {fo:Obj} {its:List Zj} {v':Int×Int} {pl:Sem Bool} {dy:DefRec} {M':Model} {tz tk:Tok}
structure gY where
 name:Str
 qual:Str
 params:Arguments
 body:FuncBody
 scope:Scope
 pos:Pos
 names:List Str
variable {zQ:gY}
def freeNames (sc:Scope):List Str:=((sc.names.filter λq=>q.2==.free).map (·.1)).reverse
def iA (q:Str):List Stmt→Option gY
 | .FunctionDef name params body _ _ _ scope _ _ pos::_=>Zg ⟨name,q++".<locals>."++name,params,.stmts body,scope,pos,freeNames scope⟩
 | .Assign [_] (.Call _ es _ _) _::r=>match es.getLast? with
  | some (.Lambda params body scope pos)=>Zg ⟨"<lambda>",q++".<locals>."++"<lambda>",params,.expr body,scope,pos,freeNames scope⟩
  | _=>iA q r
 | .Return (Zg (.Call _ es _ _)) _::r=>match es.getLast? with
  | some (.Lambda params body scope pos)=>Zg ⟨"<lambda>",q++".<locals>."++"<lambda>",params,.expr body,scope,pos,freeNames scope⟩
  | _=>iA q r
 | _::r=>iA q r
 | []=>Zl
def nW (K:Zo) (mg:Str→Option Zj) (y:Str):Option gY:=match mg y with
 | some (.ref f)=>(match K.lookup f with
  | some ⟨_,_,.func fd,_⟩=>(match fd.body with
   | .stmts b=>iA fd.qualname b
   | _=>Zl)
  | _=>Zl)
 | _=>Zl
inductive D where
 | cy | bl (b:Bool) | int (i:Int) | str (x:Str) | tup (xs:List D) | con (xs:List D) | obj (n:Nat) | fn (x:Str) | vz (cls:Str) (args:List D) | iM (y:Str) (caps:List D)
variable {ds os acc zs caps:List D} {d:D} {gO:D→Option (List D)} {kvs:List (Key×D)}
inductive DO where
 | lst (xs:List D)
 | dead
 | dct (kvs:List (Key×D))
 | tab (y:Str)
 | iN (fz:Bool) (kvs:List (List Key×D))
 | Nt (kvs:List (Key×D))
 | ins (c:Str) (fs:List (Str×D))
abbrev DH:=List DO
variable {G G0:DH}
abbrev DS:=List (Option D)
variable {τ:DS}
inductive XD where
 | mk (cls:Str) (args:List D)
inductive Out (α:Type) where
 | stuck
 | ok (a:α) (G:DH)
 | bq (c:XD) (G:DH)
abbrev M (α:Type):=DH→Out α
variable {m mo te mv mi me:DS→M D} {f:D→D→M D} {r:DS→M (List D)} {mf m0:List D→M D} {tt:DS→M Bool} {Pr:Str→Nat→(List D→M D)→Prop} {ml mh:DS→M (Option Int)}
def M.bind {α β:Type} (m:M α) (k:α→M β):M β:=λG=>match m G with
 | .stuck=>.stuck
 | .ok a G'=>k a G'
 | .bq c G'=>.bq c G'
def M.ret {α:Type} (a:α):M α:=λG=>.ok a G
def M.stop {α:Type}:M α:=λ_=>.stuck
def pQ (H:Hp) (a:Addr) (xs:List V):Prop:=H a=Zg (.tup xs)
theorem pQ.of (h:H a=Zg (.tup xs)):pQ H a xs:=h
theorem pQ.t (h:pQ H a xs):lq K H a xs:=.inl (.inl h)
instance {K:Zo} {H:Hp} {a:Addr} {xs:List V}:Coe (pQ H a xs) (lq K H a xs):=⟨pQ.t⟩
def GH (K:Zo) (H:Hp) (a:Addr) (xs:List V):Prop:=
 (∃ o,H a=Zg (.dz o (.lst xs))) ∨
  ∃ (o:Obj) (its:Array Zj) (n:Nat),K.lookup a=Zg o∧o.cls=.type "list"∧o.dict=Zl∧o.data=.seq its n∧its.size≤Zm∧Vals xs its.toList
theorem GH.seq (h:GH K H a xs):kE K H a xs:=by
 rcases h with ⟨o,h⟩ | h
 ·exact .inl (.inr ⟨o,h⟩)
 ·exact .inr h
def OA (a:Addr) (cv:Zj):Heap→Prop:=λh=>∃ o,h.get? a=Zg o∧o.cls=cv
abbrev vA (k:gY) (cs:List Addr) (doc pm:Zj) (c:Addr) (ctv:Zj):FuncData:=
 {name:=k.name,qualname:=k.qual,params:=k.params,body:=k.body,scope:=k.scope,globals:=mainGlobals,closure:=k.names.zip cs,defaults:=.none,kwdefaults:=.none,doc,pyModule:=pm,annotations:=Zl,code:=.ref c,closureTuple:=ctv,builtins:=builtinsNs}
abbrev gn (k:gY) (cs:List Addr) (doc pm:Zj) (c:Addr) (ctv:Zj):Obj:={cls:=.type "function",data:=.func (vA k cs doc pm c ctv)}
def vB (H:Hp) (a:Addr) (o:Obj):Prop:=H a=Zg (.dz o (.own 0))
def ni (H:Hp) (c:Addr) (qual:Str):Prop:=∃ (oc:Obj) (vs:Array Zj) (t:Tok),vB H c oc∧oc.data=.fields vs∧vs[1]?=Zg (.str qual t)
def nX (H:Hp) (k:gY) (a:Addr) (cs:List Addr):Prop:=cs.length=k.names.length∧cs.Nodup∧∃ (doc pm ctv:Zj) (c:Addr),vB H a (gn k cs doc pm c ctv)∧ni H c k.qual
def dF (H:Hp):List Addr→List V→Prop
 | [],xs=>xs=[]
 | c::cs,xs=>∃ (x:V) (r:List V) (o:Obj) (u:Zj),xs=x::r∧vB H c o∧o.data=.cell (Zg u)∧RelV x u∧dF H cs r
mutual
def Rep (K:Zo) (mg:Str→Option Zj) (ρ:List Addr) (H:Hp):D→V→Prop
 | .cy,v=>v=.cy
 | .bl b,v=>v=.bl b
 | .int i,v=>v=.int i
 | .str x,v=>v=.str x
 | .tup ds,v=>∃ a xs,v=.ref a∧pQ H a xs∧aq K mg ρ H ds xs
 | .con ds,v=>∃ a xs,v=.ref a∧GH K H a xs∧aq K mg ρ H ds xs
 | .obj n,v=>∃ a,v=.ref a∧ρ[n]?=Zg a
 | .fn x,v=>∃ a,v=.ref a∧mg x=Zg (.ref a)
 | .vz c _,v=>∃ a cv,v=.ref a∧mg c=Zg cv∧H a=Zg (.ext (OA a cv))
 | .iM y ds,v=>∃ k a cs xs,v=.ref a∧nW K mg y=Zg k∧nX H k a cs∧dF H cs xs∧aq K mg ρ H ds xs
def aq (K:Zo) (mg:Str→Option Zj) (ρ:List Addr) (H:Hp):List D→List V→Prop
 | [],vs=>vs=[]
 | d::ds,vs=>∃ v r,vs=v::r∧Rep K mg ρ H d v∧aq K mg ρ H ds r
end
theorem ni.mono {q:Str} (h:ni H c q) (f:∀ a o u,H a=Zg (.dz o u)→H' a=Zg (.dz o u)):ni H' c q:=by obtain ⟨oc,vs,t,e,r⟩:=h;exact ⟨oc,vs,t,f _ _ _ e,r⟩
theorem nX.mono {k:gY} {cs:List Addr} (h:nX H k a cs) (f:∀ a o u,H a=Zg (.dz o u)→H' a=Zg (.dz o u)):nX H' k a cs:=by obtain ⟨l,n,doc,pm,ctv,c,e,r⟩:=h;exact ⟨l,n,doc,pm,ctv,c,f _ _ _ e,r.mono f⟩
theorem dF.mono (f:∀ a o u,H a=Zg (.dz o u)→H' a=Zg (.dz o u)):∀ {cs:List Addr} {xs:List V},dF H cs xs→dF H' cs xs
 | [],xs,h=>h
 | c::cs,xs,⟨x,r,o,u,e,h1,h2,h3,h4⟩=>⟨x,r,o,u,e,f _ _ _ h1,h2,h3,h4.mono f⟩
structure bX (K:Zo) (H H':Hp) (ρ ρ':List Addr):Prop where
 tup:∀ a xs,pQ H a xs→pQ H' a xs
 dz:∀ a o u,H a=Zg (.dz o u)→H' a=Zg (.dz o u)
 pre:∃ r,ρ'=ρ++r
 ext:∀ a φ,H a=Zg (.ext φ)→H' a=Zg (.ext φ)
section
variable {K:Zo} {mg:Str→Option Zj} {H H' H1 H2:Hp} {ρ ρ' ρ1 ρ2:List Addr}
theorem bX.con (f:bX K H H' ρ ρ') (a:Addr) (xs:List V) (h:GH K H a xs):GH K H' a xs:=by
 rcases h with ⟨o,h⟩ | h
 ·exact .inl ⟨o,f.dz _ _ _ h⟩
 ·exact .inr h
theorem bX.refl:bX K H H ρ ρ:=⟨λ_ _ h=>h,λ_ _ _ h=>h,⟨[],by simp⟩,λ_ _ h=>h⟩
theorem bX.trans (a:bX K H H1 ρ ρ1) (b:bX K H1 H2 ρ1 ρ2):bX K H H2 ρ ρ2:=by obtain ⟨r1,e1⟩:=a.pre;obtain ⟨r2,e2⟩:=b.pre;exact ⟨λx xs h=>b.tup x xs (a.tup x xs h),λx o u h=>b.dz x o u (a.dz x o u h),⟨r1++r2,by rw [e2,e1,aaQ]⟩,λx φ h=>b.ext x φ (a.ext x φ h)⟩
theorem bX.get (f:bX K H H' ρ ρ') {n:Nat} {a:Addr} (h:ρ[n]?=Zg a):ρ'[n]?=Zg a:=by obtain ⟨r,e⟩:=f.pre;rw [e,ZC (Zp.mp h).1];exact h
mutual
theorem Rep.mono (f:bX K H H' ρ ρ'):∀ (d:D) (v:V),Rep K mg ρ H d v→Rep K mg ρ' H' d v
 | .cy,v,h=>by unfold Rep at h ⊢;exact h
 | .bl b,v,h=>by unfold Rep at h ⊢;exact h
 | .int i,v,h=>by unfold Rep at h ⊢;exact h
 | .str x,v,h=>by unfold Rep at h ⊢;exact h
 | .tup ds,v,h=>by unfold Rep at h ⊢;obtain ⟨a,xs,e,s,r⟩:=h;exact ⟨a,xs,e,f.tup _ _ s,aq.mono f ds xs r⟩
 | .con ds,v,h=>by unfold Rep at h ⊢;obtain ⟨a,xs,e,s,r⟩:=h;exact ⟨a,xs,e,f.con _ _ s,aq.mono f ds xs r⟩
 | .obj n,v,h=>by unfold Rep at h ⊢;obtain ⟨a,e,r⟩:=h;exact ⟨a,e,f.get r⟩
 | .fn x,v,h=>by unfold Rep at h ⊢;exact h
 | .vz c as,v,h=>by unfold Rep at h ⊢;obtain ⟨a,cv,e,m,r⟩:=h;exact ⟨a,cv,e,m,f.ext _ _ r⟩
 | .iM k ds,v,h=>by unfold Rep at h ⊢;obtain ⟨k,a,cs,xs,e,h0,h1,h2,h3⟩:=h;exact ⟨k,a,cs,xs,e,h0,h1.mono f.dz,h2.mono f.dz,aq.mono f ds xs h3⟩
theorem aq.mono (f:bX K H H' ρ ρ'):∀ (ds:List D) (vs:List V),aq K mg ρ H ds vs→aq K mg ρ' H' ds vs
 | [],vs,h=>by unfold aq at h ⊢;exact h
 | d::ds,vs,h=>by unfold aq at h ⊢;obtain ⟨v,r,e,h1,h2⟩:=h;exact ⟨v,r,e,Rep.mono f d v h1,aq.mono f ds r h2⟩
end
theorem aq.length:∀ {ds:List D} {vs:List V},aq K mg ρ H ds vs→ds.length=vs.length
 | [],vs,h=>by unfold aq at h;subst h;rfl
 | d::ds,vs,h=>by unfold aq at h;obtain ⟨v,r,rfl,_,h2⟩:=h;simp [aq.length h2]
theorem aq.nil:aq K mg ρ H [] []:=by unfold aq;rfl
theorem aq.cons {d:D} {v:V} {ds:List D} {vs:List V} (h:Rep K mg ρ H d v) (t:aq K mg ρ H ds vs):aq K mg ρ H (d::ds) (v::vs):=by unfold aq;exact ⟨v,vs,rfl,h,t⟩
theorem aq.get:∀ {ds:List D} {vs:List V} {i:Nat} {d:D},aq K mg ρ H ds vs→ds[i]?=Zg d→∃ v,vs[i]?=Zg v∧Rep K mg ρ H d v
 | [],vs,i,d,h,e=>by simp at e
 | x::ds,vs,0,d,h,e=>by unfold aq at h;obtain ⟨v,r,rfl,h1,_⟩:=h;simp at e;subst e;exact ⟨v,rfl,h1⟩
 | x::ds,vs,i+1,d,h,e=>by unfold aq at h;obtain ⟨v,r,rfl,_,h2⟩:=h;obtain ⟨u,e1,e2⟩:=aq.get (i:=i) (d:=d) h2 (by simpa using e);exact ⟨u,by simpa using e1,e2⟩
theorem aq.append:∀ {ds es:List D} {vs us:List V},aq K mg ρ H ds vs→aq K mg ρ H es us→aq K mg ρ H (ds++es) (vs++us)
 | [],es,vs,us,h,h'=>by unfold aq at h;subst h;exact h'
 | d::ds,es,vs,us,h,h'=>by unfold aq at h;obtain ⟨v,r,rfl,h1,h2⟩:=h;exact .cons h1 (aq.append h2 h')
theorem aq.take:∀ (n:Nat) {ds:List D} {vs:List V},aq K mg ρ H ds vs→aq K mg ρ H (ds.take n) (vs.take n)
 | 0,_,_,_=>by simpa using aq.nil
 | n+1,[],vs,h=>by unfold aq at h;subst h;simpa using aq.nil
 | n+1,d::ds,vs,h=>by unfold aq at h;obtain ⟨v,r,rfl,h1,h2⟩:=h;exact .cons h1 (aq.take n h2)
theorem aq.drop:∀ (n:Nat) {ds:List D} {vs:List V},aq K mg ρ H ds vs→aq K mg ρ H (ds.drop n) (vs.drop n)
 | 0,_,_,h=>by simpa using h
 | n+1,[],vs,h=>by unfold aq at h;subst h;simpa using aq.nil
 | n+1,d::ds,vs,h=>by unfold aq at h;obtain ⟨v,r,rfl,h1,h2⟩:=h;simpa using aq.drop n h2
theorem aq.set {x:D} {y:V} (hx:Rep K mg ρ H x y):∀ (n:Nat) {ds:List D} {vs:List V},aq K mg ρ H ds vs→aq K mg ρ H (ds.set n x) (vs.set n y)
 | _,[],vs,h=>by unfold aq at h;subst h;simpa using aq.nil
 | 0,d::ds,vs,h=>by unfold aq at h;obtain ⟨v,r,rfl,h1,h2⟩:=h;exact .cons hx h2
 | n+1,d::ds,vs,h=>by unfold aq at h;obtain ⟨v,r,rfl,h1,h2⟩:=h;exact .cons h1 (aq.set hx n h2)
theorem aq.ints:∀ (ns:List Int),aq K mg ρ H (ns.map D.int) (ns.map V.int)
 | []=>.nil
 | n::ns=>.cons (by unfold Rep;rfl) (aq.ints ns)
end
def GI (K:Zo) (mg:Str→Option Zj) (ρ:List Addr) (H:Hp) (a:Addr):DO→Prop
 | .lst ds=>∃ xs,H a=Zg (.lst xs)∧aq K mg ρ H ds xs
 | .dead=>∃ o,H a=Zg o
 | .dct kvs=>∃ xs,H a=Zg (.dK ((kvs.map (·.1)).zip xs))∧aq K mg ρ H (kvs.map (·.2)) xs
 | .tab y=>∃ (ps:Array Zj) (c:Addr) (k:gY),H a=Zg (.lU ps)∧aaZ K y=Zg (c,a)∧nW K mg y=Zg k∧(ps=#[]∨∃ c',ps=#[abA k.pos.line,abA k.pos.col,.ref c']∧ni H c' k.qual)
 | .iN fz kvs=>∃ xs,(if fz=Zh then ∃ o,H a=Zg (.dz o (.dT ((kvs.map (·.1)).zip xs))) else H a=Zg (.dT ((kvs.map (·.1)).zip xs)))∧aq K mg ρ H (kvs.map (·.2)) xs
 | .Nt kvs=>∃ xs,(∃ o,H a=Zg (.dz o (.dK ((kvs.map (·.1)).zip xs))))∧aq K mg ρ H (kvs.map (·.2)) xs
 | .ins c fs=>∃ C dx xs,mg c=Zg (.ref C)∧H a=Zg (.ins C dx ((fs.map (·.1)).zip xs))∧aq K mg ρ H (fs.map (·.2)) xs
structure eN (K:Zo) (mg:Str→Option Zj) (H:Hp) (ρ:List Addr) (G:DH):Prop where
 hl:ρ.length=G.length
 nd:ρ.Nodup
 ob:∀ (n:Nat) (o:DO),G[n]?=Zg o→∃ a,ρ[n]?=Zg a∧GI K mg ρ H a o
def pR (K:Zo) (mg:Str→Option Zj) (H:Hp) (ρ:List Addr) (σ:St) (τ:DS):Prop:=
 σ.length=τ.length∧∀ (i:Nat) (d:D),τ[i]?=Zg (Zg d)→∃ v,σ[i]?=Zg (Zg v)∧Rep K mg ρ H d v
structure Ab (K:Zo) (mg:Str→Option Zj) (σ:St) (H:Hp) (τ:DS) (ρ:List Addr) (G:DH):Prop where
 st:pR K mg H ρ σ τ
 hp:eN K mg H ρ G
section
variable {K:Zo} {mg:Str→Option Zj} {H H' H1 H2:Hp} {ρ ρ' ρ1 ρ2:List Addr} {G G':DH} {σ:L2.St} {τ:DS}
theorem pR.mono (f:bX K H H' ρ ρ') (h:pR K mg H ρ σ τ):pR K mg H' ρ' σ τ:=⟨h.1,λi d e=>by obtain ⟨v,e1,r⟩:=h.2 i d e;exact ⟨v,e1,r.mono f⟩⟩
theorem pR.set (h:pR K mg H ρ σ τ) (r:Rep K mg ρ H d v):pR K mg H ρ (σ.set i (Zg v)) (τ.set i (Zg d)):=by
 refine ⟨by simp [h.1],λj e he=>?_⟩;by_cases hj:i=j
 ·subst hj;rw [aap] at he;by_cases hi:i<τ.length
  ·rw [if_pos rfl,if_pos hi] at he;cases he;exact ⟨v,by rw [aap,if_pos rfl,if_pos (by rw [h.1];exact hi)],r⟩
  ·rw [if_pos rfl,if_neg hi] at he;cases he
 ·rw [ZZ hj] at he;obtain ⟨u,e1,r1⟩:=h.2 j e he;exact ⟨u,by rw [ZZ hj];exact e1,r1⟩
theorem Ab.fut (ab:Ab K mg σ H τ ρ G) (f:bX K H H' ρ ρ') (hp:eN K mg H' ρ' G'):Ab K mg σ H' τ ρ' G':=⟨ab.st.mono f,hp⟩
theorem eN.lst (h:eN K mg H ρ G) (e:G[n]?=Zg (.lst ds)):∃ a xs,ρ[n]?=Zg a∧H a=Zg (.lst xs)∧aq K mg ρ H ds xs:=by obtain ⟨a,e1,xs,e2,r⟩:=h.ob n _ e;exact ⟨a,xs,e1,e2,r⟩
theorem eN.there (h:eN K mg H ρ G) (e:ρ[n]?=Zg a):∃ o,H a=Zg o:=by
 have hn:n<G.length:=by rw [← h.hl];exact (Zp.mp e).1
 obtain ⟨a',e1,r⟩:=h.ob n G[n] (Zr hn);rw [e] at e1;cases e1;cases hg:G[n] with
 | lst xs=>rw [hg] at r;obtain ⟨ys,e2,_⟩:=r;exact ⟨_,e2⟩
 | dead=>rw [hg] at r;exact r
 | dct kv=>rw [hg] at r;obtain ⟨ys,e2,_⟩:=r;exact ⟨_,e2⟩
 | tab t=>rw [hg] at r;obtain ⟨ps,c,k,e2,_⟩:=r;exact ⟨_,e2⟩
 | iN fz kv=>
  rw [hg] at r;obtain ⟨ys,e2,_⟩:=r;cases fz
  ·exact ⟨_,e2⟩
  ·obtain ⟨o,e2⟩:=e2;exact ⟨_,e2⟩
 | Nt kv=>rw [hg] at r;obtain ⟨ys,⟨o,e2⟩,_⟩:=r;exact ⟨_,e2⟩
 | ins c fs=>rw [hg] at r;obtain ⟨C,dx,xs,_,e2,_⟩:=r;exact ⟨_,e2⟩
theorem eN.not_mem (h:eN K mg H ρ G) (hp:H p=Zl):p∉ρ:=λhm=>by obtain ⟨n,hn,e⟩:=abG hm;obtain ⟨o,q⟩:=h.there (n:=n) (a:=p) (by rw [Zr hn,e]);rw [hp] at q;cases q
theorem GI.mono {o:DO} (f:bX K H H' ρ ρ') (he:∀ u,H a=Zg u→H' a=Zg u) (h:GI K mg ρ H a o):GI K mg ρ' H' a o:=by
 cases o with
 | lst ds=>obtain ⟨xs,e,r⟩:=h;exact ⟨xs,he _ e,r.mono f⟩
 | dead=>obtain ⟨o,e⟩:=h;exact ⟨o,he _ e⟩
 | dct kv=>obtain ⟨xs,e,r⟩:=h;exact ⟨xs,he _ e,r.mono f⟩
 | tab t=>obtain ⟨ps,c,k,e,q,q2,r⟩:=h;exact ⟨ps,c,k,he _ e,q,q2,r.imp id λzz=>by obtain ⟨c',e,z⟩:=zz;exact ⟨c',e,z.mono f.dz⟩⟩
 | iN fz kv=>
  obtain ⟨xs,e,r⟩:=h;refine ⟨xs,?_,r.mono f⟩;cases fz
  ·exact he _ e
  ·obtain ⟨o,e⟩:=e;exact ⟨o,he _ e⟩
 | Nt kv=>obtain ⟨xs,⟨o,e⟩,r⟩:=h;exact ⟨xs,⟨o,he _ e⟩,r.mono f⟩
 | ins c fs=>obtain ⟨C,dx,xs,m,e,r⟩:=h;exact ⟨C,dx,xs,m,he _ e,r.mono f⟩
theorem cH {o:HO} (hp:H p=Zl) (ρ:List Addr):bX K H (upd H p o) ρ ρ:=by
 refine ⟨λa xs h=>?_,λa q u h=>by rw [aA (bW h hp)];exact h,⟨[],by simp⟩,λa φ h=>by rw [aA (bW h hp)];exact h⟩
 ·rw [pQ] at h ⊢;rw [aA (bW h hp)];exact h
theorem o7 (hp:H p=Zg (.lst xs)) (ρ:List Addr):bX K H (upd H p (.lst ys)) ρ ρ:=by
 refine ⟨λa zs h=>?_,λa q u h=>by rw [aA (fB h hp (by intro z;cases z))];exact h,⟨[],by simp⟩,λa φ h=>by rw [aA (fB h hp (by intro z;cases z))];exact h⟩
 ·rw [pQ] at h ⊢;rw [aA (fB h hp (by intro z;cases z))];exact h
theorem eN.new {o:HO} (h:eN K mg H ρ G) (hp:H p=Zl):eN K mg (upd H p o) ρ G:=
 ⟨h.hl,h.nd,λn ob e=>by obtain ⟨a,e1,r⟩:=h.ob n ob e;exact ⟨a,e1,r.mono (cH hp ρ) λu q=>by rw [aA (bW q hp)];exact q⟩⟩
theorem aB (l:List α) (a:α):(l++[a])[l.length]?=Zg a:=by simp
theorem dN (ρ:List Addr) (p:Addr):bX K H H ρ (ρ++[p]):=⟨λ_ _ h=>h,λ_ _ _ h=>h,⟨[p],rfl⟩,λ_ _ h=>h⟩
theorem eN.more (h:eN K mg H ρ G) (hp:H p=Zl) (r:aq K mg ρ H ds xs):eN K mg (upd H p (.lst xs)) (ρ++[p]) (G++[.lst ds]):=by
 have f:bX K H (upd H p (.lst xs)) ρ (ρ++[p]):=(cH hp ρ).trans (dN ρ p);refine ⟨by simp [h.hl],?_,λn ob e=>?_⟩
 ·rw [abB];refine ⟨h.nd,by simp,λa ha b hb=>?_⟩;have e:b=p:=by simpa using hb
  subst e;rintro rfl;exact h.not_mem hp ha
 ·by_cases hn:n<G.length
  ·rw [ZC hn] at e;obtain ⟨a,e1,r'⟩:=h.ob n ob e;exact ⟨a,f.get e1,r'.mono f λu q=>by rw [aA (bW q hp)];exact q⟩
  ·have hl:n<(G++[DO.lst ds]).length:=(Zp.mp e).1;have hn':n=G.length:=by simp at hl;nofun
   subst hn';rw [aB] at e;cases e;refine ⟨p,by rw [← h.hl,aB],xs,aN,r.mono f⟩
theorem eN.put {ds es:List D} (h:eN K mg H ρ G) (hn:ρ[n]?=Zg a) (ha:H a=Zg (.lst xs)) (r:aq K mg ρ H es ys):eN K mg (upd H a (.lst ys)) ρ (G.set n (.lst es)):=by
 have f:bX K H (upd H a (.lst ys)) ρ ρ:=o7 ha ρ;refine ⟨by simp [h.hl],h.nd,λm ob e=>?_⟩;by_cases hm:n=m
 ·subst hm;rw [aap,if_pos rfl] at e;split at e
  ·cases e;exact ⟨a,hn,ys,aN,r.mono f⟩
  ·cases e
 ·rw [ZZ hm] at e;obtain ⟨b,e1,r'⟩:=h.ob m ob e;have hb:b≠a:=by rintro rfl;obtain ⟨h1,xF⟩:=Zp.mp hn;obtain ⟨h2,tZ⟩:=Zp.mp e1;exact hm ((aaO h.nd).mp (xF.trans tZ.symm))
  exact ⟨b,e1,r'.mono f λu q=>by rw [aA hb];exact q⟩
end
abbrev bR:=XD→St→Hp→Prop
variable {EE:bR}
section
variable (K:Zo) (mg:Str→Option Zj) (EE:bR)
def iP (H:Hp) (σ:St) (τ:DS) (ρ:List Addr):Out D→VK→Prop
 | .stuck,_=>False
 | .ok d G',Q=>∀ v H' ρ',bX K H H' ρ ρ'→Ab K mg σ H' τ ρ' G'→Rep K mg ρ' H' d v→Q v H'
 | .bq c G',_=>∀ H' ρ',bX K H H' ρ ρ'→Ab K mg σ H' τ ρ' G'→EE c σ H'
def GJ (H:Hp) (σ:St) (τ:DS) (ρ:List Addr):Out Bool→(Bool→Hp→Prop)→Prop
 | .stuck,_=>False
 | .ok b G',Q=>∀ H' ρ',bX K H H' ρ ρ'→Ab K mg σ H' τ ρ' G'→Q b H'
 | .bq c G',_=>∀ H' ρ',bX K H H' ρ ρ'→Ab K mg σ H' τ ρ' G'→EE c σ H'
def OB (H:Hp) (σ:St) (τ:DS) (ρ:List Addr):Out (List D)→(List V→Hp→Prop)→Prop
 | .stuck,_=>False
 | .ok ds G',Q=>∀ vs H' ρ',bX K H H' ρ ρ'→Ab K mg σ H' τ ρ' G'→aq K mg ρ' H' ds vs→Q vs H'
 | .bq c G',_=>∀ H' ρ',bX K H H' ρ ρ'→Ab K mg σ H' τ ρ' G'→EE c σ H'
def bh (m:DS→M D):TE:=λσ H Q=>∃ τ ρ G,Ab K mg σ H τ ρ G∧iP K mg EE H σ τ ρ (m τ G) Q
def liftT (m:DS→M Bool):TT:=λσ H Q=>∃ τ ρ G,Ab K mg σ H τ ρ G∧GJ K mg EE H σ τ ρ (m τ G) Q
def gU (m:DS→M (List D)):TA:=λσ H Q=>∃ τ ρ G,Ab K mg σ H τ ρ G∧OB K mg EE H σ τ ρ (m τ G) Q
inductive Res where
 | stuck
 | nx (τ:DS) (G:DH)
 | rt (d:D) (G:DH)
 | bk (τ:DS) (G:DH)
 | ct (τ:DS) (G:DH)
 | xn (c:XD) (τ:DS) (G:DH)
def qX (H:Hp) (ρ:List Addr) (Dd:Ends):Res→Prop
 | .stuck=>False
 | .nx τ G=>∀ σ' H' ρ',bX K H H' ρ ρ'→Ab K mg σ' H' τ ρ' G→Dd.nx σ' H'
 | .bk τ G=>∀ σ' H' ρ',bX K H H' ρ ρ'→Ab K mg σ' H' τ ρ' G→Dd.bk σ' H'
 | .ct τ G=>∀ σ' H' ρ',bX K H H' ρ ρ'→Ab K mg σ' H' τ ρ' G→Dd.ct σ' H'
 | .rt d G=>∀ v H' ρ',bX K H H' ρ ρ'→eN K mg H' ρ' G→Rep K mg ρ' H' d v→Dd.rt v H'
 | .xn c τ G=>∀ σ' H' ρ',bX K H H' ρ ρ'→Ab K mg σ' H' τ ρ' G→EE c σ' H'
abbrev MS:=DS→DH→Res
def gB (m:MS):TS:=λDd σ H=>∃ τ ρ G,Ab K mg σ H τ ρ G∧qX K mg EE H ρ Dd (m τ G)
end
variable {ms:MS}
section
variable {K:Zo} {mg:Str→Option Zj} {EE:bR} {H H1:Hp} {σ:L2.St} {τ:DS} {ρ ρ1:List Addr}
theorem iP.fut {r:Out D} {Q:VK} (f:bX K H H1 ρ ρ1) (h:iP K mg EE H σ τ ρ r Q):iP K mg EE H1 σ τ ρ1 r Q:=by
 cases r with
 | stuck=>exact h
 | ok d G'=>exact λv H' ρ' f'=>h v H' ρ' (f.trans f')
 | bq c G'=>exact λH' ρ' f'=>h H' ρ' (f.trans f')
theorem GJ.fut {r:Out Bool} {Q:Bool→Hp→Prop} (f:bX K H H1 ρ ρ1) (h:GJ K mg EE H σ τ ρ r Q):GJ K mg EE H1 σ τ ρ1 r Q:=by
 cases r with
 | stuck=>exact h
 | ok d G'=>exact λH' ρ' f'=>h H' ρ' (f.trans f')
 | bq c G'=>exact λH' ρ' f'=>h H' ρ' (f.trans f')
theorem OB.fut {r:Out (List D)} {Q:List V→Hp→Prop} (f:bX K H H1 ρ ρ1) (h:OB K mg EE H σ τ ρ r Q):OB K mg EE H1 σ τ ρ1 r Q:=by
 cases r with
 | stuck=>exact h
 | ok d G'=>exact λv H' ρ' f'=>h v H' ρ' (f.trans f')
 | bq c G'=>exact λH' ρ' f'=>h H' ρ' (f.trans f')
theorem qX.fut {r:Res} (f:bX K H H1 ρ ρ1) (h:qX K mg EE H ρ Dd r):qX K mg EE H1 ρ1 Dd r:=by
 cases r with
 | stuck=>exact h
 | nx τ G=>exact λs H' ρ' f'=>h s H' ρ' (f.trans f')
 | bk τ G=>exact λs H' ρ' f'=>h s H' ρ' (f.trans f')
 | ct τ G=>exact λs H' ρ' f'=>h s H' ρ' (f.trans f')
 | rt d G=>exact λs H' ρ' f'=>h s H' ρ' (f.trans f')
 | xn c τ G=>exact λs H' ρ' f'=>h s H' ρ' (f.trans f')
theorem jw {k:DS→D→M D} {Q:VK} (h:bh K mg EE (λτ=>(m τ).bind (k τ)) σ H Q) :
  bh K mg EE m σ H λx H1=>∃ τ ρ G d,Ab K mg σ H1 τ ρ G∧Rep K mg ρ H1 d x∧iP K mg EE H1 σ τ ρ (k τ d G) Q:=by
 obtain ⟨τ,ρ,G,ab,ok⟩:=h;refine ⟨τ,ρ,G,ab,?_⟩;dsimp only [M.bind] at ok;cases e:m τ G with
 | stuck=>rw [e] at ok;exact ok
 | bq c G'=>rw [e] at ok;exact ok
 | ok d G'=>rw [e] at ok;exact λv H' ρ' f aV r=>⟨τ,ρ',G',d,aV,r,ok.fut f⟩
theorem CL {k:DS→D→M Bool} {Q:Bool→Hp→Prop} (h:liftT K mg EE (λτ=>(m τ).bind (k τ)) σ H Q) :
  bh K mg EE m σ H λx H1=>∃ τ ρ G d,Ab K mg σ H1 τ ρ G∧Rep K mg ρ H1 d x∧GJ K mg EE H1 σ τ ρ (k τ d G) Q:=by
 obtain ⟨τ,ρ,G,ab,ok⟩:=h;refine ⟨τ,ρ,G,ab,?_⟩;dsimp only [M.bind] at ok;cases e:m τ G with
 | stuck=>rw [e] at ok;exact ok
 | bq c G'=>rw [e] at ok;exact ok
 | ok d G'=>rw [e] at ok;exact λv H' ρ' f aV r=>⟨τ,ρ',G',d,aV,r,ok.fut f⟩
theorem yf {m:DS→M Bool} {k:DS→Bool→M Bool} {Q:Bool→Hp→Prop} (h:liftT K mg EE (λτ=>(m τ).bind (k τ)) σ H Q) :
  liftT K mg EE m σ H λb H1=>∃ τ ρ G,Ab K mg σ H1 τ ρ G∧GJ K mg EE H1 σ τ ρ (k τ b G) Q:=by
 obtain ⟨τ,ρ,G,ab,ok⟩:=h;refine ⟨τ,ρ,G,ab,?_⟩;dsimp only [M.bind] at ok;cases e:m τ G with
 | stuck=>rw [e] at ok;exact ok
 | bq c G'=>rw [e] at ok;exact ok
 | ok d G'=>rw [e] at ok;exact λH' ρ' f aV=>⟨τ,ρ',G',aV,ok.fut f⟩
theorem CM {k:DS→D→M (List D)} {Q:List V→Hp→Prop} (h:gU K mg EE (λτ=>(m τ).bind (k τ)) σ H Q) :
  bh K mg EE m σ H λx H1=>∃ τ ρ G d,Ab K mg σ H1 τ ρ G∧Rep K mg ρ H1 d x∧OB K mg EE H1 σ τ ρ (k τ d G) Q:=by
 obtain ⟨τ,ρ,G,ab,ok⟩:=h;refine ⟨τ,ρ,G,ab,?_⟩;dsimp only [M.bind] at ok;cases e:m τ G with
 | stuck=>rw [e] at ok;exact ok
 | bq c G'=>rw [e] at ok;exact ok
 | ok d G'=>rw [e] at ok;exact λv H' ρ' f aV r=>⟨τ,ρ',G',d,aV,r,ok.fut f⟩
theorem jx {m:DS→M (List D)} {k:DS→List D→M D} {Q:VK} (h:bh K mg EE (λτ=>(m τ).bind (k τ)) σ H Q) :
  gU K mg EE m σ H λx H1=>∃ τ ρ G d,Ab K mg σ H1 τ ρ G∧aq K mg ρ H1 d x∧iP K mg EE H1 σ τ ρ (k τ d G) Q:=by
 obtain ⟨τ,ρ,G,ab,ok⟩:=h;refine ⟨τ,ρ,G,ab,?_⟩;dsimp only [M.bind] at ok;cases e:m τ G with
 | stuck=>rw [e] at ok;exact ok
 | bq c G'=>rw [e] at ok;exact ok
 | ok d G'=>rw [e] at ok;exact λv H' ρ' f aV r=>⟨τ,ρ',G',d,aV,r,ok.fut f⟩
def bz {α:Type} (m:M α) (k:α→DH→Res) (x:XD→DH→Res):DH→Res:=λG=>match m G with
 | .stuck=>.stuck
 | .ok a G'=>k a G'
 | .bq c G'=>x c G'
theorem lC {k:DS→D→DH→Res} (h:gB K mg EE (λτ=>bz (m τ) (k τ) λc G=>.xn c τ G) Dd σ H) :
  bh K mg EE m σ H λx H1=>∃ τ ρ G d,Ab K mg σ H1 τ ρ G∧Rep K mg ρ H1 d x∧qX K mg EE H1 ρ Dd (k τ d G):=by
 obtain ⟨τ,ρ,G,ab,ok⟩:=h;refine ⟨τ,ρ,G,ab,?_⟩;dsimp only [bz] at ok;cases e:m τ G with
 | stuck=>rw [e] at ok;exact ok
 | bq c G'=>rw [e] at ok;exact λH' ρ' f aV=>ok σ H' ρ' f aV
 | ok d G'=>rw [e] at ok;exact λv H' ρ' f aV r=>⟨τ,ρ',G',d,aV,r,ok.fut f⟩
theorem CN {m:DS→M Bool} {k:DS→Bool→DH→Res} (h:gB K mg EE (λτ=>bz (m τ) (k τ) λc G=>.xn c τ G) Dd σ H) :
  liftT K mg EE m σ H λb H1=>∃ τ ρ G,Ab K mg σ H1 τ ρ G∧qX K mg EE H1 ρ Dd (k τ b G):=by
 obtain ⟨τ,ρ,G,ab,ok⟩:=h;refine ⟨τ,ρ,G,ab,?_⟩;dsimp only [bz] at ok;cases e:m τ G with
 | stuck=>rw [e] at ok;exact ok
 | bq c G'=>rw [e] at ok;exact λH' ρ' f aV=>ok σ H' ρ' f aV
 | ok d G'=>rw [e] at ok;exact λH' ρ' f aV=>⟨τ,ρ',G',aV,ok.fut f⟩
end
def QE (X:Cx) (EE:bR) (e:Expr) (m:DS→M D):Prop:=PE X e (bh X.K X.mg EE m)
def QT (X:Cx) (EE:bR) (e:Expr) (m:DS→M Bool):Prop:=PT X e (liftT X.K X.mg EE m)
def QW (X:Cx) (EE:bR) (e:Expr) (m:DS→M Bool):Prop:=PW X e (liftT X.K X.mg EE m)
def QA (X:Cx) (EE:bR) (es:List Expr) (m:DS→M (List D)):Prop:=PA X es (gU X.K X.mg EE m)
def QS (X:Cx) (EE:bR) (st:Stmt) (m:MS):Prop:=PS X st (gB X.K X.mg EE m)
def qY (X:Cx) (EE:bR) (st:List Stmt) (m:MS):Prop:=xK X st (gB X.K X.mg EE m)
section
variable {X:Cx}
theorem PE.mono {t t':TE} (h:PE X e t) (i:∀ σ H Q,t' σ H Q→t σ H Q):PE X e t':=λpins s σ H Q I q=>h pins s σ H Q I (i _ _ _ q)
theorem PT.mono {t t':TT} (h:PT X e t) (i:∀ σ H Q,t' σ H Q→t σ H Q):PT X e t':=λpins s σ H Q I q=>h pins s σ H Q I (i _ _ _ q)
theorem PA.mono {e:List Expr} {t t':TA} (h:PA X e t) (i:∀ σ H Q,t' σ H Q→t σ H Q):PA X e t':=λpos pins s σ H Q I q=>h pos pins s σ H Q I (i _ _ _ q)
theorem PS.mono {e:Stmt} {t t':TS} (h:PS X e t) (i:∀ D σ H,t' D σ H→t D σ H):PS X e t':=λpins s σ H D I q=>h pins s σ H D I (i _ _ _ q)
theorem xK.mono {e:List Stmt} {t t':TS} (h:xK X e t) (i:∀ D σ H,t' D σ H→t D σ H):xK X e t':=λpins s σ H D I q=>h pins s σ H D I (i _ _ _ q)
end
section
variable {X:Cx} {EE:bR} {a b c:Expr} {ma mb mc:DS→M D} {pos:Pos}
def af (i:Nat):DS→M D:=λτ G=>match τ[i]? with
 | some (Zg d)=>.ok d G
 | _=>.stuck
def eC (d:D):DS→M D:=λ_=>M.ret d
theorem Lq (i:Nat) {x:Str} {pos:Pos} (hN:X.N[i]?=Zg x:=by rfl) (hv:Ce X.env.scope x:=by first | exact Or.inl rfl | exact ae8 (Or.inl rfl) | exact ae8 (ae8 rfl)) (hd:(x==("__debug__":Str))=Zk:=by decide)
  (hcd:(x==("__classdict__":Str))=Zk:=by decide):QE X EE (.Name x pos) (af i):=PE.mono (xM hN hv hd hcd) λσ H Q ⟨τ,ρ,G,ab,ok⟩=>by
 unfold af at ok;cases e:τ[i]? with
 | none=>rw [e] at ok;exact ok.elim
 | some o=>
  cases o with
  | none=>rw [e] at ok;exact ok.elim
  | some d=>rw [e] at ok;obtain ⟨v,e1,r⟩:=ab.st.2 i d e;exact ⟨v,e1,ok v H ρ .refl ab r⟩
theorem CO (h:PE X e (tC v)) (r:∀ ρ H,Rep X.K X.mg ρ H d v):QE X EE e (eC d):=PE.mono h λσ H Q zz=>by obtain ⟨τ,ρ,G,ab,ok⟩:=zz;exact ok v H ρ .refl ab (r ρ H)
theorem Lr {i:Int} {j pos}:QE X EE (.Constant (.int i) j pos) (eC (.int i)):=CO Kp λ_ _=>by unfold Rep;rfl
theorem OC {i:Bool} {j pos}:QE X EE (.Constant (.bool i) j pos) (eC (.bl i)):=CO NT λ_ _=>by unfold Rep;rfl
theorem Ls {j pos}:QE X EE (.Constant .none j pos) (eC .cy):=CO Kq λ_ _=>by unfold Rep;rfl
theorem Lu {x j pos}:QE X EE (.Constant (.str x) j pos) (eC (.str x)):=CO Kr λ_ _=>by unfold Rep;rfl
def ak (f:D→D→M D) (ma mb:DS→M D):DS→M D:=λτ=>(ma τ).bind λx=>(mb τ).bind λy=>f x y
def CP (X:Cx) (EE:bR) (r:R2) (f:D→D→M D):Prop:=∀ (σ:L2.St) (H:Hp) (τ:DS) (ρ:List Addr) (G:DH) (x y:V) (d e:D) (Q:VK),
 Ab X.K X.mg σ H τ ρ G→Rep X.K X.mg ρ H d x→Rep X.K X.mg ρ H e y→iP X.K X.mg EE H σ τ ρ (f d e G) Q→r x y H Q
theorem o8 {r:R2} (hd:CP X EE r f) {σ:L2.St} {H:Hp} {Q:VK} (h:bh X.K X.mg EE (ak f ma mb) σ H Q) :
  N6 r (bh X.K X.mg EE ma) (bh X.K X.mg EE mb) σ H Q:=by
 obtain ⟨τ,ρ,G,ab,ok⟩:=jw (k:=λτ x=>(mb τ).bind λy=>f x y) h;refine ⟨τ,ρ,G,ab,?_⟩;cases e:ma τ G with
 | stuck=>rw [e] at ok;exact ok
 | bq c G'=>rw [e] at ok;exact ok
 | ok d G'=>
  rw [e] at ok;intro v H' ρ' f' aV r';obtain ⟨τ2,ρ2,G2,d2,bA,r2,aI⟩:=ok v H' ρ' f' aV r';refine ⟨τ2,ρ2,G2,bA,?_⟩;dsimp only [M.bind] at aI;cases e2:mb τ2 G2 with
  | stuck=>rw [e2] at aI;exact aI
  | bq c G'=>rw [e2] at aI;exact aI
  | ok d3 G3=>rw [e2] at aI;exact λv3 H3 ρ3 f3 oG r3=>hd σ H3 τ2 ρ3 G3 v v3 d2 d3 Q oG (r2.mono f3) r3 (aI.fut f3)
theorem jd {op:Operator} {r:R2} (ho:iu X (binaryOp op) r) (hd:CP X EE r f) (ha:QE X EE a ma) (hb:QE X EE b mb):QE X EE (.BinOp a op b pos) (ak f ma mb):=
 PE.mono (N7 ho ha hb) λ_ _ _ h=>o8 hd h
theorem CQ {r:R2} (ho:iu X (compareOp op) r) (hd:CP X EE r f) (ha:QE X EE a ma) (hb:QE X EE b mb) (hm:behindInMarks op b=Zk):QE X EE (.Compare a [op] [b] pos) (ak f ma mb):=
 PE.mono (Gf ho ha hb hm) λ_ _ _ h=>o8 hd h
theorem OD {r:R2} (ho:FP X r) (hd:CP X EE r f) (ha:QE X EE a ma) (hb:QE X EE b mb) (hs:o6 b:=by intro _ _;rfl):QE X EE (.Subscript a b pos) (ak f ma mb):=
 PE.mono (Om ho ha hb hs) λ_ _ _ h=>o8 hd h
theorem CP.or {r r':R2} (h:∀ (σ:L2.St) (H:Hp) (τ:DS) (ρ:List Addr) (G:DH) (x y:V) (d e:D) (Q:VK),
 Ab X.K X.mg σ H τ ρ G→Rep X.K X.mg ρ H d x→Rep X.K X.mg ρ H e y→iP X.K X.mg EE H σ τ ρ (f d e G) Q→r x y H Q∨r' x y H Q):CP X EE (λx y H Q=>r x y H Q∨r' x y H Q) f:=h
def cF (C:Int→Int→Bool) (g:Int→Int→D):D→D→M D
 | .int i,.int j=>if C i j then M.ret (g i j) else M.stop
 | _,_=>M.stop
theorem zq {C:Int→Int→Bool} {g:Int→Int→D} {e:D} {Q:VK} (ok:iP X.K X.mg EE H σ τ ρ (cF C g d e G) Q) :
  ∃ i j,d=.int i∧e=.int j∧C i j=Zh∧iP X.K X.mg EE H σ τ ρ (.ok (g i j) G) Q:=by
 cases d<;>cases e<;>try exact ok.elim
 rename_i i j;dsimp only [cF] at ok;cases hc:C i j with
 | false=>rw [hc] at ok;exact ok.elim
 | true=>rw [hc] at ok;exact ⟨i,j,rfl,rfl,hc,ok⟩
theorem jz {C:Int→Int→Bool} {P:Int→Int→Prop} {g:Int→Int→D} (hC:∀ i j,C i j=Zh→P i j) (hg:∀ i j ρ H,Rep X.K X.mg ρ H (g i j) (gv i j)):CP X EE (rI P gv) (cF C g):=
 λσ H τ ρ G x y d e Q ab r1 r2 ok=>by obtain ⟨i,j,rfl,rfl,hc,ok⟩:=zq ok;unfold Rep at r1 r2;exact ⟨i,j,r1,r2,hC i j hc,ok _ H ρ .refl ab (hg i j ρ H)⟩
theorem gC {g:Int→Int→D} (hg:∀ i j ρ H,Rep X.K X.mg ρ H (g i j) (gv i j)):CP X EE (Co gv) (cF (λ_ _=>Zh) g):=
 λσ H τ ρ G x y d e Q ab r1 r2 ok=>by obtain ⟨i,j,rfl,rfl,hc,ok⟩:=zq ok;unfold Rep at r1 r2;exact ⟨i,j,r1,r2,ok _ H ρ .refl ab (hg i j ρ H)⟩
abbrev l8:=cF (λ_ _=>Zh) λi j=>.int (i - j)
abbrev je:=cF (λi j=>(decide (-(2^64)<i)&&decide (i<2^64))||(decide (-(2^64)<j)&&decide (j<2^64))) λi j=>.int (i*j)
abbrev r9:=cF (λ_ j=>decide (0<j)&&decide (j<1073741824)) λi j=>.int (i / j)
abbrev cY:=cF (λ_ j=>decide (0<j)) λi j=>.int (i % j)
abbrev pS:=cF (λi j=>decide (0≤j)&&(decide (j≤1000000)&&decide (i.natAbs<2^64))) λi j=>.int (i^j.toNat)
abbrev FQ:=cF (λ_ _=>Zh) λi j=>.bl (decide (i<j))
abbrev vC:=cF (λ_ _=>Zh) λi j=>.bl (decide (j<i))
abbrev GK:=cF (λ_ _=>Zh) λi j=>.bl (decide (j≤i))
theorem Lv (ha:QE X EE a ma) (hb:QE X EE b mb):QE X EE (.BinOp a .Sub b pos) (ak l8 ma mb):=jd KR (gC λ_ _ _ _=>by unfold Rep;rfl) ha hb
theorem Lw (ha:QE X EE a ma) (hb:QE X EE b mb):QE X EE (.BinOp a .Mult b pos) (ak je ma mb):=jd KS (jz (λi j h=>by simp only [acL,aan,decide_eq_true_eq] at h;exact h) λ_ _ _ _=>by unfold Rep;rfl) ha hb
theorem GL (ha:QE X EE a ma) (hb:QE X EE b mb):QE X EE (.BinOp a .FloorDiv b pos) (ak r9 ma mb):=jd Gb (jz (λi j h=>by simp only [aan,decide_eq_true_eq] at h;exact h) λ_ _ _ _=>by unfold Rep;rfl) ha hb
theorem Lx (ha:QE X EE a ma) (hb:QE X EE b mb):QE X EE (.BinOp a .Mod b pos) (ak cY ma mb):=jd KU (jz (λi j h=>of_decide_eq_true h) λ_ _ _ _=>by unfold Rep;rfl) ha hb
theorem Ly (ha:QE X EE a ma) (hb:QE X EE b mb):QE X EE (.BinOp a .Pow b pos) (ak pS ma mb):=jd KW (jz (λi j h=>by simp only [aan,decide_eq_true_eq] at h;exact h) λ_ _ _ _=>by unfold Rep;rfl) ha hb
theorem OE (ha:QE X EE a ma) (hb:QE X EE b mb):QE X EE (.Compare a [.Gt] [b] pos) (ak vC ma mb):=CQ Jw (gC λ_ _ _ _=>by unfold Rep;rfl) ha hb (Cr _)
def aL (ds:List D):M D:=λG=>if ds.length≤Zm then .ok (.obj G.length) (G++[.lst ds]) else .stuck
def bK (ds:List D):M D:=λG=>if ds.length≤Zm then .ok (.tup ds) G else .stuck
theorem lE {Q:VK} (ab:Ab X.K X.mg σ H τ ρ G) (r:aq X.K X.mg ρ H ds vs) (ok:iP X.K X.mg EE H σ τ ρ (aL ds G) Q) :
  vs.length≤Zm∧∀ p,H p=Zl→Q (.ref p) (upd H p (.lst vs)):=by
 unfold aL at ok;split at ok
 ·rename_i hl;rw [r.length] at hl;refine ⟨hl,λp hp=>?_⟩;have f:bX X.K H (upd H p (.lst vs)) ρ (ρ++[p]):=(cH hp ρ).trans (dN ρ p);refine ok (.ref p) _ (ρ++[p]) f (ab.fut f (ab.hp.more hp r)) ?_;unfold Rep;exact ⟨p,rfl,by rw [← ab.hp.hl,aB]⟩
 ·exact ok.elim
theorem pT {Q:VK} (ab:Ab X.K X.mg σ H τ ρ G) (r:aq X.K X.mg ρ H ds vs) (ok:iP X.K X.mg EE H σ τ ρ (bK ds G) Q) :
  vs.length≤Zm∧∀ p,H p=Zl→Q (.ref p) (upd H p (.tup vs)):=by
 unfold bK at ok;split at ok
 ·rename_i hl;rw [r.length] at hl;refine ⟨hl,λp hp=>?_⟩;have f:bX X.K H (upd H p (.tup vs)) ρ ρ:=cH hp ρ;refine ok (.ref p) _ ρ f (ab.fut f (ab.hp.new hp)) ?_;unfold Rep;exact ⟨p,vs,rfl,.of aN,r.mono f⟩
 ·exact ok.elim
def ah:DS→M (List D):=λ_=>M.ret []
def aa (m:DS→M D) (r:DS→M (List D)):DS→M (List D):=λτ=>(m τ).bind λx=>(r τ).bind λxs=>M.ret (x::xs)
theorem Lz:QA X EE [] ah:=PA.mono x8 λσ H Q zz=>by obtain ⟨τ,ρ,G,ab,ok⟩:=zz;exact ok [] H ρ .refl ab .nil
theorem GN (ha:QE X EE e m) (hr:QA X EE es r) (hs:ZF (e::es) X.env=(Zk,eval e X.env)::ZF es X.env:=by rfl):QA X EE (e::es) (aa m r):=
 PA.mono (tR ha hr hs) λσ H Q h=>by
  obtain ⟨τ,ρ,G,ab,ok⟩:=CM (k:=λτ x=>(r τ).bind λxs=>M.ret (x::xs)) h;refine ⟨τ,ρ,G,ab,?_⟩;cases e:m τ G with
  | stuck=>rw [e] at ok;exact ok
  | bq c G'=>rw [e] at ok;exact ok
  | ok d G'=>
   rw [e] at ok;intro v H' ρ' f' aV r';obtain ⟨τ2,ρ2,G2,d2,bA,r2,aI⟩:=ok v H' ρ' f' aV r';refine ⟨τ2,ρ2,G2,bA,?_⟩;dsimp only [M.bind] at aI;cases e2:r τ2 G2 with
   | stuck=>rw [e2] at aI;exact aI
   | bq c G'=>rw [e2] at aI;exact aI
   | ok d3 G3=>rw [e2] at aI;exact λv3 H3 ρ3 f3 oG r3=>aI (v::v3) H3 ρ3 f3 oG (.cons (r2.mono f3) r3)
def ai (f:List D→M D) (m:DS→M (List D)):DS→M D:=λτ=>(m τ).bind f
theorem kF {m:DS→M (List D)} {f:List D→M D} {r:List V→Hp→VK→Prop} {σ:L2.St} {H:Hp} {Q:VK}
  (hd:∀ (H:Hp) (τ:DS) (ρ:List Addr) (G:DH) (xs:List V) (ds:List D),Ab X.K X.mg σ H τ ρ G→aq X.K X.mg ρ H ds xs→iP X.K X.mg EE H σ τ ρ (f ds G) Q→r xs H Q)
  (h:bh X.K X.mg EE (ai f m) σ H Q):gU X.K X.mg EE m σ H λxs H1=>r xs H1 Q:=by
 obtain ⟨τ,ρ,G,ab,ok⟩:=jx (k:=λ_=>f) h;refine ⟨τ,ρ,G,ab,?_⟩;cases e:m τ G with
 | stuck=>rw [e] at ok;exact ok
 | bq c G'=>rw [e] at ok;exact ok
 | ok d G'=>rw [e] at ok;intro v H' ρ' f' aV r';obtain ⟨τ2,ρ2,G2,d2,bA,r2,aI⟩:=ok v H' ρ' f' aV r';exact hd H' τ2 ρ2 G2 v d2 bA r2 aI
theorem LA {m:DS→M (List D)} {x1} (h:QA X EE es m):QE X EE (.Tuple es x1 pos) (ai bK m):=
 PE.mono (K7 h) λσ H Q h=>kF (r:=λxs H1 Q=>xs.length≤Zm∧∀ p,H1 p=Zl→Q (.ref p) (upd H1 p (.tup xs))) (λH τ ρ G xs ds ab r ok=>pT ab r ok) h
theorem LB {m:DS→M (List D)} (h:QA X EE es m):QE X EE (.List es pos) (ai aL m):=
 PE.mono (K8 h) λσ H Q h=>kF (r:=λxs H1 Q=>xs.length≤Zm∧∀ p,H1 p=Zl→Q (.ref p) (upd H1 p (.lst xs))) (λH τ ρ G xs ds ab r ok=>lE ab r ok) h
def CallD (X:Cx) (EE:bR) (r:List V→Hp→VK→Prop) (f:List D→M D):Prop:=∀ (σ:L2.St) (H:Hp) (τ:DS) (ρ:List Addr) (G:DH) (xs:List V) (ds:List D) (Q:VK),
 Ab X.K X.mg σ H τ ρ G→aq X.K X.mg ρ H ds xs→iP X.K X.mg EE H σ τ ρ (f ds G) Q→r xs H Q
theorem CS {p:Pos} {m:DS→M (List D)} {id:String} {r:List V→Hp→VK→Prop} {f:List D→M D} (hc:c9 X (.builtin id) r) (hd:CallD X EE r f) (hm:X.mg x=Zl) (ha:QA X EE (e::es) m)
  (hg:Gl X x:=by rfl) (hv:bootBuiltins x=Zg (.builtin id):=by first | rfl | decide) (hn:x≠"__name__":=by decide) (hdb:(x==("__debug__":Str))=Zk:=by decide)
  (he:ZF (e::es) X.env=(Zk,eval e X.env)::ZF es X.env:=by rfl) (hpl:(backTo pos (ZF es X.env)).any (·.1)=Zk:=by rfl):QE X EE (.Call (.Name x p) (e::es) [] pos) (ai f m):=
 PE.mono (Cy hc hg hm hv ha hn hdb he hpl) λσ H Q h=>kF (r:=r) (λH τ ρ G xs ds ab r ok=>hd σ H τ ρ G xs ds Q ab r ok) h
theorem Az {p:Pos} {m:DS→M (List D)} {r:List V→Hp→VK→Prop} {f:List D→M D} (hc:c9 X (.type T) r) (hd:CallD X EE r f) (hm:X.mg x=Zl) (ha:QA X EE (e::es) m)
  (hg:Gl X x:=by rfl) (hv:bootBuiltins x=Zg (.type T):=by first | rfl | decide) (hn:x≠"__name__":=by decide) (hdb:(x==("__debug__":Str))=Zk:=by decide)
  (he:ZF (e::es) X.env=(Zk,eval e X.env)::ZF es X.env:=by rfl) (hpl:(backTo pos (ZF es X.env)).any (·.1)=Zk:=by rfl):QE X EE (.Call (.Name x p) (e::es) [] pos) (ai f m):=
 PE.mono (As hc hg hm hv ha hn hdb he hpl) λσ H Q h=>kF (r:=r) (λH τ ρ G xs ds ab r ok=>hd σ H τ ρ G xs ds Q ab r ok) h
def iZ (f:D→M Bool) (m:DS→M D):DS→M Bool:=λτ=>(m τ).bind f
def l9:D→M Bool
 | .cy=>M.ret Zk
 | .bl b=>M.ret b
 | .int i=>M.ret (i != 0)
 | .str y=>if y.length≤Zm then M.ret ((y.length:Int) != 0) else M.stop
 | .tup xs=>M.ret (!xs.isEmpty)
 | .con xs=>M.ret (!xs.isEmpty)
 | .obj n=>λG=>match G[n]? with
  | some (.lst xs)=>.ok (!xs.isEmpty) G
  | _=>.stuck
 | .fn _=>M.stop
 | .vz _ _=>M.stop
 | .iM _ _=>M.stop
theorem jA (r:aq K mg ρ H ds vs):(!vs.isEmpty)=!ds.isEmpty:=by have:=r.length;cases ds<;>cases vs<;>first | rfl | (simp at this)
theorem CU {Q:Bool→Hp→Prop} (h:liftT X.K X.mg EE (iZ l9 m) σ H Q) :
  bh X.K X.mg EE m σ H λx H1=>∃ k,K3 X.K x H1 k∧Q k H1:=by
 obtain ⟨τ,ρ,G,ab,ok⟩:=CL (k:=λ_=>l9) h;refine ⟨τ,ρ,G,ab,?_⟩;cases e:m τ G with
 | stuck=>rw [e] at ok;exact ok
 | bq c G'=>rw [e] at ok;exact ok
 | ok d G'=>
  rw [e] at ok;intro v H' ρ' f' aV r';obtain ⟨τ2,ρ2,G2,d2,bA,r2,aI⟩:=ok v H' ρ' f' aV r';cases d2 with
  | cy=>unfold Rep at r2;subst r2;exact ⟨Zk,rfl,aI H' ρ2 .refl bA⟩
  | bl b=>unfold Rep at r2;subst r2;exact ⟨b,rfl,aI H' ρ2 .refl bA⟩
  | int i=>unfold Rep at r2;subst r2;exact ⟨_,rfl,aI H' ρ2 .refl bA⟩
  | str y=>
   unfold Rep at r2;subst r2;dsimp only [l9] at aI;split at aI
   ·rename_i hl;exact ⟨_,⟨hl,rfl⟩,aI H' ρ2 .refl bA⟩
   ·exact aI.elim
  | tup xs=>unfold Rep at r2;obtain ⟨p,vs,rfl,sq,rs⟩:=r2;exact ⟨!vs.isEmpty,.inr (.inl ⟨vs,sq,rfl⟩),by rw [jA rs];exact aI H' ρ2 .refl bA⟩
  | con xs=>unfold Rep at r2;obtain ⟨p,vs,rfl,sq,rs⟩:=r2;exact ⟨!vs.isEmpty,.inl ⟨vs,sq.seq,rfl⟩,by rw [jA rs];exact aI H' ρ2 .refl bA⟩
  | obj n=>
   unfold Rep at r2;obtain ⟨p,rfl,e1⟩:=r2;dsimp only [l9] at aI;cases q:G2[n]? with
   | none=>rw [q] at aI;exact aI.elim
   | some o=>
    cases o with
    | lst xs=>rw [q] at aI;obtain ⟨p',vs,e2,hp,rs⟩:=bA.hp.lst q;rw [e1] at e2;cases e2;exact ⟨!vs.isEmpty,.inl ⟨vs,.of hp,rfl⟩,by rw [jA rs];exact aI H' ρ2 .refl bA⟩
    | _=>first | (rw [q] at ok;exact ok.elim) | (rw [q] at aI;exact aI.elim) | (rw [q] at e;cases e;done) | (rw [g] at ok;exact ok.elim) | (rw [g] at q;cases q;done) | (rw [g] at h;cases h;done) | (rw [g2] at ok;exact ok.elim) | (rw [g1,g2] at ok;exact ok.elim) | (rw [q1] at ok;exact ok.elim) | exact ok.elim
  | fn x=>exact aI.elim
  | vz c as=>exact aI.elim
  | iM y0 c0=>exact aI.elim
theorem LC (ha:QE X EE a ma) (he:∀ whole,isTrue a X.env whole=(do let v ← whole;standAt a.pos;holding [v] (truthy v)):=by intro _;rfl):QT X EE a (iZ l9 ma):=
 PT.mono (Ct ha he) λσ H Q h=>CU h
end
def cI {α β:Type} (f:α→Option β):List α→Option (List β)
 | []=>Zg []
 | a::r=>match f a,cI f r with
  | some b,Zg bs=>Zg (b::bs)
  | _,_=>Zl
def jZ (G:DH):Nat→D→Option PyData
 | 0,_=>Zl
 | _+1,.cy=>Zg .none
 | _+1,.bl b=>Zg (.bool b)
 | _+1,.int i=>Zg (.int i)
 | _+1,.str x=>Zg (.str x)
 | n+1,.tup ds=>(cI (jZ G n) ds).map .tuple
 | n+1,.con ds=>(cI (jZ G n) ds).map .list
 | n+1,.obj k=>match G[k]? with
  | some (.lst ds)=>(cI (jZ G n) ds).map .list
  | _=>Zl
 | _+1,.fn _=>Zl
 | _+1,.vz _ _=>Zl
 | _+1,.iM _ _=>Zl
section
variable {X:Cx} {EE:bR} {pins:List (Addr×Obj)} {σ:L2.St} {H:Hp} {s:Zq} {ρ:List Addr} {G:DH}
theorem readsAll {f:D→Option PyData} (hf:∀ (d:D) (x:V) (u:Zj) (p:PyData),Rep X.K X.mg ρ H d x→RelV x u→f d=Zg p→∃ as,Reads s.heap u p as) :
  ∀ (ds:List D) (xs:List V) (us:List Zj) (ps:List PyData),aq X.K X.mg ρ H ds xs→Vals xs us→cI f ds=Zg ps→∃ as,ReadsAll s.heap us ps as
 | [],xs,us,ps,r,v,e=>by unfold aq at r;subst r;cases v;cases e;exact ⟨[],.nil⟩
 | d::ds,xs,us,ps,r,v,e=>by
  unfold aq at r;obtain ⟨x,r',rfl,h1,h2⟩:=r;cases v with
  | cons v1 v2=>
  unfold cI at e;cases e1:f d with
  | none=>rw [e1] at e;cases e
  | some p=>
   cases e2:cI f ds with
   | none=>rw [e1,e2] at e;cases e
   | some qs=>rw [e1,e2] at e;cases e;obtain ⟨as,a1⟩:=hf d x _ p h1 v1 e1;obtain ⟨bs,a2⟩:=readsAll hf ds r' _ qs h2 v2 e2;exact ⟨as++bs,.cons a1 a2⟩
theorem eO (I:Inv X pins σ H s) (hp:eN X.K X.mg H ρ G):∀ (n:Nat) (d:D) (x:V) (u:Zj) (p:PyData),Rep X.K X.mg ρ H d x→RelV x u→jZ G n d=Zg p→∃ as,Reads s.heap u p as
 | 0,_,_,_,_,_,_,e=>nomatch e
 | n+1,.cy,x,u,p,r,v,e=>by unfold Rep at r;subst r;cases v;cases e;exact ⟨_,.none⟩
 | n+1,.bl b,x,u,p,r,v,e=>by unfold Rep at r;subst r;cases v;cases e;exact ⟨_,.bool b⟩
 | n+1,.int i,x,u,p,r,v,e=>by unfold Rep at r;subst r;obtain ⟨t,rfl⟩:=v;cases e;exact ⟨_,.int i t⟩
 | n+1,.str y,x,u,p,r,v,e=>by unfold Rep at r;subst r;obtain ⟨t,rfl⟩:=v;cases e;exact ⟨_,.str y t⟩
 | n+1,.tup ds,x,u,p,r,v,e=>by
  unfold Rep at r;obtain ⟨a,xs,rfl,sq,rs⟩:=r;cases v;obtain ⟨its,vs,⟨o,e1,e2,k,e3⟩,_⟩:=I.tuple (pQ.t sq);unfold jZ at e;cases q:cI (jZ G n) ds with
  | none=>rw [q] at e;cases e
  | some ps=>rw [q] at e;cases e;obtain ⟨as,ra⟩:=readsAll (λd x u p=>eO I hp n d x u p) ds xs its ps rs vs q;exact ⟨as,.tuple e1 e2 e3 (by simpa using ra)⟩
 | n+1,.con ds,x,u,p,r,v,e=>by
  unfold Rep at r;obtain ⟨a,xs,rfl,sq,rs⟩:=r;cases v;obtain ⟨its,vs,⟨o,k,e1,e2,e3,e4⟩,_⟩:=I.list sq.seq;unfold jZ at e;cases q:cI (jZ G n) ds with
  | none=>rw [q] at e;cases e
  | some ps=>rw [q] at e;cases e;obtain ⟨as,ra⟩:=readsAll (λd x u p=>eO I hp n d x u p) ds xs its ps rs vs q;exact ⟨_,.list e1 e2 e4 (by simpa using ra)⟩
 | n+1,.obj k,x,u,p,r,v,e=>by
  unfold Rep at r;obtain ⟨a,rfl,e0⟩:=r;cases v;dsimp only [jZ] at e;cases q:G[k]? with
  | none=>rw [q] at e;cases e
  | some o=>
   cases o with
   | lst ds=>
    rw [q] at e;obtain ⟨a',xs,e1,e2,rs⟩:=hp.lst q;rw [e0] at e1;cases e1;obtain ⟨its,vs,⟨o,k,e1,e2,e3,e4⟩,_⟩:=I.list (.of e2);dsimp only at e;cases q:cI (jZ G n) ds with
    | none=>rw [q] at e;cases e
    | some ps=>rw [q] at e;cases e;obtain ⟨as,ra⟩:=readsAll (λd x u p=>eO I hp n d x u p) ds xs its ps rs vs q;exact ⟨_,.list e1 e2 e4 (by simpa using ra)⟩
   | _=>first | (rw [q] at ok;exact ok.elim) | (rw [q] at aI;exact aI.elim) | (rw [q] at e;cases e;done) | (rw [g] at ok;exact ok.elim) | (rw [g] at q;cases q;done) | (rw [g] at h;cases h;done) | (rw [g2] at ok;exact ok.elim) | (rw [g1,g2] at ok;exact ok.elim) | (rw [q1] at ok;exact ok.elim) | exact ok.elim
 | n+1,.fn y,x,u,p,r,v,e=>nomatch e
 | n+1,.vz y _,x,u,p,r,v,e=>nomatch e
 | n+1,.iM y _,x,u,p,r,v,e=>nomatch e
end
section
variable {X:Cx} {EE:bR} {a b c:Expr} {ma mb mc:DS→M D} {pos:Pos}
def rD (X:Cx) (EE:bR) (f:D→D→M D):R2:=λx y H Q=>∃ σ τ ρ G d e,Ab X.K X.mg σ H τ ρ G∧Rep X.K X.mg ρ H d x∧Rep X.K X.mg ρ H e y∧iP X.K X.mg EE H σ τ ρ (f d e G) Q
theorem j6:CP X EE (rD X EE f) f:=λσ H τ ρ G x y d e Q ab r1 r2 ok=>⟨σ,τ,ρ,G,d,e,ab,r1,r2,ok⟩
theorem OF {r:R2} (h:CP X EE r f) {x y:V} {H:Hp} {Q:VK} (q:rD X EE f x y H Q):r x y H Q:=by obtain ⟨σ,τ,ρ,G,d,e,ab,r1,r2,ok⟩:=q;exact h σ H τ ρ G x y d e Q ab r1 r2 ok
abbrev deep:Nat:=600
def AA (d e:D) (G:DH):Option Bool:=match jZ G deep d,jZ G deep e with
 | some p,Zg q=>if p.canLay0&&(q.canLay0&&decide (min p.depth q.depth≤580)) then Zg (aaN p q) else Zl
 | _,_=>Zl
def fZ (neg:Bool) (d e:D):M D:=λG=>match AA d e G with
 | some b=>.ok (.bl (neg ^^ b)) G
 | none=>.stuck
theorem CV (hu:X.A.units+600<cLine):iu X (compareOp .Eq) (rD X EE (fZ Zk)):=by
 intro pins s σ0 H x y v u Q I rx ry zu;obtain ⟨σ,τ,ρ,G,d,e,ab,r1,r2,ok⟩:=zu;dsimp only [fZ,AA] at ok;cases e1:jZ G deep d with
 | none=>rw [e1] at ok;exact ok.elim
 | some p=>
  cases e2:jZ G deep e with
  | none=>rw [e1,e2] at ok;exact ok.elim
  | some q=>
   rw [e1,e2] at ok;dsimp only at ok;by_cases hc:(p.canLay0&&(q.canLay0&&decide (min p.depth q.depth≤580)))=Zh
   ·rw [if_pos hc] at ok;simp only [aan,decide_eq_true_eq] at hc;obtain ⟨as,ra⟩:=eO I ab.hp deep d x v p r1 rx e1;obtain ⟨bs,rb⟩:=eO I ab.hp deep e y u q r2 ry e2;refine SeqAt.compareEq_reads ra rb hc.1 hc.2.1 (by nofun) ⟨.bl _,H,I,rfl,?_⟩;have:=ok (.bl _) H ρ .refl ab (by unfold Rep;rfl);simpa using this
   ·rw [if_neg hc] at ok;exact ok.elim
theorem LD (hu:X.A.units+600<cLine):iu X (compareOp .NotEq) (rD X EE (fZ Zh)):=by
 intro pins s σ0 H x y v u Q I rx ry zu;obtain ⟨σ,τ,ρ,G,d,e,ab,r1,r2,ok⟩:=zu;dsimp only [fZ,AA] at ok;cases e1:jZ G deep d with
 | none=>rw [e1] at ok;exact ok.elim
 | some p=>
  cases e2:jZ G deep e with
  | none=>rw [e1,e2] at ok;exact ok.elim
  | some q=>
   rw [e1,e2] at ok;dsimp only at ok;by_cases hc:(p.canLay0&&(q.canLay0&&decide (min p.depth q.depth≤580)))=Zh
   ·rw [if_pos hc] at ok;simp only [aan,decide_eq_true_eq] at hc;obtain ⟨as,ra⟩:=eO I ab.hp deep d x v p r1 rx e1;obtain ⟨bs,rb⟩:=eO I ab.hp deep e y u q r2 ry e2;refine SeqAt.compareNe_reads ra rb hc.1 hc.2.1 (by nofun) ⟨.bl _,H,I,rfl,?_⟩;have:=ok (.bl _) H ρ .refl ab (by unfold Rep;rfl);simpa using this
   ·rw [if_neg hc] at ok;exact ok.elim
theorem OG (hu:X.A.units+600<cLine) (ha:QE X EE a ma) (hb:QE X EE b mb):QE X EE (.Compare a [.Eq] [b] pos) (ak (fZ Zk) ma mb):=CQ (CV hu) j6 ha hb (Cr _)
inductive Sh where
 | lst (xs:List D) | tup (xs:List D) | str (x:Str)
def aF (G:DH):D→Option Sh
 | .tup xs=>Zg (.tup xs)
 | .con xs=>Zg (.lst xs)
 | .obj n=>match G[n]? with
  | some (.lst xs)=>Zg (.lst xs)
  | _=>Zl
 | .str x=>Zg (.str x)
 | _=>Zl
def JB (d:D) (ds:List D) (G:DH):Option Bool:=match jZ G deep d,cI (jZ G deep) ds with
 | some p,Zg qs=>if p.canLay0&&(aax qs&&decide (min (abv qs) p.depth≤580)) then Zg (qs.any λy=>aaN y p) else Zl
 | _,_=>Zl
def vE (neg:Bool) (d e:D):M D:=λG=>match aF G e with
 | some (.lst ds)=>match JB d ds G with
  | some b=>.ok (.bl (neg ^^ b)) G
  | none=>.stuck
 | some (.tup ds)=>match JB d ds G with
  | some b=>.ok (.bl (neg ^^ b)) G
  | none=>.stuck
 | some (.str j)=>match d with
  | .str i=>.ok (.bl (neg ^^ !(adn j i 0 j.length 1).isEmpty)) G
  | _=>.stuck
 | none=>.stuck
theorem bE {pins:List (Addr×Obj)} {σ0:L2.St} {s:Zq} {x:V} (h:eN X.K X.mg H ρ G) (r:Rep X.K X.mg ρ H d x) (e:aF G d=Zg (.lst ds)) :
  ∃ p xs,x=.ref p∧kE X.K H p xs∧aq X.K X.mg ρ H ds xs:=by
 cases d with
 | con xs=>cases e;unfold Rep at r;obtain ⟨a,xs,rfl,sq,rs⟩:=r;exact ⟨a,xs,rfl,sq.seq,rs⟩
 | obj n=>
  unfold Rep at r;obtain ⟨a,rfl,e0⟩:=r;dsimp only [aF] at e;cases q:G[n]? with
  | none=>rw [q] at e;cases e
  | some o=>
   cases o with
   | lst ys=>rw [q] at e;cases e;obtain ⟨a',xs,e1,e2,rs⟩:=h.lst q;rw [e0] at e1;cases e1;exact ⟨a,xs,rfl,.of e2,rs⟩
   | _=>first | (rw [q] at ok;exact ok.elim) | (rw [q] at aI;exact aI.elim) | (rw [q] at e;cases e;done) | (rw [g] at ok;exact ok.elim) | (rw [g] at q;cases q;done) | (rw [g] at h;cases h;done) | (rw [g2] at ok;exact ok.elim) | (rw [g1,g2] at ok;exact ok.elim) | (rw [q1] at ok;exact ok.elim) | exact ok.elim
 | _=>cases e
theorem lF {x:V} (r:Rep X.K X.mg ρ H d x) (e:aF G d=Zg (.tup ds)) :
  ∃ p xs,x=.ref p∧pQ H p xs∧aq X.K X.mg ρ H ds xs:=by
 cases d with
 | tup xs=>cases e;unfold Rep at r;obtain ⟨a,xs,rfl,sq,rs⟩:=r;exact ⟨a,xs,rfl,sq,rs⟩
 | obj n=>
  dsimp only [aF] at e;cases q:G[n]? with
  | none=>rw [q] at e;cases e
  | some o=>cases o<;>(rw [q] at e;cases e)
 | _=>cases e
theorem iw {x:V} (r:Rep X.K X.mg ρ H d x) (e:aF G d=Zg (.tup ds)) :
  ∃ p xs,x=.ref p∧lq X.K H p xs∧aq X.K X.mg ρ H ds xs:=let ⟨p,xs,h1,h2,h3⟩:=lF r e;⟨p,xs,h1,h2.t,h3⟩
theorem kG {x:V} (r:Rep X.K X.mg ρ H d x) (e:aF G d=Zg (.str y)):d=.str y∧x=.str y:=by
 cases d with
 | str z=>cases e;unfold Rep at r;exact ⟨rfl,r⟩
 | obj n=>
  dsimp only [aF] at e;cases q:G[n]? with
  | none=>rw [q] at e;cases e
  | some o=>cases o<;>(rw [q] at e;cases e)
 | _=>cases e
theorem LF (I:Inv X pins σ0 H s) (hp:eN X.K X.mg H ρ G) (sq:kE X.K H p xs) (rs:aq X.K X.mg ρ H ds xs)
  (e:cI (jZ G deep) ds=Zg qs):∃ as,Reads s.heap (.ref p) (.list qs) as:=by
 obtain ⟨its,vs,⟨o,k,e1,e2,e3,e4⟩,_⟩:=I.list sq;obtain ⟨as,ra⟩:=readsAll (λd x u p=>eO I hp deep d x u p) ds xs its qs rs vs e;exact ⟨_,.list e1 e2 e4 (by simpa using ra)⟩
theorem LG (I:Inv X pins σ0 H s) (hp:eN X.K X.mg H ρ G) (sq:lq X.K H p xs) (rs:aq X.K X.mg ρ H ds xs)
  (e:cI (jZ G deep) ds=Zg qs):∃ as,Reads s.heap (.ref p) (.tuple qs) as:=by
 obtain ⟨its,vs,⟨o,e1,e2,k,e3⟩,_⟩:=I.tuple sq;obtain ⟨as,ra⟩:=readsAll (λd x u p=>eO I hp deep d x u p) ds xs its qs rs vs e;exact ⟨_,.tuple e1 e2 e3 (by simpa using ra)⟩
theorem vF {b:Bool} (h:JB d ds G=Zg b):∃ p qs,jZ G deep d=Zg p∧cI (jZ G deep) ds=Zg qs∧p.canLay0=Zh∧aax qs=Zh∧min (abv qs) p.depth≤580∧b=qs.any λy=>aaN y p:=by
 unfold JB at h;cases e1:jZ G deep d with
 | none=>rw [e1] at h;cases h
 | some p=>
  cases e2:cI (jZ G deep) ds with
  | none=>rw [e1,e2] at h;cases h
  | some qs=>
   rw [e1,e2] at h;dsimp only at h;by_cases hc:(p.canLay0&&(aax qs&&decide (min (abv qs) p.depth≤580)))=Zh
   ·rw [if_pos hc] at h;simp only [aan,decide_eq_true_eq] at hc;exact ⟨p,qs,rfl,rfl,hc.1,hc.2.1,hc.2.2,(ZS h).symm⟩
   ·rw [if_neg hc] at h;cases h
theorem LH (hu:X.A.units+600<cLine):iu X (compareOp .In) (rD X EE (vE Zk)):=by
 intro pins s σ0 H x y v u Q I rx ry zu;obtain ⟨σ,τ,ρ,G,d,e,ab,r1,r2,ok⟩:=zu;dsimp only [vE] at ok;cases q:aF G e with
 | none=>rw [q] at ok;exact ok.elim
 | some sk=>
  rw [q] at ok;cases sk with
  | lst ds=>
   dsimp only at ok;cases qb:JB d ds G with
   | none=>rw [qb] at ok;exact ok.elim
   | some b=>rw [qb] at ok;obtain ⟨p,qs,e1,e2,h1,h2,h3,rfl⟩:=vF qb;obtain ⟨l,xs,rfl,sq,rs⟩:=bE (pins:=pins) (σ0:=σ0) (s:=s) ab.hp r2 q;cases ry;obtain ⟨as,ra⟩:=eO I ab.hp deep d x v p r1 rx e1;obtain ⟨bs,rb⟩:=LF I ab.hp sq rs e2;refine SeqAt.in_list_reads rb ra h2 h1 (by nofun) ⟨.bl _,H,I,rfl,?_⟩;have:=ok (.bl _) H ρ .refl ab (by unfold Rep;rfl);simpa using this
  | tup ds=>
   dsimp only at ok;cases qb:JB d ds G with
   | none=>rw [qb] at ok;exact ok.elim
   | some b=>rw [qb] at ok;obtain ⟨p,qs,e1,e2,h1,h2,h3,rfl⟩:=vF qb;obtain ⟨l,xs,rfl,sq,rs⟩:=iw r2 q;cases ry;obtain ⟨as,ra⟩:=eO I ab.hp deep d x v p r1 rx e1;obtain ⟨bs,rb⟩:=LG I ab.hp sq rs e2;refine SeqAt.in_tuple_reads rb ra h2 h1 (by nofun) ⟨.bl _,H,I,rfl,?_⟩;have:=ok (.bl _) H ρ .refl ab (by unfold Rep;rfl);simpa using this
  | str j=>
   obtain ⟨rfl,rfl⟩:=kG r2 q;cases d with
   | str i=>unfold Rep at r1;subst r1;refine Am pins s σ0 H _ _ v u Q I rx ry ⟨i,j,rfl,rfl,?_⟩;have:=ok (.bl _) H ρ .refl ab (by unfold Rep;rfl);simpa using this
   | _=>exact ok.elim
def pU (neg:Bool):D→D→M D
 | d,.cy=>match d with
  | .cy=>M.ret (.bl (!neg))
  | _=>M.ret (.bl neg)
 | _,_=>M.stop
theorem GO {x:V} (r:Rep K mg ρ H d x):decide (x=.cy)=(match d with | .cy=>Zh | _=>Zk):=by
 cases d<;>unfold Rep at r
 case cy=>subst r;rfl
 case tup=>obtain ⟨a,xs,rfl,_⟩:=r;rfl
 case con=>obtain ⟨a,xs,rfl,_⟩:=r;rfl
 case obj=>obtain ⟨a,rfl,_⟩:=r;rfl
 case fn=>obtain ⟨a,rfl,_⟩:=r;rfl
 case vz=>obtain ⟨a,cv,rfl,_⟩:=r;rfl
 case iM=>obtain ⟨k,a,cs,xs,rfl,_⟩:=r;rfl
 all_goals (subst r;rfl)
end
section
variable {X:Cx} {EE:bR} {a b c:Expr} {ma mb mc:DS→M D} {pos:Pos}
def aQ (d e:D):M D:=λG=>match e with
 | .int i=>match aF G d with
  | some (.lst xs)=>match jb xs i with
   | some v=>.ok v G
   | none=>.stuck
  | some (.tup xs)=>match jb xs i with
   | some v=>.ok v G
   | none=>.stuck
  | some (.str z)=>if z.length≤Zm then (match jb z.cps.toList i with
   | some c=>.ok (.str ⟨#[c]⟩) G
   | none=>.stuck) else .stuck
  | none=>.stuck
 | _=>.stuck
theorem vG {i:Int} (r:aq K mg ρ H ds vs) (h:jb ds i=Zg d):∃ v,jb vs i=Zg v∧Rep K mg ρ H d v:=by
 unfold jb at h ⊢;rw [← r.length];cases e:xE ds.length i with
 | none=>rw [e] at h;cases h
 | some j=>rw [e] at h;obtain ⟨v,e1,e2⟩:=r.get (show ds[j]?=Zg d from h);exact ⟨v,e1,e2⟩
theorem Si:FP X (rD X EE aQ):=by
 intro value slice pins s σ0 H x y v u Q I rx ry zu hs;obtain ⟨σ,τ,ρ,G,d,e,ab,r1,r2,ok⟩:=zu;cases e<;>try exact ok.elim
 rename_i i;unfold Rep at r2;subst r2;dsimp only [aQ] at ok;cases q:aF G d with
 | none=>rw [q] at ok;exact ok.elim
 | some sk=>
  rw [q] at ok;cases sk with
  | lst ds=>
   dsimp only at ok;cases qa:jb ds i with
   | none=>rw [qa] at ok;exact ok.elim
   | some z=>rw [qa] at ok;obtain ⟨l,xs,rfl,sq,rs⟩:=bE (pins:=pins) (σ0:=σ0) (s:=s) ab.hp r1 q;obtain ⟨w,e1,e2⟩:=vG rs qa;exact Gw value slice pins s σ0 H _ _ v u Q I rx ry ⟨l,xs,i,w,rfl,rfl,sq,e1,ok w H ρ .refl ab e2⟩ hs
  | tup ds=>
   dsimp only at ok;cases qa:jb ds i with
   | none=>rw [qa] at ok;exact ok.elim
   | some z=>rw [qa] at ok;obtain ⟨l,xs,rfl,sq,rs⟩:=iw r1 q;obtain ⟨w,e1,e2⟩:=vG rs qa;exact Lf value slice pins s σ0 H _ _ v u Q I rx ry ⟨l,xs,i,w,rfl,rfl,sq,e1,ok w H ρ .refl ab e2⟩ hs
  | str z=>
   dsimp only at ok;obtain ⟨rfl,rfl⟩:=kG r1 q;by_cases hz:z.length≤Zm
   ·rw [if_pos hz] at ok;cases qa:jb z.cps.toList i with
    | none=>rw [qa] at ok;exact ok.elim
    | some c=>rw [qa] at ok;exact Lg value slice pins s σ0 H _ _ v u Q I rx ry ⟨z,i,c,rfl,rfl,hz,qa,ok _ H ρ .refl ab (by unfold Rep;rfl)⟩ hs
   ·rw [if_neg hz] at ok;exact ok.elim
theorem CW (ha:QE X EE a ma) (hb:QE X EE b mb) (hs:o6 b:=by intro _ _;rfl):QE X EE (.Subscript a b pos) (ak aQ ma mb):=OD Si j6 ha hb hs
def f6:DS→M (Option Int):=λ_=>M.ret Zl
def cz (m:DS→M D):DS→M (Option Int):=λτ=>(m τ).bind λd=>match d with
 | .int i=>M.ret (Zg i)
 | _=>M.stop
def VR (K:Zo) (mg:Str→Option Zj) (EE:bR) (H:Hp) (σ:L2.St) (τ:DS) (ρ:List Addr):Out (Option Int)→(Option Int→Hp→Prop)→Prop
 | .stuck,_=>False
 | .ok b G',Q=>∀ H' ρ',bX K H H' ρ ρ'→Ab K mg σ H' τ ρ' G'→Q b H'
 | .bq c G',_=>∀ H' ρ',bX K H H' ρ ρ'→Ab K mg σ H' τ ρ' G'→EE c σ H'
def OH (K:Zo) (mg:Str→Option Zj) (EE:bR) (m:DS→M (Option Int)):TO:=λσ H Q=>∃ τ ρ G,Ab K mg σ H τ ρ G∧VR K mg EE H σ τ ρ (m τ G) Q
def QO (X:Cx) (EE:bR) (e:Option Expr) (m:DS→M (Option Int)):Prop:=PO X e (OH X.K X.mg EE m)
theorem PO.mono {e:Option Expr} {t t':TO} (h:PO X e t) (i:∀ σ H Q,t' σ H Q→t σ H Q):PO X e t':=λpins s σ H Q I q=>h pins s σ H Q I (i _ _ _ q)
theorem GP:QO X EE Zl f6:=PO.mono Gs λσ H Q zz=>by obtain ⟨τ,ρ,G,ab,ok⟩:=zz;exact ok H ρ .refl ab
theorem GQ (ha:QE X EE a ma):QO X EE (Zg a) (cz ma):=PO.mono (Gu ha) λσ H Q zz=>by
 obtain ⟨τ,ρ,G,ab,ok⟩:=zz;refine ⟨τ,ρ,G,ab,?_⟩;dsimp only [cz,M.bind] at ok;cases e:ma τ G with
 | stuck=>rw [e] at ok;exact ok
 | bq c G'=>rw [e] at ok;exact ok
 | ok d G'=>
  rw [e] at ok;intro v H' ρ' f aV r;cases d<;>try exact ok.elim
  rename_i i;unfold Rep at r;exact ⟨i,r,ok H' ρ' f aV⟩
def cutD (xs:List D) (lo hi:Option Int):List D:=(xs.drop (HT.fC xs.length 0 lo)).take (HT.fC xs.length xs.length hi - HT.fC xs.length 0 lo)
def zu (d:D) (lo hi:Option Int):M D:=λG=>match aF G d with
 | some (.lst xs)=>aL (cutD xs lo hi) G
 | some (.tup xs)=>if HT.fC xs.length 0 lo=0∧HT.fC xs.length xs.length hi=xs.length then .stuck else bK (cutD xs lo hi) G
 | some (.str z)=>if z.length≤Zm then .ok (.str (acm z lo hi)) G else .stuck
 | none=>.stuck
def nj (m:DS→M D) (ml mh:DS→M (Option Int)):DS→M D:=λτ=>(m τ).bind λd=>(ml τ).bind λlo=>(mh τ).bind λhi=>zu d lo hi
def Sj (X:Cx) (EE:bR):V→Option Int→Option Int→Hp→VK→Prop:=λx lo hi H Q=>∃ σ τ ρ G d,Ab X.K X.mg σ H τ ρ G∧Rep X.K X.mg ρ H d x∧iP X.K X.mg EE H σ τ ρ (zu d lo hi G) Q
theorem vH (r:aq K mg ρ H ds vs) (lo hi:Option Int):aq K mg ρ H (cutD ds lo hi) (vj vs lo hi):=by unfold cutD vj;rw [r.length];exact (r.drop _).take _
theorem kH (x:Str) (l u:Option (Int×Tok)) (lo hi:Option Int) (hl:l.map (·.1)=lo) (hu:u.map (·.1)=hi) (t:Tok) (s:Zq) (Q:Zj→Zq→Prop) (hz:x.length≤Zm)
  (h:∀ t' k,Q (.str (acm x lo hi) t') {s with toks:=k}):(sliceMade x t l u Zl).post Q s:=by
 subst hl hu;cases l<;>cases u<;>exact post_val_or_str ⟨aal (Txt.slice_le x _ _) hz,λt' k=>h t' k⟩
theorem OI:Jx X (Sj X EE):=by
 intro pins s σ0 H x v vl vu lo hi sl Q I rx hs pl pu zu;obtain ⟨σ,τ,ρ,G,d,ab,r1,ok⟩:=zu;dsimp only [zu] at ok;cases q:aF G d with
 | none=>rw [q] at ok;exact ok.elim
 | some sk=>
  rw [q] at ok;cases sk with
  | lst ds=>obtain ⟨l,xs,rfl,sq,rs⟩:=bE (pins:=pins) (σ0:=σ0) (s:=s) ab.hp r1 q;exact Gx pins s σ0 H _ v vl vu lo hi sl Q I rx hs pl pu ⟨l,xs,rfl,sq,(lE ab (vH rs lo hi) ok).2⟩
  | tup ds=>
   obtain ⟨l,xs,rfl,sq,rs⟩:=iw r1 q;dsimp only at ok;by_cases hw:HT.fC ds.length 0 lo=0∧HT.fC ds.length ds.length hi=ds.length
   ·rw [if_pos hw] at ok;exact ok.elim
   ·rw [if_neg hw] at ok;refine Le pins s σ0 H _ v vl vu lo hi sl Q I rx hs pl pu ⟨l,xs,rfl,sq,?_,(pT ab (vH rs lo hi) ok).2⟩;rw [← rs.length];exact hw
  | str z=>
   obtain ⟨rfl,rfl⟩:=kG r1 q;dsimp only at ok;by_cases hz:z.length≤Zm
   ·rw [if_pos hz] at ok;obtain ⟨t,rfl⟩:=rx;refine ⟨"str",_,F.slot_str_getitem.lookup,typeIs_str _ _ _,?_⟩;obtain ⟨o,e1,e2,e3⟩:=hs;refine gS I.os.2 ?_;have fin:∀ t' k,0<k→EP X pins σ0 Q (.str (acm z lo hi) t') {s with toks:=k}:=λt' k ht=>⟨.str _,H,I.tok k,⟨t',rfl⟩,ok _ H ρ .refl ab (by unfold Rep;rfl)⟩;cases pl with
    | none=>
     cases pu with
     | none=>exact abL (l:=Zl) (u:=Zl) (st:=Zl) ⟨o,e1,e2,e3⟩ rfl (kH z Zl Zl Zl Zl rfl rfl t s _ hz fin)
     | int j tj=>exact abL (l:=Zl) (u:=Zg (j,tj)) (st:=Zl) ⟨o,e1,e2,e3⟩ rfl (kH z Zl (Zg (j,tj)) Zl (Zg j) rfl rfl t s _ hz fin)
    | int i ti=>
     cases pu with
     | none=>exact abL (l:=Zg (i,ti)) (u:=Zl) (st:=Zl) ⟨o,e1,e2,e3⟩ rfl (kH z (Zg (i,ti)) Zl (Zg i) Zl rfl rfl t s _ hz fin)
     | int j tj=>exact abL (l:=Zg (i,ti)) (u:=Zg (j,tj)) (st:=Zl) ⟨o,e1,e2,e3⟩ rfl (kH z (Zg (i,ti)) (Zg (j,tj)) (Zg i) (Zg j) rfl rfl t s _ hz fin)
   ·rw [if_neg hz] at ok;exact ok.elim
theorem CY {lo hi:Option Expr} (ha:QE X EE a ma) (hl:QO X EE lo ml) (hh:QO X EE hi mh):QE X EE (.Subscript a (.Slice lo hi Zl p2) pos) (nj ma ml mh):=
 PE.mono (CA OI ha hl hh) λσ H Q zz=>by
  obtain ⟨τ,ρ,G,ab,ok⟩:=zz;refine ⟨τ,ρ,G,ab,?_⟩;dsimp only [nj,M.bind] at ok;cases e1:ma τ G with
  | stuck=>rw [e1] at ok;exact ok
  | bq c G'=>rw [e1] at ok;exact ok
  | ok d G1=>
   rw [e1] at ok;dsimp only at ok;intro v H1 ρ1 f1 fD r1;refine ⟨τ,ρ1,G1,fD,?_⟩;cases e2:ml τ G1 with
   | stuck=>rw [e2] at ok;exact ok
   | bq c G'=>rw [e2] at ok;exact λH' ρ' f'=>ok H' ρ' (f1.trans f')
   | ok l G2=>
    rw [e2] at ok;dsimp only at ok;intro H2 ρ2 f2 bA;refine ⟨τ,ρ2,G2,bA,?_⟩;cases e3:mh τ G2 with
    | stuck=>rw [e3] at ok;exact ok
    | bq c G'=>rw [e3] at ok;exact λH' ρ' f'=>ok H' ρ' ((f1.trans f2).trans f')
    | ok u G3=>rw [e3] at ok;dsimp only at ok;intro H3 ρ3 f3 oG;exact ⟨σ,τ,ρ3,G3,d,oG,r1.mono (f2.trans f3),ok.fut ((f1.trans f2).trans f3)⟩
def iQ (ma mb:DS→M Bool):DS→M Bool:=λτ=>(ma τ).bind λc=>if c then mb τ else M.ret Zk
def AB (ma mb:DS→M Bool):DS→M Bool:=λτ=>(ma τ).bind λc=>if c then M.ret Zh else mb τ
def zv (ma:DS→M Bool):DS→M Bool:=λτ=>(ma τ).bind λc=>M.ret (!c)
variable {ta tb tc:DS→M Bool} {rest:List Expr}
theorem CZ {Q:Bool→Hp→Prop} (h:liftT X.K X.mg EE (iQ ta tb) σ H Q):NU (liftT X.K X.mg EE ta) (liftT X.K X.mg EE tb) σ H Q:=by
 obtain ⟨τ,ρ,G,ab,ok⟩:=yf (k:=λτ c=>if c then tb τ else M.ret Zk) h;refine ⟨τ,ρ,G,ab,?_⟩;cases e:ta τ G with
 | stuck=>rw [e] at ok;exact ok
 | bq c G'=>rw [e] at ok;exact ok
 | ok k G'=>
  rw [e] at ok;intro H' ρ' f' aV;obtain ⟨τ2,ρ2,G2,bA,aI⟩:=ok H' ρ' f' aV;cases k with
  | true=>exact ⟨τ2,ρ2,G2,bA,aI⟩
  | false=>exact aI H' ρ2 .refl bA
theorem GR {Q:Bool→Hp→Prop} (h:liftT X.K X.mg EE (AB ta tb) σ H Q):Uv (liftT X.K X.mg EE ta) (liftT X.K X.mg EE tb) σ H Q:=by
 obtain ⟨τ,ρ,G,ab,ok⟩:=yf (k:=λτ c=>if c then M.ret Zh else tb τ) h;refine ⟨τ,ρ,G,ab,?_⟩;cases e:ta τ G with
 | stuck=>rw [e] at ok;exact ok
 | bq c G'=>rw [e] at ok;exact ok
 | ok k G'=>
  rw [e] at ok;intro H' ρ' f' aV;obtain ⟨τ2,ρ2,G2,bA,aI⟩:=ok H' ρ' f' aV;cases k with
  | false=>exact ⟨τ2,ρ2,G2,bA,aI⟩
  | true=>exact aI H' ρ2 .refl bA
theorem PW.mono {t t':TT} (h:PW X e t) (i:∀ σ H Q,t' σ H Q→t σ H Q):PW X e t':=λwh pins s σ H Q I q=>h wh pins s σ H Q I (i _ _ _ q)
theorem GS (ha:QT X EE a ta):QW X EE (.BoolOp .And [a] pos) ta:=F5 ha
theorem LI (ha:QT X EE a ta):QW X EE (.BoolOp .Or [a] pos) ta:=Ks ha
theorem LJ (ha:QT X EE a ta) (hb:QW X EE (.BoolOp .And (b::rest) pos) tb):QW X EE (.BoolOp .And (a::b::rest) pos) (iQ ta tb):=PW.mono (Ku ha hb) λ_ _ _ h=>CZ h
theorem OJ (ha:QT X EE a ta) (hb:QW X EE (.BoolOp .Or (b::rest) pos) tb):QW X EE (.BoolOp .Or (a::b::rest) pos) (AB ta tb):=PW.mono (NV ha hb) λ_ _ _ h=>GR h
theorem Sk (h:QW X EE e ta):QT X EE e ta:=h.pt
theorem LK (ha:QT X EE a ta):QT X EE (.UnaryOp .Not a pos) (zv ta):=PT.mono (Kv ha) λσ H Q h=>by
 obtain ⟨τ,ρ,G,ab,ok⟩:=yf (k:=λτ c=>M.ret (!c)) h;refine ⟨τ,ρ,G,ab,?_⟩;cases e:ta τ G with
 | stuck=>rw [e] at ok;exact ok
 | bq c G'=>rw [e] at ok;exact ok
 | ok k G'=>rw [e] at ok;intro H' ρ' f' aV;obtain ⟨τ2,ρ2,G2,bA,aI⟩:=ok H' ρ' f' aV;exact aI H' ρ2 .refl bA
def eU (m:DS→M D):DS→M Bool:=λτ=>(m τ).bind λd=>match d with
 | .bl b=>M.ret b
 | _=>M.stop
theorem GU {Q:Bool→Hp→Prop} (h:liftT X.K X.mg EE (eU m) σ H Q):bh X.K X.mg EE m σ H λx H1=>∃ c,x=.bl c∧Q c H1:=by
 obtain ⟨τ,ρ,G,ab,ok⟩:=CL (k:=λ_ d=>match d with | .bl b=>M.ret b | _=>M.stop) h;refine ⟨τ,ρ,G,ab,?_⟩;cases e:m τ G with
 | stuck=>rw [e] at ok;exact ok
 | bq c G'=>rw [e] at ok;exact ok
 | ok d G'=>
  rw [e] at ok;intro v H' ρ' f' aV r';obtain ⟨τ2,ρ2,G2,d2,bA,r2,aI⟩:=ok v H' ρ' f' aV r';cases d2<;>try exact aI.elim
  rename_i k;unfold Rep at r2;exact ⟨k,r2,aI H' ρ2 .refl bA⟩
theorem LM (ho:iu X (compareOp op) (rD X EE f)) (ha:QE X EE a ma) (hb:QE X EE b mb) (hm:behindInMarks op b=Zk):QT X EE (.Compare a [op] [b] pos) (eU (ak f ma mb)):=
 PT.mono (Gg ho ha hb hm) λσ H Q h=>by have h1:=GU h;exact o8 j6 h1
theorem zw {g:Zj→Zj→Sem Zj} {r:R2} (ho:iu X g r) (hd:CP X EE r f):iu X g (rD X EE f):=λpins s σ H x y v u Q I rx ry q=>ho pins s σ H x y v u Q I rx ry (OF hd q)
theorem LN:iu X (compareOp .Lt) (rD X EE FQ):=zw Oa (gC λ_ _ _ _=>by unfold Rep;rfl)
theorem LO:iu X (compareOp .Gt) (rD X EE vC):=zw Jw (gC λ_ _ _ _=>by unfold Rep;rfl)
theorem LP:iu X (compareOp .GtE) (rD X EE GK):=zw Ob (gC λ_ _ _ _=>by unfold Rep;rfl)
theorem C8:iu X (compareOp .IsNot) (rD X EE (pU Zh)):=zw Ge λσ H τ ρ G x y d e Q ab r1 r2 ok=>by
 cases e with
 | cy=>unfold Rep at r2;refine ⟨r2,?_⟩;rw [GO r1];cases d<;>exact ok _ H ρ .refl ab (by unfold Rep;rfl)
 | _=>exact ok.elim
def VS (t:DS→M Bool) (ma mb:DS→M D):DS→M D:=λτ=>(t τ).bind λc=>if c then ma τ else mb τ
def yg (ma mb:DS→M D):DS→M D:=λτ=>(ma τ).bind λd=>match d with
 | .bl Zh=>mb τ
 | .bl Zk=>M.ret (.bl Zk)
 | _=>M.stop
def Nu (ma mb:DS→M D):DS→M D:=λτ=>(ma τ).bind λd=>match d with
 | .bl Zk=>mb τ
 | .bl Zh=>M.ret (.bl Zh)
 | _=>M.stop
def GV (ma:DS→M D):DS→M D:=λτ=>(ma τ).bind λd=>match d with
 | .bl b=>M.ret (.bl (!b))
 | _=>M.stop
theorem LQ {op} (h:QE X EE a ma):QE X EE (.BoolOp op [a] pos) ma:=Kw h
theorem LR (ha:QE X EE a ma) (hb:QE X EE (.BoolOp .And (b::rest) pos) mb):QE X EE (.BoolOp .And (a::b::rest) pos) (yg ma mb):=PE.mono (Ky ha hb) λσ H Q h=>by
 obtain ⟨τ,ρ,G,ab,ok⟩:=jw (k:=λτ d=>match d with | .bl Zh=>mb τ | .bl Zk=>M.ret (.bl Zk) | _=>M.stop) h;refine ⟨τ,ρ,G,ab,?_⟩;cases e:ma τ G with
 | stuck=>rw [e] at ok;exact ok
 | bq c G'=>rw [e] at ok;exact ok
 | ok k G'=>
  rw [e] at ok;intro v H' ρ' f' aV r';obtain ⟨τ2,ρ2,G2,d2,bA,r2,aI⟩:=ok v H' ρ' f' aV r';cases d2<;>try exact aI.elim
  rename_i k;unfold Rep at r2;refine ⟨k,r2,?_⟩;cases k with
  | true=>exact ⟨τ2,ρ2,G2,bA,aI⟩
  | false=>exact aI _ H' ρ2 .refl bA (by unfold Rep;rfl)
theorem OL (ha:QE X EE a ma) (hb:QE X EE (.BoolOp .Or (b::rest) pos) mb):QE X EE (.BoolOp .Or (a::b::rest) pos) (Nu ma mb):=PE.mono (NY ha hb) λσ H Q h=>by
 obtain ⟨τ,ρ,G,ab,ok⟩:=jw (k:=λτ d=>match d with | .bl Zk=>mb τ | .bl Zh=>M.ret (.bl Zh) | _=>M.stop) h;refine ⟨τ,ρ,G,ab,?_⟩;cases e:ma τ G with
 | stuck=>rw [e] at ok;exact ok
 | bq c G'=>rw [e] at ok;exact ok
 | ok k G'=>
  rw [e] at ok;intro v H' ρ' f' aV r';obtain ⟨τ2,ρ2,G2,d2,bA,r2,aI⟩:=ok v H' ρ' f' aV r';cases d2<;>try exact aI.elim
  rename_i k;unfold Rep at r2;refine ⟨k,r2,?_⟩;cases k with
  | false=>exact ⟨τ2,ρ2,G2,bA,aI⟩
  | true=>exact aI _ H' ρ2 .refl bA (by unfold Rep;rfl)
theorem LS (ha:QE X EE a ma):QE X EE (.UnaryOp .Not a pos) (GV ma):=PE.mono (Kz ha) λσ H Q h=>by
 obtain ⟨τ,ρ,G,ab,ok⟩:=jw (k:=λτ d=>match d with | .bl b=>M.ret (.bl (!b)) | _=>M.stop) h;refine ⟨τ,ρ,G,ab,?_⟩;cases e:ma τ G with
 | stuck=>rw [e] at ok;exact ok
 | bq c G'=>rw [e] at ok;exact ok
 | ok k G'=>
  rw [e] at ok;intro v H' ρ' f' aV r';obtain ⟨τ2,ρ2,G2,d2,bA,r2,aI⟩:=ok v H' ρ' f' aV r';cases d2<;>try exact aI.elim
  rename_i k;unfold Rep at r2;exact ⟨k,r2,aI _ H' ρ2 .refl bA (by unfold Rep;rfl)⟩
def vI (ma:DS→M D):DS→M D:=λτ=>(ma τ).bind λd=>match d with
 | .int i=>M.ret (.int (-i))
 | _=>M.stop
theorem LU (ha:QE X EE a ma):QE X EE (.UnaryOp .USub a pos) (vI ma):=PE.mono (N8 K2 ha) λσ H Q h=>by
 obtain ⟨τ,ρ,G,ab,ok⟩:=jw (k:=λτ d=>match d with | .int i=>M.ret (.int (-i)) | _=>M.stop) h;refine ⟨τ,ρ,G,ab,?_⟩;cases e:ma τ G with
 | stuck=>rw [e] at ok;exact ok
 | bq c G'=>rw [e] at ok;exact ok
 | ok k G'=>
  rw [e] at ok;intro v H' ρ' f' aV r';obtain ⟨τ2,ρ2,G2,d2,bA,r2,aI⟩:=ok v H' ρ' f' aV r';cases d2<;>try exact aI.elim
  rename_i k;unfold Rep at r2;exact ⟨k,r2,aI _ H' ρ2 .refl bA (by unfold Rep;rfl)⟩
end
section
variable {X:Cx} {EE:bR} {a b c:Expr} {ma mb mc:DS→M D} {pos:Pos} {ta tb tc:DS→M Bool} {ms mt:MS}
def aZ:MS:=λτ G=>.nx τ G
def ay (m k:MS):MS:=λτ G=>match m τ G with
 | .nx τ' G'=>k τ' G'
 | r=>r
theorem GW:qY X EE [] aZ:=xK.mono F6 λD σ H zz=>by obtain ⟨τ,ρ,G,ab,ok⟩:=zz;exact ok σ H ρ .refl ab
theorem vJ (h:gB X.K X.mg EE (ay ms mt) Dd σ H):N1 (gB X.K X.mg EE ms) (gB X.K X.mg EE mt) Dd σ H:=by
 obtain ⟨τ,ρ,G,ab,ok⟩:=h;refine ⟨τ,ρ,G,ab,?_⟩;dsimp only [ay] at ok;cases e:ms τ G with
 | nx τ' G'=>rw [e] at ok;exact λσ' H' ρ' f aV=>⟨τ',ρ',G',aV,ok.fut f⟩
 | stuck=>rw [e] at ok;exact ok
 | rt d G=>rw [e] at ok;exact ok
 | bk τ G=>rw [e] at ok;exact ok
 | ct τ G=>rw [e] at ok;exact ok
 | xn c τ G=>rw [e] at ok;exact ok
theorem C9 {st:Stmt} {rest:List Stmt} (h1:QS X EE st ms) (h2:qY X EE rest mt):qY X EE (st::rest) (ay ms mt):=xK.mono (Cj h1 h2) λ_ _ _ h=>vJ h
theorem GX {st:Stmt} (h1:QS X EE st ms):qY X EE [st] ms:=F7 h1
def iB (m:DS→M D):MS:=λτ=>bz (m τ) (λ_ G=>.nx τ G) λc G=>.xn c τ G
def bB (m:DS→M D):MS:=λτ=>bz (m τ) (λd G=>.rt d G) λc G=>.xn c τ G
def OM:MS:=λ_ G=>.rt .cy G
def aH (i:Nat) (m:DS→M D):MS:=λτ=>bz (m τ) (λd G=>.nx (τ.set i (Zg d)) G) λc G=>.xn c τ G
def gJ (t:DS→M Bool) (ma mb:MS):MS:=λτ=>bz (t τ) (λc G=>if c then ma τ G else mb τ G) λc G=>.xn c τ G
theorem GY (he:QE X EE a ma) (hs:swapsWith a Zl pos.line X.env=pure Zk:=by rfl):QS X EE (.Expr a pos) (iB ma):=PS.mono (F8 he hs) λD σ H h=>by
 obtain ⟨τ,ρ,G,ab,ok⟩:=lC (k:=λτ d G=>.nx τ G) h;refine ⟨τ,ρ,G,ab,?_⟩;cases e:ma τ G with
 | stuck=>rw [e] at ok;exact ok
 | bq c G'=>rw [e] at ok;exact ok
 | ok d G'=>rw [e] at ok;intro v H' ρ' f' aV r';obtain ⟨τ2,ρ2,G2,d2,bA,r2,aI⟩:=ok v H' ρ' f' aV r';exact aI σ H' ρ2 .refl bA
theorem LV (he:QE X EE a ma):QS X EE (.Return (Zg a) pos) (bB ma):=PS.mono (KA he) λD σ H h=>by
 obtain ⟨τ,ρ,G,ab,ok⟩:=lC (k:=λτ d G=>.rt d G) h;refine ⟨τ,ρ,G,ab,?_⟩;cases e:ma τ G with
 | stuck=>rw [e] at ok;exact ok
 | bq c G'=>rw [e] at ok;exact ok
 | ok d G'=>rw [e] at ok;intro v H' ρ' f' aV r';obtain ⟨τ2,ρ2,G2,d2,bA,r2,aI⟩:=ok v H' ρ' f' aV r';exact aI v H' ρ2 .refl bA.hp r2
theorem Ab.set (ab:Ab K mg σ H τ ρ G) (r:Rep K mg ρ H d v):Ab K mg (σ.set i (Zg v)) H (τ.set i (Zg d)) ρ G:=⟨ab.st.set r,ab.hp⟩
theorem LW {pos':Pos} (hN:X.N.Nodup) (he:QE X EE a ma) (hi:X.N[i]?=Zg x:=by rfl) (hx:Loc X.env.scope x:=by first | exact Or.inl rfl | exact ae8 rfl)
  (hs:swapsWith a (Zg (.Name x pos')) pos.line X.env=pure Zk:=by rfl) (hf:X.fn x=Zh∨X.env.scope.names.lookup x=Zg .local:=by first | exact .inl rfl | exact .inr rfl | assumption) :
  QS X EE (.Assign [.Name x pos'] a pos) (aH i ma):=PS.mono (KH hN hi hx he hs hf) λD σ H h=>by
 obtain ⟨τ,ρ,G,ab,ok⟩:=lC (k:=λτ d G=>.nx (τ.set i (Zg d)) G) h;refine ⟨τ,ρ,G,ab,?_⟩;cases e:ma τ G with
 | stuck=>rw [e] at ok;exact ok
 | bq c G'=>rw [e] at ok;exact ok
 | ok d G'=>rw [e] at ok;intro v H' ρ' f' aV r';obtain ⟨τ2,ρ2,G2,d2,bA,r2,aI⟩:=ok v H' ρ' f' aV r';exact aI _ H' ρ2 .refl (bA.set r2)
theorem ON (hc:QT X EE c tc) (ha:qY X EE body ms) (hb:qY X EE els mt):QS X EE (.If c body els pos) (gJ tc ms mt):=PS.mono (N3 hc ha hb) λD σ H h=>by
 obtain ⟨τ,ρ,G,ab,ok⟩:=CN (k:=λτ c G=>if c then ms τ G else mt τ G) h;refine ⟨τ,ρ,G,ab,?_⟩;cases e:tc τ G with
 | stuck=>rw [e] at ok;exact ok
 | bq c G'=>rw [e] at ok;exact ok
 | ok k G'=>
  rw [e] at ok;intro H' ρ' f' aV;obtain ⟨τ2,ρ2,G2,bA,aI⟩:=ok H' ρ' f' aV;cases k with
  | true=>exact ⟨τ2,ρ2,G2,bA,aI⟩
  | false=>exact ⟨τ2,ρ2,G2,bA,aI⟩
abbrev jB:=D→DS→Option DS
def vK (K:Zo) (mg:Str→Option Zj) (g:jB):TG:=λv σ H Q=>∃ τ ρ G d τ',Ab K mg σ H τ ρ G∧Rep K mg ρ H d v∧g d τ=Zg τ'∧∀ σ',Ab K mg σ' H τ' ρ G→Q σ' H
def QG (X:Cx) (e:Expr) (g:jB):Prop:=PG X e (vK X.K X.mg g)
def gN (i:Nat):jB:=λd τ=>Zg (τ.set i (Zg d))
theorem G5 (hN:X.N.Nodup) (hi:X.N[i]?=Zg x:=by rfl) (hx:Loc X.env.scope x:=by first | exact Or.inl rfl | exact ae8 rfl) (hf:X.fn x=Zh∨X.env.scope.names.lookup x=Zg .local:=by first | exact .inl rfl | exact .inr rfl | assumption) :
  QG X (.Name x pos) (gN i):=λpins s σ H v u Q I r ⟨τ,ρ,G,d,τ',ab,rd,e,q⟩=>gy hN hi hx hf pins s σ H v u Q I r (by
 cases e;exact q _ (ab.set rd))
def bY (g:jB) (body:MS):List D→MS
 | [],τ,G=>.nx τ G
 | d::r,τ,G=>match g d τ with
  | none=>.stuck
  | some τ1=>match body τ1 G with
   | .nx τ' G'=>bY g body r τ' G'
   | .ct τ' G'=>bY g body r τ' G'
   | .bk τ' G'=>.nx τ' G'
   | x=>x
def t6 (g:jB) (body:MS) (n:Nat):Nat→Nat→MS
 | 0,_,_,_=>.stuck
 | f+1,k,τ,G=>match G[n]? with
  | some (.lst xs)=>match xs[k]? with
   | none=>.nx τ G
   | some d=>match g d τ with
    | none=>.stuck
    | some τ1=>match body τ1 G with
     | .nx τ' G'=>t6 g body n f (k+1) τ' G'
     | .ct τ' G'=>t6 g body n f (k+1) τ' G'
     | .bk τ' G'=>.nx τ' G'
     | x=>x
  | _=>.stuck
end
variable {g:jB}
def G6 (z:Str):It:=⟨λi _=>i<z.cps.size,λi H x H'=>H'=H∧∃ c,z.cps[i]?=Zg c∧x=.str ⟨#[c]⟩,λi _=>z.cps.size≤i⟩
theorem Dc (z:Str) (t:Tok) (it:Addr):Turn P w K tg (G6 z) [it] it (λi h=>h.IsStrIter it (strIterType z) z t i) where
 mem:=by simp
 obj:=λi h st b hb=>by
  have e:b=it:=by simpa using hb
  subst e;obtain ⟨o,e,c,d⟩:=st;exact ⟨o,e,λv z=>by rw [d] at z;cases z⟩
 keep:=λi h h' st k=>by obtain ⟨o,e,r⟩:=st;exact ⟨o,k it (by simp) o e,r⟩
 item:=by
  intro X hP hw hK hc i pins s σ H E I hf st hg;subst hP hw hK;obtain ⟨f0,f1,f2,f3,f4,f5⟩:=hf it (by simp);have hx:z.cps[i]?=Zg z.cps[i]:=ab8 hg
  have fin:∀ h',h'.IsStrIter it (strIterType z) z t (i+1)→abc it s.heap h'→∃ u,Zg (Value.str ⟨#[z.cps[i]]⟩ s.toks)=Zg u ∧
   ZD (model X.prog X.w) X.A (letOwnedTupleGo tg (.ref it) u) (λ_ s2=>∃ x H',Inv X pins σ H' s2∧RelV x u∧(G6 z).rQ i H x H'∧s2.heap.IsStrIter it (strIterType z) z t (i+1)∧∀ b∈[it],H' b=Zl) E {s with heap:=h',toks:=s.toks+1}:=λh' st' sb=>by
   have I1:Inv X pins σ H {s with heap:=h',toks:=s.toks+1}:=I.turned (t':=s.toks+1) (λb o hb e=>(sb.2 b hb).trans e) f0 f1 f3 f4 f5;obtain ⟨o,e,c,d⟩:=id st';refine ⟨_,rfl,pI (s:={s with heap:=h',toks:=s.toks+1}) e c d ?_ ⟨.str ⟨#[z.cps[i]]⟩,H,I1,⟨_,rfl⟩,⟨rfl,_,hx,rfl⟩,st',λb hb=>(hf b hb).1⟩⟩;unfold strIterType;split<;>decide
  cases ha:z.cps.all (·<128) with
  | true=>
   have e:strIterType z="str_ascii_iterator":=by unfold strIterType;rw [ha];rfl
   rw [e] at st fin;exact wpAny_pyNext_ascii_item st hx λh' st' sb=>by rw [e];exact fin h' st' sb
  | false=>
   have e:strIterType z="str_iterator":=by unfold strIterType;rw [ha];rfl
   rw [e] at st fin;exact wpAny_pyNext_wide_item st hx λh' st' sb=>by rw [e];exact fin h' st' sb
 done:=by
  intro X hP hw hK hc i pins s σ H E I hf st hg;subst hP hw hK;obtain ⟨f0,f1,f2,f3,f4,f5⟩:=hf it (by simp);have hx:z.cps[i]?=Zl:=abP hg;have fin:∀ h',adX it s.heap h'→(Zl:Option Zj)=Zl∧Inv X pins σ H {s with heap:=h'}:=λh' eb=>⟨rfl,I.turned (t':=s.toks) (λb o hb e=>eb b o hb e) f0 f1 f3 f4 f5⟩;cases ha:z.cps.all (·<128) with
  | true=>
   have e:strIterType z="str_ascii_iterator":=by unfold strIterType;rw [ha];rfl
   rw [e] at st;exact wpAny_pyNext_ascii_end (I.ok.hd hc) st hx fin
  | false=>
   have e:strIterType z="str_iterator":=by unfold strIterType;rw [ha];rfl
   rw [e] at st;exact wpAny_pyNext_wide_end (I.ok.hd hc) st hx fin
 self:=λA i s Q E st h=>by
  cases ha:z.cps.all (·<128) with
  | true=>
   have e:strIterType z="str_ascii_iterator":=by unfold strIterType;rw [ha];rfl
   rw [e] at st;exact wpAny_pyIter_striter_ascii st h
  | false=>
   have e:strIterType z="str_iterator":=by unfold strIterType;rw [ha];rfl
   rw [e] at st;exact wpAny_pyIter_striter_wide st h
section
variable {X:Cx} {EE:bR} {a b c tg:Expr} {ma mb mc:DS→M D} {pos:Pos} {ms mt:MS}
def nk (g:jB) (m:DS→M D) (body:MS):MS:=λτ=>bz (m τ) (λd G=>match d with
 | .obj n=>match G[n]? with
  | some (.lst xs)=>t6 g body n (xs.length+1) 0 τ G
  | _=>.stuck
 | .tup xs=>bY g body xs τ G
 | .con xs=>bY g body xs τ G
 | .str z=>bY g body (z.cps.toList.map λc=>.str ⟨#[c]⟩) τ G
 | _=>.stuck) λc G=>.xn c τ G
theorem kI {g:jB} {body:MS} {Dd:Ends} {J:It} {H0:Hp} {σ0:L2.St} {ρ0:List Addr} {G0:DH} {τ0:DS} (ds:List D)
  (go:∀ i H ρ,i<ds.length→bX X.K H0 H ρ0 ρ→J.go i H) (stop:∀ i H ρ,ds.length≤i→bX X.K H0 H ρ0 ρ→J.stop i H)
  (rQ:∀ i d H ρ x H',ds[i]?=Zg d→bX X.K H0 H ρ0 ρ→J.rQ i H x H'→H'=H∧Rep X.K X.mg ρ H d x)
  (ab:Ab X.K X.mg σ0 H0 τ0 ρ0 G0) (ok:qX X.K X.mg EE H0 ρ0 Dd (bY g body ds τ0 G0)) :
  ∃ W:Nat→Nat→L2.St→Hp→Prop,(∃ m,W 0 m σ0 H0)∧∀ i m σ H,W i m σ H →
   (J.stop i H∧Dd.nx σ H)∨(J.go i H∧∃ N:L2.St→Hp→Prop,(∀ σ' H',N σ' H'→∃ m',m'<m∧W (i+1) m' σ' H')∧∀ x H',J.rQ i H x H'→vK X.K X.mg g x σ H' λσ2 H2=>gB X.K X.mg EE body {Dd with nx:=N,ct:=N,bk:=Dd.nx} σ2 H2):=by
 refine ⟨λi m σ H=>i≤ds.length∧m=ds.length - i∧∃ τ ρ G,Ab X.K X.mg σ H τ ρ G∧bX X.K H0 H ρ0 ρ∧qX X.K X.mg EE H ρ Dd (bY g body (ds.drop i) τ G),⟨ds.length,abe _,rfl,τ0,ρ0,G0,ab,.refl,by simpa using ok⟩,?_⟩;rintro i m σ H ⟨hi,rfl,τ,ρ,G,ab,f,ok⟩;by_cases hlt:i<ds.length
 ·refine .inr ⟨go i H ρ hlt f,λσ' H'=>∃ τ' ρ' G',Ab X.K X.mg σ' H' τ' ρ' G'∧bX X.K H0 H' ρ0 ρ'∧qX X.K X.mg EE H' ρ' Dd (bY g body (ds.drop (i+1)) τ' G'),λσ' H' n=>⟨ds.length - (i+1),by nofun,hlt,rfl,n⟩,λx H' y=>?_⟩;obtain ⟨rfl,rx⟩:=rQ i ds[i] H ρ x H' (Zr hlt) f y;rw [abq hlt] at ok;unfold bY at ok;cases e:g ds[i] τ with
  | none=>rw [e] at ok;exact ok.elim
  | some τ1=>
   rw [e] at ok;dsimp only at ok;refine ⟨τ,ρ,G,ds[i],τ1,ab,rx,e,λσ' aV=>⟨τ1,ρ,G,aV,?_⟩⟩;cases eb:body τ1 G with
   | stuck=>rw [eb] at ok;exact ok
   | nx τ2 G2=>rw [eb] at ok;exact λσ2 H2 ρ2 f2 bA=>⟨τ2,ρ2,G2,bA,f.trans f2,ok.fut f2⟩
   | ct τ2 G2=>rw [eb] at ok;exact λσ2 H2 ρ2 f2 bA=>⟨τ2,ρ2,G2,bA,f.trans f2,ok.fut f2⟩
   | bk τ2 G2=>rw [eb] at ok;exact ok
   | rt d G2=>rw [eb] at ok;exact ok
   | xn c τ2 G2=>rw [eb] at ok;exact ok
 ·have e:i=ds.length:=by nofun
  subst e;refine .inl ⟨stop _ H ρ (Zs _) f,?_⟩;rw [abQ (Zs _)] at ok;exact ok σ H ρ .refl ab
theorem G7 {g:jB} {body:MS} {Dd:Ends} {H0:Hp} {σ0:L2.St} {G0:DH} {τ0:DS} {fuel:Nat} (hn:ρ0[n]?=Zg p)
  (ab:Ab X.K X.mg σ0 H0 τ0 ρ0 G0) (ok:qX X.K X.mg EE H0 ρ0 Dd (t6 g body n fuel 0 τ0 G0)) :
  ∃ W:Nat→Nat→L2.St→Hp→Prop,(∃ m,W 0 m σ0 H0)∧∀ i m σ H,W i m σ H →
   ((FO X.K p).stop i H∧Dd.nx σ H)∨((FO X.K p).go i H∧∃ N:L2.St→Hp→Prop,(∀ σ' H',N σ' H'→∃ m',m'<m∧W (i+1) m' σ' H')∧∀ x H',(FO X.K p).rQ i H x H'→vK X.K X.mg g x σ H' λσ2 H2=>gB X.K X.mg EE body {Dd with nx:=N,ct:=N,bk:=Dd.nx} σ2 H2):=by
 refine ⟨λi m σ H=>∃ τ ρ G,Ab X.K X.mg σ H τ ρ G∧bX X.K H0 H ρ0 ρ∧qX X.K X.mg EE H ρ Dd (t6 g body n m i τ G),⟨fuel,τ0,ρ0,G0,ab,.refl,ok⟩,?_⟩;rintro i m σ H ⟨τ,ρ,G,ab,f,ok⟩;cases m with
 | zero=>exact ok.elim
 | succ m=>
  unfold t6 at ok;cases q:G[n]? with
  | none=>rw [q] at ok;exact ok.elim
  | some o=>
   cases o with
   | lst ds=>
    rw [q] at ok;dsimp only at ok;obtain ⟨p',xs,e1,e2,rs⟩:=ab.hp.lst q;rw [f.get hn] at e1;cases e1;cases qd:ds[i]? with
    | none=>
     rw [qd] at ok;have hl:xs.length≤i:=by rw [← rs.length];exact aaq.mp qd
     exact .inl ⟨⟨xs,.of e2,hl⟩,ok σ H ρ .refl ab⟩
    | some d=>
     rw [qd] at ok;dsimp only at ok;obtain ⟨x0,ex,rx⟩:=rs.get qd;refine .inr ⟨⟨xs,x0,.of e2,ex⟩,λσ' H'=>∃ τ' ρ' G',Ab X.K X.mg σ' H' τ' ρ' G'∧bX X.K H0 H' ρ0 ρ'∧qX X.K X.mg EE H' ρ' Dd (t6 g body n m (i+1) τ' G'),λσ' H' z=>⟨m,aaB _,z⟩,λx H' y=>?_⟩;obtain ⟨rfl,y⟩:=y;have e3:=y xs (.of e2);rw [ex] at e3;cases e3;cases e:g d τ with
     | none=>rw [e] at ok;exact ok.elim
     | some τ1=>
      rw [e] at ok;dsimp only at ok;refine ⟨τ,ρ,G,d,τ1,ab,rx,e,λσ' aV=>⟨τ1,ρ,G,aV,?_⟩⟩;cases eb:body τ1 G with
      | stuck=>rw [eb] at ok;exact ok
      | nx τ2 G2=>rw [eb] at ok;exact λσ2 H2 ρ2 f2 bA=>⟨τ2,ρ2,G2,bA,f.trans f2,ok.fut f2⟩
      | ct τ2 G2=>rw [eb] at ok;exact λσ2 H2 ρ2 f2 bA=>⟨τ2,ρ2,G2,bA,f.trans f2,ok.fut f2⟩
      | bk τ2 G2=>rw [eb] at ok;exact ok
      | rt d G2=>rw [eb] at ok;exact ok
      | xn c τ2 G2=>rw [eb] at ok;exact ok
   | _=>first | (rw [q] at ok;exact ok.elim) | (rw [q] at aI;exact aI.elim) | (rw [q] at e;cases e;done) | (rw [g] at ok;exact ok.elim) | (rw [g] at q;cases q;done) | (rw [g] at h;cases h;done) | (rw [g2] at ok;exact ok.elim) | (rw [g1,g2] at ok;exact ok.elim) | (rw [q1] at ok;exact ok.elim) | exact ok.elim
theorem PI.any {l:Expr} {tl:TE} (hl:PE X l tl):PI X tg l (λσ H R=>tl σ H λx H1=>(∃ p,x=.ref p∧(∃ xs,kE X.K H1 p xs)∧R (FO X.K p) H1)∨(∃ p,x=.ref p∧(∃ xs,lq X.K H1 p xs)∧R (QJ X.K p) H1)∨∃ z,x=.str z∧R (G6 z) H1):=by
 intro pins s σ H R I h;refine cO (hl pins s σ H _ I h) λu s1 zz=>?_;obtain ⟨x,H1,I1,r1,q⟩:=zz;rcases q with ⟨p,rfl,⟨xs,sq⟩,q⟩ | ⟨p,rfl,⟨xs,sq⟩,q⟩ | ⟨z,rfl,q⟩
 ·cases r1;obtain ⟨its,rv,pl,hz⟩:=I1.list sq;refine acs pl.isList ?_;have I2:Inv X pins σ H1 {s1 with heap:=s1.heap.push {cls:=.type "list_iterator",data:=.fields #[.ref p,.int 0 0]}}:=I1.kept (t':=s1.toks) λb o e=>Zn _ e;refine ⟨s1.heap.objs.size,[s1.heap.objs.size],_,FO X.K p,H1,rfl,I2,Ak p _,⟨_,Zv _ rfl,rfl,rfl⟩,λb hb=>?_,q⟩;have e:b=s1.heap.objs.size:=by simpa using hb
  subst e;exact I1.lX (Zs _) (I1.hok.fresh (Zs _))
 ·cases r1;obtain ⟨its,rv,pl,hz⟩:=I1.tuple sq;refine aci pl ?_;have I2:Inv X pins σ H1 {s1 with heap:=s1.heap.push {cls:=.type "tuple_iterator",data:=.fields #[.ref p,.int 0 0]}}:=I1.kept (t':=s1.toks) λb o e=>Zn _ e;refine ⟨s1.heap.objs.size,[s1.heap.objs.size],_,QJ X.K p,H1,rfl,I2,xO p _,⟨_,Zv _ rfl,rfl,rfl⟩,λb hb=>?_,q⟩;have e:b=s1.heap.objs.size:=by simpa using hb
  subst e;exact I1.lX (Zs _) (I1.hok.fresh (Zs _))
 ·obtain ⟨t,rfl⟩:=r1;refine wpAny_pyIter_strU ?_;have I2:Inv X pins σ H1 {s1 with heap:=s1.heap.push {cls:=.type (strIterType z),data:=.fields #[.str z t,.int 0 0]}}:=I1.kept (t':=s1.toks) λb o e=>Zn _ e;refine ⟨s1.heap.objs.size,[s1.heap.objs.size],_,G6 z,H1,rfl,I2,Dc z t _,⟨_,Zv _ rfl,rfl,rfl⟩,λb hb=>?_,q⟩;have e:b=s1.heap.objs.size:=by simpa using hb
  subst e;exact I1.lX (Zs _) (I1.hok.fresh (Zs _))
theorem LX (hp:PassesOwn (model X.prog X.w) X.A X.env X.xe) (hc:X.calm=Zh) (ha:QE X EE a ma) (hg:QG X tg g) (hb:qY X EE body ms) (hs:∀ x,foldedSetIterable a X.env x=pure x:=by intro _;rfl) :
  QS X EE (.For tg a body [] pos) (nk g ma ms):=PS.mono (xQ hp hc (PI.any ha) hg hb hs) λDd σ H h=>by
 obtain ⟨τ,ρ,G,ab,ok⟩:=lC (k:=λτ d G=>match d with
  | .obj n=>match G[n]? with
   | some (.lst xs)=>t6 g ms n (xs.length+1) 0 τ G
   | _=>.stuck
  | .tup xs=>bY g ms xs τ G
  | .con xs=>bY g ms xs τ G
  | .str z=>bY g ms (z.cps.toList.map λc=>.str ⟨#[c]⟩) τ G
  | _=>.stuck) h
 refine ⟨τ,ρ,G,ab,?_⟩;cases e:ma τ G with
 | stuck=>rw [e] at ok;exact ok
 | bq c G'=>rw [e] at ok;exact ok
 | ok d G'=>
  rw [e] at ok;intro v H1 ρ1 f1 fD r1;obtain ⟨τ2,ρ2,G2,d2,bA,r2,aI⟩:=ok v H1 ρ1 f1 fD r1;cases d2<;>try exact aI.elim
  case obj n=>
   dsimp only at aI;unfold Rep at r2;obtain ⟨p,rfl,e1⟩:=r2;cases q:G2[n]? with
   | none=>rw [q] at aI;exact aI.elim
   | some o=>
    cases o with
    | lst xs=>rw [q] at aI;obtain ⟨p',vs,e2,h2,rs⟩:=bA.hp.lst q;rw [e1] at e2;cases e2;exact .inl ⟨p,rfl,⟨vs,.of h2⟩,G7 e1 bA aI⟩
    | _=>first | (rw [q] at ok;exact ok.elim) | (rw [q] at aI;exact aI.elim) | (rw [q] at e;cases e;done) | (rw [g] at ok;exact ok.elim) | (rw [g] at q;cases q;done) | (rw [g] at h;cases h;done) | (rw [g2] at ok;exact ok.elim) | (rw [g1,g2] at ok;exact ok.elim) | (rw [q1] at ok;exact ok.elim) | exact ok.elim
  case tup xs=>
   unfold Rep at r2;obtain ⟨p,vs,rfl,sq,rs⟩:=r2;refine .inr (.inl ⟨p,rfl,⟨vs,sq⟩,kI xs (λi H' ρ' hi f=>?_) (λi H' ρ' hi f=>?_) (λi d' H' ρ' x OO hd f y=>?_) bA aI⟩)
   ·rw [rs.length] at hi;exact ⟨vs,vs[i],f.tup _ _ sq,Zr hi⟩
   ·exact ⟨vs,f.tup _ _ sq,by rw [← rs.length];exact hi⟩
   ·obtain ⟨rfl,y⟩:=y;obtain ⟨w',ew,rw'⟩:=rs.get hd;have:=y vs (f.tup _ _ sq);rw [ew] at this;cases this;exact ⟨rfl,rw'.mono f⟩
  case con xs=>
   unfold Rep at r2;obtain ⟨p,vs,rfl,sq,rs⟩:=r2;refine .inl ⟨p,rfl,⟨vs,sq.seq⟩,kI xs (λi H' ρ' hi f=>?_) (λi H' ρ' hi f=>?_) (λi d' H' ρ' x OO hd f y=>?_) bA aI⟩
   ·rw [rs.length] at hi;exact ⟨vs,vs[i],(f.con _ _ sq).seq,Zr hi⟩
   ·exact ⟨vs,(f.con _ _ sq).seq,by rw [← rs.length];exact hi⟩
   ·obtain ⟨rfl,y⟩:=y;obtain ⟨w',ew,rw'⟩:=rs.get hd;have:=y vs (f.con _ _ sq).seq;rw [ew] at this;cases this;exact ⟨rfl,rw'.mono f⟩
  case str z=>
   unfold Rep at r2;subst r2;refine .inr (.inr ⟨z,rfl,kI (z.cps.toList.map λc=>.str ⟨#[c]⟩) (λi H' ρ' hi f=>?_) (λi H' ρ' hi f=>?_) (λi d' H' ρ' x OO hd f y=>?_) bA aI⟩)
   ·simpa [G6] using hi
   ·simpa [G6] using hi
   ·obtain ⟨rfl,c,hc,rfl⟩:=y;rw [ZL] at hd;have:z.cps.toList[i]?=Zg c:=by simpa using hc
    rw [this] at hd;cases hd;exact ⟨rfl,by unfold Rep;rfl⟩
def eG:List D→Option (List D)
 | [.int j]=>if -(2^62)≤j∧j<2^62 then Zg ((Z4 j.toNat).map λ(k:Nat)=>.int (0+(k:Int))) else Zl
 | _=>Zl
def f7 (Ai:List D→Option (List D)) (g:jB) (m:DS→M (List D)) (body:MS):MS:=λτ=>bz (m τ) (λds G=>match Ai ds with
 | some xs=>bY g body xs τ G
 | none=>.stuck) λc G=>.xn c τ G
theorem LY {m:DS→M (List D)} {k:DS→List D→DH→Res} (h:gB K mg EE (λτ=>bz (m τ) (k τ) λc G=>.xn c τ G) Dd σ H) :
  gU K mg EE m σ H λx H1=>∃ τ ρ G d,Ab K mg σ H1 τ ρ G∧aq K mg ρ H1 d x∧qX K mg EE H1 ρ Dd (k τ d G):=by
 obtain ⟨τ,ρ,G,ab,ok⟩:=h;refine ⟨τ,ρ,G,ab,?_⟩;dsimp only [bz] at ok;cases e:m τ G with
 | stuck=>rw [e] at ok;exact ok
 | bq c G'=>rw [e] at ok;exact λH' ρ' f aV=>ok σ H' ρ' f aV
 | ok d G'=>rw [e] at ok;exact λv H' ρ' f aV r=>⟨τ,ρ',G',d,aV,r,ok.fut f⟩
theorem AD {body:MS} {τ0:DS} (lo:Int) (n:Nat) (ab:Ab X.K X.mg σ0 H0 τ0 ρ0 G0) (ok:qX X.K X.mg EE H0 ρ0 Dd (bY g body ((Z4 n).map λ(k:Nat)=>.int (lo+(k:Int))) τ0 G0)) :
  ∃ W:Nat→Nat→L2.St→Hp→Prop,(∃ m,W 0 m σ0 H0)∧∀ i m σ H,W i m σ H →
   ((tP lo n).stop i H∧Dd.nx σ H)∨((tP lo n).go i H∧∃ N:L2.St→Hp→Prop,(∀ σ' H',N σ' H'→∃ m',m'<m∧W (i+1) m' σ' H')∧∀ x H',(tP lo n).rQ i H x H'→vK X.K X.mg g x σ H' λσ2 H2=>gB X.K X.mg EE body {Dd with nx:=N,ct:=N,bk:=Dd.nx} σ2 H2):=
 kI (J:=tP lo n) _ (λi H ρ hi f=>by simpa [tP] using hi) (λi H ρ hi f=>by simpa [tP] using hi) (λi d H ρ x H' hd f y=>by
  obtain ⟨rfl,rfl⟩:=y;rw [ZL] at hd;cases q:(Z4 n)[i]? with
  | none=>rw [q] at hd;cases hd
  | some k=>rw [q] at hd;obtain ⟨hk,e⟩:=Zp.mp q;rw [aek] at e;subst e;cases hd;exact ⟨rfl,by unfold Rep;rfl⟩) ab ok
theorem De {m:DS→M (List D)} {p pc:Pos} (hp:PassesOwn (model X.prog X.w) X.A X.env X.xe) (hc:X.calm=Zh) (hm:X.mg "range"=Zl) (ha:QA X EE [a] m) (hg:QG X tg g) (hb:qY X EE body ms)
  (nY:Gl X "range":=by rfl) (hst:ZF [a] X.env=[(Zk,eval a X.env)]:=by rfl) (hs:∀ x,foldedSetIterable (.Call (.Name "range" p) [a] [] pc) X.env x=pure x:=by intro _;rfl) :
  QS X EE (.For tg (.Call (.Name "range" p) [a] [] pc) body [] pos) (f7 eG g m ms):=PS.mono (xQ hp hc (m5 nY hm ha hst) hg hb hs) λDd σ H h=>by
 obtain ⟨τ,ρ,G,ab,ok⟩:=LY (k:=λτ ds G=>match eG ds with | some xs=>bY g ms xs τ G | none=>.stuck) h;refine ⟨τ,ρ,G,ab,?_⟩;cases e:m τ G with
 | stuck=>rw [e] at ok;exact ok
 | bq c G'=>rw [e] at ok;exact ok
 | ok ds G'=>
  rw [e] at ok;intro vs H1 ρ1 f1 fD r1;obtain ⟨τ2,ρ2,G2,d2,bA,r2,aI⟩:=ok vs H1 ρ1 f1 fD r1;cases q:eG d2 with
  | none=>rw [q] at aI;exact aI.elim
  | some xs=>
   rw [q] at aI;unfold eG at q;split at q
   ·rename_i j;split at q
    ·rename_i hj;cases q;unfold aq at r2;obtain ⟨v,r,rfl,h1,h2⟩:=r2;unfold aq at h2;subst h2;unfold Rep at h1;subst h1;exact ⟨j,rfl,hj.1,hj.2,AD 0 j.toNat bA aI⟩
    ·cases q
   ·cases q
end
def VT (K:Zo) (mg:Str→Option Zj) (H:Hp) (ρ:List Addr):Out D→VK→XK→Prop
 | .stuck,_,_=>False
 | .ok d G',Q,_=>∀ v H' ρ',bX K H H' ρ ρ'→eN K mg H' ρ' G'→Rep K mg ρ' H' d v→Q v H'
 | .bq c G',_,E=>∀ cls H' ρ',(match c with | .mk n _=>mg n=Zg cls)→bX K H H' ρ ρ'→eN K mg H' ρ' G'→E cls Zl H'
def fW (K:Zo) (mg:Str→Option Zj) (n:Nat) (m:List D→M D):Sp:=λvs H Q E=>∃ ds ρ G,ds.length=n∧eN K mg H ρ G∧aq K mg ρ H ds vs∧VT K mg H ρ (m ds G) Q E
theorem fW.len {m:List D→M D} {Q:VK} {E:XK} (h:fW K mg n m vs H Q E):vs.length=n:=by obtain ⟨ds,ρ,G,e,_,r,_⟩:=h;rw [← r.length,e]
def OP (mg:Str→Option Zj) (EE:bR) (σ:L2.St):XK:=λcls _ H'=>∃ c,(match c with | .mk n _=>mg n=Zg cls)∧EE c σ H'
def G8 (CX:mY) (X:Cx) (EE:bR):Prop:=∀ (pins:List (Addr×Obj)) (σ:L2.St) (H:Hp) (s:Zq) (e:Zj) (s':Zq),Inv X pins σ H s→CX X.stack H s (OP X.mg EE σ) e s'→X.xe e s'
section
variable {X:Cx} {CX:mY} {EE:bR} {k n:Nat} {f:Addr} {fd:FuncData} {ps:List Str} {mf:List D→M D} {x:Str} {p pos:Pos} {e:Expr} {es:List Expr} {m:DS→M (List D)}
theorem eN.ab {K:Zo} {mg:Str→Option Zj} {σ:L2.St} {H H':Hp} {τ:DS} {ρ ρ':List Addr} {G G':DH} (ab:Ab K mg σ H τ ρ G) (f:bX K H H' ρ ρ') (h:eN K mg H' ρ' G'):Ab K mg σ H' τ ρ' G':=⟨ab.st.mono f,h⟩
theorem o9 {pins:List (Addr×Obj)} {σ:L2.St} {H:Hp} {s:Zq} {Q:VK} {us:List Zj} {vs:List V} {τ:DS} {ρ:List Addr} {G:DH} {ds:List D} (F:gA X.prog X.w X.K X.mg X.base CX k f fd ps (fW X.K X.mg n mf)) (hr:cP k X.A) (hb:Binds X.K fd ps [])
  (hx:G8 CX X EE) (I:Inv X pins σ H s) (r:Vals vs us) (ab:Ab X.K X.mg σ H τ ρ G) (rs:aq X.K X.mg ρ H ds vs) (hn:ds.length=n) (ok:iP X.K X.mg EE H σ τ ρ (mf ds G) Q):ZD (model X.prog X.w) X.A (call (.ref f) us) (EP X pins σ Q) X.xe s:=by
 have h:fW X.K X.mg n mf vs H Q (OP X.mg EE σ):=by
  refine ⟨ds,ρ,G,hn,ab.hp,rs,?_⟩;cases q:mf ds G with
  | stuck=>rw [q] at ok;exact ok
  | ok d G'=>rw [q] at ok;exact λv H' ρ' f hp r=>ok v H' ρ' f (eN.ab ab f hp) r
  | bq c G'=>rw [q] at ok;exact λcls H' ρ' hc f hp=>⟨c,hc,ok H' ρ' f (eN.ab ab f hp)⟩
 have hl:(us++[]).length=ps.length:=by rw [aaA,← r.length];exact F.len _ _ _ _ h
 have QU:=hb s us I.oY hl;rw [aaA] at QU;refine aei (codeAny_mono (F.run X.A X.stack s H ⟨us,[]⟩ us vs Q (OP X.mg EE σ) hr I.gk I.os.2 QU r h) λr s' hq=>?_);cases r with
 | error e=>exact hx pins σ H s e s' I hq
 | ok fl=>
  cases fl with
  | ret u=>exact I.after hq
  | next=>exact aac hq
  | brk=>exact aac hq
  | cont=>exact aac hq
def az (n:Nat) (mf:List D→M D) (m:DS→M (List D)):DS→M D:=ai (λds=>if ds.length=n then mf ds else M.stop) m
theorem G9 (F:gA X.prog X.w X.K X.mg X.base CX k f fd ps (fW X.K X.mg n mf)) (hr:cP k X.A) (hm:X.mg x=Zg (.ref f)) (hk:Z5 X.K (.ref f)=Zh) (hb:Binds X.K fd ps []) (hx:G8 CX X EE)
  (ha:QA X EE (e::es) m) (hg:Gl X x:=by rfl) (hdb:(x==("__debug__":Str))=Zk:=by decide) (he:ZF (e::es) X.env=(Zk,eval e X.env)::ZF es X.env:=by rfl) (hpl:(backTo pos (ZF es X.env)).any (·.1)=Zk:=by rfl) :
  QE X EE (.Call (.Name x p) (e::es) [] pos) (az n mf m):=by
 intro pins s σ H Q I h;obtain ⟨τ,ρ,G,ab,ok⟩:=jx (k:=λ_ ds=>if ds.length=n then mf ds else M.stop) h;refine ZK (tN I hg hm ?_ hdb);refine abj (h₀:=X.base) I.ok.mod.BZ hk (cO (ha pos pins s σ H _ I ⟨τ,ρ,G,ab,ok⟩) λus s1 ⟨vs,H1,I1,r,q⟩=>⟨I1.oY,?_⟩) he hpl;obtain ⟨τ1,ρ1,G1,ds,fD,rs,zx⟩:=q;by_cases hn:ds.length=n
 ·rw [if_pos hn] at zx;exact o9 F hr hb hx I1 r fD rs hn zx
 ·rw [if_neg hn] at zx;exact zx.elim
end
def bL (N:Nat) (ms:MS) (ds:List D):M D:=λG=>match ms (ds.map Zg++ZH (N - ds.length) Zl) G with
 | .stuck=>.stuck
 | .nx _ G'=>.ok .cy G'
 | .rt d G'=>.ok d G'
 | .bk _ _=>.stuck
 | .ct _ _=>.stuck
 | .xn c _ G'=>.bq c G'
theorem jC (r:aq K mg ρ H ds vs):pR K mg H ρ (L2.start N vs) (ds.map Zg++ZH (N.length - ds.length) Zl):=by
 have hl:=r.length;refine ⟨by unfold L2.start;simp [hl],λi d e=>?_⟩;have hi:i<ds.length:=by
  by_cases hi:i<ds.length
  ·exact hi
  ·rw [ZO (by simpa using hi),abI] at e;split at e<;>cases e
 rw [ZC (by simpa using hi),ZL] at e;cases q:ds[i]? with
 | none=>rw [q] at e;cases e
 | some d'=>rw [q] at e;cases e;obtain ⟨v,e1,r1⟩:=r.get q;refine ⟨v,?_,r1⟩;unfold L2.start;rw [ZC (by simp;nofun),ZL,e1];rfl
section
variable {X:Cx} {EE:bR} {a b c:Expr} {ma mb mc:DS→M D} {pos:Pos}
def AE (X:Cx) (EE:bR) (f:List D→M D):List V→Hp→VK→Prop:=λxs H Q=>∃ σ τ ρ G ds,Ab X.K X.mg σ H τ ρ G∧aq X.K X.mg ρ H ds xs∧iP X.K X.mg EE H σ τ ρ (f ds G) Q
theorem pV {f:List D→M D}:CallD X EE (AE X EE f) f:=λσ H τ ρ G xs ds Q ab r ok=>⟨σ,τ,ρ,G,ds,ab,r,ok⟩
theorem fQ (r:aq K mg ρ H [d] xs):∃ x,xs=[x]∧Rep K mg ρ H d x:=by unfold aq at r;obtain ⟨v,r',rfl,h1,h2⟩:=r;unfold aq at h2;subst h2;exact ⟨v,rfl,h1⟩
theorem vL {e:D} (r:aq K mg ρ H [d,e] xs):∃ x y,xs=[x,y]∧Rep K mg ρ H d x∧Rep K mg ρ H e y:=by unfold aq at r;obtain ⟨v,r',rfl,h1,h2⟩:=r;obtain ⟨y,rfl,h3⟩:=fQ h2;exact ⟨v,y,rfl,h1,h3⟩
def cZ:List D→M D
 | [d]=>λG=>match aF G d with
  | some (.lst xs)=>.ok (.int xs.length) G
  | some (.tup xs)=>.ok (.int xs.length) G
  | some (.str z)=>if z.length≤Zm then .ok (.int z.length) G else .stuck
  | none=>.stuck
 | _=>M.stop
theorem AF:c9 X (.builtin "len") (AE X EE cZ):=by
 intro pins s σ0 H xs us Q I r zu;obtain ⟨σ,τ,ρ,G,ds,ab,rs,ok⟩:=zu
 match ds,ok with
 | [],ok=>exact ok.elim
 | _::_::_,ok=>exact ok.elim
 | [d],ok=>
  obtain ⟨x,rfl,rx⟩:=fQ rs;dsimp only [cZ] at ok;cases q:aF G d with
  | none=>rw [q] at ok;exact ok.elim
  | some sk=>
   rw [q] at ok;cases sk with
   | lst zs=>obtain ⟨p,vs,rfl,sq,rv⟩:=bE (pins:=pins) (σ0:=σ0) (s:=s) ab.hp rx q;exact lZ pins s σ0 H _ us Q I r ⟨p,vs,rfl,.inl sq,ok _ H ρ .refl ab (by unfold Rep;rw [rv.length])⟩
   | tup zs=>obtain ⟨p,vs,rfl,sq,rv⟩:=iw rx q;exact lZ pins s σ0 H _ us Q I r ⟨p,vs,rfl,.inr sq,ok _ H ρ .refl ab (by unfold Rep;rw [rv.length])⟩
   | str z=>
    obtain ⟨rfl,rfl⟩:=kG rx q;dsimp only at ok;by_cases hz:z.length≤Zm
    ·rw [if_pos hz] at ok;exact tV pins s σ0 H _ us Q I r ⟨z,rfl,hz,ok _ H ρ .refl ab (by unfold Rep;rfl)⟩
    ·rw [if_neg hz] at ok;exact ok.elim
inductive Ty where
 | cy | bl | int | str | tup | lst | dct
 deriving DecidableEq
def Ty.nm:Ty→String
 | .cy=>"NoneType" | .bl=>"bool" | .int=>"int" | .str=>"str" | .tup=>"tuple" | .lst=>"list" | .dct=>"dict"
def QV (G:DH):D→Option Ty
 | .cy=>Zg .cy
 | .bl _=>Zg .bl
 | .int _=>Zg .int
 | .str _=>Zg .str
 | .tup _=>Zg .tup
 | .con _=>Zg .lst
 | .obj n=>match G[n]? with
  | some (.lst _)=>Zg .lst
  | _=>Zl
 | .fn _=>Zl
 | .vz _ _=>Zl
 | .iM _ _=>Zl
def Ty.is (t c:Ty):Bool:=decide (t=c)||(decide (t=.bl)&&decide (c=.int))
theorem lG (K:Zo):∀ (t c:Ty),c≠.cy→PySem.W.kitOne K (.type t.nm) (.type c.nm)=Zg (t.is c):=by intro t c h;cases t<;>cases c<;>first | exact absurd rfl h | rfl | (with_unfolding_all rfl) | symm
def vM (c:Ty) (d:D):M D:=λG=>match QV G d with
 | some t=>.ok (.bl (t.is c)) G
 | none=>.stuck
def Df (c:Ty) (m:DS→M D):DS→M D:=λτ=>(m τ).bind (vM c)
theorem Hf {c:Ty} (hc:c≠.cy) {pins:List (Addr×Obj)} {s:Zq} {σ0 σ:L2.St} {H:Hp} {τ:DS} {ρ:List Addr} {G:DH} {d:D} {x:V} {u:Zj} {Q:VK} (I:Inv X pins σ0 H s) (ab:Ab X.K X.mg σ H τ ρ G) (rx:Rep X.K X.mg ρ H d x) (ru:RelV x u)
  (ok:iP X.K X.mg EE H σ τ ρ (vM c d G) Q):ZD (model X.prog X.w) X.A (call (.builtin "isinstance") [u,.type c.nm]) (EP X pins σ0 Q) X.xe s:=by
 dsimp only [vM] at ok;refine gS I.os.2 ?_;have fin:∀ {b:Bool},Q (.bl b) H→∀ tk,0<tk→EP X pins σ0 Q (.bool b) {s with toks:=tk}:=λq tk ht=>⟨.bl _,H,I.tok tk,rfl,q⟩;cases d with
 | cy=>have q:=ok (.bl _) H ρ .refl ab (by unfold Rep;rfl);unfold Rep at rx;subst rx;cases ru;exact abw PySem.W.kitx_none I.oY abi (lG X.K .cy c hc) (λz=>nomatch z) (fin q)
 | bl y=>have q:=ok (.bl _) H ρ .refl ab (by unfold Rep;rfl);unfold Rep at rx;subst rx;cases ru;exact abw PySem.W.kitx_bool I.oY abi (lG X.K .bl c hc) (λz=>nomatch z) (fin q)
 | int y=>have q:=ok (.bl _) H ρ .refl ab (by unfold Rep;rfl);unfold Rep at rx;subst rx;obtain ⟨t,rfl⟩:=ru;exact abw PySem.W.kitx_int I.oY abi (lG X.K .int c hc) (λz=>nomatch z) (fin q)
 | str y=>have q:=ok (.bl _) H ρ .refl ab (by unfold Rep;rfl);unfold Rep at rx;subst rx;obtain ⟨t,rfl⟩:=ru;exact abw PySem.W.kitx_str I.oY abi (lG X.K .str c hc) (λz=>nomatch z) (fin q)
 | tup ys=>have q:=ok (.bl _) H ρ .refl ab (by unfold Rep;rfl);unfold Rep at rx;obtain ⟨p,vs,rfl,sq,_⟩:=rx;cases ru;obtain ⟨its,_,⟨o,h1,h2,_⟩,_⟩:=I.tuple (pQ.t sq);exact abw PySem.W.kitx_tuple I.oY ⟨o,h1,h2⟩ (lG X.K .tup c hc) (λz=>nomatch z) (fin q)
 | con ys=>have q:=ok (.bl _) H ρ .refl ab (by unfold Rep;rfl);unfold Rep at rx;obtain ⟨p,vs,rfl,sq,_⟩:=rx;cases ru;obtain ⟨its,_,⟨o,k,h1,h2,_⟩,_⟩:=I.list sq.seq;exact abw aey I.oY ⟨o,h1,h2⟩ (lG X.K .lst c hc) (λz=>nomatch z) (fin q)
 | obj n=>
  unfold Rep at rx;obtain ⟨p,rfl,e1⟩:=rx;cases ru;dsimp only [QV] at ok;cases g:G[n]? with
  | none=>rw [g] at ok;exact ok.elim
  | some o=>
   cases o with
   | lst ys=>rw [g] at ok;have q:=ok (.bl _) H ρ .refl ab (by unfold Rep;rfl);obtain ⟨p',vs,e2,hp,_⟩:=ab.hp.lst g;rw [e1] at e2;cases e2;obtain ⟨its,_,⟨o,k,h1,h2,_⟩,_⟩:=I.list (.of hp);exact abw aey I.oY ⟨o,h1,h2⟩ (lG X.K .lst c hc) (λz=>nomatch z) (fin q)
   | _=>first | (rw [q] at ok;exact ok.elim) | (rw [q] at aI;exact aI.elim) | (rw [q] at e;cases e;done) | (rw [g] at ok;exact ok.elim) | (rw [g] at q;cases q;done) | (rw [g] at h;cases h;done) | (rw [g2] at ok;exact ok.elim) | (rw [g1,g2] at ok;exact ok.elim) | (rw [q1] at ok;exact ok.elim) | exact ok.elim
 | vz _ _=>exact ok.elim
 | iM y0 c0=>exact ok.elim
 | fn x=>exact ok.elim
theorem LZ (c:Ty) {p pt:Pos} {x:Str} (hc:c≠.cy) (hm:X.mg "isinstance"=Zl) (hmt:X.mg x=Zl) (ha:QE X EE a ma) (hb:bootBuiltins x=Zg (.type c.nm))
  (hg:Gl X "isinstance":=by rfl) (hgt:Gl X x:=by rfl) (hnt:x≠"__name__":=by decide) (hdt:(x==("__debug__":Str))=Zk:=by decide)
  (he:ZF [a,.Name x pt] X.env=(Zk,eval a X.env)::ZF [.Name x pt] X.env:=by rfl) (VU:ZF [.Name x pt] X.env=(Zk,eval (.Name x pt) X.env)::ZF [] X.env:=by rfl) (hpl:(backTo pos (ZF [.Name x pt] X.env)).any (·.1)=Zk:=by rfl)
  (hbi:bootBuiltins "isinstance"=Zg (.builtin "isinstance"):=by first | exact PyProof.Rows.boot_isinstance | symm) :
  QE X EE (.Call (.Name "isinstance" p) [a,.Name x pt] [] pos) (Df c ma):=by
 have hT:PE X (.Name x pt) (tC (.ty c.nm)):=F4 hgt hmt hb rfl hnt hdt;have hA:PA X [a,.Name x pt] (ze (bh X.K X.mg EE ma) (ze (tC (.ty c.nm)) Gj)):=tR ha (tR hT x8 VU) he;intro pins s σ H Q I h;obtain ⟨τ,ρ,G,ab,ok⟩:=jw (k:=λ_ d=>vM c d) h;refine ZK (dX I hg hm hbi ?_ (by decide) (by decide));refine abK (cO (hA pos pins s σ H (λvs H1=>∃ x,vs=[x,.ty c.nm]∧∃ τ ρ G d,Ab X.K X.mg σ H1 τ ρ G∧Rep X.K X.mg ρ H1 d x∧iP X.K X.mg EE H1 σ τ ρ (vM c d G) Q) I ⟨τ,ρ,G,ab,?_⟩) λus s1 ⟨vs,H1,I1,r1,q1⟩=>?_) he hpl
 ·cases e:ma τ G with
  | stuck=>rw [e] at ok;exact ok
  | bq c G'=>rw [e] at ok;exact ok
  | ok d G'=>rw [e] at ok;exact λv H' ρ' f' aV r'=>⟨v,rfl,ok v H' ρ' f' aV r'⟩
 ·obtain ⟨y,rfl,τ2,ρ2,G2,d,bA,rd,aI⟩:=q1;cases r1 with
  | cons ry rr=>
   cases rr with
   | cons rt rr=>cases rr;cases rt;exact Hf hc I1 bA rd ry aI
end
section
variable {X:Cx} {EE:bR} {a b c:Expr} {ma mb mc:DS→M D} {pos:Pos}
theorem lH {o:Obj} (hk:∀ b x,b∉[s.heap.objs.size]→(s.heap.push o).get? b=Zg x→h'.get? b=Zg x):∀ b x,s.heap.get? b=Zg x→h'.get? b=Zg x:=
 λb x e=>hk b x (λhm=>by rw [ZI.mp hm] at e;exact aao _ (Zu e)) (Zn _ e)
def fM (g:Int→Int→Int):List D→M D
 | [.int i,.int j]=>M.ret (.int (g i j))
 | _=>M.stop
theorem vN {g:Int→Int→Int} {Q:VK} (ok:iP X.K X.mg EE H σ τ ρ (fM g ds G) Q):∃ i j,ds=[.int i,.int j]∧iP X.K X.mg EE H σ τ ρ (.ok (.int (g i j)) G) Q:=by
 unfold fM at ok;split at ok
 ·exact ⟨_,_,rfl,ok⟩
 ·exact ok.elim
theorem AG (hc:X.calm=Zh):c9 X (.builtin "max") (AE X EE (fM λi j=>if j > i then j else i)):=by intro pins s σ0 H xs us Q I r zu;obtain ⟨σ,τ,ρ,G,ds,ab,rs,ok⟩:=zu;obtain ⟨i,j,rfl,ok⟩:=vN ok;obtain ⟨x,y,rfl,r1,r2⟩:=vL rs;unfold Rep at r1 r2;subst r1 r2;exact An hc pins s σ0 H _ us Q I r ⟨i,j,rfl,ok _ H ρ .refl ab (by unfold Rep;rfl)⟩
theorem AH (hc:X.calm=Zh):c9 X (.builtin "min") (AE X EE (fM λi j=>if j<i then j else i)):=by intro pins s σ0 H xs us Q I r zu;obtain ⟨σ,τ,ρ,G,ds,ab,rs,ok⟩:=zu;obtain ⟨i,j,rfl,ok⟩:=vN ok;obtain ⟨x,y,rfl,r1,r2⟩:=vL rs;unfold Rep at r1 r2;subst r1 r2;exact Ao hc pins s σ0 H _ us Q I r ⟨i,j,rfl,ok _ H ρ .refl ab (by unfold Rep;rfl)⟩
def OQ (X:Cx) (EE:bR) (f:D→List D→M D):V→List V→Hp→VK→Prop:=λx xs H Q=>∃ σ τ ρ G d ds,Ab X.K X.mg σ H τ ρ G∧Rep X.K X.mg ρ H d x∧aq X.K X.mg ρ H ds xs∧iP X.K X.mg EE H σ τ ρ (f d ds G) Q
def f9 (T:String) (G:DH):D→Bool
 | .str _=>T=="str"
 | .int _=>T=="int"
 | .con _=>T=="list"
 | .obj n=>match G[n]? with
  | some (.lst _)=>T=="list"
  | _=>Zk
 | _=>Zk
theorem se {x:V} (ab:Ab X.K X.mg σ H τ ρ G) (r:Rep X.K X.mg ρ H d x) (h:f9 T G d=Zh):QM X.K T x H:=by
 cases d with
 | str z=>unfold Rep at r;subst r;exact eq_of_beq h
 | int z=>unfold Rep at r;subst r;exact eq_of_beq h
 | con zs=>unfold Rep at r;obtain ⟨p,vs,rfl,sq,_⟩:=r;exact .inl ⟨eq_of_beq h,vs,sq.seq⟩
 | obj n=>
  unfold Rep at r;obtain ⟨p,rfl,e1⟩:=r;dsimp only [f9] at h;cases g:G[n]? with
  | none=>rw [g] at h;cases h
  | some o=>
   cases o with
   | lst ys=>rw [g] at h;obtain ⟨p',vs,e2,hp,_⟩:=ab.hp.lst g;rw [e1] at e2;cases e2;exact .inl ⟨eq_of_beq h,vs,.of hp⟩
   | _=>first | (rw [q] at ok;exact ok.elim) | (rw [q] at aI;exact aI.elim) | (rw [q] at e;cases e;done) | (rw [g] at ok;exact ok.elim) | (rw [g] at q;cases q;done) | (rw [g] at h;cases h;done) | (rw [g2] at ok;exact ok.elim) | (rw [g1,g2] at ok;exact ok.elim) | (rw [q1] at ok;exact ok.elim) | exact ok.elim
 | _=>cases h
def cJ (T:String) (f:D→List D→M D) (mo:DS→M D) (m:DS→M (List D)):DS→M D:=λτ=>(mo τ).bind λd G=>if f9 T G d then (m τ).bind (λds=>f d ds) G else .stuck
theorem JC {apos cpos:Pos} {id:String} {f:D→List D→M D} {m:DS→M (List D)} (pa:PlainAttrs T) (slot:Slot T name id) (hty:typeOf (.builtin id)=pure (.type "method_descriptor")) (hm:B3 X id (OQ X EE f)) (ho:QE X EE o mo) (ha:QA X EE (e::es) m)
  (hbase:attributeBase o name X.env (eval o X.env)=eval o X.env:=by rfl)
  (hfew:((backTo cpos (ZF (e::es) X.env)).all (λx=>!x.1)&&(backToKw cpos (keywordEach [] X.env)).all (λx=>x.1.isSome)
   && decide ((e::es).length+([]:List Keyword).length+(if ([]:List Keyword).isEmpty then 0 else 1)<30))=Zh:=by rfl)
  (hline:(apos.endLine==cpos.line)=Zh:=by rfl) (hs:ZF (e::es) X.env=(Zk,eval e X.env)::ZF es X.env:=by rfl) (hplain:(backTo cpos (ZF es X.env)).any (·.1)=Zk:=by rfl) :
  QE X EE (.Call (.Attribute o name apos) (e::es) [] cpos) (cJ T f mo m):=PE.mono (Oq pa slot hty hm ho ha hbase hfew hline hs hplain) λσ H Q h=>by
 obtain ⟨τ,ρ,G,ab,ok⟩:=jw (k:=λτ d G=>if f9 T G d then (m τ).bind (λds=>f d ds) G else .stuck) h;refine ⟨τ,ρ,G,ab,?_⟩;cases e:mo τ G with
 | stuck=>rw [e] at ok;exact ok
 | bq c G'=>rw [e] at ok;exact ok
 | ok d G'=>
  rw [e] at ok;intro v H' ρ' f' aV r';obtain ⟨τ2,ρ2,G2,d2,bA,r2,aI⟩:=ok v H' ρ' f' aV r';by_cases hk:f9 T G2 d2=Zh
  ·rw [if_pos hk] at aI;refine ⟨se bA r2 hk,τ2,ρ2,G2,bA,?_⟩;dsimp only [M.bind] at aI;cases e2:m τ2 G2 with
   | stuck=>rw [e2] at aI;exact aI
   | bq c G'=>rw [e2] at aI;exact aI
   | ok ds G3=>rw [e2] at aI;exact λvs H3 ρ3 f3 oG r3=>⟨σ,τ2,ρ3,G3,d2,ds,oG,r2.mono f3,r3,aI.fut f3⟩
  ·rw [if_neg hk] at aI;exact aI.elim
theorem L4 {apos cpos:Pos} {id:String} {f:D→List D→M D} (pa:PlainAttrs T) (slot:Slot T name id) (hty:typeOf (.builtin id)=pure (.type "method_descriptor")) (hm:B3 X id (OQ X EE f)) (ho:QE X EE o mo)
  (hbase:attributeBase o name X.env (eval o X.env)=eval o X.env:=by rfl) (hline:(apos.endLine==cpos.line)=Zh:=by rfl) :
  QE X EE (.Call (.Attribute o name apos) [] [] cpos) (cJ T f mo ah):=PE.mono (Li pa slot hty hm ho hbase hline) λσ H Q h=>by
 obtain ⟨τ,ρ,G,ab,ok⟩:=jw (k:=λτ d G=>if f9 T G d then (ah τ).bind (λds=>f d ds) G else .stuck) h;refine ⟨τ,ρ,G,ab,?_⟩;cases e:mo τ G with
 | stuck=>rw [e] at ok;exact ok
 | bq c G'=>rw [e] at ok;exact ok
 | ok d G'=>
  rw [e] at ok;intro v H' ρ' f' aV r';obtain ⟨τ2,ρ2,G2,d2,bA,r2,aI⟩:=ok v H' ρ' f' aV r';by_cases hk:f9 T G2 d2=Zh
  ·rw [if_pos hk] at aI;exact ⟨se bA r2 hk,σ,τ2,ρ2,G2,d2,[],bA,r2,.nil,aI⟩
  ·rw [if_neg hk] at aI;exact aI.elim
def cK:D→List D→M D
 | .obj n,[v]=>λG=>match G[n]? with
  | some (.lst xs)=>if xs.length<Zm then .ok .cy (G.set n (.lst (xs++[v]))) else .stuck
  | _=>.stuck
 | _,_=>M.stop
theorem yh {xs ys:List D} {w:V} {ws:List V} {Q:VK} (ab:Ab X.K X.mg σ H τ ρ G) (hn:ρ[n]?=Zg p) (hp:H p=Zg (.lst vs)) (r:aq X.K X.mg ρ H ys ws)
  (rd:∀ H',bX X.K H H' ρ ρ→Rep X.K X.mg ρ H' d w) (ok:iP X.K X.mg EE H σ τ ρ (.ok d (G.set n (.lst ys))) Q):Q w (upd H p (.lst ws)):=by
 have f:bX X.K H (upd H p (.lst ws)) ρ ρ:=o7 hp ρ;exact ok w _ ρ f (ab.fut f (ab.hp.put (ds:=ys) hn hp r)) (rd _ f)
theorem yi:B3 X "list.append" (OQ X EE cK):=by
 intro pins s σ0 H x xs v us Q I rx OR zu;obtain ⟨σ,τ,ρ,G,d,ds,ab,rd,zy,ok⟩:=zu;cases d<;>try exact ok.elim
 rename_i n
 match ds,ok with
 | [],ok=>exact ok.elim
 | _::_::_,ok=>exact ok.elim
 | [y],ok=>
  obtain ⟨yv,rfl,ry⟩:=fQ zy;unfold Rep at rd;obtain ⟨p,rfl,e1⟩:=rd;dsimp only [cK] at ok;cases g:G[n]? with
  | none=>rw [g] at ok;exact ok.elim
  | some o=>
   cases o with
   | lst zs=>
    rw [g] at ok;dsimp only at ok;obtain ⟨p',vs,e2,hp,rs⟩:=ab.hp.lst g;rw [e1] at e2;cases e2;by_cases hz:zs.length<Zm
    ·rw [if_pos hz] at ok;exact rX pins s σ0 H _ _ v us Q I rx OR ⟨p,vs,yv,rfl,rfl,hp,by rw [← rs.length];exact hz,yh (xs:=zs) ab e1 hp (rs.append (.cons ry .nil)) (λ_ _=>by unfold Rep;rfl) ok⟩
    ·rw [if_neg hz] at ok;exact ok.elim
   | _=>first | (rw [q] at ok;exact ok.elim) | (rw [q] at aI;exact aI.elim) | (rw [q] at e;cases e;done) | (rw [g] at ok;exact ok.elim) | (rw [g] at q;cases q;done) | (rw [g] at h;cases h;done) | (rw [g2] at ok;exact ok.elim) | (rw [g1,g2] at ok;exact ok.elim) | (rw [q1] at ok;exact ok.elim) | exact ok.elim
theorem AI {apos cpos:Pos} {m:DS→M (List D)} (ho:QE X EE o mo) (ha:QA X EE [e] m)
  (hbase:attributeBase o "append" X.env (eval o X.env)=eval o X.env:=by rfl)
  (hfew:((backTo cpos (ZF [e] X.env)).all (λx=>!x.1)&&(backToKw cpos (keywordEach [] X.env)).all (λx=>x.1.isSome)
   && decide ([e].length+([]:List Keyword).length+(if ([]:List Keyword).isEmpty then 0 else 1)<30))=Zh:=by rfl)
  (hline:(apos.endLine==cpos.line)=Zh:=by rfl) (hs:ZF [e] X.env=(Zk,eval e X.env)::ZF [] X.env:=by rfl) (hplain:(backTo cpos (ZF [] X.env)).any (·.1)=Zk:=by rfl) :
  QE X EE (.Call (.Attribute o "append" apos) [e] [] cpos) (cJ "list" cK mo m):=JC ado PySem.F.slot_list_append PySem.F.type_list_append yi ho ha hbase hfew hline hs hplain
def oH:D→List D→M D
 | .obj n,[]=>λG=>match G[n]? with
  | some (.lst xs)=>match xs[xs.length - 1]? with
   | some y=>.ok y (G.set n (.lst xs.dropLast))
   | none=>.stuck
  | _=>.stuck
 | _,_=>M.stop
theorem aq.dropLast (r:aq K mg ρ H ds vs):aq K mg ρ H ds.dropLast vs.dropLast:=by rw [adP,adP,← r.length];exact r.take _
theorem Hg:B3 X "list.pop" (OQ X EE oH):=by
 intro pins s σ0 H x xs v us Q I rx OR zu;obtain ⟨σ,τ,ρ,G,d,ds,ab,rd,zy,ok⟩:=zu;cases d<;>try exact ok.elim
 rename_i n
 match ds,ok with
 | _::_,ok=>exact ok.elim
 | [],ok=>
  unfold aq at zy;subst zy;unfold Rep at rd;obtain ⟨p,rfl,e1⟩:=rd;dsimp only [oH] at ok;cases g:G[n]? with
  | none=>rw [g] at ok;exact ok.elim
  | some o=>
   cases o with
   | lst zs=>
    rw [g] at ok;dsimp only at ok;obtain ⟨p',vs,e2,hp,rs⟩:=ab.hp.lst g;rw [e1] at e2;cases e2;cases qz:zs[zs.length - 1]? with
    | none=>rw [qz] at ok;exact ok.elim
    | some y=>rw [qz] at ok;obtain ⟨yv,ey,ry⟩:=rs.get qz;exact Ll pins s σ0 H _ _ v us Q I rx OR ⟨p,vs,yv,rfl,rfl,hp,by rw [← rs.length];exact ey,yh (xs:=zs) ab e1 hp rs.dropLast (λ_ f=>ry.mono f) ok⟩
   | _=>first | (rw [q] at ok;exact ok.elim) | (rw [q] at aI;exact aI.elim) | (rw [q] at e;cases e;done) | (rw [g] at ok;exact ok.elim) | (rw [g] at q;cases q;done) | (rw [g] at h;cases h;done) | (rw [g2] at ok;exact ok.elim) | (rw [g1,g2] at ok;exact ok.elim) | (rw [q1] at ok;exact ok.elim) | exact ok.elim
theorem L5 {apos cpos:Pos} (ho:QE X EE o mo) (hbase:attributeBase o "pop" X.env (eval o X.env)=eval o X.env:=by rfl) (hline:(apos.endLine==cpos.line)=Zh:=by rfl) :
  QE X EE (.Call (.Attribute o "pop" apos) [] [] cpos) (cJ "list" oH mo ah):=L4 ado PySem.F.slot_list_pop PySem.F.type_list_pop Hg ho hbase hline
def nq (v o i:D):M D:=λG=>match o,i with
 | .obj n,.int k=>match G[n]? with
  | some (.lst xs)=>match xE xs.length k with
   | some j=>.ok .cy (G.set n (.lst (xs.set j v)))
   | none=>.stuck
  | _=>.stuck
 | _,_=>.stuck
def lI (mv mo mi:DS→M D):MS:=λτ=>bz ((mv τ).bind λv=>(mo τ).bind λo=>(mi τ).bind λi=>nq v o i) (λ_ G=>.nx τ G) λc G=>.xn c τ G
theorem Dg {i:Expr} {tpos:Pos} (hv:QE X EE a mv) (ho:QE X EE o mo) (hi:QE X EE i mi)
  (hs:swapsWithSole [.Subscript o i tpos] a pos.line X.env=pure Zk:=by rfl) (hw:swappedStores [.Subscript o i tpos] a X.env=pure Zl:=by rfl) (h1:(assignEach [.Subscript o i tpos] X.env).map (·.2)=[assign (.Subscript o i tpos) X.env]:=by rfl)
  (L6:∀ v,assign (.Subscript o i tpos) X.env v=(do
   let ov ← holding [v] (eval o X.env)
   let iv ← holding [v,ov] (eval i X.env)
   standAt tpos
   holding [v,ov,iv] (setItem ov iv v)
   release [v,ov,iv] []):=by intro _;rfl):QS X EE (.Assign [.Subscript o i tpos] a pos) (lI mv mo mi):=
 PS.mono (Ck hv (KG ho hi set_list L6) hs hw h1) λDd σ H zz=>by
  obtain ⟨τ,ρ,G,ab,ok⟩:=zz;refine ⟨τ,ρ,G,ab,?_⟩;dsimp only [lI,bz,M.bind] at ok;cases e1:mv τ G with
  | stuck=>rw [e1] at ok;exact ok
  | bq c G'=>rw [e1] at ok;exact λH' ρ' f aV=>ok σ H' ρ' f aV
  | ok v G1=>
   rw [e1] at ok;intro vv H1 ρ1 f1 fD r1;refine ⟨τ,ρ1,G1,fD,?_⟩;dsimp only at ok;cases e2:mo τ G1 with
   | stuck=>rw [e2] at ok;exact ok
   | bq c G'=>rw [e2] at ok;exact λH' ρ' f aV=>ok σ H' ρ' (f1.trans f) aV
   | ok ov G2=>
    rw [e2] at ok;intro vo H2 ρ2 f2 bA r2;refine ⟨τ,ρ2,G2,bA,?_⟩;dsimp only at ok;cases e3:mi τ G2 with
    | stuck=>rw [e3] at ok;exact ok
    | bq c G'=>rw [e3] at ok;exact λH' ρ' f aV=>ok σ H' ρ' ((f1.trans f2).trans f) aV
    | ok iv G3=>
     rw [e3] at ok;intro vi H3 ρ3 f3 oG r3;dsimp only [nq] at ok;cases ov<;>try exact ok.elim
     cases iv<;>try exact ok.elim
     rename_i n k;have r2':=r2.mono f3;unfold Rep at r2' r3;obtain ⟨p,rfl,e4⟩:=r2';dsimp only at ok;cases g:G3[n]? with
     | none=>rw [g] at ok;exact ok.elim
     | some ob=>
      cases ob with
      | lst zs=>
       rw [g] at ok;dsimp only at ok;obtain ⟨p',vs,e5,hp,rs⟩:=oG.hp.lst g;rw [e4] at e5;cases e5;cases qj:xE zs.length k with
       | none=>rw [qj] at ok;exact ok.elim
       | some j=>rw [qj] at ok;have rr:=rs.set (r1.mono (f2.trans f3)) j;have f4:bX X.K H3 (upd H3 p (.lst (vs.set j vv))) ρ3 ρ3:=o7 hp ρ3;exact ⟨p,vs,k,j,rfl,r3,hp,by rw [← rs.length];exact qj,ok σ _ ρ3 (((f1.trans f2).trans f3).trans f4) (oG.fut f4 (oG.hp.put (ds:=zs) e4 hp rr))⟩
      | _=>first | (rw [q] at ok;exact ok.elim) | (rw [q] at aI;exact aI.elim) | (rw [q] at e;cases e;done) | (rw [g] at ok;exact ok.elim) | (rw [g] at q;cases q;done) | (rw [g] at h;cases h;done) | (rw [g2] at ok;exact ok.elim) | (rw [g1,g2] at ok;exact ok.elim) | (rw [q1] at ok;exact ok.elim) | exact ok.elim
end
structure AJ (B:Heap) (l:List Env) (e:Addr) (cls:Zj) (h:Heap):Prop where
 stay:B.StaysIn h
 new:B.get? e=Zl
 mj:h.FunFrames B l
 tr:(∃ oe vs a0,h.get? e=Zg oe∧oe.cls=cls∧oe.data=.fields vs∧vs[0]?=Zg a0∧vs[1]?=Zg .none)∨∃ a0 fl,h.TracedAtW B e cls a0 fl
section
variable {M:Model} {A:Around} {E:Zj→Zq→Prop} {s:Zq} {B:Heap} {env:Env} {outer l:List Env} {L e:Addr} {cls:Zj} {Q:Unit→Zq→Prop}
theorem yj (h:env'.frame=env.frame) (v:Zj):noteFrame v env'=noteFrame v env:=by unfold noteFrame frameOf;rw [h]
theorem zA (hfr:A.frames=Zg (env::outer)) (hf:env.frame=Zg L) (f:AJ B (env::outer) e cls s.heap)
  (hQ:∀ h' a0,Heap.HeldW B (env::outer) e cls a0 L h'→s.heap.UpToSlots h'→Q () {s with heap:=h'}):ZD M A (noteFrame (.ref e) env) Q E s:=by
 obtain ⟨st,nw,fr,tr⟩:=f;rcases tr with ⟨oe,vs,a0,he,hc,hd,h0,h1⟩ | ⟨a0,fl,oe,vs,T,oT,ts,he,hcls,hd,h1,OS,OT,hT,B4,h3⟩
 ·subst hc;unfold noteFrame;simp only [hf];refine Zi (Z9 he hd h1 ?_);rw [if_neg (by decide)];refine wpAny_entryW hfr fr hf he st nw hd (abk.mp h1).1 h0 λh' hN=>?_;exact hQ h' a0 ⟨hN.1,nw,hN.2.1,hN.2.2.1⟩ hN.2.2.2
 ·by_cases hq:(fl==rawInt L)=Zh
  ·unfold noteFrame;simp only [hf];refine Zi (Z9 he hd h1 ?_);rw [if_pos (show (Value.ref T != Value.none)=Zh by simp)];refine Zi (Z9 hT B4 h3 ?_);rw [if_pos hq];refine Zz ?_;have:=hQ s.heap a0 ⟨st,nw,fr,oe,vs,T,oT,ts,he,hcls,hd,h1,OS,OT,hT,B4,by rw [h3,beq_iff_eq.mp hq]⟩ (.refl _);exact this
  ·obtain ⟨rfl,h0⟩:=hcls;unfold noteFrame;simp only [hf];refine Zi (Z9 he hd h1 ?_);rw [if_pos (show (Value.ref T != Value.none)=Zh by simp)];refine Zi (Z9 hT B4 h3 ?_);rw [if_neg hq];refine Zi (abl hT B4 (abk.mp h3).1 ?_);have qZ:∀ b,b≠T→(s.heap.update T (aaH (·.setIfInBounds 3 Value.none))).get? b=s.heap.get? b:=λb hb=>ZR _ _ (aat hb);have OU:∀ b o,s.heap.get? b=Zg o→(∀ vs,o.data≠.fields vs)→b≠T:=λb o hb hnf z=>by rw [z,hT] at hb;cases hb;exact hnf ts B4
   refine wpAny_entryW hfr (fr.of_keeps λb o hb hnf=>⟨o,(qZ b (OU b o hb hnf)).trans hb,rfl⟩) hf ((qZ e (aat OT)).trans he)
    (λb o Sl=>(qZ b λz=>by rw [z,OS] at Sl;cases Sl).trans (st b o Sl)) nw hd (abk.mp h1).1 h0 λh' hN=>?_
   exact hQ h' a0 ⟨hN.1,nw,hN.2.1,hN.2.2.1⟩ λb o hb hnf=>hN.2.2.2 b o ((qZ b (OU b o hb hnf)).trans hb) hnf
theorem vO (hfr:A.frames=Zg (env::outer)) (hf:env.frame=Zg L) (f:AJ B (env::outer) e cls s.heap)
  (hQ:∀ h' a0,aez B outer e cls a0 h'→s.heap.UpToSlots h'→Q () {s with heap:=h'}):ZD M A (leaving env (.ref e)) Q E s:=by
 unfold leaving;refine Zi (zA hfr hf f λh1 a0 hH u1=>?_);refine wpAny_landsW hH λh2 hF u2=>?_;obtain ⟨k1,k2,⟨_,_,k3⟩,k4⟩:=hF;exact hQ h2 a0 ⟨k1,k2,k3,k4⟩ (u1.trans u2)
theorem AJ.AK (f:aez B l e cls a0 h):AJ B l e cls h:=⟨f.1,f.2.1,f.2.2.1,.inr ⟨a0,.none,f.2.2.2⟩⟩
end
structure UB (X:Cx) (B:Heap):Prop where
 keep:∀ b o,X.s₀.heap.get? b=Zg o→X.H₀ b=Zl→b∉frs X.stack→b∉X.ex→B.get? b=Zg o
 there:∀ b o,X.s₀.heap.get? b=Zg o→b∉frs X.stack→b∉X.ex→∃ o',B.get? b=Zg o'
 pins:∀ p∈X.pn,B.get? p.1=Zg p.2
def OV (X:Cx) (H:Hp) (e:Addr) (cls:Zj) (s:Zq):Prop:=∃ B,AJ B X.stack e cls s.heap∧jo X.prog X.w H B∧UB X B
def zB (mg:Str→Option Zj) (c:XD) (cls:Zj):Prop:=match c with | .mk n _=>mg n=Zg cls
def gb (X:Cx) (EE:bR):Prop:=∀ (pins:List (Addr×Obj)) (σ:L2.St) (H:Hp) (s:Zq) (e:Addr) (cls:Zj) (c:XD),Inv X pins σ H s→OV X H e cls s→zB X.mg c cls→EE c σ H→X.xe (.ref e) s
section
variable {X:Cx} {pins:List (Addr×Obj)} {σ:L2.St} {H:Hp} {s:Zq} {h':Heap}
theorem IsCell.slots {v:Option Zj} (u:h.UpToSlots h') (hc:h.IsCell c v):h'.IsCell c v:=by
 obtain ⟨o,e,d⟩:=hc;obtain ⟨sl,e'⟩:=u c o e λvs q=>by rw [d] at q;cases q
 exact ⟨_,e',d⟩
theorem Inv.JD {t:Nat} (I:Inv X pins σ H s) (C:UB X B) (hok:jo X.prog X.w H B) (st:B.StaysIn h') (u:s.heap.UpToSlots h') (ht:0<t:=by first | exact aab _ | exact (Inv.os (by assumption)).2 | assumption | nofun):Inv X [] σ H {s with heap:=h',toks:=t}:=by
 have zc:∀ b o,X.s₀.heap.get? b=Zg o→b≠X.env.locals:=λb o e=>ZE (Zx (Zu e) I.ok.above);have OW:∀ b o,X.s₀.heap.get? b=Zg o→b∉X.fs→b∉frs X.stack:=λb o e hb z=>by
  rcases ZM.mp (I.j3 b z) with z | z
  ·exact zc b o e z
  ·exact hb z
 have slots:∀ b o,X.s₀.heap.get? b=Zg o→X.H₀ b=Zl→b∈X.fs→b∉X.ex→∃ sl,h'.get? b=Zg {o with slots:=sl}:=λb o e n hb hx=>by obtain ⟨sl,e1⟩:=I.base.slot b o e n hb hx;obtain ⟨_,o',eo,hd⟩:=I.ok.lV.mem hb;rw [e] at eo;cases eo;obtain ⟨NR,e2⟩:=u b _ e1 hd;exact ⟨NR,e2⟩
 refine ⟨I.ok,⟨I.os.1,ht⟩,I.bare,⟨λb o e n hb hx=>st _ _ (C.keep b o e n (OW b o e hb) hx),slots,I.base.free,λb o e hx=>?_,I.base.tups,I.base.jq,I.base.j0⟩,?_,λx c e=>?_,I.free,I.jR,λp hp=>?_,hok.kept st,I.len⟩
 ·by_cases hb:b∈X.fs
  ·obtain ⟨sl,e1⟩:=slots b o e (I.ok.F3 b hb) hb hx;exact ⟨_,e1⟩
  ·obtain ⟨o',e1⟩:=C.there b o e (OW b o e hb) hx;exact ⟨o',st _ _ e1⟩
 ·obtain ⟨m,hn,hl⟩:=I.loc;refine ⟨m,u.ns hn,λi x v e1 e2 e3=>?_⟩;obtain ⟨w,r,l⟩:=hl i x v e1 e2 e3;refine ⟨w,r,?_⟩;rcases l with l | ⟨k,c,e,z⟩
  ·exact .inl l
  ·exact .inr ⟨k,c,e,IsCell.slots u z⟩
 ·obtain ⟨v,z⟩:=I.cell x c e;exact ⟨v,IsCell.slots u z⟩
 ·have B5:p∈X.pn:=by simpa using hp
  obtain ⟨e,n,ne,nf,d⟩:=I.pin p (aa1 _ B5);exact ⟨st _ _ (C.pins p B5),n,ne,nf,d⟩
end
structure OX (P:ZT) (w:aaa) (outer:List Env) (H:Hp) (s:Zq) (H':Hp) (B:Heap) (s':Zq):Prop where
 os:s'.os=s.os∧0<s'.toks
 bare:ab1 s'.gens
 keep:∀ b o,s.heap.get? b=Zg o→H b=Zl→b∉frs outer→B.get? b=Zg o
 there:∀ b o,s.heap.get? b=Zg o→b∉frs outer→∃ o',B.get? b=Zg o'
 slot:∀ b o,s.heap.get? b=Zg o→H b=Zl→b∈frs outer→∃ sl,s'.heap.get? b=Zg {o with slots:=sl}
 free:∀ b o,s.heap.get? b=Zg o→H b=Zl→H' b=Zl
 tups:∀ b xs,H b=Zg (.tup xs)→H' b=Zg (.tup xs)
 jq:∀ b o u,H b=Zg (.dz o u)→H' b=Zg (.dz o u)
 j0:∀ b ps,H b=Zg (.lU ps)→∃ more,H' b=Zg (.lU (ps++more))
 hok:jo P w H' B
def mq (P:ZT) (w:aaa):mY:=λouter H s E ev s'=>∃ e cls a0 B H',ev=.ref e∧aez B outer e cls a0 s'.heap∧OX P w outer H s H' B s'∧E cls Zl H'
theorem AL (h:gb X EE):G8 (mq X.prog X.w) X EE:=by
 intro pins σ H s ev s' I hq;obtain ⟨e,cls,a0,B,H',rfl,fl,F,c,hc,ee⟩:=hq;have un:Un (frs X.stack) [] H H' s.heap s'.heap:=⟨λb o e n hb _=>fl.1 _ _ (F.keep b o e n hb),λb o e n hb _=>F.slot b o e n hb,λb o e n _=>F.free b o e n,λb o e _=>by
  by_cases hb:b∈frs X.stack
  ·obtain ⟨sl,q⟩:=F.slot b o e (I.oZ b hb) hb;exact ⟨_,q⟩
  ·obtain ⟨o',q⟩:=F.there b o e hb;exact ⟨o',fl.1 _ _ q⟩,F.tups,F.jq,F.j0⟩
 have I':Inv X pins σ H' s':=I.Ci F.os un (F.hok.kept fl.1) F.bare λb z=>absurd z (by simp);refine h pins σ H' s' e cls c I' ⟨B,.AK fl,F.hok,λb o eb n hb hx=>?_,λb o eb hb hx=>?_,λp hp=>?_⟩ hc ee
 ·have Sm:b∉X.fs:=λz=>hb (by
   rcases I.ok.stk with q | ⟨q,_⟩
   ·rw [q];exact z
   ·rw [q];unfold frs;rw [aba];split
    ·exact z
    ·exact ZY _ z)
  exact F.keep b o (I.base.keep b o eb n Sm hx) (I.base.free b o eb n hx) hb
 ·obtain ⟨o',q⟩:=I.base.there b o eb hx;exact F.there b o' q hb
 ·obtain ⟨q,n,ne,nf,d⟩:=I.pin p (aa1 _ hp);exact F.keep p.1 p.2 q n λz=>by
   rcases ZM.mp (I.j3 _ z) with z | z
   ·exact ne z
   ·exact nf z
section
variable {P:ZT} {w:aaa} {K:Zo} {mg:Str→Option Zj} {base:Heap} {f:Addr} {fd:FuncData}
theorem Sn {st:Stmt} {ps:List Str} {k:Nat} {m:List D→M D} (F:rZ K x qual st f fd) (S:fY N ps (au st)) (hps:ps.length=n) (hN:N.length=nn) (hm:∀ ds,m ds=bL nn ms ds)
  (hbody:∀ (X:Cx) (EE:bR) (cdv:Zj) (A:Around) (outer:List Env) (s:Zq) (H:Hp) (E:XK),X=lB (mq P w) P w K mg base N qual (au st) f cdv A outer s H E→cP k (A.deeper (aaT qual (au st) s.heap.objs.size f cdv)) →
   gb X EE→PassesOwn (model P w) X.A X.env X.xe→qY X EE (ck st) ms) :
  gA P w K mg base (mq P w) (k+1) f fd ps (fW K mg n m):=by
 subst hps hN;have e:m=λds=>bL N.length ms ds:=funext hm;subst e;obtain ⟨oc,od,kV,doc,pm,an,cdv,ct,osl,rfl,lk,hcd⟩:=F.ex;refine Oh lk hcd S (λvs H Q E h=>h.len) λA outer s H vs Q E hr h=>?_;obtain ⟨ds,ρ,G,hn,hp,rs,ok⟩:=h;refine ⟨_,hbody _ (λc σ H'=>∀ cls,zB mg c cls→E cls Zl H') cdv A outer s H E rfl hr ?_ acu,ds.map Zg++ZH (N.length - ds.length) Zl,ρ,G,⟨jC rs,hp⟩,?_⟩
 ·intro pins σ H' s' e cls c I fx hc ee;obtain ⟨B,fb,hok,AM⟩:=fx;refine vO (L:=s.heap.objs.size) I.ok.frames rfl fb λh' a0 fl u=>?_;have I':Inv _ [] σ H' {s' with heap:=h'}:=Inv.JD (t:=s'.toks) I AM hok fl.1 u;have zc:∀ b o,s.heap.get? b=Zg o→b∉frs outer→b∉frs (aaT qual (au st) s.heap.objs.size f cdv::outer):=λb o e hb z=>by
   rcases ZM.mp (I.j3 b z) with z | z
   ·exact absurd (Zu e) (by rw [show b=s.heap.objs.size from z];exact aao _)
   ·exact hb z
  refine ⟨e,cls,a0,B,H',rfl,fl,⟨I'.os,I'.bare,λb o eb nb hb=>AM.keep b o eb nb (zc b o eb hb) (by intro z;exact absurd (show b∈([]:List Addr) from z) (by simp)),λb o eb hb=>AM.there b o eb (zc b o eb hb) (by intro z;exact absurd (show b∈([]:List Addr) from z) (by simp)),
   λb o eb nb hb=>I'.base.slot b o eb nb hb (by intro z;exact absurd (show b∈([]:List Addr) from z) (by simp)),λb o eb nb=>I'.base.free b o eb nb (by intro z;exact absurd (show b∈([]:List Addr) from z) (by simp)),I'.base.tups,I'.base.jq,I'.base.j0,hok⟩,ee cls hc⟩
 ·dsimp only [bL] at ok;cases q:ms (ds.map Zg++ZH (N.length - ds.length) Zl) G with
  | stuck=>rw [q] at ok;exact ok
  | nx τ G'=>rw [q] at ok;exact λσ' H' ρ' f ab=>ok .cy H' ρ' f ab.hp (by unfold Rep;rfl)
  | rt d G'=>rw [q] at ok;exact λv H' ρ' f hp r=>ok v H' ρ' f hp r
  | bk τ G'=>rw [q] at ok;exact ok.elim
  | ct τ G'=>rw [q] at ok;exact ok.elim
  | xn c τ G'=>rw [q] at ok;exact λσ' H' ρ' f ab cls hc=>ok cls H' ρ' hc f ab.hp
end
theorem Dh (x:jo P w H h) (k:∀ b o,H b≠Zl→h.get? b=Zg o→B.get? b=Zg o):jo P w H B:=λa o e=>
 (x a o e).stay (λb u hb q=>k b u (by
  rcases hb with z | z
  ·rw [z,e];simp
  ·rw [z];simp) q) (λ_ q=>q) λ_ _ q=>q
section
variable {X:Cx} {EE:bR} {pins:List (Addr×Obj)} {σ:L2.St} {H:Hp} {s:Zq}
def Di (x:Str) (m:DS→M (List D)):MS:=λτ=>bz (m τ) (λds G=>if ds.length≤Zm then .xn (.mk x ds) τ G else .stuck) λc G=>.xn c τ G
end
abbrev Cx.to (X:Cx) (E:Zj→Zq→Prop) (pn:List (Addr×Obj)):Cx:={X with xe:=E,pn:=pn}
def gq (env:Env):List (Str×NameKind)→List (Str×Addr)→List (Str×Addr)
 | [],acc=>acc
 | (n,k)::r,acc=>gq env r (if k==.free then (match env.cells.lookup n with | some c=>(n,c)::acc | none=>acc) else acc)
theorem k8 (h:∀ x∈scope.names,x.2=.free→∃ c,env.cells.lookup x.1=Zg c):closureFor scope env=pure (gq env scope.names []):=by
 unfold closureFor
 have key:∀ (names:List (Str×NameKind)) (acc:List (Str×Addr)),(∀ x∈names,x.2=.free→∃ c,env.cells.lookup x.1=Zg c) →
   (forIn names acc λx r=>match x with | (name,kind)=>if (kind==NameKind.free)=Zh then do let y ← cellOf env name;pure (ForInStep.yield ((name,y)::r)) else pure (ForInStep.yield r))=(pure (gq env names acc):Sem (List (Str×Addr))):=by
  intro names
  induction names with
  | nil=>intro acc _;rfl
  | cons x r ih=>
   intro acc hx;obtain ⟨n,k⟩:=x;rw [List.forIn_cons];by_cases hk:(k==NameKind.free)=Zh
   ·obtain ⟨c,hc⟩:=hx (n,k) abg (eq_of_beq hk);have e:cellOf env n=pure c:=by unfold cellOf;rw [hc]
    simp only [if_pos hk,e,pure_bind];rw [ih _ λy hy=>hx y (ZY _ hy)];show _=pure (gq env r (if (k==NameKind.free)=Zh then (match env.cells.lookup n with | some c=>(n,c)::acc | none=>acc) else acc));rw [if_pos hk,hc]
   ·simp only [if_neg hk,pure_bind];rw [ih _ λy hy=>hx y (ZY _ hy)];show _=pure (gq env r (if (k==NameKind.free)=Zh then (match env.cells.lookup n with | some c=>(n,c)::acc | none=>acc) else acc));rw [if_neg hk]
 have k2:=key scope.names [] h
 first
  | (rw [k2];rfl)
  | (simp only [k2,pure_bind])
  | exact k2
theorem pW {env:Env}:∀ (names:List (Str×NameKind)) (acc:List (Str×Addr)),(∀ y c,acc.lookup y=Zg c→env.cells.lookup y=Zg c)→∀ y c,(gq env names acc).lookup y=Zg c→env.cells.lookup y=Zg c
 | [],acc,h,y,c,e=>h y c e
 | (n,k)::r,acc,h,y,c,e=>by
  refine pW r _ (λz d ez=>?_) y c e;by_cases hk:(k==NameKind.free)=Zh
  ·rw [if_pos hk] at ez;cases q:env.cells.lookup n with
   | none=>rw [q] at ez;exact h z d ez
   | some c'=>
    rw [q] at ez;dsimp only at ez;rw [ZW] at ez;cases hz:z==n with
    | true=>rw [hz] at ez;cases ez;rw [eq_of_beq hz];exact q
    | false=>rw [hz] at ez;exact h z d ez
  ·rw [if_neg hk] at ez;exact h z d ez
theorem pX {env:Env}:∀ (names:List (Str×NameKind)) (acc:List (Str×Addr)) (y:Str),((∃ c,acc.lookup y=Zg c)∨((y,NameKind.free)∈names∧∃ c,env.cells.lookup y=Zg c))→∃ c,(gq env names acc).lookup y=Zg c
 | [],acc,y,h=>by
  rcases h with h | ⟨h,_⟩
  ·exact h
  ·cases h
 | (n,k)::r,acc,y,h=>by
  refine pX r _ y ?_;rcases h with ⟨c,h⟩ | ⟨h,c,hc⟩
  ·left;by_cases hk:(k==NameKind.free)=Zh
   ·rw [if_pos hk];cases q:env.cells.lookup n with
    | none=>exact ⟨c,h⟩
    | some c'=>
     dsimp only;rw [ZW];cases hz:y==n with
     | true=>exact ⟨c',rfl⟩
     | false=>exact ⟨c,h⟩
   ·rw [if_neg hk];exact ⟨c,h⟩
  ·rcases ZM.mp h with e | h
   ·cases e;left;rw [if_pos (by rfl),hc];dsimp only;exact ⟨c,by rw [ZW,beq_self_eq_true]⟩
   ·exact .inr ⟨h,c,hc⟩
section
open PyProof.Rows
def mask {α:Type}:List Bool→List (Option α)→List (Option α)
 | _,[]=>[]
 | [],_::r=>Zl::mask [] r
 | k::ks,o::r=>(if k then o else Zl)::mask ks r
theorem iR {α:Type}:∀ (ks:List Bool) (l:List (Option α)),(mask ks l).length=l.length
 | _,[]=>by unfold mask;rfl
 | [],_::r=>by unfold mask;simp [iR [] r]
 | k::ks,o::r=>by unfold mask;simp [iR ks r]
theorem j7 {α:Type} {v:α}:∀ {ks:List Bool} {l:List (Option α)} {i:Nat},(mask ks l)[i]?=Zg (Zg v)→ks[i]?=Zg Zh∧l[i]?=Zg (Zg v)
 | ks,[],i,h=>by unfold mask at h;simp at h
 | [],o::r,0,h=>by unfold mask at h;simp at h
 | [],o::r,i+1,h=>by unfold mask at h;have:=(j7 (ks:=[]) (l:=r) (i:=i) (by simpa using h)).1;simp at this
 | k::ks,o::r,0,h=>by
  unfold mask at h;cases k with
  | true=>simpa using h
  | false=>simp at h
 | k::ks,o::r,i+1,h=>by unfold mask at h;have:=j7 (ks:=ks) (l:=r) (i:=i) (by simpa using h);simpa using this
theorem zC {α:Type} {v:α}:∀ {ks:List Bool} {l:List (Option α)} {i:Nat},ks[i]?=Zg Zh→l[i]?=Zg (Zg v)→(mask ks l)[i]?=Zg (Zg v)
 | ks,[],i,_,h=>by simp at h
 | [],o::r,i,h,_=>by simp at h
 | k::ks,o::r,0,h,e=>by unfold mask;simp at h e;simp [h,e]
 | k::ks,o::r,i+1,h,e=>by unfold mask;have:=zC (ks:=ks) (l:=r) (i:=i) (by simpa using h) (by simpa using e);simpa using this
def q8 (env:Env) (n:Str) (k:NameKind):NameKind:=if (k==.free&&env.scope.kind==.function&&env.kindOf n==Zg .cell) then .cell else k
theorem eX {env:Env} {y:Str}:∀ (names:List (Str×NameKind)),(names.map λ(n,k)=>if (k==NameKind.free&&env.scope.kind==.function&&env.kindOf n==Zg .cell) then (n,NameKind.cell) else (n,k)).lookup y=(names.lookup y).map (q8 env y)
 | []=>rfl
 | (n,k)::r=>by
  have ih:=eX (env:=env) (y:=y) r;rw [Zy,ZW];by_cases hc:(k==NameKind.free&&env.scope.kind==.function&&env.kindOf n==Zg .cell)=Zh
  ·rw [if_pos hc,ZW];cases hy:y==n with
   | true=>have e:y=n:=eq_of_beq hy;subst e;simp [q8,hc]
   | false=>exact ih
  ·rw [if_neg hc,ZW];cases hy:y==n with
   | true=>have e:y=n:=eq_of_beq hy;subst e;simp [q8,hc]
   | false=>exact ih
structure br (QX:Scope) (N:List Str) (scope:Scope) (xs:List Str) (ks:List Bool):Prop where
 nd:xs.Nodup
 kind:scope.kind=.function
 pY:∀ y∈scope.names,y.2≠.cell
 names:∀ y∈scope.names,y.2=.local→scope.names.lookup y.1=Zg .local
 loc:∀ x∈xs,scope.names.lookup x=Zg .local
 free:∀ y∈scope.names,y.2=.free→QX.names.lookup y.1=Zg .cell∨QX.names.lookup y.1=Zg .free
 So:((ks.zip N).all λp=>!p.1||decide (scope.names.lookup p.2=Zg .free))=Zh
theorem br.cap {xs:List Str} (S:br QX N scope xs ks):∀ i<ks.length,ks[i]?=Zg Zh→∀ y∈N[i]?,scope.names.lookup y=Zg .free:=λi _ hk y hy=>by have h:=ab4.mp S.So (Zh,y) (Z0 (i:=i) (by rw [List.getElem?_zip_eq_some];exact ⟨hk,hy⟩));simpa using h
def mw (X:Cx) (scope:Scope) (cl:List (Str×Addr)) (xs:List Str) (C:Addr) (pins:List (Addr×Obj)) (s:Zq) (H:Hp) (fp:List Addr) (E:Zj→Zq→Prop):Cx where
 prog:=X.prog
 w:=X.w
 K:=X.K
 mg:=X.mg
 base:=X.base
 A:=X.A
 N:=xs++X.N
 s₀:=s
 H₀:=H
 env:=compEnvC scope cl C X.env
 outer:=X.stack
 stack:=X.stack
 ex:=fp
 fn:=λ_=>Zk
 calm:=X.calm
 pn:=X.pn++pins
 xe:=E
section
variable {X:Cx} {scope:Scope} {xs:List Str} {x:Str} {ks:List Bool} {pins:List (Addr×Obj)} {σ:L2.St} {H:Hp} {s s4:Zq} {fp:List Addr} {E:Zj→Zq→Prop} {h1:Heap}
theorem mem_lookup {α β:Type} [BEq α] [LawfulBEq α]:∀ {l:List (α×β)} {a:α} {b:β},l.lookup a=Zg b→(a,b)∈l
 | [],_,_,h=>by simp at h
 | (a',b')::r,a,b,h=>by
  rw [ZW] at h;cases hz:a==a' with
  | true=>rw [hz] at h;cases h;rw [eq_of_beq hz];exact abg
  | false=>rw [hz] at h;exact ZY _ (mem_lookup h)
theorem Dj (S:br X.env.scope X.N scope xs ks) {cl:List (Str×Addr)} {C:Addr} {y:Str} (h:(compEnvC scope cl C X.env).kindOf y=Zg .cell∨(compEnvC scope cl C X.env).kindOf y=Zg .free):scope.names.lookup y=Zg .free:=by
 have h':(scope.names.lookup y).map (q8 X.env y)=Zg .cell∨(scope.names.lookup y).map (q8 X.env y)=Zg .free:=by rw [← eX];exact h
 cases q:scope.names.lookup y with
 | none=>rw [q] at h';rcases h' with h' | h'<;>cases h'
 | some k=>
  rw [q] at h';cases k with
  | free=>rfl
  | cell=>exact absurd rfl (S.pY _ (mem_lookup q))
  | _=>rcases h' with h' | h'<;>simp [q8] at h'
theorem nt (S:br X.env.scope X.N scope xs ks) {cl:List (Str×Addr)} {C:Addr} {y:Str} (h:scope.names.lookup y=Zg .free):(compEnvC scope cl C X.env).kindOf y=Zg .cell∨(compEnvC scope cl C X.env).kindOf y=Zg .free:=by
 have e:(compEnvC scope cl C X.env).kindOf y=(scope.names.lookup y).map (q8 X.env y):=eX scope.names;rw [e,h];unfold q8;dsimp only [Option.map];split
 ·exact .inl rfl
 ·exact .inr rfl
theorem pZ (S:br X.env.scope X.N scope xs ks) (hx:x∈xs) {cl:List (Str×Addr)} {C:Addr}:(compEnvC scope cl C X.env).kindOf x=Zg .local:=by have e:(compEnvC scope cl C X.env).kindOf x=(scope.names.lookup x).map (q8 X.env x):=eX scope.names;rw [e,S.loc x hx];rfl
theorem yk (S:br X.env.scope X.N scope xs ks) (I:Inv X pins σ H s) (hf:∀ b∈fp,ly X pins H b∧b<s.heap.objs.size) (hn:h1.Ns s.heap.objs.size λ_=>Zl) (hk:∀ b o,s.heap.get? b=Zg o→h1.get? b=Zg o) (t:Nat) (ht:0<t:=by first | exact aab _ | exact (Inv.os (by assumption)).2 | assumption | nofun) :
  Inv (mw X scope (gq X.env scope.names []) xs s.heap.objs.size pins s H fp E) [] (ZH xs.length Zl++mask ks σ) H {s with heap:=h1,toks:=t}:=by
 have cs:∀ y c,(gq X.env scope.names []).lookup y=Zg c→X.env.cells.lookup y=Zg c:=pW scope.names [] λy c e=>by simp at e
 have lt:∀ b o,s.heap.get? b=Zg o→b≠s.heap.objs.size:=λb o e=>ZE (Zu e);have L7:∀ y c,X.env.cells.lookup y=Zg c→∃ v,s.heap.IsCell c v:=λy c e=>I.cell y c e;have JE:∀ b,b≠X.env.locals→b∉X.fs→b∉frs X.stack:=λb h1 h2 h3=>(ZM.mp (I.j3 b h3)).elim h1 h2
 refine ⟨⟨I.ok.mod,?_,I.ok.glob,I.ok.blt,Zs _,λy z c e1 e2=>I.ok.inj y z c (cs y c e1) (cs z c e2),λy hy=>?_,λy c h _=>absurd (show Zk=Zh from h) ZX,I.ok.hd,I.ok.frames,.inl rfl,λb hb=>⟨ZE (hf b hb).2,λy c e=>(hf b hb).1.2.2.2.2.1 y c (cs y c e)⟩,I.bs,
   aal I.ok.FN I.sz,λb o e hb=>?_,λb hb=>JE b (hf b hb).1.2.1 (hf b hb).1.2.2.1,I.stack,I.oZ⟩,⟨rfl,ht⟩,I.bare,Un.kept hk,⟨_,hn,λi y v e1 e2 e3=>?_⟩,λy c e=>?_,I.hok.fresh (Zs _),λy c e=>(I.jR y c (cs y c e)).imp id λz=>⟨rfl,z.2⟩,λp hp=>?_,I.hok.kept hk,?_⟩
 ·show (relabel scope X.env).kind=.function;exact S.kind
 ·have hfree:=Dj S hy;have hm:=mem_lookup hfree;refine pX scope.names [] y (.inr ⟨hm,?_⟩);exact I.ok.has y (S.free _ hm rfl)
 ·rcases (hf b hb).1.2.2.2.1 with z | z
  ·exact I.ok.F1 b o e z
  ·exact absurd (Zx (Zu (I.ok.bs b o e).1) z) (aao _)
 ·by_cases hlt:i<xs.length
  ·rw [ZC (by simpa using hlt),abI] at e2;rw [if_pos hlt] at e2;cases e2
  ·obtain ⟨j,rfl⟩:∃ j,i=xs.length+j:=⟨i - xs.length,by nofun⟩;have tZ:(mask ks σ)[j]?=Zg (Zg v):=by rw [ZO (by simp)] at e2;simpa using e2
   obtain ⟨hks,eσ⟩:=j7 tZ;have xF:X.N[j]?=Zg y:=by have:(xs++X.N)[xs.length+j]?=Zg y:=e1;rw [ZO (by nofun)] at this;simpa using this
   have hfree:scope.names.lookup y=Zg .free:=S.cap j (Zp.mp hks).1 hks y (by rw [xF];rfl);obtain ⟨m,hm,hl⟩:=I.loc;have hkind:=S.free _ (mem_lookup hfree) rfl;obtain ⟨u,r,l⟩:=hl j y v xF eσ (hkind.elim (λz=>.inr (.inl z)) λz=>.inr (.inr z));refine ⟨u,r,.inr ⟨nt S hfree,?_⟩⟩;rcases l with ⟨k,_⟩ | ⟨k,c,ec,hc⟩
   ·have k':X.env.scope.names.lookup y=Zg .local:=k;rcases hkind with z | z<;>(rw [k'] at z;cases z)
   ·obtain ⟨c',UC⟩:=pX (env:=X.env) scope.names [] y (.inr ⟨mem_lookup hfree,c,ec⟩);have:=cs y c' UC;rw [ec] at this;cases this;exact ⟨c,UC,hc.keeps hk⟩
 ·obtain ⟨v,hc⟩:=L7 y c (cs y c e);exact ⟨v,hc.keeps hk⟩
 ·have B5:p∈X.pn++pins:=by have:p∈(X.pn++pins)++[]:=hp;simpa using this
  obtain ⟨e,n,ne,nf,d⟩:=I.pin p B5;exact ⟨hk _ _ e,n,lt _ _ e,JE _ ne nf,d⟩
 ·show (ZH xs.length Zl++mask ks σ).length=(xs++X.N).length;simp [iR,I.len]
theorem lJ {Xc:Cx} {u:Zj} {Q:Unit→Zq→Prop} {H1:Hp}
  (S:br X.env.scope X.N scope xs ks) (e:Xc=mw X scope cl xs C pins s0 H0 fp E) (JF:own.length=xs.length) (hx:xs[n]?=Zg x) (I:Inv Xc gT (own++mask ks σ0) H1 s1) (r:RelV v u) (h:∀ s',Inv Xc gT (own.set n (Zg v)++mask ks σ0) H1 s'→Q () s') :
  ZD M' A' (assign (.Name x px) Xc.env u) Q E' s1:=by
 subst e;obtain ⟨m,hn,hl⟩:=id I.loc;have OY:=pZ (cl:=cl) (C:=C) S (Z0 hx);refine ac8 (adM OY hn (λh' hn' hs=>?_) (by rw [show (mw X scope cl xs C pins s0 H0 fp E).env.scope.kind=.function from S.kind];rfl));refine h _ ?_;have zc:∀ b o,s0.heap.get? b=Zg o→b≠C:=λb o e=>ZE (Zx (Zu e) I.ok.above);obtain ⟨oL,_,_,Uu,_⟩:=id hn;have hfree:H1 C=Zl:=I.free;refine ⟨I.ok,⟨I.os.1,aab _⟩,I.bare,⟨λb o e n hb hx=>?_,λb o e n hb hx=>?_,I.base.free,λb o e hx=>?_,I.base.tups,I.base.jq,I.base.j0⟩,⟨_,hn',λj y v' e1 e2 e3=>?_⟩,λy c e=>?_,I.free,I.jR,λp hp=>?_,λb ob e=>?_,by simpa using I.len⟩
 ·exact (hs.2 b (zc b o e)).trans (I.base.keep b o e n hb hx)
 ·obtain ⟨sl,e1⟩:=I.base.slot b o e n hb hx;exact ⟨sl,(hs.2 b (zc b o e)).trans e1⟩
 ·obtain ⟨o',e1⟩:=I.base.there b o e hx;exact ⟨o',(hs.2 b (zc b o e)).trans e1⟩
 ·have hnl:n<xs.length:=(Zp.mp hx).1;by_cases hlt:j<xs.length
  ·have ey:xs[j]?=Zg y:=by
    have:(xs++X.N)[j]?=Zg y:=e1
    rwa [ZC hlt] at this
   rw [ZC (by simp;nofun)] at e2;by_cases hj:n=j
   ·subst hj;rw [hx] at ey;cases ey;rw [aap,if_pos rfl,if_pos (by nofun)] at e2;cases e2;exact ⟨u,r,.inl ⟨OY,by simp⟩⟩
   ·rw [ZZ hj] at e2;have hne:y≠x:=by rintro rfl;obtain ⟨h1,xF⟩:=Zp.mp hx;obtain ⟨h2,tZ⟩:=Zp.mp ey;exact hj ((aaO S.nd).mp (xF.trans tZ.symm))
    obtain ⟨u',r',q⟩:=hl j y v' e1 (by rw [ZC (by nofun)];exact e2) e3;refine ⟨u',r',?_⟩;rcases q with ⟨k,e⟩ | ⟨k,c,e,z⟩
    ·exact .inl ⟨k,by simpa [hne] using e⟩
    ·exact .inr ⟨k,c,e,z.sameBut hs (I.Cg y c e)⟩
  ·obtain ⟨j,rfl⟩:∃ k,j=xs.length+k:=⟨j - xs.length,by nofun⟩;have tZ:(mask ks σ0)[j]?=Zg (Zg v'):=by rw [ZO (by simp;nofun)] at e2;simpa [JF] using e2
   obtain ⟨u',r',q⟩:=hl (xs.length+j) y v' e1 (by rw [ZO (by nofun)];simpa [JF] using tZ) e3;refine ⟨u',r',?_⟩;rcases q with ⟨k,e⟩ | ⟨k,c,e,z⟩
   ·obtain ⟨hks,_⟩:=j7 tZ;have xF:X.N[j]?=Zg y:=by have:(xs++X.N)[xs.length+j]?=Zg y:=e1;rw [ZO (by nofun)] at this;simpa using this
    have hfr:scope.names.lookup y=Zg .free:=S.cap j (Zp.mp hks).1 hks y (by rw [xF];rfl);rcases nt (cl:=cl) (C:=C) S hfr with z | z
    ·have k':(compEnvC scope cl C X.env).kindOf y=Zg .local:=k;rw [k'] at z;cases z
    ·have k':(compEnvC scope cl C X.env).kindOf y=Zg .local:=k;rw [k'] at z;cases z
   ·exact .inr ⟨k,c,e,z.sameBut hs (I.Cg y c e)⟩
 ·obtain ⟨w',z⟩:=I.cell y c e;exact ⟨w',z.sameBut hs (I.Cg y c e)⟩
 ·obtain ⟨e,n,ne,nf,d⟩:=I.pin p hp;exact ⟨(hs.2 p.1 ne).trans e,n,ne,nf,d⟩
 ·refine (I.hok b ob e).stay (λc w' hc q=>(hs.2 c ?_).trans q) (λ_ q=>q) λ_ _ q=>q;intro ec;rcases hc with hc | hc
  ·have:H1 C=Zg ob:=by rw [← (show c=C from ec),hc];exact e
   rw [hfree] at this;cases this
  ·have:H1 C=Zg (.own b):=by rw [← (show c=C from ec)];exact hc
   rw [hfree] at this;cases this
def OZ:V→Hp→List V→Prop:=λx _ vs=>vs=[x]
def O0 (K:Zo) (n:Nat):V→Hp→List V→Prop:=λx H vs=>∃ a,x=.ref a∧lq K H a vs∧vs.length=n
def Own (X:Cx) (scope:Scope) (xs:List Str) (ks:List Bool) (tg:Expr) (ow:V→Hp→List V→Prop):Prop:=
 ∀ (cl:List (Str×Addr)) (C:Addr) (pins:List (Addr×Obj)) (s0:Zq) (H0:Hp) (fp:List Addr) (E:Zj→Zq→Prop) (Xc:Cx) (σ0:L2.St) (own:List (Option V)) (x:V) (vs:List V) (u:Zj) (H1:Hp) (s1:Zq) (gT:List (Addr×Obj)) (E':Zj→Zq→Prop) (Q:Unit→Zq→Prop),
  Xc=mw X scope cl xs C pins s0 H0 fp E→own.length=xs.length→Inv Xc gT (own++mask ks σ0) H1 s1→RelV x u→ow x H1 vs →
  (vs.length=xs.length→∀ s',Inv Xc gT (vs.map Zg++mask ks σ0) H1 s'→Q () s')→ZD (model X.prog X.w) X.A (assign tg Xc.env u) Q E' s1
theorem Dk (S:br X.env.scope X.N scope [x] ks):Own X scope [x] ks (.Name x px) OZ:=by
 intro cl C pins s0 H0 fp E Xc σ0 own v vs u H1 s1 gT E' Q e ho I r hv h;cases hv;rcases own with _ | ⟨a,_ | ⟨b,ro⟩⟩<;>try (cases ho;done)
 exact lJ (own:=[a]) (n:=0) S e rfl rfl I r λs' I'=>h rfl s' I'
theorem Dl {pt:Pos} {k:Nat} (hc:X.calm=Zh) (S:br X.env.scope X.N scope [x,y] ks):Own X scope [x,y] ks (.Tuple [.Name x px,.Name y py] k pt) (O0 X.K 2):=by
 intro cl C pins s0 H0 fp E Xc σ0 own v vs u H1 s1 gT E' Q e ho I r hv h;obtain ⟨a,rfl,sq,hl⟩:=hv;cases r;rcases own with _ | ⟨a1,_ | ⟨a2,_ | ⟨a3,ro⟩⟩⟩<;>try (cases ho;done)
 rcases vs with _ | ⟨v1,_ | ⟨v2,_ | ⟨v3,rw⟩⟩⟩<;>try (cases hl;done)
 have VW:lq Xc.K H1 a [v1,v2]:=by rw [e];exact sq
 obtain ⟨its,rv,ht,hz⟩:=I.tuple VW;cases rv with
 | cons r1 rv=>
 cases rv with
 | cons r2 rv=>
 cases rv;have hd:X.A.handled=Zl:=by have:=I.ok.hd (by rw [e];exact hc);rw [e] at this;exact this
 refine assign_Tuple_tuple hd ht rfl rfl λh' hx=>?_;have I1:Inv Xc gT ([a1,a2]++mask ks σ0) H1 {s1 with heap:=h'}:=I.kept (t':=s1.toks) λb o e=>hx b o (ZE (Zu e)) e;refine assignInOrder_cons (lJ (own:=[a1,a2]) (n:=0) S e rfl rfl I1 r1 λs2 I2=>?_);refine assignInOrder_cons (lJ (own:=[Zg v1,a2]) (n:=1) S e rfl rfl I2 r2 λs3 I3=>?_);exact assignInOrder_nil (h rfl _ I3)
end
end
theorem t7 {prog:ZT} {w:aaa} {A:Around} {R:Result→Zq→Prop} {s:Zq} {elt target iter:Expr} {ifs:List Expr} {scope:Scope} {pos:Pos} {it acc:Zj} {env:Env} (I:Nat→Zq→Prop)
  (turn:∀ (n:Nat) (s:Zq),I n s→ZD (model prog w) A (pyNext it) (λr s₁=>match r with
   | none=>R (.ok .next) s₁
   | some v=>ZD (model prog w) A (letOwnedTupleGo target it v) (λ_ s₁'=>ZD (model prog w) A (assign target env v) (λ_ s₂=>ZD (model prog w) A (forIn ifs Zh λc r=>if r=Zh then do let ok ← isTrue c env (eval c env);pure (ForInStep.yield ok) else pure (ForInStep.yield r)) (λok s₃=>if ok=Zh then ZD (model prog w) A (eval elt env) (λx s₄=>ZD (model prog w) A (call (.builtin "list.append") [acc,x]) (λ_ s₅=>∃ m,m<n∧I m s₅) (notedBy (model prog w) A env λe s'=>R (.error e) s') s₄) (notedBy (model prog w) A env λe s'=>R (.error e) s') s₃ else ∃ m,m<n∧I m s₃) (notedBy (model prog w) A env λe s'=>R (.error e) s') s₂) (notedBy (model prog w) A env λe s'=>R (.error e) s') s₁') (notedBy (model prog w) A env λe s'=>R (.error e) s') s₁) (notedBy (model prog w) A env λe s'=>R (.error e) s') s) (n:Nat) (h:I n s) :
  codeAny (model prog w) A (.compLoop (.ListComp elt [⟨target,iter,ifs,0⟩] scope pos) 0 it acc env) R s:=by
 refine codeAny_loop rfl I (λn s hI=>?_) n h;refine wpAny_noted ?_;rw [compTurn_list];refine Zi (ad7 (Zi (Z8 (turn n s hI) (λr s₁ h₁=>?_) λ_ _ z=>z)));cases r with
 | none=>exact Zz h₁
 | some v=>
  refine Zi (Z8 h₁ (λ_ s₂ h₂=>Zi (Z8 h₂ (λ_ s₃ h₃=>Zi (Z8 h₃ (λok s₄ h₄=>?_) λ_ _ z=>z)) λ_ _ z=>z)) λ_ _ z=>z);cases ok with
  | false=>exact Zz ⟨rfl,h₄⟩
  | true=>exact Zi (Zi (Z8 h₄ (λx s₅ h₅=>Zi (Z8 h₅ (λ_ s₆ h₆=>Zz (Zz ⟨rfl,h₆⟩)) λ_ _ z=>z)) λ_ _ z=>z))
def CT (X:Cx) (ifs:List Expr) (tt:TT):Prop:=∀ (pins:List (Addr×Obj)) (s:Zq) (σ:L2.St) (H:Hp) (Q:Bool→Hp→Prop),Inv X pins σ H s→tt σ H Q →
 ZD (model X.prog X.w) X.A (forIn ifs Zh λc r=>if r=Zh then do let ok ← isTrue c X.env (eval c X.env);pure (ForInStep.yield ok) else pure (ForInStep.yield r)) (TP X pins σ Q) X.xe s
theorem L8:CT X [] (λ_ H Q=>Q Zh H):=λ_ _ _ H _ I h=>wpAny_tests_nil ⟨H,I,h⟩
theorem Ma {c:Expr} {t:TT} (h:PT X c t):CT X [c] t:=λpins s σ H Q I q=>wpAny_tests_one (h pins s σ H Q I q)
def vP (wi:TI) (ks:List Bool) (ow:V→Hp→List V→Prop) (tt:TT) (te:TE):TE:=λσ H Q=>wi σ H λJ H1=>∀ D,H1 D=Zl→∃ W:Nat→Nat→Hp→Prop,(∃ m,W 0 m (upd H1 D (.lst [])))∧∀ i m H,W i m H →
  (J.stop i H∧Q (.ref D) H)∨(J.go i H∧∀ x H',J.rQ i H x H'→∃ vs,ow x H' vs∧tt (vs.map Zg++mask ks σ) H' λb H2=>if b=Zh then te (vs.map Zg++mask ks σ) H2 λv H3=>∃ ys,H3 D=Zg (.lst ys)∧ys.length<Zm∧∃ m',m'<m∧W (i+1) m' (upd H3 D (.lst (ys++[v]))) else ∃ m',m'<m∧W (i+1) m' H2)
section
variable {X:Cx} {scope:Scope} {xs:List Str} {tg:Expr} {ow:V→Hp→List V→Prop} {ks:List Bool} {pins:List (Addr×Obj)} {σ:L2.St} {H:Hp} {s s4:Zq} {fp:List Addr} {E:Zj→Zq→Prop} {h1:Heap} {elt iter:Expr} {ifs:List Expr} {px pos:Pos} {tt:TT} {te:TE} {wi:TI}
theorem nZ {h h' B B':Heap}:∀ {l:List Env},h.FunFrames B l→(∀ b∈frs l,∀ o,h.get? b=Zg o→(∀ vs,o.data≠.fields vs)→∃ o',h'.get? b=Zg o'∧o'.data=o.data)→(∀ b∈frs l,B'.get? b=Zl)→h'.FunFrames B' l
 | [],_,_,_=>trivial
 | env::r,⟨hk,⟨L,o,hf,_,ho,hd⟩,hr⟩,hm,hB=>by
  have sub:∀ b,b=L∨b∈frs r→b∈frs (env::r):=λb hb=>by
   unfold frs;rw [aba,hf];rcases hb with z | z
   ·rw [z];exact abg
   ·exact ZY _ z
  obtain ⟨o',e1,e2⟩:=hm L (sub L (.inl rfl)) o ho hd;exact ⟨hk,⟨L,o',hf,hB L (sub L (.inl rfl)),e1,by rw [e2];exact hd⟩,nZ hr (λb hb=>hm b (sub b (.inr hb))) λb hb=>hB b (sub b (.inr hb))⟩
theorem yl {D C e:Addr} {cls:Zj} {c:XD} {gT:List (Addr×Obj)} {σ':L2.St} {H' HD:Hp} {s3 s':Zq} {cl:List (Str×Addr)} {RE:Zj→Zq→Prop} (Mb:gb X EE) (hst:∃ gk gK L,X.stack=gk::gK∧X.env.frame=gk.frame∧gk.frame=Zg L)
  (I3:Inv X pins σ HD s3) (hC:C=s3.heap.objs.size) (f3:∀ b∈fp,ly X pins HD b∧b<s3.heap.objs.size)
  (Sq:∀ s'':Zq,(∃ m,s''.heap.Ns C m∧∀ h',abc C s''.heap h'→∀ cenv:Env,cenv.locals=C→ZD (model X.prog X.w) X.A (passOn "comprehension.variables-let-go" (.ref e) cenv:Sem Zj) (λ_ _=>False) X.xe {s'' with heap:=h'})→RE (.ref e) s'')
  (I':Inv (mw X scope cl xs C pins s3 HD fp E) gT σ' H' s') (fx:OV (mw X scope cl xs C pins s3 HD fp E) H' e cls s') (hc:zB X.mg c cls) (ee:EE c σ H') :
  notedBy (model X.prog X.w) X.A (compEnvC scope cl C X.env) RE (.ref e) s':=by
 obtain ⟨B,fb,hok,AM⟩:=fx;obtain ⟨gk,gK,L,h1,h2,h3⟩:=hst;show ZD _ X.A (noteFrame (.ref e) (compEnvC scope cl C X.env)) _ _ s';rw [yj (show (compEnvC scope cl C X.env).frame=gk.frame from h2)];have hfr:X.A.frames=Zg (gk::gK):=by rw [← h1];exact I3.ok.frames
 have VX:AJ B (gk::gK) e cls s'.heap:=by rw [← h1];exact fb
 refine zA hfr h3 VX λh5 a0 hH u5=>?_;obtain ⟨k1,k2,k3,oe,vs,T,oT,ts,he,hcls,hd,hv1,OS,OT,hT,B4,VY⟩:=hH;have UD:h5.FunFrames B X.stack:=by rw [h1];exact k3
 obtain ⟨m,hm,_⟩:=id I'.loc;have UE:h5.Ns C m:=u5.ns hm;refine Sq _ ⟨m,UE,λh6 sb cenv _=>?_⟩;obtain ⟨oC,Ys,Yt,VZ,V0,_⟩:=id UE;have Ju:∀ {b:Addr} {o:Obj} {ws:Array Zj},h5.get? b=Zg o→o.data=.fields ws→b≠C:=λ{b o ws} q d z=>by rw [z,VZ] at q;cases q;rw [V0] at d;cases d
 have Ss:=(sb.2 e (Ju he hd)).trans he;have UG:=(sb.2 T (Ju hT B4)).trans hT;have UH:3<ts.size:=(abk.mp VY).1;unfold passOn setFlight;refine Zi (Z9 Ss hd hv1 ?_);rw [if_neg (show ¬ ((Value.ref T==Value.none)=Zh) by simp)];have fin:X.xe (.ref e) {s' with heap:=h6.update T (aaH (·.setIfInBounds 3 (cenv.frame.elim .none λf=>rawInt f)))}:=by
  have O1:∀ b,b≠T→(h6.update T (aaH (·.setIfInBounds 3 (cenv.frame.elim .none λf=>rawInt f)))).get? b=h6.get? b:=λb hb=>ZR _ _ (aat hb);have qZ:∀ b,b≠T→b≠C→(h6.update T (aaH (·.setIfInBounds 3 (cenv.frame.elim .none λf=>rawInt f)))).get? b=h5.get? b:=λb hb hb2=>(O1 b hb).trans (sb.2 b hb2);generalize V1:h6.update T (aaH (·.setIfInBounds 3 (cenv.frame.elim .none λf=>rawInt f)))=h7 at O1 qZ;have V2:h7.get? T=Zg (aaH (·.setIfInBounds 3 (cenv.frame.elim .none λf=>rawInt f)) oT):=by rw [← V1];exact Z1 _ UG (abo (aar B4 _))
  have V3:∀ b o,B.get? b=Zg o→b≠T:=λb o q z=>by rw [z,OS] at q;cases q
  have QY:∀ b o,(B.hide C).get? b=Zg o→h7.get? b=Zg o:=λb o q=>by
   have q':=adF q;have nC:b≠C:=λz=>by rw [z,Heap.hide_self] at q;cases q
   rw [qZ b (V3 b o q') nC];exact k1 b o q'
  have hide:∀ b o,b≠C→B.get? b=Zg o→(B.hide C).get? b=Zg o:=λb o z q=>(Heap.hide_ne B z).trans q;have Mc:∀ b o,s3.heap.get? b=Zg o→b≠C:=λb o q=>by rw [hC];exact ZE (Zu q)
  have O2:jo X.prog X.w H' (B.hide C):=Dh hok λb o n q=>hide b o (λz=>n (by rw [z];exact I'.free)) q;have Sm:∀ b,b∉frs X.stack→b∉X.fs:=λb hb z=>hb (by
   rcases I3.ok.stk with q | ⟨q,_⟩
   ·rw [q];exact z
   ·rw [q];unfold frs;rw [aba];split
    ·exact z
    ·exact ZY _ z)
  have slot:∀ b o,s3.heap.get? b=Zg o→b∈frs X.stack→∃ sl,h7.get? b=Zg {o with slots:=sl}:=λb o q hb=>by obtain ⟨_,o',q',hnf⟩:=I3.stack.mem hb;rw [q] at q';cases q';obtain ⟨sl,e1⟩:=I'.base.slot b o q (I3.oZ b hb) hb λz=>(I'.ok.F2 b z) hb;obtain ⟨NR,e2⟩:=u5 b _ e1 hnf;refine ⟨NR,?_⟩;rw [qZ b (λz=>by rw [z,hT] at e2;cases e2;exact hnf _ B4) (Mc b o q)];exact e2
  have un:Un (frs X.stack) fp HD H' s3.heap h7:=⟨λb o q n hb hx=>QY b o (hide b o (Mc b o q) (AM.keep b o q n hb hx)),λb o q n hb hx=>slot b o q hb,λb o q n hx=>I'.base.free b o q n hx,λb o q hx=>by
   by_cases hb:b∈frs X.stack
   ·obtain ⟨sl,z⟩:=slot b o q hb;exact ⟨_,z⟩
   ·obtain ⟨o',z⟩:=AM.there b o q hb hx;exact ⟨o',QY b o' (hide b o' (Mc b o q) z)⟩,I'.base.tups,I'.base.jq,I'.base.j0⟩
  have I7:Inv X pins σ H' {s' with heap:=h7}:=I3.Ci (ch:=fp) I'.os un (O2.kept QY) I'.bare λb hb=>by obtain ⟨g0,g1,g2,g3,g4,g5⟩:=(f3 b hb).1;exact ⟨g3,g1,g4,g5⟩
  have UI:∀ b o,X.s₀.heap.get? b=Zg o→b∉X.ex→b∉fp:=λb o q hx hb=>by
   obtain ⟨g0,g1,g2,g3,g4,g5⟩:=(f3 b hb).1;rcases g3 with z | z
   ·exact hx z
   ·exact absurd (Zx (Zu q) z) (aao _)
  refine Mb pins σ H' _ e cls c I7 ⟨B.hide C,⟨QY,?_,?_,.inr ⟨a0,_,oe,vs,T,_,_,?_,hcls,hd,hv1,?_,OT,V2,aar B4 _,by simp [UH];rfl⟩⟩,O2,⟨λb o q n hb hx=>?_,λb o q hb hx=>?_,λp hp=>?_⟩⟩ hc ee
  ·cases q:(B.hide C).get? e with
   | none=>rfl
   | some o=>have:=adF q;rw [k2] at this;cases this
  ·refine nZ UD (λb hb o q hnf=>?_) λb hb=>?_
   ·refine ⟨o,?_,rfl⟩;show h7.get? b=Zg o;rw [qZ b (λz=>by rw [z,hT] at q;cases q;exact hnf _ B4) ?_]
    ·exact q
    ·obtain ⟨_,o',q',_⟩:=I3.stack.mem hb;exact Mc b o' q'
   ·cases q:(B.hide C).get? b with
    | none=>rfl
    | some o=>have:=adF q;rw [(UD.mem hb).1] at this;cases this
  ·exact (qZ e (aat OT) (Ju he hd)).trans he
  ·cases q:(B.hide C).get? T with
   | none=>rfl
   | some o=>have:=adF q;rw [OS] at this;cases this
  ·have q3:=I3.base.keep b o q n (Sm b hb) hx;exact hide b o (Mc b o q3) (AM.keep b o q3 (I3.base.free b o q n hx) hb (UI b o q hx))
  ·obtain ⟨o',q3⟩:=I3.base.there b o q hx;obtain ⟨UJ,z⟩:=AM.there b o' q3 hb (UI b o q hx);exact ⟨UJ,hide b UJ (Mc b o' q3) z⟩
  ·exact hide _ _ (Mc _ _ (I3.pin p (aa1 _ hp)).1) (AM.pins p (aa1 _ hp))
 first
  | (refine Zi (Zz ?_);refine Zi (Zi (Z9 Ss hd hv1 ?_)))
  | refine Zi (Zi (Z9 Ss hd hv1 ?_))
 rw [if_pos (show (Value.ref T != Value.none)=Zh by simp)];exact abl UG B4 UH (adY fin)
theorem p6 {Q:VK} {J:It} {it:Addr} {tn:Nat→Heap→Prop} {RR:Zj→Addr→Result→Zq→Prop} (Mb:gb X EE) (hst:∃ gk gK L,X.stack=gk::gK∧X.env.frame=gk.frame∧gk.frame=Zg L) (S:br X.env.scope X.N scope xs ks) (how:Own X scope xs ks tg ow) (hc:X.calm=Zh) (I:Inv X pins σ H s)
  (T:Turn X.prog X.w X.K tg J fp it tn) (st:tn 0 s.heap) (hf:∀ b∈fp,ly X pins H b)
  (hb:∀ (cl:List (Str×Addr)) (C:Addr) (pins:List (Addr×Obj)) (s0:Zq) (H0:Hp) (fp:List Addr) (E:Zj→Zq→Prop),gb (mw X scope cl xs C pins s0 H0 fp E) (λc _ H'=>EE c σ H')→CT (mw X scope cl xs C pins s0 H0 fp E) ifs tt∧PE (mw X scope cl xs C pins s0 H0 fp E) elt te)
  (hw:∀ D,H D=Zl→∃ W:Nat→Nat→Hp→Prop,(∃ m,W 0 m (upd H D (.lst [])))∧∀ i m H,W i m H →
   (J.stop i H∧Q (.ref D) H)∨(J.go i H∧∀ x H',J.rQ i H x H'→∃ vs,ow x H' vs∧tt (vs.map Zg++mask ks σ) H' λb H2=>if b=Zh then te (vs.map Zg++mask ks σ) H2 λv H3=>∃ ys,H3 D=Zg (.lst ys)∧ys.length<Zm∧∃ m',m'<m∧W (i+1) m' (upd H3 D (.lst (ys++[v]))) else ∃ m',m'<m∧W (i+1) m' H2))
  (hRR:∀ (D C:Addr) (s':Zq) (H':Hp) (m:Str→Option Zj),Inv X pins σ H' s'→s'.heap.Ns C m→H' C=Zl→C≠X.env.locals→X.s₀.heap.objs.size≤C→(∀ x c,X.env.cells.lookup x=Zg c→c≠C)→(∀ p∈X.pn++pins,p.1≠C)→Q (.ref D) H'→RR (.ref D) C (.ok .next) s')
  (Sq:∀ (acc:Zj) (C e:Addr) (s'':Zq),(∃ m,s''.heap.Ns C m∧∀ h',abc C s''.heap h'→∀ cenv:Env,cenv.locals=C→ZD (model X.prog X.w) X.A (passOn "comprehension.variables-let-go" (.ref e) cenv:Sem Zj) (λ_ _=>False) X.xe {s'' with heap:=h'})→RR acc C (.error (.ref e)) s'') :
  ZD (model X.prog X.w) X.A (newList []) (λacc s₃=>ZD (model X.prog X.w) X.A (newFunctionEnv scope X.env.globals (gq X.env scope.names []) [] X.env.qual Zl .none (Zg X.env)) (λcenv s₄=>
   codeAny (model X.prog X.w) X.A (.compStart (.ListComp elt [⟨tg,iter,ifs,0⟩] scope pos) 0 (.ref it) acc {cenv with scope:=relabel scope X.env}) (RR acc cenv.locals) s₄) E s₃) E s:=by
 refine Z3 (adZ S.pY (by intro y hy;simp at hy) (λh₁ O3 O4=>?_) S.kind)
 have I3:Inv X pins σ (upd H s.heap.objs.size (.lst [])) {s with heap:=s.heap.push {cls:=.type "list",dict:=Zl,data:=.seq ([]:List Zj).toArray}}:=
  I.laid (t':=s.toks) (λb o e=>Zn _ e) (Zs _) ⟨abe _,[],0,.nil,Zv _ rfl⟩
 have hfree:=I.hok.fresh (Zs s.heap.objs.size);generalize UK:({s with heap:=s.heap.push {cls:=.type "list",dict:=Zl,data:=.seq ([]:List Zj).toArray}}:Zq)=s3 at I3 O3 O4 ⊢;have hsz:s3.heap.objs.size=s.heap.objs.size+1:=by rw [← UK];exact aaF ..
 have O5:∀ b o,s.heap.get? b=Zg o→s3.heap.get? b=Zg o:=λb o e=>by rw [← UK];exact Zn _ e
 have O6:∀ b∈fp,b<s.heap.objs.size:=λb hb'=>by obtain ⟨o,e,_⟩:=T.obj 0 _ st b hb';exact Zu e
 have f3:∀ b∈fp,ly X pins (upd H s.heap.objs.size (.lst [])) b∧b<s3.heap.objs.size:=λb hb'=>
  ⟨⟨by rw [aA (ZE (O6 b hb'))];exact (hf b hb').1,(hf b hb').2⟩,by rw [hsz];exact aa7 (O6 b hb')⟩
 have Dm:∀ b o,s3.heap.get? b=Zg o→h₁.get? b=Zg o:=λb o e=>O4.extBut b o (ZE (Zu e)) (Zn _ e);obtain ⟨W,⟨m0,w0⟩,turn⟩:=hw s.heap.objs.size hfree;generalize hX:mw X scope (gq X.env scope.names []) xs s3.heap.objs.size pins s3 (upd H s.heap.objs.size (.lst [])) fp (notedBy (model X.prog X.w) X.A (compEnvC scope (gq X.env scope.names []) s3.heap.objs.size X.env) λe s'=>RR (.ref s.heap.objs.size) s3.heap.objs.size (.error e) s')=Xc;have I4:Inv Xc [] (ZH xs.length Zl++mask ks σ) (upd H s.heap.objs.size (.lst [])) {s3 with heap:=h₁,toks:=s3.toks+([]:List (Str×Zj)).length}:=by rw [← hX];exact yk S I3 f3 (by simpa using O3) Dm _
 have FL:CT Xc ifs tt∧PE Xc elt te:=by rw [← hX];exact hb _ _ _ _ _ _ _ λgT σ' H' s' e cls c I' fx hc ee=>yl (RE:=λe s'=>RR (.ref s.heap.objs.size) s3.heap.objs.size (.error e) s') (D:=s.heap.objs.size) Mb hst I3 rfl f3 (λs''=>Sq _ _ e s'') I' fx hc ee
 have vQ:Xc.prog=X.prog:=by rw [← hX];rfl
 have ew:Xc.w=X.w:=by rw [← hX];rfl
 have eK:Xc.K=X.K:=by rw [← hX];rfl
 have eA:Xc.A=X.A:=by rw [← hX];rfl
 have JG:Xc.calm=Zh:=by rw [← hX];exact hc
 have Su:Xc.xe=notedBy (model X.prog X.w) X.A Xc.env λe s'=>RR (.ref s.heap.objs.size) s3.heap.objs.size (.error e) s':=by rw [← hX];rfl
 have Me:Xc.env=compEnvC scope (gq X.env scope.names []) s3.heap.objs.size X.env:=by rw [← hX];rfl
 have V4:Xc.stack=X.stack:=by rw [← hX];rfl
 have Sv:∀ {H':Hp},(∀ b∈fp,H' b=Zl)→∀ b∈fp,ly Xc [] H' b:=λ{H'} hn b hb'=>by obtain ⟨g0,g1,g2,g3,g4,g5⟩:=(f3 b hb').1;rw [← hX];refine ⟨hn b hb',ZE (f3 b hb').2,λz=>(ZM.mp (I3.j3 b z)).elim g1 g2,.inl hb',λy c e=>g4 y c (pW scope.names [] (λy c e=>by simp at e) y c e),λp hp=>g5 p ?_⟩;have:p∈(X.pn++pins)++[]:=hp;simpa using this
 have fin:∀ (s':Zq) (H':Hp) (a0:List (Option V)),Inv Xc [] (a0++mask ks σ) H' s'→Q (.ref s.heap.objs.size) H'→RR (.ref s.heap.objs.size) s3.heap.objs.size (.ok .next) s':=λs' H' a0 I' q=>by
  have hloc:=I'.loc;obtain ⟨m,hm,_⟩:=hloc;have hC:H' s3.heap.objs.size=Zl:=by have:=I'.free;rw [Me] at this;exact this
  have hU:Un (frs X.stack) fp (upd H s.heap.objs.size (.lst [])) H' s3.heap s'.heap:=by have:=I'.base;rw [← hX] at this;exact this
  have hos:s'.os=s3.os∧0<s'.toks:=by have:=I'.os;rw [← hX] at this;exact this
  have Sw:jo X.prog X.w H' s'.heap:=by have:=I'.hok;rw [← hX] at this;exact this
  have I5:Inv X pins σ H' s':=I3.Ci hos hU Sw I'.bare λb hb'=>by obtain ⟨g0,g1,g2,g3,g4,g5⟩:=(f3 b hb').1;exact ⟨g3,g1,g4,g5⟩
  refine hRR _ _ s' H' m I5 (by rw [Me] at hm;exact hm) hC (acV I3.lt) (aal I3.sz (Zs _)) (λy c e z=>?_) (λp hp z=>?_) q
  ·obtain ⟨v,hv⟩:=I3.cell y c e;exact absurd hv.lt (by rw [z];exact aao _)
  ·exact absurd (Zu (I3.pin p hp).1) (by rw [z];exact aao _)
 have loop:codeAny (model X.prog X.w) X.A (.compLoop (.ListComp elt [⟨tg,iter,ifs,0⟩] scope pos) 0 (.ref it) (.ref s.heap.objs.size) Xc.env) (RR (.ref s.heap.objs.size) s3.heap.objs.size)
   {s3 with heap:=h₁,toks:=s3.toks+([]:List (Str×Zj)).length}:=by
  refine t7 (λn s'=>∃ i a0 H',a0.length=xs.length∧Inv Xc [] (a0++mask ks σ) H' s'∧tn i s'.heap∧(∀ b∈fp,H' b=Zl)∧W i n H') ?_ m0 ⟨0,ZH xs.length Zl,_,by simp,I4,T.keep 0 _ _ st λb hb' o e=>Dm b o (O5 b o e),λb hb'=>(f3 b hb').1.1,w0⟩;rintro n s5 ⟨i,a0,H5,V5,I5,Nr,QK,w5⟩;rcases turn i n H5 w5 with ⟨stop,q⟩ | ⟨go,step⟩
  ·have hd:=T.done Xc vQ ew eK JG i [] s5 _ H5 (λ_ _=>False) I5 (Sv QK) Nr stop;rw [eA] at hd;refine Z8 hd (λr s6 hr=>?_) (λ_ _ z=>aac z);obtain ⟨rfl,I6⟩:=hr;exact fin s6 H5 a0 I6 q
  ·have hd:=T.item Xc vQ ew eK JG i [] s5 _ H5 (λ_ _=>False) I5 (Sv QK) Nr go;rw [eA] at hd;refine Z8 hd (λr s6 hr=>?_) (λ_ _ z=>aac z);obtain ⟨u,rfl,h6⟩:=hr;refine Z8 h6 (λ_ s7 hq=>?_) (λ_ _ z=>aac z);obtain ⟨v,H7,I7,r7,y7,Sx,V6⟩:=hq;obtain ⟨vs,hvs,step⟩:=step v H7 y7;have V7:Inv Xc (m6 fp s7.heap) (a0++mask ks σ) H7 s7:=by have:=Inv.pinned (pins:=[]) I7 (Sv V6) (T.obj _ _ Sx);simpa using this
   have back:∀ {σ':L2.St} {H':Hp} {s':Zq},Inv Xc (m6 fp s7.heap) σ' H' s'→Inv Xc [] σ' H' s'∧tn (i+1) s'.heap∧∀ b∈fp,H' b=Zl:=λ{σ' H' s'} I'=>by refine ⟨I'.tM λp hp=>absurd hp (by simp),T.keep _ _ _ Sx λb hb' o e=>(I'.pin (b,o) (aav _ (jr hb' e))).1,λb hb'=>?_⟩;obtain ⟨o,e,d⟩:=T.obj _ _ Sx b hb';exact (I'.pin (b,o) (aav _ (jr hb' e))).2.1
   refine how _ _ _ _ _ _ _ Xc σ a0 v vs u H7 s7 _ _ _ hX.symm V5 V7 r7 hvs λUL s8 V8=>?_;have ht:=FL.1 _ s8 _ H7 _ V8 step;rw [vQ,ew,eA,Su] at ht;refine Z8 ht (λV9 s9 h9=>?_) (λ_ _ z=>z);obtain ⟨H9,I9,q9⟩:=h9;cases V9 with
   | false=>rw [if_neg ZX] at q9 ⊢;obtain ⟨m',hm',w'⟩:=q9;obtain ⟨Wa,Wb,Wc⟩:=back I9;exact ⟨m',hm',i+1,vs.map Zg,H9,by simpa using UL,Wa,Wb,Wc,w'⟩
   | true=>rw [if_pos rfl] at q9 ⊢;have he:=FL.2 _ s9 _ H9 _ I9 q9;rw [vQ,ew,eA,Su] at he;refine Z8 he (λy Wd Sy=>?_) (λ_ _ z=>z);obtain ⟨yv,We,Wf,Wg,ys,hD,hlen,m',hm',w'⟩:=Sy;have ha:=rX (X:=Xc) _ Wd _ We (.ref s.heap.objs.size) [yv] (.ref s.heap.objs.size) [y] (λ_ H'=>∃ m',m'<n∧W (i+1) m' H') Wf rfl (.cons Wg .nil) ⟨_,ys,yv,rfl,rfl,hD,hlen,m',hm',w'⟩;rw [vQ,ew,eA,Su] at ha;refine Z8 ha (λ_ Yu h11=>?_) (λ_ _ z=>z);obtain ⟨_,Wh,Wi,_,Wj,Sz,w''⟩:=h11;obtain ⟨SD,SE,SG⟩:=back Wi;exact ⟨Wj,Sz,i+1,vs.map Zg,Wh,by simpa using UL,SD,SE,SG,w''⟩
 rw [Me] at loop;exact codeAny_compStart_list loop (T.self X.A 0 _ _ _ (T.keep 0 _ _ st λb hb' o e=>Dm b o (O5 b o e)) loop)
theorem t8 {tt:L2.St→TT} {te:L2.St→TE} (Mb:gb X EE) (hst:∃ gk gK L,X.stack=gk::gK∧X.env.frame=gk.frame∧gk.frame=Zg L) (S:br X.env.scope X.N scope xs ks) (how:Own X scope xs ks tg ow) (hc:X.calm=Zh) (hi:PI X tg iter wi)
  (hb:∀ (σ:L2.St) (cl:List (Str×Addr)) (C:Addr) (pins:List (Addr×Obj)) (s0:Zq) (H0:Hp) (fp:List Addr) (E:Zj→Zq→Prop),gb (mw X scope cl xs C pins s0 H0 fp E) (λc _ H'=>EE c σ H')→CT (mw X scope cl xs C pins s0 H0 fp E) ifs (tt σ)∧PE (mw X scope cl xs C pins s0 H0 fp E) elt (te σ))
  (hs:∀ x,foldedSetIterable iter X.env x=pure x:=by intro _;rfl):PE X (.ListComp elt [⟨tg,iter,ifs,0⟩] scope pos) (λσ=>vP wi ks ow (tt σ) (te σ) σ):=by
 intro pins s σ H Q I h;rw [eval_ListComp];refine adj (use:=Zl) rfl hs (k8 λy hy hfr=>I.ok.has y.1 (S.free y hy hfr)) S.kind S.names (cO (hi pins s σ H _ I h) λv s1 h1=>cO h1 λitv s2 h2=>?_);obtain ⟨it,fp,tn,J,H2,rfl,I2,T,st2,f2,q⟩:=h2;refine p6 (RR:=λacc C=>compPost (model X.prog X.w) X.A X.xe Zl (EP X pins σ Q) acc C) Mb hst S how hc I2 T st2 f2 (hb σ) q ?_ (λ_ _ _ _ z=>z);intro D C s' H' m I' hn hC h1 h2 h3 h4 q';refine ⟨m,hn,λh' sb=>?_⟩;exact ⟨.ref D,H',I'.turned (t':=s'.toks) (λb o hb e=>(sb.2 b hb).trans e) hC h1 (.inr h2) h3 h4,rfl,q'⟩
theorem zE {tt:L2.St→TT} {te:L2.St→TE} (Mb:gb X EE) (hst:∃ gk gK L,X.stack=gk::gK∧X.env.frame=gk.frame∧gk.frame=Zg L) {y:Str} {i:Nat} {py spos:Pos} (S:br X.env.scope X.N scope xs ks) (how:Own X scope xs ks tg ow) (hc:X.calm=Zh) (hN:X.N.Nodup) (hi:PI X tg iter wi) (hy:X.N[i]?=Zg y) (hl:X.env.scope.names.lookup y=Zg .local)
  (hsw:swapsWith (.ListComp elt [⟨tg,iter,ifs,0⟩] scope pos) (Zg (.Name y py)) spos.line X.env=pure Zh)
  (hb:∀ (σ:L2.St) (cl:List (Str×Addr)) (C:Addr) (pins:List (Addr×Obj)) (s0:Zq) (H0:Hp) (fp:List Addr) (E:Zj→Zq→Prop),gb (mw X scope cl xs C pins s0 H0 fp E) (λc _ H'=>EE c σ H')→CT (mw X scope cl xs C pins s0 H0 fp E) ifs (tt σ)∧PE (mw X scope cl xs C pins s0 H0 fp E) elt (te σ))
  (hs:∀ x,foldedSetIterable iter X.env x=pure x:=by intro _;rfl):PS X (.Assign [.Name y py] (.ListComp elt [⟨tg,iter,ifs,0⟩] scope pos) spos) (F9 (λσ=>vP wi ks ow (tt σ) (te σ) σ) (ve i)):=by
 intro pins s σ H Dd I h;rw [exec_Assign_Name_used _ _ _ _ hsw];refine Zi (ad7 (Zi ?_));show ZD _ X.A (do let _ ← comprehension (.ListComp elt [⟨tg,iter,ifs,0⟩] scope pos) scope X.env _ (newList []) Zk (eval iter X.env) (Zg (assign (.Name y py) X.env))) _ _ s
 refine Zi (Z8 (adj (use:=Zg (assign (.Name y py) X.env)) (Q:=λ_ s'=>SP X pins Dd .next s') rfl hs (k8 λy hy hfr=>I.ok.has y.1 (S.free y hy hfr)) S.kind S.names
  (cO (hi pins s σ H _ I h) λv s1 h1=>cO h1 λitv s2 h2=>?_)) (λ_ s' hq=>Zz (Zz hq)) λ_ _ e=>e)
 obtain ⟨it,fp,tn,J,H2,rfl,I2,T,st2,f2,q⟩:=h2;refine p6 (Q:=λv H'=>Dd.nx (σ.set i (Zg v)) H') (RR:=λacc C=>compPost (model X.prog X.w) X.A X.xe (Zg (assign (.Name y py) X.env)) (λ_ s'=>SP X pins Dd .next s') acc C) Mb hst S how hc I2 T st2 f2 (hb σ) q ?_ (λ_ _ _ _ z=>z);intro D C s' H' m I' hn hC h1 h2 h3 h4 q';show ZD _ X.A (assign (.Name y py) X.env (.ref D)) _ _ s';refine ac8 (rP I' hN hy (.inl hl) (v:=.ref D) (u:=.ref D) rfl (λs'' Wl sb=>?_) (.inr hl));obtain ⟨a,sb,ha⟩:=sb;have hne:C≠a:=by
  rcases ha with e | e
  ·rw [e];exact h1
  ·exact λz=>h3 y a e z.symm
 refine ⟨m,hn.sameBut sb hne,λh'' sb'=>?_⟩;exact ⟨_,H',Wl.turned (t':=s''.toks) (λb o hb e=>(sb'.2 b hb).trans e) hC h1 (.inr h2) h3 h4,q'⟩
end
def oN:D→Option (List D):=λd=>Zg [d]
def oT (n:Nat):D→Option (List D)
 | .tup xs=>if xs.length=n then Zg xs else Zl
 | _=>Zl
def jD (K:Zo) (mg:Str→Option Zj) (ow:V→Hp→List V→Prop) (gO:D→Option (List D)):Prop:=
 ∀ (ρ:List Addr) (H:Hp) (d:D) (v:V) (os:List D),Rep K mg ρ H d v→gO d=Zg os→∃ vs,ow v H vs∧aq K mg ρ H os vs
theorem AN:jD K mg OZ oN:=λρ H d v os r e=>by cases e;exact ⟨[v],rfl,.cons r .nil⟩
theorem Dn:jD K mg (O0 K n) (oT n):=λρ H d v os r e=>by
 cases d<;>try (cases e;done)
 rename_i xs;dsimp only [oT] at e;by_cases h:xs.length=n
 ·rw [if_pos h] at e;cases e;unfold Rep at r;obtain ⟨a,vs,rfl,sq,rs⟩:=r;exact ⟨vs,⟨a,rfl,sq,by rw [← rs.length];exact h⟩,rs⟩
 ·rw [if_neg h] at e;cases e
def t9 (K:Zo) (mg:Str→Option Zj) (H H':Hp) (ρ:List Addr):Prop:=bX K H H' ρ ρ∧∀ G,eN K mg H ρ G→eN K mg H' ρ G
theorem t9.refl:t9 K mg H H ρ:=⟨.refl,λ_ h=>h⟩
theorem t9.new {o:HO} (hp:H p=Zl):t9 K mg H (upd H p o) ρ:=⟨cH hp ρ,λ_ h=>h.new hp⟩
def dG (gO:D→Option (List D)) (ks:List Bool) (tt:DS→M Bool) (te:DS→M D) (n:Nat) (d:D) (τ:DS) (G:DH):Out Unit:=match gO d with
 | none=>.stuck
 | some os=>match tt (os.map Zg++mask ks τ) G with
 | .ok Zh G1=>match te (os.map Zg++mask ks τ) G1 with
  | .ok v G2=>match G2[n]? with
   | some (.lst ys)=>if ys.length<Zm then .ok () (G2.set n (.lst (ys++[v]))) else .stuck
   | _=>.stuck
  | .bq c G2=>.bq c G2
  | .stuck=>.stuck
 | .ok Zk G1=>.ok () G1
 | .bq c G1=>.bq c G1
 | .stuck=>.stuck
def cQ (gO:D→Option (List D)) (ks:List Bool) (tt:DS→M Bool) (te:DS→M D) (n:Nat):List D→DS→DH→Out D
 | [],_,G=>.ok (.obj n) G
 | d::r,τ,G=>match dG gO ks tt te n d τ G with
  | .ok _ G'=>cQ gO ks tt te n r τ G'
  | .bq c G'=>.bq c G'
  | .stuck=>.stuck
def n5 (gO:D→Option (List D)) (ks:List Bool) (tt:DS→M Bool) (te:DS→M D) (n src:Nat):Nat→Nat→DS→DH→Out D
 | 0,_,_,_=>.stuck
 | f+1,k,τ,G=>match G[src]? with
  | some (.lst xs)=>match xs[k]? with
   | none=>.ok (.obj n) G
   | some d=>match dG gO ks tt te n d τ G with
    | .ok _ G'=>n5 gO ks tt te n src f (k+1) τ G'
    | .bq c G'=>.bq c G'
    | .stuck=>.stuck
  | _=>.stuck
def jT (gO:D→Option (List D)) (ks:List Bool) (m:DS→M D) (tt:DS→M Bool) (te:DS→M D):DS→M D:=λτ=>(m τ).bind λd G=>match d with
 | .obj k=>match G[k]? with
  | some (.lst xs)=>n5 gO ks tt te G.length k (xs.length+1) 0 τ (G++[.lst []])
  | _=>.stuck
 | .tup xs=>cQ gO ks tt te G.length xs τ (G++[.lst []])
 | .con xs=>cQ gO ks tt te G.length xs τ (G++[.lst []])
 | .str z=>cQ gO ks tt te G.length (z.cps.toList.map λc=>.str ⟨#[c]⟩) τ (G++[.lst []])
 | _=>.stuck
def dh (Ai:List D→Option (List D)) (gO:D→Option (List D)) (ks:List Bool) (m:DS→M (List D)) (tt:DS→M Bool) (te:DS→M D):DS→M D:=λτ=>(m τ).bind λds G=>match Ai ds with
 | some xs=>cQ gO ks tt te G.length xs τ (G++[.lst []])
 | none=>.stuck
section
variable {X:Cx} {EE:bR} {gO:D→Option (List D)} {ow:V→Hp→List V→Prop} {xs:List Str} {tg:Expr} {ks:List Bool} {tt:DS→M Bool} {te:DS→M D}
theorem AO (h:pR K mg H ρ σ τ) (r:aq K mg ρ H os vs):pR K mg H ρ (vs.map Zg++mask ks σ) (os.map Zg++mask ks τ):=by
 have hl:=r.length;refine ⟨by simp [iR,h.1,hl],λi e he=>?_⟩;by_cases hi:i<os.length
 ·rw [ZC (by simpa using hi),ZL] at he;cases q:os[i]? with
  | none=>rw [q] at he;cases he
  | some d=>rw [q] at he;cases he;obtain ⟨v,e1,r1⟩:=r.get q;exact ⟨v,by rw [ZC (by simp;nofun),ZL,e1];rfl,r1⟩
 ·rw [ZO (by simp;nofun)] at he;obtain ⟨h1,h2⟩:=j7 he;obtain ⟨w,e1,r1⟩:=h.2 _ e h2;refine ⟨w,?_,r1⟩;rw [ZO (by simp;nofun)];have:=zC h1 e1;simpa [hl] using this
def n6 (EE:bR) (σ:L2.St):bR:=λc _ H'=>EE c σ H'
theorem nu (hO:jD X.K X.mg ow gO) {W:Hp→Prop} {n:Nat} {p:Addr} {σ:L2.St} {H:Hp} {τ:DS} {ρ:List Addr} {G:DH} {d:D} {v:V} (ab:Ab X.K X.mg σ H τ ρ G) (r:Rep X.K X.mg ρ H d v) (hn:ρ[n]?=Zg p)
  (hW:match dG gO ks tt te n d τ G with
   | .stuck=>False
   | .ok _ G'=>∀ H' ρ',bX X.K H H' ρ ρ'→Ab X.K X.mg σ H' τ ρ' G'→W H'
   | .bq c G'=>∀ H' ρ',bX X.K H H' ρ ρ'→Ab X.K X.mg σ H' τ ρ' G'→EE c σ H') :
  ∃ vs,ow v H vs∧liftT X.K X.mg (n6 EE σ) tt (vs.map Zg++mask ks σ) H λb H2=>if b=Zh then bh X.K X.mg (n6 EE σ) te (vs.map Zg++mask ks σ) H2 λu H3=>∃ ys,H3 p=Zg (.lst ys)∧ys.length<Zm∧W (upd H3 p (.lst (ys++[u]))) else W H2:=by
 unfold dG at hW;cases qo:gO d with
 | none=>rw [qo] at hW;exact hW.elim
 | some os=>
 rw [qo] at hW;dsimp only at hW;obtain ⟨us,oE,Wm⟩:=hO ρ H d v os r qo;refine ⟨us,oE,?_⟩;refine ⟨_,ρ,G,⟨AO ab.st Wm,ab.hp⟩,?_⟩;cases q:tt (os.map Zg++mask ks τ) G with
 | stuck=>rw [q] at hW;exact hW
 | bq c G1=>rw [q] at hW;exact λH' ρ' f aV=>hW H' ρ' f ⟨ab.st.mono f,aV.hp⟩
 | ok b G1=>
  rw [q] at hW;intro H1 ρ1 f1 fD;cases b with
  | false=>rw [if_neg ZX];exact hW H1 ρ1 f1 ⟨ab.st.mono f1,fD.hp⟩
  | true=>
   rw [if_pos rfl];dsimp only at hW;refine ⟨_,ρ1,G1,fD,?_⟩;cases q2:te (os.map Zg++mask ks τ) G1 with
   | stuck=>rw [q2] at hW;exact hW
   | bq c G2=>rw [q2] at hW;exact λH' ρ' f aV=>hW H' ρ' (f1.trans f) ⟨ab.st.mono (f1.trans f),aV.hp⟩
   | ok u G2=>
    rw [q2] at hW;dsimp only at hW;intro w H2 ρ2 f2 bA r2;cases q3:G2[n]? with
    | none=>rw [q3] at hW;exact hW.elim
    | some o=>
     cases o with
     | lst ys=>
      rw [q3] at hW;dsimp only at hW;by_cases hl:ys.length<Zm
      ·rw [if_pos hl] at hW;dsimp only at hW;obtain ⟨p',vs,e1,e2,rs⟩:=bA.hp.lst q3;have QZ:=f1.trans f2;rw [QZ.get hn] at e1;cases e1;refine ⟨vs,e2,by rw [← rs.length];exact hl,?_⟩;have f3:bX X.K H2 (upd H2 p (.lst (vs++[w]))) ρ2 ρ2:=o7 e2 ρ2;exact hW _ ρ2 (QZ.trans f3) ⟨ab.st.mono (QZ.trans f3),bA.hp.put (ds:=ys) (QZ.get hn) e2 (rs.append (.cons r2 .nil))⟩
      ·rw [if_neg hl] at hW;exact hW.elim
     | _=>first | (rw [q] at ok;exact ok.elim) | (rw [q] at aI;exact aI.elim) | (rw [q3] at hW;exact hW.elim) | (rw [q] at e;cases e;done) | (rw [g] at ok;exact ok.elim) | (rw [g] at q;cases q;done) | (rw [g] at h;cases h;done) | exact ok.elim
theorem jE (hO:jD X.K X.mg ow gO) {Q:VK} {J:It} {H0:Hp} {σ:L2.St} {ρ0:List Addr} {G0:DH} {τ:DS} (ds:List D)
  (go:∀ i H ρ,i<ds.length→bX X.K H0 H ρ0 ρ→J.go i H) (stop:∀ i H ρ,ds.length≤i→bX X.K H0 H ρ0 ρ→J.stop i H)
  (rQ:∀ i d H ρ x H',ds[i]?=Zg d→bX X.K H0 H ρ0 ρ→J.rQ i H x H'→t9 X.K X.mg H H' ρ∧Rep X.K X.mg ρ H' d x)
  (ab:Ab X.K X.mg σ H0 τ ρ0 G0) (ok:iP X.K X.mg EE H0 σ τ ρ0 (cQ gO ks tt te G0.length ds τ (G0++[.lst []])) Q) :
  ∀ D,H0 D=Zl→∃ W:Nat→Nat→Hp→Prop,(∃ m,W 0 m (upd H0 D (.lst [])))∧∀ i m H,W i m H →
   (J.stop i H∧Q (.ref D) H)∨(J.go i H∧∀ x H',J.rQ i H x H'→∃ vs,ow x H' vs∧liftT X.K X.mg (n6 EE σ) tt (vs.map Zg++mask ks σ) H' λb H2=>if b=Zh then bh X.K X.mg (n6 EE σ) te (vs.map Zg++mask ks σ) H2 λv H3=>∃ ys,H3 D=Zg (.lst ys)∧ys.length<Zm∧∃ m',m'<m∧W (i+1) m' (upd H3 D (.lst (ys++[v]))) else ∃ m',m'<m∧W (i+1) m' H2):=by
 intro D hD;have f0:bX X.K H0 (upd H0 D (.lst [])) ρ0 (ρ0++[D]):=(cH hD ρ0).trans (dN ρ0 D);have Hh:Ab X.K X.mg σ (upd H0 D (.lst [])) τ (ρ0++[D]) (G0++[.lst []]):=ab.fut f0 (ab.hp.more hD .nil);have hn0:(ρ0++[D])[G0.length]?=Zg D:=by rw [← ab.hp.hl,aB]
 refine ⟨λi m H=>i≤ds.length∧m=ds.length - i∧∃ ρ G,Ab X.K X.mg σ H τ ρ G∧bX X.K H0 H ρ0 ρ∧ρ[G0.length]?=Zg D∧iP X.K X.mg EE H σ τ ρ (cQ gO ks tt te G0.length (ds.drop i) τ G) Q,
  ⟨ds.length,abe _,rfl,ρ0++[D],_,Hh,f0,hn0,by simpa using ok.fut f0⟩,?_⟩
 rintro i m H ⟨hi,rfl,ρ,G,ab,f,hn,ok⟩;by_cases hlt:i<ds.length
 ·refine .inr ⟨go i H ρ hlt f,λx H' y=>?_⟩;obtain ⟨⟨fN,hN⟩,rx⟩:=rQ i ds[i] H ρ x H' (Zr hlt) f y
  replace ok:=iP.fut fN ok
  replace ab:Ab X.K X.mg σ H' τ ρ G:=ab.fut fN (hN _ ab.hp)
  replace f:=f.trans fN
  rw [abq hlt] at ok;unfold cQ at ok
  refine nu hO (W:=λH3=>∃ m',m'<ds.length - i∧i+1≤ds.length∧m'=ds.length - (i+1)∧∃ ρ G,Ab X.K X.mg σ H3 τ ρ G∧bX X.K H0 H3 ρ0 ρ∧ρ[G0.length]?=Zg D∧iP X.K X.mg EE H3 σ τ ρ (cQ gO ks tt te G0.length (ds.drop (i+1)) τ G) Q)
    ab rx hn ?_
  cases e:dG gO ks tt te G0.length ds[i] τ G with
  | stuck=>rw [e] at ok;exact ok
  | bq c G'=>rw [e] at ok;exact ok
  | ok _ G'=>rw [e] at ok;exact λH3 ρ3 f3 oG=>⟨ds.length - (i+1),by nofun,hlt,rfl,ρ3,G',oG,f.trans f3,f3.get hn,ok.fut f3⟩
 ·have e:i=ds.length:=by nofun
  subst e;refine .inl ⟨stop _ H ρ (Zs _) f,?_⟩;rw [abQ (Zs _)] at ok;exact ok _ H ρ .refl ab (by unfold Rep;exact ⟨D,rfl,hn⟩)
theorem Dp (hO:jD X.K X.mg ow gO) {Q:VK} {H0:Hp} {σ:L2.St} {ρ0:List Addr} {G0:DH} {τ:DS} {k fuel:Nat} {p:Addr} (hk:ρ0[k]?=Zg p)
  (ab:Ab X.K X.mg σ H0 τ ρ0 G0) (ok:iP X.K X.mg EE H0 σ τ ρ0 (n5 gO ks tt te G0.length k fuel 0 τ (G0++[.lst []])) Q) :
  ∀ D,H0 D=Zl→∃ W:Nat→Nat→Hp→Prop,(∃ m,W 0 m (upd H0 D (.lst [])))∧∀ i m H,W i m H →
   ((FO X.K p).stop i H∧Q (.ref D) H)∨((FO X.K p).go i H∧∀ x H',(FO X.K p).rQ i H x H'→∃ vs,ow x H' vs∧liftT X.K X.mg (n6 EE σ) tt (vs.map Zg++mask ks σ) H' λb H2=>if b=Zh then bh X.K X.mg (n6 EE σ) te (vs.map Zg++mask ks σ) H2 λv H3=>∃ ys,H3 D=Zg (.lst ys)∧ys.length<Zm∧∃ m',m'<m∧W (i+1) m' (upd H3 D (.lst (ys++[v]))) else ∃ m',m'<m∧W (i+1) m' H2):=by
 intro D hD;have f0:bX X.K H0 (upd H0 D (.lst [])) ρ0 (ρ0++[D]):=(cH hD ρ0).trans (dN ρ0 D);have Hh:Ab X.K X.mg σ (upd H0 D (.lst [])) τ (ρ0++[D]) (G0++[.lst []]):=ab.fut f0 (ab.hp.more hD .nil);have hn0:(ρ0++[D])[G0.length]?=Zg D:=by rw [← ab.hp.hl,aB]
 refine ⟨λi m H=>∃ ρ G,Ab X.K X.mg σ H τ ρ G∧bX X.K H0 H ρ0 ρ∧ρ[G0.length]?=Zg D∧iP X.K X.mg EE H σ τ ρ (n5 gO ks tt te G0.length k m i τ G) Q,
  ⟨fuel,ρ0++[D],_,Hh,f0,hn0,ok.fut f0⟩,?_⟩
 rintro i m H ⟨ρ,G,ab,f,hn,ok⟩;cases m with
 | zero=>exact ok.elim
 | succ m=>
  unfold n5 at ok;cases q:G[k]? with
  | none=>rw [q] at ok;exact ok.elim
  | some o=>
   cases o with
   | lst ds=>
    rw [q] at ok;dsimp only at ok;obtain ⟨p',xs,e1,e2,rs⟩:=ab.hp.lst q;rw [f.get hk] at e1;cases e1;cases qd:ds[i]? with
    | none=>
     rw [qd] at ok;have hl:xs.length≤i:=by rw [← rs.length];exact aaq.mp qd
     exact .inl ⟨⟨xs,.of e2,hl⟩,ok _ H ρ .refl ab (by unfold Rep;exact ⟨D,rfl,hn⟩)⟩
    | some d=>
     rw [qd] at ok;dsimp only at ok;obtain ⟨x0,ex,rx⟩:=rs.get qd;refine .inr ⟨⟨xs,x0,.of e2,ex⟩,λx H' y=>?_⟩;obtain ⟨rfl,y⟩:=y;have e3:=y xs (.of e2);rw [ex] at e3;cases e3
     refine nu hO (W:=λH3=>∃ m',m'<m+1∧∃ ρ G,Ab X.K X.mg σ H3 τ ρ G∧bX X.K H0 H3 ρ0 ρ∧ρ[G0.length]?=Zg D∧iP X.K X.mg EE H3 σ τ ρ (n5 gO ks tt te G0.length k m' (i+1) τ G) Q)
       ab rx hn ?_
     cases e:dG gO ks tt te G0.length d τ G with
     | stuck=>rw [e] at ok;exact ok
     | bq c G'=>rw [e] at ok;exact ok
     | ok _ G'=>rw [e] at ok;exact λH3 ρ3 f3 oG=>⟨m,aaB _,ρ3,G',oG,f.trans f3,f3.get hn,ok.fut f3⟩
   | _=>first | (rw [q] at ok;exact ok.elim) | (rw [q] at aI;exact aI.elim) | (rw [q3] at hW;exact hW.elim) | (rw [q] at e;cases e;done) | (rw [g] at ok;exact ok.elim) | (rw [g] at q;cases q;done) | (rw [g] at h;cases h;done) | exact ok.elim
variable {scope:Scope} {elt iter a b:Expr} {ifs:List Expr} {px pos:Pos} {m:DS→M D}
theorem AQ (hO:jD X.K X.mg ow gO) {σ:L2.St} {H:Hp} {Q:VK} (h:bh X.K X.mg EE (jT gO ks m tt te) σ H Q) :
  vP (λσ H R=>bh X.K X.mg EE m σ H λx H1=>(∃ p,x=.ref p∧(∃ xs,kE X.K H1 p xs)∧R (FO X.K p) H1)∨(∃ p,x=.ref p∧(∃ xs,lq X.K H1 p xs)∧R (QJ X.K p) H1)∨∃ z,x=.str z∧R (G6 z) H1) ks ow (liftT X.K X.mg (n6 EE σ) tt) (bh X.K X.mg (n6 EE σ) te) σ H Q:=by
 obtain ⟨τ,ρ,G,ab,ok⟩:=jw (k:=λτ d G=>match d with
  | .obj k=>match G[k]? with
   | some (.lst xs)=>n5 gO ks tt te G.length k (xs.length+1) 0 τ (G++[.lst []])
   | _=>.stuck
  | .tup xs=>cQ gO ks tt te G.length xs τ (G++[.lst []])
  | .con xs=>cQ gO ks tt te G.length xs τ (G++[.lst []])
  | .str z=>cQ gO ks tt te G.length (z.cps.toList.map λc=>.str ⟨#[c]⟩) τ (G++[.lst []])
  | _=>.stuck) h
 refine ⟨τ,ρ,G,ab,?_⟩;cases e:m τ G with
 | stuck=>rw [e] at ok;exact ok
 | bq c G'=>rw [e] at ok;exact ok
 | ok d G'=>
  rw [e] at ok;intro v H1 ρ1 f1 fD r1;obtain ⟨τ2,ρ2,G2,d2,bA,r2,aI⟩:=ok v H1 ρ1 f1 fD r1;cases d2<;>try exact aI.elim
  case obj n=>
   dsimp only at aI;unfold Rep at r2;obtain ⟨p,rfl,e1⟩:=r2;cases q:G2[n]? with
   | none=>rw [q] at aI;exact aI.elim
   | some o=>
    cases o with
    | lst xs=>rw [q] at aI;obtain ⟨p',vs,e2,h2,rs⟩:=bA.hp.lst q;rw [e1] at e2;cases e2;exact .inl ⟨p,rfl,⟨vs,.of h2⟩,Dp hO e1 bA aI⟩
    | _=>first | (rw [q] at ok;exact ok.elim) | (rw [q] at aI;exact aI.elim) | (rw [q3] at hW;exact hW.elim) | (rw [q] at e;cases e;done) | (rw [g] at ok;exact ok.elim) | (rw [g] at q;cases q;done) | (rw [g] at h;cases h;done) | exact ok.elim
  case tup xs=>
   unfold Rep at r2;obtain ⟨p,vs,rfl,sq,rs⟩:=r2;refine .inr (.inl ⟨p,rfl,⟨vs,sq⟩,jE hO xs (λi H' ρ' hi f=>?_) (λi H' ρ' hi f=>?_) (λi d' H' ρ' x OO hd f y=>?_) bA aI⟩)
   ·rw [rs.length] at hi;exact ⟨vs,vs[i],f.tup _ _ sq,Zr hi⟩
   ·exact ⟨vs,f.tup _ _ sq,by rw [← rs.length];exact hi⟩
   ·obtain ⟨rfl,y⟩:=y;obtain ⟨w',ew,rw'⟩:=rs.get hd;have:=y vs (f.tup _ _ sq);rw [ew] at this;cases this;exact ⟨.refl,rw'.mono f⟩
  case con xs=>
   unfold Rep at r2;obtain ⟨p,vs,rfl,sq,rs⟩:=r2;refine .inl ⟨p,rfl,⟨vs,sq.seq⟩,jE hO xs (λi H' ρ' hi f=>?_) (λi H' ρ' hi f=>?_) (λi d' H' ρ' x OO hd f y=>?_) bA aI⟩
   ·rw [rs.length] at hi;exact ⟨vs,vs[i],(f.con _ _ sq).seq,Zr hi⟩
   ·exact ⟨vs,(f.con _ _ sq).seq,by rw [← rs.length];exact hi⟩
   ·obtain ⟨rfl,y⟩:=y;obtain ⟨w',ew,rw'⟩:=rs.get hd;have:=y vs (f.con _ _ sq).seq;rw [ew] at this;cases this;exact ⟨.refl,rw'.mono f⟩
  case str z=>
   unfold Rep at r2;subst r2;refine .inr (.inr ⟨z,rfl,jE hO (z.cps.toList.map λc=>.str ⟨#[c]⟩) (λi H' ρ' hi f=>?_) (λi H' ρ' hi f=>?_) (λi d' H' ρ' x OO hd f y=>?_) bA aI⟩)
   ·simpa [G6] using hi
   ·simpa [G6] using hi
   ·obtain ⟨rfl,c,hc,rfl⟩:=y;rw [ZL] at hd;have:z.cps.toList[i]?=Zg c:=by simpa using hc
    rw [this] at hd;cases hd;exact ⟨.refl,by unfold Rep;rfl⟩
def j8 (X:Cx) (scope:Scope) (xs:List Str) (ifs:List Expr) (elt:Expr) (tt:DS→M Bool) (te:DS→M D):Prop:=
 ∀ (cl:List (Str×Addr)) (C:Addr) (pins:List (Addr×Obj)) (s0:Zq) (H0:Hp) (fp:List Addr) (E:Zj→Zq→Prop) (EE:bR),gb (mw X scope cl xs C pins s0 H0 fp E) EE→CT (mw X scope cl xs C pins s0 H0 fp E) ifs (liftT X.K X.mg EE tt)∧QE (mw X scope cl xs C pins s0 H0 fp E) EE elt te
def dY:DS→M Bool:=λ_=>M.ret Zh
theorem AR (h:∀ (cl:List (Str×Addr)) (C:Addr) (pins:List (Addr×Obj)) (s0:Zq) (H0:Hp) (fp:List Addr) (E:Zj→Zq→Prop) (EE:bR),gb (mw X scope cl xs C pins s0 H0 fp E) EE→QE (mw X scope cl xs C pins s0 H0 fp E) EE elt te):j8 X scope xs [] elt dY te:=
 λcl C pins s0 H0 fp E EE hx=>⟨λgT s σ H Q I zz=>by obtain ⟨τ,ρ,G,ab,ok⟩:=zz;exact L8 gT s σ H Q I (ok H ρ .refl ab),h cl C pins s0 H0 fp E EE hx⟩
theorem AS {c:Expr} (h:∀ (cl:List (Str×Addr)) (C:Addr) (pins:List (Addr×Obj)) (s0:Zq) (H0:Hp) (fp:List Addr) (E:Zj→Zq→Prop) (EE:bR),gb (mw X scope cl xs C pins s0 H0 fp E) EE→QT (mw X scope cl xs C pins s0 H0 fp E) EE c tt∧QE (mw X scope cl xs C pins s0 H0 fp E) EE elt te):j8 X scope xs [c] elt tt te:=
 λcl C pins s0 H0 fp E EE hx=>⟨Ma (h cl C pins s0 H0 fp E EE hx).1,(h cl C pins s0 H0 fp E EE hx).2⟩
def mz (X:Cx):Prop:=∃ gk gK L,X.stack=gk::gK∧X.env.frame=gk.frame∧gk.frame=Zg L
theorem Hi (hx:gb X EE) (hst:mz X) (S:br X.env.scope X.N scope xs ks) (how:Own X scope xs ks tg ow) (hO:jD X.K X.mg ow gO) (hc:X.calm=Zh) (ha:QE X EE iter m) (hb:j8 X scope xs ifs elt tt te) (hs:∀ x,foldedSetIterable iter X.env x=pure x:=by intro _;rfl) :
  QE X EE (.ListComp elt [⟨tg,iter,ifs,0⟩] scope pos) (jT gO ks m tt te):=PE.mono (t8 (tt:=λσ=>liftT X.K X.mg (n6 EE σ) tt) (te:=λσ=>bh X.K X.mg (n6 EE σ) te) hx hst S how hc (PI.any ha) (λσ cl C pins s0 H0 fp E=>hb cl C pins s0 H0 fp E _) hs) λ_ _ _ h=>AQ hO h
theorem Dq (hO:jD X.K X.mg ow gO) {Q:VK} {H0:Hp} {σ:L2.St} {ρ0:List Addr} {G0:DH} {τ:DS} (lo:Int) (n:Nat) (ab:Ab X.K X.mg σ H0 τ ρ0 G0)
  (ok:iP X.K X.mg EE H0 σ τ ρ0 (cQ gO ks tt te G0.length ((Z4 n).map λ(k:Nat)=>.int (lo+(k:Int))) τ (G0++[.lst []])) Q) :
  ∀ D,H0 D=Zl→∃ W:Nat→Nat→Hp→Prop,(∃ m,W 0 m (upd H0 D (.lst [])))∧∀ i m H,W i m H →
   ((tP lo n).stop i H∧Q (.ref D) H)∨((tP lo n).go i H∧∀ x H',(tP lo n).rQ i H x H'→∃ vs,ow x H' vs∧liftT X.K X.mg (n6 EE σ) tt (vs.map Zg++mask ks σ) H' λb H2=>if b=Zh then bh X.K X.mg (n6 EE σ) te (vs.map Zg++mask ks σ) H2 λv H3=>∃ ys,H3 D=Zg (.lst ys)∧ys.length<Zm∧∃ m',m'<m∧W (i+1) m' (upd H3 D (.lst (ys++[v]))) else ∃ m',m'<m∧W (i+1) m' H2):=
 jE hO (J:=tP lo n) _ (λi H ρ hi f=>by simpa [tP] using hi) (λi H ρ hi f=>by simpa [tP] using hi) (λi d H ρ x H' hd f y=>by
  obtain ⟨rfl,rfl⟩:=y;rw [ZL] at hd;cases q:(Z4 n)[i]? with
  | none=>rw [q] at hd;cases hd
  | some k=>rw [q] at hd;obtain ⟨hk,e⟩:=Zp.mp q;rw [aek] at e;subst e;cases hd;exact ⟨.refl,by unfold Rep;rfl⟩) ab ok
variable {ma:DS→M (List D)}
theorem n8 (hO:jD X.K X.mg ow gO) {σ:L2.St} {H:Hp} {Q:VK} (h:bh X.K X.mg EE (dh eG gO ks ma tt te) σ H Q):vP (Jv (gU X.K X.mg EE ma)) ks ow (liftT X.K X.mg (n6 EE σ) tt) (bh X.K X.mg (n6 EE σ) te) σ H Q:=by
 obtain ⟨τ,ρ,G,ab,ok⟩:=jx (k:=λτ ds G=>match eG ds with | some xs=>cQ gO ks tt te G.length xs τ (G++[.lst []]) | none=>.stuck) h;refine ⟨τ,ρ,G,ab,?_⟩;cases e:ma τ G with
 | stuck=>rw [e] at ok;exact ok
 | bq c G'=>rw [e] at ok;exact ok
 | ok ds G'=>
  rw [e] at ok;intro vs H1 ρ1 f1 fD r1;obtain ⟨τ2,ρ2,G2,d2,bA,r2,aI⟩:=ok vs H1 ρ1 f1 fD r1;cases q:eG d2 with
  | none=>rw [q] at aI;exact aI.elim
  | some xs=>
   rw [q] at aI;unfold eG at q;split at q
   ·rename_i j;split at q
    ·rename_i hj;cases q;obtain ⟨v,rfl,h1⟩:=fQ r2;unfold Rep at h1;subst h1;exact ⟨j,rfl,hj.1,hj.2,Dq hO 0 j.toNat bA aI⟩
    ·cases q
   ·cases q
theorem vR {t:TE} (hl:∀ σ H Q,bh X.K X.mg EE me σ H Q→t σ H Q) {Dd:Ends} {σ:L2.St} {H:Hp} (h:gB X.K X.mg EE (aH i me) Dd σ H):F9 t (ve i) Dd σ H:=by
 obtain ⟨τ,ρ,G,ab,ok⟩:=h;refine hl σ H (λv H1=>ve i v σ H1 Dd.nx) ⟨τ,ρ,G,ab,?_⟩;dsimp only [aH,bz] at ok;cases e:me τ G with
 | stuck=>rw [e] at ok;exact ok
 | bq c G'=>rw [e] at ok;exact λH' ρ' f aV=>ok σ H' ρ' f aV
 | ok d G'=>rw [e] at ok;exact λv H' ρ' f aV r=>ok _ H' ρ' f (aV.set r)
theorem AU {p pc:Pos} (hx:gb X EE) (hst:mz X) (S:br X.env.scope X.N scope xs ks) (how:Own X scope xs ks tg ow) (hO:jD X.K X.mg ow gO) (hc:X.calm=Zh) (hm:X.mg "range"=Zl) (ha:QA X EE [a] ma) (hb:j8 X scope xs ifs elt tt te) (nY:Gl X "range":=by rfl) (vS:ZF [a] X.env=[(Zk,eval a X.env)]:=by rfl)
  (hs:∀ x,foldedSetIterable (.Call (.Name "range" p) [a] [] pc) X.env x=pure x:=by intro _;rfl) :
  QE X EE (.ListComp elt [⟨tg,.Call (.Name "range" p) [a] [] pc,ifs,0⟩] scope pos) (dh eG gO ks ma tt te):=PE.mono (t8 (tt:=λσ=>liftT X.K X.mg (n6 EE σ) tt) (te:=λσ=>bh X.K X.mg (n6 EE σ) te) hx hst S how hc (m5 nY hm ha vS) (λσ cl C pins s0 H0 fp E=>hb cl C pins s0 H0 fp E _) hs) λ_ _ _ h=>n8 hO h
theorem AV {py spos p pc:Pos} (hx:gb X EE) (hst:mz X) (S:br X.env.scope X.N scope xs ks) (how:Own X scope xs ks tg ow) (hO:jD X.K X.mg ow gO) (hc:X.calm=Zh) (hN:X.N.Nodup) (hm:X.mg "range"=Zl) (ha:QA X EE [a] ma) (hb:j8 X scope xs ifs elt tt te) (hy:X.N[i]?=Zg y:=by rfl) (hl:X.env.scope.names.lookup y=Zg .local:=by rfl)
  (nY:Gl X "range":=by rfl) (vS:ZF [a] X.env=[(Zk,eval a X.env)]:=by rfl)
  (hsw:swapsWith (.ListComp elt [⟨tg,.Call (.Name "range" p) [a] [] pc,ifs,0⟩] scope pos) (Zg (.Name y py)) spos.line X.env=pure Zh:=by rfl) (hs:∀ x,foldedSetIterable (.Call (.Name "range" p) [a] [] pc) X.env x=pure x:=by intro _;rfl) :
  QS X EE (.Assign [.Name y py] (.ListComp elt [⟨tg,.Call (.Name "range" p) [a] [] pc,ifs,0⟩] scope pos) spos) (aH i (dh eG gO ks ma tt te)):=
 PS.mono (zE (tt:=λσ=>liftT X.K X.mg (n6 EE σ) tt) (te:=λσ=>bh X.K X.mg (n6 EE σ) te) hx hst S how hc hN (m5 nY hm ha vS) hy hl hsw (λσ cl C pins s0 H0 fp E=>hb cl C pins s0 H0 fp E _) hs) λ_ _ _ h=>vR (λ_ _ _ h=>n8 hO h) h
end
theorem Hj {k:Nat} (r:cP k A):A.units+600<cLine:=by have:=r.un;nofun
theorem O7 {EE:bR} {f:Addr} {pos:Pos} (hm:X.mg x=Zg (.ref f)) (hg:Gl X x:=by rfl) (hd:(x==("__debug__":Str))=Zk:=by decide):QE X EE (.Name x pos) (eC (.fn x)):=
 CO (zd hg hm (v:=.ref f) rfl hd) λ_ _=>by unfold Rep;exact ⟨f,rfl,hm⟩
def bf:Expr→Bool
 | .Starred ..=>Zk
 | _=>Zh
def plainT:Expr→Bool
 | .UnaryOp .Not _ _=>Zk
 | .BoolOp ..=>Zk
 | .IfExp ..=>Zk
 | .Compare ..=>Zk
 | _=>Zh
def iC:Expr→Bool
 | .Set ..=>Zk
 | _=>Zh
def j9:Expr→Bool
 | .ListComp ..=>Zk
 | .SetComp ..=>Zk
 | .DictComp ..=>Zk
 | _=>Zh
def nv:Expr→Bool
 | .Call (.Name _ _) [] [] _=>Zk
 | _=>Zh
def zF:Expr→Bool
 | .Slice ..=>Zk
 | _=>Zh
def ao:List Expr→Bool
 | []=>Zh
 | e::es=>bf e&&ao es
theorem aK (h:bf e=Zh) (es:List Expr) (env:Env):ZF (e::es) env=(Zk,eval e env)::ZF es env:=by cases e<;>first | rfl | cases h
theorem AW (h:plainT e=Zh) (env:Env) (whole:Sem Zj):isTrue e env whole=(do let v ← whole;standAt e.pos;holding [v] (truthy v)):=by cases e<;>first | rfl | cases h | (rename_i op _ _;cases op<;>first | rfl | cases h)
theorem iS (h:iC e=Zh) (env:Env) (x:Zj):foldedSetIterable e env x=pure x:=by cases e<;>first | rfl | cases h
theorem kJ (h:j9 e=Zh) (t:Option Expr) (l:Nat) (env:Env):swapsWith e t l env=pure Zk:=by cases e<;>first | rfl | cases h
theorem gZ (h:nv e=Zh) (n:Str) (env:Env):attributeBase e n env (eval e env)=eval e env:=by
 unfold attributeBase;split
 ·cases h
 ·rfl
theorem O8 (h:zF e=Zh):o6 e:=λo i=>by cases e<;>first | rfl | cases h
theorem Ho (h:iC e=Zh) (op:CmpOp):behindInMarks op e=Zk:=by cases e<;>first | rfl | cases h
theorem aJ {env:Env} {pos:Pos}:∀ {es:List Expr},ao es=Zh→(backTo pos (ZF es env)).any (·.1)=Zk
 | [],_=>rfl
 | e::es,h=>by
  have h':bf e=Zh∧ao es=Zh:=by simpa [ao] using h
  rw [aK h'.1];have ih:=aJ (env:=env) (pos:=pos) h'.2;show (Zk||(backTo pos (ZF es env)).any (·.1))=Zk;rw [ih];rfl
theorem sf {env:Env} {pos:Pos}:∀ {es:List Expr},ao es=Zh→(backTo pos (ZF es env)).all (λx=>!x.1)=Zh
 | [],_=>rfl
 | e::es,h=>by
  have h':bf e=Zh∧ao es=Zh:=by simpa [ao] using h
  rw [aK h'.1];have ih:=sf (env:=env) (pos:=pos) h'.2;show (!false&&(backTo pos (ZF es env)).all (λx=>!x.1))=Zh;rw [ih];rfl
theorem Dr (h:ao es=Zh) (hl:es.length<30):((backTo pos (ZF es env)).all (λx=>!x.1)&&(backToKw pos (keywordEach [] env)).all (λx=>x.1.isSome)
   && decide (es.length+([]:List Keyword).length+(if ([]:List Keyword).isEmpty then 0 else 1)<30))=Zh:=by
 rw [sf h];simp only [Bool.true_and,aan,decide_eq_true_eq];exact ⟨rfl,by simpa using hl⟩
section
variable {X:Cx} {EE:bR} {a b c e o:Expr} {es:List Expr} {ma mb mc me mo:DS→M D} {pos p apos cpos:Pos} {m:DS→M (List D)} {ms mt:MS} {x:Str} {ks:List Bool} {tt:DS→M Bool} {te:DS→M D}
theorem Hq {m:DS→M D} (ha:QE X EE e m) (hr:QA X EE es r) (h:bf e=Zh:=by rfl):QA X EE (e::es) (aa m r):=GN ha hr (aK h _ _)
theorem Mf (i:Nat) (hv:Ce X.env.scope x) (hd:(x==("__debug__":Str))=Zk∧(x==("__classdict__":Str))=Zk) (hN:X.N[i]?=Zg x:=by rfl):QE X EE (.Name x pos) (af i):=Lq i hN hv hd.1 hd.2
theorem O9 {f:Addr} (hm:X.mg x=Zg (.ref f)) (hg:Gl X x) (hd:(x==("__debug__":Str))=Zk∧(x==("__classdict__":Str))=Zk):QE X EE (.Name x pos) (eC (.fn x)):=O7 hm hg hd.1
theorem Dt (ha:QE X EE a ma) (hb:QE X EE b mb) (h:zF b=Zh:=by rfl):QE X EE (.Subscript a b pos) (ak aQ ma mb):=CW ha hb (O8 h)
theorem Mg (ho:iu X (compareOp op) (rD X EE f)) (ha:QE X EE a ma) (hb:QE X EE b mb) (h:iC b=Zh:=by rfl):QT X EE (.Compare a [op] [b] pos) (eU (ak f ma mb)):=LM ho ha hb (Ho h _)
theorem Mh (ha:QE X EE a ma) (h:plainT a=Zh:=by rfl):QT X EE a (iZ l9 ma):=LC ha (AW h _)
theorem jf {id:String} {f:List D→M D} (hc:c9 X (.builtin id) (AE X EE f)) (hm:X.mg x=Zl) (hg:Gl X x) (hv:bootBuiltins x=Zg (.builtin id)) (ha:QA X EE (e::es) m) (hn:x≠"__name__":=by decide) (hdb:(x==("__debug__":Str))=Zk:=by decide) (h:ao (e::es)=Zh:=by rfl) :
  QE X EE (.Call (.Name x p) (e::es) [] pos) (ai f m):=by
 have h':bf e=Zh∧ao es=Zh:=by simpa [ao] using h
 exact CS hc pV hm ha hg hv hn hdb (aK h'.1 _ _) (aJ h'.2)
theorem kK {id:String} {f:List D→M D} (hc:c9 X (.type id) (AE X EE f)) (hm:X.mg x=Zl) (hg:Gl X x) (hv:bootBuiltins x=Zg (.type id)) (ha:QA X EE (e::es) m) (hn:x≠"__name__":=by decide) (hdb:(x==("__debug__":Str))=Zk:=by decide) (h:ao (e::es)=Zh:=by rfl) :
  QE X EE (.Call (.Name x p) (e::es) [] pos) (ai f m):=by
 have h':bf e=Zh∧ao es=Zh:=by simpa [ao] using h
 exact Az hc pV hm ha hg hv hn hdb (aK h'.1 _ _) (aJ h'.2)
theorem Mi (hm:X.mg "len"=Zl) (hg:Gl X "len") (ha:QA X EE [e] m) (h:ao [e]=Zh:=by rfl):QE X EE (.Call (.Name "len" p) [e] [] pos) (ai cZ m):=jf AF hm hg PySem.boot_len ha (by decide) (by decide) h
theorem Hr (hc:X.calm=Zh) (hm:X.mg "max"=Zl) (hg:Gl X "max") (ha:QA X EE [e,a] m) (h:ao [e,a]=Zh:=by rfl):QE X EE (.Call (.Name "max" p) [e,a] [] pos) (ai (fM λi j=>if j > i then j else i) m):=jf (AG hc) hm hg acz ha (by decide) (by decide) h
theorem Hs (hc:X.calm=Zh) (hm:X.mg "min"=Zl) (hg:Gl X "min") (ha:QA X EE [e,a] m) (h:ao [e,a]=Zh:=by rfl):QE X EE (.Call (.Name "min" p) [e,a] [] pos) (ai (fM λi j=>if j<i then j else i) m):=jf (AH hc) hm hg PyProof.Rows.boot_min ha (by decide) (by decide) h
theorem Mj (c:Ty) {pt:Pos} (hc:c≠.cy) (hm:X.mg "isinstance"=Zl) (hmt:X.mg x=Zl) (hg:Gl X "isinstance") (hgt:Gl X x) (ha:QE X EE a ma) (hb:bootBuiltins x=Zg (.type c.nm)) (hnt:x≠"__name__") (hdt:(x==("__debug__":Str))=Zk) (h:bf a=Zh:=by rfl) :
  QE X EE (.Call (.Name "isinstance" p) [a,.Name x pt] [] pos) (Df c ma):=LZ c hc hm hmt ha hb hg hgt hnt hdt (aK h _ _) (aK rfl _ _) (aJ (es:=[.Name x pt]) rfl)
theorem zG {CX:mY} {k:Nat} {f:Addr} {ps:List Str} (F:gA X.prog X.w X.K X.mg X.base CX k f fd ps (fW X.K X.mg n mf)) (hr:cP k X.A) (hm:X.mg x=Zg (.ref f)) (hk:Z5 X.K (.ref f)=Zh) (hb:Binds X.K fd ps []) (hx:G8 CX X EE) (hg:Gl X x)
  (hd:(x==("__debug__":Str))=Zk∧(x==("__classdict__":Str))=Zk) (ha:QA X EE (e::es) m) (h:ao (e::es)=Zh:=by rfl):QE X EE (.Call (.Name x p) (e::es) [] pos) (az n mf m):=by
 have h':bf e=Zh∧ao es=Zh:=by simpa [ao] using h
 exact G9 F hr hm hk hb hx ha hg hd.1 (aK h'.1 _ _) (aJ h'.2)
theorem AX (ho:QE X EE o mo) (ha:QA X EE [e] m) (hb:nv o=Zh:=by rfl) (h:ao [e]=Zh:=by rfl) (hline:(apos.endLine==cpos.line)=Zh:=by rfl):QE X EE (.Call (.Attribute o "append" apos) [e] [] cpos) (cJ "list" cK mo m):=by
 have h':bf e=Zh∧ao []=Zh:=by simpa [ao] using h
 exact AI ho ha (gZ hb _ _) (Dr h (by simp)) hline (aK h'.1 _ _) (aJ (es:=[]) rfl)
theorem Ml (ho:QE X EE o mo) (hb:nv o=Zh:=by rfl) (hline:(apos.endLine==cpos.line)=Zh:=by rfl):QE X EE (.Call (.Attribute o "pop" apos) [] [] cpos) (cJ "list" oH mo ah):=L5 ho (gZ hb _ _) hline
theorem Ht (he:QE X EE a ma) (h:j9 a=Zh:=by rfl):QS X EE (.Expr a pos) (iB ma):=GY he (kJ h _ _ _)
theorem Mm {pos':Pos} (hN:X.N.Nodup) (hx:Loc X.env.scope x) (he:QE X EE a ma) (hf:X.fn x=Zh∨X.env.scope.names.lookup x=Zg .local) (hi:X.N[i]?=Zg x:=by rfl) (h:j9 a=Zh:=by rfl):QS X EE (.Assign [.Name x pos'] a pos) (aH i ma):=LW hN he hi hx (kJ h _ _ _) hf
theorem Du {i:Expr} {tpos:Pos} (hv:QE X EE a mv) (ho:QE X EE o mo) (hi:QE X EE i mi) (h:j9 a=Zh:=by rfl)
  (L6:∀ v,assign (.Subscript o i tpos) X.env v=(do
   let ov ← holding [v] (eval o X.env)
   let iv ← holding [v,ov] (eval i X.env)
   standAt tpos
   holding [v,ov,iv] (setItem ov iv v)
   release [v,ov,iv] []):=by intro _;rfl):QS X EE (.Assign [.Subscript o i tpos] a pos) (lI mv mo mi):=
 Dg hv ho hi (by unfold swapsWithSole;exact kJ h _ _ _) (by first | rfl | (unfold swappedStores;rfl)) rfl L6
theorem Hu (hN:X.N.Nodup) (hx:Loc X.env.scope x) (hf:X.fn x=Zh∨X.env.scope.names.lookup x=Zg .local) (hi:X.N[i]?=Zg x:=by rfl):QG X (.Name x pos) (gN i):=G5 hN hi hx hf
theorem Mn (hp:PassesOwn (model X.prog X.w) X.A X.env X.xe) (hc:X.calm=Zh) (ha:QE X EE a ma) (hg:QG X tg g) (hb:qY X EE body ms) (h:iC a=Zh:=by rfl):QS X EE (.For tg a body [] pos) (nk g ma ms):=LX hp hc ha hg hb (iS h _)
theorem Dv {pc:Pos} (hp:PassesOwn (model X.prog X.w) X.A X.env X.xe) (hc:X.calm=Zh) (hm:X.mg "range"=Zl) (nY:Gl X "range") (ha:QA X EE [a] m) (hg:QG X tg g) (hb:qY X EE body ms) (h:bf a=Zh:=by rfl) :
  QS X EE (.For tg (.Call (.Name "range" p) [a] [] pc) body [] pos) (f7 eG g m ms):=De hp hc hm ha hg hb nY (aK h _ _) (iS rfl _)
variable {scope:Scope} {elt iter tg:Expr} {xs:List Str} {ow:V→Hp→List V→Prop} {gO:D→Option (List D)} {ifs:List Expr} {px:Pos}
theorem Hv (hx:gb X EE) (hst:mz X) (S:br X.env.scope X.N scope xs ks) (how:Own X scope xs ks tg ow) (hO:jD X.K X.mg ow gO) (hc:X.calm=Zh) (ha:QE X EE iter ma) (hb:j8 X scope xs ifs elt tt te) (h:iC iter=Zh:=by rfl):QE X EE (.ListComp elt [⟨tg,iter,ifs,0⟩] scope pos) (jT gO ks ma tt te):=Hi hx hst S how hO hc ha hb (iS h _)
theorem AY {pc:Pos} (hx:gb X EE) (hst:mz X) (S:br X.env.scope X.N scope xs ks) (how:Own X scope xs ks tg ow) (hO:jD X.K X.mg ow gO) (hc:X.calm=Zh) (hm:X.mg "range"=Zl) (nY:Gl X "range") (ha:QA X EE [a] m) (hb:j8 X scope xs ifs elt tt te) (h:bf a=Zh:=by rfl) :
  QE X EE (.ListComp elt [⟨tg,.Call (.Name "range" p) [a] [] pc,ifs,0⟩] scope pos) (dh eG gO ks m tt te):=AU hx hst S how hO hc hm ha hb nY (aK h _ _) (iS rfl _)
theorem AZ (hx:gb X EE) (hst:mz X) (S:br X.env.scope X.N scope xs ks) (how:Own X scope xs ks tg ow) (hO:jD X.K X.mg ow gO) (hc:X.calm=Zh) (hN:X.N.Nodup) (hl:X.env.scope.names.lookup y=Zg .local) (hm:X.mg "range"=Zl) (nY:Gl X "range") (ha:QA X EE [a] m) (hb:j8 X scope xs ifs elt tt te)
  (hsw:swapsWith (.ListComp elt [⟨tg,.Call (.Name "range" p) [a] [] pc,ifs,0⟩] scope pos) (Zg (.Name y py)) spos.line X.env=pure Zh) (hy:X.N[i]?=Zg y:=by rfl) (h:bf a=Zh:=by rfl) :
  QS X EE (.Assign [.Name y py] (.ListComp elt [⟨tg,.Call (.Name "range" p) [a] [] pc,ifs,0⟩] scope pos) spos) (aH i (dh eG gO ks m tt te)):=AV hx hst S how hO hc hN hm ha hb hy hl nY (aK h _ _) hsw (iS rfl _)
theorem A0 {l:Nat} (hb:(env.blockKind==.function)=Zh) (hl:env.scope.names.lookup y=Zg .local) (hp:(py.line==pos.line)=Zh) (hq:(scope.names.any λx=>x.1==y&&(x.2==.local||x.2==.cell))=Zk):swapsWith (.ListComp elt gens scope pos) (Zg (.Name y py)) l env=pure Zh:=by
 unfold swapsWith;dsimp only;show (pure (env.blockKind==.function&&env.kindOf y==Zg .local&&py.line==pos.line&&!(scope.names.any λx=>x.1==y&&(x.2==.local||x.2==.cell))):Sem Bool)=pure Zh;have e:(env.kindOf y==Zg NameKind.local)=Zh:=by rw [show env.kindOf y=Zg NameKind.local from hl];rfl
 rw [hb,e,hp,hq];rfl
theorem Mp (S:br X.env.scope X.N scope xs ks) (h:x∈xs):Ce (mw X scope cl xs C pins s0 H0 fp E).env.scope x:=.inl (pZ (cl:=cl) (C:=C) S h)
theorem Hw (S:br X.env.scope X.N scope xs ks) (h:scope.names.lookup y=Zg .free):Ce (mw X scope cl xs C pins s0 H0 fp E).env.scope y:=.inr (nt (cl:=cl) (C:=C) S h)
theorem Hx (h:scope.names.lookup y=Zg .globalImplicit):Gl (mw X scope cl xs C pins s0 H0 fp E) y:=by show (compEnvC scope cl C X.env).kindOf y=Zg .globalImplicit;have e:(compEnvC scope cl C X.env).kindOf y=(scope.names.lookup y).map (q8 X.env y):=eX scope.names;rw [e,h];rfl
end
section
open Builtin Builtin.Str
section
variable {X:Cx} {EE:bR}
def p7:List D→M D
 | [d]=>λG=>match aF G d with
  | some (.lst xs)=>bK xs G
  | some (.tup xs)=>.ok d G
  | _=>.stuck
 | _=>M.stop
theorem A1:c9 X (.type "tuple") (AE X EE p7):=by
 intro pins s σ0 H xs us Q I r zu;obtain ⟨σ,τ,ρ,G,ds,ab,zy,ok⟩:=zu
 match ds,ok with
 | [],ok=>exact ok.elim
 | _::_::_,ok=>exact ok.elim
 | [y],ok=>
  obtain ⟨yv,rfl,ry⟩:=fQ zy;dsimp only [p7] at ok;cases q:aF G y with
  | none=>rw [q] at ok;exact ok.elim
  | some sk=>
   rw [q] at ok;cases sk with
   | str _=>exact ok.elim
   | tup ys=>obtain ⟨p,vs,rfl,sq,rs⟩:=iw ry q;exact kY pins s σ0 H _ us Q I r ⟨p,vs,rfl,.inr ⟨sq,ok _ H ρ .refl ab ry⟩⟩
   | lst ys=>obtain ⟨p,vs,rfl,sq,rs⟩:=bE (pins:=pins) (σ0:=σ0) (s:=s) ab.hp ry q;exact kY pins s σ0 H _ us Q I r ⟨p,vs,rfl,.inl ⟨sq,λl hl=>(pT ab rs ok).2 l hl⟩⟩
def ny:List D→M D
 | [d]=>λG=>match aF G d with
  | some (.lst xs)=>aL xs G
  | some (.tup xs)=>aL xs G
  | _=>.stuck
 | _=>M.stop
theorem A2:c9 X (.type "list") (AE X EE ny):=by
 intro pins s σ0 H xs us Q I r zu;obtain ⟨σ,τ,ρ,G,ds,ab,zy,ok⟩:=zu
 match ds,ok with
 | [],ok=>exact ok.elim
 | _::_::_,ok=>exact ok.elim
 | [y],ok=>
  obtain ⟨yv,rfl,ry⟩:=fQ zy;dsimp only [ny] at ok;cases q:aF G y with
  | none=>rw [q] at ok;exact ok.elim
  | some sk=>
   rw [q] at ok;cases sk with
   | str _=>exact ok.elim
   | tup ys=>obtain ⟨p,vs,rfl,sq,rs⟩:=iw ry q;exact l6 pins s σ0 H _ us Q I r ⟨p,vs,rfl,.inr sq,λl hl=>(lE ab rs ok).2 l hl⟩
   | lst ys=>obtain ⟨p,vs,rfl,sq,rs⟩:=bE (pins:=pins) (σ0:=σ0) (s:=s) ab.hp ry q;exact l6 pins s σ0 H _ us Q I r ⟨p,vs,rfl,.inl sq,λl hl=>(lE ab rs ok).2 l hl⟩
variable {x:Str} {p pos apos cpos:Pos} {e o:Expr} {es:List Expr} {m:DS→M (List D)} {mo:DS→M D}
theorem boot_tuple:bootBuiltins "tuple"=Zg (.type "tuple"):=by symm
theorem boot_list:bootBuiltins "list"=Zg (.type "list"):=by symm
theorem Dw (hm:X.mg "tuple"=Zl) (hg:Gl X "tuple") (ha:QA X EE [e] m) (h:ao [e]=Zh:=by rfl):QE X EE (.Call (.Name "tuple" p) [e] [] pos) (ai p7 m):=kK A1 hm hg boot_tuple ha (by decide) (by decide) h
theorem Hy (hm:X.mg "list"=Zl) (hg:Gl X "list") (ha:QA X EE [e] m) (h:ao [e]=Zh:=by rfl):QE X EE (.Call (.Name "list" p) [e] [] pos) (ai ny m):=kK A2 hm hg boot_list ha (by decide) (by decide) h
def lK (i n:Nat) (lU:Str→Option (List D→M D)) (m:DS→M (List D)):DS→M D:=λτ G=>match τ[i]? with
 | some (Zg (.fn y))=>match lU y with
  | some mf=>az n mf m τ G
  | none=>.stuck
 | _=>.stuck
theorem Dy {CX:mY} {n:Nat} {lU:Str→Option (List D→M D)} (hN:X.N[i]?=Zg x) (hv:Ce X.env.scope x) (hd:(x==("__debug__":Str))=Zk∧(x==("__classdict__":Str))=Zk)
  (hF:∀ y mf,lU y=Zg mf→∃ k f fd ps,gA X.prog X.w X.K X.mg X.base CX k f fd ps (fW X.K X.mg n mf)∧cP k X.A∧X.mg y=Zg (.ref f)∧Z5 X.K (.ref f)=Zh∧Binds X.K fd ps []) (hx:G8 CX X EE)
  (ha:QA X EE (e::es) m) (h:ao (e::es)=Zh:=by rfl):QE X EE (.Call (.Name x p) (e::es) [] pos) (lK i n lU m):=by
 have h':bf e=Zh∧ao es=Zh:=by simpa [ao] using h
 intro pins s σ H Q I hq;obtain ⟨τ,ρ,G,ab,ok⟩:=hq;unfold lK at ok;cases q:τ[i]? with
 | none=>rw [q] at ok;exact ok.elim
 | some od=>
  cases od with
  | none=>rw [q] at ok;exact ok.elim
  | some d=>
   rw [q] at ok;cases d<;>try exact ok.elim
   rename_i y;dsimp only at ok;cases qt:lU y with
   | none=>rw [qt] at ok;exact ok.elim
   | some mf=>
    rw [qt] at ok;obtain ⟨k,f,fd,ps,F,hr,hm,hk,hb⟩:=hF y mf qt;obtain ⟨v,ev,rv⟩:=ab.st.2 i (.fn y) q;unfold Rep at rv;obtain ⟨a,rfl,ha'⟩:=rv;rw [hm] at ha';cases ha';obtain ⟨τ1,ρ1,G1,fD,zx⟩:=jx (k:=λ_ ds=>if ds.length=n then mf ds else M.stop) ⟨τ,ρ,G,ab,ok⟩;refine ZK (Z8 (xM hN hv hd.1 hd.2 pins s σ H (λv' H'=>v'=.ref f∧H'=H) I ⟨_,ev,rfl,rfl⟩) (λu s0 hu=>?_) λ_ _ z=>z);obtain ⟨v',H',I0,r0,rfl,rfl⟩:=hu;cases r0;refine abj (h₀:=X.base) I0.ok.mod.BZ hk (cO (ha pos pins s0 σ H' _ I0 ⟨τ1,ρ1,G1,fD,zx⟩) λus s1 ⟨vs,H1,I1,r,q⟩=>⟨I1.oY,?_⟩) (aK h'.1 _ _) (aJ h'.2);obtain ⟨τ2,ρ2,G2,ds,bA,rs,aI⟩:=q;by_cases hn:ds.length=n
    ·rw [if_pos hn] at aI;exact o9 F hr hb hx I1 r bA rs hn aI
    ·rw [if_neg hn] at aI;exact aI.elim
end
end
section
open Builtin Builtin.Str
section
variable {X:Cx} {EE:bR}
def Wn (f:D→M D) (m:DS→M D):DS→M D:=λτ=>(m τ).bind f
variable {o:Expr} {mo:DS→M D} {y z:Str} {j1 j2:Nat} {p1 p2 apos cpos:Pos}
end
end
def Mq (CX:mY) (X:Cx) (n:Nat):List (Str×(List D→M D))→Prop
 | []=>True
 | q::r=>(∃ k f fd ps,gA X.prog X.w X.K X.mg X.base CX k f fd ps (fW X.K X.mg n q.2)∧cP k X.A∧X.mg q.1=Zg (.ref f)∧Z5 X.K (.ref f)=Zh∧Binds X.K fd ps [])∧Mq CX X n r
theorem Pa {CX:mY} {X:Cx} {n:Nat}:∀ {l:List (Str×(List D→M D))},Mq CX X n l→∀ (y:Str) (mf:List D→M D),l.lookup y=Zg mf→∃ k f fd ps,gA X.prog X.w X.K X.mg X.base CX k f fd ps (fW X.K X.mg n mf)∧cP k X.A∧X.mg y=Zg (.ref f)∧Z5 X.K (.ref f)=Zh∧Binds X.K fd ps []
 | [],_,_,_,h=>nomatch h
 | q::r,⟨h1,hr⟩,y,mf,h=>by
  obtain ⟨qn,qm⟩:=q;rw [ZW] at h;cases e:y==qn with
  | true=>rw [e] at h;cases h;have:=eq_of_beq e;subst this;exact h1
  | false=>rw [e] at h;exact Pa hr y mf h
theorem SH (ha:QE X EE e m) (h:bf e=Zh) (hr:QA X EE es r):QA X EE (e::es) (aa m r):=Hq ha hr h
theorem ym:typeLookup (.type "list_reverseiterator") (aby "__len__")=(pure Zl:Sem (Option Zj)):=by rw [typeLookup_type,builtinLookup_eq_fast];rfl
theorem Dz:typeLookup (.type "list_reverseiterator") (aby "__length_hint__")=(pure (Zg (.builtin "list_reverseiterator.__length_hint__")):Sem (Option Zj)):=by rw [typeLookup_type,builtinLookup_eq_fast];rfl
theorem DA:isSubtype (.type "list_reverseiterator") (.type "list_reverseiterator")=(pure Zh:Sem Bool):=by rw [isSubtype_type];rfl
theorem DB {M:Model} {i:Int} {Q:Bool→Zq→Prop} (hr:s.heap.IsRevIter it l i) (h:Q Zk s):ZD M A (acX (.ref it)) Q E s:=by
 have ty:s.TypeIs (.ref it) "list_reverseiterator":=by obtain ⟨o,e,c,_⟩:=hr;exact ⟨o,e,c⟩
 unfold acX;refine Zi (abu ty ym ?_);refine Zi (abu ty Dz ?_);have e1:splitId "list_reverseiterator.__length_hint__"=Zg ("list_reverseiterator","__length_hint__"):=by symm
 dsimp only;rw [e1];dsimp only;refine Zi (adp ty DA ?_);rw [if_neg (by decide)];split
 ·rw [if_neg (by decide)];exact Zz h
 ·rename_i hs;exact absurd (by symm) hs
theorem p8 {prog:ZT} {w:aaa} {R:Result→Zq→Prop} (hh:A.handled=Zl) (hit:s.heap.IsRevIter it l ((items.size:Int) - 1)) (hl:s.heap.IsList l items) (hne:l≠it) (hz:items.size≤Zm) (S:Addr) (res:Zj) (c₀:Nat)
  (hS:s.heap.get? S=Zg {cls:=.type "list",data:=.seq #[] c₀}) (Wo:S≠l)
  (hR:∀ (s':Zq) (acc':Array Zj) (c':Nat),Moved [S,it] (λa b=>b=a) s s'→s'.heap.get? S=Zg {cls:=.type "list",data:=.seq acc' c'}→ItemsOf (λi v=>items[items.size - 1 - i]?=Zg v) acc' items.size→R (.ok (.ret res)) s') :
  ZD (model prog w) A.in1 (abX (.ref S) (.ref it) res) (λfin s'=>match fin with
   | .done f=>R (.ok f) s'
   | .again c'=>c'.quiet=Zh∧codeAny (model prog w) A c' R s') (λe s'=>R (.error e) s') s:=by
 have Pb:S≠it:=by rintro rfl;obtain ⟨o,e,c,d⟩:=hit;rw [hS] at e;cases e;exact absurd (Value.type.inj c) (by decide)
 have ty:s.TypeIs (.ref it) "list_reverseiterator":=by obtain ⟨o,e,c,_⟩:=hit;exact ⟨o,e,c⟩
 have Wk:=Walks.toS (Walks.listRev (prog:=prog) (w:=w) (A:=A.in1) (show A.in1.handled=Zl from hh) it l hne items);have key:=codeAny_extend_loopS Wk hz S (by simp [Pb,Wo]) res items.size 0 (R:=R);unfold abX;refine Zi (aew ty ?_);have h1:adk (.ref S) (.ref it)=Zk:=by simp [adk,Pb]
 rw [if_neg (by rw [h1];decide)];refine Zi (aa3 hit ?_);refine Zi (abU (DB hit ?_));dsimp only;split
 ·rename_i hs;exact absurd hs (by symm)
 ·exact Zz ⟨plainId_quiet F.plain_extend_loop _,key s #[] c₀ rfl (abe _) ⟨abe _,by simpa using hit,hl⟩ hS (ItemsOf.nil _) hR⟩
theorem rj {prog:ZT} {w:aaa} {E:Zj→Zq→Prop} {Q:Zj→Zq→Prop} (hh:A.handled=Zl) (hit:s.heap.IsRevIter it l ((items.size:Int) - 1)) (hl:s.heap.IsList l items) (hne:l≠it) (hz:items.size≤Zm)
  (hQ:∀ (h':Heap) (tk:Nat) (acc':Array Zj) (c':Nat),(∀ b o,b≠it→s.heap.get? b=Zg o→h'.get? b=Zg o)→h'.get? s.heap.objs.size=Zg {cls:=.type "list",data:=.seq acc' c'}→ItemsOf (λi v=>items[items.size - 1 - i]?=Zg v) acc' items.size→Q (.ref s.heap.objs.size) {s with heap:=h',toks:=tk}) :
  ZD (model prog w) A (call (.type "list") [.ref it]) Q E s:=by
 have SI:l<s.heap.objs.size:=by obtain ⟨o,e,_⟩:=hl;exact Zu e
 have Wq:it<s.heap.objs.size:=by obtain ⟨o,e,_⟩:=hit;exact Zu e
 refine callType_codes (Q₁:=λv s1=>v=.ref s.heap.objs.size∧s1={s with heap:=s.heap.push {cls:=.type "list",data:=.seq #[]}}) F.called_list (F.typeCall_list_1 (.ref it)) F.entry_list_init (code_list_new (.ref it) ⟨rfl,rfl⟩) λobj s₁ h₁=>?_;obtain ⟨rfl,rfl⟩:=h₁;have hS:=Zv (o:={cls:=.type "list",data:=.seq #[]}) s.heap rfl;refine ⟨⟨_,hS,rfl⟩,F.args_list_init_2 (.ref s.heap.objs.size) (.ref it),?_⟩;have kp:∀ b o,s.heap.get? b=Zg o→(s.heap.push {cls:=.type "list",data:=.seq #[]}).get? b=Zg o:=λb o e=>Zn _ e;unfold abR.«list.__init__»;refine Zi ?_;unfold Builtin.List.listItems;refine Zi (abM hS rfl (Zz ?_));refine Zi ?_;unfold Builtin.List.listUpdate;refine acf hS rfl ?_ (by simp [sizeLine_eq]) (by simp [sizeLine_eq]);have Wr:=Z1 (ab0 λx=>#[]) hS rfl;have qZ:∀ b o,b≠s.heap.objs.size→(s.heap.push {cls:=.type "list",data:=.seq #[]}).get? b=Zg o→((s.heap.push {cls:=.type "list",data:=.seq #[]}).update s.heap.objs.size (ab0 λx=>#[])).get? b=Zg o:=λb o hb e=>(ZR _ _ (aat hb)).trans e;refine Zi (ada ?_);have up:∀ b o,s.heap.get? b=Zg o→((s.heap.push {cls:=.type "list",data:=.seq #[]}).update s.heap.objs.size (ab0 λx=>#[])).get? b=Zg o:=λb o e=>qZ b o (ZE (Zu e)) (kp b o e);refine p8 (l:=l) (items:=items) (show A.in1.handled=Zl from hh) ?_ ?_ hne hz s.heap.objs.size .none (if ((#[]:Array Zj).size==(#[]:Array Zj).size)=Zh then 0 else 0+1) ?_ (acV SI) ?_
 ·obtain ⟨o,e,r⟩:=hit;exact ⟨o,up _ _ e,r⟩
 ·obtain ⟨o,e,r⟩:=hl;exact ⟨o,up _ _ e,r⟩
 ·exact Wr
 ·intro s' acc' c' hm hS' hacc;rw [Moved.eq_with hm];refine ⟨rfl,hQ s'.heap s'.toks acc' c' (λb o hb e=>?_) hS' hacc⟩;refine hm.heap b o ?_ (up b o e);simp [hb,ZE (Zu e)]
section
variable {X:Cx} {EE:bR} {a b c e o:Expr} {es:List Expr} {ma mb mo:DS→M D} {m:DS→M (List D)} {t:DS→M Bool} {ms:MS} {pos p p2 pos2 apos cpos:Pos}
def fuel:Nat:=100000
def gc (t:DS→M Bool) (ms:MS):Nat→MS
 | 0=>λ_ _=>.stuck
 | n+1=>λτ=>bz (t τ) (λc G=>if c=Zh then (match ms τ G with
   | .nx τ' G'=>gc t ms n τ' G'
   | .ct τ' G'=>gc t ms n τ' G'
   | .bk τ' G'=>.nx τ' G'
   | r=>r) else .nx τ G) λc G=>.xn c τ G
theorem GJ.imp {r:Out Bool} {Q:Bool→Hp→Prop} (h:GJ X.K X.mg EE H σ τ ρ r Q) (i:∀ b H',Q b H'→Q' b H'):GJ X.K X.mg EE H σ τ ρ r Q':=by
 cases r with
 | stuck=>exact h
 | ok b G=>exact λH' ρ' f ab=>i b H' (h H' ρ' f ab)
 | bq c G=>exact h
theorem DC (hp:PassesOwn (model X.prog X.w) X.A X.env X.xe) (hc:QT X EE c t) (hb:qY X EE body ms):QS X EE (.While c body [] pos) (gc t ms n):=PS.mono (Cm hp hc hb) λDd σ H h=>by
 obtain ⟨τ0,ρ0,G0,Hh,Ws⟩:=h;refine ⟨λm σ H=>∃ τ ρ G,Ab X.K X.mg σ H τ ρ G∧qX X.K X.mg EE H ρ Dd (gc t ms m τ G),⟨n,τ0,ρ0,G0,Hh,Ws⟩,?_⟩;rintro m σ H ⟨τ,ρ,G,ab,ok⟩;cases m with
 | zero=>exact ok.elim
 | succ m=>
  obtain ⟨τ1,ρ1,G1,fD,zx⟩:=CN (k:=λτ c G=>if c=Zh then (match ms τ G with
   | .nx τ' G'=>gc t ms m τ' G'
   | .ct τ' G'=>gc t ms m τ' G'
   | .bk τ' G'=>.nx τ' G'
   | r=>r) else .nx τ G) (show gB X.K X.mg EE (λτ=>bz (t τ) (λc G=>if c=Zh then (match ms τ G with
   | .nx τ' G'=>gc t ms m τ' G'
   | .ct τ' G'=>gc t ms m τ' G'
   | .bk τ' G'=>.nx τ' G'
   | r=>r) else .nx τ G) λc G=>.xn c τ G) Dd σ H from ⟨τ,ρ,G,ab,ok⟩)
  refine ⟨τ1,ρ1,G1,fD,zx.imp λb H1 hq=>?_⟩;obtain ⟨τ2,ρ2,G2,bA,aI⟩:=hq;cases b with
  | false=>rw [if_neg ZX] at aI ⊢;exact aI σ H1 ρ2 .refl bA
  | true=>
   rw [if_pos rfl] at aI ⊢;refine ⟨λσ' H'=>∃ τ ρ G,Ab X.K X.mg σ' H' τ ρ G∧qX X.K X.mg EE H' ρ Dd (gc t ms m τ G),λσ' H' w=>⟨m,aaB _,w⟩,τ2,ρ2,G2,bA,?_⟩;cases q:ms τ2 G2 with
   | stuck=>rw [q] at aI;exact aI
   | nx τ' G'=>rw [q] at aI;exact λσ' H' ρ' f aV=>⟨τ',ρ',G',aV,aI.fut f⟩
   | ct τ' G'=>rw [q] at aI;exact λσ' H' ρ' f aV=>⟨τ',ρ',G',aV,aI.fut f⟩
   | bk τ' G'=>rw [q] at aI;exact aI
   | rt d G'=>rw [q] at aI;exact aI
   | xn c τ' G'=>rw [q] at aI;exact aI
def vU:List D→M D
 | [d]=>λG=>match aF G d with
  | some (.lst xs)=>aL xs.reverse G
  | _=>.stuck
 | _=>M.stop
theorem jh:bootBuiltins "reversed"=Zg (.type "reversed"):=by symm
theorem aq.rev:∀ {ds:List D} {vs:List V},aq K mg ρ H ds vs→aq K mg ρ H ds.reverse vs.reverse
 | [],vs,h=>by unfold aq at h;subst h;exact .nil
 | d::ds,vs,h=>by unfold aq at h;obtain ⟨v,r,rfl,h1,h2⟩:=h;rw [aaw,aaw];exact (aq.rev h2).append (.cons h1 .nil)
theorem Vals.app:∀ {xs ys:List V} {us vs:List Zj},Vals xs us→Vals ys vs→Vals (xs++ys) (us++vs)
 | _,_,_,_,.nil,h=>h
 | _,_,_,_,.cons r t,h=>.cons r (Vals.app t h)
theorem Vals.rev:∀ {xs:List V} {us:List Zj},Vals xs us→Vals xs.reverse us.reverse
 | _,_,.nil=>.nil
 | _,_,.cons r t=>by rw [aaw,aaw];exact Vals.app (Vals.rev t) (.cons r .nil)
theorem sj {acc:Array Zj} (h:ItemsOf (λi v=>its.toArray[its.toArray.size - 1 - i]?=Zg v) acc its.toArray.size):acc=its.reverse.toArray:=by
 obtain ⟨h1,h2⟩:=h;have hs:its.toArray.size=its.length:=by simp
 rw [hs] at h1;apply Array.ext_getElem?;intro i;by_cases hi:i<acc.size
 ·have e:=h2 i acc[i] (ab8 hi);rw [ab8 hi,← e];rw [abV,abV,abW (by nofun),hs]
 ·rw [abP (by nofun),abP (by simp;nofun)]
theorem yo (hc:X.calm=Zh) (hm1:X.mg "list"=Zl) (SJ:Gl X "list") (hm2:X.mg "reversed"=Zl) (SK:Gl X "reversed") (ha:QA X EE [e] m) (h:ao [e]=Zh:=by rfl) :
  QE X EE (.Call (.Name "list" p) [.Call (.Name "reversed" p2) [e] [] pos2] [] pos) (ai vU m):=by
 have h':bf e=Zh∧ao []=Zh:=by simpa [ao] using h
 intro pins s σ H Q I hq;have hq':=jx (k:=λ_ ds=>vU ds) hq;refine ZK (dX I SJ hm1 boot_list ?_ (by decide) (by decide));refine ZJ ?_ (aK rfl _ _) (aJ (es:=[]) rfl);rw [aK (e:=.Call (.Name "reversed" p2) [e] [] pos2) rfl];show ZD _ _ (spliced ((Zk,eval _ X.env)::backTo pos (ZF [] X.env))) _ _ s;refine aaz ?_;refine ZK (dX I SK hm2 jh ?_ (by decide) (by decide));refine ZJ (cO (ha pos2 pins s σ H _ I hq') λus s1 oE=>?_) (aK h'.1 _ _) (aJ (es:=[]) rfl);obtain ⟨vs,H1,I1,r1,τ,ρ,G,ds,ab,rs,ok⟩:=oE
 match ds,ok with
 | [],ok=>exact ok.elim
 | _::_::_,ok=>exact ok.elim
 | [d],ok=>
  obtain ⟨x,rfl,rx⟩:=fQ rs;obtain ⟨u,rfl,ru⟩:=vals1 r1;dsimp only [vU] at ok;cases q:aF G d with
  | none=>rw [q] at ok;exact ok.elim
  | some sk=>
   rw [q] at ok;cases sk with
   | tup zs=>exact ok.elim
   | str z=>exact ok.elim
   | lst zs=>
    dsimp only at ok;obtain ⟨l,ys,rfl,sq,rv⟩:=bE (pins:=pins) (σ0:=σ) (s:=s1) ab.hp rx q;cases ru;obtain ⟨its,vv,pl,hz⟩:=I1.list sq;have hlen:=vv.length;have hl:=pl.isList;have hlt:l<s1.heap.objs.size:=by obtain ⟨_,e,_⟩:=hl;exact Zu e
    refine call_reversed_list hl ?_;refine aa6 ?_;refine gS (by first | exact I1.os.2 | exact aab _) <| rj (l:=l) (items:=its.toArray) (show X.A.handled=Zl from I.ok.hd hc) ⟨_,Zv _ rfl,rfl,rfl⟩ (hl.push _) (ZE hlt) (by simp;nofun) λh' tk acc' c' kp hS hacc ht=>?_;have ea:=sj hacc;subst ea;obtain ⟨hlr,hn⟩:=lE ab rv.rev ok;have hsz:(s1.heap.push (revObj l ((its.toArray.size:Int) - 1))).objs.size=s1.heap.objs.size+1:=aaF ..;refine ⟨.ref _,upd H1 _ (.lst ys.reverse),I1.laid (t':=tk) (λb o e=>kp b o (ZE (Zu e)) (Zn _ e)) ?_ ⟨hlr,its.reverse,c',Vals.rev vv,hS⟩,rfl,hn _ (I1.hok.fresh ?_)⟩
    ·show s1.heap.objs.size≤(s1.heap.push _).objs.size;rw [hsz];nofun
    ·show s1.heap.objs.size≤(s1.heap.push _).objs.size;rw [hsz];nofun
def intsOf:List D→Option (List Int)
 | []=>Zg []
 | .int b::r=>(intsOf r).map (b::·)
 | _::_=>Zl
theorem lM {K:Zo} {mg:Str→Option Zj} {ρ:List Addr} {H:Hp}:∀ {ds:List D} {vs:List V} {us:List Zj} {bs:List Int},aq K mg ρ H ds vs→Vals vs us→intsOf ds=Zg bs→us.length=bs.length∧∀ (i:Nat) (v:Zj),us[i]?=Zg v→∃ t,v=Value.int (bs.getD i 0) t
 | [],vs,us,bs,r,v,e=>by unfold aq at r;subst r;cases v;cases e;exact ⟨rfl,λi v h=>by simp at h⟩
 | d::ds,vs,us,bs,r,v,e=>by
  unfold aq at r;obtain ⟨x,r',rfl,h1,h2⟩:=r;cases v with
  | cons v1 v2=>
   cases d<;>try (cases e;done)
   rename_i b;dsimp only [intsOf] at e;cases q:intsOf ds with
   | none=>rw [q] at e;cases e
   | some bs'=>
    rw [q] at e;cases e;unfold Rep at h1;subst h1;obtain ⟨t,rfl⟩:=v1;obtain ⟨hl,hi⟩:=lM h2 v2 q;refine ⟨by simp [hl],λi v h=>?_⟩;cases i with
    | zero=>simp at h;exact ⟨t,by simp [h]⟩
    | succ i=>obtain ⟨t',e'⟩:=hi i v (by simpa using h);exact ⟨t',by simpa using e'⟩
theorem preSum_eq (bs:List Int):∀ n,n≤bs.length→preSum (λi=>bs.getD i 0) n=(bs.take n).sum
 | 0,_=>by simp [preSum]
 | n+1,h=>by show preSum (λi=>bs.getD i 0) n+bs.getD n 0=_;have:bs[n]?=Zg bs[n]:=Zr (by nofun);rw [preSum_eq bs n (by nofun),← List.take_append_getElem (show n<bs.length by nofun),aeX,ab5,this];rw [List.sum_singleton];rfl
def iD:List D→M D
 | [d]=>λG=>match aF G d with
  | some (.lst xs)=>match intsOf xs with
   | some bs=>.ok (.int bs.sum) G
   | none=>.stuck
  | _=>.stuck
 | _=>M.stop
def DE (bs:List Int):Int:=bs.getD (argBest (λi j=>decide (bs.getD i 0 > bs.getD j 0)) (bs.length - 1)) 0
def sr:List D→M D
 | [d]=>λG=>match aF G d with
  | some (.lst xs)=>match intsOf xs with
   | some bs=>if 0<bs.length then .ok (.int (DE bs)) G else .stuck
   | none=>.stuck
  | _=>.stuck
 | _=>M.stop
theorem su (hc:X.calm=Zh):c9 X (.builtin "sum") (AE X EE iD):=by
 intro pins s σ0 H xs us Q I r zu;obtain ⟨σ,τ,ρ,G,ds,ab,rs,ok⟩:=zu
 match ds,ok with
 | [],ok=>exact ok.elim
 | _::_::_,ok=>exact ok.elim
 | [d],ok=>
  obtain ⟨x,rfl,rx⟩:=fQ rs;obtain ⟨u,rfl,ru⟩:=vals1 r;dsimp only [iD] at ok;cases q:aF G d with
  | none=>rw [q] at ok;exact ok.elim
  | some sk=>
   rw [q] at ok;cases sk with
   | tup zs=>exact ok.elim
   | str z=>exact ok.elim
   | lst zs=>
    dsimp only at ok;cases qb:intsOf zs with
    | none=>rw [qb] at ok;exact ok.elim
    | some bs=>
     rw [qb] at ok;obtain ⟨p,vs,rfl,sq,rv⟩:=bE (pins:=pins) (σ0:=σ0) (s:=s) ab.hp rx q;cases ru;obtain ⟨its,vv,pl,hz⟩:=I.list sq;obtain ⟨hlen,hints⟩:=lM rv vv qb;have hl:=pl.isList;have hlt:p<s.heap.objs.size:=by obtain ⟨_,e,_⟩:=hl;exact Zu e
     refine gS I.os.2 (call_sum_walkG (acs hl ?_))
     refine ⟨s.heap.objs.size,[s.heap.objs.size,p],[s.heap.objs.size],its.toArray.size,_,_,λi=>bs.getD i 0,rfl,ae7 (A:=X.A.in1) (I.ok.hd hc) _ p (ZE hlt) _,
      ⟨⟨_,Zv _ rfl,rfl,rfl⟩,hl.push _⟩,λb hb=>?_,λi v hP=>hints i v (by simpa using hP),λh' tk t' hk ht=>?_⟩
     ·show b<(s.heap.push _).objs.size;rw [aaF];rcases ZM.mp hb with rfl | hb
      ·exact aaB _
      ·rw [ZI.mp hb];exact aa7 hlt
     ·rw [show its.toArray.size=bs.length by simpa using hlen,preSum_eq bs _ (Zs _),aeN];exact ⟨.int _,H,I.kept (t':=tk) (lH hk),⟨_,rfl⟩,ok _ H ρ .refl ab (by unfold Rep;rfl)⟩
theorem yp (hc:X.calm=Zh):c9 X (.builtin "max") (AE X EE sr):=by
 intro pins s σ0 H xs us Q I r zu;obtain ⟨σ,τ,ρ,G,ds,ab,rs,ok⟩:=zu
 match ds,ok with
 | [],ok=>exact ok.elim
 | _::_::_,ok=>exact ok.elim
 | [d],ok=>
  obtain ⟨x,rfl,rx⟩:=fQ rs;obtain ⟨u,rfl,ru⟩:=vals1 r;dsimp only [sr] at ok;cases q:aF G d with
  | none=>rw [q] at ok;exact ok.elim
  | some sk=>
   rw [q] at ok;cases sk with
   | tup zs=>exact ok.elim
   | str z=>exact ok.elim
   | lst zs=>
    dsimp only at ok;cases qb:intsOf zs with
    | none=>rw [qb] at ok;exact ok.elim
    | some bs=>
     rw [qb] at ok;dsimp only at ok;by_cases h0:0<bs.length
     ·rw [if_pos h0] at ok;obtain ⟨p,vs,rfl,sq,rv⟩:=bE (pins:=pins) (σ0:=σ0) (s:=s) ab.hp rx q;cases ru;obtain ⟨its,vv,pl,hz⟩:=I.list sq;obtain ⟨hlen,hints⟩:=lM rv vv qb;have hl:=pl.isList;have hlt:p<s.heap.objs.size:=by obtain ⟨_,e,_⟩:=hl;exact Zu e
      have hP:∀ (i:Nat) (v:Zj),its.toArray[i]?=Zg v→∃ t,v=Value.int ((λi=>bs.getD i 0) i) t:=λi v h=>hints i v (by simpa using h);refine gS I.os.2 (call_max_walk (acs hl ?_))
      refine ⟨s.heap.objs.size,[s.heap.objs.size,p],[s.heap.objs.size],its.toArray.size,_,_,_,rfl,ae7 (A:=X.A.in1) (I.ok.hd hc) _ p (ZE hlt) _,
       ⟨⟨_,Zv _ rfl,rfl,rfl⟩,hl.push _⟩,λb hb=>?_,by simp;nofun,CmpOf.ints_gt (λi=>bs.getD i 0) hP,λv h' tk hv hk ht=>?_⟩
      ·show b<(s.heap.push _).objs.size;rw [aaF];rcases ZM.mp hb with rfl | hb
       ·exact aaB _
       ·rw [ZI.mp hb];exact aa7 hlt
      ·obtain ⟨t,rfl⟩:=hP _ v hv;rw [show its.toArray.size=bs.length by simpa using hlen];exact ⟨.int _,H,I.kept (t':=tk) (lH hk),⟨_,rfl⟩,ok _ H ρ .refl ab (by unfold Rep;rfl)⟩
     ·rw [if_neg h0] at ok;exact ok.elim
def iT:List D→M D
 | [.int i]=>M.ret (.int i)
 | [.bl k]=>M.ret (.int (if k then 1 else 0))
 | _=>M.stop
theorem A3:c9 X (.type "int") (AE X EE iT):=by
 intro pins s σ0 H xs us Q I r zu;obtain ⟨σ,τ,ρ,G,ds,ab,zy,ok⟩:=zu
 match ds,ok with
 | [],ok=>exact ok.elim
 | d::_::_,ok=>cases d<;>exact ok.elim
 | [d],ok=>
  obtain ⟨x,rfl,rx⟩:=fQ zy;cases d<;>try exact ok.elim
  ·rename_i k;unfold Rep at rx;subst rx;exact rR pins s σ0 H _ us Q I r (.inr ⟨k,rfl,ok _ H ρ .refl ab (by unfold Rep;rfl)⟩)
  ·rename_i i;unfold Rep at rx;subst rx;exact rR pins s σ0 H _ us Q I r (.inl ⟨i,rfl,ok _ H ρ .refl ab (by unfold Rep;rfl)⟩)
theorem boot_int:bootBuiltins "int"=Zg (.type "int"):=by symm
theorem Mr (hm:X.mg "int"=Zl) (hg:Gl X "int") (ha:QA X EE [e] m) (h:ao [e]=Zh:=by rfl):QE X EE (.Call (.Name "int" p) [e] [] pos) (ai iT m):=kK A3 hm hg boot_int ha (by decide) (by decide) h
theorem Ms (hc:X.calm=Zh) (hm:X.mg "sum"=Zl) (hg:Gl X "sum") (ha:QA X EE [e] m) (h:ao [e]=Zh:=by rfl):QE X EE (.Call (.Name "sum" p) [e] [] pos) (ai iD m):=jf (su hc) hm hg adQ ha (by decide) (by decide) h
theorem Hz (hc:X.calm=Zh) (hm:X.mg "max"=Zl) (hg:Gl X "max") (ha:QA X EE [e] m) (h:ao [e]=Zh:=by rfl):QE X EE (.Call (.Name "max" p) [e] [] pos) (ai sr m):=jf (yp hc) hm hg acz ha (by decide) (by decide) h
end
theorem ua (I:Inv X pins σ H s) (k:∀ b o,b∉ch→s.heap.get? b=Zg o→h'.get? b=Zg o) (hf:∀ b∈ch,ly X pins H b) (ht:0<t':=by first | exact aab _ | exact (Inv.os (by assumption)).2 | assumption | nofun):Inv X pins σ H {s with heap:=h',toks:=t'}:=by
 have NS:∀ b u,H b=Zg u→b∉ch:=λb u e z=>by rw [(hf b z).1] at e;cases e
 refine I.step (g':=s.gens) (d':=s.drawn) (ch:=ch) (λb hb=>⟨(hf b hb).2.2.2.1,(hf b hb).2.1,(hf b hb).2.2.2.2.1,(hf b hb).2.2.2.2.2⟩) (λb o _ _ hc e _=>k b o hc e) (λb o _ _ hc e _=>⟨o.slots,k b o hc e⟩) (λ_ _ _ _ n=>n)
  (λb o hc e=>⟨o,k b o hc e⟩) (λ_ _ e=>e) (λ_ _ _ e=>e) (λb ps e=>⟨#[],by rw [e];simp⟩) (λm hm=>?_) (λb u e=>?_) I.bare
 ·obtain ⟨o,es,ep,ho,r⟩:=hm;exact ⟨o,es,ep,k _ o (λz=>(hf _ z).2.1 rfl) ho,r⟩
 ·refine (I.hok b u e).stay (λc v hc q=>k c v ?_ q) (λ_ q=>q) λ_ _ q=>q;rcases hc with z | z
  ·rw [z];exact NS b u e
  ·exact NS c _ z
abbrev View:=DH→Nat→Option (Option D)
variable {vw:View}
def JV (K:Zo) (mg:Str→Option Zj) (J:It) (vw:View) (H0:Hp) (ρ0:List Addr):Prop:=
 ∀ (i:Nat) (H:Hp) (ρ:List Addr) (G:DH),bX K H0 H ρ0 ρ→eN K mg H ρ G→(vw G i=Zg Zl→J.stop i H) ∧
  ∀ d,vw G i=Zg (Zg d)→J.go i H∧∀ x H',J.rQ i H x H'→t9 K mg H H' ρ∧Rep K mg ρ H' d x
def kg (g:jB) (body:MS) (vw:View):Nat→Nat→MS
 | 0,_=>λ_ _=>.stuck
 | f+1,i=>λτ G=>match vw G i with
  | none=>.stuck
  | some Zl=>.nx τ G
  | some (Zg d)=>match g d τ with
   | none=>.stuck
   | some τ1=>match body τ1 G with
    | .nx τ2 G2=>kg g body vw f (i+1) τ2 G2
    | .ct τ2 G2=>kg g body vw f (i+1) τ2 G2
    | .bk τ2 G2=>.nx τ2 G2
    | r=>r
abbrev MI:=DS→M (Nat×View)
def JH (K:Zo) (mg:Str→Option Zj) (EE:bR) (mi:MI):TI:=λσ H R=>∃ τ ρ G,Ab K mg σ H τ ρ G∧match mi τ G with
 | .stuck=>False
 | .bq c G'=>∀ H' ρ',bX K H H' ρ ρ'→Ab K mg σ H' τ ρ' G'→EE c σ H'
 | .ok (_,vw) G'=>∀ J H' ρ',bX K H H' ρ ρ'→Ab K mg σ H' τ ρ' G'→JV K mg J vw H' ρ'→R J H'
def QI (X:Cx) (EE:bR) (tg iter:Expr) (mi:MI):Prop:=PI X tg iter (JH X.K X.mg EE mi)
section
variable {X:Cx} {EE:bR} {tg iter a b:Expr} {g:jB} {mi:MI} {ms:MS} {pos p pc:Pos} {m:DS→M (List D)}
theorem DF {body:MS} {Dd:Ends} {J:It} {σ0:L2.St} {G0:DH} {τ0:DS} {fuel:Nat} (jv:JV X.K X.mg J vw H0 ρ0)
  (ab:Ab X.K X.mg σ0 H0 τ0 ρ0 G0) (ok:qX X.K X.mg EE H0 ρ0 Dd (kg g body vw fuel 0 τ0 G0)) :
  ∃ W:Nat→Nat→L2.St→Hp→Prop,(∃ m,W 0 m σ0 H0)∧∀ i m σ H,W i m σ H →
   (J.stop i H∧Dd.nx σ H)∨(J.go i H∧∃ N:L2.St→Hp→Prop,(∀ σ' H',N σ' H'→∃ m',m'<m∧W (i+1) m' σ' H')∧∀ x H',J.rQ i H x H'→vK X.K X.mg g x σ H' λσ2 H2=>gB X.K X.mg EE body {Dd with nx:=N,ct:=N,bk:=Dd.nx} σ2 H2):=by
 refine ⟨λi m σ H=>∃ τ ρ G,Ab X.K X.mg σ H τ ρ G∧bX X.K H0 H ρ0 ρ∧qX X.K X.mg EE H ρ Dd (kg g body vw m i τ G),⟨fuel,τ0,ρ0,G0,ab,.refl,ok⟩,?_⟩;rintro i m σ H ⟨τ,ρ,G,ab,f,ok⟩;cases m with
 | zero=>exact ok.elim
 | succ m=>
  unfold kg at ok;obtain ⟨j1,j2⟩:=jv i H ρ G f ab.hp;cases q:vw G i with
  | none=>rw [q] at ok;exact ok.elim
  | some od=>
   rw [q] at ok;cases od with
   | none=>exact .inl ⟨j1 q,ok σ H ρ .refl ab⟩
   | some d=>
    dsimp only at ok;obtain ⟨jg,jy⟩:=j2 d q;refine .inr ⟨jg,λσ' H'=>∃ τ' ρ' G',Ab X.K X.mg σ' H' τ' ρ' G'∧bX X.K H0 H' ρ0 ρ'∧qX X.K X.mg EE H' ρ' Dd (kg g body vw m (i+1) τ' G'),λσ' H' z=>⟨m,aaB _,z⟩,λx H' y=>?_⟩;obtain ⟨⟨fN,hN⟩,rx⟩:=jy x H' y
    replace ok:=qX.fut fN ok
    replace ab:Ab X.K X.mg σ H' τ ρ G:=ab.fut fN (hN _ ab.hp)
    replace f:=f.trans fN
    cases e:g d τ with
    | none=>rw [e] at ok;exact ok.elim
    | some τ1=>
     rw [e] at ok;dsimp only at ok;refine ⟨τ,ρ,G,d,τ1,ab,rx,e,λσ' aV=>⟨τ1,ρ,G,aV,?_⟩⟩;cases eb:body τ1 G with
     | stuck=>rw [eb] at ok;exact ok
     | nx τ2 G2=>rw [eb] at ok;exact λσ2 H2 ρ2 f2 bA=>⟨τ2,ρ2,G2,bA,f.trans f2,ok.fut f2⟩
     | ct τ2 G2=>rw [eb] at ok;exact λσ2 H2 ρ2 f2 bA=>⟨τ2,ρ2,G2,bA,f.trans f2,ok.fut f2⟩
     | bk τ2 G2=>rw [eb] at ok;exact ok
     | rt d G2=>rw [eb] at ok;exact ok
     | xn c τ2 G2=>rw [eb] at ok;exact ok
def kh (g:jB) (mi:MI) (body:MS):MS:=λτ=>bz (mi τ) (λx G=>kg g body x.2 x.1 0 τ G) λc G=>.xn c τ G
theorem HA (hp:PassesOwn (model X.prog X.w) X.A X.env X.xe) (hc:X.calm=Zh) (hi:QI X EE tg iter mi) (hg:QG X tg g) (hb:qY X EE body ms) (hs:iC iter=Zh:=by rfl) :
  QS X EE (.For tg iter body [] pos) (kh g mi ms):=PS.mono (xQ hp hc hi hg hb (iS hs _)) λDd σ H h=>by
 obtain ⟨τ,ρ,G,ab,ok⟩:=h;refine ⟨τ,ρ,G,ab,?_⟩;dsimp only [kh,bz] at ok;cases e:mi τ G with
 | stuck=>rw [e] at ok;exact ok
 | bq c G'=>rw [e] at ok;exact λH' ρ' f aV=>ok σ H' ρ' f aV
 | ok x G'=>rw [e] at ok;exact λJ H' ρ' f aV jv=>DF jv aV (ok.fut f)
def jU (gO:D→Option (List D)) (ks:List Bool) (tt:DS→M Bool) (te:DS→M D) (n:Nat) (vw:View):Nat→Nat→DS→DH→Out D
 | 0,_,_,_=>.stuck
 | f+1,i,τ,G=>match vw G i with
  | none=>.stuck
  | some Zl=>.ok (.obj n) G
  | some (Zg d)=>match dG gO ks tt te n d τ G with
   | .ok _ G'=>jU gO ks tt te n vw f (i+1) τ G'
   | .bq c G'=>.bq c G'
   | .stuck=>.stuck
variable {gO:D→Option (List D)} {ow:V→Hp→List V→Prop} {xs:List Str} {ks:List Bool} {tt:DS→M Bool} {te:DS→M D}
theorem A4 (hO:jD X.K X.mg ow gO) {Q:VK} {J:It} {vw:View} {H0:Hp} {σ:L2.St} {ρ0:List Addr} {G0:DH} {τ:DS} {fuel:Nat} (jv:JV X.K X.mg J vw H0 ρ0)
  (ab:Ab X.K X.mg σ H0 τ ρ0 G0) (ok:iP X.K X.mg EE H0 σ τ ρ0 (jU gO ks tt te G0.length vw fuel 0 τ (G0++[.lst []])) Q) :
  ∀ D,H0 D=Zl→∃ W:Nat→Nat→Hp→Prop,(∃ m,W 0 m (upd H0 D (.lst [])))∧∀ i m H,W i m H →
   (J.stop i H∧Q (.ref D) H)∨(J.go i H∧∀ x H',J.rQ i H x H'→∃ vs,ow x H' vs∧liftT X.K X.mg (n6 EE σ) tt (vs.map Zg++mask ks σ) H' λb H2=>if b=Zh then bh X.K X.mg (n6 EE σ) te (vs.map Zg++mask ks σ) H2 λv H3=>∃ ys,H3 D=Zg (.lst ys)∧ys.length<Zm∧∃ m',m'<m∧W (i+1) m' (upd H3 D (.lst (ys++[v]))) else ∃ m',m'<m∧W (i+1) m' H2):=by
 intro D hD;have f0:bX X.K H0 (upd H0 D (.lst [])) ρ0 (ρ0++[D]):=(cH hD ρ0).trans (dN ρ0 D);have Hh:Ab X.K X.mg σ (upd H0 D (.lst [])) τ (ρ0++[D]) (G0++[.lst []]):=ab.fut f0 (ab.hp.more hD .nil);have hn0:(ρ0++[D])[G0.length]?=Zg D:=by rw [← ab.hp.hl,aB]
 refine ⟨λi m H=>∃ ρ G,Ab X.K X.mg σ H τ ρ G∧bX X.K H0 H ρ0 ρ∧ρ[G0.length]?=Zg D∧iP X.K X.mg EE H σ τ ρ (jU gO ks tt te G0.length vw m i τ G) Q,
  ⟨fuel,ρ0++[D],_,Hh,f0,hn0,ok.fut f0⟩,?_⟩
 rintro i m H ⟨ρ,G,ab,f,hn,ok⟩;cases m with
 | zero=>exact ok.elim
 | succ m=>
  unfold jU at ok;obtain ⟨j1,j2⟩:=jv i H ρ G f ab.hp;cases q:vw G i with
  | none=>rw [q] at ok;exact ok.elim
  | some od=>
   rw [q] at ok;cases od with
   | none=>exact .inl ⟨j1 q,ok _ H ρ .refl ab (by unfold Rep;exact ⟨D,rfl,hn⟩)⟩
   | some d=>
    dsimp only at ok;obtain ⟨jg,jy⟩:=j2 d q;refine .inr ⟨jg,λx H' y=>?_⟩;obtain ⟨⟨fN,hN⟩,rx⟩:=jy x H' y
    replace ok:=iP.fut fN ok
    replace ab:Ab X.K X.mg σ H' τ ρ G:=ab.fut fN (hN _ ab.hp)
    replace f:=f.trans fN
    refine nu hO (W:=λH3=>∃ m',m'<m+1∧∃ ρ G,Ab X.K X.mg σ H3 τ ρ G∧bX X.K H0 H3 ρ0 ρ∧ρ[G0.length]?=Zg D∧iP X.K X.mg EE H3 σ τ ρ (jU gO ks tt te G0.length vw m' (i+1) τ G) Q)
      ab rx hn ?_
    cases e:dG gO ks tt te G0.length d τ G with
    | stuck=>rw [e] at ok;exact ok
    | bq c G'=>rw [e] at ok;exact ok
    | ok _ G'=>rw [e] at ok;exact λH3 ρ3 f3 oG=>⟨m,aaB _,ρ3,G',oG,f.trans f3,f3.get hn,ok.fut f3⟩
def dZ (gO:D→Option (List D)) (ks:List Bool) (mi:MI) (tt:DS→M Bool) (te:DS→M D):DS→M D:=λτ=>(mi τ).bind λx G=>jU gO ks tt te G.length x.2 x.1 0 τ (G++[.lst []])
theorem p9 (hO:jD X.K X.mg ow gO) {σ:L2.St} {H:Hp} {Q:VK} (h:bh X.K X.mg EE (dZ gO ks mi tt te) σ H Q) :
  vP (JH X.K X.mg EE mi) ks ow (liftT X.K X.mg (n6 EE σ) tt) (bh X.K X.mg (n6 EE σ) te) σ H Q:=by
 obtain ⟨τ,ρ,G,ab,ok⟩:=h;refine ⟨τ,ρ,G,ab,?_⟩;dsimp only [dZ,M.bind] at ok;cases e:mi τ G with
 | stuck=>rw [e] at ok;exact ok
 | bq c G'=>rw [e] at ok;exact ok
 | ok x G'=>rw [e] at ok;exact λJ H' ρ' f aV jv=>A4 hO jv aV (ok.fut f)
variable {scope:Scope} {elt:Expr} {ifs:List Expr}
theorem DG (hx:gb X EE) (hst:mz X) (S:br X.env.scope X.N scope xs ks) (how:Own X scope xs ks tg ow) (hO:jD X.K X.mg ow gO) (hc:X.calm=Zh) (ha:QI X EE tg iter mi) (hb:j8 X scope xs ifs elt tt te) (hs:iC iter=Zh:=by rfl) :
  QE X EE (.ListComp elt [⟨tg,iter,ifs,0⟩] scope pos) (dZ gO ks mi tt te):=PE.mono (t8 (tt:=λσ=>liftT X.K X.mg (n6 EE σ) tt) (te:=λσ=>bh X.K X.mg (n6 EE σ) te) hx hst S how hc ha (λσ cl C pins s0 H0 fp E=>hb cl C pins s0 H0 fp E _) (iS hs _)) λ_ _ _ h=>p9 hO h
theorem DI (hx:gb X EE) (hst:mz X) (S:br X.env.scope X.N scope xs ks) (how:Own X scope xs ks tg ow) (hO:jD X.K X.mg ow gO) (hc:X.calm=Zh) (hN:X.N.Nodup) (hl:X.env.scope.names.lookup y=Zg .local) (ha:QI X EE tg iter mi) (hb:j8 X scope xs ifs elt tt te)
  (hsw:swapsWith (.ListComp elt [⟨tg,iter,ifs,0⟩] scope pos) (Zg (.Name y py)) spos.line X.env=pure Zh) (hy:X.N[i]?=Zg y:=by rfl) (hs:iC iter=Zh:=by rfl) :
  QS X EE (.Assign [.Name y py] (.ListComp elt [⟨tg,iter,ifs,0⟩] scope pos) spos) (aH i (dZ gO ks mi tt te)):=
 PS.mono (zE (tt:=λσ=>liftT X.K X.mg (n6 EE σ) tt) (te:=λσ=>bh X.K X.mg (n6 EE σ) te) hx hst S how hc hN ha hy hl hsw (λσ cl C pins s0 H0 fp E=>hb cl C pins s0 H0 fp E _) (iS hs _)) λ_ _ _ h=>vR (λ_ _ _ h=>p9 hO h) h
def gP (i j:Nat):jB:=λd τ=>match d with
 | .tup [x,y]=>Zg ((τ.set i (Zg x)).set j (Zg y))
 | _=>Zl
theorem HB {px py:Pos} {k:Nat} (hc:X.calm=Zh) (hN:X.N.Nodup) (hx:Loc X.env.scope x) (hy:Loc X.env.scope y) (hfx:X.fn x=Zh∨X.env.scope.names.lookup x=Zg .local) (Pc:X.fn y=Zh∨X.env.scope.names.lookup y=Zg .local) (hi:X.N[i]?=Zg x:=by rfl) (hj:X.N[j]?=Zg y:=by rfl) :
  QG X (.Tuple [.Name x px,.Name y py] k pos) (gP i j):=by
 intro pins s σ H v u Q I r zu;obtain ⟨τ,ρ,G,d,τ',ab,rd,e,q⟩:=zu;refine xN (n:=2) hc (fX (gy hN hi hx hfx) (fX (gy hN hj hy Pc) tO)) rfl rfl pins s σ H v u Q I r ?_;cases d<;>try (cases e;done)
 rename_i ds
 match ds,e with
 | [d1,d2],e=>cases e;unfold Rep at rd;obtain ⟨a,vs,rfl,sq,rs⟩:=rd;obtain ⟨v1,v2,rfl,r1,r2⟩:=vL rs;exact ⟨a,[v1,v2],rfl,sq,rfl,v1,[v2],rfl,v2,[],rfl,rfl,q _ (Ab.set (Ab.set ab r1) r2)⟩
def SM (K:Zo) (a:Addr):It:=
 ⟨λi H=>∃ xs x,kE K H a xs∧xs[i]?=Zg x,λi H y H'=>∃ x p,(∀ xs,kE K H a xs→xs[i]?=Zg x)∧H p=Zl∧y=.ref p∧H'=upd H p (.tup [.int i,x]),λi H=>∃ xs,kE K H a xs∧xs.length≤i⟩
theorem A5 {k:Nat} {pt:Pos} (l e it:Addr) (hne:e≠it):Turn P w K (.Tuple es k pt) (SM K l) [e,it] e (λi h=>∃ old,IsEnum h e it i old∧h.IsListIter it l i) where
 mem:=by simp
 obj:=λi h zz b hb=>by
  obtain ⟨old,st1,st2⟩:=zz;rcases ZM.mp hb with rfl | hb
  ·exact ⟨_,st1,λv z=>by cases z⟩
  ·have e:b=it:=by simpa using hb
   subst e;obtain ⟨o,e,c,d⟩:=st2;exact ⟨o,e,λv z=>by rw [d] at z;cases z⟩
 keep:=λi h h' zz kp=>by obtain ⟨old,st1,st2⟩:=zz;exact ⟨old,kp e (by simp) _ st1,st2.at λo q=>kp it (by simp) o q⟩
 item:=by
  intro X hP hw hK hc i pins s σ H E I hf zu hg;obtain ⟨old,st1,st2⟩:=zu;subst hP hw hK;obtain ⟨xs,x,hq,hx⟩:=hg;obtain ⟨its,rv,p,hz⟩:=I.list hq;obtain ⟨u,hu,ru⟩:=rv.get hx;have Pd:e<s.heap.objs.size:=Zu st1;have DJ:it<s.heap.objs.size:=by obtain ⟨o,q,_⟩:=st2;exact Zu q
  refine wpAny_pyNext_enum_item st1 st2 p.isList (x:=u) (by simpa using hu) hne λh' hO hL htup hsz kp=>?_;refine ⟨.ref s.heap.objs.size,rfl,?_⟩
  have I1:Inv X pins σ (upd H s.heap.objs.size (.tup [.int i,x])) {s with heap:=s.heap.push {cls:=.type "tuple",data:=.seq #[.int i s.toks,u]}}:=
   I.laid (t':=s.toks) (λb o q=>Zn _ q) (Zs _) ⟨by simp [sizeLine_eq],[.int i s.toks,u],.cons ⟨_,rfl⟩ (.cons ru .nil),acv _ _⟩
  have hfree:=I.hok.fresh (Zs s.heap.objs.size);have hf1:∀ b∈[e,it],ly X pins (upd H s.heap.objs.size (.tup [.int i,x])) b:=λb hb=>by
   have hlt:b≠s.heap.objs.size:=by
    rcases ZM.mp hb with rfl | hb
    ·exact ZE Pd
    ·rw [ZI.mp hb];exact ZE DJ
   exact ⟨by rw [aA hlt];exact (hf b hb).1,(hf b hb).2⟩
  unfold letOwnedTupleGo;refine Zi (ach hO ?_);dsimp only;rw [if_pos (by simp)];refine Zi (acF ?_);unfold updateField;refine Zi (ach hO ?_);dsimp only;rw [if_pos (by simp)];refine aeA hO ?_;have qZ:∀ b,b≠e→(h'.update e (aaH λx=>x.setIfInBounds 0 Value.none)).get? b=h'.get? b:=λb hb=>ZR _ _ (aat hb);refine ⟨.ref s.heap.objs.size,_,ua (t':=s.toks+1) (s:={s with heap:=s.heap.push {cls:=.type "tuple",data:=.seq #[.int i s.toks,u]}}) (ch:=[e,it]) I1 (λb o hb q=>?_) hf1,rfl,⟨x,s.heap.objs.size,λys hy=>by rw [I.lW hy hq];exact hx,hfree,rfl,rfl⟩,⟨u,?_,?_⟩,λb hb=>(hf1 b hb).1⟩
  ·have hb1:b≠e:=λz=>hb (by simp [z]);have hb2:b≠it:=λz=>hb (by simp [z]);show (h'.update e _).get? b=Zg o;rw [qZ b hb1];by_cases DK:b=s.heap.objs.size
   ·subst DK;have:=Zv (o:={cls:=.type "tuple",data:=.seq #[.int (i:Int) s.toks,u]}) s.heap rfl;rw [this] at q;cases q;exact htup
   ·have q':(s.heap.push {cls:=.type "tuple",data:=.seq #[.int (i:Int) s.toks,u]}).get? b=Zg o:=q;refine kp b o hb1 hb2 ?_
    rwa [adb _ _ _ DK] at q'
  ·show (h'.update e _).get? e=_;rw [Z1 _ hO rfl];rfl
  ·exact hL.at λo q=>(qZ it (aat hne)).trans q
 done:=by intro X hP hw hK hc i pins s σ H E I hf zu hg;obtain ⟨old,st1,st2⟩:=zu;subst hP hw hK;obtain ⟨xs,hq,hx⟩:=hg;obtain ⟨its,rv,p,hz⟩:=I.list hq;obtain ⟨f0,f1,f2,f3,f4,f5⟩:=hf it (by simp);have hl:=rv.length;exact wpAny_pyNext_enum_end (I.ok.hd hc) st1 st2 p.isList (by simp;nofun) λh' eb=>⟨rfl,I.turned (t':=s.toks) (λb o hb e=>eb b o hb e) f0 f1 f3 f4 f5⟩
 self:=λ_ _ _ _ _ zz h=>by obtain ⟨old,st1,_⟩:=zz;exact abC st1 h
def iE (d:D):View:=λG i=>match aF G d with
 | some (.lst xs)=>Zg (xs[i]?.map λx=>.tup [.int i,x])
 | _=>Zl
def vV (m:DS→M (List D)):MI:=λτ=>(m τ).bind λds=>match ds with
 | [d]=>λG=>match aF G d with
  | some (.lst xs)=>.ok (xs.length+1,iE d) G
  | _=>.stuck
 | _=>M.stop
theorem nA:bootBuiltins "enumerate"=Zg (.type "enumerate"):=by symm
theorem HC (r:Rep K mg ρ0 H0 d (.ref l)) (hd:∃ xs,aF G0 d=Zg (.lst xs)):JV K mg (SM K l) (iE d) H0 ρ0:=by
 intro i H ρ G f hp;have key:∀ zs,aF G d=Zg (.lst zs)→∃ xs,kE K H l xs∧aq K mg ρ H zs xs:=λzs q=>by
  have r':=Rep.mono f d _ r;cases d with
  | con ws=>cases q;unfold Rep at r';obtain ⟨a,xs,e,sq,rs⟩:=r';cases e;exact ⟨xs,sq.seq,rs⟩
  | obj n=>
   unfold aF at q;dsimp only at q;unfold Rep at r';obtain ⟨a,e,e1⟩:=r';cases e;cases g:G[n]? with
   | none=>rw [g] at q;cases q
   | some o=>
    cases o with
    | lst ws=>rw [g] at q;cases q;obtain ⟨a',xs,e2,h2,rs⟩:=hp.lst g;rw [e1] at e2;cases e2;exact ⟨xs,.of h2,rs⟩
    | _=>first | (rw [q] at ok;exact ok.elim) | (rw [q] at aI;exact aI.elim) | (rw [q] at e;cases e;done) | (rw [g] at ok;exact ok.elim) | (rw [g] at q;cases q;done) | (rw [g] at h;cases h;done) | (rw [g2] at ok;exact ok.elim) | (rw [g1,g2] at ok;exact ok.elim) | (rw [q1] at ok;exact ok.elim) | exact ok.elim
  | tup ws=>cases q
  | str z=>cases q
  | _=>cases q
 unfold iE;cases q:aF G d with
 | none=>exact ⟨λe=>(by cases e),λx e=>(by cases e)⟩
 | some sk=>
  cases sk with
  | tup zs=>exact ⟨λe=>(by cases e),λx e=>(by cases e)⟩
  | str z=>exact ⟨λe=>(by cases e),λx e=>(by cases e)⟩
  | lst zs=>
   obtain ⟨xs,sq,rs⟩:=key zs q;dsimp only;constructor
   ·intro e;cases qi:zs[i]? with
    | some z=>rw [qi] at e;cases e
    | none=>exact ⟨xs,sq,by rw [← rs.length];exact aaq.mp qi⟩
   ·intro dd e;cases qi:zs[i]? with
    | none=>rw [qi] at e;cases e
    | some z=>rw [qi] at e;cases e;obtain ⟨v,ev,rv⟩:=rs.get qi;refine ⟨⟨xs,v,sq,ev⟩,λy H' hy=>?_⟩;obtain ⟨v',p,ev',hp0,rfl,rfl⟩:=hy;have ev':=ev' xs sq;rw [ev] at ev';cases ev';refine ⟨t9.new hp0,?_⟩;unfold Rep;refine ⟨p,[.int i,v],rfl,.of aN,.cons (by unfold Rep;rfl) (.cons (Rep.mono (cH hp0 ρ) _ _ rv) .nil)⟩
theorem HE {k:Nat} {pt:Pos} (hm:X.mg "enumerate"=Zl) (nY:Gl X "enumerate") (ha:QA X EE [a] m) (h:ao [a]=Zh:=by rfl):QI X EE (.Tuple es k pt) (.Call (.Name "enumerate" p) [a] [] pc) (vV m):=by
 have h':bf a=Zh∧ao []=Zh:=by simpa [ao] using h
 intro pins s σ H R I hq;obtain ⟨τ,ρ,G,ab,ok⟩:=hq;dsimp only [vV,M.bind] at ok;refine ZK (dX I nY hm nA ?_ (by decide) (by decide));have hA:gU X.K X.mg EE m σ H λvs H1=>∃ ρ1 G1 ds,Ab X.K X.mg σ H1 τ ρ1 G1∧bX X.K H H1 ρ ρ1∧aq X.K X.mg ρ1 H1 ds vs∧m τ G=.ok ds G1:=by
  refine ⟨τ,ρ,G,ab,?_⟩;cases e:m τ G with
  | stuck=>rw [e] at ok;exact ok
  | bq c G'=>rw [e] at ok;exact ok
  | ok ds G'=>exact λvs H' ρ' f aV r=>⟨ρ',G',ds,aV,f,r,rfl⟩
 refine ZJ (cO (ha pc pins s σ H _ I hA) λus s1 oE=>?_) (aK h'.1 _ _) (aJ (es:=[]) rfl);obtain ⟨vs,H1,I1,r1,ρ1,G1,ds,fD,f1,rs,em⟩:=oE;rw [em] at ok;dsimp only at ok
 match ds,rs,ok with
 | [],_,ok=>exact ok.elim
 | _::_::_,_,ok=>exact ok.elim
 | [d],rs,ok=>
  obtain ⟨x,rfl,rx⟩:=fQ rs;obtain ⟨u,rfl,ru⟩:=vals1 r1;dsimp only at ok;cases q:aF G1 d with
  | none=>rw [q] at ok;exact ok.elim
  | some sk=>
   rw [q] at ok;cases sk with
   | tup zs=>exact ok.elim
   | str z=>exact ok.elim
   | lst zs=>
    dsimp only at ok;obtain ⟨l,ys,rfl,sq,rv⟩:=bE (pins:=pins) (σ0:=σ) (s:=s1) fD.hp rx q;cases ru;obtain ⟨its,vv,pl,hz⟩:=I1.list sq;refine call_enumerate_list pl.isList λh2 hE hL hsz kp=>?_;refine abC hE ?_;have I2:Inv X pins σ H1 {s1 with heap:=h2}:=I1.kept (t':=s1.toks) kp;refine ⟨s1.heap.objs.size+1,[s1.heap.objs.size+1,s1.heap.objs.size],_,SM X.K l,H1,rfl,I2,A5 l _ _ (adq _),⟨_,hE,hL⟩,λb hb=>?_,ok _ H1 ρ1 f1 fD (HC rx ⟨zs,q⟩)⟩;rcases ZM.mp hb with rfl | hb
    ·exact I1.lX (acj _) (I1.hok.fresh (acj _))
    ·rw [ZI.mp hb];exact I1.lX (Zs _) (I1.hok.fresh (Zs _))
end
theorem lz (h:n≤2000000):n≤Zm:=by rw [sizeLine_eq];nofun
theorem qV (A:DH) (x:DO) (B:DH):(A++x::B)[A.length]?=Zg x:=by simp
theorem Q0 (A:DH) (x y:DO) (B:DH):(A++x::y::B)[A.length+1]?=Zg y:=by rw [ZO (by nofun)];simp
theorem zH (A:DH) (x y:DO) (B:DH):(A++x::B).set A.length y=A++y::B:=by rw [adR _ _ (Zs _)];simp
theorem UM (A:DH) (x y z:DO) (B:DH):(A++x::y::B).set (A.length+1) z=A++x::z::B:=by rw [adR _ _ (by nofun)];simp
theorem bS (g:Bool) (i j:Int) (G:DH):fZ g (.int i) (.int j) G=.ok (.bl (g ^^ (i==j))) G:=by simp [fZ,AA,jZ,aa4,aaK,aaN]
theorem uc (g:Bool) (a b:Str) (G:DH) (ha:Zt a=Zh) (hb:Zt b=Zh):fZ g (.str a) (.str b) G=.ok (.bl (g ^^ (a==b))) G:=by simp [fZ,AA,jZ,aa4,aaK,aaN,ha,hb]
theorem n9 (G:DH):∀ ws:List Str,cI (jZ G deep) (ws.map D.str)=Zg (ws.map ab2)
 | []=>rfl
 | w::ws=>by have ih:=n9 G ws;simp only [Zy,cI,ih];rfl
theorem qc (t:Str) (ws:List Str) (G:DH) (h:Zt t=Zh) (hw:aax (ws.map ab2)=Zh):JB (.str t) (ws.map D.str) G=Zg (ws.any (·==t)):=by
 have e1:jZ G deep (.str t)=Zg (.str t):=rfl;unfold JB;rw [e1,n9];dsimp only;have c1:(ab2 t).canLay0=Zh:=by simpa [aa4] using h
 have c3:min (abv (ws.map ab2)) (ab2 t).depth≤580:=by
  have:(ab2 t).depth≤580:=by simp [aaK]
  nofun
 rw [if_pos (by rw [c1,hw];simpa using c3)];simp only [List.any_map];congr 1
theorem good_add {a b:Str} (ha:Zt a=Zh) (hb:Zt b=Zh):Zt (a++b)=Zh:=by have e:(a++b).cps=a.cps++b.cps:=rfl;unfold Zt at *;rw [e,Array.all_append,ha,hb];rfl
theorem ue (a b:Str):(a++b).length=a.length+b.length:=by show (a.cps++b.cps).size=a.cps.size+b.cps.size;simp
theorem ki {α:Type} {xs:List α} {i:Int} (h0:0≤i) (h1:i<xs.length):∃ v,jb xs i=Zg v∧xs[i.toNat]?=Zg v:=by
 have hi:i.toNat<xs.length:=by nofun
 refine ⟨xs[i.toNat],?_,Zr hi⟩;have:=ju (xs:=xs) (j:=i.toNat) (v:=xs[i.toNat]) (Zr hi)
 rwa [show ((i.toNat:Nat):Int)=i by nofun] at this
theorem Mt (z:Str) (i:Int) (G:DH) (h0:0≤i) (h1:i<z.length) (hz:z.length≤1000) (hok:Zt z=Zh):∃ s,aQ (.str z) (.int i) G=.ok (.str s) G∧Zt s=Zh∧s.length=1:=by
 have hs:z.length≤Zm:=lz (by nofun);have hl:z.length=z.cps.toList.length:=by simp [Str.length]
 have hi:i.toNat<z.cps.toList.length:=by nofun
 obtain ⟨c,e,ec⟩:=ki (xs:=z.cps.toList) (i:=i) h0 (by nofun);refine ⟨⟨#[c]⟩,?_,?_,rfl⟩
 ·simp only [aQ,aF,if_pos hs,e]
 ·have h2:z.cps.toList.all (·<0x110000)=Zh:=by simpa [Zt] using hok
  have:=ab4.mp h2 _ (Z0 ec);simpa [Zt] using this
theorem g6 {j:Int} (h0:0≤j) (h1:j<100000):eG [.int j]=Zg ((Z6 0 j.toNat).map λ(k:Nat)=>.int (0+(k:Int))):=by show (if -(2^62)≤j∧j<2^62 then Zg ((Z4 j.toNat).map λ(k:Nat)=>D.int (0+(k:Int))) else Zl)=_;rw [if_pos ⟨by nofun,by nofun⟩,acH]
def Res.sq (r:Res) (k:MS):Res:=match r with
 | .nx τ G=>k τ G
 | r=>r
def Out.cs (r:Out Bool) (a b:MS) (τ:DS):Res:=match r with
 | .stuck=>.stuck
 | .ok c G=>if c=Zh then a τ G else b τ G
 | .bq c G=>.xn c τ G
def Out.st (r:Out D) (i:Nat) (τ:DS):Res:=match r with
 | .stuck=>.stuck
 | .ok d G=>.nx (τ.set i (Zg d)) G
 | .bq c G=>.xn c τ G
def Out.xp (r:Out D) (τ:DS):Res:=match r with
 | .stuck=>.stuck
 | .ok d G=>.nx τ G
 | .bq c G=>.xn c τ G
def Out.rn (r:Out D) (τ:DS):Res:=match r with
 | .stuck=>.stuck
 | .ok d G=>.rt d G
 | .bq c G=>.xn c τ G
def Out.bd {α β:Type} (r:Out α) (k:α→M β):Out β:=match r with
 | .stuck=>.stuck
 | .ok a G=>k a G
 | .bq c G=>.bq c G
def Out.sb {α:Type} (r:Out α) (τ:DS) (k:α→DH→Res):Res:=match r with
 | .stuck=>.stuck
 | .ok a G=>k a G
 | .bq c G=>.xn c τ G
def Res.fn (r:Res):Out D:=match r with
 | .stuck=>.stuck
 | .nx _ G'=>.ok .cy G'
 | .rt d G'=>.ok d G'
 | .bk _ _=>.stuck
 | .ct _ _=>.stuck
 | .xn c _ G'=>.bq c G'
def Res.lp (r:Res) (k:MS):Res:=match r with
 | .nx τ G=>k τ G
 | .ct τ G=>k τ G
 | .bk τ G=>.nx τ G
 | r=>r
def SN (m k:MS):MS:=λτ G=>(m τ G).lp k
section
variable {m k:MS} {t ta tb:DS→M Bool} {a b:MS} {τ:DS} {G:DH} {e ma mb mo:DS→M D} {i n:Nat} {d:D} {c:XD} {α β:Type} {ml:DS→M (List D)} {f:D→D→M D} {fl:List D→M D}
@[simp] theorem bH:ay m k τ G=(m τ G).sq k:=by unfold ay Res.sq;cases m τ G<;>rfl
@[simp] theorem cT:(Res.nx τ G).sq k=k τ G:=Zw rfl rfl
@[simp] theorem vW:(Res.rt d G).sq k=.rt d G:=Zw rfl rfl
@[simp] theorem JI:Res.stuck.sq k=.stuck:=Zw rfl rfl
@[simp] theorem JJ:(Res.bk τ G).sq k=.bk τ G:=Zw rfl rfl
@[simp] theorem JK:(Res.ct τ G).sq k=.ct τ G:=Zw rfl rfl
@[simp] theorem JL:(Res.xn c τ G).sq k=.xn c τ G:=Zw rfl rfl
@[simp] theorem mC:gJ t a b τ G=(t τ G).cs a b τ:=by unfold gJ bz Out.cs;cases t τ G<;>rfl
@[simp] theorem DL:(Out.ok Zh G).cs a b τ=a τ G:=Zw rfl rfl
@[simp] theorem yq:(Out.ok Zk G).cs a b τ=b τ G:=Zw rfl rfl
@[simp] theorem Wt:(Out.bq c G).cs a b τ=.xn c τ G:=Zw rfl rfl
@[simp] theorem i0:aH i e τ G=(e τ G).st i τ:=by unfold aH bz Out.st;cases e τ G<;>rfl
@[simp] theorem mD:(Out.ok d G).st i τ=.nx (τ.set i (Zg d)) G:=Zw rfl rfl
@[simp] theorem Wu:(Out.bq c G).st i τ=.xn c τ G:=Zw rfl rfl
@[simp] theorem uf:iB e τ G=(e τ G).xp τ:=by unfold iB bz Out.xp;cases e τ G<;>rfl
@[simp] theorem JM:(Out.ok d G).xp τ=.nx τ G:=Zw rfl rfl
@[simp] theorem Wv:(Out.bq c G).xp τ=.xn c τ G:=Zw rfl rfl
@[simp] theorem i6:bB e τ G=(e τ G).rn τ:=by unfold bB bz Out.rn;cases e τ G<;>rfl
@[simp] theorem DM:(Out.ok d G).rn τ=.rt d G:=Zw rfl rfl
@[simp] theorem Ww:(Out.bq c G).rn τ=.xn c τ G:=Zw rfl rfl
@[simp] theorem iU:aZ τ G=.nx τ G:=Zw rfl rfl
@[simp] theorem Q2:OM τ G=.rt .cy G:=Zw rfl rfl
@[simp] theorem aD {x:α} {q:α→M β}:(Out.ok x G).bd q=q x G:=Zw rfl rfl
@[simp] theorem Wx {q:α→M β}:(Out.bq c G).bd q=.bq c G:=Zw rfl rfl
@[simp] theorem Wz {q:α→M β}:(Out.stuck (α:=α)).bd q=.stuck:=Zw rfl rfl
@[simp] theorem aj {mm:M α} {q:α→M β}:M.bind mm q G=(mm G).bd q:=by unfold M.bind Out.bd;cases mm G<;>rfl
@[simp] theorem cU {x:α}:M.ret x G=.ok x G:=Zw rfl rfl
@[simp] theorem SO:(M.stop (α:=α)) G=.stuck:=Zw rfl rfl
@[simp] theorem cS:af i τ G=match τ[i]? with
 | some (Zg d)=>.ok d G
 | _=>.stuck:=Zw rfl rfl
@[simp] theorem g7:eC d τ G=.ok d G:=Zw rfl rfl
@[simp] theorem dB:ak f ma mb τ G=(ma τ G).bd λx=>(mb τ).bind λy=>f x y:=aj
@[simp] theorem cV:ai fl ml τ G=(ml τ G).bd fl:=aj
@[simp] theorem bC:ah τ G=.ok [] G:=Zw rfl rfl
@[simp] theorem aS:aa ma ml τ G=(ma τ G).bd λx=>(ml τ).bind λxs=>M.ret (x::xs):=aj
def Pe:D→M Bool
 | .bl b=>M.ret b
 | _=>M.stop
@[simp] theorem sy:eU e τ G=(e τ G).bd Pe:=by unfold eU;rw [aj];unfold Out.bd;cases e τ G<;>try rfl
@[simp] theorem nB {b:Bool}:Pe (.bl b) G=.ok b G:=Zw rfl rfl
@[simp] theorem Pf {q:D→M Bool}:iZ q e τ G=(e τ G).bd q:=aj
@[simp] theorem Q3:zv t τ G=(t τ G).bd λc=>M.ret (!c):=aj
@[simp] theorem Mu:AB ta tb τ G=(ta τ G).bd λc=>if c=Zh then M.ret Zh else tb τ:=aj
@[simp] theorem Q4:iQ ta tb τ G=(ta τ G).bd λc=>if c=Zh then tb τ else M.ret Zk:=aj
@[simp] theorem SQ {y:Ty}:Df y e τ G=(e τ G).bd (vM y):=aj
@[simp] theorem fh {mf:List D→M D}:az n mf ml τ G=(ml τ G).bd λds=>if ds.length=n then mf ds else M.stop:=aj
@[simp] theorem mE {T:String} {g:D→List D→M D}:cJ T g mo ml τ G=(mo τ G).bd λd G=>if f9 T G d=Zh then (ml τ G).bd (g d) else .stuck:=by
 unfold cJ;rw [aj];unfold Out.bd;cases mo τ G with
 | stuck=>rfl
 | bq c G=>rfl
 | ok d G'=>simp only [aj];rfl
@[simp] theorem UN:VS t ma mb τ G=(t τ G).bd λc=>if c=Zh then ma τ else mb τ:=aj
@[simp] theorem sA {Ai:List D→Option (List D)} {g:jB} {body:MS}:f7 Ai g ml body τ G=(ml τ G).sb τ λds G=>match Ai ds with
  | some xs=>bY g body xs τ G
  | none=>.stuck:=by
 unfold f7 bz Out.sb;cases ml τ G<;>rfl
@[simp] theorem Ph {g:jB} {body:MS}:nk g e body τ G=(e τ G).sb τ λd G=>match d with
  | .obj n=>match G[n]? with
   | some (.lst xs)=>t6 g body n (xs.length+1) 0 τ G
   | _=>.stuck
  | .tup xs=>bY g body xs τ G
  | .con xs=>bY g body xs τ G
  | .str z=>bY g body (z.cps.toList.map λc=>.str ⟨#[c]⟩) τ G
  | _=>.stuck:=by
 unfold nk bz Out.sb;cases e τ G<;>rfl
@[simp] theorem HF {g:jB} {mi:MI} {body:MS}:kh g mi body τ G=(mi τ G).sb τ λx G=>kg g body x.2 x.1 0 τ G:=by unfold kh bz Out.sb;cases mi τ G<;>rfl
@[simp] theorem zI {x:α} {q:α→DH→Res}:(Out.ok x G).sb τ q=q x G:=Zw rfl rfl
@[simp] theorem WA {q:α→DH→Res}:(Out.bq c G).sb τ q=.xn c τ G:=Zw rfl rfl
@[simp] theorem HG {gO:D→Option (List D)} {ks:List Bool} {tt:DS→M Bool} {te:DS→M D}:jT gO ks e tt te τ G=(e τ G).bd λd G=>match d with
  | .obj k=>match G[k]? with
   | some (.lst xs)=>n5 gO ks tt te G.length k (xs.length+1) 0 τ (G++[.lst []])
   | _=>.stuck
  | .tup xs=>cQ gO ks tt te G.length xs τ (G++[.lst []])
  | .con xs=>cQ gO ks tt te G.length xs τ (G++[.lst []])
  | .str z=>cQ gO ks tt te G.length (z.cps.toList.map λc=>.str ⟨#[c]⟩) τ (G++[.lst []])
  | _=>.stuck:=aj
@[simp] theorem qe {Ai:List D→Option (List D)} {gO:D→Option (List D)} {ks:List Bool} {tt:DS→M Bool} {te:DS→M D}:dh Ai gO ks ml tt te τ G=(ml τ G).bd λds G=>match Ai ds with
  | some xs=>cQ gO ks tt te G.length xs τ (G++[.lst []])
  | none=>.stuck:=aj
@[simp] theorem vX {gO:D→Option (List D)} {ks:List Bool} {mi:MI} {tt:DS→M Bool} {te:DS→M D}:dZ gO ks mi tt te τ G=(mi τ G).bd λx G=>jU gO ks tt te G.length x.2 x.1 0 τ (G++[.lst []]):=aj
@[simp] theorem eu {ds:List D}:bL n m ds G=(m (ds.map Zg++ZH (n - ds.length) Zl) G).fn:=by unfold bL Res.fn;cases m (ds.map Zg++ZH (n - ds.length) Zl) G<;>rfl
@[simp] theorem UO:(Res.nx τ G).fn=.ok .cy G:=Zw rfl rfl
@[simp] theorem DP:(Res.rt d G).fn=.ok d G:=Zw rfl rfl
@[simp] theorem WB:(Res.xn c τ G).fn=.bq c G:=Zw rfl rfl
@[simp] theorem UP {lo hi:DS→M (Option Int)}:nj e lo hi τ G=(e τ G).bd λd=>(lo τ).bind λl=>(hi τ).bind λh=>zu d l h:=aj
@[simp] theorem Q5:f6 τ G=.ok Zl G:=Zw rfl rfl
def JN:D→M (Option Int)
 | .int i=>M.ret (Zg i)
 | _=>M.stop
@[simp] theorem Q6:cz e τ G=(e τ G).bd JN:=by unfold cz;rw [aj];unfold Out.bd;cases e τ G<;>try rfl
@[simp] theorem Q7 {i:Int}:JN (.int i) G=.ok (Zg i) G:=Zw rfl rfl
def Pj:D→M D
 | .int i=>M.ret (.int (-i))
 | _=>M.stop
@[simp] theorem SR:vI e τ G=(e τ G).bd Pj:=by unfold vI;rw [aj];unfold Out.bd;cases e τ G<;>try rfl
@[simp] theorem SS {i:Int}:Pj (.int i) G=.ok (.int (-i)) G:=Zw rfl rfl
@[simp] theorem Q8:vV ml τ G=(ml τ G).bd λds=>match ds with
 | [d]=>λG=>match aF G d with
  | some (.lst xs)=>.ok (xs.length+1,iE d) G
  | _=>.stuck
 | _=>M.stop:=aj
@[simp] theorem Pk {lU:Str→Option (List D→M D)}:lK i n lU ml τ G=match τ[i]? with
 | some (Zg (.fn y))=>match lU y with
  | some mf=>az n mf ml τ G
  | none=>.stuck
 | _=>.stuck:=Zw rfl rfl
@[simp] theorem Pn:SN m k τ G=(m τ G).lp k:=Zw rfl rfl
@[simp] theorem gW:(Res.nx τ G).lp k=k τ G:=Zw rfl rfl
@[simp] theorem UQ:(Res.ct τ G).lp k=k τ G:=Zw rfl rfl
@[simp] theorem UR:(Res.bk τ G).lp k=.nx τ G:=Zw rfl rfl
@[simp] theorem US:(Res.rt d G).lp k=.rt d G:=Zw rfl rfl
@[simp] theorem UT:(Res.xn c τ G).lp k=.xn c τ G:=Zw rfl rfl
@[simp] theorem vY:gc t m (n+1) τ G=(t τ G).cs (SN m (gc t m n)) aZ τ:=by
 rw [gc];unfold bz Out.cs;dsimp only;cases t τ G with
 | stuck=>rfl
 | bq c G=>rfl
 | ok b G'=>
  cases b with
  | false=>rfl
  | true=>simp only [if_true];unfold SN Res.lp;cases m τ G'<;>rfl
theorem eY {body:MS}:bY g body [] τ G=.nx τ G:=Zw rfl rfl
theorem bZ {body:MS} {x:D} {r:List D} {τ1:DS} (h:g x τ=Zg τ1):bY g body (x::r) τ G=(body τ1 G).lp (bY g body r):=by rw [bY,h];dsimp only;unfold Res.lp;cases body τ1 G<;>rfl
end
section
variable {m k mb me:MS} {τ:DS} {G:DH} {e:DS→M D} {c:XD} {x:Str} {ml:DS→M (List D)} {d:D}
@[simp] theorem Po:Di x ml τ G=(ml τ G).sb τ λds G=>if ds.length≤Zm then .xn (.mk x ds) τ G else .stuck:=by unfold Di bz Out.sb;cases ml τ G<;>rfl
@[simp] theorem UU {f:D→M D}:Wn f e τ G=(e τ G).bd f:=aj
def Res.tr (r:Res) (mh:XD→MS) (me:MS):Res:=match r with
 | .nx τ' G'=>me τ' G'
 | .xn c τ' G'=>mh c τ' G'
 | r=>r
end
mutual
def D.closed:D→Bool
 | .tup ds=>aR ds
 | .con ds=>aR ds
 | .obj _=>Zk
 | .vz _ _=>Zk
 | .iM _ _=>Zk
 | _=>Zh
def aR:List D→Bool
 | []=>Zh
 | d::r=>d.closed&&aR r
end
def qf (a b:DH):Bool:=@decide (a=b) (acn _)
theorem sC (a:DH):qf a a=Zh:=@decide_eq_true _ (acn _) rfl
theorem mF (a b:DH) (h:qf a b=Zh):a=b:=@of_decide_eq_true _ (acn _) h
section
variable {K:Zo} {mg:Str→Option Zj} {H H':Hp} {ρ ρ':List Addr} {G G':DH}
mutual
theorem qg:∀ (d:D) (v:V),d.closed=Zh→Rep K mg ρ H d v→Rep K mg ρ' H d v
 | .cy,v,c,h=>by unfold Rep at h ⊢;exact h
 | .bl b,v,c,h=>by unfold Rep at h ⊢;exact h
 | .int i,v,c,h=>by unfold Rep at h ⊢;exact h
 | .str x,v,c,h=>by unfold Rep at h ⊢;exact h
 | .tup ds,v,c,h=>by unfold Rep at h ⊢;obtain ⟨a,xs,e,s,r⟩:=h;exact ⟨a,xs,e,s,fR ds xs (by simpa [D.closed] using c) r⟩
 | .con ds,v,c,h=>by unfold Rep at h ⊢;obtain ⟨a,xs,e,s,r⟩:=h;exact ⟨a,xs,e,s,fR ds xs (by simpa [D.closed] using c) r⟩
 | .obj n,v,c,h=>by simp [D.closed] at c
 | .fn x,v,c,h=>by unfold Rep at h ⊢;exact h
 | .vz _ _,v,c,h=>by simp [D.closed] at c
 | .iM _ _,v,c,h=>by simp [D.closed] at c
theorem fR:∀ (ds:List D) (vs:List V),aR ds=Zh→aq K mg ρ H ds vs→aq K mg ρ' H ds vs
 | [],vs,c,h=>by unfold aq at h ⊢;exact h
 | d::ds,vs,c,h=>by
  have c':d.closed=Zh∧aR ds=Zh:=by simpa [aR] using c
  unfold aq at h ⊢;obtain ⟨v,r,e,h1,h2⟩:=h;exact ⟨v,r,e,qg d v c'.1 h1,fR ds r c'.2 h2⟩
end
mutual
theorem Rep.back (p:∃ r,ρ'=ρ++r):∀ (d:D) (v0 v:V),Rep K mg ρ H d v0→Rep K mg ρ' H' d v→Rep K mg ρ H' d v
 | .cy,v0,v,h0,h=>by unfold Rep at h ⊢;exact h
 | .bl b,v0,v,h0,h=>by unfold Rep at h ⊢;exact h
 | .int i,v0,v,h0,h=>by unfold Rep at h ⊢;exact h
 | .str x,v0,v,h0,h=>by unfold Rep at h ⊢;exact h
 | .tup ds,v0,v,h0,h=>by unfold Rep at h0 h ⊢;obtain ⟨a,xs,e,s,r⟩:=h;obtain ⟨a0,oh,e0,s0,r0⟩:=h0;exact ⟨a,xs,e,s,aq.back p ds oh xs r0 r⟩
 | .con ds,v0,v,h0,h=>by unfold Rep at h0 h ⊢;obtain ⟨a,xs,e,s,r⟩:=h;obtain ⟨a0,oh,e0,s0,r0⟩:=h0;exact ⟨a,xs,e,s,aq.back p ds oh xs r0 r⟩
 | .obj n,v0,v,h0,h=>by unfold Rep at h0 h ⊢;obtain ⟨a,e,q⟩:=h;obtain ⟨a0,e0,q0⟩:=h0;obtain ⟨r,rfl⟩:=p;rw [ZC (Zp.mp q0).1] at q;exact ⟨a,e,q⟩
 | .fn x,v0,v,h0,h=>by unfold Rep at h ⊢;exact h
 | .vz c as,v0,v,h0,h=>by unfold Rep at h ⊢;exact h
 | .iM y ds,v0,v,h0,h=>by unfold Rep at h0 h ⊢;obtain ⟨k,a,cs,xs,e,q0,q1,q2,r⟩:=h;obtain ⟨_,_,_,oh,_,_,_,_,r0⟩:=h0;exact ⟨k,a,cs,xs,e,q0,q1,q2,aq.back p ds oh xs r0 r⟩
theorem aq.back (p:∃ r,ρ'=ρ++r):∀ (ds:List D) (QN vs:List V),aq K mg ρ H ds QN→aq K mg ρ' H' ds vs→aq K mg ρ H' ds vs
 | [],QN,vs,h0,h=>by unfold aq at h ⊢;exact h
 | d::ds,QN,vs,h0,h=>by unfold aq at h0 h ⊢;obtain ⟨v,r,e,h1,h2⟩:=h;obtain ⟨v0,r0,e0,Sy,WC⟩:=h0;exact ⟨v,r,e,Rep.back p d v0 v Sy h1,aq.back p ds r0 r WC h2⟩
end
theorem eN.cut (h:eN K mg H ρ G) (p:∃ r,ρ'=ρ++r) (h':eN K mg H' ρ' G') (e:G'.take G.length=G):eN K mg H' ρ G:=by
 refine ⟨h.hl,h.nd,λn o q=>?_⟩;have hn:n<G.length:=(Zp.mp q).1;have q':G'[n]?=Zg o:=by rw [← e,List.getElem?_take] at q;rw [if_pos hn] at q;exact q
 obtain ⟨a0,e0,r0⟩:=h.ob n o q;obtain ⟨a,e1,r1⟩:=h'.ob n o q';have ea:a=a0:=by obtain ⟨r,rfl⟩:=p;rw [ZC (by rw [h.hl];exact hn),e0] at e1;exact (ZS e1).symm
 subst ea;refine ⟨a,e0,?_⟩;cases o with
 | dct kv=>obtain ⟨xs,e2,rs⟩:=r1;obtain ⟨oh,_,A6⟩:=r0;exact ⟨xs,e2,aq.back p _ oh xs A6 rs⟩
 | iN f kv=>obtain ⟨xs,e2,rs⟩:=r1;obtain ⟨oh,_,A6⟩:=r0;exact ⟨xs,e2,aq.back p _ oh xs A6 rs⟩
 | Nt kv=>obtain ⟨xs,e2,rs⟩:=r1;obtain ⟨oh,_,A6⟩:=r0;exact ⟨xs,e2,aq.back p _ oh xs A6 rs⟩
 | ins c fs=>obtain ⟨C,dx,xs,m,e2,rs⟩:=r1;obtain ⟨_,_,oh,_,_,A6⟩:=r0;exact ⟨C,dx,xs,m,e2,aq.back p _ oh xs A6 rs⟩
 | lst ds=>obtain ⟨xs,e2,rs⟩:=r1;obtain ⟨oh,_,A6⟩:=r0;exact ⟨xs,e2,aq.back p ds oh xs A6 rs⟩
 | _=>exact r1
theorem mG {o:Obj} (e:H a=Zg (.lst xs)) (ρ:List Addr):bX K H (upd H a (.dz o (.lst xs))) ρ ρ:=by
 refine ⟨λb zs h=>?_,λb q u h=>by rw [aA (fB h e (by intro z;cases z))];exact h,⟨[],by simp⟩,λb φ h=>by rw [aA (fB h e (by intro z;cases z))];exact h⟩
 ·rw [pQ] at h ⊢;rw [aA (fB h e (by intro z;cases z))];exact h
theorem eN.dz {o:Obj} (h:eN K mg H ρ G) (hn:ρ[n]?=Zg a) (e:H a=Zg (.lst xs)):eN K mg (upd H a (.dz o (.lst xs))) ρ (G.set n .dead):=by
 have f:bX K H (upd H a (.dz o (.lst xs))) ρ ρ:=mG e ρ;refine ⟨by simp [h.hl],h.nd,λm ob q=>?_⟩;by_cases hm:n=m
 ·subst hm;rw [aap,if_pos rfl] at q;split at q
  ·cases q;exact ⟨a,hn,_,aN⟩
  ·cases q
 ·rw [ZZ hm] at q;obtain ⟨b,e1,r'⟩:=h.ob m ob q;have hb:b≠a:=by rintro rfl;obtain ⟨h1,xF⟩:=Zp.mp hn;obtain ⟨h2,tZ⟩:=Zp.mp e1;exact hm ((aaO h.nd).mp (xF.trans tZ.symm))
  exact ⟨b,e1,r'.mono f λu q=>by rw [aA hb];exact q⟩
end
section
variable {X:Cx} {EE:bR}
theorem zJ (I:Inv X pins σ H s) (e:H a=Zg (.lst xs)):∃ o,Inv X pins σ (upd H a (.dz o (.lst xs))) s:=by
 obtain ⟨z,its,n,r,hg⟩:=I.hok a _ e;refine ⟨_,I.un (H':=upd H a (.dz {cls:=.type "list",data:=.seq its.toArray n} (.lst xs))) (h':=s.heap) (t':=s.toks) ⟨λb o q _ _ _=>q,λb o q _ _ _=>⟨o.slots,q⟩,λb o q hn _=>?_,λb o q _=>⟨o,q⟩,λb ys q=>?_,λb o u q=>?_,λb ps q=>⟨#[],?_⟩⟩ λb u q=>?_⟩
 ·rw [aA (by rintro rfl;rw [e] at hn;cases hn)];exact hn
 ·rw [aA (fB q e (by intro z;cases z))];exact q
 ·rw [aA (fB q e (by intro z;cases z))];exact q
 ·rw [aA (fB q e (by intro z;cases z)),q];simp
 ·have ho:∀ c y,H c=Zg (.own y)→upd H a (.dz {cls:=.type "list",data:=.seq its.toArray n} (.lst xs)) c=Zg (.own y):=λc y w=>by rw [aA (fB w e (by intro z;cases z))];exact w
  have ht:∀ c ys,H c=Zg (.tup ys)→upd H a (.dz {cls:=.type "list",data:=.seq its.toArray n} (.lst xs)) c=Zg (.tup ys):=λc ys w=>by rw [aA (fB w e (by intro z;cases z))];exact w
  by_cases hb:b=a
  ·subst hb;rw [aN] at q;cases q;exact ⟨hg,(I.hok b _ e).stay (λ_ _ _ w=>w) (λc w=>ho c b w) ht⟩
  ·rw [aA hb] at q;exact (I.hok b u q).stay (λ_ _ _ w=>w) (λc w=>ho c b w) ht
def u0 (m:DS→M D):DS→M D:=λτ G=>match m τ G with
 | .ok (.obj n) G'=>match G'[n]? with
  | some (.lst ds)=>.ok (.con ds) (G'.set n .dead)
  | _=>.stuck
 | r=>r
def eFn (m:DS→M D):DS→M D:=λτ G=>match m τ G with
 | .ok (.obj n) G'=>match G'[n]? with
  | some (.lst ds)=>if n=G.length∧G'.length=n+1∧qf (G'.take G.length) G=Zh∧aR ds=Zh then .ok (.con ds) G else .stuck
  | _=>.stuck
 | r=>r
theorem yr {Q Q':VK} {u:Zj} (h:EP X pins σ Q' u s) (hq:∀ v H',Q' v H'→Q v H'∨∃ a xs,v=.ref a∧H' a=Zg (.lst xs)∧∀ o,Q v (upd H' a (.dz o (.lst xs)))):EP X pins σ Q u s:=by
 obtain ⟨v,H',I,r,q⟩:=h;rcases hq v H' q with q | ⟨a,xs,rfl,e,q⟩
 ·exact ⟨v,H',I,r,q⟩
 ·obtain ⟨o,I'⟩:=zJ I e;exact ⟨_,_,I',r,q o⟩
theorem Pp (ha:QE X EE e m):QE X EE e (u0 m):=by
 intro pins s σ H Q I zu;obtain ⟨τ,ρ,G,ab,ok⟩:=zu;dsimp only [u0] at ok;cases q:m τ G with
 | stuck=>rw [q] at ok;exact ok.elim
 | bq c G'=>rw [q] at ok;exact ha pins s σ H Q I ⟨τ,ρ,G,ab,by rw [q];exact ok⟩
 | ok d G'=>
  rw [q] at ok;by_cases hd:∃ n,d=.obj n
  ·obtain ⟨n,rfl⟩:=hd;dsimp only at ok;cases g:G'[n]? with
   | none=>rw [g] at ok;exact ok.elim
   | some o=>
    rw [g] at ok;cases o with
    | lst ds=>refine cO (ha pins s σ H (λv H'=>∃ a xs,v=.ref a∧H' a=Zg (.lst xs)∧∀ o,Q v (upd H' a (.dz o (.lst xs)))) I ⟨τ,ρ,G,ab,?_⟩) λu s' h=>yr h λv H' q=>.inr q;rw [q];intro v H' ρ' f aV r;unfold Rep at r;obtain ⟨a,rfl,hn⟩:=r;obtain ⟨a',xs,e1,e2,rs⟩:=aV.hp.lst g;rw [hn] at e1;cases e1;refine ⟨a,xs,rfl,e2,λob=>?_⟩;have f2:bX X.K H' (upd H' a (.dz ob (.lst xs))) ρ' ρ':=mG e2 ρ';refine ok _ _ ρ' (f.trans f2) ⟨aV.st.mono f2,aV.hp.dz hn e2⟩ ?_;unfold Rep;exact ⟨a,xs,rfl,.inl ⟨ob,aN⟩,rs.mono f2⟩
    | _=>exact ok.elim
  ·have ok':iP X.K X.mg EE H σ τ ρ (.ok d G') Q:=by cases d<;>first | exact ok | exact absurd ⟨_,rfl⟩ hd
   exact ha pins s σ H Q I ⟨τ,ρ,G,ab,by rw [q];exact ok'⟩
theorem Mv (ha:QE X EE e m):QE X EE e (eFn m):=by
 intro pins s σ H Q I zu;obtain ⟨τ,ρ,G,ab,ok⟩:=zu;dsimp only [eFn] at ok;cases q:m τ G with
 | stuck=>rw [q] at ok;exact ok.elim
 | bq c G'=>rw [q] at ok;exact ha pins s σ H Q I ⟨τ,ρ,G,ab,by rw [q];exact ok⟩
 | ok d G'=>
  rw [q] at ok;by_cases hd:∃ n,d=.obj n
  ·obtain ⟨n,rfl⟩:=hd;dsimp only at ok;cases g:G'[n]? with
   | none=>rw [g] at ok;exact ok.elim
   | some o=>
    rw [g] at ok;cases o with
    | lst ds=>
     dsimp only at ok;by_cases hc:n=G.length∧G'.length=n+1∧qf (G'.take G.length) G=Zh∧aR ds=Zh
     ·rw [if_pos hc] at ok;obtain ⟨hn0,hl,hb,hcl⟩:=hc;refine cO (ha pins s σ H (λv H'=>∃ a xs,v=.ref a∧H' a=Zg (.lst xs)∧∀ o,Q v (upd H' a (.dz o (.lst xs)))) I ⟨τ,ρ,G,ab,?_⟩) λu s' h=>yr h λv H' q=>.inr q;rw [q];intro v H' ρ' f aV r;unfold Rep at r;obtain ⟨a,rfl,hn⟩:=r;obtain ⟨a',xs,e1,e2,rs⟩:=aV.hp.lst g;rw [hn] at e1;cases e1;refine ⟨a,xs,rfl,e2,λob=>?_⟩;have f2:bX X.K H' (upd H' a (.dz ob (.lst xs))) ρ' ρ':=mG e2 ρ';have f3:bX X.K H (upd H' a (.dz ob (.lst xs))) ρ ρ:=⟨λb ys w=>f2.tup b ys (f.tup b ys w),λb o u w=>f2.dz b o u (f.dz b o u w),⟨[],by simp⟩,λb φ w=>f2.ext b φ (f.ext b φ w)⟩;have hp2:=aV.hp.dz (o:=ob) hn e2;have ug:eN X.K X.mg (upd H' a (.dz ob (.lst xs))) ρ G:=ab.hp.cut f.pre hp2 (by rw [acS (by nofun)];exact mF _ _ hb)
      refine ok _ _ ρ f3 ⟨ab.st.mono f3,ug⟩ ?_;unfold Rep;exact ⟨a,xs,rfl,.inl ⟨ob,aN⟩,fR ds xs hcl (rs.mono f2)⟩
     ·rw [if_neg hc] at ok;exact ok.elim
    | _=>exact ok.elim
  ·have ok':iP X.K X.mg EE H σ τ ρ (.ok d G') Q:=by cases d<;>first | exact ok | exact absurd ⟨_,rfl⟩ hd
   exact ha pins s σ H Q I ⟨τ,ρ,G,ab,by rw [q];exact ok'⟩
end
def bV (m:List D→M D):List D→M D:=λds G=>match m ds G with
 | .ok d G'=>if qf (G'.take G.length) G=Zh∧d.closed=Zh then .ok d G else .stuck
 | .bq c G'=>if qf (G'.take G.length) G=Zh then .bq c G else .stuck
 | .stuck=>.stuck
section
variable {K:Zo} {mg:Str→Option Zj} {n:Nat} {m:List D→M D}
theorem vZ (f:bX K H H' ρ ρ'):bX K H H' ρ ρ:=⟨f.tup,f.dz,⟨[],by simp⟩,f.ext⟩
theorem uh (vs:List V) (H:Hp) (Q:VK) (E:XK) (h:fW K mg n (bV m) vs H Q E):fW K mg n m vs H Q E:=by
 obtain ⟨ds,ρ,G,hl,hp,rs,ok⟩:=h;refine ⟨ds,ρ,G,hl,hp,rs,?_⟩;dsimp only [bV] at ok;cases q:m ds G with
 | stuck=>rw [q] at ok;exact ok
 | ok d G'=>
  rw [q] at ok;dsimp only at ok;by_cases hc:qf (G'.take G.length) G=Zh∧d.closed=Zh
  ·rw [if_pos hc] at ok;intro v H' ρ' f B5 r;exact ok v H' ρ (vZ f) (hp.cut f.pre B5 (mF _ _ hc.1)) (qg d v hc.2 r)
  ·rw [if_neg hc] at ok;exact ok.elim
 | bq c G'=>
  rw [q] at ok;dsimp only at ok;by_cases hc:qf (G'.take G.length) G=Zh
  ·rw [if_pos hc] at ok;intro cls H' ρ' hcl f B5;exact ok cls H' ρ hcl (vZ f) (hp.cut f.pre B5 (mF _ _ hc))
  ·rw [if_neg hc] at ok;exact ok.elim
end
def tP (K:Zo) (a:Addr) (n:Nat):It:=
 ⟨λi H=>∃ xs x,kE K H a xs∧xs.length=n∧i<n∧xs[n - 1 - i]?=Zg x,λi H y H'=>H'=H∧∀ xs,kE K H a xs→xs[n - 1 - i]?=Zg y,λi H=>i=n⟩
theorem DQ (a it:Addr) (n:Nat):Turn P w K tg (tP K a n) [it] it (λi h=>h.IsRevIter it a ((n:Int) - 1 - (i:Int))) where
 mem:=by simp
 obj:=λi h st b hb=>by
  have e:b=it:=by simpa using hb
  subst e;obtain ⟨o,e,c,d⟩:=st;exact ⟨o,e,λv z=>by rw [d] at z;cases z⟩
 keep:=λi h h' st k=>st.at λo e=>k it (by simp) o e
 item:=by
  intro X hP hw hK hc i pins s σ H E I hf st hg;subst hP hw hK;obtain ⟨xs,x,hq,hn,hi,hx⟩:=hg;obtain ⟨its,rv,p,hz⟩:=I.list hq;obtain ⟨u,hu,ru⟩:=rv.get hx;obtain ⟨f0,f1,f2,f3,f4,f5⟩:=hf it (by simp);have e:(n:Int) - 1 - (i:Int)=((n - 1 - i:Nat):Int):=by nofun
  rw [e] at st;refine wpAny_pyNext_rev_item st p.isList (x:=u) (by simpa using hu) λh' st' sb=>?_;have I1:Inv X pins σ H {s with heap:=h'}:=I.turned (t':=s.toks) (λb o hb e=>(sb.2 b hb).trans e) f0 f1 f3 f4 f5;have e2:((n - 1 - i:Nat):Int) - 1=(n:Int) - 1 - ((i+1:Nat):Int):=by nofun
  rw [e2] at st';obtain ⟨o,e,c,d⟩:=id st';exact ⟨u,rfl,pI (s:={s with heap:=h'}) e c d (by decide) ⟨x,H,I1,ru,⟨rfl,λys hy=>by rw [I.lW hy hq];exact hx⟩,st',λb hb=>(hf b hb).1⟩⟩
 done:=by intro X hP hw hK hc i pins s σ H E I hf st hg;subst hP hw hK;have hi:i=n:=hg;subst hi;obtain ⟨f0,f1,f2,f3,f4,f5⟩:=hf it (by simp);rw [show (i:Int) - 1 - (i:Int)=-1 by nofun] at st;exact wpAny_pyNext_rev_end (I.ok.hd hc) st λh' eb=>⟨rfl,I.turned (t':=s.toks) (λb o hb e=>eb b o hb e) f0 f1 f3 f4 f5⟩
 self:=λ_ _ _ _ _ st h=>aa3 st h
def yt (d:D) (n:Nat):View:=λG i=>match aF G d with
 | some (.lst xs)=>if xs.length=n then (if i=n then Zg Zl else if i<n then Zg xs[n - 1 - i]? else Zl) else Zl
 | _=>Zl
def HH (m:DS→M (List D)):MI:=λτ=>(m τ).bind λds=>match ds with
 | [d]=>λG=>match aF G d with
  | some (.lst xs)=>.ok (xs.length+1,yt d xs.length) G
  | _=>.stuck
 | _=>M.stop
section
variable {X:Cx} {EE:bR} {tg iter a b:Expr} {g:jB} {mi:MI} {ms:MS} {pos p pc:Pos} {m:DS→M (List D)}
theorem DR {G':DH} {ws:List D} (f:bX X.K H H' ρ ρ') (rx:Rep X.K X.mg ρ H d (.ref l)) (hp:eN X.K X.mg H' ρ' G') (q:aF G' d=Zg (.lst ws)):∃ xs,kE X.K H' l xs∧aq X.K X.mg ρ' H' ws xs:=by
 have Q9:=rx.mono f;cases d with
 | con ds=>cases q;unfold Rep at Q9;obtain ⟨a',xs,e,s,r⟩:=Q9;cases e;exact ⟨xs,s.seq,r⟩
 | obj n=>
  unfold Rep at Q9;obtain ⟨a',e,r⟩:=Q9;cases e;dsimp only [aF] at q;cases g:G'[n]? with
  | none=>rw [g] at q;cases q
  | some o=>
   cases o with
   | lst ys=>rw [g] at q;cases q;obtain ⟨a',xs,e1,e2,rs⟩:=hp.lst g;rw [r] at e1;cases e1;exact ⟨xs,.inl (.of e2),rs⟩
   | _=>rw [g] at q;cases q
 | _=>cases q
theorem Mw (rx:Rep X.K X.mg ρ H d (.ref l)):JV X.K X.mg (tP X.K l n) (yt d n) H ρ:=by
 intro i H' ρ' G' f hp;unfold yt;cases q:aF G' d with
 | none=>exact ⟨λe=>(by cases e),λx e=>(by cases e)⟩
 | some sk=>
  cases sk with
  | tup zs=>exact ⟨λe=>(by cases e),λx e=>(by cases e)⟩
  | str z=>exact ⟨λe=>(by cases e),λx e=>(by cases e)⟩
  | lst zs=>
   dsimp only;by_cases hn:zs.length=n
   ·rw [if_pos hn];by_cases hi:i=n
    ·rw [if_pos hi];exact ⟨λ_=>hi,λx e=>(by cases e)⟩
    ·rw [if_neg hi];by_cases hlt:i<n
     ·rw [if_pos hlt];obtain ⟨xs,sq,rs⟩:=DR f rx hp q;refine ⟨λe=>?_,λx e=>?_⟩
      ·have:=ZS e;rw [aaq] at this;nofun
      ·have e':=ZS e;obtain ⟨v,hv,rv⟩:=rs.get e';refine ⟨⟨xs,v,sq,by rw [← rs.length];exact hn,hlt,hv⟩,λy H2 hy=>?_⟩;obtain ⟨rfl,hy⟩:=hy;have:=hy xs sq;rw [hv] at this;cases this;exact ⟨⟨.refl,λ_ h=>h⟩,rv⟩
     ·rw [if_neg hlt];exact ⟨λe=>(by cases e),λx e=>(by cases e)⟩
   ·rw [if_neg hn];exact ⟨λe=>(by cases e),λx e=>(by cases e)⟩
theorem Mx (hm:X.mg "reversed"=Zl) (nY:Gl X "reversed") (ha:QA X EE [a] m) (h:ao [a]=Zh:=by rfl):QI X EE tg (.Call (.Name "reversed" p) [a] [] pc) (HH m):=by
 have h':bf a=Zh∧ao []=Zh:=by simpa [ao] using h
 intro pins s σ H R I hq;obtain ⟨τ,ρ,G,ab,ok⟩:=hq;dsimp only [HH,M.bind] at ok;refine ZK (dX I nY hm jh ?_ (by decide) (by decide));have hA:gU X.K X.mg EE m σ H λvs H1=>∃ ρ1 G1 ds,Ab X.K X.mg σ H1 τ ρ1 G1∧bX X.K H H1 ρ ρ1∧aq X.K X.mg ρ1 H1 ds vs∧m τ G=.ok ds G1:=by
  refine ⟨τ,ρ,G,ab,?_⟩;cases e:m τ G with
  | stuck=>rw [e] at ok;exact ok
  | bq c G'=>rw [e] at ok;exact ok
  | ok ds G'=>exact λvs H' ρ' f aV r=>⟨ρ',G',ds,aV,f,r,rfl⟩
 refine ZJ (cO (ha pc pins s σ H _ I hA) λus s1 oE=>?_) (aK h'.1 _ _) (aJ (es:=[]) rfl);obtain ⟨vs,H1,I1,r1,ρ1,G1,ds,fD,f1,rs,em⟩:=oE;rw [em] at ok;dsimp only at ok
 match ds,rs,ok with
 | [],_,ok=>exact ok.elim
 | _::_::_,_,ok=>exact ok.elim
 | [d],rs,ok=>
  obtain ⟨x,rfl,rx⟩:=fQ rs;obtain ⟨u,rfl,ru⟩:=vals1 r1;dsimp only at ok;cases q:aF G1 d with
  | none=>rw [q] at ok;exact ok.elim
  | some sk=>
   rw [q] at ok;cases sk with
   | tup zs=>exact ok.elim
   | str z=>exact ok.elim
   | lst zs=>
    dsimp only at ok;obtain ⟨l,ys,rfl,sq,rv⟩:=bE (pins:=pins) (σ0:=σ) (s:=s1) fD.hp rx q;cases ru;obtain ⟨its,vv,pl,hz⟩:=I1.list sq;refine call_reversed_list pl.isList ?_;have hst:(s1.heap.push (revObj l ((its.toArray.size:Int) - 1))).IsRevIter s1.heap.objs.size l ((its.toArray.size:Int) - 1):=⟨_,Zv _ rfl,rfl,rfl⟩;refine aa3 (s:={s1 with heap:=s1.heap.push (revObj l ((its.toArray.size:Int) - 1))}) hst ?_;have I2:Inv X pins σ H1 {s1 with heap:=s1.heap.push (revObj l ((its.toArray.size:Int) - 1))}:=I1.kept (t':=s1.toks) λb o e=>Zn _ e;have hlen:its.toArray.size=zs.length:=by rw [ZA,← vv.length,rv.length]
    refine ⟨s1.heap.objs.size,[s1.heap.objs.size],_,tP X.K l zs.length,H1,rfl,I2,DQ l _ _,?_,λb hb=>?_,ok _ H1 ρ1 f1 fD (Mw rx)⟩
    ·show (s1.heap.push (revObj l ((its.toArray.size:Int) - 1))).IsRevIter s1.heap.objs.size l ((zs.length:Int) - 1 - ((0:Nat):Int));rw [← hlen];simpa using hst
    ·rw [ZI.mp hb];exact I1.lX (Zs _) (I1.hok.fresh (Zs _))
end
def Pq (d e:D):View:=λG i=>match aF G d,aF G e with
 | some (.lst xs),Zg (.lst ys)=>Zg (match xs[i]?,ys[i]? with
  | some x,Zg y=>Zg (.tup [x,y])
  | _,_=>Zl)
 | _,_=>Zl
def SV (m:DS→M (List D)):MI:=λτ=>(m τ).bind λds=>match ds with
 | [d,e]=>λG=>match aF G d,aF G e with
  | some (.lst xs),Zg (.lst ys)=>.ok (min xs.length ys.length+1,Pq d e) G
  | _,_=>.stuck
 | _=>M.stop
section
open PyProof.Rows
section
variable {X:Cx} {EE:bR} {a b e:Expr} {ma mb:DS→M D} {pos:Pos}
theorem HJ:iu X (binaryOp .Add) (λx y H Q=>∃ l b xs zs,x=.ref l∧y=.ref b∧kE X.K H l xs∧kE X.K H b zs∧xs.length+zs.length≤Zm∧∀ p,H p=Zl→Q (.ref p) (upd H p (.lst (xs++zs)))):=by
 intro pins s σ H x y v u Q I rx ry h;obtain ⟨l,b,xs,zs,rfl,rfl,hH,hB,hz,q⟩:=h;cases rx;cases ry;obtain ⟨its,r,⟨o,n,e,c,dn,d⟩,hl⟩:=I.list hH;obtain ⟨its2,r2,⟨o2,n2,e2,c2,Pu,d2⟩,hl2⟩:=I.list hB;obtain ⟨cls,dd,data,sl⟩:=o;obtain ⟨Gq,dd2,data2,sl2⟩:=o2;simp only at c dn d c2 Pu d2;subst c dn d c2 Pu d2;have hlen:=r.length;have hlen2:=r2.length;have ea:its.toArray++its2.toArray=(its++its2).toArray:=by simp
 refine concat_meets ⟨_,e,rfl⟩ ⟨_,e2,rfl⟩ noFill_list_add seq_list_add PySem.F.slot_list_add PySem.F.entry_list_add (PySem.F.args_list_add_2 _ _) (list_addW l b its.toArray its2.toArray n n2 _ _ sl sl2 (by simp only [ZA];nofun)) ⟨e,e2,?_⟩;rw [ea];exact ⟨.ref _,_,I.Ot (t':=s.toks) (r.append r2) (by rw [ZV];nofun),rfl,q _ I.fresh⟩
theorem HK:iu X (binaryOp .Add) (λx y H Q=>∃ a b ys,x=.ref a∧y=.ref b∧lq X.K H a []∧lq X.K H b ys∧Q (.ref b) H):=by
 intro pins s σ H x y v u Q I rx ry h;obtain ⟨a,b,ys,rfl,rfl,ha,hb,q⟩:=h;cases rx;cases ry;obtain ⟨its,r1,p1,_⟩:=I.tuple ha;obtain ⟨its2,r2,p2,_⟩:=I.tuple hb;have e0:its=[]:=by cases r1;rfl
 subst e0;obtain ⟨⟨cls,dd,data,sl⟩,ho,hc,n,hd⟩:=id p1;obtain ⟨⟨Gq,dd2,data2,sl2⟩,ho2,hc2,n2,hd2⟩:=id p2;simp only at hc hd hc2 hd2;subst hc hd hc2 hd2
 exact concat_meets ⟨_,ho,rfl⟩ ⟨_,ho2,rfl⟩ noFill_tuple_add seq_tuple_add acr ack (ace _ _)
   (tuple_addW0 a b _ _ n n2 dd dd2 sl sl2 (by simp)) ⟨ho,ho2,⟨.ref b,H,I,rfl,q⟩⟩
def kX (G:DH):D→Option (List D)
 | .con xs=>Zg xs
 | .obj n=>match G[n]? with
  | some (.lst xs)=>Zg xs
  | _=>Zl
 | _=>Zl
theorem qh {xs:List D} (h:kX G d=Zg xs):aF G d=Zg (.lst xs):=by
 cases d with
 | con ys=>cases h;rfl
 | obj n=>
  dsimp only [kX] at h;dsimp only [aF];cases g:G[n]? with
  | none=>rw [g] at h;cases h
  | some o=>
   cases o with
   | lst ys=>rw [g] at h;cases h;rfl
   | _=>rw [g] at h;cases h
 | _=>cases h
def aG (d e:D):M D:=λG=>match d,e with
 | .int i,.int j=>.ok (.int (i+j)) G
 | .str i,.str j=>if i.length+j.length≤Zm then .ok (.str (i++j)) G else .stuck
 | .tup [],.tup ys=>.ok (.tup ys) G
 | .tup (x::xs),.tup ys=>bK (x::xs++ys) G
 | d,e=>match kX G d,kX G e with
  | some xs,Zg ys=>aL (xs++ys) G
  | _,_=>.stuck
theorem HL:iu X (binaryOp .Add) (rD X EE aG):=by
 intro pins s σ0 H x y v u Q I rx ry zu;obtain ⟨σ,τ,ρ,G,d,e,ab,r1,r2,ok⟩:=zu;have lists:∀ xs ys,kX G d=Zg xs→kX G e=Zg ys→iP X.K X.mg EE H σ τ ρ (aL (xs++ys) G) Q→ZD (model X.prog X.w) X.A (binaryOp .Add v u) (EP X pins σ0 Q) X.xe s:=λxs ys h1 h2 ok=>by obtain ⟨l,vs,rfl,s1,t1⟩:=bE (pins:=pins) (σ0:=σ0) (s:=s) ab.hp r1 (qh h1);obtain ⟨l2,ws,rfl,s2,t2⟩:=bE (pins:=pins) (σ0:=σ0) (s:=s) ab.hp r2 (qh h2);obtain ⟨hl,q1⟩:=lE ab (t1.append t2) ok;rw [ZV] at hl;exact HJ pins s σ0 H _ _ v u Q I rx ry ⟨l,l2,vs,ws,rfl,rfl,s1,s2,hl,q1⟩
 have rest:(iP X.K X.mg EE H σ τ ρ (match kX G d,kX G e with
  | some xs,Zg ys=>aL (xs++ys) G
  | _,_=>.stuck) Q)→ZD (model X.prog X.w) X.A (binaryOp .Add v u) (EP X pins σ0 Q) X.xe s:=λok=>by
  cases h1:kX G d with
  | none=>rw [h1] at ok;exact ok.elim
  | some xs=>
   cases h2:kX G e with
   | none=>rw [h1,h2] at ok;exact ok.elim
   | some ys=>rw [h1,h2] at ok;exact lists xs ys h1 h2 ok
 cases d with
 | int i=>
  cases e with
  | int j=>unfold Rep at r1 r2;subst r1 r2;exact KQ pins s σ0 H _ _ v u Q I rx ry ⟨i,j,rfl,rfl,ok _ H ρ .refl ab (by unfold Rep;rfl)⟩
  | _=>exact rest ok
 | str i=>
  cases e with
  | str j=>
   unfold Rep at r1 r2;subst r1 r2;dsimp only [aG] at ok;by_cases h:i.length+j.length≤Zm
   ·rw [if_pos h] at ok;exact xT pins s σ0 H _ _ v u Q I rx ry ⟨i,j,rfl,rfl,h,ok _ H ρ .refl ab (by unfold Rep;rfl)⟩
   ·rw [if_neg h] at ok;exact ok.elim
  | _=>exact rest ok
 | tup xs=>
  cases e with
  | tup ys=>
   have r2':=r2;unfold Rep at r1 r2;obtain ⟨p,vs,rfl,s1,t1⟩:=r1;obtain ⟨q,ws,rfl,s2,t2⟩:=r2;cases xs with
   | nil=>
    have hv:vs=[]:=by have:=t1.length;cases vs with | nil=>rfl | cons _ _=>simp at this
    subst hv;exact HK pins s σ0 H _ _ v u Q I rx ry ⟨p,q,ws,rfl,rfl,s1,s2,ok _ H ρ .refl ab r2'⟩
   | cons x xs=>
    have ok':iP X.K X.mg EE H σ τ ρ (bK (x::xs++ys) G) Q:=ok;have WD:=t1.append t2;obtain ⟨hl,q1⟩:=pT ab WD ok';rw [ZV] at hl;have hv:vs≠[]:=by intro z;subst z;have:=t1.length;simp at this
    refine Gv pins s σ0 H _ _ v u Q I rx ry ⟨p,q,vs,ws,rfl,rfl,s1,s2,hv,hl,λz=>?_,λz p hp=>q1 p hp⟩;subst z;have hy:ys=[]:=by
     have:=t2.length;cases ys with
     | nil=>rfl
     | cons _ _=>simp at this
    subst hy;unfold bK at ok';split at ok'
    ·exact ok' _ H ρ .refl ab (by rw [aaA];unfold Rep;exact ⟨p,vs,rfl,s1,t1⟩)
    ·exact ok'.elim
  | _=>cases xs<;>exact rest ok
 | _=>exact rest (by cases e<;>exact ok)
theorem HM (ha:QE X EE a ma) (hb:QE X EE b mb):QE X EE (.BinOp a .Add b pos) (ak aG ma mb):=jd HL j6 ha hb
theorem My {f:Flow} (h:SP X pins D' f s) (hb:D'.bk=Dd.bk) (hc:D'.ct=Dd.ct) (hr:D'.rt=Dd.rt)
  (hq:∀ σ H,D'.nx σ H→Dd.nx σ H∨∃ a xs,H a=Zg (.lst xs)∧∀ o,Dd.nx σ (upd H a (.dz o (.lst xs)))):SP X pins Dd f s:=by
 obtain ⟨nx,bk,ct,rt⟩:=D';subst hb hc hr;cases f with
 | next=>
  obtain ⟨σ',H',I,q⟩:=h;rcases hq σ' H' q with q | ⟨a,xs,e,q⟩
  ·exact ⟨σ',H',I,q⟩
  ·obtain ⟨o,I'⟩:=zJ I e;exact ⟨σ',_,I',q o⟩
 | _=>exact h
theorem Pw {st:Stmt} (hs:QS X EE st (aH i m)):QS X EE st (aH i (eFn m)):=by
 intro pins s σ H Dd I zu;obtain ⟨τ,ρ,G,ab,ok⟩:=zu;dsimp only [aH,bz,eFn] at ok;cases q:m τ G with
 | stuck=>rw [q] at ok;exact ok.elim
 | bq c G'=>rw [q] at ok;exact hs pins s σ H Dd I ⟨τ,ρ,G,ab,by dsimp only [aH,bz];rw [q];exact ok⟩
 | ok d G'=>
  rw [q] at ok;by_cases hd:∃ n,d=.obj n
  ·obtain ⟨n,rfl⟩:=hd;dsimp only at ok;cases g:G'[n]? with
   | none=>rw [g] at ok;exact ok.elim
   | some o=>
    rw [g] at ok;cases o with
    | lst ds=>
     dsimp only at ok;by_cases hc:n=G.length∧G'.length=n+1∧qf (G'.take G.length) G=Zh∧aR ds=Zh
     ·rw [if_pos hc] at ok;obtain ⟨hn0,hl,hb,hcl⟩:=hc;refine cO (hs pins s σ H {Dd with nx:=λσ' H'=>∃ a xs,H' a=Zg (.lst xs)∧∀ o,Dd.nx σ' (upd H' a (.dz o (.lst xs)))} I ⟨τ,ρ,G,ab,?_⟩) λu s' h=>My h rfl rfl rfl λσ' H' q=>.inr q;dsimp only [aH,bz];rw [q];intro σ' H' ρ' f aV;obtain ⟨a,xs,e1,e2,rs⟩:=aV.hp.lst g;refine ⟨a,xs,e2,λob=>?_⟩;have f2:bX X.K H' (upd H' a (.dz ob (.lst xs))) ρ' ρ':=mG e2 ρ';have f3:bX X.K H (upd H' a (.dz ob (.lst xs))) ρ ρ:=⟨λb ys w=>f2.tup b ys (f.tup b ys w),λb o u w=>f2.dz b o u (f.dz b o u w),⟨[],by simp⟩,λb φ w=>f2.ext b φ (f.ext b φ w)⟩;have ug:eN X.K X.mg (upd H' a (.dz ob (.lst xs))) ρ G:=ab.hp.cut f.pre (aV.hp.dz (o:=ob) e1 e2) (by rw [acS (by nofun)];exact mF _ _ hb)
      refine ok σ' _ ρ f3 ⟨⟨by rw [aV.st.1];simp,λj dj ej=>?_⟩,ug⟩;by_cases hij:i=j
      ·subst hij;by_cases hi:i<τ.length
       ·rw [aap,if_pos rfl,if_pos hi] at ej;cases ej;obtain ⟨vv,ev,rv⟩:=aV.st.2 i (.obj n) (by rw [aap,if_pos rfl,if_pos hi]);unfold Rep at rv;obtain ⟨a',rfl,hn'⟩:=rv;rw [e1] at hn';cases hn';refine ⟨_,ev,?_⟩;unfold Rep;exact ⟨a,xs,rfl,.inl ⟨ob,aN⟩,fR ds xs hcl (rs.mono f2)⟩
       ·rw [aap,if_pos rfl,if_neg hi] at ej;cases ej
      ·have Yv:=ej;rw [ZZ hij] at ej;obtain ⟨v',ev',WE⟩:=aV.st.2 j dj (by rw [ZZ hij];exact ej);obtain ⟨v0,Px,WG⟩:=ab.st.2 j dj ej;exact ⟨v',ev',Rep.back f.pre dj v0 v' WG (WE.mono f2)⟩
     ·rw [if_neg hc] at ok;exact ok.elim
    | _=>exact ok.elim
  ·have ok':qX X.K X.mg EE H ρ Dd (.nx (τ.set i (Zg d)) G'):=by cases d<;>first | exact ok | exact absurd ⟨_,rfl⟩ hd
   exact hs pins s σ H Dd I ⟨τ,ρ,G,ab,by dsimp only [aH,bz];rw [q];exact ok'⟩
theorem yu (l:Addr) (items:Array Zj) (n:Nat) (b:Addr) (items2:Array Zj) (n2:Nat) (sl2:Array (Option Zj)) (hc0:¬(!items.isEmpty&&aaY (items.size+items2.size))=Zh) (hc1:items.size≤Zm) (hs2:items.size+items2.size≤Zm+1) :
  Meets (abR.«list.extend» ⟨[.ref l,.ref b],[]⟩) (λ_ R s=>s.heap.get? l=Zg {cls:=.type "list",dict:=Zl,data:=.seq items n,slots:=#[]}∧s.heap.get? b=Zg {cls:=.type "list",dict:=Zl,data:=.seq items2 n2,slots:=sl2}∧R (.ok (.ret Value.none)) {s with heap:=s.heap.update l (ab0 λx=>x++items2),toks:=s.toks}):=
 .of_wp λprog w A R s h=>by
  obtain ⟨hp,g,d,tk,os⟩:=s;obtain ⟨hl,hb,h⟩:=h;have f1:=AutoSeq1.idx_int;have f2:=adl;have f3:=AutoSeq1.sub_list_list;have f4:=AutoSeq1.sub_tuple_list;have f5:=AutoSeq1.sub_list_tuple;
  have hz':(items++items2).size≤Zm+1:=by rw [Array.size_append];exact hs2
  wp_walk using (acf hl rfl (hz:=hc1) (_hz':=hz')),acM hl,acM hb;exact ⟨_,rfl,h⟩
theorem yw:B3 X "list.extend" (λx vs H Q=>∃ l b xs zs,x=.ref l∧vs=[.ref b]∧H l=Zg (.lst xs)∧kE X.K H b zs∧xs.length+zs.length≤Zm∧Q .cy (upd H l (.lst (xs++zs)))):=by
 intro pins s σ H x vs v us Q I rx rv h;obtain ⟨l,b,xs,zs,rfl,rfl,hH,hB,hz,q⟩:=h;cases rx;obtain ⟨u,rfl,ru⟩:=rv.one;cases ru;obtain ⟨z,its,n,r,hl,e⟩:=I.Gy hH;obtain ⟨its2,r2,⟨o2,n2,e2,c2,Pu,d2⟩,_⟩:=I.list hB;obtain ⟨Gq,dd2,data2,sl2⟩:=o2;simp only at c2 Pu d2;subst c2 Pu d2;have hl2:=r2.length;have hsz:its.toArray.size+its2.toArray.size≤Zm:=by rw [ZA,ZA];nofun
 have CC:¬ (!its.toArray.isEmpty&&aaY (its.toArray.size+its2.toArray.size))=Zh:=by rw [vm hsz,Bool.and_false];exact ZX
 refine call_meets ael ⟨_,e,rfl⟩ F.entry_list_extend (F.args_list_extend_2 _ _)
  (yu l its.toArray n b its2.toArray n2 sl2 CC (by rw [ZA];nofun) (by nofun)) ⟨e,e2,?_⟩
 refine ⟨.cy,_,I.Lj (its':=its++its2) hH e (by simp) (r.append r2) ?_,rfl,q⟩;rw [ZV];nofun
def v5:D→List D→M D
 | .obj n,[y]=>λG=>match G[n]?,kX G y with
  | some (.lst xs),Zg ys=>if xs.length+ys.length≤Zm then .ok .cy (G.set n (.lst (xs++ys))) else .stuck
  | _,_=>.stuck
 | _,_=>M.stop
theorem HN:B3 X "list.extend" (OQ X EE v5):=by
 intro pins s σ0 H x xs v us Q I rx OR zu;obtain ⟨σ,τ,ρ,G,d,ds,ab,rd,zy,ok⟩:=zu;cases d<;>try exact ok.elim
 rename_i n
 match ds,ok with
 | [],ok=>exact ok.elim
 | a::_::_,ok=>exact ok.elim
 | [y],ok=>
  obtain ⟨yv,rfl,ry⟩:=fQ zy;unfold Rep at rd;obtain ⟨p,rfl,e1⟩:=rd;dsimp only [v5] at ok;cases g:G[n]? with
  | none=>rw [g] at ok;exact ok.elim
  | some o=>
   cases g2:kX G y with
   | none=>rw [g,g2] at ok;cases o<;>exact ok.elim
   | some ys=>
    rw [g,g2] at ok;cases o with
    | lst zs=>
     dsimp only at ok;obtain ⟨p',vs,e3,hp,rs⟩:=ab.hp.lst g;rw [e1] at e3;cases e3;obtain ⟨p2,ws,rfl,s2,UW⟩:=bE (pins:=pins) (σ0:=σ0) (s:=s) ab.hp ry (qh g2);by_cases hz:zs.length+ys.length≤Zm
     ·rw [if_pos hz] at ok;exact yw pins s σ0 H _ _ v us Q I rx OR ⟨p,p2,vs,ws,rfl,rfl,hp,s2,by rw [← rs.length,← UW.length];exact hz,yh (xs:=zs) ab e1 hp (rs.append UW) (λ_ _=>by unfold Rep;rfl) ok⟩
     ·rw [if_neg hz] at ok;exact ok.elim
    | _=>exact ok.elim
theorem HP {apos cpos:Pos} {m:DS→M (List D)} (ho:QE X EE o mo) (ha:QA X EE [e] m) (hb:nv o=Zh:=by rfl) (h:ao [e]=Zh:=by rfl) (hline:(apos.endLine==cpos.line)=Zh:=by rfl):QE X EE (.Call (.Attribute o "extend" apos) [e] [] cpos) (cJ "list" v5 mo m):=by
 have h':bf e=Zh∧ao []=Zh:=by simpa [ao] using h
 exact JC F.plainAttrs_list ael F.type_list_extend HN ho ha (gZ hb _ _) (Dr h (by simp)) hline (aK h'.1 _ _) (aJ (es:=[]) rfl)
end
end
section
open PyProof.Rows
def HQ (lo st:Int) (n:Nat):It:=⟨λi _=>i<n,λi H x H'=>H'=H∧x=.int (lo+(i:Int)*st),λi _=>n≤i⟩
theorem oi (it:Addr) (lo c:Int) (n:Nat):Turn P w K tg (HQ lo c n) [it] it (λi h=>IsRangeIter h it (lo+(i:Nat)*c) ((n:Int) - (i:Nat)) c) where
 mem:=by simp
 obj:=λi h st b hb=>by
  have e:b=it:=by simpa using hb
  subst e;exact ⟨_,st,λv z=>by have z':Data.fields _=Data.cell v:=z;cases z'⟩
 keep:=λi h h' st k=>k it (by simp) _ st
 item:=by intro X hP hw hK hc i pins s σ H E I hf st hg;subst hP hw hK;obtain ⟨f0,f1,f2,f3,f4,f5⟩:=hf it (by simp);have W:=Walks.range (prog:=X.prog) (w:=X.w) (I.ok.hd hc) it lo c n;refine gS I.os.2 <| W.item i s _ _ hg st λv h' tk hv st' kk ht=>?_;obtain ⟨t,rfl⟩:=hv;have I1:Inv X pins σ H {s with heap:=h',toks:=tk}:=I.turned (λb o hb e=>kk b o (by simpa using hb) e) f0 f1 f3 f4 f5;exact ⟨_,rfl,pI (s:={s with heap:=h',toks:=tk}) (n:="range_iterator") st' rfl rfl (by decide) ⟨.int (lo+i*c),H,I1,⟨t,rfl⟩,⟨rfl,rfl⟩,st',λb hb=>(hf b hb).1⟩⟩
 done:=by intro X hP hw hK hc i pins s σ H E I hf st hg;subst hP hw hK;obtain ⟨f0,f1,f2,f3,f4,f5⟩:=hf it (by simp);exact adC (I.ok.hd hc) st (by have:n≤i:=hg;nofun) λh' eb=>⟨rfl,I.turned (t':=s.toks) (λb o hb e=>eb b o hb e) f0 f1 f3 f4 f5⟩
 self:=λ_ _ _ _ _ st h=>acq st h
def mH (lo hi c:Int):Nat:=if lo<hi then ((hi - lo - 1) / c+1).toNat else 0
def oJ (lo c:Int) (n:Nat):View:=λ_ i=>Zg (if i<n then Zg (.int (lo+(i:Int)*c)) else Zl)
def ints3:List D→Option (Int×Int×Int)
 | [.int lo,.int hi,.int c]=>Zg (lo,hi,c)
 | _=>Zl
theorem DT {c:Int} (h:ints3 ds=Zg (lo,hi,c)):ds=[.int lo,.int hi,.int c]:=by
 unfold ints3 at h;split at h
 ·cases h;rfl
 ·cases h
def sD (m:DS→M (List D)):MI:=λτ=>(m τ).bind λds=>match ints3 ds with
 | some (lo,hi,c)=>λG=>if -(2^30)≤lo∧lo<2^30∧-(2^30)≤hi∧hi<2^30∧0<c∧c<2^30 then .ok (mH lo hi c+1,oJ lo c (mH lo hi c)) G else .stuck
 | none=>M.stop
section
variable {X:Cx} {EE:bR} {tg iter a b c:Expr} {pos p pc:Pos} {m:DS→M (List D)}
theorem DU {c:Int}:JV X.K X.mg (HQ lo c n) (oJ lo c n) H ρ:=by
 intro i H' ρ' G' f hp;unfold oJ;by_cases h:i<n
 ·rw [if_pos h];refine ⟨λe=>(by cases e),λd e=>⟨h,λx H2 hy=>?_⟩⟩;cases e;obtain ⟨rfl,rfl⟩:=hy;exact ⟨⟨.refl,λ_ h=>h⟩,by unfold Rep;rfl⟩
 ·rw [if_neg h];exact ⟨λ_=>aeL h,λd e=>(by cases e)⟩
theorem Mz {c:Int} (h1:-(2^30)≤lo) (h2:lo<2^30) (h3:-(2^30)≤hi) (h4:hi<2^30) (h5:0<c) (h6:c<2^30):ad6 lo hi c=Zh:=by
 unfold ad6;have hs:Z7 lo hi c=if lo<hi then (hi - lo - 1) / c+1 else 0:=by unfold Z7;rw [if_pos h5]
 rw [hs];have hd:0≤hi - lo - 1→(hi - lo - 1) / c≤hi - lo - 1:=λh=>Int.ediv_le_self _ h;have hd2:0≤hi - lo - 1→0≤(hi - lo - 1) / c:=λh=>aeY h (by nofun);have hm:(hi - lo - 1) / c*c≤hi - lo - 1:=Int.ediv_mul_le _ (by nofun);simp only [aad,aan,acL,decide_eq_true_eq,beq_iff_eq,show c > 0 from h5,if_true];split<;>nofun
theorem HR (hm:X.mg "range"=Zl) (nY:Gl X "range") (ha:QA X EE [a,b,c] m) (h:ao [a,b,c]=Zh:=by rfl):QI X EE tg (.Call (.Name "range" p) [a,b,c] [] pc) (sD m):=by
 have h':bf a=Zh∧ao [b,c]=Zh:=by simpa [ao] using h
 intro pins s σ H R I hq;obtain ⟨τ,ρ,G,ab,ok⟩:=hq;dsimp only [sD,M.bind] at ok;refine ZK (dX I nY hm boot_range ?_ (by decide) (by decide));have hA:gU X.K X.mg EE m σ H λvs H1=>∃ ρ1 G1 ds,Ab X.K X.mg σ H1 τ ρ1 G1∧bX X.K H H1 ρ ρ1∧aq X.K X.mg ρ1 H1 ds vs∧m τ G=.ok ds G1:=by
  refine ⟨τ,ρ,G,ab,?_⟩;cases e:m τ G with
  | stuck=>rw [e] at ok;exact ok
  | bq c G'=>rw [e] at ok;exact ok
  | ok ds G'=>exact λvs H' ρ' f aV r=>⟨ρ',G',ds,aV,f,r,rfl⟩
 refine ZJ (cO (ha pc pins s σ H _ I hA) λus s1 oE=>?_) (aK h'.1 _ _) (aJ h'.2);obtain ⟨vs,H1,I1,r1,ρ1,G1,ds,fD,f1,rs,em⟩:=oE;rw [em] at ok;dsimp only at ok;cases q:ints3 ds with
 | none=>rw [q] at ok;exact ok.elim
 | some x=>
  obtain ⟨lo,hi,c⟩:=x;rw [q] at ok;dsimp only at ok;have e:=DT q;subst e;by_cases hc:-(2^30)≤lo∧lo<2^30∧-(2^30)≤hi∧hi<2^30∧0<c∧c<2^30
  ·rw [if_pos hc] at ok;obtain ⟨h1,h2,h3,h4,h5,h6⟩:=hc;simp only [aq,Rep] at rs;obtain ⟨v1,w1,rfl,rfl,v2,w2,rfl,rfl,v3,w3,rfl,rfl,rfl⟩:=rs;cases r1 with
   | cons u1 r1=>
   cases r1 with
   | cons u2 r1=>
   cases r1 with
   | cons u3 r1=>
   cases r1;obtain ⟨t1,rfl⟩:=u1;obtain ⟨t2,rfl⟩:=u2;obtain ⟨t3,rfl⟩:=u3;refine call_range_3 (by nofun) ?_ (.inl (adD (by nofun)));refine aeh (s:={s1 with heap:=s1.heap.push {cls:=.type "range",data:=.fields #[.int lo t1,.int hi t2,.int c t3]},toks:=s1.toks}) (aeU ..) (Mz h1 h2 h3 h4 h5 h6) ?_;have I2:Inv X pins σ H1 {s1 with heap:=s1.heap.push {cls:=.type "range",data:=.fields #[.int lo t1,.int hi t2,.int c t3]},toks:=s1.toks}:=I1.kept λb o e=>Zn _ e;refine ⟨_,[_],_,HQ lo c (mH lo hi c),H1,rfl,I2.kept (t':=s1.toks) λb o e=>Zn _ e,oi _ lo c (mH lo hi c),?_,λb hb=>?_,ok _ H1 ρ1 f1 fD DU⟩
   ·have e1:lo+((0:Nat):Int)*c=lo:=by simp
    have e2:((mH lo hi c:Nat):Int) - ((0:Nat):Int)=Z7 lo hi c:=by
     unfold mH Z7;rw [if_pos h5];split
     ·have:0≤(hi - lo - 1) / c:=aeY (by nofun) (by nofun);nofun
     ·simp
    show IsRangeIter _ _ (lo+((0:Nat):Int)*c) (((mH lo hi c:Nat):Int) - ((0:Nat):Int)) c;rw [e1,e2];exact Zv _ rfl
   ·rw [ZI.mp hb];exact I2.lX (Zs _) (I2.hok.fresh (Zs _))
  ·rw [if_neg hc] at ok;exact ok.elim
end
end
def v7:D→Option Key
 | .int i=>Zg (Sum.inl i)
 | .str x=>Zg (Sum.inr x)
 | _=>Zl
def nE {κ:Type} [DecidableEq κ] (kvs:List (κ×D)) (k:κ):Option D:=(kvs.find? λkv=>decide (kv.1=k)).map (·.2)
def qk {κ:Type} [DecidableEq κ] (kvs:List (κ×D)) (k:κ) (v:D):List (κ×D):=
 if (kvs.any λkv=>decide (kv.1=k))=Zh then kvs.map (λkv=>if kv.1=k then (kv.1,v) else kv) else kvs++[(k,v)]
section
variable {K:Zo} {mg:Str→Option Zj} {H:Hp} {ρ:List Addr} {G:DH}
theorem mJ {κ:Type} [DecidableEq κ] (k:κ):∀ {kvs:List (κ×D)} {xs:List V},aq K mg ρ H (kvs.map (·.2)) xs →
  (nE kvs k=Zl∧kW ((kvs.map (·.1)).zip xs) k=Zl)∨∃ d v,nE kvs k=Zg d∧kW ((kvs.map (·.1)).zip xs) k=Zg v∧Rep K mg ρ H d v
 | [],xs,r=>.inl ⟨rfl,rfl⟩
 | p::q,xs,r=>by
  unfold aq at r;obtain ⟨v,r',rfl,h1,h2⟩:=r;by_cases e:p.1=k
  ·exact .inr ⟨p.2,v,by simp [nE,e],by simp [kW,e],h1⟩
  ·have ih:=mJ k h2;have e1:nE (p::q) k=nE q k:=by simp [nE,e]
   have e2:kW (((p::q).map (·.1)).zip (v::r')) k=kW ((q.map (·.1)).zip r') k:=l7 (p:=(p.1,v)) e;rw [e1,e2];exact ih
theorem zK {κ:Type} [DecidableEq κ] (k:κ):∀ {kvs:List (κ×D)} {xs:List V},kvs.length=xs.length→(((kvs.map (·.1)).zip xs).any λkv=>decide (kv.1=k))=(kvs.any λkv=>decide (kv.1=k))
 | [],xs,h=>by simp
 | p::q,[],h=>by simp at h
 | p::q,x::xs,h=>by have:=zK k (kvs:=q) (xs:=xs) (by simpa using h);simp [this]
theorem v8 {κ:Type} [DecidableEq κ] (k:κ) {d:D} {v:V} (rv:Rep K mg ρ H d v):∀ {kvs:List (κ×D)} {xs:List V},aq K mg ρ H (kvs.map (·.2)) xs →
  ∃ ys,(((kvs.map (·.1)).zip xs).map λkv=>if kv.1=k then (kv.1,v) else kv)=((kvs.map λkv=>if kv.1=k then (kv.1,d) else kv).map (·.1)).zip ys∧aq K mg ρ H ((kvs.map λkv=>if kv.1=k then (kv.1,d) else kv).map (·.2)) ys
 | [],xs,r=>⟨[],by simp,by simpa using aq.nil⟩
 | p::q,xs,r=>by
  unfold aq at r;obtain ⟨x,r',rfl,h1,h2⟩:=r;obtain ⟨ys,e,rs⟩:=v8 k rv h2;by_cases hk:p.1=k
  ·refine ⟨v::ys,?_,?_⟩
   ·simp only [Zy,aaW,if_pos hk,e]
   ·simp only [Zy,if_pos hk];exact .cons rv rs
  ·refine ⟨x::ys,?_,?_⟩
   ·simp only [Zy,aaW,if_neg hk,e]
   ·simp only [Zy,if_neg hk];exact .cons h1 rs
theorem v9 {α β:Type}:∀ {a:List α} {b:List β} (x:α) (y:β),a.length=b.length→(a++[x]).zip (b++[y])=a.zip b++[(x,y)]
 | [],[],x,y,_=>rfl
 | [],_::_,_,_,h=>by simp at h
 | _::_,[],_,_,h=>by simp at h
 | p::a,q::b,x,y,h=>by simp [v9 (a:=a) (b:=b) x y (by simpa using h)]
theorem wc [DecidableEq κ] (k:κ) {d:D} {v:V} (rv:Rep K mg ρ H d v) {kvs:List (κ×D)} {xs:List V} (r:aq K mg ρ H (kvs.map (·.2)) xs) :
  ∃ ys,putK ((kvs.map (·.1)).zip xs) k v=((qk kvs k d).map (·.1)).zip ys∧aq K mg ρ H ((qk kvs k d).map (·.2)) ys:=by
 have hl:kvs.length=xs.length:=by simpa using r.length
 unfold putK qk;rw [zK k hl];by_cases e:(kvs.any λkv=>decide (kv.1=k))=Zh
 ·rw [if_pos e,if_pos e];exact v8 k rv r
 ·rw [if_neg e,if_neg e];refine ⟨xs++[v],?_,?_⟩
  ·rw [aaL,Zy,ZU,v9 _ _ (by simpa using hl)]
  ·rw [aaL];exact r.append (.cons rv .nil)
theorem eN.dct (h:eN K mg H ρ G) (e:G[n]?=Zg (.dct kvs)):∃ a xs,ρ[n]?=Zg a∧H a=Zg (.dK ((kvs.map (·.1)).zip xs))∧aq K mg ρ H (kvs.map (·.2)) xs:=by obtain ⟨a,e1,xs,e2,r⟩:=h.ob n _ e;exact ⟨a,xs,e1,e2,r⟩
theorem we {u w:List (Key×V)} (hp:H p=Zg (.dK u)) (ρ:List Addr):bX K H (upd H p (.dK w)) ρ ρ:=by
 refine ⟨λa zs h=>?_,λa q u h=>by rw [aA (fB h hp (by intro z;cases z))];exact h,⟨[],by simp⟩,λa φ h=>by rw [aA (fB h hp (by intro z;cases z))];exact h⟩
 ·rw [pQ] at h ⊢;rw [aA (fB h hp (by intro z;cases z))];exact h
theorem eN.Py (h:eN K mg H ρ G) (hp:H p=Zl):eN K mg (upd H p (.dK [])) (ρ++[p]) (G++[.dct []]):=by
 have f:bX K H (upd H p (.dK [])) ρ (ρ++[p]):=(cH hp ρ).trans (dN ρ p);refine ⟨by simp [h.hl],?_,λn ob e=>?_⟩
 ·rw [abB];refine ⟨h.nd,by simp,λa ha b hb=>?_⟩;have e:b=p:=by simpa using hb
  subst e;rintro rfl;exact h.not_mem hp ha
 ·by_cases hn:n<G.length
  ·rw [ZC hn] at e;obtain ⟨a,e1,r'⟩:=h.ob n ob e;exact ⟨a,f.get e1,r'.mono f λu q=>by rw [aA (bW q hp)];exact q⟩
  ·have hl:n<(G++[DO.dct []]).length:=(Zp.mp e).1;have hn':n=G.length:=by simp at hl;nofun
   subst hn';rw [aB] at e;cases e;exact ⟨p,by rw [← h.hl,aB],[],aN,.nil⟩
theorem eN.putD {es:List (Key×D)} {u:List (Key×V)} (h:eN K mg H ρ G) (hn:ρ[n]?=Zg a) (ha:H a=Zg (.dK u)) (r:aq K mg ρ H (es.map (·.2)) ys) :
  eN K mg (upd H a (.dK ((es.map (·.1)).zip ys))) ρ (G.set n (.dct es)):=by
 have f:bX K H (upd H a (.dK ((es.map (·.1)).zip ys))) ρ ρ:=we ha ρ;refine ⟨by simp [h.hl],h.nd,λm ob e=>?_⟩;by_cases hm:n=m
 ·subst hm;rw [aap,if_pos rfl] at e;split at e
  ·cases e;exact ⟨a,hn,ys,aN,r.mono f⟩
  ·cases e
 ·rw [ZZ hm] at e;obtain ⟨b,e1,r'⟩:=h.ob m ob e;have hb:b≠a:=by rintro rfl;obtain ⟨h1,xF⟩:=Zp.mp hn;obtain ⟨h2,tZ⟩:=Zp.mp e1;exact hm ((aaO h.nd).mp (xF.trans tZ.symm))
  exact ⟨b,e1,r'.mono f λu q=>by rw [aA hb];exact q⟩
theorem zL {k:Key} (r:Rep K mg ρ H d v) (e:v7 d=Zg k):v=kV k:=by
 cases d<;>simp [v7] at e
 ·subst e;unfold Rep at r;exact r
 ·subst e;unfold Rep at r;exact r
end
section
variable {X:Cx} {EE:bR} {e f o i a:Expr} {pos apos cpos tpos:Pos} {mo me mf mv mi:DS→M D}
def Pz:DS→M D:=λ_ G=>.ok (.obj G.length) (G++[.dct []])
def JO (G:DH):D→Bool
 | .obj n=>match G[n]? with
  | some (.dct _)=>Zh
  | _=>Zk
 | _=>Zk
def JP (d k x:D):M D:=λG=>match d,v7 k with
 | .obj n,Zg y=>match G[n]? with
  | some (.dct kvs)=>.ok ((nE kvs y).getD x) G
  | _=>.stuck
 | _,_=>.stuck
def DV (mo me mf:DS→M D):DS→M D:=λτ=>(mo τ).bind λd G=>if JO G d=Zh then ((me τ).bind λk=>(mf τ).bind λx=>JP d k x) G else .stuck
end
section
open PyProof.Rows
theorem wg {prog:ZT} {w:aaa} {E:Zj→Zq→Prop} {Q:List Zj→Zq→Prop} (hh:A.handled=Zl) (hit:s.heap.IsRevIter it l ((items.size:Int) - 1)) (hl:s.heap.IsList l items) (hne:l≠it) (hz:items.size≤Zm)
  (hQ:∀ s' acc,(∀ b o,b≠it→s.heap.get? b=Zg o→s'.heap.get? b=Zg o)→s'.gens=s.gens→s'.drawn=s.drawn→s'.os=s.os→ItemsOf (λi v=>items[items.size - 1 - i]?=Zg v) acc items.size→Q acc.toList s') :
  ZD (model prog w) A (collect (.ref it)) Q E s:=by
 have SI:l<s.heap.objs.size:=by obtain ⟨o,e,_⟩:=hl;exact Zu e
 have Wq:it<s.heap.objs.size:=by obtain ⟨o,e,_⟩:=hit;exact Zu e
 unfold collect;refine Zi (wpAny_runValue (codeAny_builtin F.entry_proto_collect ?_));rw [aa5 F.plain_proto_collect _];show ZD _ A.in1 (newList [] >>= λl=>again (.builtin "list.__iadd__" ⟨[l,.ref it],[]⟩)) _ _ s;refine Zi (Z3 ?_);refine Zz ⟨plainId_quiet aeB _,codeAny_builtin F.entry_list_iadd ?_⟩;rw [aa5 aeB _];show ZD _ A.in1 (abX (.ref s.heap.objs.size) (.ref it) (.ref s.heap.objs.size)) _ _ _;have up:∀ b o,s.heap.get? b=Zg o→(s.heap.push {cls:=.type "list",data:=.seq ([]:List Zj).toArray}).get? b=Zg o:=λb o e=>Zn _ e
 have fin':∀ (s':Zq) (acc':Array Zj) (c':Nat),Moved [s.heap.objs.size,it] (λa b=>b=a) {s with heap:=s.heap.push {cls:=.type "list",data:=.seq ([]:List Zj).toArray}} s'→s'.heap.get? s.heap.objs.size=Zg {cls:=.type "list",data:=.seq acc' c'} →
   ItemsOf (λi v=>items[items.size - 1 - i]?=Zg v) acc' items.size→ZD (model prog w) A (match Value.ref s.heap.objs.size with
   | Value.ref a=>do
    match (← load a).data with
     | Data.seq xs _=>pure xs.toList
     | _=>unsupported "internal:collect"
   | _=>unsupported "internal:collect") Q E s':=λs' acc' c' hm hS' hacc=>by
  show ZD _ A (load s.heap.objs.size >>= _) _ _ s';refine Zi (ach hS' ?_);refine Zz (hQ s' acc' (λb o hb e=>hm.heap b o ?_ (up b o e)) hm.gens hm.drawn hm.os hacc);simp [hb,ZE (Zu e)]
 refine Z8 (p8 (A:=A) (R:=λr s'=>r=.ok (.ret (.ref s.heap.objs.size))∧∃ acc' c',Moved [s.heap.objs.size,it] (λa b=>b=a) {s with heap:=s.heap.push {cls:=.type "list",data:=.seq ([]:List Zj).toArray}} s'∧s'.heap.get? s.heap.objs.size=Zg {cls:=.type "list",data:=.seq acc' c'} ∧
   ItemsOf (λi v=>items[items.size - 1 - i]?=Zg v) acc' items.size) (l:=l) (items:=items) (show A.handled=Zl from hh) ?_ ?_ hne hz s.heap.objs.size (.ref s.heap.objs.size) 0 ?_ (acV SI) ?_) (λfin s' h=>?_) (λe s' h=>?_)
 ·obtain ⟨o,e,r⟩:=hit;exact ⟨o,up _ _ e,r⟩
 ·obtain ⟨o,e,r⟩:=hl;exact ⟨o,up _ _ e,r⟩
 ·exact Zv _ rfl
 ·intro s' acc' c' hm hS' hacc;exact ⟨rfl,acc',c',hm,hS',hacc⟩
 ·cases fin with
  | done f=>obtain ⟨e,acc',c',h1,h2,h3⟩:=h;cases e;exact fin' s' acc' c' h1 h2 h3
  | again c'=>exact ⟨h.1,codeAny_mono h.2 λr s'' hr=>by obtain ⟨rfl,acc',c',h1,h2,h3⟩:=hr;exact fin' s'' acc' c' h1 h2 h3⟩
 ·exact absurd h.1 (by simp)
theorem oK (it l:Addr) (items:Array Zj) (hne:l≠it) (hz:items.size≤Zm) :
  Meets (abR.«tuple.__new__» ⟨[.type "tuple",.ref it],[]⟩)
   (λA R s=>A.handled=Zl∧s.heap.IsRevIter it l ((items.size:Int) - 1)∧s.heap.IsList l items∧∀ (s':Zq) (acc:Array Zj),(∀ b o,b≠it→s.heap.get? b=Zg o→s'.heap.get? b=Zg o)→s'.gens=s.gens→s'.drawn=s.drawn→s'.os=s.os→ItemsOf (λi v=>items[items.size - 1 - i]?=Zg v) acc items.size →
    R (.ok (.ret (.ref s'.heap.objs.size))) {s' with heap:=s'.heap.push {cls:=.type "tuple",data:=.seq acc}}):=
 .of_wp λprog w A R s h=>by
  obtain ⟨hh,hit,hl,h⟩:=h;have hsub:=sub_tuple_self;have UX:=init_tuple_lookup;have Yw:=madeHere_tuple;have hT:s.TypeIs (.ref it) "list_reverseiterator":=by obtain ⟨o,e,c,_⟩:=hit;exact ⟨o,e,c⟩
  have WH:A.in1.handled=Zl:=hh
  wp_walk using aew hT,wg WH hit hl hne hz
  intro s' acc hk hg hd hos hacc;show ZD _ _ (aaG acc.toList.toArray >>= λv=>ret v) _ _ _;unfold aaG;refine Zi (Z3 ?_ (show acc.toList.toArray.size≤Zm by simp only [Array.toArray_toList];rw [hacc.1];exact hz));refine Zz ⟨_,rfl,?_⟩;have e:acc.toList.toArray=acc:=by simp
  rw [e];exact h s' acc hk hg hd hos hacc
theorem qp {prog:ZT} {w:aaa} {E:Zj→Zq→Prop} (hh:A.handled=Zl) (hit:s.heap.IsRevIter it l ((items.size:Int) - 1)) (hl:s.heap.IsList l items) (hne:l≠it) (hz:items.size≤Zm)
  (hQ:∀ (h':Heap) (tk:Nat) (acc:Array Zj),(∀ b o,b≠it→s.heap.get? b=Zg o→h'.get? b=Zg o)→ItemsOf (λi v=>items[items.size - 1 - i]?=Zg v) acc items.size→Q (.ref h'.objs.size) {s with heap:=h'.push {cls:=.type "tuple",data:=.seq acc},toks:=tk}) :
  ZD (model prog w) A (call (.type "tuple") [.ref it]) Q E s:=by
 refine callType_new F.called_tuple (by decide) (F.typeCall_tuple_1 _) (F.newCall_tuple_1 _) (λobj=>ab3 obj _) F.entry_tuple_new
  (oK it l items hne hz) ⟨hh,hit,hl,λs' acc hk hg hd hos hacc=>⟨⟨_,Zv _ rfl,rfl⟩,?_⟩⟩
 obtain ⟨h',g',d',tk',os'⟩:=s';have e1:g'=s.gens:=hg;have e2:d'=s.drawn:=hd;have e3:os'=s.os:=hos;subst e1 e2 e3;exact hQ h' tk' acc hk hacc
def wj:List D→M D
 | [d]=>λG=>match aF G d with
  | some (.lst xs)=>bK xs.reverse G
  | _=>.stuck
 | _=>M.stop
section
variable {X:Cx} {EE:bR} {e:Expr} {m:DS→M (List D)} {p p2 pos pos2:Pos}
theorem wk (hc:X.calm=Zh) (hm1:X.mg "tuple"=Zl) (SJ:Gl X "tuple") (hm2:X.mg "reversed"=Zl) (SK:Gl X "reversed") (ha:QA X EE [e] m) (h:ao [e]=Zh:=by rfl) :
  QE X EE (.Call (.Name "tuple" p) [.Call (.Name "reversed" p2) [e] [] pos2] [] pos) (ai wj m):=by
 have h':bf e=Zh∧ao []=Zh:=by simpa [ao] using h
 intro pins s σ H Q I hq;have hq':=jx (k:=λ_ ds=>wj ds) hq;refine ZK (dX I SJ hm1 boot_tuple ?_ (by decide) (by decide));refine ZJ ?_ (aK rfl _ _) (aJ (es:=[]) rfl);rw [aK (e:=.Call (.Name "reversed" p2) [e] [] pos2) rfl];show ZD _ _ (spliced ((Zk,eval _ X.env)::backTo pos (ZF [] X.env))) _ _ s;refine aaz ?_;refine ZK (dX I SK hm2 jh ?_ (by decide) (by decide));refine ZJ (cO (ha pos2 pins s σ H _ I hq') λus s1 oE=>?_) (aK h'.1 _ _) (aJ (es:=[]) rfl);obtain ⟨vs,H1,I1,r1,τ,ρ,G,ds,ab,rs,ok⟩:=oE
 match ds,ok with
 | [],ok=>exact ok.elim
 | _::_::_,ok=>exact ok.elim
 | [d],ok=>
  obtain ⟨x,rfl,rx⟩:=fQ rs;obtain ⟨u,rfl,ru⟩:=vals1 r1;dsimp only [wj] at ok;cases q:aF G d with
  | none=>rw [q] at ok;exact ok.elim
  | some sk=>
   rw [q] at ok;cases sk with
   | tup zs=>exact ok.elim
   | str z=>exact ok.elim
   | lst zs=>
    dsimp only at ok;obtain ⟨l,ys,rfl,sq,rv⟩:=bE (pins:=pins) (σ0:=σ) (s:=s1) ab.hp rx q;cases ru;obtain ⟨its,vv,pl,hz⟩:=I1.list sq;have hlen:=vv.length;have hl:=pl.isList;have hlt:l<s1.heap.objs.size:=by obtain ⟨_,e,_⟩:=hl;exact Zu e
    refine call_reversed_list hl ?_;refine aa6 ?_;refine gS I1.os.2 <| qp (l:=l) (items:=its.toArray) (show X.A.handled=Zl from I.ok.hd hc) ⟨_,Zv _ rfl,rfl,rfl⟩ (hl.push _) (ZE hlt) (by simp;nofun) λh' tk acc' kp hacc=>λht=>?_;have ea:=sj hacc;subst ea;obtain ⟨hlr,hn⟩:=pT ab rv.rev ok;have I2:Inv X pins σ H1 {s1 with heap:=h',toks:=tk}:=I1.kept (t':=tk) (λb o e=>kp b o (ZE (Zu e)) (Zn _ e))
    have I3:Inv X pins σ (upd H1 h'.objs.size (.tup ys.reverse)) {s1 with heap:=h'.push {cls:=.type "tuple",data:=.seq its.reverse.toArray},toks:=tk}:=
     I2.laid (t':=tk) (λb o e=>Zn _ e) (Zs _) (show eF X.prog X.w _ _ _ (.tup ys.reverse) from ⟨hlr,its.reverse,Vals.rev vv,aeK _ _⟩)
    exact ⟨.ref h'.objs.size,_,I3,rfl,hn _ (I2.hok.fresh (Zs _))⟩
end
end
section
variable {prog:ZT} {w:aaa} {A:Around} {E:Zj→Zq→Prop} {s:Zq}
theorem oM {t:Addr} {x:Zj} (hit:s.heap.IsTupleIter it t i)
  (ht:s.heap.IsTuple t items) (hx:items[i]?=Zg x)
  (hQ:∀ h',h'.IsTupleIter it t (i+1)→abc it s.heap h'→Q x {s with heap:=h'}) :
  ZD (model prog w) A (aaf (.ref it)) Q E s:=by
 obtain ⟨o,ho,hc,hd⟩:=id hit;obtain ⟨ol,JF,_,nl,hdl⟩:=ht;unfold aaf
 refine Zi (aay (name:=aby "__next__") hit.typeIs abm
  (aaV abm hit.typeIs acY ?_ (acN _)))
 show ZD _ _ (field (.ref it) 0 >>= _) _ _ s;refine Zi (Z9 ho hd (x:=.ref t) rfl ?_);show ZD _ _ (if (Value.ref t==Value.none)=Zh then _ else _) _ _ s;rw [if_neg (show ¬ ((Value.ref t==Value.none)=Zh) from ZX)];show ZD _ _ (field (.ref it) 1 >>= _) _ _ s;refine Zi (Z9 ho hd (x:=.int i 0) rfl ?_);show ZD _ _ (seqItems? (.ref t) >>= _) _ _ s;refine Zi (abM JF hdl ?_);simp only [aaD,hx];refine Zi (abl ho hd (by simp) (Zz ⟨x,rfl,Zz (hQ _ ?_ (abb ..))⟩));exact ⟨_,Z1 _ ho (abo (aar hd _)),(ade ..).trans hc,by
  rw [aar hd];simp [rawInt]⟩
theorem qu {t:Addr} {Q:Zj→Zq→Prop} (hh:A.handled=Zl)
  (hit:s.heap.IsTupleIter it t i) (ht:s.heap.IsTuple t items) (hx:items[i]?=Zl)
  (hE:∀ h' e,adX it s.heap h'→(∃ o,h'.get? e=Zg o∧o.cls=.type "StopIteration")→E (.ref e) {s with heap:=h'}) :
  ZD (model prog w) A (aaf (.ref it)) Q E s:=by
 obtain ⟨o,ho,hc,hd⟩:=id hit;obtain ⟨ol,JF,_,nl,hdl⟩:=ht;unfold aaf
 refine Zi (aay (name:=aby "__next__") hit.typeIs abm
  (aaV abm hit.typeIs acY ?_ (acN _)))
 show ZD _ _ (field (.ref it) 0 >>= _) _ _ s;refine Zi (Z9 ho hd (x:=.ref t) rfl ?_);show ZD _ _ (if (Value.ref t==Value.none)=Zh then _ else _) _ _ s;rw [if_neg (show ¬ ((Value.ref t==Value.none)=Zh) from ZX)];show ZD _ _ (field (.ref it) 1 >>= _) _ _ s;refine Zi (Z9 ho hd (x:=.int i 0) rfl ?_);show ZD _ _ (seqItems? (.ref t) >>= _) _ _ s;refine Zi (abM JF hdl ?_);simp only [aaD,hx];refine Zi (acF (Zi (abl ho hd (by simp) ?_)));show ZD _ _ (newExc (.type "StopIteration") [] >>= _) _ _ _;refine Zi ?_;simp only [newExc,newTuple];refine Zi (Z3 ?_ (by size_fits));refine Zi (m:=firstArgMember _ _) (aaP (a:=Value.none) (by first | rfl | (simp only [firstArgMember];rfl)) ?_);refine Z3 ?_ (by size_fits);simp only [raiseNew];refine Zi (ad8 ?_)
 first | rw [show A.in1.handled=Zl from hh] | rw [hh]
 refine Zi (Zz (adY ?_));exact hE _ _ (((abb ..).extBut.push _).push _) ⟨_,Zv _ rfl,rfl⟩
end
theorem sE (hh:A.handled=Zl) (it l:Addr) (hne:l≠it) (items:Array Zj) :
  Draws prog w A it [it,l] items.size (λi v=>items[i]?=Zg v) (λi h=>h.IsTupleIter it l i∧h.IsTuple l items) where
 live:=λ_ _ st=>let ⟨o,ho,_⟩:=st.1;⟨o,ho⟩
 frame:=λ_ _ _ st hk=>⟨st.1.at λo e=>hk it (by simp) o e,st.2.at λo e=>hk l (by simp) o e⟩
 item:=λi s Q E hi st hQ=>by refine oM st.1 st.2 (x:=items[i]) (by simp [hi]) λh' HS hs'=>?_;exact hQ _ h' s.toks (by simp [hi]) ⟨HS,st.2.extBut hs'.extBut hne⟩ hs'
 done:=λs Q E st hE=>qu hh st.1 st.2 (by simp) hE
theorem wm (l:Addr) (items:Array Zj) (n:Nat) (dct:Option Addr) (sl:Array (Option Zj)) :
  Meets (abR.«enumerate.__new__» ⟨[.type "enumerate",.ref l],[]⟩) (λ_ R s=>s.heap.get? l=Zg {cls:=.type "tuple",dict:=dct,data:=.seq items n,slots:=sl} ∧
   R (.ok (.ret (.ref (s.heap.push {cls:=.type "tuple_iterator",data:=.fields #[.ref l,.int 0 0]}).objs.size)))
    {s with heap:=(s.heap.push {cls:=.type "tuple_iterator",data:=.fields #[.ref l,.int 0 0]}).push {cls:=.type "enumerate",data:=.fields #[.none,.bool Zk,.ref s.heap.objs.size,rawInt 0,.none,.none]}}):=
 .of_wp λprog w A R s h=>by
  obtain ⟨hp,g,d,tk,os⟩:=s;obtain ⟨hl,h⟩:=h;have hsub:=sub_enumerate;have hL:Heap.IsTuple (Shared.heap ⟨hp,g,d,tk,os⟩) l items:=⟨_,hl,rfl,n,rfl⟩
  wp_walk using aah hl
  refine aeZ λst=>Zz ?_;split
  ·rename_i c _ _ _ _ _;cases (c==Value.type "enumerate")
   ·wp_walk using aah hl,aci hL
    exact ⟨_,rfl,h⟩
   ·wp_walk using aah hl,aci hL
    exact ⟨_,rfl,h⟩
  ·wp_walk using aah hl,aci hL
   exact ⟨_,rfl,h⟩
theorem rm {prog:ZT} {w:aaa} {A:Around} {E:Zj→Zq→Prop} (hL:s.heap.IsTuple l items)
  (h:∀ h',IsEnum h' (s.heap.objs.size+1) s.heap.objs.size 0 .none→h'.IsTupleIter s.heap.objs.size l 0→h'.objs.size=s.heap.objs.size+2 →
   (∀ b o,s.heap.get? b=Zg o→h'.get? b=Zg o)→Q (.ref (s.heap.objs.size+1)) {s with heap:=h'}) :
  ZD (model prog w) A (call (.type "enumerate") [.ref l]) Q E s:=by
 obtain ⟨⟨c,dct,dt,sl⟩,hl,hc,n,hd⟩:=hL
 replace hc:c=.type "tuple":=hc
 replace hd:dt=.seq items n:=hd
 subst hc hd
 refine callType_new aem (by decide) (adG _) (adS _) (λobj=>ab3 obj _) adT
  (wm l items n dct sl) ⟨hl,?_⟩
 have hz:(s.heap.push {cls:=.type "tuple_iterator",data:=.fields #[.ref l,.int 0 0]}).objs.size=s.heap.objs.size+1:=aaF ..;show _∧_;rw [hz]
 have he:IsEnum ((s.heap.push {cls:=.type "tuple_iterator",data:=.fields #[.ref l,.int 0 0]}).push
   {cls:=.type "enumerate",data:=.fields #[.none,.bool Zk,.ref s.heap.objs.size,rawInt 0,.none,.none]}) (s.heap.objs.size+1) s.heap.objs.size 0 .none:=by
  have:=Zv (s.heap.push {cls:=.type "tuple_iterator",data:=.fields #[.ref l,.int 0 0]})
   (o:={cls:=.type "enumerate",data:=.fields #[.none,.bool Zk,.ref s.heap.objs.size,rawInt 0,.none,.none]}) rfl
  rw [hz] at this;exact this
 refine ⟨⟨_,he,rfl⟩,h _ he ⟨_,Zn _ (Zv _ rfl),rfl,rfl⟩ (by rw [aaF,hz]) λb o x=>Zn _ (Zn _ x)⟩
def MA (K:Zo) (a:Addr):It:=
 ⟨λi H=>∃ xs x,lq K H a xs∧xs[i]?=Zg x,λi H y H'=>∃ x p,(∀ xs,lq K H a xs→xs[i]?=Zg x)∧H p=Zl∧y=.ref p∧H'=upd H p (.tup [.int i,x]),λi H=>∃ xs,lq K H a xs∧xs.length=i⟩
theorem yx {k:Nat} {pt:Pos} (l e it:Addr) (hne:e≠it) (hle:l≠e) (hli:l≠it):Turn P w K (.Tuple es k pt) (MA K l) [e,it] e (λi h=>∃ old,IsEnum h e it i old∧h.IsTupleIter it l i) where
 mem:=by simp
 obj:=λi h zz b hb=>by
  obtain ⟨old,st1,st2⟩:=zz;rcases ZM.mp hb with rfl | hb
  ·exact ⟨_,st1,λv z=>by cases z⟩
  ·have e:b=it:=by simpa using hb
   subst e;obtain ⟨o,e,c,d⟩:=st2;exact ⟨o,e,λv z=>by rw [d] at z;cases z⟩
 keep:=λi h h' zz kp=>by obtain ⟨old,st1,st2⟩:=zz;exact ⟨old,kp e (by simp) _ st1,st2.at λo q=>kp it (by simp) o q⟩
 item:=by
  intro X hP hw hK hc i pins s σ H E I hf zu hg;obtain ⟨old,st1,st2⟩:=zu;subst hP hw hK;obtain ⟨xs,x,hq,hx⟩:=hg;obtain ⟨its,rv,p,hz⟩:=I.tuple hq;obtain ⟨u,hu,ru⟩:=rv.get hx;have Pd:e<s.heap.objs.size:=Zu st1;have DJ:it<s.heap.objs.size:=by obtain ⟨o,q,_⟩:=st2;exact Zu q
  have hlen:i<its.length:=(Zp.mp hu).1;refine ads (sE (show X.A.in1.handled=Zl from I.ok.hd hc) it l hli its.toArray) st1 ⟨st2,p⟩ (by simpa using hlen) hne (by simp [hne,aat hle]) λx' h' tk hx' hO hst htup hsz kp=>?_;have SW:x'=u:=by have e:its.toArray[i]?=Zg x':=hx';rw [abV,hu] at e;exact (ZS e).symm
  subst SW;have hL:=hst.1;refine ⟨.ref s.heap.objs.size,rfl,?_⟩
  have I1:Inv X pins σ (upd H s.heap.objs.size (.tup [.int i,x])) {s with heap:=s.heap.push {cls:=.type "tuple",data:=.seq #[.int i tk,x']}}:=
   I.laid (t':=s.toks) (λb o q=>Zn _ q) (Zs _) ⟨by simp [sizeLine_eq],[.int i tk,x'],.cons ⟨_,rfl⟩ (.cons ru .nil),acv _ _⟩
  have hfree:=I.hok.fresh (Zs s.heap.objs.size);have hf1:∀ b∈[e,it],ly X pins (upd H s.heap.objs.size (.tup [.int i,x])) b:=λb hb=>by
   have hlt:b≠s.heap.objs.size:=by
    rcases ZM.mp hb with rfl | hb
    ·exact ZE Pd
    ·rw [ZI.mp hb];exact ZE DJ
   exact ⟨by rw [aA hlt];exact (hf b hb).1,(hf b hb).2⟩
  unfold letOwnedTupleGo;refine Zi (ach hO ?_);dsimp only;rw [if_pos (by simp)];refine Zi (acF ?_);unfold updateField;refine Zi (ach hO ?_);dsimp only;rw [if_pos (by simp)];refine aeA hO ?_;have qZ:∀ b,b≠e→(h'.update e (aaH λx=>x.setIfInBounds 0 Value.none)).get? b=h'.get? b:=λb hb=>ZR _ _ (aat hb);refine ⟨.ref s.heap.objs.size,_,ua (t':=tk+1) (s:={s with heap:=s.heap.push {cls:=.type "tuple",data:=.seq #[.int i tk,x']}}) (ch:=[e,it]) I1 (λb o hb q=>?_) hf1,rfl,⟨x,s.heap.objs.size,λys hy=>by rw [I.mZ hy hq];exact hx,hfree,rfl,rfl⟩,⟨x',?_,?_⟩,λb hb=>(hf1 b hb).1⟩
  ·have hb1:b≠e:=λz=>hb (by simp [z]);have hb2:b≠it:=λz=>hb (by simp [z]);show (h'.update e _).get? b=Zg o;rw [qZ b hb1];by_cases DK:b=s.heap.objs.size
   ·subst DK;have:=Zv (o:={cls:=.type "tuple",data:=.seq #[.int (i:Int) tk,x']}) s.heap rfl;rw [this] at q;cases q;exact htup
   ·have q':(s.heap.push {cls:=.type "tuple",data:=.seq #[.int (i:Int) tk,x']}).get? b=Zg o:=q;refine kp b o hb1 hb2 ?_
    rwa [adb _ _ _ DK] at q'
  ·show (h'.update e _).get? e=_;rw [Z1 _ hO rfl];rfl
  ·exact hL.at λo q=>(qZ it (aat hne)).trans q
 done:=by
  intro X hP hw hK hc i pins s σ H E I hf zu hg;obtain ⟨old,st1,st2⟩:=zu;subst hP hw hK;obtain ⟨xs,hq,hx⟩:=hg;obtain ⟨its,rv,p,hz⟩:=I.tuple hq;obtain ⟨f0,f1,f2,f3,f4,f5⟩:=hf it (by simp);have hl:=rv.length;have hi:i=its.toArray.size:=by simp;nofun
  subst hi;exact adH (sE (show X.A.in1.handled=Zl from I.ok.hd hc) it l hli its.toArray) st1 ⟨st2,p⟩ λh' eb=>⟨rfl,I.turned (t':=s.toks) (λb o hb e=>eb b o hb e) f0 f1 f3 f4 f5⟩
 self:=λ_ _ _ _ _ zz h=>by obtain ⟨old,st1,_⟩:=zz;exact abC st1 h
def kj (xs:List D):View:=λ_ i=>if i≤xs.length then Zg (xs[i]?.map λx=>.tup [.int i,x]) else Zl
def dH (m:DS→M (List D)):MI:=λτ=>(m τ).bind λds=>match ds with
 | [d]=>λG=>match aF G d with
  | some (.lst xs)=>.ok (xs.length+1,iE d) G
  | some (.tup xs)=>.ok (xs.length+1,kj xs) G
  | _=>.stuck
 | _=>M.stop
theorem DW (SX:pQ H0 l oh) (A6:aq K mg ρ0 H0 zs oh):JV K mg (MA K l) (kj zs) H0 ρ0:=by
 intro i H ρ G f hp;have sq:=pQ.t (K:=K) (f.tup _ _ SX);have rs:=A6.mono f;unfold kj;constructor
 ·intro e;by_cases hi:i≤zs.length
  ·rw [if_pos hi] at e;cases qi:zs[i]? with
   | some z=>rw [qi] at e;cases e
   | none=>have:=aaq.mp qi;exact ⟨oh,sq,by rw [← rs.length];nofun⟩
  ·rw [if_neg hi] at e;cases e
 ·intro dd e;by_cases hi:i≤zs.length
  ·rw [if_pos hi] at e;cases qi:zs[i]? with
   | none=>rw [qi] at e;cases e
   | some z=>rw [qi] at e;cases e;obtain ⟨v,ev,rv⟩:=rs.get qi;refine ⟨⟨oh,v,sq,ev⟩,λy H' hy=>?_⟩;obtain ⟨v',p,ev',hp0,rfl,rfl⟩:=hy;have ev':=ev' oh sq;rw [ev] at ev';cases ev';refine ⟨t9.new hp0,?_⟩;unfold Rep;refine ⟨p,[.int i,v],rfl,.of aN,.cons (by unfold Rep;rfl) (.cons (Rep.mono (cH hp0 ρ) _ _ rv) .nil)⟩
  ·rw [if_neg hi] at e;cases e
section
variable {X:Cx} {EE:bR} {a:Expr} {p pc:Pos} {m:DS→M (List D)}
theorem DX {k:Nat} {pt:Pos} (hm:X.mg "enumerate"=Zl) (nY:Gl X "enumerate") (ha:QA X EE [a] m) (h:ao [a]=Zh:=by rfl):QI X EE (.Tuple es k pt) (.Call (.Name "enumerate" p) [a] [] pc) (dH m):=by
 have h':bf a=Zh∧ao []=Zh:=by simpa [ao] using h
 intro pins s σ H R I hq;obtain ⟨τ,ρ,G,ab,ok⟩:=hq;by_cases hT:∃ d G1 zs,m τ G=.ok [d] G1∧aF G1 d=Zg (.tup zs)
 ·obtain ⟨d,G1,zs,em,q⟩:=hT;dsimp only [dH,M.bind] at ok;rw [em] at ok;dsimp only at ok;rw [q] at ok;dsimp only at ok;refine ZK (dX I nY hm nA ?_ (by decide) (by decide));have hA:gU X.K X.mg EE m σ H λvs H1=>∃ ρ1,Ab X.K X.mg σ H1 τ ρ1 G1∧bX X.K H H1 ρ ρ1∧aq X.K X.mg ρ1 H1 [d] vs:=by refine ⟨τ,ρ,G,ab,?_⟩;rw [em];exact λvs H' ρ' f aV r=>⟨ρ',aV,f,r⟩
  refine ZJ (cO (ha pc pins s σ H _ I hA) λus s1 oE=>?_) (aK h'.1 _ _) (aJ (es:=[]) rfl);obtain ⟨vs,H1,I1,r1,ρ1,fD,f1,rs⟩:=oE;obtain ⟨x,rfl,rx⟩:=fQ rs;obtain ⟨u,rfl,ru⟩:=vals1 r1;obtain ⟨l,ys,rfl,sq,rv⟩:=lF rx q;cases ru;obtain ⟨its,vv,pl,hz⟩:=I1.tuple sq.t;have hlt:l<s1.heap.objs.size:=by obtain ⟨_,e,_⟩:=pl;exact Zu e
  refine rm pl λh2 hE hL hsz kp=>?_;refine abC hE ?_;have I2:Inv X pins σ H1 {s1 with heap:=h2}:=I1.kept (t':=s1.toks) kp;refine ⟨s1.heap.objs.size+1,[s1.heap.objs.size+1,s1.heap.objs.size],_,MA X.K l,H1,rfl,I2,yx l _ _ (adq _) (ZE (aa7 hlt)) (ZE hlt),⟨_,hE,hL⟩,λb hb=>?_,ok _ H1 ρ1 f1 fD (DW sq rv)⟩;rcases ZM.mp hb with rfl | hb
  ·exact I1.lX (acj _) (I1.hok.fresh (acj _))
  ·rw [ZI.mp hb];exact I1.lX (Zs _) (I1.hok.fresh (Zs _))
 ·refine HE hm nY ha h pins s σ H R I ⟨τ,ρ,G,ab,?_⟩;have e:vV m τ G=dH m τ G:=by
   dsimp only [dH,vV,M.bind];cases em:m τ G with
   | stuck=>rfl
   | bq c G'=>rfl
   | ok ds G'=>
    dsimp only
    match ds with
    | []=>rfl
    | _::_::_=>rfl
    | [d]=>
     dsimp only;cases q:aF G' d with
     | none=>rfl
     | some sk=>
      cases sk with
      | lst _=>rfl
      | str _=>rfl
      | tup zs=>exact absurd ⟨d,G',zs,em,q⟩ hT
  rw [e];exact ok
end
abbrev DN (s:Str):Prop:=(s==("__debug__":Str))=Zk∧(s==("__classdict__":Str))=Zk
def Out.fw (r:Out D) (G:DH):Out D:=match r with
 | .ok (.obj n) G'=>match G'[n]? with
  | some (.lst ds)=>if n=G.length∧G'.length=n+1∧qf (G'.take G.length) G=Zh∧aR ds=Zh then .ok (.con ds) G else .stuck
  | _=>.stuck
 | r=>r
def Out.fz (r:Out D):Out D:=match r with
 | .ok (.obj n) G'=>match G'[n]? with
  | some (.lst ds)=>.ok (.con ds) (G'.set n .dead)
  | _=>.stuck
 | r=>r
section
variable {τ:DS} {G G' A B R:DH} {e ma mb mc:DS→M D} {n i:Nat} {d:D} {c:XD} {ml:DS→M (List D)} {ds xs ys:List D} {m:List D→M D}
theorem aW:eFn e τ G=(e τ G).fw G:=Zw rfl rfl
@[simp] theorem UY:u0 e τ G=(e τ G).fz:=Zw rfl rfl
@[simp] theorem SY:(Out.ok (.tup xs) G').fw G=.ok (.tup xs) G':=Zw rfl rfl
@[simp] theorem S6:(Out.ok (.con xs) G').fw G=.ok (.con xs) G':=Zw rfl rfl
@[simp] theorem S7 {z:Str}:(Out.ok (.str z) G').fw G=.ok (.str z) G':=Zw rfl rfl
@[simp] theorem S8 {j:Int}:(Out.ok (.int j) G').fw G=.ok (.int j) G':=Zw rfl rfl
theorem jF (h:aR ds=Zh):(Out.ok (.obj G.length) (G++[.lst ds])).fw G=.ok (.con ds) G:=by simp [Out.fw,h,sC]
theorem bG (hz:ds.length≤Zm) (h:aR ds=Zh):(aL ds G).fw G=.ok (.con ds) G:=by rw [aL,if_pos hz,jF h]
@[simp] theorem zM:(Out.ok (.obj A.length) (A++.lst ds::B)).fz=.ok (.con ds) (A++.dead::B):=by simp [Out.fz,zH]
theorem gz (h:m ds G=.ok d (G++R)) (hc:d.closed=Zh):bV m ds G=.ok d G:=by simp [bV,h,hc,sC]
theorem aT (h:m ds G=.ok d G) (hc:d.closed=Zh):bV m ds G=.ok d G:=gz (R:=[]) (by simpa using h) hc
@[simp] theorem S9:HH ml τ G=(ml τ G).bd λds=>match ds with
 | [d]=>λG=>match aF G d with
  | some (.lst xs)=>.ok (xs.length+1,yt d xs.length) G
  | _=>.stuck
 | _=>M.stop:=aj
@[simp] theorem Tc:SV ml τ G=(ml τ G).bd λds=>match ds with
 | [d,e]=>λG=>match aF G d,aF G e with
  | some (.lst xs),Zg (.lst ys)=>.ok (min xs.length ys.length+1,Pq d e) G
  | _,_=>.stuck
 | _=>M.stop:=aj
@[simp] theorem PB:dH ml τ G=(ml τ G).bd λds=>match ds with
 | [d]=>λG=>match aF G d with
  | some (.lst xs)=>.ok (xs.length+1,iE d) G
  | some (.tup xs)=>.ok (xs.length+1,kj xs) G
  | _=>.stuck
 | _=>M.stop:=aj
@[simp] theorem Ra:sD ml τ G=(ml τ G).bd λds=>match ints3 ds with
 | some (lo,hi,c)=>λG=>if -(2^30)≤lo∧lo<2^30∧-(2^30)≤hi∧hi<2^30∧0<c∧c<2^30 then .ok (mH lo hi c+1,oJ lo c (mH lo hi c)) G else .stuck
 | none=>M.stop:=aj
@[simp] theorem Rb:Pz τ G=.ok (.obj G.length) (G++[.dct []]):=Zw rfl rfl
@[simp] theorem PC:DV ma mb mc τ G=(ma τ G).bd λd G=>if JO G d=Zh then (mb τ G).bd (λk=>(mc τ).bind λx=>JP d k x) else .stuck:=by
 unfold DV;rw [aj];unfold Out.bd;cases ma τ G with
 | stuck=>rfl
 | bq c G=>rfl
 | ok d G'=>simp only [aj];rfl
theorem iF {g:jB} {body:MS} {vw:View} (hv:∀ G i,i≤xs.length→vw G i=Zg xs[i]?):∀ (fuel i:Nat) (τ:DS) (G:DH),i≤xs.length→xs.length<fuel+i→kg g body vw fuel i τ G=bY g body (xs.drop i) τ G
 | 0,i,τ,G,h1,h2=>by nofun
 | fuel+1,i,τ,G,h1,h2=>by
  rw [kg];dsimp only;rw [hv G i h1];by_cases hi:i<xs.length
  ·rw [Zr hi,abq hi,bY];dsimp only;cases g xs[i] τ with
   | none=>rfl
   | some τ1=>
    dsimp only;cases body τ1 G with
    | nx τ2 G2=>exact iF hv fuel (i+1) τ2 G2 (by nofun) (by nofun)
    | ct τ2 G2=>exact iF hv fuel (i+1) τ2 G2 (by nofun) (by nofun)
    | _=>rfl
  ·rw [aaE (by nofun),abQ (by nofun),bY]
theorem kL {gO:D→Option (List D)} {ks:List Bool} {tt:DS→M Bool} {te:DS→M D} {vw:View} (hv:∀ G i,i≤xs.length→vw G i=Zg xs[i]?):∀ (fuel i:Nat) (τ:DS) (G:DH),i≤xs.length→xs.length<fuel+i→jU gO ks tt te n vw fuel i τ G=cQ gO ks tt te n (xs.drop i) τ G
 | 0,i,τ,G,h1,h2=>by nofun
 | fuel+1,i,τ,G,h1,h2=>by
  rw [jU];rw [hv G i h1];by_cases hi:i<xs.length
  ·rw [Zr hi,abq hi,cQ];dsimp only;cases dG gO ks tt te n xs[i] τ G with
   | ok u G2=>exact kL hv fuel (i+1) τ G2 (by nofun) (by nofun)
   | _=>rfl
  ·rw [aaE (by nofun),abQ (by nofun),cQ]
theorem HU {body:MS}:kg g body (yt (.con xs) xs.length) (xs.length+1) 0 τ G=bY g body xs.reverse τ G:=by
 have:=iF (g:=g) (body:=body) (xs:=xs.reverse) (vw:=yt (.con xs) xs.length) (λG i h=>by
  simp only [ab9] at h;simp only [yt,aF,if_true];by_cases hi:i=xs.length
  ·rw [if_pos hi,aaE (by simp;nofun)]
  ·rw [if_neg hi,if_pos (by nofun),abW (by nofun)]) (xs.length+1) 0 τ G (by simp) (by simp)
 simpa using this
theorem yy:jU gO ks tt te n (kj xs) (xs.length+1) 0 τ G=cQ gO ks tt te n (xs.mapIdx λi x=>.tup [.int i,x]) τ G:=by
 have:=kL (n:=n) (gO:=gO) (ks:=ks) (tt:=tt) (te:=te) (xs:=xs.mapIdx λi x=>D.tup [.int i,x]) (vw:=kj xs) (λG i h=>by simp only [abS] at h;simp only [kj,if_pos h,abD]) (xs.length+1) 0 τ G (by simp) (by simp)
 simpa using this
theorem DY {c:Int} {k:Nat}:jU gO ks tt te n (oJ lo c k) (k+1) 0 τ G=cQ gO ks tt te n ((Z4 k).map λ(i:Nat)=>.int (lo+(i:Int)*c)) τ G:=by
 have:=kL (n:=n) (gO:=gO) (ks:=ks) (tt:=tt) (te:=te) (xs:=(Z4 k).map λ(i:Nat)=>D.int (lo+(i:Int)*c)) (vw:=oJ lo c k) (λG i h=>by
  simp only [ZG,List.length_range] at h;simp only [oJ,ZL];by_cases hi:i<k
  ·rw [if_pos hi,acT hi];rfl
  ·rw [if_neg hi,aaE (by simp;nofun)];rfl) (k+1) 0 τ G (by simp) (by simp)
 simpa using this
theorem yz {x v:D} (h1:gO x=Zg os) (h2:te (os.map Zg++mask ks τ) (G++[.lst acc])=.ok v (G++[.lst acc])) (hz:acc.length<Zm) :
  dG gO ks dY te G.length x τ (G++[.lst acc])=.ok () (G++[.lst (acc++[v])]):=by
 simp only [dG,h1,dY,M.ret,h2,qV,if_pos hz,zH]
theorem kM {gO:D→Option (List D)} {ks:List Bool} {te:DS→M D} {own:D→List D} {f:D→D}:∀ (xs acc:List D),acc.length+xs.length≤1000000→(∀ x∈xs,gO x=Zg (own x))→(∀ x∈xs,∀ acc,te ((own x).map Zg++mask ks τ) (G++[.lst acc])=.ok (f x) (G++[.lst acc])) →
  cQ gO ks dY te G.length xs τ (G++[.lst acc])=.ok (.obj G.length) (G++[.lst (acc++xs.map f)])
 | [],acc,_,_,_=>by simp [cQ]
 | x::xs,acc,hl,h1,h2=>by have hz:acc.length<Zm:=Zx (by simp at hl;nofun) (lz (n:=1000001) (by nofun));rw [cQ,yz (h1 x (by simp)) (h2 x (by simp) acc) hz];dsimp only;rw [kM xs (acc++[f x]) (by simp at hl ⊢;nofun) (λy hy=>h1 y (by simp [hy])) (λy hy=>h2 y (by simp [hy]))];simp
end
theorem lN:∀ {xs:List D},(∀ x∈xs,x.closed=Zh)→aR xs=Zh
 | [],_=>rfl
 | x::xs,h=>by rw [aR,h x (by simp),lN λy hy=>h y (by simp [hy])];rfl
theorem aE {α:Type} {f:α→D} {l:List α} (h:∀ x,(f x).closed=Zh):aR (l.map f)=Zh:=lN (by intro x hx;obtain ⟨a,_,rfl⟩:=abE.mp hx;exact h a)
theorem cR {xs:List D}:(D.con xs).closed=aR xs:=by rw [D.closed]
theorem aM {i:Int}:(D.int i).closed=Zh:=by rw [D.closed]<;>simp
theorem cg {i:Str}:(D.str i).closed=Zh:=by rw [D.closed]<;>simp
theorem aU:aR []=Zh:=rfl
theorem aO {x:D} {xs:List D}:aR (x::xs)=(x.closed&&aR xs):=by rw [aR]
mutual
def D.pd:D→PyData
 | .bl b=>.bool b
 | .int i=>.int i
 | .str x=>.str x
 | .tup ds=>.tuple (xG ds)
 | .con ds=>.list (xG ds)
 | _=>.none
def xG:List D→List PyData
 | []=>[]
 | d::r=>d.pd::xG r
end
mutual
def D.plain:D→Bool
 | .tup ds=>jG ds
 | .con ds=>jG ds
 | .str x=>Zt x
 | .obj _=>Zk
 | .vz _ _=>Zk
 | .iM _ _=>Zk
 | .fn _=>Zk
 | _=>Zh
def jG:List D→Bool
 | []=>Zh
 | d::r=>d.plain&&jG r
end
mutual
def D.dp:D→Nat
 | .tup ds=>MB ds+1
 | .con ds=>MB ds+1
 | _=>0
def MB:List D→Nat
 | []=>0
 | d::r=>max d.dp (MB r)
end
mutual
theorem DZ (G:DH):∀ (d:D) (n:Nat),d.plain=Zh→d.dp<n→jZ G n d=Zg d.pd
 | .cy,n+1,_,_=>by simp [jZ,D.pd]
 | .bl b,n+1,_,_=>by simp [jZ,D.pd]
 | .int b,n+1,_,_=>by simp [jZ,D.pd]
 | .str b,n+1,_,_=>by simp [jZ,D.pd]
 | .tup ds,n+1,h,hn=>by rw [jZ,um G ds n (by simpa [D.plain] using h) (by rw [D.dp] at hn;nofun),D.pd];rfl
 | .con ds,n+1,h,hn=>by rw [jZ,um G ds n (by simpa [D.plain] using h) (by rw [D.dp] at hn;nofun),D.pd];rfl
 | .obj k,n+1,h,_=>by simp [D.plain] at h
 | .vz _ _,n+1,h,_=>by simp [D.plain] at h
 | .iM _ _,n+1,h,_=>by simp [D.plain] at h
 | .fn _,n+1,h,_=>by simp [D.plain] at h
theorem um (G:DH):∀ (ds:List D) (n:Nat),jG ds=Zh→MB ds<n→cI (jZ G n) ds=Zg (xG ds)
 | [],n,_,_=>by simp [cI,xG]
 | d::ds,n,h,hn=>by
  have h':d.plain=Zh∧jG ds=Zh:=by simpa [jG] using h
  rw [MB] at hn;rw [cI,DZ G d n h'.1 (by nofun),um G ds n h'.2 (by nofun),xG]
end
mutual
theorem lay_of:∀ (d:D),d.plain=Zh→d.pd.canLay0=Zh
 | .cy,_=>by simp [D.pd,aa4]
 | .bl b,_=>by simp [D.pd,aa4]
 | .int b,_=>by simp [D.pd,aa4]
 | .str b,h=>by simpa [D.pd,aa4,D.plain] using h
 | .tup ds,h=>by rw [D.pd,aa4];exact uo ds (by simpa [D.plain] using h)
 | .con ds,h=>by rw [D.pd,aa4];exact uo ds (by simpa [D.plain] using h)
 | .obj k,h=>by simp [D.plain] at h
 | .vz _ _,h=>by simp [D.plain] at h
 | .iM _ _,h=>by simp [D.plain] at h
 | .fn _,h=>by simp [D.plain] at h
theorem uo:∀ (ds:List D),jG ds=Zh→aax (xG ds)=Zh
 | [],_=>by simp [xG,aax]
 | d::ds,h=>by
  have h':d.plain=Zh∧jG ds=Zh:=by simpa [jG] using h
  rw [xG,aax,lay_of d h'.1,uo ds h'.2];rfl
end
mutual
theorem JQ:∀ (d:D),d.pd.depth≤d.dp
 | .cy=>by simp [D.pd,aaK]
 | .bl b=>by simp [D.pd,aaK]
 | .int b=>by simp [D.pd,aaK]
 | .str b=>by simp [D.pd,aaK]
 | .tup ds=>by rw [D.pd,aaK,D.dp];exact aeO (yC ds)
 | .con ds=>by rw [D.pd,aaK,D.dp];exact aeO (yC ds)
 | .obj k=>by simp [D.pd,aaK]
 | .vz _ _=>by simp [D.pd,aaK]
 | .iM _ _=>by simp [D.pd,aaK]
 | .fn _=>by simp [D.pd,aaK]
theorem yC:∀ (ds:List D),abv (xG ds)≤MB ds
 | []=>by simp [xG,abv]
 | d::ds=>by rw [xG,abv,MB];have:=JQ d;have:=yC ds;nofun
end
mutual
theorem wo:∀ (d:D),aaN d.pd d.pd=Zh
 | .cy=>by simp [D.pd,aaN]
 | .bl b=>by simp [D.pd,aaN]
 | .int b=>by simp [D.pd,aaN]
 | .str b=>by simp [D.pd,aaN]
 | .tup ds=>by rw [D.pd,aaN];exact nF ds
 | .con ds=>by rw [D.pd,aaN];exact nF ds
 | .obj k=>by simp [D.pd,aaN]
 | .vz _ _=>by simp [D.pd,aaN]
 | .iM _ _=>by simp [D.pd,aaN]
 | .fn _=>by simp [D.pd,aaN]
theorem nF:∀ (ds:List D),ad9 (xG ds) (xG ds)=Zh
 | []=>by simp [xG,ad9]
 | d::ds=>by rw [xG,ad9,wo d,nF ds];rfl
end
theorem D0 (g:Bool) (d:D) (G:DH) (h:d.plain=Zh) (hn:d.dp≤580):fZ g d d G=.ok (.bl (g ^^ Zh)) G:=by have hd:=JQ d;unfold fZ AA;rw [DZ G d deep h (by show d.dp<600;nofun)];dsimp only;rw [if_pos (by rw [lay_of d h];simp;nofun),wo]
def wu:D→Option Key
 | .bl b=>Zg (.inl (bI b))
 | d=>v7 d
def oj:D→Option (List Key)
 | .tup ds=>cI wu ds
 | _=>Zl
section
variable {K:Zo} {mg:Str→Option Zj} {H:Hp} {ρ:List Addr} {G:DH}
theorem D3 {k:Key} (r:Rep K mg ρ H d v) (e:wu d=Zg k):Np v=Zg k:=by
 by_cases hb:∃ b,d=.bl b
 ·obtain ⟨b,rfl⟩:=hb;unfold Rep at r;subst r;exact e
 ·have e2:v7 d=Zg k:=by cases d<;>first | exact e | exact absurd ⟨_,rfl⟩ hb
  rw [zL r e2];cases k<;>rfl
theorem wz:∀ {ds:List D} {xs:List V} {ks:List Key},aq K mg ρ H ds xs→cI wu ds=Zg ks→xs.map Np=ks.map Zg
 | [],xs,ks,r,e=>by unfold aq at r;subst r;cases e;rfl
 | d::ds,xs,ks,r,e=>by
  unfold aq at r;obtain ⟨v,vs,rfl,h1,h2⟩:=r;unfold cI at e;cases q1:wu d with
  | none=>rw [q1] at e;cases e
  | some k=>
   cases q2:cI wu ds with
   | none=>rw [q1,q2] at e;cases e
   | some r=>rw [q1,q2] at e;cases e;rw [Zy,Zy,D3 h1 q1,wz h2 q2]
theorem qv {ks:List Key} (r:Rep K mg ρ H d v) (e:oj d=Zg ks):∃ b,v=.ref b∧ye H b ks:=by
 cases d with
 | tup ds=>unfold Rep at r;obtain ⟨a,xs,rfl,sq,rs⟩:=r;exact ⟨a,rfl,xs,sq,wz rs e⟩
 | _=>cases e
def HV (fz:Bool) (H:Hp) (a:Addr) (u:List (List Key×V)):Prop:=if fz=Zh then ∃ o,H a=Zg (.dz o (.dT u)) else H a=Zg (.dT u)
theorem HV.rd {fz:Bool} (h:HV fz H a u):Rd H a (.dT u):=by
 cases fz
 ·exact .inl h
 ·exact .inr h
theorem eN.iN {fz:Bool} {kvs:List (List Key×D)} (h:eN K mg H ρ G) (e:G[n]?=Zg (.iN fz kvs)):∃ a xs,ρ[n]?=Zg a∧HV fz H a ((kvs.map (·.1)).zip xs)∧aq K mg ρ H (kvs.map (·.2)) xs:=by obtain ⟨a,e1,xs,e2,r⟩:=h.ob n _ e;exact ⟨a,xs,e1,e2,r⟩
theorem qw (hp:H p=Zg (.dT u)) (ρ:List Addr):bX K H (upd H p ob) ρ ρ:=by
 refine ⟨λa zs h=>?_,λa q w h=>by rw [aA (fB h hp (by intro z;cases z))];exact h,⟨[],by simp⟩,λa φ h=>by rw [aA (fB h hp (by intro z;cases z))];exact h⟩
 ·rw [pQ] at h ⊢;rw [aA (fB h hp (by intro z;cases z))];exact h
theorem eN.PD (h:eN K mg H ρ G) (hp:H p=Zl):eN K mg (upd H p (.dT [])) (ρ++[p]) (G++[.iN Zk []]):=by
 have f:bX K H (upd H p (.dT [])) ρ (ρ++[p]):=(cH hp ρ).trans (dN ρ p);refine ⟨by simp [h.hl],?_,λn ob e=>?_⟩
 ·rw [abB];refine ⟨h.nd,by simp,λa ha b hb=>?_⟩;have e:b=p:=by simpa using hb
  subst e;rintro rfl;exact h.not_mem hp ha
 ·by_cases hn:n<G.length
  ·rw [ZC hn] at e;obtain ⟨a,e1,r'⟩:=h.ob n ob e;exact ⟨a,f.get e1,r'.mono f λu q=>by rw [aA (bW q hp)];exact q⟩
  ·have hl:n<(G++[DO.iN Zk []]).length:=(Zp.mp e).1;have hn':n=G.length:=by simp at hl;nofun
   subst hn';rw [aB] at e;cases e;exact ⟨p,by rw [← h.hl,aB],[],aN,.nil⟩
theorem eN.Te {fz:Bool} {es:List (List Key×D)} (h:eN K mg H ρ G) (hn:ρ[n]?=Zg a) (ha:H a=Zg (.dT u))
  (ho:HV fz (upd H a ob) a ((es.map (·.1)).zip ys)) (r:aq K mg ρ H (es.map (·.2)) ys) :
  eN K mg (upd H a ob) ρ (G.set n (.iN fz es)):=by
 have f:bX K H (upd H a ob) ρ ρ:=qw ha ρ;refine ⟨by simp [h.hl],h.nd,λm o e=>?_⟩;by_cases hm:n=m
 ·subst hm;rw [aap,if_pos rfl] at e;split at e
  ·cases e;exact ⟨a,hn,ys,ho,r.mono f⟩
  ·cases e
 ·rw [ZZ hm] at e;obtain ⟨b,e1,r'⟩:=h.ob m o e;have hb:b≠a:=by rintro rfl;obtain ⟨h1,xF⟩:=Zp.mp hn;obtain ⟨h2,tZ⟩:=Zp.mp e1;exact hm ((aaO h.nd).mp (xF.trans tZ.symm))
  exact ⟨b,e1,r'.mono f λu q=>by rw [aA hb];exact q⟩
end
section
variable {X:Cx} {EE:bR} {e f o i a:Expr} {pos apos cpos tpos:Pos} {mo me mf mv mi:DS→M D}
def uq:DS→M D:=λ_ G=>.ok (.obj G.length) (G++[.iN Zk []])
theorem D4:QE X EE (.Dict [] [] pos) uq:=PE.mono CJ λσ H Q ⟨τ,ρ,G,ab,ok⟩=>λp hp=>by refine ok (.ref p) _ (ρ++[p]) ((cH hp ρ).trans (dN ρ p)) ⟨ab.st.mono ((cH hp ρ).trans (dN ρ p)),ab.hp.PD hp⟩ ?_;unfold Rep;exact ⟨p,rfl,by rw [← ab.hp.hl,aB]⟩
def HW (d k:D):M D:=λG=>match d,oj k with
 | .obj n,Zg y=>match G[n]? with
  | some (.iN _ kvs)=>match nE kvs y with
   | some v=>.ok v G
   | none=>.stuck
  | _=>.stuck
 | _,_=>.stuck
def zN (mo mi:DS→M D):DS→M D:=λτ=>(mo τ).bind λd=>(mi τ).bind λk=>HW d k
theorem HX (hu:X.A.units+600<cLine) (ho:QE X EE o mo) (hi:QE X EE i mi) (hs:CG i):QE X EE (.Subscript o i pos) (zN mo mi):=by
 refine PE.mono (zp (by nofun) ho hi hs) λσ H Q zz=>?_;obtain ⟨τ,ρ,G,ab,ok⟩:=zz;refine ⟨τ,ρ,G,ab,?_⟩;dsimp only [zN,M.bind] at ok;cases e1:mo τ G with
 | stuck=>rw [e1] at ok;exact ok
 | bq c G'=>rw [e1] at ok;exact ok
 | ok d G1=>
  rw [e1] at ok;dsimp only at ok;intro vd H1 ρ1 f1 fD r1;refine ⟨τ,ρ1,G1,fD,?_⟩;cases e2:mi τ G1 with
  | stuck=>rw [e2] at ok;exact ok
  | bq c G'=>rw [e2] at ok;exact λH' ρ' f aV=>ok H' ρ' (f1.trans f) aV
  | ok k G2=>
   rw [e2] at ok;dsimp only [HW] at ok;intro vk H2 ρ2 f2 bA r2;cases d with
   | obj n=>
    cases ek:oj k with
    | none=>rw [ek] at ok;exact ok.elim
    | some y=>
     rw [ek] at ok;dsimp only at ok;cases g:G2[n]? with
     | none=>rw [g] at ok;exact ok.elim
     | some ob=>
      cases ob with
      | iN fz kvs=>
       rw [g] at ok;dsimp only at ok;have r1':=r1.mono f2;unfold Rep at r1';obtain ⟨p,rfl,ep⟩:=r1';obtain ⟨p',xs,B0,eH,rs⟩:=bA.hp.iN g;rw [ep] at B0;cases B0;obtain ⟨b,rfl,eb⟩:=qv r2 ek;rcases mJ y rs with ⟨z1,z2⟩ | ⟨dv,v,z1,z2,z3⟩
       ·rw [z1] at ok;exact ok.elim
       ·rw [z1] at ok;exact ⟨p,v,rfl,.inr ⟨_,y,b,eH.rd,rfl,eb,z2.symm⟩,ok v H2 ρ2 (f1.trans f2) bA z3⟩
      | _=>rw [g] at ok;exact ok.elim
   | _=>exact ok.elim
def sF (v d k:D):M D:=λG=>match d,oj k with
 | .obj n,Zg y=>match G[n]? with
  | some (.iN Zk kvs)=>if kvs.length<Zm then .ok .cy (G.set n (.iN Zk (qk kvs y v))) else .stuck
  | _=>.stuck
 | _,_=>.stuck
theorem HY {v k:D} {vv vo vi:V} {S:Hp→Prop} (ab:Ab X.K X.mg σ H τ ρ G) (rv:Rep X.K X.mg ρ H v vv) (ro:Rep X.K X.mg ρ H d vo) (ri:Rep X.K X.mg ρ H k vi)
  (hn:sF v d k G≠.stuck)
  (ok:∀ r G' H',sF v d k G=.ok r G'→bX X.K H H' ρ ρ→Ab X.K X.mg σ H' τ ρ G'→S H'):∃ a H',vo=.ref a∧vq H a vi vv H'∧S H':=by
 unfold sF at hn ok;cases d with
 | obj n=>
  cases ek:oj k with
  | none=>rw [ek] at hn;exact (hn rfl).elim
  | some y=>
   rw [ek] at ok hn;dsimp only at ok hn;cases g:G[n]? with
   | none=>rw [g] at hn;exact (hn rfl).elim
   | some ob=>
    cases ob with
    | iN fz kvs=>
     cases fz with
     | true=>rw [g] at hn;exact (hn rfl).elim
     | false=>
      rw [g] at ok hn;dsimp only at ok hn;unfold Rep at ro;obtain ⟨p,rfl,ep⟩:=ro;obtain ⟨p',xs,B0,hp,rs⟩:=ab.hp.iN g;rw [ep] at B0;cases B0;by_cases hl:kvs.length<Zm
      ·rw [if_pos hl] at ok;obtain ⟨b,rfl,eb⟩:=qv ri ek;obtain ⟨ys,ey,ry⟩:=wc y rv rs;refine ⟨p,_,rfl,vq.t hp eb ?_,?_⟩
       ·have:=rs.length;simp at this;simp [← this];exact hl
       ·rw [ey];exact ok _ _ _ rfl (qw hp ρ) ⟨ab.st.mono (qw hp ρ),ab.hp.Te ep hp aN ry⟩
      ·rw [if_neg hl] at hn;exact (hn rfl).elim
    | _=>rw [g] at hn;exact (hn rfl).elim
 | _=>exact (hn rfl).elim
def qx (mv mo mi:DS→M D):MS:=λτ=>bz ((mv τ).bind λv=>(mo τ).bind λo=>(mi τ).bind λi=>sF v o i) (λ_ G=>.nx τ G) λc G=>.xn c τ G
theorem D5 (hu:X.A.units+600<cLine) (hv:QE X EE a mv) (ho:QE X EE o mo) (hi:QE X EE i mi) (h:j9 a=Zh:=by rfl):QS X EE (.Assign [.Subscript o i tpos] a pos) (qx mv mo mi):=
 PS.mono (GC (by nofun) ho hi hv (kJ h _ _ _)) λDd σ H zz=>by
  obtain ⟨τ,ρ,G,ab,ok⟩:=zz;refine ⟨τ,ρ,G,ab,?_⟩;dsimp only [qx,bz,M.bind] at ok;cases e1:mv τ G with
  | stuck=>rw [e1] at ok;exact ok
  | bq c G'=>rw [e1] at ok;exact λH' ρ' f aV=>ok σ H' ρ' f aV
  | ok v G1=>
   rw [e1] at ok;intro vv H1 ρ1 f1 fD r1;refine ⟨τ,ρ1,G1,fD,?_⟩;dsimp only at ok;cases e2:mo τ G1 with
   | stuck=>rw [e2] at ok;exact ok
   | bq c G'=>rw [e2] at ok;exact λH' ρ' f aV=>ok σ H' ρ' (f1.trans f) aV
   | ok ov G2=>
    rw [e2] at ok;intro vo H2 ρ2 f2 bA r2;refine ⟨τ,ρ2,G2,bA,?_⟩;dsimp only at ok;cases e3:mi τ G2 with
    | stuck=>rw [e3] at ok;exact ok
    | bq c G'=>rw [e3] at ok;exact λH' ρ' f aV=>ok σ H' ρ' ((f1.trans f2).trans f) aV
    | ok iv G3=>rw [e3] at ok;intro vi H3 ρ3 f3 oG r3;dsimp only at ok;refine HY oG (r1.mono (f2.trans f3)) (r2.mono f3) r3 (λq=>by rw [q] at ok;exact ok.elim) λr G' H' q f aV=>?_;rw [q] at ok;exact ok σ H' ρ3 (((f1.trans f2).trans f3).trans f) aV
end
section
open PyProof.Rows
section
variable {X:Cx} {pos:Pos}
def Rc (i j l n:Nat):jB:=λd τ=>match d with
 | .tup [x,y,z,u]=>Zg ((((τ.set i (Zg x)).set j (Zg y)).set l (Zg z)).set n (Zg u))
 | _=>Zl
theorem HZ {u:Str} {i j l n:Nat} {px py pz pu:Pos} {k:Nat} (hc:X.calm=Zh) (hN:X.N.Nodup) (hx:Loc X.env.scope x) (hy:Loc X.env.scope y) (hz:Loc X.env.scope z) (hw:Loc X.env.scope u) (hfx:X.fn x=Zh∨X.env.scope.names.lookup x=Zg .local) (Pc:X.fn y=Zh∨X.env.scope.names.lookup y=Zg .local) (u6:X.fn z=Zh∨X.env.scope.names.lookup z=Zg .local) (hfu:X.fn u=Zh∨X.env.scope.names.lookup u=Zg .local)
  (hi:X.N[i]?=Zg x:=by rfl) (hj:X.N[j]?=Zg y:=by rfl) (hl:X.N[l]?=Zg z:=by rfl) (hn:X.N[n]?=Zg u:=by rfl):QG X (.Tuple [.Name x px,.Name y py,.Name z pz,.Name u pu] k pos) (Rc i j l n):=by
 intro pins s σ H v w Q I r zu;obtain ⟨τ,ρ,G,d,τ',ab,rd,e,q⟩:=zu;refine xN (n:=4) hc (fX (gy hN hi hx hfx) (fX (gy hN hj hy Pc) (fX (gy hN hl hz u6) (fX (gy hN hn hw hfu) tO)))) rfl rfl pins s σ H v w Q I r ?_;cases d<;>try (cases e;done)
 rename_i ds
 match ds,e with
 | [d1,d2,d3,d4],e=>cases e;unfold Rep at rd;obtain ⟨a,vs,rfl,sq,rs⟩:=rd;unfold aq at rs;obtain ⟨v1,vs',rfl,r1,rs⟩:=rs;unfold aq at rs;obtain ⟨v2,vs',rfl,r2,rs⟩:=rs;obtain ⟨v3,v4,rfl,r3,r4⟩:=vL rs;exact ⟨a,[v1,v2,v3,v4],rfl,sq,rfl,v1,[v2,v3,v4],rfl,v2,[v3,v4],rfl,v3,[v4],rfl,v4,[],rfl,rfl,q _ (Ab.set (Ab.set (Ab.set (Ab.set ab r1) r2) r3) r4)⟩
end
section
variable {X:Cx} {EE:bR} {o i:Expr} {mo mi:DS→M D} {y:Str} {j1:Nat} {p1 lp sp apos cpos:Pos}
def D6 (y:Str) (zs:List Str) (x:Str):D→M D
 | .int k=>if 0≤k∧k<1000 then (match zs[k.toNat]? with
  | some z=>if x.length+(x.length+1)*z.length≤16777216 then M.ret (.str (Txt.replace x y z)) else M.stop
  | none=>M.stop) else M.stop
 | _=>M.stop
def MC (y:Str) (zs:List Str) (m:M D):D→M D
 | .str x=>m.bind (D6 y zs x)
 | _=>M.stop
def MD (y:Str) (zs:List Str) (mo mi:DS→M D):DS→M D:=λτ=>(mo τ).bind (MC y zs (mi τ))
end
section
variable {X:Cx} {EE:bR}
def PF (X:Cx) (EE:bR) (st:List Stmt) (m:MS):Prop:=Oi X st (gB X.K X.mg EE m)
theorem Tf {P:ZT} {w:aaa} {mg:Str→Option Zj} {base:Heap} {f:Addr} {st:Stmt} {ps:List Str} {k:Nat} {m:List D→M D} (F:rZ K x qual st f fd) (S:fY N ps (au st)) (hps:ps.length=n) (hN:N.length=nn) (hm:∀ ds,m ds=bL nn ms ds)
  (hbody:∀ (X:Cx) (EE:bR) (cdv:Zj) (A:Around) (outer:List Env) (s:Zq) (H:Hp) (E:XK),X=lB (mq P w) P w K mg base N qual (au st) f cdv A outer s H E→cP k (A.deeper (aaT qual (au st) s.heap.objs.size f cdv)) →
   gb X EE→PassesOwn (model P w) X.A X.env X.xe→PF X EE (ck st) ms) :
  jS P w K mg base (mq P w) (k+1) f fd ps (fW K mg n m):=by
 subst hps hN;have e:m=λds=>bL N.length ms ds:=funext hm;subst e;obtain ⟨oc,od,kV,doc,pm,an,cdv,ct,osl,rfl,lk,hcd⟩:=F.ex;refine Lc lk hcd S (λvs H Q E h=>h.len) λA outer s H vs Q E hr h=>?_;obtain ⟨ds,ρ,G,hn,hp,rs,ok⟩:=h;refine ⟨_,hbody _ (λc σ H'=>∀ cls,zB mg c cls→E cls Zl H') cdv A outer s H E rfl hr ?_ acu,ds.map Zg++ZH (N.length - ds.length) Zl,ρ,G,⟨jC rs,hp⟩,?_⟩
 ·intro pins σ H' s' e cls c I fx hc ee;obtain ⟨B,fb,hok,AM⟩:=fx;refine vO (L:=s.heap.objs.size) I.ok.frames rfl fb λh' a0 fl u=>?_;have I':Inv _ [] σ H' {s' with heap:=h'}:=Inv.JD (t:=s'.toks) I AM hok fl.1 u;have zc:∀ b o,s.heap.get? b=Zg o→b∉frs outer→b∉frs (aaT qual (au st) s.heap.objs.size f cdv::outer):=λb o e hb z=>by
   rcases ZM.mp (I.j3 b z) with z | z
   ·exact absurd (Zu e) (by rw [show b=s.heap.objs.size from z];exact aao _)
   ·exact hb z
  refine ⟨e,cls,a0,B,H',rfl,fl,⟨I'.os,I'.bare,λb o eb nb hb=>AM.keep b o eb nb (zc b o eb hb) (by intro z;exact absurd (show b∈([]:List Addr) from z) (by simp)),λb o eb hb=>AM.there b o eb (zc b o eb hb) (by intro z;exact absurd (show b∈([]:List Addr) from z) (by simp)),
   λb o eb nb hb=>I'.base.slot b o eb nb hb (by intro z;exact absurd (show b∈([]:List Addr) from z) (by simp)),λb o eb nb=>I'.base.free b o eb nb (by intro z;exact absurd (show b∈([]:List Addr) from z) (by simp)),I'.base.tups,I'.base.jq,I'.base.j0,hok⟩,ee cls hc⟩
 ·dsimp only [bL] at ok;cases q:ms (ds.map Zg++ZH (N.length - ds.length) Zl) G with
  | stuck=>rw [q] at ok;exact ok
  | nx τ G'=>rw [q] at ok;exact λσ' H' ρ' f ab=>ok .cy H' ρ' f ab.hp (by unfold Rep;rfl)
  | rt d G'=>rw [q] at ok;exact λv H' ρ' f hp r=>ok v H' ρ' f hp r
  | bk τ G'=>rw [q] at ok;exact ok.elim
  | ct τ G'=>rw [q] at ok;exact ok.elim
  | xn c τ G'=>rw [q] at ok;exact λσ' H' ρ' f ab cls hc=>ok cls H' ρ' hc f ab.hp
end
end
theorem Tg {i j:Int}:aG (.int i) (.int j) G=.ok (.int (i+j)) G:=Zw rfl rfl
section
variable {τ:DS} {G:DH} {ma mb mo mi:DS→M D}
@[simp] theorem D7:Nu ma mb τ G=(ma τ G).bd λd=>match d with
 | .bl Zk=>mb τ
 | .bl Zh=>M.ret (.bl Zh)
 | _=>M.stop:=aj
@[simp] theorem yE:yg ma mb τ G=(ma τ G).bd λd=>match d with
 | .bl Zh=>mb τ
 | .bl Zk=>M.ret (.bl Zk)
 | _=>M.stop:=aj
@[simp] theorem PJ {y:Str} {zs:List Str}:MD y zs mo mi τ G=(mo τ G).bd (MC y zs (mi τ)):=aj
@[simp] theorem Th {y x:Str} {zs:List Str} {m:M D}:MC y zs m (.str x) G=(m G).bd (D6 y zs x):=aj
theorem yF {x:D} (h1:gO x=Zg os) (h2:tt (os.map Zg++mask ks τ) (G++[.lst acc])=.ok Zk (G++[.lst acc])) :
  dG gO ks tt te G.length x τ (G++[.lst acc])=.ok () (G++[.lst acc]):=by
 simp only [dG,h1,h2]
theorem wA {x v:D} (h1:gO x=Zg os) (h2:tt (os.map Zg++mask ks τ) (G++[.lst acc])=.ok Zh (G++[.lst acc])) (h3:te (os.map Zg++mask ks τ) (G++[.lst acc])=.ok v (G++[.lst acc])) (hz:acc.length<Zm) :
  dG gO ks tt te G.length x τ (G++[.lst acc])=.ok () (G++[.lst (acc++[v])]):=by
 simp only [dG,h1,h2,h3,qV,if_pos hz,zH]
theorem dI {gO:D→Option (List D)} {ks:List Bool} {tt:DS→M Bool} {te:DS→M D} {α:Type} {own:α→List D} {dat f:α→D} {c:α→Bool}:∀ (as:List α) (acc:List D),acc.length+as.length≤1000000→(∀ x∈as,gO (dat x)=Zg (own x)) →
  (∀ x∈as,∀ acc,tt ((own x).map Zg++mask ks τ) (G++[.lst acc])=.ok (c x) (G++[.lst acc]))→(∀ x∈as,∀ acc,te ((own x).map Zg++mask ks τ) (G++[.lst acc])=.ok (f x) (G++[.lst acc])) →
  cQ gO ks tt te G.length (as.map dat) τ (G++[.lst acc])=.ok (.obj G.length) (G++[.lst (acc++(as.filter c).map f)])
 | [],acc,_,_,_,_=>by simp [cQ]
 | x::as,acc,hl,h1,h2,h3=>by
  have hz:acc.length<Zm:=Zx (by simp at hl;nofun) (lz (n:=1000001) (by nofun));rw [Zy,cQ];have hp:=h2 x (by simp) acc;cases hc:c x with
  | false=>rw [hc] at hp;rw [yF (h1 x (by simp)) hp];dsimp only;rw [dI as acc (by simp at hl;nofun) (λq hq=>h1 q (by simp [hq])) (λq hq=>h2 q (by simp [hq])) (λq hq=>h3 q (by simp [hq])),adt (by rw [hc];decide)]
  | true=>rw [hc] at hp;rw [wA (h1 x (by simp)) hp (h3 x (by simp) acc) hz];dsimp only;rw [dI as (acc++[f x]) (by simp at hl ⊢;nofun) (λq hq=>h1 q (by simp [hq])) (λq hq=>h2 q (by simp [hq])) (λq hq=>h3 q (by simp [hq])),aco hc];simp
end
section
open PyProof.Rows
section
variable {prog:ZT} {w:aaa} {A:Around} {E:Zj→Zq→Prop} {s:Zq}
theorem yG (r:Addr) (a b c:Int) (t u v:Tok) (hs:(aad a&&aad b&&aad c&&aad (-c)&&aad (a - c)&&aad (Z7 a b c))=Zh) :
  Meets (abR.«range.__reversed__» ⟨[.ref r],[]⟩) (λ_ R s=>s.heap.get? r=Zg {cls:=.type "range",dict:=Zl,data:=.fields #[.int a t,.int b u,.int c v],slots:=#[]}∧R (.ok (.ret (Value.ref s.heap.objs.size))) {s with heap:=s.heap.push {cls:=.type "range_iterator",data:=.fields #[rawInt (a+(Z7 a b c - 1)*c),rawInt (Z7 a b c),rawInt (-c)]}}):=
 .of_wp λprog w A R s h=>by
  obtain ⟨hp,g,d,tk,os⟩:=s;obtain ⟨hl,h⟩:=h
  wp_walk
  rw [if_pos hs];exact ⟨_,rfl,h⟩
theorem oO:isSubtype (.type "range_iterator") (.type "reversed")=pure Zk:=by rw [isSubtype_type];kernel_rfl
def A7 (n:Int):Obj:={cls:=.type "range_iterator",data:=.fields #[rawInt (n - 1),rawInt n,rawInt (-1)]}
theorem ME {n:Int} (h:0≤n):Z7 0 n 1=n:=by
 unfold Z7;rw [if_pos (by decide)];split
 ·simp only [Int.sub_zero];nofun
 ·nofun
theorem qy {r:Addr} {n:Int} {t u v:Tok} (hr:IsRange s.heap r 0 n 1 t u v) (h0:0≤n) (h1:n<2^30)
  (h:Q (.ref s.heap.objs.size) {s with heap:=s.heap.push (A7 n)}):ZD (model prog w) A (call (.builtin "range.__reversed__") [.ref r]) Q E s:=by
 have hT:s.TypeIs (.ref r) "range":=⟨_,hr,rfl⟩;have hz:=ME h0;refine call_meets acA hT F.entry_range_reversed (F.args_range_reversed_1 _) (yG r 0 n 1 t u v ?_) ⟨hr,?_⟩
 ·rw [hz];simp only [aad,aan,decide_eq_true_eq];nofun
 ·rw [hz];have e:(0:Int)+(n - 1)*1=n - 1:=by nofun
  rw [e];exact h
theorem mK {r:Addr} {n:Int} {t u v:Tok} {Q₁:Zj→Zq→Prop} (hr:IsRange s.heap r 0 n 1 t u v) (h0:0≤n) (h1:n<2^30)
  (h:Q₁ (.ref s.heap.objs.size) {s with heap:=s.heap.push (A7 n)}) :
  codeAny (model prog w) A (.call (.builtin "reversed.__new__") ⟨[.type "reversed",.ref r],[]⟩) (wants Q₁ E) s:=by
 have hT:s.TypeIs (.ref r) "range":=⟨_,hr,rfl⟩;refine codeAny_of_tree ?_;show ZD _ A.in1 (do checkBuiltinCall "reversed.__new__" ⟨[.type "reversed",.ref r],[]⟩;again (.builtin "reversed.__new__" ⟨[.type "reversed",.ref r],[]⟩)) _ _ s;refine Zi (aaP (ad0 _) (Zz ⟨plainId_quiet acI _,codeAny_builtin ad1 ?_⟩));rw [aa5 acI _];unfold abR.«reversed.__new__»;refine Zi (aaP (newClass_reversed _) ?_)
 try dsimp only
 refine Zi (aaP (a:=()) (by first | rfl | kernel_rfl) ?_);refine Zi (aaP (a:=()) (by first | rfl | kernel_rfl) ?_)
 try dsimp only
 refine Zi (abu hT acA.lookup ?_)
 try dsimp only
 refine Zi (aaP (acA.bind _) ?_)
 try dsimp only
 first
 | rw [if_neg (show ¬ ((Value.builtin "range.__reversed__"==Value.none)=Zh) from ZX)]
 | (show ZD _ _ (if (Value.builtin "range.__reversed__"==Value.none)=Zh then _ else _) _ _ _;rw [if_neg (show ¬ ((Value.builtin "range.__reversed__"==Value.none)=Zh) from ZX)])
 refine Zi (acF ?_);refine Zi (m:=runValue (.call (.builtin "range.__reversed__") ⟨[.ref r],[]⟩)) (show ZD _ _ (call (.builtin "range.__reversed__") [.ref r]) _ _ _ from qy hr h0 h1 ?_)
 first
 | exact Zz h
 | exact Zi (Zz (Zz h))
theorem mL {r:Addr} {n:Int} {t u v:Tok} (hr:IsRange s.heap r 0 n 1 t u v) (h0:0≤n) (h1:n<2^30)
  (h:Q (.ref s.heap.objs.size) {s with heap:=s.heap.push (A7 n)}):ZD (model prog w) A (call (.type "reversed") [.ref r]) Q E s:=by
 refine callType_other (U:="range_iterator") (Q₁:=λobj s₁=>obj=.ref s.heap.objs.size∧s₁={s with heap:=s.heap.push (A7 n)}) (by symm) aeC ⟨_,_,F.mro_reversed⟩ ae0 oO (adU _) (mK hr h0 h1 ⟨rfl,rfl⟩) ?_;rintro obj s₁ ⟨rfl,rfl⟩;exact ⟨⟨_,Zv _ rfl,rfl⟩,h⟩
end
def nG:List D→Option Int
 | [.int n]=>Zg n
 | _=>Zl
theorem A8 {n:Int} (h:nG ds=Zg n):ds=[.int n]:=by
 unfold nG at h;split at h
 ·cases h;rfl
 ·cases h
def zO (m:DS→M (List D)):MI:=λτ=>(m τ).bind λds=>match nG ds with
 | some n=>λG=>if 0≤n∧n<2^30 then .ok (n.toNat+1,oJ (n - 1) (-1) n.toNat) G else .stuck
 | none=>M.stop
section
variable {X:Cx} {EE:bR} {tg a:Expr} {p p2 pc JR:Pos} {m:DS→M (List D)}
theorem H8 (hm:X.mg "reversed"=Zl) (nY:Gl X "reversed") (hm2:X.mg "range"=Zl) (Ti:Gl X "range") (ha:QA X EE [a] m) (h:ao [a]=Zh:=by rfl):QI X EE tg (.Call (.Name "reversed" p) [.Call (.Name "range" p2) [a] [] JR] [] pc) (zO m):=by
 have h':bf a=Zh∧ao []=Zh:=by simpa [ao] using h
 intro pins s σ H R I hq;obtain ⟨τ,ρ,G,ab,ok⟩:=hq;dsimp only [zO,M.bind] at ok;refine ZK (dX I nY hm jh ?_ (by decide) (by decide));have hA:gU X.K X.mg EE m σ H λvs H1=>∃ ρ1 G1 ds,Ab X.K X.mg σ H1 τ ρ1 G1∧bX X.K H H1 ρ ρ1∧aq X.K X.mg ρ1 H1 ds vs∧m τ G=.ok ds G1:=by
  refine ⟨τ,ρ,G,ab,?_⟩;cases e:m τ G with
  | stuck=>rw [e] at ok;exact ok
  | bq c G'=>rw [e] at ok;exact ok
  | ok ds G'=>exact λvs H' ρ' f aV r=>⟨ρ',G',ds,aV,f,r,rfl⟩
 have hs1:ZF [.Call (.Name "range" p2) [a] [] JR] X.env=(Zk,eval (.Call (.Name "range" p2) [a] [] JR) X.env)::ZF [] X.env:=aK rfl _ _;refine ZJ ?_ hs1 (aJ (es:=[]) rfl);rw [hs1];show ZD _ _ (spliced ((Zk,eval (.Call (.Name "range" p2) [a] [] JR) X.env)::backTo pc (ZF [] X.env))) _ _ s;refine aaz ?_;refine ZK (dX I Ti hm2 boot_range ?_ (by decide) (by decide));refine ZJ (cO (ha JR pins s σ H _ I hA) λus s1 oE=>?_) (aK h'.1 _ _) (aJ (es:=[]) rfl);obtain ⟨vs,H1,I1,r1,ρ1,G1,ds,fD,f1,rs,em⟩:=oE;rw [em] at ok;dsimp only at ok;cases q:nG ds with
 | none=>rw [q] at ok;exact ok.elim
 | some n=>
  rw [q] at ok;dsimp only at ok;have e:=A8 q;subst e;by_cases hc:0≤n∧n<2^30
  ·rw [if_pos hc] at ok;obtain ⟨x,rfl,rx⟩:=fQ rs;unfold Rep at rx;subst rx;obtain ⟨u,rfl,t,rfl⟩:=vals1 r1;refine call_range_1 ?_;refine aa6 ?_;have I2:Inv X pins σ H1 {s1 with heap:=s1.heap.push {cls:=.type "range",data:=.fields #[.int 0 s1.toks,.int n t,.int 1 (s1.toks+1)]},toks:=s1.toks+1+1}:=I1.kept λb o e=>Zn _ e;refine mL (t:=s1.toks) (u:=t) (v:=s1.toks+1) (aeU ..) hc.1 hc.2 ?_;have hst:IsRangeIter ((s1.heap.push {cls:=.type "range",data:=.fields #[.int 0 s1.toks,.int n t,.int 1 (s1.toks+1)]}).push (A7 n)) (s1.heap.push {cls:=.type "range",data:=.fields #[.int 0 s1.toks,.int n t,.int 1 (s1.toks+1)]}).objs.size (n - 1) n (-1):=Zv _ rfl;refine acq (s:={s1 with heap:=(s1.heap.push {cls:=.type "range",data:=.fields #[.int 0 s1.toks,.int n t,.int 1 (s1.toks+1)]}).push (A7 n),toks:=s1.toks+1+1}) hst ?_;refine ⟨_,[_],_,HQ (n - 1) (-1) n.toNat,H1,rfl,I2.kept (t':=s1.toks+1+1) λb o e=>Zn _ e,oi _ (n - 1) (-1) n.toNat,?_,λb hb=>?_,ok _ H1 ρ1 f1 fD DU⟩
   ·have e1:(n - 1)+((0:Nat):Int)*(-1)=n - 1:=by simp
    have e2:((n.toNat:Nat):Int) - ((0:Nat):Int)=n:=by nofun
    show IsRangeIter _ _ ((n - 1)+((0:Nat):Int)*(-1)) (((n.toNat:Nat):Int) - ((0:Nat):Int)) (-1);rw [e1,e2];exact hst
   ·rw [ZI.mp hb];exact I2.lX (Zs _) (I2.hok.fresh (Zs _))
  ·rw [if_neg hc] at ok;exact ok.elim
end
end
section
variable {X:Cx} {EE:bR} {a b:Expr} {pos:Pos} {ma mb m:DS→M D}
def sG (d e:D):M D:=λG=>match d,e with
 | .obj n,.int k=>match G[n]? with
  | some (.lst xs)=>if k<1000∧-1000<k∧xs.length*k.toNat≤Zm then aL (ZH k.toNat xs).flatten G else .stuck
  | _=>.stuck
 | _,_=>.stuck
theorem aq.rep (r:aq K mg ρ H ds vs):∀ k:Nat,aq K mg ρ H (ZH k ds).flatten (ZH k vs).flatten
 | 0=>.nil
 | k+1=>by rw [aaS,abz,aaS,abz];exact r.append (r.rep k)
theorem Ia:iu X (binaryOp .Mult) (rD X EE sG):=by
 intro pins s σ0 H x y v u Q I rx ry zu;obtain ⟨σ,τ,ρ,G,d,e,ab,r1,r2,ok⟩:=zu;cases d<;>try exact ok.elim
 rename_i n;cases e<;>try exact ok.elim
 rename_i k;dsimp only [sG] at ok;cases g:G[n]? with
 | none=>rw [g] at ok;exact ok.elim
 | some o=>
  cases o with
  | lst zs=>
   rw [g] at ok;dsimp only at ok;unfold Rep at r1 r2;subst r2;obtain ⟨p,rfl,e1⟩:=r1;obtain ⟨p',vs,e2,hp,rs⟩:=ab.hp.lst g;rw [e1] at e2;cases e2;by_cases hk:k<1000∧-1000<k∧zs.length*k.toNat≤Zm
   ·rw [if_pos hk] at ok;obtain ⟨hl,q1⟩:=lE ab (rs.rep k.toNat) ok;exact Lm pins s σ0 H _ _ v u Q I rx ry ⟨p,k,vs,rfl,rfl,hp,by nofun,by nofun,by rw [← rs.length];exact hk.2.2,q1⟩
   ·rw [if_neg hk] at ok;exact ok.elim
  | _=>rw [g] at ok;exact ok.elim
theorem MF (ha:QE X EE a ma) (hb:QE X EE b mb):QE X EE (.BinOp a .Mult b pos) (ak sG ma mb):=jd Ia j6 ha hb
def Ib (g:jB) (τ:DS) (d:D) (G:DH):Res:=match g d τ with
 | some τ'=>.nx τ' G
 | none=>.stuck
def wB (g:jB) (m:DS→M D):MS:=λτ=>bz (m τ) (λd G=>Ib g τ d G) λc G=>.xn c τ G
theorem MG (ha:QE X EE a ma) (hg:QG X tg g) (hs:swapsWithSole [tg] a pos.line X.env=pure Zk) (hw:swappedStores [tg] a X.env=pure Zl) (h1:(assignEach [tg] X.env).map (·.2)=[assign tg X.env]):QS X EE (.Assign [tg] a pos) (wB g ma):=by
 intro pins s σ H Dd I h;refine Ck ha hg hs hw h1 pins s σ H Dd I ?_;have h2:=lC (k:=λτ d G=>Ib g τ d G) h;obtain ⟨τ,ρ,G,ab,ok⟩:=h2;refine ⟨τ,ρ,G,ab,?_⟩;cases e:ma τ G with
 | stuck=>rw [e] at ok;exact ok
 | bq c G'=>rw [e] at ok;exact ok
 | ok d G'=>
  rw [e] at ok;intro v H' ρ' f aV r;obtain ⟨τ2,ρ2,G2,d2,bA,r2,aI⟩:=ok v H' ρ' f aV r;unfold Ib at aI;cases eg:g d2 τ2 with
  | none=>rw [eg] at aI;exact aI.elim
  | some τ3=>rw [eg] at aI;exact ⟨τ2,ρ2,G2,d2,τ3,bA,r2,eg,λσ' oG=>aI σ' H' ρ2 .refl oG⟩
end
section
variable {τ:DS} {G:DH} {e:DS→M D} {ml:DS→M (List D)} {d:D}
theorem Ic:zO ml τ G=(ml τ G).bd λds=>match nG ds with
 | some n=>λG=>if 0≤n∧n<2^30 then .ok (n.toNat+1,oJ (n - 1) (-1) n.toNat) G else .stuck
 | none=>M.stop:=aj
section
variable {mv mo mi:DS→M D} {g:jB}
theorem wC:lI mv mo mi τ G=((mv τ G).bd λv=>(mo τ).bind λo=>(mi τ).bind λi=>nq v o i).xp τ:=by unfold lI bz Out.xp;rw [aj];cases (mv τ G).bd λv=>(mo τ).bind λo=>(mi τ).bind λi=>nq v o i<;>rfl
theorem MH:wB g e τ G=(e τ G).sb τ λd G=>Ib g τ d G:=by unfold wB bz Out.sb;cases e τ G<;>rfl
end
theorem D8 {n:Int}:nG [.int n]=Zg n:=Zw rfl rfl
end
section
variable {X:Cx} {EE:bR}
theorem aq.eraseIdx:∀ (n:Nat) {ds:List D} {vs:List V},aq K mg ρ H ds vs→aq K mg ρ H (ds.eraseIdx n) (vs.eraseIdx n)
 | _,[],vs,h=>by unfold aq at h;subst h;exact .nil
 | 0,d::ds,vs,h=>by unfold aq at h;obtain ⟨v,r,rfl,h1,h2⟩:=h;exact h2
 | n+1,d::ds,vs,h=>by unfold aq at h;obtain ⟨v,r,rfl,h1,h2⟩:=h;exact .cons h1 (aq.eraseIdx n h2)
end
theorem Ie {CX:mY} {k:Nat} {f:Addr} {ps:List Str}:gA P w K mg base CX k f fd ps (fW K mg n (λ_=>M.stop)):=
 ⟨λvs H Q E zz=>by obtain ⟨ds,ρ,G,hn,hp,rs,ok⟩:=zz;exact ok.elim,λA outer s H args us vs Q E _ _ _ _ _ ⟨ds,ρ,G,hn,hp,rs,ok⟩=>ok.elim⟩
structure qA (N ps names:List Str) (sc:Scope):Prop where
 kind:sc.kind=.function
 co:sc.isCoroutine=Zk
 gen:sc.isGenerator=Zk
 nd:N.Nodup
 pre:N.take (ps.length+names.length)=ps++names
 par:∀ x∈ps,sc.names.lookup x=Zg .local
 fr:∀ x∈names,sc.names.lookup x=Zg .free
 pY:∀ y∈sc.names,y.2≠.cell
 frs:∀ y∈sc.names,y.2=.free→y.1∈names
abbrev wF (k:gY) (cs:List Addr) (L a c:Addr):Env:=PySem.W.envX k.qual k.scope L a (.ref c) (k.names.zip cs)
def Nv (CX:mY) (P:ZT) (w:aaa) (K:Zo) (mg:Str→Option Zj) (base:Heap) (N:List Str) (k:gY) (cs:List Addr) (a c:Addr) (A:Around) (outer:List Env) (s:Zq) (H:Hp) (E:XK):Cx where
 prog:=P
 w:=w
 K:=K
 mg:=mg
 base:=base
 A:=A.deeper (wF k cs s.heap.objs.size a c)
 N:=N
 s₀:=s
 H₀:=H
 env:=wF k cs s.heap.objs.size a c
 outer:=outer
 stack:=wF k cs s.heap.objs.size a c::outer
 ex:=[]
 fn:=λ_=>Zk
 calm:=Zh
 pn:=[]
 xe:=λe s'=>ZD (model P w) (A.deeper (wF k cs s.heap.objs.size a c)) (leaving (wF k cs s.heap.objs.size a c) e) (λ_ s''=>CX outer H s E e s'') (λe' s''=>CX outer H s E e' s'') s'
theorem jH:∀ {ns:List Str} {cs:List Addr} {y:Str} {c:Addr},(ns.zip cs).lookup y=Zg c→∃ i:Nat,ns[i]?=Zg y∧cs[i]?=Zg c
 | [],cs,y,c,h=>by simp at h
 | n::ns,[],y,c,h=>by simp at h
 | n::ns,d::cs,y,c,h=>by
  rw [aaW,ZW] at h;cases e:(y==n) with
  | true=>rw [e] at h;cases h;exact ⟨0,by rw [beq_iff_eq.mp e];rfl,rfl⟩
  | false=>rw [e] at h;obtain ⟨i,h1,h2⟩:=jH h;exact ⟨i+1,by simpa using h1,by simpa using h2⟩
theorem lO:∀ {ns:List Str} {cs:List Addr} {y:Str} {c:Addr} {i:Nat},ns.Nodup→ns[i]?=Zg y→cs[i]?=Zg c→(ns.zip cs).lookup y=Zg c
 | [],cs,y,c,i,_,h,_=>by simp at h
 | n::ns,[],y,c,i,_,_,h=>by simp at h
 | n::ns,d::cs,y,c,0,_,h,h2=>by simp at h h2;subst h h2;simp
 | n::ns,d::cs,y,c,i+1,nd,h,h2=>by
  have h':ns[i]?=Zg y:=by simpa using h
  have ne:(y==n)=Zk:=beq_eq_false_iff_ne.mpr λz=>(aa9.mp nd).1 (z▸Z0 h');rw [aaW,ZW,ne];exact lO (aa9.mp nd).2 h' (by simpa using h2)
theorem dF.get:∀ {cs:List Addr} {xs:List V} {i:Nat} {c:Addr},dF H cs xs→cs[i]?=Zg c→∃ x o u,xs[i]?=Zg x∧vB H c o∧o.data=.cell (Zg u)∧RelV x u
 | [],xs,i,c,_,h=>by simp at h
 | d::cs,xs,0,c,⟨x,r,o,u,e,h1,h2,h3,_⟩,h=>by simp at h;subst h e;exact ⟨x,o,u,rfl,h1,h2,h3⟩
 | d::cs,xs,i+1,c,⟨x,r,o,u,e,_,_,_,h4⟩,h=>by subst e;obtain ⟨x',o',u',g⟩:=dF.get h4 (i:=i) (by simpa using h);exact ⟨x',o',u',by simpa using g⟩
theorem dF.len:∀ {cs:List Addr} {xs:List V},dF H cs xs→xs.length=cs.length
 | [],xs,h=>by rw [show xs=[] from h];rfl
 | d::cs,xs,⟨x,r,o,u,e,_,_,_,h4⟩=>by rw [e,ZN,ZN,h4.len]
theorem ur:∀ {ps:List Str} {us:List Zj} {y:Str} {u:Zj} {i:Nat},ps.Nodup→ps[i]?=Zg y→us[i]?=Zg u→(ps.zip us).reverse.lookup y=Zg u:=by
 intro ps us y u i nd h1 h2;have key:∀ {ps:List Str} {us:List Zj} {i:Nat} (r:List (Str×Zj)),ps.Nodup→ps[i]?=Zg y→us[i]?=Zg u→((ps.zip us).reverse++r).lookup y=Zg u:=by
  intro ps
  induction ps with
  | nil=>intro us i r _ h;simp at h
  | cons p ps ih=>
   intro us i r nd h1 h2;cases us with
   | nil=>simp at h2
   | cons w us=>
    rw [aaW,aaw,aaQ];cases i with
    | zero=>
     simp at h1 h2;subst h1 h2;have Zl:∀ (q:List (Str×Zj)) (r:List (Str×Zj)),(∀ z∈q,z.1≠p)→(q++r).lookup p=r.lookup p:=by
      intro q
      induction q with
      | nil=>intro r _;rfl
      | cons z q WI=>intro r hz;rw [adu,ZW,beq_eq_false_iff_ne.mpr (aat (hz z (by simp)))];exact WI r λz' h'=>hz z' (by simp [h'])
     rw [Zl _ _ (λz hz=>by have:=(abt (adv.mp hz)).1;intro e;exact (aa9.mp nd).1 (e▸this))]
     simp
    | succ i=>exact ih ([(p,w)]++r) (aa9.mp nd).2 (by simpa using h1) (by simpa using h2)
 have:=key (ps:=ps) (us:=us) (i:=i) [] nd h1 h2
 rwa [aaA] at this
theorem Ig {CX:mY} {P:ZT} {w:aaa} {K:Zo} {mg:Str→Option Zj} {base h1:Heap} {N ps:List Str} {k:gY} {cs:List Addr} {a c:Addr} {A:Around} {outer:List Env} {s:Zq} {H:Hp} {E:XK} {us:List Zj} {vs xs:List V}
  (S:qA N ps k.names k.scope) (hd:A.handled=Zl) (e0:m9 P w K mg base A outer s H) (hl:vs.length=ps.length) (r:Vals vs us) (hcl:cs.length=k.names.length) (hnd:cs.Nodup) (hc:dF H cs xs)
  (hns:h1.Ns s.heap.objs.size λy=>(ps.zip us).reverse.lookup y) (hk:∀ b o,s.heap.get? b=Zg o→h1.get? b=Zg o) {n:Nat} (ht:0<n) :
  Inv (Nv CX P w K mg base N k cs a c A outer s H E) [] (start N (vs++xs)) H {s with heap:=h1,toks:=n}:=by
 have PK:(ps++k.names).Nodup:=by rw [← S.pre];exact S.nd.sublist (aev _ _)
 have QL:ps.Nodup:=(abB.mp PK).1;have UZ:k.names.Nodup:=(abB.mp PK).2.1;have Rf:xs.length=k.names.length:=by rw [hc.len,hcl]
 have hpl:ps.length+k.names.length≤N.length:=by have:=congrArg acG S.pre;rw [abH,ZV] at this;nofun
 have cellAt:∀ y d,(k.names.zip cs).lookup y=Zg d→∃ i x o u,k.names[i]?=Zg y∧xs[i]?=Zg x∧vB H d o∧o.data=.cell (Zg u)∧RelV x u∧s.heap.get? d=Zg o:=λy d e=>by obtain ⟨i,h1,h2⟩:=jH e;obtain ⟨x,o,u,g1,g2,g3,g4⟩:=hc.get h2;exact ⟨i,x,o,u,h1,g1,g2,g3,g4,(e0.hok d _ g2).1⟩
 have Gn:∀ b:Addr,b∉(Nv CX P w K mg base N k cs a c A outer s H E).ex:=λb z=>absurd (show b∈([]:List Addr) from z) (by simp)
 refine ⟨⟨e0.mod,S.kind,rfl,rfl,Zs _,λy z d h1 h2=>?_,λy hy=>?_,λy d h _=>absurd (show Zk=Zh from h) ZX,λ_=>hd,adW e0.frames,.inr ⟨rfl,rfl⟩,λb z=>absurd z (Gn b),e0.bs,e0.FN,λb _ _=>Gn b,λb z=>absurd z (Gn b),e0.lV,e0.F3⟩,
  ⟨rfl,ht⟩,e0.bare,Un.kept hk,⟨_,hns,λi y v h1 h2 h3=>?_⟩,λy d h=>?_,e0.hok.fresh (Zs _),λy d h=>?_,λp hp=>absurd (show p∈([]:List (Addr×Obj)) from hp) (by simp),e0.hok.kept hk,?_⟩
 ·obtain ⟨i,a1,a2⟩:=jH h1;obtain ⟨j,b1,b2⟩:=jH h2;have ij:i=j:=by obtain ⟨l1,e1⟩:=Zp.mp a2;obtain ⟨l2,e2⟩:=Zp.mp b2;exact (aaO hnd).mp (e1.trans e2.symm)
  subst ij;rw [a1] at b1;exact ZS b1
 ·have hy:k.scope.names.lookup y=Zg .cell∨k.scope.names.lookup y=Zg .free:=hy;rcases hy with hy | hy
  ·exact absurd rfl (S.pY _ (aaR hy))
  ·have hm:=S.frs _ (aaR hy) rfl;obtain ⟨i,hi,e⟩:=abG hm;have e':k.names[i]?=Zg y:=by rw [Zr hi,e]
   exact ⟨_,lO UZ e' (Zr (by nofun))⟩
 ·have hi:i<(vs++xs).length:=by
   unfold L2.start at h2;by_cases hi:i<(vs++xs).length
   ·exact hi
   ·rw [ZO (by simpa using hi)] at h2;rw [abI] at h2;split at h2<;>cases h2
  have ha:(vs++xs)[i]?=Zg v:=by
   unfold L2.start at h2;rw [ZC (by simpa using hi),ZL] at h2;cases e:(vs++xs)[i]? with
   | none=>rw [e] at h2;cases h2
   | some a=>rw [e] at h2;cases h2;rfl
  rw [ZV] at hi;have hy:(ps++k.names)[i]?=Zg y:=by rw [← S.pre,adh (by nofun)];exact h1
  by_cases hiv:i<vs.length
  ·rw [ZC hiv] at ha;rw [ZC (by nofun)] at hy;obtain ⟨u,hu,rv⟩:=r.get ha;exact ⟨u,rv,.inl ⟨S.par y (Z0 hy),ur QL hy hu⟩⟩
  ·rw [ZO (by nofun)] at ha hy;rw [hl] at ha;have hic:i - ps.length<cs.length:=by nofun
   have ec:=Zr hic;obtain ⟨x,o,u,g1,g2,g3,g4⟩:=hc.get ec;rw [g1] at ha;cases ha;refine ⟨u,g4,.inr ⟨.inr (S.fr y (Z0 hy)),_,lO UZ hy ec,o,hk _ _ (e0.hok _ _ g2).1,g3⟩⟩
 ·obtain ⟨i,x,o,u,_,_,_,g3,_,g5⟩:=cellAt y d h;exact ⟨_,o,hk _ _ g5,g3⟩
 ·obtain ⟨i,x,o,u,_,_,g2,_⟩:=cellAt y d h;exact .inr ⟨rfl,o,_,g2⟩
 ·unfold L2.start;show _=N.length;rw [ZV,ZG,adN,ZV];nofun
def zP (P:ZT) (w:aaa) (K:Zo) (mg:Str→Option Zj) (base:Heap) (CX:mY) (k:Nat) (c:gY) (n:Nat) (m:List D→M D):Prop:=
 ∀ (A:Around) (outer:List Env) (s:Zq) (H:Hp) (us:List Zj) (vs xs:List V) (Q:VK) (E:XK) (a:Addr) (cs:List Addr),cP k A→m9 P w K mg base A outer s H→0<s.toks→nX H c a cs→dF H cs xs→Vals vs us→us.length=n →
  fW K mg (n+c.names.length) m (vs++xs) H Q E→codeAny (model P w) A (.call (.ref a) ⟨us,[]⟩) (CR CX outer P w H s Q E) s
def iV (r:Out D):Out D:=match r with
 | .bq _ _=>.stuck
 | r=>r
def A9 (n:Nat) (m:DS→M D) (ds:List D):M D:=m (ds.map Zg++ZH (n - ds.length) Zl)
theorem Ih {P:ZT} {w:aaa} {K:Zo} {mg:Str→Option Zj} {base:Heap} {c:gY} {ps:List Str} {k:Nat} {m:List D→M D} (S:qA N ps c.names c.scope) (hps:ps.length=n) (hN:N.length=nn) (hm:∀ ds G,m ds G=iV (A9 nn me ds G))
  (hbind:∀ (doc pm ctv:Zj) (c':Addr) (cs:List Addr) (us:List Zj) (s:Zq),us.length=ps.length→bindArgs (vA c cs doc pm c' ctv) ⟨us,[]⟩=pure (ps.zip us)) {bd:Expr} (hbd:c.body=.expr bd)
  (hbody:∀ (X:Cx) (EE:bR) (cs:List Addr) (a c':Addr) (A:Around) (outer:List Env) (s:Zq) (H:Hp) (E:XK),X=Nv (mq P w) P w K mg base N c cs a c' A outer s H E→cP k (A.deeper (wF c cs s.heap.objs.size a c')) →
   gb X EE→PassesOwn (model P w) X.A X.env X.xe→QE X EE bd me) :
  zP P w K mg base (mq P w) (k+1) c n m:=by
 intro A outer s H us vs xs Q E a cs hr e0 htk hca hce r PL zf;obtain ⟨hcl,hnd,doc,pm,ctv,c',fo,oc,ws,t,fc,hd,hv⟩:=hca;subst hps hN;obtain ⟨ds,ρ,G,hn,hp,rs,ok⟩:=zf;have hvl:vs.length=ps.length:=by rw [r.length];exact PL
 have ho:=(e0.hok a _ fo).1;have hoc:=(e0.hok c' _ fc).1;have lim:s.heap.NoLimit:=e0.mod.nolimit.keeps λb o e=>(e0.bs b o e).1;refine PySem.W.kla_callFunE (fd:=vA c cs doc pm c' ctv) hr.depth ho rfl S.co S.gen hbd ⟨c',oc,ws,t,rfl,hoc,hd,hv⟩ ?_;rw [hbind doc pm ctv c' cs us s PL];refine Zz (adZ S.pY (λy hy=>S.par y.1 (abt hy).1) (λh1 hns U0=>⟨lim.fresh _ U0,?_⟩) S.kind);have hk1:∀ b o,s.heap.get? b=Zg o→h1.get? b=Zg o:=λb o e=>U0.extBut b o (ZE (Zu e)) (Zn _ e);have I:Inv (Nv (mq P w) P w K mg base N c cs a c' A outer s H E) [] (L2.start N (vs++xs)) H {s with heap:=h1,toks:=s.toks+(ps.zip us).length}:=Ig S hr.hd e0 hvl r hcl hnd hce hns hk1 (Zx htk (aeM _ _));have hB:=hbody _ (λ_ _ _=>False) cs a c' A outer s H E rfl (hr.deeper _) (λ_ _ _ _ _ _ _ _ _ _ z=>z.elim) acu;have hq:bh K mg (λ_ _ _=>False) me (L2.start N (vs++xs)) H Q:=by
  refine ⟨ds.map Zg++ZH (N.length - ds.length) Zl,ρ,G,⟨jC rs,hp⟩,?_⟩;rw [hm] at ok;unfold A9 at ok;cases q:me (ds.map Zg++ZH (N.length - ds.length) Zl) G with
  | stuck=>rw [q] at ok;exact ok
  | ok d G'=>rw [q] at ok;exact λv H' ρ' f ab r=>ok v H' ρ' f ab.hp r
  | bq c G'=>rw [q] at ok;exact ok.elim
 show codeAny _ _ (.expr bd (wF c cs s.heap.objs.size a c')) _ _;refine PySem.W.kla_codeExpr (Z8 (hB [] _ (L2.start N (vs++xs)) H Q I hq) (λu s' hs=>?_) λe s' hs=>hs);obtain ⟨v,H',J,rv,q⟩:=hs;exact ⟨v,H',J.os,J.bare,J.base,J.hok,rv,q⟩
def uu (i n:Nat) (JS:Str→Option (Nat×(List D→M D))) (τ:DS) (ds:List D):M D:=match τ[i]? with
 | some (Zg (.iM y caps))=>match JS y with
  | some (c,mf)=>if ds.length=n∧caps.length=c then mf (ds++caps) else M.stop
  | none=>M.stop
 | _=>M.stop
def lP (i n:Nat) (JS:Str→Option (Nat×(List D→M D))) (m:DS→M (List D)):DS→M D:=λτ G=>match τ[i]? with
 | some (Zg (.iM _ _))=>((m τ).bind (uu i n JS τ)) G
 | _=>.stuck
section
variable {X:Cx} {CX:mY} {EE:bR} {k n:Nat} {x:Str} {p pos:Pos} {e:Expr} {es:List Expr} {m:DS→M (List D)}
theorem D9 {pins:List (Addr×Obj)} {σ:L2.St} {H:Hp} {s:Zq} {Q:VK} {us:List Zj} {vs xs:List V} {τ:DS} {ρ:List Addr} {G:DH} {ds caps:List D} {a:Addr} {cs:List Addr} (F:zP X.prog X.w X.K X.mg X.base CX k zQ n mf) (hr:cP k X.A)
  (hx:G8 CX X EE) (I:Inv X pins σ H s) (r:Vals vs us) (ab:Ab X.K X.mg σ H τ ρ G) (rs:aq X.K X.mg ρ H ds vs) (hn:ds.length=n) (hca:nX H zQ a cs) (hce:dF H cs xs) (rc:aq X.K X.mg ρ H caps xs) (ok:iP X.K X.mg EE H σ τ ρ (mf (ds++caps) G) Q):ZD (model X.prog X.w) X.A (call (.ref a) us) (EP X pins σ Q) X.xe s:=by
 have h:fW X.K X.mg (n+zQ.names.length) mf (vs++xs) H Q (OP X.mg EE σ):=by
  refine ⟨ds++caps,ρ,G,?_,ab.hp,rs.append rc,?_⟩
  ·rw [ZV,hn,rc.length,hce.len,hca.1]
  cases q:mf (ds++caps) G with
  | stuck=>rw [q] at ok;exact ok
  | ok d G'=>rw [q] at ok;exact λv H' ρ' f hp r=>ok v H' ρ' f (eN.ab ab f hp) r
  | bq c G'=>rw [q] at ok;exact λcls H' ρ' hc f hp=>⟨c,hc,ok H' ρ' f (eN.ab ab f hp)⟩
 refine aei (codeAny_mono (F X.A X.stack s H us vs xs Q (OP X.mg EE σ) a cs hr I.gk I.os.2 hca hce r (by rw [← r.length,← rs.length,hn]) h) λr s' hq=>?_);cases r with
 | error e=>exact hx pins σ H s e s' I hq
 | ok fl=>
  cases fl with
  | ret u=>exact I.after hq
  | next=>exact aac hq
  | brk=>exact aac hq
  | cont=>exact aac hq
theorem nX.fn {cs:List Addr} (hok:jo P w H h) (hc:nX H zQ a cs):PySem.W.FnAt a h:=by obtain ⟨_,_,doc,pm,ctv,c,fo,_⟩:=hc;exact ⟨_,_,_,_,(hok a _ fo).1⟩
theorem Ea {JS:Str→Option (Nat×(List D→M D))} (hN:X.N[i]?=Zg x) (hv:Ce X.env.scope x) (hd:(x==("__debug__":Str))=Zk∧(x==("__classdict__":Str))=Zk)
  (hC:∀ y c mf,JS y=Zg (c,mf)→∃ k zQ,nW X.K X.mg y=Zg zQ∧zP X.prog X.w X.K X.mg X.base CX k zQ n mf∧cP k X.A) (hx:G8 CX X EE)
  (ha:QA X EE (e::es) m) (h:ao (e::es)=Zh:=by rfl):QE X EE (.Call (.Name x p) (e::es) [] pos) (lP i n JS m):=by
 have h':bf e=Zh∧ao es=Zh:=by simpa [ao] using h
 intro pins s σ H Q I hq;obtain ⟨τ,ρ,G,ab,ok⟩:=hq;unfold lP at ok;cases q:τ[i]? with
 | none=>rw [q] at ok;exact ok.elim
 | some od=>
  cases od with
  | none=>rw [q] at ok;exact ok.elim
  | some d=>
   rw [q] at ok;cases d<;>try exact ok.elim
   rename_i y caps;dsimp only at ok;obtain ⟨v,ev,rv⟩:=ab.st.2 i (.iM y caps) q;unfold Rep at rv;obtain ⟨zQ,a,cs,xs,rfl,hk,hca,hce,rc⟩:=rv;obtain ⟨τ1,ρ1,G1,fD,zx⟩:=jx (m:=m) (k:=uu i n JS) ⟨τ,ρ,G,ab,ok⟩;refine ZK (Z8 (xM hN hv hd.1 hd.2 pins s σ H (λv' H'=>v'=.ref a∧H'=H) I ⟨_,ev,rfl,rfl⟩) (λu s0 hu=>?_) λ_ _ z=>z);obtain ⟨v',H',I0,r0,rfl,rfl⟩:=hu;cases r0;refine PySem.W.callWith_F (hca.fn I0.hok) (cO (ha pos pins s0 σ H' _ I0 ⟨τ1,ρ1,G1,fD,zx⟩) λus s1 zz=>?_) (aK h'.1 _ _) (aJ h'.2);obtain ⟨vs,H1,I1,r,q⟩:=zz;obtain ⟨τ2,ρ2,G2,ds,bA,rs,aI⟩:=q;unfold uu at aI;cases q2:τ2[i]? with
   | none=>rw [q2] at aI;exact aI.elim
   | some od=>
    cases od with
    | none=>rw [q2] at aI;exact aI.elim
    | some d=>
     rw [q2] at aI;cases d<;>try exact aI.elim
     rename_i y2 JT;dsimp only at aI;obtain ⟨v2,Tj,U1⟩:=bA.st.2 i (.iM y2 JT) q2;unfold Rep at U1;obtain ⟨WJ,a2,Yx,Yy,rfl,hk2,PM,To,WK⟩:=U1;rw [ev] at Tj;cases Tj;refine ⟨PM.fn I1.hok,?_⟩;cases qt:JS y2 with
     | none=>rw [qt] at aI;exact aI.elim
     | some z=>
      obtain ⟨c,mf⟩:=z;rw [qt] at aI;dsimp only at aI;obtain ⟨k,WL,e3,F,hr⟩:=hC y2 c mf qt;rw [hk2] at e3;cases e3;by_cases hn:ds.length=n∧JT.length=c
      ·rw [if_pos hn] at aI;exact D9 F hr hx I1 r bA rs hn.1 PM To WK aI
      ·rw [if_neg hn] at aI;exact aI.elim
end
def Cx.held (X:Cx) (ns:List Str):Cx:={X with fn:=λx=>X.fn x&&!(ns.contains x)}
structure MJ (X:Cx) (H':Hp) (s':Zq):Prop where
 os:s'.os=X.s₀.os∧0<s'.toks
 bare:ab1 s'.gens
 base:Un X.fs X.ex X.H₀ H' X.s₀.heap s'.heap
 hok:jo X.prog X.w H' s'.heap
def WM (X:Cx) (D:Ends) (fl:Flow) (s':Zq):Prop:=match fl with
 | .ret u=>∃ v H',MJ X H' s'∧RelV v u∧D.rt v H'
 | .next=>∃ σ' H',MJ X H' s'∧D.nx σ' H'
 | .brk=>∃ σ' H',D.bk σ' H'
 | .cont=>∃ σ' H',D.ct σ' H'
def Eb (X:Cx) (EE:bR) (st:List Stmt) (m:MS):Prop:=∀ (pins:List (Addr×Obj)) (s:Zq) (σ:L2.St) (H:Hp) (D:Ends),Inv X pins σ H s→gB X.K X.mg EE m D σ H→ZD (model X.prog X.w) X.A (execs st X.env) (WM X D) X.xe s
section
variable {X:Cx} {EE:bR} {pins:List (Addr×Obj)} {σ:L2.St} {H:Hp} {s:Zq} {st:Stmt} {rest:List Stmt} {ms mt:MS}
def ko (y:Str):DO→Bool
 | .tab z=>z==y
 | _=>Zk
theorem zR {K:Zo} {mg:Str→Option Zj} {ρ:List Addr} {τ:DS} (h:pR K mg H ρ σ τ):∀ (js:List Nat) (caps:List D),js.mapM (λj=>(τ[j]?).join)=Zg caps→∃ xs,aq K mg ρ H caps xs∧xs.length=js.length∧∀ (l j:Nat),js[l]?=Zg j→∃ x:V,xs[l]?=Zg x∧σ[j]?=Zg (Zg x)
 | [],caps,e=>by simp at e;subst e;exact ⟨[],.nil,rfl,λl j h=>by simp at h⟩
 | j::js,caps,e=>by
  rw [List.mapM_cons] at e;cases q:(τ[j]?).join with
  | none=>rw [q] at e;cases e
  | some d=>
   rw [q] at e;cases q2:js.mapM (λj=>(τ[j]?).join) with
   | none=>rw [q2] at e;cases e
   | some ds=>
    rw [q2] at e;cases e;obtain ⟨xs,r,hl,hx⟩:=zR h js ds q2;have qj:τ[j]?=Zg (Zg d):=by
     cases z:τ[j]? with
     | none=>rw [z] at q;cases q
     | some o=>rw [z] at q;cases q;rfl
    obtain ⟨v,e1,rv⟩:=h.2 j d qj;refine ⟨v::xs,.cons rv r,by simp [hl],λl j' hj=>?_⟩;cases l with
    | zero=>simp at hj;subst hj;exact ⟨v,rfl,e1⟩
    | succ l=>exact hx l j' (by simpa using hj)
theorem qB {H:Hp}:∀ {cs:List Addr} {xs:List V},xs.length=cs.length→(∀ (l:Nat) (c:Addr) (x:V),cs[l]?=Zg c→xs[l]?=Zg x→∃ (o:Obj) (u:Zj),vB H c o∧o.data=.cell (Zg u)∧RelV x u)→dF H cs xs
 | [],[],_,_=>rfl
 | [],x::xs,h,_=>by simp at h
 | c::cs,[],h,_=>by simp at h
 | c::cs,x::xs,h,k=>by obtain ⟨o,u,h1,h2,h3⟩:=k 0 c x rfl rfl;exact ⟨x,xs,o,u,rfl,h1,h2,h3,qB (by simpa using h) λl c' x' e1 e2=>k (l+1) c' x' (by simpa using e1) (by simpa using e2)⟩
def gM (H:Hp) (h:Heap) (cs:List Addr):Hp:=λb=>if b∈cs then (h.get? b).map λo=>.dz o (.own 0) else H b
theorem fO {cs:List Addr} (e:b∉cs):gM H h cs b=H b:=if_neg e
theorem nH {cs:List Addr} {o:Obj} (e:b∈cs) (q:h.get? b=Zg o):vB (gM H h cs) b o:=by unfold vB gM;rw [if_pos e,q];rfl
theorem Ec {cs:List Addr} (I:Inv X pins σ H s) (hfn:∀ x,X.fn x=Zh) (hlen:cs.length=ns.length) (hcs:∀ (l:Nat) (y:Str),ns[l]?=Zg y→∃ c,cs[l]?=Zg c∧X.env.cells.lookup y=Zg c):Inv (Cx.held X ns) pins σ (gM H s.heap cs) s:=by
 have name:∀ c∈cs,∃ y∈ns,X.env.cells.lookup y=Zg c:=λc hc=>by
  obtain ⟨l,hl,e⟩:=abG hc;have hl2:l<ns.length:=by nofun
  obtain ⟨c',e1,e2⟩:=hcs l ns[l] (Zr hl2);rw [Zr hl,e] at e1;cases e1;exact ⟨ns[l],aau hl2,e2⟩
 have hnone:∀ c∈cs,H c=Zl:=λc hc=>by obtain ⟨y,_,e⟩:=name c hc;exact (I.jR y c e).resolve_right λz=>by rw [hfn] at z;cases z.1
 have out:∀ {b:Addr} {u:HO},H b=Zg u→gM H s.heap cs b=Zg u:=λ{b u} e=>by rw [fO (λhb=>by rw [hnone b hb] at e;cases e)];exact e
 have obj:∀ c∈cs,∃ o v,s.heap.get? c=Zg o∧o.data=.cell v:=λc hc=>by obtain ⟨y,_,e⟩:=name c hc;obtain ⟨v,o,h1,h2⟩:=I.cell y c e;exact ⟨o,v,h1,h2⟩
 refine ⟨⟨I.ok.mod,I.ok.kind,I.ok.glob,I.ok.blt,I.ok.above,I.ok.inj,I.ok.has,λx c h e=>I.ok.NP x c (hfn x) e,I.ok.hd,I.ok.frames,I.ok.stk,I.ok.VG,I.ok.bs,I.ok.FN,I.ok.F1,I.ok.F2,I.ok.lV,I.ok.F3⟩,I.os,I.bare,
  ⟨I.base.keep,I.base.slot,λb o e n hx=>?_,I.base.there,λb xs e=>out (I.base.tups b xs e),λb o u e=>out (I.base.jq b o u e),λb ps e=>?_⟩,I.loc,I.cell,?_,λx c e=>?_,λp hp=>?_,λb ob e=>?_,I.len⟩
 ·rw [fO (λhb=>?_)]
  ·exact I.base.free b o e n hx
  ·obtain ⟨y,_,ec⟩:=name b hb;exact absurd (Zx (Zu e) (I.ok.NP y b (hfn y) ec)) (aao _)
 ·obtain ⟨more,z⟩:=I.base.j0 b ps e;exact ⟨more,out z⟩
 ·show gM H s.heap cs X.env.locals=Zl;rw [fO (λhb=>?_)]
  ·exact I.free
  ·obtain ⟨y,_,ec⟩:=name _ hb;exact I.Cg y _ ec rfl
 ·by_cases hc:c∈cs
  ·obtain ⟨o,v,h1,_⟩:=obj c hc;obtain ⟨y,hy,ec⟩:=name c hc;have e':X.env.cells.lookup x=Zg c:=e;have hxy:x=y:=I.ok.inj x y c e' ec;subst hxy;refine .inr ⟨?_,o,_,nH hc h1⟩;show (X.fn x&&!(ns.contains x))=Zk;rw [List.contains_iff_mem.mpr hy];simp
  ·refine .inl ?_;rw [fO hc];exact (I.jR x c e).resolve_right λz=>by rw [hfn] at z;cases z.1
 ·obtain ⟨e,n,ne,nf,d⟩:=I.pin p hp;refine ⟨e,?_,ne,nf,d⟩;rw [fO (λhb=>?_)]
  ·exact n
  ·obtain ⟨o,v,h1,h2⟩:=obj _ hb;rw [e] at h1;cases h1;exact d v h2
 ·by_cases hb:b∈cs
  ·obtain ⟨o,v,h1,h2⟩:=obj b hb;have z:Zg (HO.dz o (.own 0))=Zg ob:=(nH (H:=H) hb h1).symm.trans e;cases z;exact ⟨h1,o,h1⟩
  ·rw [fO hb] at e;exact (I.hok b ob e).stay (λc u hc q=>q) (λc q=>out q) λc xs q=>out q
end
section
variable {X:Cx} {EE:bR} {pins:List (Addr×Obj)} {σ:L2.St} {H:Hp} {s:Zq} {st:Stmt} {rest:List Stmt} {ms mt:MS}
structure Made (P c':Addr) (H:Hp) (h h':Heap) (ps ps':Array Zj) (oc:Obj):Prop where
 ext:∀ b o,b≠P→h.get? b=Zg o→h'.get? b=Zg o
 tab:h'.get? P=Zg (abn ps')
 code:h'.get? c'=Zg oc
 sz:h.objs.size≤h'.objs.size
 old:(H c'=Zl∧h.objs.size≤c')∨H c'=Zg (.dz oc (.own 0))
 grow:∃ more,ps'=ps++more
def gm (H:Hp) (P c' a:Addr) (ps':Array Zj) (oc fo:Obj):Hp:=upd (upd (upd H P (.lU ps')) c' (.dz oc (.own 0))) a (.dz fo (.own 0))
theorem sH {P:Addr} {ps:Array Zj} {oc:Obj} (M:Made P c' H h h' ps ps' oc) (hok:jo Pg w H h) (ha:a=h'.objs.size) (eP:H P=Zg (.lU ps)) {b:Addr} {u:HO} (e:H b=Zg u) (hb:b≠P):gm H P c' a ps' oc fo b=Zg u:=by
 have hba:b≠a:=λz=>by have:=hok.fresh (a:=b) (by rw [z,ha];exact M.sz);rw [this] at e;cases e
 unfold gm;rw [aA hba];by_cases hbc:b=c'
 ·subst hbc;rcases M.old with ⟨z,_⟩ | z
  ·rw [z] at e;cases e
  ·rw [aN,← e,z]
 ·rw [aA hbc,aA hb];exact e
theorem Ed {P:Addr} {ps:Array Zj} {oc:Obj} (I:Inv X pins σ H s) (M:Made P c' H s.heap h' ps ps' oc) (eP:H P=Zg (.lU ps)) (ht:0<t') (hfo:fo.isFreed=Zk) :
  Inv X pins σ (gm H P c' h'.objs.size ps' oc fo) {s with heap:=h'.push fo,toks:=t'}:=by
 have hca:c'≠h'.objs.size:=ZE (Zu M.code);have Tp:P<s.heap.objs.size:=I.hok.lt eP;have hPa:P≠h'.objs.size:=ZE (Zx Tp M.sz);have Tq:c'≠P:=by
  rintro rfl;rcases M.old with ⟨z,_⟩ | z
  ·rw [eP] at z;cases z
  ·rw [eP] at z;cases z
 have wG:∀ {b:Addr} {u:HO},H b=Zg u→b≠P→gm H P c' h'.objs.size ps' oc fo b=Zg u:=λe hb=>sH M I.hok rfl eP e hb;have PN:gm H P c' h'.objs.size ps' oc fo P=Zg (.lU ps'):=by unfold gm;rw [aA hPa,aA (aat Tq),aN]
 have atC:gm H P c' h'.objs.size ps' oc fo c'=Zg (.dz oc (.own 0)):=by unfold gm;rw [aA hca,aN]
 have Rg:gm H P c' h'.objs.size ps' oc fo h'.objs.size=Zg (.dz fo (.own 0)):=aN;have pP:(h'.push fo).get? P=Zg (abn ps'):=Zn _ M.tab;have keep:∀ b o,b≠P→s.heap.get? b=Zg o→(h'.push fo).get? b=Zg o:=λb o hb e=>Zn _ (M.ext b o hb e);refine I.step (g':=s.gens) (d':=s.drawn) (t':=t') (ch:=[]) (λ_ z=>nomatch z) (λb o hL hb _ e n=>keep b o (λz=>by rw [z,eP] at n;cases n) e) (λb o hL hb _ e n=>⟨o.slots,keep b o (λz=>by rw [z,eP] at n;cases n) e⟩) (λb o _ e n=>?_) (λb o _ e=>?_) (λb xs e=>wG e λz=>by rw [z,eP] at e;cases e) (λb o u e=>wG e λz=>by rw [z,eP] at e;cases e) (λb qs e=>?_) (λm hn=>?_) (λb ob e=>?_) I.bare ht
 ·have DK:=Zu e;have h1:b≠h'.objs.size:=ZE (Zx DK M.sz);have h2:b≠c':=by
   rintro rfl;rcases M.old with ⟨_,z⟩ | z
   ·exact absurd (Zx DK z) (aao _)
   ·rw [n] at z;cases z
  have h3:b≠P:=λz=>by rw [z,eP] at n;cases n
  unfold gm;rw [aA h1,aA h2,aA h3];exact n
 ·by_cases hb:b=P
  ·exact ⟨_,hb▸pP⟩
  ·exact ⟨o,keep b o hb e⟩
 ·by_cases hb:b=P
  ·subst hb;rw [eP] at e;cases e;obtain ⟨more,z⟩:=M.grow;exact ⟨more,by rw [PN,z]⟩
  ·exact ⟨#[],by rw [wG e hb];simp⟩
 ·have WN:X.env.locals≠P:=λz=>by have:=I.free;rw [z,eP] at this;cases this
  exact (hn.extBut (λb o hb e=>M.ext b o hb e) WN).push _
 ·by_cases U3:b=h'.objs.size
  ·subst U3;rw [Rg] at e;cases e;exact ⟨Zv _ hfo,_,Zv _ hfo⟩
  ·by_cases U4:b=c'
   ·subst U4;rw [atC] at e;cases e;exact ⟨Zn _ M.code,_,Zn _ M.code⟩
   ·by_cases JU:b=P
    ·subst JU;rw [PN] at e;cases e;exact pP
    ·have e':H b=Zg ob:=by unfold gm at e;rw [aA U3,aA U4,aA JU] at e;exact e
     refine (I.hok b ob e').stay (λc u hc q=>keep c u (λz=>?_) q) (λc q=>wG q λz=>by rw [z,eP] at q;cases q) λc xs q=>wG q λz=>by rw [z,eP] at q;cases q
     rcases hc with rfl | hc
     ·exact JU z
     ·rw [z,eP] at hc;cases hc
theorem Ba (hG:G.any (ko y)=Zh):∃ t:Nat,G[t]?=Zg (.tab y):=by
 obtain ⟨o,hm,ho⟩:=List.any_eq_true.mp hG;obtain ⟨t,WO,WQ⟩:=abG hm;refine ⟨t,?_⟩;rw [Zr WO,WQ];cases o with
 | tab z=>rw [show z=y from beq_iff_eq.mp ho]
 | lst _=>cases ho
 | _=>cases ho
structure zS (X:Cx) (k:gY) (y:Str) (js:List Nat) (cs:List Addr) (c P:Addr):Prop where
 hk:nW X.K X.mg y=Zg k
 hcode:X.env.code=.ref c
 htab:aaZ X.K y=Zg (c,P)
 hC:abN X.base c P
 hB:X.base.BuiltinsAt X.mg P
 hcl:closureFor k.scope X.env=pure (k.names.zip cs)
 hlen:cs.length=k.names.length
 hnd:cs.Nodup
 hcs:∀ (l:Nat) (z:Str),k.names[l]?=Zg z→∃ d,cs[l]?=Zg d∧X.env.cells.lookup z=Zg d
 PR:js.length=k.names.length
 hjn:∀ (l j:Nat) (z:Str),js[l]?=Zg j→k.names[l]?=Zg z→X.N[j]?=Zg z
 hcell:∀ z∈k.names,X.env.scope.names.lookup z=Zg .cell
 hfn:∀ x,X.fn x=Zh
theorem Bb {k:gY} {cs:List Addr} {P:Addr} {t:Nat} {ps:Array Zj} {tk:Nat} {doc pm ctv:Zj} {oc:Obj} (T:zS X k y js cs c P) (I:Inv X pins σ H s) (ab:Ab X.K X.mg σ H τ ρ G)
  (gt:G[t]?=Zg (.tab y)) (eρ:ρ[t]?=Zg P) (eP:H P=Zg (.lU ps)) (hcap:js.mapM (λj=>(τ[j]?).join)=Zg caps) (htk:0<tk) (M:Made P c' H s.heap h' ps ps' oc) (hd:oc.data=.fields ws) (hv:ws[1]?=Zg (.str k.qual tz)) (MK:ps'=#[abA k.pos.line,abA k.pos.col,.ref c']) :
  ∃ H2,Inv (Cx.held X k.names) pins σ H2 {s with heap:=h'.push (gn k cs doc pm c' ctv),toks:=tk}∧bX X.K H H2 ρ ρ∧eN X.K X.mg H2 ρ G∧Rep X.K X.mg ρ H2 (.iM y caps) (.ref h'.objs.size):=by
 obtain ⟨hk,hcode,htab,hC,hB,hcl,hlen,hnd,hcs,PR,hjn,hcell,hfn⟩:=T;obtain ⟨xs,PU,Rf,hx⟩:=zR ab.st js caps hcap;have I1:=Ed (fo:=gn k cs doc pm c' ctv) I M eP htk rfl;have wG:∀ {b:Addr} {u:HO},H b=Zg u→b≠P→gm H P c' h'.objs.size ps' oc (gn k cs doc pm c' ctv) b=Zg u:=λe hb=>sH M I.hok rfl eP e hb;have hca:c'≠h'.objs.size:=ZE (Zu M.code);have Tp:P<s.heap.objs.size:=I.hok.lt eP;have hPa:P≠h'.objs.size:=ZE (Zx Tp M.sz);have Tq:c'≠P:=by
  rintro rfl;rcases M.old with ⟨z,_⟩ | z
  ·rw [eP] at z;cases z
  ·rw [eP] at z;cases z
 have PN:gm H P c' h'.objs.size ps' oc (gn k cs doc pm c' ctv) P=Zg (.lU ps'):=by unfold gm;rw [aA hPa,aA (aat Tq),aN]
 have atC:gm H P c' h'.objs.size ps' oc (gn k cs doc pm c' ctv) c'=Zg (.dz oc (.own 0)):=by unfold gm;rw [aA hca,aN]
 have Rg:gm H P c' h'.objs.size ps' oc (gn k cs doc pm c' ctv) h'.objs.size=Zg (.dz (gn k cs doc pm c' ctv) (.own 0)):=aN;generalize gm H P c' h'.objs.size ps' oc (gn k cs doc pm c' ctv)=H1 at I1 wG PN atC Rg;generalize hs1:({s with heap:=h'.push (gn k cs doc pm c' ctv),toks:=tk}:Zq)=s1 at I1 ⊢;have I3:=Ec (ns:=k.names) I1 hfn hlen hcs;have PV:∀ d∈cs,H1 d=Zl:=λd WR=>by
  obtain ⟨l,hl,e⟩:=abG WR;have hl2:l<k.names.length:=by nofun
  obtain ⟨d',e1,e2⟩:=hcs l k.names[l] (Zr hl2);rw [Zr hl,e] at e1;cases e1;exact (I1.jR _ _ e2).resolve_right λz=>by rw [hfn] at z;cases z.1
 have out:∀ {b:Addr} {u:HO},H1 b=Zg u→gM H1 s1.heap cs b=Zg u:=λ{b u} e=>by rw [fO (λhb=>by rw [PV b hb] at e;cases e)];exact e
 have Ii:∀ {b:Addr} {u:HO},H b=Zg u→b≠P→gM H1 s1.heap cs b=Zg u:=λe hb=>out (wG e hb);have fut:bX X.K H (gM H1 s1.heap cs) ρ ρ:=by refine ⟨λb zs hh=>?_,λb q u hh=>Ii hh λz=>(by rw [z,eP] at hh;cases hh),⟨[],by simp⟩,λb φ hh=>Ii hh λz=>(by rw [z,eP] at hh;cases hh)⟩;rw [pQ] at hh ⊢;exact Ii hh λz=>by rw [z,eP] at hh;cases hh
 have Ef:ni (gM H1 s1.heap cs) c' k.qual:=⟨oc,ws,tz,out atC,hd,hv⟩;have B5:eN X.K X.mg (gM H1 s1.heap cs) ρ G:=by
  refine ⟨ab.hp.hl,ab.hp.nd,λn ob e=>?_⟩;obtain ⟨a',e1,r⟩:=ab.hp.ob n ob e;by_cases ha':a'=P
  ·subst ha';have hnt:n=t:=by obtain ⟨l1,q1⟩:=Zp.mp e1;obtain ⟨l2,q2⟩:=Zp.mp eρ;exact (aaO ab.hp.nd).mp (q1.trans q2.symm)
   subst hnt;rw [gt] at e;cases e;exact ⟨a',e1,ps',c,k,out PN,htab,hk,.inr ⟨c',MK,Ef⟩⟩
  ·exact ⟨a',e1,r.mono fut λu q=>Ii q ha'⟩
 have hce:dF (gM H1 s1.heap cs) cs xs:=by
  refine qB (by rw [Rf,PR,hlen]) λl d x e1 e2=>?_;have hl:l<js.length:=by have:=(Zp.mp e2).1;nofun
  have hl2:l<k.names.length:=by nofun
  obtain ⟨x',e3,e4⟩:=hx l js[l] (Zr hl);rw [e2] at e3;cases e3;have nm:=hjn l js[l] k.names[l] (Zr hl) (Zr hl2);have kc:=hcell k.names[l] (aau hl2);obtain ⟨m,_,hlk⟩:=I1.loc;obtain ⟨u,ru,lk⟩:=hlk js[l] k.names[l] x nm e4 (.inr (.inl kc));rcases lk with ⟨kk,_⟩ | ⟨_,d',e5,WS,e6,e7⟩
  ·have U5:X.env.scope.names.lookup k.names[l]=Zg .local:=kk;rw [kc] at U5;cases U5
  ·obtain ⟨d2,e8,e9⟩:=hcs l k.names[l] (Zr hl2);rw [e1] at e8;cases e8;rw [e9] at e5;cases e5;exact ⟨WS,u,nH (Z0 e1) e6,e7,ru⟩
 refine ⟨_,I3,fut,B5,?_⟩;unfold Rep;exact ⟨k,_,cs,xs,rfl,hk,⟨hlen,hnd,doc,pm,ctv,c',out Rg,Ef⟩,hce,PU.mono fut⟩
theorem Bc {k:gY} {cs:List Addr} {P:Addr} (T:zS X k y js cs c P) (I:Inv X pins σ H s) (ab:Ab X.K X.mg σ H τ ρ G) (hG:G.any (ko y)=Zh) :
  ∃ (t:Nat) (ps:Array Zj),G[t]?=Zg (.tab y)∧ρ[t]?=Zg P∧H P=Zg (.lU ps)∧s.heap.get? P=Zg (abn ps)∧abN s.heap c P∧s.heap.Ns mainGlobals X.mg∧mainGlobals≠P∧s.heap.BuiltinsAt X.mg P ∧
   (ps=#[]∨∃ (c':Addr) (oc:Obj) (ws:Array Zj) (tz:Tok),ps=#[abA k.pos.line,abA k.pos.col,.ref c']∧H c'=Zg (.dz oc (.own 0))∧s.heap.get? c'=Zg oc∧oc.data=.fields ws∧ws[1]?=Zg (.str k.qual tz)):=by
 obtain ⟨t,gt⟩:=Ba hG;obtain ⟨P',eρ,ps,c0,k0,eP,et,ek,hps⟩:=ab.hp.ob t _ gt;rw [T.htab] at et;cases et;rw [T.hk] at ek;cases ek;have hP:s.heap.get? P=Zg (abn ps):=I.hok P _ eP;have hg:s.heap.Ns mainGlobals X.mg:=I.ok.mod.glob.keeps I.bk;refine ⟨t,ps,gt,eρ,eP,hP,T.hC.keeps I.bk,hg,λz=>?_,?_,?_⟩
 ·obtain ⟨o,es,ep,e,hd,_⟩:=hg;rw [z,hP] at e;cases e;cases hd
 ·obtain ⟨bm,o,b1,b2,b3,b4,b5,b6⟩:=T.hB;exact ⟨bm,o,b1,b2,b3,b4,I.bk _ _ b5,b6⟩
 ·rcases hps with rfl | ⟨c',rfl,oc,ws,tz,fc,hd,hv⟩
  ·exact .inl rfl
  ·exact .inr ⟨c',oc,ws,tz,rfl,fc,(I.hok c' _ fc).1,hd,hv⟩
def Ij (X:Cx) (ns:List Str) (EE:bR) (e:Expr) (m:DS→M D):Prop:=∀ (pins:List (Addr×Obj)) (s:Zq) (σ:L2.St) (H:Hp) (Q:VK),Inv X pins σ H s→bh X.K X.mg EE m σ H Q→ZD (model X.prog X.w) X.A (eval e X.env) (EP (Cx.held X ns) pins σ Q) X.xe s
def PX (X:Cx) (ns:List Str) (EE:bR) (es:List Expr) (m:DS→M (List D)):Prop:=∀ (pos:Pos) (pins:List (Addr×Obj)) (s:Zq) (σ:L2.St) (H:Hp) (Q:List V→Hp→Prop),Inv X pins σ H s→gU X.K X.mg EE m σ H Q→ZD (model X.prog X.w) X.A (spliced (backTo pos (ZF es X.env))) (AP (Cx.held X ns) pins σ Q) X.xe s
def Bd (y:Str) (js:List Nat):DS→M D:=λτ G=>if G.any (ko y)=Zh then match js.mapM (λj=>(τ[j]?).join) with
 | some caps=>.ok (.iM y caps) G
 | none=>.stuck
 else .stuck
theorem Ik {k:gY} {cs:List Addr} {P:Addr} {bd:Expr} (he:e=.Lambda k.params bd k.scope k.pos) (hbd:k.body=.expr bd) (hnm:k.name="<lambda>") (T:zS X k y js cs c P) (hdef:defaultsOf k.params X.env=([],[])) (hq:X.env.qual++"<lambda>"=k.qual):Ij X k.names EE e (Bd y js):=by
 subst he;intro pins s σ H Q I h;obtain ⟨τ,ρ,G,ab,ok⟩:=h;unfold Bd at ok;by_cases hG:G.any (ko y)=Zh
 ·rw [if_pos hG] at ok;cases hcap:js.mapM (λj=>(τ[j]?).join) with
  | none=>rw [hcap] at ok;exact ok.elim
  | some caps=>
   rw [hcap] at ok;dsimp only at ok;obtain ⟨t,ps,gt,eρ,eP,hP,U6,hg,hgP,U7,hps⟩:=Bc T I ab hG;have PY:∀ (pm ctv:Zj) (c':Addr),PySem.W.kla_obj "<lambda>" k.qual k.params bd k.scope (k.names.zip cs) pm c' ctv=gn k cs .none pm c' ctv:=λpm ctv c'=>by unfold gn vA;rw [hbd,hnm]
   have fin:∀ (h':Heap) (tk:Nat) (c':Addr) (pm ctv:Zj) (ps':Array Zj) (oc:Obj) (ws:Array Zj) (tz:Tok),0<tk→Made P c' H s.heap h' ps ps' oc→oc.data=.fields ws→ws[1]?=Zg (.str k.qual tz) →
     ps'=#[abA k.pos.line,abA k.pos.col,.ref c']→EP (Cx.held X k.names) pins σ Q (.ref h'.objs.size) {s with heap:=h'.push (gn k cs .none pm c' ctv),toks:=tk}:=by
    intro h' tk c' pm ctv ps' oc ws tz htk M hd hv MK;obtain ⟨H2,I3,fut,B5,WT⟩:=Bb (doc:=.none) (pm:=pm) (ctv:=ctv) T I ab gt eρ eP hcap htk M hd hv MK;exact ⟨.ref h'.objs.size,H2,I3,rfl,ok _ H2 ρ fut ⟨ab.st.mono fut,B5⟩ WT⟩
   refine PySem.W.kla_eval hdef ?_;rw [hq];rcases hps with rfl | ⟨c',oc,ws,tz,rfl,fc,ML,hd,hv⟩
   ·refine gS I.os.2 (PySem.W.kla_makeFunction (mg:=X.mg) T.hcl I.ok.glob hg T.hcode U6 hP trivial rfl hgP U7 λc' ctv h' tk hx hge hlt hrec htb=>λhtk=>?_);obtain ⟨c₂,oc,ws,tz,e2,hoc,hd,hv⟩:=hrec;cases e2;rw [PY];exact fin h' tk c' _ ctv _ oc ws tz htk ⟨λb o hb e=>hx b o hb e,htb,hoc,aal hge (acU hlt),.inl ⟨I.hok.fresh hge,hge⟩,⟨_,rfl⟩⟩ hd hv (by simp)
   ·refine gS I.os.2 (PySem.W.kla_makeFunctionHit (mg:=X.mg) (cv:=.ref c') T.hcl I.ok.glob hg T.hcode U6 hP trivial (by simp [codeAmong,abA]) U7 λctv h' tk hkp hsz=>λhtk=>?_);have:=fin h' tk c' ((X.mg "__name__").getD .none) ctv _ oc ws tz htk ⟨λb o _ e=>hkp b o e,hkp _ _ hP,hkp _ _ ML,hsz,.inr fc,⟨#[],by simp⟩⟩ hd hv rfl;rw [← PY] at this;exact this
 ·rw [if_neg hG] at ok;exact ok.elim
theorem qC {Q:List V→Hp→Prop} (h:gU X.K X.mg EE (aa m r) σ H Q):ze (bh X.K X.mg EE m) (gU X.K X.mg EE r) σ H Q:=by
 obtain ⟨τ,ρ,G,ab,ok⟩:=CM (k:=λτ x=>(r τ).bind λxs=>M.ret (x::xs)) h;refine ⟨τ,ρ,G,ab,?_⟩;cases e:m τ G with
 | stuck=>rw [e] at ok;exact ok
 | bq c G'=>rw [e] at ok;exact ok
 | ok d G'=>
  rw [e] at ok;intro v H' ρ' f' aV r';obtain ⟨τ2,ρ2,G2,d2,bA,r2,aI⟩:=ok v H' ρ' f' aV r';refine ⟨τ2,ρ2,G2,bA,?_⟩;dsimp only [M.bind] at aI;cases e2:r τ2 G2 with
  | stuck=>rw [e2] at aI;exact aI
  | bq c G'=>rw [e2] at aI;exact aI
  | ok d3 G3=>rw [e2] at aI;exact λv3 H3 ρ3 f3 oG r3=>aI (v::v3) H3 ρ3 f3 oG (.cons (r2.mono f3) r3)
theorem Eg (ha:QE X EE e m) (h:bf e=Zh) (hr:PX X ns EE es r):PX X ns EE (e::es) (aa m r):=by intro pos pins s σ H Q I hq;rw [aK h];show ZD _ _ (spliced ((Zk,eval e X.env)::backTo pos (ZF es X.env))) _ _ s;refine aaz (cO (ha pins s σ H _ I (qC hq)) λu s1 zz=>?_);obtain ⟨x,H1,I1,r1,q1⟩:=zz;exact cO (hr pos pins s1 σ H1 _ I1 q1) λus s2 zz=>by obtain ⟨xs,H2,I2,r2,q2⟩:=zz;exact ⟨x::xs,H2,I2,.cons r1 r2,q2⟩
theorem Il (ha:Ij X ns EE e m) (h:bf e=Zh):PX X ns EE [e] (aa m ah):=by
 intro pos pins s σ H Q I hq;rw [aK h];show ZD _ _ (spliced ((Zk,eval e X.env)::backTo pos (ZF [] X.env))) _ _ s;refine aaz (cO (ha pins s σ H _ I (qC hq)) λu s1 zz=>?_);obtain ⟨x,H1,I1,r1,q1⟩:=zz;have hn:PA (Cx.held X ns) [] Gj:=x8;have WU:Gj σ H1 λxs H2=>Q (x::xs) H2:=by obtain ⟨τ,ρ,G,ab,ok⟩:=q1;exact ok [] H1 ρ .refl ab .nil
 exact cO (hn pos pins s1 σ H1 _ I1 WU) λus s2 zz=>by obtain ⟨xs,H2,I2,r2,q2⟩:=zz;exact ⟨x::xs,H2,I2,.cons r1 r2,q2⟩
theorem Eh {CX:mY} {k:Nat} {f:Addr} {ps:List Str} {p pos:Pos} {m:DS→M (List D)} (F:gA X.prog X.w X.K X.mg X.base CX k f fd ps (fW X.K X.mg n mf)) (hr:cP k X.A) (hm:X.mg x=Zg (.ref f)) (hk:Z5 X.K (.ref f)=Zh) (hb:Binds X.K fd ps []) (hx:G8 CX (Cx.held X ns) EE) (hg:Gl X x)
  (hd:(x==("__debug__":Str))=Zk∧(x==("__classdict__":Str))=Zk) (ha:PX X ns EE (e::es) m) (h:ao (e::es)=Zh:=by rfl):Ij X ns EE (.Call (.Name x p) (e::es) [] pos) (az n mf m):=by
 have h':bf e=Zh∧ao es=Zh:=by simpa [ao] using h
 intro pins s σ H Q I hq;obtain ⟨τ1,ρ1,G1,fD,zx⟩:=jx (k:=λ_ ds=>if ds.length=n then mf ds else M.stop) hq;refine ZK (Z8 (zd hg hm (v:=.ref f) rfl hd.1 pins s σ H (λv' H'=>v'=.ref f∧H'=H) I ⟨rfl,rfl⟩) (λu s0 hu=>?_) λ_ _ z=>z);obtain ⟨v',H',I0,r0,rfl,rfl⟩:=hu;cases r0;refine abj (h₀:=X.base) I0.ok.mod.BZ hk (cO (ha pos pins s0 σ H' _ I0 ⟨τ1,ρ1,G1,fD,zx⟩) λus s1 ⟨vs,H1,I1,r,q⟩=>⟨I1.oY,?_⟩) (aK h'.1 _ _) (aJ h'.2);obtain ⟨τ2,ρ2,G2,ds,bA,rs,aI⟩:=q;by_cases hn:ds.length=n
 ·rw [if_pos hn] at aI;exact o9 (X:=Cx.held X ns) F hr hb hx I1 r bA rs hn aI
 ·rw [if_neg hn] at aI;exact aI.elim
end
section
variable {P:ZT} {w:aaa} {K:Zo} {mg:Str→Option Zj} {base:Heap} {f:Addr} {fd:FuncData}
theorem Tr {st:Stmt} {ps:List Str} {k:Nat} {m:List D→M D} {c Pt:Addr} (F:rZ K x qual st f fd) (S:fY N ps (au st)) (hps:ps.length=n) (hN:N.length=nn) (hm:∀ ds G,m ds G=iV (bL nn ms ds G))
  (htab:aaZ K x=Zg (c,Pt)) (WV:mg x=Zg (.ref f))
  (hbody:∀ (X:Cx) (EE:bR) (A:Around) (outer:List Env) (s:Zq) (H:Hp) (E:XK),X=lB (mq P w) P w K mg base N qual (au st) f (.ref c) A outer s H E→cP k (A.deeper (aaT qual (au st) s.heap.objs.size f (.ref c))) →
   gb X EE→(∀ ns,gb (Cx.held X ns) EE)→PassesOwn (model P w) X.A X.env X.xe→Eb X EE (ck st) ms) :
  gA P w K mg base (mq P w) (k+1) f fd ps (fW K mg n m):=by
 subst hps hN;obtain ⟨oc,od,kV,doc,pm,an,cdv,ct,osl,rfl,lk,hcd⟩:=F.ex;refine ⟨λvs H Q E h=>h.len,λA outer s H args us vs Q E hr e0 htk hb r zf=>?_⟩;have hc:cdv=.ref c:=PySem.W.law_code e0.mod.BZ e0.mod.glob htab WV (e0.mod.BZ _ _ lk) rfl;subst hc;have hl:=zf.len;obtain ⟨ds,ρ,G,hn,hp,rs,ok⟩:=zf;have KX:K.In s.heap:=e0.mod.BZ.keeps λb o e=>(e0.bs b o e).1;have lim:s.heap.NoLimit:=e0.mod.nolimit.keeps λb o e=>(e0.bs b o e).1;have hkind:∀ y∈ps.zip us,(au st).names.lookup y.1=Zg .local∨((au st).names.lookup y.1=Zg .cell∧((cellsFrom (s.heap.objs.size+1) (au st).names []).lookup y.1).isSome=Zh):=λzz hy=>by
  obtain ⟨n,v⟩:=zz;rcases S.par n (abt hy).1 with q | q
  ·exact .inl q
  ·exact .inr ⟨q,abO _ _ _ (.inl q)⟩
 refine codeAny_call_function hr.depth (KX _ _ lk) rfl S.co S.gen rfl (ac3 KX hcd) (hb _ _ _ _ ?_);refine gS htk (abZ S.kind hkind λenv he s1 x=>λLb=>?_);subst he;refine ⟨lim.keeps x.toInCall.keep,codeAny_func ?_⟩;have hB:=hbody _ (λ_ _ _=>False) A outer s H E rfl (hr.deeper _) (λ_ _ _ _ _ _ _ _ _ _ z=>z.elim) (λ_ _ _ _ _ _ _ _ _ _ _ z=>z.elim) acu;have I:Inv (lB (mq P w) P w K mg base N qual (au st) f (.ref c) A outer s H E) [] (L2.start N vs) H s1:=nc S hr.hd e0 hl r x (n:=s1.toks) Lb;have hq:gB K mg (λ_ _ _=>False) ms {nx:=λ_ H'=>Q .cy H',rt:=Q} (L2.start N vs) H:=by
  refine ⟨ds.map Zg++ZH (N.length - ds.length) Zl,ρ,G,⟨jC rs,hp⟩,?_⟩;rw [hm] at ok;dsimp only [bL] at ok;cases q:ms (ds.map Zg++ZH (N.length - ds.length) Zl) G with
  | stuck=>rw [q] at ok;exact ok
  | nx τ G'=>rw [q] at ok;exact λσ' H' ρ' f ab=>ok .cy H' ρ' f ab.hp (by unfold Rep;rfl)
  | rt d G'=>rw [q] at ok;exact λv H' ρ' f hp r=>ok v H' ρ' f hp r
  | bk τ G'=>rw [q] at ok;exact ok.elim
  | ct τ G'=>rw [q] at ok;exact ok.elim
  | xn c τ G'=>rw [q] at ok;exact ok.elim
 refine Z8 (hB [] s1 (L2.start N vs) H _ I hq) (λfl s' hs=>?_) λe s' hs=>hs
 have fin:∀ {H':Hp} {v:V} {u:Zj},MJ (lB (mq P w) P w K mg base N qual (au st) f (.ref c) A outer s H E) H' s'→RelV v u→Q v H'→CE outer P w H s Q u s':=
  λ{H' v u} J rv q=>⟨v,H',J.os,J.bare,J.base,J.hok,rv,q⟩
 cases fl with
 | ret u=>obtain ⟨v,H',J,rv,q⟩:=hs;exact fin J rv q
 | next=>obtain ⟨σ',H',J,q⟩:=hs;exact fin (v:=V.cy) (u:=Value.none) J rfl q
 | brk=>obtain ⟨_,_,q⟩:=hs;exact aac q
 | cont=>obtain ⟨_,_,q⟩:=hs;exact aac q
end
section
open PyProof.Rows
def zT (Pt:Addr) (H:Hp):Prop:=H Pt=Zg (.lU #[])∧∀ b,b≠Pt→H b=Zl∨∃ o xs,H b=Zg (.dz o (.lst xs))
theorem Be {P:ZT} {w:aaa} {K:Zo} {mg mb:Str→Option Zj} {CX:mY} {k:Nat} {fa a c Pt:Addr} {fd:FuncData} {x:Str} {sp:Sp} {s₁:Zq} {vs:List Zj} {ns:List Int}
  (KX:K.In s₁.heap) (hns:s₁.heap.Ns mainGlobals mg) (hb:s₁.heap.Ns builtinsNs mb) (QU:∀ x:Str,x≠"__name__"→mb x=bootBuiltins x) (hlim:s₁.heap.NoLimit) (hg:s₁.gens=#[])
  (ha:s₁.heap.get? a=Zg {cls:=.type "list",data:=.seq vs.toArray}) (hi:PyProof.Rows.IntsAre vs ns) (hl:ns.length≤Zm) (hr:cP k callerA)
  (U8:abN s₁.heap c Pt) (Nx:s₁.heap.get? Pt=Zg (abn #[])) (WW:K.lookup Pt=Zl) (WX:s₁.heap.BuiltinsAt mg Pt)
  (F:∀ base:Heap,K.In base→base.Ns mainGlobals mg→abN base c Pt→base.BuiltinsAt mg Pt→jS P w K mg base CX k fa fd [x] sp) (hbind:∀ (s:Zq) (u:Zj),BindsTo s fd ⟨[u],[]⟩ [(x,u)])
  (zf:∀ H:Hp,zT Pt H→GH K H a (ns.map V.int)→sp [.ref a] H (λv _=>v=.bl Zh) λ_ _ _=>False)
  (Tt:∀ H e s',CX [] H s₁ (λ_ _ _=>False) e s'→False) :
  codeAny (model P w) callerA (.call (.ref fa) ⟨[.ref a],[]⟩) (λr s'=>r=.ok (.ret (.bool Zh))∧OldK s₁.heap s'.heap∧s'.os=s₁.os∧ab1 s'.gens) s₁:=by
 have rv:=rY hi;have Tu:=hi.length;have U9:a≠Pt:=λz=>by rw [z,Nx] at ha;cases ha
 have core:∀ H:Hp,zT Pt H→GH K H a (ns.map V.int)→jo P w H s₁.heap→(∀ b,H b≠Zl→b=a∨b=Pt)→(H a≠Zl→K.lookup a=Zl) →
   codeAny (model P w) callerA (.call (.ref fa) ⟨[.ref a],[]⟩) (λr s'=>r=.ok (.ret (.bool Zh))∧OldK s₁.heap s'.heap∧s'.os=s₁.os∧ab1 s'.gens) s₁:=by
  intro H hO hS hok hA hK;have gZ:∀ {b:Addr} {o:Obj},s₁.heap.get? b=Zg o→H b=Zl→(pG s₁.heap H).get? b=Zg o:=λe n=>Cd e n;have free:∀ {b:Addr} {o:Obj},s₁.heap.get? b=Zg o→o≠{cls:=.type "list",data:=.seq vs.toArray}→o≠abn #[]→H b=Zl:=λ{b o} e n1 n2=>by
   cases q:H b with
   | none=>rfl
   | some u=>
    rcases hA b (by rw [q];simp) with z | z
    ·rw [z,ha] at e;cases e;exact absurd rfl n1
    ·rw [z,Nx] at e;cases e;exact absurd rfl n2
  have Gn:∀ {b:Addr} {o:Obj} {es:Array DictEntry} {ep:Nat},s₁.heap.get? b=Zg o→o.data=.dict es ep→H b=Zl:=λ{b o es ep} e d=>free e (λz=>by rw [z] at d;cases d) λz=>by rw [z] at d;cases d
  have Rh:∀ {b:Addr} {m:Str→Option Zj},s₁.heap.Ns b m→(pG s₁.heap H).Ns b m:=λ{b m} zz=>by obtain ⟨o,es,ep,e,d,r⟩:=zz;exact ⟨o,es,ep,gZ e (Gn e d),d,r⟩
  have Va:K.In (pG s₁.heap H):=λb o e=>gZ (KX b o e) (by
   cases q:H b with
   | none=>rfl
   | some u=>
    rcases hA b (by rw [q];simp) with z | z
    ·subst z;rw [hK (by rw [q];simp)] at e;cases e
    ·rw [z,WW] at e;cases e)
  have hM:Mod K mg (pG s₁.heap H):=⟨Va,Rh hns,⟨mb,Rh hb,QU⟩,let ⟨mc,h1,h2⟩:=hlim;⟨mc,Rh h1,h2⟩⟩;have WY:abN (pG s₁.heap H) c Pt:=by obtain ⟨o,ws,file,tf,flags,tg,WZ,text,tt,e,hcl,r⟩:=id U8;exact ⟨o,ws,file,tf,flags,tg,WZ,text,tt,gZ e (free e (λz=>by rw [z] at hcl;simp at hcl) λz=>by rw [z] at hcl;cases hcl),hcl,r⟩
  have W0:(pG s₁.heap H).BuiltinsAt mg Pt:=by obtain ⟨bm,o,b1,b2,b3,b4,e,hcl,r⟩:=id WX;exact ⟨bm,o,b1,b2,b3,b4,gZ e (free e (λz=>by rw [z] at hcl;simp at hcl) λz=>by rw [z] at hcl;cases hcl),hcl,r⟩
  have e0:m9 P w K mg (pG s₁.heap H) callerA [] s₁ H:=⟨rfl,hM,λb o e=>FZ e,Nat.le_of_eq (Aj _ _),trivial,λb hb=>absurd (show b∈([]:List Addr) from hb) (by simp),hok,.of_eq hg⟩;refine codeAny_mono ((F _ Va (Rh hns) WY W0).run callerA [] s₁ H ⟨[.ref a],[]⟩ [.ref a] [.ref a] _ _ hr e0 (hbind s₁ (.ref a)) (.cons rfl .nil) (zf H hO hS)) λr s' h=>?_;cases r with
  | error e=>exact (Tt H e s' h).elim
  | ok fl=>
   cases fl with
   | next=>exact aac h
   | brk=>exact aac h
   | cont=>exact aac h
   | ret u=>
    obtain ⟨v,H',os,bare,un,PZ,r',q⟩:=h;have q':v=.bl Zh:=q;subst q';obtain rfl:u=Value.bool Zh:=r';refine ⟨rfl,⟨λb o e=>?_,λb o e=>un.there b o e (by simp)⟩,os.1,bare⟩;cases q:H b with
    | none=>exact .inl (un.keep b o e q (by intro z;exact absurd (show b∈([]:List Addr) from z) (by simp)) (by simp))
    | some u=>
     by_cases JU:b=Pt
     ·subst JU;obtain ⟨more,z2⟩:=un.j0 b _ hO.1;have e2:s'.heap.get? b=Zg (abn (#[]++more)):=PZ b _ z2;rw [Nx] at e;cases e;exact .inr (.inl ⟨(U8.tab Nx).isCodeTable,rfl,#[],more,rfl,e2⟩)
     ·rcases hO.2 b JU with z | ⟨ob,xs,z⟩
      ·rw [q] at z;cases z
      ·have z2:=un.jq b ob _ z;obtain ⟨e1,_⟩:=hok b _ z;obtain ⟨e2,_⟩:=PZ b _ z2;rw [e] at e1;cases e1;exact .inl e2
 cases hk:K.lookup a with
 | some o=>
  have e:=KX a o hk;rw [ha] at e;cases e;refine core (λb=>if b=Pt then Zg (.lU #[]) else Zl) ⟨if_pos rfl,λb hb=>.inl (if_neg hb)⟩ (.inr ⟨_,vs.toArray,_,hk,rfl,rfl,rfl,by rw [ZA,Tu];exact hl,by simpa using rv⟩) (λb u z=>?_) (λb z=>?_) λz=>absurd (if_neg U9) z
  ·by_cases hb:b=Pt
   ·have z':=(if_pos hb).symm.trans z;cases z';subst hb;exact Nx
   ·have z':=(if_neg hb).symm.trans z;cases z'
  ·by_cases hb:b=Pt
   ·exact .inr hb
   ·exact absurd (if_neg hb) z
 | none=>
  refine core (λb=>if b=Pt then Zg (.lU #[]) else if b=a then Zg (.dz {cls:=.type "list",data:=.seq vs.toArray} (.lst (ns.map V.int))) else Zl) ⟨if_pos rfl,λb hb=>?_⟩ (.inl ⟨{cls:=.type "list",data:=.seq vs.toArray},(if_neg U9).trans (if_pos rfl)⟩) (λb u z=>?_) (λb z=>?_) λ_=>hk
  ·by_cases hba:b=a
   ·exact .inr ⟨_,_,(if_neg hb).trans (if_pos hba)⟩
   ·exact .inl ((if_neg hb).trans (if_neg hba))
  ·by_cases hb:b=Pt
   ·have z':=(if_pos hb).symm.trans z;cases z';subst hb;exact Nx
   ·have z0:=(if_neg hb).symm.trans z;by_cases hba:b=a
    ·have z':=(if_pos hba).symm.trans z0;cases z';subst hba;exact ⟨ha,by rw [ZG];exact hl,vs,_,rv,ha⟩
    ·have z':=(if_neg hba).symm.trans z0;cases z'
  ·by_cases hb:b=Pt
   ·exact .inr hb
   ·by_cases hba:b=a
    ·exact .inl hba
    ·exact absurd ((if_neg hb).trans (if_neg hba)) z
theorem uv (X:K.In h) (hK:acw K=Zh) (hP:h.get? Pt=Zg (abn #[])):K.lookup Pt=Zl:=by
 cases e:K.lookup Pt with
 | none=>rfl
 | some o=>have e1:=X Pt o e;rw [hP] at e1;cases e1;have:=ab4.mp hK _ (PySem.W.mem_of_lookupK e);cases this
theorem Ei {l:ae1} {k:Nat} {q:ZT} {d:DefRec} {K:Params→Zo} {CX:aaa→mY}
  (hn:l.most=Zg n) (hn2:n≤Zm) (hdf:d.params.defaults=[]) (hr:cP k callerA) (hrec:(recsOf q).find? (λe=>e.name==y)=Zg dy)
  (hY:∀ (w:aaa) (h:Heap),YP w h→(K w.params).In h) (hT:∀ w:aaa,acw (K w.params)=Zh)
  (F:∀ (w:aaa) (mg:Str→Option Zj) (fa:Addr) (h:Heap),(K w.params).In h→h.Ns mainGlobals mg→mg d.name=Zg (.ref fa) →
   ∃ (fd:FuncData) (c Pt:Addr) (sp:Sp),aaZ (K w.params) y=Zg (c,Pt)∧(∀ (s:Zq) (u:Zj),BindsTo s fd ⟨[u],[]⟩ [(x,u)]) ∧
    (∀ base:Heap,(K w.params).In base→base.Ns mainGlobals mg→abN base c Pt→base.BuiltinsAt mg Pt→jS l.prog w (K w.params) mg base (CX w) k fa fd [x] sp) ∧
    ∀ (H:Hp) (a:Addr) (ns:List Int),ns.length≤n→zT Pt H→GH (K w.params) H a (ns.map V.int)→sp [.ref a] H (λv _=>v=.bl Zh) λ_ _ _=>False)
  (Tt:∀ (w:aaa) (H:Hp) (s:Zq) (e:Zj) (s':Zq),CX w [] H s (λ_ _ _=>False) e s'→False) :
  aea q loose XP YP l.row.toRowW d [] (λf vs=>ae6 f vs):=by
 refine UA.vn hn hdf λw s₀ s₁ mg mb fa o pm cd doc a vs ns G Y ho hd hcd hmg hobj hints hlen hg=>?_;have KX:=hY w _ Y;obtain ⟨fd,c,Pt,sp,ht,hb,hF,zf⟩:=F w mg fa _ KX G.T.g hmg;obtain ⟨hC,hP⟩:=PySem.W.tab_of G.T KX hrec ht;obtain ⟨bm,ob,b1,b2,b3,b4,b5,b6⟩:=G.T.bmain;have JU:bm≠Pt:=λz=>by rw [z,hP] at b3;cases b3;cases b4
 have W2:bm≠mainGlobals:=λz=>by obtain ⟨o,es,ep,e,hd,_⟩:=G.T.g;rw [z,e] at b3;cases b3;rw [hd] at b6;cases b6
 exact Be KX G.T.g G.T.b G.T.builtins G.T.nolimit hg hobj hints (aal hlen hn2) hr hC hP (uv KX (hT w) hP) ⟨bm,ob,b1,b2,W2,JU,b3,b4,b5,b6⟩ hF hb (λH hO hS=>zf H a ns hlen hO hS) λH e s'=>Tt w H s₁ e s'
theorem MN {m:List D→M D} {ns:List Int} (hm:∀ ns:List Int,ns.length≤63→∃ G,m [.con (ns.map .int)] [.tab y]=.ok (.bl Zh) G) (hl:ns.length≤63) (ht:aaZ K y=Zg (c,Pt)) (hk:nW K mg y=Zg zQ) (hO:zT Pt H) (hS:GH K H a (ns.map V.int)) :
  fW K mg 1 m [.ref a] H (λv _=>v=.bl Zh) λ_ _ _=>False:=by
 obtain ⟨G,e⟩:=hm ns hl;refine ⟨[.con (ns.map .int)],[Pt],[.tab y],rfl,⟨rfl,by simp,λn o e=>?_⟩,.cons (by unfold Rep;exact ⟨a,_,rfl,hS,.ints ns⟩) .nil,?_⟩
 ·cases n with
  | zero=>simp at e;subst e;exact ⟨Pt,rfl,#[],c,zQ,hO.1,ht,hk,.inl rfl⟩
  | succ n=>simp at e
 ·rw [e];intro v H' ρ' _ _ r;unfold Rep at r;exact r
end
section
open PyProof.Rows
theorem Tv {c0:Nat} (h:Pr y0 c0 m0):∀ y c mf,aak y [(y0,(c0,m0))]=Zg (c,mf)→Pr y c mf:=λy c mf e=>by
 rw [ZW] at e;cases q:(y==y0) with
 | false=>rw [q] at e;cases e
 | true=>rw [q] at e;cases e;rw [beq_iff_eq.mp q];exact h
theorem yH {st:Stmt} {f:Addr} {k:gY} (F:rZ K x qual st f fd) (hm:mg x=Zg (.ref f)) (h:iA qual (ck st)=Zg k):nW K mg x=Zg k:=by obtain ⟨oc,od,kV,doc,pm,an,cdv,ct,osl,rfl,lk,hcd⟩:=F.ex;unfold nW;rw [hm];dsimp only;rw [lk];exact h
theorem Ej {f:Addr} {vs:Array Zj} (h1:aa0 K mainGlobals x=Zg (Zg (.ref f))) (h2:K.lookup f=Zg ⟨oc,od,.func fd,sl⟩) (h3:fd.code=.ref c)
  (h4:K.lookup c=Zg ⟨o1,o2,.fields vs,o4⟩) (h5:vs[11]?=Zg (.ref Pt)):aaZ K x=Zg (c,Pt):=by
 unfold aaZ;rw [h1];dsimp only;rw [h2];dsimp only;rw [h3];dsimp only;rw [h4];dsimp only;rw [h5]
section
variable {X:Cx} {EE:bR} {a b:Expr} {ma mb:DS→M D} {pos:Pos}
abbrev iG:=cF (λ_ j=>decide (0<j)&&decide (j<18446744073709551616)) λi j=>.int (i / j)
theorem Ek:iu X (binaryOp .FloorDiv) (rI (λ_ j=>0<j∧j<18446744073709551616) λi j=>.int (i / j)):=KN λi j _ _ _ _ _ hc q=>by
 have h1:(0:Int)<j:=hc.1;have h2:j<18446744073709551616:=hc.2;refine floordiv_int (by nofun) (by rw [abY i (by nofun)];exact q) (.inl (PyProof.noPylong_of_log2 ?_));have h3:j.natAbs≠0:=by nofun
 have h4:j.natAbs<2^64:=by nofun
 exact Zx ((Nat.log2_lt h3).mpr h4) (by decide)
theorem El (ha:QE X EE a ma) (hb:QE X EE b mb):QE X EE (.BinOp a .FloorDiv b pos) (ak iG ma mb):=jd Ek (jz (λi j h=>by simpa using h) λ_ _ _ _=>by unfold Rep;rfl) ha hb
end
end
section
open PyProof.Rows
def zU (s:Stmt):Expr:=match s with
 | .Assign [_] (.Call _ es _ _) _=>es.getLast?.getD (.Constant .none 0 ⟨0,0,0,0⟩)
 | .Return (Zg (.Call _ es _ _)) _=>es.getLast?.getD (.Constant .none 0 ⟨0,0,0,0⟩)
 | _=>.Constant .none 0 ⟨0,0,0,0⟩
def Im (e:Expr):Arguments:=match e with
 | .Lambda a _ _ _=>a
 | _=>{posonlyargs:=[],args:=[],vararg:=Zl,kwonlyargs:=[],kw_defaults:=[],kwarg:=Zl,defaults:=[]}
def Io (e:Expr):Expr:=match e with
 | .Lambda _ b _ _=>b
 | e=>e
def Em (e:Expr):Scope:=match e with
 | .Lambda _ _ s _=>s
 | _=>{kind:=.function,names:=[],isGenerator:=Zk,isCoroutine:=Zk}
section
variable {X:Cx} {EE:bR} {a b:Expr} {ma mb:DS→M D} {pos:Pos}
abbrev rq:=cF (λ_ _=>Zh) λi j=>.int (aae i j)
abbrev Ip:=cF (λ_ _=>Zh) λi j=>.int (aag i j)
abbrev MO:=cF (λ_ _=>Zh) λi j=>.int (aa2 i j)
abbrev g8:=cF (λi j=>decide (0≤j)&&(decide (j≤1000000)&&decide (i.natAbs<2^64))) λi j=>.int (i*2^j.toNat)
theorem Iq (ha:QE X EE a ma) (hb:QE X EE b mb):QE X EE (.BinOp a .BitAnd b pos) (ak rq ma mb):=jd K0 (gC λ_ _ _ _=>by unfold Rep;rfl) ha hb
theorem MP (ha:QE X EE a ma) (hb:QE X EE b mb):QE X EE (.BinOp a .BitOr b pos) (ak Ip ma mb):=jd N9 (gC λ_ _ _ _=>by unfold Rep;rfl) ha hb
theorem Ir (ha:QE X EE a ma) (hb:QE X EE b mb):QE X EE (.BinOp a .BitXor b pos) (ak MO ma mb):=jd K1 (gC λ_ _ _ _=>by unfold Rep;rfl) ha hb
theorem MQ (ha:QE X EE a ma) (hb:QE X EE b mb):QE X EE (.BinOp a .LShift b pos) (ak g8 ma mb):=jd KY (jz (P:=Ga) (λi j h=>by simpa [Ga] using h) λ_ _ _ _=>by unfold Rep;rfl) ha hb
abbrev Iu:=cF (λ_ j=>decide (0≤j)) λi j=>.int (i / 2^j.toNat)
theorem MR (ha:QE X EE a ma) (hb:QE X EE b mb):QE X EE (.BinOp a .RShift b pos) (ak Iu ma mb):=jd KZ (jz (P:=λ_ j=>0≤j) (λi j h=>by simpa using h) λ_ _ _ _=>by unfold Rep;rfl) ha hb
end
end
section
variable {prog:ZT} {w:aaa} {A:Around} {E:Zj→Zq→Prop} {s:Zq}
theorem oQ {t:Addr} {x:Zj} (hit:s.heap.IsRevIter it t (i:Int))
  (ht:s.heap.IsList t items) (hx:items[i]?=Zg x)
  (hQ:∀ h',h'.IsRevIter it t ((i:Int) - 1)→abc it s.heap h'→Q x {s with heap:=h'}) :
  ZD (model prog w) A (aaf (.ref it)) Q E s:=by
 obtain ⟨q,ho,hc,hd⟩:=id hit;obtain ⟨ql,JF,_,nl,hdl⟩:=ht;unfold aaf;refine Zi (aay (name:=aby "__next__") hit.typeIs acO (aaV acO hit.typeIs aeP ?_ (aeD _)));unfold abR.«list_reverseiterator.__next__»;refine Zi (Zz ?_);dsimp only;refine Zi (Z9 ho hd (x:=rawInt (i:Int)) rfl ?_);show ZD _ _ (if (i:Int)<0 then _ else _) _ _ s;rw [if_neg (by nofun)];refine Zi (Z9 ho hd (x:=.ref t) rfl ?_);refine Zi (abM JF hdl ?_);simp only [aaD,hx];refine Zi (abl ho hd (by simp) (Zz ⟨x,rfl,Zz (hQ _ ?_ (abb ..))⟩));exact ⟨_,Z1 _ ho (abo (aar hd _)),(ade ..).trans hc,by rw [aar hd];simp⟩
theorem qE {t:Addr} {Q:Zj→Zq→Prop} (hh:A.handled=Zl) (hit:s.heap.IsRevIter it t (-1))
  (hE:∀ h' e,adX it s.heap h'→(∃ o,h'.get? e=Zg o∧o.cls=.type "StopIteration")→E (.ref e) {s with heap:=h'}) :
  ZD (model prog w) A (aaf (.ref it)) Q E s:=by
 obtain ⟨q,ho,hc,hd⟩:=id hit;unfold aaf;refine Zi (aay (name:=aby "__next__") hit.typeIs acO (aaV acO hit.typeIs aeP ?_ (aeD _)));unfold abR.«list_reverseiterator.__next__»;refine Zi (Zz ?_);dsimp only;refine Zi (Z9 ho hd (x:=rawInt (-1)) rfl ?_);show ZD _ _ (if (-1:Int)<0 then _ else _) _ _ s;rw [if_pos (by decide)];refine Zi (acF ?_);refine Zi ?_;show ZD _ _ (newExc (.type "StopIteration") [] >>= _) _ _ _;refine Zi ?_;simp only [newExc,newTuple];refine Zi (Z3 ?_ (by size_fits));refine Zi (m:=firstArgMember _ _) (aaP (a:=Value.none) (by first | rfl | (simp only [firstArgMember];rfl)) ?_);refine Z3 ?_ (by size_fits);simp only [raiseNew];refine Zi (ad8 ?_);first | rw [show A.in1.handled=Zl from hh] | rw [hh]
 refine Zi (Zz (adY ?_));exact hE _ _ (((aeQ _ _).push _).push _) ⟨_,Zv _ rfl,rfl⟩
end
theorem sI (hh:A.handled=Zl) (it l:Addr) (hne:l≠it) (items:Array Zj) :
  Draws prog w A it [it,l] items.size (λi v=>items[items.size - 1 - i]?=Zg v) (λi h=>i≤items.size∧h.IsRevIter it l ((items.size:Int) - 1 - (i:Int))∧h.IsList l items) where
 live:=λ_ _ st=>let ⟨o,ho,_⟩:=st.2.1;⟨o,ho⟩
 frame:=λ_ _ _ st hk=>⟨st.1,st.2.1.at λo e=>hk it (by simp) o e,let ⟨o,e,r⟩:=st.2.2;⟨o,hk l (by simp) o e,r⟩⟩
 item:=λi s Q E hi st hQ=>by obtain ⟨Yz,st1,st2⟩:=st;rw [show (items.size:Int) - 1 - (i:Int)=((items.size - 1 - i:Nat):Int) by nofun] at st1;refine oQ st1 st2 (x:=items[items.size - 1 - i]) (by simp [show items.size - 1 - i<items.size by nofun]) λh' HS hs'=>?_;rw [show ((items.size - 1 - i:Nat):Int) - 1=(items.size:Int) - 1 - ((i+1:Nat):Int) by nofun] at HS;exact hQ _ h' s.toks (by simp [show items.size - 1 - i<items.size by nofun]) ⟨by nofun,HS,let ⟨o,e,r⟩:=st2;⟨o,(hs'.2 l hne).trans e,r⟩⟩ hs'
 done:=λs Q E st hE=>qE hh (by have:=st.2.1;rwa [show (items.size:Int) - 1 - ((items.size:Nat):Int)=-1 by nofun] at this) hE
theorem wH (l r:Addr) (i:Int) :
  Meets (abR.«enumerate.__new__» ⟨[.type "enumerate",.ref r],[]⟩) (λ_ R s=>s.heap.get? r=Zg (revObj l i) ∧
   R (.ok (.ret (.ref s.heap.objs.size)))
    {s with heap:=s.heap.push {cls:=.type "enumerate",data:=.fields #[.none,.bool Zk,.ref r,rawInt 0,.none,.none]}}):=
 .of_wp λprog w A R s h=>by
  obtain ⟨hp,g,d,tk,os⟩:=s;obtain ⟨hl,h⟩:=h;have hsub:=sub_enumerate;have hL:Heap.IsRevIter (Shared.heap ⟨hp,g,d,tk,os⟩) r l i:=⟨_,hl,rfl,rfl⟩
  wp_walk using aah hl
  refine aeZ λst=>Zz ?_;split
  ·rename_i c _ _ _ _ _;cases (c==Value.type "enumerate")
   ·wp_walk using aah hl,aa3 hL
    exact ⟨_,rfl,h⟩
   ·wp_walk using aah hl,aa3 hL
    exact ⟨_,rfl,h⟩
  ·wp_walk using aah hl,aa3 hL
   exact ⟨_,rfl,h⟩
theorem rA {prog:ZT} {w:aaa} {A:Around} {E:Zj→Zq→Prop} {r:Addr} {i:Int} (hl:s.heap.get? r=Zg (revObj l i))
  (h:∀ h',IsEnum h' s.heap.objs.size r 0 .none→(∀ b o,s.heap.get? b=Zg o→h'.get? b=Zg o)→Q (.ref s.heap.objs.size) {s with heap:=h'}) :
  ZD (model prog w) A (call (.type "enumerate") [.ref r]) Q E s:=by
 refine callType_new aem (by decide) (adG _) (adS _) (λobj=>ab3 obj _) adT (wH l r i) ⟨hl,?_⟩;have he:IsEnum (s.heap.push {cls:=.type "enumerate",data:=.fields #[.none,.bool Zk,.ref r,rawInt 0,.none,.none]}) s.heap.objs.size r 0 .none:=Zv s.heap rfl;exact ⟨⟨_,he,rfl⟩,h _ he λb o x=>Zn _ x⟩
def MT (K:Zo) (a:Addr) (n:Nat):It:=
 ⟨λi H=>∃ xs x,kE K H a xs∧xs.length=n∧i<n∧xs[n - 1 - i]?=Zg x,λi H y H'=>∃ x p,(∀ xs,kE K H a xs→xs[n - 1 - i]?=Zg x)∧H p=Zl∧y=.ref p∧H'=upd H p (.tup [.int i,x]),λi H=>i=n∧∃ xs,kE K H a xs∧xs.length=n⟩
theorem yI {k:Nat} {pt:Pos} (l e it:Addr) (n:Nat) (hne:e≠it) (hle:l≠e) (hli:l≠it):Turn P w K (.Tuple es k pt) (MT K l n) [e,it] e (λi h=>∃ old,IsEnum h e it i old∧h.IsRevIter it l ((n:Int) - 1 - (i:Int))) where
 mem:=by simp
 obj:=λi h zz b hb=>by
  obtain ⟨old,st1,st2⟩:=zz;rcases ZM.mp hb with rfl | hb
  ·exact ⟨_,st1,λv z=>by cases z⟩
  ·have e:b=it:=by simpa using hb
   subst e;obtain ⟨o,e,c,d⟩:=st2;exact ⟨o,e,λv z=>by rw [d] at z;cases z⟩
 keep:=λi h h' zz kp=>by obtain ⟨old,st1,st2⟩:=zz;exact ⟨old,kp e (by simp) _ st1,st2.at λo q=>kp it (by simp) o q⟩
 item:=by
  intro X hP hw hK hc i pins s σ H E I hf zu hg;obtain ⟨old,st1,st2⟩:=zu;subst hP hw hK;obtain ⟨xs,x,hq,hn,hi,hx⟩:=hg;obtain ⟨its,rv,p,hz⟩:=I.list hq;obtain ⟨u,hu,ru⟩:=rv.get hx;have Pd:e<s.heap.objs.size:=Zu st1;have DJ:it<s.heap.objs.size:=by obtain ⟨o,q,_⟩:=st2;exact Zu q
  have En:its.toArray.size=n:=by rw [ZA,← rv.length];exact hn
  refine ads (sI (show X.A.in1.handled=Zl from I.ok.hd hc) it l hli its.toArray) st1 ⟨by nofun,by rw [En];exact st2,p.isList⟩ (by nofun) hne (by simp [hne,aat hle]) λx' h' tk hx' hO hst htup hsz kp=>?_;have SW:x'=u:=by rw [En] at hx';have e:its.toArray[n - 1 - i]?=Zg x':=hx';rw [abV,hu] at e;exact (ZS e).symm
  subst SW;have hL:=hst.2.1;rw [En] at hL;refine ⟨.ref s.heap.objs.size,rfl,?_⟩
  have I1:Inv X pins σ (upd H s.heap.objs.size (.tup [.int i,x])) {s with heap:=s.heap.push {cls:=.type "tuple",data:=.seq #[.int i tk,x']}}:=
   I.laid (t':=s.toks) (λb o q=>Zn _ q) (Zs _) ⟨by simp [sizeLine_eq],[.int i tk,x'],.cons ⟨_,rfl⟩ (.cons ru .nil),acv _ _⟩
  have hfree:=I.hok.fresh (Zs s.heap.objs.size);have hf1:∀ b∈[e,it],ly X pins (upd H s.heap.objs.size (.tup [.int i,x])) b:=λb hb=>by
   have hlt:b≠s.heap.objs.size:=by
    rcases ZM.mp hb with rfl | hb
    ·exact ZE Pd
    ·rw [ZI.mp hb];exact ZE DJ
   exact ⟨by rw [aA hlt];exact (hf b hb).1,(hf b hb).2⟩
  unfold letOwnedTupleGo;refine Zi (ach hO ?_);dsimp only;rw [if_pos (by simp)];refine Zi (acF ?_);unfold updateField;refine Zi (ach hO ?_);dsimp only;rw [if_pos (by simp)];refine aeA hO ?_;have qZ:∀ b,b≠e→(h'.update e (aaH λx=>x.setIfInBounds 0 Value.none)).get? b=h'.get? b:=λb hb=>ZR _ _ (aat hb);refine ⟨.ref s.heap.objs.size,_,ua (t':=tk+1) (s:={s with heap:=s.heap.push {cls:=.type "tuple",data:=.seq #[.int i tk,x']}}) (ch:=[e,it]) I1 (λb o hb q=>?_) hf1,rfl,⟨x,s.heap.objs.size,λys hy=>by rw [I.lW hy hq];exact hx,hfree,rfl,rfl⟩,⟨x',?_,?_⟩,λb hb=>(hf1 b hb).1⟩
  ·have hb1:b≠e:=λz=>hb (by simp [z]);have hb2:b≠it:=λz=>hb (by simp [z]);show (h'.update e _).get? b=Zg o;rw [qZ b hb1];by_cases DK:b=s.heap.objs.size
   ·subst DK;have:=Zv (o:={cls:=.type "tuple",data:=.seq #[.int (i:Int) tk,x']}) s.heap rfl;rw [this] at q;cases q;exact htup
   ·have q':(s.heap.push {cls:=.type "tuple",data:=.seq #[.int (i:Int) tk,x']}).get? b=Zg o:=q;refine kp b o hb1 hb2 ?_
    rwa [adb _ _ _ DK] at q'
  ·show (h'.update e _).get? e=_;rw [Z1 _ hO rfl];rfl
  ·exact hL.at λo q=>(qZ it (aat hne)).trans q
 done:=by
  intro X hP hw hK hc i pins s σ H E I hf zu hg;obtain ⟨old,st1,st2⟩:=zu;subst hP hw hK;obtain ⟨rfl,xs,hq,hn⟩:=hg;obtain ⟨its,rv,p,hz⟩:=I.list hq;obtain ⟨f0,f1,f2,f3,f4,f5⟩:=hf it (by simp);have En:its.toArray.size=i:=by rw [ZA,← rv.length];exact hn
  exact adH (sI (show X.A.in1.handled=Zl from I.ok.hd hc) it l hli its.toArray) st1 ⟨Zs _,by rw [En];exact st2,p.isList⟩ λh' eb=>⟨rfl,I.turned (t':=s.toks) (λb o hb e=>eb b o hb e) f0 f1 f3 f4 f5⟩
 self:=λ_ _ _ _ _ zz h=>by obtain ⟨old,st1,_⟩:=zz;exact abC st1 h
def lQ (d:D) (n:Nat):View:=λG i=>match aF G d with
 | some (.lst xs)=>if xs.length=n then (if i=n then Zg Zl else if i<n then Zg (xs[n - 1 - i]?.map λx=>.tup [.int i,x]) else Zl) else Zl
 | _=>Zl
def uw (m:DS→M (List D)):MI:=λτ=>(m τ).bind λds=>match ds with
 | [d]=>λG=>match aF G d with
  | some (.lst xs)=>.ok (xs.length+1,lQ d xs.length) G
  | _=>.stuck
 | _=>M.stop
section
variable {X:Cx} {EE:bR} {tg iter a b:Expr} {g:jB} {mi:MI} {ms:MS} {pos p pc p2 JR:Pos} {m:DS→M (List D)}
theorem Eo (rx:Rep X.K X.mg ρ H d (.ref l)):JV X.K X.mg (MT X.K l n) (lQ d n) H ρ:=by
 intro i H' ρ' G' f hp;unfold lQ;cases q:aF G' d with
 | none=>exact ⟨λe=>(by cases e),λx e=>(by cases e)⟩
 | some sk=>
  cases sk with
  | tup zs=>exact ⟨λe=>(by cases e),λx e=>(by cases e)⟩
  | str z=>exact ⟨λe=>(by cases e),λx e=>(by cases e)⟩
  | lst zs=>
   dsimp only;by_cases hn:zs.length=n
   ·rw [if_pos hn];obtain ⟨xs,sq,rs⟩:=DR f rx hp q;by_cases hi:i=n
    ·rw [if_pos hi];exact ⟨λ_=>⟨hi,xs,sq,by rw [← rs.length];exact hn⟩,λx e=>(by cases e)⟩
    ·rw [if_neg hi];by_cases hlt:i<n
     ·rw [if_pos hlt];refine ⟨λe=>?_,λx e=>?_⟩
      ·have:=ZS e;rw [Option.map_eq_none_iff,aaq] at this;nofun
      ·have e':=ZS e;cases qi:zs[n - 1 - i]? with
       | none=>rw [qi] at e';cases e'
       | some z=>rw [qi] at e';cases e';obtain ⟨v,hv,rv⟩:=rs.get qi;refine ⟨⟨xs,v,sq,by rw [← rs.length];exact hn,hlt,hv⟩,λy H2 hy=>?_⟩;obtain ⟨v',p,ev',hp0,rfl,rfl⟩:=hy;have ev':=ev' xs sq;rw [hv] at ev';cases ev';refine ⟨t9.new hp0,?_⟩;unfold Rep;refine ⟨p,[.int i,v],rfl,.of aN,.cons (by unfold Rep;rfl) (.cons (Rep.mono (cH hp0 ρ') _ _ rv) .nil)⟩
     ·rw [if_neg hlt];exact ⟨λe=>(by cases e),λx e=>(by cases e)⟩
   ·rw [if_neg hn];exact ⟨λe=>(by cases e),λx e=>(by cases e)⟩
theorem Ep {k:Nat} {pt:Pos} (hm0:X.mg "enumerate"=Zl) (W3:Gl X "enumerate") (hm:X.mg "reversed"=Zl) (nY:Gl X "reversed") (ha:QA X EE [a] m) (h:ao [a]=Zh:=by rfl):QI X EE (.Tuple es k pt) (.Call (.Name "enumerate" p2) [.Call (.Name "reversed" p) [a] [] pc] [] JR) (uw m):=by
 have h':bf a=Zh∧ao []=Zh:=by simpa [ao] using h
 intro pins s σ H R I hq;obtain ⟨τ,ρ,G,ab,ok⟩:=hq;dsimp only [uw,M.bind] at ok;have hA:gU X.K X.mg EE m σ H λvs H1=>∃ ρ1 G1 ds,Ab X.K X.mg σ H1 τ ρ1 G1∧bX X.K H H1 ρ ρ1∧aq X.K X.mg ρ1 H1 ds vs∧m τ G=.ok ds G1:=by
  refine ⟨τ,ρ,G,ab,?_⟩;cases e:m τ G with
  | stuck=>rw [e] at ok;exact ok
  | bq c G'=>rw [e] at ok;exact ok
  | ok ds G'=>exact λvs H' ρ' f aV r=>⟨ρ',G',ds,aV,f,r,rfl⟩
 refine ZK (dX I W3 hm0 nA ?_ (by decide) (by decide));refine ZJ ?_ (aK rfl _ _) (aJ (es:=[]) rfl);rw [aK (e:=.Call (.Name "reversed" p) [a] [] pc) rfl];show ZD _ _ (spliced ((Zk,eval _ X.env)::backTo JR (ZF [] X.env))) _ _ s;refine aaz ?_;refine ZK (dX I nY hm jh ?_ (by decide) (by decide));refine ZJ (cO (ha pc pins s σ H _ I hA) λus s1 oE=>?_) (aK h'.1 _ _) (aJ (es:=[]) rfl);obtain ⟨vs,H1,I1,r1,ρ1,G1,ds,fD,f1,rs,em⟩:=oE;rw [em] at ok;dsimp only at ok
 match ds,rs,ok with
 | [],_,ok=>exact ok.elim
 | _::_::_,_,ok=>exact ok.elim
 | [d],rs,ok=>
  obtain ⟨x,rfl,rx⟩:=fQ rs;obtain ⟨u,rfl,ru⟩:=vals1 r1;dsimp only at ok;cases q:aF G1 d with
  | none=>rw [q] at ok;exact ok.elim
  | some sk=>
   rw [q] at ok;cases sk with
   | tup zs=>exact ok.elim
   | str z=>exact ok.elim
   | lst zs=>
    dsimp only at ok;obtain ⟨l,ys,rfl,sq,rv⟩:=bE (pins:=pins) (σ0:=σ) (s:=s1) fD.hp rx q;cases ru;obtain ⟨its,vv,pl,hz⟩:=I1.list sq;have hlt:l<s1.heap.objs.size:=by obtain ⟨_,e,_⟩:=pl.isList;exact Zu e
    refine call_reversed_list pl.isList ?_;refine aa6 ?_;have Vb:=Zv (o:=revObj l ((its.toArray.size:Int) - 1)) s1.heap rfl;have Vc:(s1.heap.push (revObj l ((its.toArray.size:Int) - 1))).objs.size=s1.heap.objs.size+1:=aaF ..;refine rA (s:={s1 with heap:=s1.heap.push (revObj l ((its.toArray.size:Int) - 1))}) Vb λh2 hE kp=>?_;dsimp only at hE kp;rw [Vc] at hE;show ZD _ _ (pyIter (.ref (s1.heap.push _).objs.size)) _ _ _;rw [Vc];refine abC (s:={s1 with heap:=h2}) hE ?_;have I2:Inv X pins σ H1 {s1 with heap:=h2}:=I1.kept (t':=s1.toks) λb o e=>kp b o (Zn _ e);have hlen:its.toArray.size=zs.length:=by rw [ZA,← vv.length,rv.length]
    refine ⟨s1.heap.objs.size+1,[s1.heap.objs.size+1,s1.heap.objs.size],_,MT X.K l zs.length,H1,rfl,I2,yI l _ _ _ (adq _) (ZE (aa7 hlt)) (ZE hlt),⟨_,hE,?_⟩,λb hb=>?_,ok _ H1 ρ1 f1 fD (Eo rx)⟩
    ·rw [← hlen];exact ⟨_,kp _ _ Vb,rfl,by simp [revObj]⟩
    ·rcases ZM.mp hb with rfl | hb
     ·exact I1.lX (acj _) (I1.hok.fresh (acj _))
     ·rw [ZI.mp hb];exact I1.lX (Zs _) (I1.hok.fresh (Zs _))
end
section
variable {X:Cx} {EE:bR} {o i e:Expr} {pos p:Pos} {mo mi:DS→M D} {m:DS→M (List D)}
def wI (G:DH):D→Option (List (Key×D))
 | .obj n=>match G[n]? with
  | some (.dct kvs)=>Zg kvs
  | some (.Nt kvs)=>Zg kvs
  | _=>Zl
 | _=>Zl
theorem Bf {x:V} (h:eN X.K X.mg H ρ G) (r:Rep X.K X.mg ρ H d x) (e:wI G d=Zg kvs):∃ a xs,x=.ref a∧Rd H a (.dK ((kvs.map (·.1)).zip xs))∧aq X.K X.mg ρ H (kvs.map (·.2)) xs:=by
 cases d with
 | obj n=>
  unfold Rep at r;obtain ⟨a,rfl,ea⟩:=r;dsimp only [wI] at e;cases g:G[n]? with
  | none=>rw [g] at e;cases e
  | some ob=>
   cases ob with
   | dct kv=>rw [g] at e;cases e;obtain ⟨a',xs,e1,e2,rs⟩:=h.dct g;rw [ea] at e1;cases e1;exact ⟨a,xs,rfl,.inl e2,rs⟩
   | Nt kv=>rw [g] at e;cases e;obtain ⟨a',e1,xs,e2,rs⟩:=h.ob n _ g;rw [ea] at e1;cases e1;exact ⟨a,xs,rfl,.inr e2,rs⟩
   | _=>rw [g] at e;cases e
 | _=>cases e
def MU (d k:D):M D:=λG=>match wI G d,v7 k with
 | some kvs,Zg y=>match nE kvs y with
  | some v=>.ok v G
  | none=>.stuck
 | _,_=>.stuck
def Er (mo mi:DS→M D):DS→M D:=λτ=>(mo τ).bind λd=>(mi τ).bind λk=>MU d k
theorem MV (hu:X.A.units+600<cLine) (ho:QE X EE o mo) (hi:QE X EE i mi) (hs:CG i):QE X EE (.Subscript o i pos) (Er mo mi):=by
 refine PE.mono (zp (by nofun) ho hi hs) λσ H Q zz=>?_;obtain ⟨τ,ρ,G,ab,ok⟩:=zz;refine ⟨τ,ρ,G,ab,?_⟩;dsimp only [Er,M.bind] at ok;cases e1:mo τ G with
 | stuck=>rw [e1] at ok;exact ok
 | bq c G'=>rw [e1] at ok;exact ok
 | ok d G1=>
  rw [e1] at ok;dsimp only at ok;intro vd H1 ρ1 f1 fD r1;refine ⟨τ,ρ1,G1,fD,?_⟩;cases e2:mi τ G1 with
  | stuck=>rw [e2] at ok;exact ok
  | bq c G'=>rw [e2] at ok;exact λH' ρ' f aV=>ok H' ρ' (f1.trans f) aV
  | ok k G2=>
   rw [e2] at ok;dsimp only [MU] at ok;intro vk H2 ρ2 f2 bA r2;cases q:wI G2 d with
   | none=>rw [q] at ok;exact ok.elim
   | some kvs=>
    cases ek:v7 k with
    | none=>rw [q,ek] at ok;exact ok.elim
    | some y=>
     rw [q,ek] at ok;dsimp only at ok;obtain ⟨a,xs,rfl,eH,rs⟩:=Bf bA.hp (r1.mono f2) q;have ev:=zL r2 ek;subst ev;rcases mJ y rs with ⟨z1,z2⟩ | ⟨dv,v,z1,z2,z3⟩
     ·rw [z1] at ok;exact ok.elim
     ·rw [z1] at ok;refine ⟨a,v,rfl,?_,ok v H2 ρ2 (f1.trans f2) bA z3⟩;exact .inl ⟨_,y,eH,rfl,z2.symm⟩
def om:List (Str×(DS→M D))→DS→M (List (Key×D))
 | [],_=>M.ret []
 | (k,m)::r,τ=>(m τ).bind λa=>(om r τ).bind λl=>M.ret ((Sum.inr k,a)::l)
def W4 (X:Cx) (H:Hp) (σ:L2.St) (τ:DS) (ρ:List Addr) (Q:List (V×V)→Hp→Prop):Out (List (Key×D))→Prop
 | .ok B6 G2=>∀ H2 ρ2 xs,bX X.K H H2 ρ ρ2→Ab X.K X.mg σ H2 τ ρ2 G2→aq X.K X.mg ρ2 H2 (B6.map (·.2)) xs→Q (((B6.map (·.1)).zip xs).map λkv=>(kV kv.1,kv.2)) H2
 | _=>False
theorem wJ {σ:L2.St} {τ:DS}:∀ (l:List (Str×(DS→M D))) (H:Hp) (ρ:List Addr) (G:DH) (Q:List (V×V)→Hp→Prop),Ab X.K X.mg σ H τ ρ G→W4 X H σ τ ρ Q (om l τ G) →
  tY (l.map λkm=>(bh X.K X.mg EE (eC (.str km.1)),bh X.K X.mg EE km.2)) σ H Q
 | [],H,ρ,G,Q,ab,ok=>ok H ρ [] .refl ab .nil
 | (k,m)::r,H,ρ,G,Q,ab,ok=>by
  dsimp only [om,M.bind,M.ret] at ok;show bh X.K X.mg EE (eC (.str k)) σ H _;refine ⟨τ,ρ,G,ab,λvk H1 ρ1 f1 fD r1=>⟨τ,ρ1,G,fD,?_⟩⟩;unfold Rep at r1;subst r1;dsimp only;cases e1:m τ G with
  | stuck=>rw [e1] at ok;exact ok.elim
  | bq c G'=>rw [e1] at ok;exact ok.elim
  | ok a G1=>
   rw [e1] at ok;dsimp only at ok;intro va H2 ρ2 f2 bA r2;refine wJ r H2 ρ2 G1 _ bA ?_;cases e2:om r τ G1 with
   | stuck=>rw [e2] at ok;exact ok.elim
   | bq c G'=>rw [e2] at ok;exact ok.elim
   | ok l G2=>rw [e2] at ok;intro H3 ρ3 xs f3 oG rs;exact ok H3 ρ3 (va::xs) ((f1.trans f2).trans f3) oG (.cons (r2.mono f3) rs)
def ux (l:List (Key×D)):List (Key×D):=l.foldl (λacc kv=>qk acc kv.1 kv.2) []
theorem sJ {H:Hp} {ρ:List Addr}:∀ {l:List (Key×D)} {xs:List V} {acc:List (Key×D)} {ys:List V},aq X.K X.mg ρ H (l.map (·.2)) xs→aq X.K X.mg ρ H (acc.map (·.2)) ys →
  ∃ zs,j5 ((acc.map (·.1)).zip ys) ((l.map (·.1)).zip xs)=((l.foldl (λacc kv=>qk acc kv.1 kv.2) acc).map (·.1)).zip zs∧aq X.K X.mg ρ H ((l.foldl (λacc kv=>qk acc kv.1 kv.2) acc).map (·.2)) zs
 | [],xs,acc,ys,r,ra=>⟨ys,by simp [j5],ra⟩
 | kv::l,xs,acc,ys,r,ra=>by rw [Zy] at r;unfold aq at r;obtain ⟨v,r',rfl,h1,h2⟩:=r;obtain ⟨ws,e,rw'⟩:=wc kv.1 h1 ra;obtain ⟨zs,e2,rz⟩:=sJ h2 rw';refine ⟨zs,?_,rz⟩;rw [← e] at e2;exact e2
def sL (l:List (Str×(DS→M D))):DS→M D:=λτ G=>match om l τ (G++[.dct []]) with
 | .ok B6 G2=>match G2[G.length]? with
  | some (.dct [])=>if B6.length≤15 then .ok (.obj G.length) (G2.set G.length (.dct (ux B6))) else .stuck
  | _=>.stuck
 | _=>.stuck
theorem P0 {k v:Expr} {m:DS→M D} {r:List (Str×(DS→M D))} {ks:List (Option Expr)} {vs:List Expr} (hk:QE X EE k (eC (.str x))) (hv:QE X EE v m) (hr:JA X pos ks vs (r.map λkm=>(bh X.K X.mg EE (eC (.str km.1)),bh X.K X.mg EE km.2))) :
  JA X pos (Zg k::ks) (v::vs) (((x,m)::r).map λkm=>(bh X.K X.mg EE (eC (.str km.1)),bh X.K X.mg EE km.2)):=CK hk hv hr
theorem Iv {keys:List (Option Expr)} {l:List (Str×(DS→M D))} (hp:JA X pos keys values (l.map λkm=>(bh X.K X.mg EE (eC (.str km.1)),bh X.K X.mg EE km.2))) (hall:keys.all (·.isSome)=Zh) (hl:keys.length=values.length) (h0:keys≠[]) (Sg:keys.length≤15):QE X EE (.Dict keys values pos) (sL l):=by
 refine PE.mono (GG hp hall hl h0 Sg) λσ H Q zz=>?_;obtain ⟨τ,ρ,G,ab,ok⟩:=zz;intro p hp;have f0:bX X.K H (upd H p (.dK [])) ρ (ρ++[p]):=(cH hp ρ).trans (dN ρ p);have Hh:Ab X.K X.mg σ (upd H p (.dK [])) τ (ρ++[p]) (G++[.dct []]):=⟨ab.st.mono f0,ab.hp.Py hp⟩;have r0:(ρ++[p])[G.length]?=Zg p:=by rw [← ab.hp.hl,aB]
 refine wJ l _ _ _ _ Hh ?_;unfold sL at ok;cases e1:om l τ (G++[.dct []]) with
 | stuck=>rw [e1] at ok;exact ok.elim
 | bq c G'=>rw [e1] at ok;exact ok.elim
 | ok B6 G2=>
  rw [e1] at ok;dsimp only at ok;intro H2 ρ2 xs f2 bA rs;cases g:G2[G.length]? with
  | none=>rw [g] at ok;exact ok.elim
  | some ob=>
   rw [g] at ok;cases ob with
   | dct kvs=>
    cases kvs with
    | cons a b=>exact ok.elim
    | nil=>
     dsimp only at ok;by_cases h:B6.length≤15
     ·rw [if_pos h] at ok;obtain ⟨a,ys,e2,eH,_⟩:=bA.hp.dct g;rw [f2.get r0] at e2;cases e2;have hlx:B6.length=xs.length:=by simpa using rs.length
      obtain ⟨zs,e3,rz⟩:=sJ (acc:=[]) (ys:=[]) rs .nil;refine ⟨by simpa using eH,(B6.map (·.1)).zip xs,rfl,by simp;nofun,?_⟩;have MW:j5 [] ((B6.map (·.1)).zip xs)=((ux B6).map (·.1)).zip zs:=e3;rw [MW];have f3:bX X.K H2 (upd H2 p (.dK (((ux B6).map (·.1)).zip zs))) ρ2 ρ2:=we eH ρ2;refine ok (.ref p) _ ρ2 ((f0.trans f2).trans f3) ⟨bA.st.mono f3,bA.hp.putD (f2.get r0) eH rz⟩ ?_;unfold Rep;exact ⟨p,rfl,f2.get r0⟩
     ·rw [if_neg h] at ok;exact ok.elim
   | _=>exact ok.elim
end
section
variable {X:Cx} {EE:bR}
theorem Iw (he:Ij X ns EE e m):Eb X EE [.Return (Zg e) pos] (bB m):=by
 intro pins s σ H D I h;have hl:bh X.K X.mg EE m σ H D.rt:=by
  obtain ⟨τ,ρ,G,ab,ok⟩:=lC (k:=λτ d G=>.rt d G) h;refine ⟨τ,ρ,G,ab,?_⟩;cases e:m τ G with
  | stuck=>rw [e] at ok;exact ok
  | bq c G'=>rw [e] at ok;exact ok
  | ok d G'=>rw [e] at ok;intro v H' ρ' f' aV r';obtain ⟨τ2,ρ2,G2,d2,bA,r2,aI⟩:=ok v H' ρ' f' aV r';exact aI v H' ρ2 .refl bA.hp r2
 refine acC (aep (cO (he pins s σ H _ I hl) λv s1 zz=>?_));obtain ⟨x,H1,I1,r1,q1⟩:=zz;exact ⟨x,H1,⟨I1.os,I1.bare,I1.base,I1.hok⟩,r1,q1⟩
end
structure rB where
 P:ZT
 w:aaa
 K:Zo
 mg:Str→Option Zj
 base:Heap
def gI (g:rB) (x:Str) (k n:Nat) (m:List D→M D):Prop:=∃ f fd ps,gA g.P g.w g.K g.mg g.base (mq g.P g.w) k f fd ps (fW g.K g.mg n m)∧g.mg x=Zg (.ref f)∧Z5 g.K (.ref f)=Zh∧Binds g.K fd ps []
def Iz (g:rB) (y:Str) (k n:Nat) (m:List D→M D):Prop:=∃ c,nW g.K g.mg y=Zg c∧zP g.P g.w g.K g.mg g.base (mq g.P g.w) k c n m
def P1 (g:rB) (x:Str):Prop:=∃ f,g.mg x=Zg (.ref f)
def B7 (x:Str):Bool:=!(x=="__debug__")&&!(x=="__classdict__")
def nJ (sc:Scope) (x:Str) (k:NameKind):Bool:=decide (sc.names.lookup x=Zg k)
def rC (sc:Scope) (N:List Str):List (Option Str):=N.map λx=>if (nJ sc x .local||nJ sc x .cell||nJ sc x .free)=Zh then Zg x else Zl
def rE (c:Bool) (sc:Scope) (N:List Str):List (Option Str):=N.map λx=>if (nJ sc x .local||(c&&nJ sc x .cell))=Zh then Zg x else Zl
def Es (scope:Scope) (xs N:List Str):List (Option Str):=xs.map Zg++N.map λx=>if nJ scope x .free=Zh then Zg x else Zl
structure Cf (X:Cx) (EE:bR) (g:rB) (k:Nat) (B:List Str) (sc:Scope) (V W:List (Option Str)):Prop where
 eq:X.prog=g.P∧X.w=g.w∧X.K=g.K∧X.mg=g.mg∧X.base=g.base
 vis:∀ (i:Nat) (x:Str),V[i]?=Zg (Zg x)→X.N[i]?=Zg x∧Ce X.env.scope x
 gl:∀ x,nJ sc x .globalImplicit=Zh→Gl X x
 st:∀ (i:Nat) (x:Str),W[i]?=Zg (Zg x)→X.N[i]?=Zg x∧Loc X.env.scope x∧(X.fn x=Zh∨X.env.scope.names.lookup x=Zg .local)
 bl:∀ b,B.contains b=Zh→X.mg b=Zl
 hx:gb X EE
 hr:cP k X.A
 hc:X.calm=Zh
structure Cs (X:Cx) (sc:Scope) (N:List Str):Prop where
 nd:X.N.Nodup
 hf:mz X
 po:PassesOwn (model X.prog X.w) X.A X.env X.xe
 hs:X.env.scope=sc
 hN:X.N=N
 bk:(X.env.blockKind==.function)=Zh
theorem cj {a b:Bool} (h:(a&&b)=Zh):a=Zh∧b=Zh:=by simpa using h
theorem oq (h:B7 x=Zh):DN x:=by obtain ⟨h1,h2⟩:=cj h;exact ⟨by simpa using h1,by simpa using h2⟩
theorem map_some {α:Type} {f:α→Bool} {l:List α} {x:α} (h:(l.map λx=>if f x=Zh then Zg x else Zl)[i]?=Zg (Zg x)):l[i]?=Zg x∧f x=Zh:=by
 rw [ZL] at h;cases e:l[i]? with
 | none=>rw [e] at h;cases h
 | some y=>
  rw [e] at h;dsimp only [Option.map] at h;by_cases q:f y=Zh
  ·rw [if_pos q] at h;cases h;exact ⟨rfl,q⟩
  ·rw [if_neg q] at h;cases h
theorem ji {k:NameKind} (h:nJ sc x k=Zh):sc.names.lookup x=Zg k:=of_decide_eq_true h
section
variable {X:Cx} {EE:bR} {g:rB} {k k' n i j:Nat} {B N xs:List Str} {sc scope:Scope} {V W:List (Option Str)} {x y:Str} {pos p px py:Pos} {e a b elt tg iter:Expr} {es ifs:List Expr} {m:DS→M (List D)} {ma te:DS→M D} {mf:List D→M D} {ks:List Bool} {gO:D→Option (List D)} {tt:DS→M Bool} {mi:MI}
theorem Cf.hu (c:Cf X EE g k B sc V W):X.A.units+600<cLine:=Hj c.hr
theorem Cf.Tw (c:Cf X EE g k B sc V W) (h:(decide (V[i]?=Zg (Zg x))&&B7 x)=Zh):(X.N[i]?=Zg x∧Ce X.env.scope x)∧DN x:=⟨c.vis i x (of_decide_eq_true (cj h).1),oq (cj h).2⟩
theorem IA (c:Cf X EE g k B sc V W) (h:(decide (V[i]?=Zg (Zg x))&&B7 x)=Zh):QE X EE (.Name x pos) (af i):=by obtain ⟨⟨h1,h2⟩,h3⟩:=c.Tw h;exact Mf i h2 h3 h1
theorem gI.at (c:Cf X EE g k B sc V W) (C:gI g x k' n mf) (h:k'≤k):∃ f fd ps,gA X.prog X.w X.K X.mg X.base (mq X.prog X.w) k' f fd ps (fW X.K X.mg n mf)∧cP k' X.A∧X.mg x=Zg (.ref f)∧Z5 X.K (.ref f)=Zh∧Binds X.K fd ps []:=by obtain ⟨f,fd,ps,h1,h2,h3,h4⟩:=C;have r:=c.hr.mono h;obtain ⟨e1,e2,e3,e4,e5⟩:=c.eq;rw [e1,e2,e3,e4,e5];exact ⟨f,fd,ps,h1,r,h2,h3,h4⟩
theorem wK (c:Cf X EE g k B sc V W) (C:gI g x k' n mf) (h:(decide (k'≤k)&&(nJ sc x .globalImplicit&&(B7 x&&ao (e::es))))=Zh) (ha:QA X EE (e::es) m):QE X EE (.Call (.Name x p) (e::es) [] pos) (az n mf m):=by obtain ⟨h1,h⟩:=cj h;obtain ⟨h2,h⟩:=cj h;obtain ⟨h3,h4⟩:=cj h;obtain ⟨f,fd,ps,q1,q2,q3,q4,q5⟩:=C.at c (of_decide_eq_true h1);exact zG q1 q2 q3 q4 q5 (AL c.hx) (c.gl x h2) (oq h3) ha h4
theorem MX (c:Cf X EE g k B sc V W) (C:P1 g x) (h:(nJ sc x .globalImplicit&&B7 x)=Zh):QE X EE (.Name x pos) (eC (.fn x)):=by obtain ⟨h2,h3⟩:=cj h;obtain ⟨f,hf⟩:=C;exact O9 (f:=f) (by rw [c.eq.2.2.2.1];exact hf) (c.gl x h2) (oq h3)
def Bg (g:rB) (k n:Nat):List (Str×(List D→M D))→Prop
 | []=>True
 | q::r=>(∃ k',gI g q.1 k' n q.2∧k'≤k)∧Bg g k n r
theorem Bg.at (c:Cf X EE g k B sc V W):∀ {l:List (Str×(List D→M D))},Bg g k n l→Mq (mq X.prog X.w) X n l
 | [],h=>trivial
 | q::r,⟨⟨k',h1,h2⟩,hr⟩=>by obtain ⟨f,fd,ps,q1,q2,q3,q4,q5⟩:=h1.at c h2;exact ⟨⟨k',f,fd,ps,q1,q2,q3,q4,q5⟩,Bg.at c hr⟩
theorem Bh {l:List (Str×(List D→M D))} (c:Cf X EE g k B sc V W) (C:Bg g k n l) (h:((decide (V[i]?=Zg (Zg x))&&B7 x)&&ao (e::es))=Zh) (ha:QA X EE (e::es) m):QE X EE (.Call (.Name x p) (e::es) [] pos) (lK i n (λy=>aak y l) m):=by obtain ⟨h1,h⟩:=cj h;obtain ⟨⟨q1,q2⟩,q3⟩:=c.Tw h1;exact Dy q1 q2 q3 (Pa (C.at c)) (AL c.hx) ha h
theorem Bj {z:Nat} (c:Cf X EE g k B sc V W) (C:Iz g y k' n mf) (h:((decide (V[i]?=Zg (Zg x))&&B7 x)&&(decide (k'≤k)&&ao (e::es)))=Zh) (ha:QA X EE (e::es) m):QE X EE (.Call (.Name x p) (e::es) [] pos) (lP i n (λw=>aak w [(y,(z,mf))]) m):=by obtain ⟨h1,h⟩:=cj h;obtain ⟨h2,h⟩:=cj h;obtain ⟨⟨q1,q2⟩,q3⟩:=c.Tw h1;have r:=c.hr.mono (of_decide_eq_true h2);refine Ea (CX:=mq X.prog X.w) q1 q2 q3 (Tv ?_) (AL c.hx) ha h;obtain ⟨zQ,z1,z2⟩:=C;obtain ⟨e1,e2,e3,e4,e5⟩:=c.eq;rw [e1,e2,e3,e4,e5];exact ⟨k',zQ,z1,z2,r⟩
theorem Cf.Bk (c:Cf X EE g k B sc V W) (h:decide (W[i]?=Zg (Zg x))=Zh):X.N[i]?=Zg x∧Loc X.env.scope x∧(X.fn x=Zh∨X.env.scope.names.lookup x=Zg .local):=c.st i x (of_decide_eq_true h)
theorem IB (c:Cf X EE g k B sc V W) (s:Cs X scope N) (h:(decide (W[i]?=Zg (Zg x))&&j9 a)=Zh) (he:QE X EE a ma):QS X EE (.Assign [.Name x px] a pos) (aH i ma):=by obtain ⟨h1,h2⟩:=cj h;obtain ⟨q1,q2,q3⟩:=c.Bk h1;exact Mm s.nd q2 he q3 q1 h2
theorem Et (c:Cf X EE g k B sc V W) (s:Cs X scope N) (h:decide (W[i]?=Zg (Zg x))=Zh):QG X (.Name x pos) (gN i):=by obtain ⟨q1,q2,q3⟩:=c.Bk h;exact Hu s.nd q2 q3 q1
theorem Eu (c:Cf X EE g k B sc V W) (s:Cs X scope N) (h:(decide (W[i]?=Zg (Zg x))&&decide (W[j]?=Zg (Zg y)))=Zh):QG X (.Tuple [.Name x px,.Name y py] q pos) (gP i j):=by obtain ⟨h1,h2⟩:=cj h;obtain ⟨q1,q2,q3⟩:=c.Bk h1;obtain ⟨r1,r2,r3⟩:=c.Bk h2;exact HB c.hc s.nd q2 r2 q3 r3 q1 r1
def JW:MS:=λ_ _=>.stuck
theorem Ew {b:List Stmt}:qY X EE b JW:=λ_ _ _ _ _ _ zz=>by obtain ⟨_,_,_,_,h⟩:=zz;exact h.elim
def JX (tg:Expr) (xs:List Str) (gO:D→Option (List D)):Prop:=(∃ x p,tg=.Name x p∧xs=[x]∧gO=oN)∨∃ x y p q k r,tg=.Tuple [.Name x p,.Name y q] k r∧xs=[x,y]∧gO=oT 2
theorem P4 {q:Pos}:JX (.Name x q) [x] oN:=.inl ⟨_,_,rfl,rfl,rfl⟩
theorem P5 {q r:Pos} {k:Nat}:JX (.Tuple [.Name x p,.Name y q] k r) [x,y] (oT 2):=.inr ⟨_,_,_,_,_,_,rfl,rfl,rfl⟩
theorem qF (c:X.calm=Zh) (h:JX tg xs gO) (S:br X.env.scope X.N scope xs ks):∃ ow,Own X scope xs ks tg ow∧jD X.K X.mg ow gO:=by
 rcases h with ⟨x,p,rfl,rfl,rfl⟩ | ⟨x,y,p,q,k,r,rfl,rfl,rfl⟩
 ·exact ⟨_,Dk S,AN⟩
 ·exact ⟨_,Dl c S,Dn⟩
instance {a:Scope} {N:List Str} {b:Scope} {xs:List Str} {ks:List Bool}:Decidable (br a N b xs ks):=
 decidable_of_iff (xs.Nodup∧b.kind=.function∧(∀ y∈b.names,y.2≠.cell)∧(∀ y∈b.names,y.2=.local→b.names.lookup y.1=Zg .local)∧(∀ x∈xs,b.names.lookup x=Zg .local)∧(∀ y∈b.names,y.2=.free→a.names.lookup y.1=Zg .cell∨a.names.lookup y.1=Zg .free)∧((ks.zip N).all λp=>!p.1||decide (b.names.lookup p.2=Zg .free))=Zh)
  ⟨λzz=>by obtain ⟨a,b,c,d,e,f,g⟩:=zz;exact ⟨a,b,c,d,e,f,g⟩,λzz=>by obtain ⟨a,b,c,d,e,f,g⟩:=zz;exact ⟨a,b,c,d,e,f,g⟩⟩
theorem pe {Ri:bR} (c:Cf X EE g k B sc V W) (s:Cs X sc N) (S:br X.env.scope X.N scope xs ks) (hx:gb (mw X scope cl xs C pins s0 H0 fp E) Ri) :
  Cf (mw X scope cl xs C pins s0 H0 fp E) Ri g k B scope (Es scope xs N) []:=by
 refine ⟨c.eq,λi x h=>?_,λx h=>Hx (ji h),λi x h=>by simp at h,c.bl,hx,c.hr,c.hc⟩;unfold Es at h;by_cases q:i<xs.length
 ·rw [ZC (by simpa using q),ZL] at h;cases e:xs[i]? with
  | none=>rw [e] at h;cases h
  | some z=>rw [e] at h;cases h;exact ⟨by show (xs++X.N)[i]?=Zg x;rw [ZC q,e],Mp S (Z0 e)⟩
 ·rw [ZO (by simpa using q),ZG] at h;obtain ⟨h1,h2⟩:=map_some h;exact ⟨by show (xs++X.N)[i]?=Zg x;rw [ZO (by nofun),s.hN,h1],Hw S (ji h2)⟩
def JY (g:rB) (k:Nat) (B:List Str) (scope:Scope) (xs N:List Str) (ifs:List Expr) (elt:Expr) (tt:DS→M Bool) (te:DS→M D):Prop:=
 ∀ (X:Cx) (EE:bR),Cf X EE g k B scope (Es scope xs N) []→(match ifs with
  | []=>tt=dY
  | [c]=>QT X EE c tt
  | _=>False)∧QE X EE elt te
theorem Tz (h:∀ (X:Cx) (EE:bR),Cf X EE g k B scope (Es scope xs N) []→QE X EE elt te):JY g k B scope xs N [] elt dY te:=λX EE c=>⟨rfl,h X EE c⟩
theorem TF (h:∀ (X:Cx) (EE:bR),Cf X EE g k B scope (Es scope xs N) []→QT X EE a tt∧QE X EE elt te):JY g k B scope xs N [a] elt tt te:=h
theorem kq (c:Cf X EE g k B sc V W) (s:Cs X sc N) (S:br X.env.scope X.N scope xs ks) (h:JY g k B scope xs N ifs elt tt te):j8 X scope xs ifs elt tt te:=by
 match ifs,h with
 | [],h=>have e:tt=dY:=(h _ _ (pe (cl:=[]) (C:=0) (pins:=[]) (s0:=X.s₀) (H0:=X.H₀) (fp:=[]) (E:=λ_ _=>True) (Ri:=EE) c s S (λ_ _ _ _ _ _ _ _ _ _ _=>trivial))).1;subst e;exact AR λcl C pins s0 H0 fp E1 W5 hx=>(h _ _ (pe c s S hx)).2
 | [_],h=>exact AS λcl C pins s0 H0 fp E1 W5 hx=>h _ _ (pe c s S hx)
 | _::_::_,h=>exact ((h _ _ (pe (cl:=[]) (C:=0) (pins:=[]) (s0:=X.s₀) (H0:=X.H₀) (fp:=[]) (E:=λ_ _=>True) (Ri:=EE) c s S (λ_ _ _ _ _ _ _ _ _ _ _=>trivial))).1).elim
theorem Cs.S (s:Cs X sc N) (h:br sc N scope xs ks):br X.env.scope X.N scope xs ks:=by rw [s.hs,s.hN];exact h
theorem wL (c:Cf X EE g k B sc V W) (s:Cs X sc N) (t:JX tg xs gO) (S:br sc N scope xs ks) (h:iC iter=Zh) (ha:QE X EE iter ma) (hb:JY g k B scope xs N ifs elt tt te):QE X EE (.ListComp elt [⟨tg,iter,ifs,0⟩] scope pos) (jT gO ks ma tt te):=by obtain ⟨_,o1,o2⟩:=qF c.hc t (s.S S);exact Hv c.hx s.hf (s.S S) o1 o2 c.hc ha (kq c s (s.S S) hb) h
theorem sM (c:Cf X EE g k B sc V W) (s:Cs X sc N) (t:JX tg xs gO) (S:br sc N scope xs ks) (h:iC iter=Zh) (ha:QI X EE tg iter mi) (hb:JY g k B scope xs N ifs elt tt te):QE X EE (.ListComp elt [⟨tg,iter,ifs,0⟩] scope pos) (dZ gO ks mi tt te):=by obtain ⟨_,o1,o2⟩:=qF c.hc t (s.S S);exact DG c.hx s.hf (s.S S) o1 o2 c.hc ha (kq c s (s.S S) hb) h
theorem qG (c:Cf X EE g k B sc V W) (s:Cs X sc N) (t:JX tg xs gO) (S:br sc N scope xs ks) (h:(B.contains "range"&&(nJ sc "range" .globalImplicit&&bf a))=Zh) (ha:QA X EE [a] m) (hb:JY g k B scope xs N ifs elt tt te):QE X EE (.ListComp elt [⟨tg,.Call (.Name "range" p) [a] [] px,ifs,0⟩] scope pos) (dh eG gO ks m tt te):=by obtain ⟨_,o1,o2⟩:=qF c.hc t (s.S S);exact AY c.hx s.hf (s.S S) o1 o2 c.hc (c.bl _ (cj h).1) (c.gl _ (cj (cj h).2).1) ha (kq c s (s.S S) hb) (cj (cj h).2).2
def TH (W:List (Option Str)) (sc scope:Scope) (i:Nat) (y:Str) (py pos:Pos):Bool:=(decide (W[i]?=Zg (Zg y))&&nJ sc y .local)&&((py.line==pos.line)&&!(scope.names.any λx=>x.1==y&&(x.2==.local||x.2==.cell)))
theorem Cf.sw {l:Nat} (c:Cf X EE g k B sc V W) (s:Cs X sc N) (h:TH W sc scope i y py pos=Zh):X.env.scope.names.lookup y=Zg .local∧swapsWith (.ListComp elt gens scope pos) (Zg (.Name y py)) l X.env=pure Zh∧X.N[i]?=Zg y:=by
 obtain ⟨h1,h2⟩:=cj h;have hl:X.env.scope.names.lookup y=Zg .local:=by rw [s.hs];exact ji (cj h1).2
 exact ⟨hl,A0 s.bk hl (cj h2).1 (by simpa using (cj h2).2),(c.Bk (cj h1).1).1⟩
theorem sN (c:Cf X EE g k B sc V W) (s:Cs X sc N) (t:JX tg xs gO) (S:br sc N scope xs ks) (h:(TH W sc scope i y py pos&&iC iter)=Zh) (ha:QI X EE tg iter mi) (hb:JY g k B scope xs N ifs elt tt te):QS X EE (.Assign [.Name y py] (.ListComp elt [⟨tg,iter,ifs,0⟩] scope pos) spos) (aH i (dZ gO ks mi tt te)):=by obtain ⟨_,o1,o2⟩:=qF c.hc t (s.S S);obtain ⟨w1,w2,w3⟩:=c.sw s (cj h).1;exact DI c.hx s.hf (s.S S) o1 o2 c.hc s.nd w1 ha (kq c s (s.S S) hb) w2 w3 (cj h).2
theorem qH (c:Cf X EE g k B sc V W) (s:Cs X sc N) (t:JX tg xs gO) (S:br sc N scope xs ks) (h:(TH W sc scope i y py pos&&(B.contains "range"&&(nJ sc "range" .globalImplicit&&bf a)))=Zh) (ha:QA X EE [a] m) (hb:JY g k B scope xs N ifs elt tt te):QS X EE (.Assign [.Name y py] (.ListComp elt [⟨tg,.Call (.Name "range" p) [a] [] px,ifs,0⟩] scope pos) spos) (aH i (dh eG gO ks m tt te)):=by obtain ⟨_,o1,o2⟩:=qF c.hc t (s.S S);obtain ⟨w1,w2,w3⟩:=c.sw s (cj h).1;exact AZ c.hx s.hf (s.S S) o1 o2 c.hc s.nd w1 (c.bl _ (cj (cj h).2).1) (c.gl _ (cj (cj (cj h).2).2).1) ha (kq c s (s.S S) hb) w2 w3 (cj (cj (cj h).2).2).2
end
theorem nK {p:List Zj→Prop} (h:∀ a0,p [a0]):∀ us:List Zj,us.length=1→p us:=λus e=>by rcases us with _ | ⟨a0,_ | ⟨z,zs⟩⟩<;>first | exact h a0 | (cases e;done)
theorem nL {p:List Zj→Prop} (h:∀ a0 a1,p [a0,a1]):∀ us:List Zj,us.length=2→p us:=λus e=>by rcases us with _ | ⟨a0,_ | ⟨a1,_ | ⟨z,zs⟩⟩⟩<;>first | exact h a0 a1 | (cases e;done)
theorem oR {p:List Zj→Prop} (h:∀ a0 a1 a2,p [a0,a1,a2]):∀ us:List Zj,us.length=3→p us:=λus e=>by rcases us with _ | ⟨a0,_ | ⟨a1,_ | ⟨a2,_ | ⟨z,zs⟩⟩⟩⟩<;>first | exact h a0 a1 a2 | (cases e;done)
theorem nM {p:List Zj→Prop} (h:∀ a0 a1 a2 a3,p [a0,a1,a2,a3]):∀ us:List Zj,us.length=4→p us:=λus e=>by rcases us with _ | ⟨a0,_ | ⟨a1,_ | ⟨a2,_ | ⟨a3,_ | ⟨z,zs⟩⟩⟩⟩⟩<;>first | exact h a0 a1 a2 a3 | (cases e;done)
theorem oS {p:List Zj→Prop} (h:∀ a0 a1 a2 a3 a4,p [a0,a1,a2,a3,a4]):∀ us:List Zj,us.length=5→p us:=λus e=>by rcases us with _ | ⟨a0,_ | ⟨a1,_ | ⟨a2,_ | ⟨a3,_ | ⟨a4,_ | ⟨z,zs⟩⟩⟩⟩⟩⟩<;>first | exact h a0 a1 a2 a3 a4 | (cases e;done)
abbrev Ex:=Str×Nat×List Str×Stmt
def rF (K:Zo) (mg:Str→Option Zj) (x:Str) (n:Nat) (N:List Str) (st:Stmt):Prop:=∃ f fd,rZ K x x st f fd∧mg x=Zg (.ref f)
def mO (K:Zo) (mg:Str→Option Zj):List Ex→Prop
 | []=>True
 | (x,n,N,st)::r=>rF K mg x n N st∧mO K mg r
section
variable {K:Zo} {mg:Str→Option Zj} {h:Heap} {x:Str} {n:Nat} {N:List Str} {st:Stmt}
theorem mO.at:∀ {l:List Ex} (T:mO K mg l) (i:Nat) {x:Str} {n:Nat} {N:List Str} {st:Stmt},l[i]?=Zg (x,n,N,st)→rF K mg x n N st
 | d::l,T,0,_,_,_,_,h=>by cases h;exact T.1
 | d::l,T,i+1,_,_,_,_,h=>mO.at T.2 i (by simpa using h)
theorem mO.cons {l:List Ex} (X:K.In h) (G:h.Ns mainGlobals mg) {f:Addr} {od an:Option Addr} {sl:Array (Option Zj)} {oc kV dc pm cd ct:Zj} (a:aa0 K mainGlobals x=Zg (Zg (.ref f)))
  (l0:K.lookup f=Zg ⟨oc,od,.func (aaI x x (gX st) (ck st) (au st) .none kV dc pm an cd ct),sl⟩) (c:abJ K cd x=Zh) (k:Z5 K (.ref f)=Zh) (r:mO K mg l):mO K mg ((x,n,N,st)::l):=⟨⟨f,_,CD l0 c k,aeb X G a⟩,r⟩
def iO (mg:Str→Option Zj):List Str→Prop
 | []=>True
 | x::r=>mg x=Zl∧iO mg r
theorem iO.cons {l:List Str} (X:K.In h) (G:h.Ns mainGlobals mg) (a:aa0 K mainGlobals x=Zg Zl) (r:iO mg l):iO mg (x::l):=⟨PySem.W.mg_none_of X G a,r⟩
theorem iO.at:∀ {l:List Str},iO mg l→∀ b,l.contains b=Zh→mg b=Zl
 | x::l,T,b,h=>by
  rw [List.contains_cons] at h;cases e:b==x with
  | true=>rw [eq_of_beq e];exact T.1
  | false=>rw [e] at h;exact iO.at T.2 b (by simpa using h)
end
section
variable {g:rB} {k n nn:Nat} {x:Str} {N B ps:List Str} {st:Stmt} {ms:MS} {me:DS→M D} {m:List D→M D} {c:gY}
def qI (st:Stmt) (x:Str) (ps:List Str):Prop:=∀ (kV doc pm:Zj) (an:Option Addr) (cdv ct:Zj) (us:List Zj),us.length=ps.length→bindArgs (aaI x x (gX st) (ck st) (au st) .none kV doc pm an cdv ct) ⟨us,[]⟩=pure (ps.zip us)
theorem Ey (h:(rC sc N)[i]?=Zg (Zg x)):N[i]?=Zg x∧Ce sc x:=by
 obtain ⟨h1,h2⟩:=map_some (f:=λx=>nJ sc x .local||nJ sc x .cell||nJ sc x .free) h;refine ⟨h1,?_⟩;simp only [acL] at h2;rcases h2 with (h2 | h2) | h2
 ·exact .inl (ji h2)
 ·exact .inr (.inl (ji h2))
 ·exact .inr (.inr (ji h2))
theorem qJ {f:Addr} {E:XK} (hB:iO mg B)
  (hr:cP k (A.deeper (aaT x sc s.heap.objs.size f cdv))) (hx:gb (lB (mq P w) P w K mg base N x sc f cdv A outer s H E) EE):Cf (lB (mq P w) P w K mg base N x sc f cdv A outer s H E) EE ⟨P,w,K,mg,base⟩ k B sc (rC sc N) (rE Zh sc N):=by
 refine ⟨⟨rfl,rfl,rfl,rfl,rfl⟩,λi x h=>Ey h,λx h=>ji h,λi x h=>?_,hB.at,hx,hr,rfl⟩;obtain ⟨h1,h2⟩:=map_some (f:=λx=>nJ sc x .local||(Zh&&nJ sc x .cell)) h;refine ⟨h1,?_,.inl rfl⟩;simp only [acL,Bool.true_and] at h2;exact h2.imp ji ji
theorem MY {cs:List Addr} {E:XK} (hB:iO mg B)
  (hr:cP k (A.deeper (wF c cs s.heap.objs.size a c'))) (hx:gb (Nv (mq P w) P w K mg base N c cs a c' A outer s H E) EE):Cf (Nv (mq P w) P w K mg base N c cs a c' A outer s H E) EE ⟨P,w,K,mg,base⟩ k B c.scope (rC c.scope N) (rE Zk c.scope N):=by
 refine ⟨⟨rfl,rfl,rfl,rfl,rfl⟩,λi x h=>Ey h,λx h=>ji h,λi x h=>?_,hB.at,hx,hr,rfl⟩;obtain ⟨h1,h2⟩:=map_some (f:=λx=>nJ c.scope x .local||(Zk&&nJ c.scope x .cell)) h;have h3:nJ c.scope x .local=Zh:=by simpa using h2
 exact ⟨h1,.inl (ji h3),.inr (ji h3)⟩
theorem sO (h:sc.kind=.function):((if sc.kind.isAnnotationScope then aen else sc.kind)==aen)=Zh:=by rw [h];rfl
theorem kN (Dd:rF g.K g.mg x n N st) (hB:iO g.mg B) (S:fY N (N.take n) (au st)) (hps:(N.take n).length=n) (hN:N.length=nn) (hb:qI st x (N.take n))
  (body:∀ (X:Cx) (EE:bR),Cf X EE g k B (au st) (rC (au st) N) (rE Zh (au st) N)→Cs X (au st) N→qY X EE (ck st) ms):gI g x (k+1) n (λds=>bL nn ms ds):=by
 obtain ⟨f,fd,F,hm⟩:=Dd;refine ⟨f,fd,_,Sn (k:=k) (ms:=ms) F S hps hN (λ_=>rfl) ?_,hm,F.kp,F.binds hb⟩;intro X EE cdv A outer s H E hX hr hx Ez;subst hX;exact body _ EE (qJ hB hr hx) ⟨S.nd,⟨_,outer,s.heap.objs.size,rfl,rfl,rfl⟩,Ez,rfl,rfl,sO S.kind⟩
theorem gI.pure (h:gI g x k n m):gI g x k n (bV m):=by obtain ⟨f,fd,ps,h1,h2⟩:=h;exact ⟨f,fd,ps,h1.imp uh,h2⟩
theorem rF.has (h:rF g.K g.mg x n N st):P1 g x:=by obtain ⟨f,_,_,h⟩:=h;exact ⟨f,h⟩
theorem Bl {f:Addr} (F:rZ K x x st f fd) (hb:qI st x [y]) (s:Zq) (u:Zj):BindsTo s fd ⟨[u],[]⟩ [(y,u)]:=by obtain ⟨oc,od,kV,doc,pm,an,cdv,ct,osl,rfl,lk,hcd⟩:=F.ex;exact .of_eq (hb kV doc pm an cdv ct [u] rfl)
theorem IC {bd:Expr} (Dd:rF g.K g.mg x n' N' st) (hB:iO g.mg B) (hk:iA x (ck st)=Zg c) (S:qA N (N.take n) c.names c.scope) (hps:(N.take n).length=n) (hN:N.length=nn)
  (hb:∀ (doc pm ctv:Zj) (c':Addr) (cs:List Addr) (us:List Zj),us.length=(N.take n).length→bindArgs (vA c cs doc pm c' ctv) ⟨us,[]⟩=pure ((N.take n).zip us)) (hbd:c.body=.expr bd)
  (body:∀ (X:Cx) (EE:bR),Cf X EE g k B c.scope (rC c.scope N) (rE Zk c.scope N)→Cs X c.scope N→QE X EE bd me):Iz g x (k+1) n (λds G=>iV (A9 nn me ds G)):=by
 obtain ⟨f,fd,F,hm⟩:=Dd;refine ⟨c,yH F hm hk,Ih (k:=k) (me:=me) S hps hN (λ_ _=>rfl) (λa b c d e f _=>hb a b c d e f) hbd ?_⟩;intro X EE cs a c' A outer s H E hX hr hx Ez;subst hX;exact body _ EE (MY hB hr hx) ⟨S.nd,⟨_,outer,s.heap.objs.size,rfl,rfl,rfl⟩,Ez,rfl,rfl,sO S.kind⟩
def P6 (g:rB) (y:Str) (c P:Addr):Prop:=aaZ g.K y=Zg (c,P)∧abN g.base c P∧g.base.BuiltinsAt g.mg P
theorem get_map {β:Type} {f:α→Option β} {l:List α} {r:List β} (h:l.map f=r.map Zg) {i:Nat} {a:α} (e:l[i]?=Zg a):∃ b,r[i]?=Zg b∧f a=Zg b:=by
 have q:(l.map f)[i]?=(r.map Zg)[i]?:=by rw [h]
 rw [ZL,ZL,e] at q;cases z:r[i]? with
 | none=>rw [z] at q;cases q
 | some b=>rw [z] at q;exact ⟨b,rfl,by simpa using q⟩
structure Hl (X:Cx) (EE:bR) (k:gY) (y:Str) (js:List Nat):Prop where
 tx:∃ cs c P,zS X k y js cs c P
 hx:gb (Cx.held X k.names) EE
 hq:X.env.qual=y++".<locals>."
theorem ID {cs:Addr→List Addr} {P:Addr} (Dd:rF g.K g.mg x n N st) (hB:iO g.mg B) (ht:P6 g x c0 P) (hk:iA x (ck st)=Zg c) (S:fY N (N.take n) (au st)) (hps:(N.take n).length=n) (hN:N.length=nn) (hb:qI st x (N.take n))
  (hcl:∀ (L f:Addr) (v:Zj),closureFor c.scope (aaT x (au st) L f v)=pure (c.names.zip (cs L))) (hnd:∀ L,(cs L).Nodup) (hcs:∀ L,(c.names.map λz=>(cellsFrom (L+1) (au st).names []).lookup z)=(cs L).map Zg) (PR:(js.map λj=>N[j]?)=c.names.map Zg) (hcell:∀ z∈c.names,(au st).names.lookup z=Zg .cell)
  (body:∀ (X:Cx) (EE:bR),Cf X EE g k B (au st) (rC (au st) N) (rE Zh (au st) N)→Cs X (au st) N→Hl X EE c x js→Eb X EE (ck st) ms):gI g x (k+1) n (bV λds G=>iV (bL nn ms ds G)):=by
 obtain ⟨f,fd,F,hm⟩:=Dd;obtain ⟨t1,t2,t3⟩:=ht;refine ⟨f,fd,_,gA.imp (Tr (k:=k) (ms:=ms) F S hps hN (λ_ _=>rfl) t1 hm ?_) uh,hm,F.kp,F.binds hb⟩;intro X EE A outer s H E hX hr hx hxs Ez;subst hX;have hl:∀ L,(cs L).length=c.names.length:=λL=>by have:=congrArg acG (hcs L);simpa using this.symm
 exact body _ EE (qJ hB hr hx) ⟨S.nd,⟨_,outer,s.heap.objs.size,rfl,rfl,rfl⟩,Ez,rfl,rfl,sO S.kind⟩
  ⟨⟨cs s.heap.objs.size,c0,P,yH F hm hk,rfl,t1,t2,t3,hcl _ _ _,hl _,hnd _,λl z e=>get_map (hcs _) e,by simpa using congrArg acG PR,λl j z e1 e2=>by obtain ⟨b,q1,q2⟩:=get_map PR e1;rw [e2] at q1;cases q1;exact q2,hcell,λ_=>rfl⟩,hxs _,rfl⟩
end
section
variable {X:Cx} {EE:bR} {g:rB} {k k' n i:Nat} {B N:List Str} {sc:Scope} {V W:List (Option Str)} {x y:Str} {pos p:Pos} {e bd:Expr} {es:List Expr} {m:DS→M (List D)} {mf:List D→M D} {c:gY} {js:List Nat}
theorem EA (h:Hl X EE c y js) (he:e=.Lambda c.params bd c.scope c.pos) (hbd:c.body=.expr bd) (hnm:c.name="<lambda>") (hdef:defaultsOf c.params X.env=([],[])) (hq:y++".<locals>."++"<lambda>"=c.qual):Ij X c.names EE e (Bd y js):=by obtain ⟨cs,c0,P,T⟩:=h.tx;exact Ik he hbd hnm T hdef (by rw [h.hq];exact hq)
theorem EB {m:DS→M D} (h:Hl X EE c y js) (he:Ij X c.names EE e m):Eb X EE [.Return (Zg e) pos] (bB m):=Iw he
theorem Bm (f:Cf X EE g k B sc V W) (l:Hl X EE c y js) (C:gI g x k' n mf) (h:(decide (k'≤k)&&(nJ sc x .globalImplicit&&(B7 x&&ao (e::es))))=Zh) (ha:PX X c.names EE (e::es) m):Ij X c.names EE (.Call (.Name x p) (e::es) [] pos) (az n mf m):=by obtain ⟨h1,h⟩:=cj h;obtain ⟨h2,h⟩:=cj h;obtain ⟨h3,h4⟩:=cj h;obtain ⟨_,fd,ps,q1,q2,q3,q4,q5⟩:=C.at f (of_decide_eq_true h1);exact Eh q1 q2 q3 q4 q5 (AL l.hx) (f.gl x h2) (oq h3) ha h4
end
def lT (o:Obj):Bool:=match o.cls,o.data with
 | .none,.fields _=>Zk
 | _,_=>Zh
abbrev fK (K:Params→Zo) (P:Params):Zo:=(K P).filter λp=>lT p.2
section
variable {K:Zo}
theorem gD {a:Addr} {o:Obj} (ht:lT o=Zh):∀ {K:Zo},K.lookup a=Zg o→(K.filter λp=>lT p.2).lookup a=Zg o
 | (b,u)::K,h=>by
  rw [ZW] at h;by_cases e:a=b
  ·subst e;rw [show (a==a)=Zh by simp] at h;cases h;rw [aco (by exact ht),ZW,show (a==a)=Zh by simp]
  ·have e':(a==b)=Zk:=beq_eq_false_iff_ne.mpr e;rw [e'] at h;have ih:=gD ht h;by_cases q:lT u=Zh
   ·rw [aco (by exact q),ZW,e'];exact ih
   ·rw [adt (by exact q)];exact ih
theorem qK:lT ⟨oc,od,.func fd,sl⟩=Zh:=by cases oc<;>rfl
theorem EC {es:Array DictEntry}:lT ⟨oc,od,.dict es ep,sl⟩=Zh:=by cases oc<;>rfl
theorem nN {ns:Addr} {r:Option Zj} (h:aa0 K ns x=Zg r):aa0 (K.filter λp=>lT p.2) ns x=Zg r:=by
 unfold aa0 at h ⊢;cases e:K.lookup ns with
 | none=>rw [e] at h;cases h
 | some o=>
  rw [e] at h;obtain ⟨oc,od,dt,sl⟩:=o;cases dt with
  | dict es ep=>rw [gD EC e];exact h
  | _=>cases h
theorem ED:acw (K.filter λp=>lT p.2)=Zh:=by unfold acw;rw [ab4];intro p hp;exact (acJ.mp hp).2
variable {mg:Str→Option Zj} {h:Heap} {x:Str} {n:Nat} {N:List Str} {st:Stmt}
theorem mO.EF {l:List Ex} (X:acg (K.filter λp=>lT p.2) h) (G:h.Ns mainGlobals mg) {f cA:Addr} {od an o2:Option Addr} {sl s2:Array (Option Zj)} {oc kV dc pm ct v0:Zj} {T:String} {tk:Tok} {vs:Array Zj} {rest:List Zj} (a:aa0 K mainGlobals x=Zg (Zg (.ref f)))
  (l0:K.lookup f=Zg ⟨oc,od,.func (aaI x x (gX st) (ck st) (au st) .none kV dc pm an (.ref cA) ct),sl⟩) (lc:K.lookup cA=Zg ⟨.type T,o2,.fields vs,s2⟩) (hv:vs.toList=v0::.str x tk::rest) (r:mO (K.filter λp=>lT p.2) mg l):mO (K.filter λp=>lT p.2) mg ((x,n,N,st)::l):=by
 have l1:=gD qK l0;have l2:=gD (show lT ⟨.type T,o2,.fields vs,s2⟩=Zh from rfl) lc;refine mO.cons X G (nN a) l1 ?_ ?_ r
 ·unfold abJ;dsimp only;rw [l2];dsimp only;rw [hv];simp
 ·unfold Z5;dsimp only;rw [l1]
theorem iO.EF {l:List Str} (X:acg (K.filter λp=>lT p.2) h) (G:h.Ns mainGlobals mg) (a:aa0 K mainGlobals x=Zg Zl) (r:iO mg l):iO mg (x::l):=iO.cons X G (nN a) r
theorem Bo {f:Addr} {vs:Array Zj} (t1:aa0 K mainGlobals x=Zg (Zg (.ref f))) (t2:K.lookup f=Zg ⟨oc,od,.func fd,sl⟩) (t3:fd.code=.ref c) (t4:K.lookup c=Zg ⟨.type T,o2,.fields vs,o4⟩) (t5:vs[11]?=Zg (.ref Pt)) :
  aaZ (K.filter λp=>lT p.2) x=Zg (c,Pt):=Ej (nN t1) (gD qK t2) t3 (gD rfl t4) t5
end
theorem EG {a:Addr} {o:Obj}:∀ {K:Zo},K.lookup a=Zg o→(a,o)∈K
 | (b,u)::K,h=>by
  rw [ZW] at h;by_cases e:a=b
  ·subst e;rw [show (a==a)=Zh by simp] at h;cases h;simp
  ·rw [show (a==b)=Zk from beq_eq_false_iff_ne.mpr e] at h;exact ZY _ (EG h)
theorem EH {q:ZT} {K:Params→Zo} {t:Nat} {r:PySem.W.RowW} {d:DefRec} (has:∀ P,as=(K P).map (·.1))
  (h:aea q loose XP (λw h=>acg (fK K w.params) h) r d kwd run):PySem.W.WalkX q loose XP (PySem.W.X.obsZ as) (PySem.W.X.valZ K n t) r d kwd run:=by
 intro w s₀ s₁ mg mb G e a o pm cd doc dV kV h1 h2 h3 h4 h5 h6 args vals as' L p1 p2 p3 p4 p5;refine h w s₀ s₁ mg mb G (λb u hb=>?_) a o pm cd doc dV kV h1 h2 h3 h4 h5 h6 args vals as' p1 p2 p3 p4 p5;have hm:=(acJ.mp (EG hb)).1;have e1:as.map s₀.heap.get?=(K w.params).map λp=>Zg p.2:=congrArg (·.1) e;rw [has w.params,aaM] at e1;exact L.keeps b u (List.map_inj_left.mp e1 (b,u) hm)
def ou (f:Str) (v:D):List (Str×D)→List (Str×D)
 | []=>[(f,v)]
 | (g,x)::r=>if g=f then (g,v)::r else (g,x)::ou f v r
section
variable {K:Zo} {mg:Str→Option Zj} {H:Hp} {ρ:List Addr} {G:DH}
theorem uy (f:Str):∀ {fs:List (Str×D)} {xs:List V},aq K mg ρ H (fs.map (·.2)) xs →
  (fs.lookup f=Zl∧((fs.map (·.1)).zip xs).lookup f=Zl)∨∃ d v,fs.lookup f=Zg d∧((fs.map (·.1)).zip xs).lookup f=Zg v∧Rep K mg ρ H d v
 | [],xs,r=>.inl ⟨rfl,rfl⟩
 | (g,d)::q,xs,r=>by
  rw [Zy] at r;unfold aq at r;obtain ⟨v,r',rfl,h1,h2⟩:=r;rw [Zy,aaW,ZW,ZW];by_cases e:f=g
  ·subst e;have z:(f==f)=Zh:=by simp
   rw [z];exact .inr ⟨d,v,rfl,rfl,h1⟩
  ·have z:(f==g)=Zk:=beq_eq_false_iff_ne.mpr e;rw [z];exact uy f h2
theorem wM (f:Str) {d:D} {v:V} (rv:Rep K mg ρ H d v):∀ {fs:List (Str×D)} {xs:List V},aq K mg ρ H (fs.map (·.2)) xs →
  ∃ ys,jt f v ((fs.map (·.1)).zip xs)=((ou f d fs).map (·.1)).zip ys∧aq K mg ρ H ((ou f d fs).map (·.2)) ys
 | [],xs,r=>⟨[v],by simp [jt,ou],by simpa [ou] using aq.cons rv .nil⟩
 | (g,x)::q,xs,r=>by
  rw [Zy] at r;unfold aq at r;obtain ⟨u,r',rfl,h1,h2⟩:=r;rw [Zy,aaW,jt,ou];by_cases e:g=f
  ·rw [if_pos e,if_pos e];exact ⟨v::r',rfl,.cons rv h2⟩
  ·rw [if_neg e,if_neg e];obtain ⟨ys,e1,e2⟩:=wM f rv h2;exact ⟨u::ys,by rw [e1];rfl,.cons h1 e2⟩
theorem uz {u:List (Str×V)} (hp:H p=Zg (.ins C dx u)) (ρ:List Addr):bX K H (upd H p ob) ρ ρ:=by
 refine ⟨λa zs h=>?_,λa q w h=>by rw [aA (fB h hp (by intro z;cases z))];exact h,⟨[],by simp⟩,λa φ h=>by rw [aA (fB h hp (by intro z;cases z))];exact h⟩
 ·rw [pQ] at h ⊢;rw [aA (fB h hp (by intro z;cases z))];exact h
theorem eN.TJ {c:Str} {es:List (Str×D)} {u:List (Str×V)} (h:eN K mg H ρ G) (hn:ρ[n]?=Zg a) (ha:H a=Zg (.ins C dx u)) (hc:mg c=Zg (.ref C)) (r:aq K mg ρ H (es.map (·.2)) ys) :
  eN K mg (upd H a (.ins C dx ((es.map (·.1)).zip ys))) ρ (G.set n (.ins c es)):=by
 have f:bX K H (upd H a (.ins C dx ((es.map (·.1)).zip ys))) ρ ρ:=uz ha ρ;refine ⟨by simp [h.hl],h.nd,λm ob e=>?_⟩;by_cases hm:n=m
 ·subst hm;rw [aap,if_pos rfl] at e;split at e
  ·cases e;exact ⟨a,hn,C,dx,ys,hc,aN,r.mono f⟩
  ·cases e
 ·rw [ZZ hm] at e;obtain ⟨b,e1,r'⟩:=h.ob m ob e;have hb:b≠a:=by rintro rfl;obtain ⟨h1,xF⟩:=Zp.mp hn;obtain ⟨h2,tZ⟩:=Zp.mp e1;exact hm ((aaO h.nd).mp (xF.trans tZ.symm))
  exact ⟨b,e1,r'.mono f λu q=>by rw [aA hb];exact q⟩
theorem eN.P7 {c:Str} (h:eN K mg H ρ G) (hp:H p=Zl) (hc:mg c=Zg (.ref C)):eN K mg (upd H p (.ins C dx [])) (ρ++[p]) (G++[.ins c []]):=by
 have f:bX K H (upd H p (.ins C dx [])) ρ (ρ++[p]):=(cH hp ρ).trans (dN ρ p);refine ⟨by simp [h.hl],?_,λn ob e=>?_⟩
 ·rw [abB];refine ⟨h.nd,by simp,λa ha b hb=>?_⟩;have e:b=p:=by simpa using hb
  subst e;rintro rfl;exact h.not_mem hp ha
 ·by_cases hn:n<G.length
  ·rw [ZC hn] at e;obtain ⟨a,e1,r'⟩:=h.ob n ob e;exact ⟨a,f.get e1,r'.mono f λu q=>by rw [aA (bW q hp)];exact q⟩
  ·have hl:n<(G++[DO.ins c []]).length:=(Zp.mp e).1;have hn':n=G.length:=by simp at hl;nofun
   subst hn';rw [aB] at e;cases e;exact ⟨p,by rw [← h.hl,aB],C,dx,[],hc,aN,.nil⟩
end
def k9 (G:DH) (c:Str):D→Option (List (Str×D))
 | .obj n=>match G[n]? with
  | some (.ins b fs)=>if b=c then Zg fs else Zl
  | _=>Zl
 | _=>Zl
theorem nO {c:Str} {fs:List (Str×D)} {x:V} (hc:mg c=Zg (.ref C)) (h:eN K mg H ρ G) (r:Rep K mg ρ H d x) (e:k9 G c d=Zg fs) :
  ∃ n a dx xs,d=.obj n∧x=.ref a∧ρ[n]?=Zg a∧H a=Zg (.ins C dx ((fs.map (·.1)).zip xs))∧aq K mg ρ H (fs.map (·.2)) xs:=by
 cases d with
 | obj n=>
  unfold Rep at r;obtain ⟨a,rfl,ea⟩:=r;dsimp only [k9] at e;cases g:G[n]? with
  | none=>rw [g] at e;cases e
  | some ob=>
   cases ob with
   | ins b us=>
    rw [g] at e;dsimp only at e;by_cases hb:b=c
    ·subst hb;rw [if_pos rfl] at e;cases e;obtain ⟨a',e1,C',dx,xs,hC,e2,rs⟩:=h.ob n _ g;rw [ea] at e1;cases e1;rw [hc] at hC;cases hC;exact ⟨n,a,dx,xs,rfl,rfl,ea,e2,rs⟩
    ·rw [if_neg hb] at e;cases e
   | _=>rw [g] at e;cases e
 | _=>cases e
section
variable {X:Cx} {EE:bR} {o a:Expr} {f c:Str} {pos pos':Pos} {mo mv:DS→M D} {C:Addr}
def mP (c f:Str) (mo:DS→M D):DS→M D:=λτ=>(mo τ).bind λd G=>match k9 G c d with
 | some fs=>match fs.lookup f with
  | some v=>.ok v G
  | none=>.stuck
 | none=>.stuck
theorem MZ (hc:X.mg c=Zg (.ref C)) (hC:uZ X.K C) (hn:fL X.K C f) (ho:QE X EE o mo) (hb:nv o=Zh:=by rfl):QE X EE (.Attribute o f pos) (mP c f mo):=by
 refine PE.mono (K5 ho (gZ hb _ _)) λσ H Q zz=>?_;obtain ⟨τ,ρ,G,ab,ok⟩:=zz;refine ⟨τ,ρ,G,ab,?_⟩;dsimp only [mP,M.bind] at ok;cases e1:mo τ G with
 | stuck=>rw [e1] at ok;exact ok
 | bq c G'=>rw [e1] at ok;exact ok
 | ok d G1=>
  rw [e1] at ok;dsimp only at ok;intro vd H1 ρ1 f1 fD r1;cases q:k9 G1 c d with
  | none=>rw [q] at ok;exact ok.elim
  | some fs=>
   rw [q] at ok;dsimp only at ok;obtain ⟨n,a,dx,xs,rfl,rfl,ea,eH,rs⟩:=nO hc fD.hp r1 q;rcases uy f rs with ⟨z1,z2⟩ | ⟨dv,v,z1,z2,z3⟩
   ·rw [z1] at ok;exact ok.elim
   ·rw [z1] at ok;exact ⟨a,C,dx,_,v,rfl,eH,hC,hn,z2,ok v H1 ρ1 f1 fD z3⟩
def zV (c f:Str) (v d:D):M D:=λG=>match d,k9 G c d with
 | .obj n,Zg fs=>if fs.length<1000 then .ok .cy (G.set n (.ins c (ou f v fs))) else .stuck
 | _,_=>.stuck
def kr (c f:Str) (mv mo:DS→M D):MS:=λτ=>bz ((mv τ).bind λv=>(mo τ).bind λd=>zV c f v d) (λ_ G=>.nx τ G) λc G=>.xn c τ G
theorem M0 (hc:X.mg c=Zg (.ref C)) (hC:uZ X.K C) (hn:fL X.K C f) (hv:QE X EE a mv) (ho:QE X EE o mo) (h:j9 a=Zh:=by rfl):QS X EE (.Assign [.Attribute o f pos'] a pos) (kr c f mv mo):=
 PS.mono (K6 ho hv (kJ h _ _ _)) λDd σ H zz=>by
  obtain ⟨τ,ρ,G,ab,ok⟩:=zz;refine ⟨τ,ρ,G,ab,?_⟩;dsimp only [kr,bz,M.bind] at ok;cases e1:mv τ G with
  | stuck=>rw [e1] at ok;exact ok
  | bq c G'=>rw [e1] at ok;exact λH' ρ' f aV=>ok σ H' ρ' f aV
  | ok v G1=>
   rw [e1] at ok;intro vv H1 ρ1 f1 fD r1;refine ⟨τ,ρ1,G1,fD,?_⟩;dsimp only at ok;cases e2:mo τ G1 with
   | stuck=>rw [e2] at ok;exact ok
   | bq c G'=>rw [e2] at ok;exact λH' ρ' f aV=>ok σ H' ρ' (f1.trans f) aV
   | ok d G2=>
    rw [e2] at ok;intro vo H2 ρ2 f2 bA r2;dsimp only [zV] at ok;cases q:k9 G2 c d with
    | none=>rw [q] at ok;cases d<;>exact ok.elim
    | some fs=>
     obtain ⟨n,b,dx,xs,rfl,rfl,ea,eH,rs⟩:=nO hc bA.hp r2 q;rw [q] at ok;dsimp only at ok;by_cases hl:fs.length<1000
     ·rw [if_pos hl] at ok;obtain ⟨ys,ey,ry⟩:=wM f (r1.mono f2) rs;refine ⟨b,C,dx,_,rfl,eH,hC,hn,?_,?_⟩
      ·have:=rs.length;simp at this;simp;nofun
      ·rw [ey];exact ok σ _ ρ2 ((f1.trans f2).trans (uz eH ρ2)) ⟨bA.st.mono (uz eH ρ2),bA.hp.TJ ea eH hc ry⟩
     ·rw [if_neg hl] at ok;exact ok.elim
end
section
variable {X:Cx} {EE:bR} {e o:Expr} {es:List Expr} {x c m:Str} {p pos apos:Pos} {k n:Nat} {f C:Addr} {fd:FuncData} {ps:List Str} {mf:List D→M D} {ma:DS→M (List D)} {mo:DS→M D}
theorem JZ:Passes (mq P w) X (λ_ _ _=>False):=λ_ _ _ _ _ _ _ zz=>by obtain ⟨_,_,_,_,_,_,_,_,z⟩:=zz;exact z.elim
def sP (c:Str) (n:Nat) (mf:List D→M D) (ma:DS→M (List D)):DS→M D:=λτ=>(ma τ).bind λds G=>if ds.length+1=n then match mf (.obj G.length::ds) (G++[.ins c []]) with
  | .ok .cy G'=>.ok (.obj G.length) G'
  | _=>.stuck
 else .stuck
theorem IE (M:Mk X.K C f) (F:gA X.prog X.w X.K X.mg X.base (mq X.prog X.w) k f fd ps (fW X.K X.mg n mf)) (hr:cP (k+1) X.A) (hm:X.mg x=Zg (.ref C)) (hb:Binds X.K fd ps []) (hg:Gl X x) (hd:(x==("__debug__":Str))=Zk) (ha:QA X EE (e::es) ma) (h:ao (e::es)=Zh:=by rfl) :
  QE X EE (.Call (.Name x p) (e::es) [] pos) (sP x n mf ma):=by
 have h':bf e=Zh∧ao es=Zh:=by simpa [ao] using h
 refine PE.mono (Gm M F hr hg hm hb .nil JZ ha hd (aK h'.1 _ _) (aJ h'.2)) λσ H Q hq=>?_;obtain ⟨τ,ρ,G,ab,ok⟩:=jx (k:=λ_ ds G=>if ds.length+1=n then match mf (.obj G.length::ds) (G++[.ins x []]) with
  | .ok .cy G'=>Out.ok (.obj G.length) G'
  | _=>.stuck
 else .stuck) hq
 refine ⟨τ,ρ,G,ab,?_⟩;cases e1:ma τ G with
 | stuck=>rw [e1] at ok;exact ok
 | bq c G'=>rw [e1] at ok;exact ok
 | ok ds G'=>
  rw [e1] at ok;intro vs H1 ρ1 f1 fD r1;obtain ⟨τ2,ρ2,G2,d2,bA,r2,aI⟩:=ok vs H1 ρ1 f1 fD r1;intro y dx hy hdx hne;by_cases hn:d2.length+1=n
  ·rw [if_pos hn] at aI;have Rj:upd H1 dx (.own y) y=Zl:=by rw [aA (aat hne)];exact hy
   have g1:bX X.K H1 (upd H1 dx (.own y)) ρ2 ρ2:=cH hdx ρ2;have g2:bX X.K (upd H1 dx (.own y)) (upd (upd H1 dx (.own y)) y (.ins C dx [])) ρ2 (ρ2++[y]):=(cH Rj ρ2).trans (dN ρ2 y);have hA:=(bA.hp.new (o:=.own y) hdx).P7 (dx:=dx) Rj hm;have hn2:(ρ2++[y])[G2.length]?=Zg y:=by rw [← bA.hp.hl,aB]
   refine ⟨.obj G2.length::d2,ρ2++[y],G2++[.ins x []],by rw [ZN];exact hn,hA,?_,?_⟩
   ·rw [aaA];exact .cons (by unfold Rep;exact ⟨y,rfl,hn2⟩) (r2.mono (g1.trans g2))
   ·cases e2:mf (.obj G2.length::d2) (G2++[.ins x []]) with
    | stuck=>rw [e2] at aI;exact aI
    | bq c G'=>rw [e2] at aI;exact aI.elim
    | ok d G3=>
     rw [e2] at aI;cases d<;>try exact aI.elim
     intro v H' ρ' ff hb' rv;unfold Rep at rv;subst rv;refine ⟨rfl,aI (.ref y) H' ρ' ((g1.trans g2).trans ff) ⟨bA.st.mono ((g1.trans g2).trans ff),hb'⟩ ?_⟩;unfold Rep;exact ⟨y,rfl,ff.get hn2⟩
  ·rw [if_neg hn] at aI;exact aI.elim
def kB (c m:Str) (n:Nat) (mf:List D→M D) (mo:DS→M D) (ma:DS→M (List D)):DS→M D:=λτ=>(mo τ).bind λd G=>match k9 G c d with
 | some fs=>if fs.lookup m=Zl then ((ma τ).bind λds G=>if ds.length+1=n then iV (mf (d::ds) G) else .stuck) G else .stuck
 | none=>.stuck
theorem IF {pl:Sem Bool} (hc:X.mg c=Zg (.ref C)) (hC:uZ X.K C) (hm:Meth X.K C m f) (F:gA X.prog X.w X.K X.mg X.base (mq X.prog X.w) k f fd ps (fW X.K X.mg n mf)) (hr:cP k X.A) (hb:Binds X.K fd ps []) (ho:QE X EE o mo) (ha:QA X EE (e::es) ma)
  (ht:eval (.Call (.Attribute o m apos) (e::es) [] pos) X.env=(do
   let ov ← eval o X.env
   standAt apos.atName
   let (f,first) ← holding [ov] (getMethod ov m pl)
   callWith pos f first (backTo pos (ZF (e::es) X.env)) (backToKw pos (keywordEach [] X.env)))) (h:ao (e::es)=Zh:=by rfl) :
  QE X EE (.Call (.Attribute o m apos) (e::es) [] pos) (kB c m n mf mo ma):=by
 have h':bf e=Zh∧ao es=Zh:=by simpa [ao] using h
 refine PE.mono (Gk ho hC hm F hr hb .nil JZ ha (aK h'.1 _ _) (aJ h'.2) ht) λσ H Q zz=>?_;obtain ⟨τ,ρ,G,ab,ok⟩:=zz;refine ⟨τ,ρ,G,ab,?_⟩;dsimp only [kB,M.bind] at ok;cases e1:mo τ G with
 | stuck=>rw [e1] at ok;exact ok
 | bq c G'=>rw [e1] at ok;exact ok
 | ok d G1=>
  rw [e1] at ok;dsimp only at ok;intro vd H1 ρ1 f1 fD r1;cases q:k9 G1 c d with
  | none=>rw [q] at ok;exact ok.elim
  | some fs=>
   rw [q] at ok;dsimp only at ok;obtain ⟨nn,a,dx,xs,rfl,rfl,ea,eH,rs⟩:=nO hc fD.hp r1 q;by_cases hl:fs.lookup m=Zl
   ·rw [if_pos hl] at ok;have z:((fs.map (·.1)).zip xs).lookup m=Zl:=by
     rcases uy m rs with ⟨_,z⟩ | ⟨d,v,z1,_⟩
     ·exact z
     ·rw [hl] at z1;cases z1
    refine ⟨a,dx,_,rfl,eH,z,τ,ρ1,G1,fD,?_⟩;cases e2:ma τ G1 with
    | stuck=>rw [e2] at ok;exact ok
    | bq c G'=>rw [e2] at ok;exact λH' ρ' f aV=>ok H' ρ' (f1.trans f) aV
    | ok ds G2=>
     rw [e2] at ok;dsimp only at ok;intro vs H2 ρ2 f2 bA r2;by_cases hn:ds.length+1=n
     ·rw [if_pos hn] at ok;refine ⟨.obj nn::ds,ρ2,G2,by rw [ZN];exact hn,bA.hp,?_,?_⟩
      ·rw [aaA];exact .cons (r1.mono f2) r2
      ·cases e3:mf (.obj nn::ds) G2 with
       | stuck=>rw [e3] at ok;exact ok
       | bq c G'=>rw [e3] at ok;exact ok.elim
       | ok d3 G3=>rw [e3] at ok;exact λv H' ρ' ff hb' rv=>ok v H' ρ' ((f1.trans f2).trans ff) ⟨bA.st.mono ff,hb'⟩ rv
     ·rw [if_neg hn] at ok;exact ok.elim
   ·rw [if_neg hl] at ok;exact ok.elim
end
def uA:Stmt→List Stmt
 | .ClassDef _ _ _ b _ _ _ _ _ _ _=>b
 | _=>[]
def IG (g:rB) (cn:Str) (k n:Nat) (m:List D→M D):Prop:=∃ C f fd ps,gA g.P g.w g.K g.mg g.base (mq g.P g.w) k f fd ps (fW g.K g.mg n m)∧g.mg cn=Zg (.ref C)∧Mk g.K C f∧Binds g.K fd ps []
def Bp (g:rB) (cn mm:Str) (k n:Nat) (m:List D→M D):Prop:=∃ C f fd ps,gA g.P g.w g.K g.mg g.base (mq g.P g.w) k f fd ps (fW g.K g.mg n m)∧g.mg cn=Zg (.ref C)∧uZ g.K C∧Meth g.K C mm f∧Binds g.K fd ps []
def uB (g:rB) (cn f:Str):Prop:=∃ C,g.mg cn=Zg (.ref C)∧uZ g.K C∧fL g.K C f
def Bq (K:Zo) (mg:Str→Option Zj) (cn q:Str) (st:Stmt):Prop:=∃ C f fd,mg cn=Zg (.ref C)∧Mk K C f∧rZ K "__init__" q st f fd
def uC (K:Zo) (mg:Str→Option Zj) (cn mm q:Str) (st:Stmt):Prop:=∃ C f fd,mg cn=Zg (.ref C)∧uZ K C∧Meth K C mm f∧rZ K mm q st f fd
def EI (st:Stmt) (x q:Str) (ps:List Str):Prop:=∀ (kV doc pm:Zj) (an:Option Addr) (cdv ct:Zj) (us:List Zj),us.length=ps.length→bindArgs (aaI x q (gX st) (ck st) (au st) .none kV doc pm an cdv ct) ⟨us,[]⟩=pure (ps.zip us)
section
variable {g:rB} {k n nn:Nat} {cn mm q:Str} {N B:List Str} {st:Stmt} {ms:MS}
theorem II (I:Bq g.K g.mg cn q st) (hB:iO g.mg B) (S:fY N (N.take n) (au st)) (hps:(N.take n).length=n) (hN:N.length=nn) (hb:EI st "__init__" q (N.take n))
  (body:∀ (X:Cx) (EE:bR),Cf X EE g k B (au st) (rC (au st) N) (rE Zh (au st) N)→Cs X (au st) N→qY X EE (ck st) ms):IG g cn (k+1) n (λds=>bL nn ms ds):=by
 obtain ⟨C,f,fd,hC,hM,F⟩:=I;refine ⟨C,f,fd,_,Sn (k:=k) (ms:=ms) F S hps hN (λ_=>rfl) ?_,hC,hM,F.binds hb⟩;intro X EE cdv A outer s H E hX hr hx Ez;subst hX;exact body _ EE (qJ hB hr hx) ⟨S.nd,⟨_,outer,s.heap.objs.size,rfl,rfl,rfl⟩,Ez,rfl,rfl,sO S.kind⟩
theorem zW (I:uC g.K g.mg cn mm q st) (hB:iO g.mg B) (S:fY N (N.take n) (au st)) (hps:(N.take n).length=n) (hN:N.length=nn) (hb:EI st mm q (N.take n))
  (body:∀ (X:Cx) (EE:bR),Cf X EE g k B (au st) (rC (au st) N) (rE Zh (au st) N)→Cs X (au st) N→qY X EE (ck st) ms):Bp g cn mm (k+1) n (λds=>bL nn ms ds):=by
 obtain ⟨C,f,fd,hC,hM,W6,F⟩:=I;refine ⟨C,f,fd,_,Sn (k:=k) (ms:=ms) F S hps hN (λ_=>rfl) ?_,hC,hM,W6,F.binds hb⟩;intro X EE cdv A outer s H E hX hr hx Ez;subst hX;exact body _ EE (qJ hB hr hx) ⟨S.nd,⟨_,outer,s.heap.objs.size,rfl,rfl,rfl⟩,Ez,rfl,rfl,sO S.kind⟩
end
section
variable {X:Cx} {EE:bR} {g:rB} {k k' n:Nat} {B:List Str} {sc:Scope} {V W:List (Option Str)} {x cn f mm:Str} {pos pos' p apos:Pos} {e o a:Expr} {es:List Expr} {ma:DS→M (List D)} {mo mv:DS→M D} {mf:List D→M D}
theorem uB.at (c:Cf X EE g k B sc V W) (C:uB g cn f):∃ C,X.mg cn=Zg (.ref C)∧uZ X.K C∧fL X.K C f:=by obtain ⟨e1,e2,e3,e4,e5⟩:=c.eq;rw [e3,e4];exact C
theorem IJ (c:Cf X EE g k B sc V W) (C:uB g cn f) (h:nv o=Zh) (ho:QE X EE o mo):QE X EE (.Attribute o f pos) (mP cn f mo):=by obtain ⟨A,h1,h2,h3⟩:=C.at c;exact MZ h1 h2 h3 ho h
theorem IK (c:Cf X EE g k B sc V W) (C:uB g cn f) (h:j9 a=Zh) (hv:QE X EE a mv) (ho:QE X EE o mo):QS X EE (.Assign [.Attribute o f pos'] a pos) (kr cn f mv mo):=by obtain ⟨A,h1,h2,h3⟩:=C.at c;exact M0 h1 h2 h3 hv ho h
theorem EJ (c:Cf X EE g k B sc V W) (C:IG g x k' n mf) (h:(decide (k'+1≤k)&&(nJ sc x .globalImplicit&&(B7 x&&ao (e::es))))=Zh) (ha:QA X EE (e::es) ma):QE X EE (.Call (.Name x p) (e::es) [] pos) (sP x n mf ma):=by obtain ⟨h1,h⟩:=cj h;obtain ⟨h2,h⟩:=cj h;obtain ⟨h3,h4⟩:=cj h;obtain ⟨A,f,fd,ps,q1,q2,q3,q4⟩:=C;have r:=c.hr.mono (of_decide_eq_true h1);obtain ⟨e1,e2,e3,e4,e5⟩:=c.eq;rw [← e1,← e2,← e3,← e4,← e5] at q1;rw [← e4] at q2;rw [← e3] at q3 q4;exact IE q3 q1 r q2 q4 (c.gl x h2) (oq h3).1 ha h4
theorem EK (c:Cf X EE g k B sc V W) (C:Bp g cn mm k' n mf) (h:(decide (k'≤k)&&ao (e::es))=Zh) (ho:QE X EE o mo) (ha:QA X EE (e::es) ma)
  (ht:eval (.Call (.Attribute o mm apos) (e::es) [] pos) X.env=(do
   let ov ← eval o X.env
   standAt apos.atName
   let (f,first) ← holding [ov] (getMethod ov mm pl)
   callWith pos f first (backTo pos (ZF (e::es) X.env)) (backToKw pos (keywordEach [] X.env)))):QE X EE (.Call (.Attribute o mm apos) (e::es) [] pos) (kB cn mm n mf mo ma):=by
 obtain ⟨h1,h4⟩:=cj h;obtain ⟨A,f,fd,ps,q1,q2,q3,q5,q4⟩:=C;have r:=c.hr.mono (of_decide_eq_true h1);obtain ⟨e1,e2,e3,e4,e5⟩:=c.eq;rw [← e1,← e2,← e3,← e4,← e5] at q1;rw [← e4] at q2;rw [← e3] at q3 q4 q5;exact IF q2 q3 q5 q1 r q4 ho ha ht h4
end
section
variable {K:Zo} {mg:Str→Option Zj} {h:Heap} {cn mm q f:Str} {st:Stmt}
theorem rZ.J0 {kV:Zj} {vs:Array Zj} {rest:List Zj}
  (l0:K.lookup fA=Zg ⟨oc,od,.func (aaI mm q (gX st) (ck st) (au st) .none kV dc pm an (.ref cA) ct),sl⟩) (lc:K.lookup cA=Zg ⟨.type T,o2,.fields vs,s2⟩) (hv:vs.toList=v0::.str q tk::rest):∃ fd,rZ (K.filter λp=>lT p.2) mm q st fA fd:=by
 have l1:=gD qK l0;have l2:=gD (show lT ⟨.type T,o2,.fields vs,s2⟩=Zh from rfl) lc;refine ⟨_,CD l1 ?_ ?_⟩
 ·unfold abJ;dsimp only;rw [l2];dsimp only;rw [hv];simp
 ·unfold Z5;dsimp only;rw [l1]
theorem Bq.J0 (X:acg (K.filter λp=>lT p.2) h) (G:h.Ns mainGlobals mg) {C fA:Addr} (a:aa0 K mainGlobals cn=Zg (Zg (.ref C))) (m1:adK (K.filter λp=>lT p.2) C=Zh) (m2:aas (K.filter λp=>lT p.2) (.ref C) "__init__"=Zg (Zg (.ref fA))) (m3:acW (K.filter λp=>lT p.2) (.ref fA)=Zh)
  (m4:Z5 (K.filter λp=>lT p.2) (.ref C)=Zh) (F:∃ fd,rZ (K.filter λp=>lT p.2) "__init__" q st fA fd):Bq (K.filter λp=>lT p.2) mg cn q st:=by
 obtain ⟨fd,F⟩:=F;exact ⟨C,fA,fd,aeb X G (nN a),⟨m1,m2,m3,m4⟩,F⟩
theorem uC.J0 (X:acg (K.filter λp=>lT p.2) h) (G:h.Ns mainGlobals mg) {C fA:Addr} (a:aa0 K mainGlobals cn=Zg (Zg (.ref C))) (hC:uZ (K.filter λp=>lT p.2) C) (m2:aas (K.filter λp=>lT p.2) (.ref C) mm=Zg (Zg (.ref fA))) (m3:acW (K.filter λp=>lT p.2) (.ref fA)=Zh)
  (m4:Z5 (K.filter λp=>lT p.2) (.ref fA)=Zh) (F:∃ fd,rZ (K.filter λp=>lT p.2) mm q st fA fd):uC (K.filter λp=>lT p.2) mg cn mm q st:=by
 obtain ⟨fd,F⟩:=F;exact ⟨C,fA,fd,aeb X G (nN a),hC,⟨m2,m3,m4⟩,F⟩
end
def uE:List D→M D
 | [.bl k]=>M.ret (.bl k)
 | _=>M.stop
def oz:List D→Option (List (Int×Int))
 | []=>Zg []
 | .tup [.int a,.int b]::r=>(oz r).map ((a,b)::·)
 | _=>Zl
def wN (a b:Int×Int):Bool:=decide (a.1 > b.1∨a.1=b.1∧a.2 > b.2)
def IL (bs:List (Int×Int)):Int×Int:=bs.getD (argBest (λi j=>wN (bs.getD i (0,0)) (bs.getD j (0,0))) (bs.length - 1)) (0,0)
def sQ:List D→M D
 | [d]=>λG=>match aF G d with
  | some (.lst xs)=>match oz xs with
   | some bs=>if 0<bs.length then .ok (.tup [.int (IL bs).1,.int (IL bs).2]) G else .stuck
   | none=>.stuck
  | _=>.stuck
 | _=>M.stop
section
variable {X:Cx} {EE:bR} {e:Expr} {m:DS→M (List D)} {pos p:Pos}
theorem yJ:c9 X (.type "bool") (AE X EE uE):=by
 intro pins s σ0 H xs us Q I r zu;obtain ⟨σ,τ,ρ,G,ds,ab,zy,ok⟩:=zu
 match ds,ok with
 | [],ok=>exact ok.elim
 | d::_::_,ok=>cases d<;>exact ok.elim
 | [d],ok=>
  obtain ⟨x,rfl,rx⟩:=fQ zy;cases d<;>try exact ok.elim
  rename_i k;unfold Rep at rx;subst rx;exact xU pins s σ0 H _ us Q I r (.inr ⟨k,rfl,ok _ H ρ .refl ab (by unfold Rep;rfl)⟩)
theorem boot_bool:bootBuiltins "bool"=Zg (.type "bool"):=by symm
theorem IM (hm:X.mg "bool"=Zl) (hg:Gl X "bool") (ha:QA X EE [e] m) (h:ao [e]=Zh:=by rfl):QE X EE (.Call (.Name "bool" p) [e] [] pos) (ai uE m):=kK yJ hm hg boot_bool ha (by decide) (by decide) h
end
section
open PyProof.Rows
namespace Br
theorem slot_next:Slot "reversed" "__next__" "reversed.__next__":=
 .of (owner:="reversed") (n:="__next__") (by rw [typeLookup_type,builtinLookup_eq_fast];kernel_rfl) (by symm) (by symm) (by symm)
  (by first | exact .inl (by symm) | exact .inr (by symm)) (by rw [isSubtype_type];kernel_rfl)
theorem sR:Slot "reversed" "__iter__" "reversed.__iter__":=
 .of (owner:="reversed") (n:="__iter__") (by rw [typeLookup_type,builtinLookup_eq_fast];kernel_rfl) (by symm) (by symm) (by symm)
  (by first | exact .inl (by symm) | exact .inr (by symm)) (by rw [isSubtype_type];kernel_rfl)
theorem Bs:Slot "reversed" "__init__" "object.__init__":=
 .of (owner:="object") (n:="__init__") (by rw [typeLookup_type,builtinLookup_eq_fast];kernel_rfl) (by symm) (by symm) (by symm)
  (by first | exact .inl (by symm) | exact .inr (by symm)) (by rw [isSubtype_type];kernel_rfl)
theorem entry_next:entryFor table "reversed.__next__"=Zg abR.«reversed.__next__»:=entryFor_of_tree (by kernel_rfl)
theorem yK:entryFor table "reversed.__iter__"=Zg abR.«dict_keyiterator.__iter__»:=
 entryFor_alias (id':="dict_keyiterator.__iter__") (by kernel_rfl) (by first | rfl | symm | (unfold String.splitOn;simp +decide [String.splitOnAux])) (by symm) (by kernel_rfl)
theorem args_next (a:Zj):argsOk "reversed.__next__" ⟨[a],[]⟩:=by unfold argsOk;kernel_rfl
theorem Bt (a:Zj):argsOk "reversed.__iter__" ⟨[a],[]⟩:=by unfold argsOk;kernel_rfl
theorem called:TypeCalled "reversed" "reversed.__new__" "object.__init__":=
 ⟨by symm,aeC,⟨_,_,F.mro_reversed⟩,ae0,acI,F.sub_reversed_self,Bs⟩
theorem P8:typeLookup (.type "tuple") "__reversed__"=pure Zl:=by rw [typeLookup_type,builtinLookup_eq_fast];kernel_rfl
theorem nodict:isSubtype (.type "tuple") (.type "dict")=pure Zk:=by rw [isSubtype_type];kernel_rfl
def O (t:Addr) (i:Int):Obj:={cls:=.type "reversed",data:=.fields #[.ref t,rawInt i]}
section
variable {prog:ZT} {w:aaa} {A:Around} {E:Zj→Zq→Prop} {s:Zq}
theorem Bu (t:Addr) (items:Array Zj):Meets (abR.«reversed.__new__» ⟨[.type "reversed",.ref t],[]⟩) (λ_ R s=>IsTup s.heap t items∧items.size≤Zm ∧
  R (.ok (.ret (Value.ref s.heap.objs.size))) {s with heap:=s.heap.push (O t ((items.size:Int) - 1)),toks:=s.toks+1+1}):=by
 intro prog w A R s zu;obtain ⟨ht,hz,h⟩:=zu;have hs:Zm=16777216:=sizeLine_eq;unfold abR.«reversed.__new__»;refine Zi (aaP (newClass_reversed _) ?_)
 try dsimp only
 refine Zi (aaP (a:=()) (by first | rfl | kernel_rfl) ?_);refine Zi (aaP (a:=()) (by first | rfl | kernel_rfl) ?_)
 try dsimp only
 refine Zi (abu ht.typeIs P8 ?_)
 try dsimp only
 refine Zi ?_;refine Zi (adp ht.typeIs nodict ?_);refine Zi (abu ht.typeIs slot_tuple_getitem.lookup ?_);show ZD _ _ (if _ then _ else _) _ _ _;rw [if_pos (by symm)];refine Zz ?_;refine Zi (len_tuple ht (by nofun) ?_);refine Zi (m:=asInt? _) (Zz ?_);refine Zi (m:=Builtin.SmallTypes.newRecord _ _) ?_;show ZD _ _ (newObj (.type "reversed") (.fields #[.ref t,rawInt ((items.size:Int) - 1)])) _ _ _;exact Z3 (Zz h) (by size_fits)
theorem EL {t:Addr} (ht:IsTup s.heap t items) (hz:items.size≤Zm)
  (h:Q (.ref s.heap.objs.size) {s with heap:=s.heap.push (O t ((items.size:Int) - 1)),toks:=s.toks+1+1}):ZD (model prog w) A (call (.type "reversed") [.ref t]) Q E s:=
 callType_new called (by decide) (adU _) (ad0 _) (λobj=>ab3 obj _) ad1 (Bu t items) ⟨ht,hz,⟨_,Zv _ rfl,rfl⟩,h⟩
def Is (h:Heap) (a t:Addr) (i:Int):Prop:=∃ o,h.get? a=Zg o∧o.cls=.type "reversed"∧o.data=.fields #[.ref t,rawInt i]
theorem Is.typeIs {t:Addr} {i:Int} (x:Is s.heap a t i):s.TypeIs (.ref a) "reversed":=let ⟨o,ho,hc,_⟩:=x;⟨o,ho,hc⟩
theorem Is.at {t:Addr} {i:Int} (x:Is h a t i) (e:∀ o,h.get? a=Zg o→h'.get? a=Zg o):Is h' a t i:=let ⟨o,ho,r⟩:=x;⟨o,e _ ho,r⟩
theorem next_item {t:Addr} {x:Zj} {Q:Option Zj→Zq→Prop} (hit:Is s.heap it t (i:Int)) (ht:IsTup s.heap t items) (hz:items.size≤Zm) (hx:items[i]?=Zg x)
  (hQ:∀ h',Is h' it t ((i:Int) - 1)→abc it s.heap h'→Q (Zg x) {s with heap:=h',toks:=s.toks+1}):ZD (model prog w) A (pyNext (.ref it)) Q E s:=by
 have hs:Zm=16777216:=sizeLine_eq;have hi:i<items.size:=by
  by_cases hh:i<items.size
  ·exact hh
  ·rw [abP (by nofun)] at hx;cases hx
 obtain ⟨o,ho,hc,hd⟩:=id hit;unfold pyNext
 refine Zi (aec (aay (name:=aby "__next__") hit.typeIs slot_next
  (aaV slot_next hit.typeIs entry_next ?_ (args_next _))))
 unfold abR.«reversed.__next__»;refine Zi (aaP (a:=(Value.ref it,[])) rfl ?_)
 try dsimp only
 refine Zi (Z9 ho hd (x:=.ref t) rfl ?_);refine Zi (Z9 ho hd (x:=rawInt (i:Int)) rfl ?_);show ZD _ _ (if (i:Int)<0 then _ else _) _ _ s;rw [if_neg (by nofun)];refine Zi (abu ht.typeIs slot_tuple_getitem.lookup ?_);show ZD _ _ (if Zk=Zh then _ else _) _ _ s;rw [if_neg (by decide)];refine Zi (aeT ?_);refine Zi (aec (getItem_tuple (j:=i) (s:={s with toks:=s.toks+1}) ht (by nofun) (by nofun) ?_ hx ?_))
 ·unfold seqIndex?;simp only [show ¬ ((i:Int)<0) by nofun,if_false];rw [if_pos (by simp only [aan,decide_eq_true_eq];nofun)];simp
 show ZD _ _ (field (.ref it) 1 >>= _) _ _ _;refine Zi (Z9 (s:={s with toks:=s.toks+1}) ho hd (x:=rawInt (i:Int)) rfl ?_);show ZD _ _ (setField (.ref it) 1 (rawInt ((i:Int) - 1)) >>= _) _ _ _;refine Zi (abl (s:={s with toks:=s.toks+1}) ho hd (by simp) ?_);refine Zz ⟨x,rfl,Zz (hQ _ ?_ (abb ..))⟩;exact ⟨_,Z1 _ ho (abo (aar hd _)),(ade ..).trans hc,by
  rw [aar hd];simp⟩
theorem iter {t:Addr} {i:Int} (hit:Is s.heap it t i) (h:Q (.ref it) s):ZD (model prog w) A (pyIter (.ref it)) Q E s:=by refine wpAny_pyIter_slot hit.typeIs sR (aaV sR hit.typeIs yK ?_ (Bt _));show ZD _ _ (ret (.ref it)) _ _ s;exact Zz ⟨_,rfl,"reversed",_,hit.typeIs,slot_next.lookup,h⟩
theorem next_end {t:Addr} {Q:Option Zj→Zq→Prop} (hh:A.handled=Zl) (hit:Is s.heap it t (-1))
  (hQ:∀ h',adX it s.heap h'→Q Zl {s with heap:=h'}):ZD (model prog w) A (pyNext (.ref it)) Q E s:=by
 obtain ⟨o,ho,hc,hd⟩:=id hit;unfold pyNext
 refine Zi (aec (aay (name:=aby "__next__") hit.typeIs slot_next
  (aaV slot_next hit.typeIs entry_next ?_ (args_next _))))
 unfold abR.«reversed.__next__»;refine Zi (aaP (a:=(Value.ref it,[])) rfl ?_)
 try dsimp only
 refine Zi (Z9 ho hd (x:=.ref t) rfl ?_);refine Zi (Z9 ho hd (x:=rawInt (-1)) rfl ?_);show ZD _ _ (if (-1:Int)<0 then _ else _) _ _ s;rw [if_pos (by decide)];refine Zi (acF ?_);refine Zi ?_;refine Zi (abl ho hd (by simp) ?_);have TL:(s.heap.update it (aaH λx=>x.setIfInBounds 1 (rawInt (-1)))).get? it=Zg (aaH (λx=>x.setIfInBounds 1 (rawInt (-1))) o):=Z1 _ ho (abo (aar hd _));refine abl (s:={s with heap:=s.heap.update it (aaH λx=>x.setIfInBounds 1 (rawInt (-1)))}) TL (aar hd _) (by simp) ?_;refine Zi ?_;show ZD _ _ (newExc (.type "StopIteration") [] >>= _) _ _ _;refine Zi ?_;simp only [newExc,newTuple];refine Zi (Z3 ?_ (by size_fits));refine Zi (m:=firstArgMember _ _) (aaP (a:=Value.none) (by first | rfl | (simp only [firstArgMember];rfl)) ?_);refine Z3 ?_ (by size_fits);simp only [raiseNew];refine Zi (ad8 ?_)
 first | rw [show A.in1.handled=Zl from hh] | rw [hh]
 refine Zi (Zz (adY ?_));refine Zi (adp (T:="StopIteration") (b:=Zh) ⟨_,Zv _ rfl,rfl⟩ isSubtype_stop ?_);exact Zz (hQ _ λb ob hb e=>(((aeQ it _).push _).push _) b ob hb (((abb ..).2 b hb).trans (((abb ..).2 b hb).trans e)))
end
end Br
end
section
open PyProof.Rows
def M3 (K:Zo) (a:Addr) (n:Nat):It:=
 ⟨λi H=>∃ xs x,lq K H a xs∧xs.length=n∧i<n∧xs[n - 1 - i]?=Zg x,λi H y H'=>H'=H∧∀ xs,lq K H a xs→xs[n - 1 - i]?=Zg y,λi H=>i=n⟩
theorem Bv (a it:Addr) (n:Nat):Turn P w K tg (M3 K a n) [it] it (λi h=>Br.Is h it a ((n:Int) - 1 - (i:Int))) where
 mem:=by simp
 obj:=λi h st b hb=>by
  have e:b=it:=by simpa using hb
  subst e;obtain ⟨o,e,c,d⟩:=st;exact ⟨o,e,λv z=>by rw [d] at z;cases z⟩
 keep:=λi h h' st k=>st.at λo e=>k it (by simp) o e
 item:=by
  intro X hP hw hK hc i pins s σ H E I hf st hg;subst hP hw hK;obtain ⟨xs,x,hq,hn,hi,hx⟩:=hg;obtain ⟨its,rv,p,hz⟩:=I.tuple hq;obtain ⟨u,hu,ru⟩:=rv.get hx;obtain ⟨f0,f1,f2,f3,f4,f5⟩:=hf it (by simp);have e:(n:Int) - 1 - (i:Int)=((n - 1 - i:Nat):Int):=by nofun
  rw [e] at st;refine Br.next_item st p (by rw [ZA,← rv.length];exact hz) (x:=u) (by simpa using hu) λh' st' sb=>?_;have I1:Inv X pins σ H {s with heap:=h',toks:=s.toks+1}:=I.turned (t':=s.toks+1) (λb o hb e=>(sb.2 b hb).trans e) f0 f1 f3 f4 f5;have e2:((n - 1 - i:Nat):Int) - 1=(n:Int) - 1 - ((i+1:Nat):Int):=by nofun
  rw [e2] at st';obtain ⟨o,e,c,d⟩:=id st';exact ⟨u,rfl,pI (s:={s with heap:=h',toks:=s.toks+1}) e c d (by decide) ⟨x,H,I1,ru,⟨rfl,λys hy=>by rw [I.mZ hy hq];exact hx⟩,st',λb hb=>(hf b hb).1⟩⟩
 done:=by intro X hP hw hK hc i pins s σ H E I hf st hg;subst hP hw hK;have hi:i=n:=hg;subst hi;obtain ⟨f0,f1,f2,f3,f4,f5⟩:=hf it (by simp);rw [show (i:Int) - 1 - (i:Int)=-1 by nofun] at st;exact Br.next_end (I.ok.hd hc) st λh' eb=>⟨rfl,I.turned (t':=s.toks) (λb o hb e=>eb b o hb e) f0 f1 f3 f4 f5⟩
 self:=λ_ _ _ _ _ st h=>Br.iter st h
def qL (xs:List D):View:=λ_ i=>if i=xs.length then Zg Zl else if i<xs.length then Zg xs[xs.length - 1 - i]? else Zl
def zX (m:DS→M (List D)):MI:=λτ=>(m τ).bind λds=>match ds with
 | [d]=>λG=>match aF G d with
  | some (.tup xs)=>.ok (xs.length+1,qL xs) G
  | _=>.stuck
 | _=>M.stop
theorem IP (SX:pQ H0 l oh) (A6:aq K mg ρ0 H0 zs oh):JV K mg (M3 K l zs.length) (qL zs) H0 ρ0:=by
 intro i H ρ G f hp;have sq:=pQ.t (K:=K) (f.tup _ _ SX);have rs:=A6.mono f;unfold qL;by_cases hi:i=zs.length
 ·rw [if_pos hi];exact ⟨λ_=>hi,λx e=>(by cases e)⟩
 ·rw [if_neg hi];by_cases hlt:i<zs.length
  ·rw [if_pos hlt];refine ⟨λe=>?_,λx e=>?_⟩
   ·have:=ZS e;rw [aaq] at this;nofun
   ·have e':=ZS e;obtain ⟨v,hv,rv⟩:=rs.get e';refine ⟨⟨oh,v,sq,rs.length.symm,hlt,hv⟩,λy H2 hy=>?_⟩;obtain ⟨rfl,hy⟩:=hy;have:=hy oh sq;rw [hv] at this;cases this;exact ⟨⟨.refl,λ_ h=>h⟩,rv⟩
  ·rw [if_neg hlt];exact ⟨λe=>(by cases e),λx e=>(by cases e)⟩
section
variable {X:Cx} {EE:bR} {tg a:Expr} {p pc:Pos} {m:DS→M (List D)}
theorem IQ (hm:X.mg "reversed"=Zl) (nY:Gl X "reversed") (ha:QA X EE [a] m) (h:ao [a]=Zh:=by rfl):QI X EE tg (.Call (.Name "reversed" p) [a] [] pc) (zX m):=by
 have h':bf a=Zh∧ao []=Zh:=by simpa [ao] using h
 intro pins s σ H R I hq;obtain ⟨τ,ρ,G,ab,ok⟩:=hq;dsimp only [zX,M.bind] at ok;refine ZK (dX I nY hm jh ?_ (by decide) (by decide));have hA:gU X.K X.mg EE m σ H λvs H1=>∃ ρ1 G1 ds,Ab X.K X.mg σ H1 τ ρ1 G1∧bX X.K H H1 ρ ρ1∧aq X.K X.mg ρ1 H1 ds vs∧m τ G=.ok ds G1:=by
  refine ⟨τ,ρ,G,ab,?_⟩;cases e:m τ G with
  | stuck=>rw [e] at ok;exact ok
  | bq c G'=>rw [e] at ok;exact ok
  | ok ds G'=>exact λvs H' ρ' f aV r=>⟨ρ',G',ds,aV,f,r,rfl⟩
 refine ZJ (cO (ha pc pins s σ H _ I hA) λus s1 oE=>?_) (aK h'.1 _ _) (aJ (es:=[]) rfl);obtain ⟨vs,H1,I1,r1,ρ1,G1,ds,fD,f1,rs,em⟩:=oE;rw [em] at ok;dsimp only at ok
 match ds,rs,ok with
 | [],_,ok=>exact ok.elim
 | _::_::_,_,ok=>exact ok.elim
 | [d],rs,ok=>
  obtain ⟨x,rfl,rx⟩:=fQ rs;obtain ⟨u,rfl,ru⟩:=vals1 r1;dsimp only at ok;cases q:aF G1 d with
  | none=>rw [q] at ok;exact ok.elim
  | some sk=>
   rw [q] at ok;cases sk with
   | lst zs=>exact ok.elim
   | str z=>exact ok.elim
   | tup zs=>
    dsimp only at ok;obtain ⟨l,ys,rfl,sq,rv⟩:=lF rx q;cases ru;obtain ⟨its,vv,pl,hz⟩:=I1.tuple sq.t;have hlen:its.toArray.size=zs.length:=by rw [ZA,← vv.length,rv.length]
    refine Br.EL pl (by rw [ZA,← vv.length];exact hz) ?_;have hst:Br.Is (s1.heap.push (Br.O l ((its.toArray.size:Int) - 1))) s1.heap.objs.size l ((its.toArray.size:Int) - 1):=⟨_,Zv _ rfl,rfl,rfl⟩;refine Br.iter (s:={s1 with heap:=s1.heap.push (Br.O l ((its.toArray.size:Int) - 1)),toks:=s1.toks+1+1}) hst ?_;have I2:Inv X pins σ H1 {s1 with heap:=s1.heap.push (Br.O l ((its.toArray.size:Int) - 1)),toks:=s1.toks+1+1}:=I1.kept (t':=s1.toks+1+1) λb o e=>Zn _ e;refine ⟨s1.heap.objs.size,[s1.heap.objs.size],_,M3 X.K l zs.length,H1,rfl,I2,Bv l _ _,?_,λb hb=>?_,ok _ H1 ρ1 f1 fD (IP sq rv)⟩
    ·show Br.Is (s1.heap.push (Br.O l ((its.toArray.size:Int) - 1))) s1.heap.objs.size l ((zs.length:Int) - 1 - ((0:Nat):Int));rw [← hlen];simpa using hst
    ·rw [ZI.mp hb];exact I1.lX (Zs _) (I1.hok.fresh (Zs _))
end
end
section
variable {g:rB} {x:Str} {k n:Nat} {N:List Str} {st:Stmt}
theorem EM (Dd:rF g.K g.mg x n N st) (hb:qI st x (N.take n)):gI g x k n (λ_=>M.stop):=by obtain ⟨f,fd,F,hm⟩:=Dd;exact ⟨f,fd,_,Ie,hm,F.kp,F.binds hb⟩
theorem pA {MM:Nat→List D→M D} {F:(List D→M D)→List D→M D} (Dd:rF g.K g.mg x n N st) (hb:qI st x (N.take n)) (e0:MM 0=λ_=>M.stop) (es:∀ i,MM (i+1)=F (MM i))
  (hs:∀ i,gI g x (k+i) n (MM i)→gI g x (k+i+1) n (F (MM i))):∀ j,gI g x (k+j) n (MM j)
 | 0=>by rw [e0];exact EM Dd hb
 | j+1=>by rw [es];exact hs j (pA Dd hb e0 es hs j)
end
section
variable {X:Cx} {EE:bR} {g:rB} {k n:Nat} {B:List Str} {sc:Scope} {V W:List (Option Str)} {x:Str} {pos p:Pos} {e:Expr} {es:List Expr} {m:DS→M (List D)} {mf:List D→M D}
theorem EN (c:Cf X EE g k B sc V W) (C:gI g x k n mf) (h:(nJ sc x .globalImplicit&&(B7 x&&ao (e::es)))=Zh) (ha:QA X EE (e::es) m):QE X EE (.Call (.Name x p) (e::es) [] pos) (az n mf m):=by obtain ⟨h2,h⟩:=cj h;obtain ⟨h3,h4⟩:=cj h;obtain ⟨f,fd,ps,q1,q2,q3,q4,q5⟩:=C.at c (Zs _);exact zG q1 q2 q3 q4 q5 (AL c.hx) (c.gl x h2) (oq h3) ha h4
theorem EO {u:Str} {l o:Nat} (c:Cf X EE g k B sc V W) (s:Cs X scope N) (h:(decide (W[i]?=Zg (Zg x))&&(decide (W[j]?=Zg (Zg y))&&(decide (W[l]?=Zg (Zg z))&&decide (W[o]?=Zg (Zg u)))))=Zh):QG X (.Tuple [.Name x px,.Name y py,.Name z pz,.Name u pu] q pos) (Rc i j l o):=by obtain ⟨h1,h⟩:=cj h;obtain ⟨h2,h⟩:=cj h;obtain ⟨h3,h4⟩:=cj h;obtain ⟨q1,q2,q3⟩:=c.Bk h1;obtain ⟨r1,r2,r3⟩:=c.Bk h2;obtain ⟨s1,s2,s3⟩:=c.Bk h3;obtain ⟨t1,t2,t3⟩:=c.Bk h4;exact HZ c.hc s.nd q2 r2 s2 t2 q3 r3 s3 t3 q1 r1 s1 t1
end
section
open PyProof.Rows
section
variable {X:Cx} {EE:bR} {e:Expr} {m:DS→M D}
def Ny (X:Cx) (EE:bR) (e:Expr) (m:DS→M D):Prop:=∀ (s:Zq) (σ:L2.St) (H:Hp) (Q:VK),Inv X [] σ H {s with toks:=s.toks+1}→bh X.K X.mg EE m σ H Q→ZD (model X.prog X.w) X.A (eval e X.env) (EP X [] σ Q) X.xe s
theorem Bw {jc:Nat} {n:Int} {py pc p2 pos:Pos} (hj:X.N[j]?=Zg y) (hv:X.env.scope.names.lookup y=Zg .cell) (W7:(y==("__debug__":Str))=Zk) :
  Ny X EE (.Subscript (.Name y py) (.Slice Zl (Zg (.Constant (.int n) jc pc)) Zl p2) pos) (nj (af j) f6 (cz (eC (.int n)))):=by
 intro s σ H Q I zu;obtain ⟨τ,ρ,G,ab,ok⟩:=zu;dsimp only [nj,af,f6,cz,eC,M.bind,M.ret] at ok;cases e:τ[j]? with
 | none=>rw [e] at ok;exact ok.elim
 | some o=>
  cases o with
  | none=>rw [e] at ok;exact ok.elim
  | some d=>
   rw [e] at ok;dsimp only at ok;obtain ⟨v,e1,r⟩:=ab.st.2 j d e;obtain ⟨m,hn,hl⟩:=I.loc;obtain ⟨u,ru,l⟩:=hl j y v hj e1 (.inr (by first | exact hv | exact .inl hv));rcases l with ⟨OY,hml⟩ | ⟨OY,c,hc,hcell⟩
   ·have:=hv.symm.trans OY;cases this
   ·refine Subscript_ (aef (ad5 I.ok.kind hv hc hcell ?_) W7);refine wpAny_Slice ?_;rw [evalPart_none];refine Zz ?_;rw [evalPart_some];refine aeg ?_;refine Zz ?_;have I4:Inv X [] σ H {s with heap:=s.heap.push {cls:=.type "slice",data:=.fields #[.none,.int n s.toks,.none]},toks:=s.toks+1}:=I.kept (t':=s.toks+1) λb ob q=>Zn _ q;obtain ⟨T,id,hT,ht,hg⟩:=OI (EE:=EE) [] {s with heap:=s.heap.push {cls:=.type "slice",data:=.fields #[.none,.int n s.toks,.none]},toks:=s.toks+1} σ H v u .none (.int n s.toks) Zl (Zg n) s.heap.objs.size Q I4 ru (aej ..) .none (.int n s.toks) ⟨σ,τ,ρ,G,d,ab,r,ok⟩;exact tail_any (ops:=[.ref s.heap.objs.size,u]) ht hT hg (by with_unfolding_all rfl)
theorem IS (ha:Ny X EE e m):Ny X EE e (eFn m):=by
 intro s σ H Q I zu;obtain ⟨τ,ρ,G,ab,ok⟩:=zu;dsimp only [eFn] at ok;cases q:m τ G with
 | stuck=>rw [q] at ok;exact ok.elim
 | bq c G'=>rw [q] at ok;exact ha s σ H Q I ⟨τ,ρ,G,ab,by rw [q];exact ok⟩
 | ok d G'=>
  rw [q] at ok;by_cases hd:∃ n,d=.obj n
  ·obtain ⟨n,rfl⟩:=hd;dsimp only at ok;cases g:G'[n]? with
   | none=>rw [g] at ok;exact ok.elim
   | some o=>
    rw [g] at ok;cases o with
    | lst ds=>
     dsimp only at ok;by_cases hc:n=G.length∧G'.length=n+1∧qf (G'.take G.length) G=Zh∧aR ds=Zh
     ·rw [if_pos hc] at ok;obtain ⟨hn0,hl,hb,hcl⟩:=hc;refine cO (ha s σ H (λv H'=>∃ a xs,v=.ref a∧H' a=Zg (.lst xs)∧∀ o,Q v (upd H' a (.dz o (.lst xs)))) I ⟨τ,ρ,G,ab,?_⟩) λu s' h=>yr h λv H' q=>.inr q;rw [q];intro v H' ρ' f aV r;unfold Rep at r;obtain ⟨a,rfl,hn⟩:=r;obtain ⟨a',xs,e1,e2,rs⟩:=aV.hp.lst g;rw [hn] at e1;cases e1;refine ⟨a,xs,rfl,e2,λob=>?_⟩;have f2:bX X.K H' (upd H' a (.dz ob (.lst xs))) ρ' ρ':=mG e2 ρ';have f3:bX X.K H (upd H' a (.dz ob (.lst xs))) ρ ρ:=⟨λb ys w=>f2.tup b ys (f.tup b ys w),λb o u w=>f2.dz b o u (f.dz b o u w),⟨[],by simp⟩,λb φ w=>f2.ext b φ (f.ext b φ w)⟩;have hp2:=aV.hp.dz (o:=ob) hn e2;have ug:eN X.K X.mg (upd H' a (.dz ob (.lst xs))) ρ G:=ab.hp.cut f.pre hp2 (by rw [acS (by nofun)];exact mF _ _ hb)
      refine ok _ _ ρ f3 ⟨ab.st.mono f3,ug⟩ ?_;unfold Rep;exact ⟨a,xs,rfl,.inl ⟨ob,aN⟩,fR ds xs hcl (rs.mono f2)⟩
     ·rw [if_neg hc] at ok;exact ok.elim
    | _=>exact ok.elim
  ·have ok':iP X.K X.mg EE H σ τ ρ (.ok d G') Q:=by cases d<;>first | exact ok | exact absurd ⟨_,rfl⟩ hd
   exact ha s σ H Q I ⟨τ,ρ,G,ab,by rw [q];exact ok'⟩
theorem IT {p:Pos} (hc:X.calm=Zh) (hm:X.mg "sum"=Zl) (hg:Gl X "sum") (he:Ny X EE e m) (h:bf e=Zh):Ny X EE (.Call (.Name "sum" p) [e] [] pos) (ai iD (aa m ah)):=by
 intro s σ H Q I hq;obtain ⟨mb,h1,h2⟩:=I.mod.blt;refine ZK (abh I.ok.kind hg (adg (by rw [I.ok.glob];exact I.mod.glob.keeps I.bk) hm (by rw [I.ok.blt];exact h1.keeps I.bk) ((h2 "sum" (by decide)).trans adQ) ?_) (by decide));have hst:ZF [e] X.env=(Zk,eval e X.env)::ZF [] X.env:=aK h _ _;refine abK ?_ hst (aJ (es:=[]) rfl);rw [hst];show ZD _ _ (spliced ((Zk,eval e X.env)::backTo pos (ZF [] X.env))) _ _ s;refine aaz ?_;obtain ⟨τ,ρ,G,ab,ok⟩:=hq;refine cO (he s σ H (λv H1=>∃ ρ1 G1 d,Ab X.K X.mg σ H1 τ ρ1 G1∧bX X.K H H1 ρ ρ1∧Rep X.K X.mg ρ1 H1 d v∧m τ G=.ok d G1) I ⟨τ,ρ,G,ab,?_⟩) λu s1 ⟨x,H1,I1,r1,ρ1,G1,d,fD,f1,rd,em⟩=>?_
 ·dsimp only [ai,aa,ah,M.bind,M.ret] at ok;cases q:m τ G with
  | stuck=>rw [q] at ok;exact ok
  | bq c G'=>rw [q] at ok;exact ok
  | ok d G'=>exact λv H' ρ' f aV r=>⟨ρ',G',d,aV,f,r,rfl⟩
 ·refine aa6 ?_;dsimp only [ai,aa,ah,M.bind,M.ret] at ok;rw [em] at ok;exact su (EE:=EE) hc [] s1 σ H1 [x] [u] Q I1 (.cons r1 .nil) ⟨σ,τ,ρ1,G1,[d],fD,.cons rd .nil,ok.fut f1⟩
theorem P9 {CX:mY} {k:Nat} {f:Addr} {ps:List Str} {g x:Str} {i:Nat} {px pg cpos pos:Pos} {rest:List Stmt} {mt:MS} (F:gA X.prog X.w X.K X.mg X.base CX k f fd ps (fW X.K X.mg 1 mf)) (hr:cP k X.A) (hm:X.mg g=Zg (.ref f)) (hk:Z5 X.K (.ref f)=Zh) (hb:Binds X.K fd ps []) (hx:G8 CX X EE) (hg:Gl X g)
  (hdg:(g==("__debug__":Str))=Zk) (hN:X.N.Nodup) (Rf:Loc X.env.scope x) (hf:X.fn x=Zh∨X.env.scope.names.lookup x=Zg .local) (he:Ny X EE e m) (h:bf e=Zh) (h2:qY X EE rest mt) (hi:X.N[i]?=Zg x) :
  PF X EE (.Assign [.Name x px] (.Call (.Name g pg) [e] [] cpos) pos::rest) (ay (aH i (az 1 mf (aa m ah))) mt):=by
 intro s σ H Dd I hq;have h1:=vJ hq;have h3:=lC (m:=az 1 mf (aa m ah)) (k:=λτ d G=>.nx (τ.set i (Zg d)) G) h1;obtain ⟨τ,ρ,G,ab,ok⟩:=h3;have hst:ZF [e] X.env=(Zk,eval e X.env)::ZF [] X.env:=aK h _ _;refine acC (aeq ?_ (kJ (e:=.Call (.Name g pg) [e] [] cpos) rfl _ _ _));refine ZK (abh I.ok.kind hg (adm (by rw [I.ok.glob];exact I.mod.glob.keeps I.bk) hm ?_) hdg);refine abj (h₀:=X.base) I.ok.mod.BZ hk ?_ hst (aJ (es:=[]) rfl);rw [hst];show ZD _ _ (spliced ((Zk,eval e X.env)::backTo cpos (ZF [] X.env))) _ _ s;refine aaz ?_;refine cO (he s σ H (λv H1=>∃ ρ1 G1 d,Ab X.K X.mg σ H1 τ ρ1 G1∧bX X.K H H1 ρ ρ1∧Rep X.K X.mg ρ1 H1 d v∧m τ G=.ok d G1) I ⟨τ,ρ,G,ab,?_⟩) λu s1 ⟨xv,H1,I1,r1,ρ1,G1,d,fD,f1,rd,em⟩=>?_
 ·unfold az ai aa ah at ok;dsimp only [M.bind,M.ret] at ok;cases q:m τ G with
  | stuck=>rw [q] at ok;exact ok
  | bq c G'=>rw [q] at ok;exact ok
  | ok d G'=>exact λv H' ρ' f aV r=>⟨ρ',G',d,aV,f,r,rfl⟩
 ·refine aa6 ⟨I1.oY,?_⟩;unfold az ai aa ah at ok;dsimp only [M.bind,M.ret] at ok;rw [em] at ok;have hn2:[d].length=1:=rfl;have ok:iP X.K X.mg EE H σ τ ρ ((if [d].length=1 then mf [d] else M.stop) G1) _:=ok;rw [if_pos hn2] at ok;refine cO (o9 F hr hb hx I1 (.cons r1 .nil) fD (.cons rd .nil) hn2 (ok.fut f1)) λw s1 zz=>?_;obtain ⟨z,H1,I1,r1,τ1,ρ1,G1,d1,fD,W8,zx⟩:=zz;refine pH I1 hN hi Rf r1 (λs2 I2=>?_) hf;exact h2 [] s2 _ H1 Dd I2 (zx _ H1 ρ1 .refl (Ab.set fD W8))
end
end
theorem ER {m:List D→M D} (vs:List V) (H:Hp) (Q:VK) (E:XK) (h:fW K mg n (λds G=>iV (m ds G)) vs H Q E):fW K mg n m vs H Q E:=by
 obtain ⟨ds,ρ,G,hl,hp,rs,ok⟩:=h;refine ⟨ds,ρ,G,hl,hp,rs,?_⟩;dsimp only at ok;cases q:m ds G with
 | stuck=>rw [q] at ok;exact ok
 | bq c G'=>rw [q] at ok;exact ok.elim
 | ok d G'=>rw [q] at ok;exact ok
section
variable {g:rB} {x gg x1:Str} {k k' n nn i j jc:Nat} {nI:Int} {N B:List Str} {st:Stmt} {mt:MS} {mf:List D→M D} {px pg p py pc p2 p3 p4 cpos pos:Pos} {rest:List Stmt}
theorem ES {f:Addr} (F:rZ g.K x x st f fd) (hB:iO g.mg B) (S:fY N [y] (au st)) (hN:N.length=nn)
  (hbd:ck st=.Assign [.Name x1 px] (.Call (.Name gg pg) [.Call (.Name "sum" p) [.Subscript (.Name y py) (.Slice Zl (Zg (.Constant (.int nI) jc pc)) Zl p2) p3] [] p4] [] cpos) pos::rest)
  (C:gI g gg k' 1 mf) (h:(decide (k'≤k)&&(nJ (au st) gg .globalImplicit&&(B7 gg&&(nJ (au st) y .cell&&(B7 y&&(decide (N[j]?=Zg y)&&(decide ((rE Zh (au st) N)[i]?=Zg (Zg x1))&&(B.contains "sum"&&nJ (au st) "sum" .globalImplicit))))))))=Zh)
  (body:∀ (X:Cx) (EE:bR),Cf X EE g k B (au st) (rC (au st) N) (rE Zh (au st) N)→Cs X (au st) N→qY X EE rest mt) :
  jS g.P g.w g.K g.mg g.base (mq g.P g.w) (k+1) f fd [y] (fW g.K g.mg 1 (bV λds G=>iV (bL nn (ay (aH i (az 1 mf (aa (ai iD (aa (eFn (nj (af j) f6 (cz (eC (.int nI))))) ah)) ah))) mt) ds G))):=by
 obtain ⟨h1,h⟩:=cj h;obtain ⟨h2,h⟩:=cj h;obtain ⟨h3,h⟩:=cj h;obtain ⟨h4,h⟩:=cj h;obtain ⟨h5,h⟩:=cj h;obtain ⟨h6,h⟩:=cj h;obtain ⟨h7,h⟩:=cj h;obtain ⟨h8,h9⟩:=cj h;refine jS.imp (jS.imp (Tf (k:=k) F S rfl hN (λ_=>rfl) ?_) ER) uh;intro X EE cdv A outer s H E hX hr hx Ez;have c:Cf X EE g k B (au st) (rC (au st) N) (rE Zh (au st) N):=by subst hX;exact qJ hB hr hx
 have cs:Cs X (au st) N:=by subst hX;exact ⟨S.nd,⟨_,outer,s.heap.objs.size,rfl,rfl,rfl⟩,Ez,rfl,rfl,sO S.kind⟩
 have Vd:X.N=N:=by subst hX;rfl
 have W9:X.env.scope=au st:=by subst hX;rfl
 rw [hbd];obtain ⟨f',fd',ps,q1,q2,q3,q4,q5⟩:=C.at c (of_decide_eq_true h1);obtain ⟨r1,r2,r3⟩:=c.Bk h7;exact P9 q1 q2 q3 q4 q5 (AL c.hx) (c.gl gg h2) (oq h3).1 (by rw [Vd];exact S.nd) r2 r3 (IT c.hc (c.bl _ h8) (c.gl _ h9) (IS (Bw (by rw [Vd];exact of_decide_eq_true h6) (by rw [W9];exact ji h4) (oq h5).1)) rfl) rfl (body _ EE c cs) r1
end
section
open PyProof.Rows
section
open PySem.SeqAt
open PySem.AutoSeq1 (wpAny_loadPart')
open PySem.MeetsSeq PySem.MeetsSeq2 PySem.MeetsSeq3
theorem wO (A:Around) (s:Zq) (a:Int) (t:Tok) (c:Int) (u:Tok) (prog:ZT) (w:aaa) (E:Zj→Zq→Prop) (Q:Zj→Zq→Prop) (h:Q (.bool (decide (a > c))) s) :
  ZD (model prog w) A (richCompare .Gt (.int a t) (.int c u)) Q E s:=
 richCompare_gives (op:=.Gt) (typeIs_int s _ t) (typeIs_int s _ u) F.slot_int_gt F.entry_int_gt (F.args_int_gt_2 _ _) (gives_int_gt _ _ t u) (λx=>nomatch x) h
theorem IU (l b:Addr) (a1 a2 b1 b2:Int) (t1 t2 u1 u2:Tok) (n n2:Nat) (dd dd2:Option Addr) (sl sl2:Array (Option Zj)) :
  Meets (abR.«tuple.__gt__» ⟨[.ref l,.ref b],[]⟩)
   (λ_ R s=>s.heap.get? l=Zg {cls:=.type "tuple",dict:=dd,data:=.seq #[.int a1 t1,.int a2 t2] n,slots:=sl}∧s.heap.get? b=Zg {cls:=.type "tuple",dict:=dd2,data:=.seq #[.int b1 u1,.int b2 u2] n2,slots:=sl2} ∧
    R (.ok (.ret (.bool (wN (a1,a2) (b1,b2))))) s):=
 .of_wp λprog w A R s h=>by
  obtain ⟨hp,g,d,tk,os⟩:=s;obtain ⟨hl,hb,h⟩:=h;have f2:=adl
  wp_walk using acM hl,acM hb,wpAny_forIn_list _ (λrest b s'=>b.1=Zl∧s'=⟨hp,g,d,tk,os⟩∧(rest=[(Value.int a1 t1,Value.int b1 u1),(Value.int a2 t2,Value.int b2 u2)]∨(rest=[(Value.int a2 t2,Value.int b2 u2)]∧a1=b1)∨(rest=[]∧a1=b1∧a2=b2))) _
  case turn=>
   rintro ⟨y,x⟩ rest b s' ⟨hb',rfl,hr⟩;rcases hr with hr | ⟨hr,e1⟩ | ⟨hr,_,_⟩
   ·cases hr;obtain ⟨e,he,hiff⟩:=HT.vg A.in1 ⟨hp,g,d,tk,os⟩ a1 t1 b1 u1;refine Zi (he prog w _ _ ?_);cases e with
    | true=>
     wp_walk
     exact ⟨rfl,rfl,.inr (.inl ⟨rfl,hiff.mp rfl⟩)⟩
    | false=>
     have ne:¬ a1=b1:=λq=>absurd (hiff.mpr q) ZX;have TM:=wO A.in1 ⟨hp,g,d,tk,os⟩ a1 t1 b1 u1 prog w;have hg:wN (a1,a2) (b1,b2)=decide (a1 > b1):=by simp [wN,ne]
     rw [hg] at h
     wp_walk using TM
     exact ⟨_,rfl,by simpa using h⟩
   ·cases hr;obtain ⟨e,he,hiff⟩:=HT.vg A.in1 ⟨hp,g,d,tk,os⟩ a2 t2 b2 u2;refine Zi (he prog w _ _ ?_);cases e with
    | true=>
     wp_walk
     exact ⟨rfl,rfl,.inr (.inr ⟨rfl,e1,hiff.mp rfl⟩)⟩
    | false=>
     have TM:=wO A.in1 ⟨hp,g,d,tk,os⟩ a2 t2 b2 u2 prog w;have hg:wN (a1,a2) (b1,b2)=decide (a2 > b2):=by simp [wN,e1]
     rw [hg] at h
     wp_walk using TM
     exact ⟨_,rfl,by simpa using h⟩
   ·cases hr
  case fin=>
   rintro ⟨q1,q2⟩ s' ⟨hb',rfl,hr⟩;simp only at hb';subst hb';rcases hr with hr | ⟨hr,e1⟩ | ⟨hr,e1,e2⟩
   ·cases hr
   ·cases hr
   ·have hg:wN (a1,a2) (b1,b2)=Zk:=by simp [wN,e1,e2]
    rw [hg] at h
    wp_walk
    exact ⟨_,rfl,by simpa [Builtin.Tuple.tupleCompareSizes] using h⟩
  case h=>
   exact ⟨rfl,rfl,.inl rfl⟩
end
def yL (h:Heap) (a:Addr) (v:Int×Int):Prop:=∃ t u,IsTup h a #[.int v.1 t,.int v.2 u]
theorem IV {v:Int×Int} (hl:yL s.heap l v) (hb:yL s.heap b v') (hu:A.units<cLine) (h:Q (.bool (wN v v')) s):ZD (model prog w) A (richCompare .Gt (.ref l) (.ref b)) Q E s:=by
 obtain ⟨t1,t2,⟨cls,dd,data,sl⟩,ho,hc,n,hd⟩:=hl;obtain ⟨u1,u2,⟨Gq,dd2,data2,sl2⟩,ho2,hc2,n2,hd2⟩:=hb;simp only at hc hd hc2 hd2;subst hc hd hc2 hd2
 exact richCompare_meets_room (op:=.Gt) ⟨_,ho,rfl⟩ ⟨_,ho2,rfl⟩ PySem.F.slot_tuple_gt PySem.F.entry_tuple_gt (PySem.F.args_tuple_gt_2 _ _) (IU l b v.1 v.2 v'.1 v'.2 t1 t2 u1 u2 n n2 dd dd2 sl sl2)
  ⟨ho,ho2,show Value.bool (wN v v')≠Value.notImplemented∧Q (.bool (wN v v')) s from ⟨(λx=>nomatch x),h⟩⟩ hu
end
section
open PyProof.Rows
theorem yL.keep {v:Int×Int} (x:yL h a v) (k:∀ o,h.get? a=Zg o→h'.get? a=Zg o):yL h' a v:=let ⟨t,u,o,e,r⟩:=x;⟨t,u,o,k o e,r⟩
def qM (P:Nat→Zj→Prop) (wr:List Addr) (S:Addr) (val:Nat→Int×Int) (h:Heap):Prop:=∀ i v,P i v→∃ a,v=.ref a∧a∉wr∧a≠S∧yL h a (val i)
theorem qM.keep {P:Nat→Zj→Prop} {S:Addr} {val:Nat→Int×Int} (x:qM P wr S val h) (k:∀ b o,b∉wr→b≠S→h.get? b=Zg o→h'.get? b=Zg o):qM P wr S val h':=
 λi v p=>let ⟨a,e,n1,n2,q⟩:=x i v p;⟨a,e,n1,n2,q.keep λo e=>k a o n1 n2 e⟩
section
variable {prog:ZT} {w:aaa} {A:Around} {R:Result→Zq→Prop} {I:Addr} {fp wr:List Addr} {n:Nat} {P:Nat→Zj→Prop} {St:Nat→Heap→Prop}
theorem Bx (W:Walks prog w A.in1 I fp wr n P St) (val:Nat→Int×Int) (S:Addr) (hSf:S∉fp) (hu:A.in1.units<cLine) :
  ∀ (k j:Nat) (s:Zq) (vb:Zj) (c:Nat),n - (j+1)=k→j+1≤n→St (j+1) s.heap→P (argBest (λi j=>wN (val i) (val j)) j) vb→qM P wr S val s.heap →
  s.heap.get? S=Zg {cls:=.type "list",dict:=Zl,data:=.seq #[vb,vb] c,slots:=#[]} →
  (∀ v h' tk,P (argBest (λi j=>wN (val i) (val j)) (n - 1)) v→(∀ b o,b∉wr→b≠S→s.heap.get? b=Zg o→h'.get? b=Zg o)→R (.ok (.ret v)) {s with heap:=h',toks:=tk}) →
  codeAny (model prog w) A (.builtin "max.loop" ⟨[.ref I,.none,.ref S],[]⟩) R s:=by
 have Rk:S∉wr:=λh=>hSf (W.sub _ h);have hname:(toString "max"++toString ".loop":String)="max.loop":=by decide
 intro k
 induction k with
 | zero=>
  intro j s vb c hk hj hst Rl hT hS hR;have hin:j+1=n:=by nofun
  refine codeAny_builtin adw ?_;rw [aa5 abf _];show ZD _ A.in1 (seqItems? (.ref S) >>= _) _ _ s;refine Zi (abM hS rfl ?_);show ZD _ A.in1 (tryCatch (pyNext (.ref I)) _ >>= _) _ _ s;refine Zi (ac5 (W.done s _ _ (hin▸hst) λh' tk hk'=>?_));have hS':=hk' S _ Rk hS;show ZD _ A.in1 (updateSeq S (λ_=>#[]) >>= _) _ _ _;refine Zi ?_;refine acf hS' rfl (Zi (ada (Zz ?_)));refine hR vb _ tk (by rw [← hin];exact Rl) λb o FT FU e=>(ZR _ _ (aat FU)).trans (hk' b o FT e)
 | succ k ih=>
  intro j s vb c hk hj hst Rl hT hS hR;have hlt:j+1<n:=by nofun
  refine codeAny_builtin adw ?_;rw [aa5 abf _];show ZD _ A.in1 (seqItems? (.ref S) >>= _) _ _ s;refine Zi (abM hS rfl ?_);show ZD _ A.in1 (tryCatch (pyNext (.ref I)) _ >>= _) _ _ s;refine Zi (ac5 (W.item (j+1) s _ _ hlt hst λv h' tk hP vS hk'=>?_));have hS':=hk' S _ Rk hS;have Rm:qM P wr S val h':=hT.keep λb o hb _ e=>hk' b o hb e;obtain ⟨av,rfl,-,-,Xa⟩:=Rm _ _ hP;obtain ⟨ab,rfl,-,-,Xb⟩:=Rm _ _ Rl;show ZD _ A.in1 (tryCatch (holding [.ref av,.ref av] (richCompare .Gt (.ref av) (.ref ab) >>= _)) _ >>= _) _ _ _;refine Zi (ac5 (abU (Zi (IV (s:={s with heap:=h',toks:=tk}) Xa Xb hu ?_))));refine Zi (abU (abx ?_));refine Zi (ada (Zz ?_));cases hb:wN (val (j+1)) (val (argBest (λi j=>wN (val i) (val j)) j)) with
  | true=>
   simp only [if_true];refine Zi ?_;refine acf hS' rfl (Zi (ada ?_));rw [hname]
   refine Zz ⟨plainId_quiet abf _,ih (j+1) _ (.ref av) _ (by nofun) hlt (W.frame _ _ _ vS λb TN o e=>?_) (by simp only [argBest,hb,if_true];exact hP) (Rm.keep λb o _ FU e=>(ZR _ _ (aat FU)).trans e) (Z1 _ hS' rfl)
    λv' h'' ET Qa EU=>?_⟩
   ·exact (ZR _ _ (λh:S=b=>hSf (by rw [h];exact TN))).trans e
   ·exact hR v' h'' ET Qa λb o FT FU e=>EU b o FT FU ((ZR _ _ (aat FU)).trans (hk' b o FT e))
  | false=>simp only [aeo,if_false];refine Zi (ada ?_);rw [hname];refine Zz ⟨plainId_quiet abf _,ih (j+1) _ (.ref ab) c (by nofun) hlt vS (by simp only [argBest,hb,aeo,if_false];exact Rl) Rm hS' λv' h'' ET Qa EU=>?_⟩;exact hR v' h'' ET Qa λb o FT FU e=>EU b o FT FU (hk' b o FT e)
theorem By {E:Zj→Zq→Prop} {s:Zq} {x:Zj} (hu:A.in1.units<cLine)
  (h:ZD (model prog w) A.in1 (pyIter x) (λit s₂=>∃ I fp wr n P St val,it=.ref I∧Walks prog w A.in1 I fp wr n P St∧St 0 s₂.heap∧(∀ b∈fp,b<s₂.heap.objs.size)∧0<n∧qM P wr s₂.heap.objs.size val s₂.heap ∧
   ∀ v h' tk,P (argBest (λi j=>wN (val i) (val j)) (n - 1)) v→(∀ b o,b∉wr→s₂.heap.get? b=Zg o→h'.get? b=Zg o)→Q v {s₂ with heap:=h',toks:=tk}) E s) :
  ZD (model prog w) A (call (.builtin "max") [x]) Q E s:=by
 have hname:(toString "max"++toString ".loop":String)="max.loop":=by decide
 refine call_function_tree F.kind_max F.plain_max F.entry_max (F.args_max1 _) ?_;show ZD _ A.in1 (acZ "max" ["key","default"] 0 ⟨[],[]⟩ >>= _) _ _ s;refine Zi (aaP (show acZ "max" ["key","default"] 0 ⟨[],[]⟩=pure [Zl,Zl] from rfl) ?_);refine Zi (Zz ?_);refine Zi (Z8 h (λit s₂ h₂=>?_) λ_ _ e=>e);obtain ⟨I,fp,wr,n,P,St,val,rfl,W,hst,hfp,hn,hT,hQ⟩:=h₂;refine Zi (Z3 ?_);have hSf:s₂.heap.objs.size∉fp:=λhm=>aao _ (hfp _ hm);have Rk:s₂.heap.objs.size∉wr:=λh=>hSf (W.sub _ h);rw [hname];refine Zz ⟨plainId_quiet abf _,codeAny_builtin adw ?_⟩;rw [aa5 abf _];show ZD _ A.in1 (seqItems? (.ref s₂.heap.objs.size) >>= _) _ _ _;refine Zi (abM (Zv _ rfl) rfl ?_);have TQ:=W.frame _ _ (s₂.heap.push {cls:=.type "list",data:=.seq #[]}) hst λb _ o e=>Zn _ e;show ZD _ A.in1 (tryCatch (pyNext (.ref I)) _ >>= _) _ _ _;refine Zi (ac5 (W.item 0 _ _ _ hn TQ λv h' tk hP vS hk'=>?_));have hS':=hk' s₂.heap.objs.size _ Rk (Zv _ rfl);show ZD _ A.in1 (updateSeq s₂.heap.objs.size (λ_=>#[v,v]) >>= _) _ _ _;refine Zi ?_;refine acf hS' rfl ?_;rw [hname];have hT1:qM P wr s₂.heap.objs.size val h':=hT.keep λb o hb hS e=>hk' b o hb (Zn _ e);refine Zz ⟨plainId_quiet abf _,Bx W val s₂.heap.objs.size hSf hu _ 0 _ v _ rfl hn (W.frame _ _ _ vS λb TN o e=>?_) hP (hT1.keep λb o _ FU e=>(ZR _ _ (aat FU)).trans e) (Z1 _ hS' rfl) λv' h'' ET Qa EU=>?_⟩
 ·exact (ZR _ _ (λh:s₂.heap.objs.size=b=>hSf (by rw [h];exact TN))).trans e
 ·exact hQ v' h'' ET Qa λb o FT e=>EU b o FT (ZE (Zu e)) ((ZR _ _ (acV (Zu e))).trans (hk' b o FT (Zn _ e)))
end
end
section
open PyProof.Rows
theorem wQ:∀ {ds:List D} {bs:List (Int×Int)},oz ds=Zg bs→ds.length=bs.length∧∀ i:Nat,i<bs.length→ds[i]?=Zg (.tup [.int (bs.getD i (0,0)).1,.int (bs.getD i (0,0)).2])
 | [],bs,e=>by cases e;exact ⟨rfl,λi h=>by simp at h⟩
 | d::ds,bs,e=>by
  unfold oz at e;split at e
  ·rename_i hh;cases hh
  ·rename_i a b r hh;cases hh;cases q:oz ds with
   | none=>rw [q] at e;cases e
   | some bs'=>
    rw [q] at e;cases e;obtain ⟨h1,h2⟩:=wQ q;refine ⟨by simp [h1],λi hi=>?_⟩;cases i with
    | zero=>rfl
    | succ i=>simpa using h2 i (by simpa using hi)
  ·cases e
section
variable {X:Cx} {EE:bR} {e:Expr} {m:DS→M (List D)} {pos p:Pos}
theorem yM (hc:X.calm=Zh) (hu:X.A.in1.units<cLine):c9 X (.builtin "max") (AE X EE sQ):=by
 intro pins s σ0 H xs us Q I r zu;obtain ⟨σ,τ,ρ,G,ds,ab,rs,ok⟩:=zu
 match ds,ok with
 | [],ok=>exact ok.elim
 | _::_::_,ok=>exact ok.elim
 | [d],ok=>
  obtain ⟨x,rfl,rx⟩:=fQ rs;obtain ⟨u,rfl,ru⟩:=vals1 r;dsimp only [sQ] at ok;cases q:aF G d with
  | none=>rw [q] at ok;exact ok.elim
  | some sk=>
   rw [q] at ok;cases sk with
   | tup zs=>exact ok.elim
   | str z=>exact ok.elim
   | lst zs=>
    dsimp only at ok;cases qb:oz zs with
    | none=>rw [qb] at ok;exact ok.elim
    | some bs=>
     rw [qb] at ok;dsimp only at ok;by_cases h0:0<bs.length
     ·rw [if_pos h0] at ok;obtain ⟨p,vs,rfl,sq,rv⟩:=bE (pins:=pins) (σ0:=σ0) (s:=s) ab.hp rx q;cases ru;obtain ⟨its,vv,pl,hz⟩:=I.list sq;obtain ⟨hl1,hat⟩:=wQ qb;have hlen:its.length=bs.length:=by rw [← vv.length,← rv.length,hl1]
      have hit:∀ (i:Nat) (v:Zj),its[i]?=Zg v→∃ a,v=.ref a∧a<s.heap.objs.size∧yL s.heap a (bs.getD i (0,0))∧Rep X.K X.mg ρ H (.tup [.int (bs.getD i (0,0)).1,.int (bs.getD i (0,0)).2]) (.ref a):=by
       intro i v hv;have hi:i<bs.length:=by rw [← hlen];exact (Zp.mp hv).1
       obtain ⟨w,hw,rw'⟩:=rv.get (hat i hi);obtain ⟨u,Ve,Xd⟩:=vv.get hw;rw [hv] at Ve;cases Ve;have rr:=rw';unfold Rep at rr;obtain ⟨a,ys,rfl,Xe,J1⟩:=rr;cases Xd;obtain ⟨YA,jv,jl,_⟩:=I.tuple Xe.t;obtain ⟨y1,y2,rfl,k1,k2⟩:∃ y1 y2,ys=[y1,y2]∧Rep X.K X.mg ρ H (.int (bs.getD i (0,0)).1) y1∧Rep X.K X.mg ρ H (.int (bs.getD i (0,0)).2) y2:=by unfold aq at J1;obtain ⟨y1,r1,rfl,k1,J1⟩:=J1;unfold aq at J1;obtain ⟨y2,r2,rfl,k2,J1⟩:=J1;unfold aq at J1;subst J1;exact ⟨y1,y2,rfl,k1,k2⟩
       unfold Rep at k1 k2;subst k1 k2;cases jv with
       | cons j1 jv=>
        cases jv with
        | cons j2 jv=>cases jv;obtain ⟨t1,rfl⟩:=j1;obtain ⟨t2,rfl⟩:=j2;exact ⟨a,rfl,(by obtain ⟨_,e,_⟩:=jl;exact Zu e),⟨t1,t2,jl⟩,rw'⟩
      have hl:=pl.isList;have hlt:p<s.heap.objs.size:=by obtain ⟨_,e,_⟩:=hl;exact Zu e
      refine gS I.os.2 (By hu (acs hl ?_))
      refine ⟨s.heap.objs.size,[s.heap.objs.size,p],[s.heap.objs.size],its.toArray.size,_,_,λi=>bs.getD i (0,0),rfl,ae7 (A:=X.A.in1) (I.ok.hd hc) _ p (ZE hlt) _,
       ⟨⟨_,Zv _ rfl,rfl,rfl⟩,hl.push _⟩,λb hb=>?_,by simp;nofun,λi v hv=>?_,λv h' tk hv hk ht=>?_⟩
      ·show b<(s.heap.push _).objs.size;rw [aaF];rcases ZM.mp hb with rfl | hb
       ·exact aaB _
       ·rw [ZI.mp hb];exact aa7 hlt
      ·obtain ⟨a,rfl,ha,IW,_⟩:=hit i v (by simpa using hv);refine ⟨a,rfl,by simp;exact ZE ha,?_,IW.keep λo e=>Zn _ e⟩;show a≠(s.heap.push _).objs.size;rw [aaF];exact ZE (aa7 ha)
      ·rw [show its.toArray.size=bs.length by simpa using hlen] at hv;obtain ⟨a,rfl,ha,IW,hrep⟩:=hit _ v (by simpa using hv);exact ⟨.ref a,H,I.kept (t':=tk) (lH hk),rfl,ok _ H ρ .refl ab hrep⟩
     ·rw [if_neg h0] at ok;exact ok.elim
theorem IX (hc:X.calm=Zh) (hu:X.A.units+600<cLine) (hm:X.mg "max"=Zl) (hg:Gl X "max") (ha:QA X EE [e] m) (h:ao [e]=Zh:=by rfl):QE X EE (.Call (.Name "max" p) [e] [] pos) (ai sQ m):=jf (yM hc (by rw [show X.A.in1.units=X.A.units+1 from rfl];nofun)) hm hg acz ha (by decide) (by decide) h
end
end
section
variable {X:Cx} {EE:bR}
def mQ (k d:D):M D:=λG=>match d,oj k with
 | .obj n,Zg y=>match G[n]? with
  | some (.iN _ kvs)=>.ok (.bl (!(nE kvs y).isSome)) G
  | _=>.stuck
 | _,_=>.stuck
theorem BA (hu:X.A.units+600<cLine):iu X (compareOp .NotIn) (rD X EE mQ):=by
 intro pins s σ0 H x y v u Q I rx ry zu;obtain ⟨σ,τ,ρ,G,k,d,ab,r1,r2,ok⟩:=zu;dsimp only [mQ] at ok;cases d with
 | obj n=>
  cases ek:oj k with
  | none=>rw [ek] at ok;exact ok.elim
  | some y=>
   rw [ek] at ok;dsimp only at ok;cases g:G[n]? with
   | none=>rw [g] at ok;exact ok.elim
   | some ob=>
    cases ob with
    | iN fz kvs=>
     rw [g] at ok;dsimp only at ok;unfold Rep at r2;obtain ⟨p,rfl,ep⟩:=r2;obtain ⟨p',xs,B0,eH,rs⟩:=ab.hp.iN g;rw [ep] at B0;cases B0;obtain ⟨b,rfl,eb⟩:=qv r1 ek;cases ry;refine GA (by nofun) I (.inr ⟨_,y,b,eH.rd,rfl,eb,rfl⟩) rx λs' I'=>⟨.bl _,H,I',rfl,ok _ H ρ .refl ab ?_⟩;unfold Rep;rcases mJ y rs with ⟨z1,z2⟩ | ⟨dv,v,z1,z2,z3⟩
     ·rw [z1,z2];rfl
     ·rw [z1,z2];rfl
    | _=>rw [g] at ok;exact ok.elim
 | _=>exact ok.elim
end
section
variable {X:Cx} {pos:Pos}
def Rn (i j l:Nat):jB:=λd τ=>match d with
 | .tup [x,y,z]=>Zg (((τ.set i (Zg x)).set j (Zg y)).set l (Zg z))
 | _=>Zl
theorem BB {l:Nat} {px py pz:Pos} {k:Nat} (hc:X.calm=Zh) (hN:X.N.Nodup) (hx:Loc X.env.scope x) (hy:Loc X.env.scope y) (hz:Loc X.env.scope z) (hfx:X.fn x=Zh∨X.env.scope.names.lookup x=Zg .local) (Pc:X.fn y=Zh∨X.env.scope.names.lookup y=Zg .local) (u6:X.fn z=Zh∨X.env.scope.names.lookup z=Zg .local) (hi:X.N[i]?=Zg x:=by rfl) (hj:X.N[j]?=Zg y:=by rfl) (hl:X.N[l]?=Zg z:=by rfl) :
  QG X (.Tuple [.Name x px,.Name y py,.Name z pz] k pos) (Rn i j l):=by
 intro pins s σ H v u Q I r zu;obtain ⟨τ,ρ,G,d,τ',ab,rd,e,q⟩:=zu;refine xN (n:=3) hc (fX (gy hN hi hx hfx) (fX (gy hN hj hy Pc) (fX (gy hN hl hz u6) tO))) rfl rfl pins s σ H v u Q I r ?_;cases d<;>try (cases e;done)
 rename_i ds
 match ds,e with
 | [d1,d2,d3],e=>cases e;unfold Rep at rd;obtain ⟨a,vs,rfl,sq,rs⟩:=rd;unfold aq at rs;obtain ⟨v1,vs',rfl,r1,rs⟩:=rs;obtain ⟨v2,v3,rfl,r2,r3⟩:=vL rs;exact ⟨a,[v1,v2,v3],rfl,sq,rfl,v1,[v2,v3],rfl,v2,[v3],rfl,v3,[],rfl,rfl,q _ (Ab.set (Ab.set (Ab.set ab r1) r2) r3)⟩
theorem EV {g:rB} {k:Nat} {B:List Str} {V:List (Option Str)} {l:Nat} (c:Cf X EE g k B sc V W) (s:Cs X scope N) (h:(decide (W[i]?=Zg (Zg x))&&(decide (W[j]?=Zg (Zg y))&&decide (W[l]?=Zg (Zg z))))=Zh):QG X (.Tuple [.Name x px,.Name y py,.Name z pz] q pos) (Rn i j l):=by obtain ⟨h1,h⟩:=cj h;obtain ⟨h2,h3⟩:=cj h;obtain ⟨q1,q2,q3⟩:=c.Bk h1;obtain ⟨r1,r2,r3⟩:=c.Bk h2;obtain ⟨s1,s2,s3⟩:=c.Bk h3;exact BB c.hc s.nd q2 r2 s2 q3 r3 s3 q1 r1 s1
end
section
variable {τ r:DS} {G:DH} {x y d:D} {f:D→D→M D} {ma mb:DS→M D} {ml:DS→M (List D)} {a b c e g h i j k l m n o:Option D}
@[simp high] theorem YB:(a::r)[0]?=Zg a:=Zw rfl rfl
@[simp high] theorem YC {w:Option D}:(a::r).set 0 w=w::r:=Zw rfl rfl
@[simp high] theorem Px:af 0 (Zg x::r) G=.ok x G:=Zw rfl rfl
@[simp high] theorem Xf:ak f (af 0) (eC d) (Zg x::r) G=f x d G:=Zw rfl rfl
@[simp high] theorem Xg:ak f (af 0) mb (Zg x::r) G=(mb (Zg x::r) G).bd (f x):=aj
@[simp high] theorem TR:aa (af 0) ml (Zg x::r) G=(ml (Zg x::r) G).bd λz=>M.ret (x::z):=aj
@[simp high] theorem YD:(a::b::r)[1]?=Zg b:=Zw rfl rfl
@[simp high] theorem Xh {w:Option D}:(a::b::r).set 1 w=a::w::r:=Zw rfl rfl
@[simp high] theorem YE:af 1 (a::Zg x::r) G=.ok x G:=Zw rfl rfl
@[simp high] theorem Qc:ak f (af 1) (eC d) (a::Zg x::r) G=f x d G:=Zw rfl rfl
@[simp high] theorem Vf:ak f (af 1) mb (a::Zg x::r) G=(mb (a::Zg x::r) G).bd (f x):=aj
@[simp high] theorem TU:aa (af 1) ml (a::Zg x::r) G=(ml (a::Zg x::r) G).bd λz=>M.ret (x::z):=aj
@[simp high] theorem Vg:(a::b::c::r)[2]?=Zg c:=Zw rfl rfl
@[simp high] theorem Vh {w:Option D}:(a::b::c::r).set 2 w=a::b::w::r:=Zw rfl rfl
@[simp high] theorem Tj:af 2 (a::b::Zg x::r) G=.ok x G:=Zw rfl rfl
@[simp high] theorem Xi:ak f (af 2) (eC d) (a::b::Zg x::r) G=f x d G:=Zw rfl rfl
@[simp high] theorem Xj:ak f (af 2) mb (a::b::Zg x::r) G=(mb (a::b::Zg x::r) G).bd (f x):=aj
@[simp high] theorem Vi:aa (af 2) ml (a::b::Zg x::r) G=(ml (a::b::Zg x::r) G).bd λz=>M.ret (x::z):=aj
@[simp high] theorem YF:(a::b::c::e::r)[3]?=Zg e:=Zw rfl rfl
@[simp high] theorem Vj {w:Option D}:(a::b::c::e::r).set 3 w=a::b::c::w::r:=Zw rfl rfl
@[simp high] theorem Ro:af 3 (a::b::c::Zg x::r) G=.ok x G:=Zw rfl rfl
@[simp high] theorem Xk:ak f (af 3) (eC d) (a::b::c::Zg x::r) G=f x d G:=Zw rfl rfl
@[simp high] theorem Xl:ak f (af 3) mb (a::b::c::Zg x::r) G=(mb (a::b::c::Zg x::r) G).bd (f x):=aj
@[simp high] theorem TV:aa (af 3) ml (a::b::c::Zg x::r) G=(ml (a::b::c::Zg x::r) G).bd λz=>M.ret (x::z):=aj
@[simp high] theorem YG:(a::b::c::e::g::r)[4]?=Zg g:=Zw rfl rfl
@[simp high] theorem Qd {w:Option D}:(a::b::c::e::g::r).set 4 w=a::b::c::e::w::r:=Zw rfl rfl
@[simp high] theorem Xm:af 4 (a::b::c::e::Zg x::r) G=.ok x G:=Zw rfl rfl
@[simp high] theorem Xn:ak f (af 4) (eC d) (a::b::c::e::Zg x::r) G=f x d G:=Zw rfl rfl
@[simp high] theorem YH:ak f (af 4) mb (a::b::c::e::Zg x::r) G=(mb (a::b::c::e::Zg x::r) G).bd (f x):=aj
@[simp high] theorem TX:aa (af 4) ml (a::b::c::e::Zg x::r) G=(ml (a::b::c::e::Zg x::r) G).bd λz=>M.ret (x::z):=aj
@[simp high] theorem YI:(a::b::c::e::g::h::r)[5]?=Zg h:=Zw rfl rfl
@[simp high] theorem Nz {w:Option D}:(a::b::c::e::g::h::r).set 5 w=a::b::c::e::g::w::r:=Zw rfl rfl
@[simp high] theorem Xo:af 5 (a::b::c::e::g::Zg x::r) G=.ok x G:=Zw rfl rfl
@[simp high] theorem Xp:ak f (af 5) (eC d) (a::b::c::e::g::Zg x::r) G=f x d G:=Zw rfl rfl
@[simp high] theorem YJ:ak f (af 5) mb (a::b::c::e::g::Zg x::r) G=(mb (a::b::c::e::g::Zg x::r) G).bd (f x):=aj
@[simp high] theorem Vk:aa (af 5) ml (a::b::c::e::g::Zg x::r) G=(ml (a::b::c::e::g::Zg x::r) G).bd λz=>M.ret (x::z):=aj
@[simp high] theorem YK:(a::b::c::e::g::h::i::r)[6]?=Zg i:=Zw rfl rfl
@[simp high] theorem Rp {w:Option D}:(a::b::c::e::g::h::i::r).set 6 w=a::b::c::e::g::h::w::r:=Zw rfl rfl
@[simp high] theorem Vl:af 6 (a::b::c::e::g::h::Zg x::r) G=.ok x G:=Zw rfl rfl
@[simp high] theorem Xq:ak f (af 6) (eC d) (a::b::c::e::g::h::Zg x::r) G=f x d G:=Zw rfl rfl
@[simp high] theorem Xr:ak f (af 6) mb (a::b::c::e::g::h::Zg x::r) G=(mb (a::b::c::e::g::h::Zg x::r) G).bd (f x):=aj
@[simp high] theorem YL:aa (af 6) ml (a::b::c::e::g::h::Zg x::r) G=(ml (a::b::c::e::g::h::Zg x::r) G).bd λz=>M.ret (x::z):=aj
@[simp high] theorem YM:(a::b::c::e::g::h::i::j::r)[7]?=Zg j:=Zw rfl rfl
@[simp high] theorem Vm {w:Option D}:(a::b::c::e::g::h::i::j::r).set 7 w=a::b::c::e::g::h::i::w::r:=Zw rfl rfl
@[simp high] theorem YN:af 7 (a::b::c::e::g::h::i::Zg x::r) G=.ok x G:=Zw rfl rfl
@[simp high] theorem Xs:ak f (af 7) (eC d) (a::b::c::e::g::h::i::Zg x::r) G=f x d G:=Zw rfl rfl
@[simp high] theorem YO:ak f (af 7) mb (a::b::c::e::g::h::i::Zg x::r) G=(mb (a::b::c::e::g::h::i::Zg x::r) G).bd (f x):=aj
@[simp high] theorem YQ:aa (af 7) ml (a::b::c::e::g::h::i::Zg x::r) G=(ml (a::b::c::e::g::h::i::Zg x::r) G).bd λz=>M.ret (x::z):=aj
@[simp high] theorem YR:(a::b::c::e::g::h::i::j::k::r)[8]?=Zg k:=Zw rfl rfl
@[simp high] theorem Xu {w:Option D}:(a::b::c::e::g::h::i::j::k::r).set 8 w=a::b::c::e::g::h::i::j::w::r:=Zw rfl rfl
@[simp high] theorem YS:af 8 (a::b::c::e::g::h::i::j::Zg x::r) G=.ok x G:=Zw rfl rfl
@[simp high] theorem Xv:ak f (af 8) (eC d) (a::b::c::e::g::h::i::j::Zg x::r) G=f x d G:=Zw rfl rfl
@[simp high] theorem YT:ak f (af 8) mb (a::b::c::e::g::h::i::j::Zg x::r) G=(mb (a::b::c::e::g::h::i::j::Zg x::r) G).bd (f x):=aj
@[simp high] theorem YU:aa (af 8) ml (a::b::c::e::g::h::i::j::Zg x::r) G=(ml (a::b::c::e::g::h::i::j::Zg x::r) G).bd λz=>M.ret (x::z):=aj
@[simp high] theorem YV:(a::b::c::e::g::h::i::j::k::l::r)[9]?=Zg l:=Zw rfl rfl
@[simp high] theorem Xw {w:Option D}:(a::b::c::e::g::h::i::j::k::l::r).set 9 w=a::b::c::e::g::h::i::j::k::w::r:=Zw rfl rfl
@[simp high] theorem YW:af 9 (a::b::c::e::g::h::i::j::k::Zg x::r) G=.ok x G:=Zw rfl rfl
@[simp high] theorem Xx:ak f (af 9) (eC d) (a::b::c::e::g::h::i::j::k::Zg x::r) G=f x d G:=Zw rfl rfl
@[simp high] theorem YX:ak f (af 9) mb (a::b::c::e::g::h::i::j::k::Zg x::r) G=(mb (a::b::c::e::g::h::i::j::k::Zg x::r) G).bd (f x):=aj
@[simp high] theorem YY:aa (af 9) ml (a::b::c::e::g::h::i::j::k::Zg x::r) G=(ml (a::b::c::e::g::h::i::j::k::Zg x::r) G).bd λz=>M.ret (x::z):=aj
@[simp high] theorem Xy:(a::b::c::e::g::h::i::j::k::l::m::r)[10]?=Zg m:=Zw rfl rfl
@[simp high] theorem TY {w:Option D}:(a::b::c::e::g::h::i::j::k::l::m::r).set 10 w=a::b::c::e::g::h::i::j::k::l::w::r:=Zw rfl rfl
@[simp high] theorem Xz:af 10 (a::b::c::e::g::h::i::j::k::l::Zg x::r) G=.ok x G:=Zw rfl rfl
@[simp high] theorem Vn:ak f (af 10) (eC d) (a::b::c::e::g::h::i::j::k::l::Zg x::r) G=f x d G:=Zw rfl rfl
@[simp high] theorem XA:ak f (af 10) mb (a::b::c::e::g::h::i::j::k::l::Zg x::r) G=(mb (a::b::c::e::g::h::i::j::k::l::Zg x::r) G).bd (f x):=aj
@[simp high] theorem XC:aa (af 10) ml (a::b::c::e::g::h::i::j::k::l::Zg x::r) G=(ml (a::b::c::e::g::h::i::j::k::l::Zg x::r) G).bd λz=>M.ret (x::z):=aj
@[simp high] theorem XE:(a::b::c::e::g::h::i::j::k::l::m::n::r)[11]?=Zg n:=Zw rfl rfl
@[simp high] theorem XF {w:Option D}:(a::b::c::e::g::h::i::j::k::l::m::n::r).set 11 w=a::b::c::e::g::h::i::j::k::l::m::w::r:=Zw rfl rfl
@[simp high] theorem XG:af 11 (a::b::c::e::g::h::i::j::k::l::m::Zg x::r) G=.ok x G:=Zw rfl rfl
@[simp high] theorem Vp:ak f (af 11) (eC d) (a::b::c::e::g::h::i::j::k::l::m::Zg x::r) G=f x d G:=Zw rfl rfl
@[simp high] theorem XH:ak f (af 11) mb (a::b::c::e::g::h::i::j::k::l::m::Zg x::r) G=(mb (a::b::c::e::g::h::i::j::k::l::m::Zg x::r) G).bd (f x):=aj
@[simp high] theorem XI:aa (af 11) ml (a::b::c::e::g::h::i::j::k::l::m::Zg x::r) G=(ml (a::b::c::e::g::h::i::j::k::l::m::Zg x::r) G).bd λz=>M.ret (x::z):=aj
@[simp high] theorem XJ:(a::b::c::e::g::h::i::j::k::l::m::n::o::r)[12]?=Zg o:=Zw rfl rfl
@[simp high] theorem XM {w:Option D}:(a::b::c::e::g::h::i::j::k::l::m::n::o::r).set 12 w=a::b::c::e::g::h::i::j::k::l::m::n::w::r:=Zw rfl rfl
@[simp high] theorem XN:af 12 (a::b::c::e::g::h::i::j::k::l::m::n::Zg x::r) G=.ok x G:=Zw rfl rfl
@[simp high] theorem Vq:ak f (af 12) (eC d) (a::b::c::e::g::h::i::j::k::l::m::n::Zg x::r) G=f x d G:=Zw rfl rfl
@[simp high] theorem XO:ak f (af 12) mb (a::b::c::e::g::h::i::j::k::l::m::n::Zg x::r) G=(mb (a::b::c::e::g::h::i::j::k::l::m::n::Zg x::r) G).bd (f x):=aj
@[simp high] theorem XQ:aa (af 12) ml (a::b::c::e::g::h::i::j::k::l::m::n::Zg x::r) G=(ml (a::b::c::e::g::h::i::j::k::l::m::n::Zg x::r) G).bd λz=>M.ret (x::z):=aj
@[simp high] theorem YZ:ak f (eC x) (eC d) τ G=f x d G:=Zw rfl rfl
@[simp high] theorem Y0:ak f (eC x) mb τ G=(mb τ G).bd (f x):=aj
@[simp] theorem Y3:ak f ma (eC d) τ G=(ma τ G).bd λx=>f x d:=aj
@[simp high] theorem acl:aa (eC x) ml τ G=(ml τ G).bd λz=>M.ret (x::z):=aj
@[simp high] theorem Y4:aa (eC x) ah τ G=.ok [x] G:=Zw rfl rfl
end
end
end L3
namespace K43
noncomputable section
open PySem PySem.Spec L2 L3
def top (i:Nat):Stmt:=PySem.Challenge.pw_pathshape_k43_masks_of_places.main.body.getD i (.Pass ⟨0,0,0,0⟩)
abbrev uF:Stmt:=top 1
abbrev uG:Stmt:=top 2
abbrev EW:Stmt:=top 3
abbrev BC:Stmt:=top 5
abbrev uH:Stmt:=top 7
abbrev BD:Stmt:=top 8
abbrev EX:Stmt:=top 9
abbrev BE:Stmt:=top 10
abbrev qN:Stmt:=top 11
abbrev yN:Stmt:=top 12
abbrev yO:Stmt:=top 14
abbrev uI:Stmt:=top 15
abbrev uJ:Stmt:=top 16
abbrev wR:Stmt:=top 17
abbrev rG:Stmt:=top 18
abbrev rH:Stmt:=top 19
abbrev wU:Stmt:=top 20
abbrev yP:Stmt:=top 21
abbrev wV:Stmt:=top 22
abbrev rJ:Stmt:=top 23
abbrev mR:Stmt:=top 24
abbrev uK:Stmt:=top 25
abbrev uL:Stmt:=top 26
abbrev yQ:Stmt:=top 27
abbrev wW:Stmt:=top 28
abbrev J2:Stmt:=top 29
abbrev jV:Stmt:=(uA (top 6)).getD 0 (.Pass ⟨0,0,0,0⟩)
abbrev jW:Stmt:=(uA (top 6)).getD 1 (.Pass ⟨0,0,0,0⟩)
abbrev jX:Stmt:=(uA (top 6)).getD 2 (.Pass ⟨0,0,0,0⟩)
abbrev gf:Stmt:=(ck qN).getD 0 (.Pass ⟨0,0,0,0⟩)
abbrev lR:gY:=⟨"<lambda>","holds_by.<locals>.<lambda>",Im (zU gf),.expr (Io (zU gf)),Em (zU gf),(zU gf).pos,["seen","marked","kind"]⟩
abbrev uM:List Str:=["look"]
def dJ:MS:=ay (gJ (eU (ak (fZ Zk) (ak aQ (af 0) (eC (.int 0))) (eC (.str "way")))) (JW) (aZ)) (ay (gJ (eU (ak (vE Zk) (ak aQ (af 0) (eC (.int 0))) (ai bK (aa (eC (.str "not")) (aa (eC (.str "both")) (aa (eC (.str "either")) (ah))))))) (bB (eFn (ai ny (aa (eFn (nj (af 0) (cz (eC (.int 1))) (f6))) (ah))))) (aZ)) (bB (eFn (ai aL (ah)))))
def cW (ds:List D):M D:=bV (λds=>bL 1 dJ ds) ds
abbrev uN:List Str:=["rows","goes"]
def g9:MS:=bB (ai iD (aa (eFn (dZ (oT 2) [Zk,Zh] (dH (aa (af 0) (ah))) (eU (ak (vE Zk) (ak aQ (af 1) (eC (.int 0))) (af 3))) (ak g8 (eC (.int 1)) (af 0)))) (ah)))
def cL (ds:List D):M D:=bV (λds=>bL 2 g9 ds) ds
abbrev BF:List Str:=["j","seen"]
def kO:MS:=bB (ak (fZ Zk) (ak rq (ak Iu (af 1) (af 0)) (eC (.int 1))) (eC (.int 1)))
def jk (ds:List D):M D:=bV (λds=>bL 2 kO ds) ds
abbrev yR:List Str:=["_law_cell","_law_k","_law_digit","_law_j","_law_number"]
def gE:MS:=aH 2 (ak r9 (af 2) (eC (.int 840)))
def gF:MS:=ay (aH 2 (af 0)) (f7 eG (gN 3) (aa (ak cY (af 1) (eC (.int 46))) (ah)) gE)
def jI:MS:=ay (aH 2 (eC (.int 0))) (ay (gJ (eU (ak GK (af 0) (ak pS (eC (.int 10)) (eC (.int 9))))) (gF) (aZ)) (ay (gJ (eU (ak vC (af 2) (eC (.int 0)))) (bB (ak cY (af 2) (eC (.int 840)))) (aZ)) (ay (aH 4 (ak aG (ak aG (ak cY (af 0) (eC (.int 1000000007))) (ak je (eC (.int 7919)) (af 1))) (eC (.int 13)))) (ay (aH 4 (ak cY (ak je (af 4) (af 4)) (eC (.int 998244353)))) (bB (ak r9 (ak cY (ak je (af 4) (ak aG (ak aG (af 4) (ak je (eC (.int 16807)) (af 1))) (eC (.int 1)))) (eC (.int 1000000007))) (eC (.int 3))))))))
def aC (ds:List D):M D:=bV (λds=>bL 5 jI ds) ds
abbrev rK:List Str:=["_law_masks_of","_law_bits_here","_law_here","_law_i","_law_mask"]
def di:MS:=gJ (eU (ak (fZ Zh) (ak rq (af 4) (af 1)) (eC (.int 0)))) (aH 2 (ak Ip (af 2) (ak g8 (eC (.int 1)) (af 3)))) (aZ)
def i7:MS:=ay (aH 2 (eC (.int 0))) (ay (kh (gP 3 4) (dH (aa (af 0) (ah))) di) (bB (af 2)))
def i8 (ds:List D):M D:=bV (λds=>bL 5 i7 ds) ds
abbrev oU:List Str:=["self","below","beside"]
def dO:MS:=bB (ak Ip (ak rq (af 1) (mP "MaskBook" "into" (af 0))) (ak rq (af 2) (mP "MaskBook" "across" (af 0))))
def dP (ds:List D):M D:=bL 3 dO ds
abbrev uO:List Str:=["top","parts_of","found","waiting","one"]
def fE:MS:=ay (aH 4 (cJ "list" oH (af 3) ah)) (ay (iB (cJ "list" cK (af 2) (aa (af 4) (ah)))) (iB (cJ "list" v5 (af 3) (aa (eFn (ai vU (aa (lK 1 1 (λy=>aak y [("look_parts",cW)]) (aa (af 4) (ah))) (ah)))) (ah)))))
def jJ:MS:=ay (aH 2 (ai aL (ah))) (ay (aH 3 (ai aL (aa (af 0) (ah)))) (ay (gc (eU (ak vC (ai cZ (aa (af 3) (ah))) (eC (.int 0)))) fE fuel) (bB (u0 (af 2)))))
def ia (ds:List D):M D:=bV (λds=>bL 5 jJ ds) ds
abbrev yS:List Str:=["look","parts","kind","marked","seen"]
def dM:MS:=ay (gJ (eU (ak (fZ Zk) (ak aQ (af 0) (eC (.int 0))) (eC (.str "kind")))) (bB (ak (fZ Zk) (af 2) (ak aQ (af 0) (eC (.int 1))))) (aZ)) (ay (gJ (eU (ak (fZ Zk) (ak aQ (af 0) (eC (.int 0))) (eC (.str "mark")))) (bB (ai uE (aa (af 3) (ah)))) (aZ)) (ay (gJ (eU (ak (fZ Zk) (ak aQ (af 0) (eC (.int 0))) (eC (.str "from")))) (bB (az 2 jk (aa (ak aQ (af 0) (eC (.int 1))) (aa (af 4) (ah))))) (aZ)) (ay (gJ (eU (ak (fZ Zk) (ak aQ (af 0) (eC (.int 0))) (eC (.str "not")))) (bB (GV (ak aQ (af 1) (eC (.int 0))))) (aZ)) (ay (gJ (eU (ak (fZ Zk) (ak aQ (af 0) (eC (.int 0))) (eC (.str "both")))) (bB (yg (ak aQ (af 1) (eC (.int 0))) (ak aQ (af 1) (eC (.int 1))))) (aZ)) (ay (gJ (eU (ak (fZ Zk) (ak aQ (af 0) (eC (.int 0))) (eC (.str "either")))) (bB (Nu (ak aQ (af 1) (eC (.int 0))) (ak aQ (af 1) (eC (.int 1))))) (aZ)) (bB (eC (.bl Zh))))))))
def jK (ds:List D):M D:=bV (λds=>bL 5 dM ds) ds
abbrev uP:List Str:=["_law_script","_law_start","_law_cells_here"]
def jL:MS:=ay (aH 2 (eFn (dZ oN [Zh] (sD (aa (af 1) (aa (ai (fM λi j=>if j<i then j else i) (aa (ai cZ (aa (af 0) (ah))) (aa (eC (.int 64)) (ah)))) (aa (eC (.int 2)) (ah))))) (dY) (ak aQ (af 1) (af 0))))) (bB (eFn (ak aG (af 2) (eFn (dh eG oN [Zh,Zh] (aa (ak l8 (eC (.int 6)) (ai cZ (aa (af 2) (ah)))) (ah)) (dY) (az 2 aC (aa (ai cZ (aa (af 1) (ah))) (aa (ak aG (ak aG (eC (.int 40)) (af 2)) (af 0)) (ah)))))))))
def fj (ds:List D):M D:=bV (λds=>bL 3 jL ds) ds
abbrev uQ:List Str:=["_law_cell","_law_names_here","_law_word","_law_j","_law_wide","_law_place","_law_k","_law_name"]
def fF:MS:=aH 2 (ak aG (af 2) (ak aQ (eC (.str "abcdefghijklmnopqrstuvwxyz")) (ak cY (az 2 aC (aa (af 0) (aa (ak aG (eC (.int 32)) (af 3)) (ah)))) (eC (.int 26)))))
def i9:MS:=ay (aH 2 (eC (.str "q"))) (ay (f7 eG (gN 3) (aa (eC (.int 7)) (ah)) fF) (bB (eFn (dh eG oN [Zh,Zk,Zh] (aa (eC (.int 5)) (ah)) (dY) (eFn (nj (af 3) (f6) (cz (ak aG (ak aG (eC (.int 1)) (ak cY (az 2 aC (aa (af 1) (aa (eC (.int 43)) (ah)))) (eC (.int 4)))) (af 0)))))))))
def fG:MS:=aH 7 (ak aG (af 7) (ak aQ (eC (.str "abcdefghijklmnopqrstuvwxyz")) (ak cY (ak aG (az 2 aC (aa (af 0) (aa (ak aG (eC (.int 32)) (af 3)) (ah)))) (ak je (af 6) (ai iT (aa (ak (fZ Zk) (af 3) (af 5)) (ah))))) (eC (.int 26)))))
def fH:MS:=ay (gJ (eU (ak (vE Zk) (af 7) (eFn (ai aL (aa (eC (.str "start")) (aa (eC (.str "rule")) (aa (eC (.str "row")) (aa (eC (.str "mix")) (aa (eC (.str "many")) (aa (eC (.str "any")) (aa (eC (.str "kind")) (aa (eC (.str "not")) (aa (eC (.str "both")) (aa (eC (.str "either")) (aa (eC (.str "way")) (aa (eC (.str "mark")) (ah))))))))))))))))) (aH 7 (ak aG (af 7) (eC (.str "z")))) (aZ)) (iB (cJ "list" cK (af 1) (aa (af 7) (ah))))
def fJ:MS:=ay (aH 7 (eC (.str ""))) (ay (f7 eG (gN 3) (aa (af 4) (ah)) fG) (fH))
def ic:MS:=ay (aH 1 (ai aL (ah))) (ay (gJ (eU (ak (fZ Zk) (ak cY (az 2 aC (aa (af 0) (aa (eC (.int 40)) (ah)))) (eC (.int 3))) (eC (.int 0)))) (i9) (aZ)) (ay (aH 4 (ak aG (eC (.int 1)) (ak cY (az 2 aC (aa (af 0) (aa (eC (.int 41)) (ah)))) (eC (.int 8))))) (ay (aH 5 (ak cY (az 2 aC (aa (af 0) (aa (eC (.int 42)) (ah)))) (af 4))) (ay (f7 eG (gN 6) (aa (eC (.int 5)) (ah)) fJ) (bB (u0 (af 1)))))))
def jM (ds:List D):M D:=bV (λds=>bL 8 ic ds) ds
abbrev wX:List Str:=["_law_cell","_law_names_here","_law_rows","_law_spot","_law_kind","_law_bits_here","_law_j","_law_row"]
def fk:MS:=aH 5 (ak Ip (af 5) (ak g8 (ai iT (aa (ak (fZ Zk) (ak aQ (af 7) (eC (.int 1))) (af 4)) (ah))) (af 6)))
def gG:MS:=ay (gJ (eU (ak (fZ Zk) (ak cY (az 2 aC (aa (af 0) (aa (eC (.int 10)) (ah)))) (eC (.int 5))) (eC (.int 1)))) (bB (ai bK (aa (ai bK (aa (eC (.str "mark")) (ah))) (aa (af 3) (aa (eC (.int 1)) (aa (eC (.int 1)) (ah))))))) (aZ)) (ay (gJ (eU (ak (fZ Zk) (ak cY (az 2 aC (aa (af 0) (aa (eC (.int 10)) (ah)))) (eC (.int 5))) (eC (.int 0)))) (bB (ai bK (aa (ai bK (aa (eC (.str "any")) (ah))) (aa (ak l8 (ak g8 (eC (.int 1)) (ai cZ (aa (af 2) (ah)))) (eC (.int 1))) (aa (eC (.int 1)) (aa (eC (.int 1)) (ah))))))) (aZ)) (ay (aH 4 (ak aQ (af 1) (ak cY (az 2 aC (aa (af 0) (aa (eC (.int 14)) (ah)))) (eC (.int 5))))) (ay (aH 5 (eC (.int 0))) (ay (kh (gP 6 7) (dH (aa (af 2) (ah))) fk) (bB (ai bK (aa (ai bK (aa (eC (.str "kind")) (aa (af 4) (ah)))) (aa (af 5) (aa (eC (.int 1)) (aa (eC (.int 1)) (ah)))))))))))
def fS (ds:List D):M D:=bV (λds=>bL 8 gG ds) ds
abbrev rL:List Str:=["_law_pile_here","_law_cell","_law_every","_law_way_here","_law_one","_law_other","_law_many_here","_law_deep"]
def dm:MS:=ay (aH 5 (ak aQ (af 0) (vI (eC (.int 2))))) (ay (aH 6 (ak aG (ak aG (ak aQ (af 4) (eC (.int 2))) (ak aQ (af 5) (eC (.int 2)))) (eC (.int 1)))) (ay (aH 7 (ak aG (ai (fM λi j=>if j > i then j else i) (aa (ak aQ (af 4) (eC (.int 3))) (aa (ak aQ (af 5) (eC (.int 3))) (ah)))) (eC (.int 1)))) (ay (gJ (iQ (eU (ak FQ (af 6) (eC (.int 41)))) (iQ (eU (ak FQ (af 7) (eC (.int 13)))) (eU (ak (fZ Zk) (af 3) (eC (.int 1)))))) (bB (eFn (ai aL (aa (ai bK (aa (ai bK (aa (eC (.str "both")) (aa (ak aQ (af 5) (eC (.int 0))) (aa (ak aQ (af 4) (eC (.int 0))) (ah))))) (aa (ak rq (ak aQ (af 5) (eC (.int 1))) (ak aQ (af 4) (eC (.int 1)))) (aa (af 6) (aa (af 7) (ah)))))) (ah))))) (aZ)) (gJ (iQ (eU (ak FQ (af 6) (eC (.int 41)))) (eU (ak FQ (af 7) (eC (.int 13))))) (bB (eFn (ai aL (aa (ai bK (aa (ai bK (aa (eC (.str "either")) (aa (ak aQ (af 5) (eC (.int 0))) (aa (ak aQ (af 4) (eC (.int 0))) (ah))))) (aa (ak Ip (ak aQ (af 5) (eC (.int 1))) (ak aQ (af 4) (eC (.int 1)))) (aa (af 6) (aa (af 7) (ah)))))) (ah))))) (aZ)))))
def bu:MS:=ay (aH 3 (ak cY (az 2 aC (aa (af 1) (aa (eC (.int 11)) (ah)))) (eC (.int 6)))) (ay (aH 4 (ak aQ (af 0) (vI (eC (.int 1))))) (ay (gJ (iQ (eU (ak (fZ Zk) (af 3) (eC (.int 0)))) (iQ (eU (ak FQ (ak aQ (af 4) (eC (.int 3))) (eC (.int 12)))) (eU (ak FQ (ak aQ (af 4) (eC (.int 2))) (eC (.int 40)))))) (bB (eFn (ai aL (aa (ai bK (aa (ai bK (aa (eC (.str "not")) (aa (ak aQ (af 4) (eC (.int 0))) (ah)))) (aa (ak MO (af 2) (ak aQ (af 4) (eC (.int 1)))) (aa (ak aG (ak aQ (af 4) (eC (.int 2))) (eC (.int 1))) (aa (ak aG (ak aQ (af 4) (eC (.int 3))) (eC (.int 1))) (ah)))))) (ah))))) (aZ)) (ay (gJ (iQ (eU (ak FQ (af 3) (eC (.int 3)))) (eU (ak vC (ai cZ (aa (af 0) (ah))) (eC (.int 1))))) (dm) (aZ)) (bB (eFn (ai aL (ah)))))))
def cN (ds:List D):M D:=bV (λds=>bL 8 bu ds) ds
abbrev wY:List Str:=["_law_pile_here","_law_cell"]
def iW:MS:=bB (ai (fM λi j=>if j<i then j else i) (aa (ai cZ (aa (af 0) (ah))) (aa (ak aQ (eFn (ai aL (aa (eC (.int 1)) (aa (eC (.int 2)) (aa (eC (.int 3)) (aa (eC (.int 1)) (aa (eC (.int 2)) (aa (eC (.int 3)) (aa (eC (.int 2)) (aa (eC (.int 7)) (ah))))))))))) (ak cY (az 2 aC (aa (af 1) (aa (eC (.int 15)) (ah)))) (eC (.int 8)))) (ah))))
def gH (ds:List D):M D:=bV (λds=>bL 2 iW ds) ds
abbrev wZ:List Str:=["_law_cell","_law_turn","_law_many_here"]
def fT:MS:=ay (gJ (eU (ak GK (af 0) (ak pS (eC (.int 10)) (eC (.int 9))))) (bB (ak cY (ak iG (af 0) (ak aQ (eFn (ai aL (aa (eC (.int 1)) (aa (ak pS (eC (.int 2)) (eC (.int 40))) (ah))))) (af 1))) (ak g8 (eC (.int 1)) (af 2)))) (aZ)) (bB (ak cY (ak aG (ak je (az 2 aC (aa (af 0) (aa (ak aG (eC (.int 26)) (af 1)) (ah)))) (ak pS (eC (.int 2)) (eC (.int 28)))) (az 2 aC (aa (af 0) (aa (ak aG (eC (.int 28)) (af 1)) (ah))))) (ak g8 (eC (.int 1)) (af 2))))
def dD (ds:List D):M D:=bV (λds=>bL 3 fT ds) ds
abbrev oV:List Str:=["self","rows"]
def dQ:MS:=ay (kr "MaskBook" "rows" (af 1) (af 0)) (ay (kr "MaskBook" "into" (az 2 cL (aa (af 1) (aa (ai bK (aa (eC (.str "down")) (aa (eC (.str "deep")) (ah)))) (ah)))) (af 0)) (ay (kr "MaskBook" "across" (az 2 cL (aa (af 1) (aa (ai bK (aa (eC (.str "later")) (ah))) (ah)))) (af 0)) (ay (kr "MaskBook" "through" (az 2 cL (aa (af 1) (aa (ai bK (aa (eC (.str "deep")) (ah))) (ah)))) (af 0)) (kr "MaskBook" "hits" (uq) (af 0)))))
def dR (ds:List D):M D:=bL 2 dQ ds
abbrev yT:List Str:=["_law_pile_here","_law_cell","_law_every","_law_reach","_law_many_here","_law_some","_law_looks","_law_deep","_law_steps","_law_good","_law_k","_law_item","_law_go"]
def fU:MS:=ay (aH 12 (ak aQ (eFn (ai aL (aa (eC (.str "down")) (aa (eC (.str "deep")) (aa (eC (.str "later")) (aa (eC (.str "down")) (ah))))))) (ak cY (az 2 aC (aa (af 1) (aa (ak aG (eC (.int 50)) (af 10)) (ah)))) (eC (.int 4))))) (ay (iB (cJ "list" cK (af 8) (aa (ai bK (aa (af 12) (aa (ak aQ (af 11) (eC (.int 0))) (ah)))) (ah)))) (aH 9 (az 2 i8 (aa (Er (af 3) (af 12)) (aa (ak rq (af 9) (ak aQ (af 11) (eC (.int 1)))) (ah))))))
def gr:MS:=ay (aH 4 (az 2 gH (aa (af 0) (aa (af 1) (ah))))) (ay (aH 5 (eFn (nj (af 0) (cz (ak l8 (ai cZ (aa (af 0) (ah))) (af 4))) (f6)))) (ay (aH 6 (ak aG (eC (.int 1)) (ai iD (aa (eFn (jT oN [] (af 5) (dY) (ak aQ (af 0) (eC (.int 2))))) (ah))))) (ay (aH 7 (ak aG (eC (.int 1)) (ai sr (aa (eFn (jT oN [] (af 5) (dY) (ak aQ (af 0) (eC (.int 3))))) (ah))))) (ay (gJ (AB (eU (ak vC (af 6) (eC (.int 40)))) (eU (ak vC (af 7) (eC (.int 12))))) (bB (eFn (ai aL (ah)))) (aZ)) (ay (aH 8 (ai aL (ah))) (ay (aH 9 (af 2)) (ay (kh (gP 10 11) (uw (aa (af 5) (ah))) fU) (bB (eFn (ai aL (aa (ai bK (aa (ai bK (aa (eC (.str "way")) (aa (ai wj (aa (af 8) (ah))) (ah)))) (aa (af 9) (aa (af 6) (aa (af 7) (ah)))))) (ah))))))))))))
def iH (ds:List D):M D:=bV (λds=>bL 13 gr ds) ds
abbrev qO:List Str:=["one","parts","seen","marked","kind"]
def dw:DS→M D:=az 5 jK (aa (af 0) (aa (af 1) (aa (af 4) (aa (af 3) (aa (af 2) (ah))))))
def bO (ds:List D):M D:=λG=>iV (A9 5 dw ds G)
abbrev EY:List Str:=["top","parts_of","make","made","one","parts","number"]
def iy:MS:=iB (cJ "list" cK (af 5) (aa (cJ "list" oH (af 3) ah) (ah)))
def cC:MS:=ay (aH 5 (ai aL (ah))) (ay (f7 eG (gN 6) (aa (ai cZ (aa (lK 1 1 (λy=>aak y [("look_parts",cW)]) (aa (af 4) (ah))) (ah))) (ah)) iy) (iB (cJ "list" cK (af 3) (aa (lP 2 2 (λy=>aak y [("holds_by",(3,bO))]) (aa (af 4) (aa (u0 (af 5)) (ah)))) (ah)))))
def qP:MS:=ay (aH 3 (ai aL (ah))) (ay (kh (gN 4) (HH (aa (az 2 ia (aa (af 0) (aa (af 1) (ah)))) (ah))) cC) (bB (ak aQ (af 3) (eC (.int 0)))))
def mS (ds:List D):M D:=bL 7 qP ds
abbrev w6:List Str:=["_law_cells_here","_law_names_here","_law_rows","_law_reach","_law_spot","_law_every","_law_pile_here","_law_cell","_law_some","_law_many_here"]
def gh:MS:=ay (aH 8 (az 3 cN (aa (af 6) (aa (af 7) (aa (af 5) (ah)))))) (aH 9 (ak l8 (eC (.int 2)) (ai iT (aa (yg (ak vC (ai cZ (aa (af 8) (ah))) (eC (.int 0))) (ak (fZ Zk) (ak aQ (ak aQ (ak aQ (af 8) (eC (.int 0))) (eC (.int 0))) (eC (.int 0))) (eC (.str "not")))) (ah)))))
def ie:MS:=ay (aH 8 (az 4 iH (aa (af 6) (aa (af 7) (aa (af 5) (aa (af 3) (ah))))))) (aH 9 (az 2 gH (aa (af 6) (aa (af 7) (ah)))))
def fm:MS:=ay (aH 8 (eFn (ai aL (ah)))) (ay (aH 9 (eC (.int 1))) (ay (gJ (iQ (eU (ak vC (ai cZ (aa (af 6) (ah))) (eC (.int 0)))) (eU (ak (fZ Zk) (ak cY (az 2 aC (aa (af 7) (aa (eC (.int 19)) (ah)))) (eC (.int 3))) (eC (.int 0))))) (ie) (gJ (eU (ak vC (ai cZ (aa (af 6) (ah))) (eC (.int 0)))) (gh) (aZ))) (gJ (eU (ak vC (ai cZ (aa (af 8) (ah))) (eC (.int 0)))) (aH 6 (ak aG (eFn (nj (af 6) (f6) (cz (ak l8 (ai cZ (aa (af 6) (ah))) (af 9))))) (af 8))) (iB (cJ "list" cK (af 6) (aa (az 4 fS (aa (af 7) (aa (af 1) (aa (af 2) (aa (af 4) (ah)))))) (ah)))))))
def kC:MS:=ay (aH 5 (ak l8 (ak g8 (eC (.int 1)) (ai cZ (aa (af 2) (ah)))) (eC (.int 1)))) (ay (aH 6 (ai aL (ah))) (ay (nk (gN 7) (af 0) fm) (bB (u0 (af 6)))))
def iX (ds:List D):M D:=bV (λds=>bL 10 kC ds) ds
abbrev yU:List Str:=["look","kind","marked","seen"]
def iI:MS:=bB (az 3 mS (aa (af 0) (aa (eC (.fn "look_parts")) (aa (Bd "holds_by" [3,2,1]) (ah)))))
def iJ (ds:List D):M D:=bV (λds G=>iV (bL 4 iI ds G)) ds
abbrev EZ:List Str:=["row","kind","marked","seen"]
def mT:MS:=ay (gJ (iQ (eU (ak (pU Zh) (ak aQ (af 0) (eC (.int 2))) (eC .cy))) (zv (iZ l9 (az 2 jk (aa (ak aQ (af 0) (eC (.int 2))) (aa (af 3) (ah))))))) (bB (eC (.bl Zk))) (aZ)) (bB (az 4 iJ (aa (ak aQ (af 0) (eC (.int 1))) (aa (af 1) (aa (af 2) (aa (af 3) (ah)))))))
def jm (ds:List D):M D:=bV (λds=>bL 4 mT ds) ds
abbrev BG:List Str:=["rows","kind","marked","seen"]
def kP:MS:=bB (ai iD (aa (eFn (dZ (oT 2) [Zk,Zh,Zh,Zh] (dH (aa (af 0) (ah))) (iZ l9 (az 4 jm (aa (af 1) (aa (af 3) (aa (af 4) (aa (af 5) (ah))))))) (ak g8 (eC (.int 1)) (af 0)))) (ah)))
def jn (ds:List D):M D:=bV (λds=>bL 4 kP ds) ds
abbrev oW:List Str:=["self","kind","marked","below","beside","seen","known"]
def dS:MS:=ay (aH 5 (kB "MaskBook" "seen" 3 dP (af 0) (aa (af 3) (aa (af 4) (ah))))) (ay (aH 6 (ai bK (aa (af 1) (aa (af 2) (aa (af 5) (ah)))))) (ay (gJ (eU (ak mQ (af 6) (mP "MaskBook" "hits" (af 0)))) (qx (az 4 jn (aa (mP "MaskBook" "rows" (af 0)) (aa (af 1) (aa (af 2) (aa (af 5) (ah)))))) (mP "MaskBook" "hits" (af 0)) (af 6)) (aZ)) (bB (ak Ip (zN (mP "MaskBook" "hits" (af 0)) (af 6)) (ak rq (af 3) (mP "MaskBook" "through" (af 0)))))))
def dU (ds:List D):M D:=bL 7 dS ds
abbrev BH:List Str:=["rows","kind","marked","below","beside"]
def kQ:MS:=bB (kB "MaskBook" "mask" 5 dU (sP "MaskBook" 2 dR (aa (af 0) (ah))) (aa (af 1) (aa (af 2) (aa (af 3) (aa (af 4) (ah))))))
def kR (ds:List D):M D:=bV (λds=>bL 5 kQ ds) ds
abbrev rM:List Str:=["_law_look","_law_table","_law_rest","_law_go","_law_inner","_law_turned_here","_law_one"]
def eZ (bM:List D→M D):MS:=ay (aH 5 (az 2 bM (aa (af 4) (aa (af 1) (ah))))) (ay (iB (cJ "list" cK (af 1) (aa (ai bK (aa (af 3) (aa (af 5) (aa (af 2) (ah))))) (ah)))) (aH 2 (ak l8 (ai cZ (aa (af 1) (ah))) (eC (.int 1)))))
def iK (bM:List D→M D):MS:=ay (aH 2 (eC .cy)) (ay (kh (gP 3 4) (zX (aa (ak aQ (af 0) (eC (.int 1))) (ah))) (eZ bM)) (bB (ai bK (aa (eC (.str "from")) (aa (af 2) (ah))))))
def iL (bM:List D→M D):MS:=ay (aH 6 (az 2 bM (aa (ak aQ (af 0) (eC (.int 1))) (aa (af 1) (ah))))) (bB (ai bK (aa (ak aQ (af 0) (eC (.int 0))) (aa (af 6) (aa (az 2 bM (aa (ak aQ (af 0) (eC (.int 2))) (aa (af 1) (ah)))) (ah))))))
def bN (bM:List D→M D):MS:=ay (gJ (eU (ak (fZ Zk) (ak aQ (af 0) (eC (.int 0))) (eC (.str "way")))) ((iK bM)) (aZ)) (ay (gJ (eU (ak (fZ Zk) (ak aQ (af 0) (eC (.int 0))) (eC (.str "not")))) (bB (ai bK (aa (eC (.str "not")) (aa (az 2 bM (aa (ak aQ (af 0) (eC (.int 1))) (aa (af 1) (ah)))) (ah))))) (aZ)) (ay (gJ (eU (ak (vE Zk) (ak aQ (af 0) (eC (.int 0))) (eFn (ai aL (aa (eC (.str "both")) (aa (eC (.str "either")) (ah))))))) ((iL bM)) (aZ)) (bB (af 0))))
mutual
def bg:Nat→List D→M D
  | 0,_=>M.stop
  | n+1,ds=>bL 7 (bN (bg n)) ds
end
abbrev lg:List D→M D:=bg 60
abbrev mU:List Str:=["_law_look","_law_places_now","_law_one"]
def fP (cX:List D→M D):MS:=ay (aH 2 (az 2 cX (aa (ak aQ (af 0) (eC (.int 1))) (aa (af 1) (ah))))) (bB (ai bK (aa (ak aQ (af 0) (eC (.int 0))) (aa (af 2) (aa (az 2 cX (aa (ak aQ (af 0) (eC (.int 2))) (aa (af 1) (ah)))) (ah))))))
def aX (cX:List D→M D):MS:=ay (gJ (eU (ak (fZ Zk) (ak aQ (af 0) (eC (.int 0))) (eC (.str "from")))) (bB (ai bK (aa (eC (.str "from")) (aa (ak aQ (af 1) (ak aQ (af 0) (eC (.int 1)))) (ah))))) (aZ)) (ay (gJ (eU (ak (fZ Zk) (ak aQ (af 0) (eC (.int 0))) (eC (.str "not")))) (bB (ai bK (aa (eC (.str "not")) (aa (az 2 cX (aa (ak aQ (af 0) (eC (.int 1))) (aa (af 1) (ah)))) (ah))))) (aZ)) (ay (gJ (eU (ak (vE Zk) (ak aQ (af 0) (eC (.int 0))) (eFn (ai aL (aa (eC (.str "both")) (aa (eC (.str "either")) (ah))))))) ((fP cX)) (aZ)) (bB (af 0))))
mutual
def aY:Nat→List D→M D
  | 0,_=>M.stop
  | n+1,ds=>bV (λds=>bL 3 (aX (aY n)) ds) ds
end
abbrev iY:List D→M D:=aY 60
abbrev uR:List Str:=["_law_table","_law_look","_law_case","_law_kind","_law_marked","_law_below","_law_beside","_law_both"]
def fq (jN:List D→M D):MS:=ay (wB (Rc 3 4 5 6) (af 2)) (ay (gJ (eU (ak (fZ Zk) (ak aQ (af 1) (eC (.int 0))) (eC (.str "any")))) (bB (eC (.bl Zh))) (aZ)) (ay (gJ (eU (ak (fZ Zk) (ak aQ (af 1) (eC (.int 0))) (eC (.str "kind")))) (bB (ak (fZ Zk) (af 3) (ak aQ (af 1) (eC (.int 1))))) (aZ)) (ay (gJ (eU (ak (fZ Zk) (ak aQ (af 1) (eC (.int 0))) (eC (.str "mark")))) (bB (af 4)) (aZ)) (ay (gJ (eU (ak (fZ Zk) (ak aQ (af 1) (eC (.int 0))) (eC (.str "from")))) (bB (ak (fZ Zk) (ak cY (ak iG (ak aQ (eFn (ai aL (aa (af 5) (aa (af 6) (ah))))) (ai iT (aa (ak (fZ Zk) (ak aQ (ak aQ (af 0) (ak aQ (af 1) (eC (.int 1)))) (eC (.int 0))) (eC (.str "later"))) (ah)))) (ak g8 (eC (.int 1)) (ak aQ (af 1) (eC (.int 1))))) (eC (.int 2))) (eC (.int 1)))) (aZ)) (ay (gJ (eU (ak (fZ Zk) (ak aQ (af 1) (eC (.int 0))) (eC (.str "not")))) (bB (GV (az 3 jN (aa (af 0) (aa (ak aQ (af 1) (eC (.int 1))) (aa (af 2) (ah))))))) (aZ)) (ay (aH 7 (eFn (ai aL (aa (az 3 jN (aa (af 0) (aa (ak aQ (af 1) (eC (.int 1))) (aa (af 2) (ah))))) (aa (az 3 jN (aa (af 0) (aa (ak aQ (af 1) (eC (.int 2))) (aa (af 2) (ah))))) (ah)))))) (ay (gJ (eU (ak (fZ Zk) (ak aQ (af 1) (eC (.int 0))) (eC (.str "both")))) (bB (yg (ak aQ (af 7) (eC (.int 0))) (ak aQ (af 7) (eC (.int 1))))) (aZ)) (bB (Nu (ak aQ (af 7) (eC (.int 0))) (ak aQ (af 7) (eC (.int 1))))))))))))
mutual
def bw:Nat→List D→M D
  | 0,_=>M.stop
  | n+1,ds=>bV (λds=>bL 8 (fq (bw n)) ds) ds
end
abbrev fy:List D→M D:=bw 60
abbrev uS:List Str:=["_law_table","_law_cell","_law_many_here","_law_by","_law_places_now","_law_rows","_law_j","_law_row","_law_rest"]
def dW:MS:=ay (aH 8 (ak aQ (af 7) (eC (.int 2)))) (ay (gJ (eU (ak (pU Zh) (af 8) (eC .cy))) (aH 8 (ak aQ (af 4) (af 8))) (aZ)) (lI (ai bK (aa (ak aQ (af 7) (eC (.int 0))) (aa (az 2 iY (aa (ak aQ (af 7) (eC (.int 1))) (aa (af 4) (ah)))) (aa (af 8) (ah))))) (af 5) (ak aQ (af 4) (af 6))))
def ja:MS:=ay (aH 5 (ak sG (ai aL (aa (eC .cy) (ah))) (af 2))) (ay (kh (gP 6 7) (dH (aa (af 0) (ah))) dW) (bB (ai bK (aa (u0 (af 5)) (aa (af 4) (ah))))))
def ig:MS:=ay (aH 2 (ai cZ (aa (af 0) (ah)))) (ay (aH 3 (ak aQ (eFn (ai aL (aa (eC (.int 1)) (aa (ai (fM λi j=>if j > i then j else i) (aa (ak l8 (af 2) (eC (.int 1))) (aa (eC (.int 1)) (ah)))) (ah))))) (ak cY (af 1) (eC (.int 2))))) (ay (aH 4 (eFn (dh eG oN [Zk,Zh,Zh,Zh] (aa (af 2) (ah)) (dY) (ak cY (ak aG (ak r9 (af 2) (eC (.int 2))) (ak je (af 4) (af 0))) (af 3))))) (ja)))
def gi (ds:List D):M D:=bV (λds=>bL 9 ig ds) ds
abbrev yV:List Str:=["_law_table","_law_case","_law_mask","_law_j","_law_go","_law_look","_law_rest","_law_hit"]
def fV:MS:=ay (wB (Rn 4 5 6) (ak aQ (af 0) (af 3))) (ay (aH 7 (az 3 fy (aa (af 0) (aa (af 5) (aa (af 1) (ah)))))) (ay (gJ (eU (ak (pU Zh) (af 6) (eC .cy))) (aH 7 (yg (af 7) (az 3 fy (aa (af 0) (aa (ai bK (aa (eC (.str "from")) (aa (af 6) (ah)))) (aa (af 1) (ah))))))) (aZ)) (ay (gJ (eU (ak (fZ Zk) (af 4) (eC (.str "deep")))) (aH 7 (Nu (af 7) (ak (fZ Zk) (ak cY (ak iG (ak aQ (af 1) (eC (.int 2))) (ak g8 (eC (.int 1)) (af 3))) (eC (.int 2))) (eC (.int 1))))) (aZ)) (aH 2 (ak aG (ak je (eC (.int 2)) (af 2)) (ai iT (aa (af 7) (ah))))))))
def lS:MS:=ay (aH 2 (eC (.int 0))) (ay (kh (gN 3) (zO (aa (ai cZ (aa (af 0) (ah))) (ah))) fV) (bB (af 2)))
def jO (ds:List D):M D:=bV (λds=>bL 8 lS ds) ds
abbrev J3:List Str:=["_law_script","_law_names_here","_law_reach","_law_pile_here","_law_table","_law_cell","_law_cases","_law_k","_law_case","_law_bits_here","_law_told"]
def qQ:MS:=ay (aH 8 (ai bK (aa (ak aQ (af 1) (ak cY (az 2 aC (aa (af 5) (aa (ak aG (eC (.int 24)) (ak je (eC (.int 4)) (af 7))) (ah)))) (eC (.int 5)))) (aa (ak (fZ Zk) (ak cY (az 2 aC (aa (af 5) (aa (ak aG (eC (.int 25)) (ak je (eC (.int 4)) (af 7))) (ah)))) (eC (.int 2))) (eC (.int 1))) (ah))))) (ay (aH 9 (eFn (dh eG oN [Zh,Zk,Zk,Zk,Zh,Zk,Zk,Zh] (aa (eC (.int 2)) (ah)) (dY) (az 3 dD (aa (ak aG (ai iD (aa (eFn (nj (af 1) (cz (ak aG (eC (.int 3)) (af 8))) (cz (ak aG (eC (.int 4)) (af 8))))) (ah))) (af 8)) (aa (af 0) (aa (ai cZ (aa (af 5) (ah))) (ah)))))))) (iB (cJ "list" cK (af 6) (aa (ak aG (af 8) (ai bK (aa (ak aQ (af 9) (eC (.int 0))) (aa (ak aQ (af 9) (eC (.int 1))) (ah))))) (ah)))))
def nP:MS:=ay (aH 10 (az 5 kR (aa (ai p7 (aa (af 4) (ah))) (aa (ak aQ (af 8) (eC (.int 0))) (aa (ak aQ (af 8) (eC (.int 1))) (aa (ak aQ (af 8) (eC (.int 2))) (aa (ak aQ (af 8) (eC (.int 3))) (ah)))))))) (gJ (AB (zv (iZ l9 (Df .int (af 10)))) (AB (iZ l9 (Df .bl (af 10))) (eU (ak (fZ Zh) (af 10) (az 2 jO (aa (u0 (af 4)) (aa (af 8) (ah)))))))) (bB (eC (.bl Zk))) (aZ))
def yW:MS:=ay (nk (gN 8) (eFn (ak aG (af 6) (eFn (nj (af 6) (f6) (cz (eC (.int 1))))))) nP) (bB (eC (.bl Zh)))
def sS:MS:=ay (aH 1 (az 1 jM (aa (ai iD (aa (eFn (nj (af 0) (f6) (cz (eC (.int 1))))) (ah))) (ah)))) (ay (aH 2 (sL [("down",eFn (ai aL (aa (eC (.int 0)) (ah)))),("deep",eFn (ai aL (aa (eC (.int 0)) (ah)))),("later",eFn (ai aL (aa (eC (.int 0)) (ah))))])) (ay (aH 3 (az 5 iX (aa (eFn (ak aG (az 2 fj (aa (af 0) (aa (eC (.int 0)) (ah)))) (az 2 fj (aa (af 0) (aa (eC (.int 1)) (ah)))))) (aa (af 1) (aa (eFn (ai aL (aa (ai bK (aa (eC (.int 0)) (aa (ak aQ (af 1) (eC (.int 0))) (ah)))) (ah)))) (aa (af 2) (aa (eC (.int 1)) (ah)))))))) (ay (aH 4 (ai aL (ah))) (ay (iB (az 2 lg (aa (ak aQ (ak aQ (af 3) (ak aQ (ai sQ (aa (eFn (dZ (oT 2) [] (dH (aa (af 3) (ah))) (dY) (ai bK (aa (ak aQ (af 1) (eC (.int 2))) (aa (af 0) (ah)))))) (ah))) (eC (.int 1)))) (eC (.int 0))) (aa (af 4) (ah))))) (ay (aH 5 (ai iD (aa (eFn (nj (af 0) (cz (eC (.int 2))) (cz (eC (.int 3))))) (ah)))) (ay (aH 4 (ak aQ (az 2 gi (aa (u0 (af 4)) (aa (az 2 aC (aa (af 5) (aa (eC (.int 28)) (ah)))) (ah)))) (eC (.int 0)))) (ay (aH 6 (ai aL (ah))) (ay (f7 eG (gN 7) (aa (eC (.int 4)) (ah)) qQ) (yW)))))))))
def E0 (ds:List D):M D:=bV (λds G=>iV (bL 11 sS ds G)) ds
def defs:List Ex:=[("look_parts",1,uM,uF),("all_within",2,uO,uG),("folded",3,EY,EW),("mask_of",5,BH,BC),("bits_by_go",2,uN,uH),("hits_of",4,BG,BD),("is_hit",4,EZ,EX),("is_seen",2,BF,BE),("holds_by",4,yU,qN),("truth_by",5,yS,yN),("_law_mix",2,yR,yO),("_law_cells",2,uP,uI),("_law_names",1,uQ,uJ),("_law_leaf",4,wX,wR),("_law_truths",3,rL,rG),("_law_before",2,rK,rH),("_law_many",2,wY,wU),("_law_way",4,yT,yP),("_law_pile",5,w6,wV),("_law_turned",2,rM,rJ),("_law_dealt_look",2,mU,mR),("_law_dealt",2,uS,uK),("_law_truth",3,uR,uL),("_law_due",2,yV,yQ),("_law_bits",3,wZ,wW),("law",1,J3,J2)]
def M4:List Str:=["bool","enumerate","int","isinstance","len","list","max","min","range","reversed","sum","tuple"]
structure Txt (g:rB):Prop where
  D:mO g.K g.mg defs
  B:iO g.mg M4
  yX:∃ c P,P6 g "holds_by" c P
  C0:uC g.K g.mg "MaskBook" "seen" "MaskBook.seen" jW
  C1:Bq g.K g.mg "MaskBook" "MaskBook.__init__" jV
  C2:uC g.K g.mg "MaskBook" "mask" "MaskBook.mask" jX
  C3:uB g "MaskBook" "across"
  C4:uB g "MaskBook" "hits"
  C5:uB g "MaskBook" "into"
  C6:uB g "MaskBook" "rows"
  C7:uB g "MaskBook" "through"
theorem bP {a b:Prop} (h:a) (k:a→b):b:=k h
theorem M5 {g:rB} (T:Txt g) {f:Addr} {fd:FuncData} (F:rZ g.K "law" "law" J2 f fd):jS g.P g.w g.K g.mg g.base (mq g.P g.w) 62 f fd ["_law_script"] (fW g.K g.mg 1 E0):=by
 obtain ⟨_,_,_,_,_,_,_,_,_,_,_,_,_,_,_,_,_,_,_,_,_,_,_,_,_,_,_⟩:=T.D;obtain ⟨_,_,yY⟩:=T.yX;have:=T.C0;have:=T.C1;have:=T.C2;have:=T.C3;have:=T.C4;have:=T.C5;have:=T.C6;have:=T.C7;refine bP (a:=gI g "look_parts" 1 1 cW) ?_ λ_=>bP (a:=gI g "bits_by_go" 1 2 cL) ?_ λ_=>bP (a:=gI g "is_seen" 1 2 jk) ?_ λ_=>bP (a:=gI g "_law_mix" 1 2 aC) ?_ λ_=>bP (a:=gI g "_law_before" 1 2 i8) ?_ λ_=>bP (a:=Bp g "MaskBook" "seen" 1 3 dP) ?_ λ_=>bP (a:=gI g "all_within" 2 2 ia) ?_ λ_=>bP (a:=gI g "truth_by" 2 5 jK) ?_ λ_=>bP (a:=gI g "_law_cells" 2 2 fj) ?_ λ_=>bP (a:=gI g "_law_names" 2 1 jM) ?_ λ_=>bP (a:=gI g "_law_leaf" 2 4 fS) ?_ λ_=>bP (a:=gI g "_law_truths" 2 3 cN) ?_ λ_=>bP (a:=gI g "_law_many" 2 2 gH) ?_ λ_=>bP (a:=gI g "_law_bits" 2 3 dD) ?_ λ_=>bP (a:=IG g "MaskBook" 2 2 dR) ?_ λ_=>bP (a:=gI g "_law_way" 3 4 iH) ?_ λ_=>bP (a:=Iz g "holds_by" 3 2 bO) ?_ λ_=>bP (a:=gI g "folded" 4 3 mS) ?_ λ_=>bP (a:=gI g "_law_pile" 4 5 iX) ?_ λ_=>bP (a:=gI g "holds_by" 5 4 iJ) ?_ λ_=>bP (a:=gI g "is_hit" 6 4 jm) ?_ λ_=>bP (a:=gI g "hits_of" 7 4 jn) ?_ λ_=>bP (a:=Bp g "MaskBook" "mask" 8 5 dU) ?_ λ_=>bP (a:=gI g "mask_of" 9 5 kR) ?_ λ_=>bP (a:=gI g "_law_turned" 60 2 lg) ?_ λ_=>bP (a:=gI g "_law_dealt_look" 60 2 iY) ?_ λ_=>bP (a:=gI g "_law_truth" 60 3 fy) ?_ λ_=>bP (a:=gI g "_law_dealt" 61 2 gi) ?_ λ_=>bP (a:=gI g "_law_due" 61 2 jO) ?_ λ_=>?_
 all_goals
  first
   | (with_reducible show Bp _ "MaskBook" "seen" _ _ _);refine zW (N:=oU) (by assumption) T.B ⟨rfl,rfl,rfl,by symm,rfl,by symm,by symm⟩ rfl rfl (by intro _ _ _ _ _ _;first | exact nK λ_=>rfl | exact nL λ_ _=>rfl | exact oR λ_ _ _=>rfl | exact nM λ_ _ _ _=>rfl | exact oS λ_ _ _ _ _=>rfl) λX EE hV hS=>?_
   | (with_reducible show IG _ "MaskBook" _ _ _);refine II (N:=oV) (by assumption) T.B ⟨rfl,rfl,rfl,by symm,rfl,by symm,by symm⟩ rfl rfl (by intro _ _ _ _ _ _;first | exact nK λ_=>rfl | exact nL λ_ _=>rfl | exact oR λ_ _ _=>rfl | exact nM λ_ _ _ _=>rfl | exact oS λ_ _ _ _ _=>rfl) λX EE hV hS=>?_
   | (with_reducible show Iz _ "holds_by" _ _ _);refine IC (x:="holds_by") (N:=qO) (c:=lR) (by assumption) T.B rfl ⟨rfl,rfl,rfl,by symm,rfl,by symm,by symm,by symm,by symm⟩ rfl rfl (by intro _ _ _ _ _;exact nL λ_ _=>rfl) rfl λX EE hV hS=>?_
   | (with_reducible show gI _ "holds_by" _ _ _);refine ID (x:="holds_by") (c:=lR) (js:=[3,2,1]) (cs:=λL=>[L+1+1+1,L+1+1,L+1]) (by assumption) T.B yY rfl ⟨rfl,rfl,rfl,by symm,rfl,by symm,by symm⟩ rfl rfl (by intro _ _ _ _ _ _;exact nM λ_ _ _ _=>rfl) (λ_ _ _=>rfl) (λL=>by first | (simp;done) | (simp;nofun)) (λL=>rfl) rfl (by symm) λX EE hV hS hL=>?_
   | (with_reducible show Bp _ "MaskBook" "mask" _ _ _);refine zW (N:=oW) (by assumption) T.B ⟨rfl,rfl,rfl,by symm,rfl,by symm,by symm⟩ rfl rfl (by intro _ _ _ _ _ _;first | exact nK λ_=>rfl | exact nL λ_ _=>rfl | exact oR λ_ _ _=>rfl | exact nM λ_ _ _ _=>rfl | exact oS λ_ _ _ _ _=>rfl) λX EE hV hS=>?_
   | (with_reducible show gI _ "_law_turned" _ _ _);refine pA (k:=0) (MM:=bg) (F:=λr=>λds=>bL 7 (bN r) ds) (by assumption) (by intro _ _ _ _ _ _;first | exact nK λ_=>rfl | exact nL λ_ _=>rfl | exact oR λ_ _ _=>rfl | exact nM λ_ _ _ _=>rfl | exact oS λ_ _ _ _ _=>rfl) (by funext ds;rw [bg]) (λi=>by funext ds;rw [bg]) (λi _=>?_) 60;show gI _ _ _ _ (λds=>bL 7 (bN (bg i)) ds);refine kN (by assumption) T.B ⟨rfl,rfl,rfl,by symm,rfl,by symm,by symm⟩ rfl rfl (by intro _ _ _ _ _ _;first | exact nK λ_=>rfl | exact nL λ_ _=>rfl | exact oR λ_ _ _=>rfl | exact nM λ_ _ _ _=>rfl | exact oS λ_ _ _ _ _=>rfl) λX EE hV hS=>?_
   | (with_reducible show gI _ "_law_dealt_look" _ _ _);refine pA (k:=0) (MM:=aY) (F:=λr=>bV (λds=>bL 3 (aX r) ds)) (by assumption) (by intro _ _ _ _ _ _;first | exact nK λ_=>rfl | exact nL λ_ _=>rfl | exact oR λ_ _ _=>rfl | exact nM λ_ _ _ _=>rfl | exact oS λ_ _ _ _ _=>rfl) (by funext ds;rw [aY]) (λi=>by funext ds;rw [aY]) (λi _=>?_) 60;show gI _ _ _ _ (bV (λds=>bL 3 (aX (aY i)) ds));refine gI.pure (kN (by assumption) T.B ⟨rfl,rfl,rfl,by symm,rfl,by symm,by symm⟩ rfl rfl (by intro _ _ _ _ _ _;first | exact nK λ_=>rfl | exact nL λ_ _=>rfl | exact oR λ_ _ _=>rfl | exact nM λ_ _ _ _=>rfl | exact oS λ_ _ _ _ _=>rfl) λX EE hV hS=>?_)
   | (with_reducible show gI _ "_law_truth" _ _ _);refine pA (k:=0) (MM:=bw) (F:=λr=>bV (λds=>bL 8 (fq r) ds)) (by assumption) (by intro _ _ _ _ _ _;first | exact nK λ_=>rfl | exact nL λ_ _=>rfl | exact oR λ_ _ _=>rfl | exact nM λ_ _ _ _=>rfl | exact oS λ_ _ _ _ _=>rfl) (by funext ds;rw [bw]) (λi=>by funext ds;rw [bw]) (λi _=>?_) 60;show gI _ _ _ _ (bV (λds=>bL 8 (fq (bw i)) ds));refine gI.pure (kN (by assumption) T.B ⟨rfl,rfl,rfl,by symm,rfl,by symm,by symm⟩ rfl rfl (by intro _ _ _ _ _ _;first | exact nK λ_=>rfl | exact nL λ_ _=>rfl | exact oR λ_ _ _=>rfl | exact nM λ_ _ _ _=>rfl | exact oS λ_ _ _ _ _=>rfl) λX EE hV hS=>?_)
   | (with_reducible show jS _ _ _ _ _ _ _ _ _ _ _);refine ES (N:=J3) (y:="_law_script") F T.B ⟨rfl,rfl,rfl,by symm,rfl,by symm,by symm⟩ rfl rfl (by assumption) (by symm) λX EE hV hS=>?_
   | refine gI.pure (kN (by assumption) T.B ⟨rfl,rfl,rfl,by symm,rfl,by symm,by symm⟩ rfl rfl (by intro _ _ _ _ _ _;first | exact nK λ_=>rfl | exact nL λ_ _=>rfl | exact oR λ_ _ _=>rfl | exact nM λ_ _ _ _=>rfl | exact oS λ_ _ _ _ _=>rfl) λX EE hV hS=>?_)
   | refine gI.fresh (kN (by assumption) T.B ⟨rfl,rfl,rfl,by symm,rfl,by symm,by symm⟩ rfl rfl (by intro _ _ _ _ _ _;first | exact nK λ_=>rfl | exact nL λ_ _=>rfl | exact oR λ_ _ _=>rfl | exact nM λ_ _ _ _=>rfl | exact oS λ_ _ _ _ _=>rfl) λX EE hV hS=>?_)
   | refine kN (by assumption) T.B ⟨rfl,rfl,rfl,by symm,rfl,by symm,by symm⟩ rfl rfl (by intro _ _ _ _ _ _;first | exact nK λ_=>rfl | exact nL λ_ _=>rfl | exact oR λ_ _ _=>rfl | exact nM λ_ _ _ _=>rfl | exact oS λ_ _ _ _ _=>rfl) λX EE hV hS=>?_
  delta dJ g9 kO jI gE gF i7 di dO jJ fE dM jL ic fF i9 fG fH fJ gG fk bu dm iW fT dQ gr fU dw qP iy cC kC gh ie fm iI mT kP dS kQ bN eZ iK iL aX fP fq ig dW ja lS fV sS qQ nP yW
  repeat' first
    | (with_reducible show @Eq Bool _ Zh);kernel_rfl
    | with_reducible show QE _ _ _ _;first
       | refine IA hV ?_
       | (show QE _ _ _ (eC _));first | exact Lr | exact Lu | ((show QE _ _ _ (eC (.fn _)));refine MX hV (rF.has (by assumption)) ?_) | exact OC | exact Ls
       | (show QE _ _ _ (ak _ _ _));first | refine Dt ?_ ?_ ?_ | refine HM ?_ ?_ | refine Lx ?_ ?_ | refine Lv ?_ ?_ | refine Lw ?_ ?_ | refine GL ?_ ?_ | refine El ?_ ?_ | refine MF ?_ ?_ | refine Ly ?_ ?_ | refine Iq ?_ ?_ | refine MP ?_ ?_ | refine Ir ?_ ?_ | refine MQ ?_ ?_ | refine MR ?_ ?_ | refine OG hV.hu ?_ ?_ | refine OE ?_ ?_
       | refine Mv ?_
       | refine Pp ?_
       | ((show QE _ _ _ (az _ _ _));first | refine EN hV (by assumption) ?_ ?_ | refine wK hV (by assumption) ?_ ?_)
       | ((show QE _ _ _ (mP _ _ _));refine IJ hV (by assumption) ?_ ?_)
       | ((show QE _ _ _ (sP _ _ _ _));refine EJ hV (by assumption) ?_ ?_)
       | ((show QE _ _ _ (kB _ _ _ _ _ _));refine EK hV (by assumption) ?_ ?_ ?_ (by with_unfolding_all exact rfl))
       | ((show QE _ _ (.ListComp _ _ _ _) _);first | refine wL hV hS P4 ?_ ?_ ?_ ?_ | refine wL hV hS P5 ?_ ?_ ?_ ?_ | refine sM hV hS P4 ?_ ?_ ?_ ?_ | refine sM hV hS P5 ?_ ?_ ?_ ?_ | refine qG hV hS P4 ?_ ?_ ?_ ?_ | refine qG hV hS P5 ?_ ?_ ?_ ?_)
       | ((show QE _ _ _ (lP _ _ _ _));refine Bj hV (by assumption) ?_ ?_)
       | (show QE _ _ _ (ai _ _));first | refine LA ?_ | refine LB ?_ | refine Mi (hV.bl _ ?_) (hV.gl _ ?_) ?_ ?_ | refine Mr (hV.bl _ ?_) (hV.gl _ ?_) ?_ ?_ | refine IM (hV.bl _ ?_) (hV.gl _ ?_) ?_ ?_ | refine IX hV.hc hV.hu (hV.bl _ ?_) (hV.gl _ ?_) ?_ ?_ | refine Hz hV.hc (hV.bl _ ?_) (hV.gl _ ?_) ?_ ?_ | refine Ms hV.hc (hV.bl _ ?_) (hV.gl _ ?_) ?_ ?_ | refine Hr hV.hc (hV.bl _ ?_) (hV.gl _ ?_) ?_ ?_ | refine Hs hV.hc (hV.bl _ ?_) (hV.gl _ ?_) ?_ ?_ | refine Hy (hV.bl _ ?_) (hV.gl _ ?_) ?_ ?_ | refine Dw (hV.bl _ ?_) (hV.gl _ ?_) ?_ ?_ | refine yo hV.hc (hV.bl _ ?_) (hV.gl _ ?_) (hV.bl _ ?_) (hV.gl _ ?_) ?_ ?_ | refine wk hV.hc (hV.bl _ ?_) (hV.gl _ ?_) (hV.bl _ ?_) (hV.gl _ ?_) ?_ ?_
       | refine LU ?_
       | refine LS ?_
       | refine CY ?_ ?_ ?_
       | ((show QE _ _ _ (sL _));refine Iv ?_ (by decide+kernel) (by decide+kernel) (List.cons_ne_nil _ _) (by decide+kernel))
       | refine Mj _ ?_ (hV.bl _ ?_) (hV.bl _ ?_) (hV.gl _ ?_) (hV.gl _ ?_) ?_ ?_ ?_ ?_ ?_
       | (show QE _ _ _ (cJ _ _ _ _));first | refine AX ?_ ?_ ?_ ?_ ?_ | refine HP ?_ ?_ ?_ ?_ ?_ | refine Ml ?_ ?_ ?_
       | refine MV hV.hu ?_ ?_ ?_
       | refine HX hV.hu ?_ ?_ ?_
       | exact D4
       | refine Bh hV ?_ ?_ ?_
       | refine LR ?_ ?_
       | refine OL ?_ ?_
       | refine LQ ?_
    | with_reducible show QA _ _ _ _;first
       | refine SH ?_ ?_ ?_
       | exact Lz
    | (with_reducible show qY _ _ _ _);first | with_reducible exact Ew | ((with_reducible show qY _ _ _ (ay _ _));refine C9 ?_ ?_) | refine GX ?_ | exact GW
    | with_reducible show QS _ _ _ _;first
       | ((show QS _ _ _ (kr _ _ _ _));refine IK hV (by assumption) ?_ ?_ ?_)
       | ((show QS _ _ _ (wB _ _));refine MG ?_ ?_ (by with_unfolding_all exact rfl) (by with_unfolding_all exact rfl) (by with_unfolding_all exact rfl))
       | ((show QS _ _ _ (lI _ _ _));refine Du ?_ ?_ ?_ ?_ (by with_unfolding_all exact λ_=>rfl))
       | ((show QS _ _ (.Assign _ (.ListComp _ _ _ _) _) _);first | refine sN hV hS P4 ?_ (by decide+kernel) ?_ ?_ | refine sN hV hS P5 ?_ (by decide+kernel) ?_ ?_ | refine qH hV hS P4 ?_ (by decide+kernel) ?_ ?_ | refine qH hV hS P5 ?_ (by decide+kernel) ?_ ?_)
       | ((show QS _ _ _ (qx _ _ _));refine D5 hV.hu ?_ ?_ ?_ ?_)
       | refine LV ?_
       | refine ON ?_ ?_ ?_
       | refine Ht ?_ ?_
       | refine Pw ?_
       | refine IB hV hS ?_ ?_
       | refine Mn hS.po hV.hc ?_ ?_ ?_ ?_
       | refine Dv hS.po hV.hc (hV.bl _ ?_) (hV.gl _ ?_) ?_ ?_ ?_ ?_
       | refine HA hS.po hV.hc ?_ ?_ ?_ ?_
       | refine DC hS.po ?_ ?_
    | with_reducible show QT _ _ _ _;first
       | refine Mg ?_ ?_ ?_ ?_
       | refine Mh ?_ ?_
       | refine LK ?_
       | refine Sk ?_
    | with_reducible first
      | (show Ij _ _ _ _ (az _ _ _));refine Bm hV hL (by assumption) ?_ ?_
      | exact CV hV.hu
      | exact LN
      | exact LO
      | exact LP
      | exact LD hV.hu
      | exact LH hV.hu
      | exact BA hV.hu
      | exact C8
      | refine GQ ?_
      | exact GP
      | refine Tz λX EE hV=>?_
      | refine TF λX EE hV=>⟨?_,?_⟩
      | refine Ep (hV.bl _ ?_) (hV.gl _ ?_) (hV.bl _ ?_) (hV.gl _ ?_) ?_ ?_
      | refine DX (hV.bl _ ?_) (hV.gl _ ?_) ?_ ?_
      | refine IQ (hV.bl _ ?_) (hV.gl _ ?_) ?_ ?_
      | refine H8 (hV.bl _ ?_) (hV.gl _ ?_) (hV.bl _ ?_) (hV.gl _ ?_) ?_ ?_
      | refine Mx (hV.bl _ ?_) (hV.gl _ ?_) ?_ ?_
      | refine HR (hV.bl _ ?_) (hV.gl _ ?_) ?_ ?_
      | refine LJ ?_ ?_
      | refine GS ?_
      | refine OJ ?_ ?_
      | refine LI ?_
      | refine Et hV hS ?_
      | refine Eu hV hS ?_
      | refine EO hV hS ?_
      | refine EV hV hS ?_
      | refine Il ?_ ?_
      | refine Eg ?_ ?_ ?_
      | exact trivial
    | decide+kernel
    | (with_reducible show JA _ _ _ _ _);first | with_reducible refine P0 ?_ ?_ ?_ | exact GF
    | (with_reducible show CG _);exact λ_ _=>rfl
    | (with_reducible show Bg _ _ _ _);first | exact trivial | refine ⟨⟨_,by assumption,by decide⟩,?_⟩
    | (with_reducible show Eb _ _ _ _);refine EB hL ?_
    | (with_reducible show Ij _ _ _ _ _);exact EA hL rfl rfl rfl rfl rfl
    | refine wK hV (by assumption) ?_ ?_
end
end K43
section
open PySem PySem.Spec L2 L3
local macro_rules
 | `(tactic| simp! [$a,*])=>`(tactic| simp [l9,aQ,aF,cF,fM,cZ,aG,bK,f9,cK,oH,vM,QV,Ty.is,$a,*])
local macro_rules
 | `(tactic| dsimp! [$a,*])=>`(tactic| simp [l9,aQ,aF,cF,fM,cZ,Tg,bK,f9,cK,oH,vM,QV,Ty.is,$a,*])
namespace K43
noncomputable section
open PySem PySem.Spec L2 L3
theorem w9 (c k:Int) (n4:Option D):∀ (its:List D) (dg:Int) (j:Option D),0≤dg→∃ (Rq:Int) (j':Option D),0≤Rq∧∀ G,bY (gN 3) gE its [Zg (.int c),Zg (.int k),Zg (.int dg),j,n4] G=.nx [Zg (.int c),Zg (.int k),Zg (.int Rq),j',n4] G
 | [],dg,j,h=>⟨dg,j,h,λG=>by rw [eY]⟩
 | x::its,dg,j,h=>by
  obtain ⟨Rq,j',h',e⟩:=w9 c k n4 its (dg / 840) (Zg x) (by nofun);refine ⟨Rq,j',h',λG=>?_⟩;rw [bZ rfl];have e1:gE [Zg (.int c),Zg (.int k),Zg (.int dg),Zg x,n4] G=.nx [Zg (.int c),Zg (.int k),Zg (.int (dg / 840)),Zg x,n4] G:=by simp! [gE]
  simp only [aai,aaj,e1,gW];exact e G
theorem yZ (c k:Int) (hk:0≤k∧k<10000):∃ v:Int,0≤v∧∀ G,aC [.int c,.int k] G=.ok (.int v) G:=by
 obtain ⟨k0,k1⟩:=hk;have hr:=g6 (j:=k % 46) (by nofun) (by nofun);have key:∃ dg:Int,∃ j,0≤dg∧∀ G,(gJ (eU (ak GK (af 0) (ak pS (eC (.int 10)) (eC (.int 9))))) (gF) (aZ)) [Zg (.int c),Zg (.int k),Zg (.int 0),Zl,Zl] G=.nx [Zg (.int c),Zg (.int k),Zg (.int dg),j,Zl] G:=by
  by_cases hc:(1000000000:Int)≤c
  ·obtain ⟨dg,j,h,e⟩:=w9 c k Zl ((Z6 0 (k % 46).toNat).map λ(k:Nat)=>.int (0+(k:Int))) c Zl (by nofun);refine ⟨dg,j,h,λG=>?_⟩;generalize ((Z6 0 (k % 46).toNat).map λ(k:Nat)=>D.int (0+(k:Int)))=its at hr e;simp! [hc,gF,hr,e]
  ·refine ⟨0,Zl,by nofun,λG=>?_⟩;simp! [hc]
 obtain ⟨dg,j,hd,e⟩:=key;generalize hS:gJ (eU (ak GK (af 0) (ak pS (eC (.int 10)) (eC (.int 9))))) (gF) (aZ)=S at e;by_cases h0:0<dg
 ·refine ⟨dg % 840,by nofun,λG=>?_⟩;refine aT ?_ aM;unfold jI;rw [hS];simp! [e,h0]
 ·have p0:0≤c % 1000000007:=by nofun
  have p1:c % 1000000007<1000000007:=by nofun
  generalize hy:c % 1000000007=y at p0 p1;have a1:-18446744073709551616<y+7919*k+13:=by nofun
  have a2:y+7919*k+13<18446744073709551616:=by nofun
  generalize hz:y+7919*k+13=z at a1 a2;have b1:0≤z*z % 998244353:=by nofun
  have b2:z*z % 998244353<998244353:=by nofun
  have b3:-18446744073709551616<z*z % 998244353:=by nofun
  have b4:z*z % 998244353<18446744073709551616:=by nofun
  generalize hu:z*z % 998244353=u at b1 b2 b3 b4;refine ⟨u*(u+16807*k+1) % 1000000007 / 3,by nofun,λG=>?_⟩;refine aT ?_ aM;unfold jI;rw [hS];have h0':dg≤0:=by nofun
  simp! [e,h0,h0',hy,hz,hu,a1,a2,b3,b4]
def mx (c k:Int):Int:=if h:0≤k∧k<10000 then Classical.choose (yZ c k h) else 0
theorem xg (c k:Int):0≤mx c k:=by
 unfold mx;split
 ·rename_i h;exact (adV (yZ c k h)).1
 ·nofun
theorem eB (c k:Int) (h0:0≤k) (h1:k<10000) (G:DH):aC [.int c,.int k] G=.ok (.int (mx c k)) G:=by have h:0≤k∧k<10000:=⟨h0,h1⟩;unfold mx;rw [dif_pos h];exact (adV (yZ c k h)).2 G
theorem TZ (n:Nat):HT.fC n n (Zg 1)=min 1 n:=HT.zg n n 1
theorem gu:∀ ns:List Int,intsOf (ns.map .int)=Zg ns
 | []=>rfl
 | n::ns=>by rw [Zy,intsOf,gu ns];rfl
theorem E2 (ns:List Int) (τ:DS) (G:DH):∃ c:Int,ai iD (aa (eFn (nj (af 0) (f6) (cz (eC (.int 1))))) (ah)) (Zg (.con (ns.map .int))::τ) G=.ok (.int c) G:=by
 have z1:(1:Nat)≤Zm:=lz (by nofun);have e:cutD (ns.map D.int) Zl (Zg 1)=(ns.take 1).map .int:=by unfold cutD;rw [TZ,HT.vh];cases ns<;>simp
 have hc:aR ((ns.take 1).map D.int)=Zh:=aE λ_=>aM;have hz:((ns.take 1).map D.int).length≤Zm:=aal (by simp;nofun) z1;have e1:eFn (nj (af 0) (f6) (cz (eC (.int 1)))) (Zg (.con (ns.map .int))::τ) G=.ok (.con ((ns.take 1).map .int)) G:=by
  rw [aW];have e2:nj (af 0) (f6) (cz (eC (.int 1))) (Zg (.con (ns.map .int))::τ) G=aL ((ns.take 1).map .int) G:=by simp! [zu,e]
  rw [e2,bG hz hc]
 refine ⟨(ns.take 1).sum,?_⟩;simp! [e1,iD,gu,← List.map_take]
def NB (ns:List Int):D→D
 | .int j=>.int (ns.getD j.toNat 0)
 | _=>.cy
def Qe (n s:Int):D→D
 | .int j=>.int (mx n (40+s+j))
 | _=>.cy
theorem IY (ns:List Int) (j:Nat) (h:j<ns.length):jb (ns.map D.int) (j:Int)=Zg (.int (ns.getD j 0)):=by refine ju ?_;rw [ZL,Zr h];simp [h]
theorem xh (ns:List Int) (hl:ns.length≤63) (s:Nat) (hs:s≤1) (G:DH):∃ xs:List Int,6≤xs.length∧xs.length≤40∧fj [.con (ns.map .int),.int s] G=.ok (.con (xs.map .int)) G:=by
 have hN:mH (s:Int) (ns.length:Int) 2≤32:=by unfold mH;split<;>nofun
 have hI:∀ i:Nat,i<mH (s:Int) (ns.length:Int) 2→s+i*2<ns.length:=by intro i hi;unfold mH at hi;split at hi<;>nofun
 have h64:¬ ((64:Int)<(ns.length:Int)):=by nofun
 have T3:(ns.length:Int)≤64:=by nofun
 generalize XR:mH (s:Int) (ns.length:Int) 2=N at hN hI;have q1:-1073741824≤(s:Int):=by nofun
 have q2:(s:Int)<1073741824:=by nofun
 have q3:-1073741824≤(ns.length:Int):=by nofun
 have q4:(ns.length:Int)<1073741824:=by nofun
 have c1:=kM (τ:=[Zg (D.con (ns.map D.int)),Zg (.int (s:Int)),Zl]) (G:=G) (gO:=oN) (ks:=[Zh]) (te:=ak aQ (af 1) (af 0)) (own:=λx=>[x]) (f:=NB ns) ((Z4 N).map λ(i:Nat)=>D.int ((s:Int)+(i:Int)*2)) [] (by simp;nofun) (λx _=>rfl) (λx hx acc=>by
  obtain ⟨i,hi,rfl⟩:=abE.mp hx;have hi':=hI i (ac0.mp hi);have ea:=IY ns (s+i*2) hi';rw [show ((s+i*2:Nat):Int)=(s:Int)+(i:Int)*2 by nofun] at ea;have et:((s:Int)+(i:Int)*2).toNat=s+i*2:=by nofun
  simp! [mask,ea,NB,et])
 have e1:eFn (dZ oN [Zh] (sD (aa (af 1) (aa (ai (fM λi j=>if j<i then j else i) (aa (ai cZ (aa (af 0) (ah))) (aa (eC (.int 64)) (ah)))) (aa (eC (.int 2)) (ah))))) (dY) (ak aQ (af 1) (af 0))) [Zg (D.con (ns.map D.int)),Zg (.int (s:Int)),Zl] G=.ok (.con (((Z4 N).map λ(i:Nat)=>D.int ((s:Int)+(i:Int)*2)).map (NB ns))) G:=by
  rw [aW];have e2:dZ oN [Zh] (sD (aa (af 1) (aa (ai (fM λi j=>if j<i then j else i) (aa (ai cZ (aa (af 0) (ah))) (aa (eC (.int 64)) (ah)))) (aa (eC (.int 2)) (ah))))) (dY) (ak aQ (af 1) (af 0)) [Zg (D.con (ns.map D.int)),Zg (.int (s:Int)),Zl] G=.ok (.obj G.length) (G++[.lst (((Z4 N).map λ(i:Nat)=>D.int ((s:Int)+(i:Int)*2)).map (NB ns))]):=by simp only [aam] at c1;rw [← c1,← DY];simp! [ints3,h64,T3,q1,q2,q3,q4,XR]
  rw [e2,jF];rw [aaM];exact aE λ_=>aM
 have XS:((Z4 N).map λ(i:Nat)=>D.int ((s:Int)+(i:Int)*2)).map (NB ns)=((Z4 N).map λi=>ns.getD (s+i*2) 0).map .int:=by
  rw [aaM,aaM];refine List.map_congr_left λi _=>?_;have et:((s:Int)+(i:Int)*2).toNat=s+i*2:=by nofun
  simp only [Function.comp,NB,et]
 rw [XS] at e1;generalize hX:(Z4 N).map (λi=>ns.getD (s+i*2) 0)=X at e1;have Y5:X.length=N:=by rw [← hX];simp
 have hr:eG [.int (6 - (X.length:Int))]=Zg ((Z4 (6 - (X.length:Int)).toNat).map λ(k:Nat)=>.int (0+(k:Int))):=by show (if -(2^62)≤(6 - (X.length:Int))∧(6 - (X.length:Int))<2^62 then Zg ((Z4 (6 - (X.length:Int)).toNat).map λ(k:Nat)=>D.int (0+(k:Int))) else Zl)=_;rw [if_pos ⟨by nofun,by nofun⟩]
 have c2:=kM (τ:=[Zg (D.con (ns.map D.int)),Zg (.int (s:Int)),Zg (.con (X.map .int))]) (G:=G) (gO:=oN) (ks:=[Zh,Zh]) (te:=az 2 aC (aa (ai cZ (aa (af 1) (ah))) (aa (ak aG (ak aG (eC (.int 40)) (af 2)) (af 0)) (ah)))) (own:=λx=>[x]) (f:=Qe ns.length s) ((Z4 (6 - (X.length:Int)).toNat).map λ(k:Nat)=>D.int (0+(k:Int))) [] (by simp;nofun) (λx _=>rfl) (λx hx acc=>by obtain ⟨i,hi,rfl⟩:=abE.mp hx;have hi':=ac0.mp hi;have hm:=eB ns.length (40+s+(0+(i:Int))) (by nofun) (by nofun) (G++[.lst acc]);simp only [Int.zero_add] at hm;simp! [mask,Qe,hm])
 generalize hL:(Z4 (6 - (X.length:Int)).toNat).map (λ(k:Nat)=>D.int (0+(k:Int)))=L at hr c2;have e3:eFn (dh eG oN [Zh,Zh] (aa (ak l8 (eC (.int 6)) (ai cZ (aa (af 2) (ah)))) (ah)) (dY) (az 2 aC (aa (ai cZ (aa (af 1) (ah))) (aa (ak aG (ak aG (eC (.int 40)) (af 2)) (af 0)) (ah))))) [Zg (D.con (ns.map D.int)),Zg (.int (s:Int)),Zg (.con (X.map .int))] G=.ok (.con (L.map (Qe ns.length s))) G:=by
  rw [aW];have e4:dh eG oN [Zh,Zh] (aa (ak l8 (eC (.int 6)) (ai cZ (aa (af 2) (ah)))) (ah)) (dY) (az 2 aC (aa (ai cZ (aa (af 1) (ah))) (aa (ak aG (ak aG (eC (.int 40)) (af 2)) (af 0)) (ah)))) [Zg (D.con (ns.map D.int)),Zg (.int (s:Int)),Zg (.con (X.map .int))] G=.ok (.obj G.length) (G++[.lst (L.map (Qe ns.length s))]):=by simp only [aam] at c2;rw [← c2];simp! [hr]
  rw [e4,jF];rw [← hL,aaM];exact aE λ_=>aM
 have XT:L.map (Qe ns.length s)=((Z4 (6 - (X.length:Int)).toNat).map λ(k:Nat)=>mx ns.length (40+s+(0+(k:Int)))).map .int:=by rw [← hL,aaM,aaM];rfl
 rw [XT] at e3;generalize hY:(Z4 (6 - (X.length:Int)).toNat).map (λ(k:Nat)=>mx ns.length (40+s+(0+(k:Int))))=Y at e3;have Y6:Y.length=(6 - (X.length:Int)).toNat:=by rw [← hY];simp
 refine ⟨X++Y,by simp;nofun,by simp;nofun,aT ?_ (by rw [cR];exact aE λ_=>aM)⟩;have hz:(X.map D.int++Y.map D.int).length≤Zm:=lz (by simp;nofun);have hcl:aR (X.map D.int++Y.map D.int)=Zh:=by rw [← aaL];exact aE λ_=>aM
 have e5:eFn (ak aG (af 2) (eFn (dh eG oN [Zh,Zh] (aa (ak l8 (eC (.int 6)) (ai cZ (aa (af 2) (ah)))) (ah)) (dY) (az 2 aC (aa (ai cZ (aa (af 1) (ah))) (aa (ak aG (ak aG (eC (.int 40)) (af 2)) (af 0)) (ah))))))) [Zg (D.con (ns.map D.int)),Zg (.int (s:Int)),Zg (.con (X.map .int))] G=.ok (.con (X.map D.int++Y.map D.int)) G:=by rw [aW,dB];have e6:af 2 [Zg (D.con (ns.map D.int)),Zg (.int (s:Int)),Zg (.con (X.map .int))] G=.ok (.con (X.map .int)) G:=rfl;rw [e6,aD,aj,e3,aD];show (aL _ G).fw G=_;rw [bG hz hcl]
 unfold jL;rw [aaL];simp! [e1,e5]
theorem E3 (x:Str) (l u:Option Int) (h:Zt x=Zh):Zt (acm x l u)=Zh:=by
 unfold acm;split
 ·exact h
 ·unfold Zt at h ⊢;simp only [List.all_toArray,ab4,ac1] at h ⊢;rintro c ⟨i,_,hi⟩;have h2:=Array.all_eq_true'.mp h c (Array.mem_of_getElem? hi);exact h2
abbrev lets:Str:="abcdefghijklmnopqrstuvwxyz"
theorem zY (i:Int) (G:DH):∃ s,aQ (.str lets) (.int (i % 26)) G=.ok (.str s) G∧Zt s=Zh∧s.length=1:=
 Mt lets (i % 26) G (by nofun) (by show i % 26<((26:Nat):Int);nofun) (by symm) (by symm)
theorem sU (c:Int) (G:DH) (a1 a4 a5 a6 a7:Option D):∀ (m j:Nat) (t:Str) (a3:Option D),j+m≤100→Zt t=Zh→t.length≤j+1 →
  ∃ (u:Str) (b3:Option D),Zt u=Zh∧u.length≤j+m+1∧bY (gN 3) fF ((Z6 j m).map λ(k:Nat)=>.int (0+(k:Int))) [Zg (.int c),a1,Zg (.str t),a3,a4,a5,a6,a7] G=.nx [Zg (.int c),a1,Zg (.str u),b3,a4,a5,a6,a7] G
 | 0,j,t,a3,h,k1,k2=>⟨t,a3,k1,by nofun,by simp [bY]⟩
 | m+1,j,t,a3,h,k1,k2=>by
  have hm:=eB c (32+(0+(j:Int))) (by nofun) (by nofun) G;obtain ⟨s,es,ks,ls⟩:=zY (mx c (32+(0+(j:Int)))) G;have hz:t.length+s.length≤Zm:=lz (by nofun);obtain ⟨u,b3,ku,lu,ih⟩:=sU c G a1 a4 a5 a6 a7 m (j+1) (t++s) (Zg (.int (0+(j:Int)))) (by nofun) (good_add k1 ks) (by rw [ue];nofun);refine ⟨u,b3,ku,by nofun,?_⟩;rw [ab6,Zy,bZ rfl];have e:fF [Zg (.int c),a1,Zg (.str t),Zg (.int (0+(j:Int))),a4,a5,a6,a7] G=.nx [Zg (.int c),a1,Zg (.str (t++s)),Zg (.int (0+(j:Int))),a4,a5,a6,a7] G:=by generalize (0+(j:Int))=jj at hm es;unfold fF;simp only [i0,dB,cS,g7,aD,aj,fh,aS,bC,cU,ZQ,ZP,ZN,aaJ,if_true,aG,hm,cF,es,if_pos hz,mD,aai,aaj,show (0:Int)<26 from by decide,decide_true]
  simp only [aai,aaj,e,gW];rw [ih]
theorem sV (c w p kk:Int) (hk:-100<kk∧kk<100) (G:DH) (a1 a2:Option D):∀ (m j:Nat) (t:Str) (a3:Option D),j+m≤100→Zt t=Zh→t.length≤j+1 →
  ∃ (u:Str) (b3:Option D),Zt u=Zh∧u.length≤j+m+1∧bY (gN 3) fG ((Z6 j m).map λ(k:Nat)=>.int (0+(k:Int))) [Zg (.int c),a1,a2,a3,Zg (.int w),Zg (.int p),Zg (.int kk),Zg (.str t)] G=.nx [Zg (.int c),a1,a2,b3,Zg (.int w),Zg (.int p),Zg (.int kk),Zg (.str u)] G
 | 0,j,t,a3,h,k1,k2=>⟨t,a3,k1,by nofun,by simp [bY]⟩
 | m+1,j,t,a3,h,k1,k2=>by
  have hm:=eB c (32+(0+(j:Int))) (by nofun) (by nofun) G;obtain ⟨s,es,ks,ls⟩:=zY (mx c (32+(0+(j:Int)))+kk*(if (0+(j:Int))==p then 1 else 0)) G;have hz:t.length+s.length≤Zm:=lz (by nofun);obtain ⟨u,b3,ku,lu,ih⟩:=sV c w p kk hk G a1 a2 m (j+1) (t++s) (Zg (.int (0+(j:Int)))) (by nofun) (good_add k1 ks) (by rw [ue];nofun);refine ⟨u,b3,ku,by nofun,?_⟩;rw [ab6,Zy,bZ rfl];have hk1:(decide (-(2^64)<kk)&&decide (kk<2^64))=Zh:=by simp;nofun
  have e:fG [Zg (.int c),a1,a2,Zg (.int (0+(j:Int))),Zg (.int w),Zg (.int p),Zg (.int kk),Zg (.str t)] G=.nx [Zg (.int c),a1,a2,Zg (.int (0+(j:Int))),Zg (.int w),Zg (.int p),Zg (.int kk),Zg (.str (t++s))] G:=by generalize (0+(j:Int))=jj at hm es;unfold fG;simp only [i0,dB,cV,cS,g7,aD,aj,fh,aS,bC,cU,ZQ,ZP,ZN,aaJ,if_true,aG,hm,bS,iT,ad2,cF,hk1,Bool.true_or,es,if_pos hz,mD,aai,aaj,show (0:Int)<26 from by decide,decide_true]
  simp only [aai,aaj,e,gW];rw [ih]
def kept:List Str:=["start","rule","row","mix","many","any","kind","not","both","either","way","mark"]
abbrev J4:DS→M D:=eFn (ai aL (aa (eC (.str "start")) (aa (eC (.str "rule")) (aa (eC (.str "row")) (aa (eC (.str "mix")) (aa (eC (.str "many")) (aa (eC (.str "any")) (aa (eC (.str "kind")) (aa (eC (.str "not")) (aa (eC (.str "both")) (aa (eC (.str "either")) (aa (eC (.str "way")) (aa (eC (.str "mark")) (ah))))))))))))))
theorem E4 (τ:DS) (G:DH):J4 τ G=.ok (.con (kept.map .str)) G:=by
 unfold J4;rw [aW];have XU:(12:Nat)≤Zm:=lz (by nofun);have e:ai aL (aa (eC (.str "start")) (aa (eC (.str "rule")) (aa (eC (.str "row")) (aa (eC (.str "mix")) (aa (eC (.str "many")) (aa (eC (.str "any")) (aa (eC (.str "kind")) (aa (eC (.str "not")) (aa (eC (.str "both")) (aa (eC (.str "either")) (aa (eC (.str "way")) (aa (eC (.str "mark")) (ah))))))))))))) τ G=aL (kept.map .str) G:=by simp only [cV,aS,bC,g7,aD,aj,cU];rfl
 rw [e,bG (ds:=kept.map .str) (show (kept.map D.str).length≤Zm from XU) (aE λ_=>cg)]
theorem IZ (c w p kk:Int) (G:DH) (ws:List Str) (hw:ws.length≤100) (a2 a3:Option D) (u:Str) (ku:Zt u=Zh) (lu:u.length≤20):∃ v:Str,Zt v=Zh∧v.length≤21 ∧
  fH [Zg (.int c),Zg (.obj G.length),a2,a3,Zg (.int w),Zg (.int p),Zg (.int kk),Zg (.str u)] (G++[.lst (ws.map .str)]) =
   .nx [Zg (.int c),Zg (.obj G.length),a2,a3,Zg (.int w),Zg (.int p),Zg (.int kk),Zg (.str v)] (G++[.lst ((ws++[v]).map .str)]):=by
 have hin:=qc u kept (G++[.lst (ws.map .str)]) ku (by symm);generalize kept.any (·==u)=bb at hin;have hz:u.length+("z":Str).length≤Zm:=by
  have:("z":Str).length=1:=by symm
  exact lz (by nofun)
 have hz2:ws.length<Zm:=Zx (by nofun) (lz (n:=101) (by nofun));have hk:=E4;cases bb with
 | true=>refine ⟨u++"z",good_add ku (by symm),(by rw [ue];have:=(show ("z":Str).length=1 by symm);nofun),?_⟩;unfold fH;simp! [hk,vE,hin,hz,hz2]
 | false=>refine ⟨u,ku,by nofun,?_⟩;unfold fH;simp! [hk,vE,hin,hz2]
theorem qR (c w p:Int) (hw:0≤w) (NC:w≤8) (G:DH) (a2:Option D):∀ (m j:Nat) (ws:List Str) (a3 a6 a7:Option D),j+m≤5→ws.length=j→(∀ s∈ws,Zt s=Zh∧s.length≤21) →
  ∃ (us:List Str) (b3 b6 b7:Option D),us.length=j+m∧(∀ s∈us,Zt s=Zh∧s.length≤21) ∧
   bY (gN 6) fJ ((Z6 j m).map λ(k:Nat)=>.int (0+(k:Int))) [Zg (.int c),Zg (.obj G.length),a2,a3,Zg (.int w),Zg (.int p),a6,a7] (G++[.lst (ws.map .str)])=.nx [Zg (.int c),Zg (.obj G.length),a2,b3,Zg (.int w),Zg (.int p),b6,b7] (G++[.lst (us.map .str)])
 | 0,j,ws,a3,a6,a7,h,hl,hs=>⟨ws,a3,a6,a7,by nofun,hs,by simp [bY]⟩
 | m+1,j,ws,a3,a6,a7,h,hl,hs=>by
  obtain ⟨u,b3,ku,lu,e1⟩:=sV c w p (0+(j:Int)) (by nofun) (G++[.lst (ws.map .str)]) (Zg (.obj G.length)) a2 w.toNat 0 ⟨#[]⟩ a3 (by nofun) (by symm) (by show 0≤1;nofun);obtain ⟨v,kv,lv,e2⟩:=IZ c w p (0+(j:Int)) G ws (by nofun) a2 b3 u ku (by nofun);obtain ⟨us,c3,c6,c7,PL,oE,ih⟩:=qR c w p hw NC G a2 m (j+1) (ws++[v]) b3 (Zg (.int (0+(j:Int)))) (Zg (.str v)) (by nofun) (by simp [hl]) (λs hm=>by
   rcases aaU.mp hm with h | h
   ·exact hs s h
   ·rw [ZI.mp h];exact ⟨kv,lv⟩)
  refine ⟨us,c3,c6,c7,by nofun,oE,?_⟩;have hr:=g6 (j:=w) hw (by nofun);generalize ((Z6 0 w.toNat).map λ(k:Nat)=>D.int (0+(k:Int)))=its at hr e1;rw [ab6,Zy,bZ rfl];generalize (0+(j:Int))=jj at e1 e2 ih;have e:fJ [Zg (.int c),Zg (.obj G.length),a2,a3,Zg (.int w),Zg (.int p),Zg (.int jj),a7] (G++[.lst (ws.map .str)])=.nx [Zg (.int c),Zg (.obj G.length),a2,b3,Zg (.int w),Zg (.int p),Zg (.int jj),Zg (.str v)] (G++[.lst ((ws++[v]).map .str)]):=by unfold fJ;have e0:("":Str)=⟨#[]⟩:=rfl;rw [e0];simp only [bH,i0,g7,mD,cT,aai,aaj,sA,aS,bC,cS,aD,aj,cU,ZQ,ZP,zI,hr,e1,e2]
  simp only [aai,aaj,e,gW];exact ih
def Qf (t:Str) (v:Int):D→D
 | .int j=>.str (acm t Zl (Zg (1+v % 4+j)))
 | _=>.cy
theorem E5 (c:Int) (G:DH):∃ ws:List Str,ws.length=5∧(∀ s∈ws,Zt s=Zh∧s.length≤21)∧jM [.int c] G=.ok (.con (ws.map .str)) G:=by
 have z0:(0:Nat)≤Zm:=abe _;have Vr:=eB c 40 (by nofun) (by nofun);have XW:=eB c 41 (by nofun) (by nofun);have XX:=eB c 42 (by nofun) (by nofun);have XY:=eB c 43 (by nofun) (by nofun);have Y7:=xg c 41;have Y8:=xg c 42;by_cases h0:mx c 40 % 3=0
 ·obtain ⟨u,b3,ku,lu,e1⟩:=sU c (G++[.lst []]) (Zg (.obj G.length)) Zl Zl Zl Zl 7 0 "q" Zl (by nofun) (by symm) (by symm);have hr:=g6 (j:=7) (by nofun) (by nofun);rw [show (7:Int).toNat=7 from rfl] at hr;generalize ((Z6 0 7).map λ(k:Nat)=>D.int (0+(k:Int)))=its at hr e1;have ND:=g6 (j:=5) (by nofun) (by nofun);rw [show (5:Int).toNat=5 from rfl] at ND;have hsz:u.length≤Zm:=lz (by nofun);generalize hτ:([Zg (.int c),Zg (.obj G.length),Zg (.str u),b3,Zl,Zl,Zl,Zl]:DS)=τ at e1;have hc:∀ G1,eFn (dh eG oN [Zh,Zk,Zh] (aa (eC (.int 5)) (ah)) (dY) (eFn (nj (af 3) (f6) (cz (ak aG (ak aG (eC (.int 1)) (ak cY (az 2 aC (aa (af 1) (aa (eC (.int 43)) (ah)))) (eC (.int 4)))) (af 0)))))) τ G1=.ok (.con (((Z6 0 5).map λ(k:Nat)=>D.int (0+(k:Int))).map (Qf u (mx c 43)))) G1:=λG1=>by
   have c1:=kM (τ:=τ) (G:=G1) (gO:=oN) (ks:=[Zh,Zk,Zh]) (te:=eFn (nj (af 3) (f6) (cz (ak aG (ak aG (eC (.int 1)) (ak cY (az 2 aC (aa (af 1) (aa (eC (.int 43)) (ah)))) (eC (.int 4)))) (af 0))))) (own:=λx=>[x]) (f:=Qf u (mx c 43)) ((Z6 0 5).map λ(k:Nat)=>D.int (0+(k:Int))) [] (by simp) (λx _=>rfl) (λx hx acc=>by obtain ⟨i,hi,rfl⟩:=abE.mp hx;subst hτ;generalize (0+(i:Int))=ii;simp! [aW,mask,XY,zu,Qf,hsz])
   rw [aW];have e2:dh eG oN [Zh,Zk,Zh] (aa (eC (.int 5)) (ah)) (dY) (eFn (nj (af 3) (f6) (cz (ak aG (ak aG (eC (.int 1)) (ak cY (az 2 aC (aa (af 1) (aa (eC (.int 43)) (ah)))) (eC (.int 4)))) (af 0))))) τ G1=.ok (.obj G1.length) (G1++[.lst (((Z6 0 5).map λ(k:Nat)=>D.int (0+(k:Int))).map (Qf u (mx c 43)))]):=by simp only [aam] at c1;rw [← c1];simp only [qe,aS,bC,g7,aD,aj,cU,ND]
   rw [e2,jF];rw [aaM];exact aE λ_=>cg
  have ex:((Z6 0 5).map λ(k:Nat)=>D.int (0+(k:Int))).map (Qf u (mx c 43))=((Z6 0 5).map λ(k:Nat)=>acm u Zl (Zg (1+mx c 43 % 4+(0+(k:Int))))).map .str:=by rw [aaM,aaM];rfl
  rw [ex] at hc;refine ⟨(Z6 0 5).map λ(k:Nat)=>acm u Zl (Zg (1+mx c 43 % 4+(0+(k:Int)))),by simp,λs hs=>?_,?_⟩
  ·obtain ⟨i,_,rfl⟩:=abE.mp hs;exact ⟨E3 u _ _ ku,aal (Txt.slice_le u _ _) (by nofun)⟩
  ·refine gz (R:=[.lst []]) ?_ (by rw [cR];exact aE λ_=>cg);generalize (((Z6 0 5).map λ(k:Nat)=>acm u Zl (Zg (1+mx c 43 % 4+(0+(k:Int))))).map D.str)=ws at hc;generalize hC:eFn (dh eG oN [Zh,Zk,Zh] (aa (eC (.int 5)) (ah)) (dY) (eFn (nj (af 3) (f6) (cz (ak aG (ak aG (eC (.int 1)) (ak cY (az 2 aC (aa (af 1) (aa (eC (.int 43)) (ah)))) (eC (.int 4)))) (af 0))))))=C at hc;subst hτ;unfold ic i9;rw [hC];have hn:aL [] G=.ok (.obj G.length) (G++[.lst []]):=if_pos z0;simp! [hn,Vr,bS,h0,hr,e1,hc]
 ·have hw1:0≤1+mx c 41 % 8:=by nofun
  have NC:1+mx c 41 % 8≤8:=by nofun
  have Vs:0<1+mx c 41 % 8:=by nofun
  obtain ⟨us,b3,b6,b7,PL,oE,e1⟩:=qR c (1+mx c 41 % 8) (mx c 42 % (1+mx c 41 % 8)) hw1 NC G Zl 5 0 [] Zl Zl Zl (by nofun) rfl (λs h=>by simp at h);have ND:=g6 (j:=5) (by nofun) (by nofun);rw [show (5:Int).toNat=5 from rfl] at ND;generalize ((Z6 0 5).map λ(k:Nat)=>D.int (0+(k:Int)))=its at ND e1;generalize XZ:1+mx c 41 % 8=w at e1 hw1 NC Vs;generalize hpp:mx c 42 % w=pp at e1;refine ⟨us,PL,oE,gz (R:=[.dead]) ?_ (by rw [cR];exact aE λ_=>cg)⟩;have hn:aL [] G=.ok (.obj G.length) (G++[.lst []]):=if_pos z0;have h0':(mx c 40 % 3==0)=Zk:=by simpa using h0
  unfold ic;simp only [ZU] at e1;simp! [hn,Vr,XW,XX,bS,h0',ND,XZ,hpp,Vs,e1]
theorem xj {a b:D}:jb [a,b] 0=Zg a:=rfl
theorem BI {a b:D}:jb [a,b] 1=Zg b:=rfl
theorem M6 {a b c:D}:jb [a,b,c] 0=Zg a:=rfl
theorem M7 {a b c:D}:jb [a,b,c] 1=Zg b:=rfl
theorem a32 {a b c:D}:jb [a,b,c] 2=Zg c:=rfl
theorem J5 {a:D}:jb [a] 0=Zg a:=rfl
theorem jP {e:DS→M D} {i:Nat} {v:D} {τ:DS} {G G':DH} {R:MS} (h:e τ G=.ok v G'):(ay (aH i e) R τ G).fn=(R (τ.set i (Zg v)) G').fn:=by rw [bH,i0,h,mD,cT]
theorem gw {e:DS→M D} {i:Nat} {v:D} {τ:DS} {G G':DH} {R:MS} {r:Out D} (h:e τ G=.ok v G') (k:(R (τ.set i (Zg v)) G').fn=r):(ay (aH i e) R τ G).fn=r:=(jP h).trans k
theorem sW {S R:MS} {τ τ':DS} {G G':DH} {r:Out D} (h:S τ G=.nx τ' G') (k:(R τ' G').fn=r):(ay S R τ G).fn=r:=by rw [bH,h,cT];exact k
mutual
inductive Lk where
 | one (m:Bool)
 | kind (s:Str)
 | mj (j:Nat)
 | not (l:Lk)
 | bin (e:Bool) (l r:Lk)
 | way (w:Wy)
inductive Wy where
 | nil
 | cons (g:Str) (l:Lk) (w:Wy)
end
def jQ (m:Bool):Str:=if m then "mark" else "any"
def gQ (e:Bool):Str:=if e then "either" else "both"
mutual
def Lk.D:Lk→L3.D
 | .one m=>.tup [.str (jQ m)]
 | .kind s=>.tup [.str "kind",.str s]
 | .mj j=>.tup [.str "from",.int (j:Int)]
 | .not l=>.tup [.str "not",l.D]
 | .bin e l r=>.tup [.str (gQ e),l.D,r.D]
 | .way w=>.tup [.str "way",.tup w.Ds]
def Wy.Ds:Wy→List L3.D
 | .nil=>[]
 | .cons g l w=>.tup [.str g,l.D]::w.Ds
end
mutual
def Lk.sz:Lk→Nat
 | .one _=>1
 | .kind _=>1
 | .mj _=>1
 | .not l=>1+l.sz
 | .bin _ l r=>1+(l.sz+r.sz)
 | .way w=>1+w.sz
def Wy.sz:Wy→Nat
 | .nil=>0
 | .cons _ l w=>l.sz+w.sz
end
def Gd (g:Str):Prop:=g="down"∨g="deep"∨g="later"
theorem Gd.ok {g:Str} (h:Gd g):Zt g=Zh:=by rcases h with rfl | rfl | rfl<;>symm
mutual
def Lk.Ok:Lk→Prop
 | .one _=>True
 | .kind s=>Zt s=Zh
 | .mj _=>False
 | .not l=>l.Ok
 | .bin _ l r=>l.Ok∧r.Ok
 | .way w=>w≠.nil∧w.Ok
def Wy.Ok:Wy→Prop
 | .nil=>True
 | .cons g l w=>Gd g∧l.Ok∧w.Ok
end
def Lk.Vo (n:Nat):Lk→Prop
 | .one _=>True
 | .kind s=>Zt s=Zh
 | .mj j=>j<n
 | .not l=>l.Vo n
 | .bin _ l r=>l.Vo n∧r.Vo n
 | .way _=>False
mutual
def Lk.dep:Lk→Nat
 | .one _=>1
 | .kind _=>1
 | .mj _=>1
 | .not l=>1+l.dep
 | .bin _ l r=>1+max l.dep r.dep
 | .way w=>1+w.dep
def Wy.dep:Wy→Nat
 | .nil=>0
 | .cons _ l w=>max l.dep w.dep
end
theorem eE (m:Bool):Zt (jQ m)=Zh:=by cases m<;>symm
theorem bU:Zt ("kind":Str)=Zh:=by symm
theorem bJ:Zt ("not":Str)=Zh:=by symm
theorem gR:Zt ("way":Str)=Zh:=by symm
theorem bQ:Zt ("from":Str)=Zh:=by symm
theorem cu (e:Bool):Zt (gQ e)=Zh:=by cases e<;>symm
mutual
theorem oX:∀ (l:Lk),l.D.closed=Zh
 | .one m=>by simp [Lk.D,D.closed,aO,aU,cg]
 | .kind nm=>by simp [Lk.D,D.closed,aO,aU,cg]
 | .mj _=>by simp [Lk.D,D.closed,aO,aU,cg]
 | .not l=>by simp [Lk.D,D.closed,aO,aU,cg,oX l]
 | .bin e l r=>by simp [Lk.D,D.closed,aO,aU,cg,oX l,oX r]
 | .way w=>by simp [Lk.D,D.closed,aO,aU,cg,Qg w]
theorem Qg:∀ (w:Wy),aR w.Ds=Zh
 | .nil=>by simp [Wy.Ds,aU]
 | .cons g l w=>by rw [Wy.Ds,aO,Qg w];simp [D.closed,aO,aU,cg,oX l]
end
def Wy.ps:Wy→List (Str×Lk)
 | .nil=>[]
 | .cons g l w=>(g,l)::w.ps
def xm (q:Str×Lk):D:=.tup [.str q.1,q.2.D]
theorem J6:∀ w:Wy,w.Ds=w.ps.map xm
 | .nil=>rfl
 | .cons g l w=>by rw [Wy.Ds,J6 w];rfl
theorem E6 (l:Lk):1≤l.sz:=by cases l<;>simp [Lk.sz]
def szl:List Lk→Nat
 | []=>0
 | l::ls=>l.sz+szl ls
theorem uT:∀ a b:List Lk,szl (a++b)=szl a+szl b
 | [],b=>by simp [szl]
 | t::a,b=>by rw [adu,szl,szl,uT a b];nofun
theorem T4:∀ w:Wy,w.sz=szl (w.ps.map (·.2))
 | .nil=>by simp [Wy.sz,Wy.ps,szl]
 | .cons g l w=>by rw [Wy.sz,T4 w,Wy.ps];simp [szl]
theorem eqs (s t:Str) (G:DH) (hs:Zt s=Zh) (ht:Zt t=Zh) {b:Bool} (h:(s==t)=b):fZ Zk (.str s) (.str t) G=.ok (.bl b) G:=by rw [uc Zk s t G hs ht,h];simp
theorem ins (s:Str) (ws:List Str) (G:DH) (hs:Zt s=Zh) (hw:aax (ws.map ab2)=Zh) {b:Bool} (h:ws.any (·==s)=b):vE Zk (.str s) (.tup (ws.map .str)) G=.ok (.bl b) G:=by have hk:=qc s ws G hs hw;rw [h] at hk;simp [vE,aF,hk]
theorem T5 (s:Str) (ws:List Str) (G:DH) (hs:Zt s=Zh) (hw:aax (ws.map ab2)=Zh) {b:Bool} (h:ws.any (·==s)=b):vE Zk (.str s) (.con (ws.map .str)) G=.ok (.bl b) G:=by have hk:=qc s ws G hs hw;rw [h] at hk;simp [vE,aF,hk]
theorem NF (s:Str) (G:DH) (hs:Zt s=Zh) {b:Bool} (h:(["both","either"]:List Str).any (·==s)=b):vE Zk (.str s) (.con [.str "both",.str "either"]) G=.ok (.bl b) G:=T5 s ["both","either"] G hs (by symm) h
theorem Qh (s:Str) (G:DH) (hs:Zt s=Zh) {b:Bool} (h:(["not","both","either"]:List Str).any (·==s)=b):vE Zk (.str s) (.tup [.str "not",.str "both",.str "either"]) G=.ok (.bl b) G:=ins s ["not","both","either"] G hs (by symm) h
theorem mk2 (G:DH):(aL [.str "both",.str "either"] G).fw G=.ok (.con [.str "both",.str "either"]) G:=bG (lz (n:=2) (by nofun)) rfl
def eD (j:Nat) (xs:List D):List D:=xs.mapIdx λi x=>.tup [.int ((i+j:Nat):Int),x]
theorem zZ (j:Nat) (x:D) (xs:List D):eD j (x::xs)=.tup [.int (j:Int),x]::eD (j+1) xs:=by
 unfold eD;rw [aeR];congr 1
 ·simp
 ·congr 1;funext i x;rw [show i+1+j=i+(j+1) by nofun]
structure Qt where
 l:Lk
 b:Int
 s:Int
 d:Int
def Qt.D (q:Qt):L3.D:=.tup [q.l.D,.int q.b,.int q.s,.int q.d]
def Qt.Ok (q:Qt):Prop:=q.l.Ok∧(q.l.sz:Int)≤q.s∧(q.l.dep:Int)≤q.d∧q.s≤40∧q.d≤12
theorem qS (q:Qt):q.D.closed=Zh:=by simp [Qt.D,D.closed,aO,aU,oX]
theorem I8 {a b c d:D}:jb [a,b,c,d] 0=Zg a:=rfl
theorem M8 {a b c d:D}:jb [a,b,c,d] 1=Zg b:=rfl
theorem Ja {a b c d:D}:jb [a,b,c,d] 2=Zg c:=rfl
theorem J7 {a b c d:D}:jb [a,b,c,d] 3=Zg d:=rfl
theorem nQ {g:jB} {body:MS} {xs:List D} {τ:DS} {G:DH}:kg g body (iE (.con xs)) (xs.length+1) 0 τ G=bY g body (xs.mapIdx λi x=>.tup [.int i,x]) τ G:=by
 have:=iF (g:=g) (body:=body) (xs:=xs.mapIdx λi x=>D.tup [.int i,x]) (vw:=iE (.con xs)) (λG i h=>by simp only [abS] at h;simp only [iE,aF,if_pos h,abD]) (xs.length+1) 0 τ G (by simp) (by simp)
 simpa using this
theorem T6 (i j:Int) (G:DH):Ip (.int i) (.int j) G=.ok (.int (aag i j)) G:=rfl
theorem xo (i j:Int) (G:DH):rq (.int i) (.int j) G=.ok (.int (aae i j)) G:=rfl
theorem T7 (i j:Int) (G:DH):MO (.int i) (.int j) G=.ok (.int (aa2 i j)) G:=rfl
theorem T8 (b:Bool) (G:DH):g8 (.int (if b then 1 else 0)) (.int 0) G=.ok (.int (if b then 1 else 0)) G:=by cases b<;>rfl
theorem Qi (G:DH):g8 (.int 1) (.int 0) G=.ok (.int 1) G:=rfl
theorem J8 (G:DH):g8 (.int 1) (.int 1) G=.ok (.int 2) G:=rfl
theorem Jb (c:Int) (ws:List Str) (h5:ws.length=5) (hw:∀ s∈ws,Zt s=Zh) (n0:Str) (hn:Zt n0=Zh) (sp:Int) (G:DH):∃ q:Qt,q.Ok∧fS [.int c,.con (ws.map .str),.con [.tup [.int 0,.str n0]],.int sp] G=.ok q.D G:=by
 have hm:=eB c 10 (by nofun) (by nofun);have hm2:=eB c 14 (by nofun) (by nofun);have hn1:=xg c 10;have z1:(1:Nat)≤Zm:=lz (by nofun);have z2:(2:Nat)≤Zm:=lz (by nofun);have z4:(4:Nat)≤Zm:=lz (by nofun);generalize mx c 10=v at hm hn1;generalize mx c 14=u at hm2;by_cases c1:v % 5=1
 ·refine ⟨⟨.one Zh,sp,1,1⟩,⟨by rw [Lk.Ok];trivial,by simp [Lk.sz],by simp [Lk.dep],by show (1:Int)≤40;nofun,by show (1:Int)≤12;nofun⟩,?_⟩;have eD:(Qt.mk (.one Zh) sp 1 1).D=.tup [.tup [.str "mark"],.int sp,.int 1,.int 1]:=rfl;unfold fS;refine aT ?_ (qS _);rw [eD];generalize D.con (ws.map .str)=wD;simp! [gG,hm,c1,bS,z1,z4]
 by_cases c0:v % 5=0
 ·refine ⟨⟨.one Zk,2 - 1,1,1⟩,⟨by rw [Lk.Ok];trivial,by simp [Lk.sz],by simp [Lk.dep],by show (1:Int)≤40;nofun,by show (1:Int)≤12;nofun⟩,?_⟩;have eD:(Qt.mk (.one Zk) (2 - 1) 1 1).D=.tup [.tup [.str "any"],.int (2 - 1),.int 1,.int 1]:=rfl;unfold fS;refine aT ?_ (qS _);rw [eD];generalize D.con (ws.map .str)=wD;have n1:((0:Int)==1)=Zk:=by decide
  simp! [gG,hm,c0,bS,n1,z1,z4,J8]
 ·have hu:0≤u % 5∧u % 5<5:=by nofun
  obtain ⟨x,hx,Qj⟩:=ki (xs:=ws.map D.str) hu.1 (by simp [h5];nofun);rw [ZL] at Qj;cases hg:ws[(u % 5).toNat]? with
  | none=>rw [hg] at Qj;cases Qj
  | some k=>
   rw [hg] at Qj;cases Qj;have hk:=hw k (Z0 hg);refine ⟨⟨.kind k,aag 0 (if (n0==k) then 1 else 0),1,1⟩,⟨by rw [Lk.Ok];exact hk,by simp [Lk.sz],by simp [Lk.dep],by show (1:Int)≤40;nofun,by show (1:Int)≤12;nofun⟩,?_⟩;have eD:(Qt.mk (.kind k) (aag 0 (if (n0==k) then 1 else 0)) 1 1).D=.tup [.tup [.str "kind",.str k],.int (aag 0 (if (n0==k) then 1 else 0)),.int 1,.int 1]:=rfl;unfold fS;refine aT ?_ (qS _);rw [eD];have n1:(v % 5==(1:Int))=Zk:=beq_eq_false_iff_ne.mpr c1;have T9:(v % 5==(0:Int))=Zk:=beq_eq_false_iff_ne.mpr c0;have hq:=λG=>uc Zk n0 k G hn hk;simp only [ad2] at hq;generalize (n0==k)=bb at hq;have sh:=λG=>T8 bb G;have hi:∀ G,iT [.bl bb] G=.ok (.int (if bb=Zh then (1:Int) else 0)) G:=λG=>rfl;generalize (if bb=Zh then (1:Int) else 0)=ib at sh hi ⊢;generalize ws.map D.str=wD at hx;have eT:fk [Zg (.int c),Zg (.con wD),Zg (.con [.tup [.int 0,.str n0]]),Zg (.int sp),Zg (.str k),Zg (.int 0),Zg (.int 0),Zg (.tup [.int 0,.str n0])] G=.nx [Zg (.int c),Zg (.con wD),Zg (.con [.tup [.int 0,.str n0]]),Zg (.int sp),Zg (.str k),Zg (.int (aag 0 ib)),Zg (.int 0),Zg (.tup [.int 0,.str n0])] G:=by unfold fk;simp! [BI,hq,hi,sh,T6]
   have eL:kg (gP 6 7) fk (iE (.con [.tup [.int 0,.str n0]])) 2 0 [Zg (.int c),Zg (.con wD),Zg (.con [.tup [.int 0,.str n0]]),Zg (.int sp),Zg (.str k),Zg (.int 0),Zl,Zl] G=.nx [Zg (.int c),Zg (.con wD),Zg (.con [.tup [.int 0,.str n0]]),Zg (.int sp),Zg (.str k),Zg (.int (aag 0 ib)),Zg (.int 0),Zg (.tup [.int 0,.str n0])] G:=by have hfe:=nQ (g:=gP 6 7) (body:=fk) (xs:=[.tup [.int 0,.str n0]]) (τ:=[Zg (.int c),Zg (.con wD),Zg (.con [.tup [.int 0,.str n0]]),Zg (.int sp),Zg (.str k),Zg (.int 0),Zl,Zl]) (G:=G);refine hfe.trans ?_;have e1:([D.tup [.int 0,.str n0]].mapIdx λi x=>D.tup [.int (i:Int),x])=[.tup [.int 0,.tup [.int 0,.str n0]]]:=rfl;rw [e1,bZ (τ1:=[Zg (.int c),Zg (.con wD),Zg (.con [.tup [.int 0,.str n0]]),Zg (.int sp),Zg (.str k),Zg (.int 0),Zg (.int 0),Zg (.tup [.int 0,.str n0])]) rfl,eT,gW,eY]
   unfold gG;simp! [hm,hm2,n1,T9,bS,hx,eL,z2,z4]
theorem BJ (x:Int) (G:DH):∃ y:Int,i8 [.con [.int 0],.int x] G=.ok (.int y) G:=by
 have key:∃ y:Int,di [Zg (.con [.int 0]),Zg (.int x),Zg (.int 0),Zg (.int 0),Zg (.int 0)] G=.nx [Zg (.con [.int 0]),Zg (.int x),Zg (.int y),Zg (.int 0),Zg (.int 0)] G:=by
  unfold di;by_cases h:aae 0 x=0
  ·refine ⟨0,?_⟩;simp! [xo,h,bS]
  ·have hb:(aae 0 x==0)=Zk:=beq_eq_false_iff_ne.mpr h;refine ⟨aag 0 1,?_⟩;simp! [xo,hb,bS,T6,Qi]
 obtain ⟨y,e⟩:=key;refine ⟨y,aT ?_ aM⟩;have eL:kg (gP 3 4) di (iE (.con [.int 0])) 2 0 [Zg (.con [.int 0]),Zg (.int x),Zg (.int 0),Zl,Zl] G=.nx [Zg (.con [.int 0]),Zg (.int x),Zg (.int y),Zg (.int 0),Zg (.int 0)] G:=by have hfe:=nQ (g:=gP 3 4) (body:=di) (xs:=[.int 0]) (τ:=[Zg (.con [.int 0]),Zg (.int x),Zg (.int 0),Zl,Zl]) (G:=G);refine hfe.trans ?_;have e1:([D.int 0].mapIdx λi x=>D.tup [.int (i:Int),x])=[.tup [.int 0,.int 0]]:=rfl;rw [e1,bZ (τ1:=[Zg (.con [.int 0]),Zg (.int x),Zg (.int 0),Zg (.int 0),Zg (.int 0)]) rfl,e,gW,eY]
 unfold i7;simp! [eL]
theorem J9 (G:DH):(aL [.int 1,.int 2,.int 3,.int 1,.int 2,.int 3,.int 2,.int 7] G).fw G=.ok (.con [.int 1,.int 2,.int 3,.int 1,.int 2,.int 3,.int 2,.int 7]) G:=bG (lz (n:=8) (by nofun)) rfl
theorem z5 (c:Int) (A B:DH) (xs:List D) (hx:1≤xs.length) (hz:xs.length≤1000):∃ m:Nat,1≤m∧m≤xs.length∧m≤7∧gH [.obj A.length,.int c] (A++.lst xs::B)=.ok (.int (m:Int)) (A++.lst xs::B):=by
 have hm:=eB c 15 (by nofun) (by nofun);generalize mx c 15=v at hm;have hv:0≤v % 8∧v % 8<8:=by nofun
 obtain ⟨d,e1,e2⟩:=ki (xs:=[D.int 1,.int 2,.int 3,.int 1,.int 2,.int 3,.int 2,.int 7]) hv.1 (by simpa using hv.2);have hd:∃ k:Nat,d=.int (k:Int)∧1≤k∧k≤7:=by
  have hmem:=Z0 e2;simp only [ZM,aeS,or_false] at hmem;rcases hmem with rfl | rfl | rfl | rfl | rfl | rfl | rfl | rfl
  ·exact ⟨1,rfl,by nofun,by nofun⟩
  ·exact ⟨2,rfl,by nofun,by nofun⟩
  ·exact ⟨3,rfl,by nofun,by nofun⟩
  ·exact ⟨1,rfl,by nofun,by nofun⟩
  ·exact ⟨2,rfl,by nofun,by nofun⟩
  ·exact ⟨3,rfl,by nofun,by nofun⟩
  ·exact ⟨2,rfl,by nofun,by nofun⟩
  ·exact ⟨7,rfl,by nofun,by nofun⟩
 obtain ⟨k,rfl,k1,k7⟩:=hd;have g0:∀ x Y,(A++x::Y)[A.length]?=Zg x:=λx Y=>qV A x Y;refine ⟨if k<xs.length then k else xs.length,by split<;>nofun,by split<;>nofun,by split<;>nofun,aT ?_ aM⟩;have M9:xs.length≤Zm:=lz (by nofun);by_cases hk:k<xs.length
 ·have hk':(k:Int)<(xs.length:Int):=by nofun
  simp! [iW,g0,M9,hm,aW,J9,e1,hk,hk']
 ·have hk':¬ (k:Int)<(xs.length:Int):=by nofun
  simp! [iW,g0,M9,hm,aW,J9,e1,hk,hk']
theorem Ua (xs:List D) (x:D):jb (xs++[x]) (-1)=Zg x:=by
 have e:xE (xs++[x]).length (-1)=Zg xs.length:=by unfold xE;rw [if_neg (by nofun),if_pos (by simp;nofun)];simp;nofun
 unfold jb;rw [e];simp
theorem Ub (xs:List D) (x y:D):jb (xs++[x,y]) (-2)=Zg x:=by
 have e:xE (xs++[x,y]).length (-2)=Zg xs.length:=by unfold xE;rw [if_neg (by nofun),if_pos (by simp;nofun)];simp;nofun
 unfold jb;rw [e];simp
theorem z6 (q:Qt) (G:DH):(aL [q.D] G).fw G=.ok (.con [q.D]) G:=bG (lz (n:=1) (by nofun)) (by simp [aO,aU,qS])
theorem qT (G:DH):(aL [] G).fw G=.ok (.con []) G:=bG (abe _) rfl
theorem Vt (τ:DS) (G:DH):vI (eC (.int 1)) τ G=.ok (.int (-1)) G:=rfl
theorem Rr (τ:DS) (G:DH):vI (eC (.int 2)) τ G=.ok (.int (-2)) G:=rfl
theorem BK (c ev:Int) (A B:DH) (oA:List Qt) (q1:Qt) (hq:∀ q∈oA++[q1],q.Ok) (hz:oA.length≤1000):∃ rs:List Qt,rs.length≤1∧(∀ q∈rs,q.Ok) ∧
  cN [.obj A.length,.int c,.int ev] (A++.lst ((oA++[q1]).map Qt.D)::B)=.ok (.con (rs.map Qt.D)) (A++.lst ((oA++[q1]).map Qt.D)::B):=by
 have hm:=eB c 11 (by nofun) (by nofun);have hn1:=xg c 11;generalize mx c 11=v at hm hn1;have TL:=hq q1 (by simp);have g0:∀ x Y,(A++x::Y)[A.length]?=Zg x:=λx Y=>qV A x Y;have z2:(2:Nat)≤Zm:=lz (by nofun);have z3:(3:Nat)≤Zm:=lz (by nofun);have z4:(4:Nat)≤Zm:=lz (by nofun);have em:(oA++[q1]).map Qt.D=oA.map Qt.D++[.tup [q1.l.D,.int q1.b,.int q1.s,.int q1.d]]:=by simp [Qt.D]
 have hat:=Ua (oA.map Qt.D) (.tup [q1.l.D,.int q1.b,.int q1.s,.int q1.d]);obtain ⟨w1,w2,w3,w4,w5⟩:=TL;have hlen:((oA++[q1]).map Qt.D).length=oA.length+1:=by simp
 have M9:oA.length+1≤Zm:=lz (by nofun);rw [← em] at hat;by_cases hA:v % 6=0∧q1.d<12∧q1.s<40
 ·obtain ⟨h1,h2,h3⟩:=hA;refine ⟨[⟨.not q1.l,aa2 ev q1.b,q1.s+1,q1.d+1⟩],by simp,λq h=>?_,?_⟩
  ·rw [ZI.mp h];refine ⟨by rw [Lk.Ok];exact w1,?_,?_,?_,?_⟩
   ·show ((Lk.not q1.l).sz:Int)≤q1.s+1;rw [Lk.sz];nofun
   ·show ((Lk.not q1.l).dep:Int)≤q1.d+1;rw [Lk.dep];nofun
   ·show q1.s+1≤40;nofun
   ·show q1.d+1≤12;nofun
  have f:=λG=>z6 ⟨.not q1.l,aa2 ev q1.b,q1.s+1,q1.d+1⟩ G;have eD:(Qt.mk (.not q1.l) (aa2 ev q1.b) (q1.s+1) (q1.d+1)).D=.tup [.tup [.str "not",q1.l.D],.int (aa2 ev q1.b),.int (q1.s+1),.int (q1.d+1)]:=by simp [Qt.D,Lk.D]
  unfold cN;refine aT ?_ (by rw [cR];exact aE qS);rw [Zy,ZU];rw [eD] at f ⊢;generalize (oA++[q1]).map Qt.D=xs at hat hlen;generalize q1.l.D=ld at f hat;have hx:=λG=>T7 ev q1.b G;generalize aa2 ev q1.b=bx at f hx;simp! [bu,hm,h1,g0,Vt,hat,bS,I8,M8,Ja,J7,h2,h3,hx,z2,z4,aW,f]
 ·have NG:∀ S:MS,(ay (aH 3 (ak cY (az 2 aC (aa (af 1) (aa (eC (.int 11)) (ah)))) (eC (.int 6)))) (ay (aH 4 (ak aQ (af 0) (vI (eC (.int 1))))) S)) [Zg (.obj A.length),Zg (.int c),Zg (.int ev),Zl,Zl,Zl,Zl,Zl] (A++.lst ((oA++[q1]).map Qt.D)::B)=S [Zg (.obj A.length),Zg (.int c),Zg (.int ev),Zg (.int (v % 6)),Zg (.tup [q1.l.D,.int q1.b,.int q1.s,.int q1.d]),Zl,Zl,Zl] (A++.lst ((oA++[q1]).map Qt.D)::B):=by intro S;generalize (oA++[q1]).map Qt.D=xs at hat hlen;generalize q1.l.D=ld at hat;simp! [hm,g0,Vt,hat]
  have SA:(iQ (eU (ak (fZ Zk) (af 3) (eC (.int 0)))) (iQ (eU (ak FQ (ak aQ (af 4) (eC (.int 3))) (eC (.int 12)))) (eU (ak FQ (ak aQ (af 4) (eC (.int 2))) (eC (.int 40)))))) [Zg (.obj A.length),Zg (.int c),Zg (.int ev),Zg (.int (v % 6)),Zg (.tup [q1.l.D,.int q1.b,.int q1.s,.int q1.d]),Zl,Zl,Zl] (A++.lst ((oA++[q1]).map Qt.D)::B)=.ok Zk (A++.lst ((oA++[q1]).map Qt.D)::B):=by
   generalize (oA++[q1]).map Qt.D=xs at hat hlen;generalize q1.l.D=ld at hat;by_cases h1:v % 6=0
   ·by_cases h2:q1.d<12
    ·have h3:¬ q1.s<40:=λh3=>hA ⟨h1,h2,h3⟩;simp! [h1,bS,Ja,J7,h2,h3]
    ·simp! [h1,bS,Ja,J7,h2]
   ·have hb:(v % 6==(0:Int))=Zk:=beq_eq_false_iff_ne.mpr h1;simp! [bS,hb]
  by_cases hB:v % 6<3∧1≤oA.length
  ·obtain ⟨E7,q2,rfl⟩:∃ (E7:List Qt) (q2:Qt),oA=E7++[q2]:=⟨oA.dropLast,oA.getLast (by intro h;rw [h] at hB;simp at hB),(List.dropLast_concat_getLast _).symm⟩;have ho2:=hq q2 (by simp);obtain ⟨u1,u2,u3,u4,u5⟩:=ho2;have Qk:(E7++[q2]++[q1]).map Qt.D=E7.map Qt.D++[.tup [q2.l.D,.int q2.b,.int q2.s,.int q2.d],.tup [q1.l.D,.int q1.b,.int q1.s,.int q1.d]]:=by simp [Qt.D]
   have mV:=Ub (E7.map Qt.D) (.tup [q2.l.D,.int q2.b,.int q2.s,.int q2.d]) (.tup [q1.l.D,.int q1.b,.int q1.s,.int q1.d]);rw [← Qk] at mV;have Rt:=hB.1;obtain ⟨n,Ka,hl1⟩:∃ n:Nat,((E7++[q2]++[q1]).map Qt.D).length=n∧(1:Int)<(n:Int):=⟨_,rfl,by simp;nofun⟩;obtain ⟨me,hp1,hp2,Ru⟩:∃ me:Int,q1.d≤me∧q2.d≤me∧(if q1.d<q2.d then q2.d else q1.d)=me:=⟨_,by split<;>nofun,by split<;>nofun,rfl⟩;have hok:∀ (e:Bool) (b:Int),q1.s+q2.s+1<41→me+1<13→(Qt.mk (.bin e q2.l q1.l) b (q1.s+q2.s+1) (me+1)).Ok:=λe b k1 k2=>by
    refine ⟨by rw [Lk.Ok];exact ⟨u1,w1⟩,?_,?_,?_,?_⟩
    ·show ((Lk.bin e q2.l q1.l).sz:Int)≤q1.s+q2.s+1;rw [Lk.sz];nofun
    ·show ((Lk.bin e q2.l q1.l).dep:Int)≤me+1;rw [Lk.dep];nofun
    ·show q1.s+q2.s+1≤40;nofun
    ·show me+1≤12;nofun
   have hD:∀ (e:Bool) (b:Int),(Qt.mk (.bin e q2.l q1.l) b (q1.s+q2.s+1) (me+1)).D=.tup [.tup [.str (gQ e),q2.l.D,q1.l.D],.int b,.int (q1.s+q2.s+1),.int (me+1)]:=λe b=>by simp [Qt.D,Lk.D]
   have bF:gQ Zk="both":=rfl;have bT:gQ Zh="either":=rfl;have Rv:n≤Zm:=lz (by simp at Ka hz;nofun);by_cases hC:q1.s+q2.s+1<41∧me+1<13
   ·obtain ⟨k1,k2⟩:=hC;by_cases hv1:v % 6=1
    ·refine ⟨[⟨.bin Zk q2.l q1.l,aae q2.b q1.b,q1.s+q2.s+1,me+1⟩],by simp,λq h=>by rw [ZI.mp h];exact hok _ _ k1 k2,?_⟩;have f:=λG=>z6 ⟨.bin Zk q2.l q1.l,aae q2.b q1.b,q1.s+q2.s+1,me+1⟩ G;unfold cN;refine aT ?_ (by rw [cR];exact aE qS);rw [eu];show (bu [Zg (.obj A.length),Zg (.int c),Zg (.int ev),Zl,Zl,Zl,Zl,Zl] _).fn=_;unfold bu;rw [NG,bH,mC,SA,yq,iU,cT,Zy,ZU];rw [hD,bF] at f ⊢;have hx:=λG=>xo q2.b q1.b G;generalize aae q2.b q1.b=bx at f hx;generalize (E7++[q2]++[q1]).map Qt.D=xs at mV Ka;generalize q1.l.D=l1 at f mV;generalize q2.l.D=l2 at f mV;simp! [dm,g0,Ka,Rv,Rt,hl1,Rr,mV,I8,M8,Ja,J7,Ru,k1,k2,hv1,bS,hx,z3,z4,aW,f]
    ·refine ⟨[⟨.bin Zh q2.l q1.l,aag q2.b q1.b,q1.s+q2.s+1,me+1⟩],by simp,λq h=>by rw [ZI.mp h];exact hok _ _ k1 k2,?_⟩;have f:=λG=>z6 ⟨.bin Zh q2.l q1.l,aag q2.b q1.b,q1.s+q2.s+1,me+1⟩ G;have Uc:(v % 6==(1:Int))=Zk:=beq_eq_false_iff_ne.mpr hv1;unfold cN;refine aT ?_ (by rw [cR];exact aE qS);rw [eu];show (bu [Zg (.obj A.length),Zg (.int c),Zg (.int ev),Zl,Zl,Zl,Zl,Zl] _).fn=_;unfold bu;rw [NG,bH,mC,SA,yq,iU,cT,Zy,ZU];rw [hD,bT] at f ⊢;have hx:=λG=>T6 q2.b q1.b G;generalize aag q2.b q1.b=bx at f hx;generalize (E7++[q2]++[q1]).map Qt.D=xs at mV Ka;generalize q1.l.D=l1 at f mV;generalize q2.l.D=l2 at f mV;simp! [dm,g0,Ka,Rv,Rt,hl1,Rr,mV,I8,M8,Ja,J7,Ru,k1,k2,Uc,bS,hx,z3,z4,aW,f]
   ·refine ⟨[],by simp,λq h=>by simp at h,?_⟩;unfold cN;refine aT ?_ rfl;rw [eu];show (bu [Zg (.obj A.length),Zg (.int c),Zg (.int ev),Zl,Zl,Zl,Zl,Zl] _).fn=_;unfold bu;rw [NG,bH,mC,SA,yq,iU,cT,ZU];generalize (E7++[q2]++[q1]).map Qt.D=xs at mV Ka;generalize q1.l.D=l1 at mV;generalize q2.l.D=l2 at mV;by_cases k1:q1.s+q2.s+1<41
    ·have k2:¬ me+1<13:=λk2=>hC ⟨k1,k2⟩;simp! [dm,g0,Ka,Rv,Rt,hl1,Rr,mV,I8,M8,Ja,J7,Ru,k1,k2,bS,aW,qT]
    ·simp! [dm,g0,Ka,Rv,Rt,hl1,Rr,mV,I8,M8,Ja,J7,Ru,k1,bS,aW,qT]
  ·refine ⟨[],by simp,λq h=>by simp at h,?_⟩;unfold cN;refine aT ?_ rfl;rw [eu];show (bu [Zg (.obj A.length),Zg (.int c),Zg (.int ev),Zl,Zl,Zl,Zl,Zl] _).fn=_;unfold bu;rw [NG,bH,mC,SA,yq,iU,cT,ZU];generalize (oA++[q1]).map Qt.D=xs at hlen;generalize q1.l.D=l1;by_cases k1:v % 6<3
   ·have k2:¬ (1:Int)<(oA.length:Int)+1:=λk2=>hB ⟨k1,by nofun⟩;simp! [g0,hlen,M9,k1,k2,aW,qT]
   ·simp! [k1,aW,qT]
theorem z7 (f:Nat→Int):∀ (j i:Nat),i≤j→f i≤f (argBest (λi j=>decide (f i > f j)) j)
 | 0,i,h=>by
  have:i=0:=by nofun
  subst this;exact Int.le_refl _
 | j+1,i,h=>by
  have ih:=z7 f j;rw [argBest];split
  ·rename_i hb;have hb:=of_decide_eq_true hb;by_cases hi:i=j+1
   ·subst hi;exact Int.le_refl _
   ·have:=ih i (by nofun);nofun
  ·rename_i hb;by_cases hi:i=j+1
   ·subst hi;have hb:=of_decide_eq_false (Bool.not_eq_true _▸hb);nofun
   ·exact ih i (by nofun)
theorem Jc (bs:List Int) (x:Int) (h:x∈bs):x≤DE bs:=by
 obtain ⟨i,hi⟩:=List.getElem?_of_mem h;have hlt:=(Zp.mp hi).1;have:=z7 (λi=>bs.getD i 0) (bs.length - 1) i (by nofun);have e:bs.getD i 0=x:=by rw [ab5,hi];rfl
 simp only [e] at this;exact this
theorem Na (qs:List Qt) (h:∀ q∈qs,q.Ok):(szl (qs.map (·.l)):Int)≤(qs.map (·.s)).sum:=by
 induction qs with
 | nil=>simp [szl]
 | cons q qs ih=>have h1:=ih λx hx=>h x (by simp [hx]);have h2:=(h q (by simp)).2.1;simp only [Zy,szl,List.sum_cons];nofun
def Wy.of:List (Str×Lk)→Wy
 | []=>.nil
 | (g,l)::ps=>.cons g l (Wy.of ps)
theorem Kc:∀ ps:List (Str×Lk),(Wy.of ps).Ds=ps.map xm
 | []=>rfl
 | (g,l)::ps=>by rw [Wy.of,Wy.Ds,Kc ps];rfl
theorem Kd:∀ ps:List (Str×Lk),(Wy.of ps).sz=szl (ps.map (·.2))
 | []=>rfl
 | (g,l)::ps=>by rw [Wy.of,Wy.sz,Kd ps,Zy,szl]
theorem E8 (n:Nat):∀ ps:List (Str×Lk),(∀ l∈ps.map (·.2),l.dep≤n)→(Wy.of ps).dep≤n
 | [],_=>by rw [Wy.of,Wy.dep];nofun
 | (g,l)::ps,h=>by have h1:=E8 n ps λx hx=>h x (by simp only [Zy,ZM];exact .inr hx);have h2:=h l (by simp);rw [Wy.of,Wy.dep];nofun
theorem of_ok:∀ ps:List (Str×Lk),(∀ p∈ps,Gd p.1∧p.2.Ok)→(Wy.of ps).Ok
 | [],_=>by rw [Wy.of,Wy.Ok];trivial
 | (g,l)::ps,h=>by have h2:=h (g,l) (by simp);rw [Wy.of,Wy.Ok];exact ⟨h2.1,h2.2,of_ok ps λx hx=>h x (by simp [hx])⟩
theorem Ql:∀ {ps:List (Str×Lk)},ps≠[]→Wy.of ps≠.nil
 | [],h=>absurd rfl h
 | (g,l)::ps,_=>by rw [Wy.of];exact Wy.noConfusion
def aP:List (Key×D):=[(Sum.inr "down",.con [.int 0]),(Sum.inr "deep",.con [.int 0]),(Sum.inr "later",.con [.int 0])]
theorem X0 (G:DH):(aL [.str "down",.str "deep",.str "later",.str "down"] G).fw G=.ok (.con [.str "down",.str "deep",.str "later",.str "down"]) G:=bG (lz (n:=4) (by nofun)) rfl
theorem Qm (v:Int):∃ g:Str,jb [D.str "down",.str "deep",.str "later",.str "down"] (v % 4)=Zg (.str g)∧Gd g∧nE aP (Sum.inr g)=Zg (.con [.int 0]):=by
 have hv:0≤v % 4∧v % 4<4:=by nofun
 obtain ⟨d,e1,e2⟩:=ki (xs:=[D.str "down",.str "deep",.str "later",.str "down"]) hv.1 (by simpa using hv.2);have hmem:=Z0 e2;simp only [ZM,aeS,or_false] at hmem;rcases hmem with rfl | rfl | rfl | rfl
 ·exact ⟨_,e1,.inl rfl,by rfl⟩
 ·exact ⟨_,e1,.inr (.inl rfl),by rfl⟩
 ·exact ⟨_,e1,.inr (.inr rfl),by rfl⟩
 ·exact ⟨_,e1,.inl rfl,by rfl⟩
theorem E9 (c ev good:Int) (j r:Nat) (hj:j≤100) (q:Qt) (ps:List (Str×Lk)) (hps:ps.length≤1000) (A:DH) (hr:A[r]?=Zg (.dct aP)) (a0 a4 a5 a6 a7 Jd:Option D):∃ (g:Str) (kD:Int),Gd g ∧
  fU [a0,Zg (.int c),Zg (.int ev),Zg (.obj r),a4,a5,a6,a7,Zg (.obj A.length),Zg (.int good),Zg (.int (j:Int)),Zg q.D,Jd] (A++[.lst (ps.map xm)]) =
   .nx [a0,Zg (.int c),Zg (.int ev),Zg (.obj r),a4,a5,a6,a7,Zg (.obj A.length),Zg (.int kD),Zg (.int (j:Int)),Zg q.D,Zg (.str g)] (A++[.lst ((ps++[(g,q.l)]).map xm)]):=by
 have hm:=eB c (50+(j:Int)) (by nofun) (by nofun);generalize mx c (50+(j:Int))=v at hm;obtain ⟨g,e1,e2,e3⟩:=Qm v;obtain ⟨y,e4⟩:=BJ (aae good q.b) (A++[.lst ((ps++[(g,q.l)]).map xm)]);refine ⟨g,y,e2,?_⟩;have hlt:=(Zp.mp hr).1;have hr':∀ Y:DH,(A++Y)[r]?=Zg (.dct aP):=λY=>by rw [ZC hlt];exact hr
 have g0:∀ x:DO,(A++[x])[A.length]?=Zg x:=λx=>qV A x [];have s0:∀ x z:DO,(A++[x]).set A.length z=A++[z]:=λx z=>zH A x z [];have z2:(2:Nat)≤Zm:=lz (by nofun);have hz:(ps.map xm).length<Zm:=Zx (by rw [ZG];nofun) (lz (n:=2000) (by nofun));have eP:(ps++[(g,q.l)]).map xm=ps.map xm++[.tup [.str g,q.l.D]]:=by simp [xm]
 rw [eP] at e4 ⊢;have hx:=λG=>xo good q.b G;generalize aae good q.b=bx at hx e4;generalize ps.map xm=pD at hz e4;have eQ:q.D=.tup [q.l.D,.int q.b,.int q.s,.int q.d]:=rfl;rw [eQ];generalize q.l.D=ld at e4;have S1:(aH 12 (ak aQ (eFn (ai aL (aa (eC (.str "down")) (aa (eC (.str "deep")) (aa (eC (.str "later")) (aa (eC (.str "down")) (ah))))))) (ak cY (az 2 aC (aa (af 1) (aa (ak aG (eC (.int 50)) (af 10)) (ah)))) (eC (.int 4))))) [a0,Zg (.int c),Zg (.int ev),Zg (.obj r),a4,a5,a6,a7,Zg (.obj A.length),Zg (.int good),Zg (.int (j:Int)),Zg (.tup [ld,.int q.b,.int q.s,.int q.d]),Jd] (A++[.lst pD])=.nx [a0,Zg (.int c),Zg (.int ev),Zg (.obj r),a4,a5,a6,a7,Zg (.obj A.length),Zg (.int good),Zg (.int (j:Int)),Zg (.tup [ld,.int q.b,.int q.s,.int q.d]),Zg (.str g)] (A++[.lst pD]):=by simp! [aW,X0,hm,e1]
 have S2:(iB (cJ "list" cK (af 8) (aa (ai bK (aa (af 12) (aa (ak aQ (af 11) (eC (.int 0))) (ah)))) (ah)))) [a0,Zg (.int c),Zg (.int ev),Zg (.obj r),a4,a5,a6,a7,Zg (.obj A.length),Zg (.int good),Zg (.int (j:Int)),Zg (.tup [ld,.int q.b,.int q.s,.int q.d]),Zg (.str g)] (A++[.lst pD])=.nx [a0,Zg (.int c),Zg (.int ev),Zg (.obj r),a4,a5,a6,a7,Zg (.obj A.length),Zg (.int good),Zg (.int (j:Int)),Zg (.tup [ld,.int q.b,.int q.s,.int q.d]),Zg (.str g)] (A++[.lst (pD++[.tup [.str g,ld]])]):=by simp! [g0,s0,I8,z2,hz]
 have e5:∀ τ G,τ[3]?=Zg (Zg (.obj r))→τ[12]?=Zg (Zg (.str g))→G[r]?=Zg (.dct aP)→Er (af 3) (af 12) τ G=.ok (.con [.int 0]) G:=by intro τ G t1 t2 t3;unfold Er;rw [aj,cS,t1];dsimp only;rw [aD,aj,cS,t2];dsimp only;rw [aD];unfold MU wI v7;dsimp only;rw [t3];dsimp only;rw [e3]
 have e6:=λ(a0:Option D)=>e5 [a0,Zg (.int c),Zg (.int ev),Zg (.obj r),a4,a5,a6,a7,Zg (.obj A.length),Zg (.int good),Zg (.int (j:Int)),Zg (.tup [ld,.int q.b,.int q.s,.int q.d]),Zg (.str g)] (A++[.lst (pD++[.tup [.str g,ld]])]) rfl rfl (hr' _);rw [fU,bH,S1,cT,bH,S2,cT];simp! [e6,M8,hx,e4]
theorem sX (c ev:Int) (r:Nat) (A:DH) (hr:A[r]?=Zg (.dct aP)) (a0 a4 a5 a6 a7:Option D):∀ (qs:List Qt) (j:Nat) (good:Int) (ps:List (Str×Lk)) (sY Rx Jd:Option D),j+qs.length≤100→ps.length+qs.length≤1000→∃ (ps':List (Str×Lk)) (kD:Int) (Ke Ry Rz:Option D),ps'.map (·.2)=qs.map (·.l)∧(∀ p∈ps',Gd p.1) ∧
  bY (gP 10 11) fU (eD j (qs.map Qt.D)) [a0,Zg (.int c),Zg (.int ev),Zg (.obj r),a4,a5,a6,a7,Zg (.obj A.length),Zg (.int good),sY,Rx,Jd] (A++[.lst (ps.map xm)]) =
   .nx [a0,Zg (.int c),Zg (.int ev),Zg (.obj r),a4,a5,a6,a7,Zg (.obj A.length),Zg (.int kD),Ke,Ry,Rz] (A++[.lst ((ps++ps').map xm)])
 | [],j,good,ps,sY,Rx,Jd,_,_=>⟨[],good,sY,Rx,Jd,rfl,by simp,by rw [aaA];exact eY⟩
 | q::qs,j,good,ps,sY,Rx,Jd,h1,h2=>by
  simp only [ZN] at h1 h2;obtain ⟨g,Qn,hg,e1⟩:=E9 c ev good j r (by nofun) q ps (by nofun) A hr a0 a4 a5 a6 a7 Jd;obtain ⟨ps',kD,Ke,Ry,Rz,h3,h4,e2⟩:=sX c ev r A hr a0 a4 a5 a6 a7 qs (j+1) Qn (ps++[(g,q.l)]) (Zg (.int (j:Int))) (Zg q.D) (Zg (.str g)) (by nofun) (by simp;nofun);refine ⟨(g,q.l)::ps',kD,Ke,Ry,Rz,by simp [h3],λp hp=>?_,?_⟩
  ·rcases ZM.mp hp with rfl | hp
   ·exact hg
   ·exact h4 p hp
  ·rw [Zy,zZ,bZ (τ1:=[a0,Zg (.int c),Zg (.int ev),Zg (.obj r),a4,a5,a6,a7,Zg (.obj A.length),Zg (.int good),Zg (.int (j:Int)),Zg q.D,Jd]) rfl,e1,gW,e2];simp
theorem BL {g:jB} {body:MS} {xs:List D} {τ:DS} {G:DH}:kg g body (lQ (.con xs) xs.length) (xs.length+1) 0 τ G=bY g body (xs.reverse.mapIdx λi x=>.tup [.int i,x]) τ G:=by
 have:=iF (g:=g) (body:=body) (xs:=xs.reverse.mapIdx λi x=>D.tup [.int i,x]) (vw:=lQ (.con xs) xs.length) (λG i h=>by
  simp only [abS,ab9] at h;simp only [lQ,aF,if_true,abD];by_cases hi:i=xs.length
  ·rw [if_pos hi,aaE (by simp;nofun)];rfl
  ·rw [if_neg hi,if_pos (by nofun),abW (by nofun)]) (xs.length+1) 0 τ G (by simp) (by simp)
 simpa using this
theorem Fb {ml:DS→M (List D)} {τ:DS} {G:DH}:uw ml τ G=(ml τ G).bd λds=>match ds with
 | [d]=>λG=>match aF G d with
  | some (.lst xs)=>.ok (xs.length+1,lQ d xs.length) G
  | _=>.stuck
 | _=>M.stop:=aj
theorem Fc (k:Int) (f:Qt→Int) (hf:∀ q G,aQ q.D (.int k) G=.ok (.int (f q)) G) (zs:List Qt) (hz:zs.length≤1000) (τ:DS) (G:DH) (ht:τ[5]?=Zg (Zg (.con (zs.map Qt.D)))) :
  eFn (jT oN [] (af 5) (dY) (ak aQ (af 0) (eC (.int k)))) τ G=.ok (.con ((zs.map f).map .int)) G:=by
 have hc:=dI (gO:=oN) (ks:=[]) (tt:=dY) (te:=ak aQ (af 0) (eC (.int k))) (own:=λq:Qt=>[q.D]) (dat:=Qt.D) (f:=λq=>D.int (f q)) (c:=λ_=>Zh) (G:=G) (τ:=τ) zs [] (by simp;nofun) (λ_ _=>rfl) (λ_ _ _=>rfl) (λq _ acc=>by have e:∀ r:DS,(([q.D]:List D).map Zg++r)=Zg q.D::r:=λr=>rfl;rw [e];generalize mask [] τ=r;have:=hf q;generalize q.D=qD at this;simp only [dB,cS,g7,ZP,aD,aj,this])
 rw [aam,acd.mpr (λ_ _=>rfl)] at hc;have hcl:aR (zs.map λq=>D.int (f q))=Zh:=aE λ_=>aM;have em:(zs.map f).map D.int=zs.map λq=>D.int (f q):=by simp
 rw [em,aW,HG,cS,ht];dsimp only;rw [aD];dsimp only;rw [hc];exact jF hcl
theorem Nb (xs:List D) (k:Nat) (h:k≤xs.length):cutD xs (Zg (k:Int)) Zl=xs.drop k:=by unfold cutD;rw [HT.zg,HT.vh,Nat.min_eq_left h,List.take_of_length_le (by simp)]
theorem Nc (c ev:Int) (A:DH) (r:Nat) (hr:A[r]?=Zg (.dct aP)) (qs:List Qt) (hq:∀ q∈qs,q.Ok) (h1:1≤qs.length) (hz:qs.length≤500):∃ rs:List Qt,rs.length≤1∧(∀ q∈rs,q.Ok) ∧
  iH [.obj A.length,.int c,.int ev,.obj r] (A++[.lst (qs.map Qt.D)])=.ok (.con (rs.map Qt.D)) (A++[.lst (qs.map Qt.D)]):=by
 obtain ⟨m,m1,m2,m7,em⟩:=z5 c A [] (qs.map Qt.D) (by simpa using h1) (by rw [ZG];nofun);rw [ZG] at m2;have g0:∀ x Y,(A++x::Y)[A.length]?=Zg x:=λx Y=>qV A x Y;have z8:(qs.map Qt.D).length≤Zm:=lz (by rw [ZG];nofun);have z2:(2:Nat)≤Zm:=lz (by nofun);have z4:(4:Nat)≤Zm:=lz (by nofun);obtain ⟨zs,hzs⟩:∃ zs:List Qt,zs=qs.drop (qs.length - m):=⟨_,rfl⟩;have NH:zs.length=m:=by rw [hzs,acE];nofun
 have Qo:∀ q∈zs,q.Ok:=λq h=>hq q (ad3 (hzs▸h));have ug:cutD (qs.map Qt.D) (Zg (((qs.map Qt.D).length:Int) - (m:Int))) Zl=zs.map Qt.D:=by
  have e:((qs.map Qt.D).length:Int) - (m:Int)=((qs.length - m:Nat):Int):=by rw [ZG];nofun
  rw [e,Nb _ _ (by rw [ZG];nofun),hzs,List.map_drop]
 have fz:∀ G,(aL (zs.map Qt.D) G).fw G=.ok (.con (zs.map Qt.D)) G:=λG=>bG (lz (by rw [ZG];nofun)) (aE qS);have hsum:=λτ G h=>Fc 2 (·.s) (λq G=>rfl) zs (by nofun) τ G h;have Ud:=λτ G h=>Fc 3 (·.d) (λq G=>rfl) zs (by nofun) τ G h;have Qp:=gu (zs.map (·.s));have imax:=gu (zs.map (·.d));have hm0:0<(zs.map (·.d)).length:=by rw [ZG];nofun
 have S1:(az 2 gH (aa (af 0) (aa (af 1) (ah)))) [Zg (.obj A.length),Zg (.int c),Zg (.int ev),Zg (.obj r),Zl,Zl,Zl,Zl,Zl,Zl,Zl,Zl,Zl] (A++[.lst (qs.map Qt.D)])=.ok (.int (m:Int)) (A++[.lst (qs.map Qt.D)]):=by generalize qs.map Qt.D=xs at em;simp! [em]
 have S2:(eFn (nj (af 0) (cz (ak l8 (ai cZ (aa (af 0) (ah))) (af 4))) (f6))) [Zg (.obj A.length),Zg (.int c),Zg (.int ev),Zg (.obj r),Zg (.int (m:Int)),Zl,Zl,Zl,Zl,Zl,Zl,Zl,Zl] (A++[.lst (qs.map Qt.D)])=.ok (.con (zs.map Qt.D)) (A++[.lst (qs.map Qt.D)]):=by generalize qs.map Qt.D=xs at ug z8;generalize zs.map Qt.D=zD at ug fz;simp! [aW,g0,z8,zu,ug,fz]
 have S3:(ak aG (eC (.int 1)) (ai iD (aa (eFn (jT oN [] (af 5) (dY) (ak aQ (af 0) (eC (.int 2))))) (ah)))) [Zg (.obj A.length),Zg (.int c),Zg (.int ev),Zg (.obj r),Zg (.int (m:Int)),Zg (.con (zs.map Qt.D)),Zl,Zl,Zl,Zl,Zl,Zl,Zl] (A++[.lst (qs.map Qt.D)])=.ok (.int (1+(zs.map (·.s)).sum)) (A++[.lst (qs.map Qt.D)]):=by have e:=hsum [Zg (.obj A.length),Zg (.int c),Zg (.int ev),Zg (.obj r),Zg (.int (m:Int)),Zg (.con (zs.map Qt.D)),Zl,Zl,Zl,Zl,Zl,Zl,Zl] (A++[.lst (qs.map Qt.D)]) rfl;generalize eFn (jT oN [] (af 5) (dY) (ak aQ (af 0) (eC (.int 2))))=S at e;generalize qs.map Qt.D=xs at e;generalize zs.map Qt.D=zD at e;generalize zs.map (·.s)=bs at e Qp;simp only [dB,g7,aD,aj,cV,aS,e,bC,cU,iD,aF,Qp,aG]
 have S4:(ak aG (eC (.int 1)) (ai sr (aa (eFn (jT oN [] (af 5) (dY) (ak aQ (af 0) (eC (.int 3))))) (ah)))) [Zg (.obj A.length),Zg (.int c),Zg (.int ev),Zg (.obj r),Zg (.int (m:Int)),Zg (.con (zs.map Qt.D)),Zg (.int (1+(zs.map (·.s)).sum)),Zl,Zl,Zl,Zl,Zl,Zl] (A++[.lst (qs.map Qt.D)])=.ok (.int (1+DE (zs.map (·.d)))) (A++[.lst (qs.map Qt.D)]):=by have e:=Ud [Zg (.obj A.length),Zg (.int c),Zg (.int ev),Zg (.obj r),Zg (.int (m:Int)),Zg (.con (zs.map Qt.D)),Zg (.int (1+(zs.map (·.s)).sum)),Zl,Zl,Zl,Zl,Zl,Zl] (A++[.lst (qs.map Qt.D)]) rfl;generalize eFn (jT oN [] (af 5) (dY) (ak aQ (af 0) (eC (.int 3))))=S at e;generalize qs.map Qt.D=xs at e;generalize zs.map Qt.D=zD at e;generalize zs.map (·.d)=bs at e imax hm0;simp only [dB,g7,aD,aj,cV,aS,e,bC,cU,sr,aF,imax,if_pos hm0,aG]
 have hsz:=Na zs Qo;have hge:∀ q∈zs,q.d≤DE (zs.map (·.d)):=λq h=>Jc _ _ (abE.mpr ⟨q,h,rfl⟩);obtain ⟨sm,X3⟩:∃ sm:Int,sm=(zs.map (·.s)).sum:=⟨_,rfl⟩;obtain ⟨y9,X4⟩:∃ y9:Int,y9=DE (zs.map (·.d)):=⟨_,rfl⟩;rw [← X3] at S3 S4 hsz;rw [← X4] at S4 hge;by_cases hbig:1+sm > 40∨1+y9 > 12
 ·refine ⟨[],by simp,λq h=>by simp at h,?_⟩;unfold iH;refine aT ?_ rfl;rw [eu];show (gr [Zg (.obj A.length),Zg (.int c),Zg (.int ev),Zg (.obj r),Zl,Zl,Zl,Zl,Zl,Zl,Zl,Zl,Zl] _).fn=_;rw [gr,jP S1,Qd,jP S2,Nz,jP S3,Rp,jP S4,Vm,ZU];generalize qs.map Qt.D=xs;generalize zs.map Qt.D=zD;by_cases k1:(40:Int)<1+sm
  ·simp! [k1,aW,qT]
  ·have k2:(12:Int)<1+y9:=by nofun
   simp! [k1,k2,aW,qT]
 ·have k1:¬ (40:Int)<1+sm:=by nofun
  have k2:¬ (12:Int)<1+y9:=by nofun
  have hr1:(A++[DO.lst (qs.map Qt.D)])[r]?=Zg (.dct aP):=by rw [ZC (Zp.mp hr).1];exact hr
  obtain ⟨ps,kD,Ke,Ry,Rz,hpl,X5,el⟩:=sX c ev r (A++[.lst (qs.map Qt.D)]) hr1 (Zg (.obj A.length)) (Zg (.int (m:Int))) (Zg (.con (zs.map Qt.D))) (Zg (.int (1+sm))) (Zg (.int (1+y9))) zs.reverse 0 ev [] Zl Zl Zl (by simp;nofun) (by simp;nofun);have IW:ps.reverse.map (·.2)=zs.map (·.l):=by rw [aaX,hpl,aaX,List.reverse_reverse]
  have Qq:ps.length=zs.length:=by have:=congrArg acG hpl;simpa using this
  have Ue:∃ q,q∈zs:=by
   cases zs with
   | nil=>simp at NH;nofun
   | cons q zs=>exact ⟨q,by simp⟩
  have hok:(Qt.mk (.way (Wy.of ps.reverse)) kD (1+sm) (1+y9)).Ok:=by
   have hall:∀ l∈ps.reverse.map (·.2),l.Ok∧(l.dep:Int)≤y9:=λl hl=>by rw [IW] at hl;obtain ⟨q,hm,rfl⟩:=abE.mp hl;have:=Qo q hm;have:=hge q hm;exact ⟨(Qo q hm).1,by have:=(Qo q hm).2.2.1;nofun⟩
   refine ⟨by rw [Lk.Ok];exact ⟨Ql (by intro h;rw [adx] at h;rw [h,aaJ] at Qq;nofun),of_ok _ λp hp=>⟨X5 p (adv.mp hp),(hall p.2 (abE.mpr ⟨p,hp,rfl⟩)).1⟩⟩,?_,?_,?_,?_⟩
   ·show ((Lk.way (Wy.of ps.reverse)).sz:Int)≤1+sm;rw [Lk.sz,Kd,IW];nofun
   ·show ((Lk.way (Wy.of ps.reverse)).dep:Int)≤1+y9;have hd:=E8 y9.toNat ps.reverse λl hl=>by have:=(hall l hl).2;nofun
    obtain ⟨q,Vu⟩:=Ue;have h5:=(Qo q Vu).2.2.1;have h6:=hge q Vu;rw [Lk.dep];nofun
   ·show 1+sm≤40;nofun
   ·show 1+y9≤12;nofun
  refine ⟨[⟨.way (Wy.of ps.reverse),kD,1+sm,1+y9⟩],by simp,λq h=>by rw [ZI.mp h];exact hok,?_⟩;have f:=λG=>z6 ⟨.way (Wy.of ps.reverse),kD,1+sm,1+y9⟩ G;have eD:(Qt.mk (.way (Wy.of ps.reverse)) kD (1+sm) (1+y9)).D=.tup [.tup [.str "way",.tup (ps.map xm).reverse],.int kD,.int (1+sm),.int (1+y9)]:=by rw [Qt.D,Lk.D,Kc,aaX]
  have ee:K43.eD 0 (zs.reverse.map Qt.D)=(zs.map Qt.D).reverse.mapIdx λi x=>D.tup [.int (i:Int),x]:=by rw [aaX];rfl
  rw [ee,ZU,aam] at el;have hfe:=λτ G=>BL (g:=gP 10 11) (body:=fU) (xs:=zs.map Qt.D) (τ:=τ) (G:=G);have Vv:(ps.map xm).length≤Zm:=lz (by rw [ZG];nofun);unfold iH;refine gz (R:=[.lst (ps.map xm)]) ?_ (by rw [cR];exact aE qS);rw [eu];show (gr [Zg (.obj A.length),Zg (.int c),Zg (.int ev),Zg (.obj r),Zl,Zl,Zl,Zl,Zl,Zl,Zl,Zl,Zl] _).fn=_;rw [gr,jP S1,Qd,jP S2,Nz,jP S3,Rp,jP S4,Vm,Zy,ZU];rw [eD] at f ⊢;have gp:∀ x,((A++[DO.lst (qs.map Qt.D)])++[x])[(A++[DO.lst (qs.map Qt.D)]).length]?=Zg x:=λx=>qV _ x [];have n0:∀ G,aL [] G=.ok (.obj G.length) (G++[.lst []]):=λG=>by simp [aL]
  generalize (A++[DO.lst (qs.map Qt.D)])=G0 at el gp;generalize zs.map Qt.D=zD at el hfe;generalize ((zD.reverse).mapIdx λi x=>D.tup [.int (i:Int),x])=lst at el hfe;generalize ps.map xm=pD at el f Vv;simp only [bH,mC,Mu,sy,dB,cS,g7,ZQ,ZP,aD,aj,cF,nB,iU,cT,i0,cV,bC,n0,mD,aai,aaj,if_true,decide_eq_false k1,decide_eq_false k2,yq,DL,cU];simp! [k1,k2,Fb,hfe,el,n0,aW,wj,gp,Vv,z2,z4,f]
theorem Qs (l:Lk):∃ (xs:List D) (s:Str),l.D=.tup xs∧jb xs 0=Zg (.str s)∧Zt s=Zh:=by
 cases l with
 | one m=>exact ⟨_,_,by rw [Lk.D],rfl,eE m⟩
 | kind s=>exact ⟨_,_,by rw [Lk.D],rfl,bU⟩
 | mj j=>exact ⟨_,_,by rw [Lk.D],rfl,bQ⟩
 | not l=>exact ⟨_,_,by rw [Lk.D],rfl,bJ⟩
 | bin e l r=>exact ⟨_,_,by rw [Lk.D],rfl,cu e⟩
 | way w=>exact ⟨_,_,by rw [Lk.D],rfl,gR⟩
theorem Fd {α:Type} (f:α→D) (qs:List α) (lo hi:Option Int):∃ ys:List α,cutD (qs.map f) lo hi=ys.map f∧(∀ q∈ys,q∈qs)∧ys.length≤qs.length:=by unfold cutD;rw [ZG];generalize HT.fC qs.length 0 lo=a;generalize HT.fC qs.length qs.length hi - a=b;refine ⟨(qs.drop a).take b,by rw [List.map_take,List.map_drop],λq h=>ad3 (List.mem_of_mem_take h),?_⟩;rw [abH,acE];nofun
theorem Je (ys:List Qt) (h:ys.length≤1000) (G:DH):(aL (ys.map Qt.D) G).fw G=.ok (.con (ys.map Qt.D)) G:=bG (lz (by rw [ZG];nofun)) (aE qS)
theorem Fe (ws:List Str) (n0:Str) (r:Nat) (ev c:Int) (A:DH) (hr:A[r]?=Zg (.dct aP)) (qs:List Qt) (hq:∀ q∈qs,q.Ok) (hz:qs.length≤400) (c0 a8 a9:Option D):∃ (rs:List Qt) (k:Int),rs.length≤1∧(∀ q∈rs,q.Ok) ∧
  (ay (aH 8 (eFn (ai aL (ah)))) (ay (aH 9 (eC (.int 1))) (gJ (iQ (eU (ak vC (ai cZ (aa (af 6) (ah))) (eC (.int 0)))) (eU (ak (fZ Zk) (ak cY (az 2 aC (aa (af 7) (aa (eC (.int 19)) (ah)))) (eC (.int 3))) (eC (.int 0))))) (ie) (gJ (eU (ak vC (ai cZ (aa (af 6) (ah))) (eC (.int 0)))) (gh) (aZ))))) [c0,Zg (.con (ws.map .str)),Zg (.con [.tup [.int 0,.str n0]]),Zg (.obj r),Zg (.int 1),Zg (.int ev),Zg (.obj A.length),Zg (.int c),a8,a9] (A++[.lst (qs.map Qt.D)])=.nx [c0,Zg (.con (ws.map .str)),Zg (.con [.tup [.int 0,.str n0]]),Zg (.obj r),Zg (.int 1),Zg (.int ev),Zg (.obj A.length),Zg (.int c),Zg (.con (rs.map Qt.D)),Zg (.int k)] (A++[.lst (qs.map Qt.D)]):=by
 have hm:=eB c 19 (by nofun) (by nofun);generalize mx c 19=v at hm;have g0:∀ x Y,(A++x::Y)[A.length]?=Zg x:=λx Y=>qV A x Y;have z8:(qs.map Qt.D).length≤Zm:=lz (by rw [ZG];nofun);have NG:∀ S:MS,(ay (aH 8 (eFn (ai aL (ah)))) (ay (aH 9 (eC (.int 1))) S)) [c0,Zg (.con (ws.map .str)),Zg (.con [.tup [.int 0,.str n0]]),Zg (.obj r),Zg (.int 1),Zg (.int ev),Zg (.obj A.length),Zg (.int c),a8,a9] (A++[.lst (qs.map Qt.D)])=S [c0,Zg (.con (ws.map .str)),Zg (.con [.tup [.int 0,.str n0]]),Zg (.obj r),Zg (.int 1),Zg (.int ev),Zg (.obj A.length),Zg (.int c),Zg (.con []),Zg (.int 1)] (A++[.lst (qs.map Qt.D)]):=by intro S;generalize qs.map Qt.D=xs;generalize D.con (ws.map .str)=wD;simp! [aW,qT]
 rw [NG];rcases List.eq_nil_or_concat qs with rfl | ⟨oA,q1,RA⟩
 ·refine ⟨[],1,by simp,by simp,?_⟩;rw [ZU];generalize D.con (ws.map .str)=wD;simp! [g0]
 ·have hpos:0<(qs.map Qt.D).length:=by rw [RA];simp
  by_cases h3:v % 3=0
  ·obtain ⟨rs,l1,o1,e1⟩:=Nc c ev A r hr qs hq (by rw [RA];simp) (by nofun);obtain ⟨m,_,_,_,e2⟩:=z5 c A [] (qs.map Qt.D) (by rw [RA];simp) (by rw [ZG];nofun);refine ⟨rs,(m:Int),l1,o1,?_⟩;generalize qs.map Qt.D=xs at e1 e2 z8 hpos;generalize rs.map Qt.D=rD at e1;generalize D.con (ws.map .str)=wD;unfold ie;simp! [g0,z8,hpos,hm,h3,bS,e1,e2]
  ·have Vw:(v % 3==(0:Int))=Zk:=beq_eq_false_iff_ne.mpr h3;have Nd:qs=oA++[q1]:=by rw [RA];simp
   obtain ⟨rs,l1,o1,e1⟩:=BK c ev A [] oA q1 (by rw [← Nd];exact hq) (by rw [Nd] at hz;simp at hz;nofun);rw [← Nd] at e1
   match rs,l1,o1,e1 with
   | [],_,_,e1=>refine ⟨[],2 - 0,by simp,by simp,?_⟩;rw [ZU] at e1 ⊢;generalize qs.map Qt.D=xs at e1 z8 hpos;generalize D.con (ws.map .str)=wD;unfold gh;simp! [g0,z8,hpos,hm,Vw,bS,e1,iT]
   | [q],_,o1,e1=>
    obtain ⟨xl,s,hl1,hl2,hl3⟩:=Qs q.l;refine ⟨[q],2 - (if (s==("not":Str)) then 1 else 0),by simp,o1,?_⟩;have hq2:=λG=>uc Zk s "not" G hl3 bJ;simp only [ad2] at hq2;generalize (s==("not":Str))=bb at hq2;have eQ:q.D=.tup [.tup xl,.int q.b,.int q.s,.int q.d]:=by rw [Qt.D,hl1]
    rw [Zy,ZU,eQ] at e1 ⊢;generalize qs.map Qt.D=xs at e1 z8 hpos;generalize D.con (ws.map .str)=wD;have hi:∀ G,iT [.bl bb] G=.ok (.int (if bb=Zh then (1:Int) else 0)) G:=λG=>rfl;generalize (if bb=Zh then (1:Int) else 0)=ib at hi ⊢;unfold gh;simp! [g0,z8,hpos,hm,Vw,bS,e1,J5,I8,hl2,hq2,hi]
   | _::_::_,l1,_,_=>simp at l1
theorem BN (ws:List Str) (h5:ws.length=5) (hw:∀ s∈ws,Zt s=Zh) (n0:Str) (hn:Zt n0=Zh) (r:Nat) (ev c:Int) (A:DH) (hr:A[r]?=Zg (.dct aP)) (qs:List Qt) (hq:∀ q∈qs,q.Ok) (hz:qs.length≤400) (c0 a8 a9:Option D):∃ (Jf:List Qt) (W:DH) (b8 b9:Option D),1≤Jf.length∧Jf.length≤qs.length+1∧(∀ q∈Jf,q.Ok) ∧
  fm [c0,Zg (.con (ws.map .str)),Zg (.con [.tup [.int 0,.str n0]]),Zg (.obj r),Zg (.int 1),Zg (.int ev),Zg (.obj A.length),Zg (.int c),a8,a9] (A++[.lst (qs.map Qt.D)])=.nx [c0,Zg (.con (ws.map .str)),Zg (.con [.tup [.int 0,.str n0]]),Zg (.obj r),Zg (.int 1),Zg (.int ev),Zg (.obj (A++W).length),Zg (.int c),b8,b9] ((A++W)++[.lst (Jf.map Qt.D)]):=by
 obtain ⟨rs,k,l1,o1,e1⟩:=Fe ws n0 r ev c A hr qs hq hz c0 a8 a9;have g0:∀ x:DO,(A++[x])[A.length]?=Zg x:=λx=>qV A x [];have s0:∀ x z:DO,(A++[x]).set A.length z=A++[z]:=λx z=>zH A x z [];have z8:(qs.map Qt.D).length<Zm:=Zx (by rw [ZG];nofun) (lz (n:=1000) (by nofun));have split:∀ (X Y S:MS) (τ:DS) (G:DH),ay X (ay Y S) τ G=ay X (ay Y S) τ G:=λ_ _ _ _ _=>rfl;have eL:∀ (S0 S1 S2 S3:MS) (τ:DS) (G:DH),ay S0 (ay S1 (ay S2 S3)) τ G=ay (ay S0 (ay S1 S2)) S3 τ G:=λS0 S1 S2 S3 τ G=>by simp only [bH];cases S0 τ G<;>simp only [cT,vW,JI,JJ,JK,JL,bH];rename_i τ1 G1;cases S1 τ1 G1<;>simp only [cT,vW,JI,JJ,JK,JL,bH]
 match rs,l1,o1,e1 with
 | [],_,_,e1=>
  obtain ⟨q,X6,eq⟩:=Jb c ws h5 hw n0 hn 1 (A++[.lst (qs.map Qt.D)]);refine ⟨qs++[q],[],Zg (.con []),Zg (.int k),by simp,by simp,λx hx=>?_,?_⟩
  ·rcases aaU.mp hx with h | h
   ·exact hq x h
   ·rw [ZI.mp h];exact X6
  rw [fm,eL,bH,e1,cT,aaA,ZU];have em:(qs++[q]).map Qt.D=qs.map Qt.D++[q.D]:=by simp
  rw [em];generalize qs.map Qt.D=xs at eq z8;generalize q.D=qD at eq;generalize D.con (ws.map .str)=wD at eq;simp! [g0,s0,z8,eq]
 | [q],_,o1,e1=>
  obtain ⟨ys,c1,c2,c3⟩:=Fd Qt.D qs Zl (Zg (((qs.map Qt.D).length:Int) - k));refine ⟨ys++[q],[.lst (qs.map Qt.D)],Zg (.con [q.D]),Zg (.int k),by simp,by simp;nofun,λx hx=>?_,?_⟩
  ·rcases aaU.mp hx with h | h
   ·exact hq x (c2 x h)
   ·exact o1 x h
  rw [fm,eL,bH,e1,cT,Zy,ZU];have em:(ys++[q]).map Qt.D=ys.map Qt.D++[q.D]:=by simp
  have f:=λG=>Je ys (by nofun) G;have Vx:(ys.map Qt.D).length+1≤Zm:=lz (by rw [ZG];nofun);have NH:(qs.map Qt.D).length≤Zm:=acU z8;rw [em];generalize qs.map Qt.D=xs at c1 z8 NH;generalize ys.map Qt.D=yD at c1 f Vx;generalize q.D=qD;generalize D.con (ws.map .str)=wD;have n2:aL (yD++[qD]) (A++[.lst xs])=.ok (.obj (A.length+1)) (A++[.lst xs,.lst (yD++[qD])]):=by simp [aL,Vx]
  simp! [g0,NH,aW,zu,c1,f,kX,n2]
 | _::_::_,l1,_,_=>simp at l1
theorem sZ (ws:List Str) (h5:ws.length=5) (hw:∀ s∈ws,Zt s=Zh) (n0:Str) (hn:Zt n0=Zh) (r:Nat) (ev:Int) (c0:Option D) (G:DH) (hr:G[r]?=Zg (.dct aP)):∀ (cs:List Int) (Z:DH) (qs:List Qt) (a7 a8 a9:Option D),(∀ q∈qs,q.Ok)→qs.length+cs.length≤300→∃ (Jf:List Qt) (Z':DH) (b7 b8 b9:Option D),(1≤qs.length∨1≤cs.length→1≤Jf.length)∧Jf.length≤300∧(∀ q∈Jf,q.Ok) ∧
  bY (gN 7) fm (cs.map .int) [c0,Zg (.con (ws.map .str)),Zg (.con [.tup [.int 0,.str n0]]),Zg (.obj r),Zg (.int 1),Zg (.int ev),Zg (.obj (G++Z).length),a7,a8,a9] ((G++Z)++[.lst (qs.map Qt.D)]) =
   .nx [c0,Zg (.con (ws.map .str)),Zg (.con [.tup [.int 0,.str n0]]),Zg (.obj r),Zg (.int 1),Zg (.int ev),Zg (.obj (G++Z').length),b7,b8,b9] ((G++Z')++[.lst (Jf.map Qt.D)])
 | [],Z,qs,a7,a8,a9,hq,hl=>⟨qs,Z,a7,a8,a9,λh=>by simp at h;nofun,by nofun,hq,by rw [ZU];exact eY⟩
 | c::cs,Z,qs,a7,a8,a9,hq,hl=>by
  simp only [ZN] at hl;have hr':(G++Z)[r]?=Zg (.dct aP):=by rw [ZC (Zp.mp hr).1];exact hr
  obtain ⟨E7,W,b8,b9,l0,l1,o1,e1⟩:=BN ws h5 hw n0 hn r ev c (G++Z) hr' qs hq (by nofun) c0 a8 a9;obtain ⟨X7,Z',d7,d8,d9,l3,l2,o2,e2⟩:=sZ ws h5 hw n0 hn r ev c0 G hr cs (Z++W) E7 (Zg (.int c)) b8 b9 o1 (by nofun);refine ⟨X7,Z',d7,d8,d9,λ_=>l3 (.inl l0),l2,o2,?_⟩;rw [Zy,bZ (τ1:=[c0,Zg (.con (ws.map .str)),Zg (.con [.tup [.int 0,.str n0]]),Zg (.obj r),Zg (.int 1),Zg (.int ev),Zg (.obj (G++Z).length),Zg (.int c),a8,a9]) rfl,e1,gW];rw [← aaQ] at e2;exact e2
theorem Jg (cs:List Int) (hc1:1≤cs.length) (hc:cs.length≤200) (ws:List Str) (h5:ws.length=5) (hw:∀ s∈ws,Zt s=Zh) (n0:Str) (hn:Zt n0=Zh) (r:Nat) (G:DH) (hr:G[r]?=Zg (.dct aP)):∃ qs:List Qt,1≤qs.length∧qs.length≤300∧(∀ q∈qs,q.Ok) ∧
  iX [.con (cs.map .int),.con (ws.map .str),.con [.tup [.int 0,.str n0]],.obj r,.int 1] G=.ok (.con (qs.map Qt.D)) G:=by
 obtain ⟨qs,Z',b7,b8,b9,l0,l1,o1,e1⟩:=sZ ws h5 hw n0 hn r 1 (Zg (.con (cs.map .int))) G hr cs [] [] Zl Zl Zl (by simp) (by simp;nofun);refine ⟨qs,l0 (.inr hc1),l1,o1,?_⟩;rw [aaA,ZU] at e1;have u6:(Out.ok (D.obj (G++Z').length) ((G++Z')++[.lst (qs.map Qt.D)])).fz=.ok (.con (qs.map Qt.D)) ((G++Z')++[.dead]):=zM;unfold iX;refine gz (R:=Z'++[.dead]) ?_ (by rw [cR];exact aE qS);rw [← aaQ];have z1:(1:Nat)≤Zm:=lz (by nofun);have T9:aL [] G=.ok (.obj G.length) (G++[.lst []]):=by simp [aL]
 generalize qs.map Qt.D=qD at e1 u6;generalize D.con (ws.map .str)=wD at e1;generalize cs.map D.int=cD at e1;generalize G++Z'=GZ at e1 u6;unfold kC;simp! [J8,T9,e1,u6]
theorem Ff (b:Nat→Nat→Bool):∀ j,argBest b j≤j
 | 0=>Zs _
 | j+1=>by have:=Ff b j;rw [argBest];split<;>nofun
theorem tu:∀ bs:List (Int×Int),oz (bs.map λp=>.tup [.int p.1,.int p.2])=Zg bs
 | []=>rfl
 | p::bs=>by rw [Zy,oz,tu bs];rfl
def pq (p:Nat×Qt):Int×Int:=(p.2.s,(p.1:Int))
theorem Jh (qs:List Qt) (h:1≤qs.length):∃ i,i<qs.length∧(IL ((qs.mapIdx λi q=>(i,q)).map pq)).2=(i:Int):=by
 unfold IL;generalize hb:argBest _ _=i;have hi:=Ff (λi j=>wN (((qs.mapIdx λi q=>(i,q)).map pq).getD i (0,0)) (((qs.mapIdx λi q=>(i,q)).map pq).getD j (0,0))) (((qs.mapIdx λi q=>(i,q)).map pq).length - 1);rw [hb] at hi;simp only [ZG,abS] at hi;have hl:i<qs.length:=by nofun
 refine ⟨i,hl,?_⟩;simp [ab5,abD,hl,pq]
theorem za {gO:D→Option (List D)} {ks:List Bool} {tt:DS→M Bool} {te:DS→M D} {n:Nat} {xs:List D} {τ:DS} {G:DH}:jU gO ks tt te n (iE (.con xs)) (xs.length+1) 0 τ G=cQ gO ks tt te n (xs.mapIdx λi x=>.tup [.int i,x]) τ G:=by
 have:=kL (n:=n) (gO:=gO) (ks:=ks) (tt:=tt) (te:=te) (xs:=xs.mapIdx λi x=>D.tup [.int i,x]) (vw:=iE (.con xs)) (λG i h=>by simp only [iE,aF,abD]) (xs.length+1) 0 τ G (by simp) (by simp)
 simpa using this
theorem xq (xs:List D) (τ:DS) (G:DH) (k:Nat) (h:τ[k]?=Zg (Zg (.con xs))):dH (aa (af k) (ah)) τ G=.ok (xs.length+1,iE (.con xs)) G:=by
 have e:(aa (af k) (ah)) τ G=.ok [.con xs] G:=by rw [aS,cS,h];rfl
 unfold dH;rw [aj,e];rfl
theorem Ji (qs:List Qt) (h1:1≤qs.length) (hz:qs.length≤300) (τ:DS) (G:DH) (ht:τ[3]?=Zg (Zg (.con (qs.map Qt.D)))):∃ q∈qs,ak aQ (ak aQ (af 3) (ak aQ (ai sQ (aa (eFn (dZ (oT 2) [] (dH (aa (af 3) (ah))) (dY) (ai bK (aa (ak aQ (af 1) (eC (.int 2))) (aa (af 0) (ah)))))) (ah))) (eC (.int 1)))) (eC (.int 0)) τ G=.ok q.l.D G:=by
 obtain ⟨i,hi,ei⟩:=Jh qs h1;have z2:(2:Nat)≤Zm:=lz (by nofun);have hc:=dI (gO:=oT 2) (ks:=[]) (tt:=dY) (te:=ai bK (aa (ak aQ (af 1) (eC (.int 2))) (aa (af 0) (ah)))) (own:=λp:Nat×Qt=>[D.int (p.1:Int),p.2.D]) (dat:=λp=>D.tup [.int (p.1:Int),p.2.D]) (f:=λp=>D.tup [.int (pq p).1,.int (pq p).2]) (c:=λ_=>Zh) (G:=G) (τ:=τ) (qs.mapIdx λi q=>(i,q)) [] (by simp;nofun) (λ_ _=>rfl) (λ_ _ _=>rfl) (λp _ acc=>by show ai bK (aa (ak aQ (af 1) (eC (.int 2))) (aa (af 0) (ah))) (Zg (.int (p.1:Int))::Zg p.2.D::mask [] τ) _=_;have eQ:p.2.D=.tup [p.2.l.D,.int p.2.b,.int p.2.s,.int p.2.d]:=rfl;rw [eQ];generalize p.2.l.D=ld;generalize mask [] τ=r;simp! [Ja,z2,pq])
 rw [aam,acd.mpr (λ_ _=>rfl)] at hc;have em:((qs.mapIdx λi q=>(i,q)).map λp:Nat×Qt=>D.tup [.int (p.1:Int),p.2.D])=(qs.map Qt.D).mapIdx λi x=>D.tup [.int (i:Int),x]:=by
  apply ady
  ·simp
  ·intro i h1 h2;simp
 have Qk:((qs.mapIdx λi q=>(i,q)).map λp:Nat×Qt=>D.tup [.int (pq p).1,.int (pq p).2])=((qs.mapIdx λi q=>(i,q)).map pq).map λp=>.tup [.int p.1,.int p.2]:=by rw [aaM];rfl
 rw [em,Qk] at hc;have IW:=tu ((qs.mapIdx λi q=>(i,q)).map pq);have hlen:0<((qs.mapIdx λi q=>(i,q)).map pq).length:=by simp;nofun
 have hcl:aR (((qs.mapIdx λi q=>(i,q)).map pq).map λp=>D.tup [.int p.1,.int p.2])=Zh:=aE λ_=>by simp [D.closed,aO,aU,aM]
 have RB:eFn (dZ (oT 2) [] (dH (aa (af 3) (ah))) (dY) (ai bK (aa (ak aQ (af 1) (eC (.int 2))) (aa (af 0) (ah))))) τ G=.ok (.con (((qs.mapIdx λi q=>(i,q)).map pq).map λp=>.tup [.int p.1,.int p.2])) G:=by rw [aW,vX,xq _ τ G 3 ht,aD,za,hc];exact jF hcl
 have hq:(qs.map Qt.D)[i]?=Zg (qs[i]).D:=by rw [ZL,Zr hi];rfl
 have hat:jb (qs.map Qt.D) (i:Int)=Zg (qs[i]).D:=ju hq;refine ⟨qs[i],aau hi,?_⟩;generalize eFn (dZ (oT 2) [] (dH (aa (af 3) (ah))) (dY) (ai bK (aa (ak aQ (af 1) (eC (.int 2))) (aa (af 0) (ah)))))=S at RB;generalize (qs.mapIdx λi q=>(i,q)).map pq=bs at ei RB IW hlen;have eV:af 3 τ G=.ok (.con (qs.map Qt.D)) G:=by rw [cS,ht]
 have eQ:(qs[i]).D=.tup [(qs[i]).l.D,.int (qs[i]).b,.int (qs[i]).s,.int (qs[i]).d]:=rfl;rw [eQ] at hat;generalize (qs[i]).l.D=ld at hat;generalize qs.map Qt.D=qD at eV hat;generalize (bs.map λp=>D.tup [.int p.1,.int p.2])=bD at RB IW;simp only [dB,cV,aS,bC,eV,RB,g7,aD,aj,cU,sQ,aF,IW,if_pos hlen,aQ,BI,ei,hat,I8]
structure Rw where
 g:Str
 t:Lk
 r:Option Nat
def oD:Option Nat→D
 | none=>.cy
 | some k=>.int (k:Int)
def Rw.D (w:Rw):L3.D:=.tup [.str w.g,w.t.D,oD w.r]
def Rw.Ok (n:Nat) (w:Rw):Prop:=Gd w.g∧w.t.Vo n∧w.t.dep≤20∧w.t.sz≤900∧∀ k,w.r=Zg k→k<n
def Tb (R:List Rw):Prop:=∀ w∈R,w.Ok R.length
theorem kT {n m:Nat} (h:n≤m):∀ l:Lk,l.Vo n→l.Vo m
 | .one _,_=>trivial
 | .kind _,k=>k
 | .mj _,k=>Zx k h
 | .not l,k=>kT h l k
 | .bin _ l r,k=>⟨kT h l k.1,kT h r k.2⟩
 | .way _,k=>k
theorem Jj {n m:Nat} (h:n≤m) {w:Rw} (k:w.Ok n):w.Ok m:=⟨k.1,kT h _ k.2.1,k.2.2.1,k.2.2.2.1,λj e=>Zx (k.2.2.2.2 j e) h⟩
def uU (r:List D→M D) (l:Lk):Prop:=∀ (A B:DH) (R:List Rw),Tb R→R.length+l.sz≤900→∃ (R':List Rw) (t:Lk),Tb R'∧R.length≤R'.length∧R'.length+1≤R.length+l.sz∧t.Vo R'.length∧t.dep≤l.dep∧t.sz≤l.sz ∧
  r [l.D,.obj A.length] (A++.lst (R.map Rw.D)::B)=.ok t.D (A++.lst (R'.map Rw.D)::B)
theorem BO (r:List D→M D) (A B:DH) (l0 a3 a4 a5 a6:Option D) (g:Str) (hg:Gd g) (l:Lk) (hl:uU r l) (hd:l.dep≤20) (R:List Rw) (rest:Option Nat) (hR:Tb R) (hr:∀ k,rest=Zg k→k<R.length) (hz:R.length+l.sz≤900):∃ (R':List Rw) (t:Lk),Tb R'∧1≤R'.length∧R.length≤R'.length∧R'.length≤R.length+l.sz ∧
  eZ r [l0,Zg (.obj A.length),Zg (oD rest),Zg (.str g),Zg l.D,a5,a6] (A++.lst (R.map Rw.D)::B)=.nx [l0,Zg (.obj A.length),Zg (oD (Zg (R'.length - 1))),Zg (.str g),Zg l.D,Zg t.D,a6] (A++.lst (R'.map Rw.D)::B):=by
 obtain ⟨R1,t,h1,h2,h3,h4,h5,h6,e⟩:=hl A B R hR hz;refine ⟨R1++[Rw.mk g t rest],t,λw hw=>?_,by simp,by simp;nofun,by simp;nofun,?_⟩
 ·rw [ZV,adO];rcases aaU.mp hw with h | h
  ·exact Jj (by nofun) (h1 w h)
  ·rw [ZI.mp h];exact ⟨hg,kT (by nofun) _ h4,by show t.dep≤20;nofun,by show t.sz≤900;nofun,λk e=>by have:=hr k e;nofun⟩
 have em:(R1++[Rw.mk g t rest]).map Rw.D=R1.map Rw.D++[.tup [.str g,t.D,oD rest]]:=by simp [Rw.D]
 have eo:oD (Zg ((R1++[Rw.mk g t rest]).length - 1))=.int ((((R1.map Rw.D).length+1:Nat):Int) - 1):=by simp [oD]
 rw [em,eo];have g0:∀ x Y,(A++x::Y)[A.length]?=Zg x:=λx Y=>qV A x Y;have s0:∀ x z Y,(A++x::Y).set A.length z=A++z::Y:=λx z Y=>zH A x z Y;have z3:(3:Nat)≤Zm:=lz (by nofun);have zz:(R1.map Rw.D).length<Zm:=Zx (by rw [ZG];nofun) (lz (n:=2000) (by nofun));have Vy:(R1.map Rw.D).length+1≤Zm:=zz;generalize R1.map Rw.D=L1 at e zz Vy;generalize R.map Rw.D=L at e;generalize l.D=ld at e;generalize t.D=td at e;generalize oD rest=rd;unfold eZ;simp! [e,g0,s0,z3,zz,Vy]
theorem tw (r:List D→M D) (A B:DH) (l0 a6:Option D):∀ (ps:List (Str×Lk)),(∀ p∈ps,Gd p.1∧uU r p.2∧p.2.dep≤20)→∀ (R:List Rw) (rest:Option Nat) (a3 a4 a5:Option D),Tb R→(∀ k,rest=Zg k→k<R.length)→R.length+szl (ps.map (·.2))≤900→∃ (R':List Rw) (rest':Option Nat) (b3 b4 b5:Option D),Tb R'∧R.length≤R'.length∧R'.length≤R.length+szl (ps.map (·.2))∧(∀ k,rest'=Zg k→k<R'.length)∧((ps=[]∧rest'=rest)∨∃ k,rest'=Zg k) ∧
  bY (gP 3 4) (eZ r) (ps.map xm) [l0,Zg (.obj A.length),Zg (oD rest),a3,a4,a5,a6] (A++.lst (R.map Rw.D)::B)=.nx [l0,Zg (.obj A.length),Zg (oD rest'),b3,b4,b5,a6] (A++.lst (R'.map Rw.D)::B)
 | [],_,R,rest,a3,a4,a5,hR,hr,hz=>⟨R,rest,a3,a4,a5,hR,by nofun,by nofun,hr,.inl ⟨rfl,rfl⟩,by rw [ZU];exact eY⟩
 | p::ps,hp,R,rest,a3,a4,a5,hR,hr,hz=>by
  rw [Zy,szl] at hz;obtain ⟨g1,g2,g3⟩:=hp p (by simp);obtain ⟨R1,t,h1,h2,h3,h4,e1⟩:=BO r A B l0 a3 a4 a5 a6 p.1 g1 p.2 g2 g3 R rest hR hr (by nofun);obtain ⟨R2,Qu,b3,b4,b5,k1,k2,k3,k4,k5,e2⟩:=tw r A B l0 a6 ps (λq hq=>hp q (by simp [hq])) R1 (Zg (R1.length - 1)) (Zg (.str p.1)) (Zg p.2.D) (Zg t.D) h1 (λk e=>by cases e;nofun) (by nofun);refine ⟨R2,Qu,b3,b4,b5,k1,by nofun,by rw [Zy,szl];nofun,k4,.inr ?_,?_⟩
  ·rcases k5 with ⟨_,h⟩ | h
   ·exact ⟨_,h⟩
   ·exact h
  ·rw [Zy,bZ (τ1:=[l0,Zg (.obj A.length),Zg (oD rest),Zg (.str p.1),Zg p.2.D,a5,a6]) rfl,e1,gW,e2]
theorem Fg {g:jB} {body:MS} {xs:List D} {τ:DS} {G:DH}:kg g body (qL xs) (xs.length+1) 0 τ G=bY g body xs.reverse τ G:=by
 have:=iF (g:=g) (body:=body) (xs:=xs.reverse) (vw:=qL xs) (λG i h=>by
  simp only [ab9] at h;simp only [qL];by_cases hi:i=xs.length
  ·rw [if_pos hi,aaE (by simp;nofun)]
  ·rw [if_neg hi,if_pos (by nofun),abW (by nofun)]) (xs.length+1) 0 τ G (by simp) (by simp)
 simpa using this
theorem Jk {ml:DS→M (List D)} {τ:DS} {G:DH}:zX ml τ G=(ml τ G).bd λds=>match ds with
 | [d]=>λG=>match aF G d with
  | some (.tup xs)=>.ok (xs.length+1,qL xs) G
  | _=>.stuck
 | _=>M.stop:=aj
theorem Fi:∀ (w:Wy),w.Ok→∀ p∈w.ps,Gd p.1∧p.2.Ok∧p.2.dep≤w.dep
 | .nil,_,p,h=>by simp [Wy.ps] at h
 | .cons g l w,ho,p,h=>by
  rw [Wy.Ok] at ho;rw [Wy.ps] at h;rw [Wy.dep];rcases ZM.mp h with rfl | h
  ·exact ⟨ho.1,ho.2.1,Nat.le_max_left _ _⟩
  ·obtain ⟨h1,h2,h3⟩:=Fi w ho.2.2 p h;exact ⟨h1,h2,aal h3 (Nat.le_max_right _ _)⟩
theorem Jl (ls:List Lk):szl ls.reverse=szl ls:=by
 induction ls with
 | nil=>rfl
 | cons l ls ih=>rw [aaw,uT,ih,szl,szl,szl];nofun
theorem tB:∀ (n:Nat) (l:Lk),l.dep≤n→l.dep≤20→l.Ok→uU (bg n) l
 | 0,l,h,_,_=>by cases l<;>simp [Lk.dep] at h
 | n+1,l,hn,hd,ho=>by
  intro A B R hR hz;have z2:(2:Nat)≤Zm:=lz (by nofun);have z3:(3:Nat)≤Zm:=lz (by nofun);have rv:∀ X,(A++.lst (R.map Rw.D)::B:DH)=X→bg (n+1) [l.D,.obj A.length] X=bL 7 (bN (bg n)) [l.D,.obj A.length] X:=λX _=>by rw [bg]
  rw [rv _ rfl];have ih:=λl=>tB n l;generalize bg n=r at ih;cases l with
  | one m=>refine ⟨R,.one m,hR,Zs _,by rw [Lk.sz];nofun,trivial,Zs _,Zs _,?_⟩;have e1:=λG=>eqs (jQ m) "way" G (eE m) gR (b:=Zk) (by cases m<;>symm);have e2:=λG=>eqs (jQ m) "not" G (eE m) bJ (b:=Zk) (by cases m<;>symm);have e3:=λG=>NF (jQ m) G (eE m) (b:=Zk) (by cases m<;>symm);generalize R.map Rw.D=L;simp! [bN,Lk.D,J5,e1,e2,e3,aW,mk2]
  | kind s=>refine ⟨R,.kind s,hR,Zs _,by rw [Lk.sz];nofun,by rw [Lk.Ok] at ho;exact ho,Zs _,Zs _,?_⟩;have e1:=λG=>eqs "kind" "way" G bU gR (b:=Zk) (by symm);have e2:=λG=>eqs "kind" "not" G bU bJ (b:=Zk) (by symm);have e3:=λG=>NF "kind" G bU (b:=Zk) (by symm);generalize R.map Rw.D=L;simp! [bN,Lk.D,xj,e1,e2,e3,aW,mk2]
  | mj j=>rw [Lk.Ok] at ho;exact ho.elim
  | not l=>rw [Lk.Ok] at ho;rw [Lk.dep] at hn hd;rw [Lk.sz] at hz;obtain ⟨R1,t,h1,h2,h3,h4,h5,h6,e⟩:=ih l (by nofun) (by nofun) ho A B R hR (by nofun);refine ⟨R1,.not t,h1,h2,by rw [Lk.sz];nofun,h4,by rw [Lk.dep,Lk.dep];nofun,by rw [Lk.sz,Lk.sz];nofun,?_⟩;have e1:=λG=>eqs "not" "way" G bJ gR (b:=Zk) (by symm);have e2:=λG=>eqs "not" "not" G bJ bJ (b:=Zh) (by symm);rw [Lk.D,Lk.D];generalize R.map Rw.D=L at e;generalize R1.map Rw.D=L1 at e;generalize l.D=ld at e;generalize t.D=td at e;simp! [bN,xj,BI,e1,e2,e,z2]
  | bin b l l'=>rw [Lk.Ok] at ho;rw [Lk.dep] at hn hd;rw [Lk.sz] at hz;obtain ⟨R1,t,h1,h2,h3,h4,h5,h6,e⟩:=ih l (by nofun) (by nofun) ho.1 A B R hR (by nofun);obtain ⟨R2,t',k1,k2,k3,k4,k5,k6,e'⟩:=ih l' (by nofun) (by nofun) ho.2 A B R1 h1 (by nofun);refine ⟨R2,.bin b t t',k1,by nofun,by rw [Lk.sz];nofun,⟨kT k2 _ h4,k4⟩,by rw [Lk.dep,Lk.dep];nofun,by rw [Lk.sz,Lk.sz];nofun,?_⟩;have e1:=λG=>eqs (gQ b) "way" G (cu b) gR (b:=Zk) (by cases b<;>symm);have e2:=λG=>eqs (gQ b) "not" G (cu b) bJ (b:=Zk) (by cases b<;>symm);have e3:=λG=>NF (gQ b) G (cu b) (b:=Zh) (by cases b<;>symm);rw [Lk.D,Lk.D];generalize R.map Rw.D=L at e;generalize R1.map Rw.D=L1 at e e';generalize R2.map Rw.D=L2 at e';generalize l.D=ld at e;generalize l'.D=X8 at e';generalize t.D=td at e;generalize t'.D=Vz at e';simp! [bN,iL,M6,M7,a32,e1,e2,e3,aW,mk2,e,e',z3]
  | way w=>
   rw [Lk.Ok] at ho;rw [Lk.dep] at hn hd;rw [Lk.sz,T4] at hz;have hp:∀ p∈w.ps.reverse,Gd p.1∧uU r p.2∧p.2.dep≤20:=λp hp=>by obtain ⟨h1,h2,h3⟩:=Fi w ho.2 p (adv.mp hp);exact ⟨h1,ih p.2 (by nofun) (by nofun) h2,by nofun⟩
   have hsz:szl (w.ps.reverse.map (·.2))=szl (w.ps.map (·.2)):=by rw [aaX,Jl]
   obtain ⟨R1,rest,b3,b4,b5,h1,h2,h3,h4,h5,e⟩:=tw r A B (Zg (Lk.way w).D) Zl w.ps.reverse hp R Zl Zl Zl Zl hR (by simp) (by nofun);obtain ⟨k,rfl⟩:∃ k,rest=Zg k:=by
    rcases h5 with ⟨h,_⟩ | h
    ·refine absurd ?_ ho.1;have h:=adx.mp h;cases w with
     | nil=>rfl
     | cons g l w=>rw [Wy.ps] at h;cases h
    ·exact h
   refine ⟨R1,.mj k,h1,h2,by rw [Lk.sz,T4];nofun,h4 k rfl,by rw [Lk.dep,Lk.dep];nofun,by rw [Lk.sz,Lk.sz];nofun,?_⟩;have e1:=λG=>eqs "way" "way" G gR gR (b:=Zh) (by symm);rw [Lk.D] at e;rw [Lk.D,Lk.D];rw [show oD Zl=.cy from rfl,show oD (Zg k)=.int (k:Int) from rfl,aaX,← J6,← Fg] at e;generalize R.map Rw.D=L at e;generalize R1.map Rw.D=L1 at e;generalize w.Ds=ws at e;simp! [bN,iK,xj,BI,e1,Jk,e,z2]
def nD (pl:List Nat):D:=.con (pl.map λ(k:Nat)=>.int (k:Int))
theorem Fj (pl:List Nat) (j k:Nat) (h:pl[j]?=Zg k):jb (pl.map λ(k:Nat)=>D.int (k:Int)) (j:Int)=Zg (.int (k:Int)):=
 ju (by rw [ZL,h];rfl)
def Lk.gj (pl:List Nat):Lk→Lk
 | .one b=>.one b
 | .kind s=>.kind s
 | .mj j=>.mj (pl.getD j 0)
 | .not t=>.not (t.gj pl)
 | .bin e t u=>.bin e (t.gj pl) (u.gj pl)
 | .way w=>.way w
theorem pB (pl:List Nat) (hp:∀ p∈pl,p<pl.length):∀ t:Lk,t.Vo pl.length→(t.gj pl).Vo pl.length
 | .one _,_=>trivial
 | .kind _,h=>h
 | .mj j,h=>by have h:j<pl.length:=h;show pl.getD j 0<pl.length;rw [ab5,Zr h];exact hp _ (aau h)
 | .not t,h=>pB pl hp t h
 | .bin _ t u,h=>⟨pB pl hp t h.1,pB pl hp u h.2⟩
 | .way _,h=>h
theorem mW (pl:List Nat) {n:Nat}:∀ t:Lk,t.Vo n→(t.gj pl).dep=t.dep
 | .one _,_=>rfl
 | .kind _,_=>rfl
 | .mj j,_=>rfl
 | .not t,h=>by rw [Lk.gj,Lk.dep,Lk.dep,mW pl t h]
 | .bin _ t u,h=>by rw [Lk.gj,Lk.dep,Lk.dep,mW pl t h.1,mW pl u h.2]
 | .way _,h=>h.elim
theorem pC (pl:List Nat) {n:Nat}:∀ t:Lk,t.Vo n→(t.gj pl).sz=t.sz
 | .one _,_=>rfl
 | .kind _,_=>rfl
 | .mj j,_=>rfl
 | .not t,h=>by rw [Lk.gj,Lk.sz,Lk.sz,pC pl t h]
 | .bin _ t u,h=>by rw [Lk.gj,Lk.sz,Lk.sz,pC pl t h.1,pC pl u h.2]
 | .way _,h=>h.elim
theorem xr (pl:List Nat):∀ (m:Nat) (t:Lk),t.dep≤m→t.Vo pl.length→∀ G,aY m [t.D,nD pl] G=.ok (t.gj pl).D G
 | 0,t,h,_=>by cases t<;>simp [Lk.dep] at h
 | m+1,t,h,ho=>by
  intro G;have z2:(2:Nat)≤Zm:=lz (by nofun);have z3:(3:Nat)≤Zm:=lz (by nofun);rw [aY];refine aT ?_ (oX _);have ih:=λt=>xr pl m t;generalize aY m=r at ih;cases t with
  | one b=>have e1:=eqs (jQ b) "from" G (eE b) bQ (b:=Zk) (by cases b<;>symm);have e2:=eqs (jQ b) "not" G (eE b) bJ (b:=Zk) (by cases b<;>symm);have e3:=NF (jQ b) G (eE b) (b:=Zk) (by cases b<;>symm);generalize nD pl=pd;simp! [aX,Lk.D,Lk.gj,J5,e1,e2,e3,aW,mk2]
  | kind s=>have e1:=eqs "kind" "from" G bU bQ (b:=Zk) (by symm);have e2:=eqs "kind" "not" G bU bJ (b:=Zk) (by symm);have e3:=NF "kind" G bU (b:=Zk) (by symm);generalize nD pl=pd;simp! [aX,Lk.D,Lk.gj,xj,e1,e2,e3,aW,mk2]
  | mj j=>
   have hj:j<pl.length:=ho;have e1:=eqs "from" "from" G bQ bQ (b:=Zh) (by symm);have e2:=Fj pl j pl[j] (Zr hj);have e3:pl.getD j 0=pl[j]:=by rw [ab5,Zr hj];rfl
   rw [Lk.gj,e3];generalize (pl[j]:Nat)=k at e2;rw [nD];generalize (pl.map λ(k:Nat)=>D.int (k:Int))=pD at e2;simp! [aX,Lk.D,xj,BI,e1,e2,z2]
  | not t=>rw [Lk.dep] at h;have e0:=ih t (by nofun) ho G;have e1:=eqs "not" "from" G bJ bQ (b:=Zk) (by symm);have e2:=eqs "not" "not" G bJ bJ (b:=Zh) (by symm);rw [Lk.gj,Lk.D,Lk.D];generalize nD pl=pd at e0;generalize t.D=td at e0;generalize (t.gj pl).D=Vz at e0;simp! [aX,xj,BI,e1,e2,e0,z2]
  | bin b t t'=>rw [Lk.dep] at h;have e0:=ih t (by nofun) ho.1 G;have FW:=ih t' (by nofun) ho.2 G;have e1:=eqs (gQ b) "from" G (cu b) bQ (b:=Zk) (by cases b<;>symm);have e2:=eqs (gQ b) "not" G (cu b) bJ (b:=Zk) (by cases b<;>symm);have e3:=NF (gQ b) G (cu b) (b:=Zh) (by cases b<;>symm);rw [Lk.gj,Lk.D,Lk.D];generalize nD pl=pd at e0 FW;generalize t.D=td at e0;generalize t'.D=Vz at FW;generalize (t.gj pl).D=ud at e0;generalize (t'.gj pl).D=Y9 at FW;simp! [aX,fP,M6,M7,a32,e1,e2,e3,aW,mk2,e0,FW,z3]
  | way w=>exact ho.elim
theorem Ug (r:Option Nat):(oD r).closed=Zh:=by cases r<;>rfl
theorem Uh (w:Rw):w.D.closed=Zh:=by have:=Ug w.r;simp [Rw.D,D.closed,aO,aU,cg,oX,this]
def Good (n:Nat) (d:D):Prop:=∃ w:Rw,d=w.D∧w.Ok n
theorem BP (pl:List Nat) (hp:∀ p∈pl,p<pl.length) (w:Rw) (hw:w.Ok pl.length) (j:Nat) (hj:j<pl.length) (L:List D) (hL:L.length=pl.length) (A:DH) (a0 a1 a2 a3 a8:Option D):∃ (d:D) (b8:Option D),Good pl.length d ∧
  dW [a0,a1,a2,a3,Zg (nD pl),Zg (.obj A.length),Zg (.int (j:Int)),Zg w.D,a8] (A++[.lst L])=.nx [a0,a1,a2,a3,Zg (nD pl),Zg (.obj A.length),Zg (.int (j:Int)),Zg w.D,b8] (A++[.lst (L.set pl[j] d)]):=by
 obtain ⟨h1,h2,h3,h3',h4⟩:=hw;have e:=xr pl 60 w.t (by nofun) h2;have hv:=pB pl hp w.t h2;have Za:=mW pl w.t h2;have hsz:=pC pl w.t h2;have Yb:=hp pl[j] (aau hj);have ea:=Fj pl j pl[j] (Zr hj);have ei:xE L.length ((pl[j]:Nat):Int)=Zg pl[j]:=by unfold xE;rw [if_pos (by nofun),if_pos (by nofun),aaD]
 have g0:∀ x:DO,(A++[x])[A.length]?=Zg x:=λx=>qV A x [];have s0:∀ x z:DO,(A++[x]).set A.length z=A++[z]:=λx z=>zH A x z [];have z3:(3:Nat)≤Zm:=lz (by nofun);have eW:w.D=.tup [.str w.g,w.t.D,oD w.r]:=rfl;have e0:=e (A++[.lst L]);rw [eW];generalize (pl[j]:Nat)=p at ea ei Yb;cases hr:w.r with
 | none=>refine ⟨.tup [.str w.g,(w.t.gj pl).D,oD Zl],Zg (oD Zl),⟨⟨w.g,w.t.gj pl,Zl⟩,rfl,h1,hv,by show (w.t.gj pl).dep≤20;nofun,by show (w.t.gj pl).sz≤900;nofun,λk e=>by cases e⟩,?_⟩;rw [show oD Zl=.cy from rfl];generalize w.t.D=td at e0;generalize (w.t.gj pl).D=d at e0;rw [nD] at e0 ⊢;generalize (pl.map λ(k:Nat)=>D.int (k:Int))=pD at ea e0;unfold dW;simp! [M6,M7,a32,pU,wC,e0,z3,ea,nq,g0,ei,s0]
 | some k=>have hk:=h4 k hr;have ek:=Fj pl k pl[k] (Zr hk);have hpk:=hp pl[k] (aau hk);refine ⟨.tup [.str w.g,(w.t.gj pl).D,oD (Zg pl[k])],Zg (oD (Zg pl[k])),⟨⟨w.g,w.t.gj pl,Zg pl[k]⟩,rfl,h1,hv,by show (w.t.gj pl).dep≤20;nofun,by show (w.t.gj pl).sz≤900;nofun,λk e=>by cases e;exact hpk⟩,?_⟩;generalize (pl[k]:Nat)=q at ek;rw [show oD (Zg k)=.int (k:Int) from rfl,show oD (Zg q)=.int (q:Int) from rfl];generalize w.t.D=td at e0;generalize (w.t.gj pl).D=d at e0;rw [nD] at e0 ⊢;generalize (pl.map λ(k:Nat)=>D.int (k:Int))=pD at ea ek e0;unfold dW;simp! [M6,M7,a32,pU,wC,e0,z3,ea,ek,nq,g0,ei,s0]
theorem tE (pl:List Nat) (hp:∀ p∈pl,p<pl.length) (A:DH) (a0 a1 a2 a3:Option D):∀ (R:List Rw) (j:Nat) (L:List D) (a6 a7 a8:Option D),(∀ w∈R,w.Ok pl.length)→j+R.length=pl.length→L.length=pl.length→(∀ x∈L,x.closed=Zh)→(∀ i k:Nat,i<j→pl[i]?=Zg k→∃ d,L[k]?=Zg d∧Good pl.length d)→∃ (L':List D) (b6 b7 b8:Option D),L'.length=pl.length∧(∀ x∈L',x.closed=Zh)∧(∀ i k:Nat,pl[i]?=Zg k→∃ d,L'[k]?=Zg d∧Good pl.length d) ∧
  bY (gP 6 7) dW (eD j (R.map Rw.D)) [a0,a1,a2,a3,Zg (nD pl),Zg (.obj A.length),a6,a7,a8] (A++[.lst L])=.nx [a0,a1,a2,a3,Zg (nD pl),Zg (.obj A.length),b6,b7,b8] (A++[.lst L'])
 | [],j,L,a6,a7,a8,_,hj,hL,hc,hg=>⟨L,a6,a7,a8,hL,hc,λi k h=>hg i k (by have:=(Zp.mp h).1;simp at hj;nofun) h,by rw [ZU];exact eY⟩
 | w::R,j,L,a6,a7,a8,hw,hj,hL,hc,hg=>by
  rw [ZN] at hj;have hjl:j<pl.length:=by nofun
  obtain ⟨d,b8,hd,e1⟩:=BP pl hp w (hw w (by simp)) j hjl L hL A a0 a1 a2 a3 a8;obtain ⟨L',c6,c7,c8,k1,k2,k3,e2⟩:=tE pl hp A a0 a1 a2 a3 R (j+1) (L.set pl[j] d) (Zg (.int (j:Int))) (Zg w.D) b8 (λx hx=>hw x (by simp [hx])) (by nofun) (by simp [hL]) (λx hx=>by
    rcases List.mem_or_eq_of_mem_set hx with h | rfl
    ·exact hc x h
    ·obtain ⟨w,rfl,_⟩:=hd;exact Uh w) (λi k hi hk=>by
    by_cases hkp:k=pl[j]
    ·subst hkp;exact ⟨d,by rw [acp (by rw [hL];exact hp _ (aau hjl))],hd⟩
    ·have hij:i<j:=by
      rcases Nat.lt_or_ge i j with h | h
      ·exact h
      ·have:i=j:=by nofun
       subst this;rw [Zr hjl] at hk;exact absurd (ZS hk).symm hkp
     obtain ⟨d',h1,h2⟩:=hg i k hij hk;exact ⟨d',by rw [ZZ (aat hkp)];exact h1,h2⟩)
  refine ⟨L',c6,c7,c8,k1,k2,k3,?_⟩;rw [Zy,zZ,bZ (τ1:=[a0,a1,a2,a3,Zg (nD pl),Zg (.obj A.length),Zg (.int (j:Int)),Zg w.D,a8]) rfl,e1,gW,e2]
theorem Ui (n:Nat) (c b:Int) (hb:b=1∨b=n - 1) (i:Nat) (hi:i<n):∃ j:Nat,j<n∧((c+b*j) % n).toNat=i:=by
 have hn:(0:Int)<n:=by nofun
 have Qv:∀ q:Int,(((i:Int)+n*q) % n).toNat=i:=λq=>by rw [Int.add_mul_emod_self_left,Int.emod_eq_of_lt (by nofun) (by nofun),aaD]
 have NI:∀ x:Int,∃ j:Nat,j<n∧(j:Int)=x - n*(x / n):=λx=>by have h1:=acP x (by nofun:(n:Int)≠0);have h2:=ac6 x hn;rw [Int.emod_def] at h1 h2;exact ⟨(x - n*(x / n)).toNat,by nofun,by nofun⟩
 rcases hb with rfl | rfl
 ·obtain ⟨j,h1,h2⟩:=NI (i - c);refine ⟨j,h1,?_⟩;rw [h2,show c+1*((i:Int) - c - n*(((i:Int) - c) / n))=i+n*(-(((i:Int) - c) / n)) by rw [aeV,Int.mul_neg];nofun];exact Qv _
 ·obtain ⟨j,h1,h2⟩:=NI (c - i);refine ⟨j,h1,?_⟩;have e:c+((n:Int) - 1)*(j:Int)=i+n*((c - i) / n+j):=by rw [Int.sub_mul,aeV,Int.mul_add];nofun
  rw [e];exact Qv _
theorem Kf (c m:Int) (G:DH):∃ b:Int,(b=1∨b=m)∧jb [D.int 1,.int m] (c % 2)=Zg (.int b)∧(aL [.int 1,.int m] G).fw G=.ok (.con [.int 1,.int m]) G:=by
 have hf:(aL [.int 1,.int m] G).fw G=.ok (.con [.int 1,.int m]) G:=bG (lz (n:=2) (by nofun)) rfl;rcases (show c % 2=0∨c % 2=1 by nofun) with h | h
 ·exact ⟨1,.inl rfl,by rw [h];rfl,hf⟩
 ·exact ⟨m,.inr rfl,by rw [h];rfl,hf⟩
def FY (n:Nat) (c b:Int) (j:Nat):Nat:=((c / 2+b*j) % n).toNat
theorem BQ (n:Nat) (c b:Int) (hb:-1000<b∧b<1000) (hn:n≤900) (a0:Option D) (τ:DS) (G:DH):eFn (dh eG oN [Zk,Zh,Zh,Zh] (aa (af 2) (ah)) (dY) (ak cY (ak aG (ak r9 (af 2) (eC (.int 2))) (ak je (af 4) (af 0))) (af 3))) (a0::Zg (.int c)::Zg (.int (n:Int))::Zg (.int b)::τ) G=.ok (nD ((Z4 n).map (FY n c b))) G:=by
 have hr:=g6 (j:=(n:Int)) (by nofun) (by nofun);rw [aaD] at hr;have hc:=dI (gO:=oN) (ks:=[Zk,Zh,Zh,Zh]) (tt:=dY) (te:=ak cY (ak aG (ak r9 (af 2) (eC (.int 2))) (ak je (af 4) (af 0))) (af 3)) (own:=λj:Nat=>[D.int (0+(j:Int))]) (dat:=λj=>D.int (0+(j:Int))) (f:=λj=>D.int (FY n c b j:Int)) (c:=λ_=>Zh) (G:=G) (τ:=a0::Zg (.int c)::Zg (.int (n:Int))::Zg (.int b)::τ) (Z6 0 n) [] (by simp;nofun) (λ_ _=>rfl) (λ_ _ _=>rfl) (λj hj acc=>by
  have hj2:j<n:=by simpa using hj
  have hp:(0:Int)<n:=by nofun
  have q1:-18446744073709551616<b:=by nofun
  have q2:b<18446744073709551616:=by nofun
  have e:(FY n c b j:Int)=(c / 2+b*(0+(j:Int))) % n:=by unfold FY;rw [Int.zero_add];exact Int.toNat_of_nonneg (acP _ (by nofun))
  rw [e];generalize (0+(j:Int))=jj;have hp2:0<n:=by nofun
  simp! [mask,hp2,q1,q2])
 rw [aam,acd.mpr (λ_ _=>rfl)] at hc;have hcl:aR ((Z6 0 n).map λj=>D.int (FY n c b j:Int))=Zh:=aE λ_=>aM;have em:nD ((Z4 n).map (FY n c b))=.con ((Z6 0 n).map λj=>D.int (FY n c b j:Int)):=by unfold nD;rw [aaM,acH];rfl
 rw [em,aW,← jF hcl,← hc];simp only [qe,aS,bC,cS,ZQ,ZP,aD,aj,cU,hr]
theorem Fl {n:Nat}:∀ (L:List D),(∀ d∈L,Good n d)→∃ W:List Rw,L=W.map Rw.D∧∀ w∈W,w.Ok n
 | [],_=>⟨[],rfl,by simp⟩
 | d::L,h=>by
  obtain ⟨w,rfl,hw⟩:=h d (by simp);obtain ⟨W,rfl,hW⟩:=Fl L λx hx=>h x (by simp [hx]);refine ⟨w::W,rfl,λx hx=>?_⟩;rcases ZM.mp hx with rfl | hx
  ·exact hw
  ·exact hW x hx
theorem Fo (R:List Rw) (hR:Tb R) (hz:R.length≤500) (c:Int) (hc0:0≤c) (G:DH):∃ (W:List Rw) (pl:List D),W.length=R.length∧Tb W∧gi [.con (R.map Rw.D),.int c] G=.ok (.tup [.con (W.map Rw.D),.con pl]) G:=by
 obtain ⟨mm,hm1,hm2⟩:∃ mm:Int,(if (R.length:Int) - 1<1 then (1:Int) else (R.length:Int) - 1)=mm∧(mm=1∨mm=R.length - 1):=⟨_,rfl,by split<;>simp⟩;obtain ⟨b,hb,e1,_⟩:=Kf c mm G;have hb2:b=1∨b=R.length - 1:=by
  rcases hb with h | h
  ·exact .inl h
  ·rw [h];exact hm2
 obtain ⟨pl,hpl⟩:∃ pl:List Nat,pl=(Z4 R.length).map (FY R.length c b):=⟨_,rfl⟩;have hlen:pl.length=R.length:=by rw [hpl];simp
 have hp:∀ p∈pl,p<pl.length:=λp h=>by rw [hpl] at h;obtain ⟨j,hj,rfl⟩:=abE.mp h;have hj:=ac0.mp hj;have h2:=ac6 (c / 2+b*j) (by nofun:(0:Int)<R.length);have h1:=acP (c / 2+b*j) (by nofun:(R.length:Int)≠0);rw [hlen];unfold FY;nofun
 have ep:=λG=>BQ R.length c b (by nofun) (by nofun) (Zg (.con (R.map Rw.D))) [Zl,Zl,Zl,Zl,Zl] G;rw [← hpl] at ep;have hrep:(ZH R.length [D.cy]).flatten=ZH R.length .cy:=by simp
 obtain ⟨L',b6,b7,b8,h1,h2,h3,el⟩:=tE pl hp (G++[.lst [.cy]]) (Zg (.con (R.map Rw.D))) (Zg (.int c)) (Zg (.int (R.length:Int))) (Zg (.int b)) R 0 (ZH R.length .cy) Zl Zl Zl (by rw [hlen];exact hR) (by nofun) (by simp [hlen]) (λx hx=>by rw [List.eq_of_mem_replicate hx];rfl) (λi k h=>by nofun);have hT:∀ d∈L',Good pl.length d:=λd hd=>by obtain ⟨i,hi,rfl⟩:=List.mem_iff_getElem.mp hd;obtain ⟨j,hj,ej⟩:=Ui R.length (c / 2) b hb2 i (by nofun);obtain ⟨d',hd1,hd2⟩:=h3 j i (by rw [hpl,ZL,acT hj];simp [FY,ej]);rw [Zr hi] at hd1;rw [ZS hd1];exact hd2
 obtain ⟨W,VA,Yc⟩:=Fl L' hT;have RC:W.length=R.length:=by have:=congrArg acG VA;simp at this;nofun
 refine ⟨W,pl.map λ(k:Nat)=>.int (k:Int),RC,λw hw=>by rw [RC,← hlen];exact Yc w hw,?_⟩;rw [← VA];have hcl:(D.tup [.con L',nD pl]).closed=Zh:=by
  have:(nD pl).closed=Zh:=by rw [nD,cR];exact aE λ_=>aM
  simp [D.closed,aO,aU,this,lN h2]
 have ee:eD 0 (R.map Rw.D)=(R.map Rw.D).mapIdx λi x=>D.tup [.int (i:Int),x]:=rfl;rw [ee,← nQ] at el;have Uj:(R.map Rw.D).length≤Zm:=lz (by rw [ZG];nofun);have hlr:(R.map Rw.D).length=R.length:=ZG _;have z2:(2:Nat)≤Zm:=lz (by nofun);have f2:=λG=>(Kf c mm G).choose_spec.2.2;have u6:(Out.ok (D.obj (G++[DO.lst [.cy]]).length) ((G++[.lst [.cy]])++[.lst L'])).fz=.ok (.con L') ((G++[.lst [.cy]])++[.dead]):=zM;unfold gi;show bV _ _ G=Out.ok (.tup [.con L',nD pl]) G;refine gz (R:=[.lst [.cy],.dead]) ?_ hcl;have NJ:∀ k,k=R.length→sG (.obj G.length) (.int (k:Int)) (G++[.lst [.cy]])=.ok (.obj (G++[DO.lst [.cy]]).length) ((G++[.lst [.cy]])++[.lst (ZH R.length .cy)]):=λk hk=>by subst hk;have g0:(G++[DO.lst [.cy]])[G.length]?=Zg (.lst [.cy]):=qV G _ [];have hz2:R.length≤Zm:=lz (by nofun);have Qw:(R.length:Int)<1000∧-1000<(R.length:Int)∧[D.cy].length*(R.length:Int).toNat≤Zm:=⟨by nofun,by nofun,by simpa using hz2⟩;unfold sG;dsimp only;rw [g0];dsimp only;rw [if_pos Qw,aaD,hrep];simp [aL,hz2]
 have NJ:=NJ R.length rfl;have n1:aL [.cy] G=.ok (.obj G.length) (G++[.lst [.cy]]):=by have z1:(1:Nat)≤Zm:=lz (by nofun);simp [aL,z1]
 generalize ZH R.length D.cy=L0 at el NJ;rw [show G++[DO.lst [.cy],.dead]=(G++[.lst [.cy]])++[.dead] by simp];generalize (G++[DO.lst [.cy]])=G1 at el u6 NJ n1;generalize R.map Rw.D=RD at el ep Uj hlr;generalize hnn:R.length=nn at hm1 ep el NJ hlr;generalize nD pl=pd at ep el hcl;rw [hlr] at el Uj;rw [eu];show (ig [Zg (.con RD),Zg (.int c),Zl,Zl,Zl,Zl,Zl,Zl,Zl] G).fn=_;rw [ig];refine gw (v:=.int (nn:Int)) (G':=G) (by simp! [hlr,Uj]) ?_;rw [Vh];refine gw (v:=.int b) (G':=G) ?_ ?_
 ·have es:∀ G,l8 (.int (nn:Int)) (.int 1) G=.ok (.int ((nn:Int) - 1)) G:=λG=>rfl;generalize (nn:Int) - 1=n1 at es hm1;have em:∀ G,fM (λi j=>if j > i then j else i) [.int n1,.int 1] G=.ok (.int mm) G:=λG=>by rw [← hm1];rfl
  have ed:aQ (.con [.int 1,.int mm]) (.int (c % 2)) G=.ok (.int b) G:=by simp [aQ,aF,e1]
  have ec:∀ G,cY (.int c) (.int 2) G=.ok (.int (c % 2)) G:=λG=>rfl;simp only [dB,aW,cV,aS,bC,g7,cS,ZQ,ZP,aD,aj,cU,es,em,f2,ec,ed]
 rw [Vj];refine gw (ep _) ?_;rw [Qd,ja];refine gw (v:=.obj G1.length) (G':=G1++[.lst L0]) ?_ ?_
 ·simp only [dB,cV,aS,bC,g7,cS,ZQ,ZP,aD,aj,cU,n1,NJ]
 rw [Nz];refine sW (Zw ?_ el) ?_
 ·rw [HF,xq RD _ _ 0 rfl,zI,hlr]
 have e5:u0 (af 5) [Zg (.con RD),Zg (.int c),Zg (.int (nn:Int)),Zg (.int b),Zg pd,Zg (.obj G1.length),b6,b7,b8] (G1++[.lst L'])=_:=u6;have et:∀ G,bK [.con L',pd] G=.ok (.tup [.con L',pd]) G:=λG=>by simp [bK,z2]
 rw [i6,cV,aS,e5];change ((bK [.con L',pd] _).rn _).fn=_;rw [et];rfl
def csl:Lk→List Lk
 | .not l=>[l]
 | .bin _ l r=>[l,r]
 | _=>[]
def Lk.pre:Lk→List Lk
 | .not l=>.not l::l.pre
 | .bin e l r=>.bin e l r::(l.pre++r.pre)
 | .one m=>[.one m]
 | .kind s=>[.kind s]
 | .mj j=>[.mj j]
 | .way w=>[.way w]
theorem Fp (l:Lk):l.pre=l::(csl l).flatMap Lk.pre:=by cases l<;>simp [Lk.pre,csl]
theorem z9 {n:Nat} {l:Lk} (h:l.Vo n):l.sz=1+szl (csl l):=by
 cases l with
 | way w=>exact h.elim
 | _=>simp [Lk.sz,csl,szl]
theorem Fq {n:Nat} {l:Lk} (h:l.Vo n):∀ c∈csl l,c.Vo n:=by
 intro c hc;cases l with
 | not l=>rw [ZI.mp hc];exact h
 | bin e l r=>
  rcases ZM.mp hc with rfl | hc
  ·exact h.1
  ·rw [ZI.mp hc];exact h.2
 | _=>cases hc
theorem BR:∀ ls:List Lk,ls.length≤szl ls
 | []=>Zs _
 | l::ls=>by have:=BR ls;have:=E6 l;rw [szl,ZN];nofun
theorem Aa:∀ {ls:List Lk} {l:Lk},l∈ls→l.sz≤szl ls
 | l'::ls,l,h=>by
  rw [szl];rcases ZM.mp h with rfl | h
  ·nofun
  ·have:=Aa h;nofun
theorem Nf (l:Lk) (G:DH):zu (.tup [.str "not",l.D]) (Zg 1) Zl G=.ok (.tup [l.D]) G:=by have z1:(1:Nat)≤Zm:=lz (by nofun);simp [zu,aF,cutD,HT.fC,bK,z1]
theorem Ng (s:Str) (l r:Lk) (G:DH):zu (.tup [.str s,l.D,r.D]) (Zg 1) Zl G=.ok (.tup [l.D,r.D]) G:=by have z2:(2:Nat)≤Zm:=lz (by nofun);simp [zu,aF,cutD,HT.fC,bK,z2]
theorem xu {n:Nat} (l:Lk) (ho:l.Vo n) (G:DH):cW [l.D] G=.ok (.con ((csl l).map Lk.D)) G:=by
 have z1:(1:Nat)≤Zm:=lz (by nofun);have z2:(2:Nat)≤Zm:=lz (by nofun);have z3:(3:Nat)≤Zm:=lz (by nofun);have hcl:aR ((csl l).map Lk.D)=Zh:=aE oX;have n0:(aL [] G).fw G=.ok (.con []) G:=bG (abe _) rfl;unfold cW;refine aT ?_ (by rw [cR];exact hcl);cases l with
 | one m=>have e1:=eqs (jQ m) "way" G (eE m) gR (b:=Zk) (by cases m<;>symm);have e2:=Qh (jQ m) G (eE m) (b:=Zk) (by cases m<;>symm);simp! [dJ,Lk.D,csl,J5,e1,e2,z3,aW,n0]
 | kind nm=>have e1:=eqs "kind" "way" G bU gR (b:=Zk) (by symm);have e2:=Qh "kind" G bU (b:=Zk) (by symm);simp! [dJ,Lk.D,csl,xj,e1,e2,z3,aW,n0]
 | mj j=>have e1:=eqs "from" "way" G bQ gR (b:=Zk) (by symm);have e2:=Qh "from" G bQ (b:=Zk) (by symm);simp! [dJ,Lk.D,csl,xj,e1,e2,z3,aW,n0]
 | not l=>have f:(aL [l.D] G).fw G=.ok (.con [l.D]) G:=bG (by simpa using z1) (by simp [aO,aU,oX]);have e1:=eqs "not" "way" G bJ gR (b:=Zk) (by symm);have e2:=Qh "not" G bJ (b:=Zh) (by symm);simp! [dJ,Lk.D,csl,xj,e1,e2,z3,aW,Nf,ny,f]
 | bin e l r=>have f:(aL [l.D,r.D] G).fw G=.ok (.con [l.D,r.D]) G:=bG (by simpa using z2) (by simp [aO,aU,oX]);have e1:=eqs (gQ e) "way" G (cu e) gR (b:=Zk) (by cases e<;>symm);have e2:=Qh (gQ e) G (cu e) (b:=Zh) (by cases e<;>symm);simp! [dJ,Lk.D,csl,M6,e1,e2,z3,aW,Ng,ny,f]
 | way w=>exact ho.elim
theorem Ft:aak ("look_parts":Str) [("look_parts",cW)]=Zg cW:=by simp only [aak,beq_self_eq_true]
theorem xw {n:Nat} (G:DH) (a0:Option D) (t:Lk) (rest acc:List Lk) (one:Option D) (h1:acc.length≤10000) (h2:rest.length≤10000) (h3:t.sz≤1000) (ho:t.Vo n) :
  fE [a0,Zg (.fn "look_parts"),Zg (.obj G.length),Zg (.obj (G.length+1)),one] (G++[.lst (acc.map Lk.D),.lst ((t::rest).reverse.map Lk.D)]) =
   .nx [a0,Zg (.fn "look_parts"),Zg (.obj G.length),Zg (.obj (G.length+1)),Zg t.D] (G++[.lst ((acc++[t]).map Lk.D),.lst ((csl t++rest).reverse.map Lk.D)]):=by
 have hl:=BR (csl t);have hs:=z9 ho;have ep:=λG=>xu t ho G;generalize csl t=ts at hl hs ep ⊢;have hz1:acc.length<Zm:=Zx (by nofun) (lz (n:=20000) (by nofun));have hz2:rest.length+ts.length≤Zm:=lz (by nofun);have Yd:ts.length≤Zm:=lz (by nofun);have hcl:aR (ts.map Lk.D).reverse=Zh:=by rw [← aaX];exact aE oX
 have f:∀ G,(aL (ts.map Lk.D).reverse G).fw G=.ok (.con (ts.map Lk.D).reverse) G:=λG=>bG (by simpa using Yd) hcl;have hdl:((rest.map Lk.D).reverse++[t.D]).dropLast=(rest.map Lk.D).reverse:=ad4;have hix:((rest.map Lk.D).reverse++[t.D])[((rest.map Lk.D).reverse++[t.D]).length - 1]?=Zg t.D:=by simp
 have g1:∀ x y:DO,(G++[x,y])[G.length+1]?=Zg y:=λx y=>Q0 G x y [];have s1:∀ x y z:DO,(G++[x,y]).set (G.length+1) z=G++[x,z]:=λx y z=>UM G x y z [];have g0:∀ x y:DO,(G++[x,y])[G.length]?=Zg x:=λx y=>qV G x [y];have s0:∀ x y z:DO,(G++[x,y]).set G.length z=G++[z,y]:=λx y z=>zH G x z [y];have er:(t::rest).reverse.map Lk.D=(rest.map Lk.D).reverse++[t.D]:=by simp
 rw [er];have e1:(aH 4 (cJ "list" oH (af 3) ah)) [a0,Zg (.fn "look_parts"),Zg (.obj G.length),Zg (.obj (G.length+1)),one] (G++[.lst (acc.map Lk.D),.lst ((rest.map Lk.D).reverse++[t.D])])=.nx [a0,Zg (.fn "look_parts"),Zg (.obj G.length),Zg (.obj (G.length+1)),Zg t.D] (G++[.lst (acc.map Lk.D),.lst (rest.map Lk.D).reverse]):=by simp only [i0,mE,cS,ZQ,ZP,aD,f9,g1,bC,oH,hix,hdl,beq_self_eq_true,if_true,mD,aai,aaj,s1]
 rw [fE,bH,e1,cT];simp! [g0,s0,g1,s1,hz1,Ft,ep,vU,aW,f,v5,kX,hz2]
theorem oB {v:Nat} (G:DH) (a0:Option D):∀ (n fl:Nat) (stk acc:List Lk) (one:Option D),szl stk=n→n<fl→acc.length+n≤1000→(∀ t∈stk,t.Vo v) →
  ∃ one',gc (eU (ak vC (ai cZ (aa (af 3) (ah))) (eC (.int 0)))) fE fl [a0,Zg (.fn "look_parts"),Zg (.obj G.length),Zg (.obj (G.length+1)),one] (G++[.lst (acc.map Lk.D),.lst (stk.reverse.map Lk.D)])=.nx [a0,Zg (.fn "look_parts"),Zg (.obj G.length),Zg (.obj (G.length+1)),one'] (G++[.lst ((acc++stk.flatMap Lk.pre).map Lk.D),.lst []])
 | n,0,stk,acc,one,_,h,_,_=>by nofun
 | n,fl+1,[],acc,one,hn,h,hb,_=>by refine ⟨one,?_⟩;have g1:∀ x y:DO,(G++[x,y])[G.length+1]?=Zg y:=λx y=>Q0 G x y [];rw [vY];simp! [g1,vC]
 | n,fl+1,t::stk,acc,one,hn,h,hb,ho=>by
  have ht:=ho t (by simp);rw [szl] at hn;have hq:=z9 ht;have hss:=uT (csl t) stk;have hl1:=BR (csl t);have hl2:=BR stk;obtain ⟨one',e⟩:=oB G a0 (n - 1) fl (csl t++stk) (acc++[t]) (Zg t.D) (by nofun) (by nofun) (by simp;nofun) (λc hc=>by
   rcases aaU.mp hc with h | h
   ·exact Fq ht c h
   ·exact ho c (by simp [h]))
  refine ⟨one',?_⟩;have g1:∀ x y:DO,(G++[x,y])[G.length+1]?=Zg y:=λx y=>Q0 G x y [];have hz:stk.length+1≤Zm:=lz (by nofun);have hp:(0:Int)<(stk.length:Int)+1:=by nofun
  have et:=xw G a0 t stk acc one (by nofun) (by nofun) (by nofun) ht;have ec:eU (ak vC (ai cZ (aa (af 3) (ah))) (eC (.int 0))) [a0,Zg (.fn "look_parts"),Zg (.obj G.length),Zg (.obj (G.length+1)),one] (G++[.lst (acc.map Lk.D),.lst ((t::stk).reverse.map Lk.D)])=.ok Zh (G++[.lst (acc.map Lk.D),.lst ((t::stk).reverse.map Lk.D)]):=by simp! [g1,vC,hz,hp]
  rw [vY,ec,DL,Pn,et,gW,e,List.flatMap_append,aeE,Fp t];simp
theorem BS {v:Nat} (t:Lk) (ho:t.Vo v) (h:t.sz≤1000) (G:DH):ia [t.D,.fn "look_parts"] G=.ok (.con (t.pre.map Lk.D)) G:=by
 obtain ⟨one',e⟩:=oB G (Zg t.D) t.sz fuel [t] [] Zl (by simp [szl]) (by unfold fuel;nofun) (by simp;nofun) (λc hc=>by rw [ZI.mp hc];exact ho);have hp:[t].flatMap Lk.pre=t.pre:=by simp
 rw [hp] at e;simp only [aaw,List.reverse_nil,aam,Zy,ZU] at e;have z1:(1:Nat)≤Zm:=lz (by nofun);have hcl:aR (t.pre.map Lk.D)=Zh:=aE oX;unfold ia;refine gz (R:=[.dead,.lst []]) ?_ (by rw [cR];exact hcl);have u6:(Out.ok (D.obj G.length) (G++[.lst (t.pre.map Lk.D),.lst []])).fz=.ok (.con (t.pre.map Lk.D)) (G++[.dead,.lst []]):=zM;unfold jJ;generalize fuel=fl at e ⊢;simp! [aL,z1,e,u6]
theorem Nh:aak ("holds_by":Str) [("holds_by",((3:Nat),bO))]=Zg (3,bO):=by simp only [aak,beq_self_eq_true]
theorem Kg (G Z:DH) (x y:DO):(G++x::(Z++[y]))[G.length+(Z.length+1)]?=Zg y:=by
 have e:G++x::(Z++[y])=(G++x::Z)++y::[]:=by simp
 have l:G.length+(Z.length+1)=(G++x::Z).length:=by simp
 rw [e,l];exact qV _ _ _
theorem Kh (G Z:DH) (x y z:DO):(G++x::(Z++[y])).set (G.length+(Z.length+1)) z=G++x::(Z++[z]):=by
 have e:G++x::(Z++[y])=(G++x::Z)++y::[]:=by simp
 have l:G.length+(Z.length+1)=(G++x::Z).length:=by simp
 rw [e,l,zH];simp
theorem tF (G Z:DH) (a0 a1 a2 a4:Option D) (B:List D):∀ (xs:List D) (j:Nat) (ps:List D) (a6:Option D),ps.length+xs.length≤1000 →
  ∃ b6,bY (gN 6) iy ((Z6 j xs.length).map λ(k:Nat)=>.int (0+(k:Int))) [a0,a1,a2,Zg (.obj G.length),a4,Zg (.obj (G.length+(Z.length+1))),a6] (G++.lst (B++xs.reverse)::(Z++[.lst ps])) =
   .nx [a0,a1,a2,Zg (.obj G.length),a4,Zg (.obj (G.length+(Z.length+1))),b6] (G++.lst B::(Z++[.lst (ps++xs)]))
 | [],j,ps,a6,_=>⟨a6,by simp [bY]⟩
 | x::xs,j,ps,a6,h=>by
  simp only [ZN] at h;obtain ⟨b6,e⟩:=tF G Z a0 a1 a2 a4 B xs (j+1) (ps++[x]) (Zg (.int (0+(j:Int)))) (by simp;nofun);refine ⟨b6,?_⟩;have hz:ps.length<Zm:=Zx (by nofun) (lz (n:=2000) (by nofun));have er:B++(x::xs).reverse=(B++xs.reverse)++[x]:=by simp
  rw [er];generalize B++xs.reverse=C at e;have hdl:(C++[x]).dropLast=C:=ad4;have hix:(C++[x])[(C++[x]).length - 1]?=Zg x:=by simp
  have g1:=λx y=>Kg G Z x y;have s1:=λx y z=>Kh G Z x y z;have g0:∀ x y,(G++x::(Z++[y]))[G.length]?=Zg x:=λx y=>qV G x _;have s0:∀ x y z,(G++x::(Z++[y])).set G.length z=G++z::(Z++[y]):=λx y z=>zH G x z _;have ep:cJ "list" oH (af 3) ah [a0,a1,a2,Zg (.obj G.length),a4,Zg (.obj (G.length+(Z.length+1))),Zg (.int (0+(j:Int)))] (G++.lst (C++[x])::(Z++[.lst ps]))=.ok x (G++.lst C::(Z++[.lst ps])):=by simp only [mE,cS,ZQ,ZP,aD,f9,g0,bC,oH,hix,hdl,beq_self_eq_true,if_true,s0]
  have e1:iy [a0,a1,a2,Zg (.obj G.length),a4,Zg (.obj (G.length+(Z.length+1))),Zg (.int (0+(j:Int)))] (G++.lst (C++[x])::(Z++[.lst ps]))=.nx [a0,a1,a2,Zg (.obj G.length),a4,Zg (.obj (G.length+(Z.length+1))),Zg (.int (0+(j:Int)))] (G++.lst C::(Z++[.lst (ps++[x])])):=by simp only [iy,uf,mE (g:=cK),cS,ZQ,ZP,aD,f9,g1,aS,ep,bC,aj,cU,cK,beq_self_eq_true,if_true,hz,s1,JM]
  rw [ZN,ab6,Zy,bZ rfl];simp only [aai,aaj,e1,gW];rw [e];simp
theorem Fv {n:Nat} (A Z:DH) (a0 a5 a6:Option D) (caps:List D) (B:List D) (t:Lk) (ho:t.Vo n) (lD:List D) (rd:D) (hl:lD.length=(csl t).length) (hz:t.sz≤900) (hB:B.length≤5000) (hc2:caps.length=3) (em:∀ G,bO ([t.D,.con lD]++caps) G=.ok rd G) :
  ∃ (b5 b6:Option D),cC [a0,Zg (.fn "look_parts"),Zg (.iM "holds_by" caps),Zg (.obj A.length),Zg t.D,a5,a6] (A++.lst (B++lD.reverse)::Z) =
   .nx [a0,Zg (.fn "look_parts"),Zg (.iM "holds_by" caps),Zg (.obj A.length),Zg t.D,b5,b6] (A++.lst (B++[rd])::(Z++[.dead])):=by
 have hlt:=BR (csl t);have Zb:=z9 ho;have Zc:lD.length≤1000:=by nofun
 obtain ⟨b6,e⟩:=tF A Z a0 (Zg (.fn "look_parts")) (Zg (.iM "holds_by" caps)) (Zg t.D) B lD 0 [] a6 (by simp;nofun);have ep:=λG=>xu t ho G;have hr:=g6 (j:=(lD.length:Int)) (by nofun) (by nofun);rw [aaD] at hr;simp only [aam] at e;have hcl:((csl t).map Lk.D).length=lD.length:=by rw [ZG,hl]
 generalize t.D=td at e ep em;generalize (csl t).map Lk.D=cD at ep hcl;generalize ((Z6 0 lD.length).map λ(k:Nat)=>D.int (0+(k:Int)))=rg at hr e;have NH:lD.length≤Zm:=lz (by nofun);have Ye:B.length<Zm:=Zx (by nofun) (lz (n:=6000) (by nofun));refine ⟨Zg (.obj (A.length+(Z.length+1))),b6,?_⟩;have n0:∀ M:DO,aL [] (A++M::Z)=.ok (.obj (A.length+(Z.length+1))) (A++M::(Z++[.lst []])):=λM=>by simp [aL]
 have g1:=λx y=>Kg A Z x y;have s1:=λx y z=>Kh A Z x y z;have g0:∀ x Y,(A++x::Y)[A.length]?=Zg x:=λx Y=>qV A x Y;have s0:∀ x z Y,(A++x::Y).set A.length z=A++z::Y:=λx z Y=>zH A x z Y;have S1:(aH 5 (ai aL (ah))) [a0,Zg (.fn "look_parts"),Zg (.iM "holds_by" caps),Zg (.obj A.length),Zg td,a5,a6] (A++.lst (B++lD.reverse)::Z)=.nx [a0,Zg (.fn "look_parts"),Zg (.iM "holds_by" caps),Zg (.obj A.length),Zg td,Zg (.obj (A.length+(Z.length+1))),a6] (A++.lst (B++lD.reverse)::(Z++[.lst []])):=by simp only [i0,cV,bC,aD,n0,mD,Nz]
 have S2:(f7 eG (gN 6) (aa (ai cZ (aa (lK 1 1 (λy=>aak y [("look_parts",cW)]) (aa (af 4) (ah))) (ah))) (ah)) iy) [a0,Zg (.fn "look_parts"),Zg (.iM "holds_by" caps),Zg (.obj A.length),Zg td,Zg (.obj (A.length+(Z.length+1))),a6] (A++.lst (B++lD.reverse)::(Z++[.lst []]))=.nx [a0,Zg (.fn "look_parts"),Zg (.iM "holds_by" caps),Zg (.obj A.length),Zg td,Zg (.obj (A.length+(Z.length+1))),b6] (A++.lst B::(Z++[.lst lD])):=by simp! [Ft,ep,hcl,NH,hr,e]
 have eA:(aa (af 4) (aa (u0 (af 5)) (ah))) [a0,Zg (.fn "look_parts"),Zg (.iM "holds_by" caps),Zg (.obj A.length),Zg td,Zg (.obj (A.length+(Z.length+1))),b6] (A++.lst B::(Z++[.lst lD]))=.ok [td,.con lD] (A++.lst B::(Z++[.dead])):=by
  have ef:u0 (af 5) [a0,Zg (.fn "look_parts"),Zg (.iM "holds_by" caps),Zg (.obj A.length),Zg td,Zg (.obj (A.length+(Z.length+1))),b6] (A++.lst B::(Z++[.lst lD]))=.ok (.con lD) (A++.lst B::(Z++[.dead])):=by unfold u0;rw [Xo];simp only [g1,s1]
  rw [aS,Xm,aD,aj,aS,ef,aD,aj,bC,aD,cU,aD,cU]
 have eC:lP 2 2 (λy=>aak y [("holds_by",(3,bO))]) (aa (af 4) (aa (u0 (af 5)) (ah))) [a0,Zg (.fn "look_parts"),Zg (.iM "holds_by" caps),Zg (.obj A.length),Zg td,Zg (.obj (A.length+(Z.length+1))),b6] (A++.lst B::(Z++[.lst lD]))=.ok rd (A++.lst B::(Z++[.dead])):=by unfold lP;rw [Vg];dsimp only;rw [aj,eA,aD];unfold uu;rw [Vg];dsimp only;rw [Nh];simp only [hc2];exact em _
 rw [cC,bH,S1,cT,bH,S2,cT,uf,mE (g:=cK),Ro];simp only [aD,f9,g0,aS,eC,aj,bC,cU,cK,beq_self_eq_true,if_true,Ye,s0,JM]
def zb (A:DH) (a0:Option D) (caps:List D) (f:Lk→D) (t:Lk):Prop:=∀ (B:List D) (Z:DH) (a4 a5 a6:Option D),B.length+t.sz≤4000→∃ (Z':DH) (b4 b5 b6:Option D),∀ rest:List D,
  bY (gN 4) cC (t.pre.reverse.map Lk.D++rest) [a0,Zg (.fn "look_parts"),Zg (.iM "holds_by" caps),Zg (.obj A.length),a4,a5,a6] (A++.lst B::Z) =
  bY (gN 4) cC rest [a0,Zg (.fn "look_parts"),Zg (.iM "holds_by" caps),Zg (.obj A.length),b4,b5,b6] (A++.lst (B++[f t])::Z')
theorem Ac (A:DH) (a0:Option D) (caps:List D) (f:Lk→D):∀ (ts:List Lk),(∀ t∈ts,zb A a0 caps f t)→∀ (B:List D) (Z:DH) (a4 a5 a6:Option D),B.length+szl ts≤4000→∃ (Z':DH) (b4 b5 b6:Option D),∀ rest:List D,
  bY (gN 4) cC ((ts.flatMap Lk.pre).reverse.map Lk.D++rest) [a0,Zg (.fn "look_parts"),Zg (.iM "holds_by" caps),Zg (.obj A.length),a4,a5,a6] (A++.lst B::Z) =
  bY (gN 4) cC rest [a0,Zg (.fn "look_parts"),Zg (.iM "holds_by" caps),Zg (.obj A.length),b4,b5,b6] (A++.lst (B++(ts.map f).reverse)::Z')
 | [],_,B,Z,a4,a5,a6,_=>⟨Z,a4,a5,a6,λrest=>by simp⟩
 | t::ts,h,B,Z,a4,a5,a6,hB=>by
  rw [szl] at hB;have hlt:=BR ts;obtain ⟨Z',b4,b5,b6,e⟩:=Ac A a0 caps f ts (λx hx=>h x (by simp [hx])) B Z a4 a5 a6 (by nofun);obtain ⟨Z2,c4,c5,c6,e1⟩:=h t (by simp) (B++(ts.map f).reverse) Z' b4 b5 b6 (by rw [ZV,ab9,ZG];nofun);refine ⟨Z2,c4,c5,c6,λrest=>?_⟩;have er:((t::ts).flatMap Lk.pre).reverse.map Lk.D++rest=(ts.flatMap Lk.pre).reverse.map Lk.D++(t.pre.reverse.map Lk.D++rest):=by rw [aeE,List.reverse_append,aaL,aaQ]
  rw [er,e,e1];simp
theorem BU {n:Nat} (A Z' Z:DH) (a0:Option D) (caps:List D) (f:Lk→D) (t:Lk) (ho:t.Vo n) (B:List D) (a4 a5 a6 b4 b5 b6:Option D) (lD:List D) (hl:lD.length=(csl t).length) (hz:t.sz≤900) (hB:B.length≤5000) (hc2:caps.length=3) (em:∀ G,bO ([t.D,.con lD]++caps) G=.ok (f t) G)
  (e:∀ rest:List D,bY (gN 4) cC (((csl t).flatMap Lk.pre).reverse.map Lk.D++rest) [a0,Zg (.fn "look_parts"),Zg (.iM "holds_by" caps),Zg (.obj A.length),a4,a5,a6] (A++.lst B::Z) =
  bY (gN 4) cC rest [a0,Zg (.fn "look_parts"),Zg (.iM "holds_by" caps),Zg (.obj A.length),b4,b5,b6] (A++.lst (B++lD.reverse)::Z')) :
  ∃ (Z2:DH) (c4 c5 c6:Option D),∀ rest:List D,bY (gN 4) cC (t.pre.reverse.map Lk.D++rest) [a0,Zg (.fn "look_parts"),Zg (.iM "holds_by" caps),Zg (.obj A.length),a4,a5,a6] (A++.lst B::Z) =
  bY (gN 4) cC rest [a0,Zg (.fn "look_parts"),Zg (.iM "holds_by" caps),Zg (.obj A.length),c4,c5,c6] (A++.lst (B++[f t])::Z2):=by
 obtain ⟨c5,c6,e1⟩:=Fv A Z' a0 b5 b6 caps B t ho lD (f t) hl hz hB hc2 em;refine ⟨Z'++[.dead],Zg t.D,c5,c6,λrest=>?_⟩;have er:t.pre.reverse.map Lk.D++rest=((csl t).flatMap Lk.pre).reverse.map Lk.D++t.D::rest:=by rw [Fp,aaw,aaL,aaQ];rfl
 rw [er,e];have ec:=bZ (g:=gN 4) (body:=cC) (x:=t.D) (r:=rest) (G:=A++.lst (B++lD.reverse)::Z') (τ:=[a0,Zg (.fn "look_parts"),Zg (.iM "holds_by" caps),Zg (.obj A.length),b4,b5,b6]) (τ1:=[a0,Zg (.fn "look_parts"),Zg (.iM "holds_by" caps),Zg (.obj A.length),Zg t.D,b5,b6]) rfl;rw [ec,e1,gW]
theorem Jm {v:Nat} (A:DH) (a0:Option D) (f:Lk→D) (caps:List D) (hcp:caps.length=3) (Ni:∀ t:Lk,t.Vo v→∀ G,bO ([t.D,.con ((csl t).map f)]++caps) G=.ok (f t) G):∀ (n:Nat) (t:Lk),t.sz≤n→t.sz≤900→t.Vo v→zb A a0 caps f t:=by
 intro n
 induction n with
 | zero=>intro t h;have:=E6 t;nofun
 | succ n ih=>
  intro t hn hz ho B Z a4 a5 a6 hB;have hq:=z9 ho;have Yg:B.length≤5000:=by nofun
  have hs:B.length+szl (csl t)≤4000:=by nofun
  have hch:∀ c∈csl t,zb A a0 caps f c:=λc hc=>by have:=Aa hc;exact ih c (by nofun) (by nofun) (Fq ho c hc)
  obtain ⟨Z',b4,b5,b6,e⟩:=Ac A a0 caps f (csl t) hch B Z a4 a5 a6 hs;exact BU A Z' Z a0 caps f t ho B a4 a5 a6 b4 b5 b6 _ (ZG _) hz Yg hcp (Ni t ho) e
theorem BV {v:Nat} (f:Lk→D) (hf:∀ t,(f t).closed=Zh) (k m s:D) (Ni:∀ t:Lk,t.Vo v→∀ G,bO ([t.D,.con ((csl t).map f)]++[s,m,k]) G=.ok (f t) G) (l:Lk) (hz:l.sz≤900) (ho:l.Vo v) (G:DH) (hG:G.any (ko "holds_by")=Zh):iJ [l.D,k,m,s] G=.ok (f l) G:=by
 obtain ⟨Z',b4,b5,b6,e⟩:=Jm G (Zg l.D) f [s,m,k] rfl Ni l.sz l (Zs _) hz ho [] [] Zl Zl Zl (by simp;nofun);have e2:=e [];rw [aaA,eY] at e2;have ew:=BS l ho (by nofun) (G++[.lst []]);have hfr:=λτ G=>HU (g:=gN 4) (body:=cC) (xs:=l.pre.map Lk.D) (τ:=τ) (G:=G);rw [aaX] at e2;simp only [aam] at e2;have n0:aL [] G=.ok (.obj G.length) (G++[.lst []]):=by simp [aL]
 have g0:∀ x Y,(G++x::Y)[G.length]?=Zg x:=λx Y=>qV G x Y;have hcl:=hf l;have ef:mS [l.D,.fn "look_parts",.iM "holds_by" [s,m,k]] G=.ok (f l) (G++.lst [f l]::Z'):=by unfold mS;generalize l.pre.map Lk.D=pD at e2 ew hfr;generalize f l=tD at e2;generalize l.D=ld at e2 ew;simp! [qP,n0,ew,hfr,e2,g0,J5]
 unfold iJ;refine gz (R:=.lst [f l]::Z') ?_ hcl;generalize f l=tD at ef;generalize l.D=ld at ef;have eL:Bd "holds_by" [3,2,1] [Zg ld,Zg k,Zg m,Zg s] G=.ok (.iM "holds_by" [s,m,k]) G:=by unfold Bd;rw [if_pos hG];rfl
 have e5:bL 4 iI [ld,k,m,s] G=.ok tD (G++.lst [tD]::Z'):=by simp! [iI,eL,ef]
 show iV (bL 4 iI [ld,k,m,s] G)=_;rw [e5];rfl
def nb:List Bool→Nat
 | []=>0
 | b::r=>b.toNat+2*nb r
theorem BW (a b:Bool) (m n:Nat):(a.toNat+2*m) &&& (b.toNat+2*n)=(a&&b).toNat+2*(m &&& n):=by
 have h1:(a.toNat+2*m) / 2=m:=by cases a<;>simp<;>nofun
 have h2:(b.toNat+2*n) / 2=n:=by cases b<;>simp<;>nofun
 have h3:((a&&b).toNat+2*(m &&& n)) / 2=m &&& n:=by cases a<;>cases b<;>simp<;>nofun
 apply Nat.eq_of_testBit_eq;intro i;cases i with
 | zero=>rw [adL,adz,adz,adz];cases a<;>cases b<;>simp<;>nofun
 | succ i=>rw [adL,adA,adA,adA,h1,h2,h3,adL]
theorem Fw:∀ as bs:List Bool,as.length=bs.length→nb (abd and as bs)=nb as &&& nb bs
 | [],[],_=>rfl
 | a::as,b::bs,h=>by rw [acy,nb,nb,nb,BW,Fw as bs (by simpa using h)]
theorem Kl:∀ as bs:List Bool,as.length=bs.length→nb (abd or as bs)+nb (abd and as bs)=nb as+nb bs
 | [],[],_=>rfl
 | a::as,b::bs,h=>by have:=Kl as bs (by simpa using h);rw [acy,acy,nb,nb,nb,nb];cases a<;>cases b<;>simp<;>nofun
theorem Ad:∀ (bs:List Bool) (b:Bool),nb (bs++[b])=nb bs+b.toNat*2^bs.length
 | [],b=>by simp [nb]
 | a::bs,b=>by rw [adu,nb,Ad bs b,nb,ZN,adI];cases b<;>simp<;>nofun
theorem Fx:∀ (bs:List Bool) (j:Nat) (b:Bool),bs[j]?=Zg b→nb bs / 2^j % 2=b.toNat
 | c::bs,0,b,h=>by simp at h;subst h;rw [nb];cases c<;>simp<;>nofun
 | c::bs,j+1,b,h=>by
  have:=Fx bs j b (by simpa using h);have e:nb (c::bs) / 2=nb bs:=by rw [nb];cases c<;>simp<;>nofun
  rw [adI,aex,← Nat.div_div_eq_div_mul,e,this]
theorem Uk (m n:Nat):aae (m:Int) (n:Int)=((m &&& n:Nat):Int):=by rfl
theorem Ae (as bs:List Bool) (h:as.length=bs.length):aae (nb as:Int) (nb bs:Int)=(nb (abd and as bs):Int):=by rw [Uk,Fw as bs h]
theorem Qx (as bs:List Bool) (h:as.length=bs.length):aag (nb as:Int) (nb bs:Int)=(nb (abd or as bs):Int):=by have e1:=PyProof.Rows.bitXor_and (nb as:Int) (nb bs:Int);have e2:aa2 (nb as:Int) (nb bs:Int)=aag (nb as:Int) (nb bs:Int) - aae (nb as:Int) (nb bs:Int):=rfl;have e3:=Ae as bs h;have:=Kl as bs h;nofun
theorem Fz:∀ (n v:Nat),v<2^n→∃ bs:List Bool,bs.length=n∧nb bs=v
 | 0,v,h=>⟨[],rfl,by simp at h;simp [nb,h]⟩
 | n+1,v,h=>by rw [adI] at h;obtain ⟨bs,h1,h2⟩:=Fz n (v / 2) (by nofun);refine ⟨(v % 2==1)::bs,by simp [h1],?_⟩;rw [nb,h2];rcases (show v % 2=0∨v % 2=1 by nofun) with e | e<;>simp [e]<;>nofun
theorem uV (n:Nat) (hn:n≤1000) (G:DH):g8 (.int 1) (.int (n:Int)) G=.ok (.int (2^n)) G:=by
 have z1:((n:Nat):Int)≤1000000:=by nofun
 simp [g8,cF,z1,M.ret]
def B8 (c:Rw→Bool) (n:Nat) (W:List Rw):List Int:=((W.mapIdx λi w=>(n+i,w)).filter λp=>c p.2).map λp=>(2:Int)^p.1
theorem Af (c:Rw→Bool):∀ (W:List Rw) (n:Nat),(B8 c n W).sum=(2:Int)^n*(nb (W.map c):Int)
 | [],n=>by simp [B8,nb]
 | d::W,n=>by
  have ih:=Af c W (n+1);have em:(W.mapIdx λi w=>(n+(i+1),w))=W.mapIdx λi w=>(n+1+i,w):=by congr 1;funext i w;rw [Nat.add_assoc,Nat.add_comm 1 i]
  have e:B8 c n (d::W)=(if c d then [(2:Int)^n] else [])++B8 c (n+1) W:=by unfold B8;rw [aeR,em];cases h:c d<;>simp [h]
  rw [e,aeX,ih,Zy,nb,Int.pow_succ];cases c d<;>simp [Int.mul_add,Int.mul_assoc]
theorem xx (c:Rw→Bool) (ks:List Bool) (tt:DS→M Bool) (W:List Rw) (hz:W.length≤500) (τ:DS) (G:DH) (ht:∀ w∈W,∀ (j:Nat) (acc:List D),tt (Zg (.int (j:Int))::Zg w.D::mask ks (Zg (.tup (W.map Rw.D))::τ)) (G++[.lst acc])=.ok (c w) (G++[.lst acc])) :
  ai iD (aa (eFn (dZ (oT 2) ks (dH (aa (af 0) (ah))) tt (ak g8 (eC (.int 1)) (af 0)))) (ah)) (Zg (.tup (W.map Rw.D))::τ) G=.ok (.int (nb (W.map c):Int)) G:=by
 have hc:=dI (gO:=oT 2) (ks:=ks) (tt:=tt) (te:=ak g8 (eC (.int 1)) (af 0)) (own:=λp:Nat×Rw=>[D.int (p.1:Int),p.2.D]) (dat:=λp=>D.tup [.int (p.1:Int),p.2.D]) (f:=λp=>D.int ((2:Int)^p.1)) (c:=λp=>c p.2) (G:=G) (τ:=Zg (.tup (W.map Rw.D))::τ) (W.mapIdx λi w=>(0+i,w)) [] (by simp;nofun) (λ_ _=>rfl) (λp hp acc=>by
  obtain ⟨i,hi,e⟩:=ae2.mp hp;exact ht p.2 (by rw [← e];exact aau hi) p.1 acc) (λp hp acc=>by
  obtain ⟨i,hi,e⟩:=ae2.mp hp;have hl:p.1≤1000:=by rw [← e];show 0+i≤1000;nofun
  show ak g8 (eC (.int 1)) (af 0) (Zg (.int (p.1:Int))::_) _=_;rw [dB,g7,aD,aj,Px,aD,uV p.1 hl])
 have em:((W.mapIdx λi w=>(0+i,w)).map λp:Nat×Rw=>D.tup [.int (p.1:Int),p.2.D])=(W.map Rw.D).mapIdx λi x=>D.tup [.int (i:Int),x]:=by
  apply ady
  ·simp
  ·intro i h1 h2;simp
 have Qk:(((W.mapIdx λi w=>(0+i,w)).filter λp=>c p.2).map λp:Nat×Rw=>D.int ((2:Int)^p.1))=(B8 c 0 W).map .int:=by unfold B8;rw [aaM];rfl
 rw [em,Qk,aam,← yy] at hc;have hs:=Af c W 0;rw [Int.pow_zero,aeV] at hs;have hcl:aR ((B8 c 0 W).map D.int)=Zh:=aE λ_=>aM;have hi:=gu (B8 c 0 W);rw [← hs];have eI:dH (aa (af 0) (ah)) (Zg (.tup (W.map Rw.D))::τ) G=.ok ((W.map Rw.D).length+1,kj (W.map Rw.D)) G:=rfl;have eC:eFn (dZ (oT 2) ks (dH (aa (af 0) (ah))) tt (ak g8 (eC (.int 1)) (af 0))) (Zg (.tup (W.map Rw.D))::τ) G=.ok (.con ((B8 c 0 W).map .int)) G:=by rw [aW,vX,eI,aD,hc];exact jF hcl
 have eS:iD [.con ((B8 c 0 W).map D.int)] G=.ok (.int (B8 c 0 W).sum) G:=by simp [iD,aF,hi]
 rw [cV,aS,eC,aD,aj,bC,aD,cU,aD,eS]
def qU (goes:List Str) (w:Rw):Bool:=goes.any (·==w.g)
theorem uW (W:List Rw) (hW:Tb W) (hz:W.length≤500) (goes:List Str) (hgo:aax (goes.map ab2)=Zh) (G:DH):cL [.tup (W.map Rw.D),.tup (goes.map .str)] G=.ok (.int (nb (W.map (qU goes)):Int)) G:=by
 have e:=xx (qU goes) [Zk,Zh] (eU (ak (vE Zk) (ak aQ (af 1) (eC (.int 0))) (af 3))) W hz [Zg (.tup (goes.map .str))] G (λw hw j acc=>by have h3:=ins w.g goes (G++[.lst acc]) (hW w hw).1.ok hgo (b:=qU goes w) rfl;show eU (ak (vE Zk) (ak aQ (af 1) (eC (.int 0))) (af 3)) [Zg (.int (j:Int)),Zg w.D,Zl,Zg (.tup (goes.map .str))] _=_;have h1:aQ w.D (.int 0) (G++[.lst acc])=.ok (.str w.g) (G++[.lst acc]):=rfl;rw [sy,dB,Qc,h1,aD,aj,Ro,aD,h3,aD,nB])
 unfold cL;refine aT ?_ aM;rw [eu];show (g9 [Zg (.tup (W.map Rw.D)),Zg (.tup (goes.map .str))] G).fn=_;unfold g9;rw [i6,e];rfl
theorem Ag (sb:List Bool) (j:Nat) (b:Bool) (h:sb[j]?=Zg b) (G:DH):jk [.int (j:Int),.int (nb sb:Int)] G=.ok (.bl b) G:=by
 have e1:Iu (.int (nb sb:Int)) (.int (j:Int)) G=.ok (.int ((nb sb / 2^j:Nat):Int)) G:=by simp [Iu,cF,M.ret]
 have e2:rq (.int ((nb sb / 2^j:Nat):Int)) (.int 1) G=.ok (.int (b.toNat:Int)) G:=by rw [xo,PyProof.Rows.bitAnd_m1,← Fx sb j b h];rfl
 have e3:fZ Zk (.int (b.toNat:Int)) (.int 1) G=.ok (.bl b) G:=by rw [bS];cases b<;>rfl
 generalize ((nb sb / 2^j:Nat):Int)=v at e1 e2;unfold jk;refine aT ?_ rfl;rw [eu];show (kO [Zg (.int (j:Int)),Zg (.int (nb sb:Int))] G).fn=_;unfold kO;rw [i6,dB,dB,Vf,Px,aD,e1,aD,aj,g7,aD,e2,aD,aj,g7,aD,e3];rfl
theorem FA {ma:DS→M D} {τ:DS} {G:DH}:GV ma τ G=(ma τ G).bd λd=>match d with
 | .bl b=>M.ret (.bl (!b))
 | _=>M.stop:=aj
def Lk.ev (k:Str) (m:Bool) (sb:List Bool):Lk→Bool
 | .one b=>!b||m
 | .kind s=>k==s
 | .mj j=>sb.getD j Zk
 | .not l=>!(l.ev k m sb)
 | .bin e l r=>if e then l.ev k m sb||r.ev k m sb else l.ev k m sb&&r.ev k m sb
 | .way _=>Zh
theorem FD (k:Str) (hk:Zt k=Zh) (m:Bool) (sb:List Bool) (t:Lk) (ho:t.Vo sb.length) (G:DH):jK [t.D,.con ((csl t).map λc=>.bl (c.ev k m sb)),.str k,.bl m,.int (nb sb:Int)] G=.ok (.bl (t.ev k m sb)) G:=by
 unfold jK;refine aT ?_ rfl;have go:∀ (s:Str) (b:Bool) (c:Str),Zt s=Zh→Zt c=Zh→(s==c)=b→fZ Zk (.str s) (.str c) G=.ok (.bl b) G:=λs b c h1 h2 h3=>eqs s c G h1 h2 h3;have ir:Zt ("mark":Str)=Zh:=by symm
 have pF:Zt ("both":Str)=Zh:=by symm
 have tG:Zt ("either":Str)=Zh:=by symm
 cases t with
 | one b=>have e1:=go (jQ b) Zk "kind" (eE b) bU (by cases b<;>symm);have e2:=go (jQ b) b "mark" (eE b) ir (by cases b<;>symm);have e3:=go (jQ b) Zk "from" (eE b) bQ (by cases b<;>symm);have e4:=go (jQ b) Zk "not" (eE b) bJ (by cases b<;>symm);have e5:=go (jQ b) Zk "both" (eE b) pF (by cases b<;>symm);have e6:=go (jQ b) Zk "either" (eE b) tG (by cases b<;>symm);rw [Lk.ev];generalize (nb sb:Int)=v;cases b<;>simp! [dM,Lk.D,csl,J5,e1,e2,e3,e4,e5,e6,uE]
 | kind s=>have hs:Zt s=Zh:=ho;have e1:=go "kind" Zh "kind" bU bU (by symm);have e2:=go k _ s hk hs rfl;rw [Lk.ev];generalize (nb sb:Int)=v;generalize (k==s)=bb at e2;simp! [dM,Lk.D,csl,xj,BI,e1,e2]
 | mj j=>
  have hj:j<sb.length:=ho;have e1:=go "from" Zk "kind" bQ bU (by symm);have e2:=go "from" Zk "mark" bQ ir (by symm);have e3:=go "from" Zh "from" bQ bQ (by symm);have e4:=Ag sb j sb[j] (Zr hj) G;have e5:Lk.ev k m sb (.mj j)=sb[j]:=by simp [Lk.ev,ab5,hj]
  rw [e5];generalize (nb sb:Int)=v at e4;generalize sb[j]=bb at e4;simp! [dM,Lk.D,csl,xj,BI,e1,e2,e3,e4]
 | not l=>have e1:=go "not" Zk "kind" bJ bU (by symm);have e2:=go "not" Zk "mark" bJ ir (by symm);have e3:=go "not" Zk "from" bJ bQ (by symm);have e4:=go "not" Zh "not" bJ bJ (by symm);rw [Lk.ev];generalize (nb sb:Int)=v;show bL 5 dM [_,.con [.bl (l.ev k m sb)],_,_,_] G=_;generalize l.ev k m sb=bb;generalize l.D=ld;rw [Lk.D];simp! [dM,xj,J5,e1,e2,e3,e4,FA]
 | bin e l r=>have e1:=go (gQ e) Zk "kind" (cu e) bU (by cases e<;>symm);have e2:=go (gQ e) Zk "mark" (cu e) ir (by cases e<;>symm);have e3:=go (gQ e) Zk "from" (cu e) bQ (by cases e<;>symm);have e4:=go (gQ e) Zk "not" (cu e) bJ (by cases e<;>symm);have e5:=go (gQ e) (!e) "both" (cu e) pF (by cases e<;>symm);have e6:=go (gQ e) e "either" (cu e) tG (by cases e<;>symm);rw [Lk.ev];generalize (nb sb:Int)=v;show bL 5 dM [_,.con [.bl (l.ev k m sb),.bl (r.ev k m sb)],_,_,_] G=_;generalize l.ev k m sb=bb;generalize r.ev k m sb=bc;rw [Lk.D];generalize l.D=ld;generalize r.D=rd;cases e<;>cases bb<;>simp! [dM,M6,xj,BI,e1,e2,e3,e4,e5,e6,yE,D7]
 | way w=>exact ho.elim
theorem uX (A B:DH) (c:Str) (fs:List (Str×D)):k9 (A++.ins c fs::B) c (.obj A.length)=Zg fs:=by unfold k9;dsimp only;rw [qV];exact if_pos rfl
theorem mX {A B B':DH} {c f:Str} {v:D} {fs fs':List (Str×D)} (hfs:fs.length<1000) {mv mo:DS→M D} {τ:DS} (h1:mv τ (A++.ins c fs::B)=.ok v (A++.ins c fs::B')) (h2:mo τ (A++.ins c fs::B')=.ok (.obj A.length) (A++.ins c fs::B')) (h3:ou f v fs=fs'):kr c f mv mo τ (A++.ins c fs::B)=.nx τ (A++.ins c fs'::B'):=by
 have e:zV c f v (.obj A.length) (A++.ins c fs::B')=.ok .cy (A++.ins c fs'::B'):=by unfold zV;rw [uX];dsimp only;rw [if_pos hfs,zH,h3]
 unfold kr bz;rw [aj,h1,aD,aj,h2,aD,e]
theorem kU (A B:DH) (c f:Str) (fs:List (Str×D)) (v:D) (h:fs.lookup f=Zg v) (τ:DS):mP c f (af 0) (Zg (.obj A.length)::τ) (A++.ins c fs::B)=.ok v (A++.ins c fs::B):=by unfold mP;rw [aj,Px,aD,uX];dsimp only;rw [h]
abbrev fields (t a b c h:D):List (Str×D):=[("rows",t),("into",a),("across",b),("through",c),("hits",h)]
theorem Jo (W:List Rw) (hW:Tb W) (hz:W.length≤500) (G:DH):dR [.obj G.length,.tup (W.map Rw.D)] (G++[.ins "MaskBook" []])=.ok .cy (G++[.ins "MaskBook" (fields (.tup (W.map Rw.D)) (.int (nb (W.map (qU ["down","deep"])):Int)) (.int (nb (W.map (qU ["later"])):Int)) (.int (nb (W.map (qU ["deep"])):Int)) (.obj (G.length+1))),.iN Zk []]):=by have b1:=λG=>uW W hW hz ["down","deep"] (by symm) G;have b2:=λG=>uW W hW hz ["later"] (by symm) G;have b3:=λG=>uW W hW hz ["deep"] (by symm) G;simp only [Zy,ZU] at b1 b2 b3;generalize (nb (W.map (qU ["down","deep"])):Int)=i1 at b1;generalize (nb (W.map (qU ["later"])):Int)=i2 at b2;generalize (nb (W.map (qU ["deep"])):Int)=i3 at b3;generalize W.map Rw.D=T at b1 b2 b3;have z1:(1:Nat)≤Zm:=lz (by nofun);have z2:(2:Nat)≤Zm:=lz (by nofun);rw [show dR [.obj G.length,.tup T]=bL 2 dQ [.obj G.length,.tup T] from rfl,eu];show (dQ [Zg (.obj G.length),Zg (.tup T)] _).fn=_;have S1:=mX (A:=G) (B:=[]) (B':=[]) (c:="MaskBook") (f:="rows") (v:=.tup T) (fs:=[]) (fs':=[("rows",.tup T)]) (by simp) (mv:=af 1) (mo:=af 0) (τ:=[Zg (.obj G.length),Zg (.tup T)]) rfl rfl rfl;have S2:=mX (A:=G) (B:=[]) (B':=[]) (c:="MaskBook") (f:="into") (v:=.int i1) (fs:=[("rows",.tup T)]) (fs':=[("rows",.tup T),("into",.int i1)]) (by simp) (mv:=az 2 cL (aa (af 1) (aa (ai bK (aa (eC (.str "down")) (aa (eC (.str "deep")) (ah)))) (ah)))) (mo:=af 0) (τ:=[Zg (.obj G.length),Zg (.tup T)]) (by simp! [z2,b1]) rfl rfl;have S3:=mX (A:=G) (B:=[]) (B':=[]) (c:="MaskBook") (f:="across") (v:=.int i2) (fs:=[("rows",.tup T),("into",.int i1)]) (fs':=[("rows",.tup T),("into",.int i1),("across",.int i2)]) (by simp) (mv:=az 2 cL (aa (af 1) (aa (ai bK (aa (eC (.str "later")) (ah))) (ah)))) (mo:=af 0) (τ:=[Zg (.obj G.length),Zg (.tup T)]) (by simp! [z1,b2]) rfl rfl;have S4:=mX (A:=G) (B:=[]) (B':=[]) (c:="MaskBook") (f:="through") (v:=.int i3) (fs:=[("rows",.tup T),("into",.int i1),("across",.int i2)]) (fs':=[("rows",.tup T),("into",.int i1),("across",.int i2),("through",.int i3)]) (by simp) (mv:=az 2 cL (aa (af 1) (aa (ai bK (aa (eC (.str "deep")) (ah))) (ah)))) (mo:=af 0) (τ:=[Zg (.obj G.length),Zg (.tup T)]) (by simp! [z1,b3]) rfl rfl;have S5:=mX (A:=G) (B:=[]) (B':=[.iN Zk []]) (c:="MaskBook") (f:="hits") (v:=.obj (G.length+1)) (fs:=[("rows",.tup T),("into",.int i1),("across",.int i2),("through",.int i3)]) (fs':=fields (.tup T) (.int i1) (.int i2) (.int i3) (.obj (G.length+1))) (by simp) (mv:=uq) (mo:=af 0) (τ:=[Zg (.obj G.length),Zg (.tup T)]) (by simp [uq]) rfl rfl;unfold dQ;rw [bH,S1,cT,bH,S2,cT,bH,S3,cT,bH,S4,cT,S5];rfl
theorem Qy (i j:Int) (G:DH):Ip (.int i) (.int j) G=.ok (.int (aag i j)) G:=rfl
theorem BX (G B:DH) (t c h:D) (a b x y:Int):dP [.obj G.length,.int x,.int y] (G++.ins "MaskBook" (fields t (.int a) (.int b) c h)::B)=.ok (.int (aag (aae x a) (aae y b))) (G++.ins "MaskBook" (fields t (.int a) (.int b) c h)::B):=by have f1:=kU G B "MaskBook" "into" (fields t (.int a) (.int b) c h) (.int a) rfl [Zg (.int x),Zg (.int y)];have f2:=kU G B "MaskBook" "across" (fields t (.int a) (.int b) c h) (.int b) rfl [Zg (.int x),Zg (.int y)];generalize fields t (.int a) (.int b) c h=fs at f1 f2;rw [show dP [.obj G.length,.int x,.int y]=bL 3 dO [.obj G.length,.int x,.int y] from rfl,eu];show (dO [Zg (.obj G.length),Zg (.int x),Zg (.int y)] _).fn=_;unfold dO;rw [i6,dB,Vf,f1,aD,xo,aD,aj,Xj,f2,aD,xo,aD,Qy];rfl
def cB (W:List Rw) (bb be:List Bool):List Bool:=abd or (abd and bb (W.map (qU ["down","deep"]))) (abd and be (W.map (qU ["later"])))
theorem FE (k:Str) (hk:Zt k=Zh) (m:Bool) (sb:List Bool) (l:Lk) (hl:l.Vo sb.length) (hs:l.sz≤900) (G:DH) (hG:G.any (ko "holds_by")=Zh):iJ [l.D,.str k,.bl m,.int (nb sb:Int)] G=.ok (.bl (l.ev k m sb)) G:=
 BV (v:=sb.length) (λt=>.bl (t.ev k m sb)) (λ_=>rfl) (.str k) (.bl m) (.int (nb sb:Int)) (λt ht G=>by
  have e:=FD k hk m sb t ht G;generalize (csl t).map (λc=>D.bl (c.ev k m sb))=ps at e;generalize D.bl (t.ev k m sb)=res at e;generalize (nb sb:Int)=sv at e;generalize t.D=td at e;show iV (A9 5 dw [td,.con ps,.int sv,.bl m,.str k] G)=_;have e2:A9 5 dw [td,.con ps,.int sv,.bl m,.str k] G=.ok res G:=by show dw [Zg td,Zg (.con ps),Zg (.int sv),Zg (.bl m),Zg (.str k)] G=_;unfold dw;simp only [fh,TX,TV,Vi,TR,TU,bC,aD,cU,ZN,aaJ,if_true,e]
  rw [e2];rfl) l hs hl G hG
def B9 (sb:List Bool):Option Nat→Bool
 | none=>Zh
 | some i=>sb.getD i Zk
def hit (k:Str) (m:Bool) (sb:List Bool) (w:Rw):Bool:=B9 sb w.r&&w.t.ev k m sb
theorem Nj (k:Str) (hk:Zt k=Zh) (m:Bool) (sb:List Bool) (w:Rw) (hw:w.Ok sb.length) (G:DH) (hG:G.any (ko "holds_by")=Zh):jm [w.D,.str k,.bl m,.int (nb sb:Int)] G=.ok (.bl (hit k m sb w)) G:=by
 obtain ⟨h1,h2,h3,h3',h4⟩:=hw;have e0:=FE k hk m sb w.t h2 h3' G hG;rw [hit];generalize w.t.ev k m sb=bb at e0;unfold jm;refine aT ?_ rfl;rw [Rw.D];generalize w.t.D=td at e0;cases hr:w.r with
 | none=>rw [show oD Zl=.cy from rfl,show (B9 sb Zl&&bb)=bb by simp [B9]];generalize (nb sb:Int)=sv at e0;simp! [mT,a32,M7,pU,e0]
 | some i=>have hi:i<sb.length:=h4 i hr;have es:=Ag sb i sb[i] (Zr hi) G;rw [show oD (Zg i)=.int (i:Int) from rfl,show B9 sb (Zg i)=sb[i] by simp [B9,ab5,hi]];generalize (nb sb:Int)=sv at e0 es;generalize sb[i]=b at es;cases b<;>simp! [mT,a32,M7,pU,es,e0]
theorem Jp (k:Str) (hk:Zt k=Zh) (m:Bool) (sb:List Bool) (W:List Rw) (hW:∀ w∈W,w.Ok sb.length) (hz:W.length≤500) (G:DH) (hG:G.any (ko "holds_by")=Zh):jn [.tup (W.map Rw.D),.str k,.bl m,.int (nb sb:Int)] G=.ok (.int (nb (W.map (hit k m sb)):Int)) G:=by
 have e:=xx (hit k m sb) [Zk,Zh,Zh,Zh] (iZ l9 (az 4 jm (aa (af 1) (aa (af 3) (aa (af 4) (aa (af 5) (ah))))))) W hz [Zg (.str k),Zg (.bl m),Zg (.int (nb sb:Int))] G (λw hw j acc=>by have h:=Nj k hk m sb w (hW w hw) (G++[.lst acc]) (by rw [ae3,hG];rfl);show iZ l9 (az 4 jm (aa (af 1) (aa (af 3) (aa (af 4) (aa (af 5) (ah)))))) [Zg (.int (j:Int)),Zg w.D,Zl,Zg (.str k),Zg (.bl m),Zg (.int (nb sb:Int))] _=_;generalize w.D=wd at h;generalize (nb sb:Int)=sv at h;simp! [h])
 unfold jn;refine aT ?_ aM;rw [eu];show (kP [Zg (.tup (W.map Rw.D)),Zg (.str k),Zg (.bl m),Zg (.int (nb sb:Int))] G).fn=_;unfold kP;rw [i6,e];rfl
def mbits (k:Str) (m:Bool) (W:List Rw) (bb be:List Bool):List Bool:=abd or (W.map (hit k m (cB W bb be))) (abd and bb (W.map (qU ["deep"])))
theorem Jq (W:List Rw) (hW:Tb W) (hz:W.length≤500) (k:Str) (hk:Zt k=Zh) (m:Bool) (bb be:List Bool) (h1:bb.length=W.length) (h2:be.length=W.length) (G:DH) (hG:G.any (ko "holds_by")=Zh):kR [.tup (W.map Rw.D),.str k,.bl m,.int (nb bb:Int),.int (nb be:Int)] G=.ok (.int (nb (mbits k m W bb be):Int)) G:=by
 have hsl:(cB W bb be).length=W.length:=by simp [cB,h1,h2]
 have e1:=Jo W hW hz G;have e2:=λB h=>BX G B (.tup (W.map Rw.D)) (.int (nb (W.map (qU ["deep"])):Int)) h (nb (W.map (qU ["down","deep"])):Int) (nb (W.map (qU ["later"])):Int) (nb bb:Int) (nb be:Int);rw [Ae _ _ (by simp [h1]),Ae _ _ (by simp [h2]),Qx _ _ (by simp [h1,h2])] at e2;change ∀ B h,dP _ _=.ok (.int (nb (cB W bb be):Int)) _ at e2;have e3:=λX=>Jp k hk m (cB W bb be) W (λw hw=>by rw [hsl];exact hW w hw) hz (G++X) (by rw [ae3,hG];rfl);have e4:Ip (.int (nb (W.map (hit k m (cB W bb be))):Int)) (.int (aae (nb bb:Int) (nb (W.map (qU ["deep"])):Int)))=λG=>.ok (.int (nb (mbits k m W bb be):Int)) G:=by funext G;rw [Qy,Ae _ _ (by simp [h1]),Qx _ _ (by simp [h1])];rfl
 generalize (nb (mbits k m W bb be):Int)=res at e4;generalize (nb (W.map (hit k m (cB W bb be))):Int)=hv at e3 e4;generalize (nb (cB W bb be):Int)=sv at e2 e3;generalize (nb (W.map (qU ["deep"])):Int)=i3 at e1 e2 e4;generalize (nb (W.map (qU ["down","deep"])):Int)=i1 at e1 e2;generalize (nb (W.map (qU ["later"])):Int)=i2 at e1 e2;generalize (nb bb:Int)=v1 at e2 e4;generalize (nb be:Int)=v2 at e2;generalize W.map Rw.D=T at e1 e2 e3;have z3:(3:Nat)≤Zm:=lz (by nofun);have key:oj (.tup [.str k,.bl m,.int sv])=Zg [Sum.inr k,Sum.inl (bI m),Sum.inl sv]:=rfl;obtain ⟨fs,hfs⟩:∃ fs,fs=fields (.tup T) (.int i1) (.int i2) (.int i3) (.obj (G.length+1)):=⟨_,rfl⟩;have l1:fs.lookup ("seen":Str)=Zl:=by rw [hfs];rfl
 have l2:fs.lookup ("mask":Str)=Zl:=by rw [hfs];rfl
 have l3:fs.lookup ("hits":Str)=Zg (.obj (G.length+1)):=by rw [hfs];rfl
 have l4:fs.lookup ("rows":Str)=Zg (.tup T):=by rw [hfs];rfl
 have l5:fs.lookup ("through":Str)=Zg (.int i3):=by rw [hfs];rfl
 have tZ:=λB=>e2 B (.obj (G.length+1));rw [← hfs] at e1 tZ;clear e2;have g1:∀ x,(G++[DO.ins "MaskBook" fs,x])[G.length+1]?=Zg x:=λx=>Q0 G _ x [];have s1:∀ x y,(G++[DO.ins "MaskBook" fs,x]).set (G.length+1) y=G++[.ins "MaskBook" fs,y]:=λx y=>UM G _ x y [];have eM:dU [.obj G.length,.str k,.bl m,.int v1,.int v2] (G++[.ins "MaskBook" fs,.iN Zk []])=.ok (.int res) (G++[.ins "MaskBook" fs,.iN Zk [([Sum.inr k,Sum.inl (bI m),Sum.inl sv],.int hv)]]):=by
  rw [show dU [.obj G.length,.str k,.bl m,.int v1,.int v2]=bL 7 dS [.obj G.length,.str k,.bl m,.int v1,.int v2] from rfl,eu];show (dS [Zg (.obj G.length),Zg (.str k),Zg (.bl m),Zg (.int v1),Zg (.int v2),Zl,Zl] _).fn=_;rw [dS];refine gw (v:=.int sv) (G':=G++[.ins "MaskBook" fs,.iN Zk []]) ?_ ?_
  ·unfold kB;rw [aj,Px,aD,uX G [.iN Zk []]];dsimp only;rw [if_pos l1,aj,TV,TX,bC,aD,cU,aD,cU,aD,if_pos (show [D.int v1,.int v2].length+1=3 from rfl),tZ];rfl
  rw [Nz];refine gw (v:=.tup [.str k,.bl m,.int sv]) (G':=G++[.ins "MaskBook" fs,.iN Zk []]) (by simp! [z3]) ?_;rw [Rp];refine sW (τ':=[Zg (.obj G.length),Zg (.str k),Zg (.bl m),Zg (.int v1),Zg (.int v2),Zg (.int sv),Zg (.tup [.str k,.bl m,.int sv])]) (G':=G++[.ins "MaskBook" fs,.iN Zk [([Sum.inr k,Sum.inl (bI m),Sum.inl sv],.int hv)]]) ?_ ?_
  ·have f1:=kU G [.iN Zk []] "MaskBook" "hits" fs _ l3;have f2:=kU G [.iN Zk []] "MaskBook" "rows" fs _ l4;have n1:mQ (.tup [.str k,.bl m,.int sv]) (.obj (G.length+1)) (G++[.ins "MaskBook" fs,.iN Zk []])=.ok (.bl Zh) (G++[.ins "MaskBook" fs,.iN Zk []]):=by unfold mQ;rw [key];dsimp only;rw [g1];rfl
   have MW:=e3 [.ins "MaskBook" fs,.iN Zk []];have hl:(0:Nat)<Zm:=Zx (by nofun) z3;have p1:sF (.int hv) (.obj (G.length+1)) (.tup [.str k,.bl m,.int sv]) (G++[.ins "MaskBook" fs,.iN Zk []])=.ok .cy (G++[.ins "MaskBook" fs,.iN Zk [([Sum.inr k,Sum.inl (bI m),Sum.inl sv],.int hv)]]):=by unfold sF;rw [key];dsimp only;rw [g1];dsimp only;rw [if_pos (show ([]:List (List Key×D)).length<Zm from hl),s1];rfl
   have ec:az 4 jn (aa (mP "MaskBook" "rows" (af 0)) (aa (af 1) (aa (af 2) (aa (af 5) (ah))))) [Zg (.obj G.length),Zg (.str k),Zg (.bl m),Zg (.int v1),Zg (.int v2),Zg (.int sv),Zg (.tup [.str k,.bl m,.int sv])] (G++[.ins "MaskBook" fs,.iN Zk []])=.ok (.int hv) (G++[.ins "MaskBook" fs,.iN Zk []]):=by rw [fh,aS,f2];exact MW
   rw [mC,sy,Xr,f1,aD,n1,aD,nB,DL];unfold qx bz;rw [aj,ec,aD,aj,f1,aD,aj,Vl,aD,p1]
  ·have f1:=kU G [.iN Zk [([Sum.inr k,Sum.inl (bI m),Sum.inl sv],.int hv)]] "MaskBook" "hits" fs _ l3;have f2:=kU G [.iN Zk [([Sum.inr k,Sum.inl (bI m),Sum.inl sv],.int hv)]] "MaskBook" "through" fs _ l5;have i1:HW (.obj (G.length+1)) (.tup [.str k,.bl m,.int sv]) (G++[.ins "MaskBook" fs,.iN Zk [([Sum.inr k,Sum.inl (bI m),Sum.inl sv],.int hv)]])=.ok (.int hv) (G++[.ins "MaskBook" fs,.iN Zk [([Sum.inr k,Sum.inl (bI m),Sum.inl sv],.int hv)]]):=by unfold HW;rw [key];dsimp only;rw [g1];dsimp only;rw [show nE [([Sum.inr k,Sum.inl (bI m),Sum.inl sv],D.int hv)] [Sum.inr k,Sum.inl (bI m),Sum.inl sv]=Zg (.int hv) by simp [nE]]
   rw [i6,dB];unfold zN;rw [aj,f1,aD,aj,Vl,aD,i1,aD,aj,Xl,f2,aD,xo,aD,e4];rfl
 unfold kR;refine gz (R:=[.ins "MaskBook" fs,.iN Zk [([Sum.inr k,Sum.inl (bI m),Sum.inl sv],.int hv)]]) ?_ aM;rw [eu];show (kQ [Zg (.tup T),Zg (.str k),Zg (.bl m),Zg (.int v1),Zg (.int v2)] G).fn=_;have eK:sP "MaskBook" 2 dR (aa (af 0) (ah)) [Zg (.tup T),Zg (.str k),Zg (.bl m),Zg (.int v1),Zg (.int v2)] G=.ok (.obj G.length) (G++[.ins "MaskBook" fs,.iN Zk []]):=by unfold sP;rw [aj,TR,bC,aD,cU,aD,if_pos (show [D.tup T].length+1=2 from rfl),e1]
 unfold kQ;rw [i6];unfold kB;rw [aj,eK,aD,uX G [.iN Zk []]];dsimp only;rw [if_pos l2,aj,TU,Vi,TV,TX,bC];change ((if [D.str k,.bl m,.int v1,.int v2].length+1=5 then iV (dU [.obj G.length,.str k,.bl m,.int v1,.int v2] (G++[.ins "MaskBook" fs,.iN Zk []])) else Out.stuck).rn _).fn=_;rw [if_pos (show [D.str k,.bl m,.int v1,.int v2].length+1=5 from rfl),eM];rfl
theorem FF (W:List Rw) (hW:Tb W) (bb be:List Bool) (h1:bb.length=W.length) (h2:be.length=W.length) (j:Nat) (hj:j<W.length):∃ b:Bool,(if (W[j].g=="later")=Zh then be else bb)[j]?=Zg b∧(cB W bb be).getD j Zk=b:=by
 have hg:=(hW W[j] (aau hj)).1;have e1:∀ goes,qU goes W[j]=goes.any (·==W[j].g):=λ_=>rfl;have hb:j<bb.length:=by nofun
 have hb':j<be.length:=by nofun
 have e:(cB W bb be).getD j Zk=(bb[j]&&qU ["down","deep"] W[j]||be[j]&&qU ["later"] W[j]):=by simp [cB,ab5,hj,hb,hb',h1,h2]
 rw [e,e1,e1];generalize W[j].g=g at hg;rcases hg with rfl | rfl | rfl
 ·rw [show (("down":Str)=="later")=Zk by symm,show (["down","deep"]:List Str).any (·==("down":Str))=Zh by symm,show (["later"]:List Str).any (·==("down":Str))=Zk by symm];exact ⟨bb[j],by simp [hb],by simp⟩
 ·rw [show (("deep":Str)=="later")=Zk by symm,show (["down","deep"]:List Str).any (·==("deep":Str))=Zh by symm,show (["later"]:List Str).any (·==("deep":Str))=Zk by symm];exact ⟨bb[j],by simp [hb],by simp⟩
 ·rw [show (("later":Str)=="later")=Zh by symm,show (["down","deep"]:List Str).any (·==("later":Str))=Zk by symm,show (["later"]:List Str).any (·==("later":Str))=Zh by symm];exact ⟨be[j],by simp [hb'],by simp⟩
def cE (k:Str) (m:Bool) (bb be:List Bool):D:=.tup [.str k,.bl m,.int (nb bb:Int),.int (nb be:Int)]
theorem FG (bs:List Bool) (j:Nat) (hj:j≤60) (b:Bool) (h:bs[j]?=Zg b) (G:DH):g8 (.int 1) (.int (j:Int)) G=.ok (.int (2^j)) G∧iG (.int (nb bs:Int)) (.int (2^j)) G=.ok (.int ((nb bs / 2^j:Nat):Int)) G∧cY (.int ((nb bs / 2^j:Nat):Int)) (.int 2) G=.ok (.int (b.toNat:Int)) G∧fZ Zk (.int (b.toNat:Int)) (.int 1) G=.ok (.bl b) G:=by
 have hp2:(0:Int)<2^j∧(2:Int)^j<18446744073709551616:=by
  have:(2:Nat)^j<2^64:=Nat.pow_lt_pow_right (by nofun) (by nofun);have h0:0<2^j:=ae4 j;have e:((2^j:Nat):Int)=(2:Int)^j:=by simp
  nofun
 refine ⟨uV j (by nofun) G,?_,?_,?_⟩
 ·have e:((nb bs / 2^j:Nat):Int)=(nb bs:Int) / 2^j:=by simp
  rw [e];simp [iG,cF,hp2,M.ret]
 ·rw [← Fx bs j b h];rfl
 ·rw [bS];cases b<;>rfl
theorem nR (W:List Rw) (hW:Tb W) (hz:W.length≤60) (k:Str) (hk:Zt k=Zh) (m:Bool) (bb be:List Bool) (h1:bb.length=W.length) (h2:be.length=W.length):∀ (n:Nat) (l:Lk),l.dep≤n→l.Vo W.length→∀ G,bw n [.con (W.map Rw.D),l.D,cE k m bb be] G=.ok (.bl (l.ev k m (cB W bb be))) G
 | 0,l,h,_=>by cases l<;>simp [Lk.dep] at h
 | n+1,l,h,ho=>by
  intro G;rw [bw];refine aT ?_ rfl;have ih:=λl=>nR W hW hz k hk m bb be h1 h2 n l;generalize bw n=r at ih;have z2:(2:Nat)≤Zm:=lz (by nofun);have ir:Zt ("mark":Str)=Zh:=by symm
  have xy:Zt ("any":Str)=Zh:=by symm
  have pF:Zt ("both":Str)=Zh:=by symm
  have S1:(wB (Rc 3 4 5 6) (af 2)) [Zg (.con (W.map Rw.D)),Zg l.D,Zg (cE k m bb be),Zl,Zl,Zl,Zl,Zl] G=.nx [Zg (.con (W.map Rw.D)),Zg l.D,Zg (cE k m bb be),Zg (.str k),Zg (.bl m),Zg (.int (nb bb:Int)),Zg (.int (nb be:Int)),Zl] G:=rfl;rw [eu];show (fq r [Zg (.con (W.map Rw.D)),Zg l.D,Zg (cE k m bb be),Zl,Zl,Zl,Zl,Zl] G).fn=_;rw [fq];refine sW S1 ?_;cases l with
  | one b=>have e1:=eqs (jQ b) "any" G (eE b) xy (b:=!b) (by cases b<;>symm);have e2:=eqs (jQ b) "kind" G (eE b) bU (b:=Zk) (by cases b<;>symm);have e3:=eqs (jQ b) "mark" G (eE b) ir (b:=b) (by cases b<;>symm);rw [Lk.ev];generalize cE k m bb be=cd;generalize (nb bb:Int)=i1;generalize (nb be:Int)=i2;generalize W.map Rw.D=T;cases b<;>simp! [Lk.D,J5,e1,e2,e3]
  | kind s=>have hs:Zt s=Zh:=ho;have e1:=eqs "kind" "any" G bU xy (b:=Zk) (by symm);have e2:=eqs "kind" "kind" G bU bU (b:=Zh) (by symm);have e3:=eqs k s G hk hs rfl;rw [Lk.ev];generalize (k==s)=bo at e3;generalize cE k m bb be=cd;generalize (nb bb:Int)=i1;generalize (nb be:Int)=i2;generalize W.map Rw.D=T;simp! [Lk.D,xj,BI,e1,e2,e3]
  | mj j=>
   have hj:j<W.length:=ho;have e1:=eqs "from" "any" G bQ xy (b:=Zk) (by symm);have e2:=eqs "from" "kind" G bQ bU (b:=Zk) (by symm);have e3:=eqs "from" "mark" G bQ ir (b:=Zk) (by symm);have e4:=eqs "from" "from" G bQ bQ (b:=Zh) (by symm);obtain ⟨b,hb1,hb2⟩:=FF W hW bb be h1 h2 j hj;have el:=eqs W[j].g "later" G (hW W[j] (aau hj)).1.ok (by symm) rfl;have hat:jb (W.map Rw.D) (j:Int)=Zg (.tup [.str W[j].g,W[j].t.D,oD W[j].r]):=ju (by rw [ZL,Zr hj];rfl);generalize W[j].g=g at el hat hb1;generalize (g=="later")=lt at el hb1;generalize W[j].t.D=wt at hat;generalize oD W[j].r=wr at hat;have hi:iT [.bl lt] G=.ok (.int (if lt=Zh then (1:Int) else 0)) G:=rfl;have hf:(aL [.int (nb bb:Int),.int (nb be:Int)] G).fw G=.ok (.con [.int (nb bb:Int),.int (nb be:Int)]) G:=bG (lz (n:=2) (by nofun)) rfl;have hp:aQ (.con [.int (nb bb:Int),.int (nb be:Int)]) (.int (if lt=Zh then (1:Int) else 0)) G=.ok (.int (nb (if lt=Zh then be else bb):Int)) G:=by cases lt<;>rfl
   obtain ⟨q1,q2,q3,q4⟩:=FG _ j (by nofun) b hb1 G;rw [show Lk.ev k m (cB W bb be) (.mj j)=b from hb2];have d1:aQ (.con (W.map Rw.D)) (.int (j:Int)) G=.ok (.tup [.str g,wt,wr]) G:=by simp [aQ,aF,hat]
   have d2:aQ (.tup [.str g,wt,wr]) (.int 0) G=.ok (.str g) G:=rfl;have d3:aQ (.tup [.str "from",.int (j:Int)]) (.int 1) G=.ok (.int (j:Int)) G:=rfl;have d4:aQ (.tup [.str "from",.int (j:Int)]) (.int 0) G=.ok (.str "from") G:=rfl;rw [Lk.D];generalize (nb (if lt=Zh then be else bb))=sel at hp q2 q3;generalize (if lt=Zh then (1:Int) else 0)=li at hi hp;generalize ((sel / 2^j:Nat):Int)=sd at q2 q3;generalize ((2:Int)^j)=pj at q1 q2;generalize (j:Int)=jj at d1 d3 d4 q1;generalize cE k m bb be=cd;generalize (nb bb:Int)=i1 at hf hp;generalize (nb be:Int)=i2 at hf hp;generalize W.map Rw.D=T at d1;simp only [bH,mC,iU,i6,sy,dB,cV,aW,fh,aS,bC,g7,cS,ZQ,ZP,aD,aj,cU,d4,e1,e2,e3,e4,nB,yq,DL,cT,vW,hf,d3,d1,d2,el,hi,hp,q1,q2,q3,q4,DM,DP]
  | not l=>rw [Lk.dep] at h;have e0:=ih l (by nofun) ho G;have e1:=eqs "not" "any" G bJ xy (b:=Zk) (by symm);have e2:=eqs "not" "kind" G bJ bU (b:=Zk) (by symm);have e3:=eqs "not" "mark" G bJ ir (b:=Zk) (by symm);have e4:=eqs "not" "from" G bJ bQ (b:=Zk) (by symm);have e5:=eqs "not" "not" G bJ bJ (b:=Zh) (by symm);rw [Lk.ev,Lk.D];generalize l.ev k m (cB W bb be)=bo at e0;generalize l.D=ld at e0;generalize cE k m bb be=cd at e0;generalize (nb bb:Int)=i1;generalize (nb be:Int)=i2;generalize W.map Rw.D=T at e0;simp! [xj,BI,e1,e2,e3,e4,e5,e0,FA]
  | bin e l l'=>rw [Lk.dep] at h;have e0:=ih l (by nofun) ho.1 G;have FW:=ih l' (by nofun) ho.2 G;have e1:=eqs (gQ e) "any" G (cu e) xy (b:=Zk) (by cases e<;>symm);have e2:=eqs (gQ e) "kind" G (cu e) bU (b:=Zk) (by cases e<;>symm);have e3:=eqs (gQ e) "mark" G (cu e) ir (b:=Zk) (by cases e<;>symm);have e4:=eqs (gQ e) "from" G (cu e) bQ (b:=Zk) (by cases e<;>symm);have e5:=eqs (gQ e) "not" G (cu e) bJ (b:=Zk) (by cases e<;>symm);have e6:=eqs (gQ e) "both" G (cu e) pF (b:=!e) (by cases e<;>symm);rw [Lk.ev,Lk.D];generalize l.ev k m (cB W bb be)=bo at e0;generalize l'.ev k m (cB W bb be)=Zd at FW;generalize l.D=ld at e0;generalize l'.D=X8 at FW;generalize cE k m bb be=cd at e0 FW;generalize (nb bb:Int)=i1;generalize (nb be:Int)=i2;generalize W.map Rw.D=T at e0 FW;have hf:∀ a b:Bool,(aL [.bl a,.bl b] G).fw G=.ok (.con [.bl a,.bl b]) G:=λa b=>bG (lz (n:=2) (by nofun)) rfl;cases e<;>cases bo<;>simp! [M6,M7,a32,xj,BI,e1,e2,e3,e4,e5,e6,e0,FW,aW,hf,yE,D7]
  | way w=>exact ho.elim
def uY (k:Str) (m:Bool) (sb bb:List Bool) (j:Nat) (w:Rw):Bool:=(w.t.ev k m sb&&B9 sb w.r)||(w.g=="deep"&&bb.getD j Zk)
theorem FH (W:List Rw) (hW:Tb W) (hz:W.length≤60) (k:Str) (hk:Zt k=Zh) (m:Bool) (bb be:List Bool) (h1:bb.length=W.length) (h2:be.length=W.length) (j:Nat) (hj:j<W.length) (v:Nat) (G:DH) (a4 a5 a6 a7:Option D):∃ b4 b5 b6 b7,fV [Zg (.con (W.map Rw.D)),Zg (cE k m bb be),Zg (.int (v:Int)),Zg (.int (j:Int)),a4,a5,a6,a7] G=.nx [Zg (.con (W.map Rw.D)),Zg (cE k m bb be),Zg (.int (((uY k m (cB W bb be) bb j W[j]).toNat+2*v:Nat):Int)),Zg (.int (j:Int)),b4,b5,b6,b7] G:=by
 obtain ⟨hg,hv,hd,hs,hr⟩:=hW W[j] (aau hj);have et:=nR W hW hz k hk m bb be h1 h2 60 W[j].t (by nofun) hv G;have ef:=λ(i:Nat) (hi:i<W.length)=>nR W hW hz k hk m bb be h1 h2 60 (.mj i) (by rw [Lk.dep];nofun) hi G;have hb:j<bb.length:=by nofun
 obtain ⟨q1,q2,q3,q4⟩:=FG bb j (by nofun) bb[j] (Zr hb) G;have eg:=eqs W[j].g "deep" G hg.ok (by symm) rfl;have hat:jb (W.map Rw.D) (j:Int)=Zg (.tup [.str W[j].g,W[j].t.D,oD W[j].r]):=ju (by rw [ZL,Zr hj];rfl);have z2:(2:Nat)≤Zm:=lz (by nofun);have hgd:bb.getD j Zk=bb[j]:=by rw [ab5,Zr hb];rfl
 have hB:∀ i,(cB W bb be).getD i Zk=Lk.ev k m (cB W bb be) (.mj i):=λi=>rfl;rw [uY,hgd];have S1:(wB (Rn 4 5 6) (ak aQ (af 0) (af 3))) [Zg (.con (W.map Rw.D)),Zg (cE k m bb be),Zg (.int (v:Int)),Zg (.int (j:Int)),a4,a5,a6,a7] G=.nx [Zg (.con (W.map Rw.D)),Zg (cE k m bb be),Zg (.int (v:Int)),Zg (.int (j:Int)),Zg (.str W[j].g),Zg W[j].t.D,Zg (oD W[j].r),a7] G:=by
  have d1:aQ (.con (W.map Rw.D)) (.int (j:Int)) G=.ok (.tup [.str W[j].g,W[j].t.D,oD W[j].r]) G:=by simp [aQ,aF,hat]
  rw [MH,Xg,Ro,aD,d1,zI];rfl
 have hm:fy=bw 60:=rfl;have c2:aQ (cE k m bb be) (.int 2) G=.ok (.int (nb bb:Int)) G:=rfl;have fin:∀ (b:Bool) (τ4 τ5 τ6:Option D),(aH 2 (ak aG (ak je (eC (.int 2)) (af 2)) (ai iT (aa (af 7) (ah))))) [Zg (.con (W.map Rw.D)),Zg (cE k m bb be),Zg (.int (v:Int)),Zg (.int (j:Int)),τ4,τ5,τ6,Zg (.bl b)] G=.nx [Zg (.con (W.map Rw.D)),Zg (cE k m bb be),Zg (.int ((b.toNat+2*v:Nat):Int)),Zg (.int (j:Int)),τ4,τ5,τ6,Zg (.bl b)] G:=λb τ4 τ5 τ6=>by
  have m1:je (.int 2) (.int (v:Int)) G=.ok (.int (2*(v:Int))) G:=by simp [je,cF,M.ret]
  have m2:iT [.bl b] G=.ok (.int (if b=Zh then (1:Int) else 0)) G:=rfl;have m3:aG (.int (2*(v:Int))) (.int (if b=Zh then (1:Int) else 0)) G=.ok (.int ((b.toNat+2*v:Nat):Int)) G:=by
   have e:(2*(v:Int))+(if b=Zh then (1:Int) else 0)=((b.toNat+2*v:Nat):Int):=by cases b<;>simp<;>nofun
   rw [← e];rfl
  generalize cE k m bb be=cd;generalize W.map Rw.D=T;simp only [i0,dB,cV,aS,bC,g7,cS,ZQ,ZP,aD,aj,cU,m1,m2,m3,mD,aai,aaj]
 have S2:(aH 7 (az 3 fy (aa (af 0) (aa (af 5) (aa (af 1) (ah)))))) [Zg (.con (W.map Rw.D)),Zg (cE k m bb be),Zg (.int (v:Int)),Zg (.int (j:Int)),Zg (.str W[j].g),Zg W[j].t.D,Zg (oD W[j].r),a7] G=.nx [Zg (.con (W.map Rw.D)),Zg (cE k m bb be),Zg (.int (v:Int)),Zg (.int (j:Int)),Zg (.str W[j].g),Zg W[j].t.D,Zg (oD W[j].r),Zg (.bl (W[j].t.ev k m (cB W bb be)))] G:=by rw [i0,fh,TR,Vk,TU];change ((bw 60 [.con (W.map Rw.D),W[j].t.D,cE k m bb be] G).st _ _)=_;rw [et];rfl
 have S3:∀ (bt:Bool),(gJ (eU (ak (pU Zh) (af 6) (eC .cy))) (aH 7 (yg (af 7) (az 3 fy (aa (af 0) (aa (ai bK (aa (eC (.str "from")) (aa (af 6) (ah)))) (aa (af 1) (ah))))))) (aZ)) [Zg (.con (W.map Rw.D)),Zg (cE k m bb be),Zg (.int (v:Int)),Zg (.int (j:Int)),Zg (.str W[j].g),Zg W[j].t.D,Zg (oD W[j].r),Zg (.bl bt)] G=.nx [Zg (.con (W.map Rw.D)),Zg (cE k m bb be),Zg (.int (v:Int)),Zg (.int (j:Int)),Zg (.str W[j].g),Zg W[j].t.D,Zg (oD W[j].r),Zg (.bl (bt&&B9 (cB W bb be) W[j].r))] G:=λbt=>by
  cases hrr:W[j].r with
  | none=>rw [show oD Zl=.cy from rfl,show (bt&&B9 (cB W bb be) Zl)=bt by simp [B9]];generalize cE k m bb be=cd;generalize W.map Rw.D=T;simp! [pU]
  | some i=>have ei:=ef i (hr i hrr);rw [show oD (Zg i)=.int (i:Int) from rfl,show B9 (cB W bb be) (Zg i)=Lk.ev k m (cB W bb be) (.mj i) from rfl];rw [Lk.D] at ei;generalize Lk.ev k m (cB W bb be) (.mj i)=bi at ei;rw [hm];generalize bw 60=LT at ei;generalize cE k m bb be=cd at ei;generalize W.map Rw.D=T at ei;cases bt<;>simp! [pU,yE,z2,ei]
 have S4:∀ (bt:Bool),(gJ (eU (ak (fZ Zk) (af 4) (eC (.str "deep")))) (aH 7 (Nu (af 7) (ak (fZ Zk) (ak cY (ak iG (ak aQ (af 1) (eC (.int 2))) (ak g8 (eC (.int 1)) (af 3))) (eC (.int 2))) (eC (.int 1))))) (aZ)) [Zg (.con (W.map Rw.D)),Zg (cE k m bb be),Zg (.int (v:Int)),Zg (.int (j:Int)),Zg (.str W[j].g),Zg W[j].t.D,Zg (oD W[j].r),Zg (.bl bt)] G=.nx [Zg (.con (W.map Rw.D)),Zg (cE k m bb be),Zg (.int (v:Int)),Zg (.int (j:Int)),Zg (.str W[j].g),Zg W[j].t.D,Zg (oD W[j].r),Zg (.bl (bt||(W[j].g=="deep"&&bb[j])))] G:=λbt=>by
  have eq:ak (fZ Zk) (ak cY (ak iG (ak aQ (af 1) (eC (.int 2))) (ak g8 (eC (.int 1)) (af 3))) (eC (.int 2))) (eC (.int 1)) [Zg (.con (W.map Rw.D)),Zg (cE k m bb be),Zg (.int (v:Int)),Zg (.int (j:Int)),Zg (.str W[j].g),Zg W[j].t.D,Zg (oD W[j].r),Zg (.bl bt)] G=.ok (.bl bb[j]) G:=by rw [dB,dB,dB,Qc,c2,aD,aj,dB,g7,aD,aj,Ro,aD,q1,aD,q2,aD,aj,g7,aD,q3,aD,aj,g7,aD,q4]
  generalize ak (fZ Zk) (ak cY (ak iG (ak aQ (af 1) (eC (.int 2))) (ak g8 (eC (.int 1)) (af 3))) (eC (.int 2))) (eC (.int 1))=E at eq;generalize (W[j].g=="deep")=dp at eg;generalize bb[j]=bj at eq;generalize cE k m bb be=cd at eq;generalize W.map Rw.D=T at eq;generalize W[j].t.D=td at eq;generalize oD W[j].r=rd at eq;generalize W[j].g=gg at eg eq;cases dp<;>cases bt<;>simp! [eg,D7,eq]
 refine ⟨Zg (.str W[j].g),Zg W[j].t.D,Zg (oD W[j].r),Zg (.bl ((W[j].t.ev k m (cB W bb be)&&B9 (cB W bb be) W[j].r)||(W[j].g=="deep"&&bb[j]))),?_⟩;rw [fV,bH,S1,cT,bH,S2,cT,bH,S3,cT,bH,S4,cT,fin]
def dn:Nat→List D
 | 0=>[]
 | m+1=>.int (m:Nat)::dn m
theorem Km (n:Nat):∀ (m s:Nat),s+m=n→(Z6 s m).map (λ(i:Nat)=>D.int ((n:Int) - 1+(i:Int)*(-1)))=dn m
 | 0,s,_=>by simp [dn]
 | m+1,s,h=>by
  rw [ab6,Zy,Km n m (s+1) (by nofun),dn];have:(n:Int) - 1+(s:Int)*(-1)=(m:Int):=by nofun
  rw [this]
theorem Nk {g:jB} {body:MS} {τ:DS} {G:DH} (n:Nat):kg g body (oJ ((n:Int) - 1) (-1) n) (n+1) 0 τ G=bY g body (dn n) τ G:=by
 have:=iF (g:=g) (body:=body) (xs:=(Z4 n).map λ(i:Nat)=>D.int ((n:Int) - 1+(i:Int)*(-1))) (vw:=oJ ((n:Int) - 1) (-1) n) (λG i h=>by
  simp only [oJ,ZL];by_cases hi:i<n
  ·rw [if_pos hi,acT hi];rfl
  ·rw [if_neg hi,aaE (by simp;nofun)];rfl) (n+1) 0 τ G (by simp) (by simp)
 rw [this,List.drop_zero,acH,Km n n 0 (by nofun)]
theorem xA (W:List Rw) (hW:Tb W) (hz:W.length≤60) (k:Str) (hk:Zt k=Zh) (m:Bool) (bb be:List Bool) (h1:bb.length=W.length) (h2:be.length=W.length) (G:DH):∀ (n v:Nat) (a3 a4 a5 a6 a7:Option D),n≤W.length→∃ b3 b4 b5 b6 b7,bY (gN 3) fV (dn n) [Zg (.con (W.map Rw.D)),Zg (cE k m bb be),Zg (.int (v:Int)),a3,a4,a5,a6,a7] G=.nx [Zg (.con (W.map Rw.D)),Zg (cE k m bb be),Zg (.int ((nb ((W.take n).mapIdx λj w=>uY k m (cB W bb be) bb j w)+2^n*v:Nat):Int)),b3,b4,b5,b6,b7] G
 | 0,v,a3,a4,a5,a6,a7,_=>⟨a3,a4,a5,a6,a7,by simp [dn,eY,nb]⟩
 | n+1,v,a3,a4,a5,a6,a7,hn=>by
  obtain ⟨b4,b5,b6,b7,e⟩:=FH W hW hz k hk m bb be h1 h2 n (by nofun) v G a4 a5 a6 a7;obtain ⟨c3,c4,c5,c6,c7,e2⟩:=xA W hW hz k hk m bb be h1 h2 G n ((uY k m (cB W bb be) bb n W[n]).toNat+2*v) (Zg (.int (n:Int))) b4 b5 b6 b7 (by nofun);refine ⟨c3,c4,c5,c6,c7,?_⟩;rw [dn,bZ (τ1:=[Zg (.con (W.map Rw.D)),Zg (cE k m bb be),Zg (.int (v:Int)),Zg (.int (n:Int)),a4,a5,a6,a7]) rfl,e,gW,e2];have et:W.take (n+1)=W.take n++[W[n]]:=by rw [List.take_succ,Zr (by nofun)];rfl
  have el:(W.take n).length=n:=by rw [abH];nofun
  have en:nb ((W.take (n+1)).mapIdx λj w=>uY k m (cB W bb be) bb j w)=nb ((W.take n).mapIdx λj w=>uY k m (cB W bb be) bb j w)+(uY k m (cB W bb be) bb n W[n]).toNat*2^n:=by rw [et,List.mapIdx_append,List.mapIdx_singleton,Ad,abS,el];simp [el]
  have ea:∀ a x p v:Nat,a+p*(x+2*v)=a+x*p+p*2*v:=λa x p v=>by rw [Nat.mul_add,← Nat.mul_assoc,aex p x,Nat.add_assoc]
  rw [en,adI,ea]
theorem Nl (W:List Rw) (hW:Tb W) (hz:W.length≤60) (k:Str) (hk:Zt k=Zh) (m:Bool) (bb be:List Bool) (h1:bb.length=W.length) (h2:be.length=W.length) (G:DH):jO [.con (W.map Rw.D),cE k m bb be] G=.ok (.int (nb (mbits k m W bb be):Int)) G:=by
 obtain ⟨b3,b4,b5,b6,b7,e⟩:=xA W hW hz k hk m bb be h1 h2 G W.length 0 Zl Zl Zl Zl Zl (Zs _);have hsl:(cB W bb be).length=W.length:=by simp [cB,h1,h2]
 have em:((W.take W.length).mapIdx λj w=>uY k m (cB W bb be) bb j w)=mbits k m W bb be:=by
  rw [aeN];apply ady
  ·simp [mbits,h1]
  ·intro i p1 p2;have hi:i<W.length:=by simpa using p1
   have hb:i<bb.length:=by nofun
   simp only [List.getElem_mapIdx,mbits,List.getElem_zipWith,List.getElem_map,uY,hit,qU,adi,List.any_nil,Bool.or_false];have hgd:bb.getD i Zk=bb[i]:=by rw [ab5,Zr hb];rfl
   rw [hgd,Bool.and_comm (B9 _ _),Bool.and_comm (bb[i]),BEq.comm (a:=W[i].g)]
 rw [em,Nat.mul_zero,Nat.add_zero] at e;unfold jO;refine aT ?_ aM;have hl:(W.map Rw.D).length=W.length:=ZG _;have M9:W.length≤Zm:=lz (by nofun);have VB:(W.length:Int)<1073741824:=by nofun
 have VC:W.length<1073741824:=by nofun
 have fd:=λτ G=>Nk (g:=gN 3) (body:=fV) (τ:=τ) (G:=G) W.length;generalize (nb (mbits k m W bb be):Int)=res at e;generalize cE k m bb be=cd at e;generalize W.map Rw.D=T at e hl;generalize W.length=n at e hl M9 VB VC fd;rw [Int.natCast_zero] at e;simp! [lS,hl,M9,Ic,D8,VB,VC,fd,e]
theorem xB (c:Int) (t:Nat) (ht:t≤1) (n:Nat) (hn:n≤60):∃ v:Nat,v<2^n∧∀ G,dD [.int c,.int (t:Int),.int (n:Int)] G=.ok (.int (v:Int)) G:=by
 have hp:(0:Int)<2^n:=by
  have e:((2^n:Nat):Int)=(2:Int)^n:=by simp
  have:=ae4 n;nofun
 have NI:∀ x:Int,∃ v:Nat,v<2^n∧(v:Int)=x % 2^n:=λx=>by
  have e:((2^n:Nat):Int)=(2:Int)^n:=by simp
  have h1:=acP x (by nofun:(2:Int)^n≠0);have h2:=ac6 x hp;exact ⟨(x % 2^n).toNat,by nofun,by nofun⟩
 have hsh:=uV n (by nofun);have hmd:∀ (x:Int) (G:DH),cY (.int x) (.int (2^n)) G=.ok (.int (x % 2^n)) G:=λx G=>by simp [cY,cF,hp,M.ret]
 generalize (2:Int)^n=pn at hsh hmd NI hp;unfold dD;by_cases hc:(1000000000:Int)≤c
 ·obtain ⟨x,Ue,Rj,hx⟩:∃ x:Int,0<x∧x<18446744073709551616∧jb [D.int 1,.int 1099511627776] (t:Int)=Zg (.int x):=by
   rcases (show t=0∨t=1 by nofun) with rfl | rfl
   ·exact ⟨1,by nofun,by nofun,rfl⟩
   ·exact ⟨1099511627776,by nofun,by nofun,rfl⟩
  obtain ⟨v,h1,h2⟩:=NI (c / x);refine ⟨v,h1,λG=>aT ?_ aM⟩;rw [h2];have hf:(aL [.int 1,.int 1099511627776] G).fw G=.ok (.con [.int 1,.int 1099511627776]) G:=bG (lz (n:=2) (by nofun)) rfl;have Yh:pS (.int 2) (.int 40) G=.ok (.int 1099511627776) G:=rfl;have h9:pS (.int 10) (.int 9) G=.ok (.int 1000000000) G:=rfl;have hge:GK (.int c) (.int 1000000000) G=.ok (.bl Zh) G:=by simp [GK,cF,M.ret,hc]
  have hix:aQ (.con [.int 1,.int 1099511627776]) (.int (t:Int)) G=.ok (.int x) G:=by simp [aQ,aF,hx]
  have Yi:iG (.int c) (.int x) G=.ok (.int (c / x)) G:=by simp [iG,cF,Ue,Rj,M.ret]
  rw [eu];show (fT [Zg (.int c),Zg (.int (t:Int)),Zg (.int (n:Int))] G).fn=_;unfold fT;simp only [bH,mC,iU,i6,sy,dB,cV,aW,fh,aS,bC,g7,cS,ZQ,ZP,aD,aj,cU,ZN,aaJ,if_true,nB,cT,vW,DM,DP,h9,hge,DL,Yh,hf,hix,Yi,hsh,hmd]
 ·have hm1:=eB c (26+(t:Int)) (by nofun) (by nofun);have hm2:=eB c (28+(t:Int)) (by nofun) (by nofun);obtain ⟨v,h1,h2⟩:=NI (mx c (26+(t:Int))*268435456+mx c (28+(t:Int)));refine ⟨v,h1,λG=>aT ?_ aM⟩;rw [h2];have h9:pS (.int 10) (.int 9) G=.ok (.int 1000000000) G:=rfl;have Yj:pS (.int 2) (.int 28) G=.ok (.int 268435456) G:=rfl;have hge:GK (.int c) (.int 1000000000) G=.ok (.bl Zk) G:=by simp [GK,cF,M.ret,hc]
  have ha:∀ x y:Int,aG (.int x) (.int y) G=.ok (.int (x+y)) G:=λx y=>rfl;have hml:∀ x:Int,je (.int x) (.int 268435456) G=.ok (.int (x*268435456)) G:=λx=>by simp [je,cF,M.ret]
  generalize mx c (26+(t:Int))=y1 at hm1;generalize mx c (28+(t:Int))=y2 at hm2;rw [eu];show (fT [Zg (.int c),Zg (.int (t:Int)),Zg (.int (n:Int))] G).fn=_;unfold fT;simp only [bH,mC,iU,i6,sy,dB,cV,aW,fh,aS,bC,g7,cS,ZQ,ZP,aD,aj,cU,ZN,aaJ,if_true,nB,cT,vW,DM,DP,h9,Yj,hge,yq,ha,hm1,hm2,hml,hsh,hmd]
theorem Jr (m:DS→M D) (hm:∀ τ G,m τ G=.ok (.con [.int 0]) G) (τ:DS) (G:DH):sL [("down",m),("deep",m),("later",m)] τ G=.ok (.obj G.length) (G++[.dct aP]):=by
 have e1:om [("down",m),("deep",m),("later",m)] τ (G++[.dct []])=.ok aP (G++[.dct []]):=by simp only [om,M.bind,M.ret,hm,aP]
 have g0:=qV G (.dct []) [];have s0:=λz=>zH G (.dct []) z [];have hl:aP.length≤15:=by decide
 have hmg:ux aP=aP:=by rfl
 unfold sL;rw [e1];dsimp only;rw [g0];dsimp only;rw [if_pos hl,s0,hmg]
theorem Qz (τ:DS) (G:DH):eFn (ai aL (aa (eC (.int 0)) (ah))) τ G=.ok (.con [.int 0]) G:=by have f:(aL [.int 0] G).fw G=.ok (.con [.int 0]) G:=bG (lz (n:=1) (by nofun)) rfl;rw [aW];simp! [f]
theorem xC (ns:List Int) (hl:ns.length≤63) (lo hi:Int):∃ c:Int,∀ (i:Nat) (τ:DS) (G:DH) (m1 m2:DS→M D),m1 τ G=.ok (.int lo) G→m2 τ G=.ok (.int hi) G→τ[i]?=Zg (Zg (.con (ns.map .int)))→ai iD (aa (eFn (nj (af i) (cz m1) (cz m2))) (ah)) τ G=.ok (.int c) G:=by
 obtain ⟨ys,h1,_,h3⟩:=Fd D.int ns (Zg lo) (Zg hi);refine ⟨ys.sum,λi τ G m1 m2 p1 p2 ht=>?_⟩;have eV:af i τ G=.ok (.con (ns.map .int)) G:=by rw [cS,ht]
 have f:(aL (ys.map D.int) G).fw G=.ok (.con (ys.map .int)) G:=bG (lz (by rw [ZG];nofun)) (aE λ_=>aM);have hs:=gu ys;generalize ns.map D.int=nD at eV h1;generalize ys.map D.int=yD at h1 f hs;have e1:nj (af i) (cz m1) (cz m2) τ G=aL yD G:=by generalize af i=V at eV;simp! [eV,p1,p2,zu,h1]
 rw [cV,aS,aW,e1,f];simp [iD,aF,hs,bC,cU,aj,aD]
theorem Js (ns:List Int) (hl:ns.length≤63) (T:List D) (hz:T.length≤60) (kk:Int):∃ v w:Nat,v<2^T.length∧w<2^T.length∧∀ (a1 a2 a3 a5 a6:Option D) (τ:DS) (G:DH),eFn (dh eG oN [Zh,Zk,Zk,Zk,Zh,Zk,Zk,Zh] (aa (eC (.int 2)) (ah)) (dY) (az 3 dD (aa (ak aG (ai iD (aa (eFn (nj (af 1) (cz (ak aG (eC (.int 3)) (af 8))) (cz (ak aG (eC (.int 4)) (af 8))))) (ah))) (af 8)) (aa (af 0) (aa (ai cZ (aa (af 5) (ah))) (ah)))))) (Zg (.con (ns.map .int))::a1::a2::a3::Zg (.con T)::a5::a6::Zg (.int kk)::τ) G=.ok (.con [.int (v:Int),.int (w:Int)]) G:=by
 obtain ⟨c,hc⟩:=xC ns hl (3+kk) (4+kk);obtain ⟨v,hv,e0⟩:=xB (c+kk) 0 (by nofun) T.length hz;obtain ⟨w,hw,e1⟩:=xB (c+kk) 1 (by nofun) T.length hz;refine ⟨v,w,hv,hw,λa1 a2 a3 a5 a6 τ G=>?_⟩;have hr:=g6 (j:=2) (by nofun) (by nofun);rw [show (2:Int).toNat=2 from rfl] at hr;have RG:T.length≤Zm:=lz (by nofun);generalize ns.map D.int=nD at hc;have hcp:=dI (gO:=oN) (ks:=[Zh,Zk,Zk,Zk,Zh,Zk,Zk,Zh]) (tt:=dY) (te:=az 3 dD (aa (ak aG (ai iD (aa (eFn (nj (af 1) (cz (ak aG (eC (.int 3)) (af 8))) (cz (ak aG (eC (.int 4)) (af 8))))) (ah))) (af 8)) (aa (af 0) (aa (ai cZ (aa (af 5) (ah))) (ah))))) (own:=λj:Nat=>[D.int (0+(j:Int))]) (dat:=λj=>D.int (0+(j:Int))) (f:=λj=>D.int ((if j=0 then v else w:Nat):Int)) (c:=λ_=>Zh) (G:=G) (τ:=Zg (.con nD)::a1::a2::a3::Zg (.con T)::a5::a6::Zg (.int kk)::τ) (Z6 0 2) [] (by simp) (λ_ _=>rfl) (λ_ _ _=>rfl) (λj hj acc=>by
  show az 3 dD _ (Zg (.int (0+(j:Int)))::Zg (.con nD)::Zl::Zl::Zl::Zg (.con T)::Zl::Zl::Zg (.int kk)::mask [] τ) (G++[.lst acc])=_;have hs:=hc 1 (Zg (.int (0+(j:Int)))::Zg (.con nD)::Zl::Zl::Zl::Zg (.con T)::Zl::Zl::Zg (.int kk)::mask [] τ) (G++[.lst acc]) (ak aG (eC (.int 3)) (af 8)) (ak aG (eC (.int 4)) (af 8)) rfl rfl rfl;generalize mask [] τ=r at hs;have ln:cZ [.con T] (G++[.lst acc])=.ok (.int (T.length:Int)) (G++[.lst acc]):=by simp [cZ,aF,RG]
  have ea:aG (.int c) (.int kk) (G++[.lst acc])=.ok (.int (c+kk)) (G++[.lst acc]):=rfl;have eb:dD [.int (c+kk),.int (0+(j:Int)),.int (T.length:Int)] (G++[.lst acc])=.ok (.int ((if j=0 then v else w:Nat):Int)) (G++[.lst acc]):=by
   have hj2:j<2:=by simpa using hj
   rcases (show j=0∨j=1 by nofun) with rfl | rfl
   ·exact e0 _
   ·exact e1 _
  generalize ai iD (aa (eFn (nj (af 1) (cz (ak aG (eC (.int 3)) (af 8))) (cz (ak aG (eC (.int 4)) (af 8))))) (ah))=S at hs;generalize (0+(j:Int))=jj at hs eb;simp only [fh,aS,dB,hs,cS,ZQ,ZP,cV,bC,aD,aj,cU,ea,ln,ZN,aaJ,if_true,eb])
 rw [aam,acd.mpr (λ_ _=>rfl)] at hcp;have hcl:aR [D.int (v:Int),.int (w:Int)]=Zh:=rfl;rw [aW,← jF hcl];change cQ _ _ _ _ _ _ _ _=Out.ok (.obj G.length) (G++[.lst [.int (v:Int),.int (w:Int)]]) at hcp;rw [← hcp];simp only [qe,aS,bC,g7,aD,aj,cU,hr]
theorem FI {e:DS→M D} {i:Nat} {v:D} {τ:DS} {G G':DH} {R:MS} {r:Res} (h:e τ G=.ok v G') (k:R (τ.set i (Zg v)) G'=r):ay (aH i e) R τ G=r:=by rw [bH,i0,h,mD,cT];exact k
structure Ca where
 k:Str
 m:Bool
 bb:List Bool
 be:List Bool
def Ca.Ok (n:Nat) (x:Ca):Prop:=Zt x.k=Zh∧x.bb.length=n∧x.be.length=n
def Ca.D (x:Ca):D:=.tup [.str x.k,.bl x.m,.int (nb x.bb:Int),.int (nb x.be:Int)]
theorem QB (x:Ca):x.D.closed=Zh:=rfl
theorem BY (ns:List Int) (hl:ns.length≤63) (ws:List Str) (h5:ws.length=5) (hw:∀ s∈ws,Zt s=Zh) (T:List D) (hz:T.length≤60) (c2 kk:Int) (hk:0≤kk∧kk<4) (A:DH) (cs:List Ca) (hc:cs.length≤10) (a2 a3 a8 a9 sY:Option D):∃ (x:Ca) (b8 b9:Option D),x.Ok T.length ∧
  qQ [Zg (.con (ns.map .int)),Zg (.con (ws.map .str)),a2,a3,Zg (.con T),Zg (.int c2),Zg (.obj A.length),Zg (.int kk),a8,a9,sY] (A++[.lst (cs.map Ca.D)])=.nx [Zg (.con (ns.map .int)),Zg (.con (ws.map .str)),a2,a3,Zg (.con T),Zg (.int c2),Zg (.obj A.length),Zg (.int kk),b8,b9,sY] (A++[.lst ((cs++[x]).map Ca.D)]):=by
 have VD:=eB c2 (24+4*kk) (by nofun) (by nofun);have VE:=eB c2 (25+4*kk) (by nofun) (by nofun);obtain ⟨v,w,hv,NC,RH⟩:=Js ns hl T hz kk;obtain ⟨bb,b1,b2⟩:=Fz T.length v hv;obtain ⟨be,b3,b4⟩:=Fz T.length w NC;subst b2 b4;have hu:0≤mx c2 (24+4*kk) % 5∧mx c2 (24+4*kk) % 5<5:=by nofun
 obtain ⟨kd,hkd,hk2⟩:=ki (xs:=ws.map D.str) hu.1 (by simp [h5];nofun);rw [ZL] at hk2;obtain ⟨k,hk,rfl⟩:∃ k,Zt k=Zh∧kd=.str k:=by
  cases hg:ws[(mx c2 (24+4*kk) % 5).toNat]? with
  | none=>rw [hg] at hk2;cases hk2
  | some k=>rw [hg] at hk2;cases hk2;exact ⟨k,hw k (Z0 hg),rfl⟩
 obtain ⟨m,hm⟩:∃ m:Bool,m=(mx c2 (25+4*kk) % 2==1):=⟨_,rfl⟩;refine ⟨⟨k,m,bb,be⟩,Zg (.tup [.str k,.bl m]),Zg (.con [.int (nb bb:Int),.int (nb be:Int)]),⟨hk,b1,b3⟩,?_⟩;have z2:(2:Nat)≤Zm:=lz (by nofun);have z4:(4:Nat)≤Zm:=lz (by nofun);have VF:(cs.map Ca.D).length<Zm:=Zx (by rw [ZG];nofun) (lz (n:=100) (by nofun));have Yk:∀ G,je (.int 4) (.int kk) G=.ok (.int (4*kk)) G:=λG=>by simp [je,cF,M.ret]
 have eb:∀ G,fZ Zk (.int (mx c2 (25+4*kk) % 2)) (.int 1) G=.ok (.bl m) G:=λG=>by rw [bS,hm];simp
 have g0:∀ x:DO,(A++[x])[A.length]?=Zg x:=λx=>qV A x [];have s0:∀ x z:DO,(A++[x]).set A.length z=A++[z]:=λx z=>zH A x z [];rw [aaL,Zy,ZU,Ca.D];dsimp only;generalize (nb bb:Int)=i1 at RH;generalize (nb be:Int)=i2 at RH;generalize cs.map Ca.D=xs at VF;generalize ns.map D.int=nD at RH;generalize ws.map D.str=wD at hkd;rw [qQ];refine FI (v:=.tup [.str k,.bl m]) (G':=A++[.lst xs]) ?_ ?_
 ·generalize mx c2 (24+4*kk)=y1 at VD hkd;generalize mx c2 (25+4*kk)=y2 at VE eb;simp! [Yk,VD,VE,hkd,eb,z2]
 rw [Xu];refine FI (RH _ _ _ _ _ _ _) ?_;rw [Xw];simp! [g0,s0,VF,xj,BI,z2,z4]
theorem tH (ns:List Int) (hl:ns.length≤63) (ws:List Str) (h5:ws.length=5) (hw:∀ s∈ws,Zt s=Zh) (T:List D) (hz:T.length≤60) (c2:Int) (A:DH) (a2 a3 sY:Option D):∀ (ks:List Nat) (cs:List Ca) (a7 a8 a9:Option D),(∀ k∈ks,k<4)→cs.length+ks.length≤10→(∀ x∈cs,x.Ok T.length)→∃ (cs':List Ca) (b7 b8 b9:Option D),cs'.length≤10∧(∀ x∈cs',x.Ok T.length) ∧
  bY (gN 7) qQ (ks.map λ(k:Nat)=>.int (0+(k:Int))) [Zg (.con (ns.map .int)),Zg (.con (ws.map .str)),a2,a3,Zg (.con T),Zg (.int c2),Zg (.obj A.length),a7,a8,a9,sY] (A++[.lst (cs.map Ca.D)])=.nx [Zg (.con (ns.map .int)),Zg (.con (ws.map .str)),a2,a3,Zg (.con T),Zg (.int c2),Zg (.obj A.length),b7,b8,b9,sY] (A++[.lst (cs'.map Ca.D)])
 | [],cs,a7,a8,a9,_,h,hc=>⟨cs,a7,a8,a9,by simpa using h,hc,by rw [ZU];exact eY⟩
 | k::ks,cs,a7,a8,a9,hk,h,hc=>by
  simp only [ZN] at h;have Ze:=hk k (by simp);obtain ⟨x,b8,b9,ho,e⟩:=BY ns hl ws h5 hw T hz c2 (0+(k:Int)) (by nofun) A cs (by nofun) a2 a3 a8 a9 sY;obtain ⟨cs',d7,d8,d9,l',o',e'⟩:=tH ns hl ws h5 hw T hz c2 A a2 a3 sY ks (cs++[x]) (Zg (.int (0+(k:Int)))) b8 b9 (λy hy=>hk y (by simp [hy])) (by simp;nofun) (λy hy=>by
   rcases aaU.mp hy with h | h
   ·exact hc y h
   ·rw [ZI.mp h];exact ho)
  refine ⟨cs',d7,d8,d9,l',o',?_⟩;rw [Zy,bZ (τ1:=[Zg (.con (ns.map .int)),Zg (.con (ws.map .str)),a2,a3,Zg (.con T),Zg (.int c2),Zg (.obj A.length),Zg (.int (0+(k:Int))),a8,a9,sY]) rfl,e,gW,e']
theorem tK (W:List Rw) (hW:Tb W) (hz:W.length≤60) (G:DH) (hG:G.any (ko "holds_by")=Zh) (a0 a1 a2 a3 a5 a6 a7 a9:Option D):∀ (cs:List Ca) (a8 sY:Option D),(∀ x∈cs,x.Ok W.length)→∃ b8 Ke,
  bY (gN 8) nP (cs.map Ca.D) [a0,a1,a2,a3,Zg (.con (W.map Rw.D)),a5,a6,a7,a8,a9,sY] G=.nx [a0,a1,a2,a3,Zg (.con (W.map Rw.D)),a5,a6,a7,b8,a9,Ke] G
 | [],a8,sY,_=>⟨a8,sY,by rw [ZU];exact eY⟩
 | x::cs,a8,sY,hq=>by
  obtain ⟨hk,h1,h2⟩:=hq x (by simp);obtain ⟨b8,Ke,e⟩:=tK W hW hz G hG a0 a1 a2 a3 a5 a6 a7 a9 cs (Zg x.D) (Zg (.int (nb (mbits x.k x.m W x.bb x.be):Int))) λy hy=>hq y (by simp [hy]);refine ⟨b8,Ke,?_⟩;have es:=Jq W hW (by nofun) x.k hk x.m x.bb x.be h1 h2 G hG;have ed:=Nl W hW hz x.k hk x.m x.bb x.be h1 h2 G;have e1:nP [a0,a1,a2,a3,Zg (.con (W.map Rw.D)),a5,a6,a7,Zg x.D,a9,sY] G=.nx [a0,a1,a2,a3,Zg (.con (W.map Rw.D)),a5,a6,a7,Zg x.D,a9,Zg (.int (nb (mbits x.k x.m W x.bb x.be):Int))] G:=by
   have RG:(W.map Rw.D).length≤Zm:=lz (by rw [ZG];nofun);rw [cE] at ed;rw [Ca.D];generalize (nb (mbits x.k x.m W x.bb x.be):Int)=r at es ed;generalize (nb x.bb:Int)=i1 at es ed;generalize (nb x.be:Int)=i2 at es ed;generalize x.k=k at es ed;generalize x.m=m at es ed;generalize W.map Rw.D=T at es ed RG;have ee:fZ Zh (.int r) (.int r) G=.ok (.bl Zk) G:=by have:=D0 Zh (.int r) G rfl (by simp [D.dp]);rw [this];rfl
   have u6:u0 (af 4) [a0,a1,a2,a3,Zg (.con T),a5,a6,a7,Zg (.tup [.str k,.bl m,.int i1,.int i2]),a9,Zg (.int r)] G=.ok (.con T) G:=rfl;rw [nP];refine FI (v:=.int r) (G':=G) ?_ ?_
   ·simp! [p7,RG,I8,M8,Ja,J7,es]
   rw [TY];generalize u0 (af 4)=Z at u6;simp! [u6,ed,ee]
  rw [Zy,bZ (τ1:=[a0,a1,a2,a3,Zg (.con (W.map Rw.D)),a5,a6,a7,Zg x.D,a9,sY]) rfl,e1,gW,e]
theorem FJ (ns:List Int) (hl:ns.length≤63):∃ G,E0 [.con (ns.map .int)] [.tab "holds_by"]=.ok (.bl Zh) G:=by
 refine ⟨[.tab "holds_by"],?_⟩;generalize hA:([.tab "holds_by"]:DH)=A;have hG:∀ X:DH,(A++X).any (ko "holds_by")=Zh:=λX=>by rw [← hA];rfl
 obtain ⟨c,e1⟩:=E2 ns [Zl,Zl,Zl,Zl,Zl,Zl,Zl,Zl,Zl,Zl] A;obtain ⟨ws,h5,hw,e2⟩:=E5 c A;obtain ⟨xs,x1,x2,e3⟩:=xh ns hl 0 (by nofun) (A++[.dct aP]);obtain ⟨ys,y1,y2,e4⟩:=xh ns hl 1 (by nofun) (A++[.dct aP]);obtain ⟨w0,wr,hws⟩:∃ w0 wr,ws=w0::wr:=by
  cases ws with
  | nil=>simp at h5
  | cons a b=>exact ⟨a,b,rfl⟩
 have hw0:w0∈ws:=by rw [hws];simp
 have hr:(A++[DO.dct aP])[A.length]?=Zg (.dct aP):=qV A _ [];obtain ⟨qs,q0,q1,qo,e5⟩:=Jg (xs++ys) (by simp;nofun) (by simp;nofun) ws h5 (λs hs=>(hw s hs).1) w0 (hw w0 hw0).1 A.length (A++[.dct aP]) hr;have hat:jb (ws.map D.str) 0=Zg (.str w0):=by rw [hws];exact ju (j:=0) (show ((w0::wr).map D.str)[0]?=Zg (.str w0) from rfl)
 have fr:∀ G,(aL [.tup [.int 0,.str w0]] G).fw G=.ok (.con [.tup [.int 0,.str w0]]) G:=λG=>bG (lz (n:=1) (by nofun)) (by simp [aO,aU,D.closed,cg,aM]);have fx:∀ G,(aL (xs.map D.int++ys.map D.int) G).fw G=.ok (.con (xs.map D.int++ys.map D.int)) G:=λG=>bG (lz (by simp;nofun)) (by rw [← aaL];exact aE λ_=>aM);have z2:(2:Nat)≤Zm:=lz (by nofun);obtain ⟨q,hq,e6⟩:=Ji qs q0 q1 [Zg (.con (ns.map .int)),Zg (.con (ws.map .str)),Zg (.obj A.length),Zg (.con (qs.map Qt.D)),Zg (.obj (A++[DO.dct aP]).length),Zl,Zl,Zl,Zl,Zl,Zl] ((A++[.dct aP])++[.lst []]) rfl;obtain ⟨o1,o2,o3,o4,o5⟩:=qo q hq;obtain ⟨R,t,r1,r2,r3,r4,r5,r6,e7⟩:=tB 60 q.l (by nofun) (by nofun) o1 (A++[.dct aP]) [] [] (λw h=>by simp at h) (by simp;nofun);simp only [aaJ,Nat.zero_add,ZU] at r3 e7;obtain ⟨c2,e8⟩:=xC ns hl 2 3;have Yl:=eB c2 28 (by nofun) (by nofun);have Ym:=xg c2 28;obtain ⟨W,pl,t1,t2,e9⟩:=Fo R r1 (by nofun) (mx c2 28) Ym (A++[.dct aP,.dead]);have Yn:W.length≤60:=by nofun
 have RC:(W.map Rw.D).length=W.length:=ZG _;obtain ⟨cs,b7,b8,b9,l2,oc,Kn⟩:=tH ns hl ws h5 (λs hs=>(hw s hs).1) (W.map Rw.D) (by nofun) c2 (A++[.dct aP,.dead]) (Zg (.obj A.length)) (Zg (.con (qs.map Qt.D))) Zl (Z6 0 4) [] Zl Zl Zl (λk hk=>by simp at hk;nofun) (by simp) (by simp);rw [RC] at oc;obtain ⟨vs,c1,c3,c4⟩:=Fd Ca.D cs Zl (Zg 1);obtain ⟨d8,Zf,Jt⟩:=tK W t2 Yn ((A++[.dct aP,.dead])++[.lst (cs.map Ca.D)]) (by rw [aaQ];exact hG _) (Zg (.con (ns.map .int))) (Zg (.con (ws.map .str))) (Zg (.obj A.length)) (Zg (.con (qs.map Qt.D))) (Zg (.int c2)) (Zg (.obj (A++[DO.dct aP,.dead]).length)) b7 b9 (cs++vs) b8 Zl (λx hx=>by
  rcases aaU.mp hx with h | h
  ·exact oc x h
  ·exact oc x (c3 x h))
 have fv:∀ G,(aL (vs.map Ca.D) G).fw G=.ok (.con (vs.map Ca.D)) G:=λG=>bG (lz (by rw [ZG];nofun)) (aE QB);have fw:∀ G,(aL (cs.map Ca.D++vs.map Ca.D) G).fw G=.ok (.con (cs.map Ca.D++vs.map Ca.D)) G:=λG=>bG (lz (by simp;nofun)) (by rw [← aaL];exact aE QB);have Yo:=g6 (j:=4) (by nofun) (by nofun);rw [aaL] at Jt e5;rw [ZU] at Kn;unfold E0;refine gz (R:=[.dct aP,.dead]++[.lst (cs.map Ca.D)]) ?_ rfl;show iV (bL 11 sS [.con (ns.map .int)] A)=_;have Ul:bL 11 sS [.con (ns.map .int)] A=.ok (.bl Zh) ((A++[.dct aP,.dead])++[.lst (cs.map Ca.D)]):=by
  have MW:fj [.con (ns.map .int),.int 0] (A++[.dct aP])=.ok (.con (xs.map .int)) (A++[.dct aP]):=e3;have Um:fj [.con (ns.map .int),.int 1] (A++[.dct aP])=.ok (.con (ys.map .int)) (A++[.dct aP]):=e4;clear e3 e4;generalize xs.map D.int=xD at MW e5 fx;generalize ys.map D.int=yD at Um e5 fx;generalize ns.map D.int=nD at e1 MW Um e6 e8 Kn Jt;generalize qs.map Qt.D=qD at e5 e6 Kn Jt;generalize ws.map D.str=wD at hat e2 e5 e6 Kn Jt;generalize cs.map Ca.D=uD at Kn Jt c1 fw;generalize vs.map Ca.D=vD at Jt c1 fv fw;generalize q.l.D=ld at e6 e7;generalize R.map Rw.D=RD at e7 e9;generalize W.map Rw.D=T at e9 Kn Jt;rw [eu];show (sS [Zg (.con nD),Zl,Zl,Zl,Zl,Zl,Zl,Zl,Zl,Zl,Zl] A).fn=_;rw [sS];refine gw (v:=.con wD) (G':=A) ?_ ?_
  ·rw [fh,aS,e1];exact e2
  rw [Xh];refine gw (Jr _ Qz _ _) ?_;rw [Vh];refine gw (v:=.con qD) (G':=A++[.dct aP]) ?_ ?_
  ·simp! [aW,MW,Um,fx,kX,hat,z2,fr,e5]
  have n0:∀ τ G,ai aL (ah) τ G=.ok (.obj G.length) (G++[.lst []]):=λτ G=>by simp! [aL]
  rw [Vj];refine gw (n0 _ _) ?_;rw [Qd];generalize Yp:A++[DO.dct aP]=G1 at e6 e7;refine sW (τ':=[Zg (.con nD),Zg (.con wD),Zg (.obj A.length),Zg (.con qD),Zg (.obj G1.length),Zl,Zl,Zl,Zl,Zl,Zl]) (G':=G1++[.lst RD]) ?_ ?_
  ·rw [uf,fh,aS,e6];change (bg 60 _ _).xp _=_;rw [e7];rfl
  refine gw (e8 0 _ _ _ _ rfl rfl rfl) ?_;rw [Nz];have u6:(Out.ok (D.obj G1.length) (G1++[.lst RD])).fz=.ok (.con RD) (G1++[.dead]):=zM;have hd:G1++[.dead]=A++[.dct aP,.dead]:=by rw [← Yp];simp
  rw [hd] at u6;refine gw (v:=.con T) (G':=A++[.dct aP,.dead]) ?_ ?_
  ·have ef:u0 (af 4) [Zg (.con nD),Zg (.con wD),Zg (.obj A.length),Zg (.con qD),Zg (.obj G1.length),Zg (.int c2),Zl,Zl,Zl,Zl,Zl] (G1++[.lst RD])=_:=u6;rw [dB,fh,aS,ef,aD,aj,aS,fh,Vk];change ((((aC [.int c2,.int 28] _).bd _).bd _).bd _).bd _=_;rw [Yl];change (gi [.con RD,.int (mx c2 28)] _).bd _=_;rw [e9];rfl
  rw [Qd];generalize A++[DO.dct aP,.dead]=G4 at Kn Jt;refine gw (n0 _ _) ?_;rw [Rp];refine sW (Zw ?_ Kn) ?_
  ·simp only [sA,aS,bC,g7,aD,aj,cU,zI,Yo];rfl
  rw [yW];have g0:(G4++[DO.lst uD])[G4.length]?=Zg (.lst uD):=qV G4 _ [];refine sW (Zw ?_ Jt) rfl;generalize nP=LL;simp! [aW,g0,zu,c1,fv,fw,kX]
 rw [Ul];show Out.ok _ _=_;simp
end
end K43
end
namespace K43
noncomputable section
open PySem PySem.Spec L2 L3
theorem walk {l:ae1} {qq:ZT} {loose:List Str} {XP:(Str→Option Zj)→Heap→Prop} {YP:aaa→Heap→Prop} {d dy:DefRec} {K:Params→Zo} (hn:l.most=Zg 63) (hdf:d.params.defaults=[]) (hrec:(PyProof.Rows.recsOf qq).find? (λe=>e.name==("holds_by":Str))=Zg dy)
    (hY:∀ (w:aaa) (h:Heap),YP w h→(K w.params).In h) (hT:∀ w:aaa,acw (K w.params)=Zh) (hd:d.name="law")
    (F:∀ (w:aaa) (mg:Str→Option Zj) (h:Heap),(K w.params).In h→h.Ns mainGlobals mg→mO (K w.params) mg defs∧iO mg M4∧(∃ c Pt,aaZ (K w.params) "holds_by"=Zg (c,Pt))∧uC (K w.params) mg "MaskBook" "seen" "MaskBook.seen" jW∧Bq (K w.params) mg "MaskBook" "MaskBook.__init__" jV∧uC (K w.params) mg "MaskBook" "mask" "MaskBook.mask" jX∧∃ C,mg "MaskBook"=Zg (.ref C)∧uZ (K w.params) C∧fL (K w.params) C "across"∧fL (K w.params) C "hits"∧fL (K w.params) C "into"∧fL (K w.params) C "rows"∧fL (K w.params) C "through") :
    aea qq loose XP YP l.row.toRowW d [] (λf vs=>ae6 f vs):=
  Ei (n:=63) (k:=62) (x:="_law_script") (y:="holds_by") (CX:=λw=>mq l.prog w) hn (by decide) hdf ⟨rfl,by decide,by decide⟩ hrec hY hT (λw mg fa h KX G hm=>by obtain ⟨Td,Tn,⟨c,Pt,ht⟩,k0,k1,k2,⟨C0,hm0,QC,Uo,Up,Uq,Ur,Us⟩⟩:=F w mg h KX G;obtain ⟨f,fd,Fu,hm1⟩:=Td.at 25 rfl;rw [hd,hm1] at hm;cases hm;obtain ⟨_,_,Fy,hy⟩:=Td.at 8 rfl;exact ⟨fd,c,Pt,_,ht,Bl Fu (by intro _ _ _ _ _ _;exact nK λ_=>rfl),λbase _ _ hC hB=>M5 (g:=⟨l.prog,w,K w.params,mg,base⟩) ⟨Td,Tn,⟨c,Pt,ht,hC,hB⟩,k0,k1,k2,⟨C0,hm0,QC,Uo⟩,⟨C0,hm0,QC,Up⟩,⟨C0,hm0,QC,Uq⟩,⟨C0,hm0,QC,Ur⟩,⟨C0,hm0,QC,Us⟩⟩ Fu,λH a ns hl hO hS=>MN FJ hl ht (yH (k:=lR) Fy hy rfl) hO hS⟩) λ_ _ _ _ _ zz=>by obtain ⟨_,_,_,_,_,_,_,_,z⟩:=zz;exact z
end
end K43
def PySem.W.Fast.tw17137780561401208148:=0
def PySem.W.Fast.tw2227819728582225683:=0
def PySem.W.Fast.tw9640821903093516588:=0
def PySem.W.Fast.tw14237817336496657323:=0
def PySem.W.Fast.tw13521335255579505099:=0
def PySem.W.Fast.tw13733012874823871654:=0
def PySem.W.Fast.tw654643321940081915:=0
open PySem PySem.W PyProof.Rows
set_option maxRecDepth 100000 in
set_option maxHeartbeats 0 in
theorem PySem.Challenge.cw_pathshape_k43_masks_of_places_holds : PySem.Challenge.rw_pathshape_k43_masks_of_places.Holds := by
  w_on;o_law;z_head;(case hw=>w_witness2)
  k_fill
  refine L3.EH (λP=>rfl) (K43.walk (l:=PySem.Challenge.rw_pathshape_k43_masks_of_places) rfl rfl rfl (λ_ _ Y=>Y) (λ_=>L3.ED) rfl ?F)
  case F=>
    intro w mg h KX G
    refine ⟨?_,?_,?_,?_,?_,?_,?_⟩
    · delta K43.defs
      repeat (refine' L3.mO.EF KX G ?_ ?_ ?_ ?_ ?_;any_goals exact rfl)
      exact trivial
    · delta K43.M4
      repeat (refine L3.iO.EF KX G ?_ ?_;exact rfl)
      exact trivial
    · refine' ⟨_,_,L3.Bo ?_ ?_ ?_ ?_ ?_⟩;any_goals exact rfl
    · refine' L3.uC.J0 KX G ?_ ⟨?_,?_,?_,?_⟩ ?_ ?_ ?_ (L3.rZ.J0 ?_ ?_ ?_);any_goals exact rfl
    · refine' L3.Bq.J0 KX G ?_ ?_ ?_ ?_ ?_ (L3.rZ.J0 ?_ ?_ ?_);any_goals exact rfl
    · refine' L3.uC.J0 KX G ?_ ⟨?_,?_,?_,?_⟩ ?_ ?_ ?_ (L3.rZ.J0 ?_ ?_ ?_);any_goals exact rfl
    · refine' ⟨_,PySem.W.mg_of KX G (L3.nN ?_),⟨?_,?_,?_,?_⟩,?_,?_,?_,?_,?_⟩;any_goals exact rfl
