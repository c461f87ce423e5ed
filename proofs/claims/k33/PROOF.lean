import PyProof.Rows.All
import Wide.All
import OpenK.AllK
import Wide.FinOn
import Lean
import PyProof.EqAt
import PyProof.EqKinds
import PyProof.TupleCall
import PyProof.StrWalks
import KE.KTryMore
import PyProof.ZipIter
import PyProof.Rows.Range3
import PyProof.Draws
import PyProof.WalksMore
import PyProof.ExcBaseAll.ValueError
import PyProof.StrReplace2
import PyProof.FactsAll.range_2
import KE.KRevIter
import KE.KNest
import KE.BitLaws
import PySem.Challenge.RW_pathshape_k33_ways_without_looks
set_option Elab.async false
set_option linter.all false
set_option maxRecDepth 100000
set_option maxHeartbeats 4000000
set_option compiler.extract_closed false
set_option genSizeOf false
set_option genInjectivity false
open PySem renaming Value→V3,wpAny_bind→Yu,sizeLine→Yx,Shared→YB,wpAny_pure→YN,starEach→YZ,wpAny→Y0,wpAny_Call_Name_kw→Ze,Program→Zg,wpAny_mono→Zn,wpAny_newObj_type→Zo,World→Zs,wpAny_field→ZG,mem_of_lookup→ZU,wpAny_typeNameOfWhole_keyiter→Z6,wpAny_callSpecial?_slot→Z8,wpAny_call_entry→aaj,wpAny_passesOwn→aat,rawInt→aax,wpAny_getItem_str_slice→aaJ,wpAny_newFunctionEnv_cells→aaT,wpAny_setField→aaU,wpAny_pyIter_tuple→aa8,wpAny_pyIter_enum→abl,wpAny_storeName_local→abo,wpAny_pyIter_revIter→abH,wpAny_execs_nil→abJ,wpAny_load→abV,wpAny_truthy_bool→ab5,wpAny_assign_Name→ab6,wpAny_dictEntries→ab8,wpAny_holding→ace,wpAny_comprehension_free→acg,wpAny_execs_cons→ack,wpAny_pyNext_range_end→acv,wpAny_pyIter_rangeiter→acw,wpAny_specialOf→acF,wpAny_dictEpoch→acG,wpAny_isOneOf_keyiter→acM,wpAny_newFunctionEnv→acU,wpAny_seqItems→acV,wpAny_pyIter_keyiter→ac0,wpAny_pyIter_range→ac7,wpAny_Return_some→adh,wpAny_typeOf→adn,wpAny_pyIter_list→adp,wpAny_Dict_empty→adD,wpAny_isInstance→adF,wpAny_throw→adQ,wpAny_of_eq→adR,wpAny_updateSeq→adS,wpAny_loadPart'→adT,wpAny_Name→adY,call→adZ,wpAny_rule→ad0,Builtin→ad2
open List renaming map_cons→Yv,getElem?_eq_some_iff→Yw,length_cons→Yy,getElem?_eq_getElem→YD,getElem?_cons_zero→YF,getElem?_cons_succ→YJ,getElem?_map→YK,length_map→YL,length_append→YO,getElem?_append_left→YQ,length_nil→YR,map_append→YS,nil_append→YT,replicate→YV,map_map→YW,mem_map→YX,map_nil→YY,size_toArray→Y3,append_nil→Y4,getElem?_append_right→Y5,mem_cons→Y6,mem_singleton→Y7,range'→Y8,range→Y9,set_cons_zero→Za,set_cons_succ→Zc,cons_append→Zf,getElem?_set_ne→Zh,mem_of_getElem?→Zi,lookup_cons→Zj,mem_append→Zk,mem_cons_of_mem→Zl,getElem?_set→Zr,map_congr_left→Zt,getElem?_eq_none_iff→Zv,lookup→Zy,mem_append_right→Zz,append_assoc→ZD,getElem_inj→ZE,reverse_cons→ZH,length_singleton→ZI,nodup_cons→ZK,filter_cons_of_neg→ZN,filter_cons_of_pos→ZO,length_eq_zero_iff→ZP,nodup_append→ZS,drop_eq_getElem_cons→ZV,getElem?_zip_eq_some→ZW,getElem?_eq_none→ZY,zip_cons_cons→Z0,range'_succ→Z1,mem_append_left→Z4,of_mem_zip→Z9,find?_cons→aaa,filterMap_cons→aac,getElem_of_mem→aad,drop_eq_nil_of_le→aaf,length→aag,ext_getElem→aak,mem_cons_self→aal,zipWith→aaA,length_take→aaH,getElem?_replicate→aaI,dropLast_concat_getLast→aaM,dropLast_eq_take→aaO,mem_iff_getElem?→aaP,getElem?_mapIdx→aaW,all_eq_true→aaY,replicate_zero→aa2,length_pos_iff→aa3,replicate_succ→aa4,mem_filter→aa7,append_cancel_left→abc,zipWith_cons_cons→abn,length_replicate→abp,getElem?_toArray→abt,getElem?_zipWith→abv,length_drop→abx,any_eq_true→abA,map_reverse→abB,mapIdx_cons→abC,any_append→abM,length_zip→abN,length_reverse→abP,mem_filterMap→abW,getLastD_eq_getLast?→ab2,append_eq_append_iff→ab3,flatMap_cons→ab9,getElem?_take_of_lt→acd,any_cons→acf,range'_eq_map_range→acj,reverse_nil→acp,getElem?_set_self→acu,take_of_length_le→acD,mem_mapIdx→acI,getElem?_reverse→acK,set_append_right→acL,length_filter_le→acO,mem_range→acP,dropLast_concat→ac1,take_set_of_le→ac2,getElem?_range→ac4,map_take→ac6,getElem_range→ac8,filter_append→adb,filter_filter→ade,pairwise_cons→adf,any_eq_false→adi,take_sublist→adm,length_range→adw,ext_getElem?→adx,getElem_mem→adJ,map_fst_zip→adL,flatMap_nil→adO,filter_map→adW,mapIdx_nil→adX
open PySem.W renaming Frag→Yz,keepIn→Zu,emptyDict→ZQ,tabIn→Z3,tabObj→aap,instObj→aas,kia_one→aav,fnOf→aaw,nsIn→aaz,CodeHd→aaK,findIn→abd,cellsFrom_some→abf,codeIn→abg,noTabs→abm,codeRec_of→abY,callWith_K→ab1,methodObj→ab4,sortI→aci,lookIn→acR,WalkO→ac5,specialIn→adj,kitx_list→adq,eq_sortI→adK,OpenLaw→adV
open PySem.Heap renaming get?_push_of_some→YA,lt_size→YI,get?_push_size→YM,get?_update_other→ZR,get?_update_self→ZX,size_push→aaG,SameBut→aaL,of_hide→acA,FlyingW→ads,get?_push_ne→adt,ExtBut→adP
open PySem.PyData renaming strOk→YC,eqv→ZC,depth→ZL,canLayAll0→ZT,canLay0→Z5,depthAll→aau,eqvAll→aaN,str→aby
open Nat renaming le_refl→YE,lt_of_lt_of_le→YG,ne_of_lt→YU,succ_pos→Zp,zero_le→Zq,le_trans→Zw,lt_irrefl→Zx,lt_succ_self→aai,add_assoc→abF,ne_of_gt→abQ,zero_add→abT,lt_succ_of_lt→ab7,testBit_zero→acq,testBit_succ→acr,le_of_lt→acs,sub_self→acE,testBit_and→acJ,le_succ→acW,one_le_two_pow→adg,pow_succ→ady,add_comm→adz,min_self→adA,le_of_not_lt→adC,le_add_right→adE,succ_ne_self→adG,succ_le_succ→adH
open Eq renaming trans→YH
open PyProof.Rows renaming callWith_type1→Zb,envOfC→aae,IntsAre→aay,slot_tuple_getitem→aaF,AllBare→aaV,callWith_builtin1→abw
open Option.some renaming inj→Zd
open Bool renaming false_ne_true→Zm,and_eq_true→ZF,or_eq_true→abK,false_and→acQ,true_or→ado
open False renaming elim→ZA
open PySem.Builtin.Tuple renaming tupleExact→ZJ
open PySem.F renaming slot_dict_keyiterator_next→ZM,slot_tuple_iterator_next→aao,args_tuple_add_2→aa6,entry_tuple_add→aa9,slot_tuple_add→abh,slot_dict_get→abq,args_dict_keyiterator_next_1→abz,entry_dict_keyiterator_next→abI,args_tuple_iterator_next_1→abL,entry_tuple_iterator_next→abS,args_dict_get_3→acn,plainAttrs_list→aco,entry_dict_get→acz,args_object_init_2→acZ,slot_list_extend→ac9,plain_list_iadd→adu,slot_dict_iter→adI
open PySem.Calls renaming spliced_cons→ZZ,spliced_nil→abe,callWith_builtin→abi,Name_function_global→abU,evalArgs_plain→acT
open Ne renaming symm→Z2
open PySem.Builtin.Range renaming rangeSize→Z7,small→ac3
open PySem.Builtin.Dict_items renaming ownsTuple→aab
open PySem.Obj renaming mapFields→aah,data_mapFields→aan,isFreed_of_fields→abr,mapSeq→ab0,cls_mapFields→adv
open Array renaming getElem?_eq_some_iff→aam,getElem?_eq_getElem→aa0,getElem?_eq_none→abj,length_toList→abO,toArray_toList→acY
open PySem.Builtin.Slice renaming slicePlaces→aaq,sliceAdjust→aaZ,sliceApplied→abZ
open PySem.Builtin.SmallTypes renaming nextOf→aar
open True renaming intro→aaB
open PySem.Builtin.List renaming listTooLong→aaC,listExtendWith→aaR,listLengthHint→abR,listSameRef→ach
open PySem.AutoSeq1 renaming wpAny_loadPart'→aaD
open List.cons renaming inj→aaE
open Int renaming toNat_natCast→aaQ,fdiv_eq_ediv_of_nonneg→abX,zero_add→acC,natCast_zero→adN,ediv_nonneg→adU
open PySem.Builtin renaming bitAnd→aaS,bitOr→abD
open PySem.Str renaming ofString→aaX
open PySem.Heap.SameBut renaming update→aa1
open PySem.Paired renaming length→aa5
open PySem.Txt renaming slice→aba
open Classical renaming propDecidable→abb,choose_spec→abu,choose→adM
open PySem.PassesOwn renaming leaving→abk
open Function renaming comp→abE
open Sum.inl renaming inj→abG
open PySem.Builtin.Str renaming occurrences→acm
open PyProof renaming noPylong_small→acy
open PyProof.Rows.IsTup renaming new→acB,new→adB
open PySem.W.Frag renaming In→acH
open PySem.Builtin.Dict renaming showsAll→acN
open PySem.Around renaming frames_deeper→acS,under_plainId→acX,under→adk
open PySem.ScopeKind renaming function→ada
open PySem.Code renaming isFrame→adl
open Or renaming inr→ad1
local macro_rules
 | `(tactic| nofun)=>`(tactic| first | decide | lia | omega)
local macro_rules
 | `(tactic| symm)=>`(tactic| decide +kernel)
namespace L2
open PySem PySem.Spec PyProof.Rows
variable {pins gw:List (Addr×Obj)} {K:Yz} {s s':YB} {A:Around} {P:Zg} {mg mA:Str→Option V3} {u:V3} {x:Str} {w:Zs} {us its:List V3} {h base:Heap} {b a C it dx:Addr} {f:V3→V3→Sem V3} {t' i n tk j:Nat} {E:V3→YB→Prop} {fp ch:List Addr} {kw:List (Str×V3)} {ps N:List Str} {fd:FuncData} {g:Int→Int→Int} {body:List Stmt} {tg e c iter:Expr} {outer:List Env} {es:List Expr} {op:CmpOp} {g':Array GenState} {vs:Array V3} {p:Addr×Obj} {sc:Scope} {β α:Type} {k':Bool} {pos' pos:Pos} {lo hi:Int}
noncomputable abbrev Key:=Sum Int Str
noncomputable def pA:Key→V3→Bool
  | .inl k,v=>Value.isInt k v
  | .inr x,v=>Value.isStrOf x v
noncomputable def Ro (w:Zs):Key→Int
  | .inl k=>hashInt k
  | .inr x=>hashStr w x
theorem cu:∀ {k:Key} {v:V3},pA k v=true→(∃ i t,k=Sum.inl i∧v=Value.int i t)∨(∃ x t,k=Sum.inr x∧v=Value.str x t)
  | .inl i,v,h=>by
    obtain ⟨t,e⟩:=Value.isInt_shape (k:=i) (v:=v) h
    exact .inl ⟨i,t,rfl,e⟩
  | .inr x,v,h=>by
    obtain ⟨t,e⟩:=Value.isStrOf_shape (x:=x) (v:=v) h
    exact .inr ⟨x,t,rfl,e⟩
theorem A0 (i:Int) (t:Tok):pA (.inl i) (.int i t)=true:=by simp [pA,Value.isInt]
theorem A1 (x:Str) (t:Tok):pA (.inr x) (.str x t)=true:=by simp [pA,Value.isStrOf]
theorem KC (a b:Int):decide ((Sum.inl a:Key)=Sum.inl b)=(a==b):=by
  by_cases e:a=b
  · subst e;simp
  · have h:¬ (Sum.inl a:Key)=Sum.inl b:=λq=>e (abG q)
    rw [decide_eq_false h]
    exact (beq_eq_false_iff_ne.mpr e).symm
theorem KD (a b:Str):decide ((Sum.inr a:Key)=Sum.inr b)=decide (a=b):=by
  by_cases e:a=b
  · subst e;simp
  · have h:¬ (Sum.inr a:Key)=Sum.inr b:=λq=>e (Sum.inr.inj q)
    rw [decide_eq_false h,decide_eq_false e]
theorem KG (a:Int) (b:Str):decide ((Sum.inl a:Key)=Sum.inr b)=false:=decide_eq_false (λq=>nomatch q)
theorem KH (a:Str) (b:Int):decide ((Sum.inr a:Key)=Sum.inl b)=false:=decide_eq_false (λq=>nomatch q)
noncomputable def bK (prog:Zg) (w:Zs):PySem.KeyKind prog w Key where
  is:=pA
  hash:=Ro w
  inj:=λv a b ha hb=>by
    rcases cu ha with ⟨i,t,rfl,rfl⟩ | ⟨x,t,rfl,rfl⟩
    · rcases cu hb with ⟨j,u,rfl,e⟩ | ⟨y,u,rfl,e⟩
      · injection e with e1 _;rw [e1]
      · exact nomatch e
    · rcases cu hb with ⟨j,u,rfl,e⟩ | ⟨y,u,rfl,e⟩
      · exact nomatch e
      · injection e with e1 _;rw [e1]
  byValue:=λk v h=>by
    rcases cu h with ⟨i,t,rfl,rfl⟩ | ⟨x,t,rfl,rfl⟩<;>rfl
  pyHash:=λhv h=>by
    rcases cu hv with ⟨i,t,rfl,rfl⟩ | ⟨x,t,rfl,rfl⟩
    · exact wpAny_pyHash_int h
    · exact wpAny_pyHash_str h
  eqBool:=λhu hv h=>by
    rcases cu hu with ⟨i,t,rfl,rfl⟩ | ⟨x,t,rfl,rfl⟩
    · rcases cu hv with ⟨j,u,rfl,rfl⟩ | ⟨y,u,rfl,rfl⟩
      · rw [KC] at h;exact wpAny_eqBool_int h
      · rw [KG] at h;exact SeqAt.EqAt.int_str i t y u _ _ _ _ h
    · rcases cu hv with ⟨j,u,rfl,rfl⟩ | ⟨y,u,rfl,rfl⟩
      · rw [KH] at h;exact SeqAt.EqAt.str_int x t j u _ _ _ _ h
      · rw [KD] at h;exact wpAny_eqBool_str h
  «strs»:=λk x t v h=>by
    rcases cu h with ⟨i,u,rfl,e⟩ | ⟨y,u,rfl,e⟩
    · exact nomatch e
    · injection e with e1 _
      subst e1
      cases v<;>rfl
theorem vW (prog:Zg) (w:Zs) (i:Int) (t:Tok):(bK prog w).is (.inl i) (.int i t)=true:=A0 i t
theorem vX (prog:Zg) (w:Zs) (x:Str) (t:Tok):(bK prog w).is (.inr x) (.str x t)=true:=A1 x t
inductive V where
  | dP | bl (b:Bool) | int (i:Int) | str (x:Str) | N4 (b:Array UInt8) | N5 (b:UInt64) | ref (a:Addr) | ty (n:String)
  deriving DecidableEq
variable {v y:V} {xs:List V}
noncomputable def RelV:V→V3→Prop
  | .dP,u=>u=Value.none
  | .bl b,u=>u=Value.bool b
  | .int i,u=>∃ t,u=Value.int i t
  | .str x,u=>∃ t,u=Value.str x t
  | .N4 b,u=>∃ t,u=Value.bytes b t
  | .N5 b,u=>∃ t,u=Value.float b t
  | .ref a,u=>u=Value.ref a
  | .ty n,u=>u=Value.type n
noncomputable abbrev Vals:List V→List V3→Prop:=Paired RelV
theorem Vals.length (r:Vals xs us):xs.length=us.length:=aa5 r
theorem Vals.get:∀ {xs:List V} {us:List V3} {i:Nat} {x:V},Vals xs us→xs[i]?=some x→∃ u,us[i]?=some u∧RelV x u
  | _,_,_,_,.nil,e=>by simp at e
  | _,_,0,_,.cons r _,e=>by simp at e;subst e;exact ⟨_,rfl,r⟩
  | _,_,i+1,x,.cons _ t,e=>by
    obtain ⟨u,h1,h2⟩:=Vals.get (i:=i) (x:=x) t (by simpa using e)
    exact ⟨u,by simpa using h1,h2⟩
theorem Vals.append:∀ {xs ys:List V} {us ws:List V3},Vals xs us→Vals ys ws→Vals (xs++ys) (us++ws)
  | _,_,_,_,.nil,s=>s
  | _,_,_,_,.cons r t,s=>.cons r (Vals.append t s)
theorem Vals.take:∀ {xs:List V} {us:List V3} (n:Nat),Vals xs us→Vals (xs.take n) (us.take n)
  | _,_,0,_=>.nil
  | _,_,_+1,.nil=>.nil
  | _,_,n+1,.cons r t=>.cons r (Vals.take n t)
theorem Vals.drop:∀ {xs:List V} {us:List V3} (n:Nat),Vals xs us→Vals (xs.drop n) (us.drop n)
  | _,_,0,r=>r
  | _,_,_+1,.nil=>.nil
  | _,_,n+1,.cons _ t=>Vals.drop n t
noncomputable def om:Option V→Option V3→Prop
  | some v,some u=>RelV v u
  | none,none=>True
  | _,_=>False
noncomputable def KV {κ:Type}:List (κ×V)→List (κ×V3)→Prop:=Paired λ(p:κ×V) (q:κ×V3)=>p.1=q.1∧RelV p.2 q.2
noncomputable def kV:Key→V
  | .inl i=>.int i
  | .inr x=>.str x
inductive HO where
  | lst (xs:List V)
  | tup (xs:List V)
  | dK (kvs:List (Key×V)) | dT (kvs:List (List Key×V))
  | set (S:Int→Bool) (n:Nat)
  | ins (C dx:Addr) (fs:List (Str×V))
  | own (x:Addr)
  | xd (fs:List (Str×V))
  | met (f x:Addr)
  | A2 (lo hi:Int)
  | cy (o:Obj) (u:HO)
  | lP (ps:Array V3)
  | ext (φ:Heap→Prop)
variable {o:HO}
noncomputable abbrev Hp:=Addr→Option HO
variable {H:Hp}
noncomputable def upd (H:Hp) (a:Addr) (o:HO):Hp:=λb=>if b=a then some o else H b
theorem aM:upd H a o a=some o:=by unfold upd;rw [if_pos rfl]
theorem av (h:b≠a):upd H a o b=H b:=by unfold upd;rw [if_neg h]
theorem cD {u:HO} (h:H a=some o) (h':H b=some u) (d:o≠u):a≠b:=by
  intro e;subst e;rw [h] at h';exact d (Zd h')
theorem bX (h:H a=some o) (h':H b=none):a≠b:=by
  intro e;subst e;rw [h] at h';cases h'
section
variable (P:Zg) (w:Zs)
noncomputable def dm (H:Hp) (h:Heap) (a:Addr):HO→Prop
  | .lst xs=>xs.length≤Yx∧∃ (its:List V3) (n:Nat),Vals xs its∧h.get? a=some {cls:=.type "list",data:=.seq its.toArray n}
  | .tup xs=>xs.length≤Yx∧∃ its:List V3,Vals xs its∧IsTup h a its.toArray
  | .dK kvs=>kvs.length≤Yx∧(a==sysModules)=false∧∃ vs,KV kvs vs∧h.DictOf (bK P w) a vs
  | .dT kvs=>kvs.length≤Yx∧(a==sysModules)=false∧∃ xs:List (List Key×Addr×V3),
      Paired (λ(p:List Key×V) (q:List Key×Addr×V3)=>p.1=q.1∧H q.2.1=some (.tup (p.1.map kV))∧RelV p.2 q.2.2) kvs xs ∧
      ∃ o es ep,h.get? a=some o∧o.ExactDict∧o.data=.dict es ep∧es.toList=xs.map (entryOfKey (tupleKind (bK P w)))∧(xs.map (·.1)).Nodup
  | .set S n=>h.SetOf (intKind P w) a S n
  | .ins C dx fs=>H dx=some (.own a)∧fs.length≤1000∧dx≠a∧h.get? a=some (aas C dx) ∧
      ∃ mA,h.Ns1 dx mA∧(∀ f,om (fs.lookup f) (mA f))∧PySem.Within mA (fs.map (·.1))
  | .own _=>∃ o,h.get? a=some o
  | .xd fs=>∃ mA,h.Ns1 a mA∧∀ f,om (fs.lookup f) (mA f)
  | .A2 lo hi=>∃ t u v,h.get? a=some {cls:=.type "range",data:=.fields #[.int lo t,.int hi u,.int 1 v]}
  | .cy o u=>h.get? a=some o∧dm H h a u
  | .lP ps=>h.get? a=some {cls:=.none,data:=.fields ps}
  | .met f x=>h.get? a=some (ab4 (.ref f) (.ref x))
  | .ext φ=>φ h∧(∃ o,h.get? a=some o)∧∀ h1 h2:Heap,φ h1→(∀ o,h1.get? a=some o→h2.get? a=some o)→φ h2
noncomputable def ji (H:Hp) (h:Heap):Prop:=∀ a o,H a=some o→dm P w H h a o
end
section
variable {P:Zg} {w:Zs} {H H':Hp} {h h':Heap} {a:Addr} {o:HO}
theorem dm.lt (x:dm P w H h a o):a<h.objs.size:=by
  cases o with
  | lst xs=>obtain ⟨_,_,_,_,e⟩:=x;exact YI e
  | tup xs=>obtain ⟨_,_,_,p⟩:=x;exact p.lt
  | dK kvs=>obtain ⟨_,_,_,_,o,_,_,e,_⟩:=x;exact YI e
  | dT kvs=>obtain ⟨_,_,_,_,o,_,_,e,_⟩:=x;exact YI e
  | set S n=>obtain ⟨o,_,_,_,e,_⟩:=x;exact YI e
  | ins C dx fs=>obtain ⟨_,_,_,e,_⟩:=x;exact YI e
  | own y=>obtain ⟨_,e⟩:=x;exact YI e
  | xd fs=>obtain ⟨_,⟨_,_,_,e,_⟩,_⟩:=x;exact YI e
  | A2 lo hi=>obtain ⟨_,_,_,e⟩:=x;exact YI e
  | cy ob u=>obtain ⟨e,_⟩:=x;exact YI e
  | lP ps=>exact YI (show h.get? a=some _ from x)
  | met f y=>exact YI (show h.get? a=some _ from x)
  | ext φ=>obtain ⟨_,⟨_,e⟩,_⟩:=x;exact YI e
theorem Paired.KJ {F G:α→β→Prop}:∀ {l₁:List α} {l₂:List β},Paired F l₁ l₂→(∀ a b,F a b→G a b)→Paired G l₁ l₂
  | _,_,.nil,_=>.nil
  | _,_,.cons r t,f=>.cons (f _ _ r) (Paired.KJ t f)
theorem dm.stay (x:dm P w H h a o) (k:∀ b u,(b=a∨H b=some (.own a))→h.get? b=some u→h'.get? b=some u)
    (ho:∀ b,H b=some (.own a)→H' b=some (.own a)) (ht:∀ b xs,H b=some (.tup xs)→H' b=some (.tup xs)):dm P w H' h' a o:=by
  induction o with
  | lst xs=>obtain ⟨z,its,n,r,e⟩:=x;exact ⟨z,its,n,r,k _ _ (.inl rfl) e⟩
  | tup xs=>obtain ⟨z,its,r,ob,e,c⟩:=x;exact ⟨z,its,r,ob,k _ _ (.inl rfl) e,c⟩
  | dK kvs=>obtain ⟨z,y,vs,r,ob,es,ep,e,c⟩:=x;exact ⟨z,y,vs,r,ob,es,ep,k _ _ (.inl rfl) e,c⟩
  | dT kvs=>
    obtain ⟨z,y,xs,r,ob,es,ep,e,c⟩:=x
    exact ⟨z,y,xs,Paired.KJ r λp q z=>⟨z.1,ht _ _ z.2.1,z.2.2⟩,ob,es,ep,k _ _ (.inl rfl) e,c⟩
  | set S n=>obtain ⟨ob,es,ep,t,e,c⟩:=x;exact ⟨ob,es,ep,t,k _ _ (.inl rfl) e,c⟩
  | ins C dx fs=>
    obtain ⟨d,z,ne,e,mA,⟨od,es,ep,e2,c⟩,r⟩:=x
    exact ⟨ho _ d,z,ne,k _ _ (.inl rfl) e,mA,⟨od,es,ep,k _ _ (.inr d) e2,c⟩,r⟩
  | own y=>obtain ⟨ob,e⟩:=x;exact ⟨ob,k _ _ (.inl rfl) e⟩
  | xd fs=>obtain ⟨mA,⟨od,es,ep,e,c⟩,r⟩:=x;exact ⟨mA,⟨od,es,ep,k _ _ (.inl rfl) e,c⟩,r⟩
  | A2 lo hi=>obtain ⟨t,u,v,e⟩:=x;exact ⟨t,u,v,k _ _ (.inl rfl) e⟩
  | cy ob u ih=>obtain ⟨e,q⟩:=x;exact ⟨k _ _ (.inl rfl) e,ih q⟩
  | lP ps=>
    have e:h.get? a=some {cls:=.none,data:=.fields ps}:=x
    show h'.get? a=some {cls:=.none,data:=.fields ps}
    exact k a _ (.inl rfl) e
  | met f y=>
    have e:h.get? a=some (ab4 (.ref f) (.ref y)):=x
    show h'.get? a=some (ab4 (.ref f) (.ref y))
    exact k a _ (.inl rfl) e
  | ext φ=>obtain ⟨p,⟨o,e⟩,st⟩:=x;exact ⟨st _ _ p λo q=>k _ _ (.inl rfl) q,⟨o,k _ _ (.inl rfl) e⟩,st⟩
theorem ji.lt (x:ji P w H h) (e:H a=some o):a<h.objs.size:=(x a o e).lt
theorem ji.fresh (x:ji P w H h) (e:h.objs.size≤a):H a=none:=by
  cases q:H a with
  | none=>rfl
  | some u=>exact absurd (YG (x.lt q) e) (Zx _)
theorem ji.kept (x:ji P w H h) (k:∀ b u,h.get? b=some u→h'.get? b=some u):ji P w H h':=λa o e=>
  (x a o e).stay (λb u _ q=>k b u q) (λ_ q=>q) λ_ _ q=>q
theorem ji.laid (x:ji P w H h) (k:∀ b u,h.get? b=some u→h'.get? b=some u) (hp:h.objs.size≤a) (new:dm P w (upd H a o) h' a o):ji P w (upd H a o) h':=λb u e=>by
  have hn:=x.fresh hp
  by_cases hb:b=a
  · subst hb;rw [aM] at e;cases e;exact new
  · rw [av hb] at e
    exact (x b u e).stay (λc v _ q=>k c v q) (λc q=>by rw [av (bX q hn)];exact q) λc xs q=>by rw [av (bX q hn)];exact q
end
noncomputable def Rd (H:Hp) (a:Addr) (u:HO):Prop:=H a=some u∨∃ o,H a=some (.cy o u)
theorem Rd.of {u:HO} (h:H a=some u):Rd H a u:=.inl h
theorem Rd.ok {u:HO} (r:Rd H a u) (x:ji P w H h):dm P w H h a u:=by
  rcases r with r | ⟨o,r⟩
  · exact x a u r
  · obtain ⟨_,q⟩:=x a _ r
    exact q
noncomputable def N6:Option HO→Prop
  | some (.lst _)=>True
  | some (.dK _)=>True
  | some (.dT _)=>True
  | some (.set _ _)=>True
  | some (.ins _ _ _)=>True
  | some (.ext _)=>True
  | _=>False
section
variable {P:Zg} {w:Zs} {H:Hp} {h h':Heap} {x e:Addr} {o':HO}
theorem ji.write (ok:ji P w H h) (mu:N6 (H x)) (he:e=x∨H e=some (.own x)) (k:∀ b u,b≠e→h.get? b=some u→h'.get? b=some u) (NO:∃ u,h'.get? e=some u)
    (new:dm P w (upd H x o') h' x o'):ji P w (upd H x o') h':=λb u q=>by
  have N7:∀ c y,H c=some (.own y)→c≠x:=λc y r z=>by subst z;rw [r] at mu;exact mu
  have Rp:∀ c xs,H c=some (.tup xs)→c≠x:=λc xs r z=>by subst z;rw [r] at mu;exact mu
  by_cases hb:b=x
  · subst hb;rw [aM] at q;cases q;exact new
  · rw [av hb] at q
    by_cases F8:b=e
    · have q':H b=some (.own x):=by
        rcases he with z | z
        · exact absurd (F8.trans z) hb
        · rw [F8];exact z
      rw [q] at q';cases q'
      obtain ⟨v,hv⟩:=NO
      exact ⟨v,by rw [F8];exact hv⟩
    · refine (ok b u q).stay (λc v hc r=>k c v ?_ r) (λc r=>by rw [av (N7 c b r)];exact r) λc xs r=>by rw [av (Rp c xs r)];exact r
      rcases hc with rfl | hc
      · exact F8
      · rintro rfl
        rcases he with z | z
        · exact N7 c b hc z
        · rw [hc] at z;cases z;exact hb rfl
end
structure Un (fs ex:List Addr) (H H':Hp) (h h':Heap):Prop where
  keep:∀ b o,h.get? b=some o→H b=none→b∉fs→b∉ex→h'.get? b=some o
  slot:∀ b o,h.get? b=some o→H b=none→b∈fs→b∉ex→∃ sl,h'.get? b=some {o with slots:=sl}
  free:∀ b o,h.get? b=some o→H b=none→b∉ex→H' b=none
  there:∀ b o,h.get? b=some o→b∉ex→∃ o',h'.get? b=some o'
  tups:∀ b xs,H b=some (.tup xs)→H' b=some (.tup xs)
  jS:∀ b o u,H b=some (.cy o u)→H' b=some (.cy o u)
  kO:∀ b ps,H b=some (.lP ps)→∃ more,H' b=some (.lP (ps++more))
section
variable {fs fs' ex ex':List Addr} {H H1 H2:Hp} {h h1 h2 h':Heap} {a x e:Addr} {o:HO}
theorem Un.any (u:Un fs ex H H1 h h1) {b:Addr} {ob:Obj} (q:h.get? b=some ob) (n:H b=none) (hx:b∉ex):∃ sl,h1.get? b=some {ob with slots:=sl}:=by
  by_cases hb:b∈fs
  · exact u.slot b ob q n hb hx
  · exact ⟨ob.slots,u.keep b ob q n hb hx⟩
theorem Un.kept (k:∀ b u,h.get? b=some u→h'.get? b=some u):Un fs ex H H h h':=
  ⟨λb ob q _ _ _=>k b ob q,λb ob q _ _ _=>⟨ob.slots,k b ob q⟩,λ_ _ _ n _=>n,λb ob q _=>⟨ob,k b ob q⟩,λ_ _ q=>q,λ_ _ _ q=>q,λ_ ps q=>⟨#[],by rw [q];simp⟩⟩
theorem Un.refl:Un fs ex H H h h:=Un.kept λ_ _ q=>q
theorem Un.laid (k:∀ b u,h.get? b=some u→h'.get? b=some u) (hp:h.objs.size≤a) (hn:H a=none):Un fs ex H (upd H a o) h h' where
  keep:=λb u q _ _ _=>k b u q
  slot:=λb u q _ _ _=>⟨u.slots,k b u q⟩
  free:=λb u q n _=>by rw [av (YU (YG (YI q) hp))];exact n
  there:=λb u q _=>⟨u,k b u q⟩
  tups:=λb xs q=>by rw [av (bX q hn)];exact q
  jS:=λb u xs q=>by rw [av (bX q hn)];exact q
  kO:=λb ps q=>⟨#[],by rw [av (bX q hn),q];simp⟩
theorem Un.write (mu:N6 (H x)) (he:e=x∨H e=some (.own x)) (k:∀ b u,b≠e→h.get? b=some u→h'.get? b=some u) (NO:∃ u,h'.get? e=some u):Un fs ex H (upd H x o) h h':=by
  have hx:∀ b,H b=none→b≠x:=λb n z=>by subst z;rw [n] at mu;exact mu
  have hb:∀ b,H b=none→b≠e:=λb n z=>by
    subst z
    rcases he with r | r
    · exact hx b n r
    · rw [n] at r;cases r
  have hm:∀ b u,H b=some u→¬ N6 (some u)→b≠x:=λb u q nm z=>by subst z;rw [q] at mu;exact nm mu
  refine ⟨λb u q n _ _=>k b u (hb b n) q,λb u q n _ _=>⟨u.slots,k b u (hb b n) q⟩,λb u q n _=>by rw [av (hx b n)];exact n,λb u q _=>?_,
    λb xs q=>by rw [av (hm b _ q λz=>z)];exact q,λb u xs q=>by rw [av (hm b _ q λz=>z)];exact q,λb ps q=>⟨#[],by rw [av (hm b _ q λz=>z),q];simp⟩⟩
  by_cases F8:b=e
  · subst F8;exact NO
  · exact ⟨u,k b u F8 q⟩
end
noncomputable def QJ (h:Heap) (H:Hp):List Addr:=(Y9 h.objs.size).filter λa=>(H a).isSome
noncomputable def pB (h:Heap) (H:Hp):Heap:=PySem.W.hideAll h (QJ h H)
theorem A3 (h:Heap) (H:Hp):(pB h H).objs.size=h.objs.size:=PySem.W.hideAll_size _ _
theorem CI {o:Obj} (e:h.get? b=some o) (n:H b=none):(pB h H).get? b=some o:=
  PySem.W.hideAll_get _ e λhm=>by
    have q:(H b).isSome=true:=(aa7.mp hm).2
    rw [n] at q;simp at q
theorem Gh {o:Obj} (e:(pB h H).get? b=some o):h.get? b=some o∧H b=none:=by
  have e':h.get? b=some o:=PySem.W.of_hideAll (QJ h H) e
  refine ⟨e',?_⟩
  cases q:H b with
  | none=>rfl
  | some x=>
    have hm:b∈QJ h H:=aa7.mpr ⟨acP.mpr (YI e'),by simp [q]⟩
    have z:(pB h H).get? b=none:=PySem.W.hideAll_none (QJ h H) hm
    rw [z] at e;cases e
noncomputable def Gi (g h:Heap) (L:Addr):List (Addr×Obj):=(Y9 h.objs.size).filterMap λa=>if a=L∨(g.get? a).isSome=true then none else (h.get? a).map λo=>(a,o)
noncomputable def rest (g h:Heap) (L d:Addr):List (Addr×Obj):=(Gi g h L).filter λp=>decide (p.1≠d)
structure Mod (K:Yz) (mg:Str→Option V3) (base:Heap):Prop where
  Gj:K.In base
  glob:base.Ns mainGlobals mg
  blt:∃ mb,base.Ns builtinsNs mb∧∀ x:Str,x≠"__name__"→mb x=bootBuiltins x
  nolimit:base.NoLimit
structure Cx where
  prog:Zg
  w:Zs
  K:Yz
  mg:Str→Option V3
  base:Heap
  A:Around
  N:List Str
  s₀:YB
  H₀:Hp
  env:Env
  outer:List Env
  stack:List Env
  ex:List Addr
  fn:Str→Bool
  calm:Bool
  pn:List (Addr×Obj)
  xe:V3→YB→Prop
variable {X:Cx}
noncomputable def frs (l:List Env):List Addr:=l.filterMap (·.frame)
noncomputable abbrev Cx.fs (X:Cx):List Addr:=frs X.outer
noncomputable def CJ (sc:Scope) (x:Str):Prop:=sc.names.lookup x=some .local∨sc.names.lookup x=some .cell∨sc.names.lookup x=some .free
noncomputable def Loc (sc:Scope) (x:Str):Prop:=sc.names.lookup x=some .local∨sc.names.lookup x=some .cell
noncomputable def Look (env:Env) (h:Heap) (m:Str→Option V3) (x:Str) (u:V3):Prop:=
  (env.kindOf x=some .local∧m x=some u)∨((env.kindOf x=some .cell∨env.kindOf x=some .free)∧∃ c,env.cells.lookup x=some c∧h.IsCell c (some u))
structure Cx.Ok (X:Cx):Prop where
  mod:Mod X.K X.mg X.base
  kind:X.env.scope.kind=.function
  glob:X.env.globals=mainGlobals
  blt:X.env.builtins=builtinsNs
  above:X.s₀.heap.objs.size≤X.env.locals
  inj:∀ x y c,X.env.cells.lookup x=some c→X.env.cells.lookup y=some c→x=y
  has:∀ x,(X.env.kindOf x=some .cell∨X.env.kindOf x=some .free)→∃ c,X.env.cells.lookup x=some c
  N8:∀ x c,X.fn x=true→X.env.cells.lookup x=some c→X.s₀.heap.objs.size≤c
  hd:X.calm=true→X.A.handled=none
  frames:X.A.frames=some X.stack
  stk:X.stack=X.outer∨(X.stack=X.env::X.outer∧X.env.frame=some X.env.locals)
  U0:∀ b∈X.ex,b≠X.env.locals∧∀ x c,X.env.cells.lookup x=some c→c≠b
  bs:∀ b o,X.base.get? b=some o→X.s₀.heap.get? b=some o∧X.H₀ b=none
  F9:X.base.objs.size≤X.s₀.heap.objs.size
  Gk:∀ b o,X.base.get? b=some o→b∉X.ex
  Gm:∀ b∈X.ex,b∉X.fs
  lR:X.s₀.heap.FunFrames X.base X.outer
  Gn:∀ b∈X.fs,X.H₀ b=none
structure Inv (X:Cx) (pins:List (Addr×Obj)) (σ:List (Option V)) (H:Hp) (s:YB):Prop where
  ok:X.Ok
  os:s.os=X.s₀.os∧0<s.toks
  bare:AllBare s.gens
  base:Un X.fs X.ex X.H₀ H X.s₀.heap s.heap
  loc:∃ m,s.heap.Ns X.env.locals m∧∀ (i:Nat) (x:Str) (v:V),X.N[i]?=some x→σ[i]?=some (some v)→CJ X.env.scope x→∃ u,RelV v u∧Look X.env s.heap m x u
  cell:∀ x c,X.env.cells.lookup x=some c→∃ v,s.heap.IsCell c v
  free:H X.env.locals=none
  jM:∀ x c,X.env.cells.lookup x=some c→H c=none∨(X.fn x=false∧∃ o u,H c=some (.cy o u))
  pin:∀ p∈X.pn++pins,s.heap.get? p.1=some p.2∧H p.1=none∧p.1≠X.env.locals∧p.1∉X.fs∧∀ v,p.2.data≠.cell v
  hok:ji X.prog X.w H s.heap
  len:σ.length=X.N.length
section
variable {X:Cx} {pins:List (Addr×Obj)} {σ:List (Option V)} {H H':Hp} {s:YB} {h':Heap}
theorem Cx.Ok.Rq (ok:X.Ok) {b:Addr} {o:Obj} (e:X.base.get? b=some o):b∉X.fs:=λhb=>by
  have:=(ok.lR.mem hb).1
  rw [e] at this;cases this
theorem Inv.bs (I:Inv X pins σ H s):∀ b o,X.base.get? b=some o→s.heap.get? b=some o∧H b=none:=λb o e=>
  ⟨I.base.keep b o (I.ok.bs b o e).1 (I.ok.bs b o e).2 (I.ok.Rq e) (I.ok.Gk b o e),I.base.free b o (I.ok.bs b o e).1 (I.ok.bs b o e).2 (I.ok.Gk b o e)⟩
theorem Inv.bk (I:Inv X pins σ H s):∀ b o,X.base.get? b=some o→s.heap.get? b=some o:=λb o e=>(I.bs b o e).1
theorem Inv.mod (I:Inv X pins σ H s):Mod X.K X.mg X.base:=I.ok.mod
theorem Inv.yr (I:Inv X pins σ H s):X.K.In s.heap:=I.ok.mod.Gj.keeps I.bk
theorem Inv.nolimit (I:Inv X pins σ H s):s.heap.NoLimit:=I.ok.mod.nolimit.keeps I.bk
theorem Inv.fr (I:Inv X pins σ H s):∃ m,Fr X.base X.env.locals s.heap m:=
  let ⟨m,hn,_⟩:=I.loc
  ⟨m,hn,I.bk,Zw I.ok.F9 I.ok.above⟩
theorem Inv.lt (I:Inv X pins σ H s):X.env.locals<s.heap.objs.size:=let ⟨_,hn,_⟩:=I.loc;hn.lt
theorem Inv.sz (I:Inv X pins σ H s):X.s₀.heap.objs.size≤s.heap.objs.size:=Zw I.ok.above (acs I.lt)
theorem Inv.Rr (I:Inv X pins σ H s) {a:Addr} (h:s.heap.objs.size≤a):a∉X.fs:=λhb=>by
  obtain ⟨_,o,ho,_⟩:=I.ok.lR.mem hb
  exact absurd (YG (YI ho) (Zw I.sz h)) (Zx _)
theorem Inv.CK (I:Inv X pins σ H s):∀ x c,X.env.cells.lookup x=some c→c≠X.env.locals:=λx c e z=>by
  obtain ⟨v,o,ho,hd⟩:=I.cell x c e
  obtain ⟨m,⟨o',es,ep,ho',hd',_⟩,_⟩:=I.loc
  rw [z,ho'] at ho;cases ho;rw [hd'] at hd;cases hd
theorem Inv.lR (I:Inv X pins σ H s):s.heap.FunFrames X.base X.outer:=by
  have all:∀ (l:List Env),(∀ b∈frs l,b∈X.fs)→X.s₀.heap.FunFrames X.base l→s.heap.FunFrames X.base l:=by
    intro l
    induction l with
    | nil=>intro _ _;trivial
    | cons env r ih=>
      intro hs hl
      obtain ⟨hk,⟨L,o,hf,hn,ho,hd⟩,hr⟩:=hl
      have hL:L∈X.fs:=hs L (by unfold frs;rw [aac,hf];exact aal)
      obtain ⟨sl,e⟩:=I.base.slot L o ho (I.ok.Gn L hL) hL λz=>I.ok.Gm L z hL
      exact ⟨hk,⟨L,_,hf,hn,e,hd⟩,ih (λb hb=>hs b (by unfold frs;rw [aac,hf];exact Zl _ hb)) hr⟩
  exact all X.outer (λ_ hb=>hb) I.ok.lR
theorem Inv.stack (I:Inv X pins σ H s):s.heap.FunFrames X.base X.stack:=by
  rcases I.ok.stk with e | ⟨e,hf⟩
  · rw [e];exact I.lR
  · rw [e]
    obtain ⟨m,hn,_⟩:=I.loc
    refine .cons (by rw [I.ok.kind];decide) hf hn ?_ I.lR
    exact Heap.get?_none_of_le (Zw I.ok.F9 I.ok.above)
theorem Inv.k9 (I:Inv X pins σ H s):∀ b∈frs X.stack,b∈X.env.locals::X.fs:=λb hb=>by
  rcases I.ok.stk with e | ⟨e,hf⟩
  · rw [e] at hb;exact Zl _ hb
  · rw [e] at hb
    unfold frs at hb
    rw [aac,hf] at hb
    exact hb
theorem Inv.oH (I:Inv X pins σ H s):∀ b∈frs X.stack,H b=none:=λb hb=>by
  rcases Y6.mp (I.k9 b hb) with e | hb
  · rw [e];exact I.free
  · obtain ⟨_,o,ho,_⟩:=I.ok.lR.mem hb
    exact I.base.free b o ho (I.ok.Gn b hb) λz=>I.ok.Gm b z hb
theorem Inv.step {g':Array GenState} {t':Nat} {d':Drawn} (I:Inv X pins σ H s)
    (hch:∀ b∈ch,(b∈X.ex∨X.s₀.heap.objs.size≤b)∧b≠X.env.locals∧(∀ x c,X.env.cells.lookup x=some c→c≠b)∧∀ p∈X.pn++pins,p.1≠b)
    (keep:∀ b o,b≠X.env.locals→b∉X.fs→b∉ch→s.heap.get? b=some o→H b=none→h'.get? b=some o)
    (slot:∀ b o,b≠X.env.locals→b∈X.fs→b∉ch→s.heap.get? b=some o→H b=none→∃ sl,h'.get? b=some {o with slots:=sl}) (free:∀ b o,b∉ch→s.heap.get? b=some o→H b=none→H' b=none)
    (there:∀ b o,b∉ch→s.heap.get? b=some o→∃ o',h'.get? b=some o')
    (tups:∀ b xs,H b=some (.tup xs)→H' b=some (.tup xs)) (jS:∀ b o u,H b=some (.cy o u)→H' b=some (.cy o u)) (kO:∀ b ps,H b=some (.lP ps)→∃ more,H' b=some (.lP (ps++more)))
    (ns:∀ m,s.heap.Ns X.env.locals m→h'.Ns X.env.locals m) (hok:ji X.prog X.w H' h') (hg:AllBare g') (ht:0<t':=by first | exact Zp _ | exact (Inv.os (by assumption)).2 | assumption | nofun) :
    Inv X pins σ H' {s with heap:=h',gens:=g',drawn:=d',toks:=t'}:=by
  have CL:∀ b o,X.s₀.heap.get? b=some o→b≠X.env.locals:=λb o e=>YU (YG (YI e) I.ok.above)
  have JQ:∀ b o,X.s₀.heap.get? b=some o→b∉X.ex→b∉ch:=λb o e hx hb=>by
    rcases (hch b hb).1 with z | z
    · exact hx z
    · exact absurd (YG (YI e) z) (Zx _)
  have cellK:∀ x c,X.env.cells.lookup x=some c→∀ v,s.heap.IsCell c v→h'.IsCell c v:=λx c e v zz=>by
    obtain ⟨o,ho,hd⟩:=zz
    have N9:c∉ch:=λz=>(hch c z).2.2.1 x c e rfl
    rcases I.jM x c e with hfr | ⟨_,fo,fu,hfr⟩
    · by_cases hc:c∈X.fs
      · obtain ⟨sl,q⟩:=slot c o (I.CK x c e) hc N9 ho hfr
        exact ⟨_,q,hd⟩
      · exact ⟨o,keep c o (I.CK x c e) hc N9 ho hfr,hd⟩
    · have q1:=(I.hok c _ hfr).1
      have q2:=(hok c _ (jS c fo fu hfr)).1
      rw [ho] at q1
      cases q1
      exact ⟨o,q2,hd⟩
  refine ⟨I.ok,⟨I.os.1,ht⟩,hg,⟨λb o e n hb hx=>?_,λb o e n hb hx=>?_,λb o e n hx=>?_,λb o e hx=>?_,λb xs e=>tups b xs (I.base.tups b xs e),λb o xs e=>jS b o xs (I.base.jS b o xs e),λb ps e=>?_⟩,?_,λx c e=>?_,?_,λx c e=>?_,λp hp=>?_,hok,I.len⟩
  · exact keep b o (CL b o e) hb (JQ b o e hx) (I.base.keep b o e n hb hx) (I.base.free b o e n hx)
  · obtain ⟨sl,e1⟩:=I.base.slot b o e n hb hx
    obtain ⟨Oa,e2⟩:=slot b _ (CL b o e) hb (JQ b o e hx) e1 (I.base.free b o e n hx)
    exact ⟨Oa,e2⟩
  · obtain ⟨o',e1⟩:=I.base.there b o e hx
    exact free b o' (JQ b o e hx) e1 (I.base.free b o e n hx)
  · obtain ⟨o',e1⟩:=I.base.there b o e hx
    exact there b o' (JQ b o e hx) e1
  · obtain ⟨m1,e1⟩:=I.base.kO b ps e
    obtain ⟨m2,e2⟩:=kO b _ e1
    exact ⟨m1++m2,by rw [e2,Array.append_assoc]⟩
  · obtain ⟨m,hn,hl⟩:=I.loc
    refine ⟨m,ns m hn,λi x v e1 e2 e3=>?_⟩
    obtain ⟨u,r,l⟩:=hl i x v e1 e2 e3
    refine ⟨u,r,?_⟩
    rcases l with l | ⟨k,c,e,z⟩
    · exact .inl l
    · exact .inr ⟨k,c,e,cellK x c e _ z⟩
  · obtain ⟨v,z⟩:=I.cell x c e
    exact ⟨v,cellK x c e v z⟩
  · obtain ⟨m,⟨o,_,_,ho,_⟩,_⟩:=I.loc
    exact free _ o (λz=>(hch _ z).2.1 rfl) ho I.free
  · obtain ⟨v,o,ho,hd⟩:=I.cell x c e
    rcases I.jM x c e with hfr | ⟨hx,fo,fu,hfr⟩
    · exact .inl (free c o (λz=>(hch c z).2.2.1 x c e rfl) ho hfr)
    · exact .inr ⟨hx,fo,fu,jS c fo fu hfr⟩
  · obtain ⟨e,n,ne,nf,d⟩:=I.pin p hp
    have N9:p.1∉ch:=λz=>(hch p.1 z).2.2.2 p hp rfl
    exact ⟨keep p.1 p.2 ne nf N9 e n,free p.1 p.2 N9 e n,ne,nf,d⟩
theorem Inv.un (I:Inv X pins σ H s) (u:Un X.fs [] H H' s.heap h') (hok:ji X.prog X.w H' h') (ht:0<t':=by first | exact Zp _ | exact (Inv.os (by assumption)).2 | assumption | nofun):Inv X pins σ H' {s with heap:=h',toks:=t'}:=by
  obtain ⟨m,⟨o,es,ep,ho,r⟩,_⟩:=id I.loc
  obtain ⟨sl,hL⟩:=u.any ho I.free (by simp)
  exact I.step (g':=s.gens) (d':=s.drawn) (ch:=[]) (λ_ z=>nomatch z) (λb o _ hb _ e n=>u.keep b o e n hb (by simp)) (λb o _ hb _ e n=>u.slot b o e n hb (by simp)) (λb o _ e n=>u.free b o e n (by simp)) (λb o _ e=>u.there b o e (by simp)) u.tups u.jS u.kO (λm' hm=>by
    obtain ⟨o',es',oq,ho',r'⟩:=hm
    rw [ho] at ho';cases ho'
    exact ⟨_,es',oq,hL,r'⟩) hok I.bare
theorem Inv.call {d':Drawn} (I:Inv X pins σ H s) (u:Un (frs X.stack) ch H H' s.heap h') (hok:ji X.prog X.w H' h') (hg:AllBare g')
    (hch:∀ b∈ch,(b∈X.ex∨X.s₀.heap.objs.size≤b)∧b≠X.env.locals∧(∀ x c,X.env.cells.lookup x=some c→c≠b)∧∀ p∈X.pn++pins,p.1≠b) (ht:0<t':=by first | exact Zp _ | exact (Inv.os (by assumption)).2 | assumption | nofun) :
    Inv X pins σ H' {s with heap:=h',gens:=g',drawn:=d',toks:=t'}:=by
  obtain ⟨m,⟨o,es,ep,ho,r⟩,_⟩:=id I.loc
  obtain ⟨sl,hL⟩:=u.any ho I.free λz=>(hch _ z).2.1 rfl
  exact I.step (ch:=ch) hch (λb o hL hb hc e n=>u.keep b o e n (λz=>(Y6.mp (I.k9 b z)).elim hL hb) hc) (λb o _ _ hc e n=>u.any e n hc) (λb o hc e n=>u.free b o e n hc) (λb o hc e=>u.there b o e hc) u.tups u.jS u.kO (λm' hm=>by
    obtain ⟨o',es',oq,ho',r'⟩:=hm
    rw [ho] at ho';cases ho'
    exact ⟨_,es',oq,hL,r'⟩) hok hg
theorem Inv.turned (I:Inv X pins σ H s) (k:∀ b o,b≠it→s.heap.get? b=some o→h'.get? b=some o) (hn:H it=none) (hL:it≠X.env.locals)
    (h1:it∈X.ex∨X.s₀.heap.objs.size≤it) (h2:∀ x c,X.env.cells.lookup x=some c→c≠it) (h3:∀ p∈X.pn++pins,p.1≠it) (ht:0<t':=by first | exact Zp _ | exact (Inv.os (by assumption)).2 | assumption | nofun):Inv X pins σ H {s with heap:=h',toks:=t'}:=by
  have Ob:∀ b u,H b=some u→b≠it:=λb u e z=>by rw [z,hn] at e;cases e
  refine I.step (g':=s.gens) (d':=s.drawn) (ch:=[it]) (λb hb=>?_) (λb o _ _ hc e _=>k b o (λz=>hc (by simp [z])) e) (λb o _ _ hc e _=>⟨o.slots,k b o (λz=>hc (by simp [z])) e⟩) (λ_ _ _ _ n=>n)
    (λb o hc e=>⟨o,k b o (λz=>hc (by simp [z])) e⟩) (λ_ _ e=>e) (λ_ _ _ e=>e) (λb ps e=>⟨#[],by rw [e];simp⟩) (λm hm=>?_) (λb u e=>?_) I.bare
  · have e:b=it:=by simpa using hb
    subst e
    exact ⟨h1,hL,h2,h3⟩
  · obtain ⟨o,es,ep,ho,r⟩:=hm
    exact ⟨o,es,ep,k _ o (Z2 hL) ho,r⟩
  · refine (I.hok b u e).stay (λc v hc q=>k c v ?_ q) (λ_ q=>q) λ_ _ q=>q
    rcases hc with z | z
    · rw [z];exact Ob b u e
    · exact Ob c _ z
theorem Inv.tok (I:Inv X pins σ H s) (t':Nat) (ht:0<t':=by first | exact Zp _ | exact (Inv.os (by assumption)).2 | assumption | nofun):Inv X pins σ H {s with toks:=t'}:=I.un (h':=s.heap) (t':=t') Un.refl I.hok
theorem ig {α:Type} {M:Model} {t:Sem α} {Q:α→YB→Prop} (h:0<s.toks) (h':Y0 M A t (λa s'=>0<s'.toks→Q a s') (λe s'=>0<s'.toks→E e s') s):Y0 M A t Q E s:=wpAny_with_toks (n:=1) h h'
theorem Inv.kept (I:Inv X pins σ H s) (k:∀ b u,s.heap.get? b=some u→h'.get? b=some u) (ht:0<t':=by first | exact Zp _ | exact (Inv.os (by assumption)).2 | assumption | nofun):Inv X pins σ H {s with heap:=h',toks:=t'}:=I.un (Un.kept k) (I.hok.kept k)
theorem Inv.laid (I:Inv X pins σ H s) (k:∀ b u,s.heap.get? b=some u→h'.get? b=some u) (hp:s.heap.objs.size≤a) (new:dm X.prog X.w (upd H a o) h' a o) (ht:0<t':=by first | exact Zp _ | exact (Inv.os (by assumption)).2 | assumption | nofun) :
    Inv X pins σ (upd H a o) {s with heap:=h',toks:=t'}:=I.un (Un.laid k hp (I.hok.fresh hp)) (I.hok.laid k hp new)
theorem Inv.write {x e:Addr} (I:Inv X pins σ H s) (mu:N6 (H x)) (he:e=x∨H e=some (.own x)) (k:∀ b u,b≠e→s.heap.get? b=some u→h'.get? b=some u) (NO:∃ u,h'.get? e=some u)
    (new:dm X.prog X.w (upd H x o) h' x o) (ht:0<t':=by first | exact Zp _ | exact (Inv.os (by assumption)).2 | assumption | nofun):Inv X pins σ (upd H x o) {s with heap:=h',toks:=t'}:=I.un (Un.write mu he k NO) (I.hok.write mu he k NO new)
theorem Inv.ue (I:Inv X pins σ H s) (h:∀ p∈gw,s.heap.get? p.1=some p.2∧H p.1=none∧p.1≠X.env.locals∧p.1∉X.fs∧∀ v,p.2.data≠.cell v):Inv X gw σ H s:=
  ⟨I.ok,I.os,I.bare,I.base,I.loc,I.cell,I.free,I.jM,λp hp=>(Zk.mp hp).elim (λz=>I.pin p (Z4 _ z)) (h p),I.hok,I.len⟩
theorem vY (hN:N.Nodup) {i j:Nat} {x:Str} (a:N[i]?=some x) (b:N[j]?=some x):i=j:=by
  obtain ⟨h1,e1⟩:=Yw.mp a
  obtain ⟨h2,e2⟩:=Yw.mp b
  exact (ZE hN).mp (e1.trans e2.symm)
theorem sj {M:Model} {A:Around} {E:V3→YB→Prop} {Q:Unit→YB→Prop} (I:Inv X pins σ H s) (hN:X.N.Nodup) (hi:X.N[i]?=some x) (hx:Loc X.env.scope x) (r:RelV v u)
    (h:∀ s',Inv X pins (σ.set i (some v)) H s'→(∃ a,aaL a s.heap s'.heap∧(a=X.env.locals∨X.env.cells.lookup x=some a))→Q () s') (hf:X.fn x=true∨X.env.scope.names.lookup x=some .local:=by first | exact .inl rfl | exact .inr rfl | assumption):Y0 M A (storeName X.env x u) Q E s:=by
  obtain ⟨m,hn,hl⟩:=id I.loc
  have hcls:(X.env.scope.kind==.class||(X.env.scope.kind==.module&&X.env.locals != X.env.globals))=false:=by rw [I.ok.kind];rfl
  have TR:i<σ.length:=by rw [I.len];exact (Yw.mp hi).1
  have CK:=I.CK
  have tracked:∀ {a:Addr} {h':Heap},(∃ o,s.heap.get? a=some o∧H a=none)→aaL a s.heap h'→ji X.prog X.w H h':=λ{a h'} ha hs b ob e=>by
    obtain ⟨_,_,hfree⟩:=ha
    refine (I.hok b ob e).stay (λc w' hc q=>(hs.2 c ?_).trans q) (λ_ q=>q) λ_ _ q=>q
    rintro rfl
    rcases hc with rfl | hc
    · rw [hfree] at e;cases e
    · rw [hfree] at hc;cases hc
  rcases hx with hk | hk
  · refine abo hk hn (λh' hn' hs=>?_) hcls
    obtain ⟨oL,_,_,TU,_⟩:=id hn
    refine h _ ⟨I.ok,⟨I.os.1,Zp _⟩,I.bare,⟨λb o e n hb hx=>?_,λb o e n hb hx=>?_,I.base.free,λb o e hx=>?_,I.base.tups,I.base.jS,I.base.kO⟩,⟨_,hn',λj y v' e1 e2 e3=>?_⟩,λy c e=>?_,I.free,I.jM,λp hp=>?_,tracked ⟨oL,TU,I.free⟩ hs,by simpa using I.len⟩ ⟨_,hs,.inl rfl⟩
    · exact (hs.2 b (YU (YG (YI e) I.ok.above))).trans (I.base.keep b o e n hb hx)
    · obtain ⟨sl,e1⟩:=I.base.slot b o e n hb hx
      exact ⟨sl,(hs.2 b (YU (YG (YI e) I.ok.above))).trans e1⟩
    · obtain ⟨o',e1⟩:=I.base.there b o e hx
      exact ⟨o',(hs.2 b (YU (YG (YI e) I.ok.above))).trans e1⟩
    · by_cases hj:j=i
      · subst hj
        rw [hi] at e1;cases e1
        rw [acu TR] at e2
        cases e2
        exact ⟨u,r,.inl ⟨hk,by simp⟩⟩
      · rw [Zh (Z2 hj)] at e2
        obtain ⟨u',r',q⟩:=hl j y v' e1 e2 e3
        refine ⟨u',r',?_⟩
        rcases q with ⟨k,e⟩ | ⟨k,c,e,z⟩
        · refine .inl ⟨k,?_⟩
          have:y≠x:=λe=>hj (vY hN e1 (e▸hi))
          simp [this,e]
        · exact .inr ⟨k,c,e,z.sameBut hs (CK y c e)⟩
    · obtain ⟨w',z⟩:=I.cell y c e
      exact ⟨w',z.sameBut hs (CK y c e)⟩
    · obtain ⟨e,n,ne,nf,d⟩:=I.pin p hp
      exact ⟨(hs.2 p.1 ne).trans e,n,ne,nf,d⟩
  · have hfn:X.fn x=true:=by
      rcases hf with z | z
      · exact z
      · rw [z] at hk;cases hk
    obtain ⟨c,hc⟩:=I.ok.has x (.inl hk)
    obtain ⟨w',z⟩:=I.cell x c hc
    refine wpAny_storeName_cell I.ok.kind hk hc z (λh' hc' hs=>?_)
    obtain ⟨oc,hoc,Rt⟩:=id z
    refine h {s with heap:=h'} ⟨I.ok,I.os,I.bare,⟨λb o e n hb hx=>?_,λb o e n hb hx=>?_,I.base.free,λb o e hx=>?_,I.base.tups,I.base.jS,I.base.kO⟩,⟨m,hn.sameBut hs (Z2 (CK x c hc)),λj y v' e1 e2 e3=>?_⟩,λy c' e=>?_,I.free,I.jM,λp hp=>?_,tracked ⟨oc,hoc,(I.jM x c hc).resolve_right λz=>by rw [hfn] at z;cases z.1⟩ hs,by simpa using I.len⟩ ⟨c,hs,.inr hc⟩
    · exact (hs.2 b (YU (YG (YI e) (I.ok.N8 x c hfn hc)))).trans (I.base.keep b o e n hb hx)
    · obtain ⟨sl,e1⟩:=I.base.slot b o e n hb hx
      exact ⟨sl,(hs.2 b (YU (YG (YI e) (I.ok.N8 x c hfn hc)))).trans e1⟩
    · obtain ⟨o',e1⟩:=I.base.there b o e hx
      exact ⟨o',(hs.2 b (YU (YG (YI e) (I.ok.N8 x c hfn hc)))).trans e1⟩
    · by_cases hj:j=i
      · subst hj
        rw [hi] at e1;cases e1
        rw [acu TR] at e2
        cases e2
        exact ⟨u,r,.inr ⟨.inl hk,c,hc,hc'⟩⟩
      · rw [Zh (Z2 hj)] at e2
        obtain ⟨u',r',q⟩:=hl j y v' e1 e2 e3
        refine ⟨u',r',?_⟩
        rcases q with q | ⟨k,c',e,z'⟩
        · exact .inl q
        · refine .inr ⟨k,c',e,z'.sameBut hs ?_⟩
          rintro rfl
          exact hj (vY hN e1 (I.ok.inj _ _ _ e hc▸hi))
    · by_cases hcc:c'=c
      · subst hcc;exact ⟨_,hc'⟩
      · obtain ⟨w2,z2⟩:=I.cell y c' e
        exact ⟨w2,z2.sameBut hs hcc⟩
    · obtain ⟨e,n,ne,nf,d⟩:=I.pin p hp
      refine ⟨(hs.2 p.1 ?_).trans e,n,ne,nf,d⟩
      intro q
      rw [q,hoc] at e
      have q':oc=p.2:=Zd e
      exact d w' (by rw [← q'];exact Rt)
theorem vZ {M:Model} {A:Around} {E:V3→YB→Prop} {Q:Unit→YB→Prop} (I:Inv X pins σ H s) (hN:X.N.Nodup) (hi:X.N[i]?=some x) (hx:Loc X.env.scope x) (r:RelV v u)
    (h:∀ s',Inv X pins (σ.set i (some v)) H s'→Q () s') (hf:X.fn x=true∨X.env.scope.names.lookup x=some .local:=by first | exact .inl rfl | exact .inr rfl | assumption):Y0 M A (storeName X.env x u) Q E s:=
  sj I hN hi hx r (λs' I' _=>h s' I') hf
theorem Inv.CM (I:Inv X pins σ H s) (ho:s'.os=s.os∧0<s'.toks) (u:Un (frs X.stack) ch H H' s.heap s'.heap) (hok:ji X.prog X.w H' s'.heap) (hg:AllBare s'.gens)
    (hch:∀ b∈ch,(b∈X.ex∨X.s₀.heap.objs.size≤b)∧b≠X.env.locals∧(∀ x c,X.env.cells.lookup x=some c→c≠b)∧∀ p∈X.pn++pins,p.1≠b):Inv X pins σ H' s':=by
  obtain ⟨h',g',d',t',o'⟩:=s'
  have e:o'=s.os:=ho.1
  have ht:0<t':=ho.2
  subst e
  exact I.call (g':=g') (t':=t') (d':=d') u hok hg hch
end
noncomputable abbrev XK:=V3→Option Addr→Hp→Prop
noncomputable abbrev St:=List (Option V)
variable {σ:St}
noncomputable abbrev VK:=V→Hp→Prop
noncomputable abbrev TE:=St→Hp→VK→Prop
noncomputable abbrev TT:=St→Hp→(Bool→Hp→Prop)→Prop
variable {tc:TT}
noncomputable abbrev TA:=St→Hp→(List V→Hp→Prop)→Prop
variable {ta:TA}
structure Ends where
  nx:St→Hp→Prop
  rt:VK
  bk:St→Hp→Prop:=λ_ _=>False
  ct:St→Hp→Prop:=λ_ _=>False
noncomputable abbrev TS:=Ends→St→Hp→Prop
variable {tb:TS}
noncomputable def EP (X:Cx) (pins:List (Addr×Obj)) (σ:St) (Q:VK) (u:V3) (s':YB):Prop:=∃ v H',Inv X pins σ H' s'∧RelV v u∧Q v H'
noncomputable def TP (X:Cx) (pins:List (Addr×Obj)) (σ:St) (Q:Bool→Hp→Prop) (b:Bool) (s':YB):Prop:=∃ H',Inv X pins σ H' s'∧Q b H'
noncomputable def AP (X:Cx) (pins:List (Addr×Obj)) (σ:St) (Q:List V→Hp→Prop) (us:List V3) (s':YB):Prop:=∃ vs H',Inv X pins σ H' s'∧Vals vs us∧Q vs H'
noncomputable def SP (X:Cx) (pins:List (Addr×Obj)) (D:Ends) (f:Flow) (s':YB):Prop:=
  match f with
  | .next=>∃ σ' H',Inv X pins σ' H' s'∧D.nx σ' H'
  | .brk=>∃ σ' H',Inv X pins σ' H' s'∧D.bk σ' H'
  | .cont=>∃ σ' H',Inv X pins σ' H' s'∧D.ct σ' H'
  | .ret u=>∃ v σ' H',Inv X pins σ' H' s'∧RelV v u∧D.rt v H'
noncomputable def PE (X:Cx) (e:Expr) (t:TE):Prop:=
  ∀ (pins:List (Addr×Obj)) (s:YB) (σ:St) (H:Hp) (Q:VK),Inv X pins σ H s→t σ H Q→Y0 (model X.prog X.w) X.A (eval e X.env) (EP X pins σ Q) X.xe s
noncomputable def PT (X:Cx) (e:Expr) (t:TT):Prop:=
  ∀ (pins:List (Addr×Obj)) (s:YB) (σ:St) (H:Hp) (Q:Bool→Hp→Prop),Inv X pins σ H s→t σ H Q→Y0 (model X.prog X.w) X.A (isTrue e X.env (eval e X.env)) (TP X pins σ Q) X.xe s
noncomputable def PW (X:Cx) (e:Expr) (t:TT):Prop:=
  ∀ (whole:Sem V3) (pins:List (Addr×Obj)) (s:YB) (σ:St) (H:Hp) (Q:Bool→Hp→Prop),Inv X pins σ H s→t σ H Q→Y0 (model X.prog X.w) X.A (isTrue e X.env whole) (TP X pins σ Q) X.xe s
theorem PW.pt {t:TT} (h:PW X e t):PT X e t:=h _
noncomputable def PA (X:Cx) (es:List Expr) (t:TA):Prop:=
  ∀ (pos:Pos) (pins:List (Addr×Obj)) (s:YB) (σ:St) (H:Hp) (Q:List V→Hp→Prop),Inv X pins σ H s→t σ H Q→Y0 (model X.prog X.w) X.A (spliced (backTo pos (YZ es X.env))) (AP X pins σ Q) X.xe s
noncomputable def PS (X:Cx) (st:Stmt) (t:TS):Prop:=
  ∀ (pins:List (Addr×Obj)) (s:YB) (σ:St) (H:Hp) (D:Ends),Inv X pins σ H s→t D σ H→Y0 (model X.prog X.w) X.A (exec st X.env) (SP X pins D) X.xe s
noncomputable def yt (X:Cx) (st:List Stmt) (t:TS):Prop:=
  ∀ (pins:List (Addr×Obj)) (s:YB) (σ:St) (H:Hp) (D:Ends),Inv X pins σ H s→t D σ H→Y0 (model X.prog X.w) X.A (execs st X.env) (SP X pins D) X.xe s
theorem dh {α:Type} {t:Sem α} {Q Q':α→YB→Prop} {M:Model} (h:Y0 M A t Q E s) (hQ:∀ a s,Q a s→Q' a s):Y0 M A t Q' E s:=Zn h hQ λ_ _ x=>x
section
variable {X:Cx}
noncomputable def Ru (i:Nat):TE:=λσ H Q=>∃ v,σ[i]?=some (some v)∧Q v H
noncomputable def tC (v:V):TE:=λ_ H Q=>Q v H
theorem yu {pos:Pos} (hN:X.N[i]?=some x) (hv:CJ X.env.scope x) (hd:(x==("__debug__":Str))=false:=by decide) (hcd:(x==("__classdict__":Str))=false:=by decide):PE X (.Name x pos) (Ru i):=by
  intro pins s σ H Q I h
  obtain ⟨v,e,h⟩:=h
  obtain ⟨m,hn,hl⟩:=I.loc
  obtain ⟨u,r,l⟩:=hl i x v hN e hv
  have fin:EP X pins σ Q u s:=⟨v,H,I,r,h⟩
  rcases l with ⟨hk,hm⟩ | ⟨hk,c,hc,hcell⟩
  · exact adY (wpAny_loadName_local I.ok.kind hk hn hm fin) hd
  · rcases hk with hk | hk
    · exact adY (wpAny_loadName_cell I.ok.kind hk hc hcell fin) hd
    · exact adY (wpAny_loadName_free I.ok.kind hk hc hcell fin hcd) hd
theorem KL {i j pos}:PE X (.Constant (.int i) j pos) (tC (.int i)):=λ_ _ _ H _ I h=>wpAny_Constant_int ⟨.int i,H,I.tok _,⟨_,rfl⟩,h⟩
theorem Oc {b j pos}:PE X (.Constant (.bool b) j pos) (tC (.bl b)):=λ_ _ _ H _ I h=>Constant_bool ⟨.bl b,H,I,rfl,h⟩
theorem KN {x j pos}:PE X (.Constant (.str x) j pos) (tC (.str x)):=λ_ _ _ H _ I h=>Calls.Constant_str ⟨.str x,H,I.tok _,⟨_,rfl⟩,h⟩
noncomputable def Gl (X:Cx) (x:Str):Prop:=X.env.kindOf x=some .globalImplicit
theorem zT {E:V3→YB→Prop} {pos:Pos} {Q:V3→YB→Prop} (I:Inv X pins σ H s) (hg:Gl X x) (hm:X.mg x=some u) (h:Q u s)
    (hd:(x==("__debug__":Str))=false:=by decide):Y0 (model X.prog X.w) X.A (eval (.Name x pos) X.env) Q E s:=
  abU I.ok.kind hg (Calls.loadGlobal_global (by rw [I.ok.glob];exact I.mod.glob.keeps I.bk) hm h) hd
theorem fO {E:V3→YB→Prop} {pos:Pos} {Q:V3→YB→Prop} (I:Inv X pins σ H s) (hg:Gl X x) (hm:X.mg x=none) (hv:bootBuiltins x=some u) (h:Q u s)
    (hn:x≠"__name__":=by decide) (hd:(x==("__debug__":Str))=false:=by decide):Y0 (model X.prog X.w) X.A (eval (.Name x pos) X.env) Q E s:=by
  obtain ⟨mb,h1,h2⟩:=I.mod.blt
  exact abU I.ok.kind hg (Calls.loadGlobal_builtin (by rw [I.ok.glob];exact I.mod.glob.keeps I.bk) hm (by rw [I.ok.blt];exact h1.keeps I.bk) ((h2 x hn).trans hv) h) hd
theorem zU {pos:Pos} (hg:Gl X x) (hm:X.mg x=some u) (r:RelV v u) (hd:(x==("__debug__":Str))=false:=by decide):PE X (.Name x pos) (tC v):=
  λ_ _ _ H _ I h=>zT I hg hm ⟨v,H,I,r,h⟩ hd
theorem Gp {pos:Pos} (hg:Gl X x) (hm:X.mg x=none) (hv:bootBuiltins x=some u) (r:RelV v u) (hn:x≠"__name__":=by decide) (hd:(x==("__debug__":Str))=false:=by decide):PE X (.Name x pos) (tC v):=
  λ_ _ _ H _ I h=>fO I hg hm hv ⟨v,H,I,r,h⟩ hn hd
variable {a b:Expr} {ta tb:TE} {pos:Pos}
variable {tA QK:TT} {rest:List Expr}
noncomputable def Od (t u:TT):TT:=λσ H Q=>t σ H λc H1=>if c=true then u σ H1 Q else Q false H1
noncomputable def TV (t u:TT):TT:=λσ H Q=>t σ H λc H1=>if c=true then Q true H1 else u σ H1 Q
noncomputable def Rv (t:TT):TT:=λσ H Q=>t σ H λc H1=>Q (!c) H1
theorem Gq (ha:PT X a tA):PW X (.BoolOp .And [a] pos) tA:=by
  intro wh pins s σ H Q I h
  refine isTrue_and (dh (ha pins s σ H Q I h) λc s1 e=>?_)
  cases c with
  | true=>exact isTrue_and_nil e
  | false=>exact e
theorem KO (ha:PT X a tA):PW X (.BoolOp .Or [a] pos) tA:=by
  intro wh pins s σ H Q I h
  refine isTrue_or (dh (ha pins s σ H Q I h) λc s1 e=>?_)
  cases c with
  | false=>exact isTrue_or_nil e
  | true=>exact e
theorem KP (ha:PT X a tA) (hb:PW X (.BoolOp .And (b::rest) pos) QK):PW X (.BoolOp .And (a::b::rest) pos) (Od tA QK):=by
  intro wh pins s σ H Q I h
  refine isTrue_and (dh (ha pins s σ H _ I h) λc s1 zz=>?_)
  obtain ⟨H1,I1,q1⟩:=zz
  cases c with
  | true=>exact hb wh pins s1 σ H1 Q I1 q1
  | false=>exact ⟨H1,I1,q1⟩
theorem Oe (ha:PT X a tA) (hb:PW X (.BoolOp .Or (b::rest) pos) QK):PW X (.BoolOp .Or (a::b::rest) pos) (TV tA QK):=by
  intro wh pins s σ H Q I h
  refine isTrue_or (dh (ha pins s σ H _ I h) λc s1 zz=>?_)
  obtain ⟨H1,I1,q1⟩:=zz
  cases c with
  | true=>exact ⟨H1,I1,q1⟩
  | false=>exact hb wh pins s1 σ H1 Q I1 q1
theorem KQ (ha:PT X a tA):PT X (.UnaryOp .Not a pos) (Rv tA):=by
  intro pins s σ H Q I h
  exact isTrue_not (ha pins s σ H (λc H1=>Q (!c) H1) I h)
noncomputable def Of (ta tb:TE):TE:=λσ H Q=>ta σ H λx H1=>∃ c,x=.bl c∧if c=true then tb σ H1 Q else Q (.bl false) H1
theorem KR {op} {t:TE} (h:PE X a t):PE X (.BoolOp op [a] pos) t:=λpins s σ H Q I hw=>BoolOp_one (h pins s σ H Q I hw)
theorem KS (ha:PE X a ta) (hb:PE X (.BoolOp .And (b::rest) pos) tb):PE X (.BoolOp .And (a::b::rest) pos) (Of ta tb):=by
  intro pins s σ H Q I h
  refine BoolOp_and (dh (ha pins s σ H _ I h) λv s1 zz=>?_)
  obtain ⟨x,H1,I1,r1,q1⟩:=zz
  obtain ⟨c,rfl,q1⟩:=q1
  cases r1
  refine ab5 ?_
  cases c with
  | true=>exact hb pins s1 σ H1 Q I1 q1
  | false=>exact ⟨.bl false,H1,I1,rfl,q1⟩
end
noncomputable def lN (K:Yz) (H:Hp) (a:Addr) (xs:List V):Prop:=
  Rd H a (.lst xs) ∨
    ∃ (o:Obj) (its:Array V3) (n:Nat),K.lookup a=some o∧o.cls=.type "list"∧o.dict=none∧o.data=.seq its n∧its.size≤Yx∧Vals xs its.toList
noncomputable def mQ (K:Yz) (H:Hp) (a:Addr) (xs:List V):Prop:=
  Rd H a (.tup xs) ∨
    ∃ (o:Obj) (its:Array V3) (n:Nat),K.lookup a=some o∧o.cls=.type "tuple"∧o.data=.seq its n∧its.size≤Yx∧Vals xs its.toList
noncomputable def Rw:V3→Option V
  | .none=>some .dP
  | .bool b=>some (.bl b)
  | .int i _=>some (.int i)
  | .str x _=>some (.str x)
  | .bytes b _=>some (.N4 b)
  | .float b _=>some (.N5 b)
  | .ref a=>some (.ref a)
  | .type n=>some (.ty n)
  | _=>none
theorem RelV.abs {x:V} (r:RelV x u):Rw u=some x:=by
  cases x with
  | dP=>cases r;rfl
  | bl _=>cases r;rfl
  | int _=>obtain ⟨t,rfl⟩:=r;rfl
  | str _=>obtain ⟨t,rfl⟩:=r;rfl
  | N4 _=>obtain ⟨t,rfl⟩:=r;rfl
  | N5 _=>obtain ⟨t,rfl⟩:=r;rfl
  | ref _=>cases r;rfl
  | ty _=>cases r;rfl
theorem RelV.inj {x:V} (r:RelV x u) (q:RelV y u):x=y:=Zd (r.abs.symm.trans q.abs)
theorem Vals.inj:∀ {xs ys:List V} {us:List V3},Vals xs us→Vals ys us→xs=ys
  | _,_,_,.nil,.nil=>rfl
  | _,_,_,.cons r t,.cons r' t'=>by rw [r.inj r',Vals.inj t t']
section
variable {X:Cx} {pins:List (Addr×Obj)} {σ:St} {H:Hp} {s:YB} {a:Addr} {xs ys:List V}
theorem lN.of (h:H a=some (.lst xs)):lN K H a xs:=.inl (.inl h)
theorem Inv.list (I:Inv X pins σ H s) (h:lN X.K H a xs):∃ its:List V3,Vals xs its∧PlainL s.heap a its.toArray∧xs.length≤Yx:=by
  rcases h with h | ⟨o,its,n,hk,hc,hd,hs,hz,r⟩
  · obtain ⟨z,its,n,r,e⟩:=h.ok I.hok
    exact ⟨its,r,⟨_,n,e,rfl,rfl,rfl⟩,z⟩
  · refine ⟨its.toList,r,⟨o,n,I.yr a o hk,hc,hd,by simpa using hs⟩,?_⟩
    have e:=r.length
    simp only [abO] at e
    nofun
theorem Inv.tuple (I:Inv X pins σ H s) (h:mQ X.K H a xs):∃ its:List V3,Vals xs its∧IsTup s.heap a its.toArray∧xs.length≤Yx:=by
  rcases h with h | ⟨o,its,n,hk,hc,hs,hz,r⟩
  · obtain ⟨z,its,r,p⟩:=h.ok I.hok
    exact ⟨its,r,p,z⟩
  · refine ⟨its.toList,r,⟨o,I.yr a o hk,hc,n,by simpa using hs⟩,?_⟩
    have e:=r.length
    simp only [abO] at e
    nofun
theorem Inv.pC (I:Inv X pins σ H s) (h:lN X.K H a xs) (h':lN X.K H a ys):xs=ys:=by
  obtain ⟨its,r,⟨o,n,e,_,_,d⟩,_⟩:=I.list h
  obtain ⟨its',r',⟨o',n',e',_,_,d'⟩,_⟩:=I.list h'
  rw [e] at e';cases e'
  rw [d] at d'
  injection d' with d1 _
  have:its=its':=by simpa using congrArg Array.toList d1
  subst this
  exact r.inj r'
theorem Inv.sr (I:Inv X pins σ H s) (h:mQ X.K H a xs) (h':mQ X.K H a ys):xs=ys:=by
  obtain ⟨its,r,⟨o,e,_,n,d⟩,_⟩:=I.tuple h
  obtain ⟨its',r',⟨o',e',_,n',d'⟩,_⟩:=I.tuple h'
  rw [e] at e';cases e'
  rw [d] at d'
  injection d' with d1 _
  have:its=its':=by simpa using congrArg Array.toList d1
  subst this
  exact r.inj r'
end
section
variable {X:Cx} {st:Stmt} {rest:List Stmt} {t u:TS} {e:Expr} {te:TE} {pos:Pos}
noncomputable def Og:TS:=λD σ H=>D.nx σ H
noncomputable def Oh (t u:TS):TS:=λD σ H=>t {D with nx:=u D} σ H
theorem Gr:yt X [] Og:=λ_ _ σ H _ I h=>abJ ⟨σ,H,I,h⟩
theorem CN (h1:PS X st t) (h2:yt X rest u):yt X (st::rest) (Oh t u):=by
  intro pins s σ H D I h
  refine ack (dh (h1 pins s σ H {D with nx:=u D} I h) λf s1 q=>?_)
  cases f with
  | next=>
    obtain ⟨σ',H',I',q⟩:=q
    exact h2 pins s1 σ' H' D I' q
  | ret v=>exact q
  | brk=>exact q
  | cont=>exact q
theorem Gs (h1:PS X st t):yt X [st] t:=by
  intro pins s σ H D I h
  refine ack (dh (h1 pins s σ H D I h) λf s1 q=>?_)
  cases f with
  | next=>exact abJ q
  | ret v=>exact q
  | brk=>exact q
  | cont=>exact q
noncomputable def KU:TS:=λD σ H=>D.bk σ H
theorem CO:PS X (.Break pos) KU:=λ_ _ σ H _ I h=>wpAny_Break ⟨σ,H,I,h⟩
theorem Inv.quiet (I:Inv X pins σ H s):interactive X.env=false:=by simp [interactive,I.ok.kind]
noncomputable def Oi (te:TE):TS:=λD σ H=>te σ H λ_ H1=>D.nx σ H1
theorem Gu (he:PE X e te) (hs:swapsWith e none pos.line X.env=pure false:=by rfl):PS X (.Expr e pos) (Oi te):=by
  intro pins s σ H D I h
  exact wpAny_Expr_any (dh (he pins s σ H _ I h) λv s1 zz=>by obtain ⟨x,H1,I1,r1,q1⟩:=zz;exact ⟨σ,H1,I1,q1⟩) I.quiet hs
noncomputable def Rx (te:TE):TS:=λD σ H=>te σ H D.rt
theorem KW (he:PE X e te):PS X (.Return (some e) pos) (Rx te):=by
  intro pins s σ H D I h
  exact adh (dh (he pins s σ H _ I h) λv s1 zz=>by obtain ⟨x,H1,I1,r1,q1⟩:=zz;exact ⟨x,σ,H1,I1,r1,q1⟩)
noncomputable def Ry (c:TT) (t u:TS):TS:=λD σ H=>c σ H λb H1=>if b=true then t D σ H1 else u D σ H1
theorem Oj {a b:List Stmt} (hc:PT X c tc) (ha:yt X a t) (hb:yt X b u):PS X (.If c a b pos) (Ry tc t u):=by
  intro pins s σ H D I h
  refine wpAny_If (dh (hc pins s σ H _ I h) λd s1 zz=>?_)
  obtain ⟨H1,I1,q1⟩:=zz
  cases d with
  | true=>exact ha pins s1 σ H1 D I1 q1
  | false=>exact hb pins s1 σ H1 D I1 q1
end
noncomputable abbrev TG:=V→St→Hp→(St→Hp→Prop)→Prop
noncomputable abbrev KY:=List V→St→Hp→(St→Hp→Prop)→Prop
noncomputable def PG (X:Cx) (target:Expr) (t:TG):Prop:=
  ∀ (pins:List (Addr×Obj)) (s:YB) (σ:St) (H:Hp) (v:V) (u:V3) (Q:St→Hp→Prop),Inv X pins σ H s→RelV v u→t v σ H Q →
    Y0 (model X.prog X.w) X.A (assign target X.env u) (λ_ s'=>∃ σ' H',Inv X pins σ' H' s'∧Q σ' H') X.xe s
noncomputable def QL (X:Cx) (ts:List Expr) (t:KY):Prop:=
  ∀ (pins:List (Addr×Obj)) (s:YB) (σ:St) (H:Hp) (vs:List V) (us:List V3) (Q:St→Hp→Prop),Inv X pins σ H s→Vals vs us→t vs σ H Q →
    Y0 (model X.prog X.w) X.A (assignInOrder ((assignEach ts X.env).map (·.2)) us) (λ_ s'=>∃ σ' H',Inv X pins σ' H' s'∧Q σ' H') X.xe s
section
variable {X:Cx} {pos:Pos}
noncomputable def su (i:Nat):TG:=λv σ H Q=>Q (σ.set i (some v)) H
theorem uf (hN:X.N.Nodup) (hi:X.N[i]?=some x) (hx:Loc X.env.scope x) (hf:X.fn x=true∨X.env.scope.names.lookup x=some .local:=by first | exact .inl rfl | exact .inr rfl | assumption):PG X (.Name x pos) (su i):=by
  intro pins s σ H v u Q I r h
  exact ab6 (vZ I hN hi hx r (λs' I'=>⟨_,H,I',h⟩) hf)
noncomputable def Rz:KY:=λvs σ H Q=>vs=[]∧Q σ H
noncomputable def Ol (t:TG) (u:KY):KY:=λvs σ H Q=>∃ v r,vs=v::r∧t v σ H λσ' H'=>u r σ' H' Q
theorem Gv:QL X [] Rz:=by
  intro pins s σ H vs us Q I r h
  obtain ⟨e,h⟩:=h
  subst e
  cases r
  exact assignInOrder_nil ⟨σ,H,I,h⟩
theorem v5 {t:TG} {u:KY} (h1:PG X e t) (h2:QL X es u)
    (hs:(assignEach (e::es) X.env).map (·.2)=assign e X.env::(assignEach es X.env).map (·.2):=by rfl):QL X (e::es) (Ol t u):=by
  intro pins s σ H vs us Q I r h
  obtain ⟨v,vr,e1,h⟩:=h
  subst e1
  cases r with
  | cons r rr=>
    rw [hs]
    refine assignInOrder_cons (dh (h1 pins s σ H _ _ _ I r h) λ_ s1 zz=>?_)
    obtain ⟨σ1,H1,I1,q1⟩:=zz
    exact h2 pins s1 σ1 H1 _ _ Q I1 rr q1
noncomputable def RA (K:Yz) (n:Nat) (t:KY):TG:=λv σ H Q=>∃ a xs,v=.ref a∧mQ K H a xs∧xs.length=n∧t xs σ H Q
theorem KZ {k:Nat} {t:KY} (hc:X.calm=true) (h:QL X es t)
    (hn:(assignEach es X.env).length=n:=by rfl) (hst:(assignEach es X.env).findIdx? (·.1)=none:=by rfl):PG X (.Tuple es k pos) (RA X.K n t):=by
  intro pins s σ H v u Q I r hw
  obtain ⟨a,xs,e1,hq,hl,hw⟩:=hw
  subst e1
  cases r
  obtain ⟨its,rv,ht,hz⟩:=I.tuple hq
  refine assign_Tuple_tuple (I.ok.hd hc) ht (by simp [hn,← hl,rv.length]) hst λh' hx=>?_
  have I1:Inv X pins σ H {s with heap:=h'}:=I.kept (t':=s.toks) λb o e=>hx b o (YU (YI e)) e
  exact h pins _ σ H xs _ Q I1 (by simpa using rv) hw
noncomputable def K0 (te:TE) (g:TG):TS:=λD σ H=>te σ H λx H1=>g x σ H1 D.nx
theorem K1 {te:TE} (hN:X.N.Nodup) (hi:X.N[i]?=some x) (hx:Loc X.env.scope x) (he:PE X e te) (hs:swapsWith e (some (.Name x pos')) pos.line X.env=pure false:=by rfl) (hf:X.fn x=true∨X.env.scope.names.lookup x=some .local:=by first | exact .inl rfl | exact .inr rfl | assumption) :
    PS X (.Assign [.Name x pos'] e pos) (K0 te (su i)):=by
  intro pins s σ H D I h
  refine wpAny_Assign_Name (dh (he pins s σ H _ I h) λv s1 zz=>?_) hs
  obtain ⟨y,H1,I1,r1,q1⟩:=zz
  exact vZ I1 hN hi hx r1 (λs2 I2=>⟨_,H1,I2,q1⟩) hf
end
section
variable {X:Cx} {pos:Pos}
noncomputable def K2 (c:TT) (tb:TS):TS:=λD σ H=>∃ W:Nat→St→Hp→Prop,(∃ m,W m σ H)∧∀ m σ H,W m σ H →
  c σ H λb H1=>if b=true then ∃ N:St→Hp→Prop,(∀ σ' H',N σ' H'→∃ m',m'<m∧W m' σ' H')∧tb {D with nx:=N,ct:=N,bk:=D.nx} σ H1 else D.nx σ H1
theorem CP (hp:PassesOwn (model X.prog X.w) X.A X.env X.xe) (hc:PT X c tc) (hb:yt X body tb):PS X (.While c body [] pos) (K2 tc tb):=by
  intro pins s σ H D I h
  obtain ⟨W,⟨m0,w0⟩,turn⟩:=h
  refine wpAny_While (codeAny_whileLoop (λn s'=>∃ σ' H',Inv X pins σ' H' s'∧W n σ' H') ?_ m0 ⟨σ,H,I,w0⟩)
  rintro n s1 ⟨σ1,H1,I1,w1⟩
  refine aat hp (dh (hc pins s1 σ1 H1 _ I1 (turn n σ1 H1 w1)) λb s2 zz=>?_)
  obtain ⟨H2,I2,q2⟩:=zz
  cases b with
  | true=>
    obtain ⟨N,hN,q2⟩:=q2
    rw [if_pos rfl]
    refine aat hp (dh (hb pins s2 σ1 H2 _ I2 q2) λf s3 q3=>?_)
    cases f with
    | next=>
      obtain ⟨σ3,H3,I3,n3⟩:=q3
      obtain ⟨m',hm,w3⟩:=hN σ3 H3 n3
      exact ⟨m',hm,σ3,H3,I3,w3⟩
    | cont=>
      obtain ⟨σ3,H3,I3,n3⟩:=q3
      obtain ⟨m',hm,w3⟩:=hN σ3 H3 n3
      exact ⟨m',hm,σ3,H3,I3,w3⟩
    | brk=>exact q3
    | ret v=>exact q3
  | false=>
    rw [if_neg Zm]
    exact abJ ⟨σ1,H2,I2,q2⟩
end
structure It where
  go:Nat→Hp→Prop
  sy:Nat→Hp→V→Hp→Prop
  stop:Nat→Hp→Prop
variable {R:It→Hp→Prop}
noncomputable def lS (X:Cx) (pins:List (Addr×Obj)) (H:Hp) (b:Addr):Prop:=
  H b=none∧b≠X.env.locals∧b∉X.fs∧(b∈X.ex∨X.s₀.heap.objs.size≤b)∧(∀ x c,X.env.cells.lookup x=some c→c≠b)∧∀ p∈X.pn++pins,p.1≠b
theorem Inv.ou {H':Hp} (I:Inv X pins σ H s) (hb:s.heap.objs.size≤b) (hn:H' b=none):lS X pins H' b:=by
  refine ⟨hn,abQ (YG I.lt hb),I.Rr hb,.inr (Zw I.sz hb),λx c e z=>?_,λp hp z=>?_⟩
  · obtain ⟨v,q⟩:=I.cell x c e
    exact absurd (YG q.lt (by rw [z];exact hb)) (Zx _)
  · exact absurd (YG (YI (I.pin p hp).1) (by rw [z];exact hb)) (Zx _)
structure Turn (P:Zg) (w:Zs) (K:Yz) (tg:Expr) (J:It) (fp:List Addr) (it:Addr) (tn:Nat→Heap→Prop):Prop where
  mem:it∈fp
  obj:∀ i h,tn i h→∀ b∈fp,∃ o,h.get? b=some o∧∀ v,o.data≠.cell v
  keep:∀ i h h',tn i h→(∀ b∈fp,∀ o,h.get? b=some o→h'.get? b=some o)→tn i h'
  item:∀ (X:Cx),X.prog=P→X.w=w→X.K=K→X.calm=true→∀ (i:Nat) (pins:List (Addr×Obj)) (s:YB) (σ:St) (H:Hp) (E:V3→YB→Prop),Inv X pins σ H s→(∀ b∈fp,lS X pins H b)→tn i s.heap→J.go i H →
    Y0 (model P w) X.A (pyNext (.ref it)) (λr s1=>∃ u,r=some u ∧
      Y0 (model P w) X.A (letOwnedTupleGo tg (.ref it) u) (λ_ s2=>∃ x H',Inv X pins σ H' s2∧RelV x u∧J.sy i H x H'∧tn (i+1) s2.heap∧∀ b∈fp,H' b=none) E s1) E s
  done:∀ (X:Cx),X.prog=P→X.w=w→X.K=K→X.calm=true→∀ (i:Nat) (pins:List (Addr×Obj)) (s:YB) (σ:St) (H:Hp) (E:V3→YB→Prop),Inv X pins σ H s→(∀ b∈fp,lS X pins H b)→tn i s.heap→J.stop i H →
    Y0 (model P w) X.A (pyNext (.ref it)) (λr s1=>r=none∧Inv X pins σ H s1) E s
  self:∀ (A:Around) (i:Nat) (s:YB) (Q:V3→YB→Prop) (E:V3→YB→Prop),tn i s.heap→Q (.ref it) s→Y0 (model P w) A (pyIter (.ref it)) Q E s
noncomputable abbrev TI:=St→Hp→(It→Hp→Prop)→Prop
noncomputable def QM (X:Cx) (pins:List (Addr×Obj)) (σ:St) (tg:Expr) (R:It→Hp→Prop) (itv:V3) (s2:YB):Prop:=
  ∃ (it:Addr) (fp:List Addr) (tn:Nat→Heap→Prop) (J:It) (H':Hp),itv=.ref it∧Inv X pins σ H' s2∧Turn X.prog X.w X.K tg J fp it tn∧tn 0 s2.heap∧(∀ b∈fp,lS X pins H' b)∧R J H'
noncomputable def PI (X:Cx) (tg iter:Expr) (wi:TI):Prop:=
  ∀ (pins:List (Addr×Obj)) (s:YB) (σ:St) (H:Hp) (R:It→Hp→Prop),Inv X pins σ H s→wi σ H R →
    Y0 (model X.prog X.w) X.A (eval iter X.env) (λv s1=>Y0 (model X.prog X.w) X.A (pyIter v) (QM X pins σ tg R) X.xe s1) X.xe s
theorem nP {M:Model} {A:Around} {E:V3→YB→Prop} {tg:Expr} {u:V3} {o:Obj} {n:String} {Q:Unit→YB→Prop} (ho:s.heap.get? it=some o) (hc:o.cls=.type n) (hd:o.data=.fields vs)
    (hn:["enumerate","zip","dict_itemiterator","dict_reverseitemiterator","odict_iterator","itertools.zip_longest","itertools.pairwise"].contains n=false) (hQ:Q () s):Y0 M A (letOwnedTupleGo tg (.ref it) u) Q E s:=by
  unfold letOwnedTupleGo
  cases tg<;>first
    | exact YN hQ
    | (cases u<;>first
        | exact YN hQ
        | (refine Yu (abV ho ?_)
           rw [hc,hd]
           show Y0 M A (if (["enumerate","zip","dict_itemiterator","dict_reverseitemiterator","odict_iterator","itertools.zip_longest","itertools.pairwise"].contains n&&vs[0]?==some (rawInt _))=true then _ else _) Q E s
           rw [if_neg (by intro h;rw [hn,acQ] at h;cases h)]
           exact YN hQ))
noncomputable def Ga (K:Yz) (a:Addr):It:=
  ⟨λi H=>∃ xs x,lN K H a xs∧xs[i]?=some x,λi H x H'=>H'=H∧∀ xs,lN K H a xs→xs[i]?=some x,λi H=>∃ xs,lN K H a xs∧xs.length≤i⟩
noncomputable def QN (K:Yz) (a:Addr):It:=
  ⟨λi H=>∃ xs x,mQ K H a xs∧xs[i]?=some x,λi H x H'=>H'=H∧∀ xs,mQ K H a xs→xs[i]?=some x,λi H=>∃ xs,mQ K H a xs∧xs.length≤i⟩
noncomputable def sA (lo:Int) (n:Nat):It:=⟨λi _=>i<n,λi H x H'=>H'=H∧x=.int (lo+i),λi _=>n≤i⟩
theorem A4 (a it:Addr):Turn P w K tg (Ga K a) [it] it (λi h=>h.IsListIter it a i) where
  mem:=by simp
  obj:=λi h st b hb=>by
    have e:b=it:=by simpa using hb
    subst e
    obtain ⟨o,e,c,d⟩:=st
    exact ⟨o,e,λv z=>by rw [d] at z;cases z⟩
  keep:=λi h h' st k=>st.at λo e=>k it (by simp) o e
  item:=by
    intro X hP hw hK hc i pins s σ H E I hf st hg
    subst hP hw hK
    obtain ⟨xs,x,hq,hx⟩:=hg
    obtain ⟨its,rv,p,hz⟩:=I.list hq
    obtain ⟨u,hu,ru⟩:=rv.get hx
    obtain ⟨f0,f1,f2,f3,f4,f5⟩:=hf it (by simp)
    refine wpAny_pyNext_list_item st p.isList (x:=u) (by simpa using hu) λh' st' sb=>?_
    have I1:Inv X pins σ H {s with heap:=h'}:=I.turned (t':=s.toks) (λb o hb e=>(sb.2 b hb).trans e) f0 f1 f3 f4 f5
    obtain ⟨o,e,c,d⟩:=id st'
    exact ⟨u,rfl,nP (s:={s with heap:=h'}) e c d (by decide) ⟨x,H,I1,ru,⟨rfl,λys hy=>by rw [I.pC hy hq];exact hx⟩,st',λb hb=>(hf b hb).1⟩⟩
  done:=by
    intro X hP hw hK hc i pins s σ H E I hf st hg
    subst hP hw hK
    obtain ⟨xs,hq,hx⟩:=hg
    obtain ⟨its,rv,p,hz⟩:=I.list hq
    obtain ⟨f0,f1,f2,f3,f4,f5⟩:=hf it (by simp)
    have hl:=rv.length
    exact wpAny_pyNext_list_end (I.ok.hd hc) st p.isList (by simp;nofun) λh' eb=>⟨rfl,I.turned (t':=s.toks) (λb o hb e=>eb b o hb e) f0 f1 f3 f4 f5⟩
  self:=λ_ _ _ _ _ st h=>wpAny_pyIter_listiter st h
theorem yw (a it:Addr):Turn P w K tg (QN K a) [it] it (λi h=>h.IsTupleIter it a i) where
  mem:=by simp
  obj:=λi h st b hb=>by
    have e:b=it:=by simpa using hb
    subst e
    obtain ⟨o,e,c,d⟩:=st
    exact ⟨o,e,λv z=>by rw [d] at z;cases z⟩
  keep:=λi h h' st k=>st.at λo e=>k it (by simp) o e
  item:=by
    intro X hP hw hK hc i pins s σ H E I hf st hg
    subst hP hw hK
    obtain ⟨xs,x,hq,hx⟩:=hg
    obtain ⟨its,rv,p,hz⟩:=I.tuple hq
    obtain ⟨u,hu,ru⟩:=rv.get hx
    obtain ⟨f0,f1,f2,f3,f4,f5⟩:=hf it (by simp)
    refine wpAny_pyNext_tuple_item st (show s.heap.IsTuple a its.toArray from p) (x:=u) (by simpa using hu) λh' st' sb=>?_
    have I1:Inv X pins σ H {s with heap:=h'}:=I.turned (t':=s.toks) (λb o hb e=>(sb.2 b hb).trans e) f0 f1 f3 f4 f5
    obtain ⟨o,e,c,d⟩:=id st'
    exact ⟨u,rfl,nP (s:={s with heap:=h'}) e c d (by decide) ⟨x,H,I1,ru,⟨rfl,λys hy=>by rw [I.sr hy hq];exact hx⟩,st',λb hb=>(hf b hb).1⟩⟩
  done:=by
    intro X hP hw hK hc i pins s σ H E I hf st hg
    subst hP hw hK
    obtain ⟨xs,hq,hx⟩:=hg
    obtain ⟨its,rv,p,hz⟩:=I.tuple hq
    obtain ⟨f0,f1,f2,f3,f4,f5⟩:=hf it (by simp)
    have hl:=rv.length
    exact wpAny_pyNext_tuple_end (I.ok.hd hc) st (show s.heap.IsTuple a its.toArray from p) (by simp;nofun) λh' eb=>⟨rfl,I.turned (t':=s.toks) (λb o hb e=>eb b o hb e) f0 f1 f3 f4 f5⟩
  self:=λ_ _ _ _ _ st h=>wpAny_pyIter_tupleiter st h
theorem yx (it:Addr) (lo:Int) (n:Nat):Turn P w K tg (sA lo n) [it] it (λi h=>IsRangeIter h it (lo+(i:Nat)*1) ((n:Int) - (i:Nat)) 1) where
  mem:=by simp
  obj:=λi h st b hb=>by
    have e:b=it:=by simpa using hb
    subst e
    exact ⟨_,st,λv z=>by
      have z':Data.fields _=Data.cell v:=z
      cases z'⟩
  keep:=λi h h' st k=>k it (by simp) _ st
  item:=by
    intro X hP hw hK hc i pins s σ H E I hf st hg
    subst hP hw hK
    obtain ⟨f0,f1,f2,f3,f4,f5⟩:=hf it (by simp)
    have W:=Walks.range (prog:=X.prog) (w:=X.w) (I.ok.hd hc) it lo 1 n
    refine ig I.os.2 (W.item i s _ _ hg st λv h' tk hv st' kk=>λht=>?_)
    obtain ⟨t,rfl⟩:=hv
    have I1:Inv X pins σ H {s with heap:=h',toks:=tk}:=I.turned (λb o hb e=>kk b o (by simpa using hb) e) f0 f1 f3 f4 f5
    refine ⟨_,rfl,nP (s:={s with heap:=h',toks:=tk}) (n:="range_iterator") st' rfl rfl (by decide) ⟨.int (lo+i),H,I1,⟨t,?_⟩,⟨rfl,rfl⟩,st',λb hb=>(hf b hb).1⟩⟩
    rw [Int.mul_one]
  done:=by
    intro X hP hw hK hc i pins s σ H E I hf st hg
    subst hP hw hK
    obtain ⟨f0,f1,f2,f3,f4,f5⟩:=hf it (by simp)
    exact acv (I.ok.hd hc) st (by have:n≤i:=hg;nofun) λh' eb=>⟨rfl,I.turned (t':=s.toks) (λb o hb e=>eb b o hb e) f0 f1 f3 f4 f5⟩
  self:=λ_ _ _ _ _ st h=>acw st h
section
variable {X:Cx} {tg:Expr}
theorem v7 {E:V3→YB→Prop} {t u v:Tok} (I:Inv X pins σ H s) (h1:-(2^62)≤lo) (h2:lo<2^62) (h3:-(2^62)≤hi) (h4:hi<2^62)
    (q:R (sA lo (hi - lo).toNat) H) (ht:0<tk:=by first | exact Zp _ | exact (Inv.os (by assumption)).2 | assumption | nofun):Y0 (model X.prog X.w) X.A (pyIter (.ref s.heap.objs.size)) (QM X pins σ tg R) E {s with heap:=s.heap.push {cls:=.type "range",data:=.fields #[.int lo t,.int hi u,.int 1 v]},toks:=tk}:=by
  refine ac7 (IsRange.new ..) (small_one h1 h2 h3 h4) ?_
  have I1:Inv X pins σ H {s with heap:=s.heap.push {cls:=.type "range",data:=.fields #[.int lo t,.int hi u,.int 1 v]},toks:=tk}:=I.kept λb o e=>YA _ e
  refine ⟨(s.heap.push {cls:=.type "range",data:=.fields #[.int lo t,.int hi u,.int 1 v]}).objs.size,[(s.heap.push {cls:=.type "range",data:=.fields #[.int lo t,.int hi u,.int 1 v]}).objs.size],_,_,H,rfl,
    I1.kept (t':=tk) λb o e=>YA _ e,yx _ lo (hi - lo).toNat,?_,λb hb=>?_,q⟩
  · have e1:lo+((0:Nat):Int)*1=lo:=by simp
    have e2:(((hi - lo).toNat:Nat):Int) - ((0:Nat):Int)=Z7 lo hi 1:=by rw [rangeSize_one];split<;>nofun
    show IsRangeIter _ _ (lo+((0:Nat):Int)*1) ((((hi - lo).toNat:Nat):Int) - ((0:Nat):Int)) 1
    rw [e1,e2]
    exact YM _ rfl
  · have e:b=(s.heap.push {cls:=.type "range",data:=.fields #[.int lo t,.int hi u,.int 1 v]}).objs.size:=by simpa using hb
    subst e
    exact I1.ou (YE _) (I1.hok.fresh (YE _))
noncomputable def JR (ta:TA):TI:=λσ H R=>ta σ H λvs H1=>∃ j:Int,vs=[.int j]∧-(2^62)≤j∧j<2^62∧R (sA 0 j.toNat) H1
noncomputable def JS (ta:TA):TI:=λσ H R=>ta σ H λvs H1=>∃ i j:Int,vs=[.int i,.int j]∧(-(2^62)≤i∧i<2^62∧-(2^62)≤j∧j<2^62)∧R (sA i (j - i).toNat) H1
theorem sC {a:Expr} {p:Pos} (hg:Gl X "range") (hm:X.mg "range"=none) (ha:PA X [a] ta) (hs:YZ [a] X.env=[(false,eval a X.env)]:=by rfl):PI X tg (.Call (.Name "range" p) [a] [] pos) (JR ta):=by
  intro pins s σ H R I h
  refine Call_ (fO I hg hm boot_range (Zb (dh (ha pos pins s σ H _ I h) λus s1 zz=>?_) hs rfl))
  obtain ⟨vs,H1,I1,r1,q1⟩:=zz
  obtain ⟨j,e,q1,q2,q⟩:=q1
  subst e
  cases r1 with
  | cons r rr=>
    cases rr
    obtain ⟨t,rfl⟩:=r
    exact call_range_1 (v7 I1 (by nofun) (by nofun) q1 q2 (by simpa using q))
theorem sD {a b:Expr} {p pos:Pos} (hg:Gl X "range") (hm:X.mg "range"=none) (ha:PA X [a,b] ta) (hs:YZ [a,b] X.env=[(false,eval a X.env),(false,eval b X.env)]:=by rfl) (hs2:YZ [b] X.env=[(false,eval b X.env)]:=by rfl) :
    PI X tg (.Call (.Name "range" p) [a,b] [] pos) (JS ta):=by
  intro pins s σ H R I h
  refine Call_ (fO I hg hm boot_range (Zb (dh (ha pos pins s σ H _ I h) λus s1 zz=>?_) (by rw [hs,hs2]) (by rw [hs2];rfl)))
  obtain ⟨vs,H1,I1,r1,q1⟩:=zz
  obtain ⟨i,j,e,⟨q1,q2,q3,q4⟩,q⟩:=q1
  subst e
  cases r1 with
  | cons r rr=>
    cases rr with
    | cons r' rr=>
      cases rr
      obtain ⟨t,rfl⟩:=r
      obtain ⟨t',rfl⟩:=r'
      exact call_range_2 (v7 I1 q1 q2 q3 q4 q)
noncomputable def RB (wi:TI) (g:TG) (tb:TS):TS:=λD σ H=>wi σ H λJ H1=>∃ W:Nat→Nat→St→Hp→Prop,(∃ m,W 0 m σ H1)∧∀ i m σ H,W i m σ H →
  (J.stop i H∧D.nx σ H)∨(J.go i H∧∃ N:St→Hp→Prop,(∀ σ' H',N σ' H'→∃ m',m'<m∧W (i+1) m' σ' H')∧∀ x H',J.sy i H x H'→g x σ H' λσ2 H2=>tb {D with nx:=N,ct:=N,bk:=D.nx} σ2 H2)
noncomputable def mR (fp:List Addr) (h:Heap):List (Addr×Obj):=fp.filterMap λb=>(h.get? b).map λo=>(b,o)
theorem jk {o:Obj} (hb:b∈fp) (e:h.get? b=some o):(b,o)∈mR fp h:=abW.mpr ⟨b,hb,by rw [e];rfl⟩
theorem A5 (hp:p∈mR fp h):p.1∈fp∧h.get? p.1=some p.2:=by
  obtain ⟨b,hb,e⟩:=abW.mp hp
  cases q:h.get? b with
  | none=>rw [q] at e;cases e
  | some o=>
    rw [q] at e
    have e':(b,o)=p:=Zd e
    subst e'
    exact ⟨hb,q⟩
theorem Inv.pinned (I:Inv X pins σ H s) (hf:∀ b∈fp,lS X pins H b) (ho:∀ b∈fp,∃ o,s.heap.get? b=some o∧∀ v,o.data≠.cell v):Inv X (pins++mR fp s.heap) σ H s:=
  I.ue λp hp=>(Zk.mp hp).elim (λz=>I.pin p (Zz _ z)) λz=>by
    obtain ⟨hb,e⟩:=A5 z
    obtain ⟨f0,f1,f2,_⟩:=hf p.1 hb
    obtain ⟨o,e',d⟩:=ho p.1 hb
    rw [e] at e';cases e'
    exact ⟨e,f0,f1,f2,d⟩
theorem Inv.pF {pl:List (Addr×Obj)} (I:Inv X (pins++pl) σ H s):Inv X pins σ H s:=I.ue λp hp=>I.pin p (Zz _ (Z4 _ hp))
theorem ug {wi:TI} {g:TG} {pos:Pos} (hp:PassesOwn (model X.prog X.w) X.A X.env X.xe) (hc:X.calm=true) (hi:PI X tg iter wi) (hg:PG X tg g) (hb:yt X body tb)
    (hs:∀ x,foldedSetIterable iter X.env x=pure x:=by intro _;rfl):PS X (.For tg iter body [] pos) (RB wi g tb):=by
  intro pins s σ H D I h
  refine wpAny_For (dh (hi pins s σ H _ I h) λv s1 h1=>dh h1 λitv s2 h2=>?_) hs
  obtain ⟨it,fp,tn,J,H2,e,I2,T,st2,f2,W,⟨m0,w0⟩,turn⟩:=h2
  subst e
  have K3:∀ {H':Hp},(∀ b∈fp,H' b=none)→∀ b∈fp,lS X pins H' b:=λhn b hb=>⟨hn b hb,(f2 b hb).2⟩
  refine codeAny_forLoop_any (λn s'=>∃ i σ' H',Inv X pins σ' H' s'∧tn i s'.heap∧(∀ b∈fp,H' b=none)∧W i n σ' H') ?_ m0 ⟨0,σ,H2,I2,st2,λb hb=>(f2 b hb).1,w0⟩
  rintro n s3 ⟨i,σ3,H3,I3,st3,TX,w3⟩
  rcases turn i n σ3 H3 w3 with ⟨stop,qn⟩ | ⟨go,N,hN,step⟩
  · refine aat hp (dh (T.done X rfl rfl rfl hc i pins s3 σ3 H3 X.xe I3 (K3 TX) st3 stop) λr s4 zz=>?_)
    obtain ⟨hr,I4⟩:=zz
    subst hr
    exact abJ ⟨σ3,H3,I4,qn⟩
  · refine aat hp (dh (T.item X rfl rfl rfl hc i pins s3 σ3 H3 X.xe I3 (K3 TX) st3 go) λr s4 zz=>?_)
    obtain ⟨u,hr,h4⟩:=zz
    subst hr
    refine aat hp (dh h4 λ_ s5 zz=>?_)
    obtain ⟨x,H5,I5,r5,y5,NP,QU⟩:=zz
    have U1:=I5.pinned (K3 QU) (T.obj _ _ NP)
    refine aat hp (dh (hg _ s5 σ3 H5 x u _ U1 r5 (step x H5 y5)) λ_ s6 zz=>?_)
    obtain ⟨σ6,H6,I6,q6⟩:=zz
    refine aat hp (dh (hb _ s6 σ6 H6 _ I6 q6) λf s7 q7=>?_)
    have again:∀ {σ7:St} {H7:Hp},Inv X (pins++mR fp s5.heap) σ7 H7 s7→N σ7 H7→∃ m,m<n∧∃ i σ' H',Inv X pins σ' H' s7∧tn i s7.heap∧(∀ b∈fp,H' b=none)∧W i m σ' H':=λ{σ7 H7} I7 n7=>by
      obtain ⟨m',hm,w7⟩:=hN σ7 H7 n7
      refine ⟨m',hm,i+1,σ7,H7,I7.pF,T.keep _ _ _ NP λb hb o e=>(I7.pin (b,o) (Zz _ (Zz _ (jk hb e)))).1,λb hb=>?_,w7⟩
      obtain ⟨o,e,d⟩:=T.obj _ _ NP b hb
      exact (I7.pin (b,o) (Zz _ (Zz _ (jk hb e)))).2.1
    cases f with
    | next=>obtain ⟨σ7,H7,I7,n7⟩:=q7;exact again I7 n7
    | cont=>obtain ⟨σ7,H7,I7,n7⟩:=q7;exact again I7 n7
    | brk=>obtain ⟨σ7,H7,I7,q7⟩:=q7;exact ⟨σ7,H7,I7.pF,q7⟩
    | ret v=>obtain ⟨x7,σ7,H7,I7,r7,q7⟩:=q7;exact ⟨x7,σ7,H7,I7.pF,r7,q7⟩
end
noncomputable abbrev R2:=V→V→Hp→VK→Prop
variable {r:R2}
noncomputable def iR (X:Cx) (f:V3→V3→Sem V3) (r:R2):Prop:=
  ∀ (pins:List (Addr×Obj)) (s:YB) (σ:St) (H:Hp) (x y:V) (v u:V3) (Q:VK),Inv X pins σ H s→RelV x v→RelV y u→r x y H Q →
    Y0 (model X.prog X.w) X.A (f v u) (EP X pins σ Q) X.xe s
noncomputable def RD (X:Cx) (f:V3→Sem V3) (r:V→Hp→VK→Prop):Prop:=
  ∀ (pins:List (Addr×Obj)) (s:YB) (σ:St) (H:Hp) (x:V) (v:V3) (Q:VK),Inv X pins σ H s→RelV x v→r x H Q →
    Y0 (model X.prog X.w) X.A (f v) (EP X pins σ Q) X.xe s
noncomputable def eX (X:Cx) (f:V3) (r:List V→Hp→VK→Prop):Prop:=
  ∀ (pins:List (Addr×Obj)) (s:YB) (σ:St) (H:Hp) (xs:List V) (us:List V3) (Q:VK),Inv X pins σ H s→Vals xs us→r xs H Q →
    Y0 (model X.prog X.w) X.A (call f us) (EP X pins σ Q) X.xe s
noncomputable def RG (X:Cx) (r:V→Hp→(Bool→Hp→Prop)→Prop):Prop:=
  ∀ (pins:List (Addr×Obj)) (s:YB) (σ:St) (H:Hp) (x:V) (v:V3) (Q:Bool→Hp→Prop),Inv X pins σ H s→RelV x v→r x H Q →
    Y0 (model X.prog X.w) X.A (truthy v) (TP X pins σ Q) X.xe s
noncomputable def Om (r:R2) (ta tb:TE):TE:=λσ H Q=>ta σ H λx H1=>tb σ H1 λy H2=>r x y H2 Q
noncomputable def U3 (r:V→Hp→VK→Prop) (ta:TE):TE:=λσ H Q=>ta σ H λx H1=>r x H1 Q
noncomputable def rI (C:Int→Int→Prop) (g:Int→Int→V):R2:=λx y H Q=>∃ i j,x=.int i∧y=.int j∧C i j∧Q (g i j) H
noncomputable def Gb (g:Int→Int→V):R2:=λx y H Q=>∃ i j,x=.int i∧y=.int j∧Q (g i j) H
noncomputable def rU (g:Int→V):V→Hp→VK→Prop:=λx H Q=>∃ i,x=.int i∧Q (g i) H
section
variable {X:Cx} {a b c:Expr} {ta tb tc:TE} {pos:Pos}
theorem K4 (ha:PE X a ta) (hb:PE X b tb) {pins:List (Addr×Obj)} {s:YB} {σ:St} {H:Hp} {R:V→V→Hp→Prop} (I:Inv X pins σ H s)
    (h:ta σ H λx H1=>tb σ H1 λy H2=>R x y H2) {Q:V3→YB→Prop} {f:V3→V3→Sem V3}
    (hf:∀ v u s2 x y H2,Inv X pins σ H2 s2→RelV x v→RelV y u→R x y H2→Y0 (model X.prog X.w) X.A (f v u) Q X.xe s2) :
    Y0 (model X.prog X.w) X.A (eval a X.env) (λv s₁=>Y0 (model X.prog X.w) X.A (eval b X.env) (λu s₂=>Y0 (model X.prog X.w) X.A (f v u) Q X.xe s₂) X.xe s₁) X.xe s:=by
  refine dh (ha pins s σ H _ I h) λv s1 zz=>?_
  obtain ⟨x,H1,I1,r1,q1⟩:=zz
  refine dh (hb pins s1 σ H1 _ I1 q1) λu s2 zz=>?_
  obtain ⟨y,H2,I2,r2,q2⟩:=zz
  exact hf v u s2 x y H2 I2 r1 r2 q2
theorem Oo {op:Operator} (ho:iR X (binaryOp op) r) (ha:PE X a ta) (hb:PE X b tb):PE X (.BinOp a op b pos) (Om r ta tb):=by
  intro pins s σ H Q I h
  exact wpAny_BinOp (K4 ha hb I h λv u s2 x y H2 I2 rx ry q=>ho pins s2 σ H2 x y v u Q I2 rx ry q)
theorem Oq {op:UnaryOp} {r:V→Hp→VK→Prop} (ho:RD X (unaryOp op) r) (ha:PE X a ta):PE X (.UnaryOp op a pos) (U3 r ta):=by
  intro pins s σ H Q I h
  exact UnaryOp_ (dh (ha pins s σ H _ I h) λv s1 zz=>by obtain ⟨x,H1,I1,r1,q1⟩:=zz;exact ho pins s1 σ H1 x v Q I1 r1 q1)
theorem NQ {f:V3→V3→Sem V3} {C:Int→Int→Prop}
    (rule:∀ (i j:Int) (t u:Tok) (s:YB) (Q:V3→YB→Prop) (E:V3→YB→Prop),C i j→Q (.int (g i j) s.toks) {s with toks:=s.toks+1}→Y0 (model X.prog X.w) X.A (f (.int i t) (.int j u)) Q E s) :
    iR X f (rI C λi j=>.int (g i j)):=by
  intro pins s σ H x y v u Q I rx ry h
  obtain ⟨i,j,rfl,rfl,hc,q⟩:=h
  obtain ⟨t,rfl⟩:=rx
  obtain ⟨t',rfl⟩:=ry
  exact rule i j t t' s _ _ hc ⟨.int (g i j),H,I.tok _,⟨_,rfl⟩,q⟩
theorem Gw {f:V3→V3→Sem V3}
    (rule:∀ (i j:Int) (t u:Tok) (s:YB) (Q:V3→YB→Prop) (E:V3→YB→Prop),Q (.int (g i j) s.toks) {s with toks:=s.toks+1}→Y0 (model X.prog X.w) X.A (f (.int i t) (.int j u)) Q E s) :
    iR X f (Gb λi j=>.int (g i j)):=by
  intro pins s σ H x y v u Q I rx ry h
  obtain ⟨i,j,rfl,rfl,q⟩:=h
  obtain ⟨t,rfl⟩:=rx
  obtain ⟨t',rfl⟩:=ry
  exact rule i j t t' s _ _ ⟨.int (g i j),H,I.tok _,⟨_,rfl⟩,q⟩
theorem K5 {g:Int→Int→Bool}
    (rule:∀ (i j:Int) (t u:Tok) (s:YB) (Q:V3→YB→Prop) (E:V3→YB→Prop),Q (.bool (g i j)) s→Y0 (model X.prog X.w) X.A (f (.int i t) (.int j u)) Q E s) :
    iR X f (Gb λi j=>.bl (g i j)):=by
  intro pins s σ H x y v u Q I rx ry h
  obtain ⟨i,j,rfl,rfl,q⟩:=h
  obtain ⟨t,rfl⟩:=rx
  obtain ⟨t',rfl⟩:=ry
  exact rule i j t t' s _ _ ⟨.bl (g i j),H,I,rfl,q⟩
noncomputable def RH (i j:Int):Prop:=0<j∧j<1073741824
noncomputable def Gx (i j:Int):Prop:=0≤j∧j≤1000000∧i.natAbs<2^64
noncomputable def K6 (i j:Int):Prop:=(-(2^64)<i∧i<2^64)∨(-(2^64)<j∧j<2^64)
theorem K6.ok {i j:Int} (h:K6 i j):IntMulOk i j:=by
  rcases h with ⟨h1,h2⟩ | ⟨h1,h2⟩
  · exact .of_left (intBits_le_64 h1 h2)
  · exact .of_right (intBits_le_64 h1 h2)
theorem yy (k:Nat):(0:Int)≤2^k:=by
  rw [two_pow_cast]
  exact Int.natCast_nonneg _
theorem K7:iR X (binaryOp .Add) (Gb λi j=>.int (i+j)):=Gw λ_ _ _ _ _ _ _ q=>add_int q
theorem K8:iR X (binaryOp .Sub) (Gb λi j=>.int (i - j)):=Gw λ_ _ _ _ _ _ _ q=>sub_int q
theorem K9:iR X (binaryOp .Mult) (rI K6 λi j=>.int (i*j)):=NQ λ_ _ _ _ _ _ _ hc q=>mul_int q hc.ok
theorem Gy:iR X (binaryOp .FloorDiv) (rI RH λi j=>.int (i / j)):=NQ λi j _ _ _ _ _ hc q=>by
  have h1:(0:Int)<j:=hc.1
  have h2:j<1073741824:=hc.2
  exact floordiv_int (by nofun) (by rw [abX i (by nofun)];exact q) (.inl (acy (by nofun)))
theorem La:iR X (binaryOp .Mod) (rI (λ_ j=>0<j) λi j=>.int (i % j)):=NQ λi j _ _ _ _ _ hc q=>by
  have h1:(0:Int)<j:=hc
  exact mod_int' (by nofun) (by rw [Int.fmod_eq_emod_of_nonneg i (by nofun)];exact q)
theorem Lb:iR X (binaryOp .Pow) (rI Gx λi j=>.int (i^j.toNat)):=NQ λ_ _ _ _ _ _ _ hc q=>pow_int_small hc.1 hc.2.1 hc.2.2 q
theorem Lc:iR X (binaryOp .LShift) (rI Gx λi j=>.int (i*2^j.toNat)):=NQ λ_ _ _ _ _ _ _ hc q=>lshift_int_small hc.1 hc.2.1 hc.2.2 q
theorem Ld:iR X (binaryOp .RShift) (rI (λ_ j=>0≤j) λi j=>.int (i / 2^j.toNat)):=NQ λi j _ _ _ _ _ hc q=>
  rshift_int hc (by rw [abX i (yy _)];exact q)
theorem Le:iR X (binaryOp .BitAnd) (Gb λi j=>.int (aaS i j)):=Gw λ_ _ _ _ _ _ _ q=>and_int q
theorem Ot:iR X (binaryOp .BitOr) (Gb λi j=>.int (abD i j)):=Gw λ_ _ _ _ _ _ _ q=>or_int q
theorem U4 {f:V3→Sem V3} {g:Int→Int}
    (rule:∀ (i:Int) (t:Tok) (s:YB) (Q:V3→YB→Prop) (E:V3→YB→Prop),Q (.int (g i) s.toks) {s with toks:=s.toks+1}→Y0 (model X.prog X.w) X.A (f (.int i t)) Q E s) :
    RD X f (rU λi=>.int (g i)):=by
  intro pins s σ H x v Q I rx h
  obtain ⟨i,rfl,q⟩:=h
  obtain ⟨t,rfl⟩:=rx
  exact rule i t s _ _ ⟨.int (g i),H,I.tok _,⟨_,rfl⟩,q⟩
theorem Lf:RD X (unaryOp .USub) (rU λi=>.int (-i)):=U4 λ_ _ _ _ _ q=>neg_int q
end
section
variable {X:Cx} {a b c:Expr} {ta tb tc:TE} {pos:Pos}
theorem Lg {Q:VK} {k:Bool} (I:Inv X pins σ H s) (q:Q (.bl k) H) (e:k=k'):EP X pins σ Q (.bool k') s:=by
  subst e
  exact ⟨.bl k,H,I,rfl,q⟩
theorem Ou:iR X (compareOp .Lt) (Gb λi j=>.bl (decide (i<j))):=K5 λ_ _ _ _ _ _ _ q=>lt_int q
theorem Ov:iR X (compareOp .Gt) (Gb λi j=>.bl (decide (j<i))):=K5 λ_ _ _ _ _ _ _ q=>gt_int q
theorem Ow:iR X (compareOp .GtE) (Gb λi j=>.bl (decide (j≤i))):=K5 λ_ _ _ _ _ _ _ q=>ge_int q
theorem A6:iR X (compareOp .In) (λx y H Q=>∃ i j,x=.str i∧y=.str j∧Q (.bl (!(acm j i 0 j.length 1).isEmpty)) H):=by
  intro pins s σ H x y v u Q I rx ry h
  obtain ⟨i,j,rfl,rfl,q⟩:=h
  obtain ⟨t,rfl⟩:=rx
  obtain ⟨t',rfl⟩:=ry
  exact in_str (Lg I q rfl)
theorem iR.or {r':R2} (h:iR X f r) (h':iR X f r'):iR X f (λx y H Q=>r x y H Q∨r' x y H Q):=by
  intro pins s σ H x y v u Q I rx ry q
  rcases q with q | q
  · exact h pins s σ H x y v u Q I rx ry q
  · exact h' pins s σ H x y v u Q I rx ry q
theorem Lh (b:Expr) {op:CmpOp} (h:op≠.In:=by decide) (h2:op≠.NotIn:=by decide):behindInMarks op b=false:=by
  have e1:(op==CmpOp.In)=false:=by cases op<;>first | rfl | exact absurd rfl h
  have e2:(op==CmpOp.NotIn)=false:=by cases op<;>first | rfl | exact absurd rfl h2
  cases b<;>simp [behindInMarks,e1,e2]
theorem Gz (ho:iR X (compareOp op) r) (ha:PE X a ta) (hb:PE X b tb) (hm:behindInMarks op b=false):PE X (.Compare a [op] [b] pos) (Om r ta tb):=by
  intro pins s σ H Q I h
  exact wpAny_Compare1 (K4 ha hb I h λv u s2 x y H2 I2 rx ry q=>ho pins s2 σ H2 x y v u Q I2 rx ry q) hm
noncomputable def Ox (t:TE):TT:=λσ H Q=>t σ H λx H'=>∃ k,x=.bl k∧Q k H'
theorem GA (ho:iR X (compareOp op) r) (ha:PE X a ta) (hb:PE X b tb) (hm:behindInMarks op b=false):PT X (.Compare a [op] [b] pos) (Ox (Om r ta tb)):=by
  intro pins s σ H Q I h
  refine wpAny_isTrue_Compare1 (dh (ha pins s σ H _ I h) λv s1 ⟨x,H1,I1,r1,q1⟩=>dh (hb pins s1 σ H1 _ I1 q1) λu s2 ⟨y,H2,I2,r2,q2⟩=>
    dh (ho pins s2 σ H2 x y v u _ I2 r1 r2 q2) λc s3 ⟨z,H3,I3,r3,k,e,q3⟩=>?_) hm
  subst e
  cases r3
  exact ab5 ⟨H3,I3,q3⟩
noncomputable def Li (K:Yz) (x:V) (H:Hp) (k:Bool):Prop:=
  match x with
  | .dP=>k=false
  | .bl b=>k=b
  | .int i=>k=(i != 0)
  | .str y=>y.length≤Yx∧k=((y.length:Int) != 0)
  | .N4 y=>y.size≤Yx∧k=((y.size:Int) != 0)
  | .ref p=>(∃ xs,lN K H p xs∧k=!xs.isEmpty)∨(∃ xs,mQ K H p xs∧k=!xs.isEmpty)∨∃ kvs,H p=some (.dK kvs)∧k=!kvs.isEmpty
  | _=>False
theorem yz {κ:Type} {kvs:List (κ×V)} {vs:List (κ×V3)} (r:KV kvs vs):(!vs.isEmpty)=!kvs.isEmpty:=by
  cases r<;>rfl
theorem pG (r:Vals xs its):(!its.toArray.isEmpty)=!xs.isEmpty:=by
  cases r<;>simp
theorem mS:(Yx:Nat)<2^63:=by rw [sizeLine_eq];decide
theorem Lj:RG X (λx H Q=>∃ k,Li X.K x H k∧Q k H):=by
  intro pins s σ H x v Q I rx h
  obtain ⟨k,e,q⟩:=h
  have hl:=mS
  have hs:Yx=16777216:=sizeLine_eq
  cases x with
  | dP=>
    cases rx
    have e':k=false:=e
    subst e'
    exact truthy_none ⟨H,I,q⟩
  | bl b=>
    cases rx
    have e':k=b:=e
    subst e'
    exact ab5 ⟨H,I,q⟩
  | int i=>
    obtain ⟨t,rfl⟩:=rx
    have e':k=(i != 0):=e
    subst e'
    exact PySem.P.truthy_int ⟨H,I,q⟩
  | str y=>
    obtain ⟨t,rfl⟩:=rx
    obtain ⟨hy,e'⟩:y.length≤Yx∧k=((y.length:Int) != 0):=e
    subst e'
    exact PySem.P.truthy_str (by nofun) ⟨H,I.tok _,q⟩
  | N4 y=>
    obtain ⟨t,rfl⟩:=rx
    obtain ⟨hy,e'⟩:y.size≤Yx∧k=((y.size:Int) != 0):=e
    subst e'
    exact PySem.W.truthy_bytes (by nofun) ⟨H,I.tok _,q⟩
  | ref p=>
    cases rx
    have e':(∃ xs,lN X.K H p xs∧k=!xs.isEmpty)∨(∃ xs,mQ X.K H p xs∧k=!xs.isEmpty)∨∃ kvs,H p=some (.dK kvs)∧k=!kvs.isEmpty:=e
    rcases e' with ⟨xs,hx,e'⟩ | ⟨xs,hx,e'⟩ | ⟨kvs,hx,e'⟩
    · subst e'
      obtain ⟨its,r,pl,hz⟩:=I.list hx
      have hlen:=r.length
      exact wpAny_truthy_list pl.isList (by simp only [Y3];nofun) ⟨H,I.tok _,by rw [pG r];exact q⟩
    · subst e'
      obtain ⟨its,r,pl,hz⟩:=I.tuple hx
      have hlen:=r.length
      exact truthy_tuple pl (by simp only [Y3];nofun) ⟨H,I.tok _,by rw [pG r];exact q⟩
    · subst e'
      obtain ⟨hz,hS,vs,r,m⟩:kvs.length≤Yx∧(p==sysModules)=false∧∃ vs,KV kvs vs∧s.heap.DictOf (bK X.prog X.w) p vs:=I.hok p _ hx
      have hlen:kvs.length=vs.length:=aa5 r
      exact wpAny_truthy_dict hS m (by nofun) ⟨H,I.tok _,by rw [yz r];exact q⟩
  | _=>exact (show False from e).elim
theorem CQ (ha:PE X a ta) (he:∀ whole,isTrue a X.env whole=(do let v ← whole;standAt a.pos;holding [v] (truthy v))) :
    PT X a (λσ H Q=>ta σ H λx H'=>∃ k,Li X.K x H' k∧Q k H'):=by
  intro pins s σ H Q I h
  exact isTrue_plain (dh (ha pins s σ H _ I h) λv s1 zz=>by obtain ⟨x,H1,I1,r1,q1⟩:=zz;exact Lj pins s1 σ H1 x v Q I1 r1 q1) (he _)
theorem yC:iR X (binaryOp .Add) (λx y H Q=>∃ i j,x=.str i∧y=.str j∧i.length+j.length≤Yx∧Q (.str (i++j)) H):=by
  intro pins s σ H x y v u Q I rx ry h
  obtain ⟨i,j,rfl,rfl,hz,q⟩:=h
  obtain ⟨t,rfl⟩:=rx
  obtain ⟨t',rfl⟩:=ry
  exact ig I.os.2 (add_str (λt' tk ht=>⟨.str (i++j),H,I.tok _,⟨_,rfl⟩,q⟩) hz)
theorem vals1 {x:V} (r:Vals [x] us):∃ u,us=[u]∧RelV x u:=by
  cases r with
  | cons r1 r2=>cases r2;exact ⟨_,rfl,r1⟩
theorem vals2 {x:V} (r:Vals [x,y] us):∃ u w',us=[u,w']∧RelV x u∧RelV y w':=by
  cases r with
  | cons r1 r2=>
    cases r2 with
    | cons r3 r4=>cases r4;exact ⟨_,_,rfl,r1,r3⟩
theorem A7 (hc:X.calm=true):eX X (.builtin "min") (λxs H Q=>∃ i j,xs=[.int i,.int j]∧Q (.int (if j<i then j else i)) H):=by
  intro pins s σ H xs us Q I r h
  obtain ⟨i,j,rfl,q⟩:=h
  obtain ⟨u,w',rfl,⟨t,rfl⟩,⟨t',rfl⟩⟩:=vals2 r
  refine ig I.os.2 <| min_two_ints (I.ok.hd hc) λh' tk k ht=>⟨_,H,I.kept k,?_,q⟩
  by_cases hj:j<i
  · rw [if_pos hj,if_pos hj];exact ⟨_,rfl⟩
  · rw [if_neg hj,if_neg hj];exact ⟨_,rfl⟩
theorem sE:eX X (.type "int") (λxs H Q=>(∃ i,xs=[.int i]∧Q (.int i) H)∨∃ k,xs=[.bl k]∧Q (.int (if k then 1 else 0)) H):=by
  intro pins s σ H xs us Q I r h
  rcases h with ⟨i,rfl,q⟩ | ⟨k,rfl,q⟩
  · obtain ⟨u,rfl,t,rfl⟩:=vals1 r
    exact call_int_int ⟨.int i,H,I,⟨_,rfl⟩,q⟩
  · obtain ⟨u,rfl,r1⟩:=vals1 r
    cases r1
    exact call_int_bool ⟨.int (if k then 1 else 0),H,I.tok _,⟨_,rfl⟩,q⟩
end
structure Oz (h:Heap) (x dx C:Addr) (mA:Str→Option V3):Prop where
  obj:h.get? x=some (aas C dx)
  ns:h.Ns1 dx mA
  ne:dx≠x
theorem A8 (n:h.Ns1 dx mA):∃ od,h.get? dx=some od∧∀ name,acR name od=some (mA name):=by
  obtain ⟨o,es,ep,ho,hd,hk,_,hm⟩:=n
  refine ⟨o,ho,λname=>?_⟩
  have e:=hm name
  unfold nsFind findBy at e
  rw [← Array.find?_toList] at e
  unfold acR
  rw [hd]
  dsimp only
  split
  · rename_i y q
    rw [q] at e
    exact congrArg some e
  · rename_i q
    rw [q] at e
    have a:es.toList.any (·.refKey)=false:=by
      rw [adi]
      intro y hy
      obtain ⟨z,t,hkey⟩:=hk y (Array.mem_toList_iff.mp hy)
      simp [DictEntry.refKey,hkey]
    have a':¬ es.toList.any (·.refKey)=true:=by rw [a];exact Zm
    rw [if_neg a']
    exact congrArg some e
theorem Oz.look {x:Addr} (I:Oz h x dx C mA):∃ od,PySem.W.InstAt h x (aas C dx) C (some od)∧∀ name,acR name od=some (mA name):=
  let ⟨od,ho,hl⟩:=A8 I.ns
  ⟨od,⟨I.obj,rfl,rfl,ho⟩,hl⟩
theorem om.some_of {o:Option V3} (r:om (some v) o):∃ u,o=some u∧RelV v u:=by
  cases o with
  | none=>exact (show False from r).elim
  | some u=>exact ⟨u,rfl,r⟩
structure U5 (K:Yz) (C:Addr):Prop where
  pg:PySem.W.plainGet K C Str.empty=true
  hd:PySem.W.hasDictIn K C=true
  po:PySem.W.plainOver K C=true
  sa:abd K (.ref C) "__setattr__"=some (some (.builtin "object.__setattr__"))
structure Xr (K:Yz) (C:Addr) (f:Str) (v:V) (u:V3):Prop where
  at_:abd K (.ref C) f=some (some u)
  rel:RelV v u
  get:adj K u "__get__"=some none
  cp:PySem.W.copiedNames.contains f=false
structure Meth (K:Yz) (C:Addr) (m:Str) (f:Addr):Prop where
  at_:abd K (.ref C) m=some (some (.ref f))
  fn:PySem.W.isFn K (.ref f)=true
  kp:Zu K (.ref f)=true
section
variable {X:Cx} {pins:List (Addr×Obj)} {σ:St} {H:Hp} {s:YB} {a C dx:Addr} {fs:List (Str×V)} {f:Str} {v:V} {A:Around} {E:V3→YB→Prop}
theorem Inv.made (I:Inv X pins σ H s):Inv X pins σ (upd (upd H s.heap.objs.size (.own (s.heap.objs.size+1))) (s.heap.objs.size+1) (.ins C s.heap.objs.size []))
    {s with heap:=(s.heap.push ZQ).push (aas C s.heap.objs.size)}:=by
  have e1:(s.heap.push ZQ).get? s.heap.objs.size=some ZQ:=YM s.heap rfl
  have e2:((s.heap.push ZQ).push (aas C s.heap.objs.size)).get? (s.heap.objs.size+1)=some (aas C s.heap.objs.size):=by
    have:=YM (s.heap.push ZQ) (o:=aas C s.heap.objs.size) rfl
    rwa [aaG] at this
  have e3:(s.heap.push ZQ).Ns s.heap.objs.size (λ_=>none):=⟨ZQ,#[],_,e1,rfl,(λe he=>absurd he (by simp)),λ_=>rfl⟩
  have I1:=I.laid (a:=s.heap.objs.size) (o:=.own (s.heap.objs.size+1)) (h':=s.heap.push ZQ) (t':=s.toks) (λb u q=>YA _ q) (YE _) ⟨_,e1⟩
  refine I1.laid (a:=s.heap.objs.size+1) (o:=.ins C s.heap.objs.size []) (t':=s.toks) (λb u q=>YA _ q) (Nat.le_of_eq (aaG _ _)) ?_
  have ne:s.heap.objs.size≠s.heap.objs.size+1:=YU (aai _)
  refine ⟨by rw [av ne,aM],Zq _,ne,e2,λ_=>none,(Heap.Ns1.of_empty e3).at λo q=>YA _ q,λ_=>aaB,λy hy=>absurd rfl hy⟩
end
section
variable {X:Cx} {pins:List (Addr×Obj)} {σ:St} {H:Hp} {s:YB} {A:Around} {E:V3→YB→Prop} {Q:V3→YB→Prop} {c:V3} {b:Bool}
inductive pH (K:Yz) (H:Hp):V→V3→Prop where
  | dP:pH K H .dP (.type "NoneType")
  | bl (x:Bool):pH K H (.bl x) (.type "bool")
  | int (i:Int):pH K H (.int i) (.type "int")
  | str (x:Str):pH K H (.str x) (.type "str")
  | N5 (x:UInt64):pH K H (.N5 x) (.type "float")
  | lst {a:Addr} {xs:List V} (e:H a=some (.lst xs)):pH K H (.ref a) (.type "list")
  | cy {a:Addr} {o:Obj} {xs:List V} (e:H a=some (.cy o (.lst xs))):pH K H (.ref a) (.type "list")
  | tup {a:Addr} {xs:List V} (e:H a=some (.tup xs)):pH K H (.ref a) (.type "tuple")
  | dK {a:Addr} {kvs:List (Key×V)} (e:H a=some (.dK kvs)):pH K H (.ref a) (.type "dict")
  | dT {a:Addr} {kvs:List (List Key×V)} (e:H a=some (.dT kvs)):pH K H (.ref a) (.type "dict")
  | ins {a C dx:Addr} {fs:List (Str×V)} (e:H a=some (.ins C dx fs)) (cl:U5 K C) (ha:abd K (.ref C) "__class__"=some (some (.builtin "object.__class__")))
      (hn:adj K (.builtin "object.__class__") "__get__"=some (some (.builtin "getset_descriptor.__get__"))) (htk:PySem.W.takesIn K (.builtin "object.__class__")=some true)
      (hm:PySem.W.mroIn K C (.type "object")=some true):pH K H (.ref a) (.ref C)
end
structure di (k:Nat) (A:Around):Prop where
  hd:A.handled=none
  dp:A.depth+3*k+5<recursionLimit
  un:A.units+16*k+600<cLine
theorem di.mono {k:Nat} (r:di k A) (h:j≤k):di j A:=⟨r.hd,by have:=r.dp;nofun,by have:=r.un;nofun⟩
theorem di.deeper {k:Nat} (r:di (k+1) A) (env:Env):di k (A.deeper env):=
  ⟨r.hd,by have:=r.dp;show A.depth+1+3*k+5<_;nofun,by have:=r.un;show A.units+3+16*k+600<_;nofun⟩
theorem di.in1 {k:Nat} (r:di (k+1) A):di k A.in1:=
  ⟨r.hd,by have:=r.dp;show A.depth+3*k+5<_;nofun,by have:=r.un;show A.units+1+16*k+600<_;nofun⟩
theorem yD:(A.under (.builtin "type.__call__" ⟨.ref C::us,kw⟩)).depth=A.depth+1:=by
  first | rfl | simp [adk,Code.weight,Code.isCreation,Code.isGuard,Code.isCaller,Code.frames,adl,guardIds]
theorem yE:(A.under (.builtin "type.__call__" ⟨.ref C::us,kw⟩)).units=A.units+1:=by
  first | rfl | simp [adk,Code.cUnits,Code.frames,adl]
theorem di.make {k:Nat} (r:di (k+1) A) (C:Addr) (us:List V3) (kw:List (Str×V3)):di k (A.under (.builtin "type.__call__" ⟨.ref C::us,kw⟩)):=
  ⟨r.hd,by have:=r.dp;rw [yD];nofun,by have:=r.un;rw [yE];nofun⟩
theorem di.depth {k:Nat} (r:di k A):A.depth<recursionLimit:=by have:=r.dp;nofun
theorem di.units {k:Nat} (r:di k A):A.units+64<cLine:=by have:=r.un;nofun
noncomputable def GB:TA:=λ_ H Q=>Q [] H
noncomputable def zV (ta:TE) (tr:TA):TA:=λσ H Q=>ta σ H λx H1=>tr σ H1 λxs H2=>Q (x::xs) H2
section
variable {X:Cx} {e:Expr} {es:List Expr} {te:TE} {t:TA} {pos:Pos}
theorem yF:PA X [] GB:=λ_ _ _ _ H Q I h=>abe ⟨[],H,I,.nil,h⟩
theorem uh (ha:PE X e te) (hr:PA X es t) (hs:YZ (e::es) X.env=(false,eval e X.env)::YZ es X.env:=by rfl):PA X (e::es) (zV te t):=by
  intro pos pins s σ H Q I h
  rw [hs]
  show Y0 _ _ (spliced ((false,eval e X.env)::backTo pos (YZ es X.env))) _ _ s
  refine ZZ (dh (ha pins s σ H _ I h) λu s1 zz=>?_)
  obtain ⟨x,H1,I1,r1,q1⟩:=zz
  exact dh (hr pos pins s1 σ H1 _ I1 q1) λus s2 zz=>by obtain ⟨xs,H2,I2,r2,q2⟩:=zz;exact ⟨x::xs,H2,I2,.cons r1 r2,q2⟩
noncomputable def RI (t:TA):TE:=λσ H Q=>t σ H λxs H1=>xs.length≤Yx∧∀ p,H1 p=none→Q (.ref p) (upd H1 p (.tup xs))
noncomputable def RJ (t:TA):TE:=λσ H Q=>t σ H λxs H1=>xs.length≤Yx∧∀ p,H1 p=none→Q (.ref p) (upd H1 p (.lst xs))
theorem Ll {x1} (h:PA X es t):PE X (.Tuple es x1 pos) (RI t):=by
  intro pins s σ H Q I hq
  refine wpAny_Tuple_spliced (dh (h pos pins s σ H _ I hq) λus s1 ⟨xs,H1,I1,r,z,q⟩=>⟨by rw [← r.length];exact z,?_⟩)
  have hf:H1 s1.heap.objs.size=none:=I1.hok.fresh (YE _)
  refine ⟨.ref s1.heap.objs.size,upd H1 s1.heap.objs.size (.tup xs),I1.laid (t':=s1.toks) (λb u e=>YA _ e) (YE _) ?_,rfl,q _ hf⟩
  exact ⟨z,us,r,⟨_,YM _ rfl,rfl,_,rfl⟩⟩
theorem Lm (h:PA X es t):PE X (.List es pos) (RJ t):=by
  intro pins s σ H Q I hq
  refine wpAny_List_spliced (dh (h pos pins s σ H _ I hq) λus s1 ⟨xs,H1,I1,r,z,q⟩=>⟨by rw [← r.length];exact z,?_⟩)
  have hf:H1 s1.heap.objs.size=none:=I1.hok.fresh (YE _)
  refine ⟨.ref s1.heap.objs.size,upd H1 s1.heap.objs.size (.lst xs),I1.laid (t':=s1.toks) (λb u e=>YA _ e) (YE _) ?_,rfl,q _ hf⟩
  exact ⟨z,us,0,r,YM _ rfl⟩
end
noncomputable abbrev Sp:=List V→Hp→VK→XK→Prop
variable {sp OA:Sp}
noncomputable abbrev oJ:=List Env→Hp→YB→XK→V3→YB→Prop
variable {CX:oJ}
structure mT (P:Zg) (w:Zs) (K:Yz) (mg:Str→Option V3) (base:Heap) (A:Around) (outer:List Env) (s:YB) (H:Hp):Prop where
  frames:A.frames=some outer
  mod:Mod K mg base
  bs:∀ b o,base.get? b=some o→s.heap.get? b=some o∧H b=none
  F9:base.objs.size≤s.heap.objs.size
  lR:s.heap.FunFrames base outer
  Gn:∀ b∈frs outer,H b=none
  hok:ji P w H s.heap
  bare:AllBare s.gens
noncomputable def CE (outer:List Env) (P:Zg) (w:Zs) (H:Hp) (s:YB) (Q:VK) (u:V3) (s':YB):Prop:=
  ∃ v H',(s'.os=s.os∧0<s'.toks)∧AllBare s'.gens∧Un (frs outer) [] H H' s.heap s'.heap∧ji P w H' s'.heap∧RelV v u∧Q v H'
noncomputable def CR (CX:oJ) (outer:List Env) (P:Zg) (w:Zs) (H:Hp) (s:YB) (Q:VK) (E:XK) (r:Result) (s':YB):Prop:=
  match r with
  | .ok (.ret u)=>CE outer P w H s Q u s'
  | .ok _=>False
  | .error e=>CX outer H s E e s'
structure kP (P:Zg) (w:Zs) (K:Yz) (mg:Str→Option V3) (base:Heap) (CX:oJ) (k:Nat) (f:Addr) (fd:FuncData) (ps:List Str) (sp:Sp):Prop where
  len:∀ vs H Q E,sp vs H Q E→vs.length=ps.length
  run:∀ (A:Around) (outer:List Env) (s:YB) (H:Hp) (args:Args) (us:List V3) (vs:List V) (Q:VK) (E:XK),di k A→mT P w K mg base A outer s H→0<s.toks→BindsTo s fd args (ps.zip us)→Vals vs us→sp vs H Q E →
    codeAny (model P w) A (.call (.ref f) args) (CR CX outer P w H s Q E) s
structure kT (P:Zg) (w:Zs) (K:Yz) (mg:Str→Option V3) (base:Heap) (CX:oJ) (k:Nat) (f:Addr) (fd:FuncData) (ps:List Str) (sp:Sp):Prop where
  len:∀ vs H Q E,sp vs H Q E→vs.length=ps.length
  run:∀ (A:Around) (outer:List Env) (s:YB) (H:Hp) (args:Args) (us:List V3) (vs:List V) (Q:VK) (E:XK),di k A→mT P w K mg base A outer s H→BindsTo s fd args (ps.zip us)→Vals vs us→sp vs H Q E →
    codeAny (model P w) A (.call (.ref f) args) (CR CX outer P w H s Q E) s
theorem kT.imp {k:Nat} {f:Addr} (F:kT P w K mg base CX k f fd ps sp)
    (h:∀ vs H Q E,OA vs H Q E→sp vs H Q E):kT P w K mg base CX k f fd ps OA:=
  ⟨λvs H Q E q=>F.len vs H Q E (h _ _ _ _ q),λA outer s H args us vs Q E hr he hb hv hs=>F.run A outer s H args us vs Q E hr he hb hv (h _ _ _ _ hs)⟩
theorem kP.imp {k:Nat} {f:Addr} (F:kP P w K mg base CX k f fd ps sp)
    (h:∀ vs H Q E,OA vs H Q E→sp vs H Q E):kP P w K mg base CX k f fd ps OA:=
  ⟨λvs H Q E q=>F.len vs H Q E (h _ _ _ _ q),λA outer s H args us vs Q E hr he ht hb hv hs=>F.run A outer s H args us vs Q E hr he ht hb hv (h _ _ _ _ hs)⟩
theorem mT.make (e:mT P w K mg base A outer s H) (C:Addr) (us:List V3) (kw:List (Str×V3)) :
    mT P w K mg base (A.under (.builtin "type.__call__" ⟨.ref C::us,kw⟩)) outer s H:=⟨by first | exact e.frames | (simpa [adk,Code.envs,adl,pushEnvs] using e.frames),e.mod,e.bs,e.F9,e.lR,e.Gn,e.hok,e.bare⟩
theorem mT.in1 (e:mT P w K mg base A outer s H) :
    mT P w K mg base A.in1 outer s H:=⟨e.frames,e.mod,e.bs,e.F9,e.lR,e.Gn,e.hok,e.bare⟩
section
variable {X:Cx} {pins:List (Addr×Obj)} {σ:St} {H:Hp} {s s':YB}
theorem Inv.gh (I:Inv X pins σ H s):mT X.prog X.w X.K X.mg X.base X.A X.stack s H:=
  ⟨I.ok.frames,I.ok.mod,I.bs,Zw I.ok.F9 I.sz,I.stack,I.oH,I.hok,I.bare⟩
theorem Inv.after {Q:VK} (I:Inv X pins σ H s) (h:CE X.stack X.prog X.w H s Q u s'):EP X pins σ Q u s':=by
  obtain ⟨v,H',os,bare,un,hok,r,q⟩:=h
  obtain ⟨hh,g,d,t,os'⟩:=s'
  have ht:0<t:=os.2
  obtain rfl:os'=s.os:=os.1
  exact ⟨v,H',I.call (h':=hh) (g':=g) (d':=d) (t':=t) (ch:=[]) un hok bare (λb z=>absurd z (by simp)),r,q⟩
end
noncomputable def Binds (K:Yz) (fd:FuncData) (ps:List Str) (ds:List V3):Prop:=
  ∀ (s:YB) (us:List V3),K.In s.heap→(us++ds).length=ps.length→BindsTo s fd ⟨us,[]⟩ (ps.zip (us++ds))
theorem Binds.all (h:∀ us:List V3,us.length=ps.length→bindArgs fd ⟨us,[]⟩=pure (ps.zip us)):Binds K fd ps []:=λs us _ hl=>by
  rw [Y4] at hl ⊢
  exact .of_eq (h us hl)
section
variable {X:Cx} {CX:oJ} {k:Nat} {f C:Addr} {fd:FuncData} {ps:List Str} {sp:Sp} {Xs:List V} {ds:List V3} {E:XK} {x m:Str} {p pos apos:Pos} {e o:Expr} {es:List Expr} {ta:TE} {t:TA}
structure Mk (K:Yz) (C f:Addr):Prop where
  makes:PySem.W.makesIn K C=true
  init:abd K (.ref C) "__init__"=some (some (.ref f))
  fn:PySem.W.isFn K (.ref f)=true
  kp:Zu K (.ref C)=true
end
section
variable {X:Cx} {CX:oJ} {k:Nat} {f C:Addr} {fd:FuncData} {ps ks:List Str} {sp:Sp} {E:XK} {x m:Str} {p pos apos kpos:Pos} {e o:Expr} {es:List Expr} {kws:List Keyword} {te ta:TE} {t tk:TA} {nm:Option Str}
structure RK (K:Yz) (fd:FuncData) (ps ks:List Str) (g:List V3→List V3→List V3) (gV:List V→List V→List V):Prop where
  to:∀ (s:YB) (us ws:List V3),K.In s.heap→(g us ws).length=ps.length→BindsTo s fd ⟨us,ks.zip ws⟩ (ps.zip (g us ws))
  rel:∀ {vs:List V} {us:List V3} {zs:List V} {ws:List V3},Vals vs us→Vals zs ws→Vals (gV vs zs) (g us ws)
variable {g:List V3→List V3→List V3} {gV:List V→List V→List V}
end
structure ir (N P:List Str) (sc:Scope):Prop where
  kind:sc.kind=.function
  co:sc.isCoroutine=false
  gen:sc.isGenerator=false
  nd:N.Nodup
  pre:N.take P.length=P
  par:∀ x∈P,sc.names.lookup x=some .local∨sc.names.lookup x=some .cell
  Ln:∀ y∈sc.names,y.2≠.free
theorem sF {kindOf:Str→Option NameKind} {x:Str}:∀ {binds:List (Str×V3)} {m:Str→Option V3},(∀ v,(x,v)∉binds)→bindL kindOf binds m x=m x
  | [],_,_=>rfl
  | (n,v)::r,m,h=>by
    unfold bindL
    rw [sF λw hw=>h w (Zl _ hw)]
    split
    · have:x≠n:=by rintro rfl;exact h v aal
      simp [this]
    · rfl
theorem sG {kindOf:Str→Option NameKind} {x:Str}:∀ {binds:List (Str×V3)} {m:Str→Option V3},(∀ v,(x,v)∉binds)→bindC kindOf binds m x=m x
  | [],_,_=>rfl
  | (n,v)::r,m,h=>by
    unfold bindC
    rw [sG λw hw=>h w (Zl _ hw)]
    split
    · rfl
    · have:x≠n:=by rintro rfl;exact h v aal
      simp [this]
theorem sH {kindOf:Str→Option NameKind} {x:Str} {v:V3}:∀ {P:List Str} {vs:List V3} {i:Nat} {m:Str→Option V3},P.Nodup→P[i]?=some x→vs[i]?=some v→kindOf x=some .local →
    bindL kindOf (P.zip vs) m x=some v
  | [],_,_,_,_,h,_,_=>by simp at h
  | _::_,[],_,_,_,_,h,_=>by simp at h
  | p::P,w::vs,0,m,nd,h1,h2,hk=>by
    simp at h1 h2;subst h1;subst h2
    show bindL kindOf ((p,w)::P.zip vs) m p=_
    unfold bindL
    rw [sF λv hv=>(ZK.mp nd).1 (Z9 hv).1,if_pos hk]
    simp
  | p::P,w::vs,i+1,m,nd,h1,h2,hk=>by
    show bindL kindOf ((p,w)::P.zip vs) m x=_
    unfold bindL
    exact sH (i:=i) (ZK.mp nd).2 (by simpa using h1) (by simpa using h2) hk
theorem sI {kindOf:Str→Option NameKind} {x:Str} {v:V3}:∀ {P:List Str} {vs:List V3} {i:Nat} {m:Str→Option V3},P.Nodup→P[i]?=some x→vs[i]?=some v→kindOf x≠some .local →
    bindC kindOf (P.zip vs) m x=some v
  | [],_,_,_,_,h,_,_=>by simp at h
  | _::_,[],_,_,_,_,h,_=>by simp at h
  | p::P,w::vs,0,m,nd,h1,h2,hk=>by
    simp at h1 h2;subst h1;subst h2
    show bindC kindOf ((p,w)::P.zip vs) m p=_
    unfold bindC
    rw [sG λv hv=>(ZK.mp nd).1 (Z9 hv).1,if_neg hk]
    simp
  | p::P,w::vs,i+1,m,nd,h1,h2,hk=>by
    show bindC kindOf ((p,w)::P.zip vs) m x=_
    unfold bindC
    exact sI (i:=i) (ZK.mp nd).2 (by simpa using h1) (by simpa using h2) hk
noncomputable def start (N:List Str) (vs:List V):St:=vs.map some++YV (N.length - vs.length) none
noncomputable def lT (CX:oJ) (P:Zg) (w:Zs) (K:Yz) (mg:Str→Option V3) (base:Heap) (N:List Str) (qual:Str) (scope:Scope) (f:Addr) (cd:V3) (A:Around) (outer:List Env) (s:YB) (H:Hp) (E:XK):Cx where
  prog:=P
  w:=w
  K:=K
  mg:=mg
  base:=base
  A:=A.deeper (envOfC qual scope s.heap.objs.size f cd)
  N:=N
  s₀:=s
  H₀:=H
  env:=envOfC qual scope s.heap.objs.size f cd
  outer:=outer
  stack:=envOfC qual scope s.heap.objs.size f cd::outer
  ex:=[]
  calm:=true
  fn:=λ_=>true
  pn:=[]
  xe:=λe s'=>Y0 (model P w) (A.deeper (envOfC qual scope s.heap.objs.size f cd)) (leaving (envOfC qual scope s.heap.objs.size f cd) e) (λ_ s''=>CX outer H s E e s'') (λe' s''=>CX outer H s E e' s'') s'
theorem v8 (h:sc.names.lookup x=some .cell):∃ c,(cellsFrom n sc.names []).lookup x=some c:=by
  have q:=abf sc.names n [] (.inl h)
  exact Option.isSome_iff_exists.mp q
theorem mU {CX:oJ} {P:Zg} {w:Zs} {K:Yz} {mg:Str→Option V3} {base:Heap} {N ps:List Str} {qual:Str} {scope:Scope} {f:Addr} {cd:V3} {A:Around} {outer:List Env} {s s1:YB} {H:Hp} {E:XK} {us:List V3} {vs:List V}
    (S:ir N ps scope) (hd:A.handled=none) (e0:mT P w K mg base A outer s H) (hl:vs.length=ps.length) (r:Vals vs us)
    (x:InCallC s s.heap.objs.size (bindL (envOfC qual scope s.heap.objs.size f cd).kindOf (ps.zip us) λ_=>none) (cellsFrom (s.heap.objs.size+1) scope.names []) (bindC (envOfC qual scope s.heap.objs.size f cd).kindOf (ps.zip us) λ_=>none) s1) {n:Nat} (ht:0<n) :
    Inv (lT CX P w K mg base N qual scope f cd A outer s H E) [] (start N vs) H {s1 with toks:=n}:=by
  have hpl:ps.length≤N.length:=by have:=congrArg aag S.pre;rw [aaH] at this;nofun
  obtain ⟨h1,tk,rfl,hk⟩:=x.done
  have GC:∀ b:Addr,b∉(lT CX P w K mg base N qual scope f cd A outer s H E).ex:=λb z=>absurd (show b∈([]:List Addr) from z) (by simp)
  refine ⟨⟨e0.mod,S.kind,rfl,rfl,YE _,λy z c h1 h2=>?_,λy hy=>?_,λy c _ h=>?_,λ_=>hd,acS e0.frames,.inr ⟨rfl,rfl⟩,λb z=>absurd z (GC b),e0.bs,e0.F9,λb _ _=>GC b,λb z=>absurd z (GC b),e0.lR,e0.Gn⟩,
    ⟨rfl,ht⟩,e0.bare,Un.kept hk,⟨_,x.toInCall.ns,λi y v h1 h2 h3=>?_⟩,λy c h=>⟨_,x.cell y c h⟩,e0.hok.fresh (YE _),λy c h=>?_,λp hp=>absurd (show p∈([]:List (Addr×Obj)) from hp) (by simp),e0.hok.kept hk,?_⟩
  · exact name_of_addr x.apart (ZU h1) (ZU h2)
  · have hy:scope.names.lookup y=some .cell∨scope.names.lookup y=some .free:=hy
    rcases hy with hy | hy
    · exact v8 hy
    · exact absurd rfl (S.Ln _ (ZU hy))
  · exact acs (x.above y c (ZU h))
  · have hi:i<vs.length:=by
      unfold start at h2
      by_cases hi:i<vs.length
      · exact hi
      · rw [Y5 (by simpa using hi)] at h2
        rw [aaI] at h2
        split at h2<;>cases h2
    have ha:vs[i]?=some v:=by
      unfold start at h2
      rw [YQ (by simpa using hi),YK] at h2
      cases e:vs[i]? with
      | none=>rw [e] at h2;cases h2
      | some a=>rw [e] at h2;cases h2;rfl
    obtain ⟨u,hu,rv⟩:=r.get ha
    have hp:ps[i]?=some y:=by
      rw [← S.pre,acd (by nofun)];exact h1
    have QV:ps.Nodup:=by rw [← S.pre];exact S.nd.sublist (adm _ _)
    refine ⟨u,rv,?_⟩
    rcases S.par y (Zi hp) with k | k
    · exact .inl ⟨k,sH QV hp hu k⟩
    · obtain ⟨c,e⟩:=v8 (n:=s.heap.objs.size+1) k
      refine .inr ⟨.inl k,c,e,?_⟩
      have q:=x.cell y c e
      rw [sI QV hp hu (by show scope.names.lookup y≠_;rw [k];decide)] at q
      exact q
  · exact .inl (e0.hok.fresh (acs (x.above y c (ZU h))))
  · unfold start
    show _=N.length
    rw [YO,YL,abp]
    nofun
theorem OB {CX:oJ} {P:Zg} {w:Zs} {K:Yz} {mg:Str→Option V3} {base:Heap} {k:Nat} {f:Addr} {name qual:Str} {params:Arguments} {body:List Stmt} {scope:Scope} {dV kV doc pm cdv ct oc:V3} {an od:Option Addr}
    {osl:Array (Option V3)} {N ps:List Str} {sp:Sp} (lk:K.lookup f=some ⟨oc,od,.func (aaw name qual params body scope dV kV doc pm an cdv ct),osl⟩) (hcd:abg K cdv qual=true) (S:ir N ps scope)
    (len:∀ vs H Q E,sp vs H Q E→vs.length=ps.length)
    (hbody:∀ (A:Around) (outer:List Env) (s:YB) (H:Hp) (vs:List V) (Q:VK) (E:XK),di k (A.deeper (envOfC qual scope s.heap.objs.size f cdv))→sp vs H Q E →
      ∃ t,yt (lT CX P w K mg base N qual scope f cdv A outer s H E) body t∧t {nx:=λ_ H'=>Q .dP H',rt:=Q} (start N vs) H) :
    kP P w K mg base CX (k+1) f (aaw name qual params body scope dV kV doc pm an cdv ct) ps sp:=by
  refine ⟨len,λA outer s H args us vs Q E hr e0 htk hb r zW=>?_⟩
  have hl:=len _ _ _ _ zW
  have KX:K.In s.heap:=e0.mod.Gj.keeps λb o e=>(e0.bs b o e).1
  have lim:s.heap.NoLimit:=e0.mod.nolimit.keeps λb o e=>(e0.bs b o e).1
  have hkind:∀ y∈ps.zip us,scope.names.lookup y.1=some .local∨(scope.names.lookup y.1=some .cell∧((cellsFrom (s.heap.objs.size+1) scope.names []).lookup y.1).isSome=true):=λzz hy=>by
    obtain ⟨n,v⟩:=zz
    rcases S.par n (Z9 hy).1 with q | q
    · exact .inl q
    · exact .inr ⟨q,abf _ _ _ (.inl q)⟩
  refine codeAny_call_function hr.depth (KX _ _ lk) rfl S.co S.gen rfl (abY KX hcd) (hb _ _ _ _ ?_)
  refine ig htk (aaT S.kind hkind λenv he s1 x=>λLo=>?_)
  subst he
  refine ⟨lim.keeps x.toInCall.keep,codeAny_func ?_⟩
  obtain ⟨t,ht,hq⟩:=hbody A outer s H vs Q E (hr.deeper _) zW
  have I:Inv (lT CX P w K mg base N qual scope f cdv A outer s H E) [] (start N vs) H s1:=mU S hr.hd e0 hl r x (n:=s1.toks) Lo
  refine Zn (ht [] s1 (start N vs) H _ I hq) (λfl s' hs=>?_) λe s' hs=>hs
  have fin:∀ {σ':St} {H':Hp} {v:V} {u:V3},Inv (lT CX P w K mg base N qual scope f cdv A outer s H E) [] σ' H' s'→RelV v u→Q v H'→CE outer P w H s Q u s':=
    λ{σ' H' v u} J rv q=>⟨v,H',J.os,J.bare,J.base,J.hok,rv,q⟩
  cases fl with
  | ret u=>
    obtain ⟨v,σ',H',J,rv,q⟩:=hs
    exact fin J rv q
  | next=>
    obtain ⟨σ',H',J,q⟩:=hs
    exact fin (v:=V.dP) (u:=Value.none) J rfl q
  | brk=>
    obtain ⟨_,_,_,q⟩:=hs
    exact ZA q
  | cont=>
    obtain ⟨_,_,_,q⟩:=hs
    exact ZA q
section
variable {X:Cx} {x:Str} {p pos:Pos} {e:Expr} {es:List Expr} {t:TA} {id T:String} {r:List V→Hp→VK→Prop}
noncomputable def TY (r:List V→Hp→VK→Prop) (t:TA):TE:=λσ H Q=>t σ H λvs H1=>r vs H1 Q
theorem CS (hc:eX X (.builtin id) r) (hg:Gl X x) (hm:X.mg x=none) (hv:bootBuiltins x=some (.builtin id)) (ha:PA X (e::es) t) (hn:x≠"__name__":=by decide) (hdb:(x==("__debug__":Str))=false:=by decide)
    (he:YZ (e::es) X.env=(false,eval e X.env)::YZ es X.env:=by rfl) (hpl:(backTo pos (YZ es X.env)).any (·.1)=false:=by rfl):PE X (.Call (.Name x p) (e::es) [] pos) (TY r t):=by
  intro pins s σ H Q I h
  refine Ze (fO I hg hm hv ?_ hn hdb)
  exact abw (dh (ha pos pins s σ H _ I h) λus s1 zz=>by obtain ⟨vs,H1,I1,r1,q1⟩:=zz;exact hc pins s1 σ H1 vs us Q I1 r1 q1) he hpl
theorem A9 (hc:eX X (.type T) r) (hg:Gl X x) (hm:X.mg x=none) (hv:bootBuiltins x=some (.type T)) (ha:PA X (e::es) t) (hn:x≠"__name__":=by decide) (hdb:(x==("__debug__":Str))=false:=by decide)
    (he:YZ (e::es) X.env=(false,eval e X.env)::YZ es X.env:=by rfl) (hpl:(backTo pos (YZ es X.env)).any (·.1)=false:=by rfl):PE X (.Call (.Name x p) (e::es) [] pos) (TY r t):=by
  intro pins s σ H Q I h
  refine Ze (fO I hg hm hv ?_ hn hdb)
  exact Zb (dh (ha pos pins s σ H _ I h) λus s1 zz=>by obtain ⟨vs,H1,I1,r1,q1⟩:=zz;exact hc pins s1 σ H1 vs us Q I1 r1 q1) he hpl
end
end L2
namespace HT
open PySem PyProof.Rows
section
open PySem.SeqAt
open PySem.AutoSeq1 (wpAny_loadPart')
open PySem.MeetsSeq PySem.MeetsSeq2 PySem.MeetsSeq3
end
section
variable {prog:Zg} {w:Zs} {A:Around} {E:V3→YB→Prop} {s:YB}
theorem GD {t b:Addr} {vs ws:List V3} {Q:V3→YB→Prop} (ht:IsTup s.heap t vs.toArray) (hb:IsTup s.heap b ws.toArray) (hv:vs≠[])
    (h1:ws=[]→Q (.ref t) s) (h2:ws≠[]→Q (.ref s.heap.objs.size) {s with heap:=s.heap.push {cls:=.type "tuple",data:=.seq (vs++ws).toArray}})
    (hsz:vs.length+ws.length≤Yx):Y0 (model prog w) A (binaryOp .Add (.ref t) (.ref b)) Q E s:=by
  obtain ⟨⟨cls,dd,data,sl⟩,ho,hc,n,hd⟩:=id ht
  obtain ⟨⟨Lp,dd2,data2,sl2⟩,ho2,hc2,n2,hd2⟩:=id hb
  simp only at hc hd hc2 hd2
  subst hc hd hc2 hd2
  have e:vs.toArray++ws.toArray=(vs++ws).toArray:=by simp
  by_cases hw:ws=[]
  · exact concat_meets ⟨_,ho,rfl⟩ ⟨_,ho2,rfl⟩ noFill_tuple_add seq_tuple_add abh aa9 (aa6 _ _)
      (tuple_addW1 t b vs.toArray ws.toArray n n2 dd dd2 sl sl2 (by simpa using hv) (by simp [hw])) ⟨ho,ho2,h1 hw⟩
  · refine concat_meets ⟨_,ho,rfl⟩ ⟨_,ho2,rfl⟩ noFill_tuple_add seq_tuple_add abh aa9 (aa6 _ _)
      (tuple_addW2 t b vs.toArray ws.toArray n n2 dd dd2 sl sl2 (by simpa using hv) (by simpa using hw) (by rw [Y3,Y3];exact hsz)) ⟨ho,ho2,?_⟩
    rw [e]
    exact h2 hw
noncomputable def eW (n d:Nat):Option Int→Nat
  | none=>d
  | some v=>if v<0 then (v+(n:Int)).toNat else min v.toNat n
theorem jV (n d:Nat):eW n d none=d:=rfl
theorem oK (n d k:Nat):eW n d (some (k:Int))=min k n:=by
  show (if (k:Int)<0 then ((k:Int)+(n:Int)).toNat else min (k:Int).toNat n)=min k n
  rw [if_neg (by nofun),aaQ]
theorem Lq (n d:Nat) (hd:d≤n) (o:Option Int):eW n d o≤n:=by
  cases o with
  | none=>exact hd
  | some v=>
    show (if v<0 then (v+(n:Int)).toNat else min v.toNat n)≤n
    by_cases hv:v<0
    · rw [if_pos hv];nofun
    · rw [if_neg hv];exact Nat.min_le_right _ _
theorem zX (v:Int) (n d:Nat):(if v<0 then max (v+(n:Int)) 0 else min v (n:Int))=((eW n d (some v):Nat):Int):=by
  show (if v<0 then max (v+(n:Int)) 0 else min v (n:Int))=(((if v<0 then (v+(n:Int)).toNat else min v.toNat n):Nat):Int)
  by_cases hv:v<0
  · simp only [if_pos hv];nofun
  · simp only [if_neg hv];nofun
theorem yG (lo hi:Option Int) (n:Nat):aaZ lo hi 1 (n:Int)=(((eW n 0 lo:Nat):Int),((eW n n hi:Nat):Int)):=by
  have h1:¬ ((1:Int)<0):=by nofun
  unfold aaZ
  simp only [h1,if_false]
  refine Prod.ext ?_ ?_
  · cases lo with
    | none=>rfl
    | some v=>exact zX v n 0
  · cases hi with
    | none=>rfl
    | some v=>exact zX v n n
theorem yH (i j:Nat):aaq (i:Int) (j:Int) 1=j - i:=by
  unfold aaq
  have h1:(1:Int) > 0:=by nofun
  simp only [h1,if_true,Int.ediv_one]
  split<;>nofun
theorem pI {v:V3} {o:Option Int} {Q:Option Int→YB→Prop} (p:IsPart v o) (h:Q o s):Y0 (model prog w) A (Builtin.Slice.slicePartIndex v) Q E s:=by
  cases p with
  | none=>exact slicePart_none h
  | int i t=>exact slicePart_int h
theorem mV {sl:Addr} {vl vu:V3} {lo hi:Option Int} {n:Nat} {Q:Int×Int×Nat→YB→Prop} (hs:s.heap.IsSliceOf sl vl vu .none) (pl:IsPart vl lo) (pu:IsPart vu hi)
    (h:Q (((eW n 0 lo:Nat):Int),1,eW n n hi - eW n 0 lo) s):Y0 (model prog w) A (abZ (.ref sl) (pure (n:Int))) Q E s:=by
  obtain ⟨os,hos,hcs,hds⟩:=id hs
  unfold abZ Builtin.Slice.sliceFields
  refine Yu (Yu (ZG hos hds (x:=vl) rfl (Yu (ZG hos hds (x:=vu) rfl (Yu (ZG hos hds (x:=.none) rfl (YN ?_)))))))
  refine Yu (slicePart_none ?_)
  show Y0 _ _ (if ((1:Int)==0)=true then _ else _) _ _ s
  rw [if_neg (by decide)]
  refine Yu (pI pl (Yu (pI pu (Yu (YN ?_)))))
  show Y0 _ _ (match aaZ lo hi 1 (n:Int) with | (lo,hi)=>pure (lo,(1:Int),aaq lo hi 1)) _ _ s
  rw [yG lo hi n]
  show Y0 _ _ (pure (((eW n 0 lo:Nat):Int),(1:Int),aaq ((eW n 0 lo:Nat):Int) ((eW n n hi:Nat):Int) 1)) _ _ s
  rw [yH]
  exact YN h
theorem CU (xs:Array V3) (i k:Nat):((Y9 k).filterMap λ(m:Nat)=>xs[((i:Int)+(m:Int)*1).toNat]?).toArray=((xs.toList.drop i).take k).toArray:=by
  have e:(λ(m:Nat)=>xs[((i:Int)+(m:Int)*1).toNat]?)=λm=>xs[i+m]?:=by
    funext m
    have:((i:Int)+(m:Int)*1).toNat=i+m:=by nofun
    rw [this]
  rw [e]
  have:=pick_run xs i k
  rw [List.filterMap_map] at this
  have e2:((λx=>xs[x]?)∘λx=>i+x)=λm=>xs[i+m]?:=rfl
  rw [e2] at this
  rw [this]
theorem lU {t sl:Addr} {items:Array V3} {vl vu:V3} {lo hi:Option Int} {Q:V3→YB→Prop} (ht:IsTup s.heap t items) (hs:s.heap.IsSliceOf sl vl vu .none) (pl:IsPart vl lo) (pu:IsPart vu hi)
    (hw:¬ (eW items.size 0 lo=0∧eW items.size items.size hi=items.size))
    (h:Q (.ref s.heap.objs.size) {s with heap:=s.heap.push {cls:=.type "tuple",data:=.seq ((items.toList.drop (eW items.size 0 lo)).take (eW items.size items.size hi - eW items.size 0 lo)).toArray}})
    (hsz:items.size≤Yx):Y0 (model prog w) A (getItem (.ref t) (.ref sl)) Q E s:=by
  have zY:sizeOk (.seq ((items.toList.drop (eW items.size 0 lo)).take (eW items.size items.size hi - eW items.size 0 lo)).toArray):=by
    show ((items.toList.drop (eW items.size 0 lo)).take (eW items.size items.size hi - eW items.size 0 lo)).toArray.size≤Yx
    rw [Y3,aaH,abx,abO]
    nofun
  have hj:eW items.size items.size hi≤items.size:=Lq _ _ (YE _) hi
  obtain ⟨os,hos,hcs,hds⟩:=id hs
  have U6:s.TypeIs (.ref sl) "slice":=⟨os,hos,hcs⟩
  unfold getItem
  try with_reducible refine ace ?_
  first | refine Yu (YN ?_) | skip
  refine Yu (wpAny_sequenceKey ht.typeIs (by decide) ?_)
  refine Yu (Z8 (name:=aaX "__getitem__") ht.typeIs aaF
    (aaj aaF ht.typeIs entry_tuple_getitem ?_ (args_tuple_getitem _ _)))
  show Y0 _ _ (Builtin.Tuple.tupleItemsOf (.ref t) >>= _) _ _ s
  refine Yu (tupleItemsOf_ ht ?_)
  refine Yu (adn U6 ?_)
  rw [if_pos (by decide)]
  refine Yu (mV hs pl pu ?_)
  have hno:¬ ((((eW items.size 0 lo:Nat):Int)==0&&(1:Int)==1&&(eW items.size items.size hi - eW items.size 0 lo)==items.size)=true):=by
    intro q
    rw [ZF,ZF] at q
    have q1:((eW items.size 0 lo:Nat):Int)=0:=eq_of_beq q.1.1
    have q2:eW items.size items.size hi - eW items.size 0 lo=items.size:=eq_of_beq q.2
    exact hw ⟨by nofun,by nofun⟩
  show Y0 _ _ (if (((eW items.size 0 lo:Nat):Int)==0&&(1:Int)==1&&(eW items.size items.size hi - eW items.size 0 lo)==items.size)=true then _ else _) _ _ s
  rw [if_neg hno,CU]
  first
    | exact Yu (m:=ZJ _) (Zo (YN ⟨_,rfl,YN h⟩) zY)
    | exact Yu (m:=ZJ _) (Zo (Yu (YN (YN ⟨_,rfl,YN h⟩))) zY)
    | exact Yu (Yu (m:=ZJ _) (Zo (YN (YN ⟨_,rfl,YN h⟩)) zY))
    | exact Yu (Yu (m:=ZJ _) (Zo (YN ⟨_,rfl,YN h⟩) zY))
end
end HT
namespace L2
open PySem PySem.Spec PyProof.Rows
variable {r r':V→Option Int→Option Int→Hp→VK→Prop} {us its:List V3} {xs:List V} {pins:List (Addr×Obj)} {n j t':Nat} {i:Int} {s:YB} {v f:V3} {α:Type}
noncomputable abbrev TO:=St→Hp→(Option Int→Hp→Prop)→Prop
noncomputable def PO (X:Cx) (e:Option Expr) (t:TO):Prop:=
  ∀ (pins:List (Addr×Obj)) (s:YB) (σ:St) (H:Hp) (Q:Option Int→Hp→Prop),Inv X pins σ H s→t σ H Q →
    Y0 (model X.prog X.w) X.A (evalPart e X.env) (λu s'=>∃ o H',Inv X pins σ H' s'∧IsPart u o∧Q o H') X.xe s
noncomputable def GF:TO:=λ_ H Q=>Q none H
noncomputable def OC (t:TE):TO:=λσ H Q=>t σ H λx H1=>∃ i,x=.int i∧Q (some i) H1
section
variable {X:Cx} {e:Expr} {te:TE} {lo hi:Option Expr} {tl th:TO} {pos p2:Pos}
theorem GH:PO X none GF:=by
  intro pins s σ H Q I h
  rw [evalPart_none]
  exact YN ⟨none,H,I,.none,h⟩
theorem GI (h:PE X e te):PO X (some e) (OC te):=by
  intro pins s σ H Q I hw
  rw [evalPart_some]
  refine dh (h pins s σ H _ I hw) λu s1 zz=>?_
  obtain ⟨x,H1,I1,r1,q1⟩:=zz
  obtain ⟨i,rfl,q⟩:=q1
  obtain ⟨t,rfl⟩:=r1
  exact ⟨some i,H1,I1,.int i t,q⟩
noncomputable def JT (X:Cx) (r:V→Option Int→Option Int→Hp→VK→Prop):Prop:=
  ∀ (pins:List (Addr×Obj)) (s:YB) (σ:St) (H:Hp) (x:V) (v vl vu:V3) (lo hi:Option Int) (sl:Addr) (Q:VK),Inv X pins σ H s→RelV x v→s.heap.IsSliceOf sl vl vu .none→IsPart vl lo→IsPart vu hi→r x lo hi H Q →
    ∃ T id,typeLookup (.type T) "__getitem__"=pure (some (.builtin id))∧s.TypeIs v T∧Y0 (model X.prog X.w) X.A (getItem v (.ref sl)) (EP X pins σ Q) X.xe s
theorem JT.or (h:JT X r) (h':JT X r'):JT X (λx lo hi H Q=>r x lo hi H Q∨r' x lo hi H Q):=by
  intro pins s σ H x v vl vu lo hi sl Q I rx hs pl pu q
  rcases q with q | q
  · exact h pins s σ H x v vl vu lo hi sl Q I rx hs pl pu q
  · exact h' pins s σ H x v vl vu lo hi sl Q I rx hs pl pu q
noncomputable def U7 (r:V→Option Int→Option Int→Hp→VK→Prop) (te:TE) (tl th:TO):TE:=λσ H Q=>te σ H λx H1=>tl σ H1 λl H2=>th σ H2 λu H3=>r x l u H3 Q
theorem CV (hr:JT X r) (he:PE X e te) (hl:PO X lo tl) (hu:PO X hi th):PE X (.Subscript e (.Slice lo hi none p2) pos) (U7 r te tl th):=by
  intro pins s σ H Q I h
  refine Subscript_ (dh (he pins s σ H _ I h) λv s1 zz=>?_)
  obtain ⟨x,H1,I1,r1,q1⟩:=zz
  refine wpAny_Slice (dh (hl pins s1 σ H1 _ I1 q1) λvl s2 ⟨l,H2,I2,pl,q2⟩=>dh (hu pins s2 σ H2 _ I2 q2) λvu s3 zz=>?_)
  obtain ⟨u,H3,I3,pu,q3⟩:=zz
  rw [evalPart_none]
  refine YN ?_
  have I4:Inv X pins σ H3 {s3 with heap:=s3.heap.push {cls:=.type "slice",data:=.fields #[vl,vu,.none]}}:=I3.kept (t':=s3.toks) λb ob q=>YA _ q
  obtain ⟨T,id,hT,ht,hg⟩:=hr pins {s3 with heap:=s3.heap.push {cls:=.type "slice",data:=.fields #[vl,vu,.none]}} σ H3 x v vl vu l u s3.heap.objs.size Q I4 r1 (Heap.IsSliceOf.new ..) pl pu q3
  show Y0 (model X.prog X.w) X.A (subscriptTail e (.Slice lo hi none p2) v (.ref s3.heap.objs.size)) (EP X pins σ Q) X.xe {s3 with heap:=s3.heap.push {cls:=.type "slice",data:=.fields #[vl,vu,.none]}}
  exact tail_any (ops:=[.ref s3.heap.objs.size,v]) ht hT hg (by with_unfolding_all rfl)
noncomputable def v9 (xs:List V) (lo hi:Option Int):List V:=(xs.drop (HT.eW xs.length 0 lo)).take (HT.eW xs.length xs.length hi - HT.eW xs.length 0 lo)
theorem nQ (xs:List V) (lo hi:Option Int):(v9 xs lo hi).length≤xs.length:=by
  unfold v9
  rw [aaH,abx]
  nofun
noncomputable def RL (K:Yz):V→Option Int→Option Int→Hp→VK→Prop:=λx lo hi H Q=>∃ a xs,x=.ref a∧mQ K H a xs ∧
  ¬ (HT.eW xs.length 0 lo=0∧HT.eW xs.length xs.length hi=xs.length)∧∀ p,H p=none→Q (.ref p) (upd H p (.tup (v9 xs lo hi)))
theorem Lr:JT X (RL X.K):=by
  intro pins s σ H x v vl vu lo hi sl Q I rx hs pl pu h
  obtain ⟨a,xs,rfl,hx,hw,q⟩:=h
  cases rx
  obtain ⟨its,r,ht,hz⟩:=I.tuple hx
  have hlen:its.toArray.size=xs.length:=by rw [Y3];exact r.length.symm
  refine ⟨"tuple",_,aaF.lookup,ht.typeIs,?_⟩
  refine HT.lU ht hs pl pu (by rw [hlen];exact hw) ?_ (by rw [hlen];exact hz)
  rw [hlen]
  refine ⟨.ref s.heap.objs.size,_,I.laid (t':=s.toks) (o:=.tup (v9 xs lo hi)) (λb ob q=>YA _ q) (YE _) ?_,rfl,q _ (I.hok.fresh (YE _))⟩
  exact ⟨Zw (nQ xs lo hi) hz,_,(r.drop (HT.eW xs.length 0 lo)).take (HT.eW xs.length xs.length hi - HT.eW xs.length 0 lo),adB _ _⟩
noncomputable def OD (K:Yz):R2:=λx y H Q=>∃ a b xs ys,x=.ref a∧y=.ref b∧mQ K H a xs∧mQ K H b ys∧xs≠[]∧xs.length+ys.length≤Yx ∧
  (ys=[]→Q (.ref a) H)∧(ys≠[]→∀ p,H p=none→Q (.ref p) (upd H p (.tup (xs++ys))))
theorem Vals.um (r:Vals xs us):us=[]↔xs=[]:=by
  cases r with
  | nil=>simp
  | cons _ _=>simp
theorem GJ:iR X (binaryOp .Add) (OD X.K):=by
  intro pins s σ H x y v u Q I rx ry h
  obtain ⟨a,b,xs,ys,rfl,rfl,ha,hb,hx,hz,q1,q2⟩:=h
  cases rx
  cases ry
  obtain ⟨its,r1,p1,_⟩:=I.tuple ha
  obtain ⟨its2,r2,p2,_⟩:=I.tuple hb
  refine HT.GD p1 p2 (λz=>hx (r1.um.mp z)) (λz=>⟨.ref a,H,I,rfl,q1 (r2.um.mp z)⟩) (λz=>?_) (by rw [← r1.length,← r2.length];exact hz)
  refine ⟨.ref s.heap.objs.size,_,I.laid (t':=s.toks) (o:=.tup (xs++ys)) (λb ob q=>YA _ q) (YE _) ?_,rfl,q2 (λw=>z (r2.um.mpr w)) _ (I.hok.fresh (YE _))⟩
  exact ⟨by rw [YO];exact hz,_,r1.append r2,adB _ _⟩
end
noncomputable def GK (n:Nat) (i:Int):Option Nat:=if 0≤i then (if i<n then some i.toNat else none) else if -(n:Int)≤i then some (i+n).toNat else none
noncomputable def kB {α:Type} (xs:List α) (i:Int):Option α:=(GK xs.length i).bind λj=>xs[j]?
theorem GL (h:GK n i=some j):seqIndex? i n=some j∧j<n∧-(n:Int)≤i∧i<n:=by
  unfold GK at h
  by_cases h0:0≤i
  · rw [if_pos h0] at h
    by_cases h1:i<n
    · rw [if_pos h1] at h
      have e:i.toNat=j:=Zd h
      exact ⟨by rw [seqIndex_of h0 h1,e],by nofun,by nofun,h1⟩
    · rw [if_neg h1] at h;cases h
  · rw [if_neg h0] at h
    by_cases h1:-(n:Int)≤i
    · rw [if_pos h1] at h
      have e:(i+n).toNat=j:=Zd h
      exact ⟨by rw [seqIndex_neg (by nofun) h1,e],by nofun,h1,by nofun⟩
    · rw [if_neg h1] at h;cases h
theorem uo {α:Type} {xs:List α} {v:α} (h:kB xs i=some v):∃ j,seqIndex? i xs.length=some j∧xs[j]?=some v∧j<xs.length∧-(xs.length:Int)≤i∧i<xs.length:=by
  unfold kB at h
  cases e:GK xs.length i with
  | none=>rw [e] at h;cases h
  | some j=>
    rw [e] at h
    obtain ⟨h1,h2,h3,h4⟩:=GL e
    exact ⟨j,h1,h,h2,h3,h4⟩
theorem dQ {α:Type} {xs:List α} {v:α} (h:xs[j]?=some v):kB xs (j:Int)=some v:=by
  have hj:j<xs.length:=(Yw.mp h).1
  have e:GK xs.length (j:Int)=some j:=by
    unfold GK
    rw [if_pos (by nofun),if_pos (by nofun)];simp
  unfold kB;rw [e];exact h
noncomputable def oM (b:Expr):Prop:=∀ o i,subscripted b false o i=operate [o,i] (getItem o i)
noncomputable def Gd (X:Cx) (r:R2):Prop:=
  ∀ (value slice:Expr) (pins:List (Addr×Obj)) (s:YB) (σ:St) (H:Hp) (x y:V) (v u:V3) (Q:VK),Inv X pins σ H s→RelV x v→RelV y u→r x y H Q →
    subscripted slice false v u=operate [v,u] (getItem v u)→Y0 (model X.prog X.w) X.A (subscriptTail value slice v u) (EP X pins σ Q) X.xe s
noncomputable def CB (X:Cx) (id:String) (r:V→List V→Hp→VK→Prop):Prop:=
  ∀ (pins:List (Addr×Obj)) (s:YB) (σ:St) (H:Hp) (x:V) (xs:List V) (v:V3) (us:List V3) (Q:VK),Inv X pins σ H s→RelV x v→Vals xs us→r x xs H Q →
    Y0 (model X.prog X.w) X.A (call (.builtin id) (v::us)) (EP X pins σ Q) X.xe s
section
variable {X:Cx} {a b:Expr} {ta tb:TE} {pos:Pos}
theorem Gd.or {r r':R2} (h:Gd X r) (h':Gd X r'):Gd X (λx y H Q=>r x y H Q∨r' x y H Q):=by
  intro value slice pins s σ H x y v u Q I rx ry q hs
  rcases q with q | q
  · exact h value slice pins s σ H x y v u Q I rx ry q hs
  · exact h' value slice pins s σ H x y v u Q I rx ry q hs
theorem CB.or {id:String} {r r':V→List V→Hp→VK→Prop} (h:CB X id r) (h':CB X id r'):CB X id (λx xs H Q=>r x xs H Q∨r' x xs H Q):=by
  intro pins s σ H x xs v us Q I rx rs q
  rcases q with q | q
  · exact h pins s σ H x xs v us Q I rx rs q
  · exact h' pins s σ H x xs v us Q I rx rs q
theorem OE {r:R2} (hr:Gd X r) (ha:PE X a ta) (hb:PE X b tb) (hs:oM b):PE X (.Subscript a b pos) (Om r ta tb):=by
  intro pins s σ H Q I h
  exact Subscript_ (K4 ha hb I h λv u s2 x y H2 I2 rx ry q=>hr a b pins s2 σ H2 x y v u Q I2 rx ry q (hs _ _))
noncomputable def RM (K:Yz):R2:=λx y H Q=>∃ p xs i v,x=.ref p∧y=.int i∧lN K H p xs∧kB xs i=some v∧Q v H
noncomputable def RN (K:Yz):R2:=λx y H Q=>∃ p xs i v,x=.ref p∧y=.int i∧mQ K H p xs∧kB xs i=some v∧Q v H
noncomputable def RO:R2:=λx y H Q=>∃ z i c,x=.str z∧y=.int i∧z.length≤Yx∧kB z.cps.toList i=some c∧Q (.str ⟨#[c]⟩) H
theorem GN:Gd X (RM X.K):=by
  intro value slice pins s σ H x y v u Q I rx ry h hs
  obtain ⟨p,xs,i,z,rfl,rfl,hq,he,q⟩:=h
  cases rx
  obtain ⟨t,rfl⟩:=ry
  obtain ⟨its,r,pl,hz⟩:=I.list hq
  obtain ⟨j,h1,h2,h3,h4,h5⟩:=uo he
  obtain ⟨w,ew,rw'⟩:=r.get h2
  have hl:=r.length
  have hn:=mS
  have fin:EP X pins σ Q w s:=⟨z,H,I,rw',q⟩
  by_cases h0:0≤i
  · have hj:i.toNat=j:=by
      rw [seqIndex_of h0 h5] at h1
      exact Zd h1
    exact item_listR pl.isList h0 (by nofun) (by rw [hj];simpa using ew) fin hs
  · have hj:(i+(its.toArray.size:Int)).toNat=j:=by
      rw [seqIndex_neg (by nofun) h4] at h1
      rw [Y3,← hl]
      exact Zd h1
    exact subscriptTail_builtinR (x:=w) pl.isList.typeIs slot_list_getitem.lookup
      (wpAny_getItem_list_neg (Q:=λr s'=>r=w∧EP X pins σ Q r s') pl.isList (by nofun) (by rw [Y3]<;>nofun) (by nofun) (by rw [hj];simpa using ew) ⟨rfl,fin⟩) hs
theorem Ls:Gd X (RN X.K):=by
  intro value slice pins s σ H x y v u Q I rx ry h hs
  obtain ⟨p,xs,i,z,rfl,rfl,hq,he,q⟩:=h
  cases rx
  obtain ⟨t,rfl⟩:=ry
  obtain ⟨its,r,pl,hz⟩:=I.tuple hq
  obtain ⟨j,h1,h2,h3,h4,h5⟩:=uo he
  obtain ⟨w,ew,rw'⟩:=r.get h2
  have hl:=r.length
  have hn:=mS
  have fin:EP X pins σ Q w s:=⟨z,H,I,rw',q⟩
  exact subscriptTail_builtinR (x:=w) pl.typeIs slot_tuple_getitem.lookup
    (getItem_tuple (j:=j) (Q:=λr s'=>r=w∧EP X pins σ Q r s') pl (by nofun) (by nofun) (by rw [Y3,← hl];exact h1) (by simpa using ew) ⟨rfl,fin⟩) hs
theorem Lu:Gd X RO:=by
  intro value slice pins s σ H x y v u Q I rx ry h hs
  obtain ⟨z,i,c,rfl,rfl,hz,he,q⟩:=h
  obtain ⟨t,rfl⟩:=rx
  obtain ⟨t',rfl⟩:=ry
  obtain ⟨j,h1,h2,h3,h4,h5⟩:=uo he
  have hl:z.cps.toList.length=z.length:=by simp [Str.length]
  rw [hl] at h1 h4 h5
  have hn:=mS
  exact tail_any (typeIs_str s z t) slot_str_getitem.lookup (getItem_str (c:=c) (by
    have e1:decide (i < -(2^63:Int))=false:=decide_eq_false (by nofun)
    have e2:decide (i ≥ 2^63)=false:=decide_eq_false (by nofun)
    rw [e1,e2,Bool.or_false]) (by rw [h1];simpa using h2) ⟨.str ⟨#[c]⟩,H,I.tok _,⟨_,rfl⟩,q⟩) hs
theorem uq (lo hi:Option Int) (n:Nat):(sliceBounds lo hi none n).1=((HT.eW n 0 lo:Nat):Int)∧(sliceBounds lo hi none n).2.1=((HT.eW n n hi:Nat):Int)∧(sliceBounds lo hi none n).2.2=1:=by
  refine ⟨?_,?_,rfl⟩
  · cases lo with
    | none=>simp [sliceBounds,HT.eW]
    | some i=>
      simp only [sliceBounds,HT.eW,Option.getD_none,show (1:Int) > 0 by decide,if_true]
      by_cases h:i<0
      · simp only [h,if_true]<;>nofun
      · simp only [h,if_false]<;>nofun
  · cases hi with
    | none=>simp [sliceBounds,HT.eW]
    | some i=>
      simp only [sliceBounds,HT.eW,Option.getD_none,show (1:Int) > 0 by decide,if_true]
      by_cases h:i<0
      · simp only [h,if_true]<;>nofun
      · simp only [h,if_false]<;>nofun
theorem rV (its:List V3) (lo hi:Option Int):slicePick its.toArray lo hi none=((its.drop (HT.eW its.length 0 lo)).take (HT.eW its.length its.length hi - HT.eW its.length 0 lo)).toArray:=by
  obtain ⟨h1,h2,h3⟩:=uq lo hi its.toArray.size
  unfold slicePick
  rw [h1,h2,h3]
  simp only [sliceRange_one,pick_run,Y3]<;>rfl
noncomputable def RQ (K:Yz):V→Option Int→Option Int→Hp→VK→Prop:=λx lo hi H Q=>∃ a xs,x=.ref a∧lN K H a xs∧∀ p,H p=none→Q (.ref p) (upd H p (.lst (v9 xs lo hi)))
theorem GO:JT X (RQ X.K):=by
  intro pins s σ H x v vl vu lo hi sl Q I rx hs pl pu h
  obtain ⟨a,xs,rfl,hx,q⟩:=h
  cases rx
  obtain ⟨its,r,ht,hz⟩:=I.list hx
  have hlen:=r.length
  refine ⟨"list",_,slot_list_getitem.lookup,ht.isList.typeIs,?_⟩
  refine wpAny_getItem_list_slice ht.isList hs pl pu .none (by simp) ?_ (by rw [Y3]<;>nofun)
  rw [rV,← hlen]
  refine ⟨.ref s.heap.objs.size,_,I.laid (t':=s.toks) (o:=.lst (v9 xs lo hi)) (λb ob q=>YA _ q) (YE _) ?_,rfl,q _ (I.hok.fresh (YE _))⟩
  exact ⟨Zw (nQ xs lo hi) hz,_,0,(r.drop (HT.eW xs.length 0 lo)).take (HT.eW xs.length xs.length hi - HT.eW xs.length 0 lo),YM _ rfl⟩
theorem lV:eX X (.builtin "len") (λxs H Q=>∃ p ys,xs=[.ref p]∧(lN X.K H p ys∨mQ X.K H p ys)∧Q (.int ys.length) H):=by
  intro pins s σ H xs us Q I r h
  obtain ⟨p,ys,rfl,hq,q⟩:=h
  obtain ⟨u,rfl,rx⟩:=vals1 r
  cases rx
  have hn:=mS
  rcases hq with hq | hq
  · obtain ⟨its,r',pl,hz⟩:=I.list hq
    have hlen:=r'.length
    exact Calls.call_len_list pl.isList (by simp only [Y3]<;>nofun) ⟨.int ys.length,H,I.tok _,⟨s.toks+1,by rw [Y3,hlen]⟩,q⟩
  · obtain ⟨its,r',pl,hz⟩:=I.tuple hq
    have hlen:=r'.length
    exact len_tuple pl (by simp only [Y3]<;>nofun) ⟨.int ys.length,H,I.tok _,⟨s.toks+1,by rw [Y3,hlen]⟩,q⟩
theorem ur:eX X (.builtin "len") (λxs H Q=>∃ z,xs=[.str z]∧z.length≤Yx∧Q (.int z.length) H):=by
  intro pins s σ H xs us Q I r h
  obtain ⟨z,rfl,hz,q⟩:=h
  obtain ⟨u,rfl,t,rfl⟩:=vals1 r
  have hn:=mS
  exact len_str (by nofun) ⟨.int z.length,H,I.tok _,⟨_,rfl⟩,q⟩
theorem eX.or {r r':List V→Hp→VK→Prop} (h:eX X f r) (h':eX X f r'):eX X f (λxs H Q=>r xs H Q∨r' xs H Q):=by
  intro pins s σ H xs us Q I rs q
  rcases q with q | q
  · exact h pins s σ H xs us Q I rs q
  · exact h' pins s σ H xs us Q I rs q
theorem kU:eX X (.type "tuple") (λxs H Q=>∃ p ys,xs=[.ref p]∧((lN X.K H p ys∧∀ l,H l=none→Q (.ref l) (upd H l (.tup ys)))∨(mQ X.K H p ys∧Q (.ref p) H))):=by
  intro pins s σ H xs us Q I r h
  obtain ⟨p,ys,rfl,h⟩:=h
  obtain ⟨u,rfl,rx⟩:=vals1 r
  cases rx
  rcases h with ⟨hq,q⟩ | ⟨hq,q⟩
  · obtain ⟨its,r',pl,hz⟩:=I.list hq
    have hlen:=r'.length
    refine call_tuple_list pl.isList (λh' kp=>?_) (by simp only [Y3]<;>nofun)
    have I1:Inv X pins σ H {s with heap:=h'}:=I.kept (t':=s.toks) kp
    have I2:Inv X pins σ (upd H h'.objs.size (.tup ys)) {s with heap:=h'.push {cls:=.type "tuple",data:=.seq its.toArray}}:=
      I1.laid (t':=s.toks) (λb o e=>YA _ e) (YE _) (show dm X.prog X.w _ _ _ (.tup ys) from ⟨hz,its,r',adB _ _⟩)
    exact ⟨.ref h'.objs.size,_,I2,rfl,q _ (I1.hok.fresh (YE _))⟩
  · obtain ⟨its,r',pl,hz⟩:=I.tuple hq
    exact call_tuple_same pl ⟨.ref p,H,I,rfl,q⟩
noncomputable def QX (K:Yz) (T:String) (x:V) (H:Hp):Prop:=match x with
  | .str _=>T="str"
  | .int _=>T="int"
  | .ref p=>(T="list"∧∃ xs,lN K H p xs)∨(T="tuple"∧∃ o,K.lookup p=some o∧o.cls=.type "tuple"∧o.dict=none) ∨
      (T="dict"∧((∃ kvs,H p=some (.dK kvs))∨∃ kvs,H p=some (.dT kvs)))∨(T="set"∧∃ S n,H p=some (.set S n))
  | _=>False
theorem CW {σ:St} {H:Hp} {T:String} {x:V} (I:Inv X pins σ H s) (r:RelV x v) (ty:QX X.K T x H) :
    s.TypeIs v T∧∀ a,v=.ref a→∃ ob,s.heap.get? a=some ob∧ob.dict=none:=by
  cases x with
  | str z=>
    obtain ⟨t,rfl⟩:=r
    cases (show T="str" from ty)
    exact ⟨typeIs_str s z t,λ_ e=>nomatch e⟩
  | int i=>
    obtain ⟨t,rfl⟩:=r
    cases (show T="int" from ty)
    exact ⟨typeIs_int s i t,λ_ e=>nomatch e⟩
  | ref p=>
    cases r
    rcases ty with ⟨rfl,xs,hq⟩ | ⟨rfl,o,hk,hc,hd⟩ | ⟨rfl,hk⟩ | ⟨rfl,S,n,hk⟩
    · obtain ⟨its,_,pl,_⟩:=I.list hq
      refine ⟨pl.isList.typeIs,λa e=>?_⟩
      cases e
      obtain ⟨o,n,e,c,hd,_⟩:=pl
      exact ⟨o,e,hd⟩
    · refine ⟨⟨o,I.yr p o hk,hc⟩,λa e=>?_⟩
      cases e
      exact ⟨o,I.yr _ o hk,hd⟩
    · have z:∃ o,s.heap.get? p=some o∧o.ExactDict:=by
        rcases hk with ⟨kvs,hk⟩ | ⟨kvs,hk⟩
        · obtain ⟨_,_,_,_,o,_,_,e,ex,_⟩:=I.hok p _ hk
          exact ⟨o,e,ex⟩
        · obtain ⟨_,_,_,_,o,_,_,e,ex,_⟩:=I.hok p _ hk
          exact ⟨o,e,ex⟩
      obtain ⟨o,e,ex⟩:=z
      refine ⟨⟨o,e,ex.1⟩,λa e2=>?_⟩
      cases e2
      exact ⟨o,e,ex.2.1⟩
    · obtain ⟨o,_,_,_,e,ex,_⟩:=I.hok p _ hk
      refine ⟨⟨o,e,ex.1⟩,λa e2=>?_⟩
      cases e2
      exact ⟨o,e,ex.2.1⟩
  | _=>exact ZA ty
noncomputable def RS (K:Yz) (T:String) (r:V→List V→Hp→VK→Prop) (to:TE):TE:=λσ H Q=>to σ H λx H1=>QX K T x H1∧r x [] H1 Q
noncomputable def U8 (K:Yz) (T:String) (r:V→List V→Hp→VK→Prop) (to:TE) (t:TA):TE:=λσ H Q=>to σ H λx H1=>QX K T x H1∧t σ H1 λxs H2=>r x xs H2 Q
variable {o e:Expr} {es:List Expr} {to:TE} {t:TA} {name:Str} {apos cpos:Pos} {T id:String} {r:V→List V→Hp→VK→Prop}
theorem Lv (pa:PlainAttrs T) (slot:Slot T name id) (hty:typeOf (.builtin id)=pure (.type "method_descriptor")) (hm:CB X id r) (ho:PE X o to)
    (hbase:attributeBase o name X.env (eval o X.env)=eval o X.env:=by rfl) (hline:(apos.endLine==cpos.line)=true:=by rfl):PE X (.Call (.Attribute o name apos) [] [] cpos) (RS X.K T r to):=by
  intro pins s σ H Q I h
  refine wpAny_Call_method0_late hbase hline (dh (ho pins s σ H _ I h) λv s1 zz=>?_)
  obtain ⟨x,H1,I1,r1,ty,q1⟩:=zz
  obtain ⟨h1,h2⟩:=CW I1 r1 ty
  exact ⟨T,id,pa,slot,hty,h1,h2,abi rfl (PySem.evalArgs_none (hm pins s1 σ H1 x [] v [] Q I1 r1 .nil q1))⟩
theorem OF (pa:PlainAttrs T) (slot:Slot T name id) (hty:typeOf (.builtin id)=pure (.type "method_descriptor")) (hm:CB X id r) (ho:PE X o to) (ha:PA X (e::es) t)
    (hbase:attributeBase o name X.env (eval o X.env)=eval o X.env:=by rfl)
    (hfew:((backTo cpos (YZ (e::es) X.env)).all (λx=>!x.1)&&(backToKw cpos (keywordEach [] X.env)).all (λx=>x.1.isSome)
      && decide ((e::es).length+([]:List Keyword).length+(if ([]:List Keyword).isEmpty then 0 else 1)<30))=true:=by rfl)
    (hline:(apos.endLine==cpos.line)=true:=by rfl) (hs:YZ (e::es) X.env=(false,eval e X.env)::YZ es X.env:=by rfl) (hplain:(backTo cpos (YZ es X.env)).any (·.1)=false:=by rfl) :
    PE X (.Call (.Attribute o name apos) (e::es) [] cpos) (U8 X.K T r to t):=by
  intro pins s σ H Q I h
  refine wpAny_Call_method_late hbase hfew hline rfl (dh (ho pins s σ H _ I h) λv s1 zz=>?_)
  obtain ⟨x,H1,I1,r1,ty,q1⟩:=zz
  obtain ⟨h1,h2⟩:=CW I1 r1 ty
  refine ⟨T,id,pa,slot,hty,h1,h2,?_⟩
  have hA:=ha cpos pins s1 σ H1 _ I1 q1
  rw [hs] at hA ⊢
  refine abi (by show (false||(backTo cpos (YZ es X.env)).any (·.1))=false;rw [hplain]<;>rfl) (acT ?_)
  exact dh hA λus s2 zz=>by obtain ⟨vs,H2,I2,r2,q2⟩:=zz;exact hm pins s2 σ H2 x vs v us Q I2 r1 r2 q2
end
noncomputable def TZ (X:Cx) (id:String) (r:V→List V→Hp→VK→Prop):Prop:=
  ∀ (pins:List (Addr×Obj)) (s:YB) (σ:St) (H:Hp) (x:V) (xs:List V) (v:V3) (us:List V3) (Q:VK),Inv X pins σ H s→RelV x v→Vals xs us→r x xs H Q →
    Y0 (model X.prog X.w) X.A (call (.builtin id) (v::us)) (EP X pins σ Q) X.xe s
theorem Vals.one:∀ {x:V} {us:List V3},Vals [x] us→∃ u,us=[u]∧RelV x u
  | _,_,.cons r .nil=>⟨_,rfl,r⟩
theorem Vals.zero:∀ {us:List V3},Vals [] us→us=[]
  | _,.nil=>rfl
theorem Vals.dropLast (h:Vals xs us):Vals xs.dropLast us.dropLast:=by
  induction h with
  | nil=>exact .nil
  | cons r t ih=>
    cases t with
    | nil=>exact .nil
    | cons q t'=>exact .cons r ih
theorem Vals.eraseIdx:∀ {xs:List V} {us:List V3} (i:Nat),Vals xs us→Vals (xs.eraseIdx i) (us.eraseIdx i)
  | _,_,_,.nil=>.nil
  | _,_,0,.cons _ t=>t
  | _,_,i+1,.cons r t=>.cons r (Vals.eraseIdx i t)
theorem Vals.reverse (h:Vals xs us):Vals xs.reverse us.reverse:=by
  induction h with
  | nil=>exact .nil
  | cons r t ih=>rw [ZH,ZH];exact Vals.append ih (.cons r .nil)
theorem yI (l:List α):l.eraseIdx (l.length - 1)=l.dropLast:=by
  induction l with
  | nil=>rfl
  | cons a r ih=>
    cases r with
    | nil=>rfl
    | cons b r=>
      have e:(a::b::r).length - 1=((b::r).length - 1)+1:=by
        have h1:(a::b::r).length=r.length+2:=rfl
        have h2:(b::r).length=r.length+1:=rfl
        nofun
      rw [e,List.eraseIdx_cons_succ,ih]
      all_goals rfl
section
variable {X:Cx} {pins:List (Addr×Obj)} {σ:St} {H:Hp} {s:YB} {l b:Addr} {xs ys zs:List V}
theorem Inv.Lw {its its':List V3} {n:Nat} {f:Array V3→Array V3} {t':Nat} (I:Inv X pins σ H s) (hH:H l=some (.lst xs))
    (e:s.heap.get? l=some {cls:=.type "list",data:=.seq its.toArray n}) (hf:f its.toArray=its'.toArray) (hv:Vals ys its') (hz:ys.length≤Yx) (ht:0<t':=by first | exact Zp _ | exact (Inv.os (by assumption)).2 | assumption | nofun) :
    Inv X pins σ (upd H l (.lst ys)) {s with heap:=s.heap.update l (ab0 f),toks:=t'}:=by
  have q:=PySem.IsL.update e f
  rw [hf] at q
  refine I.write (x:=l) (e:=l) (by rw [hH];exact trivial) (.inl rfl) (λb' u hb hu=>(ZR s.heap (ab0 f) (Z2 hb)).trans hu) ⟨_,q⟩ ?_
  exact ⟨hz,its',_,hv,q⟩
theorem Inv.RT (I:Inv X pins σ H s) (hv:Vals ys its) (hz:ys.length≤Yx) (ht:0<t':=by first | exact Zp _ | exact (Inv.os (by assumption)).2 | assumption | nofun) :
    Inv X pins σ (upd H s.heap.objs.size (.lst ys)) {s with heap:=s.heap.push {cls:=.type "list",data:=.seq its.toArray},toks:=t'}:=
  I.laid (λ_ _ q=>YA _ q) (YE _) ⟨hz,its,0,hv,YM _ rfl⟩
theorem Inv.fresh (I:Inv X pins σ H s):H s.heap.objs.size=none:=I.hok.fresh (YE _)
theorem Inv.Lx (I:Inv X pins σ H s) (hH:H l=some (.lst xs)):xs.length≤Yx∧∃ (its:List V3) (n:Nat),Vals xs its∧xs.length=its.length∧s.heap.get? l=some {cls:=.type "list",data:=.seq its.toArray n}:=by
  obtain ⟨z,its,n,r,e⟩:=I.hok l _ hH
  exact ⟨z,its,n,r,r.length,e⟩
theorem CY (h:n≤Yx):aaC n=false:=by
  unfold aaC
  exact decide_eq_false (by nofun)
end
section
variable {X:Cx}
noncomputable def GP:V→List V→Hp→VK→Prop:=λx vs H Q=>∃ l xs y,x=.ref l∧vs=[y]∧H l=some (.lst xs)∧xs.length<Yx∧Q .dP (upd H l (.lst (xs++[y])))
theorem sJ:TZ X "list.append" GP:=by
  intro pins s σ H x vs v us Q I rx rv h
  obtain ⟨l,xs,y,rfl,rfl,hH,hz,q⟩:=h
  cases rx
  obtain ⟨u,rfl,ru⟩:=rv.one
  obtain ⟨z,its,n,r,hl,e⟩:=I.Lx hH
  refine call_meets F.slot_list_append ⟨_,e,rfl⟩ F.entry_list_append (F.args_list_append_2 _ _) (PySem.list_append l its.toArray n u (by rw [Y3];nofun)) ⟨e,?_⟩
  refine ⟨.dP,_,I.Lw (its':=its++[u]) hH e (by simp) (r.append (.cons ru .nil)) ?_,rfl,q⟩
  rw [YO,ZI]
  nofun
noncomputable def RU:V→List V→Hp→VK→Prop:=λx vs H Q=>∃ l xs y,x=.ref l∧vs=[]∧H l=some (.lst xs)∧xs[xs.length - 1]?=some y∧Q y (upd H l (.lst xs.dropLast))
theorem Ly:TZ X "list.pop" RU:=by
  intro pins s σ H x vs v us Q I rx rv h
  obtain ⟨l,xs,y,rfl,rfl,hH,hy,q⟩:=h
  cases rx
  have oO:=rv.zero
  subst oO
  obtain ⟨z,its,n,r,hl,e⟩:=I.Lx hH
  obtain ⟨u,hu,ru⟩:=r.get hy
  have hy':its.toArray[its.toArray.size - 1]?=some u:=by
    show its.toArray[its.length - 1]?=some u
    rw [← Array.getElem?_toList,← hl]
    exact hu
  refine call_meets F.slot_list_pop ⟨_,e,rfl⟩ F.entry_list_pop (F.args_list_pop_1 _) (MeetsSeq.list_pop_last l its.toArray n u hy' (by rw [Y3];nofun)) ⟨e,?_⟩
  refine ⟨y,_,I.Lw (its':=its.dropLast) hH e ?_ r.dropLast ?_,ru,q⟩
  · show its.toArray.eraseIdxIfInBounds (its.toArray.size - 1)=its.dropLast.toArray
    rw [Y3,List.eraseIdxIfInBounds_toArray,yI]
  · rw [List.length_dropLast]
    nofun
end
end L2
namespace T3
open PySem PySem.W PySem.Calls PyProof.Rows
theorem oz {P:Params} {h:Heap}:∀ (ns:List Int) (vs:List V3),WellAll P h vs (ns.map WData.int)→IntsAre vs ns:=by
  intro ns
  induction ns with
  | nil=>
    intro vs w
    rw [YY] at w
    cases w
    exact .nil
  | cons n ns ih=>
    intro vs w
    rw [Yv] at w
    cases w with
    | cons a b=>
      cases a
      exact .cons _ _ (ih _ b)
theorem Ba {l:OpenLaw} {n:Nat} (hn:l.most=some n) {P:Params} {h:Heap} {args:List WData} {vals:List V3}
    (hpre:l.row.toRowW.claim.pre args=true) (hwl:WellAll P h vals args) :
    ∃ a vs ns,vals=[Value.ref a]∧args=[WData.list (ns.map WData.int)]∧h.get? a=some {cls:=.type "list",data:=.seq vs.toArray}∧IntsAre vs ns∧ns.length≤n:=by
  have hsh:WShape.hasAll [] args [.list .int]=true:=(pre_splitW hpre).1
  have hc:l.pre.holds [] {args:=args}=true:=(pre_splitW hpre).2
  obtain ⟨d,r,rfl,h1,h2⟩:=hasAllW_cons hsh
  obtain rfl:=hasAllW_nil h2
  obtain ⟨xs,rfl,h3⟩:=hasW_list h1
  obtain ⟨ns,rfl⟩:=items_int h3
  have hlen:ns.length≤n:=by
    unfold OpenLaw.pre at hc
    have h4:(WTm.not (.lt (.lit (.int (n:Int))) (.len (.arg 0)))).holds [] {args:=[.list (ns.map .int)]}=true:=by
      have h4:=(holds_andW hc).1
      rw [hn] at h4
      exact h4
    have h5:=condW_of h4 (w_not (w_lt w_lit (w_len_list (w_arg rfl))))
    rw [YL] at h5
    refine adC λq=>?_
    have q':(n:Int)<((ns.length:Nat):Int):=by nofun
    first
      | (rw [decide_eq_true q'] at h5;exact absurd h5 (by decide))
      | (simp at h5;nofun)
  cases hwl with
  | cons w1 w2=>
    cases w2
    cases w1 with
    | list ho hall=>exact ⟨_,_,ns,rfl,rfl,ho,oz ns _ hall,hlen⟩
theorem Bb (l:OpenLaw) (args:List WData):l.row.toRowW.claim.post args (.bool true) args=true:=
  postW_of (r:=l.row.toRowW) (X:=(true==true))
    (show WShape.has [] (.bool true) .bool=true by first | rfl | decide | simp [WShape.has,WShape.arms,WShape.armsAll])
    (show (WTm.eq .res (.lit (.bool true))).value [] {args:=args,res:=some (.bool true),after:=args}=some (.bool (true==true)) from w_eq_bool (w_res rfl) w_lit) rfl
theorem wc {l:OpenLaw} {n:Nat} {q:Zg} {loose:List Str} {XP:(Str→Option V3)→Heap→Prop} {YP:Zs→Heap→Prop} {d:DefRec}
    (hn:l.most=some n) (hdf:d.params.defaults=[])
    (call:∀ (w:Zs) (s₀ s₁:YB) (mg mb:Str→Option V3) (fa:Addr) (o:Obj) (pm cd doc:V3) (a:Addr) (vs:List V3) (ns:List Int),
      Ground q loose [] XP w s₀ mg mb s₁.heap→YP w s₁.heap →
      s₁.heap.get? fa=some o→o.data=.func (docDef d.name d.params d.body d.scope pm cd doc)→s₁.heap.CodeRec cd d.name→mg d.name=some (.ref fa) →
      s₁.heap.get? a=some {cls:=.type "list",data:=.seq vs.toArray}→IntsAre vs ns→ns.length≤n→s₁.gens=#[] →
      codeAny (model l.prog w) callerA (.call (.ref fa) ⟨[.ref a],[]⟩) (λr s'=>r=.ok (.ret (.bool true))∧OldK s₁.heap s'.heap∧s'.os=s₁.os∧AllBare s'.gens) s₁) :
    WalkO q loose XP YP l.row.toRowW d [] (λf vs=>adZ f vs):=by
  intro w s₀ s₁ mg mb G Y fa o pm cd doc dV kV ho hd hcd hD hmg hg args vals as hpre hlay hrd hwl hlo
  obtain rfl:dV=.none:=Dflts.none hD hdf
  obtain rfl:kV=.none:=Dflts.noKw hD
  obtain ⟨a,vs,ns,rfl,rfl,hobj,hints,hlen⟩:=Ba hn hpre hwl
  refine enter_call (codeAny_mono (call w s₀ s₁ mg mb fa o pm cd doc a vs ns G Y ho (fd_plain hd) hcd hmg hobj hints hlen hg) λr s' hq=>?_)
  obtain ⟨rfl,h2,h3,h4⟩:=hq
  exact ⟨.inl ⟨.bool true,.bool true,[],rfl,λ_=>rfl,.bool true,Bb l _,λ_=>⟨List.Pairwise.nil,λ_ hm=>(nomatch hm)⟩⟩,h2,h3,h4⟩
end T3
namespace L2
open PySem PySem.Spec PyProof.Rows
variable {kvs:List (List Key×V)} {xs:List (List Key×Addr×V3)} {H H':Hp} {P:Zg} {pins:List (Addr×Obj)} {w:Zs} {o:Option V} {X:Cx} {GR:List (TE×TE)} {u:Option V3} {pos:Pos} {a f b:Addr} {s:YB} {osl:Array (Option V3)} {ks:List (Option Expr)} {qual x:Str} {vs:List (Key×V3)} {h':Heap} {σ:St} {od an:Option Addr} {values:List Expr} {ps:List Str} {fd:FuncData} {pm oc doc d' ct cdv:V3} {v:Expr} {t':Nat}
theorem sL:∀ {vs:List V3} {ns:List Int},IntsAre vs ns→Vals (ns.map V.int) vs
  | _,_,.nil=>.nil
  | _,_,.cons n t h=>.cons ⟨t,rfl⟩ (sL h)
noncomputable def jl (s:Stmt):Arguments:=match s with
  | .FunctionDef _ a _ _ _ _ _ _ _ _=>a
  | _=>{posonlyargs:=[],args:=[],vararg:=none,kwonlyargs:=[],kw_defaults:=[],kwarg:=none,defaults:=[]}
noncomputable def cQ (s:Stmt):List Stmt:=match s with
  | .FunctionDef _ _ b _ _ _ _ _ _ _=>b
  | _=>[]
noncomputable def aF (s:Stmt):Scope:=match s with
  | .FunctionDef _ _ _ _ _ _ sc _ _ _=>sc
  | _=>{kind:=.function,names:=[],isGenerator:=false,isCoroutine:=false}
structure CZ (K:Yz) (x qual:Str) (st:Stmt) (f:Addr) (fd:FuncData):Prop where
  ex:∃ (oc:V3) (od:Option Addr) (kV doc pm:V3) (an:Option Addr) (cdv ct:V3) (osl:Array (Option V3)),
    fd=aaw x qual (jl st) (cQ st) (aF st) .none kV doc pm an cdv ct∧K.lookup f=some ⟨oc,od,.func fd,osl⟩∧abg K cdv qual=true
  kp:Zu K (.ref f)=true
section
variable {P:Zg} {w:Zs} {K:Yz} {mg:Str→Option V3} {base:Heap}
theorem CZ.binds {st:Stmt} (F:CZ K x qual st f fd)
    (h:∀ (kV doc pm:V3) (an:Option Addr) (cdv ct:V3) (us:List V3),us.length=ps.length→bindArgs (aaw x qual (jl st) (cQ st) (aF st) .none kV doc pm an cdv ct) ⟨us,[]⟩=pure (ps.zip us)):Binds K fd ps []:=by
  obtain ⟨oc,od,kV,doc,pm,an,cdv,ct,osl,rfl,lk,hcd⟩:=F.ex
  exact .all (h kV doc pm an cdv ct)
theorem Lz {st:Stmt} {kV:V3} (l:K.lookup f=some ⟨oc,od,.func (aaw x qual (jl st) (cQ st) (aF st) .none kV doc pm an cdv ct),osl⟩)
    (c:abg K cdv qual=true) (k:Zu K (.ref f)=true):CZ K x qual st f (aaw x qual (jl st) (cQ st) (aF st) .none kV doc pm an cdv ct):=⟨⟨oc,od,kV,doc,pm,an,cdv,ct,osl,rfl,l,c⟩,k⟩
end
noncomputable def OG (H H':Hp):Prop:=∀ b o,H b=some o→H' b=some o
theorem OG.free (e:OG H H') {l:Addr} (h:H' l=Option.none):H l=Option.none:=by
  cases q:H l with
  | none=>rfl
  | some o=>
    rw [e l o q] at h
    cases h
section
variable {κ:Type} [DecidableEq κ]
noncomputable def kQ (kvs:List (κ×V)) (k:κ):Option V:=(kvs.find? λkv=>decide (kv.1=k)).map (·.2)
noncomputable def putK (kvs:List (κ×V)) (k:κ) (v:V):List (κ×V):=
  if (kvs.any λkv=>decide (kv.1=k))=true then kvs.map (λkv=>if kv.1=k then (kv.1,v) else kv) else kvs++[(k,v)]
theorem pJ {p:κ×V} {r:List (κ×V)} {k:κ} (e:p.1=k):kQ (p::r) k=some p.2:=by simp [kQ,aaa,e]
theorem lW {p:κ×V} {r:List (κ×V)} {k:κ} (e:¬ p.1=k):kQ (p::r) k=kQ r k:=by simp [kQ,aaa,e]
theorem we (k:κ):∀ kvs:List (κ×V),(kvs.any λkv=>decide (kv.1=k))=(kQ kvs k).isSome
  | []=>rfl
  | p::r=>by
    rw [acf]
    by_cases e:p.1=k
    · simp only [pJ e,decide_eq_true e,ado,Option.isSome_some]
    · rw [lW e,decide_eq_false e,Bool.false_or];exact we k r
theorem jW (kvs:List (κ×V)) (k:κ) (v:V):(putK kvs k v).length≤kvs.length+1:=by
  unfold putK
  split
  · rw [YL];nofun
  · rw [YO,Yy,YR];nofun
theorem om.Bc (r:om o u):o.isSome=u.isSome:=by
  cases o with
  | none=>cases u with
    | none=>rfl
    | some _=>exact (show False from r).elim
  | some _=>cases u with
    | none=>exact (show False from r).elim
    | some _=>rfl
theorem om.getD {d:V} (r:om o u) (rd:RelV d d'):RelV (o.getD d) (u.getD d'):=by
  cases o with
  | none=>cases u with
    | none=>exact rd
    | some _=>exact (show False from r).elim
  | some _=>cases u with
    | none=>exact (show False from r).elim
    | some _=>exact r
theorem KV.val {kvs:List (κ×V)} {vs:List (κ×V3)} (r:KV kvs vs) (k:κ):om (kQ kvs k) (valueAt vs k):=by
  unfold KV at r
  induction r with
  | nil=>exact aaB
  | @cons p q ps qs h t ih=>
    obtain ⟨h1,h2⟩:=h
    by_cases e:p.1=k
    · have e':q.1=k:=h1.symm.trans e
      have b:valueAt (q::qs) k=some q.2:=by simp [valueAt,aaa,e']
      rw [pJ e,b];exact h2
    · have e':¬ q.1=k:=λz=>e (h1.trans z)
      have b:valueAt (q::qs) k=valueAt qs k:=by simp [valueAt,aaa,e']
      rw [lW e,b];exact ih
theorem KV.any {kvs:List (κ×V)} {vs:List (κ×V3)} (r:KV kvs vs) (k:κ):(kvs.any λkv=>decide (kv.1=k))=vs.any λkv=>decide (kv.1=k):=by
  unfold KV at r
  induction r with
  | nil=>rfl
  | cons h t ih=>rw [acf,acf,ih,h.1]
theorem KV.repl {kvs:List (κ×V)} {vs:List (κ×V3)} (r:KV kvs vs) (k:κ) {y:V} {u:V3} (ry:RelV y u) :
    KV (kvs.map λkv=>if kv.1=k then (kv.1,y) else kv) (vs.map λkv=>if kv.1=k then (kv.1,u) else kv):=by
  unfold KV at r ⊢
  induction r with
  | nil=>exact .nil
  | @cons p q ps qs h t ih=>
    rw [Yv,Yv]
    refine .cons ?_ ih
    obtain ⟨h1,h2⟩:=h
    by_cases e:p.1=k
    · rw [if_pos e,if_pos (h1.symm.trans e)];exact ⟨h1,ry⟩
    · rw [if_neg e,if_neg (λz=>e (h1.trans z))];exact ⟨h1,h2⟩
theorem KV.put {kvs:List (κ×V)} {vs:List (κ×V3)} (r:KV kvs vs) (k:κ) {y:V} {u:V3} (ry:RelV y u):KV (putK kvs k y) (stored vs k u):=by
  unfold putK stored
  rw [r.any k]
  by_cases e:(vs.any λkv=>decide (kv.1=k))=true
  · rw [if_pos e,if_pos e];exact r.repl k ry
  · rw [if_neg e,if_neg e];exact Paired.snoc r ⟨rfl,ry⟩
theorem KV.keys {kvs:List (κ×V)} {vs:List (κ×V3)} (r:KV kvs vs):kvs.map (·.1)=vs.map (·.1):=by
  unfold KV at r
  induction r with
  | nil=>rfl
  | cons h t ih=>rw [Yv,Yv,ih,h.1]
theorem KV.length {kvs:List (κ×V)} {vs:List (κ×V3)} (r:KV kvs vs):kvs.length=vs.length:=aa5 r
end
theorem wg {k:Key} {u:V3} (r:RelV (kV k) u):(bK P w).is k u=true:=by
  cases k with
  | inl i=>obtain ⟨t,e⟩:=(show ∃ t,u=Value.int i t from r);subst e;exact vW P w i t
  | inr x=>obtain ⟨t,e⟩:=(show ∃ t,u=Value.str x t from r);subst e;exact vX P w x t
theorem sM {P:Zg} {w:Zs}:∀ {ks:List Key} {us:List V3},Vals (ks.map kV) us→ItemsAre (bK P w) ks us
  | [],_,r=>by rw [YY] at r;cases r;exact .nil
  | k::ks,_,r=>by
    rw [Yv] at r
    cases r with
    | cons h t=>exact .cons (wg h) (sM t)
noncomputable abbrev KT (H:Hp):List (List Key×V)→List (List Key×Addr×V3)→Prop:=Paired λp q=>p.1=q.1∧H q.2.1=some (.tup (p.1.map kV))∧RelV p.2 q.2.2
theorem KT.val (r:KT H kvs xs) (k:List Key):om (kQ kvs k) ((atKey xs k).map (·.2)):=by
  induction r with
  | nil=>exact aaB
  | @cons p q ps qs h t ih=>
    obtain ⟨h1,_,h2⟩:=h
    by_cases e:p.1=k
    · have e':q.1=k:=h1.symm.trans e
      have b:atKey (q::qs) k=some q.2:=by simp [atKey,aaa,e']
      rw [pJ e,b];exact h2
    · have e':¬ q.1=k:=λz=>e (h1.trans z)
      have b:atKey (q::qs) k=atKey qs k:=by simp [atKey,aaa,e']
      rw [lW e,b];exact ih
theorem KT.repl (r:KT H kvs xs) (k:List Key) {y:V} {u:V3} (ry:RelV y u) :
    KT H (kvs.map λkv=>if kv.1=k then (kv.1,y) else kv) (xs.map (putAt k u)):=by
  induction r with
  | nil=>exact .nil
  | @cons p q ps qs h t ih=>
    rw [Yv,Yv]
    refine .cons ?_ ih
    obtain ⟨h1,h2,h3⟩:=h
    unfold putAt
    by_cases e:p.1=k
    · rw [if_pos e,if_pos (h1.symm.trans e)];exact ⟨h1,h2,ry⟩
    · rw [if_neg e,if_neg (λz=>e (h1.trans z))];exact ⟨h1,h2,h3⟩
theorem KT.put (r:KT H kvs xs) (k:List Key) {b:Addr} {y:V} {u:V3} (hb:H b=some (.tup (k.map kV))) (ry:RelV y u) :
    KT H (putK kvs k y) (storedH xs k b u):=by
  have e:(kvs.any λkv=>decide (kv.1=k))=(atKey xs k).isSome:=by
    rw [we,(r.val k).Bc,Option.isSome_map]
  unfold putK storedH
  rw [e]
  by_cases q:(atKey xs k).isSome=true
  · rw [if_pos q,if_pos q];exact r.repl k ry
  · rw [if_neg q,if_neg q];exact Paired.snoc r ⟨rfl,hb,ry⟩
theorem KT.keeps (r:KT H kvs xs) (ht:∀ b ys,H b=some (.tup ys)→H' b=some (.tup ys)):KT H' kvs xs:=
  Paired.KJ r λ_ _ z=>⟨z.1,ht _ _ z.2.1,z.2.2⟩
section
variable {P:Zg} {w:Zs} {H:Hp} {h:Heap} {a:Addr}
theorem JU {u:HO} (ok:ji P w H h) (e:Rd H a u):dm P w H h a u:=e.ok ok
theorem sN {kvs:List (Key×V)} (ok:ji P w H h) (e:Rd H a (.dK kvs)):kvs.length≤Yx∧(a==sysModules)=false∧∃ vs,KV kvs vs∧h.DictOf (bK P w) a vs:=
  show dm P w H h a (.dK kvs) from JU ok e
theorem C0 {kvs:List (Key×V)} (ok:ji P w H h) (e:H a=some (.dK kvs)):kvs.length≤Yx∧(a==sysModules)=false∧∃ vs,KV kvs vs∧h.DictOf (bK P w) a vs:=sN ok (.inl e)
theorem uu {ks:List Key} (ok:ji P w H h) (e:H a=some (.tup (ks.map kV))):(tupleKind (bK P w)).is h ks a:=by
  obtain ⟨_,its,r,o,h1,h2,n,h3⟩:=(show dm P w H h a (.tup (ks.map kV)) from ok a _ e)
  exact ⟨o,its.toArray,n,h1,h2,h3,by simpa using sM r⟩
theorem wj (ok:ji P w H h) (e:Rd H a (.dT kvs)):kvs.length≤Yx∧(a==sysModules)=false ∧
    ∃ xs,KT H kvs xs∧h.DictOfH (tupleKind (bK P w)) a xs:=by
  obtain ⟨z,y,xs,r,o,es,ep,h1,h2,h3,h4,h5⟩:=(show dm P w H h a (.dT kvs) from JU ok e)
  refine ⟨z,y,xs,r,o,es,ep,h1,h2,h3,h4,λx hx=>?_,h5⟩
  have all:∀ {l:List (List Key×V)} {m:List (List Key×Addr×V3)},KT H l m→∀ x∈m,(tupleKind (bK P w)).is h x.1 x.2.1:=by
    intro l m q
    induction q with
    | nil=>intro x hx;exact nomatch hx
    | @cons p q ps qs hq t ih=>
      intro x hx
      rcases Y6.mp hx with e | hx
      · subst e
        exact uu ok (by rw [← hq.1];exact hq.2.1)
      · exact ih x hx
  exact all r x hx
theorem OH (ok:ji P w H h) (e:H a=some (.dT kvs)):kvs.length≤Yx∧(a==sysModules)=false ∧
    ∃ xs,KT H kvs xs∧h.DictOfH (tupleKind (bK P w)) a xs:=wj ok (.inl e)
end
noncomputable def wk (H:Hp) (a:Addr) (y:V) (r:Option V):Prop:=
  (∃ kvs k,Rd H a (.dK kvs)∧y=kV k∧r=kQ kvs k)∨∃ kvs k b,Rd H a (.dT kvs)∧y=.ref b∧H b=some (.tup (k.map kV))∧r=kQ kvs k
noncomputable def uv (H:Hp) (a:Addr) (y v:V) (H':Hp):Prop:=
  (∃ kvs k,H a=some (.dK kvs)∧y=kV k∧kvs.length<Yx∧H'=upd H a (.dK (putK kvs k v))) ∨
  ∃ kvs k b,H a=some (.dT kvs)∧y=.ref b∧H b=some (.tup (k.map kV))∧kvs.length<Yx∧H'=upd H a (.dT (putK kvs k v))
theorem wk.k {H:Hp} {a:Addr} {kvs:List (Key×V)} {k:Key} (e:H a=some (.dK kvs)):wk H a (kV k) (kQ kvs k):=.inl ⟨kvs,k,.inl e,rfl,rfl⟩
theorem uv.k {H:Hp} {a:Addr} {kvs:List (Key×V)} {k:Key} {v:V} (e:H a=some (.dK kvs)) (hl:kvs.length<Yx):uv H a (kV k) v (upd H a (.dK (putK kvs k v))):=.inl ⟨kvs,k,e,rfl,hl,rfl⟩
theorem uv.t {k:List Key} {v:V} (e:H a=some (.dT kvs)) (eb:H b=some (.tup (k.map kV))) (hl:kvs.length<Yx) :
    uv H a (.ref b) v (upd H a (.dT (putK kvs k v))):=.inr ⟨kvs,k,b,e,rfl,eb,hl,rfl⟩
section
variable {X:Cx} {pins:List (Addr×Obj)} {σ:St} {H:Hp} {s:YB} {a:Addr} {y v:V} {u r:V3} {o:Option V} {A:Around} {E:V3→YB→Prop}
theorem Inv.big (I:Inv X pins σ H s):sysModules<s.heap.objs.size:=by
  have h:mainGlobals<s.heap.objs.size:=(I.mod.glob.keeps I.bk).lt
  exact Nat.lt_trans (by decide) h
theorem Bd {Q:V3→YB→Prop} (hu:A.units+1<cLine) (I:Inv X pins σ H s) (g:wk H a y (some v)) (ry:RelV y u) (h:∀ w' s',Inv X pins σ H s'→RelV v w'→Q w' s') :
    Y0 (model X.prog X.w) A (getItem (.ref a) u) Q E s:=by
  rcases g with ⟨kvs,k,e,ey,l⟩ | ⟨kvs,k,b,e,ey,eb,l⟩
  · subst ey
    obtain ⟨z,hd,vs,rel,dd⟩:=sN I.hok e
    obtain ⟨w',hw,rw'⟩:=om.some_of (v:=v) (o:=valueAt vs k) (by rw [l];exact rel.val k)
    exact wpAny_getItem_of (wg ry) dd.mapOf hw (h w' _ (I.tok _) rw')
  · subst ey
    cases (show u=Value.ref b from ry)
    obtain ⟨z,hd,xs,rel,dd⟩:=wj I.hok e
    obtain ⟨w',hw,rw'⟩:=om.some_of (v:=v) (o:=(atKey xs k).map (·.2)) (by rw [l];exact rel.val k)
    obtain ⟨p,hp,hp2⟩:=Option.map_eq_some_iff.mp hw
    refine wpAny_getItem_heap (tupleKind_room_in1 hu) (uu I.hok eb) dd hp ?_
    rw [hp2]
    exact h w' _ (I.tok _) rw'
theorem uw {ob:HO} (I:Inv X pins σ H s) (mu:N6 (H a)) (hs:aaL a s.heap h') (he:∃ q,h'.get? a=some q) (new:dm X.prog X.w (upd H a ob) h' a ob) (ht:0<t':=by first | exact Zp _ | exact (Inv.os (by assumption)).2 | assumption | nofun) :
    Inv X pins σ (upd H a ob) {s with heap:=h',toks:=t'}:=
  I.write (x:=a) (e:=a) mu (.inl rfl) (λb q hb z=>(hs.2 b hb).trans z) he new
theorem C1 {kvs:List (Key×V)} (z:kvs.length≤Yx) (hd:(a==sysModules)=false) (rel:KV kvs vs) (dd:h'.DictOf (bK P w) a vs) :
    dm P w H' h' a (.dK kvs):=⟨z,hd,vs,rel,dd⟩
theorem Be {Q:Unit→YB→Prop} (hu:A.units+1<cLine) (I:Inv X pins σ H s) (g:uv H a y v H') (ry:RelV y u) (rv:RelV v r) (h:∀ s',Inv X pins σ H' s'→Q () s') :
    Y0 (model X.prog X.w) A (setItem (.ref a) u r) Q E s:=by
  rcases g with ⟨kvs,k,e,ey,l,eH⟩ | ⟨kvs,k,b,e,ey,eb,l,eH⟩
  · subst ey eH
    obtain ⟨z,hd,vs,rel,dd⟩:=C0 I.hok e
    have hz:vs.length≤Yx:=by rw [← rel.length];exact z
    have hl:(putK kvs k v).length≤Yx:=by have:=jW kvs k v;nofun
    refine wpAny_setItem_pairs (hsz:=hz) (wg ry) dd λh' LA hs=>h _ ?_
    have he:∃ q,h'.get? a=some q:=let ⟨q,_,_,hq,_⟩:=LA;⟨q,hq⟩
    exact uw I (by rw [e];exact aaB) hs he (C1 hl hd (rel.put k rv) LA)
  · subst ey eH
    cases (show u=Value.ref b from ry)
    obtain ⟨z,hd,xs,rel,dd⟩:=OH I.hok e
    have hz:xs.length≤Yx:=by rw [← aa5 rel];exact z
    have hl:(putK kvs k v).length≤Yx:=by have:=jW kvs k v;nofun
    refine wpAny_setItem_heap (hsz:=hz) (tupleKind_room_in1 hu) (uu I.hok eb) dd λh' LA hs=>h _ ?_
    obtain ⟨q,es,ep,hq,h2,h3,h4,_,h5⟩:=LA
    refine uw I (by rw [e];exact aaB) hs ⟨q,hq⟩ ⟨hl,hd,_,(rel.put k eb rv).keeps λc ys ec=>?_,q,es,ep,hq,h2,h3,h4,h5⟩
    rw [av (cD ec e (λz=>nomatch z))]
    exact ec
end
noncomputable def C2 (i:Expr):Prop:=∀ ov iv,subscripted i false ov iv=operate [ov,iv] (getItem ov iv)
theorem GQ {prog:Zg} {w:Zs} {A:Around} {E:V3→YB→Prop} {s:YB} {env:Env} {value slice:Expr} {pos:Pos} {T id:String} {Q:V3→YB→Prop}
    (hl:typeLookup (.type T) "__getitem__"=pure (some (.builtin id))) (hs:C2 slice)
    (h:Y0 (model prog w) A (eval value env) (λo s₁=>Y0 (model prog w) A (eval slice env) (λi s₂=>s₂.TypeIs o T∧Y0 (model prog w) A (getItem o i) Q E s₂) E s₁) E s) :
    Y0 (model prog w) A (eval (.Subscript value slice pos) env) Q E s:=by
  refine Subscript_ (Zn h (λo s₁ h₁=>Zn h₁ (λi s₂ h₂=>?_) λ_ _ x=>x) λ_ _ x=>x)
  obtain ⟨hT,h₂⟩:=h₂
  unfold subscriptTail
  refine Yu ?_
  rw [getitemInPython_of_ne hT.not_modules]
  refine Yu (acF hT hl ?_)
  have fin:Y0 (model prog w) A (subscripted slice false o i) (λr s₃=>Y0 (model prog w) A (letTemporaryGo value o r >>= λ_=>pure r) Q E s₃) E s₂:=by
    rw [hs o i]
    exact wpAny_operating (Zn h₂ (λr s₃ h₃=>Yu (wpAny_letTemporaryGo (YN h₃))) λ_ _ x=>x)
  first
    | exact YN (Yu fin)
    | exact Yu (YN (Yu fin))
    | exact Yu fin
theorem wm {y:V} (I:Inv X pins σ H s) (g:wk H a y o):s.TypeIs (.ref a) "dict":=by
  rcases g with ⟨kvs,k,e,_,_⟩ | ⟨kvs,k,b,e,_,_,_⟩
  · obtain ⟨_,_,vs,_,dd⟩:=sN I.hok e
    exact dd.typeIs
  · obtain ⟨_,_,xs,_,dd⟩:=wj I.hok e
    exact dd.typeIs
noncomputable def OI (td ty:TE):TE:=λσ H Q=>td σ H λx H1=>ty σ H1 λy H2=>∃ a v,x=.ref a∧wk H2 a y (some v)∧Q v H2
noncomputable def eY (td ty tv:TE):TS:=λD σ H=>tv σ H λv H1=>td σ H1 λx H2=>ty σ H2 λy H3=>∃ a H4,x=.ref a∧uv H3 a y v H4∧D.nx σ H4
section
variable {X:Cx} {o i e value:Expr} {pos pos' tpos:Pos} {td ty tv:TE}
theorem zZ (hu:X.A.units+1<cLine) (ho:PE X o td) (hi:PE X i ty) (hs:C2 i):PE X (.Subscript o i pos) (OI td ty):=by
  intro pins s σ H Q I h
  refine GQ PySem.F.slot_dict_getitem.lookup hs (dh (ho pins s σ H _ I h) λu s1 ⟨x,H1,I1,rx,q1⟩=>dh (hi pins s1 σ H1 _ I1 q1) λiv s2 zz=>?_)
  obtain ⟨y,H2,I2,ry,a,v,ex,g,q2⟩:=zz
  subst ex
  obtain rfl:u=Value.ref a:=rx
  exact ⟨wm I2 g,Bd hu I2 g ry λw' s3 I3 rw'=>⟨v,H2,I3,rw',q2⟩⟩
theorem z6 (hu:X.A.units+1<cLine) (ho:PE X o td) (hi:PE X i ty) (hv:PE X value tv) (hs:swapsWith value (some (.Subscript o i pos')) pos.line X.env=pure false) :
    PS X (.Assign [.Subscript o i pos'] value pos) (eY td ty tv):=by
  intro pins s σ H D I h
  refine wpAny_Assign_Subscript (dh (hv pins s σ H _ I h) λr s1 ⟨v,H1,I1,rv,q1⟩=>dh (ho pins s1 σ H1 _ I1 q1) λu s2 ⟨x,H2,I2,rx,q2⟩=>dh (hi pins s2 σ H2 _ I2 q2) λiv s3 zz=>?_) hs
  obtain ⟨y,H3,I3,ry,a,H4,ex,g,q3⟩:=zz
  subst ex
  obtain rfl:u=Value.ref a:=rx
  exact Be hu I3 g ry rv λs4 I4=>⟨σ,H4,I4,q3⟩
end
theorem wo (h:Heap) (hb:sysModules<h.objs.size):dm P w H (h.push {cls:=.type "dict",data:=.dict #[]}) h.objs.size (.dK []):=
  ⟨Zq _,beq_eq_false_iff_ne.mpr (Z2 (YU hb)),[],.nil,Heap.DictOf.new h⟩
theorem C3 (h:Heap) (hb:sysModules<h.objs.size):dm P w H (h.push {cls:=.type "dict",data:=.dict #[]}) h.objs.size (.dT []):=
  ⟨Zq _,beq_eq_false_iff_ne.mpr (Z2 (YU hb)),[],.nil,_,#[],0,YM _ rfl,⟨rfl,rfl,rfl⟩,rfl,rfl,List.nodup_nil⟩
noncomputable def LB:TE:=λ_ H Q=>∀ p,H p=none→Q (.ref p) (upd H p (.dK []))
noncomputable def LC:TE:=λ_ H Q=>∀ p,H p=none→Q (.ref p) (upd H p (.dT []))
section
variable {X:Cx} {pos:Pos}
theorem C4:PE X (.Dict [] [] pos) LB:=λpins s σ H Q I h=>
  adD ⟨.ref s.heap.objs.size,_,I.laid (a:=s.heap.objs.size) (o:=.dK []) (t':=s.toks) (λ_ _ q=>YA _ q) (YE _) (wo s.heap I.big),rfl,h _ (I.hok.fresh (YE _))⟩
theorem C5:PE X (.Dict [] [] pos) LC:=λpins s σ H Q I h=>
  adD ⟨.ref s.heap.objs.size,_,I.laid (a:=s.heap.objs.size) (o:=.dT []) (t':=s.toks) (λ_ _ q=>YA _ q) (YE _) (C3 s.heap I.big),rfl,h _ (I.hok.fresh (YE _))⟩
end
noncomputable def ux:List (TE×TE)→St→Hp→(List (V×V)→Hp→Prop)→Prop
  | [],_,H,Q=>Q [] H
  | (tk,tv)::r,σ,H,Q=>tk σ H λx H1=>tv σ H1 λy H2=>ux r σ H2 λps H3=>Q ((x,y)::ps) H3
noncomputable abbrev VV:List (V×V)→List (V3×V3)→Prop:=Paired λp q=>RelV p.1 q.1∧RelV p.2 q.2
noncomputable def JW (X:Cx) (pos:Pos) (keys:List (Option Expr)) (values:List Expr) (GR:List (TE×TE)):Prop:=
  ∀ (pins:List (Addr×Obj)) (s:YB) (σ:St) (H:Hp) (Q:List (V×V)→Hp→Prop),Inv X pins σ H s→ux GR σ H Q →
    Y0 (model X.prog X.w) X.A (evalPairs (pairTrees keys values X.env pos)) (λvs s'=>∃ ps H',Inv X pins σ H' s'∧VV ps vs∧Q ps H') X.xe s
theorem GS:JW X pos [] [] []:=λpins s σ H Q I h=>pairTrees_nil_walk ⟨[],H,I,.nil,h⟩
theorem C6 {k:Expr} {vs:List Expr} {tk tv:TE} (hk:PE X k tk) (hv:PE X v tv) (hr:JW X pos ks vs GR) :
    JW X pos (some k::ks) (v::vs) ((tk,tv)::GR):=λpins s σ H Q I h=>
  pairTrees_cons_walk (dh (hk pins s σ H _ I h) λu s1 ⟨x,H1,I1,rx,q1⟩=>dh (hv pins s1 σ H1 _ I1 q1) λw2 s2 ⟨y,H2,I2,ry,q2⟩=>
    dh (hr pins s2 σ H2 _ I2 q2) λws s3 zz=>by obtain ⟨ps,H3,I3,rel,q3⟩:=zz;exact ⟨(x,y)::ps,H3,I3,.cons ⟨rx,ry⟩ rel,q3⟩)
noncomputable def jX (kvs more:List (Key×V)):List (Key×V):=more.foldl (λacc kv=>putK acc kv.1 kv.2) kvs
theorem KV.merge:∀ {more:List (Key×V)} {rs:List (Key×V3)} {kvs:List (Key×V)} {vs:List (Key×V3)},KV more rs→KV kvs vs→KV (jX kvs more) (merged vs rs):=by
  intro more rs kvs vs r
  unfold KV at r
  induction r generalizing kvs vs with
  | nil=>intro q;exact q
  | @cons p q ps qs h t ih=>
    intro r0
    have e:KV (putK kvs p.1 p.2) (stored vs q.1 q.2):=by
      have:=r0.put p.1 h.2
      rw [← h.1];exact this
    exact ih e
theorem kW:∀ (more kvs:List (Key×V)),(jX kvs more).length≤kvs.length+more.length
  | [],kvs=>by show kvs.length≤kvs.length+0;nofun
  | p::r,kvs=>by
    have h1:=kW r (putK kvs p.1 p.2)
    have h2:=jW kvs p.1 p.2
    show (jX (putK kvs p.1 p.2) r).length≤_
    rw [Yy];nofun
theorem pK {P:Zg} {w:Zs}:∀ {kvs:List (Key×V)} {ws:List (V3×V3)},VV (kvs.map λkv=>(kV kv.1,kv.2)) ws→∃ rs,Carries (bK P w) ws rs∧KV kvs rs
  | [],_,r=>by rw [YY] at r;cases r;exact ⟨[],aaB,.nil⟩
  | p::kvs,_,r=>by
    rw [Yv] at r
    cases r with
    | @cons a b as bs h t=>
      obtain ⟨rs,c,q⟩:=pK (P:=P) (w:=w) t
      obtain ⟨b1,b2⟩:=b
      exact ⟨(p.1,b2)::rs,⟨wg h.1,rfl,c⟩,.cons ⟨rfl,h.2⟩ q⟩
noncomputable def OJ (GR:List (TE×TE)):TE:=λσ H Q=>∀ p,H p=none→ux GR σ (upd H p (.dK [])) λps H2=>H2 p=some (.dK [])∧∃ kvs:List (Key×V),ps=kvs.map (λkv=>(kV kv.1,kv.2))∧kvs.length≤15∧Q (.ref p) (upd H2 p (.dK (jX [] kvs)))
theorem GU {keys:List (Option Expr)} (h:JW X pos keys values GR) (hall:keys.all (·.isSome)=true) (hl:keys.length=values.length) (h0:keys≠[])
    (RV:keys.length≤15):PE X (.Dict keys values pos) (OJ GR):=by
  intro pins s σ H Q I q
  have hn:=I.hok.fresh (YE s.heap.objs.size)
  have I1:=I.laid (a:=s.heap.objs.size) (o:=.dK []) (h':=s.heap.push {cls:=.type "dict",data:=.dict #[]}) (t':=s.toks) (λ_ _ q=>YA _ q) (YE _) (wo s.heap I.big)
  refine wpAny_Dict_walk (knd:=bK X.prog X.w) hall hl h0 RV (dh (h pins _ σ _ _ I1 (q _ hn)) λws s2 zz=>?_)
  obtain ⟨ps,H2,I2,rel,e,kvs,ep,lk,q2⟩:=zz
  subst ep
  obtain ⟨rs,c,rk⟩:=pK (P:=X.prog) (w:=X.w) rel
  obtain ⟨z,hd,QY,r0,dd⟩:=C0 I2.hok e
  cases r0
  refine ⟨rs,c,dd,λh' LA hs=>⟨.ref s.heap.objs.size,_,?_,rfl,q2⟩⟩
  have hz:(jX [] kvs).length≤Yx:=by
    have h1:=kW kvs []
    rw [YR] at h1
    rw [sizeLine_eq];nofun
  have he:∃ q,h'.get? s.heap.objs.size=some q:=let ⟨q,_,_,hq,_⟩:=LA;⟨q,hq⟩
  exact uw I2 (by rw [e];exact aaB) hs he (C1 hz hd (rk.merge .nil) LA) (YG I2.os.2 (adE _ _))
structure M1 (X:Cx) (o:Expr) (m:Str) (apos:Pos) (e:Expr) (cpos:Pos):Prop where
  base:attributeBase o m X.env (eval o X.env)=eval o X.env
  few:((backTo cpos (YZ [e] X.env)).all (λx=>!x.1)&&(backToKw cpos (keywordEach [] X.env)).all (λx=>x.1.isSome)
    && decide (([e]:List Expr).length+([]:List Keyword).length+(if ([]:List Keyword).isEmpty then 0 else 1)<30))=true
  line:(apos.endLine==cpos.line)=true
  trees:backTo cpos (YZ [e] X.env)=[(false,eval e X.env)]
structure M2 (X:Cx) (o:Expr) (m:Str) (apos:Pos) (e f:Expr) (cpos:Pos):Prop where
  base:attributeBase o m X.env (eval o X.env)=eval o X.env
  few:((backTo cpos (YZ [e,f] X.env)).all (λx=>!x.1)&&(backToKw cpos (keywordEach [] X.env)).all (λx=>x.1.isSome)
    && decide (([e,f]:List Expr).length+([]:List Keyword).length+(if ([]:List Keyword).isEmpty then 0 else 1)<30))=true
  line:(apos.endLine==cpos.line)=true
  trees:backTo cpos (YZ [e,f] X.env)=[(false,eval e X.env),(false,eval f X.env)]
noncomputable def T4 (H:Hp) (a:Addr):Prop:=(∃ kvs,Rd H a (.dK kvs))∨∃ kvs,Rd H a (.dT kvs)
theorem LD (I:Inv X pins σ H s) (d:T4 H a) :
    s.TypeIs (.ref a) "dict"∧(∀ b,Value.ref a=.ref b→∃ ob,s.heap.get? b=some ob∧ob.dict=none)∧(a==sysModules)=false:=by
  rcases d with ⟨kvs,e⟩ | ⟨kvs,e⟩
  · obtain ⟨_,hd,vs,_,dd⟩:=sN I.hok e
    refine ⟨dd.typeIs,λb q=>?_,hd⟩
    cases q
    obtain ⟨ob,_,_,h1,h2,_⟩:=dd
    exact ⟨ob,h1,h2.2.1⟩
  · obtain ⟨_,hd,xs,_,dd⟩:=wj I.hok e
    refine ⟨dd.typeIs,λb q=>?_,hd⟩
    cases q
    obtain ⟨ob,_,_,h1,h2,_⟩:=dd
    exact ⟨ob,h1,h2.2.1⟩
section
variable {X:Cx} {pins:List (Addr×Obj)} {σ:St} {H:Hp} {s:YB} {a:Addr} {y d:V} {u r:V3} {o:Option V} {A:Around} {E:V3→YB→Prop}
theorem LF {Q:V3→YB→Prop} (hu:A.units+1<cLine) (I:Inv X pins σ H s) (g:wk H a y o) (ry:RelV y u) (rd:RelV d r) (h:∀ w' s',Inv X pins σ H s'→RelV (o.getD d) w'→Q w' s') :
    Y0 (model X.prog X.w) A (call (.builtin "dict.get") [.ref a,u,r]) Q E s:=by
  rcases g with ⟨kvs,k,e,ey,l⟩ | ⟨kvs,k,b,e,ey,eb,l⟩
  · subst ey
    obtain ⟨z,hd,vs,rel,dd⟩:=sN I.hok e
    refine call_meetsIn abq dd.typeIs acz (acn _ _ _) (meets_dict_get_default (bK X.prog X.w) a (wg ry) hd r) ⟨_,dd.mapOf,h _ _ (I.tok _) ?_⟩
    rw [l]
    exact (rel.val k).getD rd
  · subst ey
    cases (show u=Value.ref b from ry)
    obtain ⟨z,hd,xs,rel,dd⟩:=wj I.hok e
    refine call_meetsIn abq dd.typeIs acz (acn _ _ _) (meetsH_dict_get_default (tupleKind (bK X.prog X.w)) a b hd r) ⟨tupleKind_room_in1 hu,k,xs,uu I.hok eb,dd,h _ _ (I.tok _) ?_⟩
    rw [l]
    exact (rel.val k).getD rd
end
noncomputable def LG (td ty tx:TE):TE:=λσ H Q=>td σ H λx H1=>∃ a,x=.ref a∧T4 H1 a∧ty σ H1 λy H2=>tx σ H2 λz H3=>∃ o,wk H3 a y o∧Q (o.getD z) H3
section
variable {X:Cx} {o e f:Expr} {apos cpos:Pos} {td ty tx:TE}
theorem C7 (hu:X.A.units+1<cLine) (ho:PE X o td) (he:PE X e ty) (hf:PE X f tx) (m:M2 X o "get" apos e f cpos):PE X (.Call (.Attribute o "get" apos) [e,f] [] cpos) (LG td ty tx):=by
  intro pins s σ H Q I h
  refine wpAny_Call_method m.base m.few m.line PySem.F.plainAttrs_dict abq PySem.F.type_dict_get (dh (ho pins s σ H _ I h) λu s1 zz=>?_)
  obtain ⟨x,H1,I1,rx,a,ex,d,q1⟩:=zz
  subst ex
  obtain rfl:u=Value.ref a:=rx
  obtain ⟨t1,t2,_⟩:=LD I1 d
  refine ⟨t1,t2,?_⟩
  rw [m.trees]
  refine abi rfl (acT (ZZ (dh (he pins s1 σ H1 _ I1 q1) λiv s2 ⟨y,H2,I2,ry,q2⟩=>
    ZZ (dh (hf pins s2 σ H2 _ I2 q2) λfv s3 ⟨z,H3,I3,rz,ov,g,q3⟩=>abe ?_))))
  exact LF hu I3 g ry rz λw' s4 I4 rw'=>⟨_,H3,I4,rw',q3⟩
end
end L2
set_option genInjectivity true
namespace L3
open PySem PySem.Spec L2
variable {K:Yz} {mg:Str→Option V3} {ρ ρ0 fp ρ' ch as:List Addr} {H H0 H':Hp} {pins gw:List (Addr×Obj)} {σ σ0:L2.St} {e tg:Expr} {a p it l c C c' Pt gl c0 bi:Addr} {s s0 s1:YB} {n i ep nn j t' fu z tk n':Nat} {es values:List Expr} {xs vs ys uJ:List V} {E E':V3→YB→Prop} {y x qual name y0:Str} {body els:List Stmt} {P q prog Pg:Zg} {w:Zs} {items ps' ws:Array V3} {o fo:Obj} {u:List (List Key×V)} {fd:FuncData} {A A':Around} {cl:List (Str×Addr)} {sl o4:Array (Option V3)} {ks:List Bool} {h h' base B:Heap} {N ps ns loose N':List Str} {XP:(Str→Option V3)→Heap→Prop} {Dd D':Ends} {od o2 func:Option Addr} {X:Cx} {js:List Nat} {gens:List Comprehension} {sc scope Q2:Scope} {oc o1 code cdv a0:V3} {spos py px pos p2:Pos} {v:V} {gv:Int→Int→V} {lo hi:Int} {op:CmpOp} {qs:List PyData} {run:V3→List V3→Sem V3} {outer:List Env} {env env':Env} {YP:Zs→Heap→Prop} {Q':Bool→Hp→Prop} {kwd:List (Str×Expr)} {α κ:Type} {b:Bool} {own:List (Option V)} {ob:HO} {its:List V3} {dy:DefRec} {M':Model} {tz:Tok}
structure gA where
 name:Str
 qual:Str
 params:Arguments
 body:FuncBody
 scope:Scope
 pos:Pos
 names:List Str
variable {Ao:gA}
noncomputable def freeNames (sc:Scope):List Str:=((sc.names.filter λq=>q.2==.free).map (·.1)).reverse
noncomputable def gQ (q:Str):List Stmt→Option gA
 | .FunctionDef name params body _ _ _ scope _ _ pos::_=>some ⟨name,q++".<locals>."++name,params,.stmts body,scope,pos,freeNames scope⟩
 | .Assign [_] (.Call _ es _ _) _::r=>match es.getLast? with
  | some (.Lambda params body scope pos)=>some ⟨"<lambda>",q++".<locals>."++"<lambda>",params,.expr body,scope,pos,freeNames scope⟩
  | _=>gQ q r
 | .Return (some (.Call _ es _ _)) _::r=>match es.getLast? with
  | some (.Lambda params body scope pos)=>some ⟨"<lambda>",q++".<locals>."++"<lambda>",params,.expr body,scope,pos,freeNames scope⟩
  | _=>gQ q r
 | _::r=>gQ q r
 | []=>none
noncomputable def nR (K:Yz) (mg:Str→Option V3) (y:Str):Option gA:=match mg y with
 | some (.ref f)=>(match K.lookup f with
  | some ⟨_,_,.func fd,_⟩=>(match fd.body with
   | .stmts b=>gQ fd.qualname b
   | _=>none)
  | _=>none)
 | _=>none
inductive D where
 | dP | bl (b:Bool) | int (i:Int) | str (x:Str) | tup (xs:List D) | con (xs:List D) | obj (n:Nat) | fn (x:Str) | yl (cls:Str) (args:List D) | jU (y:Str) (caps:List D)
variable {ds os acc zs caps:List D} {gO:D→Option (List D)} {kvs:List (Key×D)}
inductive DO where
 | lst (xs:List D)
 | dead
 | dct (kvs:List (Key×D))
 | tab (y:Str)
 | fV (fz:Bool) (kvs:List (List Key×D))
 | C8 (kvs:List (Key×D))
noncomputable abbrev DH:=List DO
variable {G G0:DH}
noncomputable abbrev DS:=List (Option D)
variable {τ τ1:DS}
inductive XD where
 | mk (cls:Str) (args:List D)
inductive Out (α:Type) where
 | stuck
 | ok (a:α) (G:DH)
 | bC (c:XD) (G:DH)
noncomputable abbrev M (α:Type):=DH→Out α
variable {m r:DS→M (List D)} {f:D→D→M D} {te mo me:DS→M D} {tt:DS→M Bool} {mf m0:List D→M D} {Pr:Str→Nat→(List D→M D)→Prop} {ml mh:DS→M (Option Int)}
noncomputable def M.bind {α β:Type} (m:M α) (k:α→M β):M β:=λG=>match m G with
 | .stuck=>.stuck
 | .ok a G'=>k a G'
 | .bC c G'=>.bC c G'
noncomputable def M.ret {α:Type} (a:α):M α:=λG=>.ok a G
noncomputable def M.stop {α:Type}:M α:=λ_=>.stuck
noncomputable def rW (H:Hp) (a:Addr) (xs:List V):Prop:=H a=some (.tup xs)
theorem rW.of (h:H a=some (.tup xs)):rW H a xs:=h
theorem rW.t (h:rW H a xs):mQ K H a xs:=.inl (.inl h)
instance {K:Yz} {H:Hp} {a:Addr} {xs:List V}:Coe (rW H a xs) (mQ K H a xs):=⟨rW.t⟩
noncomputable def GV (K:Yz) (H:Hp) (a:Addr) (xs:List V):Prop:=
 (∃ o,H a=some (.cy o (.lst xs))) ∨
  ∃ (o:Obj) (its:Array V3) (n:Nat),K.lookup a=some o∧o.cls=.type "list"∧o.dict=none∧o.data=.seq its n∧its.size≤Yx∧Vals xs its.toList
theorem GV.seq (h:GV K H a xs):lN K H a xs:=by
 rcases h with ⟨o,h⟩ | h
 ·exact .inl (.inr ⟨o,h⟩)
 ·exact .inr h
noncomputable def OL (a:Addr) (cv:V3):Heap→Prop:=λh=>∃ o,h.get? a=some o∧o.cls=cv
noncomputable abbrev wu (k:gA) (cs:List Addr) (doc pm:V3) (c:Addr) (ctv:V3):FuncData:=
 {name:=k.name,qualname:=k.qual,params:=k.params,body:=k.body,scope:=k.scope,globals:=mainGlobals,closure:=k.names.zip cs,defaults:=.none,kwdefaults:=.none,doc,pyModule:=pm,annotations:=none,code:=.ref c,closureTuple:=ctv,builtins:=builtinsNs}
noncomputable abbrev fW (k:gA) (cs:List Addr) (doc pm:V3) (c:Addr) (ctv:V3):Obj:={cls:=.type "function",data:=.func (wu k cs doc pm c ctv)}
noncomputable def wz (H:Hp) (a:Addr) (o:Obj):Prop:=H a=some (.cy o (.own 0))
noncomputable def mW (H:Hp) (c:Addr) (qual:Str):Prop:=∃ (oc:Obj) (vs:Array V3) (t:Tok),wz H c oc∧oc.data=.fields vs∧vs[1]?=some (.str qual t)
noncomputable def nS (H:Hp) (k:gA) (a:Addr) (cs:List Addr):Prop:=cs.length=k.names.length∧cs.Nodup∧∃ (doc pm ctv:V3) (c:Addr),wz H a (fW k cs doc pm c ctv)∧mW H c k.qual
noncomputable def dz (H:Hp):List Addr→List V→Prop
 | [],xs=>xs=[]
 | c::cs,xs=>∃ (x:V) (r:List V) (o:Obj) (u:V3),xs=x::r∧wz H c o∧o.data=.cell (some u)∧RelV x u∧dz H cs r
mutual
noncomputable def Rep (K:Yz) (mg:Str→Option V3) (ρ:List Addr) (H:Hp):D→V→Prop
 | .dP,v=>v=.dP
 | .bl b,v=>v=.bl b
 | .int i,v=>v=.int i
 | .str x,v=>v=.str x
 | .tup ds,v=>∃ a xs,v=.ref a∧rW H a xs∧au K mg ρ H ds xs
 | .con ds,v=>∃ a xs,v=.ref a∧GV K H a xs∧au K mg ρ H ds xs
 | .obj n,v=>∃ a,v=.ref a∧ρ[n]?=some a
 | .fn x,v=>∃ a,v=.ref a∧mg x=some (.ref a)
 | .yl c _,v=>∃ a cv,v=.ref a∧mg c=some cv∧H a=some (.ext (OL a cv))
 | .jU y ds,v=>∃ k a cs xs,v=.ref a∧nR K mg y=some k∧nS H k a cs∧dz H cs xs∧au K mg ρ H ds xs
noncomputable def au (K:Yz) (mg:Str→Option V3) (ρ:List Addr) (H:Hp):List D→List V→Prop
 | [],vs=>vs=[]
 | d::ds,vs=>∃ v r,vs=v::r∧Rep K mg ρ H d v∧au K mg ρ H ds r
end
theorem mW.mono {q:Str} (h:mW H c q) (f:∀ a o u,H a=some (.cy o u)→H' a=some (.cy o u)):mW H' c q:=by
 obtain ⟨oc,vs,t,e,r⟩:=h
 exact ⟨oc,vs,t,f _ _ _ e,r⟩
theorem nS.mono {k:gA} {cs:List Addr} (h:nS H k a cs) (f:∀ a o u,H a=some (.cy o u)→H' a=some (.cy o u)):nS H' k a cs:=by
 obtain ⟨l,n,doc,pm,ctv,c,e,r⟩:=h
 exact ⟨l,n,doc,pm,ctv,c,f _ _ _ e,r.mono f⟩
theorem dz.mono (f:∀ a o u,H a=some (.cy o u)→H' a=some (.cy o u)):∀ {cs:List Addr} {xs:List V},dz H cs xs→dz H' cs xs
 | [],xs,h=>h
 | c::cs,xs,⟨x,r,o,u,e,h1,h2,h3,h4⟩=>⟨x,r,o,u,e,f _ _ _ h1,h2,h3,h4.mono f⟩
structure bS (K:Yz) (H H':Hp) (ρ ρ':List Addr):Prop where
 tup:∀ a xs,rW H a xs→rW H' a xs
 cy:∀ a o u,H a=some (.cy o u)→H' a=some (.cy o u)
 pre:∃ r,ρ'=ρ++r
 ext:∀ a φ,H a=some (.ext φ)→H' a=some (.ext φ)
section
variable {K:Yz} {mg:Str→Option V3} {H H' H1 H2:Hp} {ρ ρ' ρ1 ρ2:List Addr}
theorem bS.con (f:bS K H H' ρ ρ') (a:Addr) (xs:List V) (h:GV K H a xs):GV K H' a xs:=by
 rcases h with ⟨o,h⟩ | h
 ·exact .inl ⟨o,f.cy _ _ _ h⟩
 ·exact .inr h
theorem bS.refl:bS K H H ρ ρ:=⟨λ_ _ h=>h,λ_ _ _ h=>h,⟨[],by simp⟩,λ_ _ h=>h⟩
theorem bS.trans (a:bS K H H1 ρ ρ1) (b:bS K H1 H2 ρ1 ρ2):bS K H H2 ρ ρ2:=by
 obtain ⟨r1,e1⟩:=a.pre
 obtain ⟨r2,e2⟩:=b.pre
 exact ⟨λx xs h=>b.tup x xs (a.tup x xs h),λx o u h=>b.cy x o u (a.cy x o u h),⟨r1++r2,by rw [e2,e1,ZD]⟩,λx φ h=>b.ext x φ (a.ext x φ h)⟩
theorem bS.get (f:bS K H H' ρ ρ') {n:Nat} {a:Addr} (h:ρ[n]?=some a):ρ'[n]?=some a:=by
 obtain ⟨r,e⟩:=f.pre
 rw [e,YQ (Yw.mp h).1];exact h
mutual
theorem Rep.mono (f:bS K H H' ρ ρ'):∀ (d:D) (v:V),Rep K mg ρ H d v→Rep K mg ρ' H' d v
 | .dP,v,h=>by unfold Rep at h ⊢;exact h
 | .bl b,v,h=>by unfold Rep at h ⊢;exact h
 | .int i,v,h=>by unfold Rep at h ⊢;exact h
 | .str x,v,h=>by unfold Rep at h ⊢;exact h
 | .tup ds,v,h=>by
  unfold Rep at h ⊢
  obtain ⟨a,xs,e,s,r⟩:=h
  exact ⟨a,xs,e,f.tup _ _ s,au.mono f ds xs r⟩
 | .con ds,v,h=>by
  unfold Rep at h ⊢
  obtain ⟨a,xs,e,s,r⟩:=h
  exact ⟨a,xs,e,f.con _ _ s,au.mono f ds xs r⟩
 | .obj n,v,h=>by
  unfold Rep at h ⊢
  obtain ⟨a,e,r⟩:=h
  exact ⟨a,e,f.get r⟩
 | .fn x,v,h=>by unfold Rep at h ⊢;exact h
 | .yl c as,v,h=>by
  unfold Rep at h ⊢
  obtain ⟨a,cv,e,m,r⟩:=h
  exact ⟨a,cv,e,m,f.ext _ _ r⟩
 | .jU k ds,v,h=>by
  unfold Rep at h ⊢
  obtain ⟨k,a,cs,xs,e,h0,h1,h2,h3⟩:=h
  exact ⟨k,a,cs,xs,e,h0,h1.mono f.cy,h2.mono f.cy,au.mono f ds xs h3⟩
theorem au.mono (f:bS K H H' ρ ρ'):∀ (ds:List D) (vs:List V),au K mg ρ H ds vs→au K mg ρ' H' ds vs
 | [],vs,h=>by unfold au at h ⊢;exact h
 | d::ds,vs,h=>by
  unfold au at h ⊢
  obtain ⟨v,r,e,h1,h2⟩:=h
  exact ⟨v,r,e,Rep.mono f d v h1,au.mono f ds r h2⟩
end
theorem au.length:∀ {ds:List D} {vs:List V},au K mg ρ H ds vs→ds.length=vs.length
 | [],vs,h=>by unfold au at h;subst h;rfl
 | d::ds,vs,h=>by
  unfold au at h
  obtain ⟨v,r,rfl,_,h2⟩:=h
  simp [au.length h2]
theorem au.nil:au K mg ρ H [] []:=by unfold au;rfl
theorem au.cons {d:D} {v:V} {ds:List D} {vs:List V} (h:Rep K mg ρ H d v) (t:au K mg ρ H ds vs):au K mg ρ H (d::ds) (v::vs):=by
 unfold au;exact ⟨v,vs,rfl,h,t⟩
theorem au.get:∀ {ds:List D} {vs:List V} {i:Nat} {d:D},au K mg ρ H ds vs→ds[i]?=some d→∃ v,vs[i]?=some v∧Rep K mg ρ H d v
 | [],vs,i,d,h,e=>by simp at e
 | x::ds,vs,0,d,h,e=>by
  unfold au at h
  obtain ⟨v,r,rfl,h1,_⟩:=h
  simp at e;subst e
  exact ⟨v,rfl,h1⟩
 | x::ds,vs,i+1,d,h,e=>by
  unfold au at h
  obtain ⟨v,r,rfl,_,h2⟩:=h
  obtain ⟨u,e1,e2⟩:=au.get (i:=i) (d:=d) h2 (by simpa using e)
  exact ⟨u,by simpa using e1,e2⟩
theorem au.append:∀ {ds es:List D} {vs us:List V},au K mg ρ H ds vs→au K mg ρ H es us→au K mg ρ H (ds++es) (vs++us)
 | [],es,vs,us,h,h'=>by unfold au at h;subst h;exact h'
 | d::ds,es,vs,us,h,h'=>by
  unfold au at h
  obtain ⟨v,r,rfl,h1,h2⟩:=h
  exact .cons h1 (au.append h2 h')
theorem au.take:∀ (n:Nat) {ds:List D} {vs:List V},au K mg ρ H ds vs→au K mg ρ H (ds.take n) (vs.take n)
 | 0,_,_,_=>by simpa using au.nil
 | n+1,[],vs,h=>by unfold au at h;subst h;simpa using au.nil
 | n+1,d::ds,vs,h=>by
  unfold au at h
  obtain ⟨v,r,rfl,h1,h2⟩:=h
  exact .cons h1 (au.take n h2)
theorem au.drop:∀ (n:Nat) {ds:List D} {vs:List V},au K mg ρ H ds vs→au K mg ρ H (ds.drop n) (vs.drop n)
 | 0,_,_,h=>by simpa using h
 | n+1,[],vs,h=>by unfold au at h;subst h;simpa using au.nil
 | n+1,d::ds,vs,h=>by
  unfold au at h
  obtain ⟨v,r,rfl,h1,h2⟩:=h
  simpa using au.drop n h2
theorem au.ints:∀ (ns:List Int),au K mg ρ H (ns.map D.int) (ns.map V.int)
 | []=>.nil
 | n::ns=>.cons (by unfold Rep;rfl) (au.ints ns)
end
noncomputable def GW (K:Yz) (mg:Str→Option V3) (ρ:List Addr) (H:Hp) (a:Addr):DO→Prop
 | .lst ds=>∃ xs,H a=some (.lst xs)∧au K mg ρ H ds xs
 | .dead=>∃ o,H a=some o
 | .dct kvs=>∃ xs,H a=some (.dK ((kvs.map (·.1)).zip xs))∧au K mg ρ H (kvs.map (·.2)) xs
 | .tab y=>∃ (ps:Array V3) (c:Addr) (k:gA),H a=some (.lP ps)∧Z3 K y=some (c,a)∧nR K mg y=some k∧(ps=#[]∨∃ c',ps=#[aax k.pos.line,aax k.pos.col,.ref c']∧mW H c' k.qual)
 | .fV fz kvs=>∃ xs,(if fz=true then ∃ o,H a=some (.cy o (.dT ((kvs.map (·.1)).zip xs))) else H a=some (.dT ((kvs.map (·.1)).zip xs)))∧au K mg ρ H (kvs.map (·.2)) xs
 | .C8 kvs=>∃ xs,(∃ o,H a=some (.cy o (.dK ((kvs.map (·.1)).zip xs))))∧au K mg ρ H (kvs.map (·.2)) xs
structure eO (K:Yz) (mg:Str→Option V3) (H:Hp) (ρ:List Addr) (G:DH):Prop where
 hl:ρ.length=G.length
 nd:ρ.Nodup
 ob:∀ (n:Nat) (o:DO),G[n]?=some o→∃ a,ρ[n]?=some a∧GW K mg ρ H a o
noncomputable def pL (K:Yz) (mg:Str→Option V3) (H:Hp) (ρ:List Addr) (σ:St) (τ:DS):Prop:=
 σ.length=τ.length∧∀ (i:Nat) (d:D),τ[i]?=some (some d)→∃ v,σ[i]?=some (some v)∧Rep K mg ρ H d v
structure Ab (K:Yz) (mg:Str→Option V3) (σ:St) (H:Hp) (τ:DS) (ρ:List Addr) (G:DH):Prop where
 st:pL K mg H ρ σ τ
 hp:eO K mg H ρ G
section
variable {K:Yz} {mg:Str→Option V3} {H H' H1 H2:Hp} {ρ ρ' ρ1 ρ2:List Addr} {G G':DH} {σ:L2.St} {τ:DS}
theorem pL.mono (f:bS K H H' ρ ρ') (h:pL K mg H ρ σ τ):pL K mg H' ρ' σ τ:=⟨h.1,λi d e=>by
 obtain ⟨v,e1,r⟩:=h.2 i d e
 exact ⟨v,e1,r.mono f⟩⟩
theorem pL.set {d:D} (h:pL K mg H ρ σ τ) (r:Rep K mg ρ H d v):pL K mg H ρ (σ.set i (some v)) (τ.set i (some d)):=by
 refine ⟨by simp [h.1],λj e he=>?_⟩
 by_cases hj:i=j
 ·subst hj
  rw [Zr] at he
  by_cases hi:i<τ.length
  ·rw [if_pos rfl,if_pos hi] at he
   cases he
   exact ⟨v,by rw [Zr,if_pos rfl,if_pos (by rw [h.1];exact hi)],r⟩
  ·rw [if_pos rfl,if_neg hi] at he
   cases he
 ·rw [Zh hj] at he
  obtain ⟨u,e1,r1⟩:=h.2 j e he
  exact ⟨u,by rw [Zh hj];exact e1,r1⟩
theorem Ab.fut (ab:Ab K mg σ H τ ρ G) (f:bS K H H' ρ ρ') (hp:eO K mg H' ρ' G'):Ab K mg σ H' τ ρ' G':=⟨ab.st.mono f,hp⟩
theorem eO.lst (h:eO K mg H ρ G) (e:G[n]?=some (.lst ds)):∃ a xs,ρ[n]?=some a∧H a=some (.lst xs)∧au K mg ρ H ds xs:=by
 obtain ⟨a,e1,xs,e2,r⟩:=h.ob n _ e
 exact ⟨a,xs,e1,e2,r⟩
theorem eO.there (h:eO K mg H ρ G) (e:ρ[n]?=some a):∃ o,H a=some o:=by
 have hn:n<G.length:=by rw [← h.hl];exact (Yw.mp e).1
 obtain ⟨a',e1,r⟩:=h.ob n G[n] (YD hn)
 rw [e] at e1;cases e1
 cases hg:G[n] with
 | lst xs=>rw [hg] at r;obtain ⟨ys,e2,_⟩:=r;exact ⟨_,e2⟩
 | dead=>rw [hg] at r;exact r
 | dct kv=>rw [hg] at r;obtain ⟨ys,e2,_⟩:=r;exact ⟨_,e2⟩
 | tab t=>rw [hg] at r;obtain ⟨ps,c,k,e2,_⟩:=r;exact ⟨_,e2⟩
 | fV fz kv=>
  rw [hg] at r;obtain ⟨ys,e2,_⟩:=r
  cases fz
  ·exact ⟨_,e2⟩
  ·obtain ⟨o,e2⟩:=e2;exact ⟨_,e2⟩
 | C8 kv=>rw [hg] at r;obtain ⟨ys,⟨o,e2⟩,_⟩:=r;exact ⟨_,e2⟩
theorem eO.not_mem (h:eO K mg H ρ G) (hp:H p=none):p∉ρ:=λhm=>by
 obtain ⟨n,hn,e⟩:=aad hm
 obtain ⟨o,q⟩:=h.there (n:=n) (a:=p) (by rw [YD hn,e])
 rw [hp] at q;cases q
theorem GW.mono {o:DO} (f:bS K H H' ρ ρ') (he:∀ u,H a=some u→H' a=some u) (h:GW K mg ρ H a o):GW K mg ρ' H' a o:=by
 cases o with
 | lst ds=>
  obtain ⟨xs,e,r⟩:=h
  exact ⟨xs,he _ e,r.mono f⟩
 | dead=>
  obtain ⟨o,e⟩:=h
  exact ⟨o,he _ e⟩
 | dct kv=>
  obtain ⟨xs,e,r⟩:=h
  exact ⟨xs,he _ e,r.mono f⟩
 | tab t=>
  obtain ⟨ps,c,k,e,q,q2,r⟩:=h
  exact ⟨ps,c,k,he _ e,q,q2,r.imp id λzz=>by obtain ⟨c',e,z⟩:=zz;exact ⟨c',e,z.mono f.cy⟩⟩
 | fV fz kv=>
  obtain ⟨xs,e,r⟩:=h
  refine ⟨xs,?_,r.mono f⟩
  cases fz
  ·exact he _ e
  ·obtain ⟨o,e⟩:=e;exact ⟨o,he _ e⟩
 | C8 kv=>
  obtain ⟨xs,⟨o,e⟩,r⟩:=h
  exact ⟨xs,⟨o,he _ e⟩,r.mono f⟩
theorem cR {o:HO} (hp:H p=none) (ρ:List Addr):bS K H (upd H p o) ρ ρ:=by
 refine ⟨λa xs h=>?_,λa q u h=>by rw [av (bX h hp)];exact h,⟨[],by simp⟩,λa φ h=>by rw [av (bX h hp)];exact h⟩
 ·rw [rW] at h ⊢;rw [av (bX h hp)];exact h
theorem uy (hp:H p=some (.lst xs)) (ρ:List Addr):bS K H (upd H p (.lst ys)) ρ ρ:=by
 refine ⟨λa zs h=>?_,λa q u h=>by rw [av (cD h hp (by intro z;cases z))];exact h,⟨[],by simp⟩,λa φ h=>by rw [av (cD h hp (by intro z;cases z))];exact h⟩
 ·rw [rW] at h ⊢;rw [av (cD h hp (by intro z;cases z))];exact h
theorem eO.new {o:HO} (h:eO K mg H ρ G) (hp:H p=none):eO K mg (upd H p o) ρ G:=
 ⟨h.hl,h.nd,λn ob e=>by
  obtain ⟨a,e1,r⟩:=h.ob n ob e
  exact ⟨a,e1,r.mono (cR hp ρ) λu q=>by rw [av (bX q hp)];exact q⟩⟩
theorem aB (l:List α) (a:α):(l++[a])[l.length]?=some a:=by simp
theorem cE (ρ:List Addr) (p:Addr):bS K H H ρ (ρ++[p]):=⟨λ_ _ h=>h,λ_ _ _ h=>h,⟨[p],rfl⟩,λ_ _ h=>h⟩
theorem eO.more (h:eO K mg H ρ G) (hp:H p=none) (r:au K mg ρ H ds xs):eO K mg (upd H p (.lst xs)) (ρ++[p]) (G++[.lst ds]):=by
 have f:bS K H (upd H p (.lst xs)) ρ (ρ++[p]):=(cR hp ρ).trans (cE ρ p)
 refine ⟨by simp [h.hl],?_,λn ob e=>?_⟩
 ·rw [ZS]
  refine ⟨h.nd,by simp,λa ha b hb=>?_⟩
  have e:b=p:=by simpa using hb
  subst e
  rintro rfl
  exact h.not_mem hp ha
 ·by_cases hn:n<G.length
  ·rw [YQ hn] at e
   obtain ⟨a,e1,r'⟩:=h.ob n ob e
   exact ⟨a,f.get e1,r'.mono f λu q=>by rw [av (bX q hp)];exact q⟩
  ·have hl:n<(G++[DO.lst ds]).length:=(Yw.mp e).1
   have hn':n=G.length:=by simp at hl;nofun
   subst hn'
   rw [aB] at e
   cases e
   refine ⟨p,by rw [← h.hl,aB],xs,aM,r.mono f⟩
theorem eO.put {ds es:List D} (h:eO K mg H ρ G) (hn:ρ[n]?=some a) (ha:H a=some (.lst xs)) (r:au K mg ρ H es ys):eO K mg (upd H a (.lst ys)) ρ (G.set n (.lst es)):=by
 have f:bS K H (upd H a (.lst ys)) ρ ρ:=uy ha ρ
 refine ⟨by simp [h.hl],h.nd,λm ob e=>?_⟩
 by_cases hm:n=m
 ·subst hm
  rw [Zr,if_pos rfl] at e
  split at e
  ·cases e
   exact ⟨a,hn,ys,aM,r.mono f⟩
  ·cases e
 ·rw [Zh hm] at e
  obtain ⟨b,e1,r'⟩:=h.ob m ob e
  have hb:b≠a:=by
   rintro rfl
   obtain ⟨h1,vQ⟩:=Yw.mp hn
   obtain ⟨h2,ym⟩:=Yw.mp e1
   exact hm ((ZE h.nd).mp (vQ.trans ym.symm))
  exact ⟨b,e1,r'.mono f λu q=>by rw [av hb];exact q⟩
end
noncomputable abbrev bW:=XD→St→Hp→Prop
variable {EE:bW}
section
variable (K:Yz) (mg:Str→Option V3) (EE:bW)
noncomputable def iQ (H:Hp) (σ:St) (τ:DS) (ρ:List Addr):Out D→VK→Prop
 | .stuck,_=>False
 | .ok d G',Q=>∀ v H' ρ',bS K H H' ρ ρ'→Ab K mg σ H' τ ρ' G'→Rep K mg ρ' H' d v→Q v H'
 | .bC c G',_=>∀ H' ρ',bS K H H' ρ ρ'→Ab K mg σ H' τ ρ' G'→EE c σ H'
noncomputable def GX (H:Hp) (σ:St) (τ:DS) (ρ:List Addr):Out Bool→(Bool→Hp→Prop)→Prop
 | .stuck,_=>False
 | .ok b G',Q=>∀ H' ρ',bS K H H' ρ ρ'→Ab K mg σ H' τ ρ' G'→Q b H'
 | .bC c G',_=>∀ H' ρ',bS K H H' ρ ρ'→Ab K mg σ H' τ ρ' G'→EE c σ H'
noncomputable def OM (H:Hp) (σ:St) (τ:DS) (ρ:List Addr):Out (List D)→(List V→Hp→Prop)→Prop
 | .stuck,_=>False
 | .ok ds G',Q=>∀ vs H' ρ',bS K H H' ρ ρ'→Ab K mg σ H' τ ρ' G'→au K mg ρ' H' ds vs→Q vs H'
 | .bC c G',_=>∀ H' ρ',bS K H H' ρ ρ'→Ab K mg σ H' τ ρ' G'→EE c σ H'
noncomputable def aW (m:DS→M D):TE:=λσ H Q=>∃ τ ρ G,Ab K mg σ H τ ρ G∧iQ K mg EE H σ τ ρ (m τ G) Q
noncomputable def liftT (m:DS→M Bool):TT:=λσ H Q=>∃ τ ρ G,Ab K mg σ H τ ρ G∧GX K mg EE H σ τ ρ (m τ G) Q
noncomputable def iu (m:DS→M (List D)):TA:=λσ H Q=>∃ τ ρ G,Ab K mg σ H τ ρ G∧OM K mg EE H σ τ ρ (m τ G) Q
inductive Res where
 | stuck
 | nx (τ:DS) (G:DH)
 | rt (d:D) (G:DH)
 | bk (τ:DS) (G:DH)
 | ct (τ:DS) (G:DH)
 | xn (c:XD) (τ:DS) (G:DH)
noncomputable def rX (H:Hp) (ρ:List Addr) (Dd:Ends):Res→Prop
 | .stuck=>False
 | .nx τ G=>∀ σ' H' ρ',bS K H H' ρ ρ'→Ab K mg σ' H' τ ρ' G→Dd.nx σ' H'
 | .bk τ G=>∀ σ' H' ρ',bS K H H' ρ ρ'→Ab K mg σ' H' τ ρ' G→Dd.bk σ' H'
 | .ct τ G=>∀ σ' H' ρ',bS K H H' ρ ρ'→Ab K mg σ' H' τ ρ' G→Dd.ct σ' H'
 | .rt d G=>∀ v H' ρ',bS K H H' ρ ρ'→eO K mg H' ρ' G→Rep K mg ρ' H' d v→Dd.rt v H'
 | .xn c τ G=>∀ σ' H' ρ',bS K H H' ρ ρ'→Ab K mg σ' H' τ ρ' G→EE c σ' H'
noncomputable abbrev MS:=DS→DH→Res
noncomputable def gi (m:MS):TS:=λDd σ H=>∃ τ ρ G,Ab K mg σ H τ ρ G∧rX K mg EE H ρ Dd (m τ G)
end
variable {ms:MS}
section
variable {K:Yz} {mg:Str→Option V3} {EE:bW} {H H1:Hp} {σ:L2.St} {τ:DS} {ρ ρ1:List Addr}
theorem iQ.fut {r:Out D} {Q:VK} (f:bS K H H1 ρ ρ1) (h:iQ K mg EE H σ τ ρ r Q):iQ K mg EE H1 σ τ ρ1 r Q:=by
 cases r with
 | stuck=>exact h
 | ok d G'=>exact λv H' ρ' f'=>h v H' ρ' (f.trans f')
 | bC c G'=>exact λH' ρ' f'=>h H' ρ' (f.trans f')
theorem GX.fut {r:Out Bool} {Q:Bool→Hp→Prop} (f:bS K H H1 ρ ρ1) (h:GX K mg EE H σ τ ρ r Q):GX K mg EE H1 σ τ ρ1 r Q:=by
 cases r with
 | stuck=>exact h
 | ok d G'=>exact λH' ρ' f'=>h H' ρ' (f.trans f')
 | bC c G'=>exact λH' ρ' f'=>h H' ρ' (f.trans f')
theorem OM.fut {r:Out (List D)} {Q:List V→Hp→Prop} (f:bS K H H1 ρ ρ1) (h:OM K mg EE H σ τ ρ r Q):OM K mg EE H1 σ τ ρ1 r Q:=by
 cases r with
 | stuck=>exact h
 | ok d G'=>exact λv H' ρ' f'=>h v H' ρ' (f.trans f')
 | bC c G'=>exact λH' ρ' f'=>h H' ρ' (f.trans f')
theorem rX.fut {r:Res} (f:bS K H H1 ρ ρ1) (h:rX K mg EE H ρ Dd r):rX K mg EE H1 ρ1 Dd r:=by
 cases r with
 | stuck=>exact h
 | nx τ G=>exact λs H' ρ' f'=>h s H' ρ' (f.trans f')
 | bk τ G=>exact λs H' ρ' f'=>h s H' ρ' (f.trans f')
 | ct τ G=>exact λs H' ρ' f'=>h s H' ρ' (f.trans f')
 | rt d G=>exact λs H' ρ' f'=>h s H' ρ' (f.trans f')
 | xn c τ G=>exact λs H' ρ' f'=>h s H' ρ' (f.trans f')
theorem lg {m:DS→M D} {k:DS→D→M D} {Q:VK} (h:aW K mg EE (λτ=>(m τ).bind (k τ)) σ H Q) :
  aW K mg EE m σ H λx H1=>∃ τ ρ G d,Ab K mg σ H1 τ ρ G∧Rep K mg ρ H1 d x∧iQ K mg EE H1 σ τ ρ (k τ d G) Q:=by
 obtain ⟨τ,ρ,G,ab,ok⟩:=h
 refine ⟨τ,ρ,G,ab,?_⟩
 dsimp only [M.bind] at ok
 cases e:m τ G with
 | stuck=>rw [e] at ok;exact ok
 | bC c G'=>rw [e] at ok;exact ok
 | ok d G'=>rw [e] at ok;exact λv H' ρ' f bu r=>⟨τ,ρ',G',d,bu,r,ok.fut f⟩
theorem C9 {m:DS→M D} {k:DS→D→M Bool} {Q:Bool→Hp→Prop} (h:liftT K mg EE (λτ=>(m τ).bind (k τ)) σ H Q) :
  aW K mg EE m σ H λx H1=>∃ τ ρ G d,Ab K mg σ H1 τ ρ G∧Rep K mg ρ H1 d x∧GX K mg EE H1 σ τ ρ (k τ d G) Q:=by
 obtain ⟨τ,ρ,G,ab,ok⟩:=h
 refine ⟨τ,ρ,G,ab,?_⟩
 dsimp only [M.bind] at ok
 cases e:m τ G with
 | stuck=>rw [e] at ok;exact ok
 | bC c G'=>rw [e] at ok;exact ok
 | ok d G'=>rw [e] at ok;exact λv H' ρ' f bu r=>⟨τ,ρ',G',d,bu,r,ok.fut f⟩
theorem yJ {m:DS→M Bool} {k:DS→Bool→M Bool} {Q:Bool→Hp→Prop} (h:liftT K mg EE (λτ=>(m τ).bind (k τ)) σ H Q) :
  liftT K mg EE m σ H λb H1=>∃ τ ρ G,Ab K mg σ H1 τ ρ G∧GX K mg EE H1 σ τ ρ (k τ b G) Q:=by
 obtain ⟨τ,ρ,G,ab,ok⟩:=h
 refine ⟨τ,ρ,G,ab,?_⟩
 dsimp only [M.bind] at ok
 cases e:m τ G with
 | stuck=>rw [e] at ok;exact ok
 | bC c G'=>rw [e] at ok;exact ok
 | ok d G'=>rw [e] at ok;exact λH' ρ' f bu=>⟨τ,ρ',G',bu,ok.fut f⟩
theorem Dc {m:DS→M D} {k:DS→D→M (List D)} {Q:List V→Hp→Prop} (h:iu K mg EE (λτ=>(m τ).bind (k τ)) σ H Q) :
  aW K mg EE m σ H λx H1=>∃ τ ρ G d,Ab K mg σ H1 τ ρ G∧Rep K mg ρ H1 d x∧OM K mg EE H1 σ τ ρ (k τ d G) Q:=by
 obtain ⟨τ,ρ,G,ab,ok⟩:=h
 refine ⟨τ,ρ,G,ab,?_⟩
 dsimp only [M.bind] at ok
 cases e:m τ G with
 | stuck=>rw [e] at ok;exact ok
 | bC c G'=>rw [e] at ok;exact ok
 | ok d G'=>rw [e] at ok;exact λv H' ρ' f bu r=>⟨τ,ρ',G',d,bu,r,ok.fut f⟩
theorem jm {k:DS→List D→M D} {Q:VK} (h:aW K mg EE (λτ=>(m τ).bind (k τ)) σ H Q) :
  iu K mg EE m σ H λx H1=>∃ τ ρ G d,Ab K mg σ H1 τ ρ G∧au K mg ρ H1 d x∧iQ K mg EE H1 σ τ ρ (k τ d G) Q:=by
 obtain ⟨τ,ρ,G,ab,ok⟩:=h
 refine ⟨τ,ρ,G,ab,?_⟩
 dsimp only [M.bind] at ok
 cases e:m τ G with
 | stuck=>rw [e] at ok;exact ok
 | bC c G'=>rw [e] at ok;exact ok
 | ok d G'=>rw [e] at ok;exact λv H' ρ' f bu r=>⟨τ,ρ',G',d,bu,r,ok.fut f⟩
noncomputable def bL {α:Type} (m:M α) (k:α→DH→Res) (x:XD→DH→Res):DH→Res:=λG=>match m G with
 | .stuck=>.stuck
 | .ok a G'=>k a G'
 | .bC c G'=>x c G'
theorem pM {m:DS→M D} {k:DS→D→DH→Res} (h:gi K mg EE (λτ=>bL (m τ) (k τ) λc G=>.xn c τ G) Dd σ H) :
  aW K mg EE m σ H λx H1=>∃ τ ρ G d,Ab K mg σ H1 τ ρ G∧Rep K mg ρ H1 d x∧rX K mg EE H1 ρ Dd (k τ d G):=by
 obtain ⟨τ,ρ,G,ab,ok⟩:=h
 refine ⟨τ,ρ,G,ab,?_⟩
 dsimp only [bL] at ok
 cases e:m τ G with
 | stuck=>rw [e] at ok;exact ok
 | bC c G'=>rw [e] at ok;exact λH' ρ' f bu=>ok σ H' ρ' f bu
 | ok d G'=>rw [e] at ok;exact λv H' ρ' f bu r=>⟨τ,ρ',G',d,bu,r,ok.fut f⟩
theorem De {m:DS→M Bool} {k:DS→Bool→DH→Res} (h:gi K mg EE (λτ=>bL (m τ) (k τ) λc G=>.xn c τ G) Dd σ H) :
  liftT K mg EE m σ H λb H1=>∃ τ ρ G,Ab K mg σ H1 τ ρ G∧rX K mg EE H1 ρ Dd (k τ b G):=by
 obtain ⟨τ,ρ,G,ab,ok⟩:=h
 refine ⟨τ,ρ,G,ab,?_⟩
 dsimp only [bL] at ok
 cases e:m τ G with
 | stuck=>rw [e] at ok;exact ok
 | bC c G'=>rw [e] at ok;exact λH' ρ' f bu=>ok σ H' ρ' f bu
 | ok d G'=>rw [e] at ok;exact λH' ρ' f bu=>⟨τ,ρ',G',bu,ok.fut f⟩
end
noncomputable def QE (X:Cx) (EE:bW) (e:Expr) (m:DS→M D):Prop:=PE X e (aW X.K X.mg EE m)
noncomputable def QT (X:Cx) (EE:bW) (e:Expr) (m:DS→M Bool):Prop:=PT X e (liftT X.K X.mg EE m)
noncomputable def QW (X:Cx) (EE:bW) (e:Expr) (m:DS→M Bool):Prop:=PW X e (liftT X.K X.mg EE m)
noncomputable def QA (X:Cx) (EE:bW) (es:List Expr) (m:DS→M (List D)):Prop:=PA X es (iu X.K X.mg EE m)
noncomputable def QS (X:Cx) (EE:bW) (st:Stmt) (m:MS):Prop:=PS X st (gi X.K X.mg EE m)
noncomputable def rY (X:Cx) (EE:bW) (st:List Stmt) (m:MS):Prop:=yt X st (gi X.K X.mg EE m)
section
variable {X:Cx}
theorem PE.mono {t t':TE} (h:PE X e t) (i:∀ σ H Q,t' σ H Q→t σ H Q):PE X e t':=λpins s σ H Q I q=>h pins s σ H Q I (i _ _ _ q)
theorem PT.mono {t t':TT} (h:PT X e t) (i:∀ σ H Q,t' σ H Q→t σ H Q):PT X e t':=λpins s σ H Q I q=>h pins s σ H Q I (i _ _ _ q)
theorem PA.mono {e:List Expr} {t t':TA} (h:PA X e t) (i:∀ σ H Q,t' σ H Q→t σ H Q):PA X e t':=λpos pins s σ H Q I q=>h pos pins s σ H Q I (i _ _ _ q)
theorem PS.mono {e:Stmt} {t t':TS} (h:PS X e t) (i:∀ D σ H,t' D σ H→t D σ H):PS X e t':=λpins s σ H D I q=>h pins s σ H D I (i _ _ _ q)
theorem yt.mono {e:List Stmt} {t t':TS} (h:yt X e t) (i:∀ D σ H,t' D σ H→t D σ H):yt X e t':=λpins s σ H D I q=>h pins s σ H D I (i _ _ _ q)
end
section
variable {X:Cx} {EE:bW} {a b c:Expr} {ma mb mc:DS→M D} {pos:Pos}
noncomputable def af (i:Nat):DS→M D:=λτ G=>match τ[i]? with
 | some (some d)=>.ok d G
 | _=>.stuck
noncomputable def eC (d:D):DS→M D:=λ_=>M.ret d
theorem LH (i:Nat) {x:Str} {pos:Pos} (hN:X.N[i]?=some x:=by rfl) (hv:CJ X.env.scope x:=by first | exact Or.inl rfl | exact ad1 (Or.inl rfl) | exact ad1 (ad1 rfl)) (hd:(x==("__debug__":Str))=false:=by decide)
  (hcd:(x==("__classdict__":Str))=false:=by decide):QE X EE (.Name x pos) (af i):=PE.mono (yu hN hv hd hcd) λσ H Q ⟨τ,ρ,G,ab,ok⟩=>by
 unfold af at ok
 cases e:τ[i]? with
 | none=>rw [e] at ok;exact ok.elim
 | some o=>
  cases o with
  | none=>rw [e] at ok;exact ok.elim
  | some d=>
   rw [e] at ok
   obtain ⟨v,e1,r⟩:=ab.st.2 i d e
   exact ⟨v,e1,ok v H ρ .refl ab r⟩
theorem GY {d:D} (h:PE X e (tC v)) (r:∀ ρ H,Rep X.K X.mg ρ H d v):QE X EE e (eC d):=PE.mono h λσ H Q zz=>by obtain ⟨τ,ρ,G,ab,ok⟩:=zz;exact ok v H ρ .refl ab (r ρ H)
theorem LI {i:Int} {j pos}:QE X EE (.Constant (.int i) j pos) (eC (.int i)):=GY KL λ_ _=>by unfold Rep;rfl
theorem ON {i:Bool} {j pos}:QE X EE (.Constant (.bool i) j pos) (eC (.bl i)):=GY Oc λ_ _=>by unfold Rep;rfl
theorem LJ {x j pos}:QE X EE (.Constant (.str x) j pos) (eC (.str x)):=GY KN λ_ _=>by unfold Rep;rfl
noncomputable def ao (f:D→D→M D) (ma mb:DS→M D):DS→M D:=λτ=>(ma τ).bind λx=>(mb τ).bind λy=>f x y
noncomputable def Df (X:Cx) (EE:bW) (r:R2) (f:D→D→M D):Prop:=∀ (σ:L2.St) (H:Hp) (τ:DS) (ρ:List Addr) (G:DH) (x y:V) (d e:D) (Q:VK),
 Ab X.K X.mg σ H τ ρ G→Rep X.K X.mg ρ H d x→Rep X.K X.mg ρ H e y→iQ X.K X.mg EE H σ τ ρ (f d e G) Q→r x y H Q
theorem oQ {r:R2} (hd:Df X EE r f) {σ:L2.St} {H:Hp} {Q:VK} (h:aW X.K X.mg EE (ao f ma mb) σ H Q) :
  Om r (aW X.K X.mg EE ma) (aW X.K X.mg EE mb) σ H Q:=by
 obtain ⟨τ,ρ,G,ab,ok⟩:=lg (k:=λτ x=>(mb τ).bind λy=>f x y) h
 refine ⟨τ,ρ,G,ab,?_⟩
 cases e:ma τ G with
 | stuck=>rw [e] at ok;exact ok
 | bC c G'=>rw [e] at ok;exact ok
 | ok d G'=>
  rw [e] at ok
  intro v H' ρ' f' bu r'
  obtain ⟨τ2,ρ2,G2,d2,bM,r2,aK⟩:=ok v H' ρ' f' bu r'
  refine ⟨τ2,ρ2,G2,bM,?_⟩
  dsimp only [M.bind] at aK
  cases e2:mb τ2 G2 with
  | stuck=>rw [e2] at aK;exact aK
  | bC c G'=>rw [e2] at aK;exact aK
  | ok d3 G3=>
   rw [e2] at aK
   exact λv3 H3 ρ3 f3 nT r3=>hd σ H3 τ2 ρ3 G3 v v3 d2 d3 Q nT (r2.mono f3) r3 (aK.fut f3)
theorem kX {op:Operator} {r:R2} (ho:iR X (binaryOp op) r) (hd:Df X EE r f) (ha:QE X EE a ma) (hb:QE X EE b mb):QE X EE (.BinOp a op b pos) (ao f ma mb):=
 PE.mono (Oo ho ha hb) λ_ _ _ h=>oQ hd h
theorem LK {r:R2} (ho:iR X (compareOp op) r) (hd:Df X EE r f) (ha:QE X EE a ma) (hb:QE X EE b mb) (hm:behindInMarks op b=false):QE X EE (.Compare a [op] [b] pos) (ao f ma mb):=
 PE.mono (Gz ho ha hb hm) λ_ _ _ h=>oQ hd h
theorem OO {r:R2} (ho:Gd X r) (hd:Df X EE r f) (ha:QE X EE a ma) (hb:QE X EE b mb) (hs:oM b:=by intro _ _;rfl):QE X EE (.Subscript a b pos) (ao f ma mb):=
 PE.mono (OE ho ha hb hs) λ_ _ _ h=>oQ hd h
theorem Df.or {r r':R2} (h:∀ (σ:L2.St) (H:Hp) (τ:DS) (ρ:List Addr) (G:DH) (x y:V) (d e:D) (Q:VK),
 Ab X.K X.mg σ H τ ρ G→Rep X.K X.mg ρ H d x→Rep X.K X.mg ρ H e y→iQ X.K X.mg EE H σ τ ρ (f d e G) Q→r x y H Q∨r' x y H Q):Df X EE (λx y H Q=>r x y H Q∨r' x y H Q) f:=h
noncomputable def cK (C:Int→Int→Bool) (g:Int→Int→D):D→D→M D
 | .int i,.int j=>if C i j then M.ret (g i j) else M.stop
 | _,_=>M.stop
theorem z7 {C:Int→Int→Bool} {g:Int→Int→D} {d e:D} {Q:VK} (ok:iQ X.K X.mg EE H σ τ ρ (cK C g d e G) Q) :
  ∃ i j,d=.int i∧e=.int j∧C i j=true∧iQ X.K X.mg EE H σ τ ρ (.ok (g i j) G) Q:=by
 cases d<;>cases e<;>try exact ok.elim
 rename_i i j
 dsimp only [cK] at ok
 cases hc:C i j with
 | false=>rw [hc] at ok;exact ok.elim
 | true=>rw [hc] at ok;exact ⟨i,j,rfl,rfl,hc,ok⟩
theorem kC {C:Int→Int→Bool} {P:Int→Int→Prop} {g:Int→Int→D} (hC:∀ i j,C i j=true→P i j) (hg:∀ i j ρ H,Rep X.K X.mg ρ H (g i j) (gv i j)):Df X EE (rI P gv) (cK C g):=
 λσ H τ ρ G x y d e Q ab r1 r2 ok=>by
  obtain ⟨i,j,rfl,rfl,hc,ok⟩:=z7 ok
  unfold Rep at r1 r2
  exact ⟨i,j,r1,r2,hC i j hc,ok _ H ρ .refl ab (hg i j ρ H)⟩
theorem iS {g:Int→Int→D} (hg:∀ i j ρ H,Rep X.K X.mg ρ H (g i j) (gv i j)):Df X EE (Gb gv) (cK (λ_ _=>true) g):=
 λσ H τ ρ G x y d e Q ab r1 r2 ok=>by
  obtain ⟨i,j,rfl,rfl,hc,ok⟩:=z7 ok
  unfold Rep at r1 r2
  exact ⟨i,j,r1,r2,ok _ H ρ .refl ab (hg i j ρ H)⟩
noncomputable abbrev oA:=cK (λ_ _=>true) λi j=>.int (i - j)
noncomputable abbrev Bf:=cK (λi j=>(decide (-(2^64)<i)&&decide (i<2^64))||(decide (-(2^64)<j)&&decide (j<2^64))) λi j=>.int (i*j)
noncomputable abbrev z8:=cK (λ_ j=>decide (0<j)&&decide (j<1073741824)) λi j=>.int (i / j)
noncomputable abbrev eS:=cK (λ_ j=>decide (0<j)) λi j=>.int (i % j)
noncomputable abbrev GZ:=cK (λi j=>decide (0≤j)&&(decide (j≤1000000)&&decide (i.natAbs<2^64))) λi j=>.int (i^j.toNat)
noncomputable abbrev RW:=cK (λ_ _=>true) λi j=>.bl (decide (i<j))
noncomputable abbrev Bg:=cK (λ_ _=>true) λi j=>.bl (decide (j<i))
noncomputable abbrev QZ:=cK (λ_ _=>true) λi j=>.bl (decide (j≤i))
theorem LM (ha:QE X EE a ma) (hb:QE X EE b mb):QE X EE (.BinOp a .Sub b pos) (ao oA ma mb):=kX K8 (iS λ_ _ _ _=>by unfold Rep;rfl) ha hb
theorem LN (ha:QE X EE a ma) (hb:QE X EE b mb):QE X EE (.BinOp a .Mult b pos) (ao Bf ma mb):=kX K9 (kC (λi j h=>by
 simp only [abK,ZF,decide_eq_true_eq] at h;exact h) λ_ _ _ _=>by unfold Rep;rfl) ha hb
theorem G4 (ha:QE X EE a ma) (hb:QE X EE b mb):QE X EE (.BinOp a .FloorDiv b pos) (ao z8 ma mb):=kX Gy (kC (λi j h=>by
 simp only [ZF,decide_eq_true_eq] at h;exact h) λ_ _ _ _=>by unfold Rep;rfl) ha hb
theorem LO (ha:QE X EE a ma) (hb:QE X EE b mb):QE X EE (.BinOp a .Mod b pos) (ao eS ma mb):=kX La (kC (λi j h=>of_decide_eq_true h) λ_ _ _ _=>by unfold Rep;rfl) ha hb
theorem LP (ha:QE X EE a ma) (hb:QE X EE b mb):QE X EE (.BinOp a .Pow b pos) (ao GZ ma mb):=kX Lb (kC (λi j h=>by
 simp only [ZF,decide_eq_true_eq] at h;exact h) λ_ _ _ _=>by unfold Rep;rfl) ha hb
noncomputable def aS (ds:List D):M D:=λG=>if ds.length≤Yx then .ok (.obj G.length) (G++[.lst ds]) else .stuck
noncomputable def bx (ds:List D):M D:=λG=>if ds.length≤Yx then .ok (.tup ds) G else .stuck
theorem pN {Q:VK} (ab:Ab X.K X.mg σ H τ ρ G) (r:au X.K X.mg ρ H ds vs) (ok:iQ X.K X.mg EE H σ τ ρ (aS ds G) Q) :
  vs.length≤Yx∧∀ p,H p=none→Q (.ref p) (upd H p (.lst vs)):=by
 unfold aS at ok
 split at ok
 ·rename_i hl
  rw [r.length] at hl
  refine ⟨hl,λp hp=>?_⟩
  have f:bS X.K H (upd H p (.lst vs)) ρ (ρ++[p]):=(cR hp ρ).trans (cE ρ p)
  refine ok (.ref p) _ (ρ++[p]) f (ab.fut f (ab.hp.more hp r)) ?_
  unfold Rep
  exact ⟨p,rfl,by rw [← ab.hp.hl,aB]⟩
 ·exact ok.elim
theorem pO {Q:VK} (ab:Ab X.K X.mg σ H τ ρ G) (r:au X.K X.mg ρ H ds vs) (ok:iQ X.K X.mg EE H σ τ ρ (bx ds G) Q) :
  vs.length≤Yx∧∀ p,H p=none→Q (.ref p) (upd H p (.tup vs)):=by
 unfold bx at ok
 split at ok
 ·rename_i hl
  rw [r.length] at hl
  refine ⟨hl,λp hp=>?_⟩
  have f:bS X.K H (upd H p (.tup vs)) ρ ρ:=cR hp ρ
  refine ok (.ref p) _ ρ f (ab.fut f (ab.hp.new hp)) ?_
  unfold Rep
  exact ⟨p,vs,rfl,.of aM,r.mono f⟩
 ·exact ok.elim
noncomputable def ai:DS→M (List D):=λ_=>M.ret []
noncomputable def aa (m:DS→M D) (r:DS→M (List D)):DS→M (List D):=λτ=>(m τ).bind λx=>(r τ).bind λxs=>M.ret (x::xs)
theorem LQ:QA X EE [] ai:=PA.mono yF λσ H Q zz=>by obtain ⟨τ,ρ,G,ab,ok⟩:=zz;exact ok [] H ρ .refl ab .nil
theorem G5 {m:DS→M D} (ha:QE X EE e m) (hr:QA X EE es r) (hs:YZ (e::es) X.env=(false,eval e X.env)::YZ es X.env:=by rfl):QA X EE (e::es) (aa m r):=
 PA.mono (uh ha hr hs) λσ H Q h=>by
  obtain ⟨τ,ρ,G,ab,ok⟩:=Dc (k:=λτ x=>(r τ).bind λxs=>M.ret (x::xs)) h
  refine ⟨τ,ρ,G,ab,?_⟩
  cases e:m τ G with
  | stuck=>rw [e] at ok;exact ok
  | bC c G'=>rw [e] at ok;exact ok
  | ok d G'=>
   rw [e] at ok
   intro v H' ρ' f' bu r'
   obtain ⟨τ2,ρ2,G2,d2,bM,r2,aK⟩:=ok v H' ρ' f' bu r'
   refine ⟨τ2,ρ2,G2,bM,?_⟩
   dsimp only [M.bind] at aK
   cases e2:r τ2 G2 with
   | stuck=>rw [e2] at aK;exact aK
   | bC c G'=>rw [e2] at aK;exact aK
   | ok d3 G3=>
    rw [e2] at aK
    exact λv3 H3 ρ3 f3 nT r3=>aK (v::v3) H3 ρ3 f3 nT (.cons (r2.mono f3) r3)
noncomputable def ak (f:List D→M D) (m:DS→M (List D)):DS→M D:=λτ=>(m τ).bind f
theorem kD {m:DS→M (List D)} {f:List D→M D} {r:List V→Hp→VK→Prop} {σ:L2.St} {H:Hp} {Q:VK}
  (hd:∀ (H:Hp) (τ:DS) (ρ:List Addr) (G:DH) (xs:List V) (ds:List D),Ab X.K X.mg σ H τ ρ G→au X.K X.mg ρ H ds xs→iQ X.K X.mg EE H σ τ ρ (f ds G) Q→r xs H Q)
  (h:aW X.K X.mg EE (ak f m) σ H Q):iu X.K X.mg EE m σ H λxs H1=>r xs H1 Q:=by
 obtain ⟨τ,ρ,G,ab,ok⟩:=jm (k:=λ_=>f) h
 refine ⟨τ,ρ,G,ab,?_⟩
 cases e:m τ G with
 | stuck=>rw [e] at ok;exact ok
 | bC c G'=>rw [e] at ok;exact ok
 | ok d G'=>
  rw [e] at ok
  intro v H' ρ' f' bu r'
  obtain ⟨τ2,ρ2,G2,d2,bM,r2,aK⟩:=ok v H' ρ' f' bu r'
  exact hd H' τ2 ρ2 G2 v d2 bM r2 aK
theorem LR {x1} (h:QA X EE es m):QE X EE (.Tuple es x1 pos) (ak bx m):=
 PE.mono (Ll h) λσ H Q h=>kD (r:=λxs H1 Q=>xs.length≤Yx∧∀ p,H1 p=none→Q (.ref p) (upd H1 p (.tup xs))) (λH τ ρ G xs ds ab r ok=>pO ab r ok) h
theorem LS (h:QA X EE es m):QE X EE (.List es pos) (ak aS m):=
 PE.mono (Lm h) λσ H Q h=>kD (r:=λxs H1 Q=>xs.length≤Yx∧∀ p,H1 p=none→Q (.ref p) (upd H1 p (.lst xs))) (λH τ ρ G xs ds ab r ok=>pN ab r ok) h
noncomputable def CallD (X:Cx) (EE:bW) (r:List V→Hp→VK→Prop) (f:List D→M D):Prop:=∀ (σ:L2.St) (H:Hp) (τ:DS) (ρ:List Addr) (G:DH) (xs:List V) (ds:List D) (Q:VK),
 Ab X.K X.mg σ H τ ρ G→au X.K X.mg ρ H ds xs→iQ X.K X.mg EE H σ τ ρ (f ds G) Q→r xs H Q
theorem Dg {p:Pos} {id:String} {r:List V→Hp→VK→Prop} {f:List D→M D} (hc:eX X (.builtin id) r) (hd:CallD X EE r f) (hm:X.mg x=none) (ha:QA X EE (e::es) m)
  (hg:Gl X x:=by rfl) (hv:bootBuiltins x=some (.builtin id):=by first | rfl | decide) (hn:x≠"__name__":=by decide) (hdb:(x==("__debug__":Str))=false:=by decide)
  (he:YZ (e::es) X.env=(false,eval e X.env)::YZ es X.env:=by rfl) (hpl:(backTo pos (YZ es X.env)).any (·.1)=false:=by rfl):QE X EE (.Call (.Name x p) (e::es) [] pos) (ak f m):=
 PE.mono (CS hc hg hm hv ha hn hdb he hpl) λσ H Q h=>kD (r:=r) (λH τ ρ G xs ds ab r ok=>hd σ H τ ρ G xs ds Q ab r ok) h
theorem Bh {p:Pos} {T:String} {r:List V→Hp→VK→Prop} {f:List D→M D} (hc:eX X (.type T) r) (hd:CallD X EE r f) (hm:X.mg x=none) (ha:QA X EE (e::es) m)
  (hg:Gl X x:=by rfl) (hv:bootBuiltins x=some (.type T):=by first | rfl | decide) (hn:x≠"__name__":=by decide) (hdb:(x==("__debug__":Str))=false:=by decide)
  (he:YZ (e::es) X.env=(false,eval e X.env)::YZ es X.env:=by rfl) (hpl:(backTo pos (YZ es X.env)).any (·.1)=false:=by rfl):QE X EE (.Call (.Name x p) (e::es) [] pos) (ak f m):=
 PE.mono (A9 hc hg hm hv ha hn hdb he hpl) λσ H Q h=>kD (r:=r) (λH τ ρ G xs ds ab r ok=>hd σ H τ ρ G xs ds Q ab r ok) h
noncomputable def jY (f:D→M Bool) (m:DS→M D):DS→M Bool:=λτ=>(m τ).bind f
noncomputable def kR:D→M Bool
 | .dP=>M.ret false
 | .bl b=>M.ret b
 | .int i=>M.ret (i != 0)
 | .str y=>if y.length≤Yx then M.ret ((y.length:Int) != 0) else M.stop
 | .tup xs=>M.ret (!xs.isEmpty)
 | .con xs=>M.ret (!xs.isEmpty)
 | .obj n=>λG=>match G[n]? with
  | some (.lst xs)=>.ok (!xs.isEmpty) G
  | _=>.stuck
 | .fn _=>M.stop
 | .yl _ _=>M.stop
 | .jU _ _=>M.stop
theorem jn (r:au K mg ρ H ds vs):(!vs.isEmpty)=!ds.isEmpty:=by
 have:=r.length
 cases ds<;>cases vs<;>first | rfl | (simp at this)
theorem Dh {m:DS→M D} {Q:Bool→Hp→Prop} (h:liftT X.K X.mg EE (jY kR m) σ H Q) :
  aW X.K X.mg EE m σ H λx H1=>∃ k,Li X.K x H1 k∧Q k H1:=by
 obtain ⟨τ,ρ,G,ab,ok⟩:=C9 (k:=λ_=>kR) h
 refine ⟨τ,ρ,G,ab,?_⟩
 cases e:m τ G with
 | stuck=>rw [e] at ok;exact ok
 | bC c G'=>rw [e] at ok;exact ok
 | ok d G'=>
  rw [e] at ok
  intro v H' ρ' f' bu r'
  obtain ⟨τ2,ρ2,G2,d2,bM,r2,aK⟩:=ok v H' ρ' f' bu r'
  cases d2 with
  | dP=>unfold Rep at r2;subst r2;exact ⟨false,rfl,aK H' ρ2 .refl bM⟩
  | bl b=>unfold Rep at r2;subst r2;exact ⟨b,rfl,aK H' ρ2 .refl bM⟩
  | int i=>unfold Rep at r2;subst r2;exact ⟨_,rfl,aK H' ρ2 .refl bM⟩
  | str y=>
   unfold Rep at r2;subst r2
   dsimp only [kR] at aK
   split at aK
   ·rename_i hl;exact ⟨_,⟨hl,rfl⟩,aK H' ρ2 .refl bM⟩
   ·exact aK.elim
  | tup xs=>
   unfold Rep at r2
   obtain ⟨p,vs,rfl,sq,rs⟩:=r2
   exact ⟨!vs.isEmpty,.inr (.inl ⟨vs,sq,rfl⟩),by rw [jn rs];exact aK H' ρ2 .refl bM⟩
  | con xs=>
   unfold Rep at r2
   obtain ⟨p,vs,rfl,sq,rs⟩:=r2
   exact ⟨!vs.isEmpty,.inl ⟨vs,sq.seq,rfl⟩,by rw [jn rs];exact aK H' ρ2 .refl bM⟩
  | obj n=>
   unfold Rep at r2
   obtain ⟨p,rfl,e1⟩:=r2
   dsimp only [kR] at aK
   cases q:G2[n]? with
   | none=>rw [q] at aK;exact aK.elim
   | some o=>
    cases o with
    | lst xs=>
     rw [q] at aK
     obtain ⟨p',vs,e2,hp,rs⟩:=bM.hp.lst q
     rw [e1] at e2;cases e2
     exact ⟨!vs.isEmpty,.inl ⟨vs,.of hp,rfl⟩,by rw [jn rs];exact aK H' ρ2 .refl bM⟩
    | _=>first | (rw [q] at ok;exact ok.elim) | (rw [q] at aK;exact aK.elim) | (rw [q] at e;cases e;done) | (rw [g] at ok;exact ok.elim) | (rw [g] at q;cases q;done) | (rw [g] at h;cases h;done) | (rw [g2] at ok;exact ok.elim) | (rw [g1,g2] at ok;exact ok.elim) | (rw [q1] at ok;exact ok.elim) | exact ok.elim
  | fn x=>exact aK.elim
  | yl c as=>exact aK.elim
  | jU y0 c0=>exact aK.elim
theorem LU (ha:QE X EE a ma) (he:∀ whole,isTrue a X.env whole=(do let v ← whole;standAt a.pos;holding [v] (truthy v)):=by intro _;rfl):QT X EE a (jY kR ma):=
 PT.mono (CQ ha he) λσ H Q h=>Dh h
end
noncomputable def bR {α β:Type} (f:α→Option β):List α→Option (List β)
 | []=>some []
 | a::r=>match f a,bR f r with
  | some b,some bs=>some (b::bs)
  | _,_=>none
noncomputable def jN (G:DH):Nat→D→Option PyData
 | 0,_=>none
 | _+1,.dP=>some .none
 | _+1,.bl b=>some (.bool b)
 | _+1,.int i=>some (.int i)
 | _+1,.str x=>some (.str x)
 | n+1,.tup ds=>(bR (jN G n) ds).map .tuple
 | n+1,.con ds=>(bR (jN G n) ds).map .list
 | n+1,.obj k=>match G[k]? with
  | some (.lst ds)=>(bR (jN G n) ds).map .list
  | _=>none
 | _+1,.fn _=>none
 | _+1,.yl _ _=>none
 | _+1,.jU _ _=>none
section
variable {X:Cx} {EE:bW} {pins:List (Addr×Obj)} {σ:L2.St} {H:Hp} {s:YB} {ρ:List Addr} {G:DH}
theorem readsAll {f:D→Option PyData} (hf:∀ (d:D) (x:V) (u:V3) (p:PyData),Rep X.K X.mg ρ H d x→RelV x u→f d=some p→∃ as,Reads s.heap u p as) :
  ∀ (ds:List D) (xs:List V) (us:List V3) (ps:List PyData),au X.K X.mg ρ H ds xs→Vals xs us→bR f ds=some ps→∃ as,ReadsAll s.heap us ps as
 | [],xs,us,ps,r,v,e=>by
  unfold au at r;subst r
  cases v;cases e
  exact ⟨[],.nil⟩
 | d::ds,xs,us,ps,r,v,e=>by
  unfold au at r
  obtain ⟨x,r',rfl,h1,h2⟩:=r
  cases v with
  | cons v1 v2=>
  unfold bR at e
  cases e1:f d with
  | none=>rw [e1] at e;cases e
  | some p=>
   cases e2:bR f ds with
   | none=>rw [e1,e2] at e;cases e
   | some qs=>
    rw [e1,e2] at e
    cases e
    obtain ⟨as,a1⟩:=hf d x _ p h1 v1 e1
    obtain ⟨bs,a2⟩:=readsAll hf ds r' _ qs h2 v2 e2
    exact ⟨as++bs,.cons a1 a2⟩
theorem dW (I:Inv X pins σ H s) (hp:eO X.K X.mg H ρ G):∀ (n:Nat) (d:D) (x:V) (u:V3) (p:PyData),Rep X.K X.mg ρ H d x→RelV x u→jN G n d=some p→∃ as,Reads s.heap u p as
 | 0,_,_,_,_,_,_,e=>nomatch e
 | n+1,.dP,x,u,p,r,v,e=>by unfold Rep at r;subst r;cases v;cases e;exact ⟨_,.none⟩
 | n+1,.bl b,x,u,p,r,v,e=>by unfold Rep at r;subst r;cases v;cases e;exact ⟨_,.bool b⟩
 | n+1,.int i,x,u,p,r,v,e=>by unfold Rep at r;subst r;obtain ⟨t,rfl⟩:=v;cases e;exact ⟨_,.int i t⟩
 | n+1,.str y,x,u,p,r,v,e=>by unfold Rep at r;subst r;obtain ⟨t,rfl⟩:=v;cases e;exact ⟨_,.str y t⟩
 | n+1,.tup ds,x,u,p,r,v,e=>by
  unfold Rep at r
  obtain ⟨a,xs,rfl,sq,rs⟩:=r
  cases v
  obtain ⟨its,vs,⟨o,e1,e2,k,e3⟩,_⟩:=I.tuple (rW.t sq)
  unfold jN at e
  cases q:bR (jN G n) ds with
  | none=>rw [q] at e;cases e
  | some ps=>
   rw [q] at e;cases e
   obtain ⟨as,ra⟩:=readsAll (λd x u p=>dW I hp n d x u p) ds xs its ps rs vs q
   exact ⟨as,.tuple e1 e2 e3 (by simpa using ra)⟩
 | n+1,.con ds,x,u,p,r,v,e=>by
  unfold Rep at r
  obtain ⟨a,xs,rfl,sq,rs⟩:=r
  cases v
  obtain ⟨its,vs,⟨o,k,e1,e2,e3,e4⟩,_⟩:=I.list sq.seq
  unfold jN at e
  cases q:bR (jN G n) ds with
  | none=>rw [q] at e;cases e
  | some ps=>
   rw [q] at e;cases e
   obtain ⟨as,ra⟩:=readsAll (λd x u p=>dW I hp n d x u p) ds xs its ps rs vs q
   exact ⟨_,.list e1 e2 e4 (by simpa using ra)⟩
 | n+1,.obj k,x,u,p,r,v,e=>by
  unfold Rep at r
  obtain ⟨a,rfl,e0⟩:=r
  cases v
  dsimp only [jN] at e
  cases q:G[k]? with
  | none=>rw [q] at e;cases e
  | some o=>
   cases o with
   | lst ds=>
    rw [q] at e
    obtain ⟨a',xs,e1,e2,rs⟩:=hp.lst q
    rw [e0] at e1;cases e1
    obtain ⟨its,vs,⟨o,k,e1,e2,e3,e4⟩,_⟩:=I.list (.of e2)
    dsimp only at e
    cases q:bR (jN G n) ds with
    | none=>rw [q] at e;cases e
    | some ps=>
     rw [q] at e;cases e
     obtain ⟨as,ra⟩:=readsAll (λd x u p=>dW I hp n d x u p) ds xs its ps rs vs q
     exact ⟨_,.list e1 e2 e4 (by simpa using ra)⟩
   | _=>first | (rw [q] at ok;exact ok.elim) | (rw [q] at aK;exact aK.elim) | (rw [q] at e;cases e;done) | (rw [g] at ok;exact ok.elim) | (rw [g] at q;cases q;done) | (rw [g] at h;cases h;done) | (rw [g2] at ok;exact ok.elim) | (rw [g1,g2] at ok;exact ok.elim) | (rw [q1] at ok;exact ok.elim) | exact ok.elim
 | n+1,.fn y,x,u,p,r,v,e=>nomatch e
 | n+1,.yl y _,x,u,p,r,v,e=>nomatch e
 | n+1,.jU y _,x,u,p,r,v,e=>nomatch e
end
section
variable {X:Cx} {EE:bW} {a b c:Expr} {ma mb mc:DS→M D} {pos:Pos}
noncomputable def rD (X:Cx) (EE:bW) (f:D→D→M D):R2:=λx y H Q=>∃ σ τ ρ G d e,Ab X.K X.mg σ H τ ρ G∧Rep X.K X.mg ρ H d x∧Rep X.K X.mg ρ H e y∧iQ X.K X.mg EE H σ τ ρ (f d e G) Q
theorem lX:Df X EE (rD X EE f) f:=λσ H τ ρ G x y d e Q ab r1 r2 ok=>⟨σ,τ,ρ,G,d,e,ab,r1,r2,ok⟩
theorem OP {r:R2} (h:Df X EE r f) {x y:V} {H:Hp} {Q:VK} (q:rD X EE f x y H Q):r x y H Q:=by
 obtain ⟨σ,τ,ρ,G,d,e,ab,r1,r2,ok⟩:=q
 exact h σ H τ ρ G x y d e Q ab r1 r2 ok
noncomputable abbrev deep:Nat:=600
noncomputable def wA (d e:D) (G:DH):Option Bool:=match jN G deep d,jN G deep e with
 | some p,some q=>if p.canLay0&&(q.canLay0&&decide (min p.depth q.depth≤580)) then some (ZC p q) else none
 | _,_=>none
noncomputable def fT (neg:Bool) (d e:D):M D:=λG=>match wA d e G with
 | some b=>.ok (.bl (neg ^^ b)) G
 | none=>.stuck
theorem Di (hu:X.A.units+600<cLine):iR X (compareOp .Eq) (rD X EE (fT false)):=by
 intro pins s σ0 H x y v u Q I rx ry zu
 obtain ⟨σ,τ,ρ,G,d,e,ab,r1,r2,ok⟩:=zu
 dsimp only [fT,wA] at ok
 cases e1:jN G deep d with
 | none=>rw [e1] at ok;exact ok.elim
 | some p=>
  cases e2:jN G deep e with
  | none=>rw [e1,e2] at ok;exact ok.elim
  | some q=>
   rw [e1,e2] at ok
   dsimp only at ok
   by_cases hc:(p.canLay0&&(q.canLay0&&decide (min p.depth q.depth≤580)))=true
   ·rw [if_pos hc] at ok
    simp only [ZF,decide_eq_true_eq] at hc
    obtain ⟨as,ra⟩:=dW I ab.hp deep d x v p r1 rx e1
    obtain ⟨bs,rb⟩:=dW I ab.hp deep e y u q r2 ry e2
    refine SeqAt.compareEq_reads ra rb hc.1 hc.2.1 (by nofun) ⟨.bl _,H,I,rfl,?_⟩
    have:=ok (.bl _) H ρ .refl ab (by unfold Rep;rfl)
    simpa using this
   ·rw [if_neg hc] at ok;exact ok.elim
theorem LV (hu:X.A.units+600<cLine):iR X (compareOp .NotEq) (rD X EE (fT true)):=by
 intro pins s σ0 H x y v u Q I rx ry zu
 obtain ⟨σ,τ,ρ,G,d,e,ab,r1,r2,ok⟩:=zu
 dsimp only [fT,wA] at ok
 cases e1:jN G deep d with
 | none=>rw [e1] at ok;exact ok.elim
 | some p=>
  cases e2:jN G deep e with
  | none=>rw [e1,e2] at ok;exact ok.elim
  | some q=>
   rw [e1,e2] at ok
   dsimp only at ok
   by_cases hc:(p.canLay0&&(q.canLay0&&decide (min p.depth q.depth≤580)))=true
   ·rw [if_pos hc] at ok
    simp only [ZF,decide_eq_true_eq] at hc
    obtain ⟨as,ra⟩:=dW I ab.hp deep d x v p r1 rx e1
    obtain ⟨bs,rb⟩:=dW I ab.hp deep e y u q r2 ry e2
    refine SeqAt.compareNe_reads ra rb hc.1 hc.2.1 (by nofun) ⟨.bl _,H,I,rfl,?_⟩
    have:=ok (.bl _) H ρ .refl ab (by unfold Rep;rfl)
    simpa using this
   ·rw [if_neg hc] at ok;exact ok.elim
theorem OQ (hu:X.A.units+600<cLine) (ha:QE X EE a ma) (hb:QE X EE b mb):QE X EE (.Compare a [.Eq] [b] pos) (ao (fT false) ma mb):=LK (Di hu) lX ha hb (Lh _)
inductive RX where
 | lst (xs:List D) | tup (xs:List D) | str (x:Str)
noncomputable def aD (G:DH):D→Option RX
 | .tup xs=>some (.tup xs)
 | .con xs=>some (.lst xs)
 | .obj n=>match G[n]? with
  | some (.lst xs)=>some (.lst xs)
  | _=>none
 | .str x=>some (.str x)
 | _=>none
noncomputable def JX (d:D) (ds:List D) (G:DH):Option Bool:=match jN G deep d,bR (jN G deep) ds with
 | some p,some qs=>if p.canLay0&&(ZT qs&&decide (min (aau qs) p.depth≤580)) then some (qs.any λy=>ZC y p) else none
 | _,_=>none
noncomputable def G6 (neg:Bool) (d e:D):M D:=λG=>match aD G e with
 | some (.lst ds)=>match JX d ds G with
  | some b=>.ok (.bl (neg ^^ b)) G
  | none=>.stuck
 | some (.tup ds)=>match JX d ds G with
  | some b=>.ok (.bl (neg ^^ b)) G
  | none=>.stuck
 | some (.str j)=>match d with
  | .str i=>.ok (.bl (neg ^^ !(acm j i 0 j.length 1).isEmpty)) G
  | _=>.stuck
 | none=>.stuck
theorem cB {pins:List (Addr×Obj)} {σ0:L2.St} {s:YB} {d:D} {x:V} (h:eO X.K X.mg H ρ G) (r:Rep X.K X.mg ρ H d x) (e:aD G d=some (.lst ds)) :
  ∃ p xs,x=.ref p∧lN X.K H p xs∧au X.K X.mg ρ H ds xs:=by
 cases d with
 | con xs=>
  cases e
  unfold Rep at r
  obtain ⟨a,xs,rfl,sq,rs⟩:=r
  exact ⟨a,xs,rfl,sq.seq,rs⟩
 | obj n=>
  unfold Rep at r
  obtain ⟨a,rfl,e0⟩:=r
  dsimp only [aD] at e
  cases q:G[n]? with
  | none=>rw [q] at e;cases e
  | some o=>
   cases o with
   | lst ys=>
    rw [q] at e;cases e
    obtain ⟨a',xs,e1,e2,rs⟩:=h.lst q
    rw [e0] at e1;cases e1
    exact ⟨a,xs,rfl,.of e2,rs⟩
   | _=>first | (rw [q] at ok;exact ok.elim) | (rw [q] at aK;exact aK.elim) | (rw [q] at e;cases e;done) | (rw [g] at ok;exact ok.elim) | (rw [g] at q;cases q;done) | (rw [g] at h;cases h;done) | (rw [g2] at ok;exact ok.elim) | (rw [g1,g2] at ok;exact ok.elim) | (rw [q1] at ok;exact ok.elim) | exact ok.elim
 | _=>cases e
theorem pQ {d:D} {x:V} (r:Rep X.K X.mg ρ H d x) (e:aD G d=some (.tup ds)) :
  ∃ p xs,x=.ref p∧rW H p xs∧au X.K X.mg ρ H ds xs:=by
 cases d with
 | tup xs=>
  cases e
  unfold Rep at r
  obtain ⟨a,xs,rfl,sq,rs⟩:=r
  exact ⟨a,xs,rfl,sq,rs⟩
 | obj n=>
  dsimp only [aD] at e
  cases q:G[n]? with
  | none=>rw [q] at e;cases e
  | some o=>cases o<;>(rw [q] at e;cases e)
 | _=>cases e
theorem iT {d:D} {x:V} (r:Rep X.K X.mg ρ H d x) (e:aD G d=some (.tup ds)) :
  ∃ p xs,x=.ref p∧mQ X.K H p xs∧au X.K X.mg ρ H ds xs:=let ⟨p,xs,h1,h2,h3⟩:=pQ r e;⟨p,xs,h1,h2.t,h3⟩
theorem kE {d:D} {x:V} (r:Rep X.K X.mg ρ H d x) (e:aD G d=some (.str y)):d=.str y∧x=.str y:=by
 cases d with
 | str z=>cases e;unfold Rep at r;exact ⟨rfl,r⟩
 | obj n=>
  dsimp only [aD] at e
  cases q:G[n]? with
  | none=>rw [q] at e;cases e
  | some o=>cases o<;>(rw [q] at e;cases e)
 | _=>cases e
theorem LW (I:Inv X pins σ0 H s) (hp:eO X.K X.mg H ρ G) (sq:lN X.K H p xs) (rs:au X.K X.mg ρ H ds xs)
  (e:bR (jN G deep) ds=some qs):∃ as,Reads s.heap (.ref p) (.list qs) as:=by
 obtain ⟨its,vs,⟨o,k,e1,e2,e3,e4⟩,_⟩:=I.list sq
 obtain ⟨as,ra⟩:=readsAll (λd x u p=>dW I hp deep d x u p) ds xs its qs rs vs e
 exact ⟨_,.list e1 e2 e4 (by simpa using ra)⟩
theorem LX (I:Inv X pins σ0 H s) (hp:eO X.K X.mg H ρ G) (sq:mQ X.K H p xs) (rs:au X.K X.mg ρ H ds xs)
  (e:bR (jN G deep) ds=some qs):∃ as,Reads s.heap (.ref p) (.tuple qs) as:=by
 obtain ⟨its,vs,⟨o,e1,e2,k,e3⟩,_⟩:=I.tuple sq
 obtain ⟨as,ra⟩:=readsAll (λd x u p=>dW I hp deep d x u p) ds xs its qs rs vs e
 exact ⟨_,.tuple e1 e2 e3 (by simpa using ra)⟩
theorem wB {d:D} {b:Bool} (h:JX d ds G=some b):∃ p qs,jN G deep d=some p∧bR (jN G deep) ds=some qs∧p.canLay0=true∧ZT qs=true∧min (aau qs) p.depth≤580∧b=qs.any λy=>ZC y p:=by
 unfold JX at h
 cases e1:jN G deep d with
 | none=>rw [e1] at h;cases h
 | some p=>
  cases e2:bR (jN G deep) ds with
  | none=>rw [e1,e2] at h;cases h
  | some qs=>
   rw [e1,e2] at h
   dsimp only at h
   by_cases hc:(p.canLay0&&(ZT qs&&decide (min (aau qs) p.depth≤580)))=true
   ·rw [if_pos hc] at h
    simp only [ZF,decide_eq_true_eq] at hc
    exact ⟨p,qs,rfl,rfl,hc.1,hc.2.1,hc.2.2,(Zd h).symm⟩
   ·rw [if_neg hc] at h;cases h
theorem LY (hu:X.A.units+600<cLine):iR X (compareOp .In) (rD X EE (G6 false)):=by
 intro pins s σ0 H x y v u Q I rx ry zu
 obtain ⟨σ,τ,ρ,G,d,e,ab,r1,r2,ok⟩:=zu
 dsimp only [G6] at ok
 cases q:aD G e with
 | none=>rw [q] at ok;exact ok.elim
 | some sk=>
  rw [q] at ok
  cases sk with
  | lst ds=>
   dsimp only at ok
   cases qb:JX d ds G with
   | none=>rw [qb] at ok;exact ok.elim
   | some b=>
    rw [qb] at ok
    obtain ⟨p,qs,e1,e2,h1,h2,h3,rfl⟩:=wB qb
    obtain ⟨l,xs,rfl,sq,rs⟩:=cB (pins:=pins) (σ0:=σ0) (s:=s) ab.hp r2 q
    cases ry
    obtain ⟨as,ra⟩:=dW I ab.hp deep d x v p r1 rx e1
    obtain ⟨bs,rb⟩:=LW I ab.hp sq rs e2
    refine SeqAt.in_list_reads rb ra h2 h1 (by nofun) ⟨.bl _,H,I,rfl,?_⟩
    have:=ok (.bl _) H ρ .refl ab (by unfold Rep;rfl)
    simpa using this
  | tup ds=>
   dsimp only at ok
   cases qb:JX d ds G with
   | none=>rw [qb] at ok;exact ok.elim
   | some b=>
    rw [qb] at ok
    obtain ⟨p,qs,e1,e2,h1,h2,h3,rfl⟩:=wB qb
    obtain ⟨l,xs,rfl,sq,rs⟩:=iT r2 q
    cases ry
    obtain ⟨as,ra⟩:=dW I ab.hp deep d x v p r1 rx e1
    obtain ⟨bs,rb⟩:=LX I ab.hp sq rs e2
    refine SeqAt.in_tuple_reads rb ra h2 h1 (by nofun) ⟨.bl _,H,I,rfl,?_⟩
    have:=ok (.bl _) H ρ .refl ab (by unfold Rep;rfl)
    simpa using this
  | str j=>
   obtain ⟨rfl,rfl⟩:=kE r2 q
   cases d with
   | str i=>
    unfold Rep at r1;subst r1
    refine A6 pins s σ0 H _ _ v u Q I rx ry ⟨i,j,rfl,rfl,?_⟩
    have:=ok (.bl _) H ρ .refl ab (by unfold Rep;rfl)
    simpa using this
   | _=>exact ok.elim
end
section
variable {X:Cx} {EE:bW} {a b c:Expr} {ma mb mc:DS→M D} {pos:Pos}
noncomputable def bg (d e:D):M D:=λG=>match e with
 | .int i=>match aD G d with
  | some (.lst xs)=>match kB xs i with
   | some v=>.ok v G
   | none=>.stuck
  | some (.tup xs)=>match kB xs i with
   | some v=>.ok v G
   | none=>.stuck
  | some (.str z)=>if z.length≤Yx then (match kB z.cps.toList i with
   | some c=>.ok (.str ⟨#[c]⟩) G
   | none=>.stuck) else .stuck
  | none=>.stuck
 | _=>.stuck
theorem wC {i:Int} {d:D} (r:au K mg ρ H ds vs) (h:kB ds i=some d):∃ v,kB vs i=some v∧Rep K mg ρ H d v:=by
 unfold kB at h ⊢
 rw [← r.length]
 cases e:GK ds.length i with
 | none=>rw [e] at h;cases h
 | some j=>
  rw [e] at h
  obtain ⟨v,e1,e2⟩:=r.get (show ds[j]?=some d from h)
  exact ⟨v,e1,e2⟩
theorem RY:Gd X (rD X EE bg):=by
 intro value slice pins s σ0 H x y v u Q I rx ry zu hs
 obtain ⟨σ,τ,ρ,G,d,e,ab,r1,r2,ok⟩:=zu
 cases e<;>try exact ok.elim
 rename_i i
 unfold Rep at r2;subst r2
 dsimp only [bg] at ok
 cases q:aD G d with
 | none=>rw [q] at ok;exact ok.elim
 | some sk=>
  rw [q] at ok
  cases sk with
  | lst ds=>
   dsimp only at ok
   cases qa:kB ds i with
   | none=>rw [qa] at ok;exact ok.elim
   | some z=>
    rw [qa] at ok
    obtain ⟨l,xs,rfl,sq,rs⟩:=cB (pins:=pins) (σ0:=σ0) (s:=s) ab.hp r1 q
    obtain ⟨w,e1,e2⟩:=wC rs qa
    exact GN value slice pins s σ0 H _ _ v u Q I rx ry ⟨l,xs,i,w,rfl,rfl,sq,e1,ok w H ρ .refl ab e2⟩ hs
  | tup ds=>
   dsimp only at ok
   cases qa:kB ds i with
   | none=>rw [qa] at ok;exact ok.elim
   | some z=>
    rw [qa] at ok
    obtain ⟨l,xs,rfl,sq,rs⟩:=iT r1 q
    obtain ⟨w,e1,e2⟩:=wC rs qa
    exact Ls value slice pins s σ0 H _ _ v u Q I rx ry ⟨l,xs,i,w,rfl,rfl,sq,e1,ok w H ρ .refl ab e2⟩ hs
  | str z=>
   dsimp only at ok
   obtain ⟨rfl,rfl⟩:=kE r1 q
   by_cases hz:z.length≤Yx
   ·rw [if_pos hz] at ok
    cases qa:kB z.cps.toList i with
    | none=>rw [qa] at ok;exact ok.elim
    | some c=>
     rw [qa] at ok
     exact Lu value slice pins s σ0 H _ _ v u Q I rx ry ⟨z,i,c,rfl,rfl,hz,qa,ok _ H ρ .refl ab (by unfold Rep;rfl)⟩ hs
   ·rw [if_neg hz] at ok;exact ok.elim
theorem Dj (ha:QE X EE a ma) (hb:QE X EE b mb) (hs:oM b:=by intro _ _;rfl):QE X EE (.Subscript a b pos) (ao bg ma mb):=OO RY lX ha hb hs
noncomputable def cL:DS→M (Option Int):=λ_=>M.ret none
noncomputable def bh (m:DS→M D):DS→M (Option Int):=λτ=>(m τ).bind λd=>match d with
 | .int i=>M.ret (some i)
 | _=>M.stop
noncomputable def U9 (K:Yz) (mg:Str→Option V3) (EE:bW) (H:Hp) (σ:L2.St) (τ:DS) (ρ:List Addr):Out (Option Int)→(Option Int→Hp→Prop)→Prop
 | .stuck,_=>False
 | .ok b G',Q=>∀ H' ρ',bS K H H' ρ ρ'→Ab K mg σ H' τ ρ' G'→Q b H'
 | .bC c G',_=>∀ H' ρ',bS K H H' ρ ρ'→Ab K mg σ H' τ ρ' G'→EE c σ H'
noncomputable def OR (K:Yz) (mg:Str→Option V3) (EE:bW) (m:DS→M (Option Int)):TO:=λσ H Q=>∃ τ ρ G,Ab K mg σ H τ ρ G∧U9 K mg EE H σ τ ρ (m τ G) Q
noncomputable def QO (X:Cx) (EE:bW) (e:Option Expr) (m:DS→M (Option Int)):Prop:=PO X e (OR X.K X.mg EE m)
theorem PO.mono {e:Option Expr} {t t':TO} (h:PO X e t) (i:∀ σ H Q,t' σ H Q→t σ H Q):PO X e t':=λpins s σ H Q I q=>h pins s σ H Q I (i _ _ _ q)
theorem G7:QO X EE none cL:=PO.mono GH λσ H Q zz=>by obtain ⟨τ,ρ,G,ab,ok⟩:=zz;exact ok H ρ .refl ab
theorem G8 (ha:QE X EE a ma):QO X EE (some a) (bh ma):=PO.mono (GI ha) λσ H Q zz=>by
 obtain ⟨τ,ρ,G,ab,ok⟩:=zz
 refine ⟨τ,ρ,G,ab,?_⟩
 dsimp only [bh,M.bind] at ok
 cases e:ma τ G with
 | stuck=>rw [e] at ok;exact ok
 | bC c G'=>rw [e] at ok;exact ok
 | ok d G'=>
  rw [e] at ok
  intro v H' ρ' f bu r
  cases d<;>try exact ok.elim
  rename_i i
  unfold Rep at r
  exact ⟨i,r,ok H' ρ' f bu⟩
noncomputable def cutD (xs:List D) (lo hi:Option Int):List D:=(xs.drop (HT.eW xs.length 0 lo)).take (HT.eW xs.length xs.length hi - HT.eW xs.length 0 lo)
noncomputable def yo (d:D) (lo hi:Option Int):M D:=λG=>match aD G d with
 | some (.lst xs)=>aS (cutD xs lo hi) G
 | some (.tup xs)=>if HT.eW xs.length 0 lo=0∧HT.eW xs.length xs.length hi=xs.length then .stuck else bx (cutD xs lo hi) G
 | some (.str z)=>if z.length≤Yx then .ok (.str (aba z lo hi)) G else .stuck
 | none=>.stuck
noncomputable def jo (m:DS→M D) (ml mh:DS→M (Option Int)):DS→M D:=λτ=>(m τ).bind λd=>(ml τ).bind λlo=>(mh τ).bind λhi=>yo d lo hi
noncomputable def RZ (X:Cx) (EE:bW):V→Option Int→Option Int→Hp→VK→Prop:=λx lo hi H Q=>∃ σ τ ρ G d,Ab X.K X.mg σ H τ ρ G∧Rep X.K X.mg ρ H d x∧iQ X.K X.mg EE H σ τ ρ (yo d lo hi G) Q
theorem wF (r:au K mg ρ H ds vs) (lo hi:Option Int):au K mg ρ H (cutD ds lo hi) (v9 vs lo hi):=by
 unfold cutD v9
 rw [r.length]
 exact (r.drop _).take _
theorem kF (x:Str) (l u:Option (Int×Tok)) (lo hi:Option Int) (hl:l.map (·.1)=lo) (hu:u.map (·.1)=hi) (t:Tok) (s:YB) (Q:V3→YB→Prop) (hz:x.length≤Yx)
  (h:∀ t' k,Q (.str (aba x lo hi) t') {s with toks:=k}):(sliceMade x t l u none).post Q s:=by
 subst hl hu
 cases l<;>cases u<;>exact post_val_or_str ⟨Zw (Txt.slice_le x _ _) hz,λt' k=>h t' k⟩
theorem R4:JT X (RZ X EE):=by
 intro pins s σ0 H x v vl vu lo hi sl Q I rx hs pl pu zu
 obtain ⟨σ,τ,ρ,G,d,ab,r1,ok⟩:=zu
 dsimp only [yo] at ok
 cases q:aD G d with
 | none=>rw [q] at ok;exact ok.elim
 | some sk=>
  rw [q] at ok
  cases sk with
  | lst ds=>
   obtain ⟨l,xs,rfl,sq,rs⟩:=cB (pins:=pins) (σ0:=σ0) (s:=s) ab.hp r1 q
   exact GO pins s σ0 H _ v vl vu lo hi sl Q I rx hs pl pu ⟨l,xs,rfl,sq,(pN ab (wF rs lo hi) ok).2⟩
  | tup ds=>
   obtain ⟨l,xs,rfl,sq,rs⟩:=iT r1 q
   dsimp only at ok
   by_cases hw:HT.eW ds.length 0 lo=0∧HT.eW ds.length ds.length hi=ds.length
   ·rw [if_pos hw] at ok;exact ok.elim
   ·rw [if_neg hw] at ok
    refine Lr pins s σ0 H _ v vl vu lo hi sl Q I rx hs pl pu ⟨l,xs,rfl,sq,?_,(pO ab (wF rs lo hi) ok).2⟩
    rw [← rs.length];exact hw
  | str z=>
   obtain ⟨rfl,rfl⟩:=kE r1 q
   dsimp only at ok
   by_cases hz:z.length≤Yx
   ·rw [if_pos hz] at ok
    obtain ⟨t,rfl⟩:=rx
    refine ⟨"str",_,F.slot_str_getitem.lookup,typeIs_str _ _ _,?_⟩
    obtain ⟨o,e1,e2,e3⟩:=hs
    refine ig I.os.2 ?_
    have fin:∀ t' k,0<k→EP X pins σ0 Q (.str (aba z lo hi) t') {s with toks:=k}:=λt' k ht=>⟨.str _,H,I.tok k,⟨t',rfl⟩,ok _ H ρ .refl ab (by unfold Rep;rfl)⟩
    cases pl with
    | none=>
     cases pu with
     | none=>exact aaJ (l:=none) (u:=none) (st:=none) ⟨o,e1,e2,e3⟩ rfl (kF z none none none none rfl rfl t s _ hz fin)
     | int j tj=>exact aaJ (l:=none) (u:=some (j,tj)) (st:=none) ⟨o,e1,e2,e3⟩ rfl (kF z none (some (j,tj)) none (some j) rfl rfl t s _ hz fin)
    | int i ti=>
     cases pu with
     | none=>exact aaJ (l:=some (i,ti)) (u:=none) (st:=none) ⟨o,e1,e2,e3⟩ rfl (kF z (some (i,ti)) none (some i) none rfl rfl t s _ hz fin)
     | int j tj=>exact aaJ (l:=some (i,ti)) (u:=some (j,tj)) (st:=none) ⟨o,e1,e2,e3⟩ rfl (kF z (some (i,ti)) (some (j,tj)) (some i) (some j) rfl rfl t s _ hz fin)
   ·rw [if_neg hz] at ok;exact ok.elim
theorem Dk {lo hi:Option Expr} (ha:QE X EE a ma) (hl:QO X EE lo ml) (hh:QO X EE hi mh):QE X EE (.Subscript a (.Slice lo hi none p2) pos) (jo ma ml mh):=
 PE.mono (CV R4 ha hl hh) λσ H Q zz=>by
  obtain ⟨τ,ρ,G,ab,ok⟩:=zz
  refine ⟨τ,ρ,G,ab,?_⟩
  dsimp only [jo,M.bind] at ok
  cases e1:ma τ G with
  | stuck=>rw [e1] at ok;exact ok
  | bC c G'=>rw [e1] at ok;exact ok
  | ok d G1=>
   rw [e1] at ok
   dsimp only at ok
   intro v H1 ρ1 f1 fM r1
   refine ⟨τ,ρ1,G1,fM,?_⟩
   cases e2:ml τ G1 with
   | stuck=>rw [e2] at ok;exact ok
   | bC c G'=>rw [e2] at ok;exact λH' ρ' f'=>ok H' ρ' (f1.trans f')
   | ok l G2=>
    rw [e2] at ok
    dsimp only at ok
    intro H2 ρ2 f2 bM
    refine ⟨τ,ρ2,G2,bM,?_⟩
    cases e3:mh τ G2 with
    | stuck=>rw [e3] at ok;exact ok
    | bC c G'=>rw [e3] at ok;exact λH' ρ' f'=>ok H' ρ' ((f1.trans f2).trans f')
    | ok u G3=>
     rw [e3] at ok
     dsimp only at ok
     intro H3 ρ3 f3 nT
     exact ⟨σ,τ,ρ3,G3,d,nT,r1.mono (f2.trans f3),ok.fut ((f1.trans f2).trans f3)⟩
noncomputable def z9 (ma mb:DS→M Bool):DS→M Bool:=λτ=>(ma τ).bind λc=>if c then mb τ else M.ret false
noncomputable def G9 (ma mb:DS→M Bool):DS→M Bool:=λτ=>(ma τ).bind λc=>if c then M.ret true else mb τ
noncomputable def Dl (ma:DS→M Bool):DS→M Bool:=λτ=>(ma τ).bind λc=>M.ret (!c)
variable {ta tb tc:DS→M Bool} {rest:List Expr}
theorem Dm {Q:Bool→Hp→Prop} (h:liftT X.K X.mg EE (z9 ta tb) σ H Q):Od (liftT X.K X.mg EE ta) (liftT X.K X.mg EE tb) σ H Q:=by
 obtain ⟨τ,ρ,G,ab,ok⟩:=yJ (k:=λτ c=>if c then tb τ else M.ret false) h
 refine ⟨τ,ρ,G,ab,?_⟩
 cases e:ta τ G with
 | stuck=>rw [e] at ok;exact ok
 | bC c G'=>rw [e] at ok;exact ok
 | ok k G'=>
  rw [e] at ok
  intro H' ρ' f' bu
  obtain ⟨τ2,ρ2,G2,bM,aK⟩:=ok H' ρ' f' bu
  cases k with
  | true=>exact ⟨τ2,ρ2,G2,bM,aK⟩
  | false=>exact aK H' ρ2 .refl bM
theorem Hf {Q:Bool→Hp→Prop} (h:liftT X.K X.mg EE (G9 ta tb) σ H Q):TV (liftT X.K X.mg EE ta) (liftT X.K X.mg EE tb) σ H Q:=by
 obtain ⟨τ,ρ,G,ab,ok⟩:=yJ (k:=λτ c=>if c then M.ret true else tb τ) h
 refine ⟨τ,ρ,G,ab,?_⟩
 cases e:ta τ G with
 | stuck=>rw [e] at ok;exact ok
 | bC c G'=>rw [e] at ok;exact ok
 | ok k G'=>
  rw [e] at ok
  intro H' ρ' f' bu
  obtain ⟨τ2,ρ2,G2,bM,aK⟩:=ok H' ρ' f' bu
  cases k with
  | false=>exact ⟨τ2,ρ2,G2,bM,aK⟩
  | true=>exact aK H' ρ2 .refl bM
theorem PW.mono {t t':TT} (h:PW X e t) (i:∀ σ H Q,t' σ H Q→t σ H Q):PW X e t':=λwh pins s σ H Q I q=>h wh pins s σ H Q I (i _ _ _ q)
theorem Hg (ha:QT X EE a ta):QW X EE (.BoolOp .And [a] pos) ta:=Gq ha
theorem LZ (ha:QT X EE a ta):QW X EE (.BoolOp .Or [a] pos) ta:=KO ha
theorem L0 (ha:QT X EE a ta) (hb:QW X EE (.BoolOp .And (b::rest) pos) tb):QW X EE (.BoolOp .And (a::b::rest) pos) (z9 ta tb):=PW.mono (KP ha hb) λ_ _ _ h=>Dm h
theorem OS (ha:QT X EE a ta) (hb:QW X EE (.BoolOp .Or (b::rest) pos) tb):QW X EE (.BoolOp .Or (a::b::rest) pos) (G9 ta tb):=PW.mono (Oe ha hb) λ_ _ _ h=>Hf h
theorem R5 (h:QW X EE e ta):QT X EE e ta:=h.pt
theorem L1 (ha:QT X EE a ta):QT X EE (.UnaryOp .Not a pos) (Dl ta):=PT.mono (KQ ha) λσ H Q h=>by
 obtain ⟨τ,ρ,G,ab,ok⟩:=yJ (k:=λτ c=>M.ret (!c)) h
 refine ⟨τ,ρ,G,ab,?_⟩
 cases e:ta τ G with
 | stuck=>rw [e] at ok;exact ok
 | bC c G'=>rw [e] at ok;exact ok
 | ok k G'=>
  rw [e] at ok
  intro H' ρ' f' bu
  obtain ⟨τ2,ρ2,G2,bM,aK⟩:=ok H' ρ' f' bu
  exact aK H' ρ2 .refl bM
noncomputable def g8 (m:DS→M D):DS→M Bool:=λτ=>(m τ).bind λd=>match d with
 | .bl b=>M.ret b
 | _=>M.stop
theorem Hh {m:DS→M D} {Q:Bool→Hp→Prop} (h:liftT X.K X.mg EE (g8 m) σ H Q):aW X.K X.mg EE m σ H λx H1=>∃ c,x=.bl c∧Q c H1:=by
 obtain ⟨τ,ρ,G,ab,ok⟩:=C9 (k:=λ_ d=>match d with | .bl b=>M.ret b | _=>M.stop) h
 refine ⟨τ,ρ,G,ab,?_⟩
 cases e:m τ G with
 | stuck=>rw [e] at ok;exact ok
 | bC c G'=>rw [e] at ok;exact ok
 | ok d G'=>
  rw [e] at ok
  intro v H' ρ' f' bu r'
  obtain ⟨τ2,ρ2,G2,d2,bM,r2,aK⟩:=ok v H' ρ' f' bu r'
  cases d2<;>try exact aK.elim
  rename_i k
  unfold Rep at r2
  exact ⟨k,r2,aK H' ρ2 .refl bM⟩
theorem L4 (ho:iR X (compareOp op) (rD X EE f)) (ha:QE X EE a ma) (hb:QE X EE b mb) (hm:behindInMarks op b=false):QT X EE (.Compare a [op] [b] pos) (g8 (ao f ma mb)):=
 PT.mono (GA ho ha hb hm) λσ H Q h=>by
  have h1:=Hh h
  exact oQ lX h1
theorem Dn {g:V3→V3→Sem V3} {r:R2} (ho:iR X g r) (hd:Df X EE r f):iR X g (rD X EE f):=λpins s σ H x y v u Q I rx ry q=>ho pins s σ H x y v u Q I rx ry (OP hd q)
theorem L5:iR X (compareOp .Lt) (rD X EE RW):=Dn Ou (iS λ_ _ _ _=>by unfold Rep;rfl)
theorem L6:iR X (compareOp .Gt) (rD X EE Bg):=Dn Ov (iS λ_ _ _ _=>by unfold Rep;rfl)
theorem L7:iR X (compareOp .GtE) (rD X EE QZ):=Dn Ow (iS λ_ _ _ _=>by unfold Rep;rfl)
noncomputable def Va (t:DS→M Bool) (ma mb:DS→M D):DS→M D:=λτ=>(t τ).bind λc=>if c then ma τ else mb τ
noncomputable def Dp (ma mb:DS→M D):DS→M D:=λτ=>(ma τ).bind λd=>match d with
 | .bl true=>mb τ
 | .bl false=>M.ret (.bl false)
 | _=>M.stop
noncomputable def Vb (ma mb:DS→M D):DS→M D:=λτ=>(ma τ).bind λd=>match d with
 | .bl false=>mb τ
 | .bl true=>M.ret (.bl true)
 | _=>M.stop
theorem L8 {op} (h:QE X EE a ma):QE X EE (.BoolOp op [a] pos) ma:=KR h
theorem Ma (ha:QE X EE a ma) (hb:QE X EE (.BoolOp .And (b::rest) pos) mb):QE X EE (.BoolOp .And (a::b::rest) pos) (Dp ma mb):=PE.mono (KS ha hb) λσ H Q h=>by
 obtain ⟨τ,ρ,G,ab,ok⟩:=lg (k:=λτ d=>match d with | .bl true=>mb τ | .bl false=>M.ret (.bl false) | _=>M.stop) h
 refine ⟨τ,ρ,G,ab,?_⟩
 cases e:ma τ G with
 | stuck=>rw [e] at ok;exact ok
 | bC c G'=>rw [e] at ok;exact ok
 | ok k G'=>
  rw [e] at ok
  intro v H' ρ' f' bu r'
  obtain ⟨τ2,ρ2,G2,d2,bM,r2,aK⟩:=ok v H' ρ' f' bu r'
  cases d2<;>try exact aK.elim
  rename_i k
  unfold Rep at r2
  refine ⟨k,r2,?_⟩
  cases k with
  | true=>exact ⟨τ2,ρ2,G2,bM,aK⟩
  | false=>exact aK _ H' ρ2 .refl bM (by unfold Rep;rfl)
noncomputable def lq (ma:DS→M D):DS→M D:=λτ=>(ma τ).bind λd=>match d with
 | .int i=>M.ret (.int (-i))
 | _=>M.stop
theorem Mb (ha:QE X EE a ma):QE X EE (.UnaryOp .USub a pos) (lq ma):=PE.mono (Oq Lf ha) λσ H Q h=>by
 obtain ⟨τ,ρ,G,ab,ok⟩:=lg (k:=λτ d=>match d with | .int i=>M.ret (.int (-i)) | _=>M.stop) h
 refine ⟨τ,ρ,G,ab,?_⟩
 cases e:ma τ G with
 | stuck=>rw [e] at ok;exact ok
 | bC c G'=>rw [e] at ok;exact ok
 | ok k G'=>
  rw [e] at ok
  intro v H' ρ' f' bu r'
  obtain ⟨τ2,ρ2,G2,d2,bM,r2,aK⟩:=ok v H' ρ' f' bu r'
  cases d2<;>try exact aK.elim
  rename_i k
  unfold Rep at r2
  exact ⟨k,r2,aK _ H' ρ2 .refl bM (by unfold Rep;rfl)⟩
end
section
variable {X:Cx} {EE:bW} {a b c:Expr} {ma mb mc:DS→M D} {pos:Pos} {ta tb tc:DS→M Bool} {ms mt:MS}
noncomputable def cg:MS:=λτ G=>.nx τ G
noncomputable def aG (m k:MS):MS:=λτ G=>match m τ G with
 | .nx τ' G'=>k τ' G'
 | r=>r
theorem Hi:rY X EE [] cg:=yt.mono Gr λD σ H zz=>by obtain ⟨τ,ρ,G,ab,ok⟩:=zz;exact ok σ H ρ .refl ab
theorem Dq (h:gi X.K X.mg EE (aG ms mt) Dd σ H):Oh (gi X.K X.mg EE ms) (gi X.K X.mg EE mt) Dd σ H:=by
 obtain ⟨τ,ρ,G,ab,ok⟩:=h
 refine ⟨τ,ρ,G,ab,?_⟩
 dsimp only [aG] at ok
 cases e:ms τ G with
 | nx τ' G'=>rw [e] at ok;exact λσ' H' ρ' f bu=>⟨τ',ρ',G',bu,ok.fut f⟩
 | stuck=>rw [e] at ok;exact ok
 | rt d G=>rw [e] at ok;exact ok
 | bk τ G=>rw [e] at ok;exact ok
 | ct τ G=>rw [e] at ok;exact ok
 | xn c τ G=>rw [e] at ok;exact ok
theorem Dr {st:Stmt} {rest:List Stmt} (h1:QS X EE st ms) (h2:rY X EE rest mt):rY X EE (st::rest) (aG ms mt):=yt.mono (CN h1 h2) λ_ _ _ h=>Dq h
theorem Hj {st:Stmt} (h1:QS X EE st ms):rY X EE [st] ms:=Gs h1
noncomputable def yK:MS:=λτ G=>.bk τ G
theorem Ds {pos}:QS X EE (.Break pos) yK:=PS.mono CO λD σ H zz=>by obtain ⟨τ,ρ,G,ab,ok⟩:=zz;exact ok σ H ρ .refl ab
noncomputable def gR (m:DS→M D):MS:=λτ=>bL (m τ) (λ_ G=>.nx τ G) λc G=>.xn c τ G
noncomputable def cN (m:DS→M D):MS:=λτ=>bL (m τ) (λd G=>.rt d G) λc G=>.xn c τ G
noncomputable def OT:MS:=λ_ G=>.rt .dP G
noncomputable def aJ (i:Nat) (m:DS→M D):MS:=λτ=>bL (m τ) (λd G=>.nx (τ.set i (some d)) G) λc G=>.xn c τ G
noncomputable def jZ (t:DS→M Bool) (ma mb:MS):MS:=λτ=>bL (t τ) (λc G=>if c then ma τ G else mb τ G) λc G=>.xn c τ G
theorem Ho (he:QE X EE a ma) (hs:swapsWith a none pos.line X.env=pure false:=by rfl):QS X EE (.Expr a pos) (gR ma):=PS.mono (Gu he hs) λD σ H h=>by
 obtain ⟨τ,ρ,G,ab,ok⟩:=pM (k:=λτ d G=>.nx τ G) h
 refine ⟨τ,ρ,G,ab,?_⟩
 cases e:ma τ G with
 | stuck=>rw [e] at ok;exact ok
 | bC c G'=>rw [e] at ok;exact ok
 | ok d G'=>
  rw [e] at ok
  intro v H' ρ' f' bu r'
  obtain ⟨τ2,ρ2,G2,d2,bM,r2,aK⟩:=ok v H' ρ' f' bu r'
  exact aK σ H' ρ2 .refl bM
theorem Mc (he:QE X EE a ma):QS X EE (.Return (some a) pos) (cN ma):=PS.mono (KW he) λD σ H h=>by
 obtain ⟨τ,ρ,G,ab,ok⟩:=pM (k:=λτ d G=>.rt d G) h
 refine ⟨τ,ρ,G,ab,?_⟩
 cases e:ma τ G with
 | stuck=>rw [e] at ok;exact ok
 | bC c G'=>rw [e] at ok;exact ok
 | ok d G'=>
  rw [e] at ok
  intro v H' ρ' f' bu r'
  obtain ⟨τ2,ρ2,G2,d2,bM,r2,aK⟩:=ok v H' ρ' f' bu r'
  exact aK v H' ρ2 .refl bM.hp r2
theorem Ab.set {d:D} (ab:Ab K mg σ H τ ρ G) (r:Rep K mg ρ H d v):Ab K mg (σ.set i (some v)) H (τ.set i (some d)) ρ G:=⟨ab.st.set r,ab.hp⟩
theorem Me {pos':Pos} (hN:X.N.Nodup) (he:QE X EE a ma) (hi:X.N[i]?=some x:=by rfl) (hx:Loc X.env.scope x:=by first | exact Or.inl rfl | exact ad1 rfl)
  (hs:swapsWith a (some (.Name x pos')) pos.line X.env=pure false:=by rfl) (hf:X.fn x=true∨X.env.scope.names.lookup x=some .local:=by first | exact .inl rfl | exact .inr rfl | assumption) :
  QS X EE (.Assign [.Name x pos'] a pos) (aJ i ma):=PS.mono (K1 hN hi hx he hs hf) λD σ H h=>by
 obtain ⟨τ,ρ,G,ab,ok⟩:=pM (k:=λτ d G=>.nx (τ.set i (some d)) G) h
 refine ⟨τ,ρ,G,ab,?_⟩
 cases e:ma τ G with
 | stuck=>rw [e] at ok;exact ok
 | bC c G'=>rw [e] at ok;exact ok
 | ok d G'=>
  rw [e] at ok
  intro v H' ρ' f' bu r'
  obtain ⟨τ2,ρ2,G2,d2,bM,r2,aK⟩:=ok v H' ρ' f' bu r'
  exact aK _ H' ρ2 .refl (bM.set r2)
theorem OU (hc:QT X EE c tc) (ha:rY X EE body ms) (hb:rY X EE els mt):QS X EE (.If c body els pos) (jZ tc ms mt):=PS.mono (Oj hc ha hb) λD σ H h=>by
 obtain ⟨τ,ρ,G,ab,ok⟩:=De (k:=λτ c G=>if c then ms τ G else mt τ G) h
 refine ⟨τ,ρ,G,ab,?_⟩
 cases e:tc τ G with
 | stuck=>rw [e] at ok;exact ok
 | bC c G'=>rw [e] at ok;exact ok
 | ok k G'=>
  rw [e] at ok
  intro H' ρ' f' bu
  obtain ⟨τ2,ρ2,G2,bM,aK⟩:=ok H' ρ' f' bu
  cases k with
  | true=>exact ⟨τ2,ρ2,G2,bM,aK⟩
  | false=>exact ⟨τ2,ρ2,G2,bM,aK⟩
noncomputable abbrev jT:=D→DS→Option DS
noncomputable def wG (K:Yz) (mg:Str→Option V3) (g:jT):TG:=λv σ H Q=>∃ τ ρ G d τ',Ab K mg σ H τ ρ G∧Rep K mg ρ H d v∧g d τ=some τ'∧∀ σ',Ab K mg σ' H τ' ρ G→Q σ' H
noncomputable def QG (X:Cx) (e:Expr) (g:jT):Prop:=PG X e (wG X.K X.mg g)
noncomputable def gN (i:Nat):jT:=λd τ=>some (τ.set i (some d))
theorem Hq (hN:X.N.Nodup) (hi:X.N[i]?=some x:=by rfl) (hx:Loc X.env.scope x:=by first | exact Or.inl rfl | exact ad1 rfl) (hf:X.fn x=true∨X.env.scope.names.lookup x=some .local:=by first | exact .inl rfl | exact .inr rfl | assumption) :
  QG X (.Name x pos) (gN i):=λpins s σ H v u Q I r ⟨τ,ρ,G,d,τ',ab,rd,e,q⟩=>uf hN hi hx hf pins s σ H v u Q I r (by
 cases e
 exact q _ (ab.set rd))
noncomputable def bI (g:jT) (body:MS):List D→MS
 | [],τ,G=>.nx τ G
 | d::r,τ,G=>match g d τ with
  | none=>.stuck
  | some τ1=>match body τ1 G with
   | .nx τ' G'=>bI g body r τ' G'
   | .ct τ' G'=>bI g body r τ' G'
   | .bk τ' G'=>.nx τ' G'
   | x=>x
noncomputable def uz (g:jT) (body:MS) (n:Nat):Nat→Nat→MS
 | 0,_,_,_=>.stuck
 | f+1,k,τ,G=>match G[n]? with
  | some (.lst xs)=>match xs[k]? with
   | none=>.nx τ G
   | some d=>match g d τ with
    | none=>.stuck
    | some τ1=>match body τ1 G with
     | .nx τ' G'=>uz g body n f (k+1) τ' G'
     | .ct τ' G'=>uz g body n f (k+1) τ' G'
     | .bk τ' G'=>.nx τ' G'
     | x=>x
  | _=>.stuck
end
variable {g:jT}
noncomputable def Hr (z:Str):It:=⟨λi _=>i<z.cps.size,λi H x H'=>H'=H∧∃ c,z.cps[i]?=some c∧x=.str ⟨#[c]⟩,λi _=>z.cps.size≤i⟩
theorem Dt (z:Str) (t:Tok) (it:Addr):Turn P w K tg (Hr z) [it] it (λi h=>h.IsStrIter it (strIterType z) z t i) where
 mem:=by simp
 obj:=λi h st b hb=>by
  have e:b=it:=by simpa using hb
  subst e
  obtain ⟨o,e,c,d⟩:=st
  exact ⟨o,e,λv z=>by rw [d] at z;cases z⟩
 keep:=λi h h' st k=>by
  obtain ⟨o,e,r⟩:=st
  exact ⟨o,k it (by simp) o e,r⟩
 item:=by
  intro X hP hw hK hc i pins s σ H E I hf st hg
  subst hP hw hK
  obtain ⟨f0,f1,f2,f3,f4,f5⟩:=hf it (by simp)
  have hx:z.cps[i]?=some z.cps[i]:=aa0 hg
  have fin:∀ h',h'.IsStrIter it (strIterType z) z t (i+1)→aaL it s.heap h'→∃ u,some (Value.str ⟨#[z.cps[i]]⟩ s.toks)=some u ∧
   Y0 (model X.prog X.w) X.A (letOwnedTupleGo tg (.ref it) u) (λ_ s2=>∃ x H',Inv X pins σ H' s2∧RelV x u∧(Hr z).sy i H x H'∧s2.heap.IsStrIter it (strIterType z) z t (i+1)∧∀ b∈[it],H' b=none) E {s with heap:=h',toks:=s.toks+1}:=λh' st' sb=>by
   have I1:Inv X pins σ H {s with heap:=h',toks:=s.toks+1}:=I.turned (t':=s.toks+1) (λb o hb e=>(sb.2 b hb).trans e) f0 f1 f3 f4 f5
   obtain ⟨o,e,c,d⟩:=id st'
   refine ⟨_,rfl,nP (s:={s with heap:=h',toks:=s.toks+1}) e c d ?_ ⟨.str ⟨#[z.cps[i]]⟩,H,I1,⟨_,rfl⟩,⟨rfl,_,hx,rfl⟩,st',λb hb=>(hf b hb).1⟩⟩
   unfold strIterType
   split<;>decide
  cases ha:z.cps.all (·<128) with
  | true=>
   have e:strIterType z="str_ascii_iterator":=by unfold strIterType;rw [ha];rfl
   rw [e] at st fin
   exact wpAny_pyNext_ascii_item st hx λh' st' sb=>by rw [e];exact fin h' st' sb
  | false=>
   have e:strIterType z="str_iterator":=by unfold strIterType;rw [ha];rfl
   rw [e] at st fin
   exact wpAny_pyNext_wide_item st hx λh' st' sb=>by rw [e];exact fin h' st' sb
 done:=by
  intro X hP hw hK hc i pins s σ H E I hf st hg
  subst hP hw hK
  obtain ⟨f0,f1,f2,f3,f4,f5⟩:=hf it (by simp)
  have hx:z.cps[i]?=none:=abj hg
  have fin:∀ h',adP it s.heap h'→(none:Option V3)=none∧Inv X pins σ H {s with heap:=h'}:=λh' eb=>⟨rfl,I.turned (t':=s.toks) (λb o hb e=>eb b o hb e) f0 f1 f3 f4 f5⟩
  cases ha:z.cps.all (·<128) with
  | true=>
   have e:strIterType z="str_ascii_iterator":=by unfold strIterType;rw [ha];rfl
   rw [e] at st
   exact wpAny_pyNext_ascii_end (I.ok.hd hc) st hx fin
  | false=>
   have e:strIterType z="str_iterator":=by unfold strIterType;rw [ha];rfl
   rw [e] at st
   exact wpAny_pyNext_wide_end (I.ok.hd hc) st hx fin
 self:=λA i s Q E st h=>by
  cases ha:z.cps.all (·<128) with
  | true=>
   have e:strIterType z="str_ascii_iterator":=by unfold strIterType;rw [ha];rfl
   rw [e] at st
   exact wpAny_pyIter_striter_ascii st h
  | false=>
   have e:strIterType z="str_iterator":=by unfold strIterType;rw [ha];rfl
   rw [e] at st
   exact wpAny_pyIter_striter_wide st h
section
variable {X:Cx} {EE:bW} {a b c tg:Expr} {ma mb mc:DS→M D} {pos:Pos} {ms mt:MS}
noncomputable def fD (g:jT) (m:DS→M D) (body:MS):MS:=λτ=>bL (m τ) (λd G=>match d with
 | .obj n=>match G[n]? with
  | some (.lst xs)=>uz g body n (xs.length+1) 0 τ G
  | _=>.stuck
 | .tup xs=>bI g body xs τ G
 | .con xs=>bI g body xs τ G
 | .str z=>bI g body (z.cps.toList.map λc=>.str ⟨#[c]⟩) τ G
 | _=>.stuck) λc G=>.xn c τ G
theorem kG {g:jT} {body:MS} {Dd:Ends} {J:It} {H0:Hp} {σ0:L2.St} {ρ0:List Addr} {G0:DH} {τ0:DS} (ds:List D)
  (go:∀ i H ρ,i<ds.length→bS X.K H0 H ρ0 ρ→J.go i H) (stop:∀ i H ρ,ds.length≤i→bS X.K H0 H ρ0 ρ→J.stop i H)
  (sy:∀ i d H ρ x H',ds[i]?=some d→bS X.K H0 H ρ0 ρ→J.sy i H x H'→H'=H∧Rep X.K X.mg ρ H d x)
  (ab:Ab X.K X.mg σ0 H0 τ0 ρ0 G0) (ok:rX X.K X.mg EE H0 ρ0 Dd (bI g body ds τ0 G0)) :
  ∃ W:Nat→Nat→L2.St→Hp→Prop,(∃ m,W 0 m σ0 H0)∧∀ i m σ H,W i m σ H →
   (J.stop i H∧Dd.nx σ H)∨(J.go i H∧∃ N:L2.St→Hp→Prop,(∀ σ' H',N σ' H'→∃ m',m'<m∧W (i+1) m' σ' H')∧∀ x H',J.sy i H x H'→wG X.K X.mg g x σ H' λσ2 H2=>gi X.K X.mg EE body {Dd with nx:=N,ct:=N,bk:=Dd.nx} σ2 H2):=by
 refine ⟨λi m σ H=>i≤ds.length∧m=ds.length - i∧∃ τ ρ G,Ab X.K X.mg σ H τ ρ G∧bS X.K H0 H ρ0 ρ∧rX X.K X.mg EE H ρ Dd (bI g body (ds.drop i) τ G),⟨ds.length,Zq _,rfl,τ0,ρ0,G0,ab,.refl,by simpa using ok⟩,?_⟩
 rintro i m σ H ⟨hi,rfl,τ,ρ,G,ab,f,ok⟩
 by_cases hlt:i<ds.length
 ·refine .inr ⟨go i H ρ hlt f,λσ' H'=>∃ τ' ρ' G',Ab X.K X.mg σ' H' τ' ρ' G'∧bS X.K H0 H' ρ0 ρ'∧rX X.K X.mg EE H' ρ' Dd (bI g body (ds.drop (i+1)) τ' G'),λσ' H' n=>⟨ds.length - (i+1),by nofun,hlt,rfl,n⟩,λx H' y=>?_⟩
  obtain ⟨rfl,rx⟩:=sy i ds[i] H ρ x H' (YD hlt) f y
  rw [ZV hlt] at ok
  unfold bI at ok
  cases e:g ds[i] τ with
  | none=>rw [e] at ok;exact ok.elim
  | some τ1=>
   rw [e] at ok
   dsimp only at ok
   refine ⟨τ,ρ,G,ds[i],τ1,ab,rx,e,λσ' bu=>⟨τ1,ρ,G,bu,?_⟩⟩
   cases eb:body τ1 G with
   | stuck=>rw [eb] at ok;exact ok
   | nx τ2 G2=>rw [eb] at ok;exact λσ2 H2 ρ2 f2 bM=>⟨τ2,ρ2,G2,bM,f.trans f2,ok.fut f2⟩
   | ct τ2 G2=>rw [eb] at ok;exact λσ2 H2 ρ2 f2 bM=>⟨τ2,ρ2,G2,bM,f.trans f2,ok.fut f2⟩
   | bk τ2 G2=>rw [eb] at ok;exact ok
   | rt d G2=>rw [eb] at ok;exact ok
   | xn c τ2 G2=>rw [eb] at ok;exact ok
 ·have e:i=ds.length:=by nofun
  subst e
  refine .inl ⟨stop _ H ρ (YE _) f,?_⟩
  rw [aaf (YE _)] at ok
  exact ok σ H ρ .refl ab
theorem Hs {g:jT} {body:MS} {Dd:Ends} {H0:Hp} {σ0:L2.St} {G0:DH} {τ0:DS} {fuel:Nat} (hn:ρ0[n]?=some p)
  (ab:Ab X.K X.mg σ0 H0 τ0 ρ0 G0) (ok:rX X.K X.mg EE H0 ρ0 Dd (uz g body n fuel 0 τ0 G0)) :
  ∃ W:Nat→Nat→L2.St→Hp→Prop,(∃ m,W 0 m σ0 H0)∧∀ i m σ H,W i m σ H →
   ((Ga X.K p).stop i H∧Dd.nx σ H)∨((Ga X.K p).go i H∧∃ N:L2.St→Hp→Prop,(∀ σ' H',N σ' H'→∃ m',m'<m∧W (i+1) m' σ' H')∧∀ x H',(Ga X.K p).sy i H x H'→wG X.K X.mg g x σ H' λσ2 H2=>gi X.K X.mg EE body {Dd with nx:=N,ct:=N,bk:=Dd.nx} σ2 H2):=by
 refine ⟨λi m σ H=>∃ τ ρ G,Ab X.K X.mg σ H τ ρ G∧bS X.K H0 H ρ0 ρ∧rX X.K X.mg EE H ρ Dd (uz g body n m i τ G),⟨fuel,τ0,ρ0,G0,ab,.refl,ok⟩,?_⟩
 rintro i m σ H ⟨τ,ρ,G,ab,f,ok⟩
 cases m with
 | zero=>exact ok.elim
 | succ m=>
  unfold uz at ok
  cases q:G[n]? with
  | none=>rw [q] at ok;exact ok.elim
  | some o=>
   cases o with
   | lst ds=>
    rw [q] at ok
    dsimp only at ok
    obtain ⟨p',xs,e1,e2,rs⟩:=ab.hp.lst q
    rw [f.get hn] at e1;cases e1
    cases qd:ds[i]? with
    | none=>
     rw [qd] at ok
     have hl:xs.length≤i:=by rw [← rs.length];exact Zv.mp qd
     exact .inl ⟨⟨xs,.of e2,hl⟩,ok σ H ρ .refl ab⟩
    | some d=>
     rw [qd] at ok
     dsimp only at ok
     obtain ⟨x0,ex,rx⟩:=rs.get qd
     refine .inr ⟨⟨xs,x0,.of e2,ex⟩,λσ' H'=>∃ τ' ρ' G',Ab X.K X.mg σ' H' τ' ρ' G'∧bS X.K H0 H' ρ0 ρ'∧rX X.K X.mg EE H' ρ' Dd (uz g body n m (i+1) τ' G'),λσ' H' z=>⟨m,aai _,z⟩,λx H' y=>?_⟩
     obtain ⟨rfl,y⟩:=y
     have e3:=y xs (.of e2)
     rw [ex] at e3;cases e3
     cases e:g d τ with
     | none=>rw [e] at ok;exact ok.elim
     | some τ1=>
      rw [e] at ok
      dsimp only at ok
      refine ⟨τ,ρ,G,d,τ1,ab,rx,e,λσ' bu=>⟨τ1,ρ,G,bu,?_⟩⟩
      cases eb:body τ1 G with
      | stuck=>rw [eb] at ok;exact ok
      | nx τ2 G2=>rw [eb] at ok;exact λσ2 H2 ρ2 f2 bM=>⟨τ2,ρ2,G2,bM,f.trans f2,ok.fut f2⟩
      | ct τ2 G2=>rw [eb] at ok;exact λσ2 H2 ρ2 f2 bM=>⟨τ2,ρ2,G2,bM,f.trans f2,ok.fut f2⟩
      | bk τ2 G2=>rw [eb] at ok;exact ok
      | rt d G2=>rw [eb] at ok;exact ok
      | xn c τ2 G2=>rw [eb] at ok;exact ok
   | _=>first | (rw [q] at ok;exact ok.elim) | (rw [q] at aK;exact aK.elim) | (rw [q] at e;cases e;done) | (rw [g] at ok;exact ok.elim) | (rw [g] at q;cases q;done) | (rw [g] at h;cases h;done) | (rw [g2] at ok;exact ok.elim) | (rw [g1,g2] at ok;exact ok.elim) | (rw [q1] at ok;exact ok.elim) | exact ok.elim
theorem PI.any {l:Expr} {tl:TE} (hl:PE X l tl):PI X tg l (λσ H R=>tl σ H λx H1=>(∃ p,x=.ref p∧(∃ xs,lN X.K H1 p xs)∧R (Ga X.K p) H1)∨(∃ p,x=.ref p∧(∃ xs,mQ X.K H1 p xs)∧R (QN X.K p) H1)∨∃ z,x=.str z∧R (Hr z) H1):=by
 intro pins s σ H R I h
 refine dh (hl pins s σ H _ I h) λu s1 zz=>?_
 obtain ⟨x,H1,I1,r1,q⟩:=zz
 rcases q with ⟨p,rfl,⟨xs,sq⟩,q⟩ | ⟨p,rfl,⟨xs,sq⟩,q⟩ | ⟨z,rfl,q⟩
 ·cases r1
  obtain ⟨its,rv,pl,hz⟩:=I1.list sq
  refine adp pl.isList ?_
  have I2:Inv X pins σ H1 {s1 with heap:=s1.heap.push {cls:=.type "list_iterator",data:=.fields #[.ref p,.int 0 0]}}:=I1.kept (t':=s1.toks) λb o e=>YA _ e
  refine ⟨s1.heap.objs.size,[s1.heap.objs.size],_,Ga X.K p,H1,rfl,I2,A4 p _,⟨_,YM _ rfl,rfl,rfl⟩,λb hb=>?_,q⟩
  have e:b=s1.heap.objs.size:=by simpa using hb
  subst e
  exact I1.ou (YE _) (I1.hok.fresh (YE _))
 ·cases r1
  obtain ⟨its,rv,pl,hz⟩:=I1.tuple sq
  refine aa8 pl ?_
  have I2:Inv X pins σ H1 {s1 with heap:=s1.heap.push {cls:=.type "tuple_iterator",data:=.fields #[.ref p,.int 0 0]}}:=I1.kept (t':=s1.toks) λb o e=>YA _ e
  refine ⟨s1.heap.objs.size,[s1.heap.objs.size],_,QN X.K p,H1,rfl,I2,yw p _,⟨_,YM _ rfl,rfl,rfl⟩,λb hb=>?_,q⟩
  have e:b=s1.heap.objs.size:=by simpa using hb
  subst e
  exact I1.ou (YE _) (I1.hok.fresh (YE _))
 ·obtain ⟨t,rfl⟩:=r1
  refine wpAny_pyIter_strU ?_
  have I2:Inv X pins σ H1 {s1 with heap:=s1.heap.push {cls:=.type (strIterType z),data:=.fields #[.str z t,.int 0 0]}}:=I1.kept (t':=s1.toks) λb o e=>YA _ e
  refine ⟨s1.heap.objs.size,[s1.heap.objs.size],_,Hr z,H1,rfl,I2,Dt z t _,⟨_,YM _ rfl,rfl,rfl⟩,λb hb=>?_,q⟩
  have e:b=s1.heap.objs.size:=by simpa using hb
  subst e
  exact I1.ou (YE _) (I1.hok.fresh (YE _))
theorem Mf (hp:PassesOwn (model X.prog X.w) X.A X.env X.xe) (hc:X.calm=true) (ha:QE X EE a ma) (hg:QG X tg g) (hb:rY X EE body ms) (hs:∀ x,foldedSetIterable a X.env x=pure x:=by intro _;rfl) :
  QS X EE (.For tg a body [] pos) (fD g ma ms):=PS.mono (ug hp hc (PI.any ha) hg hb hs) λDd σ H h=>by
 obtain ⟨τ,ρ,G,ab,ok⟩:=pM (k:=λτ d G=>match d with
  | .obj n=>match G[n]? with
   | some (.lst xs)=>uz g ms n (xs.length+1) 0 τ G
   | _=>.stuck
  | .tup xs=>bI g ms xs τ G
  | .con xs=>bI g ms xs τ G
  | .str z=>bI g ms (z.cps.toList.map λc=>.str ⟨#[c]⟩) τ G
  | _=>.stuck) h
 refine ⟨τ,ρ,G,ab,?_⟩
 cases e:ma τ G with
 | stuck=>rw [e] at ok;exact ok
 | bC c G'=>rw [e] at ok;exact ok
 | ok d G'=>
  rw [e] at ok
  intro v H1 ρ1 f1 fM r1
  obtain ⟨τ2,ρ2,G2,d2,bM,r2,aK⟩:=ok v H1 ρ1 f1 fM r1
  cases d2<;>try exact aK.elim
  case obj n=>
   dsimp only at aK
   unfold Rep at r2
   obtain ⟨p,rfl,e1⟩:=r2
   cases q:G2[n]? with
   | none=>rw [q] at aK;exact aK.elim
   | some o=>
    cases o with
    | lst xs=>
     rw [q] at aK
     obtain ⟨p',vs,e2,h2,rs⟩:=bM.hp.lst q
     rw [e1] at e2;cases e2
     exact .inl ⟨p,rfl,⟨vs,.of h2⟩,Hs e1 bM aK⟩
    | _=>first | (rw [q] at ok;exact ok.elim) | (rw [q] at aK;exact aK.elim) | (rw [q] at e;cases e;done) | (rw [g] at ok;exact ok.elim) | (rw [g] at q;cases q;done) | (rw [g] at h;cases h;done) | (rw [g2] at ok;exact ok.elim) | (rw [g1,g2] at ok;exact ok.elim) | (rw [q1] at ok;exact ok.elim) | exact ok.elim
  case tup xs=>
   unfold Rep at r2
   obtain ⟨p,vs,rfl,sq,rs⟩:=r2
   refine .inr (.inl ⟨p,rfl,⟨vs,sq⟩,kG xs (λi H' ρ' hi f=>?_) (λi H' ρ' hi f=>?_) (λi d' H' ρ' x OV hd f y=>?_) bM aK⟩)
   ·rw [rs.length] at hi
    exact ⟨vs,vs[i],f.tup _ _ sq,YD hi⟩
   ·exact ⟨vs,f.tup _ _ sq,by rw [← rs.length];exact hi⟩
   ·obtain ⟨rfl,y⟩:=y
    obtain ⟨w',ew,rw'⟩:=rs.get hd
    have:=y vs (f.tup _ _ sq)
    rw [ew] at this;cases this
    exact ⟨rfl,rw'.mono f⟩
  case con xs=>
   unfold Rep at r2
   obtain ⟨p,vs,rfl,sq,rs⟩:=r2
   refine .inl ⟨p,rfl,⟨vs,sq.seq⟩,kG xs (λi H' ρ' hi f=>?_) (λi H' ρ' hi f=>?_) (λi d' H' ρ' x OV hd f y=>?_) bM aK⟩
   ·rw [rs.length] at hi
    exact ⟨vs,vs[i],(f.con _ _ sq).seq,YD hi⟩
   ·exact ⟨vs,(f.con _ _ sq).seq,by rw [← rs.length];exact hi⟩
   ·obtain ⟨rfl,y⟩:=y
    obtain ⟨w',ew,rw'⟩:=rs.get hd
    have:=y vs (f.con _ _ sq).seq
    rw [ew] at this;cases this
    exact ⟨rfl,rw'.mono f⟩
  case str z=>
   unfold Rep at r2;subst r2
   refine .inr (.inr ⟨z,rfl,kG (z.cps.toList.map λc=>.str ⟨#[c]⟩) (λi H' ρ' hi f=>?_) (λi H' ρ' hi f=>?_) (λi d' H' ρ' x OV hd f y=>?_) bM aK⟩)
   ·simpa [Hr] using hi
   ·simpa [Hr] using hi
   ·obtain ⟨rfl,c,hc,rfl⟩:=y
    rw [YK] at hd
    have:z.cps.toList[i]?=some c:=by simpa using hc
    rw [this] at hd
    cases hd
    exact ⟨rfl,by unfold Rep;rfl⟩
noncomputable def eT:List D→Option (List D)
 | [.int j]=>if -(2^62)≤j∧j<2^62 then some ((Y9 j.toNat).map λ(k:Nat)=>.int (0+(k:Int))) else none
 | _=>none
noncomputable def iU:List D→Option (List D)
 | [.int i,.int j]=>if -(2^62)≤i∧i<2^62∧-(2^62)≤j∧j<2^62 then some ((Y9 (j - i).toNat).map λ(k:Nat)=>.int (i+(k:Int))) else none
 | _=>none
noncomputable def dR (A2:List D→Option (List D)) (g:jT) (m:DS→M (List D)) (body:MS):MS:=λτ=>bL (m τ) (λds G=>match A2 ds with
 | some xs=>bI g body xs τ G
 | none=>.stuck) λc G=>.xn c τ G
theorem Du {k:DS→List D→DH→Res} (h:gi K mg EE (λτ=>bL (m τ) (k τ) λc G=>.xn c τ G) Dd σ H) :
  iu K mg EE m σ H λx H1=>∃ τ ρ G d,Ab K mg σ H1 τ ρ G∧au K mg ρ H1 d x∧rX K mg EE H1 ρ Dd (k τ d G):=by
 obtain ⟨τ,ρ,G,ab,ok⟩:=h
 refine ⟨τ,ρ,G,ab,?_⟩
 dsimp only [bL] at ok
 cases e:m τ G with
 | stuck=>rw [e] at ok;exact ok
 | bC c G'=>rw [e] at ok;exact λH' ρ' f bu=>ok σ H' ρ' f bu
 | ok d G'=>rw [e] at ok;exact λv H' ρ' f bu r=>⟨τ,ρ',G',d,bu,r,ok.fut f⟩
theorem kH {body:MS} {τ0:DS} (lo:Int) (n:Nat) (ab:Ab X.K X.mg σ0 H0 τ0 ρ0 G0) (ok:rX X.K X.mg EE H0 ρ0 Dd (bI g body ((Y9 n).map λ(k:Nat)=>.int (lo+(k:Int))) τ0 G0)) :
  ∃ W:Nat→Nat→L2.St→Hp→Prop,(∃ m,W 0 m σ0 H0)∧∀ i m σ H,W i m σ H →
   ((sA lo n).stop i H∧Dd.nx σ H)∨((sA lo n).go i H∧∃ N:L2.St→Hp→Prop,(∀ σ' H',N σ' H'→∃ m',m'<m∧W (i+1) m' σ' H')∧∀ x H',(sA lo n).sy i H x H'→wG X.K X.mg g x σ H' λσ2 H2=>gi X.K X.mg EE body {Dd with nx:=N,ct:=N,bk:=Dd.nx} σ2 H2):=
 kG (J:=sA lo n) _ (λi H ρ hi f=>by simpa [sA] using hi) (λi H ρ hi f=>by simpa [sA] using hi) (λi d H ρ x H' hd f y=>by
  obtain ⟨rfl,rfl⟩:=y
  rw [YK] at hd
  cases q:(Y9 n)[i]? with
  | none=>rw [q] at hd;cases hd
  | some k=>
   rw [q] at hd
   obtain ⟨hk,e⟩:=Yw.mp q
   rw [ac8] at e
   subst e
   cases hd
   exact ⟨rfl,by unfold Rep;rfl⟩) ab ok
theorem Dv {p pc:Pos} (hp:PassesOwn (model X.prog X.w) X.A X.env X.xe) (hc:X.calm=true) (hm:X.mg "range"=none) (ha:QA X EE [a] m) (hg:QG X tg g) (hb:rY X EE body ms)
  (oR:Gl X "range":=by rfl) (hst:YZ [a] X.env=[(false,eval a X.env)]:=by rfl) (hs:∀ x,foldedSetIterable (.Call (.Name "range" p) [a] [] pc) X.env x=pure x:=by intro _;rfl) :
  QS X EE (.For tg (.Call (.Name "range" p) [a] [] pc) body [] pos) (dR eT g m ms):=PS.mono (ug hp hc (sC oR hm ha hst) hg hb hs) λDd σ H h=>by
 obtain ⟨τ,ρ,G,ab,ok⟩:=Du (k:=λτ ds G=>match eT ds with | some xs=>bI g ms xs τ G | none=>.stuck) h
 refine ⟨τ,ρ,G,ab,?_⟩
 cases e:m τ G with
 | stuck=>rw [e] at ok;exact ok
 | bC c G'=>rw [e] at ok;exact ok
 | ok ds G'=>
  rw [e] at ok
  intro vs H1 ρ1 f1 fM r1
  obtain ⟨τ2,ρ2,G2,d2,bM,r2,aK⟩:=ok vs H1 ρ1 f1 fM r1
  cases q:eT d2 with
  | none=>rw [q] at aK;exact aK.elim
  | some xs=>
   rw [q] at aK
   unfold eT at q
   split at q
   ·rename_i j
    split at q
    ·rename_i hj
     cases q
     unfold au at r2
     obtain ⟨v,r,rfl,h1,h2⟩:=r2
     unfold au at h2;subst h2
     unfold Rep at h1;subst h1
     exact ⟨j,rfl,hj.1,hj.2,kH 0 j.toNat bM aK⟩
    ·cases q
   ·cases q
theorem Dw {p pc:Pos} (hp:PassesOwn (model X.prog X.w) X.A X.env X.xe) (hc:X.calm=true) (hm:X.mg "range"=none) (ha:QA X EE [a,b] m) (hg:QG X tg g) (hb:rY X EE body ms)
  (oR:Gl X "range":=by rfl) (hst:YZ [a,b] X.env=[(false,eval a X.env),(false,eval b X.env)]:=by rfl) (hs2:YZ [b] X.env=[(false,eval b X.env)]:=by rfl) (hs:∀ x,foldedSetIterable (.Call (.Name "range" p) [a,b] [] pc) X.env x=pure x:=by intro _;rfl) :
  QS X EE (.For tg (.Call (.Name "range" p) [a,b] [] pc) body [] pos) (dR iU g m ms):=PS.mono (ug hp hc (sD oR hm ha hst hs2) hg hb hs) λDd σ H h=>by
 obtain ⟨τ,ρ,G,ab,ok⟩:=Du (k:=λτ ds G=>match iU ds with | some xs=>bI g ms xs τ G | none=>.stuck) h
 refine ⟨τ,ρ,G,ab,?_⟩
 cases e:m τ G with
 | stuck=>rw [e] at ok;exact ok
 | bC c G'=>rw [e] at ok;exact ok
 | ok ds G'=>
  rw [e] at ok
  intro vs H1 ρ1 f1 fM r1
  obtain ⟨τ2,ρ2,G2,d2,bM,r2,aK⟩:=ok vs H1 ρ1 f1 fM r1
  cases q:iU d2 with
  | none=>rw [q] at aK;exact aK.elim
  | some xs=>
   rw [q] at aK
   unfold iU at q
   split at q
   ·rename_i i j
    split at q
    ·rename_i hj
     cases q
     unfold au at r2
     obtain ⟨v,r,rfl,h1,h2⟩:=r2
     unfold au at h2
     obtain ⟨v',r',rfl,h3,h4⟩:=h2
     unfold au at h4;subst h4
     unfold Rep at h1 h3;subst h1 h3
     exact ⟨i,j,rfl,hj,kH i (j - i).toNat bM aK⟩
    ·cases q
   ·cases q
end
noncomputable def Vc (K:Yz) (mg:Str→Option V3) (H:Hp) (ρ:List Addr):Out D→VK→XK→Prop
 | .stuck,_,_=>False
 | .ok d G',Q,_=>∀ v H' ρ',bS K H H' ρ ρ'→eO K mg H' ρ' G'→Rep K mg ρ' H' d v→Q v H'
 | .bC c G',_,E=>∀ cls H' ρ',(match c with | .mk n _=>mg n=some cls)→bS K H H' ρ ρ'→eO K mg H' ρ' G'→E cls none H'
noncomputable def gB (K:Yz) (mg:Str→Option V3) (n:Nat) (m:List D→M D):Sp:=λvs H Q E=>∃ ds ρ G,ds.length=n∧eO K mg H ρ G∧au K mg ρ H ds vs∧Vc K mg H ρ (m ds G) Q E
theorem gB.len {m:List D→M D} {Q:VK} {E:XK} (h:gB K mg n m vs H Q E):vs.length=n:=by
 obtain ⟨ds,ρ,G,e,_,r,_⟩:=h
 rw [← r.length,e]
noncomputable def OW (mg:Str→Option V3) (EE:bW) (σ:L2.St):XK:=λcls _ H'=>∃ c,(match c with | .mk n _=>mg n=some cls)∧EE c σ H'
noncomputable def JY (CX:oJ) (X:Cx) (EE:bW):Prop:=∀ (pins:List (Addr×Obj)) (σ:L2.St) (H:Hp) (s:YB) (e:V3) (s':YB),Inv X pins σ H s→CX X.stack H s (OW X.mg EE σ) e s'→X.xe e s'
section
variable {X:Cx} {CX:oJ} {EE:bW} {k n:Nat} {f:Addr} {fd:FuncData} {ps:List Str} {mf:List D→M D} {x:Str} {p pos:Pos} {e:Expr} {es:List Expr} {m:DS→M (List D)}
theorem eO.ab {K:Yz} {mg:Str→Option V3} {σ:L2.St} {H H':Hp} {τ:DS} {ρ ρ':List Addr} {G G':DH} (ab:Ab K mg σ H τ ρ G) (f:bS K H H' ρ ρ') (h:eO K mg H' ρ' G'):Ab K mg σ H' τ ρ' G':=⟨ab.st.mono f,h⟩
theorem uA {pins:List (Addr×Obj)} {σ:L2.St} {H:Hp} {s:YB} {Q:VK} {us:List V3} {vs:List V} {τ:DS} {ρ:List Addr} {G:DH} {ds:List D} (F:kP X.prog X.w X.K X.mg X.base CX k f fd ps (gB X.K X.mg n mf)) (hr:di k X.A) (hb:Binds X.K fd ps [])
  (hx:JY CX X EE) (I:Inv X pins σ H s) (r:Vals vs us) (ab:Ab X.K X.mg σ H τ ρ G) (rs:au X.K X.mg ρ H ds vs) (hn:ds.length=n) (ok:iQ X.K X.mg EE H σ τ ρ (mf ds G) Q):Y0 (model X.prog X.w) X.A (call (.ref f) us) (EP X pins σ Q) X.xe s:=by
 have h:gB X.K X.mg n mf vs H Q (OW X.mg EE σ):=by
  refine ⟨ds,ρ,G,hn,ab.hp,rs,?_⟩
  cases q:mf ds G with
  | stuck=>rw [q] at ok;exact ok
  | ok d G'=>rw [q] at ok;exact λv H' ρ' f hp r=>ok v H' ρ' f (eO.ab ab f hp) r
  | bC c G'=>rw [q] at ok;exact λcls H' ρ' hc f hp=>⟨c,hc,ok H' ρ' f (eO.ab ab f hp)⟩
 have hl:(us++[]).length=ps.length:=by rw [Y4,← r.length];exact F.len _ _ _ _ h
 have Q0:=hb s us I.yr hl
 rw [Y4] at Q0
 refine wpAny_call (codeAny_mono (F.run X.A X.stack s H ⟨us,[]⟩ us vs Q (OW X.mg EE σ) hr I.gh I.os.2 Q0 r h) λr s' hq=>?_)
 cases r with
 | error e=>exact hx pins σ H s e s' I hq
 | ok fl=>
  cases fl with
  | ret u=>exact I.after hq
  | next=>exact ZA hq
  | brk=>exact ZA hq
  | cont=>exact ZA hq
noncomputable def aq (n:Nat) (mf:List D→M D) (m:DS→M (List D)):DS→M D:=ak (λds=>if ds.length=n then mf ds else M.stop) m
theorem Ht (F:kP X.prog X.w X.K X.mg X.base CX k f fd ps (gB X.K X.mg n mf)) (hr:di k X.A) (hm:X.mg x=some (.ref f)) (hk:Zu X.K (.ref f)=true) (hb:Binds X.K fd ps []) (hx:JY CX X EE)
  (ha:QA X EE (e::es) m) (hg:Gl X x:=by rfl) (hdb:(x==("__debug__":Str))=false:=by decide) (he:YZ (e::es) X.env=(false,eval e X.env)::YZ es X.env:=by rfl) (hpl:(backTo pos (YZ es X.env)).any (·.1)=false:=by rfl) :
  QE X EE (.Call (.Name x p) (e::es) [] pos) (aq n mf m):=by
 intro pins s σ H Q I h
 obtain ⟨τ,ρ,G,ab,ok⟩:=jm (k:=λ_ ds=>if ds.length=n then mf ds else M.stop) h
 refine Ze (zT I hg hm ?_ hdb)
 refine ab1 (h₀:=X.base) I.ok.mod.Gj hk (dh (ha pos pins s σ H _ I ⟨τ,ρ,G,ab,ok⟩) λus s1 ⟨vs,H1,I1,r,q⟩=>⟨I1.yr,?_⟩) he hpl
 obtain ⟨τ1,ρ1,G1,ds,fM,rs,CC⟩:=q
 by_cases hn:ds.length=n
 ·rw [if_pos hn] at CC
  exact uA F hr hb hx I1 r fM rs hn CC
 ·rw [if_neg hn] at CC
  exact CC.elim
end
noncomputable def cI (N:Nat) (ms:MS) (ds:List D):M D:=λG=>match ms (ds.map some++YV (N - ds.length) none) G with
 | .stuck=>.stuck
 | .nx _ G'=>.ok .dP G'
 | .rt d G'=>.ok d G'
 | .bk _ _=>.stuck
 | .ct _ _=>.stuck
 | .xn c _ G'=>.bC c G'
theorem jq (r:au K mg ρ H ds vs):pL K mg H ρ (L2.start N vs) (ds.map some++YV (N.length - ds.length) none):=by
 have hl:=r.length
 refine ⟨by unfold L2.start;simp [hl],λi d e=>?_⟩
 have hi:i<ds.length:=by
  by_cases hi:i<ds.length
  ·exact hi
  ·rw [Y5 (by simpa using hi),aaI] at e
   split at e<;>cases e
 rw [YQ (by simpa using hi),YK] at e
 cases q:ds[i]? with
 | none=>rw [q] at e;cases e
 | some d'=>
  rw [q] at e;cases e
  obtain ⟨v,e1,r1⟩:=r.get q
  refine ⟨v,?_,r1⟩
  unfold L2.start
  rw [YQ (by simp;nofun),YK,e1]
  rfl
section
variable {X:Cx} {EE:bW} {a b c:Expr} {ma mb mc:DS→M D} {pos:Pos}
noncomputable def Hu (X:Cx) (EE:bW) (f:List D→M D):List V→Hp→VK→Prop:=λxs H Q=>∃ σ τ ρ G ds,Ab X.K X.mg σ H τ ρ G∧au X.K X.mg ρ H ds xs∧iQ X.K X.mg EE H σ τ ρ (f ds G) Q
theorem pR {f:List D→M D}:CallD X EE (Hu X EE f) f:=λσ H τ ρ G xs ds Q ab r ok=>⟨σ,τ,ρ,G,ds,ab,r,ok⟩
theorem iw {d:D} (r:au K mg ρ H [d] xs):∃ x,xs=[x]∧Rep K mg ρ H d x:=by
 unfold au at r
 obtain ⟨v,r',rfl,h1,h2⟩:=r
 unfold au at h2;subst h2
 exact ⟨v,rfl,h1⟩
theorem Dy {d e:D} (r:au K mg ρ H [d,e] xs):∃ x y,xs=[x,y]∧Rep K mg ρ H d x∧Rep K mg ρ H e y:=by
 unfold au at r
 obtain ⟨v,r',rfl,h1,h2⟩:=r
 obtain ⟨y,rfl,h3⟩:=iw h2
 exact ⟨v,y,rfl,h1,h3⟩
noncomputable def cC:List D→M D
 | [d]=>λG=>match aD G d with
  | some (.lst xs)=>.ok (.int xs.length) G
  | some (.tup xs)=>.ok (.int xs.length) G
  | some (.str z)=>if z.length≤Yx then .ok (.int z.length) G else .stuck
  | none=>.stuck
 | _=>M.stop
theorem Bj:eX X (.builtin "len") (Hu X EE cC):=by
 intro pins s σ0 H xs us Q I r zu
 obtain ⟨σ,τ,ρ,G,ds,ab,rs,ok⟩:=zu
 match ds,ok with
 | [],ok=>exact ok.elim
 | _::_::_,ok=>exact ok.elim
 | [d],ok=>
  obtain ⟨x,rfl,rx⟩:=iw rs
  dsimp only [cC] at ok
  cases q:aD G d with
  | none=>rw [q] at ok;exact ok.elim
  | some sk=>
   rw [q] at ok
   cases sk with
   | lst zs=>
    obtain ⟨p,vs,rfl,sq,rv⟩:=cB (pins:=pins) (σ0:=σ0) (s:=s) ab.hp rx q
    exact lV pins s σ0 H _ us Q I r ⟨p,vs,rfl,.inl sq,ok _ H ρ .refl ab (by unfold Rep;rw [rv.length])⟩
   | tup zs=>
    obtain ⟨p,vs,rfl,sq,rv⟩:=iT rx q
    exact lV pins s σ0 H _ us Q I r ⟨p,vs,rfl,.inr sq,ok _ H ρ .refl ab (by unfold Rep;rw [rv.length])⟩
   | str z=>
    obtain ⟨rfl,rfl⟩:=kE rx q
    dsimp only at ok
    by_cases hz:z.length≤Yx
    ·rw [if_pos hz] at ok
     exact ur pins s σ0 H _ us Q I r ⟨z,rfl,hz,ok _ H ρ .refl ab (by unfold Rep;rfl)⟩
    ·rw [if_neg hz] at ok;exact ok.elim
inductive Ty where
 | dP | bl | int | str | tup | lst | dct
 deriving DecidableEq
noncomputable def Ty.nm:Ty→String
 | .dP=>"NoneType" | .bl=>"bool" | .int=>"int" | .str=>"str" | .tup=>"tuple" | .lst=>"list" | .dct=>"dict"
noncomputable def JZ (G:DH):D→Option Ty
 | .dP=>some .dP
 | .bl _=>some .bl
 | .int _=>some .int
 | .str _=>some .str
 | .tup _=>some .tup
 | .con _=>some .lst
 | .obj n=>match G[n]? with
  | some (.lst _)=>some .lst
  | _=>none
 | .fn _=>none
 | .yl _ _=>none
 | .jU _ _=>none
noncomputable def Ty.is (t c:Ty):Bool:=decide (t=c)||(decide (t=.bl)&&decide (c=.int))
theorem ly (K:Yz):∀ (t c:Ty),c≠.dP→PySem.W.kitOne K (.type t.nm) (.type c.nm)=some (t.is c):=by
 intro t c h
 cases t<;>cases c<;>first | exact absurd rfl h | rfl | (with_unfolding_all rfl) | symm
noncomputable def oB (c:Ty) (d:D):M D:=λG=>match JZ G d with
 | some t=>.ok (.bl (t.is c)) G
 | none=>.stuck
noncomputable def Hv (c:Ty) (m:DS→M D):DS→M D:=λτ=>(m τ).bind (oB c)
theorem Hw {c:Ty} (hc:c≠.dP) {pins:List (Addr×Obj)} {s:YB} {σ0 σ:L2.St} {H:Hp} {τ:DS} {ρ:List Addr} {G:DH} {d:D} {x:V} {u:V3} {Q:VK} (I:Inv X pins σ0 H s) (ab:Ab X.K X.mg σ H τ ρ G) (rx:Rep X.K X.mg ρ H d x) (ru:RelV x u)
  (ok:iQ X.K X.mg EE H σ τ ρ (oB c d G) Q):Y0 (model X.prog X.w) X.A (call (.builtin "isinstance") [u,.type c.nm]) (EP X pins σ0 Q) X.xe s:=by
 dsimp only [oB] at ok
 refine ig I.os.2 ?_
 have fin:∀ {b:Bool},Q (.bl b) H→∀ tk,0<tk→EP X pins σ0 Q (.bool b) {s with toks:=tk}:=λq tk ht=>⟨.bl _,H,I.tok tk,rfl,q⟩
 cases d with
 | dP=>
  have q:=ok (.bl _) H ρ .refl ab (by unfold Rep;rfl)
  unfold Rep at rx;subst rx;cases ru
  exact aav PySem.W.kitx_none I.yr aaB (ly X.K .dP c hc) (λz=>nomatch z) (fin q)
 | bl y=>
  have q:=ok (.bl _) H ρ .refl ab (by unfold Rep;rfl)
  unfold Rep at rx;subst rx;cases ru
  exact aav PySem.W.kitx_bool I.yr aaB (ly X.K .bl c hc) (λz=>nomatch z) (fin q)
 | int y=>
  have q:=ok (.bl _) H ρ .refl ab (by unfold Rep;rfl)
  unfold Rep at rx;subst rx;obtain ⟨t,rfl⟩:=ru
  exact aav PySem.W.kitx_int I.yr aaB (ly X.K .int c hc) (λz=>nomatch z) (fin q)
 | str y=>
  have q:=ok (.bl _) H ρ .refl ab (by unfold Rep;rfl)
  unfold Rep at rx;subst rx;obtain ⟨t,rfl⟩:=ru
  exact aav PySem.W.kitx_str I.yr aaB (ly X.K .str c hc) (λz=>nomatch z) (fin q)
 | tup ys=>
  have q:=ok (.bl _) H ρ .refl ab (by unfold Rep;rfl)
  unfold Rep at rx
  obtain ⟨p,vs,rfl,sq,_⟩:=rx
  cases ru
  obtain ⟨its,_,⟨o,h1,h2,_⟩,_⟩:=I.tuple (rW.t sq)
  exact aav PySem.W.kitx_tuple I.yr ⟨o,h1,h2⟩ (ly X.K .tup c hc) (λz=>nomatch z) (fin q)
 | con ys=>
  have q:=ok (.bl _) H ρ .refl ab (by unfold Rep;rfl)
  unfold Rep at rx
  obtain ⟨p,vs,rfl,sq,_⟩:=rx
  cases ru
  obtain ⟨its,_,⟨o,k,h1,h2,_⟩,_⟩:=I.list sq.seq
  exact aav adq I.yr ⟨o,h1,h2⟩ (ly X.K .lst c hc) (λz=>nomatch z) (fin q)
 | obj n=>
  unfold Rep at rx
  obtain ⟨p,rfl,e1⟩:=rx
  cases ru
  dsimp only [JZ] at ok
  cases g:G[n]? with
  | none=>rw [g] at ok;exact ok.elim
  | some o=>
   cases o with
   | lst ys=>
    rw [g] at ok
    have q:=ok (.bl _) H ρ .refl ab (by unfold Rep;rfl)
    obtain ⟨p',vs,e2,hp,_⟩:=ab.hp.lst g
    rw [e1] at e2;cases e2
    obtain ⟨its,_,⟨o,k,h1,h2,_⟩,_⟩:=I.list (.of hp)
    exact aav adq I.yr ⟨o,h1,h2⟩ (ly X.K .lst c hc) (λz=>nomatch z) (fin q)
   | _=>first | (rw [q] at ok;exact ok.elim) | (rw [q] at aK;exact aK.elim) | (rw [q] at e;cases e;done) | (rw [g] at ok;exact ok.elim) | (rw [g] at q;cases q;done) | (rw [g] at h;cases h;done) | (rw [g2] at ok;exact ok.elim) | (rw [g1,g2] at ok;exact ok.elim) | (rw [q1] at ok;exact ok.elim) | exact ok.elim
 | yl _ _=>exact ok.elim
 | jU y0 c0=>exact ok.elim
 | fn x=>exact ok.elim
theorem Mg (c:Ty) {p pt:Pos} {x:Str} (hc:c≠.dP) (hm:X.mg "isinstance"=none) (hmt:X.mg x=none) (ha:QE X EE a ma) (hb:bootBuiltins x=some (.type c.nm))
  (hg:Gl X "isinstance":=by rfl) (hgt:Gl X x:=by rfl) (hnt:x≠"__name__":=by decide) (hdt:(x==("__debug__":Str))=false:=by decide)
  (he:YZ [a,.Name x pt] X.env=(false,eval a X.env)::YZ [.Name x pt] X.env:=by rfl) (Vd:YZ [.Name x pt] X.env=(false,eval (.Name x pt) X.env)::YZ [] X.env:=by rfl) (hpl:(backTo pos (YZ [.Name x pt] X.env)).any (·.1)=false:=by rfl)
  (hbi:bootBuiltins "isinstance"=some (.builtin "isinstance"):=by first | exact PyProof.Rows.boot_isinstance | symm) :
  QE X EE (.Call (.Name "isinstance" p) [a,.Name x pt] [] pos) (Hv c ma):=by
 have hT:PE X (.Name x pt) (tC (.ty c.nm)):=Gp hgt hmt hb rfl hnt hdt
 have hA:PA X [a,.Name x pt] (zV (aW X.K X.mg EE ma) (zV (tC (.ty c.nm)) GB)):=uh ha (uh hT yF Vd) he
 intro pins s σ H Q I h
 obtain ⟨τ,ρ,G,ab,ok⟩:=lg (k:=λ_ d=>oB c d) h
 refine Ze (fO I hg hm hbi ?_ (by decide) (by decide))
 refine abw (dh (hA pos pins s σ H (λvs H1=>∃ x,vs=[x,.ty c.nm]∧∃ τ ρ G d,Ab X.K X.mg σ H1 τ ρ G∧Rep X.K X.mg ρ H1 d x∧iQ X.K X.mg EE H1 σ τ ρ (oB c d G) Q) I ⟨τ,ρ,G,ab,?_⟩) λus s1 ⟨vs,H1,I1,r1,q1⟩=>?_) he hpl
 ·cases e:ma τ G with
  | stuck=>rw [e] at ok;exact ok
  | bC c G'=>rw [e] at ok;exact ok
  | ok d G'=>rw [e] at ok;exact λv H' ρ' f' bu r'=>⟨v,rfl,ok v H' ρ' f' bu r'⟩
 ·obtain ⟨y,rfl,τ2,ρ2,G2,d,bM,rd,aK⟩:=q1
  cases r1 with
  | cons ry rr=>
   cases rr with
   | cons rt rr=>
    cases rr
    cases rt
    exact Hw hc I1 bM rd ry aK
end
section
variable {X:Cx} {EE:bW} {a b c:Expr} {ma mb mc:DS→M D} {pos:Pos}
theorem yL (hk:∀ b x,b∉[s.heap.objs.size]→(s.heap.push o).get? b=some x→h'.get? b=some x):∀ b x,s.heap.get? b=some x→h'.get? b=some x:=
 λb x e=>hk b x (λhm=>by rw [Y7.mp hm] at e;exact Zx _ (YI e)) (YA _ e)
noncomputable def jr (g:Int→Int→Int):List D→M D
 | [.int i,.int j]=>M.ret (.int (g i j))
 | _=>M.stop
theorem Dz {g:Int→Int→Int} {Q:VK} (ok:iQ X.K X.mg EE H σ τ ρ (jr g ds G) Q):∃ i j,ds=[.int i,.int j]∧iQ X.K X.mg EE H σ τ ρ (.ok (.int (g i j)) G) Q:=by
 unfold jr at ok
 split at ok
 ·exact ⟨_,_,rfl,ok⟩
 ·exact ok.elim
theorem Bk (hc:X.calm=true):eX X (.builtin "min") (Hu X EE (jr λi j=>if j<i then j else i)):=by
 intro pins s σ0 H xs us Q I r zu
 obtain ⟨σ,τ,ρ,G,ds,ab,rs,ok⟩:=zu
 obtain ⟨i,j,rfl,ok⟩:=Dz ok
 obtain ⟨x,y,rfl,r1,r2⟩:=Dy rs
 unfold Rep at r1 r2;subst r1 r2
 exact A7 hc pins s σ0 H _ us Q I r ⟨i,j,rfl,ok _ H ρ .refl ab (by unfold Rep;rfl)⟩
noncomputable def OX (X:Cx) (EE:bW) (f:D→List D→M D):V→List V→Hp→VK→Prop:=λx xs H Q=>∃ σ τ ρ G d ds,Ab X.K X.mg σ H τ ρ G∧Rep X.K X.mg ρ H d x∧au X.K X.mg ρ H ds xs∧iQ X.K X.mg EE H σ τ ρ (f d ds G) Q
noncomputable def dB (T:String) (G:DH):D→Bool
 | .str _=>T=="str"
 | .int _=>T=="int"
 | .con _=>T=="list"
 | .obj n=>match G[n]? with
  | some (.lst _)=>T=="list"
  | _=>false
 | _=>false
theorem sO {T:String} {d:D} {x:V} (ab:Ab X.K X.mg σ H τ ρ G) (r:Rep X.K X.mg ρ H d x) (h:dB T G d=true):QX X.K T x H:=by
 cases d with
 | str z=>unfold Rep at r;subst r;exact eq_of_beq h
 | int z=>unfold Rep at r;subst r;exact eq_of_beq h
 | con zs=>
  unfold Rep at r
  obtain ⟨p,vs,rfl,sq,_⟩:=r
  exact .inl ⟨eq_of_beq h,vs,sq.seq⟩
 | obj n=>
  unfold Rep at r
  obtain ⟨p,rfl,e1⟩:=r
  dsimp only [dB] at h
  cases g:G[n]? with
  | none=>rw [g] at h;cases h
  | some o=>
   cases o with
   | lst ys=>
    rw [g] at h
    obtain ⟨p',vs,e2,hp,_⟩:=ab.hp.lst g
    rw [e1] at e2;cases e2
    exact .inl ⟨eq_of_beq h,vs,.of hp⟩
   | _=>first | (rw [q] at ok;exact ok.elim) | (rw [q] at aK;exact aK.elim) | (rw [q] at e;cases e;done) | (rw [g] at ok;exact ok.elim) | (rw [g] at q;cases q;done) | (rw [g] at h;cases h;done) | (rw [g2] at ok;exact ok.elim) | (rw [g1,g2] at ok;exact ok.elim) | (rw [q1] at ok;exact ok.elim) | exact ok.elim
 | _=>cases h
noncomputable def cO (T:String) (f:D→List D→M D) (mo:DS→M D) (m:DS→M (List D)):DS→M D:=λτ=>(mo τ).bind λd G=>if dB T G d then (m τ).bind (λds=>f d ds) G else .stuck
theorem J0 {o:Expr} {apos cpos:Pos} {T id:String} {f:D→List D→M D} (pa:PlainAttrs T) (slot:Slot T name id) (hty:typeOf (.builtin id)=pure (.type "method_descriptor")) (hm:CB X id (OX X EE f)) (ho:QE X EE o mo) (ha:QA X EE (e::es) m)
  (hbase:attributeBase o name X.env (eval o X.env)=eval o X.env:=by rfl)
  (hfew:((backTo cpos (YZ (e::es) X.env)).all (λx=>!x.1)&&(backToKw cpos (keywordEach [] X.env)).all (λx=>x.1.isSome)
   && decide ((e::es).length+([]:List Keyword).length+(if ([]:List Keyword).isEmpty then 0 else 1)<30))=true:=by rfl)
  (hline:(apos.endLine==cpos.line)=true:=by rfl) (hs:YZ (e::es) X.env=(false,eval e X.env)::YZ es X.env:=by rfl) (hplain:(backTo cpos (YZ es X.env)).any (·.1)=false:=by rfl) :
  QE X EE (.Call (.Attribute o name apos) (e::es) [] cpos) (cO T f mo m):=PE.mono (OF pa slot hty hm ho ha hbase hfew hline hs hplain) λσ H Q h=>by
 obtain ⟨τ,ρ,G,ab,ok⟩:=lg (k:=λτ d G=>if dB T G d then (m τ).bind (λds=>f d ds) G else .stuck) h
 refine ⟨τ,ρ,G,ab,?_⟩
 cases e:mo τ G with
 | stuck=>rw [e] at ok;exact ok
 | bC c G'=>rw [e] at ok;exact ok
 | ok d G'=>
  rw [e] at ok
  intro v H' ρ' f' bu r'
  obtain ⟨τ2,ρ2,G2,d2,bM,r2,aK⟩:=ok v H' ρ' f' bu r'
  by_cases hk:dB T G2 d2=true
  ·rw [if_pos hk] at aK
   refine ⟨sO bM r2 hk,τ2,ρ2,G2,bM,?_⟩
   dsimp only [M.bind] at aK
   cases e2:m τ2 G2 with
   | stuck=>rw [e2] at aK;exact aK
   | bC c G'=>rw [e2] at aK;exact aK
   | ok ds G3=>
    rw [e2] at aK
    exact λvs H3 ρ3 f3 nT r3=>⟨σ,τ2,ρ3,G3,d2,ds,nT,r2.mono f3,r3,aK.fut f3⟩
  ·rw [if_neg hk] at aK;exact aK.elim
theorem Mh {o:Expr} {apos cpos:Pos} {T id:String} {f:D→List D→M D} (pa:PlainAttrs T) (slot:Slot T name id) (hty:typeOf (.builtin id)=pure (.type "method_descriptor")) (hm:CB X id (OX X EE f)) (ho:QE X EE o mo)
  (hbase:attributeBase o name X.env (eval o X.env)=eval o X.env:=by rfl) (hline:(apos.endLine==cpos.line)=true:=by rfl) :
  QE X EE (.Call (.Attribute o name apos) [] [] cpos) (cO T f mo ai):=PE.mono (Lv pa slot hty hm ho hbase hline) λσ H Q h=>by
 obtain ⟨τ,ρ,G,ab,ok⟩:=lg (k:=λτ d G=>if dB T G d then (ai τ).bind (λds=>f d ds) G else .stuck) h
 refine ⟨τ,ρ,G,ab,?_⟩
 cases e:mo τ G with
 | stuck=>rw [e] at ok;exact ok
 | bC c G'=>rw [e] at ok;exact ok
 | ok d G'=>
  rw [e] at ok
  intro v H' ρ' f' bu r'
  obtain ⟨τ2,ρ2,G2,d2,bM,r2,aK⟩:=ok v H' ρ' f' bu r'
  by_cases hk:dB T G2 d2=true
  ·rw [if_pos hk] at aK
   exact ⟨sO bM r2 hk,σ,τ2,ρ2,G2,d2,[],bM,r2,.nil,aK⟩
  ·rw [if_neg hk] at aK;exact aK.elim
noncomputable def aU:D→List D→M D
 | .obj n,[v]=>λG=>match G[n]? with
  | some (.lst xs)=>if xs.length<Yx then .ok .dP (G.set n (.lst (xs++[v]))) else .stuck
  | _=>.stuck
 | _,_=>M.stop
theorem yM {xs ys:List D} {d:D} {w:V} {ws:List V} {Q:VK} (ab:Ab X.K X.mg σ H τ ρ G) (hn:ρ[n]?=some p) (hp:H p=some (.lst vs)) (r:au X.K X.mg ρ H ys ws)
  (rd:∀ H',bS X.K H H' ρ ρ→Rep X.K X.mg ρ H' d w) (ok:iQ X.K X.mg EE H σ τ ρ (.ok d (G.set n (.lst ys))) Q):Q w (upd H p (.lst ws)):=by
 have f:bS X.K H (upd H p (.lst ws)) ρ ρ:=uy hp ρ
 exact ok w _ ρ f (ab.fut f (ab.hp.put (ds:=ys) hn hp r)) (rd _ f)
theorem yN:CB X "list.append" (OX X EE aU):=by
 intro pins s σ0 H x xs v us Q I rx OY zu
 obtain ⟨σ,τ,ρ,G,d,ds,ab,rd,Ge,ok⟩:=zu
 cases d<;>try exact ok.elim
 rename_i n
 match ds,ok with
 | [],ok=>exact ok.elim
 | _::_::_,ok=>exact ok.elim
 | [y],ok=>
  obtain ⟨yv,rfl,ry⟩:=iw Ge
  unfold Rep at rd
  obtain ⟨p,rfl,e1⟩:=rd
  dsimp only [aU] at ok
  cases g:G[n]? with
  | none=>rw [g] at ok;exact ok.elim
  | some o=>
   cases o with
   | lst zs=>
    rw [g] at ok
    dsimp only at ok
    obtain ⟨p',vs,e2,hp,rs⟩:=ab.hp.lst g
    rw [e1] at e2;cases e2
    by_cases hz:zs.length<Yx
    ·rw [if_pos hz] at ok
     exact sJ pins s σ0 H _ _ v us Q I rx OY ⟨p,vs,yv,rfl,rfl,hp,by rw [← rs.length];exact hz,yM (xs:=zs) ab e1 hp (rs.append (.cons ry .nil)) (λ_ _=>by unfold Rep;rfl) ok⟩
    ·rw [if_neg hz] at ok;exact ok.elim
   | _=>first | (rw [q] at ok;exact ok.elim) | (rw [q] at aK;exact aK.elim) | (rw [q] at e;cases e;done) | (rw [g] at ok;exact ok.elim) | (rw [g] at q;cases q;done) | (rw [g] at h;cases h;done) | (rw [g2] at ok;exact ok.elim) | (rw [g1,g2] at ok;exact ok.elim) | (rw [q1] at ok;exact ok.elim) | exact ok.elim
theorem Bl {o:Expr} {apos cpos:Pos} (ho:QE X EE o mo) (ha:QA X EE [e] m)
  (hbase:attributeBase o "append" X.env (eval o X.env)=eval o X.env:=by rfl)
  (hfew:((backTo cpos (YZ [e] X.env)).all (λx=>!x.1)&&(backToKw cpos (keywordEach [] X.env)).all (λx=>x.1.isSome)
   && decide ([e].length+([]:List Keyword).length+(if ([]:List Keyword).isEmpty then 0 else 1)<30))=true:=by rfl)
  (hline:(apos.endLine==cpos.line)=true:=by rfl) (hs:YZ [e] X.env=(false,eval e X.env)::YZ [] X.env:=by rfl) (hplain:(backTo cpos (YZ [] X.env)).any (·.1)=false:=by rfl) :
  QE X EE (.Call (.Attribute o "append" apos) [e] [] cpos) (cO "list" aU mo m):=J0 aco PySem.F.slot_list_append PySem.F.type_list_append yN ho ha hbase hfew hline hs hplain
noncomputable def uB:D→List D→M D
 | .obj n,[]=>λG=>match G[n]? with
  | some (.lst xs)=>match xs[xs.length - 1]? with
   | some y=>.ok y (G.set n (.lst xs.dropLast))
   | none=>.stuck
  | _=>.stuck
 | _,_=>M.stop
theorem au.dropLast (r:au K mg ρ H ds vs):au K mg ρ H ds.dropLast vs.dropLast:=by
 rw [aaO,aaO,← r.length]
 exact r.take _
theorem Hx:CB X "list.pop" (OX X EE uB):=by
 intro pins s σ0 H x xs v us Q I rx OY zu
 obtain ⟨σ,τ,ρ,G,d,ds,ab,rd,Ge,ok⟩:=zu
 cases d<;>try exact ok.elim
 rename_i n
 match ds,ok with
 | _::_,ok=>exact ok.elim
 | [],ok=>
  unfold au at Ge;subst Ge
  unfold Rep at rd
  obtain ⟨p,rfl,e1⟩:=rd
  dsimp only [uB] at ok
  cases g:G[n]? with
  | none=>rw [g] at ok;exact ok.elim
  | some o=>
   cases o with
   | lst zs=>
    rw [g] at ok
    dsimp only at ok
    obtain ⟨p',vs,e2,hp,rs⟩:=ab.hp.lst g
    rw [e1] at e2;cases e2
    cases qz:zs[zs.length - 1]? with
    | none=>rw [qz] at ok;exact ok.elim
    | some y=>
     rw [qz] at ok
     obtain ⟨yv,ey,ry⟩:=rs.get qz
     exact Ly pins s σ0 H _ _ v us Q I rx OY ⟨p,vs,yv,rfl,rfl,hp,by rw [← rs.length];exact ey,yM (xs:=zs) ab e1 hp rs.dropLast (λ_ f=>ry.mono f) ok⟩
   | _=>first | (rw [q] at ok;exact ok.elim) | (rw [q] at aK;exact aK.elim) | (rw [q] at e;cases e;done) | (rw [g] at ok;exact ok.elim) | (rw [g] at q;cases q;done) | (rw [g] at h;cases h;done) | (rw [g2] at ok;exact ok.elim) | (rw [g1,g2] at ok;exact ok.elim) | (rw [q1] at ok;exact ok.elim) | exact ok.elim
theorem Mi {o:Expr} {apos cpos:Pos} (ho:QE X EE o mo) (hbase:attributeBase o "pop" X.env (eval o X.env)=eval o X.env:=by rfl) (hline:(apos.endLine==cpos.line)=true:=by rfl) :
  QE X EE (.Call (.Attribute o "pop" apos) [] [] cpos) (cO "list" uB mo ai):=Mh aco PySem.F.slot_list_pop PySem.F.type_list_pop Hx ho hbase hline
end
structure Bm (B:Heap) (l:List Env) (e:Addr) (cls:V3) (h:Heap):Prop where
 stay:B.StaysIn h
 new:B.get? e=none
 Xu:h.FunFrames B l
 tr:(∃ oe vs a0,h.get? e=some oe∧oe.cls=cls∧oe.data=.fields vs∧vs[0]?=some a0∧vs[1]?=some .none)∨∃ a0 fl,h.TracedAtW B e cls a0 fl
section
variable {M:Model} {A:Around} {E:V3→YB→Prop} {s:YB} {B:Heap} {env:Env} {outer l:List Env} {L e:Addr} {cls:V3} {Q:Unit→YB→Prop}
theorem yO (h:env'.frame=env.frame) (v:V3):noteFrame v env'=noteFrame v env:=by
 unfold noteFrame frameOf
 rw [h]
theorem Aa (hfr:A.frames=some (env::outer)) (hf:env.frame=some L) (f:Bm B (env::outer) e cls s.heap)
  (hQ:∀ h' a0,Heap.HeldW B (env::outer) e cls a0 L h'→s.heap.UpToSlots h'→Q () {s with heap:=h'}):Y0 M A (noteFrame (.ref e) env) Q E s:=by
 obtain ⟨st,nw,fr,tr⟩:=f
 rcases tr with ⟨oe,vs,a0,he,hc,hd,h0,h1⟩ | ⟨a0,fl,oe,vs,T,oT,ts,he,hcls,hd,h1,OZ,O0,hT,CD,h3⟩
 ·subst hc
  unfold noteFrame
  simp only [hf]
  refine Yu (ZG he hd h1 ?_)
  rw [if_neg (by decide)]
  refine wpAny_entryW hfr fr hf he st nw hd (aam.mp h1).1 h0 λh' hN=>?_
  exact hQ h' a0 ⟨hN.1,nw,hN.2.1,hN.2.2.1⟩ hN.2.2.2
 ·by_cases hq:(fl==rawInt L)=true
  ·unfold noteFrame
   simp only [hf]
   refine Yu (ZG he hd h1 ?_)
   rw [if_pos (show (Value.ref T != Value.none)=true by simp)]
   refine Yu (ZG hT CD h3 ?_)
   rw [if_pos hq]
   refine YN ?_
   have:=hQ s.heap a0 ⟨st,nw,fr,oe,vs,T,oT,ts,he,hcls,hd,h1,OZ,O0,hT,CD,by rw [h3,beq_iff_eq.mp hq]⟩ (.refl _)
   exact this
  ·obtain ⟨rfl,h0⟩:=hcls
   unfold noteFrame
   simp only [hf]
   refine Yu (ZG he hd h1 ?_)
   rw [if_pos (show (Value.ref T != Value.none)=true by simp)]
   refine Yu (ZG hT CD h3 ?_)
   rw [if_neg hq]
   refine Yu (aaU hT CD (aam.mp h3).1 ?_)
   have vR:∀ b,b≠T→(s.heap.update T (aah (·.setIfInBounds 3 Value.none))).get? b=s.heap.get? b:=λb hb=>ZR _ _ (Z2 hb)
   have O1:∀ b o,s.heap.get? b=some o→(∀ vs,o.data≠.fields vs)→b≠T:=λb o hb hnf z=>by
    rw [z,hT] at hb;cases hb;exact hnf ts CD
   refine wpAny_entryW hfr (fr.of_keeps λb o hb hnf=>⟨o,(vR b (O1 b o hb hnf)).trans hb,rfl⟩) hf ((vR e (Z2 O0)).trans he)
    (λb o R6=>(vR b λz=>by rw [z,OZ] at R6;cases R6).trans (st b o R6)) nw hd (aam.mp h1).1 h0 λh' hN=>?_
   exact hQ h' a0 ⟨hN.1,nw,hN.2.1,hN.2.2.1⟩ λb o hb hnf=>hN.2.2.2 b o ((vR b (O1 b o hb hnf)).trans hb) hnf
theorem DA (hfr:A.frames=some (env::outer)) (hf:env.frame=some L) (f:Bm B (env::outer) e cls s.heap)
  (hQ:∀ h' a0,ads B outer e cls a0 h'→s.heap.UpToSlots h'→Q () {s with heap:=h'}):Y0 M A (leaving env (.ref e)) Q E s:=by
 unfold leaving
 refine Yu (Aa hfr hf f λh1 a0 hH u1=>?_)
 refine wpAny_landsW hH λh2 hF u2=>?_
 obtain ⟨k1,k2,⟨_,_,k3⟩,k4⟩:=hF
 exact hQ h2 a0 ⟨k1,k2,k3,k4⟩ (u1.trans u2)
theorem Bm.Bo (f:ads B l e cls a0 h):Bm B l e cls h:=⟨f.1,f.2.1,f.2.2.1,.inr ⟨a0,.none,f.2.2.2⟩⟩
end
structure T5 (X:Cx) (B:Heap):Prop where
 keep:∀ b o,X.s₀.heap.get? b=some o→X.H₀ b=none→b∉frs X.stack→b∉X.ex→B.get? b=some o
 there:∀ b o,X.s₀.heap.get? b=some o→b∉frs X.stack→b∉X.ex→∃ o',B.get? b=some o'
 pins:∀ p∈X.pn,B.get? p.1=some p.2
noncomputable def O2 (X:Cx) (H:Hp) (e:Addr) (cls:V3) (s:YB):Prop:=∃ B,Bm B X.stack e cls s.heap∧ji X.prog X.w H B∧T5 X B
noncomputable def DB (mg:Str→Option V3) (c:XD) (cls:V3):Prop:=match c with | .mk n _=>mg n=some cls
noncomputable def fE (X:Cx) (EE:bW):Prop:=∀ (pins:List (Addr×Obj)) (σ:L2.St) (H:Hp) (s:YB) (e:Addr) (cls:V3) (c:XD),Inv X pins σ H s→O2 X H e cls s→DB X.mg c cls→EE c σ H→X.xe (.ref e) s
section
variable {X:Cx} {pins:List (Addr×Obj)} {σ:L2.St} {H:Hp} {s:YB} {h':Heap}
theorem IsCell.slots {v:Option V3} (u:h.UpToSlots h') (hc:h.IsCell c v):h'.IsCell c v:=by
 obtain ⟨o,e,d⟩:=hc
 obtain ⟨sl,e'⟩:=u c o e λvs q=>by rw [d] at q;cases q
 exact ⟨_,e',d⟩
theorem Inv.O3 {t:Nat} (I:Inv X pins σ H s) (C:T5 X B) (hok:ji X.prog X.w H B) (st:B.StaysIn h') (u:s.heap.UpToSlots h') (ht:0<t:=by first | exact Zp _ | exact (Inv.os (by assumption)).2 | assumption | nofun):Inv X [] σ H {s with heap:=h',toks:=t}:=by
 have CL:∀ b o,X.s₀.heap.get? b=some o→b≠X.env.locals:=λb o e=>YU (YG (YI e) I.ok.above)
 have O4:∀ b o,X.s₀.heap.get? b=some o→b∉X.fs→b∉frs X.stack:=λb o e hb z=>by
  rcases Y6.mp (I.k9 b z) with z | z
  ·exact CL b o e z
  ·exact hb z
 have slots:∀ b o,X.s₀.heap.get? b=some o→X.H₀ b=none→b∈X.fs→b∉X.ex→∃ sl,h'.get? b=some {o with slots:=sl}:=λb o e n hb hx=>by
  obtain ⟨sl,e1⟩:=I.base.slot b o e n hb hx
  obtain ⟨_,o',eo,hd⟩:=I.ok.lR.mem hb
  rw [e] at eo;cases eo
  obtain ⟨Oa,e2⟩:=u b _ e1 hd
  exact ⟨Oa,e2⟩
 refine ⟨I.ok,⟨I.os.1,ht⟩,I.bare,⟨λb o e n hb hx=>st _ _ (C.keep b o e n (O4 b o e hb) hx),slots,I.base.free,λb o e hx=>?_,I.base.tups,I.base.jS,I.base.kO⟩,?_,λx c e=>?_,I.free,I.jM,λp hp=>?_,hok.kept st,I.len⟩
 ·by_cases hb:b∈X.fs
  ·obtain ⟨sl,e1⟩:=slots b o e (I.ok.Gn b hb) hb hx
   exact ⟨_,e1⟩
  ·obtain ⟨o',e1⟩:=C.there b o e (O4 b o e hb) hx
   exact ⟨o',st _ _ e1⟩
 ·obtain ⟨m,hn,hl⟩:=I.loc
  refine ⟨m,u.ns hn,λi x v e1 e2 e3=>?_⟩
  obtain ⟨w,r,l⟩:=hl i x v e1 e2 e3
  refine ⟨w,r,?_⟩
  rcases l with l | ⟨k,c,e,z⟩
  ·exact .inl l
  ·exact .inr ⟨k,c,e,IsCell.slots u z⟩
 ·obtain ⟨v,z⟩:=I.cell x c e
  exact ⟨v,IsCell.slots u z⟩
 ·have vS:p∈X.pn:=by simpa using hp
  obtain ⟨e,n,ne,nf,d⟩:=I.pin p (Z4 _ vS)
  exact ⟨st _ _ (C.pins p vS),n,ne,nf,d⟩
end
structure O5 (P:Zg) (w:Zs) (outer:List Env) (H:Hp) (s:YB) (H':Hp) (B:Heap) (s':YB):Prop where
 os:s'.os=s.os∧0<s'.toks
 bare:aaV s'.gens
 keep:∀ b o,s.heap.get? b=some o→H b=none→b∉frs outer→B.get? b=some o
 there:∀ b o,s.heap.get? b=some o→b∉frs outer→∃ o',B.get? b=some o'
 slot:∀ b o,s.heap.get? b=some o→H b=none→b∈frs outer→∃ sl,s'.heap.get? b=some {o with slots:=sl}
 free:∀ b o,s.heap.get? b=some o→H b=none→H' b=none
 tups:∀ b xs,H b=some (.tup xs)→H' b=some (.tup xs)
 jS:∀ b o u,H b=some (.cy o u)→H' b=some (.cy o u)
 kO:∀ b ps,H b=some (.lP ps)→∃ more,H' b=some (.lP (ps++more))
 hok:ji P w H' B
noncomputable def nU (P:Zg) (w:Zs):oJ:=λouter H s E ev s'=>∃ e cls a0 B H',ev=.ref e∧ads B outer e cls a0 s'.heap∧O5 P w outer H s H' B s'∧E cls none H'
theorem Hy (h:fE X EE):JY (nU X.prog X.w) X EE:=by
 intro pins σ H s ev s' I hq
 obtain ⟨e,cls,a0,B,H',rfl,fl,F,c,hc,ee⟩:=hq
 have un:Un (frs X.stack) [] H H' s.heap s'.heap:=⟨λb o e n hb _=>fl.1 _ _ (F.keep b o e n hb),λb o e n hb _=>F.slot b o e n hb,λb o e n _=>F.free b o e n,λb o e _=>by
  by_cases hb:b∈frs X.stack
  ·obtain ⟨sl,q⟩:=F.slot b o e (I.oH b hb) hb
   exact ⟨_,q⟩
  ·obtain ⟨o',q⟩:=F.there b o e hb
   exact ⟨o',fl.1 _ _ q⟩,F.tups,F.jS,F.kO⟩
 have I':Inv X pins σ H' s':=I.CM F.os un (F.hok.kept fl.1) F.bare λb z=>absurd z (by simp)
 refine h pins σ H' s' e cls c I' ⟨B,.Bo fl,F.hok,λb o eb n hb hx=>?_,λb o eb hb hx=>?_,λp hp=>?_⟩ hc ee
 ·have R7:b∉X.fs:=λz=>hb (by
   rcases I.ok.stk with q | ⟨q,_⟩
   ·rw [q];exact z
   ·rw [q];unfold frs;rw [aac];split
    ·exact z
    ·exact Zl _ z)
  exact F.keep b o (I.base.keep b o eb n R7 hx) (I.base.free b o eb n hx) hb
 ·obtain ⟨o',q⟩:=I.base.there b o eb hx
  exact F.there b o' q hb
 ·obtain ⟨q,n,ne,nf,d⟩:=I.pin p (Z4 _ hp)
  exact F.keep p.1 p.2 q n λz=>by
   rcases Y6.mp (I.k9 _ z) with z | z
   ·exact ne z
   ·exact nf z
section
variable {P:Zg} {w:Zs} {K:Yz} {mg:Str→Option V3} {base:Heap} {f:Addr} {fd:FuncData}
theorem Ve {st:Stmt} {k:Nat} {m:List D→M D} (F:CZ K x qual st f fd) (S:ir N ps (aF st)) (hps:ps.length=n) (hN:N.length=nn) (hm:∀ ds,m ds=cI nn ms ds)
  (hbody:∀ (X:Cx) (EE:bW) (cdv:V3) (A:Around) (outer:List Env) (s:YB) (H:Hp) (E:XK),X=lT (nU P w) P w K mg base N qual (aF st) f cdv A outer s H E→di k (A.deeper (aae qual (aF st) s.heap.objs.size f cdv)) →
   fE X EE→PassesOwn (model P w) X.A X.env X.xe→rY X EE (cQ st) ms) :
  kP P w K mg base (nU P w) (k+1) f fd ps (gB K mg n m):=by
 subst hps hN
 have e:m=λds=>cI N.length ms ds:=funext hm
 subst e
 obtain ⟨oc,od,kV,doc,pm,an,cdv,ct,osl,rfl,lk,hcd⟩:=F.ex
 refine OB lk hcd S (λvs H Q E h=>h.len) λA outer s H vs Q E hr h=>?_
 obtain ⟨ds,ρ,G,hn,hp,rs,ok⟩:=h
 refine ⟨_,hbody _ (λc σ H'=>∀ cls,DB mg c cls→E cls none H') cdv A outer s H E rfl hr ?_ abk,ds.map some++YV (N.length - ds.length) none,ρ,G,⟨jq rs,hp⟩,?_⟩
 ·intro pins σ H' s' e cls c I fx hc ee
  obtain ⟨B,fb,hok,Hz⟩:=fx
  refine DA (L:=s.heap.objs.size) I.ok.frames rfl fb λh' a0 fl u=>?_
  have I':Inv _ [] σ H' {s' with heap:=h'}:=Inv.O3 (t:=s'.toks) I Hz hok fl.1 u
  have CL:∀ b o,s.heap.get? b=some o→b∉frs outer→b∉frs (aae qual (aF st) s.heap.objs.size f cdv::outer):=λb o e hb z=>by
   rcases Y6.mp (I.k9 b z) with z | z
   ·exact absurd (YI e) (by rw [show b=s.heap.objs.size from z];exact Zx _)
   ·exact hb z
  refine ⟨e,cls,a0,B,H',rfl,fl,⟨I'.os,I'.bare,λb o eb nb hb=>Hz.keep b o eb nb (CL b o eb hb) (by intro z;exact absurd (show b∈([]:List Addr) from z) (by simp)),λb o eb hb=>Hz.there b o eb (CL b o eb hb) (by intro z;exact absurd (show b∈([]:List Addr) from z) (by simp)),
   λb o eb nb hb=>I'.base.slot b o eb nb hb (by intro z;exact absurd (show b∈([]:List Addr) from z) (by simp)),λb o eb nb=>I'.base.free b o eb nb (by intro z;exact absurd (show b∈([]:List Addr) from z) (by simp)),I'.base.tups,I'.base.jS,I'.base.kO,hok⟩,ee cls hc⟩
 ·dsimp only [cI] at ok
  cases q:ms (ds.map some++YV (N.length - ds.length) none) G with
  | stuck=>rw [q] at ok;exact ok
  | nx τ G'=>rw [q] at ok;exact λσ' H' ρ' f ab=>ok .dP H' ρ' f ab.hp (by unfold Rep;rfl)
  | rt d G'=>rw [q] at ok;exact λv H' ρ' f hp r=>ok v H' ρ' f hp r
  | bk τ G'=>rw [q] at ok;exact ok.elim
  | ct τ G'=>rw [q] at ok;exact ok.elim
  | xn c τ G'=>rw [q] at ok;exact λσ' H' ρ' f ab cls hc=>ok cls H' ρ' hc f ab.hp
end
theorem DC (x:ji P w H h) (k:∀ b o,H b≠none→h.get? b=some o→B.get? b=some o):ji P w H B:=λa o e=>
 (x a o e).stay (λb u hb q=>k b u (by
  rcases hb with z | z
  ·rw [z,e];simp
  ·rw [z];simp) q) (λ_ q=>q) λ_ _ q=>q
section
variable {X:Cx} {EE:bW} {pins:List (Addr×Obj)} {σ:L2.St} {H:Hp} {s:YB}
noncomputable def DE (x:Str) (m:DS→M (List D)):MS:=λτ=>bL (m τ) (λds G=>if ds.length≤Yx then .xn (.mk x ds) τ G else .stuck) λc G=>.xn c τ G
end
noncomputable abbrev Cx.to (X:Cx) (E:V3→YB→Prop) (pn:List (Addr×Obj)):Cx:={X with xe:=E,pn:=pn}
noncomputable def fX (env:Env):List (Str×NameKind)→List (Str×Addr)→List (Str×Addr)
 | [],acc=>acc
 | (n,k)::r,acc=>fX env r (if k==.free then (match env.cells.lookup n with | some c=>(n,c)::acc | none=>acc) else acc)
theorem kY (h:∀ x∈scope.names,x.2=.free→∃ c,env.cells.lookup x.1=some c):closureFor scope env=pure (fX env scope.names []):=by
 unfold closureFor
 have key:∀ (names:List (Str×NameKind)) (acc:List (Str×Addr)),(∀ x∈names,x.2=.free→∃ c,env.cells.lookup x.1=some c) →
   (forIn names acc λx r=>match x with | (name,kind)=>if (kind==NameKind.free)=true then do let y ← cellOf env name;pure (ForInStep.yield ((name,y)::r)) else pure (ForInStep.yield r))=(pure (fX env names acc):Sem (List (Str×Addr))):=by
  intro names
  induction names with
  | nil=>intro acc _;rfl
  | cons x r ih=>
   intro acc hx
   obtain ⟨n,k⟩:=x
   rw [List.forIn_cons]
   by_cases hk:(k==NameKind.free)=true
   ·obtain ⟨c,hc⟩:=hx (n,k) aal (eq_of_beq hk)
    have e:cellOf env n=pure c:=by unfold cellOf;rw [hc]
    simp only [if_pos hk,e,pure_bind]
    rw [ih _ λy hy=>hx y (Zl _ hy)]
    show _=pure (fX env r (if (k==NameKind.free)=true then (match env.cells.lookup n with | some c=>(n,c)::acc | none=>acc) else acc))
    rw [if_pos hk,hc]
   ·simp only [if_neg hk,pure_bind]
    rw [ih _ λy hy=>hx y (Zl _ hy)]
    show _=pure (fX env r (if (k==NameKind.free)=true then (match env.cells.lookup n with | some c=>(n,c)::acc | none=>acc) else acc))
    rw [if_neg hk]
 have k2:=key scope.names [] h
 first
  | (rw [k2];rfl)
  | (simp only [k2,pure_bind])
  | exact k2
theorem pS {env:Env}:∀ (names:List (Str×NameKind)) (acc:List (Str×Addr)),(∀ y c,acc.lookup y=some c→env.cells.lookup y=some c)→∀ y c,(fX env names acc).lookup y=some c→env.cells.lookup y=some c
 | [],acc,h,y,c,e=>h y c e
 | (n,k)::r,acc,h,y,c,e=>by
  refine pS r _ (λz d ez=>?_) y c e
  by_cases hk:(k==NameKind.free)=true
  ·rw [if_pos hk] at ez
   cases q:env.cells.lookup n with
   | none=>rw [q] at ez;exact h z d ez
   | some c'=>
    rw [q] at ez
    dsimp only at ez
    rw [Zj] at ez
    cases hz:z==n with
    | true=>rw [hz] at ez;cases ez;rw [eq_of_beq hz];exact q
    | false=>rw [hz] at ez;exact h z d ez
  ·rw [if_neg hk] at ez
   exact h z d ez
theorem pT {env:Env}:∀ (names:List (Str×NameKind)) (acc:List (Str×Addr)) (y:Str),((∃ c,acc.lookup y=some c)∨((y,NameKind.free)∈names∧∃ c,env.cells.lookup y=some c))→∃ c,(fX env names acc).lookup y=some c
 | [],acc,y,h=>by
  rcases h with h | ⟨h,_⟩
  ·exact h
  ·cases h
 | (n,k)::r,acc,y,h=>by
  refine pT r _ y ?_
  rcases h with ⟨c,h⟩ | ⟨h,c,hc⟩
  ·left
   by_cases hk:(k==NameKind.free)=true
   ·rw [if_pos hk]
    cases q:env.cells.lookup n with
    | none=>exact ⟨c,h⟩
    | some c'=>
     dsimp only
     rw [Zj]
     cases hz:y==n with
     | true=>exact ⟨c',rfl⟩
     | false=>exact ⟨c,h⟩
   ·rw [if_neg hk];exact ⟨c,h⟩
  ·rcases Y6.mp h with e | h
   ·cases e
    left
    rw [if_pos (by rfl),hc]
    dsimp only
    exact ⟨c,by rw [Zj,beq_self_eq_true]⟩
   ·exact .inr ⟨h,c,hc⟩
section
open PyProof.Rows
noncomputable def mask {α:Type}:List Bool→List (Option α)→List (Option α)
 | _,[]=>[]
 | [],_::r=>none::mask [] r
 | k::ks,o::r=>(if k then o else none)::mask ks r
theorem iy {α:Type}:∀ (ks:List Bool) (l:List (Option α)),(mask ks l).length=l.length
 | _,[]=>by unfold mask;rfl
 | [],_::r=>by unfold mask;simp [iy [] r]
 | k::ks,o::r=>by unfold mask;simp [iy ks r]
theorem j0 {α:Type} {v:α}:∀ {ks:List Bool} {l:List (Option α)} {i:Nat},(mask ks l)[i]?=some (some v)→ks[i]?=some true∧l[i]?=some (some v)
 | ks,[],i,h=>by unfold mask at h;simp at h
 | [],o::r,0,h=>by unfold mask at h;simp at h
 | [],o::r,i+1,h=>by
  unfold mask at h
  have:=(j0 (ks:=[]) (l:=r) (i:=i) (by simpa using h)).1
  simp at this
 | k::ks,o::r,0,h=>by
  unfold mask at h
  cases k with
  | true=>simpa using h
  | false=>simp at h
 | k::ks,o::r,i+1,h=>by
  unfold mask at h
  have:=j0 (ks:=ks) (l:=r) (i:=i) (by simpa using h)
  simpa using this
theorem Ac {α:Type} {v:α}:∀ {ks:List Bool} {l:List (Option α)} {i:Nat},ks[i]?=some true→l[i]?=some (some v)→(mask ks l)[i]?=some (some v)
 | ks,[],i,_,h=>by simp at h
 | [],o::r,i,h,_=>by simp at h
 | k::ks,o::r,0,h,e=>by unfold mask;simp at h e;simp [h,e]
 | k::ks,o::r,i+1,h,e=>by
  unfold mask
  have:=Ac (ks:=ks) (l:=r) (i:=i) (by simpa using h) (by simpa using e)
  simpa using this
noncomputable def rZ (env:Env) (n:Str) (k:NameKind):NameKind:=if (k==.free&&env.scope.kind==.function&&env.kindOf n==some .cell) then .cell else k
theorem dX {env:Env} {y:Str}:∀ (names:List (Str×NameKind)),(names.map λ(n,k)=>if (k==NameKind.free&&env.scope.kind==.function&&env.kindOf n==some .cell) then (n,NameKind.cell) else (n,k)).lookup y=(names.lookup y).map (rZ env y)
 | []=>rfl
 | (n,k)::r=>by
  have ih:=dX (env:=env) (y:=y) r
  rw [Yv,Zj]
  by_cases hc:(k==NameKind.free&&env.scope.kind==.function&&env.kindOf n==some .cell)=true
  ·rw [if_pos hc,Zj]
   cases hy:y==n with
   | true=>
    have e:y=n:=eq_of_beq hy
    subst e
    simp [rZ,hc]
   | false=>exact ih
  ·rw [if_neg hc,Zj]
   cases hy:y==n with
   | true=>
    have e:y=n:=eq_of_beq hy
    subst e
    simp [rZ,hc]
   | false=>exact ih
structure bf (Q2:Scope) (N:List Str) (scope:Scope) (xs:List Str) (ks:List Bool):Prop where
 nd:xs.Nodup
 kind:scope.kind=.function
 pU:∀ y∈scope.names,y.2≠.cell
 names:∀ y∈scope.names,y.2=.local→scope.names.lookup y.1=some .local
 loc:∀ x∈xs,scope.names.lookup x=some .local
 free:∀ y∈scope.names,y.2=.free→Q2.names.lookup y.1=some .cell∨Q2.names.lookup y.1=some .free
 R8:((ks.zip N).all λp=>!p.1||decide (scope.names.lookup p.2=some .free))=true
theorem bf.cap {xs:List Str} (S:bf Q2 N scope xs ks):∀ i<ks.length,ks[i]?=some true→∀ y∈N[i]?,scope.names.lookup y=some .free:=λi _ hk y hy=>by
 have h:=aaY.mp S.R8 (true,y) (Zi (i:=i) (by rw [ZW];exact ⟨hk,hy⟩))
 simpa using h
noncomputable def lY (X:Cx) (scope:Scope) (cl:List (Str×Addr)) (xs:List Str) (C:Addr) (pins:List (Addr×Obj)) (s:YB) (H:Hp) (fp:List Addr) (E:V3→YB→Prop):Cx where
 prog:=X.prog
 w:=X.w
 K:=X.K
 mg:=X.mg
 base:=X.base
 A:=X.A
 N:=xs++X.N
 s₀:=s
 H₀:=H
 env:=compEnvC scope cl C X.env
 outer:=X.stack
 stack:=X.stack
 ex:=fp
 fn:=λ_=>false
 calm:=X.calm
 pn:=X.pn++pins
 xe:=E
section
variable {X:Cx} {scope:Scope} {xs:List Str} {x:Str} {ks:List Bool} {pins:List (Addr×Obj)} {σ:L2.St} {H:Hp} {s s4:YB} {fp:List Addr} {E:V3→YB→Prop} {h1:Heap}
theorem mem_lookup {α β:Type} [BEq α] [LawfulBEq α]:∀ {l:List (α×β)} {a:α} {b:β},l.lookup a=some b→(a,b)∈l
 | [],_,_,h=>by simp at h
 | (a',b')::r,a,b,h=>by
  rw [Zj] at h
  cases hz:a==a' with
  | true=>rw [hz] at h;cases h;rw [eq_of_beq hz];exact aal
  | false=>rw [hz] at h;exact Zl _ (mem_lookup h)
theorem DF (S:bf X.env.scope X.N scope xs ks) {cl:List (Str×Addr)} {C:Addr} {y:Str} (h:(compEnvC scope cl C X.env).kindOf y=some .cell∨(compEnvC scope cl C X.env).kindOf y=some .free):scope.names.lookup y=some .free:=by
 have h':(scope.names.lookup y).map (rZ X.env y)=some .cell∨(scope.names.lookup y).map (rZ X.env y)=some .free:=by
  rw [← dX];exact h
 cases q:scope.names.lookup y with
 | none=>rw [q] at h';rcases h' with h' | h'<;>cases h'
 | some k=>
  rw [q] at h'
  cases k with
  | free=>rfl
  | cell=>exact absurd rfl (S.pU _ (mem_lookup q))
  | _=>rcases h' with h' | h'<;>simp [rZ] at h'
theorem mX (S:bf X.env.scope X.N scope xs ks) {cl:List (Str×Addr)} {C:Addr} {y:Str} (h:scope.names.lookup y=some .free):(compEnvC scope cl C X.env).kindOf y=some .cell∨(compEnvC scope cl C X.env).kindOf y=some .free:=by
 have e:(compEnvC scope cl C X.env).kindOf y=(scope.names.lookup y).map (rZ X.env y):=dX scope.names
 rw [e,h]
 unfold rZ
 dsimp only [Option.map]
 split
 ·exact .inl rfl
 ·exact .inr rfl
theorem pV (S:bf X.env.scope X.N scope xs ks) (hx:x∈xs) {cl:List (Str×Addr)} {C:Addr}:(compEnvC scope cl C X.env).kindOf x=some .local:=by
 have e:(compEnvC scope cl C X.env).kindOf x=(scope.names.lookup x).map (rZ X.env x):=dX scope.names
 rw [e,S.loc x hx]
 rfl
theorem yP (S:bf X.env.scope X.N scope xs ks) (I:Inv X pins σ H s) (hf:∀ b∈fp,lS X pins H b∧b<s.heap.objs.size) (hn:h1.Ns s.heap.objs.size λ_=>none) (hk:∀ b o,s.heap.get? b=some o→h1.get? b=some o) (t:Nat) (ht:0<t:=by first | exact Zp _ | exact (Inv.os (by assumption)).2 | assumption | nofun) :
  Inv (lY X scope (fX X.env scope.names []) xs s.heap.objs.size pins s H fp E) [] (YV xs.length none++mask ks σ) H {s with heap:=h1,toks:=t}:=by
 have cs:∀ y c,(fX X.env scope.names []).lookup y=some c→X.env.cells.lookup y=some c:=pS scope.names [] λy c e=>by simp at e
 have lt:∀ b o,s.heap.get? b=some o→b≠s.heap.objs.size:=λb o e=>YU (YI e)
 have Mj:∀ y c,X.env.cells.lookup y=some c→∃ v,s.heap.IsCell c v:=λy c e=>I.cell y c e
 have J1:∀ b,b≠X.env.locals→b∉X.fs→b∉frs X.stack:=λb h1 h2 h3=>(Y6.mp (I.k9 b h3)).elim h1 h2
 refine ⟨⟨I.ok.mod,?_,I.ok.glob,I.ok.blt,YE _,λy z c e1 e2=>I.ok.inj y z c (cs y c e1) (cs z c e2),λy hy=>?_,λy c h _=>absurd (show false=true from h) Zm,I.ok.hd,I.ok.frames,.inl rfl,λb hb=>⟨YU (hf b hb).2,λy c e=>(hf b hb).1.2.2.2.2.1 y c (cs y c e)⟩,I.bs,
   Zw I.ok.F9 I.sz,λb o e hb=>?_,λb hb=>J1 b (hf b hb).1.2.1 (hf b hb).1.2.2.1,I.stack,I.oH⟩,⟨rfl,ht⟩,I.bare,Un.kept hk,⟨_,hn,λi y v e1 e2 e3=>?_⟩,λy c e=>?_,I.hok.fresh (YE _),λy c e=>(I.jM y c (cs y c e)).imp id λz=>⟨rfl,z.2⟩,λp hp=>?_,I.hok.kept hk,?_⟩
 ·show (relabel scope X.env).kind=.function
  exact S.kind
 ·have hfree:=DF S hy
  have hm:=mem_lookup hfree
  refine pT scope.names [] y (.inr ⟨hm,?_⟩)
  exact I.ok.has y (S.free _ hm rfl)
 ·rcases (hf b hb).1.2.2.2.1 with z | z
  ·exact I.ok.Gk b o e z
  ·exact absurd (YG (YI (I.ok.bs b o e).1) z) (Zx _)
 ·by_cases hlt:i<xs.length
  ·rw [YQ (by simpa using hlt),aaI] at e2
   rw [if_pos hlt] at e2;cases e2
  ·obtain ⟨j,rfl⟩:∃ j,i=xs.length+j:=⟨i - xs.length,by nofun⟩
   have ym:(mask ks σ)[j]?=some (some v):=by
    rw [Y5 (by simp)] at e2
    simpa using e2
   obtain ⟨hks,eσ⟩:=j0 ym
   have vQ:X.N[j]?=some y:=by
    have:(xs++X.N)[xs.length+j]?=some y:=e1
    rw [Y5 (by nofun)] at this
    simpa using this
   have hfree:scope.names.lookup y=some .free:=S.cap j (Yw.mp hks).1 hks y (by rw [vQ];rfl)
   obtain ⟨m,hm,hl⟩:=I.loc
   have hkind:=S.free _ (mem_lookup hfree) rfl
   obtain ⟨u,r,l⟩:=hl j y v vQ eσ (hkind.elim (λz=>.inr (.inl z)) λz=>.inr (.inr z))
   refine ⟨u,r,.inr ⟨mX S hfree,?_⟩⟩
   rcases l with ⟨k,_⟩ | ⟨k,c,ec,hc⟩
   ·have k':X.env.scope.names.lookup y=some .local:=k
    rcases hkind with z | z<;>(rw [k'] at z;cases z)
   ·obtain ⟨c',T6⟩:=pT (env:=X.env) scope.names [] y (.inr ⟨mem_lookup hfree,c,ec⟩)
    have:=cs y c' T6
    rw [ec] at this;cases this
    exact ⟨c,T6,hc.keeps hk⟩
 ·obtain ⟨v,hc⟩:=Mj y c (cs y c e)
  exact ⟨v,hc.keeps hk⟩
 ·have vS:p∈X.pn++pins:=by
   have:p∈(X.pn++pins)++[]:=hp
   simpa using this
  obtain ⟨e,n,ne,nf,d⟩:=I.pin p vS
  exact ⟨hk _ _ e,n,lt _ _ e,J1 _ ne nf,d⟩
 ·show (YV xs.length none++mask ks σ).length=(xs++X.N).length
  simp [iy,I.len]
theorem lA {Xc:Cx} {u:V3} {Q:Unit→YB→Prop} {H1:Hp}
  (S:bf X.env.scope X.N scope xs ks) (e:Xc=lY X scope cl xs C pins s0 H0 fp E) (NR:own.length=xs.length) (hx:xs[n]?=some x) (I:Inv Xc gw (own++mask ks σ0) H1 s1) (r:RelV v u) (h:∀ s',Inv Xc gw (own.set n (some v)++mask ks σ0) H1 s'→Q () s') :
  Y0 M' A' (assign (.Name x px) Xc.env u) Q E' s1:=by
 subst e
 obtain ⟨m,hn,hl⟩:=id I.loc
 have Bp:=pV (cl:=cl) (C:=C) S (Zi hx)
 refine ab6 (abo Bp hn (λh' hn' hs=>?_) (by rw [show (lY X scope cl xs C pins s0 H0 fp E).env.scope.kind=.function from S.kind];rfl))
 refine h _ ?_
 have CL:∀ b o,s0.heap.get? b=some o→b≠C:=λb o e=>YU (YG (YI e) I.ok.above)
 obtain ⟨oL,_,_,TU,_⟩:=id hn
 have hfree:H1 C=none:=I.free
 refine ⟨I.ok,⟨I.os.1,Zp _⟩,I.bare,⟨λb o e n hb hx=>?_,λb o e n hb hx=>?_,I.base.free,λb o e hx=>?_,I.base.tups,I.base.jS,I.base.kO⟩,⟨_,hn',λj y v' e1 e2 e3=>?_⟩,λy c e=>?_,I.free,I.jM,λp hp=>?_,λb ob e=>?_,by simpa using I.len⟩
 ·exact (hs.2 b (CL b o e)).trans (I.base.keep b o e n hb hx)
 ·obtain ⟨sl,e1⟩:=I.base.slot b o e n hb hx
  exact ⟨sl,(hs.2 b (CL b o e)).trans e1⟩
 ·obtain ⟨o',e1⟩:=I.base.there b o e hx
  exact ⟨o',(hs.2 b (CL b o e)).trans e1⟩
 ·have hnl:n<xs.length:=(Yw.mp hx).1
  by_cases hlt:j<xs.length
  ·have ey:xs[j]?=some y:=by
    have:(xs++X.N)[j]?=some y:=e1
    rwa [YQ hlt] at this
   rw [YQ (by simp;nofun)] at e2
   by_cases hj:n=j
   ·subst hj
    rw [hx] at ey;cases ey
    rw [Zr,if_pos rfl,if_pos (by nofun)] at e2
    cases e2
    exact ⟨u,r,.inl ⟨Bp,by simp⟩⟩
   ·rw [Zh hj] at e2
    have hne:y≠x:=by
     rintro rfl
     obtain ⟨h1,vQ⟩:=Yw.mp hx
     obtain ⟨h2,ym⟩:=Yw.mp ey
     exact hj ((ZE S.nd).mp (vQ.trans ym.symm))
    obtain ⟨u',r',q⟩:=hl j y v' e1 (by rw [YQ (by nofun)];exact e2) e3
    refine ⟨u',r',?_⟩
    rcases q with ⟨k,e⟩ | ⟨k,c,e,z⟩
    ·exact .inl ⟨k,by simpa [hne] using e⟩
    ·exact .inr ⟨k,c,e,z.sameBut hs (I.CK y c e)⟩
  ·obtain ⟨j,rfl⟩:∃ k,j=xs.length+k:=⟨j - xs.length,by nofun⟩
   have ym:(mask ks σ0)[j]?=some (some v'):=by
    rw [Y5 (by simp;nofun)] at e2
    simpa [NR] using e2
   obtain ⟨u',r',q⟩:=hl (xs.length+j) y v' e1 (by rw [Y5 (by nofun)];simpa [NR] using ym) e3
   refine ⟨u',r',?_⟩
   rcases q with ⟨k,e⟩ | ⟨k,c,e,z⟩
   ·obtain ⟨hks,_⟩:=j0 ym
    have vQ:X.N[j]?=some y:=by
     have:(xs++X.N)[xs.length+j]?=some y:=e1
     rw [Y5 (by nofun)] at this
     simpa using this
    have hfr:scope.names.lookup y=some .free:=S.cap j (Yw.mp hks).1 hks y (by rw [vQ];rfl)
    rcases mX (cl:=cl) (C:=C) S hfr with z | z
    ·have k':(compEnvC scope cl C X.env).kindOf y=some .local:=k
     rw [k'] at z;cases z
    ·have k':(compEnvC scope cl C X.env).kindOf y=some .local:=k
     rw [k'] at z;cases z
   ·exact .inr ⟨k,c,e,z.sameBut hs (I.CK y c e)⟩
 ·obtain ⟨w',z⟩:=I.cell y c e
  exact ⟨w',z.sameBut hs (I.CK y c e)⟩
 ·obtain ⟨e,n,ne,nf,d⟩:=I.pin p hp
  exact ⟨(hs.2 p.1 ne).trans e,n,ne,nf,d⟩
 ·refine (I.hok b ob e).stay (λc w' hc q=>(hs.2 c ?_).trans q) (λ_ q=>q) λ_ _ q=>q
  intro ec
  rcases hc with hc | hc
  ·have:H1 C=some ob:=by rw [← (show c=C from ec),hc];exact e
   rw [hfree] at this;cases this
  ·have:H1 C=some (.own b):=by rw [← (show c=C from ec)];exact hc
   rw [hfree] at this;cases this
noncomputable def O6:V→Hp→List V→Prop:=λx _ vs=>vs=[x]
noncomputable def O7 (K:Yz) (n:Nat):V→Hp→List V→Prop:=λx H vs=>∃ a,x=.ref a∧mQ K H a vs∧vs.length=n
noncomputable def Own (X:Cx) (scope:Scope) (xs:List Str) (ks:List Bool) (tg:Expr) (ow:V→Hp→List V→Prop):Prop:=
 ∀ (cl:List (Str×Addr)) (C:Addr) (pins:List (Addr×Obj)) (s0:YB) (H0:Hp) (fp:List Addr) (E:V3→YB→Prop) (Xc:Cx) (σ0:L2.St) (own:List (Option V)) (x:V) (vs:List V) (u:V3) (H1:Hp) (s1:YB) (gw:List (Addr×Obj)) (E':V3→YB→Prop) (Q:Unit→YB→Prop),
  Xc=lY X scope cl xs C pins s0 H0 fp E→own.length=xs.length→Inv Xc gw (own++mask ks σ0) H1 s1→RelV x u→ow x H1 vs →
  (vs.length=xs.length→∀ s',Inv Xc gw (vs.map some++mask ks σ0) H1 s'→Q () s')→Y0 (model X.prog X.w) X.A (assign tg Xc.env u) Q E' s1
theorem DG (S:bf X.env.scope X.N scope [x] ks):Own X scope [x] ks (.Name x px) O6:=by
 intro cl C pins s0 H0 fp E Xc σ0 own v vs u H1 s1 gw E' Q e ho I r hv h
 cases hv
 rcases own with _ | ⟨a,_ | ⟨b,ro⟩⟩<;>try (cases ho;done)
 exact lA (own:=[a]) (n:=0) S e rfl rfl I r λs' I'=>h rfl s' I'
theorem DI {pt:Pos} {k:Nat} (hc:X.calm=true) (S:bf X.env.scope X.N scope [x,y] ks):Own X scope [x,y] ks (.Tuple [.Name x px,.Name y py] k pt) (O7 X.K 2):=by
 intro cl C pins s0 H0 fp E Xc σ0 own v vs u H1 s1 gw E' Q e ho I r hv h
 obtain ⟨a,rfl,sq,hl⟩:=hv
 cases r
 rcases own with _ | ⟨a1,_ | ⟨a2,_ | ⟨a3,ro⟩⟩⟩<;>try (cases ho;done)
 rcases vs with _ | ⟨v1,_ | ⟨v2,_ | ⟨v3,rw⟩⟩⟩<;>try (cases hl;done)
 have Vf:mQ Xc.K H1 a [v1,v2]:=by rw [e];exact sq
 obtain ⟨its,rv,ht,hz⟩:=I.tuple Vf
 cases rv with
 | cons r1 rv=>
 cases rv with
 | cons r2 rv=>
 cases rv
 have hd:X.A.handled=none:=by
  have:=I.ok.hd (by rw [e];exact hc)
  rw [e] at this;exact this
 refine assign_Tuple_tuple hd ht rfl rfl λh' hx=>?_
 have I1:Inv Xc gw ([a1,a2]++mask ks σ0) H1 {s1 with heap:=h'}:=I.kept (t':=s1.toks) λb o e=>hx b o (YU (YI e)) e
 refine assignInOrder_cons (lA (own:=[a1,a2]) (n:=0) S e rfl rfl I1 r1 λs2 I2=>?_)
 refine assignInOrder_cons (lA (own:=[some v1,a2]) (n:=1) S e rfl rfl I2 r2 λs3 I3=>?_)
 exact assignInOrder_nil (h rfl _ I3)
end
end
theorem uC {prog:Zg} {w:Zs} {A:Around} {R:Result→YB→Prop} {s:YB} {elt target iter:Expr} {ifs:List Expr} {scope:Scope} {pos:Pos} {it acc:V3} {env:Env} (I:Nat→YB→Prop)
  (turn:∀ (n:Nat) (s:YB),I n s→Y0 (model prog w) A (pyNext it) (λr s₁=>match r with
   | none=>R (.ok .next) s₁
   | some v=>Y0 (model prog w) A (letOwnedTupleGo target it v) (λ_ s₁'=>Y0 (model prog w) A (assign target env v) (λ_ s₂=>Y0 (model prog w) A (forIn ifs true λc r=>if r=true then do let ok ← isTrue c env (eval c env);pure (ForInStep.yield ok) else pure (ForInStep.yield r)) (λok s₃=>if ok=true then Y0 (model prog w) A (eval elt env) (λx s₄=>Y0 (model prog w) A (call (.builtin "list.append") [acc,x]) (λ_ s₅=>∃ m,m<n∧I m s₅) (notedBy (model prog w) A env λe s'=>R (.error e) s') s₄) (notedBy (model prog w) A env λe s'=>R (.error e) s') s₃ else ∃ m,m<n∧I m s₃) (notedBy (model prog w) A env λe s'=>R (.error e) s') s₂) (notedBy (model prog w) A env λe s'=>R (.error e) s') s₁') (notedBy (model prog w) A env λe s'=>R (.error e) s') s₁) (notedBy (model prog w) A env λe s'=>R (.error e) s') s) (n:Nat) (h:I n s) :
  codeAny (model prog w) A (.compLoop (.ListComp elt [⟨target,iter,ifs,0⟩] scope pos) 0 it acc env) R s:=by
 refine codeAny_loop rfl I (λn s hI=>?_) n h
 refine wpAny_noted ?_
 rw [compTurn_list]
 refine Yu (wpAny_standAt (Yu (Zn (turn n s hI) (λr s₁ h₁=>?_) λ_ _ z=>z)))
 cases r with
 | none=>exact YN h₁
 | some v=>
  refine Yu (Zn h₁ (λ_ s₂ h₂=>Yu (Zn h₂ (λ_ s₃ h₃=>Yu (Zn h₃ (λok s₄ h₄=>?_) λ_ _ z=>z)) λ_ _ z=>z)) λ_ _ z=>z)
  cases ok with
  | false=>exact YN ⟨rfl,h₄⟩
  | true=>exact Yu (Yu (Zn h₄ (λx s₅ h₅=>Yu (Zn h₅ (λ_ s₆ h₆=>YN (YN ⟨rfl,h₆⟩)) λ_ _ z=>z)) λ_ _ z=>z))
noncomputable def CT (X:Cx) (ifs:List Expr) (tt:TT):Prop:=∀ (pins:List (Addr×Obj)) (s:YB) (σ:L2.St) (H:Hp) (Q:Bool→Hp→Prop),Inv X pins σ H s→tt σ H Q →
 Y0 (model X.prog X.w) X.A (forIn ifs true λc r=>if r=true then do let ok ← isTrue c X.env (eval c X.env);pure (ForInStep.yield ok) else pure (ForInStep.yield r)) (TP X pins σ Q) X.xe s
theorem Ml:CT X [] (λ_ H Q=>Q true H):=λ_ _ _ H _ I h=>wpAny_tests_nil ⟨H,I,h⟩
theorem Mm {c:Expr} {t:TT} (h:PT X c t):CT X [c] t:=λpins s σ H Q I q=>wpAny_tests_one (h pins s σ H Q I q)
noncomputable def sP (wi:TI) (ks:List Bool) (ow:V→Hp→List V→Prop) (tt:TT) (te:TE):TE:=λσ H Q=>wi σ H λJ H1=>∀ D,H1 D=none→∃ W:Nat→Nat→Hp→Prop,(∃ m,W 0 m (upd H1 D (.lst [])))∧∀ i m H,W i m H →
  (J.stop i H∧Q (.ref D) H)∨(J.go i H∧∀ x H',J.sy i H x H'→∃ vs,ow x H' vs∧tt (vs.map some++mask ks σ) H' λb H2=>if b=true then te (vs.map some++mask ks σ) H2 λv H3=>∃ ys,H3 D=some (.lst ys)∧ys.length<Yx∧∃ m',m'<m∧W (i+1) m' (upd H3 D (.lst (ys++[v]))) else ∃ m',m'<m∧W (i+1) m' H2)
section
variable {X:Cx} {scope:Scope} {xs:List Str} {tg:Expr} {ow:V→Hp→List V→Prop} {ks:List Bool} {pins:List (Addr×Obj)} {σ:L2.St} {H:Hp} {s s4:YB} {fp:List Addr} {E:V3→YB→Prop} {h1:Heap} {elt iter:Expr} {ifs:List Expr} {px pos:Pos} {tt:TT} {te:TE} {wi:TI}
theorem nV {h h' B B':Heap}:∀ {l:List Env},h.FunFrames B l→(∀ b∈frs l,∀ o,h.get? b=some o→(∀ vs,o.data≠.fields vs)→∃ o',h'.get? b=some o'∧o'.data=o.data)→(∀ b∈frs l,B'.get? b=none)→h'.FunFrames B' l
 | [],_,_,_=>trivial
 | env::r,⟨hk,⟨L,o,hf,_,ho,hd⟩,hr⟩,hm,hB=>by
  have sub:∀ b,b=L∨b∈frs r→b∈frs (env::r):=λb hb=>by
   unfold frs;rw [aac,hf]
   rcases hb with z | z
   ·rw [z];exact aal
   ·exact Zl _ z
  obtain ⟨o',e1,e2⟩:=hm L (sub L (.inl rfl)) o ho hd
  exact ⟨hk,⟨L,o',hf,hB L (sub L (.inl rfl)),e1,by rw [e2];exact hd⟩,nV hr (λb hb=>hm b (sub b (.inr hb))) λb hb=>hB b (sub b (.inr hb))⟩
theorem yQ {D C e:Addr} {cls:V3} {c:XD} {gw:List (Addr×Obj)} {σ':L2.St} {H' HD:Hp} {s3 s':YB} {cl:List (Str×Addr)} {RE:V3→YB→Prop} (Mn:fE X EE) (hst:∃ gh gr L,X.stack=gh::gr∧X.env.frame=gh.frame∧gh.frame=some L)
  (I3:Inv X pins σ HD s3) (hC:C=s3.heap.objs.size) (f3:∀ b∈fp,lS X pins HD b∧b<s3.heap.objs.size)
  (R9:∀ s'':YB,(∃ m,s''.heap.Ns C m∧∀ h',aaL C s''.heap h'→∀ cenv:Env,cenv.locals=C→Y0 (model X.prog X.w) X.A (passOn "comprehension.variables-let-go" (.ref e) cenv:Sem V3) (λ_ _=>False) X.xe {s'' with heap:=h'})→RE (.ref e) s'')
  (I':Inv (lY X scope cl xs C pins s3 HD fp E) gw σ' H' s') (fx:O2 (lY X scope cl xs C pins s3 HD fp E) H' e cls s') (hc:DB X.mg c cls) (ee:EE c σ H') :
  notedBy (model X.prog X.w) X.A (compEnvC scope cl C X.env) RE (.ref e) s':=by
 obtain ⟨B,fb,hok,Hz⟩:=fx
 obtain ⟨gh,gr,L,h1,h2,h3⟩:=hst
 show Y0 _ X.A (noteFrame (.ref e) (compEnvC scope cl C X.env)) _ _ s'
 rw [yO (show (compEnvC scope cl C X.env).frame=gh.frame from h2)]
 have hfr:X.A.frames=some (gh::gr):=by rw [← h1];exact I3.ok.frames
 have Vg:Bm B (gh::gr) e cls s'.heap:=by rw [← h1];exact fb
 refine Aa hfr h3 Vg λh5 a0 hH u5=>?_
 obtain ⟨k1,k2,k3,oe,vs,T,oT,ts,he,hcls,hd,hv1,OZ,O0,hT,CD,Vh⟩:=hH
 have T7:h5.FunFrames B X.stack:=by rw [h1];exact k3
 obtain ⟨m,hm,_⟩:=id I'.loc
 have T8:h5.Ns C m:=u5.ns hm
 refine R9 _ ⟨m,T8,λh6 sb cenv _=>?_⟩
 obtain ⟨oC,Xv,Xw,Vi,Vj,_⟩:=id T8
 have JQ:∀ {b:Addr} {o:Obj} {ws:Array V3},h5.get? b=some o→o.data=.fields ws→b≠C:=λ{b o ws} q d z=>by
  rw [z,Vi] at q;cases q;rw [Vj] at d;cases d
 have Sa:=(sb.2 e (JQ he hd)).trans he
 have T9:=(sb.2 T (JQ hT CD)).trans hT
 have Ua:3<ts.size:=(aam.mp Vh).1
 unfold passOn setFlight
 refine Yu (ZG Sa hd hv1 ?_)
 rw [if_neg (show ¬ ((Value.ref T==Value.none)=true) by simp)]
 have fin:X.xe (.ref e) {s' with heap:=h6.update T (aah (·.setIfInBounds 3 (cenv.frame.elim .none λf=>rawInt f)))}:=by
  have O8:∀ b,b≠T→(h6.update T (aah (·.setIfInBounds 3 (cenv.frame.elim .none λf=>rawInt f)))).get? b=h6.get? b:=λb hb=>ZR _ _ (Z2 hb)
  have vR:∀ b,b≠T→b≠C→(h6.update T (aah (·.setIfInBounds 3 (cenv.frame.elim .none λf=>rawInt f)))).get? b=h5.get? b:=λb hb hb2=>(O8 b hb).trans (sb.2 b hb2)
  generalize Vk:h6.update T (aah (·.setIfInBounds 3 (cenv.frame.elim .none λf=>rawInt f)))=h7 at O8 vR
  have Vl:h7.get? T=some (aah (·.setIfInBounds 3 (cenv.frame.elim .none λf=>rawInt f)) oT):=by rw [← Vk];exact ZX _ T9 (abr (aan CD _))
  have Vm:∀ b o,B.get? b=some o→b≠T:=λb o q z=>by rw [z,OZ] at q;cases q
  have Q3:∀ b o,(B.hide C).get? b=some o→h7.get? b=some o:=λb o q=>by
   have q':=acA q
   have nC:b≠C:=λz=>by rw [z,Heap.hide_self] at q;cases q
   rw [vR b (Vm b o q') nC]
   exact k1 b o q'
  have hide:∀ b o,b≠C→B.get? b=some o→(B.hide C).get? b=some o:=λb o z q=>(Heap.hide_ne B z).trans q
  have Mp:∀ b o,s3.heap.get? b=some o→b≠C:=λb o q=>by rw [hC];exact YU (YI q)
  have O9:ji X.prog X.w H' (B.hide C):=DC hok λb o n q=>hide b o (λz=>n (by rw [z];exact I'.free)) q
  have R7:∀ b,b∉frs X.stack→b∉X.fs:=λb hb z=>hb (by
   rcases I3.ok.stk with q | ⟨q,_⟩
   ·rw [q];exact z
   ·rw [q];unfold frs;rw [aac];split
    ·exact z
    ·exact Zl _ z)
  have slot:∀ b o,s3.heap.get? b=some o→b∈frs X.stack→∃ sl,h7.get? b=some {o with slots:=sl}:=λb o q hb=>by
   obtain ⟨_,o',q',hnf⟩:=I3.stack.mem hb
   rw [q] at q';cases q'
   obtain ⟨sl,e1⟩:=I'.base.slot b o q (I3.oH b hb) hb λz=>(I'.ok.Gm b z) hb
   obtain ⟨Oa,e2⟩:=u5 b _ e1 hnf
   refine ⟨Oa,?_⟩
   rw [vR b (λz=>by rw [z,hT] at e2;cases e2;exact hnf _ CD) (Mp b o q)]
   exact e2
  have un:Un (frs X.stack) fp HD H' s3.heap h7:=⟨λb o q n hb hx=>Q3 b o (hide b o (Mp b o q) (Hz.keep b o q n hb hx)),λb o q n hb hx=>slot b o q hb,λb o q n hx=>I'.base.free b o q n hx,λb o q hx=>by
   by_cases hb:b∈frs X.stack
   ·obtain ⟨sl,z⟩:=slot b o q hb
    exact ⟨_,z⟩
   ·obtain ⟨o',z⟩:=Hz.there b o q hb hx
    exact ⟨o',Q3 b o' (hide b o' (Mp b o q) z)⟩,I'.base.tups,I'.base.jS,I'.base.kO⟩
  have I7:Inv X pins σ H' {s' with heap:=h7}:=I3.CM (ch:=fp) I'.os un (O9.kept Q3) I'.bare λb hb=>by
   obtain ⟨g0,g1,g2,g3,g4,g5⟩:=(f3 b hb).1
   exact ⟨g3,g1,g4,g5⟩
  have Ub:∀ b o,X.s₀.heap.get? b=some o→b∉X.ex→b∉fp:=λb o q hx hb=>by
   obtain ⟨g0,g1,g2,g3,g4,g5⟩:=(f3 b hb).1
   rcases g3 with z | z
   ·exact hx z
   ·exact absurd (YG (YI q) z) (Zx _)
  refine Mn pins σ H' _ e cls c I7 ⟨B.hide C,⟨Q3,?_,?_,.inr ⟨a0,_,oe,vs,T,_,_,?_,hcls,hd,hv1,?_,O0,Vl,aan CD _,by simp [Ua];rfl⟩⟩,O9,⟨λb o q n hb hx=>?_,λb o q hb hx=>?_,λp hp=>?_⟩⟩ hc ee
  ·cases q:(B.hide C).get? e with
   | none=>rfl
   | some o=>have:=acA q;rw [k2] at this;cases this
  ·refine nV T7 (λb hb o q hnf=>?_) λb hb=>?_
   ·refine ⟨o,?_,rfl⟩
    show h7.get? b=some o
    rw [vR b (λz=>by rw [z,hT] at q;cases q;exact hnf _ CD) ?_]
    ·exact q
    ·obtain ⟨_,o',q',_⟩:=I3.stack.mem hb
     exact Mp b o' q'
   ·cases q:(B.hide C).get? b with
    | none=>rfl
    | some o=>have:=acA q;rw [(T7.mem hb).1] at this;cases this
  ·exact (vR e (Z2 O0) (JQ he hd)).trans he
  ·cases q:(B.hide C).get? T with
   | none=>rfl
   | some o=>have:=acA q;rw [OZ] at this;cases this
  ·have q3:=I3.base.keep b o q n (R7 b hb) hx
   exact hide b o (Mp b o q3) (Hz.keep b o q3 (I3.base.free b o q n hx) hb (Ub b o q hx))
  ·obtain ⟨o',q3⟩:=I3.base.there b o q hx
   obtain ⟨Uc,z⟩:=Hz.there b o' q3 hb (Ub b o q hx)
   exact ⟨Uc,hide b Uc (Mp b o' q3) z⟩
  ·exact hide _ _ (Mp _ _ (I3.pin p (Z4 _ hp)).1) (Hz.pins p (Z4 _ hp))
 first
  | (refine Yu (YN ?_);refine Yu (Yu (ZG Sa hd hv1 ?_)))
  | refine Yu (Yu (ZG Sa hd hv1 ?_))
 rw [if_pos (show (Value.ref T != Value.none)=true by simp)]
 exact aaU T9 CD Ua (adQ fin)
theorem pW {Q:VK} {J:It} {it:Addr} {tn:Nat→Heap→Prop} {RR:V3→Addr→Result→YB→Prop} (Mn:fE X EE) (hst:∃ gh gr L,X.stack=gh::gr∧X.env.frame=gh.frame∧gh.frame=some L) (S:bf X.env.scope X.N scope xs ks) (how:Own X scope xs ks tg ow) (hc:X.calm=true) (I:Inv X pins σ H s)
  (T:Turn X.prog X.w X.K tg J fp it tn) (st:tn 0 s.heap) (hf:∀ b∈fp,lS X pins H b)
  (hb:∀ (cl:List (Str×Addr)) (C:Addr) (pins:List (Addr×Obj)) (s0:YB) (H0:Hp) (fp:List Addr) (E:V3→YB→Prop),fE (lY X scope cl xs C pins s0 H0 fp E) (λc _ H'=>EE c σ H')→CT (lY X scope cl xs C pins s0 H0 fp E) ifs tt∧PE (lY X scope cl xs C pins s0 H0 fp E) elt te)
  (hw:∀ D,H D=none→∃ W:Nat→Nat→Hp→Prop,(∃ m,W 0 m (upd H D (.lst [])))∧∀ i m H,W i m H →
   (J.stop i H∧Q (.ref D) H)∨(J.go i H∧∀ x H',J.sy i H x H'→∃ vs,ow x H' vs∧tt (vs.map some++mask ks σ) H' λb H2=>if b=true then te (vs.map some++mask ks σ) H2 λv H3=>∃ ys,H3 D=some (.lst ys)∧ys.length<Yx∧∃ m',m'<m∧W (i+1) m' (upd H3 D (.lst (ys++[v]))) else ∃ m',m'<m∧W (i+1) m' H2))
  (hRR:∀ (D C:Addr) (s':YB) (H':Hp) (m:Str→Option V3),Inv X pins σ H' s'→s'.heap.Ns C m→H' C=none→C≠X.env.locals→X.s₀.heap.objs.size≤C→(∀ x c,X.env.cells.lookup x=some c→c≠C)→(∀ p∈X.pn++pins,p.1≠C)→Q (.ref D) H'→RR (.ref D) C (.ok .next) s')
  (R9:∀ (acc:V3) (C e:Addr) (s'':YB),(∃ m,s''.heap.Ns C m∧∀ h',aaL C s''.heap h'→∀ cenv:Env,cenv.locals=C→Y0 (model X.prog X.w) X.A (passOn "comprehension.variables-let-go" (.ref e) cenv:Sem V3) (λ_ _=>False) X.xe {s'' with heap:=h'})→RR acc C (.error (.ref e)) s'') :
  Y0 (model X.prog X.w) X.A (newList []) (λacc s₃=>Y0 (model X.prog X.w) X.A (newFunctionEnv scope X.env.globals (fX X.env scope.names []) [] X.env.qual none .none (some X.env)) (λcenv s₄=>
   codeAny (model X.prog X.w) X.A (.compStart (.ListComp elt [⟨tg,iter,ifs,0⟩] scope pos) 0 (.ref it) acc {cenv with scope:=relabel scope X.env}) (RR acc cenv.locals) s₄) E s₃) E s:=by
 refine Zo (acU S.pU (by intro y hy;simp at hy) (λh₁ Pa Pb=>?_) S.kind)
 have I3:Inv X pins σ (upd H s.heap.objs.size (.lst [])) {s with heap:=s.heap.push {cls:=.type "list",dict:=none,data:=.seq ([]:List V3).toArray}}:=
  I.laid (t':=s.toks) (λb o e=>YA _ e) (YE _) ⟨Zq _,[],0,.nil,YM _ rfl⟩
 have hfree:=I.hok.fresh (YE s.heap.objs.size)
 generalize Ud:({s with heap:=s.heap.push {cls:=.type "list",dict:=none,data:=.seq ([]:List V3).toArray}}:YB)=s3 at I3 Pa Pb ⊢
 have hsz:s3.heap.objs.size=s.heap.objs.size+1:=by rw [← Ud];exact aaG ..
 have Pc:∀ b o,s.heap.get? b=some o→s3.heap.get? b=some o:=λb o e=>by rw [← Ud];exact YA _ e
 have Pd:∀ b∈fp,b<s.heap.objs.size:=λb hb'=>by
  obtain ⟨o,e,_⟩:=T.obj 0 _ st b hb'
  exact YI e
 have f3:∀ b∈fp,lS X pins (upd H s.heap.objs.size (.lst [])) b∧b<s3.heap.objs.size:=λb hb'=>
  ⟨⟨by rw [av (YU (Pd b hb'))];exact (hf b hb').1,(hf b hb').2⟩,by rw [hsz];exact ab7 (Pd b hb')⟩
 have DJ:∀ b o,s3.heap.get? b=some o→h₁.get? b=some o:=λb o e=>Pb.extBut b o (YU (YI e)) (YA _ e)
 obtain ⟨W,⟨m0,w0⟩,turn⟩:=hw s.heap.objs.size hfree
 generalize hX:lY X scope (fX X.env scope.names []) xs s3.heap.objs.size pins s3 (upd H s.heap.objs.size (.lst [])) fp (notedBy (model X.prog X.w) X.A (compEnvC scope (fX X.env scope.names []) s3.heap.objs.size X.env) λe s'=>RR (.ref s.heap.objs.size) s3.heap.objs.size (.error e) s')=Xc
 have I4:Inv Xc [] (YV xs.length none++mask ks σ) (upd H s.heap.objs.size (.lst [])) {s3 with heap:=h₁,toks:=s3.toks+([]:List (Str×V3)).length}:=by
  rw [← hX]
  exact yP S I3 f3 (by simpa using Pa) DJ _
 have F8:CT Xc ifs tt∧PE Xc elt te:=by
  rw [← hX]
  exact hb _ _ _ _ _ _ _ λgw σ' H' s' e cls c I' fx hc ee=>yQ (RE:=λe s'=>RR (.ref s.heap.objs.size) s3.heap.objs.size (.error e) s') (D:=s.heap.objs.size) Mn hst I3 rfl f3 (λs''=>R9 _ _ e s'') I' fx hc ee
 have wH:Xc.prog=X.prog:=by rw [← hX];rfl
 have ew:Xc.w=X.w:=by rw [← hX];rfl
 have eK:Xc.K=X.K:=by rw [← hX];rfl
 have eA:Xc.A=X.A:=by rw [← hX];rfl
 have J2:Xc.calm=true:=by rw [← hX];exact hc
 have Sb:Xc.xe=notedBy (model X.prog X.w) X.A Xc.env λe s'=>RR (.ref s.heap.objs.size) s3.heap.objs.size (.error e) s':=by rw [← hX];rfl
 have Mq:Xc.env=compEnvC scope (fX X.env scope.names []) s3.heap.objs.size X.env:=by rw [← hX];rfl
 have Vn:Xc.stack=X.stack:=by rw [← hX];rfl
 have Sd:∀ {H':Hp},(∀ b∈fp,H' b=none)→∀ b∈fp,lS Xc [] H' b:=λ{H'} hn b hb'=>by
  obtain ⟨g0,g1,g2,g3,g4,g5⟩:=(f3 b hb').1
  rw [← hX]
  refine ⟨hn b hb',YU (f3 b hb').2,λz=>(Y6.mp (I3.k9 b z)).elim g1 g2,.inl hb',λy c e=>g4 y c (pS scope.names [] (λy c e=>by simp at e) y c e),λp hp=>g5 p ?_⟩
  have:p∈(X.pn++pins)++[]:=hp
  simpa using this
 have fin:∀ (s':YB) (H':Hp) (a0:List (Option V)),Inv Xc [] (a0++mask ks σ) H' s'→Q (.ref s.heap.objs.size) H'→RR (.ref s.heap.objs.size) s3.heap.objs.size (.ok .next) s':=λs' H' a0 I' q=>by
  have hloc:=I'.loc
  obtain ⟨m,hm,_⟩:=hloc
  have hC:H' s3.heap.objs.size=none:=by have:=I'.free;rw [Mq] at this;exact this
  have hU:Un (frs X.stack) fp (upd H s.heap.objs.size (.lst [])) H' s3.heap s'.heap:=by
   have:=I'.base
   rw [← hX] at this
   exact this
  have hos:s'.os=s3.os∧0<s'.toks:=by have:=I'.os;rw [← hX] at this;exact this
  have Se:ji X.prog X.w H' s'.heap:=by have:=I'.hok;rw [← hX] at this;exact this
  have I5:Inv X pins σ H' s':=I3.CM hos hU Se I'.bare λb hb'=>by
   obtain ⟨g0,g1,g2,g3,g4,g5⟩:=(f3 b hb').1
   exact ⟨g3,g1,g4,g5⟩
  refine hRR _ _ s' H' m I5 (by rw [Mq] at hm;exact hm) hC (abQ I3.lt) (Zw I3.sz (YE _)) (λy c e z=>?_) (λp hp z=>?_) q
  ·obtain ⟨v,hv⟩:=I3.cell y c e
   exact absurd hv.lt (by rw [z];exact Zx _)
  ·exact absurd (YI (I3.pin p hp).1) (by rw [z];exact Zx _)
 have loop:codeAny (model X.prog X.w) X.A (.compLoop (.ListComp elt [⟨tg,iter,ifs,0⟩] scope pos) 0 (.ref it) (.ref s.heap.objs.size) Xc.env) (RR (.ref s.heap.objs.size) s3.heap.objs.size)
   {s3 with heap:=h₁,toks:=s3.toks+([]:List (Str×V3)).length}:=by
  refine uC (λn s'=>∃ i a0 H',a0.length=xs.length∧Inv Xc [] (a0++mask ks σ) H' s'∧tn i s'.heap∧(∀ b∈fp,H' b=none)∧W i n H') ?_ m0 ⟨0,YV xs.length none,_,by simp,I4,T.keep 0 _ _ st λb hb' o e=>DJ b o (Pc b o e),λb hb'=>(f3 b hb').1.1,w0⟩
  rintro n s5 ⟨i,a0,H5,Vo,I5,NP,QU,w5⟩
  rcases turn i n H5 w5 with ⟨stop,q⟩ | ⟨go,step⟩
  ·have hd:=T.done Xc wH ew eK J2 i [] s5 _ H5 (λ_ _=>False) I5 (Sd QU) NP stop
   rw [eA] at hd
   refine Zn hd (λr s6 hr=>?_) (λ_ _ z=>ZA z)
   obtain ⟨rfl,I6⟩:=hr
   exact fin s6 H5 a0 I6 q
  ·have hd:=T.item Xc wH ew eK J2 i [] s5 _ H5 (λ_ _=>False) I5 (Sd QU) NP go
   rw [eA] at hd
   refine Zn hd (λr s6 hr=>?_) (λ_ _ z=>ZA z)
   obtain ⟨u,rfl,h6⟩:=hr
   refine Zn h6 (λ_ s7 hq=>?_) (λ_ _ z=>ZA z)
   obtain ⟨v,H7,I7,r7,y7,Sf,Vp⟩:=hq
   obtain ⟨vs,hvs,step⟩:=step v H7 y7
   have Vq:Inv Xc (mR fp s7.heap) (a0++mask ks σ) H7 s7:=by
    have:=Inv.pinned (pins:=[]) I7 (Sd Vp) (T.obj _ _ Sf)
    simpa using this
   have back:∀ {σ':L2.St} {H':Hp} {s':YB},Inv Xc (mR fp s7.heap) σ' H' s'→Inv Xc [] σ' H' s'∧tn (i+1) s'.heap∧∀ b∈fp,H' b=none:=λ{σ' H' s'} I'=>by
    refine ⟨I'.ue λp hp=>absurd hp (by simp),T.keep _ _ _ Sf λb hb' o e=>(I'.pin (b,o) (Zz _ (jk hb' e))).1,λb hb'=>?_⟩
    obtain ⟨o,e,d⟩:=T.obj _ _ Sf b hb'
    exact (I'.pin (b,o) (Zz _ (jk hb' e))).2.1
   refine how _ _ _ _ _ _ _ Xc σ a0 v vs u H7 s7 _ _ _ hX.symm Vo Vq r7 hvs λUe s8 Vr=>?_
   have ht:=F8.1 _ s8 _ H7 _ Vr step
   rw [wH,ew,eA,Sb] at ht
   refine Zn ht (λVs s9 h9=>?_) (λ_ _ z=>z)
   obtain ⟨H9,I9,q9⟩:=h9
   cases Vs with
   | false=>
    rw [if_neg Zm] at q9 ⊢
    obtain ⟨m',hm',w'⟩:=q9
    obtain ⟨Vt,Vu,Vv⟩:=back I9
    exact ⟨m',hm',i+1,vs.map some,H9,by simpa using Ue,Vt,Vu,Vv,w'⟩
   | true=>
    rw [if_pos rfl] at q9 ⊢
    have he:=F8.2 _ s9 _ H9 _ I9 q9
    rw [wH,ew,eA,Sb] at he
    refine Zn he (λy Sg Sh=>?_) (λ_ _ z=>z)
    obtain ⟨yv,Vw,Vx,Vy,ys,hD,hlen,m',hm',w'⟩:=Sh
    have ha:=sJ (X:=Xc) _ Sg _ Vw (.ref s.heap.objs.size) [yv] (.ref s.heap.objs.size) [y] (λ_ H'=>∃ m',m'<n∧W (i+1) m' H') Vx rfl (.cons Vy .nil) ⟨_,ys,yv,rfl,rfl,hD,hlen,m',hm',w'⟩
    rw [wH,ew,eA,Sb] at ha
    refine Zn ha (λ_ Xx h11=>?_) (λ_ _ z=>z)
    obtain ⟨_,Vz,VA,_,VB,Si,w''⟩:=h11
    obtain ⟨Sj,Sk,Sl⟩:=back VA
    exact ⟨VB,Si,i+1,vs.map some,Vz,by simpa using Ue,Sj,Sk,Sl,w''⟩
 rw [Mq] at loop
 exact codeAny_compStart_list loop (T.self X.A 0 _ _ _ (T.keep 0 _ _ st λb hb' o e=>DJ b o (Pc b o e)) loop)
theorem oS {tt:L2.St→TT} {te:L2.St→TE} (Mn:fE X EE) (hst:∃ gh gr L,X.stack=gh::gr∧X.env.frame=gh.frame∧gh.frame=some L) (S:bf X.env.scope X.N scope xs ks) (how:Own X scope xs ks tg ow) (hc:X.calm=true) (hi:PI X tg iter wi)
  (hb:∀ (σ:L2.St) (cl:List (Str×Addr)) (C:Addr) (pins:List (Addr×Obj)) (s0:YB) (H0:Hp) (fp:List Addr) (E:V3→YB→Prop),fE (lY X scope cl xs C pins s0 H0 fp E) (λc _ H'=>EE c σ H')→CT (lY X scope cl xs C pins s0 H0 fp E) ifs (tt σ)∧PE (lY X scope cl xs C pins s0 H0 fp E) elt (te σ))
  (hs:∀ x,foldedSetIterable iter X.env x=pure x:=by intro _;rfl):PE X (.ListComp elt [⟨tg,iter,ifs,0⟩] scope pos) (λσ=>sP wi ks ow (tt σ) (te σ) σ):=by
 intro pins s σ H Q I h
 rw [eval_ListComp]
 refine acg (use:=none) rfl hs (kY λy hy hfr=>I.ok.has y.1 (S.free y hy hfr)) S.kind S.names (dh (hi pins s σ H _ I h) λv s1 h1=>dh h1 λitv s2 h2=>?_)
 obtain ⟨it,fp,tn,J,H2,rfl,I2,T,st2,f2,q⟩:=h2
 refine pW (RR:=λacc C=>compPost (model X.prog X.w) X.A X.xe none (EP X pins σ Q) acc C) Mn hst S how hc I2 T st2 f2 (hb σ) q ?_ (λ_ _ _ _ z=>z)
 intro D C s' H' m I' hn hC h1 h2 h3 h4 q'
 refine ⟨m,hn,λh' sb=>?_⟩
 exact ⟨.ref D,H',I'.turned (t':=s'.toks) (λb o hb e=>(sb.2 b hb).trans e) hC h1 (.inr h2) h3 h4,rfl,q'⟩
theorem Ad {tt:L2.St→TT} {te:L2.St→TE} (Mn:fE X EE) (hst:∃ gh gr L,X.stack=gh::gr∧X.env.frame=gh.frame∧gh.frame=some L) {y:Str} {i:Nat} {py spos:Pos} (S:bf X.env.scope X.N scope xs ks) (how:Own X scope xs ks tg ow) (hc:X.calm=true) (hN:X.N.Nodup) (hi:PI X tg iter wi) (hy:X.N[i]?=some y) (hl:X.env.scope.names.lookup y=some .local)
  (hsw:swapsWith (.ListComp elt [⟨tg,iter,ifs,0⟩] scope pos) (some (.Name y py)) spos.line X.env=pure true)
  (hb:∀ (σ:L2.St) (cl:List (Str×Addr)) (C:Addr) (pins:List (Addr×Obj)) (s0:YB) (H0:Hp) (fp:List Addr) (E:V3→YB→Prop),fE (lY X scope cl xs C pins s0 H0 fp E) (λc _ H'=>EE c σ H')→CT (lY X scope cl xs C pins s0 H0 fp E) ifs (tt σ)∧PE (lY X scope cl xs C pins s0 H0 fp E) elt (te σ))
  (hs:∀ x,foldedSetIterable iter X.env x=pure x:=by intro _;rfl):PS X (.Assign [.Name y py] (.ListComp elt [⟨tg,iter,ifs,0⟩] scope pos) spos) (K0 (λσ=>sP wi ks ow (tt σ) (te σ) σ) (su i)):=by
 intro pins s σ H Dd I h
 rw [exec_Assign_Name_used _ _ _ _ hsw]
 refine Yu (wpAny_standAt (Yu ?_))
 show Y0 _ X.A (do let _ ← comprehension (.ListComp elt [⟨tg,iter,ifs,0⟩] scope pos) scope X.env _ (newList []) false (eval iter X.env) (some (assign (.Name y py) X.env))) _ _ s
 refine Yu (Zn (acg (use:=some (assign (.Name y py) X.env)) (Q:=λ_ s'=>SP X pins Dd .next s') rfl hs (kY λy hy hfr=>I.ok.has y.1 (S.free y hy hfr)) S.kind S.names
  (dh (hi pins s σ H _ I h) λv s1 h1=>dh h1 λitv s2 h2=>?_)) (λ_ s' hq=>YN (YN hq)) λ_ _ e=>e)
 obtain ⟨it,fp,tn,J,H2,rfl,I2,T,st2,f2,q⟩:=h2
 refine pW (Q:=λv H'=>Dd.nx (σ.set i (some v)) H') (RR:=λacc C=>compPost (model X.prog X.w) X.A X.xe (some (assign (.Name y py) X.env)) (λ_ s'=>SP X pins Dd .next s') acc C) Mn hst S how hc I2 T st2 f2 (hb σ) q ?_ (λ_ _ _ _ z=>z)
 intro D C s' H' m I' hn hC h1 h2 h3 h4 q'
 show Y0 _ X.A (assign (.Name y py) X.env (.ref D)) _ _ s'
 refine ab6 (sj I' hN hy (.inl hl) (v:=.ref D) (u:=.ref D) rfl (λs'' VC sb=>?_) (.inr hl))
 obtain ⟨a,sb,ha⟩:=sb
 have hne:C≠a:=by
  rcases ha with e | e
  ·rw [e];exact h1
  ·exact λz=>h3 y a e z.symm
 refine ⟨m,hn.sameBut sb hne,λh'' sb'=>?_⟩
 exact ⟨_,H',VC.turned (t':=s''.toks) (λb o hb e=>(sb'.2 b hb).trans e) hC h1 (.inr h2) h3 h4,q'⟩
end
noncomputable def oN:D→Option (List D):=λd=>some [d]
noncomputable def oT (n:Nat):D→Option (List D)
 | .tup xs=>if xs.length=n then some xs else none
 | _=>none
noncomputable def g9 (K:Yz) (mg:Str→Option V3) (ow:V→Hp→List V→Prop) (gO:D→Option (List D)):Prop:=
 ∀ (ρ:List Addr) (H:Hp) (d:D) (v:V) (os:List D),Rep K mg ρ H d v→gO d=some os→∃ vs,ow v H vs∧au K mg ρ H os vs
theorem Bq:g9 K mg O6 oN:=λρ H d v os r e=>by
 cases e
 exact ⟨[v],rfl,.cons r .nil⟩
theorem DK:g9 K mg (O7 K n) (oT n):=λρ H d v os r e=>by
 cases d<;>try (cases e;done)
 rename_i xs
 dsimp only [oT] at e
 by_cases h:xs.length=n
 ·rw [if_pos h] at e;cases e
  unfold Rep at r
  obtain ⟨a,vs,rfl,sq,rs⟩:=r
  exact ⟨vs,⟨a,rfl,sq,by rw [← rs.length];exact h⟩,rs⟩
 ·rw [if_neg h] at e;cases e
noncomputable def wI (K:Yz) (mg:Str→Option V3) (H H':Hp) (ρ:List Addr):Prop:=bS K H H' ρ ρ∧∀ G,eO K mg H ρ G→eO K mg H' ρ G
theorem wI.refl:wI K mg H H ρ:=⟨.refl,λ_ h=>h⟩
theorem wI.new {o:HO} (hp:H p=none):wI K mg H (upd H p o) ρ:=⟨cR hp ρ,λ_ h=>h.new hp⟩
noncomputable def dD (gO:D→Option (List D)) (ks:List Bool) (tt:DS→M Bool) (te:DS→M D) (n:Nat) (d:D) (τ:DS) (G:DH):Out Unit:=match gO d with
 | none=>.stuck
 | some os=>match tt (os.map some++mask ks τ) G with
 | .ok true G1=>match te (os.map some++mask ks τ) G1 with
  | .ok v G2=>match G2[n]? with
   | some (.lst ys)=>if ys.length<Yx then .ok () (G2.set n (.lst (ys++[v]))) else .stuck
   | _=>.stuck
  | .bC c G2=>.bC c G2
  | .stuck=>.stuck
 | .ok false G1=>.ok () G1
 | .bC c G1=>.bC c G1
 | .stuck=>.stuck
noncomputable def cz (gO:D→Option (List D)) (ks:List Bool) (tt:DS→M Bool) (te:DS→M D) (n:Nat):List D→DS→DH→Out D
 | [],_,G=>.ok (.obj n) G
 | d::r,τ,G=>match dD gO ks tt te n d τ G with
  | .ok _ G'=>cz gO ks tt te n r τ G'
  | .bC c G'=>.bC c G'
  | .stuck=>.stuck
noncomputable def nW (gO:D→Option (List D)) (ks:List Bool) (tt:DS→M Bool) (te:DS→M D) (n src:Nat):Nat→Nat→DS→DH→Out D
 | 0,_,_,_=>.stuck
 | f+1,k,τ,G=>match G[src]? with
  | some (.lst xs)=>match xs[k]? with
   | none=>.ok (.obj n) G
   | some d=>match dD gO ks tt te n d τ G with
    | .ok _ G'=>nW gO ks tt te n src f (k+1) τ G'
    | .bC c G'=>.bC c G'
    | .stuck=>.stuck
  | _=>.stuck
noncomputable def cj (gO:D→Option (List D)) (ks:List Bool) (m:DS→M D) (tt:DS→M Bool) (te:DS→M D):DS→M D:=λτ=>(m τ).bind λd G=>match d with
 | .obj k=>match G[k]? with
  | some (.lst xs)=>nW gO ks tt te G.length k (xs.length+1) 0 τ (G++[.lst []])
  | _=>.stuck
 | .tup xs=>cz gO ks tt te G.length xs τ (G++[.lst []])
 | .con xs=>cz gO ks tt te G.length xs τ (G++[.lst []])
 | .str z=>cz gO ks tt te G.length (z.cps.toList.map λc=>.str ⟨#[c]⟩) τ (G++[.lst []])
 | _=>.stuck
noncomputable def cF (A2:List D→Option (List D)) (gO:D→Option (List D)) (ks:List Bool) (m:DS→M (List D)) (tt:DS→M Bool) (te:DS→M D):DS→M D:=λτ=>(m τ).bind λds G=>match A2 ds with
 | some xs=>cz gO ks tt te G.length xs τ (G++[.lst []])
 | none=>.stuck
section
variable {X:Cx} {EE:bW} {gO:D→Option (List D)} {ow:V→Hp→List V→Prop} {xs:List Str} {tg:Expr} {ks:List Bool} {tt:DS→M Bool} {te:DS→M D}
theorem Br (h:pL K mg H ρ σ τ) (r:au K mg ρ H os vs):pL K mg H ρ (vs.map some++mask ks σ) (os.map some++mask ks τ):=by
 have hl:=r.length
 refine ⟨by simp [iy,h.1,hl],λi e he=>?_⟩
 by_cases hi:i<os.length
 ·rw [YQ (by simpa using hi),YK] at he
  cases q:os[i]? with
  | none=>rw [q] at he;cases he
  | some d=>
   rw [q] at he;cases he
   obtain ⟨v,e1,r1⟩:=r.get q
   exact ⟨v,by rw [YQ (by simp;nofun),YK,e1];rfl,r1⟩
 ·rw [Y5 (by simp;nofun)] at he
  obtain ⟨h1,h2⟩:=j0 he
  obtain ⟨w,e1,r1⟩:=h.2 _ e h2
  refine ⟨w,?_,r1⟩
  rw [Y5 (by simp;nofun)]
  have:=Ac h1 e1
  simpa [hl] using this
noncomputable def lO (EE:bW) (σ:L2.St):bW:=λc _ H'=>EE c σ H'
theorem mY (hO:g9 X.K X.mg ow gO) {W:Hp→Prop} {n:Nat} {p:Addr} {σ:L2.St} {H:Hp} {τ:DS} {ρ:List Addr} {G:DH} {d:D} {v:V} (ab:Ab X.K X.mg σ H τ ρ G) (r:Rep X.K X.mg ρ H d v) (hn:ρ[n]?=some p)
  (hW:match dD gO ks tt te n d τ G with
   | .stuck=>False
   | .ok _ G'=>∀ H' ρ',bS X.K H H' ρ ρ'→Ab X.K X.mg σ H' τ ρ' G'→W H'
   | .bC c G'=>∀ H' ρ',bS X.K H H' ρ ρ'→Ab X.K X.mg σ H' τ ρ' G'→EE c σ H') :
  ∃ vs,ow v H vs∧liftT X.K X.mg (lO EE σ) tt (vs.map some++mask ks σ) H λb H2=>if b=true then aW X.K X.mg (lO EE σ) te (vs.map some++mask ks σ) H2 λu H3=>∃ ys,H3 p=some (.lst ys)∧ys.length<Yx∧W (upd H3 p (.lst (ys++[u]))) else W H2:=by
 unfold dD at hW
 cases qo:gO d with
 | none=>rw [qo] at hW;exact hW.elim
 | some os=>
 rw [qo] at hW
 dsimp only at hW
 obtain ⟨us,oO,VD⟩:=hO ρ H d v os r qo
 refine ⟨us,oO,?_⟩
 refine ⟨_,ρ,G,⟨Br ab.st VD,ab.hp⟩,?_⟩
 cases q:tt (os.map some++mask ks τ) G with
 | stuck=>rw [q] at hW;exact hW
 | bC c G1=>rw [q] at hW;exact λH' ρ' f bu=>hW H' ρ' f ⟨ab.st.mono f,bu.hp⟩
 | ok b G1=>
  rw [q] at hW
  intro H1 ρ1 f1 fM
  cases b with
  | false=>
   rw [if_neg Zm]
   exact hW H1 ρ1 f1 ⟨ab.st.mono f1,fM.hp⟩
  | true=>
   rw [if_pos rfl]
   dsimp only at hW
   refine ⟨_,ρ1,G1,fM,?_⟩
   cases q2:te (os.map some++mask ks τ) G1 with
   | stuck=>rw [q2] at hW;exact hW
   | bC c G2=>rw [q2] at hW;exact λH' ρ' f bu=>hW H' ρ' (f1.trans f) ⟨ab.st.mono (f1.trans f),bu.hp⟩
   | ok u G2=>
    rw [q2] at hW
    dsimp only at hW
    intro w H2 ρ2 f2 bM r2
    cases q3:G2[n]? with
    | none=>rw [q3] at hW;exact hW.elim
    | some o=>
     cases o with
     | lst ys=>
      rw [q3] at hW
      dsimp only at hW
      by_cases hl:ys.length<Yx
      ·rw [if_pos hl] at hW
       dsimp only at hW
       obtain ⟨p',vs,e1,e2,rs⟩:=bM.hp.lst q3
       have Q4:=f1.trans f2
       rw [Q4.get hn] at e1;cases e1
       refine ⟨vs,e2,by rw [← rs.length];exact hl,?_⟩
       have f3:bS X.K H2 (upd H2 p (.lst (vs++[w]))) ρ2 ρ2:=uy e2 ρ2
       exact hW _ ρ2 (Q4.trans f3) ⟨ab.st.mono (Q4.trans f3),bM.hp.put (ds:=ys) (Q4.get hn) e2 (rs.append (.cons r2 .nil))⟩
      ·rw [if_neg hl] at hW;exact hW.elim
     | _=>first | (rw [q] at ok;exact ok.elim) | (rw [q] at aK;exact aK.elim) | (rw [q3] at hW;exact hW.elim) | (rw [q] at e;cases e;done) | (rw [g] at ok;exact ok.elim) | (rw [g] at q;cases q;done) | (rw [g] at h;cases h;done) | exact ok.elim
theorem jt (hO:g9 X.K X.mg ow gO) {Q:VK} {J:It} {H0:Hp} {σ:L2.St} {ρ0:List Addr} {G0:DH} {τ:DS} (ds:List D)
  (go:∀ i H ρ,i<ds.length→bS X.K H0 H ρ0 ρ→J.go i H) (stop:∀ i H ρ,ds.length≤i→bS X.K H0 H ρ0 ρ→J.stop i H)
  (sy:∀ i d H ρ x H',ds[i]?=some d→bS X.K H0 H ρ0 ρ→J.sy i H x H'→wI X.K X.mg H H' ρ∧Rep X.K X.mg ρ H' d x)
  (ab:Ab X.K X.mg σ H0 τ ρ0 G0) (ok:iQ X.K X.mg EE H0 σ τ ρ0 (cz gO ks tt te G0.length ds τ (G0++[.lst []])) Q) :
  ∀ D,H0 D=none→∃ W:Nat→Nat→Hp→Prop,(∃ m,W 0 m (upd H0 D (.lst [])))∧∀ i m H,W i m H →
   (J.stop i H∧Q (.ref D) H)∨(J.go i H∧∀ x H',J.sy i H x H'→∃ vs,ow x H' vs∧liftT X.K X.mg (lO EE σ) tt (vs.map some++mask ks σ) H' λb H2=>if b=true then aW X.K X.mg (lO EE σ) te (vs.map some++mask ks σ) H2 λv H3=>∃ ys,H3 D=some (.lst ys)∧ys.length<Yx∧∃ m',m'<m∧W (i+1) m' (upd H3 D (.lst (ys++[v]))) else ∃ m',m'<m∧W (i+1) m' H2):=by
 intro D hD
 have f0:bS X.K H0 (upd H0 D (.lst [])) ρ0 (ρ0++[D]):=(cR hD ρ0).trans (cE ρ0 D)
 have HA:Ab X.K X.mg σ (upd H0 D (.lst [])) τ (ρ0++[D]) (G0++[.lst []]):=ab.fut f0 (ab.hp.more hD .nil)
 have hn0:(ρ0++[D])[G0.length]?=some D:=by rw [← ab.hp.hl,aB]
 refine ⟨λi m H=>i≤ds.length∧m=ds.length - i∧∃ ρ G,Ab X.K X.mg σ H τ ρ G∧bS X.K H0 H ρ0 ρ∧ρ[G0.length]?=some D∧iQ X.K X.mg EE H σ τ ρ (cz gO ks tt te G0.length (ds.drop i) τ G) Q,
  ⟨ds.length,Zq _,rfl,ρ0++[D],_,HA,f0,hn0,by simpa using ok.fut f0⟩,?_⟩
 rintro i m H ⟨hi,rfl,ρ,G,ab,f,hn,ok⟩
 by_cases hlt:i<ds.length
 ·refine .inr ⟨go i H ρ hlt f,λx H' y=>?_⟩
  obtain ⟨⟨fN,hN⟩,rx⟩:=sy i ds[i] H ρ x H' (YD hlt) f y
  replace ok:=iQ.fut fN ok
  replace ab:Ab X.K X.mg σ H' τ ρ G:=ab.fut fN (hN _ ab.hp)
  replace f:=f.trans fN
  rw [ZV hlt] at ok
  unfold cz at ok
  refine mY hO (W:=λH3=>∃ m',m'<ds.length - i∧i+1≤ds.length∧m'=ds.length - (i+1)∧∃ ρ G,Ab X.K X.mg σ H3 τ ρ G∧bS X.K H0 H3 ρ0 ρ∧ρ[G0.length]?=some D∧iQ X.K X.mg EE H3 σ τ ρ (cz gO ks tt te G0.length (ds.drop (i+1)) τ G) Q)
    ab rx hn ?_
  cases e:dD gO ks tt te G0.length ds[i] τ G with
  | stuck=>rw [e] at ok;exact ok
  | bC c G'=>rw [e] at ok;exact ok
  | ok _ G'=>
   rw [e] at ok
   exact λH3 ρ3 f3 nT=>⟨ds.length - (i+1),by nofun,hlt,rfl,ρ3,G',nT,f.trans f3,f3.get hn,ok.fut f3⟩
 ·have e:i=ds.length:=by nofun
  subst e
  refine .inl ⟨stop _ H ρ (YE _) f,?_⟩
  rw [aaf (YE _)] at ok
  exact ok _ H ρ .refl ab (by unfold Rep;exact ⟨D,rfl,hn⟩)
theorem DL (hO:g9 X.K X.mg ow gO) {Q:VK} {H0:Hp} {σ:L2.St} {ρ0:List Addr} {G0:DH} {τ:DS} {k fuel:Nat} {p:Addr} (hk:ρ0[k]?=some p)
  (ab:Ab X.K X.mg σ H0 τ ρ0 G0) (ok:iQ X.K X.mg EE H0 σ τ ρ0 (nW gO ks tt te G0.length k fuel 0 τ (G0++[.lst []])) Q) :
  ∀ D,H0 D=none→∃ W:Nat→Nat→Hp→Prop,(∃ m,W 0 m (upd H0 D (.lst [])))∧∀ i m H,W i m H →
   ((Ga X.K p).stop i H∧Q (.ref D) H)∨((Ga X.K p).go i H∧∀ x H',(Ga X.K p).sy i H x H'→∃ vs,ow x H' vs∧liftT X.K X.mg (lO EE σ) tt (vs.map some++mask ks σ) H' λb H2=>if b=true then aW X.K X.mg (lO EE σ) te (vs.map some++mask ks σ) H2 λv H3=>∃ ys,H3 D=some (.lst ys)∧ys.length<Yx∧∃ m',m'<m∧W (i+1) m' (upd H3 D (.lst (ys++[v]))) else ∃ m',m'<m∧W (i+1) m' H2):=by
 intro D hD
 have f0:bS X.K H0 (upd H0 D (.lst [])) ρ0 (ρ0++[D]):=(cR hD ρ0).trans (cE ρ0 D)
 have HA:Ab X.K X.mg σ (upd H0 D (.lst [])) τ (ρ0++[D]) (G0++[.lst []]):=ab.fut f0 (ab.hp.more hD .nil)
 have hn0:(ρ0++[D])[G0.length]?=some D:=by rw [← ab.hp.hl,aB]
 refine ⟨λi m H=>∃ ρ G,Ab X.K X.mg σ H τ ρ G∧bS X.K H0 H ρ0 ρ∧ρ[G0.length]?=some D∧iQ X.K X.mg EE H σ τ ρ (nW gO ks tt te G0.length k m i τ G) Q,
  ⟨fuel,ρ0++[D],_,HA,f0,hn0,ok.fut f0⟩,?_⟩
 rintro i m H ⟨ρ,G,ab,f,hn,ok⟩
 cases m with
 | zero=>exact ok.elim
 | succ m=>
  unfold nW at ok
  cases q:G[k]? with
  | none=>rw [q] at ok;exact ok.elim
  | some o=>
   cases o with
   | lst ds=>
    rw [q] at ok
    dsimp only at ok
    obtain ⟨p',xs,e1,e2,rs⟩:=ab.hp.lst q
    rw [f.get hk] at e1;cases e1
    cases qd:ds[i]? with
    | none=>
     rw [qd] at ok
     have hl:xs.length≤i:=by rw [← rs.length];exact Zv.mp qd
     exact .inl ⟨⟨xs,.of e2,hl⟩,ok _ H ρ .refl ab (by unfold Rep;exact ⟨D,rfl,hn⟩)⟩
    | some d=>
     rw [qd] at ok
     dsimp only at ok
     obtain ⟨x0,ex,rx⟩:=rs.get qd
     refine .inr ⟨⟨xs,x0,.of e2,ex⟩,λx H' y=>?_⟩
     obtain ⟨rfl,y⟩:=y
     have e3:=y xs (.of e2)
     rw [ex] at e3;cases e3
     refine mY hO (W:=λH3=>∃ m',m'<m+1∧∃ ρ G,Ab X.K X.mg σ H3 τ ρ G∧bS X.K H0 H3 ρ0 ρ∧ρ[G0.length]?=some D∧iQ X.K X.mg EE H3 σ τ ρ (nW gO ks tt te G0.length k m' (i+1) τ G) Q)
       ab rx hn ?_
     cases e:dD gO ks tt te G0.length d τ G with
     | stuck=>rw [e] at ok;exact ok
     | bC c G'=>rw [e] at ok;exact ok
     | ok _ G'=>
      rw [e] at ok
      exact λH3 ρ3 f3 nT=>⟨m,aai _,ρ3,G',nT,f.trans f3,f3.get hn,ok.fut f3⟩
   | _=>first | (rw [q] at ok;exact ok.elim) | (rw [q] at aK;exact aK.elim) | (rw [q3] at hW;exact hW.elim) | (rw [q] at e;cases e;done) | (rw [g] at ok;exact ok.elim) | (rw [g] at q;cases q;done) | (rw [g] at h;cases h;done) | exact ok.elim
variable {scope:Scope} {elt iter a b:Expr} {ifs:List Expr} {px pos:Pos} {m:DS→M D}
theorem sQ (hO:g9 X.K X.mg ow gO) {σ:L2.St} {H:Hp} {Q:VK} (h:aW X.K X.mg EE (cj gO ks m tt te) σ H Q) :
  sP (λσ H R=>aW X.K X.mg EE m σ H λx H1=>(∃ p,x=.ref p∧(∃ xs,lN X.K H1 p xs)∧R (Ga X.K p) H1)∨(∃ p,x=.ref p∧(∃ xs,mQ X.K H1 p xs)∧R (QN X.K p) H1)∨∃ z,x=.str z∧R (Hr z) H1) ks ow (liftT X.K X.mg (lO EE σ) tt) (aW X.K X.mg (lO EE σ) te) σ H Q:=by
 obtain ⟨τ,ρ,G,ab,ok⟩:=lg (k:=λτ d G=>match d with
  | .obj k=>match G[k]? with
   | some (.lst xs)=>nW gO ks tt te G.length k (xs.length+1) 0 τ (G++[.lst []])
   | _=>.stuck
  | .tup xs=>cz gO ks tt te G.length xs τ (G++[.lst []])
  | .con xs=>cz gO ks tt te G.length xs τ (G++[.lst []])
  | .str z=>cz gO ks tt te G.length (z.cps.toList.map λc=>.str ⟨#[c]⟩) τ (G++[.lst []])
  | _=>.stuck) h
 refine ⟨τ,ρ,G,ab,?_⟩
 cases e:m τ G with
 | stuck=>rw [e] at ok;exact ok
 | bC c G'=>rw [e] at ok;exact ok
 | ok d G'=>
  rw [e] at ok
  intro v H1 ρ1 f1 fM r1
  obtain ⟨τ2,ρ2,G2,d2,bM,r2,aK⟩:=ok v H1 ρ1 f1 fM r1
  cases d2<;>try exact aK.elim
  case obj n=>
   dsimp only at aK
   unfold Rep at r2
   obtain ⟨p,rfl,e1⟩:=r2
   cases q:G2[n]? with
   | none=>rw [q] at aK;exact aK.elim
   | some o=>
    cases o with
    | lst xs=>
     rw [q] at aK
     obtain ⟨p',vs,e2,h2,rs⟩:=bM.hp.lst q
     rw [e1] at e2;cases e2
     exact .inl ⟨p,rfl,⟨vs,.of h2⟩,DL hO e1 bM aK⟩
    | _=>first | (rw [q] at ok;exact ok.elim) | (rw [q] at aK;exact aK.elim) | (rw [q3] at hW;exact hW.elim) | (rw [q] at e;cases e;done) | (rw [g] at ok;exact ok.elim) | (rw [g] at q;cases q;done) | (rw [g] at h;cases h;done) | exact ok.elim
  case tup xs=>
   unfold Rep at r2
   obtain ⟨p,vs,rfl,sq,rs⟩:=r2
   refine .inr (.inl ⟨p,rfl,⟨vs,sq⟩,jt hO xs (λi H' ρ' hi f=>?_) (λi H' ρ' hi f=>?_) (λi d' H' ρ' x OV hd f y=>?_) bM aK⟩)
   ·rw [rs.length] at hi
    exact ⟨vs,vs[i],f.tup _ _ sq,YD hi⟩
   ·exact ⟨vs,f.tup _ _ sq,by rw [← rs.length];exact hi⟩
   ·obtain ⟨rfl,y⟩:=y
    obtain ⟨w',ew,rw'⟩:=rs.get hd
    have:=y vs (f.tup _ _ sq)
    rw [ew] at this;cases this
    exact ⟨.refl,rw'.mono f⟩
  case con xs=>
   unfold Rep at r2
   obtain ⟨p,vs,rfl,sq,rs⟩:=r2
   refine .inl ⟨p,rfl,⟨vs,sq.seq⟩,jt hO xs (λi H' ρ' hi f=>?_) (λi H' ρ' hi f=>?_) (λi d' H' ρ' x OV hd f y=>?_) bM aK⟩
   ·rw [rs.length] at hi
    exact ⟨vs,vs[i],(f.con _ _ sq).seq,YD hi⟩
   ·exact ⟨vs,(f.con _ _ sq).seq,by rw [← rs.length];exact hi⟩
   ·obtain ⟨rfl,y⟩:=y
    obtain ⟨w',ew,rw'⟩:=rs.get hd
    have:=y vs (f.con _ _ sq).seq
    rw [ew] at this;cases this
    exact ⟨.refl,rw'.mono f⟩
  case str z=>
   unfold Rep at r2;subst r2
   refine .inr (.inr ⟨z,rfl,jt hO (z.cps.toList.map λc=>.str ⟨#[c]⟩) (λi H' ρ' hi f=>?_) (λi H' ρ' hi f=>?_) (λi d' H' ρ' x OV hd f y=>?_) bM aK⟩)
   ·simpa [Hr] using hi
   ·simpa [Hr] using hi
   ·obtain ⟨rfl,c,hc,rfl⟩:=y
    rw [YK] at hd
    have:z.cps.toList[i]?=some c:=by simpa using hc
    rw [this] at hd
    cases hd
    exact ⟨.refl,by unfold Rep;rfl⟩
noncomputable def iV (X:Cx) (scope:Scope) (xs:List Str) (ifs:List Expr) (elt:Expr) (tt:DS→M Bool) (te:DS→M D):Prop:=
 ∀ (cl:List (Str×Addr)) (C:Addr) (pins:List (Addr×Obj)) (s0:YB) (H0:Hp) (fp:List Addr) (E:V3→YB→Prop) (EE:bW),fE (lY X scope cl xs C pins s0 H0 fp E) EE→CT (lY X scope cl xs C pins s0 H0 fp E) ifs (liftT X.K X.mg EE tt)∧QE (lY X scope cl xs C pins s0 H0 fp E) EE elt te
noncomputable def bV:DS→M Bool:=λ_=>M.ret true
theorem Bs (h:∀ (cl:List (Str×Addr)) (C:Addr) (pins:List (Addr×Obj)) (s0:YB) (H0:Hp) (fp:List Addr) (E:V3→YB→Prop) (EE:bW),fE (lY X scope cl xs C pins s0 H0 fp E) EE→QE (lY X scope cl xs C pins s0 H0 fp E) EE elt te):iV X scope xs [] elt bV te:=
 λcl C pins s0 H0 fp E EE hx=>⟨λgw s σ H Q I zz=>by obtain ⟨τ,ρ,G,ab,ok⟩:=zz;exact Ml gw s σ H Q I (ok H ρ .refl ab),h cl C pins s0 H0 fp E EE hx⟩
theorem Bt {c:Expr} (h:∀ (cl:List (Str×Addr)) (C:Addr) (pins:List (Addr×Obj)) (s0:YB) (H0:Hp) (fp:List Addr) (E:V3→YB→Prop) (EE:bW),fE (lY X scope cl xs C pins s0 H0 fp E) EE→QT (lY X scope cl xs C pins s0 H0 fp E) EE c tt∧QE (lY X scope cl xs C pins s0 H0 fp E) EE elt te):iV X scope xs [c] elt tt te:=
 λcl C pins s0 H0 fp E EE hx=>⟨Mm (h cl C pins s0 H0 fp E EE hx).1,(h cl C pins s0 H0 fp E EE hx).2⟩
noncomputable def j3 (X:Cx):Prop:=∃ gh gr L,X.stack=gh::gr∧X.env.frame=gh.frame∧gh.frame=some L
theorem HB (hx:fE X EE) (hst:j3 X) (S:bf X.env.scope X.N scope xs ks) (how:Own X scope xs ks tg ow) (hO:g9 X.K X.mg ow gO) (hc:X.calm=true) (ha:QE X EE iter m) (hb:iV X scope xs ifs elt tt te) (hs:∀ x,foldedSetIterable iter X.env x=pure x:=by intro _;rfl) :
  QE X EE (.ListComp elt [⟨tg,iter,ifs,0⟩] scope pos) (cj gO ks m tt te):=PE.mono (oS (tt:=λσ=>liftT X.K X.mg (lO EE σ) tt) (te:=λσ=>aW X.K X.mg (lO EE σ) te) hx hst S how hc (PI.any ha) (λσ cl C pins s0 H0 fp E=>hb cl C pins s0 H0 fp E _) hs) λ_ _ _ h=>sQ hO h
theorem HC {py spos:Pos} (hx:fE X EE) (hst:j3 X) (S:bf X.env.scope X.N scope xs ks) (how:Own X scope xs ks tg ow) (hO:g9 X.K X.mg ow gO) (hc:X.calm=true) (hN:X.N.Nodup) (ha:QE X EE iter m) (hb:iV X scope xs ifs elt tt te) (hy:X.N[i]?=some y:=by rfl) (hl:X.env.scope.names.lookup y=some .local:=by rfl)
  (hsw:swapsWith (.ListComp elt [⟨tg,iter,ifs,0⟩] scope pos) (some (.Name y py)) spos.line X.env=pure true:=by rfl) (hs:∀ x,foldedSetIterable iter X.env x=pure x:=by intro _;rfl) :
  QS X EE (.Assign [.Name y py] (.ListComp elt [⟨tg,iter,ifs,0⟩] scope pos) spos) (aJ i (cj gO ks m tt te)):=PS.mono (Ad (tt:=λσ=>liftT X.K X.mg (lO EE σ) tt) (te:=λσ=>aW X.K X.mg (lO EE σ) te) hx hst S how hc hN (PI.any ha) hy hl hsw (λσ cl C pins s0 H0 fp E=>hb cl C pins s0 H0 fp E _) hs) λDd σ H h=>by
 obtain ⟨τ,ρ,G,ab,ok⟩:=h
 refine sQ hO (EE:=EE) (Q:=λv H1=>su i v σ H1 Dd.nx) ⟨τ,ρ,G,ab,?_⟩
 dsimp only [aJ,bL] at ok
 cases e:cj gO ks m tt te τ G with
 | stuck=>rw [e] at ok;exact ok
 | bC c G'=>rw [e] at ok;exact λH' ρ' f bu=>ok σ H' ρ' f bu
 | ok d G'=>rw [e] at ok;exact λv H' ρ' f bu r=>ok _ H' ρ' f (bu.set r)
theorem wJ (hO:g9 X.K X.mg ow gO) {Q:VK} {H0:Hp} {σ:L2.St} {ρ0:List Addr} {G0:DH} {τ:DS} (lo:Int) (n:Nat) (ab:Ab X.K X.mg σ H0 τ ρ0 G0)
  (ok:iQ X.K X.mg EE H0 σ τ ρ0 (cz gO ks tt te G0.length ((Y9 n).map λ(k:Nat)=>.int (lo+(k:Int))) τ (G0++[.lst []])) Q) :
  ∀ D,H0 D=none→∃ W:Nat→Nat→Hp→Prop,(∃ m,W 0 m (upd H0 D (.lst [])))∧∀ i m H,W i m H →
   ((sA lo n).stop i H∧Q (.ref D) H)∨((sA lo n).go i H∧∀ x H',(sA lo n).sy i H x H'→∃ vs,ow x H' vs∧liftT X.K X.mg (lO EE σ) tt (vs.map some++mask ks σ) H' λb H2=>if b=true then aW X.K X.mg (lO EE σ) te (vs.map some++mask ks σ) H2 λv H3=>∃ ys,H3 D=some (.lst ys)∧ys.length<Yx∧∃ m',m'<m∧W (i+1) m' (upd H3 D (.lst (ys++[v]))) else ∃ m',m'<m∧W (i+1) m' H2):=
 jt hO (J:=sA lo n) _ (λi H ρ hi f=>by simpa [sA] using hi) (λi H ρ hi f=>by simpa [sA] using hi) (λi d H ρ x H' hd f y=>by
  obtain ⟨rfl,rfl⟩:=y
  rw [YK] at hd
  cases q:(Y9 n)[i]? with
  | none=>rw [q] at hd;cases hd
  | some k=>
   rw [q] at hd
   obtain ⟨hk,e⟩:=Yw.mp q
   rw [ac8] at e
   subst e
   cases hd
   exact ⟨.refl,by unfold Rep;rfl⟩) ab ok
variable {ma:DS→M (List D)}
theorem wK (hO:g9 X.K X.mg ow gO) {σ:L2.St} {H:Hp} {Q:VK} (h:aW X.K X.mg EE (cF eT gO ks ma tt te) σ H Q):sP (JR (iu X.K X.mg EE ma)) ks ow (liftT X.K X.mg (lO EE σ) tt) (aW X.K X.mg (lO EE σ) te) σ H Q:=by
 obtain ⟨τ,ρ,G,ab,ok⟩:=jm (k:=λτ ds G=>match eT ds with | some xs=>cz gO ks tt te G.length xs τ (G++[.lst []]) | none=>.stuck) h
 refine ⟨τ,ρ,G,ab,?_⟩
 cases e:ma τ G with
 | stuck=>rw [e] at ok;exact ok
 | bC c G'=>rw [e] at ok;exact ok
 | ok ds G'=>
  rw [e] at ok
  intro vs H1 ρ1 f1 fM r1
  obtain ⟨τ2,ρ2,G2,d2,bM,r2,aK⟩:=ok vs H1 ρ1 f1 fM r1
  cases q:eT d2 with
  | none=>rw [q] at aK;exact aK.elim
  | some xs=>
   rw [q] at aK
   unfold eT at q
   split at q
   ·rename_i j
    split at q
    ·rename_i hj
     cases q
     obtain ⟨v,rfl,h1⟩:=iw r2
     unfold Rep at h1;subst h1
     exact ⟨j,rfl,hj.1,hj.2,wJ hO 0 j.toNat bM aK⟩
    ·cases q
   ·cases q
theorem wL (hO:g9 X.K X.mg ow gO) {σ:L2.St} {H:Hp} {Q:VK} (h:aW X.K X.mg EE (cF iU gO ks ma tt te) σ H Q):sP (JS (iu X.K X.mg EE ma)) ks ow (liftT X.K X.mg (lO EE σ) tt) (aW X.K X.mg (lO EE σ) te) σ H Q:=by
 obtain ⟨τ,ρ,G,ab,ok⟩:=jm (k:=λτ ds G=>match iU ds with | some xs=>cz gO ks tt te G.length xs τ (G++[.lst []]) | none=>.stuck) h
 refine ⟨τ,ρ,G,ab,?_⟩
 cases e:ma τ G with
 | stuck=>rw [e] at ok;exact ok
 | bC c G'=>rw [e] at ok;exact ok
 | ok ds G'=>
  rw [e] at ok
  intro vs H1 ρ1 f1 fM r1
  obtain ⟨τ2,ρ2,G2,d2,bM,r2,aK⟩:=ok vs H1 ρ1 f1 fM r1
  cases q:iU d2 with
  | none=>rw [q] at aK;exact aK.elim
  | some xs=>
   rw [q] at aK
   unfold iU at q
   split at q
   ·rename_i i j
    split at q
    ·rename_i hj
     cases q
     obtain ⟨v,w,rfl,h1,h2⟩:=Dy r2
     unfold Rep at h1 h2;subst h1 h2
     exact ⟨i,j,rfl,hj,wJ hO i (j - i).toNat bM aK⟩
    ·cases q
   ·cases q
theorem DM {t:TE} (hl:∀ σ H Q,aW X.K X.mg EE me σ H Q→t σ H Q) {Dd:Ends} {σ:L2.St} {H:Hp} (h:gi X.K X.mg EE (aJ i me) Dd σ H):K0 t (su i) Dd σ H:=by
 obtain ⟨τ,ρ,G,ab,ok⟩:=h
 refine hl σ H (λv H1=>su i v σ H1 Dd.nx) ⟨τ,ρ,G,ab,?_⟩
 dsimp only [aJ,bL] at ok
 cases e:me τ G with
 | stuck=>rw [e] at ok;exact ok
 | bC c G'=>rw [e] at ok;exact λH' ρ' f bu=>ok σ H' ρ' f bu
 | ok d G'=>rw [e] at ok;exact λv H' ρ' f bu r=>ok _ H' ρ' f (bu.set r)
theorem Bu {p pc:Pos} (hx:fE X EE) (hst:j3 X) (S:bf X.env.scope X.N scope xs ks) (how:Own X scope xs ks tg ow) (hO:g9 X.K X.mg ow gO) (hc:X.calm=true) (hm:X.mg "range"=none) (ha:QA X EE [a] ma) (hb:iV X scope xs ifs elt tt te) (oR:Gl X "range":=by rfl) (Mr:YZ [a] X.env=[(false,eval a X.env)]:=by rfl)
  (hs:∀ x,foldedSetIterable (.Call (.Name "range" p) [a] [] pc) X.env x=pure x:=by intro _;rfl) :
  QE X EE (.ListComp elt [⟨tg,.Call (.Name "range" p) [a] [] pc,ifs,0⟩] scope pos) (cF eT gO ks ma tt te):=PE.mono (oS (tt:=λσ=>liftT X.K X.mg (lO EE σ) tt) (te:=λσ=>aW X.K X.mg (lO EE σ) te) hx hst S how hc (sC oR hm ha Mr) (λσ cl C pins s0 H0 fp E=>hb cl C pins s0 H0 fp E _) hs) λ_ _ _ h=>wK hO h
theorem Bv {p pc:Pos} (hx:fE X EE) (hst:j3 X) (S:bf X.env.scope X.N scope xs ks) (how:Own X scope xs ks tg ow) (hO:g9 X.K X.mg ow gO) (hc:X.calm=true) (hm:X.mg "range"=none) (ha:QA X EE [a,b] ma) (hb:iV X scope xs ifs elt tt te) (oR:Gl X "range":=by rfl) (Mr:YZ [a,b] X.env=[(false,eval a X.env),(false,eval b X.env)]:=by rfl) (hs2:YZ [b] X.env=[(false,eval b X.env)]:=by rfl)
  (hs:∀ x,foldedSetIterable (.Call (.Name "range" p) [a,b] [] pc) X.env x=pure x:=by intro _;rfl) :
  QE X EE (.ListComp elt [⟨tg,.Call (.Name "range" p) [a,b] [] pc,ifs,0⟩] scope pos) (cF iU gO ks ma tt te):=PE.mono (oS (tt:=λσ=>liftT X.K X.mg (lO EE σ) tt) (te:=λσ=>aW X.K X.mg (lO EE σ) te) hx hst S how hc (sD oR hm ha Mr hs2) (λσ cl C pins s0 H0 fp E=>hb cl C pins s0 H0 fp E _) hs) λ_ _ _ h=>wL hO h
end
theorem HE {k:Nat} (r:di k A):A.units+600<cLine:=by have:=r.un;nofun
theorem Pe {EE:bW} {f:Addr} {pos:Pos} (hm:X.mg x=some (.ref f)) (hg:Gl X x:=by rfl) (hd:(x==("__debug__":Str))=false:=by decide):QE X EE (.Name x pos) (eC (.fn x)):=
 GY (zU hg hm (v:=.ref f) rfl hd) λ_ _=>by unfold Rep;exact ⟨f,rfl,hm⟩
noncomputable def br:Expr→Bool
 | .Starred ..=>false
 | _=>true
noncomputable def plainT:Expr→Bool
 | .UnaryOp .Not _ _=>false
 | .BoolOp ..=>false
 | .IfExp ..=>false
 | .Compare ..=>false
 | _=>true
noncomputable def fY:Expr→Bool
 | .Set ..=>false
 | _=>true
noncomputable def mZ:Expr→Bool
 | .ListComp ..=>false
 | .SetComp ..=>false
 | .DictComp ..=>false
 | _=>true
noncomputable def pX:Expr→Bool
 | .Call (.Name _ _) [] [] _=>false
 | _=>true
noncomputable def Ae:Expr→Bool
 | .Slice ..=>false
 | _=>true
noncomputable def az:List Expr→Bool
 | []=>true
 | e::es=>br e&&az es
theorem aP (h:br e=true) (es:List Expr) (env:Env):YZ (e::es) env=(false,eval e env)::YZ es env:=by
 cases e<;>first | rfl | cases h
theorem Bw (h:plainT e=true) (env:Env) (whole:Sem V3):isTrue e env whole=(do let v ← whole;standAt e.pos;holding [v] (truthy v)):=by
 cases e<;>first | rfl | cases h | (rename_i op _ _;cases op<;>first | rfl | cases h)
theorem gb (h:fY e=true) (env:Env) (x:V3):foldedSetIterable e env x=pure x:=by
 cases e<;>first | rfl | cases h
theorem oU (h:mZ e=true) (t:Option Expr) (l:Nat) (env:Env):swapsWith e t l env=pure false:=by
 cases e<;>first | rfl | cases h
theorem gC (h:pX e=true) (n:Str) (env:Env):attributeBase e n env (eval e env)=eval e env:=by
 unfold attributeBase
 split
 ·cases h
 ·rfl
theorem Pf (h:Ae e=true):oM e:=λo i=>by
 cases e<;>first | rfl | cases h
theorem HF (h:fY e=true) (op:CmpOp):behindInMarks op e=false:=by
 cases e<;>first | rfl | cases h
theorem bw {env:Env} {pos:Pos}:∀ {es:List Expr},az es=true→(backTo pos (YZ es env)).any (·.1)=false
 | [],_=>rfl
 | e::es,h=>by
  have h':br e=true∧az es=true:=by simpa [az] using h
  rw [aP h'.1]
  have ih:=bw (env:=env) (pos:=pos) h'.2
  show (false||(backTo pos (YZ es env)).any (·.1))=false
  rw [ih];rfl
theorem sR {env:Env} {pos:Pos}:∀ {es:List Expr},az es=true→(backTo pos (YZ es env)).all (λx=>!x.1)=true
 | [],_=>rfl
 | e::es,h=>by
  have h':br e=true∧az es=true:=by simpa [az] using h
  rw [aP h'.1]
  have ih:=sR (env:=env) (pos:=pos) h'.2
  show (!false&&(backTo pos (YZ es env)).all (λx=>!x.1))=true
  rw [ih];rfl
theorem yR (h:az es=true) (hl:es.length<30):((backTo pos (YZ es env)).all (λx=>!x.1)&&(backToKw pos (keywordEach [] env)).all (λx=>x.1.isSome)
   && decide (es.length+([]:List Keyword).length+(if ([]:List Keyword).isEmpty then 0 else 1)<30))=true:=by
 rw [sR h]
 simp only [Bool.true_and,ZF,decide_eq_true_eq]
 exact ⟨rfl,by simpa using hl⟩
section
variable {X:Cx} {EE:bW} {a b c e o:Expr} {es:List Expr} {ma mb mc me mo:DS→M D} {pos p apos cpos:Pos} {m:DS→M (List D)} {ms mt:MS} {x:Str} {ks:List Bool} {tt:DS→M Bool} {te:DS→M D}
theorem HG {m:DS→M D} (ha:QE X EE e m) (hr:QA X EE es r) (h:br e=true:=by rfl):QA X EE (e::es) (aa m r):=G5 ha hr (aP h _ _)
theorem Ms (i:Nat) (hv:CJ X.env.scope x) (hd:(x==("__debug__":Str))=false∧(x==("__classdict__":Str))=false) (hN:X.N[i]?=some x:=by rfl):QE X EE (.Name x pos) (af i):=LH i hN hv hd.1 hd.2
theorem Ph {f:Addr} (hm:X.mg x=some (.ref f)) (hg:Gl X x) (hd:(x==("__debug__":Str))=false∧(x==("__classdict__":Str))=false):QE X EE (.Name x pos) (eC (.fn x)):=Pe hm hg hd.1
theorem DP (ha:QE X EE a ma) (hb:QE X EE b mb) (h:Ae b=true:=by rfl):QE X EE (.Subscript a b pos) (ao bg ma mb):=Dj ha hb (Pf h)
theorem Mt (ho:iR X (compareOp op) (rD X EE f)) (ha:QE X EE a ma) (hb:QE X EE b mb) (h:fY b=true:=by rfl):QT X EE (.Compare a [op] [b] pos) (g8 (ao f ma mb)):=L4 ho ha hb (HF h _)
theorem Mu (ha:QE X EE a ma) (h:plainT a=true:=by rfl):QT X EE a (jY kR ma):=LU ha (Bw h _)
theorem lZ {id:String} {f:List D→M D} (hc:eX X (.builtin id) (Hu X EE f)) (hm:X.mg x=none) (hg:Gl X x) (hv:bootBuiltins x=some (.builtin id)) (ha:QA X EE (e::es) m) (hn:x≠"__name__":=by decide) (hdb:(x==("__debug__":Str))=false:=by decide) (h:az (e::es)=true:=by rfl) :
  QE X EE (.Call (.Name x p) (e::es) [] pos) (ak f m):=by
 have h':br e=true∧az es=true:=by simpa [az] using h
 exact Dg hc pR hm ha hg hv hn hdb (aP h'.1 _ _) (bw h'.2)
theorem sU {id:String} {f:List D→M D} (hc:eX X (.type id) (Hu X EE f)) (hm:X.mg x=none) (hg:Gl X x) (hv:bootBuiltins x=some (.type id)) (ha:QA X EE (e::es) m) (hn:x≠"__name__":=by decide) (hdb:(x==("__debug__":Str))=false:=by decide) (h:az (e::es)=true:=by rfl) :
  QE X EE (.Call (.Name x p) (e::es) [] pos) (ak f m):=by
 have h':br e=true∧az es=true:=by simpa [az] using h
 exact Bh hc pR hm ha hg hv hn hdb (aP h'.1 _ _) (bw h'.2)
theorem Mv (hm:X.mg "len"=none) (hg:Gl X "len") (ha:QA X EE [e] m) (h:az [e]=true:=by rfl):QE X EE (.Call (.Name "len" p) [e] [] pos) (ak cC m):=lZ Bj hm hg PySem.boot_len ha (by decide) (by decide) h
theorem HJ (hc:X.calm=true) (hm:X.mg "min"=none) (hg:Gl X "min") (ha:QA X EE [e,a] m) (h:az [e,a]=true:=by rfl):QE X EE (.Call (.Name "min" p) [e,a] [] pos) (ak (jr λi j=>if j<i then j else i) m):=lZ (Bk hc) hm hg PyProof.Rows.boot_min ha (by decide) (by decide) h
theorem Mw (c:Ty) {pt:Pos} (hc:c≠.dP) (hm:X.mg "isinstance"=none) (hmt:X.mg x=none) (hg:Gl X "isinstance") (hgt:Gl X x) (ha:QE X EE a ma) (hb:bootBuiltins x=some (.type c.nm)) (hnt:x≠"__name__") (hdt:(x==("__debug__":Str))=false) (h:br a=true:=by rfl) :
  QE X EE (.Call (.Name "isinstance" p) [a,.Name x pt] [] pos) (Hv c ma):=Mg c hc hm hmt ha hb hg hgt hnt hdt (aP h _ _) (aP rfl _ _) (bw (es:=[.Name x pt]) rfl)
theorem HM {CX:oJ} {k:Nat} {f:Addr} (F:kP X.prog X.w X.K X.mg X.base CX k f fd ps (gB X.K X.mg n mf)) (hr:di k X.A) (hm:X.mg x=some (.ref f)) (hk:Zu X.K (.ref f)=true) (hb:Binds X.K fd ps []) (hx:JY CX X EE) (hg:Gl X x)
  (hd:(x==("__debug__":Str))=false∧(x==("__classdict__":Str))=false) (ha:QA X EE (e::es) m) (h:az (e::es)=true:=by rfl):QE X EE (.Call (.Name x p) (e::es) [] pos) (aq n mf m):=by
 have h':br e=true∧az es=true:=by simpa [az] using h
 exact Ht F hr hm hk hb hx ha hg hd.1 (aP h'.1 _ _) (bw h'.2)
theorem Bx (ho:QE X EE o mo) (ha:QA X EE [e] m) (hb:pX o=true:=by rfl) (h:az [e]=true:=by rfl) (hline:(apos.endLine==cpos.line)=true:=by rfl):QE X EE (.Call (.Attribute o "append" apos) [e] [] cpos) (cO "list" aU mo m):=by
 have h':br e=true∧az []=true:=by simpa [az] using h
 exact Bl ho ha (gC hb _ _) (yR h (by simp)) hline (aP h'.1 _ _) (bw (es:=[]) rfl)
theorem Mx (ho:QE X EE o mo) (hb:pX o=true:=by rfl) (hline:(apos.endLine==cpos.line)=true:=by rfl):QE X EE (.Call (.Attribute o "pop" apos) [] [] cpos) (cO "list" uB mo ai):=Mi ho (gC hb _ _) hline
theorem HN (he:QE X EE a ma) (h:mZ a=true:=by rfl):QS X EE (.Expr a pos) (gR ma):=Ho he (oU h _ _ _)
theorem My {pos':Pos} (hN:X.N.Nodup) (hx:Loc X.env.scope x) (he:QE X EE a ma) (hf:X.fn x=true∨X.env.scope.names.lookup x=some .local) (hi:X.N[i]?=some x:=by rfl) (h:mZ a=true:=by rfl):QS X EE (.Assign [.Name x pos'] a pos) (aJ i ma):=Me hN he hi hx (oU h _ _ _) hf
theorem HP (hN:X.N.Nodup) (hx:Loc X.env.scope x) (hf:X.fn x=true∨X.env.scope.names.lookup x=some .local) (hi:X.N[i]?=some x:=by rfl):QG X (.Name x pos) (gN i):=Hq hN hi hx hf
theorem Mz (hp:PassesOwn (model X.prog X.w) X.A X.env X.xe) (hc:X.calm=true) (ha:QE X EE a ma) (hg:QG X tg g) (hb:rY X EE body ms) (h:fY a=true:=by rfl):QS X EE (.For tg a body [] pos) (fD g ma ms):=Mf hp hc ha hg hb (gb h _)
theorem DQ {pc:Pos} (hp:PassesOwn (model X.prog X.w) X.A X.env X.xe) (hc:X.calm=true) (hm:X.mg "range"=none) (oR:Gl X "range") (ha:QA X EE [a] m) (hg:QG X tg g) (hb:rY X EE body ms) (h:br a=true:=by rfl) :
  QS X EE (.For tg (.Call (.Name "range" p) [a] [] pc) body [] pos) (dR eT g m ms):=Dv hp hc hm ha hg hb oR (aP h _ _) (gb rfl _)
theorem DR {pc:Pos} (hp:PassesOwn (model X.prog X.w) X.A X.env X.xe) (hc:X.calm=true) (hm:X.mg "range"=none) (oR:Gl X "range") (ha:QA X EE [a,b] m) (hg:QG X tg g) (hb:rY X EE body ms) (h:br a=true:=by rfl) (h2:br b=true:=by rfl) :
  QS X EE (.For tg (.Call (.Name "range" p) [a,b] [] pc) body [] pos) (dR iU g m ms):=Dw hp hc hm ha hg hb oR (by rw [aP h,aP h2];rfl) (aP h2 _ _) (gb rfl _)
variable {scope:Scope} {elt iter tg:Expr} {xs:List Str} {ow:V→Hp→List V→Prop} {gO:D→Option (List D)} {ifs:List Expr} {px:Pos}
theorem HQ (hx:fE X EE) (hst:j3 X) (S:bf X.env.scope X.N scope xs ks) (how:Own X scope xs ks tg ow) (hO:g9 X.K X.mg ow gO) (hc:X.calm=true) (ha:QE X EE iter ma) (hb:iV X scope xs ifs elt tt te) (h:fY iter=true:=by rfl):QE X EE (.ListComp elt [⟨tg,iter,ifs,0⟩] scope pos) (cj gO ks ma tt te):=HB hx hst S how hO hc ha hb (gb h _)
theorem HR (hx:fE X EE) (hst:j3 X) (S:bf X.env.scope X.N scope xs ks) (how:Own X scope xs ks tg ow) (hO:g9 X.K X.mg ow gO) (hc:X.calm=true) (hN:X.N.Nodup) (hl:X.env.scope.names.lookup y=some .local) (ha:QE X EE iter ma) (hb:iV X scope xs ifs elt tt te) (hsw:swapsWith (.ListComp elt [⟨tg,iter,ifs,0⟩] scope pos) (some (.Name y py)) spos.line X.env=pure true)
  (hy:X.N[i]?=some y:=by rfl) (h:fY iter=true:=by rfl):QS X EE (.Assign [.Name y py] (.ListComp elt [⟨tg,iter,ifs,0⟩] scope pos) spos) (aJ i (cj gO ks ma tt te)):=HC hx hst S how hO hc hN ha hb hy hl hsw (gb h _)
theorem By {pc:Pos} (hx:fE X EE) (hst:j3 X) (S:bf X.env.scope X.N scope xs ks) (how:Own X scope xs ks tg ow) (hO:g9 X.K X.mg ow gO) (hc:X.calm=true) (hm:X.mg "range"=none) (oR:Gl X "range") (ha:QA X EE [a] m) (hb:iV X scope xs ifs elt tt te) (h:br a=true:=by rfl) :
  QE X EE (.ListComp elt [⟨tg,.Call (.Name "range" p) [a] [] pc,ifs,0⟩] scope pos) (cF eT gO ks m tt te):=Bu hx hst S how hO hc hm ha hb oR (aP h _ _) (gb rfl _)
theorem BA {pc:Pos} (hx:fE X EE) (hst:j3 X) (S:bf X.env.scope X.N scope xs ks) (how:Own X scope xs ks tg ow) (hO:g9 X.K X.mg ow gO) (hc:X.calm=true) (hm:X.mg "range"=none) (oR:Gl X "range") (ha:QA X EE [a,b] m) (hb:iV X scope xs ifs elt tt te) (h:br a=true:=by rfl) (h2:br b=true:=by rfl) :
  QE X EE (.ListComp elt [⟨tg,.Call (.Name "range" p) [a,b] [] pc,ifs,0⟩] scope pos) (cF iU gO ks m tt te):=Bv hx hst S how hO hc hm ha hb oR (by rw [aP h,aP h2];rfl) (aP h2 _ _) (gb rfl _)
theorem BB {l:Nat} (hb:(env.blockKind==.function)=true) (hl:env.scope.names.lookup y=some .local) (hp:(py.line==pos.line)=true) (hq:(scope.names.any λx=>x.1==y&&(x.2==.local||x.2==.cell))=false):swapsWith (.ListComp elt gens scope pos) (some (.Name y py)) l env=pure true:=by
 unfold swapsWith
 dsimp only
 show (pure (env.blockKind==.function&&env.kindOf y==some .local&&py.line==pos.line&&!(scope.names.any λx=>x.1==y&&(x.2==.local||x.2==.cell))):Sem Bool)=pure true
 have e:(env.kindOf y==some NameKind.local)=true:=by rw [show env.kindOf y=some NameKind.local from hl];rfl
 rw [hb,e,hp,hq];rfl
theorem MA (S:bf X.env.scope X.N scope xs ks) (h:x∈xs):CJ (lY X scope cl xs C pins s0 H0 fp E).env.scope x:=.inl (pV (cl:=cl) (C:=C) S h)
theorem HS (S:bf X.env.scope X.N scope xs ks) (h:scope.names.lookup y=some .free):CJ (lY X scope cl xs C pins s0 H0 fp E).env.scope y:=.inr (mX (cl:=cl) (C:=C) S h)
theorem HU (h:scope.names.lookup y=some .globalImplicit):Gl (lY X scope cl xs C pins s0 H0 fp E) y:=by
 show (compEnvC scope cl C X.env).kindOf y=some .globalImplicit
 have e:(compEnvC scope cl C X.env).kindOf y=(scope.names.lookup y).map (rZ X.env y):=dX scope.names
 rw [e,h];rfl
end
section
open Builtin Builtin.Str
section
variable {X:Cx} {EE:bW}
noncomputable def fZ:List D→M D
 | [d]=>λG=>match aD G d with
  | some (.lst xs)=>bx xs G
  | some (.tup xs)=>.ok d G
  | _=>.stuck
 | _=>M.stop
theorem BC:eX X (.type "tuple") (Hu X EE fZ):=by
 intro pins s σ0 H xs us Q I r zu
 obtain ⟨σ,τ,ρ,G,ds,ab,Ge,ok⟩:=zu
 match ds,ok with
 | [],ok=>exact ok.elim
 | _::_::_,ok=>exact ok.elim
 | [y],ok=>
  obtain ⟨yv,rfl,ry⟩:=iw Ge
  dsimp only [fZ] at ok
  cases q:aD G y with
  | none=>rw [q] at ok;exact ok.elim
  | some sk=>
   rw [q] at ok
   cases sk with
   | str _=>exact ok.elim
   | tup ys=>
    obtain ⟨p,vs,rfl,sq,rs⟩:=iT ry q
    exact kU pins s σ0 H _ us Q I r ⟨p,vs,rfl,.inr ⟨sq,ok _ H ρ .refl ab ry⟩⟩
   | lst ys=>
    obtain ⟨p,vs,rfl,sq,rs⟩:=cB (pins:=pins) (σ0:=σ0) (s:=s) ab.hp ry q
    exact kU pins s σ0 H _ us Q I r ⟨p,vs,rfl,.inl ⟨sq,λl hl=>(pO ab rs ok).2 l hl⟩⟩
variable {x:Str} {p pos apos cpos:Pos} {e o:Expr} {es:List Expr} {m:DS→M (List D)} {mo:DS→M D}
theorem boot_tuple:bootBuiltins "tuple"=some (.type "tuple"):=by symm
theorem boot_list:bootBuiltins "list"=some (.type "list"):=by symm
theorem DT (hm:X.mg "tuple"=none) (hg:Gl X "tuple") (ha:QA X EE [e] m) (h:az [e]=true:=by rfl):QE X EE (.Call (.Name "tuple" p) [e] [] pos) (ak fZ m):=sU BC hm hg boot_tuple ha (by decide) (by decide) h
noncomputable def ju (i n:Nat) (lP:Str→Option (List D→M D)) (m:DS→M (List D)):DS→M D:=λτ G=>match τ[i]? with
 | some (some (.fn y))=>match lP y with
  | some mf=>aq n mf m τ G
  | none=>.stuck
 | _=>.stuck
theorem DU {CX:oJ} {n:Nat} {lP:Str→Option (List D→M D)} (hN:X.N[i]?=some x) (hv:CJ X.env.scope x) (hd:(x==("__debug__":Str))=false∧(x==("__classdict__":Str))=false)
  (hF:∀ y mf,lP y=some mf→∃ k f fd ps,kP X.prog X.w X.K X.mg X.base CX k f fd ps (gB X.K X.mg n mf)∧di k X.A∧X.mg y=some (.ref f)∧Zu X.K (.ref f)=true∧Binds X.K fd ps []) (hx:JY CX X EE)
  (ha:QA X EE (e::es) m) (h:az (e::es)=true:=by rfl):QE X EE (.Call (.Name x p) (e::es) [] pos) (ju i n lP m):=by
 have h':br e=true∧az es=true:=by simpa [az] using h
 intro pins s σ H Q I hq
 obtain ⟨τ,ρ,G,ab,ok⟩:=hq
 unfold ju at ok
 cases q:τ[i]? with
 | none=>rw [q] at ok;exact ok.elim
 | some od=>
  cases od with
  | none=>rw [q] at ok;exact ok.elim
  | some d=>
   rw [q] at ok
   cases d<;>try exact ok.elim
   rename_i y
   dsimp only at ok
   cases qt:lP y with
   | none=>rw [qt] at ok;exact ok.elim
   | some mf=>
    rw [qt] at ok
    obtain ⟨k,f,fd,ps,F,hr,hm,hk,hb⟩:=hF y mf qt
    obtain ⟨v,ev,rv⟩:=ab.st.2 i (.fn y) q
    unfold Rep at rv
    obtain ⟨a,rfl,ha'⟩:=rv
    rw [hm] at ha'
    cases ha'
    obtain ⟨τ1,ρ1,G1,fM,CC⟩:=jm (k:=λ_ ds=>if ds.length=n then mf ds else M.stop) ⟨τ,ρ,G,ab,ok⟩
    refine Ze (Zn (yu hN hv hd.1 hd.2 pins s σ H (λv' H'=>v'=.ref f∧H'=H) I ⟨_,ev,rfl,rfl⟩) (λu s0 hu=>?_) λ_ _ z=>z)
    obtain ⟨v',H',I0,r0,rfl,rfl⟩:=hu
    cases r0
    refine ab1 (h₀:=X.base) I0.ok.mod.Gj hk (dh (ha pos pins s0 σ H' _ I0 ⟨τ1,ρ1,G1,fM,CC⟩) λus s1 ⟨vs,H1,I1,r,q⟩=>⟨I1.yr,?_⟩) (aP h'.1 _ _) (bw h'.2)
    obtain ⟨τ2,ρ2,G2,ds,bM,rs,aK⟩:=q
    by_cases hn:ds.length=n
    ·rw [if_pos hn] at aK
     exact uA F hr hb hx I1 r bM rs hn aK
    ·rw [if_neg hn] at aK
     exact aK.elim
end
end
section
open Builtin Builtin.Str
section
variable {X:Cx} {EE:bW}
noncomputable def VE (f:D→M D) (m:DS→M D):DS→M D:=λτ=>(m τ).bind f
variable {o:Expr} {mo:DS→M D} {y z:Str} {j1 j2:Nat} {p1 p2 apos cpos:Pos}
end
end
noncomputable def MB (CX:oJ) (X:Cx) (n:Nat):List (Str×(List D→M D))→Prop
 | []=>True
 | q::r=>(∃ k f fd ps,kP X.prog X.w X.K X.mg X.base CX k f fd ps (gB X.K X.mg n q.2)∧di k X.A∧X.mg q.1=some (.ref f)∧Zu X.K (.ref f)=true∧Binds X.K fd ps [])∧MB CX X n r
theorem Pj {CX:oJ} {X:Cx} {n:Nat}:∀ {l:List (Str×(List D→M D))},MB CX X n l→∀ (y:Str) (mf:List D→M D),l.lookup y=some mf→∃ k f fd ps,kP X.prog X.w X.K X.mg X.base CX k f fd ps (gB X.K X.mg n mf)∧di k X.A∧X.mg y=some (.ref f)∧Zu X.K (.ref f)=true∧Binds X.K fd ps []
 | [],_,_,_,h=>nomatch h
 | q::r,⟨h1,hr⟩,y,mf,h=>by
  obtain ⟨qn,qm⟩:=q
  rw [Zj] at h
  cases e:y==qn with
  | true=>
   rw [e] at h
   cases h
   have:=eq_of_beq e
   subst this
   exact h1
  | false=>rw [e] at h;exact Pj hr y mf h
theorem Sm {m:DS→M D} (ha:QE X EE e m) (h:br e=true) (hr:QA X EE es r):QA X EE (e::es) (aa m r):=HG ha hr h
theorem yS:typeLookup (.type "list_reverseiterator") (aaX "__len__")=(pure none:Sem (Option V3)):=by
 rw [typeLookup_type,builtinLookup_eq_fast];rfl
theorem DV:typeLookup (.type "list_reverseiterator") (aaX "__length_hint__")=(pure (some (.builtin "list_reverseiterator.__length_hint__")):Sem (Option V3)):=by
 rw [typeLookup_type,builtinLookup_eq_fast];rfl
theorem DW:isSubtype (.type "list_reverseiterator") (.type "list_reverseiterator")=(pure true:Sem Bool):=by
 rw [isSubtype_type];rfl
theorem DX {M:Model} {i:Int} {Q:Bool→YB→Prop} (hr:s.heap.IsRevIter it l i) (h:Q false s):Y0 M A (abR (.ref it)) Q E s:=by
 have ty:s.TypeIs (.ref it) "list_reverseiterator":=by
  obtain ⟨o,e,c,_⟩:=hr
  exact ⟨o,e,c⟩
 unfold abR
 refine Yu (acF ty yS ?_)
 refine Yu (acF ty DV ?_)
 have e1:splitId "list_reverseiterator.__length_hint__"=some ("list_reverseiterator","__length_hint__"):=by symm
 dsimp only
 rw [e1]
 dsimp only
 refine Yu (adF ty DW ?_)
 rw [if_neg (by decide)]
 split
 ·rw [if_neg (by decide)]
  exact YN h
 ·rename_i hs
  exact absurd (by symm) hs
theorem pY {prog:Zg} {w:Zs} {R:Result→YB→Prop} (hh:A.handled=none) (hit:s.heap.IsRevIter it l ((items.size:Int) - 1)) (hl:s.heap.IsList l items) (hne:l≠it) (hz:items.size≤Yx) (S:Addr) (res:V3) (c₀:Nat)
  (hS:s.heap.get? S=some {cls:=.type "list",data:=.seq #[] c₀}) (So:S≠l)
  (hR:∀ (s':YB) (acc':Array V3) (c':Nat),Moved [S,it] (λa b=>b=a) s s'→s'.heap.get? S=some {cls:=.type "list",data:=.seq acc' c'}→ItemsOf (λi v=>items[items.size - 1 - i]?=some v) acc' items.size→R (.ok (.ret res)) s') :
  Y0 (model prog w) A.in1 (aaR (.ref S) (.ref it) res) (λfin s'=>match fin with
   | .done f=>R (.ok f) s'
   | .again c'=>c'.quiet=true∧codeAny (model prog w) A c' R s') (λe s'=>R (.error e) s') s:=by
 have Pk:S≠it:=by
  rintro rfl
  obtain ⟨o,e,c,d⟩:=hit
  rw [hS] at e;cases e
  exact absurd (Value.type.inj c) (by decide)
 have ty:s.TypeIs (.ref it) "list_reverseiterator":=by
  obtain ⟨o,e,c,_⟩:=hit
  exact ⟨o,e,c⟩
 have Wk:=Walks.toS (Walks.listRev (prog:=prog) (w:=w) (A:=A.in1) (show A.in1.handled=none from hh) it l hne items)
 have key:=codeAny_extend_loopS Wk hz S (by simp [Pk,So]) res items.size 0 (R:=R)
 unfold aaR
 refine Yu (adn ty ?_)
 have h1:ach (.ref S) (.ref it)=false:=by simp [ach,Pk]
 rw [if_neg (by rw [h1];decide)]
 refine Yu (abH hit ?_)
 refine Yu (ace (DX hit ?_))
 dsimp only
 split
 ·rename_i hs
  exact absurd hs (by symm)
 ·exact YN ⟨plainId_quiet F.plain_extend_loop _,key s #[] c₀ rfl (Zq _) ⟨Zq _,by simpa using hit,hl⟩ hS (ItemsOf.nil _) hR⟩
theorem r6 {prog:Zg} {w:Zs} {E:V3→YB→Prop} {Q:V3→YB→Prop} (hh:A.handled=none) (hit:s.heap.IsRevIter it l ((items.size:Int) - 1)) (hl:s.heap.IsList l items) (hne:l≠it) (hz:items.size≤Yx)
  (hQ:∀ (h':Heap) (tk:Nat) (acc':Array V3) (c':Nat),(∀ b o,b≠it→s.heap.get? b=some o→h'.get? b=some o)→h'.get? s.heap.objs.size=some {cls:=.type "list",data:=.seq acc' c'}→ItemsOf (λi v=>items[items.size - 1 - i]?=some v) acc' items.size→Q (.ref s.heap.objs.size) {s with heap:=h',toks:=tk}) :
  Y0 (model prog w) A (call (.type "list") [.ref it]) Q E s:=by
 have Sq:l<s.heap.objs.size:=by obtain ⟨o,e,_⟩:=hl;exact YI e
 have VF:it<s.heap.objs.size:=by obtain ⟨o,e,_⟩:=hit;exact YI e
 refine callType_codes (Q₁:=λv s1=>v=.ref s.heap.objs.size∧s1={s with heap:=s.heap.push {cls:=.type "list",data:=.seq #[]}}) F.called_list (F.typeCall_list_1 (.ref it)) F.entry_list_init (code_list_new (.ref it) ⟨rfl,rfl⟩) λobj s₁ h₁=>?_
 obtain ⟨rfl,rfl⟩:=h₁
 have hS:=YM (o:={cls:=.type "list",data:=.seq #[]}) s.heap rfl
 refine ⟨⟨_,hS,rfl⟩,F.args_list_init_2 (.ref s.heap.objs.size) (.ref it),?_⟩
 have kp:∀ b o,s.heap.get? b=some o→(s.heap.push {cls:=.type "list",data:=.seq #[]}).get? b=some o:=λb o e=>YA _ e
 unfold ad2.«list.__init__»
 refine Yu ?_
 unfold Builtin.List.listItems
 refine Yu (acV hS rfl (YN ?_))
 refine Yu ?_
 unfold Builtin.List.listUpdate
 refine adS hS rfl ?_ (by simp [sizeLine_eq]) (by simp [sizeLine_eq])
 have VG:=ZX (ab0 λx=>#[]) hS rfl
 have vR:∀ b o,b≠s.heap.objs.size→(s.heap.push {cls:=.type "list",data:=.seq #[]}).get? b=some o→((s.heap.push {cls:=.type "list",data:=.seq #[]}).update s.heap.objs.size (ab0 λx=>#[])).get? b=some o:=λb o hb e=>(ZR _ _ (Z2 hb)).trans e
 refine Yu (wpAny_letGo ?_)
 have up:∀ b o,s.heap.get? b=some o→((s.heap.push {cls:=.type "list",data:=.seq #[]}).update s.heap.objs.size (ab0 λx=>#[])).get? b=some o:=λb o e=>vR b o (YU (YI e)) (kp b o e)
 refine pY (l:=l) (items:=items) (show A.in1.handled=none from hh) ?_ ?_ hne hz s.heap.objs.size .none (if ((#[]:Array V3).size==(#[]:Array V3).size)=true then 0 else 0+1) ?_ (abQ Sq) ?_
 ·obtain ⟨o,e,r⟩:=hit
  exact ⟨o,up _ _ e,r⟩
 ·obtain ⟨o,e,r⟩:=hl
  exact ⟨o,up _ _ e,r⟩
 ·exact VG
 ·intro s' acc' c' hm hS' hacc
  rw [Moved.eq_with hm]
  refine ⟨rfl,hQ s'.heap s'.toks acc' c' (λb o hb e=>?_) hS' hacc⟩
  refine hm.heap b o ?_ (up b o e)
  simp [hb,YU (YI e)]
section
variable {X:Cx} {EE:bW} {a b c e o:Expr} {es:List Expr} {ma mb mo:DS→M D} {m:DS→M (List D)} {t:DS→M Bool} {ms:MS} {pos p p2 pos2 apos cpos:Pos}
noncomputable def fuel:Nat:=100000
noncomputable def fF (t:DS→M Bool) (ms:MS):Nat→MS
 | 0=>λ_ _=>.stuck
 | n+1=>λτ=>bL (t τ) (λc G=>if c=true then (match ms τ G with
   | .nx τ' G'=>fF t ms n τ' G'
   | .ct τ' G'=>fF t ms n τ' G'
   | .bk τ' G'=>.nx τ' G'
   | r=>r) else .nx τ G) λc G=>.xn c τ G
theorem GX.imp {r:Out Bool} {Q:Bool→Hp→Prop} (h:GX X.K X.mg EE H σ τ ρ r Q) (i:∀ b H',Q b H'→Q' b H'):GX X.K X.mg EE H σ τ ρ r Q':=by
 cases r with
 | stuck=>exact h
 | ok b G=>exact λH' ρ' f ab=>i b H' (h H' ρ' f ab)
 | bC c G=>exact h
theorem DY (hp:PassesOwn (model X.prog X.w) X.A X.env X.xe) (hc:QT X EE c t) (hb:rY X EE body ms):QS X EE (.While c body [] pos) (fF t ms n):=PS.mono (CP hp hc hb) λDd σ H h=>by
 obtain ⟨τ0,ρ0,G0,HA,VH⟩:=h
 refine ⟨λm σ H=>∃ τ ρ G,Ab X.K X.mg σ H τ ρ G∧rX X.K X.mg EE H ρ Dd (fF t ms m τ G),⟨n,τ0,ρ0,G0,HA,VH⟩,?_⟩
 rintro m σ H ⟨τ,ρ,G,ab,ok⟩
 cases m with
 | zero=>exact ok.elim
 | succ m=>
  obtain ⟨τ1,ρ1,G1,fM,CC⟩:=De (k:=λτ c G=>if c=true then (match ms τ G with
   | .nx τ' G'=>fF t ms m τ' G'
   | .ct τ' G'=>fF t ms m τ' G'
   | .bk τ' G'=>.nx τ' G'
   | r=>r) else .nx τ G) (show gi X.K X.mg EE (λτ=>bL (t τ) (λc G=>if c=true then (match ms τ G with
   | .nx τ' G'=>fF t ms m τ' G'
   | .ct τ' G'=>fF t ms m τ' G'
   | .bk τ' G'=>.nx τ' G'
   | r=>r) else .nx τ G) λc G=>.xn c τ G) Dd σ H from ⟨τ,ρ,G,ab,ok⟩)
  refine ⟨τ1,ρ1,G1,fM,CC.imp λb H1 hq=>?_⟩
  obtain ⟨τ2,ρ2,G2,bM,aK⟩:=hq
  cases b with
  | false=>
   rw [if_neg Zm] at aK ⊢
   exact aK σ H1 ρ2 .refl bM
  | true=>
   rw [if_pos rfl] at aK ⊢
   refine ⟨λσ' H'=>∃ τ ρ G,Ab X.K X.mg σ' H' τ ρ G∧rX X.K X.mg EE H' ρ Dd (fF t ms m τ G),λσ' H' w=>⟨m,aai _,w⟩,τ2,ρ2,G2,bM,?_⟩
   cases q:ms τ2 G2 with
   | stuck=>rw [q] at aK;exact aK
   | nx τ' G'=>rw [q] at aK;exact λσ' H' ρ' f bu=>⟨τ',ρ',G',bu,aK.fut f⟩
   | ct τ' G'=>rw [q] at aK;exact λσ' H' ρ' f bu=>⟨τ',ρ',G',bu,aK.fut f⟩
   | bk τ' G'=>rw [q] at aK;exact aK
   | rt d G'=>rw [q] at aK;exact aK
   | xn c τ' G'=>rw [q] at aK;exact aK
noncomputable def kZ:List D→M D
 | [d]=>λG=>match aD G d with
  | some (.lst xs)=>aS xs.reverse G
  | _=>.stuck
 | _=>M.stop
theorem pZ:bootBuiltins "reversed"=some (.type "reversed"):=by symm
theorem au.rev:∀ {ds:List D} {vs:List V},au K mg ρ H ds vs→au K mg ρ H ds.reverse vs.reverse
 | [],vs,h=>by unfold au at h;subst h;exact .nil
 | d::ds,vs,h=>by
  unfold au at h
  obtain ⟨v,r,rfl,h1,h2⟩:=h
  rw [ZH,ZH]
  exact (au.rev h2).append (.cons h1 .nil)
theorem Vals.app:∀ {xs ys:List V} {us vs:List V3},Vals xs us→Vals ys vs→Vals (xs++ys) (us++vs)
 | _,_,_,_,.nil,h=>h
 | _,_,_,_,.cons r t,h=>.cons r (Vals.app t h)
theorem Vals.rev:∀ {xs:List V} {us:List V3},Vals xs us→Vals xs.reverse us.reverse
 | _,_,.nil=>.nil
 | _,_,.cons r t=>by
  rw [ZH,ZH]
  exact Vals.app (Vals.rev t) (.cons r .nil)
theorem sV {acc:Array V3} (h:ItemsOf (λi v=>its.toArray[its.toArray.size - 1 - i]?=some v) acc its.toArray.size):acc=its.reverse.toArray:=by
 obtain ⟨h1,h2⟩:=h
 have hs:its.toArray.size=its.length:=by simp
 rw [hs] at h1
 apply Array.ext_getElem?
 intro i
 by_cases hi:i<acc.size
 ·have e:=h2 i acc[i] (aa0 hi)
  rw [aa0 hi,← e]
  rw [abt,abt,acK (by nofun),hs]
 ·rw [abj (by nofun),abj (by simp;nofun)]
theorem yT (hc:X.calm=true) (hm1:X.mg "list"=none) (Ss:Gl X "list") (hm2:X.mg "reversed"=none) (Su:Gl X "reversed") (ha:QA X EE [e] m) (h:az [e]=true:=by rfl) :
  QE X EE (.Call (.Name "list" p) [.Call (.Name "reversed" p2) [e] [] pos2] [] pos) (ak kZ m):=by
 have h':br e=true∧az []=true:=by simpa [az] using h
 intro pins s σ H Q I hq
 have hq':=jm (k:=λ_ ds=>kZ ds) hq
 refine Ze (fO I Ss hm1 boot_list ?_ (by decide) (by decide))
 refine Zb ?_ (aP rfl _ _) (bw (es:=[]) rfl)
 rw [aP (e:=.Call (.Name "reversed" p2) [e] [] pos2) rfl]
 show Y0 _ _ (spliced ((false,eval _ X.env)::backTo pos (YZ [] X.env))) _ _ s
 refine ZZ ?_
 refine Ze (fO I Su hm2 pZ ?_ (by decide) (by decide))
 refine Zb (dh (ha pos2 pins s σ H _ I hq') λus s1 oO=>?_) (aP h'.1 _ _) (bw (es:=[]) rfl)
 obtain ⟨vs,H1,I1,r1,τ,ρ,G,ds,ab,rs,ok⟩:=oO
 match ds,ok with
 | [],ok=>exact ok.elim
 | _::_::_,ok=>exact ok.elim
 | [d],ok=>
  obtain ⟨x,rfl,rx⟩:=iw rs
  obtain ⟨u,rfl,ru⟩:=vals1 r1
  dsimp only [kZ] at ok
  cases q:aD G d with
  | none=>rw [q] at ok;exact ok.elim
  | some sk=>
   rw [q] at ok
   cases sk with
   | tup zs=>exact ok.elim
   | str z=>exact ok.elim
   | lst zs=>
    dsimp only at ok
    obtain ⟨l,ys,rfl,sq,rv⟩:=cB (pins:=pins) (σ0:=σ) (s:=s1) ab.hp rx q
    cases ru
    obtain ⟨its,vv,pl,hz⟩:=I1.list sq
    have hlen:=vv.length
    have hl:=pl.isList
    have hlt:l<s1.heap.objs.size:=by obtain ⟨_,e,_⟩:=hl;exact YI e
    refine call_reversed_list hl ?_
    refine abe ?_
    refine ig (by first | exact I1.os.2 | exact Zp _) <| r6 (l:=l) (items:=its.toArray) (show X.A.handled=none from I.ok.hd hc) ⟨_,YM _ rfl,rfl,rfl⟩ (hl.push _) (YU hlt) (by simp;nofun) λh' tk acc' c' kp hS hacc ht=>?_
    have ea:=sV hacc
    subst ea
    obtain ⟨hlr,hn⟩:=pN ab rv.rev ok
    have hsz:(s1.heap.push (revObj l ((its.toArray.size:Int) - 1))).objs.size=s1.heap.objs.size+1:=aaG ..
    refine ⟨.ref _,upd H1 _ (.lst ys.reverse),I1.laid (t':=tk) (λb o e=>kp b o (YU (YI e)) (YA _ e)) ?_ ⟨hlr,its.reverse,c',Vals.rev vv,hS⟩,rfl,hn _ (I1.hok.fresh ?_)⟩
    ·show s1.heap.objs.size≤(s1.heap.push _).objs.size
     rw [hsz];nofun
    ·show s1.heap.objs.size≤(s1.heap.push _).objs.size
     rw [hsz];nofun
noncomputable def intsOf:List D→Option (List Int)
 | []=>some []
 | .int b::r=>(intsOf r).map (b::·)
 | _::_=>none
theorem p6 {K:Yz} {mg:Str→Option V3} {ρ:List Addr} {H:Hp}:∀ {ds:List D} {vs:List V} {us:List V3} {bs:List Int},au K mg ρ H ds vs→Vals vs us→intsOf ds=some bs→us.length=bs.length∧∀ (i:Nat) (v:V3),us[i]?=some v→∃ t,v=Value.int (bs.getD i 0) t
 | [],vs,us,bs,r,v,e=>by unfold au at r;subst r;cases v;cases e;exact ⟨rfl,λi v h=>by simp at h⟩
 | d::ds,vs,us,bs,r,v,e=>by
  unfold au at r
  obtain ⟨x,r',rfl,h1,h2⟩:=r
  cases v with
  | cons v1 v2=>
   cases d<;>try (cases e;done)
   rename_i b
   dsimp only [intsOf] at e
   cases q:intsOf ds with
   | none=>rw [q] at e;cases e
   | some bs'=>
    rw [q] at e;cases e
    unfold Rep at h1;subst h1
    obtain ⟨t,rfl⟩:=v1
    obtain ⟨hl,hi⟩:=p6 h2 v2 q
    refine ⟨by simp [hl],λi v h=>?_⟩
    cases i with
    | zero=>simp at h;exact ⟨t,by simp [h]⟩
    | succ i=>obtain ⟨t',e'⟩:=hi i v (by simpa using h);exact ⟨t',by simpa using e'⟩
theorem preSum_eq (bs:List Int):∀ n,n≤bs.length→preSum (λi=>bs.getD i 0) n=(bs.take n).sum
 | 0,_=>by simp [preSum]
 | n+1,h=>by
  show preSum (λi=>bs.getD i 0) n+bs.getD n 0=_
  have:bs[n]?=some bs[n]:=YD (by nofun)
  rw [preSum_eq bs n (by nofun),← List.take_append_getElem (show n<bs.length by nofun),List.sum_append,List.getD,this]
  rw [List.sum_singleton]
  rfl
noncomputable def lB:List D→M D
 | [d]=>λG=>match aD G d with
  | some (.lst xs)=>match intsOf xs with
   | some bs=>.ok (.int bs.sum) G
   | none=>.stuck
  | _=>.stuck
 | _=>M.stop
theorem BD (hc:X.calm=true):eX X (.builtin "sum") (Hu X EE lB):=by
 intro pins s σ0 H xs us Q I r zu
 obtain ⟨σ,τ,ρ,G,ds,ab,rs,ok⟩:=zu
 match ds,ok with
 | [],ok=>exact ok.elim
 | _::_::_,ok=>exact ok.elim
 | [d],ok=>
  obtain ⟨x,rfl,rx⟩:=iw rs
  obtain ⟨u,rfl,ru⟩:=vals1 r
  dsimp only [lB] at ok
  cases q:aD G d with
  | none=>rw [q] at ok;exact ok.elim
  | some sk=>
   rw [q] at ok
   cases sk with
   | tup zs=>exact ok.elim
   | str z=>exact ok.elim
   | lst zs=>
    dsimp only at ok
    cases qb:intsOf zs with
    | none=>rw [qb] at ok;exact ok.elim
    | some bs=>
     rw [qb] at ok
     obtain ⟨p,vs,rfl,sq,rv⟩:=cB (pins:=pins) (σ0:=σ0) (s:=s) ab.hp rx q
     cases ru
     obtain ⟨its,vv,pl,hz⟩:=I.list sq
     obtain ⟨hlen,hints⟩:=p6 rv vv qb
     have hl:=pl.isList
     have hlt:p<s.heap.objs.size:=by obtain ⟨_,e,_⟩:=hl;exact YI e
     refine ig I.os.2 (call_sum_walkG (adp hl ?_))
     refine ⟨s.heap.objs.size,[s.heap.objs.size,p],[s.heap.objs.size],its.toArray.size,_,_,λi=>bs.getD i 0,rfl,Walks.list (A:=X.A.in1) (I.ok.hd hc) _ p (YU hlt) _,
      ⟨⟨_,YM _ rfl,rfl,rfl⟩,hl.push _⟩,λb hb=>?_,λi v hP=>hints i v (by simpa using hP),λh' tk t' hk ht=>?_⟩
     ·show b<(s.heap.push _).objs.size
      rw [aaG]
      rcases Y6.mp hb with rfl | hb
      ·exact aai _
      ·rw [Y7.mp hb];exact ab7 hlt
     ·rw [show its.toArray.size=bs.length by simpa using hlen,preSum_eq bs _ (YE _),List.take_length]
      exact ⟨.int _,H,I.kept (t':=tk) (yL hk),⟨_,rfl⟩,ok _ H ρ .refl ab (by unfold Rep;rfl)⟩
noncomputable def sW:List D→M D
 | [.int i]=>M.ret (.int i)
 | [.bl k]=>M.ret (.int (if k then 1 else 0))
 | _=>M.stop
theorem BE:eX X (.type "int") (Hu X EE sW):=by
 intro pins s σ0 H xs us Q I r zu
 obtain ⟨σ,τ,ρ,G,ds,ab,Ge,ok⟩:=zu
 match ds,ok with
 | [],ok=>exact ok.elim
 | d::_::_,ok=>cases d<;>exact ok.elim
 | [d],ok=>
  obtain ⟨x,rfl,rx⟩:=iw Ge
  cases d<;>try exact ok.elim
  ·rename_i k
   unfold Rep at rx;subst rx
   exact sE pins s σ0 H _ us Q I r (.inr ⟨k,rfl,ok _ H ρ .refl ab (by unfold Rep;rfl)⟩)
  ·rename_i i
   unfold Rep at rx;subst rx
   exact sE pins s σ0 H _ us Q I r (.inl ⟨i,rfl,ok _ H ρ .refl ab (by unfold Rep;rfl)⟩)
theorem boot_int:bootBuiltins "int"=some (.type "int"):=by symm
theorem MC (hm:X.mg "int"=none) (hg:Gl X "int") (ha:QA X EE [e] m) (h:az [e]=true:=by rfl):QE X EE (.Call (.Name "int" p) [e] [] pos) (ak sW m):=sU BE hm hg boot_int ha (by decide) (by decide) h
theorem MD (hc:X.calm=true) (hm:X.mg "sum"=none) (hg:Gl X "sum") (ha:QA X EE [e] m) (h:az [e]=true:=by rfl):QE X EE (.Call (.Name "sum" p) [e] [] pos) (ak lB m):=lZ (BD hc) hm hg PyProof.Rows.boot_sum ha (by decide) (by decide) h
end
theorem Af (I:Inv X pins σ H s) (k:∀ b o,b∉ch→s.heap.get? b=some o→h'.get? b=some o) (hf:∀ b∈ch,lS X pins H b) (ht:0<t':=by first | exact Zp _ | exact (Inv.os (by assumption)).2 | assumption | nofun):Inv X pins σ H {s with heap:=h',toks:=t'}:=by
 have Ob:∀ b u,H b=some u→b∉ch:=λb u e z=>by rw [(hf b z).1] at e;cases e
 refine I.step (g':=s.gens) (d':=s.drawn) (ch:=ch) (λb hb=>⟨(hf b hb).2.2.2.1,(hf b hb).2.1,(hf b hb).2.2.2.2.1,(hf b hb).2.2.2.2.2⟩) (λb o _ _ hc e _=>k b o hc e) (λb o _ _ hc e _=>⟨o.slots,k b o hc e⟩) (λ_ _ _ _ n=>n)
  (λb o hc e=>⟨o,k b o hc e⟩) (λ_ _ e=>e) (λ_ _ _ e=>e) (λb ps e=>⟨#[],by rw [e];simp⟩) (λm hm=>?_) (λb u e=>?_) I.bare
 ·obtain ⟨o,es,ep,ho,r⟩:=hm
  exact ⟨o,es,ep,k _ o (λz=>(hf _ z).2.1 rfl) ho,r⟩
 ·refine (I.hok b u e).stay (λc v hc q=>k c v ?_ q) (λ_ q=>q) λ_ _ q=>q
  rcases hc with z | z
  ·rw [z];exact Ob b u e
  ·exact Ob c _ z
noncomputable abbrev View:=DH→Nat→Option (Option D)
variable {vw:View}
noncomputable def JV (K:Yz) (mg:Str→Option V3) (J:It) (vw:View) (H0:Hp) (ρ0:List Addr):Prop:=
 ∀ (i:Nat) (H:Hp) (ρ:List Addr) (G:DH),bS K H0 H ρ0 ρ→eO K mg H ρ G→(vw G i=some none→J.stop i H) ∧
  ∀ d,vw G i=some (some d)→J.go i H∧∀ x H',J.sy i H x H'→wI K mg H H' ρ∧Rep K mg ρ H' d x
noncomputable def iW (g:jT) (body:MS) (vw:View):Nat→Nat→MS
 | 0,_=>λ_ _=>.stuck
 | f+1,i=>λτ G=>match vw G i with
  | none=>.stuck
  | some none=>.nx τ G
  | some (some d)=>match g d τ with
   | none=>.stuck
   | some τ1=>match body τ1 G with
    | .nx τ2 G2=>iW g body vw f (i+1) τ2 G2
    | .ct τ2 G2=>iW g body vw f (i+1) τ2 G2
    | .bk τ2 G2=>.nx τ2 G2
    | r=>r
noncomputable abbrev MI:=DS→M (Nat×View)
noncomputable def J3 (K:Yz) (mg:Str→Option V3) (EE:bW) (mi:MI):TI:=λσ H R=>∃ τ ρ G,Ab K mg σ H τ ρ G∧match mi τ G with
 | .stuck=>False
 | .bC c G'=>∀ H' ρ',bS K H H' ρ ρ'→Ab K mg σ H' τ ρ' G'→EE c σ H'
 | .ok (_,vw) G'=>∀ J H' ρ',bS K H H' ρ ρ'→Ab K mg σ H' τ ρ' G'→JV K mg J vw H' ρ'→R J H'
noncomputable def QI (X:Cx) (EE:bW) (tg iter:Expr) (mi:MI):Prop:=PI X tg iter (J3 X.K X.mg EE mi)
section
variable {X:Cx} {EE:bW} {tg iter a b:Expr} {g:jT} {mi:MI} {ms:MS} {pos p pc:Pos} {m:DS→M (List D)}
theorem DZ {body:MS} {Dd:Ends} {J:It} {σ0:L2.St} {G0:DH} {τ0:DS} {fuel:Nat} (jv:JV X.K X.mg J vw H0 ρ0)
  (ab:Ab X.K X.mg σ0 H0 τ0 ρ0 G0) (ok:rX X.K X.mg EE H0 ρ0 Dd (iW g body vw fuel 0 τ0 G0)) :
  ∃ W:Nat→Nat→L2.St→Hp→Prop,(∃ m,W 0 m σ0 H0)∧∀ i m σ H,W i m σ H →
   (J.stop i H∧Dd.nx σ H)∨(J.go i H∧∃ N:L2.St→Hp→Prop,(∀ σ' H',N σ' H'→∃ m',m'<m∧W (i+1) m' σ' H')∧∀ x H',J.sy i H x H'→wG X.K X.mg g x σ H' λσ2 H2=>gi X.K X.mg EE body {Dd with nx:=N,ct:=N,bk:=Dd.nx} σ2 H2):=by
 refine ⟨λi m σ H=>∃ τ ρ G,Ab X.K X.mg σ H τ ρ G∧bS X.K H0 H ρ0 ρ∧rX X.K X.mg EE H ρ Dd (iW g body vw m i τ G),⟨fuel,τ0,ρ0,G0,ab,.refl,ok⟩,?_⟩
 rintro i m σ H ⟨τ,ρ,G,ab,f,ok⟩
 cases m with
 | zero=>exact ok.elim
 | succ m=>
  unfold iW at ok
  obtain ⟨j1,j2⟩:=jv i H ρ G f ab.hp
  cases q:vw G i with
  | none=>rw [q] at ok;exact ok.elim
  | some od=>
   rw [q] at ok
   cases od with
   | none=>exact .inl ⟨j1 q,ok σ H ρ .refl ab⟩
   | some d=>
    dsimp only at ok
    obtain ⟨jg,jy⟩:=j2 d q
    refine .inr ⟨jg,λσ' H'=>∃ τ' ρ' G',Ab X.K X.mg σ' H' τ' ρ' G'∧bS X.K H0 H' ρ0 ρ'∧rX X.K X.mg EE H' ρ' Dd (iW g body vw m (i+1) τ' G'),λσ' H' z=>⟨m,aai _,z⟩,λx H' y=>?_⟩
    obtain ⟨⟨fN,hN⟩,rx⟩:=jy x H' y
    replace ok:=rX.fut fN ok
    replace ab:Ab X.K X.mg σ H' τ ρ G:=ab.fut fN (hN _ ab.hp)
    replace f:=f.trans fN
    cases e:g d τ with
    | none=>rw [e] at ok;exact ok.elim
    | some τ1=>
     rw [e] at ok
     dsimp only at ok
     refine ⟨τ,ρ,G,d,τ1,ab,rx,e,λσ' bu=>⟨τ1,ρ,G,bu,?_⟩⟩
     cases eb:body τ1 G with
     | stuck=>rw [eb] at ok;exact ok
     | nx τ2 G2=>rw [eb] at ok;exact λσ2 H2 ρ2 f2 bM=>⟨τ2,ρ2,G2,bM,f.trans f2,ok.fut f2⟩
     | ct τ2 G2=>rw [eb] at ok;exact λσ2 H2 ρ2 f2 bM=>⟨τ2,ρ2,G2,bM,f.trans f2,ok.fut f2⟩
     | bk τ2 G2=>rw [eb] at ok;exact ok
     | rt d G2=>rw [eb] at ok;exact ok
     | xn c τ2 G2=>rw [eb] at ok;exact ok
noncomputable def iz (g:jT) (mi:MI) (body:MS):MS:=λτ=>bL (mi τ) (λx G=>iW g body x.2 x.1 0 τ G) λc G=>.xn c τ G
theorem HV (hp:PassesOwn (model X.prog X.w) X.A X.env X.xe) (hc:X.calm=true) (hi:QI X EE tg iter mi) (hg:QG X tg g) (hb:rY X EE body ms) (hs:fY iter=true:=by rfl) :
  QS X EE (.For tg iter body [] pos) (iz g mi ms):=PS.mono (ug hp hc hi hg hb (gb hs _)) λDd σ H h=>by
 obtain ⟨τ,ρ,G,ab,ok⟩:=h
 refine ⟨τ,ρ,G,ab,?_⟩
 dsimp only [iz,bL] at ok
 cases e:mi τ G with
 | stuck=>rw [e] at ok;exact ok
 | bC c G'=>rw [e] at ok;exact λH' ρ' f bu=>ok σ H' ρ' f bu
 | ok x G'=>rw [e] at ok;exact λJ H' ρ' f bu jv=>DZ jv bu (ok.fut f)
noncomputable def iX (gO:D→Option (List D)) (ks:List Bool) (tt:DS→M Bool) (te:DS→M D) (n:Nat) (vw:View):Nat→Nat→DS→DH→Out D
 | 0,_,_,_=>.stuck
 | f+1,i,τ,G=>match vw G i with
  | none=>.stuck
  | some none=>.ok (.obj n) G
  | some (some d)=>match dD gO ks tt te n d τ G with
   | .ok _ G'=>iX gO ks tt te n vw f (i+1) τ G'
   | .bC c G'=>.bC c G'
   | .stuck=>.stuck
variable {gO:D→Option (List D)} {ow:V→Hp→List V→Prop} {xs:List Str} {ks:List Bool} {tt:DS→M Bool} {te:DS→M D}
theorem BF (hO:g9 X.K X.mg ow gO) {Q:VK} {J:It} {vw:View} {H0:Hp} {σ:L2.St} {ρ0:List Addr} {G0:DH} {τ:DS} {fuel:Nat} (jv:JV X.K X.mg J vw H0 ρ0)
  (ab:Ab X.K X.mg σ H0 τ ρ0 G0) (ok:iQ X.K X.mg EE H0 σ τ ρ0 (iX gO ks tt te G0.length vw fuel 0 τ (G0++[.lst []])) Q) :
  ∀ D,H0 D=none→∃ W:Nat→Nat→Hp→Prop,(∃ m,W 0 m (upd H0 D (.lst [])))∧∀ i m H,W i m H →
   (J.stop i H∧Q (.ref D) H)∨(J.go i H∧∀ x H',J.sy i H x H'→∃ vs,ow x H' vs∧liftT X.K X.mg (lO EE σ) tt (vs.map some++mask ks σ) H' λb H2=>if b=true then aW X.K X.mg (lO EE σ) te (vs.map some++mask ks σ) H2 λv H3=>∃ ys,H3 D=some (.lst ys)∧ys.length<Yx∧∃ m',m'<m∧W (i+1) m' (upd H3 D (.lst (ys++[v]))) else ∃ m',m'<m∧W (i+1) m' H2):=by
 intro D hD
 have f0:bS X.K H0 (upd H0 D (.lst [])) ρ0 (ρ0++[D]):=(cR hD ρ0).trans (cE ρ0 D)
 have HA:Ab X.K X.mg σ (upd H0 D (.lst [])) τ (ρ0++[D]) (G0++[.lst []]):=ab.fut f0 (ab.hp.more hD .nil)
 have hn0:(ρ0++[D])[G0.length]?=some D:=by rw [← ab.hp.hl,aB]
 refine ⟨λi m H=>∃ ρ G,Ab X.K X.mg σ H τ ρ G∧bS X.K H0 H ρ0 ρ∧ρ[G0.length]?=some D∧iQ X.K X.mg EE H σ τ ρ (iX gO ks tt te G0.length vw m i τ G) Q,
  ⟨fuel,ρ0++[D],_,HA,f0,hn0,ok.fut f0⟩,?_⟩
 rintro i m H ⟨ρ,G,ab,f,hn,ok⟩
 cases m with
 | zero=>exact ok.elim
 | succ m=>
  unfold iX at ok
  obtain ⟨j1,j2⟩:=jv i H ρ G f ab.hp
  cases q:vw G i with
  | none=>rw [q] at ok;exact ok.elim
  | some od=>
   rw [q] at ok
   cases od with
   | none=>exact .inl ⟨j1 q,ok _ H ρ .refl ab (by unfold Rep;exact ⟨D,rfl,hn⟩)⟩
   | some d=>
    dsimp only at ok
    obtain ⟨jg,jy⟩:=j2 d q
    refine .inr ⟨jg,λx H' y=>?_⟩
    obtain ⟨⟨fN,hN⟩,rx⟩:=jy x H' y
    replace ok:=iQ.fut fN ok
    replace ab:Ab X.K X.mg σ H' τ ρ G:=ab.fut fN (hN _ ab.hp)
    replace f:=f.trans fN
    refine mY hO (W:=λH3=>∃ m',m'<m+1∧∃ ρ G,Ab X.K X.mg σ H3 τ ρ G∧bS X.K H0 H3 ρ0 ρ∧ρ[G0.length]?=some D∧iQ X.K X.mg EE H3 σ τ ρ (iX gO ks tt te G0.length vw m' (i+1) τ G) Q)
      ab rx hn ?_
    cases e:dD gO ks tt te G0.length d τ G with
    | stuck=>rw [e] at ok;exact ok
    | bC c G'=>rw [e] at ok;exact ok
    | ok _ G'=>
     rw [e] at ok
     exact λH3 ρ3 f3 nT=>⟨m,aai _,ρ3,G',nT,f.trans f3,f3.get hn,ok.fut f3⟩
noncomputable def dY (gO:D→Option (List D)) (ks:List Bool) (mi:MI) (tt:DS→M Bool) (te:DS→M D):DS→M D:=λτ=>(mi τ).bind λx G=>iX gO ks tt te G.length x.2 x.1 0 τ (G++[.lst []])
theorem p7 (hO:g9 X.K X.mg ow gO) {σ:L2.St} {H:Hp} {Q:VK} (h:aW X.K X.mg EE (dY gO ks mi tt te) σ H Q) :
  sP (J3 X.K X.mg EE mi) ks ow (liftT X.K X.mg (lO EE σ) tt) (aW X.K X.mg (lO EE σ) te) σ H Q:=by
 obtain ⟨τ,ρ,G,ab,ok⟩:=h
 refine ⟨τ,ρ,G,ab,?_⟩
 dsimp only [dY,M.bind] at ok
 cases e:mi τ G with
 | stuck=>rw [e] at ok;exact ok
 | bC c G'=>rw [e] at ok;exact ok
 | ok x G'=>rw [e] at ok;exact λJ H' ρ' f bu jv=>BF hO jv bu (ok.fut f)
variable {scope:Scope} {elt:Expr} {ifs:List Expr}
theorem D0 (hx:fE X EE) (hst:j3 X) (S:bf X.env.scope X.N scope xs ks) (how:Own X scope xs ks tg ow) (hO:g9 X.K X.mg ow gO) (hc:X.calm=true) (ha:QI X EE tg iter mi) (hb:iV X scope xs ifs elt tt te) (hs:fY iter=true:=by rfl) :
  QE X EE (.ListComp elt [⟨tg,iter,ifs,0⟩] scope pos) (dY gO ks mi tt te):=PE.mono (oS (tt:=λσ=>liftT X.K X.mg (lO EE σ) tt) (te:=λσ=>aW X.K X.mg (lO EE σ) te) hx hst S how hc ha (λσ cl C pins s0 H0 fp E=>hb cl C pins s0 H0 fp E _) (gb hs _)) λ_ _ _ h=>p7 hO h
theorem D3 (hx:fE X EE) (hst:j3 X) (S:bf X.env.scope X.N scope xs ks) (how:Own X scope xs ks tg ow) (hO:g9 X.K X.mg ow gO) (hc:X.calm=true) (hN:X.N.Nodup) (hl:X.env.scope.names.lookup y=some .local) (ha:QI X EE tg iter mi) (hb:iV X scope xs ifs elt tt te)
  (hsw:swapsWith (.ListComp elt [⟨tg,iter,ifs,0⟩] scope pos) (some (.Name y py)) spos.line X.env=pure true) (hy:X.N[i]?=some y:=by rfl) (hs:fY iter=true:=by rfl) :
  QS X EE (.Assign [.Name y py] (.ListComp elt [⟨tg,iter,ifs,0⟩] scope pos) spos) (aJ i (dY gO ks mi tt te)):=
 PS.mono (Ad (tt:=λσ=>liftT X.K X.mg (lO EE σ) tt) (te:=λσ=>aW X.K X.mg (lO EE σ) te) hx hst S how hc hN ha hy hl hsw (λσ cl C pins s0 H0 fp E=>hb cl C pins s0 H0 fp E _) (gb hs _)) λ_ _ _ h=>DM (λ_ _ _ h=>p7 hO h) h
noncomputable def gP (i j:Nat):jT:=λd τ=>match d with
 | .tup [x,y]=>some ((τ.set i (some x)).set j (some y))
 | _=>none
theorem HW {px py:Pos} {k:Nat} (hc:X.calm=true) (hN:X.N.Nodup) (hx:Loc X.env.scope x) (hy:Loc X.env.scope y) (hfx:X.fn x=true∨X.env.scope.names.lookup x=some .local) (VI:X.fn y=true∨X.env.scope.names.lookup y=some .local) (hi:X.N[i]?=some x:=by rfl) (hj:X.N[j]?=some y:=by rfl) :
  QG X (.Tuple [.Name x px,.Name y py] k pos) (gP i j):=by
 intro pins s σ H v u Q I r zu
 obtain ⟨τ,ρ,G,d,τ',ab,rd,e,q⟩:=zu
 refine KZ (n:=2) hc (v5 (uf hN hi hx hfx) (v5 (uf hN hj hy VI) Gv)) rfl rfl pins s σ H v u Q I r ?_
 cases d<;>try (cases e;done)
 rename_i ds
 match ds,e with
 | [d1,d2],e=>
  cases e
  unfold Rep at rd
  obtain ⟨a,vs,rfl,sq,rs⟩:=rd
  obtain ⟨v1,v2,rfl,r1,r2⟩:=Dy rs
  exact ⟨a,[v1,v2],rfl,sq,rfl,v1,[v2],rfl,v2,[],rfl,rfl,q _ (Ab.set (Ab.set ab r1) r2)⟩
noncomputable def Sv (K:Yz) (a:Addr):It:=
 ⟨λi H=>∃ xs x,lN K H a xs∧xs[i]?=some x,λi H y H'=>∃ x p,(∀ xs,lN K H a xs→xs[i]?=some x)∧H p=none∧y=.ref p∧H'=upd H p (.tup [.int i,x]),λi H=>∃ xs,lN K H a xs∧xs.length≤i⟩
theorem BG {k:Nat} {pt:Pos} (l e it:Addr) (hne:e≠it):Turn P w K (.Tuple es k pt) (Sv K l) [e,it] e (λi h=>∃ old,IsEnum h e it i old∧h.IsListIter it l i) where
 mem:=by simp
 obj:=λi h zz b hb=>by
  obtain ⟨old,st1,st2⟩:=zz
  rcases Y6.mp hb with rfl | hb
  ·exact ⟨_,st1,λv z=>by cases z⟩
  ·have e:b=it:=by simpa using hb
   subst e
   obtain ⟨o,e,c,d⟩:=st2
   exact ⟨o,e,λv z=>by rw [d] at z;cases z⟩
 keep:=λi h h' zz kp=>by obtain ⟨old,st1,st2⟩:=zz;exact ⟨old,kp e (by simp) _ st1,st2.at λo q=>kp it (by simp) o q⟩
 item:=by
  intro X hP hw hK hc i pins s σ H E I hf zu hg
  obtain ⟨old,st1,st2⟩:=zu
  subst hP hw hK
  obtain ⟨xs,x,hq,hx⟩:=hg
  obtain ⟨its,rv,p,hz⟩:=I.list hq
  obtain ⟨u,hu,ru⟩:=rv.get hx
  have Sw:e<s.heap.objs.size:=YI st1
  have ME:it<s.heap.objs.size:=by obtain ⟨o,q,_⟩:=st2;exact YI q
  refine wpAny_pyNext_enum_item st1 st2 p.isList (x:=u) (by simpa using hu) hne λh' hO hL htup hsz kp=>?_
  refine ⟨.ref s.heap.objs.size,rfl,?_⟩
  have I1:Inv X pins σ (upd H s.heap.objs.size (.tup [.int i,x])) {s with heap:=s.heap.push {cls:=.type "tuple",data:=.seq #[.int i s.toks,u]}}:=
   I.laid (t':=s.toks) (λb o q=>YA _ q) (YE _) ⟨by simp [sizeLine_eq],[.int i s.toks,u],.cons ⟨_,rfl⟩ (.cons ru .nil),acB _ _⟩
  have hfree:=I.hok.fresh (YE s.heap.objs.size)
  have hf1:∀ b∈[e,it],lS X pins (upd H s.heap.objs.size (.tup [.int i,x])) b:=λb hb=>by
   have hlt:b≠s.heap.objs.size:=by
    rcases Y6.mp hb with rfl | hb
    ·exact YU Sw
    ·rw [Y7.mp hb];exact YU ME
   exact ⟨by rw [av hlt];exact (hf b hb).1,(hf b hb).2⟩
  unfold letOwnedTupleGo
  refine Yu (abV hO ?_)
  dsimp only
  rw [if_pos (by simp)]
  refine Yu (ad0 ?_)
  unfold updateField
  refine Yu (abV hO ?_)
  dsimp only
  rw [if_pos (by simp)]
  refine wpAny_update hO ?_
  have vR:∀ b,b≠e→(h'.update e (aah λx=>x.setIfInBounds 0 Value.none)).get? b=h'.get? b:=λb hb=>ZR _ _ (Z2 hb)
  refine ⟨.ref s.heap.objs.size,_,Af (t':=s.toks+1) (s:={s with heap:=s.heap.push {cls:=.type "tuple",data:=.seq #[.int i s.toks,u]}}) (ch:=[e,it]) I1 (λb o hb q=>?_) hf1,rfl,⟨x,s.heap.objs.size,λys hy=>by rw [I.pC hy hq];exact hx,hfree,rfl,rfl⟩,⟨u,?_,?_⟩,λb hb=>(hf1 b hb).1⟩
  ·have hb1:b≠e:=λz=>hb (by simp [z])
   have hb2:b≠it:=λz=>hb (by simp [z])
   show (h'.update e _).get? b=some o
   rw [vR b hb1]
   by_cases J4:b=s.heap.objs.size
   ·subst J4
    have:=YM (o:={cls:=.type "tuple",data:=.seq #[.int (i:Int) s.toks,u]}) s.heap rfl
    rw [this] at q;cases q
    exact htup
   ·have q':(s.heap.push {cls:=.type "tuple",data:=.seq #[.int (i:Int) s.toks,u]}).get? b=some o:=q
    refine kp b o hb1 hb2 ?_
    rwa [adt _ _ _ J4] at q'
  ·show (h'.update e _).get? e=_
   rw [ZX _ hO rfl]
   rfl
  ·exact hL.at λo q=>(vR it (Z2 hne)).trans q
 done:=by
  intro X hP hw hK hc i pins s σ H E I hf zu hg
  obtain ⟨old,st1,st2⟩:=zu
  subst hP hw hK
  obtain ⟨xs,hq,hx⟩:=hg
  obtain ⟨its,rv,p,hz⟩:=I.list hq
  obtain ⟨f0,f1,f2,f3,f4,f5⟩:=hf it (by simp)
  have hl:=rv.length
  exact wpAny_pyNext_enum_end (I.ok.hd hc) st1 st2 p.isList (by simp;nofun) λh' eb=>⟨rfl,I.turned (t':=s.toks) (λb o hb e=>eb b o hb e) f0 f1 f3 f4 f5⟩
 self:=λ_ _ _ _ _ zz h=>by obtain ⟨old,st1,_⟩:=zz;exact abl st1 h
noncomputable def fH (d:D):View:=λG i=>match aD G d with
 | some (.lst xs)=>some (xs[i]?.map λx=>.tup [.int i,x])
 | _=>none
noncomputable def wM (m:DS→M (List D)):MI:=λτ=>(m τ).bind λds=>match ds with
 | [d]=>λG=>match aD G d with
  | some (.lst xs)=>.ok (xs.length+1,fH d) G
  | _=>.stuck
 | _=>M.stop
theorem sX:bootBuiltins "enumerate"=some (.type "enumerate"):=by symm
theorem HX {d:D} (r:Rep K mg ρ0 H0 d (.ref l)) (hd:∃ xs,aD G0 d=some (.lst xs)):JV K mg (Sv K l) (fH d) H0 ρ0:=by
 intro i H ρ G f hp
 have key:∀ zs,aD G d=some (.lst zs)→∃ xs,lN K H l xs∧au K mg ρ H zs xs:=λzs q=>by
  have r':=Rep.mono f d _ r
  cases d with
  | con ws=>
   cases q
   unfold Rep at r'
   obtain ⟨a,xs,e,sq,rs⟩:=r'
   cases e
   exact ⟨xs,sq.seq,rs⟩
  | obj n=>
   unfold aD at q
   dsimp only at q
   unfold Rep at r'
   obtain ⟨a,e,e1⟩:=r'
   cases e
   cases g:G[n]? with
   | none=>rw [g] at q;cases q
   | some o=>
    cases o with
    | lst ws=>
     rw [g] at q;cases q
     obtain ⟨a',xs,e2,h2,rs⟩:=hp.lst g
     rw [e1] at e2;cases e2
     exact ⟨xs,.of h2,rs⟩
    | _=>first | (rw [q] at ok;exact ok.elim) | (rw [q] at aK;exact aK.elim) | (rw [q] at e;cases e;done) | (rw [g] at ok;exact ok.elim) | (rw [g] at q;cases q;done) | (rw [g] at h;cases h;done) | (rw [g2] at ok;exact ok.elim) | (rw [g1,g2] at ok;exact ok.elim) | (rw [q1] at ok;exact ok.elim) | exact ok.elim
  | tup ws=>cases q
  | str z=>cases q
  | _=>cases q
 unfold fH
 cases q:aD G d with
 | none=>exact ⟨λe=>(by cases e),λx e=>(by cases e)⟩
 | some sk=>
  cases sk with
  | tup zs=>exact ⟨λe=>(by cases e),λx e=>(by cases e)⟩
  | str z=>exact ⟨λe=>(by cases e),λx e=>(by cases e)⟩
  | lst zs=>
   obtain ⟨xs,sq,rs⟩:=key zs q
   dsimp only
   constructor
   ·intro e
    cases qi:zs[i]? with
    | some z=>rw [qi] at e;cases e
    | none=>exact ⟨xs,sq,by rw [← rs.length];exact Zv.mp qi⟩
   ·intro dd e
    cases qi:zs[i]? with
    | none=>rw [qi] at e;cases e
    | some z=>
     rw [qi] at e;cases e
     obtain ⟨v,ev,rv⟩:=rs.get qi
     refine ⟨⟨xs,v,sq,ev⟩,λy H' hy=>?_⟩
     obtain ⟨v',p,ev',hp0,rfl,rfl⟩:=hy
     have ev':=ev' xs sq
     rw [ev] at ev';cases ev'
     refine ⟨wI.new hp0,?_⟩
     unfold Rep
     refine ⟨p,[.int i,v],rfl,.of aM,.cons (by unfold Rep;rfl) (.cons (Rep.mono (cR hp0 ρ) _ _ rv) .nil)⟩
theorem HY {k:Nat} {pt:Pos} (hm:X.mg "enumerate"=none) (oR:Gl X "enumerate") (ha:QA X EE [a] m) (h:az [a]=true:=by rfl):QI X EE (.Tuple es k pt) (.Call (.Name "enumerate" p) [a] [] pc) (wM m):=by
 have h':br a=true∧az []=true:=by simpa [az] using h
 intro pins s σ H R I hq
 obtain ⟨τ,ρ,G,ab,ok⟩:=hq
 dsimp only [wM,M.bind] at ok
 refine Ze (fO I oR hm sX ?_ (by decide) (by decide))
 have hA:iu X.K X.mg EE m σ H λvs H1=>∃ ρ1 G1 ds,Ab X.K X.mg σ H1 τ ρ1 G1∧bS X.K H H1 ρ ρ1∧au X.K X.mg ρ1 H1 ds vs∧m τ G=.ok ds G1:=by
  refine ⟨τ,ρ,G,ab,?_⟩
  cases e:m τ G with
  | stuck=>rw [e] at ok;exact ok
  | bC c G'=>rw [e] at ok;exact ok
  | ok ds G'=>exact λvs H' ρ' f bu r=>⟨ρ',G',ds,bu,f,r,rfl⟩
 refine Zb (dh (ha pc pins s σ H _ I hA) λus s1 oO=>?_) (aP h'.1 _ _) (bw (es:=[]) rfl)
 obtain ⟨vs,H1,I1,r1,ρ1,G1,ds,fM,f1,rs,em⟩:=oO
 rw [em] at ok
 dsimp only at ok
 match ds,rs,ok with
 | [],_,ok=>exact ok.elim
 | _::_::_,_,ok=>exact ok.elim
 | [d],rs,ok=>
  obtain ⟨x,rfl,rx⟩:=iw rs
  obtain ⟨u,rfl,ru⟩:=vals1 r1
  dsimp only at ok
  cases q:aD G1 d with
  | none=>rw [q] at ok;exact ok.elim
  | some sk=>
   rw [q] at ok
   cases sk with
   | tup zs=>exact ok.elim
   | str z=>exact ok.elim
   | lst zs=>
    dsimp only at ok
    obtain ⟨l,ys,rfl,sq,rv⟩:=cB (pins:=pins) (σ0:=σ) (s:=s1) fM.hp rx q
    cases ru
    obtain ⟨its,vv,pl,hz⟩:=I1.list sq
    refine call_enumerate_list pl.isList λh2 hE hL hsz kp=>?_
    refine abl hE ?_
    have I2:Inv X pins σ H1 {s1 with heap:=h2}:=I1.kept (t':=s1.toks) kp
    refine ⟨s1.heap.objs.size+1,[s1.heap.objs.size+1,s1.heap.objs.size],_,Sv X.K l,H1,rfl,I2,BG l _ _ (adG _),⟨_,hE,hL⟩,λb hb=>?_,ok _ H1 ρ1 f1 fM (HX rx ⟨zs,q⟩)⟩
    rcases Y6.mp hb with rfl | hb
    ·exact I1.ou (acW _) (I1.hok.fresh (acW _))
    ·rw [Y7.mp hb]
     exact I1.ou (YE _) (I1.hok.fresh (YE _))
end
theorem lz (h:n≤2000000):n≤Yx:=by rw [sizeLine_eq];nofun
theorem p8 (A:DH) (x:DO) (B:DH):(A++x::B)[A.length]?=some x:=by simp
theorem J5 (A:DH) (x y:DO) (B:DH):(A++x::y::B)[A.length+1]?=some y:=by
 rw [Y5 (by nofun)];simp
theorem vU (A:DH) (x y:DO) (B:DH):(A++x::B).set A.length y=A++y::B:=by
 rw [acL _ _ (YE _)];simp
theorem Sx (A:DH) (x y z:DO) (B:DH):(A++x::y::B).set (A.length+1) z=A++x::z::B:=by
 rw [acL _ _ (by nofun)];simp
theorem cW (g:Bool) (i j:Int) (G:DH):fT g (.int i) (.int j) G=.ok (.bl (g ^^ (i==j))) G:=by
 simp [fT,wA,jN,Z5,ZL,ZC]
theorem uD (g:Bool) (a b:Str) (G:DH) (ha:YC a=true) (hb:YC b=true):fT g (.str a) (.str b) G=.ok (.bl (g ^^ (a==b))) G:=by
 simp [fT,wA,jN,Z5,ZL,ZC,ha,hb]
theorem nX (G:DH):∀ ws:List Str,bR (jN G deep) (ws.map D.str)=some (ws.map aby)
 | []=>rfl
 | w::ws=>by
  have ih:=nX G ws
  simp only [Yv,bR,ih]
  rfl
theorem wN (t:Str) (ws:List Str) (G:DH) (h:YC t=true) (hw:ZT (ws.map aby)=true):JX (.str t) (ws.map D.str) G=some (ws.any (·==t)):=by
 have e1:jN G deep (.str t)=some (.str t):=rfl
 unfold JX
 rw [e1,nX]
 dsimp only
 have c1:(aby t).canLay0=true:=by simpa [Z5] using h
 have c3:min (aau (ws.map aby)) (aby t).depth≤580:=by
  have:(aby t).depth≤580:=by simp [ZL]
  nofun
 rw [if_pos (by rw [c1,hw];simpa using c3)]
 simp only [List.any_map]
 congr 1
theorem good_add {a b:Str} (ha:YC a=true) (hb:YC b=true):YC (a++b)=true:=by
 have e:(a++b).cps=a.cps++b.cps:=rfl
 unfold YC at *
 rw [e,Array.all_append,ha,hb];rfl
theorem uE (a b:Str):(a++b).length=a.length+b.length:=by
 show (a.cps++b.cps).size=a.cps.size+b.cps.size
 simp
theorem j4 {α:Type} {xs:List α} {i:Int} (h0:0≤i) (h1:i<xs.length):∃ v,kB xs i=some v∧xs[i.toNat]?=some v:=by
 have hi:i.toNat<xs.length:=by nofun
 refine ⟨xs[i.toNat],?_,YD hi⟩
 have:=dQ (xs:=xs) (j:=i.toNat) (v:=xs[i.toNat]) (YD hi)
 rwa [show ((i.toNat:Nat):Int)=i by nofun] at this
theorem MF (z:Str) (i:Int) (G:DH) (h0:0≤i) (h1:i<z.length) (hz:z.length≤1000) (hok:YC z=true):∃ s,bg (.str z) (.int i) G=.ok (.str s) G∧YC s=true∧s.length=1:=by
 have hs:z.length≤Yx:=lz (by nofun)
 have hl:z.length=z.cps.toList.length:=by simp [Str.length]
 have hi:i.toNat<z.cps.toList.length:=by nofun
 obtain ⟨c,e,ec⟩:=j4 (xs:=z.cps.toList) (i:=i) h0 (by nofun)
 refine ⟨⟨#[c]⟩,?_,?_,rfl⟩
 ·simp only [bg,aD,if_pos hs,e]
 ·have h2:z.cps.toList.all (·<0x110000)=true:=by simpa [YC] using hok
  have:=aaY.mp h2 _ (Zi ec)
  simpa [YC] using this
theorem jw {j:Int} (h0:0≤j) (h1:j<100000):eT [.int j]=some ((Y8 0 j.toNat).map λ(k:Nat)=>.int (0+(k:Int))):=by
 show (if -(2^62)≤j∧j<2^62 then some ((Y9 j.toNat).map λ(k:Nat)=>D.int (0+(k:Int))) else none)=_
 rw [if_pos ⟨by nofun,by nofun⟩,List.range_eq_range']
noncomputable def Res.sq (r:Res) (k:MS):Res:=match r with
 | .nx τ G=>k τ G
 | r=>r
noncomputable def Out.cs (r:Out Bool) (a b:MS) (τ:DS):Res:=match r with
 | .stuck=>.stuck
 | .ok c G=>if c=true then a τ G else b τ G
 | .bC c G=>.xn c τ G
noncomputable def Out.st (r:Out D) (i:Nat) (τ:DS):Res:=match r with
 | .stuck=>.stuck
 | .ok d G=>.nx (τ.set i (some d)) G
 | .bC c G=>.xn c τ G
noncomputable def Out.xp (r:Out D) (τ:DS):Res:=match r with
 | .stuck=>.stuck
 | .ok d G=>.nx τ G
 | .bC c G=>.xn c τ G
noncomputable def Out.rn (r:Out D) (τ:DS):Res:=match r with
 | .stuck=>.stuck
 | .ok d G=>.rt d G
 | .bC c G=>.xn c τ G
noncomputable def Out.bd {α β:Type} (r:Out α) (k:α→M β):Out β:=match r with
 | .stuck=>.stuck
 | .ok a G=>k a G
 | .bC c G=>.bC c G
noncomputable def Out.sb {α:Type} (r:Out α) (τ:DS) (k:α→DH→Res):Res:=match r with
 | .stuck=>.stuck
 | .ok a G=>k a G
 | .bC c G=>.xn c τ G
noncomputable def Res.fn (r:Res):Out D:=match r with
 | .stuck=>.stuck
 | .nx _ G'=>.ok .dP G'
 | .rt d G'=>.ok d G'
 | .bk _ _=>.stuck
 | .ct _ _=>.stuck
 | .xn c _ G'=>.bC c G'
noncomputable def Res.lp (r:Res) (k:MS):Res:=match r with
 | .nx τ G=>k τ G
 | .ct τ G=>k τ G
 | .bk τ G=>.nx τ G
 | r=>r
noncomputable def Sy (m k:MS):MS:=λτ G=>(m τ G).lp k
section
variable {m k:MS} {t ta tb:DS→M Bool} {a b:MS} {τ:DS} {G:DH} {e ma mb mo:DS→M D} {i n:Nat} {d:D} {c:XD} {α β:Type} {ml:DS→M (List D)} {f:D→D→M D} {fl:List D→M D}
@[simp] theorem aT:aG m k τ G=(m τ G).sq k:=by
 unfold aG Res.sq
 cases m τ G<;>rfl
@[simp] theorem bJ:(Res.nx τ G).sq k=k τ G:=YH rfl rfl
@[simp] theorem wO:(Res.rt d G).sq k=.rt d G:=YH rfl rfl
@[simp] theorem Ug:Res.stuck.sq k=.stuck:=YH rfl rfl
@[simp] theorem Uh:(Res.bk τ G).sq k=.bk τ G:=YH rfl rfl
@[simp] theorem Ui:(Res.ct τ G).sq k=.ct τ G:=YH rfl rfl
@[simp] theorem Uj:(Res.xn c τ G).sq k=.xn c τ G:=YH rfl rfl
@[simp] theorem iA:jZ t a b τ G=(t τ G).cs a b τ:=by
 unfold jZ bL Out.cs
 cases t τ G<;>rfl
@[simp] theorem uF:(Out.ok true G).cs a b τ=a τ G:=YH rfl rfl
@[simp] theorem uG:(Out.ok false G).cs a b τ=b τ G:=YH rfl rfl
@[simp] theorem VJ:(Out.bC c G).cs a b τ=.xn c τ G:=YH rfl rfl
@[simp] theorem bG:aJ i e τ G=(e τ G).st i τ:=by
 unfold aJ bL Out.st
 cases e τ G<;>rfl
@[simp] theorem cS:(Out.ok d G).st i τ=.nx (τ.set i (some d)) G:=YH rfl rfl
@[simp] theorem VL:(Out.bC c G).st i τ=.xn c τ G:=YH rfl rfl
@[simp] theorem iB:gR e τ G=(e τ G).xp τ:=by
 unfold gR bL Out.xp
 cases e τ G<;>rfl
@[simp] theorem j5:(Out.ok d G).xp τ=.nx τ G:=YH rfl rfl
@[simp] theorem VM:(Out.bC c G).xp τ=.xn c τ G:=YH rfl rfl
@[simp] theorem eU:cN e τ G=(e τ G).rn τ:=by
 unfold cN bL Out.rn
 cases e τ G<;>rfl
@[simp] theorem gx:(Out.ok d G).rn τ=.rt d G:=YH rfl rfl
@[simp] theorem VN:(Out.bC c G).rn τ=.xn c τ G:=YH rfl rfl
@[simp] theorem kI:cg τ G=.nx τ G:=YH rfl rfl
@[simp] theorem Q5:OT τ G=.rt .dP G:=YH rfl rfl
@[simp] theorem aj {x:α} {q:α→M β}:(Out.ok x G).bd q=q x G:=YH rfl rfl
@[simp] theorem VO {q:α→M β}:(Out.bC c G).bd q=.bC c G:=YH rfl rfl
@[simp] theorem VP {q:α→M β}:(Out.stuck (α:=α)).bd q=.stuck:=YH rfl rfl
@[simp] theorem ah {mm:M α} {q:α→M β}:M.bind mm q G=(mm G).bd q:=by
 unfold M.bind Out.bd
 cases mm G<;>rfl
@[simp] theorem aN {x:α}:M.ret x G=.ok x G:=YH rfl rfl
@[simp] theorem Sz:(M.stop (α:=α)) G=.stuck:=YH rfl rfl
@[simp] theorem aQ:af i τ G=match τ[i]? with
 | some (some d)=>.ok d G
 | _=>.stuck:=YH rfl rfl
@[simp] theorem cJ:eC d τ G=.ok d G:=YH rfl rfl
@[simp] theorem aX:ao f ma mb τ G=(ma τ G).bd λx=>(mb τ).bind λy=>f x y:=ah
@[simp] theorem aY:ak fl ml τ G=(ml τ G).bd fl:=ah
@[simp] theorem aI:ai τ G=.ok [] G:=YH rfl rfl
@[simp] theorem aA:aa ma ml τ G=(ma τ G).bd λx=>(ml τ).bind λxs=>M.ret (x::xs):=ah
noncomputable def Pn:D→M Bool
 | .bl b=>M.ret b
 | _=>M.stop
@[simp] theorem gy:g8 e τ G=(e τ G).bd Pn:=by
 unfold g8
 rw [ah]
 unfold Out.bd
 cases e τ G<;>try rfl
@[simp] theorem eV {b:Bool}:Pn (.bl b) G=.ok b G:=YH rfl rfl
@[simp] theorem p9 {q:D→M Bool}:jY q e τ G=(e τ G).bd q:=ah
@[simp] theorem Ag:Dl t τ G=(t τ G).bd λc=>M.ret (!c):=ah
@[simp] theorem D4:G9 ta tb τ G=(ta τ G).bd λc=>if c=true then M.ret true else tb τ:=ah
@[simp] theorem Q6:z9 ta tb τ G=(ta τ G).bd λc=>if c=true then tb τ else M.ret false:=ah
@[simp] theorem D5 {y:Ty}:Hv y e τ G=(e τ G).bd (oB y):=ah
@[simp] theorem bO {mf:List D→M D}:aq n mf ml τ G=(ml τ G).bd λds=>if ds.length=n then mf ds else M.stop:=ah
@[simp] theorem gj {T:String} {g:D→List D→M D}:cO T g mo ml τ G=(mo τ G).bd λd G=>if dB T G d=true then (ml τ G).bd (g d) else .stuck:=by
 unfold cO
 rw [ah]
 unfold Out.bd
 cases mo τ G with
 | stuck=>rfl
 | bC c G=>rfl
 | ok d G'=>simp only [ah];rfl
@[simp] theorem Uk:Va t ma mb τ G=(t τ G).bd λc=>if c=true then ma τ else mb τ:=ah
@[simp] theorem m5 {A2:List D→Option (List D)} {g:jT} {body:MS}:dR A2 g ml body τ G=(ml τ G).sb τ λds G=>match A2 ds with
  | some xs=>bI g body xs τ G
  | none=>.stuck:=by
 unfold dR bL Out.sb
 cases ml τ G<;>rfl
@[simp] theorem j6 {g:jT} {body:MS}:fD g e body τ G=(e τ G).sb τ λd G=>match d with
  | .obj n=>match G[n]? with
   | some (.lst xs)=>uz g body n (xs.length+1) 0 τ G
   | _=>.stuck
  | .tup xs=>bI g body xs τ G
  | .con xs=>bI g body xs τ G
  | .str z=>bI g body (z.cps.toList.map λc=>.str ⟨#[c]⟩) τ G
  | _=>.stuck:=by
 unfold fD bL Out.sb
 cases e τ G<;>rfl
@[simp] theorem l5 {g:jT} {mi:MI} {body:MS}:iz g mi body τ G=(mi τ G).sb τ λx G=>iW g body x.2 x.1 0 τ G:=by
 unfold iz bL Out.sb
 cases mi τ G<;>rfl
@[simp] theorem iY {x:α} {q:α→DH→Res}:(Out.ok x G).sb τ q=q x G:=YH rfl rfl
@[simp] theorem VQ {q:α→DH→Res}:(Out.bC c G).sb τ q=.xn c τ G:=YH rfl rfl
@[simp] theorem gD {gO:D→Option (List D)} {ks:List Bool} {tt:DS→M Bool} {te:DS→M D}:cj gO ks e tt te τ G=(e τ G).bd λd G=>match d with
  | .obj k=>match G[k]? with
   | some (.lst xs)=>nW gO ks tt te G.length k (xs.length+1) 0 τ (G++[.lst []])
   | _=>.stuck
  | .tup xs=>cz gO ks tt te G.length xs τ (G++[.lst []])
  | .con xs=>cz gO ks tt te G.length xs τ (G++[.lst []])
  | .str z=>cz gO ks tt te G.length (z.cps.toList.map λc=>.str ⟨#[c]⟩) τ (G++[.lst []])
  | _=>.stuck:=ah
@[simp] theorem qe {A2:List D→Option (List D)} {gO:D→Option (List D)} {ks:List Bool} {tt:DS→M Bool} {te:DS→M D}:cF A2 gO ks ml tt te τ G=(ml τ G).bd λds G=>match A2 ds with
  | some xs=>cz gO ks tt te G.length xs τ (G++[.lst []])
  | none=>.stuck:=ah
@[simp] theorem qf {gO:D→Option (List D)} {ks:List Bool} {mi:MI} {tt:DS→M Bool} {te:DS→M D}:dY gO ks mi tt te τ G=(mi τ G).bd λx G=>iX gO ks tt te G.length x.2 x.1 0 τ (G++[.lst []]):=ah
@[simp] theorem f6 {ds:List D}:cI n m ds G=(m (ds.map some++YV (n - ds.length) none) G).fn:=by
 unfold cI Res.fn
 cases m (ds.map some++YV (n - ds.length) none) G<;>rfl
@[simp] theorem Ul:(Res.nx τ G).fn=.ok .dP G:=YH rfl rfl
@[simp] theorem gz:(Res.rt d G).fn=.ok d G:=YH rfl rfl
@[simp] theorem VR:(Res.xn c τ G).fn=.bC c G:=YH rfl rfl
@[simp] theorem sY {lo hi:DS→M (Option Int)}:jo e lo hi τ G=(e τ G).bd λd=>(lo τ).bind λl=>(hi τ).bind λh=>yo d l h:=ah
@[simp] theorem oV:cL τ G=.ok none G:=YH rfl rfl
noncomputable def J6:D→M (Option Int)
 | .int i=>M.ret (some i)
 | _=>M.stop
@[simp] theorem iC:bh e τ G=(e τ G).bd J6:=by
 unfold bh
 rw [ah]
 unfold Out.bd
 cases e τ G<;>try rfl
@[simp] theorem kJ {i:Int}:J6 (.int i) G=.ok (some i) G:=YH rfl rfl
noncomputable def Po:D→M D
 | .int i=>M.ret (.int (-i))
 | _=>M.stop
@[simp] theorem uH:lq e τ G=(e τ G).bd Po:=by
 unfold lq
 rw [ah]
 unfold Out.bd
 cases e τ G<;>try rfl
@[simp] theorem uI {i:Int}:Po (.int i) G=.ok (.int (-i)) G:=YH rfl rfl
@[simp] theorem Q7:wM ml τ G=(ml τ G).bd λds=>match ds with
 | [d]=>λG=>match aD G d with
  | some (.lst xs)=>.ok (xs.length+1,fH d) G
  | _=>.stuck
 | _=>M.stop:=ah
@[simp] theorem D6 {lP:Str→Option (List D→M D)}:ju i n lP ml τ G=match τ[i]? with
 | some (some (.fn y))=>match lP y with
  | some mf=>aq n mf ml τ G
  | none=>.stuck
 | _=>.stuck:=YH rfl rfl
@[simp] theorem J7:Sy m k τ G=(m τ G).lp k:=YH rfl rfl
@[simp] theorem cM:(Res.nx τ G).lp k=k τ G:=YH rfl rfl
@[simp] theorem Um:(Res.ct τ G).lp k=k τ G:=YH rfl rfl
@[simp] theorem Pp:(Res.bk τ G).lp k=.nx τ G:=YH rfl rfl
@[simp] theorem Uo:(Res.rt d G).lp k=.rt d G:=YH rfl rfl
@[simp] theorem Up:(Res.xn c τ G).lp k=.xn c τ G:=YH rfl rfl
@[simp] theorem l6:fF t m (n+1) τ G=(t τ G).cs (Sy m (fF t m n)) cg τ:=by
 rw [fF]
 unfold bL Out.cs
 dsimp only
 cases t τ G with
 | stuck=>rfl
 | bC c G=>rfl
 | ok b G'=>
  cases b with
  | false=>rfl
  | true=>
   simp only [if_true]
   unfold Sy Res.lp
   cases m τ G'<;>rfl
theorem cG {body:MS}:bI g body [] τ G=.nx τ G:=YH rfl rfl
theorem aO {body:MS} {x:D} {r:List D} (h:g x τ=some τ1):bI g body (x::r) τ G=(body τ1 G).lp (bI g body r):=by
 rw [bI,h]
 dsimp only
 unfold Res.lp
 cases body τ1 G<;>rfl
theorem MG {body:MS} {x:D} (hx:vw G j=some (some x)) (h:g x τ=some τ1):iW g body vw (fu+1) j τ G=(body τ1 G).lp (iW g body vw fu (j+1)):=by
 rw [iW]
 dsimp only
 rw [hx]
 dsimp only
 rw [h]
 dsimp only
 unfold Res.lp
 cases body τ1 G<;>rfl
theorem D7 {body:MS} (hx:vw G j=some none):iW g body vw (fu+1) j τ G=.nx τ G:=by
 rw [iW]
 dsimp only
 rw [hx]
end
section
variable {m k mb me:MS} {τ:DS} {G:DH} {e:DS→M D} {c:XD} {x:Str} {ml:DS→M (List D)} {d:D}
@[simp] theorem Pq:DE x ml τ G=(ml τ G).sb τ λds G=>if ds.length≤Yx then .xn (.mk x ds) τ G else .stuck:=by
 unfold DE bL Out.sb
 cases ml τ G<;>rfl
@[simp] theorem Uq {f:D→M D}:VE f e τ G=(e τ G).bd f:=ah
end
mutual
noncomputable def D.closed:D→Bool
 | .tup ds=>aH ds
 | .con ds=>aH ds
 | .obj _=>false
 | .yl _ _=>false
 | .jU _ _=>false
 | _=>true
noncomputable def aH:List D→Bool
 | []=>true
 | d::r=>d.closed&&aH r
end
noncomputable def l7 (a b:DH):Bool:=@decide (a=b) (abb _)
theorem m8 (a:DH):l7 a a=true:=@decide_eq_true _ (abb _) rfl
theorem kK (a b:DH) (h:l7 a b=true):a=b:=@of_decide_eq_true _ (abb _) h
section
variable {K:Yz} {mg:Str→Option V3} {H H':Hp} {ρ ρ':List Addr} {G G':DH}
mutual
theorem qg:∀ (d:D) (v:V),d.closed=true→Rep K mg ρ H d v→Rep K mg ρ' H d v
 | .dP,v,c,h=>by unfold Rep at h ⊢;exact h
 | .bl b,v,c,h=>by unfold Rep at h ⊢;exact h
 | .int i,v,c,h=>by unfold Rep at h ⊢;exact h
 | .str x,v,c,h=>by unfold Rep at h ⊢;exact h
 | .tup ds,v,c,h=>by
  unfold Rep at h ⊢
  obtain ⟨a,xs,e,s,r⟩:=h
  exact ⟨a,xs,e,s,fJ ds xs (by simpa [D.closed] using c) r⟩
 | .con ds,v,c,h=>by
  unfold Rep at h ⊢
  obtain ⟨a,xs,e,s,r⟩:=h
  exact ⟨a,xs,e,s,fJ ds xs (by simpa [D.closed] using c) r⟩
 | .obj n,v,c,h=>by simp [D.closed] at c
 | .fn x,v,c,h=>by unfold Rep at h ⊢;exact h
 | .yl _ _,v,c,h=>by simp [D.closed] at c
 | .jU _ _,v,c,h=>by simp [D.closed] at c
theorem fJ:∀ (ds:List D) (vs:List V),aH ds=true→au K mg ρ H ds vs→au K mg ρ' H ds vs
 | [],vs,c,h=>by unfold au at h ⊢;exact h
 | d::ds,vs,c,h=>by
  have c':d.closed=true∧aH ds=true:=by simpa [aH] using c
  unfold au at h ⊢
  obtain ⟨v,r,e,h1,h2⟩:=h
  exact ⟨v,r,e,qg d v c'.1 h1,fJ ds r c'.2 h2⟩
end
mutual
theorem Rep.back (p:∃ r,ρ'=ρ++r):∀ (d:D) (v0 v:V),Rep K mg ρ H d v0→Rep K mg ρ' H' d v→Rep K mg ρ H' d v
 | .dP,v0,v,h0,h=>by unfold Rep at h ⊢;exact h
 | .bl b,v0,v,h0,h=>by unfold Rep at h ⊢;exact h
 | .int i,v0,v,h0,h=>by unfold Rep at h ⊢;exact h
 | .str x,v0,v,h0,h=>by unfold Rep at h ⊢;exact h
 | .tup ds,v0,v,h0,h=>by
  unfold Rep at h0 h ⊢
  obtain ⟨a,xs,e,s,r⟩:=h
  obtain ⟨a0,uJ,e0,s0,r0⟩:=h0
  exact ⟨a,xs,e,s,au.back p ds uJ xs r0 r⟩
 | .con ds,v0,v,h0,h=>by
  unfold Rep at h0 h ⊢
  obtain ⟨a,xs,e,s,r⟩:=h
  obtain ⟨a0,uJ,e0,s0,r0⟩:=h0
  exact ⟨a,xs,e,s,au.back p ds uJ xs r0 r⟩
 | .obj n,v0,v,h0,h=>by
  unfold Rep at h0 h ⊢
  obtain ⟨a,e,q⟩:=h
  obtain ⟨a0,e0,q0⟩:=h0
  obtain ⟨r,rfl⟩:=p
  rw [YQ (Yw.mp q0).1] at q
  exact ⟨a,e,q⟩
 | .fn x,v0,v,h0,h=>by unfold Rep at h ⊢;exact h
 | .yl c as,v0,v,h0,h=>by unfold Rep at h ⊢;exact h
 | .jU y ds,v0,v,h0,h=>by
  unfold Rep at h0 h ⊢
  obtain ⟨k,a,cs,xs,e,q0,q1,q2,r⟩:=h
  obtain ⟨_,_,_,uJ,_,_,_,_,r0⟩:=h0
  exact ⟨k,a,cs,xs,e,q0,q1,q2,au.back p ds uJ xs r0 r⟩
theorem au.back (p:∃ r,ρ'=ρ++r):∀ (ds:List D) (QY vs:List V),au K mg ρ H ds QY→au K mg ρ' H' ds vs→au K mg ρ H' ds vs
 | [],QY,vs,h0,h=>by unfold au at h ⊢;exact h
 | d::ds,QY,vs,h0,h=>by
  unfold au at h0 h ⊢
  obtain ⟨v,r,e,h1,h2⟩:=h
  obtain ⟨v0,r0,e0,Sh,VS⟩:=h0
  exact ⟨v,r,e,Rep.back p d v0 v Sh h1,au.back p ds r0 r VS h2⟩
end
theorem eO.cut (h:eO K mg H ρ G) (p:∃ r,ρ'=ρ++r) (h':eO K mg H' ρ' G') (e:G'.take G.length=G):eO K mg H' ρ G:=by
 refine ⟨h.hl,h.nd,λn o q=>?_⟩
 have hn:n<G.length:=(Yw.mp q).1
 have q':G'[n]?=some o:=by
  rw [← e,List.getElem?_take] at q
  rw [if_pos hn] at q;exact q
 obtain ⟨a0,e0,r0⟩:=h.ob n o q
 obtain ⟨a,e1,r1⟩:=h'.ob n o q'
 have ea:a=a0:=by
  obtain ⟨r,rfl⟩:=p
  rw [YQ (by rw [h.hl];exact hn),e0] at e1
  exact (Zd e1).symm
 subst ea
 refine ⟨a,e0,?_⟩
 cases o with
 | dct kv=>
  obtain ⟨xs,e2,rs⟩:=r1
  obtain ⟨uJ,_,HZ⟩:=r0
  exact ⟨xs,e2,au.back p _ uJ xs HZ rs⟩
 | fV f kv=>
  obtain ⟨xs,e2,rs⟩:=r1
  obtain ⟨uJ,_,HZ⟩:=r0
  exact ⟨xs,e2,au.back p _ uJ xs HZ rs⟩
 | C8 kv=>
  obtain ⟨xs,e2,rs⟩:=r1
  obtain ⟨uJ,_,HZ⟩:=r0
  exact ⟨xs,e2,au.back p _ uJ xs HZ rs⟩
 | lst ds=>
  obtain ⟨xs,e2,rs⟩:=r1
  obtain ⟨uJ,_,HZ⟩:=r0
  exact ⟨xs,e2,au.back p ds uJ xs HZ rs⟩
 | _=>exact r1
theorem oW (e:H a=some (.lst xs)) (ρ:List Addr):bS K H (upd H a (.cy o (.lst xs))) ρ ρ:=by
 refine ⟨λb zs h=>?_,λb q u h=>by rw [av (cD h e (by intro z;cases z))];exact h,⟨[],by simp⟩,λb φ h=>by rw [av (cD h e (by intro z;cases z))];exact h⟩
 ·rw [rW] at h ⊢;rw [av (cD h e (by intro z;cases z))];exact h
theorem eO.cy (h:eO K mg H ρ G) (hn:ρ[n]?=some a) (e:H a=some (.lst xs)):eO K mg (upd H a (.cy o (.lst xs))) ρ (G.set n .dead):=by
 have f:bS K H (upd H a (.cy o (.lst xs))) ρ ρ:=oW e ρ
 refine ⟨by simp [h.hl],h.nd,λm ob q=>?_⟩
 by_cases hm:n=m
 ·subst hm
  rw [Zr,if_pos rfl] at q
  split at q
  ·cases q
   exact ⟨a,hn,_,aM⟩
  ·cases q
 ·rw [Zh hm] at q
  obtain ⟨b,e1,r'⟩:=h.ob m ob q
  have hb:b≠a:=by
   rintro rfl
   obtain ⟨h1,vQ⟩:=Yw.mp hn
   obtain ⟨h2,ym⟩:=Yw.mp e1
   exact hm ((ZE h.nd).mp (vQ.trans ym.symm))
  exact ⟨b,e1,r'.mono f λu q=>by rw [av hb];exact q⟩
end
section
variable {X:Cx} {EE:bW}
theorem Ah (I:Inv X pins σ H s) (e:H a=some (.lst xs)):∃ o,Inv X pins σ (upd H a (.cy o (.lst xs))) s:=by
 obtain ⟨z,its,n,r,hg⟩:=I.hok a _ e
 refine ⟨_,I.un (H':=upd H a (.cy {cls:=.type "list",data:=.seq its.toArray n} (.lst xs))) (h':=s.heap) (t':=s.toks) ⟨λb o q _ _ _=>q,λb o q _ _ _=>⟨o.slots,q⟩,λb o q hn _=>?_,λb o q _=>⟨o,q⟩,λb ys q=>?_,λb o u q=>?_,λb ps q=>⟨#[],?_⟩⟩ λb u q=>?_⟩
 ·rw [av (by rintro rfl;rw [e] at hn;cases hn)];exact hn
 ·rw [av (cD q e (by intro z;cases z))];exact q
 ·rw [av (cD q e (by intro z;cases z))];exact q
 ·rw [av (cD q e (by intro z;cases z)),q];simp
 ·have ho:∀ c y,H c=some (.own y)→upd H a (.cy {cls:=.type "list",data:=.seq its.toArray n} (.lst xs)) c=some (.own y):=λc y w=>by rw [av (cD w e (by intro z;cases z))];exact w
  have ht:∀ c ys,H c=some (.tup ys)→upd H a (.cy {cls:=.type "list",data:=.seq its.toArray n} (.lst xs)) c=some (.tup ys):=λc ys w=>by rw [av (cD w e (by intro z;cases z))];exact w
  by_cases hb:b=a
  ·subst hb
   rw [aM] at q;cases q
   exact ⟨hg,(I.hok b _ e).stay (λ_ _ _ w=>w) (λc w=>ho c b w) ht⟩
  ·rw [av hb] at q
   exact (I.hok b u q).stay (λ_ _ _ w=>w) (λc w=>ho c b w) ht
noncomputable def yp (m:DS→M D):DS→M D:=λτ G=>match m τ G with
 | .ok (.obj n) G'=>match G'[n]? with
  | some (.lst ds)=>.ok (.con ds) (G'.set n .dead)
  | _=>.stuck
 | r=>r
noncomputable def eFn (m:DS→M D):DS→M D:=λτ G=>match m τ G with
 | .ok (.obj n) G'=>match G'[n]? with
  | some (.lst ds)=>if n=G.length∧G'.length=n+1∧l7 (G'.take G.length) G=true∧aH ds=true then .ok (.con ds) G else .stuck
  | _=>.stuck
 | r=>r
theorem D8 {Q Q':VK} {u:V3} (h:EP X pins σ Q' u s) (hq:∀ v H',Q' v H'→Q v H'∨∃ a xs,v=.ref a∧H' a=some (.lst xs)∧∀ o,Q v (upd H' a (.cy o (.lst xs)))):EP X pins σ Q u s:=by
 obtain ⟨v,H',I,r,q⟩:=h
 rcases hq v H' q with q | ⟨a,xs,rfl,e,q⟩
 ·exact ⟨v,H',I,r,q⟩
 ·obtain ⟨o,I'⟩:=Ah I e
  exact ⟨_,_,I',r,q o⟩
theorem Pu {m:DS→M D} (ha:QE X EE e m):QE X EE e (yp m):=by
 intro pins s σ H Q I zu
 obtain ⟨τ,ρ,G,ab,ok⟩:=zu
 dsimp only [yp] at ok
 cases q:m τ G with
 | stuck=>rw [q] at ok;exact ok.elim
 | bC c G'=>rw [q] at ok;exact ha pins s σ H Q I ⟨τ,ρ,G,ab,by rw [q];exact ok⟩
 | ok d G'=>
  rw [q] at ok
  by_cases hd:∃ n,d=.obj n
  ·obtain ⟨n,rfl⟩:=hd
   dsimp only at ok
   cases g:G'[n]? with
   | none=>rw [g] at ok;exact ok.elim
   | some o=>
    rw [g] at ok
    cases o with
    | lst ds=>
     refine dh (ha pins s σ H (λv H'=>∃ a xs,v=.ref a∧H' a=some (.lst xs)∧∀ o,Q v (upd H' a (.cy o (.lst xs)))) I ⟨τ,ρ,G,ab,?_⟩) λu s' h=>D8 h λv H' q=>.inr q
     rw [q]
     intro v H' ρ' f bu r
     unfold Rep at r
     obtain ⟨a,rfl,hn⟩:=r
     obtain ⟨a',xs,e1,e2,rs⟩:=bu.hp.lst g
     rw [hn] at e1;cases e1
     refine ⟨a,xs,rfl,e2,λob=>?_⟩
     have f2:bS X.K H' (upd H' a (.cy ob (.lst xs))) ρ' ρ':=oW e2 ρ'
     refine ok _ _ ρ' (f.trans f2) ⟨bu.st.mono f2,bu.hp.cy hn e2⟩ ?_
     unfold Rep
     exact ⟨a,xs,rfl,.inl ⟨ob,aM⟩,rs.mono f2⟩
    | _=>exact ok.elim
  ·have ok':iQ X.K X.mg EE H σ τ ρ (.ok d G') Q:=by
    cases d<;>first | exact ok | exact absurd ⟨_,rfl⟩ hd
   exact ha pins s σ H Q I ⟨τ,ρ,G,ab,by rw [q];exact ok'⟩
theorem MH {m:DS→M D} (ha:QE X EE e m):QE X EE e (eFn m):=by
 intro pins s σ H Q I zu
 obtain ⟨τ,ρ,G,ab,ok⟩:=zu
 dsimp only [eFn] at ok
 cases q:m τ G with
 | stuck=>rw [q] at ok;exact ok.elim
 | bC c G'=>rw [q] at ok;exact ha pins s σ H Q I ⟨τ,ρ,G,ab,by rw [q];exact ok⟩
 | ok d G'=>
  rw [q] at ok
  by_cases hd:∃ n,d=.obj n
  ·obtain ⟨n,rfl⟩:=hd
   dsimp only at ok
   cases g:G'[n]? with
   | none=>rw [g] at ok;exact ok.elim
   | some o=>
    rw [g] at ok
    cases o with
    | lst ds=>
     dsimp only at ok
     by_cases hc:n=G.length∧G'.length=n+1∧l7 (G'.take G.length) G=true∧aH ds=true
     ·rw [if_pos hc] at ok
      obtain ⟨hn0,hl,hb,hcl⟩:=hc
      refine dh (ha pins s σ H (λv H'=>∃ a xs,v=.ref a∧H' a=some (.lst xs)∧∀ o,Q v (upd H' a (.cy o (.lst xs)))) I ⟨τ,ρ,G,ab,?_⟩) λu s' h=>D8 h λv H' q=>.inr q
      rw [q]
      intro v H' ρ' f bu r
      unfold Rep at r
      obtain ⟨a,rfl,hn⟩:=r
      obtain ⟨a',xs,e1,e2,rs⟩:=bu.hp.lst g
      rw [hn] at e1;cases e1
      refine ⟨a,xs,rfl,e2,λob=>?_⟩
      have f2:bS X.K H' (upd H' a (.cy ob (.lst xs))) ρ' ρ':=oW e2 ρ'
      have f3:bS X.K H (upd H' a (.cy ob (.lst xs))) ρ ρ:=⟨λb ys w=>f2.tup b ys (f.tup b ys w),λb o u w=>f2.cy b o u (f.cy b o u w),⟨[],by simp⟩,λb φ w=>f2.ext b φ (f.ext b φ w)⟩
      have hp2:=bu.hp.cy (o:=ob) hn e2
      have qh:eO X.K X.mg (upd H' a (.cy ob (.lst xs))) ρ G:=ab.hp.cut f.pre hp2 (by
       rw [ac2 (by nofun)]
       exact kK _ _ hb)
      refine ok _ _ ρ f3 ⟨ab.st.mono f3,qh⟩ ?_
      unfold Rep
      exact ⟨a,xs,rfl,.inl ⟨ob,aM⟩,fJ ds xs hcl (rs.mono f2)⟩
     ·rw [if_neg hc] at ok;exact ok.elim
    | _=>exact ok.elim
  ·have ok':iQ X.K X.mg EE H σ τ ρ (.ok d G') Q:=by
    cases d<;>first | exact ok | exact absurd ⟨_,rfl⟩ hd
   exact ha pins s σ H Q I ⟨τ,ρ,G,ab,by rw [q];exact ok'⟩
end
noncomputable def ck (m:List D→M D):List D→M D:=λds G=>match m ds G with
 | .ok d G'=>if l7 (G'.take G.length) G=true∧d.closed=true then .ok d G else .stuck
 | .bC c G'=>if l7 (G'.take G.length) G=true then .bC c G else .stuck
 | .stuck=>.stuck
noncomputable def qk (m:List D→M D):List D→M D:=λds G=>match m ds G with
 | .ok (.obj n) G'=>match G'[n]? with
  | some (.lst xs)=>if l7 (G'.take G.length) G=true∧G.length≤n∧aH xs=true then .ok (.obj G.length) (G++[.lst xs]) else .stuck
  | _=>.stuck
 | .bC c G'=>if l7 (G'.take G.length) G=true then .bC c G else .stuck
 | _=>.stuck
section
variable {K:Yz} {mg:Str→Option V3} {n:Nat} {m:List D→M D}
theorem l8 (f:bS K H H' ρ ρ'):bS K H H' ρ ρ:=⟨f.tup,f.cy,⟨[],by simp⟩,f.ext⟩
theorem uK (vs:List V) (H:Hp) (Q:VK) (E:XK) (h:gB K mg n (ck m) vs H Q E):gB K mg n m vs H Q E:=by
 obtain ⟨ds,ρ,G,hl,hp,rs,ok⟩:=h
 refine ⟨ds,ρ,G,hl,hp,rs,?_⟩
 dsimp only [ck] at ok
 cases q:m ds G with
 | stuck=>rw [q] at ok;exact ok
 | ok d G'=>
  rw [q] at ok
  dsimp only at ok
  by_cases hc:l7 (G'.take G.length) G=true∧d.closed=true
  ·rw [if_pos hc] at ok
   intro v H' ρ' f vS r
   exact ok v H' ρ (l8 f) (hp.cut f.pre vS (kK _ _ hc.1)) (qg d v hc.2 r)
  ·rw [if_neg hc] at ok;exact ok.elim
 | bC c G'=>
  rw [q] at ok
  dsimp only at ok
  by_cases hc:l7 (G'.take G.length) G=true
  ·rw [if_pos hc] at ok
   intro cls H' ρ' hcl f vS
   exact ok cls H' ρ hcl (l8 f) (hp.cut f.pre vS (kK _ _ hc))
  ·rw [if_neg hc] at ok;exact ok.elim
theorem D9 (vs:List V) (H:Hp) (Q:VK) (E:XK) (h:gB K mg n (qk m) vs H Q E):gB K mg n m vs H Q E:=by
 obtain ⟨ds,ρ,G,hl,hp,rs,ok⟩:=h
 refine ⟨ds,ρ,G,hl,hp,rs,?_⟩
 dsimp only [qk] at ok
 cases q:m ds G with
 | stuck=>rw [q] at ok;exact ok
 | bC c G'=>
  rw [q] at ok
  dsimp only at ok
  by_cases hc:l7 (G'.take G.length) G=true
  ·rw [if_pos hc] at ok
   intro cls H' ρ' hcl f vS
   exact ok cls H' ρ hcl (l8 f) (hp.cut f.pre vS (kK _ _ hc))
  ·rw [if_neg hc] at ok;exact ok.elim
 | ok d G'=>
  rw [q] at ok
  cases d<;>try exact ok.elim
  rename_i k
  dsimp only at ok
  cases g:G'[k]? with
  | none=>rw [g] at ok;exact ok.elim
  | some o=>
   rw [g] at ok
   cases o with
   | lst xs=>
    dsimp only at ok
    by_cases hc:l7 (G'.take G.length) G=true∧G.length≤k∧aH xs=true
    ·rw [if_pos hc] at ok
     intro v H' ρ' f vS r
     unfold Rep at r
     obtain ⟨a,rfl,hn⟩:=r
     obtain ⟨a',ys,e1,e2,rs'⟩:=vS.lst g
     rw [hn] at e1;cases e1
     have hp2:=hp.cut f.pre vS (kK _ _ hc.1)
     have hna:a∉ρ:=by
      intro hm
      obtain ⟨j,hj,ej⟩:=aad hm
      obtain ⟨r,rfl⟩:=f.pre
      obtain ⟨h1,vQ⟩:=Yw.mp hn
      have hjl:j<(ρ++r).length:=by simp;nofun
      have:(ρ++r)[j]=(ρ++r)[k]:=by rw [vQ,List.getElem_append_left hj,ej]
      have:=(ZE vS.nd).mp this
      have:=hp.hl
      nofun
     refine ok (.ref a) H' (ρ++[a]) ((l8 f).trans (cE ρ a)) ?_ (by unfold Rep;exact ⟨a,rfl,by rw [← hp.hl];simp⟩)
     refine ⟨by simp [hp.hl],?_,λj ob e=>?_⟩
     ·rw [ZS]
      refine ⟨hp.nd,by simp,λx hx y hy=>?_⟩
      have e:y=a:=by simpa using hy
      subst e
      rintro rfl
      exact hna hx
     ·by_cases hj:j<G.length
      ·rw [YQ hj] at e
       obtain ⟨b,e3,r3⟩:=hp2.ob j ob e
       exact ⟨b,(cE (K:=K) (H:=H') ρ a).get e3,r3.mono (cE ρ a) λu q=>q⟩
      ·have hl2:j<(G++[DO.lst xs]).length:=(Yw.mp e).1
       have hj':j=G.length:=by simp at hl2;nofun
       subst hj'
       rw [aB] at e
       cases e
       exact ⟨a,by rw [← hp.hl,aB],ys,e2,fJ xs ys hc.2.2 rs'⟩
    ·rw [if_neg hc] at ok;exact ok.elim
   | _=>exact ok.elim
end
noncomputable def sA (K:Yz) (a:Addr) (n:Nat):It:=
 ⟨λi H=>∃ xs x,lN K H a xs∧xs.length=n∧i<n∧xs[n - 1 - i]?=some x,λi H y H'=>H'=H∧∀ xs,lN K H a xs→xs[n - 1 - i]?=some y,λi H=>i=n⟩
theorem Ea (a it:Addr) (n:Nat):Turn P w K tg (sA K a n) [it] it (λi h=>h.IsRevIter it a ((n:Int) - 1 - (i:Int))) where
 mem:=by simp
 obj:=λi h st b hb=>by
  have e:b=it:=by simpa using hb
  subst e
  obtain ⟨o,e,c,d⟩:=st
  exact ⟨o,e,λv z=>by rw [d] at z;cases z⟩
 keep:=λi h h' st k=>st.at λo e=>k it (by simp) o e
 item:=by
  intro X hP hw hK hc i pins s σ H E I hf st hg
  subst hP hw hK
  obtain ⟨xs,x,hq,hn,hi,hx⟩:=hg
  obtain ⟨its,rv,p,hz⟩:=I.list hq
  obtain ⟨u,hu,ru⟩:=rv.get hx
  obtain ⟨f0,f1,f2,f3,f4,f5⟩:=hf it (by simp)
  have e:(n:Int) - 1 - (i:Int)=((n - 1 - i:Nat):Int):=by nofun
  rw [e] at st
  refine wpAny_pyNext_rev_item st p.isList (x:=u) (by simpa using hu) λh' st' sb=>?_
  have I1:Inv X pins σ H {s with heap:=h'}:=I.turned (t':=s.toks) (λb o hb e=>(sb.2 b hb).trans e) f0 f1 f3 f4 f5
  have e2:((n - 1 - i:Nat):Int) - 1=(n:Int) - 1 - ((i+1:Nat):Int):=by nofun
  rw [e2] at st'
  obtain ⟨o,e,c,d⟩:=id st'
  exact ⟨u,rfl,nP (s:={s with heap:=h'}) e c d (by decide) ⟨x,H,I1,ru,⟨rfl,λys hy=>by rw [I.pC hy hq];exact hx⟩,st',λb hb=>(hf b hb).1⟩⟩
 done:=by
  intro X hP hw hK hc i pins s σ H E I hf st hg
  subst hP hw hK
  have hi:i=n:=hg
  subst hi
  obtain ⟨f0,f1,f2,f3,f4,f5⟩:=hf it (by simp)
  rw [show (i:Int) - 1 - (i:Int)=-1 by nofun] at st
  exact wpAny_pyNext_rev_end (I.ok.hd hc) st λh' eb=>⟨rfl,I.turned (t':=s.toks) (λb o hb e=>eb b o hb e) f0 f1 f3 f4 f5⟩
 self:=λ_ _ _ _ _ st h=>abH st h
noncomputable def yU (d:D) (n:Nat):View:=λG i=>match aD G d with
 | some (.lst xs)=>if xs.length=n then (if i=n then some none else if i<n then some xs[n - 1 - i]? else none) else none
 | _=>none
noncomputable def Eb (m:DS→M (List D)):MI:=λτ=>(m τ).bind λds=>match ds with
 | [d]=>λG=>match aD G d with
  | some (.lst xs)=>.ok (xs.length+1,yU d xs.length) G
  | _=>.stuck
 | _=>M.stop
section
variable {X:Cx} {EE:bW} {tg iter a b:Expr} {g:jT} {mi:MI} {ms:MS} {pos p pc:Pos} {m:DS→M (List D)}
theorem MJ {G':DH} {d:D} {ws:List D} (f:bS X.K H H' ρ ρ') (rx:Rep X.K X.mg ρ H d (.ref l)) (hp:eO X.K X.mg H' ρ' G') (q:aD G' d=some (.lst ws)):∃ xs,lN X.K H' l xs∧au X.K X.mg ρ' H' ws xs:=by
 have Q8:=rx.mono f
 cases d with
 | con ds=>
  cases q
  unfold Rep at Q8
  obtain ⟨a',xs,e,s,r⟩:=Q8
  cases e
  exact ⟨xs,s.seq,r⟩
 | obj n=>
  unfold Rep at Q8
  obtain ⟨a',e,r⟩:=Q8
  cases e
  dsimp only [aD] at q
  cases g:G'[n]? with
  | none=>rw [g] at q;cases q
  | some o=>
   cases o with
   | lst ys=>
    rw [g] at q;cases q
    obtain ⟨a',xs,e1,e2,rs⟩:=hp.lst g
    rw [r] at e1;cases e1
    exact ⟨xs,.inl (.of e2),rs⟩
   | _=>rw [g] at q;cases q
 | _=>cases q
theorem MK {d:D} (rx:Rep X.K X.mg ρ H d (.ref l)):JV X.K X.mg (sA X.K l n) (yU d n) H ρ:=by
 intro i H' ρ' G' f hp
 unfold yU
 cases q:aD G' d with
 | none=>exact ⟨λe=>(by cases e),λx e=>(by cases e)⟩
 | some sk=>
  cases sk with
  | tup zs=>exact ⟨λe=>(by cases e),λx e=>(by cases e)⟩
  | str z=>exact ⟨λe=>(by cases e),λx e=>(by cases e)⟩
  | lst zs=>
   dsimp only
   by_cases hn:zs.length=n
   ·rw [if_pos hn]
    by_cases hi:i=n
    ·rw [if_pos hi]
     exact ⟨λ_=>hi,λx e=>(by cases e)⟩
    ·rw [if_neg hi]
     by_cases hlt:i<n
     ·rw [if_pos hlt]
      obtain ⟨xs,sq,rs⟩:=MJ f rx hp q
      refine ⟨λe=>?_,λx e=>?_⟩
      ·have:=Zd e
       rw [Zv] at this
       nofun
      ·have e':=Zd e
       obtain ⟨v,hv,rv⟩:=rs.get e'
       refine ⟨⟨xs,v,sq,by rw [← rs.length];exact hn,hlt,hv⟩,λy H2 hy=>?_⟩
       obtain ⟨rfl,hy⟩:=hy
       have:=hy xs sq
       rw [hv] at this;cases this
       exact ⟨⟨.refl,λ_ h=>h⟩,rv⟩
     ·rw [if_neg hlt];exact ⟨λe=>(by cases e),λx e=>(by cases e)⟩
   ·rw [if_neg hn];exact ⟨λe=>(by cases e),λx e=>(by cases e)⟩
theorem ML (hm:X.mg "reversed"=none) (oR:Gl X "reversed") (ha:QA X EE [a] m) (h:az [a]=true:=by rfl):QI X EE tg (.Call (.Name "reversed" p) [a] [] pc) (Eb m):=by
 have h':br a=true∧az []=true:=by simpa [az] using h
 intro pins s σ H R I hq
 obtain ⟨τ,ρ,G,ab,ok⟩:=hq
 dsimp only [Eb,M.bind] at ok
 refine Ze (fO I oR hm pZ ?_ (by decide) (by decide))
 have hA:iu X.K X.mg EE m σ H λvs H1=>∃ ρ1 G1 ds,Ab X.K X.mg σ H1 τ ρ1 G1∧bS X.K H H1 ρ ρ1∧au X.K X.mg ρ1 H1 ds vs∧m τ G=.ok ds G1:=by
  refine ⟨τ,ρ,G,ab,?_⟩
  cases e:m τ G with
  | stuck=>rw [e] at ok;exact ok
  | bC c G'=>rw [e] at ok;exact ok
  | ok ds G'=>exact λvs H' ρ' f bu r=>⟨ρ',G',ds,bu,f,r,rfl⟩
 refine Zb (dh (ha pc pins s σ H _ I hA) λus s1 oO=>?_) (aP h'.1 _ _) (bw (es:=[]) rfl)
 obtain ⟨vs,H1,I1,r1,ρ1,G1,ds,fM,f1,rs,em⟩:=oO
 rw [em] at ok
 dsimp only at ok
 match ds,rs,ok with
 | [],_,ok=>exact ok.elim
 | _::_::_,_,ok=>exact ok.elim
 | [d],rs,ok=>
  obtain ⟨x,rfl,rx⟩:=iw rs
  obtain ⟨u,rfl,ru⟩:=vals1 r1
  dsimp only at ok
  cases q:aD G1 d with
  | none=>rw [q] at ok;exact ok.elim
  | some sk=>
   rw [q] at ok
   cases sk with
   | tup zs=>exact ok.elim
   | str z=>exact ok.elim
   | lst zs=>
    dsimp only at ok
    obtain ⟨l,ys,rfl,sq,rv⟩:=cB (pins:=pins) (σ0:=σ) (s:=s1) fM.hp rx q
    cases ru
    obtain ⟨its,vv,pl,hz⟩:=I1.list sq
    refine call_reversed_list pl.isList ?_
    have hst:(s1.heap.push (revObj l ((its.toArray.size:Int) - 1))).IsRevIter s1.heap.objs.size l ((its.toArray.size:Int) - 1):=⟨_,YM _ rfl,rfl,rfl⟩
    refine abH (s:={s1 with heap:=s1.heap.push (revObj l ((its.toArray.size:Int) - 1))}) hst ?_
    have I2:Inv X pins σ H1 {s1 with heap:=s1.heap.push (revObj l ((its.toArray.size:Int) - 1))}:=I1.kept (t':=s1.toks) λb o e=>YA _ e
    have hlen:its.toArray.size=zs.length:=by rw [Y3,← vv.length,rv.length]
    refine ⟨s1.heap.objs.size,[s1.heap.objs.size],_,sA X.K l zs.length,H1,rfl,I2,Ea l _ _,?_,λb hb=>?_,ok _ H1 ρ1 f1 fM (MK rx)⟩
    ·show (s1.heap.push (revObj l ((its.toArray.size:Int) - 1))).IsRevIter s1.heap.objs.size l ((zs.length:Int) - 1 - ((0:Nat):Int))
     rw [← hlen]
     simpa using hst
    ·rw [Y7.mp hb]
     exact I1.ou (YE _) (I1.hok.fresh (YE _))
end
noncomputable def Pw (d e:D):View:=λG i=>match aD G d,aD G e with
 | some (.lst xs),some (.lst ys)=>some (match xs[i]?,ys[i]? with
  | some x,some y=>some (.tup [x,y])
  | _,_=>none)
 | _,_=>none
noncomputable def SA (m:DS→M (List D)):MI:=λτ=>(m τ).bind λds=>match ds with
 | [d,e]=>λG=>match aD G d,aD G e with
  | some (.lst xs),some (.lst ys)=>.ok (min xs.length ys.length+1,Pw d e) G
  | _,_=>.stuck
 | _=>M.stop
section
open PyProof.Rows
section
variable {X:Cx} {EE:bW} {a b e:Expr} {ma mb:DS→M D} {pos:Pos}
theorem H8:iR X (binaryOp .Add) (λx y H Q=>∃ l b xs zs,x=.ref l∧y=.ref b∧lN X.K H l xs∧lN X.K H b zs∧xs.length+zs.length≤Yx∧∀ p,H p=none→Q (.ref p) (upd H p (.lst (xs++zs)))):=by
 intro pins s σ H x y v u Q I rx ry h
 obtain ⟨l,b,xs,zs,rfl,rfl,hH,hB,hz,q⟩:=h
 cases rx
 cases ry
 obtain ⟨its,r,⟨o,n,e,c,dn,d⟩,hl⟩:=I.list hH
 obtain ⟨its2,r2,⟨o2,n2,e2,c2,Px,d2⟩,hl2⟩:=I.list hB
 obtain ⟨cls,dd,data,sl⟩:=o
 obtain ⟨Lp,dd2,data2,sl2⟩:=o2
 simp only at c dn d c2 Px d2
 subst c dn d c2 Px d2
 have hlen:=r.length
 have hlen2:=r2.length
 have ea:its.toArray++its2.toArray=(its++its2).toArray:=by simp
 refine concat_meets ⟨_,e,rfl⟩ ⟨_,e2,rfl⟩ noFill_list_add seq_list_add PySem.F.slot_list_add PySem.F.entry_list_add (PySem.F.args_list_add_2 _ _) (list_addW l b its.toArray its2.toArray n n2 _ _ sl sl2 (by simp only [Y3];nofun)) ⟨e,e2,?_⟩
 rw [ea]
 exact ⟨.ref _,_,I.RT (t':=s.toks) (r.append r2) (by rw [YO];nofun),rfl,q _ I.fresh⟩
theorem Ia:iR X (binaryOp .Add) (λx y H Q=>∃ a b ys,x=.ref a∧y=.ref b∧mQ X.K H a []∧mQ X.K H b ys∧Q (.ref b) H):=by
 intro pins s σ H x y v u Q I rx ry h
 obtain ⟨a,b,ys,rfl,rfl,ha,hb,q⟩:=h
 cases rx
 cases ry
 obtain ⟨its,r1,p1,_⟩:=I.tuple ha
 obtain ⟨its2,r2,p2,_⟩:=I.tuple hb
 have e0:its=[]:=by cases r1;rfl
 subst e0
 obtain ⟨⟨cls,dd,data,sl⟩,ho,hc,n,hd⟩:=id p1
 obtain ⟨⟨Lp,dd2,data2,sl2⟩,ho2,hc2,n2,hd2⟩:=id p2
 simp only at hc hd hc2 hd2
 subst hc hd hc2 hd2
 exact concat_meets ⟨_,ho,rfl⟩ ⟨_,ho2,rfl⟩ noFill_tuple_add seq_tuple_add abh aa9 (aa6 _ _)
   (tuple_addW0 a b _ _ n n2 dd dd2 sl sl2 (by simp)) ⟨ho,ho2,⟨.ref b,H,I,rfl,q⟩⟩
noncomputable def m9 (G:DH):D→Option (List D)
 | .con xs=>some xs
 | .obj n=>match G[n]? with
  | some (.lst xs)=>some xs
  | _=>none
 | _=>none
theorem ql {d:D} {xs:List D} (h:m9 G d=some xs):aD G d=some (.lst xs):=by
 cases d with
 | con ys=>cases h;rfl
 | obj n=>
  dsimp only [m9] at h
  dsimp only [aD]
  cases g:G[n]? with
  | none=>rw [g] at h;cases h
  | some o=>
   cases o with
   | lst ys=>rw [g] at h;cases h;rfl
   | _=>rw [g] at h;cases h
 | _=>cases h
noncomputable def aE (d e:D):M D:=λG=>match d,e with
 | .int i,.int j=>.ok (.int (i+j)) G
 | .str i,.str j=>if i.length+j.length≤Yx then .ok (.str (i++j)) G else .stuck
 | .tup [],.tup ys=>.ok (.tup ys) G
 | .tup (x::xs),.tup ys=>bx (x::xs++ys) G
 | d,e=>match m9 G d,m9 G e with
  | some xs,some ys=>aS (xs++ys) G
  | _,_=>.stuck
theorem Ib:iR X (binaryOp .Add) (rD X EE aE):=by
 intro pins s σ0 H x y v u Q I rx ry zu
 obtain ⟨σ,τ,ρ,G,d,e,ab,r1,r2,ok⟩:=zu
 have lists:∀ xs ys,m9 G d=some xs→m9 G e=some ys→iQ X.K X.mg EE H σ τ ρ (aS (xs++ys) G) Q→Y0 (model X.prog X.w) X.A (binaryOp .Add v u) (EP X pins σ0 Q) X.xe s:=λxs ys h1 h2 ok=>by
  obtain ⟨l,vs,rfl,s1,t1⟩:=cB (pins:=pins) (σ0:=σ0) (s:=s) ab.hp r1 (ql h1)
  obtain ⟨l2,ws,rfl,s2,t2⟩:=cB (pins:=pins) (σ0:=σ0) (s:=s) ab.hp r2 (ql h2)
  obtain ⟨hl,q1⟩:=pN ab (t1.append t2) ok
  rw [YO] at hl
  exact H8 pins s σ0 H _ _ v u Q I rx ry ⟨l,l2,vs,ws,rfl,rfl,s1,s2,hl,q1⟩
 have rest:(iQ X.K X.mg EE H σ τ ρ (match m9 G d,m9 G e with
  | some xs,some ys=>aS (xs++ys) G
  | _,_=>.stuck) Q)→Y0 (model X.prog X.w) X.A (binaryOp .Add v u) (EP X pins σ0 Q) X.xe s:=λok=>by
  cases h1:m9 G d with
  | none=>rw [h1] at ok;exact ok.elim
  | some xs=>
   cases h2:m9 G e with
   | none=>rw [h1,h2] at ok;exact ok.elim
   | some ys=>rw [h1,h2] at ok;exact lists xs ys h1 h2 ok
 cases d with
 | int i=>
  cases e with
  | int j=>
   unfold Rep at r1 r2;subst r1 r2
   exact K7 pins s σ0 H _ _ v u Q I rx ry ⟨i,j,rfl,rfl,ok _ H ρ .refl ab (by unfold Rep;rfl)⟩
  | _=>exact rest ok
 | str i=>
  cases e with
  | str j=>
   unfold Rep at r1 r2;subst r1 r2
   dsimp only [aE] at ok
   by_cases h:i.length+j.length≤Yx
   ·rw [if_pos h] at ok
    exact yC pins s σ0 H _ _ v u Q I rx ry ⟨i,j,rfl,rfl,h,ok _ H ρ .refl ab (by unfold Rep;rfl)⟩
   ·rw [if_neg h] at ok;exact ok.elim
  | _=>exact rest ok
 | tup xs=>
  cases e with
  | tup ys=>
   have r2':=r2
   unfold Rep at r1 r2
   obtain ⟨p,vs,rfl,s1,t1⟩:=r1
   obtain ⟨q,ws,rfl,s2,t2⟩:=r2
   cases xs with
   | nil=>
    have hv:vs=[]:=by have:=t1.length;cases vs with | nil=>rfl | cons _ _=>simp at this
    subst hv
    exact Ia pins s σ0 H _ _ v u Q I rx ry ⟨p,q,ws,rfl,rfl,s1,s2,ok _ H ρ .refl ab r2'⟩
   | cons x xs=>
    have ok':iQ X.K X.mg EE H σ τ ρ (bx (x::xs++ys) G) Q:=ok
    have VT:=t1.append t2
    obtain ⟨hl,q1⟩:=pO ab VT ok'
    rw [YO] at hl
    have hv:vs≠[]:=by
     intro z;subst z
     have:=t1.length
     simp at this
    refine GJ pins s σ0 H _ _ v u Q I rx ry ⟨p,q,vs,ws,rfl,rfl,s1,s2,hv,hl,λz=>?_,λz p hp=>q1 p hp⟩
    subst z
    have hy:ys=[]:=by
     have:=t2.length
     cases ys with
     | nil=>rfl
     | cons _ _=>simp at this
    subst hy
    unfold bx at ok'
    split at ok'
    ·exact ok' _ H ρ .refl ab (by rw [Y4];unfold Rep;exact ⟨p,vs,rfl,s1,t1⟩)
    ·exact ok'.elim
  | _=>cases xs<;>exact rest ok
 | _=>exact rest (by cases e<;>exact ok)
theorem Ic (ha:QE X EE a ma) (hb:QE X EE b mb):QE X EE (.BinOp a .Add b pos) (ao aE ma mb):=kX Ib lX ha hb
theorem MM {f:Flow} (h:SP X pins D' f s) (hb:D'.bk=Dd.bk) (hc:D'.ct=Dd.ct) (hr:D'.rt=Dd.rt)
  (hq:∀ σ H,D'.nx σ H→Dd.nx σ H∨∃ a xs,H a=some (.lst xs)∧∀ o,Dd.nx σ (upd H a (.cy o (.lst xs)))):SP X pins Dd f s:=by
 obtain ⟨nx,bk,ct,rt⟩:=D'
 subst hb hc hr
 cases f with
 | next=>
  obtain ⟨σ',H',I,q⟩:=h
  rcases hq σ' H' q with q | ⟨a,xs,e,q⟩
  ·exact ⟨σ',H',I,q⟩
  ·obtain ⟨o,I'⟩:=Ah I e
   exact ⟨σ',_,I',q o⟩
 | _=>exact h
theorem Py {st:Stmt} {m:DS→M D} (hs:QS X EE st (aJ i m)):QS X EE st (aJ i (eFn m)):=by
 intro pins s σ H Dd I zu
 obtain ⟨τ,ρ,G,ab,ok⟩:=zu
 dsimp only [aJ,bL,eFn] at ok
 cases q:m τ G with
 | stuck=>rw [q] at ok;exact ok.elim
 | bC c G'=>rw [q] at ok;exact hs pins s σ H Dd I ⟨τ,ρ,G,ab,by dsimp only [aJ,bL];rw [q];exact ok⟩
 | ok d G'=>
  rw [q] at ok
  by_cases hd:∃ n,d=.obj n
  ·obtain ⟨n,rfl⟩:=hd
   dsimp only at ok
   cases g:G'[n]? with
   | none=>rw [g] at ok;exact ok.elim
   | some o=>
    rw [g] at ok
    cases o with
    | lst ds=>
     dsimp only at ok
     by_cases hc:n=G.length∧G'.length=n+1∧l7 (G'.take G.length) G=true∧aH ds=true
     ·rw [if_pos hc] at ok
      obtain ⟨hn0,hl,hb,hcl⟩:=hc
      refine dh (hs pins s σ H {Dd with nx:=λσ' H'=>∃ a xs,H' a=some (.lst xs)∧∀ o,Dd.nx σ' (upd H' a (.cy o (.lst xs)))} I ⟨τ,ρ,G,ab,?_⟩) λu s' h=>MM h rfl rfl rfl λσ' H' q=>.inr q
      dsimp only [aJ,bL]
      rw [q]
      intro σ' H' ρ' f bu
      obtain ⟨a,xs,e1,e2,rs⟩:=bu.hp.lst g
      refine ⟨a,xs,e2,λob=>?_⟩
      have f2:bS X.K H' (upd H' a (.cy ob (.lst xs))) ρ' ρ':=oW e2 ρ'
      have f3:bS X.K H (upd H' a (.cy ob (.lst xs))) ρ ρ:=⟨λb ys w=>f2.tup b ys (f.tup b ys w),λb o u w=>f2.cy b o u (f.cy b o u w),⟨[],by simp⟩,λb φ w=>f2.ext b φ (f.ext b φ w)⟩
      have qh:eO X.K X.mg (upd H' a (.cy ob (.lst xs))) ρ G:=ab.hp.cut f.pre (bu.hp.cy (o:=ob) e1 e2) (by
       rw [ac2 (by nofun)]
       exact kK _ _ hb)
      refine ok σ' _ ρ f3 ⟨⟨by rw [bu.st.1];simp,λj dj ej=>?_⟩,qh⟩
      by_cases hij:i=j
      ·subst hij
       by_cases hi:i<τ.length
       ·rw [Zr,if_pos rfl,if_pos hi] at ej
        cases ej
        obtain ⟨vv,ev,rv⟩:=bu.st.2 i (.obj n) (by rw [Zr,if_pos rfl,if_pos hi])
        unfold Rep at rv
        obtain ⟨a',rfl,hn'⟩:=rv
        rw [e1] at hn';cases hn'
        refine ⟨_,ev,?_⟩
        unfold Rep
        exact ⟨a,xs,rfl,.inl ⟨ob,aM⟩,fJ ds xs hcl (rs.mono f2)⟩
       ·rw [Zr,if_pos rfl,if_neg hi] at ej;cases ej
      ·have Xy:=ej
       rw [Zh hij] at ej
       obtain ⟨v',ev',VU⟩:=bu.st.2 j dj (by rw [Zh hij];exact ej)
       obtain ⟨v0,Gf,VW⟩:=ab.st.2 j dj ej
       exact ⟨v',ev',Rep.back f.pre dj v0 v' VW (VU.mono f2)⟩
     ·rw [if_neg hc] at ok;exact ok.elim
    | _=>exact ok.elim
  ·have ok':rX X.K X.mg EE H ρ Dd (.nx (τ.set i (some d)) G'):=by
    cases d<;>first | exact ok | exact absurd ⟨_,rfl⟩ hd
   exact hs pins s σ H Dd I ⟨τ,ρ,G,ab,by dsimp only [aJ,bL];rw [q];exact ok'⟩
theorem yV (l:Addr) (items:Array V3) (n:Nat) (b:Addr) (items2:Array V3) (n2:Nat) (sl2:Array (Option V3)) (hc0:¬(!items.isEmpty&&aaC (items.size+items2.size))=true) (hc1:items.size≤Yx) (hs2:items.size+items2.size≤Yx+1) :
  Meets (ad2.«list.extend» ⟨[.ref l,.ref b],[]⟩) (λ_ R s=>s.heap.get? l=some {cls:=.type "list",dict:=none,data:=.seq items n,slots:=#[]}∧s.heap.get? b=some {cls:=.type "list",dict:=none,data:=.seq items2 n2,slots:=sl2}∧R (.ok (.ret Value.none)) {s with heap:=s.heap.update l (ab0 λx=>x++items2),toks:=s.toks}):=
 .of_wp λprog w A R s h=>by
  obtain ⟨hp,g,d,tk,os⟩:=s;obtain ⟨hl,hb,h⟩:=h;have f1:=AutoSeq1.idx_int;have f2:=AutoSeq1.sub_tuple_tuple;have f3:=AutoSeq1.sub_list_list;have f4:=AutoSeq1.sub_tuple_list;have f5:=AutoSeq1.sub_list_tuple;
  have hz':(items++items2).size≤Yx+1:=by rw [Array.size_append];exact hs2
  wp_walk using (adS hl rfl (hz:=hc1) (_hz':=hz')),adT hl,adT hb;exact ⟨_,rfl,h⟩
theorem yW:CB X "list.extend" (λx vs H Q=>∃ l b xs zs,x=.ref l∧vs=[.ref b]∧H l=some (.lst xs)∧lN X.K H b zs∧xs.length+zs.length≤Yx∧Q .dP (upd H l (.lst (xs++zs)))):=by
 intro pins s σ H x vs v us Q I rx rv h
 obtain ⟨l,b,xs,zs,rfl,rfl,hH,hB,hz,q⟩:=h
 cases rx
 obtain ⟨u,rfl,ru⟩:=rv.one
 cases ru
 obtain ⟨z,its,n,r,hl,e⟩:=I.Lx hH
 obtain ⟨its2,r2,⟨o2,n2,e2,c2,Px,d2⟩,_⟩:=I.list hB
 obtain ⟨Lp,dd2,data2,sl2⟩:=o2
 simp only at c2 Px d2
 subst c2 Px d2
 have hl2:=r2.length
 have hsz:its.toArray.size+its2.toArray.size≤Yx:=by rw [Y3,Y3];nofun
 have Pz:¬ (!its.toArray.isEmpty&&aaC (its.toArray.size+its2.toArray.size))=true:=by
  rw [CY hsz,Bool.and_false]
  exact Zm
 refine call_meets ac9 ⟨_,e,rfl⟩ F.entry_list_extend (F.args_list_extend_2 _ _)
  (yV l its.toArray n b its2.toArray n2 sl2 Pz (by rw [Y3];nofun) (by nofun)) ⟨e,e2,?_⟩
 refine ⟨.dP,_,I.Lw (its':=its++its2) hH e (by simp) (r.append r2) ?_,rfl,q⟩
 rw [YO]
 nofun
noncomputable def wQ:D→List D→M D
 | .obj n,[y]=>λG=>match G[n]?,m9 G y with
  | some (.lst xs),some ys=>if xs.length+ys.length≤Yx then .ok .dP (G.set n (.lst (xs++ys))) else .stuck
  | _,_=>.stuck
 | _,_=>M.stop
theorem Ie:CB X "list.extend" (OX X EE wQ):=by
 intro pins s σ0 H x xs v us Q I rx OY zu
 obtain ⟨σ,τ,ρ,G,d,ds,ab,rd,Ge,ok⟩:=zu
 cases d<;>try exact ok.elim
 rename_i n
 match ds,ok with
 | [],ok=>exact ok.elim
 | a::_::_,ok=>exact ok.elim
 | [y],ok=>
  obtain ⟨yv,rfl,ry⟩:=iw Ge
  unfold Rep at rd
  obtain ⟨p,rfl,e1⟩:=rd
  dsimp only [wQ] at ok
  cases g:G[n]? with
  | none=>rw [g] at ok;exact ok.elim
  | some o=>
   cases g2:m9 G y with
   | none=>rw [g,g2] at ok;cases o<;>exact ok.elim
   | some ys=>
    rw [g,g2] at ok
    cases o with
    | lst zs=>
     dsimp only at ok
     obtain ⟨p',vs,e3,hp,rs⟩:=ab.hp.lst g
     rw [e1] at e3;cases e3
     obtain ⟨p2,ws,rfl,s2,NS⟩:=cB (pins:=pins) (σ0:=σ0) (s:=s) ab.hp ry (ql g2)
     by_cases hz:zs.length+ys.length≤Yx
     ·rw [if_pos hz] at ok
      exact yW pins s σ0 H _ _ v us Q I rx OY ⟨p,p2,vs,ws,rfl,rfl,hp,s2,by rw [← rs.length,← NS.length];exact hz,yM (xs:=zs) ab e1 hp (rs.append NS) (λ_ _=>by unfold Rep;rfl) ok⟩
     ·rw [if_neg hz] at ok;exact ok.elim
    | _=>exact ok.elim
theorem Ig {o:Expr} {apos cpos:Pos} (ho:QE X EE o mo) (ha:QA X EE [e] m) (hb:pX o=true:=by rfl) (h:az [e]=true:=by rfl) (hline:(apos.endLine==cpos.line)=true:=by rfl):QE X EE (.Call (.Attribute o "extend" apos) [e] [] cpos) (cO "list" wQ mo m):=by
 have h':br e=true∧az []=true:=by simpa [az] using h
 exact J0 F.plainAttrs_list ac9 F.type_list_extend Ie ho ha (gC hb _ _) (yR h (by simp)) hline (aP h'.1 _ _) (bw (es:=[]) rfl)
end
end
section
open PyProof.Rows
noncomputable def MN (lo st:Int) (n:Nat):It:=⟨λi _=>i<n,λi H x H'=>H'=H∧x=.int (lo+(i:Int)*st),λi _=>n≤i⟩
theorem wR (it:Addr) (lo c:Int) (n:Nat):Turn P w K tg (MN lo c n) [it] it (λi h=>IsRangeIter h it (lo+(i:Nat)*c) ((n:Int) - (i:Nat)) c) where
 mem:=by simp
 obj:=λi h st b hb=>by
  have e:b=it:=by simpa using hb
  subst e
  exact ⟨_,st,λv z=>by
   have z':Data.fields _=Data.cell v:=z
   cases z'⟩
 keep:=λi h h' st k=>k it (by simp) _ st
 item:=by
  intro X hP hw hK hc i pins s σ H E I hf st hg
  subst hP hw hK
  obtain ⟨f0,f1,f2,f3,f4,f5⟩:=hf it (by simp)
  have W:=Walks.range (prog:=X.prog) (w:=X.w) (I.ok.hd hc) it lo c n
  refine ig I.os.2 <| W.item i s _ _ hg st λv h' tk hv st' kk ht=>?_
  obtain ⟨t,rfl⟩:=hv
  have I1:Inv X pins σ H {s with heap:=h',toks:=tk}:=I.turned (λb o hb e=>kk b o (by simpa using hb) e) f0 f1 f3 f4 f5
  exact ⟨_,rfl,nP (s:={s with heap:=h',toks:=tk}) (n:="range_iterator") st' rfl rfl (by decide) ⟨.int (lo+i*c),H,I1,⟨t,rfl⟩,⟨rfl,rfl⟩,st',λb hb=>(hf b hb).1⟩⟩
 done:=by
  intro X hP hw hK hc i pins s σ H E I hf st hg
  subst hP hw hK
  obtain ⟨f0,f1,f2,f3,f4,f5⟩:=hf it (by simp)
  exact acv (I.ok.hd hc) st (by have:n≤i:=hg;nofun) λh' eb=>⟨rfl,I.turned (t':=s.toks) (λb o hb e=>eb b o hb e) f0 f1 f3 f4 f5⟩
 self:=λ_ _ _ _ _ st h=>acw st h
noncomputable def ic (lo hi c:Int):Nat:=if lo<hi then ((hi - lo - 1) / c+1).toNat else 0
noncomputable def qp (lo c:Int) (n:Nat):View:=λ_ i=>some (if i<n then some (.int (lo+(i:Int)*c)) else none)
noncomputable def ints3:List D→Option (Int×Int×Int)
 | [.int lo,.int hi,.int c]=>some (lo,hi,c)
 | _=>none
theorem Ec {c:Int} (h:ints3 ds=some (lo,hi,c)):ds=[.int lo,.int hi,.int c]:=by
 unfold ints3 at h
 split at h
 ·cases h;rfl
 ·cases h
noncomputable def nY (m:DS→M (List D)):MI:=λτ=>(m τ).bind λds=>match ints3 ds with
 | some (lo,hi,c)=>λG=>if -(2^30)≤lo∧lo<2^30∧-(2^30)≤hi∧hi<2^30∧0<c∧c<2^30 then .ok (ic lo hi c+1,qp lo c (ic lo hi c)) G else .stuck
 | none=>M.stop
section
variable {X:Cx} {EE:bW} {tg iter a b c:Expr} {pos p pc:Pos} {m:DS→M (List D)}
theorem MO {c:Int}:JV X.K X.mg (MN lo c n) (qp lo c n) H ρ:=by
 intro i H' ρ' G' f hp
 unfold qp
 by_cases h:i<n
 ·rw [if_pos h]
  refine ⟨λe=>(by cases e),λd e=>⟨h,λx H2 hy=>?_⟩⟩
  cases e
  obtain ⟨rfl,rfl⟩:=hy
  exact ⟨⟨.refl,λ_ h=>h⟩,by unfold Rep;rfl⟩
 ·rw [if_neg h]
  exact ⟨λ_=>adC h,λd e=>(by cases e)⟩
theorem MP {c:Int} (h1:-(2^30)≤lo) (h2:lo<2^30) (h3:-(2^30)≤hi) (h4:hi<2^30) (h5:0<c) (h6:c<2^30):ac3 lo hi c=true:=by
 unfold ac3
 have hs:Z7 lo hi c=if lo<hi then (hi - lo - 1) / c+1 else 0:=by
  unfold Z7;rw [if_pos h5]
 rw [hs]
 have hd:0≤hi - lo - 1→(hi - lo - 1) / c≤hi - lo - 1:=λh=>Int.ediv_le_self _ h
 have hd2:0≤hi - lo - 1→0≤(hi - lo - 1) / c:=λh=>adU h (by nofun)
 have hm:(hi - lo - 1) / c*c≤hi - lo - 1:=Int.ediv_mul_le _ (by nofun)
 simp only [Builtin.Range.rangeFitsLong,ZF,abK,decide_eq_true_eq,beq_iff_eq,show c > 0 from h5,if_true]
 split<;>nofun
theorem Ih (hm:X.mg "range"=none) (oR:Gl X "range") (ha:QA X EE [a,b,c] m) (h:az [a,b,c]=true:=by rfl):QI X EE tg (.Call (.Name "range" p) [a,b,c] [] pc) (nY m):=by
 have h':br a=true∧az [b,c]=true:=by simpa [az] using h
 intro pins s σ H R I hq
 obtain ⟨τ,ρ,G,ab,ok⟩:=hq
 dsimp only [nY,M.bind] at ok
 refine Ze (fO I oR hm boot_range ?_ (by decide) (by decide))
 have hA:iu X.K X.mg EE m σ H λvs H1=>∃ ρ1 G1 ds,Ab X.K X.mg σ H1 τ ρ1 G1∧bS X.K H H1 ρ ρ1∧au X.K X.mg ρ1 H1 ds vs∧m τ G=.ok ds G1:=by
  refine ⟨τ,ρ,G,ab,?_⟩
  cases e:m τ G with
  | stuck=>rw [e] at ok;exact ok
  | bC c G'=>rw [e] at ok;exact ok
  | ok ds G'=>exact λvs H' ρ' f bu r=>⟨ρ',G',ds,bu,f,r,rfl⟩
 refine Zb (dh (ha pc pins s σ H _ I hA) λus s1 oO=>?_) (aP h'.1 _ _) (bw h'.2)
 obtain ⟨vs,H1,I1,r1,ρ1,G1,ds,fM,f1,rs,em⟩:=oO
 rw [em] at ok
 dsimp only at ok
 cases q:ints3 ds with
 | none=>rw [q] at ok;exact ok.elim
 | some x=>
  obtain ⟨lo,hi,c⟩:=x
  rw [q] at ok
  dsimp only at ok
  have e:=Ec q
  subst e
  by_cases hc:-(2^30)≤lo∧lo<2^30∧-(2^30)≤hi∧hi<2^30∧0<c∧c<2^30
  ·rw [if_pos hc] at ok
   obtain ⟨h1,h2,h3,h4,h5,h6⟩:=hc
   simp only [au,Rep] at rs
   obtain ⟨v1,w1,rfl,rfl,v2,w2,rfl,rfl,v3,w3,rfl,rfl,rfl⟩:=rs
   cases r1 with
   | cons u1 r1=>
   cases r1 with
   | cons u2 r1=>
   cases r1 with
   | cons u3 r1=>
   cases r1
   obtain ⟨t1,rfl⟩:=u1
   obtain ⟨t2,rfl⟩:=u2
   obtain ⟨t3,rfl⟩:=u3
   refine call_range_3 (by nofun) ?_ (.inl (acy (by nofun)))
   refine ac7 (s:={s1 with heap:=s1.heap.push {cls:=.type "range",data:=.fields #[.int lo t1,.int hi t2,.int c t3]},toks:=s1.toks}) (IsRange.new ..) (MP h1 h2 h3 h4 h5 h6) ?_
   have I2:Inv X pins σ H1 {s1 with heap:=s1.heap.push {cls:=.type "range",data:=.fields #[.int lo t1,.int hi t2,.int c t3]},toks:=s1.toks}:=I1.kept λb o e=>YA _ e
   refine ⟨_,[_],_,MN lo c (ic lo hi c),H1,rfl,I2.kept (t':=s1.toks) λb o e=>YA _ e,wR _ lo c (ic lo hi c),?_,λb hb=>?_,ok _ H1 ρ1 f1 fM MO⟩
   ·have e1:lo+((0:Nat):Int)*c=lo:=by simp
    have e2:((ic lo hi c:Nat):Int) - ((0:Nat):Int)=Z7 lo hi c:=by
     unfold ic Z7
     rw [if_pos h5]
     split
     ·have:0≤(hi - lo - 1) / c:=adU (by nofun) (by nofun)
      nofun
     ·simp
    show IsRangeIter _ _ (lo+((0:Nat):Int)*c) (((ic lo hi c:Nat):Int) - ((0:Nat):Int)) c
    rw [e1,e2]
    exact YM _ rfl
   ·rw [Y7.mp hb]
    exact I2.ou (YE _) (I2.hok.fresh (YE _))
  ·rw [if_neg hc] at ok;exact ok.elim
end
end
noncomputable def iK:D→Option Key
 | .int i=>some (Sum.inl i)
 | .str x=>some (Sum.inr x)
 | _=>none
noncomputable def cX {κ:Type} [DecidableEq κ] (kvs:List (κ×D)) (k:κ):Option D:=(kvs.find? λkv=>decide (kv.1=k)).map (·.2)
noncomputable def bF {κ:Type} [DecidableEq κ] (kvs:List (κ×D)) (k:κ) (v:D):List (κ×D):=
 if (kvs.any λkv=>decide (kv.1=k))=true then kvs.map (λkv=>if kv.1=k then (kv.1,v) else kv) else kvs++[(k,v)]
section
variable {K:Yz} {mg:Str→Option V3} {H:Hp} {ρ:List Addr} {G:DH}
theorem l9 {κ:Type} [DecidableEq κ] (k:κ):∀ {kvs:List (κ×D)} {xs:List V},au K mg ρ H (kvs.map (·.2)) xs →
  (cX kvs k=none∧kQ ((kvs.map (·.1)).zip xs) k=none)∨∃ d v,cX kvs k=some d∧kQ ((kvs.map (·.1)).zip xs) k=some v∧Rep K mg ρ H d v
 | [],xs,r=>.inl ⟨rfl,rfl⟩
 | p::q,xs,r=>by
  unfold au at r
  obtain ⟨v,r',rfl,h1,h2⟩:=r
  by_cases e:p.1=k
  ·exact .inr ⟨p.2,v,by simp [cX,e],by simp [kQ,e],h1⟩
  ·have ih:=l9 k h2
   have e1:cX (p::q) k=cX q k:=by simp [cX,e]
   have e2:kQ (((p::q).map (·.1)).zip (v::r')) k=kQ ((q.map (·.1)).zip r') k:=lW (p:=(p.1,v)) e
   rw [e1,e2];exact ih
theorem Ai {κ:Type} [DecidableEq κ] (k:κ):∀ {kvs:List (κ×D)} {xs:List V},kvs.length=xs.length→(((kvs.map (·.1)).zip xs).any λkv=>decide (kv.1=k))=(kvs.any λkv=>decide (kv.1=k))
 | [],xs,h=>by simp
 | p::q,[],h=>by simp at h
 | p::q,x::xs,h=>by
  have:=Ai k (kvs:=q) (xs:=xs) (by simpa using h)
  simp [this]
theorem wU {κ:Type} [DecidableEq κ] (k:κ) {d:D} {v:V} (rv:Rep K mg ρ H d v):∀ {kvs:List (κ×D)} {xs:List V},au K mg ρ H (kvs.map (·.2)) xs →
  ∃ ys,(((kvs.map (·.1)).zip xs).map λkv=>if kv.1=k then (kv.1,v) else kv)=((kvs.map λkv=>if kv.1=k then (kv.1,d) else kv).map (·.1)).zip ys∧au K mg ρ H ((kvs.map λkv=>if kv.1=k then (kv.1,d) else kv).map (·.2)) ys
 | [],xs,r=>⟨[],by simp,by simpa using au.nil⟩
 | p::q,xs,r=>by
  unfold au at r
  obtain ⟨x,r',rfl,h1,h2⟩:=r
  obtain ⟨ys,e,rs⟩:=wU k rv h2
  by_cases hk:p.1=k
  ·refine ⟨v::ys,?_,?_⟩
   ·simp only [Yv,Z0,if_pos hk,e]
   ·simp only [Yv,if_pos hk];exact .cons rv rs
  ·refine ⟨x::ys,?_,?_⟩
   ·simp only [Yv,Z0,if_neg hk,e]
   ·simp only [Yv,if_neg hk];exact .cons h1 rs
theorem wV {α β:Type}:∀ {a:List α} {b:List β} (x:α) (y:β),a.length=b.length→(a++[x]).zip (b++[y])=a.zip b++[(x,y)]
 | [],[],x,y,_=>rfl
 | [],_::_,_,_,h=>by simp at h
 | _::_,[],_,_,h=>by simp at h
 | p::a,q::b,x,y,h=>by simp [wV (a:=a) (b:=b) x y (by simpa using h)]
theorem qu [DecidableEq κ] (k:κ) {d:D} {v:V} (rv:Rep K mg ρ H d v) {kvs:List (κ×D)} {xs:List V} (r:au K mg ρ H (kvs.map (·.2)) xs) :
  ∃ ys,putK ((kvs.map (·.1)).zip xs) k v=((bF kvs k d).map (·.1)).zip ys∧au K mg ρ H ((bF kvs k d).map (·.2)) ys:=by
 have hl:kvs.length=xs.length:=by simpa using r.length
 unfold putK bF
 rw [Ai k hl]
 by_cases e:(kvs.any λkv=>decide (kv.1=k))=true
 ·rw [if_pos e,if_pos e];exact wU k rv r
 ·rw [if_neg e,if_neg e]
  refine ⟨xs++[v],?_,?_⟩
  ·rw [YS,Yv,YY,wV _ _ (by simpa using hl)]
  ·rw [YS];exact r.append (.cons rv .nil)
theorem eO.dct (h:eO K mg H ρ G) (e:G[n]?=some (.dct kvs)):∃ a xs,ρ[n]?=some a∧H a=some (.dK ((kvs.map (·.1)).zip xs))∧au K mg ρ H (kvs.map (·.2)) xs:=by
 obtain ⟨a,e1,xs,e2,r⟩:=h.ob n _ e
 exact ⟨a,xs,e1,e2,r⟩
theorem mj {u w:List (Key×V)} (hp:H p=some (.dK u)) (ρ:List Addr):bS K H (upd H p (.dK w)) ρ ρ:=by
 refine ⟨λa zs h=>?_,λa q u h=>by rw [av (cD h hp (by intro z;cases z))];exact h,⟨[],by simp⟩,λa φ h=>by rw [av (cD h hp (by intro z;cases z))];exact h⟩
 ·rw [rW] at h ⊢;rw [av (cD h hp (by intro z;cases z))];exact h
theorem eO.J8 (h:eO K mg H ρ G) (hp:H p=none):eO K mg (upd H p (.dK [])) (ρ++[p]) (G++[.dct []]):=by
 have f:bS K H (upd H p (.dK [])) ρ (ρ++[p]):=(cR hp ρ).trans (cE ρ p)
 refine ⟨by simp [h.hl],?_,λn ob e=>?_⟩
 ·rw [ZS]
  refine ⟨h.nd,by simp,λa ha b hb=>?_⟩
  have e:b=p:=by simpa using hb
  subst e
  rintro rfl
  exact h.not_mem hp ha
 ·by_cases hn:n<G.length
  ·rw [YQ hn] at e
   obtain ⟨a,e1,r'⟩:=h.ob n ob e
   exact ⟨a,f.get e1,r'.mono f λu q=>by rw [av (bX q hp)];exact q⟩
  ·have hl:n<(G++[DO.dct []]).length:=(Yw.mp e).1
   have hn':n=G.length:=by simp at hl;nofun
   subst hn'
   rw [aB] at e
   cases e
   exact ⟨p,by rw [← h.hl,aB],[],aM,.nil⟩
theorem eO.putD {es:List (Key×D)} {u:List (Key×V)} (h:eO K mg H ρ G) (hn:ρ[n]?=some a) (ha:H a=some (.dK u)) (r:au K mg ρ H (es.map (·.2)) ys) :
  eO K mg (upd H a (.dK ((es.map (·.1)).zip ys))) ρ (G.set n (.dct es)):=by
 have f:bS K H (upd H a (.dK ((es.map (·.1)).zip ys))) ρ ρ:=mj ha ρ
 refine ⟨by simp [h.hl],h.nd,λm ob e=>?_⟩
 by_cases hm:n=m
 ·subst hm
  rw [Zr,if_pos rfl] at e
  split at e
  ·cases e
   exact ⟨a,hn,ys,aM,r.mono f⟩
  ·cases e
 ·rw [Zh hm] at e
  obtain ⟨b,e1,r'⟩:=h.ob m ob e
  have hb:b≠a:=by
   rintro rfl
   obtain ⟨h1,vQ⟩:=Yw.mp hn
   obtain ⟨h2,ym⟩:=Yw.mp e1
   exact hm ((ZE h.nd).mp (vQ.trans ym.symm))
  exact ⟨b,e1,r'.mono f λu q=>by rw [av hb];exact q⟩
theorem oX {d:D} {k:Key} (r:Rep K mg ρ H d v) (e:iK d=some k):v=kV k:=by
 cases d<;>simp [iK] at e
 ·subst e;unfold Rep at r;exact r
 ·subst e;unfold Rep at r;exact r
end
section
variable {X:Cx} {EE:bW} {e f o i a:Expr} {pos apos cpos tpos:Pos} {mo me mf mv mi:DS→M D}
noncomputable def sZ:DS→M D:=λ_ G=>.ok (.obj G.length) (G++[.dct []])
theorem Ii:QE X EE (.Dict [] [] pos) sZ:=PE.mono C4 λσ H Q ⟨τ,ρ,G,ab,ok⟩=>λp hp=>by
 refine ok (.ref p) _ (ρ++[p]) ((cR hp ρ).trans (cE ρ p)) ⟨ab.st.mono ((cR hp ρ).trans (cE ρ p)),ab.hp.J8 hp⟩ ?_
 unfold Rep
 exact ⟨p,rfl,by rw [← ab.hp.hl,aB]⟩
noncomputable def tu (G:DH):D→Bool
 | .obj n=>match G[n]? with
  | some (.dct _)=>true
  | _=>false
 | _=>false
noncomputable def Aj (d k x:D):M D:=λG=>match d,iK k with
 | .obj n,some y=>match G[n]? with
  | some (.dct kvs)=>.ok ((cX kvs y).getD x) G
  | _=>.stuck
 | _,_=>.stuck
noncomputable def iL (mo me mf:DS→M D):DS→M D:=λτ=>(mo τ).bind λd G=>if tu G d=true then ((me τ).bind λk=>(mf τ).bind λx=>Aj d k x) G else .stuck
theorem Ed {d:D} (h:tu G d=true):∃ n kvs,d=.obj n∧G[n]?=some (.dct kvs):=by
 cases d<;>simp [tu] at h
 rename_i n
 cases g:G[n]? with
 | none=>rw [g] at h;cases h
 | some ob=>
  cases ob with
  | lst _=>rw [g] at h;cases h
  | dct kvs=>exact ⟨n,kvs,rfl,g⟩
  | _=>rw [g] at h;cases h
theorem Ef (hu:X.A.units+600<cLine) (ho:QE X EE o mo) (he:QE X EE e me) (hf:QE X EE f mf) (hb:pX o=true:=by rfl) (h:az [e,f]=true:=by rfl) (hline:(apos.endLine==cpos.line)=true:=by rfl) :
  QE X EE (.Call (.Attribute o "get" apos) [e,f] [] cpos) (iL mo me mf):=by
 have h':br e=true∧br f=true:=by simpa [az] using h
 refine PE.mono (C7 (by nofun) ho he hf ⟨gC hb _ _,yR h (by simp),hline,by rw [aP h'.1,aP h'.2];rfl⟩) λσ H Q zz=>?_
 obtain ⟨τ,ρ,G,ab,ok⟩:=zz
 refine ⟨τ,ρ,G,ab,?_⟩
 dsimp only [iL,M.bind] at ok
 cases e1:mo τ G with
 | stuck=>rw [e1] at ok;exact ok
 | bC c G'=>rw [e1] at ok;exact ok
 | ok d G1=>
  rw [e1] at ok
  dsimp only at ok
  intro vd H1 ρ1 f1 fM r1
  by_cases hd:tu G1 d=true
  ·rw [if_pos hd] at ok
   obtain ⟨n,kvs,rfl,g1⟩:=Ed hd
   unfold Rep at r1
   obtain ⟨p,rfl,ep⟩:=r1
   obtain ⟨p',xs,oq,eH,_⟩:=fM.hp.dct g1
   rw [ep] at oq;cases oq
   refine ⟨p,rfl,.inl ⟨_,.inl eH⟩,τ,ρ1,G1,fM,?_⟩
   cases e2:me τ G1 with
   | stuck=>rw [e2] at ok;exact ok
   | bC c G'=>rw [e2] at ok;exact λH' ρ' f bu=>ok H' ρ' (f1.trans f) bu
   | ok k G2=>
    rw [e2] at ok
    dsimp only at ok
    intro vk H2 ρ2 f2 bM r2
    refine ⟨τ,ρ2,G2,bM,?_⟩
    cases e3:mf τ G2 with
    | stuck=>rw [e3] at ok;exact ok
    | bC c G'=>rw [e3] at ok;exact λH' ρ' f bu=>ok H' ρ' ((f1.trans f2).trans f) bu
    | ok x G3=>
     rw [e3] at ok
     dsimp only [Aj] at ok
     intro vx H3 ρ3 f3 nT r3
     cases ek:iK k with
     | none=>rw [ek] at ok;exact ok.elim
     | some y=>
      rw [ek] at ok
      dsimp only at ok
      cases g:G3[n]? with
      | none=>rw [g] at ok;exact ok.elim
      | some ob=>
       cases ob with
       | lst _=>rw [g] at ok;exact ok.elim
       | dct VX=>
        rw [g] at ok
        dsimp only at ok
        obtain ⟨p3,Xz,Ur,VY,VZ⟩:=nT.hp.dct g
        rw [(f2.trans f3).get ep] at Ur;cases Ur
        have ev:=oX r2 ek
        subst ev
        refine ⟨_,wk.k VY,?_⟩
        refine ok _ H3 ρ3 ((f1.trans f2).trans f3) nT ?_
        rcases l9 y VZ with ⟨z1,z2⟩ | ⟨d,v,z1,z2,z3⟩
        ·rw [z1,z2];exact r3
        ·rw [z1,z2];exact z3
       | _=>rw [g] at ok;exact ok.elim
  ·rw [if_neg hd] at ok;exact ok.elim
noncomputable def k6 (v d k:D):M D:=λG=>match d,iK k with
 | .obj n,some y=>match G[n]? with
  | some (.dct kvs)=>if kvs.length<Yx then .ok .dP (G.set n (.dct (bF kvs y v))) else .stuck
  | _=>.stuck
 | _,_=>.stuck
noncomputable def eY (mv mo mi:DS→M D):MS:=λτ=>bL ((mv τ).bind λv=>(mo τ).bind λo=>(mi τ).bind λi=>k6 v o i) (λ_ G=>.nx τ G) λc G=>.xn c τ G
theorem wW (hu:X.A.units+600<cLine) (hv:QE X EE a mv) (ho:QE X EE o mo) (hi:QE X EE i mi) (h:swapsWith a (some (.Subscript o i tpos)) pos.line X.env=pure false):QS X EE (.Assign [.Subscript o i tpos] a pos) (eY mv mo mi):=
 PS.mono (z6 (by nofun) ho hi hv h) λDd σ H zz=>by
  obtain ⟨τ,ρ,G,ab,ok⟩:=zz
  refine ⟨τ,ρ,G,ab,?_⟩
  dsimp only [eY,bL,M.bind] at ok
  cases e1:mv τ G with
  | stuck=>rw [e1] at ok;exact ok
  | bC c G'=>rw [e1] at ok;exact λH' ρ' f bu=>ok σ H' ρ' f bu
  | ok v G1=>
   rw [e1] at ok
   intro vv H1 ρ1 f1 fM r1
   refine ⟨τ,ρ1,G1,fM,?_⟩
   dsimp only at ok
   cases e2:mo τ G1 with
   | stuck=>rw [e2] at ok;exact ok
   | bC c G'=>rw [e2] at ok;exact λH' ρ' f bu=>ok σ H' ρ' (f1.trans f) bu
   | ok ov G2=>
    rw [e2] at ok
    intro vo H2 ρ2 f2 bM r2
    refine ⟨τ,ρ2,G2,bM,?_⟩
    dsimp only at ok
    cases e3:mi τ G2 with
    | stuck=>rw [e3] at ok;exact ok
    | bC c G'=>rw [e3] at ok;exact λH' ρ' f bu=>ok σ H' ρ' ((f1.trans f2).trans f) bu
    | ok iv G3=>
     rw [e3] at ok
     intro vi H3 ρ3 f3 nT r3
     dsimp only [k6] at ok
     cases ov<;>try exact ok.elim
     rename_i n
     cases ek:iK iv with
     | none=>rw [ek] at ok;exact ok.elim
     | some y=>
      rw [ek] at ok
      have r2':=r2.mono f3
      unfold Rep at r2'
      obtain ⟨p,rfl,e4⟩:=r2'
      dsimp only at ok
      cases g:G3[n]? with
      | none=>rw [g] at ok;exact ok.elim
      | some ob=>
       cases ob with
       | lst _=>rw [g] at ok;exact ok.elim
       | dct kvs=>
        rw [g] at ok
        dsimp only at ok
        obtain ⟨p',xs,e5,hp,rs⟩:=nT.hp.dct g
        rw [e4] at e5;cases e5
        by_cases hl:kvs.length<Yx
        ·rw [if_pos hl] at ok
         have ev:=oX r3 ek
         subst ev
         have rv:=r1.mono (f2.trans f3)
         obtain ⟨ys,ey,ry⟩:=qu y rv rs
         refine ⟨p,_,rfl,uv.k hp ?_,?_⟩
         ·have:=rs.length
          simp at this
          simp [← this];exact hl
         ·rw [ey]
          refine ok σ _ ρ3 (((f1.trans f2).trans f3).trans (mj hp ρ3)) ⟨nT.st.mono (mj hp ρ3),nT.hp.putD e4 hp ry⟩
        ·rw [if_neg hl] at ok;exact ok.elim
       | _=>rw [g] at ok;exact ok.elim
theorem Ij (hu:X.A.units+600<cLine) (hv:QE X EE a mv) (ho:QE X EE o mo) (hi:QE X EE i mi) (h:mZ a=true:=by rfl):QS X EE (.Assign [.Subscript o i tpos] a pos) (eY mv mo mi):=wW hu hv ho hi (oU h _ _ _)
end
section
open PyProof.Rows
theorem wX {prog:Zg} {w:Zs} {E:V3→YB→Prop} {Q:List V3→YB→Prop} (hh:A.handled=none) (hit:s.heap.IsRevIter it l ((items.size:Int) - 1)) (hl:s.heap.IsList l items) (hne:l≠it) (hz:items.size≤Yx)
  (hQ:∀ s' acc,(∀ b o,b≠it→s.heap.get? b=some o→s'.heap.get? b=some o)→s'.gens=s.gens→s'.drawn=s.drawn→s'.os=s.os→ItemsOf (λi v=>items[items.size - 1 - i]?=some v) acc items.size→Q acc.toList s') :
  Y0 (model prog w) A (collect (.ref it)) Q E s:=by
 have Sq:l<s.heap.objs.size:=by obtain ⟨o,e,_⟩:=hl;exact YI e
 have VF:it<s.heap.objs.size:=by obtain ⟨o,e,_⟩:=hit;exact YI e
 unfold collect
 refine Yu (wpAny_runValue (codeAny_builtin F.entry_proto_collect ?_))
 rw [acX F.plain_proto_collect _]
 show Y0 _ A.in1 (newList [] >>= λl=>again (.builtin "list.__iadd__" ⟨[l,.ref it],[]⟩)) _ _ s
 refine Yu (Zo ?_)
 refine YN ⟨plainId_quiet adu _,codeAny_builtin F.entry_list_iadd ?_⟩
 rw [acX adu _]
 show Y0 _ A.in1 (aaR (.ref s.heap.objs.size) (.ref it) (.ref s.heap.objs.size)) _ _ _
 have up:∀ b o,s.heap.get? b=some o→(s.heap.push {cls:=.type "list",data:=.seq ([]:List V3).toArray}).get? b=some o:=λb o e=>YA _ e
 have fin':∀ (s':YB) (acc':Array V3) (c':Nat),Moved [s.heap.objs.size,it] (λa b=>b=a) {s with heap:=s.heap.push {cls:=.type "list",data:=.seq ([]:List V3).toArray}} s'→s'.heap.get? s.heap.objs.size=some {cls:=.type "list",data:=.seq acc' c'} →
   ItemsOf (λi v=>items[items.size - 1 - i]?=some v) acc' items.size→Y0 (model prog w) A (match Value.ref s.heap.objs.size with
   | Value.ref a=>do
    match (← load a).data with
     | Data.seq xs _=>pure xs.toList
     | _=>unsupported "internal:collect"
   | _=>unsupported "internal:collect") Q E s':=λs' acc' c' hm hS' hacc=>by
  show Y0 _ A (load s.heap.objs.size >>= _) _ _ s'
  refine Yu (abV hS' ?_)
  refine YN (hQ s' acc' (λb o hb e=>hm.heap b o ?_ (up b o e)) hm.gens hm.drawn hm.os hacc)
  simp [hb,YU (YI e)]
 refine Zn (pY (A:=A) (R:=λr s'=>r=.ok (.ret (.ref s.heap.objs.size))∧∃ acc' c',Moved [s.heap.objs.size,it] (λa b=>b=a) {s with heap:=s.heap.push {cls:=.type "list",data:=.seq ([]:List V3).toArray}} s'∧s'.heap.get? s.heap.objs.size=some {cls:=.type "list",data:=.seq acc' c'} ∧
   ItemsOf (λi v=>items[items.size - 1 - i]?=some v) acc' items.size) (l:=l) (items:=items) (show A.handled=none from hh) ?_ ?_ hne hz s.heap.objs.size (.ref s.heap.objs.size) 0 ?_ (abQ Sq) ?_) (λfin s' h=>?_) (λe s' h=>?_)
 ·obtain ⟨o,e,r⟩:=hit
  exact ⟨o,up _ _ e,r⟩
 ·obtain ⟨o,e,r⟩:=hl
  exact ⟨o,up _ _ e,r⟩
 ·exact YM _ rfl
 ·intro s' acc' c' hm hS' hacc
  exact ⟨rfl,acc',c',hm,hS',hacc⟩
 ·cases fin with
  | done f=>
   obtain ⟨e,acc',c',h1,h2,h3⟩:=h
   cases e
   exact fin' s' acc' c' h1 h2 h3
  | again c'=>exact ⟨h.1,codeAny_mono h.2 λr s'' hr=>by obtain ⟨rfl,acc',c',h1,h2,h3⟩:=hr;exact fin' s'' acc' c' h1 h2 h3⟩
 ·exact absurd h.1 (by simp)
theorem oE (it l:Addr) (items:Array V3) (hne:l≠it) (hz:items.size≤Yx) :
  Meets (ad2.«tuple.__new__» ⟨[.type "tuple",.ref it],[]⟩)
   (λA R s=>A.handled=none∧s.heap.IsRevIter it l ((items.size:Int) - 1)∧s.heap.IsList l items∧∀ (s':YB) (acc:Array V3),(∀ b o,b≠it→s.heap.get? b=some o→s'.heap.get? b=some o)→s'.gens=s.gens→s'.drawn=s.drawn→s'.os=s.os→ItemsOf (λi v=>items[items.size - 1 - i]?=some v) acc items.size →
    R (.ok (.ret (.ref s'.heap.objs.size))) {s' with heap:=s'.heap.push {cls:=.type "tuple",data:=.seq acc}}):=
 .of_wp λprog w A R s h=>by
  obtain ⟨hh,hit,hl,h⟩:=h
  have hsub:=sub_tuple_self
  have Us:=init_tuple_lookup
  have XA:=madeHere_tuple
  have hT:s.TypeIs (.ref it) "list_reverseiterator":=by
   obtain ⟨o,e,c,_⟩:=hit
   exact ⟨o,e,c⟩
  have V0:A.in1.handled=none:=hh
  wp_walk using adn hT,wX V0 hit hl hne hz
  intro s' acc hk hg hd hos hacc
  show Y0 _ _ (ZJ acc.toList.toArray >>= λv=>ret v) _ _ _
  unfold ZJ
  refine Yu (Zo ?_ (show acc.toList.toArray.size≤Yx by simp only [acY];rw [hacc.1];exact hz))
  refine YN ⟨_,rfl,?_⟩
  have e:acc.toList.toArray=acc:=by simp
  rw [e]
  exact h s' acc hk hg hd hos hacc
theorem qv {prog:Zg} {w:Zs} {E:V3→YB→Prop} {Q:V3→YB→Prop} (hh:A.handled=none) (hit:s.heap.IsRevIter it l ((items.size:Int) - 1)) (hl:s.heap.IsList l items) (hne:l≠it) (hz:items.size≤Yx)
  (hQ:∀ (h':Heap) (tk:Nat) (acc:Array V3),(∀ b o,b≠it→s.heap.get? b=some o→h'.get? b=some o)→ItemsOf (λi v=>items[items.size - 1 - i]?=some v) acc items.size→Q (.ref h'.objs.size) {s with heap:=h'.push {cls:=.type "tuple",data:=.seq acc},toks:=tk}) :
  Y0 (model prog w) A (call (.type "tuple") [.ref it]) Q E s:=by
 refine callType_new F.called_tuple (by decide) (F.typeCall_tuple_1 _) (F.newCall_tuple_1 _) (λobj=>acZ obj _) F.entry_tuple_new
  (oE it l items hne hz) ⟨hh,hit,hl,λs' acc hk hg hd hos hacc=>⟨⟨_,YM _ rfl,rfl⟩,?_⟩⟩
 obtain ⟨h',g',d',tk',os'⟩:=s'
 have e1:g'=s.gens:=hg
 have e2:d'=s.drawn:=hd
 have e3:os'=s.os:=hos
 subst e1 e2 e3
 exact hQ h' tk' acc hk hacc
noncomputable def wY:List D→M D
 | [d]=>λG=>match aD G d with
  | some (.lst xs)=>bx xs.reverse G
  | _=>.stuck
 | _=>M.stop
section
variable {X:Cx} {EE:bW} {e:Expr} {m:DS→M (List D)} {p p2 pos pos2:Pos}
theorem wZ (hc:X.calm=true) (hm1:X.mg "tuple"=none) (Ss:Gl X "tuple") (hm2:X.mg "reversed"=none) (Su:Gl X "reversed") (ha:QA X EE [e] m) (h:az [e]=true:=by rfl) :
  QE X EE (.Call (.Name "tuple" p) [.Call (.Name "reversed" p2) [e] [] pos2] [] pos) (ak wY m):=by
 have h':br e=true∧az []=true:=by simpa [az] using h
 intro pins s σ H Q I hq
 have hq':=jm (k:=λ_ ds=>wY ds) hq
 refine Ze (fO I Ss hm1 boot_tuple ?_ (by decide) (by decide))
 refine Zb ?_ (aP rfl _ _) (bw (es:=[]) rfl)
 rw [aP (e:=.Call (.Name "reversed" p2) [e] [] pos2) rfl]
 show Y0 _ _ (spliced ((false,eval _ X.env)::backTo pos (YZ [] X.env))) _ _ s
 refine ZZ ?_
 refine Ze (fO I Su hm2 pZ ?_ (by decide) (by decide))
 refine Zb (dh (ha pos2 pins s σ H _ I hq') λus s1 oO=>?_) (aP h'.1 _ _) (bw (es:=[]) rfl)
 obtain ⟨vs,H1,I1,r1,τ,ρ,G,ds,ab,rs,ok⟩:=oO
 match ds,ok with
 | [],ok=>exact ok.elim
 | _::_::_,ok=>exact ok.elim
 | [d],ok=>
  obtain ⟨x,rfl,rx⟩:=iw rs
  obtain ⟨u,rfl,ru⟩:=vals1 r1
  dsimp only [wY] at ok
  cases q:aD G d with
  | none=>rw [q] at ok;exact ok.elim
  | some sk=>
   rw [q] at ok
   cases sk with
   | tup zs=>exact ok.elim
   | str z=>exact ok.elim
   | lst zs=>
    dsimp only at ok
    obtain ⟨l,ys,rfl,sq,rv⟩:=cB (pins:=pins) (σ0:=σ) (s:=s1) ab.hp rx q
    cases ru
    obtain ⟨its,vv,pl,hz⟩:=I1.list sq
    have hlen:=vv.length
    have hl:=pl.isList
    have hlt:l<s1.heap.objs.size:=by obtain ⟨_,e,_⟩:=hl;exact YI e
    refine call_reversed_list hl ?_
    refine abe ?_
    refine ig I1.os.2 <| qv (l:=l) (items:=its.toArray) (show X.A.handled=none from I.ok.hd hc) ⟨_,YM _ rfl,rfl,rfl⟩ (hl.push _) (YU hlt) (by simp;nofun) λh' tk acc' kp hacc=>λht=>?_
    have ea:=sV hacc
    subst ea
    obtain ⟨hlr,hn⟩:=pO ab rv.rev ok
    have I2:Inv X pins σ H1 {s1 with heap:=h',toks:=tk}:=I1.kept (t':=tk) (λb o e=>kp b o (YU (YI e)) (YA _ e))
    have I3:Inv X pins σ (upd H1 h'.objs.size (.tup ys.reverse)) {s1 with heap:=h'.push {cls:=.type "tuple",data:=.seq its.reverse.toArray},toks:=tk}:=
     I2.laid (t':=tk) (λb o e=>YA _ e) (YE _) (show dm X.prog X.w _ _ _ (.tup ys.reverse) from ⟨hlr,its.reverse,Vals.rev vv,adB _ _⟩)
    exact ⟨.ref h'.objs.size,_,I3,rfl,hn _ (I2.hok.fresh (YE _))⟩
end
end
section
variable {prog:Zg} {w:Zs} {A:Around} {E:V3→YB→Prop} {s:YB}
theorem oF {t:Addr} {x:V3} {Q:V3→YB→Prop} (hit:s.heap.IsTupleIter it t i)
  (ht:s.heap.IsTuple t items) (hx:items[i]?=some x)
  (hQ:∀ h',h'.IsTupleIter it t (i+1)→aaL it s.heap h'→Q x {s with heap:=h'}) :
  Y0 (model prog w) A (aar (.ref it)) Q E s:=by
 obtain ⟨o,ho,hc,hd⟩:=id hit
 obtain ⟨ol,NR,_,nl,hdl⟩:=ht
 unfold aar
 refine Yu (Z8 (name:=aaX "__next__") hit.typeIs aao
  (aaj aao hit.typeIs abS ?_ (abL _)))
 show Y0 _ _ (field (.ref it) 0 >>= _) _ _ s
 refine Yu (ZG ho hd (x:=.ref t) rfl ?_)
 show Y0 _ _ (if (Value.ref t==Value.none)=true then _ else _) _ _ s
 rw [if_neg (show ¬ ((Value.ref t==Value.none)=true) from Zm)]
 show Y0 _ _ (field (.ref it) 1 >>= _) _ _ s
 refine Yu (ZG ho hd (x:=.int i 0) rfl ?_)
 show Y0 _ _ (seqItems? (.ref t) >>= _) _ _ s
 refine Yu (acV NR hdl ?_)
 simp only [aaQ,hx]
 refine Yu (aaU ho hd (by simp) (YN ⟨x,rfl,YN (hQ _ ?_ (aa1 ..))⟩))
 exact ⟨_,ZX _ ho (abr (aan hd _)),(adv ..).trans hc,by
  rw [aan hd];simp [rawInt]⟩
theorem qw {t:Addr} {Q:V3→YB→Prop} (hh:A.handled=none)
  (hit:s.heap.IsTupleIter it t i) (ht:s.heap.IsTuple t items) (hx:items[i]?=none)
  (hE:∀ h' e,adP it s.heap h'→(∃ o,h'.get? e=some o∧o.cls=.type "StopIteration")→E (.ref e) {s with heap:=h'}) :
  Y0 (model prog w) A (aar (.ref it)) Q E s:=by
 obtain ⟨o,ho,hc,hd⟩:=id hit
 obtain ⟨ol,NR,_,nl,hdl⟩:=ht
 unfold aar
 refine Yu (Z8 (name:=aaX "__next__") hit.typeIs aao
  (aaj aao hit.typeIs abS ?_ (abL _)))
 show Y0 _ _ (field (.ref it) 0 >>= _) _ _ s
 refine Yu (ZG ho hd (x:=.ref t) rfl ?_)
 show Y0 _ _ (if (Value.ref t==Value.none)=true then _ else _) _ _ s
 rw [if_neg (show ¬ ((Value.ref t==Value.none)=true) from Zm)]
 show Y0 _ _ (field (.ref it) 1 >>= _) _ _ s
 refine Yu (ZG ho hd (x:=.int i 0) rfl ?_)
 show Y0 _ _ (seqItems? (.ref t) >>= _) _ _ s
 refine Yu (acV NR hdl ?_)
 simp only [aaQ,hx]
 refine Yu (ad0 (Yu (aaU ho hd (by simp) ?_)))
 show Y0 _ _ (newExc (.type "StopIteration") [] >>= _) _ _ _
 refine Yu ?_
 simp only [newExc,newTuple]
 refine Yu (Zo ?_ (by size_fits))
 refine Yu (m:=firstArgMember _ _) (adR (a:=Value.none) (by first | rfl | (simp only [firstArgMember];rfl)) ?_)
 refine Zo ?_ (by size_fits)
 simp only [raiseNew]
 refine Yu (wpAny_handled ?_)
 first | rw [show A.in1.handled=none from hh] | rw [hh]
 refine Yu (YN (adQ ?_))
 exact hE _ _ (((aa1 ..).extBut.push _).push _) ⟨_,YM _ rfl,rfl⟩
end
theorem tw (hh:A.handled=none) (it l:Addr) (hne:l≠it) (items:Array V3) :
  Draws prog w A it [it,l] items.size (λi v=>items[i]?=some v) (λi h=>h.IsTupleIter it l i∧h.IsTuple l items) where
 live:=λ_ _ st=>let ⟨o,ho,_⟩:=st.1;⟨o,ho⟩
 frame:=λ_ _ _ st hk=>⟨st.1.at λo e=>hk it (by simp) o e,st.2.at λo e=>hk l (by simp) o e⟩
 item:=λi s Q E hi st hQ=>by
  refine oF st.1 st.2 (x:=items[i]) (by simp [hi]) λh' Ik hs'=>?_
  exact hQ _ h' s.toks (by simp [hi]) ⟨Ik,st.2.extBut hs'.extBut hne⟩ hs'
 done:=λs Q E st hE=>qw hh st.1 st.2 (by simp) hE
theorem w4 (l:Addr) (items:Array V3) (n:Nat) (dct:Option Addr) (sl:Array (Option V3)) :
  Meets (ad2.«enumerate.__new__» ⟨[.type "enumerate",.ref l],[]⟩) (λ_ R s=>s.heap.get? l=some {cls:=.type "tuple",dict:=dct,data:=.seq items n,slots:=sl} ∧
   R (.ok (.ret (.ref (s.heap.push {cls:=.type "tuple_iterator",data:=.fields #[.ref l,.int 0 0]}).objs.size)))
    {s with heap:=(s.heap.push {cls:=.type "tuple_iterator",data:=.fields #[.ref l,.int 0 0]}).push {cls:=.type "enumerate",data:=.fields #[.none,.bool false,.ref s.heap.objs.size,rawInt 0,.none,.none]}}):=
 .of_wp λprog w A R s h=>by
  obtain ⟨hp,g,d,tk,os⟩:=s;obtain ⟨hl,h⟩:=h
  have hsub:=sub_enumerate
  have hL:Heap.IsTuple (Shared.heap ⟨hp,g,d,tk,os⟩) l items:=⟨_,hl,rfl,n,rfl⟩
  wp_walk using aaD hl
  refine wpAny_stack_any λst=>YN ?_
  split
  ·rename_i c _ _ _ _ _
   cases (c==Value.type "enumerate")
   ·wp_walk using aaD hl,aa8 hL
    exact ⟨_,rfl,h⟩
   ·wp_walk using aaD hl,aa8 hL
    exact ⟨_,rfl,h⟩
  ·wp_walk using aaD hl,aa8 hL
   exact ⟨_,rfl,h⟩
theorem r9 {prog:Zg} {w:Zs} {A:Around} {E:V3→YB→Prop} {Q:V3→YB→Prop} (hL:s.heap.IsTuple l items)
  (h:∀ h',IsEnum h' (s.heap.objs.size+1) s.heap.objs.size 0 .none→h'.IsTupleIter s.heap.objs.size l 0→h'.objs.size=s.heap.objs.size+2 →
   (∀ b o,s.heap.get? b=some o→h'.get? b=some o)→Q (.ref (s.heap.objs.size+1)) {s with heap:=h'}) :
  Y0 (model prog w) A (call (.type "enumerate") [.ref l]) Q E s:=by
 obtain ⟨⟨c,dct,dt,sl⟩,hl,hc,n,hd⟩:=hL
 replace hc:c=.type "tuple":=hc
 replace hd:dt=.seq items n:=hd
 subst hc hd
 refine callType_new F.called_enumerate (by decide) (F.typeCall_enumerate_1 _) (F.newCall_enumerate_1 _) (λobj=>acZ obj _) F.entry_enumerate_new
  (w4 l items n dct sl) ⟨hl,?_⟩
 have hz:(s.heap.push {cls:=.type "tuple_iterator",data:=.fields #[.ref l,.int 0 0]}).objs.size=s.heap.objs.size+1:=aaG ..
 show _∧_
 rw [hz]
 have he:IsEnum ((s.heap.push {cls:=.type "tuple_iterator",data:=.fields #[.ref l,.int 0 0]}).push
   {cls:=.type "enumerate",data:=.fields #[.none,.bool false,.ref s.heap.objs.size,rawInt 0,.none,.none]}) (s.heap.objs.size+1) s.heap.objs.size 0 .none:=by
  have:=YM (s.heap.push {cls:=.type "tuple_iterator",data:=.fields #[.ref l,.int 0 0]})
   (o:={cls:=.type "enumerate",data:=.fields #[.none,.bool false,.ref s.heap.objs.size,rawInt 0,.none,.none]}) rfl
  rw [hz] at this;exact this
 refine ⟨⟨_,he,rfl⟩,h _ he ⟨_,YA _ (YM _ rfl),rfl,rfl⟩ (by rw [aaG,hz]) λb o x=>YA _ (YA _ x)⟩
noncomputable def MQ (K:Yz) (a:Addr):It:=
 ⟨λi H=>∃ xs x,mQ K H a xs∧xs[i]?=some x,λi H y H'=>∃ x p,(∀ xs,mQ K H a xs→xs[i]?=some x)∧H p=none∧y=.ref p∧H'=upd H p (.tup [.int i,x]),λi H=>∃ xs,mQ K H a xs∧xs.length=i⟩
theorem yX {k:Nat} {pt:Pos} (l e it:Addr) (hne:e≠it) (hle:l≠e) (hli:l≠it):Turn P w K (.Tuple es k pt) (MQ K l) [e,it] e (λi h=>∃ old,IsEnum h e it i old∧h.IsTupleIter it l i) where
 mem:=by simp
 obj:=λi h zz b hb=>by
  obtain ⟨old,st1,st2⟩:=zz
  rcases Y6.mp hb with rfl | hb
  ·exact ⟨_,st1,λv z=>by cases z⟩
  ·have e:b=it:=by simpa using hb
   subst e
   obtain ⟨o,e,c,d⟩:=st2
   exact ⟨o,e,λv z=>by rw [d] at z;cases z⟩
 keep:=λi h h' zz kp=>by obtain ⟨old,st1,st2⟩:=zz;exact ⟨old,kp e (by simp) _ st1,st2.at λo q=>kp it (by simp) o q⟩
 item:=by
  intro X hP hw hK hc i pins s σ H E I hf zu hg
  obtain ⟨old,st1,st2⟩:=zu
  subst hP hw hK
  obtain ⟨xs,x,hq,hx⟩:=hg
  obtain ⟨its,rv,p,hz⟩:=I.tuple hq
  obtain ⟨u,hu,ru⟩:=rv.get hx
  have Sw:e<s.heap.objs.size:=YI st1
  have ME:it<s.heap.objs.size:=by obtain ⟨o,q,_⟩:=st2;exact YI q
  have hlen:i<its.length:=(Yw.mp hu).1
  refine wpAny_pyNext_enum_itemD (tw (show X.A.in1.handled=none from I.ok.hd hc) it l hli its.toArray) st1 ⟨st2,p⟩ (by simpa using hlen) hne (by simp [hne,Z2 hle]) λx' h' tk hx' hO hst htup hsz kp=>?_
  have V1:x'=u:=by
   have e:its.toArray[i]?=some x':=hx'
   rw [abt,hu] at e
   exact (Zd e).symm
  subst V1
  have hL:=hst.1
  refine ⟨.ref s.heap.objs.size,rfl,?_⟩
  have I1:Inv X pins σ (upd H s.heap.objs.size (.tup [.int i,x])) {s with heap:=s.heap.push {cls:=.type "tuple",data:=.seq #[.int i tk,x']}}:=
   I.laid (t':=s.toks) (λb o q=>YA _ q) (YE _) ⟨by simp [sizeLine_eq],[.int i tk,x'],.cons ⟨_,rfl⟩ (.cons ru .nil),acB _ _⟩
  have hfree:=I.hok.fresh (YE s.heap.objs.size)
  have hf1:∀ b∈[e,it],lS X pins (upd H s.heap.objs.size (.tup [.int i,x])) b:=λb hb=>by
   have hlt:b≠s.heap.objs.size:=by
    rcases Y6.mp hb with rfl | hb
    ·exact YU Sw
    ·rw [Y7.mp hb];exact YU ME
   exact ⟨by rw [av hlt];exact (hf b hb).1,(hf b hb).2⟩
  unfold letOwnedTupleGo
  refine Yu (abV hO ?_)
  dsimp only
  rw [if_pos (by simp)]
  refine Yu (ad0 ?_)
  unfold updateField
  refine Yu (abV hO ?_)
  dsimp only
  rw [if_pos (by simp)]
  refine wpAny_update hO ?_
  have vR:∀ b,b≠e→(h'.update e (aah λx=>x.setIfInBounds 0 Value.none)).get? b=h'.get? b:=λb hb=>ZR _ _ (Z2 hb)
  refine ⟨.ref s.heap.objs.size,_,Af (t':=tk+1) (s:={s with heap:=s.heap.push {cls:=.type "tuple",data:=.seq #[.int i tk,x']}}) (ch:=[e,it]) I1 (λb o hb q=>?_) hf1,rfl,⟨x,s.heap.objs.size,λys hy=>by rw [I.sr hy hq];exact hx,hfree,rfl,rfl⟩,⟨x',?_,?_⟩,λb hb=>(hf1 b hb).1⟩
  ·have hb1:b≠e:=λz=>hb (by simp [z])
   have hb2:b≠it:=λz=>hb (by simp [z])
   show (h'.update e _).get? b=some o
   rw [vR b hb1]
   by_cases J4:b=s.heap.objs.size
   ·subst J4
    have:=YM (o:={cls:=.type "tuple",data:=.seq #[.int (i:Int) tk,x']}) s.heap rfl
    rw [this] at q;cases q
    exact htup
   ·have q':(s.heap.push {cls:=.type "tuple",data:=.seq #[.int (i:Int) tk,x']}).get? b=some o:=q
    refine kp b o hb1 hb2 ?_
    rwa [adt _ _ _ J4] at q'
  ·show (h'.update e _).get? e=_
   rw [ZX _ hO rfl]
   rfl
  ·exact hL.at λo q=>(vR it (Z2 hne)).trans q
 done:=by
  intro X hP hw hK hc i pins s σ H E I hf zu hg
  obtain ⟨old,st1,st2⟩:=zu
  subst hP hw hK
  obtain ⟨xs,hq,hx⟩:=hg
  obtain ⟨its,rv,p,hz⟩:=I.tuple hq
  obtain ⟨f0,f1,f2,f3,f4,f5⟩:=hf it (by simp)
  have hl:=rv.length
  have hi:i=its.toArray.size:=by simp;nofun
  subst hi
  exact wpAny_pyNext_enum_endD (tw (show X.A.in1.handled=none from I.ok.hd hc) it l hli its.toArray) st1 ⟨st2,p⟩ λh' eb=>⟨rfl,I.turned (t':=s.toks) (λb o hb e=>eb b o hb e) f0 f1 f3 f4 f5⟩
 self:=λ_ _ _ _ _ zz h=>by obtain ⟨old,st1,_⟩:=zz;exact abl st1 h
noncomputable def j7 (xs:List D):View:=λ_ i=>if i≤xs.length then some (xs[i]?.map λx=>.tup [.int i,x]) else none
noncomputable def cV (m:DS→M (List D)):MI:=λτ=>(m τ).bind λds=>match ds with
 | [d]=>λG=>match aD G d with
  | some (.lst xs)=>.ok (xs.length+1,fH d) G
  | some (.tup xs)=>.ok (xs.length+1,j7 xs) G
  | _=>.stuck
 | _=>M.stop
theorem Eg (V2:rW H0 l uJ) (HZ:au K mg ρ0 H0 zs uJ):JV K mg (MQ K l) (j7 zs) H0 ρ0:=by
 intro i H ρ G f hp
 have sq:=rW.t (K:=K) (f.tup _ _ V2)
 have rs:=HZ.mono f
 unfold j7
 constructor
 ·intro e
  by_cases hi:i≤zs.length
  ·rw [if_pos hi] at e
   cases qi:zs[i]? with
   | some z=>rw [qi] at e;cases e
   | none=>
    have:=Zv.mp qi
    exact ⟨uJ,sq,by rw [← rs.length];nofun⟩
  ·rw [if_neg hi] at e;cases e
 ·intro dd e
  by_cases hi:i≤zs.length
  ·rw [if_pos hi] at e
   cases qi:zs[i]? with
   | none=>rw [qi] at e;cases e
   | some z=>
    rw [qi] at e;cases e
    obtain ⟨v,ev,rv⟩:=rs.get qi
    refine ⟨⟨uJ,v,sq,ev⟩,λy H' hy=>?_⟩
    obtain ⟨v',p,ev',hp0,rfl,rfl⟩:=hy
    have ev':=ev' uJ sq
    rw [ev] at ev';cases ev'
    refine ⟨wI.new hp0,?_⟩
    unfold Rep
    refine ⟨p,[.int i,v],rfl,.of aM,.cons (by unfold Rep;rfl) (.cons (Rep.mono (cR hp0 ρ) _ _ rv) .nil)⟩
  ·rw [if_neg hi] at e;cases e
section
variable {X:Cx} {EE:bW} {a:Expr} {p pc:Pos} {m:DS→M (List D)}
theorem Eh {k:Nat} {pt:Pos} (hm:X.mg "enumerate"=none) (oR:Gl X "enumerate") (ha:QA X EE [a] m) (h:az [a]=true:=by rfl):QI X EE (.Tuple es k pt) (.Call (.Name "enumerate" p) [a] [] pc) (cV m):=by
 have h':br a=true∧az []=true:=by simpa [az] using h
 intro pins s σ H R I hq
 obtain ⟨τ,ρ,G,ab,ok⟩:=hq
 by_cases hT:∃ d G1 zs,m τ G=.ok [d] G1∧aD G1 d=some (.tup zs)
 ·obtain ⟨d,G1,zs,em,q⟩:=hT
  dsimp only [cV,M.bind] at ok
  rw [em] at ok
  dsimp only at ok
  rw [q] at ok
  dsimp only at ok
  refine Ze (fO I oR hm sX ?_ (by decide) (by decide))
  have hA:iu X.K X.mg EE m σ H λvs H1=>∃ ρ1,Ab X.K X.mg σ H1 τ ρ1 G1∧bS X.K H H1 ρ ρ1∧au X.K X.mg ρ1 H1 [d] vs:=by
   refine ⟨τ,ρ,G,ab,?_⟩
   rw [em]
   exact λvs H' ρ' f bu r=>⟨ρ',bu,f,r⟩
  refine Zb (dh (ha pc pins s σ H _ I hA) λus s1 oO=>?_) (aP h'.1 _ _) (bw (es:=[]) rfl)
  obtain ⟨vs,H1,I1,r1,ρ1,fM,f1,rs⟩:=oO
  obtain ⟨x,rfl,rx⟩:=iw rs
  obtain ⟨u,rfl,ru⟩:=vals1 r1
  obtain ⟨l,ys,rfl,sq,rv⟩:=pQ rx q
  cases ru
  obtain ⟨its,vv,pl,hz⟩:=I1.tuple sq.t
  have hlt:l<s1.heap.objs.size:=by obtain ⟨_,e,_⟩:=pl;exact YI e
  refine r9 pl λh2 hE hL hsz kp=>?_
  refine abl hE ?_
  have I2:Inv X pins σ H1 {s1 with heap:=h2}:=I1.kept (t':=s1.toks) kp
  refine ⟨s1.heap.objs.size+1,[s1.heap.objs.size+1,s1.heap.objs.size],_,MQ X.K l,H1,rfl,I2,yX l _ _ (adG _) (YU (ab7 hlt)) (YU hlt),⟨_,hE,hL⟩,λb hb=>?_,ok _ H1 ρ1 f1 fM (Eg sq rv)⟩
  rcases Y6.mp hb with rfl | hb
  ·exact I1.ou (acW _) (I1.hok.fresh (acW _))
  ·rw [Y7.mp hb]
   exact I1.ou (YE _) (I1.hok.fresh (YE _))
 ·refine HY hm oR ha h pins s σ H R I ⟨τ,ρ,G,ab,?_⟩
  have e:wM m τ G=cV m τ G:=by
   dsimp only [cV,wM,M.bind]
   cases em:m τ G with
   | stuck=>rfl
   | bC c G'=>rfl
   | ok ds G'=>
    dsimp only
    match ds with
    | []=>rfl
    | _::_::_=>rfl
    | [d]=>
     dsimp only
     cases q:aD G' d with
     | none=>rfl
     | some sk=>
      cases sk with
      | lst _=>rfl
      | str _=>rfl
      | tup zs=>exact absurd ⟨d,G',zs,em,q⟩ hT
  rw [e];exact ok
end
noncomputable abbrev DN (s:Str):Prop:=(s==("__debug__":Str))=false∧(s==("__classdict__":Str))=false
noncomputable def Out.fw (r:Out D) (G:DH):Out D:=match r with
 | .ok (.obj n) G'=>match G'[n]? with
  | some (.lst ds)=>if n=G.length∧G'.length=n+1∧l7 (G'.take G.length) G=true∧aH ds=true then .ok (.con ds) G else .stuck
  | _=>.stuck
 | r=>r
noncomputable def Out.fz (r:Out D):Out D:=match r with
 | .ok (.obj n) G'=>match G'[n]? with
  | some (.lst ds)=>.ok (.con ds) (G'.set n .dead)
  | _=>.stuck
 | r=>r
section
variable {τ:DS} {G G' A B R:DH} {e ma mb mc:DS→M D} {n i:Nat} {d:D} {c:XD} {ml:DS→M (List D)} {ds xs ys:List D} {m:List D→M D}
theorem bP:eFn e τ G=(e τ G).fw G:=YH rfl rfl
@[simp] theorem PB:yp e τ G=(e τ G).fz:=YH rfl rfl
@[simp] theorem Ei:(Out.ok (.tup xs) G').fw G=.ok (.tup xs) G':=YH rfl rfl
@[simp] theorem SD:(Out.ok (.con xs) G').fw G=.ok (.con xs) G':=YH rfl rfl
@[simp] theorem SE {z:Str}:(Out.ok (.str z) G').fw G=.ok (.str z) G':=YH rfl rfl
@[simp] theorem SG {j:Int}:(Out.ok (.int j) G').fw G=.ok (.int j) G':=YH rfl rfl
theorem dZ (h:aH ds=true):(Out.ok (.obj G.length) (G++[.lst ds])).fw G=.ok (.con ds) G:=by
 simp [Out.fw,h,m8]
theorem cT (hz:ds.length≤Yx) (h:aH ds=true):(aS ds G).fw G=.ok (.con ds) G:=by
 rw [aS,if_pos hz,dZ h]
@[simp] theorem J9:(Out.ok (.obj A.length) (A++.lst ds::B)).fz=.ok (.con ds) (A++.dead::B):=by
 simp [Out.fz,vU]
theorem fB {d:D} (h:m ds G=.ok d (G++R)) (hc:d.closed=true):ck m ds G=.ok d G:=by
 simp [ck,h,hc,m8]
theorem bz {d:D} (h:m ds G=.ok d G) (hc:d.closed=true):ck m ds G=.ok d G:=fB (R:=[]) (by simpa using h) hc
@[simp] theorem SH:Eb ml τ G=(ml τ G).bd λds=>match ds with
 | [d]=>λG=>match aD G d with
  | some (.lst xs)=>.ok (xs.length+1,yU d xs.length) G
  | _=>.stuck
 | _=>M.stop:=ah
@[simp] theorem SI:SA ml τ G=(ml τ G).bd λds=>match ds with
 | [d,e]=>λG=>match aD G d,aD G e with
  | some (.lst xs),some (.lst ys)=>.ok (min xs.length ys.length+1,Pw d e) G
  | _,_=>.stuck
 | _=>M.stop:=ah
@[simp] theorem j8:cV ml τ G=(ml τ G).bd λds=>match ds with
 | [d]=>λG=>match aD G d with
  | some (.lst xs)=>.ok (xs.length+1,fH d) G
  | some (.tup xs)=>.ok (xs.length+1,j7 xs) G
  | _=>.stuck
 | _=>M.stop:=ah
@[simp] theorem Il:nY ml τ G=(ml τ G).bd λds=>match ints3 ds with
 | some (lo,hi,c)=>λG=>if -(2^30)≤lo∧lo<2^30∧-(2^30)≤hi∧hi<2^30∧0<c∧c<2^30 then .ok (ic lo hi c+1,qp lo c (ic lo hi c)) G else .stuck
 | none=>M.stop:=ah
@[simp] theorem Ak:sZ τ G=.ok (.obj G.length) (G++[.dct []]):=YH rfl rfl
@[simp] theorem Ej:iL ma mb mc τ G=(ma τ G).bd λd G=>if tu G d=true then (mb τ G).bd (λk=>(mc τ).bind λx=>Aj d k x) else .stuck:=by
 unfold iL
 rw [ah]
 unfold Out.bd
 cases ma τ G with
 | stuck=>rfl
 | bC c G=>rfl
 | ok d G'=>simp only [ah];rfl
@[simp] theorem uL:eY ma mb mc τ G=((ma τ G).bd λv=>(mb τ).bind λo=>(mc τ).bind λi=>k6 v o i).xp τ:=by
 unfold eY bL Out.xp
 rw [ah]
 cases ((ma τ G).bd λv=>(mb τ).bind λo=>(mc τ).bind λi=>k6 v o i)<;>rfl
theorem iZ {g:jT} {body:MS} {vw:View} (hv:∀ G i,i≤xs.length→vw G i=some xs[i]?):∀ (fuel i:Nat) (τ:DS) (G:DH),i≤xs.length→xs.length<fuel+i→iW g body vw fuel i τ G=bI g body (xs.drop i) τ G
 | 0,i,τ,G,h1,h2=>by nofun
 | fuel+1,i,τ,G,h1,h2=>by
  rw [iW]
  dsimp only
  rw [hv G i h1]
  by_cases hi:i<xs.length
  ·rw [YD hi,ZV hi,bI]
   dsimp only
   cases g xs[i] τ with
   | none=>rfl
   | some τ1=>
    dsimp only
    cases body τ1 G with
    | nx τ2 G2=>exact iZ hv fuel (i+1) τ2 G2 (by nofun) (by nofun)
    | ct τ2 G2=>exact iZ hv fuel (i+1) τ2 G2 (by nofun) (by nofun)
    | _=>rfl
  ·rw [ZY (by nofun),aaf (by nofun),bI]
theorem i6 {gO:D→Option (List D)} {ks:List Bool} {tt:DS→M Bool} {te:DS→M D} {vw:View} (hv:∀ G i,i≤xs.length→vw G i=some xs[i]?):∀ (fuel i:Nat) (τ:DS) (G:DH),i≤xs.length→xs.length<fuel+i→iX gO ks tt te n vw fuel i τ G=cz gO ks tt te n (xs.drop i) τ G
 | 0,i,τ,G,h1,h2=>by nofun
 | fuel+1,i,τ,G,h1,h2=>by
  rw [iX]
  rw [hv G i h1]
  by_cases hi:i<xs.length
  ·rw [YD hi,ZV hi,cz]
   dsimp only
   cases dD gO ks tt te n xs[i] τ G with
   | ok u G2=>exact i6 hv fuel (i+1) τ G2 (by nofun) (by nofun)
   | _=>rfl
  ·rw [ZY (by nofun),aaf (by nofun),cz]
theorem Al {body:MS}:iW g body (yU (.con xs) xs.length) (xs.length+1) 0 τ G=bI g body xs.reverse τ G:=by
 have:=iZ (g:=g) (body:=body) (xs:=xs.reverse) (vw:=yU (.con xs) xs.length) (λG i h=>by
  simp only [abP] at h
  simp only [yU,aD,if_true]
  by_cases hi:i=xs.length
  ·rw [if_pos hi,ZY (by simp;nofun)]
  ·rw [if_neg hi,if_pos (by nofun),acK (by nofun)]) (xs.length+1) 0 τ G (by simp) (by simp)
 simpa using this
theorem yY:iX gO ks tt te n (j7 xs) (xs.length+1) 0 τ G=cz gO ks tt te n (xs.mapIdx λi x=>.tup [.int i,x]) τ G:=by
 have:=i6 (n:=n) (gO:=gO) (ks:=ks) (tt:=tt) (te:=te) (xs:=xs.mapIdx λi x=>D.tup [.int i,x]) (vw:=j7 xs) (λG i h=>by
  simp only [List.length_mapIdx] at h
  simp only [j7,if_pos h,aaW]) (xs.length+1) 0 τ G (by simp) (by simp)
 simpa using this
theorem Ek {c:Int} {k:Nat}:iX gO ks tt te n (qp lo c k) (k+1) 0 τ G=cz gO ks tt te n ((Y9 k).map λ(i:Nat)=>.int (lo+(i:Int)*c)) τ G:=by
 have:=i6 (n:=n) (gO:=gO) (ks:=ks) (tt:=tt) (te:=te) (xs:=(Y9 k).map λ(i:Nat)=>D.int (lo+(i:Int)*c)) (vw:=qp lo c k) (λG i h=>by
  simp only [YL,adw] at h
  simp only [qp,YK]
  by_cases hi:i<k
  ·rw [if_pos hi,ac4 hi];rfl
  ·rw [if_neg hi,ZY (by simp;nofun)];rfl) (k+1) 0 τ G (by simp) (by simp)
 simpa using this
theorem yZ {x v:D} (h1:gO x=some os) (h2:te (os.map some++mask ks τ) (G++[.lst acc])=.ok v (G++[.lst acc])) (hz:acc.length<Yx) :
  dD gO ks bV te G.length x τ (G++[.lst acc])=.ok () (G++[.lst (acc++[v])]):=by
 simp only [dD,h1,bV,M.ret,h2,p8,if_pos hz,vU]
theorem bH {gO:D→Option (List D)} {ks:List Bool} {te:DS→M D} {own:D→List D} {f:D→D}:∀ (xs acc:List D),acc.length+xs.length≤1000000→(∀ x∈xs,gO x=some (own x))→(∀ x∈xs,∀ acc,te ((own x).map some++mask ks τ) (G++[.lst acc])=.ok (f x) (G++[.lst acc])) →
  cz gO ks bV te G.length xs τ (G++[.lst acc])=.ok (.obj G.length) (G++[.lst (acc++xs.map f)])
 | [],acc,_,_,_=>by simp [cz]
 | x::xs,acc,hl,h1,h2=>by
  have hz:acc.length<Yx:=YG (by simp at hl;nofun) (lz (n:=1000001) (by nofun))
  rw [cz,yZ (h1 x (by simp)) (h2 x (by simp) acc) hz]
  dsimp only
  rw [bH xs (acc++[f x]) (by simp at hl ⊢;nofun) (λy hy=>h1 y (by simp [hy])) (λy hy=>h2 y (by simp [hy]))]
  simp
end
theorem qx:∀ {xs:List D},(∀ x∈xs,x.closed=true)→aH xs=true
 | [],_=>rfl
 | x::xs,h=>by rw [aH,h x (by simp),qx λy hy=>h y (by simp [hy])];rfl
theorem ay {α:Type} {f:α→D} {l:List α} (h:∀ x,(f x).closed=true):aH (l.map f)=true:=qx (by
 intro x hx
 obtain ⟨a,_,rfl⟩:=YX.mp hx
 exact h a)
theorem aL {xs:List D}:(D.con xs).closed=aH xs:=by rw [D.closed]
theorem d7 {xs:List D}:(D.tup xs).closed=aH xs:=by rw [D.closed]
theorem aV {i:Int}:(D.int i).closed=true:=by rw [D.closed]<;>simp
theorem bY {i:Str}:(D.str i).closed=true:=by rw [D.closed]<;>simp
theorem dw:aH []=true:=rfl
theorem aR {x:D} {xs:List D}:aH (x::xs)=(x.closed&&aH xs):=by rw [aH]
theorem j9:∀ {xs ys:List D},aH (xs++ys)=(aH xs&&aH ys)
 | [],ys=>by simp [aH]
 | x::xs,ys=>by simp [aH,j9 (xs:=xs),Bool.and_assoc]
mutual
noncomputable def D.pd:D→PyData
 | .bl b=>.bool b
 | .int i=>.int i
 | .str x=>.str x
 | .tup ds=>.tuple (oY ds)
 | .con ds=>.list (oY ds)
 | _=>.none
noncomputable def oY:List D→List PyData
 | []=>[]
 | d::r=>d.pd::oY r
end
mutual
noncomputable def D.plain:D→Bool
 | .tup ds=>cY ds
 | .con ds=>cY ds
 | .str x=>YC x
 | .obj _=>false
 | .yl _ _=>false
 | .jU _ _=>false
 | .fn _=>false
 | _=>true
noncomputable def cY:List D→Bool
 | []=>true
 | d::r=>d.plain&&cY r
end
mutual
noncomputable def D.dp:D→Nat
 | .tup ds=>yq ds+1
 | .con ds=>yq ds+1
 | _=>0
noncomputable def yq:List D→Nat
 | []=>0
 | d::r=>max d.dp (yq r)
end
mutual
theorem qy (G:DH):∀ (d:D) (n:Nat),d.plain=true→d.dp<n→jN G n d=some d.pd
 | .dP,n+1,_,_=>by simp [jN,D.pd]
 | .bl b,n+1,_,_=>by simp [jN,D.pd]
 | .int b,n+1,_,_=>by simp [jN,D.pd]
 | .str b,n+1,_,_=>by simp [jN,D.pd]
 | .tup ds,n+1,h,hn=>by
  rw [jN,oZ G ds n (by simpa [D.plain] using h) (by rw [D.dp] at hn;nofun),D.pd];rfl
 | .con ds,n+1,h,hn=>by
  rw [jN,oZ G ds n (by simpa [D.plain] using h) (by rw [D.dp] at hn;nofun),D.pd];rfl
 | .obj k,n+1,h,_=>by simp [D.plain] at h
 | .yl _ _,n+1,h,_=>by simp [D.plain] at h
 | .jU _ _,n+1,h,_=>by simp [D.plain] at h
 | .fn _,n+1,h,_=>by simp [D.plain] at h
theorem oZ (G:DH):∀ (ds:List D) (n:Nat),cY ds=true→yq ds<n→bR (jN G n) ds=some (oY ds)
 | [],n,_,_=>by simp [bR,oY]
 | d::ds,n,h,hn=>by
  have h':d.plain=true∧cY ds=true:=by simpa [cY] using h
  rw [yq] at hn
  rw [bR,qy G d n h'.1 (by nofun),oZ G ds n h'.2 (by nofun),oY]
end
mutual
theorem lay_of:∀ (d:D),d.plain=true→d.pd.canLay0=true
 | .dP,_=>by simp [D.pd,Z5]
 | .bl b,_=>by simp [D.pd,Z5]
 | .int b,_=>by simp [D.pd,Z5]
 | .str b,h=>by simpa [D.pd,Z5,D.plain] using h
 | .tup ds,h=>by
  rw [D.pd,Z5];exact uM ds (by simpa [D.plain] using h)
 | .con ds,h=>by
  rw [D.pd,Z5];exact uM ds (by simpa [D.plain] using h)
 | .obj k,h=>by simp [D.plain] at h
 | .yl _ _,h=>by simp [D.plain] at h
 | .jU _ _,h=>by simp [D.plain] at h
 | .fn _,h=>by simp [D.plain] at h
theorem uM:∀ (ds:List D),cY ds=true→ZT (oY ds)=true
 | [],_=>by simp [oY,ZT]
 | d::ds,h=>by
  have h':d.plain=true∧cY ds=true:=by simpa [cY] using h
  rw [oY,ZT,lay_of d h'.1,uM ds h'.2];rfl
end
mutual
theorem Am:∀ (d:D),d.pd.depth≤d.dp
 | .dP=>by simp [D.pd,ZL]
 | .bl b=>by simp [D.pd,ZL]
 | .int b=>by simp [D.pd,ZL]
 | .str b=>by simp [D.pd,ZL]
 | .tup ds=>by rw [D.pd,ZL,D.dp];exact adH (uN ds)
 | .con ds=>by rw [D.pd,ZL,D.dp];exact adH (uN ds)
 | .obj k=>by simp [D.pd,ZL]
 | .yl _ _=>by simp [D.pd,ZL]
 | .jU _ _=>by simp [D.pd,ZL]
 | .fn _=>by simp [D.pd,ZL]
theorem uN:∀ (ds:List D),aau (oY ds)≤yq ds
 | []=>by simp [oY,aau]
 | d::ds=>by
  rw [oY,aau,yq]
  have:=Am d
  have:=uN ds
  nofun
end
mutual
theorem qA:∀ (d:D),ZC d.pd d.pd=true
 | .dP=>by simp [D.pd,ZC]
 | .bl b=>by simp [D.pd,ZC]
 | .int b=>by simp [D.pd,ZC]
 | .str b=>by simp [D.pd,ZC]
 | .tup ds=>by rw [D.pd,ZC];exact nc ds
 | .con ds=>by rw [D.pd,ZC];exact nc ds
 | .obj k=>by simp [D.pd,ZC]
 | .yl _ _=>by simp [D.pd,ZC]
 | .jU _ _=>by simp [D.pd,ZC]
 | .fn _=>by simp [D.pd,ZC]
theorem nc:∀ (ds:List D),aaN (oY ds) (oY ds)=true
 | []=>by simp [oY,aaN]
 | d::ds=>by rw [oY,aaN,qA d,nc ds];rfl
end
theorem qB (g:Bool) (d:D) (G:DH) (h:d.plain=true) (hn:d.dp≤580):fT g d d G=.ok (.bl (g ^^ true)) G:=by
 have hd:=Am d
 unfold fT wA
 rw [qy G d deep h (by show d.dp<600;nofun)]
 dsimp only
 rw [if_pos (by rw [lay_of d h];simp;nofun),qA]
theorem Im (g:Bool) (ds:List D) (k:Nat) (G:DH) (hk:G[k]?=some (.lst ds)) (h:cY ds=true) (hn:yq ds≤570):fT g (.obj k) (.con ds) G=.ok (.bl (g ^^ true)) G:=by
 have hd:=uN ds
 have e1:jN G deep (.obj k)=some (D.con ds).pd:=by
  show (match G[k]? with
   | some (.lst ds)=>(bR (jN G 599) ds).map PyData.list
   | _=>none)=_
  rw [hk]
  dsimp only
  rw [oZ G ds 599 h (by nofun),D.pd];rfl
 have hp:(D.con ds).plain=true:=by rw [D.plain];exact h
 have XC:(D.con ds).dp≤580:=by rw [D.dp];nofun
 have:=Am (.con ds)
 unfold fT wA
 rw [e1,qy G (.con ds) deep hp (by show (D.con ds).dp<600;nofun)]
 dsimp only
 rw [if_pos (by rw [lay_of _ hp];simp;nofun),qA]
theorem ng:∀ {xs:List D},(∀ x∈xs,x.plain=true)→cY xs=true
 | [],_=>rfl
 | x::xs,h=>by rw [cY,h x (by simp),ng λy hy=>h y (by simp [hy])];rfl
theorem y9 {n:Nat}:∀ {xs:List D},(∀ x∈xs,x.dp≤n)→yq xs≤n
 | [],_=>Zq _
 | x::xs,h=>by
  rw [yq]
  have:=h x (by simp)
  have:=y9 (xs:=xs) λy hy=>h y (by simp [hy])
  nofun
section
variable {prog:Zg} {w:Zs} {A:Around} {E:V3→YB→Prop} {s:YB}
theorem kg {d:Addr} {es:Array DictEntry} {e:DictEntry} {Q:Option V3→YB→Prop} (hit:s.heap.IsKeyIter it d i es.size ep)
  (ho:s.heap.get? d=some o) (hx:o.ExactDict) (hd:o.data=.dict es ep) (he:es[i]?=some e)
  (hQ:∀ h',h'.IsKeyIter it d (i+1) es.size ep→aaL it s.heap h'→Q (some e.key) {s with heap:=h'}) :
  Y0 (model prog w) A (pyNext (.ref it)) Q E s:=by
 obtain ⟨oi,NT,Ut,hdi⟩:=id hit
 unfold pyNext
 refine Yu (wpAny_attempt (Z8 (name:=aaX "__next__") hit.typeIs ZM (aaj ZM hit.typeIs abI ?_ (abz _))))
 refine Yu (Yu (YN (YN ?_)))
 refine Yu ?_
 refine Yu (Yu (Z6 hit.typeIs (YN ?_)))
 refine Yu (wpAny_fieldsOf NT hdi ?_)
 rw [show aab "dict_keyiterator"=false from by decide]
 show Y0 _ _ (if (Value.ref d==Value.none)=true then _ else _) _ _ s
 rw [if_neg (show ¬ ((Value.ref d==Value.none)=true) from Zm)]
 refine Yu (YN ?_)
 refine Yu (ab8 ho hd ?_)
 dsimp only
 rw [if_neg (by simp)]
 refine Yu (YN ?_)
 refine Yu (acG ho hd ?_)
 rw [if_neg (by simp)]
 refine YN ?_
 dsimp only
 rw [if_neg (by nofun),aaQ,he]
 dsimp only
 refine Yu (Yu (Z6 hit.typeIs (YN ?_)))
 refine Yu (acM hit.typeIs ?_)
 rw [show aab "dict_keyiterator"=false from by decide]
 refine Yu (aaU NT hdi (by simp) ?_)
 refine Yu (ace ?_)
 simp only [Bool.false_eq_true,if_false]
 rw [if_neg (by decide)]
 have Ik:Heap.IsKeyIter (s.heap.update it (aah λx=>x.setIfInBounds (0+1) (rawInt (↑i+1)))) it d (i+1) es.size ep:=
  ⟨_,ZX _ NT (abr (aan hdi _)),(adv ..).trans Ut,by
   rw [aan hdi];simp [rawInt]⟩
 refine Yu (acM Ik.typeIs ?_)
 rw [if_pos (by decide)]
 exact YN (YN ⟨_,rfl,YN (hQ _ Ik (aa1 ..))⟩)
theorem k7 {d:Addr} {es:Array DictEntry} {Q:Option V3→YB→Prop} (hh:A.handled=none) (hit:s.heap.IsKeyIter it d i es.size ep)
  (ho:s.heap.get? d=some o) (hx:o.ExactDict) (hd:o.data=.dict es ep) (he:es[i]?=none)
  (hQ:∀ h',adP it s.heap h'→Q none {s with heap:=h'}) :
  Y0 (model prog w) A (pyNext (.ref it)) Q E s:=by
 obtain ⟨oi,NT,Ut,hdi⟩:=id hit
 unfold pyNext
 refine Yu (wpAny_attempt (Z8 (name:=aaX "__next__") hit.typeIs ZM (aaj ZM hit.typeIs abI ?_ (abz _))))
 refine Yu (Yu (YN (YN ?_)))
 refine Yu ?_
 refine Yu (Yu (Z6 hit.typeIs (YN ?_)))
 refine Yu (wpAny_fieldsOf NT hdi ?_)
 rw [show aab "dict_keyiterator"=false from by decide]
 show Y0 _ _ (if (Value.ref d==Value.none)=true then _ else _) _ _ s
 rw [if_neg (show ¬ ((Value.ref d==Value.none)=true) from Zm)]
 refine Yu (YN ?_)
 refine Yu (ab8 ho hd ?_)
 dsimp only
 rw [if_neg (by simp)]
 refine Yu (YN ?_)
 refine Yu (acG ho hd ?_)
 rw [if_neg (by simp)]
 refine YN ?_
 dsimp only
 rw [if_neg (by nofun),aaQ,he]
 dsimp only
 refine Yu (Yu (Z6 hit.typeIs (YN ?_)))
 rw [show aab "dict_keyiterator"=false from by decide]
 refine Yu (aaU NT hdi (by simp) ?_)
 refine Yu ?_
 simp only [newExc,newTuple]
 refine Yu (Zo ?_ (by size_fits))
 refine Yu (m:=firstArgMember _ _) (adR (a:=Value.none) (by first | rfl | (simp only [firstArgMember];rfl)) ?_)
 refine Zo ?_ (by size_fits)
 simp only [raiseNew]
 refine Yu (wpAny_handled ?_)
 first | rw [show A.in1.handled=none from hh] | rw [hh]
 refine Yu (YN (adQ ?_))
 refine Yu (adF (T:="StopIteration") (v:=.ref _) ?_ isSubtype_stop ?_)
 ·exact ⟨_,YM _ rfl,rfl⟩
 rw [if_pos rfl]
 exact YN (hQ _ (((aa1 ..).extBut.push _).push _))
theorem tB {d:Addr} {es:Array DictEntry} {Q:V3→YB→Prop} (hne:(d==sysModules)=false)
  (ho:s.heap.get? d=some o) (hx:o.ExactDict) (hd:o.data=.dict es ep)
  (hQ:Q (.ref s.heap.objs.size) {s with heap:=s.heap.push {cls:=.type "dict_keyiterator",data:=.fields #[.ref d,.int 0 0,.int es.size 0,.int ep 0]}}) :
  Y0 (model prog w) A (pyIter (.ref d)) Q E s:=by
 have ht:s.TypeIs (.ref d) "dict":=⟨_,ho,hx.1⟩
 refine wpAny_pyIter_slot ht adI (aaj adI ht F.entry_dict_iter ?_ (F.args_dict_iter_1 _))
 refine Yu (Yu (wpAny_notOrdered_dict ht ?_))
 refine Yu (YN (YN ?_))
 refine Yu (YN ?_)
 refine Yu (m:=acN _) ?_
 unfold acN
 rw [if_neg (by rw [hne];exact Zm)]
 refine YN ?_
 refine Yu (ab8 ho hd ?_)
 refine Yu (acG ho hd ?_)
 refine Yu (Zo ?_ (by size_fits))
 exact YN ⟨_,rfl,"dict_keyiterator",_,⟨_,YM _ rfl,rfl⟩,ZM.lookup,hQ⟩
end
noncomputable def qC:D→Option (List Key)
 | .tup ds=>bR iK ds
 | _=>none
noncomputable def nh:Key→D
 | .inl i=>.int i
 | .inr x=>.str x
section
variable {K:Yz} {mg:Str→Option V3} {H:Hp} {ρ:List Addr} {G:DH}
theorem w6:∀ {ds:List D} {xs:List V} {ks:List Key},au K mg ρ H ds xs→bR iK ds=some ks→xs=ks.map kV
 | [],xs,ks,r,e=>by
  unfold au at r;subst r
  cases e;rfl
 | d::ds,xs,ks,r,e=>by
  unfold au at r
  obtain ⟨v,vs,rfl,h1,h2⟩:=r
  unfold bR at e
  cases q1:iK d with
  | none=>rw [q1] at e;cases e
  | some k=>
   cases q2:bR iK ds with
   | none=>rw [q1,q2] at e;cases e
   | some r=>
    rw [q1,q2] at e;cases e
    rw [oX h1 q1,w6 h2 q2];rfl
theorem w9 {d:D} {ks:List Key} (r:Rep K mg ρ H d v) (e:qC d=some ks):∃ b,v=.ref b∧H b=some (.tup (ks.map kV)):=by
 cases d with
 | tup ds=>
  unfold Rep at r
  obtain ⟨a,xs,rfl,sq,rs⟩:=r
  exact ⟨a,rfl,by rw [← w6 rs e];exact sq⟩
 | _=>cases e
theorem xg:∀ (ks:List Key),au K mg ρ H (ks.map nh) (ks.map kV)
 | []=>.nil
 | k::ks=>.cons (by cases k<;>(unfold Rep;rfl)) (xg ks)
noncomputable def Io (fz:Bool) (H:Hp) (a:Addr) (u:List (List Key×V)):Prop:=if fz=true then ∃ o,H a=some (.cy o (.dT u)) else H a=some (.dT u)
theorem Io.rd {fz:Bool} (h:Io fz H a u):Rd H a (.dT u):=by
 cases fz
 ·exact .inl h
 ·exact .inr h
theorem eO.fV {fz:Bool} {kvs:List (List Key×D)} (h:eO K mg H ρ G) (e:G[n]?=some (.fV fz kvs)):∃ a xs,ρ[n]?=some a∧Io fz H a ((kvs.map (·.1)).zip xs)∧au K mg ρ H (kvs.map (·.2)) xs:=by
 obtain ⟨a,e1,xs,e2,r⟩:=h.ob n _ e
 exact ⟨a,xs,e1,e2,r⟩
theorem mq (hp:H p=some (.dT u)) (ρ:List Addr):bS K H (upd H p ob) ρ ρ:=by
 refine ⟨λa zs h=>?_,λa q w h=>by rw [av (cD h hp (by intro z;cases z))];exact h,⟨[],by simp⟩,λa φ h=>by rw [av (cD h hp (by intro z;cases z))];exact h⟩
 ·rw [rW] at h ⊢;rw [av (cD h hp (by intro z;cases z))];exact h
theorem eO.PC (h:eO K mg H ρ G) (hp:H p=none):eO K mg (upd H p (.dT [])) (ρ++[p]) (G++[.fV false []]):=by
 have f:bS K H (upd H p (.dT [])) ρ (ρ++[p]):=(cR hp ρ).trans (cE ρ p)
 refine ⟨by simp [h.hl],?_,λn ob e=>?_⟩
 ·rw [ZS]
  refine ⟨h.nd,by simp,λa ha b hb=>?_⟩
  have e:b=p:=by simpa using hb
  subst e
  rintro rfl
  exact h.not_mem hp ha
 ·by_cases hn:n<G.length
  ·rw [YQ hn] at e
   obtain ⟨a,e1,r'⟩:=h.ob n ob e
   exact ⟨a,f.get e1,r'.mono f λu q=>by rw [av (bX q hp)];exact q⟩
  ·have hl:n<(G++[DO.fV false []]).length:=(Yw.mp e).1
   have hn':n=G.length:=by simp at hl;nofun
   subst hn'
   rw [aB] at e
   cases e
   exact ⟨p,by rw [← h.hl,aB],[],aM,.nil⟩
theorem eO.PD {fz:Bool} {es:List (List Key×D)} (h:eO K mg H ρ G) (hn:ρ[n]?=some a) (ha:H a=some (.dT u))
  (ho:Io fz (upd H a ob) a ((es.map (·.1)).zip ys)) (r:au K mg ρ H (es.map (·.2)) ys) :
  eO K mg (upd H a ob) ρ (G.set n (.fV fz es)):=by
 have f:bS K H (upd H a ob) ρ ρ:=mq ha ρ
 refine ⟨by simp [h.hl],h.nd,λm o e=>?_⟩
 by_cases hm:n=m
 ·subst hm
  rw [Zr,if_pos rfl] at e
  split at e
  ·cases e
   exact ⟨a,hn,ys,ho,r.mono f⟩
  ·cases e
 ·rw [Zh hm] at e
  obtain ⟨b,e1,r'⟩:=h.ob m o e
  have hb:b≠a:=by
   rintro rfl
   obtain ⟨h1,vQ⟩:=Yw.mp hn
   obtain ⟨h2,ym⟩:=Yw.mp e1
   exact hm ((ZE h.nd).mp (vQ.trans ym.symm))
  exact ⟨b,e1,r'.mono f λu q=>by rw [av hb];exact q⟩
end
section
variable {X:Cx} {EE:bW} {e f o i a:Expr} {pos apos cpos tpos:Pos} {mo me mf mv mi:DS→M D}
noncomputable def za:DS→M D:=λ_ G=>.ok (.obj G.length) (G++[.fV false []])
theorem El:QE X EE (.Dict [] [] pos) za:=PE.mono C5 λσ H Q ⟨τ,ρ,G,ab,ok⟩=>λp hp=>by
 refine ok (.ref p) _ (ρ++[p]) ((cR hp ρ).trans (cE ρ p)) ⟨ab.st.mono ((cR hp ρ).trans (cE ρ p)),ab.hp.PC hp⟩ ?_
 unfold Rep
 exact ⟨p,rfl,by rw [← ab.hp.hl,aB]⟩
noncomputable def Em (d k:D):M D:=λG=>match d,qC k with
 | .obj n,some y=>match G[n]? with
  | some (.fV _ kvs)=>match cX kvs y with
   | some v=>.ok v G
   | none=>.stuck
  | _=>.stuck
 | _,_=>.stuck
noncomputable def xh (mo mi:DS→M D):DS→M D:=λτ=>(mo τ).bind λd=>(mi τ).bind λk=>Em d k
theorem Ip (hu:X.A.units+600<cLine) (ho:QE X EE o mo) (hi:QE X EE i mi) (hs:C2 i):QE X EE (.Subscript o i pos) (xh mo mi):=by
 refine PE.mono (zZ (by nofun) ho hi hs) λσ H Q zz=>?_
 obtain ⟨τ,ρ,G,ab,ok⟩:=zz
 refine ⟨τ,ρ,G,ab,?_⟩
 dsimp only [xh,M.bind] at ok
 cases e1:mo τ G with
 | stuck=>rw [e1] at ok;exact ok
 | bC c G'=>rw [e1] at ok;exact ok
 | ok d G1=>
  rw [e1] at ok
  dsimp only at ok
  intro vd H1 ρ1 f1 fM r1
  refine ⟨τ,ρ1,G1,fM,?_⟩
  cases e2:mi τ G1 with
  | stuck=>rw [e2] at ok;exact ok
  | bC c G'=>rw [e2] at ok;exact λH' ρ' f bu=>ok H' ρ' (f1.trans f) bu
  | ok k G2=>
   rw [e2] at ok
   dsimp only [Em] at ok
   intro vk H2 ρ2 f2 bM r2
   cases d with
   | obj n=>
    cases ek:qC k with
    | none=>rw [ek] at ok;exact ok.elim
    | some y=>
     rw [ek] at ok
     dsimp only at ok
     cases g:G2[n]? with
     | none=>rw [g] at ok;exact ok.elim
     | some ob=>
      cases ob with
      | fV fz kvs=>
       rw [g] at ok
       dsimp only at ok
       have r1':=r1.mono f2
       unfold Rep at r1'
       obtain ⟨p,rfl,ep⟩:=r1'
       obtain ⟨p',xs,oq,eH,rs⟩:=bM.hp.fV g
       rw [ep] at oq;cases oq
       obtain ⟨b,rfl,eb⟩:=w9 r2 ek
       rcases l9 y rs with ⟨z1,z2⟩ | ⟨dv,v,z1,z2,z3⟩
       ·rw [z1] at ok;exact ok.elim
       ·rw [z1] at ok
        exact ⟨p,v,rfl,.inr ⟨_,y,b,eH.rd,rfl,eb,z2.symm⟩,ok v H2 ρ2 (f1.trans f2) bM z3⟩
      | _=>rw [g] at ok;exact ok.elim
   | _=>exact ok.elim
noncomputable def xj (v d k:D):M D:=λG=>match d,qC k with
 | .obj n,some y=>match G[n]? with
  | some (.fV false kvs)=>if kvs.length<Yx then .ok .dP (G.set n (.fV false (bF kvs y v))) else .stuck
  | _=>.stuck
 | _,_=>.stuck
theorem Iq {v d k:D} {vv vo vi:V} {S:Hp→Prop} (ab:Ab X.K X.mg σ H τ ρ G) (rv:Rep X.K X.mg ρ H v vv) (ro:Rep X.K X.mg ρ H d vo) (ri:Rep X.K X.mg ρ H k vi)
  (hn:xj v d k G≠.stuck)
  (ok:∀ r G' H',xj v d k G=.ok r G'→bS X.K H H' ρ ρ→Ab X.K X.mg σ H' τ ρ G'→S H'):∃ a H',vo=.ref a∧uv H a vi vv H'∧S H':=by
 unfold xj at hn ok
 cases d with
 | obj n=>
  cases ek:qC k with
  | none=>rw [ek] at hn;exact (hn rfl).elim
  | some y=>
   rw [ek] at ok hn
   dsimp only at ok hn
   cases g:G[n]? with
   | none=>rw [g] at hn;exact (hn rfl).elim
   | some ob=>
    cases ob with
    | fV fz kvs=>
     cases fz with
     | true=>rw [g] at hn;exact (hn rfl).elim
     | false=>
      rw [g] at ok hn
      dsimp only at ok hn
      unfold Rep at ro
      obtain ⟨p,rfl,ep⟩:=ro
      obtain ⟨p',xs,oq,hp,rs⟩:=ab.hp.fV g
      rw [ep] at oq;cases oq
      by_cases hl:kvs.length<Yx
      ·rw [if_pos hl] at ok
       obtain ⟨b,rfl,eb⟩:=w9 ri ek
       obtain ⟨ys,ey,ry⟩:=qu y rv rs
       refine ⟨p,_,rfl,uv.t hp eb ?_,?_⟩
       ·have:=rs.length
        simp at this
        simp [← this];exact hl
       ·rw [ey]
        exact ok _ _ _ rfl (mq hp ρ) ⟨ab.st.mono (mq hp ρ),ab.hp.PD ep hp aM ry⟩
      ·rw [if_neg hl] at hn;exact (hn rfl).elim
    | _=>rw [g] at hn;exact (hn rfl).elim
 | _=>exact (hn rfl).elim
noncomputable def qD (mv mo mi:DS→M D):MS:=λτ=>bL ((mv τ).bind λv=>(mo τ).bind λo=>(mi τ).bind λi=>xj v o i) (λ_ G=>.nx τ G) λc G=>.xn c τ G
theorem En (hu:X.A.units+600<cLine) (hv:QE X EE a mv) (ho:QE X EE o mo) (hi:QE X EE i mi) (h:mZ a=true:=by rfl):QS X EE (.Assign [.Subscript o i tpos] a pos) (qD mv mo mi):=
 PS.mono (z6 (by nofun) ho hi hv (oU h _ _ _)) λDd σ H zz=>by
  obtain ⟨τ,ρ,G,ab,ok⟩:=zz
  refine ⟨τ,ρ,G,ab,?_⟩
  dsimp only [qD,bL,M.bind] at ok
  cases e1:mv τ G with
  | stuck=>rw [e1] at ok;exact ok
  | bC c G'=>rw [e1] at ok;exact λH' ρ' f bu=>ok σ H' ρ' f bu
  | ok v G1=>
   rw [e1] at ok
   intro vv H1 ρ1 f1 fM r1
   refine ⟨τ,ρ1,G1,fM,?_⟩
   dsimp only at ok
   cases e2:mo τ G1 with
   | stuck=>rw [e2] at ok;exact ok
   | bC c G'=>rw [e2] at ok;exact λH' ρ' f bu=>ok σ H' ρ' (f1.trans f) bu
   | ok ov G2=>
    rw [e2] at ok
    intro vo H2 ρ2 f2 bM r2
    refine ⟨τ,ρ2,G2,bM,?_⟩
    dsimp only at ok
    cases e3:mi τ G2 with
    | stuck=>rw [e3] at ok;exact ok
    | bC c G'=>rw [e3] at ok;exact λH' ρ' f bu=>ok σ H' ρ' ((f1.trans f2).trans f) bu
    | ok iv G3=>
     rw [e3] at ok
     intro vi H3 ρ3 f3 nT r3
     dsimp only at ok
     refine Iq nT (r1.mono (f2.trans f3)) (r2.mono f3) r3 (λq=>by rw [q] at ok;exact ok.elim) λr G' H' q f bu=>?_
     rw [q] at ok
     exact ok σ H' ρ3 (((f1.trans f2).trans f3).trans f) bu
end
section
variable {X:Cx} {EE:bW}
theorem Eo (I:Inv X pins σ H s) (e:H a=some (.dT u)) (hg:s.heap.get? a=some o):Inv X pins σ (upd H a (.cy o (.dT u))) s:=by
 refine I.un (H':=upd H a (.cy o (.dT u))) (h':=s.heap) (t':=s.toks) ⟨λb o q _ _ _=>q,λb o q _ _ _=>⟨o.slots,q⟩,λb o q hn _=>?_,λb o q _=>⟨o,q⟩,λb ys q=>?_,λb o u q=>?_,λb ps q=>⟨#[],?_⟩⟩ λb u' q=>?_
 ·rw [av (by rintro rfl;rw [e] at hn;cases hn)];exact hn
 ·rw [av (cD q e (by intro z;cases z))];exact q
 ·rw [av (cD q e (by intro z;cases z))];exact q
 ·rw [av (cD q e (by intro z;cases z)),q];simp
 ·have ho:∀ c y,H c=some (.own y)→upd H a (.cy o (.dT u)) c=some (.own y):=λc y w=>by rw [av (cD w e (by intro z;cases z))];exact w
  have ht:∀ c ys,H c=some (.tup ys)→upd H a (.cy o (.dT u)) c=some (.tup ys):=λc ys w=>by rw [av (cD w e (by intro z;cases z))];exact w
  by_cases hb:b=a
  ·subst hb
   rw [aM] at q;cases q
   exact ⟨hg,(I.hok b _ e).stay (λ_ _ _ w=>w) (λc w=>ho c b w) ht⟩
  ·rw [av hb] at q
   exact (I.hok b u' q).stay (λ_ _ _ w=>w) (λc w=>ho c b w) ht
end
theorem uO (I:Inv X pins σ H s) (e:H a=some (.cy o (.dT u))) :
  s.heap.get? a=some o∧(a==sysModules)=false∧o.ExactDict∧∃ es ep,o.data=.dict es ep∧es.size=u.length∧∀ (i:Nat) k v,u[i]?=some (k,v)→∃ en b,es[i]?=some en∧en.key=.ref b∧H b=some (.tup (k.map kV)):=by
 obtain ⟨h1,z,y,xs,r,o',es,ep,h2,h3,h4,h5,h6⟩:=(show dm X.prog X.w H s.heap a (.cy o (.dT u)) from I.hok a _ e)
 rw [h1] at h2;cases h2
 have hl:u.length=xs.length:=aa5 r
 refine ⟨h1,y,h3,es,ep,h4,?_,λi k v hi=>?_⟩
 ·have:=congrArg aag h5
  simp at this;nofun
 ·have get:∀ {l:List (List Key×V)} {m:List (List Key×Addr×V3)},KT H l m→∀ (i:Nat) k v,l[i]?=some (k,v)→∃ q,m[i]?=some q∧H q.2.1=some (.tup (k.map kV)):=by
   intro l m q
   induction q with
   | nil=>intro i k v hi;simp at hi
   | @cons p q ps qs hq t ih=>
    intro i k v hi
    cases i with
    | zero=>simp at hi;subst hi;exact ⟨q,rfl,hq.2.1⟩
    | succ i=>exact ih i k v (by simpa using hi)
  obtain ⟨q,hq,hH⟩:=get r i k v hi
  refine ⟨entryOfKey (tupleKind (bK X.prog X.w)) q,q.2.1,?_,rfl,hH⟩
  have:es.toList[i]?=some (entryOfKey (tupleKind (bK X.prog X.w)) q):=by rw [h5,YK,hq];rfl
  simpa using this
noncomputable def PF (o:Obj) (a:Addr) (u:List (List Key×V)):It:=
 ⟨λi H=>H a=some (.cy o (.dT u))∧i<u.length,λi H y H'=>H'=H∧∃ b k v,y=.ref b∧u[i]?=some (k,v)∧H b=some (.tup (k.map kV)),λi H=>H a=some (.cy o (.dT u))∧u.length≤i⟩
theorem qE (st:h.IsKeyIter it a i n ep) (k:∀ o,h.get? it=some o→h'.get? it=some o):h'.IsKeyIter it a i n ep:=by
 obtain ⟨o,e,r⟩:=st
 exact ⟨o,k o e,r⟩
theorem zb (o:Obj) (u:List (List Key×V)) (a it:Addr) (ep:Nat) (es:Array DictEntry) (hd:o.data=.dict es ep):Turn P w K tg (PF o a u) [it] it (λi h=>h.IsKeyIter it a i es.size ep) where
 mem:=by simp
 obj:=λi h st b hb=>by
  have e:b=it:=by simpa using hb
  subst e
  obtain ⟨o,e,c,d⟩:=st
  exact ⟨o,e,λv z=>by rw [d] at z;cases z⟩
 keep:=λi h h' st k=>qE st λo e=>k it (by simp) o e
 item:=by
  intro X hP hw hK hc i pins s σ H E I hf st hg
  subst hP hw hK
  obtain ⟨eH,hi⟩:=hg
  obtain ⟨h1,_,h2,es',oq,h3,h4,h5⟩:=uO I eH
  rw [hd] at h3;cases h3
  obtain ⟨en,b,g1,g2,g3⟩:=h5 i _ _ (by rw [YD hi])
  obtain ⟨f0,f1,f2,f3,f4,f5⟩:=hf it (by simp)
  refine kg st h1 h2 hd g1 λh' st' sb=>?_
  have I1:Inv X pins σ H {s with heap:=h'}:=I.turned (t':=s.toks) (λb o hb e=>(sb.2 b hb).trans e) f0 f1 f3 f4 f5
  obtain ⟨o,e,c,d⟩:=id st'
  exact ⟨_,rfl,nP (s:={s with heap:=h'}) e c d (by decide) ⟨.ref b,H,I1,g2,⟨rfl,b,_,_,rfl,YD hi,g3⟩,st',λb hb=>(hf b hb).1⟩⟩
 done:=by
  intro X hP hw hK hc i pins s σ H E I hf st hg
  subst hP hw hK
  obtain ⟨eH,hi⟩:=hg
  obtain ⟨h1,_,h2,es',oq,h3,h4,h5⟩:=uO I eH
  rw [hd] at h3;cases h3
  obtain ⟨f0,f1,f2,f3,f4,f5⟩:=hf it (by simp)
  exact k7 (I.ok.hd hc) st h1 h2 hd (by simp;nofun) λh' eb=>⟨rfl,I.turned (t':=s.toks) (λb o hb e=>eb b o hb e) f0 f1 f3 f4 f5⟩
 self:=λ_ _ _ _ _ st h=>ac0 st h
noncomputable def zc (kvs:List (List Key×D)):View:=λ_ i=>if i≤kvs.length then some ((kvs[i]?).map λkv=>.tup (kv.1.map nh)) else none
noncomputable def BH (m:DS→M D):MI:=λτ=>(m τ).bind λd G=>match d with
 | .obj n=>match G[n]? with
  | some (.fV _ kvs)=>.ok (kvs.length+1,zc kvs) (G.set n (.fV true kvs))
  | _=>.stuck
 | _=>.stuck
theorem Ir {kvs:List (List Key×D)} (hl:kvs.length=xs.length) (e:H0 a=some (.cy o (.dT ((kvs.map (·.1)).zip xs)))):JV K mg (PF o a ((kvs.map (·.1)).zip xs)) (zc kvs) H0 ρ0:=by
 intro i H ρ G f hp
 have eH:=f.cy a _ _ e
 have hz:((kvs.map (·.1)).zip xs).length=kvs.length:=by simp [hl]
 unfold zc
 constructor
 ·intro q
  by_cases hi:i≤kvs.length
  ·rw [if_pos hi] at q
   cases g:kvs[i]? with
   | some kv=>rw [g] at q;cases q
   | none=>
    have:=Zv.mp g
    exact ⟨eH,by nofun⟩
  ·rw [if_neg hi] at q;cases q
 ·intro d q
  by_cases hi:i≤kvs.length
  ·rw [if_pos hi] at q
   cases g:kvs[i]? with
   | none=>rw [g] at q;cases q
   | some kv=>
    rw [g] at q;cases q
    obtain ⟨hi',_⟩:=Yw.mp g
    refine ⟨⟨eH,by nofun⟩,λy H' hy=>?_⟩
    obtain ⟨rfl,b,k,v,rfl,hk,hb⟩:=hy
    have e1:k=kv.1:=by
     rw [ZW] at hk
     rw [YK,g] at hk
     exact (Zd hk.1).symm
    subst e1
    refine ⟨⟨bS.refl,λG hG=>hG⟩,?_⟩
    unfold Rep
    exact ⟨b,_,rfl,hb,xg kv.1⟩
  ·rw [if_neg hi] at q;cases q
section
variable {X:Cx} {EE:bW} {tg e:Expr} {m:DS→M D}
theorem Iu (ha:QE X EE e m):QI X EE tg e (BH m):=by
 intro pins s σ H R I hq
 obtain ⟨τ,ρ,G,ab,ok⟩:=hq
 dsimp only [BH,M.bind] at ok
 have hA:aW X.K X.mg EE m σ H λv H1=>∃ ρ1 G1 d,Ab X.K X.mg σ H1 τ ρ1 G1∧bS X.K H H1 ρ ρ1∧Rep X.K X.mg ρ1 H1 d v∧m τ G=.ok d G1:=by
  refine ⟨τ,ρ,G,ab,?_⟩
  cases e:m τ G with
  | stuck=>rw [e] at ok;exact ok
  | bC c G'=>rw [e] at ok;exact ok
  | ok d G'=>exact λv H' ρ' f bu r=>⟨ρ',G',d,bu,f,r,rfl⟩
 refine dh (ha pins s σ H _ I hA) λu s1 oO=>?_
 obtain ⟨v,H1,I1,ru,ρ1,G1,d,fM,f1,rd,em⟩:=oO
 rw [em] at ok
 dsimp only at ok
 cases d with
 | obj n=>
  dsimp only at ok
  cases g:G1[n]? with
  | none=>rw [g] at ok;exact ok.elim
  | some ob=>
   cases ob with
   | fV fz kvs=>
    rw [g] at ok
    dsimp only at ok
    unfold Rep at rd
    obtain ⟨p,rfl,ep⟩:=rd
    cases ru
    obtain ⟨p',xs,oq,eH,rs⟩:=fM.hp.fV g
    rw [ep] at oq;cases oq
    have hl:kvs.length=xs.length:=by simpa using rs.length
    have fin:∀ (o:Obj) (H2:Hp),Inv X pins σ H2 s1→H2 p=some (.cy o (.dT ((kvs.map (·.1)).zip xs)))→bS X.K H1 H2 ρ1 ρ1→eO X.K X.mg H2 ρ1 (G1.set n (.fV true kvs)) →
      Y0 (model X.prog X.w) X.A (pyIter (.ref p)) (QM X pins σ tg R) X.xe s1:=by
     intro o H2 I2 e2 f2 hb2
     obtain ⟨h1,h0,h2,es,PJ,h3,h4,h5⟩:=uO I2 e2
     refine tB h0 h1 h2 h3 ?_
     have I3:Inv X pins σ H2 {s1 with heap:=s1.heap.push {cls:=.type "dict_keyiterator",data:=.fields #[.ref p,.int 0 0,.int es.size 0,.int PJ 0]}}:=I2.kept (t':=s1.toks) λc o q=>YA _ q
     refine ⟨s1.heap.objs.size,_,_,_,H2,rfl,I3,zb o _ p _ PJ es h3,⟨_,YM _ rfl,rfl,rfl⟩,λc hc=>?_,ok _ H2 ρ1 (f1.trans f2) ⟨fM.st.mono f2,hb2⟩ (Ir hl e2)⟩
     rw [Y7.mp hc]
     exact I2.ou (YE _) (I2.hok.fresh (YE _))
    cases fz with
    | false=>
     obtain ⟨o,hg⟩:∃ o,s1.heap.get? p=some o:=by
      obtain ⟨_,_,_,_,o,_,_,h,_⟩:=(show dm X.prog X.w H1 s1.heap p (.dT _) from I1.hok p _ eH)
      exact ⟨o,h⟩
     exact fin o _ (Eo I1 eH hg) aM (mq eH ρ1) (fM.hp.PD ep eH ⟨o,aM⟩ rs)
    | true=>
     obtain ⟨o,eH⟩:=eH
     refine fin o _ I1 eH bS.refl ?_
     have:G1.set n (.fV true kvs)=G1:=by
      apply adx
      intro j
      by_cases hj:n=j
      ·subst hj
       rw [Zr,if_pos rfl,if_pos (Yw.mp g).1,g]
      ·rw [Zh hj]
     rw [this];exact fM.hp
   | _=>rw [g] at ok;exact ok.elim
 | _=>exact ok.elim
end
section
open PyProof.Rows
section
variable {X:Cx} {EE:bW} {o i:Expr} {mo mi:DS→M D} {y:Str} {j1:Nat} {p1 lp sp apos cpos:Pos}
noncomputable def Ep (y:Str) (zs:List Str) (x:Str):D→M D
 | .int k=>if 0≤k∧k<1000 then (match zs[k.toNat]? with
  | some z=>if x.length+(x.length+1)*z.length≤16777216 then M.ret (.str (Txt.replace x y z)) else M.stop
  | none=>M.stop) else M.stop
 | _=>M.stop
noncomputable def MR (y:Str) (zs:List Str) (m:M D):D→M D
 | .str x=>m.bind (Ep y zs x)
 | _=>M.stop
noncomputable def MT (y:Str) (zs:List Str) (mo mi:DS→M D):DS→M D:=λτ=>(mo τ).bind (MR y zs (mi τ))
end
end
theorem SJ {i j:Int}:aE (.int i) (.int j) G=.ok (.int (i+j)) G:=YH rfl rfl
section
variable {τ:DS} {G:DH} {ma mb mo mi:DS→M D}
@[simp] theorem Uu:Vb ma mb τ G=(ma τ G).bd λd=>match d with
 | .bl false=>mb τ
 | .bl true=>M.ret (.bl true)
 | _=>M.stop:=ah
@[simp] theorem SK:Dp ma mb τ G=(ma τ G).bd λd=>match d with
 | .bl true=>mb τ
 | .bl false=>M.ret (.bl false)
 | _=>M.stop:=ah
@[simp] theorem PK {y:Str} {zs:List Str}:MT y zs mo mi τ G=(mo τ G).bd (MR y zs (mi τ)):=ah
@[simp] theorem SM {y x:Str} {zs:List Str} {m:M D}:MR y zs m (.str x) G=(m G).bd (Ep y zs x):=ah
theorem zd {x:D} (h1:gO x=some os) (h2:tt (os.map some++mask ks τ) (G++[.lst acc])=.ok false (G++[.lst acc])) :
  dD gO ks tt te G.length x τ (G++[.lst acc])=.ok () (G++[.lst acc]):=by
 simp only [dD,h1,h2]
theorem xm {x v:D} (h1:gO x=some os) (h2:tt (os.map some++mask ks τ) (G++[.lst acc])=.ok true (G++[.lst acc])) (h3:te (os.map some++mask ks τ) (G++[.lst acc])=.ok v (G++[.lst acc])) (hz:acc.length<Yx) :
  dD gO ks tt te G.length x τ (G++[.lst acc])=.ok () (G++[.lst (acc++[v])]):=by
 simp only [dD,h1,h2,h3,p8,if_pos hz,vU]
theorem jx {gO:D→Option (List D)} {ks:List Bool} {tt:DS→M Bool} {te:DS→M D} {α:Type} {own:α→List D} {dat f:α→D} {c:α→Bool}:∀ (as:List α) (acc:List D),acc.length+as.length≤1000000→(∀ x∈as,gO (dat x)=some (own x)) →
  (∀ x∈as,∀ acc,tt ((own x).map some++mask ks τ) (G++[.lst acc])=.ok (c x) (G++[.lst acc]))→(∀ x∈as,∀ acc,te ((own x).map some++mask ks τ) (G++[.lst acc])=.ok (f x) (G++[.lst acc])) →
  cz gO ks tt te G.length (as.map dat) τ (G++[.lst acc])=.ok (.obj G.length) (G++[.lst (acc++(as.filter c).map f)])
 | [],acc,_,_,_,_=>by simp [cz]
 | x::as,acc,hl,h1,h2,h3=>by
  have hz:acc.length<Yx:=YG (by simp at hl;nofun) (lz (n:=1000001) (by nofun))
  rw [Yv,cz]
  have hp:=h2 x (by simp) acc
  cases hc:c x with
  | false=>
   rw [hc] at hp
   rw [zd (h1 x (by simp)) hp]
   dsimp only
   rw [jx as acc (by simp at hl;nofun) (λq hq=>h1 q (by simp [hq])) (λq hq=>h2 q (by simp [hq])) (λq hq=>h3 q (by simp [hq])),ZN (by rw [hc];decide)]
  | true=>
   rw [hc] at hp
   rw [xm (h1 x (by simp)) hp (h3 x (by simp) acc) hz]
   dsimp only
   rw [jx as (acc++[f x]) (by simp at hl ⊢;nofun) (λq hq=>h1 q (by simp [hq])) (λq hq=>h2 q (by simp [hq])) (λq hq=>h3 q (by simp [hq])),ZO hc]
   simp
end
section
open PyProof.Rows
end
section
variable {τ:DS} {G:DH} {e:DS→M D} {ml:DS→M (List D)} {d:D}
end
section
variable {X:Cx} {EE:bW}
theorem au.eraseIdx:∀ (n:Nat) {ds:List D} {vs:List V},au K mg ρ H ds vs→au K mg ρ H (ds.eraseIdx n) (vs.eraseIdx n)
 | _,[],vs,h=>by unfold au at h;subst h;exact .nil
 | 0,d::ds,vs,h=>by
  unfold au at h
  obtain ⟨v,r,rfl,h1,h2⟩:=h
  exact h2
 | n+1,d::ds,vs,h=>by
  unfold au at h
  obtain ⟨v,r,rfl,h1,h2⟩:=h
  exact .cons h1 (au.eraseIdx n h2)
end
structure qF (N ps names:List Str) (sc:Scope):Prop where
 kind:sc.kind=.function
 co:sc.isCoroutine=false
 gen:sc.isGenerator=false
 nd:N.Nodup
 pre:N.take (ps.length+names.length)=ps++names
 par:∀ x∈ps,sc.names.lookup x=some .local
 fr:∀ x∈names,sc.names.lookup x=some .free
 pU:∀ y∈sc.names,y.2≠.cell
 frs:∀ y∈sc.names,y.2=.free→y.1∈names
noncomputable abbrev xo (k:gA) (cs:List Addr) (L a c:Addr):Env:=PySem.W.envX k.qual k.scope L a (.ref c) (k.names.zip cs)
noncomputable def NU (CX:oJ) (P:Zg) (w:Zs) (K:Yz) (mg:Str→Option V3) (base:Heap) (N:List Str) (k:gA) (cs:List Addr) (a c:Addr) (A:Around) (outer:List Env) (s:YB) (H:Hp) (E:XK):Cx where
 prog:=P
 w:=w
 K:=K
 mg:=mg
 base:=base
 A:=A.deeper (xo k cs s.heap.objs.size a c)
 N:=N
 s₀:=s
 H₀:=H
 env:=xo k cs s.heap.objs.size a c
 outer:=outer
 stack:=xo k cs s.heap.objs.size a c::outer
 ex:=[]
 fn:=λ_=>false
 calm:=true
 pn:=[]
 xe:=λe s'=>Y0 (model P w) (A.deeper (xo k cs s.heap.objs.size a c)) (leaving (xo k cs s.heap.objs.size a c) e) (λ_ s''=>CX outer H s E e s'') (λe' s''=>CX outer H s E e' s'') s'
theorem jz:∀ {ns:List Str} {cs:List Addr} {y:Str} {c:Addr},(ns.zip cs).lookup y=some c→∃ i:Nat,ns[i]?=some y∧cs[i]?=some c
 | [],cs,y,c,h=>by simp at h
 | n::ns,[],y,c,h=>by simp at h
 | n::ns,d::cs,y,c,h=>by
  rw [Z0,Zj] at h
  cases e:(y==n) with
  | true=>
   rw [e] at h
   cases h
   exact ⟨0,by rw [beq_iff_eq.mp e];rfl,rfl⟩
  | false=>
   rw [e] at h
   obtain ⟨i,h1,h2⟩:=jz h
   exact ⟨i+1,by simpa using h1,by simpa using h2⟩
theorem lC:∀ {ns:List Str} {cs:List Addr} {y:Str} {c:Addr} {i:Nat},ns.Nodup→ns[i]?=some y→cs[i]?=some c→(ns.zip cs).lookup y=some c
 | [],cs,y,c,i,_,h,_=>by simp at h
 | n::ns,[],y,c,i,_,_,h=>by simp at h
 | n::ns,d::cs,y,c,0,_,h,h2=>by
  simp at h h2
  subst h h2
  simp
 | n::ns,d::cs,y,c,i+1,nd,h,h2=>by
  have h':ns[i]?=some y:=by simpa using h
  have ne:(y==n)=false:=beq_eq_false_iff_ne.mpr λz=>(ZK.mp nd).1 (z▸Zi h')
  rw [Z0,Zj,ne]
  exact lC (ZK.mp nd).2 h' (by simpa using h2)
theorem dz.get:∀ {cs:List Addr} {xs:List V} {i:Nat} {c:Addr},dz H cs xs→cs[i]?=some c→∃ x o u,xs[i]?=some x∧wz H c o∧o.data=.cell (some u)∧RelV x u
 | [],xs,i,c,_,h=>by simp at h
 | d::cs,xs,0,c,⟨x,r,o,u,e,h1,h2,h3,_⟩,h=>by
  simp at h
  subst h e
  exact ⟨x,o,u,rfl,h1,h2,h3⟩
 | d::cs,xs,i+1,c,⟨x,r,o,u,e,_,_,_,h4⟩,h=>by
  subst e
  obtain ⟨x',o',u',g⟩:=dz.get h4 (i:=i) (by simpa using h)
  exact ⟨x',o',u',by simpa using g⟩
theorem dz.len:∀ {cs:List Addr} {xs:List V},dz H cs xs→xs.length=cs.length
 | [],xs,h=>by rw [show xs=[] from h];rfl
 | d::cs,xs,⟨x,r,o,u,e,_,_,_,h4⟩=>by rw [e,Yy,Yy,h4.len]
theorem uP:∀ {ps:List Str} {us:List V3} {y:Str} {u:V3} {i:Nat},ps.Nodup→ps[i]?=some y→us[i]?=some u→(ps.zip us).reverse.lookup y=some u:=by
 intro ps us y u i nd h1 h2
 have key:∀ {ps:List Str} {us:List V3} {i:Nat} (r:List (Str×V3)),ps.Nodup→ps[i]?=some y→us[i]?=some u→((ps.zip us).reverse++r).lookup y=some u:=by
  intro ps
  induction ps with
  | nil=>intro us i r _ h;simp at h
  | cons p ps ih=>
   intro us i r nd h1 h2
   cases us with
   | nil=>simp at h2
   | cons w us=>
    rw [Z0,ZH,ZD]
    cases i with
    | zero=>
     simp at h1 h2
     subst h1 h2
     have none:∀ (q:List (Str×V3)) (r:List (Str×V3)),(∀ z∈q,z.1≠p)→(q++r).lookup p=r.lookup p:=by
      intro q
      induction q with
      | nil=>intro r _;rfl
      | cons z q V4=>
       intro r hz
       rw [Zf,Zj,beq_eq_false_iff_ne.mpr (Z2 (hz z (by simp)))]
       exact V4 r λz' h'=>hz z' (by simp [h'])
     rw [none _ _ (λz hz=>by
      have:=(Z9 (List.mem_reverse.mp hz)).1
      intro e
      exact (ZK.mp nd).1 (e▸this))]
     simp
    | succ i=>exact ih ([(p,w)]++r) (ZK.mp nd).2 (by simpa using h1) (by simpa using h2)
 have:=key (ps:=ps) (us:=us) (i:=i) [] nd h1 h2
 rwa [Y4] at this
theorem Iv {CX:oJ} {P:Zg} {w:Zs} {K:Yz} {mg:Str→Option V3} {base h1:Heap} {N ps:List Str} {k:gA} {cs:List Addr} {a c:Addr} {A:Around} {outer:List Env} {s:YB} {H:Hp} {E:XK} {us:List V3} {vs xs:List V}
  (S:qF N ps k.names k.scope) (hd:A.handled=none) (e0:mT P w K mg base A outer s H) (hl:vs.length=ps.length) (r:Vals vs us) (hcl:cs.length=k.names.length) (hnd:cs.Nodup) (hc:dz H cs xs)
  (hns:h1.Ns s.heap.objs.size λy=>(ps.zip us).reverse.lookup y) (hk:∀ b o,s.heap.get? b=some o→h1.get? b=some o) {n:Nat} (ht:0<n) :
  Inv (NU CX P w K mg base N k cs a c A outer s H E) [] (start N (vs++xs)) H {s with heap:=h1,toks:=n}:=by
 have PM:(ps++k.names).Nodup:=by rw [← S.pre];exact S.nd.sublist (adm _ _)
 have QV:ps.Nodup:=(ZS.mp PM).1
 have Uv:k.names.Nodup:=(ZS.mp PM).2.1
 have Uw:xs.length=k.names.length:=by rw [hc.len,hcl]
 have hpl:ps.length+k.names.length≤N.length:=by have:=congrArg aag S.pre;rw [aaH,YO] at this;nofun
 have cellAt:∀ y d,(k.names.zip cs).lookup y=some d→∃ i x o u,k.names[i]?=some y∧xs[i]?=some x∧wz H d o∧o.data=.cell (some u)∧RelV x u∧s.heap.get? d=some o:=λy d e=>by
  obtain ⟨i,h1,h2⟩:=jz e
  obtain ⟨x,o,u,g1,g2,g3,g4⟩:=hc.get h2
  exact ⟨i,x,o,u,h1,g1,g2,g3,g4,(e0.hok d _ g2).1⟩
 have GC:∀ b:Addr,b∉(NU CX P w K mg base N k cs a c A outer s H E).ex:=λb z=>absurd (show b∈([]:List Addr) from z) (by simp)
 refine ⟨⟨e0.mod,S.kind,rfl,rfl,YE _,λy z d h1 h2=>?_,λy hy=>?_,λy d h _=>absurd (show false=true from h) Zm,λ_=>hd,acS e0.frames,.inr ⟨rfl,rfl⟩,λb z=>absurd z (GC b),e0.bs,e0.F9,λb _ _=>GC b,λb z=>absurd z (GC b),e0.lR,e0.Gn⟩,
  ⟨rfl,ht⟩,e0.bare,Un.kept hk,⟨_,hns,λi y v h1 h2 h3=>?_⟩,λy d h=>?_,e0.hok.fresh (YE _),λy d h=>?_,λp hp=>absurd (show p∈([]:List (Addr×Obj)) from hp) (by simp),e0.hok.kept hk,?_⟩
 ·obtain ⟨i,a1,a2⟩:=jz h1
  obtain ⟨j,b1,b2⟩:=jz h2
  have ij:i=j:=by
   obtain ⟨l1,e1⟩:=Yw.mp a2
   obtain ⟨l2,e2⟩:=Yw.mp b2
   exact (ZE hnd).mp (e1.trans e2.symm)
  subst ij
  rw [a1] at b1
  exact Zd b1
 ·have hy:k.scope.names.lookup y=some .cell∨k.scope.names.lookup y=some .free:=hy
  rcases hy with hy | hy
  ·exact absurd rfl (S.pU _ (ZU hy))
  ·have hm:=S.frs _ (ZU hy) rfl
   obtain ⟨i,hi,e⟩:=aad hm
   have e':k.names[i]?=some y:=by rw [YD hi,e]
   exact ⟨_,lC Uv e' (YD (by nofun))⟩
 ·have hi:i<(vs++xs).length:=by
   unfold L2.start at h2
   by_cases hi:i<(vs++xs).length
   ·exact hi
   ·rw [Y5 (by simpa using hi)] at h2
    rw [aaI] at h2
    split at h2<;>cases h2
  have ha:(vs++xs)[i]?=some v:=by
   unfold L2.start at h2
   rw [YQ (by simpa using hi),YK] at h2
   cases e:(vs++xs)[i]? with
   | none=>rw [e] at h2;cases h2
   | some a=>rw [e] at h2;cases h2;rfl
  rw [YO] at hi
  have hy:(ps++k.names)[i]?=some y:=by
   rw [← S.pre,acd (by nofun)];exact h1
  by_cases hiv:i<vs.length
  ·rw [YQ hiv] at ha
   rw [YQ (by nofun)] at hy
   obtain ⟨u,hu,rv⟩:=r.get ha
   exact ⟨u,rv,.inl ⟨S.par y (Zi hy),uP QV hy hu⟩⟩
  ·rw [Y5 (by nofun)] at ha hy
   rw [hl] at ha
   have hic:i - ps.length<cs.length:=by nofun
   have ec:=YD hic
   obtain ⟨x,o,u,g1,g2,g3,g4⟩:=hc.get ec
   rw [g1] at ha
   cases ha
   refine ⟨u,g4,.inr ⟨.inr (S.fr y (Zi hy)),_,lC Uv hy ec,o,hk _ _ (e0.hok _ _ g2).1,g3⟩⟩
 ·obtain ⟨i,x,o,u,_,_,_,g3,_,g5⟩:=cellAt y d h
  exact ⟨_,o,hk _ _ g5,g3⟩
 ·obtain ⟨i,x,o,u,_,_,g2,_⟩:=cellAt y d h
  exact .inr ⟨rfl,o,_,g2⟩
 ·unfold L2.start
  show _=N.length
  rw [YO,YL,abp,YO]
  nofun
noncomputable def An (P:Zg) (w:Zs) (K:Yz) (mg:Str→Option V3) (base:Heap) (CX:oJ) (k:Nat) (c:gA) (n:Nat) (m:List D→M D):Prop:=
 ∀ (A:Around) (outer:List Env) (s:YB) (H:Hp) (us:List V3) (vs xs:List V) (Q:VK) (E:XK) (a:Addr) (cs:List Addr),di k A→mT P w K mg base A outer s H→0<s.toks→nS H c a cs→dz H cs xs→Vals vs us→us.length=n →
  gB K mg (n+c.names.length) m (vs++xs) H Q E→codeAny (model P w) A (.call (.ref a) ⟨us,[]⟩) (CR CX outer P w H s Q E) s
noncomputable def i7 (r:Out D):Out D:=match r with
 | .bC _ _=>.stuck
 | r=>r
noncomputable def BI (n:Nat) (m:DS→M D) (ds:List D):M D:=m (ds.map some++YV (n - ds.length) none)
theorem Iw {P:Zg} {w:Zs} {K:Yz} {mg:Str→Option V3} {base:Heap} {c:gA} {k:Nat} {m:List D→M D} (S:qF N ps c.names c.scope) (hps:ps.length=n) (hN:N.length=nn) (hm:∀ ds G,m ds G=i7 (BI nn me ds G))
  (hbind:∀ (doc pm ctv:V3) (c':Addr) (cs:List Addr) (us:List V3) (s:YB),us.length=ps.length→bindArgs (wu c cs doc pm c' ctv) ⟨us,[]⟩=pure (ps.zip us)) {bd:Expr} (hbd:c.body=.expr bd)
  (hbody:∀ (X:Cx) (EE:bW) (cs:List Addr) (a c':Addr) (A:Around) (outer:List Env) (s:YB) (H:Hp) (E:XK),X=NU (nU P w) P w K mg base N c cs a c' A outer s H E→di k (A.deeper (xo c cs s.heap.objs.size a c')) →
   fE X EE→PassesOwn (model P w) X.A X.env X.xe→QE X EE bd me) :
  An P w K mg base (nU P w) (k+1) c n m:=by
 intro A outer s H us vs xs Q E a cs hr e0 htk hca hce r MU zW
 obtain ⟨hcl,hnd,doc,pm,ctv,c',fo,oc,ws,t,fc,hd,hv⟩:=hca
 subst hps hN
 obtain ⟨ds,ρ,G,hn,hp,rs,ok⟩:=zW
 have hvl:vs.length=ps.length:=by rw [r.length];exact MU
 have ho:=(e0.hok a _ fo).1
 have hoc:=(e0.hok c' _ fc).1
 have lim:s.heap.NoLimit:=e0.mod.nolimit.keeps λb o e=>(e0.bs b o e).1
 refine PySem.W.kla_callFunE (fd:=wu c cs doc pm c' ctv) hr.depth ho rfl S.co S.gen hbd ⟨c',oc,ws,t,rfl,hoc,hd,hv⟩ ?_
 rw [hbind doc pm ctv c' cs us s MU]
 refine YN (acU S.pU (λy hy=>S.par y.1 (Z9 hy).1) (λh1 hns Ux=>⟨lim.fresh _ Ux,?_⟩) S.kind)
 have hk1:∀ b o,s.heap.get? b=some o→h1.get? b=some o:=λb o e=>Ux.extBut b o (YU (YI e)) (YA _ e)
 have I:Inv (NU (nU P w) P w K mg base N c cs a c' A outer s H E) [] (L2.start N (vs++xs)) H {s with heap:=h1,toks:=s.toks+(ps.zip us).length}:=Iv S hr.hd e0 hvl r hcl hnd hce hns hk1 (YG htk (adE _ _))
 have hB:=hbody _ (λ_ _ _=>False) cs a c' A outer s H E rfl (hr.deeper _) (λ_ _ _ _ _ _ _ _ _ _ z=>z.elim) abk
 have hq:aW K mg (λ_ _ _=>False) me (L2.start N (vs++xs)) H Q:=by
  refine ⟨ds.map some++YV (N.length - ds.length) none,ρ,G,⟨jq rs,hp⟩,?_⟩
  rw [hm] at ok
  unfold BI at ok
  cases q:me (ds.map some++YV (N.length - ds.length) none) G with
  | stuck=>rw [q] at ok;exact ok
  | ok d G'=>rw [q] at ok;exact λv H' ρ' f ab r=>ok v H' ρ' f ab.hp r
  | bC c G'=>rw [q] at ok;exact ok.elim
 show codeAny _ _ (.expr bd (xo c cs s.heap.objs.size a c')) _ _
 refine PySem.W.kla_codeExpr (Zn (hB [] _ (L2.start N (vs++xs)) H Q I hq) (λu s' hs=>?_) λe s' hs=>hs)
 obtain ⟨v,H',J,rv,q⟩:=hs
 exact ⟨v,H',J.os,J.bare,J.base,J.hok,rv,q⟩
noncomputable def uQ (i n:Nat) (Ka:Str→Option (Nat×(List D→M D))) (τ:DS) (ds:List D):M D:=match τ[i]? with
 | some (some (.jU y caps))=>match Ka y with
  | some (c,mf)=>if ds.length=n∧caps.length=c then mf (ds++caps) else M.stop
  | none=>M.stop
 | _=>M.stop
noncomputable def lD (i n:Nat) (Ka:Str→Option (Nat×(List D→M D))) (m:DS→M (List D)):DS→M D:=λτ G=>match τ[i]? with
 | some (some (.jU _ _))=>((m τ).bind (uQ i n Ka τ)) G
 | _=>.stuck
section
variable {X:Cx} {CX:oJ} {EE:bW} {k n:Nat} {x:Str} {p pos:Pos} {e:Expr} {es:List Expr} {m:DS→M (List D)}
theorem Er {pins:List (Addr×Obj)} {σ:L2.St} {H:Hp} {s:YB} {Q:VK} {us:List V3} {vs xs:List V} {τ:DS} {ρ:List Addr} {G:DH} {ds caps:List D} {a:Addr} {cs:List Addr} (F:An X.prog X.w X.K X.mg X.base CX k Ao n mf) (hr:di k X.A)
  (hx:JY CX X EE) (I:Inv X pins σ H s) (r:Vals vs us) (ab:Ab X.K X.mg σ H τ ρ G) (rs:au X.K X.mg ρ H ds vs) (hn:ds.length=n) (hca:nS H Ao a cs) (hce:dz H cs xs) (rc:au X.K X.mg ρ H caps xs) (ok:iQ X.K X.mg EE H σ τ ρ (mf (ds++caps) G) Q):Y0 (model X.prog X.w) X.A (call (.ref a) us) (EP X pins σ Q) X.xe s:=by
 have h:gB X.K X.mg (n+Ao.names.length) mf (vs++xs) H Q (OW X.mg EE σ):=by
  refine ⟨ds++caps,ρ,G,?_,ab.hp,rs.append rc,?_⟩
  ·rw [YO,hn,rc.length,hce.len,hca.1]
  cases q:mf (ds++caps) G with
  | stuck=>rw [q] at ok;exact ok
  | ok d G'=>rw [q] at ok;exact λv H' ρ' f hp r=>ok v H' ρ' f (eO.ab ab f hp) r
  | bC c G'=>rw [q] at ok;exact λcls H' ρ' hc f hp=>⟨c,hc,ok H' ρ' f (eO.ab ab f hp)⟩
 refine wpAny_call (codeAny_mono (F X.A X.stack s H us vs xs Q (OW X.mg EE σ) a cs hr I.gh I.os.2 hca hce r (by rw [← r.length,← rs.length,hn]) h) λr s' hq=>?_)
 cases r with
 | error e=>exact hx pins σ H s e s' I hq
 | ok fl=>
  cases fl with
  | ret u=>exact I.after hq
  | next=>exact ZA hq
  | brk=>exact ZA hq
  | cont=>exact ZA hq
theorem nS.fn {cs:List Addr} (hok:ji P w H h) (hc:nS H Ao a cs):PySem.W.FnAt a h:=by
 obtain ⟨_,_,doc,pm,ctv,c,fo,_⟩:=hc
 exact ⟨_,_,_,_,(hok a _ fo).1⟩
theorem Es {Ka:Str→Option (Nat×(List D→M D))} (hN:X.N[i]?=some x) (hv:CJ X.env.scope x) (hd:(x==("__debug__":Str))=false∧(x==("__classdict__":Str))=false)
  (hC:∀ y c mf,Ka y=some (c,mf)→∃ k Ao,nR X.K X.mg y=some Ao∧An X.prog X.w X.K X.mg X.base CX k Ao n mf∧di k X.A) (hx:JY CX X EE)
  (ha:QA X EE (e::es) m) (h:az (e::es)=true:=by rfl):QE X EE (.Call (.Name x p) (e::es) [] pos) (lD i n Ka m):=by
 have h':br e=true∧az es=true:=by simpa [az] using h
 intro pins s σ H Q I hq
 obtain ⟨τ,ρ,G,ab,ok⟩:=hq
 unfold lD at ok
 cases q:τ[i]? with
 | none=>rw [q] at ok;exact ok.elim
 | some od=>
  cases od with
  | none=>rw [q] at ok;exact ok.elim
  | some d=>
   rw [q] at ok
   cases d<;>try exact ok.elim
   rename_i y caps
   dsimp only at ok
   obtain ⟨v,ev,rv⟩:=ab.st.2 i (.jU y caps) q
   unfold Rep at rv
   obtain ⟨Ao,a,cs,xs,rfl,hk,hca,hce,rc⟩:=rv
   obtain ⟨τ1,ρ1,G1,fM,CC⟩:=jm (m:=m) (k:=uQ i n Ka) ⟨τ,ρ,G,ab,ok⟩
   refine Ze (Zn (yu hN hv hd.1 hd.2 pins s σ H (λv' H'=>v'=.ref a∧H'=H) I ⟨_,ev,rfl,rfl⟩) (λu s0 hu=>?_) λ_ _ z=>z)
   obtain ⟨v',H',I0,r0,rfl,rfl⟩:=hu
   cases r0
   refine PySem.W.callWith_F (hca.fn I0.hok) (dh (ha pos pins s0 σ H' _ I0 ⟨τ1,ρ1,G1,fM,CC⟩) λus s1 zz=>?_) (aP h'.1 _ _) (bw h'.2)
   obtain ⟨vs,H1,I1,r,q⟩:=zz
   obtain ⟨τ2,ρ2,G2,ds,bM,rs,aK⟩:=q
   unfold uQ at aK
   cases q2:τ2[i]? with
   | none=>rw [q2] at aK;exact aK.elim
   | some od=>
    cases od with
    | none=>rw [q2] at aK;exact aK.elim
    | some d=>
     rw [q2] at aK
     cases d<;>try exact aK.elim
     rename_i y2 Kc
     dsimp only at aK
     obtain ⟨v2,MV,Uy⟩:=bM.st.2 i (.jU y2 Kc) q2
     unfold Rep at Uy
     obtain ⟨V5,a2,XE,XF,rfl,hk2,PN,SN,V6⟩:=Uy
     rw [ev] at MV
     cases MV
     refine ⟨PN.fn I1.hok,?_⟩
     cases qt:Ka y2 with
     | none=>rw [qt] at aK;exact aK.elim
     | some z=>
      obtain ⟨c,mf⟩:=z
      rw [qt] at aK
      dsimp only at aK
      obtain ⟨k,V7,e3,F,hr⟩:=hC y2 c mf qt
      rw [hk2] at e3
      cases e3
      by_cases hn:ds.length=n∧Kc.length=c
      ·rw [if_pos hn] at aK
       exact Er F hr hx I1 r bM rs hn.1 PN SN V6 aK
      ·rw [if_neg hn] at aK
       exact aK.elim
end
noncomputable def Cx.held (X:Cx) (ns:List Str):Cx:={X with fn:=λx=>X.fn x&&!(ns.contains x)}
structure MW (X:Cx) (H':Hp) (s':YB):Prop where
 os:s'.os=X.s₀.os∧0<s'.toks
 bare:aaV s'.gens
 base:Un X.fs X.ex X.H₀ H' X.s₀.heap s'.heap
 hok:ji X.prog X.w H' s'.heap
noncomputable def V8 (X:Cx) (D:Ends) (fl:Flow) (s':YB):Prop:=match fl with
 | .ret u=>∃ v H',MW X H' s'∧RelV v u∧D.rt v H'
 | .next=>∃ σ' H',MW X H' s'∧D.nx σ' H'
 | .brk=>∃ σ' H',D.bk σ' H'
 | .cont=>∃ σ' H',D.ct σ' H'
noncomputable def Et (X:Cx) (EE:bW) (st:List Stmt) (m:MS):Prop:=∀ (pins:List (Addr×Obj)) (s:YB) (σ:L2.St) (H:Hp) (D:Ends),Inv X pins σ H s→gi X.K X.mg EE m D σ H→Y0 (model X.prog X.w) X.A (execs st X.env) (V8 X D) X.xe s
section
variable {X:Cx} {EE:bW} {pins:List (Addr×Obj)} {σ:L2.St} {H:Hp} {s:YB} {st:Stmt} {rest:List Stmt} {ms mt:MS}
noncomputable def jO (y:Str):DO→Bool
 | .tab z=>z==y
 | _=>false
theorem Aq {K:Yz} {mg:Str→Option V3} {ρ:List Addr} {τ:DS} (h:pL K mg H ρ σ τ):∀ (js:List Nat) (caps:List D),js.mapM (λj=>(τ[j]?).join)=some caps→∃ xs,au K mg ρ H caps xs∧xs.length=js.length∧∀ (l j:Nat),js[l]?=some j→∃ x:V,xs[l]?=some x∧σ[j]?=some (some x)
 | [],caps,e=>by
  simp at e
  subst e
  exact ⟨[],.nil,rfl,λl j h=>by simp at h⟩
 | j::js,caps,e=>by
  rw [List.mapM_cons] at e
  cases q:(τ[j]?).join with
  | none=>rw [q] at e;cases e
  | some d=>
   rw [q] at e
   cases q2:js.mapM (λj=>(τ[j]?).join) with
   | none=>rw [q2] at e;cases e
   | some ds=>
    rw [q2] at e
    cases e
    obtain ⟨xs,r,hl,hx⟩:=Aq h js ds q2
    have qj:τ[j]?=some (some d):=by
     cases z:τ[j]? with
     | none=>rw [z] at q;cases q
     | some o=>rw [z] at q;cases q;rfl
    obtain ⟨v,e1,rv⟩:=h.2 j d qj
    refine ⟨v::xs,.cons rv r,by simp [hl],λl j' hj=>?_⟩
    cases l with
    | zero=>
     simp at hj
     subst hj
     exact ⟨v,rfl,e1⟩
    | succ l=>exact hx l j' (by simpa using hj)
theorem qG {H:Hp}:∀ {cs:List Addr} {xs:List V},xs.length=cs.length→(∀ (l:Nat) (c:Addr) (x:V),cs[l]?=some c→xs[l]?=some x→∃ (o:Obj) (u:V3),wz H c o∧o.data=.cell (some u)∧RelV x u)→dz H cs xs
 | [],[],_,_=>rfl
 | [],x::xs,h,_=>by simp at h
 | c::cs,[],h,_=>by simp at h
 | c::cs,x::xs,h,k=>by
  obtain ⟨o,u,h1,h2,h3⟩:=k 0 c x rfl rfl
  exact ⟨x,xs,o,u,rfl,h1,h2,h3,qG (by simpa using h) λl c' x' e1 e2=>k (l+1) c' x' (by simpa using e1) (by simpa using e2)⟩
noncomputable def gu (H:Hp) (h:Heap) (cs:List Addr):Hp:=λb=>if b∈cs then (h.get? b).map λo=>.cy o (.own 0) else H b
theorem fG {cs:List Addr} {b:Addr} (e:b∉cs):gu H h cs b=H b:=if_neg e
theorem ni {cs:List Addr} {b:Addr} (e:b∈cs) (q:h.get? b=some o):wz (gu H h cs) b o:=by
 unfold wz gu
 rw [if_pos e,q];rfl
theorem Eu {cs:List Addr} (I:Inv X pins σ H s) (hfn:∀ x,X.fn x=true) (hlen:cs.length=ns.length) (hcs:∀ (l:Nat) (y:Str),ns[l]?=some y→∃ c,cs[l]?=some c∧X.env.cells.lookup y=some c):Inv (Cx.held X ns) pins σ (gu H s.heap cs) s:=by
 have name:∀ c∈cs,∃ y∈ns,X.env.cells.lookup y=some c:=λc hc=>by
  obtain ⟨l,hl,e⟩:=aad hc
  have hl2:l<ns.length:=by nofun
  obtain ⟨c',e1,e2⟩:=hcs l ns[l] (YD hl2)
  rw [YD hl,e] at e1
  cases e1
  exact ⟨ns[l],adJ hl2,e2⟩
 have hnone:∀ c∈cs,H c=none:=λc hc=>by
  obtain ⟨y,_,e⟩:=name c hc
  exact (I.jM y c e).resolve_right λz=>by rw [hfn] at z;cases z.1
 have out:∀ {b:Addr} {u:HO},H b=some u→gu H s.heap cs b=some u:=λ{b u} e=>by
  rw [fG (λhb=>by rw [hnone b hb] at e;cases e)];exact e
 have obj:∀ c∈cs,∃ o v,s.heap.get? c=some o∧o.data=.cell v:=λc hc=>by
  obtain ⟨y,_,e⟩:=name c hc
  obtain ⟨v,o,h1,h2⟩:=I.cell y c e
  exact ⟨o,v,h1,h2⟩
 refine ⟨⟨I.ok.mod,I.ok.kind,I.ok.glob,I.ok.blt,I.ok.above,I.ok.inj,I.ok.has,λx c h e=>I.ok.N8 x c (hfn x) e,I.ok.hd,I.ok.frames,I.ok.stk,I.ok.U0,I.ok.bs,I.ok.F9,I.ok.Gk,I.ok.Gm,I.ok.lR,I.ok.Gn⟩,I.os,I.bare,
  ⟨I.base.keep,I.base.slot,λb o e n hx=>?_,I.base.there,λb xs e=>out (I.base.tups b xs e),λb o u e=>out (I.base.jS b o u e),λb ps e=>?_⟩,I.loc,I.cell,?_,λx c e=>?_,λp hp=>?_,λb ob e=>?_,I.len⟩
 ·rw [fG (λhb=>?_)]
  ·exact I.base.free b o e n hx
  ·obtain ⟨y,_,ec⟩:=name b hb
   exact absurd (YG (YI e) (I.ok.N8 y b (hfn y) ec)) (Zx _)
 ·obtain ⟨more,z⟩:=I.base.kO b ps e
  exact ⟨more,out z⟩
 ·show gu H s.heap cs X.env.locals=none
  rw [fG (λhb=>?_)]
  ·exact I.free
  ·obtain ⟨y,_,ec⟩:=name _ hb
   exact I.CK y _ ec rfl
 ·by_cases hc:c∈cs
  ·obtain ⟨o,v,h1,_⟩:=obj c hc
   obtain ⟨y,hy,ec⟩:=name c hc
   have e':X.env.cells.lookup x=some c:=e
   have hxy:x=y:=I.ok.inj x y c e' ec
   subst hxy
   refine .inr ⟨?_,o,_,ni hc h1⟩
   show (X.fn x&&!(ns.contains x))=false
   rw [List.contains_iff_mem.mpr hy]
   simp
  ·refine .inl ?_
   rw [fG hc]
   exact (I.jM x c e).resolve_right λz=>by rw [hfn] at z;cases z.1
 ·obtain ⟨e,n,ne,nf,d⟩:=I.pin p hp
  refine ⟨e,?_,ne,nf,d⟩
  rw [fG (λhb=>?_)]
  ·exact n
  ·obtain ⟨o,v,h1,h2⟩:=obj _ hb
   rw [e] at h1
   cases h1
   exact d v h2
 ·by_cases hb:b∈cs
  ·obtain ⟨o,v,h1,h2⟩:=obj b hb
   have z:some (HO.cy o (.own 0))=some ob:=(ni (H:=H) hb h1).symm.trans e
   cases z
   exact ⟨h1,o,h1⟩
  ·rw [fG hb] at e
   exact (I.hok b ob e).stay (λc u hc q=>q) (λc q=>out q) λc xs q=>out q
end
section
variable {X:Cx} {EE:bW} {pins:List (Addr×Obj)} {σ:L2.St} {H:Hp} {s:YB} {st:Stmt} {rest:List Stmt} {ms mt:MS}
structure Made (P c':Addr) (H:Hp) (h h':Heap) (ps ps':Array V3) (oc:Obj):Prop where
 ext:∀ b o,b≠P→h.get? b=some o→h'.get? b=some o
 tab:h'.get? P=some (aap ps')
 code:h'.get? c'=some oc
 sz:h.objs.size≤h'.objs.size
 old:(H c'=none∧h.objs.size≤c')∨H c'=some (.cy oc (.own 0))
 grow:∃ more,ps'=ps++more
noncomputable def fU (H:Hp) (P c' a:Addr) (ps':Array V3) (oc fo:Obj):Hp:=upd (upd (upd H P (.lP ps')) c' (.cy oc (.own 0))) a (.cy fo (.own 0))
theorem tE {P:Addr} {ps:Array V3} {oc:Obj} (M:Made P c' H h h' ps ps' oc) (hok:ji Pg w H h) (ha:a=h'.objs.size) (eP:H P=some (.lP ps)) {b:Addr} {u:HO} (e:H b=some u) (hb:b≠P):fU H P c' a ps' oc fo b=some u:=by
 have hba:b≠a:=λz=>by
  have:=hok.fresh (a:=b) (by rw [z,ha];exact M.sz)
  rw [this] at e;cases e
 unfold fU
 rw [av hba]
 by_cases hbc:b=c'
 ·subst hbc
  rcases M.old with ⟨z,_⟩ | z
  ·rw [z] at e;cases e
  ·rw [aM,← e,z]
 ·rw [av hbc,av hb];exact e
theorem Ew {P:Addr} {ps:Array V3} {oc:Obj} (I:Inv X pins σ H s) (M:Made P c' H s.heap h' ps ps' oc) (eP:H P=some (.lP ps)) (ht:0<t') (hfo:fo.isFreed=false) :
  Inv X pins σ (fU H P c' h'.objs.size ps' oc fo) {s with heap:=h'.push fo,toks:=t'}:=by
 have hca:c'≠h'.objs.size:=YU (YI M.code)
 have SO:P<s.heap.objs.size:=I.hok.lt eP
 have hPa:P≠h'.objs.size:=YU (YG SO M.sz)
 have SR:c'≠P:=by
  rintro rfl
  rcases M.old with ⟨z,_⟩ | z
  ·rw [eP] at z;cases z
  ·rw [eP] at z;cases z
 have xq:∀ {b:Addr} {u:HO},H b=some u→b≠P→fU H P c' h'.objs.size ps' oc fo b=some u:=λe hb=>tE M I.hok rfl eP e hb
 have PR:fU H P c' h'.objs.size ps' oc fo P=some (.lP ps'):=by
  unfold fU
  rw [av hPa,av (Z2 SR),aM]
 have atC:fU H P c' h'.objs.size ps' oc fo c'=some (.cy oc (.own 0)):=by
  unfold fU
  rw [av hca,aM]
 have Q9:fU H P c' h'.objs.size ps' oc fo h'.objs.size=some (.cy fo (.own 0)):=aM
 have pP:(h'.push fo).get? P=some (aap ps'):=YA _ M.tab
 have keep:∀ b o,b≠P→s.heap.get? b=some o→(h'.push fo).get? b=some o:=λb o hb e=>YA _ (M.ext b o hb e)
 refine I.step (g':=s.gens) (d':=s.drawn) (t':=t') (ch:=[]) (λ_ z=>nomatch z) (λb o hL hb _ e n=>keep b o (λz=>by rw [z,eP] at n;cases n) e) (λb o hL hb _ e n=>⟨o.slots,keep b o (λz=>by rw [z,eP] at n;cases n) e⟩) (λb o _ e n=>?_) (λb o _ e=>?_) (λb xs e=>xq e λz=>by rw [z,eP] at e;cases e) (λb o u e=>xq e λz=>by rw [z,eP] at e;cases e) (λb qs e=>?_) (λm hn=>?_) (λb ob e=>?_) I.bare ht
 ·have J4:=YI e
  have h1:b≠h'.objs.size:=YU (YG J4 M.sz)
  have h2:b≠c':=by
   rintro rfl
   rcases M.old with ⟨_,z⟩ | z
   ·exact absurd (YG J4 z) (Zx _)
   ·rw [n] at z;cases z
  have h3:b≠P:=λz=>by rw [z,eP] at n;cases n
  unfold fU
  rw [av h1,av h2,av h3];exact n
 ·by_cases hb:b=P
  ·exact ⟨_,hb▸pP⟩
  ·exact ⟨o,keep b o hb e⟩
 ·by_cases hb:b=P
  ·subst hb
   rw [eP] at e
   cases e
   obtain ⟨more,z⟩:=M.grow
   exact ⟨more,by rw [PR,z]⟩
  ·exact ⟨#[],by rw [xq e hb];simp⟩
 ·have V9:X.env.locals≠P:=λz=>by
   have:=I.free
   rw [z,eP] at this;cases this
  exact (hn.extBut (λb o hb e=>M.ext b o hb e) V9).push _
 ·by_cases Uz:b=h'.objs.size
  ·subst Uz
   rw [Q9] at e
   cases e
   exact ⟨YM _ hfo,_,YM _ hfo⟩
  ·by_cases UA:b=c'
   ·subst UA
    rw [atC] at e
    cases e
    exact ⟨YA _ M.code,_,YA _ M.code⟩
   ·by_cases Kd:b=P
    ·subst Kd
     rw [PR] at e
     cases e
     exact pP
    ·have e':H b=some ob:=by
      unfold fU at e
      rw [av Uz,av UA,av Kd] at e;exact e
     refine (I.hok b ob e').stay (λc u hc q=>keep c u (λz=>?_) q) (λc q=>xq q λz=>by rw [z,eP] at q;cases q) λc xs q=>xq q λz=>by rw [z,eP] at q;cases q
     rcases hc with rfl | hc
     ·exact Kd z
     ·rw [z,eP] at hc;cases hc
theorem BJ (hG:G.any (jO y)=true):∃ t:Nat,G[t]?=some (.tab y):=by
 obtain ⟨o,hm,ho⟩:=abA.mp hG
 obtain ⟨t,Ra,Wa⟩:=aad hm
 refine ⟨t,?_⟩
 rw [YD Ra,Wa]
 cases o with
 | tab z=>rw [show z=y from beq_iff_eq.mp ho]
 | lst _=>cases ho
 | _=>cases ho
structure Ar (X:Cx) (k:gA) (y:Str) (js:List Nat) (cs:List Addr) (c P:Addr):Prop where
 hk:nR X.K X.mg y=some k
 hcode:X.env.code=.ref c
 htab:Z3 X.K y=some (c,P)
 hC:aaK X.base c P
 hB:X.base.BuiltinsAt X.mg P
 hcl:closureFor k.scope X.env=pure (k.names.zip cs)
 hlen:cs.length=k.names.length
 hnd:cs.Nodup
 hcs:∀ (l:Nat) (z:Str),k.names[l]?=some z→∃ d,cs[l]?=some d∧X.env.cells.lookup z=some d
 PU:js.length=k.names.length
 hjn:∀ (l j:Nat) (z:Str),js[l]?=some j→k.names[l]?=some z→X.N[j]?=some z
 hcell:∀ z∈k.names,X.env.scope.names.lookup z=some .cell
 hfn:∀ x,X.fn x=true
theorem BK {k:gA} {cs:List Addr} {P:Addr} {t:Nat} {ps:Array V3} {doc pm ctv:V3} {oc:Obj} (T:Ar X k y js cs c P) (I:Inv X pins σ H s) (ab:Ab X.K X.mg σ H τ ρ G)
  (gt:G[t]?=some (.tab y)) (eρ:ρ[t]?=some P) (eP:H P=some (.lP ps)) (hcap:js.mapM (λj=>(τ[j]?).join)=some caps) (htk:0<tk) (M:Made P c' H s.heap h' ps ps' oc) (hd:oc.data=.fields ws) (hv:ws[1]?=some (.str k.qual tz)) (MX:ps'=#[aax k.pos.line,aax k.pos.col,.ref c']) :
  ∃ H2,Inv (Cx.held X k.names) pins σ H2 {s with heap:=h'.push (fW k cs doc pm c' ctv),toks:=tk}∧bS X.K H H2 ρ ρ∧eO X.K X.mg H2 ρ G∧Rep X.K X.mg ρ H2 (.jU y caps) (.ref h'.objs.size):=by
 obtain ⟨hk,hcode,htab,hC,hB,hcl,hlen,hnd,hcs,PU,hjn,hcell,hfn⟩:=T
 obtain ⟨xs,PV,Uw,hx⟩:=Aq ab.st js caps hcap
 have I1:=Ew (fo:=fW k cs doc pm c' ctv) I M eP htk rfl
 have xq:∀ {b:Addr} {u:HO},H b=some u→b≠P→fU H P c' h'.objs.size ps' oc (fW k cs doc pm c' ctv) b=some u:=λe hb=>tE M I.hok rfl eP e hb
 have hca:c'≠h'.objs.size:=YU (YI M.code)
 have SO:P<s.heap.objs.size:=I.hok.lt eP
 have hPa:P≠h'.objs.size:=YU (YG SO M.sz)
 have SR:c'≠P:=by
  rintro rfl
  rcases M.old with ⟨z,_⟩ | z
  ·rw [eP] at z;cases z
  ·rw [eP] at z;cases z
 have PR:fU H P c' h'.objs.size ps' oc (fW k cs doc pm c' ctv) P=some (.lP ps'):=by
  unfold fU
  rw [av hPa,av (Z2 SR),aM]
 have atC:fU H P c' h'.objs.size ps' oc (fW k cs doc pm c' ctv) c'=some (.cy oc (.own 0)):=by
  unfold fU
  rw [av hca,aM]
 have Q9:fU H P c' h'.objs.size ps' oc (fW k cs doc pm c' ctv) h'.objs.size=some (.cy (fW k cs doc pm c' ctv) (.own 0)):=aM
 generalize fU H P c' h'.objs.size ps' oc (fW k cs doc pm c' ctv)=H1 at I1 xq PR atC Q9
 generalize hs1:({s with heap:=h'.push (fW k cs doc pm c' ctv),toks:=tk}:YB)=s1 at I1 ⊢
 have I3:=Eu (ns:=k.names) I1 hfn hlen hcs
 have PX:∀ d∈cs,H1 d=none:=λd Wb=>by
  obtain ⟨l,hl,e⟩:=aad Wb
  have hl2:l<k.names.length:=by nofun
  obtain ⟨d',e1,e2⟩:=hcs l k.names[l] (YD hl2)
  rw [YD hl,e] at e1
  cases e1
  exact (I1.jM _ _ e2).resolve_right λz=>by rw [hfn] at z;cases z.1
 have out:∀ {b:Addr} {u:HO},H1 b=some u→gu H1 s1.heap cs b=some u:=λ{b u} e=>by
  rw [fG (λhb=>by rw [PX b hb] at e;cases e)];exact e
 have Iz:∀ {b:Addr} {u:HO},H b=some u→b≠P→gu H1 s1.heap cs b=some u:=λe hb=>out (xq e hb)
 have fut:bS X.K H (gu H1 s1.heap cs) ρ ρ:=by
  refine ⟨λb zs hh=>?_,λb q u hh=>Iz hh λz=>(by rw [z,eP] at hh;cases hh),⟨[],by simp⟩,λb φ hh=>Iz hh λz=>(by rw [z,eP] at hh;cases hh)⟩
  rw [rW] at hh ⊢;exact Iz hh λz=>by rw [z,eP] at hh;cases hh
 have Ex:mW (gu H1 s1.heap cs) c' k.qual:=⟨oc,ws,tz,out atC,hd,hv⟩
 have vS:eO X.K X.mg (gu H1 s1.heap cs) ρ G:=by
  refine ⟨ab.hp.hl,ab.hp.nd,λn ob e=>?_⟩
  obtain ⟨a',e1,r⟩:=ab.hp.ob n ob e
  by_cases ha':a'=P
  ·subst ha'
   have hnt:n=t:=by
    obtain ⟨l1,q1⟩:=Yw.mp e1
    obtain ⟨l2,q2⟩:=Yw.mp eρ
    exact (ZE ab.hp.nd).mp (q1.trans q2.symm)
   subst hnt
   rw [gt] at e
   cases e
   exact ⟨a',e1,ps',c,k,out PR,htab,hk,.inr ⟨c',MX,Ex⟩⟩
  ·exact ⟨a',e1,r.mono fut λu q=>Iz q ha'⟩
 have hce:dz (gu H1 s1.heap cs) cs xs:=by
  refine qG (by rw [Uw,PU,hlen]) λl d x e1 e2=>?_
  have hl:l<js.length:=by
   have:=(Yw.mp e2).1
   nofun
  have hl2:l<k.names.length:=by nofun
  obtain ⟨x',e3,e4⟩:=hx l js[l] (YD hl)
  rw [e2] at e3
  cases e3
  have nm:=hjn l js[l] k.names[l] (YD hl) (YD hl2)
  have kc:=hcell k.names[l] (adJ hl2)
  obtain ⟨m,_,hlk⟩:=I1.loc
  obtain ⟨u,ru,lk⟩:=hlk js[l] k.names[l] x nm e4 (.inr (.inl kc))
  rcases lk with ⟨kk,_⟩ | ⟨_,d',e5,Wc,e6,e7⟩
  ·have UB:X.env.scope.names.lookup k.names[l]=some .local:=kk
   rw [kc] at UB;cases UB
  ·obtain ⟨d2,e8,e9⟩:=hcs l k.names[l] (YD hl2)
   rw [e1] at e8
   cases e8
   rw [e9] at e5
   cases e5
   exact ⟨Wc,u,ni (Zi e1) e6,e7,ru⟩
 refine ⟨_,I3,fut,vS,?_⟩
 unfold Rep
 exact ⟨k,_,cs,xs,rfl,hk,⟨hlen,hnd,doc,pm,ctv,c',out Q9,Ex⟩,hce,PV.mono fut⟩
theorem BL {k:gA} {cs:List Addr} {P:Addr} (T:Ar X k y js cs c P) (I:Inv X pins σ H s) (ab:Ab X.K X.mg σ H τ ρ G) (hG:G.any (jO y)=true) :
  ∃ (t:Nat) (ps:Array V3),G[t]?=some (.tab y)∧ρ[t]?=some P∧H P=some (.lP ps)∧s.heap.get? P=some (aap ps)∧aaK s.heap c P∧s.heap.Ns mainGlobals X.mg∧mainGlobals≠P∧s.heap.BuiltinsAt X.mg P ∧
   (ps=#[]∨∃ (c':Addr) (oc:Obj) (ws:Array V3) (tz:Tok),ps=#[aax k.pos.line,aax k.pos.col,.ref c']∧H c'=some (.cy oc (.own 0))∧s.heap.get? c'=some oc∧oc.data=.fields ws∧ws[1]?=some (.str k.qual tz)):=by
 obtain ⟨t,gt⟩:=BJ hG
 obtain ⟨P',eρ,ps,c0,k0,eP,et,ek,hps⟩:=ab.hp.ob t _ gt
 rw [T.htab] at et
 cases et
 rw [T.hk] at ek
 cases ek
 have hP:s.heap.get? P=some (aap ps):=I.hok P _ eP
 have hg:s.heap.Ns mainGlobals X.mg:=I.ok.mod.glob.keeps I.bk
 refine ⟨t,ps,gt,eρ,eP,hP,T.hC.keeps I.bk,hg,λz=>?_,?_,?_⟩
 ·obtain ⟨o,es,ep,e,hd,_⟩:=hg
  rw [z,hP] at e;cases e;cases hd
 ·obtain ⟨bm,o,b1,b2,b3,b4,b5,b6⟩:=T.hB
  exact ⟨bm,o,b1,b2,b3,b4,I.bk _ _ b5,b6⟩
 ·rcases hps with rfl | ⟨c',rfl,oc,ws,tz,fc,hd,hv⟩
  ·exact .inl rfl
  ·exact .inr ⟨c',oc,ws,tz,rfl,fc,(I.hok c' _ fc).1,hd,hv⟩
noncomputable def IA (X:Cx) (ns:List Str) (EE:bW) (e:Expr) (m:DS→M D):Prop:=∀ (pins:List (Addr×Obj)) (s:YB) (σ:L2.St) (H:Hp) (Q:VK),Inv X pins σ H s→aW X.K X.mg EE m σ H Q→Y0 (model X.prog X.w) X.A (eval e X.env) (EP (Cx.held X ns) pins σ Q) X.xe s
noncomputable def PY (X:Cx) (ns:List Str) (EE:bW) (es:List Expr) (m:DS→M (List D)):Prop:=∀ (pos:Pos) (pins:List (Addr×Obj)) (s:YB) (σ:L2.St) (H:Hp) (Q:List V→Hp→Prop),Inv X pins σ H s→iu X.K X.mg EE m σ H Q→Y0 (model X.prog X.w) X.A (spliced (backTo pos (YZ es X.env))) (AP (Cx.held X ns) pins σ Q) X.xe s
noncomputable def BN (y:Str) (js:List Nat):DS→M D:=λτ G=>if G.any (jO y)=true then match js.mapM (λj=>(τ[j]?).join) with
 | some caps=>.ok (.jU y caps) G
 | none=>.stuck
 else .stuck
theorem IB {k:gA} {cs:List Addr} {P:Addr} {bd:Expr} (he:e=.Lambda k.params bd k.scope k.pos) (hbd:k.body=.expr bd) (hnm:k.name="<lambda>") (T:Ar X k y js cs c P) (hdef:defaultsOf k.params X.env=([],[])) (hq:X.env.qual++"<lambda>"=k.qual):IA X k.names EE e (BN y js):=by
 subst he
 intro pins s σ H Q I h
 obtain ⟨τ,ρ,G,ab,ok⟩:=h
 unfold BN at ok
 by_cases hG:G.any (jO y)=true
 ·rw [if_pos hG] at ok
  cases hcap:js.mapM (λj=>(τ[j]?).join) with
  | none=>rw [hcap] at ok;exact ok.elim
  | some caps=>
   rw [hcap] at ok
   dsimp only at ok
   obtain ⟨t,ps,gt,eρ,eP,hP,UC,hg,hgP,UD,hps⟩:=BL T I ab hG
   have PZ:∀ (pm ctv:V3) (c':Addr),PySem.W.kla_obj "<lambda>" k.qual k.params bd k.scope (k.names.zip cs) pm c' ctv=fW k cs .none pm c' ctv:=λpm ctv c'=>by unfold fW wu;rw [hbd,hnm]
   have fin:∀ (h':Heap) (tk:Nat) (c':Addr) (pm ctv:V3) (ps':Array V3) (oc:Obj) (ws:Array V3) (tz:Tok),0<tk→Made P c' H s.heap h' ps ps' oc→oc.data=.fields ws→ws[1]?=some (.str k.qual tz) →
     ps'=#[aax k.pos.line,aax k.pos.col,.ref c']→EP (Cx.held X k.names) pins σ Q (.ref h'.objs.size) {s with heap:=h'.push (fW k cs .none pm c' ctv),toks:=tk}:=by
    intro h' tk c' pm ctv ps' oc ws tz htk M hd hv MX
    obtain ⟨H2,I3,fut,vS,Wd⟩:=BK (doc:=.none) (pm:=pm) (ctv:=ctv) T I ab gt eρ eP hcap htk M hd hv MX
    exact ⟨.ref h'.objs.size,H2,I3,rfl,ok _ H2 ρ fut ⟨ab.st.mono fut,vS⟩ Wd⟩
   refine PySem.W.kla_eval hdef ?_
   rw [hq]
   rcases hps with rfl | ⟨c',oc,ws,tz,rfl,fc,MY,hd,hv⟩
   ·refine ig I.os.2 (PySem.W.kla_makeFunction (mg:=X.mg) T.hcl I.ok.glob hg T.hcode UC hP trivial rfl hgP UD λc' ctv h' tk hx hge hlt hrec htb=>λhtk=>?_)
    obtain ⟨c₂,oc,ws,tz,e2,hoc,hd,hv⟩:=hrec
    cases e2
    rw [PZ]
    exact fin h' tk c' _ ctv _ oc ws tz htk ⟨λb o hb e=>hx b o hb e,htb,hoc,Zw hge (acs hlt),.inl ⟨I.hok.fresh hge,hge⟩,⟨_,rfl⟩⟩ hd hv (by simp)
   ·refine ig I.os.2 (PySem.W.kla_makeFunctionHit (mg:=X.mg) (cv:=.ref c') T.hcl I.ok.glob hg T.hcode UC hP trivial (by simp [codeAmong,aax]) UD λctv h' tk hkp hsz=>λhtk=>?_)
    have:=fin h' tk c' ((X.mg "__name__").getD .none) ctv _ oc ws tz htk ⟨λb o _ e=>hkp b o e,hkp _ _ hP,hkp _ _ MY,hsz,.inr fc,⟨#[],by simp⟩⟩ hd hv rfl
    rw [← PZ] at this
    exact this
 ·rw [if_neg hG] at ok
  exact ok.elim
theorem qH {m:DS→M D} {Q:List V→Hp→Prop} (h:iu X.K X.mg EE (aa m r) σ H Q):zV (aW X.K X.mg EE m) (iu X.K X.mg EE r) σ H Q:=by
 obtain ⟨τ,ρ,G,ab,ok⟩:=Dc (k:=λτ x=>(r τ).bind λxs=>M.ret (x::xs)) h
 refine ⟨τ,ρ,G,ab,?_⟩
 cases e:m τ G with
 | stuck=>rw [e] at ok;exact ok
 | bC c G'=>rw [e] at ok;exact ok
 | ok d G'=>
  rw [e] at ok
  intro v H' ρ' f' bu r'
  obtain ⟨τ2,ρ2,G2,d2,bM,r2,aK⟩:=ok v H' ρ' f' bu r'
  refine ⟨τ2,ρ2,G2,bM,?_⟩
  dsimp only [M.bind] at aK
  cases e2:r τ2 G2 with
  | stuck=>rw [e2] at aK;exact aK
  | bC c G'=>rw [e2] at aK;exact aK
  | ok d3 G3=>
   rw [e2] at aK
   exact λv3 H3 ρ3 f3 nT r3=>aK (v::v3) H3 ρ3 f3 nT (.cons (r2.mono f3) r3)
theorem Ey {m:DS→M D} (ha:QE X EE e m) (h:br e=true) (hr:PY X ns EE es r):PY X ns EE (e::es) (aa m r):=by
 intro pos pins s σ H Q I hq
 rw [aP h]
 show Y0 _ _ (spliced ((false,eval e X.env)::backTo pos (YZ es X.env))) _ _ s
 refine ZZ (dh (ha pins s σ H _ I (qH hq)) λu s1 zz=>?_)
 obtain ⟨x,H1,I1,r1,q1⟩:=zz
 exact dh (hr pos pins s1 σ H1 _ I1 q1) λus s2 zz=>by obtain ⟨xs,H2,I2,r2,q2⟩:=zz;exact ⟨x::xs,H2,I2,.cons r1 r2,q2⟩
theorem IC {m:DS→M D} (ha:IA X ns EE e m) (h:br e=true):PY X ns EE [e] (aa m ai):=by
 intro pos pins s σ H Q I hq
 rw [aP h]
 show Y0 _ _ (spliced ((false,eval e X.env)::backTo pos (YZ [] X.env))) _ _ s
 refine ZZ (dh (ha pins s σ H _ I (qH hq)) λu s1 zz=>?_)
 obtain ⟨x,H1,I1,r1,q1⟩:=zz
 have hn:PA (Cx.held X ns) [] GB:=yF
 have We:GB σ H1 λxs H2=>Q (x::xs) H2:=by
  obtain ⟨τ,ρ,G,ab,ok⟩:=q1
  exact ok [] H1 ρ .refl ab .nil
 exact dh (hn pos pins s1 σ H1 _ I1 We) λus s2 zz=>by obtain ⟨xs,H2,I2,r2,q2⟩:=zz;exact ⟨x::xs,H2,I2,.cons r1 r2,q2⟩
theorem Ez {CX:oJ} {k:Nat} {f:Addr} {p pos:Pos} (F:kP X.prog X.w X.K X.mg X.base CX k f fd ps (gB X.K X.mg n mf)) (hr:di k X.A) (hm:X.mg x=some (.ref f)) (hk:Zu X.K (.ref f)=true) (hb:Binds X.K fd ps []) (hx:JY CX (Cx.held X ns) EE) (hg:Gl X x)
  (hd:(x==("__debug__":Str))=false∧(x==("__classdict__":Str))=false) (ha:PY X ns EE (e::es) m) (h:az (e::es)=true:=by rfl):IA X ns EE (.Call (.Name x p) (e::es) [] pos) (aq n mf m):=by
 have h':br e=true∧az es=true:=by simpa [az] using h
 intro pins s σ H Q I hq
 obtain ⟨τ1,ρ1,G1,fM,CC⟩:=jm (k:=λ_ ds=>if ds.length=n then mf ds else M.stop) hq
 refine Ze (Zn (zU hg hm (v:=.ref f) rfl hd.1 pins s σ H (λv' H'=>v'=.ref f∧H'=H) I ⟨rfl,rfl⟩) (λu s0 hu=>?_) λ_ _ z=>z)
 obtain ⟨v',H',I0,r0,rfl,rfl⟩:=hu
 cases r0
 refine ab1 (h₀:=X.base) I0.ok.mod.Gj hk (dh (ha pos pins s0 σ H' _ I0 ⟨τ1,ρ1,G1,fM,CC⟩) λus s1 ⟨vs,H1,I1,r,q⟩=>⟨I1.yr,?_⟩) (aP h'.1 _ _) (bw h'.2)
 obtain ⟨τ2,ρ2,G2,ds,bM,rs,aK⟩:=q
 by_cases hn:ds.length=n
 ·rw [if_pos hn] at aK
  exact uA (X:=Cx.held X ns) F hr hb hx I1 r bM rs hn aK
 ·rw [if_neg hn] at aK
  exact aK.elim
end
section
variable {P:Zg} {w:Zs} {K:Yz} {mg:Str→Option V3} {base:Heap} {f:Addr} {fd:FuncData}
theorem SS {st:Stmt} {k:Nat} {m:List D→M D} {c Pt:Addr} (F:CZ K x qual st f fd) (S:ir N ps (aF st)) (hps:ps.length=n) (hN:N.length=nn) (hm:∀ ds G,m ds G=i7 (cI nn ms ds G))
  (htab:Z3 K x=some (c,Pt)) (Wf:mg x=some (.ref f))
  (hbody:∀ (X:Cx) (EE:bW) (A:Around) (outer:List Env) (s:YB) (H:Hp) (E:XK),X=lT (nU P w) P w K mg base N qual (aF st) f (.ref c) A outer s H E→di k (A.deeper (aae qual (aF st) s.heap.objs.size f (.ref c))) →
   fE X EE→(∀ ns,fE (Cx.held X ns) EE)→PassesOwn (model P w) X.A X.env X.xe→Et X EE (cQ st) ms) :
  kP P w K mg base (nU P w) (k+1) f fd ps (gB K mg n m):=by
 subst hps hN
 obtain ⟨oc,od,kV,doc,pm,an,cdv,ct,osl,rfl,lk,hcd⟩:=F.ex
 refine ⟨λvs H Q E h=>h.len,λA outer s H args us vs Q E hr e0 htk hb r zW=>?_⟩
 have hc:cdv=.ref c:=PySem.W.law_code e0.mod.Gj e0.mod.glob htab Wf (e0.mod.Gj _ _ lk) rfl
 subst hc
 have hl:=zW.len
 obtain ⟨ds,ρ,G,hn,hp,rs,ok⟩:=zW
 have KX:K.In s.heap:=e0.mod.Gj.keeps λb o e=>(e0.bs b o e).1
 have lim:s.heap.NoLimit:=e0.mod.nolimit.keeps λb o e=>(e0.bs b o e).1
 have hkind:∀ y∈ps.zip us,(aF st).names.lookup y.1=some .local∨((aF st).names.lookup y.1=some .cell∧((cellsFrom (s.heap.objs.size+1) (aF st).names []).lookup y.1).isSome=true):=λzz hy=>by
  obtain ⟨n,v⟩:=zz
  rcases S.par n (Z9 hy).1 with q | q
  ·exact .inl q
  ·exact .inr ⟨q,abf _ _ _ (.inl q)⟩
 refine codeAny_call_function hr.depth (KX _ _ lk) rfl S.co S.gen rfl (abY KX hcd) (hb _ _ _ _ ?_)
 refine ig htk (aaT S.kind hkind λenv he s1 x=>λLo=>?_)
 subst he
 refine ⟨lim.keeps x.toInCall.keep,codeAny_func ?_⟩
 have hB:=hbody _ (λ_ _ _=>False) A outer s H E rfl (hr.deeper _) (λ_ _ _ _ _ _ _ _ _ _ z=>z.elim) (λ_ _ _ _ _ _ _ _ _ _ _ z=>z.elim) abk
 have I:Inv (lT (nU P w) P w K mg base N qual (aF st) f (.ref c) A outer s H E) [] (L2.start N vs) H s1:=mU S hr.hd e0 hl r x (n:=s1.toks) Lo
 have hq:gi K mg (λ_ _ _=>False) ms {nx:=λ_ H'=>Q .dP H',rt:=Q} (L2.start N vs) H:=by
  refine ⟨ds.map some++YV (N.length - ds.length) none,ρ,G,⟨jq rs,hp⟩,?_⟩
  rw [hm] at ok
  dsimp only [cI] at ok
  cases q:ms (ds.map some++YV (N.length - ds.length) none) G with
  | stuck=>rw [q] at ok;exact ok
  | nx τ G'=>rw [q] at ok;exact λσ' H' ρ' f ab=>ok .dP H' ρ' f ab.hp (by unfold Rep;rfl)
  | rt d G'=>rw [q] at ok;exact λv H' ρ' f hp r=>ok v H' ρ' f hp r
  | bk τ G'=>rw [q] at ok;exact ok.elim
  | ct τ G'=>rw [q] at ok;exact ok.elim
  | xn c τ G'=>rw [q] at ok;exact ok.elim
 refine Zn (hB [] s1 (L2.start N vs) H _ I hq) (λfl s' hs=>?_) λe s' hs=>hs
 have fin:∀ {H':Hp} {v:V} {u:V3},MW (lT (nU P w) P w K mg base N qual (aF st) f (.ref c) A outer s H E) H' s'→RelV v u→Q v H'→CE outer P w H s Q u s':=
  λ{H' v u} J rv q=>⟨v,H',J.os,J.bare,J.base,J.hok,rv,q⟩
 cases fl with
 | ret u=>
  obtain ⟨v,H',J,rv,q⟩:=hs
  exact fin J rv q
 | next=>
  obtain ⟨σ',H',J,q⟩:=hs
  exact fin (v:=V.dP) (u:=Value.none) J rfl q
 | brk=>
  obtain ⟨_,_,q⟩:=hs
  exact ZA q
 | cont=>
  obtain ⟨_,_,q⟩:=hs
  exact ZA q
end
section
open PyProof.Rows
noncomputable def As (Pt:Addr) (H:Hp):Prop:=H Pt=some (.lP #[])∧∀ b,b≠Pt→H b=none∨∃ o xs,H b=some (.cy o (.lst xs))
theorem BO {P:Zg} {w:Zs} {K:Yz} {mg mb:Str→Option V3} {CX:oJ} {k:Nat} {fa a c Pt:Addr} {fd:FuncData} {x:Str} {sp:Sp} {s₁:YB} {vs:List V3} {ns:List Int}
  (KX:K.In s₁.heap) (hns:s₁.heap.Ns mainGlobals mg) (hb:s₁.heap.Ns builtinsNs mb) (Q0:∀ x:Str,x≠"__name__"→mb x=bootBuiltins x) (hlim:s₁.heap.NoLimit) (hg:s₁.gens=#[])
  (ha:s₁.heap.get? a=some {cls:=.type "list",data:=.seq vs.toArray}) (hi:aay vs ns) (hl:ns.length≤Yx) (hr:di k callerA)
  (UE:aaK s₁.heap c Pt) (NV:s₁.heap.get? Pt=some (aap #[])) (Wg:K.lookup Pt=none) (Wh:s₁.heap.BuiltinsAt mg Pt)
  (F:∀ base:Heap,K.In base→base.Ns mainGlobals mg→aaK base c Pt→base.BuiltinsAt mg Pt→kT P w K mg base CX k fa fd [x] sp) (hbind:∀ (s:YB) (u:V3),BindsTo s fd ⟨[u],[]⟩ [(x,u)])
  (zW:∀ H:Hp,As Pt H→GV K H a (ns.map V.int)→sp [.ref a] H (λv _=>v=.bl true) λ_ _ _=>False)
  (SV:∀ H e s',CX [] H s₁ (λ_ _ _=>False) e s'→False) :
  codeAny (model P w) callerA (.call (.ref fa) ⟨[.ref a],[]⟩) (λr s'=>r=.ok (.ret (.bool true))∧OldK s₁.heap s'.heap∧s'.os=s₁.os∧aaV s'.gens) s₁:=by
 have rv:=sL hi
 have SW:=hi.length
 have UG:a≠Pt:=λz=>by rw [z,NV] at ha;cases ha
 have core:∀ H:Hp,As Pt H→GV K H a (ns.map V.int)→ji P w H s₁.heap→(∀ b,H b≠none→b=a∨b=Pt)→(H a≠none→K.lookup a=none) →
   codeAny (model P w) callerA (.call (.ref fa) ⟨[.ref a],[]⟩) (λr s'=>r=.ok (.ret (.bool true))∧OldK s₁.heap s'.heap∧s'.os=s₁.os∧aaV s'.gens) s₁:=by
  intro H hO hS hok hA hK
  have gC:∀ {b:Addr} {o:Obj},s₁.heap.get? b=some o→H b=none→(pB s₁.heap H).get? b=some o:=λe n=>CI e n
  have free:∀ {b:Addr} {o:Obj},s₁.heap.get? b=some o→o≠{cls:=.type "list",data:=.seq vs.toArray}→o≠aap #[]→H b=none:=λ{b o} e n1 n2=>by
   cases q:H b with
   | none=>rfl
   | some u=>
    rcases hA b (by rw [q];simp) with z | z
    ·rw [z,ha] at e;cases e;exact absurd rfl n1
    ·rw [z,NV] at e;cases e;exact absurd rfl n2
  have GC:∀ {b:Addr} {o:Obj} {es:Array DictEntry} {ep:Nat},s₁.heap.get? b=some o→o.data=.dict es ep→H b=none:=λ{b o es ep} e d=>free e (λz=>by rw [z] at d;cases d) λz=>by rw [z] at d;cases d
  have Rb:∀ {b:Addr} {m:Str→Option V3},s₁.heap.Ns b m→(pB s₁.heap H).Ns b m:=λ{b m} zz=>by obtain ⟨o,es,ep,e,d,r⟩:=zz;exact ⟨o,es,ep,gC e (GC e d),d,r⟩
  have UH:K.In (pB s₁.heap H):=λb o e=>gC (KX b o e) (by
   cases q:H b with
   | none=>rfl
   | some u=>
    rcases hA b (by rw [q];simp) with z | z
    ·subst z
     rw [hK (by rw [q];simp)] at e;cases e
    ·rw [z,Wg] at e;cases e)
  have hM:Mod K mg (pB s₁.heap H):=⟨UH,Rb hns,⟨mb,Rb hb,Q0⟩,let ⟨mc,h1,h2⟩:=hlim;⟨mc,Rb h1,h2⟩⟩
  have Wi:aaK (pB s₁.heap H) c Pt:=by
   obtain ⟨o,ws,file,tf,flags,tg,Wj,text,tt,e,hcl,r⟩:=id UE
   exact ⟨o,ws,file,tf,flags,tg,Wj,text,tt,gC e (free e (λz=>by rw [z] at hcl;simp at hcl) λz=>by rw [z] at hcl;cases hcl),hcl,r⟩
  have Wl:(pB s₁.heap H).BuiltinsAt mg Pt:=by
   obtain ⟨bm,o,b1,b2,b3,b4,e,hcl,r⟩:=id Wh
   exact ⟨bm,o,b1,b2,b3,b4,gC e (free e (λz=>by rw [z] at hcl;simp at hcl) λz=>by rw [z] at hcl;cases hcl),hcl,r⟩
  have e0:mT P w K mg (pB s₁.heap H) callerA [] s₁ H:=⟨rfl,hM,λb o e=>Gh e,Nat.le_of_eq (A3 _ _),trivial,λb hb=>absurd (show b∈([]:List Addr) from hb) (by simp),hok,.of_eq hg⟩
  refine codeAny_mono ((F _ UH (Rb hns) Wi Wl).run callerA [] s₁ H ⟨[.ref a],[]⟩ [.ref a] [.ref a] _ _ hr e0 (hbind s₁ (.ref a)) (.cons rfl .nil) (zW H hO hS)) λr s' h=>?_
  cases r with
  | error e=>exact (SV H e s' h).elim
  | ok fl=>
   cases fl with
   | next=>exact ZA h
   | brk=>exact ZA h
   | cont=>exact ZA h
   | ret u=>
    obtain ⟨v,H',os,bare,un,P0,r',q⟩:=h
    have q':v=.bl true:=q
    subst q'
    obtain rfl:u=Value.bool true:=r'
    refine ⟨rfl,⟨λb o e=>?_,λb o e=>un.there b o e (by simp)⟩,os.1,bare⟩
    cases q:H b with
    | none=>exact .inl (un.keep b o e q (by intro z;exact absurd (show b∈([]:List Addr) from z) (by simp)) (by simp))
    | some u=>
     by_cases Kd:b=Pt
     ·subst Kd
      obtain ⟨more,z2⟩:=un.kO b _ hO.1
      have e2:s'.heap.get? b=some (aap (#[]++more)):=P0 b _ z2
      rw [NV] at e
      cases e
      exact .inr (.inl ⟨(UE.tab NV).isCodeTable,rfl,#[],more,rfl,e2⟩)
     ·rcases hO.2 b Kd with z | ⟨ob,xs,z⟩
      ·rw [q] at z;cases z
      ·have z2:=un.jS b ob _ z
       obtain ⟨e1,_⟩:=hok b _ z
       obtain ⟨e2,_⟩:=P0 b _ z2
       rw [e] at e1;cases e1
       exact .inl e2
 cases hk:K.lookup a with
 | some o=>
  have e:=KX a o hk
  rw [ha] at e
  cases e
  refine core (λb=>if b=Pt then some (.lP #[]) else none) ⟨if_pos rfl,λb hb=>.inl (if_neg hb)⟩ (.inr ⟨_,vs.toArray,_,hk,rfl,rfl,rfl,by rw [Y3,SW];exact hl,by simpa using rv⟩) (λb u z=>?_) (λb z=>?_) λz=>absurd (if_neg UG) z
  ·by_cases hb:b=Pt
   ·have z':=(if_pos hb).symm.trans z
    cases z'
    subst hb
    exact NV
   ·have z':=(if_neg hb).symm.trans z
    cases z'
  ·by_cases hb:b=Pt
   ·exact .inr hb
   ·exact absurd (if_neg hb) z
 | none=>
  refine core (λb=>if b=Pt then some (.lP #[]) else if b=a then some (.cy {cls:=.type "list",data:=.seq vs.toArray} (.lst (ns.map V.int))) else none) ⟨if_pos rfl,λb hb=>?_⟩ (.inl ⟨{cls:=.type "list",data:=.seq vs.toArray},(if_neg UG).trans (if_pos rfl)⟩) (λb u z=>?_) (λb z=>?_) λ_=>hk
  ·by_cases hba:b=a
   ·exact .inr ⟨_,_,(if_neg hb).trans (if_pos hba)⟩
   ·exact .inl ((if_neg hb).trans (if_neg hba))
  ·by_cases hb:b=Pt
   ·have z':=(if_pos hb).symm.trans z
    cases z'
    subst hb
    exact NV
   ·have z0:=(if_neg hb).symm.trans z
    by_cases hba:b=a
    ·have z':=(if_pos hba).symm.trans z0
     cases z'
     subst hba
     exact ⟨ha,by rw [YL];exact hl,vs,_,rv,ha⟩
    ·have z':=(if_neg hba).symm.trans z0
     cases z'
  ·by_cases hb:b=Pt
   ·exact .inr hb
   ·by_cases hba:b=a
    ·exact .inl hba
    ·exact absurd ((if_neg hb).trans (if_neg hba)) z
theorem uR (X:K.In h) (hK:abm K=true) (hP:h.get? Pt=some (aap #[])):K.lookup Pt=none:=by
 cases e:K.lookup Pt with
 | none=>rfl
 | some o=>
  have e1:=X Pt o e
  rw [hP] at e1
  cases e1
  have:=aaY.mp hK _ (PySem.W.mem_of_lookupK e)
  cases this
theorem EA {l:adV} {k:Nat} {d:DefRec} {K:Params→Yz} {CX:Zs→oJ}
  (hn:l.most=some n) (hn2:n≤Yx) (hdf:d.params.defaults=[]) (hr:di k callerA) (hrec:(recsOf q).find? (λe=>e.name==y)=some dy)
  (hY:∀ (w:Zs) (h:Heap),YP w h→(K w.params).In h) (hT:∀ w:Zs,abm (K w.params)=true)
  (F:∀ (w:Zs) (mg:Str→Option V3) (fa:Addr) (h:Heap),(K w.params).In h→h.Ns mainGlobals mg→mg d.name=some (.ref fa) →
   ∃ (fd:FuncData) (c Pt:Addr) (sp:Sp),Z3 (K w.params) y=some (c,Pt)∧(∀ (s:YB) (u:V3),BindsTo s fd ⟨[u],[]⟩ [(x,u)]) ∧
    (∀ base:Heap,(K w.params).In base→base.Ns mainGlobals mg→aaK base c Pt→base.BuiltinsAt mg Pt→kT l.prog w (K w.params) mg base (CX w) k fa fd [x] sp) ∧
    ∀ (H:Hp) (a:Addr) (ns:List Int),ns.length≤n→As Pt H→GV (K w.params) H a (ns.map V.int)→sp [.ref a] H (λv _=>v=.bl true) λ_ _ _=>False)
  (SV:∀ (w:Zs) (H:Hp) (s:YB) (e:V3) (s':YB),CX w [] H s (λ_ _ _=>False) e s'→False) :
  ac5 q loose XP YP l.row.toRowW d [] (λf vs=>adZ f vs):=by
 refine T3.wc hn hdf λw s₀ s₁ mg mb fa o pm cd doc a vs ns G Y ho hd hcd hmg hobj hints hlen hg=>?_
 have KX:=hY w _ Y
 obtain ⟨fd,c,Pt,sp,ht,hb,hF,zW⟩:=F w mg fa _ KX G.T.g hmg
 obtain ⟨hC,hP⟩:=PySem.W.tab_of G.T KX hrec ht
 obtain ⟨bm,ob,b1,b2,b3,b4,b5,b6⟩:=G.T.bmain
 have Kd:bm≠Pt:=λz=>by rw [z,hP] at b3;cases b3;cases b4
 have Wm:bm≠mainGlobals:=λz=>by
  obtain ⟨o,es,ep,e,hd,_⟩:=G.T.g
  rw [z,e] at b3;cases b3;rw [hd] at b6;cases b6
 exact BO KX G.T.g G.T.b G.T.builtins G.T.nolimit hg hobj hints (Zw hlen hn2) hr hC hP (uR KX (hT w) hP) ⟨bm,ob,b1,b2,Wm,Kd,b3,b4,b5,b6⟩ hF hb (λH hO hS=>zW H a ns hlen hO hS) λH e s'=>SV w H s₁ e s'
theorem MZ {m:List D→M D} {ns:List Int} (hm:∀ ns:List Int,ns.length≤63→∃ G,m [.con (ns.map .int)] [.tab y]=.ok (.bl true) G) (hl:ns.length≤63) (ht:Z3 K y=some (c,Pt)) (hk:nR K mg y=some Ao) (hO:As Pt H) (hS:GV K H a (ns.map V.int)) :
  gB K mg 1 m [.ref a] H (λv _=>v=.bl true) λ_ _ _=>False:=by
 obtain ⟨G,e⟩:=hm ns hl
 refine ⟨[.con (ns.map .int)],[Pt],[.tab y],rfl,⟨rfl,by simp,λn o e=>?_⟩,.cons (by unfold Rep;exact ⟨a,_,rfl,hS,.ints ns⟩) .nil,?_⟩
 ·cases n with
  | zero=>
   simp at e
   subst e
   exact ⟨Pt,rfl,#[],c,Ao,hO.1,ht,hk,.inl rfl⟩
  | succ n=>simp at e
 ·rw [e]
  intro v H' ρ' _ _ r
  unfold Rep at r
  exact r
end
section
open PyProof.Rows
theorem SX {c0:Nat} (h:Pr y0 c0 m0):∀ y c mf,Zy y [(y0,(c0,m0))]=some (c,mf)→Pr y c mf:=λy c mf e=>by
 rw [Zj] at e
 cases q:(y==y0) with
 | false=>rw [q] at e;cases e
 | true=>
  rw [q] at e
  cases e
  rw [beq_iff_eq.mp q];exact h
theorem ze {st:Stmt} {f:Addr} {k:gA} (F:CZ K x qual st f fd) (hm:mg x=some (.ref f)) (h:gQ qual (cQ st)=some k):nR K mg x=some k:=by
 obtain ⟨oc,od,kV,doc,pm,an,cdv,ct,osl,rfl,lk,hcd⟩:=F.ex
 unfold nR
 rw [hm]
 dsimp only
 rw [lk]
 exact h
theorem EB {f:Addr} {vs:Array V3} (h1:aaz K mainGlobals x=some (some (.ref f))) (h2:K.lookup f=some ⟨oc,od,.func fd,sl⟩) (h3:fd.code=.ref c)
  (h4:K.lookup c=some ⟨o1,o2,.fields vs,o4⟩) (h5:vs[11]?=some (.ref Pt)):Z3 K x=some (c,Pt):=by
 unfold Z3
 rw [h1]
 dsimp only
 rw [h2]
 dsimp only
 rw [h3]
 dsimp only
 rw [h4]
 dsimp only
 rw [h5]
end
section
open PyProof.Rows
noncomputable def Au (s:Stmt):Expr:=match s with
 | .Assign [_] (.Call _ es _ _) _=>es.getLast?.getD (.Constant .none 0 ⟨0,0,0,0⟩)
 | .Return (some (.Call _ es _ _)) _=>es.getLast?.getD (.Constant .none 0 ⟨0,0,0,0⟩)
 | _=>.Constant .none 0 ⟨0,0,0,0⟩
noncomputable def ID (e:Expr):Arguments:=match e with
 | .Lambda a _ _ _=>a
 | _=>{posonlyargs:=[],args:=[],vararg:=none,kwonlyargs:=[],kw_defaults:=[],kwarg:=none,defaults:=[]}
noncomputable def IE (e:Expr):Expr:=match e with
 | .Lambda _ b _ _=>b
 | e=>e
noncomputable def EC (e:Expr):Scope:=match e with
 | .Lambda _ _ s _=>s
 | _=>{kind:=.function,names:=[],isGenerator:=false,isCoroutine:=false}
section
variable {X:Cx} {EE:bW} {a b:Expr} {ma mb:DS→M D} {pos:Pos}
noncomputable abbrev uS:=cK (λ_ _=>true) λi j=>.int (aaS i j)
noncomputable abbrev BP:=cK (λ_ _=>true) λi j=>.int (abD i j)
noncomputable abbrev mw:=cK (λi j=>decide (0≤j)&&(decide (j≤1000000)&&decide (i.natAbs<2^64))) λi j=>.int (i*2^j.toNat)
theorem IF (ha:QE X EE a ma) (hb:QE X EE b mb):QE X EE (.BinOp a .BitAnd b pos) (ao uS ma mb):=kX Le (iS λ_ _ _ _=>by unfold Rep;rfl) ha hb
theorem M0 (ha:QE X EE a ma) (hb:QE X EE b mb):QE X EE (.BinOp a .BitOr b pos) (ao BP ma mb):=kX Ot (iS λ_ _ _ _=>by unfold Rep;rfl) ha hb
theorem M3 (ha:QE X EE a ma) (hb:QE X EE b mb):QE X EE (.BinOp a .LShift b pos) (ao mw ma mb):=kX Lc (kC (P:=Gx) (λi j h=>by simpa [Gx] using h) λ_ _ _ _=>by unfold Rep;rfl) ha hb
noncomputable abbrev zf:=cK (λ_ j=>decide (0≤j)) λi j=>.int (i / 2^j.toNat)
theorem M4 (ha:QE X EE a ma) (hb:QE X EE b mb):QE X EE (.BinOp a .RShift b pos) (ao zf ma mb):=kX Ld (kC (P:=λ_ j=>0≤j) (λi j h=>by simpa using h) λ_ _ _ _=>by unfold Rep;rfl) ha hb
end
end
section
variable {X:Cx} {EE:bW} {o i e:Expr} {pos p:Pos} {mo mi:DS→M D} {m:DS→M (List D)}
noncomputable def i8 (G:DH):D→Option (List (Key×D))
 | .obj n=>match G[n]? with
  | some (.dct kvs)=>some kvs
  | some (.C8 kvs)=>some kvs
  | _=>none
 | _=>none
theorem tF {d:D} {x:V} (h:eO X.K X.mg H ρ G) (r:Rep X.K X.mg ρ H d x) (e:i8 G d=some kvs):∃ a xs,x=.ref a∧Rd H a (.dK ((kvs.map (·.1)).zip xs))∧au X.K X.mg ρ H (kvs.map (·.2)) xs:=by
 cases d with
 | obj n=>
  unfold Rep at r
  obtain ⟨a,rfl,ea⟩:=r
  dsimp only [i8] at e
  cases g:G[n]? with
  | none=>rw [g] at e;cases e
  | some ob=>
   cases ob with
   | dct kv=>
    rw [g] at e;cases e
    obtain ⟨a',xs,e1,e2,rs⟩:=h.dct g
    rw [ea] at e1;cases e1
    exact ⟨a,xs,rfl,.inl e2,rs⟩
   | C8 kv=>
    rw [g] at e;cases e
    obtain ⟨a',e1,xs,e2,rs⟩:=h.ob n _ g
    rw [ea] at e1;cases e1
    exact ⟨a,xs,rfl,.inr e2,rs⟩
   | _=>rw [g] at e;cases e
 | _=>cases e
noncomputable def uT (d k:D):M D:=λG=>match i8 G d,iK k with
 | some kvs,some y=>match cX kvs y with
  | some v=>.ok v G
  | none=>.stuck
 | _,_=>.stuck
noncomputable def lE (mo mi:DS→M D):DS→M D:=λτ=>(mo τ).bind λd=>(mi τ).bind λk=>uT d k
theorem M5 (hu:X.A.units+600<cLine) (ho:QE X EE o mo) (hi:QE X EE i mi) (hs:C2 i):QE X EE (.Subscript o i pos) (lE mo mi):=by
 refine PE.mono (zZ (by nofun) ho hi hs) λσ H Q zz=>?_
 obtain ⟨τ,ρ,G,ab,ok⟩:=zz
 refine ⟨τ,ρ,G,ab,?_⟩
 dsimp only [lE,M.bind] at ok
 cases e1:mo τ G with
 | stuck=>rw [e1] at ok;exact ok
 | bC c G'=>rw [e1] at ok;exact ok
 | ok d G1=>
  rw [e1] at ok
  dsimp only at ok
  intro vd H1 ρ1 f1 fM r1
  refine ⟨τ,ρ1,G1,fM,?_⟩
  cases e2:mi τ G1 with
  | stuck=>rw [e2] at ok;exact ok
  | bC c G'=>rw [e2] at ok;exact λH' ρ' f bu=>ok H' ρ' (f1.trans f) bu
  | ok k G2=>
   rw [e2] at ok
   dsimp only [uT] at ok
   intro vk H2 ρ2 f2 bM r2
   cases q:i8 G2 d with
   | none=>rw [q] at ok;exact ok.elim
   | some kvs=>
    cases ek:iK k with
    | none=>rw [q,ek] at ok;exact ok.elim
    | some y=>
     rw [q,ek] at ok
     dsimp only at ok
     obtain ⟨a,xs,rfl,eH,rs⟩:=tF bM.hp (r1.mono f2) q
     have ev:=oX r2 ek
     subst ev
     rcases l9 y rs with ⟨z1,z2⟩ | ⟨dv,v,z1,z2,z3⟩
     ·rw [z1] at ok;exact ok.elim
     ·rw [z1] at ok
      refine ⟨a,v,rfl,?_,ok v H2 ρ2 (f1.trans f2) bM z3⟩
      exact .inl ⟨_,y,eH,rfl,z2.symm⟩
noncomputable def mz:List (Str×(DS→M D))→DS→M (List (Key×D))
 | [],_=>M.ret []
 | (k,m)::r,τ=>(m τ).bind λa=>(mz r τ).bind λl=>M.ret ((Sum.inr k,a)::l)
noncomputable def Wn (X:Cx) (H:Hp) (σ:L2.St) (τ:DS) (ρ:List Addr) (Q:List (V×V)→Hp→Prop):Out (List (Key×D))→Prop
 | .ok CF G2=>∀ H2 ρ2 xs,bS X.K H H2 ρ ρ2→Ab X.K X.mg σ H2 τ ρ2 G2→au X.K X.mg ρ2 H2 (CF.map (·.2)) xs→Q (((CF.map (·.1)).zip xs).map λkv=>(kV kv.1,kv.2)) H2
 | _=>False
theorem xr {σ:L2.St} {τ:DS}:∀ (l:List (Str×(DS→M D))) (H:Hp) (ρ:List Addr) (G:DH) (Q:List (V×V)→Hp→Prop),Ab X.K X.mg σ H τ ρ G→Wn X H σ τ ρ Q (mz l τ G) →
  ux (l.map λkm=>(aW X.K X.mg EE (eC (.str km.1)),aW X.K X.mg EE km.2)) σ H Q
 | [],H,ρ,G,Q,ab,ok=>ok H ρ [] .refl ab .nil
 | (k,m)::r,H,ρ,G,Q,ab,ok=>by
  dsimp only [mz,M.bind,M.ret] at ok
  show aW X.K X.mg EE (eC (.str k)) σ H _
  refine ⟨τ,ρ,G,ab,λvk H1 ρ1 f1 fM r1=>⟨τ,ρ1,G,fM,?_⟩⟩
  unfold Rep at r1;subst r1
  dsimp only
  cases e1:m τ G with
  | stuck=>rw [e1] at ok;exact ok.elim
  | bC c G'=>rw [e1] at ok;exact ok.elim
  | ok a G1=>
   rw [e1] at ok
   dsimp only at ok
   intro va H2 ρ2 f2 bM r2
   refine xr r H2 ρ2 G1 _ bM ?_
   cases e2:mz r τ G1 with
   | stuck=>rw [e2] at ok;exact ok.elim
   | bC c G'=>rw [e2] at ok;exact ok.elim
   | ok l G2=>
    rw [e2] at ok
    intro H3 ρ3 xs f3 nT rs
    exact ok H3 ρ3 (va::xs) ((f1.trans f2).trans f3) nT (.cons (r2.mono f3) rs)
noncomputable def qI (l:List (Key×D)):List (Key×D):=l.foldl (λacc kv=>bF acc kv.1 kv.2) []
theorem tG {H:Hp} {ρ:List Addr}:∀ {l:List (Key×D)} {xs:List V} {acc:List (Key×D)} {ys:List V},au X.K X.mg ρ H (l.map (·.2)) xs→au X.K X.mg ρ H (acc.map (·.2)) ys →
  ∃ zs,jX ((acc.map (·.1)).zip ys) ((l.map (·.1)).zip xs)=((l.foldl (λacc kv=>bF acc kv.1 kv.2) acc).map (·.1)).zip zs∧au X.K X.mg ρ H ((l.foldl (λacc kv=>bF acc kv.1 kv.2) acc).map (·.2)) zs
 | [],xs,acc,ys,r,ra=>⟨ys,by simp [jX],ra⟩
 | kv::l,xs,acc,ys,r,ra=>by
  rw [Yv] at r
  unfold au at r
  obtain ⟨v,r',rfl,h1,h2⟩:=r
  obtain ⟨ws,e,rw'⟩:=qu kv.1 h1 ra
  obtain ⟨zs,e2,rz⟩:=tG h2 rw'
  refine ⟨zs,?_,rz⟩
  rw [← e] at e2
  exact e2
noncomputable def mC (l:List (Str×(DS→M D))):DS→M D:=λτ G=>match mz l τ (G++[.dct []]) with
 | .ok CF G2=>match G2[G.length]? with
  | some (.dct [])=>if CF.length≤15 then .ok (.obj G.length) (G2.set G.length (.dct (qI CF))) else .stuck
  | _=>.stuck
 | _=>.stuck
theorem P1 {k v:Expr} {m:DS→M D} {r:List (Str×(DS→M D))} {ks:List (Option Expr)} {vs:List Expr} (hk:QE X EE k (eC (.str x))) (hv:QE X EE v m) (hr:JW X pos ks vs (r.map λkm=>(aW X.K X.mg EE (eC (.str km.1)),aW X.K X.mg EE km.2))) :
  JW X pos (some k::ks) (v::vs) (((x,m)::r).map λkm=>(aW X.K X.mg EE (eC (.str km.1)),aW X.K X.mg EE km.2)):=C6 hk hv hr
theorem IG {keys:List (Option Expr)} {l:List (Str×(DS→M D))} (hp:JW X pos keys values (l.map λkm=>(aW X.K X.mg EE (eC (.str km.1)),aW X.K X.mg EE km.2))) (hall:keys.all (·.isSome)=true) (hl:keys.length=values.length) (h0:keys≠[]) (RV:keys.length≤15):QE X EE (.Dict keys values pos) (mC l):=by
 refine PE.mono (GU hp hall hl h0 RV) λσ H Q zz=>?_
 obtain ⟨τ,ρ,G,ab,ok⟩:=zz
 intro p hp
 have f0:bS X.K H (upd H p (.dK [])) ρ (ρ++[p]):=(cR hp ρ).trans (cE ρ p)
 have HA:Ab X.K X.mg σ (upd H p (.dK [])) τ (ρ++[p]) (G++[.dct []]):=⟨ab.st.mono f0,ab.hp.J8 hp⟩
 have r0:(ρ++[p])[G.length]?=some p:=by rw [← ab.hp.hl,aB]
 refine xr l _ _ _ _ HA ?_
 unfold mC at ok
 cases e1:mz l τ (G++[.dct []]) with
 | stuck=>rw [e1] at ok;exact ok.elim
 | bC c G'=>rw [e1] at ok;exact ok.elim
 | ok CF G2=>
  rw [e1] at ok
  dsimp only at ok
  intro H2 ρ2 xs f2 bM rs
  cases g:G2[G.length]? with
  | none=>rw [g] at ok;exact ok.elim
  | some ob=>
   rw [g] at ok
   cases ob with
   | dct kvs=>
    cases kvs with
    | cons a b=>exact ok.elim
    | nil=>
     dsimp only at ok
     by_cases h:CF.length≤15
     ·rw [if_pos h] at ok
      obtain ⟨a,ys,e2,eH,_⟩:=bM.hp.dct g
      rw [f2.get r0] at e2;cases e2
      have hlx:CF.length=xs.length:=by simpa using rs.length
      obtain ⟨zs,e3,rz⟩:=tG (acc:=[]) (ys:=[]) rs .nil
      refine ⟨by simpa using eH,(CF.map (·.1)).zip xs,rfl,by simp;nofun,?_⟩
      have Wo:jX [] ((CF.map (·.1)).zip xs)=((qI CF).map (·.1)).zip zs:=e3
      rw [Wo]
      have f3:bS X.K H2 (upd H2 p (.dK (((qI CF).map (·.1)).zip zs))) ρ2 ρ2:=mj eH ρ2
      refine ok (.ref p) _ ρ2 ((f0.trans f2).trans f3) ⟨bM.st.mono f3,bM.hp.putD (f2.get r0) eH rz⟩ ?_
      unfold Rep
      exact ⟨p,rfl,f2.get r0⟩
     ·rw [if_neg h] at ok;exact ok.elim
   | _=>exact ok.elim
end
section
variable {X:Cx} {EE:bW}
theorem II {m:DS→M D} (he:IA X ns EE e m):Et X EE [.Return (some e) pos] (cN m):=by
 intro pins s σ H D I h
 have hl:aW X.K X.mg EE m σ H D.rt:=by
  obtain ⟨τ,ρ,G,ab,ok⟩:=pM (k:=λτ d G=>.rt d G) h
  refine ⟨τ,ρ,G,ab,?_⟩
  cases e:m τ G with
  | stuck=>rw [e] at ok;exact ok
  | bC c G'=>rw [e] at ok;exact ok
  | ok d G'=>
   rw [e] at ok
   intro v H' ρ' f' bu r'
   obtain ⟨τ2,ρ2,G2,d2,bM,r2,aK⟩:=ok v H' ρ' f' bu r'
   exact aK v H' ρ2 .refl bM.hp r2
 refine ack (adh (dh (he pins s σ H _ I hl) λv s1 zz=>?_))
 obtain ⟨x,H1,I1,r1,q1⟩:=zz
 exact ⟨x,H1,⟨I1.os,I1.bare,I1.base,I1.hok⟩,r1,q1⟩
end
noncomputable def mD:List Key→Option (List Int)
 | []=>some []
 | .inl i::r=>(mD r).map (i::·)
 | _=>none
section
variable {prog:Zg} {w:Zs} {A:Around} {E:V3→YB→Prop} {s:YB}
theorem tH:∀ {ks:List Key} {ns:List Int} {vs:List V3},mD ks=some ns→vs.length=ks.length→(∀ (i:Nat) (k:Key) (v:V3),ks[i]?=some k→vs[i]?=some v→pA k v=true)→aay vs ns
 | [],ns,vs,h,hl,hk=>by
  cases h
  rw [ZP.mp hl];exact .nil
 | .inl i::r,ns,[],h,hl,hk=>by simp at hl
 | .inl i::r,ns,v::vs,h,hl,hk=>by
  dsimp only [mD] at h
  cases e:mD r with
  | none=>rw [e] at h;cases h
  | some m=>
   rw [e] at h;cases h
   obtain ⟨t,rfl⟩:=Value.isInt_shape (k:=i) (v:=v) (hk 0 (.inl i) v rfl rfl)
   exact .cons i t (tH e (by simpa using hl) λj k u h1 h2=>hk (j+1) k u (by simpa using h1) (by simpa using h2))
theorem uU {d:Addr} {kvs:List (Key×V3)} {ns:List Int} {Q:V3→YB→Prop} (hh:A.handled=none) (hm:(d==sysModules)=false) (hd:s.heap.DictOf (bK prog w) d kvs) (hn:mD (kvs.map (·.1))=some ns) (hl:kvs.length<64)
  (hQ:∀ (h1 h':Heap) (tk:Nat) (its:List V3) (c:Nat),(∀ b o,s.heap.get? b=some o→h1.get? b=some o)→(∀ b o,h1.get? b=some o→h'.get? b=some o)→h'.get? h1.objs.size=some {cls:=.type "list",data:=.seq its.toArray c}→aay its (aci ns)→Q (.ref h1.objs.size) {s with heap:=h',toks:=tk}) :
  Y0 (model prog w) A (call (.builtin "sorted") [.ref d]) Q E s:=by
 obtain ⟨o,es,ep,h1,h2,h3,h4,h5,h6⟩:=hd
 have hz:kvs.length≤Yx:=by rw [sizeLine_eq];nofun
 refine Calls.call_function_entry PyProof.Rows.kind_sorted PyProof.Rows.plain_sorted PyProof.Rows.entry_sorted (PyProof.Rows.args_sorted1 _) ?_
 unfold Builtin.sorted
 refine Yu (adR (a:=()) rfl ?_)
 refine Yu (PySem.W.kdu_collect (PySem.W.kdl_dict (knd:=bK prog w) (kvs:=kvs) (ep:=ep) hm) (show A.in1.handled=none from hh) ⟨o,es,h1,h2,h3,h4,h5,h6⟩ hz λh' tk acc kp hacc=>?_)
 have ia:aay acc.toList ns:=tH hn (by simpa using hacc.1) λi k v g1 g2=>by
  obtain ⟨k',x,g3,g4⟩:=hacc.2 i v (by simpa using g2)
  rw [YK,g3] at g1;cases g1
  exact g4
 refine Yu (Zo ?_ (show acc.toList.toArray.size≤Yx by simp only [acY];rw [hacc.1];exact hz))
 have hS:(h'.push {cls:=.type "list",data:=.seq acc.toList.toArray}).get? h'.objs.size=some (PyProof.Rows.seqObj "list" acc.toList.toArray 0):=YM _ rfl
 refine Yu (ace (aaj PyProof.Rows.slot_list_sort ⟨_,hS,rfl⟩ PyProof.Rows.entry_list_sort (PyProof.Rows.list_sort_tree (n:=0) hS ia (by have:=hacc.1;simp at this ⊢;nofun) λout ns' g1 g2 g3=>⟨_,rfl,?_⟩) (PyProof.Rows.args_list_sort _)))
 refine YN ⟨_,rfl,?_⟩
 obtain ⟨c,ec⟩:=PyProof.Rows.sortedHeap_at (out:=out) hS
 have es:=adK g2 g3
 subst es
 refine hQ h' _ tk out.toList c kp (λb o e=>?_) (by simpa using ec) g1
 have lt:=YI e
 rw [PyProof.Rows.sortedHeap_old (YU lt) (YG lt (by simp [Heap.push]))]
 exact YA _ e
end
noncomputable def nj:List D→M D
 | [d]=>λG=>match i8 G d with
  | some kvs=>match mD (kvs.map (·.1)) with
   | some ns=>if kvs.length<64 then aS ((aci ns).map .int) G else .stuck
   | none=>.stuck
  | none=>.stuck
 | _=>M.stop
theorem BQ {vs:List V3} {ns:List Int} (h:aay vs ns):Vals (ns.map V.int) vs:=by
 induction h with
 | nil=>exact .nil
 | cons n t _ ih=>exact .cons ⟨_,rfl⟩ ih
theorem Av {κ:Type} {a:List (κ×V)} {b:List (κ×V3)} (h:KV a b):a.map (·.1)=b.map (·.1):=by
 induction h with
 | nil=>rfl
 | cons h _ ih=>rw [Yv,Yv,h.1,ih]
theorem xu {κ:Type} {l:List (κ×D)} (h:l.length=xs.length):((l.map (·.1)).zip xs).map (·.1)=l.map (·.1):=by
 rw [adL];simp;nofun
section
variable {X:Cx} {EE:bW} {e:Expr} {pos p:Pos} {m:DS→M (List D)}
theorem uV (hc:X.calm=true):eX X (.builtin "sorted") (Hu X EE nj):=by
 intro pins s σ0 H xs us Q I r zu
 obtain ⟨σ,τ,ρ,G,ds,ab,rs,ok⟩:=zu
 match ds,ok with
 | [],ok=>exact ok.elim
 | _::_::_,ok=>exact ok.elim
 | [d],ok=>
  obtain ⟨x,rfl,rx⟩:=iw rs
  obtain ⟨u,rfl,ru⟩:=vals1 r
  dsimp only [nj] at ok
  cases q:i8 G d with
  | none=>rw [q] at ok;exact ok.elim
  | some kvs=>
   rw [q] at ok
   dsimp only at ok
   cases qn:mD (kvs.map (·.1)) with
   | none=>rw [qn] at ok;exact ok.elim
   | some ns=>
    rw [qn] at ok
    dsimp only at ok
    by_cases hl:kvs.length<64
    ·rw [if_pos hl] at ok
     obtain ⟨a,ys,rfl,eH,rs⟩:=tF ab.hp rx q
     cases ru
     obtain ⟨_,hm,vs,kv,hd⟩:=sN I.hok eH
     have Wq:kvs.length=ys.length:=by simpa using rs.length
     have ek:=Av kv
     rw [xu Wq] at ek
     have el:=congrArg aag ek
     simp at el
     have rr:au X.K X.mg ρ H ((aci ns).map .int) ((aci ns).map V.int):=au.ints _
     obtain ⟨hlr,hn⟩:=pN ab rr ok
     refine ig I.os.2 <| uU (show X.A.handled=none from I.ok.hd hc) hm hd (by rw [← ek];exact qn) (by nofun) λh1 h' tk its c kp Wr e g=>λht=>?_
     have I2:Inv X pins σ0 H {s with heap:=h1,toks:=tk}:=I.kept (t':=tk) kp
     exact ⟨.ref _,_,I2.laid (t':=tk) Wr (YE _) (show dm X.prog X.w _ h' _ (.lst _) from ⟨hlr,its,c,BQ g,e⟩),rfl,hn _ (I2.hok.fresh (YE _))⟩
    ·rw [if_neg hl] at ok;exact ok.elim
theorem zg (hc:X.calm=true) (hm:X.mg "sorted"=none) (hg:Gl X "sorted") (ha:QA X EE [e] m) (h:az [e]=true:=by rfl):QE X EE (.Call (.Name "sorted" p) [e] [] pos) (ak nj m):=lZ (uV hc) hm hg PyProof.Rows.boot_sorted ha (by decide) (by decide) h
end
theorem ED {u:List (Key×V)} (I:Inv X pins σ H s) (e:H a=some (.dK u)) (hg:s.heap.get? a=some o):Inv X pins σ (upd H a (.cy o (.dK u))) s:=by
 refine I.un (H':=upd H a (.cy o (.dK u))) (h':=s.heap) (t':=s.toks) ⟨λb o q _ _ _=>q,λb o q _ _ _=>⟨o.slots,q⟩,λb o q hn _=>?_,λb o q _=>⟨o,q⟩,λb ys q=>?_,λb o u q=>?_,λb ps q=>⟨#[],?_⟩⟩ λb u' q=>?_
 ·rw [av (by rintro rfl;rw [e] at hn;cases hn)];exact hn
 ·rw [av (cD q e (by intro z;cases z))];exact q
 ·rw [av (cD q e (by intro z;cases z))];exact q
 ·rw [av (cD q e (by intro z;cases z)),q];simp
 ·have ho:∀ c y,H c=some (.own y)→upd H a (.cy o (.dK u)) c=some (.own y):=λc y w=>by rw [av (cD w e (by intro z;cases z))];exact w
  have ht:∀ c ys,H c=some (.tup ys)→upd H a (.cy o (.dK u)) c=some (.tup ys):=λc ys w=>by rw [av (cD w e (by intro z;cases z))];exact w
  by_cases hb:b=a
  ·subst hb
   rw [aM] at q;cases q
   exact ⟨hg,(I.hok b _ e).stay (λ_ _ _ w=>w) (λc w=>ho c b w) ht⟩
  ·rw [av hb] at q
   exact (I.hok b u' q).stay (λ_ _ _ w=>w) (λc w=>ho c b w) ht
theorem pairs_at:∀ {es:List DictEntry} {kvs:List (Key×V3)},Pairs (bK P w) es kvs→es.length=kvs.length∧∀ (i:Nat) (k:Key),(kvs.map (·.1))[i]?=some k→∃ en,es[i]?=some en∧RelV (kV k) en.key:=by
 intro es kvs h
 induction h with
 | nil=>exact ⟨rfl,λi k h=>by simp at h⟩
 | @cons e kv es kvs h1 h2 h3 ih=>
  refine ⟨by simp [ih.1],λi k h=>?_⟩
  cases i with
  | zero=>
   simp at h;subst h
   refine ⟨e,rfl,?_⟩
   rcases cu h1 with ⟨j,t,q1,q2⟩ | ⟨x,t,q1,q2⟩
   ·rw [q1,q2];exact ⟨t,rfl⟩
   ·rw [q1,q2];exact ⟨t,rfl⟩
  | succ i=>exact ih.2 i k (by simpa using h)
theorem uW {u:List (Key×V)} (I:Inv X pins σ H s) (e:H a=some (.cy o (.dK u))) :
  s.heap.get? a=some o∧(a==sysModules)=false∧o.ExactDict∧∃ es ep,o.data=.dict es ep∧es.size=u.length∧∀ (i:Nat) k,(u.map (·.1))[i]?=some k→∃ en,es[i]?=some en∧RelV (kV k) en.key:=by
 obtain ⟨h1,z,y,xs,r,o',es,ep,h2,h3,h4,h5,h6,h7⟩:=(show dm X.prog X.w H s.heap a (.cy o (.dK u)) from I.hok a _ e)
 rw [h1] at h2;cases h2
 have hl:u.length=xs.length:=aa5 r
 have q:=pairs_at h6
 refine ⟨h1,y,h3,es,ep,h4,by have:=q.1;simp at this;nofun,λi k hi=>?_⟩
 rw [Av r] at hi
 obtain ⟨en,e1,e2⟩:=q.2 i k hi
 exact ⟨en,by simpa using e1,e2⟩
noncomputable def P4 (o:Obj) (a:Addr) (u:List (Key×V)):It:=
 ⟨λi H=>H a=some (.cy o (.dK u))∧i<u.length,λi H y H'=>H'=H∧∃ k,y=kV k∧(u.map (·.1))[i]?=some k,λi H=>H a=some (.cy o (.dK u))∧u.length≤i⟩
theorem zh (o:Obj) (u:List (Key×V)) (a it:Addr) (ep:Nat) (es:Array DictEntry) (hd:o.data=.dict es ep):Turn P w K tg (P4 o a u) [it] it (λi h=>h.IsKeyIter it a i es.size ep) where
 mem:=by simp
 obj:=λi h st b hb=>by
  have e:b=it:=by simpa using hb
  subst e
  obtain ⟨o,e,c,d⟩:=st
  exact ⟨o,e,λv z=>by rw [d] at z;cases z⟩
 keep:=λi h h' st k=>qE st λo e=>k it (by simp) o e
 item:=by
  intro X hP hw hK hc i pins s σ H E I hf st hg
  subst hP hw hK
  obtain ⟨eH,hi⟩:=hg
  obtain ⟨h1,_,h2,es',oq,h3,h4,h5⟩:=uW I eH
  rw [hd] at h3;cases h3
  obtain ⟨en,g1,g2⟩:=h5 i (u[i].1) (by rw [YK,YD hi];rfl)
  obtain ⟨f0,f1,f2,f3,f4,f5⟩:=hf it (by simp)
  refine kg st h1 h2 hd g1 λh' st' sb=>?_
  have I1:Inv X pins σ H {s with heap:=h'}:=I.turned (t':=s.toks) (λb o hb e=>(sb.2 b hb).trans e) f0 f1 f3 f4 f5
  obtain ⟨o,e,c,d⟩:=id st'
  exact ⟨_,rfl,nP (s:={s with heap:=h'}) e c d (by decide) ⟨kV u[i].1,H,I1,g2,⟨rfl,_,rfl,by rw [YK,YD hi];rfl⟩,st',λb hb=>(hf b hb).1⟩⟩
 done:=by
  intro X hP hw hK hc i pins s σ H E I hf st hg
  subst hP hw hK
  obtain ⟨eH,hi⟩:=hg
  obtain ⟨h1,_,h2,es',oq,h3,h4,h5⟩:=uW I eH
  rw [hd] at h3;cases h3
  obtain ⟨f0,f1,f2,f3,f4,f5⟩:=hf it (by simp)
  exact k7 (I.ok.hd hc) st h1 h2 hd (by simp;nofun) λh' eb=>⟨rfl,I.turned (t':=s.toks) (λb o hb e=>eb b o hb e) f0 f1 f3 f4 f5⟩
 self:=λ_ _ _ _ _ st h=>ac0 st h
noncomputable def uX (kvs:List (Key×D)):View:=λ_ i=>if i≤kvs.length then some ((kvs[i]?).map λkv=>nh kv.1) else none
noncomputable def BR (m:DS→M D):MI:=λτ=>(m τ).bind λd G=>match d with
 | .obj n=>match G[n]? with
  | some (.dct kvs)=>.ok (kvs.length+1,uX kvs) (G.set n (.C8 kvs))
  | some (.C8 kvs)=>.ok (kvs.length+1,uX kvs) G
  | _=>.stuck
 | _=>.stuck
theorem EF (hl:kvs.length=xs.length) (e:H0 a=some (.cy o (.dK ((kvs.map (·.1)).zip xs)))):JV K mg (P4 o a ((kvs.map (·.1)).zip xs)) (uX kvs) H0 ρ0:=by
 intro i H ρ G f hp
 have eH:=f.cy a _ _ e
 have hz:((kvs.map (·.1)).zip xs).length=kvs.length:=by simp [hl]
 unfold uX
 constructor
 ·intro q
  by_cases hi:i≤kvs.length
  ·rw [if_pos hi] at q
   cases g:kvs[i]? with
   | some kv=>rw [g] at q;cases q
   | none=>
    have:=Zv.mp g
    exact ⟨eH,by nofun⟩
  ·rw [if_neg hi] at q;cases q
 ·intro d q
  by_cases hi:i≤kvs.length
  ·rw [if_pos hi] at q
   cases g:kvs[i]? with
   | none=>rw [g] at q;cases q
   | some kv=>
    rw [g] at q;cases q
    obtain ⟨hi',_⟩:=Yw.mp g
    refine ⟨⟨eH,by nofun⟩,λy H' hy=>?_⟩
    obtain ⟨rfl,k,rfl,hk⟩:=hy
    rw [xu hl,YK,g] at hk
    cases hk
    refine ⟨⟨bS.refl,λG hG=>hG⟩,?_⟩
    show Rep K mg ρ H' (nh kv.1) (kV kv.1)
    cases kv.1<;>(unfold Rep;rfl)
  ·rw [if_neg hi] at q;cases q
section
variable {X:Cx} {EE:bW} {tg e:Expr} {m:DS→M D}
theorem eO.SY (h:eO K mg H ρ G) (hn:ρ[n]?=some a) (ha:H a=some (.dK ((kvs.map (·.1)).zip ys))) (r:au K mg ρ H (kvs.map (·.2)) ys) :
  bS K H (upd H a (.cy o (.dK ((kvs.map (·.1)).zip ys)))) ρ ρ∧eO K mg (upd H a (.cy o (.dK ((kvs.map (·.1)).zip ys)))) ρ (G.set n (.C8 kvs)):=by
 have f:bS K H (upd H a (.cy o (.dK ((kvs.map (·.1)).zip ys)))) ρ ρ:=by
  refine ⟨λb zs h=>?_,λb q u h=>by rw [av (cD h ha (by intro z;cases z))];exact h,⟨[],by simp⟩,λb φ h=>by rw [av (cD h ha (by intro z;cases z))];exact h⟩
  rw [rW] at h ⊢;rw [av (cD h ha (by intro z;cases z))];exact h
 refine ⟨f,by simp [h.hl],h.nd,λm ob e=>?_⟩
 by_cases hm:n=m
 ·subst hm
  rw [Zr,if_pos rfl] at e
  split at e
  ·cases e
   exact ⟨a,hn,ys,⟨o,aM⟩,r.mono f⟩
  ·cases e
 ·rw [Zh hm] at e
  obtain ⟨b,e1,r'⟩:=h.ob m ob e
  have hb:b≠a:=by
   rintro rfl
   obtain ⟨h1,vQ⟩:=Yw.mp hn
   obtain ⟨h2,ym⟩:=Yw.mp e1
   exact hm ((ZE h.nd).mp (vQ.trans ym.symm))
  exact ⟨b,e1,r'.mono f λu q=>by rw [av hb];exact q⟩
theorem M6 (ha:QE X EE e m):QI X EE tg e (BR m):=by
 intro pins s σ H R I hq
 obtain ⟨τ,ρ,G,ab,ok⟩:=hq
 dsimp only [BR,M.bind] at ok
 have hA:aW X.K X.mg EE m σ H λv H1=>∃ ρ1 G1 d,Ab X.K X.mg σ H1 τ ρ1 G1∧bS X.K H H1 ρ ρ1∧Rep X.K X.mg ρ1 H1 d v∧m τ G=.ok d G1:=by
  refine ⟨τ,ρ,G,ab,?_⟩
  cases e:m τ G with
  | stuck=>rw [e] at ok;exact ok
  | bC c G'=>rw [e] at ok;exact ok
  | ok d G'=>exact λv H' ρ' f bu r=>⟨ρ',G',d,bu,f,r,rfl⟩
 refine dh (ha pins s σ H _ I hA) λu s1 oO=>?_
 obtain ⟨v,H1,I1,ru,ρ1,G1,d,fM,f1,rd,em⟩:=oO
 rw [em] at ok
 dsimp only at ok
 have fin:∀ (p:Addr) (o:Obj) (H2:Hp) (kvs:List (Key×D)) (xs:List V) (G2:DH),kvs.length=xs.length→Inv X pins σ H2 s1→H2 p=some (.cy o (.dK ((kvs.map (·.1)).zip xs)))→bS X.K H1 H2 ρ1 ρ1→eO X.K X.mg H2 ρ1 G2→(∀ J H' ρ',bS X.K H H' ρ ρ'→Ab X.K X.mg σ H' τ ρ' G2→JV X.K X.mg J (uX kvs) H' ρ'→R J H') →
   Y0 (model X.prog X.w) X.A (pyIter (.ref p)) (QM X pins σ tg R) X.xe s1:=by
  intro p o H2 kvs xs G2 hl I2 e2 f2 hb2 ok
  obtain ⟨h1,h0,h2,es,PJ,h3,h4,h5⟩:=uW I2 e2
  refine tB h0 h1 h2 h3 ?_
  have I3:Inv X pins σ H2 {s1 with heap:=s1.heap.push {cls:=.type "dict_keyiterator",data:=.fields #[.ref p,.int 0 0,.int es.size 0,.int PJ 0]}}:=I2.kept (t':=s1.toks) λc o q=>YA _ q
  refine ⟨s1.heap.objs.size,_,_,_,H2,rfl,I3,zh o _ p _ PJ es h3,⟨_,YM _ rfl,rfl,rfl⟩,λc hc=>?_,ok _ H2 ρ1 (f1.trans f2) ⟨fM.st.mono f2,hb2⟩ (EF hl e2)⟩
  rw [Y7.mp hc]
  exact I2.ou (YE _) (I2.hok.fresh (YE _))
 cases d with
 | obj n=>
  dsimp only at ok
  cases g:G1[n]? with
  | none=>rw [g] at ok;exact ok.elim
  | some ob=>
   unfold Rep at rd
   obtain ⟨p,rfl,ep⟩:=rd
   cases ru
   cases ob with
   | dct kvs=>
    rw [g] at ok
    obtain ⟨p',xs,oq,eH,rs⟩:=fM.hp.dct g
    rw [ep] at oq;cases oq
    obtain ⟨_,_,vs,_,o,_,_,hg,_⟩:=C0 I1.hok eH
    obtain ⟨f2,hb⟩:=fM.hp.SY (o:=o) ep eH rs
    exact fin p o _ kvs xs _ (by simpa using rs.length) (ED I1 eH hg) aM f2 hb ok
   | C8 kvs=>
    rw [g] at ok
    obtain ⟨p',oq,xs,⟨o,eH⟩,rs⟩:=fM.hp.ob n _ g
    rw [ep] at oq;cases oq
    exact fin p o H1 kvs xs G1 (by simpa using rs.length) I1 eH bS.refl fM.hp ok
   | _=>rw [g] at ok;exact ok.elim
 | _=>exact ok.elim
end
theorem IJ {M:Model} {u:V3} {Q:Env→YB→Prop} (hk:scope.kind=.function) (hy:scope.names.lookup y=some .local)
  (h:∀ env,env=newEnv scope s.heap.objs.size gl (cellsFrom (s.heap.objs.size+1) scope.names []) qual func code none bi→∀ s',InCallC s env.locals (bindL env.kindOf [(y,u)] λ_=>none) env.cells (bindC env.kindOf [(y,u)] λ_=>none) s'→0<s'.toks→Q env s') :
  Y0 M A (newFunctionEnv scope gl [] [(y,u)] qual func code none bi) Q E s:=by
 have e:newFunctionEnv scope gl [] [(y,u)] qual func code none bi=(newFunctionEnv scope gl [] [] qual func code none bi >>= λenv=>storeName env y u >>= λ_=>pure env):=by
  simp [newFunctionEnv]
 rw [e]
 refine Yu (aaT hk (by simp) λenv he s1 x=>?_)
 have S0:env.kindOf y=some .local:=by subst he;exact hy
 have hks:env.scope.kind=.function:=by subst he;exact hk
 have hlo:env.locals=s.heap.objs.size:=by subst he;rfl
 refine Yu (abo S0 x.toInCall.ns (λh' hns sb=>YN (h env he _ ⟨⟨?_,?_,λb o eb=>?_,x.toInCall.fresh⟩,λn c ec=>?_,x.apart,x.above⟩ (Zp _))) (by rw [hks];rfl))
 ·obtain ⟨h1,tk,e1⟩:=x.toInCall.same
  rw [e1];exact ⟨h',tk+1,rfl⟩
 ·have q:(λz=>if z=y then some u else bindL env.kindOf [] (λ_=>none) z)=bindL env.kindOf [(y,u)] λ_=>none:=by
   funext z
   simp [bindL,S0]
  rw [← q];exact hns
 ·refine (sb.2 b ?_).trans (x.toInCall.keep b o eb)
  rw [hlo];exact YU (YI eb)
 ·have q:=x.cell n c ec
  have ne:c≠env.locals:=abQ (x.above n c (mem_of_lookup ec))
  have qc:bindC env.kindOf [(y,u)] (λ_=>none) n=bindC env.kindOf [] (λ_=>none) n:=by simp [bindC,S0]
  rw [qc]
  obtain ⟨o,e1,e2⟩:=q
  exact ⟨o,(sb.2 c ne).trans e1,e2⟩
section
variable {P:Zg} {w:Zs} {K:Yz} {mg:Str→Option V3} {base:Heap} {f:Addr} {fd:FuncData}
theorem P5 {st:Stmt} {k:Nat} {m:List D→M D} (F:CZ K x qual st f fd) (S:ir N [y] (aF st)) (hy:(aF st).names.lookup y=some .local) (hN:N.length=nn) (hm:∀ ds G,m ds G=i7 (cI nn ms ds G))
  (hbody:∀ (X:Cx) (EE:bW) (cdv:V3) (A:Around) (outer:List Env) (s:YB) (H:Hp) (E:XK),X=lT (nU P w) P w K mg base N qual (aF st) f cdv A outer s H E→di k (A.deeper (aae qual (aF st) s.heap.objs.size f cdv)) →
   fE X EE→PassesOwn (model P w) X.A X.env X.xe→rY X EE (cQ st) ms) :
  kT P w K mg base (nU P w) (k+1) f fd [y] (gB K mg 1 m):=by
 subst hN
 obtain ⟨oc,od,kV,doc,pm,an,cdv,ct,osl,rfl,lk,hcd⟩:=F.ex
 refine ⟨λvs H Q E h=>h.len,λA outer s H args us vs Q E hr e0 hb r zW=>?_⟩
 have hl:=zW.len
 obtain ⟨ds,ρ,G,hn,hp,rs,ok⟩:=zW
 have KX:K.In s.heap:=e0.mod.Gj.keeps λb o e=>(e0.bs b o e).1
 have lim:s.heap.NoLimit:=e0.mod.nolimit.keeps λb o e=>(e0.bs b o e).1
 have MU:us.length=1:=by rw [← r.length];exact hl
 obtain ⟨u,rfl⟩:=List.length_eq_one_iff.mp MU
 refine codeAny_call_function hr.depth (KX _ _ lk) rfl S.co S.gen rfl (abY KX hcd) (hb _ _ _ _ ?_)
 refine IJ S.kind hy λenv he s1 x htk=>?_
 subst he
 refine ⟨lim.keeps x.toInCall.keep,codeAny_func ?_⟩
 have hB:=hbody _ (λ_ _ _=>False) cdv A outer s H E rfl (hr.deeper _) (λ_ _ _ _ _ _ _ _ _ _ z=>z.elim) abk
 have I:Inv (lT (nU P w) P w K mg base N qual (aF st) f cdv A outer s H E) [] (L2.start N vs) H s1:=mU S hr.hd e0 hl r x (n:=s1.toks) htk
 have hq:gi K mg (λ_ _ _=>False) ms {nx:=λ_ H'=>Q .dP H',rt:=Q} (L2.start N vs) H:=by
  refine ⟨ds.map some++YV (N.length - ds.length) none,ρ,G,⟨jq rs,hp⟩,?_⟩
  rw [hm] at ok
  dsimp only [cI] at ok
  cases q:ms (ds.map some++YV (N.length - ds.length) none) G with
  | stuck=>rw [q] at ok;exact ok
  | nx τ G'=>rw [q] at ok;exact λσ' H' ρ' f ab=>ok .dP H' ρ' f ab.hp (by unfold Rep;rfl)
  | rt d G'=>rw [q] at ok;exact λv H' ρ' f hp r=>ok v H' ρ' f hp r
  | bk τ G'=>rw [q] at ok;exact ok.elim
  | ct τ G'=>rw [q] at ok;exact ok.elim
  | xn c τ G'=>rw [q] at ok;exact ok.elim
 refine Zn (hB [] s1 (L2.start N vs) H _ I hq) (λfl s' hs=>?_) λe s' hs=>hs
 have fin:∀ {σ':St} {H':Hp} {v:V} {u:V3},Inv (lT (nU P w) P w K mg base N qual (aF st) f cdv A outer s H E) [] σ' H' s'→RelV v u→Q v H'→CE outer P w H s Q u s':=
  λ{σ' H' v u} J rv q=>⟨v,H',J.os,J.bare,J.base,J.hok,rv,q⟩
 cases fl with
 | ret u=>
  obtain ⟨v,σ',H',J,rv,q⟩:=hs
  exact fin J rv q
 | next=>
  obtain ⟨σ',H',J,q⟩:=hs
  exact fin (v:=V.dP) (u:=Value.none) J rfl q
 | brk=>
  obtain ⟨_,_,_,q⟩:=hs
  exact ZA q
 | cont=>
  obtain ⟨_,_,_,q⟩:=hs
  exact ZA q
end
structure CG where
 P:Zg
 w:Zs
 K:Yz
 mg:Str→Option V3
 base:Heap
noncomputable def iD (g:CG) (x:Str) (k n:Nat) (m:List D→M D):Prop:=∃ f fd ps,kP g.P g.w g.K g.mg g.base (nU g.P g.w) k f fd ps (gB g.K g.mg n m)∧g.mg x=some (.ref f)∧Zu g.K (.ref f)=true∧Binds g.K fd ps []
noncomputable def IK (g:CG) (y:Str) (k n:Nat) (m:List D→M D):Prop:=∃ c,nR g.K g.mg y=some c∧An g.P g.w g.K g.mg g.base (nU g.P g.w) k c n m
noncomputable def P6 (g:CG) (x:Str):Prop:=∃ f,g.mg x=some (.ref f)
noncomputable def Ke (x:Str):Bool:=!(x=="__debug__")&&!(x=="__classdict__")
noncomputable def rT (sc:Scope) (x:Str) (k:NameKind):Bool:=decide (sc.names.lookup x=some k)
noncomputable def zj (sc:Scope) (N:List Str):List (Option Str):=N.map λx=>if (rT sc x .local||rT sc x .cell||rT sc x .free)=true then some x else none
noncomputable def BS (c:Bool) (sc:Scope) (N:List Str):List (Option Str):=N.map λx=>if (rT sc x .local||(c&&rT sc x .cell))=true then some x else none
noncomputable def EG (scope:Scope) (xs N:List Str):List (Option Str):=xs.map some++N.map λx=>if rT scope x .free=true then some x else none
structure Cf (X:Cx) (EE:bW) (g:CG) (k:Nat) (B:List Str) (sc:Scope) (V W:List (Option Str)):Prop where
 eq:X.prog=g.P∧X.w=g.w∧X.K=g.K∧X.mg=g.mg∧X.base=g.base
 vis:∀ (i:Nat) (x:Str),V[i]?=some (some x)→X.N[i]?=some x∧CJ X.env.scope x
 gl:∀ x,rT sc x .globalImplicit=true→Gl X x
 st:∀ (i:Nat) (x:Str),W[i]?=some (some x)→X.N[i]?=some x∧Loc X.env.scope x∧(X.fn x=true∨X.env.scope.names.lookup x=some .local)
 bl:∀ b,B.contains b=true→X.mg b=none
 hx:fE X EE
 hr:di k X.A
 hc:X.calm=true
structure Cs (X:Cx) (sc:Scope) (N:List Str):Prop where
 nd:X.N.Nodup
 hf:j3 X
 po:PassesOwn (model X.prog X.w) X.A X.env X.xe
 hs:X.env.scope=sc
 hN:X.N=N
 bk:(X.env.blockKind==.function)=true
theorem dN {a:Bool} (h:(a&&b)=true):a=true∧b=true:=by simpa using h
theorem bN {a b:Prop} (h:a) (k:a→b):b:=k h
theorem Aw (h:Ke x=true):DN x:=by
 obtain ⟨h1,h2⟩:=dN h
 exact ⟨by simpa using h1,by simpa using h2⟩
theorem map_some {α:Type} {f:α→Bool} {l:List α} {x:α} (h:(l.map λx=>if f x=true then some x else none)[i]?=some (some x)):l[i]?=some x∧f x=true:=by
 rw [YK] at h
 cases e:l[i]? with
 | none=>rw [e] at h;cases h
 | some y=>
  rw [e] at h
  dsimp only [Option.map] at h
  by_cases q:f y=true
  ·rw [if_pos q] at h;cases h;exact ⟨rfl,q⟩
  ·rw [if_neg q] at h;cases h
theorem jP {k:NameKind} (h:rT sc x k=true):sc.names.lookup x=some k:=of_decide_eq_true h
section
variable {X:Cx} {EE:bW} {g:CG} {k k' n i j:Nat} {B N xs:List Str} {sc scope:Scope} {V W:List (Option Str)} {x y:Str} {pos p px py:Pos} {e a b elt tg iter:Expr} {es ifs:List Expr} {m:DS→M (List D)} {ma te:DS→M D} {mf:List D→M D} {ks:List Bool} {gO:D→Option (List D)} {tt:DS→M Bool} {mi:MI}
theorem Cf.hu (c:Cf X EE g k B sc V W):X.A.units+600<cLine:=HE c.hr
theorem Cf.S3 (c:Cf X EE g k B sc V W) (h:(decide (V[i]?=some (some x))&&Ke x)=true):(X.N[i]?=some x∧CJ X.env.scope x)∧DN x:=⟨c.vis i x (of_decide_eq_true (dN h).1),Aw (dN h).2⟩
theorem IL (c:Cf X EE g k B sc V W) (h:(decide (V[i]?=some (some x))&&Ke x)=true):QE X EE (.Name x pos) (af i):=by
 obtain ⟨⟨h1,h2⟩,h3⟩:=c.S3 h
 exact Ms i h2 h3 h1
theorem iD.at (c:Cf X EE g k B sc V W) (C:iD g x k' n mf) (h:k'≤k):∃ f fd ps,kP X.prog X.w X.K X.mg X.base (nU X.prog X.w) k' f fd ps (gB X.K X.mg n mf)∧di k' X.A∧X.mg x=some (.ref f)∧Zu X.K (.ref f)=true∧Binds X.K fd ps []:=by
 obtain ⟨f,fd,ps,h1,h2,h3,h4⟩:=C
 have r:=c.hr.mono h
 obtain ⟨e1,e2,e3,e4,e5⟩:=c.eq
 rw [e1,e2,e3,e4,e5]
 exact ⟨f,fd,ps,h1,r,h2,h3,h4⟩
theorem xw (c:Cf X EE g k B sc V W) (C:iD g x k' n mf) (h:(decide (k'≤k)&&(rT sc x .globalImplicit&&(Ke x&&az (e::es))))=true) (ha:QA X EE (e::es) m):QE X EE (.Call (.Name x p) (e::es) [] pos) (aq n mf m):=by
 obtain ⟨h1,h⟩:=dN h
 obtain ⟨h2,h⟩:=dN h
 obtain ⟨h3,h4⟩:=dN h
 obtain ⟨f,fd,ps,q1,q2,q3,q4,q5⟩:=C.at c (of_decide_eq_true h1)
 exact HM q1 q2 q3 q4 q5 (Hy c.hx) (c.gl x h2) (Aw h3) ha h4
theorem M7 (c:Cf X EE g k B sc V W) (C:P6 g x) (h:(rT sc x .globalImplicit&&Ke x)=true):QE X EE (.Name x pos) (eC (.fn x)):=by
 obtain ⟨h2,h3⟩:=dN h
 obtain ⟨f,hf⟩:=C
 exact Ph (f:=f) (by rw [c.eq.2.2.2.1];exact hf) (c.gl x h2) (Aw h3)
noncomputable def BU (g:CG) (k n:Nat):List (Str×(List D→M D))→Prop
 | []=>True
 | q::r=>(∃ k',iD g q.1 k' n q.2∧k'≤k)∧BU g k n r
theorem BU.at (c:Cf X EE g k B sc V W):∀ {l:List (Str×(List D→M D))},BU g k n l→MB (nU X.prog X.w) X n l
 | [],h=>trivial
 | q::r,⟨⟨k',h1,h2⟩,hr⟩=>by
  obtain ⟨f,fd,ps,q1,q2,q3,q4,q5⟩:=h1.at c h2
  exact ⟨⟨k',f,fd,ps,q1,q2,q3,q4,q5⟩,BU.at c hr⟩
theorem BV {l:List (Str×(List D→M D))} (c:Cf X EE g k B sc V W) (C:BU g k n l) (h:((decide (V[i]?=some (some x))&&Ke x)&&az (e::es))=true) (ha:QA X EE (e::es) m):QE X EE (.Call (.Name x p) (e::es) [] pos) (ju i n (λy=>Zy y l) m):=by
 obtain ⟨h1,h⟩:=dN h
 obtain ⟨⟨q1,q2⟩,q3⟩:=c.S3 h1
 exact DU q1 q2 q3 (Pj (C.at c)) (Hy c.hx) ha h
theorem BW (c:Cf X EE g k B sc V W) (C:IK g y k' n mf) (h:((decide (V[i]?=some (some x))&&Ke x)&&(decide (k'≤k)&&az (e::es)))=true) (ha:QA X EE (e::es) m):QE X EE (.Call (.Name x p) (e::es) [] pos) (lD i n (λw=>Zy w [(y,(z,mf))]) m):=by
 obtain ⟨h1,h⟩:=dN h
 obtain ⟨h2,h⟩:=dN h
 obtain ⟨⟨q1,q2⟩,q3⟩:=c.S3 h1
 have r:=c.hr.mono (of_decide_eq_true h2)
 refine Es (CX:=nU X.prog X.w) q1 q2 q3 (SX ?_) (Hy c.hx) ha h
 obtain ⟨Ao,z1,z2⟩:=C
 obtain ⟨e1,e2,e3,e4,e5⟩:=c.eq
 rw [e1,e2,e3,e4,e5]
 exact ⟨k',Ao,z1,z2,r⟩
theorem Cf.P7 (c:Cf X EE g k B sc V W) (h:decide (W[i]?=some (some x))=true):X.N[i]?=some x∧Loc X.env.scope x∧(X.fn x=true∨X.env.scope.names.lookup x=some .local):=c.st i x (of_decide_eq_true h)
theorem IM (c:Cf X EE g k B sc V W) (s:Cs X scope N) (h:(decide (W[i]?=some (some x))&&mZ a)=true) (he:QE X EE a ma):QS X EE (.Assign [.Name x px] a pos) (aJ i ma):=by
 obtain ⟨h1,h2⟩:=dN h
 obtain ⟨q1,q2,q3⟩:=c.P7 h1
 exact My s.nd q2 he q3 q1 h2
theorem EH (c:Cf X EE g k B sc V W) (s:Cs X scope N) (h:decide (W[i]?=some (some x))=true):QG X (.Name x pos) (gN i):=by
 obtain ⟨q1,q2,q3⟩:=c.P7 h
 exact HP s.nd q2 q3 q1
theorem EI {q:Nat} (c:Cf X EE g k B sc V W) (s:Cs X scope N) (h:(decide (W[i]?=some (some x))&&decide (W[j]?=some (some y)))=true):QG X (.Tuple [.Name x px,.Name y py] q pos) (gP i j):=by
 obtain ⟨h1,h2⟩:=dN h
 obtain ⟨q1,q2,q3⟩:=c.P7 h1
 obtain ⟨r1,r2,r3⟩:=c.P7 h2
 exact HW c.hc s.nd q2 r2 q3 r3 q1 r1
noncomputable def qJ:MS:=λ_ _=>.stuck
theorem EJ {b:List Stmt}:rY X EE b qJ:=λ_ _ _ _ _ _ zz=>by obtain ⟨_,_,_,_,h⟩:=zz;exact h.elim
noncomputable def IP (tg:Expr) (xs:List Str) (gO:D→Option (List D)):Prop:=(∃ x p,tg=.Name x p∧xs=[x]∧gO=oN)∨∃ x y p q k r,tg=.Tuple [.Name x p,.Name y q] k r∧xs=[x,y]∧gO=oT 2
theorem NW {q:Pos}:IP (.Name x q) [x] oN:=.inl ⟨_,_,rfl,rfl,rfl⟩
theorem NX {q r:Pos} {k:Nat}:IP (.Tuple [.Name x p,.Name y q] k r) [x,y] (oT 2):=.inr ⟨_,_,_,_,_,_,rfl,rfl,rfl⟩
theorem nk (c:X.calm=true) (h:IP tg xs gO) (S:bf X.env.scope X.N scope xs ks):∃ ow,Own X scope xs ks tg ow∧g9 X.K X.mg ow gO:=by
 rcases h with ⟨x,p,rfl,rfl,rfl⟩ | ⟨x,y,p,q,k,r,rfl,rfl,rfl⟩
 ·exact ⟨_,DG S,Bq⟩
 ·exact ⟨_,DI c S,DK⟩
instance {a:Scope} {N:List Str} {b:Scope} {xs:List Str} {ks:List Bool}:Decidable (bf a N b xs ks):=
 decidable_of_iff (xs.Nodup∧b.kind=.function∧(∀ y∈b.names,y.2≠.cell)∧(∀ y∈b.names,y.2=.local→b.names.lookup y.1=some .local)∧(∀ x∈xs,b.names.lookup x=some .local)∧(∀ y∈b.names,y.2=.free→a.names.lookup y.1=some .cell∨a.names.lookup y.1=some .free)∧((ks.zip N).all λp=>!p.1||decide (b.names.lookup p.2=some .free))=true)
  ⟨λzz=>by obtain ⟨a,b,c,d,e,f,g⟩:=zz;exact ⟨a,b,c,d,e,f,g⟩,λzz=>by obtain ⟨a,b,c,d,e,f,g⟩:=zz;exact ⟨a,b,c,d,e,f,g⟩⟩
theorem o5 {Rc:bW} (c:Cf X EE g k B sc V W) (s:Cs X sc N) (S:bf X.env.scope X.N scope xs ks) (hx:fE (lY X scope cl xs C pins s0 H0 fp E) Rc) :
  Cf (lY X scope cl xs C pins s0 H0 fp E) Rc g k B scope (EG scope xs N) []:=by
 refine ⟨c.eq,λi x h=>?_,λx h=>HU (jP h),λi x h=>by simp at h,c.bl,hx,c.hr,c.hc⟩
 unfold EG at h
 by_cases q:i<xs.length
 ·rw [YQ (by simpa using q),YK] at h
  cases e:xs[i]? with
  | none=>rw [e] at h;cases h
  | some z=>
   rw [e] at h;cases h
   exact ⟨by show (xs++X.N)[i]?=some x;rw [YQ q,e],MA S (Zi e)⟩
 ·rw [Y5 (by simpa using q),YL] at h
  obtain ⟨h1,h2⟩:=map_some h
  exact ⟨by show (xs++X.N)[i]?=some x;rw [Y5 (by nofun),s.hN,h1],HS S (jP h2)⟩
noncomputable def IQ (g:CG) (k:Nat) (B:List Str) (scope:Scope) (xs N:List Str) (ifs:List Expr) (elt:Expr) (tt:DS→M Bool) (te:DS→M D):Prop:=
 ∀ (X:Cx) (EE:bW),Cf X EE g k B scope (EG scope xs N) []→(match ifs with
  | []=>tt=bV
  | [c]=>QT X EE c tt
  | _=>False)∧QE X EE elt te
theorem S4 (h:∀ (X:Cx) (EE:bW),Cf X EE g k B scope (EG scope xs N) []→QE X EE elt te):IQ g k B scope xs N [] elt bV te:=λX EE c=>⟨rfl,h X EE c⟩
theorem S5 (h:∀ (X:Cx) (EE:bW),Cf X EE g k B scope (EG scope xs N) []→QT X EE a tt∧QE X EE elt te):IQ g k B scope xs N [a] elt tt te:=h
theorem i9 (c:Cf X EE g k B sc V W) (s:Cs X sc N) (S:bf X.env.scope X.N scope xs ks) (h:IQ g k B scope xs N ifs elt tt te):iV X scope xs ifs elt tt te:=by
 match ifs,h with
 | [],h=>
  have e:tt=bV:=(h _ _ (o5 (cl:=[]) (C:=0) (pins:=[]) (s0:=X.s₀) (H0:=X.H₀) (fp:=[]) (E:=λ_ _=>True) (Rc:=EE) c s S (λ_ _ _ _ _ _ _ _ _ _ _=>trivial))).1
  subst e
  exact Bs λcl C pins s0 H0 fp E1 Ws hx=>(h _ _ (o5 c s S hx)).2
 | [_],h=>exact Bt λcl C pins s0 H0 fp E1 Ws hx=>h _ _ (o5 c s S hx)
 | _::_::_,h=>exact ((h _ _ (o5 (cl:=[]) (C:=0) (pins:=[]) (s0:=X.s₀) (H0:=X.H₀) (fp:=[]) (E:=λ_ _=>True) (Rc:=EE) c s S (λ_ _ _ _ _ _ _ _ _ _ _=>trivial))).1).elim
theorem Cs.S (s:Cs X sc N) (h:bf sc N scope xs ks):bf X.env.scope X.N scope xs ks:=by rw [s.hs,s.hN];exact h
theorem xx (c:Cf X EE g k B sc V W) (s:Cs X sc N) (t:IP tg xs gO) (S:bf sc N scope xs ks) (h:fY iter=true) (ha:QE X EE iter ma) (hb:IQ g k B scope xs N ifs elt tt te):QE X EE (.ListComp elt [⟨tg,iter,ifs,0⟩] scope pos) (cj gO ks ma tt te):=by
 obtain ⟨_,o1,o2⟩:=nk c.hc t (s.S S)
 exact HQ c.hx s.hf (s.S S) o1 o2 c.hc ha (i9 c s (s.S S) hb) h
theorem tK (c:Cf X EE g k B sc V W) (s:Cs X sc N) (t:IP tg xs gO) (S:bf sc N scope xs ks) (h:fY iter=true) (ha:QI X EE tg iter mi) (hb:IQ g k B scope xs N ifs elt tt te):QE X EE (.ListComp elt [⟨tg,iter,ifs,0⟩] scope pos) (dY gO ks mi tt te):=by
 obtain ⟨_,o1,o2⟩:=nk c.hc t (s.S S)
 exact D0 c.hx s.hf (s.S S) o1 o2 c.hc ha (i9 c s (s.S S) hb) h
theorem qK (c:Cf X EE g k B sc V W) (s:Cs X sc N) (t:IP tg xs gO) (S:bf sc N scope xs ks) (h:(B.contains "range"&&(rT sc "range" .globalImplicit&&br a))=true) (ha:QA X EE [a] m) (hb:IQ g k B scope xs N ifs elt tt te):QE X EE (.ListComp elt [⟨tg,.Call (.Name "range" p) [a] [] px,ifs,0⟩] scope pos) (cF eT gO ks m tt te):=by
 obtain ⟨_,o1,o2⟩:=nk c.hc t (s.S S)
 exact By c.hx s.hf (s.S S) o1 o2 c.hc (c.bl _ (dN h).1) (c.gl _ (dN (dN h).2).1) ha (i9 c s (s.S S) hb) (dN (dN h).2).2
theorem qL (c:Cf X EE g k B sc V W) (s:Cs X sc N) (t:IP tg xs gO) (S:bf sc N scope xs ks) (h:((B.contains "range"&&rT sc "range" .globalImplicit)&&(br a&&br b))=true) (ha:QA X EE [a,b] m) (hb:IQ g k B scope xs N ifs elt tt te):QE X EE (.ListComp elt [⟨tg,.Call (.Name "range" p) [a,b] [] px,ifs,0⟩] scope pos) (cF iU gO ks m tt te):=by
 obtain ⟨_,o1,o2⟩:=nk c.hc t (s.S S)
 exact BA c.hx s.hf (s.S S) o1 o2 c.hc (c.bl _ (dN (dN h).1).1) (c.gl _ (dN (dN h).1).2) ha (i9 c s (s.S S) hb) (dN (dN h).2).1 (dN (dN h).2).2
noncomputable def S6 (W:List (Option Str)) (sc scope:Scope) (i:Nat) (y:Str) (py pos:Pos):Bool:=(decide (W[i]?=some (some y))&&rT sc y .local)&&((py.line==pos.line)&&!(scope.names.any λx=>x.1==y&&(x.2==.local||x.2==.cell)))
theorem Cf.sw {l:Nat} (c:Cf X EE g k B sc V W) (s:Cs X sc N) (h:S6 W sc scope i y py pos=true):X.env.scope.names.lookup y=some .local∧swapsWith (.ListComp elt gens scope pos) (some (.Name y py)) l X.env=pure true∧X.N[i]?=some y:=by
 obtain ⟨h1,h2⟩:=dN h
 have hl:X.env.scope.names.lookup y=some .local:=by rw [s.hs];exact jP (dN h1).2
 exact ⟨hl,BB s.bk hl (dN h2).1 (by simpa using (dN h2).2),(c.P7 (dN h1).1).1⟩
theorem xy (c:Cf X EE g k B sc V W) (s:Cs X sc N) (t:IP tg xs gO) (S:bf sc N scope xs ks) (h:(S6 W sc scope i y py pos&&fY iter)=true) (ha:QE X EE iter ma) (hb:IQ g k B scope xs N ifs elt tt te):QS X EE (.Assign [.Name y py] (.ListComp elt [⟨tg,iter,ifs,0⟩] scope pos) spos) (aJ i (cj gO ks ma tt te)):=by
 obtain ⟨_,o1,o2⟩:=nk c.hc t (s.S S)
 obtain ⟨w1,w2,w3⟩:=c.sw s (dN h).1
 exact HR c.hx s.hf (s.S S) o1 o2 c.hc s.nd w1 ha (i9 c s (s.S S) hb) w2 w3 (dN h).2
theorem tL (c:Cf X EE g k B sc V W) (s:Cs X sc N) (t:IP tg xs gO) (S:bf sc N scope xs ks) (h:(S6 W sc scope i y py pos&&fY iter)=true) (ha:QI X EE tg iter mi) (hb:IQ g k B scope xs N ifs elt tt te):QS X EE (.Assign [.Name y py] (.ListComp elt [⟨tg,iter,ifs,0⟩] scope pos) spos) (aJ i (dY gO ks mi tt te)):=by
 obtain ⟨_,o1,o2⟩:=nk c.hc t (s.S S)
 obtain ⟨w1,w2,w3⟩:=c.sw s (dN h).1
 exact D3 c.hx s.hf (s.S S) o1 o2 c.hc s.nd w1 ha (i9 c s (s.S S) hb) w2 w3 (dN h).2
end
theorem EK {p:List V3→Prop} (h:∀ a0,p [a0]):∀ us:List V3,us.length=1→p us:=λus e=>by
 rcases us with _ | ⟨a0,_ | ⟨z,zs⟩⟩<;>first | exact h a0 | (cases e;done)
theorem EL {p:List V3→Prop} (h:∀ a0 a1,p [a0,a1]):∀ us:List V3,us.length=2→p us:=λus e=>by
 rcases us with _ | ⟨a0,_ | ⟨a1,_ | ⟨z,zs⟩⟩⟩<;>first | exact h a0 a1 | (cases e;done)
theorem EM {p:List V3→Prop} (h:∀ a0 a1 a2,p [a0,a1,a2]):∀ us:List V3,us.length=3→p us:=λus e=>by
 rcases us with _ | ⟨a0,_ | ⟨a1,_ | ⟨a2,_ | ⟨z,zs⟩⟩⟩⟩<;>first | exact h a0 a1 a2 | (cases e;done)
theorem IS {p:List V3→Prop} (h:∀ a0 a1 a2 a3,p [a0,a1,a2,a3]):∀ us:List V3,us.length=4→p us:=λus e=>by
 rcases us with _ | ⟨a0,_ | ⟨a1,_ | ⟨a2,_ | ⟨a3,_ | ⟨z,zs⟩⟩⟩⟩⟩<;>first | exact h a0 a1 a2 a3 | (cases e;done)
noncomputable abbrev EN:=Str×Nat×List Str×Stmt
noncomputable def xA (K:Yz) (mg:Str→Option V3) (x:Str) (n:Nat) (N:List Str) (st:Stmt):Prop:=∃ f fd,CZ K x x st f fd∧mg x=some (.ref f)
noncomputable def mE (K:Yz) (mg:Str→Option V3):List EN→Prop
 | []=>True
 | (x,n,N,st)::r=>xA K mg x n N st∧mE K mg r
section
variable {K:Yz} {mg:Str→Option V3} {h:Heap} {x:Str} {n:Nat} {N:List Str} {st:Stmt}
theorem mE.at:∀ {l:List EN} (T:mE K mg l) (i:Nat) {x:Str} {n:Nat} {N:List Str} {st:Stmt},l[i]?=some (x,n,N,st)→xA K mg x n N st
 | d::l,T,0,_,_,_,_,h=>by cases h;exact T.1
 | d::l,T,i+1,_,_,_,_,h=>mE.at T.2 i (by simpa using h)
theorem mE.cons {l:List EN} (X:K.In h) (G:h.Ns mainGlobals mg) {f:Addr} {od an:Option Addr} {sl:Array (Option V3)} {oc kV dc pm cd ct:V3} (a:aaz K mainGlobals x=some (some (.ref f)))
  (l0:K.lookup f=some ⟨oc,od,.func (aaw x x (jl st) (cQ st) (aF st) .none kV dc pm an cd ct),sl⟩) (c:abg K cd x=true) (k:Zu K (.ref f)=true) (r:mE K mg l):mE K mg ((x,n,N,st)::l):=⟨⟨f,_,Lz l0 c k,PySem.W.mg_of X G a⟩,r⟩
noncomputable def ja (mg:Str→Option V3):List Str→Prop
 | []=>True
 | x::r=>mg x=none∧ja mg r
theorem ja.cons {l:List Str} (X:K.In h) (G:h.Ns mainGlobals mg) (a:aaz K mainGlobals x=some none) (r:ja mg l):ja mg (x::l):=⟨PySem.W.mg_none_of X G a,r⟩
theorem ja.at:∀ {l:List Str},ja mg l→∀ b,l.contains b=true→mg b=none
 | x::l,T,b,h=>by
  rw [List.contains_cons] at h
  cases e:b==x with
  | true=>rw [eq_of_beq e];exact T.1
  | false=>rw [e] at h;exact ja.at T.2 b (by simpa using h)
end
section
variable {g:CG} {k n nn:Nat} {x:Str} {N B ps:List Str} {st:Stmt} {ms:MS} {me:DS→M D} {m:List D→M D} {c:gA}
noncomputable def zk (st:Stmt) (x:Str) (ps:List Str):Prop:=∀ (kV doc pm:V3) (an:Option Addr) (cdv ct:V3) (us:List V3),us.length=ps.length→bindArgs (aaw x x (jl st) (cQ st) (aF st) .none kV doc pm an cdv ct) ⟨us,[]⟩=pure (ps.zip us)
theorem EO (h:(zj sc N)[i]?=some (some x)):N[i]?=some x∧CJ sc x:=by
 obtain ⟨h1,h2⟩:=map_some (f:=λx=>rT sc x .local||rT sc x .cell||rT sc x .free) h
 refine ⟨h1,?_⟩
 simp only [abK] at h2
 rcases h2 with (h2 | h2) | h2
 ·exact .inl (jP h2)
 ·exact .inr (.inl (jP h2))
 ·exact .inr (.inr (jP h2))
theorem zl {f:Addr} {E:XK} (hB:ja mg B)
  (hr:di k (A.deeper (aae x sc s.heap.objs.size f cdv))) (hx:fE (lT (nU P w) P w K mg base N x sc f cdv A outer s H E) EE):Cf (lT (nU P w) P w K mg base N x sc f cdv A outer s H E) EE ⟨P,w,K,mg,base⟩ k B sc (zj sc N) (BS true sc N):=by
 refine ⟨⟨rfl,rfl,rfl,rfl,rfl⟩,λi x h=>EO h,λx h=>jP h,λi x h=>?_,hB.at,hx,hr,rfl⟩
 obtain ⟨h1,h2⟩:=map_some (f:=λx=>rT sc x .local||(true&&rT sc x .cell)) h
 refine ⟨h1,?_,.inl rfl⟩
 simp only [abK,Bool.true_and] at h2
 exact h2.imp jP jP
theorem M8 {cs:List Addr} {E:XK} (hB:ja mg B)
  (hr:di k (A.deeper (xo c cs s.heap.objs.size a c'))) (hx:fE (NU (nU P w) P w K mg base N c cs a c' A outer s H E) EE):Cf (NU (nU P w) P w K mg base N c cs a c' A outer s H E) EE ⟨P,w,K,mg,base⟩ k B c.scope (zj c.scope N) (BS false c.scope N):=by
 refine ⟨⟨rfl,rfl,rfl,rfl,rfl⟩,λi x h=>EO h,λx h=>jP h,λi x h=>?_,hB.at,hx,hr,rfl⟩
 obtain ⟨h1,h2⟩:=map_some (f:=λx=>rT c.scope x .local||(false&&rT c.scope x .cell)) h
 have h3:rT c.scope x .local=true:=by simpa using h2
 exact ⟨h1,.inl (jP h3),.inr (jP h3)⟩
theorem Ax (h:sc.kind=.function):((if sc.kind.isAnnotationScope then ada else sc.kind)==ada)=true:=by rw [h];rfl
theorem o6 (Dd:xA g.K g.mg x n N st) (hB:ja g.mg B) (S:ir N (N.take n) (aF st)) (hps:(N.take n).length=n) (hN:N.length=nn) (hb:zk st x (N.take n))
  (body:∀ (X:Cx) (EE:bW),Cf X EE g k B (aF st) (zj (aF st) N) (BS true (aF st) N)→Cs X (aF st) N→rY X EE (cQ st) ms):iD g x (k+1) n (λds=>cI nn ms ds):=by
 obtain ⟨f,fd,F,hm⟩:=Dd
 refine ⟨f,fd,_,Ve (k:=k) (ms:=ms) F S hps hN (λ_=>rfl) ?_,hm,F.kp,F.binds hb⟩
 intro X EE cdv A outer s H E hX hr hx M9
 subst hX
 exact body _ EE (zl hB hr hx) ⟨S.nd,⟨_,outer,s.heap.objs.size,rfl,rfl,rfl⟩,M9,rfl,rfl,Ax S.kind⟩
theorem iD.pure (h:iD g x k n m):iD g x k n (ck m):=by
 obtain ⟨f,fd,ps,h1,h2⟩:=h
 exact ⟨f,fd,ps,h1.imp uK,h2⟩
theorem iD.fresh (h:iD g x k n m):iD g x k n (qk m):=by
 obtain ⟨f,fd,ps,h1,h2⟩:=h
 exact ⟨f,fd,ps,h1.imp D9,h2⟩
theorem xA.has (h:xA g.K g.mg x n N st):P6 g x:=by
 obtain ⟨f,_,_,h⟩:=h
 exact ⟨f,h⟩
theorem ER {f:Addr} (F:CZ g.K x x st f fd) (hB:ja g.mg B) (S:ir N [y] (aF st)) (hy:(aF st).names.lookup y=some .local) (hN:N.length=nn)
  (body:∀ (X:Cx) (EE:bW),Cf X EE g k B (aF st) (zj (aF st) N) (BS true (aF st) N)→Cs X (aF st) N→rY X EE (cQ st) ms):kT g.P g.w g.K g.mg g.base (nU g.P g.w) (k+1) f fd [y] (gB g.K g.mg 1 (ck λds G=>i7 (cI nn ms ds G))):=by
 refine kT.imp (P5 (k:=k) (ms:=ms) F S hy hN (λ_ _=>rfl) ?_) uK
 intro X EE c A outer s H E hX hr hx M9
 subst hX
 exact body _ EE (zl hB hr hx) ⟨S.nd,⟨_,outer,s.heap.objs.size,rfl,rfl,rfl⟩,M9,rfl,rfl,Ax S.kind⟩
theorem BX {f:Addr} (F:CZ K x x st f fd) (hb:zk st x [y]) (s:YB) (u:V3):BindsTo s fd ⟨[u],[]⟩ [(y,u)]:=by
 obtain ⟨oc,od,kV,doc,pm,an,cdv,ct,osl,rfl,lk,hcd⟩:=F.ex
 exact .of_eq (hb kV doc pm an cdv ct [u] rfl)
theorem IT {bd:Expr} (Dd:xA g.K g.mg x n' N' st) (hB:ja g.mg B) (hk:gQ x (cQ st)=some c) (S:qF N (N.take n) c.names c.scope) (hps:(N.take n).length=n) (hN:N.length=nn)
  (hb:∀ (doc pm ctv:V3) (c':Addr) (cs:List Addr) (us:List V3),us.length=(N.take n).length→bindArgs (wu c cs doc pm c' ctv) ⟨us,[]⟩=pure ((N.take n).zip us)) (hbd:c.body=.expr bd)
  (body:∀ (X:Cx) (EE:bW),Cf X EE g k B c.scope (zj c.scope N) (BS false c.scope N)→Cs X c.scope N→QE X EE bd me):IK g x (k+1) n (λds G=>i7 (BI nn me ds G)):=by
 obtain ⟨f,fd,F,hm⟩:=Dd
 refine ⟨c,ze F hm hk,Iw (k:=k) (me:=me) S hps hN (λ_ _=>rfl) (λa b c d e f _=>hb a b c d e f) hbd ?_⟩
 intro X EE cs a c' A outer s H E hX hr hx M9
 subst hX
 exact body _ EE (M8 hB hr hx) ⟨S.nd,⟨_,outer,s.heap.objs.size,rfl,rfl,rfl⟩,M9,rfl,rfl,Ax S.kind⟩
noncomputable def P8 (g:CG) (y:Str) (c P:Addr):Prop:=Z3 g.K y=some (c,P)∧aaK g.base c P∧g.base.BuiltinsAt g.mg P
theorem get_map {β:Type} {f:α→Option β} {l:List α} {r:List β} (h:l.map f=r.map some) {i:Nat} {a:α} (e:l[i]?=some a):∃ b,r[i]?=some b∧f a=some b:=by
 have q:(l.map f)[i]?=(r.map some)[i]?:=by rw [h]
 rw [YK,YK,e] at q
 cases z:r[i]? with
 | none=>rw [z] at q;cases q
 | some b=>rw [z] at q;exact ⟨b,rfl,by simpa using q⟩
structure Hl (X:Cx) (EE:bW) (k:gA) (y:Str) (js:List Nat):Prop where
 tx:∃ cs c P,Ar X k y js cs c P
 hx:fE (Cx.held X k.names) EE
 hq:X.env.qual=y++".<locals>."
theorem IU {cs:Addr→List Addr} {P:Addr} (Dd:xA g.K g.mg x n N st) (hB:ja g.mg B) (ht:P8 g x c0 P) (hk:gQ x (cQ st)=some c) (S:ir N (N.take n) (aF st)) (hps:(N.take n).length=n) (hN:N.length=nn) (hb:zk st x (N.take n))
  (hcl:∀ (L f:Addr) (v:V3),closureFor c.scope (aae x (aF st) L f v)=pure (c.names.zip (cs L))) (hnd:∀ L,(cs L).Nodup) (hcs:∀ L,(c.names.map λz=>(cellsFrom (L+1) (aF st).names []).lookup z)=(cs L).map some) (PU:(js.map λj=>N[j]?)=c.names.map some) (hcell:∀ z∈c.names,(aF st).names.lookup z=some .cell)
  (body:∀ (X:Cx) (EE:bW),Cf X EE g k B (aF st) (zj (aF st) N) (BS true (aF st) N)→Cs X (aF st) N→Hl X EE c x js→Et X EE (cQ st) ms):iD g x (k+1) n (ck λds G=>i7 (cI nn ms ds G)):=by
 obtain ⟨f,fd,F,hm⟩:=Dd
 obtain ⟨t1,t2,t3⟩:=ht
 refine ⟨f,fd,_,kP.imp (SS (k:=k) (ms:=ms) F S hps hN (λ_ _=>rfl) t1 hm ?_) uK,hm,F.kp,F.binds hb⟩
 intro X EE A outer s H E hX hr hx hxs M9
 subst hX
 have hl:∀ L,(cs L).length=c.names.length:=λL=>by have:=congrArg aag (hcs L);simpa using this.symm
 exact body _ EE (zl hB hr hx) ⟨S.nd,⟨_,outer,s.heap.objs.size,rfl,rfl,rfl⟩,M9,rfl,rfl,Ax S.kind⟩
  ⟨⟨cs s.heap.objs.size,c0,P,ze F hm hk,rfl,t1,t2,t3,hcl _ _ _,hl _,hnd _,λl z e=>get_map (hcs _) e,by simpa using congrArg aag PU,λl j z e1 e2=>by
   obtain ⟨b,q1,q2⟩:=get_map PU e1
   rw [e2] at q1;cases q1;exact q2,hcell,λ_=>rfl⟩,hxs _,rfl⟩
end
section
variable {X:Cx} {EE:bW} {g:CG} {k k' n i:Nat} {B N:List Str} {sc:Scope} {V W:List (Option Str)} {x y:Str} {pos p:Pos} {e bd:Expr} {es:List Expr} {m:DS→M (List D)} {mf:List D→M D} {c:gA} {js:List Nat}
theorem ES (h:Hl X EE c y js) (he:e=.Lambda c.params bd c.scope c.pos) (hbd:c.body=.expr bd) (hnm:c.name="<lambda>") (hdef:defaultsOf c.params X.env=([],[])) (hq:y++".<locals>."++"<lambda>"=c.qual):IA X c.names EE e (BN y js):=by
 obtain ⟨cs,c0,P,T⟩:=h.tx
 exact IB he hbd hnm T hdef (by rw [h.hq];exact hq)
theorem ET {m:DS→M D} (h:Hl X EE c y js) (he:IA X c.names EE e m):Et X EE [.Return (some e) pos] (cN m):=II he
theorem BY (f:Cf X EE g k B sc V W) (l:Hl X EE c y js) (C:iD g x k' n mf) (h:(decide (k'≤k)&&(rT sc x .globalImplicit&&(Ke x&&az (e::es))))=true) (ha:PY X c.names EE (e::es) m):IA X c.names EE (.Call (.Name x p) (e::es) [] pos) (aq n mf m):=by
 obtain ⟨h1,h⟩:=dN h
 obtain ⟨h2,h⟩:=dN h
 obtain ⟨h3,h4⟩:=dN h
 obtain ⟨_,fd,ps,q1,q2,q3,q4,q5⟩:=C.at f (of_decide_eq_true h1)
 exact Ez q1 q2 q3 q4 q5 (Hy l.hx) (f.gl x h2) (Aw h3) ha h4
end
noncomputable def Ay (o:Obj):Bool:=match o.cls,o.data with
 | .none,.fields _=>false
 | _,_=>true
noncomputable abbrev fK (K:Params→Yz) (P:Params):Yz:=(K P).filter λp=>Ay p.2
section
variable {K:Yz}
theorem jb {a:Addr} {o:Obj} (ht:Ay o=true):∀ {K:Yz},K.lookup a=some o→(K.filter λp=>Ay p.2).lookup a=some o
 | (b,u)::K,h=>by
  rw [Zj] at h
  by_cases e:a=b
  ·subst e
   rw [show (a==a)=true by simp] at h
   cases h
   rw [ZO (by exact ht),Zj,show (a==a)=true by simp]
  ·have e':(a==b)=false:=beq_eq_false_iff_ne.mpr e
   rw [e'] at h
   have ih:=jb ht h
   by_cases q:Ay u=true
   ·rw [ZO (by exact q),Zj,e'];exact ih
   ·rw [ZN (by exact q)];exact ih
theorem xB:Ay ⟨oc,od,.func fd,sl⟩=true:=by cases oc<;>rfl
theorem EU {es:Array DictEntry}:Ay ⟨oc,od,.dict es ep,sl⟩=true:=by cases oc<;>rfl
theorem zm {ns:Addr} {r:Option V3} (h:aaz K ns x=some r):aaz (K.filter λp=>Ay p.2) ns x=some r:=by
 unfold aaz at h ⊢
 cases e:K.lookup ns with
 | none=>rw [e] at h;cases h
 | some o=>
  rw [e] at h
  obtain ⟨oc,od,dt,sl⟩:=o
  cases dt with
  | dict es ep=>rw [jb EU e];exact h
  | _=>cases h
theorem EV:abm (K.filter λp=>Ay p.2)=true:=by
 unfold abm
 rw [aaY]
 intro p hp
 exact (aa7.mp hp).2
variable {mg:Str→Option V3} {h:Heap} {x:Str} {n:Nat} {N:List Str} {st:Stmt}
theorem mE.EW {l:List EN} (X:acH (K.filter λp=>Ay p.2) h) (G:h.Ns mainGlobals mg) {f cA:Addr} {od an o2:Option Addr} {sl s2:Array (Option V3)} {oc kV dc pm ct v0:V3} {T:String} {tk:Tok} {vs:Array V3} {rest:List V3} (a:aaz K mainGlobals x=some (some (.ref f)))
  (l0:K.lookup f=some ⟨oc,od,.func (aaw x x (jl st) (cQ st) (aF st) .none kV dc pm an (.ref cA) ct),sl⟩) (lc:K.lookup cA=some ⟨.type T,o2,.fields vs,s2⟩) (hv:vs.toList=v0::.str x tk::rest) (r:mE (K.filter λp=>Ay p.2) mg l):mE (K.filter λp=>Ay p.2) mg ((x,n,N,st)::l):=by
 have l1:=jb xB l0
 have l2:=jb (show Ay ⟨.type T,o2,.fields vs,s2⟩=true from rfl) lc
 refine mE.cons X G (zm a) l1 ?_ ?_ r
 ·unfold abg
  dsimp only
  rw [l2]
  dsimp only
  rw [hv]
  simp
 ·unfold Zu
  dsimp only
  rw [l1]
theorem ja.EW {l:List Str} (X:acH (K.filter λp=>Ay p.2) h) (G:h.Ns mainGlobals mg) (a:aaz K mainGlobals x=some none) (r:ja mg l):ja mg (x::l):=ja.cons X G (zm a) r
theorem BZ {f:Addr} {T:String} {vs:Array V3} (t1:aaz K mainGlobals x=some (some (.ref f))) (t2:K.lookup f=some ⟨oc,od,.func fd,sl⟩) (t3:fd.code=.ref c) (t4:K.lookup c=some ⟨.type T,o2,.fields vs,o4⟩) (t5:vs[11]?=some (.ref Pt)) :
  Z3 (K.filter λp=>Ay p.2) x=some (c,Pt):=EB (zm t1) (jb xB t2) t3 (jb rfl t4) t5
end
theorem EX {a:Addr} {o:Obj}:∀ {K:Yz},K.lookup a=some o→(a,o)∈K
 | (b,u)::K,h=>by
  rw [Zj] at h
  by_cases e:a=b
  ·subst e
   rw [show (a==a)=true by simp] at h
   cases h;simp
  ·rw [show (a==b)=false from beq_eq_false_iff_ne.mpr e] at h
   exact Zl _ (EX h)
theorem EY {K:Params→Yz} {t:Nat} {r:PySem.W.RowW} {d:DefRec} (has:∀ P,as=(K P).map (·.1))
  (h:ac5 q loose XP (λw h=>acH (fK K w.params) h) r d kwd run):PySem.W.WalkX q loose XP (PySem.W.X.obsZ as) (PySem.W.X.valZ K n t) r d kwd run:=by
 intro w s₀ s₁ mg mb G e a o pm cd doc dV kV h1 h2 h3 h4 h5 h6 args vals as' L p1 p2 p3 p4 p5
 refine h w s₀ s₁ mg mb G (λb u hb=>?_) a o pm cd doc dV kV h1 h2 h3 h4 h5 h6 args vals as' p1 p2 p3 p4 p5
 have hm:=(aa7.mp (EX hb)).1
 have e1:as.map s₀.heap.get?=(K w.params).map λp=>some p.2:=congrArg (·.1) e
 rw [has w.params,YW] at e1
 exact L.keeps b u (List.map_inj_left.mp e1 (b,u) hm)
section
variable {τ r:DS} {G:DH} {x y d:D} {f:D→D→M D} {ma mb:DS→M D} {ml:DS→M (List D)} {a b c e g h i j k l m n o:Option D}
@[simp high] theorem XG:(a::r)[0]?=some a:=YH rfl rfl
@[simp high] theorem XH {w:Option D}:(a::r).set 0 w=w::r:=YH rfl rfl
@[simp high] theorem Gf:af 0 (some x::r) G=.ok x G:=YH rfl rfl
@[simp high] theorem Wt:ao f (af 0) (eC d) (some x::r) G=f x d G:=YH rfl rfl
@[simp high] theorem Wu:ao f (af 0) mb (some x::r) G=(mb (some x::r) G).bd (f x):=ah
@[simp high] theorem Wv:aa (af 0) ml (some x::r) G=(ml (some x::r) G).bd λz=>M.ret (x::z):=ah
@[simp high] theorem XI:(a::b::r)[1]?=some b:=YH rfl rfl
@[simp high] theorem Ww {w:Option D}:(a::b::r).set 1 w=a::w::r:=YH rfl rfl
@[simp high] theorem IV:af 1 (a::some x::r) G=.ok x G:=YH rfl rfl
@[simp high] theorem S7:ao f (af 1) (eC d) (a::some x::r) G=f x d G:=YH rfl rfl
@[simp high] theorem XJ:ao f (af 1) mb (a::some x::r) G=(mb (a::some x::r) G).bd (f x):=ah
@[simp high] theorem Wx:aa (af 1) ml (a::some x::r) G=(ml (a::some x::r) G).bd λz=>M.ret (x::z):=ah
@[simp high] theorem UI:(a::b::c::r)[2]?=some c:=YH rfl rfl
@[simp high] theorem S8 {w:Option D}:(a::b::c::r).set 2 w=a::b::w::r:=YH rfl rfl
@[simp high] theorem MV:af 2 (a::b::some x::r) G=.ok x G:=YH rfl rfl
@[simp high] theorem Wy:ao f (af 2) (eC d) (a::b::some x::r) G=f x d G:=YH rfl rfl
@[simp high] theorem XM:ao f (af 2) mb (a::b::some x::r) G=(mb (a::b::some x::r) G).bd (f x):=ah
@[simp high] theorem Wz:aa (af 2) ml (a::b::some x::r) G=(ml (a::b::some x::r) G).bd λz=>M.ret (x::z):=ah
@[simp high] theorem XN:(a::b::c::e::r)[3]?=some e:=YH rfl rfl
@[simp high] theorem UJ {w:Option D}:(a::b::c::e::r).set 3 w=a::b::c::w::r:=YH rfl rfl
@[simp high] theorem NY:af 3 (a::b::c::some x::r) G=.ok x G:=YH rfl rfl
@[simp high] theorem S9:ao f (af 3) (eC d) (a::b::c::some x::r) G=f x d G:=YH rfl rfl
@[simp high] theorem XO:ao f (af 3) mb (a::b::c::some x::r) G=(mb (a::b::c::some x::r) G).bd (f x):=ah
@[simp high] theorem WA:aa (af 3) ml (a::b::c::some x::r) G=(ml (a::b::c::some x::r) G).bd λz=>M.ret (x::z):=ah
@[simp high] theorem XQ:(a::b::c::e::g::r)[4]?=some g:=YH rfl rfl
@[simp high] theorem Tc {w:Option D}:(a::b::c::e::g::r).set 4 w=a::b::c::e::w::r:=YH rfl rfl
@[simp high] theorem IW:af 4 (a::b::c::e::some x::r) G=.ok x G:=YH rfl rfl
@[simp high] theorem WB:ao f (af 4) (eC d) (a::b::c::e::some x::r) G=f x d G:=YH rfl rfl
@[simp high] theorem XR:ao f (af 4) mb (a::b::c::e::some x::r) G=(mb (a::b::c::e::some x::r) G).bd (f x):=ah
@[simp high] theorem XS:aa (af 4) ml (a::b::c::e::some x::r) G=(ml (a::b::c::e::some x::r) G).bd λz=>M.ret (x::z):=ah
@[simp high] theorem XT:(a::b::c::e::g::h::r)[5]?=some h:=YH rfl rfl
@[simp high] theorem Te {w:Option D}:(a::b::c::e::g::h::r).set 5 w=a::b::c::e::g::w::r:=YH rfl rfl
@[simp high] theorem NZ:af 5 (a::b::c::e::g::some x::r) G=.ok x G:=YH rfl rfl
@[simp high] theorem WC:ao f (af 5) (eC d) (a::b::c::e::g::some x::r) G=f x d G:=YH rfl rfl
@[simp high] theorem XU:ao f (af 5) mb (a::b::c::e::g::some x::r) G=(mb (a::b::c::e::g::some x::r) G).bd (f x):=ah
@[simp high] theorem XW:aa (af 5) ml (a::b::c::e::g::some x::r) G=(ml (a::b::c::e::g::some x::r) G).bd λz=>M.ret (x::z):=ah
@[simp high] theorem XX:(a::b::c::e::g::h::i::r)[6]?=some i:=YH rfl rfl
@[simp high] theorem XY {w:Option D}:(a::b::c::e::g::h::i::r).set 6 w=a::b::c::e::g::h::w::r:=YH rfl rfl
@[simp high] theorem Tf:af 6 (a::b::c::e::g::h::some x::r) G=.ok x G:=YH rfl rfl
@[simp high] theorem WD:ao f (af 6) (eC d) (a::b::c::e::g::h::some x::r) G=f x d G:=YH rfl rfl
@[simp high] theorem XZ:ao f (af 6) mb (a::b::c::e::g::h::some x::r) G=(mb (a::b::c::e::g::h::some x::r) G).bd (f x):=ah
@[simp high] theorem X0:aa (af 6) ml (a::b::c::e::g::h::some x::r) G=(ml (a::b::c::e::g::h::some x::r) G).bd λz=>M.ret (x::z):=ah
@[simp high] theorem X3:(a::b::c::e::g::h::i::j::r)[7]?=some j:=YH rfl rfl
@[simp high] theorem WE {w:Option D}:(a::b::c::e::g::h::i::j::r).set 7 w=a::b::c::e::g::h::i::w::r:=YH rfl rfl
@[simp high] theorem Tg:af 7 (a::b::c::e::g::h::i::some x::r) G=.ok x G:=YH rfl rfl
@[simp high] theorem WG:ao f (af 7) (eC d) (a::b::c::e::g::h::i::some x::r) G=f x d G:=YH rfl rfl
@[simp high] theorem X4:ao f (af 7) mb (a::b::c::e::g::h::i::some x::r) G=(mb (a::b::c::e::g::h::i::some x::r) G).bd (f x):=ah
@[simp high] theorem X5:aa (af 7) ml (a::b::c::e::g::h::i::some x::r) G=(ml (a::b::c::e::g::h::i::some x::r) G).bd λz=>M.ret (x::z):=ah
@[simp high] theorem X6:(a::b::c::e::g::h::i::j::k::r)[8]?=some k:=YH rfl rfl
@[simp high] theorem X7 {w:Option D}:(a::b::c::e::g::h::i::j::k::r).set 8 w=a::b::c::e::g::h::i::j::w::r:=YH rfl rfl
@[simp high] theorem X8:af 8 (a::b::c::e::g::h::i::j::some x::r) G=.ok x G:=YH rfl rfl
@[simp high] theorem WH:ao f (af 8) (eC d) (a::b::c::e::g::h::i::j::some x::r) G=f x d G:=YH rfl rfl
@[simp high] theorem Yb:ao f (af 8) mb (a::b::c::e::g::h::i::j::some x::r) G=(mb (a::b::c::e::g::h::i::j::some x::r) G).bd (f x):=ah
@[simp high] theorem Yc:aa (af 8) ml (a::b::c::e::g::h::i::j::some x::r) G=(ml (a::b::c::e::g::h::i::j::some x::r) G).bd λz=>M.ret (x::z):=ah
@[simp high] theorem Yd:(a::b::c::e::g::h::i::j::k::l::r)[9]?=some l:=YH rfl rfl
@[simp high] theorem Ye {w:Option D}:(a::b::c::e::g::h::i::j::k::l::r).set 9 w=a::b::c::e::g::h::i::j::k::w::r:=YH rfl rfl
@[simp high] theorem Yg:af 9 (a::b::c::e::g::h::i::j::k::some x::r) G=.ok x G:=YH rfl rfl
@[simp high] theorem WI:ao f (af 9) (eC d) (a::b::c::e::g::h::i::j::k::some x::r) G=f x d G:=YH rfl rfl
@[simp high] theorem Yh:ao f (af 9) mb (a::b::c::e::g::h::i::j::k::some x::r) G=(mb (a::b::c::e::g::h::i::j::k::some x::r) G).bd (f x):=ah
@[simp high] theorem Yi:aa (af 9) ml (a::b::c::e::g::h::i::j::k::some x::r) G=(ml (a::b::c::e::g::h::i::j::k::some x::r) G).bd λz=>M.ret (x::z):=ah
@[simp high] theorem WJ:(a::b::c::e::g::h::i::j::k::l::m::r)[10]?=some m:=YH rfl rfl
@[simp high] theorem WK {w:Option D}:(a::b::c::e::g::h::i::j::k::l::m::r).set 10 w=a::b::c::e::g::h::i::j::k::l::w::r:=YH rfl rfl
@[simp high] theorem WL:af 10 (a::b::c::e::g::h::i::j::k::l::some x::r) G=.ok x G:=YH rfl rfl
@[simp high] theorem UK:ao f (af 10) (eC d) (a::b::c::e::g::h::i::j::k::l::some x::r) G=f x d G:=YH rfl rfl
@[simp high] theorem WM:ao f (af 10) mb (a::b::c::e::g::h::i::j::k::l::some x::r) G=(mb (a::b::c::e::g::h::i::j::k::l::some x::r) G).bd (f x):=ah
@[simp high] theorem WN:aa (af 10) ml (a::b::c::e::g::h::i::j::k::l::some x::r) G=(ml (a::b::c::e::g::h::i::j::k::l::some x::r) G).bd λz=>M.ret (x::z):=ah
@[simp high] theorem WO:(a::b::c::e::g::h::i::j::k::l::m::n::r)[11]?=some n:=YH rfl rfl
@[simp high] theorem WQ {w:Option D}:(a::b::c::e::g::h::i::j::k::l::m::n::r).set 11 w=a::b::c::e::g::h::i::j::k::l::m::w::r:=YH rfl rfl
@[simp high] theorem WR:af 11 (a::b::c::e::g::h::i::j::k::l::m::some x::r) G=.ok x G:=YH rfl rfl
@[simp high] theorem UL:ao f (af 11) (eC d) (a::b::c::e::g::h::i::j::k::l::m::some x::r) G=f x d G:=YH rfl rfl
@[simp high] theorem WS:ao f (af 11) mb (a::b::c::e::g::h::i::j::k::l::m::some x::r) G=(mb (a::b::c::e::g::h::i::j::k::l::m::some x::r) G).bd (f x):=ah
@[simp high] theorem WT:aa (af 11) ml (a::b::c::e::g::h::i::j::k::l::m::some x::r) G=(ml (a::b::c::e::g::h::i::j::k::l::m::some x::r) G).bd λz=>M.ret (x::z):=ah
@[simp high] theorem WU:(a::b::c::e::g::h::i::j::k::l::m::n::o::r)[12]?=some o:=YH rfl rfl
@[simp high] theorem WV {w:Option D}:(a::b::c::e::g::h::i::j::k::l::m::n::o::r).set 12 w=a::b::c::e::g::h::i::j::k::l::m::n::w::r:=YH rfl rfl
@[simp high] theorem P9:af 12 (a::b::c::e::g::h::i::j::k::l::m::n::some x::r) G=.ok x G:=YH rfl rfl
@[simp high] theorem UM:ao f (af 12) (eC d) (a::b::c::e::g::h::i::j::k::l::m::n::some x::r) G=f x d G:=YH rfl rfl
@[simp high] theorem WW:ao f (af 12) mb (a::b::c::e::g::h::i::j::k::l::m::n::some x::r) G=(mb (a::b::c::e::g::h::i::j::k::l::m::n::some x::r) G).bd (f x):=ah
@[simp high] theorem WX:aa (af 12) ml (a::b::c::e::g::h::i::j::k::l::m::n::some x::r) G=(ml (a::b::c::e::g::h::i::j::k::l::m::n::some x::r) G).bd λz=>M.ret (x::z):=ah
@[simp high] theorem Yj:ao f (eC x) (eC d) τ G=f x d G:=YH rfl rfl
@[simp high] theorem Yk:ao f (eC x) mb τ G=(mb τ G).bd (f x):=ah
@[simp] theorem Yl:ao f ma (eC d) τ G=(ma τ G).bd λx=>f x d:=ah
@[simp high] theorem acl:aa (eC x) ml τ G=(ml τ G).bd λz=>M.ret (x::z):=ah
@[simp high] theorem Ym:aa (eC x) ai τ G=.ok [x] G:=YH rfl rfl
end
end L3
namespace K33
open PySem PySem.Spec L2 L3
noncomputable def top (i:Nat):Stmt:=PySem.Challenge.pw_pathshape_k33_ways_without_looks.main.body.getD i (.Pass ⟨0,0,0,0⟩)
noncomputable abbrev uY:Stmt:=top 1
noncomputable abbrev uZ:Stmt:=top 2
noncomputable abbrev EZ:Stmt:=top 3
noncomputable abbrev u0:Stmt:=top 5
noncomputable abbrev B0:Stmt:=top 6
noncomputable abbrev B4:Stmt:=top 7
noncomputable abbrev nq:Stmt:=top 8
noncomputable abbrev qM:Stmt:=top 9
noncomputable abbrev qN:Stmt:=top 10
noncomputable abbrev IX:Stmt:=top 12
noncomputable abbrev zo:Stmt:=top 13
noncomputable abbrev u6:Stmt:=top 14
noncomputable abbrev u7:Stmt:=top 15
noncomputable abbrev B5:Stmt:=top 16
noncomputable abbrev nZ:Stmt:=top 17
noncomputable abbrev mF:Stmt:=top 18
noncomputable abbrev zp:Stmt:=top 22
noncomputable abbrev u9:Stmt:=top 23
noncomputable abbrev vc:Stmt:=top 24
noncomputable abbrev xC:Stmt:=top 25
noncomputable abbrev ve:Stmt:=top 26
noncomputable abbrev vg:Stmt:=top 27
noncomputable abbrev vh:Stmt:=top 28
noncomputable abbrev xD:Stmt:=top 29
noncomputable abbrev qO:Stmt:=top 30
noncomputable abbrev xE:Stmt:=top 31
noncomputable abbrev Kf:Stmt:=top 32
noncomputable abbrev fC:Stmt:=(cQ nZ).getD 0 (.Pass ⟨0,0,0,0⟩)
noncomputable abbrev kh:gA:=⟨"<lambda>","truths_of.<locals>.<lambda>",ID (Au fC),.expr (IE (Au fC)),EC (Au fC),(Au fC).pos,["reached","kinds"]⟩
noncomputable abbrev vj:List Str:=["look"]
noncomputable def gE:MS:=aG (jZ (g8 (ao (fT false) (ao bg (af 0) (eC (.int 0))) (eC (.str "way")))) (qJ) (cg)) (aG (jZ (g8 (ao (G6 false) (ao bg (af 0) (eC (.int 0))) (ak bx (aa (eC (.str "not")) (aa (eC (.str "both")) (aa (eC (.str "either")) (ai))))))) (qJ) (cg)) (cN (eFn (ak aS (ai)))))
noncomputable def bE (ds:List D):M D:=ck (λds=>cI 1 gE ds) ds
noncomputable abbrev B6:List Str:=["tree","place","k"]
noncomputable def gS:MS:=aJ 0 (ao bg (ao bg (af 0) (eC (.int 1))) (af 2))
noncomputable def nt:MS:=aG (fD (gN 2) (af 1) gS) (cN (af 0))
noncomputable def d8 (ds:List D):M D:=ck (λds=>cI 3 nt ds) ds
noncomputable abbrev qP:List Str:=["placed"]
noncomputable def gT:MS:=cN (eFn (dY (oT 2) [true] (cV (aa (ao bg (ao bg (af 0) (eC (.int 1))) (eC (.int 1))) (ai))) (bV) (ak bx (aa (ao aE (ao bg (af 2) (eC (.int 0))) (ak bx (aa (af 0) (ai)))) (aa (af 1) (ai))))))
noncomputable def bq (ds:List D):M D:=ck (λds=>cI 1 gT ds) ds
noncomputable abbrev vm:List Str:=["numbers","places"]
noncomputable def jA:MS:=cN (eFn (cj oN [true] (af 1) (bV) (xh (af 1) (af 0))))
noncomputable def d9 (ds:List D):M D:=ck (λds=>cI 2 jA ds) ds
noncomputable abbrev B7:List Str:=["found","reached","truths","gone","number","other"]
noncomputable def gU:MS:=jZ (jY kR (ao bg (af 2) (af 5))) (eY (eC (.bl true)) (af 3) (af 5)) (cg)
noncomputable def gW:MS:=fD (gN 5) (ao bg (af 1) (af 4)) gU
noncomputable def nu:MS:=aG (aJ 3 (sZ)) (aG (fD (gN 4) (af 0) gW) (cN (eFn (ak nj (aa (af 3) (ai))))))
noncomputable def kL (ds:List D):M D:=ck (λds=>cI 6 nu ds) ds
noncomputable abbrev mG:List Str:=["kinds","reached","look","parts"]
noncomputable def dS:MS:=aG (jZ (g8 (ao (fT false) (ao bg (af 2) (eC (.int 0))) (eC (.str "kind")))) (cN (eFn (cj oN [false,false,true] (af 0) (bV) (ao (fT false) (af 0) (ao bg (af 3) (eC (.int 1))))))) (cg)) (aG (jZ (g8 (ao (fT false) (ao bg (af 2) (eC (.int 0))) (eC (.str "not")))) (qJ) (cg)) (aG (jZ (g8 (ao (fT false) (ao bg (af 2) (eC (.int 0))) (eC (.str "both")))) (qJ) (cg)) (aG (jZ (g8 (ao (fT false) (ao bg (af 2) (eC (.int 0))) (eC (.str "either")))) (qJ) (cg)) (aG (jZ (g8 (ao (fT false) (ao bg (af 2) (eC (.int 0))) (eC (.str "way")))) (qJ) (cg)) (cN (eFn (cj oN [] (af 0) (bV) (eC (.bl true)))))))))
noncomputable def dU (ds:List D):M D:=ck (λds=>cI 4 dS ds) ds
noncomputable abbrev zq:List Str:=["_law_cell","_law_k","_law_digit","_law_j","_law_number"]
noncomputable def gk:MS:=aJ 2 (ao z8 (af 2) (eC (.int 840)))
noncomputable def gm:MS:=aG (aJ 2 (af 0)) (dR eT (gN 3) (aa (ao eS (af 1) (eC (.int 46))) (ai)) gk)
noncomputable def jB:MS:=aG (aJ 2 (eC (.int 0))) (aG (jZ (g8 (ao QZ (af 0) (ao GZ (eC (.int 10)) (eC (.int 9))))) (gm) (cg)) (aG (jZ (g8 (ao Bg (af 2) (eC (.int 0)))) (cN (ao eS (af 2) (eC (.int 840)))) (cg)) (aG (aJ 4 (ao aE (ao aE (ao eS (af 0) (eC (.int 1000000007))) (ao Bf (eC (.int 7919)) (af 1))) (eC (.int 13)))) (aG (aJ 4 (ao eS (ao Bf (af 4) (af 4)) (eC (.int 998244353)))) (cN (ao z8 (ao eS (ao Bf (af 4) (ao aE (ao aE (af 4) (ao Bf (eC (.int 16807)) (af 1))) (eC (.int 1)))) (eC (.int 1000000007))) (eC (.int 3))))))))
noncomputable def aC (ds:List D):M D:=ck (λds=>cI 5 jB ds) ds
noncomputable abbrev vn:List Str:=["_law_rows_here","_law_held","_law_trees_here","_law_deep","_law_kind","_law_parts","_law_tree"]
noncomputable def eZ:MS:=aG (aJ 5 (iL (af 1) (ao aE (af 3) (eC (.int 1))) (eFn (ak aS (ai))))) (aG (eY (eFn (ak aS (ai))) (af 1) (ao aE (af 3) (eC (.int 1)))) (aG (aJ 6 (ak bx (aa (af 4) (aa (ak wY (aa (af 5) (ai))) (ai))))) (aG (eY (eFn (ao aE (iL (af 1) (af 3) (eFn (ak aS (ai)))) (eFn (ak aS (aa (af 6) (ai)))))) (af 1) (af 3)) (gR (cO "list" aU (af 2) (aa (af 6) (ai)))))))
noncomputable def jC:MS:=aG (aJ 1 (sZ)) (aG (aJ 2 (ak aS (ai))) (aG (iz (gP 3 4) (Eb (aa (af 0) (ai))) eZ) (cN (eFn (ak kZ (aa (af 2) (ai)))))))
noncomputable def eg (ds:List D):M D:=ck (λds=>cI 7 jC ds) ds
noncomputable abbrev vp:List Str:=["_law_rows_here","_law_spots_here","_law_deep","_law_kind","_law_last"]
noncomputable def bT:MS:=aG (aJ 4 (ao bg (af 1) (lq (eC (.int 1))))) (jZ (g8 (ao Bg (af 2) (ak cC (aa (af 4) (ai))))) (gR (cO "list" aU (af 1) (aa (ao aE (af 4) (ak bx (aa (eC (.int 0)) (ai)))) (ai)))) (gR (cO "list" aU (af 1) (aa (ao aE (eFn (jo (af 4) (cL) (bh (ao oA (af 2) (eC (.int 1)))))) (ak bx (aa (ao aE (ao bg (af 4) (ao oA (af 2) (eC (.int 1)))) (eC (.int 1))) (ai)))) (ai)))))
noncomputable def jD:MS:=aG (aJ 1 (ak aS (aa (ak bx (ai)) (ai)))) (aG (fD (gP 2 3) (eFn (jo (af 0) (bh (eC (.int 1))) (cL))) bT) (cN (yp (af 1))))
noncomputable def gF (ds:List D):M D:=ck (λds=>cI 5 jD ds) ds
noncomputable abbrev vq:List Str:=["_law_rows_here","_law_reach_here","_law_i","_law_row","_law_bits","_law_inside","_law_j","_law_go"]
noncomputable def iM:MS:=aG (eY (ao BP (lE (af 4) (eC (.str "deep"))) (ao mw (eC (.int 1)) (af 6))) (af 4) (eC (.str "deep"))) (jZ (g8 (ao (fT false) (ao bg (ao bg (af 0) (af 6)) (eC (.int 0))) (ao aE (ao bg (af 3) (eC (.int 0))) (eC (.int 1))))) (eY (ao BP (lE (af 4) (eC (.str "down"))) (ao mw (eC (.int 1)) (af 6))) (af 4) (eC (.str "down"))) (cg))
noncomputable def iN:MS:=aG (aJ 5 (eC (.bl false))) (eY (ao BP (lE (af 4) (eC (.str "later"))) (ao mw (eC (.int 1)) (af 6))) (af 4) (eC (.str "later")))
noncomputable def bA:MS:=aG (jZ (g8 (ao RW (ao bg (ao bg (af 0) (af 6)) (eC (.int 0))) (ao bg (af 3) (eC (.int 0))))) (yK) (cg)) (jZ (g8 (ao (fT false) (ao bg (ao bg (af 0) (af 6)) (eC (.int 0))) (ao bg (af 3) (eC (.int 0))))) (iN) (jZ (jY kR (af 5)) (iM) (cg)))
noncomputable def ff:MS:=gR (cO "list" aU (lE (af 1) (af 7)) (aa (lE (af 4) (af 7)) (ai)))
noncomputable def dI:MS:=aG (aJ 4 (mC [("down",eC (.int 0)),("deep",eC (.int 0)),("later",eC (.int 0))])) (aG (aJ 5 (eC (.bl true))) (aG (dR iU (gN 6) (aa (ao aE (af 2) (eC (.int 1))) (aa (ak cC (aa (af 0) (ai))) (ai))) bA) (iz (gN 7) (BR (af 1)) ff)))
noncomputable def jE:MS:=aG (aJ 1 (mC [("down",ak aS (ai)),("deep",ak aS (ai)),("later",ak aS (ai))])) (aG (iz (gP 2 3) (cV (aa (af 0) (ai))) dI) (cN (af 1)))
noncomputable def eu (ds:List D):M D:=cI 8 jE ds
noncomputable abbrev qQ:List Str:=["_law_masks_of","_law_bits","_law_there","_law_i","_law_mask"]
noncomputable def dH:MS:=jZ (g8 (ao (fT false) (ao uS (ao zf (af 1) (af 3)) (eC (.int 1))) (eC (.int 1)))) (aJ 2 (ao BP (af 2) (af 4))) (cg)
noncomputable def fP:MS:=aG (aJ 2 (eC (.int 0))) (aG (iz (gP 3 4) (cV (aa (af 0) (ai))) dH) (cN (af 2)))
noncomputable def gX (ds:List D):M D:=ck (λds=>cI 5 fP ds) ds
noncomputable abbrev vt:List Str:=["top","parts_of","found","waiting","one"]
noncomputable def dJ:MS:=aG (aJ 4 (cO "list" uB (af 3) ai)) (aG (gR (cO "list" aU (af 2) (aa (af 4) (ai)))) (gR (cO "list" wQ (af 3) (aa (eFn (ak kZ (aa (ju 1 1 (λy=>Zy y [("placed_parts",bq),("look_parts",bE)]) (aa (af 4) (ai))) (ai)))) (ai)))))
noncomputable def gG:MS:=aG (aJ 2 (ak aS (ai))) (aG (aJ 3 (ak aS (aa (af 0) (ai)))) (aG (fF (g8 (ao Bg (ak cC (aa (af 3) (ai))) (eC (.int 0)))) dJ fuel) (cN (yp (af 2)))))
noncomputable def eB (ds:List D):M D:=ck (λds=>cI 5 gG ds) ds
noncomputable abbrev ny:List Str:=["tree","place","above"]
noncomputable def eE:MS:=aG (jZ (g8 (ao (fT false) (af 1) (ak bx (ai)))) (cN (eFn (ak aS (ai)))) (cg)) (aG (aJ 2 (eFn (jo (af 1) (cL) (bh (lq (eC (.int 1))))))) (cN (eFn (cF iU oN [false,false,true] (aa (ao aE (ao bg (af 1) (lq (eC (.int 1)))) (eC (.int 1))) (aa (ak cC (aa (ao bg (aq 2 d8 (aa (af 0) (aa (af 2) (ai)))) (eC (.int 1))) (ai))) (ai))) (bV) (ao aE (af 3) (ak bx (aa (af 0) (ai))))))))
noncomputable def cZ (ds:List D):M D:=ck (λds=>cI 3 eE ds) ds
noncomputable abbrev vz:List Str:=["_law_script","_law_start","_law_cells_here"]
noncomputable def jF:MS:=aG (aJ 2 (eFn (dY oN [true] (nY (aa (af 1) (aa (ak (jr λi j=>if j<i then j else i) (aa (ak cC (aa (af 0) (ai))) (aa (eC (.int 64)) (ai)))) (aa (eC (.int 2)) (ai))))) (bV) (ao bg (af 1) (af 0))))) (cN (eFn (ao aE (af 2) (eFn (cF eT oN [true,true] (aa (ao oA (eC (.int 6)) (ak cC (aa (af 2) (ai)))) (ai)) (bV) (aq 2 aC (aa (ak cC (aa (af 1) (ai))) (aa (ao aE (ao aE (eC (.int 40)) (af 2)) (af 0)) (ai)))))))))
noncomputable def dF (ds:List D):M D:=ck (λds=>cI 3 jF ds) ds
noncomputable abbrev vA:List Str:=["_law_cell","_law_names_here","_law_word","_law_j","_law_wide","_law_place","_law_k","_law_name"]
noncomputable def fh:MS:=aJ 2 (ao aE (af 2) (ao bg (eC (.str "abcdefghijklmnopqrstuvwxyz")) (ao eS (aq 2 aC (aa (af 0) (aa (ao aE (eC (.int 32)) (af 3)) (ai)))) (eC (.int 26)))))
noncomputable def iO:MS:=aG (aJ 2 (eC (.str "q"))) (aG (dR eT (gN 3) (aa (eC (.int 7)) (ai)) fh) (cN (eFn (cF eT oN [true,false,true] (aa (eC (.int 5)) (ai)) (bV) (eFn (jo (af 3) (cL) (bh (ao aE (ao aE (eC (.int 1)) (ao eS (aq 2 aC (aa (af 1) (aa (eC (.int 43)) (ai)))) (eC (.int 4)))) (af 0)))))))))
noncomputable def fj:MS:=aJ 7 (ao aE (af 7) (ao bg (eC (.str "abcdefghijklmnopqrstuvwxyz")) (ao eS (ao aE (aq 2 aC (aa (af 0) (aa (ao aE (eC (.int 32)) (af 3)) (ai)))) (ao Bf (af 6) (ak sW (aa (ao (fT false) (af 3) (af 5)) (ai))))) (eC (.int 26)))))
noncomputable def fk:MS:=aG (jZ (g8 (ao (G6 false) (af 7) (eFn (ak aS (aa (eC (.str "start")) (aa (eC (.str "rule")) (aa (eC (.str "row")) (aa (eC (.str "mix")) (aa (eC (.str "many")) (aa (eC (.str "any")) (aa (eC (.str "kind")) (aa (eC (.str "not")) (aa (eC (.str "both")) (aa (eC (.str "either")) (aa (eC (.str "way")) (aa (eC (.str "mark")) (ai))))))))))))))))) (aJ 7 (ao aE (af 7) (eC (.str "z")))) (cg)) (gR (cO "list" aU (af 1) (aa (af 7) (ai))))
noncomputable def fm:MS:=aG (aJ 7 (eC (.str ""))) (aG (dR eT (gN 3) (aa (af 4) (ai)) fj) (fk))
noncomputable def gH:MS:=aG (aJ 1 (ak aS (ai))) (aG (jZ (g8 (ao (fT false) (ao eS (aq 2 aC (aa (af 0) (aa (eC (.int 40)) (ai)))) (eC (.int 3))) (eC (.int 0)))) (iO) (cg)) (aG (aJ 4 (ao aE (eC (.int 1)) (ao eS (aq 2 aC (aa (af 0) (aa (eC (.int 41)) (ai)))) (eC (.int 8))))) (aG (aJ 5 (ao eS (aq 2 aC (aa (af 0) (aa (eC (.int 42)) (ai)))) (af 4))) (aG (dR eT (gN 6) (aa (eC (.int 5)) (ai)) fm) (cN (yp (af 1)))))))
noncomputable def gI (ds:List D):M D:=ck (λds=>cI 8 gH ds) ds
noncomputable abbrev xF:List Str:=["_law_cells_here","_law_names_here","_law_most_here","_law_rows_here","_law_cell","_law_many","_law_k","_law_deep"]
noncomputable def eF:MS:=aG (aJ 7 (ao aE (eC (.int 1)) (ao eS (aq 2 aC (aa (af 4) (aa (eC (.int 4)) (ai)))) (ao aE (ao bg (ao bg (af 3) (lq (eC (.int 1)))) (eC (.int 0))) (eC (.int 1)))))) (aG (jZ (g8 (ao Bg (af 6) (eC (.int 0)))) (aJ 7 (ao aE (ao bg (ao bg (af 3) (lq (eC (.int 1)))) (eC (.int 0))) (ao eS (aq 2 aC (aa (af 4) (aa (eC (.int 6)) (ai)))) (eC (.int 2))))) (cg)) (jZ (g8 (ao RW (ak cC (aa (af 3) (ai))) (af 2))) (gR (cO "list" aU (af 3) (aa (ak bx (aa (af 7) (aa (ao bg (af 1) (ao eS (aq 2 aC (aa (af 4) (aa (ao aE (eC (.int 7)) (af 6)) (ai)))) (eC (.int 4)))) (ai)))) (ai)))) (cg)))
noncomputable def fQ:MS:=aG (aJ 5 (eC (.int 1))) (aG (jZ (g8 (ao (fT false) (ao eS (aq 2 aC (aa (af 4) (aa (eC (.int 2)) (ai)))) (eC (.int 12))) (eC (.int 5)))) (aJ 5 (ao aE (eC (.int 1)) (ao eS (aq 2 aC (aa (af 4) (aa (eC (.int 3)) (ai)))) (eC (.int 24))))) (cg)) (dR eT (gN 6) (aa (af 5) (ai)) eF))
noncomputable def ki:MS:=aG (aJ 3 (ak aS (aa (ak bx (aa (eC (.int 0)) (aa (ao bg (af 1) (ao eS (aq 2 aC (aa (ao bg (af 0) (eC (.int 0))) (aa (eC (.int 1)) (ai)))) (eC (.int 4)))) (ai)))) (ai)))) (aG (fD (gN 4) (af 0) fQ) (cN (yp (af 3))))
noncomputable def iE (ds:List D):M D:=ck (λds=>cI 8 ki ds) ds
noncomputable abbrev xG:List Str:=["_law_cell","_law_names_here","_law_rows_here","_law_go","_law_kind","_law_bits","_law_j","_law_row"]
noncomputable def eG:MS:=aJ 5 (ao BP (af 5) (ao mw (ak sW (aa (ao (fT false) (ao bg (af 7) (eC (.int 1))) (af 4)) (ai))) (af 6)))
noncomputable def iF:MS:=aG (aJ 3 (ao bg (eFn (ak aS (aa (eC (.str "down")) (aa (eC (.str "deep")) (aa (eC (.str "deep")) (aa (eC (.str "later")) (aa (eC (.str "down")) (ai)))))))) (ao eS (aq 2 aC (aa (af 0) (aa (eC (.int 12)) (ai)))) (eC (.int 5))))) (aG (jZ (g8 (ao (fT false) (ao eS (aq 2 aC (aa (af 0) (aa (eC (.int 13)) (ai)))) (eC (.int 3))) (eC (.int 0)))) (cN (ak bx (aa (ak bx (aa (af 3) (aa (ak bx (aa (eC (.str "any")) (ai))) (ai)))) (aa (ao oA (ao mw (eC (.int 1)) (ak cC (aa (af 2) (ai)))) (eC (.int 1))) (ai))))) (cg)) (aG (aJ 4 (ao bg (af 1) (ao eS (aq 2 aC (aa (af 0) (aa (eC (.int 14)) (ai)))) (eC (.int 5))))) (aG (aJ 5 (eC (.int 0))) (aG (iz (gP 6 7) (cV (aa (af 2) (ai))) eG) (cN (ak bx (aa (ak bx (aa (af 3) (aa (ak bx (aa (eC (.str "kind")) (aa (af 4) (ai)))) (ai)))) (aa (af 5) (ai)))))))))
noncomputable def cU (ds:List D):M D:=ck (λds=>cI 8 iF ds) ds
noncomputable abbrev xH:List Str:=["_law_script","_law_most_here","_law_head"]
noncomputable def iG:MS:=aG (aJ 2 (aq 2 aC (aa (ak lB (aa (eFn (jo (af 0) (cL) (bh (eC (.int 1))))) (ai))) (aa (eC (.int 44)) (ai))))) (aG (jZ (g8 (ao (fT false) (ao eS (af 2) (eC (.int 4))) (eC (.int 1)))) (cN (ao aE (eC (.int 1)) (ao eS (ao z8 (af 2) (eC (.int 4))) (eC (.int 6))))) (cg)) (cN (af 1)))
noncomputable def iH (ds:List D):M D:=ck (λds=>cI 3 iG ds) ds
noncomputable abbrev oG:List Str:=["one","parts","reached","kinds"]
noncomputable def cP:DS→M D:=aq 4 dU (aa (af 3) (aa (af 2) (aa (af 0) (aa (af 1) (ai)))))
noncomputable def bZ (ds:List D):M D:=λG=>i7 (BI 4 cP ds G)
noncomputable abbrev E0:List Str:=["top","parts_of","make","made","one","parts","number"]
noncomputable def nA:MS:=gR (cO "list" aU (af 5) (aa (cO "list" uB (af 3) ai) (ai)))
noncomputable def gK:MS:=aG (aJ 5 (ak aS (ai))) (aG (dR eT (gN 6) (aa (ak cC (aa (ju 1 1 (λy=>Zy y [("placed_parts",bq),("look_parts",bE)]) (aa (af 4) (ai))) (ai))) (ai)) nA) (gR (cO "list" aU (af 3) (aa (lD 2 2 (λy=>Zy y [("truths_of",(2,bZ))]) (aa (af 4) (aa (yp (af 5)) (ai)))) (ai)))))
noncomputable def qR:MS:=aG (aJ 3 (ak aS (ai))) (aG (iz (gN 4) (Eb (aa (aq 2 eB (aa (af 0) (aa (af 1) (ai)))) (ai))) gK) (cN (ao bg (af 3) (eC (.int 0)))))
noncomputable def mH (ds:List D):M D:=cI 7 qR ds
noncomputable abbrev qS:List Str:=["tree"]
noncomputable def gY:MS:=cN (aq 2 eB (aa (ak bx (aa (ak bx (ai)) (aa (af 0) (ai)))) (aa (eC (.fn "placed_parts")) (ai))))
noncomputable def cH (ds:List D):M D:=ck (λds=>cI 1 gY ds) ds
noncomputable abbrev vB:List Str:=["tree"]
noncomputable def jG:MS:=cN (eFn (cj (oT 2) [] (aq 1 cH (aa (af 0) (ai))) (bV) (af 0)))
noncomputable def aZ (ds:List D):M D:=ck (λds=>cI 1 jG ds) ds
noncomputable abbrev zu:List Str:=["tree"]
noncomputable def lF:MS:=cN (eFn (cj (oT 2) [] (aq 1 cH (aa (af 0) (ai))) (bV) (ao bg (af 1) (eC (.int 0)))))
noncomputable def f7 (ds:List D):M D:=ck (λds=>cI 1 lF ds) ds
noncomputable abbrev xJ:List Str:=["kinds","reached","look"]
noncomputable def gn:MS:=cN (aq 3 mH (aa (af 2) (aa (eC (.fn "look_parts")) (aa (BN "truths_of" [1,0]) (ai)))))
noncomputable def gp (ds:List D):M D:=ck (λds G=>i7 (cI 3 gn ds G)) ds
noncomputable abbrev B8:List Str:=["tree","go","place","part"]
noncomputable def jc:MS:=aG (jZ (g8 (ao (fT false) (af 1) (eC (.str "later")))) (cN (aq 2 cZ (aa (af 0) (aa (af 2) (ai))))) (cg)) (aG (aJ 3 (aq 2 d8 (aa (af 0) (aa (af 2) (ai))))) (aG (jZ (g8 (ao (fT false) (af 1) (eC (.str "down")))) (cN (eFn (cF eT oN [false,false,true] (aa (ak cC (aa (ao bg (af 3) (eC (.int 1))) (ai))) (ai)) (bV) (ao aE (af 3) (ak bx (aa (af 0) (ai))))))) (cg)) (cN (eFn (cj oN [false,false,true] (eFn (jo (aq 1 aZ (aa (af 3) (ai))) (bh (eC (.int 1))) (cL))) (bV) (ao aE (af 3) (af 0)))))))
noncomputable def eN (ds:List D):M D:=ck (λds=>cI 4 jc ds) ds
noncomputable abbrev vC:List Str:=["tree","numbers","number","place","reached","go"]
noncomputable def dM:MS:=qD (af 2) (af 1) (af 3)
noncomputable def iP:MS:=eY (yp (dY oN [true,true,false,false,false,true] (BH (af 1)) (bV) (aq 2 d9 (aa (af 2) (aa (aq 3 eN (aa (af 1) (aa (af 6) (aa (af 0) (ai))))) (ai)))))) (af 4) (af 5)
noncomputable def gc:MS:=aG (aJ 4 (sZ)) (aG (fD (gN 5) (ak bx (aa (eC (.str "down")) (aa (eC (.str "deep")) (aa (eC (.str "later")) (ai))))) iP) (cN (af 4)))
noncomputable def jH:MS:=aG (aJ 1 (za)) (aG (iz (gP 2 3) (cV (aa (aq 1 aZ (aa (af 0) (ai))) (ai))) dM) (gc))
noncomputable def dG (ds:List D):M D:=cI 6 jH ds
noncomputable abbrev IY:List Str:=["tree","way","kinds","reached","found","go","look","places"]
noncomputable def jd:MS:=aJ 4 (aq 3 kL (aa (af 4) (aa (lE (af 3) (af 5)) (aa (aq 3 gp (aa (af 2) (aa (af 3) (aa (af 6) (ai))))) (ai)))))
noncomputable def xK:MS:=aG (aJ 7 (aq 1 aZ (aa (af 0) (ai)))) (cN (eFn (cj oN [false,false,false,false,false,false,false,true] (af 4) (bV) (ao bg (af 8) (af 0)))))
noncomputable def o7:MS:=aG (aJ 2 (aq 1 f7 (aa (af 0) (ai)))) (aG (aJ 3 (aq 1 dG (aa (af 0) (ai)))) (aG (aJ 4 (eFn (ak aS (aa (eC (.int 0)) (ai))))) (aG (fD (gP 5 6) (af 1) jd) (xK))))
noncomputable def iI (ds:List D):M D:=ck (λds=>cI 8 o7 ds) ds
noncomputable def qT:MS:=aJ 4 (aq 3 kL (aa (af 4) (aa (lE (af 3) (af 5)) (aa (aq 3 gp (aa (af 2) (aa (af 3) (aa (af 6) (ai))))) (ai)))))
noncomputable def qU:MS:=aG (aJ 7 (aq 1 aZ (aa (af 0) (ai)))) (cN (cj oN [false,false,false,false,false,false,false,true] (af 4) (bV) (ao bg (af 8) (af 0))))
noncomputable def je:MS:=aG (aJ 2 (aq 1 f7 (aa (af 0) (ai)))) (aG (aJ 3 (aq 1 dG (aa (af 0) (ai)))) (aG (aJ 4 (eFn (ak aS (aa (eC (.int 0)) (ai))))) (aG (fD (gP 5 6) (af 1) qT) (qU))))
noncomputable def gM (ds:List D):M D:=qk (λds=>cI 8 je ds) ds
noncomputable abbrev Kg:List Str:=["_law_script","_law_names_here","_law_rows_here","_law_reach_here","_law_spots_here","_law_tree","_law_steps","_law_many","_law_start","_law_way","_law_bits","_law_step_here","_law_due","_law_told"]
noncomputable def nB:MS:=aJ 10 (ao uS (aq 2 gX (aa (lE (af 3) (ao bg (ao bg (af 11) (eC (.int 0))) (eC (.int 0)))) (aa (af 10) (ai)))) (ao bg (af 11) (eC (.int 1))))
noncomputable def vD:MS:=aG (aJ 13 (aq 2 gM (aa (af 5) (aa (ak fZ (aa (af 9) (ai))) (ai))))) (aG (jZ (G9 (Dl (jY kR (Hv .lst (af 13)))) (g8 (ao (fT true) (af 13) (af 12)))) (cN (eC (.bl false))) (cg)) (aG (gR (cO "list" aU (af 13) (aa (ak bx (ai)) (ai)))) (jZ (z9 (g8 (ao (fT false) (af 8) (eC (.int 0)))) (g8 (ao (fT true) (aq 2 iI (aa (af 5) (aa (ak fZ (aa (af 9) (ai))) (ai)))) (af 12)))) (cN (eC (.bl false))) (cg))))
noncomputable def zv:MS:=aG (aJ 12 (eFn (dY (oT 2) [false,false,false,false,false,false,false,false,false,false,true] (cV (aa (af 4) (ai))) (g8 (ao (fT false) (ao uS (ao zf (af 12) (af 0)) (eC (.int 1))) (eC (.int 1)))) (af 1)))) (vD)
noncomputable def zw:MS:=aG (aJ 10 (eC (.int 1))) (aG (fD (gN 11) (eFn (jo (af 6) (bh (af 8)) (bh (ao aE (af 8) (af 7))))) nB) (zv))
noncomputable def qV:MS:=aG (aJ 9 (eFn (cj oN [] (eFn (jo (af 6) (bh (af 8)) (bh (ao aE (af 8) (af 7))))) (bV) (ao bg (af 0) (eC (.int 0)))))) (zw)
noncomputable def zx:MS:=aG (aJ 7 (ao aE (eC (.int 1)) (ao eS (aq 2 aC (aa (ak lB (aa (eFn (jo (af 0) (bh (eC (.int 1))) (bh (eC (.int 2))))) (ai))) (aa (eC (.int 45)) (ai)))) (eC (.int 6))))) (aG (iz (gN 8) (nY (aa (eC (.int 0)) (aa (ak cC (aa (af 6) (ai))) (aa (af 7) (ai))))) qV) (cN (Dp (ao (fT false) (aq 2 iI (aa (af 5) (aa (ak bx (aa (ak bx (aa (eC (.str "later")) (aa (ak bx (aa (eC (.str "any")) (ai))) (ai)))) (ai))) (ai)))) (eFn (ak aS (ai)))) (ao (fT false) (af 5) (ao bg (aq 1 eg (aa (af 2) (ai))) (eC (.int 0)))))))
noncomputable def qW:MS:=aG (aJ 1 (aq 1 gI (aa (ak lB (aa (eFn (jo (af 0) (cL) (bh (eC (.int 1))))) (ai))) (ai)))) (aG (aJ 2 (aq 3 iE (aa (aq 2 dF (aa (af 0) (aa (eC (.int 0)) (ai)))) (aa (af 1) (aa (aq 2 iH (aa (af 0) (aa (eC (.int 36)) (ai)))) (ai)))))) (aG (aJ 3 (aq 1 eu (aa (af 2) (ai)))) (aG (aJ 4 (aq 1 gF (aa (af 2) (ai)))) (aG (aJ 5 (ao bg (aq 1 eg (aa (af 2) (ai))) (eC (.int 0)))) (aG (aJ 6 (eFn (cj oN [false,true,true] (aq 2 dF (aa (af 0) (aa (eC (.int 1)) (ai)))) (bV) (aq 3 cU (aa (af 0) (aa (af 2) (aa (af 3) (ai)))))))) (zx))))))
noncomputable def Kh (ds:List D):M D:=ck (λds G=>i7 (cI 14 qW ds G)) ds
noncomputable def defs:List EN:=[("look_parts",1,vj,uY),("all_within",2,vt,uZ),("folded",3,E0,EZ),("all_places",1,vB,u0),("tree_at",2,B6,B0),("gone_to",3,B8,B4),("later_brothers",2,ny,nq),("placed_trees",1,qS,qM),("placed_parts",1,qP,qN),("finds",2,IY,IX),("kinds_in",1,zu,zo),("reached_in",1,vC,u6),("numbers_at",2,vm,u7),("stepped",3,B7,B5),("truths_of",3,xJ,nZ),("truths_by_parts",4,mG,mF),("_law_mix",2,zq,zp),("_law_cells",2,vz,u9),("_law_names",1,vA,vc),("_law_rows",3,xF,xC),("_law_trees",1,vn,ve),("_law_spots",1,vp,vg),("_law_reach",1,vq,vh),("_law_step",3,xG,xD),("_law_gone_to",2,qQ,qO),("_law_most",2,xH,xE),("law",1,Kg,Kf)]
noncomputable def Na:List Str:=["any","enumerate","int","isinstance","len","list","min","range","reversed","sorted","sum","tuple","zip"]
structure Txt (g:CG):Prop where
  D:mE g.K g.mg defs
  B:ja g.mg Na
  xM:∃ c P,P8 g "truths_of" c P
theorem Nb {g:CG} (T:Txt g) {f:Addr} {fd:FuncData} (F:CZ g.K "law" "law" Kf f fd):kT g.P g.w g.K g.mg g.base (nU g.P g.w) 8 f fd ["_law_script"] (gB g.K g.mg 1 Kh):=by
 obtain ⟨_,_,_,_,_,_,_,_,_,_,_,_,_,_,_,_,_,_,_,_,_,_,_,_,_,_,_,_⟩:=T.D
 obtain ⟨_,_,xN⟩:=T.xM
 refine bN (a:=iD g "look_parts" 1 1 bE) ?_ λ_=>bN (a:=iD g "tree_at" 1 2 d8) ?_ λ_=>bN (a:=iD g "placed_parts" 1 1 bq) ?_ λ_=>bN (a:=iD g "numbers_at" 1 2 d9) ?_ λ_=>bN (a:=iD g "stepped" 1 3 kL) ?_ λ_=>bN (a:=iD g "truths_by_parts" 1 4 dU) ?_ λ_=>bN (a:=iD g "_law_mix" 1 2 aC) ?_ λ_=>bN (a:=iD g "_law_trees" 1 1 eg) ?_ λ_=>bN (a:=iD g "_law_spots" 1 1 gF) ?_ λ_=>bN (a:=iD g "_law_reach" 1 1 eu) ?_ λ_=>bN (a:=iD g "_law_gone_to" 1 2 gX) ?_ λ_=>bN (a:=iD g "all_within" 2 2 eB) ?_ λ_=>bN (a:=iD g "later_brothers" 2 2 cZ) ?_ λ_=>bN (a:=iD g "_law_cells" 2 2 dF) ?_ λ_=>bN (a:=iD g "_law_names" 2 1 gI) ?_ λ_=>bN (a:=iD g "_law_rows" 2 3 iE) ?_ λ_=>bN (a:=iD g "_law_step" 2 3 cU) ?_ λ_=>bN (a:=iD g "_law_most" 2 2 iH) ?_ λ_=>bN (a:=IK g "truths_of" 2 2 bZ) ?_ λ_=>bN (a:=iD g "folded" 3 3 mH) ?_ λ_=>bN (a:=iD g "placed_trees" 3 1 cH) ?_ λ_=>bN (a:=iD g "all_places" 4 1 aZ) ?_ λ_=>bN (a:=iD g "kinds_in" 4 1 f7) ?_ λ_=>bN (a:=iD g "truths_of" 4 3 gp) ?_ λ_=>bN (a:=iD g "gone_to" 5 3 eN) ?_ λ_=>bN (a:=iD g "reached_in" 6 1 dG) ?_ λ_=>bN (a:=iD g "finds" 7 2 iI) ?_ λ_=>bN (a:=iD g "finds" 7 2 gM) ?_ λ_=>?_
 all_goals
  first
   | (with_reducible show IK _ "truths_of" _ _ _);refine IT (x:="truths_of") (N:=oG) (c:=kh) (by assumption) T.B rfl ⟨rfl,rfl,rfl,by symm,rfl,by symm,by symm,by symm,by symm⟩ rfl rfl (by intro _ _ _ _ _;exact EL λ_ _=>rfl) rfl λX EE hV hS=>?_
   | (with_reducible show iD _ "truths_of" _ _ _);refine IU (x:="truths_of") (c:=kh) (js:=[1,0]) (cs:=λL=>[L+1+1,L+1]) (by assumption) T.B xN rfl ⟨rfl,rfl,rfl,by symm,rfl,by symm,by symm⟩ rfl rfl (by intro _ _ _ _ _ _;exact EM λ_ _ _=>rfl) (λ_ _ _=>rfl) (λL=>by simp) (λL=>rfl) rfl (by symm) λX EE hV hS hL=>?_
   | (with_reducible show kT _ _ _ _ _ _ _ _ _ _ _);refine ER (N:=Kg) (y:="_law_script") F T.B ⟨rfl,rfl,rfl,by symm,rfl,by symm,by symm⟩ (by symm) rfl λX EE hV hS=>?_
   | (with_reducible show iD _ "_law_reach" _ _ _);refine o6 (by assumption) T.B ⟨rfl,rfl,rfl,by symm,rfl,by symm,by symm⟩ rfl rfl (by intro _ _ _ _ _ _;first | exact EK λ_=>rfl | exact EL λ_ _=>rfl | exact EM λ_ _ _=>rfl | exact IS λ_ _ _ _=>rfl) λX EE hV hS=>?_
   | refine iD.pure (o6 (by assumption) T.B ⟨rfl,rfl,rfl,by symm,rfl,by symm,by symm⟩ rfl rfl (by intro _ _ _ _ _ _;first | exact EK λ_=>rfl | exact EL λ_ _=>rfl | exact EM λ_ _ _=>rfl | exact IS λ_ _ _ _=>rfl) λX EE hV hS=>?_)
   | refine iD.fresh (o6 (by assumption) T.B ⟨rfl,rfl,rfl,by symm,rfl,by symm,by symm⟩ rfl rfl (by intro _ _ _ _ _ _;first | exact EK λ_=>rfl | exact EL λ_ _=>rfl | exact EM λ_ _ _=>rfl | exact IS λ_ _ _ _=>rfl) λX EE hV hS=>?_)
   | refine o6 (by assumption) T.B ⟨rfl,rfl,rfl,by symm,rfl,by symm,by symm⟩ rfl rfl (by intro _ _ _ _ _ _;first | exact EK λ_=>rfl | exact EL λ_ _=>rfl | exact EM λ_ _ _=>rfl | exact IS λ_ _ _ _=>rfl) λX EE hV hS=>?_
  delta gE nt gS gT jA nu gU gW dS jB gk gm jC eZ jD bT jE iM iN bA ff dI fP dH gG dJ eE jF gH fh iO fj fk fm ki eF fQ iF eG iG cP qR nA gK gY jG lF gn jc jH dM iP gc o7 jd xK je qT qU qW nB vD zv zw qV zx
  repeat' first
    | with_reducible first
      | refine IL hV ?_
      | refine Sm ?_ ?_ ?_
      | exact LQ
      | exact LI
      | exact LJ
      | refine DP ?_ ?_ ?_
      | refine Ic ?_ ?_
      | refine MH ?_
      | refine Pu ?_
      | (show QE _ _ _ (aq _ _ _));refine xw hV (by assumption) ?_ ?_
      | (show QE _ _ (.ListComp _ _ _ _) _);first | refine xx hV hS NW ?_ ?_ ?_ ?_ | refine xx hV hS NX ?_ ?_ ?_ ?_ | refine tK hV hS NW ?_ ?_ ?_ ?_ | refine tK hV hS NX ?_ ?_ ?_ ?_ | refine qK hV hS NW ?_ ?_ ?_ ?_ | refine qK hV hS NX ?_ ?_ ?_ ?_ | refine qL hV hS NW ?_ ?_ ?_ ?_ | refine qL hV hS NX ?_ ?_ ?_ ?_
      | (show QS _ _ (.Assign _ (.ListComp _ _ _ _) _) _);first | refine xy hV hS NW ?_ (by decide+kernel) ?_ ?_ | refine xy hV hS NX ?_ (by decide+kernel) ?_ ?_ | refine tL hV hS NW ?_ (by decide+kernel) ?_ ?_ | refine tL hV hS NX ?_ (by decide+kernel) ?_ ?_
      | (show QE _ _ _ (eC (.fn _)));refine M7 hV (xA.has (by assumption)) ?_
      | (show QE _ _ _ (lD _ _ _ _));refine BW hV (by assumption) ?_ ?_
      | (show QS _ _ _ (eY _ _ _));first | refine Ij hV.hu ?_ ?_ ?_ (by decide+kernel) | refine wW hV.hu ?_ ?_ ?_ (by with_unfolding_all exact rfl)
      | (show QS _ _ _ (qD _ _ _));refine En hV.hu ?_ ?_ ?_ ?_
      | (show IA _ _ _ _ (aq _ _ _));refine BY hV hL (by assumption) ?_ ?_
      | refine Mt ?_ ?_ ?_ ?_
      | exact Di hV.hu
      | exact L5
      | exact L6
      | exact L7
      | exact LV hV.hu
      | exact LY hV.hu
      | refine LR ?_
      | refine LS ?_
      | refine LO ?_ ?_
      | refine LM ?_ ?_
      | refine LN ?_ ?_
      | refine G4 ?_ ?_
      | refine LP ?_ ?_
      | refine IF ?_ ?_
      | refine M0 ?_ ?_
      | refine M3 ?_ ?_
      | refine M4 ?_ ?_
      | refine Mb ?_
      | refine Dk ?_ ?_ ?_
      | refine G8 ?_
      | exact G7
      | refine Mv (hV.bl _ ?_) (hV.gl _ ?_) ?_ ?_
      | refine MC (hV.bl _ ?_) (hV.gl _ ?_) ?_ ?_
      | refine MD hV.hc (hV.bl _ ?_) (hV.gl _ ?_) ?_ ?_
      | refine zg hV.hc (hV.bl _ ?_) (hV.gl _ ?_) ?_ ?_
      | (show QE _ _ _ (mC _));refine IG ?_ (by decide+kernel) (by decide+kernel) (List.cons_ne_nil _ _) (by decide+kernel)
      | refine HJ hV.hc (hV.bl _ ?_) (hV.gl _ ?_) ?_ ?_
      | refine DT (hV.bl _ ?_) (hV.gl _ ?_) ?_ ?_
      | refine yT hV.hc (hV.bl _ ?_) (hV.gl _ ?_) (hV.bl _ ?_) (hV.gl _ ?_) ?_ ?_
      | refine wZ hV.hc (hV.bl _ ?_) (hV.gl _ ?_) (hV.bl _ ?_) (hV.gl _ ?_) ?_ ?_
      | refine Mw _ ?_ (hV.bl _ ?_) (hV.bl _ ?_) (hV.gl _ ?_) (hV.gl _ ?_) ?_ ?_ ?_ ?_ ?_
      | refine Bx ?_ ?_ ?_ ?_ ?_
      | refine Ig ?_ ?_ ?_ ?_ ?_
      | refine Mx ?_ ?_ ?_
      | refine M5 hV.hu ?_ ?_ ?_
      | refine Ip hV.hu ?_ ?_ ?_
      | refine Ef hV.hu ?_ ?_ ?_ ?_ ?_ ?_
      | exact Ii
      | exact El
      | exact ON
      | refine BV hV ?_ ?_ ?_
      | refine OQ hV.hu ?_ ?_
      | refine Ma ?_ ?_
      | refine L8 ?_
      | refine S4 λX EE hV=>?_
      | refine S5 λX EE hV=>⟨?_,?_⟩
      | refine Eh (hV.bl _ ?_) (hV.gl _ ?_) ?_ ?_
      | refine ML (hV.bl _ ?_) (hV.gl _ ?_) ?_ ?_
      | refine Ih (hV.bl _ ?_) (hV.gl _ ?_) ?_ ?_
      | refine Iu ?_
      | refine M6 ?_
      | refine Mu ?_ ?_
      | refine L1 ?_
      | refine L0 ?_ ?_
      | refine Hg ?_
      | refine OS ?_ ?_
      | refine LZ ?_
      | refine R5 ?_
      | refine Mc ?_
      | exact Ds
      | refine OU ?_ ?_ ?_
      | refine HN ?_ ?_
      | refine Py ?_
      | refine IM hV hS ?_ ?_
      | refine Mz hS.po hV.hc ?_ ?_ ?_ ?_
      | refine DQ hS.po hV.hc (hV.bl _ ?_) (hV.gl _ ?_) ?_ ?_ ?_ ?_
      | refine DR hS.po hV.hc (hV.bl _ ?_) (hV.gl _ ?_) ?_ ?_ ?_ ?_ ?_
      | refine HV hS.po hV.hc ?_ ?_ ?_ ?_
      | refine EH hV hS ?_
      | refine EI hV hS ?_
      | refine DY hS.po ?_ ?_
      | refine IC ?_ ?_
      | refine Ey ?_ ?_ ?_
      | exact trivial
    | (with_reducible show @Eq Bool _ true);kernel_rfl
    | decide+kernel
    | (with_reducible show JW _ _ _ _ _);first | with_reducible refine P1 ?_ ?_ ?_ | exact GS
    | (with_reducible show C2 _);exact λ_ _=>rfl
    | (with_reducible show rY _ _ _ _);first | with_reducible exact EJ | ((with_reducible show rY _ _ _ (aG _ _));refine Dr ?_ ?_) | refine Hj ?_ | exact Hi
    | (with_reducible show BU _ _ _ _);first | exact trivial | refine ⟨⟨_,by assumption,by decide⟩,?_⟩
    | (with_reducible show Et _ _ _ _);refine ET hL ?_
    | (with_reducible show IA _ _ _ _ _);exact ES hL rfl rfl rfl rfl rfl
    | refine xw hV (by assumption) ?_ ?_
end K33
section
open PySem PySem.Spec L2 L3
local macro_rules
 | `(tactic| simp! [$a,*])=>`(tactic| simp [kR,bg,aD,cK,jr,cC,aE,bx,dB,aU,uB,oB,JZ,Ty.is,$a,*])
local macro_rules
 | `(tactic| dsimp! [$a,*])=>`(tactic| simp [kR,bg,aD,cK,jr,cC,SJ,bx,dB,aU,uB,oB,JZ,Ty.is,$a,*])
namespace K33
open PySem PySem.Spec L2 L3
theorem xO (c k:Int) (n4:Option D):∀ (its:List D) (dg:Int) (j:Option D),0≤dg→∃ (Rf:Int) (j':Option D),0≤Rf∧∀ G,bI (gN 3) gk its [some (.int c),some (.int k),some (.int dg),j,n4] G=.nx [some (.int c),some (.int k),some (.int Rf),j',n4] G
 | [],dg,j,h=>⟨dg,j,h,λG=>by rw [cG]⟩
 | x::its,dg,j,h=>by
  obtain ⟨Rf,j',h',e⟩:=xO c k n4 its (dg / 840) (some x) (by nofun)
  refine ⟨Rf,j',h',λG=>?_⟩
  rw [aO rfl]
  have e1:gk [some (.int c),some (.int k),some (.int dg),some x,n4] G=.nx [some (.int c),some (.int k),some (.int (dg / 840)),some x,n4] G:=by
   simp! [gk]
  simp only [Zc,Za,e1,cM]
  exact e G
theorem zy (c k:Int) (hk:0≤k∧k<10000):∃ v:Int,0≤v∧∀ G,aC [.int c,.int k] G=.ok (.int v) G:=by
 obtain ⟨k0,k1⟩:=hk
 have hr:=jw (j:=k % 46) (by nofun) (by nofun)
 have key:∃ dg:Int,∃ j,0≤dg∧∀ G,(jZ (g8 (ao QZ (af 0) (ao GZ (eC (.int 10)) (eC (.int 9))))) (gm) (cg)) [some (.int c),some (.int k),some (.int 0),none,none] G=.nx [some (.int c),some (.int k),some (.int dg),j,none] G:=by
  by_cases hc:(1000000000:Int)≤c
  ·obtain ⟨dg,j,h,e⟩:=xO c k none ((Y8 0 (k % 46).toNat).map λ(k:Nat)=>.int (0+(k:Int))) c none (by nofun)
   refine ⟨dg,j,h,λG=>?_⟩
   generalize ((Y8 0 (k % 46).toNat).map λ(k:Nat)=>D.int (0+(k:Int)))=its at hr e
   simp! [hc,gm,hr,e]
  ·refine ⟨0,none,by nofun,λG=>?_⟩
   simp! [hc]
 obtain ⟨dg,j,hd,e⟩:=key
 generalize hS:jZ (g8 (ao QZ (af 0) (ao GZ (eC (.int 10)) (eC (.int 9))))) (gm) (cg)=S at e
 by_cases h0:0<dg
 ·refine ⟨dg % 840,by nofun,λG=>?_⟩
  refine bz ?_ aV
  unfold jB
  rw [hS]
  simp! [e,h0]
 ·have p0:0≤c % 1000000007:=by nofun
  have p1:c % 1000000007<1000000007:=by nofun
  generalize hy:c % 1000000007=y at p0 p1
  have a1:-18446744073709551616<y+7919*k+13:=by nofun
  have a2:y+7919*k+13<18446744073709551616:=by nofun
  generalize hz:y+7919*k+13=z at a1 a2
  have b1:0≤z*z % 998244353:=by nofun
  have b2:z*z % 998244353<998244353:=by nofun
  have b3:-18446744073709551616<z*z % 998244353:=by nofun
  have b4:z*z % 998244353<18446744073709551616:=by nofun
  generalize hu:z*z % 998244353=u at b1 b2 b3 b4
  refine ⟨u*(u+16807*k+1) % 1000000007 / 3,by nofun,λG=>?_⟩
  refine bz ?_ aV
  unfold jB
  rw [hS]
  have h0':dg≤0:=by nofun
  simp! [e,h0,h0',hy,hz,hu,a1,a2,b3,b4]
noncomputable def mx (c k:Int):Int:=if h:0≤k∧k<10000 then adM (zy c k h) else 0
theorem jQ (c k:Int):0≤mx c k:=by
 unfold mx
 split
 ·rename_i h;exact (abu (zy c k h)).1
 ·nofun
theorem dO (c k:Int) (h0:0≤k) (h1:k<10000) (G:DH):aC [.int c,.int k] G=.ok (.int (mx c k)) G:=by
 have h:0≤k∧k<10000:=⟨h0,h1⟩
 unfold mx
 rw [dif_pos h]
 exact (abu (zy c k h)).2 G
theorem Th (n:Nat):HT.eW n n (some 1)=min 1 n:=HT.oK n n 1
theorem lG:∀ ns:List Int,intsOf (ns.map .int)=some ns
 | []=>rfl
 | n::ns=>by rw [Yv,intsOf,lG ns];rfl
theorem xP (ns:List Int) (τ:DS) (G:DH):∃ c:Int,ak lB (aa (eFn (jo (af 0) (cL) (bh (eC (.int 1))))) (ai)) (some (.con (ns.map .int))::τ) G=.ok (.int c) G:=by
 have z1:(1:Nat)≤Yx:=lz (by nofun)
 have e:cutD (ns.map D.int) none (some 1)=(ns.take 1).map .int:=by
  unfold cutD
  rw [Th,HT.jV]
  cases ns<;>simp
 have hc:aH ((ns.take 1).map D.int)=true:=ay λ_=>aV
 have hz:((ns.take 1).map D.int).length≤Yx:=Zw (by simp;nofun) z1
 have e1:eFn (jo (af 0) (cL) (bh (eC (.int 1)))) (some (.con (ns.map .int))::τ) G=.ok (.con ((ns.take 1).map .int)) G:=by
  rw [bP]
  have e2:jo (af 0) (cL) (bh (eC (.int 1))) (some (.con (ns.map .int))::τ) G=aS ((ns.take 1).map .int) G:=by
   simp! [yo,e]
  rw [e2,cT hz hc]
 refine ⟨(ns.take 1).sum,?_⟩
 simp! [e1,lB,lG,← ac6]
theorem IZ (ns:List Int) (G:DH):∃ m:Int,1≤m∧m≤60∧iH [.con (ns.map .int),.int 36] G=.ok (.int m) G:=by
 obtain ⟨c,e⟩:=xP ns [some (.int 36),none] G
 generalize hS:ak lB (aa (eFn (jo (af 0) (cL) (bh (eC (.int 1))))) (ai))=S at e
 have hm:=dO c 44 (by nofun) (by nofun) G
 have hn:=jQ c 44
 generalize mx c 44=v at hm hn
 by_cases h:v % 4=1
 ·refine ⟨1+v / 4 % 6,by nofun,by nofun,bz ?_ aV⟩
  unfold iG
  rw [hS]
  simp! [e,hm,cW,h]
 ·refine ⟨36,by nofun,by nofun,bz ?_ aV⟩
  unfold iG
  rw [hS]
  have h':(v % 4==1)=false:=by simpa using h
  simp! [e,hm,cW,h']
noncomputable def N1 (ns:List Int):D→D
 | .int j=>.int (ns.getD j.toNat 0)
 | _=>.dP
noncomputable def Qa (n s:Int):D→D
 | .int j=>.int (mx n (40+s+j))
 | _=>.dP
theorem Az (ns:List Int) (j:Nat) (h:j<ns.length):kB (ns.map D.int) (j:Int)=some (.int (ns.getD j 0)):=by
 refine dQ ?_
 rw [YK,YD h]
 simp [h]
theorem xQ (ns:List Int) (hl:ns.length≤63) (s:Nat) (hs:s≤1) (G:DH):∃ xs:List Int,6≤xs.length∧xs.length≤40∧dF [.con (ns.map .int),.int s] G=.ok (.con (xs.map .int)) G:=by
 have hN:ic (s:Int) (ns.length:Int) 2≤32:=by
  unfold ic
  split<;>nofun
 have hI:∀ i:Nat,i<ic (s:Int) (ns.length:Int) 2→s+i*2<ns.length:=by
  intro i hi
  unfold ic at hi
  split at hi<;>nofun
 have h64:¬ ((64:Int)<(ns.length:Int)):=by nofun
 have Ti:(ns.length:Int)≤64:=by nofun
 generalize WY:ic (s:Int) (ns.length:Int) 2=N at hN hI
 have q1:-1073741824≤(s:Int):=by nofun
 have q2:(s:Int)<1073741824:=by nofun
 have q3:-1073741824≤(ns.length:Int):=by nofun
 have q4:(ns.length:Int)<1073741824:=by nofun
 have c1:=bH (τ:=[some (D.con (ns.map D.int)),some (.int (s:Int)),none]) (G:=G) (gO:=oN) (ks:=[true]) (te:=ao bg (af 1) (af 0)) (own:=λx=>[x]) (f:=N1 ns) ((Y9 N).map λ(i:Nat)=>D.int ((s:Int)+(i:Int)*2)) [] (by simp;nofun) (λx _=>rfl) (λx hx acc=>by
  obtain ⟨i,hi,rfl⟩:=YX.mp hx
  have hi':=hI i (acP.mp hi)
  have ea:=Az ns (s+i*2) hi'
  rw [show ((s+i*2:Nat):Int)=(s:Int)+(i:Int)*2 by nofun] at ea
  have et:((s:Int)+(i:Int)*2).toNat=s+i*2:=by nofun
  simp! [mask,ea,N1,et])
 have e1:eFn (dY oN [true] (nY (aa (af 1) (aa (ak (jr λi j=>if j<i then j else i) (aa (ak cC (aa (af 0) (ai))) (aa (eC (.int 64)) (ai)))) (aa (eC (.int 2)) (ai))))) (bV) (ao bg (af 1) (af 0))) [some (D.con (ns.map D.int)),some (.int (s:Int)),none] G=.ok (.con (((Y9 N).map λ(i:Nat)=>D.int ((s:Int)+(i:Int)*2)).map (N1 ns))) G:=by
  rw [bP]
  have e2:dY oN [true] (nY (aa (af 1) (aa (ak (jr λi j=>if j<i then j else i) (aa (ak cC (aa (af 0) (ai))) (aa (eC (.int 64)) (ai)))) (aa (eC (.int 2)) (ai))))) (bV) (ao bg (af 1) (af 0)) [some (D.con (ns.map D.int)),some (.int (s:Int)),none] G=.ok (.obj G.length) (G++[.lst (((Y9 N).map λ(i:Nat)=>D.int ((s:Int)+(i:Int)*2)).map (N1 ns))]):=by
   simp only [YT] at c1
   rw [← c1,← Ek]
   simp! [ints3,h64,Ti,q1,q2,q3,q4,WY]
  rw [e2,dZ]
  rw [YW]
  exact ay λ_=>aV
 have WZ:((Y9 N).map λ(i:Nat)=>D.int ((s:Int)+(i:Int)*2)).map (N1 ns)=((Y9 N).map λi=>ns.getD (s+i*2) 0).map .int:=by
  rw [YW,YW]
  refine Zt λi _=>?_
  have et:((s:Int)+(i:Int)*2).toNat=s+i*2:=by nofun
  simp only [abE,N1,et]
 rw [WZ] at e1
 generalize hX:(Y9 N).map (λi=>ns.getD (s+i*2) 0)=X at e1
 have Yn:X.length=N:=by rw [← hX];simp
 have hr:eT [.int (6 - (X.length:Int))]=some ((Y9 (6 - (X.length:Int)).toNat).map λ(k:Nat)=>.int (0+(k:Int))):=by
  show (if -(2^62)≤(6 - (X.length:Int))∧(6 - (X.length:Int))<2^62 then some ((Y9 (6 - (X.length:Int)).toNat).map λ(k:Nat)=>D.int (0+(k:Int))) else none)=_
  rw [if_pos ⟨by nofun,by nofun⟩]
 have c2:=bH (τ:=[some (D.con (ns.map D.int)),some (.int (s:Int)),some (.con (X.map .int))]) (G:=G) (gO:=oN) (ks:=[true,true]) (te:=aq 2 aC (aa (ak cC (aa (af 1) (ai))) (aa (ao aE (ao aE (eC (.int 40)) (af 2)) (af 0)) (ai)))) (own:=λx=>[x]) (f:=Qa ns.length s) ((Y9 (6 - (X.length:Int)).toNat).map λ(k:Nat)=>D.int (0+(k:Int))) [] (by simp;nofun) (λx _=>rfl) (λx hx acc=>by
  obtain ⟨i,hi,rfl⟩:=YX.mp hx
  have hi':=acP.mp hi
  have hm:=dO ns.length (40+s+(0+(i:Int))) (by nofun) (by nofun) (G++[.lst acc])
  simp only [acC] at hm
  simp! [mask,Qa,hm])
 generalize hL:(Y9 (6 - (X.length:Int)).toNat).map (λ(k:Nat)=>D.int (0+(k:Int)))=L at hr c2
 have e3:eFn (cF eT oN [true,true] (aa (ao oA (eC (.int 6)) (ak cC (aa (af 2) (ai)))) (ai)) (bV) (aq 2 aC (aa (ak cC (aa (af 1) (ai))) (aa (ao aE (ao aE (eC (.int 40)) (af 2)) (af 0)) (ai))))) [some (D.con (ns.map D.int)),some (.int (s:Int)),some (.con (X.map .int))] G=.ok (.con (L.map (Qa ns.length s))) G:=by
  rw [bP]
  have e4:cF eT oN [true,true] (aa (ao oA (eC (.int 6)) (ak cC (aa (af 2) (ai)))) (ai)) (bV) (aq 2 aC (aa (ak cC (aa (af 1) (ai))) (aa (ao aE (ao aE (eC (.int 40)) (af 2)) (af 0)) (ai)))) [some (D.con (ns.map D.int)),some (.int (s:Int)),some (.con (X.map .int))] G=.ok (.obj G.length) (G++[.lst (L.map (Qa ns.length s))]):=by
   simp only [YT] at c2
   rw [← c2]
   simp! [hr]
  rw [e4,dZ]
  rw [← hL,YW]
  exact ay λ_=>aV
 have W0:L.map (Qa ns.length s)=((Y9 (6 - (X.length:Int)).toNat).map λ(k:Nat)=>mx ns.length (40+s+(0+(k:Int)))).map .int:=by
  rw [← hL,YW,YW];rfl
 rw [W0] at e3
 generalize hY:(Y9 (6 - (X.length:Int)).toNat).map (λ(k:Nat)=>mx ns.length (40+s+(0+(k:Int))))=Y at e3
 have Yo:Y.length=(6 - (X.length:Int)).toNat:=by rw [← hY];simp
 refine ⟨X++Y,by simp;nofun,by simp;nofun,bz ?_ (by rw [aL];exact ay λ_=>aV)⟩
 have hz:(X.map D.int++Y.map D.int).length≤Yx:=lz (by simp;nofun)
 have hcl:aH (X.map D.int++Y.map D.int)=true:=by rw [← YS];exact ay λ_=>aV
 have e5:eFn (ao aE (af 2) (eFn (cF eT oN [true,true] (aa (ao oA (eC (.int 6)) (ak cC (aa (af 2) (ai)))) (ai)) (bV) (aq 2 aC (aa (ak cC (aa (af 1) (ai))) (aa (ao aE (ao aE (eC (.int 40)) (af 2)) (af 0)) (ai))))))) [some (D.con (ns.map D.int)),some (.int (s:Int)),some (.con (X.map .int))] G=.ok (.con (X.map D.int++Y.map D.int)) G:=by
  rw [bP,aX]
  have e6:af 2 [some (D.con (ns.map D.int)),some (.int (s:Int)),some (.con (X.map .int))] G=.ok (.con (X.map .int)) G:=rfl
  rw [e6,aj,ah,e3,aj]
  show (aS _ G).fw G=_
  rw [cT hz hcl]
 unfold jF
 rw [YS]
 simp! [e1,e5]
theorem E6 (x:Str) (l u:Option Int) (h:YC x=true):YC (aba x l u)=true:=by
 unfold aba
 split
 ·exact h
 ·unfold YC at h ⊢
  simp only [List.all_toArray,aaY,abW] at h ⊢
  rintro c ⟨i,_,hi⟩
  have h2:=Array.all_eq_true'.mp h c (Array.mem_of_getElem? hi)
  exact h2
noncomputable abbrev lets:Str:="abcdefghijklmnopqrstuvwxyz"
theorem AA (i:Int) (G:DH):∃ s,bg (.str lets) (.int (i % 26)) G=.ok (.str s) G∧YC s=true∧s.length=1:=
 MF lets (i % 26) G (by nofun) (by show i % 26<((26:Nat):Int);nofun) (by symm) (by symm)
theorem tM (c:Int) (G:DH) (a1 a4 a5 a6 a7:Option D):∀ (m j:Nat) (t:Str) (a3:Option D),j+m≤100→YC t=true→t.length≤j+1 →
  ∃ (u:Str) (b3:Option D),YC u=true∧u.length≤j+m+1∧bI (gN 3) fh ((Y8 j m).map λ(k:Nat)=>.int (0+(k:Int))) [some (.int c),a1,some (.str t),a3,a4,a5,a6,a7] G=.nx [some (.int c),a1,some (.str u),b3,a4,a5,a6,a7] G
 | 0,j,t,a3,h,k1,k2=>⟨t,a3,k1,by nofun,by simp [bI]⟩
 | m+1,j,t,a3,h,k1,k2=>by
  have hm:=dO c (32+(0+(j:Int))) (by nofun) (by nofun) G
  obtain ⟨s,es,ks,ls⟩:=AA (mx c (32+(0+(j:Int)))) G
  have hz:t.length+s.length≤Yx:=lz (by nofun)
  obtain ⟨u,b3,ku,lu,ih⟩:=tM c G a1 a4 a5 a6 a7 m (j+1) (t++s) (some (.int (0+(j:Int)))) (by nofun) (good_add k1 ks) (by rw [uE];nofun)
  refine ⟨u,b3,ku,by nofun,?_⟩
  rw [Z1,Yv,aO rfl]
  have e:fh [some (.int c),a1,some (.str t),some (.int (0+(j:Int))),a4,a5,a6,a7] G=.nx [some (.int c),a1,some (.str (t++s)),some (.int (0+(j:Int))),a4,a5,a6,a7] G:=by
   generalize (0+(j:Int))=jj at hm es
   unfold fh
   simp only [bG,aX,aQ,cJ,aj,ah,bO,aA,aI,aN,YJ,YF,Yy,YR,if_true,aE,hm,cK,es,if_pos hz,cS,Zc,Za,show (0:Int)<26 from by decide,decide_true]
  simp only [Zc,Za,e,cM]
  rw [ih]
theorem tN (c w p kk:Int) (hk:-100<kk∧kk<100) (G:DH) (a1 a2:Option D):∀ (m j:Nat) (t:Str) (a3:Option D),j+m≤100→YC t=true→t.length≤j+1 →
  ∃ (u:Str) (b3:Option D),YC u=true∧u.length≤j+m+1∧bI (gN 3) fj ((Y8 j m).map λ(k:Nat)=>.int (0+(k:Int))) [some (.int c),a1,a2,a3,some (.int w),some (.int p),some (.int kk),some (.str t)] G=.nx [some (.int c),a1,a2,b3,some (.int w),some (.int p),some (.int kk),some (.str u)] G
 | 0,j,t,a3,h,k1,k2=>⟨t,a3,k1,by nofun,by simp [bI]⟩
 | m+1,j,t,a3,h,k1,k2=>by
  have hm:=dO c (32+(0+(j:Int))) (by nofun) (by nofun) G
  obtain ⟨s,es,ks,ls⟩:=AA (mx c (32+(0+(j:Int)))+kk*(if (0+(j:Int))==p then 1 else 0)) G
  have hz:t.length+s.length≤Yx:=lz (by nofun)
  obtain ⟨u,b3,ku,lu,ih⟩:=tN c w p kk hk G a1 a2 m (j+1) (t++s) (some (.int (0+(j:Int)))) (by nofun) (good_add k1 ks) (by rw [uE];nofun)
  refine ⟨u,b3,ku,by nofun,?_⟩
  rw [Z1,Yv,aO rfl]
  have hk1:(decide (-(2^64)<kk)&&decide (kk<2^64))=true:=by simp;nofun
  have e:fj [some (.int c),a1,a2,some (.int (0+(j:Int))),some (.int w),some (.int p),some (.int kk),some (.str t)] G=.nx [some (.int c),a1,a2,some (.int (0+(j:Int))),some (.int w),some (.int p),some (.int kk),some (.str (t++s))] G:=by
   generalize (0+(j:Int))=jj at hm es
   unfold fj
   simp only [bG,aX,aY,aQ,cJ,aj,ah,bO,aA,aI,aN,YJ,YF,Yy,YR,if_true,aE,hm,cW,sW,Bool.false_xor,cK,hk1,ado,es,if_pos hz,cS,Zc,Za,show (0:Int)<26 from by decide,decide_true]
  simp only [Zc,Za,e,cM]
  rw [ih]
noncomputable def kept:List Str:=["start","rule","row","mix","many","any","kind","not","both","either","way","mark"]
noncomputable abbrev Kl:DS→M D:=eFn (ak aS (aa (eC (.str "start")) (aa (eC (.str "rule")) (aa (eC (.str "row")) (aa (eC (.str "mix")) (aa (eC (.str "many")) (aa (eC (.str "any")) (aa (eC (.str "kind")) (aa (eC (.str "not")) (aa (eC (.str "both")) (aa (eC (.str "either")) (aa (eC (.str "way")) (aa (eC (.str "mark")) (ai))))))))))))))
theorem E7 (τ:DS) (G:DH):Kl τ G=.ok (.con (kept.map .str)) G:=by
 unfold Kl
 rw [bP]
 have W2:(12:Nat)≤Yx:=lz (by nofun)
 have e:ak aS (aa (eC (.str "start")) (aa (eC (.str "rule")) (aa (eC (.str "row")) (aa (eC (.str "mix")) (aa (eC (.str "many")) (aa (eC (.str "any")) (aa (eC (.str "kind")) (aa (eC (.str "not")) (aa (eC (.str "both")) (aa (eC (.str "either")) (aa (eC (.str "way")) (aa (eC (.str "mark")) (ai))))))))))))) τ G=aS (kept.map .str) G:=by
  simp only [aY,aA,aI,cJ,aj,ah,aN];rfl
 rw [e,cT (ds:=kept.map .str) (show (kept.map D.str).length≤Yx from W2) (ay λ_=>bY)]
theorem I8 (c w p kk:Int) (G:DH) (ws:List Str) (hw:ws.length≤100) (a2 a3:Option D) (u:Str) (ku:YC u=true) (lu:u.length≤20):∃ v:Str,YC v=true∧v.length≤21 ∧
  fk [some (.int c),some (.obj G.length),a2,a3,some (.int w),some (.int p),some (.int kk),some (.str u)] (G++[.lst (ws.map .str)]) =
   .nx [some (.int c),some (.obj G.length),a2,a3,some (.int w),some (.int p),some (.int kk),some (.str v)] (G++[.lst ((ws++[v]).map .str)]):=by
 have hin:=wN u kept (G++[.lst (ws.map .str)]) ku (by symm)
 generalize kept.any (·==u)=bb at hin
 have hz:u.length+("z":Str).length≤Yx:=by
  have:("z":Str).length=1:=by symm
  exact lz (by nofun)
 have hz2:ws.length<Yx:=YG (by nofun) (lz (n:=101) (by nofun))
 have hk:=E7
 cases bb with
 | true=>
  refine ⟨u++"z",good_add ku (by symm),(by rw [uE];have:=(show ("z":Str).length=1 by symm);nofun),?_⟩
  unfold fk
  simp! [hk,G6,hin,hz,hz2]
 | false=>
  refine ⟨u,ku,by nofun,?_⟩
  unfold fk
  simp! [hk,G6,hin,hz2]
theorem qX (c w p:Int) (hw:0≤w) (Rg:w≤8) (G:DH) (a2:Option D):∀ (m j:Nat) (ws:List Str) (a3 a6 a7:Option D),j+m≤5→ws.length=j→(∀ s∈ws,YC s=true∧s.length≤21) →
  ∃ (us:List Str) (b3 b6 b7:Option D),us.length=j+m∧(∀ s∈us,YC s=true∧s.length≤21) ∧
   bI (gN 6) fm ((Y8 j m).map λ(k:Nat)=>.int (0+(k:Int))) [some (.int c),some (.obj G.length),a2,a3,some (.int w),some (.int p),a6,a7] (G++[.lst (ws.map .str)])=.nx [some (.int c),some (.obj G.length),a2,b3,some (.int w),some (.int p),b6,b7] (G++[.lst (us.map .str)])
 | 0,j,ws,a3,a6,a7,h,hl,hs=>⟨ws,a3,a6,a7,by nofun,hs,by simp [bI]⟩
 | m+1,j,ws,a3,a6,a7,h,hl,hs=>by
  obtain ⟨u,b3,ku,lu,e1⟩:=tN c w p (0+(j:Int)) (by nofun) (G++[.lst (ws.map .str)]) (some (.obj G.length)) a2 w.toNat 0 ⟨#[]⟩ a3 (by nofun) (by symm) (by show 0≤1;nofun)
  obtain ⟨v,kv,lv,e2⟩:=I8 c w p (0+(j:Int)) G ws (by nofun) a2 b3 u ku (by nofun)
  obtain ⟨us,c3,c6,c7,MU,oO,ih⟩:=qX c w p hw Rg G a2 m (j+1) (ws++[v]) b3 (some (.int (0+(j:Int)))) (some (.str v)) (by nofun) (by simp [hl]) (λs hm=>by
   rcases Zk.mp hm with h | h
   ·exact hs s h
   ·rw [Y7.mp h];exact ⟨kv,lv⟩)
  refine ⟨us,c3,c6,c7,by nofun,oO,?_⟩
  have hr:=jw (j:=w) hw (by nofun)
  generalize ((Y8 0 w.toNat).map λ(k:Nat)=>D.int (0+(k:Int)))=its at hr e1
  rw [Z1,Yv,aO rfl]
  generalize (0+(j:Int))=jj at e1 e2 ih
  have e:fm [some (.int c),some (.obj G.length),a2,a3,some (.int w),some (.int p),some (.int jj),a7] (G++[.lst (ws.map .str)])=.nx [some (.int c),some (.obj G.length),a2,b3,some (.int w),some (.int p),some (.int jj),some (.str v)] (G++[.lst ((ws++[v]).map .str)]):=by
   unfold fm
   have e0:("":Str)=⟨#[]⟩:=rfl
   rw [e0]
   simp only [aT,bG,cJ,cS,bJ,Zc,Za,m5,aA,aI,aQ,aj,ah,aN,YJ,YF,iY,hr,e1,e2]
  simp only [Zc,Za,e,cM]
  exact ih
noncomputable def Qc (t:Str) (v:Int):D→D
 | .int j=>.str (aba t none (some (1+v % 4+j)))
 | _=>.dP
theorem E8 (c:Int) (G:DH):∃ ws:List Str,ws.length=5∧(∀ s∈ws,YC s=true∧s.length≤21)∧gI [.int c] G=.ok (.con (ws.map .str)) G:=by
 have z0:(0:Nat)≤Yx:=Zq _
 have UN:=dO c 40 (by nofun) (by nofun)
 have W3:=dO c 41 (by nofun) (by nofun)
 have W4:=dO c 42 (by nofun) (by nofun)
 have W5:=dO c 43 (by nofun) (by nofun)
 have Yp:=jQ c 41
 have Yq:=jQ c 42
 by_cases h0:mx c 40 % 3=0
 ·obtain ⟨u,b3,ku,lu,e1⟩:=tM c (G++[.lst []]) (some (.obj G.length)) none none none none 7 0 "q" none (by nofun) (by symm) (by symm)
  have hr:=jw (j:=7) (by nofun) (by nofun)
  rw [show (7:Int).toNat=7 from rfl] at hr
  generalize ((Y8 0 7).map λ(k:Nat)=>D.int (0+(k:Int)))=its at hr e1
  have N2:=jw (j:=5) (by nofun) (by nofun)
  rw [show (5:Int).toNat=5 from rfl] at N2
  have hsz:u.length≤Yx:=lz (by nofun)
  generalize hτ:([some (.int c),some (.obj G.length),some (.str u),b3,none,none,none,none]:DS)=τ at e1
  have hc:∀ G1,eFn (cF eT oN [true,false,true] (aa (eC (.int 5)) (ai)) (bV) (eFn (jo (af 3) (cL) (bh (ao aE (ao aE (eC (.int 1)) (ao eS (aq 2 aC (aa (af 1) (aa (eC (.int 43)) (ai)))) (eC (.int 4)))) (af 0)))))) τ G1=.ok (.con (((Y8 0 5).map λ(k:Nat)=>D.int (0+(k:Int))).map (Qc u (mx c 43)))) G1:=λG1=>by
   have c1:=bH (τ:=τ) (G:=G1) (gO:=oN) (ks:=[true,false,true]) (te:=eFn (jo (af 3) (cL) (bh (ao aE (ao aE (eC (.int 1)) (ao eS (aq 2 aC (aa (af 1) (aa (eC (.int 43)) (ai)))) (eC (.int 4)))) (af 0))))) (own:=λx=>[x]) (f:=Qc u (mx c 43)) ((Y8 0 5).map λ(k:Nat)=>D.int (0+(k:Int))) [] (by simp) (λx _=>rfl) (λx hx acc=>by
    obtain ⟨i,hi,rfl⟩:=YX.mp hx
    subst hτ
    generalize (0+(i:Int))=ii
    simp! [bP,mask,W5,yo,Qc,hsz])
   rw [bP]
   have e2:cF eT oN [true,false,true] (aa (eC (.int 5)) (ai)) (bV) (eFn (jo (af 3) (cL) (bh (ao aE (ao aE (eC (.int 1)) (ao eS (aq 2 aC (aa (af 1) (aa (eC (.int 43)) (ai)))) (eC (.int 4)))) (af 0))))) τ G1=.ok (.obj G1.length) (G1++[.lst (((Y8 0 5).map λ(k:Nat)=>D.int (0+(k:Int))).map (Qc u (mx c 43)))]):=by
    simp only [YT] at c1
    rw [← c1]
    simp only [qe,aA,aI,cJ,aj,ah,aN,N2]
   rw [e2,dZ]
   rw [YW]
   exact ay λ_=>bY
  have ex:((Y8 0 5).map λ(k:Nat)=>D.int (0+(k:Int))).map (Qc u (mx c 43))=((Y8 0 5).map λ(k:Nat)=>aba u none (some (1+mx c 43 % 4+(0+(k:Int))))).map .str:=by
   rw [YW,YW];rfl
  rw [ex] at hc
  refine ⟨(Y8 0 5).map λ(k:Nat)=>aba u none (some (1+mx c 43 % 4+(0+(k:Int)))),by simp,λs hs=>?_,?_⟩
  ·obtain ⟨i,_,rfl⟩:=YX.mp hs
   exact ⟨E6 u _ _ ku,Zw (Txt.slice_le u _ _) (by nofun)⟩
  ·refine fB (R:=[.lst []]) ?_ (by rw [aL];exact ay λ_=>bY)
   generalize (((Y8 0 5).map λ(k:Nat)=>aba u none (some (1+mx c 43 % 4+(0+(k:Int))))).map D.str)=ws at hc
   generalize hC:eFn (cF eT oN [true,false,true] (aa (eC (.int 5)) (ai)) (bV) (eFn (jo (af 3) (cL) (bh (ao aE (ao aE (eC (.int 1)) (ao eS (aq 2 aC (aa (af 1) (aa (eC (.int 43)) (ai)))) (eC (.int 4)))) (af 0))))))=C at hc
   subst hτ
   unfold gH iO
   rw [hC]
   have hn:aS [] G=.ok (.obj G.length) (G++[.lst []]):=if_pos z0
   simp! [hn,UN,cW,h0,hr,e1,hc]
 ·have hw1:0≤1+mx c 41 % 8:=by nofun
  have Rg:1+mx c 41 % 8≤8:=by nofun
  have UO:0<1+mx c 41 % 8:=by nofun
  obtain ⟨us,b3,b6,b7,MU,oO,e1⟩:=qX c (1+mx c 41 % 8) (mx c 42 % (1+mx c 41 % 8)) hw1 Rg G none 5 0 [] none none none (by nofun) rfl (λs h=>by simp at h)
  have N2:=jw (j:=5) (by nofun) (by nofun)
  rw [show (5:Int).toNat=5 from rfl] at N2
  generalize ((Y8 0 5).map λ(k:Nat)=>D.int (0+(k:Int)))=its at N2 e1
  generalize W6:1+mx c 41 % 8=w at e1 hw1 Rg UO
  generalize hpp:mx c 42 % w=pp at e1
  refine ⟨us,MU,oO,fB (R:=[.dead]) ?_ (by rw [aL];exact ay λ_=>bY)⟩
  have hn:aS [] G=.ok (.obj G.length) (G++[.lst []]):=if_pos z0
  have h0':(mx c 40 % 3==0)=false:=by simpa using h0
  unfold gH
  simp only [YY] at e1
  simp! [hn,UN,W3,W4,cW,h0',N2,W6,hpp,UO,e1]
noncomputable def row (p:Nat×Str):D:=.tup [.int p.1,.str p.2]
inductive Val:List (Nat×Str)→Nat→Prop
 | one (k:Str):Val [(0,k)] 0
 | snoc {rs:List (Nat×Str)} {e d:Nat} (k:Str):Val rs e→1≤d→d≤e+1→Val (rs++[(d,k)]) d
theorem Val.last {rs:List (Nat×Str)} {e:Nat} (h:Val rs e):∃ a s,rs=a++[(e,s)]:=by
 cases h with
 | one k=>exact ⟨[],k,rfl⟩
 | snoc k h1 h2 h3=>exact ⟨_,k,rfl⟩
theorem qY {α:Type} (xs:List α) (x:α):kB (xs++[x]) (-1)=some x:=by
 have h:GK (xs++[x]).length (-1)=some xs.length:=by
  unfold GK
  simp
  nofun
 unfold kB
 rw [h]
 simp
theorem lH {a b c:MS} {τ:DS} {G:DH}:aG a (aG b c) τ G=(aG a b τ G).sq c:=by
 simp only [aT]
 cases a τ G with
 | nx τ' G'=>simp only [bJ,aT]
 | _=>rfl
theorem B9 (c:Int) (ws:List Str) (hws:ws.length=5) (hok:∀ s∈ws,YC s=true∧s.length≤21) (most:Int) (hm1:most≤60) (G:DH) (a0 a5 a7:Option D) (j:Nat) (hj:j≤100) (rs:List (Nat×Str)) (e:Nat) (hv:Val rs e) (hl:(rs.length:Int)≤60) (hs:∀ p∈rs,YC p.2=true)
  (hi:j=0∨1≤e∨most≤rs.length):∃ (rs':List (Nat×Str)) (e':Nat) (b7:Option D),Val rs' e'∧(rs'.length:Int)≤60∧(∀ p∈rs',YC p.2=true)∧(1≤e'∨most≤rs'.length) ∧
   eF [a0,some (.con (ws.map .str)),some (.int most),some (.obj G.length),some (.int c),a5,some (.int (j:Int)),a7] (G++[.lst (rs.map row)])=.nx [a0,some (.con (ws.map .str)),some (.int most),some (.obj G.length),some (.int c),a5,some (.int (j:Int)),b7] (G++[.lst (rs'.map row)]):=by
 obtain ⟨ini,s0,hrs⟩:=hv.last
 have m4:=dO c 4 (by nofun) (by nofun)
 have m6:=dO c 6 (by nofun) (by nofun)
 have m7:=dO c (7+(j:Int)) (by nofun) (by nofun)
 have n4:=jQ c 4
 have n6:=jQ c 6
 have n7:=jQ c (7+(j:Int))
 have hla:kB (rs.map row) (-1)=some (.tup [.int (e:Int),.str s0]):=by
  rw [hrs,YS,Yv,YY,qY];rfl
 have Tj:(0:Int)<(e:Int)+1:=by nofun
 obtain ⟨nv,en,To⟩:=j4 (xs:=ws.map D.str) (i:=mx c (7+(j:Int)) % 4) (by nofun) (by simp [hws];nofun)
 obtain ⟨nm,Tp,rfl⟩:∃ nm,nm∈ws∧D.str nm=nv:=by
  have:=Zi To
  obtain ⟨a,b,c⟩:=YX.mp this
  exact ⟨a,b,c⟩
 have UP:kB [D.int (e:Int),D.str s0] 0=some (.int (e:Int)):=by
  have:=dQ (xs:=[D.int (e:Int),D.str s0]) (j:=0) (v:=.int (e:Int)) rfl
  simpa using this
 have key:∃ d:Nat,d≤e+1∧((rs.length:Int)<most→1≤d)∧(aG (aJ 7 (ao aE (eC (.int 1)) (ao eS (aq 2 aC (aa (af 4) (aa (eC (.int 4)) (ai)))) (ao aE (ao bg (ao bg (af 3) (lq (eC (.int 1)))) (eC (.int 0))) (eC (.int 1)))))) (jZ (g8 (ao Bg (af 6) (eC (.int 0)))) (aJ 7 (ao aE (ao bg (ao bg (af 3) (lq (eC (.int 1)))) (eC (.int 0))) (ao eS (aq 2 aC (aa (af 4) (aa (eC (.int 6)) (ai)))) (eC (.int 2))))) (cg)))
   [a0,some (.con (ws.map .str)),some (.int most),some (.obj G.length),some (.int c),a5,some (.int (j:Int)),a7] (G++[.lst (rs.map row)])=.nx [a0,some (.con (ws.map .str)),some (.int most),some (.obj G.length),some (.int c),a5,some (.int (j:Int)),some (.int (d:Int))] (G++[.lst (rs.map row)]):=by
  have q1:0≤mx c 4 % ((e:Int)+1):=Int.emod_nonneg _ (by nofun)
  have q2:mx c 4 % ((e:Int)+1)<(e:Int)+1:=Int.emod_lt_of_pos _ Tj
  by_cases hj0:j=0
  ·refine ⟨(1+mx c 4 % ((e:Int)+1)).toNat,by nofun,by nofun,?_⟩
   have et:(((1+mx c 4 % ((e:Int)+1)).toNat:Nat):Int)=1+mx c 4 % ((e:Int)+1):=by nofun
   rw [et]
   subst hj0
   simp! [m4,hla,UP,Tj]
  ·refine ⟨(e+mx c 6 % 2).toNat,by nofun,by nofun,?_⟩
   have et:(((e+mx c 6 % 2).toNat:Nat):Int)=e+mx c 6 % 2:=by nofun
   rw [et]
   have hj1:0<j:=by nofun
   have hj2:(0:Int)<(j:Int):=by nofun
   simp! [m4,m6,hla,UP,Tj,hj1,hj2]
 obtain ⟨d,hd1,hd2,ek⟩:=key
 have h2:(2:Nat)≤Yx:=lz (by nofun)
 have hz:rs.length<Yx:=YG (by nofun) (lz (n:=101) (by nofun))
 by_cases hc:(rs.length:Int)<most
 ·refine ⟨rs++[(d,nm)],d,some (.int (d:Int)),.snoc nm hv (hd2 hc) hd1,by simp;nofun,λp hp=>?_,.inl (hd2 hc),?_⟩
  ·rcases Zk.mp hp with h | h
   ·exact hs p h
   ·rw [Y7.mp h];exact (hok nm Tp).1
  ·unfold eF
   rw [lH,ek,bJ]
   simp! [hc,m7,en,h2,hz,row]
 ·refine ⟨rs,e,some (.int (d:Int)),hv,hl,hs,.inr (by nofun),?_⟩
  unfold eF
  rw [lH,ek,bJ]
  simp! [hc]
theorem qZ (c:Int) (ws:List Str) (hws:ws.length=5) (hok:∀ s∈ws,YC s=true∧s.length≤21) (most:Int) (hm1:most≤60) (G:DH) (a0 a5:Option D):∀ (m j:Nat) (rs:List (Nat×Str)) (e:Nat) (a6 a7:Option D),j+m≤100→Val rs e→(rs.length:Int)≤60→(∀ p∈rs,YC p.2=true)→(j=0∨1≤e∨most≤rs.length) →
  ∃ (rs':List (Nat×Str)) (e':Nat) (b6 b7:Option D),Val rs' e'∧(rs'.length:Int)≤60∧(∀ p∈rs',YC p.2=true) ∧
   bI (gN 6) eF ((Y8 j m).map λ(k:Nat)=>.int (0+(k:Int))) [a0,some (.con (ws.map .str)),some (.int most),some (.obj G.length),some (.int c),a5,a6,a7] (G++[.lst (rs.map row)])=.nx [a0,some (.con (ws.map .str)),some (.int most),some (.obj G.length),some (.int c),a5,b6,b7] (G++[.lst (rs'.map row)])
 | 0,j,rs,e,a6,a7,h,hv,hl,hs,hi=>⟨rs,e,a6,a7,hv,hl,hs,by simp [bI]⟩
 | m+1,j,rs,e,a6,a7,h,hv,hl,hs,hi=>by
  obtain ⟨Rh,e1,b7,hv1,hl1,hs1,hi1,r1⟩:=B9 c ws hws hok most hm1 G a0 a5 a7 j (by nofun) rs e hv hl hs hi
  obtain ⟨NS,e2,c6,c7,hv2,hl2,hs2,r2⟩:=qZ c ws hws hok most hm1 G a0 a5 m (j+1) Rh e1 (some (.int (j:Int))) b7 (by nofun) hv1 hl1 hs1 (.inr hi1)
  refine ⟨NS,e2,c6,c7,hv2,hl2,hs2,?_⟩
  rw [Z1,Yv,aO rfl]
  simp only [Zc,Za,acC,r1,cM]
  simp only [acC] at r2
  exact r2
theorem rj (ws:List Str) (hws:ws.length=5) (hok:∀ s∈ws,YC s=true∧s.length≤21) (most:Int) (hm1:most≤60) (G:DH) (a0:Option D):∀ (cs:List Int) (rs:List (Nat×Str)) (e:Nat) (a4 a5 a6 a7:Option D),Val rs e→(rs.length:Int)≤60→(∀ p∈rs,YC p.2=true) →
  ∃ (rs':List (Nat×Str)) (e':Nat) (b4 b5 b6 b7:Option D),Val rs' e'∧(rs'.length:Int)≤60∧(∀ p∈rs',YC p.2=true) ∧
   bI (gN 4) fQ (cs.map .int) [a0,some (.con (ws.map .str)),some (.int most),some (.obj G.length),a4,a5,a6,a7] (G++[.lst (rs.map row)])=.nx [a0,some (.con (ws.map .str)),some (.int most),some (.obj G.length),b4,b5,b6,b7] (G++[.lst (rs'.map row)])
 | [],rs,e,a4,a5,a6,a7,hv,hl,hs=>⟨rs,e,a4,a5,a6,a7,hv,hl,hs,by simp [bI]⟩
 | c::cs,rs,e,a4,a5,a6,a7,hv,hl,hs=>by
  have m2:=dO c 2 (by nofun) (by nofun)
  have m3:=dO c 3 (by nofun) (by nofun)
  have n3:=jQ c 3
  have key:∃ mn:Int,0≤mn∧mn≤24∧∀ G1,(aG (aJ 5 (eC (.int 1))) (jZ (g8 (ao (fT false) (ao eS (aq 2 aC (aa (af 4) (aa (eC (.int 2)) (ai)))) (eC (.int 12))) (eC (.int 5)))) (aJ 5 (ao aE (eC (.int 1)) (ao eS (aq 2 aC (aa (af 4) (aa (eC (.int 3)) (ai)))) (eC (.int 24))))) (cg)))
    [a0,some (.con (ws.map .str)),some (.int most),some (.obj G.length),some (.int c),a5,a6,a7] G1=.nx [a0,some (.con (ws.map .str)),some (.int most),some (.obj G.length),some (.int c),some (.int mn),a6,a7] G1:=by
   by_cases h5:mx c 2 % 12=5
   ·refine ⟨1+mx c 3 % 24,by nofun,by nofun,λG1=>?_⟩
    simp! [m2,m3,cW,h5]
   ·have W7:(mx c 2 % 12==5)=false:=by simpa using h5
    refine ⟨1,by nofun,by nofun,λG1=>?_⟩
    simp! [m2,cW,W7]
  obtain ⟨mn,hn1,hn2,ek⟩:=key
  obtain ⟨Rh,e1,b6,b7,hv1,hl1,hs1,r1⟩:=qZ c ws hws hok most hm1 G a0 (some (.int mn)) mn.toNat 0 rs e a6 a7 (by nofun) hv hl hs (.inl rfl)
  obtain ⟨NS,e2,c4,c5,c6,c7,hv2,hl2,hs2,r2⟩:=rj ws hws hok most hm1 G a0 cs Rh e1 (some (.int c)) (some (.int mn)) b6 b7 hv1 hl1 hs1
  refine ⟨NS,e2,c4,c5,c6,c7,hv2,hl2,hs2,?_⟩
  have hr:=jw (j:=mn) hn1 (by nofun)
  generalize ((Y8 0 mn.toNat).map λ(k:Nat)=>D.int (0+(k:Int)))=its at hr r1
  rw [Yv,aO rfl]
  have el:fQ [a0,some (.con (ws.map .str)),some (.int most),some (.obj G.length),some (.int c),a5,a6,a7] (G++[.lst (rs.map row)])=.nx [a0,some (.con (ws.map .str)),some (.int most),some (.obj G.length),some (.int c),some (.int mn),b6,b7] (G++[.lst (Rh.map row)]):=by
   unfold fQ
   rw [lH,ek,bJ]
   simp only [m5,aA,aI,aQ,aj,ah,aN,YJ,YF,iY,hr,r1]
  simp only [Zc,Za,el,cM]
  exact r2
theorem Ja (cs:List Int) (hcs:1≤cs.length) (ws:List Str) (hws:ws.length=5) (hok:∀ s∈ws,YC s=true∧s.length≤21) (most:Int) (hm1:most≤60) (G:DH) :
  ∃ (rs:List (Nat×Str)) (e:Nat),Val rs e∧rs.length≤60∧(∀ p∈rs,YC p.2=true)∧iE [.con (cs.map .int),.con (ws.map .str),.int most] G=.ok (.con (rs.map row)) G:=by
 have z1:(1:Nat)≤Yx:=lz (by nofun)
 have z2:(2:Nat)≤Yx:=lz (by nofun)
 have hc0:=Az cs 0 (by nofun)
 rw [show ((0:Nat):Int)=0 from rfl] at hc0
 have m1:=dO (cs.getD 0 0) 1 (by nofun) (by nofun)
 have n1:=jQ (cs.getD 0 0) 1
 generalize cs.getD 0 0=c0 at hc0 m1 n1
 obtain ⟨nv,en,To⟩:=j4 (xs:=ws.map D.str) (i:=mx c0 1 % 4) (by nofun) (by simp [hws];nofun)
 obtain ⟨nm,Tp,rfl⟩:∃ nm,nm∈ws∧D.str nm=nv:=by
  have:=Zi To
  obtain ⟨a,b,c⟩:=YX.mp this
  exact ⟨a,b,c⟩
 obtain ⟨rs,e,b4,b5,b6,b7,hv,hl,hs,r⟩:=rj ws hws hok most hm1 G (some (.con (cs.map .int))) cs [(0,nm)] 0 none none none none (.one nm) (by simp) (λp hp=>by rw [Y7.mp hp];exact (hok nm Tp).1)
 refine ⟨rs,e,hv,by nofun,hs,fB (R:=[.dead]) ?_ (by rw [aL];exact ay λp=>by rw [row,d7];simp [aR,aV,bY,dw])⟩
 have hn:aS [.tup [.int 0,.str nm]] G=.ok (.obj G.length) (G++[.lst [.tup [.int 0,.str nm]]]):=if_pos z1
 have er:([(0,nm)].map row:List D)=[.tup [.int 0,.str nm]]:=rfl
 rw [er] at r
 unfold ki
 simp! [hc0,m1,en,z2,hn,r]
inductive T where
 | nd (k:Str) (ps:List T)
mutual
noncomputable def T.d:T→D
 | .nd k ps=>.tup [.str k,.tup (dL ps)]
noncomputable def dL:List T→List D
 | []=>[]
 | t::r=>t.d::dL r
end
mutual
noncomputable def T.prs (p:List Int):T→List (List Int×T)
 | .nd k ps=>(p,.nd k ps)::bU p 0 ps
noncomputable def bU (p:List Int) (j:Int):List T→List (List Int×T)
 | []=>[]
 | t::r=>t.prs (p++[j])++bU p (j+1) r
end
mutual
noncomputable def T.pre (n:Nat):T→List (Nat×Str)
 | .nd k ps=>(n,k)::fS (n+1) ps
noncomputable def fS (n:Nat):List T→List (Nat×Str)
 | []=>[]
 | t::r=>t.pre n++fS n r
end
mutual
noncomputable def T.subs:T→List T
 | .nd k ps=>.nd k ps::bQ ps
noncomputable def bQ:List T→List T
 | []=>[]
 | t::r=>t.subs++bQ r
end
theorem rm:∀ ts:List T,dL ts=ts.map T.d
 | []=>rfl
 | t::r=>by rw [dL,rm r,Yv]
mutual
theorem fR (p:List Int):∀ t:T,(t.prs p).map (·.2)=t.subs
 | .nd k ps=>by rw [T.prs,T.subs,Yv,tO p 0 ps]
theorem tO (p:List Int) (j:Int):∀ ts:List T,(bU p j ts).map (·.2)=bQ ts
 | []=>rfl
 | t::r=>by rw [bU,bQ,YS,fR _ t,tO p (j+1) r]
end
mutual
theorem vE (n:Nat):∀ t:T,(t.pre n).length=t.subs.length
 | .nd k ps=>by rw [T.pre,T.subs,Yy,Yy,rq (n+1) ps]
theorem rq (n:Nat):∀ ts:List T,(fS n ts).length=(bQ ts).length
 | []=>rfl
 | t::r=>by rw [fS,bQ,YO,YO,vE n t,rq n r]
end
mutual
theorem kj:∀ t:T,t.d.closed=true
 | .nd k ps=>by rw [T.d,d7,aR,aR,bY,d7,nD ps];rfl
theorem nD:∀ ts:List T,aH (dL ts)=true
 | []=>rfl
 | t::r=>by rw [dL,aR,kj t,nD r];rfl
end
mutual
theorem Jb (n:Nat):∀ t:T,(∀ p∈t.pre n,YC p.2=true)→t.d.plain=true
 | .nd k ps,h=>by
  have hk:YC k=true:=h (n,k) (by simp [T.pre])
  have hp:=xR (n+1) ps λp hp=>h p (by simp [T.pre,hp])
  simp [T.d,D.plain,cY,hk,hp]
theorem xR (n:Nat):∀ ts:List T,(∀ p∈fS n ts,YC p.2=true)→cY (dL ts)=true
 | [],_=>rfl
 | t::r,h=>by
  have h1:=Jb n t λp hp=>h p (by simp [fS,hp])
  have h2:=xR n r λp hp=>h p (by simp [fS,hp])
  rw [dL,cY,h1,h2];rfl
end
mutual
theorem Qd:∀ t:T,t.d.dp≤2*t.subs.length
 | .nd k ps=>by
  have:=Km ps
  simp [T.d,D.dp,yq,T.subs];nofun
theorem Km:∀ ts:List T,yq (dL ts)≤2*(bQ ts).length
 | []=>Zq _
 | t::r=>by
  have h1:=Qd t
  have h2:=Km r
  rw [dL,yq,bQ,YO];nofun
end
mutual
theorem sub_le:∀ (t s:T),s∈t.subs→s.subs.length≤t.subs.length
 | .nd k ps,s,h=>by
  rw [T.subs] at h
  rcases Y6.mp h with rfl | h
  ·exact YE _
  ·have:=AB ps s h
   rw [T.subs,Yy];nofun
theorem AB:∀ (ts:List T) (s:T),s∈bQ ts→s.subs.length≤(bQ ts).length
 | [],s,h=>by simp [bQ] at h
 | t::r,s,h=>by
  rw [bQ] at h ⊢
  rw [YO]
  rcases Zk.mp h with h | h
  ·have:=sub_le t s h;nofun
  ·have:=AB r s h;nofun
end
mutual
noncomputable def T.good:T→Bool
 | .nd k ps=>YC k&&jR ps
noncomputable def jR:List T→Bool
 | []=>true
 | t::r=>t.good&&jR r
end
mutual
theorem rA:∀ t:T,t.good=true→t.d.plain=true
 | .nd k ps,h=>by
  have h':YC k=true∧jR ps=true:=by simpa [T.good] using h
  have hp:=n5 ps h'.2
  simp [T.d,D.plain,cY,h'.1,hp]
theorem n5:∀ ts:List T,jR ts=true→cY (dL ts)=true
 | [],_=>rfl
 | t::r,h=>by
  have h':t.good=true∧jR r=true:=by simpa [jR] using h
  rw [dL,cY,rA t h'.1,n5 r h'.2];rfl
end
mutual
theorem E9:∀ (t s:T),t.good=true→s∈t.subs→s.good=true
 | .nd k ps,s,h,hs=>by
  have h':YC k=true∧jR ps=true:=by simpa [T.good] using h
  rw [T.subs] at hs
  rcases Y6.mp hs with rfl | hs
  ·exact h
  ·exact tP ps s h'.2 hs
theorem tP:∀ (ts:List T) (s:T),jR ts=true→s∈bQ ts→s.good=true
 | [],s,_,hs=>by simp [bQ] at hs
 | t::r,s,h,hs=>by
  have h':t.good=true∧jR r=true:=by simpa [jR] using h
  rw [bQ] at hs
  rcases Zk.mp hs with hs | hs
  ·exact E9 t s h'.1 hs
  ·exact tP r s h'.2 hs
end
mutual
theorem xS (n:Nat):∀ t:T,(∀ p∈t.pre n,YC p.2=true)→t.good=true
 | .nd k ps,h=>by
  have hk:YC k=true:=h (n,k) (by simp [T.pre])
  have hp:=tQ (n+1) ps λp hp=>h p (by simp [T.pre,hp])
  simp [T.good,hk,hp]
theorem tQ (n:Nat):∀ ts:List T,(∀ p∈fS n ts,YC p.2=true)→jR ts=true
 | [],_=>rfl
 | t::r,h=>by
  have h1:=xS n t λp hp=>h p (by simp [fS,hp])
  have h2:=tQ n r λp hp=>h p (by simp [fS,hp])
  rw [jR,h1,h2];rfl
end
mutual
noncomputable def T.bo (n:Nat):T→List ((Nat×Str)×T)
 | .nd k ps=>((n,k),.nd k ps)::Ca (n+1) ps
noncomputable def Ca (n:Nat):List T→List ((Nat×Str)×T)
 | []=>[]
 | t::r=>t.bo n++Ca n r
end
mutual
theorem Nc (n:Nat):∀ t:T,(t.bo n).map (·.1)=t.pre n
 | .nd k ps=>by rw [T.bo,T.pre,Yv,vF (n+1) ps]
theorem vF (n:Nat):∀ ts:List T,(Ca n ts).map (·.1)=fS n ts
 | []=>rfl
 | t::r=>by rw [Ca,fS,YS,Nc n t,vF n r]
end
mutual
theorem Jc (n:Nat):∀ t:T,(t.bo n).map (·.2)=t.subs
 | .nd k ps=>by rw [T.bo,T.subs,Yv,rB (n+1) ps]
theorem rB (n:Nat):∀ ts:List T,(Ca n ts).map (·.2)=bQ ts
 | []=>rfl
 | t::r=>by rw [Ca,bQ,YS,Jc n t,rB n r]
end
noncomputable def flat (f:Nat→List T):Nat→List ((Nat×Str)×T)
 | 0=>Ca 0 (f 0)
 | n+1=>Ca (n+1) (f (n+1))++flat f n
noncomputable def stp (f:Nat→List T) (p:Nat×Str):Nat→List T:=λn=>if n=p.1 then T.nd p.2 (f (p.1+1))::f p.1 else if n=p.1+1 then [] else f n
theorem rC {f g:Nat→List T}:∀ n,(∀ m,m≤n→f m=g m)→flat f n=flat g n
 | 0,h=>by rw [flat,flat,h 0 (YE _)]
 | n+1,h=>by rw [flat,flat,h (n+1) (YE _),rC n λm hm=>h m (by nofun)]
theorem Fb (f:Nat→List T) (d:Nat) (k:Str):flat (stp f (d,k)) d=((d,k),T.nd k (f (d+1)))::flat f (d+1):=by
 have h0:stp f (d,k) d=T.nd k (f (d+1))::f d:=by simp [stp]
 cases d with
 | zero=>
  rw [flat,h0,Ca,T.bo,flat,flat];simp
 | succ d=>
  have h1:flat (stp f (d+1,k)) d=flat f d:=rC d λm hm=>by
   simp only [stp]
   rw [if_neg (by nofun),if_neg (by nofun)]
  rw [flat,h0,h1,Ca,T.bo,flat,flat];simp
theorem AD {f:Nat→List T} {b:Nat} (h:∀ n,b<n→f n=[]):∀ m,b≤m→flat f m=flat f b
 | 0,hm=>by rw [show b=0 by nofun]
 | m+1,hm=>by
  by_cases e:b=m+1
  ·rw [e]
  ·rw [flat,h (m+1) (by nofun),Ca,YT,AD h m (by nofun)]
noncomputable def RC (b:Nat):List (Nat×Str)→Prop
 | []=>True
 | p::q=>b≤p.1+1∧RC p.1 q
noncomputable def nE (f:Nat→List T):List (Nat×Str)→List T
 | []=>[]
 | p::q=>T.nd p.2 (f (p.1+1))::nE (stp f p) q
noncomputable def tR (b:Nat):List (Nat×Str)→Nat
 | []=>b
 | p::q=>tR p.1 q
theorem mJ:∀ (q:List (Nat×Str)) (f:Nat→List T),(nE f q).length=q.length
 | [],f=>rfl
 | p::q,f=>by rw [nE,Yy,mJ q,Yy]
theorem xT:∀ (q:List (Nat×Str)) (f:Nat→List T) (b:Nat),RC b q→(∀ n,b<n→f n=[]) →
  (∀ n,tR b q<n→q.foldl stp f n=[])∧flat (q.foldl stp f) (tR b q)=(q.zip (nE f q)).reverse++flat f b
 | [],f,b,h,hb=>⟨hb,by simp [tR]⟩
 | p::q,f,b,h,hb=>by
  obtain ⟨d,k⟩:=p
  obtain ⟨h1,h2⟩:b≤d+1∧RC d q:=h
  have hb':∀ n,d<n→stp f (d,k) n=[]:=λn hn=>by
   simp only [stp]
   rw [if_neg (by nofun)]
   by_cases e:n=d+1
   ·rw [if_pos e]
   ·rw [if_neg e];exact hb n (by nofun)
  obtain ⟨i1,i2⟩:=xT q (stp f (d,k)) d h2 hb'
  refine ⟨i1,?_⟩
  show flat (q.foldl stp (stp f (d,k))) (tR d q)=_
  rw [i2,Fb,AD hb (d+1) h1,nE]
  simp
theorem Val.rc {rs:List (Nat×Str)} {e:Nat} (h:Val rs e):∀ b,b≤e+1→RC b rs.reverse:=by
 induction h with
 | one k=>intro b hb;exact ⟨hb,trivial⟩
 | snoc k hv h1 h2 ih=>
  intro b hb
  rw [List.reverse_append]
  exact ⟨hb,ih _ h2⟩
theorem Val.head {rs:List (Nat×Str)} {e:Nat} (h:Val rs e):∃ k r,rs=(0,k)::r∧∀ p∈r,1≤p.1:=by
 induction h with
 | one k=>exact ⟨k,[],rfl,λp hp=>by simp at hp⟩
 | snoc k hv h1 h2 ih=>
  obtain ⟨k0,r,rfl,hr⟩:=ih
  refine ⟨k0,r++[(_,k)],rfl,λp hp=>?_⟩
  rcases Zk.mp hp with hp | hp
  ·exact hr p hp
  ·rw [Y7.mp hp];exact h1
theorem tS:∀ (q:List (Nat×Str)) (f:Nat→List T),(∀ p∈q,1≤p.1)→q.foldl stp f 0=f 0
 | [],f,_=>rfl
 | p::q,f,h=>by
  have hp:=h p (by simp)
  rw [List.foldl_cons,tS q _ λx hx=>h x (by simp [hx])]
  simp only [stp]
  rw [if_neg (by nofun),if_neg (by nofun)]
theorem tT:∀ (q:List (Nat×Str)) (b:Nat) (p:Nat×Str),tR b (q++[p])=p.1
 | [],b,p=>rfl
 | x::q,b,p=>tT q x.1 p
theorem Jd {rs:List (Nat×Str)} {e:Nat} (h:Val rs e):∃ t:T,rs=t.pre 0∧(nE (λ_=>[]) rs.reverse).reverse=t.subs:=by
 obtain ⟨k0,r,rfl,hr⟩:=h.head
 have rc:=h.rc 0 (by nofun)
 obtain ⟨i1,i2⟩:=xT _ (λ_=>[]) 0 rc (λ_ _=>rfl)
 have Qe:((0,k0)::r).reverse=r.reverse++[(0,k0)]:=by simp
 rw [Qe] at i1 i2
 rw [tT,List.foldl_append] at i2
 have hz:(r.reverse.foldl stp (λ_=>[])) 0=[]:=tS r.reverse _ λp hp=>hr p (by simpa using hp)
 have h0:([(0,k0)].foldl stp (r.reverse.foldl stp λ_=>[])) 0=[T.nd k0 ((r.reverse.foldl stp λ_=>[]) 1)]:=by
  show stp _ (0,k0) 0=_
  simp [stp,hz]
 rw [flat,h0] at i2
 refine ⟨T.nd k0 ((r.reverse.foldl stp λ_=>[]) 1),?_,?_⟩
 ·have:=congrArg (List.map (·.1)) i2
  rw [vF,fS,fS,Y4] at this
  rw [this,flat,Ca]
  rw [Y4,abB,adL (by rw [mJ];exact YE _)]
  simp
 ·have:=congrArg (List.map (·.2)) i2
  rw [rB,bQ,bQ,Y4] at this
  rw [this,flat,Ca]
  rw [Y4,abB,List.map_snd_zip (by rw [mJ];exact YE _)]
  rw [Qe]
theorem fq {κ:Type} [DecidableEq κ] {p:κ×D} {r:List (κ×D)} {k:κ} (e:p.1=k):cX (p::r) k=some p.2:=by simp [cX,aaa,e]
theorem fy {κ:Type} [DecidableEq κ] {p:κ×D} {r:List (κ×D)} {k:κ} (e:¬ p.1=k):cX (p::r) k=cX r k:=by simp [cX,aaa,e]
theorem rE {κ:Type} [DecidableEq κ] (k:κ):∀ kvs:List (κ×D),(kvs.any λkv=>decide (kv.1=k))=(cX kvs k).isSome
 | []=>rfl
 | p::r=>by
  rw [acf]
  by_cases e:p.1=k
  ·simp only [fq e,decide_eq_true e,ado,Option.isSome_some]
  ·rw [fy e,decide_eq_false e,Bool.false_or];exact rE k r
theorem xU {κ:Type} [DecidableEq κ] (k j:κ) (y:D):∀ kvs:List (κ×D),cX (kvs.map λkv=>if kv.1=k then (kv.1,y) else kv) j=(cX kvs j).map λx=>if j=k then y else x
 | []=>rfl
 | p::r=>by
  have ih:=xU k j y r
  rw [Yv]
  by_cases h:p.1=k
  ·rw [if_pos h]
   by_cases e:p.1=j
   ·rw [fq (p:=(p.1,y)) e,fq e,Option.map_some,if_pos (e.symm.trans h)]
   ·rw [fy (p:=(p.1,y)) e,fy e,ih]
  ·rw [if_neg h]
   by_cases e:p.1=j
   ·rw [fq (p:=p) e,fq e,Option.map_some,if_neg (λz=>h (e.trans z))]
   ·rw [fy (p:=p) e,fy e,ih]
theorem tU {κ:Type} [DecidableEq κ] (k j:κ) (y:D):∀ kvs:List (κ×D),cX kvs k=none→cX (kvs++[(k,y)]) j=if j=k then some y else cX kvs j
 | [],_=>by
  by_cases e:k=j
  ·rw [if_pos e.symm];exact fq (p:=(k,y)) e
  ·rw [if_neg (λz=>e z.symm)];exact fy (p:=(k,y)) e
 | p::r,hn=>by
  rw [Zf]
  have hk:¬ p.1=k:=λz=>by rw [fq z] at hn;cases hn
  rw [fy hk] at hn
  have ih:=tU k j y r hn
  by_cases e:p.1=j
  ·rw [fq e,fq e,if_neg (λz=>hk (e.trans z))]
  ·rw [fy e,fy e,ih]
theorem rF {κ:Type} [DecidableEq κ] (kvs:List (κ×D)) (k j:κ) (y:D):cX (bF kvs k y) j=if j=k then some y else cX kvs j:=by
 unfold bF
 by_cases a:(kvs.any λkv=>decide (kv.1=k))=true
 ·rw [if_pos a,xU]
  rw [rE] at a
  by_cases e:j=k
  ·obtain ⟨x,hx⟩:=Option.isSome_iff_exists.mp a
   rw [if_pos e,e,hx,Option.map_some,if_pos rfl]
  ·rw [if_neg e]
   cases cX kvs j with
   | none=>rfl
   | some x=>rw [Option.map_some,if_neg e]
 ·rw [if_neg a]
  refine tU k j y kvs ?_
  rw [rE] at a
  cases q:cX kvs k with
  | none=>rfl
  | some x=>rw [q] at a;exact (a rfl).elim
theorem o8 {κ:Type} [DecidableEq κ] (kvs:List (κ×D)) (k:κ) (v:D):(bF kvs k v).length≤kvs.length+1:=by
 unfold bF
 split
 ·rw [YL];nofun
 ·rw [YO,Yy,YR];nofun
noncomputable def HK (f:Nat→List T) (kvs:List (Key×D)):Prop:=∀ n:Nat,(cX kvs (Sum.inl (n:Int))).getD (.con [])=.con (dL (f n)).reverse
theorem zz (τ:DS) (G:DH):eFn (ak aS (ai)) τ G=.ok (.con []) G:=by
 rw [bP,aY,aI,aj,cT (Zq _) rfl]
theorem AE {E:DS→M D} {τ:DS} {A B:DH} {kvs:List (Key×D)} {n:Int} (h1:τ[1]?=some (some (.obj A.length))) (h2:E τ (A++.dct kvs::B)=.ok (.int n) (A++.dct kvs::B)) :
  iL (af 1) E (eFn (ak aS (ai))) τ (A++.dct kvs::B)=.ok ((cX kvs (Sum.inl n)).getD (.con [])) (A++.dct kvs::B):=by
 simp only [Ej,aQ,h1,aj,tu,p8,if_true,h2,ah,zz,Aj,iK]
theorem Je {E:DS→M D} {τ:DS} {H:DH} {xs:List D} {x:D} (h1:E τ H=.ok (.con xs) H) (h2:τ[6]?=some (some x)) (hc:aH xs=true) (hx:x.closed=true) (hz:xs.length+1≤Yx) :
  eFn (ao aE E (eFn (ak aS (aa (af 6) (ai))))) τ H=.ok (.con (xs++[x])) H:=by
 have e1:eFn (ak aS (aa (af 6) (ai))) τ H=.ok (.con [x]) H:=by
  rw [bP]
  simp only [aY,aA,aI,aQ,h2,aj,ah,aN]
  rw [cT (by simp;nofun) (by simp [aR,hx,dw])]
 rw [bP,aX,h1,aj,ah,e1,aj]
 show (aS (xs++[x]) H).fw H=_
 rw [cT (by simp;nofun) (by rw [j9,hc];simp [aR,hx,dw])]
theorem jI {xs:List D} (h:aH xs=true):aH xs.reverse=true:=by
 induction xs with
 | nil=>rfl
 | cons x xs ih=>
  rw [aR] at h
  have h':x.closed=true∧aH xs=true:=by simpa using h
  rw [ZH,j9,ih h'.2];simp [aR,h'.1,dw]
theorem zA (G:DH) (a0 a5 a6:Option D) (d:Nat) (k:Str) (f:Nat→List T) (kvs:List (Key×D)) (acc:List T) (M:Nat) (hM:M≤200) (hk:HK f kvs) (hf:∀ n,(f n).length≤M) (Bp:kvs.length≤2*M) (ha:acc.length≤M) :
  ∃ (b5:Option D) (kvs':List (Key×D)),HK (stp f (d,k)) kvs'∧kvs'.length≤2*(M+1) ∧
   eZ [a0,some (.obj G.length),some (.obj (G.length+1)),some (.int (d:Int)),some (.str k),a5,a6] (G++[.dct kvs,.lst (acc.map T.d)]) =
    .nx [a0,some (.obj G.length),some (.obj (G.length+1)),some (.int (d:Int)),some (.str k),b5,some (T.nd k (f (d+1))).d] (G++[.dct kvs',.lst ((acc++[T.nd k (f (d+1))]).map T.d)]):=by
 have hd1:=hk (d+1)
 have ei:((d+1:Nat):Int)=(d:Int)+1:=by nofun
 rw [ei] at hd1
 have hd0:=hk d
 have hlen:∀ n,(dL (f n)).length≤M:=λn=>by rw [rm,YL];exact hf n
 have hcl:∀ n,aH (dL (f n)).reverse=true:=λn=>jI (nD _)
 generalize hk1:bF kvs (Sum.inl ((d:Int)+1)) (.con [])=se
 have hne:(Sum.inl (d:Int):Key)≠Sum.inl ((d:Int)+1):=λe=>by have:=abG e;nofun
 have hv1:(cX se (Sum.inl (d:Int))).getD (.con [])=.con (dL (f d)).reverse:=by
  rw [← hk1,rF,if_neg hne];exact hd0
 generalize hk2:bF se (Sum.inl (d:Int)) (.con ((dL (f d)).reverse++[(T.nd k (f (d+1))).d]))=Jf
 have l1:se.length≤2*M+1:=by rw [← hk1];have:=o8 kvs (Sum.inl ((d:Int)+1)) (.con []);nofun
 have l2:Jf.length≤2*M+2:=by rw [← hk2];have:=o8 se (Sum.inl (d:Int)) (.con ((dL (f d)).reverse++[(T.nd k (f (d+1))).d]));nofun
 have z0:kvs.length<Yx:=YG (by nofun) (lz (n:=1001) (by nofun))
 have z1:se.length<Yx:=YG (by nofun) (lz (n:=1001) (by nofun))
 have z2:(2:Nat)≤Yx:=lz (by nofun)
 have z3:(dL (f (d+1))).length≤Yx:=lz (by have:=hlen (d+1);nofun)
 have z4:(dL (f d)).reverse.length+1≤Yx:=lz (by rw [abP];have:=hlen d;nofun)
 have z5:acc.length<Yx:=YG (by nofun) (lz (n:=1001) (by nofun))
 refine ⟨some (.con (dL (f (d+1))).reverse),Jf,λn=>?_,by nofun,?_⟩
 ·rw [← hk2,rF]
  by_cases e:n=d
  ·subst e
   rw [if_pos rfl]
   simp [stp,dL]
  ·have ne2:(Sum.inl (n:Int):Key)≠Sum.inl (d:Int):=λz=>e (by have:=abG z;nofun)
   rw [if_neg ne2,← hk1,rF]
   by_cases e1:n=d+1
   ·subst e1
    rw [if_pos (by rw [ei])]
    simp only [stp]
    rw [if_neg (by nofun)]
    simp [dL]
   ·have ne3:(Sum.inl (n:Int):Key)≠Sum.inl ((d:Int)+1):=λz=>e1 (by have:=abG z;nofun)
    rw [if_neg ne3]
    simp only [stp]
    rw [if_neg e,if_neg e1]
    exact hk n
 ·have g1:=AE (E:=ao aE (af 3) (eC (.int 1))) (τ:=[a0,some (.obj G.length),some (.obj (G.length+1)),some (.int (d:Int)),some (.str k),a5,a6]) (A:=G) (B:=[.lst (acc.map T.d)]) (kvs:=kvs) (n:=(d:Int)+1) rfl (by simp! [])
  rw [hd1] at g1
  have g2:∀ x,iL (af 1) (af 3) (eFn (ak aS (ai))) [a0,some (.obj G.length),some (.obj (G.length+1)),some (.int (d:Int)),some (.str k),some (.con (dL (f (d+1))).reverse),x] (G++.dct se::[.lst (acc.map T.d)])=.ok (.con (dL (f d)).reverse) (G++.dct se::[.lst (acc.map T.d)]):=λx=>by
   have:=AE (E:=af 3) (τ:=[a0,some (.obj G.length),some (.obj (G.length+1)),some (.int (d:Int)),some (.str k),some (.con (dL (f (d+1))).reverse),x]) (A:=G) (B:=[.lst (acc.map T.d)]) (kvs:=se) (n:=(d:Int)) rfl rfl
   rw [hv1] at this
   exact this
  have g3:=Je (x:=(T.nd k (f (d+1))).d) (g2 (some (T.nd k (f (d+1))).d)) rfl (hcl d) (kj _) z4
  have et:(T.nd k (f (d+1))).d=.tup [.str k,.tup (dL (f (d+1)))]:=by rw [T.d]
  rw [et] at g3 hk2 ⊢
  generalize UQ:iL (af 1) (ao aE (af 3) (eC (.int 1))) (eFn (ak aS (ai)))=E1 at g1
  generalize UR:eFn (ao aE (iL (af 1) (af 3) (eFn (ak aS (ai)))) (eFn (ak aS (aa (af 6) (ai)))))=E2 at g3
  unfold eZ
  rw [UQ,UR]
  simp! [g1,zz,k6,iK,vU,hk1,z0,g3,hk2,z1,wY,z2,z3,z5,J5,Sx,et]
theorem Jg {f:Nat→List T} {M:Nat} (h:∀ n,(f n).length≤M) (p:Nat×Str) (n:Nat):(stp f p n).length≤M+1:=by
 simp only [stp]
 split
 ·have:=h p.1
  simp;nofun
 ·split
  ·simp
  ·have:=h n
   nofun
theorem rG (G:DH) (a0:Option D):∀ (q:List (Nat×Str)) (f:Nat→List T) (kvs:List (Key×D)) (acc:List T) (M:Nat) (a3 a4 a5 a6:Option D),M+q.length≤200→HK f kvs→(∀ n,(f n).length≤M)→kvs.length≤2*M→acc.length≤M →
  ∃ (b3 b4 b5 b6:Option D) (kvs':List (Key×D)),bI (gP 3 4) eZ (q.map row) [a0,some (.obj G.length),some (.obj (G.length+1)),a3,a4,a5,a6] (G++[.dct kvs,.lst (acc.map T.d)]) =
   .nx [a0,some (.obj G.length),some (.obj (G.length+1)),b3,b4,b5,b6] (G++[.dct kvs',.lst ((acc++nE f q).map T.d)])
 | [],f,kvs,acc,M,a3,a4,a5,a6,hM,hk,hf,Bp,ha=>⟨a3,a4,a5,a6,kvs,by simp [bI,nE]⟩
 | (d,k)::q,f,kvs,acc,M,a3,a4,a5,a6,hM,hk,hf,Bp,ha=>by
  simp only [Yy] at hM
  obtain ⟨b5,se,h1,h2,e1⟩:=zA G a0 a5 a6 d k f kvs acc M (by nofun) hk hf Bp ha
  obtain ⟨c3,c4,c5,c6,Jf,e2⟩:=rG G a0 q (stp f (d,k)) se (acc++[T.nd k (f (d+1))]) (M+1) (some (.int (d:Int))) (some (.str k)) b5 (some (T.nd k (f (d+1))).d) (by nofun) h1 (Jg hf (d,k)) h2 (by simp;nofun)
  refine ⟨c3,c4,c5,c6,Jf,?_⟩
  rw [Yv,aO (τ1:=[a0,some (.obj G.length),some (.obj (G.length+1)),some (.int (d:Int)),some (.str k),a5,a6]) rfl,e1,cM,e2,nE]
  simp
theorem Jh {τ:DS} {H:DH} {n:Nat} {L:List D} (h:τ[2]?=some (some (.obj n))) (hg:H[n]?=some (.lst L)) (hz:L.length≤Yx) (hc:aH L=true):eFn (ak kZ (aa (af 2) (ai))) τ H=.ok (.con L.reverse) H:=by
 rw [bP]
 simp only [aY,aA,aI,aQ,h,aj,ah,aN,kZ,aD,hg]
 rw [cT (by simpa using hz) (jI hc)]
theorem Fc (rs:List (Nat×Str)) (hl:rs.length≤100) (G:DH):eg [.con (rs.map row)] G=.ok (.con ((nE (λ_=>[]) rs.reverse).reverse.map T.d)) G:=by
 obtain ⟨b3,b4,b5,b6,kvs,e⟩:=rG G (some (.con (rs.map row))) rs.reverse (λ_=>[]) [] [] 0 none none none none (by simp;nofun) (λn=>rfl) (λn=>YE _) (by simp) (by simp)
 have hz:((nE (λ_=>[]) rs.reverse).map T.d).length≤Yx:=lz (by rw [YL,mJ,abP];nofun)
 have hc:aH ((nE (λ_=>[]) rs.reverse).map T.d)=true:=ay kj
 simp only [YT,YY] at e
 rw [abB]
 generalize (nE (λ_=>[]) rs.reverse).map T.d=L at e hz hc
 refine fB (R:=[.dct kvs,.lst L]) ?_ (by rw [aL];exact jI hc)
 have hn:aS [] (G++[.dct []])=.ok (.obj (G.length+1)) (G++[.dct [],.lst []]):=by simp [aS]
 rw [abB] at e
 generalize rs.map row=xs at e
 have er:=Jh (τ:=[some (.con xs),some (.obj G.length),some (.obj (G.length+1)),b3,b4,b5,b6]) (H:=G++[.dct kvs,.lst L]) (n:=G.length+1) rfl (J5 _ _ _ _) hz hc
 unfold jC
 simp! [hn,Al,e,er]
noncomputable def pl (p:List Int):D:=.tup (p.map .int)
theorem Cb (xs ys:List D) (G:DH) (h:xs.length+ys.length≤Yx):aE (.tup xs) (.tup ys) G=.ok (.tup (xs++ys)) G:=by
 cases xs with
 | nil=>rfl
 | cons x xs=>show bx (x::xs++ys) G=_;rw [bx,if_pos (by simp at h ⊢;nofun)]
noncomputable def Lst (p:List Int) (j:Int) (q:List Int):Prop:=(j=0∧q=p)∨∃ i r,j=i+1∧q=p++i::r
theorem Ji (p r:List Int) (i:Int):kB ((p++i::r).map D.int) (p.length:Int)=some (.int i):=by
 refine dQ ?_
 rw [YK]
 simp
theorem zB (G:DH) (a0 b4:Option D) (k:Str) (p q:List Int) (j:Int) (ini:List (List Int)) (h:Lst p j q) (hp:p.length≤1000) (hi:ini.length≤1000) :
  bT [a0,some (.obj G.length),some (.int ((p.length+1:Nat):Int)),some (.str k),b4] (G++[.lst ((ini++[q]).map pl)]) =
   .nx [a0,some (.obj G.length),some (.int ((p.length+1:Nat):Int)),some (.str k),some (pl q)] (G++[.lst ((ini++[q]++[p++[j]]).map pl)]):=by
 have hla:kB ((ini++[q]).map pl) (-1)=some (pl q):=by
  rw [YS,Yv,YY,qY]
 have z1:((ini++[q]).map pl).length<Yx:=YG (by simp;nofun) (lz (n:=2001) (by nofun))
 have z2:(1:Nat)≤Yx:=lz (by nofun)
 have hadd:=Cb
 have ex:(ini++[q]++[p++[j]]).map pl=(ini++[q]).map pl++[pl (p++[j])]:=by rw [YS,Yv,YY]
 rw [ex]
 generalize (ini++[q]).map pl=L at hla z1
 rcases h with ⟨rfl,rfl⟩ | ⟨i,r,rfl,rfl⟩
 ·have z3:q.length+1≤Yx:=lz (by nofun)
  have hA:=Cb (q.map .int) [.int 0]
  simp only [YL,Yy,YR] at hA
  have Nd:∀ G,aE (pl q) (.tup [.int 0]) G=.ok (pl (q++[0])) G:=λG=>by
   unfold pl
   rw [hA G (by nofun)];simp
  have hlen:∀ G,cC [pl q] G=.ok (.int (q.length:Int)) G:=λG=>by simp [cC,pl,aD]
  have hd:((q.length:Int)<((q.length+1:Nat):Int)):=by nofun
  generalize pl q=pq at hla Nd hlen
  generalize pl (q++[0])=pn at Nd
  generalize ((q.length+1:Nat):Int)=dd at hd
  have z4:0+1≤Yx:=z2
  unfold bT
  simp only [aT,bG,aX,uH,uI,aQ,cJ,aj,ah,YJ,YF,bg,aD,p8,hla,cS,bJ,iA,gy,aY,aA,aI,aN,hlen,cK,if_true,eV,uF,uG,iB,gj,dB,aU,if_pos z1,vU,j5,bx,Yy,YR,Zc,Za,beq_self_eq_true,decide_eq_true hd,Nd,if_pos z4]
 ·have z3:p.length+1≤Yx:=lz (by nofun)
  have hlen:∀ G,cC [pl (p++i::r)] G=.ok (.int ((p++i::r).length:Int)) G:=λG=>by simp [cC,pl,aD]
  have hd:¬ (((p++i::r).length:Int)<((p.length+1:Nat):Int)):=by simp;nofun
  have hix:∀ G,bg (pl (p++i::r)) (.int (p.length:Int)) G=.ok (.int i) G:=λG=>by
   simp only [bg,pl,aD,Ji]
  have hsl:∀ G,yo (pl (p++i::r)) none (some (p.length:Int)) G=.ok (pl p) G:=λG=>by
   unfold pl
   simp only [yo,aD]
   have hs:HT.eW ((p++i::r).map D.int).length ((p++i::r).map D.int).length (some (p.length:Int))=p.length:=by
    rw [HT.oK];simp
   rw [if_neg (by rw [hs];simp),bx]
   have qh:cutD ((p++i::r).map D.int) none (some (p.length:Int))=p.map .int:=by
    unfold cutD
    rw [hs,HT.jV];simp
   rw [qh,if_pos (by simp;nofun)]
  have hA:=Cb (p.map .int) [.int (i+1)]
  simp only [YL,Yy,YR] at hA
  have Nd:∀ G,aE (pl p) (.tup [.int (i+1)]) G=.ok (pl (p++[i+1])) G:=λG=>by
   unfold pl
   rw [hA G (by nofun)];simp
  have W8:∀ G,aE (.int i) (.int 1) G=.ok (.int (i+1)) G:=λG=>rfl
  have Tq:((p.length+1:Nat):Int) - 1=(p.length:Int):=by nofun
  have hfw:∀ G,(Out.ok (pl p) G).fw G=.ok (pl p) G:=λG=>Ei
  generalize pl (p++i::r)=pq at hla hlen hix hsl
  generalize ((p++i::r).length:Int)=ll at hlen hd
  generalize pl (p++[i+1])=pn at Nd
  generalize pl p=pp at hsl Nd hfw
  generalize ((p.length+1:Nat):Int)=dd at hd Tq
  have z4:0+1≤Yx:=z2
  unfold bT
  rw [aT,bG]
  have e1:ao bg (af 1) (lq (eC (.int 1))) [a0,some (.obj G.length),some (.int dd),some (.str k),b4] (G++[.lst L])=.ok pq (G++[.lst L]):=by
   simp only [aT,bG,aX,uH,uI,aQ,cJ,aj,ah,YJ,YF,bg,aD,p8,hla,cS,bJ,iA,gy,aY,aA,aI,aN,hlen,cK,if_true,eV,uF,uG,iB,gj,dB,aU,if_pos z1,vU,j5,bx,Yy,YR,Zc,Za,beq_self_eq_true]
  rw [e1,cS,bJ,iA]
  have e2:g8 (ao Bg (af 2) (ak cC (aa (af 4) (ai)))) [a0,some (.obj G.length),some (.int dd),some (.str k),some pq] (G++[.lst L])=.ok false (G++[.lst L]):=by
   simp only [gy,aX,aQ,aY,aA,aI,aj,ah,aN,YJ,YF,hlen,cK,if_true,eV,decide_eq_false hd]
  simp only [Zc,Za]
  rw [e2,uG]
  have e3:∀ τ,eFn (jo (af 4) (cL) (bh (ao oA (af 2) (eC (.int 1))))) (a0::some (.obj G.length)::some (.int dd)::some (.str k)::some pq::τ) (G++[.lst L])=.ok pp (G++[.lst L]):=λτ=>by
   rw [bP]
   simp only [sY,aQ,YJ,YF,aj,ah,oV,iC,aX,cJ,cK,if_true,aN,kJ,Tq,hsl,hfw]
  have e4:∀ τ,ao bg (af 4) (ao oA (af 2) (eC (.int 1))) (a0::some (.obj G.length)::some (.int dd)::some (.str k)::some pq::τ) (G++[.lst L])=.ok (.int i) (G++[.lst L]):=λτ=>by
   simp only [aQ,YJ,YF,aj,ah,aX,cJ,cK,if_true,aN,Tq,hix]
  generalize eFn (jo (af 4) (cL) (bh (ao oA (af 2) (eC (.int 1)))))=E3 at e3
  generalize ao bg (af 4) (ao oA (af 2) (eC (.int 1)))=E4 at e4
  simp only [iB,gj,aQ,YJ,YF,aj,dB,p8,beq_self_eq_true,if_true,aA,aX,e3,ah,aY,e4,cJ,W8,aI,aN,bx,Yy,YR,if_pos z4,Nd,aU,if_pos z1,vU,j5]
mutual
theorem Jj (G:DH) (a0:Option D):∀ (t:T) (p q:List Int) (j:Int) (ini:List (List Int)) (b2 b3 b4:Option D) (rest:List D),Lst p j q→p.length+t.subs.length≤1000→ini.length+t.subs.length≤1000 →
  ∃ (c2 c3 c4:Option D) (zC:List (List Int)) (r:List Int),zC++[p++j::r]=ini++[q]++(t.prs (p++[j])).map (·.1) ∧
   bI (gP 2 3) bT ((t.pre (p.length+1)).map row++rest) [a0,some (.obj G.length),b2,b3,b4] (G++[.lst ((ini++[q]).map pl)]) =
    bI (gP 2 3) bT rest [a0,some (.obj G.length),c2,c3,c4] (G++[.lst ((zC++[p++j::r]).map pl)])
 | .nd k ps,p,q,j,ini,b2,b3,b4,rest,h,hp,hi=>by
  rw [T.subs,Yy] at hp hi
  have e1:=zB G a0 b4 k p q j ini h (by nofun) (by nofun)
  obtain ⟨c2,c3,c4,zC,r,e2,e3⟩:=vG G a0 ps (p++[j]) (p++[j]) 0 (ini++[q]) (some (.int ((p.length+1:Nat):Int))) (some (.str k)) (some (pl q)) rest (.inl ⟨rfl,rfl⟩) (by simp;nofun) (by simp;nofun)
  have hl:(p++[j]).length+1=p.length+1+1:=by simp
  rw [hl] at e3
  refine ⟨c2,c3,c4,zC,r,?_,?_⟩
  ·rw [T.prs,Yv]
   rw [show p++j::r=p++[j]++r by simp,e2];simp
  ·rw [T.pre,Yv,Zf,aO (τ1:=[a0,some (.obj G.length),some (.int ((p.length+1:Nat):Int)),some (.str k),b4]) rfl,e1,cM]
   rw [e3,show p++j::r=p++[j]++r by simp]
theorem vG (G:DH) (a0:Option D):∀ (ts:List T) (p q:List Int) (j:Int) (ini:List (List Int)) (b2 b3 b4:Option D) (rest:List D),Lst p j q→p.length+(bQ ts).length≤1000→ini.length+(bQ ts).length≤1000 →
  ∃ (c2 c3 c4:Option D) (zC:List (List Int)) (r:List Int),zC++[p++r]=ini++[q]++(bU p j ts).map (·.1) ∧
   bI (gP 2 3) bT ((fS (p.length+1) ts).map row++rest) [a0,some (.obj G.length),b2,b3,b4] (G++[.lst ((ini++[q]).map pl)]) =
    bI (gP 2 3) bT rest [a0,some (.obj G.length),c2,c3,c4] (G++[.lst ((zC++[p++r]).map pl)])
 | [],p,q,j,ini,b2,b3,b4,rest,h,hp,hi=>by
  obtain ⟨r,hr⟩:∃ r,q=p++r:=by
   rcases h with ⟨_,rfl⟩ | ⟨i,r,_,rfl⟩
   ·exact ⟨[],by simp⟩
   ·exact ⟨_,rfl⟩
  subst hr
  exact ⟨b2,b3,b4,ini,r,by simp [bU],by simp [fS]⟩
 | t::ts,p,q,j,ini,b2,b3,b4,rest,h,hp,hi=>by
  rw [bQ,YO] at hp hi
  obtain ⟨c2,c3,c4,Qf,r1,e1,f1⟩:=Jj G a0 t p q j ini b2 b3 b4 ((fS (p.length+1) ts).map row++rest) h (by nofun) (by nofun)
  have hlen:Qf.length=ini.length+(t.prs (p++[j])).length:=by
   have:=congrArg aag e1
   simp at this;nofun
  have hpl:(t.prs (p++[j])).length=t.subs.length:=by rw [← fR (p++[j]) t,YL]
  obtain ⟨d2,d3,d4,Tr,r2,e2,f2⟩:=vG G a0 ts p (p++j::r1) (j+1) Qf c2 c3 c4 rest (.inr ⟨j,r1,rfl,rfl⟩) (by nofun) (by nofun)
  refine ⟨d2,d3,d4,Tr,r2,?_,?_⟩
  ·rw [e2,e1,bU];simp
  ·rw [fS,YS,ZD,f1,f2]
end
theorem Cc (p:List Int):(pl p).closed=true:=by rw [pl,d7];exact ay λ_=>aV
theorem Fd (t:T) (ht:t.subs.length≤100) (G:DH):gF [.con ((t.pre 0).map row)] G=.ok (.con (((t.prs []).map (·.1)).map pl)) G:=by
 obtain ⟨k,ps⟩:=t
 rw [T.subs,Yy] at ht
 have z1:(1:Nat)≤Yx:=lz (by nofun)
 obtain ⟨c2,c3,c4,ini,r,e1,e2⟩:=vG G (some (.con (((T.nd k ps).pre 0).map row))) ps [] [] 0 [] none none none [] (.inl ⟨rfl,rfl⟩) (by simp;nofun) (by simp;nofun)
 have e3:(((T.nd k ps).prs []).map (·.1))=ini++[[]++r]:=by rw [e1,T.prs];simp
 rw [e3]
 rw [Y4,cG] at e2
 generalize (ini++[[]++r])=L at e2
 refine fB (R:=[.dead]) ?_ (by rw [aL];exact ay Cc)
 have hpre:((T.nd k ps).pre 0).map row=row (0,k)::(fS 1 ps).map row:=by rw [T.pre,Yv]
 have hl:(fS 1 ps).length=(bQ ps).length:=rq 1 ps
 simp only [YR,abT] at e2
 have hsl:∀ τ G,eFn (jo (af 0) (bh (eC (.int 1))) (cL)) (some (.con (((T.nd k ps).pre 0).map row))::τ) G=.ok (.con ((fS 1 ps).map row)) G:=λτ G=>by
  rw [bP]
  have hs:HT.eW (((T.nd k ps).pre 0).map row).length 0 (some 1)=1:=by
   have:=HT.oK (((T.nd k ps).pre 0).map row).length 0 1
   rw [show ((1:Nat):Int)=1 from rfl] at this
   rw [this,hpre];simp
  have qh:cutD (((T.nd k ps).pre 0).map row) (some 1) none=(fS 1 ps).map row:=by
   unfold cutD
   rw [hs,HT.jV,hpre];simp
   exact acD (by simp)
  have e:jo (af 0) (bh (eC (.int 1))) (cL) (some (.con (((T.nd k ps).pre 0).map row))::τ) G=aS ((fS 1 ps).map row) G:=by
   simp only [sY,aQ,YF,aj,ah,iC,cJ,kJ,oV,yo,aD,qh]
  rw [e,cT (lz (by simp;nofun)) (ay λp=>by rw [row,d7];simp [aR,aV,bY,dw])]
 generalize ((T.nd k ps).pre 0).map row=xs at e2 hsl
 generalize (fS 1 ps).map row=ys at e2 hsl
 have hn:aS [.tup []] G=.ok (.obj G.length) (G++[.lst [.tup []]]):=by simp [aS,z1]
 have ep:([[]]:List (List Int)).map pl=[.tup []]:=rfl
 simp only [YT,ep] at e2
 generalize hE:eFn (jo (af 0) (bh (eC (.int 1))) (cL))=E at hsl
 unfold jD
 rw [hE]
 simp! [hn,hsl,e2]
noncomputable def gf (x:List Int×T):D:=.tup [pl x.1,x.2.d]
theorem gZ (p:List Int):(pl p).closed=true:=by rw [pl,d7];exact ay λ_=>aV
theorem g6 (x:List Int×T):(gf x).closed=true:=by
 rw [gf,d7,aR,aR,gZ,kj];rfl
noncomputable def kids (p:List Int) (j:Int):List T→List (List Int×T)
 | []=>[]
 | t::r=>(p++[j],t)::kids p (j+1) r
theorem xV (p:List Int):∀ (ts:List T) (j:Int),(kids p j ts).length=ts.length
 | [],j=>rfl
 | t::r,j=>by rw [kids,Yy,xV p r,Yy]
theorem tV (p:List Int):∀ (ts:List T) (j:Int),bU p j ts=(kids p j ts).flatMap λx=>x.2.prs x.1
 | [],j=>rfl
 | t::r,j=>by rw [bU,kids,ab9,tV p r]
noncomputable def kf (p:List Int):D→D
 | .tup [.int i,y]=>.tup [.tup (p.map .int++[.int i]),y]
 | _=>.dP
noncomputable def Fe:D→List D
 | .tup xs=>xs
 | _=>[]
theorem xW (p:List Int):∀ (ts:List T) (j:Nat),((dL ts).mapIdx λi x=>D.tup [.int ((i+j:Nat):Int),x]).map (kf p)=(kids p (j:Int) ts).map gf
 | [],j=>rfl
 | t::r,j=>by
  have ih:=xW p r (j+1)
  rw [dL,kids,abC,Yv,Yv]
  congr 1
  ·simp [kf,gf,pl]
  ·rw [show ((j+1:Nat):Int)=(j:Int)+1 by nofun] at ih
   rw [← ih]
   congr 1
   apply adx
   intro i
   simp only [aaW]
   congr 1
   funext x
   rw [show i+1+j=i+(j+1) by nofun]
theorem Ff (p:List Int) (k:Str) (ps:List T) (hp:p.length≤1000) (hs:ps.length≤1000) (G:DH):bq [gf (p,.nd k ps)] G=.ok (.con ((kids p 0 ps).map gf)) G:=by
 have z1:(1:Nat)≤Yx:=lz (by nofun)
 have z2:(2:Nat)≤Yx:=lz (by nofun)
 have US:gf (p,.nd k ps)=.tup [.tup (p.map .int),.tup [.str k,.tup (dL ps)]]:=by rw [gf,T.d];rfl
 have hdl:(dL ps).length=ps.length:=by rw [rm,YL]
 have a0:∀ (x y:D),kB [x,y] 0=some x:=λx y=>by
  have:=dQ (xs:=[x,y]) (j:=0) (v:=x) rfl
  simpa using this
 have a1:∀ (x y:D),kB [x,y] 1=some y:=λx y=>by
  have:=dQ (xs:=[x,y]) (j:=1) (v:=y) rfl
  simpa using this
 have km:=xW p ps 0
 simp only [Nat.add_zero,adN] at km
 have c1:=bH (τ:=[some (gf (p,.nd k ps))]) (G:=G) (gO:=oT 2) (ks:=[true]) (te:=ak bx (aa (ao aE (ao bg (af 2) (eC (.int 0))) (ak bx (aa (af 0) (ai)))) (aa (af 1) (ai)))) (own:=Fe) (f:=kf p) ((dL ps).mapIdx λi x=>D.tup [.int (i:Int),x]) [] (by simp;nofun) (λx hx=>by
   obtain ⟨i,hi,rfl⟩:=acI.mp hx
   simp [oT,Fe]) (λx hx acc=>by
   obtain ⟨i,hi,rfl⟩:=acI.mp hx
   rw [US]
   have hA:=Cb (p.map .int) [.int (i:Int)] (G++[.lst acc]) (lz (by simp;nofun))
   generalize (dL ps)[i]=y
   simp only [Fe,kf] at hA ⊢
   generalize p.map D.int=pp at hA ⊢
   simp only [ Yv,YY,mask,Zf,YT,if_true,aY,aA,aI,aX,aQ,cJ,YJ,YF,aj,ah,aN,bg,aD,a0,bx,Yy,YR,if_pos (show 0+1≤Yx from z1),if_pos (show 0+1+1≤Yx from z2),hA])
 rw [km,YT] at c1
 refine bz ?_ (by rw [aL];exact ay g6)
 have e2:eFn (dY (oT 2) [true] (cV (aa (ao bg (ao bg (af 0) (eC (.int 1))) (eC (.int 1))) (ai))) (bV) (ak bx (aa (ao aE (ao bg (af 2) (eC (.int 0))) (ak bx (aa (af 0) (ai)))) (aa (af 1) (ai))))) [some (gf (p,.nd k ps))] G=.ok (.con ((kids p 0 ps).map gf)) G:=by
  rw [bP]
  have e3:dY (oT 2) [true] (cV (aa (ao bg (ao bg (af 0) (eC (.int 1))) (eC (.int 1))) (ai))) (bV) (ak bx (aa (ao aE (ao bg (af 2) (eC (.int 0))) (ak bx (aa (af 0) (ai)))) (aa (af 1) (ai)))) [some (gf (p,.nd k ps))] G=.ok (.obj G.length) (G++[.lst ((kids p 0 ps).map gf)]):=by
   rw [← c1,← yY]
   have hq:∀ G,cV (aa (ao bg (ao bg (af 0) (eC (.int 1))) (eC (.int 1))) (ai)) [some (gf (p,.nd k ps))] G=.ok ((dL ps).length+1,j7 (dL ps)) G:=λG=>by
    rw [US]
    simp only [j8,aA,aI,aX,aQ,cJ,YF,aj,ah,aN,bg,aD,a1]
   rw [qf,hq,aj]
  rw [e3,dZ (ay g6)]
 unfold gT
 simp only [f6,Yv,YY,Yy,YR,acE,aa2,Y4,eU,e2,gx,gz]
noncomputable def tot:List (List Int×T)→Nat
 | []=>0
 | x::r=>x.2.subs.length+tot r
theorem vH:∀ xs ys:List (List Int×T),tot (xs++ys)=tot xs+tot ys
 | [],ys=>by simp [tot]
 | x::xs,ys=>by rw [Zf,tot,tot,vH xs ys];nofun
theorem xX (p:List Int):∀ (ts:List T) (j:Int),tot (kids p j ts)=(bQ ts).length
 | [],j=>rfl
 | t::r,j=>by rw [kids,tot,xX p r,bQ,YO]
theorem mK (t:T):1≤t.subs.length:=by cases t;rw [T.subs,Yy];nofun
theorem nF:∀ ts:List T,ts.length≤(bQ ts).length
 | []=>Zq _
 | t::r=>by
  have:=mK t
  have:=nF r
  rw [bQ,YO,Yy];nofun
theorem AF:∀ ws:List (List Int×T),ws.length≤tot ws
 | []=>Zq _
 | x::r=>by
  have:=mK x.2
  have:=AF r
  rw [tot,Yy];nofun
theorem Qg:Zy ("placed_parts":Str) [("placed_parts",bq),("look_parts",bE)]=some bq:=by simp [Zy]
theorem n8 {y:Str} {mp:List D→M D} (hlk:Zy y [("placed_parts",bq),("look_parts",bE)]=some mp) (A:DH) (a0 a4:Option D) (F R P:List D) (d:D) (hp:∀ H,mp [d] H=.ok (.con P) H) (hcl:aH P=true) (hF:F.length≤1000) (hR:R.length+P.length≤2000) :
  dJ [a0,some (.fn y),some (.obj A.length),some (.obj (A.length+1)),a4] (A++[.lst F,.lst (R++[d])])=.nx [a0,some (.fn y),some (.obj A.length),some (.obj (A.length+1)),some d] (A++[.lst (F++[d]),.lst (R++P.reverse)]):=by
 have z1:F.length<Yx:=YG (by nofun) (lz (n:=1001) (by nofun))
 have z2:R.length+P.reverse.length≤Yx:=lz (by simp;nofun)
 have z3:P.reverse.length≤Yx:=lz (by simp;nofun)
 have e1:∀ H,eFn (ak kZ (aa (ju 1 1 (λy=>Zy y [("placed_parts",bq),("look_parts",bE)]) (aa (af 4) (ai))) (ai))) [a0,some (.fn y),some (.obj A.length),some (.obj (A.length+1)),some d] H=.ok (.con P.reverse) H:=λH=>by
  rw [bP]
  simp only [aY,aA,aI,D6,bO,aQ,YJ,YF,hlk,aj,ah,aN,Yy,YR,if_true,hp,kZ,aD]
  rw [cT z3 (jI hcl)]
 generalize hE:eFn (ak kZ (aa (ju 1 1 (λy=>Zy y [("placed_parts",bq),("look_parts",bE)]) (aa (af 4) (ai))) (ai)))=E at e1
 have hg:(R++[d])[(R++[d]).length - 1]?=some d:=by simp
 have hd:(R++[d]).dropLast=R:=by simp
 unfold dJ
 rw [hE]
 simp only [aT,bG,iB,gj,aQ,YJ,YF,aj,dB,p8,J5,beq_self_eq_true,if_true,aI,uB,hg,hd,Sx,cS,bJ,Zc,Za,aA,ah,aN,aU,if_pos z1,vU,j5,e1,wQ,m9,if_pos z2]
theorem n9 (A:DH) (a0:Option D):∀ (n:Nat) (F:List (List Int×T)) (ws:List (List Int×T)) (a4:Option D),tot ws<n→F.length+tot ws≤1000→(∀ x∈ws,x.1.length+x.2.subs.length≤1000) →
  ∃ b4,fF (g8 (ao Bg (ak cC (aa (af 3) (ai))) (eC (.int 0)))) dJ n [a0,some (.fn "placed_parts"),some (.obj A.length),some (.obj (A.length+1)),a4] (A++[.lst (F.map gf),.lst (ws.map gf).reverse]) =
   .nx [a0,some (.fn "placed_parts"),some (.obj A.length),some (.obj (A.length+1)),b4] (A++[.lst ((F++ws.flatMap λx=>x.2.prs x.1).map gf),.lst []])
 | 0,F,ws,a4,h,_,_=>by nofun
 | n+1,F,[],a4,h,hF,hw=>by
  refine ⟨a4,?_⟩
  simp only [l6,gy,aX,aY,aA,aI,aQ,cJ,YJ,YF,aj,ah,aN,cC,aD,J5,YY,acp,YR,cK,if_true,eV,adO,Y4]
  rw [show decide ((0:Int)<((0:Nat):Int))=false from by decide,uG,kI]
 | n+1,F,(p,.nd k ps)::ws,a4,h,hF,hw=>by
  have h0:=hw (p,.nd k ps) (by simp)
  simp only [T.subs,Yy] at h0
  rw [tot] at h hF
  simp only [T.subs,Yy] at h hF
  have hl:=nF ps
  have hk:=xX p ps 0
  have hlt:=AF ws
  have Bp:=xV p ps 0
  obtain ⟨b4,e2⟩:=n9 A a0 n (F++[(p,.nd k ps)]) (kids p 0 ps++ws) (some (gf (p,.nd k ps))) (by rw [vH];nofun) (by rw [vH];simp;nofun) (λx hx=>by
   rcases Zk.mp hx with hx | hx
   ·have key:∀ (ts:List T) (j:Int),x∈kids p j ts→x.1.length=p.length+1∧x.2.subs.length≤(bQ ts).length:=by
     intro ts
     induction ts with
     | nil=>intro j hx;simp [kids] at hx
     | cons t r ih=>
      intro j hx
      rw [kids] at hx
      rw [bQ,YO]
      rcases Y6.mp hx with rfl | hx
      ·exact ⟨by simp,by simp⟩
      ·obtain ⟨i1,i2⟩:=ih _ hx
       exact ⟨i1,by nofun⟩
    obtain ⟨i1,i2⟩:=key ps 0 hx
    nofun
   ·exact hw x (by simp [hx]))
  refine ⟨b4,?_⟩
  have e1:=n8 Qg A a0 a4 (F.map gf) (ws.map gf).reverse ((kids p 0 ps).map gf) (gf (p,.nd k ps)) (Ff p k ps (by nofun) (by nofun)) (ay g6) (by simp;nofun) (by simp;nofun)
  have er:(((p,T.nd k ps)::ws).map gf).reverse=(ws.map gf).reverse++[gf (p,.nd k ps)]:=by simp
  have W9:((ws.map gf).reverse++((kids p 0 ps).map gf).reverse)=((kids p 0 ps++ws).map gf).reverse:=by simp
  have ef:F.map gf++[gf (p,T.nd k ps)]=(F++[(p,T.nd k ps)]).map gf:=by simp
  have eb:(F++((p,T.nd k ps)::ws).flatMap λx=>x.2.prs x.1)=(F++[(p,.nd k ps)]++(kids p 0 ps++ws).flatMap λx=>x.2.prs x.1):=by
   rw [ab9,T.prs,List.flatMap_append,← tV];simp
  rw [W9,ef] at e1
  rw [er,eb]
  have hpos:decide ((0:Int)<(((ws.map gf).reverse++[gf (p,.nd k ps)]).length:Int))=true:=by simp
  have et:g8 (ao Bg (ak cC (aa (af 3) (ai))) (eC (.int 0))) [a0,some (.fn "placed_parts"),some (.obj A.length),some (.obj (A.length+1)),a4] (A++[.lst (F.map gf),.lst ((ws.map gf).reverse++[gf (p,.nd k ps)])])=.ok true (A++[.lst (F.map gf),.lst ((ws.map gf).reverse++[gf (p,.nd k ps)])]):=by
   generalize (ws.map gf).reverse++[gf (p,.nd k ps)]=L at hpos
   simp only [gy,aX,aY,aA,aI,aQ,cJ,YJ,YF,aj,ah,aN,cC,aD,J5,cK,if_true,eV,hpos]
  rw [l6,et,uF,J7,e1,cM,e2]
theorem Cd (t:T) (ht:t.subs.length≤500) (G:DH):eB [gf ([],t),.fn "placed_parts"] G=.ok (.con ((t.prs []).map gf)) G:=by
 have z1:(1:Nat)≤Yx:=lz (by nofun)
 obtain ⟨b4,e⟩:=n9 G (some (gf ([],t))) fuel [] [([],t)] none (by simp [tot,fuel];nofun) (by simp [tot];nofun) (λx hx=>by rw [Y7.mp hx];simp;nofun)
 simp only [YY,Yv,ZH,acp,YT,ab9,adO,Y4] at e
 refine fB (R:=[.dead,.lst []]) ?_ (by rw [aL];exact ay g6)
 have hn:aS [] G=.ok (.obj G.length) (G++[.lst []]):=by simp [aS]
 generalize (t.prs []).map gf=L at e
 generalize gf ([],t)=d at e
 have hn2:aS [d] (G++[.lst []])=.ok (.obj (G.length+1)) (G++[.lst [],.lst [d]]):=by simp [aS,z1]
 unfold gG
 simp! [hn,hn2,e]
theorem tW (t:T) (ht:t.subs.length≤500) (G:DH):cH [t.d] G=.ok (.con ((t.prs []).map gf)) G:=by
 have z0:(0:Nat)≤Yx:=Zq _
 have z2:(2:Nat)≤Yx:=lz (by nofun)
 have e:=Cd t ht G
 have ep:gf ([],t)=.tup [.tup [],t.d]:=rfl
 rw [ep] at e
 refine bz ?_ (by rw [aL];exact ay g6)
 generalize t.d=d at e
 unfold gY
 simp! [e,z2]
noncomputable def Qh:D→D
 | .tup [x,_]=>x
 | _=>.dP
theorem xY (t:T) (ht:t.subs.length≤500) (G:DH):cj (oT 2) [] (aq 1 cH (aa (af 0) (ai))) (bV) (af 0) [some t.d] G=.ok (.obj G.length) (G++[.lst (((t.prs []).map (·.1)).map pl)]):=by
 have hl:(t.prs []).length=t.subs.length:=by rw [← fR [] t,YL]
 have c1:=bH (τ:=[some t.d]) (G:=G) (gO:=oT 2) (ks:=[]) (te:=af 0) (own:=Fe) (f:=Qh) ((t.prs []).map gf) [] (by simp;nofun) (λx hx=>by
   obtain ⟨y,_,rfl⟩:=YX.mp hx
   rfl) (λx hx acc=>by
   obtain ⟨y,_,rfl⟩:=YX.mp hx
   rfl)
 have ef:((t.prs []).map gf).map Qh=((t.prs []).map (·.1)).map pl:=by
  rw [YW,YW];rfl
 rw [ef,YT] at c1
 have e:=tW t ht G
 rw [← c1]
 generalize ((t.prs []).map gf)=L at e
 generalize t.d=d at e
 simp only [gD,bO,aA,aI,aQ,YF,aj,ah,aN,Yy,YR,if_true,e]
theorem places_eq (t:T) (ht:t.subs.length≤500) (G:DH):aZ [t.d] G=.ok (.con (((t.prs []).map (·.1)).map pl)) G:=by
 have hc:aH (((t.prs []).map (·.1)).map pl)=true:=ay gZ
 refine bz ?_ (by rw [aL];exact hc)
 have e:=xY t ht G
 have e2:eFn (cj (oT 2) [] (aq 1 cH (aa (af 0) (ai))) (bV) (af 0)) [some t.d] G=.ok (.con (((t.prs []).map (·.1)).map pl)) G:=by rw [bP,e,dZ hc]
 unfold jG
 simp only [f6,Yv,YY,Yy,YR,acE,aa2,Y4,eU,e2,gx,gz]
theorem rH (p:List Int):∀ (ts:List T) (j:Int) (x:List Int×T),x∈bU p j ts→∃ (i:Nat) (t:T),ts[i]?=some t∧x∈t.prs (p++[j+(i:Int)])
 | [],j,x,h=>by simp [bU] at h
 | t::r,j,x,h=>by
  rw [bU] at h
  rcases Zk.mp h with h | h
  ·exact ⟨0,t,rfl,by simpa using h⟩
  ·obtain ⟨i,t',e,m⟩:=rH p r (j+1) x h
   refine ⟨i+1,t',by simpa using e,?_⟩
   rw [show j+((i+1:Nat):Int)=j+1+(i:Int) by nofun];exact m
theorem vI:∀ (ts:List T) (i:Nat) (t:T),ts[i]?=some t→t.subs.length≤(bQ ts).length
 | [],i,t,h=>by simp at h
 | x::r,0,t,h=>by
  simp at h;subst h
  rw [bQ,YO];nofun
 | x::r,i+1,t,h=>by
  have:=vI r i t (by simpa using h)
  rw [bQ,YO];nofun
theorem Jk (k:Str) (ps:List T) (i:Nat) (t:T) (h:ps[i]?=some t) (b1:Option D) (G:DH):gS [some (T.nd k ps).d,b1,some (.int (i:Int))] G=.nx [some t.d,b1,some (.int (i:Int))] G:=by
 have a1:∀ (x y:D),kB [x,y] 1=some y:=λx y=>by
  have:=dQ (xs:=[x,y]) (j:=1) (v:=y) rfl
  simpa using this
 have a2:kB (dL ps) (i:Int)=some t.d:=by
  refine dQ ?_
  rw [rm,YK,h];rfl
 rw [T.d]
 generalize t.d=d at a2
 unfold gS
 simp only [bG,aX,aQ,cJ,YJ,YF,aj,ah,bg,aD,a1,a2,cS,Za]
theorem AG (b1:Option D) (G:DH):∀ (n:Nat) (t:T) (p:List Int) (x:List Int×T),t.subs.length≤n→x∈t.prs p→∃ w:List Int,x.1=p++w∧∀ b2,∃ c2,bI (gN 2) gS (w.map .int) [some t.d,b1,b2] G=.nx [some x.2.d,b1,c2] G
 | 0,t,p,x,hn,h=>by have:=mK t;nofun
 | n+1,.nd k ps,p,x,hn,h=>by
  rw [T.prs] at h
  rcases Y6.mp h with rfl | h
  ·exact ⟨[],by simp,λb2=>⟨b2,by simp [bI]⟩⟩
  ·obtain ⟨i,t,e,m⟩:=rH p ps 0 x h
   have hs:=vI ps i t e
   rw [T.subs,Yy] at hn
   obtain ⟨w,e1,e2⟩:=AG b1 G n t _ x (by nofun) m
   refine ⟨(0+(i:Int))::w,by rw [e1];simp,λb2=>?_⟩
   obtain ⟨c2,e3⟩:=e2 (some (.int (i:Int)))
   refine ⟨c2,?_⟩
   rw [Yv,aO rfl]
   have:=Jk k ps i t e b1 G
   simp only [Zc,Za,acC,this,cM]
   exact e3
theorem Fg (t:T) (x:List Int×T) (h:x∈t.prs []) (G:DH):d8 [t.d,pl x.1] G=.ok x.2.d G:=by
 obtain ⟨w,e1,e2⟩:=AG (some (pl x.1)) G _ t [] x (YE _) h
 obtain ⟨c2,e3⟩:=e2 none
 rw [YT] at e1
 refine bz ?_ (kj _)
 have hp:pl x.1=.tup (w.map .int):=by rw [e1];rfl
 rw [hp] at e3 ⊢
 generalize x.2.d=y at e3
 generalize t.d=z at e3
 generalize w.map D.int=ws at e3
 unfold nt
 simp! [e3]
theorem ko (p:List Int):(pl p).plain=true:=by
 rw [pl,D.plain]
 exact ng λx hx=>by
  obtain ⟨i,_,rfl⟩:=YX.mp hx
  simp [D.plain]
theorem Fi (p:List Int):(pl p).dp≤1:=by
 rw [pl,D.dp]
 have:yq (p.map D.int)≤0:=y9 λx hx=>by
  obtain ⟨i,_,rfl⟩:=YX.mp hx
  simp [D.dp]
 nofun
theorem tX (ps:List (List Int)):cY (ps.map pl)=true:=ng λx hx=>by
 obtain ⟨p,_,rfl⟩:=YX.mp hx
 exact ko p
theorem Fj (ps:List (List Int)):yq (ps.map pl)≤1:=y9 λx hx=>by
 obtain ⟨p,_,rfl⟩:=YX.mp hx
 exact Fi p
noncomputable def fL (p q:List Int):Bool:=decide (p.length<q.length)&&(q.take p.length==p)
noncomputable def iJ (p q:List Int):Bool:=(q.length==p.length+1)&&(q.take p.length==p)
noncomputable def T.parts:T→List T
 | .nd _ ps=>ps
mutual
theorem vJ:∀ (t:T) (r:List Int) (x:List Int×T),x∈t.prs r→∃ w,x.1=r++w
 | .nd k ps,r,x,h=>by
  rw [T.prs] at h
  rcases Y6.mp h with rfl | h
  ·exact ⟨[],by simp⟩
  ·obtain ⟨i,w,_,e⟩:=g7 ps r 0 x h
   exact ⟨i::w,e⟩
theorem g7:∀ (ts:List T) (r:List Int) (j:Int) (x:List Int×T),x∈bU r j ts→∃ i w,j≤i∧x.1=r++i::w
 | [],r,j,x,h=>by simp [bU] at h
 | t::ts,r,j,x,h=>by
  rw [bU] at h
  rcases Zk.mp h with h | h
  ·obtain ⟨w,e⟩:=vJ t _ x h
   exact ⟨j,w,Int.le_refl _,by rw [e];simp⟩
  ·obtain ⟨i,w,h1,e⟩:=g7 ts r (j+1) x h
   exact ⟨i,w,by nofun,e⟩
end
theorem xZ (r:List Int) (i:Int) (w:List Int):fL r (r++i::w)=true:=by simp [fL]
theorem jJ (r:List Int) (i j:Int) (v w:List Int) (h:i≠j):fL (r++i::v) (r++j::w)=false:=by
 unfold fL
 rw [Bool.and_eq_false_iff]
 right
 have e:(r++j::w).take (r++i::v).length=r++j::w.take v.length:=by
  rw [YO,Yy,List.take_length_add_append]
  rw [List.take_succ_cons]
 rw [e]
 rw [beq_eq_false_iff_ne]
 intro z
 have:=abc z
 exact h (aaE this).1.symm
theorem jK (p q:List Int) (h:q.length≤p.length):fL p q=false:=by
 unfold fL
 rw [decide_eq_false (by nofun),acQ]
theorem filter_none {α:Type} {f:α→Bool} {l:List α} (h:∀ x∈l,f x=false):l.filter f=[]:=List.filter_eq_nil_iff.mpr λx hx=>by rw [h x hx];decide
theorem filter_all {α:Type} {f:α→Bool} {l:List α} (h:∀ x∈l,f x=true):l.filter f=l:=List.filter_eq_self.mpr h
mutual
theorem zD:∀ (t:T) (r:List Int) (x:List Int×T),x∈t.prs r→((t.prs r).map (·.1)).filter (fL x.1)=(bU x.1 0 x.2.parts).map (·.1)
 | .nd k ps,r,x,h=>by
  rw [T.prs] at h ⊢
  rw [Yv]
  rcases Y6.mp h with rfl | h
  ·rw [ZN (by rw [jK _ _ (YE _)];decide)]
   refine filter_all λq hq=>?_
   obtain ⟨y,hy,rfl⟩:=YX.mp hq
   obtain ⟨i,w,_,e⟩:=g7 ps r 0 y hy
   rw [e];exact xZ _ _ _
  ·obtain ⟨i,w,_,e⟩:=g7 ps r 0 x h
   rw [ZN (by rw [jK _ _ (by rw [e];simp)];decide)]
   exact Fl ps r 0 x h
theorem Fl:∀ (ts:List T) (r:List Int) (j:Int) (x:List Int×T),x∈bU r j ts→((bU r j ts).map (·.1)).filter (fL x.1)=(bU x.1 0 x.2.parts).map (·.1)
 | [],r,j,x,h=>by simp [bU] at h
 | t::ts,r,j,x,h=>by
  rw [bU] at h ⊢
  rw [YS,adb]
  rcases Zk.mp h with h | h
  ·obtain ⟨w,e⟩:=vJ t _ x h
   rw [zD t _ x h,filter_none,Y4]
   intro q hq
   obtain ⟨y,hy,rfl⟩:=YX.mp hq
   obtain ⟨i,v,hi,ey⟩:=g7 ts r (j+1) y hy
   rw [e,ey,show r++[j]++w=r++j::w by simp]
   exact jJ r j i w v (by nofun)
  ·obtain ⟨i,v,hi,ex⟩:=g7 ts r (j+1) x h
   rw [Fl ts r (j+1) x h,filter_none,YT]
   intro q hq
   obtain ⟨y,hy,rfl⟩:=YX.mp hq
   obtain ⟨w,ey⟩:=vJ t _ y hy
   rw [ex,ey,show r++[j]++w=r++j::w by simp]
   exact jJ r i j v w (by nofun)
end
theorem jL (p q:List Int):iJ p q=(fL p q&&(q.length==p.length+1)):=by
 unfold iJ fL
 by_cases h:q.length=p.length+1
 ·rw [h];simp
 ·have:(q.length==p.length+1)=false:=by simpa using h
  rw [this];simp
theorem oh (p:List Int):∀ (ts:List T) (j:Int),((bU p j ts).map (·.1)).filter (λq=>q.length==p.length+1)=(kids p j ts).map (·.1)
 | [],j=>rfl
 | t::ts,j=>by
  rw [bU,kids,YS,adb,oh p ts (j+1),Yv]
  have:((t.prs (p++[j])).map (·.1)).filter (λq=>q.length==p.length+1)=[p++[j]]:=by
   obtain ⟨k,ps⟩:=t
   rw [T.prs,Yv,ZO (by simp),filter_none]
   intro q hq
   obtain ⟨y,hy,rfl⟩:=YX.mp hq
   obtain ⟨i,w,_,e⟩:=g7 ps _ 0 y hy
   rw [e];simp
  rw [this];rfl
theorem Fo (t:T) (r:List Int) (x:List Int×T) (h:x∈t.prs r):((t.prs r).map (·.1)).filter (iJ x.1)=(kids x.1 0 x.2.parts).map (·.1):=by
 have e:iJ x.1=λq=>fL x.1 q&&(q.length==x.1.length+1):=funext (jL x.1)
 rw [e,← oh,← zD t r x h,ade]
 congr 1
 funext q
 rw [Bool.and_comm]
theorem lI (p:List Int):∀ (ts:List T) (j:Nat),(kids p (j:Int) ts).map (·.1)=(Y8 j ts.length).map λ(k:Nat)=>p++[(k:Int)]
 | [],j=>rfl
 | t::ts,j=>by
  rw [kids,Yy,Z1,Yv,Yv]
  have:=lI p ts (j+1)
  rw [show ((j+1:Nat):Int)=(j:Int)+1 by nofun] at this
  rw [this]
theorem kM (a:List Int) (i:Int):(a++[i]).getLastD 0=i:=by simp [ab2]
noncomputable def c8 (p q:List Int):Bool:=(q.length==p.length)&&((q.dropLast==p.dropLast)&&decide (p.getLastD 0<q.getLastD 0))
theorem x6 (a:List Int) (i:Int) (q:List Int):c8 (a++[i]) q=(iJ a q&&decide (i<q.getLastD 0)):=by
 unfold c8 iJ
 by_cases h:q.length=a.length+1
 ·have hd:q.dropLast=q.take a.length:=by rw [aaO,h];rfl
  have h1:(q.length==(a++[i]).length)=true:=by simp [h]
  have h2:(q.length==a.length+1)=true:=by simp [h]
  rw [h1,h2,hd]
  have h3:(a++[i]).dropLast=a:=by simp
  have h4:(a++[i]).getLastD 0=i:=kM a i
  rw [h3,h4];simp
 ·have h1:(q.length==(a++[i]).length)=false:=by simpa using h
  have h2:(q.length==a.length+1)=false:=by simpa using h
  rw [h1,h2];simp
theorem mL (i0:Nat):∀ (n j:Nat),j≤i0+1→(Y8 j n).filter (λ(k:Nat)=>decide (i0<k))=Y8 (i0+1) (j+n - (i0+1))
 | 0,j,h=>by
  have:j+0 - (i0+1)=0:=by nofun
  rw [this];rfl
 | n+1,j,h=>by
  rw [Z1]
  by_cases hj:j≤i0
  ·rw [ZN (by simp;nofun),mL i0 n (j+1) (by nofun)]
   congr 1;nofun
  ·have e:j=i0+1:=by nofun
   subst e
   rw [ZO (by simp),filter_all (λk hk=>by
    have:=List.mem_range'.mp hk
    obtain ⟨m,_,rfl⟩:=this
    simp;nofun)]
   have:i0+1+(n+1) - (i0+1)=n+1:=by nofun
   rw [this,Z1]
theorem Jl (t:T) (r a:List Int) (s:T) (i0:Nat) (h:(a,s)∈t.prs r):((t.prs r).map (·.1)).filter (c8 (a++[(i0:Int)]))=(Y8 (i0+1) (s.parts.length - (i0+1))).map λ(k:Nat)=>a++[(k:Int)]:=by
 have e:c8 (a++[(i0:Int)])=λq=>iJ a q&&decide ((i0:Int)<q.getLastD 0):=funext (x6 a i0)
 have e2:((t.prs r).map (·.1)).filter (λq=>iJ a q&&decide ((i0:Int)<q.getLastD 0))=(((t.prs r).map (·.1)).filter (iJ a)).filter λq=>decide ((i0:Int)<q.getLastD 0):=by
  rw [ade]
  congr 1
  funext q
  rw [Bool.and_comm]
 have hk:=lI a s.parts 0
 rw [show ((0:Nat):Int)=0 from rfl] at hk
 rw [e,e2,Fo t r (a,s) h,hk,adW]
 have e3:((λq:List Int=>decide ((i0:Int)<q.getLastD 0))∘λ(k:Nat)=>a++[(k:Int)])=λ(k:Nat)=>decide (i0<k):=by
  funext k
  simp only [abE,kM]
  by_cases h:i0<k
  ·rw [decide_eq_true h,decide_eq_true (by nofun)]
  ·rw [decide_eq_false h,decide_eq_false (by nofun)]
 rw [e3,mL i0 s.parts.length 0 (by nofun),abT]
theorem x8 (r:List Int):∀ (ts:List T) (j:Int) (i:Nat) (t:T) (y:List Int×T),ts[i]?=some t→y∈t.prs (r++[j+(i:Int)])→y∈bU r j ts
 | [],j,i,t,y,h,hy=>by simp at h
 | x::ts,j,0,t,y,h,hy=>by
  simp at h;subst h
  rw [bU]
  refine Zk.mpr (.inl ?_)
  simpa using hy
 | x::ts,j,i+1,t,y,h,hy=>by
  rw [bU]
  refine Zk.mpr (.inr (x8 r ts (j+1) i t y (by simpa using h) ?_))
  rw [show j+1+(i:Int)=j+((i+1:Nat):Int) by nofun];exact hy
theorem above:∀ (n:Nat) (t:T) (r:List Int) (x:List Int×T),t.subs.length≤n→x∈t.prs r→x=(r,t)∨∃ (a:List Int) (i:Nat) (s:T),x.1=a++[(i:Int)]∧(a,s)∈t.prs r∧i<s.parts.length
 | 0,t,r,x,hn,h=>by have:=mK t;nofun
 | n+1,.nd k ps,r,x,hn,h=>by
  rw [T.prs] at h
  rcases Y6.mp h with h | h
  ·exact .inl h
  ·obtain ⟨i,t,e,m⟩:=rH r ps 0 x h
   have hs:=vI ps i t e
   rw [T.subs,Yy] at hn
   right
   rcases above n t _ x (by nofun) m with hx | ⟨a,i',s,e1,e2,e3⟩
   ·exact ⟨r,i,.nd k ps,by rw [hx];simp,by rw [T.prs];simp,(Yw.mp e).1⟩
   ·refine ⟨a,i',s,e1,?_,e3⟩
    rw [T.prs]
    exact Zl _ (x8 r ps 0 i t _ e e2)
mutual
theorem Ce (p:List Int):∀ (t:T) (r:List Int),(t.prs (p++r)).map (·.1)=((t.prs r).map (·.1)).map (p++·)
 | .nd k ps,r=>by rw [T.prs,T.prs,Yv,Yv,Yv,lJ p ps r 0]
theorem lJ (p:List Int):∀ (ts:List T) (r:List Int) (j:Int),(bU (p++r) j ts).map (·.1)=((bU r j ts).map (·.1)).map (p++·)
 | [],r,j=>rfl
 | t::ts,r,j=>by
  have:=Ce p t (r++[j])
  rw [← ZD] at this
  rw [bU,bU,YS,YS,YS,this,lJ p ts r (j+1)]
end
theorem x9:∀ p q:List Int,aaN (oY (p.map .int)) (oY (q.map .int))=(p==q)
 | [],[]=>rfl
 | [],y::q=>by rw [YY,Yv,oY,oY,aaN];rfl
 | x::p,[]=>by rw [YY,Yv,oY,oY,aaN];rfl
 | x::p,y::q=>by
  rw [Yv,Yv,oY,oY,aaN,x9 p q,D.pd,D.pd,ZC];rfl
theorem Nf (g:Bool) (p q:List Int) (G:DH):fT g (pl p) (pl q) G=.ok (.bl (g ^^ (p==q))) G:=by
 have h1:=Am (pl p)
 have h2:=Fi p
 have h3:=Fi q
 unfold fT wA
 rw [qy G (pl p) deep (ko p) (by show (pl p).dp<600;nofun),qy G (pl q) deep (ko q) (by show (pl q).dp<600;nofun)]
 dsimp only
 rw [if_pos (by rw [lay_of _ (ko p),lay_of _ (ko q)];simp;nofun)]
 show Out.ok (D.bl (g ^^ ZC (pl p).pd (pl q).pd)) G=_
 rw [pl,pl,D.pd,D.pd,ZC,x9]
theorem Jm (q:List Int) (h:1≤q.length) (hz:q.length≤100000) (G:DH):yo (pl q) none (some (-1)) G=.ok (pl q.dropLast) G:=by
 unfold pl
 simp only [yo,aD]
 have hs:HT.eW (q.map D.int).length (q.map D.int).length (some (-1))=q.length - 1:=by
  unfold HT.eW
  dsimp only
  rw [if_pos (by nofun)];simp;nofun
 rw [if_neg (by rw [hs];simp;nofun),bx]
 have qh:cutD (q.map D.int) none (some (-1))=q.dropLast.map .int:=by
  unfold cutD
  rw [hs,HT.jV,aaO];simp
 rw [qh,if_pos (lz (by simp;nofun))]
theorem Jo (q:List Int) (h:1≤q.length) (G:DH):bg (pl q) (.int (-1)) G=.ok (.int (q.getLastD 0)) G:=by
 obtain ⟨a,i,rfl⟩:∃ a i,q=a++[i]:=⟨q.dropLast,q.getLast (by intro e;rw [e] at h;simp at h),by rw [aaM]⟩
 have:=qY (a.map D.int) (.int i)
 unfold pl
 rw [YS,Yv,YY,kM]
 simp only [bg,aD,this]
theorem Qi (q:List Int) (G:DH):(Out.ok (pl q) G).fw G=.ok (pl q) G:=Ei
mutual
theorem nG:∀ (t:T) (p:List Int) (x:List Int×T),x∈t.prs p→x.1.length≤p.length+t.subs.length
 | .nd k ps,p,x,h=>by
  rw [T.prs] at h
  rw [T.subs,Yy]
  rcases Y6.mp h with rfl | h
  ·simp
  ·have:=lK ps p 0 x h;nofun
theorem lK:∀ (ts:List T) (p:List Int) (j:Int) (x:List Int×T),x∈bU p j ts→x.1.length≤p.length+1+(bQ ts).length
 | [],p,j,x,h=>by simp [bU] at h
 | t::r,p,j,x,h=>by
  rw [bU] at h
  rw [bQ,YO]
  rcases Zk.mp h with h | h
  ·have:=nG t (p++[j]) x h
   simp at this;nofun
  ·have:=lK r p (j+1) x h;nofun
end
noncomputable def nH (p:List Int):D→D
 | .int i=>.tup (p.map .int++[.int i])
 | .tup xs=>.tup (p.map .int++xs)
 | _=>.dP
noncomputable abbrev zE:DS→M D:=ao aE (af 3) (ak bx (aa (af 0) (ai)))
theorem ya (p:List Int) (hp:p.length≤1000) (i:Int) (x1 x2:Option D) (τ:DS) (G:DH):zE (some (.int i)::x1::x2::some (pl p)::τ) G=.ok (nH p (.int i)) G:=by
 have hA:=Cb (p.map .int) [.int i] G (lz (by simp;nofun))
 have z1:(0+1:Nat)≤Yx:=lz (by nofun)
 unfold pl nH
 generalize p.map D.int=pp at hA
 simp only [aX,aY,aA,aI,aQ,YJ,YF,aj,ah,aN,bx,Yy,YR,if_pos z1,hA]
theorem Fp (p q:List Int) (hp:p.length≤1000) (hq:q.length≤1000) (x1 x2:Option D) (τ:DS) (G:DH):ao aE (af 3) (af 0) (some (pl q)::x1::x2::some (pl p)::τ) G=.ok (nH p (pl q)) G:=by
 have hA:=Cb (p.map .int) (q.map .int) G (lz (by simp;nofun))
 unfold pl nH
 generalize p.map D.int=pp at hA
 generalize q.map D.int=qq at hA
 simp only [aX,aQ,YJ,YF,aj,ah,hA]
theorem Tt (x y:D):kB [x,y] 1=some y:=by
 have:=dQ (xs:=[x,y]) (j:=1) (v:=y) rfl
 simpa using this
theorem yb (s:T) (G:DH):bg s.d (.int 1) G=.ok (.tup (dL s.parts)) G:=by
 obtain ⟨k,ps⟩:=s
 rw [T.d]
 simp only [bg,aD,Tt];rfl
theorem tY (s:T) (G:DH):cC [.tup (dL s.parts)] G=.ok (.int (s.parts.length:Int)) G:=by
 simp [cC,aD,rm]
theorem rJ (s:T):s.parts.length≤s.subs.length:=by
 obtain ⟨k,ps⟩:=s
 have:=nF ps
 rw [T.subs,Yy]
 show ps.length≤_
 nofun
theorem Jp (s:T) (hs:s.subs.length≤1000) (p:List Int) (hp:p.length≤1000) (x0 x1:Option D) (G:DH):cF eT oN [false,false,true] (aa (ak cC (aa (ao bg (af 3) (eC (.int 1))) (ai))) (ai)) (bV) zE [x0,x1,some (pl p),some s.d] G=.ok (.obj G.length) (G++[.lst (((kids p 0 s.parts).map (·.1)).map pl)]):=by
 have hpl:=rJ s
 have hr:=jw (j:=(s.parts.length:Int)) (by nofun) (by nofun)
 rw [show ((s.parts.length:Int)).toNat=s.parts.length by nofun] at hr
 have c1:=bH (τ:=[x0,x1,some (pl p),some s.d]) (G:=G) (gO:=oN) (ks:=[false,false,true]) (te:=zE) (own:=λx=>[x]) (f:=nH p) ((Y8 0 s.parts.length).map λ(k:Nat)=>D.int (0+(k:Int))) [] (by simp;nofun) (λx _=>rfl) (λx hx acc=>by
  obtain ⟨i,_,rfl⟩:=YX.mp hx
  exact ya p hp _ _ _ _ _)
 have ek:=lI p s.parts 0
 rw [show ((0:Nat):Int)=0 from rfl] at ek
 have ef:((Y8 0 s.parts.length).map λ(k:Nat)=>D.int (0+(k:Int))).map (nH p)=((kids p 0 s.parts).map (·.1)).map pl:=by
  rw [ek,YW,YW]
  refine Zt λk _=>?_
  simp [nH,pl,abE]
 rw [ef,YT] at c1
 generalize ((Y8 0 s.parts.length).map λ(k:Nat)=>D.int (0+(k:Int)))=L at hr c1
 have e1:=yb s G
 have e2:=tY s G
 rw [← c1]
 generalize s.d=sd at e1
 generalize D.tup (dL s.parts)=st at e1 e2
 simp only [qe,aA,aI,aY,aX,aQ,cJ,YJ,YF,aj,ah,aN,e1,e2,hr]
theorem Jq (s:T) (hs:s.subs.length≤500) (p:List Int) (hp:p.length≤1000) (x0 x1:Option D) (G:DH):cj oN [false,false,true] (eFn (jo (aq 1 aZ (aa (af 3) (ai))) (bh (eC (.int 1))) (cL))) (bV) (ao aE (af 3) (af 0)) [x0,x1,some (pl p),some s.d] G=.ok (.obj G.length) (G++[.lst (((bU p 0 s.parts).map (·.1)).map pl)]):=by
 have e1:=places_eq s hs G
 have hpre:((s.prs []).map (·.1)).map pl=pl []::((bU [] 0 s.parts).map (·.1)).map pl:=by
  obtain ⟨k,ps⟩:=s
  rw [T.prs];rfl
 have hlen:(bU [] 0 s.parts).length+1=s.subs.length:=by
  have:=congrArg aag (fR [] s)
  obtain ⟨k,ps⟩:=s
  rw [T.prs,Yv,Yy,YL] at this
  exact this
 have Ng:∀ q∈(bU [] 0 s.parts).map (·.1),q.length≤1000:=λq hq=>by
  obtain ⟨y,hy,rfl⟩:=YX.mp hq
  have:=lK s.parts [] 0 y hy
  have h2:(bQ s.parts).length+1=s.subs.length:=by
   obtain ⟨k,ps⟩:=s
   rw [T.subs,Yy];rfl
  simp at this;nofun
 have c1:=bH (τ:=[x0,x1,some (pl p),some s.d]) (G:=G) (gO:=oN) (ks:=[false,false,true]) (te:=ao aE (af 3) (af 0)) (own:=λx=>[x]) (f:=nH p) (((bU [] 0 s.parts).map (·.1)).map pl) [] (by simp;nofun) (λx _=>rfl) (λx hx acc=>by
  obtain ⟨q,hq,rfl⟩:=YX.mp hx
  exact Fp p q hp (Ng q hq) _ _ _ _)
 have UT:=lJ p s.parts [] 0
 rw [Y4] at UT
 have ef:(((bU [] 0 s.parts).map (·.1)).map pl).map (nH p)=((bU p 0 s.parts).map (·.1)).map pl:=by
  rw [UT,YW (f:=λx=>p++x),YW (f:=pl)]
  refine Zt λq _=>?_
  simp [nH,pl,abE]
 rw [ef,YT] at c1
 have hsl:eFn (jo (aq 1 aZ (aa (af 3) (ai))) (bh (eC (.int 1))) (cL)) [x0,x1,some (pl p),some s.d] G=.ok (.con (((bU [] 0 s.parts).map (·.1)).map pl)) G:=by
  rw [bP]
  have hs1:HT.eW (((s.prs []).map (·.1)).map pl).length 0 (some 1)=1:=by
   have:=HT.oK (((s.prs []).map (·.1)).map pl).length 0 1
   rw [show ((1:Nat):Int)=1 from rfl] at this
   rw [this,hpre];simp
  have qh:cutD (((s.prs []).map (·.1)).map pl) (some 1) none=((bU [] 0 s.parts).map (·.1)).map pl:=by
   unfold cutD
   rw [hs1,HT.jV,hpre];simp
   exact acD (by simp)
  have e:jo (aq 1 aZ (aa (af 3) (ai))) (bh (eC (.int 1))) (cL) [x0,x1,some (pl p),some s.d] G=aS (((bU [] 0 s.parts).map (·.1)).map pl) G:=by
   rw [← qh]
   generalize ((s.prs []).map (·.1)).map pl=L at e1
   generalize s.d=sd at e1
   simp only [sY,bO,aA,aI,aQ,YJ,YF,aj,ah,aN,Yy,YR,if_true,e1,iC,cJ,kJ,oV,yo,aD]
  rw [e,cT (lz (by simp;nofun)) (ay gZ)]
 rw [gD,hsl,aj]
 exact c1
theorem Fq (t s:T) (a:List Int) (i0:Nat) (h:(a,s)∈t.prs []) (ha:a.length≤1000) (hi:i0≤100000) (hs:s.subs.length≤1000) (G:DH):cF iU oN [false,false,true] (aa (ao aE (ao bg (af 1) (lq (eC (.int 1)))) (eC (.int 1))) (aa (ak cC (aa (ao bg (aq 2 d8 (aa (af 0) (aa (af 2) (ai)))) (eC (.int 1))) (ai))) (ai))) (bV) zE [some t.d,some (pl (a++[(i0:Int)])),some (pl a)] G =
  .ok (.obj G.length) (G++[.lst (((Y8 (i0+1) (s.parts.length - (i0+1))).map λ(k:Nat)=>a++[(k:Int)]).map pl)]):=by
 have hpl:=rJ s
 have e0:=Fg t (a,s) h G
 have e1:=yb s G
 have e2:=tY s G
 have e3:=Jo (a++[(i0:Int)]) (by simp) G
 rw [kM] at e3
 have hr:iU [.int ((i0:Int)+1),.int (s.parts.length:Int)]=some ((Y9 (s.parts.length - (i0+1))).map λ(k:Nat)=>.int ((i0:Int)+1+(k:Int))):=by
  unfold iU
  dsimp only
  rw [if_pos ⟨by nofun,by nofun,by nofun,by nofun⟩,show ((s.parts.length:Int) - ((i0:Int)+1)).toNat=s.parts.length - (i0+1) by nofun]
 have c1:=bH (τ:=[some t.d,some (pl (a++[(i0:Int)])),some (pl a)]) (G:=G) (gO:=oN) (ks:=[false,false,true]) (te:=zE) (own:=λx=>[x]) (f:=nH a) ((Y9 (s.parts.length - (i0+1))).map λ(k:Nat)=>D.int ((i0:Int)+1+(k:Int))) [] (by simp;nofun) (λx _=>rfl) (λx hx acc=>by
  obtain ⟨i,_,rfl⟩:=YX.mp hx
  exact ya a ha _ _ _ _ _)
 have ef:((Y9 (s.parts.length - (i0+1))).map λ(k:Nat)=>D.int ((i0:Int)+1+(k:Int))).map (nH a)=((Y8 (i0+1) (s.parts.length - (i0+1))).map λ(k:Nat)=>a++[(k:Int)]).map pl:=by
  rw [acj,YW,YW,YW]
  refine Zt λk _=>?_
  simp [nH,pl,abE]
 rw [ef,YT] at c1
 rw [← c1]
 generalize ((Y9 (s.parts.length - (i0+1))).map λ(k:Nat)=>D.int ((i0:Int)+1+(k:Int)))=L at hr
 generalize pl (a++[(i0:Int)])=pp at e3
 have Ri:d8 [t.d,pl a] G=.ok s.d G:=e0
 generalize pl a=pa at Ri
 generalize t.d=td at Ri
 generalize s.d=sd at Ri e1
 generalize D.tup (dL s.parts)=st at e1 e2
 have hadd:∀ G,aE (.int (i0:Int)) (.int 1) G=.ok (.int ((i0:Int)+1)) G:=λG=>rfl
 simp only [qe,aA,aI,aY,aX,uH,uI,bO,aQ,cJ,YJ,YF,aj,ah,aN,Yy,YR,if_true,e3,hadd,Ri,e1,e2,hr]
theorem zF {a b:Str} (ha:YC a=true) (hb:YC b=true) (h:(a==b)=false) (G:DH):fT false (.str a) (.str b) G=.ok (.bl false) G:=by
 rw [uD _ _ _ _ ha hb,h];rfl
theorem Ft {a:Str} (ha:YC a=true) (G:DH):fT false (.str a) (.str a) G=.ok (.bl true) G:=by
 rw [uD _ _ _ _ ha ha];simp
theorem vK (ps:List (List Int)):aH (ps.map pl)=true:=ay gZ
theorem Cg (t s:T) (p:List Int) (h:(p,s)∈t.prs []) (hs:s.subs.length≤500) (hp:p.length≤1000) (G:DH) :
  eN [t.d,.str "down",pl p] G=.ok (.con (((kids p 0 s.parts).map (·.1)).map pl)) G:=by
 have e0:d8 [t.d,pl p] G=.ok s.d G:=Fg t (p,s) h G
 have e1:=Jp s (by nofun) p hp (some t.d) (some (.str "down")) G
 have hc:=vK ((kids p 0 s.parts).map (·.1))
 have q1:=zF (a:="down") (b:="later") (by symm) (by symm) (by symm) G
 have q2:=Ft (a:="down") (by symm) G
 unfold zE at e1
 generalize hE:cF eT oN [false,false,true] (aa (ak cC (aa (ao bg (af 3) (eC (.int 1))) (ai))) (ai)) (bV) (ao aE (af 3) (ak bx (aa (af 0) (ai))))=E at e1
 have e2:eFn E [some t.d,some (.str "down"),some (pl p),some s.d] G=.ok (.con (((kids p 0 s.parts).map (·.1)).map pl)) G:=by rw [bP,e1,dZ hc]
 refine bz ?_ (by rw [aL];exact hc)
 unfold jc
 rw [hE]
 generalize ((kids p 0 s.parts).map (·.1)).map pl=L at e2
 generalize t.d=td at e0 e2
 generalize s.d=sd at e0 e2
 generalize pl p=pp at e0 e2
 simp only [f6,Yv,YY,Yy,YR,YV,Zf,YT,aT,bG,bO,aA,aI,aQ,cJ,YJ,YF,aj,ah,aN,cS,bJ,Zc,Za,iA,gy,aX,q1,q2,eV,uF,uG,kI,if_true,e0,eU,e2,gx,wO,gz]
theorem Ci (t s:T) (p:List Int) (h:(p,s)∈t.prs []) (hs:s.subs.length≤500) (hp:p.length≤1000) (G:DH) :
  eN [t.d,.str "deep",pl p] G=.ok (.con (((bU p 0 s.parts).map (·.1)).map pl)) G:=by
 have e0:d8 [t.d,pl p] G=.ok s.d G:=Fg t (p,s) h G
 have e1:=Jq s hs p hp (some t.d) (some (.str "deep")) G
 have hc:=vK ((bU p 0 s.parts).map (·.1))
 have q1:=zF (a:="deep") (b:="later") (by symm) (by symm) (by symm) G
 have q2:=zF (a:="deep") (b:="down") (by symm) (by symm) (by symm) G
 generalize hE:cj oN [false,false,true] (eFn (jo (aq 1 aZ (aa (af 3) (ai))) (bh (eC (.int 1))) (cL))) (bV) (ao aE (af 3) (af 0))=E at e1
 have e2:eFn E [some t.d,some (.str "deep"),some (pl p),some s.d] G=.ok (.con (((bU p 0 s.parts).map (·.1)).map pl)) G:=by rw [bP,e1,dZ hc]
 refine bz ?_ (by rw [aL];exact hc)
 unfold jc
 rw [hE]
 generalize ((bU p 0 s.parts).map (·.1)).map pl=L at e2
 generalize t.d=td at e0 e2
 generalize s.d=sd at e0 e2
 generalize pl p=pp at e0 e2
 simp only [f6,Yv,YY,Yy,YR,YV,Zf,YT,aT,bG,bO,aA,aI,aQ,cJ,YJ,YF,aj,ah,aN,cS,bJ,Zc,Za,iA,gy,aX,q1,q2,eV,uF,uG,kI,if_true,e0,eU,e2,gx,wO,gz]
theorem k8 (t:T) (p:List Int) (L:List (List Int)) (G:DH) (h1:cZ [t.d,pl p] G=.ok (.con (L.map pl)) G) :
  eN [t.d,.str "later",pl p] G=.ok (.con (L.map pl)) G:=by
 have hc:=vK L
 have q1:=Ft (a:="later") (by symm) G
 refine bz ?_ (by rw [aL];exact hc)
 unfold jc
 generalize L.map pl=L' at h1
 generalize t.d=td at h1
 generalize pl p=pp at h1
 simp only [f6,Yv,YY,Yy,YR,YV,Zf,YT,aT,bO,aA,aI,aQ,cJ,YJ,YF,aj,ah,aN,iA,gy,aX,q1,eV,uF,if_true,eU,h1,gx,wO,gz]
theorem AH (p:List Int) (G:DH):fT false (pl p) (.tup []) G=.ok (.bl (p==[])) G:=by
 have:=Nf false p [] G
 rw [Bool.false_xor] at this
 exact this
theorem Cj (t:T) (G:DH):cZ [t.d,pl []] G=.ok (.con []) G:=by
 have q:=AH [] G
 rw [show (([]:List Int)==[])=true from rfl] at q
 have z0:(0:Nat)≤Yx:=Zq _
 have hn:aS [] G=.ok (.obj G.length) (G++[.lst []]):=if_pos z0
 refine bz ?_ (by rw [aL];rfl)
 unfold eE
 generalize t.d=td
 generalize pl []=pp at q
 simp only [f6,Yv,YY,Yy,YR,YV,Zf,YT,aT,aY,aI,aQ,YJ,YF,aj,ah,bx,if_pos z0,iA,gy,aX,q,eV,uF,eU,zz,gx,wO,gz]
theorem Fv (t s:T) (a:List Int) (i0:Nat) (h:(a,s)∈t.prs []) (ha:a.length≤900) (hi:i0≤100000) (hs:s.subs.length≤1000) (G:DH) :
  cZ [t.d,pl (a++[(i0:Int)])] G=.ok (.con (((Y8 (i0+1) (s.parts.length - (i0+1))).map λ(k:Nat)=>a++[(k:Int)]).map pl)) G:=by
 have q:=AH (a++[(i0:Int)]) G
 rw [show ((a++[(i0:Int)])==[])=false by simp] at q
 have z0:(0:Nat)≤Yx:=Zq _
 have hc:=vK ((Y8 (i0+1) (s.parts.length - (i0+1))).map λ(k:Nat)=>a++[(k:Int)])
 have e1:=Fq t s a i0 h (by nofun) hi hs G
 have e3:=Jm (a++[(i0:Int)]) (by simp) (by simp;nofun) G
 rw [show (a++[(i0:Int)]).dropLast=a by simp] at e3
 have e4:=Qi a G
 unfold zE at e1
 generalize hE:cF iU oN [false,false,true] (aa (ao aE (ao bg (af 1) (lq (eC (.int 1)))) (eC (.int 1))) (aa (ak cC (aa (ao bg (aq 2 d8 (aa (af 0) (aa (af 2) (ai)))) (eC (.int 1))) (ai))) (ai))) (bV) (ao aE (af 3) (ak bx (aa (af 0) (ai))))=E at e1
 have e2:eFn E [some t.d,some (pl (a++[(i0:Int)])),some (pl a)] G=.ok (.con (((Y8 (i0+1) (s.parts.length - (i0+1))).map λ(k:Nat)=>a++[(k:Int)]).map pl)) G:=by rw [bP,e1,dZ hc]
 have e5:∀ x,eFn (jo (af 1) (cL) (bh (lq (eC (.int 1))))) [some t.d,some (pl (a++[(i0:Int)])),x] G=.ok (pl a) G:=λx=>by
  rw [bP]
  generalize pl (a++[(i0:Int)])=pp at e3
  generalize pl a=pa at e3 e4
  simp only [sY,aQ,YJ,YF,aj,ah,oV,iC,uH,cJ,uI,kJ,e3,e4]
 generalize Xa:eFn (jo (af 1) (cL) (bh (lq (eC (.int 1)))))=E5 at e5
 refine bz ?_ (by rw [aL];exact hc)
 unfold eE
 rw [hE,Xa]
 generalize (((Y8 (i0+1) (s.parts.length - (i0+1))).map λ(k:Nat)=>a++[(k:Int)]).map pl)=L at e2
 generalize pl (a++[(i0:Int)])=pp at q e2 e5
 generalize t.d=td at e2 e5
 simp only [f6,Yv,YY,Yy,YR,YV,Zf,YT,aT,bG,aY,aI,aQ,YJ,YF,aj,ah,bx,if_pos z0,iA,gy,aX,q,eV,uG,kI,bJ,e5,cS,Zc,Za,eU,e2,gx,wO,gz]
noncomputable def kd:T→D
 | .nd k _=>.str k
noncomputable def knd (x:D):D:=match x with
 | .tup [_,.tup (k::_)]=>k
 | _=>.dP
theorem Jr (t:T) (G:DH):bg t.d (.int 0) G=.ok (kd t) G:=by
 cases t with
 | nd k ps=>rw [T.d,bg];rfl
theorem Ck (t:T):(kd t).closed=true:=by cases t;exact bY
theorem Fw (t:T) (ht:t.subs.length≤500) (G:DH):f7 [t.d] G=.ok (.con (t.subs.map kd)) G:=by
 have hc:aH (t.subs.map kd)=true:=ay Ck
 refine bz ?_ (by rw [aL];exact hc)
 have hl:(t.prs []).length=t.subs.length:=by rw [← fR [] t,YL]
 have c1:=bH (τ:=[some t.d]) (G:=G) (gO:=oT 2) (ks:=[]) (te:=ao bg (af 1) (eC (.int 0))) (own:=Fe) (f:=knd) ((t.prs []).map gf) [] (by simp;nofun) (λx hx=>by
   obtain ⟨y,_,rfl⟩:=YX.mp hx
   rfl) (λx hx acc=>by
   obtain ⟨⟨p,y⟩,_,rfl⟩:=YX.mp hx
   show ao bg (af 1) (eC (.int 0)) [some (pl p),some y.d] _=_
   rw [S7,Jr]
   cases y with
   | nd k ps=>rfl)
 have ef:((t.prs []).map gf).map knd=t.subs.map kd:=by
  rw [← fR [] t,YW,YW]
  refine Zt λx _=>?_
  obtain ⟨p,y⟩:=x
  cases y with
  | nd k ps=>rfl
 rw [ef,YT] at c1
 have e:=tW t ht G
 have e2:eFn (cj (oT 2) [] (aq 1 cH (aa (af 0) (ai))) (bV) (ao bg (af 1) (eC (.int 0)))) [some t.d] G=.ok (.con (t.subs.map kd)) G:=by
  rw [bP,← dZ hc,← c1]
  generalize ((t.prs []).map gf)=L at e
  generalize t.d=d at e
  simp only [gD,bO,aA,aI,aQ,YF,aj,ah,aN,Yy,YR,if_true,e]
 unfold lF
 simp only [f6,Yv,YY,Yy,YR,acE,aa2,Y4,eU,e2,gx,gz]
noncomputable def CH:List Str:=["down","deep","later"]
noncomputable def ky (p:List Int):List Key:=p.map Sum.inl
theorem zG (p:List Int):qC (pl p)=some (ky p):=by
 show bR iK (p.map .int)=some (p.map Sum.inl)
 induction p with
 | nil=>rfl
 | cons i r ih=>rw [Yv,Yv,bR,ih];rfl
theorem Qj (p:List Int):D.tup ((ky p).map nh)=pl p:=by
 rw [ky,pl,YW];rfl
theorem Nh (n:Nat) (kvs:List (List Key×D)) (fz:Bool) (p:List Int) (v:D) (hv:cX kvs (ky p)=some v) (G:DH) (hg:G[n]?=some (.fV fz kvs)):Em (.obj n) (pl p) G=.ok v G:=by
 unfold Em
 rw [zG]
 dsimp only
 rw [hg]
 dsimp only
 rw [hv]
noncomputable def Nx (q q':List Int):Prop:=∃ p j,q'=p++[j]∧Lst p j q
noncomputable def Ch:List Int→List (List Int)→Prop
 | _,[]=>True
 | q,q'::r=>Nx q q'∧Ch q' r
noncomputable def oj:List Int→List (List Int)→List Int
 | q,[]=>q
 | _,q'::r=>oj q' r
theorem Fx:∀ (L M:List (List Int)) (q:List Int),Ch q L→Ch (oj q L) M→Ch q (L++M)∧oj q (L++M)=oj (oj q L) M
 | [],M,q,_,h=>⟨h,rfl⟩
 | x::L,M,q,h1,h2=>by
  obtain ⟨h3,h4⟩:=Fx L M x h1.2 h2
  exact ⟨⟨h1.1,h3⟩,h4⟩
mutual
theorem Tu:∀ (t:T) (p q:List Int) (j:Int),Lst p j q→Ch q ((t.prs (p++[j])).map (·.1))∧∃ w,oj q ((t.prs (p++[j])).map (·.1))=p++j::w
 | .nd k ps,p,q,j,h=>by
  rw [T.prs,Yv]
  obtain ⟨h1,w,h2⟩:=Ni ps (p++[j]) (p++[j]) 0 ⟨[],by simp⟩ (.inl ⟨rfl,rfl⟩)
  exact ⟨⟨⟨p,j,rfl,h⟩,h1⟩,w,by rw [oj,h2];simp⟩
theorem Ni:∀ (ts:List T) (p q:List Int) (j:Int),(∃ w,q=p++w)→Lst p j q→Ch q ((bU p j ts).map (·.1))∧∃ w,oj q ((bU p j ts).map (·.1))=p++w
 | [],p,q,j,hw,h=>⟨trivial,hw⟩
 | t::ts,p,q,j,hw,h=>by
  rw [bU,YS]
  obtain ⟨h1,w,h2⟩:=Tu t p q j h
  obtain ⟨h3,h4⟩:=Ni ts p (p++j::w) (j+1) ⟨_,rfl⟩ (.inr ⟨j,w,rfl,rfl⟩)
  obtain ⟨h5,h6⟩:=Fx _ ((bU p (j+1) ts).map (·.1)) q h1 (by rw [h2];exact h3)
  exact ⟨h5,by rw [h6,h2];exact h4⟩
end
mutual
theorem yc:∀ (t:T) (p:List Int),(t.pre p.length).map (·.1)=(t.prs p).map λx=>x.1.length
 | .nd k ps,p=>by
  have:=tZ ps p 0
  rw [T.pre,T.prs,Yv,Yv,this]
theorem tZ:∀ (ts:List T) (p:List Int) (j:Int),(fS (p.length+1) ts).map (·.1)=(bU p j ts).map λx=>x.1.length
 | [],p,j=>rfl
 | t::ts,p,j=>by
  have h1:=yc t (p++[j])
  rw [YO,ZI] at h1
  rw [fS,bU,YS,YS,h1,tZ ts p (j+1)]
end
noncomputable def Gt (p q:List Int):Prop:=∃ a l r v w,p=a++l::r∧q=a++v::w∧l<v
noncomputable def In (p q:List Int):Prop:=∃ w,w≠[]∧q=p++w
theorem zH {p q:List Int} (h:In p q):p.length<q.length:=by
 obtain ⟨w,hw,rfl⟩:=h
 have:=aa3.mpr hw
 simp;nofun
theorem AI (p0 w q':List Int) (h:Nx (p0++w) q'):In p0 q'∨(∃ a l,p0=a++[l]∧q'=a++[l+1])∨∃ a l r,r≠[]∧p0=a++l::r∧q'=a++[l+1]:=by
 obtain ⟨p,j,rfl,⟨rfl,h⟩ | ⟨i,r,rfl,h⟩⟩:=h
 ·exact .inl ⟨w++[0],by simp,by rw [← h];simp⟩
 ·rcases ab3.mp h with ⟨c,h1,h2⟩ | ⟨c,h1,h2⟩
  ·exact .inl ⟨c++[i+1],by simp,by rw [h1];simp⟩
  ·cases c with
   | nil=>
    rw [Y4] at h1
    exact .inl ⟨[i+1],by simp,by rw [h1]⟩
   | cons z c=>
    rw [Zf] at h2
    obtain ⟨rfl,h3⟩:=aaE h2
    cases c with
    | nil=>exact .inr (.inl ⟨p,i,h1,rfl⟩)
    | cons y c=>exact .inr (.inr ⟨p,i,y::c,by simp,h1,rfl⟩)
theorem vL (a w q':List Int) (v:Int) (h:Nx (a++v::w) q'):(∃ w',w'≠[]∧q'=a++v::w')∨q'=a++[v+1]∨∃ b i c,a=b++i::c∧q'=b++[i+1]:=by
 obtain ⟨p,j,rfl,⟨rfl,h⟩ | ⟨i,r,rfl,h⟩⟩:=h
 ·exact .inl ⟨w++[0],by simp,by rw [← h];simp⟩
 ·rcases ab3.mp h with ⟨c,h1,h2⟩ | ⟨c,h1,h2⟩
  ·cases c with
   | nil=>
    rw [Y4] at h1
    obtain ⟨rfl,_⟩:=aaE h2
    exact .inr (.inl (by rw [h1]))
   | cons z c=>
    rw [Zf] at h2
    obtain ⟨rfl,h3⟩:=aaE h2
    exact .inl ⟨c++[i+1],by simp,by rw [h1];simp⟩
  ·cases c with
   | nil=>
    rw [Y4] at h1
    obtain ⟨rfl,_⟩:=aaE h2
    exact .inr (.inl (by rw [h1]))
   | cons z c=>
    rw [Zf] at h2
    obtain ⟨rfl,h3⟩:=aaE h2
    exact .inr (.inr ⟨p,i,c,h1,rfl⟩)
theorem Js {p q q':List Int} (h:(∃ w,q=p++w)∨Gt p q) (n:Nx q q'):In p q'∨Gt p q':=by
 rcases h with ⟨w,rfl⟩ | ⟨a,l,r,v,w,rfl,rfl,hv⟩
 ·rcases AI p w q' n with h | ⟨a,l,rfl,rfl⟩ | ⟨a,l,r,_,rfl,rfl⟩
  ·exact .inl h
  ·exact .inr ⟨a,l,[],l+1,[],rfl,rfl,by nofun⟩
  ·exact .inr ⟨a,l,r,l+1,[],rfl,rfl,by nofun⟩
 ·rcases vL a w q' v n with ⟨w',_,rfl⟩ | rfl | ⟨b,i,c,rfl,rfl⟩
  ·exact .inr ⟨a,l,r,v,w',rfl,rfl,hv⟩
  ·exact .inr ⟨a,l,r,v+1,[],rfl,rfl,by nofun⟩
  ·exact .inr ⟨b,i,c++l::r,i+1,[],by simp,rfl,by nofun⟩
theorem Fz {p:List Int}:∀ (L:List (List Int)) (q:List Int),(∃ w,q=p++w)∨Gt p q→Ch q L→∀ x∈L,In p x∨Gt p x
 | [],q,_,_,x,h=>by simp at h
 | y::L,q,hq,hc,x,h=>by
  have hy:=Js hq hc.1
  rcases Y6.mp h with rfl | h
  ·exact hy
  ·exact Fz L y (hy.imp (λzz=>by obtain ⟨w,_,e⟩:=zz;exact ⟨w,e⟩) id) hc.2 x h
theorem Kn:∀ (L:List (List Int)) (q:List Int),Ch q L→(q::L).Pairwise λp q=>In p q∨Gt p q
 | [],q,_=>by simp
 | y::L,q,h=>adf.mpr ⟨λx hx=>Fz (y::L) q (.inl ⟨[],by simp⟩) h x hx,Kn L y h.2⟩
theorem Qk {p:List Int}:¬ (In p p∨Gt p p):=by
 rintro (h | ⟨a,l,r,v,w,h1,h2,hv⟩)
 ·exact absurd (zH h) (Zx _)
 ·rw [h1] at h2
  have:=(aaE (abc h2)).1
  nofun
theorem Jt {p q:List Int} (h:In p q):fL p q=true:=by
 obtain ⟨w,hw,rfl⟩:=h
 cases w with
 | nil=>exact absurd rfl hw
 | cons i w=>exact xZ p i w
theorem jf {p q:List Int} (h:p.length≠q.length):c8 p q=false:=by
 have:(q.length==p.length)=false:=beq_eq_false_iff_ne.mpr (Z2 h)
 unfold c8
 rw [this];rfl
theorem Ju (a r w:List Int) (l v:Int) (h:l≠v) (hr:r≠[]) (hw:w≠[]):(a++l::r).dropLast≠(a++v::w).dropLast:=by
 obtain ⟨r',x,rfl⟩:∃ r' x,r=r'++[x]:=⟨r.dropLast,r.getLast hr,by rw [aaM]⟩
 obtain ⟨w',y,rfl⟩:∃ w' y,w=w'++[y]:=⟨w.dropLast,w.getLast hw,by rw [aaM]⟩
 rw [show a++l::(r'++[x])=(a++l::r')++[x] by simp,show a++v::(w'++[y])=(a++v::w')++[y] by simp,ac1,ac1]
 intro z
 exact h (aaE (abc z)).1
theorem rK (a r w:List Int) (l v:Int) (h:l≠v) (hr:r≠[]∨w≠[]):c8 (a++l::r) (a++v::w)=false:=by
 by_cases hl:(a++l::r).length=(a++v::w).length
 ·have h1:r.length=w.length:=by simpa using hl
  have h2:r≠[]:=λz=>by
   rw [z] at h1
   rcases hr with q | q
   ·exact q z
   ·exact q (ZP.mp h1.symm)
  have h3:w≠[]:=λz=>h2 (ZP.mp (by rw [h1,z];rfl))
  have:((a++v::w).dropLast==(a++l::r).dropLast)=false:=beq_eq_false_iff_ne.mpr (Z2 (Ju a r w l v h h2 h3))
  unfold c8
  rw [this,acQ,Bool.and_false]
 ·exact jf hl
theorem nI (a:List Int) (l v:Int):c8 (a++[l]) (a++[v])=decide (l<v):=by
 unfold c8
 simp [ab2]
noncomputable def bB (go:Nat) (p q:List Int):Bool:=if go=0 then iJ p q else if go=1 then fL p q else c8 p q
theorem rL {p q:List Int} (h1:fL p q=false) (h2:c8 p q=false) (go:Nat):bB go p q=false:=by
 have h3:iJ p q=false:=by rw [jL,h1];rfl
 unfold bB
 rw [h1,h2,h3]
 split
 ·rfl
 ·split<;>rfl
theorem yd {p q:List Int} (h:p=q∨In q p∨Gt q p) (go:Nat):bB go p q=false:=by
 rcases h with rfl | ⟨w,hw,rfl⟩ | ⟨a,l,r,v,w,rfl,rfl,hv⟩
 ·refine rL (jK _ _ (YE _)) ?_ go
  unfold c8
  simp
 ·refine rL (jK _ _ (by simp)) (jf ?_) go
  have:=aa3.mpr hw
  simp;nofun
 ·refine rL (jJ a v l w r (by nofun)) ?_ go
  by_cases hr:w≠[]∨r≠[]
  ·exact rK a w r v l (by nofun) hr
  ·obtain ⟨h1,h2⟩:w=[]∧r=[]:=by simpa using hr
   rw [h1,h2,nI]
   exact decide_eq_false (by nofun)
noncomputable def nb:List Bool→Nat
 | []=>0
 | b::r=>b.toNat+2*nb r
theorem Cm (a b:Bool) (m n:Nat):(a.toNat+2*m) &&& (b.toNat+2*n)=(a&&b).toNat+2*(m &&& n):=by
 have h1:(a.toNat+2*m) / 2=m:=by cases a<;>simp<;>nofun
 have h2:(b.toNat+2*n) / 2=n:=by cases b<;>simp<;>nofun
 have h3:((a&&b).toNat+2*(m &&& n)) / 2=m &&& n:=by cases a<;>cases b<;>simp<;>nofun
 apply Nat.eq_of_testBit_eq
 intro i
 cases i with
 | zero=>
  rw [acJ,acq,acq,acq]
  cases a<;>cases b<;>simp<;>nofun
 | succ i=>rw [acJ,acr,acr,acr,h1,h2,h3,acJ]
theorem FA:∀ as bs:List Bool,as.length=bs.length→nb (aaA and as bs)=nb as &&& nb bs
 | [],[],_=>rfl
 | a::as,b::bs,h=>by
  rw [abn,nb,nb,nb,Cm,FA as bs (by simpa using h)]
theorem Ko:∀ as bs:List Bool,as.length=bs.length→nb (aaA or as bs)+nb (aaA and as bs)=nb as+nb bs
 | [],[],_=>rfl
 | a::as,b::bs,h=>by
  have:=Ko as bs (by simpa using h)
  rw [abn,abn,nb,nb,nb,nb]
  cases a<;>cases b<;>simp<;>nofun
theorem Nj (n:Nat):nb (YV n true)=2^n - 1:=by
 induction n with
 | zero=>rfl
 | succ n ih=>
  have hp:1≤2^n:=adg
  rw [aa4,nb,ih,ady]
  simp;nofun
theorem o9:∀ (bs:List Bool) (b:Bool),nb (bs++[b])=nb bs+b.toNat*2^bs.length
 | [],b=>by simp [nb]
 | a::bs,b=>by
  rw [Zf,nb,o9 bs b,nb,Yy,ady]
  cases b<;>simp<;>nofun
theorem Kp:∀ (bs:List Bool) (j:Nat) (b:Bool),bs[j]?=some b→nb bs / 2^j % 2=b.toNat
 | c::bs,0,b,h=>by
  simp at h;subst h
  rw [nb];cases c<;>simp<;>nofun
 | c::bs,j+1,b,h=>by
  have:=Kp bs j b (by simpa using h)
  have e:nb (c::bs) / 2=nb bs:=by rw [nb];cases c<;>simp<;>nofun
  rw [ady,Nat.mul_comm,← Nat.div_div_eq_div_mul,e,this]
theorem Tv (m n:Nat):aaS (m:Int) (n:Int)=((m &&& n:Nat):Int):=by
 rfl
theorem Kq (as bs:List Bool) (h:as.length=bs.length):aaS (nb as:Int) (nb bs:Int)=(nb (aaA and as bs):Int):=by
 rw [Tv,FA as bs h]
theorem Ql (as bs:List Bool) (h:as.length=bs.length):abD (nb as:Int) (nb bs:Int)=(nb (aaA or as bs):Int):=by
 have e1:=PyProof.Rows.bitXor_and (nb as:Int) (nb bs:Int)
 have e2:Builtin.bitXor (nb as:Int) (nb bs:Int)=abD (nb as:Int) (nb bs:Int) - aaS (nb as:Int) (nb bs:Int):=rfl
 have e3:=Kq as bs h
 have:=Ko as bs h
 nofun
theorem FD (bs:List Bool) (b:Bool):abD (nb bs:Int) ((b.toNat:Int)*2^bs.length)=(nb (bs++[b]):Int):=by
 have h0:∀ n,nb (YV n false)=0:=λn=>by
  induction n with
  | zero=>rfl
  | succ n ih=>rw [aa4,nb,ih];rfl
 have h1:nb (bs++[false])=nb bs:=by rw [o9];simp
 have h2:nb (YV bs.length false++[b])=b.toNat*2^bs.length:=by rw [o9,h0,abp];nofun
 have h3:=Ql (bs++[false]) (YV bs.length false++[b]) (by simp)
 have h4:aaA or (bs++[false]) (YV bs.length false++[b])=bs++[b]:=by
  rw [List.zipWith_append (by simp)]
  congr 1
  ·apply aak
   ·simp
   ·intro i h1 h2;simp
 rw [h1,h2,h4] at h3
 rw [← h3]
 congr 1
theorem gq (bs:List Bool) (b:Bool) (h:b=false):nb (bs++[b])=nb bs:=by rw [h,o9];simp
theorem nJ (bs:List Bool):∀ cs:List Bool,(∀ c∈cs,c=false)→nb (bs++cs)=nb bs
 | [],_=>by simp
 | c::cs,h=>by
  have:=nJ (bs++[c]) cs λx hx=>h x (by simp [hx])
  rw [ZD] at this
  rw [show bs++c::cs=bs++([c]++cs) by simp,this,gq bs c (h c (by simp))]
@[simp] theorem zI {ma mb:DS→M D} {τ:DS} {G:DH}:lE ma mb τ G=(ma τ G).bd λd=>(mb τ).bind λk=>uT d k:=ah
@[simp] theorem Qm {τ:DS} {G:DH}:yK τ G=.bk τ G:=YH rfl rfl
noncomputable def B3 (d e l:D):List (Key×D):=[(Sum.inr "down",d),(Sum.inr "deep",e),(Sum.inr "later",l)]
theorem FE (d e l v:D):bF (B3 d e l) (Sum.inr "down") v=B3 v e l:=by kernel_rfl
theorem FF (d e l v:D):bF (B3 d e l) (Sum.inr "deep") v=B3 d v l:=by kernel_rfl
theorem Cn (d e l v:D):bF (B3 d e l) (Sum.inr "later") v=B3 d e v:=by kernel_rfl
theorem kq (d e l:D):cX (B3 d e l) (Sum.inr "down")=some d:=by kernel_rfl
theorem kr (d e l:D):cX (B3 d e l) (Sum.inr "deep")=some e:=by kernel_rfl
theorem jh (d e l:D):cX (B3 d e l) (Sum.inr "later")=some l:=by kernel_rfl
theorem rM (d e l:D):(B3 d e l).length=3:=rfl
theorem AJ (H R:DH) (kvs:List (Key×D)) (k:Str) (v:D) (h:cX kvs (Sum.inr k)=some v):uT (.obj H.length) (.str k) (H++.dct kvs::R)=.ok v (H++.dct kvs::R):=by
 unfold uT i8 iK
 dsimp only
 rw [p8]
 dsimp only
 rw [h]
theorem FG (H R:DH) (kvs:List (Key×D)) (k:Str) (v:D) (h:kvs.length≤100):k6 v (.obj H.length) (.str k) (H++.dct kvs::R)=.ok .dP (H++.dct (bF kvs (Sum.inr k) v)::R):=by
 unfold k6 iK
 dsimp only
 rw [p8]
 dsimp only
 rw [if_pos (YG (by nofun) (lz (n:=101) (by nofun))),vU]
theorem AK (n:Nat) (hn:n≤1000) (G:DH):mw (.int 1) (.int (n:Int)) G=.ok (.int (2^n)) G:=by
 have z1:((n:Nat):Int)≤1000000:=by nofun
 simp [mw,cK,z1,M.ret]
theorem Nk (bs:List Bool) (G:DH):BP (.int (nb bs:Int)) (.int (2^bs.length)) G=.ok (.int (nb (bs++[true]):Int)) G:=by
 have:=FD bs true
 rw [show ((true.toNat:Nat):Int)*2^bs.length=2^bs.length by simp] at this
 rw [← this];rfl
theorem Nl (k:Str) (bs:List Bool) (hb:bs.length≤1000) (kvs:List (Key×D)) (hk:kvs.length≤100) (hv:cX kvs (Sum.inr k)=some (.int (nb bs:Int))) (H R:DH) (a0 a1 a2 a3 a5 a7:Option D) :
  eY (ao BP (lE (af 4) (eC (.str k))) (ao mw (eC (.int 1)) (af 6))) (af 4) (eC (.str k)) [a0,a1,a2,a3,some (.obj H.length),a5,some (.int (bs.length:Int)),a7] (H++.dct kvs::R)=.nx [a0,a1,a2,a3,some (.obj H.length),a5,some (.int (bs.length:Int)),a7] (H++.dct (bF kvs (Sum.inr k) (.int (nb (bs++[true]):Int)))::R):=by
 have e1:=AJ H R kvs k _ hv
 have e2:=AK bs.length hb (H++.dct kvs::R)
 have e3:=Nk bs (H++.dct kvs::R)
 have e4:=FG H R kvs k (.int (nb (bs++[true]):Int)) hk
 generalize (nb (bs++[true]):Int)=v at e3 e4
 generalize (nb bs:Int)=u at e1 e3
 generalize (H++.dct kvs::R)=G at e1 e2 e3 e4
 rw [uL,aX,zI,IW,aj,ah,cJ,aj,e1,aj,ah,aX,cJ,aj,ah,Tf,aj,e2,aj,e3,aj,ah,IW,aj,ah,cJ,aj,e4,j5]
theorem Qn (p:Nat×Str) (G:DH):bg (row p) (.int 0) G=.ok (.int (p.1:Int)) G:=rfl
theorem AL (rr:List D) (j:Nat) (p:Nat×Str) (h:rr[j]?=some (row p)) (a1 a2 a3 a4 a5 a7:Option D) (G:DH):ao bg (ao bg (af 0) (af 6)) (eC (.int 0)) [some (.con rr),a1,a2,a3,a4,a5,some (.int (j:Int)),a7] G=.ok (.int (p.1:Int)) G:=by
 have e:bg (.con rr) (.int (j:Int)) G=.ok (row p) G:=by simp only [bg,aD,dQ h]
 rw [aX,aX,Gf,aj,ah,Tf,aj,e,aj,ah,cJ,aj,Qn]
theorem AM (p:Nat×Str) (a0 a1 a2 a4 a5 a6 a7:Option D) (G:DH):ao bg (af 3) (eC (.int 0)) [a0,a1,a2,some (row p),a4,a5,a6,a7] G=.ok (.int (p.1:Int)) G:=by
 rw [aX,NY,aj,ah,cJ,aj,Qn]
section
variable (rr:List D) (p0:List Int) (k0:Str) (H:DH) (a1 a2 a7:Option D)
noncomputable def nK (C:List (List Int)):List (Key×D):=B3 (.int (nb (C.map (bB 0 p0)):Int)) (.int (nb (C.map (bB 1 p0)):Int)) (.int (nb (C.map (bB 2 p0)):Int))
noncomputable abbrev sS (ins:Bool) (a6:Option D):DS:=[some (.con rr),a1,a2,some (row (p0.length,k0)),some (.obj H.length),some (.bl ins),a6,a7]
theorem FH (C:List (List Int)) (q:List Int) (h:∀ g,bB g p0 q=false):nK p0 (C++[q])=nK p0 C:=by
 unfold nK
 rw [YS,YS,YS,Yv,Yv,Yv,YY,YY,YY,gq _ _ (h 0),gq _ _ (h 1),gq _ _ (h 2)]
theorem Jv (ins:Bool) (C:List (List Int)) (q:List Int) (k:Str) (hr:rr[C.length]?=some (row (q.length,k))) (hl:q.length<p0.length) (G:DH):bA (sS rr p0 k0 H a1 a2 a7 ins (some (.int (C.length:Int)))) G=.bk (sS rr p0 k0 H a1 a2 a7 ins (some (.int (C.length:Int)))) G:=by
 have e1:=AL rr C.length _ hr a1 a2 (some (row (p0.length,k0))) (some (.obj H.length)) (some (.bl ins)) a7 G
 have e2:=AM (p0.length,k0) (some (.con rr)) a1 a2 (some (.obj H.length)) (some (.bl ins)) (some (.int (C.length:Int))) a7 G
 have hl':(q.length:Int)<(p0.length:Int):=by nofun
 unfold bA sS
 generalize hE:ao bg (ao bg (af 0) (af 6)) (eC (.int 0))=E at e1
 generalize hF:ao bg (af 3) (eC (.int 0))=F at e2
 simp! [e1,e2,hl']
theorem Nm (C:List (List Int)) (q:List Int) (k:Str) (hr:rr[C.length]?=some (row (q.length,k))) (hl:p0.length<q.length) (G:DH):bA (sS rr p0 k0 H a1 a2 a7 false (some (.int (C.length:Int)))) G=.nx (sS rr p0 k0 H a1 a2 a7 false (some (.int (C.length:Int)))) G:=by
 have e1:=AL rr C.length _ hr a1 a2 (some (row (p0.length,k0))) (some (.obj H.length)) (some (.bl false)) a7 G
 have e2:=AM (p0.length,k0) (some (.con rr)) a1 a2 (some (.obj H.length)) (some (.bl false)) (some (.int (C.length:Int))) a7 G
 have h1:¬ (q.length:Int)<(p0.length:Int):=by nofun
 have h2:((q.length:Int)==(p0.length:Int))=false:=beq_eq_false_iff_ne.mpr (by nofun)
 unfold bA sS
 generalize hE:ao bg (ao bg (af 0) (af 6)) (eC (.int 0))=E at e1
 generalize hF:ao bg (af 3) (eC (.int 0))=F at e2
 generalize (q.length:Int)=u at e1 h1 h2
 generalize (p0.length:Int)=w at e2 h1 h2
 simp! [e1,e2,h1,h2,cW]
theorem Jw (ins:Bool) (C:List (List Int)) (hC:C.length≤1000) (q:List Int) (k:Str) (hr:rr[C.length]?=some (row (q.length,k))) (hl:q.length=p0.length) (h1:fL p0 q=false) (h2:c8 p0 q=true):bA (sS rr p0 k0 H a1 a2 a7 ins (some (.int (C.length:Int)))) (H++.dct (nK p0 C)::[])=.nx (sS rr p0 k0 H a1 a2 a7 false (some (.int (C.length:Int)))) (H++.dct (nK p0 (C++[q]))::[]):=by
 have e1:=λins G=>AL rr C.length _ hr a1 a2 (some (row (p0.length,k0))) (some (.obj H.length)) (some (.bl ins)) a7 G
 have e2:=λins G=>AM (p0.length,k0) (some (.con rr)) a1 a2 (some (.obj H.length)) (some (.bl ins)) (some (.int (C.length:Int))) a7 G
 have h0:iJ p0 q=false:=by rw [jL,h1];rfl
 have ez:nK p0 (C++[q])=B3 (.int (nb (C.map (bB 0 p0)):Int)) (.int (nb (C.map (bB 1 p0)):Int)) (.int (nb (C.map (bB 2 p0)++[true]):Int)):=by
  unfold nK
  rw [YS,YS,YS,Yv,Yv,Yv,YY,YY,YY,gq _ _ (show bB 0 p0 q=false from h0),gq _ _ (show bB 1 p0 q=false from h1),show bB 2 p0 q=true from h2]
 rw [ez]
 have e3:=Nl "later" (C.map (bB 2 p0)) (by simpa using hC) (nK p0 C) (by rw [nK,rM];nofun) (jh _ _ _) H [] (some (.con rr)) a1 a2 (some (row (p0.length,k0))) (some (.bl false)) a7
 rw [nK,Cn,YL] at e3
 unfold bA iN sS nK
 generalize hS:eY (ao BP (lE (af 4) (eC (.str "later"))) (ao mw (eC (.int 1)) (af 6))) (af 4) (eC (.str "later"))=S at e3
 generalize hE:ao bg (ao bg (af 0) (af 6)) (eC (.int 0))=E at e1
 generalize hF:ao bg (af 3) (eC (.int 0))=F at e2
 rw [hl] at e1
 generalize H++.dct (B3 (.int (nb (C.map (bB 0 p0)):Int)) (.int (nb (C.map (bB 1 p0)):Int)) (.int (nb (C.map (bB 2 p0)):Int)))::[]=G at e3
 generalize (p0.length:Int)=w at e1 e2
 simp! [e1,e2,cW,e3]
theorem Nn (C:List (List Int)) (hC:C.length≤1000) (q:List Int) (k:Str) (hr:rr[C.length]?=some (row (q.length,k))) (hl:p0.length<q.length) (h1:fL p0 q=true) (h2:c8 p0 q=false):bA (sS rr p0 k0 H a1 a2 a7 true (some (.int (C.length:Int)))) (H++.dct (nK p0 C)::[])=.nx (sS rr p0 k0 H a1 a2 a7 true (some (.int (C.length:Int)))) (H++.dct (nK p0 (C++[q]))::[]):=by
 have e1:=λG=>AL rr C.length _ hr a1 a2 (some (row (p0.length,k0))) (some (.obj H.length)) (some (.bl true)) a7 G
 have e2:=λG=>AM (p0.length,k0) (some (.con rr)) a1 a2 (some (.obj H.length)) (some (.bl true)) (some (.int (C.length:Int))) a7 G
 have h0:iJ p0 q=(q.length==p0.length+1):=by rw [jL,h1];simp
 have g1:¬ (q.length:Int)<(p0.length:Int):=by nofun
 have g2:((q.length:Int)==(p0.length:Int))=false:=beq_eq_false_iff_ne.mpr (by nofun)
 have ez:nK p0 (C++[q])=B3 (.int (nb (C.map (bB 0 p0)++[q.length==p0.length+1]):Int)) (.int (nb (C.map (bB 1 p0)++[true]):Int)) (.int (nb (C.map (bB 2 p0)):Int)):=by
  unfold nK
  rw [YS,YS,YS,Yv,Yv,Yv,YY,YY,YY,gq _ _ (show bB 2 p0 q=false from h2),show bB 1 p0 q=true from h1,show bB 0 p0 q=_ from h0]
 rw [ez]
 have e3:=Nl "deep" (C.map (bB 1 p0)) (by simpa using hC) (nK p0 C) (by rw [nK,rM];nofun) (kr _ _ _) H [] (some (.con rr)) a1 a2 (some (row (p0.length,k0))) (some (.bl true)) a7
 rw [nK,FF,YL] at e3
 have e4:=Nl "down" (C.map (bB 0 p0)) (by simpa using hC) (B3 (.int (nb (C.map (bB 0 p0)):Int)) (.int (nb (C.map (bB 1 p0)++[true]):Int)) (.int (nb (C.map (bB 2 p0)):Int))) (by rw [rM];nofun) (kq _ _ _) H [] (some (.con rr)) a1 a2 (some (row (p0.length,k0))) (some (.bl true)) a7
 rw [FE,YL] at e4
 unfold bA iM sS nK
 generalize hS:eY (ao BP (lE (af 4) (eC (.str "deep"))) (ao mw (eC (.int 1)) (af 6))) (af 4) (eC (.str "deep"))=S at e3
 generalize Yr:eY (ao BP (lE (af 4) (eC (.str "down"))) (ao mw (eC (.int 1)) (af 6))) (af 4) (eC (.str "down"))=S2 at e4
 generalize hE:ao bg (ao bg (af 0) (af 6)) (eC (.int 0))=E at e1
 generalize hF:ao bg (af 3) (eC (.int 0))=F at e2
 by_cases hd:q.length=p0.length+1
 ·have g3:((q.length:Int)==(p0.length:Int)+1)=true:=by rw [hd];simp
  have g4:(q.length==p0.length+1)=true:=by rw [hd];simp
  rw [g4]
  generalize H++.dct (B3 (.int (nb (C.map (bB 0 p0)):Int)) (.int (nb (C.map (bB 1 p0)):Int)) (.int (nb (C.map (bB 2 p0)):Int)))::[]=G at e3
  generalize H++.dct (B3 (.int (nb (C.map (bB 0 p0)):Int)) (.int (nb (C.map (bB 1 p0)++[true]):Int)) (.int (nb (C.map (bB 2 p0)):Int)))::[]=G2 at e3 e4
  generalize (q.length:Int)=u at e1 g1 g2 g3
  generalize (p0.length:Int)=w at e2 g1 g2 g3
  simp! [e1,e2,g1,g2,g3,cW,e3,e4]
 ·have g3:((q.length:Int)==(p0.length:Int)+1)=false:=beq_eq_false_iff_ne.mpr (by nofun)
  have g4:(q.length==p0.length+1)=false:=beq_eq_false_iff_ne.mpr hd
  rw [g4,gq _ _ rfl]
  generalize H++.dct (B3 (.int (nb (C.map (bB 0 p0)):Int)) (.int (nb (C.map (bB 1 p0)):Int)) (.int (nb (C.map (bB 2 p0)):Int)))::[]=G at e3
  generalize H++.dct (B3 (.int (nb (C.map (bB 0 p0)):Int)) (.int (nb (C.map (bB 1 p0)++[true]):Int)) (.int (nb (C.map (bB 2 p0)):Int)))::[]=G2 at e3 e4
  generalize (q.length:Int)=u at e1 g1 g2 g3
  generalize (p0.length:Int)=w at e2 g1 g2 g3
  simp! [e1,e2,g1,g2,g3,cW,e3]
end
theorem Np {p q:List Int} (h:In p q):fL p q=true∧c8 p q=false:=⟨Jt h,jf (YU (zH h))⟩
noncomputable def Rj (p0 q:List Int) (ins:Bool):Prop:=(ins=true∧∃ w,q=p0++w)∨(ins=false∧∃ a l v w,p0=a++[l]∧q=a++v::w∧l<v)
noncomputable def N3 (p0 q:List Int):Prop:=∃ a l r v w,r≠[]∧p0=a++l::r∧q=a++v::w∧l<v
theorem AN {p0 q:List Int} (h:N3 p0 q) (g:Nat):bB g p0 q=false:=by
 obtain ⟨a,l,r,v,w,hr,rfl,rfl,hv⟩:=h
 exact rL (jJ a l v r w (by nofun)) (rK a r w l v (by nofun) (.inl hr)) g
theorem FI {p0 q q':List Int} (h:N3 p0 q) (n:Nx q q'):N3 p0 q':=by
 obtain ⟨a,l,r,v,w,hr,rfl,rfl,hv⟩:=h
 rcases vL a w q' v n with ⟨w',_,rfl⟩ | rfl | ⟨b,i,c,rfl,rfl⟩
 ·exact ⟨a,l,r,v,w',hr,rfl,rfl,hv⟩
 ·exact ⟨a,l,r,v+1,[],hr,rfl,rfl,by nofun⟩
 ·exact ⟨b,i,c++l::r,i+1,[],by simp,by simp,rfl,by nofun⟩
theorem AO {p0:List Int}:∀ (L:List (List Int)) (q:List Int),N3 p0 q→Ch q L→∀ x∈L,N3 p0 x
 | [],q,_,_,x,h=>by simp at h
 | y::L,q,hq,hc,x,h=>by
  have hy:=FI hq hc.1
  rcases Y6.mp h with rfl | h
  ·exact hy
  ·exact AO L y hy hc.2 x h
theorem FJ {p0 q q':List Int} {ins:Bool} (h:Rj p0 q ins) (n:Nx q q') :
  (q'.length<p0.length∧N3 p0 q')∨(q'.length=p0.length∧fL p0 q'=false∧c8 p0 q'=true∧Rj p0 q' false)∨(p0.length<q'.length∧Rj p0 q' ins∧((ins=true∧fL p0 q'=true∧c8 p0 q'=false)∨(ins=false∧∀ g,bB g p0 q'=false))):=by
 rcases h with ⟨rfl,w,rfl⟩ | ⟨rfl,a,l,v,w,rfl,rfl,hv⟩
 ·rcases AI p0 w q' n with h | ⟨a,l,rfl,rfl⟩ | ⟨a,l,r,hr,rfl,rfl⟩
  ·have:=Np h
   refine .inr (.inr ⟨zH h,?_,.inl ⟨rfl,this⟩⟩)
   obtain ⟨w',_,rfl⟩:=h
   exact .inl ⟨rfl,w',rfl⟩
  ·refine .inr (.inl ⟨by simp,jJ a l (l+1) [] [] (by nofun),by rw [nI];exact decide_eq_true (by nofun),.inr ⟨rfl,a,l,l+1,[],rfl,rfl,by nofun⟩⟩)
  ·have:=aa3.mpr hr
   exact .inl ⟨by simp<;>nofun,a,l,r,l+1,[],hr,rfl,rfl,by nofun⟩
 ·rcases vL a w q' v n with ⟨w',hw,rfl⟩ | rfl | ⟨b,i,c,rfl,rfl⟩
  ·have:=aa3.mpr hw
   exact .inr (.inr ⟨by simp<;>nofun,.inr ⟨rfl,a,l,v,w',rfl,rfl,hv⟩,.inr ⟨rfl,λg=>rL (jJ a l v [] w' (by nofun)) (rK a [] w' l v (by nofun) (.inr hw)) g⟩⟩)
  ·refine .inr (.inl ⟨by simp,jJ a l (v+1) [] [] (by nofun),by rw [nI];exact decide_eq_true (by nofun),.inr ⟨rfl,a,l,v+1,[],rfl,rfl,by nofun⟩⟩)
  ·exact .inl ⟨by simp<;>nofun,b,i,c++[l],i+1,[],by simp,by simp,rfl,by nofun⟩
section
variable (rr:List D) (p0:List Int) (k0:Str) (H:DH) (a1 a2 a7:Option D)
theorem scan (P:List (List Int)) (hP:P.length≤1000) (hrr:∀ (i:Nat) (q:List Int),P[i]?=some q→∃ k,rr[i]?=some (row (q.length,k))):∀ (B C:List (List Int)) (q:List Int) (ins:Bool) (a6:Option D),P=C++B→Ch q B→Rj p0 q ins→∃ (Jx:Bool) (b6:Option D),
  bI (gN 6) bA ((Y8 C.length B.length).map λ(k:Nat)=>.int (k:Int)) (sS rr p0 k0 H a1 a2 a7 ins a6) (H++.dct (nK p0 C)::[])=.nx (sS rr p0 k0 H a1 a2 a7 Jx b6) (H++.dct (nK p0 P)::[])
 | [],C,q,ins,a6,hB,_,_=>⟨ins,a6,by rw [hB,Y4,YR,List.range'_zero,YY,cG]⟩
 | x::B,C,q,ins,a6,hB,hc,hs=>by
  obtain ⟨k,hr⟩:=hrr C.length x (by rw [hB];simp)
  have hC:C.length≤1000:=by rw [hB] at hP;simp at hP;nofun
  rw [Yy,Z1,Yv,aO (τ1:=sS rr p0 k0 H a1 a2 a7 ins (some (.int (C.length:Int)))) rfl]
  have hx:P=(C++[x])++B:=by rw [hB];simp
  have hlen:(C++[x]).length=C.length+1:=by simp
  rcases FJ hs hc.1 with ⟨h1,h2⟩ | ⟨h1,h2,h3,h4⟩ | ⟨h1,h2,⟨rfl,h3,h4⟩ | ⟨rfl,h3⟩⟩
  ·refine ⟨ins,some (.int (C.length:Int)),?_⟩
   rw [Jv rr p0 k0 H a1 a2 a7 ins C x k hr h1,Pp]
   have hf:∀ y∈x::B,∀ g,bB g p0 y=false:=λy hy=>by
    rcases Y6.mp hy with rfl | hy
    ·exact AN h2
    ·exact AN (AO B x h2 hc.2 y hy)
   have hn:∀ g,nb (P.map (bB g p0))=nb (C.map (bB g p0)):=λg=>by
    rw [hB,YS]
    refine nJ _ _ λb hb=>?_
    obtain ⟨y,hy,rfl⟩:=YX.mp hb
    exact hf y hy g
   rw [nK,nK,hn 0,hn 1,hn 2]
  ·obtain ⟨i',b6,e⟩:=scan P hP hrr B (C++[x]) x false (some (.int (C.length:Int))) hx hc.2 h4
   rw [hlen] at e
   exact ⟨i',b6,by rw [Jw rr p0 k0 H a1 a2 a7 ins C hC x k hr h1 h2 h3,cM,e]⟩
  ·obtain ⟨i',b6,e⟩:=scan P hP hrr B (C++[x]) x true (some (.int (C.length:Int))) hx hc.2 h2
   rw [hlen] at e
   exact ⟨i',b6,by rw [Nn rr p0 k0 H a1 a2 a7 C hC x k hr h1 h3 h4,cM,e]⟩
  ·obtain ⟨i',b6,e⟩:=scan P hP hrr B (C++[x]) x false (some (.int (C.length:Int))) hx hc.2 h2
   rw [hlen,FH p0 C x h3] at e
   exact ⟨i',b6,by rw [Nm rr p0 k0 H a1 a2 a7 C x k hr h1,cM,e]⟩
end
theorem Qo (τ:DS) (G:DH):mC [("down",eC (.int 0)),("deep",eC (.int 0)),("later",eC (.int 0))] τ G=.ok (.obj G.length) (G++.dct (B3 (.int 0) (.int 0) (.int 0))::[]):=by
 have e:mz [("down",eC (.int 0)),("deep",eC (.int 0)),("later",eC (.int 0))] τ (G++.dct []::[])=.ok (B3 (.int 0) (.int 0) (.int 0)) (G++.dct []::[]):=rfl
 unfold mC
 rw [e]
 dsimp only
 rw [p8]
 dsimp only
 rw [if_pos (by rw [rM];nofun),vU]
 have:qI (B3 (.int 0) (.int 0) (.int 0))=B3 (.int 0) (.int 0) (.int 0):=by kernel_rfl
 rw [this]
noncomputable def R3 (n:Nat):List (Key×D):=B3 (.obj (n+1)) (.obj (n+2)) (.obj (n+3))
theorem Qp (τ:DS) (G:DH):mC [("down",ak aS (ai)),("deep",ak aS (ai)),("later",ak aS (ai))] τ G=.ok (.obj G.length) (G++.dct (R3 G.length)::.lst []::.lst []::.lst []::[]):=by
 have z:(0:Nat)≤Yx:=Zq _
 have n1:∀ G':DH,aS [] G'=.ok (.obj G'.length) (G'++[.lst []]):=λG'=>if_pos z
 have n2:∀ G':DH,ak aS (ai) τ G'=.ok (.obj G'.length) (G'++[.lst []]):=λG'=>n1 G'
 have e:mz [("down",ak aS (ai)),("deep",ak aS (ai)),("later",ak aS (ai))] τ (G++.dct []::[])=.ok (R3 G.length) (G++.dct []::.lst []::.lst []::.lst []::[]):=by
  simp only [mz,ah,n2,aj,aN,YO,Yy,YR,ZD,Zf,YT]
  rfl
 unfold mC
 rw [e]
 dsimp only
 rw [p8]
 dsimp only
 rw [if_pos (by rw [R3,rM];nofun),vU]
 have:qI (R3 G.length)=R3 G.length:=by
  unfold R3
  generalize D.obj (G.length+1)=x
  generalize D.obj (G.length+2)=y
  generalize D.obj (G.length+3)=z
  kernel_rfl
 rw [this]
noncomputable def Rk (b:Bool) (kvs:List (Key×D)):DO:=if b then .C8 kvs else .dct kvs
noncomputable def HH (A:DH) (f:Bool) (x y z:List D) (R:DH):DH:=A++Rk f (R3 A.length)::.lst x::.lst y::.lst z::R
theorem Nq (A R:DH) (f:Bool) (kvs:List (Key×D)):i8 (A++Rk f kvs::R) (.obj A.length)=some kvs:=by
 unfold i8
 dsimp only
 rw [p8]
 cases f<;>rfl
theorem Nr (A:DH) (f:Bool) (x y z:List D) (R:DH):i8 (HH A f x y z R) (.obj A.length)=some (R3 A.length):=Nq A _ f _
theorem Kr (A:DH) (f:Bool) (x y z:List D) (R:DH) (k:Str) (v:D) (h:cX (R3 A.length) (Sum.inr k)=some v):uT (.obj A.length) (.str k) (HH A f x y z R)=.ok v (HH A f x y z R):=by
 unfold uT iK
 rw [Nr]
 dsimp only
 rw [h]
theorem zJ (G:DH) (n:Nat) (xs:List D) (v:D) (h:G[n]?=some (.lst xs)) (hz:xs.length≤1000):aU (.obj n) [v] G=.ok .dP (G.set n (.lst (xs++[v]))):=by
 unfold aU
 dsimp only
 rw [h]
 dsimp only
 rw [if_pos (YG (by nofun) (lz (n:=1001) (by nofun)))]
theorem Tw (A:DH) (f:Bool) (x y z:List D) (R:DH) (v:D) (h:x.length≤1000):aU (.obj (A.length+1)) [v] (HH A f x y z R)=.ok .dP (HH A f (x++[v]) y z R):=by
 rw [zJ _ _ x v (by simp [HH]) h];simp [HH]
theorem Tz (A:DH) (f:Bool) (x y z:List D) (R:DH) (v:D) (h:y.length≤1000):aU (.obj (A.length+2)) [v] (HH A f x y z R)=.ok .dP (HH A f x (y++[v]) z R):=by
 rw [zJ _ _ y v (by simp [HH]) h];simp [HH]
theorem TF (A:DH) (f:Bool) (x y z:List D) (R:DH) (v:D) (h:z.length≤1000):aU (.obj (A.length+3)) [v] (HH A f x y z R)=.ok .dP (HH A f x y (z++[v]) R):=by
 rw [zJ _ _ z v (by simp [HH]) h];simp [HH]
theorem Jy {g:jT} {body:MS} {kvs:List (Key×D)} {τ:DS} {G:DH}:iW g body (uX kvs) (kvs.length+1) 0 τ G=bI g body (kvs.map λkv=>nh kv.1) τ G:=by
 have:=iZ (g:=g) (body:=body) (xs:=kvs.map λkv=>nh kv.1) (vw:=uX kvs) (λG i h=>by
  simp only [YL] at h
  simp only [uX,if_pos h,YK]) (kvs.length+1) 0 τ G (by simp) (by simp)
 simpa using this
theorem rN (A:DH) (f:Bool) (x y z:List D) (R R':DH) (kvs:List (Key×D)) (go:Str) (n:Nat) (v:D) (G':DH) (h1:cX (R3 A.length) (Sum.inr go)=some (.obj n)) (h2:cX kvs (Sum.inr go)=some v) (a0 a2 a3 a5 a6:Option D)
  (ha:aU (.obj n) [v] (HH A f x y z (R++.dct kvs::R'))=.ok .dP G') :
  ff [a0,some (.obj A.length),a2,a3,some (.obj (HH A f x y z R).length),a5,a6,some (.str go)] (HH A f x y z (R++.dct kvs::R'))=.nx [a0,some (.obj A.length),a2,a3,some (.obj (HH A f x y z R).length),a5,a6,some (.str go)] G':=by
 have e1:=Kr A f x y z (R++.dct kvs::R') go _ h1
 have eh:HH A f x y z (R++.dct kvs::R')=HH A f x y z R++.dct kvs::R':=by simp [HH]
 have e2:=AJ (HH A f x y z R) R' kvs go v h2
 rw [← eh] at e2
 generalize (HH A f x y z R).length=m at e2
 generalize HH A f x y z (R++.dct kvs::R')=G at e1 e2 ha
 have hk:dB "list" G (.obj n)=true:=by
  unfold aU at ha
  dsimp only at ha
  cases q:G[n]? with
  | none=>rw [q] at ha;cases ha
  | some ob=>
   cases ob with
   | lst xs=>simp [dB,q]
   | _=>rw [q] at ha;cases ha
 unfold ff
 rw [iB,gj,zI,IV,aj,ah,Tg,aj,e1,aj,if_pos hk,aA,zI,IW,aj,ah,Tg,aj,e2,aj,ah,aI,aj,aN,aj,ha,j5]
noncomputable def mk (P:List (List Int)) (g:Nat) (p:List Int):D:=.int (nb (P.map (bB g p)):Int)
theorem Xb (A:DH) (f:Bool) (x y z:List D) (R:DH) (τ:DS) (h:τ[1]?=some (some (.obj A.length))):BR (af 1) τ (HH A f x y z R)=.ok ((R3 A.length).length+1,uX (R3 A.length)) (HH A true x y z R):=by
 unfold BR
 rw [ah,aQ,h,aj]
 dsimp only
 unfold HH
 rw [p8]
 cases f with
 | true=>rfl
 | false=>
  show Out.ok _ _=Out.ok _ _
  rw [vU];rfl
theorem Qq (n:Nat):((R3 n).map λkv=>nh kv.1)=[.str "down",.str "deep",.str "later"]:=rfl
theorem Jz (A:DH) (f:Bool) (x y z:List D) (R:DH) (d e l:D) (a0 a2 a3 a5 a6 a7:Option D) (hx:x.length≤1000) (hy:y.length≤1000) (hz:z.length≤1000) :
  iz (gN 7) (BR (af 1)) ff [a0,some (.obj A.length),a2,a3,some (.obj (HH A f x y z R).length),a5,a6,a7] (HH A f x y z (R++.dct (B3 d e l)::[]))=.nx [a0,some (.obj A.length),a2,a3,some (.obj (HH A f x y z R).length),a5,a6,some (.str "later")] (HH A true (x++[d]) (y++[e]) (z++[l]) (R++.dct (B3 d e l)::[])):=by
 have hl:∀ g x' y' z',(HH A f x y z R).length=(HH A g x' y' z' R).length:=λg x' y' z'=>by simp [HH]
 have e1:=rN A true x y z R [] (B3 d e l) "down" (A.length+1) d _ (kq _ _ _) (kq _ _ _) a0 a2 a3 a5 a6 (Tw A true x y z _ d hx)
 have e2:=rN A true (x++[d]) y z R [] (B3 d e l) "deep" (A.length+2) e _ (kr _ _ _) (kr _ _ _) a0 a2 a3 a5 a6 (Tz A true (x++[d]) y z _ e hy)
 have e3:=rN A true (x++[d]) (y++[e]) z R [] (B3 d e l) "later" (A.length+3) l _ (jh _ _ _) (jh _ _ _) a0 a2 a3 a5 a6 (TF A true (x++[d]) (y++[e]) z _ l hz)
 rw [← hl true x y z] at e1
 rw [← hl true (x++[d]) y z] at e2
 rw [← hl true (x++[d]) (y++[e]) z] at e3
 rw [l5,Xb A f x y z _ _ rfl,iY]
 dsimp only
 rw [Jy,Qq,aO (τ1:=[a0,some (.obj A.length),a2,a3,some (.obj (HH A f x y z R).length),a5,a6,some (.str "down")]) rfl,e1,cM,aO (τ1:=[a0,some (.obj A.length),a2,a3,some (.obj (HH A f x y z R).length),a5,a6,some (.str "deep")]) rfl,e2,cM,
  aO (τ1:=[a0,some (.obj A.length),a2,a3,some (.obj (HH A f x y z R).length),a5,a6,some (.str "later")]) rfl,e3,cM,cG]
theorem kH (c n:Nat):((Y9 n).map λ(k:Nat)=>D.int ((c:Int)+(k:Int)))=(Y8 c n).map λ(k:Nat)=>D.int (k:Int):=by
 rw [acj,YW]
 refine Zt λk _=>?_
 simp
theorem zK (rr:List D) (P C B:List (List Int)) (p0:List Int) (k0:Str) (hP:P.length≤100) (hB:P=C++p0::B) (hc:Ch p0 B) (Ks:P.Pairwise λp q=>In p q∨Gt p q) (hr:rr.length=P.length) (hrr:∀ (i:Nat) (q:List Int),P[i]?=some q→∃ k,rr[i]?=some (row (q.length,k))) (A:DH) (f:Bool) (x y z:List D) (R:DH) (hx:x.length≤1000) (hy:y.length≤1000) (hz:z.length≤1000) (a4 a5 a6 a7:Option D) :
  ∃ (b4 b5 b6 b7:Option D) (R':DH),dI [some (.con rr),some (.obj A.length),some (.int (C.length:Int)),some (row (p0.length,k0)),a4,a5,a6,a7] (HH A f x y z R)=.nx [some (.con rr),some (.obj A.length),some (.int (C.length:Int)),some (row (p0.length,k0)),b4,b5,b6,b7] (HH A true (x++[mk P 0 p0]) (y++[mk P 1 p0]) (z++[mk P 2 p0]) R'):=by
 have Qs:∀ q∈C++[p0],∀ g,bB g p0 q=false:=λq hq g=>by
  rcases Zk.mp hq with h | h
  ·rw [hB] at Ks
   exact yd (.inr ((List.pairwise_append.mp Ks).2.2 q h p0 (by simp))) g
  ·rw [Y7.mp h];exact yd (.inl rfl) g
 have h0:∀ g,nb ((C++[p0]).map (bB g p0))=0:=λg=>by
  have:=nJ [] ((C++[p0]).map (bB g p0)) λb hb=>by
   obtain ⟨q,hq,rfl⟩:=YX.mp hb
   exact Qs q hq g
  rw [YT] at this
  rw [this];rfl
 have hb0:nK p0 (C++[p0])=B3 (.int 0) (.int 0) (.int 0):=by
  rw [nK,h0 0,h0 1,h0 2];rfl
 obtain ⟨Jx,b6,e⟩:=scan rr p0 k0 (HH A f x y z R) (some (.obj A.length)) (some (.int (C.length:Int))) a7 P (by nofun) hrr B (C++[p0]) p0 true a6 (by rw [hB];simp) hc (.inl ⟨rfl,[],by simp⟩)
 rw [hb0,← kH] at e
 have hlen:P.length=C.length+1+B.length:=by rw [hB];simp;nofun
 have hn:iU [.int ((C.length:Int)+1),.int (rr.length:Int)]=some ((Y9 B.length).map λ(k:Nat)=>.int (((C++[p0]).length:Int)+(k:Int))):=by
  unfold iU
  dsimp only
  rw [if_pos ⟨by nofun,by nofun,by nofun,by nofun⟩]
  have h1:((rr.length:Int) - ((C.length:Int)+1)).toNat=B.length:=by nofun
  have h2:((C++[p0]).length:Int)=(C.length:Int)+1:=by simp
  rw [h1,h2]
 generalize ((Y9 B.length).map λ(k:Nat)=>D.int (((C++[p0]).length:Int)+(k:Int)))=its at e hn
 have e5:=Jz A f x y z R (mk P 0 p0) (mk P 1 p0) (mk P 2 p0) (some (.con rr)) (some (.int (C.length:Int))) (some (row (p0.length,k0))) (some (.bl Jx)) b6 a7 hx hy hz
 have eH:HH A f x y z (R++.dct (B3 (mk P 0 p0) (mk P 1 p0) (mk P 2 p0))::[])=HH A f x y z R++.dct (nK p0 P)::[]:=by simp [HH,nK,mk]
 rw [eH] at e5
 have zr:rr.length≤Yx:=lz (by nofun)
 refine ⟨some (.obj (HH A f x y z R).length),some (.bl Jx),b6,some (.str "later"),R++.dct (B3 (mk P 0 p0) (mk P 1 p0) (mk P 2 p0))::[],?_⟩
 unfold dI
 rw [aT,bG,Qo,cS,Tc,bJ,aT,bG,cJ,cS,Te,bJ,aT,m5]
 have ea:∀ G,(aa (ao aE (af 2) (eC (.int 1))) (aa (ak cC (aa (af 0) (ai))) (ai))) (sS rr p0 k0 (HH A f x y z R) (some (.obj A.length)) (some (.int (C.length:Int))) a7 true a6) G=.ok [.int ((C.length:Int)+1),.int (rr.length:Int)] G:=λG=>by
  unfold sS
  simp! [zr]
 unfold sS at ea e
 rw [ea,iY,hn]
 dsimp only
 rw [e,bJ,e5]
noncomputable def UU:List (List Int)→Prop
 | []=>True
 | x::B=>Ch x B
theorem Nt:∀ {x:List Int} {B:List (List Int)},Ch x B→UU B
 | _,[],_=>trivial
 | _,_::_,h=>h.2
theorem rO (rr:List D) (P:List (List Int)) (hP:P.length≤100) (Ks:P.Pairwise λp q=>In p q∨Gt p q) (hr:rr.length=P.length) (hrr:∀ (i:Nat) (q:List Int),P[i]?=some q→∃ k,rr[i]?=some (row (q.length,k))) (A:DH):∀ (B C:List (List Int)) (f:Bool) (R:DH) (a2 a3 a4 a5 a6 a7:Option D),P=C++B→UU B →
  ∃ (b2 b3 b4 b5 b6 b7:Option D) (f':Bool) (R':DH),bI (gP 2 3) dI ((rr.drop C.length).mapIdx λi x=>.tup [.int ((C.length+i:Nat):Int),x]) [some (.con rr),some (.obj A.length),a2,a3,a4,a5,a6,a7] (HH A f (C.map (mk P 0)) (C.map (mk P 1)) (C.map (mk P 2)) R)=.nx [some (.con rr),some (.obj A.length),b2,b3,b4,b5,b6,b7] (HH A f' (P.map (mk P 0)) (P.map (mk P 1)) (P.map (mk P 2)) R')
 | [],C,f,R,a2,a3,a4,a5,a6,a7,hB,_=>by
  rw [Y4] at hB
  refine ⟨a2,a3,a4,a5,a6,a7,f,R,?_⟩
  rw [hB,aaf (by rw [hr,hB];exact YE _),adX,cG]
 | x::B,C,f,R,a2,a3,a4,a5,a6,a7,hB,hc=>by
  obtain ⟨k,hk⟩:=hrr C.length x (by rw [hB];simp)
  have hC:C.length≤100:=by rw [hB] at hP;simp at hP;nofun
  have hm:∀ g,(C.map (mk P g)).length≤1000:=λg=>by rw [YL];nofun
  obtain ⟨c4,c5,c6,c7,R1,e1⟩:=zK rr P C B x k hP hB hc Ks hr hrr A f _ _ _ R (hm 0) (hm 1) (hm 2) a4 a5 a6 a7
  have hx:P=(C++[x])++B:=by rw [hB];simp
  obtain ⟨b2,b3,b4,b5,b6,b7,f',R',e2⟩:=rO rr P hP Ks hr hrr A B (C++[x]) true R1 (some (.int (C.length:Int))) (some (row (x.length,k))) c4 c5 c6 c7 hx (Nt hc)
  refine ⟨b2,b3,b4,b5,b6,b7,f',R',?_⟩
  obtain ⟨hlt,hg⟩:=Yw.mp hk
  rw [ZV hlt,hg,abC,aO (g:=gP 2 3) (τ1:=[some (.con rr),some (.obj A.length),some (.int (C.length:Int)),some (row (x.length,k)),a4,a5,a6,a7]) rfl,e1,cM]
  have hl:(C++[x]).length=C.length+1:=by simp
  have em:((rr.drop (C.length+1)).mapIdx λi y=>D.tup [.int ((C.length+(i+1):Nat):Int),y])=((rr.drop (C++[x]).length).mapIdx λi y=>D.tup [.int (((C++[x]).length+i:Nat):Int),y]):=by
   rw [hl]
   congr 1
   funext i y
   rw [abF,adz 1 i]
  rw [em,← e2,YS,YS,YS]
  rfl
theorem rP {g:jT} {body:MS} {xs:List D} {τ:DS} {G:DH}:iW g body (fH (.con xs)) (xs.length+1) 0 τ G=bI g body (xs.mapIdx λi x=>.tup [.int i,x]) τ G:=by
 have:=iZ (g:=g) (body:=body) (xs:=xs.mapIdx λi x=>D.tup [.int i,x]) (vw:=fH (.con xs)) (λG i h=>by
  simp only [fH,aD,aaW]) (xs.length+1) 0 τ G (by simp) (by simp)
 simpa using this
noncomputable def PP (t:T):List (List Int):=(t.prs []).map (·.1)
theorem nL (t:T):(PP t).length=t.subs.length:=by rw [PP,YL,← fR [] t,YL]
theorem ye (t:T):∃ L,PP t=[]::L∧Ch [] L:=by
 cases t with
 | nd k ps=>exact ⟨(bU [] 0 ps).map (·.1),by rw [PP,T.prs];rfl,(Ni ps [] [] 0 ⟨[],rfl⟩ (.inl ⟨rfl,rfl⟩)).1⟩
theorem Ku (t:T):(PP t).Pairwise λp q=>In p q∨Gt p q:=by
 obtain ⟨L,h1,h2⟩:=ye t
 rw [h1];exact Kn L [] h2
theorem Kv (t:T):(PP t).Nodup:=(Ku t).imp λh e=>by
 subst e;exact Qk h
theorem JA (t:T) (i:Nat) (q:List Int) (h:(PP t)[i]?=some q):∃ k,((t.pre 0).map row)[i]?=some (row (q.length,k)):=by
 have e:=yc t []
 rw [YR] at e
 have e1:((t.pre 0).map (·.1))[i]?=some q.length:=by
  rw [e,show ((t.prs []).map λx=>x.1.length)=(PP t).map aag by rw [PP,YW];rfl,YK,h];rfl
 rw [YK] at e1 ⊢
 cases z:(t.pre 0)[i]? with
 | none=>rw [z] at e1;cases e1
 | some p=>
  rw [z] at e1
  exact ⟨p.2,by simp at e1;rw [← e1];rfl⟩
theorem FL (t:T) (ht:t.subs.length≤100) (G:DH):∃ (f:Bool) (R:DH),eu [.con ((t.pre 0).map row)] G=.ok (.obj G.length) (HH G f ((PP t).map (mk (PP t) 0)) ((PP t).map (mk (PP t) 1)) ((PP t).map (mk (PP t) 2)) R):=by
 obtain ⟨L,h1,h2⟩:=ye t
 have hl:=nL t
 have hr:((t.pre 0).map row).length=(PP t).length:=by rw [YL,vE,hl]
 have hrr:=JA t
 have e:∃ (b2 b3 b4 b5 b6 b7:Option D) (f':Bool) (R':DH),bI (gP 2 3) dI (((t.pre 0).map row).mapIdx λi x=>.tup [.int (i:Int),x]) [some (.con ((t.pre 0).map row)),some (.obj G.length),none,none,none,none,none,none] (HH G false [] [] [] [])=.nx [some (.con ((t.pre 0).map row)),some (.obj G.length),b2,b3,b4,b5,b6,b7] (HH G f' ((PP t).map (mk (PP t) 0)) ((PP t).map (mk (PP t) 1)) ((PP t).map (mk (PP t) 2)) R'):=by
  have:=rO ((t.pre 0).map row) (PP t) (by nofun) (Ku t) hr hrr G (PP t) [] false [] none none none none none none rfl (by rw [h1];exact h2)
  simpa using this
 obtain ⟨b2,b3,b4,b5,b6,b7,f',R',e⟩:=e
 refine ⟨f',R',?_⟩
 generalize (t.pre 0).map row=rr at e
 unfold eu jE
 have ea:cV (aa (af 0) (ai)) [some (.con rr),some (.obj G.length),none,none,none,none,none,none] (HH G false [] [] [] [])=.ok (rr.length+1,fH (.con rr)) (HH G false [] [] [] []):=by
  simp [j8,aA,aI,aj,ah,aN,aD]
 have e0:([D.con rr].map some++YV (8 - [D.con rr].length) none)=[some (.con rr),none,none,none,none,none,none,none]:=rfl
 rw [f6,e0,aT,bG,Qp,cS,Ww,bJ,aT,l5]
 show (((cV (aa (af 0) (ai)) [some (.con rr),some (.obj G.length),none,none,none,none,none,none] (HH G false [] [] [] [])).sb _ _).sq _).fn=_
 rw [ea,iY]
 dsimp only
 rw [rP,e,bJ,eU,IV,gx,gz]
theorem JB (t:T) (hl:t.subs.length≤100) (x:List Int×T) (hx:x∈t.prs []) (g:Nat) (go:Str) (hg:CH[g]?=some go) (G:DH):eN [t.d,.str go,pl x.1] G=.ok (.con (((PP t).filter (bB g x.1)).map pl)) G:=by
 obtain ⟨p,s⟩:=x
 have hsub:s∈t.subs:=by rw [← fR [] t];exact YX.mpr ⟨(p,s),hx,rfl⟩
 have hs:=sub_le t s hsub
 have hp:=nG t [] (p,s) hx
 simp only [YR,abT] at hp
 match g,hg with
 | 0,hg=>
  cases hg
  show _=Out.ok (D.con ((((t.prs []).map (·.1)).filter (iJ p)).map pl)) G
  rw [Fo t [] (p,s) hx];exact Cg t s p hx (by nofun) (by nofun) G
 | 1,hg=>
  cases hg
  show _=Out.ok (D.con ((((t.prs []).map (·.1)).filter (fL p)).map pl)) G
  rw [zD t [] (p,s) hx];exact Ci t s p hx (by nofun) (by nofun) G
 | 2,hg=>
  cases hg
  show _=Out.ok (D.con ((((t.prs []).map (·.1)).filter (c8 p)).map pl)) G
  rcases above _ t [] (p,s) (YE _) hx with h | ⟨a,i,u,h1,h2,h3⟩
  ·cases h
   rw [filter_none λq _=>?_]
   ·exact k8 t [] [] G (Cj t G)
   ·by_cases hq:q.length=0
    ·rw [ZP.mp hq]
     first | done | rfl
    ·exact jf λz=>hq z.symm
  ·have hu:u∈t.subs:=by rw [← fR [] t];exact YX.mpr ⟨(a,u),h2,rfl⟩
   have oO:=sub_le t u hu
   have hup:=rJ u
   have ha:=nG t [] (a,u) h2
   simp only [YR,abT] at ha
   dsimp only at h1
   subst h1
   rw [Jl t [] a u i h2];exact k8 t _ _ G (Fv t u a i h2 (by nofun) (by nofun) (by nofun) G)
 | n+3,hg=>simp [CH] at hg
noncomputable def nums:Nat→List (List Int)→List (List Key×D)
 | _,[]=>[]
 | k,p::r=>(ky p,.int (k:Int))::nums (k+1) r
theorem FN {p q:List Int} (h:ky p=ky q):p=q:=by
 unfold ky at h
 exact (List.map_inj_right (λ_ _ e=>abG e)).mp h
theorem t6:∀ (C:List (List Int)) (p:List Int) (k:Nat),nums k (C++[p])=nums k C++[(ky p,.int ((k+C.length:Nat):Int))]
 | [],p,k=>rfl
 | c::C,p,k=>by
  rw [Zf,nums,nums,t6 C p (k+1),Zf,Yy]
  congr 4
  simp only [D.int.injEq,Prod.mk.injEq,List.cons.injEq,and_true,true_and]
  nofun
theorem yf:∀ (C:List (List Int)) (k:Nat),(nums k C).length=C.length
 | [],k=>rfl
 | c::C,k=>by rw [nums,Yy,yf C,Yy]
theorem nM:∀ (C:List (List Int)) (k:Nat),(nums k C).map (·.1)=C.map ky
 | [],k=>rfl
 | c::C,k=>by rw [nums,Yv,nM C,Yv]
theorem FO (C:List (List Int)) (p:List Int) (h:p∉C):bF (nums 0 C) (ky p) (.int (C.length:Int))=nums 0 (C++[p]):=by
 unfold bF
 rw [if_neg,t6,abT]
 rw [abA]
 rintro ⟨kv,h1,h2⟩
 have:kv.1∈(nums 0 C).map (·.1):=YX.mpr ⟨kv,h1,rfl⟩
 rw [nM] at this
 obtain ⟨q,hq,e⟩:=YX.mp this
 rw [of_decide_eq_true h2] at e
 exact h (FN e▸hq)
theorem vM:∀ (C:List (List Int)) (k i:Nat) (q:List Int),C.Nodup→C[i]?=some q→cX (nums k C) (ky q)=some (.int ((k+i:Nat):Int))
 | [],k,i,q,_,h=>by simp at h
 | c::C,k,0,q,_,h=>by
  simp at h;subst h
  rw [nums,fq rfl];rfl
 | c::C,k,i+1,q,hn,h=>by
  have h':C[i]?=some q:=by simpa using h
  rw [nums,fy (λe=>?_),vM C (k+1) i q (ZK.mp hn).2 h']
  ·congr 3;nofun
  ·exact (ZK.mp hn).1 (FN e▸Zi h')
noncomputable def gJ:Nat→List Bool→List Int
 | _,[]=>[]
 | k,b::r=>if b then (k:Int)::gJ (k+1) r else gJ (k+1) r
noncomputable def vf (kvs:List (List Key×D)) (x:D):D:=(cX kvs ((qC x).getD [])).getD .dP
theorem Kw (kvs:List (List Key×D)) (q:List Int) (v:D) (h:cX kvs (ky q)=some v):vf kvs (pl q)=v:=by rw [vf,zG,Option.getD_some,h];rfl
theorem AQ (P:List (List Int)) (hP:P.Nodup) (c:List Int→Bool):∀ (r C:List (List Int)),P=C++r→((r.filter c).map pl).map (vf (nums 0 P))=(gJ C.length (r.map c)).map .int
 | [],C,h=>rfl
 | p::r,C,h=>by
  have ih:=AQ P hP c r (C++[p]) (by rw [h];simp)
  rw [YO,ZI] at ih
  have hv:=Kw (nums 0 P) p _ (vM P 0 C.length p hP (by rw [h];simp))
  rw [Yv,gJ]
  by_cases hc:c p=true
  ·rw [ZO hc,Yv,Yv,hv,ih,if_pos hc,Yv];simp
  ·rw [ZN hc,ih,if_neg hc]
theorem zL (n:Nat) (P:List (List Int)) (hP:P.Nodup) (hl:P.length≤1000) (fz:Bool) (c:List Int→Bool) (G:DH) (hg:G[n]?=some (.fV fz (nums 0 P))) :
  d9 [.obj n,.con ((P.filter c).map pl)] G=.ok (.con ((gJ 0 (P.map c)).map .int)) G:=by
 have hn:n<G.length:=(Yw.mp hg).1
 have hc:aH ((gJ 0 (P.map c)).map D.int)=true:=ay λ_=>aV
 have hfl:(P.filter c).length≤1000:=Zw (acO _ _) hl
 have c1:=bH (τ:=[some (.obj n),some (.con ((P.filter c).map pl))]) (G:=G) (gO:=oN) (ks:=[true]) (te:=xh (af 1) (af 0)) (own:=λd=>[d]) (f:=vf (nums 0 P)) ((P.filter c).map pl) [] (by simp;nofun) (λx _=>rfl) (λx hx acc=>by
   obtain ⟨q,hq,rfl⟩:=YX.mp hx
   obtain ⟨i,hi⟩:=aaP.mp (aa7.mp hq).1
   have hv:=vM P 0 i q hP hi
   have:=Nh n (nums 0 P) fz q _ hv (G++[.lst acc]) (by rw [YQ hn];exact hg)
   show (af 1 [some (pl q),some (.obj n),none]).bind (λd=>(af 0 [some (pl q),some (.obj n),none]).bind λk=>Em d k) _=_
   rw [ah,IV,aj,ah,Gf,aj,this,Kw _ q _ hv])
 have ei:=AQ P hP c P [] rfl
 rw [YR] at ei
 rw [YT,ei] at c1
 refine bz ?_ (by rw [aL];exact hc)
 have e2:eFn (cj oN [true] (af 1) (bV) (xh (af 1) (af 0))) [some (.obj n),some (.con ((P.filter c).map pl))] G=.ok (.con ((gJ 0 (P.map c)).map .int)) G:=by
  rw [bP,← dZ hc,← c1]
  generalize (P.filter c).map pl=LL
  simp only [gD,IV,aj]
 unfold jA
 simp only [f6,Yv,YY,Yy,YR,acE,aa2,Y4,eU,e2,gx,gz]
theorem Co (A:DH) (kvs:List (List Key×D)) (hk:kvs.length≤1000) (a0 a4 a5:Option D) (i:Int) (p:List Int) :
  dM [a0,some (.obj A.length),some (.int i),some (pl p),a4,a5] (A++[.fV false kvs])=.nx [a0,some (.obj A.length),some (.int i),some (pl p),a4,a5] (A++[.fV false (bF kvs (ky p) (.int i))]):=by
 have z:kvs.length<Yx:=YG (by nofun) (lz (n:=1001) (by nofun))
 unfold dM qD
 dsimp only [bL]
 rw [ah,MV,aj,ah,IV,aj,ah,NY,aj]
 unfold xj
 rw [zG]
 dsimp only
 rw [p8]
 dsimp only
 rw [if_pos z,vU]
theorem t7 (A:DH) (a0 a4 a5:Option D):∀ (ps C:List (List Int)) (a2 a3:Option D),C.length+ps.length≤1000→(C++ps).Nodup→∃ (b2 b3:Option D),
  bI (gP 2 3) dM (ps.mapIdx λi p=>.tup [.int ((C.length+i:Nat):Int),pl p]) [a0,some (.obj A.length),a2,a3,a4,a5] (A++[.fV false (nums 0 C)])=.nx [a0,some (.obj A.length),b2,b3,a4,a5] (A++[.fV false (nums 0 (C++ps))])
 | [],C,a2,a3,h,hn=>⟨a2,a3,by rw [adX,cG,Y4]⟩
 | p::ps,C,a2,a3,h,hn=>by
  rw [Yy] at h
  have hp:p∉C:=λhm=>by
   have:=(ZS.mp hn).2.2 p hm p (by simp)
   exact this rfl
  obtain ⟨b2,b3,e⟩:=t7 A a0 a4 a5 ps (C++[p]) (some (.int (C.length:Int))) (some (pl p)) (by simp;nofun) (by simpa using hn)
  refine ⟨b2,b3,?_⟩
  rw [abC,aO (g:=gP 2 3) (τ1:=[a0,some (.obj A.length),some (.int (C.length:Int)),some (pl p),a4,a5]) rfl,Co A (nums 0 C) (by rw [yf];nofun),cM,FO C p hp]
  have em:(ps.mapIdx λi q=>D.tup [.int ((C.length+(i+1):Nat):Int),pl q])=(ps.mapIdx λi q=>D.tup [.int (((C++[p]).length+i:Nat):Int),pl q]):=by
   congr 1
   funext i q
   rw [YO,ZI,abF,adz 1 i]
  rw [em,e,ZD]
  rfl
theorem FP {gO:D→Option (List D)} {ks:List Bool} {tt:DS→M Bool} {te:DS→M D} {n:Nat} {kvs:List (List Key×D)} {τ:DS} {G:DH}:iX gO ks tt te n (zc kvs) (kvs.length+1) 0 τ G=cz gO ks tt te n (kvs.map λkv=>D.tup (kv.1.map nh)) τ G:=by
 have:=i6 (n:=n) (gO:=gO) (ks:=ks) (tt:=tt) (te:=te) (xs:=kvs.map λkv=>D.tup (kv.1.map nh)) (vw:=zc kvs) (λG i h=>by
  simp only [YL] at h
  simp only [zc,if_pos h,YK]) (kvs.length+1) 0 τ G (by simp) (by simp)
 simpa using this
theorem JC (P:List (List Int)) (k:Nat):((nums k P).map λkv=>D.tup (kv.1.map nh))=P.map pl:=by
 have:=congrArg (List.map λk:List Key=>D.tup (k.map nh)) (nM P k)
 rw [YW,YW] at this
 rw [← show P.map ((λk:List Key=>D.tup (k.map nh))∘ky)=P.map pl from Zt λp _=>Qj p,← this]
 rfl
noncomputable def rc (P:List (List Int)) (g:Nat) (p:List Int):D:=.con ((gJ 0 (P.map (bB g p))).map .int)
theorem Cp (P:List (List Int)) (g:Nat) (p:List Int):(rc P g p).closed=true:=by rw [rc,aL];exact ay λ_=>aV
noncomputable def pin:D→List Int
 | .tup xs=>xs.map λd=>match d with | .int i=>i | _=>0
 | _=>[]
theorem FQ (p:List Int):pin (pl p)=p:=by
 rw [pl,pin,YW]
 exact List.map_id p
noncomputable def FT:DS→M D:=dY oN [true,true,false,false,false,true] (BH (af 1)) (bV) (aq 2 d9 (aa (af 2) (aa (aq 3 eN (aa (af 1) (aa (af 6) (aa (af 0) (ai))))) (ai))))
theorem Nu (t:T) (hl:t.subs.length≤100) (A B:DH) (fz:Bool) (g:Nat) (go:Str) (hgo:CH[g]?=some go) (a2 a3 a4:Option D) :
  FT [some t.d,some (.obj A.length),a2,a3,a4,some (.str go)] (A++.fV fz (nums 0 (PP t))::B)=.ok (.obj (A++.fV true (nums 0 (PP t))::B).length) ((A++.fV true (nums 0 (PP t))::B)++[.lst ((PP t).map (rc (PP t) g))]):=by
 have hz:=nL t
 have c1:=bH (τ:=[some t.d,some (.obj A.length),a2,a3,a4,some (.str go)]) (G:=A++.fV true (nums 0 (PP t))::B) (gO:=oN) (ks:=[true,true,false,false,false,true]) (te:=aq 2 d9 (aa (af 2) (aa (aq 3 eN (aa (af 1) (aa (af 6) (aa (af 0) (ai))))) (ai)))) (own:=λd=>[d]) (f:=λd=>rc (PP t) g (pin d)) ((PP t).map pl) [] (by simp;nofun) (λx _=>rfl) (λx hx acc=>by
  obtain ⟨p,hp,rfl⟩:=YX.mp hx
  obtain ⟨y,hy,rfl⟩:=YX.mp hp
  have e4:=JB t hl y hy g go hgo ((A++.fV true (nums 0 (PP t))::B)++[.lst acc])
  have e3:=zL A.length (PP t) (Kv t) (by nofun) true (bB g y.1) ((A++.fV true (nums 0 (PP t))::B)++[.lst acc]) (by rw [ZD];exact p8 A _ _)
  rw [FQ,rc]
  generalize (gJ 0 ((PP t).map (bB g y.1))).map D.int=xs at e3
  generalize ((PP t).filter (bB g y.1)).map pl=LL at e3 e4
  generalize pl y.1=pp at e4
  generalize t.d=td at e4
  generalize (A++.fV true (nums 0 (PP t))::B)++[.lst acc]=G at e3 e4
  show aq 2 d9 (aa (af 2) (aa (aq 3 eN (aa (af 1) (aa (af 6) (aa (af 0) (ai))))) (ai))) [some pp,some td,some (.obj A.length),none,none,none,some (.str go)] G=_
  simp [bO,aA,aI,aj,ah,aN,e3,e4])
 rw [YT,YW,show ((λd=>rc (PP t) g (pin d))∘pl)=rc (PP t) g from funext λp=>by show rc (PP t) g (pin (pl p))=_;rw [FQ],← JC (PP t) 0,← FP] at c1
 rw [← c1]
 unfold FT
 rw [qf]
 have hi:BH (af 1) [some t.d,some (.obj A.length),a2,a3,a4,some (.str go)] (A++.fV fz (nums 0 (PP t))::B)=.ok ((nums 0 (PP t)).length+1,zc (nums 0 (PP t))) (A++.fV true (nums 0 (PP t))::B):=by
  unfold BH
  rw [ah,IV,aj]
  dsimp only
  rw [p8]
  dsimp only
  rw [vU]
 rw [hi,aj]
theorem nN (t:T) (hl:t.subs.length≤100) (A R:DH) (fz:Bool) (ds:List (Key×D)) (hd:ds.length≤1000) (g:Nat) (go:Str) (hgo:CH[g]?=some go) (a2 a3:Option D) :
  iP [some t.d,some (.obj A.length),a2,a3,some (.obj (A.length+1)),some (.str go)] (A++.fV fz (nums 0 (PP t))::.dct ds::R)=.nx [some t.d,some (.obj A.length),a2,a3,some (.obj (A.length+1)),some (.str go)] (A++.fV true (nums 0 (PP t))::.dct (bF ds (Sum.inr go) (.con ((PP t).map (rc (PP t) g))))::(R++[.dead])):=by
 have e:=Nu t hl A (.dct ds::R) fz g go hgo a2 a3 (some (.obj (A.length+1)))
 have hc:aH ((PP t).map (rc (PP t) g))=true:=ay (Cp (PP t) g)
 have e2:yp FT [some t.d,some (.obj A.length),a2,a3,some (.obj (A.length+1)),some (.str go)] (A++.fV fz (nums 0 (PP t))::.dct ds::R)=.ok (.con ((PP t).map (rc (PP t) g))) (A++.fV true (nums 0 (PP t))::.dct ds::(R++[.dead])):=by
  rw [PB,e,J9]
  simp
 have z:ds.length<Yx:=YG (by nofun) (lz (n:=1001) (by nofun))
 show eY (yp FT) (af 4) (af 5) _ _=_
 generalize yp FT=E at e2
 rw [uL]
 simp [e2,aj,ah,k6,iK,J5,z,Sx,j5]
noncomputable def RR (P:List (List Int)):List (Key×D):=B3 (.con (P.map (rc P 0))) (.con (P.map (rc P 1))) (.con (P.map (rc P 2)))
theorem zM (t:T) (hl:t.subs.length≤100) (G:DH):∃ x R,dG [t.d] G=.ok (.obj (G.length+1)) (G++x::.dct (RR (PP t))::R):=by
 have hz:=nL t
 have e1:=places_eq t (by nofun) (G++[.fV false []])
 have f1:=t7 G (some t.d) none none (PP t) [] none none (by simp;nofun) (by simpa using Kv t)
 obtain ⟨b2,b3,e2⟩:=f1
 have t1:=nN t hl G [] false [] (by simp) 0 "down" rfl b2 b3
 have t2:=nN t hl G ([]++[.dead]) true (bF [] (Sum.inr "down":Key) (.con ((PP t).map (rc (PP t) 0)))) (by simp [bF]) 1 "deep" rfl b2 b3
 have t3:=nN t hl G ([]++[.dead]++[.dead]) true (bF (bF [] (Sum.inr "down":Key) (.con ((PP t).map (rc (PP t) 0)))) (Sum.inr "deep") (.con ((PP t).map (rc (PP t) 1)))) (by
  have:=o8 (bF [] (Sum.inr "down":Key) (.con ((PP t).map (rc (PP t) 0)))) (Sum.inr "deep") (.con ((PP t).map (rc (PP t) 1)))
  have h2:(bF [] (Sum.inr "down":Key) (.con ((PP t).map (rc (PP t) 0)))).length=1:=rfl
  nofun) 2 "later" rfl b2 b3
 have ed:bF (bF (bF [] (Sum.inr "down":Key) (.con ((PP t).map (rc (PP t) 0)))) (Sum.inr "deep") (.con ((PP t).map (rc (PP t) 1)))) (Sum.inr "later") (.con ((PP t).map (rc (PP t) 2)))=RR (PP t):=by
  unfold RR
  generalize D.con ((PP t).map (rc (PP t) 0))=x
  generalize D.con ((PP t).map (rc (PP t) 1))=y
  generalize D.con ((PP t).map (rc (PP t) 2))=z
  kernel_rfl
 rw [ed] at t3
 refine ⟨.fV true (nums 0 (PP t)),[]++[.dead]++[.dead]++[.dead],?_⟩
 have eL:((PP t).mapIdx λi p=>D.tup [.int ((([]:List (List Int)).length+i:Nat):Int),pl p])=(((PP t).map pl).mapIdx λi x=>D.tup [.int (i:Int),x]):=by
  apply aak
  ·simp
  ·intro i h1 h2;simp
 rw [eL,YT] at e2
 have z3:3≤Yx:=lz (by nofun)
 unfold dG jH
 rw [show ((t.prs []).map (·.1)).map pl=(PP t).map pl from rfl] at e1
 generalize (PP t).map pl=PL at e1 e2
 generalize nums 0 (PP t)=kvs at e2 t1 t2 t3
 generalize bF (bF [] (Sum.inr "down":Key) (.con ((PP t).map (rc (PP t) 0)))) (Sum.inr "deep") (.con ((PP t).map (rc (PP t) 1)))=d2 at t2 t3
 generalize bF [] (Sum.inr "down":Key) (.con ((PP t).map (rc (PP t) 0)))=d1 at t1 t2
 generalize RR (PP t)=d3 at t3
 generalize t.d=td at e1 e2 t1 t2 t3
 rw [f6]
 have s1:∀ k,aG (aJ 1 (za)) k [some td,none,none,none,none,none] G=k [some td,some (.obj G.length),none,none,none,none] (G++[.fV false []]):=λk=>rfl
 have s2:iz (gP 2 3) (cV (aa (aq 1 aZ (aa (af 0) (ai))) (ai))) dM [some td,some (.obj G.length),none,none,none,none] (G++[.fV false []])=.nx [some td,some (.obj G.length),b2,b3,none,none] (G++[.fV false kvs]):=by
  have q:cV (aa (aq 1 aZ (aa (af 0) (ai))) (ai)) [some td,some (.obj G.length),none,none,none,none] (G++[.fV false []])=.ok (PL.length+1,fH (.con PL)) (G++[.fV false []]):=by
   simp [j8,bO,aA,aI,aj,ah,aN,e1,aD]
  rw [l5,q,iY,rP]
  exact e2
 have s3:gc [some td,some (.obj G.length),b2,b3,none,none] (G++[.fV false kvs])=.rt (.obj (G.length+1)) (G++.fV true kvs::.dct d3::([]++[.dead]++[.dead]++[.dead])):=by
  have q:∀ k,aG (aJ 4 (sZ)) k [some td,some (.obj G.length),b2,b3,none,none] (G++[.fV false kvs])=k [some td,some (.obj G.length),b2,b3,some (.obj (G.length+1)),none] (G++.fV false kvs::[.dct []]):=λk=>by
   rw [aT,bG,Ak,cS,Tc,bJ]
   simp
  unfold gc
  rw [q,aT,j6]
  have q2:ak bx (aa (eC (.str "down")) (aa (eC (.str "deep")) (aa (eC (.str "later")) (ai)))) [some td,some (.obj G.length),b2,b3,some (.obj (G.length+1)),none] (G++.fV false kvs::[.dct []])=.ok (.tup [.str "down",.str "deep",.str "later"]) (G++.fV false kvs::[.dct []]):=by
   simp [aY,aA,aI,aj,ah,aN,bx,z3]
  rw [q2,iY]
  dsimp only
  rw [aO (τ1:=[some td,some (.obj G.length),b2,b3,some (.obj (G.length+1)),some (.str "down")]) rfl,t1,cM,aO (τ1:=[some td,some (.obj G.length),b2,b3,some (.obj (G.length+1)),some (.str "deep")]) rfl,t2,cM,aO (τ1:=[some td,some (.obj G.length),b2,b3,some (.obj (G.length+1)),some (.str "later")]) rfl,t3,cM,cG,bJ,eU,IW,gx]
 have e0:([td].map some++YV (6 - [td].length) none)=[some td,none,none,none,none,none]:=rfl
 rw [e0,s1,aT,s2,bJ,s3,gz]
theorem gg:∀ (bs:List Bool) (k:Nat) (j:Int),j∈gJ k bs↔∃ i:Nat,j=((k+i:Nat):Int)∧bs[i]?=some true
 | [],k,j=>by simp [gJ]
 | b::bs,k,j=>by
  rw [gJ]
  have ih:=gg bs (k+1) j
  have key:(∃ i:Nat,j=((k+i:Nat):Int)∧(b::bs)[i]?=some true)↔(j=(k:Int)∧b=true)∨∃ i:Nat,j=((k+1+i:Nat):Int)∧bs[i]?=some true:=by
   constructor
   ·rintro ⟨i,h1,h2⟩
    cases i with
    | zero=>exact .inl ⟨by simpa using h1,by simpa using h2⟩
    | succ i=>exact .inr ⟨i,by nofun,by simpa using h2⟩
   ·rintro (⟨h1,h2⟩ | ⟨i,h1,h2⟩)
    ·exact ⟨0,by simpa using h1,by simpa using h2⟩
    ·exact ⟨i+1,by nofun,by simpa using h2⟩
  rw [key,← ih]
  cases b<;>simp
theorem Nv (bs:List Bool) (k:Nat) (j:Int) (h:j∈gJ k bs):(k:Int)≤j:=by
 obtain ⟨i,rfl,_⟩:=(gg bs k j).mp h
 nofun
theorem zN:∀ (bs:List Bool) (k:Nat),(gJ k bs).Pairwise (·<·)
 | [],k=>.nil
 | b::bs,k=>by
  rw [gJ]
  split
  ·refine adf.mpr ⟨λj hj=>?_,zN bs (k+1)⟩
   have:=Nv bs (k+1) j hj
   nofun
  ·exact zN bs (k+1)
theorem kN:∀ (bs:List Bool) (k:Nat),(gJ k bs).length≤bs.length
 | [],k=>YE _
 | b::bs,k=>by
  have:=kN bs (k+1)
  rw [gJ]
  split<;>simp<;>nofun
noncomputable def KI (kvs:List (Key×D)) (S:Int→Prop):Prop:=∃ ks:List Int,kvs.map (·.1)=ks.map Sum.inl∧ks.Nodup∧∀ j,j∈ks↔S j
theorem Ny {kvs:List (Key×D)} {S:Int→Prop} (h:KI kvs S) (j:Int) (v:D):KI (bF kvs (Sum.inl j) v) λx=>S x∨x=j:=by
 obtain ⟨ks,h1,h2,h3⟩:=h
 have hin:((Sum.inl j:Key)∈kvs.map (·.1))↔j∈ks:=by
  rw [h1,YX]
  exact ⟨λzz=>by obtain ⟨x,hx,e⟩:=zz;exact abG e▸hx,λhx=>⟨j,hx,rfl⟩⟩
 have ha:(kvs.any λkv=>decide (kv.1=Sum.inl j))=true↔j∈ks:=by
  rw [← hin,abA,YX]
  exact ⟨λzz=>by obtain ⟨x,hx,e⟩:=zz;exact ⟨x,hx,of_decide_eq_true e⟩,λ⟨x,hx,e⟩=>⟨x,hx,decide_eq_true e⟩⟩
 unfold bF
 by_cases hj:j∈ks
 ·rw [if_pos (ha.mpr hj)]
  refine ⟨ks,?_,h2,λx=>?_⟩
  ·rw [YW,← h1]
   refine Zt λkv _=>?_
   show (if kv.1=Sum.inl j then (kv.1,v) else kv).1=kv.1
   split<;>rfl
  ·rw [h3]
   exact ⟨.inl,λz=>z.elim id λe=>e▸(h3 j).mp hj⟩
 ·rw [if_neg λz=>hj (ha.mp z)]
  refine ⟨ks++[j],by rw [YS,YS,h1];rfl,?_,λx=>?_⟩
  ·rw [ZS]
   refine ⟨h2,by simp,λa hm b hb=>?_⟩
   rw [Y7.mp hb]
   rintro rfl
   exact hj hm
  ·rw [Zk,h3,Y7]
theorem rQ {S U W:Int→Prop} {kvs:List (Key×D)} (h:KI kvs S) (e:∀ x,S x↔U x):KI kvs U:=by
 obtain ⟨ks,h1,h2,h3⟩:=h
 exact ⟨ks,h1,h2,λj=>(h3 j).trans (e j)⟩
section
variable (A:DH) (bs:List Bool) (a0 a1:Option D)
theorem JD (kvs:List (Key×D)) (hk:kvs.length≤100000) (a4:Option D) (j:Nat) (b:Bool) (hb:bs[j]?=some b) :
  gU [a0,a1,some (.con (bs.map .bl)),some (.obj A.length),a4,some (.int (j:Int))] (A++[.dct kvs])=.nx [a0,a1,some (.con (bs.map .bl)),some (.obj A.length),a4,some (.int (j:Int))] (A++[.dct (if b then bF kvs (Sum.inl (j:Int)) (.bl true) else kvs)]):=by
 have e:bg (.con (bs.map D.bl)) (.int (j:Int)) (A++[.dct kvs])=.ok (.bl b) (A++[.dct kvs]):=by
  have h:(bs.map D.bl)[j]?=some (.bl b):=by rw [YK,hb];rfl
  simp only [bg,aD,dQ h]
 have z:kvs.length<Yx:=YG (by nofun) (lz (n:=100001) (by nofun))
 have e2:k6 (.bl true) (.obj A.length) (.int (j:Int)) (A++[.dct kvs])=.ok .dP (A++[.dct (bF kvs (Sum.inl (j:Int)) (.bl true))]):=by
  unfold k6 iK
  dsimp only
  rw [p8]
  dsimp only
  rw [if_pos z,vU]
 generalize hG:A++[.dct kvs]=G at e e2
 unfold gU
 have et:jY kR (ao bg (af 2) (af 5)) [a0,a1,some (.con (bs.map .bl)),some (.obj A.length),a4,some (.int (j:Int))] G=.ok b G:=by
  rw [p9,aX,MV,aj,ah,NZ,aj,e,aj];rfl
 rw [iA,et]
 cases b with
 | true=>
  show eY (eC (.bl true)) (af 3) (af 5) _ G=_
  rw [uL,cJ,aj,ah,NY,aj,ah,NZ,aj,e2,j5];rfl
 | false=>
  show Res.nx _ G=_
  rw [← hG];rfl
theorem AR (n:Nat) (hb:bs.length=n) (a4:Option D):∀ (js:List Int) (kvs:List (Key×D)) (S:Int→Prop) (a5:Option D),kvs.length+js.length≤100000→(∀ j∈js,∃ i:Nat,j=(i:Int)∧i<n)→KI kvs S→∃ (kvs':List (Key×D)) (b5:Option D),kvs'.length≤kvs.length+js.length∧KI kvs' (λx=>S x∨(x∈js∧∃ i:Nat,x=(i:Int)∧bs[i]?=some true)) ∧
  bI (gN 5) gU (js.map .int) [a0,a1,some (.con (bs.map .bl)),some (.obj A.length),a4,a5] (A++[.dct kvs])=.nx [a0,a1,some (.con (bs.map .bl)),some (.obj A.length),a4,b5] (A++[.dct kvs'])
 | [],kvs,S,a5,h,hj,hk=>⟨kvs,a5,by simp,rQ (W:=S) hk λx=>by simp,by rw [YY,cG]⟩
 | j::js,kvs,S,a5,h,hj,hk=>by
  rw [Yy] at h
  obtain ⟨i,rfl,hi⟩:=hj j (by simp)
  obtain ⟨b,hbi⟩:∃ b,bs[i]?=some b:=⟨bs[i]'(by nofun),YD (by nofun)⟩
  have et:=JD A bs a0 a1 kvs (by nofun) a4 i b hbi
  have hk1:KI (if b then bF kvs (Sum.inl (i:Int)) (.bl true) else kvs) λx=>S x∨(x=(i:Int)∧b=true):=by
   cases b with
   | true=>exact rQ (W:=S) (Ny hk (i:Int) (.bl true)) λx=>by simp
   | false=>exact rQ (W:=S) hk λx=>by simp
  have hl1:(if b then bF kvs (Sum.inl (i:Int)) (.bl true) else kvs).length≤kvs.length+1:=by
   split
   ·exact o8 _ _ _
   ·nofun
  generalize (if b then bF kvs (Sum.inl (i:Int)) (.bl true) else kvs)=k1 at et hk1 hl1
  obtain ⟨kvs',b5,e1,e2,e3⟩:=AR n hb a4 js k1 _ (some (.int (i:Int))) (by nofun) (λx hx=>hj x (by simp [hx])) hk1
  refine ⟨kvs',b5,by rw [Yy];nofun,rQ (W:=S) e2 λx=>?_,?_⟩
  ·constructor
   ·rintro ((h1 | ⟨rfl,rfl⟩) | ⟨h1,h2⟩)
    ·exact .inl h1
    ·exact .inr ⟨by simp,i,rfl,hbi⟩
    ·exact .inr ⟨by simp [h1],h2⟩
   ·rintro (h1 | ⟨h1,i',rfl,h2⟩)
    ·exact .inl (.inl h1)
    ·rcases Y6.mp h1 with h3 | h3
     ·have:i'=i:=by nofun
      subst this
      rw [hbi] at h2
      exact .inl (.inr ⟨rfl,Zd h2⟩)
     ·exact .inr ⟨h3,i',rfl,h2⟩
  ·rw [Yv,aO (τ1:=[a0,a1,some (.con (bs.map .bl)),some (.obj A.length),a4,some (.int (i:Int))]) rfl,et,cM,e3]
end
noncomputable def Sn (P:List (List Int)) (g:Nat) (bs:List Bool) (N:List Int) (x:Int):Prop:=∃ m p,(m:Nat)<P.length∧((m:Int)∈N∧P[m]?=some p)∧∃ (i:Nat) (q:List Int),x=(i:Int)∧P[i]?=some q∧bB g p q=true∧bs[i]?=some true
theorem yg (A:DH) (P:List (List Int)) (hP:P.length≤100) (g:Nat) (bs:List Bool) (hb:bs.length=P.length) (a0:Option D):∀ (N M:List Int) (kvs:List (Key×D)) (a4 a5:Option D),kvs.length+N.length*100≤100000→(∀ j∈N,∃ i:Nat,j=(i:Int)∧i<P.length)→KI kvs (Sn P g bs M)→∃ (kvs':List (Key×D)) (b4 b5:Option D),KI kvs' (Sn P g bs (M++N)) ∧
  bI (gN 4) gW (N.map .int) [a0,some (.con (P.map (rc P g))),some (.con (bs.map .bl)),some (.obj A.length),a4,a5] (A++[.dct kvs])=.nx [a0,some (.con (P.map (rc P g))),some (.con (bs.map .bl)),some (.obj A.length),b4,b5] (A++[.dct kvs'])
 | [],M,kvs,a4,a5,h,hj,hk=>⟨kvs,a4,a5,by rw [Y4];exact hk,by rw [YY,cG]⟩
 | j::N,M,kvs,a4,a5,h,hj,hk=>by
  rw [Yy] at h
  obtain ⟨m,rfl,hm⟩:=hj j (by simp)
  obtain ⟨p,hp⟩:∃ p,P[m]?=some p:=⟨P[m],YD hm⟩
  have hl:=kN (P.map (bB g p)) 0
  rw [YL] at hl
  obtain ⟨k1,c5,e1,e2,e3⟩:=AR A bs a0 (some (.con (P.map (rc P g)))) P.length hb (some (.int (m:Int))) (gJ 0 (P.map (bB g p))) kvs (Sn P g bs M) a5 (by nofun) (λx hx=>by
   obtain ⟨i,h1,h2⟩:=(gg _ _ _).mp hx
   refine ⟨i,by simpa using h1,?_⟩
   have:=(Yw.mp h2).1
   simpa using this) hk
  obtain ⟨k2,b4,b5,e4,e5⟩:=yg A P hP g bs hb a0 N (M++[(m:Int)]) k1 (some (.int (m:Int))) c5 (by nofun) (λx hx=>hj x (by simp [hx])) (rQ (W:=λ_=>True) e2 λx=>by
   constructor
   ·rintro (⟨m',p',h0,⟨h1,h2⟩,h3⟩ | ⟨h1,i,rfl,h2⟩)
    ·exact ⟨m',p',h0,⟨by simp [h1],h2⟩,h3⟩
    ·obtain ⟨i',h3,h4⟩:=(gg _ _ _).mp h1
     have:i=i':=by nofun
     subst this
     rw [YK] at h4
     cases hq:P[i]? with
     | none=>rw [hq] at h4;cases h4
     | some q=>
      rw [hq] at h4
      exact ⟨m,p,hm,⟨by simp,hp⟩,i,q,rfl,hq,Zd h4,h2⟩
   ·rintro ⟨m',p',h0,⟨h1,h2⟩,i,q,rfl,h3,h4,h5⟩
    rcases Zk.mp h1 with h6 | h6
    ·exact .inl ⟨m',p',h0,⟨h6,h2⟩,i,q,rfl,h3,h4,h5⟩
    ·have:m'=m:=by simp at h6;nofun
     subst this
     rw [hp] at h2;cases h2
     refine .inr ⟨(gg _ _ _).mpr ⟨i,by simp,?_⟩,i,rfl,h5⟩
     rw [YK,h3]
     exact congrArg some h4)
  refine ⟨k2,b4,b5,by rw [ZD] at e4;exact e4,?_⟩
  have ex:ao bg (af 1) (af 4) [a0,some (.con (P.map (rc P g))),some (.con (bs.map .bl)),some (.obj A.length),some (.int (m:Int)),a5] (A++[.dct kvs])=.ok (.con ((gJ 0 (P.map (bB g p))).map .int)) (A++[.dct kvs]):=by
   have h:(P.map (rc P g))[m]?=some (rc P g p):=by rw [YK,hp];rfl
   have e:bg (.con (P.map (rc P g))) (.int (m:Int)) (A++[.dct kvs])=.ok (rc P g p) (A++[.dct kvs]):=by simp only [bg,aD,dQ h]
   rw [aX,IV,aj,ah,IW,aj,e];rfl
  have eL:gW [a0,some (.con (P.map (rc P g))),some (.con (bs.map .bl)),some (.obj A.length),some (.int (m:Int)),a5] (A++[.dct kvs])=.nx [a0,some (.con (P.map (rc P g))),some (.con (bs.map .bl)),some (.obj A.length),some (.int (m:Int)),c5] (A++[.dct k1]):=by
   unfold gW
   rw [j6,ex,iY]
   exact e3
  rw [Yv,aO (τ1:=[a0,some (.con (P.map (rc P g))),some (.con (bs.map .bl)),some (.obj A.length),some (.int (m:Int)),a5]) rfl,eL,cM,e5]
noncomputable def f9 (L:List (Bool×List Int)) (g:Nat) (q:List Int):Bool:=L.any λx=>x.1&&bB g x.2 q
noncomputable def rR (P:List (List Int)) (g:Nat) (fl bs:List Bool):List Bool:=aaA and (P.map (f9 (fl.zip P) g)) bs
theorem mO (P:List (List Int)) (g:Nat) (fl bs:List Bool) (hb:bs.length=P.length):(rR P g fl bs).length=P.length:=by rw [rR,List.length_zipWith,YL,hb,adA]
theorem AS (P:List (List Int)) (g:Nat) (fl:List Bool) (hf:fl.length=P.length) (q:List Int):f9 (fl.zip P) g q=true↔∃ (m:Nat) (p:List Int),fl[m]?=some true∧P[m]?=some p∧bB g p q=true:=by
 unfold f9
 rw [abA]
 constructor
 ·rintro ⟨⟨b,p⟩,h1,h2⟩
  obtain ⟨m,hm⟩:=aaP.mp h1
  rw [ZW] at hm
  have h3:b=true∧bB g p q=true:=by simpa using h2
  obtain ⟨rfl,h4⟩:=h3
  exact ⟨m,p,hm.1,hm.2,h4⟩
 ·rintro ⟨m,p,h1,h2,h3⟩
  refine ⟨(true,p),aaP.mpr ⟨m,?_⟩,by simpa using h3⟩
  rw [ZW];exact ⟨h1,h2⟩
theorem AU:∀ ks:List Int,mD (ks.map Sum.inl)=some ks
 | []=>rfl
 | k::ks=>by rw [Yv,mD,AU ks];rfl
theorem zO (P:List (List Int)) (hP:P.length≤60) (g:Nat) (fl bs:List Bool) (hf:fl.length=P.length) (hb:bs.length=P.length) (G:DH) :
  kL [.con ((gJ 0 fl).map .int),.con (P.map (rc P g)),.con (bs.map .bl)] G=.ok (.con ((gJ 0 (rR P g fl bs)).map .int)) G:=by
 have hfl:=kN fl 0
 obtain ⟨kvs,b4,b5,⟨ks,k1,k2,k3⟩,e⟩:=yg G P (by nofun) g bs hb (some (.con ((gJ 0 fl).map .int))) (gJ 0 fl) [] [] none none (by simp;nofun) (λj hj=>by
  obtain ⟨i,h1,h2⟩:=(gg _ _ _).mp hj
  refine ⟨i,by simpa using h1,?_⟩
  have:=(Yw.mp h2).1
  nofun) ⟨[],rfl,.nil,λj=>⟨λh=>by simp at h,λ⟨_,_,_,⟨h,_⟩,_⟩=>by simp at h⟩⟩
 rw [YT] at k3
 have hmem:∀ j,j∈gJ 0 (rR P g fl bs)↔j∈ks:=λj=>by
  rw [k3,gg]
  constructor
  ·rintro ⟨i,rfl,h⟩
   rw [rR,abv] at h
   cases h1:(P.map (f9 (fl.zip P) g))[i]? with
   | none=>rw [h1] at h;cases h
   | some b1=>
    cases h2:bs[i]? with
    | none=>rw [h1,h2] at h;cases h
    | some b2=>
     rw [h1,h2] at h
     have h3:b1=true∧b2=true:=by simpa using h
     obtain ⟨rfl,rfl⟩:=h3
     rw [YK] at h1
     cases hq:P[i]? with
     | none=>rw [hq] at h1;cases h1
     | some q=>
      rw [hq] at h1
      obtain ⟨m,p,q1,q2,q3⟩:=(AS P g fl hf q).mp (Zd h1)
      exact ⟨m,p,(Yw.mp q2).1,⟨(gg _ _ _).mpr ⟨m,by simp,q1⟩,q2⟩,i,q,by simp,hq,q3,h2⟩
  ·rintro ⟨m,p,h0,⟨h1,h2⟩,i,q,rfl,h3,h4,h5⟩
   obtain ⟨m',h6,h7⟩:=(gg _ _ _).mp h1
   have:m=m':=by nofun
   subst this
   refine ⟨i,by simp,?_⟩
   rw [rR,abv,YK,h3,h5]
   have:=(AS P g fl hf q).mpr ⟨m,p,h7,h2,h4⟩
   simp [this]
 have Ks:=zN (rR P g fl bs) 0
 have Ky:(gJ 0 (rR P g fl bs)).Perm ks:=(List.perm_ext_iff_of_nodup (Ks.imp λh e=>by nofun) k2).mpr hmem
 have Qt:=adK Ky (Ks.imp λh=>by nofun)
 have hlen:kvs.length≤P.length:=by
  have h1:=congrArg aag k1
  rw [YL,YL] at h1
  have h2:=Ky.length_eq
  have h3:=kN (rR P g fl bs) 0
  have h4:=mO P g fl bs hb
  nofun
 have hc:aH ((gJ 0 (rR P g fl bs)).map D.int)=true:=ay λ_=>aV
 have Xd:((gJ 0 (rR P g fl bs)).map D.int).length≤Yx:=lz (by
  have h3:=kN (rR P g fl bs) 0
  have h4:=mO P g fl bs hb
  rw [YL];nofun)
 refine fB (R:=[.dct kvs]) ?_ (by rw [aL];exact hc)
 have es:eFn (ak nj (aa (af 3) (ai))) [some (.con ((gJ 0 fl).map .int)),some (.con (P.map (rc P g))),some (.con (bs.map .bl)),some (.obj G.length),b4,b5] (G++[.dct kvs])=.ok (.con ((gJ 0 (rR P g fl bs)).map .int)) (G++[.dct kvs]):=by
  rw [bP,aY,aA,NY,aj,ah,aI,aj,aN,aj]
  unfold nj
  dsimp only
  have hd:i8 (G++[.dct kvs]) (.obj G.length)=some kvs:=by
   unfold i8
   dsimp only
   rw [p8]
  rw [hd]
  dsimp only
  rw [k1,AU]
  dsimp only
  rw [if_pos (by nofun),← Qt,cT Xd hc]
 unfold nu
 have e0:([D.con ((gJ 0 fl).map .int),.con (P.map (rc P g)),.con (bs.map .bl)].map some++YV (6 - [D.con ((gJ 0 fl).map .int),.con (P.map (rc P g)),.con (bs.map .bl)].length) none)=[some (.con ((gJ 0 fl).map .int)),some (.con (P.map (rc P g))),some (.con (bs.map .bl)),none,none,none]:=rfl
 rw [f6,e0,aT,bG,Ak,cS,UJ,bJ,aT,j6,Gf,iY]
 dsimp only
 rw [e,bJ,eU,es,gx,gz]
theorem UW {a b:D}:kB [a,b] 0=some a:=rfl
theorem Xe {a b:D}:kB [a,b] 1=some b:=rfl
theorem TH {a:D}:kB [a] 0=some a:=rfl
inductive Lk where
 | any
 | kind (s:Str)
noncomputable def Lk.D:Lk→L3.D
 | .any=>.tup [.str "any"]
 | .kind s=>.tup [.str "kind",.str s]
noncomputable def Lk.Ok:Lk→Prop
 | .any=>True
 | .kind s=>YC s=true
theorem lM:YC ("any":Str)=true:=by symm
theorem mP:YC ("kind":Str)=true:=by symm
theorem Nz:YC ("not":Str)=true:=by symm
theorem zP:YC ("way":Str)=true:=by symm
theorem JE:YC ("both":Str)=true:=by symm
theorem Cq:YC ("either":Str)=true:=by symm
theorem Qu:∀ (l:Lk),l.D.closed=true
 | .any=>by simp [Lk.D,D.closed,aR,dw,bY]
 | .kind nm=>by simp [Lk.D,D.closed,aR,dw,bY]
theorem eqs (s t:Str) (G:DH) (hs:YC s=true) (ht:YC t=true) {b:Bool} (h:(s==t)=b):fT false (.str s) (.str t) G=.ok (.bl b) G:=by
 rw [uD _ _ _ _ hs ht,h];simp
theorem ins (s:Str) (ws:List Str) (G:DH) (hs:YC s=true) (hw:ZT (ws.map aby)=true) {b:Bool} (h:ws.any (·==s)=b):G6 false (.str s) (.tup (ws.map .str)) G=.ok (.bl b) G:=by
 have hk:=wN s ws G hs hw
 rw [h] at hk
 simp [G6,aD,hk]
theorem UX (s:Str) (G:DH) (hs:YC s=true) {b:Bool} (h:(["not","both","either"]:List Str).any (·==s)=b):G6 false (.str s) (.tup [.str "not",.str "both",.str "either"]) G=.ok (.bl b) G:=ins s ["not","both","either"] G hs (by symm) h
theorem yh (l:Lk) (G:DH):bE [l.D] G=.ok (.con []) G:=by
 have z3:(3:Nat)≤Yx:=lz (by nofun)
 have n0:(aS [] G).fw G=.ok (.con []) G:=cT (Zq _) rfl
 unfold bE
 refine bz ?_ (by rw [aL];rfl)
 cases l with
 | any=>
  have e1:=eqs "any" "way" G lM zP (b:=false) (by symm)
  have e2:=UX "any" G lM (b:=false) (by symm)
  simp! [gE,Lk.D,TH,e1,e2,z3,bP,n0]
 | kind nm=>
  have e1:=eqs "kind" "way" G mP zP (b:=false) (by symm)
  have e2:=UX "kind" G mP (b:=false) (by symm)
  simp! [gE,Lk.D,UW,e1,e2,z3,bP,n0]
theorem Kz:Zy ("look_parts":Str) [("placed_parts",bq),("look_parts",bE)]=some bE:=by
 simp [Zy,show (("look_parts":Str)=="placed_parts")=false by symm]
theorem Cr (t:Lk) (G:DH):eB [t.D,.fn "look_parts"] G=.ok (.con [t.D]) G:=by
 have z1:(1:Nat)≤Yx:=lz (by nofun)
 have hcl:aH [t.D]=true:=by rw [aR,Qu];rfl
 have g1:∀ x y:DO,(G++[x,y])[G.length+1]?=some y:=λx y=>J5 G x y []
 have et:=n8 Kz G (some t.D) none [] [] [] t.D (yh t) rfl (by simp) (by simp)
 have e:fF (g8 (ao Bg (ak cC (aa (af 3) (ai))) (eC (.int 0)))) dJ fuel [some t.D,some (.fn "look_parts"),some (.obj G.length),some (.obj (G.length+1)),none] (G++[.lst [],.lst [t.D]])=.nx [some t.D,some (.fn "look_parts"),some (.obj G.length),some (.obj (G.length+1)),some t.D] (G++[.lst [t.D],.lst []]):=by
  simp only [YT,acp] at et
  generalize t.D=td at et
  obtain ⟨fl,hfl⟩:∃ fl,fuel=fl+2:=⟨fuel - 2,by unfold fuel;nofun⟩
  rw [hfl]
  have ec:g8 (ao Bg (ak cC (aa (af 3) (ai))) (eC (.int 0))) [some td,some (.fn "look_parts"),some (.obj G.length),some (.obj (G.length+1)),none] (G++[.lst [],.lst [td]])=.ok true (G++[.lst [],.lst [td]]):=by
   simp! [g1,Bg,z1]
  rw [l6,ec,uF,J7,et,cM,l6]
  simp! [g1,Bg]
 unfold eB
 refine fB (R:=[.dead,.lst []]) ?_ (by rw [aL];exact hcl)
 have UY:(Out.ok (D.obj G.length) (G++[.lst [t.D],.lst []])).fz=.ok (.con [t.D]) (G++[.dead,.lst []]):=J9
 unfold gG
 generalize fuel=fl at e ⊢
 generalize t.D=td at e UY
 simp! [aS,z1,e,UY]
noncomputable def Lk.tr (ks:List Str):Lk→List Bool
 | .any=>ks.map λ_=>true
 | .kind s=>ks.map (·==s)
noncomputable def bD (bs:List Bool):D:=.con (bs.map .bl)
theorem Ct {b:Bool}:(D.bl b).closed=true:=rfl
theorem nO (bs:List Bool):aH (bs.map D.bl)=true:=ay λ_=>Ct
theorem t8 (bs:List Bool):(bD bs).closed=true:=by rw [bD,aL];exact nO bs
theorem vN (ks:List Str):∀ l:Lk,(l.tr ks).length=ks.length
 | .any=>by simp [Lk.tr]
 | .kind s=>by simp [Lk.tr]
theorem FU (ks:List Str) (hk:ks.length≤1000) (hok:∀ s∈ks,YC s=true) (r:D) (l:Lk) (ho:l.Ok) (G:DH) :
  dU [.con (ks.map .str),r,l.D,.con []] G=.ok (bD (l.tr ks)) G:=by
 unfold dU
 refine bz ?_ (t8 _)
 cases l with
 | any=>
  have e1:=eqs "any" "kind" G lM mP (b:=false) (by symm)
  have e2:=eqs "any" "not" G lM Nz (b:=false) (by symm)
  have e3:=eqs "any" "both" G lM JE (b:=false) (by symm)
  have e4:=eqs "any" "either" G lM Cq (b:=false) (by symm)
  have e5:=eqs "any" "way" G lM zP (b:=false) (by symm)
  have hc:=nO (ks.map λ_=>true)
  have c1:=bH (τ:=[some (.con (ks.map .str)),some r,some (Lk.any).D,some (.con [])]) (G:=G) (gO:=oN) (ks:=[]) (te:=eC (.bl true)) (own:=λd=>[d]) (f:=λ_=>.bl true) (ks.map D.str) [] (by simp;nofun) (λx _=>rfl) (λx hx acc=>rfl)
  rw [YT,YW] at c1
  have ef:eFn (cj oN [] (af 0) (bV) (eC (.bl true))) [some (.con (ks.map .str)),some r,some (Lk.any).D,some (.con [])] G=.ok (bD (ks.map λ_=>true)) G:=by
   have em:ks.map ((λ_=>D.bl true)∘D.str)=(ks.map λ_=>true).map .bl:=by rw [YW];rfl
   rw [em] at c1
   rw [bP]
   show _=Out.ok (D.con ((ks.map λ_=>true).map .bl)) G
   rw [← dZ hc,← c1,gD,Gf,aj]
  rw [Lk.tr]
  generalize hE:eFn (cj oN [] (af 0) (bV) (eC (.bl true)))=E at ef
  unfold dS
  rw [hE]
  generalize bD (ks.map λ_=>true)=res at ef
  rw [Lk.D] at ef ⊢
  simp! [TH,e1,e2,e3,e4,e5,ef]
 | kind s=>
  have hs:YC s=true:=ho
  have e1:=eqs "kind" "kind" G mP mP (b:=true) (by symm)
  have hc:=nO (ks.map (·==s))
  have c1:=bH (τ:=[some (.con (ks.map .str)),some r,some (Lk.kind s).D,some (.con [])]) (G:=G) (gO:=oN) (ks:=[false,false,true]) (te:=ao (fT false) (af 0) (ao bg (af 3) (eC (.int 1)))) (own:=λd=>[d]) (f:=λd=>match d with | .str x=>.bl (x==s) | _=>.dP) (ks.map D.str) [] (by simp;nofun) (λx _=>rfl) (λx hx acc=>by
    obtain ⟨y,hy,rfl⟩:=YX.mp hx
    have e2:=eqs y s (G++[.lst acc]) (hok y hy) hs rfl
    show ao (fT false) (af 0) (ao bg (af 3) (eC (.int 1))) [some (.str y),none,none,some (Lk.kind s).D,none] _=_
    rw [Lk.D,Wu,S9]
    simp only [bg,aD,Xe,aj]
    exact e2)
  rw [YT,YW] at c1
  have ef:eFn (cj oN [false,false,true] (af 0) (bV) (ao (fT false) (af 0) (ao bg (af 3) (eC (.int 1))))) [some (.con (ks.map .str)),some r,some (Lk.kind s).D,some (.con [])] G=.ok (bD (ks.map (·==s))) G:=by
   have em:ks.map ((λd=>match d with | .str x=>D.bl (x==s) | _=>.dP)∘D.str)=(ks.map (·==s)).map .bl:=by rw [YW];rfl
   rw [em] at c1
   rw [bP]
   show _=Out.ok (D.con ((ks.map (·==s)).map .bl)) G
   rw [← dZ hc,← c1,gD,Gf,aj]
  rw [Lk.tr]
  generalize hE:eFn (cj oN [false,false,true] (af 0) (bV) (ao (fT false) (af 0) (ao bg (af 3) (eC (.int 1)))))=E at ef
  unfold dS
  rw [hE]
  generalize bD (ks.map (·==s))=res at ef
  rw [Lk.D] at ef ⊢
  simp! [UW,e1,ef]
theorem NB:Zy ("truths_of":Str) [("truths_of",((2:Nat),bZ))]=some (2,bZ):=by
 simp only [Zy,beq_self_eq_true]
theorem Qv (G Z:DH) (x y:DO):(G++x::(Z++[y]))[G.length+(Z.length+1)]?=some y:=by
 have e:G++x::(Z++[y])=(G++x::Z)++y::[]:=by simp
 have l:G.length+(Z.length+1)=(G++x::Z).length:=by simp
 rw [e,l]
 exact p8 _ _ _
theorem Qw (G Z:DH) (x y z:DO):(G++x::(Z++[y])).set (G.length+(Z.length+1)) z=G++x::(Z++[z]):=by
 have e:G++x::(Z++[y])=(G++x::Z)++y::[]:=by simp
 have l:G.length+(Z.length+1)=(G++x::Z).length:=by simp
 rw [e,l,vU]
 simp
theorem NC (ks:List Str) (hk:ks.length≤1000) (hok:∀ s∈ks,YC s=true) (r:D) (l:Lk) (ho:l.Ok) (G:DH) :
  bZ ([l.D,.con []]++[r,.con (ks.map .str)]) G=.ok (bD (l.tr ks)) G:=by
 have e:=FU ks hk hok r l ho G
 show i7 (BI 4 cP [l.D,.con [],r,.con (ks.map .str)] G)=_
 generalize bD (l.tr ks)=res at e
 generalize l.D=ld at e
 generalize ks.map D.str=kk at e
 have e2:BI 4 cP [ld,.con [],r,.con kk] G=.ok res G:=by
  show cP [some ld,some (.con []),some r,some (.con kk)] G=_
  unfold cP
  simp only [bO,WA,Wz,Wv,Wx,aI,aj,aN,Yy,YR,if_true,e]
 rw [e2];rfl
theorem FW (A:DH) (a0 a5 a6:Option D) (caps:List D) (t:Lk) (rd:D) (hc2:caps.length=2) (em:∀ G,bZ ([t.D,.con []]++caps) G=.ok rd G) :
  ∃ (b5 b6:Option D),gK [a0,some (.fn "look_parts"),some (.jU "truths_of" caps),some (.obj A.length),some t.D,a5,a6] (A++.lst []::[]) =
   .nx [a0,some (.fn "look_parts"),some (.jU "truths_of" caps),some (.obj A.length),some t.D,b5,b6] (A++.lst ([]++[rd])::([]++[.dead])):=by
 have ep:=λG=>yh t G
 have hr:eT [.int 0]=some []:=rfl
 generalize t.D=td at ep em
 have Xf:([]:List D).length<Yx:=YG (by simp) (lz (n:=1) (by nofun))
 refine ⟨some (.obj (A.length+(([]:DH).length+1))),a6,?_⟩
 have n0:∀ M:DO,aS [] (A++M::[])=.ok (.obj (A.length+(([]:DH).length+1))) (A++M::([]++[.lst []])):=λM=>by simp [aS]
 have g1:=λx y=>Qv A [] x y
 have s1:=λx y z=>Qw A [] x y z
 have g0:∀ x Y,(A++x::Y)[A.length]?=some x:=λx Y=>p8 A x Y
 have s0:∀ x z Y,(A++x::Y).set A.length z=A++z::Y:=λx z Y=>vU A x z Y
 have S1:(aJ 5 (ak aS (ai))) [a0,some (.fn "look_parts"),some (.jU "truths_of" caps),some (.obj A.length),some td,a5,a6] (A++.lst []::[])=.nx [a0,some (.fn "look_parts"),some (.jU "truths_of" caps),some (.obj A.length),some td,some (.obj (A.length+(([]:DH).length+1))),a6] (A++.lst []::([]++[.lst []])):=by
  rw [bG,aY,aI,aj,n0,cS,Te]
 have S2:(dR eT (gN 6) (aa (ak cC (aa (ju 1 1 (λy=>Zy y [("placed_parts",bq),("look_parts",bE)]) (aa (af 4) (ai))) (ai))) (ai)) nA) [a0,some (.fn "look_parts"),some (.jU "truths_of" caps),some (.obj A.length),some td,some (.obj (A.length+(([]:DH).length+1))),a6] (A++.lst []::([]++[.lst []]))=.nx [a0,some (.fn "look_parts"),some (.jU "truths_of" caps),some (.obj A.length),some td,some (.obj (A.length+(([]:DH).length+1))),a6] (A++.lst []::([]++[.lst []])):=by
  generalize A++.lst []::([]++[.lst []])=G
  generalize (A.length+(([]:DH).length+1))=n
  simp! [Kz,ep,hr,cG]
 have eA:(aa (af 4) (aa (yp (af 5)) (ai))) [a0,some (.fn "look_parts"),some (.jU "truths_of" caps),some (.obj A.length),some td,some (.obj (A.length+(([]:DH).length+1))),a6] (A++.lst []::([]++[.lst []]))=.ok [td,.con []] (A++.lst []::([]++[.dead])):=by
  have ef:yp (af 5) [a0,some (.fn "look_parts"),some (.jU "truths_of" caps),some (.obj A.length),some td,some (.obj (A.length+(([]:DH).length+1))),a6] (A++.lst []::([]++[.lst []]))=.ok (.con []) (A++.lst []::([]++[.dead])):=by
   unfold yp
   rw [NZ]
   simp only [g1,s1]
  rw [aA,IW,aj,ah,aA,ef,aj,ah,aI,aj,aN,aj,aN]
 have eC:lD 2 2 (λy=>Zy y [("truths_of",(2,bZ))]) (aa (af 4) (aa (yp (af 5)) (ai))) [a0,some (.fn "look_parts"),some (.jU "truths_of" caps),some (.obj A.length),some td,some (.obj (A.length+(([]:DH).length+1))),a6] (A++.lst []::([]++[.lst []]))=.ok rd (A++.lst []::([]++[.dead])):=by
  unfold lD
  rw [UI]
  dsimp only
  rw [ah,eA,aj]
  unfold uQ
  rw [UI]
  dsimp only
  rw [NB]
  simp only [hc2]
  exact em _
 rw [gK,aT,S1,bJ,aT,S2,bJ,iB,gj (g:=aU),NY]
 simp only [aj,dB,g0,aA,eC,ah,aI,aN,aU,beq_self_eq_true,if_true,Xf,s0,j5]
theorem Cu (ks:List Str) (hk:ks.length≤1000) (hok:∀ s∈ks,YC s=true) (r:D) (l:Lk) (ho:l.Ok) (G:DH) (hG:G.any (jO "truths_of")=true):gp [.con (ks.map .str),r,l.D] G=.ok (bD (l.tr ks)) G:=by
 obtain ⟨b5,b6,e1⟩:=FW G (some l.D) none none [r,.con (ks.map .str)] l (bD (l.tr ks)) rfl (NC ks hk hok r l ho)
 have ew:=Cr l (G++[.lst []])
 have hfr:=λτ G=>Al (g:=gN 4) (body:=gK) (xs:=[l.D]) (τ:=τ) (G:=G)
 have e2:bI (gN 4) gK [l.D].reverse [some l.D,some (.fn "look_parts"),some (.jU "truths_of" [r,.con (ks.map .str)]),some (.obj G.length),none,none,none] (G++.lst []::[])=.nx [some l.D,some (.fn "look_parts"),some (.jU "truths_of" [r,.con (ks.map .str)]),some (.obj G.length),some l.D,b5,b6] (G++.lst [bD (l.tr ks)]::([]++[.dead])):=by
  rw [List.reverse_singleton,aO (τ1:=[some l.D,some (.fn "look_parts"),some (.jU "truths_of" [r,.con (ks.map .str)]),some (.obj G.length),some l.D,none,none]) rfl,e1,cM,cG]
  rfl
 have n0:aS [] G=.ok (.obj G.length) (G++[.lst []]):=by simp [aS]
 have g0:∀ x Y,(G++x::Y)[G.length]?=some x:=λx Y=>p8 G x Y
 have ef:mH [l.D,.fn "look_parts",.jU "truths_of" [r,.con (ks.map .str)]] G=.ok (bD (l.tr ks)) (G++.lst [bD (l.tr ks)]::([]++[.dead])):=by
  unfold mH
  generalize bD (l.tr ks)=tD at e2
  generalize ks.map D.str=kk at e2
  generalize ([]++[DO.dead]:DH)=Z' at e2
  generalize l.D=ld at e2 ew hfr
  generalize [ld]=pD at e2 ew hfr
  simp! [qR,n0,ew,hfr,e2,g0,TH]
 unfold gp
 refine fB (R:=.lst [bD (l.tr ks)]::([]++[.dead])) ?_ (t8 _)
 generalize bD (l.tr ks)=tD at ef
 generalize l.D=ld at ef
 generalize ks.map D.str=kk at ef
 have eL:BN "truths_of" [1,0] [some (.con kk),some r,some ld] G=.ok (.jU "truths_of" [r,.con kk]) G:=by
  unfold BN
  rw [if_pos hG]
  rfl
 have e5:cI 3 gn [.con kk,r,ld] G=.ok tD (G++.lst [tD]::([]++[.dead])):=by
  simp! [gn,eL,ef]
 show i7 (cI 3 gn [.con kk,r,ld] G)=_
 rw [e5];rfl
noncomputable def kn:T→Str
 | .nd k _=>k
theorem Qx (t:T):t.subs.map kd=(t.subs.map kn).map .str:=by
 rw [YW]
 refine Zt λx _=>?_
 cases x;rfl
noncomputable def due (ps:List (List Int)) (bs:List Bool):List D:=((ps.zip bs).filter (·.2)).map λq=>pl q.1
theorem rS (ps:List (List Int)) (bs:List Bool):aH (due ps bs)=true:=ay λ_=>gZ _
structure Sp where
 g:Nat
 go:Str
 l:Lk
noncomputable def Sp.D (s:Sp):L3.D:=.tup [.str s.go,s.l.D]
noncomputable def Sp.Ok (s:Sp):Prop:=CH[s.g]?=some s.go∧s.l.Ok
noncomputable def ie (P:List (List Int)) (ks:List Str):List Sp→List Bool→List Bool
 | [],fl=>fl
 | s::r,fl=>ie P ks r (rR P s.g fl (s.l.tr ks))
theorem vO (P:List (List Int)) (ks:List Str) (hk:ks.length=P.length):∀ (ss:List Sp) (fl:List Bool),fl.length=P.length→(ie P ks ss fl).length=P.length
 | [],fl,h=>h
 | s::r,fl,h=>by rw [ie];exact vO P ks hk r _ (mO P s.g fl _ (by rw [vN,hk]))
theorem Qy (P:List (List Int)) (g:Nat) (go:Str) (h:CH[g]?=some go):cX (RR P) (Sum.inr go)=some (.con (P.map (rc P g))):=by
 match g,h with
 | 0,h=>cases h;exact kq _ _ _
 | 1,h=>cases h;exact kr _ _ _
 | 2,h=>cases h;exact jh _ _ _
 | n+3,h=>simp [CH] at h
theorem t9 (P:List (List Int)) (hP:P.length≤60) (ks:List Str) (hk:ks.length=P.length) (hok:∀ s∈ks,YC s=true) (G:DH) (x:DO) (R:DH) (hG:(G++x::.dct (RR P)::R).any (jO "truths_of")=true) (a0 a1 a7:Option D):∀ (ss:List Sp) (fl:List Bool) (a5 a6:Option D),(∀ s∈ss,s.Ok)→fl.length=P.length→∃ b5 b6,
  bI (gP 5 6) jd (ss.map Sp.D) [a0,a1,some (.con (ks.map .str)),some (.obj (G.length+1)),some (.con ((gJ 0 fl).map .int)),a5,a6,a7] (G++x::.dct (RR P)::R)=.nx [a0,a1,some (.con (ks.map .str)),some (.obj (G.length+1)),some (.con ((gJ 0 (ie P ks ss fl)).map .int)),b5,b6,a7] (G++x::.dct (RR P)::R)
 | [],fl,a5,a6,_,_=>⟨a5,a6,by rw [YY,cG,ie]⟩
 | s::ss,fl,a5,a6,hs,hf=>by
  obtain ⟨h1,h2⟩:=hs s (by simp)
  have Ra:(s.l.tr ks).length=P.length:=by rw [vN,hk]
  obtain ⟨b5,b6,e⟩:=t9 P hP ks hk hok G x R hG a0 a1 a7 ss (rR P s.g fl (s.l.tr ks)) (some (.str s.go)) (some s.l.D) (λy hy=>hs y (by simp [hy])) (mO P s.g fl _ Ra)
  refine ⟨b5,b6,?_⟩
  have e1:uT (.obj (G.length+1)) (.str s.go) (G++x::.dct (RR P)::R)=.ok (.con (P.map (rc P s.g))) (G++x::.dct (RR P)::R):=by
   unfold uT i8 iK
   dsimp only
   rw [J5]
   dsimp only
   rw [Qy P s.g s.go h1]
  have e2:=Cu ks (by nofun) hok (.obj (G.length+1)) s.l h2 (G++x::.dct (RR P)::R) hG
  have e3:=zO P hP s.g fl (s.l.tr ks) hf Ra (G++x::.dct (RR P)::R)
  rw [bD] at e2
  have eL:jd [a0,a1,some (.con (ks.map .str)),some (.obj (G.length+1)),some (.con ((gJ 0 fl).map .int)),some (.str s.go),some s.l.D,a7] (G++x::.dct (RR P)::R)=.nx [a0,a1,some (.con (ks.map .str)),some (.obj (G.length+1)),some (.con ((gJ 0 (rR P s.g fl (s.l.tr ks))).map .int)),some (.str s.go),some s.l.D,a7] (G++x::.dct (RR P)::R):=by
   generalize (gJ 0 (rR P s.g fl (s.l.tr ks))).map D.int=u at e3
   generalize (s.l.tr ks).map D.bl=w at e2 e3
   generalize (gJ 0 fl).map D.int=v at e3
   generalize P.map (rc P s.g)=z at e1 e3
   generalize ks.map D.str=kk at e2
   generalize s.l.D=ld at e2
   generalize (G++x::.dct (RR P)::R)=H at e1 e2 e3
   unfold jd
   simp [bG,bO,aA,aI,aj,ah,aN,e1,e2,e3]
  rw [Yv,aO (g:=gP 5 6) (τ1:=[a0,a1,some (.con (ks.map .str)),some (.obj (G.length+1)),some (.con ((gJ 0 fl).map .int)),some (.str s.go),some s.l.D,a7]) rfl,eL,cM,e,ie]
noncomputable def TJ (P:List (List Int)):D→D
 | .int i=>pl (P.getD i.toNat [])
 | _=>.dP
theorem FY (P:List (List Int)):∀ (r C:List (List Int)) (bs:List Bool),P=C++r→bs.length=r.length→((gJ C.length bs).map D.int).map (TJ P)=due r bs
 | [],C,bs,h,hl=>by
  rw [ZP.mp hl];rfl
 | p::r,C,[],h,hl=>by simp at hl
 | p::r,C,b::bs,h,hl=>by
  have ih:=FY P r (C++[p]) bs (by rw [h];simp) (by simpa using hl)
  rw [YO,ZI] at ih
  have hn:TJ P (.int (C.length:Int))=pl p:=by
   show pl (P.getD C.length [])=pl p
   rw [h];simp
  unfold due at ih ⊢
  rw [gJ,Z0]
  cases b with
  | true=>rw [if_pos rfl,Yv,Yv,hn,ih];rfl
  | false=>rw [if_neg (by decide),ih];rfl
noncomputable def AV:DS→M D:=cj oN [false,false,false,false,false,false,false,true] (af 4) (bV) (ao bg (af 8) (af 0))
theorem Cv (P:List (List Int)) (fl:List Bool) (hP:P.length≤100) (hf:fl.length=P.length) (a0 a1 a2 a3 a5 a6:Option D) (G:DH):AV [a0,a1,a2,a3,some (.con ((gJ 0 fl).map .int)),a5,a6,some (.con (P.map pl))] G=.ok (.obj G.length) (G++[.lst (due P fl)]):=by
 have hl:=kN fl 0
 have c1:=bH (τ:=[a0,a1,a2,a3,some (.con ((gJ 0 fl).map .int)),a5,a6,some (.con (P.map pl))]) (G:=G) (gO:=oN) (ks:=[false,false,false,false,false,false,false,true]) (te:=ao bg (af 8) (af 0)) (own:=λd=>[d]) (f:=TJ P) ((gJ 0 fl).map .int) [] (by simp;nofun) (λx _=>rfl) (λx hx acc=>by
  obtain ⟨j,hj,rfl⟩:=YX.mp hx
  obtain ⟨i,h1,h2⟩:=(gg _ _ _).mp hj
  have hi:i<P.length:=by have:=(Yw.mp h2).1;nofun
  have hij:j=(i:Int):=by simpa using h1
  subst hij
  have hg:(P.map pl)[i]?=some (pl (P.getD i [])):=by rw [YK,YD hi];simp [hi]
  have e:bg (.con (P.map pl)) (.int (i:Int)) (G++[.lst acc])=.ok (pl (P.getD i [])) (G++[.lst acc]):=by simp only [bg,aD,dQ hg]
  show ao bg (af 8) (af 0) [some (.int (i:Int)),none,none,none,none,none,none,none,some (.con (P.map pl))] (G++[.lst acc])=_
  rw [aX,show ∀ (H:DH),af 8 [some (.int (i:Int)),none,none,none,none,none,none,none,some (.con (P.map pl))] H=.ok (.con (P.map pl)) H from λ_=>rfl,aj,ah,Gf,aj,e]
  rfl)
 have es:=FY P P [] fl rfl hf
 rw [YR] at es
 rw [YT,es] at c1
 unfold AV
 rw [gD,IW,aj]
 exact c1
noncomputable def pe (n:Nat):List Bool:=true::YV (n - 1) false
theorem AW:∀ (n k:Nat),gJ k (YV n false)=[]
 | 0,k=>rfl
 | n+1,k=>by rw [aa4,gJ,if_neg (by decide),AW n]
theorem JF (n:Nat):(gJ 0 (pe n)).map D.int=[.int 0]:=by
 rw [pe,gJ,if_pos rfl,AW];rfl
theorem yi (t:T) (ht:t.subs.length≤60) (hgd:∀ s∈t.subs.map kn,YC s=true) (ss:List Sp) (hs:∀ s∈ss,s.Ok) (G:DH) (hG:G.any (jO "truths_of")=true) :
  iI [t.d,.tup (ss.map Sp.D)] G=.ok (.con (due (PP t) (ie (PP t) (t.subs.map kn) ss (pe (PP t).length)))) G∧gM [t.d,.tup (ss.map Sp.D)] G=.ok (.obj G.length) (G++[.lst (due (PP t) (ie (PP t) (t.subs.map kn) ss (pe (PP t).length)))]):=by
 have hl:=nL t
 have hpos:1≤(PP t).length:=by
  obtain ⟨L,h1,_⟩:=ye t
  rw [h1];simp
 have Bp:(t.subs.map kn).length=(PP t).length:=by rw [YL,hl]
 have Qz:(pe (PP t).length).length=(PP t).length:=by rw [pe];simp;nofun
 obtain ⟨x,R,e2⟩:=zM t (by nofun) G
 have e1:=Fw t (by nofun) G
 rw [Qx] at e1
 have Xg:(G++x::.dct (RR (PP t))::R).any (jO "truths_of")=true:=by rw [abM,hG];rfl
 obtain ⟨b5,b6,e3⟩:=t9 (PP t) (by nofun) (t.subs.map kn) Bp hgd G x R Xg (some t.d) (some (.tup (ss.map Sp.D))) none ss (pe (PP t).length) none none hs Qz
 rw [JF] at e3
 have hrl:=vO (PP t) (t.subs.map kn) Bp ss _ Qz
 have e4:=Cv (PP t) (ie (PP t) (t.subs.map kn) ss (pe (PP t).length)) (by nofun) hrl (some t.d) (some (.tup (ss.map Sp.D))) (some (.con ((t.subs.map kn).map .str))) (some (.obj (G.length+1))) b5 b6 (G++x::.dct (RR (PP t))::R)
 have e5:=places_eq t (by nofun) (G++x::.dct (RR (PP t))::R)
 rw [show ((t.prs []).map (·.1)).map pl=(PP t).map pl from rfl] at e5
 have hc:=rS (PP t) (ie (PP t) (t.subs.map kn) ss (pe (PP t).length))
 generalize due (PP t) (ie (PP t) (t.subs.map kn) ss (pe (PP t).length))=L at e4 hc
 generalize (gJ 0 (ie (PP t) (t.subs.map kn) ss (pe (PP t).length))).map D.int=u at e3 e4
 generalize (t.subs.map kn).map D.str=kk at e1 e3 e4
 generalize (PP t).map pl=PL at e4 e5
 generalize ss.map Sp.D=ws at e3 e4
 generalize RR (PP t)=RP at e2 e3 e4 e5
 generalize t.d=td at e1 e2 e3 e4 e5
 have n1:eFn (ak aS (aa (eC (.int 0)) (ai))) [some td,some (.tup ws),some (.con kk),some (.obj (G.length+1)),none,none,none,none] (G++x::.dct RP::R)=.ok (.con [.int 0]) (G++x::.dct RP::R):=by
  rw [bP,aY,aA,cJ,aj,ah,aI,aj,aN,aj,cT (lz (by simp)) rfl]
 have q1:aq 1 f7 (aa (af 0) (ai)) [some td,some (.tup ws),none,none,none,none,none,none] G=.ok (.con kk) G:=by simp [bO,aA,aI,aj,ah,aN,e1]
 have q2:aq 1 dG (aa (af 0) (ai)) [some td,some (.tup ws),some (.con kk),none,none,none,none,none] G=.ok (.obj (G.length+1)) (G++x::.dct RP::R):=by simp [bO,aA,aI,aj,ah,aN,e2]
 have q5:aq 1 aZ (aa (af 0) (ai)) [some td,some (.tup ws),some (.con kk),some (.obj (G.length+1)),some (.con u),b5,b6,none] (G++x::.dct RP::R)=.ok (.con PL) (G++x::.dct RP::R):=by simp [bO,aA,aI,aj,ah,aN,e5]
 have run:∀ k:MS,(aG (aJ 2 (aq 1 f7 (aa (af 0) (ai)))) (aG (aJ 3 (aq 1 dG (aa (af 0) (ai)))) (aG (aJ 4 (eFn (ak aS (aa (eC (.int 0)) (ai))))) (aG (fD (gP 5 6) (af 1) jd) (aG (aJ 7 (aq 1 aZ (aa (af 0) (ai)))) k))))) [some td,some (.tup ws),none,none,none,none,none,none] G=k [some td,some (.tup ws),some (.con kk),some (.obj (G.length+1)),some (.con u),b5,b6,some (.con PL)] (G++x::.dct RP::R):=λk=>by
  rw [aT,bG,q1,cS,S8,bJ,aT,bG,q2,cS,UJ,bJ,aT,bG,n1,cS,Tc,bJ,aT,j6,IV,iY]
  dsimp only
  rw [e3,bJ,aT,bG,q5,cS,WE,bJ]
 constructor
 ·unfold iI
  refine fB (R:=x::.dct RP::R) ?_ (by rw [aL];exact hc)
  show (o7 [some td,some (.tup ws),none,none,none,none,none,none] G).fn=_
  have:=run (cN (eFn AV))
  rw [show o7 [some td,some (.tup ws),none,none,none,none,none,none] G=_ from this,eU,bP,e4,dZ hc,gx,gz]
 ·have e6:cI 8 je [td,.tup ws] G=.ok (.obj (G++x::.dct RP::R).length) ((G++x::.dct RP::R)++[.lst L]):=by
   show (je [some td,some (.tup ws),none,none,none,none,none,none] G).fn=_
   have:=run (cN AV)
   rw [show je [some td,some (.tup ws),none,none,none,none,none,none] G=_ from this,eU,e4,gx,gz]
  unfold gM qk
  dsimp only
  rw [e6]
  dsimp only
  rw [p8]
  dsimp only
  have TL:((G++x::.dct RP::R)++[DO.lst L]).take G.length=G:=by rw [ZD,List.take_left]
  rw [TL,m8]
  simp [hc]
mutual
theorem FZ (n:Nat):∀ t:T,(t.pre n).map (·.2)=t.subs.map kn
 | .nd k ps=>by rw [T.pre,T.subs,Yv,Yv,AX (n+1) ps];rfl
theorem AX (n:Nat):∀ ts:List T,(fS n ts).map (·.2)=(bQ ts).map kn
 | []=>rfl
 | t::r=>by rw [fS,bQ,YS,YS,FZ n t,AX n r]
end
noncomputable def Sp.Q (ks:List Str) (s:Sp):L3.D:=.tup [s.D,.int (nb (s.l.tr ks):Int)]
theorem QB (s:Sp):s.D.closed=true:=by simp [Sp.D,D.closed,aR,dw,bY,Qu]
theorem JG (ks:List Str) (s:Sp):(s.Q ks).closed=true:=by rw [Sp.Q,d7,aR,QB,aR,aV];rfl
theorem F0 (n:Nat):((2:Int)^n - 1)=((2^n - 1:Nat):Int):=by
 have hp:1≤2^n:=adg
 rw [Int.natCast_sub hp];simp
theorem Cw (a0 a1 a2 a3:Option D) (s:Str) (hs:YC s=true) (bs:List Bool) (hb:bs.length≤1000) (p:Nat×Str) (hp:YC p.2=true) (G:DH) :
  eG [a0,a1,a2,a3,some (.str s),some (.int (nb bs:Int)),some (.int (bs.length:Int)),some (row p)] G=.nx [a0,a1,a2,a3,some (.str s),some (.int (nb (bs++[p.2==s]):Int)),some (.int (bs.length:Int)),some (row p)] G:=by
 have e:=eqs p.2 s G hp hs rfl
 have eo:=FD bs (p.2==s)
 have z1:((bs.length:Nat):Int)≤1000000:=by nofun
 have hi:sW [D.bl (p.2==s)] G=.ok (.int ((p.2==s).toNat:Int)) G:=by cases (p.2==s)<;>rfl
 have hsh:mw (.int ((p.2==s).toNat:Int)) (.int (bs.length:Int)) G=.ok (.int (((p.2==s).toNat:Int)*2^bs.length)) G:=by
  have hn:(p.2==s).toNat<18446744073709551616:=by cases (p.2==s)<;>decide
  simp [mw,cK,z1,hn,M.ret]
 generalize (p.2==s)=b at e eo hi hsh
 have ho:BP (.int (nb bs:Int)) (.int ((b.toNat:Int)*2^bs.length)) G=.ok (.int (nb (bs++[b]):Int)) G:=by rw [← eo];rfl
 have ex:ao bg (af 7) (eC (.int 1)) [a0,a1,a2,a3,some (.str s),some (.int (nb bs:Int)),some (.int (bs.length:Int)),some (row p)] G=.ok (.str p.2) G:=by rw [aX,Tg,aj,ah,cJ,aj];rfl
 unfold eG
 generalize (nb (bs++[b]):Int)=v at ho
 generalize ((b.toNat:Int)*2^bs.length)=u at ho hsh
 rw [bG,aX,NZ,aj,ah,aX,aY,aA,aX,ex,aj,ah,IW,aj,e,aj,ah,aI,aj,aN,aj,hi,aj,ah,Tf,aj,hsh,aj,ho,cS,Te]
theorem ua (a0 a1 a2 a3:Option D) (s:Str) (hs:YC s=true) (G:DH):∀ (ps:List (Nat×Str)) (bs:List Bool) (a5 a6:Option D),bs.length+ps.length≤1000→(∀ p∈ps,YC p.2=true)→∃ b5 b6,
  bI (gP 6 7) eG (ps.mapIdx λi p=>.tup [.int ((bs.length+i:Nat):Int),row p]) [a0,a1,a2,a3,some (.str s),some (.int (nb bs:Int)),a5,a6] G=.nx [a0,a1,a2,a3,some (.str s),some (.int (nb (bs++ps.map λp=>p.2==s):Int)),b5,b6] G
 | [],bs,a5,a6,_,_=>⟨a5,a6,by simp [cG]⟩
 | p::ps,bs,a5,a6,h,hp=>by
  rw [Yy] at h
  obtain ⟨b5,b6,e⟩:=ua a0 a1 a2 a3 s hs G ps (bs++[p.2==s]) (some (.int (bs.length:Int))) (some (row p)) (by simp;nofun) (λq hq=>hp q (by simp [hq]))
  refine ⟨b5,b6,?_⟩
  have e1:=Cw a0 a1 a2 a3 s hs bs (by nofun) p (hp p (by simp)) G
  rw [abC,aO (g:=gP 6 7) (τ1:=[a0,a1,a2,a3,some (.str s),some (.int (nb bs:Int)),some (.int (bs.length:Int)),some (row p)]) rfl,e1,cM]
  have em:(ps.mapIdx λi p=>D.tup [.int ((bs.length+(i+1):Nat):Int),row p])=(ps.mapIdx λi q=>D.tup [.int (((bs++[p.2==s]).length+i:Nat):Int),row q]):=by
   congr 1
   funext i q
   rw [YO,ZI,abF,adz 1 i]
  rw [em,e]
  simp
noncomputable def QC:List Str:=["down","deep","deep","later","down"]
theorem JH (τ:DS) (G:DH):eFn (ak aS (aa (eC (.str "down")) (aa (eC (.str "deep")) (aa (eC (.str "deep")) (aa (eC (.str "later")) (aa (eC (.str "down")) (ai))))))) τ G=.ok (.con (QC.map .str)) G:=by
 have e:ak aS (aa (eC (.str "down")) (aa (eC (.str "deep")) (aa (eC (.str "deep")) (aa (eC (.str "later")) (aa (eC (.str "down")) (ai)))))) τ G=aS (QC.map .str) G:=by
  simp only [aY,aA,aI,cJ,aj,ah,aN];rfl
 rw [bP,e,cT (lz (by show (5:Nat)≤_;nofun)) (ay λ_=>bY)]
theorem ND (i:Int) (h:0≤i∧i<5):∃ (g:Nat) (go:Str),CH[g]?=some go∧kB (QC.map D.str) i=some (.str go):=by
 obtain ⟨x,hx,F1⟩:=j4 (xs:=QC.map D.str) h.1 (by show i<5;nofun)
 have:i=0∨i=1∨i=2∨i=3∨i=4:=by nofun
 rcases this with rfl | rfl | rfl | rfl | rfl
 ·exact ⟨0,"down",rfl,by rw [hx];cases F1;rfl⟩
 ·exact ⟨1,"deep",rfl,by rw [hx];cases F1;rfl⟩
 ·exact ⟨1,"deep",rfl,by rw [hx];cases F1;rfl⟩
 ·exact ⟨2,"later",rfl,by rw [hx];cases F1;rfl⟩
 ·exact ⟨0,"down",rfl,by rw [hx];cases F1;rfl⟩
theorem AY (c:Int) (ws:List Str) (h5:ws.length=5) (hw:∀ s∈ws,YC s=true) (rs:List (Nat×Str)) (hr:rs.length≤100) (hrs:∀ p∈rs,YC p.2=true):∃ s:Sp,s.Ok∧∀ G,cU [.int c,.con (ws.map .str),.con (rs.map row)] G=.ok (s.Q (rs.map (·.2))) G:=by
 have hm:=dO c 12 (by nofun) (by nofun)
 have hm1:=dO c 13 (by nofun) (by nofun)
 have hm2:=dO c 14 (by nofun) (by nofun)
 have hn0:=jQ c 12
 have hn1:=jQ c 13
 have hn2:=jQ c 14
 have z1:(1:Nat)≤Yx:=lz (by nofun)
 have z2:(2:Nat)≤Yx:=lz (by nofun)
 have zr:rs.length≤Yx:=lz (by nofun)
 generalize mx c 12=y at hm hn0
 generalize mx c 13=v at hm1 hn1
 generalize mx c 14=u at hm2 hn2
 obtain ⟨g,go,hg,hgo⟩:=ND (y % 5) (by nofun)
 have e5:=JH
 generalize hE:eFn (ak aS (aa (eC (.str "down")) (aa (eC (.str "deep")) (aa (eC (.str "deep")) (aa (eC (.str "later")) (aa (eC (.str "down")) (ai)))))))=E at e5
 generalize QC.map D.str=g5 at e5 hgo
 by_cases c0:v % 3=0
 ·refine ⟨⟨g,go,.any⟩,⟨hg,trivial⟩,λG=>?_⟩
  have eD:(Sp.mk g go .any).Q (rs.map (·.2))=.tup [.tup [.str go,.tup [.str "any"]],.int (2^rs.length - 1)]:=by
   rw [Sp.Q,Sp.D,Lk.D,Lk.tr,YW,F0,← Nj]
   congr 5
   refine congrArg nb ?_
   apply aak
   ·simp
   ·intro i h1 h2;simp
  unfold cU
  refine bz ?_ (JG _ _)
  rw [eD]
  have hsh:=AK rs.length (by nofun) G
  have hlen:(rs.map row).length=rs.length:=YL _
  generalize D.con (ws.map .str)=wD
  generalize rs.map row=rr at hlen
  unfold iF
  rw [hE]
  simp! [hm,hm1,hgo,e5,c0,cW,z1,z2,hlen,zr,hsh]
 ·have hu:0≤u % 5∧u % 5<5:=by nofun
  obtain ⟨x,hx,F1⟩:=j4 (xs:=ws.map D.str) hu.1 (by simp [h5];nofun)
  rw [YK] at F1
  cases TM:ws[(u % 5).toNat]? with
  | none=>rw [TM] at F1;cases F1
  | some k=>
   rw [TM] at F1;cases F1
   have hk:=hw k (Zi TM)
   refine ⟨⟨g,go,.kind k⟩,⟨hg,hk⟩,λG=>?_⟩
   obtain ⟨b5,b6,e⟩:=ua (some (.int c)) (some (.con (ws.map .str))) (some (.con (rs.map row))) (some (.str go)) k hk G rs [] none none (by simp;nofun) hrs
   have eD:(Sp.mk g go (.kind k)).Q (rs.map (·.2))=.tup [.tup [.str go,.tup [.str "kind",.str k]],.int (nb (rs.map λp=>p.2==k):Int)]:=by
    rw [Sp.Q,Sp.D,Lk.D,Lk.tr,YW];rfl
   unfold cU
   refine bz ?_ (JG _ _)
   rw [eD]
   have Xh:(v % 3==(0:Int))=false:=beq_eq_false_iff_ne.mpr c0
   have em:(rs.mapIdx λi p=>D.tup [.int (((([]:List Bool).length+i:Nat)):Int),row p])=((rs.map row).mapIdx λi x=>D.tup [.int (i:Int),x]):=by
    apply aak
    ·simp
    ·intro i h1 h2;simp
   rw [em,YT,show nb []=0 from rfl] at e
   simp only [adN] at e
   generalize (nb (rs.map λp=>p.2==k):Int)=bits at e
   have hfe:=λτ G=>rP (g:=gP 6 7) (body:=eG) (xs:=rs.map row) (τ:=τ) (G:=G)
   generalize ((rs.map row).mapIdx λi x=>D.tup [.int (i:Int),x])=its at e hfe
   generalize rs.map row=rr at e hfe
   generalize ws.map D.str=ww at hx e
   unfold iF
   rw [hE]
   simp! [hm,hm1,hm2,hgo,e5,Xh,cW,hx,hfe,e,z2]
theorem F2 (bs:List Bool) (j:Nat) (b:Bool) (h:bs[j]?=some b) (G:DH):zf (.int (nb bs:Int)) (.int (j:Int)) G=.ok (.int ((nb bs / 2^j:Nat):Int)) G∧uS (.int ((nb bs / 2^j:Nat):Int)) (.int 1) G=.ok (.int (b.toNat:Int)) G∧fT false (.int (b.toNat:Int)) (.int 1) G=.ok (.bl b) G:=by
 refine ⟨by simp [zf,cK,M.ret],?_,by rw [cW];cases b<;>rfl⟩
 have:uS (.int ((nb bs / 2^j:Nat):Int)) (.int 1) G=.ok (.int (aaS ((nb bs / 2^j:Nat):Int) 1)) G:=rfl
 rw [this,PyProof.Rows.bitAnd_m1,← Kp bs j b h];rfl
theorem F3 (P:List (List Int)) (L:List (Bool×List Int)) (g:Nat) (b:Bool) (p:List Int):P.map (f9 (L++[(b,p)]) g)=if b then aaA or (P.map (f9 L g)) (P.map (bB g p)) else P.map (f9 L g):=by
 cases b with
 | true=>
  rw [if_pos rfl]
  apply aak
  ·simp
  ·intro i h1 h2
   simp [f9,abM]
 | false=>
  rw [if_neg (by decide)]
  refine Zt λq _=>?_
  simp [f9,abM]
theorem Cy (P:List (List Int)) (g:Nat) (fl:List Bool) (L:List (Bool×List Int)) (b:Bool) (p:List Int) (hb:fl[L.length]?=some b) (n:Nat) (G:DH) :
  dH [some (.obj n),some (.int (nb fl:Int)),some (.int (nb (P.map (f9 L g)):Int)),some (.int (L.length:Int)),some (mk P g p)] G=.nx [some (.obj n),some (.int (nb fl:Int)),some (.int (nb (P.map (f9 (L++[(b,p)]) g)):Int)),some (.int (L.length:Int)),some (mk P g p)] G:=by
 obtain ⟨e1,e2,e3⟩:=F2 fl L.length b hb G
 have eo:BP (.int (nb (P.map (f9 L g)):Int)) (mk P g p) G=.ok (.int (nb (aaA or (P.map (f9 L g)) (P.map (bB g p))):Int)) G:=by
  rw [← Ql _ _ (by simp)];rfl
 rw [F3]
 generalize ((nb fl / 2^L.length:Nat):Int)=v at e1 e2
 generalize mk P g p=m at eo
 have et:g8 (ao (fT false) (ao uS (ao zf (af 1) (af 3)) (eC (.int 1))) (eC (.int 1))) [some (.obj n),some (.int (nb fl:Int)),some (.int (nb (P.map (f9 L g)):Int)),some (.int (L.length:Int)),some m] G=.ok b G:=by
  rw [gy,aX,aX,aX,IV,aj,ah,NY,aj,e1,aj,ah,cJ,aj,e2,aj,ah,cJ,aj,e3,aj,eV]
 unfold dH
 rw [iA,et]
 cases b with
 | true=>rw [uF,bG,aX,MV,aj,ah,IW,aj,eo,cS,S8,if_pos rfl]
 | false=>rfl
theorem uc (P:List (List Int)) (g:Nat) (fl:List Bool) (hf:fl.length=P.length) (n:Nat) (G:DH) (hn:G[n]?=some (.lst (P.map (mk P g)))):∀ (r L:List (Bool×List Int)) (a3 a4:Option D),fl.zip P=L++r→∃ b3 b4,
  iW (gP 3 4) dH (fH (.obj n)) (r.length+1) L.length [some (.obj n),some (.int (nb fl:Int)),some (.int (nb (P.map (f9 L g)):Int)),a3,a4] G=.nx [some (.obj n),some (.int (nb fl:Int)),some (.int (nb (P.map (f9 (fl.zip P) g)):Int)),b3,b4] G
 | [],L,a3,a4,h=>by
  refine ⟨a3,a4,?_⟩
  have hl:=congrArg aag h
  rw [Y4,abN,hf,adA] at hl
  rw [D7,h,Y4]
  simp only [fH,aD,hn]
  rw [ZY (by simp;nofun)];rfl
 | (b,p)::r,L,a3,a4,h=>by
  have hz:(fl.zip P)[L.length]?=some (b,p):=by rw [h];simp
  rw [ZW] at hz
  obtain ⟨b3,b4,e⟩:=uc P g fl hf n G hn r (L++[(b,p)]) (some (.int (L.length:Int))) (some (mk P g p)) (by rw [h];simp)
  refine ⟨b3,b4,?_⟩
  have hv:fH (.obj n) G L.length=some (some (.tup [.int (L.length:Int),mk P g p])):=by
   simp only [fH,aD,hn]
   rw [YK,hz.2];rfl
  rw [Yy,MG hv (τ1:=[some (.obj n),some (.int (nb fl:Int)),some (.int (nb (P.map (f9 L g)):Int)),some (.int (L.length:Int)),some (mk P g p)]) rfl,Cy P g fl L b p hz.1 n G,cM]
  rw [YO,ZI] at e
  exact e
theorem AZ:∀ P:List (List Int),nb (P.map λ_=>false)=0
 | []=>rfl
 | p::P=>by rw [Yv,nb,AZ P];rfl
theorem JI (P:List (List Int)) (g:Nat) (fl:List Bool) (hf:fl.length=P.length) (n:Nat) (G:DH) (hn:G[n]?=some (.lst (P.map (mk P g)))):gX [.obj n,.int (nb fl:Int)] G=.ok (.int (nb (P.map (f9 (fl.zip P) g)):Int)) G:=by
 obtain ⟨b3,b4,e⟩:=uc P g fl hf n G hn (fl.zip P) [] none none rfl
 rw [show (P.map (f9 [] g))=P.map λ_=>false from rfl,AZ,YR,abN,hf,adA] at e
 refine bz ?_ aV
 have hi:cV (aa (af 0) (ai)) [some (.obj n),some (.int (nb fl:Int)),some (.int 0),none,none] G=.ok (P.length+1,fH (.obj n)) G:=by
  simp [j8,aA,aI,aj,ah,aN,aD,hn]
 generalize (nb (P.map (f9 (fl.zip P) g)):Int)=v at e
 generalize (nb fl:Int)=u at e hi
 show (fP [some (.obj n),some (.int u),none,none,none] G).fn=_
 unfold fP
 rw [aT,bG,cJ,cS,S8,bJ,aT,l5,hi,iY]
 dsimp only
 rw [show ((0:Nat):Int)=0 from rfl] at e
 rw [e,bJ,eU,MV,gx,gz]
noncomputable abbrev HL (A:DH) (f:Bool) (P:List (List Int)) (R:DH):DH:=HH A f (P.map (mk P 0)) (P.map (mk P 1)) (P.map (mk P 2)) R
theorem QD (n g:Nat) (go:Str) (h:CH[g]?=some go):cX (R3 n) (Sum.inr go)=some (.obj (n+1+g)):=by
 match g,h with
 | 0,h=>cases h;exact kq _ _ _
 | 1,h=>cases h;exact kr _ _ _
 | 2,h=>cases h;exact jh _ _ _
 | n+3,h=>simp [CH] at h
theorem QF (A:DH) (f:Bool) (P:List (List Int)) (R:DH) (g:Nat) (go:Str) (h:CH[g]?=some go):(HL A f P R)[A.length+1+g]?=some (.lst (P.map (mk P g))):=by
 match g,h with
 | 0,h=>simp [HL,HH]
 | 1,h=>rw [abF];simp [HL,HH]
 | 2,h=>rw [abF];simp [HL,HH]
 | n+3,h=>simp [CH] at h
section
variable (A:DH) (f:Bool) (P:List (List Int)) (ks:List Str) (hk:ks.length=P.length) (R:DH)
theorem Cz (s:Sp) (hs:s.Ok) (fl:List Bool) (hf:fl.length=P.length) (hk:ks.length=P.length) (a0 a1 a2 a4 a5 a6 a7 a8 a9:Option D) (τ:DS) :
  nB (a0::a1::a2::some (.obj A.length)::a4::a5::a6::a7::a8::a9::some (.int (nb fl:Int))::some (s.Q ks)::τ) (HL A f P R)=.nx (a0::a1::a2::some (.obj A.length)::a4::a5::a6::a7::a8::a9::some (.int (nb (rR P s.g fl (s.l.tr ks)):Int))::some (s.Q ks)::τ) (HL A f P R):=by
 have e1:=Kr A f (P.map (mk P 0)) (P.map (mk P 1)) (P.map (mk P 2)) R s.go _ (QD A.length s.g s.go hs.1)
 have e2:=JI P s.g fl hf (A.length+1+s.g) (HL A f P R) (QF A f P R s.g s.go hs.1)
 have e3:uS (.int (nb (P.map (f9 (fl.zip P) s.g)):Int)) (.int (nb (s.l.tr ks):Int)) (HL A f P R)=.ok (.int (nb (rR P s.g fl (s.l.tr ks)):Int)) (HL A f P R):=by
  rw [rR,← Kq _ _ (by rw [YL,vN,hk])];rfl
 have q0:bg (s.Q ks) (.int 0) (HL A f P R)=.ok s.D (HL A f P R):=rfl
 have q1:bg (s.Q ks) (.int 1) (HL A f P R)=.ok (.int (nb (s.l.tr ks):Int)) (HL A f P R):=rfl
 have q2:bg s.D (.int 0) (HL A f P R)=.ok (.str s.go) (HL A f P R):=rfl
 generalize (nb (rR P s.g fl (s.l.tr ks)):Int)=u at e3
 generalize (nb (P.map (f9 (fl.zip P) s.g)):Int)=v at e2 e3
 generalize (nb (s.l.tr ks):Int)=w at e3 q1
 generalize (nb fl:Int)=z at e2
 generalize s.D=sd at q0 q2
 generalize s.Q ks=sq at q0 q1
 rw [show HH A f (P.map (mk P 0)) (P.map (mk P 1)) (P.map (mk P 2)) R=HL A f P R from rfl] at e1
 generalize HL A f P R=H at e1 e2 e3 q0 q1 q2
 unfold nB
 simp [bG,aX,bO,aA,aI,cJ,aj,ah,aN,aQ,e1,e2,e3,q0,q1,q2]
theorem ud (hk:ks.length=P.length) (a0 a1 a2 a4 a5 a6 a7 a8 a9:Option D) (τ:DS):∀ (ss:List Sp) (fl:List Bool) (sf:Option D),(∀ s∈ss,s.Ok)→fl.length=P.length→∃ vV,
  bI (gN 11) nB (ss.map (Sp.Q ks)) (a0::a1::a2::some (.obj A.length)::a4::a5::a6::a7::a8::a9::some (.int (nb fl:Int))::sf::τ) (HL A f P R)=.nx (a0::a1::a2::some (.obj A.length)::a4::a5::a6::a7::a8::a9::some (.int (nb (ie P ks ss fl):Int))::vV::τ) (HL A f P R)
 | [],fl,sf,_,_=>⟨sf,by rw [YY,cG,ie]⟩
 | s::ss,fl,sf,hs,hf=>by
  obtain ⟨vV,e⟩:=ud hk a0 a1 a2 a4 a5 a6 a7 a8 a9 τ ss (rR P s.g fl (s.l.tr ks)) (some (s.Q ks)) (λx hx=>hs x (by simp [hx])) (mO P s.g fl _ (by rw [vN,hk]))
  refine ⟨vV,?_⟩
  rw [Yv,aO (g:=gN 11) (τ1:=a0::a1::a2::some (.obj A.length)::a4::a5::a6::a7::a8::a9::some (.int (nb fl:Int))::some (s.Q ks)::τ) rfl,Cz A f P ks R s (hs s (by simp)) fl hf hk,cM,e,ie]
end
theorem zQ {gO:D→Option (List D)} {ks:List Bool} {tt:DS→M Bool} {te:DS→M D} {n:Nat} {xs:List D} {τ:DS} {G:DH}:iX gO ks tt te n (fH (.con xs)) (xs.length+1) 0 τ G=cz gO ks tt te n (xs.mapIdx λi x=>.tup [.int i,x]) τ G:=by
 have:=i6 (n:=n) (gO:=gO) (ks:=ks) (tt:=tt) (te:=te) (xs:=xs.mapIdx λi x=>D.tup [.int i,x]) (vw:=fH (.con xs)) (λG i h=>by
  simp only [fH,aD,aaW]) (xs.length+1) 0 τ G (by simp) (by simp)
 simpa using this
noncomputable def JJ:DS→M Bool:=g8 (ao (fT false) (ao uS (ao zf (af 12) (af 0)) (eC (.int 1))) (eC (.int 1)))
theorem P9 {a b c d e g h i j k l m x:Option D} {y:D} {r:DS} {G:DH}:af 12 (a::b::c::d::e::g::h::i::j::k::l::m::some y::r) G=.ok y G:=YH rfl rfl
theorem JK (bs:List Bool) (j:Nat) (b:Bool) (h:bs[j]?=some b) (p:D) (τ:DS) (G:DH):JJ (some (.int (j:Int))::some p::none::none::none::none::none::none::none::none::none::none::some (.int (nb bs:Int))::τ) G=.ok b G:=by
 obtain ⟨e1,e2,e3⟩:=F2 bs j b h G
 generalize ((nb bs / 2^j:Nat):Int)=v at e1 e2
 unfold JJ
 rw [gy,aX,aX,aX,P9 (x:=none),aj,ah,Gf,aj,e1,aj,ah,cJ,aj,e2,aj,ah,cJ,aj,e3,aj,eV]
theorem JL:∀ (ps:List (List Int)) (bs:List Bool),((ps.zip bs).mapIdx λi q=>(i,q)).map (λx=>x.2)=ps.zip bs:=λps bs=>by
 apply aak
 ·simp
 ·intro i h1 h2;simp
noncomputable def NF:DS→M D:=eFn (dY (oT 2) [false,false,false,false,false,false,false,false,false,false,true] (cV (aa (af 4) (ai))) JJ (af 1))
theorem NG (ps:List (List Int)) (bs:List Bool) (hl:ps.length=bs.length) (hz:ps.length≤1000) (a0 a1 a2 a3 a5 a6 a7 a8 a9 sf yj vP:Option D) (G:DH) :
  NF [a0,a1,a2,a3,some (.con (ps.map pl)),a5,a6,a7,a8,a9,some (.int (nb bs:Int)),sf,yj,vP] G=.ok (.con (due ps bs)) G:=by
 have hc:=rS ps bs
 have c1:=jx (gO:=oT 2) (ks:=[false,false,false,false,false,false,false,false,false,false,true]) (tt:=JJ) (te:=af 1) (own:=λx:Nat×(List Int×Bool)=>[D.int (x.1:Int),pl x.2.1]) (dat:=λx=>D.tup [.int (x.1:Int),pl x.2.1]) (f:=λx=>pl x.2.1) (c:=λx=>x.2.2) (G:=G) (τ:=[a0,a1,a2,a3,some (.con (ps.map pl)),a5,a6,a7,a8,a9,some (.int (nb bs:Int)),sf,yj,vP]) ((ps.zip bs).mapIdx λi q=>(i,q)) [] (by simp;nofun) (λ_ _=>rfl) (λx hx acc=>by
   obtain ⟨i,hi,rfl⟩:=acI.mp hx
   refine JK bs i _ ?_ _ _ _
   have hb:i<bs.length:=by rw [abN] at hi;nofun
   rw [YD hb,List.getElem_zip]) (λx _ acc=>rfl)
 have em:((ps.zip bs).mapIdx λi q=>(i,q)).map (λx=>D.tup [.int (x.1:Int),pl x.2.1])=(ps.map pl).mapIdx λi x=>D.tup [.int (i:Int),x]:=by
  apply aak
  ·simp;nofun
  ·intro i h1 h2;simp
 have ef:((((ps.zip bs).mapIdx λi q=>(i,q)).filter λx=>x.2.2).map λx=>pl x.2.1)=due ps bs:=by
  have e0:=JL ps bs
  rw [due]
  conv=>rhs;rw [← e0,adW,YW]
  rfl
 rw [em,YT,ef] at c1
 unfold NF
 rw [bP,← dZ hc,← c1,← zQ,qf]
 have hi:cV (aa (af 4) (ai)) [a0,a1,a2,a3,some (.con (ps.map pl)),a5,a6,a7,a8,a9,some (.int (nb bs:Int)),sf,yj,vP] G=.ok ((ps.map pl).length+1,fH (.con (ps.map pl))) G:=by
  generalize ps.map pl=xs
  simp [j8,aA,aI,aj,ah,aN,aD]
 rw [hi,aj]
theorem JM (ps:List (List Int)) (bs:List Bool):∃ Q:List (List Int),due ps bs=Q.map pl∧Q.length≤ps.length:=by
 refine ⟨((ps.zip bs).filter (·.2)).map (·.1),by rw [due,YW];rfl,?_⟩
 have:=acO (λq:List Int×Bool=>q.2) (ps.zip bs)
 rw [abN] at this
 rw [YL];nofun
noncomputable abbrev CA:DS→M D:=eFn (jo (af 6) (bh (af 8)) (bh (ao aE (af 8) (af 7))))
theorem NH (ks:List Str) (S:List Sp) (hS:S.length≤100) (st mn:Int):∃ ss:List Sp,(∀ s∈ss,s∈S)∧ss.length≤100∧∀ (a0 a1 a2 a3 a4 a5:Option D) (τ:DS) (G:DH),
  CA (a0::a1::a2::a3::a4::a5::some (.con (S.map (Sp.Q ks)))::some (.int mn)::some (.int st)::τ) G=.ok (.con (ss.map (Sp.Q ks))) G:=by
 have e:∃ ss:List Sp,(∀ s∈ss,s∈S)∧ss.length≤S.length∧cutD (S.map (Sp.Q ks)) (some st) (some (st+mn))=ss.map (Sp.Q ks):=by
  unfold cutD
  rw [← List.map_drop,← ac6]
  exact ⟨_,λs hs=>List.mem_of_mem_drop (List.mem_of_mem_take hs),by rw [aaH,abx];nofun,rfl⟩
 obtain ⟨ss,h1,h2,h3⟩:=e
 refine ⟨ss,h1,by nofun,λa0 a1 a2 a3 a4 a5 τ G=>?_⟩
 have f:=cT (G:=G) (ds:=ss.map (Sp.Q ks)) (lz (by rw [YL];nofun)) (ay (JG ks))
 have es:yo (.con (S.map (Sp.Q ks))) (some st) (some (st+mn)) G=aS (ss.map (Sp.Q ks)) G:=by
  unfold yo
  simp only [aD,h3]
 generalize ss.map (Sp.Q ks)=L at f es
 generalize S.map (Sp.Q ks)=N at es
 have q6:∀ G,af 6 (a0::a1::a2::a3::a4::a5::some (.con N)::some (.int mn)::some (.int st)::τ) G=.ok (.con N) G:=λ_=>rfl
 have q8:∀ G,af 8 (a0::a1::a2::a3::a4::a5::some (.con N)::some (.int mn)::some (.int st)::τ) G=.ok (.int st) G:=λ_=>rfl
 have q7:∀ G,ao aE (af 8) (af 7) (a0::a1::a2::a3::a4::a5::some (.con N)::some (.int mn)::some (.int st)::τ) G=.ok (.int (st+mn)) G:=λ_=>rfl
 unfold CA
 rw [bP,sY,q6,aj,ah,iC,q8,aj]
 simp only [kJ,aj,ah,iC,q7,es,f]
noncomputable def UZ:D→D
 | .tup [x,_]=>x
 | _=>.dP
theorem NI (n:Nat):nb (pe n)=1:=by
 have h:∀ m,nb (YV m false)=0:=λm=>by
  induction m with
  | zero=>rfl
  | succ m ih=>rw [aa4,nb,ih];rfl
 rw [pe,nb,h];rfl
theorem NJ (ks:List Str) (ss:List Sp) (hl:ss.length≤100) (τ:DS) (G:DH) (h:CA τ G=.ok (.con (ss.map (Sp.Q ks))) G):eFn (cj oN [] CA (bV) (ao bg (af 0) (eC (.int 0)))) τ G=.ok (.con (ss.map Sp.D)) G:=by
 have hc:aH (ss.map Sp.D)=true:=ay QB
 have c1:=bH (τ:=τ) (G:=G) (gO:=oN) (ks:=[]) (te:=ao bg (af 0) (eC (.int 0))) (own:=λd=>[d]) (f:=UZ) (ss.map (Sp.Q ks)) [] (by simp;nofun) (λx _=>rfl) (λx hx acc=>by
  obtain ⟨s,_,rfl⟩:=YX.mp hx
  show ao bg (af 0) (eC (.int 0)) (some (s.Q ks)::mask [] τ) _=_
  rw [aX,Gf,aj,ah,cJ,aj];rfl)
 have em:(ss.map (Sp.Q ks)).map UZ=ss.map Sp.D:=by rw [YW];rfl
 rw [YT,em] at c1
 rw [bP,← dZ hc,← c1,gD,h,aj]
theorem F4 (t:T) (ht:t.subs.length≤60) (hgd:∀ s∈t.subs.map kn,YC s=true) (S:List Sp) (hS:S.length≤100) (hok:∀ s∈S,s.Ok) (A:DH) (hA:A.any (jO "truths_of")=true) (f:Bool) (R:DH) (st mn:Int) (a0 a1 a2 a9 Gg sf yj vP:Option D) :
  ∃ (b9 NK vV NL NN:Option D) (R':DH),qV [a0,a1,a2,some (.obj A.length),some (.con ((PP t).map pl)),some t.d,some (.con (S.map (Sp.Q (t.subs.map kn)))),some (.int mn),some (.int st),a9,Gg,sf,yj,vP] (HL A f (PP t) R)=.nx [a0,a1,a2,some (.obj A.length),some (.con ((PP t).map pl)),some t.d,some (.con (S.map (Sp.Q (t.subs.map kn)))),some (.int mn),some (.int st),b9,NK,vV,NL,NN] (HL A f (PP t) R'):=by
 have hl:=nL t
 have hpos:1≤(PP t).length:=by
  obtain ⟨L,h1,_⟩:=ye t
  rw [h1];simp
 have Bp:(t.subs.map kn).length=(PP t).length:=by rw [YL,hl]
 have Qz:(pe (PP t).length).length=(PP t).length:=by rw [pe];simp;nofun
 obtain ⟨ss,hs1,hs2,ec⟩:=NH (t.subs.map kn) S hS st mn
 have hss:∀ s∈ss,s.Ok:=λs hs=>hok s (hs1 s hs)
 have hrl:=vO (PP t) (t.subs.map kn) Bp ss _ Qz
 obtain ⟨vV,eb⟩:=ud A f (PP t) (t.subs.map kn) R Bp a0 a1 a2 (some (.con ((PP t).map pl))) (some t.d) (some (.con (S.map (Sp.Q (t.subs.map kn))))) (some (.int mn)) (some (.int st)) (some (.con (ss.map Sp.D))) [yj,vP] ss (pe (PP t).length) sf hss Qz
 rw [NI] at eb
 have ed:=NG (PP t) (ie (PP t) (t.subs.map kn) ss (pe (PP t).length)) hrl.symm (by nofun) a0 a1 a2 (some (.obj A.length)) (some t.d) (some (.con (S.map (Sp.Q (t.subs.map kn))))) (some (.int mn)) (some (.int st)) (some (.con (ss.map Sp.D))) vV yj vP (HL A f (PP t) R)
 have ef:=yi t ht hgd ss hss
 obtain ⟨Q,eQ,lQ⟩:=JM (PP t) (ie (PP t) (t.subs.map kn) ss (pe (PP t).length))
 have hH:∀ R,(HL A f (PP t) R).any (jO "truths_of")=true:=λR=>by
  show (A++_).any _=true
  rw [abM,hA];rfl
 have e1:=(ef (HL A f (PP t) R) (hH R)).2
 rw [eQ] at ed e1 ef
 have eR:∀ x:DO,HL A f (PP t) R++[x]=HL A f (PP t) (R++[x]):=λx=>by simp [HL,HH]
 have e3:=(ef (HL A f (PP t) R++[.lst (Q.map pl++[.tup []])]) (by rw [eR];exact hH _)).1
 have q1:=Im true (Q.map pl) (HL A f (PP t) R).length (HL A f (PP t) R++[.lst (Q.map pl)]) (by simp) (tX Q) (by have:=Fj Q;nofun)
 have q2:=qB true (.con (Q.map pl)) (HL A f (PP t) R++[.lst (Q.map pl++[.tup []])]) (by rw [D.plain];exact tX Q) (by rw [D.dp];have:=Fj Q;nofun)
 have hlen:(Q.map pl).length<Yx:=YG (by simp;nofun) (lz (n:=1001) (by nofun))
 have hzs:(ss.map Sp.D).length≤Yx:=lz (by rw [YL];nofun)
 have ew:=λG=>NJ (t.subs.map kn) ss hs2 [a0,a1,a2,some (.obj A.length),some (.con ((PP t).map pl)),some t.d,some (.con (S.map (Sp.Q (t.subs.map kn)))),some (.int mn),some (.int st),a9,Gg,sf,yj,vP] G (ec a0 a1 a2 (some (.obj A.length)) (some (.con ((PP t).map pl))) (some t.d) [a9,Gg,sf,yj,vP] G)
 have KA:=λG=>ec a0 a1 a2 (some (.obj A.length)) (some (.con ((PP t).map pl))) (some t.d) [some (.con (ss.map Sp.D)),some (.int 1),sf,yj,vP] G
 refine ⟨some (.con (ss.map Sp.D)),some (.int (nb (ie (PP t) (t.subs.map kn) ss (pe (PP t).length)):Int)),vV,some (.con (Q.map pl)),some (.obj (HL A f (PP t) R).length),R++[.lst (Q.map pl++[.tup []])],?_⟩
 rw [← eR]
 rw [show ((1:Nat):Int)=1 from rfl] at eb
 generalize (nb (ie (PP t) (t.subs.map kn) ss (pe (PP t).length)):Int)=bits at eb ed
 generalize Q.map pl=L at ed e1 e3 q1 q2 hlen
 generalize (PP t).map pl=PL at eb ed ew KA
 generalize ss.map Sp.D=ws at eb ed e1 e3 ew KA hzs
 generalize S.map (Sp.Q (t.subs.map kn))=SQ at eb ed ew KA
 generalize ss.map (Sp.Q (t.subs.map kn))=sq at eb KA
 generalize t.d=td at eb ed e1 e3 ew KA
 generalize HL A f (PP t) R=H at eb ed e1 e3 q1 q2 ew KA
 generalize A.length=n at eb ed ew KA
 show aG (aJ 9 (eFn (cj oN [] CA (bV) (ao bg (af 0) (eC (.int 0)))))) zw _ _=_
 have s9:∀ (a b c d e g h i j k l m n o w:Option D),[a,b,c,d,e,g,h,i,j,k,l,m,n,o].set 9 w=[a,b,c,d,e,g,h,i,j,w,l,m,n,o]:=λ_ _ _ _ _ _ _ _ _ _ _ _ _ _ _=>rfl
 have Sg:∀ (a b c d e g h i j k l m n o w:Option D),[a,b,c,d,e,g,h,i,j,k,l,m,n,o].set 10 w=[a,b,c,d,e,g,h,i,j,k,w,m,n,o]:=λ_ _ _ _ _ _ _ _ _ _ _ _ _ _ _=>rfl
 have s12:∀ (a b c d e g h i j k l m n o w:Option D),[a,b,c,d,e,g,h,i,j,k,l,m,n,o].set 12 w=[a,b,c,d,e,g,h,i,j,k,l,m,w,o]:=λ_ _ _ _ _ _ _ _ _ _ _ _ _ _ _=>rfl
 have Xi:∀ (a b c d e g h i j k l m n o w:Option D),[a,b,c,d,e,g,h,i,j,k,l,m,n,o].set 13 w=[a,b,c,d,e,g,h,i,j,k,l,m,n,w]:=λ_ _ _ _ _ _ _ _ _ _ _ _ _ _ _=>rfl
 rw [aT,bG,ew,cS,s9,bJ]
 show aG (aJ 10 (eC (.int 1))) (aG (fD (gN 11) CA nB) zv) _ _=_
 rw [aT,bG,cJ,cS,Sg,bJ,aT,j6,KA,iY]
 dsimp only
 rw [eb,bJ]
 show aG (aJ 12 NF) vD _ _=_
 rw [aT,bG,ed,cS,s12,bJ]
 have et:ak fZ (aa (af 9) (ai)) [a0,a1,a2,some (.obj n),some (.con PL),some td,some (.con SQ),some (.int mn),some (.int st),some (.con ws),some (.int bits),vV,some (.con L),vP] H=.ok (.tup ws) H:=by
  simp [aY,aA,aI,aQ,aj,ah,aN,fZ,aD,bx,hzs]
 have eo:aq 2 gM (aa (af 5) (aa (ak fZ (aa (af 9) (ai))) (ai))) [a0,a1,a2,some (.obj n),some (.con PL),some td,some (.con SQ),some (.int mn),some (.int st),some (.con ws),some (.int bits),vV,some (.con L),vP] H=.ok (.obj H.length) (H++[.lst L]):=by
  rw [bO,aA,NZ,aj,ah,aA,et,aj,ah,aI,aj,aN,aj,aN,aj]
  exact e1
 have Xj:∀ G,ak fZ (aa (af 9) (ai)) [a0,a1,a2,some (.obj n),some (.con PL),some td,some (.con SQ),some (.int mn),some (.int st),some (.con ws),some (.int bits),vV,some (.con L),some (.obj H.length)] G=.ok (.tup ws) G:=λG=>by
  simp [aY,aA,aI,aQ,aj,ah,aN,fZ,aD,bx,hzs]
 have ep:aq 2 iI (aa (af 5) (aa (ak fZ (aa (af 9) (ai))) (ai))) [a0,a1,a2,some (.obj n),some (.con PL),some td,some (.con SQ),some (.int mn),some (.int st),some (.con ws),some (.int bits),vV,some (.con L),some (.obj H.length)] (H++[.lst (L++[.tup []])])=.ok (.con L) (H++[.lst (L++[.tup []])]):=by
  rw [bO,aA,NZ,aj,ah,aA,Xj,aj,ah,aI,aj,aN,aj,aN,aj]
  exact e3
 unfold vD
 generalize UQ:aq 2 gM (aa (af 5) (aa (ak fZ (aa (af 9) (ai))) (ai)))=E1 at eo
 generalize UR:aq 2 iI (aa (af 5) (aa (ak fZ (aa (af 9) (ai))) (ai)))=E2 at ep
 rw [aT,bG,eo,cS,Xi,bJ]
 have g0:(H++[DO.lst L])[H.length]?=some (.lst L):=p8 H _ []
 have gs:(H++[DO.lst L]).set H.length (.lst (L++[.tup []]))=H++[.lst (L++[.tup []])]:=vU H _ _ []
 by_cases h0:st=0
 ·have b0:(st==0)=true:=by rw [h0];rfl
  simp only [aT,iA,D4,Ag,p9,D5,aQ,YJ,YF,aj,oB,JZ,g0,Ty.is,kR,gy,aX,ah,q1,eV]
  simp [iB,gj,dB,aU,hlen,uG,kI,bJ,j5,aA,aI,aQ,aY,bx,aj,ah,aN,iA,gy,aX,cJ,eV,aT,g0,gs,ep,q2,b0,cW,q1,oB,JZ,Ty.is,kR]
 ·have b0:(st==0)=false:=beq_eq_false_iff_ne.mpr h0
  simp only [aT,iA,D4,Ag,p9,D5,aQ,YJ,YF,aj,oB,JZ,g0,Ty.is,kR,gy,aX,ah,q1,eV]
  simp [iB,gj,dB,aU,hlen,uG,kI,bJ,j5,aA,aI,aQ,aY,bx,aj,ah,aN,iA,gy,aX,cJ,eV,aT,g0,gs,ep,q2,b0,cW,q1,oB,JZ,Ty.is,kR]
theorem JN {g:jT} {body:MS} {lo c:Int} {k:Nat} {τ:DS} {G:DH}:iW g body (qp lo c k) (k+1) 0 τ G=bI g body ((Y9 k).map λ(i:Nat)=>.int (lo+(i:Int)*c)) τ G:=by
 have:=iZ (g:=g) (body:=body) (xs:=(Y9 k).map λ(i:Nat)=>D.int (lo+(i:Int)*c)) (vw:=qp lo c k) (λG i h=>by
  simp only [YL,adw] at h
  simp only [qp,YK]
  by_cases hi:i<k
  ·rw [if_pos hi,ac4 hi];rfl
  ·rw [if_neg hi,ZY (by simp;nofun)];rfl) (k+1) 0 τ G (by simp) (by simp)
 simpa using this
theorem yk (t:T) (ht:t.subs.length≤60) (hgd:∀ s∈t.subs.map kn,YC s=true) (S:List Sp) (hS:S.length≤100) (hok:∀ s∈S,s.Ok) (A:DH) (hA:A.any (jO "truths_of")=true) (f:Bool) (mn:Int) (a0 a1 a2:Option D):∀ (its:List Int) (R:DH) (a8 a9 Gg sf yj vP:Option D),
  ∃ (b8 b9 NK vV NL NN:Option D) (R':DH),bI (gN 8) qV (its.map .int) [a0,a1,a2,some (.obj A.length),some (.con ((PP t).map pl)),some t.d,some (.con (S.map (Sp.Q (t.subs.map kn)))),some (.int mn),a8,a9,Gg,sf,yj,vP] (HL A f (PP t) R)=.nx [a0,a1,a2,some (.obj A.length),some (.con ((PP t).map pl)),some t.d,some (.con (S.map (Sp.Q (t.subs.map kn)))),some (.int mn),b8,b9,NK,vV,NL,NN] (HL A f (PP t) R')
 | [],R,a8,a9,Gg,sf,yj,vP=>⟨a8,a9,Gg,sf,yj,vP,R,by rw [YY,cG]⟩
 | st::its,R,a8,a9,Gg,sf,yj,vP=>by
  obtain ⟨c9,Xk,Xl,c12,Xm,R1,e1⟩:=F4 t ht hgd S hS hok A hA f R st mn a0 a1 a2 a9 Gg sf yj vP
  obtain ⟨b8,b9,NK,vV,NL,NN,R',e2⟩:=yk t ht hgd S hS hok A hA f mn a0 a1 a2 its R1 (some (.int st)) c9 Xk Xl c12 Xm
  refine ⟨b8,b9,NK,vV,NL,NN,R',?_⟩
  rw [Yv,aO (g:=gN 8) (τ1:=[a0,a1,a2,some (.obj A.length),some (.con ((PP t).map pl)),some t.d,some (.con (S.map (Sp.Q (t.subs.map kn)))),some (.int mn),some (.int st),a9,Gg,sf,yj,vP]) rfl,e1,cM,e2]
theorem F5 (ws:List Str) (h5:ws.length=5) (hw:∀ s∈ws,YC s=true) (rs:List (Nat×Str)) (hr:rs.length≤100) (hrs:∀ p∈rs,YC p.2=true) (xs:List Int) (hx:xs.length≤100) (a0:Option D) (τ:DS) (G:DH) (me:DS→M D)
  (Xn:me (a0::some (.con (ws.map .str))::some (.con (rs.map row))::τ) G=.ok (.con (xs.map .int)) G):∃ S:List Sp,S.length=xs.length∧(∀ s∈S,s.Ok) ∧
  eFn (cj oN [false,true,true] me (bV) (aq 3 cU (aa (af 0) (aa (af 2) (aa (af 3) (ai)))))) (a0::some (.con (ws.map .str))::some (.con (rs.map row))::τ) G=.ok (.con (S.map (Sp.Q (rs.map (·.2))))) G:=by
 let F:Int→Sp:=λc=>adM (AY c ws h5 hw rs hr hrs)
 have hF:∀ c,(F c).Ok∧∀ G,cU [.int c,.con (ws.map .str),.con (rs.map row)] G=.ok ((F c).Q (rs.map (·.2))) G:=λc=>abu (AY c ws h5 hw rs hr hrs)
 refine ⟨xs.map F,by simp,λs hs=>?_,?_⟩
 ·obtain ⟨c,_,rfl⟩:=YX.mp hs
  exact (hF c).1
 generalize F=F' at hF
 clear F
 have hc:aH ((xs.map F').map (Sp.Q (rs.map (·.2))))=true:=ay (JG _)
 have c1:=bH (τ:=a0::some (.con (ws.map .str))::some (.con (rs.map row))::τ) (G:=G) (gO:=oN) (ks:=[false,true,true]) (te:=aq 3 cU (aa (af 0) (aa (af 2) (aa (af 3) (ai))))) (own:=λd=>[d]) (f:=λd=>match d with | .int c=>(F' c).Q (rs.map (·.2)) | _=>.dP) (xs.map .int) [] (by simp;nofun) (λx _=>rfl) (λx hx acc=>by
  obtain ⟨c,_,rfl⟩:=YX.mp hx
  have e:=(hF c).2 (G++[.lst acc])
  show aq 3 cU (aa (af 0) (aa (af 2) (aa (af 3) (ai)))) (some (.int c)::none::some (.con (ws.map .str))::some (.con (rs.map row))::mask [] τ) _=.ok ((F' c).Q (rs.map (·.2))) _
  generalize (F' c).Q (rs.map (·.2))=q at e
  generalize ws.map D.str=ww at e
  generalize rs.map row=rr at e
  simp [bO,aA,aI,aj,ah,aN,aQ,e])
 have em:((xs.map D.int).map λd=>match d with | .int c=>(F' c).Q (rs.map (·.2)) | _=>.dP)=(xs.map F').map (Sp.Q (rs.map (·.2))):=by rw [YW,YW];rfl
 rw [YT,em] at c1
 rw [bP,← dZ hc,← c1,gD,Xn,aj]
theorem zR (t:T) (ks:List Str) (hk:ks.length=(PP t).length):due (PP t) (ie (PP t) ks [⟨2,"later",.any⟩] (pe (PP t).length))=[]:=by
 obtain ⟨L,h1,_⟩:=ye t
 have hf:∀ q,f9 ((pe (PP t).length).zip (PP t)) 2 q=false:=λq=>by
  rw [h1,pe,Z0]
  have h2:∀ (n:Nat) (L:List (List Int)),f9 ((YV n false).zip L) 2 q=false:=λn L=>by
   unfold f9
   rw [adi]
   rintro ⟨b,p⟩ hm
   have:=(Z9 hm).1
   rw [List.mem_replicate] at this
   rw [this.2];simp
  have h3:bB 2 [] q=false:=by
   show c8 [] q=false
   by_cases hq:q.length=0
   ·rw [ZP.mp hq];rfl
   ·exact jf λz=>hq z.symm
  show ((true&&bB 2 [] q)||f9 ((YV _ false).zip L) 2 q)=false
  rw [h2,h3];rfl
 unfold ie ie rR due
 rw [List.map_eq_nil_iff]
 refine filter_none λx hx=>?_
 have hm:=(Z9 hx).2
 obtain ⟨i,hi⟩:=aaP.mp hm
 rw [abv,YK] at hi
 cases hp:(PP t)[i]? with
 | none=>rw [hp] at hi;cases hi
 | some q=>
  rw [hp] at hi
  cases hb:(Lk.any.tr ks)[i]? with
  | none=>rw [hb] at hi;cases hi
  | some b=>
   rw [hb] at hi
   have:(f9 ((pe (PP t).length).zip (PP t)) 2 q&&b)=x.2:=Zd hi
   rw [← this,hf];rfl
theorem F6 (G:DH):fT false (.con []) (.con []) G=.ok (.bl true) G:=qB false (.con []) G (by simp [D.plain,cY]) (by simp [D.dp,yq])
theorem sum2 (ns:List Int) (hl:ns.length≤63) (τ:DS) (G:DH):∃ c:Int,ak lB (aa (eFn (jo (af 0) (bh (eC (.int 1))) (bh (eC (.int 2))))) (ai)) (some (.con (ns.map .int))::τ) G=.ok (.int c) G:=by
 have e:∃ ms:List Int,ms.length≤ns.length∧cutD (ns.map D.int) (some 1) (some 2)=ms.map .int:=by
  unfold cutD
  rw [← List.map_drop,← ac6]
  exact ⟨_,by rw [aaH,abx];nofun,rfl⟩
 obtain ⟨ms,h1,h2⟩:=e
 have f:=cT (G:=G) (ds:=ms.map D.int) (lz (by rw [YL];nofun)) (ay λ_=>aV)
 have es:yo (.con (ns.map .int)) (some 1) (some 2) G=aS (ms.map .int) G:=by
  unfold yo
  simp only [aD,h2]
 have e1:eFn (jo (af 0) (bh (eC (.int 1))) (bh (eC (.int 2)))) (some (.con (ns.map .int))::τ) G=.ok (.con (ms.map .int)) G:=by
  generalize ns.map D.int=nn at es
  rw [bP,sY,Gf,aj,ah,iC,cJ,aj]
  simp only [kJ,aj,ah,iC,cJ,es,f]
 refine ⟨ms.sum,?_⟩
 simp! [e1,lB,lG]
theorem F7 (ns:List Int) (hl:ns.length≤63):∃ G,Kh [.con (ns.map .int)] [.tab "truths_of"]=.ok (.bl true) G:=by
 obtain ⟨c,e1⟩:=xP ns [none,none,none,none,none,none,none,none,none,none,none,none,none] [.tab "truths_of"]
 obtain ⟨ws,hws,hok,e2⟩:=E8 c [.tab "truths_of"]
 obtain ⟨x0,Ys,Xo,e3⟩:=xQ ns hl 0 (by nofun) [.tab "truths_of"]
 obtain ⟨m,hm1,hm2,e5⟩:=IZ ns [.tab "truths_of"]
 obtain ⟨rs,e,hv,hrl,hrs,e6⟩:=Ja x0 (by nofun) ws hws hok m hm2 [.tab "truths_of"]
 obtain ⟨t,ht1,TL⟩:=Jd hv
 have hpl:t.subs.length≤60:=by rw [← vE 0 t,← ht1];exact hrl
 have hgood:t.good=true:=xS 0 t (by rw [← ht1];exact hrs)
 have hks:rs.map (·.2)=t.subs.map kn:=by rw [ht1];exact FZ 0 t
 have hgd:∀ s∈t.subs.map kn,YC s=true:=λs hs=>by
  rw [← hks] at hs
  obtain ⟨p,hp,rfl⟩:=YX.mp hs
  exact hrs p hp
 obtain ⟨f,R0,e4⟩:=FL t (by nofun) [.tab "truths_of"]
 rw [← ht1] at e4
 have e7:=λG=>Fc rs (by nofun) G
 rw [TL] at e7
 have e8:=Fd t (by nofun) (HL [.tab "truths_of"] f (PP t) R0)
 rw [← ht1,show ((t.prs []).map (·.1)).map pl=(PP t).map pl from rfl] at e8
 have h0:kB (t.subs.map T.d) 0=some t.d:=by
  have:=dQ (xs:=t.subs.map T.d) (j:=0) (v:=t.d) (by cases t;rw [T.subs];rfl)
  simpa using this
 have QH:∀ G,fT false t.d t.d G=.ok (.bl (false ^^ true)) G:=λG=>qB false _ G (rA t hgood) (by have:=Qd t;nofun)
 obtain ⟨x1,Yt,Xp,e9⟩:=xQ ns hl 1 (by nofun) (HL [.tab "truths_of"] f (PP t) R0)
 rw [show (((0:Nat):Int))=0 from rfl] at e3
 rw [show (((1:Nat):Int))=1 from rfl] at e9
 have q9:aq 2 dF (aa (af 0) (aa (eC (.int 1)) (ai))) [some (.con (ns.map .int)),some (.con (ws.map .str)),some (.con (rs.map row)),some (.obj 1),some (.con ((PP t).map pl)),some t.d,none,none,none,none,none,none,none,none] (HL [.tab "truths_of"] f (PP t) R0)=.ok (.con (x1.map .int)) (HL [.tab "truths_of"] f (PP t) R0):=by
  generalize HL [.tab "truths_of"] f (PP t) R0=H at e9
  generalize ns.map D.int=nn at e9
  simp [bO,aA,aI,aj,ah,aN,e9]
 obtain ⟨S,hS,Xq,JO⟩:=F5 ws hws (λs hs=>(hok s hs).1) rs (by nofun) hrs x1 (by nofun) (some (.con (ns.map .int))) [some (.obj 1),some (.con ((PP t).map pl)),some t.d,none,none,none,none,none,none,none,none] (HL [.tab "truths_of"] f (PP t) R0) (aq 2 dF (aa (af 0) (aa (eC (.int 1)) (ai)))) q9
 rw [hks] at JO
 obtain ⟨c2,JP⟩:=sum2 ns hl [some (.con (ws.map .str)),some (.con (rs.map row)),some (.obj 1),some (.con ((PP t).map pl)),some t.d,some (.con (S.map (Sp.Q (t.subs.map kn)))),none,none,none,none,none,none,none] (HL [.tab "truths_of"] f (PP t) R0)
 have TN:=dO c2 45 (by nofun) (by nofun) (HL [.tab "truths_of"] f (PP t) R0)
 have hn:=jQ c2 45
 generalize mx c2 45=v at TN hn
 obtain ⟨b8,b9,NK,vV,NL,NN,R',eL⟩:=yk t hpl hgd S (by nofun) Xq [.tab "truths_of"] rfl f (1+v % 6) (some (.con (ns.map .int))) (some (.con (ws.map .str))) (some (.con (rs.map row))) ((Y9 (ic 0 (S.length:Int) (1+v % 6))).map λ(i:Nat)=>0+(i:Int)*(1+v % 6)) R0 none none none none none none
 have hH:(HL [.tab "truths_of"] f (PP t) R').any (jO "truths_of")=true:=rfl
 have Rl:=(yi t hpl hgd [⟨2,"later",.any⟩] (λs hs=>by rw [Y7.mp hs];exact ⟨rfl,trivial⟩) _ hH).1
 rw [zR t (t.subs.map kn) (by rw [YL,nL]),show (([⟨2,"later",.any⟩]:List Sp).map Sp.D)=[.tup [.str "later",.tup [.str "any"]]] from rfl] at Rl
 have Rm:=e7 (HL [.tab "truths_of"] f (PP t) R0)
 have Rn:=e7 (HL [.tab "truths_of"] f (PP t) R')
 refine ⟨[.tab "truths_of"],?_⟩
 show ck (λds G=>i7 (cI 14 qW ds G)) [.con (ns.map .int)] [.tab "truths_of"]=_
 refine fB (R:=Rk f (R3 1)::.lst ((PP t).map (mk (PP t) 0))::.lst ((PP t).map (mk (PP t) 1))::.lst ((PP t).map (mk (PP t) 2))::R') ?_ rfl
 have eH:([DO.tab "truths_of"]++Rk f (R3 1)::.lst ((PP t).map (mk (PP t) 0))::.lst ((PP t).map (mk (PP t) 1))::.lst ((PP t).map (mk (PP t) 2))::R':DH)=HL [.tab "truths_of"] f (PP t) R':=rfl
 rw [eH]
 rw [show ([DO.tab "truths_of"]:DH).length=1 from rfl] at e4 eL
 rw [YW] at eL
 have ei:((Y9 (ic 0 (S.length:Int) (1+v % 6))).map (D.int∘λ(i:Nat)=>0+(i:Int)*(1+v % 6)))=(Y9 (ic 0 (S.length:Int) (1+v % 6))).map λ(i:Nat)=>D.int (0+(i:Int)*(1+v % 6)):=rfl
 rw [ei] at eL
 have So:(S.map (Sp.Q (t.subs.map kn))).length=S.length:=YL _
 have zS:S.length≤Yx:=lz (by nofun)
 have hfr:=λτ G=>JN (g:=gN 8) (body:=qV) (lo:=0) (c:=1+v % 6) (k:=ic 0 (S.length:Int) (1+v % 6)) (τ:=τ) (G:=G)
 have hr:∀ (τ:DS) (G:DH),τ[6]?=some (some (.con (S.map (Sp.Q (t.subs.map kn)))))→τ[7]?=some (some (.int (1+v % 6)))→nY (aa (eC (.int 0)) (aa (ak cC (aa (af 6) (ai))) (aa (af 7) (ai)))) τ G=.ok (ic 0 (S.length:Int) (1+v % 6)+1,qp 0 (1+v % 6) (ic 0 (S.length:Int) (1+v % 6))) G:=λτ G h6 h7=>by
  have ea:(aa (eC (.int 0)) (aa (ak cC (aa (af 6) (ai))) (aa (af 7) (ai)))) τ G=.ok [.int 0,.int (S.length:Int),.int (1+v % 6)] G:=by
   simp only [aA,aI,cJ,aY,aQ,h6,h7,aj,ah,aN,cC,aD,So]
  rw [Il,ea,aj]
  show (if _ then _ else _)=_
  rw [if_pos ⟨by nofun,by nofun,by nofun,by nofun,by nofun,by nofun⟩]
 generalize (Y9 (ic 0 (S.length:Int) (1+v % 6))).map (λ(i:Nat)=>D.int (0+(i:Int)*(1+v % 6)))=its at eL hfr
 generalize ic 0 (S.length:Int) (1+v % 6)=rn at hr hfr
 have q3:eu [.con (rs.map row)] [.tab "truths_of"]=.ok (.obj 1) (HL [.tab "truths_of"] f (PP t) R0):=e4
 generalize HL [.tab "truths_of"] f (PP t) R0=H0 at q3 e8 JO JP TN Rm eL
 generalize HL [.tab "truths_of"] f (PP t) R'=H1 at Rl Rn eL
 generalize (PP t).map pl=PL at e8 JO JP eL
 generalize S.map (Sp.Q (t.subs.map kn))=SQ at JO JP eL hr
 generalize t.subs.map T.d=TD at Rm Rn h0
 generalize t.d=td at h0 QH JO JP Rl eL
 generalize rs.map row=rr at e6 q3 e8 JO JP Rm Rn eL
 generalize ws.map D.str=ww at e2 e6 JO JP eL
 generalize ns.map D.int=nn at e1 e3 e5 JO JP eL
 generalize hG:([DO.tab "truths_of"]:DH)=GG at *
 have z1:(1:Nat)≤Yx:=lz (by nofun)
 have z2:(2:Nat)≤Yx:=lz (by nofun)
 have n0:(aS [] H1).fw H1=.ok (.con []) H1:=cT (Zq _) rfl
 have r1:∀ k:MS,aG (aJ 1 (aq 1 gI (aa (ak lB (aa (eFn (jo (af 0) (cL) (bh (eC (.int 1))))) (ai))) (ai)))) k [some (.con nn),none,none,none,none,none,none,none,none,none,none,none,none,none] GG=k [some (.con nn),some (.con ww),none,none,none,none,none,none,none,none,none,none,none,none] GG:=λk=>by
  generalize hS:ak lB (aa (eFn (jo (af 0) (cL) (bh (eC (.int 1))))) (ai))=S at e1
  simp! [e1,e2]
 have r2:∀ k:MS,aG (aJ 2 (aq 3 iE (aa (aq 2 dF (aa (af 0) (aa (eC (.int 0)) (ai)))) (aa (af 1) (aa (aq 2 iH (aa (af 0) (aa (eC (.int 36)) (ai)))) (ai)))))) k [some (.con nn),some (.con ww),none,none,none,none,none,none,none,none,none,none,none,none] GG=k [some (.con nn),some (.con ww),some (.con rr),none,none,none,none,none,none,none,none,none,none,none] GG:=λk=>by
  simp! [e3,e5,e6]
 have r3:∀ k:MS,aG (aJ 3 (aq 1 eu (aa (af 2) (ai)))) k [some (.con nn),some (.con ww),some (.con rr),none,none,none,none,none,none,none,none,none,none,none] GG=k [some (.con nn),some (.con ww),some (.con rr),some (.obj 1),none,none,none,none,none,none,none,none,none,none] H0:=λk=>by
  simp! [q3]
 have r4:∀ k:MS,aG (aJ 4 (aq 1 gF (aa (af 2) (ai)))) k [some (.con nn),some (.con ww),some (.con rr),some (.obj 1),none,none,none,none,none,none,none,none,none,none] H0=k [some (.con nn),some (.con ww),some (.con rr),some (.obj 1),some (.con PL),none,none,none,none,none,none,none,none,none] H0:=λk=>by
  simp! [e8]
 have r5:∀ k:MS,aG (aJ 5 (ao bg (aq 1 eg (aa (af 2) (ai))) (eC (.int 0)))) k [some (.con nn),some (.con ww),some (.con rr),some (.obj 1),some (.con PL),none,none,none,none,none,none,none,none,none] H0=k [some (.con nn),some (.con ww),some (.con rr),some (.obj 1),some (.con PL),some td,none,none,none,none,none,none,none,none] H0:=λk=>by
  simp! [Rm,h0]
 have r7:∀ k:MS,aG (aJ 7 (ao aE (eC (.int 1)) (ao eS (aq 2 aC (aa (ak lB (aa (eFn (jo (af 0) (bh (eC (.int 1))) (bh (eC (.int 2))))) (ai))) (aa (eC (.int 45)) (ai)))) (eC (.int 6))))) k [some (.con nn),some (.con ww),some (.con rr),some (.obj 1),some (.con PL),some td,some (.con SQ),none,none,none,none,none,none,none] H0=k [some (.con nn),some (.con ww),some (.con rr),some (.obj 1),some (.con PL),some td,some (.con SQ),some (.int (1+v % 6)),none,none,none,none,none,none] H0:=λk=>by
  generalize hS:ak lB (aa (eFn (jo (af 0) (bh (eC (.int 1))) (bh (eC (.int 2))))) (ai))=S at JP
  simp! [JP,TN]
 have r8:Dp (ao (fT false) (aq 2 iI (aa (af 5) (aa (ak bx (aa (ak bx (aa (eC (.str "later")) (aa (ak bx (aa (eC (.str "any")) (ai))) (ai)))) (ai))) (ai)))) (eFn (ak aS (ai)))) (ao (fT false) (af 5) (ao bg (aq 1 eg (aa (af 2) (ai))) (eC (.int 0)))) [some (.con nn),some (.con ww),some (.con rr),some (.obj 1),some (.con PL),some td,some (.con SQ),some (.int (1+v % 6)),b8,b9,NK,vV,NL,NN] H1=.ok (.bl true) H1:=by
  simp! [Rl,Rn,h0,QH,z1,z2,bP,n0,F6,Dp]
 have TQ:cI 14 qW [.con nn] GG=.ok (.bl true) H1:=by
  rw [f6]
  show (qW [some (.con nn),none,none,none,none,none,none,none,none,none,none,none,none,none] GG).fn=_
  unfold qW zx
  have s6:∀ (a b c d e g h i j k l m n o w:Option D),[a,b,c,d,e,g,h,i,j,k,l,m,n,o].set 6 w=[a,b,c,d,e,g,w,i,j,k,l,m,n,o]:=λ_ _ _ _ _ _ _ _ _ _ _ _ _ _ _=>rfl
  rw [r1,r2,r3,r4,r5,aT,bG,JO,cS,s6,bJ,r7,aT,l5,hr _ _ rfl rfl,iY]
  dsimp only
  rw [hfr,eL,bJ,eU,r8,gx,gz]
 show i7 (cI 14 qW [.con nn] GG)=_
 rw [TQ];rfl
end K33
end
namespace K33
open PySem PySem.Spec L2 L3
theorem walk {l:adV} {qq:Zg} {loose:List Str} {XP:(Str→Option V3)→Heap→Prop} {YP:Zs→Heap→Prop} {d dy:DefRec} {K:Params→Yz} (hn:l.most=some 63) (hdf:d.params.defaults=[]) (hrec:(PyProof.Rows.recsOf qq).find? (λe=>e.name==("truths_of":Str))=some dy)
    (hY:∀ (w:Zs) (h:Heap),YP w h→(K w.params).In h) (hT:∀ w:Zs,abm (K w.params)=true) (hd:d.name="law")
    (F:∀ (w:Zs) (mg:Str→Option V3) (h:Heap),(K w.params).In h→h.Ns mainGlobals mg→mE (K w.params) mg defs∧ja mg Na∧∃ c Pt,Z3 (K w.params) "truths_of"=some (c,Pt)) :
    ac5 qq loose XP YP l.row.toRowW d [] (λf vs=>adZ f vs):=
  EA (n:=63) (k:=8) (x:="_law_script") (y:="truths_of") (CX:=λw=>nU l.prog w) hn (by decide) hdf ⟨rfl,by decide,by decide⟩ hrec hY hT (λw mg fa h KX G hm=>by
    obtain ⟨Td,Tn,c,Pt,ht⟩:=F w mg h KX G
    obtain ⟨f,fd,Fu,hm1⟩:=Td.at 26 rfl
    rw [hd,hm1] at hm;cases hm
    obtain ⟨_,_,Fy,hy⟩:=Td.at 14 rfl
    exact ⟨fd,c,Pt,_,ht,BX Fu (by intro _ _ _ _ _ _;exact EK λ_=>rfl),λbase _ _ hC hB=>Nb (g:=⟨l.prog,w,K w.params,mg,base⟩) ⟨Td,Tn,c,Pt,ht,hC,hB⟩ Fu,λH a ns hl hO hS=>MZ F7 hl ht (ze (k:=kh) Fy hy rfl) hO hS⟩) λ_ _ _ _ _ zz=>by obtain ⟨_,_,_,_,_,_,_,_,z⟩:=zz;exact z
end K33
open PySem PySem.W PyProof.Rows
set_option maxRecDepth 100000 in
set_option maxHeartbeats 0 in
theorem PySem.Challenge.cw_pathshape_k33_ways_without_looks_holds : PySem.Challenge.rw_pathshape_k33_ways_without_looks.Holds := by
  w_on;o_law;z_head;(case hw=>w_witness2)
  k_fill
  refine L3.EY (λP=>rfl) (K33.walk (l:=PySem.Challenge.rw_pathshape_k33_ways_without_looks) rfl rfl rfl (λ_ _ Y=>Y) (λ_=>L3.EV) rfl ?F)
  case F=>
    intro w mg h KX G
    refine ⟨?_,?_,?_⟩
    · delta K33.defs
      repeat (refine' L3.mE.EW KX G ?_ ?_ ?_ ?_ ?_;any_goals exact rfl)
      exact trivial
    · delta K33.Na
      repeat (refine L3.ja.EW KX G ?_ ?_;exact rfl)
      exact trivial
    · refine' ⟨_,_,L3.BZ ?my_t1 ?my_t2 ?my_t3 ?my_t4 ?my_t5⟩
      (case my_t1=>exact rfl)
      (case my_t2=>exact rfl)
      (case my_t3=>exact rfl)
      (case my_t4=>exact rfl)
      (case my_t5=>exact rfl)
