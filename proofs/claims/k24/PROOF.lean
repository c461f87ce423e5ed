import PyProof.Rows.All
import Wide.All
import OpenK.AllK
import Wide.FinOn
import Lean
import PyProof.EqAt
import PyProof.EqKinds
import PyProof.TupleCall
import PyProof.StrWalks
import KE.KTryMore
import PyProof.ZipIter
import PyProof.Rows.Range3
import PyProof.Draws
import PyProof.WalksMore
import PyProof.ExcBaseAll.ValueError
import PyProof.StrReplace2
import PyProof.FactsAll.range_2
import KE.KRevIter
import KE.KNest
import KE.BitLaws
import PySem.Challenge.RW_pathshape_k24_whole_names_by_all_choices
set_option Elab.async false
set_option linter.all false
set_option maxRecDepth 100000
set_option maxHeartbeats 4000000
set_option compiler.extract_closed false
set_option genSizeOf false
set_option genInjectivity false
open Option renaming some->À,none->Å
open List renaming getElem?_eq_some_iff->Á,map_cons->É,getElem?_eq_getElem->Ê,getElem?_set_ne->Í,getElem?_append_left->Î,length_cons->Ñ,getElem?_append_right->Ò,replicate->Ô,getElem?_map->Ö,length_map->Ú,length_append->Û,set_cons_succ->Ü,set_cons_zero->Ý,mem_cons->Þ,size_toArray->ß,nil_append->á,append_assoc->â,getElem?_set->å,range'->ç,mem_singleton->è,mem_map->ê,mem_of_getElem?->ë,mem_append->í,zipWith->ð,map_append->ñ,mem_cons_of_mem->ò,append_nil->ó,getElem?_eq_none->ö,range->ø,dropLast_concat_getLast->û,map_map->ā,eq_nil_of_length_eq_zero->Ă,replicate_succ->ă,getElem?_eq_none_iff->Ą,foldl_cons->ą,lookup_cons->Ć,getElem?_mapIdx->Ĉ,mem_append_right->ċ,length_pos_iff->č,any_eq_true->Đ,ext_getElem?->ē,take_of_length_le->Ĕ,mem_zipIdx_iff_getElem?->ĕ,map_nil->ė,nodup_append->Ę,filter_cons_of_pos->ę,mem_append_left->Ě,filterMap_cons->Ğ,getElem_of_mem->ğ,filter_eq_self->ġ,mem_filter->Ĥ,prefix_append->Ĩ,cons_append->ī,getElem?_cons_succ->Ĭ,flatten_cons->İ,drop_of_length_le->Ĳ,filter_eq_nil_iff->ĳ,take_set_of_le->Ĵ,map_congr_left->ĵ,nodup_cons->ķ,drop_eq_getElem_cons->ĸ,mem_cons_self->ĺ,getElem_inj->Ļ,sum_cons->ľ,take_append_of_le_length->Ł,reverse_cons->Ń,filter_cons_of_neg->ń,mem_range'_1->Ņ,length_nil->ņ,forIn_cons->ň,drop_eq_nil_of_le->ŋ,lookup->Ō,length_drop->ō,take_length->ŏ,find?_cons->Ŗ,getElem?_range->ş,getElem?_replicate->Š,all_eq_true->Ţ,not_mem_nil->ţ,prefix_refl->Ť,getElem?_take->ŧ,pairwise_cons->ũ,length_filter_le->ū,getElem_mem->Ŷ,drop_append->ŷ,mapIdx_cons->Ÿ,append_cancel_left->aaj,getElem?_cons_zero->aak,mem_range->aal,zipWith_cons_cons->aay,take_succ_eq_append_getElem->aaz,flatMap_cons->aaA,drop_zero->aaB,getElem?_toArray->aaE,take_append_drop->aaJ,take_eq_take_iff->aaL,range'_succ->aaN,any_cons->aaO,map_take->aaR,map_drop->aaS,mem_of_mem_take->aa2,mem_of_mem_drop->aa3,mem_filterMap->abj,zip_cons_cons->abo,length_mapIdx->abp,append_of_mem->abq,getElem?_zip_eq_some->abr,length->abw,foldl_append->abC,length_take->abK,pairwise_singleton->abN,length_eq_zero_iff->abO,map_reverse->abP,getElem?_set_self->abQ,any_map->abY,of_mem_zip->ab0,sum_append->ab1,take_left'->ab3,dropLast_eq_take->ab5,getElem?_reverse->ab6,set_append_right->ab7,getElem?_zipWith->acd,singleton_append->ace,range_eq_range'->acj,forIn_nil->ack,getElem?_zipIdx->aco,getElem?_range'->acq,zipWith_append->acv,reverse_append->acw,all_cons->acB,foldl->acE,getElem_range->acF,filter_append->acJ,getElem?_drop->acK,mem_replicate->acL,any_eq_false->acT,reverse_nil->ac3,flatMap_nil->ac4,mem_mapIdx->adf,range_succ->adg
open Bool renaming false->Â,true->Ä,false_ne_true->ï,and_eq_true->Ė,false_eq_true->ħ,true_and->Ľ,eq_iff_iff->Ň,not_true->Ŝ,false_and->Ŭ,and_assoc->ű,false_xor->Ų,not_false->ų,or_eq_true->aa6,and_false->abn,and_true->abH,and_self->abJ,not_eq_true'->acP
open PySem renaming wpAny_bind->Ã,Value->Æ,sizeLine->Ç,Shared->Ì,wpAny_pure->Ó,wpAny->à,starEach->ä,Program->ô,wpAny_field->ù,wpAny_newObj_type->þ,wpAny_mono->ÿ,wpAny_Call_Name_kw->Ā,wpAny_callSpecial?_slot->Ď,World->đ,wpAny_truthy_bool->Ģ,wpAny_call_entry->Ī,wpAny_holding->ĭ,wpAny_seqItems->Ŀ,wpAny_typeNameOfWhole_keyiter->ŀ,wpAny_setField->ő,wpAny_setField_rec->œ,wpAny_passesOwn->ŕ,mem_of_lookup->Ş,wpAny_getItem_str_slice->š,wpAny_pyIter_tuple->Ŧ,wpAny_of_eq->Ű,wpAny_specialOf->aaa,wpAny_pyIter_rangeiter->aam,wpAny_pyIter_list->aar,wpAny_pyIter_enum->aav,wpAny_dictEntries->aaw,wpAny_storeName_local->aaC,Builtin->aaQ,wpAny_pyIter_revIter->aaV,wpAny_updateSeq_pair->aaY,wpAny_execs_nil->aa5,wpAny_newFunctionEnv_cells->abk,wpAny_rule->abm,wpAny_assign_Name->abv,wpAny_letGo->abz,wpAny_comprehension_free->abD,wpAny_attempt->abF,wpAny_onRaise->abG,wpAny_isInstance->abM,wpAny_load->abR,wpAny_pyNext_range_end->abS,wpAny_dictEpoch->ab2,wpAny_isTrue_Compare1->ab4,wpAny_isOneOf_keyiter->ab8,wpAny_newTuple->acm,wpAny_standAt->acz,wpAny_execs_cons->acV,wpAny_Dict_empty->acX,wpAny_pyIter_zip->ac1,wpAny_throw->ac6,wpAny_updateSeq->ac8,wpAny_loadPart'->ac9,wpAny_Name->adh,call->adi
open Nat renaming le_refl->È,lt_of_lt_of_le->Õ,ne_of_lt->ã,zero_le->é,le_trans->ú,succ_pos->ü,lt_irrefl->ģ,zero_add->Ħ,lt_succ_self->Ŏ,mul_le_mul_right->Ŵ,succ_mul->ŵ,mul_le_mul_left->Ž,add_sub_cancel_left->aai,lt_succ_of_lt->aas,le_succ->aaW,pow_le_pow_right->aa0,ne_of_gt->abb,le_of_lt->acM,add_comm->acN,mul_comm->acO,add_zero->acR,pow_succ->acU,le_of_not_lt->acW,succ_ne_self->acY,min_eq_right->ac2,min_eq_left->ade
open PySem.W renaming Frag->Ë,fnOf->ć,keepIn->ď,codeIn->Ő,nsIn->Ũ,excIn->aaP,hideAll->aa4,of_hideAll->abh,methodObj->abu,cellsFrom_some->abT,hideAll_none->acg,exmOne->aci,hideAll_get->acr,WalkO->acA,codeRec_of->acC,callWith_K->acG,OpenLaw->ada,mg_of->adk
open PySem.Heap renaming get?_push_of_some->Ï,get?_push_size->Ø,lt_size->Ù,get?_update_other->ý,get?_update_self->Č,size_push->Ĝ,SameBut->Ř,get?_push_ne->abA,FlyingW->abW,of_hide->abX,ExtBut->ach
open PySem.PyData renaming strOk->Ð,str->Ġ,canLayAll0->ł,depthAll->ŗ,canLay0->ů,eqv->aac,eqvAll->aaT,list->aa1,depth->abf
open Option.some renaming inj->æ
open PyProof.Rows renaming callWith_type1->ì,envOfC->Ŋ,StrsAre->ř,slot_tuple_getitem->ŝ,sortedS->aaZ
open Eq renaming trans->î
open Ne renaming symm->õ
open PySem.Obj renaming mapFields->ĉ,data_mapFields->ě,isFreed_of_fields->Ĺ,mapSeq->ŭ,cls_mapFields->abx
open PySem.Builtin.Range renaming rangeFitsLong->Ċ,rangeSize->ĩ,rangePlace?->Ż
open Int renaming toNat_natCast->Ē,emod_lt_of_pos->Ū,emod_nonneg->aab,zero_add->abZ,le_refl->acp,toNat_of_nonneg->acy,le_trans->acS
open PySem.Builtin.SmallTypes renaming nextOf->ĝ,ownedTupleIsFree->gV
open PySem.F renaming slot_dict_keyiterator_next->ĥ,slot_tuple_iterator_next->Œ,excBase_ValueError->Ů,args_tuple_add_2->ſ,entry_tuple_add->aae,plainAttrs_list->aag,slot_tuple_add->aao,slot_dict_get->aaD,slot_range_reversed->aaH,slot_range_contains->aaI,args_dict_keyiterator_next_1->aaM,entry_dict_keyiterator_next->aaX,args_tuple_iterator_next_1->aa7,slot_zip_next->aa8,entry_tuple_iterator_next->abg,args_dict_get_3->abL,entry_dict_get->abV,plain_reversed_new->acn,slot_list_extend->acH,args_zip_next_1->acQ,slot_dict_iter->acZ,entry_zip_next->ac0,slot_int_rmul->ac7,slot_dict_len->adb
open False renaming elim->Į
open PySem.Str renaming ofString->į,length->acD
open Array renaming getElem?_eq_some_iff->ı,getElem?_eq_getElem->ź,getElem?_eq_none->aaq,length_toList->aba
open List.IsPrefix renaming trans->Ķ
open PySem.Builtin.List renaming listTooLong->ļ,listLengthHint->abd,listExtendWith->abe,listSameRef->abE
open PySem.Builtin.Dict_items renaming ownsTuple->ŉ
open PySem.Builtin.Slice renaming slicePlaces->Ŕ,sliceAdjust->Ź,sliceApplied->abl
open PySem.Builtin.Tuple renaming tupleExact->Ś
open PySem.AutoSeq1 renaming wpAny_loadPart'->ś
open PySem.Calls renaming spliced_cons->ť,spliced_nil->aan,callWith_builtin->aap,evalArgs_plain->aaU,Name_function_global->abi,call_function_entry->abt
open PySem.Heap.SameBut renaming update->ż
open PySem.Paired renaming length->ž
open PySem.Builtin.Str renaming occurrences->aad,glued->abB
open PySem.Txt renaming slice->aaf,slice_le->abc
open Classical renaming propDecidable->aah
open PyProof.Rows.IsTup renaming new->aat,new->adm
open PySem.StrLaws renaming glued_eq_join->aaF
open PySem.W.Frag renaming In->aa9
open PySem.PassesOwn renaming leaving->aby
open Function renaming comp->abI
open True renaming intro->abU
open PySem.Builtin.Dict renaming showsAll->ab9
open Sum.inr renaming inj->acf
open PySem.EntryCells renaming newEntry->acs
open PySem.Builtin.Int renaming intBits->acu
open PySem.ScopeKind renaming function->acI
open PySem.IsRange renaming new->ac5
open PySem.Walks renaming list->adj
open Or renaming inr->adn
local macro_rules|`(∅)=>`(by lia)
local macro_rules|`(‹$x›)=>`(by simpa using $x)
local macro_rules
 | `(tactic| lia)=>`(tactic| first | decide | lia (splits:=9) | omega)
local macro_rules
 | `(tactic| symm)=>`(tactic| decide +kernel)
theorem Α{c:Prop}{_:Decidable c}(h:c){a:Sort u}{t e:a}:ite c t e=t:=if_pos h
theorem Β{c:Prop}{_:Decidable c}(h:¬c){a:Sort u}{t e:a}:ite c t e=e:=if_neg h
section
set_option hygiene false in
local macro_rules
|`(tactic|accm_mu)=>`(tactic|first|exact ü _|exact (Inv.os (by assumption)).2|assumption|lia)
|`(tactic|rfl')=>`(tactic|(exact ok.elim))
|`(tactic|left)=>`(tactic|(rw [e] at ok;exact ok))
|`(tactic|right)=>`(tactic|(refine ⟨τ,ρ,G,ab,?_⟩))
|`(tactic|nofun)=>`(tactic|(dsimp only at ok))
|`(tactic|ac_nf)=>`(tactic|(rw [q] at ok))
|`(tactic|k_go)=>`(tactic|(dsimp only))
|`(tactic|k_in)=>`(tactic|(rw [e] at ok))
|`(tactic|k_is)=>`(tactic|(k_in;intro v H' ρ' f' bf r';obtain ⟨τ2,ρ2,G2,d2,cz,r2,aS⟩:=ok v H' ρ' f' bf r'))
|`(tactic|k_ne)=>`(tactic|(cases e))
|`(tactic|kd_p)=>`(tactic|(rw [g] at ok))
|`(tactic|kt_k)=>`(tactic|(intro pins s σ H Q I h))
|`(tactic|room)=>`(tactic|(obtain ⟨f0,f1,f2,f3,f4,f5⟩:=hf it (by simp)))
|`(tactic|w_up)=>`(tactic|(exact ok))
|`(tactic|x_go)=>`(tactic|(subst e))
|`(tactic|z_go)=>`(tactic|(simpa using this))
|`(tactic|by_in)=>`(tactic|(unfold Rep at r2))
|`(tactic|cb_eq)=>`(tactic|(obtain ⟨τ,ρ,G,ab,ok⟩:=h))
abbrev D1:=List (List Int)
abbrev D2:=List Int
abbrev L9:=List Bool
abbrev N0:=List (PySem.Addr×PySem.Obj)
abbrev P3:=List PySem.Str
abbrev Q1:=List PySem.Addr
abbrev T0:=List (Nat×PySem.Str)
abbrev T1:=Option PySem.Value
abbrev T2:=List PySem.Value
abbrev U2:=List PySem.Expr
abbrev W1:=Array PySem.Value
namespace L2
noncomputable section
open PySem PySem.Spec PyProof.Rows
variable{pins fH:N0}{s s':Ì}{K:Ë}{u:Æ}{x:Str}{P:ô}{b a it:Addr}{w:đ}{A:Around}{t' i n tk j:Nat}{Q E:Æ->Ì->Prop}{us its:List Æ}{h base:Heap}{mg:Str->Option Æ}{ch:Q1}{ps N:P3}{fd:FuncData}{tg e c iter:Expr}{g:Int->Int->Int}{body:List Stmt}{es:U2}{f:Æ->Æ->Sem Æ}{op:CmpOp}{C:Int->Int->Prop}{g':Array GenState}{vs:Array Æ}{p:Addr×Obj}{sc:Scope}{β α:Type}{k':Bool}{pos' pos:Pos}{lo hi:Int}
abbrev Key:=Sum Int Str
def sR:Key->Æ->Bool
 |.inl k,v=>Value.isInt k v
 |.inr x,v=>Value.isStrOf x v
def VE(w:đ):Key->Int
 |.inl k=>hashInt k
 |.inr x=>hashStr w x
theorem cU:∀{k:Key}{v:Æ},sR k v=Ä->(∃i t,k=Sum.inl i/\v=Value.int i t)\/(∃x t,k=Sum.inr x/\v=Value.str x t)
 |.inl i,v,h=>by obtain⟨t,e⟩:=Value.isInt_shape (k:=i) (v:=v) h;exact .inl ⟨i,t,rfl,e⟩
 |.inr x,v,h=>by obtain⟨t,e⟩:=Value.isStrOf_shape (x:=x) (v:=v) h;exact .inr ⟨x,t,rfl,e⟩
theorem Ew(i:Int)(t:Tok):sR (.inl i) (.int i t)=Ä:=by simp[sR,Value.isInt]
theorem Ex(x:Str)(t:Tok):sR (.inr x) (.str x t)=Ä:=by simp[sR,Value.isStrOf]
theorem Od(a b:Int):decide ((Sum.inl a:Key)=Sum.inl b)=(a==b):=by
 by_cases e:a=b
 ·x_go;simp
 ·have h:¬ (Sum.inl a:Key)=Sum.inl b:=λq=>e (Sum.inl.inj q);rw[decide_eq_false h];exact(beq_eq_false_iff_ne.mpr e).symm
theorem Oe(a b:Str):decide ((Sum.inr a:Key)=Sum.inr b)=decide (a=b):=by
 by_cases e:a=b
 ·x_go;simp
 ·have h:¬ (Sum.inr a:Key)=Sum.inr b:=λq=>e (acf q);rw[decide_eq_false h,decide_eq_false e]
theorem Of(a:Int)(b:Str):decide ((Sum.inl a:Key)=Sum.inr b)=Â:=decide_eq_false (λq=>nomatch q)
theorem Og(a:Str)(b:Int):decide ((Sum.inr a:Key)=Sum.inl b)=Â:=decide_eq_false (λq=>nomatch q)
def cF(prog:ô)(w:đ):PySem.KeyKind prog w Key where
 is:=sR
 hash:=VE w
 inj:=λv a b m l=>by
  rcases cU m with⟨i,t,rfl,rfl⟩|⟨x,t,rfl,rfl⟩
  ·rcases cU l with⟨j,u,rfl,e⟩|⟨y,u,rfl,e⟩
   ·injection e with e1 _;rw[e1]
   ·exact nomatch e
  ·rcases cU l with⟨j,u,rfl,e⟩|⟨y,u,rfl,e⟩
   ·exact nomatch e
   ·injection e with e1 _;rw[e1]
 byValue:=λk v h=>by rcases cU h with⟨i,t,rfl,rfl⟩|⟨x,t,rfl,rfl⟩<;>rfl
 pyHash:=λd h=>by
  rcases cU d with⟨i,t,rfl,rfl⟩|⟨x,t,rfl,rfl⟩
  ·exact wpAny_pyHash_int h
  ·exact wpAny_pyHash_str h
 eqBool:=λo d h=>by
  rcases cU o with⟨i,t,rfl,rfl⟩|⟨x,t,rfl,rfl⟩
  ·rcases cU d with⟨j,u,rfl,rfl⟩|⟨y,u,rfl,rfl⟩
   ·rw[Od]at h;exact wpAny_eqBool_int h
   ·rw[Of]at h;exact SeqAt.EqAt.int_str i t y u _ _ _ _ h
  ·rcases cU d with⟨j,u,rfl,rfl⟩|⟨y,u,rfl,rfl⟩
   ·rw[Og]at h;exact SeqAt.EqAt.str_int x t j u _ _ _ _ h
   ·rw[Oe]at h;exact wpAny_eqBool_str h
 «strs»:=λk x t v h=>by
  rcases cU h with⟨i,u,rfl,e⟩|⟨y,u,rfl,e⟩
  ·exact nomatch e
  ·injection e with e1 _;subst e1;cases v<;>rfl
theorem zy(prog:ô)(w:đ)(i:Int)(t:Tok):(cF prog w).is (.inl i) (.int i t)=Ä:=Ew i t
theorem zz(prog:ô)(w:đ)(x:Str)(t:Tok):(cF prog w).is (.inr x) (.str x t)=Ä:=Ex x t
inductive V where
 |bw|bl (b:Bool)|int (i:Int)|str (x:Str)|Sm (b:Array UInt8)|VF (b:UInt64)|ref (a:Addr)|ty (n:String)
 deriving DecidableEq
abbrev X1:=List V
variable{v y:V}{xs:X1}
def RelV:V->Æ->Prop
 |.bw,u=>u=Value.none
 |.bl b,u=>u=Value.bool b
 |.int i,u=>∃t,u=Value.int i t
 |.str x,u=>∃t,u=Value.str x t
 |.Sm b,u=>∃t,u=Value.bytes b t
 |.VF b,u=>∃t,u=Value.float b t
 |.ref a,u=>u=Value.ref a
 |.ty n,u=>u=Value.type n
abbrev Vals:X1->List Æ->Prop:=Paired RelV
theorem Vals.length(r:Vals xs us):xs.length=us.length:=ž r
theorem Vals.get:∀{xs:X1}{us:List Æ}{i:Nat}{x:V},Vals xs us->xs[i]?=À x->∃u,us[i]?=À u/\RelV x u
 |_,_,_,_,.nil,e=>by simp at e
 |_,_,0,_,.cons r _,e=>by simp at e;x_go;exact⟨_,rfl,r⟩
 |_,_,i+1,x,.cons _ t,e=>by obtain⟨u,d,k⟩:=Vals.get (i:=i) (x:=x) t ‹e›;exact⟨u,‹d›,k⟩
theorem Vals.set{x:V}(r:RelV x u):∀{xs:X1}{us:List Æ}(i:Nat),Vals xs us->Vals (xs.set i x) (us.set i u)
 |_,_,_,.nil=>.nil
 |_,_,0,.cons _ t=>.cons r t
 |_,_,i+1,.cons q t=>.cons q (Vals.set r i t)
theorem Vals.append:∀{xs ys:X1}{us d:List Æ},Vals xs us->Vals ys d->Vals (xs++ys) (us++d)
 |_,_,_,_,.nil,s=>s
 |_,_,_,_,.cons r t,s=>.cons r (Vals.append t s)
theorem Vals.take:∀{xs:X1}{us:List Æ}(n:Nat),Vals xs us->Vals (xs.take n) (us.take n)
 |_,_,0,_=>.nil
 |_,_,_+1,.nil=>.nil
 |_,_,n+1,.cons r t=>.cons r (Vals.take n t)
theorem Vals.drop:∀{xs:X1}{us:List Æ}(n:Nat),Vals xs us->Vals (xs.drop n) (us.drop n)
 |_,_,0,r=>r
 |_,_,_+1,.nil=>.nil
 |_,_,n+1,.cons _ t=>Vals.drop n t
def rT:Option V->Option Æ->Prop
 |some v,À u=>RelV v u
 |none,Å=>True
 |_,_=>False
def KV{d:Type}:List (d×V)->List (d×Æ)->Prop:=Paired λ(p:d×V)(q:d×Æ)=>p.1=q.1/\RelV p.2 q.2
def kV:Key->V
 |.inl i=>.int i
 |.inr x=>.str x
inductive HO where
 |lst (xs:X1)
 |tup (xs:X1)
 |dK (kvs:List (Key×V))|dT (kvs:List (List Key×V))
 |set (S:Int->Bool) (n:Nat)
 |ins (C dx:Addr) (fs:List (Str×V))
 |own (x:Addr)
 |xd (fs:List (Str×V))
 |met (f x:Addr)
 |Ey (lo hi:Int)
 |eU (o:Obj) (u:HO)
 |rV (ps:Array Æ)
 |ext (φ:Heap->Prop)
variable{o:HO}
abbrev Hp:=Addr->Option HO
variable{H:Hp}
def upd(H:Hp)(a:Addr)(o:HO):Hp:=λb=>if b=a then À o else H b
theorem bL:upd H a o a=À o:=by unfold upd;rw[Α rfl]
theorem aK(h:b≠a):upd H a o b=H b:=by unfold upd;rw[Β h]
theorem eY{u:HO}(h:H a=À o)(h':H b=À u)(d:o≠u):a≠b:=by intro e;x_go;rw[h]at h';exact d (æ h')
theorem cQ(h:H a=À o)(h':H b=Å):a≠b:=by intro e;x_go;rw[h]at h';cases h'
section
variable(P:ô)(w:đ)
def d9(H:Hp)(h:Heap)(a:Addr):HO->Prop
 |.lst xs=>xs.length<=Ç/\∃(its:List Æ)(n:Nat),Vals xs its/\h.get? a=À {cls:=.type "list",data:=.seq its.toArray n}
 |.tup xs=>xs.length<=Ç/\∃its:List Æ,Vals xs its/\IsTup h a its.toArray
 |.dK kvs=>kvs.length<=Ç/\(a==sysModules)=Â/\∃vs,KV kvs vs/\h.DictOf (cF P w) a vs
 |.dT kvs=>kvs.length<=Ç/\(a==sysModules)=Â/\∃xs:List (List Key×Addr×Æ),
   Paired (λ(p:List Key×V)(q:List Key×Addr×Æ)=>p.1=q.1/\H q.2.1=À (.tup (p.1.map kV))/\RelV p.2 q.2.2) kvs xs /\
   ∃o es ep,h.get? a=À o/\o.ExactDict/\o.data=.dict es ep/\es.toList=xs.map (entryOfKey (tupleKind (cF P w)))/\(xs.map (·.1)).Nodup
 |.set S n=>h.SetOf (intKind P w) a S n
 |.ins C k d=>H k=À (.own a)/\d.length<=1000/\k≠a/\h.get? a=À (PySem.W.instObj C k) /\
   ∃m,h.Ns1 k m/\(∀f,rT (d.lookup f) (m f))/\PySem.Within m (d.map (·.1))
 |.own _=>∃o,h.get? a=À o
 |.xd d=>∃m,h.Ns1 a m/\∀f,rT (d.lookup f) (m f)
 |.Ey lo hi=>∃t u v,h.get? a=À {cls:=.type "range",data:=.fields #[.int lo t,.int hi u,.int 1 v]}
 |.eU o u=>h.get? a=À o/\d9 H h a u
 |.rV ps=>h.get? a=À {cls:=.none,data:=.fields ps}
 |.met f x=>h.get? a=À (abu (.ref f) (.ref x))
 |.ext l=>l h/\(∃o,h.get? a=À o)/\∀z r:Heap,l z->(∀o,z.get? a=À o->r.get? a=À o)->l r
def lR(H:Hp)(h:Heap):Prop:=∀a o,H a=À o->d9 P w H h a o
end
section
variable{H':Hp}{h':Heap}
theorem d9.lt(x:d9 P w H h a o):a<h.objs.size:=by
 cases o with
 |lst xs=>obtain⟨_,_,_,_,e⟩:=x;exact Ù e
 |tup xs=>obtain⟨_,_,_,p⟩:=x;exact p.lt
 |dK kvs=>obtain⟨_,_,_,_,o,_,_,e,_⟩:=x;exact Ù e
 |dT kvs=>obtain⟨_,_,_,_,o,_,_,e,_⟩:=x;exact Ù e
 |set S n=>obtain⟨o,_,_,_,e,_⟩:=x;exact Ù e
 |ins C k d=>obtain⟨_,_,_,e,_⟩:=x;exact Ù e
 |own y=>obtain⟨_,e⟩:=x;exact Ù e
 |xd d=>obtain⟨_,⟨_,_,_,e,_⟩,_⟩:=x;exact Ù e
 |Ey m q=>obtain⟨_,_,_,e⟩:=x;exact Ù e
 |eU t u=>obtain⟨e,_⟩:=x;exact Ù e
 |rV l=>exact Ù (show h.get? a=À _ from x)
 |met f y=>exact Ù (show h.get? a=À _ from x)
 |ext r=>obtain⟨_,⟨_,e⟩,_⟩:=x;exact Ù e
theorem Paired.Oh{F G:α->β->Prop}:∀{l:List α}{d:List β},Paired F l d->(∀a b,F a b->G a b)->Paired G l d
 |_,_,.nil,_=>.nil
 |_,_,.cons r t,f=>.cons (f _ _ r) (Paired.Oh t f)
theorem d9.stay(x:d9 P w H h a o)(k:∀b u,(b=a\/H b=À (.own a))->h.get? b=À u->h'.get? b=À u)
  (L:∀b,H b=À (.own a)->H' b=À (.own a)) (J:∀b xs,H b=À (.tup xs)->H' b=À (.tup xs)):d9 P w H' h' a o:=by
 induction o with
 |lst xs=>obtain⟨z,m,n,r,e⟩:=x;exact⟨z,m,n,r,k _ _ (.inl rfl) e⟩
 |tup xs=>obtain⟨z,m,r,l,e,c⟩:=x;exact⟨z,m,r,l,k _ _ (.inl rfl) e,c⟩
 |dK kvs=>obtain⟨z,y,vs,r,l,es,ep,e,c⟩:=x;exact⟨z,y,vs,r,l,es,ep,k _ _ (.inl rfl) e,c⟩
 |dT kvs=>obtain⟨z,y,xs,r,l,es,ep,e,c⟩:=x;exact⟨z,y,xs,Paired.Oh r λp q z=>⟨z.1,J _ _ z.2.1,z.2.2⟩,l,es,ep,k _ _ (.inl rfl) e,c⟩
 |set S n=>obtain⟨l,es,ep,t,e,c⟩:=x;exact⟨l,es,ep,t,k _ _ (.inl rfl) e,c⟩
 |ins C O G=>obtain⟨d,z,I,e,B,⟨D,es,ep,M,c⟩,r⟩:=x;exact⟨L _ d,z,I,k _ _ (.inl rfl) e,B,⟨D,es,ep,k _ _ (.inr d) M,c⟩,r⟩
 |own y=>obtain⟨l,e⟩:=x;exact⟨l,k _ _ (.inl rfl) e⟩
 |xd G=>obtain⟨B,⟨D,es,ep,e,c⟩,r⟩:=x;exact⟨B,⟨D,es,ep,k _ _ (.inl rfl) e,c⟩,r⟩
 |Ey R T=>obtain⟨t,u,v,e⟩:=x;exact⟨t,u,v,k _ _ (.inl rfl) e⟩
 |eU l u F=>obtain⟨e,q⟩:=x;exact⟨k _ _ (.inl rfl) e,F q⟩
 |rV ps=>have e:h.get? a=À {cls:=.none,data:=.fields ps}:=x;show h'.get? a=À {cls:=.none,data:=.fields ps};exact k a _ (.inl rfl) e
 |met f y=>have e:h.get? a=À (abu (.ref f) (.ref y)):=x;show h'.get? a=À (abu (.ref f) (.ref y));exact k a _ (.inl rfl) e
 |ext U=>obtain⟨p,⟨o,e⟩,st⟩:=x;exact⟨st _ _ p λo q=>k _ _ (.inl rfl) q,⟨o,k _ _ (.inl rfl) e⟩,st⟩
theorem lR.lt(x:lR P w H h)(e:H a=À o):a<h.objs.size:=(x a o e).lt
theorem lR.fresh(x:lR P w H h)(e:h.objs.size<=a):H a=Å:=by
 cases q:H a with
 |none=>rfl
 |some u=>exact absurd (Õ (x.lt q) e) (ģ _)
theorem lR.kept(x:lR P w H h)(k:∀b u,h.get? b=À u->h'.get? b=À u):lR P w H h':=λa o e=>
 (x a o e).stay (λb u _ q=>k b u q) (λ_ q=>q) λ_ _ q=>q
theorem lR.laid(x:lR P w H h)(k:∀b u,h.get? b=À u->h'.get? b=À u)(r:h.objs.size<=a)(d:d9 P w (upd H a o) h' a o):lR P w (upd H a o) h':=λb u e=>by
 have l:=x.fresh r;by_cases m:b=a
 ·subst m;rw[bL]at e;k_ne;exact d
 ·rw[aK m]at e;exact(x b u e).stay (λc v _ q=>k c v q) (λc q=>by rw[aK (cQ q l)];exact q) λc xs q=>by rw[aK (cQ q l)];exact q
end
def Rd(H:Hp)(a:Addr)(u:HO):Prop:=H a=À u\/∃o,H a=À (.eU o u)
theorem Rd.of{u:HO}(h:H a=À u):Rd H a u:=.inl h
theorem Rd.ok{u:HO}(r:Rd H a u)(x:lR P w H h):d9 P w H h a u:=by
 rcases r with r|⟨o,r⟩
 ·exact x a u r
 ·obtain⟨_,q⟩:=x a _ r;exact q
def Sn:Option HO->Prop
 |some (.lst _)=>True
 |some (.dK _)=>True
 |some (.dT _)=>True
 |some (.set _ _)=>True
 |some (.ins _ _ _)=>True
 |some (.ext _)=>True
 |_=>False
section
variable{h':Heap}{x e:Addr}{o':HO}
theorem lR.write(G:lR P w H h)(m:Sn (H x))(D:e=x\/H e=À (.own x))(k:∀b u,b≠e->h.get? b=À u->h'.get? b=À u)(R:∃u,h'.get? e=À u)
  (B:d9 P w (upd H x o') h' x o'):lR P w (upd H x o') h':=λb u q=>by
 have S:∀c y,H c=À (.own y)->c≠x:=λc y r z=>by subst z;rw[r]at m;exact m
 have V:∀c xs,H c=À (.tup xs)->c≠x:=λc xs r z=>by subst z;rw[r]at m;exact m
 by_cases t:b=x
 ·subst t;rw[bL]at q;cases q;exact B
 ·rw[aK t]at q;by_cases l:b=e
  ·have F:H b=À (.own x):=by
    rcases D with z|z
    ·exact absurd (l.trans z) t
    ·rw[l];exact z
   rw[q]at F;cases F;obtain⟨v,I⟩:=R;exact⟨v,by rw[l];exact I⟩
  ·refine(G b u q).stay (λc v d r=>k c v ?_ r) (λc r=>by rw[aK (S c b r)];exact r) λc xs r=>by rw[aK (V c xs r)];exact r
   rcases d with rfl|d
   ·exact l
   ·rintro rfl;rcases D with z|z
    ·exact S c b d z
    ·rw[d]at z;cases z;exact t rfl
end
structure Un(fs ex:Q1)(H H':Hp)(h h':Heap):Prop where
 keep:∀b o,h.get? b=À o->H b=Å->b∉fs->b∉ex->h'.get? b=À o
 slot:∀b o,h.get? b=À o->H b=Å->b∈fs->b∉ex->∃sl,h'.get? b=À {o with slots:=sl}
 free:∀b o,h.get? b=À o->H b=Å->b∉ex->H' b=Å
 there:∀b o,h.get? b=À o->b∉ex->∃o',h'.get? b=À o'
 tups:∀b xs,H b=À (.tup xs)->H' b=À (.tup xs)
 lS:∀b o u,H b=À (.eU o u)->H' b=À (.eU o u)
 nQ:∀b ps,H b=À (.rV ps)->∃more,H' b=À (.rV (ps++more))
section
variable{fs fs' ex ex':Q1}{H1 H2:Hp}{h1 h2 h':Heap}{x e:Addr}
theorem Un.any(u:Un fs ex H H1 h h1){b:Addr}{ob:Obj}(q:h.get? b=À ob)(n:H b=Å)(k:b∉ex):∃sl,h1.get? b=À {ob with slots:=sl}:=by
 by_cases d:b∈fs
 ·exact u.slot b ob q n d k
 ·exact⟨ob.slots,u.keep b ob q n d k⟩
theorem Un.kept(k:∀b u,h.get? b=À u->h'.get? b=À u):Un fs ex H H h h':=
 ⟨λb d q _ _ _=>k b d q,λb d q _ _ _=>⟨d.slots,k b d q⟩,λ_ _ _ n _=>n,λb d q _=>⟨d,k b d q⟩,λ_ _ q=>q,λ_ _ _ q=>q,λ_ l q=>⟨#[],by rw[q];simp⟩⟩
theorem Un.refl:Un fs ex H H h h:=Un.kept λ_ _ q=>q
theorem Un.laid(k:∀b u,h.get? b=À u->h'.get? b=À u)(l:h.objs.size<=a)(d:H a=Å):Un fs ex H (upd H a o) h h' where
 keep:=λb u q _ _ _=>k b u q
 slot:=λb u q _ _ _=>⟨u.slots,k b u q⟩
 free:=λb u q n _=>by rw[aK (ã (Õ (Ù q) l))];exact n
 there:=λb u q _=>⟨u,k b u q⟩
 tups:=λb xs q=>by rw[aK (cQ q d)];exact q
 lS:=λb u xs q=>by rw[aK (cQ q d)];exact q
 nQ:=λb m q=>⟨#[],by rw[aK (cQ q d),q];simp⟩
theorem Un.write(m:Sn (H x))(D:e=x\/H e=À (.own x))(k:∀b u,b≠e->h.get? b=À u->h'.get? b=À u)(R:∃u,h'.get? e=À u):Un fs ex H (upd H x o) h h':=by
 have t:∀b,H b=Å->b≠x:=λb n z=>by subst z;rw[n]at m;exact m
 have B:∀b,H b=Å->b≠e:=λb n z=>by
  subst z;rcases D with r|r
  ·exact t b n r
  ·rw[n]at r;cases r
 have d:∀b u,H b=À u->¬ Sn (À u)->b≠x:=λb u q nm z=>by subst z;rw[q]at m;exact nm m
 refine⟨λb u q n _ _=>k b u (B b n) q,λb u q n _ _=>⟨u.slots,k b u (B b n) q⟩,λb u q n _=>by rw[aK (t b n)];exact n,λb u q _=>?_,
  λb xs q=>by rw[aK (d b _ q λz=>z)];exact q,λb u xs q=>by rw[aK (d b _ q λz=>z)];exact q,λb F q=>⟨#[],by rw[aK (d b _ q λz=>z),q];simp⟩⟩
 by_cases l:b=e
 ·subst l;exact R
 ·exact⟨u,k b u l q⟩
end
def Va(h:Heap)(H:Hp):Q1:=(ø h.objs.size).filter λa=>(H a).isSome
def x8(h:Heap)(H:Hp):Heap:=aa4 h (Va h H)
theorem Ez(h:Heap)(H:Hp):(x8 h H).objs.size=h.objs.size:=PySem.W.hideAll_size _ _
theorem Gx{o:Obj}(e:h.get? b=À o)(n:H b=Å):(x8 h H).get? b=À o:=
 acr _ e λd=>by have q:(H b).isSome=Ä:=(Ĥ.mp d).2;rw[n]at q;simp at q
theorem KJ{o:Obj}(e:(x8 h H).get? b=À o):h.get? b=À o/\H b=Å:=by
 have d:h.get? b=À o:=abh (Va h H) e;refine⟨d,?_⟩;cases q:H b with
 |none=>rfl
 |some x=>have k:b∈Va h H:=Ĥ.mpr ⟨aal.mpr (Ù d),by simp[q]⟩;have z:(x8 h H).get? b=Å:=acg (Va h H) k;rw[z]at e;k_ne
structure Mod(K:Ë)(mg:Str->Option Æ)(base:Heap):Prop where
 RQ:K.In base
 glob:base.Ns mainGlobals mg
 blt:∃mb,base.Ns builtinsNs mb/\∀x:Str,x≠"__name__"->mb x=bootBuiltins x
 nolimit:base.NoLimit
structure Cx where
 prog:ô
 w:đ
 K:Ë
 mg:Str->Option Æ
 base:Heap
 A:Around
 N:P3
 s₀:Ì
 H₀:Hp
 env:Env
 outer:List Env
 stack:List Env
 ex:Q1
 fn:Str->Bool
 calm:Bool
 pn:N0
 xe:Æ->Ì->Prop
variable{X:Cx}
def frs(l:List Env):Q1:=l.filterMap (·.frame)
abbrev Cx.fs(X:Cx):Q1:=frs X.outer
def Gy(d:Scope)(x:Str):Prop:=d.names.lookup x=À .local\/d.names.lookup x=À .cell\/d.names.lookup x=À .free
def Loc(d:Scope)(x:Str):Prop:=d.names.lookup x=À .local\/d.names.lookup x=À .cell
def Look(env:Env)(h:Heap)(m:Str->Option Æ)(x:Str)(u:Æ):Prop:=
 (env.kindOf x=À .local/\m x=À u)\/((env.kindOf x=À .cell\/env.kindOf x=À .free)/\∃c,env.cells.lookup x=À c/\h.IsCell c (À u))
structure Cx.Ok(X:Cx):Prop where
 mod:Mod X.K X.mg X.base
 kind:X.env.scope.kind=.function
 glob:X.env.globals=mainGlobals
 blt:X.env.builtins=builtinsNs
 above:X.s₀.heap.objs.size<=X.env.locals
 inj:∀x y c,X.env.cells.lookup x=À c->X.env.cells.lookup y=À c->x=y
 has:∀x,(X.env.kindOf x=À .cell\/X.env.kindOf x=À .free)->∃c,X.env.cells.lookup x=À c
 RT:∀x c,X.fn x=Ä->X.env.cells.lookup x=À c->X.s₀.heap.objs.size<=c
 hd:X.calm=Ä->X.A.handled=Å
 frames:X.A.frames=À X.stack
 stk:X.stack=X.outer\/(X.stack=X.env::X.outer/\X.env.frame=À X.env.locals)
 VH:∀b∈X.ex,b≠X.env.locals/\∀x c,X.env.cells.lookup x=À c->c≠b
 bs:∀b o,X.base.get? b=À o->X.s₀.heap.get? b=À o/\X.H₀ b=Å
 Nk:X.base.objs.size<=X.s₀.heap.objs.size
 EA:∀b o,X.base.get? b=À o->b∉X.ex
 EB:∀b∈X.ex,b∉X.fs
 qw:X.s₀.heap.FunFrames X.base X.outer
 Nl:∀b∈X.fs,X.H₀ b=Å
structure Inv(X:Cx)(pins:N0)(σ:List (Option V))(H:Hp)(s:Ì):Prop where
 ok:X.Ok
 os:s.os=X.s₀.os/\0<s.toks
 bare:AllBare s.gens
 base:Un X.fs X.ex X.H₀ H X.s₀.heap s.heap
 loc:∃m,s.heap.Ns X.env.locals m/\∀(i:Nat)(x:Str)(v:V),X.N[i]?=À x->σ[i]?=À (À v)->Gy X.env.scope x->∃u,RelV v u/\Look X.env s.heap m x u
 cell:∀x c,X.env.cells.lookup x=À c->∃v,s.heap.IsCell c v
 free:H X.env.locals=Å
 jz:∀x c,X.env.cells.lookup x=À c->H c=Å\/(X.fn x=Â/\∃o u,H c=À (.eU o u))
 pin:∀p∈X.pn++pins,s.heap.get? p.1=À p.2/\H p.1=Å/\p.1≠X.env.locals/\p.1∉X.fs/\∀v,p.2.data≠.cell v
 hok:lR X.prog X.w H s.heap
 len:σ.length=X.N.length
section
variable{σ:List (Option V)}{H':Hp}{h':Heap}
theorem Cx.Ok.VI(d:X.Ok){b:Addr}{o:Obj}(e:X.base.get? b=À o):b∉X.fs:=λk=>by have:=(d.qw.mem k).1;rw[e]at this;cases this
theorem Inv.bs(I:Inv X pins σ H s):∀b o,X.base.get? b=À o->s.heap.get? b=À o/\H b=Å:=λb o e=>
 ⟨I.base.keep b o (I.ok.bs b o e).1 (I.ok.bs b o e).2 (I.ok.VI e) (I.ok.EA b o e),I.base.free b o (I.ok.bs b o e).1 (I.ok.bs b o e).2 (I.ok.EA b o e)⟩
theorem Inv.bk(I:Inv X pins σ H s):∀b o,X.base.get? b=À o->s.heap.get? b=À o:=λb o e=>(I.bs b o e).1
theorem Inv.mod(I:Inv X pins σ H s):Mod X.K X.mg X.base:=I.ok.mod
theorem Inv.Nm(I:Inv X pins σ H s):X.K.In s.heap:=I.ok.mod.RQ.keeps I.bk
theorem Inv.lt(I:Inv X pins σ H s):X.env.locals<s.heap.objs.size:=let ⟨_,d,_⟩:=I.loc;d.lt
theorem Inv.sz(I:Inv X pins σ H s):X.s₀.heap.objs.size<=s.heap.objs.size:=ú I.ok.above (acM I.lt)
theorem Inv.VJ(I:Inv X pins σ H s){a:Addr}(h:s.heap.objs.size<=a):a∉X.fs:=λk=>by obtain⟨_,o,d,_⟩:=I.ok.qw.mem k;exact absurd (Õ (Ù d) (ú I.sz h)) (ģ _)
theorem Inv.Ku(I:Inv X pins σ H s):∀x c,X.env.cells.lookup x=À c->c≠X.env.locals:=λx c e z=>by obtain⟨v,o,l,q⟩:=I.cell x c e;obtain⟨m,⟨r,es,ep,k,d,_⟩,_⟩:=I.loc;rw[z,k]at l;cases l;rw[d]at q;cases q
theorem Inv.qw(I:Inv X pins σ H s):s.heap.FunFrames X.base X.outer:=by
 have q:∀(l:List Env),(∀b∈frs l,b∈X.fs)->X.s₀.heap.FunFrames X.base l->s.heap.FunFrames X.base l:=by
  intro l
  induction l with
  |nil=>intro _ _;trivial
  |cons env r F=>intro t J;obtain⟨M,⟨L,o,m,G,B,O⟩,D⟩:=J;have d:L∈X.fs:=t L (by unfold frs;rw[Ğ,m];exact ĺ);obtain⟨R,e⟩:=I.base.slot L o B (I.ok.Nl L d) d λz=>I.ok.EB L z d;exact⟨M,⟨L,_,m,G,e,O⟩,F (λb k=>t b (by unfold frs;rw[Ğ,m];exact ò _ k)) D⟩
 exact q X.outer (λ_ k=>k) I.ok.qw
theorem Inv.stack(I:Inv X pins σ H s):s.heap.FunFrames X.base X.stack:=by
 rcases I.ok.stk with e|⟨e,d⟩
 ·rw[e];exact I.qw
 ·rw[e];obtain⟨m,k,_⟩:=I.loc;refine .cons (by rw[I.ok.kind];decide) d k ?_ I.qw;exact Heap.get?_none_of_le (ú I.ok.Nk I.ok.above)
theorem Inv.kF(I:Inv X pins σ H s):∀b∈frs X.stack,b∈X.env.locals::X.fs:=λb d=>by
 rcases I.ok.stk with e|⟨e,k⟩
 ·rw[e]at d;exact ò _ d
 ·rw[e]at d;unfold frs at d;rw[Ğ,k]at d;exact d
theorem Inv.oQ(I:Inv X pins σ H s):∀b∈frs X.stack,H b=Å:=λb d=>by
 rcases Þ.mp (I.kF b d)with e|d
 ·rw[e];exact I.free
 ·obtain⟨_,o,k,_⟩:=I.ok.qw.mem d;exact I.base.free b o k (I.ok.Nl b d) λz=>I.ok.EB b z d
theorem Inv.step{g':Array GenState}{t':Nat}{d':Drawn}(I:Inv X pins σ H s)
  (G:∀b∈ch,(b∈X.ex\/X.s₀.heap.objs.size<=b)/\b≠X.env.locals/\(∀x c,X.env.cells.lookup x=À c->c≠b)/\∀p∈X.pn++pins,p.1≠b)
  (F:∀b o,b≠X.env.locals->b∉X.fs->b∉ch->s.heap.get? b=À o->H b=Å->h'.get? b=À o)
  (L:∀b o,b≠X.env.locals->b∈X.fs->b∉ch->s.heap.get? b=À o->H b=Å->∃sl,h'.get? b=À {o with slots:=sl}) (B:∀b o,b∉ch->s.heap.get? b=À o->H b=Å->H' b=Å)
  (O:∀b o,b∉ch->s.heap.get? b=À o->∃R,h'.get? b=À R)
  (U:∀b xs,H b=À (.tup xs)->H' b=À (.tup xs)) (lS:∀b o u,H b=À (.eU o u)->H' b=À (.eU o u)) (nQ:∀b Y,H b=À (.rV Y)->∃T,H' b=À (.rV (Y++T)))
  (ns:∀m,s.heap.Ns X.env.locals m->h'.Ns X.env.locals m) (S:lR X.prog X.w H' h') (hg:AllBare g') (ht:0<t':=by accm_mu):
  Inv X pins σ H' {s with heap:=h',gens:=g',drawn:=d',toks:=t'}:=by
 have Dl:∀b o,X.s₀.heap.get? b=À o->b≠X.env.locals:=λb o e=>ã (Õ (Ù e) I.ok.above);have KL:∀b o,X.s₀.heap.get? b=À o->b∉X.ex->b∉ch:=λb o e hx hb=>by
  rcases(G b hb).1 with z|z
  ·exact hx z
  ·exact absurd (Õ (Ù e) z) (ģ _)
 have D:∀x c,X.env.cells.lookup x=À c->∀v,s.heap.IsCell c v->h'.IsCell c v:=λx c e v zz=>by
  obtain⟨o,M,hd⟩:=zz;have V:c∉ch:=λz=>(G c z).2.2.1 x c e rfl;rcases I.jz x c e with t|⟨_,Z,fu,t⟩
  ·by_cases hc:c∈X.fs
   ·obtain⟨sl,q⟩:=L c o (I.Ku x c e) hc V M t;exact⟨_,q,hd⟩
   ·exact⟨o,F c o (I.Ku x c e) hc V M t,hd⟩
  ·have q1:=(I.hok c _ t).1;have q2:=(S c _ (lS c Z fu t)).1;rw[M]at q1;cases q1;exact⟨o,q2,hd⟩
 refine⟨I.ok,⟨I.os.1,ht⟩,hg,⟨λb o e n hb hx=>?_,λb o e n hb hx=>?_,λb o e n hx=>?_,λb o e hx=>?_,λb xs e=>U b xs (I.base.tups b xs e),λb o xs e=>lS b o xs (I.base.lS b o xs e),λb Y e=>?_⟩,?_,λx c e=>?_,?_,λx c e=>?_,λp hp=>?_,S,I.len⟩
 ·exact F b o (Dl b o e) hb (KL b o e hx) (I.base.keep b o e n hb hx) (I.base.free b o e n hx)
 ·obtain⟨sl,J⟩:=I.base.slot b o e n hb hx;obtain⟨KN,W⟩:=L b _ (Dl b o e) hb (KL b o e hx) J (I.base.free b o e n hx);exact⟨KN,W⟩
 ·obtain⟨R,J⟩:=I.base.there b o e hx;exact B b R (KL b o e hx) J (I.base.free b o e n hx)
 ·obtain⟨R,J⟩:=I.base.there b o e hx;exact O b R (KL b o e hx) J
 ·obtain⟨m1,J⟩:=I.base.nQ b Y e;obtain⟨m2,W⟩:=nQ b _ J;exact⟨m1++m2,by rw[W,Array.append_assoc]⟩
 ·obtain⟨m,hn,hl⟩:=I.loc;refine⟨m,ns m hn,λi x v J W e3=>?_⟩;obtain⟨u,r,l⟩:=hl i x v J W e3;refine⟨u,r,?_⟩;rcases l with l|⟨k,c,e,z⟩
  ·exact .inl l
  ·exact .inr ⟨k,c,e,D x c e _ z⟩
 ·obtain⟨v,z⟩:=I.cell x c e;exact⟨v,D x c e v z⟩
 ·obtain⟨m,⟨o,_,_,M,_⟩,_⟩:=I.loc;exact B _ o (λz=>(G _ z).2.1 rfl) M I.free
 ·obtain⟨v,o,M,hd⟩:=I.cell x c e;rcases I.jz x c e with t|⟨hx,Z,fu,t⟩
  ·exact .inl (B c o (λz=>(G c z).2.2.1 x c e rfl) M t)
  ·exact .inr ⟨hx,Z,fu,lS c Z fu t⟩
 ·obtain⟨e,n,ne,nf,d⟩:=I.pin p hp;have V:p.1∉ch:=λz=>(G p.1 z).2.2.2 p hp rfl;exact⟨F p.1 p.2 ne nf V e n,B p.1 p.2 V e n,ne,nf,d⟩
theorem Inv.un(I:Inv X pins σ H s)(u:Un X.fs [] H H' s.heap h')(k:lR X.prog X.w H' h')(L:0<t':=by accm_mu):Inv X pins σ H' {s with heap:=h',toks:=t'}:=by
 obtain⟨m,⟨o,es,ep,t,r⟩,_⟩:=id I.loc;obtain⟨O,B⟩:=u.any t I.free (by simp);exact I.step (g':=s.gens) (d':=s.drawn) (ch:=[]) (λ_ z=>nomatch z) (λb o _ q _ e n=>u.keep b o e n q (by simp)) (λb o _ q _ e n=>u.slot b o e n q (by simp)) (λb o _ e n=>u.free b o e n (by simp)) (λb o _ e=>u.there b o e (by simp)) u.tups u.lS u.nQ (λM G=>by obtain⟨J,l,F,d,D⟩:=G;rw[t]at d;cases d;exact⟨_,l,F,B,D⟩) k I.bare
theorem Inv.call{d':Drawn}(I:Inv X pins σ H s)(u:Un (frs X.stack) ch H H' s.heap h')(t:lR X.prog X.w H' h')(J:AllBare g')
  (l:∀b∈ch,(b∈X.ex\/X.s₀.heap.objs.size<=b)/\b≠X.env.locals/\(∀x c,X.env.cells.lookup x=À c->c≠b)/\∀p∈X.pn++pins,p.1≠b) (S:0<t':=by accm_mu):
  Inv X pins σ H' {s with heap:=h',gens:=g',drawn:=d',toks:=t'}:=by
 obtain⟨m,⟨o,es,ep,D,r⟩,_⟩:=id I.loc;obtain⟨O,B⟩:=u.any D I.free λz=>(l _ z).2.1 rfl;exact I.step (ch:=ch) l (λb o B G d e n=>u.keep b o e n (λz=>(Þ.mp (I.kF b z)).elim B G) d) (λb o _ _ d e n=>u.any e n d) (λb o d e n=>u.free b o e n d) (λb o d e=>u.there b o e d) u.tups u.lS u.nQ (λT M=>by obtain⟨R,q,L,k,F⟩:=M;rw[D]at k;cases k;exact⟨_,q,L,B,F⟩) t J
theorem Inv.turned(I:Inv X pins σ H s)(k:∀b o,b≠it->s.heap.get? b=À o->h'.get? b=À o)(t:H it=Å)(l:it≠X.env.locals)
  (G:it∈X.ex\/X.s₀.heap.objs.size<=it) (D:∀x c,X.env.cells.lookup x=À c->c≠it) (L:∀p∈X.pn++pins,p.1≠it) (O:0<t':=by accm_mu):Inv X pins σ H {s with heap:=h',toks:=t'}:=by
 have S:∀b u,H b=À u->b≠it:=λb u e z=>by rw[z,t]at e;k_ne
 refine I.step (g':=s.gens) (d':=s.drawn) (ch:=[it]) (λb B=>?_) (λb o _ _ d e _=>k b o (λz=>d (by simp[z])) e) (λb o _ _ d e _=>⟨o.slots,k b o (λz=>d (by simp[z])) e⟩) (λ_ _ _ _ n=>n)
  (λb o d e=>⟨o,k b o (λz=>d (by simp[z])) e⟩) (λ_ _ e=>e) (λ_ _ _ e=>e) (λb M e=>⟨#[],by rw[e];simp⟩) (λm J=>?_) (λb u e=>?_) I.bare
 ·have e:b=it:=‹B›
  x_go;exact⟨G,l,D,L⟩
 ·obtain⟨o,es,ep,F,r⟩:=J;exact⟨o,es,ep,k _ o (õ l) F,r⟩
 ·refine(I.hok b u e).stay (λc v d q=>k c v ?_ q) (λ_ q=>q) λ_ _ q=>q;rcases d with z|z
  ·rw[z];exact S b u e
  ·exact S c _ z
theorem Inv.tok(I:Inv X pins σ H s)(t':Nat)(d:0<t':=by accm_mu):Inv X pins σ H {s with toks:=t'}:=I.un (h':=s.heap) (t':=t') Un.refl I.hok
theorem jA{k:Type}{M:Model}{t:Sem k}{Q:k->Ì->Prop}(h:0<s.toks)(h':à M A t (λa d=>0<d.toks->Q a d) (λe d=>0<d.toks->E e d) s):à M A t Q E s:=wpAny_with_toks (n:=1) h h'
theorem Inv.kept(I:Inv X pins σ H s)(k:∀b u,s.heap.get? b=À u->h'.get? b=À u)(d:0<t':=by accm_mu):Inv X pins σ H {s with heap:=h',toks:=t'}:=I.un (Un.kept k) (I.hok.kept k)
theorem Inv.laid(I:Inv X pins σ H s)(k:∀b u,s.heap.get? b=À u->h'.get? b=À u)(l:s.heap.objs.size<=a)(d:d9 X.prog X.w (upd H a o) h' a o)(m:0<t':=by accm_mu):
  Inv X pins σ (upd H a o) {s with heap:=h',toks:=t'}:=I.un (Un.laid k l (I.hok.fresh l)) (I.hok.laid k l d)
theorem Inv.write{x e:Addr}(I:Inv X pins σ H s)(m:Sn (H x))(l:e=x\/H e=À (.own x))(k:∀b u,b≠e->s.heap.get? b=À u->h'.get? b=À u)(R:∃u,h'.get? e=À u)
  (d:d9 X.prog X.w (upd H x o) h' x o) (q:0<t':=by accm_mu):Inv X pins σ (upd H x o) {s with heap:=h',toks:=t'}:=I.un (Un.write m l k R) (I.hok.write m l k R d)
theorem Inv.x9(I:Inv X pins σ H s)(h:∀p∈fH,s.heap.get? p.1=À p.2/\H p.1=Å/\p.1≠X.env.locals/\p.1∉X.fs/\∀v,p.2.data≠.cell v):Inv X fH σ H s:=
 ⟨I.ok,I.os,I.bare,I.base,I.loc,I.cell,I.free,I.jz,λp d=>(í.mp d).elim (λz=>I.pin p (Ě _ z)) (h p),I.hok,I.len⟩
theorem zA(l:N.Nodup){i j:Nat}{x:Str}(a:N[i]?=À x)(b:N[j]?=À x):i=j:=by obtain⟨m,k⟩:=Á.mp a;obtain⟨q,d⟩:=Á.mp b;exact(Ļ l).mp (k.trans d.symm)
theorem vX{M:Model}{A:Around}{E:Æ->Ì->Prop}{Q:Unit->Ì->Prop}(I:Inv X pins σ H s)(hN:X.N.Nodup)(T:X.N[i]?=À x)(hx:Loc X.env.scope x)(r:RelV v u)
  (h:∀Y,Inv X pins (σ.set i (À v)) H Y->(∃a,Ř a s.heap Y.heap/\(a=X.env.locals\/X.env.cells.lookup x=À a))->Q () Y) (hf:X.fn x=Ä\/X.env.scope.names.lookup x=À .local:=by first|exact .inl rfl|exact .inr rfl|assumption):à M A (storeName X.env x u) Q E s:=by
 obtain⟨m,hn,hl⟩:=id I.loc;have S:(X.env.scope.kind==.class||(X.env.scope.kind==.module&&X.env.locals != X.env.globals))=Â:=by rw[I.ok.kind];rfl
 have XR:i<σ.length:=by rw[I.len];exact(Á.mp T).1
 have Ku:=I.Ku;have t:∀{a:Addr}{h':Heap},(∃o,s.heap.get? a=À o/\H a=Å)->Ř a s.heap h'->lR X.prog X.w H h':=λ{a h'} ha hs b ob e=>by
  obtain⟨_,_,B⟩:=ha;refine(I.hok b ob e).stay (λc U hc q=>(hs.2 c ?_).trans q) (λ_ q=>q) λ_ _ q=>q;rintro rfl;rcases hc with rfl|hc
  ·rw[B]at e;k_ne
  ·rw[B]at hc;cases hc
 rcases hx with hk|hk
 ·refine aaC hk hn (λh' hn' hs=>?_) S;obtain⟨oL,_,_,XT,_⟩:=id hn;refine h _ ⟨I.ok,⟨I.os.1,ü _⟩,I.bare,⟨λb o e n J hx=>?_,λb o e n J hx=>?_,I.base.free,λb o e hx=>?_,I.base.tups,I.base.lS,I.base.nQ⟩,⟨_,hn',λj y v' l F e3=>?_⟩,λy c e=>?_,I.free,I.jz,λp hp=>?_,t ⟨oL,XT,I.free⟩ hs,‹I.len›⟩ ⟨_,hs,.inl rfl⟩
  ·exact(hs.2 b (ã (Õ (Ù e) I.ok.above))).trans (I.base.keep b o e n J hx)
  ·obtain⟨sl,l⟩:=I.base.slot b o e n J hx;exact⟨sl,(hs.2 b (ã (Õ (Ù e) I.ok.above))).trans l⟩
  ·obtain⟨o',l⟩:=I.base.there b o e hx;exact⟨o',(hs.2 b (ã (Õ (Ù e) I.ok.above))).trans l⟩
  ·by_cases G:j=i
   ·subst G;rw[T]at l;cases l;rw[abQ XR]at F;cases F;exact⟨u,r,.inl ⟨hk,by simp⟩⟩
   ·rw[Í (õ G)]at F;obtain⟨Z,r',q⟩:=hl j y v' l F e3;refine⟨Z,r',?_⟩;rcases q with⟨k,e⟩|⟨k,c,e,z⟩
    ·refine .inl ⟨k,?_⟩;have:y≠x:=λe=>G (zA hN l (e▸T));simp[this,e]
    ·exact .inr ⟨k,c,e,z.sameBut hs (Ku y c e)⟩
  ·obtain⟨U,z⟩:=I.cell y c e;exact⟨U,z.sameBut hs (Ku y c e)⟩
  ·obtain⟨e,n,V,nf,d⟩:=I.pin p hp;exact⟨(hs.2 p.1 V).trans e,n,V,nf,d⟩
 ·have D:X.fn x=Ä:=by
   rcases hf with z|z
   ·exact z
   ·rw[z]at hk;cases hk
  obtain⟨c,hc⟩:=I.ok.has x (.inl hk);obtain⟨U,z⟩:=I.cell x c hc;refine wpAny_storeName_cell I.ok.kind hk hc z (λh' L hs=>?_);obtain⟨oc,O,VL⟩:=id z;refine h {s with heap:=h'} ⟨I.ok,I.os,I.bare,⟨λb o e n J hx=>?_,λb o e n J hx=>?_,I.base.free,λb o e hx=>?_,I.base.tups,I.base.lS,I.base.nQ⟩,⟨m,hn.sameBut hs (õ (Ku x c hc)),λj y v' l F e3=>?_⟩,λy W e=>?_,I.free,I.jz,λp hp=>?_,t ⟨oc,O,(I.jz x c hc).resolve_right λz=>by rw[D]at z;cases z.1⟩ hs,‹I.len›⟩ ⟨c,hs,.inr hc⟩
  ·exact(hs.2 b (ã (Õ (Ù e) (I.ok.RT x c D hc)))).trans (I.base.keep b o e n J hx)
  ·obtain⟨sl,l⟩:=I.base.slot b o e n J hx;exact⟨sl,(hs.2 b (ã (Õ (Ù e) (I.ok.RT x c D hc)))).trans l⟩
  ·obtain⟨o',l⟩:=I.base.there b o e hx;exact⟨o',(hs.2 b (ã (Õ (Ù e) (I.ok.RT x c D hc)))).trans l⟩
  ·by_cases G:j=i
   ·subst G;rw[T]at l;cases l;rw[abQ XR]at F;cases F;exact⟨u,r,.inr ⟨.inl hk,c,hc,L⟩⟩
   ·rw[Í (õ G)]at F;obtain⟨Z,r',q⟩:=hl j y v' l F e3;refine⟨Z,r',?_⟩;rcases q with q|⟨k,W,e,z'⟩
    ·exact .inl q
    ·refine .inr ⟨k,W,e,z'.sameBut hs ?_⟩;rintro rfl;exact G (zA hN l (I.ok.inj _ _ _ e hc▸T))
  ·by_cases R:W=c
   ·subst R;exact⟨_,L⟩
   ·obtain⟨w2,z2⟩:=I.cell y W e;exact⟨w2,z2.sameBut hs R⟩
  ·obtain⟨e,n,V,nf,d⟩:=I.pin p hp;refine⟨(hs.2 p.1 ?_).trans e,n,V,nf,d⟩;intro q;rw[q,O]at e;have q':oc=p.2:=æ e;exact d U (by rw[<- q'];exact VL)
theorem zB{M:Model}{A:Around}{E:Æ->Ì->Prop}{Q:Unit->Ì->Prop}(I:Inv X pins σ H s)(k:X.N.Nodup)(t:X.N[i]?=À x)(l:Loc X.env.scope x)(r:RelV v u)
  (h:∀d,Inv X pins (σ.set i (À v)) H d->Q () d) (q:X.fn x=Ä\/X.env.scope.names.lookup x=À .local:=by first|exact .inl rfl|exact .inr rfl|assumption):à M A (storeName X.env x u) Q E s:=
 vX I k t l r (λd m _=>h d m) q
theorem Inv.Gz(I:Inv X pins σ H s)(l:s'.os=s.os/\0<s'.toks)(u:Un (frs X.stack) ch H H' s.heap s'.heap)(d:lR X.prog X.w H' s'.heap)(q:AllBare s'.gens)
  (k:∀b∈ch,(b∈X.ex\/X.s₀.heap.objs.size<=b)/\b≠X.env.locals/\(∀x c,X.env.cells.lookup x=À c->c≠b)/\∀p∈X.pn++pins,p.1≠b):Inv X pins σ H' s':=by
 obtain⟨h',g',d',t',m⟩:=s';have e:m=s.os:=l.1;have r:0<t':=l.2;x_go;exact I.call (g':=g') (t':=t') (d':=d') u d q k
end
abbrev XK:=Æ->Option Addr->Hp->Prop
abbrev St:=List (Option V)
variable{σ:St}
abbrev VK:=V->Hp->Prop
abbrev TE:=St->Hp->VK->Prop
variable{te:TE}
abbrev TT:=St->Hp->(Bool->Hp->Prop)->Prop
variable{tc:TT}
abbrev TA:=St->Hp->(X1->Hp->Prop)->Prop
variable{ta:TA}
structure Ends where
 nx:St->Hp->Prop
 rt:VK
 bk:St->Hp->Prop:=λ_ _=>False
 ct:St->Hp->Prop:=λ_ _=>False
abbrev TS:=Ends->St->Hp->Prop
variable{tb:TS}
def EP(X:Cx)(pins:N0)(k:St)(Q:VK)(u:Æ)(d:Ì):Prop:=∃v H',Inv X pins k H' d/\RelV v u/\Q v H'
def TP(X:Cx)(pins:N0)(d:St)(Q:Bool->Hp->Prop)(b:Bool)(k:Ì):Prop:=∃H',Inv X pins d H' k/\Q b H'
def AP(X:Cx)(pins:N0)(l:St)(Q:X1->Hp->Prop)(k:List Æ)(d:Ì):Prop:=∃vs H',Inv X pins l H' d/\Vals vs k/\Q vs H'
def SP(X:Cx)(pins:N0)(D:Ends)(f:Flow)(k:Ì):Prop:=
 match f with
 |.next=>∃d H',Inv X pins d H' k/\D.nx d H'
 |.brk=>∃d H',Inv X pins d H' k/\D.bk d H'
 |.cont=>∃d H',Inv X pins d H' k/\D.ct d H'
 |.ret u=>∃v d H',Inv X pins d H' k/\RelV v u/\D.rt v H'
def PE(X:Cx)(e:Expr)(t:TE):Prop:=
 ∀(pins:N0)(s:Ì)(d:St)(H:Hp)(Q:VK),Inv X pins d H s->t d H Q->à (model X.prog X.w) X.A (eval e X.env) (EP X pins d Q) X.xe s
def PT(X:Cx)(e:Expr)(t:TT):Prop:=
 ∀(pins:N0)(s:Ì)(d:St)(H:Hp)(Q:Bool->Hp->Prop),Inv X pins d H s->t d H Q->à (model X.prog X.w) X.A (isTrue e X.env (eval e X.env)) (TP X pins d Q) X.xe s
def PW(X:Cx)(e:Expr)(t:TT):Prop:=
 ∀(d:Sem Æ)(pins:N0)(s:Ì)(k:St)(H:Hp)(Q:Bool->Hp->Prop),Inv X pins k H s->t k H Q->à (model X.prog X.w) X.A (isTrue e X.env d) (TP X pins k Q) X.xe s
theorem PW.pt{t:TT}(h:PW X e t):PT X e t:=h _
def PA(X:Cx)(es:U2)(t:TA):Prop:=
 ∀(pos:Pos)(pins:N0)(s:Ì)(d:St)(H:Hp)(Q:X1->Hp->Prop),Inv X pins d H s->t d H Q->à (model X.prog X.w) X.A (spliced (backTo pos (ä es X.env))) (AP X pins d Q) X.xe s
def PS(X:Cx)(st:Stmt)(t:TS):Prop:=
 ∀(pins:N0)(s:Ì)(d:St)(H:Hp)(D:Ends),Inv X pins d H s->t D d H->à (model X.prog X.w) X.A (exec st X.env) (SP X pins D) X.xe s
def BK(X:Cx)(st:List Stmt)(t:TS):Prop:=
 ∀(pins:N0)(s:Ì)(d:St)(H:Hp)(D:Ends),Inv X pins d H s->t D d H->à (model X.prog X.w) X.A (execs st X.env) (SP X pins D) X.xe s
theorem d7{d:Type}{t:Sem d}{Q k:d->Ì->Prop}{M:Model}(h:à M A t Q E s)(l:∀a s,Q a s->k a s):à M A t k E s:=ÿ h l λ_ _ x=>x
section
def VM(i:Nat):TE:=λd H Q=>∃v,d[i]?=À (À v)/\Q v H
def tC(v:V):TE:=λ_ H Q=>Q v H
theorem GA{pos:Pos}(D:X.N[i]?=À x)(J:Gy X.env.scope x)(z:(x==("__debug__":Str))=Â:=by decide)(t:(x==("__classdict__":Str))=Â:=by decide):PE X (.Name x pos) (VM i):=by
 kt_k;obtain⟨v,e,h⟩:=h;obtain⟨m,F,G⟩:=I.loc;obtain⟨u,r,l⟩:=G i x v D e J;have q:EP X pins σ Q u s:=⟨v,H,I,r,h⟩;rcases l with⟨k,L⟩|⟨k,c,B,d⟩
 ·exact adh (wpAny_loadName_local I.ok.kind k F L q) z
 ·rcases k with k|k
  ·exact adh (wpAny_loadName_cell I.ok.kind k B d q) z
  ·exact adh (wpAny_loadName_free I.ok.kind k B d q t) z
theorem Oi {i j pos}:PE X (.Constant (.int i) j pos) (tC (.int i)):=λ_ _ _ H _ I h=>wpAny_Constant_int ⟨.int i,H,I.tok _,⟨_,rfl⟩,h⟩
theorem Sv {b j pos}:PE X (.Constant (.bool b) j pos) (tC (.bl b)):=λ_ _ _ H _ I h=>Constant_bool ⟨.bl b,H,I,rfl,h⟩
theorem Oj {j pos}:PE X (.Constant .none j pos) (tC .bw):=λ_ _ _ H _ I h=>Constant_none ⟨.bw,H,I,rfl,h⟩
theorem Ol {x j pos}:PE X (.Constant (.str x) j pos) (tC (.str x)):=λ_ _ _ H _ I h=>Calls.Constant_str ⟨.str x,H,I.tok _,⟨_,rfl⟩,h⟩
def Gl(X:Cx)(x:Str):Prop:=X.env.kindOf x=À .globalImplicit
theorem sA{E:Æ->Ì->Prop}{pos:Pos}(I:Inv X pins σ H s)(k:Gl X x)(l:X.mg x=À u)(h:Q u s)
  (d:(x==("__debug__":Str))=Â:=by decide):à (model X.prog X.w) X.A (eval (.Name x pos) X.env) Q E s:=
 abi I.ok.kind k (Calls.loadGlobal_global (by rw[I.ok.glob];exact I.mod.glob.keeps I.bk) l h) d
theorem gT{E:Æ->Ì->Prop}{pos:Pos}(I:Inv X pins σ H s)(q:Gl X x)(t:X.mg x=Å)(m:bootBuiltins x=À u)(h:Q u s)
  (l:x≠"__name__":=by decide) (r:(x==("__debug__":Str))=Â:=by decide):à (model X.prog X.w) X.A (eval (.Name x pos) X.env) Q E s:=by
 obtain⟨z,d,k⟩:=I.mod.blt;exact abi I.ok.kind q (Calls.loadGlobal_builtin (by rw[I.ok.glob];exact I.mod.glob.keeps I.bk) t (by rw[I.ok.blt];exact d.keeps I.bk) ((k x l).trans m) h) r
theorem KO{pos:Pos}(k:Gl X x)(l:X.mg x=À u)(r:RelV v u)(d:(x==("__debug__":Str))=Â:=by decide):PE X (.Name x pos) (tC v):=
 λ_ _ _ H _ I h=>sA I k l ⟨v,H,I,r,h⟩ d
variable{a b:Expr}{ta tb:TE}
variable{tA Vb:TT}{rest:U2}
def Sw(t u:TT):TT:=λd H Q=>t d H λc k=>if c=Ä then u d k Q else Q Â k
def XU(t u:TT):TT:=λd H Q=>t d H λc k=>if c=Ä then Q Ä k else u d k Q
def VN(t:TT):TT:=λd H Q=>t d H λc k=>Q (!c) k
theorem KP(d:PT X a tA):PW X (.BoolOp .And [a] pos) tA:=by
 intro l pins s k H Q I h;refine isTrue_and (d7 (d pins s k H Q I h) λc m e=>?_);cases c with
 |true=>exact isTrue_and_nil e
 |false=>exact e
theorem Om(d:PT X a tA):PW X (.BoolOp .Or [a] pos) tA:=by
 intro l pins s k H Q I h;refine isTrue_or (d7 (d pins s k H Q I h) λc m e=>?_);cases c with
 |false=>exact isTrue_or_nil e
 |true=>exact e
theorem Oo(r:PT X a tA)(t:PW X (.BoolOp .And (b::rest) pos) Vb):PW X (.BoolOp .And (a::b::rest) pos) (Sw tA Vb):=by
 intro m pins s k H Q I h;refine isTrue_and (d7 (r pins s k H _ I h) λc z zz=>?_);obtain⟨l,d,q⟩:=zz;cases c with
 |true=>exact t m pins z k l Q d q
 |false=>exact⟨l,d,q⟩
theorem Sx(r:PT X a tA)(t:PW X (.BoolOp .Or (b::rest) pos) Vb):PW X (.BoolOp .Or (a::b::rest) pos) (XU tA Vb):=by
 intro m pins s k H Q I h;refine isTrue_or (d7 (r pins s k H _ I h) λc z zz=>?_);obtain⟨l,d,q⟩:=zz;cases c with
 |true=>exact⟨l,d,q⟩
 |false=>exact t m pins z k l Q d q
theorem Oq(d:PT X a tA):PT X (.UnaryOp .Not a pos) (VN tA):=by kt_k;exact isTrue_not (d pins s σ H (λc k=>Q (!c) k) I h)
def Sy(l t:TE):TE:=λd H Q=>l d H λx k=>∃c,x=.bl c/\if c=Ä then t d k Q else Q (.bl Â) k
def VO(l t:TE):TE:=λd H Q=>l d H λx k=>∃c,x=.bl c/\if c=Ä then Q (.bl Ä) k else t d k Q
def Sz(t:TE):TE:=λd H Q=>t d H λx k=>∃c,x=.bl c/\Q (.bl (!c)) k
theorem Ot {op} {t:TE} (h:PE X a t):PE X (.BoolOp op [a] pos) t:=λpins s k H Q I d=>BoolOp_one (h pins s k H Q I d)
theorem Ou(l:PE X a ta)(m:PE X (.BoolOp .And (b::rest) pos) tb):PE X (.BoolOp .And (a::b::rest) pos) (Sy ta tb):=by
 kt_k;refine BoolOp_and (d7 (l pins s σ H _ I h) λv r zz=>?_);obtain⟨x,k,d,r1,q⟩:=zz;obtain⟨c,rfl,q⟩:=q;cases r1;refine Ģ ?_;cases c with
 |true=>exact m pins r σ k Q d q
 |false=>exact⟨.bl Â,k,d,rfl,q⟩
theorem SA(l:PE X a ta)(m:PE X (.BoolOp .Or (b::rest) pos) tb):PE X (.BoolOp .Or (a::b::rest) pos) (VO ta tb):=by
 kt_k;refine BoolOp_or (d7 (l pins s σ H _ I h) λv r zz=>?_);obtain⟨x,k,d,r1,q⟩:=zz;obtain⟨c,rfl,q⟩:=q;cases r1;refine Ģ ?_;cases c with
 |false=>exact m pins r σ k Q d q
 |true=>exact⟨.bl Ä,k,d,rfl,q⟩
theorem Ov(d:PE X a ta):PE X (.UnaryOp .Not a pos) (Sz ta):=by kt_k;refine UnaryOp_ (d7 (d pins s σ H _ I h) λv m zz=>?_);obtain⟨x,l,k,r,q⟩:=zz;obtain⟨c,rfl,q⟩:=q;cases r;exact not_of (Ģ ⟨.bl (!c),l,k,rfl,q⟩)
def Y3(t:TT)(m l:TE):TE:=λd H Q=>t d H λc k=>if c=Ä then m d k Q else l d k Q
theorem GB(r:PT X c tA)(t:PE X a ta)(z:PE X b tb):PE X (.IfExp c a b pos) (Y3 tA ta tb):=by
 kt_k;refine wpAny_IfExp (d7 (r pins s σ H _ I h) λd l zz=>?_);obtain⟨m,k,q⟩:=zz;cases d with
 |true=>exact t pins l σ m Q k q
 |false=>exact z pins l σ m Q k q
end
def kG(K:Ë)(H:Hp)(a:Addr)(xs:X1):Prop:=
 Rd H a (.lst xs) \/
  ∃(o:Obj)(d:Array Æ)(n:Nat),K.lookup a=À o/\o.cls=.type "list"/\o.dict=Å/\o.data=.seq d n/\d.size<=Ç/\Vals xs d.toList
def nA(K:Ë)(H:Hp)(a:Addr)(xs:X1):Prop:=
 Rd H a (.tup xs) \/
  ∃(o:Obj)(d:Array Æ)(n:Nat),K.lookup a=À o/\o.cls=.type "tuple"/\o.data=.seq d n/\d.size<=Ç/\Vals xs d.toList
def VP:Æ->Option V
 |.none=>À .bw
 |.bool b=>À (.bl b)
 |.int i _=>À (.int i)
 |.str x _=>À (.str x)
 |.bytes b _=>À (.Sm b)
 |.float b _=>À (.VF b)
 |.ref a=>À (.ref a)
 |.type n=>À (.ty n)
 |_=>Å
theorem RelV.abs{x:V}(r:RelV x u):VP u=À x:=by
 cases x with
 |bw=>cases r;rfl
 |bl _=>cases r;rfl
 |int _=>obtain⟨t,rfl⟩:=r;rfl
 |str _=>obtain⟨t,rfl⟩:=r;rfl
 |Sm _=>obtain⟨t,rfl⟩:=r;rfl
 |VF _=>obtain⟨t,rfl⟩:=r;rfl
 |ref _=>cases r;rfl
 |ty _=>cases r;rfl
theorem RelV.inj{x:V}(r:RelV x u)(q:RelV y u):x=y:=æ (r.abs.symm.trans q.abs)
theorem Vals.inj:∀{xs ys:X1}{us:List Æ},Vals xs us->Vals ys us->xs=ys
 |_,_,_,.nil,.nil=>rfl
 |_,_,_,.cons r t,.cons d t'=>by rw[r.inj d,Vals.inj t t']
section
variable{ys:X1}
theorem kG.of(h:H a=À (.lst xs)):kG K H a xs:=.inl (.inl h)
theorem Inv.list(I:Inv X pins σ H s)(h:kG X.K H a xs):∃d:List Æ,Vals xs d/\PlainL s.heap a d.toArray/\xs.length<=Ç:=by
 rcases h with h|⟨o,d,n,m,k,q,l,hz,r⟩
 ·obtain⟨z,d,n,r,e⟩:=h.ok I.hok;exact⟨d,r,⟨_,n,e,rfl,rfl,rfl⟩,z⟩
 ·refine⟨d.toList,r,⟨o,n,I.Nm a o m,k,q,‹l›⟩,?_⟩;have e:=r.length;simp only[aba]at e;lia
theorem Inv.tuple(I:Inv X pins σ H s)(h:nA X.K H a xs):∃d:List Æ,Vals xs d/\IsTup s.heap a d.toArray/\xs.length<=Ç:=by
 rcases h with h|⟨o,d,n,m,k,l,hz,r⟩
 ·obtain⟨z,d,r,p⟩:=h.ok I.hok;exact⟨d,r,p,z⟩
 ·refine⟨d.toList,r,⟨o,I.Nm a o m,k,n,‹l›⟩,?_⟩;have e:=r.length;simp only[aba]at e;lia
theorem Inv.oR(I:Inv X pins σ H s)(h:kG X.K H a xs)(h':kG X.K H a ys):xs=ys:=by
 obtain⟨k,r,⟨o,n,e,_,_,d⟩,_⟩:=I.list h;obtain⟨its',m,⟨q,t,l,_,_,d'⟩,_⟩:=I.list h';rw[e]at l;cases l;rw[d]at d';injection d' with d1 _;have:k=its':=by simpa using congrArg Array.toList d1
 subst this;exact r.inj m
theorem Inv.qx(I:Inv X pins σ H s)(h:nA X.K H a xs)(h':nA X.K H a ys):xs=ys:=by
 obtain⟨k,r,⟨o,e,_,n,d⟩,_⟩:=I.tuple h;obtain⟨its',m,⟨q,l,_,t,d'⟩,_⟩:=I.tuple h';rw[e]at l;cases l;rw[d]at d';injection d' with d1 _;have:k=its':=by simpa using congrArg Array.toList d1
 subst this;exact r.inj m
end
section
variable{st:Stmt}{rest:List Stmt}{t u:TS}
def SE:TS:=λD d H=>D.nx d H
def SG(t u:TS):TS:=λD d H=>t {D with nx:=u D} d H
theorem KQ:BK X [] SE:=λ_ _ d H _ I h=>aa5 ⟨d,H,I,h⟩
theorem GC(m:PS X st t)(k:BK X rest u):BK X (st::rest) (SG t u):=by
 intro pins s l H D I h;refine acV (d7 (m pins s l H {D with nx:=u D} I h) λf z q=>?_);cases f with
 |next=>obtain⟨d,H',r,q⟩:=q;exact k pins z d H' D r q
 |ret v=>exact q
 |brk=>exact q
 |cont=>exact q
theorem KR(d:PS X st t):BK X [st] t:=by
 intro pins s k H D I h;refine acV (d7 (d pins s k H D I h) λf l q=>?_);cases f with
 |next=>exact aa5 q
 |ret v=>exact q
 |brk=>exact q
 |cont=>exact q
theorem Inv.quiet(I:Inv X pins σ H s):interactive X.env=Â:=by simp[interactive,I.ok.kind]
def SH(te:TE):TS:=λD d H=>te d H λ_ k=>D.nx d k
theorem KS(l:PE X e te)(m:swapsWith e Å pos.line X.env=pure Â:=by rfl):PS X (.Expr e pos) (SH te):=by intro pins s d H D I h;exact wpAny_Expr_any (d7 (l pins s d H _ I h) λv B zz=>by obtain⟨x,r,k,z,q⟩:=zz;exact⟨d,r,k,q⟩) I.quiet m
def VQ(te:TE):TS:=λD d H=>te d H D.rt
theorem Ow(l:PE X e te):PS X (.Return (À e) pos) (VQ te):=by intro pins s d H D I h;exact wpAny_Return_some (d7 (l pins s d H _ I h) λv z zz=>by obtain⟨x,m,k,r,q⟩:=zz;exact⟨x,d,m,k,r,q⟩)
def VR(c:TT)(t u:TS):TS:=λD d H=>c d H λb k=>if b=Ä then t D d k else u D d k
theorem SI{a b:List Stmt}(z:PT X c tc)(F:BK X a t)(B:BK X b u):PS X (.If c a b pos) (VR tc t u):=by
 intro pins s k H D I h;refine wpAny_If (d7 (z pins s k H _ I h) λd m zz=>?_);obtain⟨r,l,q⟩:=zz;cases d with
 |true=>exact F pins m k r D l q
 |false=>exact B pins m k r D l q
end
abbrev TG:=V->St->Hp->(St->Hp->Prop)->Prop
abbrev Ox:=X1->St->Hp->(St->Hp->Prop)->Prop
def PG(X:Cx)(d:Expr)(t:TG):Prop:=
 ∀(pins:N0)(s:Ì)(l:St)(H:Hp)(v:V)(u:Æ)(Q:St->Hp->Prop),Inv X pins l H s->RelV v u->t v l H Q ->
  à (model X.prog X.w) X.A (assign d X.env u) (λ_ m=>∃k H',Inv X pins k H' m/\Q k H') X.xe s
def Vc(X:Cx)(q:U2)(t:Ox):Prop:=
 ∀(pins:N0)(s:Ì)(l:St)(H:Hp)(vs:X1)(k:List Æ)(Q:St->Hp->Prop),Inv X pins l H s->Vals vs k->t vs l H Q ->
  à (model X.prog X.w) X.A (assignInOrder ((assignEach q X.env).map (·.2)) k) (λ_ m=>∃d H',Inv X pins d H' m/\Q d H') X.xe s
abbrev Oz:=V->V->V->Hp->(Hp->Prop)->Prop
def SJ(X:Cx)(t:Oz):Prop:=
 ∀(pins:N0)(s:Ì)(k:St)(H:Hp)(o i v:V)(d l u:Æ)(Q:Hp->Prop),Inv X pins k H s->RelV o d->RelV i l->RelV v u->t o i v H Q ->
  à (model X.prog X.w) X.A (setItem d l u) (λ_ m=>∃H',Inv X pins k H' m/\Q H') X.xe s
section
def vY(i:Nat):TG:=λv d H Q=>Q (d.set i (À v)) H
theorem mT(d:X.N.Nodup)(q:X.N[i]?=À x)(k:Loc X.env.scope x)(m:X.fn x=Ä\/X.env.scope.names.lookup x=À .local:=by first|exact .inl rfl|exact .inr rfl|assumption):PG X (.Name x pos) (vY i):=by intro pins s z H v u Q I r h;exact abv (zB I d q k r (λt l=>⟨_,H,l,h⟩) m)
def VS:Ox:=λvs d H Q=>vs=[]/\Q d H
def SK(t:TG)(u:Ox):Ox:=λvs k H Q=>∃v r,vs=v::r/\t v k H λd H'=>u r d H' Q
theorem Dm:Vc X [] VS:=by intro pins s d H vs k Q I r h;obtain⟨e,h⟩:=h;x_go;cases r;exact assignInOrder_nil ⟨d,H,I,h⟩
theorem lV{t:TG}{u:Ox}(D:PG X e t)(k:Vc X es u)
  (B:(assignEach (e::es) X.env).map (·.2)=assign e X.env::(assignEach es X.env).map (·.2):=by rfl):Vc X (e::es) (SK t u):=by
 intro pins s z H vs L Q I r h;obtain⟨v,J,m,h⟩:=h;subst m;cases r with
 |cons r rr=>rw[B];refine assignInOrder_cons (d7 (D pins s z H _ _ _ I r h) λ_ F zz=>?_);obtain⟨d,G,l,q⟩:=zz;exact k pins F d G _ _ Q l rr q
def VT(K:Ë)(n:Nat)(t:Ox):TG:=λv d H Q=>∃a xs,v=.ref a/\nA K H a xs/\xs.length=n/\t xs d H Q
theorem GD{k:Nat}{t:Ox}(z:X.calm=Ä)(h:Vc X es t)
  (L:(assignEach es X.env).length=n:=by rfl) (d:(assignEach es X.env).findIdx? (·.1)=Å:=by rfl):PG X (.Tuple es k pos) (VT X.K n t):=by
 intro pins s q H v u Q I r l;obtain⟨a,xs,F,J,M,l⟩:=l;subst F;cases r;obtain⟨O,m,B,hz⟩:=I.tuple J;refine assign_Tuple_tuple (I.ok.hd z) B (by simp[L,<- M,m.length]) d λh' G=>?_;have D:Inv X pins q H {s with heap:=h'}:=I.kept (t':=s.toks) λb o e=>G b o (ã (Ù e)) e;exact h pins _ q H xs _ Q D ‹m› l
def VU(l q:TE)(t:Oz):TG:=λv d H Q=>l d H λo r=>q d r λi m=>t o i v m λk=>Q d k
theorem OA{o i:Expr}{m q:TE}{t:Oz}(S:PE X o m)(Y:PE X i q)(T:SJ X t)
  (W:∀v,assign (.Subscript o i pos) X.env v=(do
   let d <- holding [v] (eval o X.env)
   let k <- holding [v,d] (eval i X.env)
   standAt pos
   holding [v,d,k] (setItem d k v)
   release [v,d,k] []):=by intro _;rfl):PG X (.Subscript o i pos) (VU m q t):=by
 intro pins s l H v u Q I r h;rw[W];refine Ã (ĭ (d7 (S pins s l H _ I h) λd M zz=>?_));obtain⟨x,Z,z,J,D⟩:=zz;refine Ã (ĭ (d7 (Y pins M l Z _ z D) λk B zz=>?_));obtain⟨y,G,U,V,L⟩:=zz;refine Ã (acz (Ã (ĭ (d7 (T pins B l G x y v d k u _ U J V r L) λ_ s3 zz=>?_))));obtain⟨F,R,O⟩:=zz;exact wpAny_release ⟨l,F,R,O⟩
def KU(te:TE)(g:TG):TS:=λD d H=>te d H λx k=>g x d k D.nx
theorem GF{g:TG}(m:PE X e te)(z:PG X tg g)(r:swapsWithSole [tg] e pos.line X.env=pure Â:=by rfl)(F:swappedStores [tg] e X.env=pure Å:=by rfl)
  (t:(assignEach [tg] X.env).map (·.2)=[assign tg X.env]:=by rfl):PS X (.Assign [tg] e pos) (KU te g):=by
 intro pins s d H D I h;refine wpAny_Assign_stores (d7 (m pins s d H _ I h) λv G zz=>?_) r F;obtain⟨x,J,k,B,l⟩:=zz;rw[t];exact d7 (z pins G d J x v _ k B l) λ_ L q=>q
theorem OB(l:X.N.Nodup)(G:X.N[i]?=À x)(r:Loc X.env.scope x)(m:PE X e te)(t:swapsWith e (À (.Name x pos')) pos.line X.env=pure Â:=by rfl)(F:X.fn x=Ä\/X.env.scope.names.lookup x=À .local:=by first|exact .inl rfl|exact .inr rfl|assumption):
  PS X (.Assign [.Name x pos'] e pos) (KU te (vY i)):=by
 intro pins s k H D I h;refine wpAny_Assign_Name (d7 (m pins s k H _ I h) λv M zz=>?_) t;obtain⟨y,J,d,B,q⟩:=zz;exact zB d l G r B (λL z=>⟨_,J,z,q⟩) F
end
section
def OC(c:TT)(t:TS):TS:=λD d H=>∃W:Nat->St->Hp->Prop,(∃m,W m d H)/\∀m d H,W m d H ->
 c d H λb q=>if b=Ä then ∃N:St->Hp->Prop,(∀k H',N k H'->∃l,l<m/\W l k H')/\t {D with nx:=N,ct:=N,bk:=D.nx} d q else D.nx d q
theorem GH(M:PassesOwn (model X.prog X.w) X.A X.env X.xe)(T:PT X c tc)(hb:BK X body tb):PS X (.While c body [] pos) (OC tc tb):=by
 intro pins s σ H D I h;obtain⟨W,⟨m0,Z⟩,t⟩:=h;refine wpAny_While (codeAny_whileLoop (λn U=>∃m H',Inv X pins m H' U/\W n m H') ?_ m0 ⟨σ,H,I,Z⟩);rintro n s1 ⟨k,S,V,w1⟩;refine ŕ M (d7 (T pins s1 k S _ V (t n k S w1)) λb Y zz=>?_);obtain⟨L,R,q⟩:=zz;cases b with
 |true=>
  obtain⟨N,O,q⟩:=q;rw[Α rfl];refine ŕ M (d7 (hb pins Y k L _ R q) λf s3 r=>?_);cases f with
  |next=>obtain⟨d,l,B,z⟩:=r;obtain⟨F,G,J⟩:=O d l z;exact⟨F,G,d,l,B,J⟩
  |cont=>obtain⟨d,l,B,z⟩:=r;obtain⟨F,G,J⟩:=O d l z;exact⟨F,G,d,l,B,J⟩
  |brk=>exact r
  |ret v=>exact r
 |false=>rw[Β ï];exact aa5 ⟨k,L,R,q⟩
end
structure It where
 go:Nat->Hp->Prop
 vZ:Nat->Hp->V->Hp->Prop
 stop:Nat->Hp->Prop
variable{R:It->Hp->Prop}
def nR(X:Cx)(pins:N0)(H:Hp)(b:Addr):Prop:=
 H b=Å/\b≠X.env.locals/\b∉X.fs/\(b∈X.ex\/X.s₀.heap.objs.size<=b)/\(∀x c,X.env.cells.lookup x=À c->c≠b)/\∀p∈X.pn++pins,p.1≠b
theorem Inv.rW{H':Hp}(I:Inv X pins σ H s)(d:s.heap.objs.size<=b)(k:H' b=Å):nR X pins H' b:=by
 refine⟨k,abb (Õ I.lt d),I.VJ d,.inr (ú I.sz d),λx c e z=>?_,λp l z=>?_⟩
 ·obtain⟨v,q⟩:=I.cell x c e;exact absurd (Õ q.lt (by rw[z];exact d)) (ģ _)
 ·exact absurd (Õ (Ù (I.pin p l).1) (by rw[z];exact d)) (ģ _)
structure Turn(P:ô)(w:đ)(K:Ë)(tg:Expr)(J:It)(fp:Q1)(it:Addr)(tn:Nat->Heap->Prop):Prop where
 mem:it∈fp
 obj:∀i h,tn i h->∀b∈fp,∃o,h.get? b=À o/\∀v,o.data≠.cell v
 keep:∀i h h',tn i h->(∀b∈fp,∀o,h.get? b=À o->h'.get? b=À o)->tn i h'
 item:∀(X:Cx),X.prog=P->X.w=w->X.K=K->X.calm=Ä->∀(i:Nat)(pins:N0)(s:Ì)(σ:St)(H:Hp)(E:Æ->Ì->Prop),Inv X pins σ H s->(∀b∈fp,nR X pins H b)->tn i s.heap->J.go i H ->
  à (model P w) X.A (pyNext (.ref it)) (λr s1=>∃u,r=À u /\
   à (model P w) X.A (letOwnedTupleGo tg (.ref it) u) (λ_ s2=>∃x H',Inv X pins σ H' s2/\RelV x u/\J.vZ i H x H'/\tn (i+1) s2.heap/\∀b∈fp,H' b=Å) E s1) E s
 done:∀(X:Cx),X.prog=P->X.w=w->X.K=K->X.calm=Ä->∀(i:Nat)(pins:N0)(s:Ì)(σ:St)(H:Hp)(E:Æ->Ì->Prop),Inv X pins σ H s->(∀b∈fp,nR X pins H b)->tn i s.heap->J.stop i H ->
  à (model P w) X.A (pyNext (.ref it)) (λr s1=>r=Å/\Inv X pins σ H s1) E s
 self:∀(A:Around)(i:Nat)(s:Ì)(Q:Æ->Ì->Prop)(E:Æ->Ì->Prop),tn i s.heap->Q (.ref it) s->à (model P w) A (pyIter (.ref it)) Q E s
abbrev TI:=St->Hp->(It->Hp->Prop)->Prop
def VV(X:Cx)(pins:N0)(m:St)(l:Expr)(R:It->Hp->Prop)(d:Æ)(k:Ì):Prop:=
 ∃(it:Addr)(fp:Q1)(t:Nat->Heap->Prop)(J:It)(H':Hp),d=.ref it/\Inv X pins m H' k/\Turn X.prog X.w X.K l J fp it t/\t 0 k.heap/\(∀b∈fp,nR X pins H' b)/\R J H'
def PI(X:Cx)(t d:Expr)(l:TI):Prop:=
 ∀(pins:N0)(s:Ì)(k:St)(H:Hp)(R:It->Hp->Prop),Inv X pins k H s->l k H R ->
  à (model X.prog X.w) X.A (eval d X.env) (λv m=>à (model X.prog X.w) X.A (pyIter v) (VV X pins k t R) X.xe m) X.xe s
theorem sS{M:Model}{A:Around}{E:Æ->Ì->Prop}{t:Expr}{u:Æ}{o:Obj}{n:String}{Q:Unit->Ì->Prop}(l:s.heap.get? it=À o)(k:o.cls=.type n)(q:o.data=.fields vs)
  (m:["enumerate","zip","dict_itemiterator","dict_reverseitemiterator","odict_iterator","itertools.zip_longest","itertools.pairwise"].contains n=Â) (d:Q () s):à M A (letOwnedTupleGo t (.ref it) u) Q E s:=by
 unfold letOwnedTupleGo
 cases t<;>first
  |exact Ó d
  | (cases u<;>first
      |exact Ó d
      | (refine Ã (abR l ?_)
         rw[k,q];show à M A (if (["enumerate","zip","dict_itemiterator","dict_reverseitemiterator","odict_iterator","itertools.zip_longest","itertools.pairwise"].contains n&&vs[0]?==À (rawInt _))=Ä then _ else _) Q E s;rw[Β (by intro h;rw[m,Ŭ]at h;cases h)];exact Ó d))
def Kv(K:Ë)(a:Addr):It:=
 ⟨λi H=>∃xs x,kG K H a xs/\xs[i]?=À x,λi H x H'=>H'=H/\∀xs,kG K H a xs->xs[i]?=À x,λi H=>∃xs,kG K H a xs/\xs.length<=i⟩
def Vd(K:Ë)(a:Addr):It:=
 ⟨λi H=>∃xs x,nA K H a xs/\xs[i]?=À x,λi H x H'=>H'=H/\∀xs,nA K H a xs->xs[i]?=À x,λi H=>∃xs,nA K H a xs/\xs.length<=i⟩
def v7(l:Int)(n:Nat):It:=⟨λi _=>i<n,λi H x H'=>H'=H/\x=.int (l+i),λi _=>n<=i⟩
theorem EC(a it:Addr):Turn P w K tg (Kv K a) [it] it (λi h=>h.IsListIter it a i) where
 mem:=by simp
 obj:=λi h st b l=>by
  have e:b=it:=‹l›
  x_go;obtain⟨o,e,c,d⟩:=st;exact⟨o,e,λv z=>by rw[d]at z;cases z⟩
 keep:=λi h h' st k=>st.at λo e=>k it (by simp) o e
 item:=by intro X r J F L i pins s M H E I hf st B;subst r J F;obtain⟨xs,x,q,G⟩:=B;obtain⟨D,t,p,hz⟩:=I.list q;obtain⟨u,V,U⟩:=t.get G;room;refine wpAny_pyNext_list_item st p.isList (x:=u) ‹V› λh' m T=>?_;have O:Inv X pins M H {s with heap:=h'}:=I.turned (t':=s.toks) (λb o l e=>(T.2 b l).trans e) f0 f1 f3 f4 f5;obtain⟨o,e,c,d⟩:=id m;exact⟨u,rfl,sS (s:={s with heap:=h'}) e c d (by decide) ⟨x,H,O,U,⟨rfl,λys S=>by rw[I.oR S q];exact G⟩,m,λb l=>(hf b l).1⟩⟩
 done:=by intro X r J F L i pins s M H E I hf st B;subst r J F;obtain⟨xs,q,G⟩:=B;obtain⟨D,t,p,hz⟩:=I.list q;room;have Y:=t.length;exact wpAny_pyNext_list_end (I.ok.hd L) st p.isList (by simp;lia) λh' W=>⟨rfl,I.turned (t':=s.toks) (λb o l e=>W b o l e) f0 f1 f3 f4 f5⟩
 self:=λ_ _ _ _ _ st h=>wpAny_pyIter_listiter st h
theorem BN(a it:Addr):Turn P w K tg (Vd K a) [it] it (λi h=>h.IsTupleIter it a i) where
 mem:=by simp
 obj:=λi h st b l=>by
  have e:b=it:=‹l›
  x_go;obtain⟨o,e,c,d⟩:=st;exact⟨o,e,λv z=>by rw[d]at z;cases z⟩
 keep:=λi h h' st k=>st.at λo e=>k it (by simp) o e
 item:=by intro X t J F L i pins s M H E I hf st D;subst t J F;obtain⟨xs,x,r,G⟩:=D;obtain⟨m,B,p,hz⟩:=I.tuple r;obtain⟨u,V,U⟩:=B.get G;room;refine wpAny_pyNext_tuple_item st (show s.heap.IsTuple a m.toArray from p) (x:=u) ‹V› λh' q T=>?_;have O:Inv X pins M H {s with heap:=h'}:=I.turned (t':=s.toks) (λb o l e=>(T.2 b l).trans e) f0 f1 f3 f4 f5;obtain⟨o,e,c,d⟩:=id q;exact⟨u,rfl,sS (s:={s with heap:=h'}) e c d (by decide) ⟨x,H,O,U,⟨rfl,λys S=>by rw[I.qx S r];exact G⟩,q,λb l=>(hf b l).1⟩⟩
 done:=by intro X t J F L i pins s M H E I hf st D;subst t J F;obtain⟨xs,r,G⟩:=D;obtain⟨m,B,p,hz⟩:=I.tuple r;room;have Y:=B.length;exact wpAny_pyNext_tuple_end (I.ok.hd L) st (show s.heap.IsTuple a m.toArray from p) (by simp;lia) λh' W=>⟨rfl,I.turned (t':=s.toks) (λb o l e=>W b o l e) f0 f1 f3 f4 f5⟩
 self:=λ_ _ _ _ _ st h=>wpAny_pyIter_tupleiter st h
theorem BO(it:Addr)(m:Int)(n:Nat):Turn P w K tg (v7 m n) [it] it (λi h=>IsRangeIter h it (m+(i:Nat)*1) ((n:Int)-(i:Nat)) 1) where
 mem:=by simp
 obj:=λi h st b d=>by
  have e:b=it:=‹d›
  x_go;exact⟨_,st,λv z=>by have L:Data.fields _=Data.cell v:=z;cases L⟩
 keep:=λi h h' st k=>k it (by simp) _ st
 item:=by intro X r F D q i pins s G H E I hf st B;subst r F D;room;have W:=Walks.range (prog:=X.prog) (w:=X.w) (I.ok.hd q) it m 1 n;refine jA I.os.2 (W.item i s _ _ B st λv h' tk O l M=>λT=>?_);obtain⟨t,rfl⟩:=O;have J:Inv X pins G H {s with heap:=h',toks:=tk}:=I.turned (λb o d e=>M b o ‹d› e) f0 f1 f3 f4 f5;refine⟨_,rfl,sS (s:={s with heap:=h',toks:=tk}) (n:="range_iterator") l rfl rfl (by decide) ⟨.int (m+i),H,J,⟨t,?_⟩,⟨rfl,rfl⟩,l,λb d=>(hf b d).1⟩⟩;rw[Int.mul_one]
 done:=by intro X r F D q i pins s G H E I hf st B;subst r F D;room;exact abS (I.ok.hd q) st (by have:n<=i:=B;lia) λh' S=>⟨rfl,I.turned (t':=s.toks) (λb o d e=>S b o d e) f0 f1 f3 f4 f5⟩
 self:=λ_ _ _ _ _ st h=>aam st h
section
theorem zC{E:Æ->Ì->Prop}{t u v:Tok}(I:Inv X pins σ H s)(r:-(2^62)<=lo)(k:lo<2^62)(D:-(2^62)<=hi)(m:hi<2^62)
  (q:R (v7 lo (hi-lo).toNat) H) (F:0<tk:=by accm_mu):à (model X.prog X.w) X.A (pyIter (.ref s.heap.objs.size)) (VV X pins σ tg R) E {s with heap:=s.heap.push {cls:=.type "range",data:=.fields #[.int lo t,.int hi u,.int 1 v]},toks:=tk}:=by
 refine wpAny_pyIter_range (ac5 ..) (small_one r k D m) ?_;have d:Inv X pins σ H {s with heap:=s.heap.push {cls:=.type "range",data:=.fields #[.int lo t,.int hi u,.int 1 v]},toks:=tk}:=I.kept λb o e=>Ï _ e
 refine⟨(s.heap.push {cls:=.type "range",data:=.fields #[.int lo t,.int hi u,.int 1 v]}).objs.size,[(s.heap.push {cls:=.type "range",data:=.fields #[.int lo t,.int hi u,.int 1 v]}).objs.size],_,_,H,rfl,
  d.kept (t':=tk) λb o e=>Ï _ e,BO _ lo (hi-lo).toNat,?_,λb z=>?_,q⟩
 ·have l:lo+((0:Nat):Int)*1=lo:=by simp
  have B:(((hi-lo).toNat:Nat):Int)-((0:Nat):Int)=ĩ lo hi 1:=by rw[rangeSize_one];split<;>lia
  show IsRangeIter _ _ (lo+((0:Nat):Int)*1) ((((hi-lo).toNat:Nat):Int)-((0:Nat):Int)) 1;rw[l,B];exact Ø _ rfl
 ·have e:b=(s.heap.push {cls:=.type "range",data:=.fields #[.int lo t,.int hi u,.int 1 v]}).objs.size:=‹z›
  x_go;exact d.rW (È _) (d.hok.fresh (È _))
def Nn(t:TA):TI:=λd H R=>t d H λvs k=>∃j:Int,vs=[.int j]/\-(2^62)<=j/\j<2^62/\R (v7 0 j.toNat) k
def SM(t:TA):TI:=λd H R=>t d H λvs k=>∃i j:Int,vs=[.int i,.int j]/\(-(2^62)<=i/\i<2^62/\-(2^62)<=j/\j<2^62)/\R (v7 i (j-i).toNat) k
theorem qy{a:Expr}{p:Pos}(z:Gl X "range")(F:X.mg "range"=Å)(B:PA X [a] ta)(m:ä [a] X.env=[(Â,eval a X.env)]:=by rfl):PI X tg (.Call (.Name "range" p) [a] [] pos) (Nn ta):=by
 intro pins s l H R I h;refine Call_ (gT I z F boot_range (ì (d7 (B pos pins s l H _ I h) λG J zz=>?_) m rfl));obtain⟨vs,L,k,r1,d⟩:=zz;obtain⟨j,e,d,D,q⟩:=d;x_go;cases r1 with
 |cons r rr=>cases rr;obtain⟨t,rfl⟩:=r;exact call_range_1 (zC k ∅ ∅ d D ‹q›)
theorem ED{a b:Expr}{p pos:Pos}(m:Gl X "range")(L:X.mg "range"=Å)(J:PA X [a,b] ta)(G:ä [a,b] X.env=[(Â,eval a X.env),(Â,eval b X.env)]:=by rfl)(d:ä [b] X.env=[(Â,eval b X.env)]:=by rfl):
  PI X tg (.Call (.Name "range" p) [a,b] [] pos) (SM ta):=by
 intro pins s F H R I h;refine Call_ (gT I m L boot_range (ì (d7 (J pos pins s F H _ I h) λM O zz=>?_) (by rw[G,d]) (by rw[d];rfl)));obtain⟨vs,S,l,r1,k⟩:=zz;obtain⟨i,j,e,⟨k,z,B,D⟩,q⟩:=k;x_go;cases r1 with
 |cons r rr=>
  cases rr with
  |cons r' rr=>cases rr;obtain⟨t,rfl⟩:=r;obtain⟨t',rfl⟩:=r';exact call_range_2 (zC l k z B D q)
def VW(r:TI)(g:TG)(t:TS):TS:=λD d H=>r d H λJ B=>∃W:Nat->Nat->St->Hp->Prop,(∃m,W 0 m d B)/\∀i m d H,W i m d H ->
 (J.stop i H/\D.nx d H)\/(J.go i H/\∃N:St->Hp->Prop,(∀k H',N k H'->∃q,q<m/\W (i+1) q k H')/\∀x H',J.vZ i H x H'->g x d H' λl z=>t {D with nx:=N,ct:=N,bk:=D.nx} l z)
def qA(fp:Q1)(h:Heap):N0:=fp.filterMap λb=>(h.get? b).map λo=>(b,o)
theorem kH{fp:Q1}{o:Obj}(d:b∈fp)(e:h.get? b=À o):(b,o)∈qA fp h:=abj.mpr ⟨b,d,by rw[e];rfl⟩
theorem EF{fp:Q1}(l:p∈qA fp h):p.1∈fp/\h.get? p.1=À p.2:=by
 obtain⟨b,d,e⟩:=abj.mp l;cases q:h.get? b with
 |none=>rw[q]at e;k_ne
 |some o=>rw[q]at e;have k:(b,o)=p:=æ e;subst k;exact⟨d,q⟩
theorem Inv.pinned{fp:Q1}(I:Inv X pins σ H s)(B:∀b∈fp,nR X pins H b)(r:∀b∈fp,∃o,s.heap.get? b=À o/\∀v,o.data≠.cell v):Inv X (pins++qA fp s.heap) σ H s:=
 I.x9 λp D=>(í.mp D).elim (λz=>I.pin p (ċ _ z)) λz=>by obtain⟨k,e⟩:=EF z;obtain⟨m,t,q,_⟩:=B p.1 k;obtain⟨o,l,d⟩:=r p.1 k;rw[e]at l;cases l;exact⟨e,m,t,q,d⟩
theorem Inv.sU{pl:N0}(I:Inv X (pins++pl) σ H s):Inv X pins σ H s:=I.x9 λp d=>I.pin p (ċ _ (Ě _ d))
theorem ya{wi:TI}{g:TG}{pos:Pos}(U:PassesOwn (model X.prog X.w) X.A X.env X.xe)(hc:X.calm=Ä)(hi:PI X tg iter wi)(hg:PG X tg g)(z:BK X body tb)
  (hs:∀x,foldedSetIterable iter X.env x=pure x:=by intro _;rfl):PS X (.For tg iter body [] pos) (VW wi g tb):=by
 intro pins s σ H D I h;refine wpAny_For (d7 (hi pins s σ H _ I h) λv s1 h1=>d7 h1 λitv s2 h2=>?_) hs;obtain⟨it,fp,tn,J,H2,e,I2,T,st2,f2,W,⟨m0,w0⟩,O⟩:=h2;x_go;have OD:∀{H':Hp},(∀b∈fp,H' b=Å)->∀b∈fp,nR X pins H' b:=λhn b z=>⟨hn b z,(f2 b z).2⟩;refine codeAny_forLoop_any (λn s'=>∃i F H',Inv X pins F H' s'/\tn i s'.heap/\(∀b∈fp,H' b=Å)/\W i n F H') ?_ m0 ⟨0,σ,H2,I2,st2,λb z=>(f2 b z).1,w0⟩;rintro n s3 ⟨i,q,Y,I3,S,XW,w3⟩;rcases O i n q Y w3 with⟨V,qn⟩|⟨go,N,hN,L⟩
 ·refine ŕ U (d7 (T.done X rfl rfl rfl hc i pins s3 q Y X.xe I3 (OD XW) S V) λr s4 zz=>?_);obtain⟨Z,I4⟩:=zz;subst Z;exact aa5 ⟨q,Y,I4,qn⟩
 ·refine ŕ U (d7 (T.item X rfl rfl rfl hc i pins s3 q Y X.xe I3 (OD XW) S go) λr s4 zz=>?_);obtain⟨u,Z,h4⟩:=zz;subst Z;refine ŕ U (d7 h4 λ_ s5 zz=>?_);obtain⟨x,H5,I5,r5,y5,RU,Ve⟩:=zz;have Y4:=I5.pinned (OD Ve) (T.obj _ _ RU);refine ŕ U (d7 (hg _ s5 q H5 x u _ Y4 r5 (L x H5 y5)) λ_ s6 zz=>?_);obtain⟨σ6,H6,I6,q6⟩:=zz;refine ŕ U (d7 (z _ s6 σ6 H6 _ I6 q6) λf s7 G=>?_);have l:∀{k:St}{B:Hp},Inv X (pins++qA fp s5.heap) k B s7->N k B->∃m,m<n/\∃i F H',Inv X pins F H' s7/\tn i s7.heap/\(∀b∈fp,H' b=Å)/\W i m F H':=λ{k B} t M=>by obtain⟨m',hm,w7⟩:=hN k B M;refine⟨m',hm,i+1,k,B,t.sU,T.keep _ _ _ RU λb z o e=>(t.pin (b,o) (ċ _ (ċ _ (kH z e)))).1,λb z=>?_,w7⟩;obtain⟨o,e,d⟩:=T.obj _ _ RU b z;exact(t.pin (b,o) (ċ _ (ċ _ (kH z e)))).2.1
  cases f with
  |next=>obtain⟨k,B,t,M⟩:=G;exact l t M
  |cont=>obtain⟨k,B,t,M⟩:=G;exact l t M
  |brk=>obtain⟨k,B,t,G⟩:=G;exact⟨k,B,t.sU,G⟩
  |ret v=>obtain⟨x7,k,B,t,r7,G⟩:=G;exact⟨x7,k,B,t.sU,r7,G⟩
end
abbrev R2:=V->V->Hp->VK->Prop
variable{r:R2}
def jB(X:Cx)(f:Æ->Æ->Sem Æ)(r:R2):Prop:=
 ∀(pins:N0)(s:Ì)(d:St)(H:Hp)(x y:V)(v u:Æ)(Q:VK),Inv X pins d H s->RelV x v->RelV y u->r x y H Q ->
  à (model X.prog X.w) X.A (f v u) (EP X pins d Q) X.xe s
def VX(X:Cx)(f:Æ->Sem Æ)(r:V->Hp->VK->Prop):Prop:=
 ∀(pins:N0)(s:Ì)(d:St)(H:Hp)(x:V)(v:Æ)(Q:VK),Inv X pins d H s->RelV x v->r x H Q ->
  à (model X.prog X.w) X.A (f v) (EP X pins d Q) X.xe s
def fF(X:Cx)(f:Æ)(r:X1->Hp->VK->Prop):Prop:=
 ∀(pins:N0)(s:Ì)(k:St)(H:Hp)(xs:X1)(d:List Æ)(Q:VK),Inv X pins k H s->Vals xs d->r xs H Q ->
  à (model X.prog X.w) X.A (call f d) (EP X pins k Q) X.xe s
def VY(X:Cx)(r:V->Hp->(Bool->Hp->Prop)->Prop):Prop:=
 ∀(pins:N0)(s:Ì)(d:St)(H:Hp)(x:V)(v:Æ)(Q:Bool->Hp->Prop),Inv X pins d H s->RelV x v->r x H Q ->
  à (model X.prog X.w) X.A (truthy v) (TP X pins d Q) X.xe s
def SN(r:R2)(m t:TE):TE:=λd H Q=>m d H λx l=>t d l λy k=>r x y k Q
def Y5(r:V->Hp->VK->Prop)(t:TE):TE:=λk H Q=>t k H λx d=>r x d Q
def rI(C:Int->Int->Prop)(g:Int->Int->V):R2:=λx y H Q=>∃i j,x=.int i/\y=.int j/\C i j/\Q (g i j) H
def Np(g:Int->Int->V):R2:=λx y H Q=>∃i j,x=.int i/\y=.int j/\Q (g i j) H
def rU(g:Int->V):V->Hp->VK->Prop:=λx H Q=>∃i,x=.int i/\Q (g i) H
section
variable{a b:Expr}{ta tb tc:TE}
theorem OE(J:PE X a ta)(F:PE X b tb){pins:N0}{s:Ì}{d:St}{H:Hp}{R:V->V->Hp->Prop}(I:Inv X pins d H s)
  (h:ta d H λx t=>tb d t λy k=>R x y k) {Q:Æ->Ì->Prop} {f:Æ->Æ->Sem Æ}
  (O:∀v u q x y k,Inv X pins d k q->RelV x v->RelV y u->R x y k->à (model X.prog X.w) X.A (f v u) Q X.xe q):
  à (model X.prog X.w) X.A (eval a X.env) (λv m=>à (model X.prog X.w) X.A (eval b X.env) (λu l=>à (model X.prog X.w) X.A (f v u) Q X.xe l) X.xe m) X.xe s:=by
 refine d7 (J pins s d H _ I h) λv S zz=>?_;obtain⟨x,t,z,L,B⟩:=zz;refine d7 (F pins S d t _ z B) λu q zz=>?_;obtain⟨y,k,D,G,M⟩:=zz;exact O v u q x y k D L G M
theorem SO{d:Operator}(B:jB X (binaryOp d) r)(t:PE X a ta)(z:PE X b tb):PE X (.BinOp a d b pos) (SN r ta tb):=by kt_k;exact wpAny_BinOp (OE t z I h λv u D x y l m k F q=>B pins D σ l x y v u Q m k F q)
theorem SQ{d:UnaryOp}{r:V->Hp->VK->Prop}(m:VX X (unaryOp d) r)(k:PE X a ta):PE X (.UnaryOp d a pos) (Y5 r ta):=by kt_k;exact UnaryOp_ (d7 (k pins s σ H _ I h) λv z zz=>by obtain⟨x,B,l,q,t⟩:=zz;exact m pins z σ B x v Q l q t)
theorem SR{f:Æ->Æ->Sem Æ}
  (d:∀(i j:Int)(t u:Tok)(s:Ì)(Q:Æ->Ì->Prop)(E:Æ->Ì->Prop),C i j->Q (.int (g i j) s.toks) {s with toks:=s.toks+1}->à (model X.prog X.w) X.A (f (.int i t) (.int j u)) Q E s):
  jB X f (rI C λi j=>.int (g i j)):=by
 intro pins s z H x y v u Q I l m h;obtain⟨i,j,rfl,rfl,k,q⟩:=h;obtain⟨t,rfl⟩:=l;obtain⟨t',rfl⟩:=m;exact d i j t t' s _ _ k ⟨.int (g i j),H,I.tok _,⟨_,rfl⟩,q⟩
theorem SS{f:Æ->Æ->Sem Æ}
  (d:∀(i j:Int)(t u:Tok)(s:Ì)(Q:Æ->Ì->Prop)(E:Æ->Ì->Prop),Q (.int (g i j) s.toks) {s with toks:=s.toks+1}->à (model X.prog X.w) X.A (f (.int i t) (.int j u)) Q E s):
  jB X f (Np λi j=>.int (g i j)):=by
 intro pins s m H x y v u Q I k l h;obtain⟨i,j,rfl,rfl,q⟩:=h;obtain⟨t,rfl⟩:=k;obtain⟨t',rfl⟩:=l;exact d i j t t' s _ _ ⟨.int (g i j),H,I.tok _,⟨_,rfl⟩,q⟩
theorem OF{g:Int->Int->Bool}
  (d:∀(i j:Int)(t u:Tok)(s:Ì)(Q:Æ->Ì->Prop)(E:Æ->Ì->Prop),Q (.bool (g i j)) s->à (model X.prog X.w) X.A (f (.int i t) (.int j u)) Q E s):
  jB X f (Np λi j=>.bl (g i j)):=by
 intro pins s m H x y v u Q I k l h;obtain⟨i,j,rfl,rfl,q⟩:=h;obtain⟨t,rfl⟩:=k;obtain⟨t',rfl⟩:=l;exact d i j t t' s _ _ ⟨.bl (g i j),H,I,rfl,q⟩
def VZ(i j:Int):Prop:=0<j/\j<1073741824
def V0(i j:Int):Prop:=0<=j/\j<=1000000/\i.natAbs<2^64
def OG(i j:Int):Prop:=(-(2^64)<i/\i<2^64)\/(-(2^64)<j/\j<2^64)
theorem OG.ok{i j:Int}(h:OG i j):IntMulOk i j:=by
 rcases h with⟨d,k⟩|⟨d,k⟩
 ·exact .of_left (intBits_le_64 d k)
 ·exact .of_right (intBits_le_64 d k)
theorem OH:jB X (binaryOp .Add) (Np λi j=>.int (i+j)):=SS λ_ _ _ _ _ _ _ q=>add_int q
theorem OI:jB X (binaryOp .Sub) (Np λi j=>.int (i-j)):=SS λ_ _ _ _ _ _ _ q=>sub_int q
theorem OJ:jB X (binaryOp .Mult) (rI OG λi j=>.int (i*j)):=SR λ_ _ _ _ _ _ _ d q=>mul_int q d.ok
theorem KW:jB X (binaryOp .FloorDiv) (rI VZ λi j=>.int (i/j)):=SR λi j _ _ _ _ _ d q=>by have k:(0:Int)<j:=d.1;have l:j<1073741824:=d.2;exact floordiv_int ∅ (by rw[Int.fdiv_eq_ediv_of_nonneg i ∅];exact q) (.inl (PyProof.noPylong_small ∅))
theorem OL:jB X (binaryOp .Mod) (rI (λ_ j=>0<j) λi j=>.int (i%j)):=SR λi j _ _ _ _ _ d q=>by have k:(0:Int)<j:=d;exact mod_int' ∅ (by rw[Int.fmod_eq_emod_of_nonneg i ∅];exact q)
theorem OM:jB X (binaryOp .Pow) (rI V0 λi j=>.int (i^j.toNat)):=SR λ_ _ _ _ _ _ _ d q=>pow_int_small d.1 d.2.1 d.2.2 q
theorem Y6{f:Æ->Sem Æ}{g:Int->Int}
  (d:∀(i:Int)(t:Tok)(s:Ì)(Q:Æ->Ì->Prop)(E:Æ->Ì->Prop),Q (.int (g i) s.toks) {s with toks:=s.toks+1}->à (model X.prog X.w) X.A (f (.int i t)) Q E s):
  VX X f (rU λi=>.int (g i)):=by
 intro pins s l H x v Q I k h;obtain⟨i,rfl,q⟩:=h;obtain⟨t,rfl⟩:=k;exact d i t s _ _ ⟨.int (g i),H,I.tok _,⟨_,rfl⟩,q⟩
theorem ON:VX X (unaryOp .USub) (rU λi=>.int (-i)):=Y6 λ_ _ _ _ _ q=>neg_int q
end
section
variable{a b:Expr}{ta tb tc:TE}
theorem yb{Q:VK}{k:Bool}(I:Inv X pins σ H s)(q:Q (.bl k) H)(e:k=k'):EP X pins σ Q (.bool k') s:=by x_go;exact⟨.bl k,H,I,rfl,q⟩
theorem SV:jB X (compareOp .Lt) (Np λi j=>.bl (decide (i<j))):=OF λ_ _ _ _ _ _ _ q=>lt_int q
theorem Nq:jB X (compareOp .Gt) (Np λi j=>.bl (decide (j<i))):=OF λ_ _ _ _ _ _ _ q=>gt_int q
theorem Nr:jB X (compareOp .GtE) (Np λi j=>.bl (decide (j<=i))):=OF λ_ _ _ _ _ _ _ q=>ge_int q
theorem EG:jB X (compareOp .In) (λx y H Q=>∃i j,x=.str i/\y=.str j/\Q (.bl (!(aad j i 0 j.length 1).isEmpty)) H):=by intro pins s l H x y v u Q I d k h;obtain⟨i,j,rfl,rfl,q⟩:=h;obtain⟨t,rfl⟩:=d;obtain⟨t',rfl⟩:=k;exact in_str (yb I q rfl)
theorem GI:jB X (compareOp .Is) (λx y H Q=>y=.bw/\Q (.bl (decide (x=.bw))) H):=by
 intro pins s l H x y v u Q I d k h;obtain⟨rfl,q⟩:=h;cases k;refine is_none_gen (yb I q ?_)
 cases x<;>first
  |(cases d;rfl)
  |(obtain⟨t,rfl⟩:=d;rfl)
theorem KY:jB X (compareOp .IsNot) (λx y H Q=>y=.bw/\Q (.bl (!decide (x=.bw))) H):=by
 intro pins s l H x y v u Q I d k h;obtain⟨rfl,q⟩:=h;cases k;refine isnot_none_gen (yb I q ?_)
 cases x<;>first
  |(cases d;rfl)
  |(obtain⟨t,rfl⟩:=d;rfl)
theorem yc:jB X (compareOp .NotIn) (λx y H Q=>∃i j,x=.str i/\y=.str j/\Q (.bl (!(!(aad j i 0 j.length 1).isEmpty))) H):=by intro pins s l H x y v u Q I d k h;obtain⟨i,j,rfl,rfl,q⟩:=h;obtain⟨t,rfl⟩:=d;obtain⟨t',rfl⟩:=k;exact notIn_str (yb I q rfl)
theorem yd(b:Expr){d:CmpOp}(h:d≠.In:=by decide)(l:d≠.NotIn:=by decide):behindInMarks d b=Â:=by
 have k:(d==CmpOp.In)=Â:=by cases d<;>first|rfl|exact absurd rfl h
 have m:(d==CmpOp.NotIn)=Â:=by cases d<;>first|rfl|exact absurd rfl l
 cases b<;>simp[behindInMarks,k,m]
theorem KZ(z:jB X (compareOp op) r)(m:PE X a ta)(t:PE X b tb)(B:behindInMarks op b=Â):PE X (.Compare a [op] [b] pos) (SN r ta tb):=by kt_k;exact wpAny_Compare1 (OE m t I h λv u D x y k l d F q=>z pins D σ k x y v u Q l d F q) B
def Nt(t:TE):TT:=λd H Q=>t d H λx H'=>∃k,x=.bl k/\Q k H'
theorem K1(m:jB X (compareOp op) r)(O:PE X a ta)(M:PE X b tb)(U:behindInMarks op b=Â):PT X (.Compare a [op] [b] pos) (Nt (SN r ta tb)):=by
 kt_k;refine ab4 (d7 (O pins s σ H _ I h) λv V ⟨x,W,l,S,B⟩=>d7 (M pins V σ W _ l B) λu t ⟨y,G,J,L,T⟩=>
  d7 (m pins t σ G x y v u _ J S L T) λc Y ⟨z,D,d,F,k,e,q⟩=>?_) U
 x_go;cases F;exact Ģ ⟨D,d,q⟩
def OO(K:Ë)(x:V)(H:Hp)(k:Bool):Prop:=
 match x with
 |.bw=>k=Â
 |.bl b=>k=b
 |.int i=>k=(i != 0)
 |.str y=>y.length<=Ç/\k=((y.length:Int) != 0)
 |.Sm y=>y.size<=Ç/\k=((y.size:Int) != 0)
 |.ref p=>(∃xs,kG K H p xs/\k=!xs.isEmpty)\/(∃xs,nA K H p xs/\k=!xs.isEmpty)\/∃kvs,H p=À (.dK kvs)/\k=!kvs.isEmpty
 |_=>False
theorem BP{d:Type}{kvs:List (d×V)}{vs:List (d×Æ)}(r:KV kvs vs):(!vs.isEmpty)=!kvs.isEmpty:=by cases r<;>rfl
theorem sV(r:Vals xs its):(!its.toArray.isEmpty)=!xs.isEmpty:=by cases r<;>simp
theorem nS:(Ç:Nat)<2^63:=by rw[sizeLine_eq];decide
theorem OP:VY X (λx H Q=>∃k,OO X.K x H k/\Q k H):=by
 intro pins s L H x v Q I z h;obtain⟨k,e,q⟩:=h;have J:=nS;have M:Ç=16777216:=sizeLine_eq;cases x with
 |bw=>cases z;have d:k=Â:=e;subst d;exact truthy_none ⟨H,I,q⟩
 |bl b=>cases z;have d:k=b:=e;subst d;exact Ģ ⟨H,I,q⟩
 |int i=>obtain⟨t,rfl⟩:=z;have d:k=(i != 0):=e;subst d;exact PySem.P.truthy_int ⟨H,I,q⟩
 |str y=>obtain⟨t,rfl⟩:=z;obtain⟨G,d⟩:y.length<=Ç/\k=((y.length:Int) != 0):=e;subst d;exact PySem.P.truthy_str ∅ ⟨H,I.tok _,q⟩
 |Sm y=>obtain⟨t,rfl⟩:=z;obtain⟨G,d⟩:y.size<=Ç/\k=((y.size:Int) != 0):=e;subst d;exact PySem.W.truthy_bytes ∅ ⟨H,I.tok _,q⟩
 |ref p=>
  cases z;have d:(∃xs,kG X.K H p xs/\k=!xs.isEmpty)\/(∃xs,nA X.K H p xs/\k=!xs.isEmpty)\/∃kvs,H p=À (.dK kvs)/\k=!kvs.isEmpty:=e;rcases d with⟨xs,B,d⟩|⟨xs,B,d⟩|⟨kvs,B,d⟩
  ·subst d;obtain⟨D,r,pl,hz⟩:=I.list B;have l:=r.length;exact wpAny_truthy_list pl.isList (by simp only[ß];lia) ⟨H,I.tok _,by rw[sV r];exact q⟩
  ·subst d;obtain⟨D,r,pl,hz⟩:=I.tuple B;have l:=r.length;exact truthy_tuple pl (by simp only[ß];lia) ⟨H,I.tok _,by rw[sV r];exact q⟩
  ·subst d;obtain⟨hz,F,vs,r,m⟩:kvs.length<=Ç/\(p==sysModules)=Â/\∃vs,KV kvs vs/\s.heap.DictOf (cF X.prog X.w) p vs:=I.hok p _ B;have l:kvs.length=vs.length:=ž r;exact wpAny_truthy_dict F m ∅ ⟨H,I.tok _,by rw[BP r];exact q⟩
 |_=>exact(show False from e).elim
theorem GJ(t:PE X a ta)(m:∀d,isTrue a X.env d=(do let v <- d;standAt a.pos;holding [v] (truthy v))):
  PT X a (λσ H Q=>ta σ H λx H'=>∃k,OO X.K x H' k/\Q k H'):=by
 kt_k;exact isTrue_plain (d7 (t pins s σ H _ I h) λv B zz=>by obtain⟨x,D,l,z,q⟩:=zz;exact OP pins B σ D x v Q l z q) (m _)
theorem BQ:jB X (binaryOp .Add) (λx y H Q=>∃i j,x=.str i/\y=.str j/\i.length+j.length<=Ç/\Q (.str (i++j)) H):=by intro pins s m H x y v u Q I d k h;obtain⟨i,j,rfl,rfl,hz,q⟩:=h;obtain⟨t,rfl⟩:=d;obtain⟨t',rfl⟩:=k;exact jA I.os.2 (add_str (λt' z l=>⟨.str (i++j),H,I.tok _,⟨_,rfl⟩,q⟩) hz)
theorem vals1{x:V}(r:Vals [x] us):∃u,us=[u]/\RelV x u:=by
 cases r with
 |cons r1 r2=>cases r2;exact⟨_,rfl,r1⟩
theorem vals2{x:V}(r:Vals [x,y] us):∃u d,us=[u,d]/\RelV x u/\RelV y d:=by
 cases r with
 |cons r1 r2=>
  cases r2 with
  |cons r3 r4=>cases r4;exact⟨_,_,rfl,r1,r3⟩
theorem EH(l:X.calm=Ä):fF X (.builtin "max") (λxs H Q=>∃i j,xs=[.int i,.int j]/\Q (.int (if j > i then j else i)) H):=by
 intro pins s B H xs D Q I r h;obtain⟨i,j,rfl,q⟩:=h;obtain⟨u,z,rfl,⟨t,rfl⟩,⟨t',rfl⟩⟩:=vals2 r;refine jA I.os.2 <|max_two_ints (I.ok.hd l) λh' F k m=>⟨_,H,I.kept k,?_,q⟩;by_cases d:j > i
 ·rw[Α d,Α d];exact⟨_,rfl⟩
 ·rw[Β d,Β d];exact⟨_,rfl⟩
theorem EI(l:X.calm=Ä):fF X (.builtin "min") (λxs H Q=>∃i j,xs=[.int i,.int j]/\Q (.int (if j<i then j else i)) H):=by
 intro pins s B H xs D Q I r h;obtain⟨i,j,rfl,q⟩:=h;obtain⟨u,z,rfl,⟨t,rfl⟩,⟨t',rfl⟩⟩:=vals2 r;refine jA I.os.2 <|min_two_ints (I.ok.hd l) λh' F k m=>⟨_,H,I.kept k,?_,q⟩;by_cases d:j<i
 ·rw[Α d,Α d];exact⟨_,rfl⟩
 ·rw[Β d,Β d];exact⟨_,rfl⟩
end
theorem rT.some_of{o:Option Æ}(r:rT (À v) o):∃u,o=À u/\RelV v u:=by
 cases o with
 |none=>exact(show False from r).elim
 |some u=>exact⟨u,rfl,r⟩
structure iC(k:Nat)(A:Around):Prop where
 hd:A.handled=Å
 dp:A.depth+3*k+5<recursionLimit
 un:A.units+16*k+600<cLine
theorem iC.mono{k:Nat}(r:iC k A)(h:j<=k):iC j A:=⟨r.hd,by have:=r.dp;lia,by have:=r.un;lia⟩
theorem iC.deeper{k:Nat}(r:iC (k+1) A)(env:Env):iC k (A.deeper env):=
 ⟨r.hd,by have:=r.dp;show A.depth+1+3*k+5<_;lia,by have:=r.un;show A.units+3+16*k+600<_;lia⟩
theorem iC.depth{k:Nat}(r:iC k A):A.depth<recursionLimit:=by have:=r.dp;lia
def V1:TA:=λ_ H Q=>Q [] H
def SW(m:TE)(t:TA):TA:=λd H Q=>m d H λx l=>t d l λxs k=>Q (x::xs) k
section
variable{t:TA}
theorem OQ:PA X [] V1:=λ_ _ _ _ H Q I h=>aan ⟨[],H,I,.nil,h⟩
theorem K2(F:PE X e te)(l:PA X es t)(m:ä (e::es) X.env=(Â,eval e X.env)::ä es X.env:=by rfl):PA X (e::es) (SW te t):=by intro pos pins s d H Q I h;rw[m];show à _ _ (spliced ((Â,eval e X.env)::backTo pos (ä es X.env))) _ _ s;refine ť (d7 (F pins s d H _ I h) λu L zz=>?_);obtain⟨x,M,k,G,q⟩:=zz;exact d7 (l pos pins L d M _ k q) λS O zz=>by obtain⟨xs,z,B,D,J⟩:=zz;exact⟨x::xs,z,B,.cons G D,J⟩
def V2(t:TA):TE:=λk H Q=>t k H λxs d=>xs.length<=Ç/\∀p,d p=Å->Q (.ref p) (upd d p (.tup xs))
def V3(t:TA):TE:=λk H Q=>t k H λxs d=>xs.length<=Ç/\∀p,d p=Å->Q (.ref p) (upd d p (.lst xs))
theorem OR {x1} (h:PA X es t):PE X (.Tuple es x1 pos) (V2 t):=by intro pins s m H Q I B;refine wpAny_Tuple_spliced (d7 (h pos pins s m H _ I B) λD d ⟨xs,l,k,r,z,q⟩=>⟨by rw[<- r.length];exact z,?_⟩);have F:l d.heap.objs.size=Å:=k.hok.fresh (È _);refine⟨.ref d.heap.objs.size,upd l d.heap.objs.size (.tup xs),k.laid (t':=d.toks) (λb u e=>Ï _ e) (È _) ?_,rfl,q _ F⟩;exact⟨z,D,r,⟨_,Ø _ rfl,rfl,_,rfl⟩⟩
theorem OS(h:PA X es t):PE X (.List es pos) (V3 t):=by intro pins s m H Q I B;refine wpAny_List_spliced (d7 (h pos pins s m H _ I B) λD d ⟨xs,l,k,r,z,q⟩=>⟨by rw[<- r.length];exact z,?_⟩);have F:l d.heap.objs.size=Å:=k.hok.fresh (È _);refine⟨.ref d.heap.objs.size,upd l d.heap.objs.size (.lst xs),k.laid (t':=d.toks) (λb u e=>Ï _ e) (È _) ?_,rfl,q _ F⟩;exact⟨z,D,0,r,Ø _ rfl⟩
end
abbrev Sp:=X1->Hp->VK->XK->Prop
variable{sp SX:Sp}
abbrev vq:=List Env->Hp->Ì->XK->Æ->Ì->Prop
variable{CX:vq}
structure GK(P:ô)(w:đ)(K:Ë)(mg:Str->Option Æ)(base:Heap)(A:Around)(outer:List Env)(s:Ì)(H:Hp):Prop where
 frames:A.frames=À outer
 mod:Mod K mg base
 bs:∀b o,base.get? b=À o->s.heap.get? b=À o/\H b=Å
 Nk:base.objs.size<=s.heap.objs.size
 qw:s.heap.FunFrames base outer
 Nl:∀b∈frs outer,H b=Å
 hok:lR P w H s.heap
 bare:AllBare s.gens
def CE(d:List Env)(P:ô)(w:đ)(H:Hp)(s:Ì)(Q:VK)(u:Æ)(k:Ì):Prop:=
 ∃v H',(k.os=s.os/\0<k.toks)/\AllBare k.gens/\Un (frs d) [] H H' s.heap k.heap/\lR P w H' k.heap/\RelV v u/\Q v H'
def CR(CX:vq)(d:List Env)(P:ô)(w:đ)(H:Hp)(s:Ì)(Q:VK)(E:XK)(r:Result)(k:Ì):Prop:=
 match r with
 |.ok (.ret u)=>CE d P w H s Q u k
 |.ok _=>False
 |.error e=>CX d H s E e k
structure lW(P:ô)(w:đ)(K:Ë)(mg:Str->Option Æ)(base:Heap)(CX:vq)(k:Nat)(f:Addr)(fd:FuncData)(ps:P3)(sp:Sp):Prop where
 len:∀vs H Q E,sp vs H Q E->vs.length=ps.length
 run:∀(A:Around)(outer:List Env)(s:Ì)(H:Hp)(args:Args)(us:List Æ)(vs:X1)(Q:VK)(E:XK),iC k A->GK P w K mg base A outer s H->0<s.toks->BindsTo s fd args (ps.zip us)->Vals vs us->sp vs H Q E ->
  codeAny (model P w) A (.call (.ref f) args) (CR CX outer P w H s Q E) s
structure nG(P:ô)(w:đ)(K:Ë)(mg:Str->Option Æ)(base:Heap)(CX:vq)(k:Nat)(f:Addr)(fd:FuncData)(ps:P3)(sp:Sp):Prop where
 len:∀vs H Q E,sp vs H Q E->vs.length=ps.length
 run:∀(A:Around)(outer:List Env)(s:Ì)(H:Hp)(args:Args)(us:List Æ)(vs:X1)(Q:VK)(E:XK),iC k A->GK P w K mg base A outer s H->BindsTo s fd args (ps.zip us)->Vals vs us->sp vs H Q E ->
  codeAny (model P w) A (.call (.ref f) args) (CR CX outer P w H s Q E) s
theorem nG.imp{k:Nat}{f:Addr}(F:nG P w K mg base CX k f fd ps sp)
  (h:∀vs H Q E,SX vs H Q E->sp vs H Q E):nG P w K mg base CX k f fd ps SX:=
 ⟨λvs H Q E q=>F.len vs H Q E (h _ _ _ _ q),λA d s H l D vs Q E t m B G z=>F.run A d s H l D vs Q E t m B G (h _ _ _ _ z)⟩
theorem lW.imp{k:Nat}{f:Addr}(F:lW P w K mg base CX k f fd ps sp)
  (h:∀vs H Q E,SX vs H Q E->sp vs H Q E):lW P w K mg base CX k f fd ps SX:=
 ⟨λvs H Q E q=>F.len vs H Q E (h _ _ _ _ q),λA d s H l G vs Q E z t m D I B=>F.run A d s H l G vs Q E z t m D I (h _ _ _ _ B)⟩
section
theorem Inv.iD(I:Inv X pins σ H s):GK X.prog X.w X.K X.mg X.base X.A X.stack s H:=
 ⟨I.ok.frames,I.ok.mod,I.bs,ú I.ok.Nk I.sz,I.stack,I.oQ,I.hok,I.bare⟩
theorem Inv.after{Q:VK}(I:Inv X pins σ H s)(h:CE X.stack X.prog X.w H s Q u s'):EP X pins σ Q u s':=by obtain⟨v,H',B,k,F,l,r,q⟩:=h;obtain⟨D,g,d,t,m⟩:=s';have G:0<t:=B.2;obtain rfl:m=s.os:=B.1;exact⟨v,H',I.call (h':=D) (g':=g) (d':=d) (t':=t) (ch:=[]) F l k (λb z=>absurd z (by simp)),r,q⟩
end
def Binds(K:Ë)(l:FuncData)(k:P3)(ds:List Æ):Prop:=
 ∀(s:Ì)(d:List Æ),K.In s.heap->(d++ds).length=k.length->BindsTo s l ⟨d,[]⟩ (k.zip (d++ds))
theorem Binds.all(h:∀d:List Æ,d.length=ps.length->bindArgs fd ⟨d,[]⟩=pure (ps.zip d)):Binds K fd ps []:=λs d _ k=>by rw[ó]at k |-;exact .of_eq (h d k)
structure iU(N P:P3)(sc:Scope):Prop where
 kind:sc.kind=.function
 co:sc.isCoroutine=Â
 gen:sc.isGenerator=Â
 nd:N.Nodup
 pre:N.take P.length=P
 par:∀x∈P,sc.names.lookup x=À .local\/sc.names.lookup x=À .cell
 OT:∀y∈sc.names,y.2≠.free
theorem v8{k:Str->Option NameKind}{x:Str}:∀{d:List (Str×Æ)}{m:Str->Option Æ},(∀v,(x,v)∉d)->bindL k d m x=m x
 |[],_,_=>rfl
 |(n,v)::r,m,h=>by
  unfold bindL;rw[v8 λw l=>h w (ò _ l)];split
  ·have:x≠n:=by rintro rfl;exact h v ĺ
   simp[this]
  ·rfl
theorem v9{k:Str->Option NameKind}{x:Str}:∀{d:List (Str×Æ)}{m:Str->Option Æ},(∀v,(x,v)∉d)->bindC k d m x=m x
 |[],_,_=>rfl
 |(n,v)::r,m,h=>by
  unfold bindC;rw[v9 λw l=>h w (ò _ l)];split
  ·rfl
  ·have:x≠n:=by rintro rfl;exact h v ĺ
   simp[this]
theorem we{k:Str->Option NameKind}{x:Str}{v:Æ}:∀{P:P3}{vs:List Æ}{i:Nat}{m:Str->Option Æ},P.Nodup->P[i]?=À x->vs[i]?=À v->k x=À .local ->
  bindL k (P.zip vs) m x=À v
 |[],_,_,_,_,h,_,_=>by simp at h
 |_::_,[],_,_,_,_,h,_=>by simp at h
 |p::P,w::vs,0,m,q,l,d,t=>by simp at l d;subst l;subst d;show bindL k ((p,w)::P.zip vs) m p=_;unfold bindL;rw[v8 λv z=>(ķ.mp q).1 (ab0 z).1,Α t];simp
 |p::P,w::vs,i+1,m,q,l,d,t=>by show bindL k ((p,w)::P.zip vs) m x=_;unfold bindL;exact we (i:=i) (ķ.mp q).2 ‹l› ‹d› t
theorem wg{k:Str->Option NameKind}{x:Str}{v:Æ}:∀{P:P3}{vs:List Æ}{i:Nat}{m:Str->Option Æ},P.Nodup->P[i]?=À x->vs[i]?=À v->k x≠À .local ->
  bindC k (P.zip vs) m x=À v
 |[],_,_,_,_,h,_,_=>by simp at h
 |_::_,[],_,_,_,_,h,_=>by simp at h
 |p::P,w::vs,0,m,q,l,d,t=>by simp at l d;subst l;subst d;show bindC k ((p,w)::P.zip vs) m p=_;unfold bindC;rw[v9 λv z=>(ķ.mp q).1 (ab0 z).1,Β t];simp
 |p::P,w::vs,i+1,m,q,l,d,t=>by show bindC k ((p,w)::P.zip vs) m x=_;unfold bindC;exact wg (i:=i) (ķ.mp q).2 ‹l› ‹d› t
def start(N:P3)(vs:X1):St:=vs.map À++Ô (N.length-vs.length) Å
def rX(CX:vq)(P:ô)(w:đ)(K:Ë)(mg:Str->Option Æ)(base:Heap)(N:P3)(qual:Str)(scope:Scope)(f:Addr)(cd:Æ)(A:Around)(outer:List Env)(s:Ì)(H:Hp)(E:XK):Cx where
 prog:=P
 w:=w
 K:=K
 mg:=mg
 base:=base
 A:=A.deeper (envOfC qual scope s.heap.objs.size f cd)
 N:=N
 s₀:=s
 H₀:=H
 env:=envOfC qual scope s.heap.objs.size f cd
 outer:=outer
 stack:=envOfC qual scope s.heap.objs.size f cd::outer
 ex:=[]
 calm:=Ä
 fn:=λ_=>Ä
 pn:=[]
 xe:=λe s'=>à (model P w) (A.deeper (envOfC qual scope s.heap.objs.size f cd)) (leaving (envOfC qual scope s.heap.objs.size f cd) e) (λ_ s''=>CX outer H s E e s'') (λe' s''=>CX outer H s E e' s'') s'
theorem zD(h:sc.names.lookup x=À .cell):∃c,(cellsFrom n sc.names []).lookup x=À c:=by have q:=abT sc.names n [] (.inl h);exact Option.isSome_iff_exists.mp q
theorem wj{CX:vq}{P:ô}{w:đ}{K:Ë}{mg:Str->Option Æ}{base:Heap}{N ps:P3}{qual:Str}{scope:Scope}{f:Addr}{cd:Æ}{A:Around}{outer:List Env}{s s1:Ì}{H:Hp}{E:XK}{us:List Æ}{vs:X1}
  (S:iU N ps scope) (hd:A.handled=Å) (e0:GK P w K mg base A outer s H) (hl:vs.length=ps.length) (r:Vals vs us)
  (x:InCallC s s.heap.objs.size (bindL (envOfC qual scope s.heap.objs.size f cd).kindOf (ps.zip us) λ_=>Å) (cellsFrom (s.heap.objs.size+1) scope.names []) (bindC (envOfC qual scope s.heap.objs.size f cd).kindOf (ps.zip us) λ_=>Å) s1) {n:Nat} (ht:0<n):
  Inv (rX CX P w K mg base N qual scope f cd A outer s H E) [] (start N vs) H {s1 with toks:=n}:=by
 have hpl:ps.length<=N.length:=by have:=congrArg abw S.pre;rw[abK]at this;lia
 obtain⟨h1,tk,rfl,hk⟩:=x.done;have SY:∀b:Addr,b∉(rX CX P w K mg base N qual scope f cd A outer s H E).ex:=λb z=>absurd (show b∈([]:Q1) from z) (by simp)
 refine⟨⟨e0.mod,S.kind,rfl,rfl,È _,λy z c h1 h2=>?_,λy hy=>?_,λy c _ h=>?_,λ_=>hd,Around.frames_deeper e0.frames,.inr ⟨rfl,rfl⟩,λb z=>absurd z (SY b),e0.bs,e0.Nk,λb _ _=>SY b,λb z=>absurd z (SY b),e0.qw,e0.Nl⟩,
  ⟨rfl,ht⟩,e0.bare,Un.kept hk,⟨_,x.toInCall.ns,λi y v h1 h2 h3=>?_⟩,λy c h=>⟨_,x.cell y c h⟩,e0.hok.fresh (È _),λy c h=>?_,λp hp=>absurd (show p∈([]:N0) from hp) (by simp),e0.hok.kept hk,?_⟩
 ·exact name_of_addr x.apart (Ş h1) (Ş h2)
 ·have hy:scope.names.lookup y=À .cell\/scope.names.lookup y=À .free:=hy;rcases hy with hy|hy
  ·exact zD hy
  ·exact absurd rfl (S.OT _ (Ş hy))
 ·exact acM (x.above y c (Ş h))
 ·have hi:i<vs.length:=by
   unfold start at h2;by_cases hi:i<vs.length
   ·exact hi
   ·rw[Ò ‹hi›]at h2;rw[Š]at h2;split at h2<;>cases h2
  have ha:vs[i]?=À v:=by
   unfold start at h2;rw[Î ‹hi›,Ö]at h2;cases e:vs[i]? with
   |none=>rw[e]at h2;cases h2
   |some a=>rw[e]at h2;cases h2;rfl
  obtain⟨u,hu,rv⟩:=r.get ha;have hp:ps[i]?=À y:=by rw[<- S.pre,List.getElem?_take_of_lt ∅];exact h1
  have XX:ps.Nodup:=by rw[<- S.pre];exact S.nd.sublist (List.take_sublist _ _)
  refine⟨u,rv,?_⟩;rcases S.par y (ë hp)with k|k
  ·exact .inl ⟨k,we XX hp hu k⟩
  ·obtain⟨c,e⟩:=zD (n:=s.heap.objs.size+1) k;refine .inr ⟨.inl k,c,e,?_⟩;have q:=x.cell y c e;rw[wg XX hp hu (by show scope.names.lookup y≠_;rw[k];decide)]at q;exact q
 ·exact .inl (e0.hok.fresh (acM (x.above y c (Ş h))))
 ·unfold start;show _=N.length;rw[Û,Ú,List.length_replicate];lia
theorem Nu{CX:vq}{P:ô}{w:đ}{K:Ë}{mg:Str->Option Æ}{base:Heap}{k:Nat}{f:Addr}{name qual:Str}{params:Arguments}{body:List Stmt}{scope:Scope}{dV kV doc pm cdv ct oc:Æ}{an od:Option Addr}
  {osl:Array (Option Æ)} {N ps:P3} {sp:Sp} (lk:K.lookup f=À ⟨oc,od,.func (ć name qual params body scope dV kV doc pm an cdv ct),osl⟩) (hcd:Ő K cdv qual=Ä) (S:iU N ps scope)
  (len:∀vs H Q E,sp vs H Q E->vs.length=ps.length)
  (hbody:∀(A:Around)(outer:List Env)(s:Ì)(H:Hp)(vs:X1)(Q:VK)(E:XK),iC k (A.deeper (envOfC qual scope s.heap.objs.size f cdv))->sp vs H Q E ->
   ∃t,BK (rX CX P w K mg base N qual scope f cdv A outer s H E) body t/\t {nx:=λ_ H'=>Q .bw H',rt:=Q} (start N vs) H):
  lW P w K mg base CX (k+1) f (ć name qual params body scope dV kV doc pm an cdv ct) ps sp:=by
 refine⟨len,λA outer s H args us vs Q E hr e0 htk hb r K3=>?_⟩;have hl:=len _ _ _ _ K3;have KX:K.In s.heap:=e0.mod.RQ.keeps λb o e=>(e0.bs b o e).1;have lim:s.heap.NoLimit:=e0.mod.nolimit.keeps λb o e=>(e0.bs b o e).1;have hkind:∀y∈ps.zip us,scope.names.lookup y.1=À .local\/(scope.names.lookup y.1=À .cell/\((cellsFrom (s.heap.objs.size+1) scope.names []).lookup y.1).isSome=Ä):=λzz hy=>by
  obtain⟨n,v⟩:=zz;rcases S.par n (ab0 hy).1 with q|q
  ·exact .inl q
  ·exact .inr ⟨q,abT _ _ _ (.inl q)⟩
 refine codeAny_call_function hr.depth (KX _ _ lk) rfl S.co S.gen rfl (acC KX hcd) (hb _ _ _ _ ?_);refine jA htk (abk S.kind hkind λenv he s1 x=>λV4=>?_);subst he;refine⟨lim.keeps x.toInCall.keep,codeAny_func ?_⟩;obtain⟨t,ht,hq⟩:=hbody A outer s H vs Q E (hr.deeper _) K3;have I:Inv (rX CX P w K mg base N qual scope f cdv A outer s H E) [] (start N vs) H s1:=wj S hr.hd e0 hl r x (n:=s1.toks) V4;refine ÿ (ht [] s1 (start N vs) H _ I hq) (λfl s' hs=>?_) λe s' hs=>hs
 have fin:∀{σ':St}{H':Hp}{v:V}{u:Æ},Inv (rX CX P w K mg base N qual scope f cdv A outer s H E) [] σ' H' s'->RelV v u->Q v H'->CE outer P w H s Q u s':=
  λ{σ' H' v u} J rv q=>⟨v,H',J.os,J.bare,J.base,J.hok,rv,q⟩
 cases fl with
 |ret u=>obtain⟨v,σ',H',J,rv,q⟩:=hs;exact fin J rv q
 |next=>obtain⟨σ',H',J,q⟩:=hs;exact fin (v:=V.bw) (u:=Value.none) J rfl q
 |brk=>obtain⟨_,_,_,q⟩:=hs;exact Į q
 |cont=>obtain⟨_,_,_,q⟩:=hs;exact Į q
section
variable{p:Pos}{t:TA}{id T:String}{r:X1->Hp->VK->Prop}
def XY(r:X1->Hp->VK->Prop)(t:TA):TE:=λk H Q=>t k H λvs d=>r vs d Q
theorem GL(l:fF X (.builtin id) r)(G:Gl X x)(M:X.mg x=Å)(D:bootBuiltins x=À (.builtin id))(F:PA X (e::es) t)(B:x≠"__name__":=by decide)(d:(x==("__debug__":Str))=Â:=by decide)
  (z:ä (e::es) X.env=(Â,eval e X.env)::ä es X.env:=by rfl) (k:(backTo pos (ä es X.env)).any (·.1)=Â:=by rfl):PE X (.Call (.Name x p) (e::es) [] pos) (XY r t):=by
 kt_k;refine Ā (gT I G M D ?_ B d);exact PyProof.Rows.callWith_builtin1 (d7 (F pos pins s σ H _ I h) λJ O zz=>by obtain⟨vs,S,m,L,q⟩:=zz;exact l pins O σ S vs J Q m L q) z k
theorem EJ(l:fF X (.type T) r)(G:Gl X x)(M:X.mg x=Å)(D:bootBuiltins x=À (.type T))(F:PA X (e::es) t)(B:x≠"__name__":=by decide)(d:(x==("__debug__":Str))=Â:=by decide)
  (z:ä (e::es) X.env=(Â,eval e X.env)::ä es X.env:=by rfl) (k:(backTo pos (ä es X.env)).any (·.1)=Â:=by rfl):PE X (.Call (.Name x p) (e::es) [] pos) (XY r t):=by
 kt_k;refine Ā (gT I G M D ?_ B d);exact ì (d7 (F pos pins s σ H _ I h) λJ O zz=>by obtain⟨vs,S,m,L,q⟩:=zz;exact l pins O σ S vs J Q m L q) z k
end
end
end L2
namespace HT
noncomputable section
open PySem PyProof.Rows
section
open PySem.SeqAt
open PySem.AutoSeq1 (wpAny_loadPart')
open PySem.MeetsSeq PySem.MeetsSeq2 PySem.MeetsSeq3
end
section
variable{prog:ô}{w:đ}{A:Around}{E:Æ->Ì->Prop}{s:Ì}
theorem K4{t b:Addr}{vs ws:List Æ}{Q:Æ->Ì->Prop}(r:IsTup s.heap t vs.toArray)(q:IsTup s.heap b ws.toArray)(m:vs≠[])
  (v:ws=[]->Q (.ref t) s) (u:ws≠[]->Q (.ref s.heap.objs.size) {s with heap:=s.heap.push {cls:=.type "tuple",data:=.seq (vs++ws).toArray}})
  (hsz:vs.length+ws.length<=Ç):à (model prog w) A (binaryOp .Add (.ref t) (.ref b)) Q E s:=by
 obtain⟨⟨cls,dd,data,l⟩,g,k,n,o⟩:=id r;obtain⟨⟨O,d,j,f⟩,h,a,p,c⟩:=id q;simp only at k o a c;subst k o a c;have e:vs.toArray++ws.toArray=(vs++ws).toArray:=by simp
 by_cases i:ws=[]
 ·exact concat_meets ⟨_,g,rfl⟩ ⟨_,h,rfl⟩ noFill_tuple_add seq_tuple_add aao aae (ſ _ _)
   (tuple_addW1 t b vs.toArray ws.toArray n p dd d l f ‹m› (by simp[i])) ⟨g,h,v i⟩
 ·refine concat_meets ⟨_,g,rfl⟩ ⟨_,h,rfl⟩ noFill_tuple_add seq_tuple_add aao aae (ſ _ _)
   (tuple_addW2 t b vs.toArray ws.toArray n p dd d l f ‹m› ‹i› (by rw[ß,ß];exact hsz)) ⟨g,h,?_⟩
  rw[e];exact u i
def gb(n d:Nat):Option Int->Nat
 |none=>d
 |some v=>if v<0 then (v+(n:Int)).toNat else min v.toNat n
theorem jc(n d:Nat):gb n d Å=d:=rfl
theorem iV(n d k:Nat):gb n d (À (k:Int))=min k n:=by show(if (k:Int)<0 then ((k:Int)+(n:Int)).toNat else min (k:Int).toNat n)=min k n;rw[Β ∅,Ē]
theorem OV(n d:Nat)(a:d<=n)(o:Option Int):gb n d o<=n:=by
 cases o with
 |none=>exact a
 |some v=>
  show(if v<0 then (v+(n:Int)).toNat else min v.toNat n)<=n;by_cases h:v<0
  ·rw[Α h];lia
  ·rw[Β h];exact Nat.min_le_right _ _
theorem Dn(v:Int)(n d:Nat):(if v<0 then max (v+(n:Int)) 0 else min v (n:Int))=((gb n d (À v):Nat):Int):=by
 show(if v<0 then max (v+(n:Int)) 0 else min v (n:Int))=(((if v<0 then (v+(n:Int)).toNat else min v.toNat n):Nat):Int);by_cases h:v<0
 ·simp only[Α h];lia
 ·simp only[Β h];lia
theorem BR(lo hi:Option Int)(n:Nat):Ź lo hi 1 (n:Int)=(((gb n 0 lo:Nat):Int),((gb n n hi:Nat):Int)):=by
 have h:¬ ((1:Int)<0):=∅
 unfold Ź;simp only[h,if_false];refine Prod.ext ?_ ?_
 ·cases lo with
  |none=>rfl
  |some v=>exact Dn v n 0
 ·cases hi with
  |none=>rfl
  |some v=>exact Dn v n n
theorem BS(i j:Nat):Ŕ (i:Int) (j:Int) 1=j-i:=by
 unfold Ŕ;have h:(1:Int) > 0:=∅
 simp only[h,if_true,Int.ediv_one];split<;>lia
theorem sW{v:Æ}{o:Option Int}{Q:Option Int->Ì->Prop}(p:IsPart v o)(h:Q o s):à (model prog w) A (Builtin.Slice.slicePartIndex v) Q E s:=by
 cases p with
 |none=>exact slicePart_none h
 |int i t=>exact slicePart_int h
theorem qB{e:Addr}{d v:Æ}{l c:Option Int}{n:Nat}{Q:Int×Int×Nat->Ì->Prop}(g:s.heap.IsSliceOf e d v .none)(pl:IsPart d l)(p:IsPart v c)
  (h:Q (((gb n 0 l:Nat):Int),1,gb n n c-gb n 0 l) s):à (model prog w) A (abl (.ref e) (pure (n:Int))) Q E s:=by
 obtain⟨o,b,f,a⟩:=id g;unfold abl Builtin.Slice.sliceFields;refine Ã (Ã (ù b a (x:=d) rfl (Ã (ù b a (x:=v) rfl (Ã (ù b a (x:=.none) rfl (Ó ?_)))))));refine Ã (slicePart_none ?_);show à _ _ (if ((1:Int)==0)=Ä then _ else _) _ _ s;rw[Β (by decide)];refine Ã (sW pl (Ã (sW p (Ã (Ó ?_)))));show à _ _ (match Ź l c 1 (n:Int)with|(l,c)=>pure (l,(1:Int),Ŕ l c 1)) _ _ s;rw[BR l c n];show à _ _ (pure (((gb n 0 l:Nat):Int),(1:Int),Ŕ ((gb n 0 l:Nat):Int) ((gb n n c:Nat):Int) 1)) _ _ s;rw[BS];exact Ó h
theorem GN(xs:Array Æ)(i k:Nat):((ø k).filterMap λ(m:Nat)=>xs[((i:Int)+(m:Int)*1).toNat]?).toArray=((xs.toList.drop i).take k).toArray:=by
 have e:(λ(m:Nat)=>xs[((i:Int)+(m:Int)*1).toNat]?)=λm=>xs[i+m]?:=by
  funext m;have:((i:Int)+(m:Int)*1).toNat=i+m:=∅
  rw[this]
 rw[e];have:=pick_run xs i k;rw[List.filterMap_map]at this;have a:((λx=>xs[x]?)∘λx=>i+x)=λm=>xs[i+m]?:=rfl;rw[a]at this;rw[this]
theorem oS{t c:Addr}{items:Array Æ}{f v:Æ}{lo hi:Option Int}{Q:Æ->Ì->Prop}(a:IsTup s.heap t items)(g:s.heap.IsSliceOf c f v .none)(pl:IsPart f lo)(p:IsPart v hi)
  (j:¬ (gb items.size 0 lo=0/\gb items.size items.size hi=items.size))
  (h:Q (.ref s.heap.objs.size) {s with heap:=s.heap.push {cls:=.type "tuple",data:=.seq ((items.toList.drop (gb items.size 0 lo)).take (gb items.size items.size hi-gb items.size 0 lo)).toArray}})
  (hsz:items.size<=Ç):à (model prog w) A (getItem (.ref t) (.ref c)) Q E s:=by
 have D:sizeOk (.seq ((items.toList.drop (gb items.size 0 lo)).take (gb items.size items.size hi-gb items.size 0 lo)).toArray):=by show((items.toList.drop (gb items.size 0 lo)).take (gb items.size items.size hi-gb items.size 0 lo)).toArray.size<=Ç;rw[ß,abK,ō,aba];lia
 have k:gb items.size items.size hi<=items.size:=OV _ _ (È _) hi;obtain⟨o,e,b,i⟩:=id g;have Y:s.TypeIs (.ref c) "slice":=⟨o,e,b⟩;unfold getItem
 try with_reducible refine ĭ ?_
 first|refine Ã (Ó ?_)|skip
 refine Ã (wpAny_sequenceKey a.typeIs (by decide) ?_)
 refine Ã (Ď (name:=į "__getitem__") a.typeIs ŝ
  (Ī ŝ a.typeIs entry_tuple_getitem ?_ (args_tuple_getitem _ _)))
 show à _ _ (Builtin.Tuple.tupleItemsOf (.ref t) >>= _) _ _ s;refine Ã (tupleItemsOf_ a ?_);refine Ã (wpAny_typeOf Y ?_);rw[Α (by decide)];refine Ã (qB g pl p ?_);have d:¬ ((((gb items.size 0 lo:Nat):Int)==0&&(1:Int)==1&&(gb items.size items.size hi-gb items.size 0 lo)==items.size)=Ä):=by intro q;rw[Ė,Ė]at q;have l:((gb items.size 0 lo:Nat):Int)=0:=eq_of_beq q.1.1;have n:gb items.size items.size hi-gb items.size 0 lo=items.size:=eq_of_beq q.2;exact j ⟨∅,∅⟩
 show à _ _ (if (((gb items.size 0 lo:Nat):Int)==0&&(1:Int)==1&&(gb items.size items.size hi-gb items.size 0 lo)==items.size)=Ä then _ else _) _ _ s;rw[Β d,GN]
 first
  |exact Ã (m:=Ś _) (þ (Ó ⟨_,rfl,Ó h⟩) D)
  |exact Ã (m:=Ś _) (þ (Ã (Ó (Ó ⟨_,rfl,Ó h⟩))) D)
  |exact Ã (Ã (m:=Ś _) (þ (Ó (Ó ⟨_,rfl,Ó h⟩)) D))
  |exact Ã (Ã (m:=Ś _) (þ (Ó ⟨_,rfl,Ó h⟩) D))
end
end
end HT
namespace L2
noncomputable section
open PySem PySem.Spec PyProof.Rows
variable{pins:N0}{xs:X1}{us its:List Æ}{r:V->Option Int->Option Int->Hp->VK->Prop}{s:Ì}{σ:St}{H:Hp}{α:Type}{p:Addr}{n j t':Nat}{i:Int}{v:Æ}
abbrev TO:=St->Hp->(Option Int->Hp->Prop)->Prop
def PO(X:Cx)(e:Option Expr)(t:TO):Prop:=
 ∀(pins:N0)(s:Ì)(a:St)(H:Hp)(Q:Option Int->Hp->Prop),Inv X pins a H s->t a H Q ->
  à (model X.prog X.w) X.A (evalPart e X.env) (λu b=>∃o H',Inv X pins a H' b/\IsPart u o/\Q o H') X.xe s
def K5:TO:=λ_ H Q=>Q Å H
def S0(t:TE):TO:=λa H Q=>t a H λx b=>∃i,x=.int i/\Q (À i) b
section
variable{X:Cx}{e:Expr}{te:TE}{lo hi:Option Expr}{tl th:TO}{pos p2:Pos}
theorem K6:PO X Å K5:=by kt_k;rw[evalPart_none];exact Ó ⟨Å,H,I,.none,h⟩
theorem K7(h:PE X e te):PO X (À e) (S0 te):=by intro pins s c H Q I f;rw[evalPart_some];refine d7 (h pins s c H _ I f) λu k zz=>?_;obtain⟨x,g,a,d,b⟩:=zz;obtain⟨i,rfl,q⟩:=b;obtain⟨t,rfl⟩:=d;exact⟨À i,g,a,.int i t,q⟩
def Vf(X:Cx)(r:V->Option Int->Option Int->Hp->VK->Prop):Prop:=
 ∀(pins:N0)(s:Ì)(c:St)(H:Hp)(x:V)(v b a:Æ)(l h:Option Int)(d:Addr)(Q:VK),Inv X pins c H s->RelV x v->s.heap.IsSliceOf d b a .none->IsPart b l->IsPart a h->r x l h H Q ->
  ∃T f,typeLookup (.type T) "__getitem__"=pure (À (.builtin f))/\s.TypeIs v T/\à (model X.prog X.w) X.A (getItem v (.ref d)) (EP X pins c Q) X.xe s
def Y8(r:V->Option Int->Option Int->Hp->VK->Prop)(te:TE)(d t:TO):TE:=λa H Q=>te a H λx f=>d a f λl c=>t a c λu b=>r x l u b Q
theorem GO(k:Vf X r)(g:PE X e te)(o:PO X lo tl)(K:PO X hi th):PE X (.Subscript e (.Slice lo hi Å p2) pos) (Y8 r te tl th):=by kt_k;refine Subscript_ (d7 (g pins s σ H _ I h) λv B zz=>?_);obtain⟨x,M,c,y,f⟩:=zz;refine wpAny_Slice (d7 (o pins B σ M _ c f) λvl d ⟨l,m,J,pl,z⟩=>d7 (K pins d σ m _ J z) λvu s3 zz=>?_);obtain⟨u,a,F,G,C⟩:=zz;rw[evalPart_none];refine Ó ?_;have L:Inv X pins σ a {s3 with heap:=s3.heap.push {cls:=.type "slice",data:=.fields #[vl,vu,.none]}}:=F.kept (t':=s3.toks) λb O q=>Ï _ q;obtain⟨T,N,E,D,t⟩:=k pins {s3 with heap:=s3.heap.push {cls:=.type "slice",data:=.fields #[vl,vu,.none]}} σ a x v vl vu l u s3.heap.objs.size Q L y (Heap.IsSliceOf.new ..) pl G C;show à (model X.prog X.w) X.A (subscriptTail e (.Slice lo hi Å p2) v (.ref s3.heap.objs.size)) (EP X pins σ Q) X.xe {s3 with heap:=s3.heap.push {cls:=.type "slice",data:=.fields #[vl,vu,.none]}};exact tail_any (ops:=[.ref s3.heap.objs.size,v]) D E t (by with_unfolding_all rfl)
def zE(xs:X1)(l h:Option Int):X1:=(xs.drop (HT.gb xs.length 0 l)).take (HT.gb xs.length xs.length h-HT.gb xs.length 0 l)
theorem qX(xs:X1)(l h:Option Int):(zE xs l h).length<=xs.length:=by unfold zE;rw[abK,ō];lia
def V5(K:Ë):V->Option Int->Option Int->Hp->VK->Prop:=λx l h H Q=>∃a xs,x=.ref a/\nA K H a xs /\
 ¬ (HT.gb xs.length 0 l=0/\HT.gb xs.length xs.length h=xs.length)/\∀p,H p=Å->Q (.ref p) (upd H p (.tup (zE xs l h)))
theorem OW:Vf X (V5 X.K):=by
 intro pins s A H x v z y l f B Q I t u pl k h;obtain⟨a,xs,rfl,m,w,q⟩:=h;cases t;obtain⟨d,r,g,hz⟩:=I.tuple m;have c:d.toArray.size=xs.length:=by rw[ß];exact r.length.symm
 refine⟨"tuple",_,ŝ.lookup,g.typeIs,?_⟩;refine HT.oS g u pl k (by rw[c];exact w) ?_ (by rw[c];exact hz);rw[c];refine⟨.ref s.heap.objs.size,_,I.laid (t':=s.toks) (o:=.tup (zE xs l f)) (λb C q=>Ï _ q) (È _) ?_,rfl,q _ (I.hok.fresh (È _))⟩;exact⟨ú (qX xs l f) hz,_,(r.drop (HT.gb xs.length 0 l)).take (HT.gb xs.length xs.length f-HT.gb xs.length 0 l),adm _ _⟩
def S1(K:Ë):R2:=λx y H Q=>∃a b xs ys,x=.ref a/\y=.ref b/\nA K H a xs/\nA K H b ys/\xs≠[]/\xs.length+ys.length<=Ç /\
 (ys=[]->Q (.ref a) H)/\(ys≠[]->∀p,H p=Å->Q (.ref p) (upd H p (.tup (xs++ys))))
theorem Vals.ye(r:Vals xs us):us=[]↔xs=[]:=by
 cases r with
 |nil=>simp
 |cons _ _=>simp
theorem K8:jB X (binaryOp .Add) (S1 X.K):=by intro pins s G H x y v u Q I C E h;obtain⟨a,b,xs,ys,rfl,rfl,D,m,B,hz,k,t⟩:=h;cases C;cases E;obtain⟨A,d,g,_⟩:=I.tuple D;obtain⟨f,c,l,_⟩:=I.tuple m;refine HT.K4 g l (λz=>B (d.ye.mp z)) (λz=>⟨.ref a,H,I,rfl,k (c.ye.mp z)⟩) (λz=>?_) (by rw[<- d.length,<- c.length];exact hz);refine⟨.ref s.heap.objs.size,_,I.laid (t':=s.toks) (o:=.tup (xs++ys)) (λb F q=>Ï _ q) (È _) ?_,rfl,t (λw=>z (c.ye.mpr w)) _ (I.hok.fresh (È _))⟩;exact⟨by rw[Û];exact hz,_,d.append c,adm _ _⟩
end
def zq(n:Nat)(i:Int):Option Nat:=if 0<=i then (if i<n then À i.toNat else Å) else if -(n:Int)<=i then À (i+n).toNat else Å
def gr{a:Type}(xs:List a)(i:Int):Option a:=(zq xs.length i).bind λj=>xs[j]?
theorem Dq(h:zq n i=À j):seqIndex? i n=À j/\j<n/\-(n:Int)<=i/\i<n:=by
 unfold zq at h;by_cases b:0<=i
 ·rw[Α b]at h;by_cases a:i<n
  ·rw[Α a]at h;have e:i.toNat=j:=æ h;exact⟨by rw[seqIndex_of b a,e],∅,∅,a⟩
  ·rw[Β a]at h;cases h
 ·rw[Β b]at h;by_cases a:-(n:Int)<=i
  ·rw[Α a]at h;have e:(i+n).toNat=j:=æ h;exact⟨by rw[seqIndex_neg ∅ a,e],∅,a,∅⟩
  ·rw[Β a]at h;cases h
theorem yf{a:Type}{xs:List a}{v:a}(h:gr xs i=À v):∃j,seqIndex? i xs.length=À j/\xs[j]?=À v/\j<xs.length/\-(xs.length:Int)<=i/\i<xs.length:=by
 unfold gr at h;cases e:zq xs.length i with
 |none=>rw[e]at h;cases h
 |some j=>rw[e]at h;obtain⟨b,c,d,f⟩:=Dq e;exact⟨j,b,h,c,d,f⟩
theorem bH{a:Type}{xs:List a}{v:a}(h:xs[j]?=À v):gr xs (j:Int)=À v:=by
 have b:j<xs.length:=(Á.mp h).1;have e:zq xs.length (j:Int)=À j:=by unfold zq;rw[Α ∅,Α ∅];simp
 unfold gr;rw[e];exact h
def sC(b:Expr):Prop:=∀o i,subscripted b Â o i=operate [o,i] (getItem o i)
def RV(X:Cx)(r:R2):Prop:=
 ∀(b a:Expr)(pins:N0)(s:Ì)(c:St)(H:Hp)(x y:V)(v u:Æ)(Q:VK),Inv X pins c H s->RelV x v->RelV y u->r x y H Q ->
  subscripted a Â v u=operate [v,u] (getItem v u)->à (model X.prog X.w) X.A (subscriptTail b a v u) (EP X pins c Q) X.xe s
def Kw(X:Cx)(b:String)(r:V->X1->Hp->VK->Prop):Prop:=
 ∀(pins:N0)(s:Ì)(a:St)(H:Hp)(x:V)(xs:X1)(v:Æ)(u:List Æ)(Q:VK),Inv X pins a H s->RelV x v->Vals xs u->r x xs H Q ->
  à (model X.prog X.w) X.A (call (.builtin b) (v::u)) (EP X pins a Q) X.xe s
section
variable{X:Cx}{a b:Expr}{ta tb:TE}{pos:Pos}
theorem S2{r:R2}(d:RV X r)(l:PE X a ta)(m:PE X b tb)(f:sC b):PE X (.Subscript a b pos) (SN r ta tb):=by kt_k;exact Subscript_ (OE l m I h λv u c x y g k e o q=>d a b pins c σ g x y v u Q k e o q (f _ _))
def V6(K:Ë):R2:=λx y H Q=>∃p xs i v,x=.ref p/\y=.int i/\kG K H p xs/\gr xs i=À v/\Q v H
def V7(K:Ë):R2:=λx y H Q=>∃p xs i v,x=.ref p/\y=.int i/\nA K H p xs/\gr xs i=À v/\Q v H
def V8:R2:=λx y H Q=>∃z i c,x=.str z/\y=.int i/\z.length<=Ç/\gr z.cps.toList i=À c/\Q (.str ⟨#[c]⟩) H
theorem K9:RV X (V6 X.K):=by
 intro l k pins s o H x y v u Q I L N h A;obtain⟨p,xs,i,z,rfl,rfl,G,D,q⟩:=h;cases L;obtain⟨t,rfl⟩:=N;obtain⟨g,r,pl,hz⟩:=I.list G;obtain⟨j,c,J,P,E,M⟩:=yf D;obtain⟨w,m,e⟩:=r.get J;have F:=r.length;have O:=nS;have f:EP X pins o Q w s:=⟨z,H,I,e,q⟩;by_cases B:0<=i
 ·have d:i.toNat=j:=by rw[seqIndex_of B M]at c;exact æ c
  exact item_listR pl.isList B ∅ (by rw[d];simpa using m) f A
 ·have d:(i+(g.toArray.size:Int)).toNat=j:=by rw[seqIndex_neg ∅ E]at c;rw[ß,<- F];exact æ c
  exact subscriptTail_builtinR (x:=w) pl.isList.typeIs slot_list_getitem.lookup
   (wpAny_getItem_list_neg (Q:=λr C=>r=w/\EP X pins o Q r C) pl.isList ∅ (by rw[ß]<;>lia) ∅ (by rw[d];simpa using m) ⟨rfl,f⟩) A
theorem OX:RV X (V7 X.K):=by
 intro e d pins s g H x y v u Q I D G h F;obtain⟨p,xs,i,z,rfl,rfl,o,l,q⟩:=h;cases D;obtain⟨t,rfl⟩:=G;obtain⟨A,r,pl,hz⟩:=I.tuple o;obtain⟨j,E,C,N,J,M⟩:=yf l;obtain⟨w,B,c⟩:=r.get C;have m:=r.length;have L:=nS;have f:EP X pins g Q w s:=⟨z,H,I,c,q⟩
 exact subscriptTail_builtinR (x:=w) pl.typeIs slot_tuple_getitem.lookup
  (getItem_tuple (j:=j) (Q:=λr k=>r=w/\EP X pins g Q r k) pl ∅ ∅ (by rw[ß,<- m];exact E) ‹B› ⟨rfl,f⟩) F
theorem OY:RV X V8:=by
 intro e d pins s F H x y v u Q I w D h B;obtain⟨z,i,c,rfl,rfl,hz,g,q⟩:=h;obtain⟨t,rfl⟩:=w;obtain⟨t',rfl⟩:=D;obtain⟨j,f,m,G,k,A⟩:=yf g;have l:z.cps.toList.length=z.length:=by simp[acD]
 rw[l]at f k A;have E:=nS;exact tail_any (typeIs_str s z t) slot_str_getitem.lookup (getItem_str (c:=c) (by have o:decide (i < -(2^63:Int))=Â:=decide_eq_false ∅;have C:decide (i >= 2^63)=Â:=decide_eq_false ∅;rw[o,C,Bool.or_false]) (by rw[f];simpa using m) ⟨.str ⟨#[c]⟩,H,I.tok _,⟨_,rfl⟩,q⟩) B
theorem BU(its:List Æ)(n j:Nat)(u:Æ):ŭ (·.setIfInBounds j u) {cls:=.type "list",data:=.seq its.toArray n}={cls:=.type "list",data:=.seq (its.set j u).toArray n}:=by simp[ŭ]
theorem Inv.lst(I:Inv X pins σ H s)(h:H p=À (.lst xs)):
  ∃(its:List Æ)(n:Nat),Vals xs its/\s.heap.get? p=À {cls:=.type "list",data:=.seq its.toArray n}/\xs.length<=Ç:=by
 obtain⟨z,its,n,r,e⟩:=I.hok p _ h;exact⟨its,n,r,e,z⟩
theorem Inv.OZ{ys:X1}{its its':List Æ}{n n':Nat}{f:Obj->Obj}(I:Inv X pins σ H s)(h:H p=À (.lst xs))
  (d:s.heap.get? p=À {cls:=.type "list",data:=.seq its.toArray n}) (c:f {cls:=.type "list",data:=.seq its.toArray n}={cls:=.type "list",data:=.seq its'.toArray n'}) (r:Vals ys its') (hz:ys.length<=Ç) (t:Nat) (k:0<t:=by accm_mu):
  Inv X pins σ (upd H p (.lst ys)) {s with heap:=s.heap.update p f,toks:=t}:=by
 have e:(s.heap.update p f).get? p=À {cls:=.type "list",data:=.seq its'.toArray n'}:=by rw[Č f d (by rw[c]<;>rfl),c]
 refine I.write (x:=p) (e:=p) (by rw[h];trivial) (.inl rfl) (λb u g q=>(ý _ _ (õ g)).trans q) ⟨_,e⟩ ?_;exact⟨hz,its',n',r,e⟩
def S3:V->V->V->Hp->(Hp->Prop)->Prop:=λo i v H Q=>∃p xs k j,o=.ref p/\i=.int k/\H p=À (.lst xs)/\zq xs.length k=À j/\Q (upd H p (.lst (xs.set j v)))
theorem set_list:SJ X S3:=by
 intro pins s D H o i v E F u Q I C B z h;obtain⟨p,xs,k,j,rfl,rfl,w,A,q⟩:=h;cases C;obtain⟨t,rfl⟩:=B;obtain⟨c,n,r,f,hz⟩:=I.lst w;obtain⟨d,J,y,l⟩:=Dq A;have e:=r.length;have G:=nS
 have m:Inv X pins D (upd H p (.lst (xs.set j v))) {s with heap:=s.heap.update p (ŭ (·.setIfInBounds j u))}:=
  I.OZ w f (BU c n j u) (r.set z j) (by rw[List.length_set];exact hz) s.toks
 by_cases x:0<=k
 ·have g:k.toNat=j:=by rw[seqIndex_of x l]at d;exact æ d
  exact PySem.W.ki_setAt f x ∅ (by rw[ß,<- e];exact l) (by rw[g];exact⟨_,m,q⟩)
 ·have g:(k+(c.toArray.size:Int)).toNat=j:=by rw[seqIndex_neg ∅ y]at d;rw[ß,<- e];exact æ d
  exact PySem.W.ki_setBack f ∅ (by rw[ß,<- e];exact y) ∅ (by rw[g];exact⟨_,m,q⟩)
theorem yg(lo hi:Option Int)(n:Nat):(sliceBounds lo hi Å n).1=((HT.gb n 0 lo:Nat):Int)/\(sliceBounds lo hi Å n).2.1=((HT.gb n n hi:Nat):Int)/\(sliceBounds lo hi Å n).2.2=1:=by
 refine⟨?_,?_,rfl⟩
 ·cases lo with
  |none=>simp[sliceBounds,HT.gb]
  |some i=>
   simp only[sliceBounds,HT.gb,Option.getD_none,show(1:Int) > 0 by decide,if_true];by_cases h:i<0
   ·simp only[h,if_true]<;>lia
   ·simp only[h,if_false]<;>lia
 ·cases hi with
  |none=>simp[sliceBounds,HT.gb]
  |some i=>
   simp only[sliceBounds,HT.gb,Option.getD_none,show(1:Int) > 0 by decide,if_true];by_cases h:i<0
   ·simp only[h,if_true]<;>lia
   ·simp only[h,if_false]<;>lia
theorem vB(c:List Æ)(l h:Option Int):slicePick c.toArray l h Å=((c.drop (HT.gb c.length 0 l)).take (HT.gb c.length c.length h-HT.gb c.length 0 l)).toArray:=by obtain⟨d,e,f⟩:=yg l h c.toArray.size;unfold slicePick;rw[d,e,f];simp only[sliceRange_one,pick_run,ß]<;>rfl
def V9(K:Ë):V->Option Int->Option Int->Hp->VK->Prop:=λx l h H Q=>∃a xs,x=.ref a/\kG K H a xs/\∀p,H p=Å->Q (.ref p) (upd H p (.lst (zE xs l h)))
theorem La:Vf X (V9 X.K):=by intro pins s y H x v w u l d z Q I k m pl f h;obtain⟨a,xs,rfl,g,q⟩:=h;cases k;obtain⟨t,r,e,hz⟩:=I.list g;have c:=r.length;refine⟨"list",_,slot_list_getitem.lookup,e.isList.typeIs,?_⟩;refine wpAny_getItem_list_slice e.isList m pl f .none (by simp) ?_ (by rw[ß]<;>lia);rw[vB,<- c];refine⟨.ref s.heap.objs.size,_,I.laid (t':=s.toks) (o:=.lst (zE xs l d)) (λb A q=>Ï _ q) (È _) ?_,rfl,q _ (I.hok.fresh (È _))⟩;exact⟨ú (qX xs l d) hz,_,0,(r.drop (HT.gb xs.length 0 l)).take (HT.gb xs.length xs.length d-HT.gb xs.length 0 l),Ø _ rfl⟩
theorem oU:fF X (.builtin "len") (λxs H Q=>∃p ys,xs=[.ref p]/\(kG X.K H p ys\/nA X.K H p ys)/\Q (.int ys.length) H):=by
 intro pins s k H xs m Q I r h;obtain⟨p,ys,rfl,d,q⟩:=h;obtain⟨u,rfl,g⟩:=vals1 r;cases g;have l:=nS;rcases d with d|d
 ·obtain⟨f,e,pl,hz⟩:=I.list d;have c:=e.length;exact Calls.call_len_list pl.isList (by simp only[ß]<;>lia) ⟨.int ys.length,H,I.tok _,⟨s.toks+1,by rw[ß,c]⟩,q⟩
 ·obtain⟨f,e,pl,hz⟩:=I.tuple d;have c:=e.length;exact len_tuple pl (by simp only[ß]<;>lia) ⟨.int ys.length,H,I.tok _,⟨s.toks+1,by rw[ß,c]⟩,q⟩
theorem yh:fF X (.builtin "len") (λxs H Q=>∃z,xs=[.str z]/\z.length<=Ç/\Q (.int z.length) H):=by intro pins s c H xs e Q I r h;obtain⟨z,rfl,hz,q⟩:=h;obtain⟨u,rfl,t,rfl⟩:=vals1 r;have d:=nS;exact len_str ∅ ⟨.int z.length,H,I.tok _,⟨_,rfl⟩,q⟩
theorem oV:fF X (.type "list") (λxs H Q=>∃p ys,xs=[.ref p]/\(kG X.K H p ys\/nA X.K H p ys)/\∀l,H l=Å->Q (.ref l) (upd H l (.lst ys))):=by
 intro pins s z H xs B Q I r h;obtain⟨p,ys,rfl,d,q⟩:=h;obtain⟨u,rfl,A⟩:=vals1 r;cases A
 have g:∀(its:List Æ),Vals ys its->ys.length<=Ç->∀(h':Heap)(c':Nat),(∀b y,s.heap.get? b=À y->h'.get? b=À y) ->
   h'.get? s.heap.objs.size=À {cls:=.type "list",dict:=Å,data:=.seq its.toArray c',slots:=#[]}->EP X pins z Q (.ref s.heap.objs.size) {s with heap:=h'}:=λits c hz h' c' k e=>
  ⟨.ref s.heap.objs.size,_,I.laid (t':=s.toks) k (È _) (show d9 X.prog X.w _ h' _ (.lst ys) from⟨hz,its,c',c,e⟩),rfl,q _ (I.hok.fresh (È _))⟩
 rcases d with d|d
 ·obtain⟨its,c,pl,hz⟩:=I.list d;have f:=c.length;obtain⟨o,t,m,n,x⟩:=pl.isList;exact call_list_seq p (.inl rfl) t m x (λh' c' k e=>g its c hz h' c' k e) (by simp only[ß]<;>lia)
 ·obtain⟨its,c,pl,hz⟩:=I.tuple d;have f:=c.length;obtain⟨o,t,m,n,x⟩:=pl;exact call_list_seq p (.inr rfl) t m x (λh' c' k e=>g its c hz h' c' k e) (by simp only[ß]<;>lia)
theorem nH:fF X (.type "tuple") (λxs H Q=>∃p ys,xs=[.ref p]/\((kG X.K H p ys/\∀l,H l=Å->Q (.ref l) (upd H l (.tup ys)))\/(nA X.K H p ys/\Q (.ref p) H))):=by
 intro pins s g H xs y Q I r h;obtain⟨p,ys,rfl,h⟩:=h;obtain⟨u,rfl,m⟩:=vals1 r;cases m;rcases h with⟨d,q⟩|⟨d,q⟩
 ·obtain⟨its,c,pl,hz⟩:=I.list d;have k:=c.length;refine call_tuple_list pl.isList (λh' x=>?_) (by simp only[ß]<;>lia);have f:Inv X pins g H {s with heap:=h'}:=I.kept (t':=s.toks) x
  have t:Inv X pins g (upd H h'.objs.size (.tup ys)) {s with heap:=h'.push {cls:=.type "tuple",data:=.seq its.toArray}}:=
   f.laid (t':=s.toks) (λb o e=>Ï _ e) (È _) (show d9 X.prog X.w _ _ _ (.tup ys) from⟨hz,its,c,adm _ _⟩)
  exact⟨.ref h'.objs.size,_,t,rfl,q _ (f.hok.fresh (È _))⟩
 ·obtain⟨its,c,pl,hz⟩:=I.tuple d;exact call_tuple_same pl ⟨.ref p,H,I,rfl,q⟩
def Vg(K:Ë)(T:String)(x:V)(H:Hp):Prop:=match x with
 |.str _=>T="str"
 |.int _=>T="int"
 |.ref p=>(T="list"/\∃xs,kG K H p xs)\/(T="tuple"/\∃o,K.lookup p=À o/\o.cls=.type "tuple"/\o.dict=Å) \/
   (T="dict"/\((∃kvs,H p=À (.dK kvs))\/∃kvs,H p=À (.dT kvs)))\/(T="set"/\∃S n,H p=À (.set S n))
 |_=>False
theorem GP{T:String}{x:V}(I:Inv X pins σ H s)(r:RelV x v)(d:Vg X.K T x H):
  s.TypeIs v T/\∀a,v=.ref a->∃g,s.heap.get? a=À g/\g.dict=Å:=by
 cases x with
 |str z=>obtain⟨t,rfl⟩:=r;cases (show T="str" from d);exact⟨typeIs_str s z t,λ_ e=>nomatch e⟩
 |int i=>obtain⟨t,rfl⟩:=r;cases (show T="int" from d);exact⟨typeIs_int s i t,λ_ e=>nomatch e⟩
 |ref p=>
  cases r;rcases d with⟨rfl,xs,l⟩|⟨rfl,o,h,k,f⟩|⟨rfl,h⟩|⟨rfl,S,n,h⟩
  ·obtain⟨m,_,pl,_⟩:=I.list l;refine⟨pl.isList.typeIs,λa e=>?_⟩;k_ne;obtain⟨o,n,e,c,f,_⟩:=pl;exact⟨o,e,f⟩
  ·refine⟨⟨o,I.Nm p o h,k⟩,λa e=>?_⟩;k_ne;exact⟨o,I.Nm _ o h,f⟩
  ·have z:∃o,s.heap.get? p=À o/\o.ExactDict:=by
    rcases h with⟨kvs,h⟩|⟨kvs,h⟩
    ·obtain⟨_,_,_,_,o,_,_,e,ex,_⟩:=I.hok p _ h;exact⟨o,e,ex⟩
    ·obtain⟨_,_,_,_,o,_,_,e,ex,_⟩:=I.hok p _ h;exact⟨o,e,ex⟩
   obtain⟨o,e,ex⟩:=z;refine⟨⟨o,e,ex.1⟩,λa e2=>?_⟩;cases e2;exact⟨o,e,ex.2.1⟩
  ·obtain⟨o,_,_,_,e,ex,_⟩:=I.hok p _ h;refine⟨⟨o,e,ex.1⟩,λa e2=>?_⟩;cases e2;exact⟨o,e,ex.2.1⟩
 |_=>exact Į d
def Wa(K:Ë)(T:String)(r:V->X1->Hp->VK->Prop)(t:TE):TE:=λd H Q=>t d H λx c=>Vg K T x c/\r x [] c Q
def Y9(K:Ë)(T:String)(r:V->X1->Hp->VK->Prop)(e:TE)(t:TA):TE:=λc H Q=>e c H λx d=>Vg K T x d/\t c d λxs f=>r x xs f Q
variable{o e:Expr}{es:U2}{to:TE}{t:TA}{name:Str}{apos cpos:Pos}{T id:String}{r:V->X1->Hp->VK->Prop}
theorem O0(y:PlainAttrs T)(f:Slot T name id)(g:typeOf (.builtin id)=pure (.type "method_descriptor"))(A:Kw X id r)(u:PE X o to)
  (d:attributeBase o name X.env (eval o X.env)=eval o X.env:=by rfl) (c:(apos.endLine==cpos.line)=Ä:=by rfl):PE X (.Call (.Attribute o name apos) [] [] cpos) (Wa X.K T r to):=by
 kt_k;refine wpAny_Call_method0_late d c (d7 (u pins s σ H _ I h) λv B zz=>?_);obtain⟨x,C,k,l,q,w⟩:=zz;obtain⟨z,m⟩:=GP k l q;exact⟨T,id,y,f,g,z,m,aap rfl (PySem.evalArgs_none (A pins B σ C x [] v [] Q k l .nil w))⟩
theorem S4(pa:PlainAttrs T)(slot:Slot T name id)(hty:typeOf (.builtin id)=pure (.type "method_descriptor"))(hm:Kw X id r)(ho:PE X o to)(ha:PA X (e::es) t)
  (hbase:attributeBase o name X.env (eval o X.env)=eval o X.env:=by rfl)
  (hfew:((backTo cpos (ä (e::es) X.env)).all (λx=>!x.1)&&(backToKw cpos (keywordEach [] X.env)).all (λx=>x.1.isSome)
   && decide ((e::es).length+([]:List Keyword).length+(if ([]:List Keyword).isEmpty then 0 else 1)<30))=Ä:=by rfl)
  (hline:(apos.endLine==cpos.line)=Ä:=by rfl) (hs:ä (e::es) X.env=(Â,eval e X.env)::ä es X.env:=by rfl) (hplain:(backTo cpos (ä es X.env)).any (·.1)=Â:=by rfl):
  PE X (.Call (.Attribute o name apos) (e::es) [] cpos) (Y9 X.K T r to t):=by
 kt_k;refine wpAny_Call_method_late hbase hfew hline rfl (d7 (ho pins s σ H _ I h) λv s1 zz=>?_);obtain⟨x,H1,I1,r1,ty,q1⟩:=zz;obtain⟨h1,h2⟩:=GP I1 r1 ty;refine⟨T,id,pa,slot,hty,h1,h2,?_⟩;have hA:=ha cpos pins s1 σ H1 _ I1 q1;rw[hs]at hA |-;refine aap (by show(Â||(backTo cpos (ä es X.env)).any (·.1))=Â;rw[hplain]<;>rfl) (aaU ?_);exact d7 hA λus s2 zz=>by obtain⟨vs,H2,I2,r2,q2⟩:=zz;exact hm pins s2 σ H2 x vs v us Q I2 r1 r2 q2
end
def XZ(X:Cx)(b:String)(r:V->X1->Hp->VK->Prop):Prop:=
 ∀(pins:N0)(s:Ì)(a:St)(H:Hp)(x:V)(xs:X1)(v:Æ)(u:List Æ)(Q:VK),Inv X pins a H s->RelV x v->Vals xs u->r x xs H Q ->
  à (model X.prog X.w) X.A (call (.builtin b) (v::u)) (EP X pins a Q) X.xe s
theorem Vals.one:∀{x:V}{us:List Æ},Vals [x] us->∃u,us=[u]/\RelV x u
 |_,_,.cons r .nil=>⟨_,rfl,r⟩
theorem Vals.zero:∀{us:List Æ},Vals [] us->us=[]
 |_,.nil=>rfl
theorem Vals.dropLast(h:Vals xs us):Vals xs.dropLast us.dropLast:=by
 induction h with
 |nil=>exact .nil
 |cons r t a=>
  cases t with
  |nil=>exact .nil
  |cons q t'=>exact .cons r a
theorem Vals.rep(h:Vals xs us):∀k:Nat,Vals (Ô k xs).flatten (Ô k us).flatten
 |0=>.nil
 |k+1=>by rw[ă,ă,İ,İ];exact Vals.append h (Vals.rep h k)
theorem BV(l:List α):l.eraseIdx (l.length-1)=l.dropLast:=by
 induction l with
 |nil=>rfl
 |cons a r c=>
  cases r with
  |nil=>rfl
  |cons b r=>
   have e:(a::b::r).length-1=((b::r).length-1)+1:=by have h:(a::b::r).length=r.length+2:=rfl;have d:(b::r).length=r.length+1:=rfl;lia
   rw[e,List.eraseIdx_cons_succ,c]
   all_goals rfl
theorem foldl_rep(a:List Æ):∀(k:Nat)(b:List Æ),
  acE (λd x=>d++x) b.toArray (Ô k a.toArray)=(b++(Ô k a).flatten).toArray
 |0,b=>by simp
 |k+1,b=>by
  have e:b.toArray++a.toArray=(b++a).toArray:=by simp
  have c:(b++a)++(Ô k a).flatten=b++(Ô (k+1) a).flatten:=by rw[ă,İ,â]
  rw[<- c,<- foldl_rep a k (b++a),<- e,ă,ą]
section
variable{X:Cx}{l b:Addr}{ys zs:X1}
theorem Inv.Lb{its its':List Æ}{n:Nat}{f:Array Æ->Array Æ}{t':Nat}(I:Inv X pins σ H s)(h:H l=À (.lst xs))
  (e:s.heap.get? l=À {cls:=.type "list",data:=.seq its.toArray n}) (g:f its.toArray=its'.toArray) (a:Vals ys its') (hz:ys.length<=Ç) (k:0<t':=by accm_mu):
  Inv X pins σ (upd H l (.lst ys)) {s with heap:=s.heap.update l (ŭ f),toks:=t'}:=by
 have q:=PySem.IsL.update e f;rw[g]at q;refine I.write (x:=l) (e:=l) (by rw[h];exact trivial) (.inl rfl) (λm u c d=>(ý s.heap (ŭ f) (õ c)).trans d) ⟨_,q⟩ ?_;exact⟨hz,its',_,a,q⟩
theorem Inv.S5(I:Inv X pins σ H s)(h:Vals ys its)(hz:ys.length<=Ç)(a:0<t':=by accm_mu):
  Inv X pins σ (upd H s.heap.objs.size (.lst ys)) {s with heap:=s.heap.push {cls:=.type "list",data:=.seq its.toArray},toks:=t'}:=
 I.laid (λ_ _ q=>Ï _ q) (È _) ⟨hz,its,0,h,Ø _ rfl⟩
theorem Inv.fresh(I:Inv X pins σ H s):H s.heap.objs.size=Å:=I.hok.fresh (È _)
theorem Inv.GQ(I:Inv X pins σ H s)(h:H l=À (.lst xs)):xs.length<=Ç/\∃(its:List Æ)(n:Nat),Vals xs its/\xs.length=its.length/\s.heap.get? l=À {cls:=.type "list",data:=.seq its.toArray n}:=by obtain⟨z,its,n,r,e⟩:=I.hok l _ h;exact⟨z,its,n,r,r.length,e⟩
theorem zF(h:n<=Ç):ļ n=Â:=by unfold ļ;exact decide_eq_false ∅
end
section
variable{X:Cx}
def Lc:V->X1->Hp->VK->Prop:=λx vs H Q=>∃l xs y,x=.ref l/\vs=[y]/\H l=À (.lst xs)/\xs.length<Ç/\Q .bw (upd H l (.lst (xs++[y])))
theorem wk:XZ X "list.append" Lc:=by intro pins s g H x vs v m Q I f d h;obtain⟨l,xs,y,rfl,rfl,b,hz,q⟩:=h;cases f;obtain⟨u,rfl,c⟩:=d.one;obtain⟨z,a,n,r,k,e⟩:=I.GQ b;refine call_meets F.slot_list_append ⟨_,e,rfl⟩ F.entry_list_append (F.args_list_append_2 _ _) (PySem.list_append l a.toArray n u (by rw[ß];lia)) ⟨e,?_⟩;refine⟨.bw,_,I.Lb (its':=a++[u]) b e (by simp) (r.append (.cons c .nil)) ?_,rfl,q⟩;rw[Û,List.length_singleton];lia
def Wb:V->X1->Hp->VK->Prop:=λx vs H Q=>∃l xs y,x=.ref l/\vs=[]/\H l=À (.lst xs)/\xs[xs.length-1]?=À y/\Q y (upd H l (.lst xs.dropLast))
theorem O1:XZ X "list.pop" Wb:=by
 intro pins s w H x vs v A Q I k f h;obtain⟨l,xs,y,rfl,rfl,c,m,q⟩:=h;cases k;have g:=f.zero;subst g;obtain⟨z,a,n,r,o,e⟩:=I.GQ c;obtain⟨u,t,d⟩:=r.get m;have b:a.toArray[a.toArray.size-1]?=À u:=by show a.toArray[a.length-1]?=À u;rw[<- Array.getElem?_toList,<- o];exact t
 refine call_meets F.slot_list_pop ⟨_,e,rfl⟩ F.entry_list_pop (F.args_list_pop_1 _) (MeetsSeq.list_pop_last l a.toArray n u b (by rw[ß];lia)) ⟨e,?_⟩;refine⟨y,_,I.Lb (its':=a.dropLast) c e ?_ r.dropLast ?_,d,q⟩
 ·show a.toArray.eraseIdxIfInBounds (a.toArray.size-1)=a.dropLast.toArray;rw[ß,List.eraseIdxIfInBounds_toArray,BV]
 ·rw[List.length_dropLast];lia
def Wc:R2:=λx y H Q=>∃l k xs,x=.ref l/\y=.int k/\H l=À (.lst xs)/\-(2^63)<=k/\k<2^63/\xs.length*k.toNat<=Ç /\
 ∀p,H p=Å->Q (.ref p) (upd H p (.lst (Ô k.toNat xs).flatten))
theorem len_rep(xs:List α)(k:Nat):(Ô k xs).flatten.length=k*xs.length:=by
 induction k with
 |zero=>simp
 |succ k a=>rw[ă,İ,Û,a,ŵ,acN]
theorem O2:jB X (binaryOp .Mult) Wc:=by
 intro pins s M H x y v u Q I E K h;obtain⟨l,k,xs,rfl,rfl,A,G,D,hz,q⟩:=h;cases E;obtain⟨t,rfl⟩:=K;obtain⟨z,its,n,r,B,e⟩:=I.GQ A;have c:its.toArray.size*k.toNat<=Ç:=by rw[ß,<- B];exact hz
 have d:¬ its.toArray.size*k.toNat > (2^63-1)/8:=by
  have:(Ç:Nat)<=(2^63-1)/8:=by decide
  lia
 have b:¬ (!Builtin.List.listFitsIndex k)=Ä:=by rw[fitsIndex_both G D];exact ï
 have J:¬ ļ (its.toArray.size*k.toNat)=Ä:=by rw[zF c];exact ï
 have f:acE (λo g=>o++g) #[] (Ô (if its.toArray.isEmpty=Ä then 0 else k.toNat) its.toArray)=(Ô k.toNat its).flatten.toArray:=by
  have C:∀m:Nat,acE (λo g=>o++g) #[] (Ô m its.toArray)=(Ô m its).flatten.toArray:=λm=>by have:=foldl_rep its m [];rw[á]at this;exact this
  rw[C];cases its with
  |nil=>simp
  |cons a L=>rw[Β (by simp)]
 refine wpAny_binaryOp_repeat_ref (T:="list") (U:="int") (by decide) ⟨_,e,rfl⟩ (λw=>typeIs_int w k t) noFill_list_mul F.fills_int_mul ac7 repeat_list F.slot_int_index.lookup
  (call_meets ac7 (typeIs_int s k t) F.entry_int_rmul (F.args_int_rmul_2 _ _) (int___rmul___int_list k t l its.toArray n)
   ⟨e,rfl,⟨_,e,rfl⟩,call_meets F.slot_list_mul ⟨_,e,rfl⟩ F.entry_list_mul (F.args_list_mul_2 _ _) (AutoListH.list___mul___list_int_3 l its.toArray n k t b d J) ⟨e,?_⟩⟩)
 rw[f];exact⟨.ref _,_,I.S5 (t':=s.toks) (r.rep k.toNat) (by rw[len_rep,acO];exact hz),rfl,q _ I.fresh⟩
end
end
end L2
namespace X0
noncomputable section
open PySem PySem.W PySem.Calls PyProof.Rows
theorem rY{P:Params}{h:Heap}:∀(ns:D2)(vs:List Æ),WellAll P h vs (ns.map WData.int)->IntsAre vs ns:=by
 intro ns
 induction ns with
 |nil=>intro vs w;rw[ė]at w;cases w;exact .nil
 |cons n ns ih=>
  intro vs w;rw[É]at w;cases w with
  |cons a b=>cases a;exact .cons _ _ (ih _ b)
theorem EK{l:OpenLaw}{n:Nat}(j:l.most=À n){P:Params}{h:Heap}{args:List WData}{v:List Æ}
  (b:l.row.toRowW.claim.pre args=Ä) (hwl:WellAll P h v args):
  ∃a vs ns,v=[Value.ref a]/\args=[WData.list (ns.map WData.int)]/\h.get? a=À {cls:=.type "list",data:=.seq vs.toArray}/\IntsAre vs ns/\ns.length<=n:=by
 have g:WShape.hasAll [] args [.list .int]=Ä:=(pre_splitW b).1;have i:l.pre.holds [] {args:=args}=Ä:=(pre_splitW b).2;obtain⟨d,r,rfl,o,k⟩:=hasAllW_cons g;obtain rfl:=hasAllW_nil k;obtain⟨xs,rfl,p⟩:=hasW_list o;obtain⟨ns,rfl⟩:=items_int p;have c:ns.length<=n:=by
  unfold OpenLaw.pre at i;have e:(WTm.not (.lt (.lit (.int (n:Int))) (.len (.arg 0)))).holds [] {args:=[.list (ns.map .int)]}=Ä:=by have e:=(holds_andW i).1;rw[j]at e;exact e
  have f:=condW_of e (w_not (w_lt w_lit (w_len_list (w_arg rfl))));rw[Ú]at f;refine acW λq=>?_;have m:(n:Int)<((ns.length:Nat):Int):=∅
  first
   |(rw[decide_eq_true m]at f;exact absurd f (by decide))
   |(simp at f;lia)
 cases hwl with
 |cons w1 w2=>
  cases w2;cases w1 with
  |list ho hall=>exact⟨_,_,ns,rfl,rfl,ho,rY ns _ hall,c⟩
theorem EL(l:OpenLaw)(args:List WData):l.row.toRowW.claim.post args (.bool Ä) args=Ä:=
 postW_of (r:=l.row.toRowW) (X:=(Ä==Ä))
  (show WShape.has [] (.bool Ä) .bool=Ä by first|rfl|decide|simp[WShape.has,WShape.arms,WShape.armsAll])
  (show(WTm.eq .res (.lit (.bool Ä))).value [] {args:=args,res:=À (.bool Ä),after:=args}=À (.bool (Ä==Ä)) from w_eq_bool (w_res rfl) w_lit) rfl
theorem zH{l:OpenLaw}{n:Nat}{q:ô}{b:P3}{X:(Str->Option Æ)->Heap->Prop}{E:đ->Heap->Prop}{d:DefRec}
  (K:l.most=À n) (x:d.params.defaults=[])
  (i:∀(w:đ)(c s:Ì)(v z:Str->Option Æ)(g:Addr)(o:Obj)(y t e:Æ)(a:Addr)(vs:List Æ)(u:D2),
   Ground q b [] X w c v z s.heap->E w s.heap ->
   s.heap.get? g=À o->o.data=.func (docDef d.name d.params d.body d.scope y t e)->s.heap.CodeRec t d.name->v d.name=À (.ref g) ->
   s.heap.get? a=À {cls:=.type "list",data:=.seq vs.toArray}->IntsAre vs u->u.length<=n->s.gens=#[] ->
   codeAny (model l.prog w) callerA (.call (.ref g) ⟨[.ref a],[]⟩) (λr p=>r=.ok (.ret (.bool Ä))/\OldK s.heap p.heap/\p.os=s.os/\AllBare p.gens) s):
  WalkO q b X E l.row.toRowW d [] (λf vs=>adi f vs):=by
 intro w c s v z G Y g o y t e U kV L N C D B S I F V k H M A J;obtain rfl:U=.none:=Dflts.none D x;obtain rfl:kV=.none:=Dflts.noKw D;obtain⟨a,vs,u,rfl,rfl,m,h,j⟩:=EK K k A;refine enter_call (codeAny_mono (i w c s v z g o y t e a vs u G Y L (fd_plain N) C B m h j S) λr p R=>?_);obtain⟨rfl,T,P,Q⟩:=R;exact⟨.inl ⟨.bool Ä,.bool Ä,[],rfl,λ_=>rfl,.bool Ä,EL l _,λ_=>⟨List.Pairwise.nil,λ_ O=>(nomatch O)⟩⟩,T,P,Q⟩
end
end X0
namespace L2
noncomputable section
open PySem PySem.Spec PyProof.Rows
variable{kvs:List (List Key×V)}{xs:List (List Key×Addr×Æ)}{Q:Æ->Ì->Prop}{H H':Hp}{P:ô}{pins:N0}{w:đ}{o:Option V}{u:Option Æ}{a f b:Addr}{s:Ì}{osl:Array (Option Æ)}{qual x:Str}{vs:List (Key×Æ)}{h':Heap}{σ:St}{X:Cx}{od an:Option Addr}{ps:P3}{ks:List Key}{fd:FuncData}{pm oc doc d' ct cdv:Æ}{t':Nat}
theorem wo:∀{vs:List Æ}{c:D2},IntsAre vs c->Vals (c.map V.int) vs
 |_,_,.nil=>.nil
 |_,_,.cons n t h=>.cons ⟨t,rfl⟩ (wo h)
def Ld(H:Hp):Prop:=∀b,H b=Å\/∃o xs,H b=À (.eU o (.lst xs))
theorem GU{P:ô}{w:đ}{K:Ë}{D J:Str->Option Æ}{CX:vq}{k:Nat}{I a:Addr}{S:FuncData}{x:Str}{T:Sp}{c:Ì}{vs:List Æ}{C:D2}
  (W:K.In c.heap) (A:c.heap.Ns mainGlobals D) (g:c.heap.Ns builtinsNs J) (Vh:∀x:Str,x≠"__name__"->J x=bootBuiltins x) (B:c.heap.NoLimit) (hg:c.gens=#[])
  (G:c.heap.get? a=À {cls:=.type "list",data:=.seq vs.toArray}) (Z:IntsAre vs C) (O:C.length<=Ç) (hr:iC k callerA)
  (F:∀j:Heap,K.In j->j.Ns mainGlobals D->nG P w K D j CX k I S [x] T) (p:∀(s:Ì)(u:Æ),BindsTo s S ⟨[u],[]⟩ [(x,u)])
  (K3:∀H:Hp,Ld H->kG K H a (C.map V.int)->T [.ref a] H (λv _=>v=.bl Ä) λ_ _ _=>False)
  (Wd:∀H e i,CX [] H c (λ_ _ _=>False) e i->False):
  codeAny (model P w) callerA (.call (.ref I) ⟨[.ref a],[]⟩) (λr i=>r=.ok (.ret (.bool Ä))/\OldK c.heap i.heap/\i.os=c.os/\AllBare i.gens) c:=by
 have M:=wo Z;have We:=Z.length
 have l:∀H:Hp,Ld H->kG K H a (C.map V.int)->lR P w H c.heap->(∀b,H b≠Å->b=a)->(H a≠Å->K.lookup a=Å) ->
   codeAny (model P w) callerA (.call (.ref I) ⟨[.ref a],[]⟩) (λr i=>r=.ok (.ret (.bool Ä))/\OldK c.heap i.heap/\i.os=c.os/\AllBare i.gens) c:=by
  intro H N hS t U hK;have iW:∀{b:Addr}{o:Obj},c.heap.get? b=À o->H b=Å->(x8 c.heap H).get? b=À o:=λe n=>Gx e n;have SY:∀{b:Addr}{o:Obj}{es:Array DictEntry}{ep:Nat},c.heap.get? b=À o->o.data=.dict es ep->H b=Å:=λ{b o es ep} e d=>by
   cases q:H b with
   |none=>rfl
   |some u=>have L:b=a:=U b (by rw[q];simp);subst L;rw[G]at e;k_ne;have d':Data.seq vs.toArray _=Data.dict es ep:=d;cases d'
  have E:∀{b:Addr}{m:Str->Option Æ},c.heap.Ns b m->(x8 c.heap H).Ns b m:=λ{b m} zz=>by obtain⟨o,es,ep,e,d,r⟩:=zz;exact⟨o,es,ep,iW e (SY e d),d,r⟩
  have Y:K.In (x8 c.heap H):=λb o e=>iW (W b o e) (by
   cases q:H b with
   |none=>rfl
   |some u=>have L:b=a:=U b (by rw[q];simp);subst L;rw[hK (by rw[q];simp)]at e;cases e)
  have hM:Mod K D (x8 c.heap H):=⟨Y,E A,⟨J,E g,Vh⟩,let ⟨mc,h1,h2⟩:=B;⟨mc,E h1,h2⟩⟩;have e0:GK P w K D (x8 c.heap H) callerA [] c H:=⟨rfl,hM,λb o e=>KJ e,Nat.le_of_eq (Ez _ _),trivial,λb g=>absurd (show b∈([]:Q1) from g) (by simp),t,.of_eq hg⟩;refine codeAny_mono ((F _ Y (E A)).run callerA [] c H ⟨[.ref a],[]⟩ [.ref a] [.ref a] _ _ hr e0 (p c (.ref a)) (.cons rfl .nil) (K3 H N hS)) λr i h=>?_;cases r with
  |error e=>exact(Wd H e i h).elim
  |ok fl=>
   cases fl with
   |next=>exact Į h
   |brk=>exact Į h
   |cont=>exact Į h
   |ret u=>
    obtain⟨v,H',os,y,R,Wf,r',q⟩:=h;have q':v=.bl Ä:=q;subst q';obtain rfl:u=Value.bool Ä:=r';refine⟨rfl,OldK.of_keep λb o e=>?_,os.1,y⟩;cases q:H b with
    |none=>exact R.keep b o e q (by intro z;exact absurd (show b∈([]:Q1) from z) (by simp)) (by simp)
    |some u=>
     rcases N b with z|⟨ob,xs,z⟩
     ·rw[q]at z;cases z
     ·have z2:=R.lS b ob _ z;obtain⟨e1,_⟩:=t b _ z;obtain⟨e2,_⟩:=Wf b _ z2;rw[e]at e1;cases e1;exact e2
 cases hk:K.lookup a with
 |some o=>have e:=W a o hk;rw[G]at e;k_ne;refine l (λ_=>Å) (λ_=>.inl rfl) (.inr ⟨_,vs.toArray,_,hk,rfl,rfl,rfl,by rw[ß,We];exact O,‹M›⟩) (λb u z=>by have z':(Å:Option HO)=À u:=z;cases z') (λb z=>absurd rfl z) λz=>absurd rfl z
 |none=>
  refine l (λb=>if b=a then À (.eU {cls:=.type "list",data:=.seq vs.toArray} (.lst (C.map V.int))) else Å) (λb=>?_) (.inl (.inr ⟨{cls:=.type "list",data:=.seq vs.toArray},Α rfl⟩)) (λb u z=>?_) (λb z=>?_) λ_=>hk
  ·by_cases g:b=a
   ·exact .inr ⟨_,_,Α g⟩
   ·exact .inl (Β g)
  ·by_cases g:b=a
   ·have z':=(Α g).symm.trans z;cases z';subst g;exact⟨G,by rw[Ú];exact O,vs,_,M,G⟩
   ·have z':=(Β g).symm.trans z;cases z'
  ·by_cases g:b=a
   ·exact g
   ·exact absurd (Β g) z
def dO(s:Stmt):Arguments:=match s with
 |.FunctionDef _ a _ _ _ _ _ _ _ _=>a
 |_=>{posonlyargs:=[],args:=[],vararg:=Å,kwonlyargs:=[],kw_defaults:=[],kwarg:=Å,defaults:=[]}
def bZ(s:Stmt):List Stmt:=match s with
 |.FunctionDef _ _ b _ _ _ _ _ _ _=>b
 |_=>[]
def aD(s:Stmt):Scope:=match s with
 |.FunctionDef _ _ _ _ _ _ c _ _ _=>c
 |_=>{kind:=.function,names:=[],isGenerator:=Â,isCoroutine:=Â}
structure Le(K:Ë)(x qual:Str)(st:Stmt)(f:Addr)(fd:FuncData):Prop where
 ex:∃(oc:Æ)(od:Option Addr)(kV doc pm:Æ)(an:Option Addr)(cdv ct:Æ)(osl:Array (Option Æ)),
  fd=ć x qual (dO st) (bZ st) (aD st) .none kV doc pm an cdv ct/\K.lookup f=À ⟨oc,od,.func fd,osl⟩/\Ő K cdv qual=Ä
 kp:ď K (.ref f)=Ä
section
variable{K:Ë}{mg:Str->Option Æ}{base:Heap}
theorem Le.binds{st:Stmt}(F:Le K x qual st f fd)
  (h:∀(kV d p:Æ)(e:Option Addr)(c g:Æ)(i:List Æ),i.length=ps.length->bindArgs (ć x qual (dO st) (bZ st) (aD st) .none kV d p e c g) ⟨i,[]⟩=pure (ps.zip i)):Binds K fd ps []:=by
 obtain⟨l,n,kV,d,p,e,c,g,j,rfl,m,k⟩:=F.ex;exact .all (h kV d p e c g)
theorem O3{st:Stmt}{kV:Æ}(l:K.lookup f=À ⟨oc,od,.func (ć x qual (dO st) (bZ st) (aD st) .none kV doc pm an cdv ct),osl⟩)
  (c:Ő K cdv qual=Ä) (k:ď K (.ref f)=Ä):Le K x qual st f (ć x qual (dO st) (bZ st) (aD st) .none kV doc pm an cdv ct):=⟨⟨oc,od,kV,doc,pm,an,cdv,ct,osl,rfl,l,c⟩,k⟩
end
section
variable{κ:Type}[DecidableEq κ]
def nU(kvs:List (κ×V))(k:κ):Option V:=(kvs.find? λc=>decide (c.1=k)).map (·.2)
def putK(kvs:List (κ×V))(k:κ)(v:V):List (κ×V):=
 if (kvs.any λc=>decide (c.1=k))=Ä then kvs.map (λc=>if c.1=k then (c.1,v) else c) else kvs++[(k,v)]
theorem sX{p:κ×V}{r:List (κ×V)}{k:κ}(e:p.1=k):nU (p::r) k=À p.2:=by simp[nU,Ŗ,e]
theorem oW{p:κ×V}{r:List (κ×V)}{k:κ}(e:¬ p.1=k):nU (p::r) k=nU r k:=by simp[nU,Ŗ,e]
theorem zI(k:κ):∀kvs:List (κ×V),(kvs.any λc=>decide (c.1=k))=(nU kvs k).isSome
 |[]=>rfl
 |p::r=>by
  rw[aaO];by_cases e:p.1=k
  ·simp only[sX e,decide_eq_true e,Bool.true_or,Option.isSome_some]
  ·rw[oW e,decide_eq_false e,Bool.false_or];exact zI k r
theorem lX(kvs:List (κ×V))(k:κ)(v:V):(putK kvs k v).length<=kvs.length+1:=by
 unfold putK;split
 ·rw[Ú];lia
 ·rw[Û,Ñ,ņ];lia
theorem rT.jY(r:rT o u):o.isSome=u.isSome:=by
 cases o with
 |none=>cases u with
  |none=>rfl
  |some _=>exact(show False from r).elim
 |some _=>cases u with
  |none=>exact(show False from r).elim
  |some _=>rfl
theorem rT.getD{d:V}(r:rT o u)(c:RelV d d'):RelV (o.getD d) (u.getD d'):=by
 cases o with
 |none=>cases u with
  |none=>exact c
  |some _=>exact(show False from r).elim
 |some _=>cases u with
  |none=>exact(show False from r).elim
  |some _=>exact r
theorem KV.val{kvs:List (κ×V)}{vs:List (κ×Æ)}(r:KV kvs vs)(k:κ):rT (nU kvs k) (valueAt vs k):=by
 unfold KV at r
 induction r with
 |nil=>exact abU
 |@cons p q l c h t j=>
  obtain⟨g,i⟩:=h;by_cases e:p.1=k
  ·have d:q.1=k:=g.symm.trans e;have b:valueAt (q::c) k=À q.2:=by simp[valueAt,Ŗ,d]
   rw[sX e,b];exact i
  ·have d:¬ q.1=k:=λz=>e (g.trans z);have b:valueAt (q::c) k=valueAt c k:=by simp[valueAt,Ŗ,d]
   rw[oW e,b];exact j
theorem KV.any{kvs:List (κ×V)}{vs:List (κ×Æ)}(r:KV kvs vs)(k:κ):(kvs.any λc=>decide (c.1=k))=vs.any λc=>decide (c.1=k):=by
 unfold KV at r
 induction r with
 |nil=>rfl
 |cons h t i=>rw[aaO,aaO,i,h.1]
theorem KV.repl{kvs:List (κ×V)}{vs:List (κ×Æ)}(r:KV kvs vs)(k:κ){y:V}{u:Æ}(i:RelV y u):
  KV (kvs.map λc=>if c.1=k then (c.1,y) else c) (vs.map λc=>if c.1=k then (c.1,u) else c):=by
 unfold KV at r |-
 induction r with
 |nil=>exact .nil
 |@cons p q l m h t j=>
  rw[É,É];refine .cons ?_ j;obtain⟨d,g⟩:=h;by_cases e:p.1=k
  ·rw[Α e,Α (d.symm.trans e)];exact⟨d,i⟩
  ·rw[Β e,Β (λz=>e (d.trans z))];exact⟨d,g⟩
theorem KV.put{kvs:List (κ×V)}{vs:List (κ×Æ)}(r:KV kvs vs)(k:κ){y:V}{u:Æ}(c:RelV y u):KV (putK kvs k y) (stored vs k u):=by
 unfold putK stored;rw[r.any k];by_cases e:(vs.any λd=>decide (d.1=k))=Ä
 ·rw[Α e,Α e];exact r.repl k c
 ·rw[Β e,Β e];exact Paired.snoc r ⟨rfl,c⟩
theorem KV.length{kvs:List (κ×V)}{vs:List (κ×Æ)}(r:KV kvs vs):kvs.length=vs.length:=ž r
end
theorem wu{k:Key}{u:Æ}(r:RelV (kV k) u):(cF P w).is k u=Ä:=by
 cases k with
 |inl i=>obtain⟨t,e⟩:=(show ∃t,u=Value.int i t from r);x_go;exact zy P w i t
 |inr x=>obtain⟨t,e⟩:=(show ∃t,u=Value.str x t from r);x_go;exact zz P w x t
theorem wz{P:ô}{w:đ}:∀{ks:List Key}{c:List Æ},Vals (ks.map kV) c->ItemsAre (cF P w) ks c
 |[],_,r=>by rw[ė]at r;cases r;exact .nil
 |k::ks,_,r=>by
  rw[É]at r;cases r with
  |cons h t=>exact .cons (wu h) (wz t)
abbrev KT(H:Hp):List (List Key×V)->List (List Key×Addr×Æ)->Prop:=Paired λp q=>p.1=q.1/\H q.2.1=À (.tup (p.1.map kV))/\RelV p.2 q.2.2
theorem KT.val(r:KT H kvs xs)(k:List Key):rT (nU kvs k) ((atKey xs k).map (·.2)):=by
 induction r with
 |nil=>exact abU
 |@cons p q l c h t j=>
  obtain⟨g,_,i⟩:=h;by_cases e:p.1=k
  ·have d:q.1=k:=g.symm.trans e;have b:atKey (q::c) k=À q.2:=by simp[atKey,Ŗ,d]
   rw[sX e,b];exact i
  ·have d:¬ q.1=k:=λz=>e (g.trans z);have b:atKey (q::c) k=atKey c k:=by simp[atKey,Ŗ,d]
   rw[oW e,b];exact j
theorem KT.repl(r:KT H kvs xs)(k:List Key){y:V}{u:Æ}(i:RelV y u):
  KT H (kvs.map λd=>if d.1=k then (d.1,y) else d) (xs.map (putAt k u)):=by
 induction r with
 |nil=>exact .nil
 |@cons p q m n h t j=>
  rw[É,É];refine .cons ?_ j;obtain⟨c,g,l⟩:=h;unfold putAt;by_cases e:p.1=k
  ·rw[Α e,Α (c.symm.trans e)];exact⟨c,g,i⟩
  ·rw[Β e,Β (λz=>e (c.trans z))];exact⟨c,g,l⟩
theorem KT.put(r:KT H kvs xs)(k:List Key){b:Addr}{y:V}{u:Æ}(h:H b=À (.tup (k.map kV)))(c:RelV y u):
  KT H (putK kvs k y) (storedH xs k b u):=by
 have e:(kvs.any λd=>decide (d.1=k))=(atKey xs k).isSome:=by rw[zI,(r.val k).jY,Option.isSome_map]
 unfold putK storedH;rw[e];by_cases q:(atKey xs k).isSome=Ä
 ·rw[Α q,Α q];exact r.repl k c
 ·rw[Β q,Β q];exact Paired.snoc r ⟨rfl,h,c⟩
theorem KT.keeps(r:KT H kvs xs)(h:∀b ys,H b=À (.tup ys)->H' b=À (.tup ys)):KT H' kvs xs:=
 Paired.Oh r λ_ _ z=>⟨z.1,h _ _ z.2.1,z.2.2⟩
section
variable{h:Heap}
theorem Nv{u:HO}(c:lR P w H h)(e:Rd H a u):d9 P w H h a u:=e.ok c
theorem qY{kvs:List (Key×V)}(c:lR P w H h)(e:Rd H a (.dK kvs)):kvs.length<=Ç/\(a==sysModules)=Â/\∃vs,KV kvs vs/\h.DictOf (cF P w) a vs:=
 show d9 P w H h a (.dK kvs) from Nv c e
theorem S6{kvs:List (Key×V)}(c:lR P w H h)(e:H a=À (.dK kvs)):kvs.length<=Ç/\(a==sysModules)=Â/\∃vs,KV kvs vs/\h.DictOf (cF P w) a vs:=qY c (.inl e)
theorem nV(d:lR P w H h)(e:H a=À (.tup (ks.map kV))):(tupleKind (cF P w)).is h ks a:=by obtain⟨_,i,r,o,c,g,n,j⟩:=(show d9 P w H h a (.tup (ks.map kV)) from d a _ e);exact⟨o,i.toArray,n,c,g,j,by simpa using wz r⟩
theorem qZ(g:lR P w H h)(e:Rd H a (.dT kvs)):kvs.length<=Ç/\(a==sysModules)=Â /\
  ∃xs,KT H kvs xs/\h.DictOfH (tupleKind (cF P w)) a xs:=by
 obtain⟨z,y,xs,r,o,es,ep,A,j,B,n,v⟩:=(show d9 P w H h a (.dT kvs) from Nv g e);refine⟨z,y,xs,r,o,es,ep,A,j,B,n,λx c=>?_,v⟩;have d:∀{l:List (List Key×V)}{m:List (List Key×Addr×Æ)},KT H l m->∀x∈m,(tupleKind (cF P w)).is h x.1 x.2.1:=by
  intro l m q
  induction q with
  |nil=>intro x c;exact nomatch c
  |@cons p q C D i t k=>
   intro x c;rcases Þ.mp c with e|c
   ·x_go;exact nV g (by rw[<- i.1];exact i.2.1)
   ·exact k x c
 exact d r x c
theorem Nx(c:lR P w H h)(e:H a=À (.dT kvs)):kvs.length<=Ç/\(a==sysModules)=Â /\
  ∃xs,KT H kvs xs/\h.DictOfH (tupleKind (cF P w)) a xs:=qZ c (.inl e)
end
def BW(H:Hp)(a:Addr)(y:V)(r:Option V):Prop:=
 (∃kvs k,Rd H a (.dK kvs)/\y=kV k/\r=nU kvs k)\/∃kvs k b,Rd H a (.dT kvs)/\y=.ref b/\H b=À (.tup (k.map kV))/\r=nU kvs k
def sY(H:Hp)(a:Addr)(y v:V)(H':Hp):Prop:=
 (∃kvs k,H a=À (.dK kvs)/\y=kV k/\kvs.length<Ç/\H'=upd H a (.dK (putK kvs k v))) \/
 ∃kvs k b,H a=À (.dT kvs)/\y=.ref b/\H b=À (.tup (k.map kV))/\kvs.length<Ç/\H'=upd H a (.dT (putK kvs k v))
theorem sY.k{H:Hp}{a:Addr}{kvs:List (Key×V)}{k:Key}{v:V}(e:H a=À (.dK kvs))(h:kvs.length<Ç):sY H a (kV k) v (upd H a (.dK (putK kvs k v))):=.inl ⟨kvs,k,e,rfl,h,rfl⟩
theorem sY.t{k:List Key}{v:V}(e:H a=À (.dT kvs))(c:H b=À (.tup (k.map kV)))(h:kvs.length<Ç):
  sY H a (.ref b) v (upd H a (.dT (putK kvs k v))):=.inr ⟨kvs,k,b,e,rfl,c,h,rfl⟩
section
variable{y v:V}{u r:Æ}{A:Around}{E:Æ->Ì->Prop}
theorem Inv.big(I:Inv X pins σ H s):sysModules<s.heap.objs.size:=by have h:mainGlobals<s.heap.objs.size:=(I.mod.glob.keeps I.bk).lt;exact Nat.lt_trans (by decide) h
theorem EN(C:A.units+1<cLine)(I:Inv X pins σ H s)(g:BW H a y (À v))(t:RelV y u)(h:∀i q,Inv X pins σ H q->RelV v i->Q i q):
  à (model X.prog X.w) A (getItem (.ref a) u) Q E s:=by
 rcases g with⟨kvs,k,e,m,l⟩|⟨kvs,k,b,e,m,D,l⟩
 ·subst m;obtain⟨z,B,vs,c,dd⟩:=qY I.hok e;obtain⟨i,n,d⟩:=rT.some_of (v:=v) (o:=valueAt vs k) (by rw[l];exact c.val k);exact wpAny_getItem_of (wu t) dd.mapOf n (h i _ (I.tok _) d)
 ·subst m;cases (show u=Value.ref b from t);obtain⟨z,B,xs,c,dd⟩:=qZ I.hok e;obtain⟨i,n,d⟩:=rT.some_of (v:=v) (o:=(atKey xs k).map (·.2)) (by rw[l];exact c.val k);obtain⟨p,F,j⟩:=Option.map_eq_some_iff.mp n;refine wpAny_getItem_heap (tupleKind_room_in1 C) (nV I.hok D) dd F ?_;rw[j];exact h i _ (I.tok _) d
theorem Wg(n:A.units+1<cLine)(I:Inv X pins σ H s)(g:BW H a y o)(m:RelV y u)(h:∀j,Inv X pins σ H j->Q (.bool o.isSome) j):
  à (model X.prog X.w) A (compareOp .In u (.ref a)) Q E s:=by
 rcases g with⟨kvs,k,e,d,l⟩|⟨kvs,k,b,e,d,p,l⟩
 ·subst d;obtain⟨z,i,vs,c,dd⟩:=qY I.hok e;refine wpAny_in_of (wu m) i dd.mapOf ?_;rw[<- (c.val k).jY,<- l];exact h _ (I.tok _)
 ·subst d;cases (show u=Value.ref b from m);obtain⟨z,i,xs,c,dd⟩:=qZ I.hok e;refine wpAny_in_heap (tupleKind_room_in1 n) (nV I.hok p) i dd ?_;have q:=(c.val k).jY;rw[Option.isSome_map]at q;rw[<- q,<- l];exact h _ (I.tok _)
theorem Lg(n:A.units+1<cLine)(I:Inv X pins σ H s)(g:BW H a y o)(m:RelV y u)(h:∀j,Inv X pins σ H j->Q (.bool (!o.isSome)) j):
  à (model X.prog X.w) A (compareOp .NotIn u (.ref a)) Q E s:=by
 rcases g with⟨kvs,k,e,d,l⟩|⟨kvs,k,b,e,d,p,l⟩
 ·subst d;obtain⟨z,i,vs,c,dd⟩:=qY I.hok e;refine wpAny_notIn_of (wu m) i dd.mapOf ?_;rw[<- (c.val k).jY,<- l];exact h _ (I.tok _)
 ·subst d;cases (show u=Value.ref b from m);obtain⟨z,i,xs,c,dd⟩:=qZ I.hok e;refine wpAny_notIn_heap (tupleKind_room_in1 n) (nV I.hok p) i dd ?_;have q:=(c.val k).jY;rw[Option.isSome_map]at q;rw[<- q,<- l];exact h _ (I.tok _)
theorem yi{c:HO}(I:Inv X pins σ H s)(m:Sn (H a))(h:Ř a s.heap h')(g:∃q,h'.get? a=À q)(n:d9 X.prog X.w (upd H a c) h' a c)(i:0<t':=by accm_mu):
  Inv X pins σ (upd H a c) {s with heap:=h',toks:=t'}:=
 I.write (x:=a) (e:=a) m (.inl rfl) (λb q d z=>(h.2 b d).trans z) g n
theorem O4{kvs:List (Key×V)}(z:kvs.length<=Ç)(h:(a==sysModules)=Â)(c:KV kvs vs)(dd:h'.DictOf (cF P w) a vs):
  d9 P w H' h' a (.dK kvs):=⟨z,h,vs,c,dd⟩
theorem EO{Q:Unit->Ì->Prop}(N:A.units+1<cLine)(I:Inv X pins σ H s)(g:sY H a y v H')(G:RelV y u)(C:RelV v r)(h:∀B,Inv X pins σ H' B->Q () B):
  à (model X.prog X.w) A (setItem (.ref a) u r) Q E s:=by
 rcases g with⟨kvs,k,e,j,l,p⟩|⟨kvs,k,b,e,j,F,l,p⟩
 ·subst j p;obtain⟨z,t,vs,d,dd⟩:=S6 I.hok e;have hz:vs.length<=Ç:=by rw[<- d.length];exact z
  have m:(putK kvs k v).length<=Ç:=by have:=lX kvs k v;lia
  refine wpAny_setItem_pairs (hsz:=hz) (wu G) dd λh' R n=>h _ ?_;have J:∃q,h'.get? a=À q:=let ⟨q,_,_,i,_⟩:=R;⟨q,i⟩
  exact yi I (by rw[e];exact abU) n J (O4 m t (d.put k C) R)
 ·subst j p;cases (show u=Value.ref b from G);obtain⟨z,t,xs,d,dd⟩:=Nx I.hok e;have hz:xs.length<=Ç:=by rw[<- ž d];exact z
  have m:(putK kvs k v).length<=Ç:=by have:=lX kvs k v;lia
  refine wpAny_setItem_heap (hsz:=hz) (tupleKind_room_in1 N) (nV I.hok F) dd λh' R n=>h _ ?_;obtain⟨q,es,ep,i,L,O,K,_,M⟩:=R;refine yi I (by rw[e];exact abU) n ⟨q,i⟩ ⟨m,t,_,(d.put k F C).keeps λc ys D=>?_,q,es,ep,i,L,O,K,M⟩;rw[aK (eY D e (λz=>nomatch z))];exact D
end
def GV(i:Expr):Prop:=∀c d,subscripted i Â c d=operate [c,d] (getItem c d)
theorem Lh{prog:ô}{w:đ}{A:Around}{E:Æ->Ì->Prop}{s:Ì}{env:Env}{v c:Expr}{pos:Pos}{T p:String}{Q:Æ->Ì->Prop}
  (q:typeLookup (.type T) "__getitem__"=pure (À (.builtin p))) (t:GV c)
  (h:à (model prog w) A (eval v env) (λo g=>à (model prog w) A (eval c env) (λi d=>d.TypeIs o T/\à (model prog w) A (getItem o i) Q E d) E g) E s):
  à (model prog w) A (eval (.Subscript v c pos) env) Q E s:=by
 refine Subscript_ (ÿ h (λo g l=>ÿ l (λi d e=>?_) λ_ _ x=>x) λ_ _ x=>x);obtain⟨n,e⟩:=e;unfold subscriptTail;refine Ã ?_;rw[getitemInPython_of_ne n.not_modules];refine Ã (aaa n q ?_);have k:à (model prog w) A (subscripted c Â o i) (λr j=>à (model prog w) A (letTemporaryGo v o r >>= λ_=>pure r) Q E j) E d:=by rw[t o i];exact wpAny_operating (ÿ e (λr j m=>Ã (wpAny_letTemporaryGo (Ó m))) λ_ _ x=>x)
 first
  |exact Ó (Ã k)
  |exact Ã (Ó (Ã k))
  |exact Ã k
theorem zJ{y:V}(I:Inv X pins σ H s)(g:BW H a y o):s.TypeIs (.ref a) "dict":=by
 rcases g with⟨kvs,k,e,_,_⟩|⟨kvs,k,b,e,_,_,_⟩
 ·obtain⟨_,_,vs,_,dd⟩:=qY I.hok e;exact dd.typeIs
 ·obtain⟨_,_,xs,_,dd⟩:=qZ I.hok e;exact dd.typeIs
def S7(t e:TE):TE:=λd H Q=>t d H λx g=>e d g λy c=>∃a v,x=.ref a/\BW c a y (À v)/\Q v c
def oX(t i g:TE):TS:=λD c H=>g c H λv j=>t c j λx h=>i c h λy e=>∃a d,x=.ref a/\sY e a y v d/\D.nx c d
section
variable{o i e value:Expr}{pos pos' tpos:Pos}{td ty tv:TE}
theorem Dr(z:X.A.units+1<cLine)(l:PE X o td)(j:PE X i ty)(p:GV i):PE X (.Subscript o i pos) (S7 td ty):=by kt_k;refine Lh PySem.F.slot_dict_getitem.lookup p (d7 (l pins s σ H _ I h) λu D ⟨x,E,k,n,q⟩=>d7 (j pins D σ E _ k q) λL J zz=>?_);obtain⟨y,t,c,C,a,v,m,g,B⟩:=zz;subst m;obtain rfl:u=Value.ref a:=n;exact⟨zJ c g,EN z c g C λK G d r=>⟨v,t,d,r,B⟩⟩
theorem Ds(L:X.A.units+1<cLine)(C:PE X o td)(M:PE X i ty)(K:PE X value tv)(G:swapsWith value (À (.Subscript o i pos')) pos.line X.env=pure Â):
  PS X (.Assign [.Subscript o i pos'] value pos) (oX td ty tv):=by
 intro pins s c H D I h;refine wpAny_Assign_Subscript (d7 (K pins s c H _ I h) λr t ⟨v,O,j,d,q⟩=>d7 (C pins t c O _ j q) λu k ⟨x,m,J,F,p⟩=>d7 (M pins k c m _ J p) λT R zz=>?_) G;obtain⟨y,S,B,E,a,n,l,g,z⟩:=zz;subst l;obtain rfl:u=Value.ref a:=F;exact EO L B g E d λU N=>⟨c,n,N,z⟩
end
theorem GW(h:Heap)(c:sysModules<h.objs.size):d9 P w H (h.push {cls:=.type "dict",data:=.dict #[]}) h.objs.size (.dK []):=
 ⟨é _,beq_eq_false_iff_ne.mpr (õ (ã c)),[],.nil,Heap.DictOf.new h⟩
theorem zK(h:Heap)(c:sysModules<h.objs.size):d9 P w H (h.push {cls:=.type "dict",data:=.dict #[]}) h.objs.size (.dT []):=
 ⟨é _,beq_eq_false_iff_ne.mpr (õ (ã c)),[],.nil,_,#[],0,Ø _ rfl,⟨rfl,rfl,rfl⟩,rfl,rfl,List.nodup_nil⟩
def O5:TE:=λ_ H Q=>∀p,H p=Å->Q (.ref p) (upd H p (.dK []))
def O6:TE:=λ_ H Q=>∀p,H p=Å->Q (.ref p) (upd H p (.dT []))
section
variable{pos:Pos}
theorem GX:PE X (.Dict [] [] pos) O5:=λpins s c H Q I h=>
 acX ⟨.ref s.heap.objs.size,_,I.laid (a:=s.heap.objs.size) (o:=.dK []) (t':=s.toks) (λ_ _ q=>Ï _ q) (È _) (GW s.heap I.big),rfl,h _ (I.hok.fresh (È _))⟩
theorem GY:PE X (.Dict [] [] pos) O6:=λpins s c H Q I h=>
 acX ⟨.ref s.heap.objs.size,_,I.laid (a:=s.heap.objs.size) (o:=.dT []) (t':=s.toks) (λ_ _ q=>Ï _ q) (È _) (zK s.heap I.big),rfl,h _ (I.hok.fresh (È _))⟩
end
structure M2(X:Cx)(o:Expr)(m:Str)(apos:Pos)(e f:Expr)(cpos:Pos):Prop where
 base:attributeBase o m X.env (eval o X.env)=eval o X.env
 few:((backTo cpos (ä [e,f] X.env)).all (λx=>!x.1)&&(backToKw cpos (keywordEach [] X.env)).all (λx=>x.1.isSome)
  && decide (([e,f]:U2).length+([]:List Keyword).length+(if ([]:List Keyword).isEmpty then 0 else 1)<30))=Ä
 line:(apos.endLine==cpos.line)=Ä
 trees:backTo cpos (ä [e,f] X.env)=[(Â,eval e X.env),(Â,eval f X.env)]
def X4(H:Hp)(a:Addr):Prop:=(∃kvs,Rd H a (.dK kvs))\/∃kvs,Rd H a (.dT kvs)
theorem O7(I:Inv X pins σ H s)(d:X4 H a):
  s.TypeIs (.ref a) "dict"/\(∀b,Value.ref a=.ref b->∃c,s.heap.get? b=À c/\c.dict=Å)/\(a==sysModules)=Â:=by
 rcases d with⟨kvs,e⟩|⟨kvs,e⟩
 ·obtain⟨_,i,vs,_,dd⟩:=qY I.hok e;refine⟨dd.typeIs,λb q=>?_,i⟩;cases q;obtain⟨c,_,_,h,g,_⟩:=dd;exact⟨c,h,g.2.1⟩
 ·obtain⟨_,i,xs,_,dd⟩:=qZ I.hok e;refine⟨dd.typeIs,λb q=>?_,i⟩;cases q;obtain⟨c,_,_,h,g,_⟩:=dd;exact⟨c,h,g.2.1⟩
section
variable{y d:V}{u r:Æ}{A:Around}{E:Æ->Ì->Prop}
theorem O8(t:A.units+1<cLine)(I:Inv X pins σ H s)(g:BW H a y o)(q:RelV y u)(p:RelV d r)(h:∀n m,Inv X pins σ H m->RelV (o.getD d) n->Q n m):
  à (model X.prog X.w) A (call (.builtin "dict.get") [.ref a,u,r]) Q E s:=by
 rcases g with⟨kvs,k,e,i,l⟩|⟨kvs,k,b,e,i,v,l⟩
 ·subst i;obtain⟨z,j,vs,c,dd⟩:=qY I.hok e;refine call_meetsIn aaD dd.typeIs abV (abL _ _ _) (meets_dict_get_default (cF X.prog X.w) a (wu q) j r) ⟨_,dd.mapOf,h _ _ (I.tok _) ?_⟩;rw[l];exact(c.val k).getD p
 ·subst i;cases (show u=Value.ref b from q);obtain⟨z,j,xs,c,dd⟩:=qZ I.hok e;refine call_meetsIn aaD dd.typeIs abV (abL _ _ _) (meetsH_dict_get_default (tupleKind (cF X.prog X.w)) a b j r) ⟨tupleKind_room_in1 t,k,xs,nV I.hok v,dd,h _ _ (I.tok _) ?_⟩;rw[l];exact(c.val k).getD p
end
def O9(t h i:TE):TE:=λc H Q=>t c H λx e=>∃a,x=.ref a/\X4 e a/\h c e λy g=>i c g λz d=>∃o,BW d a y o/\Q (o.getD z) d
section
variable{o e f:Expr}{apos cpos:Pos}{td ty tx:TE}
theorem GZ(K:X.A.units+1<cLine)(E:PE X o td)(k:PE X e ty)(L:PE X f tx)(m:M2 X o "get" apos e f cpos):PE X (.Call (.Attribute o "get" apos) [e,f] [] cpos) (O9 td ty tx):=by
 kt_k;refine wpAny_Call_method m.base m.few m.line PySem.F.plainAttrs_dict aaD PySem.F.type_dict_get (d7 (E pins s σ H _ I h) λu v zz=>?_);obtain⟨x,R,c,G,a,l,d,q⟩:=zz;subst l;obtain rfl:u=Value.ref a:=G;obtain⟨C,N,_⟩:=O7 c d;refine⟨C,N,?_⟩;rw[m.trees];refine aap rfl (aaU (ť (d7 (k pins v σ R _ c q) λU j ⟨y,p,J,M,t⟩=>
  ť (d7 (L pins j σ p _ J t) λY S ⟨z,n,D,i,T,g,B⟩=>aan ?_))))
 exact O8 K D g M i λV W O r=>⟨_,n,O,r,B⟩
end
end
end L2
set_option genInjectivity true
namespace L3
noncomputable section
open PySem PySem.Spec L2
variable{K:Ë}{mg:Str->Option Æ}{ρ ρ0 ρ' ch as:Q1}{H H0 H':Hp}{pins pn fH:N0}{Q E E':Æ->Ì->Prop}{es:U2}{i n ep j nn src fu:Nat}{σ σ0:L2.St}{e tg c:Expr}{s s1:Ì}{xs vs vF:X1}{a l it C l2 l1 i2 i1 z gl bi:Addr}{body suite orelse els:List Stmt}{x y b qual name n0:Str}{items ys ws its:Array Æ}{p:List Æ->Prop}{w:đ}{P prog q:ô}{u:List (List Key×V)}{cl:List (Str×Addr)}{Dd D':Ends}{ks:L9}{A A':Around}{h h' base B:Heap}{X:Cx}{N ps loose ns ss' ss:P3}{XP:(Str->Option Æ)->Heap->Prop}{o oe:Obj}{fd:FuncData}{spos py px pos pz pc p2 np cpos:Pos}{tp t2 t1:Bool}{sc scope Vj:Scope}{od func an:Option Addr}{sl osl:Array (Option Æ)}{gens:List Comprehension}{a0 oc cdv cv pm fl doc dV ct code c0:Æ}{v:V}{gv:Int->Int->V}{op:CmpOp}{qs:List PyData}{run:Æ->List Æ->Sem Æ}{env env':Env}{YP:đ->Heap->Prop}{rest hs:List ExceptHandler}{Q':Bool->Hp->Prop}{W:List (Option Str)}{kwd:List (Str×Expr)}{own:List (Option V)}{h0:ExceptHandler}{t':TT}{ob:HO}{lo hi:Option Expr}{us args:List Æ}{outer:List Env}{M':Model}{κ α:Type}{b0:Stmt}{ti:Tok}
structure yj where
 name:Str
 qual:Str
 params:Arguments
 body:FuncBody
 scope:Scope
 pos:Pos
 names:P3
def freeNames(d:Scope):P3:=((d.names.filter λq=>q.2==.free).map (·.1)).reverse
def oY(q:Str):List Stmt->Option yj
 |.FunctionDef name f body _ _ _ d _ _ pos::_=>À ⟨name,q++".<locals>."++name,f,.stmts body,d,pos,freeNames d⟩
 |.Assign [_] (.Call _ es _ _) _::r=>match es.getLast? with
  |some (.Lambda f body d pos)=>À ⟨"<lambda>",q++".<locals>."++"<lambda>",f,.expr body,d,pos,freeNames d⟩
  |_=>oY q r
 |.Return (À (.Call _ es _ _)) _::r=>match es.getLast? with
  |some (.Lambda f body d pos)=>À ⟨"<lambda>",q++".<locals>."++"<lambda>",f,.expr body,d,pos,freeNames d⟩
  |_=>oY q r
 |_::r=>oY q r
 |[]=>Å
def Ny(K:Ë)(m:Str->Option Æ)(y:Str):Option yj:=match m y with
 |some (.ref f)=>(match K.lookup f with
  |some ⟨_,_,.func d,_⟩=>(match d.body with
   |.stmts b=>oY d.qualname b
   |_=>Å)
  |_=>Å)
 |_=>Å
inductive D where
 |bw|bl (b:Bool)|int (i:Int)|str (x:Str)|tup (xs:List D)|con (xs:List D)|obj (n:Nat)|fn (x:Str)|Ky (cls:Str) (args:List D)|Kz (y:Str) (caps:List D)
abbrev X2:=List D
abbrev X9:=Option D
abbrev Y1:=List (Key×D)
variable{ds os acc zs ds':X2}{gO:D->Option X2}{kvs:List (List Key×D)}
inductive DO where
 |lst (xs:X2)
 |dead
 |dct (kvs:Y1)
 |tab (y:Str)
 |aU (fz:Bool) (kvs:List (List Key×D))
 |RY (kvs:Y1)
 |ins (c:Str) (fs:List (Str×D))
abbrev DH:=List DO
variable{G G0 G':DH}
abbrev DS:=List X9
variable{τ τ1:DS}
inductive XD where
 |mk (cls:Str) (args:X2)
inductive Out(α:Type) where
 |stuck
 |ok (a:α) (G:DH)
 |bR (c:XD) (G:DH)
abbrev M(d:Type):=DH->Out d
variable{m r:DS->M X2}{f:D->D->M D}{mo te mv mi me:DS->M D}{tt:DS->M Bool}{ml:DS->M (Option Int)}{mf:X2->M D}
def M.bind{d g:Type}(m:M d)(k:d->M g):M g:=λG=>match m G with
 |.stuck=>.stuck
 |.ok a G'=>k a G'
 |.bR c G'=>.bR c G'
def M.ret{d:Type}(a:d):M d:=λG=>.ok a G
abbrev Y2:=DS->M D
def M.stop{d:Type}:M d:=λ_=>.stuck
def zu(H:Hp)(a:Addr)(xs:X1):Prop:=H a=À (.tup xs)
theorem zu.of(h:H a=À (.tup xs)):zu H a xs:=h
theorem zu.t(h:zu H a xs):nA K H a xs:=.inl (.inl h)
instance {K:Ë} {H:Hp} {a:Addr} {xs:X1}:Coe (zu H a xs) (nA K H a xs):=⟨zu.t⟩
def RZ(K:Ë)(H:Hp)(a:Addr)(xs:X1):Prop:=
 (∃o,H a=À (.eU o (.lst xs))) \/
  ∃(o:Obj)(d:Array Æ)(n:Nat),K.lookup a=À o/\o.cls=.type "list"/\o.dict=Å/\o.data=.seq d n/\d.size<=Ç/\Vals xs d.toList
theorem RZ.seq(h:RZ K H a xs):kG K H a xs:=by
 rcases h with⟨o,h⟩|h
 ·exact .inl (.inr ⟨o,h⟩)
 ·exact .inr h
def S8(a:Addr)(d:Æ):Heap->Prop:=λh=>∃o vs,h.get? a=À o/\o.cls=d/\o.data=.fields vs/\o.dict=Å
abbrev S9(k:yj)(cs:Q1)(doc pm:Æ)(c:Addr)(ctv:Æ):FuncData:=
 {name:=k.name,qualname:=k.qual,params:=k.params,body:=k.body,scope:=k.scope,globals:=mainGlobals,closure:=k.names.zip cs,defaults:=.none,kwdefaults:=.none,doc,pyModule:=pm,annotations:=Å,code:=.ref c,closureTuple:=ctv,builtins:=builtinsNs}
abbrev Pa(k:yj)(cs:Q1)(doc pm:Æ)(c:Addr)(ctv:Æ):Obj:={cls:=.type "function",data:=.func (S9 k cs doc pm c ctv)}
def Pb(H:Hp)(a:Addr)(o:Obj):Prop:=H a=À (.eU o (.own 0))
def sZ(H:Hp)(c:Addr)(d:Str):Prop:=∃(g:Obj)(vs:Array Æ)(t:Tok),Pb H c g/\g.data=.fields vs/\vs[1]?=À (.str d t)
def Dt(H:Hp)(k:yj)(a:Addr)(d:Q1):Prop:=d.length=k.names.length/\d.Nodup/\∃(t D g:Æ)(c:Addr),Pb H a (Pa k d t D c g)/\sZ H c k.qual
def oZ(H:Hp):Q1->X1->Prop
 |[],xs=>xs=[]
 |c::d,xs=>∃(x:V)(r:X1)(o:Obj)(u:Æ),xs=x::r/\Pb H c o/\o.data=.cell (À u)/\RelV x u/\oZ H d r
mutual
def Rep(K:Ë)(d:Str->Option Æ)(ρ:Q1)(H:Hp):D->V->Prop
 |.bw,v=>v=.bw
 |.bl b,v=>v=.bl b
 |.int i,v=>v=.int i
 |.str x,v=>v=.str x
 |.tup ds,v=>∃a xs,v=.ref a/\zu H a xs/\aq K d ρ H ds xs
 |.con ds,v=>∃a xs,v=.ref a/\RZ K H a xs/\aq K d ρ H ds xs
 |.obj n,v=>∃a,v=.ref a/\ρ[n]?=À a
 |.fn x,v=>∃a,v=.ref a/\d x=À (.ref a)
 |.Ky c _,v=>∃a g,v=.ref a/\d c=À g/\H a=À (.ext (S8 a g))
 |.Kz y ds,v=>∃k a t xs,v=.ref a/\Ny K d y=À k/\Dt H k a t/\oZ H t xs/\aq K d ρ H ds xs
def aq(K:Ë)(g:Str->Option Æ)(ρ:Q1)(H:Hp):X2->X1->Prop
 |[],vs=>vs=[]
 |d::ds,vs=>∃v r,vs=v::r/\Rep K g ρ H d v/\aq K g ρ H ds r
end
theorem sZ.mono{c:Addr}{q:Str}(h:sZ H c q)(f:∀a o u,H a=À (.eU o u)->H' a=À (.eU o u)):sZ H' c q:=by obtain⟨d,vs,t,e,r⟩:=h;exact⟨d,vs,t,f _ _ _ e,r⟩
theorem Dt.mono{k:yj}{t:Q1}(h:Dt H k a t)(f:∀a o u,H a=À (.eU o u)->H' a=À (.eU o u)):Dt H' k a t:=by obtain⟨l,n,g,D,d,c,e,r⟩:=h;exact⟨l,n,g,D,d,c,f _ _ _ e,r.mono f⟩
theorem oZ.mono(f:∀a o u,H a=À (.eU o u)->H' a=À (.eU o u)):∀{d:Q1}{xs:X1},oZ H d xs->oZ H' d xs
 |[],xs,h=>h
 |c::d,xs,⟨x,r,o,u,e,g,k,t,D⟩=>⟨x,r,o,u,e,f _ _ _ g,k,t,D.mono f⟩
structure cK(K:Ë)(H H':Hp)(ρ ρ':Q1):Prop where
 tup:∀a xs,zu H a xs->zu H' a xs
 eU:∀a o u,H a=À (.eU o u)->H' a=À (.eU o u)
 pre:∃r,ρ'=ρ++r
 ext:∀a φ,H a=À (.ext φ)->H' a=À (.ext φ)
section
variable{H1 H2:Hp}{ρ1 ρ2:Q1}
theorem cK.con(f:cK K H H' ρ ρ')(a:Addr)(xs:X1)(h:RZ K H a xs):RZ K H' a xs:=by
 rcases h with⟨o,h⟩|h
 ·exact .inl ⟨o,f.eU _ _ _ h⟩
 ·exact .inr h
theorem cK.refl:cK K H H ρ ρ:=⟨λ_ _ h=>h,λ_ _ _ h=>h,⟨[],by simp⟩,λ_ _ h=>h⟩
theorem cK.trans(a:cK K H H1 ρ ρ1)(b:cK K H1 H2 ρ1 ρ2):cK K H H2 ρ ρ2:=by obtain⟨t,D⟩:=a.pre;obtain⟨g,k⟩:=b.pre;exact⟨λx xs h=>b.tup x xs (a.tup x xs h),λx o u h=>b.eU x o u (a.eU x o u h),⟨t++g,by rw[k,D,â]⟩,λx d h=>b.ext x d (a.ext x d h)⟩
theorem cK.get(f:cK K H H' ρ ρ'){n:Nat}{a:Addr}(h:ρ[n]?=À a):ρ'[n]?=À a:=by obtain⟨r,e⟩:=f.pre;rw[e,Î (Á.mp h).1];exact h
mutual
theorem Rep.mono(f:cK K H H' ρ ρ'):∀(d:D)(v:V),Rep K mg ρ H d v->Rep K mg ρ' H' d v
 |.bw,v,h=>by unfold Rep at h |-;exact h
 |.bl b,v,h=>by unfold Rep at h |-;exact h
 |.int i,v,h=>by unfold Rep at h |-;exact h
 |.str x,v,h=>by unfold Rep at h |-;exact h
 |.tup ds,v,h=>by unfold Rep at h |-;obtain⟨a,xs,e,s,r⟩:=h;exact⟨a,xs,e,f.tup _ _ s,aq.mono f ds xs r⟩
 |.con ds,v,h=>by unfold Rep at h |-;obtain⟨a,xs,e,s,r⟩:=h;exact⟨a,xs,e,f.con _ _ s,aq.mono f ds xs r⟩
 |.obj n,v,h=>by unfold Rep at h |-;obtain⟨a,e,r⟩:=h;exact⟨a,e,f.get r⟩
 |.fn x,v,h=>by unfold Rep at h |-;exact h
 |.Ky c M,v,h=>by unfold Rep at h |-;obtain⟨a,t,e,m,r⟩:=h;exact⟨a,t,e,m,f.ext _ _ r⟩
 |.Kz k ds,v,h=>by unfold Rep at h |-;obtain⟨k,a,I,xs,e,J,F,g,L⟩:=h;exact⟨k,a,I,xs,e,J,F.mono f.eU,g.mono f.eU,aq.mono f ds xs L⟩
theorem aq.mono(f:cK K H H' ρ ρ'):∀(ds:X2)(vs:X1),aq K mg ρ H ds vs->aq K mg ρ' H' ds vs
 |[],vs,h=>by unfold aq at h |-;exact h
 |d::ds,vs,h=>by unfold aq at h |-;obtain⟨v,r,e,g,k⟩:=h;exact⟨v,r,e,Rep.mono f d v g,aq.mono f ds r k⟩
end
theorem aq.length:∀{ds:X2}{vs:X1},aq K mg ρ H ds vs->ds.length=vs.length
 |[],vs,h=>by unfold aq at h;subst h;rfl
 |d::ds,vs,h=>by unfold aq at h;obtain⟨v,r,rfl,_,g⟩:=h;simp[aq.length g]
theorem aq.nil:aq K mg ρ H [] []:=by unfold aq;rfl
theorem aq.cons{d:D}{v:V}{ds:X2}{vs:X1}(h:Rep K mg ρ H d v)(t:aq K mg ρ H ds vs):aq K mg ρ H (d::ds) (v::vs):=by unfold aq;exact⟨v,vs,rfl,h,t⟩
theorem aq.get:∀{ds:X2}{vs:X1}{i:Nat}{d:D},aq K mg ρ H ds vs->ds[i]?=À d->∃v,vs[i]?=À v/\Rep K mg ρ H d v
 |[],vs,i,d,h,e=>by simp at e
 |x::ds,vs,0,d,h,e=>by unfold aq at h;obtain⟨v,r,rfl,g,_⟩:=h;simp at e;x_go;exact⟨v,rfl,g⟩
 |x::ds,vs,i+1,d,h,e=>by unfold aq at h;obtain⟨v,r,rfl,_,k⟩:=h;obtain⟨u,F,t⟩:=aq.get (i:=i) (d:=d) k ‹e›;exact⟨u,‹F›,t⟩
theorem aq.append:∀{ds es:X2}{vs g:X1},aq K mg ρ H ds vs->aq K mg ρ H es g->aq K mg ρ H (ds++es) (vs++g)
 |[],es,vs,g,h,h'=>by unfold aq at h;subst h;exact h'
 |d::ds,es,vs,g,h,h'=>by unfold aq at h;obtain⟨v,r,rfl,k,t⟩:=h;exact .cons k (aq.append t h')
theorem aq.take:∀(n:Nat){ds:X2}{vs:X1},aq K mg ρ H ds vs->aq K mg ρ H (ds.take n) (vs.take n)
 |0,_,_,_=>by simpa using aq.nil
 |n+1,[],vs,h=>by unfold aq at h;subst h;simpa using aq.nil
 |n+1,d::ds,vs,h=>by unfold aq at h;obtain⟨v,r,rfl,g,k⟩:=h;exact .cons g (aq.take n k)
theorem aq.drop:∀(n:Nat){ds:X2}{vs:X1},aq K mg ρ H ds vs->aq K mg ρ H (ds.drop n) (vs.drop n)
 |0,_,_,h=>by simpa using h
 |n+1,[],vs,h=>by unfold aq at h;subst h;simpa using aq.nil
 |n+1,d::ds,vs,h=>by unfold aq at h;obtain⟨v,r,rfl,k,g⟩:=h;simpa using aq.drop n g
theorem aq.set{x:D}{y:V}(t:Rep K mg ρ H x y):∀(n:Nat){ds:X2}{vs:X1},aq K mg ρ H ds vs->aq K mg ρ H (ds.set n x) (vs.set n y)
 |_,[],vs,h=>by unfold aq at h;subst h;simpa using aq.nil
 |0,d::ds,vs,h=>by unfold aq at h;obtain⟨v,r,rfl,k,g⟩:=h;exact .cons t g
 |n+1,d::ds,vs,h=>by unfold aq at h;obtain⟨v,r,rfl,k,g⟩:=h;exact .cons k (aq.set t n g)
theorem aq.ints:∀(d:D2),aq K mg ρ H (d.map D.int) (d.map V.int)
 |[]=>.nil
 |n::d=>.cons (by unfold Rep;rfl) (aq.ints d)
end
def Li(K:Ë)(d:Str->Option Æ)(ρ:Q1)(H:Hp)(a:Addr):DO->Prop
 |.lst ds=>∃xs,H a=À (.lst xs)/\aq K d ρ H ds xs
 |.dead=>∃o,H a=À o
 |.dct kvs=>∃xs,H a=À (.dK ((kvs.map (·.1)).zip xs))/\aq K d ρ H (kvs.map (·.2)) xs
 |.tab y=>∃(g:Array Æ)(c:Addr)(k:yj),H a=À (.rV g)/\PySem.W.tabIn K y=À (c,a)/\Ny K d y=À k/\(g=#[]\/∃t,g=#[PySem.rawInt k.pos.line,PySem.rawInt k.pos.col,.ref t]/\sZ H t k.qual)
 |.aU I kvs=>∃xs,(if I=Ä then ∃o,H a=À (.eU o (.dT ((kvs.map (·.1)).zip xs))) else H a=À (.dT ((kvs.map (·.1)).zip xs)))/\aq K d ρ H (kvs.map (·.2)) xs
 |.RY kvs=>∃xs,(∃o,H a=À (.eU o (.dK ((kvs.map (·.1)).zip xs))))/\aq K d ρ H (kvs.map (·.2)) xs
 |.ins c D=>∃C F xs,d c=À (.ref C)/\H a=À (.ins C F ((D.map (·.1)).zip xs))/\aq K d ρ H (D.map (·.2)) xs
structure gc(K:Ë)(mg:Str->Option Æ)(H:Hp)(ρ:Q1)(G:DH):Prop where
 hl:ρ.length=G.length
 nd:ρ.Nodup
 ob:∀(n:Nat)(o:DO),G[n]?=À o->∃a,ρ[n]?=À a/\Li K mg ρ H a o
def vC(K:Ë)(k:Str->Option Æ)(H:Hp)(ρ:Q1)(g:St)(τ:DS):Prop:=
 g.length=τ.length/\∀(i:Nat)(d:D),τ[i]?=À (À d)->∃v,g[i]?=À (À v)/\Rep K k ρ H d v
structure Ab(K:Ë)(mg:Str->Option Æ)(σ:St)(H:Hp)(τ:DS)(ρ:Q1)(G:DH):Prop where
 st:vC K mg H ρ σ τ
 hp:gc K mg H ρ G
section
variable{H1 H2:Hp}{ρ1 ρ2:Q1}
theorem vC.mono(f:cK K H H' ρ ρ')(h:vC K mg H ρ σ τ):vC K mg H' ρ' σ τ:=⟨h.1,λi d e=>by obtain⟨v,g,r⟩:=h.2 i d e;exact⟨v,g,r.mono f⟩⟩
theorem vC.set{d:D}(h:vC K mg H ρ σ τ)(r:Rep K mg ρ H d v):vC K mg H ρ (σ.set i (À v)) (τ.set i (À d)):=by
 refine⟨by simp[h.1],λj e g=>?_⟩;by_cases k:i=j
 ·subst k;rw[å]at g;by_cases t:i<τ.length
  ·rw[Α rfl,Α t]at g;cases g;exact⟨v,by rw[å,Α rfl,Α (by rw[h.1];exact t)],r⟩
  ·rw[Α rfl,Β t]at g;cases g
 ·rw[Í k]at g;obtain⟨u,I,F⟩:=h.2 j e g;exact⟨u,by rw[Í k];exact I,F⟩
theorem Ab.fut(ab:Ab K mg σ H τ ρ G)(f:cK K H H' ρ ρ')(d:gc K mg H' ρ' G'):Ab K mg σ H' τ ρ' G':=⟨ab.st.mono f,d⟩
theorem gc.lst(h:gc K mg H ρ G)(e:G[n]?=À (.lst ds)):∃a xs,ρ[n]?=À a/\H a=À (.lst xs)/\aq K mg ρ H ds xs:=by obtain⟨a,d,xs,g,r⟩:=h.ob n _ e;exact⟨a,xs,d,g,r⟩
theorem gc.there(h:gc K mg H ρ G)(e:ρ[n]?=À a):∃o,H a=À o:=by
 have F:n<G.length:=by rw[<- h.hl];exact(Á.mp e).1
 obtain⟨L,e1,r⟩:=h.ob n G[n] (Ê F);rw[e]at e1;cases e1;cases hg:G[n]with
 |lst xs=>rw[hg]at r;obtain⟨ys,d,_⟩:=r;exact⟨_,d⟩
 |dead=>rw[hg]at r;exact r
 |dct g=>rw[hg]at r;obtain⟨ys,d,_⟩:=r;exact⟨_,d⟩
 |tab t=>rw[hg]at r;obtain⟨J,c,k,d,_⟩:=r;exact⟨_,d⟩
 |aU D g=>
  rw[hg]at r;obtain⟨ys,d,_⟩:=r;cases D
  ·exact⟨_,d⟩
  ·obtain⟨o,d⟩:=d;exact⟨_,d⟩
 |RY g=>rw[hg]at r;obtain⟨ys,⟨o,d⟩,_⟩:=r;exact⟨_,d⟩
 |ins c M=>rw[hg]at r;obtain⟨C,I,xs,_,d,_⟩:=r;exact⟨_,d⟩
theorem gc.not_mem{p:Addr}(h:gc K mg H ρ G)(k:H p=Å):p∉ρ:=λg=>by obtain⟨n,d,e⟩:=ğ g;obtain⟨o,q⟩:=h.there (n:=n) (a:=p) (by rw[Ê d,e]);rw[k]at q;cases q
theorem Li.mono{o:DO}(f:cK K H H' ρ ρ')(d:∀u,H a=À u->H' a=À u)(h:Li K mg ρ H a o):Li K mg ρ' H' a o:=by
 cases o with
 |lst ds=>obtain⟨xs,e,r⟩:=h;exact⟨xs,d _ e,r.mono f⟩
 |dead=>obtain⟨o,e⟩:=h;exact⟨o,d _ e⟩
 |dct g=>obtain⟨xs,e,r⟩:=h;exact⟨xs,d _ e,r.mono f⟩
 |tab t=>obtain⟨F,c,k,e,q,L,r⟩:=h;exact⟨F,c,k,d _ e,q,L,r.imp id λzz=>by obtain⟨I,e,z⟩:=zz;exact⟨I,e,z.mono f.eU⟩⟩
 |aU J g=>
  obtain⟨xs,e,r⟩:=h;refine⟨xs,?_,r.mono f⟩;cases J
  ·exact d _ e
  ·obtain⟨o,e⟩:=e;exact⟨o,d _ e⟩
 |RY g=>obtain⟨xs,⟨o,e⟩,r⟩:=h;exact⟨xs,⟨o,d _ e⟩,r.mono f⟩
 |ins c M=>obtain⟨C,D,xs,m,e,r⟩:=h;exact⟨C,D,xs,m,d _ e,r.mono f⟩
theorem di{p:Addr}{o:HO}(d:H p=Å)(ρ:Q1):cK K H (upd H p o) ρ ρ:=by
 refine⟨λa xs h=>?_,λa q u h=>by rw[aK (cQ h d)];exact h,⟨[],by simp⟩,λa g h=>by rw[aK (cQ h d)];exact h⟩
 ·rw[zu]at h |-;rw[aK (cQ h d)];exact h
theorem sE{p:Addr}{ys:X1}(d:H p=À (.lst xs))(ρ:Q1):cK K H (upd H p (.lst ys)) ρ ρ:=by
 refine⟨λa g h=>?_,λa q u h=>by rw[aK (eY h d (by intro z;cases z))];exact h,⟨[],by simp⟩,λa φ h=>by rw[aK (eY h d (by intro z;cases z))];exact h⟩
 ·rw[zu]at h |-;rw[aK (eY h d (by intro z;cases z))];exact h
theorem gc.new{p:Addr}{o:HO}(h:gc K mg H ρ G)(d:H p=Å):gc K mg (upd H p o) ρ G:=
 ⟨h.hl,h.nd,λn g e=>by obtain⟨a,k,r⟩:=h.ob n g e;exact⟨a,k,r.mono (di d ρ) λu q=>by rw[aK (cQ q d)];exact q⟩⟩
theorem aF(l:List α)(a:α):(l++[a])[l.length]?=À a:=by simp
theorem cZ(ρ:Q1)(p:Addr):cK K H H ρ (ρ++[p]):=⟨λ_ _ h=>h,λ_ _ _ h=>h,⟨[p],rfl⟩,λ_ _ h=>h⟩
theorem gc.more{p:Addr}(h:gc K mg H ρ G)(g:H p=Å)(r:aq K mg ρ H ds xs):gc K mg (upd H p (.lst xs)) (ρ++[p]) (G++[.lst ds]):=by
 have f:cK K H (upd H p (.lst xs)) ρ (ρ++[p]):=(di g ρ).trans (cZ ρ p);refine⟨by simp[h.hl],?_,λn L e=>?_⟩
 ·rw[Ę];refine⟨h.nd,by simp,λa J b F=>?_⟩;have e:b=p:=‹F›
  x_go;rintro rfl;exact h.not_mem g J
 ·by_cases D:n<G.length
  ·rw[Î D]at e;obtain⟨a,k,t⟩:=h.ob n L e;exact⟨a,f.get k,t.mono f λu q=>by rw[aK (cQ q g)];exact q⟩
  ·have I:n<(G++[DO.lst ds]).length:=(Á.mp e).1;have d:n=G.length:=by simp at I;lia
   subst d;rw[aF]at e;k_ne;refine⟨p,by rw[<- h.hl,aF],xs,bL,r.mono f⟩
theorem gc.put{ds es:X2}{ys:X1}(h:gc K mg H ρ G)(k:ρ[n]?=À a)(I:H a=À (.lst xs))(r:aq K mg ρ H es ys):gc K mg (upd H a (.lst ys)) ρ (G.set n (.lst es)):=by
 have f:cK K H (upd H a (.lst ys)) ρ ρ:=sE I ρ;refine⟨by simp[h.hl],h.nd,λm L e=>?_⟩;by_cases d:n=m
 ·subst d;rw[å,Α rfl]at e;split at e
  ·k_ne;exact⟨a,k,ys,bL,r.mono f⟩
  ·k_ne
 ·rw[Í d]at e;obtain⟨b,g,t⟩:=h.ob m L e;have F:b≠a:=by rintro rfl;obtain⟨O,D⟩:=Á.mp k;obtain⟨M,J⟩:=Á.mp g;exact d ((Ļ h.nd).mp (D.trans J.symm))
  exact⟨b,g,t.mono f λu q=>by rw[aK F];exact q⟩
end
abbrev bV:=XD->St->Hp->Prop
variable{EE HE:bV}
section
variable(K:Ë)(mg:Str->Option Æ)(EE:bV)
def kI(H:Hp)(g:St)(τ:DS)(ρ:Q1):Out D->VK->Prop
 |.stuck,_=>False
 |.ok d G',Q=>∀v H' ρ',cK K H H' ρ ρ'->Ab K mg g H' τ ρ' G'->Rep K mg ρ' H' d v->Q v H'
 |.bR c G',_=>∀H' ρ',cK K H H' ρ ρ'->Ab K mg g H' τ ρ' G'->EE c g H'
def Lj(H:Hp)(d:St)(τ:DS)(ρ:Q1):Out Bool->(Bool->Hp->Prop)->Prop
 |.stuck,_=>False
 |.ok b G',Q=>∀H' ρ',cK K H H' ρ ρ'->Ab K mg d H' τ ρ' G'->Q b H'
 |.bR c G',_=>∀H' ρ',cK K H H' ρ ρ'->Ab K mg d H' τ ρ' G'->EE c d H'
def Tc(H:Hp)(d:St)(τ:DS)(ρ:Q1):Out X2->(X1->Hp->Prop)->Prop
 |.stuck,_=>False
 |.ok ds G',Q=>∀vs H' ρ',cK K H H' ρ ρ'->Ab K mg d H' τ ρ' G'->aq K mg ρ' H' ds vs->Q vs H'
 |.bR c G',_=>∀H' ρ',cK K H H' ρ ρ'->Ab K mg d H' τ ρ' G'->EE c d H'
def cL(m:Y2):TE:=λd H Q=>∃τ ρ G,Ab K mg d H τ ρ G/\kI K mg EE H d τ ρ (m τ G) Q
def liftT(m:DS->M Bool):TT:=λd H Q=>∃τ ρ G,Ab K mg d H τ ρ G/\Lj K mg EE H d τ ρ (m τ G) Q
def lY(m:DS->M X2):TA:=λd H Q=>∃τ ρ G,Ab K mg d H τ ρ G/\Tc K mg EE H d τ ρ (m τ G) Q
inductive Res where
 |stuck
 |nx (τ:DS) (G:DH)
 |rt (d:D) (G:DH)
 |bk (τ:DS) (G:DH)
 |ct (τ:DS) (G:DH)
 |xn (c:XD) (τ:DS) (G:DH)
def sF(H:Hp)(ρ:Q1)(D:Ends):Res->Prop
 |.stuck=>False
 |.nx τ G=>∀g H' ρ',cK K H H' ρ ρ'->Ab K mg g H' τ ρ' G->D.nx g H'
 |.bk τ G=>∀g H' ρ',cK K H H' ρ ρ'->Ab K mg g H' τ ρ' G->D.bk g H'
 |.ct τ G=>∀g H' ρ',cK K H H' ρ ρ'->Ab K mg g H' τ ρ' G->D.ct g H'
 |.rt d G=>∀v H' ρ',cK K H H' ρ ρ'->gc K mg H' ρ' G->Rep K mg ρ' H' d v->D.rt v H'
 |.xn c τ G=>∀g H' ρ',cK K H H' ρ ρ'->Ab K mg g H' τ ρ' G->EE c g H'
abbrev MS:=DS->DH->Res
def iQ(m:MS):TS:=λD d H=>∃τ ρ G,Ab K mg d H τ ρ G/\sF K mg EE H ρ D (m τ G)
end
variable{mh mr:XD->MS}{ms:MS}
section
variable{H1:Hp}{ρ1:Q1}
theorem kI.fut{r:Out D}{Q:VK}(f:cK K H H1 ρ ρ1)(h:kI K mg EE H σ τ ρ r Q):kI K mg EE H1 σ τ ρ1 r Q:=by
 cases r with
 |stuck=>exact h
 |ok d G'=>exact λv H' ρ' g=>h v H' ρ' (f.trans g)
 |bR c G'=>exact λH' ρ' g=>h H' ρ' (f.trans g)
theorem Lj.fut{r:Out Bool}{Q:Bool->Hp->Prop}(f:cK K H H1 ρ ρ1)(h:Lj K mg EE H σ τ ρ r Q):Lj K mg EE H1 σ τ ρ1 r Q:=by
 cases r with
 |stuck=>exact h
 |ok d G'=>exact λH' ρ' g=>h H' ρ' (f.trans g)
 |bR c G'=>exact λH' ρ' g=>h H' ρ' (f.trans g)
theorem Tc.fut{r:Out X2}{Q:X1->Hp->Prop}(f:cK K H H1 ρ ρ1)(h:Tc K mg EE H σ τ ρ r Q):Tc K mg EE H1 σ τ ρ1 r Q:=by
 cases r with
 |stuck=>exact h
 |ok d G'=>exact λv H' ρ' g=>h v H' ρ' (f.trans g)
 |bR c G'=>exact λH' ρ' g=>h H' ρ' (f.trans g)
theorem sF.fut{r:Res}(f:cK K H H1 ρ ρ1)(h:sF K mg EE H ρ Dd r):sF K mg EE H1 ρ1 Dd r:=by
 cases r with
 |stuck=>exact h
 |nx τ G=>exact λs H' ρ' g=>h s H' ρ' (f.trans g)
 |bk τ G=>exact λs H' ρ' g=>h s H' ρ' (f.trans g)
 |ct τ G=>exact λs H' ρ' g=>h s H' ρ' (f.trans g)
 |rt d G=>exact λs H' ρ' g=>h s H' ρ' (f.trans g)
 |xn c τ G=>exact λs H' ρ' g=>h s H' ρ' (f.trans g)
theorem kJ{m:Y2}{k:DS->D->M D}{Q:VK}(h:cL K mg EE (λτ=>(m τ).bind (k τ)) σ H Q):
  cL K mg EE m σ H λx g=>∃τ ρ G d,Ab K mg σ g τ ρ G/\Rep K mg ρ g d x/\kI K mg EE g σ τ ρ (k τ d G) Q:=by
 cb_eq;right;dsimp only[M.bind]at ok;cases e:m τ G with
 |stuck=>left
 |bR c G'=>left
 |ok d G'=>k_in;exact λv H' ρ' f t r=>⟨τ,ρ',G',d,t,r,ok.fut f⟩
theorem G7{m:Y2}{k:DS->D->M Bool}{Q:Bool->Hp->Prop}(h:liftT K mg EE (λτ=>(m τ).bind (k τ)) σ H Q):
  cL K mg EE m σ H λx g=>∃τ ρ G d,Ab K mg σ g τ ρ G/\Rep K mg ρ g d x/\Lj K mg EE g σ τ ρ (k τ d G) Q:=by
 cb_eq;right;dsimp only[M.bind]at ok;cases e:m τ G with
 |stuck=>left
 |bR c G'=>left
 |ok d G'=>k_in;exact λv H' ρ' f t r=>⟨τ,ρ',G',d,t,r,ok.fut f⟩
theorem Pc{m:DS->M Bool}{k:DS->Bool->M D}{Q:VK}(h:cL K mg EE (λτ=>(m τ).bind (k τ)) σ H Q):
  liftT K mg EE m σ H λb g=>∃τ ρ G,Ab K mg σ g τ ρ G/\kI K mg EE g σ τ ρ (k τ b G) Q:=by
 cb_eq;right;dsimp only[M.bind]at ok;cases e:m τ G with
 |stuck=>left
 |bR c G'=>left
 |ok d G'=>k_in;exact λH' ρ' f t=>⟨τ,ρ',G',t,ok.fut f⟩
theorem BX{m:DS->M Bool}{k:DS->Bool->M Bool}{Q:Bool->Hp->Prop}(h:liftT K mg EE (λτ=>(m τ).bind (k τ)) σ H Q):
  liftT K mg EE m σ H λb g=>∃τ ρ G,Ab K mg σ g τ ρ G/\Lj K mg EE g σ τ ρ (k τ b G) Q:=by
 cb_eq;right;dsimp only[M.bind]at ok;cases e:m τ G with
 |stuck=>left
 |bR c G'=>left
 |ok d G'=>k_in;exact λH' ρ' f t=>⟨τ,ρ',G',t,ok.fut f⟩
theorem Pd{m:Y2}{k:DS->D->M X2}{Q:X1->Hp->Prop}(h:lY K mg EE (λτ=>(m τ).bind (k τ)) σ H Q):
  cL K mg EE m σ H λx g=>∃τ ρ G d,Ab K mg σ g τ ρ G/\Rep K mg ρ g d x/\Tc K mg EE g σ τ ρ (k τ d G) Q:=by
 cb_eq;right;dsimp only[M.bind]at ok;cases e:m τ G with
 |stuck=>left
 |bR c G'=>left
 |ok d G'=>k_in;exact λv H' ρ' f t r=>⟨τ,ρ',G',d,t,r,ok.fut f⟩
theorem tu{k:DS->X2->M D}{Q:VK}(h:cL K mg EE (λτ=>(m τ).bind (k τ)) σ H Q):
  lY K mg EE m σ H λx g=>∃τ ρ G d,Ab K mg σ g τ ρ G/\aq K mg ρ g d x/\kI K mg EE g σ τ ρ (k τ d G) Q:=by
 cb_eq;right;dsimp only[M.bind]at ok;cases e:m τ G with
 |stuck=>left
 |bR c G'=>left
 |ok d G'=>k_in;exact λv H' ρ' f t r=>⟨τ,ρ',G',d,t,r,ok.fut f⟩
def bC{d:Type}(m:M d)(k:d->DH->Res)(x:XD->DH->Res):DH->Res:=λG=>match m G with
 |.stuck=>.stuck
 |.ok a G'=>k a G'
 |.bR c G'=>x c G'
theorem tw{m:Y2}{k:DS->D->DH->Res}(h:iQ K mg EE (λτ=>bC (m τ) (k τ) λc G=>.xn c τ G) Dd σ H):
  cL K mg EE m σ H λx t=>∃τ ρ G d,Ab K mg σ t τ ρ G/\Rep K mg ρ t d x/\sF K mg EE t ρ Dd (k τ d G):=by
 cb_eq;right;dsimp only[bC]at ok;cases e:m τ G with
 |stuck=>left
 |bR c G'=>k_in;exact λH' ρ' f g=>ok σ H' ρ' f g
 |ok d G'=>k_in;exact λv H' ρ' f g r=>⟨τ,ρ',G',d,g,r,ok.fut f⟩
theorem G8{m:DS->M Bool}{k:DS->Bool->DH->Res}(h:iQ K mg EE (λτ=>bC (m τ) (k τ) λc G=>.xn c τ G) Dd σ H):
  liftT K mg EE m σ H λb t=>∃τ ρ G,Ab K mg σ t τ ρ G/\sF K mg EE t ρ Dd (k τ b G):=by
 cb_eq;right;dsimp only[bC]at ok;cases e:m τ G with
 |stuck=>left
 |bR c G'=>k_in;exact λH' ρ' f g=>ok σ H' ρ' f g
 |ok d G'=>k_in;exact λH' ρ' f g=>⟨τ,ρ',G',g,ok.fut f⟩
end
def QE(X:Cx)(EE:bV)(e:Expr)(m:Y2):Prop:=PE X e (cL X.K X.mg EE m)
def QT(X:Cx)(EE:bV)(e:Expr)(m:DS->M Bool):Prop:=PT X e (liftT X.K X.mg EE m)
def QW(X:Cx)(EE:bV)(e:Expr)(m:DS->M Bool):Prop:=PW X e (liftT X.K X.mg EE m)
def QA(X:Cx)(EE:bV)(es:U2)(m:DS->M X2):Prop:=PA X es (lY X.K X.mg EE m)
def QS(X:Cx)(EE:bV)(st:Stmt)(m:MS):Prop:=PS X st (iQ X.K X.mg EE m)
def pg(X:Cx)(EE:bV)(st:List Stmt)(m:MS):Prop:=BK X st (iQ X.K X.mg EE m)
section
theorem PE.mono{t t':TE}(h:PE X e t)(i:∀d H Q,t' d H Q->t d H Q):PE X e t':=λpins s d H Q I q=>h pins s d H Q I (i _ _ _ q)
theorem PT.mono{t:TT}(h:PT X e t)(i:∀d H Q,t' d H Q->t d H Q):PT X e t':=λpins s d H Q I q=>h pins s d H Q I (i _ _ _ q)
theorem PA.mono{e:U2}{t t':TA}(h:PA X e t)(i:∀d H Q,t' d H Q->t d H Q):PA X e t':=λpos pins s d H Q I q=>h pos pins s d H Q I (i _ _ _ q)
theorem PS.mono{e:Stmt}{t t':TS}(h:PS X e t)(i:∀D d H,t' D d H->t D d H):PS X e t':=λpins s d H D I q=>h pins s d H D I (i _ _ _ q)
theorem BK.mono{e:List Stmt}{t t':TS}(h:BK X e t)(i:∀D d H,t' D d H->t D d H):BK X e t':=λpins s d H D I q=>h pins s d H D I (i _ _ _ q)
end
section
variable{a b:Expr}{ma mb mc:Y2}
def aa(i:Nat):Y2:=λτ G=>match τ[i]? with
 |some (À d)=>.ok d G
 |_=>.stuck
def eC(d:D):Y2:=λ_=>M.ret d
theorem Pe(i:Nat){x:Str}{pos:Pos}(t:X.N[i]?=À x:=by rfl)(D:Gy X.env.scope x:=by first|exact Or.inl rfl|exact adn (Or.inl rfl)|exact adn (adn rfl))(F:(x==("__debug__":Str))=Â:=by decide)
  (g:(x==("__classdict__":Str))=Â:=by decide):QE X EE (.Name x pos) (aa i):=PE.mono (GA t D F g) λI H Q ⟨τ,ρ,G,ab,ok⟩=>by
 unfold aa at ok;cases e:τ[i]? with
 |none=>k_in;rfl'
 |some o=>
  cases o with
  |none=>k_in;rfl'
  |some d=>k_in;obtain⟨v,k,r⟩:=ab.st.2 i d e;exact⟨v,k,ok v H ρ .refl ab r⟩
theorem G9{d:D}(h:PE X e (tC v))(r:∀ρ H,Rep X.K X.mg ρ H d v):QE X EE e (eC d):=PE.mono h λk H Q zz=>by obtain⟨τ,ρ,G,ab,g⟩:=zz;exact g v H ρ .refl ab (r ρ H)
theorem Pf{i:Int} {j pos}:QE X EE (.Constant (.int i) j pos) (eC (.int i)):=G9 Oi λ_ _=>by unfold Rep;rfl
theorem Tf{i:Bool} {j pos}:QE X EE (.Constant (.bool i) j pos) (eC (.bl i)):=G9 Sv λ_ _=>by unfold Rep;rfl
theorem Pg {j pos}:QE X EE (.Constant .none j pos) (eC .bw):=G9 Oj λ_ _=>by unfold Rep;rfl
theorem Ph {x j pos}:QE X EE (.Constant (.str x) j pos) (eC (.str x)):=G9 Ol λ_ _=>by unfold Rep;rfl
def aj(f:D->D->M D)(d g:Y2):Y2:=λτ=>(d τ).bind λx=>(g τ).bind λy=>f x y
def Lk(X:Cx)(EE:bV)(r:R2)(f:D->D->M D):Prop:=∀(g:L2.St)(H:Hp)(τ:DS)(ρ:Q1)(G:DH)(x y:V)(d e:D)(Q:VK),
 Ab X.K X.mg g H τ ρ G->Rep X.K X.mg ρ H d x->Rep X.K X.mg ρ H e y->kI X.K X.mg EE H g τ ρ (f d e G) Q->r x y H Q
theorem sG{r:R2}(R:Lk X EE r f){g:L2.St}{H:Hp}{Q:VK}(h:cL X.K X.mg EE (aj f ma mb) g H Q):
  SN r (cL X.K X.mg EE ma) (cL X.K X.mg EE mb) g H Q:=by
 obtain⟨τ,ρ,G,ab,ok⟩:=kJ (k:=λτ x=>(mb τ).bind λy=>f x y) h;right;cases e:ma τ G with
 |stuck=>left
 |bR c G'=>left
 |ok d G'=>
  k_is;refine⟨τ2,ρ2,G2,cz,?_⟩;dsimp only[M.bind]at aS;cases e2:mb τ2 G2 with
  |stuck=>rw[e2]at aS;exact aS
  |bR c G'=>rw[e2]at aS;exact aS
  |ok I S=>rw[e2]at aS;exact λL J t D F O=>R g J τ2 t S v L d2 I Q F (r2.mono D) O (aS.fut D)
theorem rj{d:Operator}{r:R2}(D:jB X (binaryOp d) r)(t:Lk X EE r f)(g:QE X EE a ma)(k:QE X EE b mb):QE X EE (.BinOp a d b pos) (aj f ma mb):=
 PE.mono (SO D g k) λ_ _ _ h=>sG t h
theorem tB{r:R2}(t:jB X (compareOp op) r)(k:Lk X EE r f)(g:QE X EE a ma)(d:QE X EE b mb)(D:behindInMarks op b=Â):QE X EE (.Compare a [op] [b] pos) (aj f ma mb):=
 PE.mono (KZ t g d D) λ_ _ _ h=>sG k h
theorem Tg{r:R2}(D:RV X r)(t:Lk X EE r f)(k:QE X EE a ma)(g:QE X EE b mb)(d:sC b:=by intro _ _;rfl):QE X EE (.Subscript a b pos) (aj f ma mb):=
 PE.mono (S2 D k g d) λ_ _ _ h=>sG t h
def aO(C:Int->Int->Bool)(g:Int->Int->D):D->D->M D
 |.int i,.int j=>if C i j then M.ret (g i j) else M.stop
 |_,_=>M.stop
theorem Du{C:Int->Int->Bool}{g:Int->Int->D}{d e:D}{Q:VK}(ok:kI X.K X.mg EE H σ τ ρ (aO C g d e G) Q):
  ∃i j,d=.int i/\e=.int j/\C i j=Ä/\kI X.K X.mg EE H σ τ ρ (.ok (g i j) G) Q:=by
 cases d<;>cases e<;>try exact ok.elim
 rename_i i j;dsimp only[aO]at ok;cases hc:C i j with
 |false=>rw[hc]at ok;rfl'
 |true=>rw[hc]at ok;exact⟨i,j,rfl,rfl,hc,ok⟩
theorem pq{C:Int->Int->Bool}{P:Int->Int->Prop}{g:Int->Int->D}(J:∀i j,C i j=Ä->P i j)(L:∀i j ρ H,Rep X.K X.mg ρ H (g i j) (gv i j)):Lk X EE (rI P gv) (aO C g):=
 λM H τ ρ G x y d e Q ab F t k=>by obtain⟨i,j,rfl,rfl,I,k⟩:=Du k;unfold Rep at F t;exact⟨i,j,F,t,J i j I,k _ H ρ .refl ab (L i j ρ H)⟩
theorem jZ{g:Int->Int->D}(I:∀i j ρ H,Rep X.K X.mg ρ H (g i j) (gv i j)):Lk X EE (Np gv) (aO (λ_ _=>Ä) g):=
 λL H τ ρ G x y d e Q ab F t k=>by obtain⟨i,j,rfl,rfl,J,k⟩:=Du k;unfold Rep at F t;exact⟨i,j,F,t,k _ H ρ .refl ab (I i j ρ H)⟩
abbrev yk:=aO (λ_ _=>Ä) λi j=>.int (i-j)
abbrev ES:=aO (λi j=>(decide (-(2^64)<i)&&decide (i<2^64))||(decide (-(2^64)<j)&&decide (j<2^64))) λi j=>.int (i*j)
abbrev bI:=aO (λ_ j=>decide (0<j)&&decide (j<1073741824)) λi j=>.int (i/j)
abbrev aR:=aO (λ_ j=>decide (0<j)) λi j=>.int (i%j)
abbrev jd:=aO (λi j=>decide (0<=j)&&(decide (j<=1000000)&&decide (i.natAbs<2^64))) λi j=>.int (i^j.toNat)
abbrev Ll:=aO (λ_ _=>Ä) λi j=>.bl (decide (i<j))
abbrev kK:=aO (λ_ _=>Ä) λi j=>.bl (decide (j<i))
abbrev Pj:=aO (λ_ _=>Ä) λi j=>.bl (decide (j<=i))
theorem Pk(d:QE X EE a ma)(g:QE X EE b mb):QE X EE (.BinOp a .Sub b pos) (aj yk ma mb):=rj OI (jZ λ_ _ _ _=>by unfold Rep;rfl) d g
theorem Pn(d:QE X EE a ma)(g:QE X EE b mb):QE X EE (.BinOp a .Mult b pos) (aj ES ma mb):=rj OJ (pq (λi j h=>by simp only[aa6,Ė,decide_eq_true_eq]at h;exact h) λ_ _ _ _=>by unfold Rep;rfl) d g
theorem Lm(d:QE X EE a ma)(g:QE X EE b mb):QE X EE (.BinOp a .FloorDiv b pos) (aj bI ma mb):=rj KW (pq (λi j h=>by simp only[Ė,decide_eq_true_eq]at h;exact h) λ_ _ _ _=>by unfold Rep;rfl) d g
theorem Po(d:QE X EE a ma)(g:QE X EE b mb):QE X EE (.BinOp a .Mod b pos) (aj aR ma mb):=rj OL (pq (λi j h=>of_decide_eq_true h) λ_ _ _ _=>by unfold Rep;rfl) d g
theorem Pp(d:QE X EE a ma)(g:QE X EE b mb):QE X EE (.BinOp a .Pow b pos) (aj jd ma mb):=rj OM (pq (λi j h=>by simp only[Ė,decide_eq_true_eq]at h;exact h) λ_ _ _ _=>by unfold Rep;rfl) d g
theorem Th(d:QE X EE a ma)(g:QE X EE b mb):QE X EE (.Compare a [.Gt] [b] pos) (aj kK ma mb):=tB Nq (jZ λ_ _ _ _=>by unfold Rep;rfl) d g (yd _)
theorem Ti(d:QE X EE a ma)(g:QE X EE b mb):QE X EE (.Compare a [.GtE] [b] pos) (aj Pj ma mb):=tB Nr (jZ λ_ _ _ _=>by unfold Rep;rfl) d g (yd _)
def aN(ds:X2):M D:=λG=>if ds.length<=Ç then .ok (.obj G.length) (G++[.lst ds]) else .stuck
def aZ(ds:X2):M D:=λG=>if ds.length<=Ç then .ok (.tup ds) G else .stuck
theorem kM{Q:VK}(ab:Ab X.K X.mg σ H τ ρ G)(r:aq X.K X.mg ρ H ds vs)(ok:kI X.K X.mg EE H σ τ ρ (aN ds G) Q):
  vs.length<=Ç/\∀p,H p=Å->Q (.ref p) (upd H p (.lst vs)):=by
 unfold aN at ok;split at ok
 ·rename_i d;rw[r.length]at d;refine⟨d,λp g=>?_⟩;have f:cK X.K H (upd H p (.lst vs)) ρ (ρ++[p]):=(di g ρ).trans (cZ ρ p);refine ok (.ref p) _ (ρ++[p]) f (ab.fut f (ab.hp.more g r)) ?_;unfold Rep;exact⟨p,rfl,by rw[<- ab.hp.hl,aF]⟩
 ·rfl'
theorem yl{Q:VK}(ab:Ab X.K X.mg σ H τ ρ G)(r:aq X.K X.mg ρ H ds vs)(ok:kI X.K X.mg EE H σ τ ρ (aZ ds G) Q):
  vs.length<=Ç/\∀p,H p=Å->Q (.ref p) (upd H p (.tup vs)):=by
 unfold aZ at ok;split at ok
 ·rename_i d;rw[r.length]at d;refine⟨d,λp g=>?_⟩;have f:cK X.K H (upd H p (.tup vs)) ρ ρ:=di g ρ;refine ok (.ref p) _ ρ f (ab.fut f (ab.hp.new g)) ?_;unfold Rep;exact⟨p,vs,rfl,.of bL,r.mono f⟩
 ·rfl'
def ah:DS->M X2:=λ_=>M.ret []
def af(m:Y2)(r:DS->M X2):DS->M X2:=λτ=>(m τ).bind λx=>(r τ).bind λxs=>M.ret (x::xs)
theorem Pq:QA X EE [] ah:=PA.mono OQ λg H Q zz=>by obtain⟨τ,ρ,G,ab,d⟩:=zz;exact d [] H ρ .refl ab .nil
theorem Ln{m:Y2}(R:QE X EE e m)(F:QA X EE es r)(L:ä (e::es) X.env=(Â,eval e X.env)::ä es X.env:=by rfl):QA X EE (e::es) (af m r):=
 PA.mono (K2 R F L) λT H Q h=>by
  obtain⟨τ,ρ,G,ab,ok⟩:=Pd (k:=λτ x=>(r τ).bind λxs=>M.ret (x::xs)) h;right;cases e:m τ G with
  |stuck=>left
  |bR c G'=>left
  |ok d G'=>
   k_is;refine⟨τ2,ρ2,G2,cz,?_⟩;dsimp only[M.bind]at aS;cases e2:r τ2 G2 with
   |stuck=>rw[e2]at aS;exact aS
   |bR c G'=>rw[e2]at aS;exact aS
   |ok S U=>rw[e2]at aS;exact λJ I g t D O=>aS (v::J) I g t D (.cons (r2.mono t) O)
def ai(f:X2->M D)(m:DS->M X2):Y2:=λτ=>(m τ).bind f
theorem mU{m:DS->M X2}{f:X2->M D}{r:X1->Hp->VK->Prop}{g:L2.St}{H:Hp}{Q:VK}
  (t:∀(H:Hp)(τ:DS)(ρ:Q1)(G:DH)(xs:X1)(ds:X2),Ab X.K X.mg g H τ ρ G->aq X.K X.mg ρ H ds xs->kI X.K X.mg EE H g τ ρ (f ds G) Q->r xs H Q)
  (h:cL X.K X.mg EE (ai f m) g H Q):lY X.K X.mg EE m g H λxs F=>r xs F Q:=by
 obtain⟨τ,ρ,G,ab,ok⟩:=tu (k:=λ_=>f) h;right;cases e:m τ G with
 |stuck=>left
 |bR c G'=>left
 |ok d G'=>k_is;exact t H' τ2 ρ2 G2 v d2 cz r2 aS
theorem Pr {x1} (h:QA X EE es m):QE X EE (.Tuple es x1 pos) (ai aZ m):=
 PE.mono (OR h) λk H Q h=>mU (r:=λxs d Q=>xs.length<=Ç/\∀p,d p=Å->Q (.ref p) (upd d p (.tup xs))) (λH τ ρ G xs ds ab r g=>yl ab r g) h
theorem Pu(h:QA X EE es m):QE X EE (.List es pos) (ai aN m):=
 PE.mono (OS h) λk H Q h=>mU (r:=λxs d Q=>xs.length<=Ç/\∀p,d p=Å->Q (.ref p) (upd d p (.lst xs))) (λH τ ρ G xs ds ab r g=>kM ab r g) h
def CallD(X:Cx)(EE:bV)(r:X1->Hp->VK->Prop)(f:X2->M D):Prop:=∀(d:L2.St)(H:Hp)(τ:DS)(ρ:Q1)(G:DH)(xs:X1)(ds:X2)(Q:VK),
 Ab X.K X.mg d H τ ρ G->aq X.K X.mg ρ H ds xs->kI X.K X.mg EE H d τ ρ (f ds G) Q->r xs H Q
theorem Hf{p:Pos}{k:String}{r:X1->Hp->VK->Prop}{f:X2->M D}(t:fF X (.builtin k) r)(T:CallD X EE r f)(U:X.mg x=Å)(R:QA X EE (e::es) m)
  (O:Gl X x:=by rfl) (S:bootBuiltins x=À (.builtin k):=by first|rfl|decide) (L:x≠"__name__":=by decide) (d:(x==("__debug__":Str))=Â:=by decide)
  (I:ä (e::es) X.env=(Â,eval e X.env)::ä es X.env:=by rfl) (g:(backTo pos (ä es X.env)).any (·.1)=Â:=by rfl):QE X EE (.Call (.Name x p) (e::es) [] pos) (ai f m):=
 PE.mono (GL t O U S R L d I g) λF H Q h=>mU (r:=r) (λH τ ρ G xs ds ab r J=>T F H τ ρ G xs ds Q ab r J) h
theorem ET{p:Pos}{T:String}{r:X1->Hp->VK->Prop}{f:X2->M D}(k:fF X (.type T) r)(S:CallD X EE r f)(U:X.mg x=Å)(O:QA X EE (e::es) m)
  (L:Gl X x:=by rfl) (R:bootBuiltins x=À (.type T):=by first|rfl|decide) (J:x≠"__name__":=by decide) (d:(x==("__debug__":Str))=Â:=by decide)
  (F:ä (e::es) X.env=(Â,eval e X.env)::ä es X.env:=by rfl) (g:(backTo pos (ä es X.env)).any (·.1)=Â:=by rfl):QE X EE (.Call (.Name x p) (e::es) [] pos) (ai f m):=
 PE.mono (EJ k L U R O J d F g) λt H Q h=>mU (r:=r) (λH τ ρ G xs ds ab r I=>S t H τ ρ G xs ds Q ab r I) h
def jJ(f:D->M Bool)(m:Y2):DS->M Bool:=λτ=>(m τ).bind f
def j0:D->M Bool
 |.bw=>M.ret Â
 |.bl b=>M.ret b
 |.int i=>M.ret (i != 0)
 |.str y=>if y.length<=Ç then M.ret ((y.length:Int) != 0) else M.stop
 |.tup xs=>M.ret (!xs.isEmpty)
 |.con xs=>M.ret (!xs.isEmpty)
 |.obj n=>λG=>match G[n]? with
  |some (.lst xs)=>.ok (!xs.isEmpty) G
  |_=>.stuck
 |.fn _=>M.stop
 |.Ky _ _=>M.stop
 |.Kz _ _=>M.stop
theorem kN(r:aq K mg ρ H ds vs):(!vs.isEmpty)=!ds.isEmpty:=by have:=r.length;cases ds<;>cases vs<;>first|rfl|(simp at this)
theorem Hg{m:Y2}{Q:Bool->Hp->Prop}(h:liftT X.K X.mg EE (jJ j0 m) σ H Q):
  cL X.K X.mg EE m σ H λx D=>∃k,OO X.K x D k/\Q k D:=by
 obtain⟨τ,ρ,G,ab,ok⟩:=G7 (k:=λ_=>j0) h;right;cases e:m τ G with
 |stuck=>left
 |bR c G'=>left
 |ok d G'=>
  k_is;cases d2 with
  |bw=>by_in;subst r2;exact⟨Â,rfl,aS H' ρ2 .refl cz⟩
  |bl b=>by_in;subst r2;exact⟨b,rfl,aS H' ρ2 .refl cz⟩
  |int i=>by_in;subst r2;exact⟨_,rfl,aS H' ρ2 .refl cz⟩
  |str y=>
   by_in;subst r2;dsimp only[j0]at aS;split at aS
   ·rename_i F;exact⟨_,⟨F,rfl⟩,aS H' ρ2 .refl cz⟩
   ·exact aS.elim
  |tup xs=>by_in;obtain⟨p,vs,rfl,t,rs⟩:=r2;exact⟨!vs.isEmpty,.inr (.inl ⟨vs,t,rfl⟩),by rw[kN rs];exact aS H' ρ2 .refl cz⟩
  |con xs=>by_in;obtain⟨p,vs,rfl,t,rs⟩:=r2;exact⟨!vs.isEmpty,.inl ⟨vs,t.seq,rfl⟩,by rw[kN rs];exact aS H' ρ2 .refl cz⟩
  |obj n=>
   by_in;obtain⟨p,rfl,I⟩:=r2;dsimp only[j0]at aS;cases q:G2[n]? with
   |none=>rw[q]at aS;exact aS.elim
   |some o=>
    cases o with
    |lst xs=>rw[q]at aS;obtain⟨J,vs,e2,hp,rs⟩:=cz.hp.lst q;rw[I]at e2;cases e2;exact⟨!vs.isEmpty,.inl ⟨vs,.of hp,rfl⟩,by rw[kN rs];exact aS H' ρ2 .refl cz⟩
    |_=>first|(rw[q]at ok;exact ok.elim)|(rw[q]at aS;exact aS.elim)|(rw[q]at e;cases e;done)|(rw[g]at ok;exact ok.elim)|(rw[g]at q;cases q;done)|(rw[g]at h;cases h;done)|(rw[g2]at ok;exact ok.elim)|(rw[g1,g2]at ok;exact ok.elim)|(rw[q1]at ok;exact ok.elim)|exact ok.elim
  |fn x=>exact aS.elim
  |Ky c L=>exact aS.elim
  |Kz O M=>exact aS.elim
theorem Pw(g:QE X EE a ma)(k:∀d,isTrue a X.env d=(do let v <- d;standAt a.pos;holding [v] (truthy v)):=by intro _;rfl):QT X EE a (jJ j0 ma):=
 PT.mono (GJ g k) λt H Q h=>Hg h
end
def cH{d g:Type}(f:d->Option g):List d->Option (List g)
 |[]=>À []
 |a::r=>match f a,cH f r with
  |some b,À bs=>À (b::bs)
  |_,_=>Å
def nW(G:DH):Nat->D->Option PyData
 |0,_=>Å
 |_+1,.bw=>À .none
 |_+1,.bl b=>À (.bool b)
 |_+1,.int i=>À (.int i)
 |_+1,.str x=>À (.str x)
 |n+1,.tup ds=>(cH (nW G n) ds).map .tuple
 |n+1,.con ds=>(cH (nW G n) ds).map .list
 |n+1,.obj k=>match G[k]? with
  |some (.lst ds)=>(cH (nW G n) ds).map .list
  |_=>Å
 |_+1,.fn _=>Å
 |_+1,.Ky _ _=>Å
 |_+1,.Kz _ _=>Å
section
theorem readsAll{f:D->Option PyData}(k:∀(d:D) (x:V) (u:Æ) (p:PyData),Rep X.K X.mg ρ H d x->RelV x u->f d=À p->∃g,Reads s.heap u p g):
  ∀(ds:X2)(xs:X1)(us:List Æ)(ps:List PyData),aq X.K X.mg ρ H ds xs->Vals xs us->cH f ds=À ps->∃g,ReadsAll s.heap us ps g
 |[],xs,us,ps,r,v,e=>by unfold aq at r;subst r;cases v;k_ne;exact⟨[],.nil⟩
 |d::ds,xs,us,ps,r,v,e=>by
  unfold aq at r;obtain⟨x,L,rfl,M,F⟩:=r;cases v with
  |cons v1 v2=>
  unfold cH at e;cases e1:f d with
  |none=>rw[e1]at e;k_ne
  |some p=>
   cases e2:cH f ds with
   |none=>rw[e1,e2]at e;k_ne
   |some I=>rw[e1,e2]at e;k_ne;obtain⟨g,t⟩:=k d x _ p M v1 e1;obtain⟨bs,J⟩:=readsAll k ds L _ I F v2 e2;exact⟨g++bs,.cons t J⟩
theorem dP(I:Inv X pins σ H s)(T:gc X.K X.mg H ρ G):∀(n:Nat)(d:D)(x:V)(u:Æ)(p:PyData),Rep X.K X.mg ρ H d x->RelV x u->nW G n d=À p->∃R,Reads s.heap u p R
 |0,_,_,_,_,_,_,e=>nomatch e
 |n+1,.bw,x,u,p,r,v,e=>by unfold Rep at r;subst r;cases v;k_ne;exact⟨_,.none⟩
 |n+1,.bl b,x,u,p,r,v,e=>by unfold Rep at r;subst r;cases v;k_ne;exact⟨_,.bool b⟩
 |n+1,.int i,x,u,p,r,v,e=>by unfold Rep at r;subst r;obtain⟨t,rfl⟩:=v;k_ne;exact⟨_,.int i t⟩
 |n+1,.str y,x,u,p,r,v,e=>by unfold Rep at r;subst r;obtain⟨t,rfl⟩:=v;k_ne;exact⟨_,.str y t⟩
 |n+1,.tup ds,x,u,p,r,v,e=>by
  unfold Rep at r;obtain⟨a,xs,rfl,U,O⟩:=r;cases v;obtain⟨F,vs,⟨o,J,L,k,Y⟩,_⟩:=I.tuple (zu.t U);unfold nW at e;cases q:cH (nW G n) ds with
  |none=>rw[q]at e;k_ne
  |some M=>rw[q]at e;k_ne;obtain⟨R,S⟩:=readsAll (λd x u p=>dP I T n d x u p) ds xs F M O vs q;exact⟨R,.tuple J L Y ‹S›⟩
 |n+1,.con ds,x,u,p,r,v,e=>by
  unfold Rep at r;obtain⟨a,xs,rfl,U,O⟩:=r;cases v;obtain⟨F,vs,⟨o,k,J,L,Y,Z⟩,_⟩:=I.list U.seq;unfold nW at e;cases q:cH (nW G n) ds with
  |none=>rw[q]at e;k_ne
  |some M=>rw[q]at e;k_ne;obtain⟨R,S⟩:=readsAll (λd x u p=>dP I T n d x u p) ds xs F M O vs q;exact⟨_,.list J L Z ‹S›⟩
 |n+1,.obj k,x,u,p,r,v,e=>by
  unfold Rep at r;obtain⟨a,rfl,e0⟩:=r;cases v;dsimp only[nW]at e;cases q:G[k]? with
  |none=>rw[q]at e;k_ne
  |some o=>
   cases o with
   |lst ds=>
    rw[q]at e;obtain⟨a',xs,J,L,O⟩:=T.lst q;rw[e0]at J;cases J;obtain⟨F,vs,⟨o,k,J,L,Y,Z⟩,_⟩:=I.list (.of L);dsimp only at e;cases q:cH (nW G n) ds with
    |none=>rw[q]at e;k_ne
    |some M=>rw[q]at e;k_ne;obtain⟨R,S⟩:=readsAll (λd x u p=>dP I T n d x u p) ds xs F M O vs q;exact⟨_,.list J L Z ‹S›⟩
   |_=>first|(rw[q]at ok;exact ok.elim)|(rw[q]at aS;exact aS.elim)|(rw[q]at e;cases e;done)|(rw[g]at ok;exact ok.elim)|(rw[g]at q;cases q;done)|(rw[g]at h;cases h;done)|(rw[g2]at ok;exact ok.elim)|(rw[g1,g2]at ok;exact ok.elim)|(rw[q1]at ok;exact ok.elim)|exact ok.elim
 |n+1,.fn y,x,u,p,r,v,e=>nomatch e
 |n+1,.Ky y _,x,u,p,r,v,e=>nomatch e
 |n+1,.Kz y _,x,u,p,r,v,e=>nomatch e
end
section
variable{a b:Expr}{ma mb mc:Y2}
def rD(X:Cx)(EE:bV)(f:D->D->M D):R2:=λx y H Q=>∃g τ ρ G d e,Ab X.K X.mg g H τ ρ G/\Rep X.K X.mg ρ H d x/\Rep X.K X.mg ρ H e y/\kI X.K X.mg EE H g τ ρ (f d e G) Q
theorem j8:Lk X EE (rD X EE f) f:=λD H τ ρ G x y d e Q ab t k g=>⟨D,τ,ρ,G,d,e,ab,t,k,g⟩
theorem Tj{r:R2}(h:Lk X EE r f){x y:V}{H:Hp}{Q:VK}(q:rD X EE f x y H Q):r x y H Q:=by obtain⟨g,τ,ρ,G,d,e,ab,D,t,k⟩:=q;exact h g H τ ρ G x y d e Q ab D t k
abbrev deep:Nat:=600
def EU(d e:D)(G:DH):Option Bool:=match nW G deep d,nW G deep e with
 |some p,À q=>if p.canLay0&&(q.canLay0&&decide (min p.depth q.depth<=580)) then À (aac p q) else Å
 |_,_=>Å
def e8(g:Bool)(d e:D):M D:=λG=>match EU d e G with
 |some b=>.ok (.bl (g ^^ b)) G
 |none=>.stuck
theorem Hh(R:X.A.units+600<cLine):jB X (compareOp .Eq) (rD X EE (e8 Â)):=by
 intro pins s σ0 H x y v u Q I D J zu;obtain⟨O,τ,ρ,G,d,e,ab,t,F,ok⟩:=zu;dsimp only[e8,EU]at ok;cases e1:nW G deep d with
 |none=>rw[e1]at ok;rfl'
 |some p=>
  cases e2:nW G deep e with
  |none=>rw[e1,e2]at ok;rfl'
  |some q=>
   rw[e1,e2]at ok;nofun;by_cases g:(p.canLay0&&(q.canLay0&&decide (min p.depth q.depth<=580)))=Ä
   ·rw[Α g]at ok;simp only[Ė,decide_eq_true_eq]at g;obtain⟨M,L⟩:=dP I ab.hp deep d x v p t D e1;obtain⟨bs,k⟩:=dP I ab.hp deep e y u q F J e2;refine SeqAt.compareEq_reads L k g.1 g.2.1 ∅ ⟨.bl _,H,I,rfl,?_⟩;have:=ok (.bl _) H ρ .refl ab (by unfold Rep;rfl);z_go
   ·rw[Β g]at ok;rfl'
theorem Px(R:X.A.units+600<cLine):jB X (compareOp .NotEq) (rD X EE (e8 Ä)):=by
 intro pins s σ0 H x y v u Q I D J zu;obtain⟨O,τ,ρ,G,d,e,ab,t,F,ok⟩:=zu;dsimp only[e8,EU]at ok;cases e1:nW G deep d with
 |none=>rw[e1]at ok;rfl'
 |some p=>
  cases e2:nW G deep e with
  |none=>rw[e1,e2]at ok;rfl'
  |some q=>
   rw[e1,e2]at ok;nofun;by_cases g:(p.canLay0&&(q.canLay0&&decide (min p.depth q.depth<=580)))=Ä
   ·rw[Α g]at ok;simp only[Ė,decide_eq_true_eq]at g;obtain⟨M,L⟩:=dP I ab.hp deep d x v p t D e1;obtain⟨bs,k⟩:=dP I ab.hp deep e y u q F J e2;refine SeqAt.compareNe_reads L k g.1 g.2.1 ∅ ⟨.bl _,H,I,rfl,?_⟩;have:=ok (.bl _) H ρ .refl ab (by unfold Rep;rfl);z_go
   ·rw[Β g]at ok;rfl'
theorem To(d:X.A.units+600<cLine)(g:QE X EE a ma)(k:QE X EE b mb):QE X EE (.Compare a [.Eq] [b] pos) (aj (e8 Â) ma mb):=tB (Hh d) j8 g k (yd _)
inductive Tp where
 |lst (xs:X2)|tup (xs:X2)|str (x:Str)
def ak(G:DH):D->Option Tp
 |.tup xs=>À (.tup xs)
 |.con xs=>À (.lst xs)
 |.obj n=>match G[n]? with
  |some (.lst xs)=>À (.lst xs)
  |_=>Å
 |.str x=>À (.str x)
 |_=>Å
def KC(d:D)(ds:X2)(G:DH):Option Bool:=match nW G deep d,cH (nW G deep) ds with
 |some p,À g=>if p.canLay0&&(ł g&&decide (min (ŗ g) p.depth<=580)) then À (g.any λy=>aac y p) else Å
 |_,_=>Å
def tD(g:Bool)(d e:D):M D:=λG=>match ak G e with
 |some (.lst ds)=>match KC d ds G with
  |some b=>.ok (.bl (g ^^ b)) G
  |none=>.stuck
 |some (.tup ds)=>match KC d ds G with
  |some b=>.ok (.bl (g ^^ b)) G
  |none=>.stuck
 |some (.str j)=>match d with
  |.str i=>.ok (.bl (g ^^ !(aad j i 0 j.length 1).isEmpty)) G
  |_=>.stuck
 |none=>.stuck
theorem bJ{pins:N0}{σ0:L2.St}{s:Ì}{d:D}{x:V}(h:gc X.K X.mg H ρ G)(r:Rep X.K X.mg ρ H d x)(e:ak G d=À (.lst ds)):
  ∃p xs,x=.ref p/\kG X.K H p xs/\aq X.K X.mg ρ H ds xs:=by
 cases d with
 |con xs=>k_ne;unfold Rep at r;obtain⟨a,xs,rfl,t,rs⟩:=r;exact⟨a,xs,rfl,t.seq,rs⟩
 |obj n=>
  unfold Rep at r;obtain⟨a,rfl,k⟩:=r;dsimp only[ak]at e;cases q:G[n]? with
  |none=>rw[q]at e;k_ne
  |some o=>
   cases o with
   |lst ys=>rw[q]at e;k_ne;obtain⟨F,xs,e1,e2,rs⟩:=h.lst q;rw[k]at e1;cases e1;exact⟨a,xs,rfl,.of e2,rs⟩
   |_=>first|(rw[q]at ok;exact ok.elim)|(rw[q]at aS;exact aS.elim)|(rw[q]at e;cases e;done)|(rw[g]at ok;exact ok.elim)|(rw[g]at q;cases q;done)|(rw[g]at h;cases h;done)|(rw[g2]at ok;exact ok.elim)|(rw[g1,g2]at ok;exact ok.elim)|(rw[q1]at ok;exact ok.elim)|exact ok.elim
 |_=>k_ne
theorem tE{d:D}{x:V}(r:Rep X.K X.mg ρ H d x)(e:ak G d=À (.tup ds)):
  ∃p xs,x=.ref p/\zu H p xs/\aq X.K X.mg ρ H ds xs:=by
 cases d with
 |tup xs=>k_ne;unfold Rep at r;obtain⟨a,xs,rfl,k,g⟩:=r;exact⟨a,xs,rfl,k,g⟩
 |obj n=>
  dsimp only[ak]at e;cases q:G[n]? with
  |none=>rw[q]at e;k_ne
  |some o=>cases o<;>(rw[q]at e;cases e)
 |_=>k_ne
theorem fB{d:D}{x:V}(r:Rep X.K X.mg ρ H d x)(e:ak G d=À (.tup ds)):
  ∃p xs,x=.ref p/\nA X.K H p xs/\aq X.K X.mg ρ H ds xs:=let ⟨p,xs,g,k,F⟩:=tE r e;⟨p,xs,g,k.t,F⟩
theorem j9{d:D}{x:V}(r:Rep X.K X.mg ρ H d x)(e:ak G d=À (.str y)):d=.str y/\x=.str y:=by
 cases d with
 |str z=>k_ne;unfold Rep at r;exact⟨rfl,r⟩
 |obj n=>
  dsimp only[ak]at e;cases q:G[n]? with
  |none=>rw[q]at e;k_ne
  |some o=>cases o<;>(rw[q]at e;cases e)
 |_=>k_ne
theorem Hi{p:Addr}(I:Inv X pins σ0 H s)(R:gc X.K X.mg H ρ G)(M:kG X.K H p xs)(D:aq X.K X.mg ρ H ds xs)
  (e:cH (nW G deep) ds=À qs):∃t,Reads s.heap (.ref p) (.list qs) t:=by
 obtain⟨g,vs,⟨o,k,F,L,S,J⟩,_⟩:=I.list M;obtain⟨t,O⟩:=readsAll (λd x u p=>dP I R deep d x u p) ds xs g qs D vs e;exact⟨_,.list F L J ‹O›⟩
theorem Hj{p:Addr}(I:Inv X pins σ0 H s)(R:gc X.K X.mg H ρ G)(M:nA X.K H p xs)(F:aq X.K X.mg ρ H ds xs)
  (e:cH (nW G deep) ds=À qs):∃t,Reads s.heap (.ref p) (.tuple qs) t:=by
 obtain⟨g,vs,⟨o,J,L,k,D⟩,_⟩:=I.tuple M;obtain⟨t,O⟩:=readsAll (λd x u p=>dP I R deep d x u p) ds xs g qs F vs e;exact⟨_,.tuple J L D ‹O›⟩
theorem pA{d:D}{b:Bool}(h:KC d ds G=À b):∃p qs,nW G deep d=À p/\cH (nW G deep) ds=À qs/\p.canLay0=Ä/\ł qs=Ä/\min (ŗ qs) p.depth<=580/\b=qs.any λy=>aac y p:=by
 unfold KC at h;cases e1:nW G deep d with
 |none=>rw[e1]at h;cases h
 |some p=>
  cases e2:cH (nW G deep) ds with
  |none=>rw[e1,e2]at h;cases h
  |some qs=>
   rw[e1,e2]at h;dsimp only at h;by_cases g:(p.canLay0&&(ł qs&&decide (min (ŗ qs) p.depth<=580)))=Ä
   ·rw[Α g]at h;simp only[Ė,decide_eq_true_eq]at g;exact⟨p,qs,rfl,rfl,g.1,g.2.1,g.2.2,(æ h).symm⟩
   ·rw[Β g]at h;cases h
theorem Hl(hu:X.A.units+600<cLine):jB X (compareOp .In) (rD X EE (tD Â)):=by
 intro pins s σ0 H x y v u Q I L S zu;obtain⟨Z,τ,ρ,G,d,e,ab,g,O,ok⟩:=zu;dsimp only[tD]at ok;cases q:ak G e with
 |none=>ac_nf;rfl'
 |some sk=>
  ac_nf;cases sk with
  |lst ds=>
   nofun;cases qb:KC d ds G with
   |none=>rw[qb]at ok;rfl'
   |some b=>rw[qb]at ok;obtain⟨p,U,J,R,M,F,Y,rfl⟩:=pA qb;obtain⟨l,xs,rfl,D,t⟩:=bJ (pins:=pins) (σ0:=σ0) (s:=s) ab.hp O q;cases S;obtain⟨V,T⟩:=dP I ab.hp deep d x v p g L J;obtain⟨bs,k⟩:=Hi I ab.hp D t R;refine SeqAt.in_list_reads k T F M ∅ ⟨.bl _,H,I,rfl,?_⟩;have:=ok (.bl _) H ρ .refl ab (by unfold Rep;rfl);z_go
  |tup ds=>
   nofun;cases qb:KC d ds G with
   |none=>rw[qb]at ok;rfl'
   |some b=>rw[qb]at ok;obtain⟨p,U,J,R,M,F,Y,rfl⟩:=pA qb;obtain⟨l,xs,rfl,D,t⟩:=fB O q;cases S;obtain⟨V,T⟩:=dP I ab.hp deep d x v p g L J;obtain⟨bs,k⟩:=Hj I ab.hp D t R;refine SeqAt.in_tuple_reads k T F M ∅ ⟨.bl _,H,I,rfl,?_⟩;have:=ok (.bl _) H ρ .refl ab (by unfold Rep;rfl);z_go
  |str j=>
   obtain⟨rfl,rfl⟩:=j9 O q;cases d with
   |str i=>unfold Rep at g;subst g;refine EG pins s σ0 H _ _ v u Q I L S ⟨i,j,rfl,rfl,?_⟩;have:=ok (.bl _) H ρ .refl ab (by unfold Rep;rfl);z_go
   |_=>rfl'
theorem EV(hu:X.A.units+600<cLine):jB X (compareOp .NotIn) (rD X EE (tD Ä)):=by
 intro pins s σ0 H x y v u Q I L S zu;obtain⟨Z,τ,ρ,G,d,e,ab,g,O,ok⟩:=zu;dsimp only[tD]at ok;cases q:ak G e with
 |none=>ac_nf;rfl'
 |some sk=>
  ac_nf;cases sk with
  |lst ds=>
   nofun;cases qb:KC d ds G with
   |none=>rw[qb]at ok;rfl'
   |some b=>rw[qb]at ok;obtain⟨p,U,J,R,M,F,Y,rfl⟩:=pA qb;obtain⟨l,xs,rfl,D,t⟩:=bJ (pins:=pins) (σ0:=σ0) (s:=s) ab.hp O q;cases S;obtain⟨V,T⟩:=dP I ab.hp deep d x v p g L J;obtain⟨bs,k⟩:=Hi I ab.hp D t R;refine SeqAt.notIn_list_reads k T F M ∅ ⟨.bl _,H,I,rfl,?_⟩;have:=ok (.bl _) H ρ .refl ab (by unfold Rep;rfl);z_go
  |tup ds=>
   nofun;cases qb:KC d ds G with
   |none=>rw[qb]at ok;rfl'
   |some b=>rw[qb]at ok;obtain⟨p,U,J,R,M,F,Y,rfl⟩:=pA qb;obtain⟨l,xs,rfl,D,t⟩:=fB O q;cases S;obtain⟨V,T⟩:=dP I ab.hp deep d x v p g L J;obtain⟨bs,k⟩:=Hj I ab.hp D t R;refine SeqAt.notIn_tuple_reads k T F M ∅ ⟨.bl _,H,I,rfl,?_⟩;have:=ok (.bl _) H ρ .refl ab (by unfold Rep;rfl);z_go
  |str j=>
   obtain⟨rfl,rfl⟩:=j9 O q;cases d with
   |str i=>unfold Rep at g;subst g;refine yc pins s σ0 H _ _ v u Q I L S ⟨i,j,rfl,rfl,?_⟩;have:=ok (.bl _) H ρ .refl ab (by unfold Rep;rfl);z_go
   |_=>rfl'
theorem Tq(k:X.A.units+600<cLine)(d:QE X EE a ma)(g:QE X EE b mb)(t:behindInMarks .In b=Â:=by first|rfl|(with_unfolding_all rfl)):QE X EE (.Compare a [.In] [b] pos) (aj (tD Â) ma mb):=tB (Hl k) j8 d g t
def eV(g:Bool):D->D->M D
 |d,.bw=>match d with
  |.bw=>M.ret (.bl (!g))
  |_=>M.ret (.bl g)
 |_,_=>M.stop
theorem ym{d:D}{x:V}(r:Rep K mg ρ H d x):decide (x=.bw)=(match d with|.bw=>Ä|_=>Â):=by
 cases d<;>unfold Rep at r
 case bw=>subst r;rfl
 case tup=>obtain⟨a,xs,rfl,_⟩:=r;rfl
 case con=>obtain⟨a,xs,rfl,_⟩:=r;rfl
 case obj=>obtain⟨a,rfl,_⟩:=r;rfl
 case fn=>obtain⟨a,rfl,_⟩:=r;rfl
 case Ky=>obtain⟨a,t,rfl,_⟩:=r;rfl
 case Kz=>obtain⟨k,a,g,xs,rfl,_⟩:=r;rfl
 all_goals (subst r;rfl)
theorem Py(g:QE X EE a ma)(k:QE X EE b mb):QE X EE (.Compare a [.Is] [b] pos) (aj (eV Â) ma mb):=tB GI (λD H τ ρ G x y d e Q ab t r2 ok=>by
 cases e with
 |bw=>by_in;refine⟨r2,?_⟩;rw[ym t];cases d<;>exact ok _ H ρ .refl ab (by unfold Rep;rfl)
 |_=>exact ok.elim) g k (yd _)
end
section
variable{a b:Expr}{ma mb mc:Y2}
def az(d e:D):M D:=λG=>match e with
 |.int i=>match ak G d with
  |some (.lst xs)=>match gr xs i with
   |some v=>.ok v G
   |none=>.stuck
  |some (.tup xs)=>match gr xs i with
   |some v=>.ok v G
   |none=>.stuck
  |some (.str z)=>if z.length<=Ç then (match gr z.cps.toList i with
   |some c=>.ok (.str ⟨#[c]⟩) G
   |none=>.stuck) else .stuck
  |none=>.stuck
 |_=>.stuck
theorem zL{i:Int}{d:D}(r:aq K mg ρ H ds vs)(h:gr ds i=À d):∃v,gr vs i=À v/\Rep K mg ρ H d v:=by
 unfold gr at h |-;rw[<- r.length];cases e:zq ds.length i with
 |none=>rw[e]at h;cases h
 |some j=>rw[e]at h;obtain⟨v,k,g⟩:=r.get (show ds[j]?=À d from h);exact⟨v,k,g⟩
theorem Wh:RV X (rD X EE az):=by
 intro k g pins s σ0 H x y v u Q I L R zu M;obtain⟨S,τ,ρ,G,d,e,ab,D,r2,ok⟩:=zu;cases e<;>try exact ok.elim
 rename_i i;by_in;subst r2;dsimp only[az]at ok;cases q:ak G d with
 |none=>ac_nf;rfl'
 |some sk=>
  ac_nf;cases sk with
  |lst ds=>
   nofun;cases qa:gr ds i with
   |none=>rw[qa]at ok;rfl'
   |some z=>rw[qa]at ok;obtain⟨l,xs,rfl,F,t⟩:=bJ (pins:=pins) (σ0:=σ0) (s:=s) ab.hp D q;obtain⟨w,J,O⟩:=zL t qa;exact K9 k g pins s σ0 H _ _ v u Q I L R ⟨l,xs,i,w,rfl,rfl,F,J,ok w H ρ .refl ab O⟩ M
  |tup ds=>
   nofun;cases qa:gr ds i with
   |none=>rw[qa]at ok;rfl'
   |some z=>rw[qa]at ok;obtain⟨l,xs,rfl,F,t⟩:=fB D q;obtain⟨w,J,O⟩:=zL t qa;exact OX k g pins s σ0 H _ _ v u Q I L R ⟨l,xs,i,w,rfl,rfl,F,J,ok w H ρ .refl ab O⟩ M
  |str z=>
   nofun;obtain⟨rfl,rfl⟩:=j9 D q;by_cases hz:z.length<=Ç
   ·rw[Α hz]at ok;cases qa:gr z.cps.toList i with
    |none=>rw[qa]at ok;rfl'
    |some c=>rw[qa]at ok;exact OY k g pins s σ0 H _ _ v u Q I L R ⟨z,i,c,rfl,rfl,hz,qa,ok _ H ρ .refl ab (by unfold Rep;rfl)⟩ M
   ·rw[Β hz]at ok;rfl'
theorem Ho(g:QE X EE a ma)(k:QE X EE b mb)(d:sC b:=by intro _ _;rfl):QE X EE (.Subscript a b pos) (aj az ma mb):=Tg Wh j8 g k d
def cM:DS->M (Option Int):=λ_=>M.ret Å
def bq(m:Y2):DS->M (Option Int):=λτ=>(m τ).bind λd=>match d with
 |.int i=>M.ret (À i)
 |_=>M.stop
def Za(K:Ë)(g:Str->Option Æ)(EE:bV)(H:Hp)(d:L2.St)(τ:DS)(ρ:Q1):Out (Option Int)->(Option Int->Hp->Prop)->Prop
 |.stuck,_=>False
 |.ok b G',Q=>∀H' ρ',cK K H H' ρ ρ'->Ab K g d H' τ ρ' G'->Q b H'
 |.bR c G',_=>∀H' ρ',cK K H H' ρ ρ'->Ab K g d H' τ ρ' G'->EE c d H'
def Tr(K:Ë)(d:Str->Option Æ)(EE:bV)(m:DS->M (Option Int)):TO:=λg H Q=>∃τ ρ G,Ab K d g H τ ρ G/\Za K d EE H g τ ρ (m τ G) Q
def QO(X:Cx)(EE:bV)(e:Option Expr)(m:DS->M (Option Int)):Prop:=PO X e (Tr X.K X.mg EE m)
theorem PO.mono{e:Option Expr}{t t':TO}(h:PO X e t)(i:∀d H Q,t' d H Q->t d H Q):PO X e t':=λpins s d H Q I q=>h pins s d H Q I (i _ _ _ q)
theorem Lo:QO X EE Å cM:=PO.mono K6 λg H Q zz=>by obtain⟨τ,ρ,G,ab,d⟩:=zz;exact d H ρ .refl ab
theorem Lq(k:QE X EE a ma):QO X EE (À a) (bq ma):=PO.mono (K7 k) λt H Q zz=>by
 obtain⟨τ,ρ,G,ab,ok⟩:=zz;right;dsimp only[bq,M.bind]at ok;cases e:ma τ G with
 |stuck=>left
 |bR c G'=>left
 |ok d G'=>
  k_in;intro v H' ρ' f g r;cases d<;>try exact ok.elim
  rename_i i;unfold Rep at r;exact⟨i,r,ok H' ρ' f g⟩
def cutD(xs:X2)(d g:Option Int):X2:=(xs.drop (HT.gb xs.length 0 d)).take (HT.gb xs.length xs.length g-HT.gb xs.length 0 d)
def tF(d:D)(g k:Option Int):M D:=λG=>match ak G d with
 |some (.lst xs)=>aN (cutD xs g k) G
 |some (.tup xs)=>if HT.gb xs.length 0 g=0/\HT.gb xs.length xs.length k=xs.length then .stuck else aZ (cutD xs g k) G
 |some (.str z)=>if z.length<=Ç then .ok (.str (aaf z g k)) G else .stuck
 |none=>.stuck
def jK(m:Y2)(ml g:DS->M (Option Int)):Y2:=λτ=>(m τ).bind λd=>(ml τ).bind λk=>(g τ).bind λt=>tF d k t
def Wi(X:Cx)(EE:bV):V->Option Int->Option Int->Hp->VK->Prop:=λx k t H Q=>∃g τ ρ G d,Ab X.K X.mg g H τ ρ G/\Rep X.K X.mg ρ H d x/\kI X.K X.mg EE H g τ ρ (tF d k t G) Q
theorem zM(r:aq K mg ρ H ds vs)(g d:Option Int):aq K mg ρ H (cutD ds g d) (zE vs g d):=by unfold cutD zE;rw[r.length];exact(r.drop _).take _
theorem mV(x:Str)(l u:Option (Int×Tok))(d g:Option Int)(D:l.map (·.1)=d)(F:u.map (·.1)=g)(t:Tok)(s:Ì)(Q:Æ->Ì->Prop)(hz:x.length<=Ç)
  (h:∀t' k,Q (.str (aaf x d g) t') {s with toks:=k}):(sliceMade x t l u Å).post Q s:=by
 subst D F;cases l<;>cases u<;>exact post_val_or_str ⟨ú (abc x _ _) hz,λt' k=>h t' k⟩
theorem Wj:Vf X (Wi X EE):=by
 intro pins s σ0 H x v vl vu D J sl Q I Y Z pl pu zu;obtain⟨σ,τ,ρ,G,d,ab,U,ok⟩:=zu;dsimp only[tF]at ok;cases q:ak G d with
 |none=>ac_nf;rfl'
 |some sk=>
  ac_nf;cases sk with
  |lst ds=>obtain⟨l,xs,rfl,V,O⟩:=bJ (pins:=pins) (σ0:=σ0) (s:=s) ab.hp U q;exact La pins s σ0 H _ v vl vu D J sl Q I Y Z pl pu ⟨l,xs,rfl,V,(kM ab (zM O D J) ok).2⟩
  |tup ds=>
   obtain⟨l,xs,rfl,V,O⟩:=fB U q;nofun;by_cases hw:HT.gb ds.length 0 D=0/\HT.gb ds.length ds.length J=ds.length
   ·rw[Α hw]at ok;rfl'
   ·rw[Β hw]at ok;refine OW pins s σ0 H _ v vl vu D J sl Q I Y Z pl pu ⟨l,xs,rfl,V,?_,(yl ab (zM O D J) ok).2⟩;rw[<- O.length];exact hw
  |str z=>
   obtain⟨rfl,rfl⟩:=j9 U q;nofun;by_cases hz:z.length<=Ç
   ·rw[Α hz]at ok;obtain⟨t,rfl⟩:=Y;refine⟨"str",_,F.slot_str_getitem.lookup,typeIs_str _ _ _,?_⟩;obtain⟨o,S,T,R⟩:=Z;refine jA I.os.2 ?_;have g:∀t' k,0<k->EP X pins σ0 Q (.str (aaf z D J) t') {s with toks:=k}:=λt' k ht=>⟨.str _,H,I.tok k,⟨t',rfl⟩,ok _ H ρ .refl ab (by unfold Rep;rfl)⟩;cases pl with
    |none=>
     cases pu with
     |none=>exact š (l:=Å) (u:=Å) (st:=Å) ⟨o,S,T,R⟩ rfl (mV z Å Å Å Å rfl rfl t s _ hz g)
     |int j L=>exact š (l:=Å) (u:=À (j,L)) (st:=Å) ⟨o,S,T,R⟩ rfl (mV z Å (À (j,L)) Å (À j) rfl rfl t s _ hz g)
    |int i M=>
     cases pu with
     |none=>exact š (l:=À (i,M)) (u:=Å) (st:=Å) ⟨o,S,T,R⟩ rfl (mV z (À (i,M)) Å (À i) Å rfl rfl t s _ hz g)
     |int j L=>exact š (l:=À (i,M)) (u:=À (j,L)) (st:=Å) ⟨o,S,T,R⟩ rfl (mV z (À (i,M)) (À (j,L)) (À i) (À j) rfl rfl t s _ hz g)
   ·rw[Β hz]at ok;rfl'
theorem Hq{mh:DS->M (Option Int)}(Y:QE X EE a ma)(L:QO X EE lo ml)(T:QO X EE hi mh):QE X EE (.Subscript a (.Slice lo hi Å p2) pos) (jK ma ml mh):=
 PE.mono (GO Wj Y L T) λU H Q zz=>by
  obtain⟨τ,ρ,G,ab,ok⟩:=zz;right;dsimp only[jK,M.bind]at ok;cases e1:ma τ G with
  |stuck=>rw[e1]at ok;w_up
  |bR c G'=>rw[e1]at ok;w_up
  |ok d G1=>
   rw[e1]at ok;nofun;intro v H1 F k V O;refine⟨τ,F,G1,V,?_⟩;cases e2:ml τ G1 with
   |stuck=>rw[e2]at ok;w_up
   |bR c G'=>rw[e2]at ok;exact λH' ρ' t=>ok H' ρ' (k.trans t)
   |ok l G2=>
    rw[e2]at ok;nofun;intro H2 D g Z;refine⟨τ,D,G2,Z,?_⟩;cases e3:mh τ G2 with
    |stuck=>rw[e3]at ok;w_up
    |bR c G'=>rw[e3]at ok;exact λH' ρ' t=>ok H' ρ' ((k.trans g).trans t)
    |ok u R=>rw[e3]at ok;nofun;intro H3 I J S;exact⟨U,τ,I,R,d,S,O.mono (g.trans J),ok.fut ((k.trans g).trans J)⟩
def eG(d g:DS->M Bool):DS->M Bool:=λτ=>(d τ).bind λc=>if c then g τ else M.ret Â
def rZ(d g:DS->M Bool):DS->M Bool:=λτ=>(d τ).bind λc=>if c then M.ret Ä else g τ
def zN(d:DS->M Bool):DS->M Bool:=λτ=>(d τ).bind λc=>M.ret (!c)
variable{ta tb tc:DS->M Bool}{rest:U2}
theorem Hr{Q:Bool->Hp->Prop}(h:liftT X.K X.mg EE (eG ta tb) σ H Q):Sw (liftT X.K X.mg EE ta) (liftT X.K X.mg EE tb) σ H Q:=by
 obtain⟨τ,ρ,G,ab,ok⟩:=BX (k:=λτ c=>if c then tb τ else M.ret Â) h;right;cases e:ta τ G with
 |stuck=>left
 |bR c G'=>left
 |ok k G'=>
  k_in;intro H' ρ' F J;obtain⟨g,d,I,D,t⟩:=ok H' ρ' F J;cases k with
  |true=>exact⟨g,d,I,D,t⟩
  |false=>exact t H' d .refl D
theorem Lr{Q:Bool->Hp->Prop}(h:liftT X.K X.mg EE (rZ ta tb) σ H Q):XU (liftT X.K X.mg EE ta) (liftT X.K X.mg EE tb) σ H Q:=by
 obtain⟨τ,ρ,G,ab,ok⟩:=BX (k:=λτ c=>if c then M.ret Ä else tb τ) h;right;cases e:ta τ G with
 |stuck=>left
 |bR c G'=>left
 |ok k G'=>
  k_in;intro H' ρ' F J;obtain⟨g,d,I,D,t⟩:=ok H' ρ' F J;cases k with
  |false=>exact⟨g,d,I,D,t⟩
  |true=>exact t H' d .refl D
theorem PW.mono{t:TT}(h:PW X e t)(i:∀d H Q,t' d H Q->t d H Q):PW X e t':=λg pins s d H Q I q=>h g pins s d H Q I (i _ _ _ q)
theorem Ls(d:QT X EE a ta):QW X EE (.BoolOp .And [a] pos) ta:=KP d
theorem Pz(d:QT X EE a ta):QW X EE (.BoolOp .Or [a] pos) ta:=Om d
theorem PB(d:QT X EE a ta)(g:QW X EE (.BoolOp .And (b::rest) pos) tb):QW X EE (.BoolOp .And (a::b::rest) pos) (eG ta tb):=PW.mono (Oo d g) λ_ _ _ h=>Hr h
theorem Tt(d:QT X EE a ta)(g:QW X EE (.BoolOp .Or (b::rest) pos) tb):QW X EE (.BoolOp .Or (a::b::rest) pos) (rZ ta tb):=PW.mono (Sx d g) λ_ _ _ h=>Lr h
theorem Wl(h:QW X EE e ta):QT X EE e ta:=h.pt
theorem PC(I:QT X EE a ta):QT X EE (.UnaryOp .Not a pos) (zN ta):=PT.mono (Oq I) λL H Q h=>by
 obtain⟨τ,ρ,G,ab,ok⟩:=BX (k:=λτ c=>M.ret (!c)) h;right;cases e:ta τ G with
 |stuck=>left
 |bR c G'=>left
 |ok k G'=>k_in;intro H' ρ' g F;obtain⟨D,d,O,J,t⟩:=ok H' ρ' g F;exact t H' d .refl J
def b8(m:Y2):DS->M Bool:=λτ=>(m τ).bind λd=>match d with
 |.bl b=>M.ret b
 |_=>M.stop
theorem Dv{m:Y2}{Q:Bool->Hp->Prop}(h:liftT X.K X.mg EE (b8 m) σ H Q):cL X.K X.mg EE m σ H λx g=>∃c,x=.bl c/\Q c g:=by
 obtain⟨τ,ρ,G,ab,ok⟩:=G7 (k:=λ_ d=>match d with|.bl b=>M.ret b|_=>M.stop) h;right;cases e:m τ G with
 |stuck=>left
 |bR c G'=>left
 |ok d G'=>
  k_is;cases d2<;>try exact aS.elim
  rename_i k;by_in;exact⟨k,r2,aS H' ρ2 .refl cz⟩
theorem PF(t:jB X (compareOp op) (rD X EE f))(g:QE X EE a ma)(k:QE X EE b mb)(D:behindInMarks op b=Â):QT X EE (.Compare a [op] [b] pos) (b8 (aj f ma mb)):=
 PT.mono (K1 t g k D) λF H Q h=>by have d:=Dv h;exact sG j8 d
theorem zO{g:Æ->Æ->Sem Æ}{r:R2}(d:jB X g r)(D:Lk X EE r f):jB X g (rD X EE f):=λpins s k H x y v u Q I t F q=>d pins s k H x y v u Q I t F (Tj D q)
theorem PJ:jB X (compareOp .Lt) (rD X EE Ll):=zO SV (jZ λ_ _ _ _=>by unfold Rep;rfl)
theorem PK:jB X (compareOp .Gt) (rD X EE kK):=zO Nq (jZ λ_ _ _ _=>by unfold Rep;rfl)
theorem PL:jB X (compareOp .GtE) (rD X EE Pj):=zO Nr (jZ λ_ _ _ _=>by unfold Rep;rfl)
theorem Lu:jB X (compareOp .Is) (rD X EE (eV Â)):=zO GI λk H τ ρ G x y d e Q ab g r2 ok=>by
 cases e with
 |bw=>by_in;refine⟨r2,?_⟩;rw[ym g];cases d<;>exact ok _ H ρ .refl ab (by unfold Rep;rfl)
 |_=>rfl'
theorem Hs:jB X (compareOp .IsNot) (rD X EE (eV Ä)):=zO KY λk H τ ρ G x y d e Q ab g r2 ok=>by
 cases e with
 |bw=>by_in;refine⟨r2,?_⟩;rw[ym g];cases d<;>exact ok _ H ρ .refl ab (by unfold Rep;rfl)
 |_=>rfl'
def Ht(t:DS->M Bool)(d g:Y2):Y2:=λτ=>(t τ).bind λc=>if c then d τ else g τ
theorem Tu(I:QT X EE c ta)(O:QE X EE a ma)(M:QE X EE b mb):QE X EE (.IfExp c a b pos) (Ht ta ma mb):=PE.mono (GB I O M) λR H Q h=>by
 obtain⟨τ,ρ,G,ab,ok⟩:=Pc (k:=λτ c=>if c then ma τ else mb τ) h;right;cases e:ta τ G with
 |stuck=>left
 |bR c G'=>left
 |ok k G'=>
  k_in;intro H' ρ' J L;obtain⟨d,g,D,F,t⟩:=ok H' ρ' J L;cases k with
  |true=>exact⟨d,g,D,F,t⟩
  |false=>exact⟨d,g,D,F,t⟩
def tG(g k:Y2):Y2:=λτ=>(g τ).bind λd=>match d with
 |.bl Ä=>k τ
 |.bl Â=>M.ret (.bl Â)
 |_=>M.stop
def Tv(g k:Y2):Y2:=λτ=>(g τ).bind λd=>match d with
 |.bl Â=>k τ
 |.bl Ä=>M.ret (.bl Ä)
 |_=>M.stop
def PM(g:Y2):Y2:=λτ=>(g τ).bind λd=>match d with
 |.bl b=>M.ret (.bl (!b))
 |_=>M.stop
theorem PN {op} (h:QE X EE a ma):QE X EE (.BoolOp op [a] pos) ma:=Ot h
theorem PR(g:QE X EE a ma)(t:QE X EE (.BoolOp .And (b::rest) pos) mb):QE X EE (.BoolOp .And (a::b::rest) pos) (tG ma mb):=PE.mono (Ou g t) λD H Q h=>by
 obtain⟨τ,ρ,G,ab,ok⟩:=kJ (k:=λτ d=>match d with|.bl Ä=>mb τ|.bl Â=>M.ret (.bl Â)|_=>M.stop) h;right;cases e:ma τ G with
 |stuck=>left
 |bR c G'=>left
 |ok k G'=>
  k_is;cases d2<;>try exact aS.elim
  rename_i k;by_in;refine⟨k,r2,?_⟩;cases k with
  |true=>exact⟨τ2,ρ2,G2,cz,aS⟩
  |false=>exact aS _ H' ρ2 .refl cz (by unfold Rep;rfl)
theorem Tw(g:QE X EE a ma)(t:QE X EE (.BoolOp .Or (b::rest) pos) mb):QE X EE (.BoolOp .Or (a::b::rest) pos) (Tv ma mb):=PE.mono (SA g t) λD H Q h=>by
 obtain⟨τ,ρ,G,ab,ok⟩:=kJ (k:=λτ d=>match d with|.bl Â=>mb τ|.bl Ä=>M.ret (.bl Ä)|_=>M.stop) h;right;cases e:ma τ G with
 |stuck=>left
 |bR c G'=>left
 |ok k G'=>
  k_is;cases d2<;>try exact aS.elim
  rename_i k;by_in;refine⟨k,r2,?_⟩;cases k with
  |false=>exact⟨τ2,ρ2,G2,cz,aS⟩
  |true=>exact aS _ H' ρ2 .refl cz (by unfold Rep;rfl)
theorem PU(g:QE X EE a ma):QE X EE (.UnaryOp .Not a pos) (PM ma):=PE.mono (Ov g) λt H Q h=>by
 obtain⟨τ,ρ,G,ab,ok⟩:=kJ (k:=λτ d=>match d with|.bl b=>M.ret (.bl (!b))|_=>M.stop) h;right;cases e:ma τ G with
 |stuck=>left
 |bR c G'=>left
 |ok k G'=>
  k_is;cases d2<;>try exact aS.elim
  rename_i k;by_in;exact⟨k,r2,aS _ H' ρ2 .refl cz (by unfold Rep;rfl)⟩
def zP(g:Y2):Y2:=λτ=>(g τ).bind λd=>match d with
 |.int i=>M.ret (.int (-i))
 |_=>M.stop
theorem PV(g:QE X EE a ma):QE X EE (.UnaryOp .USub a pos) (zP ma):=PE.mono (SQ ON g) λt H Q h=>by
 obtain⟨τ,ρ,G,ab,ok⟩:=kJ (k:=λτ d=>match d with|.int i=>M.ret (.int (-i))|_=>M.stop) h;right;cases e:ma τ G with
 |stuck=>left
 |bR c G'=>left
 |ok k G'=>
  k_is;cases d2<;>try exact aS.elim
  rename_i k;by_in;exact⟨k,r2,aS _ H' ρ2 .refl cz (by unfold Rep;rfl)⟩
end
section
variable{a b:Expr}{ma mb mc:Y2}{ta tb tc:DS->M Bool}{mt:MS}
def bD:MS:=λτ G=>.nx τ G
def au(m k:MS):MS:=λτ G=>match m τ G with
 |.nx τ' G'=>k τ' G'
 |r=>r
theorem Lv:pg X EE [] bD:=BK.mono KQ λD g H zz=>by obtain⟨τ,ρ,G,ab,d⟩:=zz;exact d g H ρ .refl ab
theorem Hu(h:iQ X.K X.mg EE (au ms mt) Dd σ H):SG (iQ X.K X.mg EE ms) (iQ X.K X.mg EE mt) Dd σ H:=by
 cb_eq;right;dsimp only[au]at ok;cases e:ms τ G with
 |nx τ' G'=>k_in;exact λk H' ρ' f g=>⟨τ',ρ',G',g,ok.fut f⟩
 |stuck=>left
 |rt d G=>left
 |bk τ G=>left
 |ct τ G=>left
 |xn c τ G=>left
theorem Hv{st:Stmt}{d:List Stmt}(g:QS X EE st ms)(k:pg X EE d mt):pg X EE (st::d) (au ms mt):=BK.mono (GC g k) λ_ _ _ h=>Hu h
theorem Lw{st:Stmt}(d:QS X EE st ms):pg X EE [st] ms:=KR d
def eL(m:Y2):MS:=λτ=>bC (m τ) (λ_ G=>.nx τ G) λc G=>.xn c τ G
def b9(m:Y2):MS:=λτ=>bC (m τ) (λd G=>.rt d G) λc G=>.xn c τ G
def aA(i:Nat)(m:Y2):MS:=λτ=>bC (m τ) (λd G=>.nx (τ.set i (À d)) G) λc G=>.xn c τ G
def jb(t:DS->M Bool)(d g:MS):MS:=λτ=>bC (t τ) (λc G=>if c then d τ G else g τ G) λc G=>.xn c τ G
theorem Lx(F:QE X EE a ma)(g:swapsWith a Å pos.line X.env=pure Â:=by rfl):QS X EE (.Expr a pos) (eL ma):=PS.mono (KS F g) λD t H h=>by
 obtain⟨τ,ρ,G,ab,ok⟩:=tw (k:=λτ d G=>.nx τ G) h;right;cases e:ma τ G with
 |stuck=>left
 |bR c G'=>left
 |ok d G'=>k_is;exact aS t H' ρ2 .refl cz
theorem PX(g:QE X EE a ma):QS X EE (.Return (À a) pos) (b9 ma):=PS.mono (Ow g) λD t H h=>by
 obtain⟨τ,ρ,G,ab,ok⟩:=tw (k:=λτ d G=>.rt d G) h;right;cases e:ma τ G with
 |stuck=>left
 |bR c G'=>left
 |ok d G'=>k_is;exact aS v H' ρ2 .refl cz.hp r2
theorem Ab.set{d:D}(ab:Ab K mg σ H τ ρ G)(r:Rep K mg ρ H d v):Ab K mg (σ.set i (À v)) H (τ.set i (À d)) ρ G:=⟨ab.st.set r,ab.hp⟩
theorem PY{g:Pos}(t:X.N.Nodup)(F:QE X EE a ma)(M:X.N[i]?=À x:=by rfl)(I:Loc X.env.scope x:=by first|exact Or.inl rfl|exact adn rfl)
  (J:swapsWith a (À (.Name x g)) pos.line X.env=pure Â:=by rfl) (L:X.fn x=Ä\/X.env.scope.names.lookup x=À .local:=by first|exact .inl rfl|exact .inr rfl|assumption):
  QS X EE (.Assign [.Name x g] a pos) (aA i ma):=PS.mono (OB t M I F J L) λD O H h=>by
 obtain⟨τ,ρ,G,ab,ok⟩:=tw (k:=λτ d G=>.nx (τ.set i (À d)) G) h;right;cases e:ma τ G with
 |stuck=>left
 |bR c G'=>left
 |ok d G'=>k_is;exact aS _ H' ρ2 .refl (cz.set r2)
theorem Tz(J:QT X EE c tc)(R:pg X EE body ms)(O:pg X EE els mt):QS X EE (.If c body els pos) (jb tc ms mt):=PS.mono (SI J R O) λD S H h=>by
 obtain⟨τ,ρ,G,ab,ok⟩:=G8 (k:=λτ c G=>if c then ms τ G else mt τ G) h;right;cases e:tc τ G with
 |stuck=>left
 |bR c G'=>left
 |ok k G'=>
  k_in;intro H' ρ' L M;obtain⟨d,g,F,I,t⟩:=ok H' ρ' L M;cases k with
  |true=>exact⟨d,g,F,I,t⟩
  |false=>exact⟨d,g,F,I,t⟩
abbrev jV:=D->DS->Option DS
def zQ(K:Ë)(t:Str->Option Æ)(g:jV):TG:=λv D H Q=>∃τ ρ G d τ',Ab K t D H τ ρ G/\Rep K t ρ H d v/\g d τ=À τ'/\∀k,Ab K t k H τ' ρ G->Q k H
def QG(X:Cx)(e:Expr)(g:jV):Prop:=PG X e (zQ X.K X.mg g)
def gN(i:Nat):jV:=λd τ=>À (τ.set i (À d))
theorem Ly(t:X.N.Nodup)(J:X.N[i]?=À x:=by rfl)(D:Loc X.env.scope x:=by first|exact Or.inl rfl|exact adn rfl)(F:X.fn x=Ä\/X.env.scope.names.lookup x=À .local:=by first|exact .inl rfl|exact .inr rfl|assumption):
  QG X (.Name x pos) (gN i):=λpins s k H v u Q I r ⟨τ,ρ,G,d,τ',ab,g,e,q⟩=>mT t J D F pins s k H v u Q I r (by
 k_ne;exact q _ (ab.set g))
def aT(g:jV)(body:MS):X2->MS
 |[],τ,G=>.nx τ G
 |d::r,τ,G=>match g d τ with
  |none=>.stuck
  |some τ1=>match body τ1 G with
   |.nx τ' G'=>aT g body r τ' G'
   |.ct τ' G'=>aT g body r τ' G'
   |.bk τ' G'=>.nx τ' G'
   |x=>x
def nX(g:jV)(body:MS)(n:Nat):Nat->Nat->MS
 |0,_,_,_=>.stuck
 |f+1,k,τ,G=>match G[n]? with
  |some (.lst xs)=>match xs[k]? with
   |none=>.nx τ G
   |some d=>match g d τ with
    |none=>.stuck
    |some τ1=>match body τ1 G with
     |.nx τ' G'=>nX g body n f (k+1) τ' G'
     |.ct τ' G'=>nX g body n f (k+1) τ' G'
     |.bk τ' G'=>.nx τ' G'
     |x=>x
  |_=>.stuck
end
variable{g:jV}
def Lz(z:Str):It:=⟨λi _=>i<z.cps.size,λi H x H'=>H'=H/\∃c,z.cps[i]?=À c/\x=.str ⟨#[c]⟩,λi _=>z.cps.size<=i⟩
theorem Hw(z:Str)(t:Tok)(it:Addr):Turn P w K tg (Lz z) [it] it (λi h=>h.IsStrIter it (strIterType z) z t i) where
 mem:=by simp
 obj:=λi h st b J=>by
  have e:b=it:=‹J›
  x_go;obtain⟨o,e,c,d⟩:=st;exact⟨o,e,λv z=>by rw[d]at z;cases z⟩
 keep:=λi h h' st k=>by obtain⟨o,e,r⟩:=st;exact⟨o,k it (by simp) o e,r⟩
 item:=by
  intro X S V U R i pins s O H E I hf st T;subst S V U;room;have L:z.cps[i]?=À z.cps[i]:=ź T
  have D:∀h',h'.IsStrIter it (strIterType z) z t (i+1)->Ř it s.heap h'->∃u,À (Value.str ⟨#[z.cps[i]]⟩ s.toks)=À u /\
   à (model X.prog X.w) X.A (letOwnedTupleGo tg (.ref it) u) (λ_ Y=>∃x H',Inv X pins O H' Y/\RelV x u/\(Lz z).vZ i H x H'/\Y.heap.IsStrIter it (strIterType z) z t (i+1)/\∀b∈[it],H' b=Å) E {s with heap:=h',toks:=s.toks+1}:=λh' F M=>by
   have Z:Inv X pins O H {s with heap:=h',toks:=s.toks+1}:=I.turned (t':=s.toks+1) (λb o J e=>(M.2 b J).trans e) f0 f1 f3 f4 f5;obtain⟨o,e,c,d⟩:=id F;refine⟨_,rfl,sS (s:={s with heap:=h',toks:=s.toks+1}) e c d ?_ ⟨.str ⟨#[z.cps[i]]⟩,H,Z,⟨_,rfl⟩,⟨rfl,_,L,rfl⟩,F,λb J=>(hf b J).1⟩⟩;unfold strIterType;split<;>decide
  cases ha:z.cps.all (·<128)with
  |true=>
   have e:strIterType z="str_ascii_iterator":=by unfold strIterType;rw[ha];rfl
   rw[e]at st D;exact wpAny_pyNext_ascii_item st L λh' F M=>by rw[e];exact D h' F M
  |false=>
   have e:strIterType z="str_iterator":=by unfold strIterType;rw[ha];rfl
   rw[e]at st D;exact wpAny_pyNext_wide_item st L λh' F M=>by rw[e];exact D h' F M
 done:=by
  intro X S V U R i pins s O H E I hf st T;subst S V U;room;have L:z.cps[i]?=Å:=aaq T;have D:∀h',ach it s.heap h'->(Å:Option Æ)=Å/\Inv X pins O H {s with heap:=h'}:=λh' eb=>⟨rfl,I.turned (t':=s.toks) (λb o J e=>eb b o J e) f0 f1 f3 f4 f5⟩;cases ha:z.cps.all (·<128)with
  |true=>
   have e:strIterType z="str_ascii_iterator":=by unfold strIterType;rw[ha];rfl
   rw[e]at st;exact wpAny_pyNext_ascii_end (I.ok.hd R) st L D
  |false=>
   have e:strIterType z="str_iterator":=by unfold strIterType;rw[ha];rfl
   rw[e]at st;exact wpAny_pyNext_wide_end (I.ok.hd R) st L D
 self:=λA i s Q E st h=>by
  cases ha:z.cps.all (·<128)with
  |true=>
   have e:strIterType z="str_ascii_iterator":=by unfold strIterType;rw[ha];rfl
   rw[e]at st;exact wpAny_pyIter_striter_ascii st h
  |false=>
   have e:strIterType z="str_iterator":=by unfold strIterType;rw[ha];rfl
   rw[e]at st;exact wpAny_pyIter_striter_wide st h
section
variable{a b:Expr}{ma mb mc:Y2}{mt:MS}
def e9(g:jV)(m:Y2)(body:MS):MS:=λτ=>bC (m τ) (λd G=>match d with
 |.obj n=>match G[n]? with
  |some (.lst xs)=>nX g body n (xs.length+1) 0 τ G
  |_=>.stuck
 |.tup xs=>aT g body xs τ G
 |.con xs=>aT g body xs τ G
 |.str z=>aT g body (z.cps.toList.map λc=>.str ⟨#[c]⟩) τ G
 |_=>.stuck) λc G=>.xn c τ G
theorem mW{g:jV}{body:MS}{Dd:Ends}{J:It}{H0:Hp}{σ0:L2.St}{k:Q1}{V:DH}{I:DS}(ds:X2)
  (go:∀i H ρ,i<ds.length->cK X.K H0 H k ρ->J.go i H) (T:∀i H ρ,ds.length<=i->cK X.K H0 H k ρ->J.stop i H)
  (vZ:∀i d H ρ x H',ds[i]?=À d->cK X.K H0 H k ρ->J.vZ i H x H'->H'=H/\Rep X.K X.mg ρ H d x)
  (ab:Ab X.K X.mg σ0 H0 I k V) (ok:sF X.K X.mg EE H0 k Dd (aT g body ds I V)):
  ∃W:Nat->Nat->L2.St->Hp->Prop,(∃m,W 0 m σ0 H0)/\∀i m L H,W i m L H ->
   (J.stop i H/\Dd.nx L H)\/(J.go i H/\∃N:L2.St->Hp->Prop,(∀t H',N t H'->∃Z,Z<m/\W (i+1) Z t H')/\∀x H',J.vZ i H x H'->zQ X.K X.mg g x L H' λO U=>iQ X.K X.mg EE body {Dd with nx:=N,ct:=N,bk:=Dd.nx} O U):=by
 refine⟨λi m L H=>i<=ds.length/\m=ds.length-i/\∃τ ρ G,Ab X.K X.mg L H τ ρ G/\cK X.K H0 H k ρ/\sF X.K X.mg EE H ρ Dd (aT g body (ds.drop i) τ G),⟨ds.length,é _,rfl,I,k,V,ab,.refl,‹ok›⟩,?_⟩;rintro i m L H ⟨hi,rfl,τ,ρ,G,ab,f,ok⟩;by_cases F:i<ds.length
 ·refine .inr ⟨go i H ρ F f,λt H'=>∃τ' ρ' G',Ab X.K X.mg t H' τ' ρ' G'/\cK X.K H0 H' k ρ'/\sF X.K X.mg EE H' ρ' Dd (aT g body (ds.drop (i+1)) τ' G'),λt H' n=>⟨ds.length-(i+1),∅,F,rfl,n⟩,λx H' y=>?_⟩;obtain⟨rfl,rx⟩:=vZ i ds[i] H ρ x H' (Ê F) f y;rw[ĸ F]at ok;unfold aT at ok;cases e:g ds[i] τ with
  |none=>k_in;rfl'
  |some τ1=>
   k_in;nofun;refine⟨τ,ρ,G,ds[i],τ1,ab,rx,e,λt bf=>⟨τ1,ρ,G,bf,?_⟩⟩;cases eb:body τ1 G with
   |stuck=>rw[eb]at ok;w_up
   |nx D R=>rw[eb]at ok;exact λO U M S Y=>⟨D,M,R,Y,f.trans S,ok.fut S⟩
   |ct D R=>rw[eb]at ok;exact λO U M S Y=>⟨D,M,R,Y,f.trans S,ok.fut S⟩
   |bk D R=>rw[eb]at ok;w_up
   |rt d R=>rw[eb]at ok;w_up
   |xn c D R=>rw[eb]at ok;w_up
 ·have e:i=ds.length:=∅
  x_go;refine .inl ⟨T _ H ρ (È _) f,?_⟩;rw[ŋ (È _)]at ok;exact ok L H ρ .refl ab
theorem LA{g:jV}{body:MS}{Dd:Ends}{H0:Hp}{σ0:L2.St}{R:DH}{D:DS}{p:Addr}{fuel:Nat}(hn:ρ0[n]?=À p)
  (ab:Ab X.K X.mg σ0 H0 D ρ0 R) (ok:sF X.K X.mg EE H0 ρ0 Dd (nX g body n fuel 0 D R)):
  ∃W:Nat->Nat->L2.St->Hp->Prop,(∃m,W 0 m σ0 H0)/\∀i m F H,W i m F H ->
   ((Kv X.K p).stop i H/\Dd.nx F H)\/((Kv X.K p).go i H/\∃N:L2.St->Hp->Prop,(∀k H',N k H'->∃Y,Y<m/\W (i+1) Y k H')/\∀x H',(Kv X.K p).vZ i H x H'->zQ X.K X.mg g x F H' λJ O=>iQ X.K X.mg EE body {Dd with nx:=N,ct:=N,bk:=Dd.nx} J O):=by
 refine⟨λi m F H=>∃τ ρ G,Ab X.K X.mg F H τ ρ G/\cK X.K H0 H ρ0 ρ/\sF X.K X.mg EE H ρ Dd (nX g body n m i τ G),⟨fuel,D,ρ0,R,ab,.refl,ok⟩,?_⟩;rintro i m F H ⟨τ,ρ,G,ab,f,ok⟩;cases m with
 |zero=>rfl'
 |succ m=>
  unfold nX at ok;cases q:G[n]? with
  |none=>ac_nf;rfl'
  |some o=>
   cases o with
   |lst ds=>
    ac_nf;nofun;obtain⟨p',xs,e1,S,U⟩:=ab.hp.lst q;rw[f.get hn]at e1;cases e1;cases qd:ds[i]? with
    |none=>
     rw[qd]at ok;have hl:xs.length<=i:=by rw[<- U.length];exact Ą.mp qd
     exact .inl ⟨⟨xs,.of S,hl⟩,ok F H ρ .refl ab⟩
    |some d=>
     rw[qd]at ok;nofun;obtain⟨Z,V,rx⟩:=U.get qd;refine .inr ⟨⟨xs,Z,.of S,V⟩,λk H'=>∃τ' ρ' G',Ab X.K X.mg k H' τ' ρ' G'/\cK X.K H0 H' ρ0 ρ'/\sF X.K X.mg EE H' ρ' Dd (nX g body n m (i+1) τ' G'),λk H' z=>⟨m,Ŏ _,z⟩,λx H' y=>?_⟩;obtain⟨rfl,y⟩:=y;have e3:=y xs (.of S);rw[V]at e3;cases e3;cases e:g d τ with
     |none=>k_in;rfl'
     |some τ1=>
      k_in;nofun;refine⟨τ,ρ,G,d,τ1,ab,rx,e,λk bf=>⟨τ1,ρ,G,bf,?_⟩⟩;cases eb:body τ1 G with
      |stuck=>rw[eb]at ok;w_up
      |nx t L=>rw[eb]at ok;exact λJ O I M T=>⟨t,I,L,T,f.trans M,ok.fut M⟩
      |ct t L=>rw[eb]at ok;exact λJ O I M T=>⟨t,I,L,T,f.trans M,ok.fut M⟩
      |bk t L=>rw[eb]at ok;w_up
      |rt d L=>rw[eb]at ok;w_up
      |xn c t L=>rw[eb]at ok;w_up
   |_=>first|(rw[q]at ok;exact ok.elim)|(rw[q]at aS;exact aS.elim)|(rw[q]at e;cases e;done)|(rw[g]at ok;exact ok.elim)|(rw[g]at q;cases q;done)|(rw[g]at h;cases h;done)|(rw[g2]at ok;exact ok.elim)|(rw[g1,g2]at ok;exact ok.elim)|(rw[q1]at ok;exact ok.elim)|exact ok.elim
theorem PI.any{l:Expr}{S:TE}(U:PE X l S):PI X tg l (λD H R=>S D H λx d=>(∃p,x=.ref p/\(∃xs,kG X.K d p xs)/\R (Kv X.K p) d)\/(∃p,x=.ref p/\(∃xs,nA X.K d p xs)/\R (Vd X.K p) d)\/∃z,x=.str z/\R (Lz z) d):=by
 intro pins s D H R I h;refine d7 (U pins s D H _ I h) λu s1 zz=>?_;obtain⟨x,d,k,L,q⟩:=zz;rcases q with⟨p,rfl,⟨xs,O⟩,q⟩|⟨p,rfl,⟨xs,O⟩,q⟩|⟨z,rfl,q⟩
 ·cases L;obtain⟨M,T,pl,hz⟩:=k.list O;refine aar pl.isList ?_;have J:Inv X pins D d {s1 with heap:=s1.heap.push {cls:=.type "list_iterator",data:=.fields #[.ref p,.int 0 0]}}:=k.kept (t':=s1.toks) λb o e=>Ï _ e;refine⟨s1.heap.objs.size,[s1.heap.objs.size],_,Kv X.K p,d,rfl,J,EC p _,⟨_,Ø _ rfl,rfl,rfl⟩,λb F=>?_,q⟩;have e:b=s1.heap.objs.size:=‹F›
  x_go;exact k.rW (È _) (k.hok.fresh (È _))
 ·cases L;obtain⟨M,T,pl,hz⟩:=k.tuple O;refine Ŧ pl ?_;have J:Inv X pins D d {s1 with heap:=s1.heap.push {cls:=.type "tuple_iterator",data:=.fields #[.ref p,.int 0 0]}}:=k.kept (t':=s1.toks) λb o e=>Ï _ e;refine⟨s1.heap.objs.size,[s1.heap.objs.size],_,Vd X.K p,d,rfl,J,BN p _,⟨_,Ø _ rfl,rfl,rfl⟩,λb F=>?_,q⟩;have e:b=s1.heap.objs.size:=‹F›
  x_go;exact k.rW (È _) (k.hok.fresh (È _))
 ·obtain⟨t,rfl⟩:=L;refine wpAny_pyIter_strU ?_;have J:Inv X pins D d {s1 with heap:=s1.heap.push {cls:=.type (strIterType z),data:=.fields #[.str z t,.int 0 0]}}:=k.kept (t':=s1.toks) λb o e=>Ï _ e;refine⟨s1.heap.objs.size,[s1.heap.objs.size],_,Lz z,d,rfl,J,Hw z t _,⟨_,Ø _ rfl,rfl,rfl⟩,λb F=>?_,q⟩;have e:b=s1.heap.objs.size:=‹F›
  x_go;exact k.rW (È _) (k.hok.fresh (È _))
theorem PZ(Y:PassesOwn (model X.prog X.w) X.A X.env X.xe)(J:X.calm=Ä)(ha:QE X EE a ma)(U:QG X tg g)(S:pg X EE body ms)(hs:∀x,foldedSetIterable a X.env x=pure x:=by intro _;rfl):
  QS X EE (.For tg a body [] pos) (e9 g ma ms):=PS.mono (ya Y J (PI.any ha) U S hs) λDd σ H h=>by
 obtain⟨τ,ρ,G,ab,ok⟩:=tw (k:=λτ d G=>match d with
  |.obj n=>match G[n]? with
   |some (.lst xs)=>nX g ms n (xs.length+1) 0 τ G
   |_=>.stuck
  |.tup xs=>aT g ms xs τ G
  |.con xs=>aT g ms xs τ G
  |.str z=>aT g ms (z.cps.toList.map λc=>.str ⟨#[c]⟩) τ G
  |_=>.stuck) h
 right;cases e:ma τ G with
 |stuck=>left
 |bR c G'=>left
 |ok d G'=>
  k_in;intro v H1 M R ir V;obtain⟨O,ρ2,G2,d2,cz,r2,aS⟩:=ok v H1 M R ir V;cases d2<;>try exact aS.elim
  case obj n=>
   dsimp only at aS;by_in;obtain⟨p,rfl,e1⟩:=r2;cases q:G2[n]? with
   |none=>rw[q]at aS;exact aS.elim
   |some o=>
    cases o with
    |lst xs=>rw[q]at aS;obtain⟨p',vs,e2,h2,F⟩:=cz.hp.lst q;rw[e1]at e2;cases e2;exact .inl ⟨p,rfl,⟨vs,.of h2⟩,LA e1 cz aS⟩
    |_=>first|(rw[q]at ok;exact ok.elim)|(rw[q]at aS;exact aS.elim)|(rw[q]at e;cases e;done)|(rw[g]at ok;exact ok.elim)|(rw[g]at q;cases q;done)|(rw[g]at h;cases h;done)|(rw[g2]at ok;exact ok.elim)|(rw[g1,g2]at ok;exact ok.elim)|(rw[q1]at ok;exact ok.elim)|exact ok.elim
  case tup xs=>
   by_in;obtain⟨p,vs,rfl,D,F⟩:=r2;refine .inr (.inl ⟨p,rfl,⟨vs,D⟩,mW xs (λi H' ρ' t f=>?_) (λi H' ρ' t f=>?_) (λi d' H' ρ' x T I f y=>?_) cz aS⟩)
   ·rw[F.length]at t;exact⟨vs,vs[i],f.tup _ _ D,Ê t⟩
   ·exact⟨vs,f.tup _ _ D,by rw[<- F.length];exact t⟩
   ·obtain⟨rfl,y⟩:=y;obtain⟨Z,L,rw'⟩:=F.get I;have:=y vs (f.tup _ _ D);rw[L]at this;cases this;exact⟨rfl,rw'.mono f⟩
  case con xs=>
   by_in;obtain⟨p,vs,rfl,D,F⟩:=r2;refine .inl ⟨p,rfl,⟨vs,D.seq⟩,mW xs (λi H' ρ' t f=>?_) (λi H' ρ' t f=>?_) (λi d' H' ρ' x T I f y=>?_) cz aS⟩
   ·rw[F.length]at t;exact⟨vs,vs[i],(f.con _ _ D).seq,Ê t⟩
   ·exact⟨vs,(f.con _ _ D).seq,by rw[<- F.length];exact t⟩
   ·obtain⟨rfl,y⟩:=y;obtain⟨Z,L,rw'⟩:=F.get I;have:=y vs (f.con _ _ D).seq;rw[L]at this;cases this;exact⟨rfl,rw'.mono f⟩
  case str z=>
   by_in;subst r2;refine .inr (.inr ⟨z,rfl,mW (z.cps.toList.map λc=>.str ⟨#[c]⟩) (λi H' ρ' t f=>?_) (λi H' ρ' t f=>?_) (λi d' H' ρ' x T I f y=>?_) cz aS⟩)
   ·simpa[Lz]using t
   ·simpa[Lz]using t
   ·obtain⟨rfl,c,J,rfl⟩:=y;rw[Ö]at I;have:z.cps.toList[i]?=À c:=‹J›
    rw[this]at I;cases I;exact⟨rfl,by unfold Rep;rfl⟩
def e7:X2->Option X2
 |[.int j]=>if -(2^62)<=j/\j<2^62 then À ((ø j.toNat).map λ(k:Nat)=>.int (0+(k:Int))) else Å
 |_=>Å
def zR:X2->Option X2
 |[.int i,.int j]=>if -(2^62)<=i/\i<2^62/\-(2^62)<=j/\j<2^62 then À ((ø (j-i).toNat).map λ(k:Nat)=>.int (i+(k:Int))) else Å
 |_=>Å
def iu(d:X2->Option X2)(g:jV)(m:DS->M X2)(body:MS):MS:=λτ=>bC (m τ) (λds G=>match d ds with
 |some xs=>aT g body xs τ G
 |none=>.stuck) λc G=>.xn c τ G
theorem BY{k:DS->X2->DH->Res}(h:iQ K mg EE (λτ=>bC (m τ) (k τ) λc G=>.xn c τ G) Dd σ H):
  lY K mg EE m σ H λx D=>∃τ ρ G d,Ab K mg σ D τ ρ G/\aq K mg ρ D d x/\sF K mg EE D ρ Dd (k τ d G):=by
 cb_eq;right;dsimp only[bC]at ok;cases e:m τ G with
 |stuck=>left
 |bR c G'=>k_in;exact λH' ρ' f t=>ok σ H' ρ' f t
 |ok d G'=>k_in;exact λv H' ρ' f t r=>⟨τ,ρ',G',d,t,r,ok.fut f⟩
theorem wB{body:MS}{D:DS}(t:Int)(n:Nat)(ab:Ab X.K X.mg σ0 H0 D ρ0 G0)(R:sF X.K X.mg EE H0 ρ0 Dd (aT g body ((ø n).map λ(k:Nat)=>.int (t+(k:Int))) D G0)):
  ∃W:Nat->Nat->L2.St->Hp->Prop,(∃m,W 0 m σ0 H0)/\∀i m I H,W i m I H ->
   ((v7 t n).stop i H/\Dd.nx I H)\/((v7 t n).go i H/\∃N:L2.St->Hp->Prop,(∀F H',N F H'->∃O,O<m/\W (i+1) O F H')/\∀x H',(v7 t n).vZ i H x H'->zQ X.K X.mg g x I H' λL S=>iQ X.K X.mg EE body {Dd with nx:=N,ct:=N,bk:=Dd.nx} L S):=
 mW (J:=v7 t n) _ (λi H ρ M f=>by simpa[v7]using M) (λi H ρ M f=>by simpa[v7]using M) (λi d H ρ x H' hd f y=>by
  obtain⟨rfl,rfl⟩:=y;rw[Ö]at hd;cases q:(ø n)[i]? with
  |none=>rw[q]at hd;cases hd
  |some k=>rw[q]at hd;obtain⟨T,e⟩:=Á.mp q;rw[acF]at e;x_go;cases hd;exact⟨rfl,by unfold Rep;rfl⟩) ab R
theorem Hx{p J:Pos}(Y:PassesOwn (model X.prog X.w) X.A X.env X.xe)(O:X.calm=Ä)(hm:X.mg "range"=Å)(ha:QA X EE [a] m)(U:QG X tg g)(T:pg X EE body ms)
  (Z:Gl X "range":=by rfl) (t:ä [a] X.env=[(Â,eval a X.env)]:=by rfl) (hs:∀x,foldedSetIterable (.Call (.Name "range" p) [a] [] J) X.env x=pure x:=by intro _;rfl):
  QS X EE (.For tg (.Call (.Name "range" p) [a] [] J) body [] pos) (iu e7 g m ms):=PS.mono (ya Y O (qy Z hm ha t) U T hs) λDd σ H h=>by
 obtain⟨τ,ρ,G,ab,ok⟩:=BY (k:=λτ ds G=>match e7 ds with|some xs=>aT g ms xs τ G|none=>.stuck) h;right;cases e:m τ G with
 |stuck=>left
 |bR c G'=>left
 |ok ds G'=>
  k_in;intro vs H1 D S ir V;obtain⟨R,ρ2,G2,d2,cz,M,d⟩:=ok vs H1 D S ir V;cases q:e7 d2 with
  |none=>rw[q]at d;exact d.elim
  |some xs=>
   rw[q]at d;unfold e7 at q;split at q
   ·rename_i j;split at q
    ·rename_i F;cases q;unfold aq at M;obtain⟨v,r,rfl,L,I⟩:=M;unfold aq at I;subst I;unfold Rep at L;subst L;exact⟨j,rfl,F.1,F.2,wB 0 j.toNat cz d⟩
    ·cases q
   ·cases q
theorem Hy{p L:Pos}(hp:PassesOwn (model X.prog X.w) X.A X.env X.xe)(S:X.calm=Ä)(hm:X.mg "range"=Å)(ha:QA X EE [a,b] m)(hg:QG X tg g)(Z:pg X EE body ms)
  (rq:Gl X "range":=by rfl) (t:ä [a,b] X.env=[(Â,eval a X.env),(Â,eval b X.env)]:=by rfl) (D:ä [b] X.env=[(Â,eval b X.env)]:=by rfl) (hs:∀x,foldedSetIterable (.Call (.Name "range" p) [a,b] [] L) X.env x=pure x:=by intro _;rfl):
  QS X EE (.For tg (.Call (.Name "range" p) [a,b] [] L) body [] pos) (iu zR g m ms):=PS.mono (ya hp S (ED rq hm ha t D) hg Z hs) λDd σ H h=>by
 obtain⟨τ,ρ,G,ab,ok⟩:=BY (k:=λτ ds G=>match zR ds with|some xs=>aT g ms xs τ G|none=>.stuck) h;right;cases e:m τ G with
 |stuck=>left
 |bR c G'=>left
 |ok ds G'=>
  k_in;intro vs T F V ir r1;obtain⟨U,ρ2,G2,d2,cz,O,d⟩:=ok vs T F V ir r1;cases q:zR d2 with
  |none=>rw[q]at d;exact d.elim
  |some xs=>
   rw[q]at d;unfold zR at q;split at q
   ·rename_i i j;split at q
    ·rename_i Y;cases q;unfold aq at O;obtain⟨v,r,rfl,M,J⟩:=O;unfold aq at J;obtain⟨v',r',rfl,R,I⟩:=J;unfold aq at I;subst I;unfold Rep at M R;subst M R;exact⟨i,j,rfl,Y,wB i (j-i).toNat cz d⟩
    ·cases q
   ·cases q
end
def Zb(K:Ë)(t:Str->Option Æ)(H:Hp)(ρ:Q1):Out D->VK->XK->Prop
 |.stuck,_,_=>False
 |.ok d G',Q,_=>∀v H' ρ',cK K H H' ρ ρ'->gc K t H' ρ' G'->Rep K t ρ' H' d v->Q v H'
 |.bR c G',_,E=>∀k H' ρ',(match c with|.mk n _=>t n=À k)->cK K H H' ρ ρ'->gc K t H' ρ' G'->E k Å H'
def iX(K:Ë)(d:Str->Option Æ)(n:Nat)(m:X2->M D):Sp:=λvs H Q E=>∃ds ρ G,ds.length=n/\gc K d H ρ G/\aq K d ρ H ds vs/\Zb K d H ρ (m ds G) Q E
theorem iX.len{m:X2->M D}{Q:VK}{E:XK}(h:iX K mg n m vs H Q E):vs.length=n:=by obtain⟨ds,ρ,G,e,_,r,_⟩:=h;rw[<- r.length,e]
def Wm(k:Str->Option Æ)(EE:bV)(t:L2.St):XK:=λd _ H'=>∃c,(match c with|.mk n _=>k n=À d)/\EE c t H'
def TH(CX:vq)(X:Cx)(EE:bV):Prop:=∀(pins:N0)(k:L2.St)(H:Hp)(s:Ì)(e:Æ)(d:Ì),Inv X pins k H s->CX X.stack H s (Wm X.mg EE k) e d->X.xe e d
section
variable{CX:vq}{k:Nat}{f:Addr}{p:Pos}
theorem gc.ab{K:Ë}{d:Str->Option Æ}{t:L2.St}{H H':Hp}{τ:DS}{ρ ρ':Q1}{G G':DH}(ab:Ab K d t H τ ρ G)(f:cK K H H' ρ ρ')(h:gc K d H' ρ' G'):Ab K d t H' τ ρ' G':=⟨ab.st.mono f,h⟩
theorem Dw{pins:N0}{t:L2.St}{H:Hp}{s:Ì}{Q:VK}{D:List Æ}{vs:X1}{τ:DS}{ρ:Q1}{G:DH}{ds:X2}(F:lW X.prog X.w X.K X.mg X.base CX k f fd ps (iX X.K X.mg n mf))(S:iC k X.A)(T:Binds X.K fd ps [])
  (hx:TH CX X EE) (I:Inv X pins t H s) (r:Vals vs D) (ab:Ab X.K X.mg t H τ ρ G) (R:aq X.K X.mg ρ H ds vs) (U:ds.length=n) (ok:kI X.K X.mg EE H t τ ρ (mf ds G) Q):à (model X.prog X.w) X.A (call (.ref f) D) (EP X pins t Q) X.xe s:=by
 have h:iX X.K X.mg n mf vs H Q (Wm X.mg EE t):=by
  refine⟨ds,ρ,G,U,ab.hp,R,?_⟩;cases q:mf ds G with
  |stuck=>ac_nf;w_up
  |ok d G'=>ac_nf;exact λv H' ρ' f L r=>ok v H' ρ' f (gc.ab ab f L) r
  |bR c G'=>ac_nf;exact λZ H' ρ' M f L=>⟨c,M,ok H' ρ' f (gc.ab ab f L)⟩
 have Y:(D++[]).length=ps.length:=by rw[ó,<- r.length];exact F.len _ _ _ _ h
 have V:=T s D I.Nm Y;rw[ó]at V;refine wpAny_call (codeAny_mono (F.run X.A X.stack s H ⟨D,[]⟩ D vs Q (Wm X.mg EE t) S I.iD I.os.2 V r h) λr O J=>?_);cases r with
 |error e=>exact hx pins t H s e O I J
 |ok fl=>
  cases fl with
  |ret u=>exact I.after J
  |next=>exact Į J
  |brk=>exact Į J
  |cont=>exact Į J
def aC(n:Nat)(d:X2->M D)(m:DS->M X2):Y2:=ai (λds=>if ds.length=n then d ds else M.stop) m
theorem LB(F:lW X.prog X.w X.K X.mg X.base CX k f fd ps (iX X.K X.mg n mf))(S:iC k X.A)(hm:X.mg x=À (.ref f))(hk:ď X.K (.ref f)=Ä)(U:Binds X.K fd ps [])(Z:TH CX X EE)
  (ha:QA X EE (e::es) m) (V:Gl X x:=by rfl) (J:(x==("__debug__":Str))=Â:=by decide) (R:ä (e::es) X.env=(Â,eval e X.env)::ä es X.env:=by rfl) (t:(backTo pos (ä es X.env)).any (·.1)=Â:=by rfl):
  QE X EE (.Call (.Name x p) (e::es) [] pos) (aC n mf m):=by
 kt_k;obtain⟨τ,ρ,G,ab,T⟩:=tu (k:=λ_ ds=>if ds.length=n then mf ds else M.stop) h;refine Ā (sA I V hm ?_ J);refine acG (h₀:=X.base) I.ok.mod.RQ hk (d7 (ha pos pins s σ H _ I ⟨τ,ρ,G,ab,T⟩) λus s1 ⟨vs,H1,L,r,q⟩=>⟨L.Nm,?_⟩) R t;obtain⟨τ1,ρ1,G1,ds,Y,O,d⟩:=q;by_cases D:ds.length=n
 ·rw[Α D]at d;exact Dw F S U Z L r Y O D d
 ·rw[Β D]at d;exact d.elim
end
def cg(N:Nat)(ms:MS)(ds:X2):M D:=λG=>match ms (ds.map À++Ô (N-ds.length) Å) G with
 |.stuck=>.stuck
 |.nx _ G'=>.ok .bw G'
 |.rt d G'=>.ok d G'
 |.bk _ _=>.stuck
 |.ct _ _=>.stuck
 |.xn c _ G'=>.bR c G'
theorem nY(r:aq K mg ρ H ds vs):vC K mg H ρ (L2.start N vs) (ds.map À++Ô (N.length-ds.length) Å):=by
 have k:=r.length;refine⟨by unfold L2.start;simp[k],λi d e=>?_⟩;have hi:i<ds.length:=by
  by_cases hi:i<ds.length
  ·exact hi
  ·rw[Ò ‹hi›,Š]at e;split at e<;>cases e
 rw[Î ‹hi›,Ö]at e;cases q:ds[i]? with
 |none=>rw[q]at e;k_ne
 |some d'=>rw[q]at e;k_ne;obtain⟨v,D,t⟩:=r.get q;refine⟨v,?_,t⟩;unfold L2.start;rw[Î (by simp;lia),Ö,D];rfl
abbrev X5:bV:=λ_ _ _=>False
section
variable{a b:Expr}{ma mb mc:Y2}
def EW(X:Cx)(EE:bV)(f:X2->M D):X1->Hp->VK->Prop:=λxs H Q=>∃d τ ρ G ds,Ab X.K X.mg d H τ ρ G/\aq X.K X.mg ρ H ds xs/\kI X.K X.mg EE H d τ ρ (f ds G) Q
theorem tH{f:X2->M D}:CallD X EE (EW X EE f) f:=λk H τ ρ G xs ds Q ab r d=>⟨k,τ,ρ,G,ds,ab,r,d⟩
theorem fJ{d:D}(r:aq K mg ρ H [d] xs):∃x,xs=[x]/\Rep K mg ρ H d x:=by unfold aq at r;obtain⟨v,F,rfl,t,k⟩:=r;unfold aq at k;subst k;exact⟨v,rfl,t⟩
theorem Dy{d e:D}(r:aq K mg ρ H [d,e] xs):∃x y,xs=[x,y]/\Rep K mg ρ H d x/\Rep K mg ρ H e y:=by unfold aq at r;obtain⟨v,I,rfl,k,t⟩:=r;obtain⟨y,rfl,F⟩:=fJ t;exact⟨v,y,rfl,k,F⟩
def aL:X2->M D
 |[d]=>λG=>match ak G d with
  |some (.lst xs)=>.ok (.int xs.length) G
  |some (.tup xs)=>.ok (.int xs.length) G
  |some (.str z)=>if z.length<=Ç then .ok (.int z.length) G else .stuck
  |none=>.stuck
 |_=>M.stop
theorem EX:fF X (.builtin "len") (EW X EE aL):=by
 intro pins s σ0 H xs D Q I r zu;obtain⟨L,τ,ρ,G,ds,ab,J,ok⟩:=zu
 match ds,ok with
 |[],ok=>rfl'
 |_::_::_,ok=>rfl'
 |[d],ok=>
  obtain⟨x,rfl,t⟩:=fJ J;dsimp only[aL]at ok;cases q:ak G d with
  |none=>ac_nf;rfl'
  |some sk=>
   ac_nf;cases sk with
   |lst zs=>obtain⟨p,vs,rfl,F,k⟩:=bJ (pins:=pins) (σ0:=σ0) (s:=s) ab.hp t q;exact oU pins s σ0 H _ D Q I r ⟨p,vs,rfl,.inl F,ok _ H ρ .refl ab (by unfold Rep;rw[k.length])⟩
   |tup zs=>obtain⟨p,vs,rfl,F,k⟩:=fB t q;exact oU pins s σ0 H _ D Q I r ⟨p,vs,rfl,.inr F,ok _ H ρ .refl ab (by unfold Rep;rw[k.length])⟩
   |str z=>
    obtain⟨rfl,rfl⟩:=j9 t q;nofun;by_cases hz:z.length<=Ç
    ·rw[Α hz]at ok;exact yh pins s σ0 H _ D Q I r ⟨z,rfl,hz,ok _ H ρ .refl ab (by unfold Rep;rfl)⟩
    ·rw[Β hz]at ok;rfl'
end
section
variable{a b:Expr}{ma mb mc:Y2}
def pB:X2->Option L9
 |[]=>À []
 |.bl b::r=>(pB r).map (b::·)
 |_::_=>Å
def tK(k:Bool):X2->M D
 |[d]=>λG=>match ak G d with
  |some (.lst xs)=>match pB xs with
   |some bs=>.ok (.bl (if k then bs.any id else bs.all id)) G
   |none=>.stuck
  |_=>.stuck
 |_=>M.stop
theorem qC{K:Ë}{D:Str->Option Æ}{ρ:Q1}{H:Hp}:∀{ds:X2}{vs:X1}{us:List Æ}{bs:L9},aq K D ρ H ds vs->Vals vs us->pB ds=À bs->us=bs.map Value.bool
 |[],vs,us,bs,r,v,e=>by unfold aq at r;subst r;cases v;k_ne;rfl
 |d::ds,vs,us,bs,r,v,e=>by
  unfold aq at r;obtain⟨x,I,rfl,k,t⟩:=r;cases v with
  |cons v1 v2=>
   cases d<;>try (cases e;done)
   rename_i b;dsimp only[pB]at e;cases q:pB ds with
   |none=>rw[q]at e;k_ne
   |some F=>rw[q]at e;k_ne;unfold Rep at k;subst k;cases v1;rw[qC t v2 q];rfl
theorem kO(k:∀b x,b∉[s.heap.objs.size]->(s.heap.push o).get? b=À x->h'.get? b=À x):∀b x,s.heap.get? b=À x->h'.get? b=À x:=
 λb x e=>k b x (λd=>by rw[è.mp d]at e;exact ģ _ (Ù e)) (Ï _ e)
theorem BZ(bs:L9):((ø bs.length).all λi=>(bs[i]?).getD Ä)=bs.all id:=by
 rw[Ň,Ţ,Ţ];constructor
 ·intro h b t;obtain⟨i,k,rfl⟩:=ğ t;have:=h i (aal.mpr k);simpa[Ê k]using this
 ·intro h i k;have d:=aal.mp k;simp only[Ê d,Option.getD_some];exact h _ (Ŷ d)
theorem B0(bs:L9):((ø bs.length).any λi=>(bs[i]?).getD Â)=bs.any id:=by
 rw[Ň,Đ,Đ];constructor
 ·rintro⟨i,k,e⟩;have d:=aal.mp k;simp only[Ê d,Option.getD_some]at e;exact⟨_,Ŷ d,e⟩
 ·rintro⟨b,t,e⟩;obtain⟨i,k,rfl⟩:=ğ t;exact⟨i,aal.mpr k,by simp only[Ê k,Option.getD_some];exact e⟩
theorem EY(J:X.calm=Ä):fF X (.builtin "all") (EW X EE (tK Â)):=by
 intro pins s σ0 H xs us Q I r zu;obtain⟨σ,τ,ρ,G,ds,ab,O,ok⟩:=zu
 match ds,ok with
 |[],ok=>rfl'
 |_::_::_,ok=>rfl'
 |[d],ok=>
  obtain⟨x,rfl,V⟩:=fJ O;obtain⟨u,rfl,U⟩:=vals1 r;dsimp only[tK]at ok;cases q:ak G d with
  |none=>ac_nf;rfl'
  |some sk=>
   ac_nf;cases sk with
   |tup zs=>rfl'
   |str z=>rfl'
   |lst zs=>
    nofun;cases qb:pB zs with
    |none=>rw[qb]at ok;rfl'
    |some bs=>
     rw[qb]at ok;obtain⟨p,vs,rfl,R,M⟩:=bJ (pins:=pins) (σ0:=σ0) (s:=s) ab.hp V q;cases U;obtain⟨S,T,pl,hz⟩:=I.list R;have e:=qC M T qb;x_go;have t:=pl.isList;have D:p<s.heap.objs.size:=by obtain⟨_,e,_⟩:=t;exact Ù e
     refine jA I.os.2 (call_all_walk (aar t ?_))
     refine⟨s.heap.objs.size,[s.heap.objs.size,p],[s.heap.objs.size],(bs.map Value.bool).toArray.size,_,_,λi=>(bs[i]?).getD Ä,rfl,adj (A:=X.A.in1) (I.ok.hd J) _ p (ã D) _,
      ⟨⟨_,Ø _ rfl,rfl,rfl⟩,t.push _⟩,λi v s' Q' E' L F=>?_,λh' Z Y ht=>?_⟩
     ·have Hz:(bs.map Value.bool)[i]?=À v:=‹L›
      rw[Ö]at Hz;cases qi:bs[i]? with
      |none=>rw[qi]at Hz;cases Hz
      |some k=>rw[qi]at Hz;cases Hz;simp only[qi,Option.getD_some]at F;exact Ģ F
     ·rw[show(bs.map Value.bool).toArray.size=bs.length by simp,BZ];exact⟨.bl _,H,I.kept (t':=Z) (kO Y),rfl,ok _ H ρ .refl ab (by unfold Rep;rfl)⟩
theorem EZ(J:X.calm=Ä):fF X (.builtin "any") (EW X EE (tK Ä)):=by
 intro pins s σ0 H xs us Q I r zu;obtain⟨σ,τ,ρ,G,ds,ab,O,ok⟩:=zu
 match ds,ok with
 |[],ok=>rfl'
 |_::_::_,ok=>rfl'
 |[d],ok=>
  obtain⟨x,rfl,V⟩:=fJ O;obtain⟨u,rfl,U⟩:=vals1 r;dsimp only[tK]at ok;cases q:ak G d with
  |none=>ac_nf;rfl'
  |some sk=>
   ac_nf;cases sk with
   |tup zs=>rfl'
   |str z=>rfl'
   |lst zs=>
    nofun;cases qb:pB zs with
    |none=>rw[qb]at ok;rfl'
    |some bs=>
     rw[qb]at ok;obtain⟨p,vs,rfl,R,M⟩:=bJ (pins:=pins) (σ0:=σ0) (s:=s) ab.hp V q;cases U;obtain⟨S,T,pl,hz⟩:=I.list R;have e:=qC M T qb;x_go;have t:=pl.isList;have D:p<s.heap.objs.size:=by obtain⟨_,e,_⟩:=t;exact Ù e
     refine jA I.os.2 (call_any_walk (aar t ?_))
     refine⟨s.heap.objs.size,[s.heap.objs.size,p],[s.heap.objs.size],(bs.map Value.bool).toArray.size,_,_,λi=>(bs[i]?).getD Â,rfl,adj (A:=X.A.in1) (I.ok.hd J) _ p (ã D) _,
      ⟨⟨_,Ø _ rfl,rfl,rfl⟩,t.push _⟩,λi v s' Q' E' L F=>?_,λh' Z Y ht=>?_⟩
     ·have Hz:(bs.map Value.bool)[i]?=À v:=‹L›
      rw[Ö]at Hz;cases qi:bs[i]? with
      |none=>rw[qi]at Hz;cases Hz
      |some k=>rw[qi]at Hz;cases Hz;simp only[qi,Option.getD_some]at F;exact Ģ F
     ·rw[show(bs.map Value.bool).toArray.size=bs.length by simp,B0];exact⟨.bl _,H,I.kept (t':=Z) (kO Y),rfl,ok _ H ρ .refl ab (by unfold Rep;rfl)⟩
def eW(g:Int->Int->Int):X2->M D
 |[.int i,.int j]=>M.ret (.int (g i j))
 |_=>M.stop
theorem zS{g:Int->Int->Int}{Q:VK}(ok:kI X.K X.mg EE H σ τ ρ (eW g ds G) Q):∃i j,ds=[.int i,.int j]/\kI X.K X.mg EE H σ τ ρ (.ok (.int (g i j)) G) Q:=by
 unfold eW at ok;split at ok
 ·exact⟨_,_,rfl,ok⟩
 ·rfl'
theorem E3(D:X.calm=Ä):fF X (.builtin "max") (EW X EE (eW λi j=>if j > i then j else i)):=by intro pins s σ0 H xs J Q I r zu;obtain⟨L,τ,ρ,G,ds,ab,F,d⟩:=zu;obtain⟨i,j,rfl,d⟩:=zS d;obtain⟨x,y,rfl,t,k⟩:=Dy F;unfold Rep at t k;subst t k;exact EH D pins s σ0 H _ J Q I r ⟨i,j,rfl,d _ H ρ .refl ab (by unfold Rep;rfl)⟩
theorem E4(D:X.calm=Ä):fF X (.builtin "min") (EW X EE (eW λi j=>if j<i then j else i)):=by intro pins s σ0 H xs J Q I r zu;obtain⟨L,τ,ρ,G,ds,ab,F,d⟩:=zu;obtain⟨i,j,rfl,d⟩:=zS d;obtain⟨x,y,rfl,t,k⟩:=Dy F;unfold Rep at t k;subst t k;exact EI D pins s σ0 H _ J Q I r ⟨i,j,rfl,d _ H ρ .refl ab (by unfold Rep;rfl)⟩
def P4(X:Cx)(EE:bV)(f:D->X2->M D):V->X1->Hp->VK->Prop:=λx xs H Q=>∃k τ ρ G d ds,Ab X.K X.mg k H τ ρ G/\Rep X.K X.mg ρ H d x/\aq X.K X.mg ρ H ds xs/\kI X.K X.mg EE H k τ ρ (f d ds G) Q
def c7(T:String)(G:DH):D->Bool
 |.str _=>T=="str"
 |.int _=>T=="int"
 |.con _=>T=="list"
 |.obj n=>match G[n]? with
  |some (.lst _)=>T=="list"
  |_=>Â
 |_=>Â
theorem wC{T:String}{d:D}{x:V}(ab:Ab X.K X.mg σ H τ ρ G)(r:Rep X.K X.mg ρ H d x)(h:c7 T G d=Ä):Vg X.K T x H:=by
 cases d with
 |str z=>unfold Rep at r;subst r;exact eq_of_beq h
 |int z=>unfold Rep at r;subst r;exact eq_of_beq h
 |con F=>unfold Rep at r;obtain⟨p,vs,rfl,t,_⟩:=r;exact .inl ⟨eq_of_beq h,vs,t.seq⟩
 |obj n=>
  unfold Rep at r;obtain⟨p,rfl,k⟩:=r;dsimp only[c7]at h;cases g:G[n]? with
  |none=>rw[g]at h;cases h
  |some o=>
   cases o with
   |lst ys=>rw[g]at h;obtain⟨I,vs,e2,hp,_⟩:=ab.hp.lst g;rw[k]at e2;cases e2;exact .inl ⟨eq_of_beq h,vs,.of hp⟩
   |_=>first|(rw[q]at ok;exact ok.elim)|(rw[q]at aS;exact aS.elim)|(rw[q]at e;cases e;done)|(rw[g]at ok;exact ok.elim)|(rw[g]at q;cases q;done)|(rw[g]at h;cases h;done)|(rw[g2]at ok;exact ok.elim)|(rw[g1,g2]at ok;exact ok.elim)|(rw[q1]at ok;exact ok.elim)|exact ok.elim
 |_=>cases h
def bz(T:String)(f:D->X2->M D)(k:Y2)(m:DS->M X2):Y2:=λτ=>(k τ).bind λd G=>if c7 T G d then (m τ).bind (λds=>f d ds) G else .stuck
theorem Dz{o:Expr}{I t:Pos}{T U:String}{f:D->X2->M D}(pa:PlainAttrs T)(R:Slot T name U)(S:typeOf (.builtin U)=pure (.type "method_descriptor"))(hm:Kw X U (P4 X EE f))(ho:QE X EE o mo)(ha:QA X EE (e::es) m)
  (L:attributeBase o name X.env (eval o X.env)=eval o X.env:=by rfl)
  (O:((backTo t (ä (e::es) X.env)).all (λx=>!x.1)&&(backToKw t (keywordEach [] X.env)).all (λx=>x.1.isSome)
   && decide ((e::es).length+([]:List Keyword).length+(if ([]:List Keyword).isEmpty then 0 else 1)<30))=Ä:=by rfl)
  (J:(I.endLine==t.line)=Ä:=by rfl) (hs:ä (e::es) X.env=(Â,eval e X.env)::ä es X.env:=by rfl) (F:(backTo t (ä es X.env)).any (·.1)=Â:=by rfl):
  QE X EE (.Call (.Attribute o name I) (e::es) [] t) (bz T f mo m):=PE.mono (S4 pa R S hm ho ha L O J hs F) λσ H Q h=>by
 obtain⟨τ,ρ,G,ab,ok⟩:=kJ (k:=λτ d G=>if c7 T G d then (m τ).bind (λds=>f d ds) G else .stuck) h;right;cases e:mo τ G with
 |stuck=>left
 |bR c G'=>left
 |ok d G'=>
  k_is;by_cases V:c7 T G2 d2=Ä
  ·rw[Α V]at aS;refine⟨wC cz r2 V,τ2,ρ2,G2,cz,?_⟩;dsimp only[M.bind]at aS;cases e2:m τ2 G2 with
   |stuck=>rw[e2]at aS;exact aS
   |bR c G'=>rw[e2]at aS;exact aS
   |ok ds G3=>rw[e2]at aS;exact λvs H3 Y Z oM r3=>⟨σ,τ2,Y,G3,d2,ds,oM,r2.mono Z,r3,aS.fut Z⟩
  ·rw[Β V]at aS;exact aS.elim
theorem P5{o:Expr}{F t:Pos}{T R:String}{f:D->X2->M D}(U:PlainAttrs T)(L:Slot T name R)(O:typeOf (.builtin R)=pure (.type "method_descriptor"))(Z:Kw X R (P4 X EE f))(V:QE X EE o mo)
  (J:attributeBase o name X.env (eval o X.env)=eval o X.env:=by rfl) (I:(F.endLine==t.line)=Ä:=by rfl):
  QE X EE (.Call (.Attribute o name F) [] [] t) (bz T f mo ah):=PE.mono (O0 U L O Z V J I) λY H Q h=>by
 obtain⟨τ,ρ,G,ab,ok⟩:=kJ (k:=λτ d G=>if c7 T G d then (ah τ).bind (λds=>f d ds) G else .stuck) h;right;cases e:mo τ G with
 |stuck=>left
 |bR c G'=>left
 |ok d G'=>
  k_is;by_cases S:c7 T G2 d2=Ä
  ·rw[Α S]at aS;exact⟨wC cz r2 S,Y,τ2,ρ2,G2,d2,[],cz,r2,.nil,aS⟩
  ·rw[Β S]at aS;exact aS.elim
def aP:D->X2->M D
 |.obj n,[v]=>λG=>match G[n]? with
  |some (.lst xs)=>if xs.length<Ç then .ok .bw (G.set n (.lst (xs++[v]))) else .stuck
  |_=>.stuck
 |_,_=>M.stop
theorem yo{xs ys:X2}{d:D}{w:V}{p:Addr}{k:X1}{Q:VK}(ab:Ab X.K X.mg σ H τ ρ G)(J:ρ[n]?=À p)(t:H p=À (.lst vs))(r:aq X.K X.mg ρ H ys k)
  (F:∀H',cK X.K H H' ρ ρ->Rep X.K X.mg ρ H' d w) (I:kI X.K X.mg EE H σ τ ρ (.ok d (G.set n (.lst ys))) Q):Q w (upd H p (.lst k)):=by
 have f:cK X.K H (upd H p (.lst k)) ρ ρ:=sE t ρ;exact I w _ ρ f (ab.fut f (ab.hp.put (ds:=ys) J t r)) (F _ f)
theorem B3:Kw X "list.append" (P4 X EE aP):=by
 intro pins s σ0 H x xs v R Q I S L zu;obtain⟨V,τ,ρ,G,d,ds,ab,F,M,ok⟩:=zu;cases d<;>try exact ok.elim
 rename_i n
 match ds,ok with
 |[],ok=>rfl'
 |_::_::_,ok=>rfl'
 |[y],ok=>
  obtain⟨O,rfl,T⟩:=fJ M;unfold Rep at F;obtain⟨p,rfl,D⟩:=F;dsimp only[aP]at ok;cases g:G[n]? with
  |none=>kd_p;rfl'
  |some o=>
   cases o with
   |lst zs=>
    kd_p;nofun;obtain⟨U,vs,J,t,k⟩:=ab.hp.lst g;rw[D]at J;cases J;by_cases hz:zs.length<Ç
    ·rw[Α hz]at ok;exact wk pins s σ0 H _ _ v R Q I S L ⟨p,vs,O,rfl,rfl,t,by rw[<- k.length];exact hz,yo (xs:=zs) ab D t (k.append (.cons T .nil)) (λ_ _=>by unfold Rep;rfl) ok⟩
    ·rw[Β hz]at ok;rfl'
   |_=>first|(rw[q]at ok;exact ok.elim)|(rw[q]at aS;exact aS.elim)|(rw[q]at e;cases e;done)|(rw[g]at ok;exact ok.elim)|(rw[g]at q;cases q;done)|(rw[g]at h;cases h;done)|(rw[g2]at ok;exact ok.elim)|(rw[g1,g2]at ok;exact ok.elim)|(rw[q1]at ok;exact ok.elim)|exact ok.elim
theorem E5{o:Expr}{t d:Pos}(O:QE X EE o mo)(M:QA X EE [e] m)
  (I:attributeBase o "append" X.env (eval o X.env)=eval o X.env:=by rfl)
  (J:((backTo d (ä [e] X.env)).all (λx=>!x.1)&&(backToKw d (keywordEach [] X.env)).all (λx=>x.1.isSome)
   && decide ([e].length+([]:List Keyword).length+(if ([]:List Keyword).isEmpty then 0 else 1)<30))=Ä:=by rfl)
  (D:(t.endLine==d.line)=Ä:=by rfl) (L:ä [e] X.env=(Â,eval e X.env)::ä [] X.env:=by rfl) (k:(backTo d (ä [] X.env)).any (·.1)=Â:=by rfl):
  QE X EE (.Call (.Attribute o "append" t) [e] [] d) (bz "list" aP mo m):=Dz aag PySem.F.slot_list_append PySem.F.type_list_append B3 O M I J D L k
def zU:D->X2->M D
 |.obj n,[]=>λG=>match G[n]? with
  |some (.lst xs)=>match xs[xs.length-1]? with
   |some y=>.ok y (G.set n (.lst xs.dropLast))
   |none=>.stuck
  |_=>.stuck
 |_,_=>M.stop
theorem aq.dropLast(r:aq K mg ρ H ds vs):aq K mg ρ H ds.dropLast vs.dropLast:=by rw[ab5,ab5,<- r.length];exact r.take _
theorem LD:Kw X "list.pop" (P4 X EE zU):=by
 intro pins s σ0 H x xs v R Q I S M zu;obtain⟨V,τ,ρ,G,d,ds,ab,J,t,ok⟩:=zu;cases d<;>try exact ok.elim
 rename_i n
 match ds,ok with
 |_::_,ok=>rfl'
 |[],ok=>
  unfold aq at t;subst t;unfold Rep at J;obtain⟨p,rfl,F⟩:=J;dsimp only[zU]at ok;cases g:G[n]? with
  |none=>kd_p;rfl'
  |some o=>
   cases o with
   |lst zs=>
    kd_p;nofun;obtain⟨U,vs,e2,D,k⟩:=ab.hp.lst g;rw[F]at e2;cases e2;cases qz:zs[zs.length-1]? with
    |none=>rw[qz]at ok;rfl'
    |some y=>rw[qz]at ok;obtain⟨O,L,T⟩:=k.get qz;exact O1 pins s σ0 H _ _ v R Q I S M ⟨p,vs,O,rfl,rfl,D,by rw[<- k.length];exact L,yo (xs:=zs) ab F D k.dropLast (λ_ f=>T.mono f) ok⟩
   |_=>first|(rw[q]at ok;exact ok.elim)|(rw[q]at aS;exact aS.elim)|(rw[q]at e;cases e;done)|(rw[g]at ok;exact ok.elim)|(rw[g]at q;cases q;done)|(rw[g]at h;cases h;done)|(rw[g2]at ok;exact ok.elim)|(rw[g1,g2]at ok;exact ok.elim)|(rw[q1]at ok;exact ok.elim)|exact ok.elim
theorem P6{o:Expr}{d k:Pos}(I:QE X EE o mo)(D:attributeBase o "pop" X.env (eval o X.env)=eval o X.env:=by rfl)(t:(d.endLine==k.line)=Ä:=by rfl):
  QE X EE (.Call (.Attribute o "pop" d) [] [] k) (bz "list" zU mo ah):=P5 aag PySem.F.slot_list_pop PySem.F.type_list_pop LD I D t
def jL(v o i:D):M D:=λG=>match o,i with
 |.obj n,.int k=>match G[n]? with
  |some (.lst xs)=>match zq xs.length k with
   |some j=>.ok .bw (G.set n (.lst (xs.set j v)))
   |none=>.stuck
  |_=>.stuck
 |_,_=>.stuck
def gU(d t k:Y2):MS:=λτ=>bC ((d τ).bind λv=>(t τ).bind λo=>(k τ).bind λi=>jL v o i) (λ_ G=>.nx τ G) λc G=>.xn c τ G
theorem HA{o i:Expr}{t:Pos}(hv:QE X EE a mv)(ho:QE X EE o mo)(hi:QE X EE i mi)
  (hs:swapsWithSole [.Subscript o i t] a pos.line X.env=pure Â:=by rfl) (hw:swappedStores [.Subscript o i t] a X.env=pure Å:=by rfl) (h1:(assignEach [.Subscript o i t] X.env).map (·.2)=[assign (.Subscript o i t) X.env]:=by rfl)
  (P7:∀v,assign (.Subscript o i t) X.env v=(do
   let D <- holding [v] (eval o X.env)
   let F <- holding [v,D] (eval i X.env)
   standAt t
   holding [v,D,F] (setItem D F v)
   release [v,D,F] []):=by intro _;rfl):QS X EE (.Assign [.Subscript o i t] a pos) (gU mv mo mi):=
 PS.mono (GF hv (OA ho hi set_list P7) hs hw h1) λDd L H zz=>by
  obtain⟨τ,ρ,G,ab,ok⟩:=zz;right;dsimp only[gU,bC,M.bind]at ok;cases e1:mv τ G with
  |stuck=>rw[e1]at ok;w_up
  |bR c G'=>rw[e1]at ok;exact λH' ρ' f I=>ok L H' ρ' f I
  |ok v G1=>
   rw[e1]at ok;intro vv H1 Y S ir r1;refine⟨τ,Y,G1,ir,?_⟩;nofun;cases e2:mo τ G1 with
   |stuck=>rw[e2]at ok;w_up
   |bR c G'=>rw[e2]at ok;exact λH' ρ' f I=>ok L H' ρ' (S.trans f) I
   |ok D G2=>
    rw[e2]at ok;intro vo H2 V R cz r2;refine⟨τ,V,G2,cz,?_⟩;nofun;cases e3:mi τ G2 with
    |stuck=>rw[e3]at ok;w_up
    |bR c G'=>rw[e3]at ok;exact λH' ρ' f I=>ok L H' ρ' ((S.trans R).trans f) I
    |ok F G3=>
     rw[e3]at ok;intro vi Z d T O r3;dsimp only[jL]at ok;cases D<;>try exact ok.elim
     cases F<;>try exact ok.elim
     rename_i n k;have J:=r2.mono T;unfold Rep at J r3;obtain⟨p,rfl,e4⟩:=J;nofun;cases g:G3[n]? with
     |none=>kd_p;rfl'
     |some ob=>
      cases ob with
      |lst zs=>
       kd_p;nofun;obtain⟨p',vs,e5,U,rs⟩:=O.hp.lst g;rw[e4]at e5;cases e5;cases qj:zq zs.length k with
       |none=>rw[qj]at ok;rfl'
       |some j=>rw[qj]at ok;have rr:=rs.set (r1.mono (R.trans T)) j;have f4:cK X.K Z (upd Z p (.lst (vs.set j vv))) d d:=sE U d;exact⟨p,vs,k,j,rfl,r3,U,by rw[<- rs.length];exact qj,ok L _ d (((S.trans R).trans T).trans f4) (O.fut f4 (O.hp.put (ds:=zs) e4 U rr))⟩
      |_=>first|(rw[q]at ok;exact ok.elim)|(rw[q]at aS;exact aS.elim)|(rw[q]at e;cases e;done)|(rw[g]at ok;exact ok.elim)|(rw[g]at q;cases q;done)|(rw[g]at h;cases h;done)|(rw[g2]at ok;exact ok.elim)|(rw[g1,g2]at ok;exact ok.elim)|(rw[q1]at ok;exact ok.elim)|exact ok.elim
end
def je(e:Addr)(pl:Option Addr)(h:Heap):Prop:=∃o,h.get? e=À o/\o.dict=pl
structure B4(B:Heap)(l:List Env)(e:Addr)(cls:Æ)(h:Heap):Prop where
 stay:B.StaysIn h
 new:B.get? e=Å
 frm:h.FunFrames B l
 tr:(∃oe vs a0,h.get? e=À oe/\oe.cls=cls/\oe.data=.fields vs/\vs[0]?=À a0/\vs[1]?=À .none)\/∃a0 fl,h.TracedAtW B e cls a0 fl
 dct:je e Å h
section
variable{M:Model}{l:List Env}{L e:Addr}{cls:Æ}{Q:Unit->Ì->Prop}
theorem B5(h:env'.frame=env.frame)(v:Æ):noteFrame v env'=noteFrame v env:=by unfold noteFrame frameOf;rw[h]
theorem HB(f:Array Æ->Array Æ)(o:Obj):(ĉ f o).dict=o.dict:=by unfold ĉ;split<;>rfl
theorem zV{head:Æ}{b:Bool}(hfr:A.frames=À (env::outer))(fr:s.heap.FunFrames B (env::outer))(hf:env.frame=À L)(D:s.heap.get? e=À oe)(st:B.StaysIn s.heap)(nw:B.get? e=Å)
  (hd:oe.data=.fields ws) (S:1<ws.size) (h0:ws[0]?=À a0) (Z:∀h',Heap.NotedW B (env::outer) e oe.cls a0 (rawInt L) s.heap h'->je e oe.dict h'->Q () {s with heap:=h'}):
  à M A (do let a <- frameOf env;let z <- entryPlaceOf L b;let t <- acs head a .none (rawInt L) .none z;setField (.ref e) 1 t) Q E s:=by
 have ne:e∉(env::outer).filterMap (·.frame):=λz=>by obtain⟨_,o,q,n⟩:=fr.mem z;rw[D]at q;cases q;exact n ws hd
 refine Ã (wpAny_frameOf_fun hfr fr hf λk1 c1=>Ã (wpAny_entryPlaceOf λz hz=>?_));have U:k1.get? e=À oe:=(c1.2.1 e ne).trans D;have st1:B.StaysIn k1:=λx o q=>(c1.2.1 x λm=>by rw[(fr.mem m).1]at q;cases q).trans (st x o q);have k:k1.objs.size≠e:=abb (Ù U);unfold acs newFields;refine Ã (þ ?_ (hz.sizeOk5 _ _ _ _ _));generalize hT:({cls:=.type "traceback",dict:=Å,data:=.fields ([head,.ref L,.none,rawInt L,.none]++(if z.isEmpty then Ô 6 Value.none else z)).toArray}:Obj)=T;have F:T.data=.fields ([head,.ref L,.none,rawInt L,.none]++(if z.isEmpty then Ô 6 Value.none else z)).toArray:=by rw[<- hT]
 have Y:(k1.push T).get? e=À oe:=Ï T U;refine ő Y hd S ?_;have I:=ě hd (·.setIfInBounds 1 (Value.ref k1.objs.size));generalize d:(k1.push T).update e (ĉ (·.setIfInBounds 1 (Value.ref k1.objs.size)))=k2;have R:k2.get? e=À (ĉ (·.setIfInBounds 1 (Value.ref k1.objs.size)) oe):=by rw[<- d];exact Č _ Y (Ĺ I)
 have T3:k2.get? k1.objs.size=À T:=by rw[<- d];exact(ý _ _ (õ k)).trans (Ø k1 (Ĺ F))
 have O:∀x o,x≠e->k1.get? x=À o->k2.get? x=À o:=λx o n q=>by rw[<- d,ý _ _ (õ n)];exact Ï T q
 have nr:∀x o,s.heap.get? x=À o->(∀vs,o.data≠.fields vs)->x≠e:=λx o q n m=>by rw[m,D]at q;cases q;exact n ws hd
 have V:s.heap.UpToSlots k2:=λx o q n=>by obtain⟨J,y⟩:=c1.2.2 x o q;exact⟨J,O x _ (nr x o q n) y⟩
 refine Z k2 ⟨λx o q=>O x o (λm=>by rw[m,nw]at q;cases q) (st1 x o q),fr.of_keeps λx o q n=>?_,?_,V⟩ ⟨_,R,HB _ _⟩
 ·obtain⟨J,y⟩:=V x o q n;exact⟨_,y,rfl⟩
 ·refine⟨_,_,k1.objs.size,T,_,R,⟨abx _ _,by rw[Array.getElem?_setIfInBounds_ne (by decide)];exact h0⟩,I,by simp[S],st1.fresh,k,T3,F,?_⟩
  first|(simp;done)|(rcases hz with rfl|⟨_,_,_,_,_,_,_,rfl⟩<;>simp)
theorem yp(hfr:A.frames=À (env::outer))(J:env.frame=À L)(f:B4 B (env::outer) e cls s.heap)
  (S:∀h' F,Heap.HeldW B (env::outer) e cls F L h'->s.heap.UpToSlots h'->je e Å h'->Q () {s with heap:=h'}):à M A (noteFrame (.ref e) env) Q E s:=by
 obtain⟨st,nw,fr,tr,od,d,D⟩:=f;rcases tr with⟨Z,vs,F,k,hc,hd,h0,h1⟩|⟨F,fl,Z,vs,T,oT,ts,k,t,hd,h1,Y,V,I,zW,R⟩
 ·subst hc;unfold noteFrame;simp only[J];refine Ã (ù k hd h1 ?_);rw[Β (by decide)];refine zV hfr fr J k st nw hd (ı.mp h1).1 h0 λh' hN hD=>?_;exact S h' F ⟨hN.1,nw,hN.2.1,hN.2.2.1⟩ hN.2.2.2 (by rw[k]at d;cases d;rw[D]at hD;exact hD)
 ·by_cases U:(fl==rawInt L)=Ä
  ·unfold noteFrame;simp only[J];refine Ã (ù k hd h1 ?_);rw[Α (show(Value.ref T != Value.none)=Ä by simp)];refine Ã (ù I zW R ?_);rw[Α U];refine Ó ?_;have:=S s.heap F ⟨st,nw,fr,Z,vs,T,oT,ts,k,t,hd,h1,Y,V,I,zW,by rw[R,beq_iff_eq.mp U]⟩ (.refl _) ⟨od,d,D⟩;exact this
  ·obtain⟨rfl,h0⟩:=t;unfold noteFrame;simp only[J];refine Ã (ù k hd h1 ?_);rw[Α (show(Value.ref T != Value.none)=Ä by simp)];refine Ã (ù I zW R ?_);rw[Β U];refine Ã (ő I zW (ı.mp R).1 ?_);have O:∀b,b≠T->(s.heap.update T (ĉ (·.setIfInBounds 3 Value.none))).get? b=s.heap.get? b:=λb hb=>ý _ _ (õ hb);have TM:∀b o,s.heap.get? b=À o->(∀vs,o.data≠.fields vs)->b≠T:=λb o hb hnf z=>by rw[z,I]at hb;cases hb;exact hnf ts zW
   refine zV hfr (fr.of_keeps λb o hb hnf=>⟨o,(O b (TM b o hb hnf)).trans hb,rfl⟩) J ((O e (õ V)).trans k)
    (λb o Wn=>(O b λz=>by rw[z,Y]at Wn;cases Wn).trans (st b o Wn)) nw hd (ı.mp h1).1 h0 λh' hN hD=>?_
   exact S h' F ⟨hN.1,nw,hN.2.1,hN.2.2.1⟩ (λb o hb hnf=>hN.2.2.2 b o ((O b (TM b o hb hnf)).trans hb) hnf) (by rw[k]at d;cases d;rw[D]at hD;exact hD)
theorem E6(st:B.StaysIn s.heap)(fr:s.heap.FunFrames B l)(t:s.heap.TracedAtW B e cls a0 fl)(hD:je e Å s.heap)
  (hQ:∀h',B.StaysIn h'->h'.FunFrames B l->h'.TracedW B e cls a0->(∀b o,s.heap.get? b=À o->(∀vs,o.data≠.fields vs)->h'.get? b=À o)->je e Å h'->Q () {s with heap:=h'}):à M A (setFlight (.ref e) Å) Q E s:=by
 obtain⟨oe,vs,T,oT,U,V,hc,hd,Z,S,O,J,D,h3⟩:=t;obtain⟨od,I,F⟩:=hD;have Y:3<U.size:=(ı.mp h3).1;generalize R:s.heap.update T (ĉ (·.setIfInBounds 3 Value.none))=k;have d:∀b,b≠T->k.get? b=s.heap.get? b:=λb n=>by rw[<- R];exact ý _ _ (õ n)
 have nr:∀b o,s.heap.get? b=À o->(∀vs,o.data≠.fields vs)->b≠T:=λb o q n z=>by rw[z,J]at q;cases q;exact n U D
 have kT:k.get? T=À (ĉ (·.setIfInBounds 3 Value.none) oT):=by rw[<- R];exact Č _ J (Ĺ (ě D _))
 unfold setFlight;refine Ã (ù V hd Z ?_);rw[Α (show(Value.ref T != Value.none)=Ä by simp)];refine ő J D Y ?_;show Q () {s with heap:=s.heap.update T (ĉ (·.setIfInBounds 3 Value.none))};rw[R]
 exact hQ k (λb o q=>(d b λz=>by rw[z,S]at q;cases q).trans (st b o q)) (fr.of_keeps λb o q n=>⟨o,(d b (nr b o q n)).trans q,rfl⟩)
  ⟨oe,vs,T,_,_,(d e (õ O)).trans V,hc,hd,Z,S,O,kT,ě D _,by simp[Y]⟩ (λb o q n=>(d b (nr b o q n)).trans q) ⟨od,(d e (õ O)).trans I,F⟩
theorem zX(d:Heap.HeldW B l e cls a0 L s.heap)(I:je e Å s.heap)
  (F:∀h',abW B l e cls a0 h'->s.heap.UpToSlots h'->je e Å h'->Q () {s with heap:=h'}):à M A (setFlight (.ref e) Å) Q E s:=by
 obtain⟨D,t,S,J⟩:=d;exact E6 D S J I λh' k1 k2 k3 k T=>F h' ⟨k1,t,k2,k3⟩ (λb o R O=>⟨o.slots,k b o R O⟩) T
theorem zY(d:A.frames=À (env::outer))(T:env.frame=À L)(f:B4 B (env::outer) e cls s.heap)
  (O:∀h' k,abW B outer e cls k h'->s.heap.UpToSlots h'->je e Å h'->Q () {s with heap:=h'}):à M A (leaving env (.ref e)) Q E s:=by
 unfold leaving;refine Ã (yp d T f λV k t I R=>?_);refine zX t R λF J S U=>?_;obtain⟨k1,k2,⟨_,_,k3⟩,D⟩:=J;exact O F k ⟨k1,k2,k3,D⟩ (I.trans S) U
theorem B4.E7(f:abW B l e cls a0 h)(d:je e Å h):B4 B l e cls h:=⟨f.1,f.2.1,f.2.2.1,.inr ⟨a0,.none,f.2.2.2⟩,d⟩
end
structure Wo(X:Cx)(B:Heap):Prop where
 keep:∀b o,X.s₀.heap.get? b=À o->X.H₀ b=Å->b∉frs X.stack->b∉X.ex->B.get? b=À o
 there:∀b o,X.s₀.heap.get? b=À o->b∉frs X.stack->b∉X.ex->∃o',B.get? b=À o'
 pins:∀p∈X.pn,B.get? p.1=À p.2
def P8(X:Cx)(H:Hp)(e:Addr)(d:Æ)(s:Ì):Prop:=∃B,B4 B X.stack e d s.heap/\lR X.prog X.w H B/\Wo X B
def zZ(k:Str->Option Æ)(c:XD)(d:Æ):Prop:=match c with|.mk n _=>k n=À d
def fY(X:Cx)(EE:bV):Prop:=∀(pins:N0)(k:L2.St)(H:Hp)(s:Ì)(e:Addr)(d:Æ)(c:XD),Inv X pins k H s->P8 X H e d s->zZ X.mg c d->EE c k H->X.xe (.ref e) s
section
theorem IsCell.slots{c:Addr}{v:Option Æ}(u:h.UpToSlots h')(k:h.IsCell c v):h'.IsCell c v:=by
 obtain⟨o,e,d⟩:=k;obtain⟨D,t⟩:=u c o e λvs q=>by rw[d]at q;cases q
 exact⟨_,t,d⟩
theorem Inv.DA{t:Nat}(I:Inv X pins σ H s)(C:Wo X B)(L:lR X.prog X.w H B)(st:B.StaysIn h')(u:s.heap.UpToSlots h')(ht:0<t:=by accm_mu):Inv X [] σ H {s with heap:=h',toks:=t}:=by
 have U:∀b o,X.s₀.heap.get? b=À o->b≠X.env.locals:=λb o e=>ã (Õ (Ù e) I.ok.above);have T:∀b o,X.s₀.heap.get? b=À o->b∉X.fs->b∉frs X.stack:=λb o e D z=>by
  rcases Þ.mp (I.kF b z)with z|z
  ·exact U b o e z
  ·exact D z
 have slots:∀b o,X.s₀.heap.get? b=À o->X.H₀ b=Å->b∈X.fs->b∉X.ex->∃sl,h'.get? b=À {o with slots:=sl}:=λb o e n D J=>by obtain⟨sl,F⟩:=I.base.slot b o e n D J;obtain⟨_,R,S,hd⟩:=I.ok.qw.mem D;rw[e]at S;cases S;obtain⟨KN,M⟩:=u b _ F hd;exact⟨KN,M⟩
 refine⟨I.ok,⟨I.os.1,ht⟩,I.bare,⟨λb o e n D J=>st _ _ (C.keep b o e n (T b o e D) J),slots,I.base.free,λb o e J=>?_,I.base.tups,I.base.lS,I.base.nQ⟩,?_,λx c e=>?_,I.free,I.jz,λp hp=>?_,L.kept st,I.len⟩
 ·by_cases D:b∈X.fs
  ·obtain⟨sl,F⟩:=slots b o e (I.ok.Nl b D) D J;exact⟨_,F⟩
  ·obtain⟨R,F⟩:=C.there b o e (T b o e D) J;exact⟨R,st _ _ F⟩
 ·obtain⟨m,V,Y⟩:=I.loc;refine⟨m,u.ns V,λi x v F M e3=>?_⟩;obtain⟨w,r,l⟩:=Y i x v F M e3;refine⟨w,r,?_⟩;rcases l with l|⟨k,c,e,z⟩
  ·exact .inl l
  ·exact .inr ⟨k,c,e,IsCell.slots u z⟩
 ·obtain⟨v,z⟩:=I.cell x c e;exact⟨v,IsCell.slots u z⟩
 ·have O:p∈X.pn:=‹hp›
  obtain⟨e,n,Z,nf,d⟩:=I.pin p (Ě _ O);exact⟨st _ _ (C.pins p O),n,Z,nf,d⟩
end
structure TU(P:ô)(w:đ)(outer:List Env)(H:Hp)(s:Ì)(H':Hp)(B:Heap)(s':Ì):Prop where
 os:s'.os=s.os/\0<s'.toks
 bare:PyProof.Rows.AllBare s'.gens
 keep:∀b o,s.heap.get? b=À o->H b=Å->b∉frs outer->B.get? b=À o
 there:∀b o,s.heap.get? b=À o->b∉frs outer->∃o',B.get? b=À o'
 slot:∀b o,s.heap.get? b=À o->H b=Å->b∈frs outer->∃sl,s'.heap.get? b=À {o with slots:=sl}
 free:∀b o,s.heap.get? b=À o->H b=Å->H' b=Å
 tups:∀b xs,H b=À (.tup xs)->H' b=À (.tup xs)
 lS:∀b o u,H b=À (.eU o u)->H' b=À (.eU o u)
 nQ:∀b ps,H b=À (.rV ps)->∃more,H' b=À (.rV (ps++more))
 hok:lR P w H' B
def yr(P:ô)(w:đ):vq:=λd H s E F t=>∃e k D B H',F=.ref e/\abW B d e k D t.heap/\je e Å t.heap/\TU P w d H s H' B t/\E k Å H'
theorem P9(h:fY X EE):TH (yr X.prog X.w) X EE:=by
 intro pins R H s ev L I V;obtain⟨e,O,a0,B,H',rfl,t,hD,F,c,S,T⟩:=V;have Y:Un (frs X.stack) [] H H' s.heap L.heap:=⟨λb o e n k _=>t.1 _ _ (F.keep b o e n k),λb o e n k _=>F.slot b o e n k,λb o e n _=>F.free b o e n,λb o e _=>by
  by_cases k:b∈frs X.stack
  ·obtain⟨sl,q⟩:=F.slot b o e (I.oQ b k) k;exact⟨_,q⟩
  ·obtain⟨M,q⟩:=F.there b o e k;exact⟨M,t.1 _ _ q⟩,F.tups,F.lS,F.nQ⟩
 have U:Inv X pins R H' L:=I.Gz F.os Y (F.hok.kept t.1) F.bare λb z=>absurd z (by simp);refine h pins R H' L e O c U ⟨B,.E7 t hD,F.hok,λb o J n k D=>?_,λb o J k D=>?_,λp hp=>?_⟩ S T
 ·have Z:b∉X.fs:=λz=>k (by
   rcases I.ok.stk with q|⟨q,_⟩
   ·rw[q];exact z
   ·rw[q];unfold frs;rw[Ğ];split
    ·exact z
    ·exact ò _ z)
  exact F.keep b o (I.base.keep b o J n Z D) (I.base.free b o J n D) k
 ·obtain⟨M,q⟩:=I.base.there b o J D;exact F.there b M q k
 ·obtain⟨q,n,ne,nf,d⟩:=I.pin p (Ě _ hp);exact F.keep p.1 p.2 q n λz=>by
   rcases Þ.mp (I.kF _ z)with z|z
   ·exact ne z
   ·exact nf z
section
variable{f:Addr}
theorem Zc{st:Stmt}{k:Nat}{m:X2->M D}(F:Le K x qual st f fd)(S:iU N ps (aD st))(hps:ps.length=n)(hN:N.length=nn)(hm:∀ds,m ds=cg nn ms ds)
  (U:∀(X:Cx)(EE:bV)(R:Æ)(A:Around)(J:List Env)(s:Ì)(H:Hp)(E:XK),X=rX (yr P w) P w K mg base N qual (aD st) f R A J s H E->iC k (A.deeper (Ŋ qual (aD st) s.heap.objs.size f R)) ->
   fY X EE->PassesOwn (model P w) X.A X.env X.xe->pg X EE (bZ st) ms):
  lW P w K mg base (yr P w) (k+1) f fd ps (iX K mg n m):=by
 subst hps hN;have e:m=λds=>cg N.length ms ds:=funext hm;x_go;obtain⟨oc,od,kV,doc,pm,an,R,ct,osl,rfl,lk,hcd⟩:=F.ex;refine Nu lk hcd S (λvs H Q E h=>h.len) λA J s H vs Q E hr h=>?_;obtain⟨ds,ρ,G,hn,hp,rs,ok⟩:=h;refine⟨_,U _ (λc σ H'=>∀O,zZ mg c O->E O Å H') R A J s H E rfl hr ?_ aby,ds.map À++Ô (N.length-ds.length) Å,ρ,G,⟨nY rs,hp⟩,?_⟩
 ·intro pins σ H' s' e O c I fx hc ee;obtain⟨B,fb,Z,wD⟩:=fx;refine zY (L:=s.heap.objs.size) I.ok.frames rfl fb λh' a0 fl u hD=>?_;have V:Inv _ [] σ H' {s' with heap:=h'}:=Inv.DA (t:=s'.toks) I wD Z fl.1 u;have Dl:∀b o,s.heap.get? b=À o->b∉frs J->b∉frs (Ŋ qual (aD st) s.heap.objs.size f R::J):=λb o e Y z=>by
   rcases Þ.mp (I.kF b z)with z|z
   ·exact absurd (Ù e) (by rw[show b=s.heap.objs.size from z];exact ģ _)
   ·exact Y z
  refine⟨e,O,a0,B,H',rfl,fl,hD,⟨V.os,V.bare,λb o T nb Y=>wD.keep b o T nb (Dl b o T Y) (by intro z;exact absurd (show b∈([]:Q1) from z) (by simp)),λb o T Y=>wD.there b o T (Dl b o T Y) (by intro z;exact absurd (show b∈([]:Q1) from z) (by simp)),
   λb o T nb Y=>V.base.slot b o T nb Y (by intro z;exact absurd (show b∈([]:Q1) from z) (by simp)),λb o T nb=>V.base.free b o T nb (by intro z;exact absurd (show b∈([]:Q1) from z) (by simp)),V.base.tups,V.base.lS,V.base.nQ,Z⟩,ee O hc⟩
 ·dsimp only[cg]at ok;cases q:ms (ds.map À++Ô (N.length-ds.length) Å) G with
  |stuck=>ac_nf;w_up
  |nx τ G'=>ac_nf;exact λσ' H' ρ' f ab=>ok .bw H' ρ' f ab.hp (by unfold Rep;rfl)
  |rt d G'=>ac_nf;exact λv H' ρ' f hp r=>ok v H' ρ' f hp r
  |bk τ G'=>ac_nf;rfl'
  |ct τ G'=>ac_nf;rfl'
  |xn c τ G'=>ac_nf;exact λσ' H' ρ' f ab O hc=>ok O H' ρ' hc f ab.hp
end
abbrev E8:List Æ:=[.type "ValueError",.type "Exception",.type "BaseException",.type "object"]
theorem LF(X:K.In h)(e:aaP K C E8 "ValueError.__new__"=Ä):
  ∃bm N nm q bs hdct sn sub ab col dd k0 k1 k2 k3 k5 mN,h.get? C=À (excClassObj nm q C N bs bm hdct sn sub ab col dd k0 k1 k2 k3 k5 "ValueError.__new__")/\h.Ns N mN/\mN "__init__"=Å/\OwnTail h E8 bm:=by
 unfold aaP at e;split at e
 ·rename_i dd O sl M;split at e
  ·rename_i V bm k0 k1 k2 k3 n k5 t R;simp only[Ė,beq_iff_eq,acP]at e;obtain⟨⟨⟨⟨⟨rfl,rfl⟩,T⟩,L⟩,d⟩,k⟩:=e;obtain⟨nm,bs,D,J,F,S,sn,sub,ab,col,U⟩:=O;dsimp only at t T d k;subst t T;have I:sl=#[k0,k1,k2,k3,À (.builtin "ValueError.__new__"),k5]:=by
    cases sl with
    |mk l=>exact congrArg Array.mk R
   subst I;exact⟨bm,J,nm,F,bs,S,sn,sub,ab,col,dd,k0,k1,k2,k3,k5,_,X _ _ M,.of_isNs (PySem.W.isNs_of_in X d),PySem.W.nsMap_none_of_in X d k,PySem.W.tail_of_in X L⟩
  ·k_ne
 ·k_ne
theorem wF{h B d:Heap}:∀{l:List Env},h.FunFrames d l->(∀b∈frs l,B.get? b=Å)->h.FunFrames B l
 |[],_,_=>trivial
 |env::r,⟨M,⟨L,o,t,_,I,O⟩,J⟩,F=>by
  have D:∀b,b=L\/b∈frs r->b∈frs (env::r):=λb k=>by
   unfold frs;rw[Ğ,t];rcases k with z|z
   ·rw[z];exact ĺ
   ·exact ò _ z
  exact⟨M,⟨L,o,t,F L (D L (.inl rfl)),I,O⟩,wF J λb k=>F b (D b (.inr k))⟩
theorem z8(x:lR P w H h)(k:∀b o,H b≠Å->h.get? b=À o->B.get? b=À o):lR P w H B:=λa o e=>
 (x a o e).stay (λb u d q=>k b u (by
  rcases d with z|z
  ·rw[z,e];simp
  ·rw[z];simp) q) (λ_ q=>q) λ_ _ q=>q
section
theorem E9{e:Addr}(I:Inv X pins σ H s)(D:Heap.MadeExcOf s.heap h' e (.ref C) args):P8 X H e (.ref C) {s with heap:=h'}:=by
 have k:∀b o,s.heap.get? b=À o->b∉frs X.stack->(aa4 s.heap (frs X.stack)).get? b=À o:=λb o e hb=>acr _ e hb;have T:∀b,b∉frs X.stack->b∉X.fs:=λb hb z=>hb (by
  rcases I.ok.stk with q|⟨q,_⟩
  ·rw[q];exact z
  ·rw[q];unfold frs;rw[Ğ];split
   ·exact z
   ·exact ò _ z)
 obtain⟨t,L,_,_⟩:=D.there;refine⟨aa4 s.heap (frs X.stack),⟨λb o q=>D.keeps b o (abh _ q),?_,?_,.inl ⟨_,_,_,L,rfl,rfl,rfl,rfl⟩,⟨_,L,rfl⟩⟩,?_,⟨λb o q n hb F=>?_,λb o q hb F=>?_,λp S=>?_⟩⟩
 ·cases q:(aa4 s.heap (frs X.stack)).get? e with
  |none=>rfl
  |some o=>have:=abh _ q;rw[D.new]at this;cases this
 ·exact(wF I.stack λb hb=>acg _ hb).of_keeps λb o q _=>⟨o,D.keeps b o q,rfl⟩
 ·exact z8 I.hok λb o n q=>k b o q λz=>n (I.oQ b z)
 ·exact k b o (I.base.keep b o q n (T b hb) F) hb
 ·obtain⟨J,M⟩:=I.base.there b o q F;exact⟨J,k b J M hb⟩
 ·obtain⟨q,n,R,O,d⟩:=I.pin p (Ě _ S);exact k _ _ q λz=>(Þ.mp (I.kF _ z)).elim R O
def nZ(x:Str)(m:DS->M X2):MS:=λτ=>bC (m τ) (λds G=>if ds.length<=Ç then .xn (.mk x ds) τ G else .stuck) λc G=>.xn c τ G
theorem HC(Y:X.calm=Ä)(hx:fY X EE)(U:X.mg x=À (.ref C))(hq:aaP X.K C E8 "ValueError.__new__"=Ä)(hg:Gl X x)(hd:(x==("__debug__":Str))=Â)
  (ha:QA X EE (e::es) m) (R:ä (e::es) X.env=(Â,eval e X.env)::ä es X.env) (L:(backTo cpos (ä es X.env)).any (·.1)=Â):
  QS X EE (.Raise (À (.Call (.Name x np) (e::es) [] cpos)) Å pos) (nZ x m):=by
 intro pins s M H Dd I h;obtain⟨τ,ρ,G,ab,ok⟩:=BY (k:=λτ ds G=>if ds.length<=Ç then .xn (.mk x ds) τ G else .stuck) h;obtain⟨bm,N,nm,q,bs,hdct,sn,sub,bf,col,dd,k0,k1,k2,k3,k5,mN,hC,hN,F,T⟩:=LF I.ok.mod.RQ hq
 refine wpAny_Raise_call_subU (C:=C) (nm:=nm) (q:=q) (N:=N) (bs:=bs) (bm:=bm) (hdct:=hdct) (sn:=sn) (sub:=sub) (ab:=bf) (col:=col) (dd:=dd) (k0:=k0) (k1:=k1) (k2:=k2) (k3:=k3) (k5:=k5) Ů (bmB:=E8) (by symm) Ů (mN:=mN) (T.hasType Ů.hasBase) (I.ok.hd Y)
  (by rw[R];show(Â||(backTo cpos (ä es X.env)).any (·.1))=Â;rw[L];rfl) F (sA I hg U ⟨rfl,?_⟩ hd)
 have S:=ha cpos pins s M H _ I ⟨τ,ρ,G,ab,ok⟩;rw[R]at S |-;refine aaU (ÿ S (λus Z h2=>?_) λ_ _ z=>z);obtain⟨vs,V,t,r2,τ2,O,G2,ds,cz,rs,D⟩:=h2;by_cases J:ds.length<=Ç
 ·rw[Α J]at D;refine⟨rfl,by show us.length<=_;rw[<- r2.length,<- rs.length];exact J,t.bk _ _ hC,hN.keeps t.bk,T.keeps t.bk,λh' e d=>?_⟩;exact hx pins M V _ e (.ref C) (.mk x ds) (t.kept (t':=Z.toks) d.keeps) (E9 t d) U (D M V O .refl cz)
 ·rw[Β J]at D;exact D.elim
end
abbrev Cx.to(X:Cx)(E:Æ->Ì->Prop)(pn:N0):Cx:={X with xe:=E,pn:=pn}
abbrev Cx.hand(X:Cx)(e:Addr):Cx:={X with A:=X.A.mark (À (.ref e)),calm:=Â,xe:=λ_ _=>False}
theorem NC(d:X.Ok)(E:Æ->Ì->Prop)(k:N0):(Cx.to X E k).Ok:=⟨d.mod,d.kind,d.glob,d.blt,d.above,d.inj,d.has,d.RT,d.hd,d.frames,d.stk,d.VH,d.bs,d.Nk,d.EA,d.EB,d.qw,d.Nl⟩
theorem NF(d:(Cx.to X E pn).Ok):X.Ok:=⟨d.mod,d.kind,d.glob,d.blt,d.above,d.inj,d.has,d.RT,d.hd,d.frames,d.stk,d.VH,d.bs,d.Nk,d.EA,d.EB,d.qw,d.Nl⟩
theorem LG(d:X.Ok)(e:Addr):(Cx.hand X e).Ok:=⟨d.mod,d.kind,d.glob,d.blt,d.above,d.inj,d.has,d.RT,λz=>absurd z ï,d.frames,d.stk,d.VH,d.bs,d.Nk,d.EA,d.EB,d.qw,d.Nl⟩
section
theorem Qa(I:Inv X pins σ H s)(E:Æ->Ì->Prop):Inv (Cx.to X E (X.pn++pins)) [] σ H s:=⟨NC I.ok _ _,I.os,I.bare,I.base,I.loc,I.cell,I.free,I.jz,λp d=>I.pin p ‹d›,I.hok,I.len⟩
theorem tL(I:Inv (Cx.to X E (X.pn++pins)) fH σ H s):Inv X pins σ H s:=⟨NF I.ok,I.os,I.bare,I.base,I.loc,I.cell,I.free,I.jz,λp d=>I.pin p (Ě _ d),I.hok,I.len⟩
theorem z9(I:Inv X pins σ H s)(e:Addr):Inv (Cx.hand X e) pins σ H s:=⟨LG I.ok e,I.os,I.bare,I.base,I.loc,I.cell,I.free,I.jz,I.pin,I.hok,I.len⟩
theorem kP{e:Addr}(d:X.Ok)(I:Inv (Cx.hand X e) pins σ H s):Inv X pins σ H s:=⟨d,I.os,I.bare,I.base,I.loc,I.cell,I.free,I.jz,I.pin,I.hok,I.len⟩
theorem Fb{e:Addr}{f:Flow}(k:X.Ok)(h:SP (Cx.hand X e) pins Dd f s):SP X pins Dd f s:=by
 cases f with
 |next=>obtain⟨d,H',I,q⟩:=h;exact⟨d,H',kP k I,q⟩
 |brk=>obtain⟨d,H',I,q⟩:=h;exact⟨d,H',kP k I,q⟩
 |cont=>obtain⟨d,H',I,q⟩:=h;exact⟨d,H',kP k I,q⟩
 |ret u=>obtain⟨v,d,H',I,r,q⟩:=h;exact⟨v,d,H',kP k I,r,q⟩
theorem DC{f:Flow}(h:SP (Cx.to X E (X.pn++pins)) fH Dd f s):SP X pins Dd f s:=by
 cases f with
 |next=>obtain⟨d,H',I,q⟩:=h;exact⟨d,H',tL I,q⟩
 |brk=>obtain⟨d,H',I,q⟩:=h;exact⟨d,H',tL I,q⟩
 |cont=>obtain⟨d,H',I,q⟩:=h;exact⟨d,H',tL I,q⟩
 |ret u=>obtain⟨v,d,H',I,r,q⟩:=h;exact⟨v,d,H',tL I,r,q⟩
def Wq(X:Cx)(H:Hp)(e:Addr)(d:Æ)(s:Ì):Prop:=∃B t k,(B.StaysIn s.heap/\B.get? e=Å/\s.heap.FunFrames B X.stack/\s.heap.TracedAtW B e d t k/\je e Å s.heap)/\lR X.prog X.w H B/\Wo X B
def QH(X:Cx)(EE:bV)(t:List ExceptHandler)(F:XD->MS):Prop:=∀(k:L2.St)(H:Hp)(s:Ì)(D:Ends)(e:Addr)(d:Æ)(c:XD),Inv X [] k H s->Wq X H e d s->zZ X.mg c d ->
 (∃τ ρ G,Ab X.K X.mg k H τ ρ G/\sF X.K X.mg EE H ρ D (F c τ G))->à (model X.prog X.w) X.A (handleBy (.ref e) X.env t) (SP X [] D) X.xe s
def Qc:Res->Res
 |.xn _ _ _=>.stuck
 |r=>r
def Qd:XD->MS:=λ_ _ _=>.stuck
def tM(p:Str->Option Bool)(m:MS)(r:XD->MS):XD->MS:=λc τ G=>match c with
 |.mk n _=>match p n with
  |some Ä=>Qc (m τ G)
  |some Â=>r c τ G
  |none=>.stuck
theorem Qe:QH X EE [] Qd:=λ_ _ _ _ _ _ _ _ _ _ zz=>by obtain⟨_,_,_,_,d⟩:=zz;exact d.elim
theorem LH{p:Str->Option Bool}{np pos:Pos}{b0:Stmt}{D:List Stmt}{F:List ExceptHandler}{m:MS}{Z:XD->MS}(hm:X.mg x=À cv)(hp:∀n b k,p n=À b->X.mg n=À k->aci X.K k cv=À b)(hg:Gl X x)(hd:(x==("__debug__":Str))=Â)
  (S:∀e,pg (Cx.hand X e) X5 (b0::D) m) (hr:QH X EE F Z):QH X EE (.ExceptHandler (À (.Name x np)) Å (b0::D) pos::F) (tM p m Z):=by
 intro T H s Dd e k c I Y U J;obtain⟨n,L⟩:=c;refine wpAny_handleBy_cons (codeAny_handlers_test ?_) (by intro z;cases z);have Ih:=z9 I e;refine sA (X:=Cx.hand X e) Ih hg hm ?_ hd;have Zd:=Y;obtain⟨B,a0,fl,⟨st,nw,fr,V,hD⟩,O,wD⟩:=Zd;obtain⟨ob,R,M⟩:=V.there;have LT:PySem.W.Looks (model X.prog X.w) s.heap (typeOf (.ref e)) k:=by subst M;exact(PySem.W.Looks.ld R).andThen .now
 cases q:p n with
 |none=>obtain⟨τ,ρ,G,ab,ok⟩:=J;dsimp only[tM]at ok;ac_nf;rfl'
 |some b=>
  refine(PySem.W.exm_one I.Nm LT (hp n b k q U)).here ?_;obtain⟨τ,ρ,G,ab,ok⟩:=J;dsimp only[tM]at ok;ac_nf;cases b with
  |false=>exact hr T H s Dd e k (.mk n L) I Y U ⟨τ,ρ,G,ab,ok⟩
  |true=>
   refine codeAny_handlers_suite ?_;refine wpAny_setFlight_noneW st fr V λh' k1 k2 k3 k4=>?_;have I':Inv X [] T H {s with heap:=h'}:=Inv.DA (t:=s.toks) I wD O k1 λb o S hn=>⟨o.slots,k4 b o S hn⟩;refine ÿ (S e [] _ T H Dd (z9 I' e) ⟨τ,ρ,G,ab,?_⟩) (λf s2 h2=>?_) λ_ _ z=>Į z
   ·nofun;cases r:m τ G with
    |stuck=>rw[r]at ok;w_up
    |nx τ' G'=>rw[r]at ok;w_up
    |rt d G'=>rw[r]at ok;w_up
    |bk τ' G'=>rw[r]at ok;w_up
    |ct τ' G'=>rw[r]at ok;w_up
    |xn c τ' G'=>rw[r]at ok;rfl'
   ·exact Fb I.ok h2
def Aa(t:MS)(k:XD->MS)(d:MS):MS:=λτ G=>match t τ G with
 |.nx τ' G'=>d τ' G'
 |.xn c τ' G'=>k c τ' G'
 |r=>r
theorem Qf{body D:List Stmt}{h0:ExceptHandler}{hs:List ExceptHandler}{pos:Pos}{mb me:MS}{mh:XD->MS}(F:X.stack=X.env::X.outer)(hfr:∃L,X.env.frame=À L)
  (hb:∀(E':Æ->Ì->Prop)(Z:N0)(HE:bV),fY (Cx.to X E' Z) HE->PassesOwn (model X.prog X.w) X.A X.env E'->pg (Cx.to X E' Z) HE body mb)
  (hh:∀(Z:N0),QH (Cx.to X X.xe Z) EE (h0::hs) mh) (he:pg X EE D me):QS X EE (.Try body (h0::hs) D [] pos) (Aa mb mh me):=by
 intro pins s σ H Dd I h;cb_eq;refine wpAny_Try_except ?_;obtain⟨L,hL⟩:=hfr
 refine ÿ (hb (λe U=>à (model X.prog X.w) X.A (noteFrame e X.env) (λ_ O=>à (model X.prog X.w) X.A (setFlight e Å) (λ_ V=>à (model X.prog X.w) X.A (handleBy e X.env (h0::hs)) (SP X pins Dd) X.xe V) X.xe O) X.xe U) (X.pn++pins)
  (λc k H'=>∃τ' ρ' G',cK X.K H H' ρ ρ'/\Ab X.K X.mg k H' τ' ρ' G'/\sF X.K X.mg EE H' ρ' Dd (mh c τ' G')) ?_ PassesOwn.looking [] s σ H {Dd with nx:=iQ X.K X.mg EE me Dd} (Qa I _) ?_) (λf s1 T=>?_) λ_ _ z=>z
 ·intro fH k H' s' e R c I' fx hc ee;obtain⟨B,fb,S,Y⟩:=fx;have Wr:X.A.frames=À (X.env::X.outer):=by rw[<- F];exact I.ok.frames
  have Ws:B4 B (X.env::X.outer) e R s'.heap:=by rw[<- F];exact fb
  refine yp Wr hL Ws λT a0 hH u1 hD=>?_;refine zX hH hD λh2 J u2 TN=>?_;obtain⟨τ',ρ',G',_,M,ok'⟩:=ee;have I2:Inv (Cx.to X X.xe (X.pn++pins)) [] k H' {s' with heap:=h2}:=by have z:=Inv.DA (t:=s'.toks) I' Y S J.1 (u1.trans u2);exact⟨NC (NF z.ok) _ _,z.os,z.bare,z.base,z.loc,z.cell,z.free,z.jz,z.pin,z.hok,z.len⟩
  refine ÿ (hh (X.pn++pins) k H' {s' with heap:=h2} Dd e R c I2 ⟨B,a0,.none,⟨J.1,J.2.1,by show h2.FunFrames B X.stack;rw[F];exact J.2.2.1,J.2.2.2,TN⟩,S,⟨Y.keep,Y.there,Y.pins⟩⟩ hc ⟨τ',ρ',G',M,ok'⟩) (λf s3 h3=>DC h3) λ_ _ z=>z
 ·right;dsimp only[Aa]at ok;cases q:mb τ G with
  |stuck=>ac_nf;w_up
  |nx τ' G'=>ac_nf;exact λk H' ρ' f M=>⟨τ',ρ',G',M,ok.fut f⟩
  |rt d G'=>ac_nf;w_up
  |bk τ' G'=>ac_nf;w_up
  |ct τ' G'=>ac_nf;w_up
  |xn c τ' G'=>ac_nf;exact λk H' ρ' f M=>⟨τ',ρ',G',f,M,ok.fut f⟩
 ·cases f with
  |next=>obtain⟨k,H',I',q⟩:=T;exact he pins s1 k H' Dd (tL I') q
  |brk=>exact DC T
  |cont=>exact DC T
  |ret u=>exact DC T
end
def gW(env:Env):List (Str×NameKind)->List (Str×Addr)->List (Str×Addr)
 |[],d=>d
 |(n,k)::r,d=>gW env r (if k==.free then (match env.cells.lookup n with|some c=>(n,c)::d|none=>d) else d)
theorem nI(h:∀x∈scope.names,x.2=.free->∃c,env.cells.lookup x.1=À c):closureFor scope env=pure (gW env scope.names []):=by
 unfold closureFor
 have I:∀(names:List (Str×NameKind))(d:List (Str×Addr)),(∀x∈names,x.2=.free->∃c,env.cells.lookup x.1=À c) ->
   (forIn names d λx r=>match x with|(name,D)=>if (D==NameKind.free)=Ä then do let y <- cellOf env name;pure (ForInStep.yield ((name,y)::r)) else pure (ForInStep.yield r))=(pure (gW env names d):Sem (List (Str×Addr))):=by
  intro names
  induction names with
  |nil=>intro d _;rfl
  |cons x r M=>
   intro d F;obtain⟨n,k⟩:=x;rw[ň];by_cases t:(k==NameKind.free)=Ä
   ·obtain⟨c,L⟩:=F (n,k) ĺ (eq_of_beq t);have e:cellOf env n=pure c:=by unfold cellOf;rw[L]
    simp only[Α t,e,pure_bind];rw[M _ λy J=>F y (ò _ J)];show _=pure (gW env r (if (k==NameKind.free)=Ä then (match env.cells.lookup n with|some c=>(n,c)::d|none=>d) else d));rw[Α t,L]
   ·simp only[Β t,pure_bind];rw[M _ λy J=>F y (ò _ J)];show _=pure (gW env r (if (k==NameKind.free)=Ä then (match env.cells.lookup n with|some c=>(n,c)::d|none=>d) else d));rw[Β t]
 have k2:=I scope.names [] h
 first
  |(rw[k2];rfl)
  |(simp only[k2,pure_bind])
  |exact k2
theorem tN{env:Env}:∀(names:List (Str×NameKind))(t:List (Str×Addr)),(∀y c,t.lookup y=À c->env.cells.lookup y=À c)->∀y c,(gW env names t).lookup y=À c->env.cells.lookup y=À c
 |[],t,h,y,c,e=>h y c e
 |(n,k)::r,t,h,y,c,e=>by
  refine tN r _ (λz d ez=>?_) y c e;by_cases D:(k==NameKind.free)=Ä
  ·rw[Α D]at ez;cases q:env.cells.lookup n with
   |none=>rw[q]at ez;exact h z d ez
   |some F=>
    rw[q]at ez;dsimp only at ez;rw[Ć]at ez;cases hz:z==n with
    |true=>rw[hz]at ez;cases ez;rw[eq_of_beq hz];exact q
    |false=>rw[hz]at ez;exact h z d ez
  ·rw[Β D]at ez;exact h z d ez
theorem tO{env:Env}:∀(names:List (Str×NameKind))(acc:List (Str×Addr))(y:Str),((∃c,acc.lookup y=À c)\/((y,NameKind.free)∈names/\∃c,env.cells.lookup y=À c))->∃c,(gW env names acc).lookup y=À c
 |[],acc,y,h=>by
  rcases h with h|⟨h,_⟩
  ·exact h
  ·cases h
 |(n,k)::r,acc,y,h=>by
  refine tO r _ y ?_;rcases h with⟨c,h⟩|⟨h,c,d⟩
  ·refine .inl ?_;by_cases t:(k==NameKind.free)=Ä
   ·rw[Α t];cases q:env.cells.lookup n with
    |none=>exact⟨c,h⟩
    |some D=>
     k_go;rw[Ć];cases hz:y==n with
     |true=>exact⟨D,rfl⟩
     |false=>exact⟨c,h⟩
   ·rw[Β t];exact⟨c,h⟩
  ·rcases Þ.mp h with e|h
   ·k_ne;refine .inl ?_;rw[Α (by rfl),d];k_go;exact⟨c,by rw[Ć,beq_self_eq_true]⟩
   ·exact .inr ⟨h,c,d⟩
section
open PyProof.Rows
def mask{d:Type}:L9->List (Option d)->List (Option d)
 |_,[]=>[]
 |[],_::r=>Å::mask [] r
 |k::ks,o::r=>(if k then o else Å)::mask ks r
theorem jC{d:Type}:∀(ks:L9)(l:List (Option d)),(mask ks l).length=l.length
 |_,[]=>by unfold mask;rfl
 |[],_::r=>by unfold mask;simp[jC [] r]
 |k::ks,o::r=>by unfold mask;simp[jC ks r]
theorem lZ{d:Type}{v:d}:∀{ks:L9}{l:List (Option d)}{i:Nat},(mask ks l)[i]?=À (À v)->ks[i]?=À Ä/\l[i]?=À (À v)
 |ks,[],i,h=>by unfold mask at h;simp at h
 |[],o::r,0,h=>by unfold mask at h;simp at h
 |[],o::r,i+1,h=>by unfold mask at h;have:=(lZ (ks:=[]) (l:=r) (i:=i) ‹h›).1;simp at this
 |k::ks,o::r,0,h=>by
  unfold mask at h;cases k with
  |true=>simpa using h
  |false=>simp at h
 |k::ks,o::r,i+1,h=>by unfold mask at h;have:=lZ (ks:=ks) (l:=r) (i:=i) ‹h›;z_go
theorem DE{d:Type}{v:d}:∀{ks:L9}{l:List (Option d)}{i:Nat},ks[i]?=À Ä->l[i]?=À (À v)->(mask ks l)[i]?=À (À v)
 |ks,[],i,_,h=>by simp at h
 |[],o::r,i,h,_=>by simp at h
 |k::ks,o::r,0,h,e=>by unfold mask;simp at h e;simp[h,e]
 |k::ks,o::r,i+1,h,e=>by unfold mask;have:=DE (ks:=ks) (l:=r) (i:=i) ‹h› ‹e›;z_go
def vD(env:Env)(n:Str)(k:NameKind):NameKind:=if (k==.free&&env.scope.kind==.function&&env.kindOf n==À .cell) then .cell else k
theorem fc{env:Env}{y:Str}:∀(names:List (Str×NameKind)),(names.map λ(n,k)=>if (k==NameKind.free&&env.scope.kind==.function&&env.kindOf n==À .cell) then (n,NameKind.cell) else (n,k)).lookup y=(names.lookup y).map (vD env y)
 |[]=>rfl
 |(n,k)::r=>by
  have D:=fc (env:=env) (y:=y) r;rw[É,Ć];by_cases d:(k==NameKind.free&&env.scope.kind==.function&&env.kindOf n==À .cell)=Ä
  ·rw[Α d,Ć];cases t:y==n with
   |true=>have e:y=n:=eq_of_beq t;x_go;simp[vD,d]
   |false=>exact D
  ·rw[Β d,Ć];cases t:y==n with
   |true=>have e:y=n:=eq_of_beq t;x_go;simp[vD,d]
   |false=>exact D
structure bB(Vj:Scope)(N:P3)(scope:Scope)(xs:P3)(ks:L9):Prop where
 nd:xs.Nodup
 kind:scope.kind=.function
 HF:∀y∈scope.names,y.2≠.cell
 names:∀y∈scope.names,y.2=.local->scope.names.lookup y.1=À .local
 loc:∀x∈xs,scope.names.lookup x=À .local
 free:∀y∈scope.names,y.2=.free->Vj.names.lookup y.1=À .cell\/Vj.names.lookup y.1=À .free
 Wt:((ks.zip N).all λp=>!p.1||decide (scope.names.lookup p.2=À .free))=Ä
theorem bB.cap{xs:P3}(S:bB Vj N scope xs ks):∀i<ks.length,ks[i]?=À Ä->∀y∈N[i]?,scope.names.lookup y=À .free:=λi _ k y d=>by have h:=Ţ.mp S.Wt (Ä,y) (ë (i:=i) (by rw[abr];exact⟨k,d⟩));simpa using h
def pC(X:Cx)(d:Scope)(cl:List (Str×Addr))(xs:P3)(C:Addr)(pins:N0)(s:Ì)(H:Hp)(fp:Q1)(E:Æ->Ì->Prop):Cx where
 prog:=X.prog
 w:=X.w
 K:=X.K
 mg:=X.mg
 base:=X.base
 A:=X.A
 N:=xs++X.N
 s₀:=s
 H₀:=H
 env:=compEnvC d cl C X.env
 outer:=X.stack
 stack:=X.stack
 ex:=fp
 fn:=λ_=>Â
 calm:=X.calm
 pn:=X.pn++pins
 xe:=E
section
variable{xs:P3}{s4:Ì}{fp:Q1}{h1:Heap}
theorem mem_lookup{d k:Type} [BEq d] [LawfulBEq d]:∀{l:List (d×k)}{a:d}{b:k},l.lookup a=À b->(a,b)∈l
 |[],_,_,h=>by simp at h
 |(t,D)::r,a,b,h=>by
  rw[Ć]at h;cases hz:a==t with
  |true=>rw[hz]at h;cases h;rw[eq_of_beq hz];exact ĺ
  |false=>rw[hz]at h;exact ò _ (mem_lookup h)
theorem HG(S:bB X.env.scope X.N scope xs ks){cl:List (Str×Addr)}{C:Addr}{y:Str}(h:(compEnvC scope cl C X.env).kindOf y=À .cell\/(compEnvC scope cl C X.env).kindOf y=À .free):scope.names.lookup y=À .free:=by
 have h':(scope.names.lookup y).map (vD X.env y)=À .cell\/(scope.names.lookup y).map (vD X.env y)=À .free:=by rw[<- fc];exact h
 cases q:scope.names.lookup y with
 |none=>rw[q]at h';rcases h' with h'|h'<;>cases h'
 |some k=>
  rw[q]at h';cases k with
  |free=>rfl
  |cell=>exact absurd rfl (S.HF _ (mem_lookup q))
  |_=>rcases h' with h'|h'<;>simp[vD]at h'
theorem qD(S:bB X.env.scope X.N scope xs ks){cl:List (Str×Addr)}{C:Addr}{y:Str}(h:scope.names.lookup y=À .free):(compEnvC scope cl C X.env).kindOf y=À .cell\/(compEnvC scope cl C X.env).kindOf y=À .free:=by
 have e:(compEnvC scope cl C X.env).kindOf y=(scope.names.lookup y).map (vD X.env y):=fc scope.names;rw[e,h];unfold vD;dsimp only[Option.map];split
 ·exact .inl rfl
 ·exact .inr rfl
theorem tP(S:bB X.env.scope X.N scope xs ks)(d:x∈xs){cl:List (Str×Addr)}{C:Addr}:(compEnvC scope cl C X.env).kindOf x=À .local:=by have e:(compEnvC scope cl C X.env).kindOf x=(scope.names.lookup x).map (vD X.env x):=fc scope.names;rw[e,S.loc x d];rfl
theorem B6(S:bB X.env.scope X.N scope xs ks)(I:Inv X pins σ H s)(T:∀b∈fp,nR X pins H b/\b<s.heap.objs.size)(hn:h1.Ns s.heap.objs.size λ_=>Å)(R:∀b o,s.heap.get? b=À o->h1.get? b=À o)(t:Nat)(ht:0<t:=by accm_mu):
  Inv (pC X scope (gW X.env scope.names []) xs s.heap.objs.size pins s H fp E) [] (Ô xs.length Å++mask ks σ) H {s with heap:=h1,toks:=t}:=by
 have M:∀y c,(gW X.env scope.names []).lookup y=À c->X.env.cells.lookup y=À c:=tN scope.names [] λy c e=>by simp at e
 have lt:∀b o,s.heap.get? b=À o->b≠s.heap.objs.size:=λb o e=>ã (Ù e);have Qg:∀y c,X.env.cells.lookup y=À c->∃v,s.heap.IsCell c v:=λy c e=>I.cell y c e;have NG:∀b,b≠X.env.locals->b∉X.fs->b∉frs X.stack:=λb h1 h2 h3=>(Þ.mp (I.kF b h3)).elim h1 h2
 refine⟨⟨I.ok.mod,?_,I.ok.glob,I.ok.blt,È _,λy z c Z L=>I.ok.inj y z c (M y c Z) (M z c L),λy hy=>?_,λy c h _=>absurd (show Â=Ä from h) ï,I.ok.hd,I.ok.frames,.inl rfl,λb J=>⟨ã (T b J).2,λy c e=>(T b J).1.2.2.2.2.1 y c (M y c e)⟩,I.bs,
   ú I.ok.Nk I.sz,λb o e J=>?_,λb J=>NG b (T b J).1.2.1 (T b J).1.2.2.1,I.stack,I.oQ⟩,⟨rfl,ht⟩,I.bare,Un.kept R,⟨_,hn,λi y v Z L e3=>?_⟩,λy c e=>?_,I.hok.fresh (È _),λy c e=>(I.jz y c (M y c e)).imp id λz=>⟨rfl,z.2⟩,λp hp=>?_,I.hok.kept R,?_⟩
 ·show(relabel scope X.env).kind=.function;exact S.kind
 ·have D:=HG S hy;have hm:=mem_lookup D;refine tO scope.names [] y (.inr ⟨hm,?_⟩);exact I.ok.has y (S.free _ hm rfl)
 ·rcases(T b J).1.2.2.2.1 with z|z
  ·exact I.ok.EA b o e z
  ·exact absurd (Õ (Ù (I.ok.bs b o e).1) z) (ģ _)
 ·by_cases U:i<xs.length
  ·rw[Î ‹U›,Š]at L;rw[Α U]at L;cases L
  ·obtain⟨j,rfl⟩:∃j,i=xs.length+j:=⟨i-xs.length,∅⟩;have BE:(mask ks σ)[j]?=À (À v):=by rw[Ò (by simp)]at L;simpa using L
   obtain⟨O,Y⟩:=lZ BE;have wA:X.N[j]?=À y:=by have:(xs++X.N)[xs.length+j]?=À y:=Z;rw[Ò ∅]at this;z_go
   have D:scope.names.lookup y=À .free:=S.cap j (Á.mp O).1 O y (by rw[wA];rfl);obtain⟨m,hm,hl⟩:=I.loc;have F:=S.free _ (mem_lookup D) rfl;obtain⟨u,r,l⟩:=hl j y v wA Y (F.elim (λz=>.inr (.inl z)) λz=>.inr (.inr z));refine⟨u,r,.inr ⟨qD S D,?_⟩⟩;rcases l with⟨k,_⟩|⟨k,c,ec,V⟩
   ·have k':X.env.scope.names.lookup y=À .local:=k;rcases F with z|z<;>(rw[k']at z;cases z)
   ·obtain⟨c',X6⟩:=tO (env:=X.env) scope.names [] y (.inr ⟨mem_lookup D,c,ec⟩);have:=M y c' X6;rw[ec]at this;cases this;exact⟨c,X6,V.keeps R⟩
 ·obtain⟨v,V⟩:=Qg y c (M y c e);exact⟨v,V.keeps R⟩
 ·have DB:p∈X.pn++pins:=by have:p∈(X.pn++pins)++[]:=hp;simpa using this
  obtain⟨e,n,ne,nf,d⟩:=I.pin p DB;exact⟨R _ _ e,n,lt _ _ e,NG _ ne nf,d⟩
 ·show(Ô xs.length Å++mask ks σ).length=(xs++X.N).length;simp[jC,I.len]
theorem n6{T:Cx}{u:Æ}{Q:Unit->Ì->Prop}{s0:Ì}{R:Hp}
  (S:bB X.env.scope X.N scope xs ks) (e:T=pC X scope cl xs C pins s0 H0 fp E) (R4:own.length=xs.length) (D:xs[n]?=À x) (I:Inv T fH (own++mask ks σ0) R s1) (r:RelV v u) (h:∀s',Inv T fH (own.set n (À v)++mask ks σ0) R s'->Q () s'):
  à M' A' (assign (.Name x px) T.env u) Q E' s1:=by
 x_go;obtain⟨m,hn,hl⟩:=id I.loc;have l7:=tP (cl:=cl) (C:=C) S (ë D);refine abv (aaC l7 hn (λh' hn' J=>?_) (by rw[show(pC X scope cl xs C pins s0 H0 fp E).env.scope.kind=.function from S.kind];rfl));refine h _ ?_;have Y:∀b o,s0.heap.get? b=À o->b≠C:=λb o e=>ã (Õ (Ù e) I.ok.above);obtain⟨oL,_,_,XT,_⟩:=id hn;have t:R C=Å:=I.free;refine⟨I.ok,⟨I.os.1,ü _⟩,I.bare,⟨λb o e n hb D=>?_,λb o e n hb D=>?_,I.base.free,λb o e D=>?_,I.base.tups,I.base.lS,I.base.nQ⟩,⟨_,hn',λj y v' F L e3=>?_⟩,λy c e=>?_,I.free,I.jz,λp hp=>?_,λb ob e=>?_,‹I.len›⟩
 ·exact(J.2 b (Y b o e)).trans (I.base.keep b o e n hb D)
 ·obtain⟨sl,F⟩:=I.base.slot b o e n hb D;exact⟨sl,(J.2 b (Y b o e)).trans F⟩
 ·obtain⟨o',F⟩:=I.base.there b o e D;exact⟨o',(J.2 b (Y b o e)).trans F⟩
 ·have hnl:n<xs.length:=(Á.mp D).1;by_cases hlt:j<xs.length
  ·have ey:xs[j]?=À y:=by
    have:(xs++X.N)[j]?=À y:=F
    rwa [Î hlt]at this
   rw[Î (by simp;lia)]at L;by_cases V:n=j
   ·subst V;rw[D]at ey;cases ey;rw[å,Α rfl,Α ∅]at L;cases L;exact⟨u,r,.inl ⟨l7,by simp⟩⟩
   ·rw[Í V]at L;have hne:y≠x:=by rintro rfl;obtain⟨h1,wA⟩:=Á.mp D;obtain⟨h2,U⟩:=Á.mp ey;exact V ((Ļ S.nd).mp (wA.trans U.symm))
    obtain⟨Z,r',q⟩:=hl j y v' F (by rw[Î ∅];exact L) e3;refine⟨Z,r',?_⟩;rcases q with⟨k,e⟩|⟨k,c,e,z⟩
    ·exact .inl ⟨k,by simpa[hne]using e⟩
    ·exact .inr ⟨k,c,e,z.sameBut J (I.Ku y c e)⟩
  ·obtain⟨j,rfl⟩:∃k,j=xs.length+k:=⟨j-xs.length,∅⟩;have U:(mask ks σ0)[j]?=À (À v'):=by rw[Ò (by simp;lia)]at L;simpa[R4]using L
   obtain⟨Z,r',q⟩:=hl (xs.length+j) y v' F (by rw[Ò ∅];simpa[R4]using U) e3;refine⟨Z,r',?_⟩;rcases q with⟨k,e⟩|⟨k,c,e,z⟩
   ·obtain⟨O,_⟩:=lZ U;have wA:X.N[j]?=À y:=by have:(xs++X.N)[xs.length+j]?=À y:=F;rw[Ò ∅]at this;simpa using this
    have hfr:scope.names.lookup y=À .free:=S.cap j (Á.mp O).1 O y (by rw[wA];rfl);rcases qD (cl:=cl) (C:=C) S hfr with z|z
    ·have k':(compEnvC scope cl C X.env).kindOf y=À .local:=k;rw[k']at z;cases z
    ·have k':(compEnvC scope cl C X.env).kindOf y=À .local:=k;rw[k']at z;cases z
   ·exact .inr ⟨k,c,e,z.sameBut J (I.Ku y c e)⟩
 ·obtain⟨w',z⟩:=I.cell y c e;exact⟨w',z.sameBut J (I.Ku y c e)⟩
 ·obtain⟨e,n,ne,nf,d⟩:=I.pin p hp;exact⟨(J.2 p.1 ne).trans e,n,ne,nf,d⟩
 ·refine(I.hok b ob e).stay (λc w' M q=>(J.2 c ?_).trans q) (λ_ q=>q) λ_ _ q=>q;intro ec;rcases M with M|M
  ·have:R C=À ob:=by rw[<- (show c=C from ec),M];exact e
   rw[t]at this;cases this
  ·have:R C=À (.own b):=by rw[<- (show c=C from ec)];exact M
   rw[t]at this;cases this
def TY:V->Hp->X1->Prop:=λx _ vs=>vs=[x]
def TZ(K:Ë)(n:Nat):V->Hp->X1->Prop:=λx H vs=>∃a,x=.ref a/\nA K H a vs/\vs.length=n
def Own(X:Cx)(d:Scope)(xs:P3)(ks:L9)(J:Expr)(M:V->Hp->X1->Prop):Prop:=
 ∀(cl:List (Str×Addr))(C:Addr)(pins:N0)(s0:Ì)(H0:Hp)(fp:Q1)(E:Æ->Ì->Prop)(k:Cx)(σ0:L2.St)(own:List (Option V))(x:V)(vs:X1)(u:Æ)(t:Hp)(I:Ì)(F:N0)(L:Æ->Ì->Prop)(Q:Unit->Ì->Prop),
  k=pC X d cl xs C pins s0 H0 fp E->own.length=xs.length->Inv k F (own++mask ks σ0) t I->RelV x u->M x t vs ->
  (vs.length=xs.length->∀D,Inv k F (vs.map À++mask ks σ0) t D->Q () D)->à (model X.prog X.w) X.A (assign J k.env u) Q L I
theorem HH(S:bB X.env.scope X.N scope [x] ks):Own X scope [x] ks (.Name x px) TY:=by
 intro cl C pins s0 H0 fp E L σ0 own v vs u R O F M Q e k I r D h;cases D;rcases own with _|⟨a,_|⟨b,J⟩⟩<;>try (cases k;done)
 exact n6 (own:=[a]) (n:=0) S e rfl rfl I r λd t=>h rfl d t
theorem HJ{O:Pos}{k:Nat}(L:X.calm=Ä)(S:bB X.env.scope X.N scope [x,y] ks):Own X scope [x,y] ks (.Tuple [.Name x px,.Name y py] k O) (TZ X.K 2):=by
 intro cl C pins s0 H0 fp E t σ0 own v vs u J s1 fH E' Q e ho I r hv h;obtain⟨a,rfl,U,T⟩:=hv;cases r;rcases own with _|⟨D,_|⟨d,_|⟨a3,ro⟩⟩⟩<;>try (cases ho;done)
 rcases vs with _|⟨F,_|⟨R,_|⟨v3,rw⟩⟩⟩<;>try (cases T;done)
 have Ze:nA t.K J a [F,R]:=by rw[e];exact U
 obtain⟨V,rv,Y,hz⟩:=I.tuple Ze;cases rv with
 |cons r1 rv=>
 cases rv with
 |cons r2 rv=>
 cases rv;have hd:X.A.handled=Å:=by have:=I.ok.hd (by rw[e];exact L);rw[e]at this;exact this
 refine assign_Tuple_tuple hd Y rfl rfl λh' hx=>?_;have M:Inv t fH ([D,d]++mask ks σ0) J {s1 with heap:=h'}:=I.kept (t':=s1.toks) λb o e=>hx b o (ã (Ù e)) e;refine assignInOrder_cons (n6 (own:=[D,d]) (n:=0) S e rfl rfl M r1 λs2 I2=>?_);refine assignInOrder_cons (n6 (own:=[À F,d]) (n:=1) S e rfl rfl I2 r2 λs3 Z=>?_);exact assignInOrder_nil (h rfl _ Z)
end
end
theorem yt{prog:ô}{w:đ}{A:Around}{R:Result->Ì->Prop}{s:Ì}{U t iter:Expr}{ifs:U2}{S:Scope}{pos:Pos}{it Z:Æ}{env:Env}(I:Nat->Ì->Prop)
  (turn:∀(n:Nat)(s:Ì),I n s->à (model prog w) A (pyNext it) (λr k=>match r with
   |none=>R (.ok .next) k
   |some v=>à (model prog w) A (letOwnedTupleGo t it v) (λ_ T=>à (model prog w) A (assign t env v) (λ_ O=>à (model prog w) A (forIn ifs Ä λc r=>if r=Ä then do let ok <- isTrue c env (eval c env);pure (ForInStep.yield ok) else pure (ForInStep.yield r)) (λok D=>if ok=Ä then à (model prog w) A (eval U env) (λx F=>à (model prog w) A (call (.builtin "list.append") [Z,x]) (λ_ L=>∃m,m<n/\I m L) (notedBy (model prog w) A env λe d=>R (.error e) d) F) (notedBy (model prog w) A env λe d=>R (.error e) d) D else ∃m,m<n/\I m D) (notedBy (model prog w) A env λe d=>R (.error e) d) O) (notedBy (model prog w) A env λe d=>R (.error e) d) T) (notedBy (model prog w) A env λe d=>R (.error e) d) k) (notedBy (model prog w) A env λe d=>R (.error e) d) s) (n:Nat) (h:I n s):
  codeAny (model prog w) A (.compLoop (.ListComp U [⟨t,iter,ifs,0⟩] S pos) 0 it Z env) R s:=by
 refine codeAny_loop rfl I (λn s hI=>?_) n h;refine wpAny_noted ?_;rw[compTurn_list];refine Ã (acz (Ã (ÿ (turn n s hI) (λr k J=>?_) λ_ _ z=>z)));cases r with
 |none=>exact Ó J
 |some v=>
  refine Ã (ÿ J (λ_ O Y=>Ã (ÿ Y (λ_ D h₃=>Ã (ÿ h₃ (λok F M=>?_) λ_ _ z=>z)) λ_ _ z=>z)) λ_ _ z=>z);cases ok with
  |false=>exact Ó ⟨rfl,M⟩
  |true=>exact Ã (Ã (ÿ M (λx L V=>Ã (ÿ V (λ_ s₆ h₆=>Ó (Ó ⟨rfl,h₆⟩)) λ_ _ z=>z)) λ_ _ z=>z))
def CT(X:Cx)(d:U2)(tt:TT):Prop:=∀(pins:N0)(s:Ì)(k:L2.St)(H:Hp)(Q:Bool->Hp->Prop),Inv X pins k H s->tt k H Q ->
 à (model X.prog X.w) X.A (forIn d Ä λc r=>if r=Ä then do let t <- isTrue c X.env (eval c X.env);pure (ForInStep.yield t) else pure (ForInStep.yield r)) (TP X pins k Q) X.xe s
theorem Qh:CT X [] (λ_ H Q=>Q Ä H):=λ_ _ _ H _ I h=>wpAny_tests_nil ⟨H,I,h⟩
theorem Qi{t:TT}(h:PT X c t):CT X [c] t:=λpins s d H Q I q=>wpAny_tests_one (h pins s d H Q I q)
def Ac(L:TI)(ks:L9)(M:V->Hp->X1->Prop)(tt:TT)(te:TE):TE:=λk H Q=>L k H λJ I=>∀D,I D=Å->∃W:Nat->Nat->Hp->Prop,(∃m,W 0 m (upd I D (.lst [])))/\∀i m H,W i m H ->
  (J.stop i H/\Q (.ref D) H)\/(J.go i H/\∀x H',J.vZ i H x H'->∃vs,M x H' vs/\tt (vs.map À++mask ks k) H' λb F=>if b=Ä then te (vs.map À++mask ks k) F λv t=>∃ys,t D=À (.lst ys)/\ys.length<Ç/\∃d,d<m/\W (i+1) d (upd t D (.lst (ys++[v]))) else ∃d,d<m/\W (i+1) d F)
section
variable{xs:P3}{ow:V->Hp->X1->Prop}{s4:Ì}{fp:Q1}{h1:Heap}{elt iter:Expr}{ifs:U2}{tt:TT}{te:TE}{wi:TI}
theorem rA{h h' B t:Heap}:∀{l:List Env},h.FunFrames B l->(∀b∈frs l,∀o,h.get? b=À o->(∀vs,o.data≠.fields vs)->∃k,h'.get? b=À k/\k.data=o.data)->(∀b∈frs l,t.get? b=Å)->h'.FunFrames t l
 |[],_,_,_=>trivial
 |env::r,⟨S,⟨L,o,F,_,M,D⟩,R⟩,I,J=>by
  have sub:∀b,b=L\/b∈frs r->b∈frs (env::r):=λb d=>by
   unfold frs;rw[Ğ,F];rcases d with z|z
   ·rw[z];exact ĺ
   ·exact ò _ z
  obtain⟨k,O,T⟩:=I L (sub L (.inl rfl)) o M D;exact⟨S,⟨L,k,F,J L (sub L (.inl rfl)),O,by rw[T];exact D⟩,rA R (λb d=>I b (sub b (.inr d))) λb d=>J b (sub b (.inr d))⟩
theorem B7{D C e:Addr}{J:Æ}{c:XD}{fH:N0}{σ':L2.St}{H' HD:Hp}{R s':Ì}{cl:List (Str×Addr)}{RE:Æ->Ì->Prop}(Qj:fY X EE)(hst:∃S gX L,X.stack=S::gX/\X.env.frame=S.frame/\S.frame=À L)
  (t:Inv X pins σ HD R) (hC:C=R.heap.objs.size) (f3:∀b∈fp,nR X pins HD b/\b<R.heap.objs.size)
  (Wu:∀s'':Ì,(∃m,s''.heap.Ns C m/\∀h',Ř C s''.heap h'->∀cenv:Env,cenv.locals=C->à (model X.prog X.w) X.A (passOn "comprehension.variables-let-go" (.ref e) cenv:Sem Æ) (λ_ _=>False) X.xe {s'' with heap:=h'})->RE (.ref e) s'')
  (I:Inv (pC X scope cl xs C pins R HD fp E) fH σ' H' s') (fx:P8 (pC X scope cl xs C pins R HD fp E) H' e J s') (hc:zZ X.mg c J) (ee:EE c σ H'):
  notedBy (model X.prog X.w) X.A (compEnvC scope cl C X.env) RE (.ref e) s':=by
 obtain⟨B,fb,hok,Z⟩:=fx;obtain⟨S,gX,L,h1,h2,h3⟩:=hst;show à _ X.A (noteFrame (.ref e) (compEnvC scope cl C X.env)) _ _ s';rw[B5 (show(compEnvC scope cl C X.env).frame=S.frame from h2)];have hfr:X.A.frames=À (S::gX):=by rw[<- h1];exact t.ok.frames
 have Ws:B4 B (S::gX) e J s'.heap:=by rw[<- h1];exact fb
 refine yp hfr h3 Ws λh5 a0 hH u5 Zf=>?_;obtain⟨k1,k2,k3,oe,vs,T,oT,ts,he,hcls,hd,M,TJ,R3,hT,Y,Zg⟩:=hH;have X7:h5.FunFrames B X.stack:=by rw[h1];exact k3
 obtain⟨m,hm,_⟩:=id I.loc;have X8:h5.Ns C m:=u5.ns hm;refine Wu _ ⟨m,X8,λh6 sb cenv _=>?_⟩;obtain⟨oC,esC,epC,Zh,Zi,_⟩:=id X8;have KL:∀{b:Addr}{o:Obj}{ws:Array Æ},h5.get? b=À o->o.data=.fields ws->b≠C:=λ{b o ws} q d z=>by rw[z,Zh]at q;cases q;rw[Zi]at d;cases d
 have Wv:=(sb.2 e (KL he hd)).trans he;have Yb:=(sb.2 T (KL hT Y)).trans hT;have Yc:3<ts.size:=(ı.mp Zg).1;unfold passOn setFlight;refine Ã (ù Wv hd M ?_);rw[Β (show ¬ ((Value.ref T==Value.none)=Ä) by simp)];have fin:X.xe (.ref e) {s' with heap:=h6.update T (ĉ (·.setIfInBounds 3 (cenv.frame.elim .none λf=>rawInt f)))}:=by
  have T4:∀b,b≠T->(h6.update T (ĉ (·.setIfInBounds 3 (cenv.frame.elim .none λf=>rawInt f)))).get? b=h6.get? b:=λb hb=>ý _ _ (õ hb);have yq:∀b,b≠T->b≠C->(h6.update T (ĉ (·.setIfInBounds 3 (cenv.frame.elim .none λf=>rawInt f)))).get? b=h5.get? b:=λb hb hb2=>(T4 b hb).trans (sb.2 b hb2);generalize Zj:h6.update T (ĉ (·.setIfInBounds 3 (cenv.frame.elim .none λf=>rawInt f)))=h7 at T4 yq;have Zk:h7.get? T=À (ĉ (·.setIfInBounds 3 (cenv.frame.elim .none λf=>rawInt f)) oT):=by rw[<- Zj];exact Č _ Yb (Ĺ (ě Y _))
  have Zl:∀b o,B.get? b=À o->b≠T:=λb o q z=>by rw[z,TJ]at q;cases q
  have Vk:∀b o,(B.hide C).get? b=À o->h7.get? b=À o:=λb o q=>by
   have V:=abX q;have nC:b≠C:=λz=>by rw[z,Heap.hide_self]at q;cases q
   rw[yq b (Zl b o V) nC];exact k1 b o V
  have hide:∀b o,b≠C->B.get? b=À o->(B.hide C).get? b=À o:=λb o z q=>(Heap.hide_ne B z).trans q;have U:∀b o,R.heap.get? b=À o->b≠C:=λb o q=>by rw[hC];exact ã (Ù q)
  have T5:lR X.prog X.w H' (B.hide C):=z8 hok λb o n q=>hide b o (λz=>n (by rw[z];exact I.free)) q;have TV:∀b,b∉frs X.stack->b∉X.fs:=λb hb z=>hb (by
   rcases t.ok.stk with q|⟨q,_⟩
   ·rw[q];exact z
   ·rw[q];unfold frs;rw[Ğ];split
    ·exact z
    ·exact ò _ z)
  have O:∀b o,R.heap.get? b=À o->b∈frs X.stack->∃sl,h7.get? b=À {o with slots:=sl}:=λb o q hb=>by obtain⟨_,F,V,hnf⟩:=t.stack.mem hb;rw[q]at V;cases V;obtain⟨sl,e1⟩:=I.base.slot b o q (t.oQ b hb) hb λz=>(I.ok.EB b z) hb;obtain⟨KN,e2⟩:=u5 b _ e1 hnf;refine⟨KN,?_⟩;rw[yq b (λz=>by rw[z,hT]at e2;cases e2;exact hnf _ Y) (U b o q)];exact e2
  have un:Un (frs X.stack) fp HD H' R.heap h7:=⟨λb o q n hb k=>Vk b o (hide b o (U b o q) (Z.keep b o q n hb k)),λb o q n hb k=>O b o q hb,λb o q n k=>I.base.free b o q n k,λb o q k=>by
   by_cases hb:b∈frs X.stack
   ·obtain⟨sl,z⟩:=O b o q hb;exact⟨_,z⟩
   ·obtain⟨F,z⟩:=Z.there b o q hb k;exact⟨F,Vk b F (hide b F (U b o q) z)⟩,I.base.tups,I.base.lS,I.base.nQ⟩
  have I7:Inv X pins σ H' {s' with heap:=h7}:=t.Gz (ch:=fp) I.os un (T5.kept Vk) I.bare λb hb=>by obtain⟨g0,g1,g2,g3,g4,g5⟩:=(f3 b hb).1;exact⟨g3,g1,g4,g5⟩
  have Yd:∀b o,X.s₀.heap.get? b=À o->b∉X.ex->b∉fp:=λb o q k hb=>by
   obtain⟨g0,g1,g2,g3,g4,g5⟩:=(f3 b hb).1;rcases g3 with z|z
   ·exact k z
   ·exact absurd (Õ (Ù q) z) (ģ _)
  refine Qj pins σ H' _ e J c I7 ⟨B.hide C,⟨Vk,?_,?_,.inr ⟨a0,_,oe,vs,T,_,_,?_,hcls,hd,M,?_,R3,Zk,ě Y _,by simp[Yc];rfl⟩,Zf.imp λod z=>⟨(yq e (õ R3) (KL he hd)).trans z.1,z.2⟩⟩,T5,⟨λb o q n hb k=>?_,λb o q hb k=>?_,λp hp=>?_⟩⟩ hc ee
  ·cases q:(B.hide C).get? e with
   |none=>rfl
   |some o=>have:=abX q;rw[k2]at this;cases this
  ·refine rA X7 (λb hb o q hnf=>?_) λb hb=>?_
   ·refine⟨o,?_,rfl⟩;show h7.get? b=À o;rw[yq b (λz=>by rw[z,hT]at q;cases q;exact hnf _ Y) ?_]
    ·exact q
    ·obtain⟨_,F,V,_⟩:=t.stack.mem hb;exact U b F V
   ·cases q:(B.hide C).get? b with
    |none=>rfl
    |some o=>have:=abX q;rw[(X7.mem hb).1]at this;cases this
  ·exact(yq e (õ R3) (KL he hd)).trans he
  ·cases q:(B.hide C).get? T with
   |none=>rfl
   |some o=>have:=abX q;rw[TJ]at this;cases this
  ·have q3:=t.base.keep b o q n (TV b hb) k;exact hide b o (U b o q3) (Z.keep b o q3 (t.base.free b o q n k) hb (Yd b o q k))
  ·obtain⟨F,q3⟩:=t.base.there b o q k;obtain⟨Ye,z⟩:=Z.there b F q3 hb (Yd b o q k);exact⟨Ye,hide b Ye (U b F q3) z⟩
  ·exact hide _ _ (U _ _ (t.pin p (Ě _ hp)).1) (Z.pins p (Ě _ hp))
 first
  |(refine Ã (Ó ?_);refine Ã (Ã (ù Wv hd M ?_)))
  |refine Ã (Ã (ù Wv hd M ?_))
 rw[Α (show(Value.ref T != Value.none)=Ä by simp)];exact ő Yb Y Yc (ac6 fin)
theorem tQ{Q:VK}{J:It}{it:Addr}{tn:Nat->Heap->Prop}{RR:Æ->Addr->Result->Ì->Prop}(Qj:fY X EE)(hst:∃iD gX L,X.stack=iD::gX/\X.env.frame=iD.frame/\iD.frame=À L)(S:bB X.env.scope X.N scope xs ks)(how:Own X scope xs ks tg ow)(hc:X.calm=Ä)(I:Inv X pins σ H s)
  (T:Turn X.prog X.w X.K tg J fp it tn) (st:tn 0 s.heap) (hf:∀b∈fp,nR X pins H b)
  (hb:∀(cl:List (Str×Addr))(C:Addr)(pins:N0)(s0:Ì)(H0:Hp)(fp:Q1)(E:Æ->Ì->Prop),fY (pC X scope cl xs C pins s0 H0 fp E) (λc _ H'=>EE c σ H')->CT (pC X scope cl xs C pins s0 H0 fp E) ifs tt/\PE (pC X scope cl xs C pins s0 H0 fp E) elt te)
  (hw:∀D,H D=Å->∃W:Nat->Nat->Hp->Prop,(∃m,W 0 m (upd H D (.lst [])))/\∀i m H,W i m H ->
   (J.stop i H/\Q (.ref D) H)\/(J.go i H/\∀x H',J.vZ i H x H'->∃vs,ow x H' vs/\tt (vs.map À++mask ks σ) H' λb H2=>if b=Ä then te (vs.map À++mask ks σ) H2 λv H3=>∃ys,H3 D=À (.lst ys)/\ys.length<Ç/\∃O,O<m/\W (i+1) O (upd H3 D (.lst (ys++[v]))) else ∃O,O<m/\W (i+1) O H2))
  (hRR:∀(D C:Addr)(t:Ì)(H':Hp)(m:Str->Option Æ),Inv X pins σ H' t->t.heap.Ns C m->H' C=Å->C≠X.env.locals->X.s₀.heap.objs.size<=C->(∀x c,X.env.cells.lookup x=À c->c≠C)->(∀p∈X.pn++pins,p.1≠C)->Q (.ref D) H'->RR (.ref D) C (.ok .next) t)
  (Wu:∀(Z:Æ)(C e:Addr)(s'':Ì),(∃m,s''.heap.Ns C m/\∀h',Ř C s''.heap h'->∀cenv:Env,cenv.locals=C->à (model X.prog X.w) X.A (passOn "comprehension.variables-let-go" (.ref e) cenv:Sem Æ) (λ_ _=>False) X.xe {s'' with heap:=h'})->RR Z C (.error (.ref e)) s''):
  à (model X.prog X.w) X.A (newList []) (λZ s₃=>à (model X.prog X.w) X.A (newFunctionEnv scope X.env.globals (gW X.env scope.names []) [] X.env.qual Å .none (À X.env)) (λcenv s₄=>
   codeAny (model X.prog X.w) X.A (.compStart (.ListComp elt [⟨tg,iter,ifs,0⟩] scope pos) 0 (.ref it) Z {cenv with scope:=relabel scope X.env}) (RR Z cenv.locals) s₄) E s₃) E s:=by
 refine þ (wpAny_newFunctionEnv S.HF (by intro y hy;simp at hy) (λh₁ T6 T7=>?_) S.kind)
 have I3:Inv X pins σ (upd H s.heap.objs.size (.lst [])) {s with heap:=s.heap.push {cls:=.type "list",dict:=Å,data:=.seq ([]:List Æ).toArray}}:=
  I.laid (t':=s.toks) (λb o e=>Ï _ e) (È _) ⟨é _,[],0,.nil,Ø _ rfl⟩
 have hfree:=I.hok.fresh (È s.heap.objs.size);generalize Yg:({s with heap:=s.heap.push {cls:=.type "list",dict:=Å,data:=.seq ([]:List Æ).toArray}}:Ì)=s3 at I3 T6 T7 |-;have hsz:s3.heap.objs.size=s.heap.objs.size+1:=by rw[<- Yg];exact Ĝ ..
 have T8:∀b o,s.heap.get? b=À o->s3.heap.get? b=À o:=λb o e=>by rw[<- Yg];exact Ï _ e
 have T9:∀b∈fp,b<s.heap.objs.size:=λb k=>by obtain⟨o,e,_⟩:=T.obj 0 _ st b k;exact Ù e
 have f3:∀b∈fp,nR X pins (upd H s.heap.objs.size (.lst [])) b/\b<s3.heap.objs.size:=λb k=>
  ⟨⟨by rw[aK (ã (T9 b k))];exact(hf b k).1,(hf b k).2⟩,by rw[hsz];exact aas (T9 b k)⟩
 have HK:∀b o,s3.heap.get? b=À o->h₁.get? b=À o:=λb o e=>T7.extBut b o (ã (Ù e)) (Ï _ e);obtain⟨W,⟨m0,w0⟩,turn⟩:=hw s.heap.objs.size hfree;generalize M:pC X scope (gW X.env scope.names []) xs s3.heap.objs.size pins s3 (upd H s.heap.objs.size (.lst [])) fp (notedBy (model X.prog X.w) X.A (compEnvC scope (gW X.env scope.names []) s3.heap.objs.size X.env) λe t=>RR (.ref s.heap.objs.size) s3.heap.objs.size (.error e) t)=F;have I4:Inv F [] (Ô xs.length Å++mask ks σ) (upd H s.heap.objs.size (.lst [])) {s3 with heap:=h₁,toks:=s3.toks+([]:List (Str×Æ)).length}:=by rw[<- M];exact B6 S I3 f3 ‹T6› HK _
 have Ks:CT F ifs tt/\PE F elt te:=by rw[<- M];exact hb _ _ _ _ _ _ _ λfH σ' H' t e cls c R fx hc ee=>B7 (RE:=λe t=>RR (.ref s.heap.objs.size) s3.heap.objs.size (.error e) t) (D:=s.heap.objs.size) Qj hst I3 rfl f3 (λs''=>Wu _ _ e s'') R fx hc ee
 have Ad:F.prog=X.prog:=by rw[<- M];rfl
 have ew:F.w=X.w:=by rw[<- M];rfl
 have eK:F.K=X.K:=by rw[<- M];rfl
 have eA:F.A=X.A:=by rw[<- M];rfl
 have NH:F.calm=Ä:=by rw[<- M];exact hc
 have Ww:F.xe=notedBy (model X.prog X.w) X.A F.env λe t=>RR (.ref s.heap.objs.size) s3.heap.objs.size (.error e) t:=by rw[<- M];rfl
 have Ql:F.env=compEnvC scope (gW X.env scope.names []) s3.heap.objs.size X.env:=by rw[<- M];rfl
 have Zm:F.stack=X.stack:=by rw[<- M];rfl
 have Wx:∀{H':Hp},(∀b∈fp,H' b=Å)->∀b∈fp,nR F [] H' b:=λ{H'} hn b k=>by obtain⟨g0,g1,g2,g3,g4,g5⟩:=(f3 b k).1;rw[<- M];refine⟨hn b k,ã (f3 b k).2,λz=>(Þ.mp (I3.kF b z)).elim g1 g2,.inl k,λy c e=>g4 y c (tN scope.names [] (λy c e=>by simp at e) y c e),λp hp=>g5 p ?_⟩;have:p∈(X.pn++pins)++[]:=hp;z_go
 have fin:∀(t:Ì)(H':Hp)(a0:List (Option V)),Inv F [] (a0++mask ks σ) H' t->Q (.ref s.heap.objs.size) H'->RR (.ref s.heap.objs.size) s3.heap.objs.size (.ok .next) t:=λt H' a0 R q=>by
  have hloc:=R.loc;obtain⟨m,hm,_⟩:=hloc;have hC:H' s3.heap.objs.size=Å:=by have:=R.free;rw[Ql]at this;exact this
  have hU:Un (frs X.stack) fp (upd H s.heap.objs.size (.lst [])) H' s3.heap t.heap:=by have:=R.base;rw[<- M]at this;exact this
  have hos:t.os=s3.os/\0<t.toks:=by have:=R.os;rw[<- M]at this;exact this
  have Wy:lR X.prog X.w H' t.heap:=by have:=R.hok;rw[<- M]at this;exact this
  have I5:Inv X pins σ H' t:=I3.Gz hos hU Wy R.bare λb k=>by obtain⟨g0,g1,g2,g3,g4,g5⟩:=(f3 b k).1;exact⟨g3,g1,g4,g5⟩
  refine hRR _ _ t H' m I5 (by rw[Ql]at hm;exact hm) hC (abb I3.lt) (ú I3.sz (È _)) (λy c e z=>?_) (λp hp z=>?_) q
  ·obtain⟨v,hv⟩:=I3.cell y c e;exact absurd hv.lt (by rw[z];exact ģ _)
  ·exact absurd (Ù (I3.pin p hp).1) (by rw[z];exact ģ _)
 have U:codeAny (model X.prog X.w) X.A (.compLoop (.ListComp elt [⟨tg,iter,ifs,0⟩] scope pos) 0 (.ref it) (.ref s.heap.objs.size) F.env) (RR (.ref s.heap.objs.size) s3.heap.objs.size)
   {s3 with heap:=h₁,toks:=s3.toks+([]:List (Str×Æ)).length}:=by
  refine yt (λn t=>∃i a0 H',a0.length=xs.length/\Inv F [] (a0++mask ks σ) H' t/\tn i t.heap/\(∀b∈fp,H' b=Å)/\W i n H') ?_ m0 ⟨0,Ô xs.length Å,_,by simp,I4,T.keep 0 _ _ st λb k o e=>HK b o (T8 b o e),λb k=>(f3 b k).1.1,w0⟩;rintro n s5 ⟨i,a0,H5,Zn,I5,RU,Ve,w5⟩;rcases turn i n H5 w5 with⟨stop,q⟩|⟨go,Y⟩
  ·have hd:=T.done F Ad ew eK NH i [] s5 _ H5 (λ_ _=>False) I5 (Wx Ve) RU stop;rw[eA]at hd;refine ÿ hd (λr s6 hr=>?_) (λ_ _ z=>Į z);obtain⟨rfl,I6⟩:=hr;exact fin s6 H5 a0 I6 q
  ·have hd:=T.item F Ad ew eK NH i [] s5 _ H5 (λ_ _=>False) I5 (Wx Ve) RU go;rw[eA]at hd;refine ÿ hd (λr s6 hr=>?_) (λ_ _ z=>Į z);obtain⟨u,rfl,h6⟩:=hr;refine ÿ h6 (λ_ s7 hq=>?_) (λ_ _ z=>Į z);obtain⟨v,H7,I7,r7,y7,Wz,Zo⟩:=hq;obtain⟨vs,hvs,Y⟩:=Y v H7 y7;have Zp:Inv F (qA fp s7.heap) (a0++mask ks σ) H7 s7:=by have:=Inv.pinned (pins:=[]) I7 (Wx Zo) (T.obj _ _ Wz);simpa using this
   have back:∀{σ':L2.St}{H':Hp}{t:Ì},Inv F (qA fp s7.heap) σ' H' t->Inv F [] σ' H' t/\tn (i+1) t.heap/\∀b∈fp,H' b=Å:=λ{σ' H' t} R=>by refine⟨R.x9 λp hp=>absurd hp (by simp),T.keep _ _ _ Wz λb k o e=>(R.pin (b,o) (ċ _ (kH k e))).1,λb k=>?_⟩;obtain⟨o,e,d⟩:=T.obj _ _ Wz b k;exact(R.pin (b,o) (ċ _ (kH k e))).2.1
   refine how _ _ _ _ _ _ _ F σ a0 v vs u H7 s7 _ _ _ M.symm Zn Zp r7 hvs λVl s8 Zq=>?_;have ht:=Ks.1 _ s8 _ H7 _ Zq Y;rw[Ad,ew,eA,Ww]at ht;refine ÿ ht (λZr s9 h9=>?_) (λ_ _ z=>z);obtain⟨H9,I9,q9⟩:=h9;cases Zr with
   |false=>rw[Β ï]at q9 |-;obtain⟨O,hm',w'⟩:=q9;obtain⟨Zs,Zt,Zu⟩:=back I9;exact⟨O,hm',i+1,vs.map À,H9,‹Vl›,Zs,Zt,Zu,w'⟩
   |true=>rw[Α rfl]at q9 |-;have he:=Ks.2 _ s9 _ H9 _ I9 q9;rw[Ad,ew,eA,Ww]at he;refine ÿ he (λy Zv WA=>?_) (λ_ _ z=>z);obtain⟨yv,Zw,Zx,Zy,ys,hD,hlen,O,hm',w'⟩:=WA;have ha:=wk (X:=F) _ Zv _ Zw (.ref s.heap.objs.size) [yv] (.ref s.heap.objs.size) [y] (λ_ H'=>∃O,O<n/\W (i+1) O H') Zx rfl (.cons Zy .nil) ⟨_,ys,yv,rfl,rfl,hD,hlen,O,hm',w'⟩;rw[Ad,ew,eA,Ww]at ha;refine ÿ ha (λ_ s11 h11=>?_) (λ_ _ z=>z);obtain⟨_,Zz,ZA,_,ZC,WB,w''⟩:=h11;obtain⟨WC,WD,WE⟩:=back ZA;exact⟨ZC,WB,i+1,vs.map À,Zz,‹Vl›,WC,WD,WE,w''⟩
 rw[Ql]at U;exact codeAny_compStart_list U (T.self X.A 0 _ _ _ (T.keep 0 _ _ st λb k o e=>HK b o (T8 b o e)) U)
theorem yu{tt:L2.St->TT}{te:L2.St->TE}(Qj:fY X EE)(U:∃F gX L,X.stack=F::gX/\X.env.frame=F.frame/\F.frame=À L)(S:bB X.env.scope X.N scope xs ks)(O:Own X scope xs ks tg ow)(Y:X.calm=Ä)(hi:PI X tg iter wi)
  (M:∀(σ:L2.St)(cl:List (Str×Addr))(C:Addr)(pins:N0)(s0:Ì)(H0:Hp)(fp:Q1)(E:Æ->Ì->Prop),fY (pC X scope cl xs C pins s0 H0 fp E) (λc _ H'=>EE c σ H')->CT (pC X scope cl xs C pins s0 H0 fp E) ifs (tt σ)/\PE (pC X scope cl xs C pins s0 H0 fp E) elt (te σ))
  (hs:∀x,foldedSetIterable iter X.env x=pure x:=by intro _;rfl):PE X (.ListComp elt [⟨tg,iter,ifs,0⟩] scope pos) (λσ=>Ac wi ks ow (tt σ) (te σ) σ):=by
 kt_k;rw[eval_ListComp];refine abD (use:=Å) rfl hs (nI λy hy d=>I.ok.has y.1 (S.free y hy d)) S.kind S.names (d7 (hi pins s σ H _ I h) λv s1 V=>d7 V λitv s2 R=>?_);obtain⟨it,fp,tn,J,H2,rfl,I2,T,t,f2,q⟩:=R;refine tQ (RR:=λk C=>compPost (model X.prog X.w) X.A X.xe Å (EP X pins σ Q) k C) Qj U S O Y I2 T t f2 (M σ) q ?_ (λ_ _ _ _ z=>z);intro D C Z H' m I' hn hC V R h3 h4 q';refine⟨m,hn,λh' sb=>?_⟩;exact⟨.ref D,H',I'.turned (t':=Z.toks) (λb o M e=>(sb.2 b M).trans e) hC V (.inr R) h3 h4,rfl,q'⟩
theorem yw{tt:L2.St->TT}{te:L2.St->TE}(Qj:fY X EE)(hst:∃U gX L,X.stack=U::gX/\X.env.frame=U.frame/\U.frame=À L){y:Str}{i:Nat}{F k:Pos}(S:bB X.env.scope X.N scope xs ks)(Z:Own X scope xs ks tg ow)(hc:X.calm=Ä)(hN:X.N.Nodup)(hi:PI X tg iter wi)(V:X.N[i]?=À y)(hl:X.env.scope.names.lookup y=À .local)
  (O:swapsWith (.ListComp elt [⟨tg,iter,ifs,0⟩] scope pos) (À (.Name y F)) k.line X.env=pure Ä)
  (hb:∀(d:L2.St)(cl:List (Str×Addr))(C:Addr)(pins:N0)(s0:Ì)(H0:Hp)(fp:Q1)(E:Æ->Ì->Prop),fY (pC X scope cl xs C pins s0 H0 fp E) (λc _ H'=>EE c d H')->CT (pC X scope cl xs C pins s0 H0 fp E) ifs (tt d)/\PE (pC X scope cl xs C pins s0 H0 fp E) elt (te d))
  (hs:∀x,foldedSetIterable iter X.env x=pure x:=by intro _;rfl):PS X (.Assign [.Name y F] (.ListComp elt [⟨tg,iter,ifs,0⟩] scope pos) k) (KU (λd=>Ac wi ks ow (tt d) (te d) d) (vY i)):=by
 intro pins s d H Dd I h;rw[exec_Assign_Name_used _ _ _ _ O];refine Ã (acz (Ã ?_));show à _ X.A (do let _ <- comprehension (.ListComp elt [⟨tg,iter,ifs,0⟩] scope pos) scope X.env _ (newList []) Â (eval iter X.env) (À (assign (.Name y F) X.env))) _ _ s
 refine Ã (ÿ (abD (use:=À (assign (.Name y F) X.env)) (Q:=λ_ t=>SP X pins Dd .next t) rfl hs (nI λy V hfr=>I.ok.has y.1 (S.free y V hfr)) S.kind S.names
  (d7 (hi pins s d H _ I h) λv s1 M=>d7 M λitv s2 h2=>?_)) (λ_ t hq=>Ó (Ó hq)) λ_ _ e=>e)
 obtain⟨it,fp,tn,J,H2,rfl,I2,T,st2,f2,q⟩:=h2;refine tQ (Q:=λv H'=>Dd.nx (d.set i (À v)) H') (RR:=λR C=>compPost (model X.prog X.w) X.A X.xe (À (assign (.Name y F) X.env)) (λ_ t=>SP X pins Dd .next t) R C) Qj hst S Z hc I2 T st2 f2 (hb d) q ?_ (λ_ _ _ _ z=>z);intro D C t H' m I' hn hC M h2 h3 h4 q';show à _ X.A (assign (.Name y F) X.env (.ref D)) _ _ t;refine abv (vX I' hN V (.inl hl) (v:=.ref D) (u:=.ref D) rfl (λs'' ZD Y=>?_) (.inr hl));obtain⟨a,Y,ha⟩:=Y;have hne:C≠a:=by
  rcases ha with e|e
  ·rw[e];exact M
  ·exact λz=>h3 y a e z.symm
 refine⟨m,hn.sameBut Y hne,λh'' sb'=>?_⟩;exact⟨_,H',ZD.turned (t':=s''.toks) (λb o hb e=>(sb'.2 b hb).trans e) hC M (.inr h2) h3 h4,q'⟩
end
def oN:D->Option X2:=λd=>À [d]
def oT(n:Nat):D->Option X2
 |.tup xs=>if xs.length=n then À xs else Å
 |_=>Å
def jM(K:Ë)(t:Str->Option Æ)(F:V->Hp->X1->Prop)(gO:D->Option X2):Prop:=
 ∀(ρ:Q1)(H:Hp)(d:D)(v:V)(k:X2),Rep K t ρ H d v->gO d=À k->∃vs,F v H vs/\aq K t ρ H k vs
theorem Fc:jM K mg TY oN:=λρ H d v k r e=>by cases e;exact⟨[v],rfl,.cons r .nil⟩
theorem HL:jM K mg (TZ K n) (oT n):=λρ H d v D r e=>by
 cases d<;>try (cases e;done)
 rename_i xs;dsimp only[oT]at e;by_cases h:xs.length=n
 ·rw[Α h]at e;k_ne;unfold Rep at r;obtain⟨a,vs,rfl,t,k⟩:=r;exact⟨vs,⟨a,rfl,t,by rw[<- k.length];exact h⟩,k⟩
 ·rw[Β h]at e;k_ne
def Ae(K:Ë)(d:Str->Option Æ)(H H':Hp)(ρ:Q1):Prop:=cK K H H' ρ ρ/\∀G,gc K d H ρ G->gc K d H' ρ G
theorem Ae.refl:Ae K mg H H ρ:=⟨.refl,λ_ h=>h⟩
theorem Ae.new{p:Addr}{o:HO}(d:H p=Å):Ae K mg H (upd H p o) ρ:=⟨di d ρ,λ_ h=>h.new d⟩
def cG(gO:D->Option X2)(ks:L9)(tt:DS->M Bool)(te:Y2)(n:Nat)(d:D)(τ:DS)(G:DH):Out Unit:=match gO d with
 |none=>.stuck
 |some F=>match tt (F.map À++mask ks τ) G with
 |.ok Ä k=>match te (F.map À++mask ks τ) k with
  |.ok v t=>match t[n]? with
   |some (.lst ys)=>if ys.length<Ç then .ok () (t.set n (.lst (ys++[v]))) else .stuck
   |_=>.stuck
  |.bR c t=>.bR c t
  |.stuck=>.stuck
 |.ok Â k=>.ok () k
 |.bR c k=>.bR c k
 |.stuck=>.stuck
def cC(gO:D->Option X2)(ks:L9)(tt:DS->M Bool)(te:Y2)(n:Nat):X2->DS->DH->Out D
 |[],_,G=>.ok (.obj n) G
 |d::r,τ,G=>match cG gO ks tt te n d τ G with
  |.ok _ G'=>cC gO ks tt te n r τ G'
  |.bR c G'=>.bR c G'
  |.stuck=>.stuck
def nJ(gO:D->Option X2)(ks:L9)(tt:DS->M Bool)(te:Y2)(n src:Nat):Nat->Nat->DS->DH->Out D
 |0,_,_,_=>.stuck
 |f+1,k,τ,G=>match G[src]? with
  |some (.lst xs)=>match xs[k]? with
   |none=>.ok (.obj n) G
   |some d=>match cG gO ks tt te n d τ G with
    |.ok _ G'=>nJ gO ks tt te n src f (k+1) τ G'
    |.bR c G'=>.bR c G'
    |.stuck=>.stuck
  |_=>.stuck
def dD(gO:D->Option X2)(ks:L9)(m:Y2)(tt:DS->M Bool)(te:Y2):Y2:=λτ=>(m τ).bind λd G=>match d with
 |.obj k=>match G[k]? with
  |some (.lst xs)=>nJ gO ks tt te G.length k (xs.length+1) 0 τ (G++[.lst []])
  |_=>.stuck
 |.tup xs=>cC gO ks tt te G.length xs τ (G++[.lst []])
 |.con xs=>cC gO ks tt te G.length xs τ (G++[.lst []])
 |.str z=>cC gO ks tt te G.length (z.cps.toList.map λc=>.str ⟨#[c]⟩) τ (G++[.lst []])
 |_=>.stuck
def cT(d:X2->Option X2)(gO:D->Option X2)(ks:L9)(m:DS->M X2)(tt:DS->M Bool)(te:Y2):Y2:=λτ=>(m τ).bind λds G=>match d ds with
 |some xs=>cC gO ks tt te G.length xs τ (G++[.lst []])
 |none=>.stuck
section
variable{ow:V->Hp->X1->Prop}{xs:P3}
theorem Fd(h:vC K mg H ρ σ τ)(r:aq K mg ρ H os vs):vC K mg H ρ (vs.map À++mask ks σ) (os.map À++mask ks τ):=by
 have D:=r.length;refine⟨by simp[jC,h.1,D],λi e he=>?_⟩;by_cases J:i<os.length
 ·rw[Î ‹J›,Ö]at he;cases q:os[i]? with
  |none=>rw[q]at he;cases he
  |some d=>rw[q]at he;cases he;obtain⟨v,t,k⟩:=r.get q;exact⟨v,by rw[Î (by simp;lia),Ö,t];rfl,k⟩
 ·rw[Ò (by simp;lia)]at he;obtain⟨F,I⟩:=lZ he;obtain⟨w,t,k⟩:=h.2 _ e I;refine⟨w,?_,k⟩;rw[Ò (by simp;lia)];have:=DE F t;simpa[D]using this
def qu(EE:bV)(d:L2.St):bV:=λc _ H'=>EE c d H'
theorem qE(hO:jM X.K X.mg ow gO){W:Hp->Prop}{n:Nat}{p:Addr}{F:L2.St}{H:Hp}{τ:DS}{ρ:Q1}{G:DH}{d:D}{v:V}(ab:Ab X.K X.mg F H τ ρ G)(r:Rep X.K X.mg ρ H d v)(Y:ρ[n]?=À p)
  (k:match cG gO ks tt te n d τ G with
   |.stuck=>False
   |.ok _ G'=>∀H' ρ',cK X.K H H' ρ ρ'->Ab X.K X.mg F H' τ ρ' G'->W H'
   |.bR c G'=>∀H' ρ',cK X.K H H' ρ ρ'->Ab X.K X.mg F H' τ ρ' G'->EE c F H'):
  ∃vs,ow v H vs/\liftT X.K X.mg (qu EE F) tt (vs.map À++mask ks F) H λb J=>if b=Ä then cL X.K X.mg (qu EE F) te (vs.map À++mask ks F) J λu U=>∃ys,U p=À (.lst ys)/\ys.length<Ç/\W (upd U p (.lst (ys++[u]))) else W J:=by
 unfold cG at k;cases qo:gO d with
 |none=>rw[qo]at k;exact k.elim
 |some os=>
 rw[qo]at k;dsimp only at k;obtain⟨us,zG,ZE⟩:=hO ρ H d v os r qo;refine⟨us,zG,?_⟩;refine⟨_,ρ,G,⟨Fd ab.st ZE,ab.hp⟩,?_⟩;cases q:tt (os.map À++mask ks τ) G with
 |stuck=>rw[q]at k;exact k
 |bR c G1=>rw[q]at k;exact λH' ρ' f O=>k H' ρ' f ⟨ab.st.mono f,O.hp⟩
 |ok b G1=>
  rw[q]at k;intro H1 L I ir;cases b with
  |false=>rw[Β ï];exact k H1 L I ⟨ab.st.mono I,ir.hp⟩
  |true=>
   rw[Α rfl];dsimp only at k;refine⟨_,L,G1,ir,?_⟩;cases q2:te (os.map À++mask ks τ) G1 with
   |stuck=>rw[q2]at k;exact k
   |bR c G2=>rw[q2]at k;exact λH' ρ' f O=>k H' ρ' (I.trans f) ⟨ab.st.mono (I.trans f),O.hp⟩
   |ok u G2=>
    rw[q2]at k;dsimp only at k;intro w J t f2 cz r2;cases q3:G2[n]? with
    |none=>rw[q3]at k;exact k.elim
    |some o=>
     cases o with
     |lst ys=>
      rw[q3]at k;dsimp only at k;by_cases R:ys.length<Ç
      ·rw[Α R]at k;dsimp only at k;obtain⟨p',vs,e1,S,T⟩:=cz.hp.lst q3;have M:=I.trans f2;rw[M.get Y]at e1;cases e1;refine⟨vs,S,by rw[<- T.length];exact R,?_⟩;have Z:cK X.K J (upd J p (.lst (vs++[w]))) t t:=sE S t;exact k _ t (M.trans Z) ⟨ab.st.mono (M.trans Z),cz.hp.put (ds:=ys) (M.get Y) S (T.append (.cons r2 .nil))⟩
      ·rw[Β R]at k;exact k.elim
     |_=>first|(rw[q]at ok;exact ok.elim)|(rw[q]at aS;exact aS.elim)|(rw[q3]at k;exact k.elim)|(rw[q]at e;cases e;done)|(rw[g]at ok;exact ok.elim)|(rw[g]at q;cases q;done)|(rw[g]at h;cases h;done)|exact ok.elim
theorem kQ(hO:jM X.K X.mg ow gO){Q:VK}{J:It}{H0:Hp}{t:L2.St}{k:Q1}{G0:DH}{τ:DS}(ds:X2)
  (go:∀i H ρ,i<ds.length->cK X.K H0 H k ρ->J.go i H) (M:∀i H ρ,ds.length<=i->cK X.K H0 H k ρ->J.stop i H)
  (vZ:∀i d H ρ x H',ds[i]?=À d->cK X.K H0 H k ρ->J.vZ i H x H'->Ae X.K X.mg H H' ρ/\Rep X.K X.mg ρ H' d x)
  (ab:Ab X.K X.mg t H0 τ k G0) (ok:kI X.K X.mg EE H0 t τ k (cC gO ks tt te G0.length ds τ (G0++[.lst []])) Q):
  ∀D,H0 D=Å->∃W:Nat->Nat->Hp->Prop,(∃m,W 0 m (upd H0 D (.lst [])))/\∀i m H,W i m H ->
   (J.stop i H/\Q (.ref D) H)\/(J.go i H/\∀x H',J.vZ i H x H'->∃vs,ow x H' vs/\liftT X.K X.mg (qu EE t) tt (vs.map À++mask ks t) H' λb Y=>if b=Ä then cL X.K X.mg (qu EE t) te (vs.map À++mask ks t) Y λv L=>∃ys,L D=À (.lst ys)/\ys.length<Ç/\∃I,I<m/\W (i+1) I (upd L D (.lst (ys++[v]))) else ∃I,I<m/\W (i+1) I Y):=by
 intro D Z;have S:cK X.K H0 (upd H0 D (.lst [])) k (k++[D]):=(di Z k).trans (cZ k D);have LI:Ab X.K X.mg t (upd H0 D (.lst [])) τ (k++[D]) (G0++[.lst []]):=ab.fut S (ab.hp.more Z .nil);have U:(k++[D])[G0.length]?=À D:=by rw[<- ab.hp.hl,aF]
 refine⟨λi m H=>i<=ds.length/\m=ds.length-i/\∃ρ G,Ab X.K X.mg t H τ ρ G/\cK X.K H0 H k ρ/\ρ[G0.length]?=À D/\kI X.K X.mg EE H t τ ρ (cC gO ks tt te G0.length (ds.drop i) τ G) Q,
  ⟨ds.length,é _,rfl,k++[D],_,LI,S,U,by simpa using ok.fut S⟩,?_⟩
 rintro i m H ⟨hi,rfl,ρ,G,ab,f,O,ok⟩;by_cases F:i<ds.length
 ·refine .inr ⟨go i H ρ F f,λx H' y=>?_⟩;obtain⟨⟨T,hN⟩,rx⟩:=vZ i ds[i] H ρ x H' (Ê F) f y
  replace ok:=kI.fut T ok
  replace ab:Ab X.K X.mg t H' τ ρ G:=ab.fut T (hN _ ab.hp)
  replace f:=f.trans T
  rw[ĸ F]at ok;unfold cC at ok
  refine qE hO (W:=λL=>∃I,I<ds.length-i/\i+1<=ds.length/\I=ds.length-(i+1)/\∃ρ G,Ab X.K X.mg t L τ ρ G/\cK X.K H0 L k ρ/\ρ[G0.length]?=À D/\kI X.K X.mg EE L t τ ρ (cC gO ks tt te G0.length (ds.drop (i+1)) τ G) Q)
    ab rx O ?_
  cases e:cG gO ks tt te G0.length ds[i] τ G with
  |stuck=>left
  |bR c G'=>left
  |ok _ G'=>k_in;exact λL V R oM=>⟨ds.length-(i+1),∅,F,rfl,V,G',oM,f.trans R,R.get O,ok.fut R⟩
 ·have e:i=ds.length:=∅
  x_go;refine .inl ⟨M _ H ρ (È _) f,?_⟩;rw[ŋ (È _)]at ok;exact ok _ H ρ .refl ab (by unfold Rep;exact⟨D,rfl,O⟩)
theorem HM(hO:jM X.K X.mg ow gO){Q:VK}{H0:Hp}{F:L2.St}{t:Q1}{G0:DH}{τ:DS}{k fuel:Nat}{p:Addr}(hk:t[k]?=À p)
  (ab:Ab X.K X.mg F H0 τ t G0) (ok:kI X.K X.mg EE H0 F τ t (nJ gO ks tt te G0.length k fuel 0 τ (G0++[.lst []])) Q):
  ∀D,H0 D=Å->∃W:Nat->Nat->Hp->Prop,(∃m,W 0 m (upd H0 D (.lst [])))/\∀i m H,W i m H ->
   ((Kv X.K p).stop i H/\Q (.ref D) H)\/((Kv X.K p).go i H/\∀x H',(Kv X.K p).vZ i H x H'->∃vs,ow x H' vs/\liftT X.K X.mg (qu EE F) tt (vs.map À++mask ks F) H' λb Y=>if b=Ä then cL X.K X.mg (qu EE F) te (vs.map À++mask ks F) Y λv J=>∃ys,J D=À (.lst ys)/\ys.length<Ç/\∃I,I<m/\W (i+1) I (upd J D (.lst (ys++[v]))) else ∃I,I<m/\W (i+1) I Y):=by
 intro D Z;have O:cK X.K H0 (upd H0 D (.lst [])) t (t++[D]):=(di Z t).trans (cZ t D);have LI:Ab X.K X.mg F (upd H0 D (.lst [])) τ (t++[D]) (G0++[.lst []]):=ab.fut O (ab.hp.more Z .nil);have R:(t++[D])[G0.length]?=À D:=by rw[<- ab.hp.hl,aF]
 refine⟨λi m H=>∃ρ G,Ab X.K X.mg F H τ ρ G/\cK X.K H0 H t ρ/\ρ[G0.length]?=À D/\kI X.K X.mg EE H F τ ρ (nJ gO ks tt te G0.length k m i τ G) Q,
  ⟨fuel,t++[D],_,LI,O,R,ok.fut O⟩,?_⟩
 rintro i m H ⟨ρ,G,ab,f,L,ok⟩;cases m with
 |zero=>rfl'
 |succ m=>
  unfold nJ at ok;cases q:G[k]? with
  |none=>ac_nf;rfl'
  |some o=>
   cases o with
   |lst ds=>
    ac_nf;nofun;obtain⟨p',xs,e1,S,U⟩:=ab.hp.lst q;rw[f.get hk]at e1;cases e1;cases qd:ds[i]? with
    |none=>
     rw[qd]at ok;have hl:xs.length<=i:=by rw[<- U.length];exact Ą.mp qd
     exact .inl ⟨⟨xs,.of S,hl⟩,ok _ H ρ .refl ab (by unfold Rep;exact⟨D,rfl,L⟩)⟩
    |some d=>
     rw[qd]at ok;nofun;obtain⟨x0,V,rx⟩:=U.get qd;refine .inr ⟨⟨xs,x0,.of S,V⟩,λx H' y=>?_⟩;obtain⟨rfl,y⟩:=y;have e3:=y xs (.of S);rw[V]at e3;cases e3
     refine qE hO (W:=λJ=>∃I,I<m+1/\∃ρ G,Ab X.K X.mg F J τ ρ G/\cK X.K H0 J t ρ/\ρ[G0.length]?=À D/\kI X.K X.mg EE J F τ ρ (nJ gO ks tt te G0.length k I (i+1) τ G) Q)
       ab rx L ?_
     cases e:cG gO ks tt te G0.length d τ G with
     |stuck=>left
     |bR c G'=>left
     |ok _ G'=>k_in;exact λJ T M oM=>⟨m,Ŏ _,T,G',oM,f.trans M,M.get L,ok.fut M⟩
   |_=>first|(rw[q]at ok;exact ok.elim)|(rw[q]at aS;exact aS.elim)|(rw[q3]at hW;exact hW.elim)|(rw[q]at e;cases e;done)|(rw[g]at ok;exact ok.elim)|(rw[g]at q;cases q;done)|(rw[g]at h;cases h;done)|exact ok.elim
variable{elt iter a b:Expr}{ifs:U2}{m:Y2}
theorem wG(hO:jM X.K X.mg ow gO){L:L2.St}{H:Hp}{Q:VK}(h:cL X.K X.mg EE (dD gO ks m tt te) L H Q):
  Ac (λL H R=>cL X.K X.mg EE m L H λx J=>(∃p,x=.ref p/\(∃xs,kG X.K J p xs)/\R (Kv X.K p) J)\/(∃p,x=.ref p/\(∃xs,nA X.K J p xs)/\R (Vd X.K p) J)\/∃z,x=.str z/\R (Lz z) J) ks ow (liftT X.K X.mg (qu EE L) tt) (cL X.K X.mg (qu EE L) te) L H Q:=by
 obtain⟨τ,ρ,G,ab,ok⟩:=kJ (k:=λτ d G=>match d with
  |.obj k=>match G[k]? with
   |some (.lst xs)=>nJ gO ks tt te G.length k (xs.length+1) 0 τ (G++[.lst []])
   |_=>.stuck
  |.tup xs=>cC gO ks tt te G.length xs τ (G++[.lst []])
  |.con xs=>cC gO ks tt te G.length xs τ (G++[.lst []])
  |.str z=>cC gO ks tt te G.length (z.cps.toList.map λc=>.str ⟨#[c]⟩) τ (G++[.lst []])
  |_=>.stuck) h
 right;cases e:m τ G with
 |stuck=>left
 |bR c G'=>left
 |ok d G'=>
  k_in;intro v J O V ir Y;obtain⟨U,ρ2,G2,d2,cz,r2,aS⟩:=ok v J O V ir Y;cases d2<;>try exact aS.elim
  case obj n=>
   dsimp only at aS;by_in;obtain⟨p,rfl,e1⟩:=r2;cases q:G2[n]? with
   |none=>rw[q]at aS;exact aS.elim
   |some o=>
    cases o with
    |lst xs=>rw[q]at aS;obtain⟨p',vs,e2,h2,F⟩:=cz.hp.lst q;rw[e1]at e2;cases e2;exact .inl ⟨p,rfl,⟨vs,.of h2⟩,HM hO e1 cz aS⟩
    |_=>first|(rw[q]at ok;exact ok.elim)|(rw[q]at aS;exact aS.elim)|(rw[q3]at hW;exact hW.elim)|(rw[q]at e;cases e;done)|(rw[g]at ok;exact ok.elim)|(rw[g]at q;cases q;done)|(rw[g]at h;cases h;done)|exact ok.elim
  case tup xs=>
   by_in;obtain⟨p,vs,rfl,D,F⟩:=r2;refine .inr (.inl ⟨p,rfl,⟨vs,D⟩,kQ hO xs (λi H' ρ' t f=>?_) (λi H' ρ' t f=>?_) (λi d' H' ρ' x T I f y=>?_) cz aS⟩)
   ·rw[F.length]at t;exact⟨vs,vs[i],f.tup _ _ D,Ê t⟩
   ·exact⟨vs,f.tup _ _ D,by rw[<- F.length];exact t⟩
   ·obtain⟨rfl,y⟩:=y;obtain⟨Z,M,rw'⟩:=F.get I;have:=y vs (f.tup _ _ D);rw[M]at this;cases this;exact⟨.refl,rw'.mono f⟩
  case con xs=>
   by_in;obtain⟨p,vs,rfl,D,F⟩:=r2;refine .inl ⟨p,rfl,⟨vs,D.seq⟩,kQ hO xs (λi H' ρ' t f=>?_) (λi H' ρ' t f=>?_) (λi d' H' ρ' x T I f y=>?_) cz aS⟩
   ·rw[F.length]at t;exact⟨vs,vs[i],(f.con _ _ D).seq,Ê t⟩
   ·exact⟨vs,(f.con _ _ D).seq,by rw[<- F.length];exact t⟩
   ·obtain⟨rfl,y⟩:=y;obtain⟨Z,M,rw'⟩:=F.get I;have:=y vs (f.con _ _ D).seq;rw[M]at this;cases this;exact⟨.refl,rw'.mono f⟩
  case str z=>
   by_in;subst r2;refine .inr (.inr ⟨z,rfl,kQ hO (z.cps.toList.map λc=>.str ⟨#[c]⟩) (λi H' ρ' t f=>?_) (λi H' ρ' t f=>?_) (λi d' H' ρ' x T I f y=>?_) cz aS⟩)
   ·simpa[Lz]using t
   ·simpa[Lz]using t
   ·obtain⟨rfl,c,S,rfl⟩:=y;rw[Ö]at I;have:z.cps.toList[i]?=À c:=‹S›
    rw[this]at I;cases I;exact⟨.refl,by unfold Rep;rfl⟩
def kc(X:Cx)(d:Scope)(xs:P3)(t:U2)(k:Expr)(tt:DS->M Bool)(te:Y2):Prop:=
 ∀(cl:List (Str×Addr))(C:Addr)(pins:N0)(s0:Ì)(H0:Hp)(fp:Q1)(E:Æ->Ì->Prop)(EE:bV),fY (pC X d cl xs C pins s0 H0 fp E) EE->CT (pC X d cl xs C pins s0 H0 fp E) t (liftT X.K X.mg EE tt)/\QE (pC X d cl xs C pins s0 H0 fp E) EE k te
def bM:DS->M Bool:=λ_=>M.ret Ä
theorem Fe(h:∀(cl:List (Str×Addr)) (C:Addr) (pins:N0) (s0:Ì) (H0:Hp) (fp:Q1) (E:Æ->Ì->Prop) (EE:bV),fY (pC X scope cl xs C pins s0 H0 fp E) EE->QE (pC X scope cl xs C pins s0 H0 fp E) EE elt te):kc X scope xs [] elt bM te:=
 λcl C pins s0 H0 fp E EE t=>⟨λd s k H Q I zz=>by obtain⟨τ,ρ,G,ab,D⟩:=zz;exact Qh d s k H Q I (D H ρ .refl ab),h cl C pins s0 H0 fp E EE t⟩
theorem Ff(h:∀(cl:List (Str×Addr)) (C:Addr) (pins:N0) (s0:Ì) (H0:Hp) (fp:Q1) (E:Æ->Ì->Prop) (EE:bV),fY (pC X scope cl xs C pins s0 H0 fp E) EE->QT (pC X scope cl xs C pins s0 H0 fp E) EE c tt/\QE (pC X scope cl xs C pins s0 H0 fp E) EE elt te):kc X scope xs [c] elt tt te:=
 λcl C pins s0 H0 fp E EE d=>⟨Qi (h cl C pins s0 H0 fp E EE d).1,(h cl C pins s0 H0 fp E EE d).2⟩
def l8(X:Cx):Prop:=∃d k L,X.stack=d::k/\X.env.frame=d.frame/\d.frame=À L
theorem LJ(I:fY X EE)(t:l8 X)(S:bB X.env.scope X.N scope xs ks)(k:Own X scope xs ks tg ow)(F:jM X.K X.mg ow gO)(D:X.calm=Ä)(M:QE X EE iter m)(L:kc X scope xs ifs elt tt te)(J:∀x,foldedSetIterable iter X.env x=pure x:=by intro _;rfl):
  QE X EE (.ListComp elt [⟨tg,iter,ifs,0⟩] scope pos) (dD gO ks m tt te):=PE.mono (yu (tt:=λd=>liftT X.K X.mg (qu EE d) tt) (te:=λd=>cL X.K X.mg (qu EE d) te) I t S k D (PI.any M) (λd cl C pins s0 H0 fp E=>L cl C pins s0 H0 fp E _) J) λ_ _ _ h=>wG F h
theorem LK{L k:Pos}(Z:fY X EE)(J:l8 X)(S:bB X.env.scope X.N scope xs ks)(I:Own X scope xs ks tg ow)(R:jM X.K X.mg ow gO)(M:X.calm=Ä)(Y:X.N.Nodup)(ha:QE X EE iter m)(U:kc X scope xs ifs elt tt te)(T:X.N[i]?=À y:=by rfl)(V:X.env.scope.names.lookup y=À .local:=by rfl)
  (D:swapsWith (.ListComp elt [⟨tg,iter,ifs,0⟩] scope pos) (À (.Name y L)) k.line X.env=pure Ä:=by rfl) (hs:∀x,foldedSetIterable iter X.env x=pure x:=by intro _;rfl):
  QS X EE (.Assign [.Name y L] (.ListComp elt [⟨tg,iter,ifs,0⟩] scope pos) k) (aA i (dD gO ks m tt te)):=PS.mono (yw (tt:=λt=>liftT X.K X.mg (qu EE t) tt) (te:=λt=>cL X.K X.mg (qu EE t) te) Z J S I M Y (PI.any ha) T V D (λt cl C pins s0 H0 fp E=>U cl C pins s0 H0 fp E _) hs) λO t H h=>by
 cb_eq;refine wG R (EE:=EE) (Q:=λv H1=>vY i v t H1 O.nx) ⟨τ,ρ,G,ab,?_⟩;dsimp only[aA,bC]at ok;cases e:dD gO ks m tt te τ G with
 |stuck=>left
 |bR c G'=>k_in;exact λH' ρ' f F=>ok t H' ρ' f F
 |ok d G'=>k_in;exact λv H' ρ' f F r=>ok _ H' ρ' f (F.set r)
theorem HN(T:jM X.K X.mg ow gO){Q:VK}{H0:Hp}{t:L2.St}{L:Q1}{M:DH}{τ:DS}(F:Int)(n:Nat)(ab:Ab X.K X.mg t H0 τ L M)
  (U:kI X.K X.mg EE H0 t τ L (cC gO ks tt te M.length ((ø n).map λ(k:Nat)=>.int (F+(k:Int))) τ (M++[.lst []])) Q):
  ∀D,H0 D=Å->∃W:Nat->Nat->Hp->Prop,(∃m,W 0 m (upd H0 D (.lst [])))/\∀i m H,W i m H ->
   ((v7 F n).stop i H/\Q (.ref D) H)\/((v7 F n).go i H/\∀x H',(v7 F n).vZ i H x H'->∃vs,ow x H' vs/\liftT X.K X.mg (qu EE t) tt (vs.map À++mask ks t) H' λb S=>if b=Ä then cL X.K X.mg (qu EE t) te (vs.map À++mask ks t) S λv R=>∃ys,R D=À (.lst ys)/\ys.length<Ç/\∃I,I<m/\W (i+1) I (upd R D (.lst (ys++[v]))) else ∃I,I<m/\W (i+1) I S):=
 kQ T (J:=v7 F n) _ (λi H ρ O f=>by simpa[v7]using O) (λi H ρ O f=>by simpa[v7]using O) (λi d H ρ x H' hd f y=>by
  obtain⟨rfl,rfl⟩:=y;rw[Ö]at hd;cases q:(ø n)[i]? with
  |none=>rw[q]at hd;cases hd
  |some k=>rw[q]at hd;obtain⟨V,e⟩:=Á.mp q;rw[acF]at e;x_go;cases hd;exact⟨.refl,by unfold Rep;rfl⟩) ab U
variable{ma:DS->M X2}
theorem rB(L:jM X.K X.mg ow gO){t:L2.St}{H:Hp}{Q:VK}(h:cL X.K X.mg EE (cT e7 gO ks ma tt te) t H Q):Ac (Nn (lY X.K X.mg EE ma)) ks ow (liftT X.K X.mg (qu EE t) tt) (cL X.K X.mg (qu EE t) te) t H Q:=by
 obtain⟨τ,ρ,G,ab,ok⟩:=tu (k:=λτ ds G=>match e7 ds with|some xs=>cC gO ks tt te G.length xs τ (G++[.lst []])|none=>.stuck) h;right;cases e:ma τ G with
 |stuck=>left
 |bR c G'=>left
 |ok ds G'=>
  k_in;intro vs V D M R O;obtain⟨J,S,Y,d2,U,T,d⟩:=ok vs V D M R O;cases q:e7 d2 with
  |none=>rw[q]at d;exact d.elim
  |some xs=>
   rw[q]at d;unfold e7 at q;split at q
   ·rename_i j;split at q
    ·rename_i F;cases q;obtain⟨v,rfl,I⟩:=fJ T;unfold Rep at I;subst I;exact⟨j,rfl,F.1,F.2,HN L 0 j.toNat U d⟩
    ·cases q
   ·cases q
theorem Af{t:TE}(I:∀k H Q,cL X.K X.mg EE me k H Q->t k H Q){D:Ends}{k:L2.St}{H:Hp}(h:iQ X.K X.mg EE (aA i me) D k H):KU t (vY i) D k H:=by
 cb_eq;refine I k H (λv J=>vY i v k J D.nx) ⟨τ,ρ,G,ab,?_⟩;dsimp only[aA,bC]at ok;cases e:me τ G with
 |stuck=>left
 |bR c G'=>k_in;exact λH' ρ' f F=>ok k H' ρ' f F
 |ok d G'=>k_in;exact λv H' ρ' f F r=>ok _ H' ρ' f (F.set r)
theorem Fg{p D:Pos}(M:fY X EE)(t:l8 X)(S:bB X.env.scope X.N scope xs ks)(k:Own X scope xs ks tg ow)(L:jM X.K X.mg ow gO)(F:X.calm=Ä)(U:X.mg "range"=Å)(T:QA X EE [a] ma)(R:kc X scope xs ifs elt tt te)(J:Gl X "range":=by rfl)(I:ä [a] X.env=[(Â,eval a X.env)]:=by rfl)
  (O:∀x,foldedSetIterable (.Call (.Name "range" p) [a] [] D) X.env x=pure x:=by intro _;rfl):
  QE X EE (.ListComp elt [⟨tg,.Call (.Name "range" p) [a] [] D,ifs,0⟩] scope pos) (cT e7 gO ks ma tt te):=PE.mono (yu (tt:=λd=>liftT X.K X.mg (qu EE d) tt) (te:=λd=>cL X.K X.mg (qu EE d) te) M t S k F (qy J U T I) (λd cl C pins s0 H0 fp E=>R cl C pins s0 H0 fp E _) O) λ_ _ _ h=>rB L h
theorem Fi{J d p I:Pos}(Z:fY X EE)(F:l8 X)(S:bB X.env.scope X.N scope xs ks)(D:Own X scope xs ks tg ow)(M:jM X.K X.mg ow gO)(L:X.calm=Ä)(Y:X.N.Nodup)(hm:X.mg "range"=Å)(ha:QA X EE [a] ma)(R:kc X scope xs ifs elt tt te)(O:X.N[i]?=À y:=by rfl)(T:X.env.scope.names.lookup y=À .local:=by rfl)
  (V:Gl X "range":=by rfl) (U:ä [a] X.env=[(Â,eval a X.env)]:=by rfl)
  (t:swapsWith (.ListComp elt [⟨tg,.Call (.Name "range" p) [a] [] I,ifs,0⟩] scope pos) (À (.Name y J)) d.line X.env=pure Ä:=by rfl) (hs:∀x,foldedSetIterable (.Call (.Name "range" p) [a] [] I) X.env x=pure x:=by intro _;rfl):
  QS X EE (.Assign [.Name y J] (.ListComp elt [⟨tg,.Call (.Name "range" p) [a] [] I,ifs,0⟩] scope pos) d) (aA i (cT e7 gO ks ma tt te)):=
 PS.mono (yw (tt:=λk=>liftT X.K X.mg (qu EE k) tt) (te:=λk=>cL X.K X.mg (qu EE k) te) Z F S D L Y (qy V hm ha U) O T t (λk cl C pins s0 H0 fp E=>R cl C pins s0 H0 fp E _) hs) λ_ _ _ h=>Af (λ_ _ _ h=>rB M h) h
end
theorem LM{k:Nat}(r:iC k A):A.units+600<cLine:=by have:=r.un;lia
theorem Ua{EE:bV}{f:Addr}{pos:Pos}(d:X.mg x=À (.ref f))(t:Gl X x:=by rfl)(k:(x==("__debug__":Str))=Â:=by decide):QE X EE (.Name x pos) (eC (.fn x)):=
 G9 (KO t d (v:=.ref f) rfl k) λ_ _=>by unfold Rep;exact⟨f,rfl,d⟩
def bQ:Expr->Bool
 |.Starred ..=>Â
 |_=>Ä
def plainT:Expr->Bool
 |.UnaryOp .Not _ _=>Â
 |.BoolOp ..=>Â
 |.IfExp ..=>Â
 |.Compare ..=>Â
 |_=>Ä
def gu:Expr->Bool
 |.Set ..=>Â
 |_=>Ä
def l9:Expr->Bool
 |.ListComp ..=>Â
 |.SetComp ..=>Â
 |.DictComp ..=>Â
 |_=>Ä
def n8:Expr->Bool
 |.Call (.Name _ _) [] [] _=>Â
 |_=>Ä
def DF:Expr->Bool
 |.Slice ..=>Â
 |_=>Ä
def av:U2->Bool
 |[]=>Ä
 |e::es=>bQ e&&av es
theorem bu(h:bQ e=Ä)(es:U2)(env:Env):ä (e::es) env=(Â,eval e env)::ä es env:=by cases e<;>first|rfl|cases h
theorem Fj(h:plainT e=Ä)(env:Env)(d:Sem Æ):isTrue e env d=(do let v <- d;standAt e.pos;holding [v] (truthy v)):=by cases e<;>first|rfl|cases h|(rename_i k _ _;cases k<;>first|rfl|cases h)
theorem iw(h:gu e=Ä)(env:Env)(x:Æ):foldedSetIterable e env x=pure x:=by cases e<;>first|rfl|cases h
theorem pD(h:l9 e=Ä)(t:Option Expr)(l:Nat)(env:Env):swapsWith e t l env=pure Â:=by cases e<;>first|rfl|cases h
theorem iW(h:n8 e=Ä)(n:Str)(env:Env):attributeBase e n env (eval e env)=eval e env:=by
 unfold attributeBase;split
 ·cases h
 ·rfl
theorem Ub(h:DF e=Ä):sC e:=λo i=>by cases e<;>first|rfl|cases h
theorem DG(h:gu e=Ä)(d:CmpOp):behindInMarks d e=Â:=by cases e<;>first|rfl|cases h
theorem bK{env:Env}{pos:Pos}:∀{es:U2},av es=Ä->(backTo pos (ä es env)).any (·.1)=Â
 |[],_=>rfl
 |e::es,h=>by
  have h':bQ e=Ä/\av es=Ä:=by simpa[av]using h
  rw[bu h'.1];have d:=bK (env:=env) (pos:=pos) h'.2;show(Â||(backTo pos (ä es env)).any (·.1))=Â;rw[d];rfl
theorem wH{env:Env}{pos:Pos}:∀{es:U2},av es=Ä->(backTo pos (ä es env)).all (λx=>!x.1)=Ä
 |[],_=>rfl
 |e::es,h=>by
  have h':bQ e=Ä/\av es=Ä:=by simpa[av]using h
  rw[bu h'.1];have d:=wH (env:=env) (pos:=pos) h'.2;show(!false&&(backTo pos (ä es env)).all (λx=>!x.1))=Ä;rw[d];rfl
theorem tR(h:av es=Ä)(d:es.length<30):((backTo pos (ä es env)).all (λx=>!x.1)&&(backToKw pos (keywordEach [] env)).all (λx=>x.1.isSome)
   && decide (es.length+([]:List Keyword).length+(if ([]:List Keyword).isEmpty then 0 else 1)<30))=Ä:=by
 rw[wH h];simp only[Ľ,Ė,decide_eq_true_eq];exact⟨rfl,‹d›⟩
section
variable{a b o:Expr}{ma mb mc:Y2}{p apos:Pos}{mt:MS}
theorem LN{m:Y2}(d:QE X EE e m)(k:QA X EE es r)(h:bQ e=Ä:=by rfl):QA X EE (e::es) (af m r):=Ln d k (bu h _ _)
theorem Qn(i:Nat)(t:Gy X.env.scope x)(d:(x==("__debug__":Str))=Â/\(x==("__classdict__":Str))=Â)(k:X.N[i]?=À x:=by rfl):QE X EE (.Name x pos) (aa i):=Pe i k t d.1 d.2
theorem Uc{f:Addr}(k:X.mg x=À (.ref f))(d:Gl X x)(t:(x==("__debug__":Str))=Â/\(x==("__classdict__":Str))=Â):QE X EE (.Name x pos) (eC (.fn x)):=Ua k d t.1
theorem HP(d:QE X EE a ma)(k:QE X EE b mb)(h:DF b=Ä:=by rfl):QE X EE (.Subscript a b pos) (aj az ma mb):=Ho d k (Ub h)
theorem Ud(d:X.A.units+600<cLine)(k:QE X EE a ma)(t:QE X EE b mb)(h:gu b=Ä:=by rfl):QE X EE (.Compare a [.In] [b] pos) (aj (tD Â) ma mb):=Tq d k t (DG h _)
theorem Qo(d:jB X (compareOp op) (rD X EE f))(k:QE X EE a ma)(t:QE X EE b mb)(h:gu b=Ä:=by rfl):QT X EE (.Compare a [op] [b] pos) (b8 (aj f ma mb)):=PF d k t (DG h _)
theorem Qp(d:QE X EE a ma)(h:plainT a=Ä:=by rfl):QT X EE a (jJ j0 ma):=Pw d (Fj h _)
theorem iE{k:String}{f:X2->M D}(t:fF X (.builtin k) (EW X EE f))(O:X.mg x=Å)(L:Gl X x)(I:bootBuiltins x=À (.builtin k))(J:QA X EE (e::es) m)(F:x≠"__name__":=by decide)(d:(x==("__debug__":Str))=Â:=by decide)(h:av (e::es)=Ä:=by rfl):
  QE X EE (.Call (.Name x p) (e::es) [] pos) (ai f m):=by
 have h':bQ e=Ä/\av es=Ä:=by simpa[av]using h
 exact Hf t tH O J L I F d (bu h'.1 _ _) (bK h'.2)
theorem wI{k:String}{f:X2->M D}(t:fF X (.type k) (EW X EE f))(O:X.mg x=Å)(L:Gl X x)(I:bootBuiltins x=À (.type k))(J:QA X EE (e::es) m)(F:x≠"__name__":=by decide)(d:(x==("__debug__":Str))=Â:=by decide)(h:av (e::es)=Ä:=by rfl):
  QE X EE (.Call (.Name x p) (e::es) [] pos) (ai f m):=by
 have h':bQ e=Ä/\av es=Ä:=by simpa[av]using h
 exact ET t tH O J L I F d (bu h'.1 _ _) (bK h'.2)
theorem Qq(d:X.mg "len"=Å)(t:Gl X "len")(k:QA X EE [e] m)(h:av [e]=Ä:=by rfl):QE X EE (.Call (.Name "len" p) [e] [] pos) (ai aL m):=iE EX d t PySem.boot_len k (by decide) (by decide) h
theorem Qs(d:X.calm=Ä)(D:X.mg "all"=Å)(t:Gl X "all")(k:QA X EE [e] m)(h:av [e]=Ä:=by rfl):QE X EE (.Call (.Name "all" p) [e] [] pos) (ai (tK Â) m):=iE (EY d) D t PyProof.Rows.boot_all k (by decide) (by decide) h
theorem Qt(d:X.calm=Ä)(D:X.mg "any"=Å)(t:Gl X "any")(k:QA X EE [e] m)(h:av [e]=Ä:=by rfl):QE X EE (.Call (.Name "any" p) [e] [] pos) (ai (tK Ä) m):=iE (EZ d) D t PyProof.Rows.boot_any k (by decide) (by decide) h
theorem LO(d:X.calm=Ä)(D:X.mg "max"=Å)(t:Gl X "max")(k:QA X EE [e,a] m)(h:av [e,a]=Ä:=by rfl):QE X EE (.Call (.Name "max" p) [e,a] [] pos) (ai (eW λi j=>if j > i then j else i) m):=iE (E3 d) D t PyProof.Rows.boot_max k (by decide) (by decide) h
theorem LP(d:X.calm=Ä)(D:X.mg "min"=Å)(t:Gl X "min")(k:QA X EE [e,a] m)(h:av [e,a]=Ä:=by rfl):QE X EE (.Call (.Name "min" p) [e,a] [] pos) (ai (eW λi j=>if j<i then j else i) m):=iE (E4 d) D t PyProof.Rows.boot_min k (by decide) (by decide) h
theorem DI{CX:vq}{k:Nat}{f:Addr}(F:lW X.prog X.w X.K X.mg X.base CX k f fd ps (iX X.K X.mg n mf))(t:iC k X.A)(O:X.mg x=À (.ref f))(I:ď X.K (.ref f)=Ä)(D:Binds X.K fd ps [])(d:TH CX X EE)(J:Gl X x)
  (L:(x==("__debug__":Str))=Â/\(x==("__classdict__":Str))=Â) (M:QA X EE (e::es) m) (h:av (e::es)=Ä:=by rfl):QE X EE (.Call (.Name x p) (e::es) [] pos) (aC n mf m):=by
 have h':bQ e=Ä/\av es=Ä:=by simpa[av]using h
 exact LB F t O I D d M J L.1 (bu h'.1 _ _) (bK h'.2)
theorem Fl(D:QE X EE o mo)(k:QA X EE [e] m)(t:n8 o=Ä:=by rfl)(h:av [e]=Ä:=by rfl)(d:(apos.endLine==cpos.line)=Ä:=by rfl):QE X EE (.Call (.Attribute o "append" apos) [e] [] cpos) (bz "list" aP mo m):=by
 have h':bQ e=Ä/\av []=Ä:=by simpa[av]using h
 exact E5 D k (iW t _ _) (tR h (by simp)) d (bu h'.1 _ _) (bK (es:=[]) rfl)
theorem Qu(k:QE X EE o mo)(t:n8 o=Ä:=by rfl)(d:(apos.endLine==cpos.line)=Ä:=by rfl):QE X EE (.Call (.Attribute o "pop" apos) [] [] cpos) (bz "list" zU mo ah):=P6 k (iW t _ _) d
theorem LQ(d:QE X EE a ma)(h:l9 a=Ä:=by rfl):QS X EE (.Expr a pos) (eL ma):=Lx d (pD h _ _ _)
theorem HQ{d:Pos}(F:X.N.Nodup)(t:Loc X.env.scope x)(I:QE X EE a ma)(k:X.fn x=Ä\/X.env.scope.names.lookup x=À .local)(D:X.N[i]?=À x:=by rfl)(h:l9 a=Ä:=by rfl):QS X EE (.Assign [.Name x d] a pos) (aA i ma):=PY F I D t (pD h _ _ _) k
theorem HR{i:Expr}{t:Pos}(F:QE X EE a mv)(I:QE X EE o mo)(J:QE X EE i mi)(h:l9 a=Ä:=by rfl)
  (D:∀v,assign (.Subscript o i t) X.env v=(do
   let d <- holding [v] (eval o X.env)
   let k <- holding [v,d] (eval i X.env)
   standAt t
   holding [v,d,k] (setItem d k v)
   release [v,d,k] []):=by intro _;rfl):QS X EE (.Assign [.Subscript o i t] a pos) (gU mv mo mi):=
 HA F I J (by unfold swapsWithSole;exact pD h _ _ _) (by first|rfl|(unfold swappedStores;rfl)) rfl D
theorem LR(t:X.N.Nodup)(D:Loc X.env.scope x)(d:X.fn x=Ä\/X.env.scope.names.lookup x=À .local)(k:X.N[i]?=À x:=by rfl):QG X (.Name x pos) (gN i):=Ly t k D d
theorem Qv(F:PassesOwn (model X.prog X.w) X.A X.env X.xe)(d:X.calm=Ä)(k:QE X EE a ma)(D:QG X tg g)(t:pg X EE body ms)(h:gu a=Ä:=by rfl):QS X EE (.For tg a body [] pos) (e9 g ma ms):=PZ F d k D t (iw h _)
theorem HS{t:Pos}(L:PassesOwn (model X.prog X.w) X.A X.env X.xe)(d:X.calm=Ä)(J:X.mg "range"=Å)(k:Gl X "range")(D:QA X EE [a] m)(I:QG X tg g)(F:pg X EE body ms)(h:bQ a=Ä:=by rfl):
  QS X EE (.For tg (.Call (.Name "range" p) [a] [] t) body [] pos) (iu e7 g m ms):=Hx L d J D I F k (bu h _ _) (iw rfl _)
theorem HU{D:Pos}(M:PassesOwn (model X.prog X.w) X.A X.env X.xe)(k:X.calm=Ä)(L:X.mg "range"=Å)(t:Gl X "range")(F:QA X EE [a,b] m)(J:QG X tg g)(I:pg X EE body ms)(h:bQ a=Ä:=by rfl)(d:bQ b=Ä:=by rfl):
  QS X EE (.For tg (.Call (.Name "range" p) [a,b] [] D) body [] pos) (iu zR g m ms):=Hy M k L F J I t (by rw[bu h,bu d];rfl) (bu d _ _) (iw rfl _)
variable{elt iter:Expr}{xs:P3}{ow:V->Hp->X1->Prop}{ifs:U2}
theorem LS(I:fY X EE)(k:l8 X)(S:bB X.env.scope X.N scope xs ks)(d:Own X scope xs ks tg ow)(J:jM X.K X.mg ow gO)(t:X.calm=Ä)(D:QE X EE iter ma)(F:kc X scope xs ifs elt tt te)(h:gu iter=Ä:=by rfl):QE X EE (.ListComp elt [⟨tg,iter,ifs,0⟩] scope pos) (dD gO ks ma tt te):=LJ I k S d J t D F (iw h _)
theorem LU(J:fY X EE)(k:l8 X)(S:bB X.env.scope X.N scope xs ks)(d:Own X scope xs ks tg ow)(F:jM X.K X.mg ow gO)(D:X.calm=Ä)(I:X.N.Nodup)(M:X.env.scope.names.lookup y=À .local)(O:QE X EE iter ma)(R:kc X scope xs ifs elt tt te)(t:swapsWith (.ListComp elt [⟨tg,iter,ifs,0⟩] scope pos) (À (.Name y py)) spos.line X.env=pure Ä)
  (L:X.N[i]?=À y:=by rfl) (h:gu iter=Ä:=by rfl):QS X EE (.Assign [.Name y py] (.ListComp elt [⟨tg,iter,ifs,0⟩] scope pos) spos) (aA i (dD gO ks ma tt te)):=LK J k S d F D I O R L M t (iw h _)
theorem Fo{J:Pos}(I:fY X EE)(k:l8 X)(S:bB X.env.scope X.N scope xs ks)(d:Own X scope xs ks tg ow)(F:jM X.K X.mg ow gO)(t:X.calm=Ä)(O:X.mg "range"=Å)(D:Gl X "range")(L:QA X EE [a] m)(M:kc X scope xs ifs elt tt te)(h:bQ a=Ä:=by rfl):
  QE X EE (.ListComp elt [⟨tg,.Call (.Name "range" p) [a] [] J,ifs,0⟩] scope pos) (cT e7 gO ks m tt te):=Fg I k S d F t O L M D (bu h _ _) (iw rfl _)
theorem Fq(L:fY X EE)(k:l8 X)(S:bB X.env.scope X.N scope xs ks)(d:Own X scope xs ks tg ow)(I:jM X.K X.mg ow gO)(D:X.calm=Ä)(J:X.N.Nodup)(O:X.env.scope.names.lookup y=À .local)(U:X.mg "range"=Å)(F:Gl X "range")(R:QA X EE [a] m)(T:kc X scope xs ifs elt tt te)
  (t:swapsWith (.ListComp elt [⟨tg,.Call (.Name "range" p) [a] [] pc,ifs,0⟩] scope pos) (À (.Name y py)) spos.line X.env=pure Ä) (M:X.N[i]?=À y:=by rfl) (h:bQ a=Ä:=by rfl):
  QS X EE (.Assign [.Name y py] (.ListComp elt [⟨tg,.Call (.Name "range" p) [a] [] pc,ifs,0⟩] scope pos) spos) (aA i (cT e7 gO ks m tt te)):=Fi L k S d I D J U R T M O F (bu h _ _) t (iw rfl _)
theorem Ft{l:Nat}(t:(env.blockKind==.function)=Ä)(k:env.scope.names.lookup y=À .local)(D:(py.line==pos.line)=Ä)(d:(scope.names.any λx=>x.1==y&&(x.2==.local||x.2==.cell))=Â):swapsWith (.ListComp elt gens scope pos) (À (.Name y py)) l env=pure Ä:=by
 unfold swapsWith;k_go;show(pure (env.blockKind==.function&&env.kindOf y==À .local&&py.line==pos.line&&!(scope.names.any λx=>x.1==y&&(x.2==.local||x.2==.cell))):Sem Bool)=pure Ä;have e:(env.kindOf y==À NameKind.local)=Ä:=by rw[show env.kindOf y=À NameKind.local from k];rfl
 rw[t,e,D,d];rfl
theorem Qw{s0:Ì}{fp:Q1}(S:bB X.env.scope X.N scope xs ks)(h:x∈xs):Gy (pC X scope cl xs C pins s0 H0 fp E).env.scope x:=.inl (tP (cl:=cl) (C:=C) S h)
theorem LV{s0:Ì}{fp:Q1}(S:bB X.env.scope X.N scope xs ks)(h:scope.names.lookup y=À .free):Gy (pC X scope cl xs C pins s0 H0 fp E).env.scope y:=.inr (qD (cl:=cl) (C:=C) S h)
theorem LW{s0:Ì}{fp:Q1}(h:scope.names.lookup y=À .globalImplicit):Gl (pC X scope cl xs C pins s0 H0 fp E) y:=by show(compEnvC scope cl C X.env).kindOf y=À .globalImplicit;have e:(compEnvC scope cl C X.env).kindOf y=(scope.names.lookup y).map (vD X.env y):=fc scope.names;rw[e,h];rfl
end
theorem HV{D d pos:Pos}(k:X.calm=Ä)(t:fY X EE)(M:X.mg x=À (.ref C))(F:aaP X.K C E8 "ValueError.__new__"=Ä)(J:Gl X x)(L:(x==("__debug__":Str))=Â/\(x==("__classdict__":Str))=Â)
  (I:QA X EE (e::es) m) (h:av (e::es)=Ä:=by rfl):QS X EE (.Raise (À (.Call (.Name x D) (e::es) [] d)) Å pos) (nZ x m):=by
 have h':bQ e=Ä/\av es=Ä:=by simpa[av]using h
 exact HC k t M F J L.1 I (bu h'.1 _ _) (bK h'.2)
section
open Builtin Builtin.Str
section
theorem aq.strs:∀(l:P3),aq K mg ρ H (l.map D.str) (l.map V.str)
 |[]=>.nil
 |p::r=>.cons (by unfold Rep;rfl) (aq.strs r)
def strsOf:X2->Option P3
 |[]=>À []
 |.str x::r=>(strsOf r).map (x::·)
 |_::_=>Å
theorem n9{K:Ë}{F:Str->Option Æ}{ρ:Q1}{H:Hp}:∀{ds:X2}{vs:X1}{us:List Æ}{ts:P3},aq K F ρ H ds vs->Vals vs us->strsOf ds=À ts->∃l:List (Str×Tok),us=strValues l/\l.map (·.1)=ts
 |[],vs,us,ts,r,v,e=>by unfold aq at r;subst r;cases v;k_ne;exact⟨[],rfl,rfl⟩
 |d::ds,vs,us,ts,r,v,e=>by
  unfold aq at r;obtain⟨x,L,rfl,k,D⟩:=r;cases v with
  |cons v1 v2=>
   cases d<;>try (cases e;done)
   rename_i y;dsimp only[strsOf]at e;cases q:strsOf ds with
   |none=>rw[q]at e;k_ne
   |some J=>rw[q]at e;k_ne;unfold Rep at k;subst k;obtain⟨t,rfl⟩:=v1;obtain⟨l,rfl,I⟩:=n9 D v2 q;exact⟨(y,t)::l,rfl,by simp[I]⟩
def rC:D->X2->M D
 |.str x,[d]=>λG=>match ak G d with
  |some (.lst xs)=>match strsOf xs with
   |some t=>if JoinOk x t=Ä then .ok (.str (Txt.join x t)) G else .stuck
   |none=>.stuck
  |_=>.stuck
 |_,_=>M.stop
theorem HW:Kw X "str.join" (P4 X EE rC):=by
 intro pins s σ0 H x xs v us Q I Z O zu;obtain⟨σ,τ,ρ,G,d,ds,ab,F,R,ok⟩:=zu;cases d<;>try exact ok.elim
 rename_i z
 match ds,ok with
 |[],ok=>rfl'
 |_::_::_,ok=>rfl'
 |[y],ok=>
  obtain⟨yv,rfl,ry⟩:=fJ R;unfold Rep at F;subst F;obtain⟨t,rfl⟩:=Z;obtain⟨u,rfl,Y⟩:=vals1 O;dsimp only[rC]at ok;cases q:ak G y with
  |none=>ac_nf;rfl'
  |some sk=>
   ac_nf;cases sk with
   |tup _=>rfl'
   |str _=>rfl'
   |lst ys=>
    nofun;cases qs:strsOf ys with
    |none=>rw[qs]at ok;rfl'
    |some S=>
     rw[qs]at ok;nofun;by_cases D:JoinOk z S=Ä
     ·rw[Α D]at ok;obtain⟨p,vs,rfl,U,M⟩:=bJ (pins:=pins) (σ0:=σ0) (s:=s) ab.hp ry q;cases Y;obtain⟨V,L,pl,_⟩:=I.list U;obtain⟨l,rfl,J⟩:=n9 M L qs;have T:=ok (.str _) H ρ .refl ab (by unfold Rep;rfl);exact jA I.os.2 <|SC.join pl.isList J D λt' k=>λht=>⟨.str _,H,I.tok k,⟨_,rfl⟩,T⟩
     ·rw[Β D]at ok;rfl'
def fZ:X2->M D
 |[d]=>λG=>match ak G d with
  |some (.lst xs)=>aZ xs G
  |some (.tup xs)=>.ok d G
  |_=>.stuck
 |_=>M.stop
theorem Fv:fF X (.type "tuple") (EW X EE fZ):=by
 intro pins s σ0 H xs D Q I r zu;obtain⟨L,τ,ρ,G,ds,ab,F,ok⟩:=zu
 match ds,ok with
 |[],ok=>rfl'
 |_::_::_,ok=>rfl'
 |[y],ok=>
  obtain⟨M,rfl,k⟩:=fJ F;dsimp only[fZ]at ok;cases q:ak G y with
  |none=>ac_nf;rfl'
  |some sk=>
   ac_nf;cases sk with
   |str _=>rfl'
   |tup ys=>obtain⟨p,vs,rfl,d,t⟩:=fB k q;exact nH pins s σ0 H _ D Q I r ⟨p,vs,rfl,.inr ⟨d,ok _ H ρ .refl ab k⟩⟩
   |lst ys=>obtain⟨p,vs,rfl,d,t⟩:=bJ (pins:=pins) (σ0:=σ0) (s:=s) ab.hp k q;exact nH pins s σ0 H _ D Q I r ⟨p,vs,rfl,.inl ⟨d,λl J=>(yl ab t ok).2 l J⟩⟩
def qF:X2->M D
 |[d]=>λG=>match ak G d with
  |some (.lst xs)=>aN xs G
  |some (.tup xs)=>aN xs G
  |_=>.stuck
 |_=>M.stop
theorem Fw:fF X (.type "list") (EW X EE qF):=by
 intro pins s σ0 H xs D Q I r zu;obtain⟨L,τ,ρ,G,ds,ab,J,ok⟩:=zu
 match ds,ok with
 |[],ok=>rfl'
 |_::_::_,ok=>rfl'
 |[y],ok=>
  obtain⟨M,rfl,F⟩:=fJ J;dsimp only[qF]at ok;cases q:ak G y with
  |none=>ac_nf;rfl'
  |some sk=>
   ac_nf;cases sk with
   |str _=>rfl'
   |tup ys=>obtain⟨p,vs,rfl,t,d⟩:=fB F q;exact oV pins s σ0 H _ D Q I r ⟨p,vs,rfl,.inr t,λl k=>(kM ab d ok).2 l k⟩
   |lst ys=>obtain⟨p,vs,rfl,t,d⟩:=bJ (pins:=pins) (σ0:=σ0) (s:=s) ab.hp F q;exact oV pins s σ0 H _ D Q I r ⟨p,vs,rfl,.inl t,λl k=>(kM ab d ok).2 l k⟩
variable{p apos:Pos}{o:Expr}
theorem LX(D:QE X EE o mo)(k:QA X EE [e] m)(t:n8 o=Ä:=by rfl)(h:av [e]=Ä:=by rfl)(d:(apos.endLine==cpos.line)=Ä:=by rfl):QE X EE (.Call (.Attribute o "join" apos) [e] [] cpos) (bz "str" rC mo m):=by
 have h':bQ e=Ä/\av []=Ä:=by simpa[av]using h
 exact Dz F.plainAttrs_str F.slot_str_join F.type_str_join HW D k (iW t _ _) (tR h (by simp)) d (bu h'.1 _ _) (bK (es:=[]) rfl)
theorem boot_tuple:bootBuiltins "tuple"=À (.type "tuple"):=by symm
theorem boot_list:bootBuiltins "list"=À (.type "list"):=by symm
theorem HX(d:X.mg "tuple"=Å)(t:Gl X "tuple")(k:QA X EE [e] m)(h:av [e]=Ä:=by rfl):QE X EE (.Call (.Name "tuple" p) [e] [] pos) (ai fZ m):=wI Fv d t boot_tuple k (by decide) (by decide) h
theorem LY(d:X.mg "list"=Å)(t:Gl X "list")(k:QA X EE [e] m)(h:av [e]=Ä:=by rfl):QE X EE (.Call (.Name "list" p) [e] [] pos) (ai qF m):=wI Fw d t boot_list k (by decide) (by decide) h
def oh(i n:Nat)(d:Str->Option (X2->M D))(m:DS->M X2):Y2:=λτ G=>match τ[i]? with
 |some (À (.fn y))=>match d y with
  |some k=>aC n k m τ G
  |none=>.stuck
 |_=>.stuck
theorem HY{CX:vq}{n:Nat}{rV:Str->Option (X2->M D)}(hN:X.N[i]?=À x)(hv:Gy X.env.scope x)(Y:(x==("__debug__":Str))=Â/\(x==("__classdict__":Str))=Â)
  (hF:∀y J,rV y=À J->∃k f S O,lW X.prog X.w X.K X.mg X.base CX k f S O (iX X.K X.mg n J)/\iC k X.A/\X.mg y=À (.ref f)/\ď X.K (.ref f)=Ä/\Binds X.K S O []) (hx:TH CX X EE)
  (ha:QA X EE (e::es) m) (h:av (e::es)=Ä:=by rfl):QE X EE (.Call (.Name x p) (e::es) [] pos) (oh i n rV m):=by
 have h':bQ e=Ä/\av es=Ä:=by simpa[av]using h
 intro pins s σ H Q I hq;obtain⟨τ,ρ,G,ab,ok⟩:=hq;unfold oh at ok;cases q:τ[i]? with
 |none=>ac_nf;rfl'
 |some od=>
  cases od with
  |none=>ac_nf;rfl'
  |some d=>
   ac_nf;cases d<;>try exact ok.elim
   rename_i y;nofun;cases qt:rV y with
   |none=>rw[qt]at ok;rfl'
   |some J=>
    rw[qt]at ok;obtain⟨k,f,S,O,F,hr,hm,hk,hb⟩:=hF y J qt;obtain⟨v,ev,U⟩:=ab.st.2 i (.fn y) q;unfold Rep at U;obtain⟨a,rfl,t⟩:=U;rw[hm]at t;cases t;obtain⟨τ1,T,G1,ir,Nz⟩:=tu (k:=λ_ ds=>if ds.length=n then J ds else M.stop) ⟨τ,ρ,G,ab,ok⟩;refine Ā (ÿ (GA hN hv Y.1 Y.2 pins s σ H (λv' H'=>v'=.ref f/\H'=H) I ⟨_,ev,rfl,rfl⟩) (λu s0 hu=>?_) λ_ _ z=>z);obtain⟨v',H',V,r0,rfl,rfl⟩:=hu;cases r0;refine acG (h₀:=X.base) V.ok.mod.RQ hk (d7 (ha pos pins s0 σ H' _ V ⟨τ1,T,G1,ir,Nz⟩) λus s1 ⟨vs,H1,Z,r,q⟩=>⟨Z.Nm,?_⟩) (bu h'.1 _ _) (bK h'.2);obtain⟨τ2,ρ2,G2,ds,cz,rs,L⟩:=q;by_cases R:ds.length=n
    ·rw[Α R]at L;exact Dw F hr hb hx Z r cz rs R L
    ·rw[Β R]at L;exact L.elim
end
end
section
open Builtin Builtin.Str
end
section
open Builtin Builtin.ObjectAttr
end
def Qx(CX:vq)(X:Cx)(n:Nat):List (Str×(X2->M D))->Prop
 |[]=>True
 |q::r=>(∃k f d t,lW X.prog X.w X.K X.mg X.base CX k f d t (iX X.K X.mg n q.2)/\iC k X.A/\X.mg q.1=À (.ref f)/\ď X.K (.ref f)=Ä/\Binds X.K d t [])/\Qx CX X n r
theorem Ue{CX:vq}{X:Cx}{n:Nat}:∀{l:List (Str×(X2->M D))},Qx CX X n l->∀(y:Str)(d:X2->M D),l.lookup y=À d->∃k f t F,lW X.prog X.w X.K X.mg X.base CX k f t F (iX X.K X.mg n d)/\iC k X.A/\X.mg y=À (.ref f)/\ď X.K (.ref f)=Ä/\Binds X.K t F []
 |[],_,_,_,h=>nomatch h
 |q::r,⟨L,I⟩,y,d,h=>by
  obtain⟨J,O⟩:=q;rw[Ć]at h;cases e:y==J with
  |true=>rw[e]at h;cases h;have:=eq_of_beq e;subst this;exact L
  |false=>rw[e]at h;exact Ue I y d h
theorem WG{m:Y2}(d:QE X EE e m)(h:bQ e=Ä)(k:QA X EE es r):QA X EE (e::es) (af m r):=LN d k h
theorem B8:typeLookup (.type "list_reverseiterator") (į "__len__")=(pure Å:Sem (Option Æ)):=by rw[typeLookup_type,builtinLookup_eq_fast];rfl
theorem HZ:typeLookup (.type "list_reverseiterator") (į "__length_hint__")=(pure (À (.builtin "list_reverseiterator.__length_hint__")):Sem (Option Æ)):=by rw[typeLookup_type,builtinLookup_eq_fast];rfl
theorem H8:isSubtype (.type "list_reverseiterator") (.type "list_reverseiterator")=(pure Ä:Sem Bool):=by rw[isSubtype_type];rfl
theorem Ia{M:Model}{i:Int}{Q:Bool->Ì->Prop}(D:s.heap.IsRevIter it l i)(h:Q Â s):à M A (abd (.ref it)) Q E s:=by
 have t:s.TypeIs (.ref it) "list_reverseiterator":=by obtain⟨o,e,c,_⟩:=D;exact⟨o,e,c⟩
 unfold abd;refine Ã (aaa t B8 ?_);refine Ã (aaa t HZ ?_);have k:splitId "list_reverseiterator.__length_hint__"=À ("list_reverseiterator","__length_hint__"):=by symm
 k_go;rw[k];k_go;refine Ã (abM t H8 ?_);rw[Β (by decide)];split
 ·rw[Β (by decide)];exact Ó h
 ·rename_i d;exact absurd (by symm) d
theorem B9{prog:ô}{w:đ}{R:Result->Ì->Prop}(hh:A.handled=Å)(k:s.heap.IsRevIter it l ((items.size:Int)-1))(Y:s.heap.IsList l items)(J:l≠it)(hz:items.size<=Ç)(S:Addr)(D:Æ)(c₀:Nat)
  (M:s.heap.get? S=À {cls:=.type "list",data:=.seq #[] c₀}) (T:S≠l)
  (O:∀(t:Ì)(acc':Array Æ)(c':Nat),Moved [S,it] (λa b=>b=a) s t->t.heap.get? S=À {cls:=.type "list",data:=.seq acc' c'}->ItemsOf (λi v=>items[items.size-1-i]?=À v) acc' items.size->R (.ok (.ret D)) t):
  à (model prog w) A.in1 (abe (.ref S) (.ref it) D) (λL t=>match L with
   |.done f=>R (.ok f) t
   |.again c'=>c'.quiet=Ä/\codeAny (model prog w) A c' R t) (λe t=>R (.error e) t) s:=by
 have U:S≠it:=by rintro rfl;obtain⟨o,e,c,d⟩:=k;rw[M]at e;k_ne;exact absurd (Value.type.inj c) (by decide)
 have Z:s.TypeIs (.ref it) "list_reverseiterator":=by obtain⟨o,e,c,_⟩:=k;exact⟨o,e,c⟩
 have V:=Walks.toS (Walks.listRev (prog:=prog) (w:=w) (A:=A.in1) (show A.in1.handled=Å from hh) it l J items);have I:=codeAny_extend_loopS V hz S (by simp[U,T]) D items.size 0 (R:=R);unfold abe;refine Ã (wpAny_typeOf Z ?_);have h1:abE (.ref S) (.ref it)=Â:=by simp[abE,U]
 rw[Β (by rw[h1];decide)];refine Ã (aaV k ?_);refine Ã (ĭ (Ia k ?_));k_go;split
 ·rename_i hs;exact absurd hs (by symm)
 ·exact Ó ⟨plainId_quiet F.plain_extend_loop _,I s #[] c₀ rfl (é _) ⟨é _,‹k›,Y⟩ M (ItemsOf.nil _) O⟩
theorem vE{prog:ô}{w:đ}{E:Æ->Ì->Prop}{Q:Æ->Ì->Prop}(hh:A.handled=Å)(k:s.heap.IsRevIter it l ((items.size:Int)-1))(R:s.heap.IsList l items)(I:l≠it)(hz:items.size<=Ç)
  (U:∀(h':Heap)(tk:Nat)(acc':Array Æ)(c':Nat),(∀b o,b≠it->s.heap.get? b=À o->h'.get? b=À o)->h'.get? s.heap.objs.size=À {cls:=.type "list",data:=.seq acc' c'}->ItemsOf (λi v=>items[items.size-1-i]?=À v) acc' items.size->Q (.ref s.heap.objs.size) {s with heap:=h',toks:=tk}):
  à (model prog w) A (call (.type "list") [.ref it]) Q E s:=by
 have Z:l<s.heap.objs.size:=by obtain⟨o,e,_⟩:=R;exact Ù e
 have lt2:it<s.heap.objs.size:=by obtain⟨o,e,_⟩:=k;exact Ù e
 refine callType_codes (Q₁:=λv s1=>v=.ref s.heap.objs.size/\s1={s with heap:=s.heap.push {cls:=.type "list",data:=.seq #[]}}) F.called_list (F.typeCall_list_1 (.ref it)) F.entry_list_init (code_list_new (.ref it) ⟨rfl,rfl⟩) λobj S t=>?_;obtain⟨rfl,rfl⟩:=t;have D:=Ø (o:={cls:=.type "list",data:=.seq #[]}) s.heap rfl;refine⟨⟨_,D,rfl⟩,F.args_list_init_2 (.ref s.heap.objs.size) (.ref it),?_⟩;have V:∀b o,s.heap.get? b=À o->(s.heap.push {cls:=.type "list",data:=.seq #[]}).get? b=À o:=λb o e=>Ï _ e;unfold aaQ.«list.__init__»;refine Ã ?_;unfold Builtin.List.listItems;refine Ã (Ŀ D rfl (Ó ?_));refine Ã ?_;unfold Builtin.List.listUpdate;refine ac8 D rfl ?_ (by simp[sizeLine_eq]) (by simp[sizeLine_eq]);have ZG:=Č (ŭ λx=>#[]) D rfl;have Y:∀b o,b≠s.heap.objs.size->(s.heap.push {cls:=.type "list",data:=.seq #[]}).get? b=À o->((s.heap.push {cls:=.type "list",data:=.seq #[]}).update s.heap.objs.size (ŭ λx=>#[])).get? b=À o:=λb o J e=>(ý _ _ (õ J)).trans e;refine Ã (abz ?_);have M:∀b o,s.heap.get? b=À o->((s.heap.push {cls:=.type "list",data:=.seq #[]}).update s.heap.objs.size (ŭ λx=>#[])).get? b=À o:=λb o e=>Y b o (ã (Ù e)) (V b o e);refine B9 (l:=l) (items:=items) (show A.in1.handled=Å from hh) ?_ ?_ I hz s.heap.objs.size .none (if ((#[]:Array Æ).size==(#[]:Array Æ).size)=Ä then 0 else 0+1) ?_ (abb Z) ?_
 ·obtain⟨o,e,r⟩:=k;exact⟨o,M _ _ e,r⟩
 ·obtain⟨o,e,r⟩:=R;exact⟨o,M _ _ e,r⟩
 ·exact ZG
 ·intro O acc' c' T L d;rw[Moved.eq_with T];refine⟨rfl,U O.heap O.toks acc' c' (λb o J e=>?_) L d⟩;refine T.heap b o ?_ (M b o e);simp[J,ã (Ù e)]
section
variable{a b o:Expr}{ma mb:Y2}{t:DS->M Bool}{p pos2 apos:Pos}
def fuel:Nat:=100000
def dJ(t:DS->M Bool)(ms:MS):Nat->MS
 |0=>λ_ _=>.stuck
 |n+1=>λτ=>bC (t τ) (λc G=>if c=Ä then (match ms τ G with
   |.nx τ' G'=>dJ t ms n τ' G'
   |.ct τ' G'=>dJ t ms n τ' G'
   |.bk τ' G'=>.nx τ' G'
   |r=>r) else .nx τ G) λc G=>.xn c τ G
theorem Lj.imp{r:Out Bool}{Q:Bool->Hp->Prop}(h:Lj X.K X.mg EE H σ τ ρ r Q)(i:∀b H',Q b H'->Q' b H'):Lj X.K X.mg EE H σ τ ρ r Q':=by
 cases r with
 |stuck=>exact h
 |ok b G=>exact λH' ρ' f ab=>i b H' (h H' ρ' f ab)
 |bR c G=>exact h
theorem Ib(hp:PassesOwn (model X.prog X.w) X.A X.env X.xe)(U:QT X EE c t)(hb:pg X EE body ms):QS X EE (.While c body [] pos) (dJ t ms n):=PS.mono (GH hp U hb) λL I H h=>by
 obtain⟨M,S,G0,LI,Z⟩:=h;refine⟨λm I H=>∃τ ρ G,Ab X.K X.mg I H τ ρ G/\sF X.K X.mg EE H ρ L (dJ t ms m τ G),⟨n,M,S,G0,LI,Z⟩,?_⟩;rintro m I H ⟨τ,ρ,G,ab,ok⟩;cases m with
 |zero=>rfl'
 |succ m=>
  obtain⟨τ1,R,V,ir,Nz⟩:=G8 (k:=λτ c G=>if c=Ä then (match ms τ G with
   |.nx τ' G'=>dJ t ms m τ' G'
   |.ct τ' G'=>dJ t ms m τ' G'
   |.bk τ' G'=>.nx τ' G'
   | r=>r) else .nx τ G) (show iQ X.K X.mg EE (λτ=>bC (t τ) (λc G=>if c=Ä then (match ms τ G with
   |.nx τ' G'=>dJ t ms m τ' G'
   |.ct τ' G'=>dJ t ms m τ' G'
   |.bk τ' G'=>.nx τ' G'
   |r=>r) else .nx τ G) λc G=>.xn c τ G) L I H from⟨τ,ρ,G,ab,ok⟩)
  refine⟨τ1,R,V,ir,Nz.imp λb H1 Y=>?_⟩;obtain⟨τ2,J,G2,T,D⟩:=Y;cases b with
  |false=>rw[Β ï]at D |-;exact D I H1 J .refl T
  |true=>
   rw[Α rfl]at D |-;refine⟨λF H'=>∃τ ρ G,Ab X.K X.mg F H' τ ρ G/\sF X.K X.mg EE H' ρ L (dJ t ms m τ G),λF H' w=>⟨m,Ŏ _,w⟩,τ2,J,G2,T,?_⟩;cases q:ms τ2 G2 with
   |stuck=>rw[q]at D;exact D
   |nx τ' G'=>rw[q]at D;exact λF H' ρ' f O=>⟨τ',ρ',G',O,D.fut f⟩
   |ct τ' G'=>rw[q]at D;exact λF H' ρ' f O=>⟨τ',ρ',G',O,D.fut f⟩
   |bk τ' G'=>rw[q]at D;exact D
   |rt d G'=>rw[q]at D;exact D
   |xn c τ' G'=>rw[q]at D;exact D
def pF:X2->M D
 |[d]=>λG=>match ak G d with
  |some (.lst xs)=>aN xs.reverse G
  |_=>.stuck
 |_=>M.stop
theorem tS:bootBuiltins "reversed"=À (.type "reversed"):=by symm
theorem aq.rev:∀{ds:X2}{vs:X1},aq K mg ρ H ds vs->aq K mg ρ H ds.reverse vs.reverse
 |[],vs,h=>by unfold aq at h;subst h;exact .nil
 |d::ds,vs,h=>by unfold aq at h;obtain⟨v,r,rfl,k,D⟩:=h;rw[Ń,Ń];exact(aq.rev D).append (.cons k .nil)
theorem Vals.app:∀{xs ys:X1}{us vs:List Æ},Vals xs us->Vals ys vs->Vals (xs++ys) (us++vs)
 |_,_,_,_,.nil,h=>h
 |_,_,_,_,.cons r t,h=>.cons r (Vals.app t h)
theorem Vals.rev:∀{xs:X1}{us:List Æ},Vals xs us->Vals xs.reverse us.reverse
 |_,_,.nil=>.nil
 |_,_,.cons r t=>by rw[Ń,Ń];exact Vals.app (Vals.rev t) (.cons r .nil)
theorem Fx{d:List Æ}{k:Array Æ}(h:ItemsOf (λi v=>d.toArray[d.toArray.size-1-i]?=À v) k d.toArray.size):k=d.reverse.toArray:=by
 obtain⟨I,J⟩:=h;have D:d.toArray.size=d.length:=by simp
 rw[D]at I;apply Array.ext_getElem?;intro i;by_cases F:i<k.size
 ·have e:=J i k[i] (ź F);rw[ź F,<- e];rw[aaE,aaE,ab6 ∅,D]
 ·rw[aaq ∅,aaq (by simp;lia)]
theorem Cb(hc:X.calm=Ä)(O:X.mg "list"=Å)(Vn:Gl X "list")(R:X.mg "reversed"=Å)(WI:Gl X "reversed")(ha:QA X EE [e] m)(h:av [e]=Ä:=by rfl):
  QE X EE (.Call (.Name "list" p) [.Call (.Name "reversed" p2) [e] [] pos2] [] pos) (ai pF m):=by
 have h':bQ e=Ä/\av []=Ä:=by simpa[av]using h
 intro pins s σ H Q I hq;have T:=tu (k:=λ_ ds=>pF ds) hq;refine Ā (gT I Vn O boot_list ?_ (by decide) (by decide));refine ì ?_ (bu rfl _ _) (bK (es:=[]) rfl);rw[bu (e:=.Call (.Name "reversed" p2) [e] [] pos2) rfl];show à _ _ (spliced ((Â,eval _ X.env)::backTo pos (ä [] X.env))) _ _ s;refine ť ?_;refine Ā (gT I WI R tS ?_ (by decide) (by decide));refine ì (d7 (ha pos2 pins s σ H _ I T) λus D zG=>?_) (bu h'.1 _ _) (bK (es:=[]) rfl);obtain⟨vs,H1,L,r1,τ,ρ,G,ds,ab,rs,ok⟩:=zG
 match ds,ok with
 |[],ok=>rfl'
 |_::_::_,ok=>rfl'
 |[d],ok=>
  obtain⟨x,rfl,rx⟩:=fJ rs;obtain⟨u,rfl,ru⟩:=vals1 r1;dsimp only[pF]at ok;cases q:ak G d with
  |none=>ac_nf;rfl'
  |some sk=>
   ac_nf;cases sk with
   |tup zs=>rfl'
   |str z=>rfl'
   |lst zs=>
    nofun;obtain⟨l,ys,rfl,sq,rv⟩:=bJ (pins:=pins) (σ0:=σ) (s:=D) ab.hp rx q;cases ru;obtain⟨F,Z,pl,hz⟩:=L.list sq;have V:=Z.length;have M:=pl.isList;have U:l<D.heap.objs.size:=by obtain⟨_,e,_⟩:=M;exact Ù e
    refine call_reversed_list M ?_;refine aan ?_;refine jA (by first|exact L.os.2|exact ü _) <|vE (l:=l) (items:=F.toArray) (show X.A.handled=Å from I.ok.hd hc) ⟨_,Ø _ rfl,rfl,rfl⟩ (M.push _) (ã U) (by simp;lia) λh' tk Y c' kp hS J ht=>?_;have ea:=Fx J;subst ea;obtain⟨S,hn⟩:=kM ab rv.rev ok;have hsz:(D.heap.push (revObj l ((F.toArray.size:Int)-1))).objs.size=D.heap.objs.size+1:=Ĝ ..;refine⟨.ref _,upd H1 _ (.lst ys.reverse),L.laid (t':=tk) (λb o e=>kp b o (ã (Ù e)) (Ï _ e)) ?_ ⟨S,F.reverse,c',Vals.rev Z,hS⟩,rfl,hn _ (L.hok.fresh ?_)⟩
    ·show D.heap.objs.size<=(D.heap.push _).objs.size;rw[hsz];lia
    ·show D.heap.objs.size<=(D.heap.push _).objs.size;rw[hsz];lia
def intsOf:X2->Option D2
 |[]=>À []
 |.int b::r=>(intsOf r).map (b::·)
 |_::_=>Å
theorem tT{K:Ë}{L:Str->Option Æ}{ρ:Q1}{H:Hp}:∀{ds:X2}{vs:X1}{k:List Æ}{bs:D2},aq K L ρ H ds vs->Vals vs k->intsOf ds=À bs->k.length=bs.length/\∀(i:Nat)(v:Æ),k[i]?=À v->∃t,v=Value.int (bs.getD i 0) t
 |[],vs,k,bs,r,v,e=>by unfold aq at r;subst r;cases v;k_ne;exact⟨rfl,λi v h=>by simp at h⟩
 |d::ds,vs,k,bs,r,v,e=>by
  unfold aq at r;obtain⟨x,R,rfl,D,F⟩:=r;cases v with
  |cons v1 v2=>
   cases d<;>try (cases e;done)
   rename_i b;dsimp only[intsOf]at e;cases q:intsOf ds with
   |none=>rw[q]at e;k_ne
   |some M=>
    rw[q]at e;k_ne;unfold Rep at D;subst D;obtain⟨t,rfl⟩:=v1;obtain⟨I,O⟩:=tT F v2 q;refine⟨by simp[I],λi v h=>?_⟩;cases i with
    |zero=>simp at h;exact⟨t,by simp[h]⟩
    |succ i=>obtain⟨t',J⟩:=O i v ‹h›;exact⟨t',‹J›⟩
theorem preSum_eq(bs:D2):∀n,n<=bs.length->preSum (λi=>bs.getD i 0) n=(bs.take n).sum
 |0,_=>by simp[preSum]
 |n+1,h=>by show preSum (λi=>bs.getD i 0) n+bs.getD n 0=_;have:bs[n]?=À bs[n]:=Ê ∅;rw[preSum_eq bs n ∅,<- List.take_append_getElem (show n<bs.length by lia),ab1,List.getD,this];rw[List.sum_singleton];rfl
end
theorem sH{t':Nat}(I:Inv X pins σ H s)(k:∀b o,b∉ch->s.heap.get? b=À o->h'.get? b=À o)(t:∀b∈ch,nR X pins H b)(L:0<t':=by accm_mu):Inv X pins σ H {s with heap:=h',toks:=t'}:=by
 have S:∀b u,H b=À u->b∉ch:=λb u e z=>by rw[(t b z).1]at e;k_ne
 refine I.step (g':=s.gens) (d':=s.drawn) (ch:=ch) (λb D=>⟨(t b D).2.2.2.1,(t b D).2.1,(t b D).2.2.2.2.1,(t b D).2.2.2.2.2⟩) (λb o _ _ d e _=>k b o d e) (λb o _ _ d e _=>⟨o.slots,k b o d e⟩) (λ_ _ _ _ n=>n)
  (λb o d e=>⟨o,k b o d e⟩) (λ_ _ e=>e) (λ_ _ _ e=>e) (λb M e=>⟨#[],by rw[e];simp⟩) (λm J=>?_) (λb u e=>?_) I.bare
 ·obtain⟨o,es,ep,F,r⟩:=J;exact⟨o,es,ep,k _ o (λz=>(t _ z).2.1 rfl) F,r⟩
 ·refine(I.hok b u e).stay (λc v d q=>k c v ?_ q) (λ_ q=>q) λ_ _ q=>q;rcases d with z|z
  ·rw[z];exact S b u e
  ·exact S c _ z
abbrev View:=DH->Nat->Option X9
variable{vw:View}
def JV(K:Ë)(k:Str->Option Æ)(J:It)(vw:View)(H0:Hp)(t:Q1):Prop:=
 ∀(i:Nat)(H:Hp)(ρ:Q1)(G:DH),cK K H0 H t ρ->gc K k H ρ G->(vw G i=À Å->J.stop i H) /\
  ∀d,vw G i=À (À d)->J.go i H/\∀x H',J.vZ i H x H'->Ae K k H H' ρ/\Rep K k ρ H' d x
def lU(g:jV)(body:MS)(vw:View):Nat->Nat->MS
 |0,_=>λ_ _=>.stuck
 |f+1,i=>λτ G=>match vw G i with
  |none=>.stuck
  |some Å=>.nx τ G
  |some (À d)=>match g d τ with
   |none=>.stuck
   |some τ1=>match body τ1 G with
    |.nx k t=>lU g body vw f (i+1) k t
    |.ct k t=>lU g body vw f (i+1) k t
    |.bk k t=>.nx k t
    |r=>r
abbrev MI:=DS->M (Nat×View)
def NI(K:Ë)(k:Str->Option Æ)(EE:bV)(t:MI):TI:=λd H R=>∃τ ρ G,Ab K k d H τ ρ G/\match t τ G with
 |.stuck=>False
 |.bR c G'=>∀H' ρ',cK K H H' ρ ρ'->Ab K k d H' τ ρ' G'->EE c d H'
 |.ok (_,vw) G'=>∀J H' ρ',cK K H H' ρ ρ'->Ab K k d H' τ ρ' G'->JV K k J vw H' ρ'->R J H'
def QI(X:Cx)(EE:bV)(t d:Expr)(k:MI):Prop:=PI X t d (NI X.K X.mg EE k)
section
variable{iter a b:Expr}{mi:MI}{p:Pos}
theorem Ic{body:MS}{Dd:Ends}{J:It}{σ0:L2.St}{S:DH}{F:DS}{fuel:Nat}(Y:JV X.K X.mg J vw H0 ρ0)
  (ab:Ab X.K X.mg σ0 H0 F ρ0 S) (ok:sF X.K X.mg EE H0 ρ0 Dd (lU g body vw fuel 0 F S)):
  ∃W:Nat->Nat->L2.St->Hp->Prop,(∃m,W 0 m σ0 H0)/\∀i m D H,W i m D H ->
   (J.stop i H/\Dd.nx D H)\/(J.go i H/\∃N:L2.St->Hp->Prop,(∀k H',N k H'->∃V,V<m/\W (i+1) V k H')/\∀x H',J.vZ i H x H'->zQ X.K X.mg g x D H' λL R=>iQ X.K X.mg EE body {Dd with nx:=N,ct:=N,bk:=Dd.nx} L R):=by
 refine⟨λi m D H=>∃τ ρ G,Ab X.K X.mg D H τ ρ G/\cK X.K H0 H ρ0 ρ/\sF X.K X.mg EE H ρ Dd (lU g body vw m i τ G),⟨fuel,F,ρ0,S,ab,.refl,ok⟩,?_⟩;rintro i m D H ⟨τ,ρ,G,ab,f,ok⟩;cases m with
 |zero=>rfl'
 |succ m=>
  unfold lU at ok;obtain⟨j1,j2⟩:=Y i H ρ G f ab.hp;cases q:vw G i with
  |none=>ac_nf;rfl'
  |some od=>
   ac_nf;cases od with
   |none=>exact .inl ⟨j1 q,ok D H ρ .refl ab⟩
   |some d=>
    nofun;obtain⟨Z,jy⟩:=j2 d q;refine .inr ⟨Z,λk H'=>∃τ' ρ' G',Ab X.K X.mg k H' τ' ρ' G'/\cK X.K H0 H' ρ0 ρ'/\sF X.K X.mg EE H' ρ' Dd (lU g body vw m (i+1) τ' G'),λk H' z=>⟨m,Ŏ _,z⟩,λx H' y=>?_⟩;obtain⟨⟨T,hN⟩,rx⟩:=jy x H' y
    replace ok:=sF.fut T ok
    replace ab:Ab X.K X.mg D H' τ ρ G:=ab.fut T (hN _ ab.hp)
    replace f:=f.trans T
    cases e:g d τ with
    |none=>k_in;rfl'
    |some τ1=>
     k_in;nofun;refine⟨τ,ρ,G,d,τ1,ab,rx,e,λk bf=>⟨τ1,ρ,G,bf,?_⟩⟩;cases eb:body τ1 G with
     |stuck=>rw[eb]at ok;w_up
     |nx t M=>rw[eb]at ok;exact λL R I O U=>⟨t,I,M,U,f.trans O,ok.fut O⟩
     |ct t M=>rw[eb]at ok;exact λL R I O U=>⟨t,I,M,U,f.trans O,ok.fut O⟩
     |bk t M=>rw[eb]at ok;w_up
     |rt d M=>rw[eb]at ok;w_up
     |xn c t M=>rw[eb]at ok;w_up
def jf(g:jV)(d:MI)(body:MS):MS:=λτ=>bC (d τ) (λx G=>lU g body x.2 x.1 0 τ G) λc G=>.xn c τ G
theorem LZ(O:PassesOwn (model X.prog X.w) X.A X.env X.xe)(k:X.calm=Ä)(D:QI X EE tg iter mi)(M:QG X tg g)(L:pg X EE body ms)(I:gu iter=Ä:=by rfl):
  QS X EE (.For tg iter body [] pos) (jf g mi ms):=PS.mono (ya O k D M L (iw I _)) λR F H h=>by
 cb_eq;right;dsimp only[jf,bC]at ok;cases e:mi τ G with
 |stuck=>left
 |bR c G'=>k_in;exact λH' ρ' f d=>ok F H' ρ' f d
 |ok x G'=>k_in;exact λJ H' ρ' f d t=>Ic t d (ok.fut f)
def mj(gO:D->Option X2)(ks:L9)(tt:DS->M Bool)(te:Y2)(n:Nat)(vw:View):Nat->Nat->DS->DH->Out D
 |0,_,_,_=>.stuck
 |f+1,i,τ,G=>match vw G i with
  |none=>.stuck
  |some Å=>.ok (.obj n) G
  |some (À d)=>match cG gO ks tt te n d τ G with
   |.ok _ G'=>mj gO ks tt te n vw f (i+1) τ G'
   |.bR c G'=>.bR c G'
   |.stuck=>.stuck
variable{ow:V->Hp->X1->Prop}{xs:P3}
theorem Fy(hO:jM X.K X.mg ow gO){Q:VK}{J:It}{vw:View}{H0:Hp}{t:L2.St}{k:Q1}{G0:DH}{τ:DS}{fuel:Nat}(Y:JV X.K X.mg J vw H0 k)
  (ab:Ab X.K X.mg t H0 τ k G0) (ok:kI X.K X.mg EE H0 t τ k (mj gO ks tt te G0.length vw fuel 0 τ (G0++[.lst []])) Q):
  ∀D,H0 D=Å->∃W:Nat->Nat->Hp->Prop,(∃m,W 0 m (upd H0 D (.lst [])))/\∀i m H,W i m H ->
   (J.stop i H/\Q (.ref D) H)\/(J.go i H/\∀x H',J.vZ i H x H'->∃vs,ow x H' vs/\liftT X.K X.mg (qu EE t) tt (vs.map À++mask ks t) H' λb U=>if b=Ä then cL X.K X.mg (qu EE t) te (vs.map À++mask ks t) U λv I=>∃ys,I D=À (.lst ys)/\ys.length<Ç/\∃F,F<m/\W (i+1) F (upd I D (.lst (ys++[v]))) else ∃F,F<m/\W (i+1) F U):=by
 intro D V;have O:cK X.K H0 (upd H0 D (.lst [])) k (k++[D]):=(di V k).trans (cZ k D);have LI:Ab X.K X.mg t (upd H0 D (.lst [])) τ (k++[D]) (G0++[.lst []]):=ab.fut O (ab.hp.more V .nil);have S:(k++[D])[G0.length]?=À D:=by rw[<- ab.hp.hl,aF]
 refine⟨λi m H=>∃ρ G,Ab X.K X.mg t H τ ρ G/\cK X.K H0 H k ρ/\ρ[G0.length]?=À D/\kI X.K X.mg EE H t τ ρ (mj gO ks tt te G0.length vw m i τ G) Q,
  ⟨fuel,k++[D],_,LI,O,S,ok.fut O⟩,?_⟩
 rintro i m H ⟨ρ,G,ab,f,L,ok⟩;cases m with
 |zero=>rfl'
 |succ m=>
  unfold mj at ok;obtain⟨j1,j2⟩:=Y i H ρ G f ab.hp;cases q:vw G i with
  |none=>ac_nf;rfl'
  |some od=>
   ac_nf;cases od with
   |none=>exact .inl ⟨j1 q,ok _ H ρ .refl ab (by unfold Rep;exact⟨D,rfl,L⟩)⟩
   |some d=>
    nofun;obtain⟨Z,jy⟩:=j2 d q;refine .inr ⟨Z,λx H' y=>?_⟩;obtain⟨⟨R,hN⟩,rx⟩:=jy x H' y
    replace ok:=kI.fut R ok
    replace ab:Ab X.K X.mg t H' τ ρ G:=ab.fut R (hN _ ab.hp)
    replace f:=f.trans R
    refine qE hO (W:=λI=>∃F,F<m+1/\∃ρ G,Ab X.K X.mg t I τ ρ G/\cK X.K H0 I k ρ/\ρ[G0.length]?=À D/\kI X.K X.mg EE I t τ ρ (mj gO ks tt te G0.length vw F (i+1) τ G) Q)
      ab rx L ?_
    cases e:cG gO ks tt te G0.length d τ G with
    |stuck=>left
    |bR c G'=>left
    |ok _ G'=>k_in;exact λI T M oM=>⟨m,Ŏ _,T,G',oM,f.trans M,M.get L,ok.fut M⟩
def gY(gO:D->Option X2)(ks:L9)(d:MI)(tt:DS->M Bool)(te:Y2):Y2:=λτ=>(d τ).bind λx G=>mj gO ks tt te G.length x.2 x.1 0 τ (G++[.lst []])
theorem tU(D:jM X.K X.mg ow gO){d:L2.St}{H:Hp}{Q:VK}(h:cL X.K X.mg EE (gY gO ks mi tt te) d H Q):
  Ac (NI X.K X.mg EE mi) ks ow (liftT X.K X.mg (qu EE d) tt) (cL X.K X.mg (qu EE d) te) d H Q:=by
 cb_eq;right;dsimp only[gY,M.bind]at ok;cases e:mi τ G with
 |stuck=>left
 |bR c G'=>left
 |ok x G'=>k_in;exact λJ H' ρ' f t k=>Fy D k t (ok.fut f)
variable{elt:Expr}{ifs:U2}
theorem Ie(I:fY X EE)(t:l8 X)(S:bB X.env.scope X.N scope xs ks)(k:Own X scope xs ks tg ow)(F:jM X.K X.mg ow gO)(D:X.calm=Ä)(M:QI X EE tg iter mi)(L:kc X scope xs ifs elt tt te)(J:gu iter=Ä:=by rfl):
  QE X EE (.ListComp elt [⟨tg,iter,ifs,0⟩] scope pos) (gY gO ks mi tt te):=PE.mono (yu (tt:=λd=>liftT X.K X.mg (qu EE d) tt) (te:=λd=>cL X.K X.mg (qu EE d) te) I t S k D M (λd cl C pins s0 H0 fp E=>L cl C pins s0 H0 fp E _) (iw J _)) λ_ _ _ h=>tU F h
theorem Ig(L:fY X EE)(t:l8 X)(S:bB X.env.scope X.N scope xs ks)(k:Own X scope xs ks tg ow)(I:jM X.K X.mg ow gO)(F:X.calm=Ä)(J:X.N.Nodup)(R:X.env.scope.names.lookup y=À .local)(U:QI X EE tg iter mi)(T:kc X scope xs ifs elt tt te)
  (D:swapsWith (.ListComp elt [⟨tg,iter,ifs,0⟩] scope pos) (À (.Name y py)) spos.line X.env=pure Ä) (O:X.N[i]?=À y:=by rfl) (M:gu iter=Ä:=by rfl):
  QS X EE (.Assign [.Name y py] (.ListComp elt [⟨tg,iter,ifs,0⟩] scope pos) spos) (aA i (gY gO ks mi tt te)):=
 PS.mono (yw (tt:=λd=>liftT X.K X.mg (qu EE d) tt) (te:=λd=>cL X.K X.mg (qu EE d) te) L t S k F J U O R D (λd cl C pins s0 H0 fp E=>T cl C pins s0 H0 fp E _) (iw M _)) λ_ _ _ h=>Af (λ_ _ _ h=>tU I h) h
def gP(i j:Nat):jV:=λd τ=>match d with
 |.tup [x,y]=>À ((τ.set i (À x)).set j (À y))
 |_=>Å
theorem L0{Y O:Pos}{k:Nat}(M:X.calm=Ä)(L:X.N.Nodup)(hx:Loc X.env.scope x)(T:Loc X.env.scope y)(D:X.fn x=Ä\/X.env.scope.names.lookup x=À .local)(WJ:X.fn y=Ä\/X.env.scope.names.lookup y=À .local)(hi:X.N[i]?=À x:=by rfl)(S:X.N[j]?=À y:=by rfl):
  QG X (.Tuple [.Name x Y,.Name y O] k pos) (gP i j):=by
 intro pins s Z H v u Q I r zu;obtain⟨τ,ρ,G,d,τ',ab,J,e,q⟩:=zu;refine GD (n:=2) M (lV (mT L hi hx D) (lV (mT L S T WJ) Dm)) rfl rfl pins s Z H v u Q I r ?_;cases d<;>try (cases e;done)
 rename_i ds
 match ds,e with
 |[d1,d2],e=>k_ne;unfold Rep at J;obtain⟨a,vs,rfl,V,R⟩:=J;obtain⟨F,t,rfl,U,r2⟩:=Dy R;exact⟨a,[F,t],rfl,V,rfl,F,[t],rfl,t,[],rfl,rfl,q _ (Ab.set (Ab.set ab U) r2)⟩
def WK(K:Ë)(a:Addr):It:=
 ⟨λi H=>∃xs x,kG K H a xs/\xs[i]?=À x,λi H y H'=>∃x p,(∀xs,kG K H a xs->xs[i]?=À x)/\H p=Å/\y=.ref p/\H'=upd H p (.tup [.int i,x]),λi H=>∃xs,kG K H a xs/\xs.length<=i⟩
theorem Fz{k:Nat}{pt:Pos}(l e it:Addr)(O:e≠it):Turn P w K (.Tuple es k pt) (WK K l) [e,it] e (λi h=>∃J,IsEnum h e it i J/\h.IsListIter it l i) where
 mem:=by simp
 obj:=λi h zz b D=>by
  obtain⟨J,t,F⟩:=zz;rcases Þ.mp D with rfl|D
  ·exact⟨_,t,λv z=>by cases z⟩
  ·have e:b=it:=‹D›
   x_go;obtain⟨o,e,c,d⟩:=F;exact⟨o,e,λv z=>by rw[d]at z;cases z⟩
 keep:=λi h h' zz U=>by obtain⟨J,t,F⟩:=zz;exact⟨J,U e (by simp) _ t,F.at λo q=>U it (by simp) o q⟩
 item:=by
  intro X hP hw hK hc i pins s σ H E I hf zu hg;obtain⟨J,t,F⟩:=zu;subst hP hw hK;obtain⟨xs,x,V,hx⟩:=hg;obtain⟨Z,Y,p,hz⟩:=I.list V;obtain⟨u,hu,ru⟩:=Y.get hx;have WL:e<s.heap.objs.size:=Ù t;have Qy:it<s.heap.objs.size:=by obtain⟨o,q,_⟩:=F;exact Ù q
  refine wpAny_pyNext_enum_item t F p.isList (x:=u) ‹hu› O λh' T hL S hsz U=>?_;refine⟨.ref s.heap.objs.size,rfl,?_⟩
  have I1:Inv X pins σ (upd H s.heap.objs.size (.tup [.int i,x])) {s with heap:=s.heap.push {cls:=.type "tuple",data:=.seq #[.int i s.toks,u]}}:=
   I.laid (t':=s.toks) (λb o q=>Ï _ q) (È _) ⟨by simp[sizeLine_eq],[.int i s.toks,u],.cons ⟨_,rfl⟩ (.cons ru .nil),aat _ _⟩
  have L:=I.hok.fresh (È s.heap.objs.size);have R:∀b∈[e,it],nR X pins (upd H s.heap.objs.size (.tup [.int i,x])) b:=λb D=>by
   have hlt:b≠s.heap.objs.size:=by
    rcases Þ.mp D with rfl|D
    ·exact ã WL
    ·rw[è.mp D];exact ã Qy
   exact⟨by rw[aK hlt];exact(hf b D).1,(hf b D).2⟩
  unfold letOwnedTupleGo;refine Ã (abR T ?_);k_go;rw[Α (by simp)];refine Ã (abm ?_);unfold updateField;refine Ã (abR T ?_);k_go;rw[Α (by simp)];refine wpAny_update T ?_;have yq:∀b,b≠e->(h'.update e (ĉ λx=>x.setIfInBounds 0 Value.none)).get? b=h'.get? b:=λb D=>ý _ _ (õ D);refine⟨.ref s.heap.objs.size,_,sH (t':=s.toks+1) (s:={s with heap:=s.heap.push {cls:=.type "tuple",data:=.seq #[.int i s.toks,u]}}) (ch:=[e,it]) I1 (λb o D q=>?_) R,rfl,⟨x,s.heap.objs.size,λys hy=>by rw[I.oR hy V];exact hx,L,rfl,rfl⟩,⟨u,?_,?_⟩,λb D=>(R b D).1⟩
  ·have M:b≠e:=λz=>D (by simp[z]);have hb2:b≠it:=λz=>D (by simp[z]);show(h'.update e _).get? b=À o;rw[yq b M];by_cases Uh:b=s.heap.objs.size
   ·subst Uh;have:=Ø (o:={cls:=.type "tuple",data:=.seq #[.int (i:Int) s.toks,u]}) s.heap rfl;rw[this]at q;cases q;exact S
   ·have q':(s.heap.push {cls:=.type "tuple",data:=.seq #[.int (i:Int) s.toks,u]}).get? b=À o:=q;refine U b o M hb2 ?_
    rwa [abA _ _ _ Uh]at q'
  ·show(h'.update e _).get? e=_;rw[Č _ T rfl];rfl
  ·exact hL.at λo q=>(yq it (õ O)).trans q
 done:=by intro X hP hw hK hc i pins s σ H E I hf zu hg;obtain⟨J,t,F⟩:=zu;subst hP hw hK;obtain⟨xs,V,hx⟩:=hg;obtain⟨Z,Y,p,hz⟩:=I.list V;room;have hl:=Y.length;exact wpAny_pyNext_enum_end (I.ok.hd hc) t F p.isList (by simp;lia) λh' eb=>⟨rfl,I.turned (t':=s.toks) (λb o D e=>eb b o D e) f0 f1 f3 f4 f5⟩
 self:=λ_ _ _ _ _ zz h=>by obtain⟨J,t,_⟩:=zz;exact aav t h
def nK(d:D):View:=λG i=>match ak G d with
 |some (.lst xs)=>À (xs[i]?.map λx=>.tup [.int i,x])
 |_=>Å
def DJ(m:DS->M X2):MI:=λτ=>(m τ).bind λds=>match ds with
 |[d]=>λG=>match ak G d with
  |some (.lst xs)=>.ok (xs.length+1,nK d) G
  |_=>.stuck
 |_=>M.stop
theorem wJ:bootBuiltins "enumerate"=À (.type "enumerate"):=by symm
theorem L1{d:D}(r:Rep K mg ρ0 H0 d (.ref l))(V:∃xs,ak G0 d=À (.lst xs)):JV K mg (WK K l) (nK d) H0 ρ0:=by
 intro i H ρ G f R;have J:∀zs,ak G d=À (.lst zs)->∃xs,kG K H l xs/\aq K mg ρ H zs xs:=λzs q=>by
  have I:=Rep.mono f d _ r;cases d with
  |con ws=>cases q;unfold Rep at I;obtain⟨a,xs,e,F,rs⟩:=I;k_ne;exact⟨xs,F.seq,rs⟩
  |obj n=>
   unfold ak at q;dsimp only at q;unfold Rep at I;obtain⟨a,e,S⟩:=I;k_ne;cases g:G[n]? with
   |none=>rw[g]at q;cases q
   |some o=>
    cases o with
    |lst ws=>rw[g]at q;cases q;obtain⟨U,xs,e2,h2,rs⟩:=R.lst g;rw[S]at e2;cases e2;exact⟨xs,.of h2,rs⟩
    |_=>first|(rw[q]at ok;exact ok.elim)|(rw[q]at aS;exact aS.elim)|(rw[q]at e;cases e;done)|(rw[g]at ok;exact ok.elim)|(rw[g]at q;cases q;done)|(rw[g]at h;cases h;done)|(rw[g2]at ok;exact ok.elim)|(rw[g1,g2]at ok;exact ok.elim)|(rw[q1]at ok;exact ok.elim)|exact ok.elim
  |tup ws=>cases q
  |str z=>cases q
  |_=>cases q
 unfold nK;cases q:ak G d with
 |none=>exact⟨λe=>(by cases e),λx e=>(by cases e)⟩
 |some sk=>
  cases sk with
  |tup zs=>exact⟨λe=>(by cases e),λx e=>(by cases e)⟩
  |str z=>exact⟨λe=>(by cases e),λx e=>(by cases e)⟩
  |lst zs=>
   obtain⟨xs,F,rs⟩:=J zs q;k_go;constructor
   ·intro e;cases qi:zs[i]? with
    |some z=>rw[qi]at e;k_ne
    |none=>exact⟨xs,F,by rw[<- rs.length];exact Ą.mp qi⟩
   ·intro dd e;cases qi:zs[i]? with
    |none=>rw[qi]at e;k_ne
    |some z=>rw[qi]at e;k_ne;obtain⟨v,L,M⟩:=rs.get qi;refine⟨⟨xs,v,F,L⟩,λy H' O=>?_⟩;obtain⟨T,p,k,t,rfl,rfl⟩:=O;have k:=k xs F;rw[L]at k;cases k;refine⟨Ae.new t,?_⟩;unfold Rep;refine⟨p,[.int i,v],rfl,.of bL,.cons (by unfold Rep;rfl) (.cons (Rep.mono (di t ρ) _ _ M) .nil)⟩
theorem L4{k:Nat}{V:Pos}(hm:X.mg "enumerate"=Å)(rq:Gl X "enumerate")(ha:QA X EE [a] m)(h:av [a]=Ä:=by rfl):QI X EE (.Tuple es k V) (.Call (.Name "enumerate" p) [a] [] pc) (DJ m):=by
 have h':bQ a=Ä/\av []=Ä:=by simpa[av]using h
 intro pins s J H R I hq;obtain⟨τ,ρ,G,ab,ok⟩:=hq;dsimp only[DJ,M.bind]at ok;refine Ā (gT I rq hm wJ ?_ (by decide) (by decide));have hA:lY X.K X.mg EE m J H λvs D=>∃t G1 ds,Ab X.K X.mg J D τ t G1/\cK X.K H D ρ t/\aq X.K X.mg t D ds vs/\m τ G=.ok ds G1:=by
  right;cases e:m τ G with
  |stuck=>left
  |bR c G'=>left
  |ok ds G'=>exact λvs H' ρ' f Y r=>⟨ρ',G',ds,Y,f,r,rfl⟩
 refine ì (d7 (ha pc pins s J H _ I hA) λus s1 zG=>?_) (bu h'.1 _ _) (bK (es:=[]) rfl);obtain⟨vs,D,F,Z,t,G1,ds,S,f1,L,em⟩:=zG;rw[em]at ok;nofun
 match ds,L,ok with
 |[],_,ok=>rfl'
 |_::_::_,_,ok=>rfl'
 |[d],L,ok=>
  obtain⟨x,rfl,T⟩:=fJ L;obtain⟨u,rfl,ru⟩:=vals1 Z;nofun;cases q:ak G1 d with
  |none=>ac_nf;rfl'
  |some sk=>
   ac_nf;cases sk with
   |tup zs=>rfl'
   |str z=>rfl'
   |lst zs=>
    nofun;obtain⟨l,ys,rfl,sq,rv⟩:=bJ (pins:=pins) (σ0:=J) (s:=s1) S.hp T q;cases ru;obtain⟨its,vv,pl,hz⟩:=F.list sq;refine call_enumerate_list pl.isList λh2 U hL hsz kp=>?_;refine aav U ?_;have I2:Inv X pins J D {s1 with heap:=h2}:=F.kept (t':=s1.toks) kp;refine⟨s1.heap.objs.size+1,[s1.heap.objs.size+1,s1.heap.objs.size],_,WK X.K l,D,rfl,I2,Fz l _ _ (acY _),⟨_,U,hL⟩,λb O=>?_,ok _ D t f1 S (L1 T ⟨zs,q⟩)⟩;rcases Þ.mp O with rfl|O
    ·exact F.rW (aaW _) (F.hok.fresh (aaW _))
    ·rw[è.mp O];exact F.rW (È _) (F.hok.fresh (È _))
end
theorem lz(h:n<=2000000):n<=Ç:=by rw[sizeLine_eq];lia
theorem jW(A:DH)(x:DO)(B:DH):(A++x::B)[A.length]?=À x:=by simp
theorem Vo(A:DH)(x y:DO)(B:DH):(A++x::y::B)[A.length+1]?=À y:=by rw[Ò ∅];simp
theorem Cc(A:DH)(x y:DO)(B:DH):(A++x::B).set A.length y=A++y::B:=by rw[ab7 _ _ (È _)];simp
theorem Yh(A:DH)(x y z:DO)(B:DH):(A++x::y::B).set (A.length+1) z=A++x::z::B:=by rw[ab7 _ _ ∅];simp
theorem aH{E:DH}{o:DO}(h:G[n]?=À o):(G++E)[n]?=À o:=by rw[Î (Á.mp h).1];exact h
theorem kR(g:Bool)(i j:Int)(G:DH):e8 g (.int i) (.int j) G=.ok (.bl (g ^^ (i==j))) G:=by simp[e8,EU,nW,ů,abf,aac]
theorem iy(g:Bool)(a b:Str)(G:DH)(d:Ð a=Ä)(k:Ð b=Ä):e8 g (.str a) (.str b) G=.ok (.bl (g ^^ (a==b))) G:=by simp[e8,EU,nW,ů,abf,aac,d,k]
theorem rE(G:DH):∀d:P3,cH (nW G deep) (d.map D.str)=À (d.map Ġ)
 |[]=>rfl
 |w::d=>by have k:=rE G d;simp only[É,cH,k];rfl
theorem tV(t:Str)(d:P3)(G:DH)(h:Ð t=Ä)(I:ł (d.map Ġ)=Ä):KC (.str t) (d.map D.str) G=À (d.any (·==t)):=by
 have F:nW G deep (.str t)=À (.str t):=rfl;unfold KC;rw[F,rE];k_go;have k:(Ġ t).canLay0=Ä:=by simpa[ů]using h
 have J:min (ŗ (d.map Ġ)) (Ġ t).depth<=580:=by
  have:(Ġ t).depth<=580:=by simp[abf]
  lia
 rw[Α (by rw[k,I];simpa using J)];simp only[abY];congr 1
theorem good_add{a:Str}(d:Ð a=Ä)(k:Ð b=Ä):Ð (a++b)=Ä:=by have e:(a++b).cps=a.cps++b.cps:=rfl;unfold Ð at *;rw[e,Array.all_append,d,k];rfl
theorem mX(a b:Str):(a++b).length=a.length+b.length:=by show(a.cps++b.cps).size=a.cps.size+b.cps.size;simp
theorem pG{k:Type}{xs:List k}{i:Int}(D:0<=i)(t:i<xs.length):∃v,gr xs i=À v/\xs[i.toNat]?=À v:=by
 have d:i.toNat<xs.length:=∅
 refine⟨xs[i.toNat],?_,Ê d⟩;have:=bH (xs:=xs) (j:=i.toNat) (v:=xs[i.toNat]) (Ê d)
 rwa [show((i.toNat:Nat):Int)=i by lia]at this
theorem kU{j:Int}(t:0<=j)(d:j<100000):e7 [.int j]=À ((ç 0 j.toNat).map λ(k:Nat)=>.int (0+(k:Int))):=by show(if -(2^62)<=j/\j<2^62 then À ((ø j.toNat).map λ(k:Nat)=>D.int (0+(k:Int))) else Å)=_;rw[Α ⟨∅,∅⟩,acj]
theorem yx{gO:D->Option X2}{ks:L9}{tt:DS->M Bool}{te:Y2}{n src:Nat}{τ:DS}{xs:X2}(t:DH->Prop)(U:∀G,t G->G[src]?=À (.lst xs))(F:∀G d G',d∈xs->t G->cG gO ks tt te n d τ G=.ok () G'->t G'):
  ∀(fuel k:Nat)(G:DH),xs.length<fuel+k->k<=xs.length->t G->nJ gO ks tt te n src fuel k τ G=cC gO ks tt te n (xs.drop k) τ G
 |0,k,G,O,L,J=>by exfalso;lia
 |fuel+1,k,G,O,L,J=>by
  unfold nJ;rw[U G J];k_go;by_cases I:k<xs.length
  ·rw[Ê I,ĸ I,cC];k_go;cases e:cG gO ks tt te n xs[k] τ G with
   |stuck=>rfl
   |bR c G'=>rfl
   |ok u G'=>k_go;exact yx t U F fuel (k+1) G' ∅ ∅ (F G _ G' (Ŷ I) J e)
  ·rw[ö ∅,ŋ ∅,cC]
def Res.sq(r:Res)(k:MS):Res:=match r with
 |.nx τ G=>k τ G
 |r=>r
def Out.cs(r:Out Bool)(a b:MS)(τ:DS):Res:=match r with
 |.stuck=>.stuck
 |.ok c G=>if c=Ä then a τ G else b τ G
 |.bR c G=>.xn c τ G
def Out.st(r:Out D)(i:Nat)(τ:DS):Res:=match r with
 |.stuck=>.stuck
 |.ok d G=>.nx (τ.set i (À d)) G
 |.bR c G=>.xn c τ G
def Out.xp(r:Out D)(τ:DS):Res:=match r with
 |.stuck=>.stuck
 |.ok d G=>.nx τ G
 |.bR c G=>.xn c τ G
def Out.rn(r:Out D)(τ:DS):Res:=match r with
 |.stuck=>.stuck
 |.ok d G=>.rt d G
 |.bR c G=>.xn c τ G
def Out.bd{d t:Type}(r:Out d)(k:d->M t):Out t:=match r with
 |.stuck=>.stuck
 |.ok a G=>k a G
 |.bR c G=>.bR c G
def Out.sb{d:Type}(r:Out d)(τ:DS)(k:d->DH->Res):Res:=match r with
 |.stuck=>.stuck
 |.ok a G=>k a G
 |.bR c G=>.xn c τ G
def Res.fn(r:Res):Out D:=match r with
 |.stuck=>.stuck
 |.nx _ G'=>.ok .bw G'
 |.rt d G'=>.ok d G'
 |.bk _ _=>.stuck
 |.ct _ _=>.stuck
 |.xn c _ G'=>.bR c G'
def Res.lp(r:Res)(k:MS):Res:=match r with
 |.nx τ G=>k τ G
 |.ct τ G=>k τ G
 |.bk τ G=>.nx τ G
 |r=>r
def WM(m k:MS):MS:=λτ G=>(m τ G).lp k
section
variable{m k:MS}{t ta tb:DS->M Bool}{a b:MS}{e ma mb:Y2}{d:D}{c:XD}{β:Type}{ml:DS->M X2}{fl:X2->M D}
@[simp]def f6:au m k τ G=(m τ G).sq k:=by unfold au Res.sq;cases m τ G<;>rfl
@[simp]def gw:(Res.nx τ G).sq k=k τ G:=î rfl rfl
@[simp]def wK:(Res.rt d G).sq k=.rt d G:=î rfl rfl
@[simp]def tW:jb t a b τ G=(t τ G).cs a b τ:=by unfold jb bC Out.cs;cases t τ G<;>rfl
@[simp]def Cd:(Out.ok Ä G).cs a b τ=a τ G:=î rfl rfl
@[simp]def Ce:(Out.ok Â G).cs a b τ=b τ G:=î rfl rfl
@[simp]def mq:aA i e τ G=(e τ G).st i τ:=by unfold aA bC Out.st;cases e τ G<;>rfl
@[simp]def rF:(Out.ok d G).st i τ=.nx (τ.set i (À d)) G:=î rfl rfl
@[simp]def jD:eL e τ G=(e τ G).xp τ:=by unfold eL bC Out.xp;cases e τ G<;>rfl
@[simp]def kg:(Out.ok d G).xp τ=.nx τ G:=î rfl rfl
@[simp]def tX:b9 e τ G=(e τ G).rn τ:=by unfold b9 bC Out.rn;cases e τ G<;>rfl
@[simp]def nL:(Out.ok d G).rn τ=.rt d G:=î rfl rfl
@[simp]def mY:bD τ G=.nx τ G:=î rfl rfl
@[simp]def dQ{x:α}{q:α->M β}:(Out.ok x G).bd q=q x G:=î rfl rfl
@[simp]def aI{D:M α}{q:α->M β}:M.bind D q G=(D G).bd q:=by unfold M.bind Out.bd;cases D G<;>rfl
@[simp]def NJ{x:α}:M.ret x G=.ok x G:=î rfl rfl
@[simp]def gZ:aa i τ G=match τ[i]? with
 |some (À d)=>.ok d G
 |_=>.stuck:=î rfl rfl
@[simp]def L5:eC d τ G=.ok d G:=î rfl rfl
@[simp]def tY:aj f ma mb τ G=(ma τ G).bd λx=>(mb τ).bind λy=>f x y:=aI
@[simp]def pH:ai fl ml τ G=(ml τ G).bd fl:=aI
@[simp]def qG:ah τ G=.ok [] G:=î rfl rfl
@[simp]def yy:af ma ml τ G=(ma τ G).bd λx=>(ml τ).bind λxs=>M.ret (x::xs):=aI
def Uj:D->M Bool
 |.bl b=>M.ret b
 |_=>M.stop
@[simp]def Uk:b8 e τ G=(e τ G).bd Uj:=by unfold b8;rw[aI];unfold Out.bd;cases e τ G<;>try rfl
@[simp]def Qz{b:Bool}:Uj (.bl b) G=.ok b G:=î rfl rfl
@[simp]def pI{q:D->M Bool}:jJ q e τ G=(e τ G).bd q:=aI
@[simp]def sI:zN t τ G=(t τ G).bd λc=>M.ret (!c):=aI
@[simp]def oj:rZ ta tb τ G=(ta τ G).bd λc=>if c=Ä then M.ret Ä else tb τ:=aI
@[simp]def pJ:eG ta tb τ G=(ta τ G).bd λc=>if c=Ä then tb τ else M.ret Â:=aI
@[simp]def DK{F:X2->M D}:aC n F ml τ G=(ml τ G).bd λds=>if ds.length=n then F ds else M.stop:=aI
@[simp]def jh{T:String}{g:D->X2->M D}:bz T g mo ml τ G=(mo τ G).bd λd G=>if c7 T G d=Ä then (ml τ G).bd (g d) else .stuck:=by
 unfold bz;rw[aI];unfold Out.bd;cases mo τ G with
 |stuck=>rfl
 |bR c G=>rfl
 |ok d G'=>simp only[aI];rfl
@[simp]def Yi:Ht t ma mb τ G=(t τ G).bd λc=>if c=Ä then ma τ else mb τ:=aI
@[simp]def mZ{D:X2->Option X2}{g:jV}{body:MS}:iu D g ml body τ G=(ml τ G).sb τ λds G=>match D ds with
  |some xs=>aT g body xs τ G
  |none=>.stuck:=by
 unfold iu bC Out.sb;cases ml τ G<;>rfl
@[simp]def fh{g:jV}{body:MS}:e9 g e body τ G=(e τ G).sb τ λd G=>match d with
  |.obj n=>match G[n]? with
   |some (.lst xs)=>nX g body n (xs.length+1) 0 τ G
   |_=>.stuck
  |.tup xs=>aT g body xs τ G
  |.con xs=>aT g body xs τ G
  |.str z=>aT g body (z.cps.toList.map λc=>.str ⟨#[c]⟩) τ G
  |_=>.stuck:=by
 unfold e9 bC Out.sb;cases e τ G<;>rfl
@[simp]def gx{g:jV}{D:MI}{body:MS}:jf g D body τ G=(D τ G).sb τ λx G=>lU g body x.2 x.1 0 τ G:=by unfold jf bC Out.sb;cases D τ G<;>rfl
@[simp]def Ii{x:α}{q:α->DH->Res}:(Out.ok x G).sb τ q=q x G:=î rfl rfl
@[simp]def m5{gO:D->Option X2}{ks:L9}{tt:DS->M Bool}{te:Y2}:dD gO ks e tt te τ G=(e τ G).bd λd G=>match d with
  |.obj k=>match G[k]? with
   |some (.lst xs)=>nJ gO ks tt te G.length k (xs.length+1) 0 τ (G++[.lst []])
   |_=>.stuck
  |.tup xs=>cC gO ks tt te G.length xs τ (G++[.lst []])
  |.con xs=>cC gO ks tt te G.length xs τ (G++[.lst []])
  |.str z=>cC gO ks tt te G.length (z.cps.toList.map λc=>.str ⟨#[c]⟩) τ (G++[.lst []])
  |_=>.stuck:=aI
@[simp]def pK{F:X2->Option X2}{gO:D->Option X2}{ks:L9}{tt:DS->M Bool}{te:Y2}:cT F gO ks ml tt te τ G=(ml τ G).bd λds G=>match F ds with
  |some xs=>cC gO ks tt te G.length xs τ (G++[.lst []])
  |none=>.stuck:=aI
@[simp]def Ij{gO:D->Option X2}{ks:L9}{F:MI}{tt:DS->M Bool}{te:Y2}:gY gO ks F tt te τ G=(F τ G).bd λx G=>mj gO ks tt te G.length x.2 x.1 0 τ (G++[.lst []]):=aI
@[simp]def bG{ds:X2}:cg n m ds G=(m (ds.map À++Ô (n-ds.length) Å) G).fn:=by unfold cg Res.fn;cases m (ds.map À++Ô (n-ds.length) Å) G<;>rfl
@[simp]def iR:(Res.rt d G).fn=.ok d G:=î rfl rfl
@[simp]def tZ{D F:DS->M (Option Int)}:jK e D F τ G=(e τ G).bd λd=>(D τ).bind λl=>(F τ).bind λh=>tF d l h:=aI
@[simp]def m6:cM τ G=.ok Å G:=î rfl rfl
def Ik:D->M (Option Int)
 |.int i=>M.ret (À i)
 |_=>M.stop
@[simp]def kW:bq e τ G=(e τ G).bd Ik:=by unfold bq;rw[aI];unfold Out.bd;cases e τ G<;>try rfl
@[simp]def m7{i:Int}:Ik (.int i) G=.ok (À i) G:=î rfl rfl
def Ul:D->M D
 |.int i=>M.ret (.int (-i))
 |_=>M.stop
@[simp]def Il:zP e τ G=(e τ G).bd Ul:=by unfold zP;rw[aI];unfold Out.bd;cases e τ G<;>try rfl
@[simp]def Im{i:Int}:Ul (.int i) G=.ok (.int (-i)) G:=î rfl rfl
@[simp]def Io{F:Str->Option (X2->M D)}:oh i n F ml τ G=match τ[i]? with
 |some (À (.fn y))=>match F y with
  |some I=>aC n I ml τ G
  |none=>.stuck
 |_=>.stuck:=î rfl rfl
@[simp]def Ip:WM m k τ G=(m τ G).lp k:=î rfl rfl
@[simp]def cV:(Res.nx τ G).lp k=k τ G:=î rfl rfl
@[simp]def kh:dJ t m (n+1) τ G=(t τ G).cs (WM m (dJ t m n)) bD τ:=by
 rw[dJ];unfold bC Out.cs;k_go;cases t τ G with
 |stuck=>rfl
 |bR c G=>rfl
 |ok b G'=>
  cases b with
  |false=>rfl
  |true=>simp only[if_true];unfold WM Res.lp;cases m τ G'<;>rfl
theorem aY{body:MS}{x:D}{r:X2}(h:g x τ=À τ1):aT g body (x::r) τ G=(body τ1 G).lp (aT g body r):=by rw[aT,h];k_go;unfold Res.lp;cases body τ1 G<;>rfl
theorem yz{body:MS}{xs:X2}{x:D}(F:G[src]?=À (.lst xs))(I:xs[j]?=À x)(h:g x τ=À τ1):nX g body src (fu+1) j τ G=(body τ1 G).lp (nX g body src fu (j+1)):=by rw[nX,F];k_go;rw[I];k_go;rw[h];k_go;unfold Res.lp;cases body τ1 G<;>rfl
theorem Ag{body:MS}{xs:X2}(D:G[src]?=À (.lst xs))(F:xs[j]?=Å):nX g body src (fu+1) j τ G=.nx τ G:=by rw[nX,D];k_go;rw[F]
end
def jN(l:List Nat):Str:=⟨l.toArray⟩
theorem Iq(l:List Nat):(jN l).cps.toList=l:=by simp[jN]
theorem NK(s:Str):jN s.cps.toList=s:=by cases s;simp[jN]
theorem yC{a:Str}(h:a.cps.toList=b.cps.toList):a=b:=by rw[<- NK a,<- NK b,h]
def pL(s:List Nat):List (List Nat)->List Nat
 |[]=>[]
 |[p]=>p
 |p::q::d=>p++s++pL s (q::d)
theorem QB(y:Str):∀d:P3,(y.join d).cps.toList=pL y.cps.toList (d.map λp=>p.cps.toList)
 |[]=>by rw[<- aaF];simp[abB,pL,Str.empty]
 |p::d=>by
  rw[<- aaF];have k:∀(d:P3)(a:Array Nat),(acE (λt (p:Str)=>t++y.cps++p.cps) a d).toList=pL y.cps.toList (a.toList::d.map λp=>p.cps.toList):=by
   intro d
   induction d with
   |nil=>intro a;simp[pL]
   |cons q qs D=>
    intro a;rw[ą,D];cases qs with
    |nil=>simp[pL]
    |cons r F=>simp[pL]
  simpa[abB]using k d p.cps
section
variable{m k mb me:MS}{e:Y2}{c:XD}{ml:DS->M X2}{d:D}
@[simp]def Ir:nZ x ml τ G=(ml τ G).sb τ λds G=>if ds.length<=Ç then .xn (.mk x ds) τ G else .stuck:=by unfold nZ bC Out.sb;cases ml τ G<;>rfl
def Res.tr(r:Res)(D:XD->MS)(t:MS):Res:=match r with
 |.nx τ' G'=>t τ' G'
 |.xn c τ' G'=>D c τ' G'
 |r=>r
theorem Cg:Aa mb mh me τ G=(mb τ G).tr mh me:=by unfold Aa Res.tr;cases mb τ G<;>rfl
theorem NN:(Res.nx τ G).tr mh me=me τ G:=î rfl rfl
theorem Um:(Res.xn c τ G).tr mh me=mh c τ G:=î rfl rfl
theorem L6{p:Str->Option Bool}{r:XD->MS}{n:Str}{t:X2}:tM p m r (.mk n t) τ G=match p n with
  |some Ä=>Qc (m τ G)
  |some Â=>r (.mk n t) τ G
  |none=>.stuck:=î rfl rfl
theorem L7:Qc (Res.nx τ G)=.nx τ G:=î rfl rfl
end
mutual
def D.closed:D->Bool
 |.tup ds=>aG ds
 |.con ds=>aG ds
 |.obj _=>Â
 |.Ky _ _=>Â
 |.Kz _ _=>Â
 |_=>Ä
def aG:X2->Bool
 |[]=>Ä
 |d::r=>d.closed&&aG r
end
def nB(a b:DH):Bool:=@decide (a=b) (aah _)
theorem ki(a:DH):nB a a=Ä:=@decide_eq_true _ (aah _) rfl
theorem kX(a b:DH)(h:nB a b=Ä):a=b:=@of_decide_eq_true _ (aah _) h
section
mutual
theorem om:∀(d:D)(v:V),d.closed=Ä->Rep K mg ρ H d v->Rep K mg ρ' H d v
 |.bw,v,c,h=>by unfold Rep at h |-;exact h
 |.bl b,v,c,h=>by unfold Rep at h |-;exact h
 |.int i,v,c,h=>by unfold Rep at h |-;exact h
 |.str x,v,c,h=>by unfold Rep at h |-;exact h
 |.tup ds,v,c,h=>by unfold Rep at h |-;obtain⟨a,xs,e,s,r⟩:=h;exact⟨a,xs,e,s,gf ds xs (by simpa[D.closed]using c) r⟩
 |.con ds,v,c,h=>by unfold Rep at h |-;obtain⟨a,xs,e,s,r⟩:=h;exact⟨a,xs,e,s,gf ds xs (by simpa[D.closed]using c) r⟩
 |.obj n,v,c,h=>by simp[D.closed]at c
 |.fn x,v,c,h=>by unfold Rep at h |-;exact h
 |.Ky _ _,v,c,h=>by simp[D.closed]at c
 |.Kz _ _,v,c,h=>by simp[D.closed]at c
theorem gf:∀(ds:X2)(vs:X1),aG ds=Ä->aq K mg ρ H ds vs->aq K mg ρ' H ds vs
 |[],vs,c,h=>by unfold aq at h |-;exact h
 |d::ds,vs,c,h=>by
  have k:d.closed=Ä/\aG ds=Ä:=by simpa[aG]using c
  unfold aq at h |-;obtain⟨v,r,e,t,D⟩:=h;exact⟨v,r,e,om d v k.1 t,gf ds r k.2 D⟩
end
mutual
theorem Rep.back(p:∃r,ρ'=ρ++r):∀(d:D)(v0 v:V),Rep K mg ρ H d v0->Rep K mg ρ' H' d v->Rep K mg ρ H' d v
 |.bw,v0,v,t,h=>by unfold Rep at h |-;exact h
 |.bl b,v0,v,t,h=>by unfold Rep at h |-;exact h
 |.int i,v0,v,t,h=>by unfold Rep at h |-;exact h
 |.str x,v0,v,t,h=>by unfold Rep at h |-;exact h
 |.tup ds,v0,v,t,h=>by unfold Rep at t h |-;obtain⟨a,xs,e,s,r⟩:=h;obtain⟨L,F,M,s0,I⟩:=t;exact⟨a,xs,e,s,aq.back p ds F xs I r⟩
 |.con ds,v0,v,t,h=>by unfold Rep at t h |-;obtain⟨a,xs,e,s,r⟩:=h;obtain⟨L,F,M,s0,I⟩:=t;exact⟨a,xs,e,s,aq.back p ds F xs I r⟩
 |.obj n,v0,v,t,h=>by unfold Rep at t h |-;obtain⟨a,e,q⟩:=h;obtain⟨L,M,J⟩:=t;obtain⟨r,rfl⟩:=p;rw[Î (Á.mp J).1]at q;exact⟨a,e,q⟩
 |.fn x,v0,v,t,h=>by unfold Rep at h |-;exact h
 |.Ky c T,v0,v,t,h=>by unfold Rep at h |-;exact h
 |.Kz y ds,v0,v,t,h=>by unfold Rep at t h |-;obtain⟨k,a,R,xs,e,J,O,S,r⟩:=h;obtain⟨_,_,_,F,_,_,_,_,I⟩:=t;exact⟨k,a,R,xs,e,J,O,S,aq.back p ds F xs I r⟩
theorem aq.back(p:∃r,ρ'=ρ++r):∀(ds:X2)(k vs:X1),aq K mg ρ H ds k->aq K mg ρ' H' ds vs->aq K mg ρ H' ds vs
 |[],k,vs,t,h=>by unfold aq at h |-;exact h
 |d::ds,k,vs,t,h=>by unfold aq at t h |-;obtain⟨v,r,e,I,F⟩:=h;obtain⟨v0,J,L,D,Z⟩:=t;exact⟨v,r,e,Rep.back p d v0 v D I,aq.back p ds J r Z F⟩
end
theorem gc.cut(h:gc K mg H ρ G)(p:∃r,ρ'=ρ++r)(h':gc K mg H' ρ' G')(e:G'.take G.length=G):gc K mg H' ρ G:=by
 refine⟨h.hl,h.nd,λn o q=>?_⟩;have M:n<G.length:=(Á.mp q).1;have T:G'[n]?=À o:=by rw[<- e,ŧ]at q;rw[Α M]at q;exact q
 obtain⟨R,J,F⟩:=h.ob n o q;obtain⟨a,L,D⟩:=h'.ob n o T;have S:a=R:=by obtain⟨r,rfl⟩:=p;rw[Î (by rw[h.hl];exact M),J]at L;exact(æ L).symm
 subst S;refine⟨a,J,?_⟩;cases o with
 |dct kv=>obtain⟨xs,t,d⟩:=D;obtain⟨k,_,I⟩:=F;exact⟨xs,t,aq.back p _ k xs I d⟩
 |aU f kv=>obtain⟨xs,t,d⟩:=D;obtain⟨k,_,I⟩:=F;exact⟨xs,t,aq.back p _ k xs I d⟩
 |RY kv=>obtain⟨xs,t,d⟩:=D;obtain⟨k,_,I⟩:=F;exact⟨xs,t,aq.back p _ k xs I d⟩
 |ins c U=>obtain⟨C,O,xs,m,t,d⟩:=D;obtain⟨_,_,k,_,_,I⟩:=F;exact⟨C,O,xs,m,t,aq.back p _ k xs I d⟩
 |lst ds=>obtain⟨xs,t,d⟩:=D;obtain⟨k,_,I⟩:=F;exact⟨xs,t,aq.back p ds k xs I d⟩
 |_=>exact D
theorem pM(e:H a=À (.lst xs))(ρ:Q1):cK K H (upd H a (.eU o (.lst xs))) ρ ρ:=by
 refine⟨λb d h=>?_,λb q u h=>by rw[aK (eY h e (by intro z;cases z))];exact h,⟨[],by simp⟩,λb φ h=>by rw[aK (eY h e (by intro z;cases z))];exact h⟩
 ·rw[zu]at h |-;rw[aK (eY h e (by intro z;cases z))];exact h
theorem gc.eU(h:gc K mg H ρ G)(t:ρ[n]?=À a)(e:H a=À (.lst xs)):gc K mg (upd H a (.eU o (.lst xs))) ρ (G.set n .dead):=by
 have f:cK K H (upd H a (.eU o (.lst xs))) ρ ρ:=pM e ρ;refine⟨by simp[h.hl],h.nd,λm J q=>?_⟩;by_cases d:n=m
 ·subst d;rw[å,Α rfl]at q;split at q
  ·cases q;exact⟨a,t,_,bL⟩
  ·cases q
 ·rw[Í d]at q;obtain⟨b,k,D⟩:=h.ob m J q;have I:b≠a:=by rintro rfl;obtain⟨O,F⟩:=Á.mp t;obtain⟨M,L⟩:=Á.mp k;exact d ((Ļ h.nd).mp (F.trans L.symm))
  exact⟨b,k,D.mono f λu q=>by rw[aK I];exact q⟩
end
section
theorem DM(I:Inv X pins σ H s)(e:H a=À (.lst xs)):∃o,Inv X pins σ (upd H a (.eU o (.lst xs))) s:=by
 obtain⟨z,its,n,r,hg⟩:=I.hok a _ e;refine⟨_,I.un (H':=upd H a (.eU {cls:=.type "list",data:=.seq its.toArray n} (.lst xs))) (h':=s.heap) (t':=s.toks) ⟨λb o q _ _ _=>q,λb o q _ _ _=>⟨o.slots,q⟩,λb o q d _=>?_,λb o q _=>⟨o,q⟩,λb ys q=>?_,λb o u q=>?_,λb F q=>⟨#[],?_⟩⟩ λb u q=>?_⟩
 ·rw[aK (by rintro rfl;rw[e]at d;cases d)];exact d
 ·rw[aK (eY q e (by intro z;cases z))];exact q
 ·rw[aK (eY q e (by intro z;cases z))];exact q
 ·rw[aK (eY q e (by intro z;cases z)),q];simp
 ·have t:∀c y,H c=À (.own y)->upd H a (.eU {cls:=.type "list",data:=.seq its.toArray n} (.lst xs)) c=À (.own y):=λc y w=>by rw[aK (eY w e (by intro z;cases z))];exact w
  have k:∀c ys,H c=À (.tup ys)->upd H a (.eU {cls:=.type "list",data:=.seq its.toArray n} (.lst xs)) c=À (.tup ys):=λc ys w=>by rw[aK (eY w e (by intro z;cases z))];exact w
  by_cases D:b=a
  ·subst D;rw[bL]at q;cases q;exact⟨hg,(I.hok b _ e).stay (λ_ _ _ w=>w) (λc w=>t c b w) k⟩
  ·rw[aK D]at q;exact(I.hok b u q).stay (λ_ _ _ w=>w) (λc w=>t c b w) k
def r8(m:Y2):Y2:=λτ G=>match m τ G with
 |.ok (.obj n) G'=>match G'[n]? with
  |some (.lst ds)=>.ok (.con ds) (G'.set n .dead)
  |_=>.stuck
 |r=>r
def eFn(m:Y2):Y2:=λτ G=>match m τ G with
 |.ok (.obj n) G'=>match G'[n]? with
  |some (.lst ds)=>if n=G.length/\G'.length=n+1/\nB (G'.take G.length) G=Ä/\aG ds=Ä then .ok (.con ds) G else .stuck
  |_=>.stuck
 |r=>r
theorem Iv{Q d:VK}{u:Æ}(h:EP X pins σ d u s)(t:∀v H',d v H'->Q v H'\/∃a xs,v=.ref a/\H' a=À (.lst xs)/\∀o,Q v (upd H' a (.eU o (.lst xs)))):EP X pins σ Q u s:=by
 obtain⟨v,H',I,r,q⟩:=h;rcases t v H' q with q|⟨a,xs,rfl,e,q⟩
 ·exact⟨v,H',I,r,q⟩
 ·obtain⟨o,k⟩:=DM I e;exact⟨_,_,k,r,q o⟩
theorem Uo{m:Y2}(F:QE X EE e m):QE X EE e (r8 m):=by
 intro pins s k H Q I zu;obtain⟨τ,ρ,G,ab,ok⟩:=zu;dsimp only[r8]at ok;cases q:m τ G with
 |stuck=>ac_nf;rfl'
 |bR c G'=>ac_nf;exact F pins s k H Q I ⟨τ,ρ,G,ab,by rw[q];exact ok⟩
 |ok d G'=>
  ac_nf;by_cases M:∃n,d=.obj n
  ·obtain⟨n,rfl⟩:=M;nofun;cases g:G'[n]? with
   |none=>kd_p;rfl'
   |some o=>
    kd_p;cases o with
    |lst ds=>refine d7 (F pins s k H (λv H'=>∃a xs,v=.ref a/\H' a=À (.lst xs)/\∀o,Q v (upd H' a (.eU o (.lst xs)))) I ⟨τ,ρ,G,ab,?_⟩) λu R h=>Iv h λv H' q=>.inr q;rw[q];intro v H' ρ' f D r;unfold Rep at r;obtain⟨a,rfl,L⟩:=r;obtain⟨S,xs,e1,e2,O⟩:=D.hp.lst g;rw[L]at e1;cases e1;refine⟨a,xs,rfl,e2,λob=>?_⟩;have t:cK X.K H' (upd H' a (.eU ob (.lst xs))) ρ' ρ':=pM e2 ρ';refine ok _ _ ρ' (f.trans t) ⟨D.st.mono t,D.hp.eU L e2⟩ ?_;unfold Rep;exact⟨a,xs,rfl,.inl ⟨ob,bL⟩,O.mono t⟩
    |_=>rfl'
  ·have J:kI X.K X.mg EE H k τ ρ (.ok d G') Q:=by cases d<;>first|exact ok|exact absurd ⟨_,rfl⟩ M
   exact F pins s k H Q I ⟨τ,ρ,G,ab,by rw[q];exact J⟩
theorem QC{m:Y2}(L:QE X EE e m):QE X EE e (eFn m):=by
 intro pins s t H Q I zu;obtain⟨τ,ρ,G,ab,ok⟩:=zu;dsimp only[eFn]at ok;cases q:m τ G with
 |stuck=>ac_nf;rfl'
 |bR c G'=>ac_nf;exact L pins s t H Q I ⟨τ,ρ,G,ab,by rw[q];exact ok⟩
 |ok d G'=>
  ac_nf;by_cases T:∃n,d=.obj n
  ·obtain⟨n,rfl⟩:=T;nofun;cases g:G'[n]? with
   |none=>kd_p;rfl'
   |some o=>
    kd_p;cases o with
    |lst ds=>
     nofun;by_cases D:n=G.length/\G'.length=n+1/\nB (G'.take G.length) G=Ä/\aG ds=Ä
     ·rw[Α D]at ok;obtain⟨hn0,hl,Y,J⟩:=D;refine d7 (L pins s t H (λv H'=>∃a xs,v=.ref a/\H' a=À (.lst xs)/\∀o,Q v (upd H' a (.eU o (.lst xs)))) I ⟨τ,ρ,G,ab,?_⟩) λu s' h=>Iv h λv H' q=>.inr q;rw[q];intro v H' ρ' f O r;unfold Rep at r;obtain⟨a,rfl,R⟩:=r;obtain⟨a',xs,e1,e2,V⟩:=O.hp.lst g;rw[R]at e1;cases e1;refine⟨a,xs,rfl,e2,λob=>?_⟩;have k:cK X.K H' (upd H' a (.eU ob (.lst xs))) ρ' ρ':=pM e2 ρ';have S:cK X.K H (upd H' a (.eU ob (.lst xs))) ρ ρ:=⟨λb ys w=>k.tup b ys (f.tup b ys w),λb o u w=>k.eU b o u (f.eU b o u w),⟨[],by simp⟩,λb U w=>k.ext b U (f.ext b U w)⟩;have F:=O.hp.eU (o:=ob) R e2;have Z:gc X.K X.mg (upd H' a (.eU ob (.lst xs))) ρ G:=ab.hp.cut f.pre F (by rw[Ĵ ∅];exact kX _ _ Y)
      refine ok _ _ ρ S ⟨ab.st.mono S,Z⟩ ?_;unfold Rep;exact⟨a,xs,rfl,.inl ⟨ob,bL⟩,gf ds xs J (V.mono k)⟩
     ·rw[Β D]at ok;rfl'
    |_=>rfl'
  ·have M:kI X.K X.mg EE H t τ ρ (.ok d G') Q:=by cases d<;>first|exact ok|exact absurd ⟨_,rfl⟩ T
   exact L pins s t H Q I ⟨τ,ρ,G,ab,by rw[q];exact M⟩
end
def dm(m:X2->M D):X2->M D:=λds G=>match m ds G with
 |.ok d G'=>if nB (G'.take G.length) G=Ä/\d.closed=Ä then .ok d G else .stuck
 |.bR c G'=>if nB (G'.take G.length) G=Ä then .bR c G else .stuck
 |.stuck=>.stuck
def kY(m:X2->M D):X2->M D:=λds G=>match m ds G with
 |.ok (.obj n) G'=>match G'[n]? with
  |some (.lst xs)=>if nB (G'.take G.length) G=Ä/\G.length<=n/\aG xs=Ä then .ok (.obj G.length) (G++[.lst xs]) else .stuck
  |_=>.stuck
 |.bR c G'=>if nB (G'.take G.length) G=Ä then .bR c G else .stuck
 |_=>.stuck
section
variable{m:X2->M D}
theorem ko(f:cK K H H' ρ ρ'):cK K H H' ρ ρ:=⟨f.tup,f.eU,⟨[],by simp⟩,f.ext⟩
theorem DP(vs:X1)(H:Hp)(Q:VK)(E:XK)(h:iX K mg n (dm m) vs H Q E):iX K mg n m vs H Q E:=by
 obtain⟨ds,ρ,G,L,I,J,ok⟩:=h;refine⟨ds,ρ,G,L,I,J,?_⟩;dsimp only[dm]at ok;cases q:m ds G with
 |stuck=>ac_nf;w_up
 |ok d G'=>
  ac_nf;nofun;by_cases k:nB (G'.take G.length) G=Ä/\d.closed=Ä
  ·rw[Α k]at ok;intro v H' ρ' f F r;exact ok v H' ρ (ko f) (I.cut f.pre F (kX _ _ k.1)) (om d v k.2 r)
  ·rw[Β k]at ok;rfl'
 |bR c G'=>
  ac_nf;nofun;by_cases k:nB (G'.take G.length) G=Ä
  ·rw[Α k]at ok;intro t H' ρ' D f F;exact ok t H' ρ D (ko f) (I.cut f.pre F (kX _ _ k))
  ·rw[Β k]at ok;rfl'
theorem Iw(vs:X1)(H:Hp)(Q:VK)(E:XK)(h:iX K mg n (kY m) vs H Q E):iX K mg n m vs H Q E:=by
 obtain⟨ds,ρ,G,hl,D,Y,ok⟩:=h;refine⟨ds,ρ,G,hl,D,Y,?_⟩;dsimp only[kY]at ok;cases q:m ds G with
 |stuck=>ac_nf;w_up
 |bR c G'=>
  ac_nf;nofun;by_cases t:nB (G'.take G.length) G=Ä
  ·rw[Α t]at ok;intro R H' ρ' S f F;exact ok R H' ρ S (ko f) (D.cut f.pre F (kX _ _ t))
  ·rw[Β t]at ok;rfl'
 |ok d G'=>
  ac_nf;cases d<;>try exact ok.elim
  rename_i k;nofun;cases g:G'[k]? with
  |none=>kd_p;rfl'
  |some o=>
   kd_p;cases o with
   |lst xs=>
    nofun;by_cases t:nB (G'.take G.length) G=Ä/\G.length<=k/\aG xs=Ä
    ·rw[Α t]at ok;intro v H' ρ' f F r;unfold Rep at r;obtain⟨a,rfl,U⟩:=r;obtain⟨a',ys,V,e2,J⟩:=F.lst g;rw[U]at V;cases V;have I:=D.cut f.pre F (kX _ _ t.1);have M:a∉ρ:=by
      intro hm;obtain⟨j,L,ej⟩:=ğ hm;obtain⟨r,rfl⟩:=f.pre;obtain⟨h1,wA⟩:=Á.mp U;have hjl:j<(ρ++r).length:=by simp;lia
      have:(ρ++r)[j]=(ρ++r)[k]:=by rw[wA,List.getElem_append_left L,ej]
      have:=(Ļ F.nd).mp this;have:=D.hl;lia
     refine ok (.ref a) H' (ρ++[a]) ((ko f).trans (cZ ρ a)) ?_ (by unfold Rep;exact⟨a,rfl,by rw[<- D.hl];simp⟩);refine⟨by simp[D.hl],?_,λj ob e=>?_⟩
     ·rw[Ę];refine⟨D.nd,by simp,λx hx y hy=>?_⟩;have e:y=a:=‹hy›
      x_go;rintro rfl;exact M hx
     ·by_cases L:j<G.length
      ·rw[Î L]at e;obtain⟨b,e3,Z⟩:=I.ob j ob e;exact⟨b,(cZ (K:=K) (H:=H') ρ a).get e3,Z.mono (cZ ρ a) λu q=>q⟩
      ·have T:j<(G++[DO.lst xs]).length:=(Á.mp e).1;have O:j=G.length:=by simp at T;lia
       subst O;rw[aF]at e;k_ne;exact⟨a,by rw[<- D.hl,aF],ys,e2,gf xs ys t.2.2 J⟩
    ·rw[Β t]at ok;rfl'
   |_=>rfl'
end
def v7(K:Ë)(a:Addr)(n:Nat):It:=
 ⟨λi H=>∃xs x,kG K H a xs/\xs.length=n/\i<n/\xs[n-1-i]?=À x,λi H y H'=>H'=H/\∀xs,kG K H a xs->xs[n-1-i]?=À y,λi H=>i=n⟩
theorem Iz(a it:Addr)(n:Nat):Turn P w K tg (v7 K a n) [it] it (λi h=>h.IsRevIter it a ((n:Int)-1-(i:Int))) where
 mem:=by simp
 obj:=λi h st b D=>by
  have e:b=it:=‹D›
  x_go;obtain⟨o,e,c,d⟩:=st;exact⟨o,e,λv z=>by rw[d]at z;cases z⟩
 keep:=λi h h' st k=>st.at λo e=>k it (by simp) o e
 item:=by
  intro X F M L O i pins s S H E I hf st J;subst F M L;obtain⟨xs,x,R,hn,U,T⟩:=J;obtain⟨its,V,p,hz⟩:=I.list R;obtain⟨u,hu,ru⟩:=V.get T;room;have e:(n:Int)-1-(i:Int)=((n-1-i:Nat):Int):=∅
  rw[e]at st;refine wpAny_pyNext_rev_item st p.isList (x:=u) ‹hu› λh' t sb=>?_;have Y:Inv X pins S H {s with heap:=h'}:=I.turned (t':=s.toks) (λb o D e=>(sb.2 b D).trans e) f0 f1 f3 f4 f5;have e2:((n-1-i:Nat):Int)-1=(n:Int)-1-((i+1:Nat):Int):=∅
  rw[e2]at t;obtain⟨o,e,c,d⟩:=id t;exact⟨u,rfl,sS (s:={s with heap:=h'}) e c d (by decide) ⟨x,H,Y,ru,⟨rfl,λys Z=>by rw[I.oR Z R];exact T⟩,t,λb D=>(hf b D).1⟩⟩
 done:=by intro X F M L O i pins s S H E I hf st J;subst F M L;have U:i=n:=J;subst U;room;rw[show(i:Int)-1-(i:Int)=-1 by lia]at st;exact wpAny_pyNext_rev_end (I.ok.hd O) st λh' eb=>⟨rfl,I.turned (t':=s.toks) (λb o D e=>eb b o D e) f0 f1 f3 f4 f5⟩
 self:=λ_ _ _ _ _ st h=>aaV st h
def Ci(d:D)(n:Nat):View:=λG i=>match ak G d with
 |some (.lst xs)=>if xs.length=n then (if i=n then À Å else if i<n then À xs[n-1-i]? else Å) else Å
 |_=>Å
def IB(m:DS->M X2):MI:=λτ=>(m τ).bind λds=>match ds with
 |[d]=>λG=>match ak G d with
  |some (.lst xs)=>.ok (xs.length+1,Ci d xs.length) G
  |_=>.stuck
 |_=>M.stop
section
variable{iter a b:Expr}{mi:MI}{p:Pos}
theorem IC{d:D}{k:X2}(f:cK X.K H H' ρ ρ')(F:Rep X.K X.mg ρ H d (.ref l))(I:gc X.K X.mg H' ρ' G')(q:ak G' d=À (.lst k)):∃xs,kG X.K H' l xs/\aq X.K X.mg ρ' H' k xs:=by
 have V:=F.mono f;cases d with
 |con ds=>cases q;unfold Rep at V;obtain⟨t,xs,e,s,r⟩:=V;k_ne;exact⟨xs,s.seq,r⟩
 |obj n=>
  unfold Rep at V;obtain⟨t,e,r⟩:=V;k_ne;dsimp only[ak]at q;cases g:G'[n]? with
  |none=>rw[g]at q;cases q
  |some o=>
   cases o with
   |lst ys=>rw[g]at q;cases q;obtain⟨t,xs,e1,e2,rs⟩:=I.lst g;rw[r]at e1;cases e1;exact⟨xs,.inl (.of e2),rs⟩
   |_=>rw[g]at q;cases q
 |_=>cases q
theorem QD{d:D}(O:Rep X.K X.mg ρ H d (.ref l)):JV X.K X.mg (v7 X.K l n) (Ci d n) H ρ:=by
 intro i H' ρ' G' f S;unfold Ci;cases q:ak G' d with
 |none=>exact⟨λe=>(by cases e),λx e=>(by cases e)⟩
 |some sk=>
  cases sk with
  |tup zs=>exact⟨λe=>(by cases e),λx e=>(by cases e)⟩
  |str z=>exact⟨λe=>(by cases e),λx e=>(by cases e)⟩
  |lst zs=>
   k_go;by_cases hn:zs.length=n
   ·rw[Α hn];by_cases t:i=n
    ·rw[Α t];exact⟨λ_=>t,λx e=>(by cases e)⟩
    ·rw[Β t];by_cases k:i<n
     ·rw[Α k];obtain⟨xs,L,I⟩:=IC f O S q;refine⟨λe=>?_,λx e=>?_⟩
      ·have:=æ e;rw[Ą]at this;lia
      ·have R:=æ e;obtain⟨v,J,M⟩:=I.get R;refine⟨⟨xs,v,L,by rw[<- I.length];exact hn,k,J⟩,λy T F=>?_⟩;obtain⟨rfl,F⟩:=F;have:=F xs L;rw[J]at this;cases this;exact⟨⟨.refl,λ_ h=>h⟩,M⟩
     ·rw[Β k];exact⟨λe=>(by cases e),λx e=>(by cases e)⟩
   ·rw[Β hn];exact⟨λe=>(by cases e),λx e=>(by cases e)⟩
theorem QF(hm:X.mg "reversed"=Å)(Z:Gl X "reversed")(ha:QA X EE [a] m)(h:av [a]=Ä:=by rfl):QI X EE tg (.Call (.Name "reversed" p) [a] [] pc) (IB m):=by
 have h':bQ a=Ä/\av []=Ä:=by simpa[av]using h
 intro pins s J H R I hq;obtain⟨τ,ρ,G,ab,ok⟩:=hq;dsimp only[IB,M.bind]at ok;refine Ā (gT I Z hm tS ?_ (by decide) (by decide));have hA:lY X.K X.mg EE m J H λvs t=>∃k G1 ds,Ab X.K X.mg J t τ k G1/\cK X.K H t ρ k/\aq X.K X.mg k t ds vs/\m τ G=.ok ds G1:=by
  right;cases e:m τ G with
  |stuck=>left
  |bR c G'=>left
  |ok ds G'=>exact λvs H' ρ' f V r=>⟨ρ',G',ds,V,f,r,rfl⟩
 refine ì (d7 (ha pc pins s J H _ I hA) λus s1 zG=>?_) (bu h'.1 _ _) (bK (es:=[]) rfl);obtain⟨vs,t,L,Y,k,G1,ds,S,f1,O,em⟩:=zG;rw[em]at ok;nofun
 match ds,O,ok with
 |[],_,ok=>rfl'
 |_::_::_,_,ok=>rfl'
 |[d],O,ok=>
  obtain⟨x,rfl,T⟩:=fJ O;obtain⟨u,rfl,ru⟩:=vals1 Y;nofun;cases q:ak G1 d with
  |none=>ac_nf;rfl'
  |some sk=>
   ac_nf;cases sk with
   |tup zs=>rfl'
   |str z=>rfl'
   |lst zs=>
    nofun;obtain⟨l,ys,rfl,sq,U⟩:=bJ (pins:=pins) (σ0:=J) (s:=s1) S.hp T q;cases ru;obtain⟨its,vv,pl,hz⟩:=L.list sq;refine call_reversed_list pl.isList ?_;have F:(s1.heap.push (revObj l ((its.toArray.size:Int)-1))).IsRevIter s1.heap.objs.size l ((its.toArray.size:Int)-1):=⟨_,Ø _ rfl,rfl,rfl⟩;refine aaV (s:={s1 with heap:=s1.heap.push (revObj l ((its.toArray.size:Int)-1))}) F ?_;have I2:Inv X pins J t {s1 with heap:=s1.heap.push (revObj l ((its.toArray.size:Int)-1))}:=L.kept (t':=s1.toks) λb o e=>Ï _ e;have D:its.toArray.size=zs.length:=by rw[ß,<- vv.length,U.length]
    refine⟨s1.heap.objs.size,[s1.heap.objs.size],_,v7 X.K l zs.length,t,rfl,I2,Iz l _ _,?_,λb hb=>?_,ok _ t k f1 S (QD T)⟩
    ·show(s1.heap.push (revObj l ((its.toArray.size:Int)-1))).IsRevIter s1.heap.objs.size l ((zs.length:Int)-1-((0:Nat):Int));rw[<- D];simpa using F
    ·rw[è.mp hb];exact L.rW (È _) (L.hok.fresh (È _))
end
theorem boot_zip:bootBuiltins "zip"=À (.type "zip"):=by symm
section
open PyProof.Rows
section
variable{a b:Expr}{ma mb:Y2}
theorem L8:jB X (binaryOp .Add) (λx y H Q=>∃l b xs D,x=.ref l/\y=.ref b/\kG X.K H l xs/\kG X.K H b D/\xs.length+D.length<=Ç/\∀p,H p=Å->Q (.ref p) (upd H p (.lst (xs++D)))):=by
 intro pins s σ H x y v u Q I rx ry h;obtain⟨l,b,xs,D,rfl,rfl,Z,hB,hz,q⟩:=h;cases rx;cases ry;obtain⟨t,r,⟨o,n,e,c,dn,d⟩,hl⟩:=I.list Z;obtain⟨k,V,⟨o2,n2,Y,R,S,O⟩,hl2⟩:=I.list hB;obtain⟨cls,dd,U,sl⟩:=o;obtain⟨OU,dd2,M,L⟩:=o2;simp only at c dn d R S O;subst c dn d R S O;have T:=r.length;have J:=V.length;have ea:t.toArray++k.toArray=(t++k).toArray:=by simp
 refine concat_meets ⟨_,e,rfl⟩ ⟨_,Y,rfl⟩ noFill_list_add seq_list_add PySem.F.slot_list_add PySem.F.entry_list_add (PySem.F.args_list_add_2 _ _) (list_addW l b t.toArray k.toArray n n2 _ _ sl L (by simp only[ß];lia)) ⟨e,Y,?_⟩;rw[ea];exact⟨.ref _,_,I.S5 (t':=s.toks) (r.append V) (by rw[Û];lia),rfl,q _ I.fresh⟩
theorem Ma:jB X (binaryOp .Add) (λx y H Q=>∃a b ys,x=.ref a/\y=.ref b/\nA X.K H a []/\nA X.K H b ys/\Q (.ref b) H):=by
 intro pins s σ H x y v u Q I rx ry h;obtain⟨a,b,ys,rfl,rfl,ha,Z,q⟩:=h;cases rx;cases ry;obtain⟨F,r1,U,_⟩:=I.tuple ha;obtain⟨S,r2,p2,_⟩:=I.tuple Z;have V:F=[]:=by cases r1;rfl
 subst V;obtain⟨⟨cls,dd,R,Y⟩,O,M,n,T⟩:=id U;obtain⟨⟨OU,D,L,J⟩,t,d,n2,k⟩:=id p2;simp only at M T d k;subst M T d k
 exact concat_meets ⟨_,O,rfl⟩ ⟨_,t,rfl⟩ noFill_tuple_add seq_tuple_add aao aae (ſ _ _)
   (tuple_addW0 a b _ _ n n2 dd D Y J (by simp)) ⟨O,t,⟨.ref b,H,I,rfl,q⟩⟩
def mw(G:DH):D->Option X2
 |.con xs=>À xs
 |.obj n=>match G[n]? with
  |some (.lst xs)=>À xs
  |_=>Å
 |_=>Å
theorem ua{d:D}{xs:X2}(h:mw G d=À xs):ak G d=À (.lst xs):=by
 cases d with
 |con ys=>cases h;rfl
 |obj n=>
  dsimp only[mw]at h;dsimp only[ak];cases g:G[n]? with
  |none=>rw[g]at h;cases h
  |some o=>
   cases o with
   |lst ys=>rw[g]at h;cases h;rfl
   |_=>rw[g]at h;cases h
 |_=>cases h
def ay(d e:D):M D:=λG=>match d,e with
 |.int i,.int j=>.ok (.int (i+j)) G
 |.str i,.str j=>if i.length+j.length<=Ç then .ok (.str (i++j)) G else .stuck
 |.tup [],.tup ys=>.ok (.tup ys) G
 |.tup (x::xs),.tup ys=>aZ (x::xs++ys) G
 |d,e=>match mw G d,mw G e with
  |some xs,À ys=>aN (xs++ys) G
  |_,_=>.stuck
theorem Mb:jB X (binaryOp .Add) (rD X EE ay):=by
 intro pins s σ0 H x y v u Q I R O zu;obtain⟨Z,τ,ρ,G,d,e,ab,F,t,ok⟩:=zu;have D:∀xs ys,mw G d=À xs->mw G e=À ys->kI X.K X.mg EE H Z τ ρ (aN (xs++ys) G) Q->à (model X.prog X.w) X.A (binaryOp .Add v u) (EP X pins σ0 Q) X.xe s:=λxs ys h1 h2 ok=>by obtain⟨l,vs,rfl,M,J⟩:=bJ (pins:=pins) (σ0:=σ0) (s:=s) ab.hp F (ua h1);obtain⟨l2,T,rfl,S,U⟩:=bJ (pins:=pins) (σ0:=σ0) (s:=s) ab.hp t (ua h2);obtain⟨L,Y⟩:=kM ab (J.append U) ok;rw[Û]at L;exact L8 pins s σ0 H _ _ v u Q I R O ⟨l,l2,vs,T,rfl,rfl,M,S,L,Y⟩
 have rest:(kI X.K X.mg EE H Z τ ρ (match mw G d,mw G e with
  |some xs,À ys=>aN (xs++ys) G
  |_,_=>.stuck) Q)->à (model X.prog X.w) X.A (binaryOp .Add v u) (EP X pins σ0 Q) X.xe s:=λok=>by
  cases h1:mw G d with
  |none=>rw[h1]at ok;rfl'
  |some xs=>
   cases h2:mw G e with
   |none=>rw[h1,h2]at ok;rfl'
   |some ys=>rw[h1,h2]at ok;exact D xs ys h1 h2 ok
 cases d with
 |int i=>
  cases e with
  |int j=>unfold Rep at F t;subst F t;exact OH pins s σ0 H _ _ v u Q I R O ⟨i,j,rfl,rfl,ok _ H ρ .refl ab (by unfold Rep;rfl)⟩
  |_=>exact rest ok
 |str i=>
  cases e with
  |str j=>
   unfold Rep at F t;subst F t;dsimp only[ay]at ok;by_cases h:i.length+j.length<=Ç
   ·rw[Α h]at ok;exact BQ pins s σ0 H _ _ v u Q I R O ⟨i,j,rfl,rfl,h,ok _ H ρ .refl ab (by unfold Rep;rfl)⟩
   ·rw[Β h]at ok;rfl'
  |_=>exact rest ok
 |tup xs=>
  cases e with
  |tup ys=>
   have V:=t;unfold Rep at F t;obtain⟨p,vs,rfl,M,J⟩:=F;obtain⟨q,T,rfl,S,U⟩:=t;cases xs with
   |nil=>
    have hv:vs=[]:=by have:=J.length;cases vs with|nil=>rfl|cons _ _=>simp at this
    subst hv;exact Ma pins s σ0 H _ _ v u Q I R O ⟨p,q,T,rfl,rfl,M,S,ok _ H ρ .refl ab V⟩
   |cons x xs=>
    have k:kI X.K X.mg EE H Z τ ρ (aZ (x::xs++ys) G) Q:=ok;have ZJ:=J.append U;obtain⟨L,Y⟩:=yl ab ZJ k;rw[Û]at L;have hv:vs≠[]:=by intro z;subst z;have:=J.length;simp at this
    refine K8 pins s σ0 H _ _ v u Q I R O ⟨p,q,vs,T,rfl,rfl,M,S,hv,L,λz=>?_,λz p hp=>Y p hp⟩;subst z;have hy:ys=[]:=by
     have:=U.length;cases ys with
     |nil=>rfl
     |cons _ _=>simp at this
    subst hy;unfold aZ at k;split at k
    ·exact k _ H ρ .refl ab (by rw[ó];unfold Rep;exact⟨p,vs,rfl,M,J⟩)
    ·exact k.elim
  |_=>cases xs<;>exact rest ok
 |_=>exact rest (by cases e<;>exact ok)
theorem Mc(d:QE X EE a ma)(k:QE X EE b mb):QE X EE (.BinOp a .Add b pos) (aj ay ma mb):=rj Mb j8 d k
theorem ID{f:Flow}(h:SP X pins D' f s)(L:D'.bk=Dd.bk)(t:D'.ct=Dd.ct)(D:D'.rt=Dd.rt)
  (J:∀k H,D'.nx k H->Dd.nx k H\/∃a xs,H a=À (.lst xs)/\∀o,Dd.nx k (upd H a (.eU o (.lst xs)))):SP X pins Dd f s:=by
 obtain⟨M,O,R,S⟩:=D';subst L t D;cases f with
 |next=>
  obtain⟨d,H',I,q⟩:=h;rcases J d H' q with q|⟨a,xs,e,q⟩
  ·exact⟨d,H',I,q⟩
  ·obtain⟨o,F⟩:=DM I e;exact⟨d,_,F,q o⟩
 |_=>exact h
theorem Uq{st:Stmt}{m:Y2}(V:QS X EE st (aA i m)):QS X EE st (aA i (eFn m)):=by
 intro pins s U H Dd I zu;obtain⟨τ,ρ,G,ab,ok⟩:=zu;dsimp only[aA,bC,eFn]at ok;cases q:m τ G with
 |stuck=>ac_nf;rfl'
 |bR c G'=>ac_nf;exact V pins s U H Dd I ⟨τ,ρ,G,ab,by dsimp only[aA,bC];rw[q];exact ok⟩
 |ok d G'=>
  ac_nf;by_cases hd:∃n,d=.obj n
  ·obtain⟨n,rfl⟩:=hd;nofun;cases g:G'[n]? with
   |none=>kd_p;rfl'
   |some o=>
    kd_p;cases o with
    |lst ds=>
     nofun;by_cases M:n=G.length/\G'.length=n+1/\nB (G'.take G.length) G=Ä/\aG ds=Ä
     ·rw[Α M]at ok;obtain⟨hn0,hl,hb,T⟩:=M;refine d7 (V pins s U H {Dd with nx:=λσ' H'=>∃a xs,H' a=À (.lst xs)/\∀o,Dd.nx σ' (upd H' a (.eU o (.lst xs)))} I ⟨τ,ρ,G,ab,?_⟩) λu s' h=>ID h rfl rfl rfl λσ' H' q=>.inr q;dsimp only[aA,bC];rw[q];intro σ' H' ρ' f D;obtain⟨a,xs,e1,Y,rs⟩:=D.hp.lst g;refine⟨a,xs,Y,λF=>?_⟩;have J:cK X.K H' (upd H' a (.eU F (.lst xs))) ρ' ρ':=pM Y ρ';have f3:cK X.K H (upd H' a (.eU F (.lst xs))) ρ ρ:=⟨λb ys w=>J.tup b ys (f.tup b ys w),λb o u w=>J.eU b o u (f.eU b o u w),⟨[],by simp⟩,λb φ w=>J.ext b φ (f.ext b φ w)⟩;have kj:gc X.K X.mg (upd H' a (.eU F (.lst xs))) ρ G:=ab.hp.cut f.pre (D.hp.eU (o:=F) e1 Y) (by rw[Ĵ ∅];exact kX _ _ hb)
      refine ok σ' _ ρ f3 ⟨⟨by rw[D.st.1];simp,λj O k=>?_⟩,kj⟩;by_cases t:i=j
      ·subst t;by_cases Z:i<τ.length
       ·rw[å,Α rfl,Α Z]at k;cases k;obtain⟨vv,ev,rv⟩:=D.st.2 i (.obj n) (by rw[å,Α rfl,Α Z]);unfold Rep at rv;obtain⟨a',rfl,L⟩:=rv;rw[e1]at L;cases L;refine⟨_,ev,?_⟩;unfold Rep;exact⟨a,xs,rfl,.inl ⟨F,bL⟩,gf ds xs T (rs.mono J)⟩
       ·rw[å,Α rfl,Β Z]at k;cases k
      ·have ej0:=k;rw[Í t]at k;obtain⟨v',R,WO⟩:=D.st.2 j O (by rw[Í t];exact k);obtain⟨v0,ZK,ZL⟩:=ab.st.2 j O k;exact⟨v',R,Rep.back f.pre O v0 v' ZL (WO.mono J)⟩
     ·rw[Β M]at ok;rfl'
    |_=>rfl'
  ·have S:sF X.K X.mg EE H ρ Dd (.nx (τ.set i (À d)) G'):=by cases d<;>first|exact ok|exact absurd ⟨_,rfl⟩ hd
   exact V pins s U H Dd I ⟨τ,ρ,G,ab,by dsimp only[aA,bC];rw[q];exact S⟩
theorem Cj(l:Addr)(items:Array Æ)(n:Nat)(b:Addr)(items2:Array Æ)(n2:Nat)(sl2:Array (Option Æ))(I:¬(!items.isEmpty&&ļ (items.size+items2.size))=Ä)(t:items.size<=Ç)(k:items.size+items2.size<=Ç+1):
  Meets (aaQ.«list.extend» ⟨[.ref l,.ref b],[]⟩) (λ_ R s=>s.heap.get? l=À {cls:=.type "list",dict:=Å,data:=.seq items n,slots:=#[]}/\s.heap.get? b=À {cls:=.type "list",dict:=Å,data:=.seq items2 n2,slots:=sl2}/\R (.ok (.ret Value.none)) {s with heap:=s.heap.update l (ŭ λx=>x++items2),toks:=s.toks}):=
 .of_wp λprog w A R s h=>by
  obtain⟨Y,g,d,U,T⟩:=s;obtain⟨F,J,h⟩:=h;have M:=AutoSeq1.idx_int;have L:=AutoSeq1.sub_tuple_tuple;have V:=AutoSeq1.sub_list_list;have S:=AutoSeq1.sub_tuple_list;have O:=AutoSeq1.sub_list_tuple;
  have D:(items++items2).size<=Ç+1:=by rw[Array.size_append];exact k
  wp_walk using(ac8 F rfl (hz:=t) (_hz':=D)),ac9 F,ac9 J;exact⟨_,rfl,h⟩
theorem Cm:Kw X "list.extend" (λx vs H Q=>∃l b xs t,x=.ref l/\vs=[.ref b]/\H l=À (.lst xs)/\kG X.K H b t/\xs.length+t.length<=Ç/\Q .bw (upd H l (.lst (xs++t)))):=by
 intro pins s σ H x vs v us Q I Z T h;obtain⟨l,b,xs,t,rfl,rfl,L,V,hz,q⟩:=h;cases Z;obtain⟨u,rfl,Y⟩:=T.one;cases Y;obtain⟨z,k,n,r,hl,e⟩:=I.GQ L;obtain⟨d,S,⟨o2,n2,e2,O,R,M⟩,_⟩:=I.list V;obtain⟨OU,U,J,D⟩:=o2;simp only at O R M;subst O R M;have hl2:=S.length;have hsz:k.toArray.size+d.toArray.size<=Ç:=by rw[ß,ß];lia
 have GR:¬ (!k.toArray.isEmpty&&ļ (k.toArray.size+d.toArray.size))=Ä:=by rw[zF hsz,abn];exact ï
 refine call_meets acH ⟨_,e,rfl⟩ F.entry_list_extend (F.args_list_extend_2 _ _)
  (Cj l k.toArray n b d.toArray n2 D GR (by rw[ß];lia) ∅) ⟨e,e2,?_⟩
 refine⟨.bw,_,I.Lb (its':=k++d) L e (by simp) (r.append S) ?_,rfl,q⟩;rw[Û];lia
def Ah:D->X2->M D
 |.obj n,[y]=>λG=>match G[n]?,mw G y with
  |some (.lst xs),À ys=>if xs.length+ys.length<=Ç then .ok .bw (G.set n (.lst (xs++ys))) else .stuck
  |_,_=>.stuck
 |_,_=>M.stop
theorem Me:Kw X "list.extend" (P4 X EE Ah):=by
 intro pins s σ0 H x xs v S Q I V M zu;obtain⟨σ,τ,ρ,G,d,ds,ab,J,O,ok⟩:=zu;cases d<;>try exact ok.elim
 rename_i n
 match ds,ok with
 |[],ok=>rfl'
 |a::_::_,ok=>rfl'
 |[y],ok=>
  obtain⟨yv,rfl,Y⟩:=fJ O;unfold Rep at J;obtain⟨p,rfl,F⟩:=J;dsimp only[Ah]at ok;cases g:G[n]? with
  |none=>kd_p;rfl'
  |some o=>
   cases g2:mw G y with
   |none=>rw[g,g2]at ok;cases o<;>exact ok.elim
   |some ys=>
    rw[g,g2]at ok;cases o with
    |lst zs=>
     nofun;obtain⟨Z,vs,D,t,k⟩:=ab.hp.lst g;rw[F]at D;cases D;obtain⟨R,T,rfl,L,U⟩:=bJ (pins:=pins) (σ0:=σ0) (s:=s) ab.hp Y (ua g2);by_cases hz:zs.length+ys.length<=Ç
     ·rw[Α hz]at ok;exact Cm pins s σ0 H _ _ v S Q I V M ⟨p,R,vs,T,rfl,rfl,t,L,by rw[<- k.length,<- U.length];exact hz,yo (xs:=zs) ab F t (k.append U) (λ_ _=>by unfold Rep;rfl) ok⟩
     ·rw[Β hz]at ok;rfl'
    |_=>rfl'
theorem Mf{o:Expr}{d k:Pos}(J:QE X EE o mo)(D:QA X EE [e] m)(I:n8 o=Ä:=by rfl)(h:av [e]=Ä:=by rfl)(t:(d.endLine==k.line)=Ä:=by rfl):QE X EE (.Call (.Attribute o "extend" d) [e] [] k) (bz "list" Ah mo m):=by
 have h':bQ e=Ä/\av []=Ä:=by simpa[av]using h
 exact Dz F.plainAttrs_list acH F.type_list_extend Me J D (iW I _ _) (tR h (by simp)) t (bu h'.1 _ _) (bK (es:=[]) rfl)
end
end
section
open PyProof.Rows
def QK(d st:Int)(n:Nat):It:=⟨λi _=>i<n,λi H x H'=>H'=H/\x=.int (d+(i:Int)*st),λi _=>n<=i⟩
theorem Ai(it:Addr)(F c:Int)(n:Nat):Turn P w K tg (QK F c n) [it] it (λi h=>IsRangeIter h it (F+(i:Nat)*c) ((n:Int)-(i:Nat)) c) where
 mem:=by simp
 obj:=λi h st b d=>by
  have e:b=it:=‹d›
  x_go;exact⟨_,st,λv z=>by have U:Data.fields _=Data.cell v:=z;cases U⟩
 keep:=λi h h' st k=>k it (by simp) _ st
 item:=by intro X L R O J i pins s S H E I hf st M;subst L R O;room;have W:=Walks.range (prog:=X.prog) (w:=X.w) (I.ok.hd J) it F c n;refine jA I.os.2 <|W.item i s _ _ M st λv h' tk Y D V ht=>?_;obtain⟨t,rfl⟩:=Y;have T:Inv X pins S H {s with heap:=h',toks:=tk}:=I.turned (λb o d e=>V b o ‹d› e) f0 f1 f3 f4 f5;exact⟨_,rfl,sS (s:={s with heap:=h',toks:=tk}) (n:="range_iterator") D rfl rfl (by decide) ⟨.int (F+i*c),H,T,⟨t,rfl⟩,⟨rfl,rfl⟩,D,λb d=>(hf b d).1⟩⟩
 done:=by intro X L R O J i pins s S H E I hf st M;subst L R O;room;exact abS (I.ok.hd J) st (by have:n<=i:=M;lia) λh' Z=>⟨rfl,I.turned (t':=s.toks) (λb o d e=>Z b o d e) f0 f1 f3 f4 f5⟩
 self:=λ_ _ _ _ _ st h=>aam st h
def Cn(d c:Int)(n:Nat):View:=λ_ i=>À (if i<n then À (.int (d+(i:Int)*c)) else Å)
section
variable{iter a b:Expr}{p:Pos}
theorem QL{k c:Int}:JV X.K X.mg (QK k c n) (Cn k c n) H ρ:=by
 intro i H' ρ' G' f F;unfold Cn;by_cases h:i<n
 ·rw[Α h];refine⟨λe=>(by cases e),λd e=>⟨h,λx D t=>?_⟩⟩;k_ne;obtain⟨rfl,rfl⟩:=t;exact⟨⟨.refl,λ_ h=>h⟩,by unfold Rep;rfl⟩
 ·rw[Β h];exact⟨λ_=>acW h,λd e=>(by cases e)⟩
end
end
def ji:D->Option Key
 |.int i=>À (Sum.inl i)
 |.str x=>À (Sum.inr x)
 |_=>Å
def aQ{d:Type} [DecidableEq d] (kvs:List (d×D)) (k:d):X9:=(kvs.find? λt=>decide (t.1=k)).map (·.2)
def cR{t:Type} [DecidableEq t] (kvs:List (t×D)) (k:t) (v:D):List (t×D):=
 if (kvs.any λd=>decide (d.1=k))=Ä then kvs.map (λd=>if d.1=k then (d.1,v) else d) else kvs++[(k,v)]
section
theorem kq{t:Type} [DecidableEq t] (k:t):∀{kvs:List (t×D)}{xs:X1},aq K mg ρ H (kvs.map (·.2)) xs ->
  (aQ kvs k=Å/\nU ((kvs.map (·.1)).zip xs) k=Å)\/∃d v,aQ kvs k=À d/\nU ((kvs.map (·.1)).zip xs) k=À v/\Rep K mg ρ H d v
 |[],xs,r=>.inl ⟨rfl,rfl⟩
 |p::q,xs,r=>by
  unfold aq at r;obtain⟨v,F,rfl,I,J⟩:=r;by_cases e:p.1=k
  ·exact .inr ⟨p.2,v,by simp[aQ,e],by simp[nU,e],I⟩
  ·have O:=kq k J;have M:aQ (p::q) k=aQ q k:=by simp[aQ,e]
   have L:nU (((p::q).map (·.1)).zip (v::F)) k=nU ((q.map (·.1)).zip F) k:=oW (p:=(p.1,v)) e;rw[M,L];exact O
theorem DQ{d:Type} [DecidableEq d] (k:d):∀{kvs:List (d×D)}{xs:X1},kvs.length=xs.length->(((kvs.map (·.1)).zip xs).any λt=>decide (t.1=k))=(kvs.any λt=>decide (t.1=k))
 |[],xs,h=>by simp
 |p::q,[],h=>by simp at h
 |p::q,x::xs,h=>by have:=DQ k (kvs:=q) (xs:=xs) ‹h›;simp[this]
theorem Aj{I:Type} [DecidableEq I] (k:I) {d:D} {v:V} (J:Rep K mg ρ H d v):∀{kvs:List (I×D)}{xs:X1},aq K mg ρ H (kvs.map (·.2)) xs ->
  ∃ys,(((kvs.map (·.1)).zip xs).map λt=>if t.1=k then (t.1,v) else t)=((kvs.map λt=>if t.1=k then (t.1,d) else t).map (·.1)).zip ys/\aq K mg ρ H ((kvs.map λt=>if t.1=k then (t.1,d) else t).map (·.2)) ys
 |[],xs,r=>⟨[],by simp,‹aq.nil›⟩
 |p::q,xs,r=>by
  unfold aq at r;obtain⟨x,R,rfl,O,M⟩:=r;obtain⟨ys,e,L⟩:=Aj k J M;by_cases F:p.1=k
  ·refine⟨v::ys,?_,?_⟩
   ·simp only[É,abo,Α F,e]
   ·simp only[É,Α F];exact .cons J L
  ·refine⟨x::ys,?_,?_⟩
   ·simp only[É,abo,Β F,e]
   ·simp only[É,Β F];exact .cons O L
theorem Ak{d k:Type}:∀{a:List d}{b:List k}(x:d)(y:k),a.length=b.length->(a++[x]).zip (b++[y])=a.zip b++[(x,y)]
 |[],[],x,y,_=>rfl
 |[],_::_,_,_,h=>by simp at h
 |_::_,[],_,_,h=>by simp at h
 |p::a,q::b,x,y,h=>by simp[Ak (a:=a) (b:=b) x y ‹h›]
theorem Al [DecidableEq κ] (k:κ) {d:D} {v:V} (t:Rep K mg ρ H d v) {kvs:List (κ×D)} {xs:X1} (r:aq K mg ρ H (kvs.map (·.2)) xs):
  ∃ys,putK ((kvs.map (·.1)).zip xs) k v=((cR kvs k d).map (·.1)).zip ys/\aq K mg ρ H ((cR kvs k d).map (·.2)) ys:=by
 have F:kvs.length=xs.length:=‹r.length›
 unfold putK cR;rw[DQ k F];by_cases e:(kvs.any λI=>decide (I.1=k))=Ä
 ·rw[Α e,Α e];exact Aj k t r
 ·rw[Β e,Β e];refine⟨xs++[v],?_,?_⟩
  ·rw[ñ,É,ė,Ak _ _ ‹F›]
  ·rw[ñ];exact r.append (.cons t .nil)
theorem gc.dct{kvs:Y1}(h:gc K mg H ρ G)(e:G[n]?=À (.dct kvs)):∃a xs,ρ[n]?=À a/\H a=À (.dK ((kvs.map (·.1)).zip xs))/\aq K mg ρ H (kvs.map (·.2)) xs:=by obtain⟨a,k,xs,d,r⟩:=h.ob n _ e;exact⟨a,xs,k,d,r⟩
theorem uc{p:Addr}{u w:List (Key×V)}(d:H p=À (.dK u))(ρ:Q1):cK K H (upd H p (.dK w)) ρ ρ:=by
 refine⟨λa k h=>?_,λa q u h=>by rw[aK (eY h d (by intro z;cases z))];exact h,⟨[],by simp⟩,λa φ h=>by rw[aK (eY h d (by intro z;cases z))];exact h⟩
 ·rw[zu]at h |-;rw[aK (eY h d (by intro z;cases z))];exact h
theorem gc.Us{p:Addr}(h:gc K mg H ρ G)(k:H p=Å):gc K mg (upd H p (.dK [])) (ρ++[p]) (G++[.dct []]):=by
 have f:cK K H (upd H p (.dK [])) ρ (ρ++[p]):=(di k ρ).trans (cZ ρ p);refine⟨by simp[h.hl],?_,λn M e=>?_⟩
 ·rw[Ę];refine⟨h.nd,by simp,λa L b I=>?_⟩;have e:b=p:=‹I›
  x_go;rintro rfl;exact h.not_mem k L
 ·by_cases F:n<G.length
  ·rw[Î F]at e;obtain⟨a,t,D⟩:=h.ob n M e;exact⟨a,f.get t,D.mono f λu q=>by rw[aK (cQ q k)];exact q⟩
  ·have J:n<(G++[DO.dct []]).length:=(Á.mp e).1;have d:n=G.length:=by simp at J;lia
   subst d;rw[aF]at e;k_ne;exact⟨p,by rw[<- h.hl,aF],[],bL,.nil⟩
theorem gc.putD{es:Y1}{u:List (Key×V)}{ys:X1}(h:gc K mg H ρ G)(t:ρ[n]?=À a)(J:H a=À (.dK u))(r:aq K mg ρ H (es.map (·.2)) ys):
  gc K mg (upd H a (.dK ((es.map (·.1)).zip ys))) ρ (G.set n (.dct es)):=by
 have f:cK K H (upd H a (.dK ((es.map (·.1)).zip ys))) ρ ρ:=uc J ρ;refine⟨by simp[h.hl],h.nd,λm M e=>?_⟩;by_cases d:n=m
 ·subst d;rw[å,Α rfl]at e;split at e
  ·k_ne;exact⟨a,t,ys,bL,r.mono f⟩
  ·k_ne
 ·rw[Í d]at e;obtain⟨b,k,D⟩:=h.ob m M e;have I:b≠a:=by rintro rfl;obtain⟨R,F⟩:=Á.mp t;obtain⟨O,L⟩:=Á.mp k;exact d ((Ļ h.nd).mp (F.trans L.symm))
  exact⟨b,k,D.mono f λu q=>by rw[aK I];exact q⟩
theorem pN{d:D}{k:Key}(r:Rep K mg ρ H d v)(e:ji d=À k):v=kV k:=by
 cases d<;>simp[ji]at e
 ·x_go;unfold Rep at r;exact r
 ·x_go;unfold Rep at r;exact r
end
section
variable{f o i a:Expr}{apos tpos:Pos}{mf:Y2}
def IE:Y2:=λ_ G=>.ok (.obj G.length) (G++[.dct []])
theorem Mg:QE X EE (.Dict [] [] pos) IE:=PE.mono GX λt H Q ⟨τ,ρ,G,ab,k⟩=>λp d=>by refine k (.ref p) _ (ρ++[p]) ((di d ρ).trans (cZ ρ p)) ⟨ab.st.mono ((di d ρ).trans (cZ ρ p)),ab.hp.Us d⟩ ?_;unfold Rep;exact⟨p,rfl,by rw[<- ab.hp.hl,aF]⟩
def wL(v d k:D):M D:=λG=>match d,ji k with
 |.obj n,À y=>match G[n]? with
  |some (.dct kvs)=>if kvs.length<Ç then .ok .bw (G.set n (.dct (cR kvs y v))) else .stuck
  |_=>.stuck
 |_,_=>.stuck
def oX(d t k:Y2):MS:=λτ=>bC ((d τ).bind λv=>(t τ).bind λo=>(k τ).bind λi=>wL v o i) (λ_ G=>.nx τ G) λc G=>.xn c τ G
theorem Am(hu:X.A.units+600<cLine)(hv:QE X EE a mv)(ho:QE X EE o mo)(hi:QE X EE i mi)(h:swapsWith a (À (.Subscript o i tpos)) pos.line X.env=pure Â):QS X EE (.Assign [.Subscript o i tpos] a pos) (oX mv mo mi):=
 PS.mono (Ds ∅ ho hi hv h) λDd I H zz=>by
  obtain⟨τ,ρ,G,ab,ok⟩:=zz;right;dsimp only[oX,bC,M.bind]at ok;cases e1:mv τ G with
  |stuck=>rw[e1]at ok;w_up
  |bR c G'=>rw[e1]at ok;exact λH' ρ' f t=>ok I H' ρ' f t
  |ok v G1=>
   rw[e1]at ok;intro vv H1 U R ir r1;refine⟨τ,U,G1,ir,?_⟩;nofun;cases e2:mo τ G1 with
   |stuck=>rw[e2]at ok;w_up
   |bR c G'=>rw[e2]at ok;exact λH' ρ' f t=>ok I H' ρ' (R.trans f) t
   |ok ov G2=>
    rw[e2]at ok;intro vo H2 T O cz r2;refine⟨τ,T,G2,cz,?_⟩;nofun;cases e3:mi τ G2 with
    |stuck=>rw[e3]at ok;w_up
    |bR c G'=>rw[e3]at ok;exact λH' ρ' f t=>ok I H' ρ' ((R.trans O).trans f) t
    |ok iv G3=>
     rw[e3]at ok;intro vi H3 d S L r3;dsimp only[wL]at ok;cases ov<;>try exact ok.elim
     rename_i n;cases ek:ji iv with
     |none=>rw[ek]at ok;rfl'
     |some y=>
      rw[ek]at ok;have D:=r2.mono S;unfold Rep at D;obtain⟨p,rfl,V⟩:=D;nofun;cases g:G3[n]? with
      |none=>kd_p;rfl'
      |some ob=>
       cases ob with
       |lst _=>kd_p;rfl'
       |dct kvs=>
        kd_p;nofun;obtain⟨p',xs,Y,F,Z⟩:=L.hp.dct g;rw[V]at Y;cases Y;by_cases J:kvs.length<Ç
        ·rw[Α J]at ok;have ev:=pN r3 ek;subst ev;have rv:=r1.mono (O.trans S);obtain⟨ys,ey,ry⟩:=Al y rv Z;refine⟨p,_,rfl,sY.k F ?_,?_⟩
         ·have:=Z.length;simp at this;simp[<- this];exact J
         ·rw[ey];refine ok I _ d (((R.trans O).trans S).trans (uc F d)) ⟨L.st.mono (uc F d),L.hp.putD V F ry⟩
        ·rw[Β J]at ok;rfl'
       |_=>kd_p;rfl'
theorem Mh(k:X.A.units+600<cLine)(D:QE X EE a mv)(d:QE X EE o mo)(t:QE X EE i mi)(h:l9 a=Ä:=by rfl):QS X EE (.Assign [.Subscript o i tpos] a pos) (oX mv mo mi):=Am k D d t (pD h _ _ _)
end
section
open PyProof.Rows
end
section
theorem lN{t:Addr}{x:Æ}(d:s.heap.IsTupleIter it t i)
  (J:s.heap.IsTuple t items) (L:items[i]?=À x)
  (M:∀h',h'.IsTupleIter it t (i+1)->Ř it s.heap h'->Q x {s with heap:=h'}):
  à (model prog w) A (ĝ (.ref it)) Q E s:=by
 obtain⟨o,D,I,k⟩:=id d;obtain⟨S,R,_,O,F⟩:=J;unfold ĝ
 refine Ã (Ď (name:=į "__next__") d.typeIs Œ
  (Ī Œ d.typeIs abg ?_ (aa7 _)))
 show à _ _ (field (.ref it) 0 >>= _) _ _ s;refine Ã (ù D k (x:=.ref t) rfl ?_);show à _ _ (if (Value.ref t==Value.none)=Ä then _ else _) _ _ s;rw[Β (show ¬ ((Value.ref t==Value.none)=Ä) from ï)];show à _ _ (field (.ref it) 1 >>= _) _ _ s;refine Ã (ù D k (x:=.int i 0) rfl ?_);show à _ _ (seqItems? (.ref t) >>= _) _ _ s;refine Ã (Ŀ R F ?_);simp only[Ē,L];refine Ã (ő D k (by simp) (Ó ⟨x,rfl,Ó (M _ ?_ (ż ..))⟩));exact⟨_,Č _ D (Ĺ (ě k _)),(abx ..).trans I,by
  rw[ě k];simp[rawInt]⟩
theorem mC{t:Addr}{Q:Æ->Ì->Prop}(I:A.handled=Å)
  (d:s.heap.IsTupleIter it t i) (J:s.heap.IsTuple t items) (M:items[i]?=Å)
  (L:∀h' e,ach it s.heap h'->(∃o,h'.get? e=À o/\o.cls=.type "StopIteration")->E (.ref e) {s with heap:=h'}):
  à (model prog w) A (ĝ (.ref it)) Q E s:=by
 obtain⟨o,D,O,F⟩:=id d;obtain⟨T,R,_,S,k⟩:=J;unfold ĝ
 refine Ã (Ď (name:=į "__next__") d.typeIs Œ
  (Ī Œ d.typeIs abg ?_ (aa7 _)))
 show à _ _ (field (.ref it) 0 >>= _) _ _ s;refine Ã (ù D F (x:=.ref t) rfl ?_);show à _ _ (if (Value.ref t==Value.none)=Ä then _ else _) _ _ s;rw[Β (show ¬ ((Value.ref t==Value.none)=Ä) from ï)];show à _ _ (field (.ref it) 1 >>= _) _ _ s;refine Ã (ù D F (x:=.int i 0) rfl ?_);show à _ _ (seqItems? (.ref t) >>= _) _ _ s;refine Ã (Ŀ R k ?_);simp only[Ē,M];refine Ã (abm (Ã (ő D F (by simp) ?_)));show à _ _ (newExc (.type "StopIteration") [] >>= _) _ _ _;refine Ã ?_;simp only[newExc,newTuple];refine Ã (þ ?_ (by size_fits));refine Ã (m:=firstArgMember _ _) (Ű (a:=Value.none) (by first|rfl|(simp only[firstArgMember];rfl)) ?_);refine þ ?_ (by size_fits);simp only[raiseNew];refine Ã (wpAny_handled ?_)
 first|rw[show A.in1.handled=Å from I]|rw[I]
 refine Ã (Ó (ac6 ?_));exact L _ _ (((ż ..).extBut.push _).push _) ⟨_,Ø _ rfl,rfl⟩
end
theorem wM(J:A.handled=Å)(it l:Addr)(k:l≠it)(items:Array Æ):
  Draws prog w A it [it,l] items.size (λi v=>items[i]?=À v) (λi h=>h.IsTupleIter it l i/\h.IsTuple l items) where
 live:=λ_ _ st=>let ⟨o,I,_⟩:=st.1;⟨o,I⟩
 frame:=λ_ _ _ st t=>⟨st.1.at λo e=>t it (by simp) o e,st.2.at λo e=>t l (by simp) o e⟩
 item:=λi s Q E D st L=>by refine lN st.1 st.2 (x:=items[i]) (by simp[D]) λh' M d=>?_;exact L _ h' s.toks (by simp[D]) ⟨M,st.2.extBut d.extBut k⟩ d
 done:=λs Q E st F=>mC J st.1 st.2 (by simp) F
theorem An(l:Addr)(items:Array Æ)(n:Nat)(dct:Option Addr)(sl:Array (Option Æ)):
  Meets (aaQ.«enumerate.__new__» ⟨[.type "enumerate",.ref l],[]⟩) (λ_ R s=>s.heap.get? l=À {cls:=.type "tuple",dict:=dct,data:=.seq items n,slots:=sl} /\
   R (.ok (.ret (.ref (s.heap.push {cls:=.type "tuple_iterator",data:=.fields #[.ref l,.int 0 0]}).objs.size)))
    {s with heap:=(s.heap.push {cls:=.type "tuple_iterator",data:=.fields #[.ref l,.int 0 0]}).push {cls:=.type "enumerate",data:=.fields #[.none,.bool Â,.ref s.heap.objs.size,rawInt 0,.none,.none]}}):=
 .of_wp λprog w A R s h=>by
  obtain⟨J,g,d,I,F⟩:=s;obtain⟨k,h⟩:=h;have D:=sub_enumerate;have t:Heap.IsTuple (Shared.heap ⟨J,g,d,I,F⟩) l items:=⟨_,k,rfl,n,rfl⟩
  wp_walk using ś k
  refine wpAny_stack_any λst=>Ó ?_;split
  ·rename_i c _ _ _ _ _;cases (c==Value.type "enumerate")
   ·wp_walk using ś k,Ŧ t
    exact⟨_,rfl,h⟩
   ·wp_walk using ś k,Ŧ t
    exact⟨_,rfl,h⟩
  ·wp_walk using ś k,Ŧ t
   exact⟨_,rfl,h⟩
theorem vG{prog:ô}{w:đ}{A:Around}{E:Æ->Ì->Prop}(J:s.heap.IsTuple l items)
  (h:∀h',IsEnum h' (s.heap.objs.size+1) s.heap.objs.size 0 .none->h'.IsTupleIter s.heap.objs.size l 0->h'.objs.size=s.heap.objs.size+2 ->
   (∀b o,s.heap.get? b=À o->h'.get? b=À o)->Q (.ref (s.heap.objs.size+1)) {s with heap:=h'}):
  à (model prog w) A (call (.type "enumerate") [.ref l]) Q E s:=by
 obtain⟨⟨c,D,L,M⟩,O,d,n,k⟩:=J
 replace d:c=.type "tuple":=d
 replace k:L=.seq items n:=k
 subst d k
 refine callType_new F.called_enumerate (by decide) (F.typeCall_enumerate_1 _) (F.newCall_enumerate_1 _) (λt=>F.args_object_init_2 t _) F.entry_enumerate_new
  (An l items n D M) ⟨O,?_⟩
 have hz:(s.heap.push {cls:=.type "tuple_iterator",data:=.fields #[.ref l,.int 0 0]}).objs.size=s.heap.objs.size+1:=Ĝ ..;show _/\_;rw[hz]
 have I:IsEnum ((s.heap.push {cls:=.type "tuple_iterator",data:=.fields #[.ref l,.int 0 0]}).push
   {cls:=.type "enumerate",data:=.fields #[.none,.bool Â,.ref s.heap.objs.size,rawInt 0,.none,.none]}) (s.heap.objs.size+1) s.heap.objs.size 0 .none:=by
  have:=Ø (s.heap.push {cls:=.type "tuple_iterator",data:=.fields #[.ref l,.int 0 0]})
   (o:={cls:=.type "enumerate",data:=.fields #[.none,.bool Â,.ref s.heap.objs.size,rawInt 0,.none,.none]}) rfl
  rw[hz]at this;exact this
 refine⟨⟨_,I,rfl⟩,h _ I ⟨_,Ï _ (Ø _ rfl),rfl,rfl⟩ (by rw[Ĝ,hz]) λb o x=>Ï _ (Ï _ x)⟩
def QM(K:Ë)(a:Addr):It:=
 ⟨λi H=>∃xs x,nA K H a xs/\xs[i]?=À x,λi H y H'=>∃x p,(∀xs,nA K H a xs->xs[i]?=À x)/\H p=Å/\y=.ref p/\H'=upd H p (.tup [.int i,x]),λi H=>∃xs,nA K H a xs/\xs.length=i⟩
theorem Co{k:Nat}{pt:Pos}(l e it:Addr)(M:e≠it)(hle:l≠e)(R:l≠it):Turn P w K (.Tuple es k pt) (QM K l) [e,it] e (λi h=>∃J,IsEnum h e it i J/\h.IsTupleIter it l i) where
 mem:=by simp
 obj:=λi h zz b D=>by
  obtain⟨J,t,F⟩:=zz;rcases Þ.mp D with rfl|D
  ·exact⟨_,t,λv z=>by cases z⟩
  ·have e:b=it:=‹D›
   x_go;obtain⟨o,e,c,d⟩:=F;exact⟨o,e,λv z=>by rw[d]at z;cases z⟩
 keep:=λi h h' zz Z=>by obtain⟨J,t,F⟩:=zz;exact⟨J,Z e (by simp) _ t,F.at λo q=>Z it (by simp) o q⟩
 item:=by
  intro X hP hw hK hc i pins s σ H E I hf zu hg;obtain⟨J,t,F⟩:=zu;subst hP hw hK;obtain⟨xs,x,hq,hx⟩:=hg;obtain⟨L,rv,p,hz⟩:=I.tuple hq;obtain⟨u,hu,ru⟩:=rv.get hx;have WL:e<s.heap.objs.size:=Ù t;have Qy:it<s.heap.objs.size:=by obtain⟨o,q,_⟩:=F;exact Ù q
  have S:i<L.length:=(Á.mp hu).1;refine wpAny_pyNext_enum_itemD (wM (show X.A.in1.handled=Å from I.ok.hd hc) it l R L.toArray) t ⟨F,p⟩ ‹S› M (by simp[M,õ hle]) λx' h' tk hx' Y hst V hsz Z=>?_;have ZM:x'=u:=by have e:L.toArray[i]?=À x':=hx';rw[aaE,hu]at e;exact(æ e).symm
  subst ZM;have hL:=hst.1;refine⟨.ref s.heap.objs.size,rfl,?_⟩
  have I1:Inv X pins σ (upd H s.heap.objs.size (.tup [.int i,x])) {s with heap:=s.heap.push {cls:=.type "tuple",data:=.seq #[.int i tk,x']}}:=
   I.laid (t':=s.toks) (λb o q=>Ï _ q) (È _) ⟨by simp[sizeLine_eq],[.int i tk,x'],.cons ⟨_,rfl⟩ (.cons ru .nil),aat _ _⟩
  have O:=I.hok.fresh (È s.heap.objs.size);have U:∀b∈[e,it],nR X pins (upd H s.heap.objs.size (.tup [.int i,x])) b:=λb D=>by
   have hlt:b≠s.heap.objs.size:=by
    rcases Þ.mp D with rfl|D
    ·exact ã WL
    ·rw[è.mp D];exact ã Qy
   exact⟨by rw[aK hlt];exact(hf b D).1,(hf b D).2⟩
  unfold letOwnedTupleGo;refine Ã (abR Y ?_);k_go;rw[Α (by simp)];refine Ã (abm ?_);unfold updateField;refine Ã (abR Y ?_);k_go;rw[Α (by simp)];refine wpAny_update Y ?_;have yq:∀b,b≠e->(h'.update e (ĉ λx=>x.setIfInBounds 0 Value.none)).get? b=h'.get? b:=λb D=>ý _ _ (õ D);refine⟨.ref s.heap.objs.size,_,sH (t':=tk+1) (s:={s with heap:=s.heap.push {cls:=.type "tuple",data:=.seq #[.int i tk,x']}}) (ch:=[e,it]) I1 (λb o D q=>?_) U,rfl,⟨x,s.heap.objs.size,λys hy=>by rw[I.qx hy hq];exact hx,O,rfl,rfl⟩,⟨x',?_,?_⟩,λb D=>(U b D).1⟩
  ·have T:b≠e:=λz=>D (by simp[z]);have hb2:b≠it:=λz=>D (by simp[z]);show(h'.update e _).get? b=À o;rw[yq b T];by_cases Uh:b=s.heap.objs.size
   ·subst Uh;have:=Ø (o:={cls:=.type "tuple",data:=.seq #[.int (i:Int) tk,x']}) s.heap rfl;rw[this]at q;cases q;exact V
   ·have q':(s.heap.push {cls:=.type "tuple",data:=.seq #[.int (i:Int) tk,x']}).get? b=À o:=q;refine Z b o T hb2 ?_
    rwa [abA _ _ _ Uh]at q'
  ·show(h'.update e _).get? e=_;rw[Č _ Y rfl];rfl
  ·exact hL.at λo q=>(yq it (õ M)).trans q
 done:=by
  intro X hP hw hK hc i pins s σ H E I hf zu hg;obtain⟨J,t,F⟩:=zu;subst hP hw hK;obtain⟨xs,hq,hx⟩:=hg;obtain⟨L,rv,p,hz⟩:=I.tuple hq;room;have hl:=rv.length;have hi:i=L.toArray.size:=by simp;lia
  subst hi;exact wpAny_pyNext_enum_endD (wM (show X.A.in1.handled=Å from I.ok.hd hc) it l R L.toArray) t ⟨F,p⟩ λh' eb=>⟨rfl,I.turned (t':=s.toks) (λb o D e=>eb b o D e) f0 f1 f3 f4 f5⟩
 self:=λ_ _ _ _ _ zz h=>by obtain⟨J,t,_⟩:=zz;exact aav t h
def jj(xs:X2):View:=λ_ i=>if i<=xs.length then À (xs[i]?.map λx=>.tup [.int i,x]) else Å
def fG(m:DS->M X2):MI:=λτ=>(m τ).bind λds=>match ds with
 |[d]=>λG=>match ak G d with
  |some (.lst xs)=>.ok (xs.length+1,nK d) G
  |some (.tup xs)=>.ok (xs.length+1,jj xs) G
  |_=>.stuck
 |_=>M.stop
theorem IF(Z:zu H0 l vF)(O:aq K mg ρ0 H0 zs vF):JV K mg (QM K l) (jj zs) H0 ρ0:=by
 intro i H ρ G f S;have F:=zu.t (K:=K) (f.tup _ _ Z);have I:=O.mono f;unfold jj;constructor
 ·intro e;by_cases D:i<=zs.length
  ·rw[Α D]at e;cases qi:zs[i]? with
   |some z=>rw[qi]at e;k_ne
   |none=>have:=Ą.mp qi;exact⟨vF,F,by rw[<- I.length];lia⟩
  ·rw[Β D]at e;k_ne
 ·intro dd e;by_cases D:i<=zs.length
  ·rw[Α D]at e;cases qi:zs[i]? with
   |none=>rw[qi]at e;k_ne
   |some z=>rw[qi]at e;k_ne;obtain⟨v,J,L⟩:=I.get qi;refine⟨⟨vF,v,F,J⟩,λy H' M=>?_⟩;obtain⟨R,p,d,k,rfl,rfl⟩:=M;have d:=d vF F;rw[J]at d;cases d;refine⟨Ae.new k,?_⟩;unfold Rep;refine⟨p,[.int i,v],rfl,.of bL,.cons (by unfold Rep;rfl) (.cons (Rep.mono (di k ρ) _ _ L) .nil)⟩
  ·rw[Β D]at e;k_ne
section
variable{a:Expr}{p:Pos}
theorem IG{k:Nat}{pt:Pos}(hm:X.mg "enumerate"=Å)(V:Gl X "enumerate")(Z:QA X EE [a] m)(h:av [a]=Ä:=by rfl):QI X EE (.Tuple es k pt) (.Call (.Name "enumerate" p) [a] [] pc) (fG m):=by
 have h':bQ a=Ä/\av []=Ä:=by simpa[av]using h
 intro pins s L H R I hq;obtain⟨τ,ρ,G,ab,ok⟩:=hq;by_cases Y:∃d S T,m τ G=.ok [d] S/\ak S d=À (.tup T)
 ·obtain⟨d,S,T,em,q⟩:=Y;dsimp only[fG,M.bind]at ok;rw[em]at ok;nofun;ac_nf;nofun;refine Ā (gT I V hm wJ ?_ (by decide) (by decide));have hA:lY X.K X.mg EE m L H λvs F=>∃D,Ab X.K X.mg L F τ D S/\cK X.K H F ρ D/\aq X.K X.mg D F [d] vs:=by refine⟨τ,ρ,G,ab,?_⟩;rw[em];exact λvs H' ρ' f bf r=>⟨ρ',bf,f,r⟩
  refine ì (d7 (Z pc pins s L H _ I hA) λus s1 zG=>?_) (bu h'.1 _ _) (bK (es:=[]) rfl);obtain⟨vs,F,J,r1,D,ir,f1,rs⟩:=zG;obtain⟨x,rfl,rx⟩:=fJ rs;obtain⟨u,rfl,ru⟩:=vals1 r1;obtain⟨l,ys,rfl,sq,rv⟩:=tE rx q;cases ru;obtain⟨its,vv,pl,hz⟩:=J.tuple sq.t;have O:l<s1.heap.objs.size:=by obtain⟨_,e,_⟩:=pl;exact Ù e
  refine vG pl λh2 hE hL hsz kp=>?_;refine aav hE ?_;have I2:Inv X pins L F {s1 with heap:=h2}:=J.kept (t':=s1.toks) kp;refine⟨s1.heap.objs.size+1,[s1.heap.objs.size+1,s1.heap.objs.size],_,QM X.K l,F,rfl,I2,Co l _ _ (acY _) (ã (aas O)) (ã O),⟨_,hE,hL⟩,λb U=>?_,ok _ F D f1 ir (IF sq rv)⟩;rcases Þ.mp U with rfl|U
  ·exact J.rW (aaW _) (J.hok.fresh (aaW _))
  ·rw[è.mp U];exact J.rW (È _) (J.hok.fresh (È _))
 ·refine L4 hm V Z h pins s L H R I ⟨τ,ρ,G,ab,?_⟩;have e:DJ m τ G=fG m τ G:=by
   dsimp only[fG,DJ,M.bind];cases em:m τ G with
   |stuck=>rfl
   |bR c G'=>rfl
   |ok ds G'=>
    k_go
    match ds with
    |[]=>rfl
    |_::_::_=>rfl
    |[d]=>
     k_go;cases q:ak G' d with
     |none=>rfl
     |some sk=>
      cases sk with
      |lst _=>rfl
      |str _=>rfl
      |tup T=>exact absurd ⟨d,G',T,em,q⟩ Y
  rw[e];w_up
end
abbrev DN(s:Str):Prop:=(s==("__debug__":Str))=Â/\(s==("__classdict__":Str))=Â
def Out.fw(r:Out D)(G:DH):Out D:=match r with
 |.ok (.obj n) G'=>match G'[n]? with
  |some (.lst ds)=>if n=G.length/\G'.length=n+1/\nB (G'.take G.length) G=Ä/\aG ds=Ä then .ok (.con ds) G else .stuck
  |_=>.stuck
 |r=>r
def Out.fz(r:Out D):Out D:=match r with
 |.ok (.obj n) G'=>match G'[n]? with
  |some (.lst ds)=>.ok (.con ds) (G'.set n .dead)
  |_=>.stuck
 |r=>r
section
variable{A B R:DH}{e ma mb mc:Y2}{d:D}{c:XD}{ml:DS->M X2}{xs ys:X2}{m:X2->M D}
theorem cI:eFn e τ G=(e τ G).fw G:=î rfl rfl
@[simp]def ud:r8 e τ G=(e τ G).fz:=î rfl rfl
@[simp]def WQ:(Out.ok (.tup xs) G').fw G=.ok (.tup xs) G':=î rfl rfl
@[simp]def WR{z:Str}:(Out.ok (.str z) G').fw G=.ok (.str z) G':=î rfl rfl
theorem eX(h:aG ds=Ä):(Out.ok (.obj G.length) (G++[.lst ds])).fw G=.ok (.con ds) G:=by simp[Out.fw,h,ki]
theorem eu(hz:ds.length<=Ç)(h:aG ds=Ä):(aN ds G).fw G=.ok (.con ds) G:=by rw[aN,Α hz,eX h]
@[simp]def DR:(Out.ok (.obj A.length) (A++.lst ds::B)).fz=.ok (.con ds) (A++.dead::B):=by simp[Out.fz,Cc]
theorem II{o:DO}:(Out.ok (.obj (A.length+1)) (A++o::.lst ds::B)).fz=.ok (.con ds) (A++o::.dead::B):=by simp[Out.fz,Yh,Vo]
theorem fV{d:D}(h:m ds G=.ok d (G++R))(k:d.closed=Ä):dm m ds G=.ok d G:=by simp[dm,h,k,ki]
theorem gy{d:D}(h:m ds G=.ok d G)(k:d.closed=Ä):dm m ds G=.ok d G:=fV (R:=[]) ‹h› k
theorem IJ(h:m ds G=.ok (.obj G.length) (G++[.lst xs]))(k:aG xs=Ä):kY m ds G=.ok (.obj G.length) (G++[.lst xs]):=by simp[kY,h,k,ki]
@[simp]def IK:IB ml τ G=(ml τ G).bd λds=>match ds with
 |[d]=>λG=>match ak G d with
  |some (.lst xs)=>.ok (xs.length+1,Ci d xs.length) G
  |_=>.stuck
 |_=>M.stop:=aI
@[simp]def kr:fG ml τ G=(ml τ G).bd λds=>match ds with
 |[d]=>λG=>match ak G d with
  |some (.lst xs)=>.ok (xs.length+1,nK d) G
  |some (.tup xs)=>.ok (xs.length+1,jj xs) G
  |_=>.stuck
 |_=>M.stop:=aI
@[simp]def Mj:IE τ G=.ok (.obj G.length) (G++[.dct []]):=î rfl rfl
@[simp]def Vq:oX ma mb mc τ G=((ma τ G).bd λv=>(mb τ).bind λo=>(mc τ).bind λi=>wL v o i).xp τ:=by unfold oX bC Out.xp;rw[aI];cases ((ma τ G).bd λv=>(mb τ).bind λo=>(mc τ).bind λi=>wL v o i)<;>rfl
theorem iF{g:jV}{body:MS}{vw:View}(k:∀G i,i<=xs.length->vw G i=À xs[i]?):∀(fuel i:Nat)(τ:DS)(G:DH),i<=xs.length->xs.length<fuel+i->lU g body vw fuel i τ G=aT g body (xs.drop i) τ G
 |0,i,τ,G,t,F=>∅
 |fuel+1,i,τ,G,t,F=>by
  rw[lU];k_go;rw[k G i t];by_cases D:i<xs.length
  ·rw[Ê D,ĸ D,aT];k_go;cases g xs[i] τ with
   |none=>rfl
   |some τ1=>
    k_go;cases body τ1 G with
    |nx τ2 G2=>exact iF k fuel (i+1) τ2 G2 ∅ ∅
    |ct τ2 G2=>exact iF k fuel (i+1) τ2 G2 ∅ ∅
    |_=>rfl
  ·rw[ö ∅,ŋ ∅,aT]
theorem qH{gO:D->Option X2}{ks:L9}{tt:DS->M Bool}{te:Y2}{vw:View}(t:∀G i,i<=xs.length->vw G i=À xs[i]?):∀(fuel i:Nat)(τ:DS)(G:DH),i<=xs.length->xs.length<fuel+i->mj gO ks tt te n vw fuel i τ G=cC gO ks tt te n (xs.drop i) τ G
 |0,i,τ,G,k,I=>∅
 |fuel+1,i,τ,G,k,I=>by
  rw[mj];rw[t G i k];by_cases F:i<xs.length
  ·rw[Ê F,ĸ F,cC];k_go;cases cG gO ks tt te n xs[i] τ G with
   |ok u G2=>exact qH t fuel (i+1) τ G2 ∅ ∅
   |_=>rfl
  ·rw[ö ∅,ŋ ∅,cC]
theorem DT{body:MS}:lU g body (Ci (.con xs) xs.length) (xs.length+1) 0 τ G=aT g body xs.reverse τ G:=by
 have:=iF (g:=g) (body:=body) (xs:=xs.reverse) (vw:=Ci (.con xs) xs.length) (λG i h=>by
  simp only[List.length_reverse]at h;simp only[Ci,ak,if_true];by_cases k:i=xs.length
  ·rw[Α k,ö (by simp;lia)]
  ·rw[Β k,Α ∅,ab6 ∅]) (xs.length+1) 0 τ G (by simp) (by simp)
 z_go
theorem ue:mj gO ks tt te n (jj xs) (xs.length+1) 0 τ G=cC gO ks tt te n (xs.mapIdx λi x=>.tup [.int i,x]) τ G:=by
 have:=qH (n:=n) (gO:=gO) (ks:=ks) (tt:=tt) (te:=te) (xs:=xs.mapIdx λi x=>D.tup [.int i,x]) (vw:=jj xs) (λG i h=>by simp only[abp]at h;simp only[jj,Α h,Ĉ]) (xs.length+1) 0 τ G (by simp) (by simp)
 z_go
theorem Cp{x v:D}(k:gO x=À os)(t:te (os.map À++mask ks τ) (G++[.lst acc])=.ok v (G++[.lst acc]))(hz:acc.length<Ç):
  cG gO ks bM te G.length x τ (G++[.lst acc])=.ok () (G++[.lst (acc++[v])]):=by
 simp only[cG,k,bM,M.ret,t,jW,Α hz,Cc]
theorem m8{gO:D->Option X2}{ks:L9}{te:Y2}{own:D->X2}{f:D->D}:∀(xs k:X2),k.length+xs.length<=1000000->(∀x∈xs,gO x=À (own x))->(∀x∈xs,∀k,te ((own x).map À++mask ks τ) (G++[.lst k])=.ok (f x) (G++[.lst k])) ->
  cC gO ks bM te G.length xs τ (G++[.lst k])=.ok (.obj G.length) (G++[.lst (k++xs.map f)])
 |[],k,_,_,_=>by simp[cC]
 |x::xs,k,J,I,F=>by have hz:k.length<Ç:=Õ (by simp at J;lia) (lz (n:=1000001) ∅);rw[cC,Cp (I x (by simp)) (F x (by simp) k) hz];k_go;rw[m8 xs (k++[f x]) (by simp at J |-;lia) (λy t=>I y (by simp[t])) (λy t=>F y (by simp[t]))];simp
end
theorem uf:∀{xs:X2},(∀x∈xs,x.closed=Ä)->aG xs=Ä
 |[],_=>rfl
 |x::xs,h=>by rw[aG,h x (by simp),uf λy d=>h y (by simp[d])];rfl
theorem aB{d:Type}{f:d->D}{l:List d}(h:∀x,(f x).closed=Ä):aG (l.map f)=Ä:=uf (by intro x k;obtain⟨a,_,rfl⟩:=ê.mp k;exact h a)
theorem c8{xs:X2}:(D.con xs).closed=aG xs:=by rw[D.closed]
theorem kZ{xs:X2}:(D.tup xs).closed=aG xs:=by rw[D.closed]
theorem b7{i:Int}:(D.int i).closed=Ä:=by rw[D.closed]<;>simp
theorem aW{i:Str}:(D.str i).closed=Ä:=by rw[D.closed]<;>simp
theorem fC{i:Bool}:(D.bl i).closed=Ä:=by rw[D.closed]<;>simp
theorem ug:D.bw.closed=Ä:=by rw[D.closed]<;>simp
theorem dF:aG []=Ä:=rfl
theorem bh{x:D}{xs:X2}:aG (x::xs)=(x.closed&&aG xs):=by rw[aG]
theorem jE:∀{xs ys:X2},aG (xs++ys)=(aG xs&&aG ys)
 |[],ys=>by simp[aG]
 |x::xs,ys=>by simp[aG,jE (xs:=xs),ű]
section
theorem uh{d:Addr}{es:Array DictEntry}{e:DictEntry}{Q:Option Æ->Ì->Prop}(k:s.heap.IsKeyIter it d i es.size ep)
  (D:s.heap.get? d=À o) (L:o.ExactDict) (F:o.data=.dict es ep) (I:es[i]?=À e)
  (J:∀h',h'.IsKeyIter it d (i+1) es.size ep->Ř it s.heap h'->Q (À e.key) {s with heap:=h'}):
  à (model prog w) A (pyNext (.ref it)) Q E s:=by
 obtain⟨O,R,Y,t⟩:=id k;unfold pyNext;refine Ã (abF (Ď (name:=į "__next__") k.typeIs ĥ (Ī ĥ k.typeIs aaX ?_ (aaM _))));refine Ã (Ã (Ó (Ó ?_)));refine Ã ?_;refine Ã (Ã (ŀ k.typeIs (Ó ?_)));refine Ã (wpAny_fieldsOf R t ?_);rw[show ŉ "dict_keyiterator"=Â from by decide];show à _ _ (if (Value.ref d==Value.none)=Ä then _ else _) _ _ s;rw[Β (show ¬ ((Value.ref d==Value.none)=Ä) from ï)];refine Ã (Ó ?_);refine Ã (aaw D F ?_);k_go;rw[Β (by simp)];refine Ã (Ó ?_);refine Ã (ab2 D F ?_);rw[Β (by simp)];refine Ó ?_;k_go;rw[Β ∅,Ē,I];k_go;refine Ã (Ã (ŀ k.typeIs (Ó ?_)));refine Ã (ab8 k.typeIs ?_);rw[show ŉ "dict_keyiterator"=Â from by decide];refine Ã (ő R t (by simp) ?_);refine Ã (ĭ ?_);simp only[ħ,if_false];rw[Β (by decide)]
 have M:Heap.IsKeyIter (s.heap.update it (ĉ λx=>x.setIfInBounds (0+1) (rawInt (↑i+1)))) it d (i+1) es.size ep:=
  ⟨_,Č _ R (Ĺ (ě t _)),(abx ..).trans Y,by
   rw[ě t];simp[rawInt]⟩
 refine Ã (ab8 M.typeIs ?_);rw[Α (by decide)];exact Ó (Ó ⟨_,rfl,Ó (J _ M (ż ..))⟩)
theorem vH{d:Addr}{es:Array DictEntry}{Q:Option Æ->Ì->Prop}(F:A.handled=Å)(k:s.heap.IsKeyIter it d i es.size ep)
  (D:s.heap.get? d=À o) (M:o.ExactDict) (I:o.data=.dict es ep) (J:es[i]?=Å)
  (L:∀h',ach it s.heap h'->Q Å {s with heap:=h'}):
  à (model prog w) A (pyNext (.ref it)) Q E s:=by
 obtain⟨O,R,Y,t⟩:=id k;unfold pyNext;refine Ã (abF (Ď (name:=į "__next__") k.typeIs ĥ (Ī ĥ k.typeIs aaX ?_ (aaM _))));refine Ã (Ã (Ó (Ó ?_)));refine Ã ?_;refine Ã (Ã (ŀ k.typeIs (Ó ?_)));refine Ã (wpAny_fieldsOf R t ?_);rw[show ŉ "dict_keyiterator"=Â from by decide];show à _ _ (if (Value.ref d==Value.none)=Ä then _ else _) _ _ s;rw[Β (show ¬ ((Value.ref d==Value.none)=Ä) from ï)];refine Ã (Ó ?_);refine Ã (aaw D I ?_);k_go;rw[Β (by simp)];refine Ã (Ó ?_);refine Ã (ab2 D I ?_);rw[Β (by simp)];refine Ó ?_;k_go;rw[Β ∅,Ē,J];k_go;refine Ã (Ã (ŀ k.typeIs (Ó ?_)));rw[show ŉ "dict_keyiterator"=Â from by decide];refine Ã (ő R t (by simp) ?_);refine Ã ?_;simp only[newExc,newTuple];refine Ã (þ ?_ (by size_fits));refine Ã (m:=firstArgMember _ _) (Ű (a:=Value.none) (by first|rfl|(simp only[firstArgMember];rfl)) ?_);refine þ ?_ (by size_fits);simp only[raiseNew];refine Ã (wpAny_handled ?_)
 first|rw[show A.in1.handled=Å from F]|rw[F]
 refine Ã (Ó (ac6 ?_));refine Ã (abM (T:="StopIteration") (v:=.ref _) ?_ isSubtype_stop ?_)
 ·exact⟨_,Ø _ rfl,rfl⟩
 rw[Α rfl];exact Ó (L _ (((ż ..).extBut.push _).push _))
theorem FA{d:Addr}{es:Array DictEntry}(t:(d==sysModules)=Â)
  (D:s.heap.get? d=À o) (L:o.ExactDict) (I:o.data=.dict es ep)
  (J:Q (.ref s.heap.objs.size) {s with heap:=s.heap.push {cls:=.type "dict_keyiterator",data:=.fields #[.ref d,.int 0 0,.int es.size 0,.int ep 0]}}):
  à (model prog w) A (pyIter (.ref d)) Q E s:=by
 have k:s.TypeIs (.ref d) "dict":=⟨_,D,L.1⟩;refine wpAny_pyIter_slot k acZ (Ī acZ k F.entry_dict_iter ?_ (F.args_dict_iter_1 _));refine Ã (Ã (wpAny_notOrdered_dict k ?_));refine Ã (Ó (Ó ?_));refine Ã (Ó ?_);refine Ã (m:=ab9 _) ?_;unfold ab9;rw[Β (by rw[t];exact ï)];refine Ó ?_;refine Ã (aaw D I ?_);refine Ã (ab2 D I ?_);refine Ã (þ ?_ (by size_fits));exact Ó ⟨_,rfl,"dict_keyiterator",_,⟨_,Ø _ rfl,rfl⟩,ĥ.lookup,J⟩
end
def rG(t:Bool)(h:Heap)(it l:Addr)(i:Nat):Prop:=if t=Ä then h.IsTupleIter it l i else h.IsListIter it l i
def vt(t:Bool)(h:Heap)(l:Addr)(xs:Array Æ):Prop:=if t=Ä then h.IsTuple l xs else h.IsList l xs
theorem rG.at(x:rG tp h it l i)(k:∀o,h.get? it=À o->h'.get? it=À o):rG tp h' it l i:=by
 cases tp
 ·exact Heap.IsListIter.at (show h.IsListIter it l i from x) k
 ·exact Heap.IsTupleIter.at (show h.IsTupleIter it l i from x) k
theorem vt.at{xs:Array Æ}(x:vt tp h l xs)(k:∀o,h.get? l=À o->h'.get? l=À o):vt tp h' l xs:=by
 cases tp
 ·obtain⟨o,e,r⟩:=(show h.IsList l xs from x);exact(⟨o,k o e,r⟩:h'.IsList l xs)
 ·exact Heap.IsTuple.at (show h.IsTuple l xs from x) k
theorem rG.get(x:rG tp h it l i):∃o,h.get? it=À o/\∀v,o.data≠.cell v:=by
 cases tp
 ·obtain⟨o,e,c,d⟩:=(show h.IsListIter it l i from x);exact⟨o,e,λv q=>by rw[d]at q;cases q⟩
 ·obtain⟨o,e,c,d⟩:=(show h.IsTupleIter it l i from x);exact⟨o,e,λv q=>by rw[d]at q;cases q⟩
section
theorem oq{x:Æ}(d:rG tp s.heap it l i)
  (t:vt tp s.heap l items) (D:items[i]?=À x)
  (k:∀h',rG tp h' it l (i+1)->Ř it s.heap h'->Q x {s with heap:=h'}):
  à (model prog w) A (ĝ (.ref it)) Q E s:=by
 cases tp
 ·exact wpAny_nextOf_list_item (show s.heap.IsListIter it l i from d) (show s.heap.IsList l items from t) D k
 ·exact lN (show s.heap.IsTupleIter it l i from d) (show s.heap.IsTuple l items from t) D k
theorem FE{TI TO:Addr}{k:Nat}{a b x y:Æ}{xs:Array Æ}(D:ZipApart z TI TO i1 i2 l1 l2)(hz:IsZip s.heap z TI TO Value.none)(Y:IsPair s.heap TI (.ref i1) (.ref i2))(V:IsPair s.heap TO a b)
  (h1:rG t1 s.heap i1 l1 k) (h2:rG t2 s.heap i2 l2 k) (p1:vt t1 s.heap l1 xs) (p2:vt t2 s.heap l2 ys) (hx:xs[k]?=À x) (hy:ys[k]?=À y)
  (hQ:∀h',IsZip h' z TI TO (rawInt s.heap.objs.size)->IsPair h' TO x y->rG t1 h' i1 l1 (k+1)->rG t2 h' i2 l2 (k+1)->IsPair h' s.heap.objs.size x y->h'.objs.size=s.heap.objs.size+1 ->
   (∀c o,c≠z->c≠TO->c≠i1->c≠i2->s.heap.get? c=À o->h'.get? c=À o)->Q (.ref s.heap.objs.size) {s with heap:=h'}):
  à (model prog w) A (aaQ.«zip.__next__» {pos:=[Value.ref z]}) (λZ s'=>∃v,Z=Fin.done (Flow.ret v)/\Q v s') E s:=by
 unfold «Builtin».«zip.__next__»;refine Ã (Ó ?_);k_go;refine Ã (ù hz rfl (x:=.bool Â) rfl ?_);refine Ã (ù hz rfl (x:=.ref TI) rfl ?_);refine Ã (Ŀ Y rfl ?_);k_go;rw[Β (by simp)];refine Ã ?_;unfold gV;refine Ã (ù hz rfl (x:=.none) rfl ?_);k_go;refine Ó ?_;rw[Α rfl];refine Ã (abm ?_);refine Ã (ù hz rfl (x:=.ref TO) rfl ?_);k_go;refine Ã (œ hz (by simp) λWS z1 s1=>?_);have k1:∀c o,c≠z->s.heap.get? c=À o->WS.get? c=À o:=λc o d q=>(s1.2 c d).trans q;refine Ã ?_;rw[show[Value.ref i1,Value.ref i2].zipIdx=[(.ref i1,0),(.ref i2,1)] from rfl,ň];refine Ã ?_;k_go;refine Ã (abG ?_);refine Ã (oq (h1.at λo q=>k1 _ _ D.i1z q) (p1.at λo q=>k1 _ _ D.l1z q) hx λI m1 U=>Ó ?_);have k2:∀c o,c≠z->c≠i1->s.heap.get? c=À o->I.get? c=À o:=λc o d J q=>(U.2 c J).trans (k1 c o d q);k_go;have Ut:IsPair I TO a b:=k2 _ _ D.TOz D.TOi1 V;refine Ã (Ŀ Ut rfl ?_);k_go;refine Ã (aaY Ut λF e3 S=>?_);refine Ã (abz (Ó ?_));have k3:∀c o,c≠z->c≠i1->c≠TO->s.heap.get? c=À o->F.get? c=À o:=λc o d J O q=>(S.2 c O).trans (k2 c o d J q);have ZO:IsPair F TO x b:=e3;k_go;rw[ň];refine Ã ?_;k_go;refine Ã (abG ?_);refine Ã (oq (h2.at λo q=>k3 _ _ D.i2z D.i12.symm D.TOi2.symm q) (p2.at λo q=>k3 _ _ D.l2z D.l2i1 D.l2TO q) hy λYk m2 M=>Ó ?_);k_go;have Yl:IsPair Yk TO x b:=(M.2 _ D.TOi2).trans ZO;refine Ã (Ŀ Yl rfl ?_);k_go;refine Ã (aaY Yl λt e5 L=>?_);refine Ã (abz (Ó ?_));have k5:∀c o,c≠z->c≠i1->c≠TO->c≠i2->s.heap.get? c=À o->t.get? c=À o:=λc o d J O hf q=>(L.2 c O).trans ((M.2 c hf).trans (k3 c o d J O q));have Ym:IsPair t TO x y:=e5;k_go;rw[ack];refine Ó ?_;k_go;refine Ã (Ŀ Ym rfl ?_);k_go;refine Ã (acm ?_);refine Ã ?_;unfold Builtin.SmallTypes.ownedTupleHandOut;k_go;have hsz:t.objs.size=s.heap.objs.size:=by have a1:=s1.1;have a2:=U.1;have a3:=S.1;have a4:=M.1;have a5:=L.1;dsimp only at a2 a3 a4 a5;lia
 have z5:=(L.2 z D.TOz.symm).trans ((M.2 z D.i2z.symm).trans ((S.2 z D.TOz.symm).trans ((U.2 z D.i1z.symm).trans z1)));have zn:z≠s.heap.objs.size:=ã (Ù hz);rw[hsz];refine Ã (œ (Ï _ z5) (by simp) λh6' z6 s6=>?_);refine œ z6 (by simp) λT z7 s7=>?_;refine Ó ⟨_,rfl,?_⟩;have k7:∀c,c≠z->T.get? c=(t.push {cls:=.type "tuple",data:=.seq #[x,y]}).get? c:=λc d=>(s7.2 c d).trans (s6.2 c d);have R:∀c o,c≠z->t.get? c=À o->T.get? c=À o:=λc o d q=>(k7 c d).trans (Ï _ q);refine hQ T z7 (R _ _ D.TOz Ym) (m1.at λo q=>?_) (m2.at λo q=>?_) ?_ ?_ (λc o c1 c2 c3 c4 q=>R c o c1 (k5 c o c1 c3 c2 c4 q))
 ·exact R _ _ D.i1z ((L.2 _ D.TOi1.symm).trans ((M.2 _ D.i12).trans ((S.2 _ D.TOi1.symm).trans q)))
 ·exact R _ _ D.i2z ((L.2 _ D.TOi2.symm).trans q)
 ·refine(k7 _ zn.symm).trans ?_;rw[<- hsz];exact Ø _ rfl
 ·have a6:=s6.1;have a7:=s7.1;have a8:=Ĝ t {cls:=.type "tuple",data:=.seq #[x,y]};dsimp only at a6 a7;lia
end
section
theorem wN{Q:Æ->Ì->Prop}(D:A.handled=Å)(d:rG tp s.heap it l i)
  (k:vt tp s.heap l items) (F:items[i]?=Å)
  (t:∀h' e,ach it s.heap h'->(∃o,h'.get? e=À o/\o.cls=.type "StopIteration")->E (.ref e) {s with heap:=h'}):
  à (model prog w) A (ĝ (.ref it)) Q E s:=by
 cases tp
 ·exact wpAny_nextOf_list_end D (show s.heap.IsListIter it l i from d) (show s.heap.IsList l items from k) F t
 ·exact mC D (show s.heap.IsTupleIter it l i from d) (show s.heap.IsTuple l items from k) F t
theorem IL{t1 t2:Bool}{TI TO:Addr}{k:Nat}{a b:Æ}{xs ys:Array Æ}{Q:PySem.Fin->Ì->Prop}(hh:A.handled=Å)(D:ZipApart z TI TO i1 i2 l1 l2)(hz:IsZip s.heap z TI TO Value.none)(T:IsPair s.heap TI (.ref i1) (.ref i2))(Y:IsPair s.heap TO a b)
  (h1:rG t1 s.heap i1 l1 k) (h2:rG t2 s.heap i2 l2 k) (p1:vt t1 s.heap l1 xs) (p2:vt t2 s.heap l2 ys) (F:xs[k]?=Å\/ys[k]?=Å)
  (hE:∀h' e,(∀c o,c≠z->c≠TO->c≠i1->c≠i2->s.heap.get? c=À o->h'.get? c=À o)->(∃o,h'.get? e=À o/\o.cls=.type "StopIteration")->E (.ref e) {s with heap:=h'}):
  à (model prog w) A (aaQ.«zip.__next__» {pos:=[Value.ref z]}) Q E s:=by
 unfold «Builtin».«zip.__next__»;refine Ã (Ó ?_);k_go;refine Ã (ù hz rfl (x:=.bool Â) rfl ?_);refine Ã (ù hz rfl (x:=.ref TI) rfl ?_);refine Ã (Ŀ T rfl ?_);k_go;rw[Β (by simp)];refine Ã ?_;unfold gV;refine Ã (ù hz rfl (x:=.none) rfl ?_);k_go;refine Ó ?_;rw[Α rfl];refine Ã (abm ?_);refine Ã (ù hz rfl (x:=.ref TO) rfl ?_);k_go;refine Ã (œ hz (by simp) λWS z1 s1=>?_);have k1:∀c o,c≠z->s.heap.get? c=À o->WS.get? c=À o:=λc o I q=>(s1.2 c I).trans q;refine Ã ?_;rw[show[Value.ref i1,Value.ref i2].zipIdx=[(.ref i1,0),(.ref i2,1)] from rfl,ň];refine Ã ?_;k_go;refine Ã (abG ?_);cases Vr:xs[k]? with
 |none=>
  refine Ã (wN hh (h1.at λo q=>k1 _ _ D.i1z q) (p1.at λo q=>k1 _ _ D.l1z q) Vr λt e M O=>?_);obtain⟨Z,d,R⟩:=O;have z2:=M _ _ D.i1z.symm z1;have V:e≠z:=by rintro rfl;rw[z2]at d;cases d;exact absurd (show Value.type "zip"=Value.type "StopIteration" from R) (by decide)
  refine œ z2 (by simp) λL z3 J=>?_;exact hE _ _ (λc o S c2 U c4 q=>(J.2 c S).trans (M _ _ U (k1 c o S q))) ⟨Z,(J.2 e V).trans d,R⟩
 |some x=>
 refine Ã (oq (h1.at λo q=>k1 _ _ D.i1z q) (p1.at λo q=>k1 _ _ D.l1z q) Vr λt m1 M=>Ó ?_);have hy:ys[k]?=Å:=by
  rcases F with F|F
  ·rw[Vr]at F;cases F
  ·exact F
 have k2:∀c o,c≠z->c≠i1->s.heap.get? c=À o->t.get? c=À o:=λc o I hd q=>(M.2 c hd).trans (k1 c o I q);k_go;have Ut:IsPair t TO a b:=k2 _ _ D.TOz D.TOi1 Y;refine Ã (Ŀ Ut rfl ?_);k_go;refine Ã (aaY Ut λL e3 J=>?_);refine Ã (abz (Ó ?_));have k3:∀c o,c≠z->c≠i1->c≠TO->s.heap.get? c=À o->L.get? c=À o:=λc o I hd O q=>(J.2 c O).trans (k2 c o I hd q);k_go;rw[ň];refine Ã ?_;k_go;refine Ã (abG ?_);refine Ã (wN hh (h2.at λo q=>k3 _ _ D.i2z D.i12.symm D.TOi2.symm q) (p2.at λo q=>k3 _ _ D.l2z D.l2i1 D.l2TO q) hy λYk e s4 O=>?_);obtain⟨Z,d,R⟩:=O;have z4:=s4 _ _ D.i2z.symm ((J.2 z D.TOz.symm).trans ((M.2 z D.i1z.symm).trans z1));have V:e≠z:=by rintro rfl;rw[z4]at d;cases d;exact absurd (show Value.type "zip"=Value.type "StopIteration" from R) (by decide)
 refine œ z4 (by simp) λQN z5 s5=>?_;exact hE _ _ (λc o S c2 U c4 q=>(s5.2 c S).trans (s4 _ _ c4 (k3 c o S U c2 q))) ⟨Z,(s5.2 e V).trans d,R⟩
end
section
theorem vI{TI TO:Addr}{k:Nat}{a b x y:Æ}{xs:Array Æ}{Q:Option Æ->Ì->Prop}(D:ZipApart z TI TO i1 i2 l1 l2)(hz:IsZip s.heap z TI TO Value.none)(d:IsPair s.heap TI (.ref i1) (.ref i2))(t:IsPair s.heap TO a b)
  (h1:rG t1 s.heap i1 l1 k) (V:rG t2 s.heap i2 l2 k) (I:vt t1 s.heap l1 xs) (R:vt t2 s.heap l2 ys) (Z:xs[k]?=À x) (O:ys[k]?=À y)
  (L:∀h',IsZip h' z TI TO (rawInt s.heap.objs.size)->IsPair h' TO x y->rG t1 h' i1 l1 (k+1)->rG t2 h' i2 l2 (k+1)->IsPair h' s.heap.objs.size x y->h'.objs.size=s.heap.objs.size+1 ->
   (∀c o,c≠z->c≠TO->c≠i1->c≠i2->s.heap.get? c=À o->h'.get? c=À o)->Q (À (.ref s.heap.objs.size)) {s with heap:=h'}):
  à (model prog w) A (pyNext (.ref z)) Q E s:=by
 have F:s.TypeIs (.ref z) "zip":=⟨_,hz,rfl⟩;unfold pyNext;refine Ã (abF (Ď (name:=į "__next__") F aa8 (Ī aa8 F ac0 ?_ (acQ _))));exact FE D hz d t h1 V I R Z O λh' U J M T S a6 Y=>Ó (L h' U J M T S a6 Y)
theorem yD{TI TO:Addr}{k:Nat}{a b:Æ}{xs:Array Æ}{Q:Option Æ->Ì->Prop}(R:A.handled=Å)(D:ZipApart z TI TO i1 i2 l1 l2)(hz:IsZip s.heap z TI TO Value.none)(d:IsPair s.heap TI (.ref i1) (.ref i2))(t:IsPair s.heap TO a b)
  (U:rG t1 s.heap i1 l1 k) (O:rG t2 s.heap i2 l2 k) (I:vt t1 s.heap l1 xs) (M:vt t2 s.heap l2 ys) (S:xs[k]?=Å\/ys[k]?=Å)
  (L:∀h',(∀c o,c≠z->c≠TO->c≠i1->c≠i2->s.heap.get? c=À o->h'.get? c=À o)->Q Å {s with heap:=h'}):
  à (model prog w) A (pyNext (.ref z)) Q E s:=by
 have F:s.TypeIs (.ref z) "zip":=⟨_,hz,rfl⟩;unfold pyNext;refine Ã (abF (Ď (name:=į "__next__") F aa8 (Ī aa8 F ac0 ?_ (acQ _))));refine IL R D hz d t U O I M S λh' e V J=>?_;refine Ã (abM (T:="StopIteration") (v:=.ref e) J isSubtype_stop ?_);rw[Α rfl];exact Ó (L _ V)
def R6(tp:Bool)(l:Addr):Obj:={cls:=.type (if tp=Ä then "tuple_iterator" else "list_iterator"),data:=.fields #[.ref l,.int 0 0]}
theorem IM{xs:Array Æ}(h:vt tp s.heap l xs)(d:Q (.ref s.heap.objs.size) {s with heap:=s.heap.push (R6 tp l)}):à (model prog w) A (pyIter (.ref l)) Q E s:=by
 cases tp
 ·exact aar (show s.heap.IsList l xs from h) d
 ·exact Ŧ (show s.heap.IsTuple l xs from h) d
end
abbrev R7(t:Bool)(h:Heap)(d:Addr):Heap:=h.push (R6 t d)
abbrev QU(t k:Bool)(h:Heap)(d D:Addr):Heap:=(R7 t h d).push (R6 k D)
abbrev QV(t1 t:Bool)(h:Heap)(l1 d:Addr):Heap:=(QU t1 t h l1 d).push {cls:=.type "tuple",data:=.seq #[.ref h.objs.size,.ref (R7 t1 h l1).objs.size]}
abbrev R8(t k:Bool)(h:Heap)(d D:Addr):Heap:=(QV t k h d D).push {cls:=.type "tuple",data:=.seq #[.none,.none]}
abbrev Vt(t1 t2:Bool)(h:Heap)(l1 l2:Addr):Heap:=(R8 t1 t2 h l1 l2).push {cls:=.type "zip",data:=.fields #[.none,.bool Â,.bool Â,.ref (QU t1 t2 h l1 l2).objs.size,.ref (QV t1 t2 h l1 l2).objs.size]}
theorem Cq(t1 t2:Bool)(l1 l2:Addr)(xs ys:Array Æ):
  Meets (aaQ.«zip.__new__» ⟨[.type "zip",.ref l1,.ref l2],[]⟩) (λ_ R s=>vt t1 s.heap l1 xs/\vt t2 s.heap l2 ys /\
   R (.ok (.ret (.ref (R8 t1 t2 s.heap l1 l2).objs.size))) {s with heap:=Vt t1 t2 s.heap l1 l2}):=
 .of_wp λprog w A R s h=>by obtain⟨D,t,h⟩:=h;have d:=sub_zip;have k:vt t2 (s.heap.push (R6 t1 l1)) l2 ys:=t.at λo q=>Ï _ q;unfold «Builtin».«zip.__new__»;refine Ã ?_;unfold Builtin.SmallTypes.newClass;k_go;refine Ã (Ó ?_);rw[Β (by decide),d];refine Ã (Ó ?_);rw[Β (by decide)];refine Ó ?_;k_go;rw[Β (by simp)];refine Ã ?_;unfold Builtin.SmallTypes.iterAll;k_go;refine Ã ?_;rw[ň];refine Ã (Ã (ĭ (IM D (Ó ?_))));k_go;rw[ň];refine Ã (Ã (ĭ (IM k (Ó ?_))));k_go;rw[ack];refine Ó (Ó ?_);refine Ã (acm ?_ (by simp[sizeLine_eq]));refine Ã (acm ?_ (by simp[sizeLine_eq]));refine Ã ?_;unfold Builtin.SmallTypes.newRecord;k_go;exact þ (Ó ⟨_,rfl,h⟩) (by simp[sizeOk,sizeLine_eq,Builtin.SmallTypes.ownedTupleFields])
theorem FF{prog:ô}{w:đ}{A:Around}{E:Æ->Ì->Prop}{xs:Array Æ}(U:vt t1 s.heap l1 xs)(S:vt t2 s.heap l2 ys)
  (h:∀h',IsZip h' (s.heap.objs.size+4) (s.heap.objs.size+2) (s.heap.objs.size+3) .none->IsPair h' (s.heap.objs.size+2) (.ref s.heap.objs.size) (.ref (s.heap.objs.size+1))->IsPair h' (s.heap.objs.size+3) .none .none ->
   rG t1 h' s.heap.objs.size l1 0->rG t2 h' (s.heap.objs.size+1) l2 0->h'.objs.size=s.heap.objs.size+5->(∀c o,s.heap.get? c=À o->h'.get? c=À o)->Q (.ref (s.heap.objs.size+4)) {s with heap:=h'}):
  à (model prog w) A (call (.type "zip") [.ref l1,.ref l2]) Q E s:=by
 refine callType_new F.called_zip (by decide) (F.typeCall_zip_2 _ _) (F.newCall_zip_2 _ _) (λM=>F.args_object_init_3 M _ _) F.entry_zip_new
  (Cq t1 t2 l1 l2 xs ys) ⟨U,S,?_⟩
 have I:(R7 t1 s.heap l1).objs.size=s.heap.objs.size+1:=Ĝ ..;have L:(QU t1 t2 s.heap l1 l2).objs.size=s.heap.objs.size+2:=by rw[QU,Ĝ,I]
 have J:(QV t1 t2 s.heap l1 l2).objs.size=s.heap.objs.size+3:=by rw[QV,Ĝ,L]
 have t:(R8 t1 t2 s.heap l1 l2).objs.size=s.heap.objs.size+4:=by rw[R8,Ĝ,J]
 have R:(Vt t1 t2 s.heap l1 l2).objs.size=s.heap.objs.size+5:=by rw[Vt,Ĝ,t]
 have d:=Ø (R8 t1 t2 s.heap l1 l2) (o:={cls:=.type "zip",data:=.fields #[.none,.bool Â,.bool Â,.ref (QU t1 t2 s.heap l1 l2).objs.size,.ref (QV t1 t2 s.heap l1 l2).objs.size]}) rfl;have gO:=Ø (QV t1 t2 s.heap l1 l2) (o:={cls:=.type "tuple",data:=.seq #[.none,.none]}) rfl;have D:=Ø (QU t1 t2 s.heap l1 l2) (o:={cls:=.type "tuple",data:=.seq #[.ref s.heap.objs.size,.ref (R7 t1 s.heap l1).objs.size]}) rfl;have V:rG t2 (QU t1 t2 s.heap l1 l2) (s.heap.objs.size+1) l2 0:=by have:=Ø (R7 t1 s.heap l1) (o:=R6 t2 l2) rfl;rw[I]at this;cases t2<;>exact⟨_,this,rfl,rfl⟩
 have T:rG t1 (R7 t1 s.heap l1) s.heap.objs.size l1 0:=by have:=Ø s.heap (o:=R6 t1 l1) rfl;cases t1<;>exact⟨_,this,rfl,rfl⟩
 replace d:IsZip (Vt t1 t2 s.heap l1 l2) (s.heap.objs.size+4) (s.heap.objs.size+2) (s.heap.objs.size+3) .none:=by rw[IsZip,<- t,<- L,<- J];exact d
 replace gO:IsPair (R8 t1 t2 s.heap l1 l2) (s.heap.objs.size+3) .none .none:=by rw[IsPair,<- J];exact gO
 replace D:IsPair (QV t1 t2 s.heap l1 l2) (s.heap.objs.size+2) (.ref s.heap.objs.size) (.ref (s.heap.objs.size+1)):=by rw[IsPair,<- L,<- I];exact D
 have k:∀{h:Heap}{O:Obj}{c:Addr}{o:Obj},h.get? c=À o->(h.push O).get? c=À o:=λq=>Ï _ q;refine⟨?_,?_⟩
 ·rw[t];exact⟨_,d,rfl⟩
 ·rw[t];exact h _ d (k (k D)) (k gO) (T.at λo q=>k (k (k (k q)))) (V.at λo q=>k (k (k q))) R λc o q=>k (k (k (k (k q))))
def IP(t:Bool)(K:Ë)(H:Hp)(a:Addr)(xs:X1):Prop:=if t=Ä then nA K H a xs else kG K H a xs
section
variable{ys:X1}{t:Bool}
theorem _root_.L2.Inv.Cr(I:Inv X pins σ H s)(h:IP t X.K H a xs):∃d:List Æ,Vals xs d/\vt t s.heap a d.toArray:=by
 cases t
 ·obtain⟨d,r,p,_⟩:=I.list (show kG X.K H a xs from h);exact⟨d,r,p.isList⟩
 ·obtain⟨d,r,p,_⟩:=I.tuple (show nA X.K H a xs from h);exact⟨d,r,p⟩
theorem _root_.L2.Inv.Ao(I:Inv X pins σ H s)(h:IP t X.K H a xs)(h':IP t X.K H a ys):xs=ys:=by
 cases t
 ·exact I.oR (show kG X.K H a xs from h) (show kG X.K H a ys from h')
 ·exact I.qx (show nA X.K H a xs from h) (show nA X.K H a ys from h')
theorem vt.lt(p:vt t h a its):a<h.objs.size:=by
 cases t
 ·obtain⟨o,e,_⟩:=(show h.IsList a its from p);exact Ù e
 ·obtain⟨o,e,_⟩:=(show h.IsTuple a its from p);exact Ù e
end
def QX(K:Ë)(t d:Bool)(a b:Addr):It:=
 ⟨λi H=>∃xs ys x y,IP t K H a xs/\IP d K H b ys/\xs[i]?=À x/\ys[i]?=À y,λi H v H'=>∃x y p,(∀xs,IP t K H a xs->xs[i]?=À x)/\(∀ys,IP d K H b ys->ys[i]?=À y)/\H p=Å/\v=.ref p/\H'=upd H p (.tup [x,y]),λi H=>∃xs ys,IP t K H a xs/\IP d K H b ys/\(xs.length<=i\/ys.length<=i)⟩
theorem FG{k:Nat}{pt:Pos}(t1 t2:Bool)(l1 l2 z TI TO F t:Addr)(D:ZipApart z TI TO F t l1 l2):Turn P w K (.Tuple es k pt) (QX K t1 t2 l1 l2) [z,TI,TO,F,t] z
  (λi h=>IsZip h z TI TO .none/\IsPair h TI (.ref F) (.ref t)/\(∃a b,IsPair h TO a b)/\rG t1 h F l1 i/\rG t2 h t l2 i) where
 mem:=by simp
 obj:=λi h zz c d=>by
  obtain⟨hz,hTI,⟨a,b,hTO⟩,O,R⟩:=zz;simp only[Þ,ţ,or_false]at d;rcases d with rfl|rfl|rfl|rfl|rfl
  ·exact⟨_,hz,λv e=>by cases e⟩
  ·exact⟨_,hTI,λv e=>by cases e⟩
  ·exact⟨_,hTO,λv e=>by cases e⟩
  ·exact O.get
  ·exact R.get
 keep:=λi h h' zz V=>by obtain⟨hz,hTI,⟨a,b,hTO⟩,O,R⟩:=zz;exact⟨V z (by simp) _ hz,V TI (by simp) _ hTI,⟨a,b,V TO (by simp) _ hTO⟩,O.at λo q=>V F (by simp) o q,R.at λo q=>V t (by simp) o q⟩
 item:=by
  intro X hP hw hK d i pins s σ H E I hf zu hg;obtain⟨hz,hTI,⟨a,b,hTO⟩,O,R⟩:=zu;subst hP hw hK;obtain⟨xs,ys,x,y,M,L,T,hy⟩:=hg;obtain⟨Cu,Uu,p1⟩:=I.Cr M;obtain⟨Y,R9,p2⟩:=I.Cr L;obtain⟨u1,hu1,ZP⟩:=Uu.get T;obtain⟨u2,ZQ,WV⟩:=R9.get hy;have lt:∀{c o},s.heap.get? c=À o->c≠s.heap.objs.size:=λe=>ã (Ù e);have WW:F≠s.heap.objs.size:=by obtain⟨o,q,_⟩:=O.get;exact lt q
  have WX:t≠s.heap.objs.size:=by obtain⟨o,q,_⟩:=R.get;exact lt q
  refine vI D hz hTI hTO O R p1 p2 (x:=u1) (y:=u2) ‹hu1› ‹ZQ› λh' a1 a2 a3 a4 a5 a6 hk=>?_;refine⟨.ref s.heap.objs.size,rfl,?_⟩
  have I1:Inv X pins σ (upd H s.heap.objs.size (.tup [x,y])) {s with heap:=s.heap.push {cls:=.type "tuple",data:=.seq #[u1,u2]}}:=
   I.laid (t':=s.toks) (λb o q=>Ï _ q) (È _) ⟨by simp[sizeLine_eq],[u1,u2],.cons ZP (.cons WV .nil),aat _ _⟩
  have S:=I.hok.fresh (È s.heap.objs.size);have hne:∀c∈[z,TI,TO,F,t],c≠s.heap.objs.size:=λc d=>by
   simp only[Þ,ţ,or_false]at d;rcases d with rfl|rfl|rfl|rfl|rfl
   ·exact lt hz
   ·exact lt hTI
   ·exact lt hTO
   ·exact WW
   ·exact WX
  have Z:∀c∈[z,TI,TO,F,t],nR X pins (upd H s.heap.objs.size (.tup [x,y])) c:=λc d=>⟨by rw[aK (hne c d)];exact(hf c d).1,(hf c d).2⟩;refine wpAny_letOwnedTupleGo_zip (s:={s with heap:=h'}) a1 λh2' hz' J=>?_;have WY:IsPair h' TI (.ref F) (.ref t):=hk _ _ D.TIz D.TITO D.TIi1 D.TIi2 hTI;refine⟨.ref s.heap.objs.size,_,sH (t':=s.toks) (s:={s with heap:=s.heap.push {cls:=.type "tuple",data:=.seq #[u1,u2]}}) (ch:=[z,TI,TO,F,t]) I1 (λc o d q=>?_) Z,rfl,⟨x,y,s.heap.objs.size,λzs hz=>by rw[I.Ao hz M];exact T,λzs hz=>by rw[I.Ao hz L];exact hy,S,rfl,rfl⟩,⟨hz',J.extBut _ _ D.TIz WY,⟨_,_,J.extBut _ _ D.TOz a2⟩,a3.at λo q=>J.extBut _ _ D.i1z q,a4.at λo q=>J.extBut _ _ D.i2z q⟩,λc d=>(Z c d).1⟩;have c1:c≠z:=λq=>d (by simp[q]);have c2:c≠TO:=λq=>d (by simp[q]);have c3:c≠F:=λq=>d (by simp[q]);have c4:c≠t:=λq=>d (by simp[q]);refine J.extBut _ _ c1 ?_;by_cases U:c=s.heap.objs.size
  ·subst U;have:=Ø (o:={cls:=.type "tuple",data:=.seq #[u1,u2]}) s.heap rfl;rw[this]at q;cases q;exact a5
  ·have q':(s.heap.push {cls:=.type "tuple",data:=.seq #[u1,u2]}).get? c=À o:=q;refine hk c o c1 c2 c3 c4 ?_
   rwa [abA _ _ _ U]at q'
 done:=by
  intro X hP hw hK d i pins s σ H E I hf zu hg;obtain⟨hz,hTI,⟨a,b,hTO⟩,O,R⟩:=zu;subst hP hw hK;obtain⟨xs,ys,M,L,T⟩:=hg;obtain⟨Cu,Uu,p1⟩:=I.Cr M;obtain⟨Y,R9,p2⟩:=I.Cr L;have hl1:=Uu.length;have hl2:=R9.length;refine yD (I.ok.hd d) D hz hTI hTO O R p1 p2 (by
   rcases T with T|T
   ·refine .inl ?_;simp;lia
   ·refine .inr ?_;simp;lia) λh' hk=>⟨rfl,sH (t':=s.toks) (ch:=[z,TI,TO,F,t]) I (λc o d q=>hk c o (λe=>d (by simp[e])) (λe=>d (by simp[e])) (λe=>d (by simp[e])) (λe=>d (by simp[e])) q) hf⟩
 self:=λ_ _ _ _ _ zz h=>by obtain⟨hz,_⟩:=zz;exact ac1 hz h
def cy(G:DH)(d:D):Option (Bool×X2):=match ak G d with
 |some (.lst xs)=>À (Â,xs)
 |some (.tup xs)=>À (Ä,xs)
 |_=>Å
def nM(d e:D):View:=λG i=>match cy G d,cy G e with
 |some (_,xs),À (_,ys)=>À (match xs[i]?,ys[i]? with
  |some x,À y=>À (.tup [x,y])
  |_,_=>Å)
 |_,_=>Å
def Aq(m:DS->M X2):MI:=λτ=>(m τ).bind λds=>match ds with
 |[d,e]=>λG=>match cy G d,cy G e with
  |some (_,xs),À (_,ys)=>.ok (min xs.length ys.length+1,nM d e) G
  |_,_=>.stuck
 |_=>M.stop
section
variable{iter a b:Expr}{mi:MI}{p:Pos}
theorem um{pins:N0}{σ0:L2.St}{s:Ì}{d:D}{x:V}{t:Bool}(h:gc X.K X.mg H ρ G)(r:Rep X.K X.mg ρ H d x)(e:cy G d=À (t,ds)):
  ∃p xs,x=.ref p/\IP t X.K H p xs/\aq X.K X.mg ρ H ds xs:=by
 unfold cy at e;cases q:ak G d with
 |none=>rw[q]at e;k_ne
 |some k=>
  rw[q]at e;cases k with
  |lst zs=>k_ne;obtain⟨p,xs,I,F,J⟩:=bJ (pins:=pins) (σ0:=σ0) (s:=s) h r q;exact⟨p,xs,I,F,J⟩
  |tup zs=>k_ne;obtain⟨p,xs,I,F,J⟩:=fB r q;exact⟨p,xs,I,F,J⟩
  |str z=>k_ne
theorem DU{d:D}{x:V}{t:Bool}(r:Rep X.K X.mg ρ H d x)(h:gc X.K X.mg H ρ G)(e:cy G d=À (t,ds)):
  ∃p xs,x=.ref p/\IP t X.K H p xs/\aq X.K X.mg ρ H ds xs:=by
 unfold cy at e;cases q:ak G d with
 |none=>rw[q]at e;k_ne
 |some k=>
  rw[q]at e;cases k with
  |lst zs=>
   k_ne;cases d with
   |con ds=>cases q;unfold Rep at r;obtain⟨I,xs,e,s,r⟩:=r;exact⟨I,xs,e,s.seq,r⟩
   |obj n=>obtain⟨I,rfl,e⟩:=(show ∃a,x=.ref a/\ρ[n]?=À a by unfold Rep at r;exact r);obtain⟨xs,J,F⟩:=IC cK.refl r h q;exact⟨I,xs,rfl,J,F⟩
   |_=>cases q
  |tup zs=>k_ne;obtain⟨p,xs,J,F,L⟩:=fB r q;exact⟨p,xs,J,F,L⟩
  |str z=>k_ne
theorem wO{H H':Hp}{ρ ρ':Q1}{d:D}{l:Addr}{t t':Bool}(q:cy G d=À (t,ds))(q':cy G' d=À (t',ds')):t=t':=by
 unfold cy at q q';cases d with
 |tup xs=>cases q;cases q';rfl
 |con xs=>cases q;cases q';rfl
 |obj n=>
  dsimp only[ak]at q q';have f:∀{G:DH}{t:Bool}{ds:X2},(match (match G[n]? with|some (.lst xs)=>À (Tp.lst xs)|_=>Å)with|some (.lst xs)=>À (Â,xs)|some (.tup xs)=>À (Ä,xs)|_=>Å)=À (t,ds)->t=Â:=by
   intro G t ds h;cases g:G[n]? with
   |none=>rw[g]at h;cases h
   |some o=>cases o<;>(rw[g]at h;cases h)<;>rfl
  exact(f q).trans (f q').symm
 |_=>cases q
theorem Mk{d e:D}{es:X2}(r1:Rep X.K X.mg ρ H d (.ref l1))(r2:Rep X.K X.mg ρ H e (.ref l2))(k1:cy G d=À (t1,ds))(k2:cy G e=À (t2,es)):JV X.K X.mg (QX X.K t1 t2 l1 l2) (nM d e) H ρ:=by
 intro i H' ρ' G' f hp;unfold nM;cases q1:cy G' d with
 |none=>exact⟨λe=>(by cases e),λx e=>(by cases e)⟩
 |some s1=>
  cases q2:cy G' e with
  |none=>exact⟨λe=>(by cases e),λx e=>(by cases e)⟩
  |some s2=>
     obtain⟨u1,zs⟩:=s1;obtain⟨u2,ws⟩:=s2;have J:=wO (H:=H) (H':=H') (ρ:=ρ) (ρ':=ρ') (l:=l1) k1 q1;have L:=wO (H:=H) (H':=H') (ρ:=ρ) (ρ':=ρ') (l:=l2) k2 q2;subst J L;k_go;obtain⟨p1,xs,y1,V,Z⟩:=DU (r1.mono f) hp q1;obtain⟨p2,ys,y2,S,Y⟩:=DU (r2.mono f) hp q2;cases y1;cases y2;have l1e:=Z.length;have l2e:=Y.length;cases h1:zs[i]? with
     |none=>refine⟨λ_=>⟨xs,ys,V,S,.inl ?_⟩,λx e=>(by cases e)⟩;rw[Ą]at h1;lia
     |some x=>
      cases h2:ws[i]? with
      |none=>refine⟨λ_=>⟨xs,ys,V,S,.inr ?_⟩,λx e=>(by cases e)⟩;rw[Ą]at h2;lia
      |some y=>refine⟨λe=>(by cases e),λt e=>?_⟩;k_ne;obtain⟨R,F,Uu⟩:=Z.get h1;obtain⟨M,I,R9⟩:=Y.get h2;refine⟨⟨xs,ys,R,M,V,S,F,I⟩,λv H2 hy=>?_⟩;obtain⟨x',y',pp,U,T,k,rfl,rfl⟩:=hy;have J:=U xs V;rw[F]at J;cases J;have L:=T ys S;rw[I]at L;cases L;have O:cK X.K H' (upd H' pp (.tup [R,M])) ρ' ρ':=di k ρ';refine⟨⟨O,λG hG=>hG.new k⟩,?_⟩;unfold Rep;exact⟨pp,[R,M],rfl,.of bL,.cons (Uu.mono O) (.cons (R9.mono O) .nil)⟩
theorem Ml{k:Nat}{pt:Pos}(hm:X.mg "zip"=Å)(rq:Gl X "zip")(ha:QA X EE [a,b] m)(h:av [a,b]=Ä:=by rfl):QI X EE (.Tuple es k pt) (.Call (.Name "zip" p) [a,b] [] pc) (Aq m):=by
 have h':bQ a=Ä/\av [b]=Ä:=by simpa[av]using h
 intro pins s L H R I hq;obtain⟨τ,ρ,G,ab,ok⟩:=hq;dsimp only[Aq,M.bind]at ok;refine Ā (gT I rq hm boot_zip ?_ (by decide) (by decide));have hA:lY X.K X.mg EE m L H λvs F=>∃t G1 ds,Ab X.K X.mg L F τ t G1/\cK X.K H F ρ t/\aq X.K X.mg t F ds vs/\m τ G=.ok ds G1:=by
  right;cases e:m τ G with
  |stuck=>left
  |bR c G'=>left
  |ok ds G'=>exact λvs H' ρ' f bf r=>⟨ρ',G',ds,bf,f,r,rfl⟩
 refine ì (d7 (ha pc pins s L H _ I hA) λus s1 zG=>?_) (bu h'.1 _ _) (bK h'.2);obtain⟨vs,F,S,r1,t,G1,ds,U,f1,J,em⟩:=zG;rw[em]at ok;nofun
 match ds,J,ok with
 |[],_,ok=>rfl'
 |[_],_,ok=>rfl'
 |_::_::_::_,_,ok=>rfl'
 |[d,e],J,ok=>
  unfold aq at J;obtain⟨x,rest,rfl,Z,J⟩:=J;obtain⟨y,rfl,ry⟩:=fJ J;cases r1 with
  |cons ru rr=>
  rename_i u us';obtain⟨u2,rfl,WV⟩:=vals1 rr;nofun;cases q:cy G1 d with
  |none=>ac_nf;rfl'
  |some sk=>
   cases q2:cy G1 e with
   |none=>rw[q,q2]at ok;rfl'
   |some ZR=>
      rw[q,q2]at ok;nofun;obtain⟨t1,zs⟩:=sk;obtain⟨t2,ws⟩:=ZR;obtain⟨l,ys,rfl,sq,rv⟩:=um (pins:=pins) (σ0:=L) (s:=s1) U.hp Z q;obtain⟨O,ys2,rfl,Sa,R9⟩:=um (pins:=pins) (σ0:=L) (s:=s1) U.hp ry q2;cases ru;cases WV;obtain⟨its,vv,pl⟩:=S.Cr sq;obtain⟨its2,vv2,Yo⟩:=S.Cr Sa;refine FF pl Yo λh2 Y b2 b3 b4 b5 hsz kp=>?_;refine ac1 (s:={s1 with heap:=h2}) Y ?_;have I2:Inv X pins L F {s1 with heap:=h2}:=S.kept (t':=s1.toks) kp;have ll:l<s1.heap.objs.size:=pl.lt;have ZS:O<s1.heap.objs.size:=Yo.lt;have ll':(l:Nat)<s1.heap.objs.size:=ll;have ZT:(O:Nat)<s1.heap.objs.size:=ZS;have D:ZipApart (s1.heap.objs.size+4) (s1.heap.objs.size+2) (s1.heap.objs.size+3) s1.heap.objs.size (s1.heap.objs.size+1) l O:=by constructor<;>(intro q;simp only[Addr]at *;lia)
      refine⟨s1.heap.objs.size+4,_,_,QX X.K t1 t2 l O,F,rfl,I2,FG t1 t2 l O _ _ _ _ _ D,⟨Y,b2,⟨_,_,b3⟩,b4,b5⟩,λc V=>?_,ok _ F t f1 U (Mk Z ry q q2)⟩;have T:s1.heap.objs.size<=c:=by simp only[Þ,ţ,or_false]at V;rcases V with rfl|rfl|rfl|rfl|rfl<;>lia
      exact S.rW T (S.hok.fresh T)
end
def pO:D->Option (List Key)
 |.tup ds=>cH ji ds
 |_=>Å
def Cv:Key->D
 |.inl i=>.int i
 |.inr x=>.str x
section
theorem Ar:∀{ds:X2}{xs:X1}{ks:List Key},aq K mg ρ H ds xs->cH ji ds=À ks->xs=ks.map kV
 |[],xs,ks,r,e=>by unfold aq at r;subst r;k_ne;rfl
 |d::ds,xs,ks,r,e=>by
  unfold aq at r;obtain⟨v,vs,rfl,t,D⟩:=r;unfold cH at e;cases q1:ji d with
  |none=>rw[q1]at e;k_ne
  |some k=>
   cases q2:cH ji ds with
   |none=>rw[q1,q2]at e;k_ne
   |some r=>rw[q1,q2]at e;k_ne;rw[pN t q1,Ar D q2];rfl
theorem pP{d:D}{ks:List Key}(r:Rep K mg ρ H d v)(e:pO d=À ks):∃b,v=.ref b/\H b=À (.tup (ks.map kV)):=by
 cases d with
 |tup ds=>unfold Rep at r;obtain⟨a,xs,rfl,t,k⟩:=r;exact⟨a,rfl,by rw[<- Ar k e];exact t⟩
 |_=>k_ne
theorem As:∀(ks:List Key),aq K mg ρ H (ks.map Cv) (ks.map kV)
 |[]=>.nil
 |k::ks=>.cons (by cases k<;>(unfold Rep;rfl)) (As ks)
def Mm(d:Bool)(H:Hp)(a:Addr)(u:List (List Key×V)):Prop:=if d=Ä then ∃o,H a=À (.eU o (.dT u)) else H a=À (.dT u)
theorem Mm.rd{d:Bool}(h:Mm d H a u):Rd H a (.dT u):=by
 cases d
 ·exact .inl h
 ·exact .inr h
theorem gc.aU{d:Bool}(h:gc K mg H ρ G)(e:G[n]?=À (.aU d kvs)):∃a xs,ρ[n]?=À a/\Mm d H a ((kvs.map (·.1)).zip xs)/\aq K mg ρ H (kvs.map (·.2)) xs:=by obtain⟨a,t,xs,k,r⟩:=h.ob n _ e;exact⟨a,xs,t,k,r⟩
theorem pQ{p:Addr}(d:H p=À (.dT u))(ρ:Q1):cK K H (upd H p ob) ρ ρ:=by
 refine⟨λa k h=>?_,λa q w h=>by rw[aK (eY h d (by intro z;cases z))];exact h,⟨[],by simp⟩,λa φ h=>by rw[aK (eY h d (by intro z;cases z))];exact h⟩
 ·rw[zu]at h |-;rw[aK (eY h d (by intro z;cases z))];exact h
theorem gc.NO{p:Addr}(h:gc K mg H ρ G)(k:H p=Å):gc K mg (upd H p (.dT [])) (ρ++[p]) (G++[.aU Â []]):=by
 have f:cK K H (upd H p (.dT [])) ρ (ρ++[p]):=(di k ρ).trans (cZ ρ p);refine⟨by simp[h.hl],?_,λn M e=>?_⟩
 ·rw[Ę];refine⟨h.nd,by simp,λa L b I=>?_⟩;have e:b=p:=‹I›
  x_go;rintro rfl;exact h.not_mem k L
 ·by_cases F:n<G.length
  ·rw[Î F]at e;obtain⟨a,t,D⟩:=h.ob n M e;exact⟨a,f.get t,D.mono f λu q=>by rw[aK (cQ q k)];exact q⟩
  ·have J:n<(G++[DO.aU Â []]).length:=(Á.mp e).1;have d:n=G.length:=by simp at J;lia
   subst d;rw[aF]at e;k_ne;exact⟨p,by rw[<- h.hl,aF],[],bL,.nil⟩
theorem gc.Uv{t:Bool}{es:List (List Key×D)}{ys:X1}(h:gc K mg H ρ G)(F:ρ[n]?=À a)(O:H a=À (.dT u))
  (I:Mm t (upd H a ob) a ((es.map (·.1)).zip ys)) (r:aq K mg ρ H (es.map (·.2)) ys):
  gc K mg (upd H a ob) ρ (G.set n (.aU t es)):=by
 have f:cK K H (upd H a ob) ρ ρ:=pQ O ρ;refine⟨by simp[h.hl],h.nd,λm o e=>?_⟩;by_cases d:n=m
 ·subst d;rw[å,Α rfl]at e;split at e
  ·k_ne;exact⟨a,F,ys,I,r.mono f⟩
  ·k_ne
 ·rw[Í d]at e;obtain⟨b,k,J⟩:=h.ob m o e;have M:b≠a:=by rintro rfl;obtain⟨T,L⟩:=Á.mp F;obtain⟨S,R⟩:=Á.mp k;exact d ((Ļ h.nd).mp (L.trans R.symm))
  exact⟨b,k,J.mono f λu q=>by rw[aK M];exact q⟩
end
section
variable{f o i a:Expr}{apos tpos:Pos}{mf:Y2}
def ou:Y2:=λ_ G=>.ok (.obj G.length) (G++[.aU Â []])
theorem IQ:QE X EE (.Dict [] [] pos) ou:=PE.mono GY λt H Q ⟨τ,ρ,G,ab,k⟩=>λp d=>by refine k (.ref p) _ (ρ++[p]) ((di d ρ).trans (cZ ρ p)) ⟨ab.st.mono ((di d ρ).trans (cZ ρ p)),ab.hp.NO d⟩ ?_;unfold Rep;exact⟨p,rfl,by rw[<- ab.hp.hl,aF]⟩
def nD(d k:D):M D:=λG=>match d,pO k with
 |.obj n,À y=>match G[n]? with
  |some (.aU _ kvs)=>match aQ kvs y with
   |some v=>.ok v G
   |none=>.stuck
  |_=>.stuck
 |_,_=>.stuck
def iS(t D:Y2):Y2:=λτ=>(t τ).bind λd=>(D τ).bind λk=>nD d k
theorem Mn(hu:X.A.units+600<cLine)(Z:QE X EE o mo)(hi:QE X EE i mi)(hs:GV i):QE X EE (.Subscript o i pos) (iS mo mi):=by
 refine PE.mono (Dr ∅ Z hi hs) λσ H Q zz=>?_;obtain⟨τ,ρ,G,ab,ok⟩:=zz;right;dsimp only[iS,M.bind]at ok;cases e1:mo τ G with
 |stuck=>rw[e1]at ok;w_up
 |bR c G'=>rw[e1]at ok;w_up
 |ok d G1=>
  rw[e1]at ok;nofun;intro vd H1 I L ir Y;refine⟨τ,I,G1,ir,?_⟩;cases e2:mi τ G1 with
  |stuck=>rw[e2]at ok;w_up
  |bR c G'=>rw[e2]at ok;exact λH' ρ' f U=>ok H' ρ' (L.trans f) U
  |ok k G2=>
   rw[e2]at ok;dsimp only[nD]at ok;intro vk V F J O r2;cases d with
   |obj n=>
    cases ek:pO k with
    |none=>rw[ek]at ok;rfl'
    |some y=>
     rw[ek]at ok;nofun;cases g:G2[n]? with
     |none=>kd_p;rfl'
     |some ob=>
      cases ob with
      |aU fz kvs=>
       kd_p;nofun;have t:=Y.mono J;unfold Rep at t;obtain⟨p,rfl,ep⟩:=t;obtain⟨p',xs,R,eH,T⟩:=O.hp.aU g;rw[ep]at R;cases R;obtain⟨b,rfl,eb⟩:=pP r2 ek;rcases kq y T with⟨D,S⟩|⟨dv,v,D,S,z3⟩
       ·rw[D]at ok;rfl'
       ·rw[D]at ok;exact⟨p,v,rfl,.inr ⟨_,y,b,eH.rd,rfl,eb,S.symm⟩,ok v V F (L.trans J) O z3⟩
      |_=>kd_p;rfl'
   |_=>rfl'
def gA(v d k:D):M D:=λG=>match d,pO k with
 |.obj n,À y=>match G[n]? with
  |some (.aU Â kvs)=>if kvs.length<Ç then .ok .bw (G.set n (.aU Â (cR kvs y v))) else .stuck
  |_=>.stuck
 |_,_=>.stuck
theorem DV{v d k:D}{O T U:V}{S:Hp->Prop}(ab:Ab X.K X.mg σ H τ ρ G)(Z:Rep X.K X.mg ρ H v O)(R:Rep X.K X.mg ρ H d T)(ri:Rep X.K X.mg ρ H k U)
  (F:gA v d k G≠.stuck)
  (I:∀r G' H',gA v d k G=.ok r G'->cK X.K H H' ρ ρ->Ab X.K X.mg σ H' τ ρ G'->S H'):∃a H',T=.ref a/\sY H a U O H'/\S H':=by
 unfold gA at F I;cases d with
 |obj n=>
  cases ek:pO k with
  |none=>rw[ek]at F;exact(F rfl).elim
  |some y=>
   rw[ek]at I F;dsimp only at I F;cases g:G[n]? with
   |none=>rw[g]at F;exact(F rfl).elim
   |some ob=>
    cases ob with
    |aU fz kvs=>
     cases fz with
     |true=>rw[g]at F;exact(F rfl).elim
     |false=>
      rw[g]at I F;dsimp only at I F;unfold Rep at R;obtain⟨p,rfl,ep⟩:=R;obtain⟨p',xs,Y,J,M⟩:=ab.hp.aU g;rw[ep]at Y;cases Y;by_cases L:kvs.length<Ç
      ·rw[Α L]at I;obtain⟨b,rfl,eb⟩:=pP ri ek;obtain⟨ys,ey,ry⟩:=Al y Z M;refine⟨p,_,rfl,sY.t J eb ?_,?_⟩
       ·have:=M.length;simp at this;simp[<- this];exact L
       ·rw[ey];exact I _ _ _ rfl (pQ J ρ) ⟨ab.st.mono (pQ J ρ),ab.hp.Uv ep J bL ry⟩
      ·rw[Β L]at F;exact(F rfl).elim
    |_=>rw[g]at F;exact(F rfl).elim
 |_=>exact(F rfl).elim
def jO(d t k:Y2):MS:=λτ=>bC ((d τ).bind λv=>(t τ).bind λo=>(k τ).bind λi=>gA v o i) (λ_ G=>.nx τ G) λc G=>.xn c τ G
theorem IS(hu:X.A.units+600<cLine)(Z:QE X EE a mv)(U:QE X EE o mo)(hi:QE X EE i mi)(h:l9 a=Ä:=by rfl):QS X EE (.Assign [.Subscript o i tpos] a pos) (jO mv mo mi):=
 PS.mono (Ds ∅ U hi Z (pD h _ _ _)) λDd k H zz=>by
  obtain⟨τ,ρ,G,ab,ok⟩:=zz;right;dsimp only[jO,bC,M.bind]at ok;cases e1:mv τ G with
  |stuck=>rw[e1]at ok;w_up
  |bR c G'=>rw[e1]at ok;exact λH' ρ' f d=>ok k H' ρ' f d
  |ok v G1=>
   rw[e1]at ok;intro vv H1 J D V S;refine⟨τ,J,G1,V,?_⟩;nofun;cases e2:mo τ G1 with
   |stuck=>rw[e2]at ok;w_up
   |bR c G'=>rw[e2]at ok;exact λH' ρ' f d=>ok k H' ρ' (D.trans f) d
   |ok ov G2=>
    rw[e2]at ok;intro vo H2 I t R Y;refine⟨τ,I,G2,R,?_⟩;nofun;cases e3:mi τ G2 with
    |stuck=>rw[e3]at ok;w_up
    |bR c G'=>rw[e3]at ok;exact λH' ρ' f d=>ok k H' ρ' ((D.trans t).trans f) d
    |ok iv G3=>rw[e3]at ok;intro vi H3 L F T O;nofun;refine DV T (S.mono (t.trans F)) (Y.mono F) O (λq=>by rw[q]at ok;exact ok.elim) λr G' H' q f d=>?_;ac_nf;exact ok k H' L (((D.trans t).trans F).trans f) d
end
section
theorem IU(I:Inv X pins σ H s)(e:H a=À (.dT u))(hg:s.heap.get? a=À o):Inv X pins σ (upd H a (.eU o (.dT u))) s:=by
 refine I.un (H':=upd H a (.eU o (.dT u))) (h':=s.heap) (t':=s.toks) ⟨λb o q _ _ _=>q,λb o q _ _ _=>⟨o.slots,q⟩,λb o q d _=>?_,λb o q _=>⟨o,q⟩,λb ys q=>?_,λb o u q=>?_,λb J q=>⟨#[],?_⟩⟩ λb F q=>?_
 ·rw[aK (by rintro rfl;rw[e]at d;cases d)];exact d
 ·rw[aK (eY q e (by intro z;cases z))];exact q
 ·rw[aK (eY q e (by intro z;cases z))];exact q
 ·rw[aK (eY q e (by intro z;cases z)),q];simp
 ·have t:∀c y,H c=À (.own y)->upd H a (.eU o (.dT u)) c=À (.own y):=λc y w=>by rw[aK (eY w e (by intro z;cases z))];exact w
  have k:∀c ys,H c=À (.tup ys)->upd H a (.eU o (.dT u)) c=À (.tup ys):=λc ys w=>by rw[aK (eY w e (by intro z;cases z))];exact w
  by_cases D:b=a
  ·subst D;rw[bL]at q;cases q;exact⟨hg,(I.hok b _ e).stay (λ_ _ _ w=>w) (λc w=>t c b w) k⟩
  ·rw[aK D]at q;exact(I.hok b F q).stay (λ_ _ _ w=>w) (λc w=>t c b w) k
end
theorem yE(I:Inv X pins σ H s)(e:H a=À (.eU o (.dT u))):
  s.heap.get? a=À o/\(a==sysModules)=Â/\o.ExactDict/\∃es ep,o.data=.dict es ep/\es.size=u.length/\∀(i:Nat) k v,u[i]?=À (k,v)->∃O b,es[i]?=À O/\O.key=.ref b/\H b=À (.tup (k.map kV)):=by
 obtain⟨M,z,y,xs,r,o',es,ep,J,U,T,L,h6⟩:=(show d9 X.prog X.w H s.heap a (.eU o (.dT u)) from I.hok a _ e);rw[M]at J;cases J;have hl:u.length=xs.length:=ž r;refine⟨M,y,U,es,ep,T,?_,λi k v d=>?_⟩
 ·have:=congrArg abw L;simp at this;lia
 ·have D:∀{l:List (List Key×V)}{m:List (List Key×Addr×Æ)},KT H l m->∀(i:Nat) k v,l[i]?=À (k,v)->∃q,m[i]?=À q/\H q.2.1=À (.tup (k.map kV)):=by
   intro l m q
   induction q with
   |nil=>intro i k v d;simp at d
   |@cons p q Y Z F t S=>
    intro i k v d;cases i with
    |zero=>simp at d;subst d;exact⟨q,rfl,F.2.1⟩
    |succ i=>exact S i k v ‹d›
  obtain⟨q,F,R⟩:=D r i k v d;refine⟨entryOfKey (tupleKind (cF X.prog X.w)) q,q.2.1,?_,rfl,R⟩;have:es.toList[i]?=À (entryOfKey (tupleKind (cF X.prog X.w)) q):=by rw[L,Ö,F];rfl
  z_go
def Uw(o:Obj)(a:Addr)(u:List (List Key×V)):It:=
 ⟨λi H=>H a=À (.eU o (.dT u))/\i<u.length,λi H y H'=>H'=H/\∃b k v,y=.ref b/\u[i]?=À (k,v)/\H b=À (.tup (k.map kV)),λi H=>H a=À (.eU o (.dT u))/\u.length<=i⟩
theorem Cy(st:h.IsKeyIter it a i n ep)(k:∀o,h.get? it=À o->h'.get? it=À o):h'.IsKeyIter it a i n ep:=by obtain⟨o,e,r⟩:=st;exact⟨o,k o e,r⟩
theorem Cz(o:Obj)(u:List (List Key×V))(a it:Addr)(ep:Nat)(es:Array DictEntry)(hd:o.data=.dict es ep):Turn P w K tg (Uw o a u) [it] it (λi h=>h.IsKeyIter it a i es.size ep) where
 mem:=by simp
 obj:=λi h st b t=>by
  have e:b=it:=‹t›
  x_go;obtain⟨o,e,c,d⟩:=st;exact⟨o,e,λv z=>by rw[d]at z;cases z⟩
 keep:=λi h h' st k=>Cy st λo e=>k it (by simp) o e
 item:=by intro X F R M hc i pins s T H E I hf st L;subst F R M;obtain⟨O,S⟩:=L;obtain⟨h1,_,h2,J,vW,h3,h4,U⟩:=yE I O;rw[hd]at h3;cases h3;obtain⟨en,b,Z,g2,g3⟩:=U i _ _ (by rw[Ê S]);room;refine uh st h1 h2 hd Z λh' D sb=>?_;have Y:Inv X pins T H {s with heap:=h'}:=I.turned (t':=s.toks) (λb o t e=>(sb.2 b t).trans e) f0 f1 f3 f4 f5;obtain⟨o,e,c,d⟩:=id D;exact⟨_,rfl,sS (s:={s with heap:=h'}) e c d (by decide) ⟨.ref b,H,Y,g2,⟨rfl,b,_,_,rfl,Ê S,g3⟩,D,λb t=>(hf b t).1⟩⟩
 done:=by intro X F R M hc i pins s T H E I hf st L;subst F R M;obtain⟨O,S⟩:=L;obtain⟨h1,_,h2,J,vW,h3,h4,U⟩:=yE I O;rw[hd]at h3;cases h3;room;exact vH (I.ok.hd hc) st h1 h2 hd (by simp;lia) λh' eb=>⟨rfl,I.turned (t':=s.toks) (λb o t e=>eb b o t e) f0 f1 f3 f4 f5⟩
 self:=λ_ _ _ _ _ st h=>wpAny_pyIter_keyiter st h
def CA(kvs:List (List Key×D)):View:=λ_ i=>if i<=kvs.length then À ((kvs[i]?).map λk=>.tup (k.1.map Cv)) else Å
def IV(m:Y2):MI:=λτ=>(m τ).bind λd G=>match d with
 |.obj n=>match G[n]? with
  |some (.aU _ kvs)=>.ok (kvs.length+1,CA kvs) (G.set n (.aU Ä kvs))
  |_=>.stuck
 |_=>.stuck
theorem Mp(M:kvs.length=xs.length)(e:H0 a=À (.eU o (.dT ((kvs.map (·.1)).zip xs)))):JV K mg (Uw o a ((kvs.map (·.1)).zip xs)) (CA kvs) H0 ρ0:=by
 intro i H ρ G f S;have F:=f.eU a _ _ e;have hz:((kvs.map (·.1)).zip xs).length=kvs.length:=by simp[M]
 unfold CA;constructor
 ·intro q;by_cases t:i<=kvs.length
  ·rw[Α t]at q;cases g:kvs[i]? with
   |some kv=>rw[g]at q;cases q
   |none=>have:=Ą.mp g;exact⟨F,∅⟩
  ·rw[Β t]at q;cases q
 ·intro d q;by_cases t:i<=kvs.length
  ·rw[Α t]at q;cases g:kvs[i]? with
   |none=>rw[g]at q;cases q
   |some kv=>
    rw[g]at q;cases q;obtain⟨J,_⟩:=Á.mp g;refine⟨⟨F,∅⟩,λy H' L=>?_⟩;obtain⟨rfl,b,k,v,rfl,D,O⟩:=L;have I:k=kv.1:=by rw[abr]at D;rw[Ö,g]at D;exact(æ D.1).symm
    subst I;refine⟨⟨cK.refl,λG R=>R⟩,?_⟩;unfold Rep;exact⟨b,_,rfl,O,As kv.1⟩
  ·rw[Β t]at q;cases q
section
variable{m:Y2}
theorem Mq(ha:QE X EE e m):QI X EE tg e (IV m):=by
 intro pins s F H R I hq;obtain⟨τ,ρ,G,ab,ok⟩:=hq;dsimp only[IV,M.bind]at ok;have hA:cL X.K X.mg EE m F H λv J=>∃k G1 d,Ab X.K X.mg F J τ k G1/\cK X.K H J ρ k/\Rep X.K X.mg k J d v/\m τ G=.ok d G1:=by
  right;cases e:m τ G with
  |stuck=>left
  |bR c G'=>left
  |ok d G'=>exact λv H' ρ' f bf r=>⟨ρ',G',d,bf,f,r,rfl⟩
 refine d7 (ha pins s F H _ I hA) λu s1 zG=>?_;obtain⟨v,J,T,ru,k,G1,d,O,f1,Y,em⟩:=zG;rw[em]at ok;nofun;cases d with
 |obj n=>
  nofun;cases g:G1[n]? with
  |none=>kd_p;rfl'
  |some ob=>
   cases ob with
   |aU fz kvs=>
    kd_p;nofun;unfold Rep at Y;obtain⟨p,rfl,ep⟩:=Y;cases ru;obtain⟨p',xs,Z,D,rs⟩:=O.hp.aU g;rw[ep]at Z;cases Z;have hl:kvs.length=xs.length:=‹rs.length›
    have L:∀(o:Obj)(t:Hp),Inv X pins F t s1->t p=À (.eU o (.dT ((kvs.map (·.1)).zip xs)))->cK X.K J t k k->gc X.K X.mg t k (G1.set n (.aU Ä kvs)) ->
      à (model X.prog X.w) X.A (pyIter (.ref p)) (VV X pins F tg R) X.xe s1:=by
     intro o t S e2 f2 U;obtain⟨h1,h0,h2,es,Yp,h3,h4,h5⟩:=yE S e2;refine FA h0 h1 h2 h3 ?_;have I3:Inv X pins F t {s1 with heap:=s1.heap.push {cls:=.type "dict_keyiterator",data:=.fields #[.ref p,.int 0 0,.int es.size 0,.int Yp 0]}}:=S.kept (t':=s1.toks) λc o q=>Ï _ q;refine⟨s1.heap.objs.size,_,_,_,t,rfl,I3,Cz o _ p _ Yp es h3,⟨_,Ø _ rfl,rfl,rfl⟩,λc hc=>?_,ok _ t k (f1.trans f2) ⟨O.st.mono f2,U⟩ (Mp hl e2)⟩;rw[è.mp hc];exact S.rW (È _) (S.hok.fresh (È _))
    cases fz with
    |false=>
     obtain⟨o,hg⟩:∃o,s1.heap.get? p=À o:=by obtain⟨_,_,_,_,o,_,_,h,_⟩:=(show d9 X.prog X.w J s1.heap p (.dT _) from T.hok p _ D);exact⟨o,h⟩
     exact L o _ (IU T D hg) bL (pQ D k) (O.hp.Uv ep D ⟨o,bL⟩ rs)
    |true=>
     obtain⟨o,D⟩:=D;refine L o _ T D cK.refl ?_;have:G1.set n (.aU Ä kvs)=G1:=by
      apply ē;intro j;by_cases V:n=j
      ·subst V;rw[å,Α rfl,Α (Á.mp g).1,g]
      ·rw[Í V]
     rw[this];exact O.hp
   |_=>kd_p;rfl'
 |_=>rfl'
end
section
open PyProof.Rows
end
theorem jx{i j:Int}:ay (.int i) (.int j) G=.ok (.int (i+j)) G:=î rfl rfl
section
variable{ma mb:Y2}
@[simp]def Yq:Tv ma mb τ G=(ma τ G).bd λd=>match d with
 |.bl Â=>mb τ
 |.bl Ä=>M.ret (.bl Ä)
 |_=>M.stop:=aI
@[simp]def IW:tG ma mb τ G=(ma τ G).bd λd=>match d with
 |.bl Ä=>mb τ
 |.bl Â=>M.ret (.bl Â)
 |_=>M.stop:=aI
theorem CB{x:D}(d:gO x=À os)(k:tt (os.map À++mask ks τ) (G++[.lst acc])=.ok Â (G++[.lst acc])):
  cG gO ks tt te G.length x τ (G++[.lst acc])=.ok () (G++[.lst acc]):=by
 simp only[cG,d,k]
theorem Au{x v:D}(d:gO x=À os)(k:tt (os.map À++mask ks τ) (G++[.lst acc])=.ok Ä (G++[.lst acc]))(t:te (os.map À++mask ks τ) (G++[.lst acc])=.ok v (G++[.lst acc]))(hz:acc.length<Ç):
  cG gO ks tt te G.length x τ (G++[.lst acc])=.ok () (G++[.lst (acc++[v])]):=by
 simp only[cG,d,k,t,jW,Α hz,Cc]
theorem bF{gO:D->Option X2}{ks:L9}{tt:DS->M Bool}{te:Y2}{I:Type}{own:I->X2}{dat f:I->D}{c:I->Bool}:∀(t:List I)(d:X2),d.length+t.length<=1000000->(∀x∈t,gO (dat x)=À (own x)) ->
  (∀x∈t,∀d,tt ((own x).map À++mask ks τ) (G++[.lst d])=.ok (c x) (G++[.lst d]))->(∀x∈t,∀d,te ((own x).map À++mask ks τ) (G++[.lst d])=.ok (f x) (G++[.lst d])) ->
  cC gO ks tt te G.length (t.map dat) τ (G++[.lst d])=.ok (.obj G.length) (G++[.lst (d++(t.filter c).map f)])
 |[],d,_,_,_,_=>by simp[cC]
 |x::t,d,O,F,L,R=>by
  have hz:d.length<Ç:=Õ (by simp at O;lia) (lz (n:=1000001) ∅);rw[É,cC];have J:=L x (by simp) d;cases hc:c x with
  |false=>rw[hc]at J;rw[CB (F x (by simp)) J];k_go;rw[bF t d (by simp at O;lia) (λq k=>F q (by simp[k])) (λq k=>L q (by simp[k])) (λq k=>R q (by simp[k])),ń (by rw[hc];decide)]
  |true=>rw[hc]at J;rw[Au (F x (by simp)) J (R x (by simp) d) hz];k_go;rw[bF t (d++[f x]) (by simp at O |-;lia) (λq k=>F q (by simp[k])) (λq k=>L q (by simp[k])) (λq k=>R q (by simp[k])),ę hc];simp
end
section
open PyProof.Rows
section
theorem CD(r:Addr)(a b c:Int)(t u v:Tok)(k:(Ċ a&&Ċ b&&Ċ c&&Ċ (-c)&&Ċ (a-c)&&Ċ (ĩ a b c))=Ä):
  Meets (aaQ.«range.__reversed__» ⟨[.ref r],[]⟩) (λ_ R s=>s.heap.get? r=À {cls:=.type "range",dict:=Å,data:=.fields #[.int a t,.int b u,.int c v],slots:=#[]}/\R (.ok (.ret (Value.ref s.heap.objs.size))) {s with heap:=s.heap.push {cls:=.type "range_iterator",data:=.fields #[rawInt (a+(ĩ a b c-1)*c),rawInt (ĩ a b c),rawInt (-c)]}}):=
 .of_wp λprog w A R s h=>by
  obtain⟨J,g,d,I,D⟩:=s;obtain⟨F,h⟩:=h
  wp_walk
  rw[Α k];exact⟨_,rfl,h⟩
theorem r9:isSubtype (.type "range_iterator") (.type "reversed")=pure Â:=by rw[isSubtype_type];kernel_rfl
def FH(n:Int):Obj:={cls:=.type "range_iterator",data:=.fields #[rawInt (n-1),rawInt n,rawInt (-1)]}
theorem QY{n:Int}(h:0<=n):ĩ 0 n 1=n:=by
 unfold ĩ;rw[Α (by decide)];split
 ·simp only[Int.sub_zero];lia
 ·lia
theorem uo{r:Addr}{n:Int}{t u v:Tok}(d:IsRange s.heap r 0 n 1 t u v)(D:0<=n)(I:n<2^30)
  (h:Q (.ref s.heap.objs.size) {s with heap:=s.heap.push (FH n)}):à (model prog w) A (call (.builtin "range.__reversed__") [.ref r]) Q E s:=by
 have k:s.TypeIs (.ref r) "range":=⟨_,d,rfl⟩;have hz:=QY D;refine call_meets aaH k F.entry_range_reversed (F.args_range_reversed_1 _) (CD r 0 n 1 t u v ?_) ⟨d,?_⟩
 ·rw[hz];simp only[Ċ,Ė,decide_eq_true_eq];lia
 ·rw[hz];have e:(0:Int)+(n-1)*1=n-1:=∅
  rw[e];exact h
theorem pR{r:Addr}{n:Int}{t u v:Tok}{Q₁:Æ->Ì->Prop}(d:IsRange s.heap r 0 n 1 t u v)(I:0<=n)(D:n<2^30)
  (h:Q₁ (.ref s.heap.objs.size) {s with heap:=s.heap.push (FH n)}):
  codeAny (model prog w) A (.call (.builtin "reversed.__new__") ⟨[.type "reversed",.ref r],[]⟩) (wants Q₁ E) s:=by
 have k:s.TypeIs (.ref r) "range":=⟨_,d,rfl⟩;refine codeAny_of_tree ?_;show à _ A.in1 (do checkBuiltinCall "reversed.__new__" ⟨[.type "reversed",.ref r],[]⟩;again (.builtin "reversed.__new__" ⟨[.type "reversed",.ref r],[]⟩)) _ _ s;refine Ã (Ű (F.newCall_reversed_1 _) (Ó ⟨plainId_quiet acn _,codeAny_builtin F.entry_reversed_new ?_⟩));rw[Around.under_plainId acn _];unfold aaQ.«reversed.__new__»;refine Ã (Ű (newClass_reversed _) ?_)
 try dsimp only
 refine Ã (Ű (a:=()) (by first|rfl|kernel_rfl) ?_);refine Ã (Ű (a:=()) (by first|rfl|kernel_rfl) ?_)
 try dsimp only
 refine Ã (aaa k aaH.lookup ?_)
 try dsimp only
 refine Ã (Ű (aaH.bind _) ?_)
 try dsimp only
 first
 |rw[Β (show ¬ ((Value.builtin "range.__reversed__"==Value.none)=Ä) from ï)]
 |(show à _ _ (if (Value.builtin "range.__reversed__"==Value.none)=Ä then _ else _) _ _ _;rw[Β (show ¬ ((Value.builtin "range.__reversed__"==Value.none)=Ä) from ï)])
 refine Ã (abm ?_);refine Ã (m:=runValue (.call (.builtin "range.__reversed__") ⟨[.ref r],[]⟩)) (show à _ _ (call (.builtin "range.__reversed__") [.ref r]) _ _ _ from uo d I D ?_)
 first
 |exact Ó h
 |exact Ã (Ó (Ó h))
theorem pS{r:Addr}{n:Int}{t u v:Tok}(J:IsRange s.heap r 0 n 1 t u v)(I:0<=n)(D:n<2^30)
  (h:Q (.ref s.heap.objs.size) {s with heap:=s.heap.push (FH n)}):à (model prog w) A (call (.type "reversed") [.ref r]) Q E s:=by
 refine callType_other (U:="range_iterator") (Q₁:=λk d=>k=.ref s.heap.objs.size/\d={s with heap:=s.heap.push (FH n)}) (by symm) F.create_reversed ⟨_,_,F.mro_reversed⟩ F.made_reversed r9 (F.typeCall_reversed_1 _) (pR J I D ⟨rfl,rfl⟩) ?_;rintro k d ⟨rfl,rfl⟩;exact⟨⟨_,Ø _ rfl,rfl⟩,h⟩
end
def qI:X2->Option Int
 |[.int n]=>À n
 |_=>Å
theorem FJ{n:Int}(h:qI ds=À n):ds=[.int n]:=by
 unfold qI at h;split at h
 ·cases h;rfl
 ·cases h
def DW(m:DS->M X2):MI:=λτ=>(m τ).bind λds=>match qI ds with
 |some n=>λG=>if 0<=n/\n<2^30 then .ok (n.toNat+1,Cn (n-1) (-1) n.toNat) G else .stuck
 |none=>M.stop
section
variable{a:Expr}{p Sb:Pos}
theorem Mr(hm:X.mg "reversed"=Å)(rq:Gl X "reversed")(S:X.mg "range"=Å)(WZ:Gl X "range")(ha:QA X EE [a] m)(h:av [a]=Ä:=by rfl):QI X EE tg (.Call (.Name "reversed" p) [.Call (.Name "range" p2) [a] [] Sb] [] pc) (DW m):=by
 have h':bQ a=Ä/\av []=Ä:=by simpa[av]using h
 intro pins s L H R I hq;obtain⟨τ,ρ,G,ab,ok⟩:=hq;dsimp only[DW,M.bind]at ok;refine Ā (gT I rq hm tS ?_ (by decide) (by decide));have hA:lY X.K X.mg EE m L H λvs k=>∃d O ds,Ab X.K X.mg L k τ d O/\cK X.K H k ρ d/\aq X.K X.mg d k ds vs/\m τ G=.ok ds O:=by
  right;cases e:m τ G with
  |stuck=>left
  |bR c G'=>left
  |ok ds G'=>exact λvs H' ρ' f bf r=>⟨ρ',G',ds,bf,f,r,rfl⟩
 have D:ä [.Call (.Name "range" p2) [a] [] Sb] X.env=(Â,eval (.Call (.Name "range" p2) [a] [] Sb) X.env)::ä [] X.env:=bu rfl _ _;refine ì ?_ D (bK (es:=[]) rfl);rw[D];show à _ _ (spliced ((Â,eval (.Call (.Name "range" p2) [a] [] Sb) X.env)::backTo pc (ä [] X.env))) _ _ s;refine ť ?_;refine Ā (gT I WZ S boot_range ?_ (by decide) (by decide));refine ì (d7 (ha Sb pins s L H _ I hA) λus s1 zG=>?_) (bu h'.1 _ _) (bK (es:=[]) rfl);obtain⟨vs,k,V,r1,d,O,ds,ir,Z,Y,em⟩:=zG;rw[em]at ok;nofun;cases q:qI ds with
 |none=>ac_nf;rfl'
 |some n=>
  ac_nf;nofun;have e:=FJ q;x_go;by_cases J:0<=n/\n<2^30
  ·rw[Α J]at ok;obtain⟨x,rfl,U⟩:=fJ Y;unfold Rep at U;subst U;obtain⟨u,rfl,t,rfl⟩:=vals1 r1;refine call_range_1 ?_;refine aan ?_;have T:Inv X pins L k {s1 with heap:=s1.heap.push {cls:=.type "range",data:=.fields #[.int 0 s1.toks,.int n t,.int 1 (s1.toks+1)]},toks:=s1.toks+1+1}:=V.kept λb o e=>Ï _ e;refine pS (t:=s1.toks) (u:=t) (v:=s1.toks+1) (ac5 ..) J.1 J.2 ?_;have F:IsRangeIter ((s1.heap.push {cls:=.type "range",data:=.fields #[.int 0 s1.toks,.int n t,.int 1 (s1.toks+1)]}).push (FH n)) (s1.heap.push {cls:=.type "range",data:=.fields #[.int 0 s1.toks,.int n t,.int 1 (s1.toks+1)]}).objs.size (n-1) n (-1):=Ø _ rfl;refine aam (s:={s1 with heap:=(s1.heap.push {cls:=.type "range",data:=.fields #[.int 0 s1.toks,.int n t,.int 1 (s1.toks+1)]}).push (FH n),toks:=s1.toks+1+1}) F ?_;refine⟨_,[_],_,QK (n-1) (-1) n.toNat,k,rfl,T.kept (t':=s1.toks+1+1) λb o e=>Ï _ e,Ai _ (n-1) (-1) n.toNat,?_,λb hb=>?_,ok _ k d Z ir QL⟩
   ·have e1:(n-1)+((0:Nat):Int)*(-1)=n-1:=by simp
    have e2:((n.toNat:Nat):Int)-((0:Nat):Int)=n:=∅
    show IsRangeIter _ _ ((n-1)+((0:Nat):Int)*(-1)) (((n.toNat:Nat):Int)-((0:Nat):Int)) (-1);rw[e1,e2];exact F
   ·rw[è.mp hb];exact T.rW (È _) (T.hok.fresh (È _))
  ·rw[Β J]at ok;rfl'
end
end
section
variable{a b:Expr}{ma mb m:Y2}
def lO(d e:D):M D:=λG=>match d,e with
 |.obj n,.int k=>match G[n]? with
  |some (.lst xs)=>if k<1000/\-1000<k/\xs.length*k.toNat<=Ç then aN (Ô k.toNat xs).flatten G else .stuck
  |_=>.stuck
 |_,_=>.stuck
theorem aq.rep(r:aq K mg ρ H ds vs):∀k:Nat,aq K mg ρ H (Ô k ds).flatten (Ô k vs).flatten
 |0=>.nil
 |k+1=>by rw[ă,İ,ă,İ];exact r.append (r.rep k)
theorem Ms:jB X (binaryOp .Mult) (rD X EE lO):=by
 intro pins s σ0 H x y v u Q I S T zu;obtain⟨Y,τ,ρ,G,d,e,ab,F,J,ok⟩:=zu;cases d<;>try exact ok.elim
 rename_i n;cases e<;>try exact ok.elim
 rename_i k;dsimp only[lO]at ok;cases g:G[n]? with
 |none=>kd_p;rfl'
 |some o=>
  cases o with
  |lst zs=>
   kd_p;nofun;unfold Rep at F J;subst J;obtain⟨p,rfl,R⟩:=F;obtain⟨U,vs,L,O,D⟩:=ab.hp.lst g;rw[R]at L;cases L;by_cases t:k<1000/\-1000<k/\zs.length*k.toNat<=Ç
   ·rw[Α t]at ok;obtain⟨V,M⟩:=kM ab (D.rep k.toNat) ok;exact O2 pins s σ0 H _ _ v u Q I S T ⟨p,k,vs,rfl,rfl,O,∅,∅,by rw[<- D.length];exact t.2.2,M⟩
   ·rw[Β t]at ok;rfl'
  |_=>kd_p;rfl'
theorem QZ(d:QE X EE a ma)(k:QE X EE b mb):QE X EE (.BinOp a .Mult b pos) (aj lO ma mb):=rj Ms j8 d k
def Mt(g:jV)(τ:DS)(d:D)(G:DH):Res:=match g d τ with
 |some τ'=>.nx τ' G
 |none=>.stuck
def FL(g:jV)(m:Y2):MS:=λτ=>bC (m τ) (λd G=>Mt g τ d G) λc G=>.xn c τ G
theorem Q0(ha:QE X EE a ma)(R:QG X tg g)(V:swapsWithSole [tg] a pos.line X.env=pure Â)(hw:swappedStores [tg] a X.env=pure Å)(Y:(assignEach [tg] X.env).map (·.2)=[assign tg X.env]):QS X EE (.Assign [tg] a pos) (FL g ma):=by
 intro pins s U H L I h;refine GF ha R V hw Y pins s U H L I ?_;have S:=tw (k:=λτ d G=>Mt g τ d G) h;obtain⟨τ,ρ,G,ab,ok⟩:=S;right;cases e:ma τ G with
 |stuck=>left
 |bR c G'=>left
 |ok d G'=>
  k_in;intro v H' ρ' f O r;obtain⟨τ2,D,M,d2,cz,Z,t⟩:=ok v H' ρ' f O r;unfold Mt at t;cases eg:g d2 τ2 with
  |none=>rw[eg]at t;exact t.elim
  |some F=>rw[eg]at t;exact⟨τ2,D,M,d2,F,cz,Z,eg,λJ T=>t J H' D .refl T⟩
end
section
variable{e:Y2}{ml:DS->M X2}{d:D}
theorem Mu:DW ml τ G=(ml τ G).bd λds=>match qI ds with
 |some n=>λG=>if 0<=n/\n<2^30 then .ok (n.toNat+1,Cn (n-1) (-1) n.toNat) G else .stuck
 |none=>M.stop:=aI
section
theorem mD:gU mv mo mi τ G=((mv τ G).bd λv=>(mo τ).bind λo=>(mi τ).bind λi=>jL v o i).xp τ:=by unfold gU bC Out.xp;rw[aI];cases (mv τ G).bd λv=>(mo τ).bind λo=>(mi τ).bind λi=>jL v o i<;>rfl
theorem Q2:FL g e τ G=(e τ G).sb τ λd G=>Mt g τ d G:=by unfold FL bC Out.sb;cases e τ G<;>rfl
end
theorem IX{n:Int}:qI [.int n]=À n:=î rfl rfl
end
theorem Mv{CX:vq}{k:Nat}{f:Addr}:lW P w K mg base CX k f fd ps (iX K mg n (λ_=>M.stop)):=
 ⟨λvs H Q E zz=>by obtain⟨ds,ρ,G,I,J,F,t⟩:=zz;exact t.elim,λA d s H D L vs Q E _ _ _ _ _ ⟨ds,ρ,G,I,J,F,t⟩=>t.elim⟩
def Av(r:Out D):Out D:=match r with
 |.bR _ _=>.stuck
 |r=>r
section
open PyProof.Rows
end
section
open PyProof.Rows
section
theorem Q3{st:Stmt}{m:Y2}(R:QS X EE st (aA i m)):QS X EE st (aA i (r8 m)):=by
 intro pins s O H Dd I zu;obtain⟨τ,ρ,G,ab,ok⟩:=zu;dsimp only[aA,bC,r8]at ok;cases q:m τ G with
 |stuck=>ac_nf;rfl'
 |bR c G'=>ac_nf;exact R pins s O H Dd I ⟨τ,ρ,G,ab,by dsimp only[aA,bC];rw[q];exact ok⟩
 |ok d G'=>
  ac_nf;by_cases Z:∃n,d=.obj n
  ·obtain⟨n,rfl⟩:=Z;nofun;cases g:G'[n]? with
   |none=>kd_p;rfl'
   |some o=>
    kd_p;cases o with
    |lst ds=>
     nofun;refine d7 (R pins s O H {Dd with nx:=λσ' H'=>∃a xs,H' a=À (.lst xs)/\∀o,Dd.nx σ' (upd H' a (.eU o (.lst xs)))} I ⟨τ,ρ,G,ab,?_⟩) λu s' h=>ID h rfl rfl rfl λσ' H' q=>.inr q;dsimp only[aA,bC];rw[q];intro σ' H' ρ' f D;obtain⟨a,xs,Y,S,rs⟩:=D.hp.lst g;refine⟨a,xs,S,λL=>?_⟩;have J:cK X.K H' (upd H' a (.eU L (.lst xs))) ρ' ρ':=pM S ρ';refine ok σ' _ ρ' (f.trans J) ⟨⟨by rw[D.st.1];simp,λj dj t=>?_⟩,D.hp.eU (o:=L) Y S⟩;by_cases k:i=j
     ·subst k;by_cases U:i<τ.length
      ·rw[å,Α rfl,Α U]at t;cases t;obtain⟨vv,ev,V⟩:=D.st.2 i (.obj n) (by rw[å,Α rfl,Α U]);unfold Rep at V;obtain⟨a',rfl,F⟩:=V;rw[Y]at F;cases F;refine⟨_,ev,?_⟩;unfold Rep;exact⟨a,xs,rfl,.inl ⟨L,bL⟩,rs.mono J⟩
      ·rw[å,Α rfl,Β U]at t;cases t
     ·rw[Í k]at t;obtain⟨v',M,WO⟩:=D.st.2 j dj (by rw[Í k];exact t);exact⟨v',M,WO.mono J⟩
    |_=>rfl'
  ·have T:sF X.K X.mg EE H ρ Dd (.nx (τ.set i (À d)) G'):=by cases d<;>first|exact ok|exact absurd ⟨_,rfl⟩ Z
   exact R pins s O H Dd I ⟨τ,ρ,G,ab,by dsimp only[aA,bC];rw[q];exact T⟩
end
end
section
open PyProof.Rows
end
section
variable{o i:Expr}{p:Pos}
def gB(G:DH):D->Option Y1
 |.obj n=>match G[n]? with
  |some (.dct kvs)=>À kvs
  |some (.RY kvs)=>À kvs
  |_=>Å
 |_=>Å
theorem m9{d:D}{kvs:Y1}{x:V}(h:gc X.K X.mg H ρ G)(r:Rep X.K X.mg ρ H d x)(e:gB G d=À kvs):∃a xs,x=.ref a/\Rd H a (.dK ((kvs.map (·.1)).zip xs))/\aq X.K X.mg ρ H (kvs.map (·.2)) xs:=by
 cases d with
 |obj n=>
  unfold Rep at r;obtain⟨a,rfl,k⟩:=r;dsimp only[gB]at e;cases g:G[n]? with
  |none=>rw[g]at e;k_ne
  |some ob=>
   cases ob with
   |dct kv=>rw[g]at e;k_ne;obtain⟨t,xs,e1,e2,rs⟩:=h.dct g;rw[k]at e1;cases e1;exact⟨a,xs,rfl,.inl e2,rs⟩
   |RY kv=>rw[g]at e;k_ne;obtain⟨t,e1,xs,e2,rs⟩:=h.ob n _ g;rw[k]at e1;cases e1;exact⟨a,xs,rfl,.inr e2,rs⟩
   |_=>rw[g]at e;k_ne
 |_=>k_ne
def IY(d k:D):M D:=λG=>match gB G d,ji k with
 |some kvs,À y=>match aQ kvs y with
  |some v=>.ok v G
  |none=>.stuck
 |_,_=>.stuck
def Mw(t D:Y2):Y2:=λτ=>(t τ).bind λd=>(D τ).bind λk=>IY d k
theorem Q4(hu:X.A.units+600<cLine)(V:QE X EE o mo)(hi:QE X EE i mi)(hs:GV i):QE X EE (.Subscript o i pos) (Mw mo mi):=by
 refine PE.mono (Dr ∅ V hi hs) λσ H Q zz=>?_;obtain⟨τ,ρ,G,ab,ok⟩:=zz;right;dsimp only[Mw,M.bind]at ok;cases e1:mo τ G with
 |stuck=>rw[e1]at ok;w_up
 |bR c G'=>rw[e1]at ok;w_up
 |ok d G1=>
  rw[e1]at ok;nofun;intro vd H1 F J Z U;refine⟨τ,F,G1,Z,?_⟩;cases e2:mi τ G1 with
  |stuck=>rw[e2]at ok;w_up
  |bR c G'=>rw[e2]at ok;exact λH' ρ' f S=>ok H' ρ' (J.trans f) S
  |ok k G2=>
   rw[e2]at ok;dsimp only[IY]at ok;intro vk T D I L r2;cases q:gB G2 d with
   |none=>ac_nf;rfl'
   |some kvs=>
    cases ek:ji k with
    |none=>rw[q,ek]at ok;rfl'
    |some y=>
     rw[q,ek]at ok;nofun;obtain⟨a,xs,rfl,eH,R⟩:=m9 L.hp (U.mono I) q;have Y:=pN r2 ek;subst Y;rcases kq y R with⟨t,O⟩|⟨dv,v,t,O,z3⟩
     ·rw[t]at ok;rfl'
     ·rw[t]at ok;refine⟨a,v,rfl,?_,ok v T D (J.trans I) L z3⟩;exact .inl ⟨_,y,eH,rfl,O.symm⟩
def CF(d e:D):M D:=λG=>match gB G e,ji d with
 |some kvs,À y=>.ok (.bl (aQ kvs y).isSome) G
 |_,_=>.stuck
theorem Q5(R:X.A.units+600<cLine):jB X (compareOp .In) (rD X EE CF):=by
 intro pins s σ0 H x y v u Q I rx ry zu;obtain⟨O,τ,ρ,G,d,e,ab,F,L,ok⟩:=zu;dsimp only[CF]at ok;cases q:gB G e with
 |none=>ac_nf;rfl'
 |some kvs=>
  cases ek:ji d with
  |none=>rw[q,ek]at ok;rfl'
  |some y=>
   rw[q,ek]at ok;obtain⟨a,xs,rfl,eH,D⟩:=m9 ab.hp L q;have J:=pN F ek;subst J;cases ry;refine Wg ∅ I (.inl ⟨_,y,eH,rfl,rfl⟩) rx λs' I'=>⟨.bl _,H,I',rfl,ok _ H ρ .refl ab ?_⟩;unfold Rep;rcases kq y D with⟨k,t⟩|⟨M,v,k,t,S⟩
   ·rw[k,t];rfl
   ·rw[k,t];rfl
end
theorem Mx{d:Type}{a:List (d×V)}{b:List (d×Æ)}(h:KV a b):a.map (·.1)=b.map (·.1):=by
 induction h with
 |nil=>rfl
 |cons h _ k=>rw[É,É,h.1,k]
theorem IZ{d:Type}{l:List (d×D)}(h:l.length=xs.length):((l.map (·.1)).zip xs).map (·.1)=l.map (·.1):=by rw[List.map_fst_zip];simp;lia
theorem My{M:Model}{u:Æ}{Q:Env->Ì->Prop}(R:scope.kind=.function)(T:scope.names.lookup y=À .local)
  (h:∀env,env=newEnv scope s.heap.objs.size gl (cellsFrom (s.heap.objs.size+1) scope.names []) qual func code Å bi->∀k,InCallC s env.locals (bindL env.kindOf [(y,u)] λ_=>Å) env.cells (bindC env.kindOf [(y,u)] λ_=>Å) k->0<k.toks->Q env k):
  à M A (newFunctionEnv scope gl [] [(y,u)] qual func code Å bi) Q E s:=by
 have e:newFunctionEnv scope gl [] [(y,u)] qual func code Å bi=(newFunctionEnv scope gl [] [] qual func code Å bi >>= λenv=>storeName env y u >>= λ_=>pure env):=by simp[newFunctionEnv]
 rw[e];refine Ã (abk R (by simp) λenv d s1 x=>?_);have F:env.kindOf y=À .local:=by subst d;exact T
 have I:env.scope.kind=.function:=by subst d;exact R
 have t:env.locals=s.heap.objs.size:=by subst d;rfl
 refine Ã (aaC F x.toInCall.ns (λh' D O=>Ó (h env d _ ⟨⟨?_,?_,λb o S=>?_,x.toInCall.fresh⟩,λn c L=>?_,x.apart,x.above⟩ (ü _))) (by rw[I];rfl))
 ·obtain⟨h1,Z,J⟩:=x.toInCall.same;rw[J];exact⟨h',Z+1,rfl⟩
 ·have q:(λz=>if z=y then À u else bindL env.kindOf [] (λ_=>Å) z)=bindL env.kindOf [(y,u)] λ_=>Å:=by funext z;simp[bindL,F]
  rw[<- q];exact D
 ·refine(O.2 b ?_).trans (x.toInCall.keep b o S);rw[t];exact ã (Ù S)
 ·have q:=x.cell n c L;have U:c≠env.locals:=abb (x.above n c (mem_of_lookup L));have V:bindC env.kindOf [(y,u)] (λ_=>Å) n=bindC env.kindOf [] (λ_=>Å) n:=by simp[bindC,F]
  rw[V];obtain⟨o,J,Y⟩:=q;exact⟨o,(O.2 c U).trans J,Y⟩
section
variable{f:Addr}
theorem Ux{st:Stmt}{k:Nat}{m:X2->M D}(F:Le K x qual st f fd)(S:iU N [y] (aD st))(hy:(aD st).names.lookup y=À .local)(hN:N.length=nn)(hm:∀ds G,m ds G=Av (cg nn ms ds G))
  (R:∀(X:Cx)(EE:bV)(L:Æ)(A:Around)(t:List Env)(s:Ì)(H:Hp)(E:XK),X=rX (yr P w) P w K mg base N qual (aD st) f L A t s H E->iC k (A.deeper (Ŋ qual (aD st) s.heap.objs.size f L)) ->
   fY X EE->PassesOwn (model P w) X.A X.env X.xe->pg X EE (bZ st) ms):
  nG P w K mg base (yr P w) (k+1) f fd [y] (iX K mg 1 m):=by
 subst hN;obtain⟨oc,od,kV,doc,pm,an,L,ct,osl,rfl,lk,hcd⟩:=F.ex;refine⟨λvs H Q E h=>h.len,λA t s H args us vs Q E hr U hb r K3=>?_⟩;have hl:=K3.len;obtain⟨ds,ρ,G,hn,hp,rs,ok⟩:=K3;have KX:K.In s.heap:=U.mod.RQ.keeps λb o e=>(U.bs b o e).1;have lim:s.heap.NoLimit:=U.mod.nolimit.keeps λb o e=>(U.bs b o e).1;have ZU:us.length=1:=by rw[<- r.length];exact hl
 obtain⟨u,rfl⟩:=List.length_eq_one_iff.mp ZU;refine codeAny_call_function hr.depth (KX _ _ lk) rfl S.co S.gen rfl (acC KX hcd) (hb _ _ _ _ ?_);refine My S.kind hy λenv he s1 x htk=>?_;subst he;refine⟨lim.keeps x.toInCall.keep,codeAny_func ?_⟩;have hB:=R _ (λ_ _ _=>False) L A t s H E rfl (hr.deeper _) (λ_ _ _ _ _ _ _ _ _ _ z=>z.elim) aby;have I:Inv (rX (yr P w) P w K mg base N qual (aD st) f L A t s H E) [] (L2.start N vs) H s1:=wj S hr.hd U hl r x (n:=s1.toks) htk;have hq:iQ K mg (λ_ _ _=>False) ms {nx:=λ_ H'=>Q .bw H',rt:=Q} (L2.start N vs) H:=by
  refine⟨ds.map À++Ô (N.length-ds.length) Å,ρ,G,⟨nY rs,hp⟩,?_⟩;rw[hm]at ok;dsimp only[cg]at ok;cases q:ms (ds.map À++Ô (N.length-ds.length) Å) G with
  |stuck=>ac_nf;w_up
  |nx τ G'=>ac_nf;exact λO H' ρ' f ab=>ok .bw H' ρ' f ab.hp (by unfold Rep;rfl)
  |rt d G'=>ac_nf;exact λv H' ρ' f hp r=>ok v H' ρ' f hp r
  |bk τ G'=>ac_nf;rfl'
  |ct τ G'=>ac_nf;rfl'
  |xn c τ G'=>ac_nf;rfl'
 refine ÿ (hB [] s1 (L2.start N vs) H _ I hq) (λfl Z T=>?_) λe Z T=>T
 have Y:∀{O:St}{H':Hp}{v:V}{u:Æ},Inv (rX (yr P w) P w K mg base N qual (aD st) f L A t s H E) [] O H' Z->RelV v u->Q v H'->CE t P w H s Q u Z:=
  λ{O H' v u} J rv q=>⟨v,H',J.os,J.bare,J.base,J.hok,rv,q⟩
 cases fl with
 |ret u=>obtain⟨v,O,H',J,rv,q⟩:=T;exact Y J rv q
 |next=>obtain⟨O,H',J,q⟩:=T;exact Y (v:=V.bw) (u:=Value.none) J rfl q
 |brk=>obtain⟨_,_,_,q⟩:=T;exact Į q
 |cont=>obtain⟨_,_,_,q⟩:=T;exact Į q
end
structure rH where
 P:ô
 w:đ
 K:Ë
 mg:Str->Option Æ
 base:Heap
def gg(g:rH)(x:Str)(k n:Nat)(m:X2->M D):Prop:=∃f d t,lW g.P g.w g.K g.mg g.base (yr g.P g.w) k f d t (iX g.K g.mg n m)/\g.mg x=À (.ref f)/\ď g.K (.ref f)=Ä/\Binds g.K d t []
def Uy(g:rH)(x:Str):Prop:=∃f,g.mg x=À (.ref f)
def Mz(x:Str):Bool:=!(x=="__debug__")&&!(x=="__classdict__")
def uq(d:Scope)(x:Str)(k:NameKind):Bool:=decide (d.names.lookup x=À k)
def FN(d:Scope)(N:P3):List (Option Str):=N.map λx=>if (uq d x .local||uq d x .cell||uq d x .free)=Ä then À x else Å
def I8(c:Bool)(d:Scope)(N:P3):List (Option Str):=N.map λx=>if (uq d x .local||(c&&uq d x .cell))=Ä then À x else Å
def Ja(d:Scope)(xs N:P3):List (Option Str):=xs.map À++N.map λx=>if uq d x .free=Ä then À x else Å
structure Cf(X:Cx)(EE:bV)(g:rH)(k:Nat)(B:P3)(sc:Scope)(V W:List (Option Str)):Prop where
 eq:X.prog=g.P/\X.w=g.w/\X.K=g.K/\X.mg=g.mg/\X.base=g.base
 vis:∀(i:Nat)(x:Str),V[i]?=À (À x)->X.N[i]?=À x/\Gy X.env.scope x
 gl:∀x,uq sc x .globalImplicit=Ä->Gl X x
 st:∀(i:Nat)(x:Str),W[i]?=À (À x)->X.N[i]?=À x/\Loc X.env.scope x/\(X.fn x=Ä\/X.env.scope.names.lookup x=À .local)
 bl:∀b,B.contains b=Ä->X.mg b=Å
 hx:fY X EE
 hr:iC k X.A
 hc:X.calm=Ä
structure Cs(X:Cx)(sc:Scope)(N:P3):Prop where
 nd:X.N.Nodup
 hf:l8 X
 po:PassesOwn (model X.prog X.w) X.A X.env X.xe
 hs:X.env.scope=sc
 hN:X.N=N
 bk:(X.env.blockKind==.function)=Ä
 stk:X.stack=X.env::X.outer
 ex:X.ex=[]
theorem c9{a b:Bool}(h:(a&&b)=Ä):a=Ä/\b=Ä:=‹h›
theorem wQ(h:Mz x=Ä):DN x:=by obtain⟨k,d⟩:=c9 h;exact⟨‹k›,‹d›⟩
theorem map_some{d:Type}{f:d->Bool}{l:List d}{x:d}(h:(l.map λx=>if f x=Ä then À x else Å)[i]?=À (À x)):l[i]?=À x/\f x=Ä:=by
 rw[Ö]at h;cases e:l[i]? with
 |none=>rw[e]at h;cases h
 |some y=>
  rw[e]at h;dsimp only[Option.map]at h;by_cases q:f y=Ä
  ·rw[Α q]at h;cases h;exact⟨rfl,q⟩
  ·rw[Β q]at h;cases h
theorem nN{k:NameKind}(h:uq sc x k=Ä):sc.names.lookup x=À k:=of_decide_eq_true h
section
variable{g:rH}{k k':Nat}{B xs:P3}{V:List (Option Str)}{p:Pos}{a b elt iter:Expr}{ifs:U2}{ma:Y2}{mi:MI}
theorem Cf.hu(c:Cf X EE g k B sc V W):X.A.units+600<cLine:=LM c.hr
theorem Cf.Yr(c:Cf X EE g k B sc V W)(h:(decide (V[i]?=À (À x))&&Mz x)=Ä):(X.N[i]?=À x/\Gy X.env.scope x)/\DN x:=⟨c.vis i x (of_decide_eq_true (c9 h).1),wQ (c9 h).2⟩
theorem MA(c:Cf X EE g k B sc V W)(h:(decide (V[i]?=À (À x))&&Mz x)=Ä):QE X EE (.Name x pos) (aa i):=by obtain⟨⟨d,t⟩,D⟩:=c.Yr h;exact Qn i t D d
theorem gg.at(c:Cf X EE g k B sc V W)(C:gg g x k' n mf)(h:k'<=k):∃f d t,lW X.prog X.w X.K X.mg X.base (yr X.prog X.w) k' f d t (iX X.K X.mg n mf)/\iC k' X.A/\X.mg x=À (.ref f)/\ď X.K (.ref f)=Ä/\Binds X.K d t []:=by obtain⟨f,d,t,L,F,S,J⟩:=C;have r:=c.hr.mono h;obtain⟨I,O,D,M,R⟩:=c.eq;rw[I,O,D,M,R];exact⟨f,d,t,L,r,F,S,J⟩
theorem Aw(c:Cf X EE g k B sc V W)(C:gg g x k' n mf)(h:(decide (k'<=k)&&(uq sc x .globalImplicit&&(Mz x&&av (e::es))))=Ä)(M:QA X EE (e::es) m):QE X EE (.Call (.Name x p) (e::es) [] pos) (aC n mf m):=by obtain⟨L,h⟩:=c9 h;obtain⟨t,h⟩:=c9 h;obtain⟨R,J⟩:=c9 h;obtain⟨f,S,T,F,O,d,D,I⟩:=C.at c (of_decide_eq_true L);exact DI F O d D I (P9 c.hx) (c.gl x t) (wQ R) M J
theorem CG(c:Cf X EE g k B sc V W)(C:Uy g x)(h:(uq sc x .globalImplicit&&Mz x)=Ä):QE X EE (.Name x pos) (eC (.fn x)):=by obtain⟨t,D⟩:=c9 h;obtain⟨f,d⟩:=C;exact Uc (f:=f) (by rw[c.eq.2.2.2.1];exact d) (c.gl x t) (wQ D)
def FO(g:rH)(k n:Nat):List (Str×(X2->M D))->Prop
 |[]=>True
 |q::r=>(∃d,gg g q.1 d n q.2/\d<=k)/\FO g k n r
theorem FO.at(c:Cf X EE g k B sc V W):∀{l:List (Str×(X2->M D))},FO g k n l->Qx (yr X.prog X.w) X n l
 |[],h=>trivial
 |q::r,⟨⟨O,T,I⟩,S⟩=>by obtain⟨f,t,F,L,U,d,J,R⟩:=T.at c I;exact⟨⟨O,f,t,F,L,U,d,J,R⟩,FO.at c S⟩
theorem FP{l:List (Str×(X2->M D))}(c:Cf X EE g k B sc V W)(C:FO g k n l)(h:((decide (V[i]?=À (À x))&&Mz x)&&av (e::es))=Ä)(F:QA X EE (e::es) m):QE X EE (.Call (.Name x p) (e::es) [] pos) (oh i n (λy=>Ō y l) m):=by obtain⟨t,h⟩:=c9 h;obtain⟨⟨J,I⟩,d⟩:=c.Yr t;exact HY J I d (Ue (C.at c)) (P9 c.hx) F h
theorem Cf.NP(c:Cf X EE g k B sc V W)(h:decide (W[i]?=À (À x))=Ä):X.N[i]?=À x/\Loc X.env.scope x/\(X.fn x=Ä\/X.env.scope.names.lookup x=À .local):=c.st i x (of_decide_eq_true h)
theorem MB(c:Cf X EE g k B sc V W)(s:Cs X scope N)(h:(decide (W[i]?=À (À x))&&l9 a)=Ä)(J:QE X EE a ma):QS X EE (.Assign [.Name x px] a pos) (aA i ma):=by obtain⟨t,D⟩:=c9 h;obtain⟨I,F,d⟩:=c.NP t;exact HQ s.nd F J d I D
theorem Jb(c:Cf X EE g k B sc V W)(s:Cs X scope N)(h:decide (W[i]?=À (À x))=Ä):QG X (.Name x pos) (gN i):=by obtain⟨t,D,d⟩:=c.NP h;exact LR s.nd D d t
theorem Jc{q:Nat}(c:Cf X EE g k B sc V W)(s:Cs X scope N)(h:(decide (W[i]?=À (À x))&&decide (W[j]?=À (À y)))=Ä):QG X (.Tuple [.Name x px,.Name y py] q pos) (gP i j):=by obtain⟨t,F⟩:=c9 h;obtain⟨M,L,d⟩:=c.NP t;obtain⟨J,I,D⟩:=c.NP F;exact L0 c.hc s.nd L I d D M J
def MC(t:Expr)(xs:P3)(gO:D->Option X2):Prop:=(∃x p,t=.Name x p/\xs=[x]/\gO=oN)\/∃x y p q k r,t=.Tuple [.Name x p,.Name y q] k r/\xs=[x,y]/\gO=oT 2
theorem Sd{q:Pos}:MC (.Name x q) [x] oN:=.inl ⟨_,_,rfl,rfl,rfl⟩
theorem Se{q r:Pos}{k:Nat}:MC (.Tuple [.Name x p,.Name y q] k r) [x,y] (oT 2):=.inr ⟨_,_,_,_,_,_,rfl,rfl,rfl⟩
theorem qJ(c:X.calm=Ä)(h:MC tg xs gO)(S:bB X.env.scope X.N scope xs ks):∃d,Own X scope xs ks tg d/\jM X.K X.mg d gO:=by
 rcases h with⟨x,p,rfl,rfl,rfl⟩|⟨x,y,p,q,k,r,rfl,rfl,rfl⟩
 ·exact⟨_,HH S,Fc⟩
 ·exact⟨_,HJ c S,HL⟩
instance {a:Scope} {N:P3} {b:Scope} {xs:P3} {ks:L9}:Decidable (bB a N b xs ks):=
 decidable_of_iff (xs.Nodup/\b.kind=.function/\(∀y∈b.names,y.2≠.cell)/\(∀y∈b.names,y.2=.local->b.names.lookup y.1=À .local)/\(∀x∈xs,b.names.lookup x=À .local)/\(∀y∈b.names,y.2=.free->a.names.lookup y.1=À .cell\/a.names.lookup y.1=À .free)/\((ks.zip N).all λp=>!p.1||decide (b.names.lookup p.2=À .free))=Ä)
  ⟨λzz=>by obtain⟨a,b,c,d,e,f,g⟩:=zz;exact⟨a,b,c,d,e,f,g⟩,λzz=>by obtain⟨a,b,c,d,e,f,g⟩:=zz;exact⟨a,b,c,d,e,f,g⟩⟩
theorem sJ{s0:Ì}{fp:Q1}(c:Cf X EE g k B sc V W)(s:Cs X sc N)(S:bB X.env.scope X.N scope xs ks)(D:fY (pC X scope cl xs C pins s0 H0 fp E) HE):
  Cf (pC X scope cl xs C pins s0 H0 fp E) HE g k B scope (Ja scope xs N) []:=by
 refine⟨c.eq,λi x h=>?_,λx h=>LW (nN h),λi x h=>by simp at h,c.bl,D,c.hr,c.hc⟩;unfold Ja at h;by_cases q:i<xs.length
 ·rw[Î ‹q›,Ö]at h;cases e:xs[i]? with
  |none=>rw[e]at h;cases h
  |some z=>rw[e]at h;cases h;exact⟨by show(xs++X.N)[i]?=À x;rw[Î q,e],Qw S (ë e)⟩
 ·rw[Ò ‹q›,Ú]at h;obtain⟨d,t⟩:=map_some h;exact⟨by show(xs++X.N)[i]?=À x;rw[Ò ∅,s.hN,d],LV S (nN t)⟩
def MD(g:rH)(k:Nat)(B:P3)(d:Scope)(xs N:P3)(D:U2)(t:Expr)(tt:DS->M Bool)(te:Y2):Prop:=
 ∀(X:Cx)(EE:bV),Cf X EE g k B d (Ja d xs N) []->(match D with
  |[]=>tt=bM
  |[c]=>QT X EE c tt
  |_=>False)/\QE X EE t te
theorem W2(h:∀(X:Cx) (EE:bV),Cf X EE g k B scope (Ja scope xs N) []->QE X EE elt te):MD g k B scope xs N [] elt bM te:=λX EE c=>⟨rfl,h X EE c⟩
theorem W3(h:∀(X:Cx) (EE:bV),Cf X EE g k B scope (Ja scope xs N) []->QT X EE a tt/\QE X EE elt te):MD g k B scope xs N [a] elt tt te:=h
theorem ku(c:Cf X EE g k B sc V W)(s:Cs X sc N)(S:bB X.env.scope X.N scope xs ks)(h:MD g k B scope xs N ifs elt tt te):kc X scope xs ifs elt tt te:=by
 match ifs,h with
 |[],h=>have e:tt=bM:=(h _ _ (sJ (cl:=[]) (C:=0) (pins:=[]) (s0:=X.s₀) (H0:=X.H₀) (fp:=[]) (E:=λ_ _=>True) (HE:=EE) c s S (λ_ _ _ _ _ _ _ _ _ _ _=>trivial))).1;x_go;exact Fe λcl C pins s0 H0 fp t Z d=>(h _ _ (sJ c s S d)).2
 |[_],h=>exact Ff λcl C pins s0 H0 fp t Z d=>h _ _ (sJ c s S d)
 |_::_::_,h=>exact((h _ _ (sJ (cl:=[]) (C:=0) (pins:=[]) (s0:=X.s₀) (H0:=X.H₀) (fp:=[]) (E:=λ_ _=>True) (HE:=EE) c s S (λ_ _ _ _ _ _ _ _ _ _ _=>trivial))).1).elim
theorem Cs.S(s:Cs X sc N)(h:bB sc N scope xs ks):bB X.env.scope X.N scope xs ks:=by rw[s.hs,s.hN];exact h
theorem Ax(c:Cf X EE g k B sc V W)(s:Cs X sc N)(t:MC tg xs gO)(S:bB sc N scope xs ks)(h:gu iter=Ä)(D:QE X EE iter ma)(F:MD g k B scope xs N ifs elt tt te):QE X EE (.ListComp elt [⟨tg,iter,ifs,0⟩] scope pos) (dD gO ks ma tt te):=by obtain⟨_,I,d⟩:=qJ c.hc t (s.S S);exact LS c.hx s.hf (s.S S) I d c.hc D (ku c s (s.S S) F) h
theorem wR(c:Cf X EE g k B sc V W)(s:Cs X sc N)(t:MC tg xs gO)(S:bB sc N scope xs ks)(h:gu iter=Ä)(D:QI X EE tg iter mi)(F:MD g k B scope xs N ifs elt tt te):QE X EE (.ListComp elt [⟨tg,iter,ifs,0⟩] scope pos) (gY gO ks mi tt te):=by obtain⟨_,I,d⟩:=qJ c.hc t (s.S S);exact Ie c.hx s.hf (s.S S) I d c.hc D (ku c s (s.S S) F) h
theorem ur(c:Cf X EE g k B sc V W)(s:Cs X sc N)(t:MC tg xs gO)(S:bB sc N scope xs ks)(h:(B.contains "range"&&(uq sc "range" .globalImplicit&&bQ a))=Ä)(D:QA X EE [a] m)(F:MD g k B scope xs N ifs elt tt te):QE X EE (.ListComp elt [⟨tg,.Call (.Name "range" p) [a] [] px,ifs,0⟩] scope pos) (cT e7 gO ks m tt te):=by obtain⟨_,I,d⟩:=qJ c.hc t (s.S S);exact Fo c.hx s.hf (s.S S) I d c.hc (c.bl _ (c9 h).1) (c.gl _ (c9 (c9 h).2).1) D (ku c s (s.S S) F) (c9 (c9 h).2).2
def Vv(W:List (Option Str))(t d:Scope)(i:Nat)(y:Str)(D pos:Pos):Bool:=(decide (W[i]?=À (À y))&&uq t y .local)&&((D.line==pos.line)&&!(d.names.any λx=>x.1==y&&(x.2==.local||x.2==.cell)))
theorem Cf.sw{l:Nat}(c:Cf X EE g k B sc V W)(s:Cs X sc N)(h:Vv W sc scope i y py pos=Ä):X.env.scope.names.lookup y=À .local/\swapsWith (.ListComp elt gens scope pos) (À (.Name y py)) l X.env=pure Ä/\X.N[i]?=À y:=by
 obtain⟨d,t⟩:=c9 h;have D:X.env.scope.names.lookup y=À .local:=by rw[s.hs];exact nN (c9 d).2
 exact⟨D,Ft s.bk D (c9 t).1 (by simpa using(c9 t).2),(c.NP (c9 d).1).1⟩
theorem Ay(c:Cf X EE g k B sc V W)(s:Cs X sc N)(t:MC tg xs gO)(S:bB sc N scope xs ks)(h:(Vv W sc scope i y py pos&&gu iter)=Ä)(I:QE X EE iter ma)(J:MD g k B scope xs N ifs elt tt te):QS X EE (.Assign [.Name y py] (.ListComp elt [⟨tg,iter,ifs,0⟩] scope pos) spos) (aA i (dD gO ks ma tt te)):=by obtain⟨_,M,D⟩:=qJ c.hc t (s.S S);obtain⟨F,d,L⟩:=c.sw s (c9 h).1;exact LU c.hx s.hf (s.S S) M D c.hc s.nd F I (ku c s (s.S S) J) d L (c9 h).2
theorem wU(c:Cf X EE g k B sc V W)(s:Cs X sc N)(t:MC tg xs gO)(S:bB sc N scope xs ks)(h:(Vv W sc scope i y py pos&&gu iter)=Ä)(I:QI X EE tg iter mi)(J:MD g k B scope xs N ifs elt tt te):QS X EE (.Assign [.Name y py] (.ListComp elt [⟨tg,iter,ifs,0⟩] scope pos) spos) (aA i (gY gO ks mi tt te)):=by obtain⟨_,M,D⟩:=qJ c.hc t (s.S S);obtain⟨F,d,L⟩:=c.sw s (c9 h).1;exact Ig c.hx s.hf (s.S S) M D c.hc s.nd F I (ku c s (s.S S) J) d L (c9 h).2
theorem uu(c:Cf X EE g k B sc V W)(s:Cs X sc N)(t:MC tg xs gO)(S:bB sc N scope xs ks)(h:(Vv W sc scope i y py pos&&(B.contains "range"&&(uq sc "range" .globalImplicit&&bQ a)))=Ä)(I:QA X EE [a] m)(J:MD g k B scope xs N ifs elt tt te):QS X EE (.Assign [.Name y py] (.ListComp elt [⟨tg,.Call (.Name "range" p) [a] [] px,ifs,0⟩] scope pos) spos) (aA i (cT e7 gO ks m tt te)):=by obtain⟨_,M,D⟩:=qJ c.hc t (s.S S);obtain⟨F,d,L⟩:=c.sw s (c9 h).1;exact Fq c.hx s.hf (s.S S) M D c.hc s.nd F (c.bl _ (c9 (c9 h).2).1) (c.gl _ (c9 (c9 (c9 h).2).2).1) I (ku c s (s.S S) J) d L (c9 (c9 (c9 h).2).2).2
end
theorem uv(h:∀k,p [k]):∀d:List Æ,d.length=1->p d:=λd e=>by rcases d with _|⟨k,_|⟨z,t⟩⟩<;>first|exact h k|(cases e;done)
theorem uw(h:∀t k,p [t,k]):∀d:List Æ,d.length=2->p d:=λd e=>by rcases d with _|⟨t,_|⟨k,_|⟨z,D⟩⟩⟩<;>first|exact h t k|(cases e;done)
theorem ux(h:∀t k D,p [t,k,D]):∀d:List Æ,d.length=3->p d:=λd e=>by rcases d with _|⟨t,_|⟨k,_|⟨D,_|⟨z,F⟩⟩⟩⟩<;>first|exact h t k D|(cases e;done)
theorem vJ(h:∀D k F t,p [D,k,F,t]):∀d:List Æ,d.length=4->p d:=λd e=>by rcases d with _|⟨D,_|⟨k,_|⟨F,_|⟨t,_|⟨z,I⟩⟩⟩⟩⟩<;>first|exact h D k F t|(cases e;done)
abbrev Jd:=Str×Nat×P3×Stmt
def yF(K:Ë)(k:Str->Option Æ)(x:Str)(n:Nat)(N:P3)(st:Stmt):Prop:=∃f d,Le K x x st f d/\k x=À (.ref f)
def pT(K:Ë)(d:Str->Option Æ):List Jd->Prop
 |[]=>True
 |(x,n,N,st)::r=>yF K d x n N st/\pT K d r
section
variable{st:Stmt}
theorem pT.at:∀{l:List Jd}(T:pT K mg l)(i:Nat){x:Str}{n:Nat}{N:P3}{st:Stmt},l[i]?=À (x,n,N,st)->yF K mg x n N st
 |d::l,T,0,_,_,_,_,h=>by cases h;exact T.1
 |d::l,T,i+1,_,_,_,_,h=>pT.at T.2 i ‹h›
theorem pT.cons{l:List Jd}(X:K.In h)(G:h.Ns mainGlobals mg){f:Addr}{O F:Option Addr}{M:Array (Option Æ)}{t kV J D d I:Æ}(a:Ũ K mainGlobals x=À (À (.ref f)))
  (L:K.lookup f=À ⟨t,O,.func (ć x x (dO st) (bZ st) (aD st) .none kV J D F d I),M⟩) (c:Ő K d x=Ä) (k:ď K (.ref f)=Ä) (r:pT K mg l):pT K mg ((x,n,N,st)::l):=⟨⟨f,_,O3 L c k,adk X G a⟩,r⟩
def lg(d:Str->Option Æ):P3->Prop
 |[]=>True
 |x::r=>d x=Å/\lg d r
theorem lg.cons{l:P3}(X:K.In h)(G:h.Ns mainGlobals mg)(a:Ũ K mainGlobals x=À Å)(r:lg mg l):lg mg (x::l):=⟨PySem.W.mg_none_of X G a,r⟩
theorem lg.at:∀{l:P3},lg mg l->∀b,l.contains b=Ä->mg b=Å
 |x::l,T,b,h=>by
  rw[List.contains_cons]at h;cases e:b==x with
  |true=>rw[eq_of_beq e];exact T.1
  |false=>rw[e]at h;exact lg.at T.2 b ‹h›
end
section
variable{g:rH}{k:Nat}{B:P3}{st:Stmt}{m:X2->M D}{c:yj}
def yG(st:Stmt)(x:Str)(F:P3):Prop:=∀(kV t I:Æ)(J:Option Addr)(D L:Æ)(d:List Æ),d.length=F.length->bindArgs (ć x x (dO st) (bZ st) (aD st) .none kV t I J D L) ⟨d,[]⟩=pure (F.zip d)
theorem Q6(h:(FN sc N)[i]?=À (À x)):N[i]?=À x/\Gy sc x:=by
 obtain⟨t,d⟩:=map_some (f:=λx=>uq sc x .local||uq sc x .cell||uq sc x .free) h;refine⟨t,?_⟩;simp only[aa6]at d;rcases d with(d|d)|d
 ·exact .inl (nN d)
 ·exact .inr (.inl (nN d))
 ·exact .inr (.inr (nN d))
theorem CH{f:Addr}{E:XK}(I:lg mg B)
  (F:iC k (A.deeper (Ŋ x sc s.heap.objs.size f cdv))) (D:fY (rX (yr P w) P w K mg base N x sc f cdv A outer s H E) EE):Cf (rX (yr P w) P w K mg base N x sc f cdv A outer s H E) EE ⟨P,w,K,mg,base⟩ k B sc (FN sc N) (I8 Ä sc N):=by
 refine⟨⟨rfl,rfl,rfl,rfl,rfl⟩,λi x h=>Q6 h,λx h=>nN h,λi x h=>?_,I.at,D,F,rfl⟩;obtain⟨t,d⟩:=map_some (f:=λx=>uq sc x .local||(Ä&&uq sc x .cell)) h;refine⟨t,?_,.inl rfl⟩;simp only[aa6,Ľ]at d;exact d.imp nN nN
theorem Je(h:sc.kind=.function):((if sc.kind.isAnnotationScope then acI else sc.kind)==acI)=Ä:=by rw[h];rfl
theorem lq(D:yF g.K g.mg x n N st)(Y:lg g.mg B)(S:iU N (N.take n) (aD st))(t:(N.take n).length=n)(L:N.length=nn)(T:yG st x (N.take n))
  (body:∀(X:Cx)(EE:bV),Cf X EE g k B (aD st) (FN (aD st) N) (I8 Ä (aD st) N)->Cs X (aD st) N->pg X EE (bZ st) ms):gg g x (k+1) n (λds=>cg nn ms ds):=by
 obtain⟨f,I,F,V⟩:=D;refine⟨f,I,_,Zc (k:=k) (ms:=ms) F S t L (λ_=>rfl) ?_,V,F.kp,F.binds T⟩;intro X EE J A d s H E R M O U;subst R;exact body _ EE (CH Y M O) ⟨S.nd,⟨_,d,s.heap.objs.size,rfl,rfl,rfl⟩,U,rfl,rfl,Je S.kind,rfl,rfl⟩
theorem gg.pure(h:gg g x k n m):gg g x k n (dm m):=by obtain⟨f,d,t,D,F⟩:=h;exact⟨f,d,t,D.imp DP,F⟩
theorem gg.fresh(h:gg g x k n m):gg g x k n (kY m):=by obtain⟨f,d,t,D,F⟩:=h;exact⟨f,d,t,D.imp Iw,F⟩
theorem yF.has(h:yF g.K g.mg x n N st):Uy g x:=by obtain⟨f,_,_,h⟩:=h;exact⟨f,h⟩
theorem Jf{f:Addr}(F:Le g.K x x st f fd)(M:lg g.mg B)(S:iU N [y] (aD st))(L:(aD st).names.lookup y=À .local)(t:N.length=nn)
  (body:∀(X:Cx)(EE:bV),Cf X EE g k B (aD st) (FN (aD st) N) (I8 Ä (aD st) N)->Cs X (aD st) N->pg X EE (bZ st) ms):nG g.P g.w g.K g.mg g.base (yr g.P g.w) (k+1) f fd [y] (iX g.K g.mg 1 (dm λds G=>Av (cg nn ms ds G))):=by
 refine nG.imp (Ux (k:=k) (ms:=ms) F S L t (λ_ _=>rfl) ?_) DP;intro X EE c A d s H E J D I U;subst J;exact body _ EE (CH M D I) ⟨S.nd,⟨_,d,s.heap.objs.size,rfl,rfl,rfl⟩,U,rfl,rfl,Je S.kind,rfl,rfl⟩
theorem FQ{f:Addr}(F:Le K x x st f fd)(M:yG st x [y])(s:Ì)(u:Æ):BindsTo s fd ⟨[u],[]⟩ [(y,u)]:=by obtain⟨R,T,kV,t,D,I,d,J,L,rfl,S,O⟩:=F.ex;exact .of_eq (M kV t D I d J [u] rfl)
end
def CJ(o:Obj):Bool:=match o.cls,o.data with
 |.none,.fields _=>Â
 |_,_=>Ä
abbrev fK(K:Params->Ë)(P:Params):Ë:=(K P).filter λp=>CJ p.2
section
theorem jk{a:Addr}{o:Obj}(d:CJ o=Ä):∀{K:Ë},K.lookup a=À o->(K.filter λp=>CJ p.2).lookup a=À o
 |(b,u)::K,h=>by
  rw[Ć]at h;by_cases e:a=b
  ·x_go;rw[show(a==a)=Ä by simp]at h;cases h;rw[ę (by exact d),Ć,show(a==a)=Ä by simp]
  ·have k:(a==b)=Â:=beq_eq_false_iff_ne.mpr e;rw[k]at h;have t:=jk d h;by_cases q:CJ u=Ä
   ·rw[ę (by exact q),Ć,k];exact t
   ·rw[ń (by exact q)];exact t
theorem Az:CJ ⟨oc,od,.func fd,sl⟩=Ä:=by cases oc<;>rfl
theorem Jg{es:Array DictEntry}:CJ ⟨oc,od,.dict es ep,sl⟩=Ä:=by cases oc<;>rfl
theorem qK{ns:Addr}{r:Option Æ}(h:Ũ K ns x=À r):Ũ (K.filter λp=>CJ p.2) ns x=À r:=by
 unfold Ũ at h |-;cases e:K.lookup ns with
 |none=>rw[e]at h;cases h
 |some o=>
  rw[e]at h;obtain⟨d,t,dt,k⟩:=o;cases dt with
  |dict es ep=>rw[jk Jg e];exact h
  |_=>cases h
variable{st:Stmt}
theorem pT.Jh{l:List Jd}(X:aa9 (K.filter λp=>CJ p.2) h)(G:h.Ns mainGlobals mg){f cA:Addr}{Y J D:Option Addr}{R k:Array (Option Æ)}{F kV O I M v0:Æ}{T:String}{Z:Tok}{vs:Array Æ}{d:List Æ}(a:Ũ K mainGlobals x=À (À (.ref f)))
  (U:K.lookup f=À ⟨F,Y,.func (ć x x (dO st) (bZ st) (aD st) .none kV O I J (.ref cA) M),R⟩) (L:K.lookup cA=À ⟨.type T,D,.fields vs,k⟩) (V:vs.toList=v0::.str x Z::d) (r:pT (K.filter λp=>CJ p.2) mg l):pT (K.filter λp=>CJ p.2) mg ((x,n,N,st)::l):=by
 have t:=jk Az U;have S:=jk (show CJ ⟨.type T,D,.fields vs,k⟩=Ä from rfl) L;refine pT.cons X G (qK a) t ?_ ?_ r
 ·unfold Ő;k_go;rw[S];k_go;rw[V];simp
 ·unfold ď;k_go;rw[t]
theorem lg.Jh{l:P3}(X:aa9 (K.filter λp=>CJ p.2) h)(G:h.Ns mainGlobals mg)(a:Ũ K mainGlobals x=À Å)(r:lg mg l):lg mg (x::l):=lg.cons X G (qK a) r
end
theorem Ji{a:Addr}{o:Obj}:∀{K:Ë},K.lookup a=À o->(a,o)∈K
 |(b,u)::K,h=>by
  rw[Ć]at h;by_cases e:a=b
  ·x_go;rw[show(a==a)=Ä by simp]at h;cases h;simp
  ·rw[show(a==b)=Â from beq_eq_false_iff_ne.mpr e]at h;exact ò _ (Ji h)
theorem Jj{K:Params->Ë}{t:Nat}{r:PySem.W.RowW}{d:DefRec}(O:∀P,as=(K P).map (·.1))
  (h:acA q loose XP (λw h=>aa9 (fK K w.params) h) r d kwd run):PySem.W.WalkX q loose XP (PySem.W.X.obsZ as) (PySem.W.X.valZ K n t) r d kwd run:=by
 intro w k D mg Z G e a o V cd J dV kV h1 h2 h3 Y h5 h6 F I M L U p2 S T p5;refine h w k D mg Z G (λb u hb=>?_) a o V cd J dV kV h1 h2 h3 Y h5 h6 F I M U p2 S T p5;have hm:=(Ĥ.mp (Ji hb)).1;have R:as.map k.heap.get?=(K w.params).map λp=>À p.2:=congrArg (·.1) e;rw[O w.params,ā]at R;exact L.keeps b u (List.map_inj_left.mp R (b,u) hm)
section
variable{g:rH}{k:Nat}{B:P3}{Vs:List (Option Str)}{p pt apos:Pos}{a:Expr}{ma:Y2}{rV:List (Str×Bool)}
theorem Cf.to(c:Cf X EE g k B sc Vs W)(d:fY (Cx.to X E' pn) HE):Cf (Cx.to X E' pn) HE g k B sc Vs W:=⟨c.eq,c.vis,c.gl,c.st,c.bl,d,c.hr,c.hc⟩
theorem Cs.to(s:Cs X sc N)(h:PassesOwn (model X.prog X.w) X.A X.env E'):Cs (Cx.to X E' pn) sc N:=⟨s.nd,s.hf,h,s.hs,s.hN,s.bk,s.stk,s.ex⟩
structure Ch(X:Cx)(g:rH)(B:P3)(sc:Scope)(Vs:List (Option Str)):Prop where
 eq:X.K=g.K/\X.mg=g.mg
 vis:∀(i:Nat)(x:Str),Vs[i]?=À (À x)->X.N[i]?=À x/\Gy X.env.scope x
 gl:∀x,uq sc x .globalImplicit=Ä->Gl X x
 bl:∀b,B.contains b=Ä->X.mg b=Å
structure Ck(X:Cx)(g:rH)(B:P3)(sc:Scope)(N:P3)(Vs:List (Option Str)):Prop where
 h:Ch X g B sc Vs
 nd:X.N.Nodup
 hs:X.env.scope=sc
 hN:X.N=N
 ex:X.ex=[]
theorem ME{t d:MS}(c:Cf X EE g k B sc Vs W)(s:Cs X sc N)
  (M:∀(X:Cx)(EE:bV),Cf X EE g k B sc Vs W->Cs X sc N->pg X EE body t) (F:∀(X:Cx)(EE:bV),Ck X g B sc N Vs->QH X EE (h0::hs) mh) (I:pg X EE orelse d):QS X EE (.Try body (h0::hs) orelse [] pos) (Aa t mh d):=by
 obtain⟨V,Y,L,T,D,R⟩:=s.hf;exact Qf s.stk ⟨L,D.trans R⟩ (λU O HE J S=>M _ _ (c.to J) (s.to S)) (λO=>F _ _ ⟨⟨⟨c.eq.2.2.1,c.eq.2.2.2.1⟩,c.vis,c.gl,c.bl⟩,s.nd,s.hs,s.hN,s.ex⟩) I
def FT(g:rH)(x:Str)(D:List (Str×Bool)):Prop:=∃t,g.mg x=À t/\∀n b d,D.lookup n=À b->g.mg n=À d->aci g.K d t=À b
def Q7(g:rH)(x:Str):Prop:=∃C,g.mg x=À (.ref C)/\aaP g.K C E8 "ValueError.__new__"=Ä
theorem FU(c:Cf X EE g k B sc Vs W)(C:Q7 g x)(h:((uq sc x .globalImplicit&&Mz x)&&av (e::es))=Ä)(D:QA X EE (e::es) m):QS X EE (.Raise (À (.Call (.Name x np) (e::es) [] cpos)) Å pos) (nZ x m):=by obtain⟨F,d,t⟩:=C;exact HV c.hc c.hx (by rw[c.eq.2.2.2.1];exact d) (by rw[c.eq.2.2.1];exact t) (c.gl x (c9 (c9 h).1).1) (wQ (c9 (c9 h).1).2) D (c9 h).2
def W4(K:Ë)(t:Str->Option Æ)(x:Str)(ds:P3):Prop:=∃(q:Addr)(o:Obj)(d:Array Æ)(n:Nat),t x=À (.ref q)/\K.lookup q=À o/\o.cls=.type "tuple"/\o.dict=Å/\o.data=.seq d n/\d.size<=Ç/\Vals (ds.map V.str) d.toList
end
theorem Q8{m:X2->M D}{ns:D2}(I:∀ns:D2,ns.length<=63->∃G,m [.con (ns.map .int)] []=.ok (.bl Ä) G)(F:ns.length<=63)(t:Ld H)(d:kG K H a (ns.map V.int)):
  iX K mg 1 m [.ref a] H (λv _=>v=.bl Ä) λ_ _ _=>False:=by
 obtain⟨G,e⟩:=I ns F;have k:RZ K H a (ns.map V.int):=by
  rcases d with(h|h)|h
  ·rcases t a with z|⟨o,xs,z⟩
   ·rw[h]at z;cases z
   ·rw[h]at z;cases z
  ·exact .inl h
  ·exact .inr h
 refine⟨[.con (ns.map .int)],[],[],rfl,⟨rfl,by simp,λn o e=>by simp at e⟩,.cons (by unfold Rep;exact⟨a,_,rfl,k,.ints ns⟩) .nil,?_⟩;rw[e];intro v H' ρ' _ _ r;unfold Rep at r;exact r
section
open PyProof.Rows
theorem Jk{l:ada}{k:Nat}{d:DefRec}{K:Params->Ë}{CX:đ->vq}
  (hn:l.most=À n) (hn2:n<=Ç) (U:d.params.defaults=[]) (hr:iC k callerA) (hY:∀(w:đ)(h:Heap),YP w h->(K w.params).In h)
  (F:∀(w:đ)(M:Str->Option Æ)(O:Addr)(h:Heap),(K w.params).In h->h.Ns mainGlobals M->M d.name=À (.ref O) ->
   ∃(fd:FuncData)(Z:Sp),(∀(s:Ì)(u:Æ),BindsTo s fd ⟨[u],[]⟩ [(x,u)])/\(∀t:Heap,nG l.prog w (K w.params) M t (CX w) k O fd [x] Z) /\
    ∀(H:Hp)(a:Addr)(R:D2),R.length<=n->Ld H->kG (K w.params) H a (R.map V.int)->Z [.ref a] H (λv _=>v=.bl Ä) λ_ _ _=>False)
  (Wd:∀(w:đ)(H:Hp)(s:Ì)(e:Æ)(S:Ì),CX w [] H s (λ_ _ _=>False) e S->False):
  acA q loose XP YP l.row.toRowW d [] (λf vs=>adi f vs):=by
 refine X0.zH hn U λw s₀ J M mb O o pm cd doc a vs R G Y ho hd hcd hmg L I D hg=>?_;have KX:=hY w _ Y;obtain⟨fd,Z,hb,hF,K3⟩:=F w M O _ KX G.T.g hmg;exact GU KX G.T.g G.T.b G.T.builtins G.T.nolimit hg L I (ú D hn2) hr (λt _ _=>hF t) hb (λH hO hS=>K3 H a R D hO hS) λH e S=>Wd w H J e S
section
variable{g:rH}
theorem FT.one{d:Bool}(t:g.mg x=À cv)(m2:g.mg n0=À c0)(e:aci g.K c0 cv=À d):FT g x [(n0,d)]:=by
 refine⟨cv,t,λn b k h1 h2=>?_⟩;rw[Ć]at h1;cases q:n==n0 with
 |true=>rw[q]at h1;cases h1;rw[beq_iff_eq]at q;subst q;rw[m2]at h2;cases h2;exact e
 |false=>rw[q]at h1;cases h1
end
section
variable{a:Expr}{m:Y2}
def UA(m:Y2):Y2:=λτ G=>match m τ G with
 |.ok d G'=>if nB (G'.take G.length) G=Ä/\d.closed=Ä then .ok d G else .stuck
 |r=>r
theorem UB(D:QE X EE a m):QE X EE a (UA m):=PE.mono D λF H Q zz=>by
 obtain⟨τ,ρ,G,ab,ok⟩:=zz;right;dsimp only[UA]at ok;cases q:m τ G with
 |stuck=>ac_nf;w_up
 |bR c G'=>ac_nf;w_up
 |ok d G'=>
  ac_nf;nofun;by_cases k:nB (G'.take G.length) G=Ä/\d.closed=Ä
  ·rw[Α k]at ok;intro v H' ρ' f t r;exact ok v H' ρ (ko f) ⟨ab.st.mono (ko f),ab.hp.cut f.pre t.hp (kX _ _ k.1)⟩ (om d v k.2 r)
  ·rw[Β k]at ok;rfl'
end
end
section
variable{r:DS}{x y d:D}{ma mb:Y2}{ml:DS->M X2}{a b c e g h i j k l m n o:X9}
@[simp high]def ZK:aa 0 (À x::r) G=.ok x G:=î rfl rfl
@[simp high]def ov0:aj f (aa 0) mb (À x::r) G=(mb (À x::r) G).bd (f x):=aI
@[simp high]def av0:af (aa 0) ml (À x::r) G=(ml (À x::r) G).bd λz=>M.ret (x::z):=aI
@[simp high]def ev1:aa 1 (a::À x::r) G=.ok x G:=î rfl rfl
@[simp high]def ov1:aj f (aa 1) mb (a::À x::r) G=(mb (a::À x::r) G).bd (f x):=aI
@[simp high]def av1:af (aa 1) ml (a::À x::r) G=(ml (a::À x::r) G).bd λz=>M.ret (x::z):=aI
@[simp high]def si2{w:X9}:(a::b::c::r).set 2 w=a::b::w::r:=î rfl rfl
@[simp high]def ev2:aa 2 (a::b::À x::r) G=.ok x G:=î rfl rfl
@[simp high]def ov2:aj f (aa 2) mb (a::b::À x::r) G=(mb (a::b::À x::r) G).bd (f x):=aI
@[simp high]def av2:af (aa 2) ml (a::b::À x::r) G=(ml (a::b::À x::r) G).bd λz=>M.ret (x::z):=aI
@[simp high]def si3{w:X9}:(a::b::c::e::r).set 3 w=a::b::c::w::r:=î rfl rfl
@[simp high]def ev3:aa 3 (a::b::c::À x::r) G=.ok x G:=î rfl rfl
@[simp high]def ov3:aj f (aa 3) mb (a::b::c::À x::r) G=(mb (a::b::c::À x::r) G).bd (f x):=aI
@[simp high]def av3:af (aa 3) ml (a::b::c::À x::r) G=(ml (a::b::c::À x::r) G).bd λz=>M.ret (x::z):=aI
@[simp high]def si4{w:X9}:(a::b::c::e::g::r).set 4 w=a::b::c::e::w::r:=î rfl rfl
@[simp high]def ev4:aa 4 (a::b::c::e::À x::r) G=.ok x G:=î rfl rfl
@[simp high]def ov4:aj f (aa 4) mb (a::b::c::e::À x::r) G=(mb (a::b::c::e::À x::r) G).bd (f x):=aI
@[simp high]def av4:af (aa 4) ml (a::b::c::e::À x::r) G=(ml (a::b::c::e::À x::r) G).bd λz=>M.ret (x::z):=aI
@[simp high]def si5{w:X9}:(a::b::c::e::g::h::r).set 5 w=a::b::c::e::g::w::r:=î rfl rfl
@[simp high]def ev5:aa 5 (a::b::c::e::g::À x::r) G=.ok x G:=î rfl rfl
@[simp high]def ov5:aj f (aa 5) mb (a::b::c::e::g::À x::r) G=(mb (a::b::c::e::g::À x::r) G).bd (f x):=aI
@[simp high]def av5:af (aa 5) ml (a::b::c::e::g::À x::r) G=(ml (a::b::c::e::g::À x::r) G).bd λz=>M.ret (x::z):=aI
@[simp high]def si6{w:X9}:(a::b::c::e::g::h::i::r).set 6 w=a::b::c::e::g::h::w::r:=î rfl rfl
@[simp high]def ev6:aa 6 (a::b::c::e::g::h::À x::r) G=.ok x G:=î rfl rfl
@[simp high]def ov6:aj f (aa 6) mb (a::b::c::e::g::h::À x::r) G=(mb (a::b::c::e::g::h::À x::r) G).bd (f x):=aI
@[simp high]def av6:af (aa 6) ml (a::b::c::e::g::h::À x::r) G=(ml (a::b::c::e::g::h::À x::r) G).bd λz=>M.ret (x::z):=aI
@[simp high]def si7{w:X9}:(a::b::c::e::g::h::i::j::r).set 7 w=a::b::c::e::g::h::i::w::r:=î rfl rfl
@[simp high]def ov7:aj f (aa 7) mb (a::b::c::e::g::h::i::À x::r) G=(mb (a::b::c::e::g::h::i::À x::r) G).bd (f x):=aI
@[simp high]def av7:af (aa 7) ml (a::b::c::e::g::h::i::À x::r) G=(ml (a::b::c::e::g::h::i::À x::r) G).bd λz=>M.ret (x::z):=aI
@[simp high]def av8:af (aa 8) ml (a::b::c::e::g::h::i::j::À x::r) G=(ml (a::b::c::e::g::h::i::j::À x::r) G).bd λz=>M.ret (x::z):=aI
@[simp high]def av9:af (aa 9) ml (a::b::c::e::g::h::i::j::k::À x::r) G=(ml (a::b::c::e::g::h::i::j::k::À x::r) G).bd λz=>M.ret (x::z):=aI
@[simp high]def ZW{w:X9}:(a::b::c::e::g::h::i::j::k::l::m::r).set 10 w=a::b::c::e::g::h::i::j::k::l::w::r:=î rfl rfl
@[simp high]def ZX:aa 10 (a::b::c::e::g::h::i::j::k::l::À x::r) G=.ok x G:=î rfl rfl
@[simp high]def ZY:aj f (aa 10) mb (a::b::c::e::g::h::i::j::k::l::À x::r) G=(mb (a::b::c::e::g::h::i::j::k::l::À x::r) G).bd (f x):=aI
@[simp high]def ocl:aj f (eC x) mb τ G=(mb τ G).bd (f x):=aI
@[simp high]def acl:af (eC x) ml τ G=(ml τ G).bd λz=>M.ret (x::z):=aI
end
section
variable{k v:Expr}{mk:Y2}
def mE(mk d:Y2):Y2:=λτ G=>((mk τ).bind λk=>(d τ).bind λv=>(gA v (.obj G.length) k).bind λ_=>M.ret (.obj G.length)) (G++[.aU Â []])
def Q9(J I:TE):TE:=λt H Q=>∀p,H p=Å->J t (upd H p (.dT [])) λx D=>I t D λy F=>∃d,sY F p x y d/\(∃b,x=.ref b)/\Q (.ref p) d
theorem FW{b:Addr}{y:V}{r:Æ}{Q:Unit->Ì->Prop}(hu:A.units<cLine)(I:Inv X pins σ H s)(g:sY H a (.ref b) y H')(O:RelV y r)(h:∀D,Inv X pins σ H' D->Q () D):
  à (model X.prog X.w) A (dictSet a (.ref b) r) Q E s:=by
 rcases g with⟨kvs,k,e,t,l,L⟩|⟨kvs,k,b',e,t,M,l,L⟩
 ·cases k<;>cases t
 ·cases t;subst L;obtain⟨z,hd,xs,d,dd⟩:=Nx I.hok e;have hz:xs.length<=Ç:=by rw[<- ž d];exact z
  have T:(putK kvs k y).length<=Ç:=by have:=lX kvs k y;lia
  refine wpAny_dictSet_heap (knd:=tupleKind (cF X.prog X.w)) (xs:=xs) (k:=k) hu (nV I.hok M) dd (λh' S Z=>h _ ?_) hz;obtain⟨q,es,ep,J,U,h3,R,_,Y⟩:=S;refine yi I (by rw[e];exact abU) Z ⟨q,J⟩ ⟨T,hd,_,(d.put k M O).keeps λc ys F=>?_,q,es,ep,J,U,h3,R,Y⟩;rw[aK (eY F e (λz=>nomatch z))];exact F
theorem Jl{d t:TE}(hu:X.A.units<cLine)(V:PE X k d)(U:PE X v t):PE X (.Dict [À k] [v] pos) (Q9 d t):=by intro pins s D H Q I q;have M:=I.hok.fresh (È s.heap.objs.size);have F:=I.laid (a:=s.heap.objs.size) (o:=.dT []) (h':=s.heap.push {cls:=.type "dict",data:=.dict #[]}) (t':=s.toks) (λ_ _ q=>Ï _ q) (È _) (zK s.heap I.big);refine wpAny_Dict_any rfl rfl (by simp) (by simp) ?_;refine pairTrees_cons_walk (d7 (V pins _ D _ _ F (q _ M)) λu R ⟨x,Y,T,rx,J⟩=>d7 (U pins R D Y _ T J) λw2 Z ⟨y,H2,I3,ry,O⟩=>pairTrees_nil_walk ?_);obtain⟨L,g,⟨b,rfl⟩,S⟩:=O;cases rx;unfold storeAll;rw[ň];refine Ã (Ã (FW hu I3 g ry λs' I4=>Ó ?_));k_go;rw[ack];exact Ó ⟨.ref s.heap.objs.size,L,I4,rfl,S⟩
theorem Jm(hu:X.A.units+600<cLine)(hk:QE X EE k mk)(hv:QE X EE v mv):QE X EE (.Dict [À k] [v] pos) (mE mk mv):=by
 refine PE.mono (Jl ∅ hk hv) λσ H Q zz=>?_;obtain⟨τ,ρ,G,ab,ok⟩:=zz;intro p L;have D:cK X.K H (upd H p (.dT [])) ρ (ρ++[p]):=(di L ρ).trans (cZ ρ p);have LI:Ab X.K X.mg σ (upd H p (.dT [])) τ (ρ++[p]) (G++[.aU Â []]):=⟨ab.st.mono D,ab.hp.NO L⟩;refine⟨τ,ρ++[p],_,LI,?_⟩;have r0:(ρ++[p])[G.length]?=À p:=by rw[<- ab.hp.hl,aF]
 dsimp only[mE,M.bind,M.ret]at ok;cases e1:mk τ (G++[.aU Â []])with
 |stuck=>rw[e1]at ok;w_up
 |bR c G'=>rw[e1]at ok;exact λH' ρ' f d=>ok H' ρ' (D.trans f) d
 |ok kd G1=>
  rw[e1]at ok;nofun;intro vk H1 J I ir r1;refine⟨τ,J,G1,ir,?_⟩;cases e2:mv τ G1 with
  |stuck=>rw[e2]at ok;w_up
  |bR c G'=>rw[e2]at ok;exact λH' ρ' f d=>ok H' ρ' ((D.trans I).trans f) d
  |ok Z T=>
   rw[e2]at ok;nofun;intro vv V t F cz r2;have R:Rep X.K X.mg t V (.obj G.length) (.ref p):=by unfold Rep;exact⟨p,rfl,(I.trans F).get r0⟩
   have O:=r1.mono F;cases ek:pO kd with
   |none=>
    have:gA Z (.obj G.length) kd T=.stuck:=by simp[gA,ek]
    rw[this]at ok;rfl'
   |some y=>
    obtain⟨b,Y,_⟩:=pP O ek;obtain⟨a,U,e3,g3,q3⟩:=DV (S:=λH'=>Q (.ref p) H') cz r2 R O (λq=>by rw[q]at ok;exact ok.elim) λr G' H' q f d=>by rw[q]at ok;nofun;exact ok (.ref p) H' t (((D.trans I).trans F).trans f) d (R.mono f)
    cases e3;exact⟨U,g3,⟨b,Y⟩,q3⟩
end
structure W5(K:Ë)(x:Str)(st:Stmt)(f:Addr)(fd:FuncData):Prop where
 ex:∃(oc:Æ)(od:Option Addr)(kV doc pm:Æ)(an:Option Addr)(cdv ct:Æ)(osl:Array (Option Æ))(T:Addr)(oT:Obj)(n:Nat),
  fd=ć x x (dO st) (bZ st) (aD st) (.ref T) kV doc pm an cdv ct/\K.lookup f=À ⟨oc,od,.func fd,osl⟩/\Ő K cdv x=Ä/\K.lookup T=À oT/\oT.data=.seq #[.none] n
 kp:ď K (.ref f)=Ä
def uy(K:Ë)(k:Str->Option Æ)(x:Str)(n:Nat)(N:P3)(st:Stmt):Prop:=∃f d,W5 K x st f d/\k x=À (.ref f)
def W6(g:rH)(x:Str)(k n:Nat)(m:X2->M D):Prop:=∃f d t,lW g.P g.w g.K g.mg g.base (yr g.P g.w) k f d t (iX g.K g.mg n m)/\g.mg x=À (.ref f)/\ď g.K (.ref f)=Ä/\Binds g.K d t [.none]
section
variable{f:Addr}
theorem W7{st:Stmt}{kV:Æ}{k:Nat}{m:X2->M D}(lk:K.lookup f=À ⟨oc,od,.func (ć x x (dO st) (bZ st) (aD st) dV kV doc pm an cdv ct),osl⟩)(hcd:Ő K cdv x=Ä)(S:iU N ps (aD st))(hps:ps.length=n)(hN:N.length=nn)(hm:∀ds,m ds=cg nn ms ds)
  (R:∀(X:Cx)(EE:bV)(A:Around)(F:List Env)(s:Ì)(H:Hp)(E:XK),X=rX (yr P w) P w K mg base N x (aD st) f cdv A F s H E->iC k (A.deeper (Ŋ x (aD st) s.heap.objs.size f cdv)) ->
   fY X EE->PassesOwn (model P w) X.A X.env X.xe->pg X EE (bZ st) ms):
  lW P w K mg base (yr P w) (k+1) f (ć x x (dO st) (bZ st) (aD st) dV kV doc pm an cdv ct) ps (iX K mg n m):=by
 subst hps hN;have e:m=λds=>cg N.length ms ds:=funext hm;x_go;refine Nu lk hcd S (λvs H Q E h=>h.len) λA F s H vs Q E hr h=>?_;obtain⟨ds,ρ,G,hn,hp,rs,ok⟩:=h;refine⟨_,R _ (λc σ H'=>∀J,zZ mg c J->E J Å H') A F s H E rfl hr ?_ aby,ds.map À++Ô (N.length-ds.length) Å,ρ,G,⟨nY rs,hp⟩,?_⟩
 ·intro pins σ H' s' e J c I fx Z ee;obtain⟨B,fb,V,wD⟩:=fx;refine zY (L:=s.heap.objs.size) I.ok.frames rfl fb λh' a0 fl u hD=>?_;have T:Inv _ [] σ H' {s' with heap:=h'}:=Inv.DA (t:=s'.toks) I wD V fl.1 u;have Dl:∀b o,s.heap.get? b=À o->b∉frs F->b∉frs (Ŋ x (aD st) s.heap.objs.size f cdv::F):=λb o e U z=>by
   rcases Þ.mp (I.kF b z)with z|z
   ·exact absurd (Ù e) (by rw[show b=s.heap.objs.size from z];exact ģ _)
   ·exact U z
  refine⟨e,J,a0,B,H',rfl,fl,hD,⟨T.os,T.bare,λb o O Y U=>wD.keep b o O Y (Dl b o O U) (by intro z;exact absurd (show b∈([]:Q1) from z) (by simp)),λb o O U=>wD.there b o O (Dl b o O U) (by intro z;exact absurd (show b∈([]:Q1) from z) (by simp)),
   λb o O Y U=>T.base.slot b o O Y U (by intro z;exact absurd (show b∈([]:Q1) from z) (by simp)),λb o O Y=>T.base.free b o O Y (by intro z;exact absurd (show b∈([]:Q1) from z) (by simp)),T.base.tups,T.base.lS,T.base.nQ,V⟩,ee J Z⟩
 ·dsimp only[cg]at ok;cases q:ms (ds.map À++Ô (N.length-ds.length) Å) G with
  |stuck=>ac_nf;w_up
  |nx τ G'=>ac_nf;exact λσ' H' ρ' f ab=>ok .bw H' ρ' f ab.hp (by unfold Rep;rfl)
  |rt d G'=>ac_nf;exact λv H' ρ' f hp r=>ok v H' ρ' f hp r
  |bk τ G'=>ac_nf;rfl'
  |ct τ G'=>ac_nf;rfl'
  |xn c τ G'=>ac_nf;exact λσ' H' ρ' f ab J Z=>ok J H' ρ' Z f ab.hp
end
section
variable{g:rH}{k k':Nat}{B:P3}{Vs:List (Option Str)}{p:Pos}{st:Stmt}
theorem Jo(Dd:uy g.K g.mg x n N st)(hB:lg g.mg B)(S:iU N (N.take n) (aD st))(V:(N.take n).length=n)(hN:N.length=nn)
  (hb:∀(T:Addr)(kV d I:Æ)(J:Option Addr)(t L:Æ)(D:List Æ),D.length=(N.take n).length->∃k:Option (Array Æ)->Sem (List (Str×Æ)),bindArgs (ć x x (dO st) (bZ st) (aD st) (.ref T) kV d I J t L) ⟨D,[]⟩=seqItems? (.ref T) >>= k/\k (À #[.none])=pure ((N.take n).zip D))
  (hd:∀(T:Addr)(kV d I:Æ)(J:Option Addr)(t L:Æ)(D:List Æ),D.length+1=(N.take n).length->∃k:Option (Array Æ)->Sem (List (Str×Æ)),bindArgs (ć x x (dO st) (bZ st) (aD st) (.ref T) kV d I J t L) ⟨D,[]⟩=seqItems? (.ref T) >>= k/\k (À #[.none])=pure ((N.take n).zip (D++[.none])))
  (body:∀(X:Cx)(EE:bV),Cf X EE g k B (aD st) (FN (aD st) N) (I8 Ä (aD st) N)->Cs X (aD st) N->pg X EE (bZ st) ms):gg g x (k+1) n (λds=>cg nn ms ds)/\W6 g x (k+1) n (λds=>cg nn ms ds):=by
 obtain⟨f,fd,F,hm⟩:=Dd;have kp:=F.kp;obtain⟨oc,od,kV,d,I,J,t,L,osl,T,oT,nT,rfl,lk,Y,lT,dT⟩:=F.ex;have ok:lW g.P g.w g.K g.mg g.base (yr g.P g.w) (k+1) f (ć x x (dO st) (bZ st) (aD st) (.ref T) kV d I J t L) (N.take n) (iX g.K g.mg n (λds=>cg nn ms ds)):=by refine W7 (k:=k) (ms:=ms) lk Y S V hN (λ_=>rfl) ?_;intro X EE A M s H E hX hr hx Uz;subst hX;exact body _ EE (CH hB hr hx) ⟨S.nd,⟨_,M,s.heap.objs.size,rfl,rfl,rfl⟩,Uz,rfl,rfl,Je S.kind,rfl,rfl⟩
 refine⟨⟨f,_,_,ok,hm,kp,λs D R O=>?_⟩,⟨f,_,_,ok,hm,kp,λs D R O=>?_⟩⟩
 ·rw[ó]at O |-;obtain⟨k1,U,Z⟩:=hb T kV d I J t L D O;exact .of_defaults (T:=T) rfl (R _ _ lT) dT U Z
 ·obtain⟨k1,U,Z⟩:=hd T kV d I J t L D ‹O›;exact .of_defaults (T:=T) rfl (R _ _ lT) dT U Z
end
def BF(a b:Str):Bool:=!ltCps b.cps.toList a.cps.toList
theorem lu{a:Str}:BF a b=Ä↔a.cps.toList<=b.cps.toList:=by unfold BF;rw[PyProof.Rows.ltCps_eq];simp
theorem wV{a c:Str}(h:BF a b=Ä)(k:BF b c=Ä):BF a c=Ä:=lu.mpr (List.le_trans (lu.mp h) (lu.mp k))
theorem Jp{a:Str}(h:BF a b=Ä)(k:BF b a=Ä):a=b:=by have:=List.le_antisymm (lu.mp h) (lu.mp k);cases a;cases b;z_go
theorem FY{a:Str}(h:BF a b=Â):BF b a=Ä:=by
 rcases List.le_total a.cps.toList b.cps.toList with k|k
 ·rw[lu.mpr k]at h;cases h
 ·exact lu.mpr k
def FZ(x:Str):P3->P3
 |[]=>[x]
 |y::r=>if BF x y=Ä then x::y::r else y::FZ x r
def cS(l:P3):P3:=l.foldr FZ []
theorem qL(x:Str):∀l,(FZ x l).Perm (x::l)
 |[]=>.refl _
 |y::r=>by
  unfold FZ;split
  ·exact .refl _
  ·exact((qL x r).cons y).trans (.swap ..)
theorem dg:∀l,(cS l).Perm l
 |[]=>.refl _
 |x::r=>(qL x _).trans ((dg r).cons x)
theorem uz(x:Str):∀l:P3,l.Pairwise (λa b=>BF a b=Ä)->(FZ x l).Pairwise (λa b=>BF a b=Ä)
 |[],_=>abN ..
 |y::r,h=>by
  obtain⟨k,D⟩:=ũ.mp h;unfold FZ;split
  ·rename_i d;refine ũ.mpr ⟨λz hz=>?_,h⟩;rcases Þ.mp hz with rfl|hz
   ·exact d
   ·exact wV d (k z hz)
  ·rename_i d;have t:BF y x=Ä:=FY ‹d›;refine ũ.mpr ⟨λz hz=>?_,uz x r D⟩;rcases Þ.mp ((qL x r).mem_iff.mp hz)with rfl|hz
   ·exact t
   ·exact k z hz
theorem rJ:∀l,(cS l).Pairwise (λa b=>BF a b=Ä)
 |[]=>.nil
 |x::r=>uz x _ (rJ r)
theorem AA:∀{l:P3},aaZ l=Ä->l.Pairwise (λa b=>BF a b=Ä)
 |[],_=>.nil
 |[x],_=>abN ..
 |x::y::r,h=>by
  obtain⟨d,t⟩:=c9 (show(BF x y&&aaZ (y::r))=Ä from h);have k:=AA t;refine ũ.mpr ⟨λz hz=>?_,k⟩;rcases Þ.mp hz with rfl|hz
  ·exact d
  ·exact wV d ((ũ.mp k).1 z hz)
theorem AB(k:ss'.Perm ss)(d:aaZ ss'=Ä):ss'=cS ss:=
 List.Perm.eq_of_pairwise (λ_ _ _ _ a b=>Jp a b) (AA d) (rJ ss) (k.trans (dg ss).symm)
def pU:List Key->Option P3
 |[]=>À []
 |.inr i::r=>(pU r).map (i::·)
 |_=>Å
theorem wW:∀{ks:List Key}{ns:P3}{vs:List Æ},pU ks=À ns->vs.length=ks.length->(∀(i:Nat)(k:Key)(v:Æ),ks[i]?=À k->vs[i]?=À v->sR k v=Ä)->ř vs ns
 |[],ns,vs,h,hl,hk=>by cases h;rw[abO.mp hl];exact .nil
 |.inr i::r,ns,[],h,hl,hk=>by simp at hl
 |.inr i::r,ns,v::vs,h,hl,hk=>by
  dsimp only[pU]at h;cases e:pU r with
  |none=>rw[e]at h;cases h
  |some m=>
   rw[e]at h;cases h;have d:=hk 0 (.inr i) v rfl rfl;rcases cU d with⟨j,t,e1,rfl⟩|⟨x,t,e1,rfl⟩
   ·cases e1
   ·cases e1;exact .cons i t (wW e ‹hl› λj k u h1 h2=>hk (j+1) k u ‹h1› ‹h2›)
section
theorem vK{d:Addr}{kvs:List (Key×Æ)}{Q:Æ->Ì->Prop}(hh:A.handled=Å)(hm:(d==sysModules)=Â)(hd:s.heap.DictOf (cF prog w) d kvs)(hn:pU (kvs.map (·.1))=À ns)(hl:kvs.length<64)
  (V:∀(D h':Heap)(tk:Nat)(its:List Æ)(c:Nat),(∀b o,s.heap.get? b=À o->D.get? b=À o)->(∀b o,D.get? b=À o->h'.get? b=À o)->h'.get? D.objs.size=À {cls:=.type "list",data:=.seq its.toArray c}->ř its (cS ns)->Q (.ref D.objs.size) {s with heap:=h',toks:=tk}):
  à (model prog w) A (call (.builtin "sorted") [.ref d]) Q E s:=by
 obtain⟨o,es,ep,D,h2,h3,Y,h5,h6⟩:=hd;have hz:kvs.length<=Ç:=by rw[sizeLine_eq];lia
 refine abt PyProof.Rows.kind_sorted PyProof.Rows.plain_sorted PyProof.Rows.entry_sorted (PyProof.Rows.args_sorted1 _) ?_;unfold Builtin.sorted;refine Ã (Ű (a:=()) rfl ?_);refine Ã (PySem.W.kdu_collect (PySem.W.kdl_dict (knd:=cF prog w) (kvs:=kvs) (ep:=ep) hm) (show A.in1.handled=Å from hh) ⟨o,es,D,h2,h3,Y,h5,h6⟩ hz λh' tk acc kp t=>?_);have O:ř acc.toList ns:=wW hn ‹t.1› λi k v F L=>by obtain⟨k',x,M,Z⟩:=t.2 i v ‹L›;rw[Ö,M]at F;cases F;exact Z
 refine Ã (þ ?_ (show acc.toList.toArray.size<=Ç by simp only[Array.toArray_toList];rw[t.1];exact hz));have J:(h'.push {cls:=.type "list",data:=.seq acc.toList.toArray}).get? h'.objs.size=À (PyProof.Rows.seqObj "list" acc.toList.toArray 0):=Ø _ rfl;refine Ã (ĭ (Ī PyProof.Rows.slot_list_sort ⟨_,J,rfl⟩ PyProof.Rows.entry_list_sort (PyProof.Rows.list_sort_treeK PyProof.Rows.strKind_oneLt (n:=0) J O.keysOf (λR S T e=>PyProof.Rows.keyKind_strs (by rw[<- e];exact O)) (by have:=t.1;simp at this |-;lia) λI hp hs=>⟨_,rfl,?_⟩) (PyProof.Rows.args_list_sort _)));refine Ó ⟨_,rfl,?_⟩;obtain⟨ss',F,L,M⟩:=PyProof.Rows.sorted_out_str O hp hs;generalize(PyProof.Rows.arrOf I).map (·.2)=out at F;obtain⟨c,U⟩:=PyProof.Rows.sortedHeap_at (out:=out) J;have es:=AB L M;subst es;refine V h' _ tk out.toList c kp (λb o e=>?_) ‹U› F;have lt:=Ù e;rw[PyProof.Rows.sortedHeap_old (ã lt) (Õ lt (by simp[Heap.push]))];exact Ï _ e
end
def ly:X2->M D
 |[d]=>λG=>match gB G d with
  |some kvs=>match pU (kvs.map (·.1))with
   |some k=>if kvs.length<64 then aN ((cS k).map .str) G else .stuck
   |none=>.stuck
  |none=>match ak G d with
   |some (.lst xs)=>match strsOf xs with
    |some k=>if k.length<64 then aN ((cS k).map .str) G else .stuck
    |none=>.stuck
   |_=>.stuck
 |_=>M.stop
theorem wX{vs:List Æ}(h:ř vs ns):Vals (ns.map V.str) vs:=by
 induction h with
 |nil=>exact .nil
 |cons n t _ d=>exact .cons ⟨_,rfl⟩ d
theorem rK:∀(l:List (Str×Tok)),ř (strValues l) (l.map (·.1))
 |[]=>.nil
 |p::l=>.cons _ _ (rK l)
section
variable{p:Pos}
theorem yH(hc:X.calm=Ä):fF X (.builtin "sorted") (EW X EE ly):=by
 intro pins s σ0 H xs us Q I r zu;obtain⟨σ,τ,ρ,G,ds,ab,R,ok⟩:=zu
 match ds,ok with
 |[],ok=>rfl'
 |_::_::_,ok=>rfl'
 |[d],ok=>
  obtain⟨x,rfl,T⟩:=fJ R;obtain⟨u,rfl,Z⟩:=vals1 r;dsimp only[ly]at ok;cases q:gB G d with
  |some kvs=>
   ac_nf;nofun;cases qn:pU (kvs.map (·.1))with
   |none=>rw[qn]at ok;rfl'
   |some J=>
    rw[qn]at ok;nofun;by_cases t:kvs.length<64
    ·rw[Α t]at ok;obtain⟨a,ys,rfl,eH,R⟩:=m9 ab.hp T q;cases Z;obtain⟨_,hm,vs,kv,hd⟩:=qY I.hok eH;have ZZ:kvs.length=ys.length:=‹R.length›
     have S:=Mx kv;rw[IZ ZZ]at S;have el:=congrArg abw S;simp at el;have L:aq X.K X.mg ρ H ((cS J).map .str) ((cS J).map V.str):=aq.strs _;obtain⟨D,O⟩:=kM ab L ok;refine jA I.os.2 <|vK (show X.A.handled=Å from I.ok.hd hc) hm hd (by rw[<- S];exact qn) ∅ λh1 h' tk F c kp Z0 e g=>λht=>?_;have I2:Inv X pins σ0 H {s with heap:=h1,toks:=tk}:=I.kept (t':=tk) kp;exact⟨.ref _,_,I2.laid (t':=tk) Z0 (È _) (show d9 X.prog X.w _ h' _ (.lst _) from⟨D,F,c,wX g,e⟩),rfl,O _ (I2.hok.fresh (È _))⟩
    ·rw[Β t]at ok;rfl'
  |none=>
   ac_nf;nofun;cases qs:ak G d with
   |none=>rw[qs]at ok;rfl'
   |some sk=>
    rw[qs]at ok;cases sk with
    |tup _=>rfl'
    |str _=>rfl'
    |lst zs=>
     nofun;cases qn:strsOf zs with
     |none=>rw[qn]at ok;rfl'
     |some J=>
      rw[qn]at ok;nofun;by_cases t:J.length<64
      ·rw[Α t]at ok;obtain⟨a,ys,rfl,sq,rv⟩:=bJ (pins:=pins) (σ0:=σ0) (s:=s) ab.hp T qs;cases Z;obtain⟨F,vv,⟨o,k,e1,e2,Y,U⟩,_⟩:=I.list sq;obtain⟨l,rfl,rfl⟩:=n9 rv vv qn;have L:aq X.K X.mg ρ H ((cS (l.map (·.1))).map .str) ((cS (l.map (·.1))).map V.str):=aq.strs _;obtain⟨D,O⟩:=kM ab L ok;obtain⟨oc,od,odt,osl⟩:=o;dsimp only at e2 Y U;subst e2 Y U;refine jA I.os.2 <|PyProof.Rows.sorted_strs (vs:=strValues l) ⟨_,e1,rfl,k,rfl⟩ (rK l) (by simp[strValues]at t |-;exact t) λout ss' g1 g2 g3=>λht=>?_;have es:=AB g2 g3;subst es;obtain⟨c,M⟩:=PyProof.Rows.sortedAll_at s.heap (strValues l) out;exact⟨.ref _,_,I.laid (t':=s.toks) (λb o eb=>PyProof.Rows.sortedAll_old eb) (aaW _) (show d9 X.prog X.w _ _ _ (.lst _) from⟨D,out.toList,c,wX g1,‹M›⟩),rfl,O _ (I.hok.fresh (aaW _))⟩
      ·rw[Β t]at ok;rfl'
theorem CL(d:X.calm=Ä)(D:X.mg "sorted"=Å)(t:Gl X "sorted")(k:QA X EE [e] m)(h:av [e]=Ä:=by rfl):QE X EE (.Call (.Name "sorted" p) [e] [] pos) (ai ly m):=iE (yH d) D t PyProof.Rows.boot_sorted k (by decide) (by decide) h
end
section
variable{f o:Expr}{apos p:Pos}{mf:Y2}
def wY(G:DH):D->Bool
 |.obj n=>match G[n]? with
  |some (.aU _ _)=>Ä
  |_=>Â
 |_=>Â
def yI(d k x:D):M D:=λG=>match d,pO k with
 |.obj n,À y=>match G[n]? with
  |some (.aU _ kvs)=>.ok ((aQ kvs y).getD x) G
  |_=>.stuck
 |_,_=>.stuck
def uA(D t F:Y2):Y2:=λτ=>(D τ).bind λd G=>if wY G d=Ä then ((t τ).bind λk=>(F τ).bind λx=>yI d k x) G else .stuck
theorem Jq{d:D}(h:wY G d=Ä):∃n fz kvs,d=.obj n/\G[n]?=À (.aU fz kvs):=by
 cases d<;>simp[wY]at h;rename_i n;cases g:G[n]? with
 |none=>rw[g]at h;cases h
 |some ob=>
  cases ob with
  |aU fz kvs=>exact⟨n,fz,kvs,rfl,g⟩
  |_=>rw[g]at h;cases h
theorem Jr(hu:X.A.units+600<cLine)(ho:QE X EE o mo)(he:QE X EE e me)(hf:QE X EE f mf)(hb:n8 o=Ä:=by rfl)(h:av [e,f]=Ä:=by rfl)(t:(apos.endLine==cpos.line)=Ä:=by rfl):
  QE X EE (.Call (.Attribute o "get" apos) [e,f] [] cpos) (uA mo me mf):=by
 have h':bQ e=Ä/\bQ f=Ä:=by simpa[av]using h
 refine PE.mono (GZ ∅ ho he hf ⟨iW hb _ _,tR h (by simp),t,by rw[bu h'.1,bu h'.2];rfl⟩) λσ H Q zz=>?_;obtain⟨τ,ρ,G,ab,ok⟩:=zz;right;dsimp only[uA,M.bind]at ok;cases e1:mo τ G with
 |stuck=>rw[e1]at ok;w_up
 |bR c G'=>rw[e1]at ok;w_up
 |ok d G1=>
  rw[e1]at ok;nofun;intro vd H1 ρ1 O ir U;by_cases I:wY G1 d=Ä
  ·rw[Α I]at ok;obtain⟨n,fz,kvs,rfl,Z⟩:=Jq I;unfold Rep at U;obtain⟨p,rfl,ep⟩:=U;obtain⟨p',xs,vW,eH,_⟩:=ir.hp.aU Z;rw[ep]at vW;cases vW;refine⟨p,rfl,.inr ⟨_,eH.rd⟩,τ,ρ1,G1,ir,?_⟩;cases e2:me τ G1 with
   |stuck=>rw[e2]at ok;w_up
   |bR c G'=>rw[e2]at ok;exact λH' ρ' f D=>ok H' ρ' (O.trans f) D
   |ok k G2=>
    rw[e2]at ok;nofun;intro vk H2 S L cz r2;refine⟨τ,S,G2,cz,?_⟩;cases e3:mf τ G2 with
    |stuck=>rw[e3]at ok;w_up
    |bR c G'=>rw[e3]at ok;exact λH' ρ' f D=>ok H' ρ' ((O.trans L).trans f) D
    |ok x G3=>
     rw[e3]at ok;dsimp only[yI]at ok;intro vx H3 T R V r3;cases ek:pO k with
     |none=>rw[ek]at ok;rfl'
     |some y=>
      rw[ek]at ok;nofun;cases g:G3[n]? with
      |none=>kd_p;rfl'
      |some ob=>
       cases ob with
       |aU fz3 Z1=>
        kd_p;nofun;obtain⟨p3,xs3,Y,Z2,Z3⟩:=V.hp.aU g;rw[(L.trans R).get ep]at Y;cases Y;obtain⟨b,rfl,eb⟩:=pP (r2.mono R) ek;refine⟨_,.inr ⟨_,y,b,Z2.rd,rfl,eb,rfl⟩,?_⟩;refine ok _ H3 T ((O.trans L).trans R) V ?_;rcases kq y Z3 with⟨J,F⟩|⟨d,v,J,F,z3⟩
        ·rw[J,F];exact r3
        ·rw[J,F];exact z3
       |_=>kd_p;rfl'
  ·rw[Β I]at ok;rfl'
def gC(d e:D):M D:=λG=>match gB G e,ji d with
 |some kvs,À y=>.ok (.bl (!(aQ kvs y).isSome)) G
 |_,_=>.stuck
theorem F0(R:X.A.units+600<cLine):jB X (compareOp .NotIn) (rD X EE gC):=by
 intro pins s σ0 H x y v u Q I rx ry zu;obtain⟨O,τ,ρ,G,d,e,ab,F,L,ok⟩:=zu;dsimp only[gC]at ok;cases q:gB G e with
 |none=>ac_nf;rfl'
 |some kvs=>
  cases ek:ji d with
  |none=>rw[q,ek]at ok;rfl'
  |some y=>
   rw[q,ek]at ok;obtain⟨a,xs,rfl,eH,D⟩:=m9 ab.hp L q;have J:=pN F ek;subst J;cases ry;refine Lg ∅ I (.inl ⟨_,y,eH,rfl,rfl⟩) rx λs' I'=>⟨.bl _,H,I',rfl,ok _ H ρ .refl ab ?_⟩;unfold Rep;rcases kq y D with⟨k,t⟩|⟨M,v,k,t,S⟩
   ·rw[k,t];rfl
   ·rw[k,t];rfl
def iT:X2->M D
 |[.obj n]=>λG=>match G[n]? with
  |some (.aU _ kvs)=>.ok (.int kvs.length) G
  |_=>.stuck
 |_=>M.stop
theorem MF{K:Type} [DecidableEq K] {knd:HeapKind prog w K} {A:Around} {E:Æ->Ì->Prop} {s:Ì} {d:Addr} {xs:List (K×Addr×Æ)} {Q:Æ->Ì->Prop}
  (M:(d==sysModules)=Â) (D:s.heap.DictOfH knd d xs) (I:(xs.length:Int)<2^63)
  (h:Q (.int xs.length (s.toks+1)) {s with toks:=s.toks+1+1}):à (model prog w) A (call (.builtin "len") [.ref d]) Q E s:=by
 have k:MeetsIn prog w (aaQ.«dict.__len__» ⟨[.ref d],[]⟩) (λ_ R s=>∃xs,s.heap.DictOfH knd d xs/\R (.ok (.ret (.int xs.length s.toks))) {s with toks:=s.toks+1}):=
  .of_wp λA R s zz=>by obtain⟨xs,D,h⟩:=zz;obtain⟨o,es,ep,J,O,t,L,_,_⟩:=D;show à _ _ (dictSize d >>= _) _ _ s;unfold dictSize;refine Ã (Ã (aaw J t (Ó ?_)));show à _ _ (Builtin.Dict.pendingCount d >>= _) _ _ s;refine Ã (wpAny_pendingCount_other M ?_);refine wpAny_ret_mkInt ?_;rw[acR,size_of_entries L];exact h
 refine abt kind_len plain_len entry_len (args_len1 _) ?_;unfold aaQ.«len»;refine Ã (m:=oneArg "len" _) (Ó ?_)
 refine Ã (m:=callSpecial? (.ref d) (į "__len__")) (Ď (name:=į "__len__") D.typeIs adb
  (call_meetsIn adb D.typeIs F.entry_dict_len (F.args_dict_len_1 _) k ⟨xs,D,?_⟩))
 show à _ _ _ _ _ {s with toks:=s.toks+1};refine Ã (ĭ (Ó ?_));refine Ã (abz ?_);show à _ _ (if ((xs.length:Nat):Int)<0 then _ else _) _ _ _;rw[Β ∅];show à _ _ (if ((xs.length:Nat):Int) >= 2^63 then _ else _) _ _ _;rw[Β ∅];exact Ã (wpAny_mkInt (Ó ⟨_,rfl,h⟩))
theorem F1:fF X (.builtin "len") (EW X EE iT):=by
 intro pins s σ0 H xs T Q I r zu;obtain⟨U,τ,ρ,G,ds,ab,t,ok⟩:=zu
 match ds,ok with
 |[],ok=>rfl'
 |d::_::_,ok=>cases d<;>exact ok.elim
 |[d],ok=>
  cases d<;>try exact ok.elim
  rename_i n;obtain⟨x,rfl,D⟩:=fJ t;obtain⟨u,rfl,M⟩:=vals1 r;dsimp only[iT]at ok;cases g:G[n]? with
  |none=>kd_p;rfl'
  |some ob=>
   cases ob with
   |aU fz kvs=>
    kd_p;unfold Rep at D;obtain⟨p,rfl,ep⟩:=D;cases M;obtain⟨S,xs,F,O,t⟩:=ab.hp.aU g;rw[ep]at F;cases F;obtain⟨z,R,vs,k,dd⟩:=qZ I.hok O.rd;have L:=t.length;have J:=ok (.int kvs.length) H ρ .refl ab (by unfold Rep;rfl);have V:vs.length=kvs.length:=by rw[<- k.length,List.length_zip];simp at L |-;lia
    refine MF R dd (by rw[<- k.length];rw[sizeLine_eq]at z;lia) ?_;rw[V];exact⟨.int _,H,I.tok _,⟨_,rfl⟩,J⟩
   |_=>kd_p;rfl'
theorem MG(d:X.mg "len"=Å)(t:Gl X "len")(k:QA X EE [e] m)(h:av [e]=Ä:=by rfl):QE X EE (.Call (.Name "len" p) [e] [] pos) (ai iT m):=iE F1 d t PySem.boot_len k (by decide) (by decide) h
end
section
open PyProof.Rows
section
theorem CM(r:Addr)(n i:Int)(t u v k:Tok):
  Meets (aaQ.«range.__contains__» ⟨[.ref r,.int i k],[]⟩) (λ_ R s=>s.heap.get? r=À {cls:=.type "range",dict:=Å,data:=.fields #[.int 0 t,.int n u,.int 1 v],slots:=#[]}/\R (.ok (.ret (.bool (Ż 0 n 1 i).isSome))) s):=
 .of_wp λprog w A R s h=>by
  obtain⟨J,g,d,I,D⟩:=s;obtain⟨F,h⟩:=h
  wp_walk
  exact⟨_,rfl,h⟩
theorem Ra{r:Addr}{n i:Int}{t u v:Tok}(k:IsRange s.heap r 0 n 1 t u v)(h:Q (.bool (!decide (0<=i/\i<n))) s):à (model prog w) A (compareOp .NotIn (.int i ti) (.ref r)) Q E s:=by
 have d:s.TypeIs (.ref r) "range":=⟨_,k,rfl⟩;have e:(Ż 0 n 1 i).isSome=decide (0<=i/\i<n):=by unfold Ż;simp only[show(1:Int) > 0 by decide,if_true,Int.sub_zero,Int.emod_one];by_cases D:0<=i<;>by_cases I:i<n<;>simp[D,I]
 rw[<- e]at h;show à _ _ (do return .bool (!(<- contains (.ref r) (.int i ti)))) Q E s;refine Ã ?_;unfold contains
 try with_reducible refine ĭ ?_
 refine Ã (aaa d aaI.lookup ?_);show à _ _ (if (À (Value.builtin "range.__contains__")==À Value.none)=Ä then _ else _) _ E s;rw[Β (by rw[beq_builtin_none];exact ï)]
 refine Ã (wpAny_callSpecialUnlessNone?_slot (name:=į "__contains__") d aaI
  (call_meets aaI d F.entry_range_contains (F.args_range_contains_2 _ _) (CM r n i t u v ti) ⟨k,?_⟩))
 exact Ģ (Ó h)
end
section
variable{a b:Expr}{p q:Pos}{ma:Y2}{mb:DS->M X2}
def MH:D->X2->M D
 |.int i,[.int n]=>M.ret (.bl (!decide (0<=i/\i<n)))
 |_,_=>M.stop
def Rb(d:Y2)(k:DS->M X2):Y2:=λτ=>(d τ).bind λx=>(k τ).bind λys=>MH x ys
def W8(F:TE)(t:TA):TE:=λd H Q=>F d H λx D=>t d D λvs k=>∃i n,x=.int i/\vs=[.int n]/\Q (.bl (!decide (0<=i/\i<n))) k
theorem Rc{J:TE}{F:TA}(R:Gl X "range")(Z:X.mg "range"=Å)(Y:PE X a J)(O:PA X [b] F)(U:ä [b] X.env=[(Â,eval b X.env)]:=by rfl):
  PT X (.Compare a [.NotIn] [.Call (.Name "range" p) [b] [] q] pos) (Nt (W8 J F)):=by
 kt_k;refine ab4 (d7 (Y pins s σ H _ I h) λv T zz=>?_) (by rfl);obtain⟨x,H1,D,S,L⟩:=zz;refine Call_ (gT D R Z boot_range (ì (d7 (O q pins T σ H1 _ D L) λus s2 zz=>?_) U rfl));obtain⟨vs,M,V,r2,d⟩:=zz;obtain⟨i,n,rfl,rfl,k,e,d⟩:=d;k_ne;obtain⟨ti,rfl⟩:=S;cases r2 with
 |cons r rr=>cases rr;obtain⟨t,rfl⟩:=r;refine call_range_1 (Ra (ac5 ..) (Ģ ⟨M,?_,d⟩));exact V.kept λb o e=>Ï _ e
theorem Rf(U:X.mg "range"=Å)(R:Gl X "range")(T:QE X EE a ma)(O:QA X EE [b] mb)(h:av [b]=Ä:=by rfl):
  QT X EE (.Compare a [.NotIn] [.Call (.Name "range" p) [b] [] q] pos) (b8 (Rb ma mb)):=by
 have h':bQ b=Ä:=by simpa[av]using h
 refine PT.mono (Rc R U T O (by rw[bu h' _ _];rfl)) λZ H Q h=>?_;obtain⟨τ,ρ,G,ab,ok⟩:=kJ (k:=λτ x=>(mb τ).bind λys=>MH x ys) (Dv h);right;cases e:ma τ G with
 |stuck=>left
 |bR c G'=>left
 |ok d G'=>
  k_is;refine⟨τ2,ρ2,G2,cz,?_⟩;dsimp only[M.bind]at aS;cases e2:mb τ2 G2 with
  |stuck=>rw[e2]at aS;exact aS
  |bR c G'=>rw[e2]at aS;exact aS
  |ok d3 Y=>
   rw[e2]at aS;intro V J D F S L;have MJ:=aS.fut F;have t:=r2.mono F;cases d2<;>try exact MJ.elim
   rename_i i
   match d3,MJ with
   |[],MJ=>exact MJ.elim
   |d::_::_,MJ=>cases d<;>exact MJ.elim
   |[d],MJ=>
    cases d<;>try exact MJ.elim
    rename_i n;obtain⟨x,rfl,I⟩:=fJ L;unfold Rep at I t;subst I t;exact⟨i,n,rfl,rfl,MJ _ J D .refl S (by unfold Rep;rfl)⟩
end
section
variable{st:Stmt}
theorem uy.Z4(X:aa9 (K.filter λp=>CJ p.2) h)(G:h.Ns mainGlobals mg){f cA T:Addr}{S D U:Option Addr}{M I V:Array (Option Æ)}{k kV L t J v0:Æ}{R:String}{tk:Tok}{vs:Array Æ}{d:List Æ}{F:Nat}(a:Ũ K mainGlobals x=À (À (.ref f)))
  (l0:K.lookup f=À ⟨k,S,.func (ć x x (dO st) (bZ st) (aD st) (.ref T) kV L t D (.ref cA) J),M⟩) (Y:K.lookup cA=À ⟨.type R,U,.fields vs,I⟩) (hv:vs.toList=v0::.str x tk::d) (lt:K.lookup T=À ⟨.type "tuple",Å,.seq #[.none] F,V⟩):
  uy (K.filter λp=>CJ p.2) mg x n N st:=by
 have O:=jk Az l0;have Z:=jk (show CJ ⟨.type R,U,.fields vs,I⟩=Ä from rfl) Y;refine⟨f,_,⟨⟨k,S,kV,L,t,D,.ref cA,J,M,T,_,F,rfl,O,?_,jk rfl lt,rfl⟩,?_⟩,adk X G (qK a)⟩
 ·unfold Ő;k_go;rw[Z];k_go;rw[hv];simp
 ·unfold ď;k_go;rw[O]
end
end
section
variable{a b:Expr}{ma mb m:Y2}
def uB:X2->M D
 |[d]=>λG=>match cy G d with
  |some (_,xs)=>match intsOf xs with
   |some bs=>.ok (.int bs.sum) G
   |none=>.stuck
  |_=>.stuck
 |_=>M.stop
theorem F2(U:X.calm=Ä):fF X (.builtin "sum") (EW X EE uB):=by
 intro pins s σ0 H xs us Q I r zu;obtain⟨σ,τ,ρ,G,ds,ab,Y,ok⟩:=zu
 match ds,ok with
 |[],ok=>rfl'
 |_::_::_,ok=>rfl'
 |[d],ok=>
  obtain⟨x,rfl,rx⟩:=fJ Y;obtain⟨u,rfl,ru⟩:=vals1 r;dsimp only[uB]at ok;cases q:cy G d with
  |none=>ac_nf;rfl'
  |some sk=>
   ac_nf;obtain⟨t,zs⟩:=sk;nofun;cases qb:intsOf zs with
   |none=>rw[qb]at ok;rfl'
   |some bs=>
    rw[qb]at ok;obtain⟨p,vs,rfl,Z,V⟩:=um (pins:=pins) (σ0:=σ0) (s:=s) ab.hp rx q;cases ru;obtain⟨k,vv,O⟩:=I.Cr Z;obtain⟨J,D⟩:=tT V vv qb;have F:p<s.heap.objs.size:=O.lt;refine jA I.os.2 (call_sum_walkG (IM O ?_));cases t with
    |false=>
     have M:s.heap.IsList p k.toArray:=O
     refine⟨s.heap.objs.size,[s.heap.objs.size,p],[s.heap.objs.size],k.toArray.size,_,_,λi=>bs.getD i 0,rfl,adj (A:=X.A.in1) (I.ok.hd U) _ p (ã F) _,
      ⟨⟨_,Ø _ rfl,rfl,rfl⟩,M.push _⟩,λb L=>?_,λi v R=>D i v ‹R›,λh' T t' S ht=>?_⟩
     ·show b<(s.heap.push _).objs.size;rw[Ĝ];rcases Þ.mp L with rfl|L
      ·exact Ŏ _
      ·rw[è.mp L];exact aas F
     ·rw[show k.toArray.size=bs.length by simpa using J,preSum_eq bs _ (È _),ŏ];exact⟨.int _,H,I.kept (t':=T) (kO S),⟨_,rfl⟩,ok _ H ρ .refl ab (by unfold Rep;rfl)⟩
    |true=>
     have M:s.heap.IsTuple p k.toArray:=O
     refine⟨s.heap.objs.size,[s.heap.objs.size,p],[s.heap.objs.size],k.toArray.size,_,_,λi=>bs.getD i 0,rfl,Walks.tuple (A:=X.A.in1) (I.ok.hd U) _ p (ã F) _,
      ⟨⟨_,Ø _ rfl,rfl,rfl⟩,M.at λo q=>Ï _ q⟩,λb L=>?_,λi v R=>D i v ‹R›,λh' T t' S ht=>?_⟩
     ·show b<(s.heap.push _).objs.size;rw[Ĝ];rcases Þ.mp L with rfl|L
      ·exact Ŏ _
      ·rw[è.mp L];exact aas F
     ·rw[show k.toArray.size=bs.length by simpa using J,preSum_eq bs _ (È _),ŏ];exact⟨.int _,H,I.kept (t':=T) (kO S),⟨_,rfl⟩,ok _ H ρ .refl ab (by unfold Rep;rfl)⟩
theorem MK{p:Pos}{ml:DS->M X2}(d:X.calm=Ä)(D:X.mg "sum"=Å)(t:Gl X "sum")(k:QA X EE [e] ml)(h:av [e]=Ä:=by rfl):QE X EE (.Call (.Name "sum" p) [e] [] pos) (ai uB ml):=iE (F2 d) D t PyProof.Rows.boot_sum k (by decide) (by decide) h
def ML(i j l:Nat):jV:=λd τ=>match d with
 |.tup [x,y,z]=>À (((τ.set i (À x)).set j (À y)).set l (À z))
 |_=>Å
theorem F3{z:Str}{l:Nat}{px S U:Pos}{k:Nat}(R:X.calm=Ä)(L:X.N.Nodup)(hx:Loc X.env.scope x)(Y:Loc X.env.scope y)(hz:Loc X.env.scope z)(J:X.fn x=Ä\/X.env.scope.names.lookup x=À .local)(WJ:X.fn y=Ä\/X.env.scope.names.lookup y=À .local)(Z:X.fn z=Ä\/X.env.scope.names.lookup z=À .local)(hi:X.N[i]?=À x:=by rfl)(T:X.N[j]?=À y:=by rfl)(hl:X.N[l]?=À z:=by rfl):
  QG X (.Tuple [.Name x px,.Name y S,.Name z U] k pos) (ML i j l):=by
 intro pins s σ H v u Q I r zu;obtain⟨τ,ρ,G,d,τ',ab,O,e,q⟩:=zu;refine GD (n:=3) R (lV (mT L hi hx J) (lV (mT L T Y WJ) (lV (mT L hl hz Z) Dm))) rfl rfl pins s σ H v u Q I r ?_;cases d<;>try (cases e;done)
 rename_i ds
 match ds,e with
 |[d1,d2,d3],e=>k_ne;unfold Rep at O;obtain⟨a,vs,rfl,sq,t⟩:=O;unfold aq at t;obtain⟨M,vs',rfl,r1,t⟩:=t;obtain⟨F,D,rfl,r2,V⟩:=Dy t;exact⟨a,[M,F,D],rfl,sq,rfl,M,[F,D],rfl,F,[D],rfl,D,[],rfl,rfl,q _ (Ab.set (Ab.set (Ab.set ab r1) r2) V)⟩
theorem Js{g:rH}{k:Nat}{B:P3}{V:List (Option Str)}{z:Str}{l q:Nat}(c:Cf X EE g k B sc V W)(s:Cs X scope N)(h:(decide (W[i]?=À (À x))&&(decide (W[j]?=À (À y))&&decide (W[l]?=À (À z))))=Ä):QG X (.Tuple [.Name x px,.Name y py,.Name z pz] q pos) (ML i j l):=by obtain⟨L,h⟩:=c9 h;obtain⟨D,T⟩:=c9 h;obtain⟨I,R,t⟩:=c.NP L;obtain⟨O,M,J⟩:=c.NP D;obtain⟨S,F,d⟩:=c.NP T;exact F3 c.hc s.nd R M F t J d I O S
end
section
theorem F4{k:Int}{y:V}{Q:VK}(I:Inv X pins σ H s)(D:H l=À (.lst xs))(hz:xs.length<Ç)(hk:0<=k)(O:k<1000)(rv:Vals [.int k,y] us)
  (q:Q .bw (upd H l (.lst (xs.take k.toNat++y::xs.drop k.toNat)))):à (model X.prog X.w) X.A (call (.builtin "list.insert") (.ref l::us)) (λu M=>∃v H',Inv X pins σ H' M/\RelV v u/\Q v H') X.xe s:=by
 cases rv with
 |cons r1 rr=>
 obtain⟨J,rfl,Z⟩:=vals1 rr;obtain⟨t,rfl⟩:=r1;obtain⟨z,d,n,r,hl,e⟩:=I.GQ D;have Y:-(2^63)<=k:=∅
 have U:k<2^63:=∅
 have h3:¬ (!Builtin.List.listFitsIndex k)=Ä:=by rw[fitsIndex_both Y U];exact ï
 have S:d.toArray.size<=Ç:=by rw[ß];lia
 refine call_meets F.slot_list_insert ⟨_,e,rfl⟩ F.entry_list_insert (F.args_list_insert_3 _ _ _) (@AutoListH.list_insert_list_int_val_1 l d.toArray n k t J h3 S) ⟨e,?_⟩;have T:d.take (min k.toNat d.length)=d.take k.toNat:=by
  rcases Nat.le_total k.toNat d.length with h|h
  ·rw[ade h]
  ·rw[ac2 h,ŏ,Ĕ h]
 have hd:d.drop (min k.toNat d.length)=d.drop k.toNat:=by
  rcases Nat.le_total k.toNat d.length with h|h
  ·rw[ade h]
  ·rw[ac2 h,List.drop_length,Ĳ h]
 refine⟨.bw,_,I.Lb (its':=d.take k.toNat++J::d.drop k.toNat) D e ?_ ((r.take _).append (.cons Z (r.drop _))) ?_,rfl,q⟩
 ·apply Array.ext';have R:d.toArray.size=d.length:=by simp
  have L:(if k<0 then (k+d.length).toNat else min k.toNat d.length)=min k.toNat d.length:=Β ∅;simp only[R,L];rw[<- T,<- hd];simp;rw[Ĕ (by rw[ō];exact È _)]
 ·have:=List.length_take_le k.toNat xs;simp;lia
def pV:D->X2->M D
 |.obj n,[.int k,v]=>λG=>match G[n]? with
  |some (.lst xs)=>if 0<=k/\k<1000/\xs.length<Ç then .ok .bw (G.set n (.lst (xs.take k.toNat++v::xs.drop k.toNat))) else .stuck
  |_=>.stuck
 |_,_=>M.stop
theorem CN:Kw X "list.insert" (P4 X EE pV):=by
 intro pins s σ0 H x xs v us Q I V U zu;obtain⟨σ,τ,ρ,G,d,ds,ab,O,D,ok⟩:=zu;cases d<;>try exact ok.elim
 rename_i n
 match ds,ok with
 |[],ok=>rfl'
 |[y],ok=>cases y<;>exact ok.elim
 |y::_::_::_,ok=>cases y<;>exact ok.elim
 |[y,z],ok=>
  cases y<;>try exact ok.elim
  rename_i k;unfold aq at D;obtain⟨kv,S,rfl,J,D⟩:=D;obtain⟨Z,rfl,T⟩:=fJ D;unfold Rep at J;subst J;unfold Rep at O;obtain⟨p,rfl,M⟩:=O;dsimp only[pV]at ok;cases g:G[n]? with
  |none=>kd_p;rfl'
  |some o=>
   cases o with
   |lst zs=>
    kd_p;nofun;obtain⟨Y,vs,R,L,F⟩:=ab.hp.lst g;rw[M]at R;cases R;by_cases t:0<=k/\k<1000/\zs.length<Ç
    ·rw[Α t]at ok;cases V;exact F4 I L (by rw[<- F.length];exact t.2.2) t.1 t.2.1 U (yo (xs:=zs) ab M L ((F.take _).append (.cons T (F.drop _))) (λ_ _=>by unfold Rep;rfl) ok)
    ·rw[Β t]at ok;rfl'
   |_=>kd_p;rfl'
section
variable{o e2:Expr}{apos:Pos}
theorem F5(D:QE X EE o mo)(k:QA X EE [e,e2] m)(t:n8 o=Ä:=by rfl)(h:av [e,e2]=Ä:=by rfl)(d:(apos.endLine==cpos.line)=Ä:=by rfl):QE X EE (.Call (.Attribute o "insert" apos) [e,e2] [] cpos) (bz "list" pV mo m):=by
 have h':bQ e=Ä/\av [e2]=Ä:=by simpa[av]using h
 exact Dz aag PySem.F.slot_list_insert PySem.F.type_list_insert CN D k (iW t _ _) (tR h (by simp)) d (bu h'.1 _ _) (bK h'.2)
end
end
section
variable{a b:Expr}{ma mb:Y2}
abbrev wZ:=aO (λi j=>decide (0<=j)&&decide ((acu i:Int)*j<=2^27)) λi j=>.int (i^j.toNat)
theorem MN:jB X (binaryOp .Pow) (rI (λi j=>0<=j/\(acu i:Int)*j<=2^27) λi j=>.int (i^j.toNat)):=SR λ_ _ _ _ _ _ _ d q=>PyProof.Rows.pow_int d.1 d.2 q
theorem MO(d:QE X EE a ma)(k:QE X EE b mb):QE X EE (.BinOp a .Pow b pos) (aj wZ ma mb):=rj MN (pq (λi j h=>by simpa using h) λ_ _ _ _=>by unfold Rep;rfl) d k
end
section
variable{g:rH}{k:Nat}{B:P3}{st:Stmt}
theorem F6(M:uy g.K g.mg x n N st)(V:lg g.mg B)(S:iU N (N.take n) (aD st))(L:(N.take n).length=n)(O:N.length=nn)
  (R:∀(T:Addr)(kV D F:Æ)(I:Option Addr)(d J:Æ)(t:List Æ),t.length=(N.take n).length->∃k:Option (Array Æ)->Sem (List (Str×Æ)),bindArgs (ć x x (dO st) (bZ st) (aD st) (.ref T) kV D F I d J) ⟨t,[]⟩=seqItems? (.ref T) >>= k/\k (À #[.none])=pure ((N.take n).zip t))
  (U:∀(T:Addr)(kV D F:Æ)(I:Option Addr)(d J:Æ)(t:List Æ),t.length+1=(N.take n).length->∃k:Option (Array Æ)->Sem (List (Str×Æ)),bindArgs (ć x x (dO st) (bZ st) (aD st) (.ref T) kV D F I d J) ⟨t,[]⟩=seqItems? (.ref T) >>= k/\k (À #[.none])=pure ((N.take n).zip (t++[.none])))
  (body:∀(X:Cx)(EE:bV),Cf X EE g k B (aD st) (FN (aD st) N) (I8 Ä (aD st) N)->Cs X (aD st) N->pg X EE (bZ st) ms):gg g x (k+1) n (λds=>cg nn ms ds):=(Jo M V S L O R U body).1
end
theorem Z6(n:Nat)(h:∀d:List Æ,d.length=n->p d):∀d:List Æ,d.length+1=n+1->p d:=λd e=>h d (Nat.succ.inj e)
theorem vL(h:∀D k I t J F,p [D,k,I,t,J,F]):∀d:List Æ,d.length=6->p d:=λd e=>by rcases d with _|⟨D,_|⟨k,_|⟨I,_|⟨t,_|⟨J,_|⟨F,_|⟨z,L⟩⟩⟩⟩⟩⟩⟩<;>first|exact h D k I t J F|(cases e;done)
section
variable{g:rH}{k:Nat}{st:Stmt}
theorem Jt(D:yF g.K g.mg x n N st)(I:yG st x (N.take n)):gg g x k n (λ_=>M.stop):=by obtain⟨f,d,F,t⟩:=D;exact⟨f,d,_,Mv,t,F.kp,F.binds I⟩
end
section
variable{g:rH}{k:Nat}{B:P3}{V:List (Option Str)}{p:Pos}
theorem Ju(c:Cf X EE g k B sc V W)(C:gg g x k n mf)(h:(uq sc x .globalImplicit&&(Mz x&&av (e::es)))=Ä)(D:QA X EE (e::es) m):QE X EE (.Call (.Name x p) (e::es) [] pos) (aC n mf m):=by obtain⟨t,h⟩:=c9 h;obtain⟨M,O⟩:=c9 h;obtain⟨f,R,S,I,F,d,J,L⟩:=C.at c (È _);exact DI I F d J L (P9 c.hx) (c.gl x t) (wQ M) D O
end
section
variable{g:rH}{k:Nat}{st:Stmt}
theorem pW{MM:Nat->X2->M D}{F:(X2->M D)->X2->M D}(d:yF g.K g.mg x n N st)(I:yG st x (N.take n))(J:MM 0=λ_=>M.stop)(es:∀i,MM (i+1)=F (MM i))
  (t:∀i,gg g x (i+k) n (MM i)->gg g x (i+k+1) n (F (MM i))):∀j,gg g x (j+k) n (MM j)
 |0=>by rw[J];exact Jt d I
 |j+1=>by rw[es,show j+1+k=j+k+1 by lia];exact t j (pW d I J es t j)
end
section
variable{g:rH}{B:P3}{Vs:List (Option Str)}{a:Expr}{ma:Y2}{rV:List (Str×Bool)}
structure Cw(X:Cx)(sc:Scope)(N:P3):Prop where
 nd:X.N.Nodup
 hs:X.env.scope=sc
 hN:X.N=N
theorem F7{m:MS}(c:Ck X g B sc N Vs)(C:FT g x rV)(h:(uq sc x .globalImplicit&&Mz x)=Ä)
  (t:∀(X:Cx),Ch X g B sc Vs->Cw X sc N->pg X X5 (b0::suite) m) (D:QH X EE rest mr):QH X EE (.ExceptHandler (À (.Name x np)) Å (b0::suite) pos::rest) (tM (λn=>rV.lookup n) m mr):=by
 obtain⟨F,d,k⟩:=C;exact LH (by rw[c.h.eq.2];exact d) (by rw[c.h.eq.1,c.h.eq.2];exact k) (c.h.gl x (c9 h).1) (wQ (c9 h).2).1 (λe=>t _ ⟨c.h.eq,c.h.vis,c.h.gl,c.h.bl⟩ ⟨c.nd,c.hs,c.hN⟩) D
theorem MP(w:Cw X sc N)(h:(decide (N[i]?=À x)&&(uq sc x .local&&l9 a))=Ä)(k:QE X EE a ma):QS X EE (.Assign [.Name x px] a pos) (aA i ma):=by
 obtain⟨t,h⟩:=c9 h;obtain⟨D,F⟩:=c9 h;have d:X.env.scope.names.lookup x=À .local:=by rw[w.hs];exact nN D
 exact HQ w.nd (.inl d) k (.inr d) (by rw[w.hN];exact of_decide_eq_true t) F
end
section
variable{A B R:DH}{e ma mb mc:Y2}{d:D}{c:XD}{ml:DS->M X2}{xs ys:X2}{m:X2->M D}
@[simp]def kB:ou τ G=.ok (.obj G.length) (G++[.aU Â []]):=î rfl rfl
@[simp]def ng:iS ma mb τ G=(ma τ G).bd λd=>(mb τ).bind λk=>nD d k:=aI
@[simp]def Jv:mE ma mb τ G=(ma τ (G++[.aU Â []])).bd λk=>(mb τ).bind λv=>(gA v (.obj G.length) k).bind λ_=>M.ret (.obj G.length):=by unfold mE;rw[aI]
@[simp]def uC:jO ma mb mc τ G=((ma τ G).bd λv=>(mb τ).bind λo=>(mc τ).bind λi=>gA v o i).xp τ:=by unfold jO bC Out.xp;rw[aI];cases ((ma τ G).bd λv=>(mb τ).bind λo=>(mc τ).bind λi=>gA v o i)<;>rfl
@[simp]def Jw:IV e τ G=(e τ G).bd λd G=>match d with
 |.obj n=>match G[n]? with
  |some (.aU _ kvs)=>.ok (kvs.length+1,CA kvs) (G.set n (.aU Ä kvs))
  |_=>.stuck
 |_=>.stuck:=aI
@[simp]def MQ:Aq ml τ G=(ml τ G).bd λds=>match ds with
 |[d,e]=>λG=>match cy G d,cy G e with
  |some (_,xs),À (_,ys)=>.ok (min xs.length ys.length+1,nM d e) G
  |_,_=>.stuck
 |_=>M.stop:=aI
theorem DX{body:MS}:lU g body (CA kvs) (kvs.length+1) 0 τ G=aT g body (kvs.map λk=>.tup (k.1.map Cv)) τ G:=by
 have:=iF (g:=g) (body:=body) (xs:=kvs.map λk=>D.tup (k.1.map Cv)) (vw:=CA kvs) (λG i h=>by simp only[Ú]at h;simp only[CA,Α h,Ö]) (kvs.length+1) 0 τ G (by simp) (by simp)
 z_go
theorem w4{body:MS}:lU g body (jj xs) (xs.length+1) 0 τ G=aT g body (xs.mapIdx λi x=>.tup [.int i,x]) τ G:=by
 have:=iF (g:=g) (body:=body) (xs:=xs.mapIdx λi x=>D.tup [.int i,x]) (vw:=jj xs) (λG i h=>by simp only[abp]at h;simp only[jj,Α h,Ĉ]) (xs.length+1) 0 τ G (by simp) (by simp)
 z_go
theorem F8:mj gO ks tt te n (nM (.tup xs) (.tup ys)) (min xs.length ys.length+1) 0 τ G=cC gO ks tt te n (ð (λx y=>.tup [x,y]) xs ys) τ G:=by
 have:=qH (n:=n) (gO:=gO) (ks:=ks) (tt:=tt) (te:=te) (xs:=ð (λx y=>D.tup [x,y]) xs ys) (vw:=nM (.tup xs) (.tup ys)) (λG i h=>by simp only[nM,cy,ak,acd];cases xs[i]?<;>cases ys[i]?<;>rfl) (min xs.length ys.length+1) 0 τ G (by simp) (by simp)
 z_go
@[simp]def Rg:Rb ma ml τ G=(ma τ G).bd λx=>(ml τ).bind λys=>MH x ys:=aI
theorem Jx{body:MS}:lU g body (nM (.tup xs) (.con ys)) (min xs.length ys.length+1) 0 τ G=aT g body (ð (λx y=>.tup [x,y]) xs ys) τ G:=by
 have:=iF (g:=g) (body:=body) (xs:=ð (λx y=>D.tup [x,y]) xs ys) (vw:=nM (.tup xs) (.con ys)) (λG i h=>by simp only[nM,cy,ak,acd];cases xs[i]?<;>cases ys[i]?<;>rfl) (min xs.length ys.length+1) 0 τ G (by simp) (by simp)
 z_go
end
end
end L3
namespace K24
noncomputable section
open PySem PySem.Spec L2 L3
def top(i:Nat):Stmt:=PySem.Challenge.pw_pathshape_k24_whole_names_by_all_choices.main.body.getD i (.Pass ⟨0,0,0,0⟩)
abbrev yJ:Stmt:=top 4
abbrev uD:Stmt:=top 6
abbrev uE:Stmt:=top 7
abbrev yK:Stmt:=top 9
abbrev yL:Stmt:=top 10
abbrev AD:Stmt:=top 11
abbrev CO:Stmt:=top 12
abbrev MR:Stmt:=top 13
abbrev AE:Stmt:=top 14
abbrev CP:Stmt:=top 15
abbrev CQ:Stmt:=top 17
abbrev UC:Stmt:=top 18
abbrev w6:Stmt:=top 19
abbrev pX:Stmt:=top 20
abbrev uF:Stmt:=top 21
abbrev yM:Stmt:=top 23
abbrev AF:Stmt:=top 24
abbrev AG:Stmt:=top 25
abbrev yN:Stmt:=top 26
abbrev yO:Stmt:=top 27
abbrev yQ:Stmt:=top 28
abbrev vM:Stmt:=top 29
abbrev yS:Stmt:=top 30
abbrev AH:Stmt:=top 31
abbrev AI:Stmt:=top 32
abbrev CS:Stmt:=top 33
abbrev se:Stmt:=top 34
abbrev AJ:Stmt:=top 35
abbrev sj:Stmt:=top 36
abbrev vN:Stmt:=top 37
abbrev vO:Stmt:=top 38
abbrev NQ:Stmt:=top 39
abbrev uG:P3:=["placed"]
def jl:MS:=b9 (eFn (gY (oT 2) [Ä] (fG (af (aj az (aj az (aa 0) (eC (.int 1))) (eC (.int 1))) (ah))) (bM) (ai aZ (af (aj ay (aj az (aa 2) (eC (.int 0))) (ai aZ (af (aa 0) (ah)))) (af (aa 1) (ah))))))
def cJ(ds:X2):M D:=dm (λds=>cg 1 jl ds) ds
abbrev AK:P3:=["rule"]
def mF:MS:=b9 (ai fZ (af (eFn (dD oN [] (aj az (aa 0) (eC (.int 3))) (bM) (eC (.int 0)))) (ah)))
def iG(ds:X2):M D:=dm (λds=>cg 1 mF ds) ds
abbrev MT:P3:=["rule","counts","k","low","high","most"]
def uH:MS:=au (aA 5 (Ht (b8 (aj (eV Â) (aa 4) (eC .bw))) (aa 3) (aa 4))) (b9 (aj ay (aj ay (eFn (jK (aa 1) (cM) (bq (aa 2)))) (ai aZ (af (ai (eW λi j=>if j<i then j else i) (af (aj ay (aj az (aa 1) (aa 2)) (eC (.int 1))) (af (aa 5) (ah)))) (ah)))) (eFn (jK (aa 1) (bq (aj ay (aa 2) (eC (.int 1)))) (cM)))))
def yT:MS:=au (aA 3 (aj az (aj az (aj az (aa 0) (eC (.int 3))) (aa 2)) (eC (.int 1)))) (au (aA 4 (aj az (aj az (aj az (aa 0) (eC (.int 3))) (aa 2)) (eC (.int 2)))) (au (jb (b8 (aj (e8 Â) (aj az (aa 0) (eC (.int 2))) (eC (.str "mix")))) (uH) (bD)) (au (aA 5 (Ht (b8 (aj (eV Â) (aa 4) (eC .bw))) (ai (eW λi j=>if j > i then j else i) (af (aa 3) (af (eC (.int 1)) (ah)))) (aa 4))) (b9 (aj ay (aj ay (ai fZ (af (eFn (dD oN [] (eFn (jK (aj az (aa 0) (eC (.int 3))) (cM) (bq (aa 2)))) (bM) (aj az (aa 0) (eC (.int 1))))) (ah))) (ai aZ (af (ai (eW λi j=>if j<i then j else i) (af (aj ay (aj az (aa 1) (aa 2)) (eC (.int 1))) (af (aa 5) (ah)))) (ah)))) (eFn (jK (aa 1) (bq (aj ay (aa 2) (eC (.int 1)))) (cM))))))))
def sL(ds:X2):M D:=dm (λds=>cg 6 yT ds) ds
abbrev AL:P3:=["items","counts"]
def mG:MS:=b9 (ai (tK Â) (af (eFn (gY (oT 2) [] (Aq (af (aa 0) (af (aa 1) (ah)))) (bM) (aj Pj (aa 1) (aj az (aa 0) (eC (.int 1)))))) (ah)))
def gh(ds:X2):M D:=dm (λds=>cg 2 mG ds) ds
abbrev CU:P3:=["items","layers","counts","names","layer","came"]
def gi:MS:=au (aA 5 (iS (aa 4) (aa 2))) (au (eL (bz "list" aP (aa 3) (af (aj az (aj az (aa 0) (aj az (aa 5) (eC (.int 1)))) (eC (.int 0))) (ah)))) (aA 2 (aj az (aa 5) (eC (.int 0)))))
def oz:MS:=au (aA 3 (ai aN (ah))) (au (jf (gN 4) (IB (af (r8 (jK (aa 1) (bq (eC (.int 1))) (cM))) (ah))) gi) (b9 (eFn (ai pF (af (aa 3) (ah))))))
def g7(ds:X2):M D:=dm (λds=>cg 6 oz ds) ds
abbrev AM:P3:=["_law_state_here","_law_at","_law_number"]
def jF:MS:=au (aA 1 (aj az (aa 0) (eC (.int 1)))) (au (gU (aj ay (aa 1) (eC (.int 1))) (aa 0) (eC (.int 1))) (au (jb (b8 (aj Ll (aa 1) (ai aL (af (aj az (aa 0) (eC (.int 0))) (ah))))) (b9 (aj az (aj az (aa 0) (eC (.int 0))) (aa 1))) (bD)) (au (aA 2 (aj aR (aj ES (aj ay (aj az (aj az (aa 0) (eC (.int 0))) (aj aR (aa 1) (ai aL (af (aj az (aa 0) (eC (.int 0))) (ah))))) (aj ES (eC (.int 7919)) (aa 1))) (eC (.int 48271))) (eC (.int 2147483647)))) (au (aA 2 (aj aR (aj ES (aa 2) (aa 2)) (eC (.int 2147483629)))) (b9 (aj aR (aj ES (aa 2) (aj ay (aa 2) (aj ES (eC (.int 16807)) (aa 1)))) (eC (.int 1000000007))))))))
def ao(ds:X2):M D:=cg 3 jF ds
abbrev yU:P3:=["_law_cell","_law_many","_law_letters","_law_core","_law_here"]
def iY:MS:=au (aA 2 (eC (.str "abcdefghijklmnopqrstuvwxyz"))) (au (aA 3 (bz "str" rC (eC (.str "")) (af (eFn (cT e7 oN [Ä,Â,Ä] (af (aj aR (aa 0) (eC (.int 6))) (ah)) (bM) (aj az (aa 3) (aj aR (aj bI (aa 1) (aj ay (aa 0) (eC (.int 2)))) (eC (.int 26)))))) (ah)))) (au (aA 4 (aj aR (aj bI (aa 0) (eC (.int 6))) (aj ay (ai aL (af (aa 3) (ah))) (eC (.int 1))))) (b9 (eFn (cT e7 oN [Ä,Â,Ä,Ä,Ä] (af (aa 1) (ah)) (bM) (aj ay (aj ay (aj ay (eFn (jK (aa 4) (cM) (bq (aa 5)))) (aj az (aa 3) (aj aR (aj ay (aj bI (aa 1) (eC (.int 42))) (aa 0)) (eC (.int 26))))) (eC (.str "q"))) (eFn (jK (aa 4) (bq (aa 5)) (cM)))))))))
def fD(ds:X2):M D:=dm (λds=>cg 5 iY ds) ds
abbrev CV:P3:=["_law_rule","_law_names_here","_law_left","_law_name","_law_low","_law_high","_law_count"]
def cj:MS:=au (aA 6 (ai aL (af (eFn (dD oN [Â,Â,Â,Ä] (aa 1) (b8 (aj (e8 Â) (aa 0) (aa 4))) (aa 0))) (ah)))) (au (jb (rZ (b8 (aj Ll (aa 6) (aa 4))) (eG (b8 (aj (eV Ä) (aa 5) (eC .bw))) (b8 (aj kK (aa 6) (aa 5))))) (b9 (eC (.bl Â))) (bD)) (au (jb (eG (b8 (aj (e8 Â) (aj az (aa 0) (eC (.int 2))) (eC (.str "row")))) (b8 (aj (e8 Ä) (eFn (jK (aa 2) (cM) (bq (aa 6)))) (UA (r8 (aj lO (ai aN (af (aa 3) (ah))) (aa 6))))))) (b9 (eC (.bl Â))) (bD)) (jb (b8 (aj (e8 Â) (aj az (aa 0) (eC (.int 2))) (eC (.str "row")))) (aA 2 (eFn (jK (aa 2) (bq (aa 6)) (cM)))) (aA 2 (eFn (dD oN [Â,Â,Â,Ä] (aa 2) (b8 (aj (e8 Ä) (aa 0) (aa 4))) (aa 0)))))))
def oA:MS:=au (aA 2 (eFn (ai qF (af (aa 1) (ah))))) (au (e9 (ML 3 4 5) (aj az (aa 0) (eC (.int 3))) cj) (b9 (aj (e8 Â) (aa 2) (eFn (ai aN (ah))))))
def eB(ds:X2):M D:=dm (λds=>cg 7 oA ds) ds
abbrev sr:P3:=["_law_choices","_law_rows","_law_some","_law_longer","_law_row","_law_name"]
def dR:MS:=eL (bz "list" aP (aa 3) (af (eFn (aj ay (aa 4) (eFn (ai aN (af (aa 5) (ah)))))) (ah)))
def dS:MS:=e9 (gN 5) (aa 2) dR
def dU:MS:=au (aA 3 (ai aN (ah))) (au (e9 (gN 4) (aa 1) dS) (aA 1 (r8 (aa 3))))
def iN:MS:=au (aA 1 (eFn (ai aN (af (eFn (ai aN (ah))) (ah))))) (au (e9 (gN 2) (aa 0) dU) (b9 (aa 1)))
def fW(ds:X2):M D:=dm (λds=>cg 6 iN ds) ds
abbrev su:P3:=["_law_cells","_law_kinds","_law_sorts","_law_parts","_law_k","_law_above","_law_trees"]
def cW:MS:=aA 5 (aj ay (aa 5) (eC (.int 1)))
def g8:MS:=au (eL (bz "list" aP (aa 2) (af (aj az (aa 1) (aj aR (aj az (aa 0) (aa 4)) (eC (.int 2)))) (ah)))) (au (eL (bz "list" aP (aa 3) (af (ai aN (ah)) (ah)))) (eL (bz "list" aP (aj az (aa 3) (aa 5)) (af (aa 4) (ah)))))
def dW:MS:=au (aA 5 (aj aR (aj bI (aj az (aa 0) (aa 4)) (eC (.int 8))) (aa 4))) (au (dJ (b8 (aj (e8 Â) (ai aL (af (aj az (aa 3) (aa 5)) (ah))) (eC (.int 3)))) cW fuel) (g8))
def cX:MS:=gU (ai aZ (af (aj az (aa 2) (aa 4)) (af (ai fZ (af (eFn (dD oN [Â,Â,Â,Â,Â,Â,Ä] (aj az (aa 3) (aa 4)) (bM) (aj az (aa 7) (aa 0)))) (ah))) (ah)))) (aa 6) (aa 4)
def g9:MS:=au (aA 6 (aj lO (ai aN (af (eC .bw) (ah))) (ai aL (af (aa 2) (ah))))) (au (jf (gN 4) (DW (af (ai aL (af (aa 2) (ah))) (ah))) cX) (b9 (aj az (aa 6) (eC (.int 0)))))
def iO:MS:=au (aA 2 (ai aN (af (aj az (aa 1) (aj aR (aj az (aa 0) (eC (.int 0))) (eC (.int 2)))) (ah)))) (au (aA 3 (ai aN (af (ai aN (ah)) (ah)))) (au (iu zR (gN 4) (af (eC (.int 1)) (af (ai aL (af (aa 0) (ah))) (ah))) dW) (g9)))
def eN(ds:X2):M D:=dm (λds=>cg 7 iO ds) ds
def gD:MS:=au (aA 2 (eC (.str "abcdefghijklmnopqrstuvwxyz"))) (au (aA 3 (bz "str" rC (eC (.str "")) (af (eFn (cT e7 oN [Ä,Â,Ä] (af (aj aR (aa 0) (eC (.int 6))) (ah)) (bM) (aj az (aa 3) (aj aR (aj bI (aa 1) (aj ay (aa 0) (eC (.int 2)))) (eC (.int 26)))))) (ah)))) (au (aA 4 (aj aR (aj bI (aa 0) (eC (.int 6))) (aj ay (ai aL (af (aa 3) (ah))) (eC (.int 1))))) (b9 (cT e7 oN [Ä,Â,Ä,Ä,Ä] (af (aa 1) (ah)) (bM) (aj ay (aj ay (aj ay (eFn (jK (aa 4) (cM) (bq (aa 5)))) (aj az (aa 3) (aj aR (aj ay (aj bI (aa 1) (eC (.int 42))) (aa 0)) (eC (.int 26))))) (eC (.str "q"))) (eFn (jK (aa 4) (bq (aa 5)) (cM))))))))
def dh(ds:X2):M D:=kY (λds=>cg 5 gD ds) ds
abbrev yV:P3:=["_law_script","_law_cells","_law_cell","_law_number"]
def cu:MS:=au (eL (bz "list" aP (aa 1) (af (aj aR (aa 3) (aj jd (eC (.int 10)) (eC (.int 6)))) (ah)))) (aA 3 (aj bI (aa 3) (aj jd (eC (.int 10)) (eC (.int 6)))))
def dB:MS:=au (aA 3 (aj aR (aa 2) (aj wZ (aj jd (eC (.int 10)) (eC (.int 60))) (eC (.int 6))))) (au (eL (bz "list" aP (aa 1) (af (aj aR (aa 3) (aj jd (eC (.int 10)) (eC (.int 6)))) (ah)))) (au (aA 3 (aj bI (aa 3) (aj jd (eC (.int 10)) (eC (.int 6))))) (dJ (eG (b8 (aj kK (aa 3) (eC (.int 0)))) (b8 (aj Ll (ai aL (af (aa 1) (ah))) (eC (.int 300))))) cu fuel)))
def fj:MS:=au (aA 1 (ai aN (ah))) (au (jb (eG (b8 (aj kK (ai aL (af (aa 0) (ah))) (eC (.int 0)))) (b8 (aj (e8 Â) (aj aR (aj az (aa 0) (eC (.int 0))) (eC (.int 2))) (eC (.int 1))))) (e9 (gN 2) (eFn (jK (aa 0) (bq (eC (.int 1))) (bq (eC (.int 63))))) dB) (aA 1 (eFn (dD oN [] (eFn (jK (aa 0) (bq (eC (.int 1))) (bq (eC (.int 63))))) (bM) (aj aR (aa 0) (aj jd (eC (.int 10)) (eC (.int 18)))))))) (b9 (ai aN (af (eFn (aj ay (aa 1) (eFn (ai aN (af (aj ay (ai aL (af (aa 0) (ah))) (eC (.int 3))) (ah)))))) (af (eC (.int 0)) (ah))))))
def dX(ds:X2):M D:=kY (λds=>cg 4 fj ds) ds
abbrev yW:P3:=["top","parts_of","found","waiting","one"]
def fL:MS:=au (aA 4 (bz "list" zU (aa 3) ah)) (au (eL (bz "list" aP (aa 2) (af (aa 4) (ah)))) (eL (bz "list" Ah (aa 3) (af (eFn (ai pF (af (oh 1 1 (λy=>Ō y [("placed_parts",cJ)]) (af (aa 4) (ah))) (ah)))) (ah)))))
def lA:MS:=au (aA 2 (ai aN (ah))) (au (aA 3 (ai aN (af (aa 0) (ah)))) (au (dJ (b8 (aj kK (ai aL (af (aa 3) (ah))) (eC (.int 0)))) fL fuel) (b9 (r8 (aa 2)))))
def lB(ds:X2):M D:=dm (λds=>cg 5 lA ds) ds
abbrev CW:P3:=["rule","counts","k","high"]
def oB:MS:=au (aA 3 (aj az (aj az (aj az (aa 0) (eC (.int 3))) (aa 2)) (eC (.int 2)))) (au (jb (eG (b8 (aj (eV Ä) (aa 3) (eC .bw))) (b8 (aj Pj (aj az (aa 1) (aa 2)) (aa 3)))) (b9 (eC (.bl Â))) (bD)) (b9 (Tv (aj (e8 Â) (aj az (aa 0) (eC (.int 2))) (eC (.str "mix"))) (tG (aj (e8 Â) (ai uB (af (eFn (jK (aa 1) (bq (aj ay (aa 2) (eC (.int 1)))) (cM))) (ah))) (eC (.int 0))) (aC 2 gh (af (eFn (jK (aj az (aa 0) (eC (.int 3))) (cM) (bq (aa 2)))) (af (aa 1) (ah))))))))
def lC(ds:X2):M D:=dm (λds=>cg 4 oB ds) ds
abbrev AN:P3:=["_law_state_here","_law_names_here","_law_low","_law_first","_law_cell","_law_some","_law_high"]
def jG:MS:=au (aA 4 (aC 1 ao (af (aa 0) (ah)))) (au (aA 5 (aa 1)) (au (jb (b8 (aj kK (aa 2) (eC (.int 0)))) (aA 5 (aa 3)) (bD)) (au (aA 6 (aj az (eFn (ai aN (af (eC .bw) (af (aa 2) (af (eC (.int 2)) (af (aj ay (aa 2) (aj bI (aj yk (eC (.int 2)) (aa 2)) (eC (.int 2)))) (ah))))))) (aj aR (aj bI (aa 4) (eC (.int 8))) (eC (.int 4))))) (b9 (ai aZ (af (aj az (aa 5) (aj aR (aj bI (aa 4) (eC (.int 64))) (ai aL (af (aa 5) (ah))))) (af (aa 2) (af (aa 6) (ah)))))))))
def gj(ds:X2):M D:=cg 7 jG ds
abbrev vP:P3:=["_law_state_here","_law_rule","_law_fuel","_law_found","_law_name","_law_low","_law_high","_law_more"]
def dY:MS:=au (aA 7 (aj aR (aC 1 ao (af (aa 0) (ah))) (eC (.int 3)))) (jb (b8 (aj (eV Ä) (aa 6) (eC .bw))) (aA 7 (ai (eW λi j=>if j<i then j else i) (af (aa 7) (af (aj yk (aa 6) (aa 5)) (ah))))) (bD))
def fk:MS:=au (aA 7 (eC (.int 0))) (au (jb (b8 (aj kK (aj az (aa 2) (eC (.int 0))) (eC (.int 0)))) (dY) (bD)) (au (eL (bz "list" aP (aa 3) (af (aj ay (aa 5) (aa 7)) (ah)))) (gU (aj yk (aj az (aa 2) (eC (.int 0))) (aa 7)) (aa 2) (eC (.int 0)))))
def jP:MS:=au (aA 3 (ai aN (ah))) (au (e9 (ML 4 5 6) (aj az (aa 1) (eC (.int 3))) fk) (b9 (r8 (aa 3))))
def iz(ds:X2):M D:=cg 8 jP ds
abbrev yX:P3:=["_law_state_here","_law_rule","_law_counts_here","_law_row","_law_item_here","_law_count","_law_k","_law_at"]
def fM:MS:=au (aA 7 (ai aL (af (aa 3) (ah)))) (au (jb (b8 (aj (e8 Â) (aj az (aa 1) (eC (.int 2))) (eC (.str "mix")))) (aA 7 (aj aR (aC 1 ao (af (aa 0) (ah))) (aj ay (ai aL (af (aa 3) (ah))) (eC (.int 1))))) (bD)) (eL (bz "list" pV (aa 3) (af (aa 7) (af (aj az (aa 4) (eC (.int 0))) (ah))))))
def eO:MS:=iu e7 (gN 6) (af (aa 5) (ah)) fM
def lD:MS:=au (aA 3 (ai aN (ah))) (au (jf (gP 4 5) (Aq (af (aj az (aa 1) (eC (.int 3))) (af (aa 2) (ah)))) eO) (b9 (r8 (aa 3))))
def iZ(ds:X2):M D:=cg 8 lD ds
abbrev uI:P3:=["tree"]
def jm:MS:=b9 (aC 2 lB (af (ai aZ (af (ai aZ (ah)) (af (aa 0) (ah)))) (af (eC (.fn "placed_parts")) (ah))))
def gE(ds:X2):M D:=dm (λds=>cg 1 jm ds) ds
abbrev yY:P3:=["rule","layer","names","fitting","found","counts","k"]
def eS:MS:=jb (jJ j0 (aC 3 lC (af (aa 0) (af (aa 5) (af (aa 6) (ah)))))) (jO (ai aZ (af (aa 5) (af (aa 6) (ah)))) (aa 4) (aC 3 sL (af (aa 0) (af (aa 5) (af (aa 6) (ah)))))) (bD)
def fO:MS:=e9 (gN 6) (aa 3) eS
def jQ:MS:=au (aA 4 (ou)) (au (jf (gN 5) (IV (aa 1)) fO) (b9 (aa 4)))
def lE:MS:=au (aA 3 (eFn (gY (oT 2) [Â,Â,Ä] (fG (af (aj az (aa 0) (eC (.int 3))) (ah))) (b8 (aj CF (aj az (aa 1) (eC (.int 0))) (aa 4))) (aa 0)))) (jQ)
def i6(ds:X2):M D:=cg 7 lE ds
abbrev yZ:P3:=["_law_state_here","_law_names_here","_law_first","_law_most","_law_items_here","_law_k","_law_cell","_law_low","_law_item_here"]
def eT:MS:=au (aA 6 (aC 1 ao (af (aa 0) (ah)))) (au (aA 7 (eC (.int 0))) (au (jb (eG (b8 (aj kK (ai aL (af (aa 2) (ah))) (eC (.int 0)))) (b8 (aj (e8 Â) (aj aR (aa 6) (eC (.int 2))) (eC (.int 1))))) (aA 7 (aj ay (eC (.int 1)) (aj aR (aj bI (aa 6) (eC (.int 2))) (eC (.int 2))))) (bD)) (au (aA 8 (aC 4 gj (af (aa 0) (af (aa 1) (af (aa 7) (af (aa 2) (ah))))))) (jb (b8 (aj (tD Ä) (aj az (aa 8) (eC (.int 0))) (eFn (dD oN [] (aa 4) (bM) (aj az (aa 0) (eC (.int 0))))))) (eL (bz "list" aP (aa 4) (af (aa 8) (ah)))) (bD)))))
def lF:MS:=au (aA 4 (ai aN (ah))) (au (iu e7 (gN 5) (af (aj aR (aC 1 ao (af (aa 0) (ah))) (aj ay (aa 3) (eC (.int 1)))) (ah)) eT) (b9 (ai fZ (af (aa 4) (ah)))))
def eE(ds:X2):M D:=cg 9 lF ds
abbrev y9:P3:=["rule","choices","items","layers","names","counts"]
def fP:MS:=eL (bz "list" aP (aa 3) (af (aC 3 i6 (af (aa 0) (af (aj az (aa 3) (zP (eC (.int 1)))) (af (aa 4) (ah))))) (ah)))
def bW:MS:=jb (jJ j0 (aC 2 gh (af (aa 2) (af (aa 5) (ah))))) (b9 (aC 3 g7 (af (aa 2) (af (aa 3) (af (aa 5) (ah)))))) (bD)
def fQ:MS:=au (jf (gN 5) (IV (aj az (aa 3) (zP (eC (.int 1))))) bW) (b9 (eC .bw))
def i7:MS:=au (aA 2 (aj az (aa 0) (eC (.int 3)))) (au (aA 3 (ai aN (af (mE (aC 1 iG (af (aa 0) (ah))) (eC .bw)) (ah)))) (au (e9 (gN 4) (aa 1) fP) (fQ)))
def fE(ds:X2):M D:=dm (λds=>cg 6 i7 ds) ds
abbrev za:P3:=["_law_state_here","_law_names_here","_law_kinds","_law_most","_law_rules","_law_k","_law_name","_law_cell","_law_items_here"]
def dM:MS:=au (aA 7 (aC 1 ao (af (aa 0) (ah)))) (au (aA 8 (aC 4 eE (af (aa 0) (af (aa 1) (af (eFn (jK (aa 1) (bq (aj ay (aa 5) (eC (.int 1)))) (cM))) (af (aa 3) (ah))))))) (eL (bz "list" aP (aa 4) (af (ai aZ (af (aa 6) (af (aj az (aa 2) (aj aR (aa 7) (ai aL (af (aa 2) (ah))))) (af (aj az (eFn (ai aN (af (eC (.str "row")) (af (eC (.str "mix")) (ah))))) (aj aR (aj bI (aa 7) (eC (.int 8))) (eC (.int 2)))) (af (aa 8) (ah)))))) (ah)))))
def fR:MS:=au (aA 7 (aC 1 ao (af (aa 0) (ah)))) (au (aA 8 (aC 4 eE (af (aa 0) (af (aa 1) (af (eFn (jK (aa 1) (cM) (bq (eC (.int 2))))) (af (aa 3) (ah))))))) (au (aA 6 (aj az (aa 1) (aj aR (aj bI (aa 7) (eC (.int 16))) (ai aL (af (aa 1) (ah)))))) (eL (bz "list" aP (aa 4) (af (ai aZ (af (aa 6) (af (aj az (aa 2) (aj aR (aa 7) (ai aL (af (aa 2) (ah))))) (af (aj az (eFn (ai aN (af (eC (.str "row")) (af (eC (.str "mix")) (ah))))) (aj aR (aj bI (aa 7) (eC (.int 8))) (eC (.int 2)))) (af (aa 8) (ah)))))) (ah))))))
def jR:MS:=au (iu e7 (gN 5) (af (aj aR (aC 1 ao (af (aa 0) (ah))) (eC (.int 3))) (ah)) fR) (b9 (ai aZ (af (aj az (aa 1) (eC (.int 0))) (af (ai fZ (af (aa 4) (ah))) (ah)))))
def lG:MS:=au (aA 4 (ai aN (ah))) (au (jf (gP 5 6) (fG (af (aa 1) (ah))) dM) (jR))
def gF(ds:X2):M D:=cg 9 lG ds
abbrev uJ:P3:=["rules","kind","choices","found","number","rule","row"]
def fX:MS:=au (aA 6 (aC 2 fE (af (aa 5) (af (aa 2) (ah))))) (jb (b8 (aj (eV Ä) (aa 6) (eC .bw))) (oX (ai aZ (af (aa 4) (af (aa 6) (ah)))) (aa 3) (aj az (aa 5) (eC (.int 0)))) (bD))
def bP:MS:=jb (eG (b8 (aj (e8 Â) (aj az (aa 5) (eC (.int 1))) (aa 1))) (b8 (aj gC (aj az (aa 5) (eC (.int 0))) (aa 3)))) (fX) (bD)
def jn:MS:=au (aA 3 (IE)) (au (jf (gP 4 5) (fG (af (aa 0) (ah))) bP) (b9 (aa 3)))
def gG(ds:X2):M D:=cg 7 jn ds
abbrev pY:P3:=["shape","tree","chosen","place","part","choices"]
def aX:MS:=au (aA 5 (cT e7 oN [Â,Â,Ä,Ä] (af (ai aL (af (aj az (aa 4) (eC (.int 1))) (ah))) (ah)) (bM) (iS (aa 3) (aj ay (aa 4) (ai aZ (af (aa 0) (ah))))))) (jO (aC 3 gG (af (aj az (aa 0) (eC (.int 1))) (af (aj az (aa 4) (eC (.int 0))) (af (aa 5) (ah))))) (aa 2) (aa 3))
def gH:MS:=au (aA 2 (ou)) (au (jf (gP 3 4) (IB (af (aC 1 gE (af (aa 1) (ah))) (ah))) aX) (b9 (aa 2)))
def dG(ds:X2):M D:=cg 6 gH ds
abbrev CY:P3:=["shape","tree"]
def oE:MS:=b9 (r8 (ai ly (af (iS (aC 2 dG (af (aa 0) (af (aa 1) (ah)))) (ai aZ (ah))) (ah))))
def ic(ds:X2):M D:=dm (λds=>cg 2 oE ds) ds
abbrev w9:P3:=["shape","tree","name","chosen","names","numbers","place","part","choice","k","below"]
def ie:MS:=jO (aa 10) (aa 4) (aj ay (aa 6) (ai aZ (af (aa 9) (ah))))
def fq:MS:=au (aA 8 (Mw (iS (aa 3) (aa 6)) (iS (aa 4) (aa 6)))) (au (jO (aj az (aa 8) (eC (.int 0))) (aa 5) (aa 6)) (jf (gP 9 10) (fG (af (aj az (aa 8) (eC (.int 1))) (ah))) ie))
def nh:MS:=au (aA 3 (aC 2 dG (af (aa 0) (af (aa 1) (ah))))) (au (aA 4 (mE (ai aZ (ah)) (Ht (b8 (aj (eV Â) (aa 2) (eC .bw))) (aj az (aa 0) (eC (.int 0))) (aa 2)))) (au (jb (b8 (aj gC (iS (aa 4) (ai aZ (ah))) (iS (aa 3) (ai aZ (ah))))) (nZ "NoShape" (af (eC (.str "the tree is not of this name")) (ah))) (bD)) (au (aA 5 (ou)) (au (e9 (gP 6 7) (aC 1 gE (af (aa 1) (ah))) fq) (b9 (aa 5))))))
def gk(ds:X2):M D:=cg 11 nh ds
abbrev UD:P3:=["shape","tree"]
def Jy:MS:=b9 (aj (tD Â) (aj az (aa 0) (eC (.int 0))) (aC 2 ic (af (aa 0) (af (aa 1) (ah)))))
def AO(ds:X2):M D:=dm (λds=>cg 2 Jy ds) ds
abbrev AQ:P3:=["_law_shape_here","_law_tree_here","_law_rows","_law_found","_law_rule"]
def gJ(m:X2->M D):MS:=jb (eG (b8 (aj (e8 Â) (aj az (aa 4) (eC (.int 1))) (aj az (aa 1) (eC (.int 0))))) (b8 (aj (tD Ä) (aj az (aa 4) (eC (.int 0))) (aa 3)))) (jb (jJ j0 (ai (tK Ä) (af (eFn (dD oN [Â,Â,Â,Â,Ä] (aa 2) (bM) (aC 2 eB (af (aa 5) (af (aa 0) (ah)))))) (ah)))) (eL (bz "list" aP (aa 3) (af (aj az (aa 4) (eC (.int 0))) (ah)))) (bD)) (bD)
def iH(m:X2->M D):MS:=au (aA 2 (aC 1 fW (af (eFn (dD oN [Ä] (aj az (aa 1) (eC (.int 1))) (bM) (aC 2 m (af (aa 1) (af (aa 0) (ah)))))) (ah)))) (au (aA 3 (ai aN (ah))) (au (e9 (gN 4) (aj az (aa 0) (eC (.int 1))) (gJ m)) (b9 (eFn (ai ly (af (aa 3) (ah)))))))
mutual
def bT:Nat->X2->M D
  |0,_=>M.stop
  |n+1,ds=>dm (λds=>cg 5 (iH (bT n)) ds) ds
end
abbrev mJ:X2->M D:=bT 12
abbrev vQ:P3:=["_law_shape_here","_law_tree_here","_law_place","_law_marks","_law_number","_law_rule","_law_row","_law_many","_law_k","_law_part","_law_more"]
def dZ(f:X2->M D):MS:=au (aA 10 (aC 4 f (af (aa 0) (af (aa 9) (af (aj ay (aa 2) (ai aZ (af (aa 8) (ah)))) (af (aa 3) (ah))))))) (au (jb (b8 (aj (e8 Â) (aa 10) (eC (.int 0)))) (b9 (eC (.int 0))) (bD)) (au (aA 7 (aj ay (aa 7) (aa 10))) (eL (bz "list" aP (aa 6) (af (aj az (aj az (aj az (aa 0) (eC (.int 1))) (iS (aa 3) (aj ay (aa 2) (ai aZ (af (aa 8) (ah)))))) (eC (.int 0))) (ah))))))
def jo(f:X2->M D):MS:=au (jb (rZ (b8 (aj (e8 Ä) (aj az (aa 5) (eC (.int 1))) (aj az (aa 1) (eC (.int 0))))) (zN (jJ j0 (aC 2 eB (af (aa 5) (af (r8 (aa 6)) (ah))))))) (b9 (eC (.int 0))) (bD)) (b9 (aa 7))
def fT(f:X2->M D):MS:=au (aA 4 (uA (aa 3) (aa 2) (zP (eC (.int 1))))) (au (jb (b8 (Rb (aa 4) (af (ai aL (af (aj az (aa 0) (eC (.int 1))) (ah))) (ah)))) (b9 (eC (.int 0))) (bD)) (au (aA 5 (aj az (aj az (aa 0) (eC (.int 1))) (aa 4))) (au (aA 6 (ai aN (ah))) (au (aA 7 (eC (.int 1))) (au (jf (gP 8 9) (fG (af (aj az (aa 1) (eC (.int 1))) (ah))) (dZ f)) ((jo f)))))))
mutual
def bX:Nat->X2->M D
  |0,_=>M.stop
  |n+1,ds=>dm (λds=>cg 11 (fT (bX n)) ds) ds
end
abbrev iA:X2->M D:=bX 12
abbrev AS:P3:=["_law_state_here","_law_shape_here","_law_name","_law_fuel","_law_place","_law_marks","_law_numbers","_law_number","_law_rule","_law_parts","_law_k","_law_one"]
def eF(i:X2->M D):MS:=eL (bz "list" aP (aa 9) (af (aC 6 i (af (aa 0) (af (aa 1) (af (aa 11) (af (aa 3) (af (aj ay (aa 4) (ai aZ (af (aa 10) (ah)))) (af (aa 5) (ah)))))))) (ah)))
def i8(i:X2->M D):MS:=au (aA 7 (aj az (aa 6) (eC (.int 0)))) (au (jb (b8 (aj kK (aj az (aa 3) (eC (.int 0))) (eC (.int 0)))) (aA 7 (aj az (aa 6) (aj aR (aC 1 ao (af (aa 0) (ah))) (ai aL (af (aa 6) (ah)))))) (bD)) (au (gU (aj yk (aj az (aa 3) (eC (.int 0))) (eC (.int 1))) (aa 3) (eC (.int 0))) (au (aA 8 (aj az (aj az (aa 1) (eC (.int 1))) (aa 7))) (au (jO (aa 7) (aa 5) (aa 4)) (au (aA 9 (ai aN (ah))) (au (jf (gP 10 11) (fG (af (aC 3 iZ (af (aa 0) (af (aa 8) (af (aC 3 iz (af (aa 0) (af (aa 8) (af (aa 3) (ah))))) (ah))))) (ah))) (eF i)) (b9 (ai aZ (af (aj az (aa 8) (eC (.int 1))) (af (ai fZ (af (aa 9) (ah))) (ah)))))))))))
def iJ(i:X2->M D):MS:=au (aA 6 (eFn (cT e7 oN [Â,Ä,Ä] (af (ai aL (af (aj az (aa 1) (eC (.int 1))) (ah))) (ah)) (b8 (aj (e8 Â) (aj az (aj az (aj az (aa 2) (eC (.int 1))) (aa 0)) (eC (.int 0))) (aa 3))) (aa 0)))) ((i8 i))
mutual
def bU:Nat->X2->M D
  |0,_=>M.stop
  |n+1,ds=>cg 12 (iJ (bU n)) ds
end
abbrev mK:X2->M D:=bU 12
abbrev vR:P3:=["_law_shape_here","_law_tree_here","_law_name","_law_due","_law_marks","_law_many"]
def gK:MS:=au (jb (rZ (b8 (aj (eV Â) (aa 4) (eC .bw))) (zN (jJ j0 (aa 3)))) (b9 (tG (aj (eV Â) (aa 4) (eC .bw)) (PM (aa 3)))) (bD)) (au (jb (b8 (aj (eV Â) (aa 2) (eC .bw))) (aA 2 (aj az (aa 0) (eC (.int 0)))) (bD)) (au (aA 5 (aC 4 iA (af (aa 0) (af (aa 1) (af (ai aZ (ah)) (af (aa 4) (ah))))))) (b9 (tG (aj kK (aa 5) (eC (.int 0))) (tG (aj (e8 Â) (aa 5) (ai iT (af (aa 4) (ah)))) (aj (e8 Â) (aj az (aj az (aj az (aa 0) (eC (.int 1))) (iS (aa 4) (ai aZ (ah)))) (eC (.int 0))) (aa 2)))))))
def iB:MS:=au (aA 4 (eC .bw)) (au (Aa (aA 4 (aC 3 gk (af (aa 0) (af (aa 1) (af (aa 2) (ah)))))) (tM (λn=>Ō n [("NoShape",Ä)]) (aA 4 (eC .bw)) (Qd)) (bD)) (gK))
def bY(ds:X2):M D:=dm (λds=>cg 6 iB ds) ds
abbrev AU:P3:=["_law_state_here","_law_shape_here","_law_fuel","_law_most","_law_marks","_law_tree_here"]
def lH:MS:=au (aA 4 (ou)) (aA 5 (aC 6 mK (af (aa 0) (af (aa 1) (af (aj az (aa 1) (eC (.int 0))) (af (ai aN (af (eC (.int 0)) (ah))) (af (ai aZ (ah)) (af (aa 4) (ah)))))))))
def jH:MS:=au (aA 4 (ou)) (au (aA 5 (aC 6 mK (af (aa 0) (af (aa 1) (af (aj az (aa 1) (eC (.int 0))) (af (ai aN (af (aa 2) (ah))) (af (ai aZ (ah)) (af (aa 4) (ah))))))))) (au (jb (b8 (aj kK (ai iT (af (aa 4) (ah))) (aa 3))) (lH) (bD)) (b9 (ai aZ (af (aa 5) (af (aa 4) (ah)))))))
def gm(ds:X2):M D:=cg 6 jH ds
abbrev NR:P3:=["_law_script","_law_state_here","_law_names_here","_law_kinds","_law_shape_here","_law_way","_law_tree_here","_law_marks","_law_due","_law_name"]
def uK:MS:=jb (zN (jJ j0 (aC 4 bY (af (aa 4) (af (aa 6) (af (aa 9) (af (aj (tD Â) (aa 9) (aa 8)) (ah)))))))) (b9 (eC (.bl Â))) (bD)
def xg:MS:=au (aA 1 (aC 1 dX (af (aa 0) (ah)))) (au (aA 2 (aC 2 dh (af (aC 1 ao (af (aa 1) (ah))) (af (eC (.int 3)) (ah))))) (au (jb (b8 (aj (e8 Â) (aj aR (aC 1 ao (af (aa 1) (ah))) (eC (.int 2))) (eC (.int 1)))) (gU (aj ay (aj az (aa 2) (eC (.int 0))) (eC (.str "z"))) (aa 2) (eC (.int 0))) (bD)) (au (aA 3 (aC 2 fD (af (aC 1 ao (af (aa 1) (ah))) (af (eC (.int 2)) (ah))))) (au (aA 4 (aC 4 gF (af (aa 1) (af (r8 (jK (aa 2) (cM) (bq (aj ay (eC (.int 1)) (aj aR (aC 1 ao (af (aa 1) (ah))) (eC (.int 3))))))) (af (aa 3) (af (eC (.int 2)) (ah))))))) (au (aA 5 (aj aR (aC 1 ao (af (aa 1) (ah))) (eC (.int 3)))) (au (FL (gP 6 7) (aC 4 gm (af (aa 1) (af (aa 4) (af (aj aR (aC 1 ao (af (aa 1) (ah))) (eC (.int 6))) (af (eC (.int 8)) (ah))))))) (au (jb (rZ (b8 (aj kK (aa 5) (eC (.int 0)))) (b8 (aj kK (ai iT (af (aa 7) (ah))) (eC (.int 8))))) (aA 6 (aC 2 eN (af (r8 (cT e7 oN [Â,Ä] (af (aj ay (eC (.int 1)) (aj aR (aC 1 ao (af (aa 1) (ah))) (eC (.int 9)))) (ah)) (bM) (aC 1 ao (af (aa 2) (ah))))) (af (aa 3) (ah))))) (bD)) (au (aA 8 (aC 2 mJ (af (aa 4) (af (aa 6) (ah))))) (au (jb (rZ (b8 (aj (e8 Ä) (aC 2 ic (af (aa 4) (af (aa 6) (ah)))) (aa 8))) (b8 (aj (e8 Ä) (aC 2 AO (af (aa 4) (af (aa 6) (ah)))) (aj (tD Â) (aj az (aa 4) (eC (.int 0))) (aa 8))))) (b9 (eC (.bl Â))) (bD)) (au (e9 (gN 9) (aa 2) uK) (b9 (aC 4 bY (af (aa 4) (af (aa 6) (af (eC .bw) (af (aj (tD Â) (aj az (aa 4) (eC (.int 0))) (aa 8)) (ah)))))))))))))))))
def Jz(ds:X2):M D:=dm (λds G=>Av (cg 10 xg ds G)) ds
def defs:List Jd:=("all_within",2,yW,yJ)::("placed_trees",1,uI,uD)::("placed_parts",1,uG,uE)::[("row_chosen",2,y9,yK),("next_layer",3,yY,yL),("no_counts",1,AK,AD),("may_take",3,CW,CO),("taken",3,MT,MR),("is_enough",2,AL,AE),("row_back",3,CU,CP),("names_of",2,CY,CQ),("has",2,UD,UC),("chosen_by_place",2,pY,pX),("chosen_rules",3,uJ,uF),("_law_state",1,yV,yM),("_law_next",1,AM,AF),("_law_item",4,AN,AG),("_law_items",4,yZ,yN),("_law_shape",4,za,yO),("_law_names",2,yU,yQ),("_law_counts",3,vP,vM),("_law_order",3,yX,yS),("_law_grow",6,AS,AH),("_law_tree",4,AU,AI),("_law_let",2,CV,CS),("_law_all_rows",1,sr,se),("_law_slow",2,AQ,AJ),("_law_any_tree",2,su,sj),("_law_walked",4,vQ,vN),("_law_marked",4,vR,vO),("law",1,NR,NQ)]
def Rh:P3:=["all","any","enumerate","len","list","max","min","range","reversed","sorted","sum","tuple","zip"]
structure Txt(g:rH):Prop where
  D:pT g.K g.mg defs
  B:lg g.mg Rh
  C0:Q7 g "NoShape"
  C1:FT g "NoShape" [("NoShape",Ä)]
  C2:uy g.K g.mg "marking" 3 w9 w6
theorem bN{a b:Prop}(h:a)(k:a->b):b:=k h
theorem Ri{g:rH}(T:Txt g){f:Addr}{fd:FuncData}(F:Le g.K "law" "law" NQ f fd):nG g.P g.w g.K g.mg g.base (yr g.P g.w) 16 f fd ["_law_script"] (iX g.K g.mg 1 Jz):=by
 obtain⟨_,_,_,_,_,_,_,_,_,_,_,_,_,_,_,_,_,_,_,_,_,_,_,_,_,_,_,_,_,_,_,_⟩:=T.D;have:=T.C0;have:=T.C1;have:=T.C2;refine bN (a:=gg g "placed_parts" 1 1 cJ) ?_ λ_=>bN (a:=gg g "no_counts" 1 1 iG) ?_ λ_=>bN (a:=gg g "taken" 1 3 sL) ?_ λ_=>bN (a:=gg g "is_enough" 1 2 gh) ?_ λ_=>bN (a:=gg g "row_back" 1 3 g7) ?_ λ_=>bN (a:=gg g "_law_next" 1 1 ao) ?_ λ_=>bN (a:=gg g "_law_names" 1 2 fD) ?_ λ_=>bN (a:=gg g "_law_let" 1 2 eB) ?_ λ_=>bN (a:=gg g "_law_all_rows" 1 1 fW) ?_ λ_=>bN (a:=gg g "_law_any_tree" 1 2 eN) ?_ λ_=>bN (a:=gg g "_law_names" 1 2 dh) ?_ λ_=>bN (a:=gg g "_law_state" 1 1 dX) ?_ λ_=>bN (a:=gg g "all_within" 2 2 lB) ?_ λ_=>bN (a:=gg g "may_take" 2 3 lC) ?_ λ_=>bN (a:=gg g "_law_item" 2 4 gj) ?_ λ_=>bN (a:=gg g "_law_counts" 2 3 iz) ?_ λ_=>bN (a:=gg g "_law_order" 2 3 iZ) ?_ λ_=>bN (a:=gg g "placed_trees" 3 1 gE) ?_ λ_=>bN (a:=gg g "next_layer" 3 3 i6) ?_ λ_=>bN (a:=gg g "_law_items" 3 4 eE) ?_ λ_=>bN (a:=gg g "row_chosen" 4 2 fE) ?_ λ_=>bN (a:=gg g "_law_shape" 4 4 gF) ?_ λ_=>bN (a:=gg g "chosen_rules" 5 3 gG) ?_ λ_=>bN (a:=gg g "chosen_by_place" 6 2 dG) ?_ λ_=>bN (a:=gg g "names_of" 7 2 ic) ?_ λ_=>bN (a:=gg g "marking" 7 3 gk) ?_ λ_=>bN (a:=gg g "has" 8 2 AO) ?_ λ_=>bN (a:=gg g "_law_slow" 13 2 mJ) ?_ λ_=>bN (a:=gg g "_law_walked" 13 4 iA) ?_ λ_=>bN (a:=gg g "_law_grow" 14 6 mK) ?_ λ_=>bN (a:=gg g "_law_marked" 14 4 bY) ?_ λ_=>bN (a:=gg g "_law_tree" 15 4 gm) ?_ λ_=>?_
 all_goals
  first
   |(with_reducible show gg _ "marking" _ _ _);refine F6 (by assumption) T.B ⟨rfl,rfl,rfl,by symm,rfl,by symm,by symm⟩ rfl rfl (by intro T kV doc pm an cdv ct;exact ux λ_ _ _=>⟨_,rfl,rfl⟩) (by intro T kV doc pm an cdv ct;exact Z6 2 <|uw λ_ _=>⟨_,rfl,rfl⟩) λX EE hV hS=>?_
   |(with_reducible show gg _ "_law_slow" _ _ _);refine pW (k:=1) (MM:=bT) (F:=λr=>dm (λds=>cg 5 (iH r) ds)) (by assumption) (by intro _ _ _ _ _ _;first|exact uv λ_=>rfl|exact uw λ_ _=>rfl|exact ux λ_ _ _=>rfl|exact vJ λ_ _ _ _=>rfl|exact vL λ_ _ _ _ _ _=>rfl) (by funext ds;rw[bT]) (λi=>by funext ds;rw[bT]) (λi _=>?_) 12;show gg _ _ _ _ (dm (λds=>cg 5 (iH (bT i)) ds));refine gg.pure (lq (by assumption) T.B ⟨rfl,rfl,rfl,by symm,rfl,by symm,by symm⟩ rfl rfl (by intro _ _ _ _ _ _;first|exact uv λ_=>rfl|exact uw λ_ _=>rfl|exact ux λ_ _ _=>rfl|exact vJ λ_ _ _ _=>rfl|exact vL λ_ _ _ _ _ _=>rfl) λX EE hV hS=>?_)
   |(with_reducible show gg _ "_law_walked" _ _ _);refine pW (k:=1) (MM:=bX) (F:=λr=>dm (λds=>cg 11 (fT r) ds)) (by assumption) (by intro _ _ _ _ _ _;first|exact uv λ_=>rfl|exact uw λ_ _=>rfl|exact ux λ_ _ _=>rfl|exact vJ λ_ _ _ _=>rfl|exact vL λ_ _ _ _ _ _=>rfl) (by funext ds;rw[bX]) (λi=>by funext ds;rw[bX]) (λi _=>?_) 12;show gg _ _ _ _ (dm (λds=>cg 11 (fT (bX i)) ds));refine gg.pure (lq (by assumption) T.B ⟨rfl,rfl,rfl,by symm,rfl,by symm,by symm⟩ rfl rfl (by intro _ _ _ _ _ _;first|exact uv λ_=>rfl|exact uw λ_ _=>rfl|exact ux λ_ _ _=>rfl|exact vJ λ_ _ _ _=>rfl|exact vL λ_ _ _ _ _ _=>rfl) λX EE hV hS=>?_)
   |(with_reducible show gg _ "_law_grow" _ _ _);refine pW (k:=2) (MM:=bU) (F:=λr=>λds=>cg 12 (iJ r) ds) (by assumption) (by intro _ _ _ _ _ _;first|exact uv λ_=>rfl|exact uw λ_ _=>rfl|exact ux λ_ _ _=>rfl|exact vJ λ_ _ _ _=>rfl|exact vL λ_ _ _ _ _ _=>rfl) (by funext ds;rw[bU]) (λi=>by funext ds;rw[bU]) (λi _=>?_) 12;show gg _ _ _ _ (λds=>cg 12 (iJ (bU i)) ds);refine lq (by assumption) T.B ⟨rfl,rfl,rfl,by symm,rfl,by symm,by symm⟩ rfl rfl (by intro _ _ _ _ _ _;first|exact uv λ_=>rfl|exact uw λ_ _=>rfl|exact ux λ_ _ _=>rfl|exact vJ λ_ _ _ _=>rfl|exact vL λ_ _ _ _ _ _=>rfl) λX EE hV hS=>?_
   |(with_reducible show nG _ _ _ _ _ _ _ _ _ _ _);refine Jf (N:=NR) (y:="_law_script") F T.B ⟨rfl,rfl,rfl,by symm,rfl,by symm,by symm⟩ (by symm) rfl λX EE hV hS=>?_
   |(with_reducible show gg _ "marking" _ _ _);refine lq (by assumption) T.B ⟨rfl,rfl,rfl,by symm,rfl,by symm,by symm⟩ rfl rfl (by intro _ _ _ _ _ _;first|exact uv λ_=>rfl|exact uw λ_ _=>rfl|exact ux λ_ _ _=>rfl|exact vJ λ_ _ _ _=>rfl|exact vL λ_ _ _ _ _ _=>rfl) λX EE hV hS=>?_
   |refine gg.pure (lq (by assumption) T.B ⟨rfl,rfl,rfl,by symm,rfl,by symm,by symm⟩ rfl rfl (by intro _ _ _ _ _ _;first|exact uv λ_=>rfl|exact uw λ_ _=>rfl|exact ux λ_ _ _=>rfl|exact vJ λ_ _ _ _=>rfl|exact vL λ_ _ _ _ _ _=>rfl) λX EE hV hS=>?_)
   |refine gg.fresh (lq (by assumption) T.B ⟨rfl,rfl,rfl,by symm,rfl,by symm,by symm⟩ rfl rfl (by intro _ _ _ _ _ _;first|exact uv λ_=>rfl|exact uw λ_ _=>rfl|exact ux λ_ _ _=>rfl|exact vJ λ_ _ _ _=>rfl|exact vL λ_ _ _ _ _ _=>rfl) λX EE hV hS=>?_)
   |refine lq (by assumption) T.B ⟨rfl,rfl,rfl,by symm,rfl,by symm,by symm⟩ rfl rfl (by intro _ _ _ _ _ _;first|exact uv λ_=>rfl|exact uw λ_ _=>rfl|exact ux λ_ _ _=>rfl|exact vJ λ_ _ _ _=>rfl|exact vL λ_ _ _ _ _ _=>rfl) λX EE hV hS=>?_
  delta jl mF yT uH mG oz gi jF iY oA cj iN dR dS dU iO cW g8 dW cX g9 gD fj cu dB lA fL oB jG jP dY fk lD fM eO jm lE eS fO jQ lF eT i7 fP bW fQ lG dM fR jR jn fX bP gH aX oE nh ie fq Jy iH gJ fT dZ jo iJ eF i8 iB gK jH lH xg uK
  repeat' first
    |(with_reducible show @Eq Bool _ Ä);kernel_rfl
    |with_reducible show QE _ _ _ _;first
       |refine MA hV ?_
       |(show QE _ _ _ (eC _));first|exact Pf|exact Ph|((show QE _ _ (.Name _ _) (eC _));first|refine CG hV (yF.has (by assumption)) ?_|refine CG hV (W4.has (by assumption)) ?_)|((show QE _ _ _ (eC (.fn _)));refine CG hV (yF.has (by assumption)) ?_)|exact Tf|exact Pg
       |(show QE _ _ _ (bz _ _ _ _));first|refine LX ?_ ?_ ?_ ?_ ?_|refine F5 ?_ ?_ ?_ ?_ ?_|refine Fl ?_ ?_ ?_ ?_ ?_|refine Mf ?_ ?_ ?_ ?_ ?_|refine Qu ?_ ?_ ?_
       |refine UB ?_
       |(show QE _ _ _ (aj _ _ _));first|refine HP ?_ ?_ ?_|refine Mc ?_ ?_|refine Po ?_ ?_|refine Pk ?_ ?_|refine Pn ?_ ?_|refine Lm ?_ ?_|refine QZ ?_ ?_|refine Pp ?_ ?_|refine MO ?_ ?_|refine To hV.hu ?_ ?_|refine Py ?_ ?_|refine Th ?_ ?_|refine Ti ?_ ?_|refine Ud hV.hu ?_ ?_ ?_
       |refine QC ?_
       |refine Uo ?_
       |((show QE _ _ _ (aC _ _ _));first|refine Ju hV (by assumption) ?_ ?_|refine Aw hV (by assumption) ?_ ?_)
       |((show QE _ _ (.ListComp _ _ _ _) _);first|refine Ax hV hS Sd ?_ ?_ ?_ ?_|refine Ax hV hS Se ?_ ?_ ?_ ?_|refine wR hV hS Sd ?_ ?_ ?_ ?_|refine wR hV hS Se ?_ ?_ ?_ ?_|refine ur hV hS Sd ?_ ?_ ?_ ?_|refine ur hV hS Se ?_ ?_ ?_ ?_)
       |(show QE _ _ _ (ai _ _));first|refine Pr ?_|refine Pu ?_|refine Qq (hV.bl _ ?_) (hV.gl _ ?_) ?_ ?_|refine MG (hV.bl _ ?_) (hV.gl _ ?_) ?_ ?_|refine MK hV.hc (hV.bl _ ?_) (hV.gl _ ?_) ?_ ?_|refine CL hV.hc (hV.bl _ ?_) (hV.gl _ ?_) ?_ ?_|refine Qt hV.hc (hV.bl _ ?_) (hV.gl _ ?_) ?_ ?_|refine Qs hV.hc (hV.bl _ ?_) (hV.gl _ ?_) ?_ ?_|refine LO hV.hc (hV.bl _ ?_) (hV.gl _ ?_) ?_ ?_|refine LP hV.hc (hV.bl _ ?_) (hV.gl _ ?_) ?_ ?_|refine LY (hV.bl _ ?_) (hV.gl _ ?_) ?_ ?_|refine HX (hV.bl _ ?_) (hV.gl _ ?_) ?_ ?_|refine Cb hV.hc (hV.bl _ ?_) (hV.gl _ ?_) (hV.bl _ ?_) (hV.gl _ ?_) ?_ ?_
       |refine PV ?_
       |refine PU ?_
       |refine Hq ?_ ?_ ?_
       |refine Jm hV.hu ?_ ?_
       |refine Jr hV.hu ?_ ?_ ?_ ?_ ?_ ?_
       |refine Q4 hV.hu ?_ ?_ ?_
       |refine Mn hV.hu ?_ ?_ ?_
       |exact Mg
       |exact IQ
       |refine FP hV ?_ ?_ ?_
       |refine PR ?_ ?_
       |refine Tw ?_ ?_
       |refine PN ?_
       |refine Tu ?_ ?_ ?_
    |with_reducible show QA _ _ _ _;first
       |refine WG ?_ ?_ ?_
       |exact Pq
    |(with_reducible show pg _ _ _ _);first|((with_reducible show pg _ _ _ (au _ _));refine Hv ?_ ?_)|refine Lw ?_|exact Lv
    |with_reducible show QS _ _ _ _;first
       |((show QS _ _ _ (FL _ _));refine Q0 ?_ ?_ (by with_unfolding_all exact rfl) (by with_unfolding_all exact rfl) (by with_unfolding_all exact rfl))
       |((show QS _ _ _ (gU _ _ _));refine HR ?_ ?_ ?_ ?_ (by with_unfolding_all exact λ_=>rfl))
       |((show QS _ _ (.Assign _ (.ListComp _ _ _ _) _) _);first|refine Ay hV hS Sd ?_ (by decide+kernel) ?_ ?_|refine Ay hV hS Se ?_ (by decide+kernel) ?_ ?_|refine wU hV hS Sd ?_ (by decide+kernel) ?_ ?_|refine wU hV hS Se ?_ (by decide+kernel) ?_ ?_|refine uu hV hS Sd ?_ (by decide+kernel) ?_ ?_|refine uu hV hS Se ?_ (by decide+kernel) ?_ ?_)
       |((show QS _ _ _ (oX _ _ _));first|refine Mh hV.hu ?_ ?_ ?_ (by decide+kernel)|refine Am hV.hu ?_ ?_ ?_ (by with_unfolding_all exact rfl))
       |((show QS _ _ _ (jO _ _ _));refine IS hV.hu ?_ ?_ ?_ ?_)
       |((show QS _ _ _ (nZ _ _));refine FU hV (by assumption) ?_ ?_)
       |((show QS _ _ _ (Aa _ _ _));refine ME hV hS (λX EE hV hS=>?_) (λX EE hK=>?_) ?_)
       |refine PX ?_
       |refine Tz ?_ ?_ ?_
       |refine LQ ?_ ?_
       |refine Uq ?_
       |refine Q3 ?_
       |refine MB hV hS ?_ ?_
       |refine MP hW ?_ ?_
       |refine Qv hS.po hV.hc ?_ ?_ ?_ ?_
       |refine HS hS.po hV.hc (hV.bl _ ?_) (hV.gl _ ?_) ?_ ?_ ?_ ?_
       |refine HU hS.po hV.hc (hV.bl _ ?_) (hV.gl _ ?_) ?_ ?_ ?_ ?_ ?_
       |refine LZ hS.po hV.hc ?_ ?_ ?_ ?_
       |refine Ib hS.po ?_ ?_
    |with_reducible show QT _ _ _ _;first
       |refine Qo ?_ ?_ ?_ ?_
       |refine Rf (hV.bl _ ?_) (hV.gl _ ?_) ?_ ?_ ?_
       |refine Qp ?_ ?_
       |refine PC ?_
       |refine Wl ?_
    |with_reducible first
      |exact Hh hV.hu
      |exact PJ
      |exact PK
      |exact PL
      |exact Px hV.hu
      |exact Hl hV.hu
      |exact EV hV.hu
      |exact Q5 hV.hu
      |exact F0 hV.hu
      |exact Lu
      |exact Hs
      |refine Lq ?_
      |exact Lo
      |refine W2 λX EE hV=>?_
      |refine W3 λX EE hV=>⟨?_,?_⟩
      |refine IG (hV.bl _ ?_) (hV.gl _ ?_) ?_ ?_
      |refine Ml (hV.bl _ ?_) (hV.gl _ ?_) ?_ ?_
      |refine Mr (hV.bl _ ?_) (hV.gl _ ?_) (hV.bl _ ?_) (hV.gl _ ?_) ?_ ?_
      |refine QF (hV.bl _ ?_) (hV.gl _ ?_) ?_ ?_
      |refine Mq ?_
      |refine PB ?_ ?_
      |refine Ls ?_
      |refine Tt ?_ ?_
      |refine Pz ?_
      |refine Jb hV hS ?_
      |refine Jc hV hS ?_
      |refine Js hV hS ?_
      |refine F7 hK (by assumption) ?_ (λX hV hW=>?_) ?_
      |exact Qe
      |exact trivial
    |decide+kernel
    |(with_reducible show GV _);exact λ_ _=>rfl
    |(with_reducible show FO _ _ _ _);first|exact trivial|refine⟨⟨_,by assumption,by decide⟩,?_⟩
    |refine Aw hV (by assumption) ?_ ?_
end
end K24
section
open PySem PySem.Spec L2 L3
local macro_rules
 | `(tactic| simp! [$a,*])=>`(tactic| simp [cy,j0,az,ak,aO,eW,aL,ay,aZ,c7,aP,zU,$a,*])
local macro_rules
 | `(tactic| dsimp! [$a,*])=>`(tactic| simp [cy,j0,az,ak,aO,eW,aL,jx,aZ,c7,aP,zU,$a,*])
local macro_rules
 | `(tactic| simp_all! [$a,*])=>`(tactic| simp only [dQ,gZ,aI,List.getElem?_cons_zero,List.getElem?_cons_succ,NJ,List.length_cons,qG,yy,List.set_cons_succ,List.set_cons_zero,List.length_nil,L5,tY,if_true,gw,f6,mq,rF,pH,List.map_cons,DK,List.nil_append,List.map_nil,List.cons_append,List.replicate,Uk,Ii,tX,tW,Qz,nL,iR,mY,Ce,Cd,$a,*])
namespace K24
noncomputable section
open PySem PySem.Spec L2 L3
structure Itm where
 nm:Str
 lo:Int
 hi:Option Int
def jq:Option Int->D
 |none=>.bw
 |some h=>.int h
def bS(i:Itm):D:=.tup [.str i.nm,.int i.lo,jq i.hi]
def aM(a b:Str)(m:Bool)(i:List Itm):D:=.tup [.str a,.str b,.str (if m=Ä then "mix" else "row"),.tup (i.map bS)]
def cD(c:D2):D:=.tup (c.map .int)
theorem jI{xs:X2}{k:Nat}{d:D}(h:xs[k]?=À d):gr xs (k:Int)=À d:=bH h
theorem Sf{a b c d:D}:gr [a,b,c,d] 3=À d:=bH (j:=3) rfl
theorem at2{a b c d:D}:gr [a,b,c,d] 2=À c:=bH (j:=2) rfl
theorem Rj{a b c:D}:gr [a,b,c] 1=À b:=bH (j:=1) rfl
theorem UE{a b c:D}:gr [a,b,c] 2=À c:=bH (j:=2) rfl
theorem Rk{a b c:D}:gr [a,b,c] 0=À a:=bH (j:=0) rfl
theorem uL{a b:D}:gr [a,b] 0=À a:=bH (j:=0) rfl
theorem qM{a b:D}:gr [a,b] 1=À b:=bH (j:=1) rfl
theorem qN(c:D2):(cD c).closed=Ä:=by unfold cD;rw[kZ];exact aB λ_=>b7
theorem zb(a b:Str)(m:Bool)(i:List Itm)(g:i.length<=100)(G:DH):iG [aM a b m i] G=.ok (cD (i.map λ_=>0)) G:=by
 unfold iG;refine gy ?_ (qN _);have c:=m8 (τ:=[À (aM a b m i)]) (G:=G) (gO:=oN) (ks:=[]) (te:=eC (.int 0)) (own:=λx=>[x]) (f:=λ_=>.int 0) (i.map bS) [] (by simp;lia) (λx _=>rfl) (λx e d=>rfl);have hz:i.length<=Ç:=lz ∅;have h:aG (i.map λ_=>D.int 0)=Ä:=aB λ_=>b7;rw[á,ā]at c
 replace c:cC oN [] bM (eC (.int 0)) G.length (i.map bS) [À (aM a b m i)] (G++[.lst []])=.ok (.obj G.length) (G++[.lst (i.map λ_=>D.int 0)]):=c
 unfold mF;unfold aM at c |-;simp![Sf,c,cI,eX h,fZ,hz,cD]
def bO:List Itm->D2->Bool
 |i::r,x::c=>decide (i.lo<=x)&&bO r c
 |_,_=>Ä
theorem uM:∀(a:List Itm)(c:D2),((a.zip c).map λp=>decide (p.1.lo<=p.2)).all id=bO a c
 |[],c=>by simp[bO]
 |i::r,[]=>by simp[bO]
 |i::r,x::c=>by rw[abo,É,acB,uM r c];rfl
theorem xh:∀(a:List Itm)(c:D2),ð (λx y=>D.tup [x,y]) (a.map bS) (c.map D.int)=(a.zip c).map λp=>D.tup [bS p.1,.int p.2]
 |[],c=>by simp
 |i::r,[]=>by simp
 |i::r,x::c=>by rw[É,É,aay,xh r c];rfl
theorem qO:∀bs:L9,pB (bs.map D.bl)=À bs
 |[]=>rfl
 |b::r=>by simp[pB,qO r]
theorem xj(its:List Itm)(c:D2)(hl:its.length<=100)(G:DH):gh [.tup (its.map bS),cD c] G=.ok (.bl (bO its c)) G:=by
 unfold gh;refine gy ?_ fC;have hb:=uM its c;have c1:=bF (τ:=[À (D.tup (its.map bS)),À (cD c)]) (G:=G) (gO:=oT 2) (ks:=[]) (tt:=bM) (te:=aj Pj (aa 1) (aj az (aa 0) (eC (.int 1)))) (own:=λp:Itm×Int=>[bS p.1,.int p.2]) (dat:=λp=>.tup [bS p.1,.int p.2]) (f:=λp=>.bl (decide (p.1.lo<=p.2))) (c:=λ_=>Ä) (its.zip c) [] (by simp;lia) (λx _=>rfl) (λx hx acc=>by first|rfl|simp[bM]) (λx hx acc=>by
   have:az (bS x.1) (.int 1) (G++[.lst acc])=.ok (.int x.1.lo) (G++[.lst acc]):=by simp only[bS,az,ak,Rj]
   generalize bS x.1=I at this |-;simp[mask,this,aO])
 rw[á,ġ.mpr (λ_ _=>rfl),<- xh]at c1;have e3:(its.zip c).map (λp=>D.bl (decide (p.1.lo<=p.2)))=((its.zip c).map λp=>decide (p.1.lo<=p.2)).map .bl:=by rw[ā];rfl
 rw[e3]at c1;generalize((its.zip c).map λp=>decide (p.1.lo<=p.2))=bs at c1 hb;have hcl:aG (bs.map D.bl)=Ä:=aB λ_=>fC;unfold mG;unfold cD at c1 |-;have c2:=F8 (n:=G.length) (τ:=[À (D.tup (its.map bS)),À (D.tup (c.map .int))]) (G:=G++[.lst []]) (gO:=oT 2) (ks:=[]) (tt:=bM) (te:=aj Pj (aa 1) (aj az (aa 0) (eC (.int 1)))) (xs:=its.map bS) (ys:=c.map .int);rw[c1]at c2;simp only[Ú]at c2;simp![c2,cI,eX hcl,tK,qO,hb]
theorem uN(xs:X2)(k:Nat)(h:k<xs.length)(hz:xs.length<=1000)(G:DH):tF (.tup xs) Å (À (k:Int)) G=.ok (.tup (xs.take k)) G:=by
 simp only[tF,ak];have a:HT.gb xs.length xs.length (À (k:Int))=k:=by rw[HT.iV];lia
 rw[Β (by rw[a];lia),aZ];have b:cutD xs Å (À (k:Int))=xs.take k:=by unfold cutD;rw[a,HT.jc];simp
 rw[b,Α (lz (by simp;lia))]
theorem AV(xs:X2)(k:Nat)(h:k<xs.length)(hz:xs.length<=1000)(G:DH):tF (.tup xs) (À ((k:Int)+1)) Å G=.ok (.tup (xs.drop (k+1))) G:=by
 simp only[tF,ak];have a:HT.gb xs.length 0 (À ((k:Int)+1))=k+1:=by rw[show((k:Int)+1)=((k+1:Nat):Int) by lia,HT.iV];lia
 rw[Β (by rw[a];lia),aZ];have b:cutD xs (À ((k:Int)+1)) Å=xs.drop (k+1):=by unfold cutD;rw[a,HT.jc];rw[Ĕ (by rw[ō];lia)]
 rw[b,Α (lz (by simp;lia))]
theorem MU(xs ys:X2)(hz:(xs++ys).length<=1000)(G:DH):ay (.tup xs) (.tup ys) G=.ok (.tup (xs++ys)) G:=by
 cases xs with
 |nil=>rfl
 |cons x r=>show aZ (x::r++ys) G=_;rw[aZ,Α (lz ∅)]
theorem rL:∀c:D2,intsOf (c.map D.int)=À c
 |[]=>rfl
 |x::c=>by simp[intsOf,rL c]
theorem zc(m:Bool)(G:DH):e8 Â (.str (if m=Ä then "mix" else "row")) (.str "mix") G=.ok (.bl m) G:=by
 cases m
 ·rw[Β (by decide),iy _ _ _ _ (by symm) (by symm)];congr 1
 ·rw[Α rfl,iy _ _ _ _ (by symm) (by symm)];congr 1
theorem NS(a b:Str)(m:Bool)(i:List Itm)(G:DH):az (aM a b m i) (.int 3) G=.ok (.tup (i.map bS)) G:=by simp only[aM,az,ak,Sf]
theorem NT(a b:Str)(m:Bool)(i:List Itm)(G:DH):az (aM a b m i) (.int 2) G=.ok (.str (if m=Ä then "mix" else "row")) G:=by simp only[aM,az,ak,at2]
def nE(x:Int):Option Int->Bool
 |some h=>decide (x<h)
 |none=>Ä
def jS(m:Bool)(i:List Itm)(c:D2)(k:Nat)(it:Itm)(x:Int):Bool:=nE x it.hi&&(m||((c.drop (k+1)).sum==0&&bO (i.take k) c))
theorem Rl(a b:Str)(mix:Bool)(i:List Itm)(c:D2)(K:i.length<=100)(H:c.length=i.length)(k:Nat)(it:Itm)(x:Int)(p:i[k]?=À it)(B:c[k]?=À x)(G:DH):
  lC [aM a b mix i,cD c,.int k] G=.ok (.bl (jS mix i c k it x)) G:=by
 have y:k<i.length:=(Á.mp p).1;have A:gr (i.map bS) (k:Int)=À (.tup [.str it.nm,.int it.lo,jq it.hi]):=jI (by rw[Ö,p];rfl);have u:gr (c.map D.int) (k:Int)=À (.int x):=jI (by rw[Ö,B];rfl);have s:=AV (c.map .int) k (by simp;lia) (by simp;lia) G;have j:=uN (i.map bS) k (by simp;lia) (by simp;lia) G;have e:=xj (i.take k) c (by simp;lia) G;rw[aaR]at e;rw[<- aaS]at s;have d:=rL (c.drop (k+1));have g:=NS a b mix i G;have f:=NT a b mix i G;have m:az (.tup (i.map bS)) (.int k) G=.ok (.tup [.str it.nm,.int it.lo,jq it.hi]) G:=by simp only[az,ak,A]
 have o:az (.tup [.str it.nm,.int it.lo,jq it.hi]) (.int 2) G=.ok (jq it.hi) G:=by simp only[az,ak,UE]
 have q:az (cD c) (.int k) G=.ok (.int x) G:=by simp only[cD,az,ak,u]
 have l:uB [.tup ((c.drop (k+1)).map .int)] G=.ok (.int (c.drop (k+1)).sum) G:=by simp only[uB,cy,ak,d]
 have n:=zc mix G;unfold lC;refine gy ?_ fC;unfold oB;unfold jS;have v:D.tup (c.map .int)=cD c:=rfl;rw[v]at s;generalize D.str (if mix=Ä then "mix" else "row")=w at f n;generalize aM a b mix i=R at f g |-;generalize cD c=C at q s e |-;generalize D.tup (i.map bS)=I at g m j;generalize D.tup [.str it.nm,.int it.lo,jq it.hi]=J at m o;generalize(i.map bS).take k=I1 at j e;generalize(c.drop (k+1)).map D.int=C1 at s l;generalize(c.drop (k+1)).sum=S at l |-;generalize bO (i.take k) c=E at e |-;have t:eG (b8 (aj (eV Ä) (aa 3) (eC .bw))) (b8 (aj Pj (aj az (aa 1) (aa 2)) (aa 3))) [À R,À C,À (.int k),À (jq it.hi)] G=.ok (not (nE x it.hi)) G:=by
  cases it.hi with
  |none=>rfl
  |some h=>
   have:decide (h<=x)=!decide (x<h):=by simp only[<- decide_not,Int.not_lt]
   simp[q,eV,aO,jq,nE,this]
 have r:Tv (aj (e8 Â) (aj az (aa 0) (eC (.int 2))) (eC (.str "mix"))) (tG (aj (e8 Â) (ai uB (af (eFn (jK (aa 1) (bq (aj ay (aa 2) (eC (.int 1)))) (cM))) (ah))) (eC (.int 0))) (aC 2 gh (af (eFn (jK (aj az (aa 0) (eC (.int 3))) (cM) (bq (aa 2)))) (af (aa 1) (ah))))) [À R,À C,À (.int k),À (jq it.hi)] G=.ok (.bl (mix||(S==0&&E))) G:=by
  cases mix with
  |true=>simp[f,n]
  |false=>cases F:S==0<;>simp[f,n,cI,jx,s,l,kR,F,g,j,e]
 generalize Tv _ _=X at r |-;generalize eG _ _=Y at t |-;cases z:nE x it.hi<;>rw[z]at t<;>simp[g,m,o,t,r]
def bE(m:Bool)(it:Itm):Int:=match it.hi with
 |some h=>h
 |none=>if m=Ä then it.lo else if 1 > it.lo then 1 else it.lo
def dz(m:Bool)(i:List Itm)(c:D2)(k:Nat)(it:Itm)(x:Int):D2:=
 (if m=Ä then c.take k else (i.take k).map (·.lo))++[if bE m it<x+1 then bE m it else x+1]++c.drop (k+1)
theorem JA(a b:Str)(mix:Bool)(d:List Itm)(c:D2)(W:d.length<=100)(V:c.length=d.length)(k:Nat)(it:Itm)(x:Int)(H:d[k]?=À it)(z:c[k]?=À x)(G:DH):
  sL [aM a b mix d,cD c,.int k] G=.ok (cD (dz mix d c k it x)) G:=by
 have O:k<d.length:=(Á.mp H).1;have T:gr (d.map bS) (k:Int)=À (.tup [.str it.nm,.int it.lo,jq it.hi]):=jI (by rw[Ö,H];rfl);have Q:gr (c.map D.int) (k:Int)=À (.int x):=jI (by rw[Ö,z];rfl);have s:=AV (c.map .int) k (by simp;lia) (by simp;lia) G;have m:=uN (d.map bS) k (by simp;lia) (by simp;lia) G;have g:=uN (c.map .int) k (by simp;lia) (by simp;lia) G;rw[<- aaS]at s;rw[<- aaR]at m g;unfold sL;refine gy ?_ (qN _);have P:(1:Nat)<=Ç:=lz ∅;have o:=λτ=>bF (τ:=τ) (G:=G) (gO:=oN) (ks:=[]) (tt:=bM) (te:=aj az (aa 0) (eC (.int 1))) (own:=λi:Itm=>[bS i]) (dat:=bS) (f:=λi=>.int i.lo) (c:=λ_=>Ä) (d.take k) [] (by simp;lia) (λx _=>rfl) (λx z e=>by first|rfl|simp[bM]) (λx z e=>by
  have:az (bS x) (.int 1) (G++[.lst e])=.ok (.int x.lo) (G++[.lst e]):=by simp only[bS,az,ak,Rj]
  generalize bS x=I at this |-;simp[mask,this])
 have U:(d.take k).map (λi=>D.int i.lo)=((d.take k).map (·.lo)).map .int:=by rw[ā];rfl
 simp only[á,ġ.mpr (λ_ _=>rfl),U]at o;have h:aG (((d.take k).map (·.lo)).map D.int)=Ä:=aB λ_=>b7;have hz:(((d.take k).map (·.lo)).map D.int).length<=Ç:=lz (by simp;lia);have B:=MU ((c.take k).map .int) [.int (if bE mix it<x+1 then bE mix it else x+1)] (by simp;lia) G;have p:=MU ((c.take k).map .int++[.int (if bE mix it<x+1 then bE mix it else x+1)]) ((c.drop (k+1)).map .int) (by simp;lia) G;have v:=MU (((d.take k).map (·.lo)).map .int) [.int (if bE mix it<x+1 then bE mix it else x+1)] (by simp;lia) G;have q:=MU (((d.take k).map (·.lo)).map .int++[.int (if bE mix it<x+1 then bE mix it else x+1)]) ((c.drop (k+1)).map .int) (by simp;lia) G;have S:cD (dz mix d c k it x)=.tup ((if mix=Ä then (c.take k).map D.int else ((d.take k).map (·.lo)).map D.int)++[.int (if bE mix it<x+1 then bE mix it else x+1)]++(c.drop (k+1)).map D.int):=by unfold cD dz;cases mix<;>simp
 rw[S];have u:=NS a b mix d G;have r:=NT a b mix d G;have n:az (.tup (d.map bS)) (.int k) G=.ok (.tup [.str it.nm,.int it.lo,jq it.hi]) G:=by simp only[az,ak,T]
 have E:az (.tup [.str it.nm,.int it.lo,jq it.hi]) (.int 1) G=.ok (.int it.lo) G:=by simp only[az,ak,Rj]
 have y:az (.tup [.str it.nm,.int it.lo,jq it.hi]) (.int 2) G=.ok (jq it.hi) G:=by simp only[az,ak,UE]
 have J:az (cD c) (.int k) G=.ok (.int x) G:=by simp only[cD,az,ak,Q]
 have A:=zc mix G;have N:D.tup (c.map .int)=cD c:=rfl;rw[N]at s g;unfold yT uH;generalize D.str (if mix=Ä then "mix" else "row")=w at r A;generalize aM a b mix d=R at r u |-;generalize cD c=C at J s g |-;generalize(d.take k).map bS=I1 at m o;generalize D.tup (d.map bS)=I at u n m;generalize(c.drop (k+1)).map D.int=C1 at s p q |-;generalize(c.take k).map D.int=C2 at g B p |-;generalize((d.take k).map (·.lo)).map D.int=L at o v q h hz |-;generalize D.tup [.str it.nm,.int it.lo,jq it.hi]=X at n y E;have l:∀(K F:X9),ai aZ (af (ai (eW λi j=>if j<i then j else i) (af (aj ay (aj az (aa 1) (aa 2)) (eC (.int 1))) (af (aa 5) (ah)))) (ah)) [À R,À C,À (.int k),K,F,À (.int (bE mix it))] G=.ok (.tup [.int (if bE mix it<x+1 then bE mix it else x+1)]) G:=λK F=>by simp[J,jx,eW,aZ,P]
 generalize(if bE mix it<x+1 then bE mix it else x+1)=M at B p v q l |-;generalize ai aZ _=Z at l |-;have t:(if mix=Ä then Ht (b8 (aj (eV Â) (aa 4) (eC .bw))) (aa 3) (aa 4) else Ht (b8 (aj (eV Â) (aa 4) (eC .bw))) (ai (eW λi j=>if j > i then j else i) (af (aa 3) (af (eC (.int 1)) (ah)))) (aa 4)) [À R,À C,À (.int k),À (.int it.lo),À (jq it.hi),Å] G=.ok (.int (bE mix it)) G:=by unfold bE;cases mix<;>cases it.hi<;>simp[eV,eW,jq]
 cases mix with
 |true=>rw[Α rfl]at t |-;generalize Ht (b8 (aj (eV Â) (aa 4) (eC .bw))) (aa 3) (aa 4)=Y at t |-;simp[u,n,E,y,r,A,t,cI,jx,s,g,l,B,p]
 |false=>rw[Β (by decide)]at t |-;generalize Ht (b8 (aj (eV Â) (aa 4) (eC .bw))) (ai (eW λi j=>if j > i then j else i) (af (aa 3) (af (eC (.int 1)) (ah)))) (aa 4)=Y at t |-;simp[u,n,E,y,r,A,t,cI,jx,s,m,cy,ak,o,eX h,fZ,aZ,hz,l,v,q]
section
variable{κ:Type}[DecidableEq κ]
theorem jr(k:κ):aQ ([]:List (κ×D)) k=Å:=rfl
theorem cN(p:κ×D)(l:List (κ×D))(k:κ):aQ (p::l) k=if p.1=k then À p.2 else aQ l k:=by unfold aQ;rw[Ŗ];by_cases h:p.1=k<;>simp[h]
theorem JB(a b:List (κ×D))(k:κ):aQ (a++b) k=(aQ a k).or (aQ b k):=by
 induction a with
 |nil=>simp[jr]
 |cons p a i=>rw[ī,cN,cN,i];split<;>simp
theorem dH(l:List (κ×D))(k:κ):(aQ l k).isSome=Ä↔k∈l.map (·.1):=by
 induction l with
 |nil=>simp[jr]
 |cons p l i=>
  rw[cN];by_cases h:p.1=k
  ·simp[h]
  ·rw[Β h,i];rw[É,Þ];constructor
   ·exact λz=>.inr z
   ·rintro(z|z)
    ·exact(h z.symm).elim
    ·exact z
theorem xm{l:List (κ×D)}{k:κ}(h:k∉l.map (·.1)):aQ l k=Å:=by
 cases q:aQ l k with
 |none=>rfl
 |some v=>exact(h ((dH l k).mp (by rw[q];rfl))).elim
theorem JC(l:List (κ×D))(k a:κ)(v:D):aQ (l.map λb=>if b.1=k then (b.1,v) else b) a=if a=k then (aQ l a).map λ_=>v else aQ l a:=by
 induction l with
 |nil=>simp[jr]
 |cons p l i=>rw[É,cN,cN,i];by_cases h:p.1=k<;>by_cases c:p.1=a<;>by_cases d:a=k<;>simp_all
theorem gM(l:List (κ×D))(k k':κ)(v:D):aQ (cR l k v) k'=if k'=k then À v else aQ l k':=by
 unfold cR;split
 ·rename_i h;rw[JC];by_cases e:k'=k
  ·x_go;rw[Α rfl,Α rfl];have:(aQ l k').isSome=Ä:=(dH l k').mpr (by obtain⟨x,a,e⟩:=Đ.mp h;exact ê.mpr ⟨x,a,of_decide_eq_true e⟩)
   cases q:aQ l k' with
   |none=>rw[q]at this;cases this
   |some w=>rfl
  ·rw[Β e,Β e]
 ·rename_i h;rw[JB,cN,jr];by_cases e:k'=k
  ·x_go;rw[Α rfl,Α rfl];rw[xm λb=>h (by obtain⟨x,a,e⟩:=ê.mp b;exact Đ.mpr ⟨x,a,decide_eq_true e⟩)]
   rfl
  ·rw[Β e,Β (λz=>e z.symm)];cases aQ l k'<;>rfl
theorem sM(l:List (κ×D))(k:κ)(v:D):(cR l k v).length<=l.length+1:=by unfold cR;split<;>simp
theorem zd(l:List (κ×D))(k:κ)(v:D)(h:k∉l.map (·.1)):cR l k v=l++[(k,v)]:=by
 unfold cR;rw[Β λz=>h (by obtain⟨x,a,e⟩:=Đ.mp z;exact ê.mpr ⟨x,a,of_decide_eq_true e⟩)]
end
def kC(c:D2):List Key:=c.map Sum.inl
theorem mL(c:D2):pO (cD c)=À (kC c):=by
 unfold cD kC;show cH ji (c.map D.int)=_
 induction c with
 |nil=>rfl
 |cons x c i=>rw[É,cH,i];rfl
theorem CZ{c d:D2}(h:kC c=kC d):c=d:=by unfold kC at h;exact(List.map_inj_right λ_ _ h=>Sum.inl.inj h).mp h
theorem DY(c:D2):D.tup ((kC c).map Cv)=cD c:=by unfold kC cD;rw[ā];rfl
theorem JD(a:List Itm):(a.map bS).mapIdx (λi x=>D.tup [.int i,x])=a.zipIdx.map λp=>D.tup [.int p.2,bS p.1]:=by apply ē;intro i;simp only[Ĉ,Ö,aco];cases a[i]?<;>simp
def lP(m:Bool)(i:List Itm)(F:List (Itm×Nat)):Option (D2×D)->Option (D2×D)
 |none=>Å
 |some (c,_)=>match F with
  |[(it,k)]=>match c[k]? with
   |some x=>if jS m i c k it x=Ä then À (dz m i c k it x,.tup [cD c,.int k]) else Å
   |none=>Å
  |_=>Å
def fits(i:List Itm)(nm:Str):List (Itm×Nat):=i.zipIdx.filter λp=>nm==p.1.nm
def lay0(i:List Itm):Option (D2×D):=À (i.map λ_=>0,.bw)
def pZ(m:Bool)(i:List Itm)(names:P3):Option (D2×D):=names.foldl (λl nm=>lP m i (fits i nm) l) (lay0 i)
theorem uO(m:Bool)(i:List Itm)(names:P3)(nm:Str):pZ m i (names++[nm])=lP m i (fits i nm) (pZ m i names):=by unfold pZ;rw[abC];rfl
theorem JE{i:List Itm}{nm:Str}{it:Itm}{k:Nat}(h:fits i nm=[(it,k)]):i[k]?=À it/\it.nm=nm:=by
 have:(it,k)∈fits i nm:=by rw[h];simp
 unfold fits at this;obtain⟨a,b⟩:=Ĥ.mp this;rw[ĕ]at a;exact⟨‹a›,(beq_iff_eq.mp b).symm⟩
theorem C3{m:Bool}{i:List Itm}{F:List (Itm×Nat)}{l:Option (D2×D)}{c:D2}{v:D}(h:lP m i F l=À (c,v)):
  ∃c0 v0 it k x,l=À (c0,v0)/\F=[(it,k)]/\c0[k]?=À x/\jS m i c0 k it x=Ä/\c=dz m i c0 k it x/\v=.tup [cD c0,.int k]:=by
 cases l with
 |none=>cases h
 |some cv=>
  obtain⟨c0,v0⟩:=cv
  match F,h with
  |[],h=>cases h
  |_::_::_,h=>cases h
  |[(it,k)],h=>
   unfold lP at h;dsimp only at h;cases q:c0[k]? with
   |none=>rw[q]at h;cases h
   |some x=>
    rw[q]at h;dsimp only at h;by_cases a:jS m i c0 k it x=Ä
    ·rw[Α a]at h;cases h;exact⟨c0,v0,it,k,x,rfl,rfl,q,a,rfl,rfl⟩
    ·rw[Β a]at h;cases h
theorem F9{m:Bool}{i:List Itm}{c:D2}{k:Nat}{it:Itm}{x:Int}(h:c.length=i.length)(a:k<i.length):(dz m i c k it x).length=i.length:=by unfold dz;cases m<;>simp<;>lia
def accept(m:Bool)(i:List Itm)(names:P3):Bool:=match pZ m i names with
 |some (c,_)=>bO i c
 |none=>Â
structure WF(its:List Itm):Prop where
 nd:(its.map (·.nm)).Nodup
 lo:∀i∈its,0<=i.lo
 hi:∀i∈its,∀h,i.hi=À h->i.lo<=h
theorem qP{a:List Itm}{nm:Str}(h:∀i∈a,i.nm≠nm):fits a nm=[]:=by unfold fits;rw[ĳ];rintro⟨i,k⟩ b;rw[ĕ]at b;have:=h i (ë b);simp;exact λe=>this e.symm
theorem jt{P R:List Itm}{it:Itm}(h:((P++it::R).map (·.nm)).Nodup):fits (P++it::R) it.nm=[(it,P.length)]:=by
 unfold fits;rw[ñ,É,Ę]at h;obtain⟨_,d,l⟩:=h;have c:∀i∈P,i.nm≠it.nm:=λi b e=>l i.nm (ê.mpr ⟨i,b,rfl⟩) it.nm (by simp) e;have g:∀i∈R,i.nm≠it.nm:=λi b e=>(ķ.mp d).1 (by rw[<- e];exact ê.mpr ⟨i,b,rfl⟩);rw[List.zipIdx_append,acJ,List.zipIdx_cons,ę (by simp)];have f:(P.zipIdx.filter λp=>it.nm==p.1.nm)=[]:=by rw[ĳ];rintro⟨i,k⟩ a;rw[ĕ]at a;have:=c i (ë a);simp;exact λe=>this e.symm
 have j:∀n,((R.zipIdx n).filter λp=>it.nm==p.1.nm)=[]:=by intro n;rw[ĳ];rintro⟨i,k⟩ a;have:=g i (List.fst_mem_of_mem_zipIdx a);simp;exact λe=>this e.symm
 rw[f,j];simp
def f7(m:Bool)(i:List Itm)(l:Option (D2×D))(names:P3):Bool:=match names.foldl (λl nm=>lP m i (fits i nm) l) l with
 |some (c,_)=>bO i c
 |none=>Â
theorem rM(m:Bool)(i:List Itm)(names:P3):accept m i names=f7 m i (lay0 i) names:=rfl
theorem gn(m:Bool)(i:List Itm):∀names,f7 m i Å names=Â:=by
 have:∀names:P3,names.foldl (λl nm=>lP m i (fits i nm) l) Å=Å:=by
  intro names
  induction names with
  |nil=>rfl
  |cons n t a=>rw[ą];exact a
 intro names;unfold f7;rw[this]
theorem qQ(m:Bool)(i:List Itm)(l:Option (D2×D))(n:Str)(t:P3):f7 m i l (n::t)=f7 m i (lP m i (fits i n) l) t:=rfl
theorem oF:∀{A:List Itm}{cA:D2}(B:List Itm)(c:D2),A.length=cA.length->bO (A++B) (cA++c)=(bO A cA&&bO B c)
 |[],[],B,c,_=>by simp[bO]
 |[],_::_,_,_,h=>by simp at h
 |_::_,[],_,_,h=>by simp at h
 |i::A,x::cA,B,c,h=>by have:=oF (A:=A) (cA:=cA) B c ‹h›;simp[bO,this,ű]
theorem ni:∀(P:List Itm),bO P (P.map (·.lo))=Ä
 |[]=>rfl
 |i::P=>by simp[bO,ni P]
theorem mO:∀(A:List Itm)(c d:D2),A.length<=c.length->bO A (c++d)=bO A c
 |[],c,d,_=>by simp[bO]
 |i::A,[],d,h=>by simp at h
 |i::A,x::c,d,h=>by simp[bO,mO A c d ‹h›]
def inR(i:Itm)(n:Int):Bool:=decide (i.lo<=n)&&(match i.hi with
 |some h=>decide (n<=h)
 |none=>Ä)
def lI(i:Itm)(f:P3->Bool):Int->P3->Bool
 |y,[]=>inR i y&&f []
 |y,n::t=>if n=i.nm then lI i f (y+1) t else inR i y&&f (n::t)
def dN:List Itm->P3->Bool
 |[],names=>names.isEmpty
 |i::R,names=>lI i (dN R) 0 names
theorem uP{i:Itm}{f:P3->Bool}{h:Int}(a:i.hi=À h):∀(names:P3)(y:Int),h<y->lI i f y names=Â
 |[],y,c=>by
  have:¬ y<=h:=∅
  simp[lI,inR,a,this]
 |n::t,y,c=>by
  have:¬ y<=h:=∅
  rw[lI];by_cases b:n=i.nm
  ·rw[Α b];exact uP a t (y+1) ∅
  ·rw[Β b];simp[inR,a,this]
theorem xo{n:Str}{t:P3}:∀{R:List Itm},(∀i∈R,i.nm≠n)->dN R (n::t)=Â
 |[],_=>rfl
 |i::R,h=>by rw[dN,lI,Β (λe=>h i (by simp) e.symm),xo λj a=>h j (by simp[a])];simp
def lJ(R:List Itm):Bool:=R.all λi=>decide (i.lo<=0)
theorem UG{i:Itm}(hi:∀h,i.hi=À h->0<=h):inR i 0=decide (i.lo<=0):=by
 unfold inR;cases q:i.hi with
 |none=>simp
 |some h=>simp[hi h q]
theorem DZ:∀{R:List Itm},(∀i∈R,∀h,i.hi=À h->0<=h)->dN R []=lJ R
 |[],_=>rfl
 |i::R,h=>by rw[dN,lI,DZ λj a=>h j (by simp[a]),UG (h i (by simp))];simp[lJ]
theorem AW{r:Itm}{R2:List Itm}{t:P3}:∀{R:List Itm},(∀i∈R,i.nm≠r.nm)->(∀i∈R,∀h,i.hi=À h->0<=h)->dN (R++r::R2) (r.nm::t)=(lJ R&&lI r (dN R2) 1 t)
 |[],_,_=>by rw[á,dN,lI,Α rfl];simp[lJ]
 |i::R,h,b=>by rw[ī,dN,lI,Β (λe=>h i (by simp) e.symm),AW (λj a=>h j (by simp[a])) (λj a=>b j (by simp[a])),UG (b i (by simp))];simp[lJ,ű]
theorem mP:∀(R:List Itm),bO R (R.map λ_=>0)=lJ R
 |[]=>rfl
 |i::R=>by have:=mP R;unfold lJ at this |-;simp[bO,this]
theorem qe:∀(R:List Itm),(R.map λ_=>(0:Int)).sum=0
 |[]=>rfl
 |i::R=>by simp[qe R]
theorem uQ:∀(c:D2),(∀x∈c,0<=x)->0<=c.sum
 |[],_=>by simp
 |x::c,h=>by have:=h x (by simp);have:=uQ c λy a=>h y (by simp[a]);simp;lia
def cY(it:Itm)(y:Int):Int:=if bE Â it<y then bE Â it else y
theorem ze:∀(names:P3)(P:List Itm)(cur:Itm)(R:List Itm)(y:Int)(v:D),WF (P++cur::R)->0<=y->(∀h,cur.hi=À h->y<=h)->(P=[]\/1<=cY cur y) ->
  f7 Â (P++cur::R) (À (P.map (·.lo)++cY cur y::R.map (λ_=>0),v)) names=lI cur (dN R) y names
 |[],P,cur,R,y,v,W,G,g,E=>by
  have u:∀i∈R,∀h,i.hi=À h->0<=h:=λi hi h e=>acS (W.lo i (by simp[hi])) (W.hi i (by simp[hi]) h e);show bO (P++cur::R) (P.map (·.lo)++cY cur y::R.map λ_=>0)=_;rw[oF _ _ (by simp),ni,lI,DZ u];simp only[bO,mP,Ľ];congr 1;unfold cY bE inR;cases q:cur.hi with
  |none=>simp only[abH];rw[decide_eq_decide];simp;split<;>split<;>lia
  |some h=>have:=g h q;simp only;rw[Β ∅];simp[this]
 |n::t,P,cur,R,y,v,W,G,g,E=>by
  have Z:0<=cY cur y:=by
   unfold cY bE;cases q:cur.hi with
   |none=>simp only;split<;>(try split)<;>simp at *<;>lia
   |some h=>have:=g h q;simp only;rw[Β ∅];exact G
  have c:(P.map (·.lo)).length=P.length:=by simp
  have u:∀i∈R,∀h,i.hi=À h->0<=h:=λi hi h e=>acS (W.lo i (by simp[hi])) (W.hi i (by simp[hi]) h e);rw[qQ,lI];by_cases w:n=cur.nm
  ·subst w;rw[Α rfl,jt W.nd];have l:(P.map (·.lo)++cY cur y::R.map λ_=>(0:Int))[P.length]?=À (cY cur y):=by rw[<- c,Ò (È _)];simp
   have m:jS Â (P++cur::R) (P.map (·.lo)++cY cur y::R.map λ_=>0) P.length cur (cY cur y)=nE (cY cur y) cur.hi:=by
    unfold jS;have B:(P.map (·.lo)++cY cur y::R.map λ_=>(0:Int)).drop (P.length+1)=R.map λ_=>0:=by rw[<- c,ŷ];simp
    have C:(P++cur::R).take P.length=P:=by simp
    rw[B,C,qe,mO P _ _ (by simp),ni];simp
   have A:dz Â (P++cur::R) (P.map (·.lo)++cY cur y::R.map λ_=>0) P.length cur (cY cur y)=P.map (·.lo)++(if bE Â cur<cY cur y+1 then bE Â cur else cY cur y+1)::R.map λ_=>0:=by
    unfold dz;have B:(P.map (·.lo)++cY cur y::R.map λ_=>(0:Int)).drop (P.length+1)=R.map λ_=>0:=by rw[<- c,ŷ];simp
    have C:(P++cur::R).take P.length=P:=by simp
    rw[B,C];simp
   unfold lP;k_go;rw[l];k_go;rw[m,A];by_cases a:nE (cY cur y) cur.hi=Ä
   ·rw[Α a];have p:(if bE Â cur<cY cur y+1 then bE Â cur else cY cur y+1)=cY cur (y+1):=by unfold cY;split<;>split<;>(try split)<;>lia
    have V:∀h,cur.hi=À h->y+1<=h:=by intro h q;have:=g h q;unfold nE at a;rw[q]at a;simp[cY,bE,q]at a;split at a<;>lia
    rw[p];refine ze t P cur R (y+1) _ W ∅ V (.inr ?_);unfold cY bE;cases q:cur.hi with
    |none=>simp only;simp;split<;>split<;>lia
    |some h=>have:=V h q;simp only;rw[Β ∅];lia
   ·rw[Β a,gn];cases q:cur.hi with
    |none=>rw[q]at a;exact(a rfl).elim
    |some h=>have I:=g h q;rw[q]at a;simp[nE,cY,bE,q]at a;rw[Β ∅]at a;exact(uP q t (y+1) ∅).symm
  ·rw[Β w];have z:inR cur y=decide (cur.lo<=cY cur y):=by
    unfold cY bE inR;cases q:cur.hi with
    |none=>simp only[abH];rw[decide_eq_decide];simp;split<;>split<;>lia
    |some h=>have:=g h q;simp only;rw[Β ∅];simp[this]
   by_cases k:∃r∈R,r.nm=n
   ·obtain⟨r,k,rfl⟩:=k;obtain⟨R1,R2,rfl⟩:=abq k;have M:P++cur::(R1++r::R2)=(P++cur::R1)++r::R2:=by simp
    have s:P.map (·.lo)++cY cur y::(R1++r::R2).map (λ_=>(0:Int))=(P.map (·.lo)++cY cur y::R1.map λ_=>0)++0::R2.map λ_=>0:=by simp
    have U:∀i∈R1,i.nm≠r.nm:=by intro i hi e;have:=W.nd;rw[M,ñ,É,Ę]at this;exact this.2.2 i.nm (ê.mpr ⟨i,by simp[hi],rfl⟩) r.nm (by simp) e
    rw[AW U λi hi=>u i (by simp[hi])];rw[M]at W |-;rw[s,jt W.nd];have f:(P.map (·.lo)++cY cur y::R1.map λ_=>(0:Int)).length=(P++cur::R1).length:=by simp
    have l:((P.map (·.lo)++cY cur y::R1.map λ_=>(0:Int))++0::R2.map λ_=>0)[(P++cur::R1).length]?=À 0:=by rw[<- f,Ò (È _)];simp
    have o:List.drop ((P++cur::R1).length+1) ((P.map (λi:Itm=>i.lo)++cY cur y::R1.map λ_=>(0:Int))++0::R2.map λ_=>0)=R2.map λ_=>0:=by rw[<- f,ŷ,Ĳ ∅,aai];rfl
    have F:((P++cur::R1)++r::R2).take (P++cur::R1).length=P++cur::R1:=by rw[ab3];rfl
    have m:jS Â ((P++cur::R1)++r::R2) ((P.map (·.lo)++cY cur y::R1.map λ_=>(0:Int))++0::R2.map λ_=>0) (P++cur::R1).length r 0=(nE 0 r.hi&&(inR cur y&&lJ R1)):=by unfold jS;rw[o,F,qe,mO _ _ _ (by simp),oF _ _ (by simp),ni,z];simp[bO,mP]
    have A:dz Â ((P++cur::R1)++r::R2) ((P.map (·.lo)++cY cur y::R1.map λ_=>(0:Int))++0::R2.map λ_=>0) (P++cur::R1).length r 0=(P++cur::R1).map (·.lo)++(if bE Â r<0+1 then bE Â r else 0+1)::R2.map λ_=>0:=by unfold dz;rw[o,F];simp
    unfold lP;k_go;rw[l];k_go;rw[m,A];cases hio:inR cur y&&lJ R1 with
    |false=>rw[abn,Β (by decide),gn,<- ű,hio];rfl
    |true=>
     rw[abH,<- ű,hio,Ľ];have K:=W.lo r (by simp);by_cases a:nE 0 r.hi=Ä
     ·rw[Α a];have j:∀h,r.hi=À h->1<=h:=by intro h q;rw[q]at a;simp[nE]at a;lia
      have p:(if bE Â r<0+1 then bE Â r else 0+1)=cY r 1:=by simp[cY]
      have I:1<=cY r 1:=by
       unfold cY bE;cases q:r.hi with
       |none=>simp only;simp;split<;>(try split)<;>lia
       |some h=>have:=j h q;simp only;rw[Β ∅];lia
      rw[p];exact ze t (P++cur::R1) r R2 1 _ W ∅ j (.inr I)
     ·rw[Β a,gn];cases q:r.hi with
      |none=>rw[q]at a;exact(a rfl).elim
      |some h=>rw[q]at a;simp[nE]at a;exact(uP q t 1 ∅).symm
   ·rw[xo λi hi e=>k ⟨i,hi,e⟩,abn];by_cases H:∃q∈P,q.nm=n
    ·obtain⟨q,J,rfl⟩:=H;obtain⟨b,d,rfl⟩:=abq J;have N:1<=cY cur y:=by
      rcases E with h|h
      ·simp at h
      ·exact h
     have M:(b++q::d)++cur::R=b++q::(d++cur::R):=by simp
     have s:(b++q::d).map (·.lo)++cY cur y::R.map (λ_=>(0:Int))=b.map (·.lo)++q.lo::(d.map (·.lo)++cY cur y::R.map λ_=>0):=by simp
     rw[M]at W |-;rw[s,jt W.nd];have f:(b.map (·.lo)).length=b.length:=by simp
     have l:(b.map (·.lo)++q.lo::(d.map (·.lo)++cY cur y::R.map λ_=>(0:Int)))[b.length]?=À q.lo:=by rw[<- f,Ò (È _)];simp
     have o:(b.map (·.lo)++q.lo::(d.map (·.lo)++cY cur y::R.map λ_=>(0:Int))).drop (b.length+1)=d.map (·.lo)++cY cur y::R.map λ_=>0:=by rw[<- f,ŷ,Ĳ ∅,aai];rfl
     have O:=uQ (d.map (·.lo)) λx L=>by obtain⟨i,hi,rfl⟩:=ê.mp L;exact W.lo i (by simp[hi])
     have m:jS Â (b++q::(d++cur::R)) (b.map (·.lo)++q.lo::(d.map (·.lo)++cY cur y::R.map λ_=>0)) b.length q q.lo=Â:=by
      unfold jS;rw[o];have:((d.map (·.lo)++cY cur y::R.map λ_=>(0:Int)).sum==0)=Â:=by rw[ab1,ľ,qe];simp;lia
      rw[this];simp
     unfold lP;k_go;rw[l];k_go;rw[m,Β (by decide),gn]
    ·rw[qP λi hi e=>?_]
     ·exact gn _ _ _
     ·rcases í.mp hi with h|h
      ·exact H ⟨i,h,e⟩
      ·rcases Þ.mp h with rfl|h
       ·exact w e.symm
       ·exact k ⟨i,h,e⟩
theorem C4(its:List Itm)(W:WF its)(names:P3):accept Â its names=dN its names:=by
 rw[rM];cases its with
 |nil=>
  cases names with
  |nil=>rfl
  |cons n t=>rw[qQ,qP (by simp)];exact gn _ _ _
 |cons i R=>
  have a:cY i 0=0:=by
   have b:=W.lo i (by simp);unfold cY bE;cases q:i.hi with
   |none=>simp only;simp;intro h;split at h<;>lia
   |some h=>have:=W.hi i (by simp) h q;simp only;rw[Β ∅]
  have:=ze names [] i R 0 .bw W ∅ (λh q=>acS (W.lo i (by simp)) (W.hi i (by simp) h q)) (.inl rfl);rw[a]at this;exact this
def d8(it:Itm)(y:Int):Int:=if bE Ä it<y then bE Ä it else y
def cnt(names:P3)(nm:Str):Int:=((names.filter λn=>n==nm).length:Nat)
def iP:List Itm->D2->P3->Bool
 |i::a,y::ys,names=>inR i (y+cnt names i.nm)&&iP a ys names
 |_,_,_=>Ä
def Ga:List Itm->D2->Prop
 |[],[]=>True
 |i::a,y::ys=>(0<=y/\∀h,i.hi=À h->y<=h)/\Ga a ys
 |_,_=>False
theorem xq:∀{P:List Itm}{it:Itm}{R:List Itm}{ys:D2},Ga (P++it::R) ys->∃yP y a,ys=yP++y::a/\Ga P yP/\(0<=y/\∀h,it.hi=À h->y<=h)/\Ga R a
 |[],it,R,[],h=>by simp[Ga]at h
 |[],it,R,y::ys,h=>⟨[],y,ys,rfl,trivial,h.1,h.2⟩
 |i::P,it,R,[],h=>by simp[Ga]at h
 |i::P,it,R,y::ys,h=>by obtain⟨yP,d,a,e,b,c,f⟩:=xq (P:=P) (it:=it) (R:=R) h.2;exact⟨y::yP,d,a,by rw[e];rfl,⟨h.1,b⟩,c,f⟩
theorem D0:∀{P:List Itm}{ys:D2},Ga P ys->P.length=ys.length
 |[],[],_=>rfl
 |[],_::_,h=>h.elim
 |_::_,[],h=>h.elim
 |i::P,y::ys,h=>by simp[D0 h.2]
theorem AX:∀{P:List Itm}{yP:D2}{it:Itm}{R:List Itm}{y:Int}{a:D2},Ga P yP->(0<=y/\∀h,it.hi=À h->y<=h)->Ga R a->Ga (P++it::R) (yP++y::a)
 |[],[],it,R,y,a,_,b,c=>⟨b,c⟩
 |[],_::_,_,_,_,_,h,_,_=>h.elim
 |_::_,[],_,_,_,_,h,_,_=>h.elim
 |i::P,z::yP,it,R,y,a,d,b,c=>⟨d.1,AX d.2 b c⟩
theorem uR:∀{P:List Itm}{yP:D2}{B:List Itm}{yB:D2}{names:P3},P.length=yP.length->iP (P++B) (yP++yB) names=(iP P yP names&&iP B yB names)
 |[],[],B,yB,names,_=>by simp[iP]
 |[],_::_,_,_,_,h=>by simp at h
 |_::_,[],_,_,_,h=>by simp at h
 |i::P,y::yP,B,yB,names,h=>by have:=uR (P:=P) (yP:=yP) (B:=B) (yB:=yB) (names:=names) ‹h›;simp[iP,this,ű]
theorem Rn{n nm:Str}{t:P3}(h:nm≠n):cnt (n::t) nm=cnt t nm:=by unfold cnt;rw[ń ‹λe=>h e.symm›]
theorem Ro{n:Str}{t:P3}:cnt (n::t) n=cnt t n+1:=by unfold cnt;rw[ę (by simp)];simp
theorem Rp(t:P3)(n:Str):0<=cnt t n:=by unfold cnt;lia
theorem qR{n:Str}{t:P3}:∀{P:List Itm}{yP:D2},(∀i∈P,i.nm≠n)->iP P yP (n::t)=iP P yP t
 |[],_,_=>by simp[iP]
 |_::_,[],_=>by simp[iP]
 |i::P,y::yP,h=>by rw[iP,iP,Rn (h i (by simp)),qR λj a=>h j (by simp[a])]
theorem MW{i:Itm}{y:Int}(h:0<=y/\∀h,i.hi=À h->y<=h):decide (i.lo<=d8 i y)=inR i y:=by
 unfold d8 bE inR;cases q:i.hi with
 |none=>simp only[abH];rw[decide_eq_decide];simp;split<;>lia
 |some z=>have:=h.2 z q;simp only;rw[Β ∅];simp[this]
theorem D3:∀{a:List Itm}{ys:D2},Ga a ys->bO a (ð d8 a ys)=iP a ys []
 |[],[],_=>rfl
 |[],_::_,h=>h.elim
 |_::_,[],h=>h.elim
 |i::a,y::ys,h=>by
  have e:y+cnt [] i.nm=y:=by simp[cnt]
  rw[aay,bO,iP,D3 h.2,e,MW h.1]
def known(a:List Itm)(names:P3):Bool:=names.all λn=>a.any λi=>i.nm==n
theorem D4(a:List Itm)(W:WF a):∀(names:P3)(ys:D2)(v:D),Ga a ys->f7 Ä a (À (ð d8 a ys,v)) names=(known a names&&iP a ys names)
 |[],ys,v,h=>by show bO a (ð d8 a ys)=_;rw[D3 h];simp[known]
 |n::t,ys,v,h=>by
  rw[qQ];by_cases f:∃i∈a,i.nm=n
  ·obtain⟨it,hi,rfl⟩:=f;have g:known a (it.nm::t)=known a t:=by unfold known;rw[acB,Đ.mpr ⟨it,hi,by simp⟩,Ľ]
   rw[g];obtain⟨P,R,rfl⟩:=abq hi;obtain⟨yP,y,b,rfl,j,o,w⟩:=xq h;have m:∀i∈P,i.nm≠it.nm:=by intro i hi e;have:=W.nd;rw[ñ,É,Ę]at this;exact this.2.2 i.nm (ê.mpr ⟨i,hi,rfl⟩) it.nm (by simp) e
   have p:∀i∈R,i.nm≠it.nm:=by intro i hi e;have:=W.nd;rw[ñ,É,Ę]at this;exact(ķ.mp this.2.1).1 (by rw[<- e];exact ê.mpr ⟨i,hi,rfl⟩)
   have d:=D0 j;have V:(ð d8 P yP).length=P.length:=by simp[d]
   have r:ð d8 (P++it::R) (yP++y::b)=ð d8 P yP++d8 it y::ð d8 R b:=by rw[acv d];rfl
   have f:(ð d8 P yP++d8 it y::ð d8 R b)[P.length]?=À (d8 it y):=by rw[<- V,Ò (È _)];simp
   have x:jS Ä (P++it::R) (ð d8 P yP++d8 it y::ð d8 R b) P.length it (d8 it y)=nE (d8 it y) it.hi:=by simp[jS]
   have s:dz Ä (P++it::R) (ð d8 P yP++d8 it y::ð d8 R b) P.length it (d8 it y)=ð d8 P yP++(if bE Ä it<d8 it y+1 then bE Ä it else d8 it y+1)::ð d8 R b:=by
    unfold dz;rw[Α rfl,<- V,ab3,ŷ,Ĳ ∅,aai]
    ·simp
    ·rfl
   have k:iP (P++it::R) (yP++y::b) (it.nm::t)=(iP P yP t&&(inR it (y+(cnt t it.nm+1))&&iP R b t)):=by rw[uR d,qR m,iP,Ro,qR p]
   rw[r,jt W.nd];unfold lP;k_go;rw[f];k_go;rw[x,s];by_cases c:nE (d8 it y) it.hi=Ä
   ·rw[Α c];have l:(if bE Ä it<d8 it y+1 then bE Ä it else d8 it y+1)=d8 it (y+1):=by unfold d8;split<;>split<;>(try split)<;>lia
    have u:∀h,it.hi=À h->y+1<=h:=by intro h q;have:=o.2 h q;rw[q]at c;simp[nE,d8,bE,q]at c;split at c<;>lia
    have Z:ð d8 P yP++d8 it (y+1)::ð d8 R b=ð d8 (P++it::R) (yP++(y+1)::b):=by rw[acv d];rfl
    rw[l,Z,D4 _ W t (yP++(y+1)::b) _ (AX j ⟨∅,u⟩ w),k,uR d,iP];rw[show y+1+cnt t it.nm=y+(cnt t it.nm+1) by lia]
   ·rw[Β c,gn,k];cases q:it.hi with
    |none=>rw[q]at c;exact(c rfl).elim
    |some h=>
     have A:=o.2 h q;rw[q]at c;simp[nE,d8,bE,q]at c;rw[Β ∅]at c;have z:=Rp t it.nm;have:inR it (y+(cnt t it.nm+1))=Â:=by unfold inR;rw[q];simp;intro _;lia
     rw[this];simp
  ·rw[qP λi hi e=>f ⟨i,hi,e⟩];have:known a (n::t)=Â:=by unfold known;rw[acB,acT.mpr (λi hi=>by simpa using λe=>f ⟨i,hi,e⟩),Ŭ]
   rw[this,Ŭ];exact gn _ _ _
theorem C5(a:List Itm)(W:WF a)(names:P3):accept Ä a names=(known a names&&iP a (a.map λ_=>0) names):=by
 rw[rM];have hz:∀l:List Itm,(∀i∈l,0<=i.lo)->(∀i∈l,∀h,i.hi=À h->i.lo<=h)->Ga l (l.map λ_=>0)/\ð d8 l (l.map λ_=>0)=l.map λ_=>0:=by
  intro l
  induction l with
  |nil=>intro _ _;exact⟨trivial,rfl⟩
  |cons i l g=>
   intro f c;obtain⟨b,e⟩:=g (λj d=>f j (by simp[d])) (λj d=>c j (by simp[d]));have k:=f i (by simp);refine⟨⟨⟨acp 0,λh q=>?_⟩,b⟩,?_⟩
   ·have:=c i (by simp) h q;show(0:Int)<=h;lia
   ·rw[É,aay,e];congr 1;unfold d8 bE;cases q:i.hi with
    |none=>simp only;simp;lia
    |some h=>have:=c i (by simp) h q;simp only;rw[Β ∅]
 obtain⟨b,e⟩:=hz a W.lo W.hi;have:=D4 a W names _ .bw b;rw[e]at this;exact this
def jX(f:List (Str×D)):Y1:=f.map λp=>(Sum.inr p.1,p.2)
theorem mQ(f:List (Str×D))(nm:Str):aQ (jX f) (Sum.inr nm)=aQ f nm:=by
 induction f with
 |nil=>rfl
 |cons p f i=>
  unfold jX at i |-;rw[É,cN,cN,i];by_cases h:p.1=nm
  ·simp[h]
  ·rw[Β h,Β (λe=>h (acf e))]
def aE(L:List (D2×D)):List (List Key×D):=L.map λp=>(kC p.1,p.2)
theorem nj(L:List (D2×D))(c:D2):aQ (aE L) (kC c)=aQ L c:=by
 induction L with
 |nil=>rfl
 |cons p L i=>
  unfold aE at i |-;rw[É,cN,cN,i];by_cases h:p.1=c
  ·simp[h]
  ·rw[Β h,Β (λe=>h (CZ e))]
theorem qf(L:List (D2×D))(c:D2)(v:D):cR (aE L) (kC c) v=aE (cR L c v):=by
 have e:((aE L).any λk=>decide (k.1=kC c))=L.any λk=>decide (k.1=c):=by unfold aE;rw[abY];congr 1;funext p;simp only[abI,decide_eq_decide];exact⟨CZ,λe=>by rw[e]⟩
 unfold cR;rw[e];split
 ·unfold aE;rw[ā,ā];apply ĵ;intro p _;simp only[abI];by_cases h:p.1=c
  ·rw[Α h,Α (by rw[h])]
  ·rw[Β h,Β (λz=>h (CZ z))]
 ·simp[aE]
theorem ju(L:List (D2×D)):(aE L).length=L.length:=by simp[aE]
def mR(i:List Itm)(f:List (Str×D)):List (Itm×Nat):=i.zipIdx.filter λp=>(aQ f p.1.nm).isSome
theorem C6(a b:Str)(mix:Bool)(its:List Itm)(fs:List (Str×D))(q:Nat)(dl:D)(hl:its.length<=100)(G:DH)(hq:G[q]?=À (.dct (jX fs))):
  eFn (gY (oT 2) [Â,Â,Ä] (fG (af (aj az (aa 0) (eC (.int 3))) (ah))) (b8 (aj CF (aj az (aa 1) (eC (.int 0))) (aa 4))) (aa 0)) [À (aM a b mix its),À dl,À (.obj q),Å,Å,Å,Å] G
   = .ok (.con ((mR its fs).map λp=>.int p.2)) G:=by
 have c1:=bF (τ:=[À (aM a b mix its),À dl,À (.obj q),Å,Å,Å,Å]) (G:=G) (gO:=oT 2) (ks:=[Â,Â,Ä]) (tt:=b8 (aj CF (aj az (aa 1) (eC (.int 0))) (aa 4))) (te:=aa 0) (own:=λp:Itm×Nat=>[.int p.2,bS p.1]) (dat:=λp=>D.tup [.int p.2,bS p.1]) (f:=λp=>.int p.2) (c:=λp=>(aQ fs p.1.nm).isSome) its.zipIdx [] (by simp;lia) (λp _=>rfl) (λp hp acc=>by have hg:(G++[DO.lst acc])[q]?=À (.dct (jX fs)):=aH hq;have hv:=mQ fs p.1.nm;unfold bS;simp![mask,Rk,CF,gB,hg,ji,hv]) (λp hp acc=>by simp![mask])
 rw[á,<- JD]at c1;have hcl:aG ((mR its fs).map λp=>D.int p.2)=Ä:=aB λ_=>b7;have c2:=ue (n:=G.length) (τ:=[À (aM a b mix its),À dl,À (.obj q),Å,Å,Å,Å]) (G:=G++[.lst []]) (gO:=oT 2) (ks:=[Â,Â,Ä]) (tt:=b8 (aj CF (aj az (aa 1) (eC (.int 0))) (aa 4))) (te:=aa 0) (xs:=its.map bS);rw[c1]at c2;unfold mR at hcl |-;generalize((its.zipIdx.filter λp=>(aQ fs p.1.nm).isSome).map λp=>D.int p.2)=F at hcl c2 |-;unfold aM at c2 |-;generalize its.map bS=I at c2 |-;generalize(if mix=Ä then ("mix":Str) else "row")=w at c2 |-;simp![Sf,c2,cI,eX hcl]
def stp(m:Bool)(i:List Itm)(c:D2)(a:List (D2×D))(p:Itm×Nat):List (D2×D):=match c[p.2]? with
 |some x=>if jS m i c p.2 p.1 x=Ä then cR a (dz m i c p.2 p.1 x) (.tup [cD c,.int p.2]) else a
 |none=>a
def lQ(m:Bool)(i:List Itm)(F:List (Itm×Nat))(L a:List (D2×D)):List (D2×D):=L.foldl (λa q=>F.foldl (stp m i q.1) a) a
theorem D5(m:Bool)(i:List Itm)(c:D2)(a:List (D2×D))(p:Itm×Nat):(stp m i c a p).length<=a.length+1:=by
 unfold stp;split
 ·split
  ·exact sM _ _ _
  ·lia
 ·lia
theorem uS(m:Bool)(i:List Itm)(c:D2):∀(F:List (Itm×Nat))(a:List (D2×D)),(F.foldl (stp m i c) a).length<=a.length+F.length
 |[],a=>by simp
 |p::F,a=>by have h:=D5 m i c a p;have b:=uS m i c F (stp m i c a p);simp only[ą,Ñ];lia
theorem xr(m:Bool)(i:List Itm)(F:List (Itm×Nat)):∀(L a:List (D2×D)),(lQ m i F L a).length<=a.length+L.length*F.length
 |[],a=>by simp[lQ]
 |p::L,a=>by have b:=uS m i p.1 F a;have h:=xr m i F L (F.foldl (stp m i p.1) a);unfold lQ at h |-;simp only[ą,Ñ,ŵ];lia
theorem zf(v:D)(c:D2)(A:DH)(L:List (D2×D))(h:L.length<1000000):gA v (.obj A.length) (cD c) (A++[.aU Â (aE L)])=.ok .bw (A++[.aU Â (aE (cR L c v))]):=by have a:L.length<Ç:=Õ h (lz (n:=1000000) ∅);unfold gA;rw[mL];k_go;rw[jW];k_go;rw[Α (by simpa[ju]using a),Cc,qf]
theorem uT(a b:Str)(mix:Bool)(its:List Itm)(n:its.length<=100)(c:D2)(j:c.length=its.length)(y g h:D)(G:DH):∀(F:List (Itm×Nat)),(∀p∈F,its[p.2]?=À p.1)->∀(d:List (D2×D))(o:X9),d.length+F.length<1000000 ->
  ∃M,aT (gN 6) eS (F.map λp=>.int p.2) [À (aM a b mix its),À y,À g,À h,À (.obj G.length),À (cD c),o] (G++[.aU Â (aE d)])
   = .nx [À (aM a b mix its),À y,À g,À h,À (.obj G.length),À (cD c),M] (G++[.aU Â (aE (F.foldl (stp mix its c) d))])
 |[],l,d,o,hz=>⟨o,by simp[aT]⟩
 |(it,k)::F,l,d,o,hz=>by
  have r:=l (it,k) (by simp);have u:k<its.length:=(Á.mp r).1;have i:c[k]?=À (c[k]'∅):=Ê ∅;generalize c[k]'∅=x at i;have E:=D5 mix its c d (it,k);obtain⟨M,v⟩:=uT a b mix its n c j y g h G F (λp w=>l p (by simp[w])) (stp mix its c d (it,k)) (À (.int k)) (by simp only[Ñ]at hz;lia);refine⟨M,?_⟩;have m:=Rl a b mix its c n j k it x r i (G++[.aU Â (aE d)]);have f:=JA a b mix its c n j k it x r i (G++[.aU Â (aE d)]);have e:=zf (.tup [cD c,.int k]) (dz mix its c k it x) G d (by simp only[Ñ]at hz;lia);have z:(2:Nat)<=Ç:=lz ∅;have q:stp mix its c d (it,k)=if jS mix its c k it x=Ä then cR d (dz mix its c k it x) (.tup [cD c,.int k]) else d:=by unfold stp;simp only[i]
  rw[É,ą];rw[aY rfl];simp only[Ü,Ý];have s:eS [À (aM a b mix its),À y,À g,À h,À (.obj G.length),À (cD c),À (.int k)] (G++[.aU Â (aE d)])=.nx [À (aM a b mix its),À y,À g,À h,À (.obj G.length),À (cD c),À (.int k)] (G++[.aU Â (aE (stp mix its c d (it,k)))]):=by
   rw[q];generalize dz mix its c k it x=t at f e |-;generalize aM a b mix its=R at m f |-;generalize cD c=C at m f e |-;generalize cD t=B at f e |-;generalize A:cR d t (.tup [C,.int k])=Q at e |-;cases hm:jS mix its c k it x with
   |false=>rw[hm]at m;simp![eS,m]
   |true=>rw[hm]at m;simp![eS,m,f,e,z]
  rw[s,cV];exact v
theorem uU{i:List Itm}{f:List (Str×D)}{p:Itm×Nat}(h:p∈mR i f):i[p.2]?=À p.1/\(aQ f p.1.nm).isSome=Ä:=by unfold mR at h;obtain⟨a,b⟩:=Ĥ.mp h;rw[ĕ]at a;exact⟨‹a›,b⟩
theorem MY{i:List Itm}{f:List (Str×D)}{it:Itm}{k:Nat}(h:i[k]?=À it)(a:(aQ f it.nm).isSome=Ä):(it,k)∈mR i f:=by unfold mR;refine Ĥ.mpr ⟨?_,a⟩;rw[ĕ];simpa using h
theorem AY(i:List Itm)(f:List (Str×D)):(mR i f).length<=i.length:=by unfold mR;exact ú (ū _ _) (by simp)
theorem uV(a b:Str)(m:Bool)(i:List Itm)(g:i.length<=100)(F:List (Itm×Nat))(f:∀p∈F,i[p.2]?=À p.1)(y d:D)(G:DH):∀(L:List (D2×D)),(∀p∈L,p.1.length=i.length)->∀(c:List (D2×D))(e o:X9),c.length+L.length*F.length<1000000 ->
  ∃R M,aT (gN 5) fO (L.map λp=>cD p.1) [À (aM a b m i),À y,À d,À (.con (F.map λp=>.int p.2)),À (.obj G.length),e,o] (G++[.aU Â (aE c)])
   = .nx [À (aM a b m i),À y,À d,À (.con (F.map λp=>.int p.2)),À (.obj G.length),R,M] (G++[.aU Â (aE (lQ m i F L c))])
 |[],h,c,e,o,hz=>⟨e,o,by simp[aT,lQ]⟩
 |p::L,h,c,e,o,hz=>by
  simp only[Ñ,ŵ]at hz;have n:=uS m i p.1 F c;obtain⟨M,l⟩:=uT a b m i g p.1 (h p (by simp)) y d (.con (F.map λp=>.int p.2)) G F f c o ∅;obtain⟨W,X,j⟩:=uV a b m i g F f y d G L (λq k=>h q (by simp[k])) (F.foldl (stp m i p.1) c) (À (cD p.1)) M ∅;refine⟨W,X,?_⟩;rw[É,aY rfl];simp only[Ü,Ý];have s:fO [À (aM a b m i),À y,À d,À (.con (F.map λp=>.int p.2)),À (.obj G.length),À (cD p.1),o] (G++[.aU Â (aE c)])=.nx [À (aM a b m i),À y,À d,À (.con (F.map λp=>.int p.2)),À (.obj G.length),À (cD p.1),M] (G++[.aU Â (aE (F.foldl (stp m i p.1) c))]):=by
   unfold fO;rw[fh]
   simp_all! [dQ]
   exact l
  rw[s,cV];exact j
theorem JF(a b:Str)(mix:Bool)(its:List Itm)(fs:List (Str×D))(n q:Nat)(fz:Bool)(L:List (D2×D))(hl:its.length<=100)(G:DH)
  (hg:G[n]?=À (.aU fz (aE L))) (hq:G[q]?=À (.dct (jX fs))) (hL:∀p∈L,p.1.length=its.length) (hz:L.length*its.length<1000000):
  i6 [aM a b mix its,.obj n,.obj q] G=.ok (.obj G.length) (G.set n (.aU Ä (aE L))++[.aU Â (aE (lQ mix its (mR its fs) L []))]):=by
 have hnl:n<G.length:=(Á.mp hg).1;have f0:=C6 a b mix its fs q (.obj n) hl G hq;generalize MZ:G.set n (.aU Ä (aE L))=G1;have hlen:G.length=G1.length:=by rw[<- MZ];simp
 have hget:(G++[DO.aU Â []])[n]?=À (.aU fz (aE L)):=aH hg;have Rr:(G++[DO.aU Â []]).set n (.aU Ä (aE L))=G1++[.aU Â []]:=by rw[List.set_append_left _ _ hnl,MZ]
 have hfl:=AY its fs;have hmul:L.length*(mR its fs).length<=L.length*its.length:=Ž _ hfl;obtain⟨Rq,MX,e1⟩:=uV a b mix its hl (mR its fs) (λp hp=>(uU hp).1) (.obj n) (.obj q) G1 L hL [] Å Å (by simp;lia);have ek:(aE L).map (λkv=>D.tup (kv.1.map Cv))=L.map λp=>cD p.1:=by unfold aE;rw[ā];exact ĵ λp _=>DY p.1
 generalize hR:aM a b mix its=R at f0 e1;generalize(mR its fs).map (λp=>D.int p.2)=F at f0 e1;unfold i6;rw[bG];unfold lE jQ
 simp_all! [f0]
 simp_all! [kB,gx,Jw,hget,Rr,DX,ek]
 rw[hlen];rw[show(DO.aU Â [])=DO.aU Â (aE []) from rfl,e1]
 simp_all! [dQ]
theorem AZ(m:Bool)(i:List Itm)(c:D2):∀(F:List (Itm×Nat))(a:List (D2×D))(b:D2)(v:D),aQ (F.foldl (stp m i c) a) b=À v ->
  aQ a b=À v\/∃p∈F,∃x,c[p.2]?=À x/\jS m i c p.2 p.1 x=Ä/\b=dz m i c p.2 p.1 x/\v=.tup [cD c,.int p.2]
 |[],a,b,v,h=>.inl h
 |p::F,a,b,v,h=>by
  rw[ą]at h;rcases AZ m i c F _ b v h with h|⟨q,k,x,j,f,l,g⟩
  ·unfold stp at h;cases hx:c[p.2]? with
   |none=>rw[hx]at h;exact .inl h
   |some x=>
    rw[hx]at h;dsimp only at h;by_cases d:jS m i c p.2 p.1 x=Ä
    ·rw[Α d,gM]at h;by_cases e:b=dz m i c p.2 p.1 x
     ·rw[Α e]at h;exact .inr ⟨p,by simp,x,hx,d,e,(æ h).symm⟩
     ·rw[Β e]at h;exact .inl h
    ·rw[Β d]at h;exact .inl h
  ·exact .inr ⟨q,by simp[k],x,j,f,l,g⟩
theorem qS(m:Bool)(i:List Itm)(c:D2):∀(F:List (Itm×Nat))(a:List (D2×D))(b:D2),(aQ a b).isSome=Ä->(aQ (F.foldl (stp m i c) a) b).isSome=Ä
 |[],a,b,h=>h
 |p::F,a,b,h=>by
  rw[ą];apply qS m i c F;unfold stp;split
  ·split
   ·rw[gM];split
    ·rfl
    ·exact h
   ·exact h
  ·exact h
theorem A2(m:Bool)(i:List Itm)(c:D2):∀(F:List (Itm×Nat))(a:List (D2×D))(p:Itm×Nat)(x:Int),p∈F->c[p.2]?=À x->jS m i c p.2 p.1 x=Ä->(aQ (F.foldl (stp m i c) a) (dz m i c p.2 p.1 x)).isSome=Ä
 |q::F,a,p,x,h,b,d=>by
  rw[ą];rcases Þ.mp h with rfl|h
  ·apply qS;unfold stp;rw[b];k_go;rw[Α d,gM,Α rfl];rfl
  ·exact A2 m i c F _ p x h b d
theorem qT(m:Bool)(i:List Itm)(F:List (Itm×Nat)):∀(L a:List (D2×D))(c:D2)(v:D),aQ (lQ m i F L a) c=À v ->
  aQ a c=À v\/∃q∈L,∃p∈F,∃x,q.1[p.2]?=À x/\jS m i q.1 p.2 p.1 x=Ä/\c=dz m i q.1 p.2 p.1 x/\v=.tup [cD q.1,.int p.2]
 |[],a,c,v,h=>.inl h
 |q::L,a,c,v,h=>by
  have h':aQ (lQ m i F L (F.foldl (stp m i q.1) a)) c=À v:=h;rcases qT m i F L _ c v h' with h|⟨r,b,z⟩
  ·rcases AZ m i q.1 F a c v h with h|z
   ·exact .inl h
   ·exact .inr ⟨q,by simp,z⟩
  ·exact .inr ⟨r,by simp[b],z⟩
theorem uW(m:Bool)(i:List Itm)(F:List (Itm×Nat)):∀(L a:List (D2×D))(c:D2),(aQ a c).isSome=Ä->(aQ (lQ m i F L a) c).isSome=Ä
 |[],a,c,h=>h
 |q::L,a,c,h=>uW m i F L _ c (qS m i q.1 F a c h)
theorem xu(m:Bool)(i:List Itm)(F:List (Itm×Nat)):∀(L a:List (D2×D))(q:D2×D)(p:Itm×Nat)(x:Int),q∈L->p∈F->q.1[p.2]?=À x->jS m i q.1 p.2 p.1 x=Ä->(aQ (lQ m i F L a) (dz m i q.1 p.2 p.1 x)).isSome=Ä
 |r::L,a,q,p,x,h,d,b,c=>by
  rcases Þ.mp h with rfl|h
  ·exact uW m i F L _ _ (A2 m i q.1 F a p x d b c)
  ·exact xu m i F L _ q p x h d b c
abbrev FS:=List (Str×D)
def layAt(m:Bool)(i:List Itm)(b:List FS):List (D2×D):=b.foldl (λL f=>lQ m i (mR i f) L []) [(i.map λ_=>0,.bw)]
theorem ig(m:Bool)(i:List Itm)(b:List FS)(f:FS):layAt m i (b++[f])=lQ m i (mR i f) (layAt m i b) []:=by unfold layAt;rw[abC];rfl
theorem xw(m:Bool)(i:List Itm)(c:i.length<=2):∀(n:Nat)(b:List FS),b.length=n->(layAt m i b).length<=2^n
 |0,b,h=>by have:b=[]:=Ă h;subst this;simp[layAt]
 |n+1,b,h=>by obtain⟨p,f,rfl⟩:∃p f,b=p++[f]:=⟨b.dropLast,b.getLast (by intro e;rw[e]at h;simp at h),(û _).symm⟩;have d:=xw m i c n p ‹h›;rw[ig];have a:=xr m i (mR i f) (layAt m i p) [];have g:=AY i f;have j:(layAt m i p).length*(mR i f).length<=2^n*2:=Nat.mul_le_mul d ∅;rw[acU];simp at a;lia
theorem qg{a:Type} [DecidableEq a] {l:List (a×D)} {p:a×D} (h:p∈l):(aQ l p.1).isSome=Ä:=(dH l p.1).mpr (ê.mpr ⟨p,h,rfl⟩)
theorem uX{a:Type} [DecidableEq a] {l:List (a×D)} {k:a} (h:(aQ l k).isSome=Ä):∃p∈l,p.1=k:=by obtain⟨p,b,e⟩:=ê.mp ((dH l k).mp h);exact⟨p,b,e⟩
theorem xx(m:Bool)(i:List Itm):∀(n:Nat)(b:List FS),b.length=n->∀p∈layAt m i b,p.1.length=i.length
 |0,b,h,p,c=>by have:b=[]:=Ă h;subst this;simp[layAt]at c;subst c;simp
 |n+1,b,h,p,c=>by
  obtain⟨a,f,rfl⟩:∃a f,b=a++[f]:=⟨b.dropLast,b.getLast (by intro e;rw[e]at h;simp at h),(û _).symm⟩;have j:=xx m i n a ‹h›;rw[ig]at c;have k:=qg c;obtain⟨v,o⟩:=Option.isSome_iff_exists.mp k;rcases qT m i _ _ _ _ _ o with d|⟨q,l,r,g,x,w,t,s,u⟩
  ·simp[jr]at d
  ·rw[s];exact F9 (j q l) (Á.mp (uU g).1).1
structure gS(bg:List FS)(names:P3):Prop where
 len:names.length=bg.length
 mem:∀(i:Nat)(fs:FS)(nm:Str),bg[i]?=À fs->names[i]?=À nm->(aQ fs nm).isSome=Ä
theorem gS.nil:gS [] []:=⟨rfl,λi f nm h=>by simp at h⟩
theorem gS.snoc{b:List FS}{names:P3}{f:FS}{nm:Str}(h:gS b names)(j:(aQ f nm).isSome=Ä):gS (b++[f]) (names++[nm]):=by
 refine⟨by simp[h.len],λi g n e a=>?_⟩;by_cases d:i<b.length
 ·rw[Î d]at e;rw[Î (by rw[h.len];exact d)]at a;exact h.mem i g n e a
 ·have c:i<(b++[f]).length:=(Á.mp e).1;have:i=b.length:=by simp at c;lia
  subst this;rw[Ò (È _)]at e;rw[<- h.len,Ò (È _)]at a;simp at e a;subst e a;exact j
theorem gS.JG{b:List FS}{f:FS}{w:P3}(h:gS (b++[f]) w):∃names nm,w=names++[nm]/\gS b names/\(aQ f nm).isSome=Ä:=by
 have a:w≠[]:=by intro e;have:=h.len;rw[e]at this;simp at this
 have g:w.dropLast.length=b.length:=by have:=h.len;simp at this |-;lia
 have c:=(û a);refine⟨w.dropLast,w.getLast a,c.symm,⟨g,λi j n d k=>?_⟩,?_⟩
 ·have l:i<b.length:=(Á.mp d).1;refine h.mem i j n (by rw[Î l];exact d) ?_;rw[<- c,Î ∅];exact k
 ·refine h.mem b.length f _ (by simp) ?_;have:(w.dropLast++[w.getLast a])[b.length]?=À (w.getLast a):=by rw[<- g];simp
  rw[c]at this;exact this
theorem M0{i:List Itm}(a:(i.map (·.nm)).Nodup){it:Itm}{k:Nat}(h:i[k]?=À it):fits i it.nm=[(it,k)]:=by
 obtain⟨c,e⟩:=Á.mp h;have es:i=i.take k++it::i.drop (k+1):=by rw[<- e,List.getElem_cons_drop,aaJ]
 have b:(i.take k).length=k:=by simp;lia
 have:=jt (P:=i.take k) (it:=it) (R:=i.drop (k+1)) (by rw[<- es];exact a);rw[<- es,b]at this;exact this
theorem D6(m:Bool)(i:List Itm)(d:(i.map (·.nm)).Nodup):∀(n:Nat)(b:List FS),b.length=n->∀(names:P3),gS b names->∀c v,pZ m i names=À (c,v)->(aQ (layAt m i b) c).isSome=Ä
 |0,b,h,names,a,c,v,e=>by have:b=[]:=Ă h;subst this;have:names=[]:=Ă a.len;subst this;k_ne;simp[layAt,cN]
 |n+1,b,h,names,a,c,v,e=>by obtain⟨p,g,rfl⟩:∃p g,b=p++[g]:=⟨b.dropLast,b.getLast (by intro e;rw[e]at h;simp at h),(û _).symm⟩;obtain⟨names,nm,rfl,a,y⟩:=a.JG;rw[uO]at e;obtain⟨l,v0,it,k,x,t,j,z,s,rfl,rfl⟩:=C3 e;obtain⟨w,f⟩:=JE j;have r:=D6 m i d n p ‹h› names a l v0 t;obtain⟨q,u,o⟩:=uX r;subst o;rw[ig];exact xu m i _ _ _ q (it,k) x u (MY w (by rw[f];exact y)) z s
theorem xy(m:Bool)(a:List Itm)(f:(a.map (·.nm)).Nodup)(Y:a.length<=100)(b:List FS)(L:X2)(A:DH)(O:∀i,i<=b.length->∃p C,L[i]?=À (.obj p)/\p<A.length/\A[p]?=À (.aU C (aE (layAt m a (b.take i))))):
  ∀(i:Nat),i<=b.length->i<=1000->∀(c:D2)(y:D)(t o:X9)(w:P3)(B:DH),w.length+i<=1000->(aQ (layAt m a (b.take i)) c).isSome=Ä ->
   ∃(τ':DS)(r:P3),gS (b.take i) r/\(∃v,pZ m a r=À (c,v))/\aT (gN 4) gi (((L.drop 1).take i).reverse) [À (.tup (a.map bS)),À y,À (cD c),À (.obj A.length),t,o] (A++.lst (w.map .str)::B)=.nx τ' (A++.lst ((w++r.reverse).map .str)::B)/\τ'[3]?=À (À (.obj A.length))
 |0,W,M,c,y,t,o,w,B,hw,h=>by rw[List.take_zero]at h;obtain⟨p,g,e⟩:=uX h;simp[layAt]at g;subst g;refine⟨[À (.tup (a.map bS)),À y,À (cD c),À (.obj A.length),t,o],[],‹gS.nil›,⟨.bw,by rw[<- e];rfl⟩,by simp[aT],rfl⟩
 |i+1,W,M,c,y,t,o,w,B,hw,h=>by
  obtain⟨p,C,g,hpl,hA⟩:=O (i+1) W;have N:i<b.length:=∅
  obtain⟨v,F⟩:=Option.isSome_iff_exists.mp h;have K:b.take (i+1)=b.take i++[b[i]]:=aaz N;rw[K,ig]at F;rcases qT m a _ _ _ _ _ F with h0|⟨q,hq,pr,Z9,x,P,U,Q,S⟩
  ·simp[jr]at h0
  obtain⟨it,k⟩:=pr;dsimp only at P U Q S;obtain⟨H,j⟩:=uU Z9;dsimp only at H j;have Rt:i+1<L.length:=(Á.mp g).1;have V:(L.drop 1)[i]?=À (.obj p):=by rw[acK,acN];exact g
  have e1:((L.drop 1).take (i+1)).reverse=.obj p::((L.drop 1).take i).reverse:=by
   have d:i<(L.drop 1).length:=by simp;lia
   rw[aaz d,acw];rw[Ê d]at V;rw[æ V];rfl
  have E:=qg hq;obtain⟨τ',r,X,⟨v0,J⟩,l,u⟩:=xy m a f Y b L A O i ∅ ∅ q.1 y (À (.obj p)) (À (.tup [cD q.1,.int k])) (w++[it.nm]) B (by simp;lia) E;refine⟨τ',r++[it.nm],by rw[K];exact X.snoc j,⟨.tup [cD q.1,.int k],?_⟩,?_,u⟩
  ·rw[uO,J,M0 f H];unfold lP;k_go;rw[P];k_go;rw[Α U,Q]
  rw[e1,aY rfl];have T:gr (a.map bS) (k:Int)=À (.tup [.str it.nm,.int it.lo,jq it.hi]):=jI (by rw[Ö,H];rfl);have z:(A++.lst (w.map D.str)::B)[p]?=À (.aU C (aE (layAt m a (b.take (i+1))))):=aH hA;have hz:w.length<Ç:=Õ ∅ (lz (n:=1001) ∅);have G:nD (.obj p) (cD c) (A++.lst (w.map D.str)::B)=.ok (.tup [cD q.1,.int k]) (A++.lst (w.map D.str)::B):=by unfold nD;rw[mL];k_go;rw[z];k_go;rw[nj,K,ig,F];k_go;rw[S]
  have Z:(w++(r++[it.nm]).reverse).map D.str=(w++[it.nm]++r.reverse).map D.str:=by simp
  rw[Z];rw[show(w++[it.nm]).map D.str=w.map D.str++[.str it.nm] by simp]at l;generalize a.map bS=I at T l |-;generalize cD c=C1 at G |-;generalize cD q.1=R at G l |-;have s:gi [À (.tup I),À y,À C1,À (.obj A.length),À (.obj p),o] (A++.lst (w.map D.str)::B)=.nx [À (.tup I),À y,À R,À (.obj A.length),À (.obj p),À (.tup [R,.int k])] (A++.lst (w.map D.str++[.str it.nm])::B):=by
   unfold gi
   simp_all! [jD,ng,G]
   simp![jW,Cc,hz,T,Rk,uL,qM]
  simp only[Ü,Ý,s,cV];exact l
theorem back_eq(m:Bool)(a:List Itm)(k:(a.map (·.nm)).Nodup)(x:a.length<=100)(b:List FS)(K:b.length<=900)(L:X2)(A:DH)(q:Nat)(w:A[q]?=À (.lst L))(J:L.length=b.length+1)(B:∀i,i<=b.length->∃p E,L[i]?=À (.obj p)/\p<A.length/\A[p]?=À (.aU E (aE (layAt m a (b.take i)))))
  (c:D2) (h:(aQ (layAt m a b) c).isSome=Ä):∃r v,g7 [.tup (a.map bS),.obj q,cD c] A=.ok (.con (r.map .str)) A/\gS b r/\pZ m a r=À (c,v):=by
 have t:cutD L (À 1) Å=L.drop 1:=by unfold cutD;rw[show(À (1:Int))=À ((1:Nat):Int) from rfl,HT.iV,HT.jc];rw[show min 1 L.length=1 by lia,Ĕ (by rw[ō];lia)]
 have hz:(L.drop 1).length<=Ç:=lz (by simp;lia);have H:(0:Nat)<=Ç:=é _;obtain⟨τ',r,n,⟨v,F⟩,e,z⟩:=xy m a k x b L A B b.length (È _) ∅ c (.obj q) Å Å [] [.dead] (by simp;lia) (by rw[ŏ];exact h);rw[ŏ]at n;rw[Ĕ (by simp;lia),á]at e;have j:(A++[DO.lst []])[q]?=À (.lst L):=aH w;have u:=n.len;have f:(r.reverse.map D.str).length<=Ç:=lz (by simp;lia);have d:aG ((r.reverse.map D.str).reverse)=Ä:=by rw[<- abP];exact aB λ_=>aW
 have o:(r.reverse.map D.str).reverse=r.map .str:=by rw[<- abP,List.reverse_reverse]
 refine⟨r,v,?_,n,F⟩;rw[<- o];unfold g7;refine fV (R:=[.lst (r.reverse.map .str),.dead]) ?_ (by rw[c8];exact d);rw[bG];unfold oz;have l:([]:X2).length<=Ç:=é _;generalize N:L.drop 1=M at e hz t;generalize a.map bS=I at e |-;generalize cD c=C at e |-;generalize r.reverse.map D.str=W at e f d |-;have s:=DT (g:=gN 4) (body:=gi) (xs:=M) (τ:=[À (D.tup I),À (.obj q),À C,À (.obj A.length),Å,Å]) (G:=A++[.lst [],.dead]);rw[ė]at e;rw[e]at s;have es:tF (.obj q) (À 1) Å (A++[DO.lst []])=.ok (.obj (A.length+1)) (A++[.lst [],.lst M]):=by simp only[tF,ak,j,t,aN,Α hz];simp
 have y:(Out.ok (.obj (A.length+1)) (A++[DO.lst [],.lst M])).fz=.ok (.con M) (A++[.lst [],.dead]):=II
 simp_all! [aN,Α l]
 simp_all! [Α H,gx,IK,ud,tZ,kW,m7,m6,es,y,ak,s]
 simp_all! [cI,z,pF,ak,jW,aN]
 rw[Α ‹f›];rw[eX d,nL,iR]
structure A3(G:DH)(ch:Nat)(bg:List FS)(qs:List Nat):Prop where
 lst:G[ch]?=À (.lst (qs.map .obj))
 len:qs.length=bg.length
 Yt:∀(i:Nat)(q:Nat)(fs:FS),qs[i]?=À q->bg[i]?=À fs->G[q]?=À (.dct (jX fs))
theorem A3.more{G R:DH}{ch:Nat}{b:List FS}{a:List Nat}(h:A3 G ch b a):A3 (G++R) ch b a:=
 ⟨aH h.lst,h.len,λi q f c e=>aH (h.Yt i q f c e)⟩
structure zg(mix:Bool)(its:List Itm)(G:DH)(bg:List FS)(H:DH)(L:X2):Prop where
 pre:H.take G.length=G
 lt:G.length+1<H.length
 lst:H[G.length+1]?=À (.lst L)
 len:L.length=bg.length+1
 lay:∀i,i<=bg.length->∃p fz,L[i]?=À (.obj p)/\p≠G.length+1/\G.length<=p/\H[p]?=À (.aU fz (aE (layAt mix its (bg.take i))))
theorem JH{a:Type}(xs:List a)(x:a):gr (xs++[x]) (-1)=À x:=by
 have h:zq (xs++[x]).length (-1)=À xs.length:=by unfold zq;simp;lia
 unfold gr;rw[h];simp
theorem D7{xs:X2}{d:D}(h:xs[xs.length-1]?=À d):gr xs (-1)=À d:=by
 obtain⟨b,e⟩:=Á.mp h;have a:xs≠[]:=by rintro rfl;simp at b
 have c:xs=xs.dropLast++[d]:=by rw[<- e,<- List.getLast_eq_getElem a];exact(û a).symm
 rw[c];exact JH _ _
theorem zh{G H:DH}(h:H.take G.length=G){q:Nat}{o:DO}(e:G[q]?=À o):H[q]?=À o:=by have a:q<G.length:=(Á.mp e).1;rw[<- h,ŧ,Α a]at e;exact e
theorem grow(a b:Str)(m:Bool)(c:List Itm)(N:c.length<=2)(G:DH)(ch:Nat)(s:List Nat)(g:List FS)(h:g.length<=15)(C:A3 G ch g s)(y v:D):
  ∀(r d:List FS)(H:DH)(L:X2)(K o:X9),g=d++r->zg m c G d H L ->
   ∃(S:X9)(H':DH)(T:X2),zg m c G g H' T/\nX (gN 4) fP ch (r.length+1) d.length [À (aM a b m c),À y,À v,À (.obj (G.length+1)),K,o] H=.nx [À (aM a b m c),À y,À v,À (.obj (G.length+1)),S,o] H'
 |[],d,H,L,K,o,j,I=>by rw[ó]at j;subst j;refine⟨K,H,L,I,Ag (zh I.pre C.lst) ?_⟩;rw[Ö,ö (by rw[C.len];exact È _)];rfl
 |t::r,d,H,L,K,o,j,I=>by
  obtain⟨p,fz,h1,h2,h3,J⟩:=I.lay d.length (È _);rw[ŏ]at J;have hn:d.length+(r.length+1)<=15:=by rw[j]at h;simpa using h
  have Q:g[d.length]?=À t:=by rw[j];simp
  have P:d.length<s.length:=by rw[C.len,j];simp
  have l:s[d.length]?=À (s[d.length]):=Ê P;generalize s[d.length]=q at l;have M:=C.Yt _ q t l Q;have U:=zh I.pre M;have UI:=xw m c N _ d rfl;have O:2^d.length<=2^15:=aa0 ∅ ∅;have hm:(layAt m c d).length*c.length<=2^15*2:=Nat.mul_le_mul (ú UI O) N;have F:=JF a b m c t p q fz (layAt m c d) ∅ H J U (xx m c _ d rfl) ∅;rw[<- ig]at F;have hpl:p<H.length:=(Á.mp J).1;have w:gr L (-1)=À (.obj p):=D7 (by rw[I.len];exact h1);have hlt:=I.lt;generalize A:H.set p (.aU Ä (aE (layAt m c d)))++[.aU Â (aE (layAt m c (d++[t])))]=B at F;have hl1:B.length=H.length+1:=by rw[<- A];simp
  have W:B[G.length+1]?=À (.lst L):=by rw[<- A,Î (by simp;lia),Í h2];exact I.lst
  have hz:L.length<Ç:=Õ (by rw[I.len];lia) (lz (n:=1001) ∅);have I2:zg m c G (d++[t]) (B.set (G.length+1) (.lst (L++[.obj H.length]))) (L++[.obj H.length]):=by
   have k:∀q:Nat,q<H.length->q≠G.length+1->q≠p->(B.set (G.length+1) (.lst (L++[.obj H.length])))[q]?=H[q]?:=by intro q l hq1 hq2;rw[Í ∅,<- A,Î (by simp;lia),Í ∅]
   refine⟨?_,by simp;lia,?_,by simp[I.len],λi hi=>?_⟩
   ·apply ē;intro q;by_cases l:q<G.length
    ·have:=I.pre;rw[ŧ,Α l];have e:G[q]?=H[q]?:=by
      conv=>lhs;rw[<- I.pre]
      rw[ŧ,Α l]
     rw[e,k q ∅ ∅ ∅]
    ·rw[ö (by simp;lia),ö ∅]
   ·rw[å,Α rfl,Α ∅]
   ·by_cases z:i<=d.length
    ·obtain⟨q,f,k1,k2,k3,E⟩:=I.lay i z;have Y:q<H.length:=(Á.mp E).1;rw[Ł z];have kL:(L++[D.obj H.length])[i]?=À (.obj q):=by rw[Î (by rw[I.len];lia)];exact k1
     by_cases UJ:q=p
     ·subst UJ;rw[J]at E;have e2:aE (layAt m c (d.take i))=aE (layAt m c d):=by have:=æ E;injection this with _ e3;exact e3.symm
      refine⟨q,Ä,kL,k2,k3,?_⟩;rw[e2,Í ∅,<- A,Î (by simp;lia),å,Α rfl,Α Y]
     ·exact⟨q,f,kL,k2,k3,by rw[k q Y k2 UJ];exact E⟩
    ·have V:i=d.length+1:=by simp at hi;lia
     subst V;refine⟨H.length,Â,?_,∅,∅,?_⟩
     ·rw[<- I.len,Ò (È _)];simp
     ·rw[Ĕ (by simp),Í ∅,<- A];rw[Ò (by simp)];simp
  obtain⟨S,H',T,I',X⟩:=grow a b m c N G ch s g h C y v r (d++[t]) _ _ (À (.obj q)) o (by rw[j];simp) I2;refine⟨S,H',T,I',?_⟩;have u:fP [À (aM a b m c),À y,À v,À (.obj (G.length+1)),À (.obj q),o] H=.nx [À (aM a b m c),À y,À v,À (.obj (G.length+1)),À (.obj q),o] (B.set (G.length+1) (.lst (L++[.obj H.length]))):=by have Z:=I.lst;generalize aM a b m c=R at F |-;generalize G.length+1=q at W Z |-;unfold fP;simp![Z,w,F,W,hz]
  rw[Ñ,yz (zh I.pre C.lst) (x:=.obj q) (by rw[Ö,l];rfl) rfl];simp only[Ü,Ý,u,cV];rw[Û]at X;exact X
theorem xA(m:Bool)(its:List Itm)(g:its.length<=100)(R Ch y:D)(o:X9)(H:DH)(a:D2->P3):∀(L:List (D2×D))(d:X9),(∀p∈L,bO its p.1=Ä->g7 [.tup (its.map bS),y,cD p.1] H=.ok (.con ((a p.1).map .str)) H) ->
  (∃p∈L,bO its p.1=Ä/\aT (gN 5) bW (L.map λp=>cD p.1) [À R,À Ch,À (.tup (its.map bS)),À y,o,d] H=.rt (.con ((a p.1).map .str)) H) \/
  ((∀p∈L,bO its p.1=Â)/\∃f,aT (gN 5) bW (L.map λp=>cD p.1) [À R,À Ch,À (.tup (its.map bS)),À y,o,d] H=.nx [À R,À Ch,À (.tup (its.map bS)),À y,o,f] H)
 |[],d,h=>.inr ⟨λp i=>by simp at i,d,by simp[aT]⟩
 |p::L,d,h=>by
  have e:=xj its p.1 g H;have c:=h p (by simp);rw[É,aY rfl];simp only[Ü,Ý];cases he:bO its p.1 with
  |true=>
   refine .inl ⟨p,by simp,he,?_⟩;have c:=c he;rw[he]at e;generalize its.map bS=It at e c |-;generalize cD p.1=C at e c |-;generalize(a p.1).map D.str=r at c |-;have s:bW [À R,À Ch,À (.tup It),À y,o,À C] H=.rt (.con r) H:=by simp![bW,e,c]
   rw[s];rfl
  |false=>
   rw[he]at e;have s:bW [À R,À Ch,À (.tup (its.map bS)),À y,o,À (cD p.1)] H=.nx [À R,À Ch,À (.tup (its.map bS)),À y,o,À (cD p.1)] H:=by generalize its.map bS=It at e |-;generalize cD p.1=C at e |-;simp![bW,e]
   rw[s,cV];rcases xA m its g R Ch y o H a L (À (cD p.1)) (λq b=>h q (by simp[b]))with⟨q,b,e1,e2⟩|⟨e1,f,e2⟩
   ·exact .inl ⟨q,by simp[b],e1,e2⟩
   ·refine .inr ⟨λq b=>?_,f,e2⟩;rcases Þ.mp b with rfl|b
    ·exact he
    ·exact e1 q b
theorem Gd(a b:Str)(mix:Bool)(its:List Itm)(hl:its.length<=2)(l:(its.map (·.nm)).Nodup)(d:List FS)(Y:d.length<=15)(G:DH)(ch:Nat)(B:List Nat)(C:A3 G ch d B):
  (∃r,gS d r/\accept mix its r=Ä/\fE [aM a b mix its,.obj ch] G=.ok (.con (r.map .str)) G)\/((∀r,gS d r->accept mix its r=Â)/\fE [aM a b mix its,.obj ch] G=.ok .bw G):=by
 have T:zg mix its G [] (G++[.aU Â (aE [(its.map λ_=>0,.bw)]),.lst [.obj G.length]]) [.obj G.length]:=by
  refine⟨by simp,by simp,?_,rfl,λi K=>?_⟩
  ·rw[Ò ∅];simp
  ·have:i=0:=‹K›
   subst this;refine⟨G.length,Â,rfl,∅,È _,?_⟩;rw[jW];rfl
 obtain⟨M,H,L,I,N⟩:=grow a b mix its hl G ch B d Y C (.obj ch) (.tup (its.map bS)) d [] _ _ Å Å rfl T;obtain⟨p,O,h1,h2,h3,y⟩:=I.lay d.length (È _);rw[ŏ]at y;have m:p<H.length:=(Á.mp y).1;have t:gr L (-1)=À (.obj p):=D7 (by rw[I.len];exact h1);have A:=zb a b mix its ∅ (G++[.aU Â []]);have np:=zf .bw (its.map λ_=>0) G [] (by simp);have J:(1:Nat)<=Ç:=lz ∅;generalize n:H.set p (.aU Ä (aE (layAt mix its d)))=g;have W:g[G.length+1]?=À (.lst L):=by rw[<- n,Í h2];exact I.lst
 have k:g=G++g.drop G.length:=by
  have:g.take G.length=G:=by rw[<- n,Ĵ h3];exact I.pre
  conv=>lhs;rw[<- aaJ G.length g,this]
 have Q:∀i,i<=d.length->∃p O,L[i]?=À (.obj p)/\p<g.length/\g[p]?=À (.aU O (aE (layAt mix its (d.take i)))):=by
  intro i K;obtain⟨q,f,k1,k2,k3,x⟩:=I.lay i K;have Sg:q<H.length:=(Á.mp x).1;by_cases U:p=q
  ·subst U;rw[y]at x;have u:aE (layAt mix its (d.take i))=aE (layAt mix its d):=by have:=æ x;injection this with _ e3;exact e3.symm
   refine⟨p,Ä,k1,by rw[<- n];simpa using m,?_⟩;rw[u,<- n,å,Α rfl,Α m]
  ·exact⟨q,f,k1,by rw[<- n];simpa using Sg,by rw[<- n,Í U];exact x⟩
 have gl:=I.lst;have F:=C.lst;have Xb:i7 [À (aM a b mix its),À (.obj ch),Å,Å,Å,Å] G=fQ [À (aM a b mix its),À (.obj ch),À (.tup (its.map bS)),À (.obj (G.length+1)),M,Å] H:=by
  have ix:∀τ G,aj az (aa 0) (eC (.int 3)) (À (aM a b mix its)::τ) G=.ok (.tup (its.map bS)) G:=by intro τ G;unfold aM;simp![Sf]
  have dn:∀τ,ai aN (af (mE (aC 1 iG (af (aa 0) ah)) (eC .bw)) ah) (À (aM a b mix its)::τ) G=.ok (.obj (G.length+1)) (G++[.aU Â (aE [(its.map λ_=>0,.bw)]),.lst [.obj G.length]]):=by intro τ;have X:gA .bw (.obj G.length) (cD (its.map λ_=>0)) (G++[.aU Â []])=.ok .bw (G++[.aU Â (aE [(its.map λ_=>0,.bw)])]):=np;generalize aM a b mix its=R at A |-;generalize cD (its.map λ_=>0)=Z at A X;generalize aE [(its.map λ_=>0,.bw)]=K0 at X |-;simp![A,X,J,aN]
  have Xe:(G++[DO.aU Â (aE [(its.map λ_=>0,.bw)]),.lst [.obj G.length]])[ch]?=À (.lst (B.map .obj)):=aH F;unfold i7;rw[f6,mq,ix,rF,gw];simp only[Ü,Ý];rw[f6,mq,dn,rF,gw];simp only[Ü,Ý];rw[f6,fh]
  simp_all! [Xe,Ú]
  rw[C.len];rw[ņ]at N;rw[N,gw]
 have ek:(aE (layAt mix its d)).map (λkv=>D.tup (kv.1.map Cv))=(layAt mix its d).map λp=>cD p.1:=by unfold aE;rw[ā];exact ĵ λp _=>DY p.1
 have V:fQ [À (aM a b mix its),À (.obj ch),À (.tup (its.map bS)),À (.obj (G.length+1)),M,Å] H=(aT (gN 5) bW ((layAt mix its d).map λp=>cD p.1) [À (aM a b mix its),À (.obj ch),À (.tup (its.map bS)),À (.obj (G.length+1)),M,Å] g).sq (b9 (eC .bw)):=by
  unfold fQ
  simp_all! [gx,Jw,Il,Im,az,ak,gl,t,y,n,DX,ek]
 have w:∀r,(aT (gN 5) bW ((layAt mix its d).map λp=>cD p.1) [À (aM a b mix its),À (.obj ch),À (.tup (its.map bS)),À (.obj (G.length+1)),M,Å] g).sq (b9 (eC .bw))=.rt r g->r.closed=Ä->fE [aM a b mix its,.obj ch] G=.ok r G:=by
  intro r h P;unfold fE;refine fV (R:=g.drop G.length) ?_ P;rw[<- k,bG]
  simp_all! [dQ]
  rw[Xb,V,h,iR]
 have s:∀c:D2,∃r:P3,(aQ (layAt mix its d) c).isSome=Ä->(∃v,g7 [.tup (its.map bS),.obj (G.length+1),cD c] g=.ok (.con (r.map .str)) g/\gS d r/\pZ mix its r=À (c,v)):=by
  intro c;by_cases h:(aQ (layAt mix its d) c).isSome=Ä
  ·obtain⟨r,v,z⟩:=back_eq mix its l ∅ d ∅ L g (G.length+1) W I.len Q c h;exact⟨r,λ_=>⟨v,z⟩⟩
  ·exact⟨[],λz=>(h z).elim⟩
 obtain⟨o,j⟩:=Classical.axiomOfChoice s;rcases xA mix its ∅ (aM a b mix its) (.obj ch) (.obj (G.length+1)) M g o (layAt mix its d) Å (λp hp _=>by obtain⟨v,z,_⟩:=j p.1 (qg hp);exact z)with⟨q,E,u,e3⟩|⟨u,Rq,e3⟩
 ·obtain⟨v,z1,z2,z3⟩:=j q.1 (qg E);refine .inl ⟨o q.1,z2,?_,w _ ?_ ?_⟩
  ·unfold accept;rw[z3];exact u
  ·rw[e3];rfl
  ·rw[c8];exact aB λ_=>aW
 ·refine .inr ⟨λr S=>?_,w _ ?_ ug⟩
  ·unfold accept;cases JI:pZ mix its r with
   |none=>rfl
   |some cv=>obtain⟨c,v⟩:=cv;obtain⟨q,E,e⟩:=uX (D6 mix its l _ d rfl r S c v JI);have:=u q E;rw[e]at this;exact this
  ·rw[e3,gw,tX,L5,nL]
inductive T where
 |nd (k:Str) (ps:List T)
mutual
def T.d:T->D
 |.nd k p=>.tup [.str k,.tup (dL p)]
def dL:List T->X2
 |[]=>[]
 |t::r=>t.d::dL r
end
mutual
def T.prs(p:D2):T->List (D2×T)
 |.nd k a=>(p,.nd k a)::qU p 0 a
def qU(p:D2)(j:Int):List T->List (D2×T)
 |[]=>[]
 |t::r=>t.prs (p++[j])++qU p (j+1) r
end
mutual
def T.subs:T->List T
 |.nd k p=>.nd k p::br p
def br:List T->List T
 |[]=>[]
 |t::r=>t.subs++br r
end
theorem jT:∀a:List T,dL a=a.map T.d
 |[]=>rfl
 |t::r=>by rw[dL,jT r,É]
mutual
theorem JJ(p:D2):∀t:T,(t.prs p).map (·.2)=t.subs
 |.nd k a=>by rw[T.prs,T.subs,É,xB p 0 a]
theorem xB(p:D2)(j:Int):∀a:List T,(qU p j a).map (·.2)=br a
 |[]=>rfl
 |t::r=>by rw[qU,br,ñ,JJ _ t,xB p (j+1) r]
end
mutual
theorem qh:∀t:T,t.d.closed=Ä
 |.nd k p=>by rw[T.d,kZ,bh,bh,aW,kZ,xC p];rfl
theorem xC:∀a:List T,aG (dL a)=Ä
 |[]=>rfl
 |t::r=>by rw[dL,bh,qh t,xC r];rfl
end
theorem C7{xs:X2}(h:aG xs=Ä):aG xs.reverse=Ä:=by
 induction xs with
 |nil=>rfl
 |cons x xs i=>
  rw[bh]at h;have h':x.closed=Ä/\aG xs=Ä:=‹h›
  rw[Ń,jE,i h'.2];simp[bh,h'.1,dF]
abbrev pl(p:D2):D:=cD p
theorem D8(xs ys:X2)(G:DH)(h:xs.length+ys.length<=Ç):ay (.tup xs) (.tup ys) G=.ok (.tup (xs++ys)) G:=by
 cases xs with
 |nil=>rfl
 |cons x xs=>show aZ (x::xs++ys) G=_;rw[aZ,Α (by simp at h |-;lia)]
def gq(x:D2×T):D:=.tup [pl x.1,x.2.d]
theorem C8(p:D2):(pl p).closed=Ä:=by exact qN p
theorem jw(x:D2×T):(gq x).closed=Ä:=by rw[gq,kZ,bh,bh,C8,qh];rfl
def kids(p:D2)(j:Int):List T->List (D2×T)
 |[]=>[]
 |t::r=>(p++[j],t)::kids p (j+1) r
theorem A4(p:D2):∀(a:List T)(j:Int),(kids p j a).length=a.length
 |[],j=>rfl
 |t::r,j=>by rw[kids,Ñ,A4 p r,Ñ]
theorem xD(p:D2):∀(a:List T)(j:Int),qU p j a=(kids p j a).flatMap λx=>x.2.prs x.1
 |[],j=>rfl
 |t::r,j=>by rw[qU,kids,aaA,xD p r]
def kf(p:D2):D->D
 |.tup [.int i,y]=>.tup [.tup (p.map .int++[.int i]),y]
 |_=>.bw
def Ru:D->X2
 |.tup xs=>xs
 |_=>[]
theorem A5(p:D2):∀(a:List T)(j:Nat),((dL a).mapIdx λi x=>D.tup [.int ((i+j:Nat):Int),x]).map (kf p)=(kids p (j:Int) a).map gq
 |[],j=>rfl
 |t::r,j=>by
  have b:=A5 p r (j+1);rw[dL,kids,Ÿ,É,É];congr 1
  ·simp[kf,gq,pl,cD]
  ·rw[show((j+1:Nat):Int)=(j:Int)+1 by lia]at b;rw[<- b];congr 1;apply ē;intro i;simp only[Ĉ];congr 1;funext x;rw[show i+1+j=i+(j+1) by lia]
theorem JK(p:D2)(k:Str)(a:List T)(A:p.length<=1000)(w:a.length<=1000)(G:DH):cJ [gq (p,.nd k a)] G=.ok (.con ((kids p 0 a).map gq)) G:=by
 have z:(1:Nat)<=Ç:=lz ∅;have r:(2:Nat)<=Ç:=lz ∅;have Y:gq (p,.nd k a)=.tup [.tup (p.map .int),.tup [.str k,.tup (dL a)]]:=by rw[gq,T.d];rfl
 have o:(dL a).length=a.length:=by rw[jT,Ú]
 have n:∀(x y:D),gr [x,y] 0=À x:=λx y=>by have:=bH (xs:=[x,y]) (j:=0) (v:=x) rfl;z_go
 have m:∀(x y:D),gr [x,y] 1=À y:=λx y=>by have:=bH (xs:=[x,y]) (j:=1) (v:=y) rfl;z_go
 have e:=A5 p a 0;simp only[acR,Int.natCast_zero]at e;have g:=m8 (τ:=[À (gq (p,.nd k a))]) (G:=G) (gO:=oT 2) (ks:=[Ä]) (te:=ai aZ (af (aj ay (aj az (aa 2) (eC (.int 0))) (ai aZ (af (aa 0) (ah)))) (af (aa 1) (ah)))) (own:=Ru) (f:=kf p) ((dL a).mapIdx λi x=>D.tup [.int (i:Int),x]) [] (by simp;lia) (λx h=>by
   obtain⟨i,t,rfl⟩:=adf.mp h;simp[oT,Ru]) (λx h b=>by
   obtain⟨i,t,rfl⟩:=adf.mp h;rw[Y];have c:=D8 (p.map .int) [.int (i:Int)] (G++[.lst b]) (lz (by simp;lia));generalize(dL a)[i]=y;simp only[Ru,kf]at c |-;generalize p.map D.int=u at c |-
   simp_all! [mask,az,ak,n,aZ,Α (show 0+1<=Ç from z),Α (show 0+1+1<=Ç from r),c])
 rw[e,á]at g;refine gy ?_ (by rw[c8];exact aB jw);have s:eFn (gY (oT 2) [Ä] (fG (af (aj az (aj az (aa 0) (eC (.int 1))) (eC (.int 1))) (ah))) (bM) (ai aZ (af (aj ay (aj az (aa 2) (eC (.int 0))) (ai aZ (af (aa 0) (ah)))) (af (aa 1) (ah))))) [À (gq (p,.nd k a))] G=.ok (.con ((kids p 0 a).map gq)) G:=by
  rw[cI];have l:gY (oT 2) [Ä] (fG (af (aj az (aj az (aa 0) (eC (.int 1))) (eC (.int 1))) (ah))) (bM) (ai aZ (af (aj ay (aj az (aa 2) (eC (.int 0))) (ai aZ (af (aa 0) (ah)))) (af (aa 1) (ah)))) [À (gq (p,.nd k a))] G=.ok (.obj G.length) (G++[.lst ((kids p 0 a).map gq)]):=by
   rw[<- g,<- ue];have q:∀G,fG (af (aj az (aj az (aa 0) (eC (.int 1))) (eC (.int 1))) (ah)) [À (gq (p,.nd k a))] G=.ok ((dL a).length+1,jj (dL a)) G:=λG=>by
    rw[Y]
    simp_all! [kr,az,ak,m]
   rw[Ij,q,dQ]
  rw[l,eX (aB jw)]
 unfold jl
 simp_all! [bG,Nat.sub_self,List.replicate_zero,ó,s]
def tot:List (D2×T)->Nat
 |[]=>0
 |x::r=>x.2.subs.length+tot r
theorem zj:∀xs ys:List (D2×T),tot (xs++ys)=tot xs+tot ys
 |[],ys=>by simp[tot]
 |x::xs,ys=>by rw[ī,tot,tot,zj xs ys];lia
theorem A6(p:D2):∀(a:List T)(j:Int),tot (kids p j a)=(br a).length
 |[],j=>rfl
 |t::r,j=>by rw[kids,tot,A6 p r,br,Û]
theorem mS(t:T):1<=t.subs.length:=by cases t;rw[T.subs,Ñ];lia
theorem nk:∀a:List T,a.length<=(br a).length
 |[]=>é _
 |t::r=>by have:=mS t;have:=nk r;rw[br,Û,Ñ];lia
theorem D9:∀w:List (D2×T),w.length<=tot w
 |[]=>é _
 |x::r=>by have:=mS x.2;have:=D9 r;rw[tot,Ñ];lia
theorem UK:Ō ("placed_parts":Str) [("placed_parts",cJ)]=À cJ:=by simp[Ō]
theorem A7{y:Str}{m:X2->M D}(h:Ō y [("placed_parts",cJ)]=À m)(A:DH)(a k:X9)(F R P:X2)(d:D)(l:∀H,m [d] H=.ok (.con P) H)(b:aG P=Ä)(o:F.length<=1000)(p:R.length+P.length<=2000):
  fL [a,À (.fn y),À (.obj A.length),À (.obj (A.length+1)),k] (A++[.lst F,.lst (R++[d])])=.nx [a,À (.fn y),À (.obj A.length),À (.obj (A.length+1)),À d] (A++[.lst (F++[d]),.lst (R++P.reverse)]):=by
 have z:F.length<Ç:=Õ ∅ (lz (n:=1001) ∅);have f:R.length+P.reverse.length<=Ç:=lz (by simp;lia);have j:P.reverse.length<=Ç:=lz (by simp;lia);have e:∀H,eFn (ai pF (af (oh 1 1 (λy=>Ō y [("placed_parts",cJ)]) (af (aa 4) (ah))) (ah))) [a,À (.fn y),À (.obj A.length),À (.obj (A.length+1)),À d] H=.ok (.con P.reverse) H:=λH=>by
  rw[cI]
  simp_all! [Io,h,l,pF,ak]
  rw[eu j (C7 b)]
 generalize c:eFn (ai pF (af (oh 1 1 (λy=>Ō y [("placed_parts",cJ)]) (af (aa 4) (ah))) (ah)))=E at e;have g:(R++[d])[(R++[d]).length-1]?=À d:=by simp
 have i:(R++[d]).dropLast=R:=by simp
 unfold fL;rw[c]
 simp_all! [jD,jh,c7,jW,Vo,beq_self_eq_true,zU,g,i,Yh,aP,Α z,Cc,kg,e,Ah,mw,Α f]
theorem rN(A:DH)(e:X9):∀(n:Nat)(F:List (D2×T))(w:List (D2×T))(d:X9),tot w<n->F.length+tot w<=1000->(∀x∈w,x.1.length+x.2.subs.length<=1000) ->
  ∃m,dJ (b8 (aj kK (ai aL (af (aa 3) (ah))) (eC (.int 0)))) fL n [e,À (.fn "placed_parts"),À (.obj A.length),À (.obj (A.length+1)),d] (A++[.lst (F.map gq),.lst (w.map gq).reverse]) =
   .nx [e,À (.fn "placed_parts"),À (.obj A.length),À (.obj (A.length+1)),m] (A++[.lst ((F++w.flatMap λx=>x.2.prs x.1).map gq),.lst []])
 |0,F,w,d,h,_,_=>∅
 |n+1,F,[],d,h,g,o=>by
  refine⟨d,?_⟩
  simp_all! [kh,aL,ak,Vo,ac3,aO,ac4,ó]
  rw[show decide ((0:Int)<((0:Nat):Int))=Â from by decide,Ce,mY]
 |n+1,F,(p,.nd k a)::w,d,h,g,o=>by
  have D:=o (p,.nd k a) (by simp);simp only[T.subs,Ñ]at D;rw[tot]at h g;simp only[T.subs,Ñ]at h g;have H:=nk a;have J:=A6 p a 0;have G:=D9 w;have I:=A4 p a 0;obtain⟨m,C⟩:=rN A e n (F++[(p,.nd k a)]) (kids p 0 a++w) (À (gq (p,.nd k a))) (by rw[zj];lia) (by rw[zj];simp;lia) (λx b=>by
   rcases í.mp b with b|b
   ·have i:∀(f:List T)(j:Int),x∈kids p j f->x.1.length=p.length+1/\x.2.subs.length<=(br f).length:=by
     intro f
     induction f with
     |nil=>intro j b;simp[kids]at b
     |cons t r y=>
      intro j b;rw[kids]at b;rw[br,Û];rcases Þ.mp b with rfl|b
      ·exact⟨by simp,by simp⟩
      ·obtain⟨s,z⟩:=y _ b;exact⟨s,∅⟩
    obtain⟨s,z⟩:=i a 0 b;lia
   ·exact o x (by simp[b]))
  refine⟨m,?_⟩;have q:=A7 UK A e d (F.map gq) (w.map gq).reverse ((kids p 0 a).map gq) (gq (p,.nd k a)) (JK p k a ∅ ∅) (aB jw) (by simp;lia) (by simp;lia);have u:(((p,T.nd k a)::w).map gq).reverse=(w.map gq).reverse++[gq (p,.nd k a)]:=by simp
  have l:((w.map gq).reverse++((kids p 0 a).map gq).reverse)=((kids p 0 a++w).map gq).reverse:=by simp
  have E:F.map gq++[gq (p,T.nd k a)]=(F++[(p,T.nd k a)]).map gq:=by simp
  have B:(F++((p,T.nd k a)::w).flatMap λx=>x.2.prs x.1)=(F++[(p,.nd k a)]++(kids p 0 a++w).flatMap λx=>x.2.prs x.1):=by rw[aaA,T.prs,List.flatMap_append,<- xD];simp
  rw[l,E]at q;rw[u,B];have c:decide ((0:Int)<(((w.map gq).reverse++[gq (p,.nd k a)]).length:Int))=Ä:=by simp
  have v:b8 (aj kK (ai aL (af (aa 3) (ah))) (eC (.int 0))) [e,À (.fn "placed_parts"),À (.obj A.length),À (.obj (A.length+1)),d] (A++[.lst (F.map gq),.lst ((w.map gq).reverse++[gq (p,.nd k a)])])=.ok Ä (A++[.lst (F.map gq),.lst ((w.map gq).reverse++[gq (p,.nd k a)])]):=by
   generalize(w.map gq).reverse++[gq (p,.nd k a)]=L at c
   simp_all! [aL,ak,Vo,aO,c]
  rw[kh,v,Cd,Ip,q,cV,C]
theorem Ge(t:T)(c:t.subs.length<=500)(G:DH):lB [gq ([],t),.fn "placed_parts"] G=.ok (.con ((t.prs []).map gq)) G:=by
 have z:(1:Nat)<=Ç:=lz ∅;obtain⟨f,e⟩:=rN G (À (gq ([],t))) fuel [] [([],t)] Å (by simp[tot,fuel];lia) (by simp[tot];lia) (λx b=>by rw[è.mp b];simp;lia);simp only[ė,É,Ń,ac3,á,aaA,ac4,ó]at e;refine fV (R:=[.dead,.lst []]) ?_ (by rw[c8];exact aB jw);have a:aN [] G=.ok (.obj G.length) (G++[.lst []]):=by simp[aN]
 generalize(t.prs []).map gq=L at e;generalize gq ([],t)=d at e;have h:aN [d] (G++[.lst []])=.ok (.obj (G.length+1)) (G++[.lst [],.lst [d]]):=by simp[aN,z]
 unfold lA;simp![a,h,e]
theorem xE(t:T)(h:t.subs.length<=500)(G:DH):gE [t.d] G=.ok (.con ((t.prs []).map gq)) G:=by have a:(0:Nat)<=Ç:=é _;have z:(2:Nat)<=Ç:=lz ∅;have e:=Ge t h G;have ep:gq ([],t)=.tup [.tup [],t.d]:=rfl;rw[ep]at e;refine gy ?_ (by rw[c8];exact aB jw);generalize t.d=d at e;unfold jm;simp![e,z]
def iK(r:List P3)(S:P3):List P3:=r.flatMap λa=>S.map λnm=>a++[nm]
def bA(S:List P3):List P3:=S.foldl iK [[]]
theorem qk(a:List P3)(S:P3):bA (a++[S])=iK (bA a) S:=by unfold bA;rw[abC];rfl
theorem uY{a:List P3}{S w:P3}:w∈iK a S↔∃r∈a,∃nm∈S,w=r++[nm]:=by
 unfold iK;rw[List.mem_flatMap];constructor
 ·rintro⟨r,c,h⟩;obtain⟨nm,b,e⟩:=ê.mp h;exact⟨r,c,nm,b,e.symm⟩
 ·rintro⟨r,c,nm,b,e⟩;exact⟨r,c,ê.mpr ⟨nm,b,e.symm⟩⟩
abbrev fU(f:FS):P3:=f.map (·.1)
theorem nq:∀(n:Nat)(b:List FS),b.length=n->∀w,gS b w↔w∈bA (b.map fU)
 |0,b,h,w=>by
  have:b=[]:=Ă h;subst this;constructor
  ·intro a;have:w=[]:=Ă a.len;subst this;simp[bA]
  ·intro c;simp[bA]at c;subst c;exact gS.nil
 |n+1,b,h,w=>by
  obtain⟨p,f,rfl⟩:∃p f,b=p++[f]:=⟨b.dropLast,b.getLast (by intro e;rw[e]at h;simp at h),(û _).symm⟩;have i:=nq n p ‹h›;rw[ñ,É,ė,qk,uY];constructor
  ·intro a;obtain⟨names,nm,rfl,a,g⟩:=a.JG;exact⟨names,(i names).mp a,nm,(dH f nm).mp g,rfl⟩
  ·rintro⟨r,a,nm,d,rfl⟩;exact((i r).mpr a).snoc ((dH f nm).mpr d)
structure dw where
 nm:Str
 kd:Str
 mix:Bool
 its:List Itm
def aJ(r:dw):D:=aM r.nm r.kd r.mix r.its
structure vS(r:dw):Prop where
 two:r.its.length<=2
 wf:WF r.its
 sn:Ð r.nm=Ä
 sk:Ð r.kd=Ä
 si:∀i∈r.its,Ð i.nm=Ä
def sy(S:List P3)(k:Str)(r:dw):Bool:=r.kd==k&&(bA S).any (accept r.mix r.its)
def i9(p:dw->Bool)(a:P3)(r:dw):P3:=if p r=Ä/\r.nm∉a then a++[r.nm] else a
def Gf(p:dw->Bool)(r:List dw):P3:=r.foldl (i9 p) []
structure M4(all:List dw)(bg:List FS)(kd:Str)(acc:FS):Prop where
 val:∀nm d,aQ acc nm=À d->∃(n:Nat)(r:dw)(row:P3),all[n]?=À r/\r.nm=nm/\r.kd=kd/\gS bg row/\accept r.mix r.its row=Ä/\d=.tup [.int n,.con (row.map .str)]
theorem M5(f:FS)(nm:Str)(v:D):cR (jX f) (Sum.inr nm) v=jX (cR f nm v):=by
 have e:((jX f).any λk=>decide (k.1=Sum.inr nm))=f.any λk=>decide (k.1=nm):=by unfold jX;rw[abY];congr 1;funext p;simp only[abI,decide_eq_decide];exact⟨acf,λe=>by rw[e]⟩
 unfold cR;rw[e];split
 ·unfold jX;rw[ā,ā];apply ĵ;intro p _;simp only[abI];by_cases h:p.1=nm
  ·rw[Α h,Α (by rw[h])]
  ·rw[Β h,Β (λz=>h (acf z))]
 ·simp[jX]
theorem JL{a b c d:D}:gr [a,b,c,d] 0=À a:=bH (j:=0) rfl
theorem JM{a b c d:D}:gr [a,b,c,d] 1=À b:=bH (j:=1) rfl
theorem Ea(f:List dw)(j:∀r∈f,vS r)(c:List FS)(Y:c.length<=15)(k:Str)(t:Ð k=Ä)(G:DH)(ch:Nat)(L:List Nat)(C:A3 G ch c L)(I:D):
  ∀(l:List (dw×Nat)),(∀p∈l,f[p.2]?=À p.1)->∀(acc:FS)(K J o:X9),acc.length+l.length<=1000->M4 f c k acc ->
   ∃(b:FS)(τ:DS),M4 f c k b/\fU b=(l.map (·.1)).foldl (i9 (sy (c.map fU) k)) (fU acc)/\τ[3]?=À (À (.obj G.length)) /\
    aT (gP 4 5) bP (l.map λp=>.tup [.int p.2,aJ p.1]) [À I,À (.str k),À (.obj ch),À (.obj G.length),K,J,o] (G++[.dct (jX acc)])=.nx τ (G++[.dct (jX b)])
 |[],O,acc,K,J,o,hz,m=>⟨acc,[À I,À (.str k),À (.obj ch),À (.obj G.length),K,J,o],m,rfl,rfl,by simp[aT]⟩
 |(r,n)::l,O,acc,K,J,o,hz,m=>by
  have M:=O (r,n) (by simp);dsimp only at M;have P:=j r (ë M);have U:acc.length<Ç:=Õ (by simp at hz;lia) (lz (n:=1001) ∅);have h2:(2:Nat)<=Ç:=lz ∅;have B:e8 Â (.str r.kd) (.str k) (G++[.dct (jX acc)])=.ok (.bl (r.kd==k)) (G++[.dct (jX acc)]):=by rw[iy Â _ _ _ P.sk t,Ų]
  have v:=mQ acc r.nm;have g:(aQ acc r.nm).isSome=Ä↔r.nm∈fU acc:=dH acc r.nm;have W:=Gd r.nm r.kd r.mix r.its P.two P.wf.nd c Y (G++[.dct (jX acc)]) ch L C.more
  have u:∃(s:FS)(S:X9),M4 f c k s/\s.length<=acc.length+1/\fU s=i9 (sy (c.map fU) k) (fU acc) r /\
    bP [À I,À (.str k),À (.obj ch),À (.obj G.length),À (.int n),À (aJ r),o] (G++[.dct (jX acc)])=.nx [À I,À (.str k),À (.obj ch),À (.obj G.length),À (.int n),À (aJ r),S] (G++[.dct (jX s)]):=by
   by_cases Q:r.kd=k
   ·have h:(r.kd==k)=Ä:=‹Q›
    rw[h]at B;by_cases y:r.nm∈fU acc
    ·refine⟨acc,o,m,∅,?_,?_⟩
     ·unfold i9;rw[Β (λz=>z.2 y)]
     ·have V:=g.mpr y;obtain⟨dv,Rv⟩:=Option.isSome_iff_exists.mp V;rw[Rv]at v;unfold aJ aM bP;generalize(if r.mix=Ä then ("mix":Str) else "row")=w;generalize r.its.map bS=It;simp![JL,JM,B,gC,gB,ji,v,jW]
    ·have V:aQ acc r.nm=Å:=by
      cases q:aQ acc r.nm with
      |none=>rfl
      |some d=>exact(y (g.mp (by rw[q];rfl))).elim
     rw[V]at v;rcases W with⟨a,Z,ha,i⟩|⟨T,i⟩
     ·have A:sy (c.map fU) k r=Ä:=by unfold sy;rw[h,Ľ,Đ];exact⟨a,(nq _ c rfl a).mp Z,ha⟩
      have Xg:cR acc r.nm (.tup [.int n,.con (a.map .str)])=acc++[(r.nm,.tup [.int n,.con (a.map .str)])]:=zd _ _ _ y;refine⟨cR acc r.nm (.tup [.int n,.con (a.map .str)]),À (.con (a.map .str)),⟨λnm d x=>?_⟩,sM _ _ _,?_,?_⟩
      ·rw[gM]at x;by_cases e:nm=r.nm
       ·rw[Α e]at x;exact⟨n,r,a,M,e.symm,Q,Z,ha,(æ x).symm⟩
       ·rw[Β e]at x;exact m.val nm d x
      ·unfold i9;rw[Α ⟨A,y⟩,Xg];simp
      ·have X:wL (.tup [.int n,.con (a.map .str)]) (.obj G.length) (.str r.nm) (G++[.dct (jX acc)])=.ok .bw (G++[.dct (jX (cR acc r.nm (.tup [.int n,.con (a.map .str)])))]):=by
        unfold wL;have Vx:(jX acc).length<Ç:=by simpa[jX]using U
        simp only[ji,jW,Α Vx,Cc,M5]
       generalize cR acc r.nm (.tup [.int n,.con (a.map .str)])=A1 at X |-;have N:aJ r=aM r.nm r.kd r.mix r.its:=rfl;rw[<- N]at i;generalize a.map D.str=rw0 at i X |-;have E:∀H,az (aJ r) (.int 0) H=.ok (.str r.nm) H:=λH=>by unfold aJ aM;simp![JL]
       have F:∀H,az (aJ r) (.int 1) H=.ok (.str r.kd) H:=λH=>by unfold aJ aM;simp![JM]
       generalize aJ r=R at i E F |-;unfold bP fX;simp[aZ,B,gC,gB,ji,v,jW,i,eV,X,h2,E,F]
     ·have A:sy (c.map fU) k r=Â:=by unfold sy;rw[h,Ľ,acT];intro w hw;rw[T w ((nq _ c rfl w).mpr hw)];decide
      refine⟨acc,À .bw,m,∅,?_,?_⟩
      ·unfold i9;rw[Β (λz=>by rw[A]at z;exact absurd z.1 (by decide))]
      ·have N:aJ r=aM r.nm r.kd r.mix r.its:=rfl;rw[<- N]at i;have E:∀H,az (aJ r) (.int 0) H=.ok (.str r.nm) H:=λH=>by unfold aJ aM;simp![JL]
       have F:∀H,az (aJ r) (.int 1) H=.ok (.str r.kd) H:=λH=>by unfold aJ aM;simp![JM]
       generalize aJ r=R at i E F |-;unfold bP fX;simp[B,gC,gB,ji,v,jW,i,eV,E,F]
   ·have h:(r.kd==k)=Â:=‹Q›
    rw[h]at B;refine⟨acc,o,m,∅,?_,?_⟩
    ·unfold i9 sy;rw[h,Ŭ,Β (by simp)]
    ·unfold aJ aM bP;generalize(if r.mix=Ä then ("mix":Str) else "row")=w;generalize r.its.map bS=It;simp![JL,JM,B]
  obtain⟨s,S,k1,k2,k3,k4⟩:=u;obtain⟨b,τ,j1,j2,j3,j4⟩:=Ea f j c Y k t G ch L C I l (λp A=>O p (by simp[A])) s (À (.int n)) (À (aJ r)) S (by simp at hz;lia) k1;refine⟨b,τ,j1,?_,j3,?_⟩
  ·rw[j2,k3];rfl
  ·rw[É,aY rfl];simp only[Ü,Ý,k4,cV];exact j4
theorem C9(r:List dw):(r.map aJ).mapIdx (λi x=>D.tup [.int i,x])=r.zipIdx.map λp=>D.tup [.int p.2,aJ p.1]:=by apply ē;intro i;simp only[Ĉ,Ö,aco];cases r[i]?<;>simp
theorem UM(a:List dw)(hz:a.length<=100)(e:∀r∈a,vS r)(b:List FS)(o:b.length<=15)(k:Str)(c:Ð k=Ä)(G:DH)(ch:Nat)(q:List Nat)(C:A3 G ch b q):
  ∃f,gG [.tup (a.map aJ),.str k,.obj ch] G=.ok (.obj G.length) (G++[.dct (jX f)])/\M4 a b k f/\fU f=Gf (sy (b.map fU) k) a:=by
 obtain⟨f,τ,n,m,s,j⟩:=Ea a e b o k c G ch q C (.tup (a.map aJ)) a.zipIdx (λp l=>by rw[ĕ]at l;simpa using l) [] Å Å Å (by simp;lia) ⟨λnm d h=>by simp[jr]at h⟩
 refine⟨f,?_,n,?_⟩
 ·rw[<- C9]at j;have i:=w4 (g:=gP 4 5) (body:=bP) (xs:=a.map aJ) (τ:=[À (.tup (a.map aJ)),À (.str k),À (.obj ch),À (.obj G.length),Å,Å,Å]) (G:=G++[.dct []]);rw[show(DO.dct [])=DO.dct (jX []) from rfl,j]at i;generalize a.map aJ=R at i |-;unfold gG;rw[bG];unfold jn
  simp_all! [Mj,gx,kr,ak]
  rw[show(DO.dct [])=DO.dct (jX []) from rfl,i]
  simp_all! [s]
 ·rw[m];unfold Gf;congr 1;simp
mutual
def cE(r:List dw):T->P3
 |.nd k p=>Gf (sy (ql r p) k) r
def ql(a:List dw):List T->List P3
 |[]=>[]
 |t::r=>cE a t::ql a r
end
theorem uZ(a:List dw):∀b:List T,ql a b=b.map (cE a)
 |[]=>by rw[ql];rfl
 |t::r=>by rw[ql,uZ a r,É]
structure UN(rs:List dw)(k:Str)(Ss:List P3)(fs:FS):Prop where
 keys:fU fs=Gf (sy Ss k) rs
 val:∀nm d,aQ fs nm=À d->∃(n:Nat)(r:dw)(row:P3),rs[n]?=À r/\r.nm=nm/\r.kd=k/\row∈bA Ss/\accept r.mix r.its row=Ä/\d=.tup [.int n,.con (row.map .str)]
abbrev PD:=List (D2×D)
mutual
def Ct(r:List dw)(H:DH)(b:PD)(p:D2):T->Prop
 |.nd k a=>(∃q f,aQ b p=À (.obj q)/\H[q]?=À (.dct (jX f))/\UN r k (ql r a) f)/\BH r H b p 0 a
def BH(a:List dw)(H:DH)(k:PD)(p:D2)(j:Int):List T->Prop
 |[]=>True
 |t::r=>Ct a H k (p++[j]) t/\BH a H k p (j+1) r
end
mutual
theorem M6{r:List dw}{H H':DH}{d b:PD}(c:∀(q:Nat) o,H[q]?=À (.dct o)->H'[q]?=À (.dct o)):∀(t:T)(p:D2),(∀a,p <+: a->aQ b a=aQ d a)->Ct r H d p t->Ct r H' b p t
 |.nd k f,p,e,h=>by rw[Ct]at h |-;obtain⟨⟨q,n,l,g,m⟩,i⟩:=h;exact⟨⟨q,n,by rw[e p (Ť p)];exact l,c q _ g,m⟩,qp c f p 0 (λj _ a s=>e a (Ķ (Ĩ p [j]) s)) i⟩
theorem qp{e:List dw}{H H':DH}{f a:PD}(d:∀(q:Nat) o,H[q]?=À (.dct o)->H'[q]?=À (.dct o)):∀(g:List T)(p:D2)(j:Int),(∀b,j<=b->∀k,(p++[b]) <+: k->aQ a k=aQ f k)->BH e H f p j g->BH e H' a p j g
 |[],p,j,c,h=>by rw[BH];trivial
 |t::r,p,j,c,h=>by rw[BH]at h |-;exact⟨M6 d t (p++[j]) (c j ∅) h.1,qp d r p (j+1) (λb i=>c b ∅) h.2⟩
end
theorem sN{p k:D2}{i j:Int}(h:(p++[i]) <+: k)(c:(p++[j]) <+: k):i=j:=by obtain⟨a,rfl⟩:=h;obtain⟨b,e⟩:=c;simp at e;exact e.1.symm
theorem gQ{p:D2}{j:Int}:¬ (p++[j]) <+: p:=λh=>by have:=h.length_le;simp at this;lia
def Yv:T->Prop
 |.nd k p=>Ð k=Ä/\p.length<=8
def vU(t:T):Prop:=∀s∈t.subs,Yv s
def Dc(t:List T):Prop:=∀s∈br t,Yv s
theorem vU.node{k:Str}{p:List T}(h:vU (.nd k p)):(Ð k=Ä/\p.length<=8)/\Dc p:=
 ⟨h (.nd k p) (by rw[T.subs];simp),λs a=>h s (by rw[T.subs];simp[a])⟩
theorem Dc.cons{t:T}{r:List T}(h:Dc (t::r)):vU t/\Dc r:=⟨λs a=>h s (by rw[br];simp[a]),λs a=>h s (by rw[br];simp[a])⟩
def cO(nm:Str)(r:List dw):D:=.tup [.str nm,.tup (r.map aJ)]
theorem BH.kids{m:List dw}{H:DH}{n:PD}{p:D2}:∀{t:List T}{j:Int},BH m H n p j t->∃(c:List Nat)(d:List FS),c.length=t.length/\d.length=t.length/\d.map fU=ql m t/\(∀(i q:Nat),c[i]?=À q->aQ n (p++[j+(i:Int)])=À (.obj q))/\∀(i q:Nat)(f:FS),c[i]?=À q->d[i]?=À f->H[q]?=À (.dct (jX f))
 |[],j,h=>⟨[],[],rfl,rfl,by rw[ql];rfl,λi q e=>by simp at e,λi q f e=>by simp at e⟩
 |.nd k B::r,j,h=>by
  rw[BH,Ct]at h;obtain⟨⟨⟨q,f,w,u,A⟩,_⟩,o⟩:=h;obtain⟨c,d,v,y,s,x,z⟩:=BH.kids o;refine⟨q::c,f::d,by simp[v],by simp[y],?_,?_,?_⟩
  ·rw[É,s,ql,cE,A.keys]
  ·intro i l e;cases i with
   |zero=>simp at e;x_go;simpa using w
   |succ i=>have:=x i l ‹e›;rw[show j+((i+1:Nat):Int)=j+1+(i:Int) by lia];exact this
  ·intro i l g a b;cases i with
   |zero=>simp at a b;subst a b;exact u
   |succ i=>exact z i l g ‹a› ‹b›
theorem De(q:List Nat):((ç 0 q.length).map λ(k:Nat)=>D.int (0+(k:Int))).map (λd=>match d with|.int i=>D.obj (q.getD i.toNat 0)|_=>.bw)=q.map .obj:=by
 apply ē;intro i;simp only[Ö];by_cases h:i<q.length
 ·rw[acq h,Ê h];simp[Ê h]
 ·rw[ö (by simp;lia),ö ∅];rfl
theorem Df(nm:Str)(l:List dw)(hz:l.length<=100)(M:∀r∈l,vS r)(A B:DH)(o:PD)(U:o.length<1000000)(p:D2)(hp:p.length<=900)(k:Str)(g:List T)(hk:Ð k=Ä)(hps:g.length<=15)(E:D)(R:X9)(h:BH l (A++.aU Â (aE o)::B) o p 0 g):
  ∃m B',UN l k (ql l g) m/\B'[1]?=À (DO.dct (jX m))/\aX [À (cO nm l),À E,À (.obj A.length),À (cD p),À (T.nd k g).d,R] (A++.aU Â (aE o)::B)=.nx [À (cO nm l),À E,À (.obj A.length),À (cD p),À (T.nd k g).d,À (.obj (A.length+1+B.length))] (A++.aU Â (aE (cR o p (.obj (A.length+1+B.length+1))))::(B++B')):=by
 obtain⟨c,J,W,e2,e3,e4,X⟩:=h.kids;generalize I:A++DO.aU Â (aE o)::B=H at h X |-;have t:H.length=A.length+1+B.length:=by rw[<- I];simp;lia
 have N:∀e,(H++[DO.lst e])[A.length]?=À (.aU Â (aE o)):=λe=>by rw[<- I];simp
 have hr:=kU (j:=(g.length:Int)) ∅ ∅;have K:=m8 (τ:=[À (cO nm l),À E,À (.obj A.length),À (cD p),À (T.nd k g).d,R]) (G:=H) (gO:=oN) (ks:=[Â,Â,Ä,Ä]) (te:=iS (aa 3) (aj ay (aa 4) (ai aZ (af (aa 0) (ah))))) (own:=λx=>[x]) (f:=λd=>match d with|.int i=>D.obj (c.getD i.toNat 0)|_=>.bw) ((ç 0 c.length).map λ(k:Nat)=>D.int (0+(k:Int))) [] (by simp;lia) (λx _=>rfl) (λx hx e=>by
  obtain⟨i,hi,rfl⟩:=ê.mp hx;have z:i<c.length:=by rw[Ņ]at hi;lia
  have hq:c[i]?=À (c[i]):=Ê z;have hv:=e4 i _ hq;have z1:(1:Nat)<=Ç:=lz ∅;have F:ay (cD p) (.tup [.int (0+(i:Int))]) (H++[.lst e])=.ok (cD (p++[0+(i:Int)])) (H++[.lst e]):=by unfold cD;rw[D8 _ _ _ (lz (by simp;lia))];simp
  have Y:nD (.obj A.length) (cD (p++[0+(i:Int)])) (H++[.lst e])=.ok (.obj c[i]) (H++[.lst e]):=by unfold nD;rw[mL];k_go;rw[N];k_go;rw[nj,hv]
  have hf:(match D.int (0+(i:Int))with|.int i=>D.obj (c.getD i.toNat 0)|_=>.bw)=D.obj c[i]:=by simp[z]
  rw[hf];generalize cD (p++[0+(i:Int)])=P1 at F Y;generalize cD p=P0 at F |-;rw[abZ]at F;simp[mask,aZ,z1,F,Y])
 rw[De,á]at K;have C:A3 (H++[.lst (c.map .obj)]) H.length J c:=by refine⟨jW _ _ _,by rw[W,e2],λi q m a b=>aH (X i q m a b)⟩
 obtain⟨m,v,f2,f3⟩:=UM l hz M J ∅ k hk (H++[.lst (c.map .obj)]) H.length c C;rw[e3]at f3;refine⟨m,[.lst (c.map .obj),.dct (jX m)],⟨f3,λnm d hd=>?_⟩,rfl,?_⟩
 ·obtain⟨n,r,y,g1,g2,g3,g4,g5,g6⟩:=f2.val nm d hd;exact⟨n,r,y,g1,g2,g3,by rw[<- e3];exact(nq _ J rfl y).mp g4,g5,g6⟩
 ·have L:(H++[DO.lst (c.map .obj)]).length=A.length+1+B.length+1:=by simp[t]
  rw[L]at v;have s:gA (.obj (A.length+1+B.length+1)) (.obj A.length) (cD p) (H++[.lst (c.map .obj)]++[.dct (jX m)])=.ok .bw (A++.aU Â (aE (cR o p (.obj (A.length+1+B.length+1))))::(B++[.lst (c.map .obj),.dct (jX m)])):=by
   have h0:o.length<Ç:=Õ U (lz (n:=1000000) ∅);have eh:H++[DO.lst (c.map .obj)]++[.dct (jX m)]=A++.aU Â (aE o)::(B++[.lst (c.map .obj),.dct (jX m)]):=by rw[<- I];simp
   rw[eh];unfold gA;rw[mL];k_go;rw[jW];k_go;rw[Α (by simpa[ju]using h0),Cc,qf]
  rw[<- t]at s v |-;have O:(dL g).length=g.length:=by rw[jT,Ú]
  have Z:e7 [.int ((dL g).length:Int)]=À ((ç 0 c.length).map λ(k:Nat)=>D.int (0+(k:Int))):=by rw[O,hr,W];simp
  have w:cT e7 oN [Â,Â,Ä,Ä] (af (ai aL (af (aj az (aa 4) (eC (.int 1))) (ah))) (ah)) (bM) (iS (aa 3) (aj ay (aa 4) (ai aZ (af (aa 0) (ah))))) [À (cO nm l),À E,À (.obj A.length),À (cD p),À (T.nd k g).d,R] H=.ok (.obj H.length) (H++[.lst (c.map .obj)]):=by
   rw[<- K];rw[T.d]at K |-;generalize dL g=dl at Z |-
   simp_all! [pK,az,ak,qM,aL,Z]
  have u:∀G,az (cO nm l) (.int 1) G=.ok (.tup (l.map aJ)) G:=λG=>by unfold cO;simp![qM]
  have V:∀G,az (T.nd k g).d (.int 0) G=.ok (.str k) G:=λG=>by rw[T.d];simp![uL]
  generalize l.map aJ=RS at v u;generalize cO nm l=S at w u |-;generalize(T.nd k g).d=td at w V |-;generalize cD p=P at w s |-;generalize c.map D.obj=Q at w v s |-;unfold aX
  simp_all! [w,uC,u,V,v,s,kg]
structure NV(rs:List dw)(A B:DH)(kv kv':PD)(B':DH)(P:D2->Prop)(n:Nat):Prop where
 out:∀key,¬ P key->aQ kv' key=aQ kv key
 len:kv'.length<=kv.length+n
theorem A9{A B b:DH}{c k:PD}:∀(q:Nat) o,(A++DO.aU Â (aE c)::B)[q]?=À (.dct o)->(A++DO.aU Â (aE k)::(B++b))[q]?=À (.dct o):=by
 intro q o h;by_cases a:q<A.length
 ·rw[Î a]at h |-;exact h
 ·rw[Ò ∅]at h |-;cases hq:q-A.length with
  |zero=>rw[hq]at h;simp at h
  |succ i=>rw[hq,Ĭ]at h;rw[Ĭ];exact aH h
mutual
theorem NW(nm:Str)(g:List dw)(hz:g.length<=100)(o:∀r∈g,vS r)(A:DH)(y:D):∀(t:T)(p:D2)(B:DH)(n:PD)(u C v:X9)(a:X2),vU t->p.length+t.subs.length<=900->n.length+t.subs.length<1000000 ->
  ∃(f:PD)(w:DH)(E F q:X9),NV g A B n f w (λb=>p <+: b) t.subs.length/\Ct g (A++.aU Â (aE f)::(B++w)) f p t /\
   aT (gP 3 4) aX ((t.prs p).reverse.map gq++a) [À (cO nm g),À y,À (.obj A.length),u,C,v] (A++.aU Â (aE n)::B)=aT (gP 3 4) aX a [À (cO nm g),À y,À (.obj A.length),E,F,q] (A++.aU Â (aE f)::(B++w))
 |.nd k l,p,B,n,u,C,v,a,O,N,S=>by
  obtain⟨⟨x,R⟩,z⟩:=O.node;rw[T.subs,Ñ]at N S;obtain⟨U,c,E,F,q,s,G,P⟩:=NX nm g hz o A y l p 0 B n u C v (gq (p,.nd k l)::a) z ∅ ∅;obtain⟨L,Q,J,I,M⟩:=Df nm g hz o A (B++c) U (by have:=s.len;lia) p ∅ k l x ∅ y q G;refine⟨cR U p (.obj (A.length+1+(B++c).length+1)),c++Q,À (cD p),À (T.nd k l).d,À (.obj (A.length+1+(B++c).length)),⟨λb h=>?_,?_⟩,?_,?_⟩
  ·have m:b≠p:=λe=>h (by rw[e];exact Ť p);rw[gM,Β m];exact s.out b λzz=>by obtain⟨j,_,K⟩:=zz;exact h (Ķ (Ĩ p [j]) K)
  ·have:=sM U p (.obj (A.length+1+(B++c).length+1));have:=s.len;rw[T.subs,Ñ];lia
  ·rw[Ct];refine⟨⟨A.length+1+(B++c).length+1,L,by rw[gM,Α rfl],?_,J⟩,?_⟩
   ·rw[<- â,Ò ∅];have:A.length+1+(B++c).length+1-A.length=(B++c).length+1+1:=∅
    rw[this,Ĭ,Ò ∅];rw[show(B++c).length+1-(B++c).length=1 by lia];exact I
   ·rw[<- â];refine qp (A9) l p 0 (λH _ b i=>?_) G;have m:b≠p:=λe=>gQ (p:=p) (j:=H) (by rw[e]at i;exact i);rw[gM,Β m]
  ·rw[T.prs,Ń,ñ,É,ė,â,ace,P];have ep:gq (p,T.nd k l)=.tup [cD p,(T.nd k l).d]:=rfl;rw[ep,aY rfl];simp only[Ü,Ý,M,cV,â]
theorem NX(nm:Str)(c:List dw)(hz:c.length<=100)(n:∀r∈c,vS r)(A:DH)(y:D):∀(f:List T)(p:D2)(j:Int)(B:DH)(e:PD)(o l i:X9)(a:X2),Dc f->p.length+1+(br f).length<=900->e.length+(br f).length<1000000 ->
  ∃(b:PD)(C:DH)(q s z:X9),NV c A B e b C (λk=>∃g,j<=g/\(p++[g]) <+: k) (br f).length/\BH c (A++.aU Â (aE b)::(B++C)) b p j f /\
   aT (gP 3 4) aX ((qU p j f).reverse.map gq++a) [À (cO nm c),À y,À (.obj A.length),o,l,i] (A++.aU Â (aE e)::B)=aT (gP 3 4) aX a [À (cO nm c),À y,À (.obj A.length),q,s,z] (A++.aU Â (aE b)::(B++C))
 |[],p,j,B,e,o,l,i,a,F,E,H=>by
  refine⟨e,[],o,l,i,⟨λ_ _=>rfl,∅⟩,?_,?_⟩
  ·rw[BH];trivial
  ·rw[qU];simp
 |t::r,p,j,B,e,o,l,i,a,F,E,H=>by
  obtain⟨u,X⟩:=F.cons;rw[br,Û]at E H;obtain⟨U,G,q,s,z,x,P,N⟩:=NX nm c hz n A y r p (j+1) B e o l i ((t.prs (p++[j])).reverse.map gq++a) X ∅ ∅;obtain⟨w,O,L,M,J,v,K,Q⟩:=NW nm c hz n A y t (p++[j]) (B++G) U q s z a u (by simp;lia) (by have:=x.len;lia);refine⟨w,G++O,L,M,J,⟨λk d=>?_,?_⟩,?_,?_⟩
  ·rw[v.out k λh=>d ⟨j,∅,h⟩,x.out k λzz=>by obtain⟨g,I,h⟩:=zz;exact d ⟨g,∅,h⟩]
  ·have:=x.len;have:=v.len;rw[br,Û];lia
  ·rw[<- â,BH];refine⟨K,qp A9 r p (j+1) (λg I k m=>v.out k λh=>?_) P⟩;have:=sN m h;lia
  ·rw[qU,acw,ñ,â,N,Q,â]
end
theorem rO(nm:Str)(a:List dw)(hz:a.length<=100)(h:∀r∈a,vS r)(t:T)(j:vU t)(l:t.subs.length<=500)(G:DH):
  ∃(k:PD)(B:DH),Ct a (G++.aU Â (aE k)::B) k [] t/\dG [cO nm a,t.d] G=.ok (.obj G.length) (G++.aU Â (aE k)::B):=by
 obtain⟨k,B,c,i,f,s,m,b⟩:=NW nm a hz h G t.d t [] [] [] Å Å Å [] j (by simp;lia) (by simp;lia);refine⟨k,B,m,?_⟩;have p:=xE t l (G++[.aU Â []]);have e:=DT (g:=gP 3 4) (body:=aX) (xs:=(t.prs []).map gq) (τ:=[À (cO nm a),À t.d,À (.obj G.length),Å,Å,Å]) (G:=G++[.aU Â []]);rw[ó,abP,aT,á]at b;have w:aT (gP 3 4) aX ((t.prs []).map gq).reverse [À (cO nm a),À t.d,À (.obj G.length),Å,Å,Å] (G++[.aU Â []])=.nx [À (cO nm a),À t.d,À (.obj G.length),c,i,f] (G++.aU Â (aE k)::B):=b;rw[w]at e;generalize cO nm a=S at e |-;generalize t.d=n at e p |-;generalize(t.prs []).map gq=L at e p;unfold dG;rw[bG];unfold gH
 simp_all! [kB,gx,IK,p,ak,e]
theorem fy:∀(n:Nat)(a:List P3),a.length=n->∀w,w∈bA a↔(w.length=a.length/\∀(i:Nat)(S:P3)(nm:Str),a[i]?=À S->w[i]?=À nm->nm∈S)
 |0,a,h,w=>by have:a=[]:=Ă h;subst this;simp[bA]
 |n+1,a,h,w=>by
  obtain⟨p,S,rfl⟩:∃p u,a=p++[u]:=⟨a.dropLast,a.getLast (by intro e;rw[e]at h;simp at h),(û _).symm⟩;have t:p.length=n:=‹h›
  have o:=fy n p t;rw[qk,uY];constructor
  ·rintro⟨r,q,nm,s,rfl⟩;obtain⟨f,g⟩:=(o r).mp q;refine⟨by simp[f],λi j J b d=>?_⟩;by_cases l:i<p.length
   ·rw[Î l]at b;rw[Î ∅]at d;exact g i j J b d
   ·have k:i<(p++[S]).length:=(Á.mp b).1;have:i=p.length:=by simp at k;lia
    subst this;rw[Ò (È _)]at b;rw[<- f,Ò (È _)]at d;simp at b d;subst b d;exact s
  ·rintro⟨f,g⟩;have c:w≠[]:=by intro e;rw[e]at f;simp at f
   have Y:w.dropLast.length=p.length:=by simp at f |-;lia
   have m:=(û c);refine⟨w.dropLast,(o _).mpr ⟨Y,λi j J b d=>?_⟩,w.getLast c,?_,m.symm⟩
   ·have l:i<p.length:=(Á.mp b).1;refine g i j J (by rw[Î l];exact b) ?_;rw[<- m,Î ∅];exact d
   ·refine g p.length S _ (by simp) ?_;have:(w.dropLast++[w.getLast c])[p.length]?=À (w.getLast c):=by rw[<- Y];simp
    rw[m]at this;exact this
theorem Gh{S:P3}{b:List P3}{w:P3}(h:w∈bA (S::b)):∃nm a,w=nm::a/\nm∈S/\a∈bA b:=by
 obtain⟨c,d⟩:=(fy _ _ rfl w).mp h;cases w with
 |nil=>simp at c
 |cons nm a=>refine⟨nm,a,rfl,d 0 S nm rfl rfl,(fy _ _ rfl a).mpr ⟨‹c›,λi e J g f=>d (i+1) e J ‹g› ‹f›⟩⟩
theorem JO{w:P3}(h:w∈bA []):w=[]:=by simpa[bA]using h
theorem JP{S:List P3}{w:P3}(h:w∈bA S):w.length=S.length:=((fy _ _ rfl w).mp h).1
mutual
def vz(b:List dw):T->D2->Str->PD->Prop
 |.nd k c,p,nm,ms=>∃(n:Nat)(r:dw)(a:P3)(m:PD),b[n]?=À r/\r.nm=nm/\r.kd=k/\accept r.mix r.its a=Ä/\oG b c p 0 a m/\ms=(p,.int n)::m
def oG(b:List dw):List T->D2->Int->P3->PD->Prop
 |[],_,_,a,ms=>a=[]/\ms=[]
 |t::r,p,j,a,ms=>∃(nm:Str)(i:P3)(m c:PD),a=nm::i/\vz b t (p++[j]) nm m/\oG b r p (j+1) i c/\ms=m++c
end
mutual
theorem vz.keys{d:List dw}:∀(t:T)(p:D2)(nm:Str)(ms:PD),vz d t p nm ms->(∀q∈ms,p <+: q.1)/\ms.length=t.subs.length
 |.nd k c,p,nm,ms,h=>by
  rw[vz]at h;obtain⟨n,r,a,m,s,l,u,o,f,rfl⟩:=h;obtain⟨i,g⟩:=oG.keys c p 0 a m f;refine⟨λq b=>?_,by rw[T.subs];simp[g]⟩;rcases Þ.mp b with rfl|b
  ·exact Ť p
  ·obtain⟨j,_,e⟩:=i q b;exact Ķ (Ĩ p [j]) e
theorem oG.keys{g:List dw}:∀(d:List T)(p:D2)(j:Int)(a:P3)(ms:PD),oG g d p j a ms->(∀q∈ms,∃c,j<=c/\(p++[c]) <+: q.1)/\ms.length=(br d).length
 |[],p,j,a,ms,h=>by rw[oG]at h;obtain⟨rfl,rfl⟩:=h;exact⟨λq b=>by simp at b,by rw[br];rfl⟩
 |t::r,p,j,a,ms,h=>by
  rw[oG]at h;obtain⟨nm,s,o,m,rfl,n,f,rfl⟩:=h;obtain⟨e,l⟩:=vz.keys t (p++[j]) nm o n;obtain⟨k,i⟩:=oG.keys r p (j+1) s m f;refine⟨λq b=>?_,by rw[br,Û,Û,l,i]⟩;rcases í.mp b with b|b
  ·exact⟨j,∅,e q b⟩
  ·obtain⟨c,v,u⟩:=k q b;exact⟨c,∅,u⟩
end
theorem qV{g:jV}{body:MS}{xs:X2}{τ:DS}{G:DH}:lU g body (nK (.con xs)) (xs.length+1) 0 τ G=aT g body (xs.mapIdx λi x=>.tup [.int i,x]) τ G:=by
 have:=iF (g:=g) (body:=body) (xs:=xs.mapIdx λi x=>D.tup [.int i,x]) (vw:=nK (.con xs)) (λG i h=>by simp only[abp]at h;simp only[nK,ak,Ĉ]) (xs.length+1) 0 τ G (by simp) (by simp)
 z_go
theorem Ec(v:D)(c:D2)(A B:DH)(L:PD)(h:L.length<1000000):gA v (.obj A.length) (cD c) (A++.aU Â (aE L)::B)=.ok .bw (A++.aU Â (aE (cR L c v))::B):=by have a:L.length<Ç:=Õ h (lz (n:=1000000) ∅);unfold gA;rw[mL];k_go;rw[jW];k_go;rw[Α (by simpa[ju]using a),Cc,qf]
theorem u0(A B:DH)(p:D2)(G:p.length<=900)(g f b c d l m:X9):∀(r:P3)(j:Nat)(n:PD)(q o:X9),n.length+r.length<1000000 ->
  ∃(u:PD)(w v:X9),(∀k,(∀i:Nat,i<r.length->k≠p++[((j+i:Nat):Int)])->aQ u k=aQ n k)/\(∀(i:Nat) nm,r[i]?=À nm->aQ u (p++[((j+i:Nat):Int)])=À (.str nm))/\u.length<=n.length+r.length /\
   aT (gP 9 10) ie ((r.map D.str).mapIdx λi x=>.tup [.int ((j+i:Nat):Int),x]) [g,f,b,c,À (.obj A.length),d,À (cD p),l,m,q,o] (A++.aU Â (aE n)::B)=.nx [g,f,b,c,À (.obj A.length),d,À (cD p),l,m,w,v] (A++.aU Â (aE u)::B)
 |[],j,n,q,o,h=>⟨n,q,o,λ_ _=>rfl,λi nm e=>by simp at e,by simp,by simp[aT]⟩
 |nm::r,j,n,q,o,h=>by
  simp only[Ñ]at h;have K:=sM n (p++[(j:Int)]) (.str nm);obtain⟨u,w,v,y,H,M,F⟩:=u0 A B p G g f b c d l m r (j+1) (cR n (p++[(j:Int)]) (.str nm)) (À (.int j)) (À (.str nm)) ∅;refine⟨u,w,v,λk z=>?_,λi J e=>?_,by simp only[Ñ];lia,?_⟩
  ·rw[y k λi I e=>z (i+1) (by simp;lia) (by rw[e,show j+1+i=j+(i+1) by lia]),gM,Β (by have:=z 0 (by simp);simpa using this)]
  ·cases i with
   |zero=>simp at e;x_go;rw[y _ λi I e=>?_,acR,gM,Α rfl];have:=aaj e;simp at this;lia
   |succ i=>rw[show j+(i+1)=j+1+i by lia];exact H i J ‹e›
  ·have E:((nm::r).map D.str).mapIdx (λi x=>D.tup [.int ((j+i:Nat):Int),x])=.tup [.int (j:Int),.str nm]::(r.map D.str).mapIdx λi x=>.tup [.int ((j+1+i:Nat):Int),x]:=by rw[É,Ÿ];congr 1;apply ē;intro i;simp only[Ĉ];congr 1;funext x;rw[show j+(i+1)=j+1+i by lia]
   rw[E,aY rfl];simp only[Ü,Ý];have C:(1:Nat)<=Ç:=lz ∅;have t:ay (cD p) (.tup [.int (j:Int)]) (A++.aU Â (aE n)::B)=.ok (cD (p++[(j:Int)])) (A++.aU Â (aE n)::B):=by unfold cD;rw[D8 _ _ _ (lz (by simp;lia))];simp
   have a:=Ec (.str nm) (p++[(j:Int)]) A B n ∅;have s:ie [g,f,b,c,À (.obj A.length),d,À (cD p),l,m,À (.int j),À (.str nm)] (A++.aU Â (aE n)::B)=.nx [g,f,b,c,À (.obj A.length),d,À (cD p),l,m,À (.int j),À (.str nm)] (A++.aU Â (aE (cR n (p++[(j:Int)]) (.str nm)))::B):=by generalize cR n (p++[(j:Int)]) (.str nm)=N at a |-;generalize cD (p++[(j:Int)])=L at t a;generalize cD p=P at t |-;unfold ie;simp[aZ,C,t,a]
   rw[s,cV];exact F
theorem lK{G:DH}{n:Nat}{f:Bool}{L:PD}{c:D2}{v:D}(a:G[n]?=À (.aU f (aE L)))(h:aQ L c=À v):nD (.obj n) (cD c) G=.ok v G:=by unfold nD;rw[mL];k_go;rw[a];k_go;rw[nj,h]
theorem M7{G:DH}{n:Nat}{f:FS}{nm:Str}{v:D}(a:G[n]?=À (.dct (jX f)))(h:aQ f nm=À v):IY (.obj n) (.str nm) G=.ok v G:=by simp only[IY,gB,a,ji,mQ,h]
theorem Gi(A:DH)(c:Nat)(M:PD)(N:A[c]?=À (.aU Â (aE M)))(q:Nat)(H:FS)(p:D2)(V:p.length<=900)(T:aQ M p=À (.obj q))(U:A[q]?=À (.dct (jX H)))(nm:Str)(n:Nat)(r:P3)(Q:aQ H nm=À (.tup [.int n,.con (r.map .str)]))
  (a m:PD) (s:aQ a p=À (.str nm)) (w:a.length+r.length<1000000) (v:m.length<1000000) (z:p∉m.map (·.1)) (j h f:X9) (t:D) (O x o:X9):
  ∃(u:PD)(E y:X9),(∀k,(∀i:Nat,i<r.length->k≠p++[(i:Int)])->aQ u k=aQ a k)/\(∀(i:Nat) nm,r[i]?=À nm->aQ u (p++[(i:Int)])=À (.str nm))/\u.length<=a.length+r.length /\
   fq [j,h,f,À (.obj c),À (.obj A.length),À (.obj (A.length+1)),À (cD p),À t,O,x,o] (A++[.aU Â (aE a),.aU Â (aE m)]) =
    .nx [j,h,f,À (.obj c),À (.obj A.length),À (.obj (A.length+1)),À (cD p),À t,À (.tup [.int n,.con (r.map .str)]),E,y] (A++[.aU Â (aE u),.aU Â (aE (m++[(p,.int n)]))]):=by
 obtain⟨u,E,y,J,L,S,K⟩:=u0 A [.aU Â (aE (m++[(p,.int n)]))] p V j h f (À (.obj c)) (À (.obj (A.length+1))) (À t) (À (.tup [.int n,.con (r.map .str)])) r 0 a x o w;simp only[Ħ]at J L K;refine⟨u,E,y,J,L,S,?_⟩;have I:nD (.obj c) (cD p) (A++[.aU Â (aE a),.aU Â (aE m)])=.ok (.obj q) (A++[.aU Â (aE a),.aU Â (aE m)]):=lK (aH N) T;have F:nD (.obj A.length) (cD p) (A++[.aU Â (aE a),.aU Â (aE m)])=.ok (.str nm) (A++[.aU Â (aE a),.aU Â (aE m)]):=lK (jW _ _ _) s;have B:IY (.obj q) (.str nm) (A++[.aU Â (aE a),.aU Â (aE m)])=.ok (.tup [.int n,.con (r.map .str)]) (A++[.aU Â (aE a),.aU Â (aE m)]):=M7 (aH U) Q;have b:=Ec (.int n) p (A++[.aU Â (aE a)]) [] m v;rw[zd m p (.int n) z]at b;simp only[Û,Ñ,ņ,â,ī,á,Ħ]at b;have e:=qV (g:=gP 9 10) (body:=ie) (xs:=r.map D.str) (τ:=[j,h,f,À (.obj c),À (.obj A.length),À (.obj (A.length+1)),À (cD p),À t,À (.tup [.int n,.con (r.map .str)]),x,o]) (G:=A++[.aU Â (aE a),.aU Â (aE (m++[(p,.int n)]))]);rw[K]at e;have l:∀G,az (.tup [.int n,.con (r.map .str)]) (.int 0) G=.ok (.int n) G:=λG=>by simp![uL]
 have C:∀G,az (.tup [.int n,.con (r.map .str)]) (.int 1) G=.ok (.con (r.map .str)) G:=λG=>by simp![qM]
 generalize r.map D.str=R at B e l C |-;generalize D.tup [.int (n:Int),.con R]=d at B e l C |-;generalize cD p=P at I F b e |-;generalize aE (m++[(p,D.int (n:Int))])=W at b e |-;unfold fq
 simp_all! [Mw,ng,I,F,B,uC,l,b,kg,gx,kr,C,ak,e]
mutual
theorem JQ(x:List dw)(A:DH)(c:Nat)(D:PD)(Q:A[c]?=À (.aU Â (aE D)))(C B y:X9):∀(t:T)(p:D2)(nm:Str)(s o:PD)(S Y O I E:X9)(f:X2),Ct x A D p t->nm∈cE x t->aQ s p=À (.str nm)->(∀a∈o.map (·.1),¬ p <+: a)->p.length+t.subs.length<=900->s.length+t.subs.length<=1000000->o.length+t.subs.length<1000000 ->
  ∃(N ms:PD)(J M K P L:X9),vz x t p nm ms/\(∀a,¬ (p <+: a/\a≠p)->aQ N a=aQ s a)/\N.length+1<=s.length+t.subs.length /\
   aT (gP 6 7) fq ((t.prs p).map gq++f) [C,B,y,À (.obj c),À (.obj A.length),À (.obj (A.length+1)),S,Y,O,I,E] (A++[.aU Â (aE s),.aU Â (aE o)]) =
    aT (gP 6 7) fq f [C,B,y,À (.obj c),À (.obj A.length),À (.obj (A.length+1)),J,M,K,P,L] (A++[.aU Â (aE N),.aU Â (aE (o++ms))])
 |.nd k l,p,nm,s,o,S,Y,O,I,E,f,u,V,hn,v,hp,H,G=>by
  rw[Ct]at u;obtain⟨⟨q,F,h1,h2,W⟩,h4⟩:=u;rw[T.subs,Ñ]at hp H G;have R:=nk l;have b:nm∈fU F:=by rw[W.keys];rw[cE]at V;exact V
  obtain⟨d,U⟩:=Option.isSome_iff_exists.mp ((dH F nm).mpr b);obtain⟨n,r,g,g1,g2,g3,X,g5,rfl⟩:=W.val nm d U;have hrl:g.length=l.length:=by rw[JP X,uZ,Ú]
  obtain⟨Xj,q9,NY,k1,k2,k3,k4⟩:=Gi A c D Q q F p ∅ h1 h2 nm n g U s o hn ∅ ∅ (λz=>v p z (Ť p)) C B y (T.nd k l).d O I E;obtain⟨Xk,ms,J,M,K,P,L,j1,j2,j3,j4⟩:=JR x A c D Q C B y l p 0 g Xj (o++[(p,.int n)]) (À (cD p)) (À (T.nd k l).d) (À (.tup [.int n,.con (g.map .str)])) q9 NY f h4 X (λi JN e=>by simpa using k2 i JN e) (λa m w _ h=>by
   rw[ñ,í]at m;rcases m with m|m
   ·exact v a m (Ķ (Ĩ p [w]) h)
   ·simp at m;subst m;exact gQ h) ∅ ∅ (by simp;lia)
  refine⟨Xk,(p,.int n)::ms,J,M,K,P,L,?_,?_,?_,?_⟩
  ·rw[vz];exact⟨n,r,g,ms,g1,g2,g3,g5,j1,rfl⟩
  ·intro a b;rw[j2 a λzz=>by obtain⟨w,_,h,_⟩:=zz;exact b ⟨Ķ (Ĩ p [w]) h,λe=>gQ (p:=p) (j:=w) (by rw[e]at h;exact h)⟩];refine k1 a λi hi e=>b ⟨by rw[e];exact Ĩ p _,λZ=>?_⟩;rw[e]at Z;simp at Z
  ·rw[T.subs,Ñ];lia
  ·rw[T.prs,É,ī];have ep:gq (p,T.nd k l)=.tup [cD p,(T.nd k l).d]:=rfl;rw[ep,aY rfl];simp only[Ü,Ý,k4,cV];rw[j4,â,ace]
theorem JR(B:List dw)(A:DH)(c:Nat)(H:PD)(X:A[c]?=À (.aU Â (aE H)))(G F E:X9):∀(f:List T)(p:D2)(j:Int)(b:P3)(n o:PD)(w C D z u:X9)(a:X2),BH B A H p j f->b∈bA (ql B f)->(∀(i:Nat) nm,b[i]?=À nm->aQ n (p++[j+(i:Int)])=À (.str nm))->(∀k∈o.map (·.1),∀d,j<=d->¬ (p++[d]) <+: k)->p.length+1+(br f).length<=900->n.length+(br f).length<1000000+f.length->o.length+(br f).length<1000000 ->
  ∃(U ms:PD)(M R P W O:X9),oG B f p j b ms/\(∀k,¬ (∃d,j<=d/\(p++[d]) <+: k/\k≠p++[d])->aQ U k=aQ n k)/\U.length+f.length<=n.length+(br f).length /\
   aT (gP 6 7) fq ((qU p j f).map gq++a) [G,F,E,À (.obj c),À (.obj A.length),À (.obj (A.length+1)),w,C,D,z,u] (A++[.aU Â (aE n),.aU Â (aE o)]) =
    aT (gP 6 7) fq a [G,F,E,À (.obj c),À (.obj A.length),À (.obj (A.length+1)),M,R,P,W,O] (A++[.aU Â (aE U),.aU Â (aE (o++ms))])
 |[],p,j,b,n,o,w,C,D,z,u,a,g,v,J,s,hp,q,y=>by rw[ql]at v;have:=JO v;subst this;refine⟨n,[],w,C,D,z,u,by rw[oG];exact⟨rfl,rfl⟩,λ_ _=>rfl,by simp,?_⟩;rw[qU];simp
 |t::r,p,j,b,n,o,w,C,D,z,u,a,g,v,J,s,hp,q,y=>by
  rw[BH]at g;rw[ql]at v;rw[br,Û]at hp q y;rw[Ñ]at q;have hlr:=nk r;obtain⟨nm,iL,rfl,hm,I⟩:=Gh v;obtain⟨Xj,K,q6,q7,q8,q9,NY,k1,k2,k3,k4⟩:=JQ B A c H X G F E t (p++[j]) nm n o w C D z u ((qU p (j+1) r).map gq++a) g.1 hm ‹J 0 nm rfl› (λk m=>s k m j ∅) (by simp;lia) ∅ ∅;obtain⟨N,V⟩:=vz.keys t _ _ _ k1;obtain⟨Xk,Z,M,R,P,W,O,j1,j2,j3,j4⟩:=JR B A c H X G F E r p (j+1) iL Xj (o++K) q6 q7 q8 q9 NY a g.2 I (λi JN e=>by
   have Y:=J (i+1) JN ‹e›;rw[show j+((i+1:Nat):Int)=j+1+(i:Int) by lia]at Y;have Q:¬ ((p++[j]) <+: (p++[j+1+(i:Int)])/\p++[j+1+(i:Int)]≠p++[j]):=λzz=>by obtain⟨h,_⟩:=zz;have he:=h.eq_of_length (by simp);have:=aaj he;simp at this;lia
   rw[k2 _ Q];exact Y) (λk m d hj h=>by
   rw[ñ,í]at m;rcases m with m|m
   ·exact s k m d ∅ h
   ·obtain⟨x,hx,rfl⟩:=ê.mp m;have:=sN (N x hx) h;lia) ∅ ∅ (by simp[V];lia)
  refine⟨Xk,K++Z,M,R,P,W,O,?_,?_,?_,?_⟩
  ·rw[oG];exact⟨nm,iL,K,Z,rfl,k1,j1,rfl⟩
  ·intro k l;rw[j2 k λzz=>by obtain⟨d,hj,L,S⟩:=zz;exact l ⟨d,∅,L,S⟩,k2 k λ⟨L,S⟩=>l ⟨j,∅,L,S⟩]
  ·rw[br,Û,Ñ];lia
  ·rw[qU,ñ,â,k4,j4,â]
end
theorem Ct.root{r:List dw}{H:DH}{a:PD}{p:D2}{t:T}(h:Ct r H a p t):∃q f,aQ a p=À (.obj q)/\H[q]?=À (.dct (jX f))/\fU f=cE r t:=by
 cases t with
 |nd k ps=>rw[Ct]at h;obtain⟨⟨q,f,c,b,d⟩,_⟩:=h;exact⟨q,f,c,b,by rw[cE];exact d.keys⟩
def Gj:Option Str->D
 |none=>.bw
 |some n=>.str n
theorem Ba(n0:Str)(b:List dw)(hz:b.length<=100)(v:∀r∈b,vS r)(t:T)(Q:vU t)(C:t.subs.length<=500)(o:Option Str)(G:DH):
  (o.getD n0∈cE b t/\∃(ms:PD)(R:DH)(m:Nat),vz b t [] (o.getD n0) ms/\(G++R)[m]?=À (.aU Â (aE ms))/\gk [cO n0 b,t.d,Gj o] G=.ok (.obj m) (G++R)) \/
  (o.getD n0∉cE b t/\∃(R:DH)(P:X2),gk [cO n0 b,t.d,Gj o] G=.bR (.mk "NoShape" P) (G++R)):=by
 obtain⟨k,B,u,e⟩:=rO n0 b hz v t Q C G;generalize M:G++DO.aU Â (aE k)::B=a at u e;have w:a[G.length]?=À (.aU Â (aE k)):=by rw[<- M,jW]
 obtain⟨q,f,N,X,y⟩:=u.root;have I:(1:Nat)<=Ç:=lz ∅;have n:=zf (.str (o.getD n0)) [] a [] (by simp);have O:cR ([]:PD) [] (D.str (o.getD n0))=[([],.str (o.getD n0))]:=rfl;rw[O]at n;have E:aE []=[]:=rfl;rw[E]at n;have x:cD []=D.tup []:=rfl;have i:∀G,az (cO n0 b) (.int 0) G=.ok (.str n0) G:=λG=>by unfold cO;simp![uL]
 have Y:∀τ G,Ht (b8 (aj (eV Â) (aa 2) (eC .bw))) (aj az (aa 0) (eC (.int 0))) (aa 2) (À (cO n0 b)::À t.d::À (Gj o)::τ) G=.ok (.str (o.getD n0)) G:=by
  intro τ G;generalize cO n0 b=S at i |-;cases o with
  |none=>simp[Gj,eV,i]
  |some nm=>simp[Gj,eV]
 generalize V:o.getD n0=nm at n Y |-;have dn:∀τ,mE (ai aZ (ah)) (Ht (b8 (aj (eV Â) (aa 2) (eC .bw))) (aj az (aa 0) (eC (.int 0))) (aa 2)) (À (cO n0 b)::À t.d::À (Gj o)::τ) a=.ok (.obj a.length) (a++[.aU Â (aE [([],.str nm)])]):=by
  intro τ;have l:(0:Nat)<=Ç:=é _;rw[x]at n;rw[Jv]
  simp_all! [aZ,Α l,Y,n]
 have A:nD (.obj a.length) (.tup []) (a++[.aU Â (aE [([],.str nm)])])=.ok (.str nm) (a++[.aU Â (aE [([],.str nm)])]):=by rw[<- x];exact lK (jW _ _ _) (by simp[cN])
 have z:nD (.obj G.length) (.tup []) (a++[.aU Â (aE [([],.str nm)])])=.ok (.obj q) (a++[.aU Â (aE [([],.str nm)])]):=by rw[<- x];exact lK (aH w) N
 have p:(a++[DO.aU Â (aE [([],.str nm)])])[q]?=À (.dct (jX f)):=aH X;have U:a=G++(DO.aU Â (aE k)::B):=M.symm;by_cases g:nm∈cE b t
 ·refine .inl ?_;refine⟨g,?_⟩;have c:(aQ f nm).isSome=Ä:=(dH f nm).mpr (show nm∈fU f by rw[y];exact g);obtain⟨dv,F⟩:=Option.isSome_iff_exists.mp c;have h:gC (.str nm) (.obj q) (a++[.aU Â (aE [([],.str nm)])])=.ok (.bl Â) (a++[.aU Â (aE [([],.str nm)])]):=by simp only[gC,gB,p,ji,mQ,F];rfl
  obtain⟨W,ms,p6,p7,Z,p9,vA,K,j2,j3,j⟩:=JQ b a G.length k w (À (cO n0 b)) (À t.d) (À (Gj o)) t [] nm [([],.str nm)] [] Å Å Å Å Å [] u g (by simp[cN]) (by simp) (by simp;lia) (by simp;lia) (by simp;lia);rw[ó,á,aT]at j;have s:=xE t C (a++[.aU Â (aE [([],.str nm)]),.aU Â (aE [])]);refine⟨ms,(DO.aU Â (aE k)::B)++[.aU Â (aE W),.aU Â (aE ms)],a.length+1,K,?_,?_⟩
  ·rw[<- â,<- U,Ò ∅];simp
  ·rw[<- â,<- U];rw[E]at j s;generalize cO n0 b=S at e dn j |-;generalize Gj o=J at dn j |-;generalize t.d=H at e dn j s |-;generalize(t.prs []).map gq=L at j s;unfold gk;rw[bG];unfold nh
   simp_all! [e,dn]
   have l:(0:Nat)<=Ç:=é _
   simp_all! [ng,aZ,Α l,A,z,h,kB,â,Û,Ħ,fh,s,j]
 ·refine .inr ?_;refine⟨g,(DO.aU Â (aE k)::B)++[.aU Â (aE [([],.str nm)])],[.str "the tree is not of this name"],?_⟩;have c:aQ f nm=Å:=xm (by show nm∉fU f;rw[y];exact g);have h:gC (.str nm) (.obj q) (a++[.aU Â (aE [([],.str nm)])])=.ok (.bl Ä) (a++[.aU Â (aE [([],.str nm)])]):=by simp only[gC,gB,p,ji,mQ,c];rfl
  rw[<- â,<- U];generalize cO n0 b=S at e dn |-;generalize Gj o=J at dn |-;generalize t.d=H at e dn |-;unfold gk;rw[bG];unfold nh;have l:(0:Nat)<=Ç:=é _
  simp_all! [e,dn]
  simp_all! [ng,aZ,Α l,A,z,h,Ir,Ħ,Α I]
  rfl
def qv(names:P3)(nm:Str):Nat:=(names.filter λn=>n==nm).length
def nF(m:Bool)(names:P3):List Itm->P3->Bool
 |[],left=>left.isEmpty
 |i::r,left=>
  if inR i (qv names i.nm:Int)=Ä then
   if m=Ä then nF m names r (left.filter λn=>!(n==i.nm))
   else if left.take (qv names i.nm)=Ô (qv names i.nm) i.nm then nF m names r (left.drop (qv names i.nm)) else Â
  else Â
theorem Ed:∀(b:List Itm)(w:P3),dN b w=Ä->∀n∈w,∃i∈b,i.nm=n
 |[],w,h,n,hn=>by
  cases w with
  |nil=>simp at hn
  |cons x w=>cases h
 |i::R,w,h,n,hn=>by
  have k:∀(w:P3)(y:Int),lI i (dN R) y w=Ä->∀n∈w,n=i.nm\/∃j∈R,j.nm=n:=by
   intro w
   induction w with
   |nil=>intro y _ n hn;simp at hn
   |cons x w g=>
    intro y a n hn;rw[lI]at a;by_cases c:x=i.nm
    ·rw[Α c]at a;rcases Þ.mp hn with rfl|hn
     ·exact .inl c
     ·exact g _ a n hn
    ·rw[Β c]at a;have d:dN R (x::w)=Ä:=by
      cases q:dN R (x::w)with
      |true=>rfl
      |false=>rw[q]at a;simp at a
     exact .inr (Ed R (x::w) d n hn)
  rcases k w 0 h n hn with e|⟨j,f,e⟩
  ·exact⟨i,by simp,e.symm⟩
  ·exact⟨j,by simp[f],e⟩
theorem xF(i:Itm)(f:P3->Bool):∀(w:P3)(y:Int),∃(m:Nat)(a:P3),w=Ô m i.nm++a/\(∀n t,a=n::t->n≠i.nm)/\lI i f y w=(inR i (y+(m:Int))&&f a)
 |[],y=>⟨0,[],by simp,λn t e=>by simp at e,by simp[lI]⟩
 |n::t,y=>by
  by_cases h:n=i.nm
  ·obtain⟨m,a,c,b,d⟩:=xF i f t (y+1);refine⟨m+1,a,by rw[c,h];rfl,b,?_⟩;rw[lI,Α h,d,show y+1+(m:Int)=y+((m+1:Nat):Int) by lia]
  ·exact⟨0,n::t,by simp,λg t' e=>by cases e;exact h,by rw[lI,Β h];simp⟩
theorem JS(a b:P3)(nm:Str):qv (a++b) nm=qv a nm+qv b nm:=by simp[qv]
theorem Rw(m:Nat)(nm:Str):qv (Ô m nm) nm=m:=by simp[qv]
theorem Ef{a:P3}{nm:Str}(h:nm∉a):qv a nm=0:=by unfold qv;rw[abO,ĳ];intro n b e;simp at e;exact h (e▸b)
theorem Rx{a:P3}{nm:Str}(h:nm∈a):0<qv a nm:=by unfold qv;exact List.length_pos_of_mem (Ĥ.mpr ⟨h,by simp⟩)
theorem Eg:∀(d:List Itm),(d.map (·.nm)).Nodup->∀(p left:P3),(∀i∈d,i.nm∉p)->nF Â (p++left) d left=dN d left
 |[],c,p,left,r=>by rw[nF,dN]
 |i::R,c,p,left,r=>by
  rw[É,ķ]at c;have D:=r i (by simp);have x:qv (p++left) i.nm=qv left i.nm:=by rw[JS,Ef D];lia
  obtain⟨m,w',f,A,F⟩:=xF i (dN R) left 0;rw[nF,dN,F,x];have E:qv left i.nm=m+qv w' i.nm:=by rw[f,JS,Rw]
  by_cases b:i.nm∈w'
  ·have B:dN R w'=Â:=by
    cases q:dN R w' with
    |false=>rfl
    |true=>obtain⟨j,g,e⟩:=Ed R w' q i.nm b;exact(c.1 (by rw[<- e];exact ê.mpr ⟨j,g,rfl⟩)).elim
   rw[B,abn];have v:=Rx b;by_cases a:inR i (qv left i.nm:Int)=Ä
   ·rw[Α a,Β (by decide),Β ?_];intro e;cases w' with
    |nil=>simp at b
    |cons n t=>have o:=A n t rfl;rw[E,f]at e;have k:=congrArg (λl=>l[m]?) e;rw[ŧ,Α ∅,Ò (by simp)]at k;simp at k;rw[Š,Α ∅]at k;exact o (æ k)
   ·rw[Β a]
  ·have hz:=Ef b;have C:qv left i.nm=m:=∅
   rw[C];have y:(0:Int)+(m:Int)=(m:Int):=∅
   rw[y];have z:left.take m=Ô m i.nm:=by rw[f,Ł (by simp)];simp
   have u:left.drop m=w':=by rw[f,List.drop_append_of_le_length (by simp)];simp
   by_cases a:inR i (m:Int)=Ä
   ·rw[Α a,Β (by decide),Α z,a,Ľ,u];have w:=Eg R c.2 (p++Ô m i.nm) w' (λj g s=>by
     rcases í.mp s with h|h
     ·exact r j (by simp[g]) h
     ·have:=(acL.mp h).2;exact c.1 (by rw[<- this];exact ê.mpr ⟨j,g,rfl⟩))
    rw[â,<- f]at w;exact w
   ·rw[Β a];have:inR i (m:Int)=Â:=‹a›
    rw[this,Ŭ]
theorem Eh(names:P3):∀(b:List Itm)(left:P3),nF Ä names b left=(iP b (b.map λ_=>0) names&&(left.all λn=>b.any λi=>i.nm==n))
 |[],left=>by
  rw[nF];cases left with
  |nil=>simp[iP]
  |cons n t=>simp[iP]
 |i::R,left=>by
  rw[nF,É,iP];have g:(0:Int)+cnt names i.nm=(qv names i.nm:Int):=by simp[cnt,qv]
  rw[g];by_cases a:inR i (qv names i.nm:Int)=Ä
  ·rw[Α a,Α rfl,Eh names R,a,Ľ];congr 1;rw[List.all_filter];apply Ň.mpr;rw[Ţ,Ţ];constructor
   ·intro h n d;have:=h n d;simp only[aaO];by_cases e:i.nm=n
    ·simp[e]
    ·have f:(n==i.nm)=Â:=by simpa using λz=>e z.symm
     simp[f]at this;simp[this]
   ·intro h n d;have:=h n d;simp only[aaO,aa6,beq_iff_eq]at this;by_cases e:n=i.nm
    ·simp[e]
    ·have f:(n==i.nm)=Â:=‹e›
     rcases this with c|c
     ·exact(e c.symm).elim
     ·simp[f,c]
  ·have j:inR i (qv names i.nm:Int)=Â:=‹a›
   rw[Β a,j];simp
theorem Dg(mix:Bool)(a:List Itm)(W:WF a)(names:P3):nF mix names a names=accept mix a names:=by
 cases mix with
 |false=>rw[C4 a W];have:=Eg a W.nd [] names (λi _ h=>by simp at h);z_go
 |true=>rw[C5 a W,Eh,Bool.and_comm];rfl
theorem rP:∀a b:P3,aaT (a.map Ġ) (b.map Ġ)=(a==b)
 |[],[]=>by simp[aaT]
 |[],y::b=>by simp[aaT]
 |x::a,[]=>by simp[aaT]
 |x::a,y::b=>by have i:=rP a b;rw[É,É,aaT,i];simp[aac]
theorem gp:∀a:P3,(∀x∈a,Ð x=Ä)->ł (a.map Ġ)=Ä
 |[],h=>by simp[ł]
 |x::a,h=>by have i:=gp a λy b=>h y (by simp[b]);simp[ł,ů,i,h x (by simp)]
theorem u7:∀a:P3,ŗ (a.map Ġ)<=10
 |[]=>by simp[ŗ]
 |x::a=>by have i:=u7 a;simp[ŗ,abf]at i |-;lia
theorem u9(g:Bool)(a b:P3)(f:∀x∈a,Ð x=Ä)(h:∀x∈b,Ð x=Ä)(G:DH):e8 g (.con (a.map .str)) (.con (b.map .str)) G=.ok (.bl (g ^^ (a==b))) G:=by
 have t:∀c:P3,nW G deep (.con (c.map .str))=À (.list (c.map Ġ)):=λc=>by
  have:∀n,cH (nW G (n+1)) (c.map D.str)=À (c.map Ġ):=λn=>by
   induction c with
   |nil=>rfl
   |cons x c i=>simp only[É,cH,i];rfl
  show(cH (nW G _) (c.map D.str)).map aa1=_;rw[this];rfl
 unfold e8 EU;rw[t,t];k_go;have l:=u7 a;have e:(aa1 (a.map Ġ)).canLay0=Ä:=by simp[ů,gp a f]
 have j:(aa1 (b.map Ġ)).canLay0=Ä:=by simp[ů,gp b h]
 have k:(aa1 (a.map Ġ)).depth<=580:=by simp[abf];lia
 rw[Α (by rw[e,j];simp;lia)];have d:aac (aa1 (a.map Ġ)) (aa1 (b.map Ġ))=(a==b):=by rw[<- rP];simp[aac]
 rw[d]
theorem M8(m:Bool)(G:DH):e8 Â (.str (if m=Ä then "mix" else "row")) (.str "row") G=.ok (.bl (!m)) G:=by
 cases m
 ·rw[Β (by decide),iy _ _ _ _ (by symm) (by symm)];congr 1
 ·rw[Α rfl,iy _ _ _ _ (by symm) (by symm)];congr 1
theorem M9(g:Bool)(nm:Str)(hnm:Ð nm=Ä)(ws:P3)(hw:∀x∈ws,Ð x=Ä)(hl:ws.length<=1000)(τ:DS)(G:DH)(h3:τ[3]?=À (À (.str nm))){ρ:DS}(hm:mask [Â,Â,Â,Ä] τ=Å::Å::Å::À (.str nm)::ρ):
  cC oN [Â,Â,Â,Ä] (b8 (aj (e8 g) (aa 0) (aa 4))) (aa 0) G.length (ws.map .str) τ (G++[.lst []])=.ok (.obj G.length) (G++[.lst ((ws.filter λn=>g ^^ (n==nm)).map .str)]):=by
 have c1:=bF (τ:=τ) (G:=G) (gO:=oN) (ks:=[Â,Â,Â,Ä]) (tt:=b8 (aj (e8 g) (aa 0) (aa 4))) (te:=aa 0) (own:=λx:Str=>[.str x]) (dat:=λx=>D.str x) (f:=λx=>D.str x) (c:=λn=>g ^^ (n==nm)) ws [] (by simp;lia) (λx _=>rfl) (λx hx acc=>by rw[hm];have he:=iy g x nm (G++[.lst acc]) (hw x hx) hnm;simp![he]) (λx hx acc=>by simp![hm])
 rw[á]at c1;exact c1
theorem NZ(g:Bool)(i:Nat)(nm:Str)(hnm:Ð nm=Ä)(ws:P3)(hw:∀x∈ws,Ð x=Ä)(hl:ws.length<=1000)(τ:DS)(G:DH)(hi:τ[i]?=À (À (.con (ws.map .str))))(h3:τ[3]?=À (À (.str nm))){ρ:DS}(hm:mask [Â,Â,Â,Ä] τ=Å::Å::Å::À (.str nm)::ρ):
  eFn (dD oN [Â,Â,Â,Ä] (aa i) (b8 (aj (e8 g) (aa 0) (aa 4))) (aa 0)) τ G=.ok (.con ((ws.filter λn=>g ^^ (n==nm)).map .str)) G:=by
 have c1:=M9 g nm hnm ws hw hl τ G h3 hm;have hcl:aG ((ws.filter λn=>g ^^ (n==nm)).map D.str)=Ä:=aB λ_=>aW;simp only[cI,m5,gZ,hi,dQ,c1];rw[eX hcl]
theorem Na(nm:Str)(C:Nat)(c:C<=900)(τ:DS)(G:DH)(j:τ[3]?=À (À (.str nm)))(b:τ[6]?=À (À (.int (C:Int)))):
  UA (r8 (aj lO (ai aN (af (aa 3) (ah))) (aa 6))) τ G=.ok (.con ((Ô C nm).map .str)) G:=by
 have z:(1:Nat)<=Ç:=lz ∅;have g:(Ô C [D.str nm]).flatten=(Ô C nm).map .str:=by
  rw[List.map_replicate];clear b c
  induction C with
  |zero=>rfl
  |succ C i=>rw[ă,İ,i,ă];rfl
 have hz:((Ô C nm).map D.str).length<=Ç:=lz (by simp;lia);have a:C<=Ç:=lz ∅;have d:(G++[DO.lst [D.str nm]])[G.length]?=À (.lst [.str nm]):=jW _ _ _;have e:aj lO (ai aN (af (aa 3) (ah))) (aa 6) τ G=.ok (.obj (G.length+1)) (G++[.lst [.str nm],.lst ((Ô C nm).map .str)]):=by
  simp_all! [j,b,aN,Ħ,Α z,lO,d]
  rw[Α (by refine⟨∅,∅,?_⟩;simpa using a)];simp only[Ē,g,Α hz,Û,Ñ,ņ,â,ī,á,Ħ]
 have f:r8 (aj lO (ai aN (af (aa 3) (ah))) (aa 6)) τ G=.ok (.con ((Ô C nm).map .str)) (G++[.lst [.str nm],.dead]):=by rw[ud,e];exact II
 have h:(D.con ((Ô C nm).map .str)).closed=Ä:=by rw[c8];exact aB λ_=>aW
 unfold UA;rw[f];k_go;rw[Α ⟨by simp[ki],h⟩]
theorem JT(i:Itm)(C:Nat)(x e d c:X9)(G:DH):rZ (b8 (aj Ll (aa 6) (aa 4))) (eG (b8 (aj (eV Ä) (aa 5) (eC .bw))) (b8 (aj kK (aa 6) (aa 5)))) [x,e,d,c,À (.int i.lo),À (jq i.hi),À (.int (C:Int))] G=.ok (!inR i (C:Int)) G:=by
 unfold inR;cases hh:i.hi with
 |none=>
  by_cases h:i.lo<=(C:Int)
  ·have h':¬ (C:Int)<i.lo:=∅
   simp![jq,h,h',eV]
  ·have h':(C:Int)<i.lo:=∅
   simp![jq,h,h',eV]
 |some z=>
  by_cases h:i.lo<=(C:Int)
  ·have h':¬ (C:Int)<i.lo:=∅
   by_cases b:(C:Int)<=z
   ·have a:¬ z<(C:Int):=∅
    simp![jq,h,h',b,a,eV]
   ·have a:z<(C:Int):=∅
    simp![jq,h,h',b,a,eV]
  ·have h':(C:Int)<i.lo:=∅
   simp![jq,h,h',eV]
theorem vc(a b:Str)(mix:Bool)(vV:List Itm)(names:P3)(hn:∀x∈names,Ð x=Ä)(hl:names.length<=100):∀(its:List Itm),(∀i∈its,Ð i.nm=Ä)->∀(left:P3),(∀x∈left,Ð x=Ä)->left.length<=names.length->∀(o3 o4 o5 o6:X9)(G:DH),
  (nF mix names its left=Â/\aT (ML 3 4 5) cj (its.map bS) [À (aM a b mix vV),À (.con (names.map .str)),À (.con (left.map .str)),o3,o4,o5,o6] G=.rt (.bl Â) G) \/
  (∃(left':P3)(p3 p4 p5 p6:X9),(∀x∈left',Ð x=Ä)/\nF mix names its left=left'.isEmpty/\aT (ML 3 4 5) cj (its.map bS) [À (aM a b mix vV),À (.con (names.map .str)),À (.con (left.map .str)),o3,o4,o5,o6] G=.nx [À (aM a b mix vV),À (.con (names.map .str)),À (.con (left'.map .str)),p3,p4,p5,p6] G)
 |[],hi,left,hle,UI,o3,o4,o5,o6,G=>.inr ⟨left,o3,o4,o5,o6,hle,by rw[nF],by simp[aT]⟩
 |i::R,hi,left,hle,UI,o3,o4,o5,o6,G=>by
  have hin:=hi i (by simp);have hR:∀G,az (aM a b mix vV) (.int 2) G=.ok (.str (if mix=Ä then "mix" else "row")) G:=λG=>by unfold aM;simp![at2]
  have hrm:=λG=>M8 mix G;have et:ML 3 4 5 (bS i) [À (aM a b mix vV),À (.con (names.map .str)),À (.con (left.map .str)),o3,o4,o5,o6]=À [À (aM a b mix vV),À (.con (names.map .str)),À (.con (left.map .str)),À (.str i.nm),À (.int i.lo),À (jq i.hi),o6]:=rfl;have f1:=NZ Â 1 i.nm hin names hn ∅ [À (aM a b mix vV),À (.con (names.map .str)),À (.con (left.map .str)),À (.str i.nm),À (.int i.lo),À (jq i.hi),o6] G rfl rfl rfl;have ec:(names.filter λn=>Â ^^ (n==i.nm))=names.filter λn=>n==i.nm:=by congr 1;funext n;simp
  rw[ec]at f1;have hcl:qv names i.nm<=names.length:=ū _ _;have UP:((names.filter λn=>n==i.nm).map D.str).length=qv names i.nm:=by simp[qv]
  generalize hF:(names.filter λn=>n==i.nm).map D.str=F at f1 UP;generalize hC:qv names i.nm=C at hcl UP;generalize YB:(names.map D.str)=ND at f1 et |-;generalize YC:aM a b mix vV=RD at f1 et hR |-;generalize hwm:(if mix=Ä then ("mix":Str) else "row")=wm at hR hrm;rw[É,aY et];have s1:∀G,tF (.con (left.map .str)) Å (À (C:Int)) G=.ok (.obj G.length) (G++[.lst ((left.take C).map .str)]):=λG=>by
   have kj:cutD (left.map D.str) Å (À (C:Int))=(left.take C).map .str:=by unfold cutD;rw[HT.iV,HT.jc];rw[Ú,Nat.sub_zero,aaB,<- aaR];congr 1;rw[aaL];lia
   have hz:((left.take C).map D.str).length<=Ç:=lz (by simp;lia);simp only[tF,ak,kj,aN,Α hz]
  have s2:∀G,tF (.con (left.map .str)) (À (C:Int)) Å G=.ok (.obj G.length) (G++[.lst ((left.drop C).map .str)]):=λG=>by
   have kj:cutD (left.map D.str) (À (C:Int)) Å=(left.drop C).map .str:=by
    unfold cutD;rw[HT.iV,HT.jc,Ĕ (by rw[ō];lia),<- aaS];congr 1;rw[Ú];by_cases h:C<=left.length
    ·rw[show min C left.length=C by lia]
    ·rw[show min C left.length=left.length by lia,Ĳ ∅,Ĳ ∅]
   have hz:((left.drop C).map D.str).length<=Ç:=lz (by simp;lia);simp only[tF,ak,kj,aN,Α hz]
  have k1:aG ((left.take C).map D.str)=Ä:=aB λ_=>aW;have k2:aG ((left.drop C).map D.str)=Ä:=aB λ_=>aW;have hC9:C<=900:=∅
  have rp:=λx4 x5=>Na i.nm C hC9 [À RD,À (.con ND),À (.con (left.map .str)),À (.str i.nm),x4,x5,À (.int (C:Int))] G rfl rfl;have BI:=JT i C (À RD) (À (.con ND)) (À (.con (left.map .str))) (À (.str i.nm)) G;have hst:∀x∈left.take C,Ð x=Ä:=λx hx=>hle x (aa2 hx);have hsr:∀x∈Ô C i.nm,Ð x=Ä:=λx hx=>by rw[(acL.mp hx).2];exact hin
  have eqs:=u9 Ä (left.take C) (Ô C i.nm) hst hsr G;have f2:=NZ Ä 2 i.nm hin left hle ∅ [À RD,À (.con ND),À (.con (left.map .str)),À (.str i.nm),À (.int i.lo),À (jq i.hi),À (.int (C:Int))] G rfl rfl rfl;have ef:(left.filter λn=>Ä ^^ (n==i.nm))=left.filter λn=>!(n==i.nm):=by congr 1;funext n;simp
  rw[ef]at f2;have w1:eFn (jK (aa 2) (cM) (bq (aa 6))) [À RD,À (.con ND),À (.con (left.map .str)),À (.str i.nm),À (.int i.lo),À (jq i.hi),À (.int (C:Int))] G=.ok (.con ((left.take C).map .str)) G:=by
   simp_all! [cI,tZ,m6,kW,m7,s1]
   rw[eX k1]
  have w2:eFn (jK (aa 2) (bq (aa 6)) (cM)) [À RD,À (.con ND),À (.con (left.map .str)),À (.str i.nm),À (.int i.lo),À (jq i.hi),À (.int (C:Int))] G=.ok (.con ((left.drop C).map .str)) G:=by
   simp_all! [cI,tZ,m6,kW,m7,s2]
   rw[eX k2]
  have hLF:nF mix names (i::R) left=if inR i (C:Int)=Ä then if mix=Ä then nF mix names R (left.filter λn=>!(n==i.nm)) else if left.take C=Ô C i.nm then nF mix names R (left.drop C) else Â else Â:=by rw[nF,hC]
  have Nb:aL [.con F] G=.ok (.int (C:Int)) G:=by simp only[aL,ak,UP]
  rw[hLF];cases hr:inR i (C:Int)with
  |false=>
   rw[hr]at BI;refine .inl ⟨rfl,?_⟩;have step:cj [À RD,À (.con ND),À (.con (left.map .str)),À (.str i.nm),À (.int i.lo),À (jq i.hi),o6] G=.rt (.bl Â) G:=by
    unfold cj
    simp_all! [f1,Nb,BI,ų,wK]
   rw[step];rfl
  |true=>
   rw[hr]at BI;rw[Α rfl];cases mix with
   |true=>
    rw[Α rfl];have step:cj [À RD,À (.con ND),À (.con (left.map .str)),À (.str i.nm),À (.int i.lo),À (jq i.hi),o6] G=.nx [À RD,À (.con ND),À (.con ((left.filter λn=>!(n==i.nm)).map .str)),À (.str i.nm),À (.int i.lo),À (jq i.hi),À (.int (C:Int))] G:=by
     unfold cj
     simp_all! [f1,Nb,BI,Ŝ]
     simp_all! [pJ,hR,hrm,Ŝ,ħ,if_false,f2]
    rw[step,cV,<- YC,<- YB];exact vc a b Ä vV names hn hl R (λj hj=>hi j (by simp[hj])) _ (λx hx=>hle x (Ĥ.mp hx).1) (ú (ū _ _) UI) _ _ _ _ G
   |false=>
    rw[Β (by decide)];by_cases he:left.take C=Ô C i.nm
    ·have he':(left.take C==Ô C i.nm)=Ä:=‹he›
     rw[he']at eqs;rw[Α he];have step:cj [À RD,À (.con ND),À (.con (left.map .str)),À (.str i.nm),À (.int i.lo),À (jq i.hi),o6] G=.nx [À RD,À (.con ND),À (.con ((left.drop C).map .str)),À (.str i.nm),À (.int i.lo),À (jq i.hi),À (.int (C:Int))] G:=by
      unfold cj
      simp_all! [f1,Nb,BI,Ŝ]
      simp_all! [pJ,hR,hrm,ų,w1,rp,eqs,Bool.xor_self,w2]
     rw[step,cV,<- YC,<- YB];exact vc a b Â vV names hn hl R (λj hj=>hi j (by simp[hj])) _ (λx hx=>hle x (aa3 hx)) (by simp;lia) _ _ _ _ G
    ·have he':(left.take C==Ô C i.nm)=Â:=‹he›
     rw[he']at eqs;rw[Β he];refine .inl ⟨rfl,?_⟩;have step:cj [À RD,À (.con ND),À (.con (left.map .str)),À (.str i.nm),À (.int i.lo),À (jq i.hi),o6] G=.rt (.bl Â) G:=by
      unfold cj
      simp_all! [f1,Nb,BI,Ŝ]
      simp_all! [pJ,hR,hrm,ų,w1,rp,eqs,Bool.xor_false,wK]
     rw[step];rfl
theorem JU(a b:Str)(m:Bool)(c:List Itm)(W:WF c)(s:∀i∈c,Ð i.nm=Ä)(names:P3)(f:∀x∈names,Ð x=Ä)(n:names.length<=100)(G:DH):
  eB [aM a b m c,.con (names.map .str)] G=.ok (.bl (accept m c names)) G:=by
 have h:aG (names.map D.str)=Ä:=aB λ_=>aW;have hz:(names.map D.str).length<=Ç:=lz (by simp;lia);have k:eFn (ai qF (af (aa 1) (ah))) [À (aM a b m c),À (.con (names.map .str)),Å,Å,Å,Å,Å] G=.ok (.con (names.map .str)) G:=by
  simp_all! [cI,qF,ak]
  rw[eu hz h]
 have o:∀τ,aj az (aa 0) (eC (.int 3)) (À (aM a b m c)::τ) G=.ok (.tup (c.map bS)) G:=by intro τ;unfold aM;simp![Sf]
 have g:=Dg m c W names;unfold eB;refine gy ?_ fC;rw[bG];unfold oA;simp only[É,ė,Ñ,ņ,ī,á,Ô,f6,mq,k,rF,gw,Ü,Ý,fh,o,Ii];rcases vc a b m c names f n c s names f (È _) Å Å Å Å G with⟨e,d⟩|⟨l,p,j,q,u,v,e,d⟩
 ·rw[d,wK,iR,<- g,e]
 ·rw[d,gw,<- g,e];have t:eFn (ai aN (ah)) [À (aM a b m c),À (.con (names.map .str)),À (.con (l.map .str)),p,j,q,u] G=.ok (.con (([]:P3).map .str)) G:=by simp only[cI,pH,qG,dQ];exact eu (é _) rfl
  have r:=u9 Â l [] v (by simp) G;simp only[tX,tY,gZ,Ĭ,aak,dQ,aI,t,r,nL,iR,Ų];cases l<;>rfl
def sD(w:P3):D:=.con (w.map .str)
theorem nt(w:P3):(sD w).closed=Ä:=by unfold sD;rw[c8];exact aB λ_=>aW
theorem Dh(r:P3)(h:r.length<=100)(nm:Str)(a b c d:X9)(H:DH):eFn (aj ay (aa 4) (eFn (ai aN (af (aa 5) (ah))))) [a,b,c,d,À (sD r),À (.str nm)] H=.ok (sD (r++[nm])) H:=by
 have z:(1:Nat)<=Ç:=lz ∅;have e:eFn (ai aN (af (aa 5) (ah))) [a,b,c,d,À (sD r),À (.str nm)] H=.ok (.con [.str nm]) H:=by
  simp_all! [cI]
  exact eu ‹z› (by simp[bh,dF,aW])
 rw[cI,tY];have f:aa 4 [a,b,c,d,À (sD r),À (.str nm)] H=.ok (.con (r.map .str)) H:=rfl;rw[f,dQ,aI,e,dQ];have es:sD (r++[nm])=.con (r.map .str++[.str nm]):=by simp[sD]
 rw[es];show(aN _ H).fw H=_;exact eu (lz (by simp;lia)) (by rw[jE,bh,dF,aW,aB λ_=>aW];rfl)
theorem N2(r:P3)(e:r.length<=100)(a b c:X9)(G:DH):∀(S:P3)(d:X2)(o:X9),d.length+S.length<1000000 ->
  ∃p,aT (gN 5) dR (S.map .str) [a,b,c,À (.obj G.length),À (sD r),o] (G++[.lst d])=.nx [a,b,c,À (.obj G.length),À (sD r),p] (G++[.lst (d++(S.map λnm=>r++[nm]).map sD)])
 |[],d,o,h=>⟨o,by simp[aT]⟩
 |nm::S,d,o,h=>by
  simp only[Ñ]at h;have hz:d.length<Ç:=Õ ∅ (lz (n:=1000000) ∅);obtain⟨p,i⟩:=N2 r e a b c G S (d++[sD (r++[nm])]) (À (.str nm)) (by simp;lia);refine⟨p,?_⟩;have l:=Dh r e nm a b c (À (.obj G.length)) (G++[.lst d]);rw[É,aY rfl];simp only[Ü,Ý];have s:dR [a,b,c,À (.obj G.length),À (sD r),À (.str nm)] (G++[.lst d])=.nx [a,b,c,À (.obj G.length),À (sD r),À (.str nm)] (G++[.lst (d++[sD (r++[nm])])]):=by
   generalize sD (r++[nm])=f at l |-;generalize sD r=g at l |-;unfold dR
   simp_all! [jD,jh,c7,jW,beq_self_eq_true,l,aP,Α hz,Cc,kg]
  rw[s,cV,i];simp
theorem N3(S:P3)(a b:X9)(G:DH):∀(c:List P3),(∀r∈c,r.length<=100)->∀(d:X2)(f o:X9),d.length+c.length*S.length<1000000 ->
  ∃g p,aT (gN 4) dS (c.map sD) [a,b,À (sD S),À (.obj G.length),f,o] (G++[.lst d])=.nx [a,b,À (sD S),À (.obj G.length),g,p] (G++[.lst (d++(iK c S).map sD)])
 |[],j,d,f,o,h=>⟨f,o,by simp[aT,iK]⟩
 |e::c,j,d,f,o,h=>by
  simp only[Ñ,ŵ]at h;obtain⟨q,k⟩:=N2 e (j e (by simp)) a b (À (sD S)) G S d o ∅;obtain⟨g,p,l⟩:=N3 S a b G c (λr i=>j r (by simp[i])) (d++(S.map λnm=>e++[nm]).map sD) (À (sD e)) q (by simp;lia);refine⟨g,p,?_⟩;rw[É,aY rfl];simp only[Ü,Ý];have s:dS [a,b,À (sD S),À (.obj G.length),À (sD e),o] (G++[.lst d])=.nx [a,b,À (sD S),À (.obj G.length),À (sD e),q] (G++[.lst (d++(S.map λnm=>e++[nm]).map sD)]):=by
   unfold dS;rw[fh]
   simp_all! [dQ]
   exact k
  rw[s,cV,l];simp[iK]
theorem Bb(a:List P3)(S:P3):(iK a S).length=a.length*S.length:=by
 induction a with
 |nil=>simp[iK]
 |cons r a i=>unfold iK at i |-;rw[aaA,Û,i,Ú,Ñ,ŵ];lia
theorem rows0(a:X9)(B:Nat):∀(c:List P3)(b:List P3),(∀r∈b,r.length+c.length<=100)->(∀S∈c,S.length<=B)->b.length*B^c.length<1000000->1<=B->∀(g e d o:X9)(G:DH),
  ∃(l p i n:X9)(R:DH),aT (gN 2) dU (c.map sD) [a,À (.con (b.map sD)),g,e,d,o] G=.nx [a,À (.con ((c.foldl iK b).map sD)),l,p,i,n] (G++R)
 |[],b,k,j,hz,q,g,e,d,o,G=>⟨g,e,d,o,[],by simp[aT]⟩
 |S::c,b,k,j,hz,q,g,e,d,o,G=>by
  have C:b.length*S.length<=b.length*B:=Ž _ (j S (by simp));have z:1<=B^c.length:=Nat.one_le_pow _ _ q;have u:b.length*S.length*B^c.length<1000000:=by have:b.length*S.length*B^c.length<=b.length*B*B^c.length:=Ŵ _ C;rw[Ñ,acU,acO (B^c.length) B,<- Nat.mul_assoc]at hz;lia
  have m:b.length*S.length<1000000:=by have:b.length*S.length*1<=b.length*S.length*B^c.length:=Ž _ z;lia
  obtain⟨x,w,f⟩:=N3 S a (À (.con (b.map sD))) G b (λr h=>by have:=k r h;simp at this;lia) [] d o ‹m›;rw[á]at f;obtain⟨l,p,i,n,R,y⟩:=rows0 a B c (iK b S) (λr h=>by obtain⟨D,v,nm,_,rfl⟩:=uY.mp h;have:=k D v;simp at this |-;lia) (λA t=>j A (by simp[t])) (by rw[Bb];exact u) q (À (sD S)) (À (.obj G.length)) x w (G++[.dead])
  refine⟨l,p,i,n,[.dead]++R,?_⟩;rw[É,aY rfl];simp only[Ü,Ý];have v:(0:Nat)<=Ç:=é _;have s:dU [a,À (.con (b.map sD)),À (sD S),e,d,o] G=.nx [a,À (.con ((iK b S).map sD)),À (sD S),À (.obj G.length),x,w] (G++[.dead]):=by
   generalize sD S=E at f |-;generalize(iK b S).map sD=M1 at f |-;unfold dU
   simp_all! [aN,Α v,fh,f,ud,DR]
  rw[s,cV,y,ą,â]
theorem Bd(a:List P3)(d:a.length<=8)(c:∀S∈a,S.length<=5)(G:DH):fW [.con (a.map sD)] G=.ok (.con ((bA a).map sD)) G:=by
 have k:5^a.length<=5^8:=aa0 ∅ d;obtain⟨j,p,i,g,R,e⟩:=rows0 (À (.con (a.map sD))) 5 a [[]] (by simp;lia) c (by simp;lia) ∅ Å Å Å Å G;have z:(1:Nat)<=Ç:=lz ∅;have h:aG ((bA a).map sD)=Ä:=aB nt;have b:∀τ,eFn (ai aN (af (eFn (ai aN (ah))) (ah))) τ G=.ok (.con (([[]]:List P3).map sD)) G:=by
  intro τ;have f:eFn (ai aN (ah)) τ G=.ok (.con []) G:=by simp only[cI,pH,qG,dQ];exact eu (é _) rfl
  rw[cI]
  simp_all! [f]
  exact eu ‹z› (by simp[bh,dF,c8])
 unfold fW;refine fV (R:=R) ?_ (by rw[c8];exact h);rw[bG];unfold iN;unfold bA;generalize a.map sD=C at e |-;generalize(a.foldl iK [[]]).map sD=F at e |-;generalize([[]]:List P3).map sD=R0 at b e
 simp_all! [b,fh,e]
theorem Be{p:dw->Bool}(P:Str->Prop):∀(c:List dw)(a:P3),(∀x∈a,P x)->(∀r∈c,P r.nm)->∀x∈c.foldl (i9 p) a,P x
 |[],a,h,_,x,d=>h x d
 |r::c,a,h,e,x,d=>by
  rw[ą]at d;refine Be P c _ ?_ (λq f=>e q (by simp[f])) x d;intro y b;unfold i9 at b;split at b
  ·rcases í.mp b with b|b
   ·exact h y b
   ·rw[è.mp b];exact e r (by simp)
  ·exact h y b
theorem Bf{p:dw->Bool}:∀(b:List dw)(a:P3),(b.foldl (i9 p) a).length<=a.length+b.length
 |[],a=>by simp
 |r::b,a=>by
  have:=Bf (p:=p) b (i9 p a r);have h:(i9 p a r).length<=a.length+1:=by unfold i9;split<;>simp
  simp only[ą,Ñ];lia
theorem sO{a:List dw}(h:∀r∈a,vS r)(t:T):∀x∈cE a t,Ð x=Ä:=by
 cases t with
 |nd k ps=>rw[cE];exact Be (λx=>Ð x=Ä) a [] (by simp) λr b=>(h r b).sn
theorem ve(r:List dw)(t:T):(cE r t).length<=r.length:=by
 cases t with
 |nd k ps=>rw[cE];have:=Bf (p:=sy (ql r ps) k) r [];simpa[Gf]using this
theorem Di{p q:dw->Bool}(h:∀r,p r=q r)(a:P3)(r:dw):i9 p a r=i9 q a r:=by unfold i9;rw[h r]
theorem any_rows(a N:List P3)(m:a.length=N.length)(h:∀(i:Nat) S c,a[i]?=À S->N[i]?=À c->∀x,x∈S↔x∈c)(p:P3->Bool):(bA a).any p=(bA N).any p:=by
 have k:∀w,w∈bA a↔w∈bA N:=by
  intro w;rw[fy _ a rfl,fy _ N rfl];constructor
  ·rintro⟨j,d⟩;refine⟨∅,λi c nm b f=>?_⟩;have l:i<N.length:=(Á.mp b).1;have e:a[i]?=À (a[i]'∅):=Ê ∅;exact(h i _ c e b nm).mp (d i _ nm e f)
  ·rintro⟨j,d⟩;refine⟨∅,λi S nm b f=>?_⟩;have l:i<a.length:=(Á.mp b).1;have e:N[i]?=À (N[i]'∅):=Ê ∅;exact(h i S _ b e nm).mpr (d i _ nm e f)
 apply Ň.mpr;rw[Đ,Đ];exact⟨λzz=>by obtain⟨w,g,h⟩:=zz;exact⟨w,(k w).mp g,h⟩,λ⟨w,g,h⟩=>⟨w,(k w).mpr g,h⟩⟩
theorem sP(r:dw)(G:DH):az (aJ r) (.int 0) G=.ok (.str r.nm) G:=by unfold aJ aM;simp![JL]
theorem zk(r:dw)(G:DH):az (aJ r) (.int 1) G=.ok (.str r.kd) G:=by unfold aJ aM;simp![JM]
theorem xG(F:X2->M D)(S t:D)(k:Str)(T:Ð k=Ä)(g:∀G,az t (.int 0) G=.ok (.str k) G)(b:List P3)(X:b.length<1000000)(o:∀w∈b,w.length<=100/\∀x∈w,Ð x=Ä)(G:DH):∀(l:List dw),(∀r∈l,vS r)->∀(a:P3)(E:X9),(∀x∈a,Ð x=Ä)->a.length+l.length<=1000 ->
  ∃K,aT (gN 4) (gJ F) (l.map aJ) [À S,À t,À (.con (b.map sD)),À (.obj G.length),E] (G++[.lst (a.map .str)])=.nx [À S,À t,À (.con (b.map sD)),À (.obj G.length),K] (G++[.lst ((l.foldl (i9 λr=>r.kd==k&&b.any (accept r.mix r.its)) a).map .str)])
 |[],L,a,E,I,hz=>⟨E,by simp[aT]⟩
 |r::l,L,a,E,I,hz=>by
  simp only[Ñ]at hz;have y:=L r (by simp);have hsz:a.length<Ç:=Õ ∅ (lz (n:=1001) ∅);have B:e8 Â (.str r.kd) (.str k) (G++[.lst (a.map .str)])=.ok (.bl (r.kd==k)) (G++[.lst (a.map .str)]):=by rw[iy Â _ _ _ y.sk T,Ų]
  have j:=tV r.nm a (G++[.lst (a.map .str)]) y.sn (gp a I);have C:eFn (dD oN [Â,Â,Â,Â,Ä] (aa 2) (bM) (aC 2 eB (af (aa 5) (af (aa 0) (ah))))) [À S,À t,À (.con (b.map sD)),À (.obj G.length),À (aJ r)] (G++[.lst (a.map .str)])=.ok (.con ((b.map (accept r.mix r.its)).map .bl)) (G++[.lst (a.map .str)]):=by
   generalize hH:G++[DO.lst (a.map .str)]=H;have Q:=bF (τ:=[À S,À t,À (.con (b.map sD)),À (.obj G.length),À (aJ r)]) (G:=H) (gO:=oN) (ks:=[Â,Â,Â,Â,Ä]) (tt:=bM) (te:=aC 2 eB (af (aa 5) (af (aa 0) (ah)))) (own:=λw:P3=>[sD w]) (dat:=sD) (f:=λw=>.bl (accept r.mix r.its w)) (c:=λ_=>Ä) b [] (by simp;lia) (λx _=>rfl) (λx i a=>by first|rfl|simp[bM]) (λw Z a=>by have Y:=o w Z;have N:=JU r.nm r.kd r.mix r.its y.wf y.si w Y.2 Y.1 (H++[.lst a]);have e:eB [aJ r,sD w] (H++[.lst a])=.ok (.bl (accept r.mix r.its w)) (H++[.lst a]):=N;generalize aJ r=R at e |-;generalize sD w=W at e |-;simp[mask,e])
   rw[á,ġ.mpr (λ_ _=>rfl)]at Q;have O:aG (b.map λw=>D.bl (accept r.mix r.its w))=Ä:=aB λ_=>fC;rw[ā];show _=Out.ok (D.con (b.map λw=>D.bl (accept r.mix r.its w))) H;simp only[cI,m5,gZ,Ĭ,aak,dQ,Q];rw[eX O]
  have d:tK Ä [.con ((b.map (accept r.mix r.its)).map .bl)] (G++[.lst (a.map .str)])=.ok (.bl (b.any (accept r.mix r.its))) (G++[.lst (a.map .str)]):=by simp only[tK,ak,qO,if_true,abY];rfl
  have z:=sP r;have m:=zk r;have v:gJ F [À S,À t,À (.con (b.map sD)),À (.obj G.length),À (aJ r)] (G++[.lst (a.map .str)])=.nx [À S,À t,À (.con (b.map sD)),À (.obj G.length),À (aJ r)] (G++[.lst ((i9 (λr=>r.kd==k&&b.any (accept r.mix r.its)) a r).map .str)]):=by
   have p:i9 (λr=>r.kd==k&&b.any (accept r.mix r.its)) a r=if (r.kd==k&&b.any (accept r.mix r.its))=Ä/\r.nm∉a then a++[r.nm] else a:=rfl
   rw[p];generalize b.any (accept r.mix r.its)=A at d |-;generalize(b.map (accept r.mix r.its)).map D.bl=BL at C d;generalize aJ r=R at C z m |-;have s:(a.any λx=>x==r.nm)=decide (r.nm∈a):=by
    apply Ň.mpr;rw[Đ,decide_eq_true_iff];constructor
    ·rintro⟨x,i,e⟩;rw[beq_iff_eq]at e;exact e▸i
    ·exact λh=>⟨r.nm,h,by simp⟩
   rw[s]at j;unfold gJ;cases u:(r.kd==k)with
   |false=>rw[u]at B;rw[Β (by simp)];simp[m,g,B]
   |true=>
    rw[u]at B;by_cases J:r.nm∈a
    ·rw[Β (by simp[J])];rw[show decide (r.nm∈a)=Ä from decide_eq_true J]at j;simp[z,m,g,B,tD,ak,jW,j]
    ·rw[show decide (r.nm∈a)=Â from decide_eq_false J]at j;cases A with
     |false=>rw[Β (by simp)];simp[z,m,g,B,tD,ak,jW,j,C,d,j0]
     |true=>rw[Α ⟨rfl,J⟩];simp[z,m,g,B,tD,ak,jW,j,C,d,j0,c7,aP,hsz,Cc]
  have P:∀x∈i9 (λr=>r.kd==k&&b.any (accept r.mix r.its)) a r,Ð x=Ä:=by
   intro x i;unfold i9 at i;split at i
   ·rcases í.mp i with i|i
    ·exact I x i
    ·rw[è.mp i];exact y.sn
   ·exact I x i
  have UI:(i9 (λr=>r.kd==k&&b.any (accept r.mix r.its)) a r).length<=a.length+1:=by unfold i9;split<;>simp
  obtain⟨K,U⟩:=xG F S t k T g b X o G l (λq V=>L q (by simp[V])) _ (À (aJ r)) P ∅;refine⟨K,?_⟩;rw[É,aY rfl];simp only[Ü,Ý,v,cV];exact U
theorem oH:∀l:P3,strsOf (l.map D.str)=À l
 |[]=>rfl
 |x::l=>by simp[strsOf,oH l]
theorem Bg(B:Nat):∀(a:List P3)(r:List P3),(∀S∈a,S.length<=B)->(a.foldl iK r).length<=r.length*B^a.length
 |[],r,h=>by simp
 |S::a,r,h=>by have i:=Bg B a (iK r S) λc b=>h c (by simp[b]);rw[Bb]at i;have d:r.length*S.length*B^a.length<=r.length*B*B^a.length:=Ŵ _ (Ž _ (h S (by simp)));rw[ą,Ñ,acU,acO (B^a.length) B,<- Nat.mul_assoc];lia
theorem Ei{c:T}:∀{p:List T},c∈p->∀s∈c.subs,s∈br p
 |t::r,h,s,a=>by
  rw[br];rcases Þ.mp h with rfl|h
  ·simp[a]
  ·exact ċ _ (Ei h s a)
theorem sub_len{c:T}:∀{p:List T},c∈p->c.subs.length<=(br p).length
 |t::r,h=>by
  rw[br,Û];rcases Þ.mp h with rfl|h
  ·lia
  ·have:=sub_len h;lia
theorem Ej(n0:Str)(a:List dw)(hz:a.length<=5)(j:∀r∈a,vS r):∀(n:Nat)(t:T),vU t->t.subs.length<=n->∀G,bT n [cO n0 a,t.d] G=.ok (sD (cS (cE a t))) G
 |0,.nd k ps,M,q,G=>by rw[T.subs]at q;simp at q
 |n+1,.nd k ps,M,q,G=>by
  obtain⟨⟨X,hps⟩,z⟩:=M.node;rw[T.subs,Ñ]at q;have V:∀c∈ps,∀G,bT n [cO n0 a,c.d] G=.ok (sD (cS (cE a c))) G:=λc l G=>Ej n0 a hz j n c (λs hs=>z s (Ei l s hs)) (by have:=sub_len l;lia) G;rw[bT];have m:=bF (τ:=[À (cO n0 a),À (T.nd k ps).d,Å,Å,Å]) (G:=G) (gO:=oN) (ks:=[Ä]) (tt:=bM) (te:=aC 2 (bT n) (af (aa 1) (af (aa 0) (ah)))) (own:=λc:T=>[c.d]) (dat:=T.d) (f:=λc=>sD (cS (cE a c))) (c:=λ_=>Ä) ps [] (by simp;lia) (λx _=>rfl) (λx u h=>by first|rfl|simp[bM]) (λc l h=>by have e:=V c l (G++[.lst h]);generalize cO n0 a=S at e |-;generalize c.d=cd at e |-;generalize bT n=F at e |-;simp[mask,e])
  rw[á,ġ.mpr (λ_ _=>rfl),<- jT]at m;generalize U:ps.map (λc=>cS (cE a c))=b;have o:ps.map (λc=>sD (cS (cE a c)))=b.map sD:=by rw[<- U,ā];rfl
  rw[o]at m;have WH:b.length=ps.length:=by rw[<- U,Ú]
  have Y:∀S∈b,S.length<=5:=by intro S p;rw[<- U]at p;obtain⟨c,l,rfl⟩:=ê.mp p;rw[(dg _).length_eq];exact ú (ve a c) hz
  have C:∀S∈b,∀x∈S,Ð x=Ä:=by intro S p x u;rw[<- U]at p;obtain⟨c,l,rfl⟩:=ê.mp p;exact sO j c x ((dg _).mem_iff.mp u)
  have E:aG (b.map sD)=Ä:=aB nt;have J:=Bd b ∅ Y G;have W:(bA b).length<1000000:=by have N:=Bg 5 b [[]] Y;have P:5^b.length<=5^8:=aa0 ∅ ∅;unfold bA;simp at N;lia
  have K:∀w∈bA b,w.length<=100/\∀x∈w,Ð x=Ä:=by intro w hw;obtain⟨N,P⟩:=(fy _ b rfl w).mp hw;refine⟨∅,λx u=>?_⟩;obtain⟨i,hi,e⟩:=ğ u;have g:b[i]?=À (b[i]'∅):=Ê ∅;have:=P i _ x g (by rw[Ê hi,e]);exact C _ (Ŷ _) x this
  have y:∀G,az (T.nd k ps).d (.int 0) G=.ok (.str k) G:=λG=>by rw[T.d];simp![uL]
  obtain⟨p4,g⟩:=xG (bT n) (cO n0 a) (T.nd k ps).d k X y (bA b) W K G a j [] Å (by simp) (by simp;lia);have Xl:a.foldl (i9 λr=>r.kd==k&&(bA b).any (accept r.mix r.its)) []=cE a (.nd k ps):=by
   rw[cE];unfold Gf;congr 1;funext h r;refine Di (λr=>?_) h r;unfold sy;congr 1;rw[uZ];refine any_rows b (ps.map (cE a)) (by simp[WH]) (λi S S' e1 B x=>?_) _;rw[<- U,Ö]at e1;rw[Ö]at B;cases hp:ps[i]? with
   |none=>rw[hp]at e1;cases e1
   |some c=>rw[hp]at e1 B;cases e1;cases B;exact(dg _).mem_iff
  rw[Xl]at g;have Q:=ve a (.nd k ps);have H:((cS (cE a (.nd k ps))).map D.str).length<=Ç:=lz (by rw[Ú,(dg _).length_eq];lia);have Xm:aG ((cS (cE a (.nd k ps))).map D.str)=Ä:=aB λ_=>aW;have O:∀τ:DS,τ[3]?=À (À (.obj G.length))->eFn (ai ly (af (aa 3) (ah))) τ (G++[.lst ((cE a (.nd k ps)).map .str)])=.ok (sD (cS (cE a (.nd k ps)))) (G++[.lst ((cE a (.nd k ps)).map .str)]):=by
   intro τ Z;have v:(cE a (.nd k ps)).length<64:=∅
   simp_all! [cI,Z,ly,gB,jW,ak,oH,Α v]
   exact eu H Xm
  have I:∀G,az (cO n0 a) (.int 1) G=.ok (.tup (a.map aJ)) G:=λG=>by unfold cO;simp![qM]
  have A:∀G,az (T.nd k ps).d (.int 1) G=.ok (.tup (dL ps)) G:=λG=>by rw[T.d];simp![qM]
  refine fV (R:=[.lst ((cE a (.nd k ps)).map .str)]) ?_ (nt _);generalize cE a (.nd k ps)=NM at g O |-;rw[bG];unfold iH;have h0:(0:Nat)<=Ç:=é _;generalize(T.nd k ps).d=td at m g A |-;generalize cO n0 a=S at m g I |-;generalize a.map aJ=RS at g I;generalize hdl:dL ps=DL at m A;have L:eFn (dD oN [Ä] (aj az (aa 1) (eC (.int 1))) (bM) (aC 2 (bT n) (af (aa 1) (af (aa 0) (ah))))) [À S,À td,Å,Å,Å] G=.ok (.con (b.map sD)) G:=by
   simp_all! [cI,m5,A,m]
   rw[eX E]
  generalize b.map sD=SD at L J;generalize(bA b).map sD=AR at J g;rw[ė]at g
  simp_all! [L,J,aN,Α h0,fh,I,g]
  rw[O _ rfl,nL,iR]
theorem vz.head{a:List dw}{t:T}{p:D2}{nm:Str}{ms:PD}(h:vz a t p nm ms):∃(n:Nat)(r:dw)(m:PD),a[n]?=À r/\r.nm=nm/\ms=(p,.int n)::m:=by
 cases t with
 |nd k ps=>rw[vz]at h;obtain⟨n,r,c,m,d,b,_,_,_,rfl⟩:=h;exact⟨n,r,m,d,b,rfl⟩
theorem oG.Ek{d:List dw}:∀{b:List T}{p:D2}{j:Int}{a:P3}{ms:PD},oG d b p j a ms->a.length=b.length
 |[],p,j,a,ms,h=>by rw[oG]at h;rw[h.1];rfl
 |t::r,p,j,a,ms,h=>by rw[oG]at h;obtain⟨nm,i,e,m,rfl,_,c,_⟩:=h;simp[oG.Ek c]
theorem Bh(p:D2)(c:p.length<=900)(j:Int)(τ:DS)(H:DH)(i k:Nat)(a:τ[i]?=À (À (cD p)))(h:τ[k]?=À (À (.int j))):aj ay (aa i) (ai aZ (af (aa k) (ah))) τ H=.ok (cD (p++[j])) H:=by
 have z:(1:Nat)<=Ç:=lz ∅;have b:ay (cD p) (.tup [.int j]) H=.ok (cD (p++[j])) H:=by unfold cD;rw[D8 _ _ _ (lz (by simp;lia))];simp
 simp_all! [a,h,aZ,Ħ,Α z,b]
theorem xJ(n0:Str)(c:List dw)(K:∀r∈c,vS r)(F:X2->M D)(m:Nat)(fz:Bool)(ms:PD)(G:DH)(hg:G[m]?=À (.aU fz (aE ms)))(p:D2)(f g l:D)(N:Nat)(hN:N<=900)
  (Z:∀(t:T)(q:D2)(nm:Str)(sub:PD),vz c t q nm sub->(∀x∈sub,aQ ms x.1=À x.2)->vU t->t.subs.length<=N->q.length+t.subs.length<=900->∀B,F [cO n0 c,t.d,cD q,.obj m] (G++B)=.ok (.int t.subs.length) (G++B)):
  ∀(h:List T)(j:Nat)(e:P3)(sub:PD),oG c h p (j:Int) e sub->(∀x∈sub,aQ ms x.1=À x.2)->Dc h->(br h).length<=N->p.length+1+(br h).length<=900->∀(a:P3)(b:Int)(C A o:X9),a.length+h.length<=1000 ->
   ∃W J U,aT (gP 8 9) (dZ F) ((dL h).mapIdx λi x=>.tup [.int ((j+i:Nat):Int),x]) [À (cO n0 c),À f,À (cD p),À (.obj m),À g,À l,À (.obj G.length),À (.int b),C,A,o] (G++[.lst (a.map .str)])
    = .nx [À (cO n0 c),À f,À (cD p),À (.obj m),À g,À l,À (.obj G.length),À (.int (b+(br h).length)),W,J,U] (G++[.lst ((a++e).map .str)])
 |[],j,e,sub,y,z,ht,hs,hp,a,b,C,A,o,hz=>by rw[oG]at y;rw[y.1];refine⟨C,A,o,?_⟩;rw[dL,br];simp[aT]
 |t::r,j,e,sub,y,z,ht,hs,hp,a,b,C,A,o,hz=>by
  rw[oG]at y;obtain⟨nm,iL,m1,m2,rfl,h1,h2,rfl⟩:=y;obtain⟨O,Xi⟩:=ht.cons;rw[br,Û]at hs hp;simp only[Ñ]at hz;have w:=Z t (p++[(j:Int)]) nm m1 h1 (λx s=>z x (by simp[s])) O ∅ (by simp;lia) [.lst (a.map .str)];obtain⟨n,I,ms',k1,k2,k3⟩:=h1.head;have Rv:aQ ms (p++[(j:Int)])=À (.int n):=by have:=z (p++[(j:Int)],.int n) (by rw[k3];simp);exact this
  have s:nD (.obj m) (cD (p++[(j:Int)])) (G++[.lst (a.map .str)])=.ok (.int n) (G++[.lst (a.map .str)]):=lK (aH hg) Rv;have hpos:1<=t.subs.length:=mS t;obtain⟨W,J,U,ih⟩:=xJ n0 c K F m fz ms G hg p f g l N hN Z r (j+1) iL m2 (by rw[show((j+1:Nat):Int)=(j:Int)+1 by lia];exact h2) (λx s=>z x (by simp[s])) Xi ∅ ∅ (a++[nm]) (b+t.subs.length) (À (.int j)) (À t.d) (À (.int t.subs.length)) (by simp;lia);refine⟨W,J,U,?_⟩;have e0:(dL (t::r)).mapIdx (λi x=>D.tup [.int ((j+i:Nat):Int),x])=.tup [.int (j:Int),t.d]::(dL r).mapIdx λi x=>.tup [.int ((j+1+i:Nat):Int),x]:=by rw[dL,Ÿ];congr 1;apply ē;intro i;simp only[Ĉ];congr 1;funext x;rw[show j+(i+1)=j+1+i by lia]
  have V:a.length<Ç:=Õ ∅ (lz (n:=1001) ∅);have sn:=λτ H i k=>Bh p ∅ (j:Int) τ H i k;have Y:∀G,az (cO n0 c) (.int 1) G=.ok (.tup (c.map aJ)) G:=λG=>by unfold cO;simp![qM]
  have Gm:∀G,az (.tup (c.map aJ)) (.int n) G=.ok (aJ I) G:=λG=>by have:gr (c.map aJ) (n:Int)=À (aJ I):=jI (by rw[Ö,k1];rfl);simp only[az,ak,this]
  have Eb:=sP I;rw[k2]at Eb;have Q:((t.subs.length:Int)==0)=Â:=by rw[beq_eq_false_iff_ne];lia
  have X:=kR Â (t.subs.length:Int) 0 (G++[.lst (a.map .str)]);rw[Q]at X;rw[e0,aY rfl];simp only[Ü,Ý];have v:dZ F [À (cO n0 c),À f,À (cD p),À (.obj m),À g,À l,À (.obj G.length),À (.int b),À (.int j),À t.d,o] (G++[.lst (a.map .str)])=.nx [À (cO n0 c),À f,À (cD p),À (.obj m),À g,À l,À (.obj G.length),À (.int (b+t.subs.length)),À (.int j),À t.d,À (.int t.subs.length)] (G++[.lst ((a++[nm]).map .str)]):=by have u:=sn [À (cO n0 c),À f,À (cD p),À (.obj m),À g,À l,À (.obj G.length),À (.int b),À (.int j),À t.d,o] (G++[.lst (a.map .str)]) 2 8 rfl rfl;have R:=sn [À (cO n0 c),À f,À (cD p),À (.obj m),À g,À l,À (.obj G.length),À (.int (b+t.subs.length)),À (.int j),À t.d,À (.int t.subs.length)] (G++[.lst (a.map .str)]) 2 8 rfl rfl;rw[show(a++[nm]).map D.str=a.map .str++[.str nm] by simp];generalize(t.subs.length:Int)=L at w X R |-;generalize cO n0 c=S at w u R Y |-;generalize t.d=tt at w u R |-;generalize cD (p++[(j:Int)])=P1 at w s u R;generalize cD p=P at u R |-;generalize c.map aJ=RS at Y Gm;generalize hE:aj ay (aa 2) (ai aZ (af (aa 8) (ah)))=E at u R;unfold dZ;rw[hE];simp[u,R,w,X,jx,s,Y,Gm,Eb,c7,jW,aP,V,Cc]
  rw[v,cV,ih];rw[br,Û];congr 2
  ·simp;lia
  ·simp
theorem xK(n0:Str)(i:List dw)(hz:i.length<=100)(u:∀r∈i,vS r)(m:Nat)(Q:Bool)(ms:PD):∀(N:Nat),N<=900->∀(t:T)(p:D2)(nm:Str)(sub:PD),vz i t p nm sub->(∀x∈sub,aQ ms x.1=À x.2)->vU t->t.subs.length<=N->p.length+t.subs.length<=900->∀(G:DH),G[m]?=À (.aU Q (aE ms)) ->
  bX N [cO n0 i,t.d,cD p,.obj m] G=.ok (.int t.subs.length) G
 |0,hN,t,p,nm,sub,V,U,ht,hs,hp,G,A=>by have:=mS t;lia
 |N+1,hN,.nd k l,p,nm,sub,V,U,ht,hs,hp,G,A=>by
  obtain⟨⟨hk,hps⟩,I⟩:=ht.node;rw[T.subs,Ñ]at hs hp;rw[vz]at V;obtain⟨n,r,f,o,O,h2,h3,h4,h5,rfl⟩:=V;have hrl:=oG.Ek h5;have ho:=u r (ë O);have Rv:aQ ms p=À (.int n):=U (p,.int n) (by simp);obtain⟨q8,q9,NY,K⟩:=xJ n0 i u (bX N) m Q ms G A p (T.nd k l).d (.int n) (aJ r) N ∅ (λt q nm sub a b c d e B=>xK n0 i hz u m Q ms N ∅ t q nm sub a b c d e (G++B) (aH A)) l 0 f o h5 (λx v=>U x (by simp[v])) I ∅ ∅ [] 1 Å Å Å (by simp;lia);simp only[Ħ,á]at K;have z:yI (.obj m) (cD p) (.int (-1)) G=.ok (.int n) G:=by unfold yI;rw[mL];k_go;rw[A];k_go;rw[nj,Rv];rfl
  have W:wY G (.obj m)=Ä:=by unfold wY;k_go;rw[A]
  have hnl:n<i.length:=(Á.mp O).1;have F:(!decide ((0:Int)<=(n:Int)/\(n:Int)<(i.length:Int)))=Â:=by
   have:(0:Int)<=(n:Int)/\(n:Int)<(i.length:Int):=∅
   simp[this]
  have nP:∀G,az (cO n0 i) (.int 1) G=.ok (.tup (i.map aJ)) G:=λG=>by unfold cO;simp![qM]
  have Z:∀G,az (.tup (i.map aJ)) (.int n) G=.ok (aJ r) G:=λG=>by have:gr (i.map aJ) (n:Int)=À (aJ r):=jI (by rw[Ö,O];rfl);simp only[az,ak,this]
  have L:∀G,az (T.nd k l).d (.int 1) G=.ok (.tup (dL l)) G:=λG=>by rw[T.d];simp![qM]
  have YG:∀G,az (T.nd k l).d (.int 0) G=.ok (.str k) G:=λG=>by rw[T.d];simp![uL]
  have i1:=zk r;rw[h3]at i1;have w:∀G,aL [.tup (i.map aJ)] G=.ok (.int i.length) G:=λG=>by simp only[aL,ak,Ú]
  have Y:∀x∈f,Ð x=Ä:=by
   have H:∀(X:List T)(j:Int)(f:P3)(o:PD),oG i X p j f o->∀x∈f,Ð x=Ä:=by
    intro X
    induction X with
    |nil=>intro j f o h x v;rw[oG]at h;rw[h.1]at v;simp at v
    |cons t r ih=>
     intro j f o h x v;rw[oG]at h;obtain⟨nm,iL,m1,m2,rfl,a1,a2,rfl⟩:=h;obtain⟨n',r',_,E,J,_⟩:=a1.head;rcases Þ.mp v with rfl|v
     ·rw[<- J];exact(u r' (ë E)).sn
     ·exact ih _ _ _ a2 x v
   exact H l 0 f o h5
  have y:eB [aJ r,.con (f.map .str)] (G++[.dead])=.ok (.bl Ä) (G++[.dead]):=by have:=JU r.nm r.kd r.mix r.its ho.wf ho.si f Y ∅ (G++[.dead]);rw[h4]at this;exact this
  have BG:e8 Ä (.str k) (.str k) (G++[.lst (f.map .str)])=.ok (.bl Â) (G++[.lst (f.map .str)]):=by rw[iy Ä _ _ _ hk hk];simp
  have s:=w4 (g:=gP 8 9) (body:=dZ (bX N)) (xs:=dL l) (τ:=[À (cO n0 i),À (T.nd k l).d,À (cD p),À (.obj m),À (.int n),À (aJ r),À (.obj G.length),À (.int 1),Å,Å,Å]) (G:=G++[.lst []]);rw[ė]at K;rw[K]at s;have C:(1:Int)+((br l).length:Int)=(((T.nd k l).subs.length:Nat):Int):=by rw[T.subs,Ñ];lia
  rw[C]at s;rw[bX];refine fV (R:=[.dead]) ?_ b7;have h0:(0:Nat)<=Ç:=é _;have YH:∀τ:DS,τ[6]?=À (À (.obj G.length))->r8 (aa 6) τ (G++[.lst (f.map .str)])=.ok (.con (f.map .str)) (G++[.dead]):=by intro τ h6;simp only[ud,gZ,h6,DR]
  have sv:∀τ:DS,τ[3]?=À (À (.obj m))->τ[2]?=À (À (cD p))->uA (aa 3) (aa 2) (zP (eC (.int 1))) τ G=.ok (.int n) G:=by
   intro τ a b;have E:aa 3 τ G=.ok (.obj m) G:=by rw[gZ,a]
   have J:aa 2 τ G=.ok (cD p) G:=by rw[gZ,b]
   have b3:zP (eC (.int 1)) τ G=.ok (.int (-1)) G:=by simp only[Il,L5,dQ,Im]
   unfold uA;simp only[M.bind,E,J,b3,Α W,z]
  generalize((T.nd k l).subs.length:Int)=LL at s |-;generalize i.map aJ=RS at nP Z w;generalize cO n0 i=S at nP s |-;generalize(T.nd k l).d=td at L YG s |-;generalize cD p=P at sv s |-;generalize aJ r=RR at Z i1 y s;generalize f.map D.str=RW at y BG s YH;generalize dL l=DL at L s;rw[bG];unfold fT jo
  simp_all! [sv]
  simp_all! [Rg,nP,w,MH,F,Z,aN,Α h0,gx,kr,L,ak,s]
  simp_all! [oj,sI,pI,i1,YG,BG,ħ,if_false,YH,y,j0,Ŝ]
theorem oJ{b:Type} [DecidableEq b]:∀{l:List (b×D)},(l.map (·.1)).Nodup->∀x∈l,aQ l x.1=À x.2
 |p::l,h,x,a=>by
  rw[É,ķ]at h;rw[cN];rcases Þ.mp a with rfl|a
  ·rw[Α rfl]
  ·rw[Β (λe=>h.1 (by rw[e];exact ê.mpr ⟨x,a,rfl⟩)),oJ h.2 x a]
mutual
theorem vz.nd{g:List dw}:∀(t:T)(p:D2)(nm:Str)(ms:PD),vz g t p nm ms->(ms.map (·.1)).Nodup
 |.nd k b,p,nm,ms,h=>by rw[vz]at h;obtain⟨n,r,a,m,_,_,_,_,d,rfl⟩:=h;rw[É,ķ];refine⟨λl=>?_,oG.nd b p 0 a m d⟩;obtain⟨x,i,e⟩:=ê.mp l;obtain⟨f,_,c⟩:=(oG.keys b p 0 a m d).1 x i;exact gQ (p:=p) (j:=f) (by rw[e]at c;exact c)
theorem oG.nd{o:List dw}:∀(q:List T)(p:D2)(j:Int)(c:P3)(ms:PD),oG o q p j c ms->(ms.map (·.1)).Nodup
 |[],p,j,c,ms,h=>by rw[oG]at h;rw[h.2];exact List.nodup_nil
 |t::r,p,j,c,ms,h=>by rw[oG]at h;obtain⟨nm,k,i,m,rfl,g,d,rfl⟩:=h;rw[ñ,Ę];refine⟨vz.nd t _ nm i g,oG.nd r p (j+1) k m d,λa z b w e=>?_⟩;x_go;obtain⟨x,s,u⟩:=ê.mp z;obtain⟨y,v,n⟩:=ê.mp w;have l:=(vz.keys t _ nm i g).1 x s;obtain⟨A,B,f⟩:=(oG.keys r p (j+1) k m d).1 y v;rw[u]at l;rw[n]at f;have:=sN l f;lia
end
theorem xM:∀f:FS,pU ((jX f).map (·.1))=À (fU f)
 |[]=>rfl
 |p::f=>by have i:=xM f;unfold jX at i |-;simp only[É,pU,i];rfl
theorem Bj(n0:Str)(a:List dw)(hz:a.length<=5)(c:∀r∈a,vS r)(t:T)(p:vU t)(s:t.subs.length<=500)(G:DH):ic [cO n0 a,t.d] G=.ok (sD (cS (cE a t))) G:=by
 obtain⟨k,B,u,e⟩:=rO n0 a ∅ c t p s G;obtain⟨q,i,o,j,g⟩:=u.root;generalize M:G++DO.aU Â (aE k)::B=b at j e;have l:b[G.length]?=À (.aU Â (aE k)):=by rw[<- M,jW]
 have x:cD []=D.tup []:=rfl;have n:nD (.obj G.length) (.tup []) b=.ok (.obj q) b:=by rw[<- x];exact lK l o
 have m:=ve a t;have f:((cS (cE a t)).map D.str).length<=Ç:=lz (by rw[Ú,(dg _).length_eq];lia);have h:(jX i).length<64:=by
  have:(fU i).length<64:=by rw[g];lia
  simpa[jX]using this
 have v:ly [.obj q] b=.ok (.obj b.length) (b++[.lst ((cS (cE a t)).map .str)]):=by simp only[ly,gB,j,xM,Α h,g,aN,Α f]
 have w:(0:Nat)<=Ç:=é _;unfold ic;refine fV (R:=(DO.aU Â (aE k)::B)++[.dead]) ?_ (nt _);rw[<- â,M];generalize cO n0 a=S at e |-;generalize t.d=y at e |-;rw[bG];unfold oE
 simp_all! [ud,ng,e,aZ,Α w,n,v,DR]
 rfl
theorem Bk{l:P3}{x:Str}(b:∀y∈l,Ð y=Ä)(c:Ð x=Ä)(G:DH):tD Â (.str x) (sD (cS l)) G=.ok (.bl (decide (x∈l))) G:=by
 have h:=tV x (cS l) G c (gp _ λy a=>b y ((dg _).mem_iff.mp a));unfold sD;simp only[tD,ak,h,Ų];congr 2;apply Ň.mpr;rw[Đ,decide_eq_true_iff];constructor
 ·rintro⟨y,a,e⟩;rw[beq_iff_eq]at e;exact(dg _).mem_iff.mp (e▸a)
 ·exact λh=>⟨x,(dg _).mem_iff.mpr h,by simp⟩
theorem RA(n0:Str)(g:Ð n0=Ä)(a:List dw)(hz:a.length<=5)(h:∀r∈a,vS r)(t:T)(c:vU t)(f:t.subs.length<=500)(G:DH):AO [cO n0 a,t.d] G=.ok (.bl (decide (n0∈cE a t))) G:=by
 have e:=Bj n0 a hz h t c f G;have b:=Bk (sO h t) g G;have i:∀G,az (cO n0 a) (.int 0) G=.ok (.str n0) G:=λG=>by unfold cO;simp![uL]
 unfold AO;refine gy ?_ fC;generalize cO n0 a=S at e i |-;generalize t.d=j at e |-;generalize sD (cS (cE a t))=L at e b;rw[bG];unfold Jy
 simp_all! [i,e,b]
theorem xN(n0:Str)(a:List dw)(hz:a.length<=5)(p:∀r∈a,vS r)(t:T)(H:vU t)(Q:t.subs.length<=12)(o:Option Str)(C:Ð (o.getD n0)=Ä)(G:DH):
  bY [cO n0 a,t.d,Gj o,.bl (decide (o.getD n0∈cE a t))] G=.ok (.bl Ä) G:=by
 have i:∀G,az (cO n0 a) (.int 0) G=.ok (.str n0) G:=λG=>by unfold cO;simp![uL]
 have y:∀G,az (cO n0 a) (.int 1) G=.ok (.tup (a.map aJ)) G:=λG=>by unfold cO;simp![qM]
 have V:(0:Nat)<=Ç:=é _;rcases Ba n0 a ∅ p t H ∅ o G with⟨z,ms,R,m,mk,v,c⟩|⟨z,R,M,c⟩
 ·obtain⟨n,r,N,k1,k2,k3⟩:=mk.head;have h:=vz.nd t [] _ ms mk;have q:=xK n0 a ∅ p m Â ms 12 ∅ t [] _ ms mk (λx O=>oJ h x O) H Q (by simp;lia) (G++R) v;have l:=(vz.keys t [] _ ms mk).2;have u:aQ ms []=À (.int n):=by have:=oJ h ([],.int n) (by rw[k3];simp);exact this
  have A:cD []=D.tup []:=rfl;have K:nD (.obj m) (.tup []) (G++R)=.ok (.int n) (G++R):=by rw[<- A];exact lK v u
  have F:∀G,az (.tup (a.map aJ)) (.int n) G=.ok (aJ r) G:=λG=>by have:gr (a.map aJ) (n:Int)=À (aJ r):=jI (by rw[Ö,k1];rfl);simp only[az,ak,this]
  have E:=sP r;rw[k2]at E;have I:iT [.obj m] (G++R)=.ok (.int t.subs.length) (G++R):=by simp only[iT,v,ju,l]
  have B:=mS t;have k:decide ((0:Int)<(t.subs.length:Int))=Ä:=decide_eq_true ∅;have Y:e8 Â (.int t.subs.length) (.int t.subs.length) (G++R)=.ok (.bl Ä) (G++R):=by rw[kR];simp
  have s:e8 Â (.str (o.getD n0)) (.str (o.getD n0)) (G++R)=.ok (.bl Ä) (G++R):=by rw[iy _ _ _ _ C C];simp
  rw[show decide (o.getD n0∈cE a t)=Ä from decide_eq_true z];rw[A]at q;unfold bY;refine fV (R:=R) ?_ fC;generalize a.map aJ=X at y F;generalize W:cO n0 a=S at i y c q |-;generalize t.d=f at c q |-;generalize(t.subs.length:Int)=L at q I k Y;have b:∀g:D,(g=.str (o.getD n0))->(au (aA 5 (aC 4 iA (af (aa 0) (af (aa 1) (af (ai aZ (ah)) (af (aa 4) (ah))))))) (b9 (tG (aj kK (aa 5) (eC (.int 0))) (tG (aj (e8 Â) (aa 5) (ai iT (af (aa 4) (ah)))) (aj (e8 Â) (aj az (aj az (aj az (aa 0) (eC (.int 1))) (iS (aa 4) (ai aZ (ah)))) (eC (.int 0))) (aa 2)))))) [À S,À f,À g,À (.bl Ä),À (.obj m),Å] (G++R)=.rt (.bl Ä) (G++R):=by
   intro g e;rw[e]
   simp_all! [aZ,Α V,q,IW,aO,k,I,Y,y,ng,K,F,E,s]
  rw[bG];unfold iB gK;generalize Z:au (aA 5 (aC 4 iA (af (aa 0) (af (aa 1) (af (ai aZ (ah)) (af (aa 4) (ah))))))) (b9 (tG (aj kK (aa 5) (eC (.int 0))) (tG (aj (e8 Â) (aa 5) (ai iT (af (aa 4) (ah)))) (aj (e8 Â) (aj az (aj az (aj az (aa 0) (eC (.int 1))) (iS (aa 4) (ai aZ (ah)))) (eC (.int 0))) (aa 2)))))=TT at b;cases o with
  |none=>
   simp only[Gj]at c |-
   simp_all! [Cg,c,NN]
   simp_all! [oj,eV,ų,ħ,if_false,sI,pI,j0,Ŝ,i]
   rw[b (.str n0) rfl,iR]
  |some nm=>
   simp only[Gj]at c |-
   simp_all! [Cg,c,NN]
   simp_all! [oj,eV,ų,ħ,if_false,sI,pI,j0,Ŝ]
   rw[b (.str nm) rfl,iR]
 ·rw[show decide (o.getD n0∈cE a t)=Â from decide_eq_false z];unfold bY;refine fV (R:=R) ?_ fC;generalize cO n0 a=S at c |-;generalize t.d=f at c |-;generalize Gj o=j at c |-;rw[bG];unfold iB gK;have w:Ō ("NoShape":Str) [("NoShape",Ä)]=À Ä:=by simp[Ō]
  have J:Aa (aA 4 (aC 3 gk (af (aa 0) (af (aa 1) (af (aa 2) (ah)))))) (tM (λn=>Ō n [("NoShape",Ä)]) (aA 4 (eC .bw)) (Qd)) (bD) [À S,À f,À j,À (.bl Â),À .bw,Å] G=.nx [À S,À f,À j,À (.bl Â),À .bw,Å] (G++R):=by
   have P:aA 4 (aC 3 gk (af (aa 0) (af (aa 1) (af (aa 2) (ah))))) [À S,À f,À j,À (.bl Â),À .bw,Å] G=.xn (.mk "NoShape" M) [À S,À f,À j,À (.bl Â),À .bw,Å] (G++R):=by
    simp_all! [c]
    rfl
   rw[Cg,P,Um,L6,w]
   simp_all! [L7]
  simp_all! [J]
  simp_all! [oj,eV,ų,IW,wK]
  have U:PM (aa 3) [À S,À f,À j,À (.bl Â),À .bw,Å] (G++R)=.ok (.bl Ä) (G++R):=rfl;rw[U,nL,wK,iR]
def BJ(c:D2)(a:Int):DO:=.lst [.con (c.map .int),.int a]
structure jU(cs:D2):Prop where
 ne:cs≠[]
 le:cs.length<=1000
theorem JW{c:D2}(o:jU c)(s:Nat)(a:Int)(K:0<=a)(G:DH)(g:G[s]?=À (BJ c a)):∃v:Int,ao [.obj s] G=.ok (.int v) (G.set s (BJ c (a+1))):=by
 have l:s<G.length:=(Á.mp g).1;have V:(G.set s (BJ c (a+1)))[s]?=À (BJ c (a+1)):=by rw[å,Α rfl,Α l]
 have t:0<c.length:=č.mpr o.ne;have x:=o.le;unfold BJ at g V |-;have q:az (.obj s) (.int 1) G=.ok (.int a) G:=by simp only[az,ak,g,qM]
 have e:az (.obj s) (.int 0) (G.set s (.lst [.con (c.map .int),.int (a+1)]))=.ok (.con (c.map .int)) (G.set s (.lst [.con (c.map .int),.int (a+1)])):=by simp only[az,ak,V,uL]
 have n:∀τ:DS,τ[0]?=À (À (.obj s))->τ[1]?=À (À (.int a))->gU (aj ay (aa 1) (eC (.int 1))) (aa 0) (eC (.int 1)) τ G=.nx τ (G.set s (.lst [.con (c.map .int),.int (a+1)])):=by
  intro τ M J;have k:zq [D.con (c.map .int),D.int a].length 1=À 1:=rfl
  simp_all! [mD,M,J,jx,jL,g,k,kg]
  rfl
 generalize O:G.set s (.lst [.con (c.map .int),.int (a+1)])=N at e n |-;have h:∀H,aL [.con (c.map .int)] H=.ok (.int c.length) H:=λH=>by simp only[aL,ak,Ú]
 by_cases b:a<(c.length:Int)
 ·obtain⟨d,j,R⟩:=pG (xs:=c.map D.int) (i:=a) K ‹b›;obtain⟨v,m⟩:∃v,d=.int v:=by have:=ë R;simp at this;obtain⟨v,_,rfl⟩:=this;exact⟨v,rfl⟩
  subst m;have f:∀H,az (.con (c.map .int)) (.int a) H=.ok (.int v) H:=λH=>by simp only[az,ak,j]
  refine⟨v,?_⟩;generalize D.con (c.map .int)=C at e h f;unfold ao;rw[bG];unfold jF
  simp_all! [q]
  rw[n _ rfl rfl]
  simp_all! [e,h,aO,decide_eq_true b,f,wK]
 ·have p:(0:Int)<=a%(c.length:Int)/\a%(c.length:Int)<c.length:=⟨aab _ ∅,Ū _ ∅⟩;obtain⟨d,j,R⟩:=pG (xs:=c.map D.int) (i:=a%(c.length:Int)) p.1 ‹p.2›;obtain⟨v,m⟩:∃v,d=.int v:=by have:=ë R;simp at this;obtain⟨v,_,rfl⟩:=this;exact⟨v,rfl⟩
  subst m;have f:∀H,az (.con (c.map .int)) (.int (a%(c.length:Int))) H=.ok (.int v) H:=λH=>by simp only[az,ak,j]
  have X:decide ((0:Int)<(c.length:Int))=Ä:=decide_eq_true ∅;have r:0<=(v+7919*a)*48271%2147483647:=∅
  have B:(v+7919*a)*48271%2147483647<2147483647:=∅
  generalize u:(v+7919*a)*48271%2147483647=y at r B;have I:-18446744073709551616<y:=∅
  have A:y<18446744073709551616:=∅
  have F:0<=y*y%2147483629:=∅
  have w:y*y%2147483629<2147483629:=∅
  generalize hz:y*y%2147483629=z at F w;have E:-18446744073709551616<z:=∅
  have L:z<18446744073709551616:=∅
  refine⟨z*(z+16807*a)%1000000007,?_⟩;generalize D.con (c.map .int)=C at e h f;unfold ao;rw[bG];unfold jF
  simp_all! [q]
  rw[n _ rfl rfl]
  simp_all! [e,h,aO,decide_eq_false b,X,f,jx]
  simp[u,hz,I,A,E,L,jx,aO]
def Up(s:Nat)(c:D2)(G G':DH):Prop:=∃(a:Int)(R:DH),0<=a/\G'=G.set s (BJ c a)++R
def aV(s:Nat)(c:D2)(G:DH):Prop:=∃a:Int,0<=a/\G[s]?=À (BJ c a)
theorem aV.lt{s:Nat}{c:D2}{G:DH}(h:aV s c G):s<G.length:=by obtain⟨a,_,e⟩:=h;exact(Á.mp e).1
theorem Up.st{s:Nat}{c:D2}{G G':DH}(h:Up s c G G')(b:s<G.length):aV s c G':=by obtain⟨a,R,d,rfl⟩:=h;exact⟨a,d,by rw[Î ‹b›,å,Α rfl,Α b]⟩
theorem Up.refl{s:Nat}{c:D2}{G:DH}(h:aV s c G):Up s c G G:=by obtain⟨a,b,e⟩:=h;refine⟨a,[],b,?_⟩;obtain⟨f,d⟩:=Á.mp e;rw[ó,<- d,List.set_getElem_self]
theorem Up.get{s:Nat}{d:D2}{G G':DH}(h:Up s d G G'){q:Nat}{o:DO}(b:q≠s)(e:G[q]?=À o):G'[q]?=À o:=by obtain⟨a,R,f,rfl⟩:=h;have c:q<G.length:=(Á.mp e).1;rw[Î ‹c›,Í (λz=>b z.symm)];exact e
theorem Up.len{s:Nat}{c:D2}{G G':DH}(h:Up s c G G'):G.length<=G'.length:=by obtain⟨a,R,b,rfl⟩:=h;simp
theorem dI{c:D2}(b:jU c){s:Nat}{G:DH}(h:aV s c G):∃(v:Int)(G':DH),Up s c G G'/\aV s c G'/\G'.length=G.length/\ao [.obj s] G=.ok (.int v) G':=by have d:=h.lt;obtain⟨a,f,e⟩:=h;obtain⟨v,g⟩:=JW b s a f G e;have u:Up s c G (G.set s (BJ c (a+1))):=⟨a+1,[],∅,by simp⟩;exact⟨v,_,u,u.st d,by simp,g⟩
theorem kD(w:P3)(c:w≠[])(f:w.length<=1000)(i:Int):∃x∈w,∀H,az (sD w) (.int (i%(w.length:Int))) H=.ok (.str x) H:=by have g:0<w.length:=č.mpr c;have a:(0:Int)<=i%(w.length:Int)/\i%(w.length:Int)<w.length:=⟨aab _ ∅,Ū _ ∅⟩;obtain⟨d,e,R⟩:=pG (xs:=w.map D.str) (i:=i%(w.length:Int)) a.1 ‹a.2›;have h:=ë R;obtain⟨x,b,rfl⟩:=ê.mp h;exact⟨x,b,λH=>by unfold sD;simp only[az,ak,e]⟩
theorem Bl(low c:Int)(r:0<=low/\low<=2)(k f m n o:X9)(H:DH):∃b:Option Int,(∀h,b=À h->low<=h/\h<=2) /\
  aj az (eFn (ai aN (af (eC .bw) (af (aa 2) (af (eC (.int 2)) (af (aj ay (aa 2) (aj bI (aj yk (eC (.int 2)) (aa 2)) (eC (.int 2)))) (ah))))))) (aj aR (aj bI (aa 4) (eC (.int 8))) (eC (.int 4))) [k,f,À (.int low),m,À (.int c),n,o] H=.ok (jq b) H:=by
 have z:([D.bw,.int low,.int 2,.int (low+(2-low)/2)]).length<=Ç:=lz (by simp);have l:aG [D.bw,.int low,.int 2,.int (low+(2-low)/2)]=Ä:=by simp[bh,dF,ug,b7]
 have g:=eu (G:=H) z l;have p:eFn (ai aN (af (eC .bw) (af (aa 2) (af (eC (.int 2)) (af (aj ay (aa 2) (aj bI (aj yk (eC (.int 2)) (aa 2)) (eC (.int 2)))) (ah)))))) [k,f,À (.int low),m,À (.int c),n,o] H=.ok (.con [.bw,.int low,.int 2,.int (low+(2-low)/2)]) H:=by simp[cI,jx,aO,g]
 have q:aj aR (aj bI (aa 4) (eC (.int 8))) (eC (.int 4)) [k,f,À (.int low),m,À (.int c),n,o] H=.ok (.int (c/8%4)) H:=by simp[aO]
 have k0:0<=c/8%4:=∅
 have k1:c/8%4<4:=∅
 rw[tY,p,dQ,aI,q,dQ];generalize c/8%4=i at k0 k1;have b:i=0\/i=1\/i=2\/i=3:=∅
 have a:∀(j:Nat)(d:D),[D.bw,.int low,.int 2,.int (low+(2-low)/2)][j]?=À d->az (.con [.bw,.int low,.int 2,.int (low+(2-low)/2)]) (.int (j:Int)) H=.ok d H:=λj d h=>by have:=bH (j:=j) h;simp only[az,ak,this]
 rcases b with rfl|rfl|rfl|rfl
 ·exact⟨Å,(λh e=>by cases e),a 0 _ rfl⟩
 ·exact⟨À low,(λh e=>by cases e;lia),a 1 _ rfl⟩
 ·exact⟨À 2,(λh e=>by cases e;lia),a 2 _ rfl⟩
 ·exact⟨À (low+(2-low)/2),(λh e=>by cases e;lia),a 3 _ rfl⟩
theorem JX{k:D2}(t:jU k){s:Nat}(names first:P3)(p:names≠[])(y:names.length<=100)(A:first.length<=100)(l:Int)(b:0<=l/\l<=2)(q:0<l->first≠[]){G:DH}(h:aV s k G):
  ∃(it:Itm)(G':DH),it.lo=l/\(∀h,it.hi=À h->l<=h/\h<=2)/\(it.nm∈names\/it.nm∈first)/\(0<l->it.nm∈first)/\Up s k G G'/\aV s k G'/\G'.length=G.length/\gj [.obj s,sD names,.int l,sD first] G=.ok (bS it) G':=by
 obtain⟨v,G',u,d,g,m⟩:=dI t h;have r:(3:Nat)<=Ç:=lz ∅;by_cases f:0<l
 ·obtain⟨j,o,e⟩:=Bl l v b (À (.obj s)) (À (sD names)) (À (sD first)) (À (sD first)) Å G';obtain⟨x,n,c⟩:=kD first (q f) ∅ (v/64)
  have a:0<first.length:=č.mpr (q f)
  have i:∀H,aL [sD first] H=.ok (.int first.length) H:=λH=>by unfold sD;simp only[aL,ak,Ú]
  refine⟨⟨x,l,j⟩,G',rfl,o,.inr n,λ_=>n,u,d,g,?_⟩;generalize sD names=N at m e |-;generalize sD first=F at e c i |-
  unfold gj;rw[bG];unfold jG bS;k_go;generalize w:aj az (eFn (ai aN (af (eC .bw) (af (aa 2) (af (eC (.int 2)) (af (aj ay (aa 2) (aj bI (aj yk (eC (.int 2)) (aa 2)) (eC (.int 2)))) (ah))))))) (aj aR (aj bI (aa 4) (eC (.int 8))) (eC (.int 4)))=E at e |-;generalize jq j=B at e |-
  simp_all! [m,aO,decide_eq_true f,e]
  simp[aO,i,c,r,aZ,a]
 ·obtain⟨j,o,e⟩:=Bl l v b (À (.obj s)) (À (sD names)) (À (sD first)) (À (sD names)) Å G';obtain⟨x,n,c⟩:=kD names p ∅ (v/64);have a:0<names.length:=č.mpr p;have i:∀H,aL [sD names] H=.ok (.int names.length) H:=λH=>by unfold sD;simp only[aL,ak,Ú]
  refine⟨⟨x,l,j⟩,G',rfl,o,.inl n,λz=>(f z).elim,u,d,g,?_⟩;generalize sD names=N at m e c i |-;generalize sD first=F at e |-
  unfold gj;rw[bG];unfold jG bS;k_go;generalize w:aj az (eFn (ai aN (af (eC .bw) (af (aa 2) (af (eC (.int 2)) (af (aj ay (aa 2) (aj bI (aj yk (eC (.int 2)) (aa 2)) (eC (.int 2)))) (ah))))))) (aj aR (aj bI (aa 4) (eC (.int 8))) (eC (.int 4)))=E at e |-;generalize jq j=B at e |-
  simp_all! [m,aO,decide_eq_false f,e]
  simp[aO,i,c,r,aZ,a]
structure Fm(s n:Nat)(G G':DH):Prop where
 len:G.length<=G'.length
 keep:∀(q:Nat)(o:DO),q<n->q≠s->G[q]?=À o->G'[q]?=À o
theorem Fm.refl{s n:Nat}{G:DH}:Fm s n G G:=⟨È _,λ_ _ _ _ e=>e⟩
theorem Fm.trans{s n:Nat}{G G' U:DH}(h:Fm s n G G')(h':Fm s n G' U):Fm s n G U:=⟨ú h.len h'.len,λq o a b e=>h'.keep q o a b (h.keep q o a b e)⟩
theorem Up.fm{s n:Nat}{c:D2}{G G':DH}(h:Up s c G G'):Fm s n G G':=⟨h.len,λq o _ b e=>h.get b e⟩
theorem Fm.set{s n:Nat}{G:DH}{L:Nat}{x:DO}(h:n<=L):Fm s n G (G.set L x):=⟨by simp,λq o a b e=>by rw[Í ∅];exact e⟩
theorem Fm.app{s n:Nat}{G R:DH}:Fm s n G (G++R):=⟨by simp,λq o a b e=>aH e⟩
theorem aV.set{s L:Nat}{c:D2}{G:DH}{x:DO}(h:aV s c G)(b:L≠s):aV s c (G.set L x):=by obtain⟨a,d,e⟩:=h;exact⟨a,d,by rw[Í b];exact e⟩
theorem aV.app{s:Nat}{c:D2}{G R:DH}(h:aV s c G):aV s c (G++R):=by obtain⟨a,b,e⟩:=h;exact⟨a,b,aH e⟩
theorem eZ{G:DH}{L:Nat}{x y:DO}(h:G[L]?=À y):(G.set L x)[L]?=À x:=by have a:L<G.length:=(Á.mp h).1;rw[å,Α rfl,Α a]
structure Bm(names first:P3)(its:List Itm):Prop where
 nd:(its.map (·.nm)).Nodup
 lo:∀i∈its,0<=i.lo/\i.lo<=2
 hi:∀i∈its,∀h,i.hi=À h->i.lo<=h/\h<=2
 nm:∀i∈its,i.nm∈names
 ft:∀i∈its,0<i.lo->i.nm∈first
theorem sQ(i:Itm)(G:DH):az (bS i) (.int 0) G=.ok (.str i.nm) G:=by unfold bS;simp![Rk]
theorem JY(its:List Itm)(m:its.length<=1000)(τ:DS)(G:DH)(L:Nat)(g:τ[4]?=À (À (.obj L)))(h:G[L]?=À (.lst (its.map bS))):
  eFn (dD oN [] (aa 4) (bM) (aj az (aa 0) (eC (.int 0)))) τ G=.ok (sD (its.map (·.nm))) G:=by
 have R:L<G.length:=(Á.mp h).1;have c1:=bF (τ:=τ) (G:=G) (gO:=oN) (ks:=[]) (tt:=bM) (te:=aj az (aa 0) (eC (.int 0))) (own:=λi:Itm=>[bS i]) (dat:=bS) (f:=λi=>.str i.nm) (c:=λ_=>Ä) its [] (by simp;lia) (λx _=>rfl) (λx l acc=>by first|rfl|simp[bM]) (λi b acc=>by have e:=sQ i (G++[.lst acc]);generalize bS i=d at e |-;simp[e])
 rw[á,ġ.mpr (λ_ _=>rfl)]at c1;have c2:=yx (gO:=oN) (ks:=[]) (tt:=bM) (te:=aj az (aa 0) (eC (.int 0))) (n:=G.length) (src:=L) (τ:=τ) (xs:=its.map bS) (λH=>∃acc,H=G++[.lst acc]) (λH ⟨acc,e⟩=>by rw[e];exact aH h) (λH d H' j ⟨acc,e⟩ hs=>by
  obtain⟨i,b,rfl⟩:=ê.mp j;rw[e]at hs;have a:=sQ i (G++[.lst acc]);unfold cG at hs;dsimp only[oN]at hs;have t:bM (([bS i].map À)++mask [] τ) (G++[.lst acc])=.ok Ä (G++[.lst acc]):=rfl;have k:aj az (aa 0) (eC (.int 0)) (([bS i].map À)++mask [] τ) (G++[.lst acc])=.ok (.str i.nm) (G++[.lst acc]):=by generalize bS i=d at a |-;simp[a]
  rw[t]at hs;dsimp only at hs;rw[k]at hs;dsimp only at hs;rw[jW]at hs;dsimp only at hs;split at hs
  ·cases hs;exact⟨acc++[.str i.nm],by rw[Cc]⟩
  ·cases hs) ((its.map bS).length+1) 0 (G++[.lst []]) (by simp) (by simp) ⟨[],rfl⟩
 rw[aaB,c1]at c2;have hcl:aG (its.map λi=>D.str i.nm)=Ä:=aB λ_=>aW;have es:sD (its.map (·.nm))=.con (its.map λi=>D.str i.nm):=by unfold sD;rw[ā];rfl
 rw[es];simp only[cI,m5,gZ,g,dQ,h];rw[c2,eX hcl]
theorem vf{V:D2}(hc:jU V){s:Nat}(names first:P3)(hn:names≠[])(C:names.length<=100)(q:∀x∈names,Ð x=Ä)(G:∀x∈first,x∈names)(O:first.length<=100)(n L:Nat)(N5:n<=L)(UT:s<n)(o:X9):
  ∀(xs:X2)(c:List Itm)(H:DH)(Z w A t:X9),Bm names first c->aV s V H->H[L]?=À (.lst (c.map bS))->c.length+xs.length<=100 ->
   ∃(its':List Itm)(H':DH)(p5 p6 p7 p8:X9),Bm names first its'/\its'.length<=c.length+xs.length/\aV s V H'/\Fm s n H H'/\H'[L]?=À (.lst (its'.map bS)) /\
    aT (gN 5) eT xs [À (.obj s),À (sD names),À (sD first),o,À (.obj L),Z,w,A,t] H=.nx [À (.obj s),À (sD names),À (sD first),o,À (.obj L),p5,p6,p7,p8] H'
 |[],c,H,Z,w,A,t,m,hs,hL,hz=>⟨c,H,Z,w,A,t,m,by simp,hs,.refl,hL,by simp[aT]⟩
 |x::xs,c,H,Z,w,A,t,m,hs,hL,hz=>by
  simp only[Ñ]at hz;have El:L≠s:=∅
  obtain⟨v,H1,u1,s1,l1,e1⟩:=dI hc hs;have xO:=u1.get El hL;have J:∃l:Int,(0<=l/\l<=2)/\(0<l->first≠[])/\∀(F P:X9),(jb (eG (b8 (aj kK (ai aL (af (aa 2) (ah))) (eC (.int 0)))) (b8 (aj (e8 Â) (aj aR (aa 6) (eC (.int 2))) (eC (.int 1))))) (aA 7 (aj ay (eC (.int 1)) (aj aR (aj bI (aa 6) (eC (.int 2))) (eC (.int 2))))) (bD)) [À (.obj s),À (sD names),À (sD first),o,À (.obj L),F,À (.int v),À (.int 0),P] H1=.nx [À (.obj s),À (sD names),À (sD first),o,À (.obj L),F,À (.int v),À (.int l),P] H1:=by
   have B:∀H,aL [sD first] H=.ok (.int first.length) H:=λH=>by unfold sD;simp only[aL,ak,Ú]
   have k:=kR Â (v%2) 1 H1;rw[Ų]at k;by_cases X:0<first.length
   ·by_cases h2:v%2=1
    ·refine⟨1+v/2%2,∅,λ_=>č.mp X,λF P=>?_⟩;rw[h2]at k;generalize sD names=NA;generalize sD first=FI at B |-
     simp[B,aO,X,k,jx,h2]
    ·have h2':(v%2==1)=Â:=‹h2›
     rw[h2']at k;refine⟨0,∅,λz=>∅,λF P=>?_⟩;generalize sD names=NA;generalize sD first=FI at B |-
     simp[B,aO,X,k]
   ·refine⟨0,∅,λz=>∅,λF P=>?_⟩;generalize sD names=NA;generalize sD first=FI at B |-
    simp[B,aO,X]
  obtain⟨l,N,hf,Xp⟩:=J;obtain⟨it,r,i1,i2,i3,i4,u2,s2,l2,e2⟩:=JX hc names first hn C O l N hf s1
  have U:=u2.get El xO;have Q:it.nm∈names:=i3.elim id (G _);have xH:=λτ h4=>JY c ∅ τ r L h4 U;have f:=tV it.nm (c.map (·.nm)) r (q _ Q) (gp _ λy hy=>by obtain⟨j,hj,rfl⟩:=ê.mp hy;exact q _ (m.nm j hj))
  have p:=sQ it r;have Gv:c.length<Ç:=Õ ∅ (lz (n:=1001) ∅)
  have D:∃(R:List Itm)(u:DH),Bm names first R/\R.length<=c.length+1/\aV s V u/\Fm s n r u/\u[L]?=À (.lst (R.map bS)) /\
    eT [À (.obj s),À (sD names),À (sD first),o,À (.obj L),À x,w,A,t] H=.nx [À (.obj s),À (sD names),À (sD first),o,À (.obj L),À x,À (.int v),À (.int l),À (bS it)] u:=by
   have T:∀K:MS,eT=au (aA 6 (aC 1 ao (af (aa 0) (ah)))) (au (aA 7 (eC (.int 0))) (au (jb (eG (b8 (aj kK (ai aL (af (aa 2) (ah))) (eC (.int 0)))) (b8 (aj (e8 Â) (aj aR (aa 6) (eC (.int 2))) (eC (.int 1))))) (aA 7 (aj ay (eC (.int 1)) (aj aR (aj bI (aa 6) (eC (.int 2))) (eC (.int 2))))) (bD)) (au (aA 8 (aC 4 gj (af (aa 0) (af (aa 1) (af (aa 7) (af (aa 2) (ah))))))) K)))->eT [À (.obj s),À (sD names),À (sD first),o,À (.obj L),À x,w,A,t] H=K [À (.obj s),À (sD names),À (sD first),o,À (.obj L),À x,À (.int v),À (.int l),À (bS it)] r:=by
    intro K hK;rw[hK];have Y:=Xp (À x) t;generalize hS:jb (eG (b8 (aj kK (ai aL (af (aa 2) (ah))) (eC (.int 0)))) (b8 (aj (e8 Â) (aj aR (aa 6) (eC (.int 2))) (eC (.int 1))))) (aA 7 (aj ay (eC (.int 1)) (aj aR (aj bI (aa 6) (eC (.int 2))) (eC (.int 2))))) (bD)=S at Y |-;generalize sD names=NA at e2 Y |-;generalize sD first=FI at e2 Y |-
    generalize bS it=I at e2 |-
    simp_all! [e1,Y,e2]
   have M:((c.map (·.nm)).any λy=>y==it.nm)=decide (it.nm∈c.map (·.nm)):=by
    apply Ň.mpr;rw[Đ,decide_eq_true_iff];constructor
    ·rintro⟨y,hy,e⟩;rw[beq_iff_eq]at e;exact e▸hy
    ·exact λh=>⟨it.nm,h,by simp⟩
   rw[M]at f;have d:=xH [À (.obj s),À (sD names),À (sD first),o,À (.obj L),À x,À (.int v),À (.int l),À (bS it)] rfl;by_cases hm:it.nm∈c.map (·.nm)
   ·rw[decide_eq_true hm]at f;refine⟨c,r,m,∅,s2,.refl,U,?_⟩;rw[T _ rfl];generalize hE:eFn (dD oN [] (aa 4) (bM) (aj az (aa 0) (eC (.int 0))))=E at d |-;generalize bS it=I at p d |-;generalize c.map (λx=>x.nm)=W at f d
    simp_all! [p,d]
    unfold sD;simp[tD,ak,f]
   ·rw[decide_eq_false hm]at f;refine⟨c++[it],r.set L (.lst ((c++[it]).map bS)),⟨?_,?_,?_,?_,?_⟩,by simp,s2.set El,.set N5,eZ U,?_⟩
    ·rw[ñ,Ę];refine⟨m.nd,by simp,λa ha b N e=>?_⟩;simp at N;subst N;exact hm (e▸ha)
    ·intro i g;rcases í.mp g with h|h
     ·exact m.lo i h
     ·rw[è.mp h,i1];exact N
    ·intro i g;rcases í.mp g with h|h
     ·exact m.hi i h
     ·rw[è.mp h,i1];exact i2
    ·intro i g;rcases í.mp g with h|h
     ·exact m.nm i h
     ·rw[è.mp h];exact Q
    ·intro i g;rcases í.mp g with h|h
     ·exact m.ft i h
     ·rw[è.mp h,i1];exact i4
    ·rw[T _ rfl];rw[show(c++[it]).map bS=c.map bS++[bS it] by simp];generalize hE:eFn (dD oN [] (aa 4) (bM) (aj az (aa 0) (eC (.int 0))))=E at d |-;generalize bS it=I at p d |-;generalize c.map (λx=>x.nm)=W at f d
     simp_all! [p,d]
     unfold sD;simp[tD,ak,f,U,c7,aP,Gv]
  obtain⟨R,u,t1,t2,t3,t4,t5,t6⟩:=D;obtain⟨its',H',p5,p6,p7,p8,j1,j2,j3,j4,j5,j6⟩:=vf hc names first hn C q G O n L N5 UT o xs R u (À x) (À (.int v)) (À (.int l)) (À (bS it)) t1 t3 t5 ∅
  refine⟨its',H',p5,p6,p7,p8,j1,by simp only[Ñ];lia,j3,((u1.fm.trans u2.fm).trans t4).trans j4,j5,?_⟩;rw[aY rfl];simp only[Ü,Ý,t6,cV];exact j6
theorem xP{g:D2}(o:jU g){s:Nat}(names first:P3)(t:names≠[])(d:names.length<=100)(f:∀x∈names,Ð x=Ä)(n:∀x∈first,x∈names)(l:first.length<=100){G:DH}(h:aV s g G):
  ∃(a:List Itm)(G':DH),Bm names first a/\a.length<=2/\aV s g G'/\Fm s G.length G G'/\eE [.obj s,sD names,sD first,.int 2] G=.ok (.tup (a.map bS)) G':=by
 have e:=h.lt;obtain⟨v,b,u,y,J,A⟩:=dI o (h.app (R:=[.lst []]));have k0:0<=v%3:=∅
 have k1:v%3<3:=∅
 have p:=kU (j:=v%3) k0 ∅;have z:b[G.length]?=À (.lst (([]:List Itm).map bS)):=u.get ∅ (jW _ _ _);obtain⟨a,G',L,M,I,F,w,C,B,r,q,c⟩:=vf o names first t d f n l G.length G.length (È _) e (À (.int 2)) ((ç 0 (v%3).toNat).map λ(k:Nat)=>.int (0+(k:Int))) [] b Å Å Å Å ⟨by simp,by simp,by simp,by simp,by simp⟩ y z (by simp;lia)
 have m:a.length<=2:=by simp at C;lia
 refine⟨a,G',w,m,B,((Fm.app).trans u.fm).trans r,?_⟩;have E:(0:Nat)<=Ç:=é _;have hz:a.length<=Ç:=lz ∅;generalize((ç 0 (v%3).toNat).map λ(k:Nat)=>D.int (0+(k:Int)))=xs at p c;generalize sD names=N at c |-;generalize sD first=K at c |-
 unfold eE;rw[bG];unfold lF;have H:aO (λ_ j=>decide (0<j)) (λi j=>.int (i%j)) (.int v) (.int 3) b=.ok (.int (v%3)) b:=rfl
 simp_all! [aN,Α E,mZ,A,jx]
 simp[aO,p,c,fZ,ak,q,aZ,hz]
structure JZ(names:P3)(r:dw):Prop where
 ok:vS r
 nm:r.nm∈names
 it:∀i∈r.its,i.nm∈names/\i.lo<=2/\∀h,i.hi=À h->h<=2
def RG(names:P3)(j:Nat)(r:dw):Prop:=JZ names r/\names[j]?=À r.nm/\∀i∈r.its,0<i.lo->i.nm∈names.drop (j+1)
theorem N6{names first:P3}(c:∀x∈names,Ð x=Ä){b:List Itm}(h:Bm names first b)(f:b.length<=2){nm k:Str}(m:Bool)(d:nm∈names)(g:Ð k=Ä):JZ names ⟨nm,k,m,b⟩:=
 ⟨⟨f,⟨h.nd,λi a=>(h.lo i a).1,λi a z e=>(h.hi i a z e).1⟩,c _ d,g,λi a=>c _ (h.nm i a)⟩,d,λi a=>⟨h.nm i a,(h.lo i a).2,λz e=>(h.hi i a z e).2⟩⟩
theorem RH(v:Int)(τ:DS)(H:DH)(f:τ[7]?=À (À (.int v))):∃m:Bool,aj az (eFn (ai aN (af (eC (.str "row")) (af (eC (.str "mix")) (ah))))) (aj aR (aj bI (aa 7) (eC (.int 8))) (eC (.int 2))) τ H=.ok (.str (if m=Ä then "mix" else "row")) H:=by
 have z:([D.str "row",.str "mix"]).length<=Ç:=lz (by simp);have c:aG [D.str "row",.str "mix"]=Ä:=by simp[bh,dF,aW]
 have b:=eu (G:=H) z c;have e:eFn (ai aN (af (eC (.str "row")) (af (eC (.str "mix")) (ah)))) τ H=.ok (.con [.str "row",.str "mix"]) H:=by simp[cI,b]
 have g:aj aR (aj bI (aa 7) (eC (.int 8))) (eC (.int 2)) τ H=.ok (.int (v/8%2)) H:=by simp[aO,f]
 have k0:0<=v/8%2:=∅
 have k1:v/8%2<2:=∅
 rw[tY,e,dQ,aI,g,dQ];generalize v/8%2=i at k0 k1;have a:∀(j:Nat)(d:D),[D.str "row",.str "mix"][j]?=À d->az (.con [.str "row",.str "mix"]) (.int (j:Int)) H=.ok d H:=λj d h=>by have:=bH (j:=j) h;simp only[az,ak,this]
 have k:i=0\/i=1:=∅
 rcases k with rfl|rfl
 ·exact⟨Â,a 0 _ rfl⟩
 ·exact⟨Ä,a 1 _ rfl⟩
abbrev xQ:MS:=eL (bz "list" aP (aa 4) (af (ai aZ (af (aa 6) (af (aj az (aa 2) (aj aR (aa 7) (ai aL (af (aa 2) (ah))))) (af (aj az (eFn (ai aN (af (eC (.str "row")) (af (eC (.str "mix")) (ah))))) (aj aR (aj bI (aa 7) (eC (.int 8))) (eC (.int 2)))) (af (aa 8) (ah)))))) (ah)))
theorem Bo(k:P3)(o:k≠[])(u:k.length<=100)(z:∀x∈k,Ð x=Ä)(nm:Str)(v:Int)(i:List Itm)(r:List dw)(hz:r.length<=100)(L:Nat)(H:DH)(t:H[L]?=À (.lst (r.map aJ)))(g f c d:X9):
  ∃(a:Str)(m:Bool),Ð a=Ä/\xQ [g,f,À (sD k),c,À (.obj L),d,À (.str nm),À (.int v),À (.tup (i.map bS))] H=.nx [g,f,À (sD k),c,À (.obj L),d,À (.str nm),À (.int v),À (.tup (i.map bS))] (H.set L (.lst ((r++[(⟨nm,a,m,i⟩:dw)]).map aJ))):=by
 obtain⟨a,b,j⟩:=kD k o ∅ v;obtain⟨m,e⟩:=RH v [g,f,À (sD k),c,À (.obj L),d,À (.str nm),À (.int v),À (.tup (i.map bS))] H rfl;refine⟨a,m,z a b,?_⟩;have h:0<k.length:=č.mpr o;have l:∀H,aL [sD k] H=.ok (.int k.length) H:=λH=>by unfold sD;simp only[aL,ak,Ú]
 have s:(4:Nat)<=Ç:=lz ∅;have G:r.length<Ç:=Õ ∅ (lz (n:=1001) ∅);have q:(r++[(⟨nm,a,m,i⟩:dw)]).map aJ=r.map aJ++[.tup [.str nm,.str a,.str (if m=Ä then "mix" else "row"),.tup (i.map bS)]]:=by simp[aJ,aM]
 rw[q];generalize i.map bS=I at e |-;generalize(if m=Ä then ("mix":Str) else "row")=rm at e |-;generalize sD k=K at e j l |-;generalize p:aj az (eFn (ai aN (af (eC (.str "row")) (af (eC (.str "mix")) (ah))))) (aj aR (aj bI (aa 7) (eC (.int 8))) (eC (.int 2)))=E at e;unfold xQ;rw[p];simp[c7,t,e,l,aO,h,j,aZ,s,aP,G]
theorem J0(names:P3)(d:names.length<=100)(j:Nat)(c:j<names.length)(τ:DS)(H:DH)(a:τ[1]?=À (À (sD names)))(b:τ[5]?=À (À (.int (j:Int)))):eFn (jK (aa 1) (bq (aj ay (aa 5) (eC (.int 1)))) (cM)) τ H=.ok (sD (names.drop (j+1))) H:=by
 have k:cutD (names.map D.str) (À ((j:Int)+1)) Å=(names.drop (j+1)).map .str:=by unfold cutD;rw[show((j:Int)+1)=((j+1:Nat):Int) by lia,HT.iV,HT.jc,Ú,show min (j+1) names.length=j+1 by lia];rw[Ĕ (by rw[ō,Ú];lia),<- aaS]
 have hz:((names.drop (j+1)).map D.str).length<=Ç:=lz (by simp;lia);have h:aG ((names.drop (j+1)).map D.str)=Ä:=aB λ_=>aW;unfold sD at a |-
 simp_all! [cI,tZ,a,kW,b,jx,m7,m6,tF,ak,k]
 exact eu hz h
theorem J1(names:P3)(b:names.length<=100)(τ:DS)(H:DH)(a:τ[1]?=À (À (sD names))):eFn (jK (aa 1) (cM) (bq (eC (.int 2)))) τ H=.ok (sD (names.take 2)) H:=by
 have k:cutD (names.map D.str) Å (À 2)=(names.take 2).map .str:=by unfold cutD;rw[show(À (2:Int))=À ((2:Nat):Int) from rfl,HT.iV,HT.jc,Ú,Nat.sub_zero,aaB,<- aaR];congr 1;rw[aaL];lia
 have hz:((names.take 2).map D.str).length<=Ç:=lz (by simp;lia);have h:aG ((names.take 2).map D.str)=Ä:=aB λ_=>aW;unfold sD at a |-
 simp_all! [cI,tZ,a,kW,m7,m6,tF,ak,k]
 exact eu hz h
theorem J2{Q:D2}(N:jU Q){s:Nat}(names k:P3)(hn:names≠[])(p:names.length<=100)(t:∀x∈names,Ð x=Ä)(hk:k≠[])(l7:k.length<=100)(zx:∀x∈k,Ð x=Ä)(n L:Nat)(N5:n<=L)(UT:s<n):
  ∀(c:P3)(j:Nat)(f:List dw)(H:DH)(K J C w:X9),names.drop j=c->f.length=j->(∀(i:Nat) r,f[i]?=À r->RG names i r)->aV s Q H->H[L]?=À (.lst (f.map aJ)) ->
   ∃(g:List dw)(H':DH)(S V Z W:X9),g.length=names.length/\(∀(i:Nat) r,g[i]?=À r->RG names i r)/\aV s Q H'/\Fm s n H H'/\H'[L]?=À (.lst (g.map aJ)) /\
    aT (gP 5 6) dM ((c.map D.str).mapIdx λi x=>.tup [.int ((j+i:Nat):Int),x]) [À (.obj s),À (sD names),À (sD k),À (.int 2),À (.obj L),K,J,C,w] H=.nx [À (.obj s),À (sD names),À (sD k),À (.int 2),À (.obj L),S,V,Z,W] H'
 |[],j,f,H,K,J,C,w,z,P,I,hs,U=>by
  have hle:names.length<=j:=by have:=congrArg abw z;simp at this;lia
  have hj:j<=names.length:=by
   by_cases h0:j=0
   ·lia
   ·have u:j-1<f.length:=∅
    have:=(I (j-1) (f[j-1]) (Ê u)).2.1;have:=(Á.mp this).1;lia
  exact⟨f,H,K,J,C,w,∅,I,hs,.refl,U,by simp[aT]⟩
 |nm::c,j,f,H,K,J,C,w,z,P,I,hs,U=>by
  have X:L≠s:=∅
  have u:j<names.length:=by have:=congrArg abw z;simp at this;lia
  have A:names[j]?=À nm:=by have:=congrArg (λl=>l[0]?) z;z_go
  have B:nm∈names:=ë A;obtain⟨v,H1,u1,s1,l1,e1⟩:=dI N hs;have xO:=u1.get X U;obtain⟨d,H2,i1,i2,s2,Y,M⟩:=xP N names (names.drop (j+1)) hn p t (λx T=>aa3 T) (by simp;lia) s1;have Rt:L<H1.length:=(Á.mp xO).1;have zw:=Y.keep L _ Rt X xO;obtain⟨R,m,O,F⟩:=Bo k hk l7 zx nm v d f ∅ L H2 zw (À (.obj s)) (À (sD names)) (À (.int 2)) (À (.int (j:Int)));have T:=N6 t i1 i2 m B O;obtain⟨g,H',S,V,Z,W,k1,k2,k3,k4,k5,k6⟩:=J2 N names k hn p t hk l7 zx n L N5 UT c (j+1) (f++[(⟨nm,R,m,d⟩:dw)]) _ (À (.int j)) (À (.str nm)) (À (.int v)) (À (.tup (d.map bS))) (by rw[<- List.drop_drop,z];rfl) (by simp[P]) (λi r e=>by
   by_cases hi:i<f.length
   ·rw[Î hi]at e;exact I i r e
   ·have hi2:i<(f++[(⟨nm,R,m,d⟩:dw)]).length:=(Á.mp e).1;have:i=f.length:=by simp at hi2;lia
    subst this;rw[Ò (È _)]at e;simp at e;x_go;rw[P];exact⟨T,A,λi hi=>i1.ft i hi⟩) (s2.set X) (eZ zw)
  refine⟨g,H',S,V,Z,W,k1,k2,k3,((u1.fm.trans ⟨Y.len,λq o a b e=>Y.keep q o (by have:=(Á.mp e).1;lia) b e⟩).trans (.set N5)).trans k4,k5,?_⟩;have e0:((nm::c).map D.str).mapIdx (λi x=>D.tup [.int ((j+i:Nat):Int),x])=.tup [.int (j:Int),.str nm]::(c.map D.str).mapIdx λi x=>.tup [.int ((j+1+i:Nat):Int),x]:=by rw[É,Ÿ];congr 1;apply ē;intro i;simp only[Ĉ];congr 1;funext x;rw[show j+(i+1)=j+1+i by lia]
  rw[e0,aY rfl];simp only[Ü,Ý];have y:dM [À (.obj s),À (sD names),À (sD k),À (.int 2),À (.obj L),À (.int j),À (.str nm),C,w] H=.nx [À (.obj s),À (sD names),À (sD k),À (.int 2),À (.obj L),À (.int j),À (.str nm),À (.int v),À (.tup (d.map bS))] (H2.set L (.lst ((f++[(⟨nm,R,m,d⟩:dw)]).map aJ))):=by
   have G:=J0 names p j u [À (.obj s),À (sD names),À (sD k),À (.int 2),À (.obj L),À (.int j),À (.str nm),À (.int v),w] H1 rfl rfl;have h:dM=au (aA 7 (aC 1 ao (af (aa 0) (ah)))) (au (aA 8 (aC 4 eE (af (aa 0) (af (aa 1) (af (eFn (jK (aa 1) (bq (aj ay (aa 5) (eC (.int 1)))) (cM))) (af (aa 3) (ah))))))) xQ):=rfl;rw[h];generalize xQ=TR at F |-;generalize hE:eFn (jK (aa 1) (bq (aj ay (aa 5) (eC (.int 1)))) (cM))=E at G |-;generalize sD (names.drop (j+1))=FD at M G;generalize sD names=NA at M F G |-;generalize sD k=KA at F G |-;generalize d.map bS=IA at M F |-
   simp_all! [e1,G,M,F]
  rw[y,cV];exact k6
theorem J3{M:D2}(G:jU M){s:Nat}(names k:P3)(B:names≠[])(J:names.length<=50)(g:∀x∈names,Ð x=Ä)(hk:k≠[])(l7:k.length<=100)(W:∀x∈k,Ð x=Ä)(n L:Nat)(Z:n<=L)(UT:s<n):
  ∀(xs:X2)(f d:List dw)(H:DH)(D j z p:X9),f.length<=50->d.length+xs.length<=50->(∀r∈d,JZ names r)->aV s M H->H[L]?=À (.lst ((f++d).map aJ)) ->
   ∃(c:List dw)(H':DH)(N P S V:X9),c.length<=d.length+xs.length/\(∀r∈c,JZ names r)/\aV s M H'/\Fm s n H H'/\H'[L]?=À (.lst ((f++c).map aJ)) /\
    aT (gN 5) fR xs [À (.obj s),À (sD names),À (sD k),À (.int 2),À (.obj L),D,j,z,p] H=.nx [À (.obj s),À (sD names),À (sD k),À (.int 2),À (.obj L),N,P,S,V] H'
 |[],f,d,H,D,j,z,p,Y,hz,w,T,O=>⟨d,H,D,j,z,p,by simp,w,T,.refl,O,by simp[aT]⟩
 |x::xs,f,d,H,D,j,z,p,Y,hz,w,T,O=>by
  simp only[Ñ]at hz;have Q:L≠s:=∅
  obtain⟨v,H1,u1,s1,l1,e1⟩:=dI G T;have xO:=u1.get Q O;obtain⟨i,C,i1,i2,s2,R,F⟩:=xP G names (names.take 2) B ∅ g (λx w=>aa2 w) (by simp;lia) s1;have Rt:L<H1.length:=(Á.mp xO).1;have X:=R.keep L _ Rt Q xO;obtain⟨nm,y,ep⟩:=kD names B ∅ (v/16);obtain⟨kd,m,K,l⟩:=Bo k hk l7 W nm v i (f++d) (by simp;lia) L C X (À (.obj s)) (À (sD names)) (À (.int 2)) (À x);have N7:=N6 g i1 i2 m y K;have t:0<names.length:=č.mpr B;have lM:∀H,aL [sD names] H=.ok (.int names.length) H:=λH=>by unfold sD;simp only[aL,ak,Ú]
  rw[â]at l;obtain⟨c,H',N,P,S,V,k1,k2,k3,k4,k5,k6⟩:=J3 G names k B J g hk l7 W n L Z UT xs f (d++[(⟨nm,kd,m,i⟩:dw)]) _ (À x) (À (.str nm)) (À (.int v)) (À (.tup (i.map bS))) Y (by simp;lia) (λr I=>by
   rcases í.mp I with h|h
   ·exact w r h
   ·rw[è.mp h];exact N7) (s2.set Q) (eZ X)
  refine⟨c,H',N,P,S,V,by simp only[Û,Ñ,ņ]at k1 |-;lia,k2,k3,((u1.fm.trans ⟨R.len,λq o a b e=>R.keep q o (by have:=(Á.mp e).1;lia) b e⟩).trans (.set Z)).trans k4,k5,?_⟩;rw[aY rfl];simp only[Ü,Ý];have u:fR [À (.obj s),À (sD names),À (sD k),À (.int 2),À (.obj L),À x,j,z,p] H=.nx [À (.obj s),À (sD names),À (sD k),À (.int 2),À (.obj L),À x,À (.str nm),À (.int v),À (.tup (i.map bS))] (C.set L (.lst ((f++(d++[(⟨nm,kd,m,i⟩:dw)])).map aJ))):=by
   have A:=J1 names ∅ [À (.obj s),À (sD names),À (sD k),À (.int 2),À (.obj L),À x,j,À (.int v),p] H1 rfl;have h:fR=au (aA 7 (aC 1 ao (af (aa 0) (ah)))) (au (aA 8 (aC 4 eE (af (aa 0) (af (aa 1) (af (eFn (jK (aa 1) (cM) (bq (eC (.int 2))))) (af (aa 3) (ah))))))) (au (aA 6 (aj az (aa 1) (aj aR (aj bI (aa 7) (eC (.int 16))) (ai aL (af (aa 1) (ah)))))) xQ)):=rfl;rw[h];have em:∀τ:DS,τ[7]?=À (À (.int v))->τ[1]?=À (À (sD names))->aj az (aa 1) (aj aR (aj bI (aa 7) (eC (.int 16))) (ai aL (af (aa 1) (ah)))) τ C=.ok (.str nm) C:=by intro τ h7 h1;generalize sD names=NA at h1 lM ep;simp[h7,h1,lM,aO,t,ep]
   have U:=em [À (.obj s),À (sD names),À (sD k),À (.int 2),À (.obj L),À x,j,À (.int v),À (.tup (i.map bS))] rfl rfl;generalize xQ=TR at l |-;generalize hE:eFn (jK (aa 1) (cM) (bq (eC (.int 2))))=E at A |-;generalize hM:aj az (aa 1) (aj aR (aj bI (aa 7) (eC (.int 16))) (ai aL (af (aa 1) (ah))))=EM at U |-;generalize sD (names.take 2)=FD at F A;generalize sD names=NA at F l A U |-;generalize sD k=KA at l A U |-;generalize i.map bS=IA at F l U |-
   simp_all! [e1,A,F,U,l]
  rw[u,cV];exact k6
structure Nc(names:P3)(rs:List dw):Prop where
 le:rs.length<=names.length+2
 ge:names.length<=rs.length
 fst:∀(i:Nat) r,i<names.length->rs[i]?=À r->RG names i r
 all:∀r∈rs,JZ names r
theorem Gn{cs:D2}(hc:jU cs){s:Nat}(n0:Str)(ns kinds:P3)(hnl:ns.length<=10)(hng:∀x∈n0::ns,Ð x=Ä)(hk:kinds≠[])(l7:kinds.length<=100)(zx:∀x∈kinds,Ð x=Ä){G:DH}(h:aV s cs G):
  ∃(rs:List dw)(G':DH),Nc (n0::ns) rs/\aV s cs G'/\Fm s G.length G G'/\gF [.obj s,sD (n0::ns),sD kinds,.int 2] G=.ok (cO n0 rs) G':=by
 have hsl:=h.lt;have hn:n0::ns≠[]:=by simp
 obtain⟨rs,G1,p5,p6,p7,p8,k1,k2,k3,k4,k5,k6⟩:=J2 hc (n0::ns) kinds hn (by simp;lia) hng hk l7 zx G.length G.length (È _) hsl (n0::ns) 0 [] (G++[.lst []]) Å Å Å Å rfl rfl (by simp) h.app (jW _ _ _);obtain⟨v,G2,u2,s2,l2,e2⟩:=dI hc k3;have zw:=u2.get (q:=G.length) ∅ k5;have c0:0<=v%3:=∅
 have c1:v%3<3:=∅
 have hr:=kU (j:=v%3) c0 ∅;obtain⟨ex,G3,q5,q6,q7,q8,j1,j2,j3,j4,j5,j6⟩:=J3 hc (n0::ns) kinds hn (by simp;lia) hng hk l7 zx G.length G.length (È _) hsl ((ç 0 (v%3).toNat).map λ(k:Nat)=>.int (0+(k:Int))) rs [] G2 p5 p6 p7 p8 (by rw[k1];simp;lia) (by simp;lia) (by simp) s2 (by rw[ó];exact zw);have hel:ex.length<=2:=by simp at j1;lia
 have hrl:rs.length=ns.length+1:=‹k1›
 refine⟨rs++ex,G3,⟨by simp;lia,by simp;lia,λi r hi e=>?_,λr hr'=>?_⟩,j3,((Fm.app.trans k4).trans u2.fm).trans j4,?_⟩
 ·rw[Î (by rw[k1];exact hi)]at e;exact k2 i r e
 ·rcases í.mp hr' with h|h
  ·obtain⟨i,hi,e⟩:=ğ h;exact(k2 i r (by rw[Ê hi,e])).1
  ·exact j2 r h
 ·have h0:(0:Nat)<=Ç:=é _;have hz:(rs++ex).length<=Ç:=lz (by simp;lia);have z2:(2:Nat)<=Ç:=lz ∅;have ef:=qV (g:=gP 5 6) (body:=dM) (xs:=(n0::ns).map D.str) (τ:=[À (.obj s),À (sD (n0::ns)),À (sD kinds),À (.int 2),À (.obj G.length),Å,Å,Å,Å]) (G:=G++[.lst []]);simp only[Ħ]at k6;rw[k6]at ef;have Eb:∀H,az (sD (n0::ns)) (.int 0) H=.ok (.str n0) H:=λH=>by have:gr ((n0::ns).map D.str) ((0:Nat):Int)=À (.str n0):=bH rfl;unfold sD;simp only[az,ak];rw[show((0:Int))=((0:Nat):Int) from rfl,this]
  have aau:sD (n0::ns)=.con ((n0::ns).map .str):=rfl;have RI:∀H,ak H (sD (n0::ns))=À (.lst ((n0::ns).map D.str)):=λH=>rfl;have Gw:lU (gP 5 6) dM (nK (sD (n0::ns))) (((n0::ns).map D.str).length+1) 0 [À (.obj s),À (sD (n0::ns)),À (sD kinds),À (.int 2),À (.obj G.length),Å,Å,Å,Å] (G++[.lst []])=.nx [À (.obj s),À (sD (n0::ns)),À (sD kinds),À (.int 2),À (.obj G.length),p5,p6,p7,p8] G1:=ef;clear ef;generalize(n0::ns).map D.str=NL at Gw RI;generalize sD (n0::ns)=NA at Gw j6 Eb RI |-;generalize sD kinds=KA at Gw j6 |-;generalize((ç 0 (v%3).toNat).map λ(k:Nat)=>D.int (0+(k:Int)))=xs at hr j6;unfold gF;rw[bG];unfold lG jR cO
  simp_all! [aN,Α h0,gx,kr,RI,Gw]
  simp_all! [mZ,e2]
  generalize rs++ex=RS at j5 hz |-;simp[aO,hr,j6,fZ,ak,j5,aZ,hz,z2,Eb]
structure Fp(P:Nat->Prop)(G G':DH):Prop where
 len:G.length<=G'.length
 keep:∀(q:Nat)(o:DO),¬ P q->G[q]?=À o->G'[q]?=À o
theorem Fp.refl{P:Nat->Prop}{G:DH}:Fp P G G:=⟨È _,λ_ _ _ e=>e⟩
theorem Fp.trans{P:Nat->Prop}{G G' U:DH}(h:Fp P G G')(h':Fp P G' U):Fp P G U:=⟨ú h.len h'.len,λq o a e=>h'.keep q o a (h.keep q o a e)⟩
theorem Fp.mono{P Q:Nat->Prop}{G G':DH}(h:Fp P G G')(b:∀q,q<G.length->P q->Q q):Fp Q G G':=⟨h.len,λq o a e=>h.keep q o (λz=>a (b q (Á.mp e).1 z)) e⟩
theorem Up.fp{P:Nat->Prop}{s:Nat}{c:D2}{G G':DH}(h:Up s c G G')(b:P s):Fp P G G':=⟨h.len,λq o a e=>h.get (λz=>a (z▸b)) e⟩
theorem Fp.set{P:Nat->Prop}{G:DH}{L:Nat}{x:DO}(h:P L):Fp P G (G.set L x):=⟨by simp,λq o a e=>by rw[Í (λz=>a (by rw[<- z];exact h))];exact e⟩
theorem Fp.app{P:Nat->Prop}{G R:DH}:Fp P G (G++R):=⟨by simp,λq o a e=>aH e⟩
def Xq(f:Int)(i:Itm)(c:Int):Prop:=i.lo<=c/\c<=i.lo+2/\(f<=0->c=i.lo)
def vg(f:Int):List Itm->D2->Prop
 |[],[]=>True
 |i::r,c::d=>Xq f i c/\vg f r d
 |_,_=>False
theorem vh{f o:Int}(h:o<=f):∀{a:List Itm}{n:D2},vg o a n->(f<=0->o<=0)->vg f a n
 |[],[],_,_=>trivial
 |[],_::_,z,_=>z.elim
 |_::_,[],z,_=>z.elim
 |i::r,c::d,z,b=>⟨⟨z.1.1,z.1.2.1,λe=>z.1.2.2 (b e)⟩,vh h z.2 b⟩
theorem rQ{l:D2}(Z:jU l){s f Lf:Nat}(U:s≠f)(M:s≠Lf)(X:f≠Lf)(r:D):∀(c:List Itm),(∀i∈c,0<=i.lo/\∀h,i.hi=À h->i.lo<=h)->∀(a:D2)(b:Int)(H:DH)(F C B t:X9),a.length+c.length<=100->aV s l H->H[f]?=À (.lst [.int b])->H[Lf]?=À (.lst (a.map .int)) ->
  ∃(I:D2)(G:Int)(H':DH)(T O R V:X9),vg b c I/\G<=b/\aV s l H'/\H'[f]?=À (.lst [.int G])/\H'[Lf]?=À (.lst ((a++I).map .int))/\Fp (λq=>q=s\/q=f\/q=Lf) H H' /\
   aT (ML 4 5 6) fk (c.map bS) [À (.obj s),À r,À (.obj f),À (.obj Lf),F,C,B,t] H=.nx [À (.obj s),À r,À (.obj f),À (.obj Lf),T,O,R,V] H'
 |[],hi,a,b,H,F,C,B,t,hz,E,K,Q=>⟨[],b,H,F,C,B,t,trivial,∅,E,K,by rw[ó];exact Q,.refl,by simp[aT]⟩
 |i::c,hi,a,b,H,F,C,B,t,hz,E,K,Q=>by
  simp only[Ñ]at hz;obtain⟨hlo,P⟩:=hi i (by simp);have et:ML 4 5 6 (bS i) [À (.obj s),À r,À (.obj f),À (.obj Lf),F,C,B,t]=À [À (.obj s),À r,À (.obj f),À (.obj Lf),À (.str i.nm),À (.int i.lo),À (jq i.hi),t]:=rfl;have o:az (.obj f) (.int 0) H=.ok (.int b) H:=by have:gr [D.int b] 0=À (.int b):=bH (j:=0) rfl;simp only[az,ak,K,this]
  have g:∃(m:Int)(e:DH),0<=m/\m<=2/\(b<=0->m=0)/\aV s l e/\Up s l H e/\(jb (b8 (aj kK (aj az (aa 2) (eC (.int 0))) (eC (.int 0)))) (dY) (bD)) [À (.obj s),À r,À (.obj f),À (.obj Lf),À (.str i.nm),À (.int i.lo),À (jq i.hi),À (.int 0)] H=.nx [À (.obj s),À r,À (.obj f),À (.obj Lf),À (.str i.nm),À (.int i.lo),À (jq i.hi),À (.int m)] e:=by
   by_cases Y:0<b
   ·obtain⟨v,e,y,J,l1,u⟩:=dI Z E;have b0:0<=v%3:=∅
    have b1:v%3<=2:=∅
    cases hh:i.hi with
    |none=>refine⟨v%3,e,b0,b1,λz=>∅,J,y,?_⟩;simp[o,Y,dY,u,aO,jq,eV]
    |some z=>have hz':=P z hh;refine⟨if z-i.lo<v%3 then z-i.lo else v%3,e,by split<;>lia,by split<;>lia,λz=>∅,J,y,?_⟩;simp[o,Y,dY,u,aO,jq,eV,eW]
   ·refine⟨0,H,∅,∅,λ_=>rfl,E,.refl E,?_⟩;simp[o,Y,aO]
  obtain⟨m,e,m0,m2,mz,J,y,u⟩:=g;have W:=y.get (õ U) K;have xO:=y.get (õ M) Q;have Gv:a.length<Ç:=Õ ∅ (lz (n:=1001) ∅);generalize x:e.set Lf (.lst ((a++[i.lo+m]).map .int))=d;have zw:d[Lf]?=À (.lst ((a++[i.lo+m]).map .int)):=by rw[<- x];exact eZ xO
  have p:d[f]?=À (.lst [.int b]):=by rw[<- x,Í (õ X)];exact W
  have s2:aV s l d:=by rw[<- x];exact J.set (õ M)
  generalize w:d.set f (.lst [.int (b-m)])=k;have Vy:k[f]?=À (.lst [.int (b-m)]):=by rw[<- w];exact eZ p
  have N:k[Lf]?=À (.lst ((a++[i.lo+m]).map .int)):=by rw[<- w,Í X];exact zw
  have s3:aV s l k:=by rw[<- w];exact s2.set (õ U)
  obtain⟨I,G,H',T,O,R,V,j1,j2,j3,j4,j5,j6,j7⟩:=rQ Z U M X r c (λj hj=>hi j (by simp[hj])) (a++[i.lo+m]) (b-m) k (À (.str i.nm)) (À (.int i.lo)) (À (jq i.hi)) (À (.int m)) (by simp;lia) s3 Vy N;refine⟨(i.lo+m)::I,G,H',T,O,R,V,⟨⟨∅,∅,λz=>by rw[mz z];lia⟩,vh ∅ j1 (λz=>∅)⟩,∅,j3,j4,by rw[j5];simp,?_,?_⟩
  ·have f2:Fp (λq=>q=s\/q=f\/q=Lf) e d:=by rw[<- x];exact .set (.inr (.inr rfl))
   have f3:Fp (λq=>q=s\/q=f\/q=Lf) d k:=by rw[<- w];exact .set (.inr (.inl rfl))
   exact(((y.fp (.inl rfl)).trans f2).trans f3).trans j6
  ·rw[É,aY et];have L:zq [D.int b].length 0=À 0:=rfl;have Xs:az (.obj f) (.int 0) d=.ok (.int b) d:=by have:gr [D.int b] 0=À (.int b):=bH (j:=0) rfl;simp only[az,ak,p,this]
   have Xu:(a++[i.lo+m]).map D.int=a.map .int++[.int (i.lo+m)]:=by simp
   rw[Xu]at x;have YJ:d.set f (.lst ([D.int b].set 0 (.int (b-m))))=k:=w;have A:fk [À (.obj s),À r,À (.obj f),À (.obj Lf),À (.str i.nm),À (.int i.lo),À (jq i.hi),t] H=.nx [À (.obj s),À r,À (.obj f),À (.obj Lf),À (.str i.nm),À (.int i.lo),À (jq i.hi),À (.int m)] k:=by unfold fk;generalize hS:jb (b8 (aj kK (aj az (aa 2) (eC (.int 0))) (eC (.int 0)))) (dY) (bD)=S at u |-;generalize jq i.hi=HD at u |-;simp only[f6,mq,L5,rF,gw,Ü,Ý,u,jD,jh,gZ,Ĭ,aak,dQ,c7,xO,beq_self_eq_true,if_true,yy,qG,tY,aI,jx,NJ,aP,Ú,Α Gv,x,kg,mD,Xs,aO,jL,p,L,w]
   rw[A,cV];exact j7
theorem Bp(r:dw)(G:DH):az (aJ r) (.int 3) G=.ok (.tup (r.its.map bS)) G:=by unfold aJ aM;simp![Sf]
theorem J5(r:dw)(G:DH):az (aJ r) (.int 2) G=.ok (.str (if r.mix=Ä then "mix" else "row")) G:=by unfold aJ aM;simp![at2]
theorem Dj{g:D2}(t:jU g){s f:Nat}(U:s≠f)(r:dw)(c:vS r)(b:Int){H:DH}(l:aV s g H)(m:H[f]?=À (.lst [.int b])):
  ∃(n:D2)(o:Int)(H':DH),vg b r.its n/\o<=b/\aV s g H'/\H'[f]?=À (.lst [.int o])/\Fp (λq=>q=s\/q=f\/H.length<=q) H H'/\iz [.obj s,aJ r,.obj f] H=.ok (.con (n.map .int)) H':=by
 have x:=l.lt;have A:f<H.length:=(Á.mp m).1;obtain⟨n,o,a,F,J,L,G,z,D,B,y,j,w,d⟩:=rQ t (s:=s) (f:=f) (Lf:=H.length) U ∅ ∅ (aJ r) r.its (λi p=>⟨c.wf.lo i p,c.wf.hi i p⟩) [] b (H++[.lst []]) Å Å Å Å (by have:=c.two;simp;lia) l.app (aH m) (jW _ _ _);rw[á]at j;have K:H.length<a.length:=(Á.mp j).1;refine⟨n,o,a.set H.length .dead,z,D,B.set ∅,by rw[Í ∅];exact y,?_,?_⟩
 ·have v:Fp (λq=>q=s\/q=f\/H.length<=q) H (H++[.lst []]):=.app;have u:Fp (λq=>q=s\/q=f\/H.length<=q) (H++[.lst []]) a:=w.mono λq _ h=>by
   rcases h with h|h|h
   ·exact .inl h
   ·exact .inr (.inl h)
   ·exact .inr (.inr ∅)
  exact(v.trans u).trans (.set (.inr (.inr (È _))))
 ·have E:(0:Nat)<=Ç:=é _;have k:=Bp r;generalize aJ r=R at k d |-;generalize r.its.map bS=I at k d;have C:∀τ:DS,τ[3]?=À (À (.obj H.length))->r8 (aa 3) τ a=.ok (.con (n.map .int)) (a.set H.length .dead):=by
   intro τ h;unfold r8;have e:aa 3 τ a=.ok (.obj H.length) a:=by rw[gZ,h]
   rw[e];k_go;rw[j]
  unfold iz;rw[bG];unfold jP
  simp_all! [aN,Α E,fh,k,d]
  rw[C _ rfl,nL,iR]
theorem Bq{k:D2}(O:jU k){s L:Nat}(J:s≠L)(r:dw)(i:Itm)(e:D):∀(xs:X2)(a:P3)(H:DH)(d:X9)(C t:X9),a.length+xs.length<=100->aV s k H->H[L]?=À (.lst (a.map .str)) ->
  ∃(z:P3)(H':DH)(G K:X9),z.length=a.length+xs.length/\(∀x∈z,x∈a\/(x=i.nm/\0<xs.length))/\aV s k H'/\H'[L]?=À (.lst (z.map .str))/\Fp (λq=>q=s\/q=L) H H' /\
   aT (gN 6) fM xs [À (.obj s),À (aJ r),À e,À (.obj L),À (bS i),d,C,t] H=.nx [À (.obj s),À (aJ r),À e,À (.obj L),À (bS i),d,G,K] H'
 |[],a,H,d,C,t,hz,w,m=>⟨a,H,C,t,by simp,λx W=>.inl W,w,m,.refl,by simp[aT]⟩
 |x::xs,a,H,d,C,t,hz,w,m=>by
  simp only[Ñ]at hz;have lM:aL [.obj L] H=.ok (.int a.length) H:=by simp only[aL,ak,m,Ú]
  have M:∃(b:Nat)(c:DH),b<=a.length/\aV s k c/\Up s k H c/\(jb (b8 (aj (e8 Â) (aj az (aa 1) (eC (.int 2))) (eC (.str "mix")))) (aA 7 (aj aR (aC 1 ao (af (aa 0) (ah))) (aj ay (ai aL (af (aa 3) (ah))) (eC (.int 1))))) (bD)) [À (.obj s),À (aJ r),À e,À (.obj L),À (bS i),d,À x,À (.int a.length)] H=.nx [À (.obj s),À (aJ r),À e,À (.obj L),À (bS i),d,À x,À (.int (b:Int))] c:=by
   have V:=J5 r H;have o:=zc r.mix H;generalize(if r.mix=Ä then ("mix":Str) else "row")=rm at V o;generalize aJ r=R at V |-;generalize bS i=I;cases YK:r.mix with
   |false=>rw[YK]at o;exact⟨a.length,H,È _,w,.refl w,by simp[V,o]⟩
   |true=>
    rw[YK]at o;obtain⟨v,c,u,F,l1,g⟩:=dI O w;have E:=u.get (õ J) m;have X:aL [.obj L] c=.ok (.int a.length) c:=by simp only[aL,ak,E,Ú]
    have k0:0<=v%((a.length:Int)+1):=aab _ ∅;have k1:v%((a.length:Int)+1)<(a.length:Int)+1:=Ū _ ∅;have j:(0:Int)<(a.length:Int)+1:=∅
    refine⟨(v%((a.length:Int)+1)).toNat,c,∅,F,u,?_⟩;rw[acy k0];simp[V,o,g,X,jx,aO,j]
  obtain⟨b,c,a1,F,u,g⟩:=M;have E:=u.get (õ J) m;generalize f:a.take b++i.nm::a.drop b=B;have U:B.length=a.length+1:=by rw[<- f];simp;lia
  have p:∀y∈B,y∈a\/y=i.nm:=by
   intro y A;rw[<- f]at A;rcases í.mp A with h|h
   ·exact .inl (aa2 h)
   ·rcases Þ.mp h with h|h
    ·exact .inr h
    ·exact .inl (aa3 h)
  obtain⟨z,H',G,K,j1,j2,Y,j4,T,j6⟩:=Bq O J r i e xs B (c.set L (.lst (B.map .str))) d (À x) (À (.int (b:Int))) ∅ (F.set (õ J)) (eZ E);refine⟨z,H',G,K,by simp only[Ñ];lia,λy A=>?_,Y,j4,((u.fp (.inl rfl)).trans (.set (.inr rfl))).trans T,?_⟩
  ·rcases j2 y A with h|h
   ·rcases p y h with h|h
    ·exact .inl h
    ·exact .inr ⟨h,by simp⟩
   ·exact .inr ⟨h.1,by simp⟩
  ·rw[aY rfl];simp only[Ü,Ý];have Z:a.length<Ç:=Õ ∅ (lz (n:=1001) ∅);have P:=sQ i;have Q:(a.map D.str).take b++D.str i.nm::(a.map D.str).drop b=B.map .str:=by rw[<- f];simp
   have N:0<=(b:Int)/\(b:Int)<1000/\(a.map D.str).length<Ç:=⟨∅,∅,‹Z›⟩;have l:fM [À (.obj s),À (aJ r),À e,À (.obj L),À (bS i),d,À x,t] H=.nx [À (.obj s),À (aJ r),À e,À (.obj L),À (bS i),d,À x,À (.int (b:Int))] (c.set L (.lst (B.map .str))):=by
    unfold fM;generalize hS:jb (b8 (aj (e8 Â) (aj az (aa 1) (eC (.int 2))) (eC (.str "mix")))) (aA 7 (aj aR (aC 1 ao (af (aa 0) (ah))) (aj ay (ai aL (af (aa 3) (ah))) (eC (.int 1))))) (bD)=S at g |-;generalize bS i=I at g P |-;generalize aJ r=R at g |-
    simp_all! [lM,g,jD,jh,c7,E,beq_self_eq_true,P,pV,Α N,Ē,Q,kg]
   rw[l,cV];exact j6
def zp:List Itm->D2->List (Itm×Int)
 |i::r,c::d=>(i,c)::zp r d
 |_,_=>[]
theorem Bs{u:D2}(B:jU u){s L:Nat}(J:s≠L)(r:dw)(b:D):∀(l:List (Itm×Int)),(∀p∈l,0<=p.2/\p.2<=4)->∀(a:P3)(H:DH)(n m d o:X9),a.length+4*l.length<=100->aV s u H->H[L]?=À (.lst (a.map .str)) ->
  ∃(f:P3)(H':DH)(M S t g:X9),(f.length:Int)=a.length+(l.map (·.2)).sum/\(∀x∈f,x∈a\/∃p∈l,x=p.1.nm/\0<p.2)/\aV s u H'/\H'[L]?=À (.lst (f.map .str))/\Fp (λq=>q=s\/q=L) H H' /\
   aT (gP 4 5) eO (l.map λp=>.tup [bS p.1,.int p.2]) [À (.obj s),À (aJ r),À b,À (.obj L),n,m,d,o] H=.nx [À (.obj s),À (aJ r),À b,À (.obj L),M,S,t,g] H'
 |[],v,a,H,n,m,d,o,hz,A,z=>⟨a,H,n,m,d,o,by simp,λx y=>.inl y,A,z,.refl,by simp[aT]⟩
 |(i,c)::l,v,a,H,n,m,d,o,hz,A,z=>by
  simp only[Ñ]at hz;obtain⟨I,P⟩:=v (i,c) (by simp);dsimp only at I P;have E:=kU (j:=c) I ∅;obtain⟨Y,K,t,g,F,G,W,Q,N,C⟩:=Bq B J r i b ((ç 0 c.toNat).map λ(k:Nat)=>.int (0+(k:Int))) a H (À (.int c)) d o (by simp;lia) A z;simp only[Ú,List.length_range']at F G;obtain⟨f,H',U,O,R,X,k1,k2,k3,T,k5,V⟩:=Bs B J r b l (λp w=>v p (by simp[w])) Y K (À (bS i)) (À (.int c)) t g ∅ W Q;refine⟨f,H',U,O,R,X,by rw[k1,F];simp;lia,λx y=>?_,k3,T,N.trans k5,?_⟩
  ·rcases k2 x y with h|⟨p,w,h⟩
   ·rcases G x h with h|h
    ·exact .inl h
    ·exact .inr ⟨(i,c),by simp,h.1,by have:=h.2;lia⟩
   ·exact .inr ⟨p,by simp[w],h⟩
  ·rw[É,aY rfl];simp only[Ü,Ý];have e:eO [À (.obj s),À (aJ r),À b,À (.obj L),À (bS i),À (.int c),d,o] H=.nx [À (.obj s),À (aJ r),À b,À (.obj L),À (bS i),À (.int c),t,g] K:=by
    unfold eO;generalize((ç 0 c.toNat).map λ(k:Nat)=>D.int (0+(k:Int)))=xs at E C
    simp_all! [mZ,E,C]
   rw[e,cV];exact V
theorem J6:∀(a:List Itm)(n:D2),ð (λx y=>D.tup [x,y]) (a.map bS) (n.map .int)=(zp a n).map λp=>.tup [bS p.1,.int p.2]
 |[],n=>by simp[zp]
 |i::r,[]=>by simp[zp]
 |i::r,c::d=>by simp[zp,J6 r d]
theorem N8{g:Int}:∀{a:List Itm}{n:D2},vg g a n->(∀i∈a,0<=i.lo/\i.lo<=2)->(∀p∈zp a n,p.1∈a/\0<=p.2/\p.2<=4/\(g<=0->p.2=p.1.lo))/\((zp a n).map (·.2)).sum<=4*a.length/\(g<=0->((zp a n).map (·.2)).sum<=2*a.length)/\(zp a n).length=a.length
 |[],[],_,_=>by simp[zp]
 |[],_::_,z,_=>z.elim
 |_::_,[],z,_=>z.elim
 |i::r,c::d,z,h=>by
  obtain⟨⟨v,x,k⟩,s⟩:=z;obtain⟨o,w,u,t⟩:=N8 s λj m=>h j (by simp[m]);have y:=h i (by simp);refine⟨λp f=>?_,?_,λb=>?_,by simp[zp,t]⟩
  ·rw[zp]at f;rcases Þ.mp f with rfl|f
   ·exact⟨by simp,by dsimp only;lia,by dsimp only;lia,λb=>by dsimp only;exact k b⟩
   ·obtain⟨q,l⟩:=o p f;exact⟨by simp[q],l⟩
  ·simp only[zp,É,ľ,Ñ];lia
  ·have e:=k b;have:=u b;simp only[zp,É,ľ,Ñ];lia
theorem Gp{j:D2}(v:jU j){s:Nat}(r:dw)(U:r.its.length<=2)(f:∀i∈r.its,0<=i.lo/\i.lo<=2)(l:Int)(n:D2)(o:vg l r.its n){H:DH}(u:aV s j H):
  ∃(a:P3)(H':DH),a.length<=8/\(l<=0->a.length<=4)/\(∀x∈a,∃i∈r.its,x=i.nm/\(l<=0->0<i.lo))/\aV s j H'/\Fp (λq=>q=s\/H.length<=q) H H'/\iZ [.obj s,aJ r,.con (n.map .int)] H=.ok (sD a) H':=by
 have C:=u.lt;obtain⟨z,z2,P,z4⟩:=N8 o f;obtain⟨a,b,S,X,p6,W,E,O,J,t,w,A⟩:=Bs v (s:=s) (L:=H.length) ∅ r (.con (n.map .int)) (zp r.its n) (λp d=>⟨(z p d).2.1,(z p d).2.2.1⟩) [] (H++[.lst []]) Å Å Å Å (by simp;lia) u.app (jW _ _ _);simp at E;have hL:H.length<b.length:=(Á.mp t).1;refine⟨a,b.set H.length .dead,∅,λm=>by have:=P m;lia,λx I=>?_,J.set ∅,?_,?_⟩
 ·rcases O x I with h|⟨p,d,N,Z⟩
  ·simp at h
  ·obtain⟨K,Y,V,F⟩:=z p d;exact⟨p.1,K,N,λm=>by have:=F m;lia⟩
 ·have B:Fp (λq=>q=s\/H.length<=q) H (H++[.lst []]):=.app;have y:Fp (λq=>q=s\/H.length<=q) (H++[.lst []]) b:=w.mono λq _ h=>by
   rcases h with h|h
   ·exact .inl h
   ·exact .inr ∅
  exact(B.trans y).trans (.set (.inr (È _)))
 ·have Q:(0:Nat)<=Ç:=é _;have k:=Bp r;have M:∀τ:DS,τ[3]?=À (À (.obj H.length))->r8 (aa 3) τ b=.ok (sD a) (b.set H.length .dead):=by
   intro τ h;unfold r8;have e:aa 3 τ b=.ok (.obj H.length) b:=by rw[gZ,h]
   rw[e];k_go;rw[t];rfl
  have c:=Jx (g:=gP 4 5) (body:=eO) (xs:=r.its.map bS) (ys:=n.map .int) (τ:=[À (.obj s),À (aJ r),À (.con (n.map .int)),À (.obj H.length),Å,Å,Å,Å]) (G:=H++[.lst []]);rw[J6,A]at c;generalize n.map D.int=CT at c |-;generalize aJ r=R at k c |-;generalize r.its.map bS=T at k c;unfold iZ;rw[bG];unfold lD
  simp_all! [aN,Α Q,gx,MQ,k,cy,ak,c]
  rw[M _ rfl,nL,iR]
def gR(a:List dw)(nm:Str):List Nat:=(ç 0 a.length).filter λk=>(a[k]?.map λr=>r.nm==nm).getD Â
theorem J7(n0:Str)(rs:List dw)(hz:rs.length<=100)(hrs:∀r∈rs,vS r)(nm:Str)(hnm:Ð nm=Ä)(a0 a3 a4 a5:X9)(G:DH):
  eFn (cT e7 oN [Â,Ä,Ä] (af (ai aL (af (aj az (aa 1) (eC (.int 1))) (ah))) (ah)) (b8 (aj (e8 Â) (aj az (aj az (aj az (aa 2) (eC (.int 1))) (aa 0)) (eC (.int 0))) (aa 3))) (aa 0)) [a0,À (cO n0 rs),À (.str nm),a3,a4,a5,Å,Å,Å,Å,Å,Å] G=.ok (.con ((gR rs nm).map λk:Nat=>.int (k:Int))) G:=by
 have nP:∀G,az (cO n0 rs) (.int 1) G=.ok (.tup (rs.map aJ)) G:=λG=>by unfold cO;simp![qM]
 have hr:=kU (j:=(rs.length:Int)) ∅ ∅;have c1:=bF (τ:=[a0,À (cO n0 rs),À (.str nm),a3,a4,a5,Å,Å,Å,Å,Å,Å]) (G:=G) (gO:=oN) (ks:=[Â,Ä,Ä]) (tt:=b8 (aj (e8 Â) (aj az (aj az (aj az (aa 2) (eC (.int 1))) (aa 0)) (eC (.int 0))) (aa 3))) (te:=aa 0) (own:=λk:Nat=>[.int (0+(k:Int))]) (dat:=λk=>.int (0+(k:Int))) (f:=λk=>.int (0+(k:Int))) (c:=λk=>(rs[k]?.map λr=>r.nm==nm).getD Â) (ç 0 rs.length) [] (by simp;lia) (λx _=>rfl) (λk hk acc=>by
  have hk':k<rs.length:=by rw[Ņ]at hk;lia
  have hrk:rs[k]?=À rs[k]:=Ê hk';have hat:gr (rs.map aJ) (k:Int)=À (aJ rs[k]):=jI (by rw[Ö,hrk];rfl);have i0:=sP rs[k];have he:=iy Â rs[k].nm nm (G++[.lst acc]) (hrs _ (Ŷ _)).sn hnm;rw[hrk];generalize rs[k]=r at hat i0 he;generalize cO n0 rs=S at nP |-;have Sh:∀H,az (.tup (rs.map aJ)) (.int (k:Int)) H=.ok (aJ r) H:=λH=>by simp only[az,ak,hat]
  generalize rs.map aJ=RS at nP Sh;generalize aJ r=R at i0 Sh;rw[abZ];simp[mask,nP,Sh,i0,he]) (λk hk acc=>by simp![mask])
 rw[á]at c1;have hcl:aG ((gR rs nm).map λk:Nat=>D.int (k:Int))=Ä:=aB λ_=>b7;have e0:((ç 0 rs.length).filter λk=>(rs[k]?.map λr=>r.nm==nm).getD Â).map (λk:Nat=>D.int (0+(k:Int)))=(gR rs nm).map λk:Nat=>D.int (k:Int):=by unfold gR;apply ĵ;intro k _;rw[abZ]
 rw[e0]at c1;have hlen:∀G,aL [.tup (rs.map aJ)] G=.ok (.int rs.length) G:=λG=>by simp only[aL,ak,Ú]
 rw[Ē]at hr;generalize(gR rs nm).map (λk:Nat=>D.int (k:Int))=NB at c1 hcl |-;generalize cO n0 rs=S at nP c1 |-;generalize rs.map aJ=RS at nP hlen
 simp_all! [cI,pK,nP,hlen,hr,c1]
 rw[eX hcl]
theorem J8{rs:List dw}{nm:Str}{k:Nat}(h:k∈gR rs nm):∃r,rs[k]?=À r/\r.nm=nm:=by
 unfold gR at h;obtain⟨a,h2⟩:=Ĥ.mp h;cases q:rs[k]? with
 |none=>rw[q]at h2;cases h2
 |some r=>rw[q]at h2;exact⟨r,rfl,‹h2›⟩
theorem rS{p:Nat->Bool}:∀(n j:Nat){i:Nat},j<=i->i<j+n->p i=Ä->(∀k,j<=k->k<i->p k=Â)->∃r,(ç j n).filter p=i::r
 |0,j,i,d,f,_,_=>∅
 |n+1,j,i,d,f,c,h=>by
  rw[aaN];by_cases e:j=i
  ·x_go;rw[ę c];exact⟨_,rfl⟩
  ·rw[ń (by rw[h j (È _) ∅];decide)];exact rS n (j+1) ∅ ∅ c λk a b=>h k ∅ b
theorem Gq{names:P3}{a:List dw}(s:Nc names a)(d:names.Nodup){i:Nat}{nm:Str}(g:names[i]?=À nm):∃r,gR a nm=i::r:=by
 have h:i<names.length:=(Á.mp g).1;have m:=s.ge;have c:∀k,k<names.length->∃r,a[k]?=À r/\names[k]?=À r.nm:=λk j=>by have e:a[k]?=À (a[k]'∅):=Ê ∅;exact⟨_,e,(s.fst k _ j e).2.1⟩
 refine rS a.length 0 (é _) ∅ ?_ ?_
 ·obtain⟨r,f,b⟩:=c i h;rw[f];rw[g]at b;simp[æ b]
 ·intro k _ j;obtain⟨r,f,b⟩:=c k ∅;rw[f];show(r.nm==nm)=Â;rw[beq_eq_false_iff_ne];intro e;rw[e,<- g]at b;have l:k<names.length:=∅
  rw[Ê l,Ê h]at b;have:=(Ļ d).mp (æ b);lia
def need(f:Int)(i:Nat):Nat:=if 0<f then f.toNat+3 else 3-i
def s0:Nat->Nat
 |0=>0
 |k+1=>1+4*s0 k
def sf:Nat->Nat
 |0=>21
 |k+1=>1+8*sf k
def bnd(f:Int)(i:Nat):Nat:=if 0<f then sf f.toNat else s0 (3-i)
theorem En{a b:Nat}(h:a<=b):s0 a<=s0 b:=by
 induction b with
 |zero=>rw[show a=0 by lia];exact È _
 |succ b i=>
  by_cases e:a=b+1
  ·rw[e];exact È _
  ·have:=i ∅;rw[s0];lia
theorem zl{a b:Nat}(h:a<=b):sf a<=sf b:=by
 induction b with
 |zero=>rw[show a=0 by lia];exact È _
 |succ b i=>
  by_cases e:a=b+1
  ·rw[e];exact È _
  ·have:=i ∅;rw[sf];lia
theorem UX(a b:Nat)(h:a<=3):s0 a<=sf b:=ú (ú (En h) (by decide)) (zl (é b))
structure YL(s f mk:Nat):Prop where
 sf:s≠f
 sm:s≠mk
 fm:f≠mk
def GS(names:P3)(n0:Str)(r:List dw)(c:D2)(s f mk:Nat)(F:X2->M D)(N:Nat):Prop:=∀(nm:Str)(i:Nat)(a:Int)(p:D2)(ms:PD)(H:DH),names[i]?=À nm->need a i<=N->p.length+N<=100->(∀k∈ms.map (·.1),¬ p <+: k)->ms.length+bnd a i<1000000->aV s c H->H[f]?=À (.lst [.int a])->H[mk]?=À (.aU Â (aE ms)) ->
 ∃(t:T)(o:Int)(n:PD)(H':DH),vU t/\t.subs.length<=bnd a i/\o<=a-1/\n.length=t.subs.length/\(∀x∈n,p <+: x.1)/\aV s c H'/\H'[f]?=À (.lst [.int o])/\H'[mk]?=À (.aU Â (aE (ms++n)))/\Fp (λq=>q=s\/q=f\/q=mk\/H.length<=q) H H'/\F [.obj s,cO n0 r,.str nm,.obj f,cD p,.obj mk] H=.ok t.d H'
theorem xR{names:P3}{n0:Str}{w:List dw}{cs:D2}{s f mk:Nat}(dd:YL s f mk){F:X2->M D}{N:Nat}(hF:GS names n0 w cs s f mk F N)(U:Int)(i0 Y:Nat)(hB:∀(c:Int) (i:Nat),c<=U-1->(U<=0->i0<i)->bnd c i<=Y/\need c i<=N)(p:D2)(hp:p.length+1+N<=100)(L:Nat)(El:L≠s)(V:L≠f)(YM:L≠mk)(I J B G:X9):
  ∀(r:P3)(j:Nat)(b:List T)(ms:PD)(H:DH)(c:Int)(X Z:X9),(∀x∈r,∃i,names[i]?=À x/\(U<=0->i0<i))->c<=U-1->(∀k∈ms.map (·.1),∀g:Int,(j:Int)<=g->¬ (p++[g]) <+: k)->ms.length+r.length*Y<1000000->b.length+r.length<=100->aV s cs H->H[f]?=À (.lst [.int c])->H[mk]?=À (.aU Â (aE ms))->H[L]?=À (.lst (dL b)) ->
   ∃(a:List T)(oK:Int)(z:PD)(H':DH)(vA UZ:X9),Dc a/\a.length=r.length/\(br a).length<=r.length*Y/\oK<=c/\z.length=(br a).length/\(∀x∈z,∃g:Int,(j:Int)<=g/\(p++[g]) <+: x.1)/\aV s cs H'/\H'[f]?=À (.lst [.int oK])/\H'[mk]?=À (.aU Â (aE (ms++z)))/\H'[L]?=À (.lst (dL b++dL a))/\Fp (λq=>q=s\/q=f\/q=mk\/q=L\/H.length<=q) H H' /\
    aT (gP 10 11) (eF F) ((r.map D.str).mapIdx λi x=>.tup [.int ((j+i:Nat):Int),x]) [À (.obj s),À (cO n0 w),I,À (.obj f),À (cD p),À (.obj mk),J,B,G,À (.obj L),X,Z] H=.nx [À (.obj s),À (cO n0 w),I,À (.obj f),À (cD p),À (.obj mk),J,B,G,À (.obj L),vA,UZ] H'
 |[],j,b,ms,H,c,X,Z,hr,YN,v,hz,W,C,hf,hm,K=>by refine⟨[],c,[],H,X,Z,λs C=>by rw[br]at C;simp at C,rfl,by rw[br];simp,acp _,by rw[br];rfl,λx hx=>by simp at hx,C,hf,by rw[ó];exact hm,by rw[dL,ó];exact K,.refl,by simp[aT]⟩
 |x::r,j,b,ms,H,c,X,Z,hr,YN,v,hz,W,C,hf,hm,K=>by
  simp only[Ñ,ŵ]at hz W;obtain⟨i,hi,hii⟩:=hr x (by simp);obtain⟨b1,b2⟩:=hB c i YN hii;obtain⟨t,YO,e,H1,t1,t2,t3,t4,t5,t6,t7,t8,t9,Sj⟩:=hF x i c (p++[(j:Int)]) ms H hi b2 (by simp;lia) (λk m=>v k m (j:Int) (acp _)) ∅ C hf hm;have Rt:L<H.length:=(Á.mp K).1;have xO:=t9.keep L _ (by rintro(h|h|h|h)<;>lia) K;have hdl:(dL b).length=b.length:=by rw[jT,Ú]
  have Gv:(dL b).length<Ç:=Õ ∅ (lz (n:=1001) ∅);have O:dL (b++[t])=dL b++[t.d]:=by rw[jT,jT];simp
  generalize A:H1.set L (.lst (dL b++[t.d]))=o;have zw:o[L]?=À (.lst (dL (b++[t]))):=by rw[<- A,O];exact eZ xO
  have hf2:o[f]?=À (.lst [.int YO]):=by rw[<- A,Í V];exact t7
  have hm2:o[mk]?=À (.aU Â (aE (ms++e))):=by rw[<- A,Í YM];exact t8
  have s2:aV s cs o:=by rw[<- A];exact t6.set El
  obtain⟨a,oK,R,H',vA,UZ,k1,k2,k3,k4,k5,k6,k7,k8,k9,Sk,VB,VC⟩:=xR dd hF U i0 Y hB p hp L El V YM I J B G r (j+1) (b++[t]) (ms++e) o YO (À (.int j)) (À (.str x)) (λy l=>hr y (by simp[l])) ∅ (λk m g hj u=>by
   rw[ñ,í]at m;rcases m with m|m
   ·exact v k m g ∅ u
   ·obtain⟨y,l,rfl⟩:=ê.mp m;have:=sN (t5 y l) u;lia) (by rw[Û,t4];lia) (by simp;lia) s2 hf2 hm2 zw
  refine⟨t::a,oK,e++R,H',vA,UZ,?_,by simp[k2],?_,∅,?_,?_,k7,k8,by rw[<- â];exact k9,?_,?_,?_⟩
  ·intro y l;rw[br]at l;rcases í.mp l with h|h
   ·exact t1 y h
   ·exact k1 y h
  ·rw[br,Û,Ñ,ŵ];lia
  ·rw[br,Û,Û,t4,k5]
  ·intro y l;rcases í.mp l with h|h
   ·exact⟨(j:Int),acp _,t5 y h⟩
   ·obtain⟨g,h1,h2⟩:=k6 y h;exact⟨g,∅,h2⟩
  ·rw[Sk,O,dL];simp
  ·have f1:Fp (λq=>q=s\/q=f\/q=mk\/q=L\/H.length<=q) H H1:=t9.mono λq _ h=>by
    rcases h with h|h|h|h
    ·exact .inl h
    ·exact .inr (.inl h)
    ·exact .inr (.inr (.inl h))
    ·exact .inr (.inr (.inr (.inr h)))
   have f2:Fp (λq=>q=s\/q=f\/q=mk\/q=L\/H.length<=q) H1 o:=by rw[<- A];exact .set (.inr (.inr (.inr (.inl rfl))))
   have f3:Fp (λq=>q=s\/q=f\/q=mk\/q=L\/H.length<=q) o H':=VB.mono λq _ h=>by
    rcases h with h|h|h|h|h
    ·exact .inl h
    ·exact .inr (.inl h)
    ·exact .inr (.inr (.inl h))
    ·exact .inr (.inr (.inr (.inl h)))
    ·exact .inr (.inr (.inr (.inr (by have:=f1.len;have:=f2.len;lia))))
   exact(f1.trans f2).trans f3
  ·have e0:((x::r).map D.str).mapIdx (λi x=>D.tup [.int ((j+i:Nat):Int),x])=.tup [.int (j:Int),.str x]::(r.map D.str).mapIdx λi x=>.tup [.int ((j+1+i:Nat):Int),x]:=by rw[É,Ÿ];congr 1;apply ē;intro i;simp only[Ĉ];congr 1;funext x;rw[show j+(i+1)=j+1+i by lia]
   rw[e0,aY rfl];simp only[Ü,Ý];have sn:=Bh p ∅ (j:Int) [À (.obj s),À (cO n0 w),I,À (.obj f),À (cD p),À (.obj mk),J,B,G,À (.obj L),À (.int j),À (.str x)] H 4 10 rfl rfl;have Q:eF F [À (.obj s),À (cO n0 w),I,À (.obj f),À (cD p),À (.obj mk),J,B,G,À (.obj L),À (.int j),À (.str x)] H=.nx [À (.obj s),À (cO n0 w),I,À (.obj f),À (cD p),À (.obj mk),J,B,G,À (.obj L),À (.int j),À (.str x)] o:=by
    unfold eF;generalize hE:aj ay (aa 4) (ai aZ (af (aa 10) (ah)))=E at sn |-;generalize cO n0 w=S at sn Sj |-;generalize cD (p++[(j:Int)])=P1 at sn Sj;generalize cD p=P at sn |-;generalize t.d=td at Sj A
    simp_all! [jD,jh,c7,K,beq_self_eq_true,sn,Sj,aP,xO,Α Gv,A,kg]
   rw[Q,cV];exact VC
theorem J9(ks:List Nat)(hk:ks≠[])(hl:ks.length<=1000)(i:Int):∃k∈ks,∀H,az (.con (ks.map λk:Nat=>.int (k:Int))) (.int (i%(ks.length:Int))) H=.ok (.int (k:Int)) H:=by have hp:0<ks.length:=č.mpr hk;have hm:(0:Int)<=i%(ks.length:Int)/\i%(ks.length:Int)<ks.length:=⟨aab _ ∅,Ū _ ∅⟩;obtain⟨d,ed,RC⟩:=pG (xs:=ks.map λk:Nat=>D.int (k:Int)) (i:=i%(ks.length:Int)) hm.1 ‹hm.2›;obtain⟨x,hx,rfl⟩:=ê.mp (ë RC);exact⟨x,hx,λH=>by simp only[az,ak,ed]⟩
theorem Eo{names:P3}(hnl:names.length<=3)(hnd:names.Nodup)(hng:∀x∈names,Ð x=Ä)(n0:Str){rs:List dw}(sh:Nc names rs){cs:D2}(hc:jU cs){s f mk:Nat}(dd:YL s f mk):∀N,GS names n0 rs cs s f mk (bU N) N
 |0=>by intro nm i fu p ms H hi hN;exfalso;have hil:i<names.length:=(Á.mp hi).1;unfold need at hN;split at hN<;>lia
 |N+1=>by
  intro nm i fu p ms H hi hN hp hfr hz hs hf hm;have hil:i<names.length:=(Á.mp hi).1;have hrl:=sh.le;have hrs:∀r∈rs,vS r:=λr hr=>(sh.all r hr).ok;have hnm:Ð nm=Ä:=hng _ (ë hi);have nb:=J7 n0 rs ∅ hrs nm hnm (À (.obj s)) (À (.obj f)) (À (cD p)) (À (.obj mk)) H;obtain⟨tl,hnb⟩:=Gq sh hnd hi;have aax:(gR rs nm).length<=100:=by
   have:(gR rs nm).length<=rs.length:=by unfold gR;exact ú (ū _ _) (by simp)
   lia
  have U0:gR rs nm≠[]:=by rw[hnb];simp
  have hfx:∀H:DH,H[f]?=À (.lst [.int fu])->az (.obj f) (.int 0) H=.ok (.int fu) H:=λH hf=>by have:gr [D.int fu] 0=À (.int fu):=bH (j:=0) rfl;simp only[az,ak,hf,this]
  have hnum:∃(n:Nat)(H1:DH),n∈gR rs nm/\(fu<=0->n=i)/\aV s cs H1/\Up s cs H H1/\(au (aA 7 (aj az (aa 6) (eC (.int 0)))) (jb (b8 (aj kK (aj az (aa 3) (eC (.int 0))) (eC (.int 0)))) (aA 7 (aj az (aa 6) (aj aR (aC 1 ao (af (aa 0) (ah))) (ai aL (af (aa 6) (ah)))))) (bD))) [À (.obj s),À (cO n0 rs),À (.str nm),À (.obj f),À (cD p),À (.obj mk),À (.con ((gR rs nm).map λk:Nat=>.int (k:Int))),Å,Å,Å,Å,Å] H=.nx [À (.obj s),À (cO n0 rs),À (.str nm),À (.obj f),À (cD p),À (.obj mk),À (.con ((gR rs nm).map λk:Nat=>.int (k:Int))),À (.int (n:Int)),Å,Å,Å,Å] H1:=by
   have i0:∀H,az (.con ((gR rs nm).map λk:Nat=>.int (k:Int))) (.int 0) H=.ok (.int (i:Int)) H:=λH=>by have:gr ((gR rs nm).map λk:Nat=>D.int (k:Int)) ((0:Nat):Int)=À (.int (i:Int)):=bH (by rw[hnb];rfl);simp only[az,ak];rw[show(0:Int)=((0:Nat):Int) from rfl,this]
   have lM:∀H,aL [.con ((gR rs nm).map λk:Nat=>.int (k:Int))] H=.ok (.int (gR rs nm).length) H:=λH=>by simp only[aL,ak,Ú]
   have U1:=hfx H hf;have hpos:0<(gR rs nm).length:=č.mpr U0;by_cases h0:0<fu
   ·obtain⟨v,H1,u1,s1,l1,e1⟩:=dI hc hs;obtain⟨k,hk,ek⟩:=J9 (gR rs nm) U0 ∅ v;refine⟨k,H1,hk,λz=>∅,s1,u1,?_⟩;generalize D.con ((gR rs nm).map λk:Nat=>.int (k:Int))=NB at i0 lM ek |-;generalize cO n0 rs=S;generalize cD p=P;simp[i0,U1,h0,e1,lM,aO,hpos,ek]
   ·refine⟨i,H,by rw[hnb];simp,λ_=>rfl,hs,.refl hs,?_⟩;generalize D.con ((gR rs nm).map λk:Nat=>.int (k:Int))=NB at i0 lM |-;generalize cO n0 rs=S;generalize cD p=P;simp[i0,U1,h0,aO]
  obtain⟨n,H1,hn1,hn2,s1,u1,e1⟩:=hnum;obtain⟨r,hr,YF⟩:=J8 hn1;have N7:=sh.all r (ë hr);have hf1:=u1.get (õ dd.sf) hf;have hm1:=u1.get (õ dd.sm) hm;generalize nO:H1.set f (.lst [.int (fu-1)])=H2;have hf2:H2[f]?=À (.lst [.int (fu-1)]):=by rw[<- nO];exact eZ hf1
  have hm2:H2[mk]?=À (.aU Â (aE ms)):=by rw[<- nO,Í dd.fm];exact hm1
  have s2:aV s cs H2:=by rw[<- nO];exact s1.set (õ dd.sf)
  have hpm:p∉ms.map (·.1):=λz=>hfr p z (Ť p);generalize rR:H2.set mk (.aU Â (aE (ms++[(p,.int n)])))=H3;have Vy:H3[f]?=À (.lst [.int (fu-1)]):=by rw[<- rR,Í (õ dd.fm)];exact hf2
  have YQ:H3[mk]?=À (.aU Â (aE (ms++[(p,.int n)]))):=by rw[<- rR];exact eZ hm2
  have s3:aV s cs H3:=by rw[<- rR];exact s2.set (õ dd.sm)
  have l3:H3.length=H1.length:=by rw[<- rR,<- nO];simp
  have l1:=u1.len;have sl:=s3.lt;have fl:f<H3.length:=(Á.mp Vy).1;have ml:mk<H3.length:=(Á.mp YQ).1;obtain⟨nu,YR,H5,c1,c2,c3,c4,c5,c6⟩:=Dj hc dd.sf r N7.ok (fu-1) (s3.app (R:=[.lst []])) (aH Vy);have hlo:∀i∈r.its,0<=i.lo/\i.lo<=2:=λi hi=>⟨N7.ok.wf.lo i hi,(N7.it i hi).2.1⟩;obtain⟨row,H6,o1,o2,o3,o4,o5,o6⟩:=Gp hc r N7.ok.two hlo (fu-1) nu c1 c3;have hL4:(H3++[DO.lst []])[H3.length]?=À (.lst (dL [])):=by rw[dL];exact jW _ _ _
  have l5:=c5.len;have l6:=o5.len;simp at l5 c5;have kp:∀q o,q≠s->q≠f->q<H3.length+1->(H3++[DO.lst []])[q]?=À o->H6[q]?=À o:=λq o a b c e=>o5.keep q o (by rintro(h|h)<;>lia) (c5.keep q o (by rintro(h|h|h)<;>lia) e);have hL6:=kp H3.length _ ∅ ∅ ∅ hL4;have hm6:=kp mk _ (õ dd.sm) (õ dd.fm) ∅ (aH YQ);have hf6:H6[f]?=À (.lst [.int YR]):=o5.keep f _ (by rintro(h|h);exact dd.sf h.symm;lia) c4;have hBc:∃Bc:Nat,(∀(oK:Int)(i':Nat),oK<=fu-1->(fu<=0->i<i')->bnd oK i'<=Bc/\need oK i'<=N)/\1+row.length*Bc<=bnd fu i:=by
   unfold need at hN;by_cases h0:0<fu
   ·rw[Α h0]at hN;refine⟨sf (fu.toNat-1),λoK i' h1 _=>?_,?_⟩
    ·unfold bnd need;by_cases h2:0<oK
     ·rw[Α h2,Α h2];exact⟨zl ∅,∅⟩
     ·rw[Β h2,Β h2];exact⟨UX _ _ ∅,∅⟩
    ·unfold bnd;rw[Α h0];have e:fu.toNat=(fu.toNat-1)+1:=∅
     rw[e,sf,show fu.toNat-1+1-1=fu.toNat-1 by lia];have:=Ŵ (sf (fu.toNat-1)) o1;lia
   ·rw[Β h0]at hN;refine⟨s0 (3-i-1),λoK i' h1 h2=>?_,?_⟩
    ·have:=h2 ∅;unfold bnd need;rw[Β ∅,Β ∅];exact⟨En ∅,∅⟩
    ·unfold bnd;rw[Β h0];have e:3-i=(3-i-1)+1:=∅
     rw[e,s0,show 3-i-1+1-1=3-i-1 by lia];have:=Ŵ (s0 (3-i-1)) (o2 ∅);lia
  obtain⟨Bc,hB1,hB2⟩:=hBc;obtain⟨ts,oK,new,H7,vA,UZ,k1,k2,k3,k4,k5,k6,k7,k8,k9,Sk,VB,VC⟩:=xR dd (Eo hnl hnd hng n0 sh hc dd N) fu i Bc hB1 p ∅ H3.length ∅ ∅ ∅ (À (.str nm)) (À (.con ((gR rs nm).map λk:Nat=>.int (k:Int)))) (À (.int (n:Int))) (À (aJ r)) row 0 [] (ms++[(p,.int n)]) H6 YR Å Å (λx hx=>by
   obtain⟨it,hit,rfl,Xx⟩:=o3 x hx;obtain⟨i',hi',e'⟩:=ğ (N7.it it hit).1;by_cases h0:fu<=0
   ·have en:=hn2 h0;subst en;have ru:=sh.fst n r hil hr;obtain⟨i2,hi2,e2⟩:=ğ (ru.2.2 it hit (Xx ∅));refine⟨n+1+i2,?_,λ_=>∅⟩;rw[<- acK,Ê hi2,e2]
   ·exact⟨i',by rw[Ê hi',e'],λz=>(h0 z).elim⟩) ∅ (λkey hk j' _ hpre=>by
   rw[ñ,í]at hk;rcases hk with hk|hk
   ·exact hfr key hk (Ķ (Ĩ p [j']) hpre)
   ·simp at hk;subst hk;exact gQ hpre) (by simp;lia) (by simp;lia) o4 hf6 hm6 hL6
  rw[dL,á]at Sk;simp only[Ħ]at VC;refine⟨.nd r.kd ts,oK,(p,.int n)::new,H7,?_,?_,∅,?_,?_,k7,k8,?_,?_,?_⟩
  ·intro y hy;rw[T.subs]at hy;rcases Þ.mp hy with rfl|hy
   ·exact⟨N7.ok.sk,∅⟩
   ·exact k1 y hy
  ·rw[T.subs,Ñ];lia
  ·rw[T.subs,Ñ,Ñ,k5]
  ·intro y hy;rcases Þ.mp hy with rfl|hy
   ·exact Ť p
   ·obtain⟨j',_,h2⟩:=k6 y hy;exact Ķ (Ĩ p [j']) h2
  ·rw[show ms++(p,D.int (n:Int))::new=ms++[(p,.int n)]++new by simp];exact k9
  ·refine⟨by have:=VB.len;lia,λq o hq e=>?_⟩;have Sg:q<H.length:=(Á.mp e).1;have q1:q≠s:=λz=>hq (.inl z);have q2:q≠f:=λz=>hq (.inr (.inl z));have q3:q≠mk:=λz=>hq (.inr (.inr (.inl z)));have e1:=u1.get q1 e;have e2:H2[q]?=À o:=by rw[<- nO,Í (õ q2)];exact e1
   have e3:H3[q]?=À o:=by rw[<- rR,Í (õ q3)];exact e2
   have e6:=kp q o q1 q2 ∅ (aH e3);exact VB.keep q o (by rintro(h|h|h|h|h)<;>lia) e6
  ·have h0:(0:Nat)<=Ç:=é _;have hix:zq [D.int fu].length 0=À 0:=rfl;have Xy:=hfx H1 hf1;have Xz:jL (.int (fu-1)) (.obj f) (.int 0) H1=.ok .bw H2:=by unfold jL;k_go;rw[hf1];k_go;rw[hix];k_go;rw[<- nO];rfl
   have nP:∀G,az (cO n0 rs) (.int 1) G=.ok (.tup (rs.map aJ)) G:=λG=>by unfold cO;simp![qM]
   have Gm:∀G,az (.tup (rs.map aJ)) (.int n) G=.ok (aJ r) G:=λG=>by have:gr (rs.map aJ) (n:Int)=À (aJ r):=jI (by rw[Ö,hr];rfl);simp only[az,ak,this]
   have put:gA (.int n) (.obj mk) (cD p) H2=.ok .bw H3:=by
    have hb:1<=bnd fu i:=∅
    have h1:(aE ms).length<Ç:=Õ (by rw[ju];lia) (lz (n:=1000000) ∅);unfold gA;rw[mL];k_go;rw[hm2];k_go;rw[Α h1,qf,zd ms p _ hpm,rR]
   have ef:=qV (g:=gP 10 11) (body:=eF (bU N)) (xs:=row.map D.str) (τ:=[À (.obj s),À (cO n0 rs),À (.str nm),À (.obj f),À (cD p),À (.obj mk),À (.con ((gR rs nm).map λk:Nat=>.int (k:Int))),À (.int (n:Int)),À (aJ r),À (.obj H3.length),Å,Å]) (G:=H6);rw[VC]at ef;have RI:ak H6 (sD row)=À (.lst (row.map D.str)):=rfl;have Gw:lU (gP 10 11) (eF (bU N)) (nK (sD row)) ((row.map D.str).length+1) 0 [À (.obj s),À (cO n0 rs),À (.str nm),À (.obj f),À (cD p),À (.obj mk),À (.con ((gR rs nm).map λk:Nat=>.int (k:Int))),À (.int (n:Int)),À (aJ r),À (.obj H3.length),Å,Å] H6=.nx [À (.obj s),À (cO n0 rs),À (.str nm),À (.obj f),À (cD p),À (.obj mk),À (.con ((gR rs nm).map λk:Nat=>.int (k:Int))),À (.int (n:Int)),À (aJ r),À (.obj H3.length),vA,UZ] H7:=ef;have YS:=zk r;have hdl:(dL ts).length<=Ç:=lz (by rw[jT,Ú];lia);have z2:(2:Nat)<=Ç:=lz ∅;rw[bU,T.d];rw[bG];have hb:iJ (bU N)=au (aA 6 (eFn (cT e7 oN [Â,Ä,Ä] (af (ai aL (af (aj az (aa 1) (eC (.int 1))) (ah))) (ah)) (b8 (aj (e8 Â) (aj az (aj az (aj az (aa 2) (eC (.int 1))) (aa 0)) (eC (.int 0))) (aa 3))) (aa 0)))) (i8 (bU N)):=rfl;rw[hb];generalize hE:eFn (cT e7 oN [Â,Ä,Ä] (af (ai aL (af (aj az (aa 1) (eC (.int 1))) (ah))) (ah)) (b8 (aj (e8 Â) (aj az (aj az (aj az (aa 2) (eC (.int 1))) (aa 0)) (eC (.int 0))) (aa 3))) (aa 0))=E at nb |-;generalize row.map D.str=RL at Gw RI;generalize sD row=RW at o6 Gw RI;generalize D.con ((gR rs nm).map λk:Nat=>.int (k:Int))=NB at nb e1 Gw |-;generalize rs.map aJ=RS at nP Gm;generalize cO n0 rs=S at nb e1 nP Gw |-;generalize cD p=P at nb e1 put Gw |-;generalize aJ r=R at Gm c6 o6 YS Gw;generalize D.con (nu.map .int)=CT at c6 o6;have wA:∀K:MS,au (aA 7 (aj az (aa 6) (eC (.int 0)))) (au (jb (b8 (aj kK (aj az (aa 3) (eC (.int 0))) (eC (.int 0)))) (aA 7 (aj az (aa 6) (aj aR (aC 1 ao (af (aa 0) (ah))) (ai aL (af (aa 6) (ah)))))) (bD)) K) [À (.obj s),À S,À (.str nm),À (.obj f),À P,À (.obj mk),À NB,Å,Å,Å,Å,Å] H=K [À (.obj s),À S,À (.str nm),À (.obj f),À P,À (.obj mk),À NB,À (.int (n:Int)),Å,Å,Å,Å] H1:=by
    intro K;generalize hA:aA 7 (aj az (aa 6) (eC (.int 0)))=A at e1 |-;generalize hB:jb (b8 (aj kK (aj az (aa 3) (eC (.int 0))) (eC (.int 0)))) (aA 7 (aj az (aa 6) (aj aR (aC 1 ao (af (aa 0) (ah))) (ai aL (af (aa 6) (ah)))))) (bD)=B at e1 |-;rw[f6]at e1 |-;cases hq:A [À (.obj s),À S,À (.str nm),À (.obj f),À P,À (.obj mk),À NB,Å,Å,Å,Å,Å] H with
    |nx τ G=>rw[hq,gw]at e1;rw[gw,f6,e1,gw]
    |stuck=>rw[hq]at e1;cases e1
    |rt d G=>rw[hq]at e1;cases e1
    |bk τ G=>rw[hq]at e1;cases e1
    |ct τ G=>rw[hq]at e1;cases e1
    |xn c τ G=>rw[hq]at e1;cases e1
   simp_all! [nb]
   unfold i8;rw[wA]
   simp_all! [mD,Xy,aO]
   rw[Xz]
   simp_all! [kg,nP,Gm,uC,put,aN,Α h0]
   simp_all! [gx,kr,c6,o6,RI,Gw]
   simp_all! [YS,fZ,ak,Sk,aZ,Α hdl,Α (show 0+1+1<=Ç from z2)]
theorem RJ{f:Int}(h:f<=5):bnd f 0<900000:=by
 have a:sf 5<900000:=by decide
 unfold bnd;split
 ·exact Nat.lt_of_le_of_lt (zl ∅) a
 ·have:s0 (3-0)=21:=by decide
  lia
theorem Ka{names:P3}(w:names.length<=3)(B:names.Nodup)(z:∀x∈names,Ð x=Ä){n0:Str}(h0:names[0]?=À n0){r:List dw}(U:Nc names r){k:D2}(P:jU k){s:Nat}(a:Int)(b:a<=5){H:DH}(n:aV s k H):
  ∃(t:T)(ms:PD)(mk:Nat)(H':DH),vU t/\ms.length=t.subs.length/\aV s k H'/\H'[mk]?=À (.aU Â (aE ms))/\Fp (λq=>q=s\/H.length<=q) H H'/\gm [.obj s,cO n0 r,.int a,.int 8] H=.ok (.tup [t.d,.obj mk]) H':=by
 have y:=n.lt;have Z:(1:Nat)<=Ç:=lz ∅;have I:(2:Nat)<=Ç:=lz ∅;have K:(0:Nat)<=Ç:=é _;have i:∀G,az (cO n0 r) (.int 0) G=.ok (.str n0) G:=λG=>by unfold cO;simp![uL]
 have m:∀(a:Int),a<=5->need a 0<=12:=λa h=>by unfold need;split<;>lia
 have Z7:cD []=D.tup []:=rfl;have l:∀(a:Int)(H:DH),a<=5->aV s k H->∃(t:T)(ms:PD)(H':DH),vU t/\ms.length=t.subs.length/\aV s k H'/\H'[H.length]?=À (.aU Â (aE ms))/\Fp (λq=>q=s\/H.length<=q) H H'/\bU 12 [.obj s,cO n0 r,.str n0,.obj (H.length+1),.tup [],.obj H.length] (H++[.aU Â [],.lst [.int a]])=.ok t.d H':=by intro a H b n;have y:=n.lt;have g:=Eo w B z n0 U P (s:=s) (f:=H.length+1) (mk:=H.length) ⟨∅,∅,∅⟩ 12;obtain⟨t,oK,v,H',t1,t2,t3,t4,t5,t6,t7,F,J,Sj⟩:=g n0 0 a [] [] (H++[.aU Â [],.lst [.int a]]) h0 (m a b) (by simp) (by simp) (by have:=RJ b;simp;lia) n.app (by rw[Ò ∅];simp) (by rw[jW];rfl);rw[á]at F;refine⟨t,v,H',t1,t4,t6,F,⟨by have:=J.len;simp at this;lia,λq o p e=>?_⟩,Sj⟩;have Sg:q<H.length:=(Á.mp e).1;exact J.keep q o (by rintro(h|h|h|h);exact p (.inl h);lia;lia;simp at h;lia) (aH e)
 obtain⟨t,ms,j,a1,a2,L,E,u,c⟩:=l a H b n;have N:iT [.obj H.length] j=.ok (.int ms.length) j:=by simp only[iT,E,ju]
 have dn:∀(H:DH)(d:D),aN [d] (H++[.aU Â []])=.ok (.obj (H.length+1)) (H++[.aU Â [],.lst [d]]):=λH d=>by simp[aN,Z]
 by_cases M:(8:Int)<(ms.length:Int)
 ·obtain⟨t',A,H2,R,V,b3,Y,O,C⟩:=l 0 j ∅ L;refine⟨t',A,j.length,H2,R,V,b3,Y,?_,?_⟩
  ·exact⟨ú u.len O.len,λq o p e=>O.keep q o (by rintro(h|h);exact p (.inl h);have:=(Á.mp e).1;have:=u.len;lia) (u.keep q o p e)⟩
  ·have X:=dn H (.int a);have W:=dn j (.int 0);generalize cO n0 r=S at i c C |-;generalize t.d=Q at c;generalize t'.d=td' at C |-;unfold gm;rw[bG];unfold jH lH
   simp_all! [kB,i,X,aZ,Α K,c]
   simp_all! [N,aO,decide_eq_true M,kB,i,W,aZ,Α K,C,Α (show 0+1+1<=Ç from I)]
 ·refine⟨t,ms,H.length,j,a1,a2,L,E,u,?_⟩;have X:=dn H (.int a);generalize cO n0 r=S at i c |-;generalize t.d=Q at c |-;unfold gm;rw[bG];unfold jH
  simp_all! [kB,i,X,aZ,Α K,c]
  simp_all! [N,aO,decide_eq_false M,aZ,Α (show 0+1+1<=Ç from I)]
def ja(p:Nat->Nat)(n i:Nat):List Nat:=(ç 1 (n-1)).filter λj=>p j==i
theorem sum_filter(f:Nat->Nat)(p:Nat->Bool):∀l:List Nat,((l.filter p).map f).sum=(l.map λj=>if p j=Ä then f j else 0).sum
 |[]=>rfl
 |x::l=>by
  by_cases h:p x=Ä
  ·rw[ę h,É,ľ,sum_filter f p l,É,ľ,Α h]
  ·rw[ń h,sum_filter f p l,É,ľ,Β h];lia
theorem xS(f:Nat->Nat)(p:Nat->Nat)(m:Nat):∀l:List Nat,(l.map λj=>if p j<m+1 then f j else 0).sum=(l.map λj=>if p j<m then f j else 0).sum+(l.map λj=>if (p j==m)=Ä then f j else 0).sum
 |[]=>rfl
 |x::l=>by
  simp only[É,ľ,xS f p m l];by_cases h:p x<m
  ·rw[Α ∅,Α h,Β (by simp;lia)];lia
  ·by_cases a:p x=m
   ·rw[Α ∅,Β h,Α ‹a›];lia
   ·rw[Β ∅,Β h,Β ‹a›];lia
theorem xT(f:Nat->Nat):∀(l:List Nat),(∀j∈l,f j=0)->(l.map f).sum=0
 |[],_=>rfl
 |x::l,h=>by rw[É,ľ,h x (by simp),xT f l λj a=>h j (by simp[a])]
theorem Ep(p:Nat->Nat)(h:∀j,1<=j->p j<j)(n m:Nat)(b:m<n)(f:Nat->Nat):((ja p n m).map f).sum=((ç (m+1) (n-(m+1))).map λj=>if (p j==m)=Ä then f j else 0).sum:=by
 unfold ja;rw[sum_filter];have e:ç 1 (n-1)=ç 1 m++ç (1+m) (n-1-m):=by rw[List.range'_append_1,show m+(n-1-m)=n-1 by lia]
 rw[e,ñ,ab1,xT _ (ç 1 m) (λj a=>by rw[Ņ]at a;have:=h j ∅;rw[Β (by simp;lia)]),Ħ,acN 1 m,show n-1-m=n-(m+1) by lia]
theorem xU(p:Nat->Nat)(a:∀j,1<=j->p j<j)(n:Nat)(f:Nat->Nat)(d:∀i,i<n->f i=1+((ja p n i).map f).sum):∀(k m:Nat),m+k=n->1<=m->((ç m (n-m)).map λj=>if p j<m then f j else 0).sum=n-m
 |0,m,h,c=>by rw[show n-m=0 by lia];rfl
 |k+1,m,h,c=>by have b:=xU p a n f d k (m+1) ∅ ∅;rw[xS f p m]at b;have g:=Ep p a n m ∅ f;have e:=d m ∅;rw[g]at e;rw[show n-m=(n-(m+1))+1 by lia,aaN,É,ľ,Α (a m c)];generalize((ç (m+1) (n-(m+1))).map λj=>if (p j==m)=Ä then f j else 0).sum=A at b e;generalize((ç (m+1) (n-(m+1))).map λj=>if p j<m then f j else 0).sum=B at b |-;lia
theorem Kc(p:Nat->Nat)(a:∀j,1<=j->p j<j)(n:Nat)(g:1<=n)(f:Nat->Nat)(b:∀i,i<n->f i=1+((ja p n i).map f).sum):f 0=n:=by
 have d:=xU p a n f b (n-1) 1 ∅ (È _);have c:=Ep p a n 0 ∅ f;rw[b 0 ∅,c];have e:((ç (0+1) (n-(0+1))).map λj=>if (p j==0)=Ä then f j else 0).sum=((ç 1 (n-1)).map λj=>if p j<1 then f j else 0).sum:=by
  congr 1;apply ĵ;intro j _;by_cases h:p j=0
  ·rw[Α ‹h›,Α ∅]
  ·rw[Β ‹h›,Β ∅]
 rw[e,d];lia
theorem zm{p:Nat->Nat}{n i j:Nat}(h:j∈ja p n i):1<=j/\j<n/\p j=i:=by unfold ja at h;obtain⟨a,b⟩:=Ĥ.mp h;rw[Ņ]at a;exact⟨∅,∅,‹b›⟩
theorem xV(t:Nat->T):∀l:List Nat,(br (l.map t)).length=(l.map λj=>(t j).subs.length).sum
 |[]=>by rw[ė,br];rfl
 |j::l=>by rw[É,br,Û,xV t l,É,ľ]
theorem xW{t:Nat->T}:∀{l:List Nat}{s:T},s∈br (l.map t)->∃j∈l,s∈(t j).subs
 |[],s,h=>by rw[ė,br]at h;simp at h
 |j::l,s,h=>by
  rw[É,br]at h;rcases í.mp h with h|h
  ·exact⟨j,by simp,h⟩
  ·obtain⟨i,a,h⟩:=xW h;exact⟨i,by simp[a],h⟩
def ad(g i:Nat):Nat:=if i=0 then g+1 else g+2+i
theorem RM{g i j:Nat}(h:ad g i=ad g j):i=j:=by unfold ad at h;split at h<;>split at h<;>lia
theorem Bt{g i:Nat}:ad g i≠g/\ad g i≠g+2:=by unfold ad;split<;>lia
structure AT(G:DH)(k:Nat)(par:Nat->Nat)(so:P3)(H:DH):Prop where
 pre:H.take G.length=G
 len:H.length=G.length+2+k
 ss:H[G.length]?=À (.lst (so.map .str))
 sl:so.length=k
 sg:∀x∈so,Ð x=Ä
 ps:H[G.length+2]?=À (.lst ((ø k).map λi=>.obj (ad G.length i)))
 kid:∀i,i<k->H[ad G.length i]?=À (.lst ((ja par k i).map λj:Nat=>.int (j:Int)))
 three:∀i,i<k->(ja par k i).length<=3
 hp:∀j,1<=j->par j<j
theorem Kd{p:Nat->Nat}(a:∀j,1<=j->p j<j){k:Nat}(b:1<=k):ja p k (k-1)=[]:=by unfold ja;rw[ĳ];intro j h;rw[Ņ]at h;have:=a j ∅;simp;lia
theorem Ke{p:Nat->Nat}{k a i:Nat}(c:1<=k):ja (λj=>if j=k then a else p j) (k+1) i=ja p k i++(if a=i then [k] else []):=by
 unfold ja;rw[show k+1-1=(k-1)+1 by lia,List.range'_concat,acJ];congr 1
 ·apply List.filter_congr;intro j b;rw[Ņ]at b;have h:j≠k:=∅
  simp[h]
 ·rw[show 1+1*(k-1)=k by lia];by_cases e:a=i
  ·simp[e]
  ·have:(a==i)=Â:=‹e›
   simp[this,e]
theorem Kf{G:DH}{k:Nat}{p:Nat->Nat}{s:P3}{H:DH}(h:AT G k p s H){a:Nat}(b:a<k):az (.obj (G.length+2)) (.int (a:Int)) H=.ok (.obj (ad G.length a)) H:=by have:gr ((ø k).map λi=>D.obj (ad G.length i)) (a:Int)=À (.obj (ad G.length a)):=bH (by rw[Ö,ş b];rfl);simp only[az,ak,h.ps,this]
theorem vj{G:DH}{k:Nat}{p:Nat->Nat}{z:P3}{H:DH}(h:AT G k p z H)(u:1<=k)(g f b c i:X9):∀(d a:Nat),a<k->k-a<=d->∀m,d<=m ->
  ∃j,j<k/\(ja p k j).length≠3/\dJ (b8 (aj (e8 Â) (ai aL (af (aj az (aa 3) (aa 5)) (ah))) (eC (.int 3)))) cW m [g,f,b,À (.obj (G.length+2)),c,À (.int (a:Int)),i] H=.nx [g,f,b,À (.obj (G.length+2)),c,À (.int (j:Int)),i] H
 |0,a,l,t,m,v=>∅
 |d+1,a,l,t,0,v=>∅
 |d+1,a,l,t,m+1,v=>by
  have q:=Kf h l;have x:aL [.obj (ad G.length a)] H=.ok (.int (ja p k a).length) H:=by simp only[aL,ak,h.kid a l,Ú]
  have r:=kR Â ((ja p k a).length:Int) 3 H;rw[Ų]at r;have o:b8 (aj (e8 Â) (ai aL (af (aj az (aa 3) (aa 5)) (ah))) (eC (.int 3))) [g,f,b,À (.obj (G.length+2)),c,À (.int (a:Int)),i] H=.ok ((ja p k a).length==3) H:=by
   have y:(((ja p k a).length:Int)==3)=((ja p k a).length==3):=by apply Ň.mpr;rw[beq_iff_eq,beq_iff_eq];lia
   rw[y]at r
   simp_all! [q,x,r]
  by_cases n:(ja p k a).length=3
  ·have J:=Kd h.hp u;have w:a≠k-1:=λe=>by rw[e,J]at n;simp at n
   obtain⟨j,k1,k2,k3⟩:=vj h u g f b c i d (a+1) ∅ ∅ m ∅;refine⟨j,k1,k2,?_⟩;rw[show((ja p k a).length==3)=Ä by simpa using n]at o;have s:cW [g,f,b,À (.obj (G.length+2)),c,À (.int (a:Int)),i] H=.nx [g,f,b,À (.obj (G.length+2)),c,À (.int ((a+1:Nat):Int)),i] H:=by
    unfold cW
    simp_all! [jx]
    rfl
   rw[kh,o,Cd,Ip,s,cV,k3]
  ·refine⟨a,l,n,?_⟩;rw[show((ja p k a).length==3)=Â by simpa using n]at o;rw[kh,o,Ce,mY]
theorem Kg{G:DH}{k:Nat}{par:Nat->Nat}{so:P3}{H:DH}(h:AT G k par so H)(hk:1<=k)(hk9:k<=100)(cells:D2)(c:Int)(hck:cells[k]?=À c)(kinds:P3)(l7:kinds.length=2)(zx:∀x∈kinds,Ð x=Ä)(o5 o6:X9):
  ∃(par':Nat->Nat)(so':P3)(H':DH)(p5:X9),AT G (k+1) par' so' H'/\dW [À (.con (cells.map .int)),À (sD kinds),À (.obj G.length),À (.obj (G.length+2)),À (.int (k:Int)),o5,o6] H=.nx [À (.con (cells.map .int)),À (sD kinds),À (.obj G.length),À (.obj (G.length+2)),À (.int (k:Int)),p5,o6] H':=by
 have b0:0<=c/8%(k:Int):=aab _ ∅;have b1:c/8%(k:Int)<(k:Int):=Ū _ ∅;obtain⟨a,ha,h3,ew⟩:=vj h hk (À (.con (cells.map .int))) (À (sD kinds)) (À (.obj G.length)) (À (.int (k:Int))) o6 (k-(c/8%(k:Int)).toNat) (c/8%(k:Int)).toNat ∅ (È _) fuel (by unfold fuel;lia);rw[acy b0]at ew;obtain⟨x,hx,ex⟩:=kD kinds (by intro e;rw[e]at l7;simp at l7) ∅ c;rw[l7]at ex;have Sl:∀H,az (.con (cells.map .int)) (.int (k:Int)) H=.ok (.int c) H:=λH=>by have:gr (cells.map D.int) (k:Int)=À (.int c):=jI (by rw[Ö,hck];rfl);simp only[az,ak,this]
 have hlen:=h.len;have aaG:=h.three a ha;generalize Gb:H.set G.length (.lst ((so++[x]).map .str))=H1;have l1:H1.length=G.length+2+k:=by rw[<- Gb];simp[hlen]
 have hp1:H1[G.length+2]?=À (.lst ((ø k).map λi=>.obj (ad G.length i))):=by rw[<- Gb,Í ∅];exact h.ps
 have hk1:∀i,i<k->H1[ad G.length i]?=À (.lst ((ja par k i).map λj:Nat=>.int (j:Int))):=λi hi=>by rw[<- Gb,Í (õ Bt.1)];exact h.kid i hi
 have U3:ad G.length k=H1.length:=by unfold ad;rw[Β ∅,l1]
 generalize rR:(H1++[DO.lst []]).set (G.length+2) (.lst ((ø (k+1)).map λi=>.obj (ad G.length i)))=H3;have l3:H3.length=G.length+2+(k+1):=by rw[<- rR];simp[l1];lia
 have XC:∀i,i<k->H3[ad G.length i]?=À (.lst ((ja par k i).map λj:Nat=>.int (j:Int))):=λi hi=>by rw[<- rR,Í (õ Bt.2)];exact aH (hk1 i hi)
 have XE:H3[ad G.length k]?=À (.lst []):=by rw[<- rR,Í (õ Bt.2),U3];exact jW _ _ _
 generalize Nd:H3.set (ad G.length a) (.lst ((ja par k a++[k]).map λj:Nat=>.int (j:Int)))=H4;have hnk:∀i,ja (λj=>if j=k then a else par j) (k+1) i=ja par k i++(if a=i then [k] else []):=λi=>Ke hk;have N9:ja par k k=[]:=by unfold ja;rw[ĳ];intro j hj;rw[Ņ]at hj;have:=h.hp j ∅;simp;lia
 have hsz:so.length<Ç:=Õ (by rw[h.sl];lia) (lz (n:=1001) ∅);have hkz:k<Ç:=Õ ∅ (lz (n:=1001) ∅);have UP:(ja par k a).length<Ç:=Õ ∅ (lz (n:=1001) ∅);refine⟨λj=>if j=k then a else par j,so++[x],H4,À (.int (a:Int)),⟨?_,by rw[<- Nd];simp[l3],?_,by simp[h.sl],?_,?_,?_,?_,?_⟩,?_⟩
 ·have hpre:=h.pre;rw[<- Nd,<- rR,<- Gb];have XF:G.length<=ad G.length a:=by unfold ad;split<;>lia
  rw[Ĵ XF,Ĵ ∅,Ł (by simp;lia),Ĵ (È _)];exact hpre
 ·rw[<- Nd,Í Bt.1,<- rR,Í ∅];apply aH;rw[<- Gb];have:=h.ss;exact eZ this
 ·intro y hy;rcases í.mp hy with hy|hy
  ·exact h.sg y hy
  ·rw[è.mp hy];exact zx x hx
 ·rw[<- Nd,Í Bt.2,<- rR];exact eZ (aH hp1)
 ·intro i hi;rw[hnk];by_cases e:a=i
  ·x_go;rw[Α rfl,<- Nd];exact eZ (XC a ha)
  ·rw[Β e,ó,<- Nd,Í (λz=>e (RM z))];by_cases hik:i=k
   ·subst hik;rw[XE,N9];rfl
   ·exact XC i ∅
 ·intro i hi;rw[hnk];by_cases e:a=i
  ·x_go;rw[Α rfl,Û];simp;lia
  ·rw[Β e,ó];by_cases hik:i=k
   ·subst hik;rw[N9];simp
   ·exact h.three i ∅
 ·intro j hj;show(if j=k then a else par j)<j;by_cases e:j=k
  ·rw[Α e];lia
  ·rw[Β e];exact h.hp j hj
 ·have hss:=h.ss;have hps:=h.ps;have hpx:az (.obj (G.length+2)) (.int (a:Int)) H3=.ok (.obj (ad G.length a)) H3:=by
   have h2:H3[G.length+2]?=À (.lst ((ø (k+1)).map λi=>.obj (ad G.length i))):=by rw[<- rR];exact eZ (aH hp1)
   have:gr ((ø (k+1)).map λi=>D.obj (ad G.length i)) (a:Int)=À (.obj (ad G.length a)):=bH (by rw[Ö,ş ∅];rfl);simp only[az,ak,h2,this]
  have RN:=XC a ha;have e1:(so++[x]).map D.str=so.map .str++[.str x]:=by simp
  have e3:(ø (k+1)).map (λi=>D.obj (ad G.length i))=(ø k).map (λi=>D.obj (ad G.length i))++[.obj H1.length]:=by rw[adg,ñ,<- U3];rfl
  have e4:(ja par k a++[k]).map (λj:Nat=>D.int (j:Int))=(ja par k a).map (λj:Nat=>D.int (j:Int))++[.int (k:Int)]:=by simp
  rw[e1]at Gb;rw[e3]at rR;rw[e4]at Nd;have U4:(H1++[DO.lst []])[G.length+2]?=À (.lst ((ø k).map λi=>.obj (ad G.length i))):=aH hp1;have KG:(0:Nat)<=Ç:=é _;have hlr:((ø k).map λi=>D.obj (ad G.length i)).length<Ç:=‹hkz›
  have VD:((ja par k a).map λj:Nat=>D.int (j:Int)).length<Ç:=‹UP›
  have hls:(so.map D.str).length<Ç:=‹hsz›
  have hk0:decide ((0:Int)<(k:Int))=Ä:=decide_eq_true ∅;have ec2:∀H:DH,(aO (λ_ j=>decide (0<j)) (λi j=>.int (i%j)) (.int c) (.int 2)) H=.ok (.int (c%((2:Nat):Int))) H:=λH=>rfl;generalize D.con (cells.map .int)=CE at Sl ew |-;generalize sD kinds=KI at ex ew |-;generalize(ø k).map (λi=>D.obj (ad G.length i))=RK at hp1 U4 rR hlr hps;generalize(ja par k a).map (λj:Nat=>D.int (j:Int))=CK at RN Nd VD;unfold dW g8;have st1:aj aR (aj bI (aj az (aa 0) (aa 4)) (eC (.int 8))) (aa 4) [À CE,À KI,À (.obj G.length),À (.obj (G.length+2)),À (.int (k:Int)),o5,o6] H=.ok (.int (c/8%(k:Int))) H:=by
   have hkp:0<k:=∅
   simp[Sl,aO,hkp]
  have st2:∀H:DH,aj az (aa 1) (aj aR (aj az (aa 0) (aa 4)) (eC (.int 2))) [À CE,À KI,À (.obj G.length),À (.obj (G.length+2)),À (.int (k:Int)),À (.int (a:Int)),o6] H=.ok (.str x) H:=λH=>by have ex':az KI (.int (c%2)) H=.ok (.str x) H:=ex H;simp[Sl,aO,ex']
  generalize hW:dJ (b8 (aj (e8 Â) (ai aL (af (aj az (aa 3) (aa 5)) (ah))) (eC (.int 3)))) cW fuel=W at ew |-;generalize hE1:aj aR (aj bI (aj az (aa 0) (aa 4)) (eC (.int 8))) (aa 4)=E1 at st1 |-;generalize hE2:aj az (aa 1) (aj aR (aj az (aa 0) (aa 4)) (eC (.int 2)))=E2 at st2 |-
  simp_all! [st1,ew,jD,jh,c7,hss,beq_self_eq_true,st2,aP,Α hls,Gb,kg,hp1]
  have dap:aP (.obj (G.length+2)) [.obj H1.length] (H1++[.lst []])=.ok .bw H3:=by simp only[aP,U4,Α hlr,rR]
  have XG:aP (.obj (ad G.length a)) [.int (k:Int)] H3=.ok .bw H4:=by simp only[aP,RN,Α VD,Nd]
  simp_all! [aN,Α KG]
  rw[dap]
  simp_all! [kg,jD,jh,hpx,c7,RN,beq_self_eq_true,XG]
theorem Bu{G:DH}(cells:D2)(kinds:P3)(l7:kinds.length=2)(zx:∀x∈kinds,Ð x=Ä)(o6:X9):∀(m k:Nat)(par:Nat->Nat)(so:P3)(H:DH)(o4 o5:X9),1<=k->k+m=cells.length->cells.length<=100->AT G k par so H ->
  ∃(par':Nat->Nat)(so':P3)(H':DH)(p4 p5:X9),AT G cells.length par' so' H'/\aT (gN 4) dW ((ç k m).map λj:Nat=>.int (j:Int)) [À (.con (cells.map .int)),À (sD kinds),À (.obj G.length),À (.obj (G.length+2)),o4,o5,o6] H=.nx [À (.con (cells.map .int)),À (sD kinds),À (.obj G.length),À (.obj (G.length+2)),p4,p5,o6] H'
 |0,k,par,so,H,o4,o5,hk,hm,hc,h=>⟨par,so,H,o4,o5,by rw[<- hm];exact h,by simp[aT]⟩
 |m+1,k,par,so,H,o4,o5,hk,hm,hc,h=>by have hck:cells[k]?=À (cells[k]'∅):=Ê ∅;obtain⟨XH,so1,H1,q5,h1,e1⟩:=Kg h hk ∅ cells _ hck kinds l7 zx o5 o6;obtain⟨par',so',H',p4,p5,h2,e2⟩:=Bu cells kinds l7 zx o6 m (k+1) XH so1 H1 (À (.int (k:Int))) q5 ∅ ∅ hc h1;refine⟨par',so',H',p4,p5,h2,?_⟩;rw[aaN,É,aY rfl];simp only[Ü,Ý,e1,cV];exact e2
def dn:Nat->X2
 |0=>[]
 |m+1=>.int (m:Nat)::dn m
theorem Oa(n:Nat):∀(m s:Nat),s+m=n->(ç s m).map (λ(i:Nat)=>D.int ((n:Int)-1+(i:Int)*(-1)))=dn m
 |0,s,_=>by simp[dn]
 |m+1,s,h=>by
  rw[aaN,É,Oa n m (s+1) ∅,dn];have:(n:Int)-1+(s:Int)*(-1)=(m:Int):=∅
  rw[this]
theorem RO{g:jV}{body:MS}{τ:DS}{G:DH}(n:Nat):lU g body (Cn ((n:Int)-1) (-1) n) (n+1) 0 τ G=aT g body (dn n) τ G:=by
 have:=iF (g:=g) (body:=body) (xs:=(ø n).map λ(i:Nat)=>D.int ((n:Int)-1+(i:Int)*(-1))) (vw:=Cn ((n:Int)-1) (-1) n) (λG i h=>by
  simp only[Cn,Ö];by_cases a:i<n
  ·rw[Α a,ş a];rfl
  ·rw[Β a,ö (by simp;lia)];rfl) (n+1) 0 τ G (by simp) (by simp)
 rw[this,aaB,acj,Oa n n 0 ∅]
structure TR(n m:Nat)(par:Nat->Nat)(so:P3)(tr:Nat->T)(ts:X2):Prop where
 len:ts.length=n
 get:∀j,m<=j->j<n->ts[j]?=À (tr j).d
 sub:∀j,m<=j->j<n->∃k,so[j]?=À k/\tr j=.nd k ((ja par n j).map tr)
theorem Kh(js:List Nat)(i:js.length<=100)(tr:Nat->T)(t:X2)(p:∀j∈js,t[j]?=À (tr j).d)(A L:Nat)(H:DH)(q:H[A]?=À (.lst (js.map λj:Nat=>.int (j:Int))))(u:H[L]?=À (.lst t))(k:Nat)(h g b a:X9)(P:Nat)(s:az (.obj P) (.int (k:Int)) H=.ok (.obj A) H):
  eFn (dD oN [Â,Â,Â,Â,Â,Â,Ä] (aj az (aa 3) (aa 4)) (bM) (aj az (aa 7) (aa 0))) [h,g,b,À (.obj P),À (.int (k:Int)),a,À (.obj L)] H=.ok (.con (dL (js.map tr))) H:=by
 have te:∀j∈js,∀acc,aj az (aa 7) (aa 0) (([D.int (j:Int)].map À)++mask [Â,Â,Â,Â,Â,Â,Ä] [h,g,b,À (.obj P),À (.int (k:Int)),a,À (.obj L)]) (H++[.lst acc])=.ok (tr j).d (H++[.lst acc]):=λj i acc=>by
  have m:(H++[DO.lst acc])[L]?=À (.lst t):=aH u;have v:gr t (j:Int)=À (tr j).d:=jI (p j i);have l:az (.obj L) (.int (j:Int)) (H++[.lst acc])=.ok (tr j).d (H++[.lst acc]):=by simp only[az,ak,m,v]
  generalize(tr j).d=td at l |-;simp[mask,l]
 have Y:=bF (τ:=[h,g,b,À (.obj P),À (.int (k:Int)),a,À (.obj L)]) (G:=H) (gO:=oN) (ks:=[Â,Â,Â,Â,Â,Â,Ä]) (tt:=bM) (te:=aj az (aa 7) (aa 0)) (own:=λj:Nat=>[.int (j:Int)]) (dat:=λj=>.int (j:Int)) (f:=λj=>(tr j).d) (c:=λ_=>Ä) js [] (by simp;lia) (λx _=>rfl) (λx B acc=>by first|rfl|simp[bM]) te;rw[á,ġ.mpr (λ_ _=>rfl)]at Y;have r:=yx (gO:=oN) (ks:=[Â,Â,Â,Â,Â,Â,Ä]) (tt:=bM) (te:=aj az (aa 7) (aa 0)) (n:=H.length) (src:=A) (τ:=[h,g,b,À (.obj P),À (.int (k:Int)),a,À (.obj L)]) (xs:=js.map λj:Nat=>.int (j:Int)) (λK=>∃acc,K=H++[.lst acc]) (λK ⟨acc,e⟩=>by rw[e];exact aH q) (λK d z l ⟨acc,e⟩ hs=>by
  obtain⟨j,i,rfl⟩:=ê.mp l;rw[e]at hs;have y:=te j i acc;unfold cG at hs;dsimp only[oN]at hs;have w:bM (([D.int (j:Int)].map À)++mask [Â,Â,Â,Â,Â,Â,Ä] [h,g,b,À (.obj P),À (.int (k:Int)),a,À (.obj L)]) (H++[.lst acc])=.ok Ä (H++[.lst acc]):=rfl;rw[w]at hs;dsimp only at hs;rw[y]at hs;dsimp only at hs;rw[jW]at hs;dsimp only at hs;split at hs
  ·cases hs;exact⟨acc++[(tr j).d],by rw[Cc]⟩
  ·cases hs) ((js.map λj:Nat=>D.int (j:Int)).length+1) 0 (H++[.lst []]) (by simp) (by simp) ⟨[],rfl⟩
 rw[aaB,Y]at r;have es:dL (js.map tr)=js.map λj=>(tr j).d:=by rw[jT,ā];rfl
 have o:aG (js.map λj=>(tr j).d)=Ä:=aB λ_=>qh _;rw[es]
 simp_all! [cI,m5,s,q]
 rw[r,eX o]
theorem Er{G:DH}{n:Nat}{par:Nat->Nat}{so:P3}(hp:∀j,1<=j->par j<j)(hsl:so.length=n)(hn:n<=100)(h3:∀i,i<n->(ja par n i).length<=3)(Lt:Nat)(hLt:G.length+2+n<=Lt)(c0 c1 c5:X9):∀(m:Nat),m<=n->∀(tr:Nat->T)(ts:X2)(H:DH)(o4:X9),TR n m par so tr ts->H.take G.length=G->H[G.length]?=À (.lst (so.map .str))->H[G.length+2]?=À (.lst ((ø n).map λi=>.obj (ad G.length i)))->(∀i,i<n->H[ad G.length i]?=À (.lst ((ja par n i).map λj:Nat=>.int (j:Int))))->H[Lt]?=À (.lst ts) ->
  ∃(XI:Nat->T)(ts':X2)(H':DH)(p4:X9),TR n 0 par so XI ts'/\H'.take G.length=G/\H'[Lt]?=À (.lst ts')/\aT (gN 4) cX (dn m) [c0,c1,À (.obj G.length),À (.obj (G.length+2)),o4,c5,À (.obj Lt)] H=.nx [c0,c1,À (.obj G.length),À (.obj (G.length+2)),p4,c5,À (.obj Lt)] H'
 |0,hm,tr,ts,H,o4,ht,hpre,hS,hP,hK,hT=>⟨tr,ts,H,o4,ht,hpre,hT,by simp[aT,dn]⟩
 |m+1,hm,tr,ts,H,o4,ht,hpre,hS,hP,hK,hT=>by
  have hmn:m<n:=∅
  have hsm:so[m]?=À (so[m]'∅):=Ê ∅;generalize so[m]'∅=sk at hsm;have hlt:∀j∈ja par n m,m+1<=j/\j<n:=λj hj=>by obtain⟨a,b,c⟩:=zm hj;have:=hp j a;lia
  have hix:az (.obj (G.length+2)) (.int (m:Int)) H=.ok (.obj (ad G.length m)) H:=by have:gr ((ø n).map λi=>D.obj (ad G.length i)) (m:Int)=À (.obj (ad G.length m)):=bH (by rw[Ö,ş hmn];rfl);simp only[az,ak,hP,this]
  have hso:az (.obj G.length) (.int (m:Int)) H=.ok (.str sk) H:=by have:gr (so.map D.str) (m:Int)=À (.str sk):=jI (by rw[Ö,hsm];rfl);simp only[az,ak,hS,this]
  have hc3:=h3 m hmn;have tc:=Kh (ja par n m) ∅ tr ts (λj hj=>ht.get j (hlt j hj).1 (hlt j hj).2) (ad G.length m) Lt H (hK m hmn) hT m c0 c1 (À (.obj G.length)) c5 (G.length+2) hix;generalize htr:(λj=>if j=m then T.nd sk ((ja par n m).map tr) else tr j)=KH;have YV:KH m=.nd sk ((ja par n m).map tr):=by rw[<- htr];simp
  have XJ:∀j,j≠m->KH j=tr j:=λj hj=>by rw[<- htr];simp[hj]
  have hmap:∀i,m<=i->(ja par n i).map tr=(ja par n i).map KH:=λi hi=>ĵ λj hj=>(XJ j (by obtain⟨a,b,c⟩:=zm hj;have:=hp j a;lia)).symm;have aaK:Lt<H.length:=(Á.mp hT).1;have ht1:TR n m par so KH (ts.set m (KH m).d):=by
   refine⟨by simp[ht.len],λj h1 h2=>?_,λj h1 h2=>?_⟩
   ·by_cases e:j=m
    ·x_go;rw[å,Α rfl,Α (by rw[ht.len];exact h2)]
    ·rw[Í (õ e),XJ j e];exact ht.get j ∅ h2
   ·by_cases e:j=m
    ·x_go;exact⟨sk,hsm,by rw[YV,hmap j (È _)]⟩
    ·obtain⟨k,k1,k2⟩:=ht.sub j ∅ h2;exact⟨k,k1,by rw[XJ j e,k2,hmap j h1]⟩
  have adl:∀i,i<n->ad G.length i≠Lt:=λi hi=>by unfold ad;split<;>lia
  obtain⟨XI,ts',H',p4,k1,k2,k3,k4⟩:=Er hp hsl hn h3 Lt hLt c0 c1 c5 m ∅ KH (ts.set m (KH m).d) (H.set Lt (.lst (ts.set m (KH m).d))) (À (.int (m:Int))) ht1 (by rw[Ĵ ∅];exact hpre) (by rw[Í ∅];exact hS) (by rw[Í ∅];exact hP) (λi hi=>by rw[Í (õ (adl i hi))];exact hK i hi) (eZ hT);refine⟨XI,ts',H',p4,k1,k2,k3,?_⟩;rw[dn,aY rfl];simp only[Ü,Ý];have z2:(2:Nat)<=Ç:=lz ∅;have hdl:(dL ((ja par n m).map tr)).length<=Ç:=lz (by rw[jT];simp;lia);have XM:zq ts.length (m:Int)=À m:=by unfold zq;rw[ht.len,Α ∅,Α ∅];simp
  have hdd:(KH m).d=.tup [.str sk,.tup (dL ((ja par n m).map tr))]:=by rw[YV,T.d]
  have step:cX [c0,c1,À (.obj G.length),À (.obj (G.length+2)),À (.int (m:Int)),c5,À (.obj Lt)] H=.nx [c0,c1,À (.obj G.length),À (.obj (G.length+2)),À (.int (m:Int)),c5,À (.obj Lt)] (H.set Lt (.lst (ts.set m (KH m).d))):=by
   rw[hdd];unfold cX;generalize hE:eFn (dD oN [Â,Â,Â,Â,Â,Â,Ä] (aj az (aa 3) (aa 4)) (bM) (aj az (aa 7) (aa 0)))=E at tc |-;generalize dL ((ja par n m).map tr)=DL at tc hdl |-
   simp_all! [mD,hso,tc,fZ,ak,aZ,Α hdl,Α (show 0+1+1<=Ç from z2),jL,hT,XM,kg]
  rw[step,cV];exact k4
theorem Kl{i j:Int}(b:-1000<=i)(h:i<1000)(a:-1000<=j)(c:j<1000):zR [.int i,.int j]=À ((ø (j-i).toNat).map λ(k:Nat)=>.int (i+(k:Int))):=by show(if -(2^62)<=i/\i<2^62/\-(2^62)<=j/\j<2^62 then À ((ø (j-i).toNat).map λ(k:Nat)=>D.int (i+(k:Int))) else Å)=_;rw[Α ⟨∅,∅,∅,∅⟩]
theorem Nf(cells:D2)(hc0:cells≠[])(hcl:cells.length<=12)(kinds:P3)(l7:kinds.length=2)(zx:∀x∈kinds,Ð x=Ä)(G:DH):
  ∃t:T,vU t/\t.subs.length=cells.length/\eN [.con (cells.map .int),sD kinds] G=.ok t.d G:=by
 have hn1:1<=cells.length:=č.mpr hc0;have hkn:kinds≠[]:=by intro e;rw[e]at l7;simp at l7
 have U5:cells[0]?=À (cells[0]'∅):=Ê ∅;generalize cells[0]'∅=c at U5;obtain⟨x,hx,ex⟩:=kD kinds hkn ∅ c;rw[l7]at ex;have A0:AT G 1 (λ_=>0) [x] (G++[.lst [.str x],.lst [],.lst [.obj (G.length+1)]]):=by
  refine⟨by simp,by simp,jW _ _ _,rfl,λy hy=>by rw[è.mp hy];exact zx x hx,?_,λi hi=>?_,λi hi=>by simp[ja],λj hj=>∅⟩
  ·rw[Ò ∅];simp[ad,adg]
  ·have:i=0:=∅
   subst this;unfold ad;rw[Α rfl,Ò ∅];simp[ja]
 obtain⟨par,so,H1,p4,p5,a1,e1⟩:=Bu (G:=G) cells kinds l7 zx Å (cells.length-1) 1 _ [x] _ Å Å (È _) ∅ ∅ A0;generalize hn:cells.length=n at *;have nO:(H1++[DO.lst [.bw],.lst (Ô n D.bw)])[H1.length+1]?=À (.lst (Ô n D.bw)):=by rw[Ò ∅];simp
 have hlen:=a1.len;obtain⟨tr,ts,H3,q4,t1,t2,t3,t4⟩:=Er (G:=G) a1.hp a1.sl ∅ a1.three (H1.length+1) ∅ (À (.con (cells.map .int))) (À (sD kinds)) p5 n (È _) (λ_=>.nd "" []) (Ô n .bw) (H1++[.lst [.bw],.lst (Ô n .bw)]) p4 ⟨by simp,λj h1 h2=>∅,λj h1 h2=>∅⟩ (by rw[Ł ∅];exact a1.pre) (aH a1.ss) (aH a1.ps) (λi hi=>aH (a1.kid i hi)) nO;have hsz:∀i,i<n->(tr i).subs.length=1+((ja par n i).map λj=>(tr j).subs.length).sum:=λi hi=>by obtain⟨k,_,e⟩:=t1.sub i (é _) hi;rw[e,T.subs,Ñ,xV];lia
 have hs0:=Kc par a1.hp n hn1 (λi=>(tr i).subs.length) hsz;have hok:∀(d i:Nat),n-i<=d->i<n->vU (tr i):=by
  intro d
  induction d with
  |zero=>intro i h1 h2;lia
  |succ d ih=>
   intro i h1 h2 s hs;obtain⟨k,hk,e⟩:=t1.sub i (é _) h2;rw[e,T.subs]at hs;rcases Þ.mp hs with rfl|hs
   ·exact⟨a1.sg k (ë hk),by have:=a1.three i h2;simp;lia⟩
   ·obtain⟨j,hj,hs⟩:=xW hs;obtain⟨b1,b2,b3⟩:=zm hj;have:=a1.hp j b1;exact ih j ∅ b2 s hs
 refine⟨tr 0,hok n 0 ∅ ∅,hs0,?_⟩;have rR:H3=G++H3.drop G.length:=by
  conv=>lhs;rw[<- aaJ G.length H3,t2]
 unfold eN;refine fV (R:=H3.drop G.length) ?_ (qh _);rw[<- rR,bG];have z1:(1:Nat)<=Ç:=lz ∅;have KG:(0:Nat)<=Ç:=é _;have Sl:∀H,az (.con (cells.map .int)) (.int 0) H=.ok (.int c) H:=λH=>by have:gr (cells.map D.int) ((0:Nat):Int)=À (.int c):=bH (by rw[Ö,U5];rfl);simp only[az,ak];rw[show(0:Int)=((0:Nat):Int) from rfl,this]
 have YW:∀τ:DS,aj az (aa 1) (aj aR (aj az (aa 0) (eC (.int 0))) (eC (.int 2))) (À (.con (cells.map .int))::À (sD kinds)::τ) G=.ok (.str x) G:=λτ=>by have ex':az (sD kinds) (.int (c%2)) G=.ok (.str x) G:=ex G;generalize D.con (cells.map .int)=CE at Sl |-;generalize sD kinds=KI at ex' |-;simp[Sl,aO,ex']
 have hr2:zR [.int 1,.int (n:Int)]=À ((ç 1 (n-1)).map λj:Nat=>.int (j:Int)):=by
  rw[Kl ∅ ∅ ∅ ∅];congr 1;rw[show((n:Int)-1).toNat=n-1 by lia];apply ē;intro i;simp only[Ö];by_cases hi:i<n-1
  ·rw[ş hi,acq hi];simp
  ·rw[ö (by simp;lia),ö (by simp;lia)];rfl
 have VD:∀H,aL [.con (cells.map .int)] H=.ok (.int n) H:=λH=>by simp only[aL,ak,Ú,hn]
 have hls:aL [.obj G.length] H1=.ok (.int n) H1:=by simp only[aL,ak,a1.ss,Ú,a1.sl]
 have hrep:aj lO (ai aN (af (eC .bw) (ah))) (ai aL (af (aa 2) (ah))) [À (.con (cells.map .int)),À (sD kinds),À (.obj G.length),À (.obj (G.length+2)),p4,p5,Å] H1=.ok (.obj (H1.length+1)) (H1++[.lst [.bw],.lst (Ô n .bw)]):=by
  have hf:(Ô n [D.bw]).flatten=Ô n .bw:=by
   clear nO t4;generalize n=k
   induction k with
   |zero=>rfl
   |succ k ih=>rw[ă,İ,ih,ă];rfl
  have hg:(H1++[DO.lst [D.bw]])[H1.length]?=À (.lst [.bw]):=jW _ _ _;have XN:aL [.obj G.length] (H1++[.lst [.bw]])=.ok (.int n) (H1++[.lst [.bw]]):=by have:=aH (E:=[DO.lst [D.bw]]) a1.ss;simp only[aL,ak,this,Ú,a1.sl]
  have hz2:n<=Ç:=lz ∅
  simp_all! [aN,Ħ,Α z1,XN,lO,hg]
  rw[Α (by refine⟨∅,∅,?_⟩;simpa using hz2)];simp only[Ē,hf];simp[hz2]
 have XO:aL [.obj G.length] (H1++[.lst [.bw],.lst (Ô n .bw)])=.ok (.int n) (H1++[.lst [.bw],.lst (Ô n .bw)]):=by have:=aH (E:=[DO.lst [D.bw],.lst (Ô n D.bw)]) a1.ss;simp only[aL,ak,this,Ú,a1.sl]
 have Rm:az (.obj (H1.length+1)) (.int 0) H3=.ok (tr 0).d H3:=by have:gr ts ((0:Nat):Int)=À (tr 0).d:=jI (t1.get 0 (È _) ∅);simp only[az,ak,t3];rw[show(0:Int)=((0:Nat):Int) from rfl,this]
 have fd:=RO (g:=gN 4) (body:=cX) (τ:=[À (.con (cells.map .int)),À (sD kinds),À (.obj G.length),À (.obj (G.length+2)),p4,p5,À (.obj (H1.length+1))]) (G:=H1++[.lst [.bw],.lst (Ô n .bw)]) n;rw[t4]at fd;have hb:(0:Int)<=(n:Int)/\(n:Int)<2^30:=∅
 unfold iO g9;generalize hE0:aj az (aa 1) (aj aR (aj az (aa 0) (eC (.int 0))) (eC (.int 2)))=E0 at YW |-;generalize hER:aj lO (ai aN (af (eC .bw) (ah))) (ai aL (af (aa 2) (ah)))=ER at hrep |-;generalize D.con (cells.map .int)=CE at *;generalize sD kinds=KI at *;generalize(ç 1 (n-1)).map (λj:Nat=>D.int (j:Int))=XS at hr2 e1
 simp_all! [YW,aN,Ħ,Α z1,Α KG,Û,â]
 simp_all! [mZ,VD,hr2,e1,hrep,gx,Mu,XO,IX,Α hb,Ē,fd,Rm]
theorem U6(τ:DS)(H:DH):∃M:Int,0<M/\aj wZ (aj jd (eC (.int 10)) (eC (.int 60))) (eC (.int 6)) τ H=.ok (.int M) H:=⟨((10:Int)^60)^6,by symm,by kernel_rfl⟩
theorem pw6(τ:DS)(H:DH):aj jd (eC (.int 10)) (eC (.int 6)) τ H=.ok (.int 1000000) H:=by kernel_rfl
theorem XQ(τ:DS)(H:DH):aj jd (eC (.int 10)) (eC (.int 18)) τ H=.ok (.int 1000000000000000000) H:=by kernel_rfl
theorem Bv(G:DH)(c:D2)(hz:c.length<=1000)(v:Int)(b d:X9):cu [b,À (.obj G.length),d,À (.int v)] (G++[.lst (c.map .int)])=.nx [b,À (.obj G.length),d,À (.int (v/1000000))] (G++[.lst ((c++[v%1000000]).map .int)]):=by
 have a:(c.map D.int).length<Ç:=by simpa using Õ (show c.length<1001 by lia) (lz (n:=1001) ∅)
 have p:=λτ H=>pw6 τ H;have e:(c++[v%1000000]).map D.int=c.map .int++[.int (v%1000000)]:=by simp
 rw[e];unfold cu;generalize h:aj jd (eC (.int 10)) (eC (.int 6))=P at p |-;generalize c.map D.int=C at a |-;simp[c7,jW,p,aO,aP,a,Cc]
theorem Bw(G:DH)(b e:X9):∀(d m:Nat)(c:D2)(v:Int),300-c.length<=d->d<m->c.length<=500->∃(a:D2)(k:Int),a.length<=max c.length 300/\c.length<=a.length/\dJ (eG (b8 (aj kK (aa 3) (eC (.int 0)))) (b8 (aj Ll (ai aL (af (aa 1) (ah))) (eC (.int 300))))) cu m [b,À (.obj G.length),e,À (.int v)] (G++[.lst (c.map .int)])=.nx [b,À (.obj G.length),e,À (.int k)] (G++[.lst (a.map .int)])
 |d,0,c,v,g,h,p=>∅
 |d,m+1,c,v,g,h,p=>by
  have n:aL [.obj G.length] (G++[.lst (c.map .int)])=.ok (.int c.length) (G++[.lst (c.map .int)]):=by simp only[aL,ak,jW,Ú]
  have f:eG (b8 (aj kK (aa 3) (eC (.int 0)))) (b8 (aj Ll (ai aL (af (aa 1) (ah))) (eC (.int 300)))) [b,À (.obj G.length),e,À (.int v)] (G++[.lst (c.map .int)])=.ok (decide (0<v)&&decide ((c.length:Int)<300)) (G++[.lst (c.map .int)]):=by
   by_cases l:0<v
   ·simp_all! [pJ,aO,decide_eq_true l,n,Ľ]
   ·simp_all! [pJ,aO,decide_eq_false l,ħ,if_false,Ŭ]
  by_cases i:(decide (0<v)&&decide ((c.length:Int)<300))=Ä
  ·have o:c.length<300:=by have:=(Bool.and_eq_true_iff.mp i).2;have:=of_decide_eq_true this;lia
   match d,g,h with
   |0,g,h=>lia
   |d+1,g,h=>obtain⟨a,k,k1,k2,k3⟩:=Bw G b e d m (c++[v%1000000]) (v/1000000) (by simp;lia) ∅ (by simp;lia);rw[i]at f;refine⟨a,k,by simp at k1;lia,by simp at k2;lia,?_⟩;rw[kh,f,Cd,Ip,Bv G c ∅ v b e,cV,k3]
  ·have j:(decide (0<v)&&decide ((c.length:Int)<300))=Â:=‹i›
   rw[j]at f;exact⟨c,v,∅,È _,by rw[kh,f,Ce,mY]⟩
theorem vm(G:DH)(a0:X9):∀(xs:D2)(cs:D2)(b o:X9),cs.length<=300+(62-xs.length)->xs.length<=62 ->
  ∃(a:D2)(e p:X9),a.length<=362/\aT (gN 2) dB (xs.map .int) [a0,À (.obj G.length),b,o] (G++[.lst (cs.map .int)])=.nx [a0,À (.obj G.length),e,p] (G++[.lst (a.map .int)])
 |[],cs,b,o,h,f=>⟨cs,b,o,by simp at h;lia,by simp[aT]⟩
 |x::xs,cs,b,o,h,f=>by
  simp only[Ñ]at h f;obtain⟨M,i,g⟩:=U6 [a0,À (.obj G.length),À (.int x),o] (G++[.lst (cs.map .int)]);obtain⟨Y,v,k1,k2,k3⟩:=Bw G a0 (À (.int x)) (300-(cs++[x%M%1000000]).length) fuel (cs++[x%M%1000000]) (x%M/1000000) (È _) (by unfold fuel;lia) (by simp;lia);obtain⟨a,e,p,j,m⟩:=vm G a0 xs Y (À (.int x)) (À (.int v)) (by simp at k1;lia) ∅;refine⟨a,e,p,j,?_⟩;rw[É,aY rfl];simp only[Ü,Ý];have ct:=Bv G cs ∅ (x%M) a0 (À (.int x));have l:dB=au (aA 3 (aj aR (aa 2) (aj wZ (aj jd (eC (.int 10)) (eC (.int 60))) (eC (.int 6))))) (au (eL (bz "list" aP (aa 1) (af (aj aR (aa 3) (aj jd (eC (.int 10)) (eC (.int 6)))) (ah)))) (au (aA 3 (aj bI (aa 3) (aj jd (eC (.int 10)) (eC (.int 6))))) (dJ (eG (b8 (aj kK (aa 3) (eC (.int 0)))) (b8 (aj Ll (ai aL (af (aa 1) (ah))) (eC (.int 300))))) cu fuel))):=rfl;have s:dB [a0,À (.obj G.length),À (.int x),o] (G++[.lst (cs.map .int)])=.nx [a0,À (.obj G.length),À (.int x),À (.int v)] (G++[.lst (Y.map .int)]):=by
   rw[l];generalize t:dJ (eG (b8 (aj kK (aa 3) (eC (.int 0)))) (b8 (aj Ll (ai aL (af (aa 1) (ah))) (eC (.int 300))))) cu fuel=W at k3 |-;have k:aA 3 (aj aR (aa 2) (aj wZ (aj jd (eC (.int 10)) (eC (.int 60))) (eC (.int 6)))) [a0,À (.obj G.length),À (.int x),o] (G++[.lst (cs.map .int)])=.nx [a0,À (.obj G.length),À (.int x),À (.int (x%M))] (G++[.lst (cs.map .int)]):=by generalize n:aj wZ (aj jd (eC (.int 10)) (eC (.int 60))) (eC (.int 6))=P at g |-;simp[g,aO,i]
   rw[f6,k,gw];unfold cu at ct;generalize q:eL (bz "list" aP (aa 1) (af (aj aR (aa 3) (aj jd (eC (.int 10)) (eC (.int 6)))) (ah)))=A at ct |-;generalize r:aA 3 (aj bI (aa 3) (aj jd (eC (.int 10)) (eC (.int 6))))=B at ct |-;rw[f6]at ct |-;cases hq:A [a0,À (.obj G.length),À (.int x),À (.int (x%M))] (G++[.lst (cs.map .int)])with
   |nx τ K=>rw[hq,gw]at ct;rw[gw,f6,ct,gw,k3]
   |stuck=>rw[hq]at ct;cases ct
   |rt d K=>rw[hq]at ct;cases ct
   |bk τ K=>rw[hq]at ct;cases ct
   |ct τ K=>rw[hq]at ct;cases ct
   |xn c τ K=>rw[hq]at ct;cases ct
  rw[s,cV];exact m
theorem Gr(ns:D2)(hl:ns.length<=63)(G:DH):∃cs:D2,jU cs/\dX [.con (ns.map .int)] G=.ok (.obj G.length) (G++[BJ cs 0]):=by
 have KG:(0:Nat)<=Ç:=é _;have z1:(1:Nat)<=Ç:=lz ∅;have z2:(2:Nat)<=Ç:=lz ∅;have lM:∀H,aL [.con (ns.map .int)] H=.ok (.int ns.length) H:=λH=>by simp only[aL,ak,Ú]
 have fin:∀(cs:D2)(d1:D)(o2 o3:X9)(H:DH),cs.length<=900->mw H d1=À (cs.map .int)->b9 (ai aN (af (eFn (aj ay (aa 1) (eFn (ai aN (af (aj ay (ai aL (af (aa 0) (ah))) (eC (.int 3))) (ah)))))) (af (eC (.int 0)) (ah)))) [À (.con (ns.map .int)),À d1,o2,o3] H=.rt (.obj H.length) (H++[BJ (cs++[(ns.length:Int)+3]) 0]):=by
  intro cs d1 o2 o3 H hcs hd;have e1:eFn (ai aN (af (aj ay (ai aL (af (aa 0) (ah))) (eC (.int 3))) (ah))) [À (.con (ns.map .int)),À d1,o2,o3] H=.ok (.con [.int ((ns.length:Int)+3)]) H:=by
   simp_all! [cI,lM,jx]
   exact eu ‹z1› (by simp[bh,dF,b7])
  have e2:eFn (aj ay (aa 1) (eFn (ai aN (af (aj ay (ai aL (af (aa 0) (ah))) (eC (.int 3))) (ah))))) [À (.con (ns.map .int)),À d1,o2,o3] H=.ok (.con ((cs++[(ns.length:Int)+3]).map .int)) H:=by
   have ea:ay d1 (.con [.int ((ns.length:Int)+3)]) H=aN (cs.map .int++[.int ((ns.length:Int)+3)]) H:=by
    unfold ay;cases d1 with
    |con xs=>simp only[mw]at hd |-;rw[æ hd]
    |obj k=>simp only[hd];rfl
    |_=>simp[mw]at hd
   have e6:aa 1 [À (.con (ns.map .int)),À d1,o2,o3] H=.ok d1 H:=rfl;rw[cI,tY,e6,dQ,aI,e1,dQ,ea];rw[show(cs++[(ns.length:Int)+3]).map D.int=cs.map .int++[.int ((ns.length:Int)+3)] by simp];exact eu (lz (by simp;lia)) (by rw[jE,bh,dF,b7,aB λ_=>b7];rfl)
  generalize hE:eFn (aj ay (aa 1) (eFn (ai aN (af (aj ay (ai aL (af (aa 0) (ah))) (eC (.int 3))) (ah)))))=E at e2 |-
  simp_all! [e2,aN,Α (show 0+1+1<=Ç from z2)]
  rfl
 have fr:∀(cs:D2)(R:DH),dX [.con (ns.map .int)] G=kY (λds=>cg 4 fj ds) [.con (ns.map .int)] G->cg 4 fj [.con (ns.map .int)] G=.ok (.obj (G++R).length) (G++R++[BJ cs 0])->dX [.con (ns.map .int)] G=.ok (.obj G.length) (G++[BJ cs 0]):=by intro cs R h1 h2;rw[h1];unfold kY;k_go;rw[h2];k_go;rw[jW];unfold BJ;k_go;rw[Α ⟨by rw[â,ab3];exact ki _;rfl,by simp,by simp[bh,dF,b7,c8,aB λ_=>b7]⟩]
 have hsl:∀H,∃xs:D2,xs.length<=62/\∀τ:DS,eFn (jK (aa 0) (bq (eC (.int 1))) (bq (eC (.int 63)))) (À (.con (ns.map .int))::τ) H=.ok (.con (xs.map .int)) H:=by
  intro H;refine⟨(ns.drop 1).take 62,by simp;lia,λτ=>?_⟩;have kj:cutD (ns.map D.int) (À 1) (À 63)=((ns.drop 1).take 62).map .int:=by
   unfold cutD;rw[show(À (1:Int))=À ((1:Nat):Int) from rfl,show(À (63:Int))=À ((63:Nat):Int) from rfl,HT.iV,HT.iV,Ú,<- aaS,<- aaR];congr 1;cases ns with
   |nil=>simp
   |cons a r=>simp only[Ñ]at hl |-;rw[show min 1 (r.length+1)=1 by lia,aaL];simp;lia
  simp_all! [cI,tZ,kW,m7,tF,ak,kj]
  exact eu (lz (by simp;lia)) (aB λ_=>b7)
 have BI:∀(H:DH)(τ:DS),∃b:Bool,eG (b8 (aj kK (ai aL (af (aa 0) (ah))) (eC (.int 0)))) (b8 (aj (e8 Â) (aj aR (aj az (aa 0) (eC (.int 0))) (eC (.int 2))) (eC (.int 1)))) (À (.con (ns.map .int))::τ) H=.ok b H:=by
  intro H τ;cases ns with
  |nil=>exact⟨Â,by simp[aL,ak,aO]⟩
  |cons a r=>
   have h0:az (.con ((a::r).map .int)) (.int 0) H=.ok (.int a) H:=by have:gr ((a::r).map D.int) ((0:Nat):Int)=À (.int a):=bH rfl;simp only[az,ak];rw[show(0:Int)=((0:Nat):Int) from rfl,this]
   have h1:=lM H;have h2:=kR Â (a%2) 1 H;have hp:0<(a::r).length:=by simp
   generalize(a::r).length=L at h1 hp;generalize D.con ((a::r).map .int)=C at h0 h1 |-;exact⟨Â ^^ (a%2==1),by simp[h1,h0,aO,hp,h2]⟩
 obtain⟨b,eb⟩:=BI (G++[.lst []]) [À (.obj G.length),Å,Å];obtain⟨xs,hxl,exs⟩:=hsl (G++[.lst []]);have hB:fj=au (aA 1 (ai aN (ah))) (au (jb (eG (b8 (aj kK (ai aL (af (aa 0) (ah))) (eC (.int 0)))) (b8 (aj (e8 Â) (aj aR (aj az (aa 0) (eC (.int 0))) (eC (.int 2))) (eC (.int 1))))) (e9 (gN 2) (eFn (jK (aa 0) (bq (eC (.int 1))) (bq (eC (.int 63))))) dB) (aA 1 (eFn (dD oN [] (eFn (jK (aa 0) (bq (eC (.int 1))) (bq (eC (.int 63))))) (bM) (aj aR (aa 0) (aj jd (eC (.int 10)) (eC (.int 18)))))))) (b9 (ai aN (af (eFn (aj ay (aa 1) (eFn (ai aN (af (aj ay (ai aL (af (aa 0) (ah))) (eC (.int 3))) (ah)))))) (af (eC (.int 0)) (ah)))))):=rfl;cases b with
 |true=>obtain⟨cs,p2,p3,k1,k2⟩:=vm G (À (.con (ns.map .int))) xs [] Å Å (by simp) hxl;refine⟨cs++[(ns.length:Int)+3],⟨by simp,by simp;lia⟩,fr _ [.lst (cs.map .int)] rfl ?_⟩;have hf:=fin cs (.obj G.length) p2 p3 (G++[.lst (cs.map .int)]) ∅ (by simp only[mw,jW]);rw[bG,hB];rw[ė]at k2;generalize hT:eG (b8 (aj kK (ai aL (af (aa 0) (ah))) (eC (.int 0)))) (b8 (aj (e8 Â) (aj aR (aj az (aa 0) (eC (.int 0))) (eC (.int 2))) (eC (.int 1))))=TT at eb |-;generalize hS:eFn (jK (aa 0) (bq (eC (.int 1))) (bq (eC (.int 63))))=S at exs |-;generalize hE:ai aN (af (eFn (aj ay (aa 1) (eFn (ai aN (af (aj ay (ai aL (af (aa 0) (ah))) (eC (.int 3))) (ah)))))) (af (eC (.int 0)) (ah)))=E at hf |-;simp only[É,ė,Ñ,ņ,ī,á,Ô,f6,mq,pH,qG,dQ,aN,Α KG,rF,gw,Ü,Ý,tW,eb,Cd,fh,exs,Ii,k2,hf,iR]
 |false=>
  have c1:=bF (τ:=[À (.con (ns.map .int)),À (.obj G.length),Å,Å]) (G:=G++[.lst []]) (gO:=oN) (ks:=[]) (tt:=bM) (te:=aj aR (aa 0) (aj jd (eC (.int 10)) (eC (.int 18)))) (own:=λx:Int=>[.int x]) (dat:=λx=>.int x) (f:=λx=>.int (x%1000000000000000000)) (c:=λ_=>Ä) xs [] (by simp;lia) (λx _=>rfl) (λx hx acc=>by first|rfl|simp[bM]) (λx hx acc=>by have p1:=λτ H=>XQ τ H;generalize hP:aj jd (eC (.int 10)) (eC (.int 18))=P at p1 |-;simp[p1,aO])
  rw[á,ġ.mpr (λ_ _=>rfl)]at c1;have hcl:aG (xs.map λx=>D.int (x%1000000000000000000))=Ä:=aB λ_=>b7;have ec:eFn (dD oN [] (eFn (jK (aa 0) (bq (eC (.int 1))) (bq (eC (.int 63))))) (bM) (aj aR (aa 0) (aj jd (eC (.int 10)) (eC (.int 18))))) [À (.con (ns.map .int)),À (.obj G.length),Å,Å] (G++[.lst []])=.ok (.con ((xs.map λx=>x%1000000000000000000).map .int)) (G++[.lst []]):=by have ex0:=exs [À (.obj G.length),Å,Å];rw[ā];show _=Out.ok (D.con (xs.map λx=>D.int (x%1000000000000000000))) _;rw[cI,m5,ex0,dQ];k_go;rw[c1,eX hcl]
  refine⟨(xs.map λx=>x%1000000000000000000)++[(ns.length:Int)+3],⟨by simp,by simp;lia⟩,fr _ [.lst []] rfl ?_⟩;have hf:=fin (xs.map λx=>x%1000000000000000000) (.con ((xs.map λx=>x%1000000000000000000).map .int)) Å Å (G++[.lst []]) (by simp;lia) rfl;rw[bG,hB];generalize hT:eG (b8 (aj kK (ai aL (af (aa 0) (ah))) (eC (.int 0)))) (b8 (aj (e8 Â) (aj aR (aj az (aa 0) (eC (.int 0))) (eC (.int 2))) (eC (.int 1))))=TT at eb |-;generalize hC:eFn (dD oN [] (eFn (jK (aa 0) (bq (eC (.int 1))) (bq (eC (.int 63))))) (bM) (aj aR (aa 0) (aj jd (eC (.int 10)) (eC (.int 18)))))=CC at ec |-;generalize hE:ai aN (af (eFn (aj ay (aa 1) (eFn (ai aN (af (aj ay (ai aL (af (aa 0) (ah))) (eC (.int 3))) (ah)))))) (af (eC (.int 0)) (ah)))=E at hf |-;simp only[É,ė,Ñ,ņ,ī,á,Ô,f6,mq,pH,qG,dQ,aN,Α KG,rF,gw,Ü,Ý,tW,eb,Ce,ec,hf,iR]
theorem Ob{l:List Nat}(h:∀x∈l,x<1114112):Ð (jN l)=Ä:=by unfold Ð jN;rw[Array.all_eq_true_iff_forall_mem];intro x a;simpa using h x ‹a›
theorem ny(l:List Nat):(jN l).length=l.length:=by simp[jN,acD]
def lt(i:Int):Str:=jN [97+(i%26).toNat]
theorem U7(i:Int):Ð (lt i)=Ä:=Ob λx h=>by simp at h;lia
theorem vn(i:Int):(lt i).length=1:=ny _
theorem Es(i:Int)(G:DH):az (.str "abcdefghijklmnopqrstuvwxyz") (.int (i%26)) G=.ok (.str (lt i)) G:=by
 have h:∀k<26,("abcdefghijklmnopqrstuvwxyz":Str).cps.toList[k]?=À (97+k):=by symm
 have b:=h (i%26).toNat ∅;have a:gr ("abcdefghijklmnopqrstuvwxyz":Str).cps.toList (i%26)=À (97+(i%26).toNat):=by
  have:=bH b
  rwa [show(((i%26).toNat:Nat):Int)=i%26 by lia]at this
 have hz:("abcdefghijklmnopqrstuvwxyz":Str).length<=Ç:=lz (by symm);simp only[az,ak,hz,if_true,a];rfl
theorem Bx:∀(ks:List Nat)(n:Nat),(ks.map λx=>jN [x]).foldl (λa (w:Str)=>a+w.length+0) n=n+ks.length
 |[],n=>rfl
 |k::ks,n=>by rw[É,ą,Bx ks,ny];simp;lia
theorem xX:∀ks:List Nat,pL [] (ks.map λx=>[x])=ks
 |[]=>rfl
 |[k]=>rfl
 |k::j::ks=>by rw[É,É,pL,<- É (f:=λx=>[x]),xX (j::ks)];simp
theorem U8(ks:List Nat)(hl:ks.length<=100)(G:DH):rC (.str "") [.con (ks.map λx=>.str (jN [x]))] G=.ok (.str (jN ks)) G:=by
 have hj:JoinOk "" (ks.map λx=>jN [x])=Ä:=by
  have n2:("":Str).length=0:=by symm
  have e:(ks.map λx=>jN [x]).toArray.foldl (λa (w:Str)=>a+w.length+("":Str).length) 0=ks.length:=by rw[n2,List.foldl_toArray,Bx];simp
  unfold JoinOk;rw[e,acP];unfold Builtin.Str.tooLong;exact decide_eq_false (by have:=lz (n:=100000) ∅;lia)
 have hs:=oH (ks.map λx=>jN [x]);rw[ā]at hs;have hs':strsOf (ks.map λx=>D.str (jN [x]))=À (ks.map λx=>jN [x]):=hs;have hjl:Txt.join "" (ks.map λx=>jN [x])=jN ks:=by
  apply yC;rw[Iq];show(abB "" (ks.map λx=>jN [x])).cps.toList=_;rw[aaF];refine(QB "" _).trans ?_;rw[ā];have:(λw:Str=>w.cps.toList)∘(λx=>jN [x])=λx=>[x]:=by funext w;exact Iq _
  rw[this];exact xX ks
 simp[rC,ak,hs',hj,hjl]
theorem By{te:Y2}{ks:L9}{ml:DS->M X2}{τ:DS}{G:DH}(j:Int)(h0:0<=j)(h1:j<=1000)(f:Nat->D)(hm:ml τ G=.ok [.int j] G)(he:∀k:Nat,(k:Int)<j->∀acc,te (À (.int k)::mask ks τ) (G++[.lst acc])=.ok (f k) (G++[.lst acc])):
  cT e7 oN ks ml bM te τ G=.ok (.obj G.length) (G++[.lst ((ç 0 j.toNat).map f)]):=by
 have hr:=kU (j:=j) h0 ∅;have c1:=bF (τ:=τ) (G:=G) (gO:=oN) (ks:=ks) (tt:=bM) (te:=te) (own:=λk:Nat=>[.int (0+(k:Int))]) (dat:=λk:Nat=>.int (0+(k:Int))) (f:=f) (c:=λ_=>Ä) (ç 0 j.toNat) [] (by simp;lia) (λx _=>rfl) (λx hx acc=>by first|rfl|simp[bM]) (λx hx acc=>by
  have hx':(x:Int)<j:=by have:=List.mem_range'.mp hx;lia
  have:=he x hx' acc;rw[abZ];exact this)
 rw[á,ġ.mpr (λ_ _=>rfl)]at c1;rw[pK,hm,dQ,hr];exact c1
theorem BA(x:Str)(l u:Option Int)(h:Ð x=Ä):Ð (aaf x l u)=Ä:=by
 unfold aaf;split
 ·exact h
 ·unfold Ð at h |-;simp only[List.all_toArray,Ţ,abj]at h |-;rintro c ⟨i,_,b⟩;have a:=Array.all_eq_true'.mp h c (Array.mem_of_getElem? b);exact a
theorem Dk{p a b r:Str}(h:p++a++r=p++b++r)(hl:a.length=b.length):a=b:=by have h1:(p.cps++a.cps++r.cps).toList=(p.cps++b.cps++r.cps).toList:=congrArg (λs:Str=>s.cps.toList) h;simp only[Array.toList_append,â]at h1;have h2:=aaj h1;exact yC (List.append_inj_left h2 (by simpa[acD]using hl))
def Et:Y2:=eFn (cT e7 oN [Ä,Â,Ä] (af (aj aR (aa 0) (eC (.int 6))) (ah)) (bM) (aj az (aa 3) (aj aR (aj bI (aa 1) (aj ay (aa 0) (eC (.int 2)))) (eC (.int 26)))))
def Km:Y2:=cT e7 oN [Ä,Â,Ä,Ä,Ä] (af (aa 1) (ah)) (bM) (aj ay (aj ay (aj ay (eFn (jK (aa 4) (cM) (bq (aa 5)))) (aj az (aa 3) (aj aR (aj ay (aj bI (aa 1) (eC (.int 42))) (aa 0)) (eC (.int 26))))) (eC (.str "q"))) (eFn (jK (aa 4) (bq (aa 5)) (cM))))
def cP(c:Int):List Nat:=(ç 0 (c%6).toNat).map λ(k:Nat)=>97+(c/((k:Int)+2)%26).toNat
theorem Kn(c:Int)(a1:X9)(G:DH):Et [À (.int c),a1,À (.str "abcdefghijklmnopqrstuvwxyz"),Å,Å] G=.ok (.con ((cP c).map λx=>.str (jN [x]))) G:=by
 have e:=By (te:=aj az (aa 3) (aj aR (aj bI (aa 1) (aj ay (aa 0) (eC (.int 2)))) (eC (.int 26)))) (ks:=[Ä,Â,Ä]) (ml:=af (aj aR (aa 0) (eC (.int 6))) (ah)) (τ:=[À (.int c),a1,À (.str "abcdefghijklmnopqrstuvwxyz"),Å,Å]) (G:=G) (c%6) ∅ ∅ (λk=>.str (lt (c/((k:Int)+2)))) (by simp[aO]) (λk hk acc=>by
  have h2:0<(k:Int)+2:=∅
  have h3:(k:Int)+2<1073741824:=∅
  have hx:=Es (c/((k:Int)+2)) (G++[.lst acc]);generalize(G++[.lst acc])=H at hx |-;generalize D.str "abcdefghijklmnopqrstuvwxyz"=Z at hx |-;simp[mask,jx,aO,h2,h3,hx])
 rw[Et,cI,e,eX (aB λ_=>aW)];unfold cP lt;rw[ā];rfl
theorem kE(c:Int):(cP c).length<=5:=by unfold cP;simp;lia
theorem BB(c:Int):Ð (jN (cP c))=Ä:=Ob λx h=>by unfold cP at h;obtain⟨k,_,rfl⟩:=ê.mp h;lia
def iM(c:Int):Int:=c/6%(((cP c).length:Int)+1)
def f9(c:Int)(k:Nat):Str:=aaf (jN (cP c)) Å (À (iM c))++lt (c/42+(k:Int))++"q"++aaf (jN (cP c)) (À (iM c)) Å
theorem vp(c:Int)(k:Nat):Ð (f9 c k)=Ä:=by unfold f9;exact good_add (good_add (good_add (BA _ _ _ (BB c)) (U7 _)) (by symm)) (BA _ _ _ (BB c))
theorem Ng(c:Int)(k:Nat):(f9 c k).length=(f9 c 0).length:=by unfold f9;simp only[mX,vn]
theorem Gs(c:Int)(k:Nat):(f9 c k).length<=20:=by
 unfold f9;have h:=abc (jN (cP c)) Å (À (iM c));have a:=abc (jN (cP c)) (À (iM c)) Å;rw[ny]at h a;have d:=kE c;have b:("q":Str).length=1:=by symm
 simp only[mX,vn,b];lia
theorem zo(c:Int)(j k:Nat)(hj:j<3)(hk:k<3)(h:f9 c j=f9 c k):j=k:=by
 unfold f9 at h;have e:∀a b d f:Str,a++b++d++f=a++b++(d++f):=λa b d f=>yC (by show(a.cps++b.cps++d.cps++f.cps).toList=(a.cps++b.cps++(d.cps++f.cps)).toList;simp)
 rw[e,e]at h;have h1:=Dk h (by rw[vn,vn]);unfold lt at h1;have h2:=congrArg (λs:Str=>s.cps.toList) h1;simp only[Iq,List.cons.injEq,and_true]at h2;lia
theorem BC(c:Int)(n:Nat)(hn:n<=3)(G:DH):Km [À (.int c),À (.int n),À (.str "abcdefghijklmnopqrstuvwxyz"),À (.str (jN (cP c))),À (.int (iM c))] G=.ok (.obj G.length) (G++[.lst ((ç 0 n).map λk=>.str (f9 c k))]):=by
 have e:=By (te:=aj ay (aj ay (aj ay (eFn (jK (aa 4) (cM) (bq (aa 5)))) (aj az (aa 3) (aj aR (aj ay (aj bI (aa 1) (eC (.int 42))) (aa 0)) (eC (.int 26))))) (eC (.str "q"))) (eFn (jK (aa 4) (bq (aa 5)) (cM)))) (ks:=[Ä,Â,Ä,Ä,Ä]) (ml:=af (aa 1) (ah)) (τ:=[À (.int c),À (.int n),À (.str "abcdefghijklmnopqrstuvwxyz"),À (.str (jN (cP c))),À (.int (iM c))]) (G:=G) (n:Int) ∅ ∅ (λk=>.str (f9 c k)) (by simp) (λk hk acc=>by
  have hx:=Es (c/42+(k:Int)) (G++[.lst acc]);have h1:=abc (jN (cP c)) Å (À (iM c));have h2:=abc (jN (cP c)) (À (iM c)) Å;have h0:=ny (cP c);rw[ny]at h1 h2;have h3:=kE c;have h4:("q":Str).length=1:=by symm
  have h5:=vn (c/42+(k:Int));have hz:(jN (cP c)).length<=Ç:=lz ∅;unfold f9;generalize hA:aaf (jN (cP c)) Å (À (iM c))=A at h1 |-;generalize hB:aaf (jN (cP c)) (À (iM c)) Å=B at h2 |-;have s1:∀H,tF (.str (jN (cP c))) Å (À (iM c)) H=.ok (.str A) H:=λH=>by simp only[tF,ak,Α hz,hA]
  have s2:∀H,tF (.str (jN (cP c))) (À (iM c)) Å H=.ok (.str B) H:=λH=>by simp only[tF,ak,Α hz,hB]
  generalize iM c=hh at s1 s2 |-;generalize lt (c/42+(k:Int))=l at hx h5 |-;generalize hq:("q":Str)=q at h4 |-;have a1:∀H,ay (.str A) (.str l) H=.ok (.str (A++l)) H:=λH=>by simp only[ay];exact Α (lz ∅)
  have a2:∀H,ay (.str (A++l)) (.str q) H=.ok (.str (A++l++q)) H:=λH=>by simp only[ay];exact Α (lz (by rw[mX];lia))
  have a3:∀H,ay (.str (A++l++q)) (.str B) H=.ok (.str (A++l++q++B)) H:=λH=>by simp only[ay];exact Α (lz (by rw[mX,mX];lia))
  generalize A++l++q++B=u at a3 |-;generalize A++l++q=u2 at a2 a3 |-;generalize A++l=u3 at a1 a2 |-;generalize D.str (jN (cP c))=C at s1 s2 |-;generalize D.str "abcdefghijklmnopqrstuvwxyz"=Z at hx |-;generalize(G++[.lst acc])=H at hx |-;simp[mask,cI,jx,aO,hx,s1,s2,a1,a2,a3])
 rw[Ē]at e;exact e
theorem xY(c:Int)(n:Nat)(j:n<=3)(G:DH)(k:MS):au (aA 2 (eC (.str "abcdefghijklmnopqrstuvwxyz"))) (au (aA 3 (bz "str" rC (eC (.str "")) (af Et (ah)))) (au (aA 4 (aj aR (aj bI (aa 0) (eC (.int 6))) (aj ay (ai aL (af (aa 3) (ah))) (eC (.int 1))))) k)) [À (.int c),À (.int n),Å,Å,Å] G=k [À (.int c),À (.int n),À (.str "abcdefghijklmnopqrstuvwxyz"),À (.str (jN (cP c))),À (.int (iM c))] G:=by
 have e:=Kn c (À (.int n)) G;have a:=U8 (cP c) (by have:=kE c;lia) G;have b:aL [.str (jN (cP c))] G=.ok (.int (cP c).length) G:=by have hz:(cP c).length<=Ç:=lz (by have:=kE c;lia);simp only[aL,ak,ny,Α hz]
 have d:0<((cP c).length:Int)+1:=∅
 have h:((cP c).length:Int)+1<1073741824:=by have:=kE c;lia
 unfold iM;generalize D.con ((cP c).map λx=>.str (jN [x]))=i at e a;generalize D.str (jN (cP c))=C at a b |-;generalize D.str "abcdefghijklmnopqrstuvwxyz"=Z at e |-;generalize Et=E at e |-;generalize((cP c).length:Int)=L at b d h |-;generalize f:D.str ""=S at a |-;have g:c7 "str" G S=Ä:=by subst f;rfl
 simp[e,a,b,jx,aO,d,h,g]
theorem Gu(c:Int)(n:Nat)(h:n<=3)(G:DH):fD [.int c,.int n] G=.ok (.con ((ç 0 n).map λk=>.str (f9 c k))) G:=by unfold fD;refine gy ?_ (by rw[c8];exact aB λ_=>aW);rw[bG];show(iY [À (.int c),À (.int n),Å,Å,Å] G).fn=_;have e:iY [À (.int c),À (.int n),Å,Å,Å] G=b9 (eFn Km) [À (.int c),À (.int n),À (.str "abcdefghijklmnopqrstuvwxyz"),À (.str (jN (cP c))),À (.int (iM c))] G:=xY c n h G _;rw[e,tX,cI,BC c n h,eX (aB λ_=>aW),nL,iR]
theorem BD(c:Int)(n:Nat)(h:n<=3)(G:DH):dh [.int c,.int n] G=.ok (.obj G.length) (G++[.lst ((ç 0 n).map λk=>.str (f9 c k))]):=by unfold dh;refine IJ ?_ (aB λ_=>aW);rw[bG];show(gD [À (.int c),À (.int n),Å,Å,Å] G).fn=_;have e:gD [À (.int c),À (.int n),Å,Å,Å] G=b9 Km [À (.int c),À (.int n),À (.str "abcdefghijklmnopqrstuvwxyz"),À (.str (jN (cP c))),À (.int (iM c))] G:=xY c n h G _;rw[e,tX,BC c n h,nL,iR]
theorem xZ{m k:MS}{τ τ':DS}{G G':DH}(h:m τ G=.nx τ' G'):au m k τ G=k τ' G':=by rw[f6,h,gw]
theorem qW{i:Nat}{e:Y2}{k:MS}{τ:DS}{G G':DH}{v:D}(h:e τ G=.ok v G'):au (aA i e) k τ G=k (τ.set i (À v)) G':=by rw[f6,mq,h,rF,gw]
theorem Ko{a b c:Str}(h:a≠b)(d:a≠c)(e:b≠c):[a,b,c].Nodup:=by simp[h,d,e]
theorem x6{d:D2}(g:jU d){s n:Nat}(h:n≠s)(τ:DS)(e:(mask [Â,Ä] τ)[1]?=À (À (.obj s))):∀(xs:X2)(a:D2)(G:DH),a.length+xs.length<=1000->aV s d G->G[n]?=À (.lst (a.map .int)) ->
  ∃(vs:D2)(G':DH),vs.length=a.length+xs.length/\aV s d G'/\G'[n]?=À (.lst (vs.map .int))/\Fp (λq=>q=s\/q=n) G G'/\cC oN [Â,Ä] bM (aC 1 ao (af (aa 2) (ah))) n xs τ G=.ok (.obj n) G'
 |[],a,G,j,f,c=>⟨a,G,by simp,f,c,Fp.refl,by simp[cC]⟩
 |x::xs,a,G,j,f,c=>by
  simp only[Ñ]at j;obtain⟨v,b,u,l,y,r⟩:=dI g f;have i:=u.get h c;have k:n<b.length:=(Á.mp i).1;have hz:(a.map D.int).length<Ç:=by simpa using Õ (show a.length<1001 by lia) (lz (n:=1001) ∅)
  obtain⟨vs,G',k1,k2,k3,m,k5⟩:=x6 g h τ e xs (a++[v]) (b.set n (.lst ((a++[v]).map .int))) (by simp;lia) (l.set h) (by rw[å,Α rfl,Α k]);refine⟨vs,G',by simp at k1 |-;lia,k2,k3,((u.fp (.inl rfl)).trans (Fp.set (.inr rfl))).trans m,?_⟩;have te:aC 1 ao (af (aa 2) (ah)) (À x::mask [Â,Ä] τ) G=.ok (.int v) b:=by
   generalize mask [Â,Ä] τ=M at e |-
   simp_all! [e,r]
  have o:cG oN [Â,Ä] bM (aC 1 ao (af (aa 2) (ah))) n x τ G=.ok () (b.set n (.lst ((a++[v]).map .int))):=by
   have p:oN x=À [x]:=rfl;have w:(a++[v]).map D.int=a.map .int++[.int v]:=by simp
   have t:aC 1 ao (af (aa 2) (ah)) ([x].map À++mask [Â,Ä] τ) G=.ok (.int v) b:=te;unfold cG;rw[p];dsimp only[bM,M.ret];rw[t];k_go;rw[i];k_go;rw[Α hz,w]
  rw[cC,o];exact k5
theorem names3{j:D2}(m:jU j)(C:D){H:DH}(F:aV 0 j H)(o:H.length=1):∃(a b c:Str)(H':DH),[a,b,c].Nodup/\(∀x∈[a,b,c],Ð x=Ä)/\aV 0 j H'/\H'[1]?=À (.lst [.str a,.str b,.str c])/\∀k:MS,
  au (aA 2 (aC 2 dh (af (aC 1 ao (af (aa 1) (ah))) (af (eC (.int 3)) (ah))))) (au (jb (b8 (aj (e8 Â) (aj aR (aC 1 ao (af (aa 1) (ah))) (eC (.int 2))) (eC (.int 1)))) (gU (aj ay (aj az (aa 2) (eC (.int 0))) (eC (.str "z"))) (aa 2) (eC (.int 0))) (bD)) k) [À C,À (.obj 0),Å,Å,Å,Å,Å,Å,Å,Å] H=k [À C,À (.obj 0),À (.obj 1),Å,Å,Å,Å,Å,Å,Å] H':=by
 obtain⟨v,e,P,z,p,A⟩:=dI m F;have t:=BD v 3 ∅ e;rw[p,o]at t;have y:dh [.int v,.int 3] e=.ok (.obj 1) (e++[.lst [.str (f9 v 0),.str (f9 v 1),.str (f9 v 2)]]):=t;obtain⟨w,d,J,s,N,q⟩:=dI m (G:=e++[.lst [.str (f9 v 0),.str (f9 v 1),.str (f9 v 2)]]) z.app;have g:d[1]?=À (.lst [.str (f9 v 0),.str (f9 v 1),.str (f9 v 2)]):=J.get ∅ (by rw[<- o,<- p];exact jW _ _ _);have l:f9 v 0≠f9 v 1:=λh=>by have:=zo v 0 1 ∅ ∅ h;lia
 have n:f9 v 0≠f9 v 2:=λh=>by have:=zo v 0 2 ∅ ∅ h;lia
 have Y:f9 v 1≠f9 v 2:=λh=>by have:=zo v 1 2 ∅ ∅ h;lia
 have first:∀k:MS,au (aA 2 (aC 2 dh (af (aC 1 ao (af (aa 1) (ah))) (af (eC (.int 3)) (ah))))) k [À C,À (.obj 0),Å,Å,Å,Å,Å,Å,Å,Å] H=k [À C,À (.obj 0),À (.obj 1),Å,Å,Å,Å,Å,Å,Å] (e++[.lst [.str (f9 v 0),.str (f9 v 1),.str (f9 v 2)]]):=λk=>by
  refine(qW (v:=.obj 1) ?_).trans rfl
  simp_all! [A,y]
 have B:b8 (aj (e8 Â) (aj aR (aC 1 ao (af (aa 1) (ah))) (eC (.int 2))) (eC (.int 1))) [À C,À (.obj 0),À (.obj 1),Å,Å,Å,Å,Å,Å,Å] (e++[.lst [.str (f9 v 0),.str (f9 v 1),.str (f9 v 2)]])=.ok (w%2==1) d:=by generalize e++[.lst [.str (f9 v 0),.str (f9 v 1),.str (f9 v 2)]]=M at q |-;simp[q,aO,kR]
 by_cases u:w%2=1
 ·refine⟨f9 v 0++"z",f9 v 1,f9 v 2,d.set 1 (.lst [.str (f9 v 0++"z"),.str (f9 v 1),.str (f9 v 2)]),?_,?_,s.set ∅,?_,λk=>?_⟩
  ·have hz:∀k,f9 v 0++"z"≠f9 v k:=λk h=>by
    have I:=congrArg acD h;have r:("z":Str).length=1:=by symm
    rw[mX,Ng v k,r]at I;lia
   exact Ko (hz 1) (hz 2) Y
  ·intro x f;simp only[Þ,ţ,or_false]at f;rcases f with rfl|rfl|rfl
   ·exact good_add (vp _ _) (by symm)
   ·exact vp _ _
   ·exact vp _ _
  ·rw[å,Α rfl,Α (Á.mp g).1]
  ·rw[first];refine xZ ?_;rw[tW,B,show(w%2==1)=Ä by simpa using u,Cd];have hz:(f9 v 0).length+("z":Str).length<=Ç:=lz (by
    have r:("z":Str).length=1:=by symm
    have:=Gs v 0;lia)
   have ad:ay (.str (f9 v 0)) (.str "z") d=.ok (.str (f9 v 0++"z")) d:=by simp only[ay];exact Α hz
   generalize f9 v 0++"z"=O at ad |-;generalize f9 v 0=n0 at g ad |-;generalize f9 v 1=E at g |-;generalize f9 v 2=K at g |-;have L:az (.obj 1) (.int 0) d=.ok (.str n0) d:=by simp only[az,ak,g];rfl
   have i:zq [D.str n0,.str E,.str K].length 0=À 0:=rfl
   simp_all! [mD,L,ad,jL,g,i,kg]
   rfl
 ·refine⟨f9 v 0,f9 v 1,f9 v 2,d,Ko l n Y,?_,s,g,λk=>?_⟩
  ·intro x f;simp only[Þ,ţ,or_false]at f;rcases f with rfl|rfl|rfl<;>exact vp _ _
  ·rw[first];refine xZ ?_;rw[tW,B,show(w%2==1)=Â by simpa using u,Ce,mY]
theorem Kp(a b c:Str)(h:[a,b,c].Nodup)(j:Int)(f:0<=j)(e:j<3):∃t:P3,(∀x∈a::t,x∈[a,b,c])/\(a::t).Nodup/\t.length<=2/\cutD [.str a,.str b,.str c] Å (À (1+j))=(a::t).map .str:=by
 have:j=0\/j=1\/j=2:=∅
 rcases this with rfl|rfl|rfl
 ·exact⟨[],by simp,by simp,by simp,rfl⟩
 ·exact⟨[b],λx d=>by simp at d |-;rcases d with h|h<;>simp[h],by simp at h |-;exact h.1.1,by simp,rfl⟩
 ·exact⟨[b,c],λx d=>d,h,by simp,rfl⟩
abbrev Oc:Y2:=aC 1 ao (af (aa 1) (ah))
def U9(k:MS):MS:=au (aA 3 (aC 2 fD (af Oc (af (eC (.int 2)) (ah))))) (au (aA 4 (aC 4 gF (af (aa 1) (af (r8 (jK (aa 2) (cM) (bq (aj ay (eC (.int 1)) (aj aR Oc (eC (.int 3))))))) (af (aa 3) (af (eC (.int 2)) (ah))))))) (au (aA 5 (aj aR Oc (eC (.int 3)))) (au (FL (gP 6 7) (aC 4 gm (af (aa 1) (af (aa 4) (af (aj aR Oc (eC (.int 6))) (af (eC (.int 8)) (ah))))))) k)))
theorem Nh{p:D2}(j:jU p)(C:D)(a b c:Str)(E:[a,b,c].Nodup)(n:∀x∈[a,b,c],Ð x=Ä){H:DH}(hs:aV 0 p H)(hg:H[1]?=À (.lst [.str a,.str b,.str c])):
  ∃(g:List dw)(t:T)(ms:PD)(mk:Nat)(ks:P3)(w:Int)(H':DH),g.length<=5/\(∀r∈g,vS r)/\vU t/\ms.length=t.subs.length/\ks.length=2/\(∀x∈ks,Ð x=Ä)/\aV 0 p H'/\H'[1]?=À (.lst [.str a,.str b,.str c])/\H'[mk]?=À (.aU Â (aE ms))/\∀k:MS,
   U9 k [À C,À (.obj 0),À (.obj 1),Å,Å,Å,Å,Å,Å,Å] H=k [À C,À (.obj 0),À (.obj 1),À (sD ks),À (cO a g),À (.int w),À t.d,À (.obj mk),Å,Å] H':=by
 obtain⟨h,m,u1,s1,l1,e1⟩:=dI j hs;have R:=u1.get (q:=1) ∅ hg;have n1:=Gu h 2 ∅ m;have Y:fD [.int h,.int 2] m=.ok (sD [f9 h 0,f9 h 1]) m:=n1;have i:∀x∈[f9 h 0,f9 h 1],Ð x=Ä:=λx l=>by simp only[Þ,ţ,or_false]at l;rcases l with rfl|rfl<;>exact vp _ _
 generalize hK:[f9 h 0,f9 h 1]=ks at Y i;have A:ks.length=2:=by rw[<- hK];rfl
 obtain⟨P,f,u2,U,l2,e2⟩:=dI j s1;have F:=u2.get (q:=1) ∅ R;obtain⟨e,Q,t2,t3,t4⟩:=Kp a b c E (P%3) ∅ ∅;have z3:((a::e).map D.str).length<=Ç:=lz (by simp;lia);have sl:r8 (jK (aa 2) (cM) (bq (aj ay (eC (.int 1)) (aj aR Oc (eC (.int 3)))))) [À C,À (.obj 0),À (.obj 1),À (sD ks),Å,Å,Å,Å,Å,Å] m=.ok (sD (a::e)) (f++[.dead]):=by
  have L:tF (.obj 1) Å (À (1+P%3)) f=.ok (.obj f.length) (f++[.lst ((a::e).map .str)]):=by simp only[tF,ak,F,t4,aN,Α z3]
  have I:(Out.ok (.obj f.length) (f++[.lst ((a::e).map .str)]):Out D).fz=.ok (sD (a::e)) (f++[.dead]):=DR;generalize sD (a::e)=S at I |-;generalize(a::e).map D.str=TL at L I;generalize sD ks=K
  simp_all! [ud,tZ,m6,kW,e2,aO,show(0:Int)<3 from by decide,show(3:Int)<1073741824 from by decide,decide_true,abJ,jx,Ik,L,I]
 obtain⟨g,M,y,s3,f3,o⟩:=Gn j (s:=0) a e ks ∅ (λx l=>n x (Q x l)) (by intro z;rw[z]at A;simp at A) ∅ i (G:=f++[.dead]) U.app;have h1l:1<f.length:=(Á.mp F).1;have g3:M[1]?=À (.lst [.str a,.str b,.str c]):=f3.keep 1 _ (by simp;lia) ∅ (aH F);obtain⟨J,G4,u4,s4,l4,e4⟩:=dI j s3;have g4:=u4.get (q:=1) ∅ g3;obtain⟨v6,G5,u5,s5,l5,e5⟩:=dI j s4;have O:=u5.get (q:=1) ∅ g4;obtain⟨t,ms,mk,G6,X,r2,W,Z,r5,u⟩:=Ka (names:=a::e) (by simp;lia) t2 (λx l=>n x (Q x l)) (n0:=a) rfl y j (v6%6) ∅ s5;have h5l:1<G5.length:=(Á.mp O).1;have g6:=r5.keep 1 _ ∅ O;refine⟨g,t,ms,mk,ks,J%3,G6,by have:=y.le;simp at this;lia,λr V=>(y.all r V).ok,X,r2,A,i,W,g6,Z,λk=>?_⟩;unfold U9;refine(qW (v:=sD ks) (G':=m) ?_).trans ?_
 ·simp_all! [e1,Y]
 refine(qW (v:=cO a g) (G':=M) ?_).trans ?_
 ·generalize cO a g=S at o |-;have B:=sl;generalize sD (a::e)=N at B o;generalize sD ks=K at B o;simp only[Ü,Ý];rw[DK,yy,gZ]
  simp_all! [B,o]
 refine(qW (v:=.int (J%3)) (G':=G4) ?_).trans ?_
 ·simp_all! [e4,aO,show(0:Int)<3 from by decide,show(3:Int)<1073741824 from by decide,decide_true,abJ]
 refine xZ ?_;generalize cO a g=S at u |-;generalize t.d=td at u |-;generalize sD ks=K
 simp_all! [Q2,e5,aO,show(0:Int)<6 from by decide,show(6:Int)<1073741824 from by decide,decide_true,abJ,u]
 rfl
def Eu:Y2:=r8 (cT e7 oN [Â,Ä] (af (aj ay (eC (.int 1)) (aj aR Oc (eC (.int 9)))) (ah)) (bM) (aC 1 ao (af (aa 2) (ah))))
theorem Kq{f:D2}(d:jU f)(τ:DS)(c:τ[1]?=À (À (.obj 0))){H:DH}(A:aV 0 f H){o:DO}(m:H[1]?=À o):∃(vs:D2)(H':DH),vs≠[]/\vs.length<=12/\H'[1]?=À o/\Eu τ H=.ok (.con (vs.map .int)) H':=by
 obtain⟨v,G,x,p,C,y⟩:=dI d A;have g:=x.get (q:=1) ∅ m;have t:1<G.length:=(Á.mp g).1;have l:=kU (j:=1+v%9) ∅ ∅;have B:(mask [Â,Ä] τ)[1]?=À (À (.obj 0)):=by
  match τ,c with
  |a::b::r,c=>exact c
 obtain⟨vs,e,k1,k2,k3,u,k5⟩:=x6 d (s:=0) (n:=G.length) ∅ τ B ((ç 0 (1+v%9).toNat).map λ(k:Nat)=>.int (0+(k:Int))) [] (G++[.lst []]) (by simp;lia) p.app (jW _ _ _);have h:vs.length=(1+v%9).toNat:=‹k1›
 refine⟨vs,e.set G.length .dead,λz=>by rw[z]at h;simp at h;lia,∅,?_,?_⟩
 ·rw[Í ∅];exact u.keep 1 _ ∅ (aH g)
 ·have w:af (aj ay (eC (.int 1)) (aj aR Oc (eC (.int 9)))) (ah) τ H=.ok [.int (1+v%9)] G:=by
   simp_all! [c,y,aO,show(0:Int)<9 from by decide,show(9:Int)<1073741824 from by decide,decide_true,abJ,jx]
  have i:cT e7 oN [Â,Ä] (af (aj ay (eC (.int 1)) (aj aR Oc (eC (.int 9)))) (ah)) (bM) (aC 1 ao (af (aa 2) (ah))) τ H=.ok (.obj G.length) e:=by rw[pK,w,dQ,l];exact k5
  rw[Eu,ud,i];simp only[Out.fz,k3]
theorem Ni{c:D2}(e:jU c)(C S:D)(w:Int){t:T}(l:vU t){ms:PD}(f:ms.length=t.subs.length)(mk:Nat)(ks:P3)(m:ks.length=2)(h:∀x∈ks,Ð x=Ä){H:DH}(q:aV 0 c H){o:DO}(a:H[1]?=À o)(r:H[mk]?=À (.aU Â (aE ms))):
  ∃(t':T)(H':DH),vU t'/\t'.subs.length<=12/\H'[1]?=À o/\jb (rZ (b8 (aj kK (aa 5) (eC (.int 0)))) (b8 (aj kK (ai iT (af (aa 7) (ah))) (eC (.int 8))))) (aA 6 (aC 2 eN (af Eu (af (aa 3) (ah))))) (bD) [À C,À (.obj 0),À (.obj 1),À (sD ks),À S,À (.int w),À t.d,À (.obj mk),Å,Å] H=.nx [À C,À (.obj 0),À (.obj 1),À (sD ks),À S,À (.int w),À t'.d,À (.obj mk),Å,Å] H':=by
 have p:iT [.obj mk] H=.ok (.int ms.length) H:=by simp only[iT,r,ju]
 have B:rZ (b8 (aj kK (aa 5) (eC (.int 0)))) (b8 (aj kK (ai iT (af (aa 7) (ah))) (eC (.int 8)))) [À C,À (.obj 0),À (.obj 1),À (sD ks),À S,À (.int w),À t.d,À (.obj mk),Å,Å] H=.ok (decide (0<w)||decide (8<(ms.length:Int))) H:=by
  generalize sD ks=K;generalize t.d=g;by_cases b:0<w
  ·simp_all! [oj,aO,decide_eq_true b,Bool.true_or]
  ·simp_all! [oj,aO,decide_eq_false b,ħ,if_false,p,Bool.false_or]
 cases hb:(decide (0<w)||decide (8<(ms.length:Int)))with
 |true=>
  rw[hb]at B;obtain⟨vs,H',k1,k2,k3,k⟩:=Kq e [À C,À (.obj 0),À (.obj 1),À (sD ks),À S,À (.int w),À t.d,À (.obj mk),Å,Å] rfl q a;obtain⟨t',i,u,j⟩:=Nf vs k1 k2 ks m h H';refine⟨t',H',i,∅,k3,?_⟩;rw[tW,B,Cd];generalize Eu=E at k |-;generalize t'.d=n at j |-;generalize t.d=g at k |-;generalize sD ks=K at k j |-;generalize D.con (vs.map .int)=V at k j
  simp_all! [k,j]
 |false=>
  rw[hb]at B;have s:¬ 8<(ms.length:Int):=by have:=(Bool.or_eq_false_iff.mp hb).2;exact of_decide_eq_false this
  exact⟨t,H,l,∅,a,by rw[tW,B,Ce,mY]⟩
theorem Nj(C:D)(a b c:Str)(k:∀x∈[a,b,c],Ð x=Ä)(e:List dw)(hz:e.length<=5)(h:∀r∈e,vS r)(t:T)(p:vU t)(B:t.subs.length<=12)(i j o:X9){H:DH}(n:H[1]?=À (.lst [.str a,.str b,.str c])):
  au (aA 8 (aC 2 mJ (af (aa 4) (af (aa 6) (ah))))) (au (jb (rZ (b8 (aj (e8 Ä) (aC 2 ic (af (aa 4) (af (aa 6) (ah)))) (aa 8))) (b8 (aj (e8 Ä) (aC 2 AO (af (aa 4) (af (aa 6) (ah)))) (aj (tD Â) (aj az (aa 4) (eC (.int 0))) (aa 8))))) (b9 (eC (.bl Â))) (bD)) (au (e9 (gN 9) (aa 2) uK) (b9 (aC 4 bY (af (aa 4) (af (aa 6) (af (eC .bw) (af (aj (tD Â) (aj az (aa 4) (eC (.int 0))) (aa 8)) (ah)))))))))
   [À C,À (.obj 0),À (.obj 1),i,À (cO a e),j,À t.d,o,Å,Å] H=.rt (.bl Ä) H:=by
 have G:Ð a=Ä:=k a (by simp);have Y:=Ej a e hz h 12 t p B H;have Z:=Bj a e hz h t p ∅ H;have R:=RA a G e hz h t p ∅ H;have E:∀x∈cS (cE e t),Ð x=Ä:=λy M=>sO h t y ((dg _).mem_iff.mp M);have F:=u9 Ä (cS (cE e t)) (cS (cE e t)) E E H;have z:e8 Ä (sD (cS (cE e t))) (sD (cS (cE e t))) H=.ok (.bl Â) H:=by
  have:(Ä ^^ (cS (cE e t)==cS (cE e t)))=Â:=by simp
  rw[this]at F;exact F
 have m:∀x∈[a,b,c],tD Â (.str x) (sD (cS (cE e t))) H=.ok (.bl (decide (x∈cE e t))) H:=λx u=>Bk (sO h t) (k x u) H;have s:=m a (by simp);have N:=m b (by simp);have W:=m c (by simp);have w:∀x∈[a,b,c],bY [cO a e,t.d,.str x,.bl (decide (x∈cE e t))] H=.ok (.bl Ä) H:=λx u=>xN a e hz h t p B (À x) (k x u) H;have U:=w a (by simp);have I:=w b (by simp);have J:=w c (by simp);have O:bY [cO a e,t.d,.bw,.bl (decide (a∈cE e t))] H=.ok (.bl Ä) H:=xN a e hz h t p B Å G H;have l:az (cO a e) (.int 0) H=.ok (.str a) H:=by unfold cO;simp![uL]
 clear w m;have Q:e8 Ä (.bl (decide (a∈cE e t))) (.bl (decide (a∈cE e t))) H=.ok (.bl Â) H:=by generalize decide (a∈cE e t)=A;cases A<;>rfl
 generalize decide (a∈cE e t)=X at *;generalize decide (b∈cE e t)=A at *;generalize decide (c∈cE e t)=V at *;generalize cO a e=S at *;generalize t.d=g at *;generalize sD (cS (cE e t))=L at *;refine(qW (v:=L) (G':=H) ?_).trans ?_
 ·simp_all! [Y]
 simp only[Ü,Ý];refine(xZ (τ':=[À C,À (.obj 0),À (.obj 1),i,À S,j,À g,o,À L,Å]) (G':=H) ?_).trans ?_
 ·simp_all! [oj,Z,z,ħ,if_false,R,l,s,Q]
 have f:∀(x:Str)(q:Bool)(o9:X9),tD Â (.str x) L H=.ok (.bl q) H->bY [S,g,.str x,.bl q] H=.ok (.bl Ä) H->uK [À C,À (.obj 0),À (.obj 1),i,À S,j,À g,o,À L,À (.str x)] H=.nx [À C,À (.obj 0),À (.obj 1),i,À S,j,À g,o,À L,À (.str x)] H:=λx q o9 P K=>by
  unfold uK
  simp_all! [sI,pI,P,K,j0,Ŝ]
 refine(xZ (τ':=[À C,À (.obj 0),À (.obj 1),i,À S,j,À g,o,À L,À (.str c)]) (G':=H) ?_).trans ?_
 ·rw[fh,gZ]
  simp_all! [n]
  rw[yz n rfl (τ1:=[À C,À (.obj 0),À (.obj 1),i,À S,j,À g,o,À L,À (.str a)]) rfl,f a X Å s U,cV];rw[yz n rfl (τ1:=[À C,À (.obj 0),À (.obj 1),i,À S,j,À g,o,À L,À (.str b)]) rfl,f b A Å N I,cV];rw[yz n rfl (τ1:=[À C,À (.obj 0),À (.obj 1),i,À S,j,À g,o,À L,À (.str c)]) rfl,f c V Å W J,cV];exact Ag n rfl
 simp_all! [l,s,O]
theorem Kr(n:D2)(o:n.length<=63):∃G,Jz [.con (n.map .int)] []=.ok (.bl Ä) G:=by
 obtain⟨d,h,j⟩:=Gr n o [];have Y:dX [.con (n.map .int)] []=.ok (.obj 0) [BJ d 0]:=j;obtain⟨a,b,c,I,x,g,m,E,i⟩:=names3 h (.con (n.map .int)) (H:=[BJ d 0]) ⟨0,∅,rfl⟩ rfl;obtain⟨r,t,ms,mk,ks,w,F,k1,k2,k3,q,k5,u,s,B,k,S⟩:=Nh h (.con (n.map .int)) a b c x g m E;obtain⟨t',f,p,z,y,l⟩:=Ni h (.con (n.map .int)) (cO a r) w k3 q mk ks k5 u s B k;have e:=Nj (.con (n.map .int)) a b c g r k1 k2 t' p z (À (sD ks)) (À (.int w)) (À (.obj mk)) y;refine⟨[],?_⟩;unfold Jz;refine fV (R:=f) ?_ fC;have A:xg [À (.con (n.map .int)),Å,Å,Å,Å,Å,Å,Å,Å,Å] []=.rt (.bl Ä) f:=by
  unfold xg;refine(qW (v:=.obj 0) (G':=[BJ d 0]) ?_).trans ?_
  ·generalize D.con (n.map .int)=C at Y |-
   simp_all! [Y]
  refine(i _).trans ?_;refine(S _).trans ?_;exact(xZ l).trans e
 rw[á];show Av (cg 10 xg [.con (n.map .int)] [])=_;rw[bG];show Av (xg [À (.con (n.map .int)),Å,Å,Å,Å,Å,Å,Å,Å,Å] []).fn=_;rw[A,iR];rfl
end
end K24
end
namespace K24
noncomputable section
open PySem PySem.Spec L2 L3
theorem walk{l:ada}{q:ô}{b:P3}{X:(Str->Option Æ)->Heap->Prop}{Y:đ->Heap->Prop}{d:DefRec}{K:Params->Ë}(r:l.most=À 63)(e:d.params.defaults=[])
    (o:∀(w:đ)(h:Heap),Y w h->(K w.params).In h) (v:d.name="law")
    (F:∀(w:đ)(m:Str->Option Æ)(h:Heap),(K w.params).In h->h.Ns mainGlobals m->pT (K w.params) m defs/\lg m Rh/\Q7 (⟨l.prog,w,K w.params,m,h⟩:rH) "NoShape"/\FT (⟨l.prog,w,K w.params,m,h⟩:rH) "NoShape" [("NoShape",Ä)]/\uy (K w.params) m "marking" 3 w9 w6):
    acA q b X Y l.row.toRowW d [] (λf vs=>adi f vs):=
  Jk (n:=63) (k:=16) (x:="_law_script") (CX:=λw=>yr l.prog w) r (by decide) e ⟨rfl,by decide,by decide⟩ o (λw m y h t G hm=>by obtain⟨T,u,k0,k1,k2⟩:=F w m h t G;obtain⟨f,fd,Fu,i⟩:=T.at 30 rfl;rw[v,i]at hm;cases hm;exact⟨fd,_,FQ Fu (by intro _ _ _ _ _ _;exact uv λ_=>rfl),λc=>Ri (g:=⟨l.prog,w,K w.params,m,c⟩) ⟨T,u,k0,k1,k2⟩ Fu,λH a A s p j=>Q8 Kr s p j⟩) λ_ _ _ _ _ zz=>by obtain⟨_,_,_,_,_,_,_,_,_,z⟩:=zz;exact z
end
end K24
end
namespace PySem.W.Fast
def tw12898643380539017534:=0
def tw17089975655837278688:=0
def tw15241441802279641518:=0
def tw247591683415834888:=0
def tw6301152777016983644:=0
def tw8683129726230001099:=0
def tw7716905027541270372:=0
def tw11449179757296859547:=0
def tw14804376353721090773:=0
def tw4261774667142520373:=0
def tw3117855466466987676:=0
def tw7558538017391104348:=0
def tw3923493775544304071:=0
def tw15801431301537224700:=0
def tw5291643268370805685:=0
def tw12728302459172747465:=0
def tw14728988408444816819:=0
def tw13345386423297379400:=0
def tw17086266597545565542:=0
def tw1707954054390334123:=0
def tw13681592276508613390:=0
def tw2839696670931630823:=0
def tw18369174053907731552:=0
def tw1189752676481773093:=0
def tw11091864814736837622:=0
def tw16846050122354603205:=0
def tw4457205191826985129:=0
def tw12343149951071314779:=0
def tw11738090965375614416:=0
def tw8388691404472484152:=0
def tw756908052309727247:=0
def tw10482721789687289353:=0
def tw11536499608023917620:=0
def tw6393387976597010979:=0
def tw801300686886938552:=0
def tw805586503194742343:=0
def tw4982749409610658299:=0
def tw9782455842736012040:=0
def tw11082503312070251200:=0
def tw5185975491045909695:=0
def tw7775646734907761897:=0
def tw5434617116402772255:=0
def tw14473561902774861756:=0
def tw966401303829898382:=0
def tw14785485010822105757:=0
def tw145024479519145163:=0
def tw3280345928320529011:=0
def tw7873648613803362955:=0
def tw8212240601169254718:=0
def tw16900233464019168532:=0
def tw3800890309001705829:=0
def tw15589445008958119519:=0
def tw11496843752824069408:=0
def tw1791306381625874546:=0
def tw11269670868527662411:=0
def tw15987050126041999177:=0
def tw6795383470214405305:=0
def tw10242537445126613785:=0
def tw16015239700186444680:=0
def tw12274685683478701582:=0
def tw9338345563047966978:=0
def tw15725952230188321690:=0
def tw9807660744247616227:=0
def tw11757701416966184300:=0
def tw11847217590138780065:=0
def tw16300267685566049773:=0
def tw8353124128947729926:=0
def tw1288019873603753065:=0
def tw14893411958398314777:=0
def tw10549656304766786691:=0
def tw4077874817635485514:=0
def tw439132604976592957:=0
def tw16989790241371183777:=0
def tw11485565379984156385:=0
def tw791566242015616526:=0
def tw9984234820238967595:=0
def tw16829998435803333004:=0
def tw13313373665756606113:=0
def tw3961079711694285299:=0
def tw753347563175198643:=0
def tw79321722532839227:=0
def tw1062367944869697088:=0
def tw7248615594281685032:=0
def tw15667672765602104159:=0
def tw2110535970486047187:=0
def tw14000383764567946508:=0
def tw7412978289221654486:=0
def tw89624138777562233:=0
def tw16598138325964513365:=0
def tw8279026799478405369:=0
def tw1223779085457463628:=0
def tw18133326175442865120:=0
def tw8099233109993083519:=0
def tw7873934884947526919:=0
def tw3724082084532999940:=0
def tw2876493145985972732:=0
def tw13786578042366498099:=0
def tw467816614709391834:=0
def tw627785562856707400:=0
def tw12732310720699191210:=0
end PySem.W.Fast
open PySem PySem.W PyProof.Rows
set_option maxRecDepth 100000 in
set_option maxHeartbeats 0 in
theorem PySem.Challenge.cw_pathshape_k24_whole_names_by_all_choices_holds : PySem.Challenge.rw_pathshape_k24_whole_names_by_all_choices.Holds := by
  w_on;o_law;z_head;(case hw=>w_witness2)
  k_fill
  refine L3.Jj (λP=>rfl) (K24.walk (l:=PySem.Challenge.rw_pathshape_k24_whole_names_by_all_choices) rfl rfl (λ_ _ Y=>Y) rfl ?F)
  case F=>
    intro w mg h KX G
    refine ⟨?_,?_,?_,?_,?_⟩
    · delta K24.defs
      repeat (refine' L3.pT.Jh KX G ?_ ?_ ?_ ?_ ?_;any_goals exact rfl)
      exact trivial
    · delta K24.Rh
      repeat (refine L3.lg.Jh KX G ?_ ?_;exact rfl)
      exact trivial
    · refine' ⟨_,PySem.W.mg_of KX G (L3.qK ?_),?_⟩;any_goals exact rfl
      kernel_rfl
    · refine' L3.FT.one (PySem.W.mg_of KX G (L3.qK ?_)) (PySem.W.mg_of KX G (L3.qK ?_)) ?_;any_goals exact rfl
    · refine' L3.uy.Z4 KX G ?_ ?_ ?_ ?_ ?_;any_goals exact rfl
