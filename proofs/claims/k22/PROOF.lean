import PyProof.Rows.All
import Wide.All
import OpenK.AllK
import Wide.FinOn
import Lean
import PyProof.EqAt
import PyProof.EqKinds
import PyProof.TupleCall
import PyProof.StrWalks
import KE.KTryMore
import PyProof.ZipIter
import PyProof.Rows.Range3
import PyProof.Draws
import PyProof.WalksMore
import PyProof.ExcBaseAll.ValueError
import PyProof.StrReplace2
import PyProof.FactsAll.range_2
import KE.KRevIter
import KE.KNest
import KE.BitLaws
import PySem.Challenge.RW_pathshape_k22_marked_trees
set_option Elab.async false
set_option linter.all false
set_option maxRecDepth 100000
set_option maxHeartbeats 4000000
set_option compiler.extract_closed false
set_option genSizeOf false
set_option genInjectivity false
open Option renaming some->À,none->Æ
open PySem renaming wpAny_bind->Á,Value->Å,sizeLine->Ç,wpAny_pure->È,Shared->Ê,wpAny->Ú,starEach->æ,wpAny_newObj_type->ë,Program->ð,wpAny_field->ú,wpAny_callSpecial?_slot->þ,wpAny_call_entry->ÿ,wpAny_mono->Ă,World->Ć,wpAny_Call_Name_kw->Ĉ,wpAny_setField->đ,wpAny_holding->ė,wpAny_askSetting->Ħ,wpAny_setState_of->ī,wpAny_seqItems->ĭ,wpAny_typeNameOfWhole_keyiter->Ń,wpAny_truthy_bool->ń,wpAny_setField_rec->ŗ,wpAny_passesOwn->ř,Builtin->ŝ,mem_of_lookup->ť,wpAny_getItem_str_slice->ũ,wpAny_pyIter_tuple->Ű,wpAny_dictEntries->ŷ,wpAny_isInstance->gV,wpAny_attempt->aaj,wpAny_load->aaq,wpAny_rule->aat,wpAny_pyIter_list->aaJ,wpAny_pyIter_enum->aaL,wpAny_storeName_local->aaP,wpAny_pyIter_revIter->aa5,wpAny_letGo->aa6,wpAny_of_eq->aa8,wpAny_updateSeq_pair->aba,wpAny_execs_nil->abe,wpAny_specialOf->abf,wpAny_updateSeq->abh,wpAny_setEntries_of->abr,wpAny_newFunctionEnv_cells->abE,wpAny_fieldsOf->abK,wpAny_assign_Name->abW,wpAny_pyIter_slot->ab2,wpAny_comprehension_free->ab6,wpAny_onRaise->ab7,wpAny_typeOf->acp,wpAny_dictEpoch->acA,wpAny_ite_split->acB,wpAny_isOneOf_keyiter->acG,wpAny_notOrdered_dict->acH,wpAny_throw->acQ,wpAny_newTuple->acT,wpAny_standAt->ac9,wpAny_handled->ada,wpAny_storeSet_of->adx,wpAny_setEpoch_of->adz,wpAny_execs_cons->adF,wpAny_Dict_empty->adG,wpAny_pyIter_zip->adK,wpAny_loadPart'->adU,wpAny_Name->ad2,call->ad3,wpAny_call->ad5
open List renaming getElem?_eq_some_iff->Â,getElem?_eq_getElem->Í,getElem?_append_left->Î,map_cons->Ï,getElem?_append_right->Ò,length_cons->Ó,getElem?_set_ne->Ô,replicate->Ö,mem_cons->Ù,length_map->Û,size_toArray->Ü,length_append->Ý,getElem?_map->Þ,set_cons_succ->ß,set_cons_zero->à,append_assoc->â,nil_append->ã,mem_map->ä,mem_cons_of_mem->å,mem_of_getElem?->ç,mem_append->ì,mem_singleton->ï,getElem?_set->ñ,zipWith->õ,append_nil->ö,map_append->ø,getElem?_eq_none->ù,dropLast_concat_getLast->Ā,lookup_cons->ą,mem_cons_self->ć,eq_nil_of_length_eq_zero->ĉ,replicate_succ->Ċ,getElem?_eq_none_iff->Č,foldl_cons->Ď,length_nil->ď,nodup_append->Đ,range'->Ē,getElem?_mapIdx->ē,ext_getElem?->Ĕ,map_map->ĕ,take_of_length_le->Ę,nodup_cons->ę,mem_zipIdx_iff_getElem?->Ě,not_mem_nil->ě,any_eq_true->Ĝ,length_pos_iff->ğ,mem_append_right->Ġ,mem_append_left->ġ,cons_append->ħ,filterMap_cons->ĩ,prefix_append->ı,filter_cons_of_pos->ĳ,take_length->Ĵ,map_nil->ĸ,drop_of_length_le->ĺ,getElem_of_mem->Ļ,mem_filter->ļ,drop_eq_getElem_cons->ľ,getElem_inj->ŀ,flatten_cons->Ņ,reverse_cons->Ň,getElem?_cons_succ->ň,forIn_cons->Ŋ,drop_eq_nil_of_le->ŏ,lookup->ő,length_drop->Œ,all_eq_true->œ,getElem?_take->ŕ,find?_cons->Ś,mem_of_mem_take->ş,filter_eq_self->Ŧ,map_congr_left->ŧ,getElem?_replicate->Ũ,filter_cons_of_neg->Ŭ,length_eq_zero_iff->ŭ,range->Ů,pairwise_cons->ű,filter_eq_nil_iff->ų,length_filter_le->Ŵ,take_append_drop->ŵ,mem_of_mem_drop->Ž,length_take->ſ,drop_append->aaa,mapIdx_cons->aab,prefix_refl->aac,append_cancel_left->aaE,zipWith_cons_cons->aaN,take_succ_eq_append_getElem->aaO,getElem?_toArray->aaR,take_eq_take_iff->aaT,any_cons->aaW,map_take->aaX,map_drop->aaZ,length->aa3,take_append_of_le_length->abc,take_left'->abo,take_set_of_le->abq,mem_range->abB,mem_filterMap->abD,zip_cons_cons->abI,length_mapIdx->abJ,append_of_mem->abN,getElem?_zip_eq_some->abP,foldl_append->ab4,flatMap_cons->ab5,getElem_mem->acg,pairwise_singleton->ach,isEmpty_nil->aci,map_reverse->ack,getElem?_cons_zero->acm,getElem?_set_self->acn,length_pos_of_mem->acw,of_mem_zip->acz,dropLast_eq_take->acD,getElem?_reverse->acE,set_append_right->acF,getElem?_zipWith->acJ,singleton_append->acK,nodup_nil->acN,forIn_nil->acS,length_eraseIdx->acU,getElem?_zipIdx->acX,drop_zero->acY,zipWith_append->ac5,reverse_append->ac6,replicate_zero->ac7,all_cons->ade,sum_cons->adf,foldl->adi,getElem_range->adk,getElem?_drop->adp,mem_replicate->adq,any_map->adu,any_eq_false->adD,mem_range'_1->adE,drop_length->adM,mem_flatMap->adN,reverse_nil->adO,flatMap_nil->adP,length_set->adR,sum_append->adT,mem_mapIdx->ad1,Perm->aea
open Bool renaming true->Ã,false->Ä,false_ne_true->í,and_eq_true->č,false_eq_true->Ĥ,not_true->Ķ,true_and->ł,false_and->Ÿ,and_assoc->Ż,and_true->aal,eq_iff_iff->aao,or_eq_true->abg,and_false->abH,false_xor->abO,xor_self->ace,and_eq_true_iff->acV,not_false->ac0
open PySem.Heap renaming get?_push_of_some->É,get?_push_size->Ð,lt_size->Õ,get?_update_other->è,get?_update_self->ò,size_push->ā,SameBut->Į,get?_push_ne->ab0,FlyingW->acs,of_hide->acu,ExtBut->acO
open Nat renaming le_refl->Ë,lt_of_lt_of_le->Ø,ne_of_lt->á,zero_le->ê,le_trans->ü,succ_pos->ý,lt_irrefl->Ĭ,zero_add->İ,lt_succ_self->Ĳ,lt_succ_of_lt->Ŷ,ne_of_gt->ž,add_sub_cancel_left->aaD,le_succ->aa7,succ_mul->acq,mul_le_mul_right->acZ,not_lt->ado,le_of_lt->ads,add_zero->adw,sub_zero->adA,succ_ne_self->adH,min_eq_right->adL,min_eq_left->adX
open PySem.W renaming Frag->Ì,fnOf->Ą,keepIn->Ė,emptyDict->ķ,kia_one->ŉ,codeIn->Ŕ,nsIn->Ŝ,kitOne->Ū,instObj->aan,hideAll->abd,of_hideAll->abA,callWith_K->abG,methodObj->abV,cellsFrom_some->aco,hideAll_none->acM,exmOne->acP,findIn->acR,hideAll_get->ac1,WalkO->adb,codeRec_of->adg,kitx_list->adt,OpenLaw->adV,mg_of->ad8
open PySem.PyData renaming strOk->Ñ,str->Ī,canLayAll0->ņ,depthAll->ś,canLay0->ź,eqv->aas,list->aaF,eqvAll->aa1,depth->abu
open Option.some renaming inj->é
open Eq renaming trans->î
open Int renaming toNat_natCast->ó,emod_lt_of_pos->aau,emod_nonneg->abp,zero_add->acy,toNat_of_nonneg->ac8,le_trans->adC,le_refl->adQ
open Ne renaming symm->ô
open PyProof.Rows renaming StrsAre->û,callWith_type1->ă,envOfC->Ō,slot_tuple_getitem->Ť,callWith_builtin1->aaU,sortedS->abb,entry_list_sort->abl,list_sort_treeK->abm,slot_list_sort->abw,args_list_sort->abx,sorted_out_str->aby,sortedHeap_old->abz,strKind_oneLt->abL,sortedHeap_at->abM,plain_sorted->abQ,entry_sorted->abR,args_sorted1->abS,keyKind_strs->abT,kind_sorted->ab9,boot_sorted->acd,seqObj->ac3,arrOf->adn
open PySem.Obj renaming mapFields->ċ,data_mapFields->ģ,isFreed_of_fields->Ŀ,mapSeq->š,cls_mapFields->abY,data_mapDictKeys->acW,mapDictKeys->ad0,putSet->ad7
open Array renaming length_toList->ĝ,getElem?_eq_some_iff->Ĺ,getElem?_eq_getElem->Ľ,getElem?_eq_none->aaI,getElem?_toList->acC,toList_push->ady
open PySem.Heap.SameBut renaming update->Ğ
open False renaming elim->Ģ
open PySem.Str renaming ofString->ĥ,length->adh
open PySem.Builtin.SmallTypes renaming nextOf->Ĩ,ownedTupleIsFree->aak
open PySem.F renaming slot_dict_keyiterator_next->į,slot_tuple_iterator_next->Ŗ,plainAttrs_list->ū,called_set->Ų,excBase_ValueError->Ź,args_tuple_add_2->aah,entry_tuple_add->aaw,slot_tuple_add->aaG,slot_dict_get->aaQ,args_dict_keyiterator_next_1->aaV,entry_dict_keyiterator_next->aa9,args_tuple_iterator_next_1->abi,slot_zip_next->abj,entry_tuple_iterator_next->abv,plain_extend_loop->abU,args_dict_get_3->acf,plain_list_iadd->acj,entry_dict_get->acr,slot_list_extend->adl,args_zip_next_1->adv,slot_dict_clear->adB,slot_dict_iter->adI,entry_zip_next->adJ,slot_int_rmul->adS,slot_dict_len->adW,plain_set_new->adY,slot_set_iter->adZ
open PySem.Builtin.List renaming listExtendWith->ĵ,listTooLong->Ł,listLengthHint->Ő,listSameRef->Ţ
open PySem.Builtin.Dict_items renaming ownsTuple->ŋ
open PyProof.Rows.F renaming plain_set_update_loop->ō,entry_set_update_loop->aaf
open List.IsPrefix renaming trans->Ŏ
open PySem.Builtin.Slice renaming slicePlaces->Ř,sliceAdjust->aad,sliceApplied->abF
open PySem.Around renaming under_plainId->Ş
open PySem.Builtin.Tuple renaming tupleExact->Š
open PySem.AutoSeq1 renaming wpAny_loadPart'->ţ
open True renaming intro->ů
open PySem.SetTable renaming grown->ż,below->aaM
open PySem.Calls renaming call_function_entry->aae,spliced_cons->aar,callWith_builtin->aaH,evalArgs_plain->aa4,Name_function_global->abC,spliced_nil->abX
open PySem.Paired renaming length->aag
open PySem.Builtin.Str renaming occurrences->aav,glued->ab1
open PySem.Txt renaming slice->aax,slice_le->abt
open Classical renaming propDecidable->aaB
open PyProof.Rows.IsTup renaming new->aaK,new->ad9
open PySem.StrLaws renaming glued_eq_join->aaS
open Function renaming comp->aa0
open PySem.W.Frag renaming In->abk
open PySem.PassesOwn renaming leaving->abZ
open PySem.SetTable.below renaming go->ab3
open List.Perm renaming eq_of_pairwise->ab8
open PySem.pickOrder renaming go->acv
open PySem.Builtin.Dict renaming showsAll->acI
open Sum.inr renaming inj->acL
open PySem.EntryCells renaming newEntry->ac2
open PySem.Builtin.Int renaming intBits->ac4
open Or renaming inr->adj,inl->ad4
open PySem.ScopeKind renaming function->adm
open PySem.Walks renaming list->ad6
local macro_rules|`(∅)=>`(by lia)
local macro_rules|`(‹$x›)=>`(by simpa using $x)
local macro_rules
 | `(tactic| lia)=>`(tactic| first | decide | lia (splits:=9) | omega)
local macro_rules
 | `(tactic| symm)=>`(tactic| decide +kernel)
local macro_rules|`(⋯)=>`(by simp)
theorem Α{c:Prop}{_:Decidable c}(h:c){a:Sort u}{t e:a}:ite c t e=t:=if_pos h
theorem Β{c:Prop}{_:Decidable c}(h:¬c){a:Sort u}{t e:a}:ite c t e=e:=if_neg h
section
set_option hygiene false in
local macro_rules
|`(tactic|accm_mu)=>`(tactic|first|exact ý _|exact (Inv.os (by assumption)).2|assumption|lia)
|`(tactic|rfl')=>`(tactic|(first | (rw [q] at ok;exact ok.elim) | (rw [q] at aQ;exact aQ.elim) | (rw [q] at e;cases e;done) | (rw [g] at ok;exact ok.elim) | (rw [g] at q;cases q;done) | (rw [g] at h;cases h;done) | (rw [g2] at ok;exact ok.elim) | (rw [g1,g2] at ok;exact ok.elim) | (rw [q1] at ok;exact ok.elim) | exact ok.elim))
|`(tactic|left)=>`(tactic|(exact ok.elim))
|`(tactic|right)=>`(tactic|(rw [e] at ok;exact ok))
|`(tactic|nofun)=>`(tactic|(refine ⟨τ,ρ,G,ab,?_⟩))
|`(tactic|ac_nf)=>`(tactic|(dsimp only at ok))
|`(tactic|k_go)=>`(tactic|(rw [e] at ok;intro v H' ρ' f' aZ r';obtain ⟨τ2,ρ2,G2,d2,bY,r2,aQ⟩:=ok v H' ρ' f' aZ r'))
|`(tactic|k_in)=>`(tactic|(dsimp only))
|`(tactic|k_is)=>`(tactic|(rw [q] at ok))
|`(tactic|k_ne)=>`(tactic|(obtain ⟨f0,f1,f2,f3,f4,f5⟩:=hf it (by simp)))
|`(tactic|kd_p)=>`(tactic|(intro pins s σ H Q I h))
|`(tactic|kt_k)=>`(tactic|(rw [e] at ok))
|`(tactic|room)=>`(tactic|(rw [g] at ok))
|`(tactic|w_up)=>`(tactic|(cases e))
|`(tactic|x_go)=>`(tactic|(obtain ⟨τ,ρ,G,ab,ok⟩:=h))
|`(tactic|z_go)=>`(tactic|(intro pins s σ0 H x y v u Q I rx ry zu;obtain ⟨σ,τ,ρ,G,d,e,ab,r1,r2,ok⟩:=zu))
|`(tactic|by_in)=>`(tactic|(intro pins s σ H x y v u Q I rx ry h))
|`(tactic|cb_eq)=>`(tactic|(exact ⟨λe=>(by cases e),λx e=>(by cases e)⟩))
|`(tactic|f_are)=>`(tactic|(simpa using this))
|`(tactic|f_int)=>`(tactic|(rw [q] at e;w_up))
|`(tactic|f_len)=>`(tactic|(unfold Rep at r2))
|`(tactic|f_tup)=>`(tactic|(rw [e1] at ok))
|`(tactic|gn_on)=>`(tactic|(have h0:(0:Nat)<=Ç:=ê _))
|`(tactic|gp_on)=>`(tactic|(rw [e2] at ok))
|`(tactic|k_all)=>`(tactic|(simp only [ß,à]))
|`(tactic|k_asm)=>`(tactic|(cases d<;>try exact ok.elim))
|`(tactic|k_cls)=>`(tactic|(intro pins s σ0 H xs us Q I r zu))
|`(tactic|k_dec)=>`(tactic|(unfold Rep at r))
|`(tactic|k_end)=>`(tactic|(exact ok))
|`(tactic|k_exc)=>`(tactic|(have:=ok (.bl _) H ρ .refl ab (by unfold Rep;rfl);f_are))
|`(tactic|k_few)=>`(tactic|(obtain ⟨t,rfl⟩:=rx))
|`(tactic|k_get)=>`(tactic|(refine Á ?_))
|`(tactic|k_mem)=>`(tactic|(obtain ⟨τ,ρ,G,ab,ok⟩:=zz))
|`(tactic|k_not)=>`(tactic|(exact λH' ρ' f aZ=>ok σ H' ρ' f aZ))
|`(tactic|k_one)=>`(tactic|(have q:=ok (.bl _) H ρ .refl ab (by unfold Rep;rfl)))
|`(tactic|k_put)=>`(tactic|(rw [e1] at e2;cases e2))
|`(tactic|k_sub)=>`(tactic|(obtain ⟨x,rfl,rx⟩:=f7 rs))
|`(tactic|k_upd)=>`(tactic|(refine Á (È ?_)))
|`(tactic|kcf_m)=>`(tactic|(have z1:(1:Nat)<=Ç:=lz ∅))
|`(tactic|kcj_m)=>`(tactic|(intro pins s σ0 H x xs v us Q I rx E2 zu;obtain ⟨σ,τ,ρ,G,d,ds,ab,rd,wc,ok⟩:=zu;k_asm))
|`(tactic|kd_in)=>`(tactic|(subst hP hw hK))
|`(tactic|kj_on)=>`(tactic|(k_is;left))
|`(tactic|kl_no)=>`(tactic|(rw [eb] at ok;exact λσ2 H2 ρ2 f2 bY=>⟨τ2,ρ2,G2,bY,f.trans f2,ok.fut f2⟩))
|`(tactic|kln_w)=>`(tactic|(k_cls;obtain ⟨σ,τ,ρ,G,ds,ab,rs,ok⟩:=zu))
|`(tactic|kpc_g)=>`(tactic|(subst e))
|`(tactic|kpf_c)=>`(tactic|(refine Á (Á (ī ho rfl D.fits ?_))))
|`(tactic|ks_is)=>`(tactic|(rw [e3] at ok))
|`(tactic|ksr_p)=>`(tactic|(have h':bT e=Ã/\aq es=Ã:=by simpa [aq] using h))
|`(tactic|kst_p)=>`(tactic|(exact ⟨o,e,λv z=>by rw [d] at z;cases z⟩))
|`(tactic|kt_le)=>`(tactic|(rw [eb] at ok;k_end))
|`(tactic|kw_lk)=>`(tactic|(refine ⟨τ,ρ1,G1,gY,?_⟩))
|`(tactic|l_bnd)=>`(tactic|(exact ⟨τ2,ρ2,G2,bY,aQ⟩))
|`(tactic|l_fit)=>`(tactic|(exact h))
|`(tactic|l_idx)=>`(tactic|(refine Á (Á (Ħ (È ?_)));show Ú _ _ (if cG w=Ã then _ else _) _ _ _))
|`(tactic|l_out)=>`(tactic|(rw [Β (by simp)]))
|`(tactic|mg_lt)=>`(tactic|(kt_k;exact λv H' ρ' f aZ r=>⟨τ,ρ',G',d,aZ,r,ok.fut f⟩))
|`(tactic|o_new)=>`(tactic|(room;left))
|`(tactic|o_rec)=>`(tactic|(cases q))
|`(tactic|o_src)=>`(tactic|(exact aQ.elim))
|`(tactic|sr_in)=>`(tactic|(exact I1.sN (Ë _) (I1.hok.fresh (Ë _))))
abbrev D1:=List (List Int)
abbrev D2:=List Int
abbrev L9:=List Bool
abbrev N0:=List (PySem.Addr×PySem.Obj)
abbrev P3:=List PySem.Str
abbrev Q1:=List PySem.Addr
abbrev T0:=List (Nat×PySem.Str)
abbrev T1:=Option PySem.Value
abbrev T2:=List PySem.Value
abbrev U2:=List PySem.Expr
abbrev W1:=Array PySem.Value
namespace L2
noncomputable section
open PySem PySem.Spec PyProof.Rows
variable{pins fh:N0}{s s':Ê}{K:Ì}{u:Å}{x:Str}{us ws its:List Å}{P:ð}{b a it:Addr}{w:Ć}{A:Around}{t' i n tk j:Nat}{Q E:Å->Ê->Prop}{h base:Heap}{mg:Str->Option Å}{ch:Q1}{ps N:P3}{fd:FuncData}{tg e c iter:Expr}{g:Int->Int->Int}{op op':CmpOp}{body:List Stmt}{es:U2}{f:Å->Å->Sem Å}{C:Int->Int->Prop}{g':Array GenState}{vs:Array Å}{p:Addr×Obj}{sc:Scope}{β α:Type}{k':Bool}{pos' pos:Pos}{lo hi:Int}
abbrev Key:=Sum Int Str
noncomputable def sM:Key->Å->Bool
 |.inl k,v=>Value.isInt k v
 |.inr x,v=>Value.isStrOf x v
def V0(w:Ć):Key->Int
 |.inl k=>hashInt k
 |.inr x=>hashStr w x
theorem cT:∀{k:Key}{v:Å},sM k v=Ã->(∃i t,k=Sum.inl i/\v=Value.int i t)\/(∃x t,k=Sum.inr x/\v=Value.str x t)
 |.inl i,v,h=>by obtain⟨t,e⟩:=Value.isInt_shape (k:=i) (v:=v) h;exact .inl ⟨i,t,rfl,e⟩
 |.inr x,v,h=>by obtain⟨t,e⟩:=Value.isStrOf_shape (x:=x) (v:=v) h;exact .inr ⟨x,t,rfl,e⟩
theorem Et(i:Int)(t:Tok):sM (.inl i) (.int i t)=Ã:=by simp[sM,Value.isInt]
theorem Eu(x:Str)(t:Tok):sM (.inr x) (.str x t)=Ã:=by simp[sM,Value.isStrOf]
theorem OJ(a b:Int):decide ((Sum.inl a:Key)=Sum.inl b)=(a==b):=by
 by_cases e:a=b
 ·kpc_g;simp
 ·have h:¬ (Sum.inl a:Key)=Sum.inl b:=λq=>e (Sum.inl.inj q);rw[decide_eq_false h];exact(beq_eq_false_iff_ne.mpr e).symm
theorem OL(a b:Str):decide ((Sum.inr a:Key)=Sum.inr b)=decide (a=b):=by
 by_cases e:a=b
 ·kpc_g;simp
 ·have h:¬ (Sum.inr a:Key)=Sum.inr b:=λq=>e (acL q);rw[decide_eq_false h,decide_eq_false e]
theorem OM(a:Int)(b:Str):decide ((Sum.inl a:Key)=Sum.inr b)=Ä:=decide_eq_false (λq=>nomatch q)
theorem ON(a:Str)(b:Int):decide ((Sum.inr a:Key)=Sum.inl b)=Ä:=decide_eq_false (λq=>nomatch q)
def cC(prog:ð)(w:Ć):PySem.KeyKind prog w Key where
 is:=sM
 hash:=V0 w
 inj:=λv a b m l=>by
  rcases cT m with⟨i,t,rfl,rfl⟩|⟨x,t,rfl,rfl⟩
  ·rcases cT l with⟨j,u,rfl,e⟩|⟨y,u,rfl,e⟩
   ·injection e with e1 _;rw[e1]
   ·exact nomatch e
  ·rcases cT l with⟨j,u,rfl,e⟩|⟨y,u,rfl,e⟩
   ·exact nomatch e
   ·injection e with e1 _;rw[e1]
 byValue:=λk v h=>by rcases cT h with⟨i,t,rfl,rfl⟩|⟨x,t,rfl,rfl⟩<;>rfl
 pyHash:=λd h=>by
  rcases cT d with⟨i,t,rfl,rfl⟩|⟨x,t,rfl,rfl⟩
  ·exact wpAny_pyHash_int h
  ·exact wpAny_pyHash_str h
 eqBool:=λo d h=>by
  rcases cT o with⟨i,t,rfl,rfl⟩|⟨x,t,rfl,rfl⟩
  ·rcases cT d with⟨j,u,rfl,rfl⟩|⟨y,u,rfl,rfl⟩
   ·rw[OJ]at h;exact wpAny_eqBool_int h
   ·rw[OM]at h;exact SeqAt.EqAt.int_str i t y u _ _ _ _ h
  ·rcases cT d with⟨j,u,rfl,rfl⟩|⟨y,u,rfl,rfl⟩
   ·rw[ON]at h;exact SeqAt.EqAt.str_int x t j u _ _ _ _ h
   ·rw[OL]at h;exact wpAny_eqBool_str h
 «strs»:=λk x t v h=>by
  rcases cT h with⟨i,u,rfl,e⟩|⟨y,u,rfl,e⟩
  ·exact nomatch e
  ·injection e with e1 _;subst e1;cases v<;>rfl
theorem yZ(prog:ð)(w:Ć)(i:Int)(t:Tok):(cC prog w).is (.inl i) (.int i t)=Ã:=Et i t
theorem y9(prog:ð)(w:Ć)(x:Str)(t:Tok):(cC prog w).is (.inr x) (.str x t)=Ã:=Eu x t
inductive V where
 |bD|bl (b:Bool)|int (i:Int)|str (x:Str)|Sy (b:Array UInt8)|V1 (b:UInt64)|ref (a:Addr)|ty (n:String)
 deriving DecidableEq
abbrev X1:=List V
variable{xs ys:X1}{v y:V}
def RelV:V->Å->Prop
 |.bD,u=>u=Value.none
 |.bl b,u=>u=Value.bool b
 |.int i,u=>∃t,u=Value.int i t
 |.str x,u=>∃t,u=Value.str x t
 |.Sy b,u=>∃t,u=Value.bytes b t
 |.V1 b,u=>∃t,u=Value.float b t
 |.ref a,u=>u=Value.ref a
 |.ty n,u=>u=Value.type n
abbrev Vals:X1->List Å->Prop:=Paired RelV
theorem Vals.length(r:Vals xs us):xs.length=us.length:=aag r
theorem Vals.get:∀{xs:X1}{us:List Å}{i:Nat}{x:V},Vals xs us->xs[i]?=À x->∃u,us[i]?=À u/\RelV x u
 |_,_,_,_,.nil,e=>by simp at e
 |_,_,0,_,.cons r _,e=>by simp at e;kpc_g;exact⟨_,rfl,r⟩
 |_,_,i+1,x,.cons _ t,e=>by obtain⟨u,k,d⟩:=Vals.get (i:=i) (x:=x) t ‹e›;exact⟨u,‹k›,d⟩
theorem Vals.set{x:V}(r:RelV x u):∀{xs:X1}{us:List Å}(i:Nat),Vals xs us->Vals (xs.set i x) (us.set i u)
 |_,_,_,.nil=>.nil
 |_,_,0,.cons _ t=>.cons r t
 |_,_,i+1,.cons q t=>.cons q (Vals.set r i t)
theorem Vals.append(h:Vals xs us)(s:Vals ys ws):Vals (xs++ys) (us++ws):=by
 induction h with
 |nil=>exact s
 |cons r t d=>exact .cons r d
theorem Vals.take:∀{xs:X1}{us:List Å}(n:Nat),Vals xs us->Vals (xs.take n) (us.take n)
 |_,_,0,_=>.nil
 |_,_,_+1,.nil=>.nil
 |_,_,n+1,.cons r t=>.cons r (Vals.take n t)
theorem Vals.drop:∀{xs:X1}{us:List Å}(n:Nat),Vals xs us->Vals (xs.drop n) (us.drop n)
 |_,_,0,r=>r
 |_,_,_+1,.nil=>.nil
 |_,_,n+1,.cons _ t=>Vals.drop n t
def rR:Option V->Option Å->Prop
 |some v,À u=>RelV v u
 |none,Æ=>True
 |_,_=>False
def KV{d:Type}:List (d×V)->List (d×Å)->Prop:=Paired λ(p:d×V)(q:d×Å)=>p.1=q.1/\RelV p.2 q.2
noncomputable def kV:Key->V
 |.inl i=>.int i
 |.inr x=>.str x
inductive HO where
 |lst (xs:X1)
 |tup (xs:X1)
 |dK (kvs:List (Key×V))|dT (kvs:List (List Key×V))
 |set (S:Int->Bool) (n:Nat)
 |ins (C dx:Addr) (fs:List (Str×V))
 |own (x:Addr)
 |xd (fs:List (Str×V))
 |met (f x:Addr)
 |Ew (lo hi:Int)
 |eB (o:Obj) (u:HO)
 |oB (ps:Array Å)
 |ext (φ:Heap->Prop)
variable{o:HO}
abbrev Hp:=Addr->Option HO
variable{H:Hp}
noncomputable def upd(H:Hp)(a:Addr)(o:HO):Hp:=λb=>if b=a then À o else H b
theorem bz:upd H a o a=À o:=by unfold upd;rw[Α rfl]
theorem aI(h:b≠a):upd H a o b=H b:=by unfold upd;rw[Β h]
theorem d8{u:HO}(h:H a=À o)(h':H b=À u)(d:o≠u):a≠b:=by intro e;kpc_g;rw[h]at h';exact d (é h')
theorem cO(h:H a=À o)(h':H b=Æ):a≠b:=by intro e;kpc_g;rw[h]at h';cases h'
section
variable(P:ð)(w:Ć)
def cU(H:Hp)(h:Heap)(a:Addr):HO->Prop
 |.lst xs=>xs.length<=Ç/\∃(its:List Å)(n:Nat),Vals xs its/\h.get? a=À {cls:=.type "list",data:=.seq its.toArray n}
 |.tup xs=>xs.length<=Ç/\∃its:List Å,Vals xs its/\IsTup h a its.toArray
 |.dK kvs=>kvs.length<=Ç/\(a==sysModules)=Ä/\∃vs,KV kvs vs/\h.DictOf (cC P w) a vs
 |.dT kvs=>kvs.length<=Ç/\(a==sysModules)=Ä/\∃xs:List (List Key×Addr×Å),
   Paired (λ(p:List Key×V)(q:List Key×Addr×Å)=>p.1=q.1/\H q.2.1=À (.tup (p.1.map kV))/\RelV p.2 q.2.2) kvs xs /\
   ∃o es ep,h.get? a=À o/\o.ExactDict/\o.data=.dict es ep/\es.toList=xs.map (entryOfKey (tupleKind (cC P w)))/\(xs.map (·.1)).Nodup
 |.set S n=>h.SetOf (intKind P w) a S n
 |.ins C k d=>H k=À (.own a)/\d.length<=1000/\k≠a/\h.get? a=À (aan C k) /\
   ∃m,h.Ns1 k m/\(∀f,rR (d.lookup f) (m f))/\PySem.Within m (d.map (·.1))
 |.own _=>∃o,h.get? a=À o
 |.xd d=>∃m,h.Ns1 a m/\∀f,rR (d.lookup f) (m f)
 |.Ew lo hi=>∃t u v,h.get? a=À {cls:=.type "range",data:=.fields #[.int lo t,.int hi u,.int 1 v]}
 |.eB o u=>h.get? a=À o/\cU H h a u
 |.oB ps=>h.get? a=À {cls:=.none,data:=.fields ps}
 |.met f x=>h.get? a=À (abV (.ref f) (.ref x))
 |.ext l=>l h/\(∃o,h.get? a=À o)/\∀z r:Heap,l z->(∀o,z.get? a=À o->r.get? a=À o)->l r
def lF(H:Hp)(h:Heap):Prop:=∀a o,H a=À o->cU P w H h a o
end
section
variable{H':Hp}{h':Heap}
theorem cU.lt(x:cU P w H h a o):a<h.objs.size:=by
 cases o with
 |lst xs=>obtain⟨_,_,_,_,e⟩:=x;exact Õ e
 |tup xs=>obtain⟨_,_,_,p⟩:=x;exact p.lt
 |dK kvs=>obtain⟨_,_,_,_,o,_,_,e,_⟩:=x;exact Õ e
 |dT kvs=>obtain⟨_,_,_,_,o,_,_,e,_⟩:=x;exact Õ e
 |set S n=>obtain⟨o,_,_,_,e,_⟩:=x;exact Õ e
 |ins C m d=>obtain⟨_,_,_,e,_⟩:=x;exact Õ e
 |own y=>obtain⟨_,e⟩:=x;exact Õ e
 |xd d=>obtain⟨_,⟨_,_,_,e,_⟩,_⟩:=x;exact Õ e
 |Ew l k=>obtain⟨_,_,_,e⟩:=x;exact Õ e
 |eB ob u=>obtain⟨e,_⟩:=x;exact Õ e
 |oB q=>exact Õ (show h.get? a=À _ from x)
 |met f y=>exact Õ (show h.get? a=À _ from x)
 |ext r=>obtain⟨_,⟨_,e⟩,_⟩:=x;exact Õ e
theorem Paired.Sz{F G:α->β->Prop}:∀{d:List α}{l:List β},Paired F d l->(∀a b,F a b->G a b)->Paired G d l:=by
 intro d l h f
 induction h with
 |nil=>exact .nil
 |cons r t k=>exact .cons (f _ _ r) k
theorem cU.stay(x:cU P w H h a o)(k:∀b u,(b=a\/H b=À (.own a))->h.get? b=À u->h'.get? b=À u)
  (I:∀b,H b=À (.own a)->H' b=À (.own a)) (J:∀b xs,H b=À (.tup xs)->H' b=À (.tup xs)):cU P w H' h' a o:=by
 induction o with
 |lst xs=>obtain⟨z,its,n,r,e⟩:=x;exact⟨z,its,n,r,k _ _ (.inl rfl) e⟩
 |tup xs=>obtain⟨z,its,r,ob,e,c⟩:=x;exact⟨z,its,r,ob,k _ _ (.inl rfl) e,c⟩
 |dK kvs=>obtain⟨z,y,vs,r,ob,es,ep,e,c⟩:=x;exact⟨z,y,vs,r,ob,es,ep,k _ _ (.inl rfl) e,c⟩
 |dT kvs=>obtain⟨z,y,xs,r,ob,es,ep,e,c⟩:=x;exact⟨z,y,xs,Paired.Sz r λp q z=>⟨z.1,J _ _ z.2.1,z.2.2⟩,ob,es,ep,k _ _ (.inl rfl) e,c⟩
 |set S n=>obtain⟨ob,es,ep,t,e,c⟩:=x;exact⟨ob,es,ep,t,k _ _ (.inl rfl) e,c⟩
 |ins C O B=>obtain⟨d,z,F,e,m,⟨l,es,ep,G,c⟩,r⟩:=x;exact⟨I _ d,z,F,k _ _ (.inl rfl) e,m,⟨l,es,ep,k _ _ (.inr d) G,c⟩,r⟩
 |own y=>obtain⟨ob,e⟩:=x;exact⟨ob,k _ _ (.inl rfl) e⟩
 |xd B=>obtain⟨m,⟨l,es,ep,e,c⟩,r⟩:=x;exact⟨m,⟨l,es,ep,k _ _ (.inl rfl) e,c⟩,r⟩
 |Ew L M=>obtain⟨t,u,v,e⟩:=x;exact⟨t,u,v,k _ _ (.inl rfl) e⟩
 |eB ob u D=>obtain⟨e,q⟩:=x;exact⟨k _ _ (.inl rfl) e,D q⟩
 |oB ps=>have e:h.get? a=À {cls:=.none,data:=.fields ps}:=x;show h'.get? a=À {cls:=.none,data:=.fields ps};exact k a _ (.inl rfl) e
 |met f y=>have e:h.get? a=À (abV (.ref f) (.ref y)):=x;show h'.get? a=À (abV (.ref f) (.ref y));exact k a _ (.inl rfl) e
 |ext R=>obtain⟨p,⟨o,e⟩,st⟩:=x;exact⟨st _ _ p λo q=>k _ _ (.inl rfl) q,⟨o,k _ _ (.inl rfl) e⟩,st⟩
theorem lF.lt(x:lF P w H h)(e:H a=À o):a<h.objs.size:=(x a o e).lt
theorem lF.fresh(x:lF P w H h)(e:h.objs.size<=a):H a=Æ:=by
 cases q:H a with
 |none=>rfl
 |some u=>exact absurd (Ø (x.lt q) e) (Ĭ _)
theorem lF.kept(x:lF P w H h)(k:∀b u,h.get? b=À u->h'.get? b=À u):lF P w H h':=λa o e=>
 (x a o e).stay (λb u _ q=>k b u q) (λ_ q=>q) λ_ _ q=>q
theorem lF.laid(x:lF P w H h)(k:∀b u,h.get? b=À u->h'.get? b=À u)(r:h.objs.size<=a)(d:cU P w (upd H a o) h' a o):lF P w (upd H a o) h':=λb u e=>by
 have m:=x.fresh r;by_cases l:b=a
 ·subst l;rw[bz]at e;w_up;exact d
 ·rw[aI l]at e;exact(x b u e).stay (λc v _ q=>k c v q) (λc q=>by rw[aI (cO q m)];exact q) λc xs q=>by rw[aI (cO q m)];exact q
end
def Rd(H:Hp)(a:Addr)(u:HO):Prop:=H a=À u\/∃o,H a=À (.eB o u)
theorem Rd.of{u:HO}(h:H a=À u):Rd H a u:=.inl h
theorem Rd.ok{u:HO}(r:Rd H a u)(x:lF P w H h):cU P w H h a u:=by
 rcases r with r|⟨o,r⟩
 ·exact x a u r
 ·obtain⟨_,q⟩:=x a _ r;exact q
def SA:Option HO->Prop
 |some (.lst _)=>True
 |some (.dK _)=>True
 |some (.dT _)=>True
 |some (.set _ _)=>True
 |some (.ins _ _ _)=>True
 |some (.ext _)=>True
 |_=>False
section
variable{h':Heap}{x e:Addr}{o':HO}
theorem lF.write(G:lF P w H h)(m:SA (H x))(B:e=x\/H e=À (.own x))(k:∀b u,b≠e->h.get? b=À u->h'.get? b=À u)(R:∃u,h'.get? e=À u)
  (t:cU P w (upd H x o') h' x o'):lF P w (upd H x o') h':=λb u q=>by
 have S:∀c y,H c=À (.own y)->c≠x:=λc y r z=>by subst z;rw[r]at m;exact m
 have V:∀c xs,H c=À (.tup xs)->c≠x:=λc xs r z=>by subst z;rw[r]at m;exact m
 by_cases d:b=x
 ·subst d;rw[bz]at q;o_rec;exact t
 ·rw[aI d]at q;by_cases L:b=e
  ·have D:H b=À (.own x):=by
    rcases B with z|z
    ·exact absurd (L.trans z) d
    ·rw[L];exact z
   rw[q]at D;cases D;obtain⟨v,F⟩:=R;exact⟨v,by rw[L];exact F⟩
  ·refine(G b u q).stay (λc v l r=>k c v ?_ r) (λc r=>by rw[aI (S c b r)];exact r) λc xs r=>by rw[aI (V c xs r)];exact r
   rcases l with rfl|l
   ·exact L
   ·rintro rfl;rcases B with z|z
    ·exact S c b l z
    ·rw[l]at z;cases z;exact d rfl
end
structure Un(fs ex:Q1)(H H':Hp)(h h':Heap):Prop where
 keep:∀b o,h.get? b=À o->H b=Æ->b∉fs->b∉ex->h'.get? b=À o
 slot:∀b o,h.get? b=À o->H b=Æ->b∈fs->b∉ex->∃sl,h'.get? b=À {o with slots:=sl}
 free:∀b o,h.get? b=À o->H b=Æ->b∉ex->H' b=Æ
 there:∀b o,h.get? b=À o->b∉ex->∃o',h'.get? b=À o'
 tups:∀b xs,H b=À (.tup xs)->H' b=À (.tup xs)
 lG:∀b o u,H b=À (.eB o u)->H' b=À (.eB o u)
 nF:∀b ps,H b=À (.oB ps)->∃more,H' b=À (.oB (ps++more))
section
variable{fs fs' ex ex':Q1}{H1 H2:Hp}{h1 h2 h':Heap}{x e:Addr}
theorem Un.any(u:Un fs ex H H1 h h1){b:Addr}{ob:Obj}(q:h.get? b=À ob)(n:H b=Æ)(d:b∉ex):∃sl,h1.get? b=À {ob with slots:=sl}:=by
 by_cases k:b∈fs
 ·exact u.slot b ob q n k d
 ·exact⟨ob.slots,u.keep b ob q n k d⟩
theorem Un.kept(k:∀b u,h.get? b=À u->h'.get? b=À u):Un fs ex H H h h':=
 ⟨λb ob q _ _ _=>k b ob q,λb ob q _ _ _=>⟨ob.slots,k b ob q⟩,λ_ _ _ n _=>n,λb ob q _=>⟨ob,k b ob q⟩,λ_ _ q=>q,λ_ _ _ q=>q,λ_ d q=>⟨#[],by rw[q];simp⟩⟩
theorem Un.refl:Un fs ex H H h h:=Un.kept λ_ _ q=>q
theorem Un.laid(k:∀b u,h.get? b=À u->h'.get? b=À u)(l:h.objs.size<=a)(d:H a=Æ):Un fs ex H (upd H a o) h h' where
 keep:=λb u q _ _ _=>k b u q
 slot:=λb u q _ _ _=>⟨u.slots,k b u q⟩
 free:=λb u q n _=>by rw[aI (á (Ø (Õ q) l))];exact n
 there:=λb u q _=>⟨u,k b u q⟩
 tups:=λb xs q=>by rw[aI (cO q d)];exact q
 lG:=λb u xs q=>by rw[aI (cO q d)];exact q
 nF:=λb m q=>⟨#[],by rw[aI (cO q d),q];simp⟩
theorem Un.write(m:SA (H x))(B:e=x\/H e=À (.own x))(k:∀b u,b≠e->h.get? b=À u->h'.get? b=À u)(R:∃u,h'.get? e=À u):Un fs ex H (upd H x o) h h':=by
 have l:∀b,H b=Æ->b≠x:=λb n z=>by subst z;rw[n]at m;exact m
 have t:∀b,H b=Æ->b≠e:=λb n z=>by
  subst z;rcases B with r|r
  ·exact l b n r
  ·rw[n]at r;cases r
 have d:∀b u,H b=À u->¬ SA (À u)->b≠x:=λb u q nm z=>by subst z;rw[q]at m;exact nm m
 refine⟨λb u q n _ _=>k b u (t b n) q,λb u q n _ _=>⟨u.slots,k b u (t b n) q⟩,λb u q n _=>by rw[aI (l b n)];exact n,λb u q _=>?_,
  λb xs q=>by rw[aI (d b _ q λz=>z)];exact q,λb u xs q=>by rw[aI (d b _ q λz=>z)];exact q,λb D q=>⟨#[],by rw[aI (d b _ q λz=>z),q];simp⟩⟩
 by_cases L:b=e
 ·subst L;exact R
 ·exact⟨u,k b u L q⟩
end
noncomputable def Vm(h:Heap)(H:Hp):Q1:=(Ů h.objs.size).filter λa=>(H a).isSome
def xD(h:Heap)(H:Hp):Heap:=abd h (Vm h H)
theorem Ex(h:Heap)(H:Hp):(xD h H).objs.size=h.objs.size:=PySem.W.hideAll_size _ _
theorem GW{o:Obj}(e:h.get? b=À o)(n:H b=Æ):(xD h H).get? b=À o:=
 ac1 _ e λd=>by have q:(H b).isSome=Ã:=(ļ.mp d).2;rw[n]at q;simp at q
theorem Ln{o:Obj}(e:(xD h H).get? b=À o):h.get? b=À o/\H b=Æ:=by
 have d:h.get? b=À o:=abA (Vm h H) e;refine⟨d,?_⟩;cases q:H b with
 |none=>rfl
 |some x=>have k:b∈Vm h H:=ļ.mpr ⟨abB.mpr (Õ d),by simp[q]⟩;have z:(xD h H).get? b=Æ:=acM (Vm h H) k;rw[z]at e;w_up
structure Mod(K:Ì)(mg:Str->Option Å)(base:Heap):Prop where
 OO:K.In base
 glob:base.Ns mainGlobals mg
 blt:∃mb,base.Ns builtinsNs mb/\∀x:Str,x≠"__name__"->mb x=bootBuiltins x
 nolimit:base.NoLimit
structure Cx where
 prog:ð
 w:Ć
 K:Ì
 mg:Str->Option Å
 base:Heap
 A:Around
 N:P3
 s₀:Ê
 H₀:Hp
 env:Env
 outer:List Env
 stack:List Env
 ex:Q1
 fn:Str->Bool
 calm:Bool
 pn:N0
 xe:Å->Ê->Prop
variable{X:Cx}
def frs(l:List Env):Q1:=l.filterMap (·.frame)
abbrev Cx.fs(X:Cx):Q1:=frs X.outer
def GO(d:Scope)(x:Str):Prop:=d.names.lookup x=À .local\/d.names.lookup x=À .cell\/d.names.lookup x=À .free
def Loc(d:Scope)(x:Str):Prop:=d.names.lookup x=À .local\/d.names.lookup x=À .cell
def Look(env:Env)(h:Heap)(m:Str->Option Å)(x:Str)(u:Å):Prop:=
 (env.kindOf x=À .local/\m x=À u)\/((env.kindOf x=À .cell\/env.kindOf x=À .free)/\∃c,env.cells.lookup x=À c/\h.IsCell c (À u))
structure Cx.Ok(X:Cx):Prop where
 mod:Mod X.K X.mg X.base
 kind:X.env.scope.kind=.function
 glob:X.env.globals=mainGlobals
 blt:X.env.builtins=builtinsNs
 above:X.s₀.heap.objs.size<=X.env.locals
 inj:∀x y c,X.env.cells.lookup x=À c->X.env.cells.lookup y=À c->x=y
 has:∀x,(X.env.kindOf x=À .cell\/X.env.kindOf x=À .free)->∃c,X.env.cells.lookup x=À c
 R3:∀x c,X.fn x=Ã->X.env.cells.lookup x=À c->X.s₀.heap.objs.size<=c
 hd:X.calm=Ã->X.A.handled=Æ
 frames:X.A.frames=À X.stack
 stk:X.stack=X.outer\/(X.stack=X.env::X.outer/\X.env.frame=À X.env.locals)
 V3:∀b∈X.ex,b≠X.env.locals/\∀x c,X.env.cells.lookup x=À c->c≠b
 bs:∀b o,X.base.get? b=À o->X.s₀.heap.get? b=À o/\X.H₀ b=Æ
 NY:X.base.objs.size<=X.s₀.heap.objs.size
 Ey:∀b o,X.base.get? b=À o->b∉X.ex
 Ez:∀b∈X.ex,b∉X.fs
 qp:X.s₀.heap.FunFrames X.base X.outer
 NZ:∀b∈X.fs,X.H₀ b=Æ
structure Inv(X:Cx)(pins:N0)(σ:List (Option V))(H:Hp)(s:Ê):Prop where
 ok:X.Ok
 os:s.os=X.s₀.os/\0<s.toks
 bare:AllBare s.gens
 base:Un X.fs X.ex X.H₀ H X.s₀.heap s.heap
 loc:∃m,s.heap.Ns X.env.locals m/\∀(i:Nat)(x:Str)(v:V),X.N[i]?=À x->σ[i]?=À (À v)->GO X.env.scope x->∃u,RelV v u/\Look X.env s.heap m x u
 cell:∀x c,X.env.cells.lookup x=À c->∃v,s.heap.IsCell c v
 free:H X.env.locals=Æ
 iQ:∀x c,X.env.cells.lookup x=À c->H c=Æ\/(X.fn x=Ä/\∃o u,H c=À (.eB o u))
 pin:∀p∈X.pn++pins,s.heap.get? p.1=À p.2/\H p.1=Æ/\p.1≠X.env.locals/\p.1∉X.fs/\∀v,p.2.data≠.cell v
 hok:lF X.prog X.w H s.heap
 len:σ.length=X.N.length
section
variable{σ:List (Option V)}{H':Hp}{h':Heap}
theorem Cx.Ok.V4(d:X.Ok){b:Addr}{o:Obj}(e:X.base.get? b=À o):b∉X.fs:=λk=>by have:=(d.qp.mem k).1;rw[e]at this;cases this
theorem Inv.bs(I:Inv X pins σ H s):∀b o,X.base.get? b=À o->s.heap.get? b=À o/\H b=Æ:=λb o e=>
 ⟨I.base.keep b o (I.ok.bs b o e).1 (I.ok.bs b o e).2 (I.ok.V4 e) (I.ok.Ey b o e),I.base.free b o (I.ok.bs b o e).1 (I.ok.bs b o e).2 (I.ok.Ey b o e)⟩
theorem Inv.bk(I:Inv X pins σ H s):∀b o,X.base.get? b=À o->s.heap.get? b=À o:=λb o e=>(I.bs b o e).1
theorem Inv.mod(I:Inv X pins σ H s):Mod X.K X.mg X.base:=I.ok.mod
theorem Inv.yV(I:Inv X pins σ H s):X.K.In s.heap:=I.ok.mod.OO.keeps I.bk
theorem Inv.lt(I:Inv X pins σ H s):X.env.locals<s.heap.objs.size:=let ⟨_,d,_⟩:=I.loc;d.lt
theorem Inv.sz(I:Inv X pins σ H s):X.s₀.heap.objs.size<=s.heap.objs.size:=ü I.ok.above (ads I.lt)
theorem Inv.V5(I:Inv X pins σ H s){a:Addr}(h:s.heap.objs.size<=a):a∉X.fs:=λd=>by obtain⟨_,o,k,_⟩:=I.ok.qp.mem d;exact absurd (Ø (Õ k) (ü I.sz h)) (Ĭ _)
theorem Inv.Lj(I:Inv X pins σ H s):∀x c,X.env.cells.lookup x=À c->c≠X.env.locals:=λx c e z=>by obtain⟨v,o,l,q⟩:=I.cell x c e;obtain⟨m,⟨r,es,ep,d,k,_⟩,_⟩:=I.loc;rw[z,d]at l;cases l;rw[k]at q;cases q
theorem Inv.qp(I:Inv X pins σ H s):s.heap.FunFrames X.base X.outer:=by
 have d:∀(l:List Env),(∀b∈frs l,b∈X.fs)->X.s₀.heap.FunFrames X.base l->s.heap.FunFrames X.base l:=by
  intro l
  induction l with
  |nil=>intro _ _;trivial
  |cons env r G=>intro t D;obtain⟨B,⟨L,o,k,O,J,M⟩,F⟩:=D;have m:L∈X.fs:=t L (by unfold frs;rw[ĩ,k];exact ć);obtain⟨R,e⟩:=I.base.slot L o J (I.ok.NZ L m) m λz=>I.ok.Ez L z m;exact⟨B,⟨L,_,k,O,e,M⟩,G (λb q=>t b (by unfold frs;rw[ĩ,k];exact å _ q)) F⟩
 exact d X.outer (λ_ q=>q) I.ok.qp
theorem Inv.stack(I:Inv X pins σ H s):s.heap.FunFrames X.base X.stack:=by
 rcases I.ok.stk with e|⟨e,k⟩
 ·rw[e];exact I.qp
 ·rw[e];obtain⟨m,d,_⟩:=I.loc;refine .cons (by rw[I.ok.kind];decide) k d ?_ I.qp;exact Heap.get?_none_of_le (ü I.ok.NY I.ok.above)
theorem Inv.kj(I:Inv X pins σ H s):∀b∈frs X.stack,b∈X.env.locals::X.fs:=λb d=>by
 rcases I.ok.stk with e|⟨e,k⟩
 ·rw[e]at d;exact å _ d
 ·rw[e]at d;unfold frs at d;rw[ĩ,k]at d;exact d
theorem Inv.oF(I:Inv X pins σ H s):∀b∈frs X.stack,H b=Æ:=λb d=>by
 rcases Ù.mp (I.kj b d)with e|d
 ·rw[e];exact I.free
 ·obtain⟨_,o,k,_⟩:=I.ok.qp.mem d;exact I.base.free b o k (I.ok.NZ b d) λz=>I.ok.Ez b z d
theorem Inv.step{g':Array GenState}{t':Nat}{d':Drawn}(I:Inv X pins σ H s)
  (G:∀b∈ch,(b∈X.ex\/X.s₀.heap.objs.size<=b)/\b≠X.env.locals/\(∀x c,X.env.cells.lookup x=À c->c≠b)/\∀p∈X.pn++pins,p.1≠b)
  (D:∀b o,b≠X.env.locals->b∉X.fs->b∉ch->s.heap.get? b=À o->H b=Æ->h'.get? b=À o)
  (L:∀b o,b≠X.env.locals->b∈X.fs->b∉ch->s.heap.get? b=À o->H b=Æ->∃sl,h'.get? b=À {o with slots:=sl}) (B:∀b o,b∉ch->s.heap.get? b=À o->H b=Æ->H' b=Æ)
  (M:∀b o,b∉ch->s.heap.get? b=À o->∃S,h'.get? b=À S)
  (U:∀b xs,H b=À (.tup xs)->H' b=À (.tup xs)) (lG:∀b o u,H b=À (.eB o u)->H' b=À (.eB o u)) (nF:∀b ps,H b=À (.oB ps)->∃W,H' b=À (.oB (ps++W)))
  (ns:∀m,s.heap.Ns X.env.locals m->h'.Ns X.env.locals m) (R:lF X.prog X.w H' h') (hg:AllBare g') (ht:0<t':=by accm_mu):
  Inv X pins σ H' {s with heap:=h',gens:=g',drawn:=d',toks:=t'}:=by
 have C8:∀b o,X.s₀.heap.get? b=À o->b≠X.env.locals:=λb o e=>á (Ø (Õ e) I.ok.above);have Z:∀b o,X.s₀.heap.get? b=À o->b∉X.ex->b∉ch:=λb o e hx hb=>by
  rcases(G b hb).1 with z|z
  ·exact hx z
  ·exact absurd (Ø (Õ e) z) (Ĭ _)
 have F:∀x c,X.env.cells.lookup x=À c->∀v,s.heap.IsCell c v->h'.IsCell c v:=λx c e v zz=>by
  obtain⟨o,O,hd⟩:=zz;have V:c∉ch:=λz=>(G c z).2.2.1 x c e rfl;rcases I.iQ x c e with t|⟨_,Y,fu,t⟩
  ·by_cases hc:c∈X.fs
   ·obtain⟨sl,q⟩:=L c o (I.Lj x c e) hc V O t;exact⟨_,q,hd⟩
   ·exact⟨o,D c o (I.Lj x c e) hc V O t,hd⟩
  ·have q1:=(I.hok c _ t).1;have q2:=(R c _ (lG c Y fu t)).1;rw[O]at q1;cases q1;exact⟨o,q2,hd⟩
 refine⟨I.ok,⟨I.os.1,ht⟩,hg,⟨λb o e n hb hx=>?_,λb o e n hb hx=>?_,λb o e n hx=>?_,λb o e hx=>?_,λb xs e=>U b xs (I.base.tups b xs e),λb o xs e=>lG b o xs (I.base.lG b o xs e),λb ps e=>?_⟩,?_,λx c e=>?_,?_,λx c e=>?_,λp hp=>?_,R,I.len⟩
 ·exact D b o (C8 b o e) hb (Z b o e hx) (I.base.keep b o e n hb hx) (I.base.free b o e n hx)
 ·obtain⟨sl,J⟩:=I.base.slot b o e n hb hx;obtain⟨Lq,T⟩:=L b _ (C8 b o e) hb (Z b o e hx) J (I.base.free b o e n hx);exact⟨Lq,T⟩
 ·obtain⟨S,J⟩:=I.base.there b o e hx;exact B b S (Z b o e hx) J (I.base.free b o e n hx)
 ·obtain⟨S,J⟩:=I.base.there b o e hx;exact M b S (Z b o e hx) J
 ·obtain⟨m1,J⟩:=I.base.nF b ps e;obtain⟨m2,T⟩:=nF b _ J;exact⟨m1++m2,by rw[T,Array.append_assoc]⟩
 ·obtain⟨m,hn,hl⟩:=I.loc;refine⟨m,ns m hn,λi x v J T e3=>?_⟩;obtain⟨u,r,l⟩:=hl i x v J T e3;refine⟨u,r,?_⟩;rcases l with l|⟨k,c,e,z⟩
  ·exact .inl l
  ·exact .inr ⟨k,c,e,F x c e _ z⟩
 ·obtain⟨v,z⟩:=I.cell x c e;exact⟨v,F x c e v z⟩
 ·obtain⟨m,⟨o,_,_,O,_⟩,_⟩:=I.loc;exact B _ o (λz=>(G _ z).2.1 rfl) O I.free
 ·obtain⟨v,o,O,hd⟩:=I.cell x c e;rcases I.iQ x c e with t|⟨hx,Y,fu,t⟩
  ·exact .inl (B c o (λz=>(G c z).2.2.1 x c e rfl) O t)
  ·exact .inr ⟨hx,Y,fu,lG c Y fu t⟩
 ·obtain⟨e,n,ne,nf,d⟩:=I.pin p hp;have V:p.1∉ch:=λz=>(G p.1 z).2.2.2 p hp rfl;exact⟨D p.1 p.2 ne nf V e n,B p.1 p.2 V e n,ne,nf,d⟩
theorem Inv.un(I:Inv X pins σ H s)(u:Un X.fs [] H H' s.heap h')(k:lF X.prog X.w H' h')(M:0<t':=by accm_mu):Inv X pins σ H' {s with heap:=h',toks:=t'}:=by
 obtain⟨m,⟨o,es,ep,t,r⟩,_⟩:=id I.loc;obtain⟨O,F⟩:=u.any t I.free ⋯;exact I.step (g':=s.gens) (d':=s.drawn) (ch:=[]) (λ_ z=>nomatch z) (λb o _ l _ e n=>u.keep b o e n l ⋯) (λb o _ l _ e n=>u.slot b o e n l ⋯) (λb o _ e n=>u.free b o e n ⋯) (λb o _ e=>u.there b o e ⋯) u.tups u.lG u.nF (λL D=>by obtain⟨J,q,G,d,B⟩:=D;rw[t]at d;cases d;exact⟨_,q,G,F,B⟩) k I.bare
theorem Inv.call{d':Drawn}(I:Inv X pins σ H s)(u:Un (frs X.stack) ch H H' s.heap h')(q:lF X.prog X.w H' h')(L:AllBare g')
  (l:∀b∈ch,(b∈X.ex\/X.s₀.heap.objs.size<=b)/\b≠X.env.locals/\(∀x c,X.env.cells.lookup x=À c->c≠b)/\∀p∈X.pn++pins,p.1≠b) (S:0<t':=by accm_mu):
  Inv X pins σ H' {s with heap:=h',gens:=g',drawn:=d',toks:=t'}:=by
 obtain⟨m,⟨o,es,ep,D,r⟩,_⟩:=id I.loc;obtain⟨T,t⟩:=u.any D I.free λz=>(l _ z).2.1 rfl;exact I.step (ch:=ch) l (λb o t J d e n=>u.keep b o e n (λz=>(Ù.mp (I.kj b z)).elim t J) d) (λb o _ _ d e n=>u.any e n d) (λb o d e n=>u.free b o e n d) (λb o d e=>u.there b o e d) u.tups u.lG u.nF (λO G=>by obtain⟨R,B,M,k,F⟩:=G;rw[D]at k;cases k;exact⟨_,B,M,t,F⟩) q L
theorem Inv.turned(I:Inv X pins σ H s)(k:∀b o,b≠it->s.heap.get? b=À o->h'.get? b=À o)(F:H it=Æ)(l:it≠X.env.locals)
  (B:it∈X.ex\/X.s₀.heap.objs.size<=it) (t:∀x c,X.env.cells.lookup x=À c->c≠it) (G:∀p∈X.pn++pins,p.1≠it) (M:0<t':=by accm_mu):Inv X pins σ H {s with heap:=h',toks:=t'}:=by
 have S:∀b u,H b=À u->b≠it:=λb u e z=>by rw[z,F]at e;w_up
 refine I.step (g':=s.gens) (d':=s.drawn) (ch:=[it]) (λb L=>?_) (λb o _ _ d e _=>k b o (λz=>d (by simp[z])) e) (λb o _ _ d e _=>⟨o.slots,k b o (λz=>d (by simp[z])) e⟩) (λ_ _ _ _ n=>n)
  (λb o d e=>⟨o,k b o (λz=>d (by simp[z])) e⟩) (λ_ _ e=>e) (λ_ _ _ e=>e) (λb O e=>⟨#[],by rw[e];simp⟩) (λm D=>?_) (λb u e=>?_) I.bare
 ·have e:b=it:=‹L›
  kpc_g;exact⟨B,l,t,G⟩
 ·obtain⟨o,es,ep,J,r⟩:=D;exact⟨o,es,ep,k _ o (ô l) J,r⟩
 ·refine(I.hok b u e).stay (λc v d q=>k c v ?_ q) (λ_ q=>q) λ_ _ q=>q;rcases d with z|z
  ·rw[z];exact S b u e
  ·exact S c _ z
theorem Inv.tok(I:Inv X pins σ H s)(t':Nat)(d:0<t':=by accm_mu):Inv X pins σ H {s with toks:=t'}:=I.un (h':=s.heap) (t':=t') Un.refl I.hok
theorem iR{k:Type}{M:Model}{t:Sem k}{Q:k->Ê->Prop}(h:0<s.toks)(h':Ú M A t (λa d=>0<d.toks->Q a d) (λe d=>0<d.toks->E e d) s):Ú M A t Q E s:=wpAny_with_toks (n:=1) h h'
theorem Inv.kept(I:Inv X pins σ H s)(k:∀b u,s.heap.get? b=À u->h'.get? b=À u)(d:0<t':=by accm_mu):Inv X pins σ H {s with heap:=h',toks:=t'}:=I.un (Un.kept k) (I.hok.kept k)
theorem Inv.laid(I:Inv X pins σ H s)(k:∀b u,s.heap.get? b=À u->h'.get? b=À u)(d:s.heap.objs.size<=a)(l:cU X.prog X.w (upd H a o) h' a o)(m:0<t':=by accm_mu):
  Inv X pins σ (upd H a o) {s with heap:=h',toks:=t'}:=I.un (Un.laid k d (I.hok.fresh d)) (I.hok.laid k d l)
theorem Inv.write{x e:Addr}(I:Inv X pins σ H s)(m:SA (H x))(l:e=x\/H e=À (.own x))(k:∀b u,b≠e->s.heap.get? b=À u->h'.get? b=À u)(R:∃u,h'.get? e=À u)
  (d:cU X.prog X.w (upd H x o) h' x o) (q:0<t':=by accm_mu):Inv X pins σ (upd H x o) {s with heap:=h',toks:=t'}:=I.un (Un.write m l k R) (I.hok.write m l k R d)
theorem Inv.xE(I:Inv X pins σ H s)(h:∀p∈fh,s.heap.get? p.1=À p.2/\H p.1=Æ/\p.1≠X.env.locals/\p.1∉X.fs/\∀v,p.2.data≠.cell v):Inv X fh σ H s:=
 ⟨I.ok,I.os,I.bare,I.base,I.loc,I.cell,I.free,I.iQ,λp d=>(ì.mp d).elim (λz=>I.pin p (ġ _ z)) (h p),I.hok,I.len⟩
theorem za(l:N.Nodup){i j:Nat}{x:Str}(a:N[i]?=À x)(b:N[j]?=À x):i=j:=by obtain⟨q,k⟩:=Â.mp a;obtain⟨m,d⟩:=Â.mp b;exact(ŀ l).mp (k.trans d.symm)
theorem vM{M:Model}{A:Around}{E:Å->Ê->Prop}{Q:Unit->Ê->Prop}(I:Inv X pins σ H s)(hN:X.N.Nodup)(R:X.N[i]?=À x)(hx:Loc X.env.scope x)(r:RelV v u)
  (h:∀s',Inv X pins (σ.set i (À v)) H s'->(∃a,Į a s.heap s'.heap/\(a=X.env.locals\/X.env.cells.lookup x=À a))->Q () s') (hf:X.fn x=Ã\/X.env.scope.names.lookup x=À .local):Ú M A (storeName X.env x u) Q E s:=by
 obtain⟨m,hn,hl⟩:=id I.loc;have T:(X.env.scope.kind==.class||(X.env.scope.kind==.module&&X.env.locals != X.env.globals))=Ä:=by rw[I.ok.kind];rfl
 have Yk:i<σ.length:=by rw[I.len];exact(Â.mp R).1
 have Lj:=I.Lj;have t:∀{a:Addr}{h':Heap},(∃o,s.heap.get? a=À o/\H a=Æ)->Į a s.heap h'->lF X.prog X.w H h':=λ{a h'} ha hs b ob e=>by
  obtain⟨_,_,B⟩:=ha;refine(I.hok b ob e).stay (λc V hc q=>(hs.2 c ?_).trans q) (λ_ q=>q) λ_ _ q=>q;rintro rfl;rcases hc with rfl|hc
  ·rw[B]at e;w_up
  ·rw[B]at hc;cases hc
 rcases hx with hk|hk
 ·refine aaP hk hn (λh' hn' hs=>?_) T;obtain⟨oL,_,_,Yl,_⟩:=id hn;refine h _ ⟨I.ok,⟨I.os.1,ý _⟩,I.bare,⟨λb o e n J hx=>?_,λb o e n J hx=>?_,I.base.free,λb o e hx=>?_,I.base.tups,I.base.lG,I.base.nF⟩,⟨_,hn',λj y Y l F Z=>?_⟩,λy c e=>?_,I.free,I.iQ,λp hp=>?_,t ⟨oL,Yl,I.free⟩ hs,‹I.len›⟩ ⟨_,hs,.inl rfl⟩
  ·exact(hs.2 b (á (Ø (Õ e) I.ok.above))).trans (I.base.keep b o e n J hx)
  ·obtain⟨sl,l⟩:=I.base.slot b o e n J hx;exact⟨sl,(hs.2 b (á (Ø (Õ e) I.ok.above))).trans l⟩
  ·obtain⟨o',l⟩:=I.base.there b o e hx;exact⟨o',(hs.2 b (á (Ø (Õ e) I.ok.above))).trans l⟩
  ·by_cases G:j=i
   ·subst G;rw[R]at l;cases l;rw[acn Yk]at F;cases F;exact⟨u,r,.inl ⟨hk,by simp⟩⟩
   ·rw[Ô (ô G)]at F;obtain⟨u',r',q⟩:=hl j y Y l F Z;refine⟨u',r',?_⟩;rcases q with⟨k,e⟩|⟨k,c,e,z⟩
    ·refine .inl ⟨k,?_⟩;have:y≠x:=λe=>G (za hN l (e▸R));simp[this,e]
    ·exact .inr ⟨k,c,e,z.sameBut hs (Lj y c e)⟩
  ·obtain⟨V,z⟩:=I.cell y c e;exact⟨V,z.sameBut hs (Lj y c e)⟩
  ·obtain⟨e,n,W,nf,d⟩:=I.pin p hp;exact⟨(hs.2 p.1 W).trans e,n,W,nf,d⟩
 ·have D:X.fn x=Ã:=by
   rcases hf with z|z
   ·exact z
   ·rw[z]at hk;cases hk
  obtain⟨c,hc⟩:=I.ok.has x (.inl hk);obtain⟨V,z⟩:=I.cell x c hc;refine wpAny_storeName_cell I.ok.kind hk hc z (λh' L hs=>?_);obtain⟨oc,O,V6⟩:=id z;refine h {s with heap:=h'} ⟨I.ok,I.os,I.bare,⟨λb o e n J hx=>?_,λb o e n J hx=>?_,I.base.free,λb o e hx=>?_,I.base.tups,I.base.lG,I.base.nF⟩,⟨m,hn.sameBut hs (ô (Lj x c hc)),λj y Y l F Z=>?_⟩,λy U e=>?_,I.free,I.iQ,λp hp=>?_,t ⟨oc,O,(I.iQ x c hc).resolve_right λz=>by rw[D]at z;cases z.1⟩ hs,‹I.len›⟩ ⟨c,hs,.inr hc⟩
  ·exact(hs.2 b (á (Ø (Õ e) (I.ok.R3 x c D hc)))).trans (I.base.keep b o e n J hx)
  ·obtain⟨sl,l⟩:=I.base.slot b o e n J hx;exact⟨sl,(hs.2 b (á (Ø (Õ e) (I.ok.R3 x c D hc)))).trans l⟩
  ·obtain⟨o',l⟩:=I.base.there b o e hx;exact⟨o',(hs.2 b (á (Ø (Õ e) (I.ok.R3 x c D hc)))).trans l⟩
  ·by_cases G:j=i
   ·subst G;rw[R]at l;cases l;rw[acn Yk]at F;cases F;exact⟨u,r,.inr ⟨.inl hk,c,hc,L⟩⟩
   ·rw[Ô (ô G)]at F;obtain⟨u',r',q⟩:=hl j y Y l F Z;refine⟨u',r',?_⟩;rcases q with q|⟨k,U,e,z'⟩
    ·exact .inl q
    ·refine .inr ⟨k,U,e,z'.sameBut hs ?_⟩;rintro rfl;exact G (za hN l (I.ok.inj _ _ _ e hc▸R))
  ·by_cases S:U=c
   ·subst S;exact⟨_,L⟩
   ·obtain⟨w2,z2⟩:=I.cell y U e;exact⟨w2,z2.sameBut hs S⟩
  ·obtain⟨e,n,W,nf,d⟩:=I.pin p hp;refine⟨(hs.2 p.1 ?_).trans e,n,W,nf,d⟩;intro q;rw[q,O]at e;have q':oc=p.2:=é e;exact d V (by rw[<- q'];exact V6)
theorem zb{M:Model}{A:Around}{E:Å->Ê->Prop}{Q:Unit->Ê->Prop}(I:Inv X pins σ H s)(t:X.N.Nodup)(m:X.N[i]?=À x)(k:Loc X.env.scope x)(r:RelV v u)
  (h:∀d,Inv X pins (σ.set i (À v)) H d->Q () d) (l:X.fn x=Ã\/X.env.scope.names.lookup x=À .local):Ú M A (storeName X.env x u) Q E s:=
 vM I t m k r (λd q _=>h d q) l
theorem Inv.GX(I:Inv X pins σ H s)(l:s'.os=s.os/\0<s'.toks)(u:Un (frs X.stack) ch H H' s.heap s'.heap)(d:lF X.prog X.w H' s'.heap)(q:AllBare s'.gens)
  (k:∀b∈ch,(b∈X.ex\/X.s₀.heap.objs.size<=b)/\b≠X.env.locals/\(∀x c,X.env.cells.lookup x=À c->c≠b)/\∀p∈X.pn++pins,p.1≠b):Inv X pins σ H' s':=by
 obtain⟨h',g',d',t',m⟩:=s';have e:m=s.os:=l.1;have r:0<t':=l.2;kpc_g;exact I.call (g':=g') (t':=t') (d':=d') u d q k
end
abbrev XK:=Å->Option Addr->Hp->Prop
abbrev St:=List (Option V)
variable{σ:St}
abbrev VK:=V->Hp->Prop
abbrev TE:=St->Hp->VK->Prop
variable{te:TE}
abbrev TT:=St->Hp->(Bool->Hp->Prop)->Prop
variable{tc:TT}
abbrev TA:=St->Hp->(X1->Hp->Prop)->Prop
structure Ends where
 nx:St->Hp->Prop
 rt:VK
 bk:St->Hp->Prop:=λ_ _=>False
 ct:St->Hp->Prop:=λ_ _=>False
abbrev TS:=Ends->St->Hp->Prop
variable{tb:TS}
def EP(X:Cx)(pins:N0)(k:St)(Q:VK)(u:Å)(d:Ê):Prop:=∃v H',Inv X pins k H' d/\RelV v u/\Q v H'
def TP(X:Cx)(pins:N0)(k:St)(Q:Bool->Hp->Prop)(b:Bool)(d:Ê):Prop:=∃H',Inv X pins k H' d/\Q b H'
def AP(X:Cx)(pins:N0)(k:St)(Q:X1->Hp->Prop)(l:List Å)(d:Ê):Prop:=∃vs H',Inv X pins k H' d/\Vals vs l/\Q vs H'
def SP(X:Cx)(pins:N0)(D:Ends)(f:Flow)(k:Ê):Prop:=
 match f with
 |.next=>∃d H',Inv X pins d H' k/\D.nx d H'
 |.brk=>∃d H',Inv X pins d H' k/\D.bk d H'
 |.cont=>∃d H',Inv X pins d H' k/\D.ct d H'
 |.ret u=>∃v d H',Inv X pins d H' k/\RelV v u/\D.rt v H'
def PE(X:Cx)(e:Expr)(t:TE):Prop:=
 ∀(pins:N0)(s:Ê)(d:St)(H:Hp)(Q:VK),Inv X pins d H s->t d H Q->Ú (model X.prog X.w) X.A (eval e X.env) (EP X pins d Q) X.xe s
def PT(X:Cx)(e:Expr)(t:TT):Prop:=
 ∀(pins:N0)(s:Ê)(d:St)(H:Hp)(Q:Bool->Hp->Prop),Inv X pins d H s->t d H Q->Ú (model X.prog X.w) X.A (isTrue e X.env (eval e X.env)) (TP X pins d Q) X.xe s
def PW(X:Cx)(e:Expr)(t:TT):Prop:=
 ∀(d:Sem Å)(pins:N0)(s:Ê)(k:St)(H:Hp)(Q:Bool->Hp->Prop),Inv X pins k H s->t k H Q->Ú (model X.prog X.w) X.A (isTrue e X.env d) (TP X pins k Q) X.xe s
theorem PW.pt{t:TT}(h:PW X e t):PT X e t:=h _
def PA(X:Cx)(es:U2)(t:TA):Prop:=
 ∀(pos:Pos)(pins:N0)(s:Ê)(d:St)(H:Hp)(Q:X1->Hp->Prop),Inv X pins d H s->t d H Q->Ú (model X.prog X.w) X.A (spliced (backTo pos (æ es X.env))) (AP X pins d Q) X.xe s
def PS(X:Cx)(st:Stmt)(t:TS):Prop:=
 ∀(pins:N0)(s:Ê)(d:St)(H:Hp)(D:Ends),Inv X pins d H s->t D d H->Ú (model X.prog X.w) X.A (exec st X.env) (SP X pins D) X.xe s
def BA(X:Cx)(st:List Stmt)(t:TS):Prop:=
 ∀(pins:N0)(s:Ê)(d:St)(H:Hp)(D:Ends),Inv X pins d H s->t D d H->Ú (model X.prog X.w) X.A (execs st X.env) (SP X pins D) X.xe s
theorem dO{k:Type}{t:Sem k}{Q d:k->Ê->Prop}{M:Model}(h:Ú M A t Q E s)(l:∀a s,Q a s->d a s):Ú M A t d E s:=Ă h l λ_ _ x=>x
section
def SH(i:Nat):TE:=λd H Q=>∃v,d[i]?=À (À v)/\Q v H
def tC(v:V):TE:=λ_ H Q=>Q v H
theorem BB{pos:Pos}(J:X.N[i]?=À x)(F:GO X.env.scope x)(z:(x==("__debug__":Str))=Ä:=by decide)(t:(x==("__classdict__":Str))=Ä:=by decide):PE X (.Name x pos) (SH i):=by
 kd_p;obtain⟨v,e,h⟩:=h;obtain⟨m,L,D⟩:=I.loc;obtain⟨u,r,l⟩:=D i x v J e F;have q:EP X pins σ Q u s:=⟨v,H,I,r,h⟩;rcases l with⟨k,G⟩|⟨k,c,B,d⟩
 ·exact ad2 (wpAny_loadName_local I.ok.kind k L G q) z
 ·rcases k with k|k
  ·exact ad2 (wpAny_loadName_cell I.ok.kind k B d q) z
  ·exact ad2 (wpAny_loadName_free I.ok.kind k B d q t) z
theorem OP {i j pos}:PE X (.Constant (.int i) j pos) (tC (.int i)):=λ_ _ _ H _ I h=>wpAny_Constant_int ⟨.int i,H,I.tok _,⟨_,rfl⟩,h⟩
theorem SI {b j pos}:PE X (.Constant (.bool b) j pos) (tC (.bl b)):=λ_ _ _ H _ I h=>Constant_bool ⟨.bl b,H,I,rfl,h⟩
theorem OQ {j pos}:PE X (.Constant .none j pos) (tC .bD):=λ_ _ _ H _ I h=>Constant_none ⟨.bD,H,I,rfl,h⟩
theorem OR {x j pos}:PE X (.Constant (.str x) j pos) (tC (.str x)):=λ_ _ _ H _ I h=>Calls.Constant_str ⟨.str x,H,I.tok _,⟨_,rfl⟩,h⟩
def Gl(X:Cx)(x:Str):Prop:=X.env.kindOf x=À .globalImplicit
theorem oG{E:Å->Ê->Prop}{pos:Pos}(I:Inv X pins σ H s)(l:Gl X x)(d:X.mg x=À u)(h:Q u s)
  (k:(x==("__debug__":Str))=Ä:=by decide):Ú (model X.prog X.w) X.A (eval (.Name x pos) X.env) Q E s:=
 abC I.ok.kind l (Calls.loadGlobal_global (by rw[I.ok.glob];exact I.mod.glob.keeps I.bk) d h) k
theorem iS{E:Å->Ê->Prop}{pos:Pos}(I:Inv X pins σ H s)(t:Gl X x)(m:X.mg x=Æ)(d:bootBuiltins x=À u)(h:Q u s)
  (r:x≠"__name__":=by decide) (q:(x==("__debug__":Str))=Ä:=by decide):Ú (model X.prog X.w) X.A (eval (.Name x pos) X.env) Q E s:=by
 obtain⟨z,l,k⟩:=I.mod.blt;exact abC I.ok.kind t (Calls.loadGlobal_builtin (by rw[I.ok.glob];exact I.mod.glob.keeps I.bk) m (by rw[I.ok.blt];exact l.keeps I.bk) ((k x r).trans d) h) q
theorem Ls{pos:Pos}(l:Gl X x)(d:X.mg x=À u)(r:RelV v u)(k:(x==("__debug__":Str))=Ä:=by decide):PE X (.Name x pos) (tC v):=
 λ_ _ _ H _ I h=>oG I l d ⟨v,H,I,r,h⟩ k
theorem Lu{pos:Pos}(m:Gl X x)(d:X.mg x=Æ)(q:bootBuiltins x=À u)(r:RelV v u)(l:x≠"__name__":=by decide)(k:(x==("__debug__":Str))=Ä:=by decide):PE X (.Name x pos) (tC v):=
 λ_ _ _ H _ I h=>iS I m d q ⟨v,H,I,r,h⟩ l k
variable{a b:Expr}{ta tb:TE}
variable{tA Vn:TT}{rest:U2}
def SJ(t u:TT):TT:=λk H Q=>t k H λc d=>if c=Ã then u k d Q else Q Ä d
def Ym(t u:TT):TT:=λk H Q=>t k H λc d=>if c=Ã then Q Ã d else u k d Q
def V7(t:TT):TT:=λk H Q=>t k H λc d=>Q (!c) d
theorem Lv(k:PT X a tA):PW X (.BoolOp .And [a] pos) tA:=by
 intro l pins s d H Q I h;refine isTrue_and (dO (k pins s d H Q I h) λc m e=>?_);cases c with
 |true=>exact isTrue_and_nil e
 |false=>exact e
theorem OS(k:PT X a tA):PW X (.BoolOp .Or [a] pos) tA:=by
 intro l pins s d H Q I h;refine isTrue_or (dO (k pins s d H Q I h) λc m e=>?_);cases c with
 |false=>exact isTrue_or_nil e
 |true=>exact e
theorem OT(t:PT X a tA)(z:PW X (.BoolOp .And (b::rest) pos) Vn):PW X (.BoolOp .And (a::b::rest) pos) (SJ tA Vn):=by
 intro m pins s l H Q I h;refine isTrue_and (dO (t pins s l H _ I h) λc r B=>?_);obtain⟨k,d,q⟩:=B;cases c with
 |true=>exact z m pins r l k Q d q
 |false=>exact⟨k,d,q⟩
theorem SK(t:PT X a tA)(z:PW X (.BoolOp .Or (b::rest) pos) Vn):PW X (.BoolOp .Or (a::b::rest) pos) (Ym tA Vn):=by
 intro m pins s l H Q I h;refine isTrue_or (dO (t pins s l H _ I h) λc r B=>?_);obtain⟨k,d,q⟩:=B;cases c with
 |true=>exact⟨k,d,q⟩
 |false=>exact z m pins r l k Q d q
theorem OU(k:PT X a tA):PT X (.UnaryOp .Not a pos) (V7 tA):=by kd_p;exact isTrue_not (k pins s σ H (λc d=>Q (!c) d) I h)
def SM(l t:TE):TE:=λk H Q=>l k H λx d=>∃c,x=.bl c/\if c=Ã then t k d Q else Q (.bl Ä) d
def V8(l t:TE):TE:=λk H Q=>l k H λx d=>∃c,x=.bl c/\if c=Ã then Q (.bl Ã) d else t k d Q
theorem OV {op} {t:TE} (h:PE X a t):PE X (.BoolOp op [a] pos) t:=λpins s d H Q I k=>BoolOp_one (h pins s d H Q I k)
theorem OW(r:PE X a ta)(m:PE X (.BoolOp .And (b::rest) pos) tb):PE X (.BoolOp .And (a::b::rest) pos) (SM ta tb):=by
 kd_p;refine BoolOp_and (dO (r pins s σ H _ I h) λv l z=>?_);obtain⟨x,k,d,r1,q⟩:=z;obtain⟨c,rfl,q⟩:=q;cases r1;refine ń ?_;cases c with
 |true=>exact m pins l σ k Q d q
 |false=>exact⟨.bl Ä,k,d,rfl,q⟩
theorem SN(r:PE X a ta)(m:PE X (.BoolOp .Or (b::rest) pos) tb):PE X (.BoolOp .Or (a::b::rest) pos) (V8 ta tb):=by
 kd_p;refine BoolOp_or (dO (r pins s σ H _ I h) λv l z=>?_);obtain⟨x,k,d,r1,q⟩:=z;obtain⟨c,rfl,q⟩:=q;cases r1;refine ń ?_;cases c with
 |false=>exact m pins l σ k Q d q
 |true=>exact⟨.bl Ã,k,d,rfl,q⟩
def Zo(t:TT)(m l:TE):TE:=λd H Q=>t d H λc k=>if c=Ã then m d k Q else l d k Q
theorem GY(z:PT X c tA)(t:PE X a ta)(r:PE X b tb):PE X (.IfExp c a b pos) (Zo tA ta tb):=by
 kd_p;refine wpAny_IfExp (dO (z pins s σ H _ I h) λd l B=>?_);obtain⟨m,k,q⟩:=B;cases d with
 |true=>exact t pins l σ m Q k q
 |false=>exact r pins l σ m Q k q
end
def ko(K:Ì)(H:Hp)(a:Addr)(xs:X1):Prop:=
 Rd H a (.lst xs) \/
  ∃(o:Obj)(its:Array Å)(n:Nat),K.lookup a=À o/\o.cls=.type "list"/\o.dict=Æ/\o.data=.seq its n/\its.size<=Ç/\Vals xs its.toList
def m8(K:Ì)(H:Hp)(a:Addr)(xs:X1):Prop:=
 Rd H a (.tup xs) \/
  ∃(o:Obj)(its:Array Å)(n:Nat),K.lookup a=À o/\o.cls=.type "tuple"/\o.data=.seq its n/\its.size<=Ç/\Vals xs its.toList
noncomputable def V9:Å->Option V
 |.none=>À .bD
 |.bool b=>À (.bl b)
 |.int i _=>À (.int i)
 |.str x _=>À (.str x)
 |.bytes b _=>À (.Sy b)
 |.float b _=>À (.V1 b)
 |.ref a=>À (.ref a)
 |.type n=>À (.ty n)
 |_=>Æ
theorem RelV.abs{x:V}(r:RelV x u):V9 u=À x:=by
 cases x with
 |bD=>cases r;rfl
 |bl _=>cases r;rfl
 |int _=>obtain⟨t,rfl⟩:=r;rfl
 |str _=>obtain⟨t,rfl⟩:=r;rfl
 |Sy _=>obtain⟨t,rfl⟩:=r;rfl
 |V1 _=>obtain⟨t,rfl⟩:=r;rfl
 |ref _=>cases r;rfl
 |ty _=>cases r;rfl
theorem RelV.inj{x:V}(r:RelV x u)(q:RelV y u):x=y:=é (r.abs.symm.trans q.abs)
theorem Vals.inj(h:Vals xs us)(h':Vals ys us):xs=ys:=by
 induction h generalizing ys with
 |nil=>cases h';rfl
 |cons r t ih=>
  cases h' with
  |cons r' t'=>rw[r.inj r',ih t']
section
theorem ko.of(h:H a=À (.lst xs)):ko K H a xs:=.inl (.inl h)
theorem Inv.list(I:Inv X pins σ H s)(h:ko X.K H a xs):∃its:List Å,Vals xs its/\PlainL s.heap a its.toArray/\xs.length<=Ç:=by
 rcases h with h|⟨o,its,n,d,l,k,m,hz,r⟩
 ·obtain⟨z,its,n,r,e⟩:=h.ok I.hok;exact⟨its,r,⟨_,n,e,rfl,rfl,rfl⟩,z⟩
 ·refine⟨its.toList,r,⟨o,n,I.yV a o d,l,k,‹m›⟩,?_⟩;have e:=r.length;simp only[ĝ]at e;lia
theorem Inv.tuple(I:Inv X pins σ H s)(h:m8 X.K H a xs):∃its:List Å,Vals xs its/\IsTup s.heap a its.toArray/\xs.length<=Ç:=by
 rcases h with h|⟨o,its,n,d,k,l,hz,r⟩
 ·obtain⟨z,its,r,p⟩:=h.ok I.hok;exact⟨its,r,p,z⟩
 ·refine⟨its.toList,r,⟨o,I.yV a o d,k,n,‹l›⟩,?_⟩;have e:=r.length;simp only[ĝ]at e;lia
theorem Inv.oH(I:Inv X pins σ H s)(h:ko X.K H a xs)(h':ko X.K H a ys):xs=ys:=by
 obtain⟨its,r,⟨o,n,e,_,_,d⟩,_⟩:=I.list h;obtain⟨its',l,⟨q,m,k,_,_,d'⟩,_⟩:=I.list h';rw[e]at k;cases k;rw[d]at d';injection d' with d1 _;have:its=its':=by simpa using congrArg Array.toList d1
 subst this;exact r.inj l
theorem Inv.qu(I:Inv X pins σ H s)(h:m8 X.K H a xs)(h':m8 X.K H a ys):xs=ys:=by
 obtain⟨its,r,⟨o,e,_,n,d⟩,_⟩:=I.tuple h;obtain⟨its',l,⟨q,k,_,m,d'⟩,_⟩:=I.tuple h';rw[e]at k;cases k;rw[d]at d';injection d' with d1 _;have:its=its':=by simpa using congrArg Array.toList d1
 subst this;exact r.inj l
end
section
variable{st:Stmt}{rest:List Stmt}{t u:TS}
def SO:TS:=λD d H=>D.nx d H
def SQ(t u:TS):TS:=λD d H=>t {D with nx:=u D} d H
theorem Lw:BA X [] SO:=λ_ _ d H _ I h=>abe ⟨d,H,I,h⟩
theorem GZ(m:PS X st t)(l:BA X rest u):BA X (st::rest) (SQ t u):=by
 intro pins s z H D I h;refine adF (dO (m pins s z H {D with nx:=u D} I h) λf k q=>?_);cases f with
 |next=>obtain⟨d,H',r,q⟩:=q;exact l pins k d H' D r q
 |ret v=>exact q
 |brk=>exact q
 |cont=>exact q
theorem Lx(d:PS X st t):BA X [st] t:=by
 intro pins s k H D I h;refine adF (dO (d pins s k H D I h) λf l q=>?_);cases f with
 |next=>exact abe q
 |ret v=>exact q
 |brk=>exact q
 |cont=>exact q
def SR:TS:=λD d H=>D.ct d H
theorem zc:PS X (.Continue pos) SR:=λ_ _ d H _ I h=>wpAny_Continue ⟨d,H,I,h⟩
theorem Inv.quiet(I:Inv X pins σ H s):interactive X.env=Ä:=by simp[interactive,I.ok.kind]
def SS(te:TE):TS:=λD d H=>te d H λ_ k=>D.nx d k
theorem Ly(r:PE X e te)(l:swapsWith e Æ pos.line X.env=pure Ä):PS X (.Expr e pos) (SS te):=by intro pins s d H D I h;exact wpAny_Expr_any (dO (r pins s d H _ I h) λv B z=>by obtain⟨x,m,k,F,q⟩:=z;exact⟨d,m,k,q⟩) I.quiet l
def Wa(te:TE):TS:=λD d H=>te d H D.rt
theorem OX(m:PE X e te):PS X (.Return (À e) pos) (Wa te):=by intro pins s d H D I h;exact wpAny_Return_some (dO (m pins s d H _ I h) λv B z=>by obtain⟨x,l,k,r,q⟩:=z;exact⟨x,d,l,k,r,q⟩)
def Wb(c:TT)(t u:TS):TS:=λD d H=>c d H λb k=>if b=Ã then t D d k else u D d k
theorem SV{a b:List Stmt}(F:PT X c tc)(z:BA X a t)(B:BA X b u):PS X (.If c a b pos) (Wb tc t u):=by
 intro pins s k H D I h;refine wpAny_If (dO (F pins s k H _ I h) λd m G=>?_);obtain⟨r,l,q⟩:=G;cases d with
 |true=>exact z pins m k r D l q
 |false=>exact B pins m k r D l q
end
abbrev TG:=V->St->Hp->(St->Hp->Prop)->Prop
abbrev OY:=X1->St->Hp->(St->Hp->Prop)->Prop
def PG(X:Cx)(d:Expr)(t:TG):Prop:=
 ∀(pins:N0)(s:Ê)(l:St)(H:Hp)(v:V)(u:Å)(Q:St->Hp->Prop),Inv X pins l H s->RelV v u->t v l H Q ->
  Ú (model X.prog X.w) X.A (assign d X.env u) (λ_ m=>∃k H',Inv X pins k H' m/\Q k H') X.xe s
def Vo(X:Cx)(m:U2)(t:OY):Prop:=
 ∀(pins:N0)(s:Ê)(k:St)(H:Hp)(vs:X1)(l:List Å)(Q:St->Hp->Prop),Inv X pins k H s->Vals vs l->t vs k H Q ->
  Ú (model X.prog X.w) X.A (assignInOrder ((assignEach m X.env).map (·.2)) l) (λ_ q=>∃d H',Inv X pins d H' q/\Q d H') X.xe s
abbrev OZ:=V->V->V->Hp->(Hp->Prop)->Prop
def SW(X:Cx)(t:OZ):Prop:=
 ∀(pins:N0)(s:Ê)(k:St)(H:Hp)(o i v:V)(l d u:Å)(Q:Hp->Prop),Inv X pins k H s->RelV o l->RelV i d->RelV v u->t o i v H Q ->
  Ú (model X.prog X.w) X.A (setItem l d u) (λ_ m=>∃H',Inv X pins k H' m/\Q H') X.xe s
section
def vN(i:Nat):TG:=λv d H Q=>Q (d.set i (À v)) H
theorem mL(q:X.N.Nodup)(l:X.N[i]?=À x)(d:Loc X.env.scope x)(k:X.fn x=Ã\/X.env.scope.names.lookup x=À .local):PG X (.Name x pos) (vN i):=by intro pins s z H v u Q I r h;exact abW (zb I q l d r (λt m=>⟨_,H,m,h⟩) k)
def Wc:OY:=λvs d H Q=>vs=[]/\Q d H
def SX(t:TG)(u:OY):OY:=λvs k H Q=>∃v r,vs=v::r/\t v k H λd H'=>u r d H' Q
theorem C9:Vo X [] Wc:=by intro pins s d H vs k Q I r h;obtain⟨e,h⟩:=h;kpc_g;cases r;exact assignInOrder_nil ⟨d,H,I,h⟩
theorem lK{t:TG}{u:OY}(D:PG X e t)(B:Vo X es u)
  (z:(assignEach (e::es) X.env).map (·.2)=assign e X.env::(assignEach es X.env).map (·.2):=by rfl):Vo X (e::es) (SX t u):=by
 intro pins s G H vs L Q I r h;obtain⟨v,M,k,h⟩:=h;subst k;cases r with
 |cons r rr=>rw[z];refine assignInOrder_cons (dO (D pins s G H _ _ _ I r h) λ_ m J=>?_);obtain⟨d,F,l,q⟩:=J;exact B pins m d F _ _ Q l rr q
def Wd(K:Ì)(n:Nat)(t:OY):TG:=λv d H Q=>∃a xs,v=.ref a/\m8 K H a xs/\xs.length=n/\t xs d H Q
theorem G7{k:Nat}{t:OY}(L:X.calm=Ã)(h:Vo X es t)
  (J:(assignEach es X.env).length=n:=by rfl) (d:(assignEach es X.env).findIdx? (·.1)=Æ:=by rfl):PG X (.Tuple es k pos) (Wd X.K n t):=by
 intro pins s m H v u Q I r l;obtain⟨a,xs,z,M,F,l⟩:=l;subst z;cases r;obtain⟨its,q,G,hz⟩:=I.tuple M;refine assign_Tuple_tuple (I.ok.hd L) G (by simp[J,<- F,q.length]) d λh' D=>?_;have B:Inv X pins m H {s with heap:=h'}:=I.kept (t':=s.toks) λb o e=>D b o (á (Õ e)) e;exact h pins _ m H xs _ Q B ‹q› l
def We(l r:TE)(t:OZ):TG:=λv d H Q=>l d H λo k=>r d k λi m=>t o i v m λq=>Q d q
theorem O0{o i:Expr}{m q:TE}{t:OZ}(ho:PE X o m)(L:PE X i q)(Z:SW X t)
  (V:∀v,assign (.Subscript o i pos) X.env v=(do
   let d <- holding [v] (eval o X.env)
   let k <- holding [v,d] (eval i X.env)
   standAt pos
   holding [v,d,k] (setItem d k v)
   release [v,d,k] []):=by intro _;rfl):PG X (.Subscript o i pos) (We m q t):=by
 intro pins s l H v u Q I r h;rw[V];refine Á (ė (dO (ho pins s l H _ I h) λd T z=>?_));obtain⟨x,O,R,Y,F⟩:=z;refine Á (ė (dO (L pins T l O _ R F) λk B z=>?_));obtain⟨y,U,M,D,J⟩:=z;refine Á (ac9 (Á (ė (dO (Z pins B l U x y v d k u _ M Y D r J) λ_ s3 z=>?_))));obtain⟨W,G,S⟩:=z;exact wpAny_release ⟨l,W,G,S⟩
def Lz(te:TE)(g:TG):TS:=λD d H=>te d H λx k=>g x d k D.nx
theorem G8{g:TG}(F:PE X e te)(J:PG X tg g)(t:swapsWithSole [tg] e pos.line X.env=pure Ä)(G:swappedStores [tg] e X.env=pure Æ)
  (z:(assignEach [tg] X.env).map (·.2)=[assign tg X.env]:=by rfl):PS X (.Assign [tg] e pos) (Lz te g):=by
 intro pins s d H D I h;refine wpAny_Assign_stores (dO (F pins s d H _ I h) λv l L=>?_) t G;obtain⟨x,B,k,r,m⟩:=L;rw[z];exact dO (J pins l d B x v _ k r m) λ_ M q=>q
theorem O1(G:X.N.Nodup)(m:X.N[i]?=À x)(k:Loc X.env.scope x)(J:PE X e te)(z:swapsWith e (À (.Name x pos')) pos.line X.env=pure Ä)(l:X.fn x=Ã\/X.env.scope.names.lookup x=À .local):
  PS X (.Assign [.Name x pos'] e pos) (Lz te (vN i)):=by
 intro pins s F H D I h;refine wpAny_Assign_Name (dO (J pins s F H _ I h) λv O L=>?_) z;obtain⟨y,B,d,t,q⟩:=L;exact zb d G m k t (λM r=>⟨_,B,r,q⟩) l
end
section
def O2(c:TT)(t:TS):TS:=λD d H=>∃W:Nat->St->Hp->Prop,(∃m,W m d H)/\∀m d H,W m d H ->
 c d H λb l=>if b=Ã then ∃N:St->Hp->Prop,(∀k H',N k H'->∃q,q<m/\W q k H')/\t {D with nx:=N,ct:=N,bk:=D.nx} d l else D.nx d l
theorem G9(R:PassesOwn (model X.prog X.w) X.A X.env X.xe)(Z:PT X c tc)(hb:BA X body tb):PS X (.While c body [] pos) (O2 tc tb):=by
 intro pins s Y H D I h;obtain⟨W,⟨U,w0⟩,t⟩:=h;refine wpAny_While (codeAny_whileLoop (λn s'=>∃l H',Inv X pins l H' s'/\W n l H') ?_ U ⟨Y,H,I,w0⟩);rintro n s1 ⟨k,M,I1,V⟩;refine ř R (dO (Z pins s1 k M _ I1 (t n k M V)) λb T zz=>?_);obtain⟨O,L,q⟩:=zz;cases b with
 |true=>
  obtain⟨N,S,q⟩:=q;rw[Α rfl];refine ř R (dO (hb pins T k O _ L q) λf s3 r=>?_);cases f with
  |next=>obtain⟨d,m,B,J⟩:=r;obtain⟨F,G,z⟩:=S d m J;exact⟨F,G,d,m,B,z⟩
  |cont=>obtain⟨d,m,B,J⟩:=r;obtain⟨F,G,z⟩:=S d m J;exact⟨F,G,d,m,B,z⟩
  |brk=>exact r
  |ret v=>exact r
 |false=>rw[Β í];exact abe ⟨k,O,L,q⟩
end
structure It where
 go:Nat->Hp->Prop
 vO:Nat->Hp->V->Hp->Prop
 stop:Nat->Hp->Prop
variable{R:It->Hp->Prop}
def nG(X:Cx)(pins:N0)(H:Hp)(b:Addr):Prop:=
 H b=Æ/\b≠X.env.locals/\b∉X.fs/\(b∈X.ex\/X.s₀.heap.objs.size<=b)/\(∀x c,X.env.cells.lookup x=À c->c≠b)/\∀p∈X.pn++pins,p.1≠b
theorem Inv.sN{H':Hp}(I:Inv X pins σ H s)(d:s.heap.objs.size<=b)(l:H' b=Æ):nG X pins H' b:=by
 refine⟨l,ž (Ø I.lt d),I.V5 d,.inr (ü I.sz d),λx c e z=>?_,λp k z=>?_⟩
 ·obtain⟨v,q⟩:=I.cell x c e;exact absurd (Ø q.lt (by rw[z];exact d)) (Ĭ _)
 ·exact absurd (Ø (Õ (I.pin p k).1) (by rw[z];exact d)) (Ĭ _)
structure Turn(P:ð)(w:Ć)(K:Ì)(tg:Expr)(J:It)(fp:Q1)(it:Addr)(tn:Nat->Heap->Prop):Prop where
 mem:it∈fp
 obj:∀i h,tn i h->∀b∈fp,∃o,h.get? b=À o/\∀v,o.data≠.cell v
 keep:∀i h h',tn i h->(∀b∈fp,∀o,h.get? b=À o->h'.get? b=À o)->tn i h'
 item:∀(X:Cx),X.prog=P->X.w=w->X.K=K->X.calm=Ã->∀(i:Nat)(pins:N0)(s:Ê)(σ:St)(H:Hp)(E:Å->Ê->Prop),Inv X pins σ H s->(∀b∈fp,nG X pins H b)->tn i s.heap->J.go i H ->
  Ú (model P w) X.A (pyNext (.ref it)) (λr s1=>∃u,r=À u /\
   Ú (model P w) X.A (letOwnedTupleGo tg (.ref it) u) (λ_ s2=>∃x H',Inv X pins σ H' s2/\RelV x u/\J.vO i H x H'/\tn (i+1) s2.heap/\∀b∈fp,H' b=Æ) E s1) E s
 done:∀(X:Cx),X.prog=P->X.w=w->X.K=K->X.calm=Ã->∀(i:Nat)(pins:N0)(s:Ê)(σ:St)(H:Hp)(E:Å->Ê->Prop),Inv X pins σ H s->(∀b∈fp,nG X pins H b)->tn i s.heap->J.stop i H ->
  Ú (model P w) X.A (pyNext (.ref it)) (λr s1=>r=Æ/\Inv X pins σ H s1) E s
 self:∀(A:Around)(i:Nat)(s:Ê)(Q:Å->Ê->Prop)(E:Å->Ê->Prop),tn i s.heap->Q (.ref it) s->Ú (model P w) A (pyIter (.ref it)) Q E s
abbrev TI:=St->Hp->(It->Hp->Prop)->Prop
def Wf(X:Cx)(pins:N0)(m:St)(l:Expr)(R:It->Hp->Prop)(d:Å)(k:Ê):Prop:=
 ∃(it:Addr)(fp:Q1)(t:Nat->Heap->Prop)(J:It)(H':Hp),d=.ref it/\Inv X pins m H' k/\Turn X.prog X.w X.K l J fp it t/\t 0 k.heap/\(∀b∈fp,nG X pins H' b)/\R J H'
def PI(X:Cx)(t d:Expr)(m:TI):Prop:=
 ∀(pins:N0)(s:Ê)(k:St)(H:Hp)(R:It->Hp->Prop),Inv X pins k H s->m k H R ->
  Ú (model X.prog X.w) X.A (eval d X.env) (λv l=>Ú (model X.prog X.w) X.A (pyIter v) (Wf X pins k t R) X.xe l) X.xe s
theorem vP{M:Model}{A:Around}{E:Å->Ê->Prop}{t:Expr}{u:Å}{o:Obj}{n:String}{Q:Unit->Ê->Prop}(k:s.heap.get? it=À o)(q:o.cls=.type n)(l:o.data=.fields vs)
  (m:["enumerate","zip","dict_itemiterator","dict_reverseitemiterator","odict_iterator","itertools.zip_longest","itertools.pairwise"].contains n=Ä) (d:Q () s):Ú M A (letOwnedTupleGo t (.ref it) u) Q E s:=by
 unfold letOwnedTupleGo
 cases t<;>first
  |exact È d
  | (cases u<;>first
      |exact È d
      | (refine Á (aaq k ?_)
         rw[q,l];show Ú M A (if (["enumerate","zip","dict_itemiterator","dict_reverseitemiterator","odict_iterator","itertools.zip_longest","itertools.pairwise"].contains n&&vs[0]?==À (rawInt _))=Ã then _ else _) Q E s;rw[Β (by intro h;rw[m,Ÿ]at h;cases h)];exact È d))
def Lk(K:Ì)(a:Addr):It:=
 ⟨λi H=>∃xs x,ko K H a xs/\xs[i]?=À x,λi H x H'=>H'=H/\∀xs,ko K H a xs->xs[i]?=À x,λi H=>∃xs,ko K H a xs/\xs.length<=i⟩
def Vp(K:Ì)(a:Addr):It:=
 ⟨λi H=>∃xs x,m8 K H a xs/\xs[i]?=À x,λi H x H'=>H'=H/\∀xs,m8 K H a xs->xs[i]?=À x,λi H=>∃xs,m8 K H a xs/\xs.length<=i⟩
def xF(l:Int)(n:Nat):It:=⟨λi _=>i<n,λi H x H'=>H'=H/\x=.int (l+i),λi _=>n<=i⟩
theorem EA(a it:Addr):Turn P w K tg (Lk K a) [it] it (λi h=>h.IsListIter it a i) where
 mem:=by simp
 obj:=λi h st b l=>by
  have e:b=it:=‹l›
  kpc_g;obtain⟨o,e,c,d⟩:=st;kst_p
 keep:=λi h h' st k=>st.at λo e=>k it ⋯ o e
 item:=by intro X hP hw hK F i pins s D H E I hf st B;kd_in;obtain⟨xs,x,q,r⟩:=B;obtain⟨its,t,p,hz⟩:=I.list q;obtain⟨u,S,L⟩:=t.get r;k_ne;refine wpAny_pyNext_list_item st p.isList (x:=u) ‹S› λh' m G=>?_;have M:Inv X pins D H {s with heap:=h'}:=I.turned (t':=s.toks) (λb o l e=>(G.2 b l).trans e) f0 f1 f3 f4 f5;obtain⟨o,e,c,d⟩:=id m;exact⟨u,rfl,vP (s:={s with heap:=h'}) e c d (by decide) ⟨x,H,M,L,⟨rfl,λys J=>by rw[I.oH J q];exact r⟩,m,λb l=>(hf b l).1⟩⟩
 done:=by intro X hP hw hK F i pins s D H E I hf st B;kd_in;obtain⟨xs,q,r⟩:=B;obtain⟨its,t,p,hz⟩:=I.list q;k_ne;have T:=t.length;exact wpAny_pyNext_list_end (I.ok.hd F) st p.isList (by simp;lia) λh' O=>⟨rfl,I.turned (t':=s.toks) (λb o l e=>O b o l e) f0 f1 f3 f4 f5⟩
 self:=λ_ _ _ _ _ st h=>wpAny_pyIter_listiter st h
theorem BC(a it:Addr):Turn P w K tg (Vp K a) [it] it (λi h=>h.IsTupleIter it a i) where
 mem:=by simp
 obj:=λi h st b l=>by
  have e:b=it:=‹l›
  kpc_g;obtain⟨o,e,c,d⟩:=st;kst_p
 keep:=λi h h' st k=>st.at λo e=>k it ⋯ o e
 item:=by intro X hP hw hK F i pins s D H E I hf st B;kd_in;obtain⟨xs,x,q,r⟩:=B;obtain⟨its,t,p,hz⟩:=I.tuple q;obtain⟨u,S,L⟩:=t.get r;k_ne;refine wpAny_pyNext_tuple_item st (show s.heap.IsTuple a its.toArray from p) (x:=u) ‹S› λh' m G=>?_;have M:Inv X pins D H {s with heap:=h'}:=I.turned (t':=s.toks) (λb o l e=>(G.2 b l).trans e) f0 f1 f3 f4 f5;obtain⟨o,e,c,d⟩:=id m;exact⟨u,rfl,vP (s:={s with heap:=h'}) e c d (by decide) ⟨x,H,M,L,⟨rfl,λys J=>by rw[I.qu J q];exact r⟩,m,λb l=>(hf b l).1⟩⟩
 done:=by intro X hP hw hK F i pins s D H E I hf st B;kd_in;obtain⟨xs,q,r⟩:=B;obtain⟨its,t,p,hz⟩:=I.tuple q;k_ne;have T:=t.length;exact wpAny_pyNext_tuple_end (I.ok.hd F) st (show s.heap.IsTuple a its.toArray from p) (by simp;lia) λh' O=>⟨rfl,I.turned (t':=s.toks) (λb o l e=>O b o l e) f0 f1 f3 f4 f5⟩
 self:=λ_ _ _ _ _ st h=>wpAny_pyIter_tupleiter st h
theorem BD(it:Addr)(m:Int)(n:Nat):Turn P w K tg (xF m n) [it] it (λi h=>IsRangeIter h it (m+(i:Nat)*1) ((n:Int)-(i:Nat)) 1) where
 mem:=by simp
 obj:=λi h st b d=>by
  have e:b=it:=‹d›
  kpc_g;exact⟨_,st,λv z=>by have F:Data.fields _=Data.cell v:=z;cases F⟩
 keep:=λi h h' st k=>k it ⋯ _ st
 item:=by intro X hP hw hK q i pins s B H E I hf st r;kd_in;k_ne;have W:=Walks.range (prog:=X.prog) (w:=X.w) (I.ok.hd q) it m 1 n;refine iR I.os.2 (W.item i s _ _ r st λv h' tk L l D=>λM=>?_);obtain⟨t,rfl⟩:=L;have G:Inv X pins B H {s with heap:=h',toks:=tk}:=I.turned (λb o d e=>D b o ‹d› e) f0 f1 f3 f4 f5;refine⟨_,rfl,vP (s:={s with heap:=h',toks:=tk}) (n:="range_iterator") l rfl rfl (by decide) ⟨.int (m+i),H,G,⟨t,?_⟩,⟨rfl,rfl⟩,l,λb d=>(hf b d).1⟩⟩;rw[Int.mul_one]
 done:=by intro X hP hw hK q i pins s B H E I hf st r;kd_in;k_ne;exact wpAny_pyNext_range_end (I.ok.hd q) st (by have:n<=i:=r;lia) λh' J=>⟨rfl,I.turned (t':=s.toks) (λb o d e=>J b o d e) f0 f1 f3 f4 f5⟩
 self:=λ_ _ _ _ _ st h=>wpAny_pyIter_rangeiter st h
section
theorem Hf{E:Å->Ê->Prop}{t u v:Tok}(I:Inv X pins σ H s)(r:-(2^62)<=lo)(m:lo<2^62)(B:-(2^62)<=hi)(k:hi<2^62)
  (q:R (xF lo (hi-lo).toNat) H) (D:0<tk:=by accm_mu):Ú (model X.prog X.w) X.A (pyIter (.ref s.heap.objs.size)) (Wf X pins σ tg R) E {s with heap:=s.heap.push {cls:=.type "range",data:=.fields #[.int lo t,.int hi u,.int 1 v]},toks:=tk}:=by
 refine wpAny_pyIter_range (IsRange.new ..) (small_one r m B k) ?_;have I1:Inv X pins σ H {s with heap:=s.heap.push {cls:=.type "range",data:=.fields #[.int lo t,.int hi u,.int 1 v]},toks:=tk}:=I.kept λb o e=>É _ e
 refine⟨(s.heap.push {cls:=.type "range",data:=.fields #[.int lo t,.int hi u,.int 1 v]}).objs.size,[(s.heap.push {cls:=.type "range",data:=.fields #[.int lo t,.int hi u,.int 1 v]}).objs.size],_,_,H,rfl,
  I1.kept (t':=tk) λb o e=>É _ e,BD _ lo (hi-lo).toNat,?_,λb z=>?_,q⟩
 ·have d:lo+((0:Nat):Int)*1=lo:=by simp
  have l:(((hi-lo).toNat:Nat):Int)-((0:Nat):Int)=Builtin.Range.rangeSize lo hi 1:=by rw[rangeSize_one];split<;>lia
  show IsRangeIter _ _ (lo+((0:Nat):Int)*1) ((((hi-lo).toNat:Nat):Int)-((0:Nat):Int)) 1;rw[d,l];exact Ð _ rfl
 ·have e:b=(s.heap.push {cls:=.type "range",data:=.fields #[.int lo t,.int hi u,.int 1 v]}).objs.size:=‹z›
  kpc_g;sr_in
def N2(t:TA):TI:=λd H R=>t d H λvs k=>∃j:Int,vs=[.int j]/\-(2^62)<=j/\j<2^62/\R (xF 0 j.toNat) k
theorem qv{a:Expr}{k:TA}{p:Pos}(G:Gl X "range")(D:X.mg "range"=Æ)(z:PA X [a] k)(B:æ [a] X.env=[(Ä,eval a X.env)]):PI X tg (.Call (.Name "range" p) [a] [] pos) (N2 k):=by
 intro pins s F H R I h;refine Call_ (iS I G D boot_range (ă (dO (z pos pins s F H _ I h) λM L J=>?_) B rfl));obtain⟨vs,O,l,r1,d⟩:=J;obtain⟨j,e,d,m,q⟩:=d;kpc_g;cases r1 with
 |cons r rr=>cases rr;obtain⟨t,rfl⟩:=r;exact call_range_1 (Hf l ∅ ∅ d m ‹q›)
def Wg(r:TI)(g:TG)(B:TS):TS:=λD d H=>r d H λJ z=>∃W:Nat->Nat->St->Hp->Prop,(∃m,W 0 m d z)/\∀i m d H,W i m d H ->
 (J.stop i H/\D.nx d H)\/(J.go i H/\∃N:St->Hp->Prop,(∀k H',N k H'->∃q,q<m/\W (i+1) q k H')/\∀x H',J.vO i H x H'->g x d H' λl t=>B {D with nx:=N,ct:=N,bk:=D.nx} l t)
def qw(fp:Q1)(h:Heap):N0:=fp.filterMap λb=>(h.get? b).map λo=>(b,o)
theorem kq{fp:Q1}{o:Obj}(d:b∈fp)(e:h.get? b=À o):(b,o)∈qw fp h:=abD.mpr ⟨b,d,by rw[e];rfl⟩
theorem EB{fp:Q1}(d:p∈qw fp h):p.1∈fp/\h.get? p.1=À p.2:=by
 obtain⟨b,k,e⟩:=abD.mp d;cases q:h.get? b with
 |none=>f_int
 |some o=>rw[q]at e;have l:(b,o)=p:=é e;subst l;exact⟨k,q⟩
theorem Inv.pinned{fp:Q1}(I:Inv X pins σ H s)(q:∀b∈fp,nG X pins H b)(r:∀b∈fp,∃o,s.heap.get? b=À o/\∀v,o.data≠.cell v):Inv X (pins++qw fp s.heap) σ H s:=
 I.xE λp B=>(ì.mp B).elim (λz=>I.pin p (Ġ _ z)) λz=>by obtain⟨k,e⟩:=EB z;obtain⟨t,D,m,_⟩:=q p.1 k;obtain⟨o,l,d⟩:=r p.1 k;rw[e]at l;cases l;exact⟨e,t,D,m,d⟩
theorem Inv.sO{pl:N0}(I:Inv X (pins++pl) σ H s):Inv X pins σ H s:=I.xE λp d=>I.pin p (Ġ _ (ġ _ d))
theorem BE{wi:TI}{g:TG}{pos:Pos}(Y:PassesOwn (model X.prog X.w) X.A X.env X.xe)(hc:X.calm=Ã)(hi:PI X tg iter wi)(hg:PG X tg g)(B:BA X body tb)
  (hs:∀x,foldedSetIterable iter X.env x=pure x:=by intro _;rfl):PS X (.For tg iter body [] pos) (Wg wi g tb):=by
 intro pins s σ H D I h;refine wpAny_For (dO (hi pins s σ H _ I h) λv s1 h1=>dO h1 λitv s2 h2=>?_) hs;obtain⟨it,fp,tn,J,H2,e,I2,T,st2,f2,W,⟨m0,w0⟩,O⟩:=h2;kpc_g;have O3:∀{H':Hp},(∀b∈fp,H' b=Æ)->∀b∈fp,nG X pins H' b:=λhn b B=>⟨hn b B,(f2 b B).2⟩;refine codeAny_forLoop_any (λn s'=>∃i q H',Inv X pins q H' s'/\tn i s'.heap/\(∀b∈fp,H' b=Æ)/\W i n q H') ?_ m0 ⟨0,σ,H2,I2,st2,λb B=>(f2 b B).1,w0⟩;rintro n s3 ⟨i,F,Z,I3,M,Yn,w3⟩;rcases O i n F Z w3 with⟨S,qn⟩|⟨go,N,hN,U⟩
 ·refine ř Y (dO (T.done X rfl rfl rfl hc i pins s3 F Z X.xe I3 (O3 Yn) M S) λr s4 L=>?_);obtain⟨hr,I4⟩:=L;subst hr;exact abe ⟨F,Z,I4,qn⟩
 ·refine ř Y (dO (T.item X rfl rfl rfl hc i pins s3 F Z X.xe I3 (O3 Yn) M go) λr s4 L=>?_);obtain⟨u,hr,h4⟩:=L;subst hr;refine ř Y (dO h4 λ_ s5 L=>?_);obtain⟨x,H5,I5,r5,y5,R4,Vq⟩:=L;have Zp:=I5.pinned (O3 Vq) (T.obj _ _ R4);refine ř Y (dO (hg _ s5 F H5 x u _ Zp r5 (U x H5 y5)) λ_ s6 L=>?_);obtain⟨σ6,H6,I6,q6⟩:=L;refine ř Y (dO (B _ s6 σ6 H6 _ I6 q6) λf s7 G=>?_);have z:∀{k:St}{l:Hp},Inv X (pins++qw fp s5.heap) k l s7->N k l->∃m,m<n/\∃i q H',Inv X pins q H' s7/\tn i s7.heap/\(∀b∈fp,H' b=Æ)/\W i m q H':=λ{k l} t V=>by obtain⟨m',hm,w7⟩:=hN k l V;refine⟨m',hm,i+1,k,l,t.sO,T.keep _ _ _ R4 λb B o e=>(t.pin (b,o) (Ġ _ (Ġ _ (kq B e)))).1,λb B=>?_,w7⟩;obtain⟨o,e,d⟩:=T.obj _ _ R4 b B;exact(t.pin (b,o) (Ġ _ (Ġ _ (kq B e)))).2.1
  cases f with
  |next=>obtain⟨k,l,t,V⟩:=G;exact z t V
  |cont=>obtain⟨k,l,t,V⟩:=G;exact z t V
  |brk=>obtain⟨k,l,t,G⟩:=G;exact⟨k,l,t.sO,G⟩
  |ret v=>obtain⟨x7,k,l,t,r7,G⟩:=G;exact⟨x7,k,l,t.sO,r7,G⟩
end
abbrev R2:=V->V->Hp->VK->Prop
variable{r:R2}
def gW(X:Cx)(f:Å->Å->Sem Å)(r:R2):Prop:=
 ∀(pins:N0)(s:Ê)(d:St)(H:Hp)(x y:V)(v u:Å)(Q:VK),Inv X pins d H s->RelV x v->RelV y u->r x y H Q ->
  Ú (model X.prog X.w) X.A (f v u) (EP X pins d Q) X.xe s
def Wh(X:Cx)(f:Å->Sem Å)(r:V->Hp->VK->Prop):Prop:=
 ∀(pins:N0)(s:Ê)(d:St)(H:Hp)(x:V)(v:Å)(Q:VK),Inv X pins d H s->RelV x v->r x H Q ->
  Ú (model X.prog X.w) X.A (f v) (EP X pins d Q) X.xe s
def eE(X:Cx)(f:Å)(r:X1->Hp->VK->Prop):Prop:=
 ∀(pins:N0)(s:Ê)(d:St)(H:Hp)(xs:X1)(k:List Å)(Q:VK),Inv X pins d H s->Vals xs k->r xs H Q ->
  Ú (model X.prog X.w) X.A (call f k) (EP X pins d Q) X.xe s
def Wi(X:Cx)(r:V->Hp->(Bool->Hp->Prop)->Prop):Prop:=
 ∀(pins:N0)(s:Ê)(d:St)(H:Hp)(x:V)(v:Å)(Q:Bool->Hp->Prop),Inv X pins d H s->RelV x v->r x H Q ->
  Ú (model X.prog X.w) X.A (truthy v) (TP X pins d Q) X.xe s
def SY(r:R2)(m t:TE):TE:=λd H Q=>m d H λx k=>t d k λy l=>r x y l Q
def Zq(r:V->Hp->VK->Prop)(t:TE):TE:=λk H Q=>t k H λx d=>r x d Q
def rI(C:Int->Int->Prop)(g:Int->Int->V):R2:=λx y H Q=>∃i j,x=.int i/\y=.int j/\C i j/\Q (g i j) H
def LA(g:Int->Int->V):R2:=λx y H Q=>∃i j,x=.int i/\y=.int j/\Q (g i j) H
def rU(g:Int->V):V->Hp->VK->Prop:=λx H Q=>∃i,x=.int i/\Q (g i) H
section
variable{a b:Expr}{ta tb tc:TE}
theorem O4(L:PE X a ta)(T:PE X b tb){pins:N0}{s:Ê}{k:St}{H:Hp}{R:V->V->Hp->Prop}(I:Inv X pins k H s)
  (h:ta k H λx t=>tb k t λy d=>R x y d) {Q:Å->Ê->Prop} {f:Å->Å->Sem Å}
  (M:∀v u q x y d,Inv X pins k d q->RelV x v->RelV y u->R x y d->Ú (model X.prog X.w) X.A (f v u) Q X.xe q):
  Ú (model X.prog X.w) X.A (eval a X.env) (λv l=>Ú (model X.prog X.w) X.A (eval b X.env) (λu m=>Ú (model X.prog X.w) X.A (f v u) Q X.xe m) X.xe l) X.xe s:=by
 refine dO (L pins s k H _ I h) λv F z=>?_;obtain⟨x,t,D,S,G⟩:=z;refine dO (T pins F k t _ D G) λu q z=>?_;obtain⟨y,d,O,B,J⟩:=z;exact M v u q x y d O S B J
theorem S0{d:Operator}(F:gW X (binaryOp d) r)(t:PE X a ta)(l:PE X b tb):PE X (.BinOp a d b pos) (SY r ta tb):=by kd_p;exact wpAny_BinOp (O4 t l I h λv u k x y m B D z q=>F pins k σ m x y v u Q B D z q)
theorem S1{d:UnaryOp}{r:V->Hp->VK->Prop}(D:Wh X (unaryOp d) r)(t:PE X a ta):PE X (.UnaryOp d a pos) (Zq r ta):=by kd_p;exact UnaryOp_ (dO (t pins s σ H _ I h) λv l z=>by obtain⟨x,m,k,B,q⟩:=z;exact D pins l σ m x v Q k B q)
theorem S2{f:Å->Å->Sem Å}
  (d:∀(i j:Int)(t u:Tok)(s:Ê)(Q:Å->Ê->Prop)(E:Å->Ê->Prop),C i j->Q (.int (g i j) s.toks) {s with toks:=s.toks+1}->Ú (model X.prog X.w) X.A (f (.int i t) (.int j u)) Q E s):
  gW X f (rI C λi j=>.int (g i j)):=by
 by_in;obtain⟨i,j,rfl,rfl,k,q⟩:=h;k_few;obtain⟨t',rfl⟩:=ry;exact d i j t t' s _ _ k ⟨.int (g i j),H,I.tok _,⟨_,rfl⟩,q⟩
theorem S3{f:Å->Å->Sem Å}
  (d:∀(i j:Int)(t u:Tok)(s:Ê)(Q:Å->Ê->Prop)(E:Å->Ê->Prop),Q (.int (g i j) s.toks) {s with toks:=s.toks+1}->Ú (model X.prog X.w) X.A (f (.int i t) (.int j u)) Q E s):
  gW X f (LA λi j=>.int (g i j)):=by
 by_in;obtain⟨i,j,rfl,rfl,q⟩:=h;k_few;obtain⟨t',rfl⟩:=ry;exact d i j t t' s _ _ ⟨.int (g i j),H,I.tok _,⟨_,rfl⟩,q⟩
theorem LB{g:Int->Int->Bool}
  (d:∀(i j:Int)(t u:Tok)(s:Ê)(Q:Å->Ê->Prop)(E:Å->Ê->Prop),Q (.bool (g i j)) s->Ú (model X.prog X.w) X.A (f (.int i t) (.int j u)) Q E s):
  gW X f (LA λi j=>.bl (g i j)):=by
 by_in;obtain⟨i,j,rfl,rfl,q⟩:=h;k_few;obtain⟨t',rfl⟩:=ry;exact d i j t t' s _ _ ⟨.bl (g i j),H,I,rfl,q⟩
def Wj(i j:Int):Prop:=0<j/\j<1073741824
def Wl(i j:Int):Prop:=0<=j/\j<=1000000/\i.natAbs<2^64
def O5(i j:Int):Prop:=(-(2^64)<i/\i<2^64)\/(-(2^64)<j/\j<2^64)
theorem O5.ok{i j:Int}(h:O5 i j):IntMulOk i j:=by
 rcases h with⟨k,d⟩|⟨k,d⟩
 ·exact .of_left (intBits_le_64 k d)
 ·exact .of_right (intBits_le_64 k d)
theorem O6:gW X (binaryOp .Add) (LA λi j=>.int (i+j)):=S3 λ_ _ _ _ _ _ _ q=>add_int q
theorem O7:gW X (binaryOp .Sub) (LA λi j=>.int (i-j)):=S3 λ_ _ _ _ _ _ _ q=>sub_int q
theorem O8:gW X (binaryOp .Mult) (rI O5 λi j=>.int (i*j)):=S2 λ_ _ _ _ _ _ _ d q=>mul_int q d.ok
theorem LC:gW X (binaryOp .FloorDiv) (rI Wj λi j=>.int (i/j)):=S2 λi j _ _ _ _ _ d q=>by have l:(0:Int)<j:=d.1;have k:j<1073741824:=d.2;exact floordiv_int ∅ (by rw[Int.fdiv_eq_ediv_of_nonneg i ∅];exact q) (.inl (PyProof.noPylong_small ∅))
theorem O9:gW X (binaryOp .Mod) (rI (λ_ j=>0<j) λi j=>.int (i%j)):=S2 λi j _ _ _ _ _ d q=>by have k:(0:Int)<j:=d;exact mod_int' ∅ (by rw[Int.fmod_eq_emod_of_nonneg i ∅];exact q)
theorem Pa:gW X (binaryOp .Pow) (rI Wl λi j=>.int (i^j.toNat)):=S2 λ_ _ _ _ _ _ _ d q=>pow_int_small d.1 d.2.1 d.2.2 q
theorem Zr{f:Å->Sem Å}{g:Int->Int}
  (d:∀(i:Int)(t:Tok)(s:Ê)(Q:Å->Ê->Prop)(E:Å->Ê->Prop),Q (.int (g i) s.toks) {s with toks:=s.toks+1}->Ú (model X.prog X.w) X.A (f (.int i t)) Q E s):
  Wh X f (rU λi=>.int (g i)):=by
 intro pins s k H x v Q I rx h;obtain⟨i,rfl,q⟩:=h;k_few;exact d i t s _ _ ⟨.int (g i),H,I.tok _,⟨_,rfl⟩,q⟩
theorem Pb:Wh X (unaryOp .USub) (rU λi=>.int (-i)):=Zr λ_ _ _ _ _ q=>neg_int q
end
section
variable{a b:Expr}{ta tb tc:TE}
theorem sP{Q:VK}{k:Bool}(I:Inv X pins σ H s)(q:Q (.bl k) H)(e:k=k'):EP X pins σ Q (.bool k') s:=by kpc_g;exact⟨.bl k,H,I,rfl,q⟩
theorem S4:gW X (compareOp .Lt) (LA λi j=>.bl (decide (i<j))):=LB λ_ _ _ _ _ _ _ q=>lt_int q
theorem S5:gW X (compareOp .LtE) (LA λi j=>.bl (decide (i<=j))):=LB λ_ _ _ _ _ _ _ q=>le_int q
theorem S6:gW X (compareOp .Gt) (LA λi j=>.bl (decide (j<i))):=LB λ_ _ _ _ _ _ _ q=>gt_int q
theorem N3:gW X (compareOp .GtE) (LA λi j=>.bl (decide (j<=i))):=LB λ_ _ _ _ _ _ _ q=>ge_int q
theorem EC:gW X (compareOp .In) (λx y H Q=>∃i j,x=.str i/\y=.str j/\Q (.bl (!(aav j i 0 j.length 1).isEmpty)) H):=by by_in;obtain⟨i,j,rfl,rfl,q⟩:=h;k_few;obtain⟨t',rfl⟩:=ry;exact in_str (sP I q rfl)
theorem Pc:gW X (compareOp .Is) (λx y H Q=>y=.bD/\Q (.bl (decide (x=.bD))) H):=by
 by_in;obtain⟨rfl,q⟩:=h;cases ry;refine is_none_gen (sP I q ?_)
 cases x<;>first
  |(cases rx;rfl)
  |(obtain⟨t,rfl⟩:=rx;rfl)
theorem LD:gW X (compareOp .IsNot) (λx y H Q=>y=.bD/\Q (.bl (!decide (x=.bD))) H):=by
 by_in;obtain⟨rfl,q⟩:=h;cases ry;refine isnot_none_gen (sP I q ?_)
 cases x<;>first
  |(cases rx;rfl)
  |(obtain⟨t,rfl⟩:=rx;rfl)
theorem xG:gW X (compareOp .NotIn) (λx y H Q=>∃i j,x=.str i/\y=.str j/\Q (.bl (!(!(aav j i 0 j.length 1).isEmpty))) H):=by by_in;obtain⟨i,j,rfl,rfl,q⟩:=h;k_few;obtain⟨t',rfl⟩:=ry;exact notIn_str (sP I q rfl)
theorem Hg(b:Expr){d:CmpOp}(h:d≠.In:=by decide)(k:d≠.NotIn:=by decide):behindInMarks d b=Ä:=by
 have l:(d==CmpOp.In)=Ä:=by cases d<;>first|rfl|exact absurd rfl h
 have m:(d==CmpOp.NotIn)=Ä:=by cases d<;>first|rfl|exact absurd rfl k
 cases b<;>simp[behindInMarks,l,m]
theorem LF(F:gW X (compareOp op) r)(t:PE X a ta)(l:PE X b tb)(k:behindInMarks op b=Ä):PE X (.Compare a [op] [b] pos) (SY r ta tb):=by kd_p;exact wpAny_Compare1 (O4 t l I h λv u d x y m B D z q=>F pins d σ m x y v u Q B D z q) k
def N4(t:TE):TT:=λd H Q=>t d H λx H'=>∃k,x=.bl k/\Q k H'
theorem LG(S:gW X (compareOp op) r)(J:PE X a ta)(V:PE X b tb)(T:behindInMarks op b=Ä):PT X (.Compare a [op] [b] pos) (N4 (SY r ta tb)):=by
 kd_p;refine wpAny_isTrue_Compare1 (dO (J pins s σ H _ I h) λv t ⟨x,U,m,O,B⟩=>dO (V pins t σ U _ m B) λu d ⟨y,G,M,l,F⟩=>
  dO (S pins d σ G x y v u _ M O l F) λc Y ⟨z,L,D,W,k,e,q⟩=>?_) T
 kpc_g;cases W;exact ń ⟨L,D,q⟩
def Pd(r q:R2)(B I F:TE):TE:=λd H Q=>B d H λx G=>I d G λy t=>r x y t λz l=>∃k,z=.bl k /\
 (if k=Ã then F d l λm D=>q y m D Q else Q (.bl Ä) l)
theorem Hh{q:R2}(ho:gW X (compareOp op) r)(l:gW X (compareOp op') q)(ha:PE X a ta)(hb:PE X b tb)(U:PE X c tc)
  (S:lastMarks [op,op'] [b,c]=Ä:=by with_unfolding_all rfl):PT X (.Compare a [op,op'] [b,c] pos) (N4 (Pd r q ta tb tc)):=by
 kd_p;refine isTrue_chain (dO (ha pins s σ H _ I h) λv Z ⟨x,T,Y,r1,G⟩=>test_link (dO (hb pins Z σ T _ Y G) λu D ⟨y,H2,O,m,J⟩=>
  dO (ho pins D σ H2 x y v u _ O r1 m J) λd F ⟨z,H3,I3,r3,k,e,t⟩=>?_)) S
 kpc_g;cases r3;refine ń ?_;cases k with
 |false=>obtain⟨k',e',q'⟩:=t;cases e';exact ite_ff ⟨H3,I3,q'⟩
 |true=>refine ite_tt (test_last (dO (U pins F σ H3 _ I3 t) λB s4 ⟨W,H4,L,r4,M⟩=>dO (l pins s4 σ H4 y W u B _ L m r4 M) λd' s5 V=>?_));obtain⟨z2,H5,I5,r5,k2,e2,q5⟩:=V;subst e2;cases r5;exact ń ⟨H5,I5,q5⟩
def Pe(K:Ì)(x:V)(H:Hp)(k:Bool):Prop:=
 match x with
 |.bD=>k=Ä
 |.bl b=>k=b
 |.int i=>k=(i != 0)
 |.str y=>y.length<=Ç/\k=((y.length:Int) != 0)
 |.Sy y=>y.size<=Ç/\k=((y.size:Int) != 0)
 |.ref p=>(∃xs,ko K H p xs/\k=!xs.isEmpty)\/(∃xs,m8 K H p xs/\k=!xs.isEmpty)\/∃kvs,H p=À (.dK kvs)/\k=!kvs.isEmpty
 |_=>False
theorem BF{d:Type}{kvs:List (d×V)}{vs:List (d×Å)}(r:KV kvs vs):(!vs.isEmpty)=!kvs.isEmpty:=by cases r<;>rfl
theorem sQ(r:Vals xs its):(!its.toArray.isEmpty)=!xs.isEmpty:=by cases r<;>simp
theorem nH:(Ç:Nat)<2^63:=by rw[sizeLine_eq];decide
theorem Pf:Wi X (λx H Q=>∃k,Pe X.K x H k/\Q k H):=by
 intro pins s G H x v Q I rx h;obtain⟨k,e,q⟩:=h;have F:=nH;have J:Ç=16777216:=sizeLine_eq;cases x with
 |bD=>cases rx;have d:k=Ä:=e;subst d;exact truthy_none ⟨H,I,q⟩
 |bl b=>cases rx;have d:k=b:=e;subst d;exact ń ⟨H,I,q⟩
 |int i=>k_few;have d:k=(i != 0):=e;subst d;exact PySem.P.truthy_int ⟨H,I,q⟩
 |str y=>k_few;obtain⟨B,d⟩:y.length<=Ç/\k=((y.length:Int) != 0):=e;subst d;exact PySem.P.truthy_str ∅ ⟨H,I.tok _,q⟩
 |Sy y=>k_few;obtain⟨B,d⟩:y.size<=Ç/\k=((y.size:Int) != 0):=e;subst d;exact PySem.W.truthy_bytes ∅ ⟨H,I.tok _,q⟩
 |ref p=>
  cases rx;have d:(∃xs,ko X.K H p xs/\k=!xs.isEmpty)\/(∃xs,m8 X.K H p xs/\k=!xs.isEmpty)\/∃kvs,H p=À (.dK kvs)/\k=!kvs.isEmpty:=e;rcases d with⟨xs,z,d⟩|⟨xs,z,d⟩|⟨kvs,z,d⟩
  ·subst d;obtain⟨its,r,pl,hz⟩:=I.list z;have l:=r.length;exact wpAny_truthy_list pl.isList (by simp only[Ü];lia) ⟨H,I.tok _,by rw[sQ r];exact q⟩
  ·subst d;obtain⟨its,r,pl,hz⟩:=I.tuple z;have l:=r.length;exact truthy_tuple pl (by simp only[Ü];lia) ⟨H,I.tok _,by rw[sQ r];exact q⟩
  ·subst d;obtain⟨hz,D,vs,r,m⟩:kvs.length<=Ç/\(p==sysModules)=Ä/\∃vs,KV kvs vs/\s.heap.DictOf (cC X.prog X.w) p vs:=I.hok p _ z;have l:kvs.length=vs.length:=aag r;exact wpAny_truthy_dict D m ∅ ⟨H,I.tok _,by rw[BF r];exact q⟩
 |_=>exact(show False from e).elim
theorem Hi(t:PE X a ta)(D:∀d,isTrue a X.env d=(do let v <- d;standAt a.pos;holding [v] (truthy v))):
  PT X a (λσ H Q=>ta σ H λx H'=>∃k,Pe X.K x H' k/\Q k H'):=by
 kd_p;exact isTrue_plain (dO (t pins s σ H _ I h) λv m F=>by obtain⟨x,B,l,z,q⟩:=F;exact Pf pins m σ B x v Q l z q) (D _)
theorem BG:gW X (binaryOp .Add) (λx y H Q=>∃i j,x=.str i/\y=.str j/\i.length+j.length<=Ç/\Q (.str (i++j)) H):=by by_in;obtain⟨i,j,rfl,rfl,hz,q⟩:=h;k_few;obtain⟨t',rfl⟩:=ry;exact iR I.os.2 (add_str (λt' k d=>⟨.str (i++j),H,I.tok _,⟨_,rfl⟩,q⟩) hz)
theorem vals1{x:V}(r:Vals [x] us):∃u,us=[u]/\RelV x u:=by
 cases r with
 |cons r1 r2=>cases r2;exact⟨_,rfl,r1⟩
theorem vals2{x:V}(r:Vals [x,y] us):∃u d,us=[u,d]/\RelV x u/\RelV y d:=by
 cases r with
 |cons r1 r2=>
  cases r2 with
  |cons r3 r4=>cases r4;exact⟨_,_,rfl,r1,r3⟩
theorem ED(l:X.calm=Ã):eE X (.builtin "max") (λxs H Q=>∃i j,xs=[.int i,.int j]/\Q (.int (if j > i then j else i)) H):=by
 intro pins s D H xs z Q I r h;obtain⟨i,j,rfl,q⟩:=h;obtain⟨u,m,rfl,⟨t,rfl⟩,⟨t',rfl⟩⟩:=vals2 r;refine iR I.os.2 <|max_two_ints (I.ok.hd l) λh' F k B=>⟨_,H,I.kept k,?_,q⟩;by_cases d:j > i
 ·rw[Α d,Α d];exact⟨_,rfl⟩
 ·rw[Β d,Β d];exact⟨_,rfl⟩
theorem EF(l:X.calm=Ã):eE X (.builtin "min") (λxs H Q=>∃i j,xs=[.int i,.int j]/\Q (.int (if j<i then j else i)) H):=by
 intro pins s D H xs z Q I r h;obtain⟨i,j,rfl,q⟩:=h;obtain⟨u,m,rfl,⟨t,rfl⟩,⟨t',rfl⟩⟩:=vals2 r;refine iR I.os.2 <|min_two_ints (I.ok.hd l) λh' F k B=>⟨_,H,I.kept k,?_,q⟩;by_cases d:j<i
 ·rw[Α d,Α d];exact⟨_,rfl⟩
 ·rw[Β d,Β d];exact⟨_,rfl⟩
end
theorem rR.some_of{o:Option Å}(r:rR (À v) o):∃u,o=À u/\RelV v u:=by
 cases o with
 |none=>exact(show False from r).elim
 |some u=>exact⟨u,rfl,r⟩
section
variable{C dx:Addr}{fs:List (Str×V)}{f:Str}
theorem Inv.made(I:Inv X pins σ H s):Inv X pins σ (upd (upd H s.heap.objs.size (.own (s.heap.objs.size+1))) (s.heap.objs.size+1) (.ins C s.heap.objs.size []))
  {s with heap:=(s.heap.push ķ).push (aan C s.heap.objs.size)}:=by
 have k:(s.heap.push ķ).get? s.heap.objs.size=À ķ:=Ð s.heap rfl;have l:((s.heap.push ķ).push (aan C s.heap.objs.size)).get? (s.heap.objs.size+1)=À (aan C s.heap.objs.size):=by
  have:=Ð (s.heap.push ķ) (o:=aan C s.heap.objs.size) rfl
  rwa [ā]at this
 have t:(s.heap.push ķ).Ns s.heap.objs.size (λ_=>Æ):=⟨ķ,#[],_,k,rfl,(λe B=>absurd B ⋯),λ_=>rfl⟩;have m:=I.laid (a:=s.heap.objs.size) (o:=.own (s.heap.objs.size+1)) (h':=s.heap.push ķ) (t':=s.toks) (λb u q=>É _ q) (Ë _) ⟨_,k⟩;refine m.laid (a:=s.heap.objs.size+1) (o:=.ins C s.heap.objs.size []) (t':=s.toks) (λb u q=>É _ q) (Nat.le_of_eq (ā _ _)) ?_;have d:s.heap.objs.size≠s.heap.objs.size+1:=á (Ĳ _);refine⟨by rw[aI d,bz],ê _,d,l,λ_=>Æ,(Heap.Ns1.of_empty t).at λo q=>É _ q,λ_=>ů,λy z=>absurd rfl z⟩
end
structure gE(k:Nat)(A:Around):Prop where
 hd:A.handled=Æ
 dp:A.depth+3*k+5<recursionLimit
 un:A.units+16*k+600<cLine
theorem gE.mono{k:Nat}(r:gE k A)(h:j<=k):gE j A:=⟨r.hd,by have:=r.dp;lia,by have:=r.un;lia⟩
theorem gE.deeper{k:Nat}(r:gE (k+1) A)(env:Env):gE k (A.deeper env):=
 ⟨r.hd,by have:=r.dp;show A.depth+1+3*k+5<_;lia,by have:=r.un;show A.units+3+16*k+600<_;lia⟩
theorem gE.depth{k:Nat}(r:gE k A):A.depth<recursionLimit:=by have:=r.dp;lia
def S7:TA:=λ_ H Q=>Q [] H
def Hj(m:TE)(t:TA):TA:=λd H Q=>m d H λx k=>t d k λxs l=>Q (x::xs) l
section
variable{t:TA}
theorem BH:PA X [] S7:=λ_ _ _ _ H Q I h=>abX ⟨[],H,I,.nil,h⟩
theorem rY(F:PE X e te)(G:PA X es t)(M:æ (e::es) X.env=(Ä,eval e X.env)::æ es X.env):PA X (e::es) (Hj te t):=by intro pos pins s d H Q I h;rw[M];show Ú _ _ (spliced ((Ä,eval e X.env)::backTo pos (æ es X.env))) _ _ s;refine aar (dO (F pins s d H _ I h) λu m z=>?_);obtain⟨x,O,l,L,q⟩:=z;exact dO (G pos pins m d O _ l q) λT S z=>by obtain⟨xs,B,J,k,D⟩:=z;exact⟨x::xs,B,J,.cons L k,D⟩
def Wm(t:TA):TE:=λk H Q=>t k H λxs d=>xs.length<=Ç/\∀p,d p=Æ->Q (.ref p) (upd d p (.tup xs))
def Wn(t:TA):TE:=λk H Q=>t k H λxs d=>xs.length<=Ç/\∀p,d p=Æ->Q (.ref p) (upd d p (.lst xs))
theorem Pg {x1} (h:PA X es t):PE X (.Tuple es x1 pos) (Wm t):=by intro pins s D H Q I F;refine wpAny_Tuple_spliced (dO (h pos pins s D H _ I F) λB d ⟨xs,l,k,r,z,q⟩=>⟨by rw[<- r.length];exact z,?_⟩);have m:l d.heap.objs.size=Æ:=k.hok.fresh (Ë _);refine⟨.ref d.heap.objs.size,upd l d.heap.objs.size (.tup xs),k.laid (t':=d.toks) (λb u e=>É _ e) (Ë _) ?_,rfl,q _ m⟩;exact⟨z,B,r,⟨_,Ð _ rfl,rfl,_,rfl⟩⟩
theorem Ph(h:PA X es t):PE X (.List es pos) (Wn t):=by intro pins s D H Q I F;refine wpAny_List_spliced (dO (h pos pins s D H _ I F) λB d ⟨xs,l,k,r,z,q⟩=>⟨by rw[<- r.length];exact z,?_⟩);have m:l d.heap.objs.size=Æ:=k.hok.fresh (Ë _);refine⟨.ref d.heap.objs.size,upd l d.heap.objs.size (.lst xs),k.laid (t':=d.toks) (λb u e=>É _ e) (Ë _) ?_,rfl,q _ m⟩;exact⟨z,B,0,r,Ð _ rfl⟩
end
abbrev Sp:=X1->Hp->VK->XK->Prop
variable{xH sp:Sp}
abbrev vc:=List Env->Hp->Ê->XK->Å->Ê->Prop
variable{CX:vc}
structure Hl(P:ð)(w:Ć)(K:Ì)(mg:Str->Option Å)(base:Heap)(A:Around)(outer:List Env)(s:Ê)(H:Hp):Prop where
 frames:A.frames=À outer
 mod:Mod K mg base
 bs:∀b o,base.get? b=À o->s.heap.get? b=À o/\H b=Æ
 NY:base.objs.size<=s.heap.objs.size
 qp:s.heap.FunFrames base outer
 NZ:∀b∈frs outer,H b=Æ
 hok:lF P w H s.heap
 bare:AllBare s.gens
def CE(d:List Env)(P:ð)(w:Ć)(H:Hp)(s:Ê)(Q:VK)(u:Å)(k:Ê):Prop:=
 ∃v H',(k.os=s.os/\0<k.toks)/\AllBare k.gens/\Un (frs d) [] H H' s.heap k.heap/\lF P w H' k.heap/\RelV v u/\Q v H'
def CR(CX:vc)(d:List Env)(P:ð)(w:Ć)(H:Hp)(s:Ê)(Q:VK)(E:XK)(r:Result)(k:Ê):Prop:=
 match r with
 |.ok (.ret u)=>CE d P w H s Q u k
 |.ok _=>False
 |.error e=>CX d H s E e k
structure lH(P:ð)(w:Ć)(K:Ì)(mg:Str->Option Å)(base:Heap)(CX:vc)(k:Nat)(f:Addr)(fd:FuncData)(ps:P3)(sp:Sp):Prop where
 len:∀vs H Q E,sp vs H Q E->vs.length=ps.length
 run:∀(A:Around)(outer:List Env)(s:Ê)(H:Hp)(args:Args)(us:List Å)(vs:X1)(Q:VK)(E:XK),gE k A->Hl P w K mg base A outer s H->0<s.toks->BindsTo s fd args (ps.zip us)->Vals vs us->sp vs H Q E ->
  codeAny (model P w) A (.call (.ref f) args) (CR CX outer P w H s Q E) s
structure nk(P:ð)(w:Ć)(K:Ì)(mg:Str->Option Å)(base:Heap)(CX:vc)(k:Nat)(f:Addr)(fd:FuncData)(ps:P3)(sp:Sp):Prop where
 len:∀vs H Q E,sp vs H Q E->vs.length=ps.length
 run:∀(A:Around)(outer:List Env)(s:Ê)(H:Hp)(args:Args)(us:List Å)(vs:X1)(Q:VK)(E:XK),gE k A->Hl P w K mg base A outer s H->BindsTo s fd args (ps.zip us)->Vals vs us->sp vs H Q E ->
  codeAny (model P w) A (.call (.ref f) args) (CR CX outer P w H s Q E) s
theorem nk.imp{k:Nat}{f:Addr}(F:nk P w K mg base CX k f fd ps sp)
  (h:∀vs H Q E,xH vs H Q E->sp vs H Q E):nk P w K mg base CX k f fd ps xH:=
 ⟨λvs H Q E q=>F.len vs H Q E (h _ _ _ _ q),λA d s H l B vs Q E m G D t z=>F.run A d s H l B vs Q E m G D t (h _ _ _ _ z)⟩
theorem lH.imp{k:Nat}{f:Addr}(F:lH P w K mg base CX k f fd ps sp)
  (h:∀vs H Q E,xH vs H Q E->sp vs H Q E):lH P w K mg base CX k f fd ps xH:=
 ⟨λvs H Q E q=>F.len vs H Q E (h _ _ _ _ q),λA d s H l z vs Q E m I D G t B=>F.run A d s H l z vs Q E m I D G t (h _ _ _ _ B)⟩
section
theorem Inv.gF(I:Inv X pins σ H s):Hl X.prog X.w X.K X.mg X.base X.A X.stack s H:=
 ⟨I.ok.frames,I.ok.mod,I.bs,ü I.ok.NY I.sz,I.stack,I.oF,I.hok,I.bare⟩
theorem Inv.after{Q:VK}(I:Inv X pins σ H s)(h:CE X.stack X.prog X.w H s Q u s'):EP X pins σ Q u s':=by obtain⟨v,H',B,k,D,l,r,q⟩:=h;obtain⟨F,g,d,t,m⟩:=s';have G:0<t:=B.2;obtain rfl:m=s.os:=B.1;exact⟨v,H',I.call (h':=F) (g':=g) (d':=d) (t':=t) (ch:=[]) D l k (λb z=>absurd z ⋯),r,q⟩
end
def Binds(K:Ì)(l:FuncData)(k:P3)(ds:List Å):Prop:=
 ∀(s:Ê)(d:List Å),K.In s.heap->(d++ds).length=k.length->BindsTo s l ⟨d,[]⟩ (k.zip (d++ds))
theorem Binds.all(h:∀d:List Å,d.length=ps.length->bindArgs fd ⟨d,[]⟩=pure (ps.zip d)):Binds K fd ps []:=λs d _ k=>by rw[ö]at k |-;exact .of_eq (h d k)
structure gX(N P:P3)(sc:Scope):Prop where
 kind:sc.kind=.function
 co:sc.isCoroutine=Ä
 gen:sc.isGenerator=Ä
 nd:N.Nodup
 pre:N.take P.length=P
 par:∀x∈P,sc.names.lookup x=À .local\/sc.names.lookup x=À .cell
 Pj:∀y∈sc.names,y.2≠.free
theorem vQ{k:Str->Option NameKind}{x:Str}:∀{d:List (Str×Å)}{m:Str->Option Å},(∀v,(x,v)∉d)->bindL k d m x=m x
 |[],_,_=>rfl
 |(n,v)::r,m,h=>by
  unfold bindL;rw[vQ λw l=>h w (å _ l)];split
  ·have:x≠n:=by rintro rfl;exact h v ć
   simp[this]
  ·rfl
theorem vR{k:Str->Option NameKind}{x:Str}:∀{d:List (Str×Å)}{m:Str->Option Å},(∀v,(x,v)∉d)->bindC k d m x=m x
 |[],_,_=>rfl
 |(n,v)::r,m,h=>by
  unfold bindC;rw[vR λw l=>h w (å _ l)];split
  ·rfl
  ·have:x≠n:=by rintro rfl;exact h v ć
   simp[this]
theorem vS{k:Str->Option NameKind}{x:Str}{v:Å}:∀{P:P3}{vs:List Å}{i:Nat}{m:Str->Option Å},P.Nodup->P[i]?=À x->vs[i]?=À v->k x=À .local ->
  bindL k (P.zip vs) m x=À v
 |[],_,_,_,_,h,_,_=>by simp at h
 |_::_,[],_,_,_,_,h,_=>by simp at h
 |p::P,w::vs,0,m,t,l,d,q=>by simp at l d;subst l;subst d;show bindL k ((p,w)::P.zip vs) m p=_;unfold bindL;rw[vQ λv z=>(ę.mp t).1 (acz z).1,Α q];simp
 |p::P,w::vs,i+1,m,t,l,d,q=>by show bindL k ((p,w)::P.zip vs) m x=_;unfold bindL;exact vS (i:=i) (ę.mp t).2 ‹l› ‹d› q
theorem vU{k:Str->Option NameKind}{x:Str}{v:Å}:∀{P:P3}{vs:List Å}{i:Nat}{m:Str->Option Å},P.Nodup->P[i]?=À x->vs[i]?=À v->k x≠À .local ->
  bindC k (P.zip vs) m x=À v
 |[],_,_,_,_,h,_,_=>by simp at h
 |_::_,[],_,_,_,_,h,_=>by simp at h
 |p::P,w::vs,0,m,t,l,d,q=>by simp at l d;subst l;subst d;show bindC k ((p,w)::P.zip vs) m p=_;unfold bindC;rw[vR λv z=>(ę.mp t).1 (acz z).1,Β q];simp
 |p::P,w::vs,i+1,m,t,l,d,q=>by show bindC k ((p,w)::P.zip vs) m x=_;unfold bindC;exact vU (i:=i) (ę.mp t).2 ‹l› ‹d› q
noncomputable def start(N:P3)(vs:X1):St:=vs.map À++Ö (N.length-vs.length) Æ
noncomputable def rS(CX:vc)(P:ð)(w:Ć)(K:Ì)(mg:Str->Option Å)(base:Heap)(N:P3)(qual:Str)(scope:Scope)(f:Addr)(cd:Å)(A:Around)(outer:List Env)(s:Ê)(H:Hp)(E:XK):Cx where
 prog:=P
 w:=w
 K:=K
 mg:=mg
 base:=base
 A:=A.deeper (envOfC qual scope s.heap.objs.size f cd)
 N:=N
 s₀:=s
 H₀:=H
 env:=envOfC qual scope s.heap.objs.size f cd
 outer:=outer
 stack:=envOfC qual scope s.heap.objs.size f cd::outer
 ex:=[]
 calm:=Ã
 fn:=λ_=>Ã
 pn:=[]
 xe:=λe s'=>Ú (model P w) (A.deeper (envOfC qual scope s.heap.objs.size f cd)) (leaving (envOfC qual scope s.heap.objs.size f cd) e) (λ_ s''=>CX outer H s E e s'') (λe' s''=>CX outer H s E e' s'') s'
theorem zd(h:sc.names.lookup x=À .cell):∃c,(cellsFrom n sc.names []).lookup x=À c:=by have q:=aco sc.names n [] (.inl h);exact Option.isSome_iff_exists.mp q
theorem vV{CX:vc}{P:ð}{w:Ć}{K:Ì}{mg:Str->Option Å}{base:Heap}{N ps:P3}{qual:Str}{scope:Scope}{f:Addr}{cd:Å}{A:Around}{outer:List Env}{s s1:Ê}{H:Hp}{E:XK}{us:List Å}{vs:X1}
  (S:gX N ps scope) (hd:A.handled=Æ) (e0:Hl P w K mg base A outer s H) (hl:vs.length=ps.length) (r:Vals vs us)
  (x:InCallC s s.heap.objs.size (bindL (envOfC qual scope s.heap.objs.size f cd).kindOf (ps.zip us) λ_=>Æ) (cellsFrom (s.heap.objs.size+1) scope.names []) (bindC (envOfC qual scope s.heap.objs.size f cd).kindOf (ps.zip us) λ_=>Æ) s1) {n:Nat} (ht:0<n):
  Inv (rS CX P w K mg base N qual scope f cd A outer s H E) [] (start N vs) H {s1 with toks:=n}:=by
 have hpl:ps.length<=N.length:=by have:=congrArg aa3 S.pre;rw[ſ]at this;lia
 obtain⟨h1,tk,rfl,hk⟩:=x.done;have S8:∀b:Addr,b∉(rS CX P w K mg base N qual scope f cd A outer s H E).ex:=λb z=>absurd (show b∈([]:Q1) from z) ⋯
 refine⟨⟨e0.mod,S.kind,rfl,rfl,Ë _,λy z c h1 h2=>?_,λy hy=>?_,λy c _ h=>?_,λ_=>hd,Around.frames_deeper e0.frames,.inr ⟨rfl,rfl⟩,λb z=>absurd z (S8 b),e0.bs,e0.NY,λb _ _=>S8 b,λb z=>absurd z (S8 b),e0.qp,e0.NZ⟩,
  ⟨rfl,ht⟩,e0.bare,Un.kept hk,⟨_,x.toInCall.ns,λi y v h1 h2 h3=>?_⟩,λy c h=>⟨_,x.cell y c h⟩,e0.hok.fresh (Ë _),λy c h=>?_,λp hp=>absurd (show p∈([]:N0) from hp) ⋯,e0.hok.kept hk,?_⟩
 ·exact name_of_addr x.apart (ť h1) (ť h2)
 ·have hy:scope.names.lookup y=À .cell\/scope.names.lookup y=À .free:=hy;rcases hy with hy|hy
  ·exact zd hy
  ·exact absurd rfl (S.Pj _ (ť hy))
 ·exact ads (x.above y c (ť h))
 ·have hi:i<vs.length:=by
   unfold start at h2;by_cases hi:i<vs.length
   ·exact hi
   ·rw[Ò ‹hi›]at h2;rw[Ũ]at h2;split at h2<;>cases h2
  have ha:vs[i]?=À v:=by
   unfold start at h2;rw[Î ‹hi›,Þ]at h2;cases e:vs[i]? with
   |none=>rw[e]at h2;cases h2
   |some a=>rw[e]at h2;cases h2;rfl
  obtain⟨u,hu,rv⟩:=r.get ha;have hp:ps[i]?=À y:=by rw[<- S.pre,List.getElem?_take_of_lt ∅];exact h1
  have Yo:ps.Nodup:=by rw[<- S.pre];exact S.nd.sublist (List.take_sublist _ _)
  refine⟨u,rv,?_⟩;rcases S.par y (ç hp)with k|k
  ·exact .inl ⟨k,vS Yo hp hu k⟩
  ·obtain⟨c,e⟩:=zd (n:=s.heap.objs.size+1) k;refine .inr ⟨.inl k,c,e,?_⟩;have q:=x.cell y c e;rw[vU Yo hp hu (by show scope.names.lookup y≠_;rw[k];decide)]at q;exact q
 ·exact .inl (e0.hok.fresh (ads (x.above y c (ť h))))
 ·unfold start;show _=N.length;rw[Ý,Û,List.length_replicate];lia
theorem N5{CX:vc}{P:ð}{w:Ć}{K:Ì}{mg:Str->Option Å}{base:Heap}{k:Nat}{f:Addr}{name qual:Str}{params:Arguments}{body:List Stmt}{scope:Scope}{dV kV doc pm cdv ct oc:Å}{an od:Option Addr}
  {osl:Array (Option Å)} {N ps:P3} {sp:Sp} (lk:K.lookup f=À ⟨oc,od,.func (Ą name qual params body scope dV kV doc pm an cdv ct),osl⟩) (hcd:Ŕ K cdv qual=Ã) (S:gX N ps scope)
  (len:∀vs H Q E,sp vs H Q E->vs.length=ps.length)
  (hbody:∀(A:Around)(outer:List Env)(s:Ê)(H:Hp)(vs:X1)(Q:VK)(E:XK),gE k (A.deeper (envOfC qual scope s.heap.objs.size f cdv))->sp vs H Q E ->
   ∃t,BA (rS CX P w K mg base N qual scope f cdv A outer s H E) body t/\t {nx:=λ_ H'=>Q .bD H',rt:=Q} (start N vs) H):
  lH P w K mg base CX (k+1) f (Ą name qual params body scope dV kV doc pm an cdv ct) ps sp:=by
 refine⟨len,λA outer s H args us vs Q E hr e0 htk hb r BI=>?_⟩;have hl:=len _ _ _ _ BI;have KX:K.In s.heap:=e0.mod.OO.keeps λb o e=>(e0.bs b o e).1;have lim:s.heap.NoLimit:=e0.mod.nolimit.keeps λb o e=>(e0.bs b o e).1;have hkind:∀y∈ps.zip us,scope.names.lookup y.1=À .local\/(scope.names.lookup y.1=À .cell/\((cellsFrom (s.heap.objs.size+1) scope.names []).lookup y.1).isSome=Ã):=λzz hy=>by
  obtain⟨n,v⟩:=zz;rcases S.par n (acz hy).1 with q|q
  ·exact .inl q
  ·exact .inr ⟨q,aco _ _ _ (.inl q)⟩
 refine codeAny_call_function hr.depth (KX _ _ lk) rfl S.co S.gen rfl (adg KX hcd) (hb _ _ _ _ ?_);refine iR htk (abE S.kind hkind λenv he s1 x=>λWo=>?_);subst he;refine⟨lim.keeps x.toInCall.keep,codeAny_func ?_⟩;obtain⟨t,ht,hq⟩:=hbody A outer s H vs Q E (hr.deeper _) BI;have I:Inv (rS CX P w K mg base N qual scope f cdv A outer s H E) [] (start N vs) H s1:=vV S hr.hd e0 hl r x (n:=s1.toks) Wo;refine Ă (ht [] s1 (start N vs) H _ I hq) (λfl s' hs=>?_) λe s' hs=>hs
 have fin:∀{σ':St}{H':Hp}{v:V}{u:Å},Inv (rS CX P w K mg base N qual scope f cdv A outer s H E) [] σ' H' s'->RelV v u->Q v H'->CE outer P w H s Q u s':=
  λ{σ' H' v u} J rv q=>⟨v,H',J.os,J.bare,J.base,J.hok,rv,q⟩
 cases fl with
 |ret u=>obtain⟨v,σ',H',J,rv,q⟩:=hs;exact fin J rv q
 |next=>obtain⟨σ',H',J,q⟩:=hs;exact fin (v:=V.bD) (u:=Value.none) J rfl q
 |brk=>obtain⟨_,_,_,q⟩:=hs;exact Ģ q
 |cont=>obtain⟨_,_,_,q⟩:=hs;exact Ģ q
section
variable{p:Pos}{t:TA}{id T:String}{r:X1->Hp->VK->Prop}
def Yp(r:X1->Hp->VK->Prop)(t:TA):TE:=λd H Q=>t d H λvs k=>r vs k Q
theorem ze(O:eE X (.builtin id) r)(S:Gl X x)(G:X.mg x=Æ)(D:bootBuiltins x=À (.builtin id))(z:PA X (e::es) t)(L:x≠"__name__":=by decide)(k:(x==("__debug__":Str))=Ä:=by decide)
  (M:æ (e::es) X.env=(Ä,eval e X.env)::æ es X.env:=by rfl) (d:(backTo pos (æ es X.env)).any (·.1)=Ä:=by rfl):PE X (.Call (.Name x p) (e::es) [] pos) (Yp r t):=by
 kd_p;refine Ĉ (iS I S G D ?_ L k);exact aaU (dO (z pos pins s σ H _ I h) λF m U=>by obtain⟨vs,J,l,B,q⟩:=U;exact O pins m σ J vs F Q l B q) M d
theorem vW(O:eE X (.type T) r)(S:Gl X x)(G:X.mg x=Æ)(D:bootBuiltins x=À (.type T))(z:PA X (e::es) t)(L:x≠"__name__":=by decide)(k:(x==("__debug__":Str))=Ä:=by decide)
  (M:æ (e::es) X.env=(Ä,eval e X.env)::æ es X.env:=by rfl) (d:(backTo pos (æ es X.env)).any (·.1)=Ä:=by rfl):PE X (.Call (.Name x p) (e::es) [] pos) (Yp r t):=by
 kd_p;refine Ĉ (iS I S G D ?_ L k);exact ă (dO (z pos pins s σ H _ I h) λF m U=>by obtain⟨vs,J,l,B,q⟩:=U;exact O pins m σ J vs F Q l B q) M d
end
end
end L2
namespace HT
noncomputable section
open PySem PyProof.Rows
section
open PySem.SeqAt
open PySem.AutoSeq1 (wpAny_loadPart')
open PySem.MeetsSeq PySem.MeetsSeq2 PySem.MeetsSeq3
end
section
variable{prog:ð}{w:Ć}{A:Around}{E:Å->Ê->Prop}{s:Ê}
theorem LH{t b:Addr}{vs ws:List Å}{Q:Å->Ê->Prop}(u:IsTup s.heap t vs.toArray)(v:IsTup s.heap b ws.toArray)(o:vs≠[])
  (r:ws=[]->Q (.ref t) s) (q:ws≠[]->Q (.ref s.heap.objs.size) {s with heap:=s.heap.push {cls:=.type "tuple",data:=.seq (vs++ws).toArray}})
  (hsz:vs.length+ws.length<=Ç):Ú (model prog w) A (binaryOp .Add (.ref t) (.ref b)) Q E s:=by
 obtain⟨⟨cls,dd,data,p⟩,g,m,n,l⟩:=id u;obtain⟨⟨P,d,j,c⟩,h,a,k,f⟩:=id v;simp only at m l a f;subst m l a f;have e:vs.toArray++ws.toArray=(vs++ws).toArray:=by simp
 by_cases i:ws=[]
 ·exact concat_meets ⟨_,g,rfl⟩ ⟨_,h,rfl⟩ noFill_tuple_add seq_tuple_add aaG aaw (aah _ _)
   (tuple_addW1 t b vs.toArray ws.toArray n k dd d p c ‹o› (by simp[i])) ⟨g,h,r i⟩
 ·refine concat_meets ⟨_,g,rfl⟩ ⟨_,h,rfl⟩ noFill_tuple_add seq_tuple_add aaG aaw (aah _ _)
   (tuple_addW2 t b vs.toArray ws.toArray n k dd d p c ‹o› ‹i› (by rw[Ü,Ü];exact hsz)) ⟨g,h,?_⟩
  rw[e];exact q i
noncomputable def fO(n d:Nat):Option Int->Nat
 |none=>d
 |some v=>if v<0 then (v+(n:Int)).toNat else min v.toNat n
theorem iT(n d:Nat):fO n d Æ=d:=rfl
theorem iD(n d k:Nat):fO n d (À (k:Int))=min k n:=by show(if (k:Int)<0 then ((k:Int)+(n:Int)).toNat else min (k:Int).toNat n)=min k n;rw[Β ∅,ó]
theorem Pn(n d:Nat)(a:d<=n)(o:Option Int):fO n d o<=n:=by
 cases o with
 |none=>exact a
 |some v=>
  show(if v<0 then (v+(n:Int)).toNat else min v.toNat n)<=n;by_cases h:v<0
  ·rw[Α h];lia
  ·rw[Β h];exact Nat.min_le_right _ _
theorem Dc(v:Int)(n d:Nat):(if v<0 then max (v+(n:Int)) 0 else min v (n:Int))=((fO n d (À v):Nat):Int):=by
 show(if v<0 then max (v+(n:Int)) 0 else min v (n:Int))=(((if v<0 then (v+(n:Int)).toNat else min v.toNat n):Nat):Int);by_cases h:v<0
 ·simp only[Α h];lia
 ·simp only[Β h];lia
theorem BJ(lo hi:Option Int)(n:Nat):aad lo hi 1 (n:Int)=(((fO n 0 lo:Nat):Int),((fO n n hi:Nat):Int)):=by
 have h:¬ ((1:Int)<0):=∅
 unfold aad;simp only[h,if_false];refine Prod.ext ?_ ?_
 ·cases lo with
  |none=>rfl
  |some v=>exact Dc v n 0
 ·cases hi with
  |none=>rfl
  |some v=>exact Dc v n n
theorem BK(i j:Nat):Ř (i:Int) (j:Int) 1=j-i:=by
 unfold Ř;have h:(1:Int) > 0:=∅
 simp only[h,if_true,Int.ediv_one];split<;>lia
theorem sR{v:Å}{o:Option Int}{Q:Option Int->Ê->Prop}(p:IsPart v o)(h:Q o s):Ú (model prog w) A (Builtin.Slice.slicePartIndex v) Q E s:=by
 cases p with
 |none=>exact slicePart_none h
 |int i t=>exact slicePart_int h
theorem qx{e:Addr}{v d:Å}{l b:Option Int}{n:Nat}{Q:Int×Int×Nat->Ê->Prop}(f:s.heap.IsSliceOf e v d .none)(pl:IsPart v l)(p:IsPart d b)
  (h:Q (((fO n 0 l:Nat):Int),1,fO n n b-fO n 0 l) s):Ú (model prog w) A (abF (.ref e) (pure (n:Int))) Q E s:=by
 obtain⟨o,c,g,a⟩:=id f;unfold abF Builtin.Slice.sliceFields;refine Á (Á (ú c a (x:=v) rfl (Á (ú c a (x:=d) rfl (Á (ú c a (x:=.none) rfl (È ?_)))))));refine Á (slicePart_none ?_);show Ú _ _ (if ((1:Int)==0)=Ã then _ else _) _ _ s;rw[Β (by decide)];refine Á (sR pl (Á (sR p (Á (È ?_)))));show Ú _ _ (match aad l b 1 (n:Int)with|(l,b)=>pure (l,(1:Int),Ř l b 1)) _ _ s;rw[BJ l b n];show Ú _ _ (pure (((fO n 0 l:Nat):Int),(1:Int),Ř ((fO n 0 l:Nat):Int) ((fO n n b:Nat):Int) 1)) _ _ s;rw[BK];exact È h
theorem Ho(xs:Array Å)(i k:Nat):((Ů k).filterMap λ(m:Nat)=>xs[((i:Int)+(m:Int)*1).toNat]?).toArray=((xs.toList.drop i).take k).toArray:=by
 have e:(λ(m:Nat)=>xs[((i:Int)+(m:Int)*1).toNat]?)=λm=>xs[i+m]?:=by
  funext m;have:((i:Int)+(m:Int)*1).toNat=i+m:=∅
  rw[this]
 rw[e];have:=pick_run xs i k;rw[List.filterMap_map]at this;have a:((λx=>xs[x]?)∘λx=>i+x)=λm=>xs[i+m]?:=rfl;rw[a]at this;rw[this]
theorem oJ{t e:Addr}{items:Array Å}{v f:Å}{lo hi:Option Int}{Q:Å->Ê->Prop}(a:IsTup s.heap t items)(g:s.heap.IsSliceOf e v f .none)(pl:IsPart v lo)(p:IsPart f hi)
  (j:¬ (fO items.size 0 lo=0/\fO items.size items.size hi=items.size))
  (h:Q (.ref s.heap.objs.size) {s with heap:=s.heap.push {cls:=.type "tuple",data:=.seq ((items.toList.drop (fO items.size 0 lo)).take (fO items.size items.size hi-fO items.size 0 lo)).toArray}})
  (hsz:items.size<=Ç):Ú (model prog w) A (getItem (.ref t) (.ref e)) Q E s:=by
 have D:sizeOk (.seq ((items.toList.drop (fO items.size 0 lo)).take (fO items.size items.size hi-fO items.size 0 lo)).toArray):=by show((items.toList.drop (fO items.size 0 lo)).take (fO items.size items.size hi-fO items.size 0 lo)).toArray.size<=Ç;rw[Ü,ſ,Œ,ĝ];lia
 have n:fO items.size items.size hi<=items.size:=Pn _ _ (Ë _) hi;obtain⟨o,d,c,i⟩:=id g;have Z:s.TypeIs (.ref e) "slice":=⟨o,d,c⟩;unfold getItem
 try with_reducible refine ė ?_
 first|refine Á (È ?_)|skip
 refine Á (wpAny_sequenceKey a.typeIs (by decide) ?_)
 refine Á (þ (name:=ĥ "__getitem__") a.typeIs Ť
  (ÿ Ť a.typeIs entry_tuple_getitem ?_ (args_tuple_getitem _ _)))
 show Ú _ _ (Builtin.Tuple.tupleItemsOf (.ref t) >>= _) _ _ s;refine Á (tupleItemsOf_ a ?_);refine Á (acp Z ?_);rw[Α (by decide)];refine Á (qx g pl p ?_);have b:¬ ((((fO items.size 0 lo:Nat):Int)==0&&(1:Int)==1&&(fO items.size items.size hi-fO items.size 0 lo)==items.size)=Ã):=by intro q;rw[č,č]at q;have k:((fO items.size 0 lo:Nat):Int)=0:=eq_of_beq q.1.1;have l:fO items.size items.size hi-fO items.size 0 lo=items.size:=eq_of_beq q.2;exact j ⟨∅,∅⟩
 show Ú _ _ (if (((fO items.size 0 lo:Nat):Int)==0&&(1:Int)==1&&(fO items.size items.size hi-fO items.size 0 lo)==items.size)=Ã then _ else _) _ _ s;rw[Β b,Ho]
 first
  |exact Á (m:=Š _) (ë (È ⟨_,rfl,È h⟩) D)
  |exact Á (m:=Š _) (ë (Á (È (È ⟨_,rfl,È h⟩))) D)
  |exact Á (Á (m:=Š _) (ë (È (È ⟨_,rfl,È h⟩)) D))
  |exact Á (Á (m:=Š _) (ë (È ⟨_,rfl,È h⟩) D))
end
end
end HT
namespace L2
noncomputable section
open PySem PySem.Spec PyProof.Rows
variable{pins:N0}{us its:List Å}{xs:X1}{r:V->Option Int->Option Int->Hp->VK->Prop}{s:Ê}{σ:St}{H:Hp}{α:Type}{p:Addr}{n j t':Nat}{i:Int}{x:V}{v:Å}
abbrev TO:=St->Hp->(Option Int->Hp->Prop)->Prop
def PO(X:Cx)(e:Option Expr)(t:TO):Prop:=
 ∀(pins:N0)(s:Ê)(a:St)(H:Hp)(Q:Option Int->Hp->Prop),Inv X pins a H s->t a H Q ->
  Ú (model X.prog X.w) X.A (evalPart e X.env) (λu b=>∃o H',Inv X pins a H' b/\IsPart u o/\Q o H') X.xe s
def LI:TO:=λ_ H Q=>Q Æ H
def S9(t:TE):TO:=λb H Q=>t b H λx a=>∃i,x=.int i/\Q (À i) a
section
variable{X:Cx}{e:Expr}{te:TE}{lo hi:Option Expr}{tl th:TO}{pos p2:Pos}
theorem LJ:PO X Æ LI:=by kd_p;rw[evalPart_none];exact È ⟨Æ,H,I,.none,h⟩
theorem LK(h:PE X e te):PO X (À e) (S9 te):=by intro pins s f H Q I g;rw[evalPart_some];refine dO (h pins s f H _ I g) λu k z=>?_;obtain⟨x,d,a,c,b⟩:=z;obtain⟨i,rfl,q⟩:=b;obtain⟨t,rfl⟩:=c;exact⟨À i,d,a,.int i t,q⟩
def Vr(X:Cx)(r:V->Option Int->Option Int->Hp->VK->Prop):Prop:=
 ∀(pins:N0)(s:Ê)(c:St)(H:Hp)(x:V)(v a b:Å)(l h:Option Int)(d:Addr)(Q:VK),Inv X pins c H s->RelV x v->s.heap.IsSliceOf d a b .none->IsPart a l->IsPart b h->r x l h H Q ->
  ∃T id,typeLookup (.type T) "__getitem__"=pure (À (.builtin id))/\s.TypeIs v T/\Ú (model X.prog X.w) X.A (getItem v (.ref d)) (EP X pins c Q) X.xe s
def Zt(r:V->Option Int->Option Int->Hp->VK->Prop)(te:TE)(f t:TO):TE:=λa H Q=>te a H λx b=>f a b λl c=>t a c λu d=>r x l u d Q
theorem Hq(G:Vr X r)(B:PE X e te)(g:PO X lo tl)(J:PO X hi th):PE X (.Subscript e (.Slice lo hi Æ p2) pos) (Zt r te tl th):=by kd_p;refine Subscript_ (dO (B pins s σ H _ I h) λv E z=>?_);obtain⟨x,y,C,K,f⟩:=z;refine wpAny_Slice (dO (g pins E σ y _ C f) λvl d ⟨l,F,t,pl,k⟩=>dO (J pins d σ F _ t k) λvu s3 z=>?_);obtain⟨u,a,m,c,D⟩:=z;rw[evalPart_none];refine È ?_;have o:Inv X pins σ a {s3 with heap:=s3.heap.push {cls:=.type "slice",data:=.fields #[vl,vu,.none]}}:=m.kept (t':=s3.toks) λb ob q=>É _ q;obtain⟨T,id,M,L,N⟩:=G pins {s3 with heap:=s3.heap.push {cls:=.type "slice",data:=.fields #[vl,vu,.none]}} σ a x v vl vu l u s3.heap.objs.size Q o K (Heap.IsSliceOf.new ..) pl c D;show Ú (model X.prog X.w) X.A (subscriptTail e (.Slice lo hi Æ p2) v (.ref s3.heap.objs.size)) (EP X pins σ Q) X.xe {s3 with heap:=s3.heap.push {cls:=.type "slice",data:=.fields #[vl,vu,.none]}};exact tail_any (ops:=[.ref s3.heap.objs.size,v]) L M N (by with_unfolding_all rfl)
noncomputable def zf(xs:X1)(l h:Option Int):X1:=(xs.drop (HT.fO xs.length 0 l)).take (HT.fO xs.length xs.length h-HT.fO xs.length 0 l)
theorem qX(xs:X1)(l h:Option Int):(zf xs l h).length<=xs.length:=by unfold zf;rw[ſ,Œ];lia
def Wq(K:Ì):V->Option Int->Option Int->Hp->VK->Prop:=λx l h H Q=>∃a xs,x=.ref a/\m8 K H a xs /\
 ¬ (HT.fO xs.length 0 l=0/\HT.fO xs.length xs.length h=xs.length)/\∀p,H p=Æ->Q (.ref p) (upd H p (.tup (zf xs l h)))
theorem Po:Vr X (Wq X.K):=by
 intro pins s z H x v w y l d A Q I m t pl g h;obtain⟨a,xs,rfl,k,u,q⟩:=h;cases m;obtain⟨its,r,f,hz⟩:=I.tuple k;have c:its.toArray.size=xs.length:=by rw[Ü];exact r.length.symm
 refine⟨"tuple",_,Ť.lookup,f.typeIs,?_⟩;refine HT.oJ f t pl g (by rw[c];exact u) ?_ (by rw[c];exact hz);rw[c];refine⟨.ref s.heap.objs.size,_,I.laid (t':=s.toks) (o:=.tup (zf xs l d)) (λb ob q=>É _ q) (Ë _) ?_,rfl,q _ (I.hok.fresh (Ë _))⟩;exact⟨ü (qX xs l d) hz,_,(r.drop (HT.fO xs.length 0 l)).take (HT.fO xs.length xs.length d-HT.fO xs.length 0 l),ad9 _ _⟩
def Tc(K:Ì):R2:=λx y H Q=>∃a b xs ys,x=.ref a/\y=.ref b/\m8 K H a xs/\m8 K H b ys/\xs≠[]/\xs.length+ys.length<=Ç /\
 (ys=[]->Q (.ref a) H)/\(ys≠[]->∀p,H p=Æ->Q (.ref p) (upd H p (.tup (xs++ys))))
theorem Vals.xJ(r:Vals xs us):us=[]↔xs=[]:=by
 cases r with
 |nil=>simp
 |cons _ _=>simp
theorem LL:gW X (binaryOp .Add) (Tc X.K):=by by_in;obtain⟨a,b,xs,ys,rfl,rfl,t,B,k,hz,l,m⟩:=h;cases rx;cases ry;obtain⟨its,d,g,_⟩:=I.tuple t;obtain⟨f,c,A,_⟩:=I.tuple B;refine HT.LH g A (λz=>k (d.xJ.mp z)) (λz=>⟨.ref a,H,I,rfl,l (c.xJ.mp z)⟩) (λz=>?_) (by rw[<- d.length,<- c.length];exact hz);refine⟨.ref s.heap.objs.size,_,I.laid (t':=s.toks) (o:=.tup (xs++ys)) (λb ob q=>É _ q) (Ë _) ?_,rfl,m (λw=>z (c.xJ.mpr w)) _ (I.hok.fresh (Ë _))⟩;exact⟨by rw[Ý];exact hz,_,d.append c,ad9 _ _⟩
end
noncomputable def Bt(n:Nat)(i:Int):Option Nat:=if 0<=i then (if i<n then À i.toNat else Æ) else if -(n:Int)<=i then À (i+n).toNat else Æ
def iz{a:Type}(xs:List a)(i:Int):Option a:=(Bt xs.length i).bind λj=>xs[j]?
theorem Df(h:Bt n i=À j):seqIndex? i n=À j/\j<n/\-(n:Int)<=i/\i<n:=by
 unfold Bt at h;by_cases b:0<=i
 ·rw[Α b]at h;by_cases a:i<n
  ·rw[Α a]at h;have e:i.toNat=j:=é h;exact⟨by rw[seqIndex_of b a,e],∅,∅,a⟩
  ·rw[Β a]at h;cases h
 ·rw[Β b]at h;by_cases a:-(n:Int)<=i
  ·rw[Α a]at h;have e:(i+n).toNat=j:=é h;exact⟨by rw[seqIndex_neg ∅ a,e],∅,a,∅⟩
  ·rw[Β a]at h;cases h
theorem xK{a:Type}{xs:List a}{v:a}(h:iz xs i=À v):∃j,seqIndex? i xs.length=À j/\xs[j]?=À v/\j<xs.length/\-(xs.length:Int)<=i/\i<xs.length:=by
 unfold iz at h;cases e:Bt xs.length i with
 |none=>rw[e]at h;cases h
 |some j=>rw[e]at h;obtain⟨c,b,f,d⟩:=Df e;exact⟨j,c,h,b,f,d⟩
theorem b9{a:Type}{xs:List a}{v:a}(h:xs[j]?=À v):iz xs (j:Int)=À v:=by
 have b:j<xs.length:=(Â.mp h).1;have e:Bt xs.length (j:Int)=À j:=by unfold Bt;rw[Α ∅,Α ∅];simp
 unfold iz;rw[e];l_fit
def rZ(b:Expr):Prop:=∀o i,subscripted b Ä o i=operate [o,i] (getItem o i)
def R6(X:Cx)(r:R2):Prop:=
 ∀(b a:Expr)(pins:N0)(s:Ê)(c:St)(H:Hp)(x y:V)(v u:Å)(Q:VK),Inv X pins c H s->RelV x v->RelV y u->r x y H Q ->
  subscripted a Ä v u=operate [v,u] (getItem v u)->Ú (model X.prog X.w) X.A (subscriptTail b a v u) (EP X pins c Q) X.xe s
def GP(X:Cx)(id:String)(r:V->X1->Hp->VK->Prop):Prop:=
 ∀(pins:N0)(s:Ê)(a:St)(H:Hp)(x:V)(xs:X1)(v:Å)(u:List Å)(Q:VK),Inv X pins a H s->RelV x v->Vals xs u->r x xs H Q ->
  Ú (model X.prog X.w) X.A (call (.builtin id) (v::u)) (EP X pins a Q) X.xe s
section
variable{X:Cx}{a b:Expr}{ta tb:TE}{pos:Pos}
theorem Tf{r:R2}(f:R6 X r)(e:PE X a ta)(m:PE X b tb)(l:rZ b):PE X (.Subscript a b pos) (SY r ta tb):=by kd_p;exact Subscript_ (O4 e m I h λv u c x y d g k o q=>f a b pins c σ d x y v u Q g k o q (l _ _))
def Wr(K:Ì):R2:=λx y H Q=>∃p xs i v,x=.ref p/\y=.int i/\ko K H p xs/\iz xs i=À v/\Q v H
def Ws(K:Ì):R2:=λx y H Q=>∃p xs i v,x=.ref p/\y=.int i/\m8 K H p xs/\iz xs i=À v/\Q v H
def Wt:R2:=λx y H Q=>∃z i c,x=.str z/\y=.int i/\z.length<=Ç/\iz z.cps.toList i=À c/\Q (.str ⟨#[c]⟩) H
theorem LM:R6 X (Wr X.K):=by
 intro e k pins s l H x y v u Q I C G h A;obtain⟨p,xs,i,z,rfl,rfl,F,E,q⟩:=h;cases C;obtain⟨t,rfl⟩:=G;obtain⟨its,r,pl,hz⟩:=I.list F;obtain⟨j,c,D,O,L,M⟩:=xK E;obtain⟨w,o,d⟩:=r.get D;have B:=r.length;have N:=nH;have f:EP X pins l Q w s:=⟨z,H,I,d,q⟩;by_cases m:0<=i
 ·have g:i.toNat=j:=by rw[seqIndex_of m M]at c;exact é c
  exact item_listR pl.isList m ∅ (by rw[g];simpa using o) f A
 ·have g:(i+(its.toArray.size:Int)).toNat=j:=by rw[seqIndex_neg ∅ L]at c;rw[Ü,<- B];exact é c
  exact subscriptTail_builtinR (x:=w) pl.isList.typeIs slot_list_getitem.lookup
   (wpAny_getItem_list_neg (Q:=λr J=>r=w/\EP X pins l Q r J) pl.isList ∅ (by rw[Ü]<;>lia) ∅ (by rw[g];simpa using o) ⟨rfl,f⟩) A
theorem Pp:R6 X (Ws X.K):=by
 intro d e pins s g H x y v u Q I l C h F;obtain⟨p,xs,i,z,rfl,rfl,B,A,q⟩:=h;cases l;obtain⟨t,rfl⟩:=C;obtain⟨its,r,pl,hz⟩:=I.tuple B;obtain⟨j,o,m,J,L,M⟩:=xK A;obtain⟨w,E,c⟩:=r.get m;have k:=r.length;have G:=nH;have f:EP X pins g Q w s:=⟨z,H,I,c,q⟩
 exact subscriptTail_builtinR (x:=w) pl.typeIs slot_tuple_getitem.lookup
  (getItem_tuple (j:=j) (Q:=λr D=>r=w/\EP X pins g Q r D) pl ∅ ∅ (by rw[Ü,<- k];exact o) ‹E› ⟨rfl,f⟩) F
theorem Pq:R6 X Wt:=by
 intro d e pins s D H x y v u Q I rx m h B;obtain⟨z,i,c,rfl,rfl,hz,o,q⟩:=h;k_few;obtain⟨t',rfl⟩:=m;obtain⟨j,f,l,F,w,C⟩:=xK o;have k:z.cps.toList.length=z.length:=by simp[adh]
 rw[k]at f w C;have E:=nH;exact tail_any (typeIs_str s z t) slot_str_getitem.lookup (getItem_str (c:=c) (by have g:decide (i < -(2^63:Int))=Ä:=decide_eq_false ∅;have A:decide (i >= 2^63)=Ä:=decide_eq_false ∅;rw[g,A,Bool.or_false]) (by rw[f];simpa using l) ⟨.str ⟨#[c]⟩,H,I.tok _,⟨_,rfl⟩,q⟩) B
theorem BL(its:List Å)(n j:Nat)(u:Å):š (·.setIfInBounds j u) {cls:=.type "list",data:=.seq its.toArray n}={cls:=.type "list",data:=.seq (its.set j u).toArray n}:=by simp[š]
theorem Inv.lst(I:Inv X pins σ H s)(h:H p=À (.lst xs)):
  ∃(its:List Å)(n:Nat),Vals xs its/\s.heap.get? p=À {cls:=.type "list",data:=.seq its.toArray n}/\xs.length<=Ç:=by
 obtain⟨z,its,n,r,e⟩:=I.hok p _ h;exact⟨its,n,r,e,z⟩
theorem Inv.Pr{ys:X1}{its its':List Å}{n n':Nat}{f:Obj->Obj}(I:Inv X pins σ H s)(h:H p=À (.lst xs))
  (d:s.heap.get? p=À {cls:=.type "list",data:=.seq its.toArray n}) (c:f {cls:=.type "list",data:=.seq its.toArray n}={cls:=.type "list",data:=.seq its'.toArray n'}) (r:Vals ys its') (hz:ys.length<=Ç) (t:Nat) (k:0<t:=by accm_mu):
  Inv X pins σ (upd H p (.lst ys)) {s with heap:=s.heap.update p f,toks:=t}:=by
 have e:(s.heap.update p f).get? p=À {cls:=.type "list",data:=.seq its'.toArray n'}:=by rw[ò f d (by rw[c]<;>rfl),c]
 refine I.write (x:=p) (e:=p) (by rw[h];trivial) (.inl rfl) (λb u g q=>(è _ _ (ô g)).trans q) ⟨_,e⟩ ?_;exact⟨hz,its',n',r,e⟩
def Tg:V->V->V->Hp->(Hp->Prop)->Prop:=λo i v H Q=>∃p xs k j,o=.ref p/\i=.int k/\H p=À (.lst xs)/\Bt xs.length k=À j/\Q (upd H p (.lst (xs.set j v)))
theorem set_list:SW X Tg:=by
 intro pins s A H o i v J G u Q I z B C h;obtain⟨p,xs,k,j,rfl,rfl,y,D,q⟩:=h;cases z;obtain⟨t,rfl⟩:=B;obtain⟨its,n,r,f,hz⟩:=I.lst y;obtain⟨c,E,l,w⟩:=Df D;have e:=r.length;have F:=nH
 have g:Inv X pins A (upd H p (.lst (xs.set j v))) {s with heap:=s.heap.update p (š (·.setIfInBounds j u))}:=
  I.Pr y f (BL its n j u) (r.set C j) (by rw[adR];exact hz) s.toks
 by_cases m:0<=k
 ·have d:k.toNat=j:=by rw[seqIndex_of m w]at c;exact é c
  exact PySem.W.ki_setAt f m ∅ (by rw[Ü,<- e];exact w) (by rw[d];exact⟨_,g,q⟩)
 ·have d:(k+(its.toArray.size:Int)).toNat=j:=by rw[seqIndex_neg ∅ l]at c;rw[Ü,<- e];exact é c
  exact PySem.W.ki_setBack f ∅ (by rw[Ü,<- e];exact l) ∅ (by rw[d];exact⟨_,g,q⟩)
theorem xM(lo hi:Option Int)(n:Nat):(sliceBounds lo hi Æ n).1=((HT.fO n 0 lo:Nat):Int)/\(sliceBounds lo hi Æ n).2.1=((HT.fO n n hi:Nat):Int)/\(sliceBounds lo hi Æ n).2.2=1:=by
 refine⟨?_,?_,rfl⟩
 ·cases lo with
  |none=>simp[sliceBounds,HT.fO]
  |some i=>
   simp only[sliceBounds,HT.fO,Option.getD_none,show(1:Int) > 0 by decide,if_true];by_cases h:i<0
   ·simp only[h,if_true]<;>lia
   ·simp only[h,if_false]<;>lia
 ·cases hi with
  |none=>simp[sliceBounds,HT.fO]
  |some i=>
   simp only[sliceBounds,HT.fO,Option.getD_none,show(1:Int) > 0 by decide,if_true];by_cases h:i<0
   ·simp only[h,if_true]<;>lia
   ·simp only[h,if_false]<;>lia
theorem vf(its:List Å)(l h:Option Int):slicePick its.toArray l h Æ=((its.drop (HT.fO its.length 0 l)).take (HT.fO its.length its.length h-HT.fO its.length 0 l)).toArray:=by obtain⟨e,c,d⟩:=xM l h its.toArray.size;unfold slicePick;rw[e,c,d];simp only[sliceRange_one,pick_run,Ü]<;>rfl
def Wu(K:Ì):V->Option Int->Option Int->Hp->VK->Prop:=λx l h H Q=>∃a xs,x=.ref a/\ko K H a xs/\∀p,H p=Æ->Q (.ref p) (upd H p (.lst (zf xs l h)))
theorem LN:Vr X (Wu X.K):=by intro pins s w H x v t u l d y Q I k m pl f h;obtain⟨a,xs,rfl,g,q⟩:=h;cases k;obtain⟨its,r,e,hz⟩:=I.list g;have c:=r.length;refine⟨"list",_,slot_list_getitem.lookup,e.isList.typeIs,?_⟩;refine wpAny_getItem_list_slice e.isList m pl f .none ⋯ ?_ (by rw[Ü]<;>lia);rw[vf,<- c];refine⟨.ref s.heap.objs.size,_,I.laid (t':=s.toks) (o:=.lst (zf xs l d)) (λb ob q=>É _ q) (Ë _) ?_,rfl,q _ (I.hok.fresh (Ë _))⟩;exact⟨ü (qX xs l d) hz,_,0,(r.drop (HT.fO xs.length 0 l)).take (HT.fO xs.length xs.length d-HT.fO xs.length 0 l),Ð _ rfl⟩
theorem oK:eE X (.builtin "len") (λxs H Q=>∃p ys,xs=[.ref p]/\(ko X.K H p ys\/m8 X.K H p ys)/\Q (.int ys.length) H):=by
 intro pins s k H xs g Q I r h;obtain⟨p,ys,rfl,d,q⟩:=h;obtain⟨u,rfl,f⟩:=vals1 r;cases f;have l:=nH;rcases d with d|d
 ·obtain⟨its,e,pl,hz⟩:=I.list d;have c:=e.length;exact Calls.call_len_list pl.isList (by simp only[Ü]<;>lia) ⟨.int ys.length,H,I.tok _,⟨s.toks+1,by rw[Ü,c]⟩,q⟩
 ·obtain⟨its,e,pl,hz⟩:=I.tuple d;have c:=e.length;exact len_tuple pl (by simp only[Ü]<;>lia) ⟨.int ys.length,H,I.tok _,⟨s.toks+1,by rw[Ü,c]⟩,q⟩
theorem xN:eE X (.builtin "len") (λxs H Q=>∃z,xs=[.str z]/\z.length<=Ç/\Q (.int z.length) H):=by intro pins s d H xs c Q I r h;obtain⟨z,rfl,hz,q⟩:=h;obtain⟨u,rfl,t,rfl⟩:=vals1 r;have e:=nH;exact len_str ∅ ⟨.int z.length,H,I.tok _,⟨_,rfl⟩,q⟩
theorem oM:eE X (.type "list") (λxs H Q=>∃p ys,xs=[.ref p]/\(ko X.K H p ys\/m8 X.K H p ys)/\∀l,H l=Æ->Q (.ref l) (upd H l (.lst ys))):=by
 intro pins s B H xs C Q I r h;obtain⟨p,ys,rfl,g,q⟩:=h;obtain⟨u,rfl,A⟩:=vals1 r;cases A
 have f:∀(its:List Å),Vals ys its->ys.length<=Ç->∀(h':Heap)(c':Nat),(∀b z,s.heap.get? b=À z->h'.get? b=À z) ->
   h'.get? s.heap.objs.size=À {cls:=.type "list",dict:=Æ,data:=.seq its.toArray c',slots:=#[]}->EP X pins B Q (.ref s.heap.objs.size) {s with heap:=h'}:=λits c hz h' c' k e=>
  ⟨.ref s.heap.objs.size,_,I.laid (t':=s.toks) k (Ë _) (show cU X.prog X.w _ h' _ (.lst ys) from⟨hz,its,c',c,e⟩),rfl,q _ (I.hok.fresh (Ë _))⟩
 rcases g with g|g
 ·obtain⟨its,c,pl,hz⟩:=I.list g;have d:=c.length;obtain⟨o,y,t,n,m⟩:=pl.isList;exact call_list_seq p (.inl rfl) y t m (λh' c' k e=>f its c hz h' c' k e) (by simp only[Ü]<;>lia)
 ·obtain⟨its,c,pl,hz⟩:=I.tuple g;have d:=c.length;obtain⟨o,y,t,n,m⟩:=pl;exact call_list_seq p (.inr rfl) y t m (λh' c' k e=>f its c hz h' c' k e) (by simp only[Ü]<;>lia)
theorem nq:eE X (.type "tuple") (λxs H Q=>∃p ys,xs=[.ref p]/\((ko X.K H p ys/\∀l,H l=Æ->Q (.ref l) (upd H l (.tup ys)))\/(m8 X.K H p ys/\Q (.ref p) H))):=by
 intro pins s k H xs z Q I r h;obtain⟨p,ys,rfl,h⟩:=h;obtain⟨u,rfl,t⟩:=vals1 r;cases t;rcases h with⟨d,q⟩|⟨d,q⟩
 ·obtain⟨its,c,pl,hz⟩:=I.list d;have f:=c.length;refine call_tuple_list pl.isList (λh' y=>?_) (by simp only[Ü]<;>lia);have g:Inv X pins k H {s with heap:=h'}:=I.kept (t':=s.toks) y
  have m:Inv X pins k (upd H h'.objs.size (.tup ys)) {s with heap:=h'.push {cls:=.type "tuple",data:=.seq its.toArray}}:=
   g.laid (t':=s.toks) (λb o e=>É _ e) (Ë _) (show cU X.prog X.w _ _ _ (.tup ys) from⟨hz,its,c,ad9 _ _⟩)
  exact⟨.ref h'.objs.size,_,m,rfl,q _ (g.hok.fresh (Ë _))⟩
 ·obtain⟨its,c,pl,hz⟩:=I.tuple d;exact call_tuple_same pl ⟨.ref p,H,I,rfl,q⟩
def Vt(K:Ì)(T:String)(x:V)(H:Hp):Prop:=match x with
 |.str _=>T="str"
 |.int _=>T="int"
 |.ref p=>(T="list"/\∃xs,ko K H p xs)\/(T="tuple"/\∃o,K.lookup p=À o/\o.cls=.type "tuple"/\o.dict=Æ) \/
   (T="dict"/\((∃kvs,H p=À (.dK kvs))\/∃kvs,H p=À (.dT kvs)))\/(T="set"/\∃S n,H p=À (.set S n))
 |_=>False
theorem Hr{T:String}(I:Inv X pins σ H s)(r:RelV x v)(d:Vt X.K T x H):
  s.TypeIs v T/\∀a,v=.ref a->∃ob,s.heap.get? a=À ob/\ob.dict=Æ:=by
 cases x with
 |str z=>obtain⟨t,rfl⟩:=r;cases (show T="str" from d);exact⟨typeIs_str s z t,λ_ e=>nomatch e⟩
 |int i=>obtain⟨t,rfl⟩:=r;cases (show T="int" from d);exact⟨typeIs_int s i t,λ_ e=>nomatch e⟩
 |ref p=>
  cases r;rcases d with⟨rfl,xs,g⟩|⟨rfl,o,h,k,f⟩|⟨rfl,h⟩|⟨rfl,S,n,h⟩
  ·obtain⟨its,_,pl,_⟩:=I.list g;refine⟨pl.isList.typeIs,λa e=>?_⟩;w_up;obtain⟨o,n,e,c,f,_⟩:=pl;exact⟨o,e,f⟩
  ·refine⟨⟨o,I.yV p o h,k⟩,λa e=>?_⟩;w_up;exact⟨o,I.yV _ o h,f⟩
  ·have z:∃o,s.heap.get? p=À o/\o.ExactDict:=by
    rcases h with⟨kvs,h⟩|⟨kvs,h⟩
    ·obtain⟨_,_,_,_,o,_,_,e,ex,_⟩:=I.hok p _ h;exact⟨o,e,ex⟩
    ·obtain⟨_,_,_,_,o,_,_,e,ex,_⟩:=I.hok p _ h;exact⟨o,e,ex⟩
   obtain⟨o,e,ex⟩:=z;refine⟨⟨o,e,ex.1⟩,λa e2=>?_⟩;cases e2;exact⟨o,e,ex.2.1⟩
  ·obtain⟨o,_,_,_,e,ex,_⟩:=I.hok p _ h;refine⟨⟨o,e,ex.1⟩,λa e2=>?_⟩;cases e2;exact⟨o,e,ex.2.1⟩
 |_=>exact Ģ d
def Wv(K:Ì)(T:String)(r:V->X1->Hp->VK->Prop)(t:TE):TE:=λd H Q=>t d H λx c=>Vt K T x c/\r x [] c Q
def Zu(K:Ì)(T:String)(r:V->X1->Hp->VK->Prop)(e:TE)(t:TA):TE:=λd H Q=>e d H λx c=>Vt K T x c/\t d c λxs f=>r x xs f Q
variable{o e:Expr}{es:U2}{to:TE}{t:TA}{name:Str}{apos cpos:Pos}{T id:String}{r:V->X1->Hp->VK->Prop}
theorem Hs(C:PlainAttrs T)(f:Slot T name id)(g:typeOf (.builtin id)=pure (.type "method_descriptor"))(z:GP X id r)(u:PE X o to)
  (c:attributeBase o name X.env (eval o X.env)=eval o X.env:=by rfl) (d:(apos.endLine==cpos.line)=Ã:=by rfl):PE X (.Call (.Attribute o name apos) [] [] cpos) (Wv X.K T r to):=by
 kd_p;refine wpAny_Call_method0_late c d (dO (u pins s σ H _ I h) λv m D=>?_);obtain⟨x,A,k,l,B,q⟩:=D;obtain⟨y,w⟩:=Hr k l B;exact⟨T,id,C,f,g,y,w,aaH rfl (PySem.evalArgs_none (z pins m σ A x [] v [] Q k l .nil q))⟩
theorem Th(pa:PlainAttrs T)(slot:Slot T name id)(hty:typeOf (.builtin id)=pure (.type "method_descriptor"))(hm:GP X id r)(ho:PE X o to)(ha:PA X (e::es) t)
  (hbase:attributeBase o name X.env (eval o X.env)=eval o X.env:=by rfl)
  (hfew:((backTo cpos (æ (e::es) X.env)).all (λx=>!x.1)&&(backToKw cpos (keywordEach [] X.env)).all (λx=>x.1.isSome)
   && decide ((e::es).length+([]:List Keyword).length+(if ([]:List Keyword).isEmpty then 0 else 1)<30))=Ã:=by rfl)
  (hline:(apos.endLine==cpos.line)=Ã:=by rfl) (hs:æ (e::es) X.env=(Ä,eval e X.env)::æ es X.env:=by rfl) (hplain:(backTo cpos (æ es X.env)).any (·.1)=Ä:=by rfl):
  PE X (.Call (.Attribute o name apos) (e::es) [] cpos) (Zu X.K T r to t):=by
 kd_p;refine wpAny_Call_method_late hbase hfew hline rfl (dO (ho pins s σ H _ I h) λv s1 zz=>?_);obtain⟨x,H1,I1,r1,ty,q1⟩:=zz;obtain⟨h1,h2⟩:=Hr I1 r1 ty;refine⟨T,id,pa,slot,hty,h1,h2,?_⟩;have hA:=ha cpos pins s1 σ H1 _ I1 q1;rw[hs]at hA |-;refine aaH (by show(Ä||(backTo cpos (æ es X.env)).any (·.1))=Ä;rw[hplain]<;>rfl) (aa4 ?_);exact dO hA λus s2 zz=>by obtain⟨vs,H2,I2,r2,q2⟩:=zz;exact hm pins s2 σ H2 x vs v us Q I2 r1 r2 q2
end
def Ww(X:Cx)(id:String)(r:V->X1->Hp->VK->Prop):Prop:=
 ∀(pins:N0)(s:Ê)(a:St)(H:Hp)(x:V)(xs:X1)(v:Å)(u:List Å)(Q:VK),Inv X pins a H s->RelV x v->Vals xs u->r x xs H Q ->
  Ú (model X.prog X.w) X.A (call (.builtin id) (v::u)) (EP X pins a Q) X.xe s
theorem Vals.one(h:Vals [x] us):∃u,us=[u]/\RelV x u:=by
 cases h with
 |cons r t=>cases t;exact⟨_,rfl,r⟩
theorem Vals.zero:∀{us:List Å},Vals [] us->us=[]
 |_,.nil=>rfl
theorem Vals.dropLast(h:Vals xs us):Vals xs.dropLast us.dropLast:=by
 induction h with
 |nil=>exact .nil
 |cons r t a=>
  cases t with
  |nil=>exact .nil
  |cons q t'=>exact .cons r a
theorem Vals.rep(h:Vals xs us):∀k:Nat,Vals (Ö k xs).flatten (Ö k us).flatten
 |0=>.nil
 |k+1=>by rw[Ċ,Ċ,Ņ,Ņ];exact Vals.append h (Vals.rep h k)
theorem BN(l:List α):l.eraseIdx (l.length-1)=l.dropLast:=by
 induction l with
 |nil=>rfl
 |cons a r c=>
  cases r with
  |nil=>rfl
  |cons b r=>
   have e:(a::b::r).length-1=((b::r).length-1)+1:=by have d:(a::b::r).length=r.length+2:=rfl;have h:(b::r).length=r.length+1:=rfl;lia
   rw[e,List.eraseIdx_cons_succ,c]
   all_goals rfl
theorem foldl_rep(its:List Å):∀(k:Nat)(a:List Å),
  adi (λb c=>b++c) a.toArray (Ö k its.toArray)=(a++(Ö k its).flatten).toArray
 |0,a=>by simp
 |k+1,a=>by
  have e:a.toArray++its.toArray=(a++its).toArray:=by simp
  have d:(a++its)++(Ö k its).flatten=a++(Ö (k+1) its).flatten:=by rw[Ċ,Ņ,â]
  rw[<- d,<- foldl_rep its k (a++its),<- e,Ċ,Ď]
section
variable{X:Cx}{l b:Addr}{ys zs:X1}
theorem Inv.Ht{its its':List Å}{n:Nat}{f:Array Å->Array Å}{t':Nat}(I:Inv X pins σ H s)(h:H l=À (.lst xs))
  (e:s.heap.get? l=À {cls:=.type "list",data:=.seq its.toArray n}) (a:f its.toArray=its'.toArray) (d:Vals ys its') (hz:ys.length<=Ç) (m:0<t':=by accm_mu):
  Inv X pins σ (upd H l (.lst ys)) {s with heap:=s.heap.update l (š f),toks:=t'}:=by
 have q:=PySem.IsL.update e f;rw[a]at q;refine I.write (x:=l) (e:=l) (by rw[h];exact trivial) (.inl rfl) (λk u g c=>(è s.heap (š f) (ô g)).trans c) ⟨_,q⟩ ?_;exact⟨hz,its',_,d,q⟩
theorem Inv.Ti(I:Inv X pins σ H s)(h:Vals ys its)(hz:ys.length<=Ç)(a:0<t':=by accm_mu):
  Inv X pins σ (upd H s.heap.objs.size (.lst ys)) {s with heap:=s.heap.push {cls:=.type "list",data:=.seq its.toArray},toks:=t'}:=
 I.laid (λ_ _ q=>É _ q) (Ë _) ⟨hz,its,0,h,Ð _ rfl⟩
theorem Inv.fresh(I:Inv X pins σ H s):H s.heap.objs.size=Æ:=I.hok.fresh (Ë _)
theorem Inv.EG(I:Inv X pins σ H s)(h:H l=À (.lst xs)):xs.length<=Ç/\∃(its:List Å)(n:Nat),Vals xs its/\xs.length=its.length/\s.heap.get? l=À {cls:=.type "list",data:=.seq its.toArray n}:=by obtain⟨z,its,n,r,e⟩:=I.hok l _ h;exact⟨z,its,n,r,r.length,e⟩
theorem zg(h:n<=Ç):Ł n=Ä:=by unfold Ł;exact decide_eq_false ∅
end
section
variable{X:Cx}
def LO:V->X1->Hp->VK->Prop:=λx vs H Q=>∃l xs y,x=.ref l/\vs=[y]/\H l=À (.lst xs)/\xs.length<Ç/\Q .bD (upd H l (.lst (xs++[y])))
theorem vX:Ww X "list.append" LO:=by intro pins s k H x vs v g Q I b d h;obtain⟨l,xs,y,rfl,rfl,a,hz,q⟩:=h;cases b;obtain⟨u,rfl,c⟩:=d.one;obtain⟨z,its,n,r,f,e⟩:=I.EG a;refine call_meets F.slot_list_append ⟨_,e,rfl⟩ F.entry_list_append (F.args_list_append_2 _ _) (PySem.list_append l its.toArray n u (by rw[Ü];lia)) ⟨e,?_⟩;refine⟨.bD,_,I.Ht (its':=its++[u]) a e ⋯ (r.append (.cons c .nil)) ?_,rfl,q⟩;rw[Ý,List.length_singleton];lia
def Wx:V->X1->Hp->VK->Prop:=λx vs H Q=>∃l xs y,x=.ref l/\vs=[]/\H l=À (.lst xs)/\xs[xs.length-1]?=À y/\Q y (upd H l (.lst xs.dropLast))
theorem Pu:Ww X "list.pop" Wx:=by
 intro pins s w H x vs v t Q I k o h;obtain⟨l,xs,y,rfl,rfl,b,d,q⟩:=h;cases k;have f:=o.zero;subst f;obtain⟨z,its,n,r,c,e⟩:=I.EG b;obtain⟨u,g,m⟩:=r.get d;have a:its.toArray[its.toArray.size-1]?=À u:=by show its.toArray[its.length-1]?=À u;rw[<- acC,<- c];exact g
 refine call_meets F.slot_list_pop ⟨_,e,rfl⟩ F.entry_list_pop (F.args_list_pop_1 _) (MeetsSeq.list_pop_last l its.toArray n u a (by rw[Ü];lia)) ⟨e,?_⟩;refine⟨y,_,I.Ht (its':=its.dropLast) b e ?_ r.dropLast ?_,m,q⟩
 ·show its.toArray.eraseIdxIfInBounds (its.toArray.size-1)=its.dropLast.toArray;rw[Ü,List.eraseIdxIfInBounds_toArray,BN]
 ·rw[List.length_dropLast];lia
def Pw:V->X1->Hp->VK->Prop:=λx vs H Q=>∃l xs,x=.ref l/\vs=[]/\H l=À (.lst xs)/\Q .bD (upd H l (.lst []))
theorem Hu:Ww X "list.clear" Pw:=by intro pins s g H x vs v u Q I c d h;obtain⟨l,xs,rfl,rfl,a,q⟩:=h;cases c;have b:=d.zero;subst b;obtain⟨z,its,n,r,f,e⟩:=I.EG a;refine call_meets F.slot_list_clear ⟨_,e,rfl⟩ F.entry_list_clear (F.args_list_clear_1 _) (AutoSeq1.list_clear_list_0 l its.toArray n (by rw[Ü];lia)) ⟨e,?_⟩;exact⟨.bD,_,I.Ht (its':=[]) (ys:=[]) a e rfl .nil (ê _),rfl,q⟩
def Wy:R2:=λx y H Q=>∃l k xs,x=.ref l/\y=.int k/\H l=À (.lst xs)/\-(2^63)<=k/\k<2^63/\xs.length*k.toNat<=Ç /\
 ∀p,H p=Æ->Q (.ref p) (upd H p (.lst (Ö k.toNat xs).flatten))
theorem len_rep(xs:List α)(k:Nat):(Ö k xs).flatten.length=k*xs.length:=by
 induction k with
 |zero=>simp
 |succ k a=>rw[Ċ,Ņ,Ý,a,acq,Nat.add_comm]
theorem Px:gW X (binaryOp .Mult) Wy:=by
 by_in;obtain⟨l,k,xs,rfl,rfl,A,G,D,hz,q⟩:=h;cases rx;obtain⟨t,rfl⟩:=ry;obtain⟨z,its,n,r,B,e⟩:=I.EG A;have b:its.toArray.size*k.toNat<=Ç:=by rw[Ü,<- B];exact hz
 have c:¬ its.toArray.size*k.toNat > (2^63-1)/8:=by
  have:(Ç:Nat)<=(2^63-1)/8:=by decide
  lia
 have f:¬ (!Builtin.List.listFitsIndex k)=Ã:=by rw[fitsIndex_both G D];exact í
 have E:¬ Ł (its.toArray.size*k.toNat)=Ã:=by rw[zg b];exact í
 have d:adi (λo g=>o++g) #[] (Ö (if its.toArray.isEmpty=Ã then 0 else k.toNat) its.toArray)=(Ö k.toNat its).flatten.toArray:=by
  have C:∀m:Nat,adi (λo g=>o++g) #[] (Ö m its.toArray)=(Ö m its).flatten.toArray:=λm=>by have:=foldl_rep its m [];rw[ã]at this;exact this
  rw[C];cases its with
  |nil=>simp
  |cons a J=>l_out
 refine wpAny_binaryOp_repeat_ref (T:="list") (U:="int") (by decide) ⟨_,e,rfl⟩ (λw=>typeIs_int w k t) noFill_list_mul F.fills_int_mul adS repeat_list F.slot_int_index.lookup
  (call_meets adS (typeIs_int s k t) F.entry_int_rmul (F.args_int_rmul_2 _ _) (int___rmul___int_list k t l its.toArray n)
   ⟨e,rfl,⟨_,e,rfl⟩,call_meets F.slot_list_mul ⟨_,e,rfl⟩ F.entry_list_mul (F.args_list_mul_2 _ _) (AutoListH.list___mul___list_int_3 l its.toArray n k t f c E) ⟨e,?_⟩⟩)
 rw[d];exact⟨.ref _,_,I.Ti (t':=s.toks) (r.rep k.toNat) (by rw[len_rep,Nat.mul_comm];exact hz),rfl,q _ I.fresh⟩
end
end
end L2
namespace Yq
noncomputable section
open PySem PySem.W PySem.Calls PyProof.Rows
theorem rT{P:Params}{h:Heap}:∀(ns:D2)(vs:List Å),WellAll P h vs (ns.map WData.int)->IntsAre vs ns:=by
 intro ns
 induction ns with
 |nil=>intro vs w;rw[ĸ]at w;cases w;exact .nil
 |cons n ns ih=>
  intro vs w;rw[Ï]at w;cases w with
  |cons a b=>cases a;exact .cons _ _ (ih _ b)
theorem EH{l:OpenLaw}{n:Nat}(m:l.most=À n){P:Params}{h:Heap}{args:List WData}{v:List Å}
  (b:l.row.toRowW.claim.pre args=Ã) (hwl:WellAll P h v args):
  ∃a vs ns,v=[Value.ref a]/\args=[WData.list (ns.map WData.int)]/\h.get? a=À {cls:=.type "list",data:=.seq vs.toArray}/\IntsAre vs ns/\ns.length<=n:=by
 have g:WShape.hasAll [] args [.list .int]=Ã:=(pre_splitW b).1;have i:l.pre.holds [] {args:=args}=Ã:=(pre_splitW b).2;obtain⟨d,r,rfl,k,j⟩:=hasAllW_cons g;obtain rfl:=hasAllW_nil j;obtain⟨xs,rfl,o⟩:=hasW_list k;obtain⟨ns,rfl⟩:=items_int o;have c:ns.length<=n:=by
  unfold OpenLaw.pre at i;have e:(WTm.not (.lt (.lit (.int (n:Int))) (.len (.arg 0)))).holds [] {args:=[.list (ns.map .int)]}=Ã:=by have e:=(holds_andW i).1;rw[m]at e;exact e
  have f:=condW_of e (w_not (w_lt w_lit (w_len_list (w_arg rfl))));rw[Û]at f;refine Nat.le_of_not_lt λq=>?_;have p:(n:Int)<((ns.length:Nat):Int):=∅
  first
   |(rw[decide_eq_true p]at f;exact absurd f (by decide))
   |(simp at f;lia)
 cases hwl with
 |cons w1 w2=>
  cases w2;cases w1 with
  |list ho hall=>exact⟨_,_,ns,rfl,rfl,ho,rT ns _ hall,c⟩
theorem EI(l:OpenLaw)(args:List WData):l.row.toRowW.claim.post args (.bool Ã) args=Ã:=
 postW_of (r:=l.row.toRowW) (X:=(Ã==Ã))
  (show WShape.has [] (.bool Ã) .bool=Ã by first|rfl|decide|simp[WShape.has,WShape.arms,WShape.armsAll])
  (show(WTm.eq .res (.lit (.bool Ã))).value [] {args:=args,res:=À (.bool Ã),after:=args}=À (.bool (Ã==Ã)) from w_eq_bool (w_res rfl) w_lit) rfl
theorem zj{l:OpenLaw}{n:Nat}{q:ð}{c:P3}{X:(Str->Option Å)->Heap->Prop}{I:Ć->Heap->Prop}{d:DefRec}
  (M:l.most=À n) (y:d.params.defaults=[])
  (k:∀(w:Ć)(b s:Ê)(p C:Str->Option Å)(m:Addr)(o:Obj)(z v e:Å)(a:Addr)(vs:List Å)(t:D2),
   Ground q c [] X w b p C s.heap->I w s.heap ->
   s.heap.get? m=À o->o.data=.func (docDef d.name d.params d.body d.scope z v e)->s.heap.CodeRec v d.name->p d.name=À (.ref m) ->
   s.heap.get? a=À {cls:=.type "list",data:=.seq vs.toArray}->IntsAre vs t->t.length<=n->s.gens=#[] ->
   codeAny (model l.prog w) callerA (.call (.ref m) ⟨[.ref a],[]⟩) (λr u=>r=.ok (.ret (.bool Ã))/\OldK s.heap u.heap/\u.os=s.os/\AllBare u.gens) s):
  WalkO q c X I l.row.toRowW d [] (λf vs=>ad3 f vs):=by
 intro w b s p C G Y m o z v e O kV T Q x D A U H F V i E P B J;obtain rfl:O=.none:=Dflts.none D y;obtain rfl:kV=.none:=Dflts.noKw D;obtain⟨a,vs,t,rfl,rfl,j,h,g⟩:=EH M i B;refine enter_call (codeAny_mono (k w b s p C m o z v e a vs t G Y T (fd_plain Q) x A j h g U) λr u R=>?_);obtain⟨rfl,K,N,S⟩:=R;exact⟨.inl ⟨.bool Ã,.bool Ã,[],rfl,λ_=>rfl,.bool Ã,EI l _,λ_=>⟨List.Pairwise.nil,λ_ L=>(nomatch L)⟩⟩,K,N,S⟩
end
end Yq
namespace L2
noncomputable section
open PySem PySem.Spec PyProof.Rows
variable{kvs:List (List Key×V)}{xs:List (List Key×Addr×Å)}{Q:Å->Ê->Prop}{H H':Hp}{P:ð}{pins:N0}{w:Ć}{o:Option V}{u:Option Å}{a f b:Addr}{s:Ê}{osl:Array (Option Å)}{qual x:Str}{vs:List (Key×Å)}{h':Heap}{σ:St}{X:Cx}{od an:Option Addr}{ps:P3}{ks:List Key}{fd:FuncData}{pm oc doc d' ct cdv:Å}{t':Nat}
theorem vY:∀{vs:List Å}{c:D2},IntsAre vs c->Vals (c.map V.int) vs
 |_,_,.nil=>.nil
 |_,_,.cons n t h=>.cons ⟨t,rfl⟩ (vY h)
def LP(H:Hp):Prop:=∀b,H b=Æ\/∃o xs,H b=À (.eB o (.lst xs))
theorem Hw{P:ð}{w:Ć}{K:Ì}{t L:Str->Option Å}{CX:vc}{k:Nat}{J a:Addr}{N:FuncData}{x:Str}{T:Sp}{c:Ê}{vs:List Å}{A:D2}
  (O:K.In c.heap) (y:c.heap.Ns mainGlobals t) (g:c.heap.Ns builtinsNs L) (N6:∀x:Str,x≠"__name__"->L x=bootBuiltins x) (C:c.heap.NoLimit) (hg:c.gens=#[])
  (G:c.heap.get? a=À {cls:=.type "list",data:=.seq vs.toArray}) (Y:IntsAre vs A) (W:A.length<=Ç) (hr:gE k callerA)
  (F:∀i:Heap,K.In i->i.Ns mainGlobals t->nk P w K t i CX k J N [x] T) (p:∀(s:Ê)(u:Å),BindsTo s N ⟨[u],[]⟩ [(x,u)])
  (BI:∀H:Hp,LP H->ko K H a (A.map V.int)->T [.ref a] H (λv _=>v=.bl Ã) λ_ _ _=>False)
  (Wz:∀H e j,CX [] H c (λ_ _ _=>False) e j->False):
  codeAny (model P w) callerA (.call (.ref J) ⟨[.ref a],[]⟩) (λr j=>r=.ok (.ret (.bool Ã))/\OldK c.heap j.heap/\j.os=c.os/\AllBare j.gens) c:=by
 have M:=vY Y;have WA:=Y.length
 have l:∀H:Hp,LP H->ko K H a (A.map V.int)->lF P w H c.heap->(∀b,H b≠Æ->b=a)->(H a≠Æ->K.lookup a=Æ) ->
   codeAny (model P w) callerA (.call (.ref J) ⟨[.ref a],[]⟩) (λr j=>r=.ok (.ret (.bool Ã))/\OldK c.heap j.heap/\j.os=c.os/\AllBare j.gens) c:=by
  intro H R hS B S hK;have f6:∀{b:Addr}{o:Obj},c.heap.get? b=À o->H b=Æ->(xD c.heap H).get? b=À o:=λe n=>GW e n;have S8:∀{b:Addr}{o:Obj}{es:Array DictEntry}{ep:Nat},c.heap.get? b=À o->o.data=.dict es ep->H b=Æ:=λ{b o es ep} e d=>by
   cases q:H b with
   |none=>rfl
   |some u=>have I:b=a:=S b (by rw[q];simp);subst I;rw[G]at e;w_up;have d':Data.seq vs.toArray _=Data.dict es ep:=d;cases d'
  have E:∀{b:Addr}{m:Str->Option Å},c.heap.Ns b m->(xD c.heap H).Ns b m:=λ{b m} zz=>by obtain⟨o,es,ep,e,d,r⟩:=zz;exact⟨o,es,ep,f6 e (S8 e d),d,r⟩
  have Z:K.In (xD c.heap H):=λb o e=>f6 (O b o e) (by
   cases q:H b with
   |none=>rfl
   |some u=>have I:b=a:=S b (by rw[q];simp);subst I;rw[hK (by rw[q];simp)]at e;cases e)
  have hM:Mod K t (xD c.heap H):=⟨Z,E y,⟨L,E g,N6⟩,let ⟨mc,h1,h2⟩:=C;⟨mc,E h1,h2⟩⟩;have e0:Hl P w K t (xD c.heap H) callerA [] c H:=⟨rfl,hM,λb o e=>Ln e,Nat.le_of_eq (Ex _ _),trivial,λb g=>absurd (show b∈([]:Q1) from g) ⋯,B,.of_eq hg⟩;refine codeAny_mono ((F _ Z (E y)).run callerA [] c H ⟨[.ref a],[]⟩ [.ref a] [.ref a] _ _ hr e0 (p c (.ref a)) (.cons rfl .nil) (BI H R hS)) λr j h=>?_;cases r with
  |error e=>exact(Wz H e j h).elim
  |ok fl=>
   cases fl with
   |next=>exact Ģ h
   |brk=>exact Ģ h
   |cont=>exact Ģ h
   |ret u=>
    obtain⟨v,H',os,D,U,WB,r',q⟩:=h;have q':v=.bl Ã:=q;subst q';obtain rfl:u=Value.bool Ã:=r';refine⟨rfl,OldK.of_keep λb o e=>?_,os.1,D⟩;cases q:H b with
    |none=>exact U.keep b o e q (by intro z;exact absurd (show b∈([]:Q1) from z) ⋯) ⋯
    |some u=>
     rcases R b with z|⟨ob,xs,z⟩
     ·rw[q]at z;cases z
     ·have z2:=U.lG b ob _ z;obtain⟨e1,_⟩:=B b _ z;obtain⟨e2,_⟩:=WB b _ z2;rw[e]at e1;cases e1;exact e2
 cases hk:K.lookup a with
 |some o=>have e:=O a o hk;rw[G]at e;w_up;refine l (λ_=>Æ) (λ_=>.inl rfl) (.inr ⟨_,vs.toArray,_,hk,rfl,rfl,rfl,by rw[Ü,WA];exact W,‹M›⟩) (λb u z=>by have z':(Æ:Option HO)=À u:=z;cases z') (λb z=>absurd rfl z) λz=>absurd rfl z
 |none=>
  refine l (λb=>if b=a then À (.eB {cls:=.type "list",data:=.seq vs.toArray} (.lst (A.map V.int))) else Æ) (λb=>?_) (.inl (.inr ⟨{cls:=.type "list",data:=.seq vs.toArray},Α rfl⟩)) (λb u z=>?_) (λb z=>?_) λ_=>hk
  ·by_cases g:b=a
   ·exact .inr ⟨_,_,Α g⟩
   ·exact .inl (Β g)
  ·by_cases g:b=a
   ·have z':=(Α g).symm.trans z;cases z';subst g;exact⟨G,by rw[Û];exact W,vs,_,M,G⟩
   ·have z':=(Β g).symm.trans z;cases z'
  ·by_cases g:b=a
   ·exact g
   ·exact absurd (Β g) z
def c9(s:Stmt):Arguments:=match s with
 |.FunctionDef _ a _ _ _ _ _ _ _ _=>a
 |_=>{posonlyargs:=[],args:=[],vararg:=Æ,kwonlyargs:=[],kw_defaults:=[],kwarg:=Æ,defaults:=[]}
def bE(s:Stmt):List Stmt:=match s with
 |.FunctionDef _ _ b _ _ _ _ _ _ _=>b
 |_=>[]
noncomputable def au(s:Stmt):Scope:=match s with
 |.FunctionDef _ _ _ _ _ _ c _ _ _=>c
 |_=>{kind:=.function,names:=[],isGenerator:=Ä,isCoroutine:=Ä}
structure LQ(K:Ì)(x qual:Str)(st:Stmt)(f:Addr)(fd:FuncData):Prop where
 ex:∃(oc:Å)(od:Option Addr)(kV doc pm:Å)(an:Option Addr)(cdv ct:Å)(osl:Array (Option Å)),
  fd=Ą x qual (c9 st) (bE st) (au st) .none kV doc pm an cdv ct/\K.lookup f=À ⟨oc,od,.func fd,osl⟩/\Ŕ K cdv qual=Ã
 kp:Ė K (.ref f)=Ã
section
variable{K:Ì}{mg:Str->Option Å}{base:Heap}
theorem LQ.binds{st:Stmt}(F:LQ K x qual st f fd)
  (h:∀(kV d p:Å)(e:Option Addr)(c i:Å)(g:List Å),g.length=ps.length->bindArgs (Ą x qual (c9 st) (bE st) (au st) .none kV d p e c i) ⟨g,[]⟩=pure (ps.zip g)):Binds K fd ps []:=by
 obtain⟨l,m,kV,d,p,e,c,i,k,rfl,n,j⟩:=F.ex;exact .all (h kV d p e c i)
theorem Py{st:Stmt}{kV:Å}(l:K.lookup f=À ⟨oc,od,.func (Ą x qual (c9 st) (bE st) (au st) .none kV doc pm an cdv ct),osl⟩)
  (c:Ŕ K cdv qual=Ã) (k:Ė K (.ref f)=Ã):LQ K x qual st f (Ą x qual (c9 st) (bE st) (au st) .none kV doc pm an cdv ct):=⟨⟨oc,od,kV,doc,pm,an,cdv,ct,osl,rfl,l,c⟩,k⟩
end
section
theorem pv(i:Nat){x:Str}{pos:Pos}(d:X.N[i]?=À x)(e:GO X.env.scope x)(c:(x==("__debug__":Str))=Ä:=by decide)
  (h:(x==("__classdict__":Str))=Ä:=by decide):PE X (.Name x pos) (SH i):=BB d e c h
end
section
variable{κ:Type}[DecidableEq κ]
noncomputable def nI(kvs:List (κ×V))(k:κ):Option V:=(kvs.find? λc=>decide (c.1=k)).map (·.2)
noncomputable def putK(kvs:List (κ×V))(k:κ)(v:V):List (κ×V):=
 if (kvs.any λc=>decide (c.1=k))=Ã then kvs.map (λc=>if c.1=k then (c.1,v) else c) else kvs++[(k,v)]
theorem sS{p:κ×V}{r:List (κ×V)}{k:κ}(e:p.1=k):nI (p::r) k=À p.2:=by simp[nI,Ś,e]
theorem oO{p:κ×V}{r:List (κ×V)}{k:κ}(e:¬ p.1=k):nI (p::r) k=nI r k:=by simp[nI,Ś,e]
theorem zk(k:κ):∀kvs:List (κ×V),(kvs.any λc=>decide (c.1=k))=(nI kvs k).isSome
 |[]=>rfl
 |p::r=>by
  rw[aaW];by_cases e:p.1=k
  ·simp only[sS e,decide_eq_true e,Bool.true_or,Option.isSome_some]
  ·rw[oO e,decide_eq_false e,Bool.false_or];exact zk k r
theorem lM(kvs:List (κ×V))(k:κ)(v:V):(putK kvs k v).length<=kvs.length+1:=by
 unfold putK;split
 ·rw[Û];lia
 ·rw[Ý,Ó,ď];lia
theorem rR.jL(r:rR o u):o.isSome=u.isSome:=by
 cases o with
 |none=>cases u with
  |none=>rfl
  |some _=>exact(show False from r).elim
 |some _=>cases u with
  |none=>exact(show False from r).elim
  |some _=>rfl
theorem rR.getD{d:V}(r:rR o u)(c:RelV d d'):RelV (o.getD d) (u.getD d'):=by
 cases o with
 |none=>cases u with
  |none=>exact c
  |some _=>exact(show False from r).elim
 |some _=>cases u with
  |none=>exact(show False from r).elim
  |some _=>exact r
theorem KV.val{kvs:List (κ×V)}{vs:List (κ×Å)}(r:KV kvs vs)(k:κ):rR (nI kvs k) (valueAt vs k):=by
 unfold KV at r
 induction r with
 |nil=>exact ů
 |@cons p q l c h t i=>
  obtain⟨g,j⟩:=h;by_cases e:p.1=k
  ·have d:q.1=k:=g.symm.trans e;have b:valueAt (q::c) k=À q.2:=by simp[valueAt,Ś,d]
   rw[sS e,b];exact j
  ·have d:¬ q.1=k:=λz=>e (g.trans z);have b:valueAt (q::c) k=valueAt c k:=by simp[valueAt,Ś,d]
   rw[oO e,b];exact i
theorem KV.any{kvs:List (κ×V)}{vs:List (κ×Å)}(r:KV kvs vs)(k:κ):(kvs.any λc=>decide (c.1=k))=vs.any λc=>decide (c.1=k):=by
 unfold KV at r
 induction r with
 |nil=>rfl
 |cons h t i=>rw[aaW,aaW,i,h.1]
theorem KV.repl{kvs:List (κ×V)}{vs:List (κ×Å)}(r:KV kvs vs)(k:κ){y:V}{u:Å}(j:RelV y u):
  KV (kvs.map λc=>if c.1=k then (c.1,y) else c) (vs.map λc=>if c.1=k then (c.1,u) else c):=by
 unfold KV at r |-
 induction r with
 |nil=>exact .nil
 |@cons p q m l h t i=>
  rw[Ï,Ï];refine .cons ?_ i;obtain⟨d,g⟩:=h;by_cases e:p.1=k
  ·rw[Α e,Α (d.symm.trans e)];exact⟨d,j⟩
  ·rw[Β e,Β (λz=>e (d.trans z))];exact⟨d,g⟩
theorem KV.put{kvs:List (κ×V)}{vs:List (κ×Å)}(r:KV kvs vs)(k:κ){y:V}{u:Å}(c:RelV y u):KV (putK kvs k y) (stored vs k u):=by
 unfold putK stored;rw[r.any k];by_cases e:(vs.any λd=>decide (d.1=k))=Ã
 ·rw[Α e,Α e];exact r.repl k c
 ·rw[Β e,Β e];exact Paired.snoc r ⟨rfl,c⟩
theorem KV.length{kvs:List (κ×V)}{vs:List (κ×Å)}(r:KV kvs vs):kvs.length=vs.length:=aag r
end
theorem vZ{k:Key}{u:Å}(r:RelV (kV k) u):(cC P w).is k u=Ã:=by
 cases k with
 |inl i=>obtain⟨t,e⟩:=(show ∃t,u=Value.int i t from r);kpc_g;exact yZ P w i t
 |inr x=>obtain⟨t,e⟩:=(show ∃t,u=Value.str x t from r);kpc_g;exact y9 P w x t
theorem v5{P:ð}{w:Ć}:∀{ks:List Key}{c:List Å},Vals (ks.map kV) c->ItemsAre (cC P w) ks c
 |[],_,r=>by rw[ĸ]at r;cases r;exact .nil
 |k::ks,_,r=>by
  rw[Ï]at r;cases r with
  |cons h t=>exact .cons (vZ h) (v5 t)
abbrev KT(H:Hp):List (List Key×V)->List (List Key×Addr×Å)->Prop:=Paired λp q=>p.1=q.1/\H q.2.1=À (.tup (p.1.map kV))/\RelV p.2 q.2.2
theorem KT.val(r:KT H kvs xs)(k:List Key):rR (nI kvs k) ((atKey xs k).map (·.2)):=by
 induction r with
 |nil=>exact ů
 |@cons p q l c h t i=>
  obtain⟨g,_,j⟩:=h;by_cases e:p.1=k
  ·have d:q.1=k:=g.symm.trans e;have b:atKey (q::c) k=À q.2:=by simp[atKey,Ś,d]
   rw[sS e,b];exact j
  ·have d:¬ q.1=k:=λz=>e (g.trans z);have b:atKey (q::c) k=atKey c k:=by simp[atKey,Ś,d]
   rw[oO e,b];exact i
theorem KT.repl(r:KT H kvs xs)(k:List Key){y:V}{u:Å}(j:RelV y u):
  KT H (kvs.map λd=>if d.1=k then (d.1,y) else d) (xs.map (putAt k u)):=by
 induction r with
 |nil=>exact .nil
 |@cons p q n m h t i=>
  rw[Ï,Ï];refine .cons ?_ i;obtain⟨c,g,l⟩:=h;unfold putAt;by_cases e:p.1=k
  ·rw[Α e,Α (c.symm.trans e)];exact⟨c,g,j⟩
  ·rw[Β e,Β (λz=>e (c.trans z))];exact⟨c,g,l⟩
theorem KT.put(r:KT H kvs xs)(k:List Key){b:Addr}{y:V}{u:Å}(h:H b=À (.tup (k.map kV)))(c:RelV y u):
  KT H (putK kvs k y) (storedH xs k b u):=by
 have e:(kvs.any λd=>decide (d.1=k))=(atKey xs k).isSome:=by rw[zk,(r.val k).jL,Option.isSome_map]
 unfold putK storedH;rw[e];by_cases q:(atKey xs k).isSome=Ã
 ·rw[Α q,Α q];exact r.repl k c
 ·rw[Β q,Β q];exact Paired.snoc r ⟨rfl,h,c⟩
theorem KT.keeps(r:KT H kvs xs)(h:∀b ys,H b=À (.tup ys)->H' b=À (.tup ys)):KT H' kvs xs:=
 Paired.Sz r λ_ _ z=>⟨z.1,h _ _ z.2.1,z.2.2⟩
section
variable{h:Heap}
theorem N7{u:HO}(c:lF P w H h)(e:Rd H a u):cU P w H h a u:=e.ok c
theorem qY{kvs:List (Key×V)}(c:lF P w H h)(e:Rd H a (.dK kvs)):kvs.length<=Ç/\(a==sysModules)=Ä/\∃vs,KV kvs vs/\h.DictOf (cC P w) a vs:=
 show cU P w H h a (.dK kvs) from N7 c e
theorem Tj{kvs:List (Key×V)}(c:lF P w H h)(e:H a=À (.dK kvs)):kvs.length<=Ç/\(a==sysModules)=Ä/\∃vs,KV kvs vs/\h.DictOf (cC P w) a vs:=qY c (.inl e)
theorem nJ(c:lF P w H h)(e:H a=À (.tup (ks.map kV))):(tupleKind (cC P w)).is h ks a:=by obtain⟨_,its,r,o,d,g,n,i⟩:=(show cU P w H h a (.tup (ks.map kV)) from c a _ e);exact⟨o,its.toArray,n,d,g,i,by simpa using v5 r⟩
theorem qZ(g:lF P w H h)(e:Rd H a (.dT kvs)):kvs.length<=Ç/\(a==sysModules)=Ä /\
  ∃xs,KT H kvs xs/\h.DictOfH (tupleKind (cC P w)) a xs:=by
 obtain⟨z,y,xs,r,o,es,ep,v,n,A,j,B⟩:=(show cU P w H h a (.dT kvs) from N7 g e);refine⟨z,y,xs,r,o,es,ep,v,n,A,j,λx c=>?_,B⟩;have d:∀{l:List (List Key×V)}{m:List (List Key×Addr×Å)},KT H l m->∀x∈m,(tupleKind (cC P w)).is h x.1 x.2.1:=by
  intro l m q
  induction q with
  |nil=>intro x c;exact nomatch c
  |@cons p q D C i t k=>
   intro x c;rcases Ù.mp c with e|c
   ·kpc_g;exact nJ g (by rw[<- i.1];exact i.2.1)
   ·exact k x c
 exact d r x c
theorem N8(c:lF P w H h)(e:H a=À (.dT kvs)):kvs.length<=Ç/\(a==sysModules)=Ä /\
  ∃xs,KT H kvs xs/\h.DictOfH (tupleKind (cC P w)) a xs:=qZ c (.inl e)
end
def BO(H:Hp)(a:Addr)(y:V)(r:Option V):Prop:=
 (∃kvs k,Rd H a (.dK kvs)/\y=kV k/\r=nI kvs k)\/∃kvs k b,Rd H a (.dT kvs)/\y=.ref b/\H b=À (.tup (k.map kV))/\r=nI kvs k
def sU(H:Hp)(a:Addr)(y v:V)(H':Hp):Prop:=
 (∃kvs k,H a=À (.dK kvs)/\y=kV k/\kvs.length<Ç/\H'=upd H a (.dK (putK kvs k v))) \/
 ∃kvs k b,H a=À (.dT kvs)/\y=.ref b/\H b=À (.tup (k.map kV))/\kvs.length<Ç/\H'=upd H a (.dT (putK kvs k v))
theorem sU.k{H:Hp}{a:Addr}{kvs:List (Key×V)}{k:Key}{v:V}(e:H a=À (.dK kvs))(h:kvs.length<Ç):sU H a (kV k) v (upd H a (.dK (putK kvs k v))):=.inl ⟨kvs,k,e,rfl,h,rfl⟩
theorem sU.t{k:List Key}{v:V}(e:H a=À (.dT kvs))(c:H b=À (.tup (k.map kV)))(h:kvs.length<Ç):
  sU H a (.ref b) v (upd H a (.dT (putK kvs k v))):=.inr ⟨kvs,k,b,e,rfl,c,h,rfl⟩
section
variable{y v:V}{u r:Å}{A:Around}{E:Å->Ê->Prop}
theorem Inv.big(I:Inv X pins σ H s):sysModules<s.heap.objs.size:=by have h:mainGlobals<s.heap.objs.size:=(I.mod.glob.keeps I.bk).lt;exact Nat.lt_trans (by decide) h
theorem EJ(C:A.units+1<cLine)(I:Inv X pins σ H s)(g:BO H a y (À v))(t:RelV y u)(h:∀i q,Inv X pins σ H q->RelV v i->Q i q):
  Ú (model X.prog X.w) A (getItem (.ref a) u) Q E s:=by
 rcases g with⟨kvs,k,e,m,l⟩|⟨kvs,k,b,e,m,B,l⟩
 ·subst m;obtain⟨z,D,vs,c,dd⟩:=qY I.hok e;obtain⟨i,n,d⟩:=rR.some_of (v:=v) (o:=valueAt vs k) (by rw[l];exact c.val k);exact wpAny_getItem_of (vZ t) dd.mapOf n (h i _ (I.tok _) d)
 ·subst m;cases (show u=Value.ref b from t);obtain⟨z,D,xs,c,dd⟩:=qZ I.hok e;obtain⟨i,n,d⟩:=rR.some_of (v:=v) (o:=(atKey xs k).map (·.2)) (by rw[l];exact c.val k);obtain⟨p,F,j⟩:=Option.map_eq_some_iff.mp n;refine wpAny_getItem_heap (tupleKind_room_in1 C) (nJ I.hok B) dd F ?_;rw[j];exact h i _ (I.tok _) d
theorem WC(p:A.units+1<cLine)(I:Inv X pins σ H s)(g:BO H a y o)(m:RelV y u)(h:∀j,Inv X pins σ H j->Q (.bool o.isSome) j):
  Ú (model X.prog X.w) A (compareOp .In u (.ref a)) Q E s:=by
 rcases g with⟨kvs,k,e,d,l⟩|⟨kvs,k,b,e,d,n,l⟩
 ·subst d;obtain⟨z,i,vs,c,dd⟩:=qY I.hok e;refine wpAny_in_of (vZ m) i dd.mapOf ?_;rw[<- (c.val k).jL,<- l];exact h _ (I.tok _)
 ·subst d;cases (show u=Value.ref b from m);obtain⟨z,i,xs,c,dd⟩:=qZ I.hok e;refine wpAny_in_heap (tupleKind_room_in1 p) (nJ I.hok n) i dd ?_;have q:=(c.val k).jL;rw[Option.isSome_map]at q;rw[<- q,<- l];exact h _ (I.tok _)
theorem LR(p:A.units+1<cLine)(I:Inv X pins σ H s)(g:BO H a y o)(m:RelV y u)(h:∀j,Inv X pins σ H j->Q (.bool (!o.isSome)) j):
  Ú (model X.prog X.w) A (compareOp .NotIn u (.ref a)) Q E s:=by
 rcases g with⟨kvs,k,e,d,l⟩|⟨kvs,k,b,e,d,n,l⟩
 ·subst d;obtain⟨z,i,vs,c,dd⟩:=qY I.hok e;refine wpAny_notIn_of (vZ m) i dd.mapOf ?_;rw[<- (c.val k).jL,<- l];exact h _ (I.tok _)
 ·subst d;cases (show u=Value.ref b from m);obtain⟨z,i,xs,c,dd⟩:=qZ I.hok e;refine wpAny_notIn_heap (tupleKind_room_in1 p) (nJ I.hok n) i dd ?_;have q:=(c.val k).jL;rw[Option.isSome_map]at q;rw[<- q,<- l];exact h _ (I.tok _)
theorem xO{ob:HO}(I:Inv X pins σ H s)(m:SA (H a))(d:Į a s.heap h')(c:∃q,h'.get? a=À q)(n:cU X.prog X.w (upd H a ob) h' a ob)(g:0<t':=by accm_mu):
  Inv X pins σ (upd H a ob) {s with heap:=h',toks:=t'}:=
 I.write (x:=a) (e:=a) m (.inl rfl) (λb q h z=>(d.2 b h).trans z) c n
theorem Pz{kvs:List (Key×V)}(z:kvs.length<=Ç)(h:(a==sysModules)=Ä)(c:KV kvs vs)(dd:h'.DictOf (cC P w) a vs):
  cU P w H' h' a (.dK kvs):=⟨z,h,vs,c,dd⟩
theorem EK{Q:Unit->Ê->Prop}(N:A.units+1<cLine)(I:Inv X pins σ H s)(g:sU H a y v H')(B:RelV y u)(D:RelV v r)(h:∀F,Inv X pins σ H' F->Q () F):
  Ú (model X.prog X.w) A (setItem (.ref a) u r) Q E s:=by
 rcases g with⟨kvs,k,e,p,l,t⟩|⟨kvs,k,b,e,p,G,l,t⟩
 ·subst p t;obtain⟨z,m,vs,d,dd⟩:=Tj I.hok e;have hz:vs.length<=Ç:=by rw[<- d.length];exact z
  have j:(putK kvs k v).length<=Ç:=by have:=lM kvs k v;lia
  refine wpAny_setItem_pairs (hsz:=hz) (vZ B) dd λh' R n=>h _ ?_;have K:∃q,h'.get? a=À q:=let ⟨q,_,_,i,_⟩:=R;⟨q,i⟩
  exact xO I (by rw[e];exact ů) n K (Pz j m (d.put k D) R)
 ·subst p t;cases (show u=Value.ref b from B);obtain⟨z,m,xs,d,dd⟩:=N8 I.hok e;have hz:xs.length<=Ç:=by rw[<- aag d];exact z
  have j:(putK kvs k v).length<=Ç:=by have:=lM kvs k v;lia
  refine wpAny_setItem_heap (hsz:=hz) (tupleKind_room_in1 N) (nJ I.hok G) dd λh' R n=>h _ ?_;obtain⟨q,es,ep,i,J,L,M,_,O⟩:=R;refine xO I (by rw[e];exact ů) n ⟨q,i⟩ ⟨j,m,_,(d.put k G D).keeps λc ys C=>?_,q,es,ep,i,J,L,M,O⟩;rw[aI (d8 C e (λz=>nomatch z))];exact C
end
def Hx(i:Expr):Prop:=∀d c,subscripted i Ä d c=operate [d,c] (getItem d c)
theorem LS{prog:ð}{w:Ć}{A:Around}{E:Å->Ê->Prop}{s:Ê}{env:Env}{v c:Expr}{pos:Pos}{T id:String}{Q:Å->Ê->Prop}
  (p:typeLookup (.type T) "__getitem__"=pure (À (.builtin id))) (q:Hx c)
  (h:Ú (model prog w) A (eval v env) (λo j=>Ú (model prog w) A (eval c env) (λi d=>d.TypeIs o T/\Ú (model prog w) A (getItem o i) Q E d) E j) E s):
  Ú (model prog w) A (eval (.Subscript v c pos) env) Q E s:=by
 refine Subscript_ (Ă h (λo j m=>Ă m (λi d e=>?_) λ_ _ x=>x) λ_ _ x=>x);obtain⟨n,e⟩:=e;unfold subscriptTail;k_get;rw[getitemInPython_of_ne n.not_modules];refine Á (abf n p ?_);have k:Ú (model prog w) A (subscripted c Ä o i) (λr g=>Ú (model prog w) A (letTemporaryGo v o r >>= λ_=>pure r) Q E g) E d:=by rw[q o i];exact wpAny_operating (Ă e (λr g l=>Á (wpAny_letTemporaryGo (È l))) λ_ _ x=>x)
 first
  |exact È (Á k)
  |exact Á (È (Á k))
  |exact Á k
theorem zl{y:V}(I:Inv X pins σ H s)(g:BO H a y o):s.TypeIs (.ref a) "dict":=by
 rcases g with⟨kvs,k,e,_,_⟩|⟨kvs,k,b,e,_,_,_⟩
 ·obtain⟨_,_,vs,_,dd⟩:=qY I.hok e;exact dd.typeIs
 ·obtain⟨_,_,xs,_,dd⟩:=qZ I.hok e;exact dd.typeIs
def To(t g:TE):TE:=λc H Q=>t c H λx e=>g c e λy d=>∃a v,x=.ref a/\BO d a y (À v)/\Q v d
def oQ(e h t:TE):TS:=λD c H=>t c H λv g=>e c g λx i=>h c i λy j=>∃a d,x=.ref a/\sU j a y v d/\D.nx c d
section
variable{o i e value:Expr}{pos pos' tpos:Pos}{td ty tv:TE}
theorem Dg(p:X.A.units+1<cLine)(z:PE X o td)(n:PE X i ty)(B:Hx i):PE X (.Subscript o i pos) (To td ty):=by kd_p;refine LS PySem.F.slot_dict_getitem.lookup B (dO (z pins s σ H _ I h) λu j ⟨x,C,d,t,q⟩=>dO (n pins j σ C _ d q) λM K E=>?_);obtain⟨y,m,c,D,a,v,G,g,l⟩:=E;subst G;obtain rfl:u=Value.ref a:=t;exact⟨zl c g,EJ p c g D λJ L k r=>⟨v,m,k,r,l⟩⟩
theorem Dh(L:X.A.units+1<cLine)(N:PE X o td)(l:PE X i ty)(M:PE X value tv)(O:swapsWith value (À (.Subscript o i pos')) pos.line X.env=pure Ä):
  PS X (.Assign [.Subscript o i pos'] value pos) (oQ td ty tv):=by
 intro pins s c H D I h;refine wpAny_Assign_Subscript (dO (M pins s c H _ I h) λr G ⟨v,t,E,C,q⟩=>dO (N pins G c t _ E q) λu d ⟨x,J,n,p,k⟩=>dO (l pins d c J _ n k) λV S B=>?_) O;obtain⟨y,U,j,z,a,K,R,g,F⟩:=B;subst R;obtain rfl:u=Value.ref a:=p;exact EK L j g z C λT m=>⟨c,K,m,F⟩
end
theorem Hy(h:Heap)(c:sysModules<h.objs.size):cU P w H (h.push {cls:=.type "dict",data:=.dict #[]}) h.objs.size (.dK []):=
 ⟨ê _,beq_eq_false_iff_ne.mpr (ô (á c)),[],.nil,Heap.DictOf.new h⟩
theorem zm(h:Heap)(c:sysModules<h.objs.size):cU P w H (h.push {cls:=.type "dict",data:=.dict #[]}) h.objs.size (.dT []):=
 ⟨ê _,beq_eq_false_iff_ne.mpr (ô (á c)),[],.nil,_,#[],0,Ð _ rfl,⟨rfl,rfl,rfl⟩,rfl,rfl,acN⟩
def PB:TE:=λ_ H Q=>∀p,H p=Æ->Q (.ref p) (upd H p (.dK []))
def PC:TE:=λ_ H Q=>∀p,H p=Æ->Q (.ref p) (upd H p (.dT []))
section
variable{pos:Pos}
theorem Hz:PE X (.Dict [] [] pos) PB:=λpins s c H Q I h=>
 adG ⟨.ref s.heap.objs.size,_,I.laid (a:=s.heap.objs.size) (o:=.dK []) (t':=s.toks) (λ_ _ q=>É _ q) (Ë _) (Hy s.heap I.big),rfl,h _ (I.hok.fresh (Ë _))⟩
theorem HA:PE X (.Dict [] [] pos) PC:=λpins s c H Q I h=>
 adG ⟨.ref s.heap.objs.size,_,I.laid (a:=s.heap.objs.size) (o:=.dT []) (t':=s.toks) (λ_ _ q=>É _ q) (Ë _) (zm s.heap I.big),rfl,h _ (I.hok.fresh (Ë _))⟩
end
structure M2(X:Cx)(o:Expr)(m:Str)(apos:Pos)(e f:Expr)(cpos:Pos):Prop where
 base:attributeBase o m X.env (eval o X.env)=eval o X.env
 few:((backTo cpos (æ [e,f] X.env)).all (λx=>!x.1)&&(backToKw cpos (keywordEach [] X.env)).all (λx=>x.1.isSome)
  && decide (([e,f]:U2).length+([]:List Keyword).length+(if ([]:List Keyword).isEmpty then 0 else 1)<30))=Ã
 line:(apos.endLine==cpos.line)=Ã
 trees:backTo cpos (æ [e,f] X.env)=[(Ä,eval e X.env),(Ä,eval f X.env)]
def Ys(H:Hp)(a:Addr):Prop:=(∃kvs,Rd H a (.dK kvs))\/∃kvs,Rd H a (.dT kvs)
theorem PF(I:Inv X pins σ H s)(d:Ys H a):
  s.TypeIs (.ref a) "dict"/\(∀b,Value.ref a=.ref b->∃ob,s.heap.get? b=À ob/\ob.dict=Æ)/\(a==sysModules)=Ä:=by
 rcases d with⟨kvs,e⟩|⟨kvs,e⟩
 ·obtain⟨_,g,vs,_,dd⟩:=qY I.hok e;refine⟨dd.typeIs,λb q=>?_,g⟩;o_rec;obtain⟨ob,_,_,c,h,_⟩:=dd;exact⟨ob,c,h.2.1⟩
 ·obtain⟨_,g,xs,_,dd⟩:=qZ I.hok e;refine⟨dd.typeIs,λb q=>?_,g⟩;o_rec;obtain⟨ob,_,_,c,h,_⟩:=dd;exact⟨ob,c,h.2.1⟩
section
variable{y d:V}{u r:Å}{A:Around}{E:Å->Ê->Prop}
theorem PJ(v:A.units+1<cLine)(I:Inv X pins σ H s)(g:BO H a y o)(q:RelV y u)(p:RelV d r)(h:∀m n,Inv X pins σ H n->RelV (o.getD d) m->Q m n):
  Ú (model X.prog X.w) A (call (.builtin "dict.get") [.ref a,u,r]) Q E s:=by
 rcases g with⟨kvs,k,e,i,l⟩|⟨kvs,k,b,e,i,t,l⟩
 ·subst i;obtain⟨z,j,vs,c,dd⟩:=qY I.hok e;refine call_meetsIn aaQ dd.typeIs acr (acf _ _ _) (meets_dict_get_default (cC X.prog X.w) a (vZ q) j r) ⟨_,dd.mapOf,h _ _ (I.tok _) ?_⟩;rw[l];exact(c.val k).getD p
 ·subst i;cases (show u=Value.ref b from q);obtain⟨z,j,xs,c,dd⟩:=qZ I.hok e;refine call_meetsIn aaQ dd.typeIs acr (acf _ _ _) (meetsH_dict_get_default (tupleKind (cC X.prog X.w)) a b j r) ⟨tupleKind_room_in1 v,k,xs,nJ I.hok t,dd,h _ _ (I.tok _) ?_⟩;rw[l];exact(c.val k).getD p
end
def PK(t h i:TE):TE:=λc H Q=>t c H λx d=>∃a,x=.ref a/\Ys d a/\h c d λy g=>i c g λz e=>∃o,BO e a y o/\Q (o.getD z) e
section
variable{o e f:Expr}{apos cpos:Pos}{td ty tx:TE}
theorem HB(R:X.A.units+1<cLine)(S:PE X o td)(D:PE X e ty)(M:PE X f tx)(m:M2 X o "get" apos e f cpos):PE X (.Call (.Attribute o "get" apos) [e,f] [] cpos) (PK td ty tx):=by
 kd_p;refine wpAny_Call_method m.base m.few m.line PySem.F.plainAttrs_dict aaQ PySem.F.type_dict_get (dO (S pins s σ H _ I h) λu K E=>?_);obtain⟨x,B,c,v,a,p,d,q⟩:=E;subst p;obtain rfl:u=Value.ref a:=v;obtain⟨J,t,_⟩:=PF c d;refine⟨J,t,?_⟩;rw[m.trees];refine aaH rfl (aa4 (aar (dO (D pins K σ B _ c q) λW i ⟨y,L,n,C,k⟩=>
  aar (dO (M pins i σ L _ n k) λY U ⟨z,N,j,O,Z,g,G⟩=>abX ?_))))
 exact PJ R j g C O λT V l r=>⟨_,N,l,r,G⟩
end
end
end L2
set_option genInjectivity true
namespace L3
noncomputable section
open PySem PySem.Spec L2
variable{mg:Str->Option Å}{K:Ì}{ρ ρ0 ρ' ch as:Q1}{H H0 H':Hp}{pins pn fh:N0}{es:U2}{σ σ0:L2.St}{i n ep j nn src fu:Nat}{e tg c:Expr}{E Q E':Å->Ê->Prop}{s s1:Ê}{xs vs vm:X1}{a l it C l2 l1 i2 i1 z gl bi:Addr}{x y b qual n0 name:Str}{p:List Å->Prop}{items ys ws its:Array Å}{body suite orelse els:List Stmt}{u:List (List Key×V)}{w:Ć}{P prog q:ð}{cl:List (Str×Addr)}{Dd D':Ends}{ks:L9}{A A':Around}{h h' base B:Heap}{X:Cx}{N ps loose ns ss' ss:P3}{XP:(Str->Option Å)->Heap->Prop}{o oe:Obj}{fd:FuncData}{spos py px pos pz pc p2 np cpos:Pos}{tp t2 t1 b0:Bool}{sc scope Vv:Scope}{op op':CmpOp}{od func an:Option Addr}{sl osl:Array (Option Å)}{gens:List Comprehension}{a0 oc cv cdv pm fl doc dV ct code c0:Å}{v:V}{gv:Int->Int->V}{qs:List PyData}{run:Å->List Å->Sem Å}{env env':Env}{YP:Ć->Heap->Prop}{rest hs:List ExceptHandler}{Q':Bool->Hp->Prop}{W:List (Option Str)}{kwd:List (Str×Expr)}{own:List (Option V)}{h0:ExceptHandler}{t':TT}{ob:HO}{lo hi:Option Expr}{us args:List Å}{outer:List Env}{M':Model}{κ α:Type}
structure xP where
 name:Str
 qual:Str
 params:Arguments
 body:FuncBody
 scope:Scope
 pos:Pos
 names:P3
noncomputable def freeNames(d:Scope):P3:=((d.names.filter λq=>q.2==.free).map (·.1)).reverse
def oR(q:Str):List Stmt->Option xP
 |.FunctionDef name f body _ _ _ d _ _ pos::_=>À ⟨name,q++".<locals>."++name,f,.stmts body,d,pos,freeNames d⟩
 |.Assign [_] (.Call _ es _ _) _::r=>match es.getLast? with
  |some (.Lambda f body d pos)=>À ⟨"<lambda>",q++".<locals>."++"<lambda>",f,.expr body,d,pos,freeNames d⟩
  |_=>oR q r
 |.Return (À (.Call _ es _ _)) _::r=>match es.getLast? with
  |some (.Lambda f body d pos)=>À ⟨"<lambda>",q++".<locals>."++"<lambda>",f,.expr body,d,pos,freeNames d⟩
  |_=>oR q r
 |_::r=>oR q r
 |[]=>Æ
def N9(K:Ì)(m:Str->Option Å)(y:Str):Option xP:=match m y with
 |some (.ref f)=>(match K.lookup f with
  |some ⟨_,_,.func d,_⟩=>(match d.body with
   |.stmts b=>oR d.qualname b
   |_=>Æ)
  |_=>Æ)
 |_=>Æ
inductive D where
 |bD|bl (b:Bool)|int (i:Int)|str (x:Str)|tup (xs:List D)|con (xs:List D)|obj (n:Nat)|fn (x:Str)|EL (cls:Str) (args:List D)|EN (y:Str) (caps:List D)
abbrev X2:=List D
abbrev X9:=Option D
abbrev Y1:=List (Key×D)
variable{ds os acc zs ds':X2}{gO:D->Option X2}{kvs:List (List Key×D)}
inductive DO where
 |lst (xs:X2)
 |dead
 |dct (kvs:Y1)
 |tab (y:Str)
 |aO (fz:Bool) (kvs:List (List Key×D))
 |R8 (kvs:Y1)
 |ins (c:Str) (fs:List (Str×D))
abbrev DH:=List DO
variable{G G0 G':DH}
abbrev DS:=List X9
variable{τ τ1:DS}
inductive XD where
 |mk (cls:Str) (args:X2)
inductive Out(α:Type) where
 |stuck
 |ok (a:α) (G:DH)
 |bP (c:XD) (G:DH)
abbrev M(d:Type):=DH->Out d
variable{m r:DS->M X2}{f:D->D->M D}{mo te mv mi me:DS->M D}{tt:DS->M Bool}{ml:DS->M (Option Int)}{mf:X2->M D}
noncomputable def M.bind{g d:Type}(m:M g)(k:g->M d):M d:=λG=>match m G with
 |.stuck=>.stuck
 |.ok a G'=>k a G'
 |.bP c G'=>.bP c G'
noncomputable def M.ret{d:Type}(a:d):M d:=λG=>.ok a G
abbrev Y2:=DS->M D
noncomputable def M.stop{d:Type}:M d:=λ_=>.stuck
def xQ(H:Hp)(a:Addr)(xs:X1):Prop:=H a=À (.tup xs)
theorem xQ.of(h:H a=À (.tup xs)):xQ H a xs:=h
theorem xQ.t(h:xQ H a xs):m8 K H a xs:=.inl (.inl h)
instance {K:Ì} {H:Hp} {a:Addr} {xs:X1}:Coe (xQ H a xs) (m8 K H a xs):=⟨xQ.t⟩
def R9(K:Ì)(H:Hp)(a:Addr)(xs:X1):Prop:=
 (∃o,H a=À (.eB o (.lst xs))) \/
  ∃(o:Obj)(its:Array Å)(n:Nat),K.lookup a=À o/\o.cls=.type "list"/\o.dict=Æ/\o.data=.seq its n/\its.size<=Ç/\Vals xs its.toList
theorem R9.seq(h:R9 K H a xs):ko K H a xs:=by
 rcases h with⟨o,h⟩|h
 ·exact .inl (.inr ⟨o,h⟩)
 ·exact .inr h
def Tp(a:Addr)(d:Å):Heap->Prop:=λh=>∃o vs,h.get? a=À o/\o.cls=d/\o.data=.fields vs/\o.dict=Æ
noncomputable abbrev Tq(k:xP)(cs:Q1)(doc pm:Å)(c:Addr)(ctv:Å):FuncData:=
 {name:=k.name,qualname:=k.qual,params:=k.params,body:=k.body,scope:=k.scope,globals:=mainGlobals,closure:=k.names.zip cs,defaults:=.none,kwdefaults:=.none,doc,pyModule:=pm,annotations:=Æ,code:=.ref c,closureTuple:=ctv,builtins:=builtinsNs}
abbrev PL(k:xP)(cs:Q1)(doc pm:Å)(c:Addr)(ctv:Å):Obj:={cls:=.type "function",data:=.func (Tq k cs doc pm c ctv)}
def PM(H:Hp)(a:Addr)(o:Obj):Prop:=H a=À (.eB o (.own 0))
def sV(H:Hp)(c:Addr)(d:Str):Prop:=∃(g:Obj)(vs:Array Å)(t:Tok),PM H c g/\g.data=.fields vs/\vs[1]?=À (.str d t)
def Di(H:Hp)(k:xP)(a:Addr)(t:Q1):Prop:=t.length=k.names.length/\t.Nodup/\∃(d D g:Å)(c:Addr),PM H a (PL k t d D c g)/\sV H c k.qual
def oS(H:Hp):Q1->X1->Prop
 |[],xs=>xs=[]
 |c::d,xs=>∃(x:V)(r:X1)(o:Obj)(u:Å),xs=x::r/\PM H c o/\o.data=.cell (À u)/\RelV x u/\oS H d r
mutual
def Rep(K:Ì)(d:Str->Option Å)(ρ:Q1)(H:Hp):D->V->Prop
 |.bD,v=>v=.bD
 |.bl b,v=>v=.bl b
 |.int i,v=>v=.int i
 |.str x,v=>v=.str x
 |.tup ds,v=>∃a xs,v=.ref a/\xQ H a xs/\ao K d ρ H ds xs
 |.con ds,v=>∃a xs,v=.ref a/\R9 K H a xs/\ao K d ρ H ds xs
 |.obj n,v=>∃a,v=.ref a/\ρ[n]?=À a
 |.fn x,v=>∃a,v=.ref a/\d x=À (.ref a)
 |.EL c _,v=>∃a g,v=.ref a/\d c=À g/\H a=À (.ext (Tp a g))
 |.EN y ds,v=>∃k a t xs,v=.ref a/\N9 K d y=À k/\Di H k a t/\oS H t xs/\ao K d ρ H ds xs
def ao(K:Ì)(g:Str->Option Å)(ρ:Q1)(H:Hp):X2->X1->Prop
 |[],vs=>vs=[]
 |d::ds,vs=>∃v r,vs=v::r/\Rep K g ρ H d v/\ao K g ρ H ds r
end
theorem sV.mono{c:Addr}{q:Str}(h:sV H c q)(f:∀a o u,H a=À (.eB o u)->H' a=À (.eB o u)):sV H' c q:=by obtain⟨d,vs,t,e,r⟩:=h;exact⟨d,vs,t,f _ _ _ e,r⟩
theorem Di.mono{k:xP}{t:Q1}(h:Di H k a t)(f:∀a o u,H a=À (.eB o u)->H' a=À (.eB o u)):Di H' k a t:=by obtain⟨l,n,d,D,g,c,e,r⟩:=h;exact⟨l,n,d,D,g,c,f _ _ _ e,r.mono f⟩
theorem oS.mono(f:∀a o u,H a=À (.eB o u)->H' a=À (.eB o u)):∀{d:Q1}{xs:X1},oS H d xs->oS H' d xs
 |[],xs,h=>h
 |c::d,xs,⟨x,r,o,u,e,k,g,D,t⟩=>⟨x,r,o,u,e,f _ _ _ k,g,D,t.mono f⟩
structure cQ(K:Ì)(H H':Hp)(ρ ρ':Q1):Prop where
 tup:∀a xs,xQ H a xs->xQ H' a xs
 eB:∀a o u,H a=À (.eB o u)->H' a=À (.eB o u)
 pre:∃r,ρ'=ρ++r
 ext:∀a φ,H a=À (.ext φ)->H' a=À (.ext φ)
section
variable{H1 H2:Hp}{ρ1 ρ2:Q1}
theorem cQ.con(f:cQ K H H' ρ ρ')(a:Addr)(xs:X1)(h:R9 K H a xs):R9 K H' a xs:=by
 rcases h with⟨o,h⟩|h
 ·exact .inl ⟨o,f.eB _ _ _ h⟩
 ·exact .inr h
theorem cQ.refl:cQ K H H ρ ρ:=⟨λ_ _ h=>h,λ_ _ _ h=>h,⟨[],by simp⟩,λ_ _ h=>h⟩
theorem cQ.trans(a:cQ K H H1 ρ ρ1)(b:cQ K H1 H2 ρ1 ρ2):cQ K H H2 ρ ρ2:=by obtain⟨D,k⟩:=a.pre;obtain⟨t,g⟩:=b.pre;exact⟨λx xs h=>b.tup x xs (a.tup x xs h),λx o u h=>b.eB x o u (a.eB x o u h),⟨D++t,by rw[g,k,â]⟩,λx d h=>b.ext x d (a.ext x d h)⟩
theorem cQ.get(f:cQ K H H' ρ ρ'){n:Nat}{a:Addr}(h:ρ[n]?=À a):ρ'[n]?=À a:=by obtain⟨r,e⟩:=f.pre;rw[e,Î (Â.mp h).1];l_fit
mutual
theorem Rep.mono(f:cQ K H H' ρ ρ'):∀(d:D)(v:V),Rep K mg ρ H d v->Rep K mg ρ' H' d v
 |.bD,v,h=>by unfold Rep at h |-;l_fit
 |.bl b,v,h=>by unfold Rep at h |-;l_fit
 |.int i,v,h=>by unfold Rep at h |-;l_fit
 |.str x,v,h=>by unfold Rep at h |-;l_fit
 |.tup ds,v,h=>by unfold Rep at h |-;obtain⟨a,xs,e,s,r⟩:=h;exact⟨a,xs,e,f.tup _ _ s,ao.mono f ds xs r⟩
 |.con ds,v,h=>by unfold Rep at h |-;obtain⟨a,xs,e,s,r⟩:=h;exact⟨a,xs,e,f.con _ _ s,ao.mono f ds xs r⟩
 |.obj n,v,h=>by unfold Rep at h |-;obtain⟨a,e,r⟩:=h;exact⟨a,e,f.get r⟩
 |.fn x,v,h=>by unfold Rep at h |-;l_fit
 |.EL c M,v,h=>by unfold Rep at h |-;obtain⟨a,g,e,m,r⟩:=h;exact⟨a,g,e,m,f.ext _ _ r⟩
 |.EN k ds,v,h=>by unfold Rep at h |-;obtain⟨k,a,t,xs,e,L,I,F,J⟩:=h;exact⟨k,a,t,xs,e,L,I.mono f.eB,F.mono f.eB,ao.mono f ds xs J⟩
theorem ao.mono(f:cQ K H H' ρ ρ'):∀(ds:X2)(vs:X1),ao K mg ρ H ds vs->ao K mg ρ' H' ds vs
 |[],vs,h=>by unfold ao at h |-;l_fit
 |d::ds,vs,h=>by unfold ao at h |-;obtain⟨v,r,e,k,g⟩:=h;exact⟨v,r,e,Rep.mono f d v k,ao.mono f ds r g⟩
end
theorem ao.length:∀{ds:X2}{vs:X1},ao K mg ρ H ds vs->ds.length=vs.length
 |[],vs,h=>by unfold ao at h;subst h;rfl
 |d::ds,vs,h=>by unfold ao at h;obtain⟨v,r,rfl,_,g⟩:=h;simp[ao.length g]
theorem ao.nil:ao K mg ρ H [] []:=by unfold ao;rfl
theorem ao.cons{d:D}{v:V}{ds:X2}{vs:X1}(h:Rep K mg ρ H d v)(t:ao K mg ρ H ds vs):ao K mg ρ H (d::ds) (v::vs):=by unfold ao;exact⟨v,vs,rfl,h,t⟩
theorem ao.get:∀{ds:X2}{vs:X1}{i:Nat}{d:D},ao K mg ρ H ds vs->ds[i]?=À d->∃v,vs[i]?=À v/\Rep K mg ρ H d v
 |[],vs,i,d,h,e=>by simp at e
 |x::ds,vs,0,d,h,e=>by unfold ao at h;obtain⟨v,r,rfl,k,_⟩:=h;simp at e;kpc_g;exact⟨v,rfl,k⟩
 |x::ds,vs,i+1,d,h,e=>by unfold ao at h;obtain⟨v,r,rfl,_,g⟩:=h;obtain⟨u,t,F⟩:=ao.get (i:=i) (d:=d) g ‹e›;exact⟨u,‹t›,F⟩
theorem ao.append:∀{ds es:X2}{vs g:X1},ao K mg ρ H ds vs->ao K mg ρ H es g->ao K mg ρ H (ds++es) (vs++g)
 |[],es,vs,g,h,h'=>by unfold ao at h;subst h;exact h'
 |d::ds,es,vs,g,h,h'=>by unfold ao at h;obtain⟨v,r,rfl,t,k⟩:=h;exact .cons t (ao.append k h')
theorem ao.take:∀(n:Nat){ds:X2}{vs:X1},ao K mg ρ H ds vs->ao K mg ρ H (ds.take n) (vs.take n)
 |0,_,_,_=>by simpa using ao.nil
 |n+1,[],vs,h=>by unfold ao at h;subst h;simpa using ao.nil
 |n+1,d::ds,vs,h=>by unfold ao at h;obtain⟨v,r,rfl,k,g⟩:=h;exact .cons k (ao.take n g)
theorem ao.drop:∀(n:Nat){ds:X2}{vs:X1},ao K mg ρ H ds vs->ao K mg ρ H (ds.drop n) (vs.drop n)
 |0,_,_,h=>by simpa using h
 |n+1,[],vs,h=>by unfold ao at h;subst h;simpa using ao.nil
 |n+1,d::ds,vs,h=>by unfold ao at h;obtain⟨v,r,rfl,k,g⟩:=h;simpa using ao.drop n g
theorem ao.set{x:D}{y:V}(t:Rep K mg ρ H x y):∀(n:Nat){ds:X2}{vs:X1},ao K mg ρ H ds vs->ao K mg ρ H (ds.set n x) (vs.set n y)
 |_,[],vs,h=>by unfold ao at h;subst h;simpa using ao.nil
 |0,d::ds,vs,h=>by unfold ao at h;obtain⟨v,r,rfl,k,g⟩:=h;exact .cons t g
 |n+1,d::ds,vs,h=>by unfold ao at h;obtain⟨v,r,rfl,k,g⟩:=h;exact .cons k (ao.set t n g)
theorem ao.ints:∀(d:D2),ao K mg ρ H (d.map D.int) (d.map V.int)
 |[]=>.nil
 |n::d=>.cons (by unfold Rep;rfl) (ao.ints d)
end
def LU(K:Ì)(d:Str->Option Å)(ρ:Q1)(H:Hp)(a:Addr):DO->Prop
 |.lst ds=>∃xs,H a=À (.lst xs)/\ao K d ρ H ds xs
 |.dead=>∃o,H a=À o
 |.dct kvs=>∃xs,H a=À (.dK ((kvs.map (·.1)).zip xs))/\ao K d ρ H (kvs.map (·.2)) xs
 |.tab y=>∃(g:Array Å)(c:Addr)(k:xP),H a=À (.oB g)/\PySem.W.tabIn K y=À (c,a)/\N9 K d y=À k/\(g=#[]\/∃D,g=#[PySem.rawInt k.pos.line,PySem.rawInt k.pos.col,.ref D]/\sV H D k.qual)
 |.aO F kvs=>∃xs,(if F=Ã then ∃o,H a=À (.eB o (.dT ((kvs.map (·.1)).zip xs))) else H a=À (.dT ((kvs.map (·.1)).zip xs)))/\ao K d ρ H (kvs.map (·.2)) xs
 |.R8 kvs=>∃xs,(∃o,H a=À (.eB o (.dK ((kvs.map (·.1)).zip xs))))/\ao K d ρ H (kvs.map (·.2)) xs
 |.ins c t=>∃C I xs,d c=À (.ref C)/\H a=À (.ins C I ((t.map (·.1)).zip xs))/\ao K d ρ H (t.map (·.2)) xs
structure fE(K:Ì)(mg:Str->Option Å)(H:Hp)(ρ:Q1)(G:DH):Prop where
 hl:ρ.length=G.length
 nd:ρ.Nodup
 ob:∀(n:Nat)(o:DO),G[n]?=À o->∃a,ρ[n]?=À a/\LU K mg ρ H a o
def vg(K:Ì)(k:Str->Option Å)(H:Hp)(ρ:Q1)(g:St)(τ:DS):Prop:=
 g.length=τ.length/\∀(i:Nat)(d:D),τ[i]?=À (À d)->∃v,g[i]?=À (À v)/\Rep K k ρ H d v
structure Ab(K:Ì)(mg:Str->Option Å)(σ:St)(H:Hp)(τ:DS)(ρ:Q1)(G:DH):Prop where
 st:vg K mg H ρ σ τ
 hp:fE K mg H ρ G
section
variable{H1 H2:Hp}{ρ1 ρ2:Q1}
theorem vg.mono(f:cQ K H H' ρ ρ')(h:vg K mg H ρ σ τ):vg K mg H' ρ' σ τ:=⟨h.1,λi d e=>by obtain⟨v,g,r⟩:=h.2 i d e;exact⟨v,g,r.mono f⟩⟩
theorem vg.set{d:D}(h:vg K mg H ρ σ τ)(r:Rep K mg ρ H d v):vg K mg H ρ (σ.set i (À v)) (τ.set i (À d)):=by
 refine⟨by simp[h.1],λj e g=>?_⟩;by_cases k:i=j
 ·subst k;rw[ñ]at g;by_cases t:i<τ.length
  ·rw[Α rfl,Α t]at g;cases g;exact⟨v,by rw[ñ,Α rfl,Α (by rw[h.1];exact t)],r⟩
  ·rw[Α rfl,Β t]at g;cases g
 ·rw[Ô k]at g;obtain⟨u,F,I⟩:=h.2 j e g;exact⟨u,by rw[Ô k];exact F,I⟩
theorem Ab.fut(ab:Ab K mg σ H τ ρ G)(f:cQ K H H' ρ ρ')(d:fE K mg H' ρ' G'):Ab K mg σ H' τ ρ' G':=⟨ab.st.mono f,d⟩
theorem fE.lst(h:fE K mg H ρ G)(e:G[n]?=À (.lst ds)):∃a xs,ρ[n]?=À a/\H a=À (.lst xs)/\ao K mg ρ H ds xs:=by obtain⟨a,d,xs,g,r⟩:=h.ob n _ e;exact⟨a,xs,d,g,r⟩
theorem fE.there(h:fE K mg H ρ G)(e:ρ[n]?=À a):∃o,H a=À o:=by
 have F:n<G.length:=by rw[<- h.hl];exact(Â.mp e).1
 obtain⟨J,e1,r⟩:=h.ob n G[n] (Í F);rw[e]at e1;cases e1;cases hg:G[n]with
 |lst xs=>rw[hg]at r;obtain⟨ys,d,_⟩:=r;exact⟨_,d⟩
 |dead=>rw[hg]at r;exact r
 |dct g=>rw[hg]at r;obtain⟨ys,d,_⟩:=r;exact⟨_,d⟩
 |tab t=>rw[hg]at r;obtain⟨M,c,k,d,_⟩:=r;exact⟨_,d⟩
 |aO D g=>
  rw[hg]at r;obtain⟨ys,d,_⟩:=r;cases D
  ·exact⟨_,d⟩
  ·obtain⟨o,d⟩:=d;exact⟨_,d⟩
 |R8 g=>rw[hg]at r;obtain⟨ys,⟨o,d⟩,_⟩:=r;exact⟨_,d⟩
 |ins c I=>rw[hg]at r;obtain⟨C,L,xs,_,d,_⟩:=r;exact⟨_,d⟩
theorem fE.not_mem{p:Addr}(h:fE K mg H ρ G)(g:H p=Æ):p∉ρ:=λd=>by obtain⟨n,k,e⟩:=Ļ d;obtain⟨o,q⟩:=h.there (n:=n) (a:=p) (by rw[Í k,e]);rw[g]at q;cases q
theorem LU.mono{o:DO}(f:cQ K H H' ρ ρ')(d:∀u,H a=À u->H' a=À u)(h:LU K mg ρ H a o):LU K mg ρ' H' a o:=by
 cases o with
 |lst ds=>obtain⟨xs,e,r⟩:=h;exact⟨xs,d _ e,r.mono f⟩
 |dead=>obtain⟨o,e⟩:=h;exact⟨o,d _ e⟩
 |dct g=>obtain⟨xs,e,r⟩:=h;exact⟨xs,d _ e,r.mono f⟩
 |tab t=>obtain⟨M,c,k,e,q,D,r⟩:=h;exact⟨M,c,k,d _ e,q,D,r.imp id λL=>by obtain⟨J,e,z⟩:=L;exact⟨J,e,z.mono f.eB⟩⟩
 |aO F g=>
  obtain⟨xs,e,r⟩:=h;refine⟨xs,?_,r.mono f⟩;cases F
  ·exact d _ e
  ·obtain⟨o,e⟩:=e;exact⟨o,d _ e⟩
 |R8 g=>obtain⟨xs,⟨o,e⟩,r⟩:=h;exact⟨xs,⟨o,d _ e⟩,r.mono f⟩
 |ins c O=>obtain⟨C,I,xs,m,e,r⟩:=h;exact⟨C,I,xs,m,d _ e,r.mono f⟩
theorem cJ{p:Addr}{o:HO}(d:H p=Æ)(ρ:Q1):cQ K H (upd H p o) ρ ρ:=by
 refine⟨λa xs h=>?_,λa q u h=>by rw[aI (cO h d)];exact h,⟨[],by simp⟩,λa g h=>by rw[aI (cO h d)];exact h⟩
 ·rw[xQ]at h |-;rw[aI (cO h d)];l_fit
theorem sd{p:Addr}{ys:X1}(d:H p=À (.lst xs))(ρ:Q1):cQ K H (upd H p (.lst ys)) ρ ρ:=by
 refine⟨λa g h=>?_,λa q u h=>by rw[aI (d8 h d (by intro z;cases z))];exact h,⟨[],by simp⟩,λa φ h=>by rw[aI (d8 h d (by intro z;cases z))];exact h⟩
 ·rw[xQ]at h |-;rw[aI (d8 h d (by intro z;cases z))];l_fit
theorem fE.new{p:Addr}{o:HO}(h:fE K mg H ρ G)(d:H p=Æ):fE K mg (upd H p o) ρ G:=
 ⟨h.hl,h.nd,λn ob e=>by obtain⟨a,g,r⟩:=h.ob n ob e;exact⟨a,g,r.mono (cJ d ρ) λu q=>by rw[aI (cO q d)];exact q⟩⟩
theorem aB(l:List α)(a:α):(l++[a])[l.length]?=À a:=by simp
theorem cX(ρ:Q1)(p:Addr):cQ K H H ρ (ρ++[p]):=⟨λ_ _ h=>h,λ_ _ _ h=>h,⟨[p],rfl⟩,λ_ _ h=>h⟩
theorem fE.more{p:Addr}(h:fE K mg H ρ G)(d:H p=Æ)(r:ao K mg ρ H ds xs):fE K mg (upd H p (.lst xs)) (ρ++[p]) (G++[.lst ds]):=by
 have f:cQ K H (upd H p (.lst xs)) ρ (ρ++[p]):=(cJ d ρ).trans (cX ρ p);refine⟨by simp[h.hl],?_,λn ob e=>?_⟩
 ·rw[Đ];refine⟨h.nd,by simp,λa F b I=>?_⟩;have e:b=p:=‹I›
  kpc_g;rintro rfl;exact h.not_mem d F
 ·by_cases J:n<G.length
  ·rw[Î J]at e;obtain⟨a,k,t⟩:=h.ob n ob e;exact⟨a,f.get k,t.mono f λu q=>by rw[aI (cO q d)];exact q⟩
  ·have D:n<(G++[DO.lst ds]).length:=(Â.mp e).1;have g:n=G.length:=by simp at D;lia
   subst g;rw[aB]at e;w_up;refine⟨p,by rw[<- h.hl,aB],xs,bz,r.mono f⟩
theorem fE.put{ds es:X2}{ys:X1}(h:fE K mg H ρ G)(k:ρ[n]?=À a)(D:H a=À (.lst xs))(r:ao K mg ρ H es ys):fE K mg (upd H a (.lst ys)) ρ (G.set n (.lst es)):=by
 have f:cQ K H (upd H a (.lst ys)) ρ ρ:=sd D ρ;refine⟨by simp[h.hl],h.nd,λm ob e=>?_⟩;by_cases d:n=m
 ·subst d;rw[ñ,Α rfl]at e;split at e
  ·w_up;exact⟨a,k,ys,bz,r.mono f⟩
  ·w_up
 ·rw[Ô d]at e;obtain⟨b,g,t⟩:=h.ob m ob e;have J:b≠a:=by rintro rfl;obtain⟨M,I⟩:=Â.mp k;obtain⟨L,F⟩:=Â.mp g;exact d ((ŀ h.nd).mp (I.trans F.symm))
  exact⟨b,g,t.mono f λu q=>by rw[aI J];exact q⟩
end
abbrev bF:=XD->St->Hp->Prop
variable{EE Ii:bF}
section
variable(K:Ì)(mg:Str->Option Å)(EE:bF)
def jK(H:Hp)(g:St)(τ:DS)(ρ:Q1):Out D->VK->Prop
 |.stuck,_=>False
 |.ok d G',Q=>∀v H' ρ',cQ K H H' ρ ρ'->Ab K mg g H' τ ρ' G'->Rep K mg ρ' H' d v->Q v H'
 |.bP c G',_=>∀H' ρ',cQ K H H' ρ ρ'->Ab K mg g H' τ ρ' G'->EE c g H'
def LV(H:Hp)(d:St)(τ:DS)(ρ:Q1):Out Bool->(Bool->Hp->Prop)->Prop
 |.stuck,_=>False
 |.ok b G',Q=>∀H' ρ',cQ K H H' ρ ρ'->Ab K mg d H' τ ρ' G'->Q b H'
 |.bP c G',_=>∀H' ρ',cQ K H H' ρ ρ'->Ab K mg d H' τ ρ' G'->EE c d H'
def Tr(H:Hp)(d:St)(τ:DS)(ρ:Q1):Out X2->(X1->Hp->Prop)->Prop
 |.stuck,_=>False
 |.ok ds G',Q=>∀vs H' ρ',cQ K H H' ρ ρ'->Ab K mg d H' τ ρ' G'->ao K mg ρ' H' ds vs->Q vs H'
 |.bP c G',_=>∀H' ρ',cQ K H H' ρ ρ'->Ab K mg d H' τ ρ' G'->EE c d H'
def cE(m:Y2):TE:=λd H Q=>∃τ ρ G,Ab K mg d H τ ρ G/\jK K mg EE H d τ ρ (m τ G) Q
def liftT(m:DS->M Bool):TT:=λd H Q=>∃τ ρ G,Ab K mg d H τ ρ G/\LV K mg EE H d τ ρ (m τ G) Q
def lN(m:DS->M X2):TA:=λd H Q=>∃τ ρ G,Ab K mg d H τ ρ G/\Tr K mg EE H d τ ρ (m τ G) Q
inductive Res where
 |stuck
 |nx (τ:DS) (G:DH)
 |rt (d:D) (G:DH)
 |bk (τ:DS) (G:DH)
 |ct (τ:DS) (G:DH)
 |xn (c:XD) (τ:DS) (G:DH)
def sW(H:Hp)(ρ:Q1)(D:Ends):Res->Prop
 |.stuck=>False
 |.nx τ G=>∀g H' ρ',cQ K H H' ρ ρ'->Ab K mg g H' τ ρ' G->D.nx g H'
 |.bk τ G=>∀g H' ρ',cQ K H H' ρ ρ'->Ab K mg g H' τ ρ' G->D.bk g H'
 |.ct τ G=>∀g H' ρ',cQ K H H' ρ ρ'->Ab K mg g H' τ ρ' G->D.ct g H'
 |.rt d G=>∀v H' ρ',cQ K H H' ρ ρ'->fE K mg H' ρ' G->Rep K mg ρ' H' d v->D.rt v H'
 |.xn c τ G=>∀g H' ρ',cQ K H H' ρ ρ'->Ab K mg g H' τ ρ' G->EE c g H'
abbrev MS:=DS->DH->Res
def iC(m:MS):TS:=λD d H=>∃τ ρ G,Ab K mg d H τ ρ G/\sW K mg EE H ρ D (m τ G)
end
variable{mh mr:XD->MS}{ms:MS}
section
variable{H1:Hp}{ρ1:Q1}
theorem jK.fut{r:Out D}{Q:VK}(f:cQ K H H1 ρ ρ1)(h:jK K mg EE H σ τ ρ r Q):jK K mg EE H1 σ τ ρ1 r Q:=by
 cases r with
 |stuck=>l_fit
 |ok d G'=>exact λv H' ρ' g=>h v H' ρ' (f.trans g)
 |bP c G'=>exact λH' ρ' g=>h H' ρ' (f.trans g)
theorem LV.fut{r:Out Bool}{Q:Bool->Hp->Prop}(f:cQ K H H1 ρ ρ1)(h:LV K mg EE H σ τ ρ r Q):LV K mg EE H1 σ τ ρ1 r Q:=by
 cases r with
 |stuck=>l_fit
 |ok d G'=>exact λH' ρ' g=>h H' ρ' (f.trans g)
 |bP c G'=>exact λH' ρ' g=>h H' ρ' (f.trans g)
theorem Tr.fut{r:Out X2}{Q:X1->Hp->Prop}(f:cQ K H H1 ρ ρ1)(h:Tr K mg EE H σ τ ρ r Q):Tr K mg EE H1 σ τ ρ1 r Q:=by
 cases r with
 |stuck=>l_fit
 |ok d G'=>exact λv H' ρ' g=>h v H' ρ' (f.trans g)
 |bP c G'=>exact λH' ρ' g=>h H' ρ' (f.trans g)
theorem sW.fut{r:Res}(f:cQ K H H1 ρ ρ1)(h:sW K mg EE H ρ Dd r):sW K mg EE H1 ρ1 Dd r:=by
 cases r with
 |stuck=>l_fit
 |nx τ G=>exact λs H' ρ' g=>h s H' ρ' (f.trans g)
 |bk τ G=>exact λs H' ρ' g=>h s H' ρ' (f.trans g)
 |ct τ G=>exact λs H' ρ' g=>h s H' ρ' (f.trans g)
 |rt d G=>exact λs H' ρ' g=>h s H' ρ' (f.trans g)
 |xn c τ G=>exact λs H' ρ' g=>h s H' ρ' (f.trans g)
theorem kr{m:Y2}{k:DS->D->M D}{Q:VK}(h:cE K mg EE (λτ=>(m τ).bind (k τ)) σ H Q):
  cE K mg EE m σ H λx g=>∃τ ρ G d,Ab K mg σ g τ ρ G/\Rep K mg ρ g d x/\jK K mg EE g σ τ ρ (k τ d G) Q:=by
 x_go;nofun;dsimp only[M.bind]at ok;cases e:m τ G with
 |stuck=>right
 |bP c G'=>right
 |ok d G'=>mg_lt
theorem HC{m:Y2}{k:DS->D->M Bool}{Q:Bool->Hp->Prop}(h:liftT K mg EE (λτ=>(m τ).bind (k τ)) σ H Q):
  cE K mg EE m σ H λx g=>∃τ ρ G d,Ab K mg σ g τ ρ G/\Rep K mg ρ g d x/\LV K mg EE g σ τ ρ (k τ d G) Q:=by
 x_go;nofun;dsimp only[M.bind]at ok;cases e:m τ G with
 |stuck=>right
 |bP c G'=>right
 |ok d G'=>mg_lt
theorem PN{m:DS->M Bool}{k:DS->Bool->M D}{Q:VK}(h:cE K mg EE (λτ=>(m τ).bind (k τ)) σ H Q):
  liftT K mg EE m σ H λb g=>∃τ ρ G,Ab K mg σ g τ ρ G/\jK K mg EE g σ τ ρ (k τ b G) Q:=by
 x_go;nofun;dsimp only[M.bind]at ok;cases e:m τ G with
 |stuck=>right
 |bP c G'=>right
 |ok d G'=>kt_k;exact λH' ρ' f t=>⟨τ,ρ',G',t,ok.fut f⟩
theorem BP{m:DS->M Bool}{k:DS->Bool->M Bool}{Q:Bool->Hp->Prop}(h:liftT K mg EE (λτ=>(m τ).bind (k τ)) σ H Q):
  liftT K mg EE m σ H λb g=>∃τ ρ G,Ab K mg σ g τ ρ G/\LV K mg EE g σ τ ρ (k τ b G) Q:=by
 x_go;nofun;dsimp only[M.bind]at ok;cases e:m τ G with
 |stuck=>right
 |bP c G'=>right
 |ok d G'=>kt_k;exact λH' ρ' f t=>⟨τ,ρ',G',t,ok.fut f⟩
theorem PR{m:Y2}{k:DS->D->M X2}{Q:X1->Hp->Prop}(h:lN K mg EE (λτ=>(m τ).bind (k τ)) σ H Q):
  cE K mg EE m σ H λx g=>∃τ ρ G d,Ab K mg σ g τ ρ G/\Rep K mg ρ g d x/\Tr K mg EE g σ τ ρ (k τ d G) Q:=by
 x_go;nofun;dsimp only[M.bind]at ok;cases e:m τ G with
 |stuck=>right
 |bP c G'=>right
 |ok d G'=>mg_lt
theorem qy{k:DS->X2->M D}{Q:VK}(h:cE K mg EE (λτ=>(m τ).bind (k τ)) σ H Q):
  lN K mg EE m σ H λx g=>∃τ ρ G d,Ab K mg σ g τ ρ G/\ao K mg ρ g d x/\jK K mg EE g σ τ ρ (k τ d G) Q:=by
 x_go;nofun;dsimp only[M.bind]at ok;cases e:m τ G with
 |stuck=>right
 |bP c G'=>right
 |ok d G'=>mg_lt
noncomputable def bI{d:Type}(m:M d)(k:d->DH->Res)(x:XD->DH->Res):DH->Res:=λG=>match m G with
 |.stuck=>.stuck
 |.ok a G'=>k a G'
 |.bP c G'=>x c G'
theorem sX{m:Y2}{k:DS->D->DH->Res}(h:iC K mg EE (λτ=>bI (m τ) (k τ) λc G=>.xn c τ G) Dd σ H):
  cE K mg EE m σ H λx g=>∃τ ρ G d,Ab K mg σ g τ ρ G/\Rep K mg ρ g d x/\sW K mg EE g ρ Dd (k τ d G):=by
 x_go;nofun;dsimp only[bI]at ok;cases e:m τ G with
 |stuck=>right
 |bP c G'=>kt_k;k_not
 |ok d G'=>mg_lt
theorem HE{m:DS->M Bool}{k:DS->Bool->DH->Res}(h:iC K mg EE (λτ=>bI (m τ) (k τ) λc G=>.xn c τ G) Dd σ H):
  liftT K mg EE m σ H λb g=>∃τ ρ G,Ab K mg σ g τ ρ G/\sW K mg EE g ρ Dd (k τ b G):=by
 x_go;nofun;dsimp only[bI]at ok;cases e:m τ G with
 |stuck=>right
 |bP c G'=>kt_k;k_not
 |ok d G'=>kt_k;exact λH' ρ' f aZ=>⟨τ,ρ',G',aZ,ok.fut f⟩
end
def QE(X:Cx)(EE:bF)(e:Expr)(m:Y2):Prop:=PE X e (cE X.K X.mg EE m)
def QT(X:Cx)(EE:bF)(e:Expr)(m:DS->M Bool):Prop:=PT X e (liftT X.K X.mg EE m)
def QW(X:Cx)(EE:bF)(e:Expr)(m:DS->M Bool):Prop:=PW X e (liftT X.K X.mg EE m)
def QA(X:Cx)(EE:bF)(es:U2)(m:DS->M X2):Prop:=PA X es (lN X.K X.mg EE m)
def QS(X:Cx)(EE:bF)(st:Stmt)(m:MS):Prop:=PS X st (iC X.K X.mg EE m)
def qh(X:Cx)(EE:bF)(st:List Stmt)(m:MS):Prop:=BA X st (iC X.K X.mg EE m)
section
theorem PE.mono{t t':TE}(h:PE X e t)(i:∀d H Q,t' d H Q->t d H Q):PE X e t':=λpins s d H Q I q=>h pins s d H Q I (i _ _ _ q)
theorem PT.mono{t:TT}(h:PT X e t)(i:∀d H Q,t' d H Q->t d H Q):PT X e t':=λpins s d H Q I q=>h pins s d H Q I (i _ _ _ q)
theorem PA.mono{e:U2}{t t':TA}(h:PA X e t)(i:∀d H Q,t' d H Q->t d H Q):PA X e t':=λpos pins s d H Q I q=>h pos pins s d H Q I (i _ _ _ q)
theorem PS.mono{e:Stmt}{t t':TS}(h:PS X e t)(i:∀D d H,t' D d H->t D d H):PS X e t':=λpins s d H D I q=>h pins s d H D I (i _ _ _ q)
theorem BA.mono{e:List Stmt}{t t':TS}(h:BA X e t)(i:∀D d H,t' D d H->t D d H):BA X e t':=λpins s d H D I q=>h pins s d H D I (i _ _ _ q)
end
section
variable{a b:Expr}{ma mb mc:Y2}
noncomputable def aa(i:Nat):Y2:=λτ G=>match τ[i]? with
 |some (À d)=>.ok d G
 |_=>.stuck
def eC(d:D):Y2:=λ_=>M.ret d
theorem PU(i:Nat){x:Str}{pos:Pos}(F:X.N[i]?=À x)(t:GO X.env.scope x)(D:(x==("__debug__":Str))=Ä:=by decide)
  (g:(x==("__classdict__":Str))=Ä:=by decide):QE X EE (.Name x pos) (aa i):=PE.mono (BB F t D g) λI H Q ⟨τ,ρ,G,ab,ok⟩=>by
 unfold aa at ok;cases e:τ[i]? with
 |none=>kt_k;left
 |some o=>
  cases o with
  |none=>kt_k;left
  |some d=>kt_k;obtain⟨v,k,r⟩:=ab.st.2 i d e;exact⟨v,k,ok v H ρ .refl ab r⟩
theorem HF{d:D}(h:PE X e (tC v))(r:∀ρ H,Rep X.K X.mg ρ H d v):QE X EE e (eC d):=PE.mono h λt H Q k=>by obtain⟨τ,ρ,G,ab,g⟩:=k;exact g v H ρ .refl ab (r ρ H)
theorem PV{i:Int} {j pos}:QE X EE (.Constant (.int i) j pos) (eC (.int i)):=HF OP λ_ _=>by unfold Rep;rfl
theorem Tt{i:Bool} {j pos}:QE X EE (.Constant (.bool i) j pos) (eC (.bl i)):=HF SI λ_ _=>by unfold Rep;rfl
theorem PX {j pos}:QE X EE (.Constant .none j pos) (eC .bD):=HF OQ λ_ _=>by unfold Rep;rfl
theorem PY {x j pos}:QE X EE (.Constant (.str x) j pos) (eC (.str x)):=HF OR λ_ _=>by unfold Rep;rfl
noncomputable def aj(f:D->D->M D)(g d:Y2):Y2:=λτ=>(g τ).bind λx=>(d τ).bind λy=>f x y
def LW(X:Cx)(EE:bF)(r:R2)(f:D->D->M D):Prop:=∀(g:L2.St)(H:Hp)(τ:DS)(ρ:Q1)(G:DH)(x y:V)(d e:D)(Q:VK),
 Ab X.K X.mg g H τ ρ G->Rep X.K X.mg ρ H d x->Rep X.K X.mg ρ H e y->jK X.K X.mg EE H g τ ρ (f d e G) Q->r x y H Q
theorem se{r:R2}(O:LW X EE r f){t:L2.St}{H:Hp}{Q:VK}(h:cE X.K X.mg EE (aj f ma mb) t H Q):
  SY r (cE X.K X.mg EE ma) (cE X.K X.mg EE mb) t H Q:=by
 obtain⟨τ,ρ,G,ab,ok⟩:=kr (k:=λτ x=>(mb τ).bind λy=>f x y) h;nofun;cases e:ma τ G with
 |stuck=>right
 |bP c G'=>right
 |ok d G'=>
  k_go;refine⟨τ2,ρ2,G2,bY,?_⟩;dsimp only[M.bind]at aQ;cases e2:mb τ2 G2 with
  |stuck=>rw[e2]at aQ;exact aQ
  |bP c G'=>rw[e2]at aQ;exact aQ
  |ok L S=>rw[e2]at aQ;exact λJ I g D F R=>O t I τ2 g S v J d2 L Q F (r2.mono D) R (aQ.fut D)
theorem rj{d:Operator}{r:R2}(D:gW X (binaryOp d) r)(g:LW X EE r f)(t:QE X EE a ma)(k:QE X EE b mb):QE X EE (.BinOp a d b pos) (aj f ma mb):=
 PE.mono (S0 D t k) λ_ _ _ h=>se g h
theorem BQ{r:R2}(D:gW X (compareOp op) r)(k:LW X EE r f)(t:QE X EE a ma)(g:QE X EE b mb)(d:behindInMarks op b=Ä):QE X EE (.Compare a [op] [b] pos) (aj f ma mb):=
 PE.mono (LF D t g d) λ_ _ _ h=>se k h
theorem Tu{r:R2}(D:R6 X r)(g:LW X EE r f)(k:QE X EE a ma)(d:QE X EE b mb)(t:rZ b:=by intro _ _;rfl):QE X EE (.Subscript a b pos) (aj f ma mb):=
 PE.mono (Tf D k d t) λ_ _ _ h=>se g h
def aP(C:Int->Int->Bool)(g:Int->Int->D):D->D->M D
 |.int i,.int j=>if C i j then M.ret (g i j) else M.stop
 |_,_=>M.stop
theorem Dj{C:Int->Int->Bool}{g:Int->Int->D}{d e:D}{Q:VK}(ok:jK X.K X.mg EE H σ τ ρ (aP C g d e G) Q):
  ∃i j,d=.int i/\e=.int j/\C i j=Ã/\jK X.K X.mg EE H σ τ ρ (.ok (g i j) G) Q:=by
 k_asm
 cases e<;>try exact ok.elim
 rename_i i j;dsimp only[aP]at ok;cases hc:C i j with
 |false=>rw[hc]at ok;left
 |true=>rw[hc]at ok;exact⟨i,j,rfl,rfl,hc,ok⟩
theorem oU{C:Int->Int->Bool}{P:Int->Int->Prop}{g:Int->Int->D}(I:∀i j,C i j=Ã->P i j)(L:∀i j ρ H,Rep X.K X.mg ρ H (g i j) (gv i j)):LW X EE (rI P gv) (aP C g):=
 λM H τ ρ G x y d e Q ab F t k=>by obtain⟨i,j,rfl,rfl,J,k⟩:=Dj k;unfold Rep at F t;exact⟨i,j,F,t,I i j J,k _ H ρ .refl ab (L i j ρ H)⟩
theorem jM{g:Int->Int->D}(I:∀i j ρ H,Rep X.K X.mg ρ H (g i j) (gv i j)):LW X EE (LA gv) (aP (λ_ _=>Ã) g):=
 λJ H τ ρ G x y d e Q ab F t k=>by obtain⟨i,j,rfl,rfl,L,k⟩:=Dj k;unfold Rep at F t;exact⟨i,j,F,t,k _ H ρ .refl ab (I i j ρ H)⟩
abbrev xR:=aP (λ_ _=>Ã) λi j=>.int (i-j)
abbrev EO:=aP (λi j=>(decide (-(2^64)<i)&&decide (i<2^64))||(decide (-(2^64)<j)&&decide (j<2^64))) λi j=>.int (i*j)
abbrev bJ:=aP (λ_ j=>decide (0<j)&&decide (j<1073741824)) λi j=>.int (i/j)
abbrev aX:=aP (λ_ j=>decide (0<j)) λi j=>.int (i%j)
abbrev iU:=aP (λi j=>decide (0<=j)&&(decide (j<=1000000)&&decide (i.natAbs<2^64))) λi j=>.int (i^j.toNat)
abbrev ER:=aP (λ_ _=>Ã) λi j=>.bl (decide (i<j))
abbrev Tv:=aP (λ_ _=>Ã) λi j=>.bl (decide (i<=j))
abbrev qA:=aP (λ_ _=>Ã) λi j=>.bl (decide (j<i))
abbrev PZ:=aP (λ_ _=>Ã) λi j=>.bl (decide (j<=i))
theorem P4(g:QE X EE a ma)(d:QE X EE b mb):QE X EE (.BinOp a .Sub b pos) (aj xR ma mb):=rj O7 (jM λ_ _ _ _=>by unfold Rep;rfl) g d
theorem P5(g:QE X EE a ma)(d:QE X EE b mb):QE X EE (.BinOp a .Mult b pos) (aj EO ma mb):=rj O8 (oU (λi j h=>by simp only[abg,č,decide_eq_true_eq]at h;exact h) λ_ _ _ _=>by unfold Rep;rfl) g d
theorem LX(g:QE X EE a ma)(d:QE X EE b mb):QE X EE (.BinOp a .FloorDiv b pos) (aj bJ ma mb):=rj LC (oU (λi j h=>by simp only[č,decide_eq_true_eq]at h;exact h) λ_ _ _ _=>by unfold Rep;rfl) g d
theorem P6(g:QE X EE a ma)(d:QE X EE b mb):QE X EE (.BinOp a .Mod b pos) (aj aX ma mb):=rj O9 (oU (λi j h=>of_decide_eq_true h) λ_ _ _ _=>by unfold Rep;rfl) g d
theorem P7(g:QE X EE a ma)(d:QE X EE b mb):QE X EE (.BinOp a .Pow b pos) (aj iU ma mb):=rj Pa (oU (λi j h=>by simp only[č,decide_eq_true_eq]at h;exact h) λ_ _ _ _=>by unfold Rep;rfl) g d
theorem Tw(g:QE X EE a ma)(d:QE X EE b mb):QE X EE (.Compare a [.GtE] [b] pos) (aj PZ ma mb):=BQ N3 (jM λ_ _ _ _=>by unfold Rep;rfl) g d (Hg _)
noncomputable def aR(ds:X2):M D:=λG=>if ds.length<=Ç then .ok (.obj G.length) (G++[.lst ds]) else .stuck
def aY(ds:X2):M D:=λG=>if ds.length<=Ç then .ok (.tup ds) G else .stuck
theorem jB{Q:VK}(ab:Ab X.K X.mg σ H τ ρ G)(r:ao X.K X.mg ρ H ds vs)(ok:jK X.K X.mg EE H σ τ ρ (aR ds G) Q):
  vs.length<=Ç/\∀p,H p=Æ->Q (.ref p) (upd H p (.lst vs)):=by
 unfold aR at ok;split at ok
 ·rename_i g;rw[r.length]at g;refine⟨g,λp d=>?_⟩;have f:cQ X.K H (upd H p (.lst vs)) ρ (ρ++[p]):=(cJ d ρ).trans (cX ρ p);refine ok (.ref p) _ (ρ++[p]) f (ab.fut f (ab.hp.more d r)) ?_;unfold Rep;exact⟨p,rfl,by rw[<- ab.hp.hl,aB]⟩
 ·left
theorem xS{Q:VK}(ab:Ab X.K X.mg σ H τ ρ G)(r:ao X.K X.mg ρ H ds vs)(ok:jK X.K X.mg EE H σ τ ρ (aY ds G) Q):
  vs.length<=Ç/\∀p,H p=Æ->Q (.ref p) (upd H p (.tup vs)):=by
 unfold aY at ok;split at ok
 ·rename_i g;rw[r.length]at g;refine⟨g,λp d=>?_⟩;have f:cQ X.K H (upd H p (.tup vs)) ρ ρ:=cJ d ρ;refine ok (.ref p) _ ρ f (ab.fut f (ab.hp.new d)) ?_;unfold Rep;exact⟨p,vs,rfl,.of bz,r.mono f⟩
 ·left
def ah:DS->M X2:=λ_=>M.ret []
def af(m:Y2)(r:DS->M X2):DS->M X2:=λτ=>(m τ).bind λx=>(r τ).bind λxs=>M.ret (x::xs)
theorem P8:QA X EE [] ah:=PA.mono BH λk H Q g=>by obtain⟨τ,ρ,G,ab,d⟩:=g;exact d [] H ρ .refl ab .nil
theorem LY{m:Y2}(F:QE X EE e m)(I:QA X EE es r)(O:æ (e::es) X.env=(Ä,eval e X.env)::æ es X.env):QA X EE (e::es) (af m r):=
 PA.mono (rY F I O) λT H Q h=>by
  obtain⟨τ,ρ,G,ab,ok⟩:=PR (k:=λτ x=>(r τ).bind λxs=>M.ret (x::xs)) h;nofun;cases e:m τ G with
  |stuck=>right
  |bP c G'=>right
  |ok d G'=>
   k_go;refine⟨τ2,ρ2,G2,bY,?_⟩;dsimp only[M.bind]at aQ;cases e2:r τ2 G2 with
   |stuck=>rw[e2]at aQ;exact aQ
   |bP c G'=>rw[e2]at aQ;exact aQ
   |ok S U=>rw[e2]at aQ;exact λL J g t D R=>aQ (v::L) J g t D (.cons (r2.mono t) R)
def ai(f:X2->M D)(m:DS->M X2):Y2:=λτ=>(m τ).bind f
theorem jN{m:DS->M X2}{f:X2->M D}{r:X1->Hp->VK->Prop}{g:L2.St}{H:Hp}{Q:VK}
  (t:∀(H:Hp)(τ:DS)(ρ:Q1)(G:DH)(xs:X1)(ds:X2),Ab X.K X.mg g H τ ρ G->ao X.K X.mg ρ H ds xs->jK X.K X.mg EE H g τ ρ (f ds G) Q->r xs H Q)
  (h:cE X.K X.mg EE (ai f m) g H Q):lN X.K X.mg EE m g H λxs F=>r xs F Q:=by
 obtain⟨τ,ρ,G,ab,ok⟩:=qy (k:=λ_=>f) h;nofun;cases e:m τ G with
 |stuck=>right
 |bP c G'=>right
 |ok d G'=>k_go;exact t H' τ2 ρ2 G2 v d2 bY r2 aQ
theorem P9 {x1} (h:QA X EE es m):QE X EE (.Tuple es x1 pos) (ai aY m):=
 PE.mono (Pg h) λk H Q h=>jN (r:=λxs d Q=>xs.length<=Ç/\∀p,d p=Æ->Q (.ref p) (upd d p (.tup xs))) (λH τ ρ G xs ds ab r g=>xS ab r g) h
theorem Qa(h:QA X EE es m):QE X EE (.List es pos) (ai aR m):=
 PE.mono (Ph h) λk H Q h=>jN (r:=λxs d Q=>xs.length<=Ç/\∀p,d p=Æ->Q (.ref p) (upd d p (.lst xs))) (λH τ ρ G xs ds ab r g=>jB ab r g) h
def CallD(X:Cx)(EE:bF)(r:X1->Hp->VK->Prop)(f:X2->M D):Prop:=∀(d:L2.St)(H:Hp)(τ:DS)(ρ:Q1)(G:DH)(xs:X1)(ds:X2)(Q:VK),
 Ab X.K X.mg d H τ ρ G->ao X.K X.mg ρ H ds xs->jK X.K X.mg EE H d τ ρ (f ds G) Q->r xs H Q
theorem HG{p:Pos}{id:String}{r:X1->Hp->VK->Prop}{f:X2->M D}(T:eE X (.builtin id) r)(L:CallD X EE r f)(J:X.mg x=Æ)(k:QA X EE (e::es) m)
  (I:Gl X x:=by rfl) (t:bootBuiltins x=À (.builtin id)) (R:x≠"__name__":=by decide) (g:(x==("__debug__":Str))=Ä:=by decide)
  (S:æ (e::es) X.env=(Ä,eval e X.env)::æ es X.env:=by rfl) (d:(backTo pos (æ es X.env)).any (·.1)=Ä:=by rfl):QE X EE (.Call (.Name x p) (e::es) [] pos) (ai f m):=
 PE.mono (ze T I J t k R g S d) λO H Q h=>jN (r:=r) (λH τ ρ G xs ds ab r F=>L O H τ ρ G xs ds Q ab r F) h
theorem ES{p:Pos}{T:String}{r:X1->Hp->VK->Prop}{f:X2->M D}(U:eE X (.type T) r)(L:CallD X EE r f)(J:X.mg x=Æ)(k:QA X EE (e::es) m)
  (I:Gl X x:=by rfl) (t:bootBuiltins x=À (.type T)) (R:x≠"__name__":=by decide) (g:(x==("__debug__":Str))=Ä:=by decide)
  (S:æ (e::es) X.env=(Ä,eval e X.env)::æ es X.env:=by rfl) (d:(backTo pos (æ es X.env)).any (·.1)=Ä:=by rfl):QE X EE (.Call (.Name x p) (e::es) [] pos) (ai f m):=
 PE.mono (vW U I J t k R g S d) λO H Q h=>jN (r:=r) (λH τ ρ G xs ds ab r F=>L O H τ ρ G xs ds Q ab r F) h
def eF(f:D->M Bool)(m:Y2):DS->M Bool:=λτ=>(m τ).bind f
def gA:D->M Bool
 |.bD=>M.ret Ä
 |.bl b=>M.ret b
 |.int i=>M.ret (i != 0)
 |.str y=>if y.length<=Ç then M.ret ((y.length:Int) != 0) else M.stop
 |.tup xs=>M.ret (!xs.isEmpty)
 |.con xs=>M.ret (!xs.isEmpty)
 |.obj n=>λG=>match G[n]? with
  |some (.lst xs)=>.ok (!xs.isEmpty) G
  |_=>.stuck
 |.fn _=>M.stop
 |.EL _ _=>M.stop
 |.EN _ _=>M.stop
theorem ku(r:ao K mg ρ H ds vs):(!vs.isEmpty)=!ds.isEmpty:=by have:=r.length;cases ds<;>cases vs<;>first|rfl|(simp at this)
theorem HH{m:Y2}{Q:Bool->Hp->Prop}(h:liftT X.K X.mg EE (eF gA m) σ H Q):
  cE X.K X.mg EE m σ H λx F=>∃k,Pe X.K x F k/\Q k F:=by
 obtain⟨τ,ρ,G,ab,ok⟩:=HC (k:=λ_=>gA) h;nofun;cases e:m τ G with
 |stuck=>right
 |bP c G'=>right
 |ok d G'=>
  k_go;cases d2 with
  |bD=>f_len;subst r2;exact⟨Ä,rfl,aQ H' ρ2 .refl bY⟩
  |bl b=>f_len;subst r2;exact⟨b,rfl,aQ H' ρ2 .refl bY⟩
  |int i=>f_len;subst r2;exact⟨_,rfl,aQ H' ρ2 .refl bY⟩
  |str y=>
   f_len;subst r2;dsimp only[gA]at aQ;split at aQ
   ·rename_i I;exact⟨_,⟨I,rfl⟩,aQ H' ρ2 .refl bY⟩
   ·o_src
  |tup xs=>f_len;obtain⟨p,vs,rfl,D,t⟩:=r2;exact⟨!vs.isEmpty,.inr (.inl ⟨vs,D,rfl⟩),by rw[ku t];exact aQ H' ρ2 .refl bY⟩
  |con xs=>f_len;obtain⟨p,vs,rfl,D,t⟩:=r2;exact⟨!vs.isEmpty,.inl ⟨vs,D.seq,rfl⟩,by rw[ku t];exact aQ H' ρ2 .refl bY⟩
  |obj n=>
   f_len;obtain⟨p,rfl,e1⟩:=r2;dsimp only[gA]at aQ;cases q:G2[n]? with
   |none=>rw[q]at aQ;o_src
   |some o=>
    cases o with
    |lst xs=>rw[q]at aQ;obtain⟨L,vs,e2,J,t⟩:=bY.hp.lst q;k_put;exact⟨!vs.isEmpty,.inl ⟨vs,.of J,rfl⟩,by rw[ku t];exact aQ H' ρ2 .refl bY⟩
    |_=>rfl'
  |fn x=>o_src
  |EL c O=>o_src
  |EN R M=>o_src
theorem Qc(g:QE X EE a ma)(k:∀d,isTrue a X.env d=(do let v <- d;standAt a.pos;holding [v] (truthy v)):=by intro _;rfl):QT X EE a (eF gA ma):=
 PT.mono (Hi g k) λt H Q h=>HH h
end
noncomputable def cu{g d:Type}(f:g->Option d):List g->Option (List d)
 |[]=>À []
 |a::r=>match f a,cu f r with
  |some b,À bs=>À (b::bs)
  |_,_=>Æ
def mO(G:DH):Nat->D->Option PyData
 |0,_=>Æ
 |_+1,.bD=>À .none
 |_+1,.bl b=>À (.bool b)
 |_+1,.int i=>À (.int i)
 |_+1,.str x=>À (.str x)
 |n+1,.tup ds=>(cu (mO G n) ds).map .tuple
 |n+1,.con ds=>(cu (mO G n) ds).map .list
 |n+1,.obj k=>match G[k]? with
  |some (.lst ds)=>(cu (mO G n) ds).map .list
  |_=>Æ
 |_+1,.fn _=>Æ
 |_+1,.EL _ _=>Æ
 |_+1,.EN _ _=>Æ
section
theorem readsAll{f:D->Option PyData}(k:∀(d:D) (x:V) (u:Å) (p:PyData),Rep X.K X.mg ρ H d x->RelV x u->f d=À p->∃g,Reads s.heap u p g):
  ∀(ds:X2)(xs:X1)(us:List Å)(ps:List PyData),ao X.K X.mg ρ H ds xs->Vals xs us->cu f ds=À ps->∃g,ReadsAll s.heap us ps g
 |[],xs,us,ps,r,v,e=>by unfold ao at r;subst r;cases v;w_up;exact⟨[],.nil⟩
 |d::ds,xs,us,ps,r,v,e=>by
  unfold ao at r;obtain⟨x,t,rfl,J,I⟩:=r;cases v with
  |cons v1 v2=>
  unfold cu at e;cases e1:f d with
  |none=>rw[e1]at e;w_up
  |some p=>
   cases e2:cu f ds with
   |none=>rw[e1,e2]at e;w_up
   |some F=>rw[e1,e2]at e;w_up;obtain⟨g,L⟩:=k d x _ p J v1 e1;obtain⟨bs,M⟩:=readsAll k ds t _ F I v2 e2;exact⟨g++bs,.cons L M⟩
theorem dI(I:Inv X pins σ H s)(S:fE X.K X.mg H ρ G):∀(n:Nat)(d:D)(x:V)(u:Å)(p:PyData),Rep X.K X.mg ρ H d x->RelV x u->mO G n d=À p->∃L,Reads s.heap u p L
 |0,_,_,_,_,_,_,e=>nomatch e
 |n+1,.bD,x,u,p,r,v,e=>by unfold Rep at r;subst r;cases v;w_up;exact⟨_,.none⟩
 |n+1,.bl b,x,u,p,r,v,e=>by unfold Rep at r;subst r;cases v;w_up;exact⟨_,.bool b⟩
 |n+1,.int i,x,u,p,r,v,e=>by unfold Rep at r;subst r;obtain⟨t,rfl⟩:=v;w_up;exact⟨_,.int i t⟩
 |n+1,.str y,x,u,p,r,v,e=>by unfold Rep at r;subst r;obtain⟨t,rfl⟩:=v;w_up;exact⟨_,.str y t⟩
 |n+1,.tup ds,x,u,p,r,v,e=>by
  k_dec;obtain⟨a,xs,rfl,Y,O⟩:=r;cases v;obtain⟨its,vs,⟨o,F,J,k,U⟩,_⟩:=I.tuple (xQ.t Y);unfold mO at e;cases q:cu (mO G n) ds with
  |none=>f_int
  |some R=>f_int;obtain⟨L,M⟩:=readsAll (λd x u p=>dI I S n d x u p) ds xs its R O vs q;exact⟨L,.tuple F J U ‹M›⟩
 |n+1,.con ds,x,u,p,r,v,e=>by
  k_dec;obtain⟨a,xs,rfl,Y,O⟩:=r;cases v;obtain⟨its,vs,⟨o,k,F,J,U,T⟩,_⟩:=I.list Y.seq;unfold mO at e;cases q:cu (mO G n) ds with
  |none=>f_int
  |some R=>f_int;obtain⟨L,M⟩:=readsAll (λd x u p=>dI I S n d x u p) ds xs its R O vs q;exact⟨_,.list F J T ‹M›⟩
 |n+1,.obj k,x,u,p,r,v,e=>by
  k_dec;obtain⟨a,rfl,Z⟩:=r;cases v;dsimp only[mO]at e;cases q:G[k]? with
  |none=>f_int
  |some o=>
   cases o with
   |lst ds=>
    rw[q]at e;obtain⟨a',xs,F,J,O⟩:=S.lst q;rw[Z]at F;cases F;obtain⟨its,vs,⟨o,k,F,J,U,T⟩,_⟩:=I.list (.of J);dsimp only at e;cases q:cu (mO G n) ds with
    |none=>f_int
    |some R=>f_int;obtain⟨L,M⟩:=readsAll (λd x u p=>dI I S n d x u p) ds xs its R O vs q;exact⟨_,.list F J T ‹M›⟩
   |_=>rfl'
 |n+1,.fn y,x,u,p,r,v,e=>nomatch e
 |n+1,.EL y _,x,u,p,r,v,e=>nomatch e
 |n+1,.EN y _,x,u,p,r,v,e=>nomatch e
end
section
variable{a b:Expr}{ma mb mc:Y2}
def rD(X:Cx)(EE:bF)(f:D->D->M D):R2:=λx y H Q=>∃g τ ρ G d e,Ab X.K X.mg g H τ ρ G/\Rep X.K X.mg ρ H d x/\Rep X.K X.mg ρ H e y/\jK X.K X.mg EE H g τ ρ (f d e G) Q
theorem jO:LW X EE (rD X EE f) f:=λt H τ ρ G x y d e Q ab D k g=>⟨t,τ,ρ,G,d,e,ab,D,k,g⟩
theorem Tz{r:R2}(h:LW X EE r f){x y:V}{H:Hp}{Q:VK}(q:rD X EE f x y H Q):r x y H Q:=by obtain⟨D,τ,ρ,G,d,e,ab,k,g,t⟩:=q;exact h D H τ ρ G x y d e Q ab k g t
abbrev deep:Nat:=600
def BR(d e:D)(G:DH):Option Bool:=match mO G deep d,mO G deep e with
 |some p,À q=>if p.canLay0&&(q.canLay0&&decide (min p.depth q.depth<=580)) then À (aas p q) else Æ
 |_,_=>Æ
def fG(g:Bool)(d e:D):M D:=λG=>match BR d e G with
 |some b=>.ok (.bl (g ^^ b)) G
 |none=>.stuck
theorem HJ(F:X.A.units+600<cLine):gW X (compareOp .Eq) (rD X EE (fG Ä)):=by
 z_go;dsimp only[fG,BR]at ok;cases e1:mO G deep d with
 |none=>f_tup;left
 |some p=>
  cases e2:mO G deep e with
  |none=>rw[e1,e2]at ok;left
  |some q=>
   rw[e1,e2]at ok;ac_nf;by_cases g:(p.canLay0&&(q.canLay0&&decide (min p.depth q.depth<=580)))=Ã
   ·rw[Α g]at ok;simp only[č,decide_eq_true_eq]at g;obtain⟨D,t⟩:=dI I ab.hp deep d x v p r1 rx e1;obtain⟨bs,k⟩:=dI I ab.hp deep e y u q r2 ry e2;refine SeqAt.compareEq_reads t k g.1 g.2.1 ∅ ⟨.bl _,H,I,rfl,?_⟩;k_exc
   ·rw[Β g]at ok;left
theorem Qd(F:X.A.units+600<cLine):gW X (compareOp .NotEq) (rD X EE (fG Ã)):=by
 z_go;dsimp only[fG,BR]at ok;cases e1:mO G deep d with
 |none=>f_tup;left
 |some p=>
  cases e2:mO G deep e with
  |none=>rw[e1,e2]at ok;left
  |some q=>
   rw[e1,e2]at ok;ac_nf;by_cases g:(p.canLay0&&(q.canLay0&&decide (min p.depth q.depth<=580)))=Ã
   ·rw[Α g]at ok;simp only[č,decide_eq_true_eq]at g;obtain⟨D,t⟩:=dI I ab.hp deep d x v p r1 rx e1;obtain⟨bs,k⟩:=dI I ab.hp deep e y u q r2 ry e2;refine SeqAt.compareNe_reads t k g.1 g.2.1 ∅ ⟨.bl _,H,I,rfl,?_⟩;k_exc
   ·rw[Β g]at ok;left
theorem TF(g:X.A.units+600<cLine)(k:QE X EE a ma)(d:QE X EE b mb):QE X EE (.Compare a [.Eq] [b] pos) (aj (fG Ä) ma mb):=BQ (HJ g) jO k d (Hg _)
inductive TH where
 |lst (xs:X2)|tup (xs:X2)|str (x:Str)
noncomputable def ak(G:DH):D->Option TH
 |.tup xs=>À (.tup xs)
 |.con xs=>À (.lst xs)
 |.obj n=>match G[n]? with
  |some (.lst xs)=>À (.lst xs)
  |_=>Æ
 |.str x=>À (.str x)
 |_=>Æ
def Ll(d:D)(ds:X2)(G:DH):Option Bool:=match mO G deep d,cu (mO G deep) ds with
 |some p,À g=>if p.canLay0&&(ņ g&&decide (min (ś g) p.depth<=580)) then À (g.any λy=>aas y p) else Æ
 |_,_=>Æ
def sY(g:Bool)(d e:D):M D:=λG=>match ak G e with
 |some (.lst ds)=>match Ll d ds G with
  |some b=>.ok (.bl (g ^^ b)) G
  |none=>.stuck
 |some (.tup ds)=>match Ll d ds G with
  |some b=>.ok (.bl (g ^^ b)) G
  |none=>.stuck
 |some (.str j)=>match d with
  |.str i=>.ok (.bl (g ^^ !(aav j i 0 j.length 1).isEmpty)) G
  |_=>.stuck
 |none=>.stuck
theorem bG{pins:N0}{σ0:L2.St}{s:Ê}{d:D}{x:V}(h:fE X.K X.mg H ρ G)(r:Rep X.K X.mg ρ H d x)(e:ak G d=À (.lst ds)):
  ∃p xs,x=.ref p/\ko X.K H p xs/\ao X.K X.mg ρ H ds xs:=by
 cases d with
 |con xs=>w_up;k_dec;obtain⟨a,xs,rfl,t,rs⟩:=r;exact⟨a,xs,rfl,t.seq,rs⟩
 |obj n=>
  k_dec;obtain⟨a,rfl,k⟩:=r;dsimp only[ak]at e;cases q:G[n]? with
  |none=>f_int
  |some o=>
   cases o with
   |lst ys=>f_int;obtain⟨F,xs,e1,e2,rs⟩:=h.lst q;rw[k]at e1;cases e1;exact⟨a,xs,rfl,.of e2,rs⟩
   |_=>rfl'
 |_=>w_up
theorem sZ{d:D}{x:V}(r:Rep X.K X.mg ρ H d x)(e:ak G d=À (.tup ds)):
  ∃p xs,x=.ref p/\xQ H p xs/\ao X.K X.mg ρ H ds xs:=by
 cases d with
 |tup xs=>w_up;k_dec;obtain⟨a,xs,rfl,g,k⟩:=r;exact⟨a,xs,rfl,g,k⟩
 |obj n=>
  dsimp only[ak]at e;cases q:G[n]? with
  |none=>f_int
  |some o=>cases o<;>(rw[q]at e;cases e)
 |_=>w_up
theorem eW{d:D}{x:V}(r:Rep X.K X.mg ρ H d x)(e:ak G d=À (.tup ds)):
  ∃p xs,x=.ref p/\m8 X.K H p xs/\ao X.K X.mg ρ H ds xs:=let ⟨p,xs,k,g,F⟩:=sZ r e;⟨p,xs,k,g.t,F⟩
theorem jP{d:D}{x:V}(r:Rep X.K X.mg ρ H d x)(e:ak G d=À (.str y)):d=.str y/\x=.str y:=by
 cases d with
 |str z=>w_up;k_dec;exact⟨rfl,r⟩
 |obj n=>
  dsimp only[ak]at e;cases q:G[n]? with
  |none=>f_int
  |some o=>cases o<;>(rw[q]at e;cases e)
 |_=>w_up
theorem HK{p:Addr}(I:Inv X pins σ0 H s)(J:fE X.K X.mg H ρ G)(M:ko X.K H p xs)(F:ao X.K X.mg ρ H ds xs)
  (e:cu (mO G deep) ds=À qs):∃g,Reads s.heap (.ref p) (.list qs) g:=by
 obtain⟨its,vs,⟨o,k,t,D,R,O⟩,_⟩:=I.list M;obtain⟨g,L⟩:=readsAll (λd x u p=>dI I J deep d x u p) ds xs its qs F vs e;exact⟨_,.list t D O ‹L›⟩
theorem HL{p:Addr}(I:Inv X pins σ0 H s)(J:fE X.K X.mg H ρ G)(M:m8 X.K H p xs)(O:ao X.K X.mg ρ H ds xs)
  (e:cu (mO G deep) ds=À qs):∃g,Reads s.heap (.ref p) (.tuple qs) g:=by
 obtain⟨its,vs,⟨o,t,F,k,D⟩,_⟩:=I.tuple M;obtain⟨g,L⟩:=readsAll (λd x u p=>dI I J deep d x u p) ds xs its qs O vs e;exact⟨_,.tuple t F D ‹L›⟩
theorem oV{d:D}{b:Bool}(h:Ll d ds G=À b):∃p qs,mO G deep d=À p/\cu (mO G deep) ds=À qs/\p.canLay0=Ã/\ņ qs=Ã/\min (ś qs) p.depth<=580/\b=qs.any λy=>aas y p:=by
 unfold Ll at h;cases e1:mO G deep d with
 |none=>rw[e1]at h;cases h
 |some p=>
  cases e2:cu (mO G deep) ds with
  |none=>rw[e1,e2]at h;cases h
  |some qs=>
   rw[e1,e2]at h;dsimp only at h;by_cases g:(p.canLay0&&(ņ qs&&decide (min (ś qs) p.depth<=580)))=Ã
   ·rw[Α g]at h;simp only[č,decide_eq_true_eq]at g;exact⟨p,qs,rfl,rfl,g.1,g.2.1,g.2.2,(é h).symm⟩
   ·rw[Β g]at h;cases h
theorem HM(T:X.A.units+600<cLine):gW X (compareOp .In) (rD X EE (sY Ä)):=by
 z_go;dsimp only[sY]at ok;cases q:ak G e with
 |none=>kj_on
 |some sk=>
  k_is;cases sk with
  |lst ds=>
   ac_nf;cases qb:Ll d ds G with
   |none=>rw[qb]at ok;left
   |some b=>rw[qb]at ok;obtain⟨p,O,g,k,F,t,S,rfl⟩:=oV qb;obtain⟨l,xs,rfl,L,M⟩:=bG (pins:=pins) (σ0:=σ0) (s:=s) ab.hp r2 q;cases ry;obtain⟨R,J⟩:=dI I ab.hp deep d x v p r1 rx g;obtain⟨bs,D⟩:=HK I ab.hp L M k;refine SeqAt.in_list_reads D J t F ∅ ⟨.bl _,H,I,rfl,?_⟩;k_exc
  |tup ds=>
   ac_nf;cases qb:Ll d ds G with
   |none=>rw[qb]at ok;left
   |some b=>rw[qb]at ok;obtain⟨p,O,g,k,F,t,S,rfl⟩:=oV qb;obtain⟨l,xs,rfl,L,M⟩:=eW r2 q;cases ry;obtain⟨R,J⟩:=dI I ab.hp deep d x v p r1 rx g;obtain⟨bs,D⟩:=HL I ab.hp L M k;refine SeqAt.in_tuple_reads D J t F ∅ ⟨.bl _,H,I,rfl,?_⟩;k_exc
  |str j=>
   obtain⟨rfl,rfl⟩:=jP r2 q;cases d with
   |str i=>unfold Rep at r1;subst r1;refine EC pins s σ0 H _ _ v u Q I rx ry ⟨i,j,rfl,rfl,?_⟩;k_exc
   |_=>left
theorem ET(T:X.A.units+600<cLine):gW X (compareOp .NotIn) (rD X EE (sY Ã)):=by
 z_go;dsimp only[sY]at ok;cases q:ak G e with
 |none=>kj_on
 |some sk=>
  k_is;cases sk with
  |lst ds=>
   ac_nf;cases qb:Ll d ds G with
   |none=>rw[qb]at ok;left
   |some b=>rw[qb]at ok;obtain⟨p,O,g,k,F,t,S,rfl⟩:=oV qb;obtain⟨l,xs,rfl,L,M⟩:=bG (pins:=pins) (σ0:=σ0) (s:=s) ab.hp r2 q;cases ry;obtain⟨R,J⟩:=dI I ab.hp deep d x v p r1 rx g;obtain⟨bs,D⟩:=HK I ab.hp L M k;refine SeqAt.notIn_list_reads D J t F ∅ ⟨.bl _,H,I,rfl,?_⟩;k_exc
  |tup ds=>
   ac_nf;cases qb:Ll d ds G with
   |none=>rw[qb]at ok;left
   |some b=>rw[qb]at ok;obtain⟨p,O,g,k,F,t,S,rfl⟩:=oV qb;obtain⟨l,xs,rfl,L,M⟩:=eW r2 q;cases ry;obtain⟨R,J⟩:=dI I ab.hp deep d x v p r1 rx g;obtain⟨bs,D⟩:=HL I ab.hp L M k;refine SeqAt.notIn_tuple_reads D J t F ∅ ⟨.bl _,H,I,rfl,?_⟩;k_exc
  |str j=>
   obtain⟨rfl,rfl⟩:=jP r2 q;cases d with
   |str i=>unfold Rep at r1;subst r1;refine xG pins s σ0 H _ _ v u Q I rx ry ⟨i,j,rfl,rfl,?_⟩;k_exc
   |_=>left
theorem TJ(t:X.A.units+600<cLine)(k:QE X EE a ma)(g:QE X EE b mb)(d:behindInMarks .In b=Ä):QE X EE (.Compare a [.In] [b] pos) (aj (sY Ä) ma mb):=BQ (HM t) jO k g d
def fH(g:Bool):D->D->M D
 |d,.bD=>match d with
  |.bD=>M.ret (.bl (!g))
  |_=>M.ret (.bl g)
 |_,_=>M.stop
theorem Dk{d:D}{x:V}(r:Rep K mg ρ H d x):decide (x=.bD)=(match d with|.bD=>Ã|_=>Ä):=by
 cases d<;>unfold Rep at r
 case bD=>subst r;rfl
 case tup=>obtain⟨a,xs,rfl,_⟩:=r;rfl
 case con=>obtain⟨a,xs,rfl,_⟩:=r;rfl
 case obj=>obtain⟨a,rfl,_⟩:=r;rfl
 case fn=>obtain⟨a,rfl,_⟩:=r;rfl
 case EL=>obtain⟨a,g,rfl,_⟩:=r;rfl
 case EN=>obtain⟨k,a,t,xs,rfl,_⟩:=r;rfl
 all_goals (subst r;rfl)
end
section
variable{a b:Expr}{ma mb mc:Y2}
def aE(d e:D):M D:=λG=>match e with
 |.int i=>match ak G d with
  |some (.lst xs)=>match iz xs i with
   |some v=>.ok v G
   |none=>.stuck
  |some (.tup xs)=>match iz xs i with
   |some v=>.ok v G
   |none=>.stuck
  |some (.str z)=>if z.length<=Ç then (match iz z.cps.toList i with
   |some c=>.ok (.str ⟨#[c]⟩) G
   |none=>.stuck) else .stuck
  |none=>.stuck
 |_=>.stuck
theorem zo{i:Int}{d:D}(r:ao K mg ρ H ds vs)(h:iz ds i=À d):∃v,iz vs i=À v/\Rep K mg ρ H d v:=by
 unfold iz at h |-;rw[<- r.length];cases e:Bt ds.length i with
 |none=>rw[e]at h;cases h
 |some j=>rw[e]at h;obtain⟨v,g,k⟩:=r.get (show ds[j]?=À d from h);exact⟨v,g,k⟩
theorem WD:R6 X (rD X EE aE):=by
 intro g k pins s σ0 H x y v u Q I D F zu M;obtain⟨S,τ,ρ,G,d,e,ab,L,r2,ok⟩:=zu;cases e<;>try exact ok.elim
 rename_i i;f_len;subst r2;dsimp only[aE]at ok;cases q:ak G d with
 |none=>kj_on
 |some sk=>
  k_is;cases sk with
  |lst ds=>
   ac_nf;cases qa:iz ds i with
   |none=>rw[qa]at ok;left
   |some z=>rw[qa]at ok;obtain⟨l,xs,rfl,O,R⟩:=bG (pins:=pins) (σ0:=σ0) (s:=s) ab.hp L q;obtain⟨w,t,J⟩:=zo R qa;exact LM g k pins s σ0 H _ _ v u Q I D F ⟨l,xs,i,w,rfl,rfl,O,t,ok w H ρ .refl ab J⟩ M
  |tup ds=>
   ac_nf;cases qa:iz ds i with
   |none=>rw[qa]at ok;left
   |some z=>rw[qa]at ok;obtain⟨l,xs,rfl,O,R⟩:=eW L q;obtain⟨w,t,J⟩:=zo R qa;exact Pp g k pins s σ0 H _ _ v u Q I D F ⟨l,xs,i,w,rfl,rfl,O,t,ok w H ρ .refl ab J⟩ M
  |str z=>
   ac_nf;obtain⟨rfl,rfl⟩:=jP L q;by_cases hz:z.length<=Ç
   ·rw[Α hz]at ok;cases qa:iz z.cps.toList i with
    |none=>rw[qa]at ok;left
    |some c=>rw[qa]at ok;exact Pq g k pins s σ0 H _ _ v u Q I D F ⟨z,i,c,rfl,rfl,hz,qa,ok _ H ρ .refl ab (by unfold Rep;rfl)⟩ M
   ·rw[Β hz]at ok;left
theorem HN(g:QE X EE a ma)(d:QE X EE b mb)(k:rZ b:=by intro _ _;rfl):QE X EE (.Subscript a b pos) (aj aE ma mb):=Tu WD jO g d k
def bU:DS->M (Option Int):=λ_=>M.ret Æ
def aS(m:Y2):DS->M (Option Int):=λτ=>(m τ).bind λd=>match d with
 |.int i=>M.ret (À i)
 |_=>M.stop
def Zv(K:Ì)(g:Str->Option Å)(EE:bF)(H:Hp)(d:L2.St)(τ:DS)(ρ:Q1):Out (Option Int)->(Option Int->Hp->Prop)->Prop
 |.stuck,_=>False
 |.ok b G',Q=>∀H' ρ',cQ K H H' ρ ρ'->Ab K g d H' τ ρ' G'->Q b H'
 |.bP c G',_=>∀H' ρ',cQ K H H' ρ ρ'->Ab K g d H' τ ρ' G'->EE c d H'
def TM(K:Ì)(g:Str->Option Å)(EE:bF)(m:DS->M (Option Int)):TO:=λd H Q=>∃τ ρ G,Ab K g d H τ ρ G/\Zv K g EE H d τ ρ (m τ G) Q
def QO(X:Cx)(EE:bF)(e:Option Expr)(m:DS->M (Option Int)):Prop:=PO X e (TM X.K X.mg EE m)
theorem PO.mono{e:Option Expr}{t t':TO}(h:PO X e t)(i:∀d H Q,t' d H Q->t d H Q):PO X e t':=λpins s d H Q I q=>h pins s d H Q I (i _ _ _ q)
theorem LZ:QO X EE Æ bU:=PO.mono LJ λk H Q g=>by obtain⟨τ,ρ,G,ab,d⟩:=g;exact d H ρ .refl ab
theorem L0(k:QE X EE a ma):QO X EE (À a) (aS ma):=PO.mono (LK k) λt H Q zz=>by
 k_mem;nofun;dsimp only[aS,M.bind]at ok;cases e:ma τ G with
 |stuck=>right
 |bP c G'=>right
 |ok d G'=>
  kt_k;intro v H' ρ' f g r;k_asm
  rename_i i;k_dec;exact⟨i,r,ok H' ρ' f g⟩
noncomputable def cutD(xs:X2)(d g:Option Int):X2:=(xs.drop (HT.fO xs.length 0 d)).take (HT.fO xs.length xs.length g-HT.fO xs.length 0 d)
def rV(d:D)(g k:Option Int):M D:=λG=>match ak G d with
 |some (.lst xs)=>aR (cutD xs g k) G
 |some (.tup xs)=>if HT.fO xs.length 0 g=0/\HT.fO xs.length xs.length k=xs.length then .stuck else aY (cutD xs g k) G
 |some (.str z)=>if z.length<=Ç then .ok (.str (aax z g k)) G else .stuck
 |none=>.stuck
def iE(m:Y2)(ml t:DS->M (Option Int)):Y2:=λτ=>(m τ).bind λd=>(ml τ).bind λg=>(t τ).bind λk=>rV d g k
def WE(X:Cx)(EE:bF):V->Option Int->Option Int->Hp->VK->Prop:=λx k t H Q=>∃g τ ρ G d,Ab X.K X.mg g H τ ρ G/\Rep X.K X.mg ρ H d x/\jK X.K X.mg EE H g τ ρ (rV d k t G) Q
theorem zq(r:ao K mg ρ H ds vs)(d g:Option Int):ao K mg ρ H (cutD ds d g) (zf vs d g):=by unfold cutD zf;rw[r.length];exact(r.drop _).take _
theorem mP(x:Str)(l u:Option (Int×Tok))(d g:Option Int)(D:l.map (·.1)=d)(F:u.map (·.1)=g)(t:Tok)(s:Ê)(Q:Å->Ê->Prop)(hz:x.length<=Ç)
  (h:∀t' k,Q (.str (aax x d g) t') {s with toks:=k}):(sliceMade x t l u Æ).post Q s:=by
 subst D F;cases l<;>cases u<;>exact post_val_or_str ⟨ü (abt x _ _) hz,λt' k=>h t' k⟩
theorem WG:Vr X (WE X EE):=by
 intro pins s σ0 H x v vl vu D J sl Q I rx V pl pu zu;obtain⟨σ,τ,ρ,G,d,ab,U,ok⟩:=zu;dsimp only[rV]at ok;cases q:ak G d with
 |none=>kj_on
 |some sk=>
  k_is;cases sk with
  |lst ds=>obtain⟨l,xs,rfl,Z,T⟩:=bG (pins:=pins) (σ0:=σ0) (s:=s) ab.hp U q;exact LN pins s σ0 H _ v vl vu D J sl Q I rx V pl pu ⟨l,xs,rfl,Z,(jB ab (zq T D J) ok).2⟩
  |tup ds=>
   obtain⟨l,xs,rfl,Z,T⟩:=eW U q;ac_nf;by_cases Y:HT.fO ds.length 0 D=0/\HT.fO ds.length ds.length J=ds.length
   ·rw[Α Y]at ok;left
   ·rw[Β Y]at ok;refine Po pins s σ0 H _ v vl vu D J sl Q I rx V pl pu ⟨l,xs,rfl,Z,?_,(xS ab (zq T D J) ok).2⟩;rw[<- T.length];exact Y
  |str z=>
   obtain⟨rfl,rfl⟩:=jP U q;ac_nf;by_cases hz:z.length<=Ç
   ·rw[Α hz]at ok;k_few;refine⟨"str",_,F.slot_str_getitem.lookup,typeIs_str _ _ _,?_⟩;obtain⟨o,M,R,O⟩:=V;refine iR I.os.2 ?_;have g:∀t' k,0<k->EP X pins σ0 Q (.str (aax z D J) t') {s with toks:=k}:=λt' k ht=>⟨.str _,H,I.tok k,⟨t',rfl⟩,ok _ H ρ .refl ab (by unfold Rep;rfl)⟩;cases pl with
    |none=>
     cases pu with
     |none=>exact ũ (l:=Æ) (u:=Æ) (st:=Æ) ⟨o,M,R,O⟩ rfl (mP z Æ Æ Æ Æ rfl rfl t s _ hz g)
     |int j L=>exact ũ (l:=Æ) (u:=À (j,L)) (st:=Æ) ⟨o,M,R,O⟩ rfl (mP z Æ (À (j,L)) Æ (À j) rfl rfl t s _ hz g)
    |int i S=>
     cases pu with
     |none=>exact ũ (l:=À (i,S)) (u:=Æ) (st:=Æ) ⟨o,M,R,O⟩ rfl (mP z (À (i,S)) Æ (À i) Æ rfl rfl t s _ hz g)
     |int j L=>exact ũ (l:=À (i,S)) (u:=À (j,L)) (st:=Æ) ⟨o,M,R,O⟩ rfl (mP z (À (i,S)) (À (j,L)) (À i) (À j) rfl rfl t s _ hz g)
   ·rw[Β hz]at ok;left
theorem HP{mh:DS->M (Option Int)}(T:QE X EE a ma)(J:QO X EE lo ml)(R:QO X EE hi mh):QE X EE (.Subscript a (.Slice lo hi Æ p2) pos) (iE ma ml mh):=
 PE.mono (Hq WG T J R) λO H Q zz=>by
  k_mem;nofun;dsimp only[iE,M.bind]at ok;cases e1:ma τ G with
  |stuck=>f_tup;k_end
  |bP c G'=>f_tup;k_end
  |ok d G1=>
   f_tup;ac_nf;intro v Y ρ1 F gY U;kw_lk;cases e2:ml τ G1 with
   |stuck=>gp_on;k_end
   |bP c G'=>gp_on;exact λH' ρ' g=>ok H' ρ' (F.trans g)
   |ok l G2=>
    gp_on;ac_nf;intro Z D k L;refine⟨τ,D,G2,L,?_⟩;cases e3:mh τ G2 with
    |stuck=>ks_is;k_end
    |bP c G'=>ks_is;exact λH' ρ' g=>ok H' ρ' ((F.trans k).trans g)
    |ok u V=>ks_is;ac_nf;intro H3 t I S;exact⟨O,τ,t,V,d,S,U.mono (k.trans I),ok.fut ((F.trans k).trans I)⟩
def d9(g d:DS->M Bool):DS->M Bool:=λτ=>(g τ).bind λc=>if c then d τ else M.ret Ä
def rW(g d:DS->M Bool):DS->M Bool:=λτ=>(g τ).bind λc=>if c then M.ret Ã else d τ
def jQ(d:DS->M Bool):DS->M Bool:=λτ=>(d τ).bind λc=>M.ret (!c)
variable{ta tb tc:DS->M Bool}{rest:U2}
theorem HQ{Q:Bool->Hp->Prop}(h:liftT X.K X.mg EE (d9 ta tb) σ H Q):SJ (liftT X.K X.mg EE ta) (liftT X.K X.mg EE tb) σ H Q:=by
 obtain⟨τ,ρ,G,ab,ok⟩:=BP (k:=λτ c=>if c then tb τ else M.ret Ä) h;nofun;cases e:ta τ G with
 |stuck=>right
 |bP c G'=>right
 |ok k G'=>
  kt_k;intro H' ρ' g d;obtain⟨τ2,ρ2,G2,bY,aQ⟩:=ok H' ρ' g d;cases k with
  |true=>l_bnd
  |false=>exact aQ H' ρ2 .refl bY
theorem L1{Q:Bool->Hp->Prop}(h:liftT X.K X.mg EE (rW ta tb) σ H Q):Ym (liftT X.K X.mg EE ta) (liftT X.K X.mg EE tb) σ H Q:=by
 obtain⟨τ,ρ,G,ab,ok⟩:=BP (k:=λτ c=>if c then M.ret Ã else tb τ) h;nofun;cases e:ta τ G with
 |stuck=>right
 |bP c G'=>right
 |ok k G'=>
  kt_k;intro H' ρ' g d;obtain⟨τ2,ρ2,G2,bY,aQ⟩:=ok H' ρ' g d;cases k with
  |false=>l_bnd
  |true=>exact aQ H' ρ2 .refl bY
theorem PW.mono{t:TT}(h:PW X e t)(i:∀d H Q,t' d H Q->t d H Q):PW X e t':=λg pins s d H Q I q=>h g pins s d H Q I (i _ _ _ q)
theorem L4(d:QT X EE a ta):QW X EE (.BoolOp .And [a] pos) ta:=Lv d
theorem Qe(d:QT X EE a ta):QW X EE (.BoolOp .Or [a] pos) ta:=OS d
theorem Qf(g:QT X EE a ta)(d:QW X EE (.BoolOp .And (b::rest) pos) tb):QW X EE (.BoolOp .And (a::b::rest) pos) (d9 ta tb):=PW.mono (OT g d) λ_ _ _ h=>HQ h
theorem TN(g:QT X EE a ta)(d:QW X EE (.BoolOp .Or (b::rest) pos) tb):QW X EE (.BoolOp .Or (a::b::rest) pos) (rW ta tb):=PW.mono (SK g d) λ_ _ _ h=>L1 h
theorem WH(h:QW X EE e ta):QT X EE e ta:=h.pt
theorem Qg(D:QT X EE a ta):QT X EE (.UnaryOp .Not a pos) (jQ ta):=PT.mono (OU D) λO H Q h=>by
 obtain⟨τ,ρ,G,ab,ok⟩:=BP (k:=λτ c=>M.ret (!c)) h;nofun;cases e:ta τ G with
 |stuck=>right
 |bP c G'=>right
 |ok k G'=>kt_k;intro H' ρ' t g;obtain⟨J,d,L,I,F⟩:=ok H' ρ' t g;exact F H' d .refl I
def cy(m:Y2):DS->M Bool:=λτ=>(m τ).bind λd=>match d with
 |.bl b=>M.ret b
 |_=>M.stop
theorem Dl{m:Y2}{Q:Bool->Hp->Prop}(h:liftT X.K X.mg EE (cy m) σ H Q):cE X.K X.mg EE m σ H λx g=>∃c,x=.bl c/\Q c g:=by
 obtain⟨τ,ρ,G,ab,ok⟩:=HC (k:=λ_ d=>match d with|.bl b=>M.ret b|_=>M.stop) h;nofun;cases e:m τ G with
 |stuck=>right
 |bP c G'=>right
 |ok d G'=>
  k_go;cases d2<;>try exact aQ.elim
  rename_i k;f_len;exact⟨k,r2,aQ H' ρ2 .refl bY⟩
theorem Qh(D:gW X (compareOp op) (rD X EE f))(t:QE X EE a ma)(k:QE X EE b mb)(g:behindInMarks op b=Ä):QT X EE (.Compare a [op] [b] pos) (cy (aj f ma mb)):=
 PT.mono (LG D t k g) λF H Q h=>by have d:=Dl h;exact se jO d
theorem tu{g:Å->Å->Sem Å}{r:R2}(k:gW X g r)(t:LW X EE r f):gW X g (rD X EE f):=λpins s D H x y v u Q I d F q=>k pins s D H x y v u Q I d F (Tz t q)
theorem Qi:gW X (compareOp .Lt) (rD X EE ER):=tu S4 (jM λ_ _ _ _=>by unfold Rep;rfl)
theorem Qj:gW X (compareOp .LtE) (rD X EE Tv):=tu S5 (jM λ_ _ _ _=>by unfold Rep;rfl)
theorem Qk:gW X (compareOp .Gt) (rD X EE qA):=tu S6 (jM λ_ _ _ _=>by unfold Rep;rfl)
theorem Ql:gW X (compareOp .GtE) (rD X EE PZ):=tu N3 (jM λ_ _ _ _=>by unfold Rep;rfl)
theorem L5:gW X (compareOp .Is) (rD X EE (fH Ä)):=tu Pc λk H τ ρ G x y d e Q ab g r2 ok=>by
 cases e with
 |bD=>f_len;refine⟨r2,?_⟩;rw[Dk g];cases d<;>exact ok _ H ρ .refl ab (by unfold Rep;rfl)
 |_=>left
theorem HR:gW X (compareOp .IsNot) (rD X EE (fH Ã)):=tu LD λk H τ ρ G x y d e Q ab g r2 ok=>by
 cases e with
 |bD=>f_len;refine⟨r2,?_⟩;rw[Dk g];cases d<;>exact ok _ H ρ .refl ab (by unfold Rep;rfl)
 |_=>left
noncomputable def HU(t:DS->M Bool)(g d:Y2):Y2:=λτ=>(t τ).bind λc=>if c then g τ else d τ
theorem TQ(F:QT X EE c ta)(t:QE X EE a ma)(D:QE X EE b mb):QE X EE (.IfExp c a b pos) (HU ta ma mb):=PE.mono (GY F t D) λI H Q h=>by
 obtain⟨τ,ρ,G,ab,ok⟩:=PN (k:=λτ c=>if c then ma τ else mb τ) h;nofun;cases e:ta τ G with
 |stuck=>right
 |bP c G'=>right
 |ok k G'=>
  kt_k;intro H' ρ' g d;obtain⟨τ2,ρ2,G2,bY,aQ⟩:=ok H' ρ' g d;cases k with
  |true=>l_bnd
  |false=>l_bnd
def EU(k g:Y2):Y2:=λτ=>(k τ).bind λd=>match d with
 |.bl Ã=>g τ
 |.bl Ä=>M.ret (.bl Ä)
 |_=>M.stop
def TU(k g:Y2):Y2:=λτ=>(k τ).bind λd=>match d with
 |.bl Ä=>g τ
 |.bl Ã=>M.ret (.bl Ã)
 |_=>M.stop
theorem Qm {op} (h:QE X EE a ma):QE X EE (.BoolOp op [a] pos) ma:=OV h
theorem Qn(g:QE X EE a ma)(t:QE X EE (.BoolOp .And (b::rest) pos) mb):QE X EE (.BoolOp .And (a::b::rest) pos) (EU ma mb):=PE.mono (OW g t) λD H Q h=>by
 obtain⟨τ,ρ,G,ab,ok⟩:=kr (k:=λτ d=>match d with|.bl Ã=>mb τ|.bl Ä=>M.ret (.bl Ä)|_=>M.stop) h;nofun;cases e:ma τ G with
 |stuck=>right
 |bP c G'=>right
 |ok k G'=>
  k_go;cases d2<;>try exact aQ.elim
  rename_i k;f_len;refine⟨k,r2,?_⟩;cases k with
  |true=>l_bnd
  |false=>exact aQ _ H' ρ2 .refl bY (by unfold Rep;rfl)
theorem TV(g:QE X EE a ma)(t:QE X EE (.BoolOp .Or (b::rest) pos) mb):QE X EE (.BoolOp .Or (a::b::rest) pos) (TU ma mb):=PE.mono (SN g t) λD H Q h=>by
 obtain⟨τ,ρ,G,ab,ok⟩:=kr (k:=λτ d=>match d with|.bl Ä=>mb τ|.bl Ã=>M.ret (.bl Ã)|_=>M.stop) h;nofun;cases e:ma τ G with
 |stuck=>right
 |bP c G'=>right
 |ok k G'=>
  k_go;cases d2<;>try exact aQ.elim
  rename_i k;f_len;refine⟨k,r2,?_⟩;cases k with
  |false=>l_bnd
  |true=>exact aQ _ H' ρ2 .refl bY (by unfold Rep;rfl)
def zu(g:Y2):Y2:=λτ=>(g τ).bind λd=>match d with
 |.int i=>M.ret (.int (-i))
 |_=>M.stop
theorem Qo(g:QE X EE a ma):QE X EE (.UnaryOp .USub a pos) (zu ma):=PE.mono (S1 Pb g) λt H Q h=>by
 obtain⟨τ,ρ,G,ab,ok⟩:=kr (k:=λτ d=>match d with|.int i=>M.ret (.int (-i))|_=>M.stop) h;nofun;cases e:ma τ G with
 |stuck=>right
 |bP c G'=>right
 |ok k G'=>
  k_go;cases d2<;>try exact aQ.elim
  rename_i k;f_len;exact⟨k,r2,aQ _ H' ρ2 .refl bY (by unfold Rep;rfl)⟩
def nL(f g:D->D->M D)(k d t:Y2):Y2:=λτ=>(k τ).bind λx=>(d τ).bind λy=>(f x y).bind λz=>match z with
 |.bl Ã=>(t τ).bind λw=>g y w
 |.bl Ä=>M.ret (.bl Ä)
 |_=>M.stop
end
section
variable{a b:Expr}{ma mb mc:Y2}{ta tb tc:DS->M Bool}{mt:MS}
theorem HV{g:D->D->M D}(ho:gW X (compareOp op) (rD X EE f))(O:gW X (compareOp op') (rD X EE g))(ha:QE X EE a ma)(hb:QE X EE b mb)(hc:QE X EE c mc)
  (hm:lastMarks [op,op'] [b,c]=Ä:=by with_unfolding_all rfl):QT X EE (.Compare a [op,op'] [b,c] pos) (cy (nL f g ma mb mc)):=
 PT.mono (Hh ho O ha hb hc hm) λV H Q h=>by
  obtain⟨τ,ρ,G,ab,ok⟩:=Dl h;nofun;dsimp only[nL,M.bind]at ok;cases e1:ma τ G with
  |stuck=>f_tup;k_end
  |bP c G'=>f_tup;k_end
  |ok x G1=>
   f_tup;ac_nf;intro v H1 ρ1 J gY r1;kw_lk;cases e2:mb τ G1 with
   |stuck=>gp_on;k_end
   |bP c G'=>gp_on;exact λH' ρ' d=>ok H' ρ' (J.trans d)
   |ok y G2=>
    gp_on;ac_nf;intro w H2 S F Z T;refine⟨V,τ,S,G2,x,y,Z,r1.mono F,T,?_⟩;cases e3:f x y G2 with
    |stuck=>ks_is;k_end
    |bP c G'=>ks_is;exact λH' ρ' d=>ok H' ρ' ((J.trans F).trans d)
    |ok z G3=>
     ks_is;ac_nf;intro vz H3 I L Y r3;cases z<;>try exact ok.elim
     rename_i k;unfold Rep at r3;refine⟨k,r3,?_⟩;cases k with
     |false=>exact ok _ H3 I ((J.trans F).trans L) Y (by unfold Rep;rfl)
     |true=>
      dsimp only[M.bind]at ok;refine⟨τ,I,G3,Y,?_⟩;cases e4:mc τ G3 with
      |stuck=>rw[e4]at ok;k_end
      |bP c G'=>rw[e4]at ok;exact λH' ρ' d=>ok H' ρ' (((J.trans F).trans L).trans d)
      |ok t G4=>rw[e4]at ok;ac_nf;intro vt H4 R U Zw r4;exact⟨V,τ,R,G4,y,t,Zw,T.mono (L.trans U),r4,ok.fut (((J.trans F).trans L).trans U)⟩
def bC:MS:=λτ G=>.nx τ G
def av(m k:MS):MS:=λτ G=>match m τ G with
 |.nx τ' G'=>k τ' G'
 |r=>r
theorem L6:qh X EE [] bC:=BA.mono Lw λD g H k=>by obtain⟨τ,ρ,G,ab,d⟩:=k;exact d g H ρ .refl ab
theorem HW(h:iC X.K X.mg EE (av ms mt) Dd σ H):SQ (iC X.K X.mg EE ms) (iC X.K X.mg EE mt) Dd σ H:=by
 x_go;nofun;dsimp only[av]at ok;cases e:ms τ G with
 |nx τ' G'=>kt_k;exact λk H' ρ' f g=>⟨τ',ρ',G',g,ok.fut f⟩
 |stuck=>right
 |rt d G=>right
 |bk τ G=>right
 |ct τ G=>right
 |xn c τ G=>right
theorem HX{st:Stmt}{d:List Stmt}(k:QS X EE st ms)(g:qh X EE d mt):qh X EE (st::d) (av ms mt):=BA.mono (GZ k g) λ_ _ _ h=>HW h
theorem L7{st:Stmt}(d:QS X EE st ms):qh X EE [st] ms:=Lx d
def Oa:MS:=λτ G=>.ct τ G
theorem zw {pos}:QS X EE (.Continue pos) Oa:=PS.mono zc λD g H k=>by obtain⟨τ,ρ,G,ab,d⟩:=k;exact d g H ρ .refl ab
def dG(m:Y2):MS:=λτ=>bI (m τ) (λ_ G=>.nx τ G) λc G=>.xn c τ G
def bS(m:Y2):MS:=λτ=>bI (m τ) (λd G=>.rt d G) λc G=>.xn c τ G
def aC(i:Nat)(m:Y2):MS:=λτ=>bI (m τ) (λd G=>.nx (τ.set i (À d)) G) λc G=>.xn c τ G
def iV(t:DS->M Bool)(g d:MS):MS:=λτ=>bI (t τ) (λc G=>if c then g τ G else d τ G) λc G=>.xn c τ G
theorem L8(t:QE X EE a ma)(F:swapsWith a Æ pos.line X.env=pure Ä):QS X EE (.Expr a pos) (dG ma):=PS.mono (Ly t F) λD g H h=>by
 obtain⟨τ,ρ,G,ab,ok⟩:=sX (k:=λτ d G=>.nx τ G) h;nofun;cases e:ma τ G with
 |stuck=>right
 |bP c G'=>right
 |ok d G'=>k_go;exact aQ g H' ρ2 .refl bY
theorem Qp(g:QE X EE a ma):QS X EE (.Return (À a) pos) (bS ma):=PS.mono (OX g) λD t H h=>by
 obtain⟨τ,ρ,G,ab,ok⟩:=sX (k:=λτ d G=>.rt d G) h;nofun;cases e:ma τ G with
 |stuck=>right
 |bP c G'=>right
 |ok d G'=>k_go;exact aQ v H' ρ2 .refl bY.hp r2
theorem Ab.set{d:D}(ab:Ab K mg σ H τ ρ G)(r:Rep K mg ρ H d v):Ab K mg (σ.set i (À v)) H (τ.set i (À d)) ρ G:=⟨ab.st.set r,ab.hp⟩
theorem Qq{g:Pos}(L:X.N.Nodup)(M:QE X EE a ma)(I:X.N[i]?=À x)(t:Loc X.env.scope x)
  (J:swapsWith a (À (.Name x g)) pos.line X.env=pure Ä:=by rfl) (F:X.fn x=Ã\/X.env.scope.names.lookup x=À .local):
  QS X EE (.Assign [.Name x g] a pos) (aC i ma):=PS.mono (O1 L I t M J F) λD O H h=>by
 obtain⟨τ,ρ,G,ab,ok⟩:=sX (k:=λτ d G=>.nx (τ.set i (À d)) G) h;nofun;cases e:ma τ G with
 |stuck=>right
 |bP c G'=>right
 |ok d G'=>k_go;exact aQ _ H' ρ2 .refl (bY.set r2)
theorem TX(I:QT X EE c tc)(t:qh X EE body ms)(F:qh X EE els mt):QS X EE (.If c body els pos) (iV tc ms mt):=PS.mono (SV I t F) λD J H h=>by
 obtain⟨τ,ρ,G,ab,ok⟩:=HE (k:=λτ c G=>if c then ms τ G else mt τ G) h;nofun;cases e:tc τ G with
 |stuck=>right
 |bP c G'=>right
 |ok k G'=>
  kt_k;intro H' ρ' g d;obtain⟨τ2,ρ2,G2,bY,aQ⟩:=ok H' ρ' g d;cases k with
  |true=>l_bnd
  |false=>l_bnd
abbrev kh:=D->DS->Option DS
def zx(K:Ì)(t:Str->Option Å)(g:kh):TG:=λv D H Q=>∃τ ρ G d τ',Ab K t D H τ ρ G/\Rep K t ρ H d v/\g d τ=À τ'/\∀k,Ab K t k H τ' ρ G->Q k H
def QG(X:Cx)(e:Expr)(g:kh):Prop:=PG X e (zx X.K X.mg g)
def gN(i:Nat):kh:=λd τ=>À (τ.set i (À d))
theorem Ma(J:X.N.Nodup)(D:X.N[i]?=À x)(g:Loc X.env.scope x)(t:X.fn x=Ã\/X.env.scope.names.lookup x=À .local):
  QG X (.Name x pos) (gN i):=by
 intro pins s F H v u Q I r L;obtain⟨τ,ρ,G,d,τ',ab,k,e,q⟩:=L;exact mL J D g t pins s F H v u Q I r (by cases e;exact q _ (ab.set k))
noncomputable def bh(g:kh)(body:MS):X2->MS
 |[],τ,G=>.nx τ G
 |d::r,τ,G=>match g d τ with
  |none=>.stuck
  |some k=>match body k G with
   |.nx τ' G'=>bh g body r τ' G'
   |.ct τ' G'=>bh g body r τ' G'
   |.bk τ' G'=>.nx τ' G'
   |x=>x
noncomputable def m9(g:kh)(body:MS)(n:Nat):Nat->Nat->MS
 |0,_,_,_=>.stuck
 |f+1,k,τ,G=>match G[n]? with
  |some (.lst xs)=>match xs[k]? with
   |none=>.nx τ G
   |some d=>match g d τ with
    |none=>.stuck
    |some t=>match body t G with
     |.nx τ' G'=>m9 g body n f (k+1) τ' G'
     |.ct τ' G'=>m9 g body n f (k+1) τ' G'
     |.bk τ' G'=>.nx τ' G'
     |x=>x
  |_=>.stuck
end
variable{g:kh}
def Mb(z:Str):It:=⟨λi _=>i<z.cps.size,λi H x H'=>H'=H/\∃c,z.cps[i]?=À c/\x=.str ⟨#[c]⟩,λi _=>z.cps.size<=i⟩
theorem HY(z:Str)(t:Tok)(it:Addr):Turn P w K tg (Mb z) [it] it (λi h=>h.IsStrIter it (strIterType z) z t i) where
 mem:=by simp
 obj:=λi h st b J=>by
  have e:b=it:=‹J›
  kpc_g;obtain⟨o,e,c,d⟩:=st;kst_p
 keep:=λi h h' st k=>by obtain⟨o,e,r⟩:=st;exact⟨o,k it ⋯ o e,r⟩
 item:=by
  intro X hP hw hK R i pins s O H E I hf st S;kd_in;k_ne;have L:z.cps[i]?=À z.cps[i]:=Ľ S
  have D:∀h',h'.IsStrIter it (strIterType z) z t (i+1)->Į it s.heap h'->∃u,À (Value.str ⟨#[z.cps[i]]⟩ s.toks)=À u /\
   Ú (model X.prog X.w) X.A (letOwnedTupleGo tg (.ref it) u) (λ_ T=>∃x H',Inv X pins O H' T/\RelV x u/\(Mb z).vO i H x H'/\T.heap.IsStrIter it (strIterType z) z t (i+1)/\∀b∈[it],H' b=Æ) E {s with heap:=h',toks:=s.toks+1}:=λh' F M=>by
   have U:Inv X pins O H {s with heap:=h',toks:=s.toks+1}:=I.turned (t':=s.toks+1) (λb o J e=>(M.2 b J).trans e) f0 f1 f3 f4 f5;obtain⟨o,e,c,d⟩:=id F;refine⟨_,rfl,vP (s:={s with heap:=h',toks:=s.toks+1}) e c d ?_ ⟨.str ⟨#[z.cps[i]]⟩,H,U,⟨_,rfl⟩,⟨rfl,_,L,rfl⟩,F,λb J=>(hf b J).1⟩⟩;unfold strIterType;split<;>decide
  cases ha:z.cps.all (·<128)with
  |true=>
   have e:strIterType z="str_ascii_iterator":=by unfold strIterType;rw[ha];rfl
   rw[e]at st D;exact wpAny_pyNext_ascii_item st L λh' F M=>by rw[e];exact D h' F M
  |false=>
   have e:strIterType z="str_iterator":=by unfold strIterType;rw[ha];rfl
   rw[e]at st D;exact wpAny_pyNext_wide_item st L λh' F M=>by rw[e];exact D h' F M
 done:=by
  intro X hP hw hK R i pins s O H E I hf st S;kd_in;k_ne;have L:z.cps[i]?=Æ:=aaI S;have D:∀h',acO it s.heap h'->(Æ:Option Å)=Æ/\Inv X pins O H {s with heap:=h'}:=λh' V=>⟨rfl,I.turned (t':=s.toks) (λb o J e=>V b o J e) f0 f1 f3 f4 f5⟩;cases ha:z.cps.all (·<128)with
  |true=>
   have e:strIterType z="str_ascii_iterator":=by unfold strIterType;rw[ha];rfl
   rw[e]at st;exact wpAny_pyNext_ascii_end (I.ok.hd R) st L D
  |false=>
   have e:strIterType z="str_iterator":=by unfold strIterType;rw[ha];rfl
   rw[e]at st;exact wpAny_pyNext_wide_end (I.ok.hd R) st L D
 self:=λA i s Q E st h=>by
  cases ha:z.cps.all (·<128)with
  |true=>
   have e:strIterType z="str_ascii_iterator":=by unfold strIterType;rw[ha];rfl
   rw[e]at st;exact wpAny_pyIter_striter_ascii st h
  |false=>
   have e:strIterType z="str_iterator":=by unfold strIterType;rw[ha];rfl
   rw[e]at st;exact wpAny_pyIter_striter_wide st h
section
variable{a b:Expr}{ma mb mc:Y2}{mt:MS}
def gG(g:kh)(m:Y2)(body:MS):MS:=λτ=>bI (m τ) (λd G=>match d with
 |.obj n=>match G[n]? with
  |some (.lst xs)=>m9 g body n (xs.length+1) 0 τ G
  |_=>.stuck
 |.tup xs=>bh g body xs τ G
 |.con xs=>bh g body xs τ G
 |.str z=>bh g body (z.cps.toList.map λc=>.str ⟨#[c]⟩) τ G
 |_=>.stuck) λc G=>.xn c τ G
theorem mQ{g:kh}{body:MS}{Dd:Ends}{J:It}{H0:Hp}{σ0:L2.St}{k:Q1}{M:DH}{F:DS}(ds:X2)
  (S:∀i H ρ,i<ds.length->cQ X.K H0 H k ρ->J.go i H) (L:∀i H ρ,ds.length<=i->cQ X.K H0 H k ρ->J.stop i H)
  (U:∀i d H ρ x H',ds[i]?=À d->cQ X.K H0 H k ρ->J.vO i H x H'->H'=H/\Rep X.K X.mg ρ H d x)
  (ab:Ab X.K X.mg σ0 H0 F k M) (ok:sW X.K X.mg EE H0 k Dd (bh g body ds F M)):
  ∃W:Nat->Nat->L2.St->Hp->Prop,(∃m,W 0 m σ0 H0)/\∀i m I H,W i m I H ->
   (J.stop i H/\Dd.nx I H)\/(J.go i H/\∃N:L2.St->Hp->Prop,(∀t H',N t H'->∃O,O<m/\W (i+1) O t H')/\∀x H',J.vO i H x H'->zx X.K X.mg g x I H' λσ2 H2=>iC X.K X.mg EE body {Dd with nx:=N,ct:=N,bk:=Dd.nx} σ2 H2):=by
 refine⟨λi m I H=>i<=ds.length/\m=ds.length-i/\∃τ ρ G,Ab X.K X.mg I H τ ρ G/\cQ X.K H0 H k ρ/\sW X.K X.mg EE H ρ Dd (bh g body (ds.drop i) τ G),⟨ds.length,ê _,rfl,F,k,M,ab,.refl,‹ok›⟩,?_⟩;rintro i m I H ⟨V,rfl,τ,ρ,G,ab,f,ok⟩;by_cases D:i<ds.length
 ·refine .inr ⟨S i H ρ D f,λt H'=>∃τ' ρ' G',Ab X.K X.mg t H' τ' ρ' G'/\cQ X.K H0 H' k ρ'/\sW X.K X.mg EE H' ρ' Dd (bh g body (ds.drop (i+1)) τ' G'),λt H' n=>⟨ds.length-(i+1),∅,D,rfl,n⟩,λx H' y=>?_⟩;obtain⟨rfl,T⟩:=U i ds[i] H ρ x H' (Í D) f y;rw[ľ D]at ok;unfold bh at ok;cases e:g ds[i] τ with
  |none=>kt_k;left
  |some τ1=>
   kt_k;ac_nf;refine⟨τ,ρ,G,ds[i],τ1,ab,T,e,λt R=>⟨τ1,ρ,G,R,?_⟩⟩;cases eb:body τ1 G with
   |stuck=>kt_le
   |nx τ2 G2=>kl_no
   |ct τ2 G2=>kl_no
   |bk τ2 G2=>kt_le
   |rt d G2=>kt_le
   |xn c τ2 G2=>kt_le
 ·have e:i=ds.length:=∅
  kpc_g;refine .inl ⟨L _ H ρ (Ë _) f,?_⟩;rw[ŏ (Ë _)]at ok;exact ok I H ρ .refl ab
theorem Mc{g:kh}{body:MS}{Dd:Ends}{H0:Hp}{σ0:L2.St}{I:DH}{t:DS}{p:Addr}{fuel:Nat}(T:ρ0[n]?=À p)
  (ab:Ab X.K X.mg σ0 H0 t ρ0 I) (ok:sW X.K X.mg EE H0 ρ0 Dd (m9 g body n fuel 0 t I)):
  ∃W:Nat->Nat->L2.St->Hp->Prop,(∃m,W 0 m σ0 H0)/\∀i m D H,W i m D H ->
   ((Lk X.K p).stop i H/\Dd.nx D H)\/((Lk X.K p).go i H/\∃N:L2.St->Hp->Prop,(∀k H',N k H'->∃J,J<m/\W (i+1) J k H')/\∀x H',(Lk X.K p).vO i H x H'->zx X.K X.mg g x D H' λσ2 H2=>iC X.K X.mg EE body {Dd with nx:=N,ct:=N,bk:=Dd.nx} σ2 H2):=by
 refine⟨λi m D H=>∃τ ρ G,Ab X.K X.mg D H τ ρ G/\cQ X.K H0 H ρ0 ρ/\sW X.K X.mg EE H ρ Dd (m9 g body n m i τ G),⟨fuel,t,ρ0,I,ab,.refl,ok⟩,?_⟩;rintro i m D H ⟨τ,ρ,G,ab,f,ok⟩;cases m with
 |zero=>left
 |succ m=>
  unfold m9 at ok;cases q:G[n]? with
  |none=>kj_on
  |some o=>
   cases o with
   |lst ds=>
    k_is;ac_nf;obtain⟨V,xs,e1,F,L⟩:=ab.hp.lst q;rw[f.get T]at e1;cases e1;cases qd:ds[i]? with
    |none=>
     rw[qd]at ok;have R:xs.length<=i:=by rw[<- L.length];exact Č.mp qd
     exact .inl ⟨⟨xs,.of F,R⟩,ok D H ρ .refl ab⟩
    |some d=>
     rw[qd]at ok;ac_nf;obtain⟨U,M,S⟩:=L.get qd;refine .inr ⟨⟨xs,U,.of F,M⟩,λk H'=>∃τ' ρ' G',Ab X.K X.mg k H' τ' ρ' G'/\cQ X.K H0 H' ρ0 ρ'/\sW X.K X.mg EE H' ρ' Dd (m9 g body n m (i+1) τ' G'),λk H' z=>⟨m,Ĳ _,z⟩,λx H' y=>?_⟩;obtain⟨rfl,y⟩:=y;have e3:=y xs (.of F);rw[M]at e3;cases e3;cases e:g d τ with
     |none=>kt_k;left
     |some τ1=>
      kt_k;ac_nf;refine⟨τ,ρ,G,d,τ1,ab,S,e,λk O=>⟨τ1,ρ,G,O,?_⟩⟩;cases eb:body τ1 G with
      |stuck=>kt_le
      |nx τ2 G2=>kl_no
      |ct τ2 G2=>kl_no
      |bk τ2 G2=>kt_le
      |rt d G2=>kt_le
      |xn c τ2 G2=>kt_le
   |_=>rfl'
theorem PI.any{l:Expr}{M:TE}(O:PE X l M):PI X tg l (λk H R=>M k H λx d=>(∃p,x=.ref p/\(∃xs,ko X.K d p xs)/\R (Lk X.K p) d)\/(∃p,x=.ref p/\(∃xs,m8 X.K d p xs)/\R (Vp X.K p) d)\/∃z,x=.str z/\R (Mb z) d):=by
 intro pins s k H R I h;refine dO (O pins s k H _ I h) λu s1 S=>?_;obtain⟨x,d,I1,J,q⟩:=S;rcases q with⟨p,rfl,⟨xs,L⟩,q⟩|⟨p,rfl,⟨xs,L⟩,q⟩|⟨z,rfl,q⟩
 ·cases J;obtain⟨its,T,pl,hz⟩:=I1.list L;refine aaJ pl.isList ?_;have D:Inv X pins k d {s1 with heap:=s1.heap.push {cls:=.type "list_iterator",data:=.fields #[.ref p,.int 0 0]}}:=I1.kept (t':=s1.toks) λb o e=>É _ e;refine⟨s1.heap.objs.size,[s1.heap.objs.size],_,Lk X.K p,d,rfl,D,EA p _,⟨_,Ð _ rfl,rfl,rfl⟩,λb F=>?_,q⟩;have e:b=s1.heap.objs.size:=‹F›
  kpc_g;sr_in
 ·cases J;obtain⟨its,T,pl,hz⟩:=I1.tuple L;refine Ű pl ?_;have D:Inv X pins k d {s1 with heap:=s1.heap.push {cls:=.type "tuple_iterator",data:=.fields #[.ref p,.int 0 0]}}:=I1.kept (t':=s1.toks) λb o e=>É _ e;refine⟨s1.heap.objs.size,[s1.heap.objs.size],_,Vp X.K p,d,rfl,D,BC p _,⟨_,Ð _ rfl,rfl,rfl⟩,λb F=>?_,q⟩;have e:b=s1.heap.objs.size:=‹F›
  kpc_g;sr_in
 ·obtain⟨t,rfl⟩:=J;refine wpAny_pyIter_strU ?_;have D:Inv X pins k d {s1 with heap:=s1.heap.push {cls:=.type (strIterType z),data:=.fields #[.str z t,.int 0 0]}}:=I1.kept (t':=s1.toks) λb o e=>É _ e;refine⟨s1.heap.objs.size,[s1.heap.objs.size],_,Mb z,d,rfl,D,HY z t _,⟨_,Ð _ rfl,rfl,rfl⟩,λb F=>?_,q⟩;have e:b=s1.heap.objs.size:=‹F›
  kpc_g;sr_in
theorem Qs(hp:PassesOwn (model X.prog X.w) X.A X.env X.xe)(L:X.calm=Ã)(Z:QE X EE a ma)(hg:QG X tg g)(hb:qh X EE body ms)(hs:∀x,foldedSetIterable a X.env x=pure x:=by intro _;rfl):
  QS X EE (.For tg a body [] pos) (gG g ma ms):=PS.mono (BE hp L (PI.any Z) hg hb hs) λDd σ H h=>by
 obtain⟨τ,ρ,G,ab,ok⟩:=sX (k:=λτ d G=>match d with
  |.obj n=>match G[n]? with
   |some (.lst xs)=>m9 g ms n (xs.length+1) 0 τ G
   |_=>.stuck
  |.tup xs=>bh g ms xs τ G
  |.con xs=>bh g ms xs τ G
  |.str z=>bh g ms (z.cps.toList.map λc=>.str ⟨#[c]⟩) τ G
  |_=>.stuck) h
 nofun;cases e:ma τ G with
 |stuck=>right
 |bP c G'=>right
 |ok d G'=>
  kt_k;intro v V O f1 S r1;obtain⟨Y,ρ2,G2,d2,J,r2,aQ⟩:=ok v V O f1 S r1;cases d2<;>try exact aQ.elim
  case obj n=>
   dsimp only at aQ;f_len;obtain⟨p,rfl,e1⟩:=r2;cases q:G2[n]? with
   |none=>rw[q]at aQ;o_src
   |some o=>
    cases o with
    |lst xs=>rw[q]at aQ;obtain⟨p',vs,e2,U,F⟩:=J.hp.lst q;k_put;exact .inl ⟨p,rfl,⟨vs,.of U⟩,Mc e1 J aQ⟩
    |_=>rfl'
  case tup xs=>
   f_len;obtain⟨p,vs,rfl,D,F⟩:=r2;refine .inr (.inl ⟨p,rfl,⟨vs,D⟩,mQ xs (λi H' ρ' t f=>?_) (λi H' ρ' t f=>?_) (λi d' H' ρ' x T I f y=>?_) J aQ⟩)
   ·rw[F.length]at t;exact⟨vs,vs[i],f.tup _ _ D,Í t⟩
   ·exact⟨vs,f.tup _ _ D,by rw[<- F.length];exact t⟩
   ·obtain⟨rfl,y⟩:=y;obtain⟨R,M,rw'⟩:=F.get I;have:=y vs (f.tup _ _ D);rw[M]at this;cases this;exact⟨rfl,rw'.mono f⟩
  case con xs=>
   f_len;obtain⟨p,vs,rfl,D,F⟩:=r2;refine .inl ⟨p,rfl,⟨vs,D.seq⟩,mQ xs (λi H' ρ' t f=>?_) (λi H' ρ' t f=>?_) (λi d' H' ρ' x T I f y=>?_) J aQ⟩
   ·rw[F.length]at t;exact⟨vs,vs[i],(f.con _ _ D).seq,Í t⟩
   ·exact⟨vs,(f.con _ _ D).seq,by rw[<- F.length];exact t⟩
   ·obtain⟨rfl,y⟩:=y;obtain⟨R,M,rw'⟩:=F.get I;have:=y vs (f.con _ _ D).seq;rw[M]at this;cases this;exact⟨rfl,rw'.mono f⟩
  case str z=>
   f_len;subst r2;refine .inr (.inr ⟨z,rfl,mQ (z.cps.toList.map λc=>.str ⟨#[c]⟩) (λi H' ρ' t f=>?_) (λi H' ρ' t f=>?_) (λi d' H' ρ' x T I f y=>?_) J aQ⟩)
   ·simpa[Mb]using t
   ·simpa[Mb]using t
   ·obtain⟨rfl,c,L,rfl⟩:=y;rw[Þ]at I;have:z.cps.toList[i]?=À c:=‹L›
    rw[this]at I;cases I;exact⟨rfl,by unfold Rep;rfl⟩
noncomputable def fc:X2->Option X2
 |[.int j]=>if -(2^62)<=j/\j<2^62 then À ((Ů j.toNat).map λ(k:Nat)=>.int (0+(k:Int))) else Æ
 |_=>Æ
def kB(d:X2->Option X2)(g:kh)(m:DS->M X2)(body:MS):MS:=λτ=>bI (m τ) (λds G=>match d ds with
 |some xs=>bh g body xs τ G
 |none=>.stuck) λc G=>.xn c τ G
theorem HZ{k:DS->X2->DH->Res}(h:iC K mg EE (λτ=>bI (m τ) (k τ) λc G=>.xn c τ G) Dd σ H):
  lN K mg EE m σ H λx t=>∃τ ρ G d,Ab K mg σ t τ ρ G/\ao K mg ρ t d x/\sW K mg EE t ρ Dd (k τ d G):=by
 x_go;nofun;dsimp only[bI]at ok;cases e:m τ G with
 |stuck=>right
 |bP c G'=>kt_k;k_not
 |ok d G'=>mg_lt
theorem EV{body:MS}{D:DS}(F:Int)(n:Nat)(ab:Ab X.K X.mg σ0 H0 D ρ0 G0)(S:sW X.K X.mg EE H0 ρ0 Dd (bh g body ((Ů n).map λ(k:Nat)=>.int (F+(k:Int))) D G0)):
  ∃W:Nat->Nat->L2.St->Hp->Prop,(∃m,W 0 m σ0 H0)/\∀i m M H,W i m M H ->
   ((xF F n).stop i H/\Dd.nx M H)\/((xF F n).go i H/\∃N:L2.St->Hp->Prop,(∀t H',N t H'->∃O,O<m/\W (i+1) O t H')/\∀x H',(xF F n).vO i H x H'->zx X.K X.mg g x M H' λI R=>iC X.K X.mg EE body {Dd with nx:=N,ct:=N,bk:=Dd.nx} I R):=
 mQ (J:=xF F n) _ (λi H ρ L f=>by simpa[xF]using L) (λi H ρ L f=>by simpa[xF]using L) (λi d H ρ x H' hd f y=>by
  obtain⟨rfl,rfl⟩:=y;rw[Þ]at hd;cases q:(Ů n)[i]? with
  |none=>rw[q]at hd;cases hd
  |some k=>rw[q]at hd;obtain⟨T,e⟩:=Â.mp q;rw[adk]at e;kpc_g;cases hd;exact⟨rfl,by unfold Rep;rfl⟩) ab S
theorem H8{p L:Pos}(hp:PassesOwn (model X.prog X.w) X.A X.env X.xe)(T:X.calm=Ã)(R:X.mg "range"=Æ)(V:QA X EE [a] m)(hg:QG X tg g)(hb:qh X EE body ms)
  (Y:Gl X "range":=by rfl) (d:æ [a] X.env=[(Ä,eval a X.env)]:=by rfl) (hs:∀x,foldedSetIterable (.Call (.Name "range" p) [a] [] L) X.env x=pure x:=by intro _;rfl):
  QS X EE (.For tg (.Call (.Name "range" p) [a] [] L) body [] pos) (kB fc g m ms):=PS.mono (BE hp T (qv Y R V d) hg hb hs) λDd σ H h=>by
 obtain⟨τ,ρ,G,ab,ok⟩:=HZ (k:=λτ ds G=>match fc ds with|some xs=>bh g ms xs τ G|none=>.stuck) h;nofun;cases e:m τ G with
 |stuck=>right
 |bP c G'=>right
 |ok ds G'=>
  kt_k;intro vs S t f1 M Z;obtain⟨U,ρ2,G2,d2,O,D,aQ⟩:=ok vs S t f1 M Z;cases q:fc d2 with
  |none=>rw[q]at aQ;o_src
  |some xs=>
   rw[q]at aQ;unfold fc at q;split at q
   ·rename_i j;split at q
    ·rename_i J;o_rec;unfold ao at D;obtain⟨v,r,rfl,F,I⟩:=D;unfold ao at I;subst I;unfold Rep at F;subst F;exact⟨j,rfl,J.1,J.2,EV 0 j.toNat O aQ⟩
    ·o_rec
   ·o_rec
end
def Zx(K:Ì)(t:Str->Option Å)(H:Hp)(ρ:Q1):Out D->VK->XK->Prop
 |.stuck,_,_=>False
 |.ok d G',Q,_=>∀v H' ρ',cQ K H H' ρ ρ'->fE K t H' ρ' G'->Rep K t ρ' H' d v->Q v H'
 |.bP c G',_,E=>∀k H' ρ',(match c with|.mk n _=>t n=À k)->cQ K H H' ρ ρ'->fE K t H' ρ' G'->E k Æ H'
def g9(K:Ì)(d:Str->Option Å)(n:Nat)(m:X2->M D):Sp:=λvs H Q E=>∃ds ρ G,ds.length=n/\fE K d H ρ G/\ao K d ρ H ds vs/\Zx K d H ρ (m ds G) Q E
theorem g9.len{m:X2->M D}{Q:VK}{E:XK}(h:g9 K mg n m vs H Q E):vs.length=n:=by obtain⟨ds,ρ,G,e,_,r,_⟩:=h;rw[<- r.length,e]
def TZ(t:Str->Option Å)(EE:bF)(k:L2.St):XK:=λd _ H'=>∃c,(match c with|.mk n _=>t n=À d)/\EE c k H'
def Sa(CX:vc)(X:Cx)(EE:bF):Prop:=∀(pins:N0)(k:L2.St)(H:Hp)(s:Ê)(e:Å)(d:Ê),Inv X pins k H s->CX X.stack H s (TZ X.mg EE k) e d->X.xe e d
section
variable{CX:vc}{k:Nat}{f:Addr}{p:Pos}
theorem fE.ab{K:Ì}{d:Str->Option Å}{t:L2.St}{H H':Hp}{τ:DS}{ρ ρ':Q1}{G G':DH}(ab:Ab K d t H τ ρ G)(f:cQ K H H' ρ ρ')(h:fE K d H' ρ' G'):Ab K d t H' τ ρ' G':=⟨ab.st.mono f,h⟩
theorem Dm{pins:N0}{t:L2.St}{H:Hp}{s:Ê}{Q:VK}{D:List Å}{vs:X1}{τ:DS}{ρ:Q1}{G:DH}{ds:X2}(F:lH X.prog X.w X.K X.mg X.base CX k f fd ps (g9 X.K X.mg n mf))(V:gE k X.A)(Y:Binds X.K fd ps [])
  (O:Sa CX X EE) (I:Inv X pins t H s) (r:Vals vs D) (ab:Ab X.K X.mg t H τ ρ G) (rs:ao X.K X.mg ρ H ds vs) (S:ds.length=n) (ok:jK X.K X.mg EE H t τ ρ (mf ds G) Q):Ú (model X.prog X.w) X.A (call (.ref f) D) (EP X pins t Q) X.xe s:=by
 have h:g9 X.K X.mg n mf vs H Q (TZ X.mg EE t):=by
  refine⟨ds,ρ,G,S,ab.hp,rs,?_⟩;cases q:mf ds G with
  |stuck=>k_is;k_end
  |ok d G'=>k_is;exact λv H' ρ' f L r=>ok v H' ρ' f (fE.ab ab f L) r
  |bP c G'=>k_is;exact λZ H' ρ' T f L=>⟨c,T,ok H' ρ' f (fE.ab ab f L)⟩
 have R:(D++[]).length=ps.length:=by rw[ö,<- r.length];exact F.len _ _ _ _ h
 have M:=Y s D I.yV R;rw[ö]at M;refine ad5 (codeAny_mono (F.run X.A X.stack s H ⟨D,[]⟩ D vs Q (TZ X.mg EE t) V I.gF I.os.2 M r h) λr U J=>?_);cases r with
 |error e=>exact O pins t H s e U I J
 |ok fl=>
  cases fl with
  |ret u=>exact I.after J
  |next=>exact Ģ J
  |brk=>exact Ģ J
  |cont=>exact Ģ J
def aF(n:Nat)(d:X2->M D)(m:DS->M X2):Y2:=ai (λds=>if ds.length=n then d ds else M.stop) m
theorem Me(F:lH X.prog X.w X.K X.mg X.base CX k f fd ps (g9 X.K X.mg n mf))(hr:gE k X.A)(U:X.mg x=À (.ref f))(O:Ė X.K (.ref f)=Ã)(hb:Binds X.K fd ps [])(R:Sa CX X EE)
  (Z:QA X EE (e::es) m) (hg:Gl X x:=by rfl) (D:(x==("__debug__":Str))=Ä:=by decide) (V:æ (e::es) X.env=(Ä,eval e X.env)::æ es X.env:=by rfl) (t:(backTo pos (æ es X.env)).any (·.1)=Ä:=by rfl):
  QE X EE (.Call (.Name x p) (e::es) [] pos) (aF n mf m):=by
 kd_p;obtain⟨τ,ρ,G,ab,T⟩:=qy (k:=λ_ ds=>if ds.length=n then mf ds else M.stop) h;refine Ĉ (oG I hg U ?_ D);refine abG (h₀:=X.base) I.ok.mod.OO O (dO (Z pos pins s σ H _ I ⟨τ,ρ,G,ab,T⟩) λus s1 ⟨vs,H1,L,r,q⟩=>⟨L.yV,?_⟩) V t;obtain⟨Y,ρ1,G1,ds,S,rs,d⟩:=q;by_cases J:ds.length=n
 ·rw[Α J]at d;exact Dm F hr hb R L r S rs J d
 ·rw[Β J]at d;exact d.elim
end
noncomputable def cj(N:Nat)(ms:MS)(ds:X2):M D:=λG=>match ms (ds.map À++Ö (N-ds.length) Æ) G with
 |.stuck=>.stuck
 |.nx _ G'=>.ok .bD G'
 |.rt d G'=>.ok d G'
 |.bk _ _=>.stuck
 |.ct _ _=>.stuck
 |.xn c _ G'=>.bP c G'
theorem nM(r:ao K mg ρ H ds vs):vg K mg H ρ (L2.start N vs) (ds.map À++Ö (N.length-ds.length) Æ):=by
 have t:=r.length;refine⟨by unfold L2.start;simp[t],λi d e=>?_⟩;have hi:i<ds.length:=by
  by_cases hi:i<ds.length
  ·exact hi
  ·rw[Ò ‹hi›,Ũ]at e;split at e<;>cases e
 rw[Î ‹hi›,Þ]at e;cases q:ds[i]? with
 |none=>f_int
 |some d'=>f_int;obtain⟨v,k,D⟩:=r.get q;refine⟨v,?_,D⟩;unfold L2.start;rw[Î (by simp;lia),Þ,k];rfl
abbrev Yt:bF:=λ_ _ _=>False
section
variable{a b:Expr}{ma mb mc:Y2}
def GQ(X:Cx)(EE:bF)(f:X2->M D):X1->Hp->VK->Prop:=λxs H Q=>∃d τ ρ G ds,Ab X.K X.mg d H τ ρ G/\ao X.K X.mg ρ H ds xs/\jK X.K X.mg EE H d τ ρ (f ds G) Q
theorem tw{f:X2->M D}:CallD X EE (GQ X EE f) f:=λk H τ ρ G xs ds Q ab r d=>⟨k,τ,ρ,G,ds,ab,r,d⟩
theorem f7{d:D}(r:ao K mg ρ H [d] xs):∃x,xs=[x]/\Rep K mg ρ H d x:=by unfold ao at r;obtain⟨v,F,rfl,t,k⟩:=r;unfold ao at k;subst k;exact⟨v,rfl,t⟩
theorem Dn{d e:D}(r:ao K mg ρ H [d,e] xs):∃x y,xs=[x,y]/\Rep K mg ρ H d x/\Rep K mg ρ H e y:=by unfold ao at r;obtain⟨v,I,rfl,t,k⟩:=r;obtain⟨y,rfl,F⟩:=f7 k;exact⟨v,y,rfl,t,F⟩
def aM:X2->M D
 |[d]=>λG=>match ak G d with
  |some (.lst xs)=>.ok (.int xs.length) G
  |some (.tup xs)=>.ok (.int xs.length) G
  |some (.str z)=>if z.length<=Ç then .ok (.int z.length) G else .stuck
  |none=>.stuck
 |_=>M.stop
theorem EX:eE X (.builtin "len") (GQ X EE aM):=by
 kln_w
 match ds,ok with
 |[],ok=>left
 |_::_::_,ok=>left
 |[d],ok=>
  k_sub;dsimp only[aM]at ok;cases q:ak G d with
  |none=>kj_on
  |some sk=>
   k_is;cases sk with
   |lst zs=>obtain⟨p,vs,rfl,k,t⟩:=bG (pins:=pins) (σ0:=σ0) (s:=s) ab.hp rx q;exact oK pins s σ0 H _ us Q I r ⟨p,vs,rfl,.inl k,ok _ H ρ .refl ab (by unfold Rep;rw[t.length])⟩
   |tup zs=>obtain⟨p,vs,rfl,k,t⟩:=eW rx q;exact oK pins s σ0 H _ us Q I r ⟨p,vs,rfl,.inr k,ok _ H ρ .refl ab (by unfold Rep;rw[t.length])⟩
   |str z=>
    obtain⟨rfl,rfl⟩:=jP rx q;ac_nf;by_cases hz:z.length<=Ç
    ·rw[Α hz]at ok;exact xN pins s σ0 H _ us Q I r ⟨z,rfl,hz,ok _ H ρ .refl ab (by unfold Rep;rfl)⟩
    ·rw[Β hz]at ok;left
inductive Ty where
 |bD|bl|int|str|tup|lst|dct
 deriving DecidableEq
def Ty.nm:Ty->String
 |.bD=>"NoneType" |.bl=>"bool" |.int=>"int" |.str=>"str" |.tup=>"tuple" |.lst=>"list" |.dct=>"dict"
def Sb(G:DH):D->Option Ty
 |.bD=>À .bD
 |.bl _=>À .bl
 |.int _=>À .int
 |.str _=>À .str
 |.tup _=>À .tup
 |.con _=>À .lst
 |.obj n=>match G[n]? with
  |some (.lst _)=>À .lst
  |some (.aO _ _)=>À .dct
  |_=>Æ
 |.fn _=>Æ
 |.EL _ _=>Æ
 |.EN _ _=>Æ
def Ty.is(t c:Ty):Bool:=decide (t=c)||(decide (t=.bl)&&decide (c=.int))
theorem lO(K:Ì):∀(t c:Ty),c≠.bD->Ū K (.type t.nm) (.type c.nm)=À (t.is c):=by intro t c h;cases t<;>cases c<;>first|exact absurd rfl h|rfl|(with_unfolding_all rfl)|symm
def tB(c:Ty)(d:D):M D:=λG=>match Sb G d with
 |some t=>.ok (.bl (t.is c)) G
 |none=>.stuck
def zy(c:Ty)(m:Y2):Y2:=λτ=>(m τ).bind (tB c)
theorem Mf{c:Ty}(hc:c≠.bD){pins:N0}{s:Ê}{σ0 S:L2.St}{H:Hp}{τ:DS}{ρ:Q1}{G:DH}{d:D}{x:V}{u:Å}{Q:VK}(I:Inv X pins σ0 H s)(ab:Ab X.K X.mg S H τ ρ G)(J:Rep X.K X.mg ρ H d x)(ru:RelV x u)
  (ok:jK X.K X.mg EE H S τ ρ (tB c d G) Q):Ú (model X.prog X.w) X.A (call (.builtin "isinstance") [u,.type c.nm]) (EP X pins σ0 Q) X.xe s:=by
 dsimp only[tB]at ok;refine iR I.os.2 ?_;have F:∀{b:Bool},Q (.bl b) H->∀tk,0<tk->EP X pins σ0 Q (.bool b) {s with toks:=tk}:=λq tk ht=>⟨.bl _,H,I.tok tk,rfl,q⟩;cases d with
 |bD=>k_one;unfold Rep at J;subst J;cases ru;exact ŉ PySem.W.kitx_none I.yV ů (lO X.K .bD c hc) (λz=>nomatch z) (F q)
 |bl y=>k_one;unfold Rep at J;subst J;cases ru;exact ŉ PySem.W.kitx_bool I.yV ů (lO X.K .bl c hc) (λz=>nomatch z) (F q)
 |int y=>k_one;unfold Rep at J;subst J;obtain⟨t,rfl⟩:=ru;exact ŉ PySem.W.kitx_int I.yV ů (lO X.K .int c hc) (λz=>nomatch z) (F q)
 |str y=>k_one;unfold Rep at J;subst J;obtain⟨t,rfl⟩:=ru;exact ŉ PySem.W.kitx_str I.yV ů (lO X.K .str c hc) (λz=>nomatch z) (F q)
 |tup ys=>k_one;unfold Rep at J;obtain⟨p,vs,rfl,R,_⟩:=J;cases ru;obtain⟨its,_,⟨o,M,L,_⟩,_⟩:=I.tuple (xQ.t R);exact ŉ PySem.W.kitx_tuple I.yV ⟨o,M,L⟩ (lO X.K .tup c hc) (λz=>nomatch z) (F q)
 |con ys=>k_one;unfold Rep at J;obtain⟨p,vs,rfl,R,_⟩:=J;cases ru;obtain⟨its,_,⟨o,k,M,L,_⟩,_⟩:=I.list R.seq;exact ŉ adt I.yV ⟨o,M,L⟩ (lO X.K .lst c hc) (λz=>nomatch z) (F q)
 |obj n=>
  unfold Rep at J;obtain⟨p,rfl,e1⟩:=J;cases ru;dsimp only[Sb]at ok;cases g:G[n]? with
  |none=>o_new
  |some o=>
   cases o with
   |lst ys=>room;k_one;obtain⟨Z,vs,e2,Y,_⟩:=ab.hp.lst g;k_put;obtain⟨its,_,⟨o,k,M,L,_⟩,_⟩:=I.list (.of Y);exact ŉ adt I.yV ⟨o,M,L⟩ (lO X.K .lst c hc) (λz=>nomatch z) (F q)
   |aO fz kvs=>
    room;k_one;obtain⟨a,e2,xs,O,_⟩:=ab.hp.ob n _ g;k_put;obtain⟨ob,M,L⟩:∃ob,s.heap.get? p=À ob/\ob.cls=.type "dict":=by
     have z:∀u,cU X.prog X.w H s.heap p (.dT u)->∃ob,s.heap.get? p=À ob/\ob.cls=.type "dict":=λu T=>by obtain⟨_,_,_,_,ob,_,_,M,L,_⟩:=T;exact⟨ob,M,L.1⟩
     split at O
     ·obtain⟨o,U⟩:=O;exact z _ (show cU X.prog X.w H s.heap p (.eB o _) from I.hok p _ U).2
     ·exact z _ (I.hok p _ O)
    exact ŉ PySem.W.kitx_dict I.yV ⟨ob,M,L⟩ (lO X.K .dct c hc) (λz=>nomatch z) (F q)
   |_=>rfl'
 |EL _ _=>left
 |EN y0 c0=>left
 |fn x=>left
theorem Qt(c:Ty){p t:Pos}{x:Str}(hc:c≠.bD)(hm:X.mg "isinstance"=Æ)(F:X.mg x=Æ)(ha:QE X EE a ma)(hb:bootBuiltins x=À (.type c.nm))
  (hg:Gl X "isinstance":=by rfl) (R:Gl X x:=by rfl) (L:x≠"__name__":=by decide) (M:(x==("__debug__":Str))=Ä:=by decide)
  (S:æ [a,.Name x t] X.env=(Ä,eval a X.env)::æ [.Name x t] X.env:=by rfl) (Zy:æ [.Name x t] X.env=(Ä,eval (.Name x t) X.env)::æ [] X.env:=by rfl) (J:(backTo pos (æ [.Name x t] X.env)).any (·.1)=Ä:=by rfl)
  (O:bootBuiltins "isinstance"=À (.builtin "isinstance"):=by first|exact PyProof.Rows.boot_isinstance|symm):
  QE X EE (.Call (.Name "isinstance" p) [a,.Name x t] [] pos) (zy c ma):=by
 have hT:PE X (.Name x t) (tC (.ty c.nm)):=Lu R F hb rfl L M;have hA:PA X [a,.Name x t] (Hj (cE X.K X.mg EE ma) (Hj (tC (.ty c.nm)) S7)):=rY ha (rY hT BH Zy) S;kd_p;obtain⟨τ,ρ,G,ab,ok⟩:=kr (k:=λ_ d=>tB c d) h;refine Ĉ (iS I hg hm O ?_ (by decide) (by decide));refine aaU (dO (hA pos pins s σ H (λvs D=>∃x,vs=[x,.ty c.nm]/\∃τ ρ G d,Ab X.K X.mg σ D τ ρ G/\Rep X.K X.mg ρ D d x/\jK X.K X.mg EE D σ τ ρ (tB c d G) Q) I ⟨τ,ρ,G,ab,?_⟩) λus s1 ⟨vs,D,I1,r1,Y⟩=>?_) S J
 ·cases e:ma τ G with
  |stuck=>right
  |bP c G'=>right
  |ok d G'=>kt_k;exact λv H' ρ' U T V=>⟨v,rfl,ok v H' ρ' U T V⟩
 ·obtain⟨y,rfl,τ2,ρ2,G2,d,Z,rd,aQ⟩:=Y;cases r1 with
  |cons ry rr=>
   cases rr with
   |cons rt rr=>cases rr;cases rt;exact Mf hc I1 Z rd ry aQ
end
section
variable{a b:Expr}{ma mb mc:Y2}
noncomputable def rq:X2->Option L9
 |[]=>À []
 |.bl b::r=>(rq r).map (b::·)
 |_::_=>Æ
def Ia(k:Bool):X2->M D
 |[d]=>λG=>match ak G d with
  |some (.lst xs)=>match rq xs with
   |some bs=>.ok (.bl (if k then bs.any id else bs.all id)) G
   |none=>.stuck
  |_=>.stuck
 |_=>M.stop
theorem v8{K:Ì}{t:Str->Option Å}{ρ:Q1}{H:Hp}:∀{ds:X2}{vs:X1}{us:List Å}{bs:L9},ao K t ρ H ds vs->Vals vs us->rq ds=À bs->us=bs.map Value.bool
 |[],vs,us,bs,r,v,e=>by unfold ao at r;subst r;cases v;w_up;rfl
 |d::ds,vs,us,bs,r,v,e=>by
  unfold ao at r;obtain⟨x,I,rfl,k,D⟩:=r;cases v with
  |cons v1 v2=>
   cases d<;>try (cases e;done)
   rename_i b;dsimp only[rq]at e;cases q:rq ds with
   |none=>f_int
   |some F=>f_int;unfold Rep at k;subst k;cases v1;rw[v8 D v2 q];rfl
theorem nN(d:∀b x,b∉[s.heap.objs.size]->(s.heap.push o).get? b=À x->h'.get? b=À x):∀b x,s.heap.get? b=À x->h'.get? b=À x:=
 λb x e=>d b x (λk=>by rw[ï.mp k]at e;exact Ĭ _ (Õ e)) (É _ e)
theorem BS(bs:L9):((Ů bs.length).all λi=>(bs[i]?).getD Ã)=bs.all id:=by
 rw[aao,œ,œ];constructor
 ·intro h b t;obtain⟨i,k,rfl⟩:=Ļ t;have:=h i (abB.mpr k);simpa[Í k]using this
 ·intro h i k;have d:=abB.mp k;simp only[Í d,Option.getD_some];exact h _ (acg d)
theorem EY(S:X.calm=Ã):eE X (.builtin "all") (GQ X EE (Ia Ä)):=by
 kln_w
 match ds,ok with
 |[],ok=>left
 |_::_::_,ok=>left
 |[d],ok=>
  k_sub;obtain⟨u,rfl,M⟩:=vals1 r;dsimp only[Ia]at ok;cases q:ak G d with
  |none=>kj_on
  |some sk=>
   k_is;cases sk with
   |tup zs=>left
   |str z=>left
   |lst zs=>
    ac_nf;cases qb:rq zs with
    |none=>rw[qb]at ok;left
    |some bs=>
     rw[qb]at ok;obtain⟨p,vs,rfl,U,T⟩:=bG (pins:=pins) (σ0:=σ0) (s:=s) ab.hp rx q;cases M;obtain⟨its,L,pl,hz⟩:=I.list U;have e:=v8 T L qb;kpc_g;have D:=pl.isList;have t:p<s.heap.objs.size:=by obtain⟨_,e,_⟩:=D;exact Õ e
     refine iR I.os.2 (call_all_walk (aaJ D ?_))
     refine⟨s.heap.objs.size,[s.heap.objs.size,p],[s.heap.objs.size],(bs.map Value.bool).toArray.size,_,_,λi=>(bs[i]?).getD Ã,rfl,ad6 (A:=X.A.in1) (I.ok.hd S) _ p (á t) _,
      ⟨⟨_,Ð _ rfl,rfl,rfl⟩,D.push _⟩,λi v Y V Z O F=>?_,λh' R J ht=>?_⟩
     ·have T4:(bs.map Value.bool)[i]?=À v:=‹O›
      rw[Þ]at T4;cases qi:bs[i]? with
      |none=>rw[qi]at T4;cases T4
      |some k=>rw[qi]at T4;cases T4;simp only[qi,Option.getD_some]at F;exact ń F
     ·rw[show(bs.map Value.bool).toArray.size=bs.length by simp,BS];exact⟨.bl _,H,I.kept (t':=R) (nN J),rfl,ok _ H ρ .refl ab (by unfold Rep;rfl)⟩
def dY(g:Int->Int->Int):X2->M D
 |[.int i,.int j]=>M.ret (.int (g i j))
 |_=>M.stop
theorem zA{g:Int->Int->Int}{Q:VK}(ok:jK X.K X.mg EE H σ τ ρ (dY g ds G) Q):∃i j,ds=[.int i,.int j]/\jK X.K X.mg EE H σ τ ρ (.ok (.int (g i j)) G) Q:=by
 unfold dY at ok;split at ok
 ·exact⟨_,_,rfl,ok⟩
 ·left
theorem EZ(t:X.calm=Ã):eE X (.builtin "max") (GQ X EE (dY λi j=>if j > i then j else i)):=by kln_w;obtain⟨i,j,rfl,ok⟩:=zA ok;obtain⟨x,y,rfl,k,d⟩:=Dn rs;unfold Rep at k d;subst k d;exact ED t pins s σ0 H _ us Q I r ⟨i,j,rfl,ok _ H ρ .refl ab (by unfold Rep;rfl)⟩
theorem E0(t:X.calm=Ã):eE X (.builtin "min") (GQ X EE (dY λi j=>if j<i then j else i)):=by kln_w;obtain⟨i,j,rfl,ok⟩:=zA ok;obtain⟨x,y,rfl,k,d⟩:=Dn rs;unfold Rep at k d;subst k d;exact EF t pins s σ0 H _ us Q I r ⟨i,j,rfl,ok _ H ρ .refl ab (by unfold Rep;rfl)⟩
def Ob(X:Cx)(EE:bF)(f:D->X2->M D):V->X1->Hp->VK->Prop:=λx xs H Q=>∃k τ ρ G d ds,Ab X.K X.mg k H τ ρ G/\Rep X.K X.mg ρ H d x/\ao X.K X.mg ρ H ds xs/\jK X.K X.mg EE H k τ ρ (f d ds G) Q
noncomputable def dB(T:String)(G:DH):D->Bool
 |.str _=>T=="str"
 |.int _=>T=="int"
 |.con _=>T=="list"
 |.obj n=>match G[n]? with
  |some (.lst _)=>T=="list"
  |_=>Ä
 |_=>Ä
theorem v9{T:String}{d:D}{x:V}(ab:Ab X.K X.mg σ H τ ρ G)(r:Rep X.K X.mg ρ H d x)(h:dB T G d=Ã):Vt X.K T x H:=by
 cases d with
 |str z=>k_dec;subst r;exact eq_of_beq h
 |int z=>k_dec;subst r;exact eq_of_beq h
 |con I=>k_dec;obtain⟨p,vs,rfl,t,_⟩:=r;exact .inl ⟨eq_of_beq h,vs,t.seq⟩
 |obj n=>
  k_dec;obtain⟨p,rfl,e1⟩:=r;dsimp only[dB]at h;cases g:G[n]? with
  |none=>rw[g]at h;cases h
  |some o=>
   cases o with
   |lst ys=>rw[g]at h;obtain⟨F,vs,e2,k,_⟩:=ab.hp.lst g;k_put;exact .inl ⟨eq_of_beq h,vs,.of k⟩
   |_=>rfl'
 |_=>cases h
def bu(T:String)(f:D->X2->M D)(k:Y2)(m:DS->M X2):Y2:=λτ=>(k τ).bind λd G=>if dB T G d then (m τ).bind (λds=>f d ds) G else .stuck
theorem Dp{o:Expr}{I t:Pos}{T id:String}{f:D->X2->M D}(pa:PlainAttrs T)(O:Slot T name id)(V:typeOf (.builtin id)=pure (.type "method_descriptor"))(Z:GP X id (Ob X EE f))(ho:QE X EE o mo)(ha:QA X EE (e::es) m)
  (J:attributeBase o name X.env (eval o X.env)=eval o X.env:=by rfl)
  (R:((backTo t (æ (e::es) X.env)).all (λx=>!x.1)&&(backToKw t (keywordEach [] X.env)).all (λx=>x.1.isSome)
   && decide ((e::es).length+([]:List Keyword).length+(if ([]:List Keyword).isEmpty then 0 else 1)<30))=Ã:=by rfl)
  (L:(I.endLine==t.line)=Ã:=by rfl) (hs:æ (e::es) X.env=(Ä,eval e X.env)::æ es X.env:=by rfl) (F:(backTo t (æ es X.env)).any (·.1)=Ä:=by rfl):
  QE X EE (.Call (.Attribute o name I) (e::es) [] t) (bu T f mo m):=PE.mono (Th pa O V Z ho ha J R L hs F) λσ H Q h=>by
 obtain⟨τ,ρ,G,ab,ok⟩:=kr (k:=λτ d G=>if dB T G d then (m τ).bind (λds=>f d ds) G else .stuck) h;nofun;cases e:mo τ G with
 |stuck=>right
 |bP c G'=>right
 |ok d G'=>
  k_go;by_cases S:dB T G2 d2=Ã
  ·rw[Α S]at aQ;refine⟨v9 bY r2 S,τ2,ρ2,G2,bY,?_⟩;dsimp only[M.bind]at aQ;cases e2:m τ2 G2 with
   |stuck=>rw[e2]at aQ;exact aQ
   |bP c G'=>rw[e2]at aQ;exact aQ
   |ok ds G3=>rw[e2]at aQ;exact λvs H3 U Y nK r3=>⟨σ,τ2,U,G3,d2,ds,nK,r2.mono Y,r3,aQ.fut Y⟩
  ·rw[Β S]at aQ;o_src
theorem Ib{o:Expr}{F t:Pos}{T id:String}{f:D->X2->M D}(V:PlainAttrs T)(L:Slot T name id)(R:typeOf (.builtin id)=pure (.type "method_descriptor"))(S:GP X id (Ob X EE f))(Y:QE X EE o mo)
  (I:attributeBase o name X.env (eval o X.env)=eval o X.env:=by rfl) (J:(F.endLine==t.line)=Ã:=by rfl):
  QE X EE (.Call (.Attribute o name F) [] [] t) (bu T f mo ah):=PE.mono (Hs V L R S Y I J) λU H Q h=>by
 obtain⟨τ,ρ,G,ab,ok⟩:=kr (k:=λτ d G=>if dB T G d then (ah τ).bind (λds=>f d ds) G else .stuck) h;nofun;cases e:mo τ G with
 |stuck=>right
 |bP c G'=>right
 |ok d G'=>
  k_go;by_cases O:dB T G2 d2=Ã
  ·rw[Α O]at aQ;exact⟨v9 bY r2 O,U,τ2,ρ2,G2,d2,[],bY,r2,.nil,aQ⟩
  ·rw[Β O]at aQ;o_src
def br:D->X2->M D
 |.obj n,[v]=>λG=>match G[n]? with
  |some (.lst xs)=>if xs.length<Ç then .ok .bD (G.set n (.lst (xs++[v]))) else .stuck
  |_=>.stuck
 |_,_=>M.stop
theorem tD{xs ys:X2}{d:D}{w:V}{p:Addr}{k:X1}{Q:VK}(ab:Ab X.K X.mg σ H τ ρ G)(J:ρ[n]?=À p)(t:H p=À (.lst vs))(r:ao X.K X.mg ρ H ys k)
  (F:∀H',cQ X.K H H' ρ ρ->Rep X.K X.mg ρ H' d w) (I:jK X.K X.mg EE H σ τ ρ (.ok d (G.set n (.lst ys))) Q):Q w (upd H p (.lst k)):=by
 have f:cQ X.K H (upd H p (.lst k)) ρ ρ:=sd t ρ;exact I w _ ρ f (ab.fut f (ab.hp.put (ds:=ys) J t r)) (F _ f)
theorem BU:GP X "list.append" (Ob X EE br):=by
 kcj_m
 rename_i n
 match ds,ok with
 |[],ok=>left
 |_::_::_,ok=>left
 |[y],ok=>
  obtain⟨D,rfl,F⟩:=f7 wc;unfold Rep at rd;obtain⟨p,rfl,e1⟩:=rd;dsimp only[br]at ok;cases g:G[n]? with
  |none=>o_new
  |some o=>
   cases o with
   |lst zs=>
    room;ac_nf;obtain⟨J,vs,e2,k,t⟩:=ab.hp.lst g;k_put;by_cases hz:zs.length<Ç
    ·rw[Α hz]at ok;exact vX pins s σ0 H _ _ v us Q I rx E2 ⟨p,vs,D,rfl,rfl,k,by rw[<- t.length];exact hz,tD (xs:=zs) ab e1 k (t.append (.cons F .nil)) (λ_ _=>by unfold Rep;rfl) ok⟩
    ·rw[Β hz]at ok;left
   |_=>rfl'
theorem E3{o:Expr}{t d:Pos}(O:QE X EE o mo)(L:QA X EE [e] m)
  (D:attributeBase o "append" X.env (eval o X.env)=eval o X.env:=by rfl)
  (J:((backTo d (æ [e] X.env)).all (λx=>!x.1)&&(backToKw d (keywordEach [] X.env)).all (λx=>x.1.isSome)
   && decide ([e].length+([]:List Keyword).length+(if ([]:List Keyword).isEmpty then 0 else 1)<30))=Ã:=by rfl)
  (I:(t.endLine==d.line)=Ã:=by rfl) (M:æ [e] X.env=(Ä,eval e X.env)::æ [] X.env:=by rfl) (k:(backTo d (æ [] X.env)).any (·.1)=Ä:=by rfl):
  QE X EE (.Call (.Attribute o "append" t) [e] [] d) (bu "list" br mo m):=Dp ū PySem.F.slot_list_append PySem.F.type_list_append BU O L D J I M k
def zB:D->X2->M D
 |.obj n,[]=>λG=>match G[n]? with
  |some (.lst xs)=>match xs[xs.length-1]? with
   |some y=>.ok y (G.set n (.lst xs.dropLast))
   |none=>.stuck
  |_=>.stuck
 |_,_=>M.stop
theorem ao.dropLast(r:ao K mg ρ H ds vs):ao K mg ρ H ds.dropLast vs.dropLast:=by rw[acD,acD,<- r.length];exact r.take _
theorem Mg:GP X "list.pop" (Ob X EE zB):=by
 kcj_m
 rename_i n
 match ds,ok with
 |_::_,ok=>left
 |[],ok=>
  unfold ao at wc;subst wc;unfold Rep at rd;obtain⟨p,rfl,e1⟩:=rd;dsimp only[zB]at ok;cases g:G[n]? with
  |none=>o_new
  |some o=>
   cases o with
   |lst zs=>
    room;ac_nf;obtain⟨L,vs,e2,t,k⟩:=ab.hp.lst g;k_put;cases qz:zs[zs.length-1]? with
    |none=>rw[qz]at ok;left
    |some y=>rw[qz]at ok;obtain⟨D,F,J⟩:=k.get qz;exact Pu pins s σ0 H _ _ v us Q I rx E2 ⟨p,vs,D,rfl,rfl,t,by rw[<- k.length];exact F,tD (xs:=zs) ab e1 t k.dropLast (λ_ f=>J.mono f) ok⟩
   |_=>rfl'
theorem Qu{o:Expr}{k d:Pos}(I:QE X EE o mo)(t:attributeBase o "pop" X.env (eval o X.env)=eval o X.env)(D:(k.endLine==d.line)=Ã):
  QE X EE (.Call (.Attribute o "pop" k) [] [] d) (bu "list" zB mo ah):=Ib ū PySem.F.slot_list_pop PySem.F.type_list_pop Mg I t D
def kD(v o i:D):M D:=λG=>match o,i with
 |.obj n,.int k=>match G[n]? with
  |some (.lst xs)=>match Bt xs.length k with
   |some j=>.ok .bD (G.set n (.lst (xs.set j v)))
   |none=>.stuck
  |_=>.stuck
 |_,_=>.stuck
def iA(k t d:Y2):MS:=λτ=>bI ((k τ).bind λv=>(t τ).bind λo=>(d τ).bind λi=>kD v o i) (λ_ G=>.nx τ G) λc G=>.xn c τ G
theorem Ic{o i:Expr}{t:Pos}(hv:QE X EE a mv)(ho:QE X EE o mo)(hi:QE X EE i mi)
  (hs:swapsWithSole [.Subscript o i t] a pos.line X.env=pure Ä:=by rfl) (hw:swappedStores [.Subscript o i t] a X.env=pure Æ:=by rfl) (h1:(assignEach [.Subscript o i t] X.env).map (·.2)=[assign (.Subscript o i t) X.env]:=by rfl)
  (Qv:∀v,assign (.Subscript o i t) X.env v=(do
   let D <- holding [v] (eval o X.env)
   let F <- holding [v,D] (eval i X.env)
   standAt t
   holding [v,D,F] (setItem D F v)
   release [v,D,F] []):=by intro _;rfl):QS X EE (.Assign [.Subscript o i t] a pos) (iA mv mo mi):=
 PS.mono (G8 hv (O0 ho hi set_list Qv) hs hw h1) λDd σ H zz=>by
  k_mem;nofun;dsimp only[iA,bI,M.bind]at ok;cases e1:mv τ G with
  |stuck=>f_tup;k_end
  |bP c G'=>f_tup;k_not
  |ok v G1=>
   f_tup;intro vv H1 ρ1 T gY r1;kw_lk;ac_nf;cases e2:mo τ G1 with
   |stuck=>gp_on;k_end
   |bP c G'=>gp_on;exact λH' ρ' f aZ=>ok σ H' ρ' (T.trans f) aZ
   |ok D G2=>
    gp_on;intro vo H2 R J bY r2;refine⟨τ,R,G2,bY,?_⟩;ac_nf;cases e3:mi τ G2 with
    |stuck=>ks_is;k_end
    |bP c G'=>ks_is;exact λH' ρ' f aZ=>ok σ H' ρ' ((T.trans J).trans f) aZ
    |ok F G3=>
     ks_is;intro vi H3 d L O Y;dsimp only[kD]at ok;cases D<;>try exact ok.elim
     cases F<;>try exact ok.elim
     rename_i n k;have I:=r2.mono L;unfold Rep at I Y;obtain⟨p,rfl,V⟩:=I;ac_nf;cases g:G3[n]? with
     |none=>o_new
     |some ob=>
      cases ob with
      |lst zs=>
       room;ac_nf;obtain⟨p',vs,e5,S,Z⟩:=O.hp.lst g;rw[V]at e5;cases e5;cases qj:Bt zs.length k with
       |none=>rw[qj]at ok;left
       |some j=>rw[qj]at ok;have rr:=Z.set (r1.mono (J.trans L)) j;have U:cQ X.K H3 (upd H3 p (.lst (vs.set j vv))) d d:=sd S d;exact⟨p,vs,k,j,rfl,Y,S,by rw[<- Z.length];exact qj,ok σ _ d (((T.trans J).trans L).trans U) (O.fut U (O.hp.put (ds:=zs) V S rr))⟩
      |_=>rfl'
end
def iW(e:Addr)(pl:Option Addr)(h:Heap):Prop:=∃o,h.get? e=À o/\o.dict=pl
structure BV(B:Heap)(l:List Env)(e:Addr)(cls:Å)(h:Heap):Prop where
 stay:B.StaysIn h
 new:B.get? e=Æ
 frm:h.FunFrames B l
 tr:(∃oe vs a0,h.get? e=À oe/\oe.cls=cls/\oe.data=.fields vs/\vs[0]?=À a0/\vs[1]?=À .none)\/∃a0 fl,h.TracedAtW B e cls a0 fl
 dct:iW e Æ h
section
variable{M:Model}{l:List Env}{L e:Addr}{cls:Å}{Q:Unit->Ê->Prop}
theorem BW(h:env'.frame=env.frame)(v:Å):noteFrame v env'=noteFrame v env:=by unfold noteFrame frameOf;rw[h]
theorem Ie(f:Array Å->Array Å)(o:Obj):(ċ f o).dict=o.dict:=by unfold ċ;split<;>rfl
theorem zC{head:Å}{b:Bool}(J:A.frames=À (env::outer))(fr:s.heap.FunFrames B (env::outer))(hf:env.frame=À L)(F:s.heap.get? e=À oe)(st:B.StaysIn s.heap)(nw:B.get? e=Æ)
  (D:oe.data=.fields ws) (O:1<ws.size) (h0:ws[0]?=À a0) (hQ:∀h',Heap.NotedW B (env::outer) e oe.cls a0 (rawInt L) s.heap h'->iW e oe.dict h'->Q () {s with heap:=h'}):
  Ú M A (do let a <- frameOf env;let z <- entryPlaceOf L b;let t <- ac2 head a .none (rawInt L) .none z;setField (.ref e) 1 t) Q E s:=by
 have ne:e∉(env::outer).filterMap (·.frame):=λz=>by obtain⟨_,o,q,n⟩:=fr.mem z;rw[F]at q;o_rec;exact n ws D
 refine Á (wpAny_frameOf_fun J fr hf λk1 I=>Á (wpAny_entryPlaceOf λz hz=>?_));have R:k1.get? e=À oe:=(I.2.1 e ne).trans F;have st1:B.StaysIn k1:=λx o q=>(I.2.1 x λm=>by rw[(fr.mem m).1]at q;cases q).trans (st x o q);have k:k1.objs.size≠e:=ž (Õ R);unfold ac2 newFields;refine Á (ë ?_ (hz.sizeOk5 _ _ _ _ _));generalize hT:({cls:=.type "traceback",dict:=Æ,data:=.fields ([head,.ref L,.none,rawInt L,.none]++(if z.isEmpty then Ö 6 Value.none else z)).toArray}:Obj)=T;have dT:T.data=.fields ([head,.ref L,.none,rawInt L,.none]++(if z.isEmpty then Ö 6 Value.none else z)).toArray:=by rw[<- hT]
 have Z:(k1.push T).get? e=À oe:=É T R;refine đ Z D O ?_;have S:=ģ D (·.setIfInBounds 1 (Value.ref k1.objs.size));generalize d:(k1.push T).update e (ċ (·.setIfInBounds 1 (Value.ref k1.objs.size)))=k2;have Y:k2.get? e=À (ċ (·.setIfInBounds 1 (Value.ref k1.objs.size)) oe):=by rw[<- d];exact ò _ Z (Ŀ S)
 have T3:k2.get? k1.objs.size=À T:=by rw[<- d];exact(è _ _ (ô k)).trans (Ð k1 (Ŀ dT))
 have U:∀x o,x≠e->k1.get? x=À o->k2.get? x=À o:=λx o n q=>by rw[<- d,è _ _ (ô n)];exact É T q
 have nr:∀x o,s.heap.get? x=À o->(∀vs,o.data≠.fields vs)->x≠e:=λx o q n m=>by rw[m,F]at q;o_rec;exact n ws D
 have V:s.heap.UpToSlots k2:=λx o q n=>by obtain⟨sl,y⟩:=I.2.2 x o q;exact⟨sl,U x _ (nr x o q n) y⟩
 refine hQ k2 ⟨λx o q=>U x o (λm=>by rw[m,nw]at q;cases q) (st1 x o q),fr.of_keeps λx o q n=>?_,?_,V⟩ ⟨_,Y,Ie _ _⟩
 ·obtain⟨sl,y⟩:=V x o q n;exact⟨_,y,rfl⟩
 ·refine⟨_,_,k1.objs.size,T,_,Y,⟨abY _ _,by rw[Array.getElem?_setIfInBounds_ne (by decide)];exact h0⟩,S,by simp[O],st1.fresh,k,T3,dT,?_⟩
  first|(simp;done)|(rcases hz with rfl|⟨_,_,_,_,_,_,_,rfl⟩<;>simp)
theorem xT(hfr:A.frames=À (env::outer))(I:env.frame=À L)(f:BV B (env::outer) e cls s.heap)
  (U:∀h' F,Heap.HeldW B (env::outer) e cls F L h'->s.heap.UpToSlots h'->iW e Æ h'->Q () {s with heap:=h'}):Ú M A (noteFrame (.ref e) env) Q E s:=by
 obtain⟨st,nw,fr,tr,od,d,D⟩:=f;rcases tr with⟨oe,vs,F,k,hc,hd,h0,h1⟩|⟨F,fl,oe,vs,T,oT,ts,k,t,hd,h1,Y,Z,J,zD,R⟩
 ·subst hc;unfold noteFrame;simp only[I];refine Á (ú k hd h1 ?_);rw[Β (by decide)];refine zC hfr fr I k st nw hd (Ĺ.mp h1).1 h0 λh' hN hD=>?_;exact U h' F ⟨hN.1,nw,hN.2.1,hN.2.2.1⟩ hN.2.2.2 (by rw[k]at d;cases d;rw[D]at hD;exact hD)
 ·by_cases S:(fl==rawInt L)=Ã
  ·unfold noteFrame;simp only[I];refine Á (ú k hd h1 ?_);rw[Α (show(Value.ref T != Value.none)=Ã by simp)];refine Á (ú J zD R ?_);rw[Α S];refine È ?_;have:=U s.heap F ⟨st,nw,fr,oe,vs,T,oT,ts,k,t,hd,h1,Y,Z,J,zD,by rw[R,beq_iff_eq.mp S]⟩ (.refl _) ⟨od,d,D⟩;exact this
  ·obtain⟨rfl,h0⟩:=t;unfold noteFrame;simp only[I];refine Á (ú k hd h1 ?_);rw[Α (show(Value.ref T != Value.none)=Ã by simp)];refine Á (ú J zD R ?_);rw[Β S];refine Á (đ J zD (Ĺ.mp R).1 ?_);have O:∀b,b≠T->(s.heap.update T (ċ (·.setIfInBounds 3 Value.none))).get? b=s.heap.get? b:=λb hb=>è _ _ (ô hb);have V:∀b o,s.heap.get? b=À o->(∀vs,o.data≠.fields vs)->b≠T:=λb o hb hnf z=>by rw[z,J]at hb;cases hb;exact hnf ts zD
   refine zC hfr (fr.of_keeps λb o hb hnf=>⟨o,(O b (V b o hb hnf)).trans hb,rfl⟩) I ((O e (ô Z)).trans k)
    (λb o WI=>(O b λz=>by rw[z,Y]at WI;cases WI).trans (st b o WI)) nw hd (Ĺ.mp h1).1 h0 λh' hN hD=>?_
   exact U h' F ⟨hN.1,nw,hN.2.1,hN.2.2.1⟩ (λb o hb hnf=>hN.2.2.2 b o ((O b (V b o hb hnf)).trans hb) hnf) (by rw[k]at d;cases d;rw[D]at hD;exact hD)
theorem E4(st:B.StaysIn s.heap)(fr:s.heap.FunFrames B l)(t:s.heap.TracedAtW B e cls a0 fl)(hD:iW e Æ s.heap)
  (hQ:∀h',B.StaysIn h'->h'.FunFrames B l->h'.TracedW B e cls a0->(∀b o,s.heap.get? b=À o->(∀vs,o.data≠.fields vs)->h'.get? b=À o)->iW e Æ h'->Q () {s with heap:=h'}):Ú M A (setFlight (.ref e) Æ) Q E s:=by
 obtain⟨oe,vs,T,oT,V,he,hc,Z,Y,U,J,R,D,h3⟩:=t;obtain⟨od,O,I⟩:=hD;have S:3<V.size:=(Ĺ.mp h3).1;generalize F:s.heap.update T (ċ (·.setIfInBounds 3 Value.none))=k;have d:∀b,b≠T->k.get? b=s.heap.get? b:=λb n=>by rw[<- F];exact è _ _ (ô n)
 have nr:∀b o,s.heap.get? b=À o->(∀vs,o.data≠.fields vs)->b≠T:=λb o q n z=>by rw[z,R]at q;o_rec;exact n V D
 have kT:k.get? T=À (ċ (·.setIfInBounds 3 Value.none) oT):=by rw[<- F];exact ò _ R (Ŀ (ģ D _))
 unfold setFlight;refine Á (ú he Z Y ?_);rw[Α (show(Value.ref T != Value.none)=Ã by simp)];refine đ R D S ?_;show Q () {s with heap:=s.heap.update T (ċ (·.setIfInBounds 3 Value.none))};rw[F]
 exact hQ k (λb o q=>(d b λz=>by rw[z,U]at q;cases q).trans (st b o q)) (fr.of_keeps λb o q n=>⟨o,(d b (nr b o q n)).trans q,rfl⟩)
  ⟨oe,vs,T,_,_,(d e (ô J)).trans he,hc,Z,Y,U,J,kT,ģ D _,by simp[S]⟩ (λb o q n=>(d b (nr b o q n)).trans q) ⟨od,(d e (ô J)).trans O,I⟩
theorem zE(d:Heap.HeldW B l e cls a0 L s.heap)(S:iW e Æ s.heap)
  (I:∀h',acs B l e cls a0 h'->s.heap.UpToSlots h'->iW e Æ h'->Q () {s with heap:=h'}):Ú M A (setFlight (.ref e) Æ) Q E s:=by
 obtain⟨O,k,t,D⟩:=d;exact E4 O t D S λh' k1 k2 k3 F T=>I h' ⟨k1,k,k2,k3⟩ (λb o J R=>⟨o.slots,F b o J R⟩) T
theorem zF(k:A.frames=À (env::outer))(D:env.frame=À L)(f:BV B (env::outer) e cls s.heap)
  (R:∀h' d,acs B outer e cls d h'->s.heap.UpToSlots h'->iW e Æ h'->Q () {s with heap:=h'}):Ú M A (leaving env (.ref e)) Q E s:=by
 unfold leaving;refine Á (xT k D f λV d t F S=>?_);refine zE t S λO U I T=>?_;obtain⟨k1,k2,⟨_,_,k3⟩,J⟩:=U;exact R O d ⟨k1,k2,k3,J⟩ (F.trans I) T
theorem BV.E5(f:acs B l e cls a0 h)(d:iW e Æ h):BV B l e cls h:=⟨f.1,f.2.1,f.2.2.1,.inr ⟨a0,.none,f.2.2.2⟩,d⟩
end
structure WJ(X:Cx)(B:Heap):Prop where
 keep:∀b o,X.s₀.heap.get? b=À o->X.H₀ b=Æ->b∉frs X.stack->b∉X.ex->B.get? b=À o
 there:∀b o,X.s₀.heap.get? b=À o->b∉frs X.stack->b∉X.ex->∃o',B.get? b=À o'
 pins:∀p∈X.pn,B.get? p.1=À p.2
def Qw(X:Cx)(H:Hp)(e:Addr)(d:Å)(s:Ê):Prop:=∃B,BV B X.stack e d s.heap/\lF X.prog X.w H B/\WJ X B
def zG(k:Str->Option Å)(c:XD)(d:Å):Prop:=match c with|.mk n _=>k n=À d
def fJ(X:Cx)(EE:bF):Prop:=∀(pins:N0)(k:L2.St)(H:Hp)(s:Ê)(e:Addr)(d:Å)(c:XD),Inv X pins k H s->Qw X H e d s->zG X.mg c d->EE c k H->X.xe (.ref e) s
section
theorem IsCell.slots{c:Addr}{v:Option Å}(u:h.UpToSlots h')(k:h.IsCell c v):h'.IsCell c v:=by
 obtain⟨o,e,d⟩:=k;obtain⟨D,t⟩:=u c o e λvs q=>by rw[d]at q;o_rec
 exact⟨_,t,d⟩
theorem Inv.Dq{t:Nat}(I:Inv X pins σ H s)(C:WJ X B)(L:lF X.prog X.w H B)(st:B.StaysIn h')(u:s.heap.UpToSlots h')(ht:0<t:=by accm_mu):Inv X [] σ H {s with heap:=h',toks:=t}:=by
 have U:∀b o,X.s₀.heap.get? b=À o->b≠X.env.locals:=λb o e=>á (Ø (Õ e) I.ok.above);have T:∀b o,X.s₀.heap.get? b=À o->b∉X.fs->b∉frs X.stack:=λb o e D z=>by
  rcases Ù.mp (I.kj b z)with z|z
  ·exact U b o e z
  ·exact D z
 have slots:∀b o,X.s₀.heap.get? b=À o->X.H₀ b=Æ->b∈X.fs->b∉X.ex->∃sl,h'.get? b=À {o with slots:=sl}:=λb o e n D J=>by obtain⟨sl,F⟩:=I.base.slot b o e n D J;obtain⟨_,S,O,Z⟩:=I.ok.qp.mem D;rw[e]at O;cases O;obtain⟨Lq,M⟩:=u b _ F Z;exact⟨Lq,M⟩
 refine⟨I.ok,⟨I.os.1,ht⟩,I.bare,⟨λb o e n D J=>st _ _ (C.keep b o e n (T b o e D) J),slots,I.base.free,λb o e J=>?_,I.base.tups,I.base.lG,I.base.nF⟩,?_,λx c e=>?_,I.free,I.iQ,λp hp=>?_,L.kept st,I.len⟩
 ·by_cases D:b∈X.fs
  ·obtain⟨sl,F⟩:=slots b o e (I.ok.NZ b D) D J;exact⟨_,F⟩
  ·obtain⟨S,F⟩:=C.there b o e (T b o e D) J;exact⟨S,st _ _ F⟩
 ·obtain⟨m,hn,V⟩:=I.loc;refine⟨m,u.ns hn,λi x v F M e3=>?_⟩;obtain⟨w,r,l⟩:=V i x v F M e3;refine⟨w,r,?_⟩;rcases l with l|⟨k,c,e,z⟩
  ·exact .inl l
  ·exact .inr ⟨k,c,e,IsCell.slots u z⟩
 ·obtain⟨v,z⟩:=I.cell x c e;exact⟨v,IsCell.slots u z⟩
 ·have R:p∈X.pn:=‹hp›
  obtain⟨e,n,Y,nf,d⟩:=I.pin p (ġ _ R);exact⟨st _ _ (C.pins p R),n,Y,nf,d⟩
end
structure T9(P:ð)(w:Ć)(outer:List Env)(H:Hp)(s:Ê)(H':Hp)(B:Heap)(s':Ê):Prop where
 os:s'.os=s.os/\0<s'.toks
 bare:PyProof.Rows.AllBare s'.gens
 keep:∀b o,s.heap.get? b=À o->H b=Æ->b∉frs outer->B.get? b=À o
 there:∀b o,s.heap.get? b=À o->b∉frs outer->∃o',B.get? b=À o'
 slot:∀b o,s.heap.get? b=À o->H b=Æ->b∈frs outer->∃sl,s'.heap.get? b=À {o with slots:=sl}
 free:∀b o,s.heap.get? b=À o->H b=Æ->H' b=Æ
 tups:∀b xs,H b=À (.tup xs)->H' b=À (.tup xs)
 lG:∀b o u,H b=À (.eB o u)->H' b=À (.eB o u)
 nF:∀b ps,H b=À (.oB ps)->∃more,H' b=À (.oB (ps++more))
 hok:lF P w H' B
def xV(P:ð)(w:Ć):vc:=λd H s E D t=>∃e k F B H',D=.ref e/\acs B d e k F t.heap/\iW e Æ t.heap/\T9 P w d H s H' B t/\E k Æ H'
theorem Mh(h:fJ X EE):Sa (xV X.prog X.w) X EE:=by
 intro pins R H s ev L I hq;obtain⟨e,O,a0,B,H',rfl,D,Y,F,c,Z,T⟩:=hq;have S:Un (frs X.stack) [] H H' s.heap L.heap:=⟨λb o e n k _=>D.1 _ _ (F.keep b o e n k),λb o e n k _=>F.slot b o e n k,λb o e n _=>F.free b o e n,λb o e _=>by
  by_cases k:b∈frs X.stack
  ·obtain⟨sl,q⟩:=F.slot b o e (I.oF b k) k;exact⟨_,q⟩
  ·obtain⟨M,q⟩:=F.there b o e k;exact⟨M,D.1 _ _ q⟩,F.tups,F.lG,F.nF⟩
 have V:Inv X pins R H' L:=I.GX F.os S (F.hok.kept D.1) F.bare λb z=>absurd z ⋯;refine h pins R H' L e O c V ⟨B,.E5 D Y,F.hok,λb o J n k t=>?_,λb o J k t=>?_,λp hp=>?_⟩ Z T
 ·have Ua:b∉X.fs:=λz=>k (by
   rcases I.ok.stk with q|⟨q,_⟩
   ·rw[q];exact z
   ·rw[q];unfold frs;rw[ĩ];split
    ·exact z
    ·exact å _ z)
  exact F.keep b o (I.base.keep b o J n Ua t) (I.base.free b o J n t) k
 ·obtain⟨M,q⟩:=I.base.there b o J t;exact F.there b M q k
 ·obtain⟨q,n,U,nf,d⟩:=I.pin p (ġ _ hp);exact F.keep p.1 p.2 q n λz=>by
   rcases Ù.mp (I.kj _ z)with z|z
   ·exact U z
   ·exact nf z
section
variable{f:Addr}
theorem Zz{st:Stmt}{k:Nat}{m:X2->M D}(F:LQ K x qual st f fd)(S:gX N ps (au st))(hps:ps.length=n)(hN:N.length=nn)(hm:∀ds,m ds=cj nn ms ds)
  (U:∀(X:Cx)(EE:bF)(R:Å)(A:Around)(J:List Env)(s:Ê)(H:Hp)(E:XK),X=rS (xV P w) P w K mg base N qual (au st) f R A J s H E->gE k (A.deeper (Ō qual (au st) s.heap.objs.size f R)) ->
   fJ X EE->PassesOwn (model P w) X.A X.env X.xe->qh X EE (bE st) ms):
  lH P w K mg base (xV P w) (k+1) f fd ps (g9 K mg n m):=by
 subst hps hN;have e:m=λds=>cj N.length ms ds:=funext hm;kpc_g;obtain⟨oc,od,kV,doc,pm,an,R,ct,osl,rfl,lk,hcd⟩:=F.ex;refine N5 lk hcd S (λvs H Q E h=>h.len) λA J s H vs Q E hr h=>?_;obtain⟨ds,ρ,G,hn,hp,rs,ok⟩:=h;refine⟨_,U _ (λc σ H'=>∀O,zG mg c O->E O Æ H') R A J s H E rfl hr ?_ abZ,ds.map À++Ö (N.length-ds.length) Æ,ρ,G,⟨nM rs,hp⟩,?_⟩
 ·intro pins σ H' s' e O c I fx hc ee;obtain⟨B,fb,Z,we⟩:=fx;refine zF (L:=s.heap.objs.size) I.ok.frames rfl fb λh' a0 fl u hD=>?_;have V:Inv _ [] σ H' {s' with heap:=h'}:=Inv.Dq (t:=s'.toks) I we Z fl.1 u;have C8:∀b o,s.heap.get? b=À o->b∉frs J->b∉frs (Ō qual (au st) s.heap.objs.size f R::J):=λb o e Y z=>by
   rcases Ù.mp (I.kj b z)with z|z
   ·exact absurd (Õ e) (by rw[show b=s.heap.objs.size from z];exact Ĭ _)
   ·exact Y z
  refine⟨e,O,a0,B,H',rfl,fl,hD,⟨V.os,V.bare,λb o T nb Y=>we.keep b o T nb (C8 b o T Y) (by intro z;exact absurd (show b∈([]:Q1) from z) ⋯),λb o T Y=>we.there b o T (C8 b o T Y) (by intro z;exact absurd (show b∈([]:Q1) from z) ⋯),
   λb o T nb Y=>V.base.slot b o T nb Y (by intro z;exact absurd (show b∈([]:Q1) from z) ⋯),λb o T nb=>V.base.free b o T nb (by intro z;exact absurd (show b∈([]:Q1) from z) ⋯),V.base.tups,V.base.lG,V.base.nF,Z⟩,ee O hc⟩
 ·dsimp only[cj]at ok;cases q:ms (ds.map À++Ö (N.length-ds.length) Æ) G with
  |stuck=>k_is;k_end
  |nx τ G'=>k_is;exact λσ' H' ρ' f ab=>ok .bD H' ρ' f ab.hp (by unfold Rep;rfl)
  |rt d G'=>k_is;exact λv H' ρ' f hp r=>ok v H' ρ' f hp r
  |bk τ G'=>kj_on
  |ct τ G'=>kj_on
  |xn c τ G'=>k_is;exact λσ' H' ρ' f ab O hc=>ok O H' ρ' hc f ab.hp
end
noncomputable abbrev Qx:List Å:=[.type "ValueError",.type "Exception",.type "BaseException",.type "object"]
def ExcAt(K:Ì)(C:Addr):Prop:=∃dd nm bs bm d k t sn sub ab col k0 k1 k2 k3 k5,K.lookup C=À ⟨.type "type",dd,.cls ⟨nm,bs,.ref C::bm,d,k,t,sn,sub,ab,col,Ä⟩,#[k0,k1,k2,k3,À (.builtin "ValueError.__new__"),k5]⟩/\PySem.W.tailIn K Qx bm=Ã/\PySem.W.nsOkIn K d=Ã/\Ŝ K d "__init__"=À Æ
theorem Mi(X:K.In h)(e:ExcAt K C):
  ∃bm N nm q bs hdct sn sub ab col dd k0 k1 k2 k3 k5 mN,h.get? C=À (excClassObj nm q C N bs bm hdct sn sub ab col dd k0 k1 k2 k3 k5 "ValueError.__new__")/\h.Ns N mN/\mN "__init__"=Æ/\OwnTail h Qx bm:=by
 obtain⟨dd,nm,bs,bm,t,D,J,sn,sub,ab,col,k0,k1,k2,k3,k5,F,I,d,k⟩:=e;exact⟨bm,t,nm,D,bs,J,sn,sub,ab,col,dd,k0,k1,k2,k3,k5,_,X _ _ F,.of_isNs (PySem.W.isNs_of_in X d),PySem.W.nsMap_none_of_in X d k,PySem.W.tail_of_in X I⟩
theorem wg{h B d:Heap}:∀{l:List Env},h.FunFrames d l->(∀b∈frs l,B.get? b=Æ)->h.FunFrames B l
 |[],_,_=>trivial
 |env::r,⟨I,⟨L,o,t,_,M,O⟩,J⟩,D=>by
  have F:∀b,b=L\/b∈frs r->b∈frs (env::r):=λb k=>by
   unfold frs;rw[ĩ,t];rcases k with z|z
   ·rw[z];exact ć
   ·exact å _ z
  exact⟨I,⟨L,o,t,D L (F L (.inl rfl)),M,O⟩,wg J λb k=>D b (F b (.inr k))⟩
theorem zH(x:lF P w H h)(k:∀b o,H b≠Æ->h.get? b=À o->B.get? b=À o):lF P w H B:=λa o e=>
 (x a o e).stay (λb u d q=>k b u (by
  rcases d with z|z
  ·rw[z,e];simp
  ·rw[z];simp) q) (λ_ q=>q) λ_ _ q=>q
section
theorem E6{e:Addr}(I:Inv X pins σ H s)(D:Heap.MadeExcOf s.heap h' e (.ref C) args):Qw X H e (.ref C) {s with heap:=h'}:=by
 have k:∀b o,s.heap.get? b=À o->b∉frs X.stack->(abd s.heap (frs X.stack)).get? b=À o:=λb o e hb=>ac1 _ e hb;have U:∀b,b∉frs X.stack->b∉X.fs:=λb hb z=>hb (by
  rcases I.ok.stk with q|⟨q,_⟩
  ·rw[q];exact z
  ·rw[q];unfold frs;rw[ĩ];split
   ·exact z
   ·exact å _ z)
 obtain⟨t,L,_,_⟩:=D.there;refine⟨abd s.heap (frs X.stack),⟨λb o q=>D.keeps b o (abA _ q),?_,?_,.inl ⟨_,_,_,L,rfl,rfl,rfl,rfl⟩,⟨_,L,rfl⟩⟩,?_,⟨λb o q n hb F=>?_,λb o q hb F=>?_,λp O=>?_⟩⟩
 ·cases q:(abd s.heap (frs X.stack)).get? e with
  |none=>rfl
  |some o=>have:=abA _ q;rw[D.new]at this;cases this
 ·exact(wg I.stack λb hb=>acM _ hb).of_keeps λb o q _=>⟨o,D.keeps b o q,rfl⟩
 ·exact zH I.hok λb o n q=>k b o q λz=>n (I.oF b z)
 ·exact k b o (I.base.keep b o q n (U b hb) F) hb
 ·obtain⟨J,S⟩:=I.base.there b o q F;exact⟨J,k b J S hb⟩
 ·obtain⟨q,n,M,R,d⟩:=I.pin p (ġ _ O);exact k _ _ q λz=>(Ù.mp (I.kj _ z)).elim M R
def nO(x:Str)(m:DS->M X2):MS:=λτ=>bI (m τ) (λds G=>if ds.length<=Ç then .xn (.mk x ds) τ G else .stuck) λc G=>.xn c τ G
theorem Ig(hc:X.calm=Ã)(Z:fJ X EE)(O:X.mg x=À (.ref C))(hq:ExcAt X.K C)(hg:Gl X x)(hd:(x==("__debug__":Str))=Ä)
  (ha:QA X EE (e::es) m) (R:æ (e::es) X.env=(Ä,eval e X.env)::æ es X.env) (J:(backTo cpos (æ es X.env)).any (·.1)=Ä):
  QS X EE (.Raise (À (.Call (.Name x np) (e::es) [] cpos)) Æ pos) (nO x m):=by
 intro pins s L H Dd I h;obtain⟨τ,ρ,G,ab,ok⟩:=HZ (k:=λτ ds G=>if ds.length<=Ç then .xn (.mk x ds) τ G else .stuck) h;obtain⟨bm,N,nm,q,bs,hdct,sn,sub,V,col,dd,k0,k1,k2,k3,k5,mN,hC,hN,F,T⟩:=Mi I.ok.mod.OO hq
 refine wpAny_Raise_call_subU (C:=C) (nm:=nm) (q:=q) (N:=N) (bs:=bs) (bm:=bm) (hdct:=hdct) (sn:=sn) (sub:=sub) (ab:=V) (col:=col) (dd:=dd) (k0:=k0) (k1:=k1) (k2:=k2) (k3:=k3) (k5:=k5) Ź (bmB:=Qx) (by symm) Ź (mN:=mN) (T.hasType Ź.hasBase) (I.ok.hd hc)
  (by rw[R];show(Ä||(backTo cpos (æ es X.env)).any (·.1))=Ä;rw[J];rfl) F (oG I hg O ⟨rfl,?_⟩ hd)
 have U:=ha cpos pins s L H _ I ⟨τ,ρ,G,ab,ok⟩;rw[R]at U |-;refine aa4 (Ă U (λus s2 h2=>?_) λ_ _ z=>z);obtain⟨vs,S,t,Y,τ2,M,G2,ds,bY,rs,aQ⟩:=h2;by_cases D:ds.length<=Ç
 ·rw[Α D]at aQ;refine⟨rfl,by show us.length<=_;rw[<- Y.length,<- rs.length];exact D,t.bk _ _ hC,hN.keeps t.bk,T.keeps t.bk,λh' e d=>?_⟩;exact Z pins L S _ e (.ref C) (.mk x ds) (t.kept (t':=s2.toks) d.keeps) (E6 t d) O (aQ L S M .refl bY)
 ·rw[Β D]at aQ;o_src
end
noncomputable abbrev Cx.to(X:Cx)(E:Å->Ê->Prop)(pn:N0):Cx:={X with xe:=E,pn:=pn}
noncomputable abbrev Cx.hand(X:Cx)(e:Addr):Cx:={X with A:=X.A.mark (À (.ref e)),calm:=Ä,xe:=λ_ _=>False}
theorem Oc(d:X.Ok)(E:Å->Ê->Prop)(k:N0):(Cx.to X E k).Ok:=⟨d.mod,d.kind,d.glob,d.blt,d.above,d.inj,d.has,d.R3,d.hd,d.frames,d.stk,d.V3,d.bs,d.NY,d.Ey,d.Ez,d.qp,d.NZ⟩
theorem Od(d:(Cx.to X E pn).Ok):X.Ok:=⟨d.mod,d.kind,d.glob,d.blt,d.above,d.inj,d.has,d.R3,d.hd,d.frames,d.stk,d.V3,d.bs,d.NY,d.Ey,d.Ez,d.qp,d.NZ⟩
theorem Mj(d:X.Ok)(e:Addr):(Cx.hand X e).Ok:=⟨d.mod,d.kind,d.glob,d.blt,d.above,d.inj,d.has,d.R3,λz=>absurd z í,d.frames,d.stk,d.V3,d.bs,d.NY,d.Ey,d.Ez,d.qp,d.NZ⟩
section
theorem Qy(I:Inv X pins σ H s)(E:Å->Ê->Prop):Inv (Cx.to X E (X.pn++pins)) [] σ H s:=⟨Oc I.ok _ _,I.os,I.bare,I.base,I.loc,I.cell,I.free,I.iQ,λp d=>I.pin p ‹d›,I.hok,I.len⟩
theorem tE(I:Inv (Cx.to X E (X.pn++pins)) fh σ H s):Inv X pins σ H s:=⟨Od I.ok,I.os,I.bare,I.base,I.loc,I.cell,I.free,I.iQ,λp d=>I.pin p (ġ _ d),I.hok,I.len⟩
theorem zI(I:Inv X pins σ H s)(e:Addr):Inv (Cx.hand X e) pins σ H s:=⟨Mj I.ok e,I.os,I.bare,I.base,I.loc,I.cell,I.free,I.iQ,I.pin,I.hok,I.len⟩
theorem kE{e:Addr}(d:X.Ok)(I:Inv (Cx.hand X e) pins σ H s):Inv X pins σ H s:=⟨d,I.os,I.bare,I.base,I.loc,I.cell,I.free,I.iQ,I.pin,I.hok,I.len⟩
theorem E7{e:Addr}{f:Flow}(k:X.Ok)(h:SP (Cx.hand X e) pins Dd f s):SP X pins Dd f s:=by
 cases f with
 |next=>obtain⟨d,H',I,q⟩:=h;exact⟨d,H',kE k I,q⟩
 |brk=>obtain⟨d,H',I,q⟩:=h;exact⟨d,H',kE k I,q⟩
 |cont=>obtain⟨d,H',I,q⟩:=h;exact⟨d,H',kE k I,q⟩
 |ret u=>obtain⟨v,d,H',I,r,q⟩:=h;exact⟨v,d,H',kE k I,r,q⟩
theorem Ds{f:Flow}(h:SP (Cx.to X E (X.pn++pins)) fh Dd f s):SP X pins Dd f s:=by
 cases f with
 |next=>obtain⟨d,H',I,q⟩:=h;exact⟨d,H',tE I,q⟩
 |brk=>obtain⟨d,H',I,q⟩:=h;exact⟨d,H',tE I,q⟩
 |cont=>obtain⟨d,H',I,q⟩:=h;exact⟨d,H',tE I,q⟩
 |ret u=>obtain⟨v,d,H',I,r,q⟩:=h;exact⟨v,d,H',tE I,r,q⟩
def WK(X:Cx)(H:Hp)(e:Addr)(d:Å)(s:Ê):Prop:=∃B t k,(B.StaysIn s.heap/\B.get? e=Æ/\s.heap.FunFrames B X.stack/\s.heap.TracedAtW B e d t k/\iW e Æ s.heap)/\lF X.prog X.w H B/\WJ X B
def QH(X:Cx)(EE:bF)(F:List ExceptHandler)(t:XD->MS):Prop:=∀(k:L2.St)(H:Hp)(s:Ê)(D:Ends)(e:Addr)(d:Å)(c:XD),Inv X [] k H s->WK X H e d s->zG X.mg c d ->
 (∃τ ρ G,Ab X.K X.mg k H τ ρ G/\sW X.K X.mg EE H ρ D (t c τ G))->Ú (model X.prog X.w) X.A (handleBy (.ref e) X.env F) (SP X [] D) X.xe s
def Ub:Res->Res
 |.xn _ _ _=>.stuck
 |r=>r
def Qz:XD->MS:=λ_ _ _=>.stuck
def tF(p:Str->Option Bool)(m:MS)(r:XD->MS):XD->MS:=λc τ G=>match c with
 |.mk n _=>match p n with
  |some Ã=>Ub (m τ G)
  |some Ä=>r c τ G
  |none=>.stuck
theorem QB:QH X EE [] Qz:=λ_ _ _ _ _ _ _ _ _ _ d=>by obtain⟨_,_,_,_,k⟩:=d;exact k.elim
theorem Mk{p:Str->Option Bool}{np pos:Pos}{Z:Stmt}{D:List Stmt}{F:List ExceptHandler}{m:MS}{V:XD->MS}(hm:X.mg x=À cv)(hp:∀n b k,p n=À b->X.mg n=À k->acP X.K k cv=À b)(hg:Gl X x)(hd:(x==("__debug__":Str))=Ä)
  (S:∀e,qh (Cx.hand X e) Yt (Z::D) m) (hr:QH X EE F V):QH X EE (.ExceptHandler (À (.Name x np)) Æ (Z::D) pos::F) (tF p m V):=by
 intro R H s Dd e k c I U Y J;obtain⟨n,L⟩:=c;refine wpAny_handleBy_cons (codeAny_handlers_test ?_) (by intro z;cases z);have Ih:=zI I e;refine oG (X:=Cx.hand X e) Ih hg hm ?_ hd;have ZA:=U;obtain⟨B,a0,fl,⟨st,nw,fr,tr,hD⟩,O,we⟩:=ZA;obtain⟨ob,T,M⟩:=tr.there;have LT:PySem.W.Looks (model X.prog X.w) s.heap (typeOf (.ref e)) k:=by subst M;exact(PySem.W.Looks.ld T).andThen .now
 cases q:p n with
 |none=>obtain⟨τ,ρ,G,ab,ok⟩:=J;dsimp only[tF]at ok;kj_on
 |some b=>
  refine(PySem.W.exm_one I.yV LT (hp n b k q Y)).here ?_;obtain⟨τ,ρ,G,ab,ok⟩:=J;dsimp only[tF]at ok;k_is;cases b with
  |false=>exact hr R H s Dd e k (.mk n L) I U Y ⟨τ,ρ,G,ab,ok⟩
  |true=>
   refine codeAny_handlers_suite ?_;refine wpAny_setFlight_noneW st fr tr λh' k1 k2 k3 k4=>?_;have I':Inv X [] R H {s with heap:=h'}:=Inv.Dq (t:=s.toks) I we O k1 λb o S hn=>⟨o.slots,k4 b o S hn⟩;refine Ă (S e [] _ R H Dd (zI I' e) ⟨τ,ρ,G,ab,?_⟩) (λf s2 h2=>?_) λ_ _ z=>Ģ z
   ·ac_nf;cases r:m τ G with
    |stuck=>rw[r]at ok;k_end
    |nx τ' G'=>rw[r]at ok;k_end
    |rt d G'=>rw[r]at ok;k_end
    |bk τ' G'=>rw[r]at ok;k_end
    |ct τ' G'=>rw[r]at ok;k_end
    |xn c τ' G'=>rw[r]at ok;left
   ·exact E7 I.ok h2
noncomputable def zJ(k:MS)(t:XD->MS)(d:MS):MS:=λτ G=>match k τ G with
 |.nx τ' G'=>d τ' G'
 |.xn c τ' G'=>t c τ' G'
 |r=>r
theorem QC{body D:List Stmt}{h0:ExceptHandler}{hs:List ExceptHandler}{pos:Pos}{mb me:MS}{mh:XD->MS}(F:X.stack=X.env::X.outer)(hfr:∃L,X.env.frame=À L)
  (hb:∀(E':Å->Ê->Prop)(Z:N0)(Ii:bF),fJ (Cx.to X E' Z) Ii->PassesOwn (model X.prog X.w) X.A X.env E'->qh (Cx.to X E' Z) Ii body mb)
  (hh:∀(Z:N0),QH (Cx.to X X.xe Z) EE (h0::hs) mh) (he:qh X EE D me):QS X EE (.Try body (h0::hs) D [] pos) (zJ mb mh me):=by
 intro pins s σ H Dd I h;x_go;refine wpAny_Try_except ?_;obtain⟨L,hL⟩:=hfr
 refine Ă (hb (λe U=>Ú (model X.prog X.w) X.A (noteFrame e X.env) (λ_ O=>Ú (model X.prog X.w) X.A (setFlight e Æ) (λ_ R=>Ú (model X.prog X.w) X.A (handleBy e X.env (h0::hs)) (SP X pins Dd) X.xe R) X.xe O) X.xe U) (X.pn++pins)
  (λc k H'=>∃τ' ρ' G',cQ X.K H H' ρ ρ'/\Ab X.K X.mg k H' τ' ρ' G'/\sW X.K X.mg EE H' ρ' Dd (mh c τ' G')) ?_ PassesOwn.looking [] s σ H {Dd with nx:=iC X.K X.mg EE me Dd} (Qy I _) ?_) (λf s1 S=>?_) λ_ _ z=>z
 ·intro fh k H' s' e V c I' fx hc ee;obtain⟨B,fb,M,Y⟩:=fx;have WL:X.A.frames=À (X.env::X.outer):=by rw[<- F];exact I.ok.frames
  have WM:BV B (X.env::X.outer) e V s'.heap:=by rw[<- F];exact fb
  refine xT WL hL WM λS a0 hH u1 hD=>?_;refine zE hH hD λh2 T u2 T7=>?_;obtain⟨τ',ρ',G',_,J,ok'⟩:=ee;have I2:Inv (Cx.to X X.xe (X.pn++pins)) [] k H' {s' with heap:=h2}:=by have z:=Inv.Dq (t:=s'.toks) I' Y M T.1 (u1.trans u2);exact⟨Oc (Od z.ok) _ _,z.os,z.bare,z.base,z.loc,z.cell,z.free,z.iQ,z.pin,z.hok,z.len⟩
  refine Ă (hh (X.pn++pins) k H' {s' with heap:=h2} Dd e V c I2 ⟨B,a0,.none,⟨T.1,T.2.1,by show h2.FunFrames B X.stack;rw[F];exact T.2.2.1,T.2.2.2,T7⟩,M,⟨Y.keep,Y.there,Y.pins⟩⟩ hc ⟨τ',ρ',G',J,ok'⟩) (λf s3 h3=>Ds h3) λ_ _ z=>z
 ·nofun;dsimp only[zJ]at ok;cases q:mb τ G with
  |stuck=>k_is;k_end
  |nx τ' G'=>k_is;exact λk H' ρ' f J=>⟨τ',ρ',G',J,ok.fut f⟩
  |rt d G'=>k_is;k_end
  |bk τ' G'=>k_is;k_end
  |ct τ' G'=>k_is;k_end
  |xn c τ' G'=>k_is;exact λk H' ρ' f J=>⟨τ',ρ',G',f,J,ok.fut f⟩
 ·cases f with
  |next=>obtain⟨k,H',I',q⟩:=S;exact he pins s1 k H' Dd (tE I') q
  |brk=>exact Ds S
  |cont=>exact Ds S
  |ret u=>exact Ds S
end
noncomputable def gH(env:Env):List (Str×NameKind)->List (Str×Addr)->List (Str×Addr)
 |[],d=>d
 |(n,k)::r,d=>gH env r (if k==.free then (match env.cells.lookup n with|some c=>(n,c)::d|none=>d) else d)
theorem nt(h:∀x∈scope.names,x.2=.free->∃c,env.cells.lookup x.1=À c):closureFor scope env=pure (gH env scope.names []):=by
 unfold closureFor
 have J:∀(names:List (Str×NameKind))(d:List (Str×Addr)),(∀x∈names,x.2=.free->∃c,env.cells.lookup x.1=À c) ->
   (forIn names d λx r=>match x with|(name,D)=>if (D==NameKind.free)=Ã then do let y <- cellOf env name;pure (ForInStep.yield ((name,y)::r)) else pure (ForInStep.yield r))=(pure (gH env names d):Sem (List (Str×Addr))):=by
  intro names
  induction names with
  |nil=>intro d _;rfl
  |cons x r L=>
   intro d F;obtain⟨n,k⟩:=x;rw[Ŋ];by_cases t:(k==NameKind.free)=Ã
   ·obtain⟨c,M⟩:=F (n,k) ć (eq_of_beq t);have e:cellOf env n=pure c:=by unfold cellOf;rw[M]
    simp only[Α t,e,pure_bind];rw[L _ λy I=>F y (å _ I)];show _=pure (gH env r (if (k==NameKind.free)=Ã then (match env.cells.lookup n with|some c=>(n,c)::d|none=>d) else d));rw[Α t,M]
   ·simp only[Β t,pure_bind];rw[L _ λy I=>F y (å _ I)];show _=pure (gH env r (if (k==NameKind.free)=Ã then (match env.cells.lookup n with|some c=>(n,c)::d|none=>d) else d));rw[Β t]
 have k2:=J scope.names [] h
 first
  |(rw[k2];rfl)
  |(simp only[k2,pure_bind])
  |exact k2
theorem tG{env:Env}:∀(names:List (Str×NameKind))(t:List (Str×Addr)),(∀y c,t.lookup y=À c->env.cells.lookup y=À c)->∀y c,(gH env names t).lookup y=À c->env.cells.lookup y=À c
 |[],t,h,y,c,e=>h y c e
 |(n,k)::r,t,h,y,c,e=>by
  refine tG r _ (λz d ez=>?_) y c e;by_cases D:(k==NameKind.free)=Ã
  ·rw[Α D]at ez;cases q:env.cells.lookup n with
   |none=>rw[q]at ez;exact h z d ez
   |some F=>
    rw[q]at ez;dsimp only at ez;rw[ą]at ez;cases hz:z==n with
    |true=>rw[hz]at ez;cases ez;rw[eq_of_beq hz];exact q
    |false=>rw[hz]at ez;exact h z d ez
  ·rw[Β D]at ez;exact h z d ez
theorem tH{env:Env}:∀(names:List (Str×NameKind))(acc:List (Str×Addr))(y:Str),((∃c,acc.lookup y=À c)\/((y,NameKind.free)∈names/\∃c,env.cells.lookup y=À c))->∃c,(gH env names acc).lookup y=À c
 |[],acc,y,h=>by
  rcases h with h|⟨h,_⟩
  ·l_fit
  ·cases h
 |(n,k)::r,acc,y,h=>by
  refine tH r _ y ?_;rcases h with⟨c,h⟩|⟨h,c,t⟩
  ·refine .inl ?_;by_cases d:(k==NameKind.free)=Ã
   ·rw[Α d];cases q:env.cells.lookup n with
    |none=>exact⟨c,h⟩
    |some D=>
     k_in;rw[ą];cases hz:y==n with
     |true=>exact⟨D,rfl⟩
     |false=>exact⟨c,h⟩
   ·rw[Β d];exact⟨c,h⟩
  ·rcases Ù.mp h with e|h
   ·w_up;refine .inl ?_;rw[Α (by rfl),t];k_in;exact⟨c,by rw[ą,beq_self_eq_true]⟩
   ·exact .inr ⟨h,c,t⟩
section
open PyProof.Rows
noncomputable def mask{d:Type}:L9->List (Option d)->List (Option d)
 |_,[]=>[]
 |[],_::r=>Æ::mask [] r
 |k::ks,o::r=>(if k then o else Æ)::mask ks r
theorem jl{d:Type}:∀(ks:L9)(l:List (Option d)),(mask ks l).length=l.length
 |_,[]=>by unfold mask;rfl
 |[],_::r=>by unfold mask;simp[jl [] r]
 |k::ks,o::r=>by unfold mask;simp[jl ks r]
theorem lP{d:Type}{v:d}:∀{ks:L9}{l:List (Option d)}{i:Nat},(mask ks l)[i]?=À (À v)->ks[i]?=À Ã/\l[i]?=À (À v)
 |ks,[],i,h=>by unfold mask at h;simp at h
 |[],o::r,0,h=>by unfold mask at h;simp at h
 |[],o::r,i+1,h=>by unfold mask at h;have:=(lP (ks:=[]) (l:=r) (i:=i) ‹h›).1;simp at this
 |k::ks,o::r,0,h=>by
  unfold mask at h;cases k with
  |true=>simpa using h
  |false=>simp at h
 |k::ks,o::r,i+1,h=>by unfold mask at h;have:=lP (ks:=ks) (l:=r) (i:=i) ‹h›;f_are
theorem Dt{d:Type}{v:d}:∀{ks:L9}{l:List (Option d)}{i:Nat},ks[i]?=À Ã->l[i]?=À (À v)->(mask ks l)[i]?=À (À v)
 |ks,[],i,_,h=>by simp at h
 |[],o::r,i,h,_=>by simp at h
 |k::ks,o::r,0,h,e=>by unfold mask;simp at h e;simp[h,e]
 |k::ks,o::r,i+1,h,e=>by unfold mask;have:=Dt (ks:=ks) (l:=r) (i:=i) ‹h› ‹e›;f_are
noncomputable def vh(env:Env)(n:Str)(k:NameKind):NameKind:=if (k==.free&&env.scope.kind==.function&&env.kindOf n==À .cell) then .cell else k
theorem eG{env:Env}{y:Str}:∀(names:List (Str×NameKind)),(names.map λ(n,k)=>if (k==NameKind.free&&env.scope.kind==.function&&env.kindOf n==À .cell) then (n,NameKind.cell) else (n,k)).lookup y=(names.lookup y).map (vh env y)
 |[]=>rfl
 |(n,k)::r=>by
  have D:=eG (env:=env) (y:=y) r;rw[Ï,ą];by_cases d:(k==NameKind.free&&env.scope.kind==.function&&env.kindOf n==À .cell)=Ã
  ·rw[Α d,ą];cases t:y==n with
   |true=>have e:y=n:=eq_of_beq t;kpc_g;simp[vh,d]
   |false=>exact D
  ·rw[Β d,ą];cases t:y==n with
   |true=>have e:y=n:=eq_of_beq t;kpc_g;simp[vh,d]
   |false=>exact D
structure bw(Vv:Scope)(N:P3)(scope:Scope)(xs:P3)(ks:L9):Prop where
 nd:xs.Nodup
 kind:scope.kind=.function
 Ij:∀y∈scope.names,y.2≠.cell
 names:∀y∈scope.names,y.2=.local->scope.names.lookup y.1=À .local
 loc:∀x∈xs,scope.names.lookup x=À .local
 free:∀y∈scope.names,y.2=.free->Vv.names.lookup y.1=À .cell\/Vv.names.lookup y.1=À .free
 WN:((ks.zip N).all λp=>!p.1||decide (scope.names.lookup p.2=À .free))=Ã
theorem bw.cap{xs:P3}(S:bw Vv N scope xs ks):∀i<ks.length,ks[i]?=À Ã->∀y∈N[i]?,scope.names.lookup y=À .free:=λi _ d y k=>by have h:=œ.mp S.WN (Ã,y) (ç (i:=i) (by rw[abP];exact⟨d,k⟩));simpa using h
noncomputable def oW(X:Cx)(d:Scope)(cl:List (Str×Addr))(xs:P3)(C:Addr)(pins:N0)(s:Ê)(H:Hp)(fp:Q1)(E:Å->Ê->Prop):Cx where
 prog:=X.prog
 w:=X.w
 K:=X.K
 mg:=X.mg
 base:=X.base
 A:=X.A
 N:=xs++X.N
 s₀:=s
 H₀:=H
 env:=compEnvC d cl C X.env
 outer:=X.stack
 stack:=X.stack
 ex:=fp
 fn:=λ_=>Ä
 calm:=X.calm
 pn:=X.pn++pins
 xe:=E
section
variable{xs:P3}{s4:Ê}{fp:Q1}{h1:Heap}
theorem mem_lookup{d k:Type} [BEq d] [LawfulBEq d]:∀{l:List (d×k)}{a:d}{b:k},l.lookup a=À b->(a,b)∈l
 |[],_,_,h=>by simp at h
 |(t,D)::r,a,b,h=>by
  rw[ą]at h;cases hz:a==t with
  |true=>rw[hz]at h;cases h;rw[eq_of_beq hz];exact ć
  |false=>rw[hz]at h;exact å _ (mem_lookup h)
theorem Ik(S:bw X.env.scope X.N scope xs ks){cl:List (Str×Addr)}{C:Addr}{y:Str}(h:(compEnvC scope cl C X.env).kindOf y=À .cell\/(compEnvC scope cl C X.env).kindOf y=À .free):scope.names.lookup y=À .free:=by
 have h':(scope.names.lookup y).map (vh X.env y)=À .cell\/(scope.names.lookup y).map (vh X.env y)=À .free:=by rw[<- eG];l_fit
 cases q:scope.names.lookup y with
 |none=>rw[q]at h';rcases h' with h'|h'<;>cases h'
 |some k=>
  rw[q]at h';cases k with
  |free=>rfl
  |cell=>exact absurd rfl (S.Ij _ (mem_lookup q))
  |_=>rcases h' with h'|h'<;>simp[vh]at h'
theorem qB(S:bw X.env.scope X.N scope xs ks){cl:List (Str×Addr)}{C:Addr}{y:Str}(h:scope.names.lookup y=À .free):(compEnvC scope cl C X.env).kindOf y=À .cell\/(compEnvC scope cl C X.env).kindOf y=À .free:=by
 have e:(compEnvC scope cl C X.env).kindOf y=(scope.names.lookup y).map (vh X.env y):=eG scope.names;rw[e,h];unfold vh;dsimp only[Option.map];split
 ·exact .inl rfl
 ·exact .inr rfl
theorem tK(S:bw X.env.scope X.N scope xs ks)(d:x∈xs){cl:List (Str×Addr)}{C:Addr}:(compEnvC scope cl C X.env).kindOf x=À .local:=by have e:(compEnvC scope cl C X.env).kindOf x=(scope.names.lookup x).map (vh X.env x):=eG scope.names;rw[e,S.loc x d];rfl
theorem BX(S:bw X.env.scope X.N scope xs ks)(I:Inv X pins σ H s)(T:∀b∈fp,nG X pins H b/\b<s.heap.objs.size)(hn:h1.Ns s.heap.objs.size λ_=>Æ)(R:∀b o,s.heap.get? b=À o->h1.get? b=À o)(t:Nat)(ht:0<t:=by accm_mu):
  Inv (oW X scope (gH X.env scope.names []) xs s.heap.objs.size pins s H fp E) [] (Ö xs.length Æ++mask ks σ) H {s with heap:=h1,toks:=t}:=by
 have M:∀y c,(gH X.env scope.names []).lookup y=À c->X.env.cells.lookup y=À c:=tG scope.names [] λy c e=>by simp at e
 have lt:∀b o,s.heap.get? b=À o->b≠s.heap.objs.size:=λb o e=>á (Õ e);have QD:∀y c,X.env.cells.lookup y=À c->∃v,s.heap.IsCell c v:=λy c e=>I.cell y c e;have Oe:∀b,b≠X.env.locals->b∉X.fs->b∉frs X.stack:=λb h1 h2 h3=>(Ù.mp (I.kj b h3)).elim h1 h2
 refine⟨⟨I.ok.mod,?_,I.ok.glob,I.ok.blt,Ë _,λy z c V J=>I.ok.inj y z c (M y c V) (M z c J),λy hy=>?_,λy c h _=>absurd (show Ä=Ã from h) í,I.ok.hd,I.ok.frames,.inl rfl,λb L=>⟨á (T b L).2,λy c e=>(T b L).1.2.2.2.2.1 y c (M y c e)⟩,I.bs,
   ü I.ok.NY I.sz,λb o e L=>?_,λb L=>Oe b (T b L).1.2.1 (T b L).1.2.2.1,I.stack,I.oF⟩,⟨rfl,ht⟩,I.bare,Un.kept R,⟨_,hn,λi y v V J e3=>?_⟩,λy c e=>?_,I.hok.fresh (Ë _),λy c e=>(I.iQ y c (M y c e)).imp id λz=>⟨rfl,z.2⟩,λp hp=>?_,I.hok.kept R,?_⟩
 ·show(relabel scope X.env).kind=.function;exact S.kind
 ·have D:=Ik S hy;have Z:=mem_lookup D;refine tH scope.names [] y (.inr ⟨Z,?_⟩);exact I.ok.has y (S.free _ Z rfl)
 ·rcases(T b L).1.2.2.2.1 with z|z
  ·exact I.ok.Ey b o e z
  ·exact absurd (Ø (Õ (I.ok.bs b o e).1) z) (Ĭ _)
 ·by_cases O:i<xs.length
  ·rw[Î ‹O›,Ũ]at J;rw[Α O]at J;cases J
  ·obtain⟨j,rfl⟩:∃j,i=xs.length+j:=⟨i-xs.length,∅⟩;have Bu:(mask ks σ)[j]?=À (À v):=by rw[Ò ⋯]at J;simpa using J
   obtain⟨U,Y⟩:=lP Bu;have yW:X.N[j]?=À y:=by have:(xs++X.N)[xs.length+j]?=À y:=V;rw[Ò ∅]at this;f_are
   have D:scope.names.lookup y=À .free:=S.cap j (Â.mp U).1 U y (by rw[yW];rfl);obtain⟨m,Z,hl⟩:=I.loc;have F:=S.free _ (mem_lookup D) rfl;obtain⟨u,r,l⟩:=hl j y v yW Y (F.elim (λz=>.inr (.inl z)) λz=>.inr (.inr z));refine⟨u,r,.inr ⟨qB S D,?_⟩⟩;rcases l with⟨k,_⟩|⟨k,c,ec,hc⟩
   ·have k':X.env.scope.names.lookup y=À .local:=k;rcases F with z|z<;>(rw[k']at z;cases z)
   ·obtain⟨c',Yu⟩:=tH (env:=X.env) scope.names [] y (.inr ⟨mem_lookup D,c,ec⟩);have:=M y c' Yu;rw[ec]at this;cases this;exact⟨c,Yu,hc.keeps R⟩
 ·obtain⟨v,hc⟩:=QD y c (M y c e);exact⟨v,hc.keeps R⟩
 ·have Dr:p∈X.pn++pins:=by have:p∈(X.pn++pins)++[]:=hp;simpa using this
  obtain⟨e,n,ne,nf,d⟩:=I.pin p Dr;exact⟨R _ _ e,n,lt _ _ e,Oe _ ne nf,d⟩
 ·show(Ö xs.length Æ++mask ks σ).length=(xs++X.N).length;simp[jl,I.len]
theorem nP{T:Cx}{u:Å}{Q:Unit->Ê->Prop}{s0:Ê}{M:Hp}
  (S:bw X.env.scope X.N scope xs ks) (e:T=oW X scope cl xs C pins s0 H0 fp E) (Of:own.length=xs.length) (D:xs[n]?=À x) (I:Inv T fh (own++mask ks σ0) M s1) (r:RelV v u) (h:∀s',Inv T fh (own.set n (À v)++mask ks σ0) M s'->Q () s'):
  Ú M' A' (assign (.Name x px) T.env u) Q E' s1:=by
 kpc_g;obtain⟨m,hn,hl⟩:=id I.loc;have wj:=tK (cl:=cl) (C:=C) S (ç D);refine abW (aaP wj hn (λh' hn' F=>?_) (by rw[show(oW X scope cl xs C pins s0 H0 fp E).env.scope.kind=.function from S.kind];rfl));refine h _ ?_;have C8:∀b o,s0.heap.get? b=À o->b≠C:=λb o e=>á (Ø (Õ e) I.ok.above);obtain⟨oL,_,_,Yl,_⟩:=id hn;have t:M C=Æ:=I.free;refine⟨I.ok,⟨I.os.1,ý _⟩,I.bare,⟨λb o e n hb D=>?_,λb o e n hb D=>?_,I.base.free,λb o e D=>?_,I.base.tups,I.base.lG,I.base.nF⟩,⟨_,hn',λj y Y J L e3=>?_⟩,λy c e=>?_,I.free,I.iQ,λp hp=>?_,λb ob e=>?_,‹I.len›⟩
 ·exact(F.2 b (C8 b o e)).trans (I.base.keep b o e n hb D)
 ·obtain⟨sl,J⟩:=I.base.slot b o e n hb D;exact⟨sl,(F.2 b (C8 b o e)).trans J⟩
 ·obtain⟨o',J⟩:=I.base.there b o e D;exact⟨o',(F.2 b (C8 b o e)).trans J⟩
 ·have hnl:n<xs.length:=(Â.mp D).1;by_cases V:j<xs.length
  ·have ey:xs[j]?=À y:=by
    have:(xs++X.N)[j]?=À y:=J
    rwa [Î V]at this
   rw[Î (by simp;lia)]at L;by_cases Z:n=j
   ·subst Z;rw[D]at ey;cases ey;rw[ñ,Α rfl,Α ∅]at L;cases L;exact⟨u,r,.inl ⟨wj,by simp⟩⟩
   ·rw[Ô Z]at L;have hne:y≠x:=by rintro rfl;obtain⟨h1,yW⟩:=Â.mp D;obtain⟨h2,U⟩:=Â.mp ey;exact Z ((ŀ S.nd).mp (yW.trans U.symm))
    obtain⟨u',r',q⟩:=hl j y Y J (by rw[Î ∅];exact L) e3;refine⟨u',r',?_⟩;rcases q with⟨k,e⟩|⟨k,c,e,z⟩
    ·exact .inl ⟨k,by simpa[hne]using e⟩
    ·exact .inr ⟨k,c,e,z.sameBut F (I.Lj y c e)⟩
  ·obtain⟨j,rfl⟩:∃k,j=xs.length+k:=⟨j-xs.length,∅⟩;have U:(mask ks σ0)[j]?=À (À Y):=by rw[Ò (by simp;lia)]at L;simpa[Of]using L
   obtain⟨u',r',q⟩:=hl (xs.length+j) y Y J (by rw[Ò ∅];simpa[Of]using U) e3;refine⟨u',r',?_⟩;rcases q with⟨k,e⟩|⟨k,c,e,z⟩
   ·obtain⟨R,_⟩:=lP U;have yW:X.N[j]?=À y:=by have:(xs++X.N)[xs.length+j]?=À y:=J;rw[Ò ∅]at this;simpa using this
    have hfr:scope.names.lookup y=À .free:=S.cap j (Â.mp R).1 R y (by rw[yW];rfl);rcases qB (cl:=cl) (C:=C) S hfr with z|z
    ·have k':(compEnvC scope cl C X.env).kindOf y=À .local:=k;rw[k']at z;cases z
    ·have k':(compEnvC scope cl C X.env).kindOf y=À .local:=k;rw[k']at z;cases z
   ·exact .inr ⟨k,c,e,z.sameBut F (I.Lj y c e)⟩
 ·obtain⟨w',z⟩:=I.cell y c e;exact⟨w',z.sameBut F (I.Lj y c e)⟩
 ·obtain⟨e,n,ne,nf,d⟩:=I.pin p hp;exact⟨(F.2 p.1 ne).trans e,n,ne,nf,d⟩
 ·refine(I.hok b ob e).stay (λc w' O q=>(F.2 c ?_).trans q) (λ_ q=>q) λ_ _ q=>q;intro ec;rcases O with O|O
  ·have:M C=À ob:=by rw[<- (show c=C from ec),O];exact e
   rw[t]at this;cases this
  ·have:M C=À (.own b):=by rw[<- (show c=C from ec)];exact O
   rw[t]at this;cases this
def Uc:V->Hp->X1->Prop:=λx _ vs=>vs=[x]
def Ud(K:Ì)(n:Nat):V->Hp->X1->Prop:=λx H vs=>∃a,x=.ref a/\m8 K H a vs/\vs.length=n
def Own(X:Cx)(d:Scope)(xs:P3)(ks:L9)(L:Expr)(M:V->Hp->X1->Prop):Prop:=
 ∀(cl:List (Str×Addr))(C:Addr)(pins:N0)(s0:Ê)(H0:Hp)(fp:Q1)(E:Å->Ê->Prop)(k:Cx)(σ0:L2.St)(own:List (Option V))(x:V)(vs:X1)(u:Å)(t:Hp)(F:Ê)(I:N0)(J:Å->Ê->Prop)(Q:Unit->Ê->Prop),
  k=oW X d cl xs C pins s0 H0 fp E->own.length=xs.length->Inv k I (own++mask ks σ0) t F->RelV x u->M x t vs ->
  (vs.length=xs.length->∀D,Inv k I (vs.map À++mask ks σ0) t D->Q () D)->Ú (model X.prog X.w) X.A (assign L k.env u) Q J F
theorem Il(S:bw X.env.scope X.N scope [x] ks):Own X scope [x] ks (.Name x px) Uc:=by
 intro cl C pins s0 H0 fp E F σ0 own v vs u R J M L Q e t I r k h;cases k;rcases own with _|⟨a,_|⟨b,O⟩⟩<;>try (cases t;done)
 exact nP (own:=[a]) (n:=0) S e rfl rfl I r λd D=>h rfl d D
theorem Im{pt:Pos}{k:Nat}(V:X.calm=Ã)(S:bw X.env.scope X.N scope [x,y] ks):Own X scope [x,y] ks (.Tuple [.Name x px,.Name y py] k pt) (Ud X.K 2):=by
 intro cl C pins s0 H0 fp E t σ0 own v vs u D s1 Z E' Q e ho I r hv h;obtain⟨a,rfl,sq,R⟩:=hv;cases r;rcases own with _|⟨F,_|⟨d,_|⟨a3,ro⟩⟩⟩<;>try (cases ho;done)
 rcases vs with _|⟨J,_|⟨L,_|⟨v3,rw⟩⟩⟩<;>try (cases R;done)
 have ZC:m8 t.K D a [J,L]:=by rw[e];exact sq
 obtain⟨its,rv,ht,hz⟩:=I.tuple ZC;cases rv with
 |cons r1 rv=>
 cases rv with
 |cons r2 rv=>
 cases rv;have U:X.A.handled=Æ:=by have:=I.ok.hd (by rw[e];exact V);rw[e]at this;exact this
 refine assign_Tuple_tuple U ht rfl rfl λh' M=>?_;have Y:Inv t Z ([F,d]++mask ks σ0) D {s1 with heap:=h'}:=I.kept (t':=s1.toks) λb o e=>M b o (á (Õ e)) e;refine assignInOrder_cons (nP (own:=[F,d]) (n:=0) S e rfl rfl Y r1 λs2 T=>?_);refine assignInOrder_cons (nP (own:=[À J,d]) (n:=1) S e rfl rfl T r2 λs3 O=>?_);exact assignInOrder_nil (h rfl _ O)
end
end
theorem xW{prog:ð}{w:Ć}{A:Around}{R:Result->Ê->Prop}{s:Ê}{elt t V:Expr}{ifs:U2}{S:Scope}{pos:Pos}{it U:Å}{env:Env}(I:Nat->Ê->Prop)
  (Z:∀(n:Nat)(s:Ê),I n s->Ú (model prog w) A (pyNext it) (λr D=>match r with
   |none=>R (.ok .next) D
   |some v=>Ú (model prog w) A (letOwnedTupleGo t it v) (λ_ T=>Ú (model prog w) A (assign t env v) (λ_ M=>Ú (model prog w) A (forIn ifs Ã λc r=>if r=Ã then do let ok <- isTrue c env (eval c env);pure (ForInStep.yield ok) else pure (ForInStep.yield r)) (λok d=>if ok=Ã then Ú (model prog w) A (eval elt env) (λx J=>Ú (model prog w) A (call (.builtin "list.append") [U,x]) (λ_ L=>∃m,m<n/\I m L) (notedBy (model prog w) A env λe k=>R (.error e) k) J) (notedBy (model prog w) A env λe k=>R (.error e) k) d else ∃m,m<n/\I m d) (notedBy (model prog w) A env λe k=>R (.error e) k) M) (notedBy (model prog w) A env λe k=>R (.error e) k) T) (notedBy (model prog w) A env λe k=>R (.error e) k) D) (notedBy (model prog w) A env λe k=>R (.error e) k) s) (n:Nat) (h:I n s):
  codeAny (model prog w) A (.compLoop (.ListComp elt [⟨t,V,ifs,0⟩] S pos) 0 it U env) R s:=by
 refine codeAny_loop rfl I (λn s hI=>?_) n h;refine wpAny_noted ?_;rw[compTurn_list];refine Á (ac9 (Á (Ă (Z n s hI) (λr D O=>?_) λ_ _ z=>z)));cases r with
 |none=>exact È O
 |some v=>
  refine Á (Ă O (λ_ M h₂=>Á (Ă h₂ (λ_ d Y=>Á (Ă Y (λok J F=>?_) λ_ _ z=>z)) λ_ _ z=>z)) λ_ _ z=>z);cases ok with
  |false=>exact È ⟨rfl,F⟩
  |true=>exact Á (Á (Ă F (λx L h₅=>Á (Ă h₅ (λ_ s₆ h₆=>È (È ⟨rfl,h₆⟩)) λ_ _ z=>z)) λ_ _ z=>z))
def CT(X:Cx)(d:U2)(tt:TT):Prop:=∀(pins:N0)(s:Ê)(k:L2.St)(H:Hp)(Q:Bool->Hp->Prop),Inv X pins k H s->tt k H Q ->
 Ú (model X.prog X.w) X.A (forIn d Ã λc r=>if r=Ã then do let t <- isTrue c X.env (eval c X.env);pure (ForInStep.yield t) else pure (ForInStep.yield r)) (TP X pins k Q) X.xe s
theorem QF:CT X [] (λ_ H Q=>Q Ã H):=λ_ _ _ H _ I h=>wpAny_tests_nil ⟨H,I,h⟩
theorem QJ{t:TT}(h:PT X c t):CT X [c] t:=λpins s d H Q I q=>wpAny_tests_one (h pins s d H Q I q)
def zK(L:TI)(ks:L9)(M:V->Hp->X1->Prop)(tt:TT)(te:TE):TE:=λk H Q=>L k H λJ I=>∀D,I D=Æ->∃W:Nat->Nat->Hp->Prop,(∃m,W 0 m (upd I D (.lst [])))/\∀i m H,W i m H ->
  (J.stop i H/\Q (.ref D) H)\/(J.go i H/\∀x H',J.vO i H x H'->∃vs,M x H' vs/\tt (vs.map À++mask ks k) H' λb t=>if b=Ã then te (vs.map À++mask ks k) t λv F=>∃ys,F D=À (.lst ys)/\ys.length<Ç/\∃d,d<m/\W (i+1) d (upd F D (.lst (ys++[v]))) else ∃d,d<m/\W (i+1) d t)
section
variable{xs:P3}{ow:V->Hp->X1->Prop}{s4:Ê}{fp:Q1}{h1:Heap}{elt iter:Expr}{ifs:U2}{tt:TT}{te:TE}{wi:TI}
theorem rA{h h' B t:Heap}:∀{l:List Env},h.FunFrames B l->(∀b∈frs l,∀o,h.get? b=À o->(∀vs,o.data≠.fields vs)->∃k,h'.get? b=À k/\k.data=o.data)->(∀b∈frs l,t.get? b=Æ)->h'.FunFrames t l
 |[],_,_,_=>trivial
 |env::r,⟨O,⟨L,o,D,_,T,J⟩,R⟩,I,F=>by
  have sub:∀b,b=L\/b∈frs r->b∈frs (env::r):=λb d=>by
   unfold frs;rw[ĩ,D];rcases d with z|z
   ·rw[z];exact ć
   ·exact å _ z
  obtain⟨k,M,S⟩:=I L (sub L (.inl rfl)) o T J;exact⟨O,⟨L,k,D,F L (sub L (.inl rfl)),M,by rw[S];exact J⟩,rA R (λb d=>I b (sub b (.inr d))) λb d=>F b (sub b (.inr d))⟩
theorem BY{D C e:Addr}{M:Å}{c:XD}{fh:N0}{σ':L2.St}{H' Z:Hp}{O s':Ê}{cl:List (Str×Addr)}{RE:Å->Ê->Prop}(QK:fJ X EE)(hst:∃S gJ L,X.stack=S::gJ/\X.env.frame=S.frame/\S.frame=À L)
  (I:Inv X pins σ Z O) (hC:C=O.heap.objs.size) (f3:∀b∈fp,nG X pins Z b/\b<O.heap.objs.size)
  (WO:∀s'':Ê,(∃m,s''.heap.Ns C m/\∀h',Į C s''.heap h'->∀cenv:Env,cenv.locals=C->Ú (model X.prog X.w) X.A (passOn "comprehension.variables-let-go" (.ref e) cenv:Sem Å) (λ_ _=>False) X.xe {s'' with heap:=h'})->RE (.ref e) s'')
  (t:Inv (oW X scope cl xs C pins O Z fp E) fh σ' H' s') (fx:Qw (oW X scope cl xs C pins O Z fp E) H' e M s') (hc:zG X.mg c M) (ee:EE c σ H'):
  notedBy (model X.prog X.w) X.A (compEnvC scope cl C X.env) RE (.ref e) s':=by
 obtain⟨B,fb,hok,we⟩:=fx;obtain⟨S,gJ,L,h1,h2,h3⟩:=hst;show Ú _ X.A (noteFrame (.ref e) (compEnvC scope cl C X.env)) _ _ s';rw[BW (show(compEnvC scope cl C X.env).frame=S.frame from h2)];have hfr:X.A.frames=À (S::gJ):=by rw[<- h1];exact I.ok.frames
 have WM:BV B (S::gJ) e M s'.heap:=by rw[<- h1];exact fb
 refine xT hfr h3 WM λh5 a0 hH u5 ZD=>?_;obtain⟨k1,k2,k3,oe,vs,T,oT,ts,he,hcls,hd,J,T5,Sd,hT,Y,ZE⟩:=hH;have Yv:h5.FunFrames B X.stack:=by rw[h1];exact k3
 obtain⟨m,hm,_⟩:=id t.loc;have Yw:h5.Ns C m:=u5.ns hm;refine WO _ ⟨m,Yw,λh6 sb cenv _=>?_⟩;obtain⟨oC,esC,epC,ZF,ZG,_⟩:=id Yw;have Lo:∀{b:Addr}{o:Obj}{ws:Array Å},h5.get? b=À o->o.data=.fields ws->b≠C:=λ{b o ws} q d z=>by rw[z,ZF]at q;o_rec;rw[ZG]at d;cases d
 have WQ:=(sb.2 e (Lo he hd)).trans he;have Yx:=(sb.2 T (Lo hT Y)).trans hT;have Yy:3<ts.size:=(Ĺ.mp ZE).1;unfold passOn setFlight;refine Á (ú WQ hd J ?_);rw[Β (show ¬ ((Value.ref T==Value.none)=Ã) by simp)];have fin:X.xe (.ref e) {s' with heap:=h6.update T (ċ (·.setIfInBounds 3 (cenv.frame.elim .none λf=>rawInt f)))}:=by
  have Ue:∀b,b≠T->(h6.update T (ċ (·.setIfInBounds 3 (cenv.frame.elim .none λf=>rawInt f)))).get? b=h6.get? b:=λb hb=>è _ _ (ô hb);have xU:∀b,b≠T->b≠C->(h6.update T (ċ (·.setIfInBounds 3 (cenv.frame.elim .none λf=>rawInt f)))).get? b=h5.get? b:=λb hb hb2=>(Ue b hb).trans (sb.2 b hb2);generalize ZH:h6.update T (ċ (·.setIfInBounds 3 (cenv.frame.elim .none λf=>rawInt f)))=h7 at Ue xU;have ZI:h7.get? T=À (ċ (·.setIfInBounds 3 (cenv.frame.elim .none λf=>rawInt f)) oT):=by rw[<- ZH];exact ò _ Yx (Ŀ (ģ Y _))
  have ZJ:∀b o,B.get? b=À o->b≠T:=λb o q z=>by rw[z,T5]at q;o_rec
  have Vw:∀b o,(B.hide C).get? b=À o->h7.get? b=À o:=λb o q=>by
   have V:=acu q;have nC:b≠C:=λz=>by rw[z,Heap.hide_self]at q;o_rec
   rw[xU b (ZJ b o V) nC];exact k1 b o V
  have hide:∀b o,b≠C->B.get? b=À o->(B.hide C).get? b=À o:=λb o z q=>(Heap.hide_ne B z).trans q;have U:∀b o,O.heap.get? b=À o->b≠C:=λb o q=>by rw[hC];exact á (Õ q)
  have Ug:lF X.prog X.w H' (B.hide C):=zH hok λb o n q=>hide b o (λz=>n (by rw[z];exact t.free)) q;have Ua:∀b,b∉frs X.stack->b∉X.fs:=λb hb z=>hb (by
   rcases I.ok.stk with q|⟨q,_⟩
   ·rw[q];exact z
   ·rw[q];unfold frs;rw[ĩ];split
    ·exact z
    ·exact å _ z)
  have R:∀b o,O.heap.get? b=À o->b∈frs X.stack->∃sl,h7.get? b=À {o with slots:=sl}:=λb o q hb=>by obtain⟨_,F,V,hnf⟩:=I.stack.mem hb;rw[q]at V;cases V;obtain⟨sl,e1⟩:=t.base.slot b o q (I.oF b hb) hb λz=>(t.ok.Ez b z) hb;obtain⟨Lq,e2⟩:=u5 b _ e1 hnf;refine⟨Lq,?_⟩;rw[xU b (λz=>by rw[z,hT]at e2;cases e2;exact hnf _ Y) (U b o q)];exact e2
  have un:Un (frs X.stack) fp Z H' O.heap h7:=⟨λb o q n hb k=>Vw b o (hide b o (U b o q) (we.keep b o q n hb k)),λb o q n hb k=>R b o q hb,λb o q n k=>t.base.free b o q n k,λb o q k=>by
   by_cases hb:b∈frs X.stack
   ·obtain⟨sl,z⟩:=R b o q hb;exact⟨_,z⟩
   ·obtain⟨F,z⟩:=we.there b o q hb k;exact⟨F,Vw b F (hide b F (U b o q) z)⟩,t.base.tups,t.base.lG,t.base.nF⟩
  have I7:Inv X pins σ H' {s' with heap:=h7}:=I.GX (ch:=fp) t.os un (Ug.kept Vw) t.bare λb hb=>by obtain⟨g0,g1,g2,g3,g4,g5⟩:=(f3 b hb).1;exact⟨g3,g1,g4,g5⟩
  have Yz:∀b o,X.s₀.heap.get? b=À o->b∉X.ex->b∉fp:=λb o q k hb=>by
   obtain⟨g0,g1,g2,g3,g4,g5⟩:=(f3 b hb).1;rcases g3 with z|z
   ·exact k z
   ·exact absurd (Ø (Õ q) z) (Ĭ _)
  refine QK pins σ H' _ e M c I7 ⟨B.hide C,⟨Vw,?_,?_,.inr ⟨a0,_,oe,vs,T,_,_,?_,hcls,hd,J,?_,Sd,ZI,ģ Y _,by simp[Yy];rfl⟩,ZD.imp λod z=>⟨(xU e (ô Sd) (Lo he hd)).trans z.1,z.2⟩⟩,Ug,⟨λb o q n hb k=>?_,λb o q hb k=>?_,λp hp=>?_⟩⟩ hc ee
  ·cases q:(B.hide C).get? e with
   |none=>rfl
   |some o=>have:=acu q;rw[k2]at this;cases this
  ·refine rA Yv (λb hb o q hnf=>?_) λb hb=>?_
   ·refine⟨o,?_,rfl⟩;show h7.get? b=À o;rw[xU b (λz=>by rw[z,hT]at q;cases q;exact hnf _ Y) ?_]
    ·exact q
    ·obtain⟨_,F,V,_⟩:=I.stack.mem hb;exact U b F V
   ·cases q:(B.hide C).get? b with
    |none=>rfl
    |some o=>have:=acu q;rw[(Yv.mem hb).1]at this;cases this
  ·exact(xU e (ô Sd) (Lo he hd)).trans he
  ·cases q:(B.hide C).get? T with
   |none=>rfl
   |some o=>have:=acu q;rw[T5]at this;cases this
  ·have q3:=I.base.keep b o q n (Ua b hb) k;exact hide b o (U b o q3) (we.keep b o q3 (I.base.free b o q n k) hb (Yz b o q k))
  ·obtain⟨F,q3⟩:=I.base.there b o q k;obtain⟨YA,z⟩:=we.there b F q3 hb (Yz b o q k);exact⟨YA,hide b YA (U b F q3) z⟩
  ·exact hide _ _ (U _ _ (I.pin p (ġ _ hp)).1) (we.pins p (ġ _ hp))
 first
  |(refine Á (È ?_);refine Á (Á (ú WQ hd J ?_)))
  |refine Á (Á (ú WQ hd J ?_))
 rw[Α (show(Value.ref T != Value.none)=Ã by simp)];exact đ Yx Y Yy (acQ fin)
theorem tL{Q:VK}{J:It}{it:Addr}{tn:Nat->Heap->Prop}{RR:Å->Addr->Result->Ê->Prop}(QK:fJ X EE)(hst:∃gF gJ L,X.stack=gF::gJ/\X.env.frame=gF.frame/\gF.frame=À L)(S:bw X.env.scope X.N scope xs ks)(how:Own X scope xs ks tg ow)(hc:X.calm=Ã)(I:Inv X pins σ H s)
  (T:Turn X.prog X.w X.K tg J fp it tn) (st:tn 0 s.heap) (hf:∀b∈fp,nG X pins H b)
  (hb:∀(cl:List (Str×Addr))(C:Addr)(pins:N0)(s0:Ê)(H0:Hp)(fp:Q1)(E:Å->Ê->Prop),fJ (oW X scope cl xs C pins s0 H0 fp E) (λc _ H'=>EE c σ H')->CT (oW X scope cl xs C pins s0 H0 fp E) ifs tt/\PE (oW X scope cl xs C pins s0 H0 fp E) elt te)
  (hw:∀D,H D=Æ->∃W:Nat->Nat->Hp->Prop,(∃m,W 0 m (upd H D (.lst [])))/\∀i m H,W i m H ->
   (J.stop i H/\Q (.ref D) H)\/(J.go i H/\∀x H',J.vO i H x H'->∃vs,ow x H' vs/\tt (vs.map À++mask ks σ) H' λb H2=>if b=Ã then te (vs.map À++mask ks σ) H2 λv H3=>∃ys,H3 D=À (.lst ys)/\ys.length<Ç/\∃R,R<m/\W (i+1) R (upd H3 D (.lst (ys++[v]))) else ∃R,R<m/\W (i+1) R H2))
  (hRR:∀(D C:Addr)(t:Ê)(H':Hp)(m:Str->Option Å),Inv X pins σ H' t->t.heap.Ns C m->H' C=Æ->C≠X.env.locals->X.s₀.heap.objs.size<=C->(∀x c,X.env.cells.lookup x=À c->c≠C)->(∀p∈X.pn++pins,p.1≠C)->Q (.ref D) H'->RR (.ref D) C (.ok .next) t)
  (WO:∀(acc:Å)(C e:Addr)(s'':Ê),(∃m,s''.heap.Ns C m/\∀h',Į C s''.heap h'->∀cenv:Env,cenv.locals=C->Ú (model X.prog X.w) X.A (passOn "comprehension.variables-let-go" (.ref e) cenv:Sem Å) (λ_ _=>False) X.xe {s'' with heap:=h'})->RR acc C (.error (.ref e)) s''):
  Ú (model X.prog X.w) X.A (newList []) (λacc s₃=>Ú (model X.prog X.w) X.A (newFunctionEnv scope X.env.globals (gH X.env scope.names []) [] X.env.qual Æ .none (À X.env)) (λcenv s₄=>
   codeAny (model X.prog X.w) X.A (.compStart (.ListComp elt [⟨tg,iter,ifs,0⟩] scope pos) 0 (.ref it) acc {cenv with scope:=relabel scope X.env}) (RR acc cenv.locals) s₄) E s₃) E s:=by
 refine ë (wpAny_newFunctionEnv S.Ij (by intro y hy;simp at hy) (λh₁ Uh Ui=>?_) S.kind)
 have Z:Inv X pins σ (upd H s.heap.objs.size (.lst [])) {s with heap:=s.heap.push {cls:=.type "list",dict:=Æ,data:=.seq ([]:List Å).toArray}}:=
  I.laid (t':=s.toks) (λb o e=>É _ e) (Ë _) ⟨ê _,[],0,.nil,Ð _ rfl⟩
 have hfree:=I.hok.fresh (Ë s.heap.objs.size);generalize YB:({s with heap:=s.heap.push {cls:=.type "list",dict:=Æ,data:=.seq ([]:List Å).toArray}}:Ê)=s3 at Z Uh Ui |-;have hsz:s3.heap.objs.size=s.heap.objs.size+1:=by rw[<- YB];exact ā ..
 have Uj:∀b o,s.heap.get? b=À o->s3.heap.get? b=À o:=λb o e=>by rw[<- YB];exact É _ e
 have Uk:∀b∈fp,b<s.heap.objs.size:=λb k=>by obtain⟨o,e,_⟩:=T.obj 0 _ st b k;exact Õ e
 have f3:∀b∈fp,nG X pins (upd H s.heap.objs.size (.lst [])) b/\b<s3.heap.objs.size:=λb k=>
  ⟨⟨by rw[aI (á (Uk b k))];exact(hf b k).1,(hf b k).2⟩,by rw[hsz];exact Ŷ (Uk b k)⟩
 have Io:∀b o,s3.heap.get? b=À o->h₁.get? b=À o:=λb o e=>Ui.extBut b o (á (Õ e)) (É _ e);obtain⟨W,⟨m0,w0⟩,turn⟩:=hw s.heap.objs.size hfree;generalize M:oW X scope (gH X.env scope.names []) xs s3.heap.objs.size pins s3 (upd H s.heap.objs.size (.lst [])) fp (notedBy (model X.prog X.w) X.A (compEnvC scope (gH X.env scope.names []) s3.heap.objs.size X.env) λe t=>RR (.ref s.heap.objs.size) s3.heap.objs.size (.error e) t)=F;have I4:Inv F [] (Ö xs.length Æ++mask ks σ) (upd H s.heap.objs.size (.lst [])) {s3 with heap:=h₁,toks:=s3.toks+([]:List (Str×Å)).length}:=by rw[<- M];exact BX S Z f3 ‹Uh› Io _
 have Li:CT F ifs tt/\PE F elt te:=by rw[<- M];exact hb _ _ _ _ _ _ _ λfh σ' H' t e cls c O fx hc ee=>BY (RE:=λe t=>RR (.ref s.heap.objs.size) s3.heap.objs.size (.error e) t) (D:=s.heap.objs.size) QK hst Z rfl f3 (λs''=>WO _ _ e s'') O fx hc ee
 have zL:F.prog=X.prog:=by rw[<- M];rfl
 have ew:F.w=X.w:=by rw[<- M];rfl
 have eK:F.K=X.K:=by rw[<- M];rfl
 have eA:F.A=X.A:=by rw[<- M];rfl
 have Og:F.calm=Ã:=by rw[<- M];exact hc
 have WR:F.xe=notedBy (model X.prog X.w) X.A F.env λe t=>RR (.ref s.heap.objs.size) s3.heap.objs.size (.error e) t:=by rw[<- M];rfl
 have QM:F.env=compEnvC scope (gH X.env scope.names []) s3.heap.objs.size X.env:=by rw[<- M];rfl
 have ZK:F.stack=X.stack:=by rw[<- M];rfl
 have WS:∀{H':Hp},(∀b∈fp,H' b=Æ)->∀b∈fp,nG F [] H' b:=λ{H'} hn b k=>by obtain⟨g0,g1,g2,g3,g4,g5⟩:=(f3 b k).1;rw[<- M];refine⟨hn b k,á (f3 b k).2,λz=>(Ù.mp (Z.kj b z)).elim g1 g2,.inl k,λy c e=>g4 y c (tG scope.names [] (λy c e=>by simp at e) y c e),λp hp=>g5 p ?_⟩;have:p∈(X.pn++pins)++[]:=hp;f_are
 have fin:∀(t:Ê)(H':Hp)(a0:List (Option V)),Inv F [] (a0++mask ks σ) H' t->Q (.ref s.heap.objs.size) H'->RR (.ref s.heap.objs.size) s3.heap.objs.size (.ok .next) t:=λt H' a0 O q=>by
  have hloc:=O.loc;obtain⟨m,hm,_⟩:=hloc;have hC:H' s3.heap.objs.size=Æ:=by have:=O.free;rw[QM]at this;exact this
  have hU:Un (frs X.stack) fp (upd H s.heap.objs.size (.lst [])) H' s3.heap t.heap:=by have:=O.base;rw[<- M]at this;exact this
  have hos:t.os=s3.os/\0<t.toks:=by have:=O.os;rw[<- M]at this;exact this
  have WT:lF X.prog X.w H' t.heap:=by have:=O.hok;rw[<- M]at this;exact this
  have I5:Inv X pins σ H' t:=Z.GX hos hU WT O.bare λb k=>by obtain⟨g0,g1,g2,g3,g4,g5⟩:=(f3 b k).1;exact⟨g3,g1,g4,g5⟩
  refine hRR _ _ t H' m I5 (by rw[QM]at hm;exact hm) hC (ž Z.lt) (ü Z.sz (Ë _)) (λy c e z=>?_) (λp hp z=>?_) q
  ·obtain⟨v,hv⟩:=Z.cell y c e;exact absurd hv.lt (by rw[z];exact Ĭ _)
  ·exact absurd (Õ (Z.pin p hp).1) (by rw[z];exact Ĭ _)
 have U:codeAny (model X.prog X.w) X.A (.compLoop (.ListComp elt [⟨tg,iter,ifs,0⟩] scope pos) 0 (.ref it) (.ref s.heap.objs.size) F.env) (RR (.ref s.heap.objs.size) s3.heap.objs.size)
   {s3 with heap:=h₁,toks:=s3.toks+([]:List (Str×Å)).length}:=by
  refine xW (λn t=>∃i a0 H',a0.length=xs.length/\Inv F [] (a0++mask ks σ) H' t/\tn i t.heap/\(∀b∈fp,H' b=Æ)/\W i n H') ?_ m0 ⟨0,Ö xs.length Æ,_,by simp,I4,T.keep 0 _ _ st λb k o e=>Io b o (Uj b o e),λb k=>(f3 b k).1.1,w0⟩;rintro n s5 ⟨i,a0,H5,ZL,I5,R4,Vq,w5⟩;rcases turn i n H5 w5 with⟨stop,q⟩|⟨go,Y⟩
  ·have hd:=T.done F zL ew eK Og i [] s5 _ H5 (λ_ _=>False) I5 (WS Vq) R4 stop;rw[eA]at hd;refine Ă hd (λr s6 hr=>?_) (λ_ _ z=>Ģ z);obtain⟨rfl,I6⟩:=hr;exact fin s6 H5 a0 I6 q
  ·have hd:=T.item F zL ew eK Og i [] s5 _ H5 (λ_ _=>False) I5 (WS Vq) R4 go;rw[eA]at hd;refine Ă hd (λr s6 hr=>?_) (λ_ _ z=>Ģ z);obtain⟨u,rfl,h6⟩:=hr;refine Ă h6 (λ_ s7 hq=>?_) (λ_ _ z=>Ģ z);obtain⟨v,H7,I7,r7,y7,WU,ZM⟩:=hq;obtain⟨vs,hvs,Y⟩:=Y v H7 y7;have ZN:Inv F (qw fp s7.heap) (a0++mask ks σ) H7 s7:=by have:=Inv.pinned (pins:=[]) I7 (WS ZM) (T.obj _ _ WU);simpa using this
   have back:∀{σ':L2.St}{H':Hp}{t:Ê},Inv F (qw fp s7.heap) σ' H' t->Inv F [] σ' H' t/\tn (i+1) t.heap/\∀b∈fp,H' b=Æ:=λ{σ' H' t} O=>by refine⟨O.xE λp hp=>absurd hp ⋯,T.keep _ _ _ WU λb k o e=>(O.pin (b,o) (Ġ _ (kq k e))).1,λb k=>?_⟩;obtain⟨o,e,d⟩:=T.obj _ _ WU b k;exact(O.pin (b,o) (Ġ _ (kq k e))).2.1
   refine how _ _ _ _ _ _ _ F σ a0 v vs u H7 s7 _ _ _ M.symm ZL ZN r7 hvs λVx s8 ZO=>?_;have ht:=Li.1 _ s8 _ H7 _ ZO Y;rw[zL,ew,eA,WR]at ht;refine Ă ht (λZP s9 h9=>?_) (λ_ _ z=>z);obtain⟨H9,I9,q9⟩:=h9;cases ZP with
   |false=>rw[Β í]at q9 |-;obtain⟨R,hm',w'⟩:=q9;obtain⟨ZQ,ZR,ZS⟩:=back I9;exact⟨R,hm',i+1,vs.map À,H9,‹Vx›,ZQ,ZR,ZS,w'⟩
   |true=>rw[Α rfl]at q9 |-;have he:=Li.2 _ s9 _ H9 _ I9 q9;rw[zL,ew,eA,WR]at he;refine Ă he (λy ZT WV=>?_) (λ_ _ z=>z);obtain⟨yv,ZU,ZV,ZW,ys,hD,hlen,R,hm',w'⟩:=WV;have ha:=vX (X:=F) _ ZT _ ZU (.ref s.heap.objs.size) [yv] (.ref s.heap.objs.size) [y] (λ_ H'=>∃R,R<n/\W (i+1) R H') ZV rfl (.cons ZW .nil) ⟨_,ys,yv,rfl,rfl,hD,hlen,R,hm',w'⟩;rw[zL,ew,eA,WR]at ha;refine Ă ha (λ_ s11 h11=>?_) (λ_ _ z=>z);obtain⟨_,ZX,ZY,_,ZZ,WW,w''⟩:=h11;obtain⟨WX,WY,WZ⟩:=back ZY;exact⟨ZZ,WW,i+1,vs.map À,ZX,‹Vx›,WX,WY,WZ,w''⟩
 rw[QM]at U;exact codeAny_compStart_list U (T.self X.A 0 _ _ _ (T.keep 0 _ _ st λb k o e=>Io b o (Uj b o e)) U)
theorem xX{tt:L2.St->TT}{te:L2.St->TE}(QK:fJ X EE)(t:∃R gJ L,X.stack=R::gJ/\X.env.frame=R.frame/\R.frame=À L)(S:bw X.env.scope X.N scope xs ks)(d:Own X scope xs ks tg ow)(hc:X.calm=Ã)(hi:PI X tg iter wi)
  (V:∀(σ:L2.St)(cl:List (Str×Addr))(C:Addr)(pins:N0)(s0:Ê)(H0:Hp)(fp:Q1)(E:Å->Ê->Prop),fJ (oW X scope cl xs C pins s0 H0 fp E) (λc _ H'=>EE c σ H')->CT (oW X scope cl xs C pins s0 H0 fp E) ifs (tt σ)/\PE (oW X scope cl xs C pins s0 H0 fp E) elt (te σ))
  (hs:∀x,foldedSetIterable iter X.env x=pure x:=by intro _;rfl):PE X (.ListComp elt [⟨tg,iter,ifs,0⟩] scope pos) (λσ=>zK wi ks ow (tt σ) (te σ) σ):=by
 kd_p;rw[eval_ListComp];refine ab6 (use:=Æ) rfl hs (nt λy hy U=>I.ok.has y.1 (S.free y hy U)) S.kind S.names (dO (hi pins s σ H _ I h) λv s1 M=>dO M λitv s2 F=>?_);obtain⟨it,fp,tn,J,H2,rfl,I2,T,O,Z,q⟩:=F;refine tL (RR:=λk C=>compPost (model X.prog X.w) X.A X.xe Æ (EP X pins σ Q) k C) QK t S d hc I2 T O Z (V σ) q ?_ (λ_ _ _ _ z=>z);intro D C s' H' m I' hn hC M F h3 h4 q';refine⟨m,hn,λh' Y=>?_⟩;exact⟨.ref D,H',I'.turned (t':=s'.toks) (λb o V e=>(Y.2 b V).trans e) hC M (.inr F) h3 h4,rfl,q'⟩
theorem xY{tt:L2.St->TT}{te:L2.St->TE}(QK:fJ X EE)(U:∃gF gJ L,X.stack=gF::gJ/\X.env.frame=gF.frame/\gF.frame=À L){y:Str}{i:Nat}{t k:Pos}(S:bw X.env.scope X.N scope xs ks)(O:Own X scope xs ks tg ow)(hc:X.calm=Ã)(hN:X.N.Nodup)(hi:PI X tg iter wi)(hy:X.N[i]?=À y)(hl:X.env.scope.names.lookup y=À .local)
  (Z:swapsWith (.ListComp elt [⟨tg,iter,ifs,0⟩] scope pos) (À (.Name y t)) k.line X.env=pure Ã)
  (hb:∀(d:L2.St)(cl:List (Str×Addr))(C:Addr)(pins:N0)(s0:Ê)(H0:Hp)(fp:Q1)(E:Å->Ê->Prop),fJ (oW X scope cl xs C pins s0 H0 fp E) (λc _ H'=>EE c d H')->CT (oW X scope cl xs C pins s0 H0 fp E) ifs (tt d)/\PE (oW X scope cl xs C pins s0 H0 fp E) elt (te d))
  (hs:∀x,foldedSetIterable iter X.env x=pure x:=by intro _;rfl):PS X (.Assign [.Name y t] (.ListComp elt [⟨tg,iter,ifs,0⟩] scope pos) k) (Lz (λd=>zK wi ks ow (tt d) (te d) d) (vN i)):=by
 intro pins s d H Dd I h;rw[exec_Assign_Name_used _ _ _ _ Z];refine Á (ac9 (Á ?_));show Ú _ X.A (do let _ <- comprehension (.ListComp elt [⟨tg,iter,ifs,0⟩] scope pos) scope X.env _ (newList []) Ä (eval iter X.env) (À (assign (.Name y t) X.env))) _ _ s
 refine Á (Ă (ab6 (use:=À (assign (.Name y t) X.env)) (Q:=λ_ F=>SP X pins Dd .next F) rfl hs (nt λy hy hfr=>I.ok.has y.1 (S.free y hy hfr)) S.kind S.names
  (dO (hi pins s d H _ I h) λv s1 M=>dO M λitv s2 V=>?_)) (λ_ F hq=>È (È hq)) λ_ _ e=>e)
 obtain⟨it,fp,tn,J,H2,rfl,I2,T,Y,f2,q⟩:=V;refine tL (Q:=λv H'=>Dd.nx (d.set i (À v)) H') (RR:=λR C=>compPost (model X.prog X.w) X.A X.xe (À (assign (.Name y t) X.env)) (λ_ F=>SP X pins Dd .next F) R C) QK U S O hc I2 T Y f2 (hb d) q ?_ (λ_ _ _ _ z=>z);intro D C F H' m I' hn hC M V h3 h4 q';show Ú _ X.A (assign (.Name y t) X.env (.ref D)) _ _ F;refine abW (vM I' hN hy (.inl hl) (v:=.ref D) (u:=.ref D) rfl (λs'' Z0 sb=>?_) (.inr hl));obtain⟨a,sb,ha⟩:=sb;have hne:C≠a:=by
  rcases ha with e|e
  ·rw[e];exact M
  ·exact λz=>h3 y a e z.symm
 refine⟨m,hn.sameBut sb hne,λh'' sb'=>?_⟩;exact⟨_,H',Z0.turned (t':=s''.toks) (λb o hb e=>(sb'.2 b hb).trans e) hC M (.inr V) h3 h4,q'⟩
end
def oN:D->Option X2:=λd=>À [d]
noncomputable def oT(n:Nat):D->Option X2
 |.tup xs=>if xs.length=n then À xs else Æ
 |_=>Æ
def jC(K:Ì)(k:Str->Option Å)(F:V->Hp->X1->Prop)(gO:D->Option X2):Prop:=
 ∀(ρ:Q1)(H:Hp)(d:D)(v:V)(t:X2),Rep K k ρ H d v->gO d=À t->∃vs,F v H vs/\ao K k ρ H t vs
theorem E8:jC K mg Uc oN:=λρ H d v k r e=>by cases e;exact⟨[v],rfl,.cons r .nil⟩
theorem Ip:jC K mg (Ud K n) (oT n):=λρ H d v D r e=>by
 cases d<;>try (cases e;done)
 rename_i xs;dsimp only[oT]at e;by_cases h:xs.length=n
 ·rw[Α h]at e;w_up;k_dec;obtain⟨a,vs,rfl,t,k⟩:=r;exact⟨vs,⟨a,rfl,t,by rw[<- k.length];exact h⟩,k⟩
 ·rw[Β h]at e;w_up
def zM(K:Ì)(d:Str->Option Å)(H H':Hp)(ρ:Q1):Prop:=cQ K H H' ρ ρ/\∀G,fE K d H ρ G->fE K d H' ρ G
theorem zM.refl:zM K mg H H ρ:=⟨.refl,λ_ h=>h⟩
theorem zM.new{p:Addr}{o:HO}(d:H p=Æ):zM K mg H (upd H p o) ρ:=⟨cJ d ρ,λ_ h=>h.new d⟩
def dg(gO:D->Option X2)(ks:L9)(tt:DS->M Bool)(te:Y2)(n:Nat)(d:D)(τ:DS)(G:DH):Out Unit:=match gO d with
 |none=>.stuck
 |some F=>match tt (F.map À++mask ks τ) G with
 |.ok Ã k=>match te (F.map À++mask ks τ) k with
  |.ok v t=>match t[n]? with
   |some (.lst ys)=>if ys.length<Ç then .ok () (t.set n (.lst (ys++[v]))) else .stuck
   |_=>.stuck
  |.bP c t=>.bP c t
  |.stuck=>.stuck
 |.ok Ä k=>.ok () k
 |.bP c k=>.bP c k
 |.stuck=>.stuck
def cK(gO:D->Option X2)(ks:L9)(tt:DS->M Bool)(te:Y2)(n:Nat):X2->DS->DH->Out D
 |[],_,G=>.ok (.obj n) G
 |d::r,τ,G=>match dg gO ks tt te n d τ G with
  |.ok _ G'=>cK gO ks tt te n r τ G'
  |.bP c G'=>.bP c G'
  |.stuck=>.stuck
def nu(gO:D->Option X2)(ks:L9)(tt:DS->M Bool)(te:Y2)(n src:Nat):Nat->Nat->DS->DH->Out D
 |0,_,_,_=>.stuck
 |f+1,k,τ,G=>match G[src]? with
  |some (.lst xs)=>match xs[k]? with
   |none=>.ok (.obj n) G
   |some d=>match dg gO ks tt te n d τ G with
    |.ok _ G'=>nu gO ks tt te n src f (k+1) τ G'
    |.bP c G'=>.bP c G'
    |.stuck=>.stuck
  |_=>.stuck
def dJ(gO:D->Option X2)(ks:L9)(m:Y2)(tt:DS->M Bool)(te:Y2):Y2:=λτ=>(m τ).bind λd G=>match d with
 |.obj k=>match G[k]? with
  |some (.lst xs)=>nu gO ks tt te G.length k (xs.length+1) 0 τ (G++[.lst []])
  |_=>.stuck
 |.tup xs=>cK gO ks tt te G.length xs τ (G++[.lst []])
 |.con xs=>cK gO ks tt te G.length xs τ (G++[.lst []])
 |.str z=>cK gO ks tt te G.length (z.cps.toList.map λc=>.str ⟨#[c]⟩) τ (G++[.lst []])
 |_=>.stuck
def dD(d:X2->Option X2)(gO:D->Option X2)(ks:L9)(m:DS->M X2)(tt:DS->M Bool)(te:Y2):Y2:=λτ=>(m τ).bind λds G=>match d ds with
 |some xs=>cK gO ks tt te G.length xs τ (G++[.lst []])
 |none=>.stuck
section
variable{ow:V->Hp->X1->Prop}{xs:P3}
theorem E9(h:vg K mg H ρ σ τ)(r:ao K mg ρ H os vs):vg K mg H ρ (vs.map À++mask ks σ) (os.map À++mask ks τ):=by
 have D:=r.length;refine⟨by simp[jl,h.1,D],λi e he=>?_⟩;by_cases J:i<os.length
 ·rw[Î ‹J›,Þ]at he;cases q:os[i]? with
  |none=>rw[q]at he;cases he
  |some d=>rw[q]at he;cases he;obtain⟨v,k,t⟩:=r.get q;exact⟨v,by rw[Î (by simp;lia),Þ,k];rfl,t⟩
 ·rw[Ò (by simp;lia)]at he;obtain⟨I,F⟩:=lP he;obtain⟨w,k,t⟩:=h.2 _ e F;refine⟨w,?_,t⟩;rw[Ò (by simp;lia)];have:=Dt I k;simpa[D]using this
def qk(EE:bF)(d:L2.St):bF:=λc _ H'=>EE c d H'
theorem qC(hO:jC X.K X.mg ow gO){W:Hp->Prop}{n:Nat}{p:Addr}{F:L2.St}{H:Hp}{τ:DS}{ρ:Q1}{G:DH}{d:D}{v:V}(ab:Ab X.K X.mg F H τ ρ G)(r:Rep X.K X.mg ρ H d v)(Z:ρ[n]?=À p)
  (k:match dg gO ks tt te n d τ G with
   |.stuck=>False
   |.ok _ G'=>∀H' ρ',cQ X.K H H' ρ ρ'->Ab X.K X.mg F H' τ ρ' G'->W H'
   |.bP c G'=>∀H' ρ',cQ X.K H H' ρ ρ'->Ab X.K X.mg F H' τ ρ' G'->EE c F H'):
  ∃vs,ow v H vs/\liftT X.K X.mg (qk EE F) tt (vs.map À++mask ks F) H λb I=>if b=Ã then cE X.K X.mg (qk EE F) te (vs.map À++mask ks F) I λu H3=>∃ys,H3 p=À (.lst ys)/\ys.length<Ç/\W (upd H3 p (.lst (ys++[u]))) else W I:=by
 unfold dg at k;cases qo:gO d with
 |none=>rw[qo]at k;exact k.elim
 |some os=>
 rw[qo]at k;dsimp only at k;obtain⟨us,zh,Z1⟩:=hO ρ H d v os r qo;refine⟨us,zh,?_⟩;refine⟨_,ρ,G,⟨E9 ab.st Z1,ab.hp⟩,?_⟩;cases q:tt (os.map À++mask ks τ) G with
 |stuck=>rw[q]at k;exact k
 |bP c G1=>rw[q]at k;exact λH' ρ' f O=>k H' ρ' f ⟨ab.st.mono f,O.hp⟩
 |ok b G1=>
  rw[q]at k;intro H1 J L U;cases b with
  |false=>rw[Β í];exact k H1 J L ⟨ab.st.mono L,U.hp⟩
  |true=>
   rw[Α rfl];dsimp only at k;refine⟨_,J,G1,U,?_⟩;cases q2:te (os.map À++mask ks τ) G1 with
   |stuck=>rw[q2]at k;exact k
   |bP c G2=>rw[q2]at k;exact λH' ρ' f O=>k H' ρ' (L.trans f) ⟨ab.st.mono (L.trans f),O.hp⟩
   |ok u G2=>
    rw[q2]at k;dsimp only at k;intro w I t f2 Y r2;cases q3:G2[n]? with
    |none=>rw[q3]at k;exact k.elim
    |some o=>
     cases o with
     |lst ys=>
      rw[q3]at k;dsimp only at k;by_cases R:ys.length<Ç
      ·rw[Α R]at k;dsimp only at k;obtain⟨p',vs,T,S,rs⟩:=Y.hp.lst q3;have M:=L.trans f2;rw[M.get Z]at T;cases T;refine⟨vs,S,by rw[<- rs.length];exact R,?_⟩;have f3:cQ X.K I (upd I p (.lst (vs++[w]))) t t:=sd S t;exact k _ t (M.trans f3) ⟨ab.st.mono (M.trans f3),Y.hp.put (ds:=ys) (M.get Z) S (rs.append (.cons r2 .nil))⟩
      ·rw[Β R]at k;exact k.elim
     |_=>first|(rw[q]at ok;exact ok.elim)|(rw[q]at aQ;exact aQ.elim)|(rw[q3]at k;exact k.elim)|(rw[q]at e;cases e;done)|(rw[g]at ok;exact ok.elim)|(rw[g]at q;cases q;done)|(rw[g]at h;cases h;done)|exact ok.elim
theorem kF(hO:jC X.K X.mg ow gO){Q:VK}{J:It}{H0:Hp}{t:L2.St}{k:Q1}{G0:DH}{τ:DS}(ds:X2)
  (go:∀i H ρ,i<ds.length->cQ X.K H0 H k ρ->J.go i H) (M:∀i H ρ,ds.length<=i->cQ X.K H0 H k ρ->J.stop i H)
  (vO:∀i d H ρ x H',ds[i]?=À d->cQ X.K H0 H k ρ->J.vO i H x H'->zM X.K X.mg H H' ρ/\Rep X.K X.mg ρ H' d x)
  (ab:Ab X.K X.mg t H0 τ k G0) (ok:jK X.K X.mg EE H0 t τ k (cK gO ks tt te G0.length ds τ (G0++[.lst []])) Q):
  ∀D,H0 D=Æ->∃W:Nat->Nat->Hp->Prop,(∃m,W 0 m (upd H0 D (.lst [])))/\∀i m H,W i m H ->
   (J.stop i H/\Q (.ref D) H)\/(J.go i H/\∀x H',J.vO i H x H'->∃vs,ow x H' vs/\liftT X.K X.mg (qk EE t) tt (vs.map À++mask ks t) H' λb Z=>if b=Ã then cE X.K X.mg (qk EE t) te (vs.map À++mask ks t) Z λv L=>∃ys,L D=À (.lst ys)/\ys.length<Ç/\∃I,I<m/\W (i+1) I (upd L D (.lst (ys++[v]))) else ∃I,I<m/\W (i+1) I Z):=by
 intro D Y;have R:cQ X.K H0 (upd H0 D (.lst [])) k (k++[D]):=(cJ Y k).trans (cX k D);have Ml:Ab X.K X.mg t (upd H0 D (.lst [])) τ (k++[D]) (G0++[.lst []]):=ab.fut R (ab.hp.more Y .nil);have O:(k++[D])[G0.length]?=À D:=by rw[<- ab.hp.hl,aB]
 refine⟨λi m H=>i<=ds.length/\m=ds.length-i/\∃ρ G,Ab X.K X.mg t H τ ρ G/\cQ X.K H0 H k ρ/\ρ[G0.length]?=À D/\jK X.K X.mg EE H t τ ρ (cK gO ks tt te G0.length (ds.drop i) τ G) Q,
  ⟨ds.length,ê _,rfl,k++[D],_,Ml,R,O,by simpa using ok.fut R⟩,?_⟩
 rintro i m H ⟨hi,rfl,ρ,G,ab,f,T,ok⟩;by_cases F:i<ds.length
 ·refine .inr ⟨go i H ρ F f,λx H' y=>?_⟩;obtain⟨⟨S,hN⟩,rx⟩:=vO i ds[i] H ρ x H' (Í F) f y
  replace ok:=jK.fut S ok
  replace ab:Ab X.K X.mg t H' τ ρ G:=ab.fut S (hN _ ab.hp)
  replace f:=f.trans S
  rw[ľ F]at ok;unfold cK at ok
  refine qC hO (W:=λL=>∃I,I<ds.length-i/\i+1<=ds.length/\I=ds.length-(i+1)/\∃ρ G,Ab X.K X.mg t L τ ρ G/\cQ X.K H0 L k ρ/\ρ[G0.length]?=À D/\jK X.K X.mg EE L t τ ρ (cK gO ks tt te G0.length (ds.drop (i+1)) τ G) Q)
    ab rx T ?_
  cases e:dg gO ks tt te G0.length ds[i] τ G with
  |stuck=>right
  |bP c G'=>right
  |ok _ G'=>kt_k;exact λL V U nK=>⟨ds.length-(i+1),∅,F,rfl,V,G',nK,f.trans U,U.get T,ok.fut U⟩
 ·have e:i=ds.length:=∅
  kpc_g;refine .inl ⟨M _ H ρ (Ë _) f,?_⟩;rw[ŏ (Ë _)]at ok;exact ok _ H ρ .refl ab (by unfold Rep;exact⟨D,rfl,T⟩)
theorem Iq(hO:jC X.K X.mg ow gO){Q:VK}{H0:Hp}{F:L2.St}{t:Q1}{G0:DH}{τ:DS}{k fuel:Nat}{p:Addr}(hk:t[k]?=À p)
  (ab:Ab X.K X.mg F H0 τ t G0) (ok:jK X.K X.mg EE H0 F τ t (nu gO ks tt te G0.length k fuel 0 τ (G0++[.lst []])) Q):
  ∀D,H0 D=Æ->∃W:Nat->Nat->Hp->Prop,(∃m,W 0 m (upd H0 D (.lst [])))/\∀i m H,W i m H ->
   ((Lk X.K p).stop i H/\Q (.ref D) H)\/((Lk X.K p).go i H/\∀x H',(Lk X.K p).vO i H x H'->∃vs,ow x H' vs/\liftT X.K X.mg (qk EE F) tt (vs.map À++mask ks F) H' λb Y=>if b=Ã then cE X.K X.mg (qk EE F) te (vs.map À++mask ks F) Y λv J=>∃ys,J D=À (.lst ys)/\ys.length<Ç/\∃I,I<m/\W (i+1) I (upd J D (.lst (ys++[v]))) else ∃I,I<m/\W (i+1) I Y):=by
 intro D U;have M:cQ X.K H0 (upd H0 D (.lst [])) t (t++[D]):=(cJ U t).trans (cX t D);have Ml:Ab X.K X.mg F (upd H0 D (.lst [])) τ (t++[D]) (G0++[.lst []]):=ab.fut M (ab.hp.more U .nil);have L:(t++[D])[G0.length]?=À D:=by rw[<- ab.hp.hl,aB]
 refine⟨λi m H=>∃ρ G,Ab X.K X.mg F H τ ρ G/\cQ X.K H0 H t ρ/\ρ[G0.length]?=À D/\jK X.K X.mg EE H F τ ρ (nu gO ks tt te G0.length k m i τ G) Q,
  ⟨fuel,t++[D],_,Ml,M,L,ok.fut M⟩,?_⟩
 rintro i m H ⟨ρ,G,ab,f,O,ok⟩;cases m with
 |zero=>left
 |succ m=>
  unfold nu at ok;cases q:G[k]? with
  |none=>kj_on
  |some o=>
   cases o with
   |lst ds=>
    k_is;ac_nf;obtain⟨p',xs,e1,T,Z⟩:=ab.hp.lst q;rw[f.get hk]at e1;cases e1;cases qd:ds[i]? with
    |none=>
     rw[qd]at ok;have hl:xs.length<=i:=by rw[<- Z.length];exact Č.mp qd
     exact .inl ⟨⟨xs,.of T,hl⟩,ok _ H ρ .refl ab (by unfold Rep;exact⟨D,rfl,O⟩)⟩
    |some d=>
     rw[qd]at ok;ac_nf;obtain⟨x0,ex,rx⟩:=Z.get qd;refine .inr ⟨⟨xs,x0,.of T,ex⟩,λx H' y=>?_⟩;obtain⟨rfl,y⟩:=y;have V:=y xs (.of T);rw[ex]at V;cases V
     refine qC hO (W:=λJ=>∃I,I<m+1/\∃ρ G,Ab X.K X.mg F J τ ρ G/\cQ X.K H0 J t ρ/\ρ[G0.length]?=À D/\jK X.K X.mg EE J F τ ρ (nu gO ks tt te G0.length k I (i+1) τ G) Q)
       ab rx O ?_
     cases e:dg gO ks tt te G0.length d τ G with
     |stuck=>right
     |bP c G'=>right
     |ok _ G'=>kt_k;exact λJ S R nK=>⟨m,Ĳ _,S,G',nK,f.trans R,R.get O,ok.fut R⟩
   |_=>first|(rw[q]at ok;exact ok.elim)|(rw[q]at aQ;exact aQ.elim)|(rw[q3]at hW;exact hW.elim)|(rw[q]at e;cases e;done)|(rw[g]at ok;exact ok.elim)|(rw[g]at q;cases q;done)|(rw[g]at h;cases h;done)|exact ok.elim
variable{elt iter a b:Expr}{ifs:U2}{m:Y2}
theorem wk(O:jC X.K X.mg ow gO){L:L2.St}{H:Hp}{Q:VK}(h:cE X.K X.mg EE (dJ gO ks m tt te) L H Q):
  zK (λL H R=>cE X.K X.mg EE m L H λx I=>(∃p,x=.ref p/\(∃xs,ko X.K I p xs)/\R (Lk X.K p) I)\/(∃p,x=.ref p/\(∃xs,m8 X.K I p xs)/\R (Vp X.K p) I)\/∃z,x=.str z/\R (Mb z) I) ks ow (liftT X.K X.mg (qk EE L) tt) (cE X.K X.mg (qk EE L) te) L H Q:=by
 obtain⟨τ,ρ,G,ab,ok⟩:=kr (k:=λτ d G=>match d with
  |.obj k=>match G[k]? with
   |some (.lst xs)=>nu gO ks tt te G.length k (xs.length+1) 0 τ (G++[.lst []])
   |_=>.stuck
  |.tup xs=>cK gO ks tt te G.length xs τ (G++[.lst []])
  |.con xs=>cK gO ks tt te G.length xs τ (G++[.lst []])
  |.str z=>cK gO ks tt te G.length (z.cps.toList.map λc=>.str ⟨#[c]⟩) τ (G++[.lst []])
  |_=>.stuck) h
 nofun;cases e:m τ G with
 |stuck=>right
 |bP c G'=>right
 |ok d G'=>
  kt_k;intro v I T f1 Y r1;obtain⟨τ2,ρ2,G2,d2,M,r2,aQ⟩:=ok v I T f1 Y r1;cases d2<;>try exact aQ.elim
  case obj n=>
   dsimp only at aQ;f_len;obtain⟨p,rfl,e1⟩:=r2;cases q:G2[n]? with
   |none=>rw[q]at aQ;o_src
   |some o=>
    cases o with
    |lst xs=>rw[q]at aQ;obtain⟨p',vs,e2,Z,F⟩:=M.hp.lst q;k_put;exact .inl ⟨p,rfl,⟨vs,.of Z⟩,Iq O e1 M aQ⟩
    |_=>first|(rw[q]at ok;exact ok.elim)|(rw[q]at aQ;exact aQ.elim)|(rw[q3]at hW;exact hW.elim)|(rw[q]at e;cases e;done)|(rw[g]at ok;exact ok.elim)|(rw[g]at q;cases q;done)|(rw[g]at h;cases h;done)|exact ok.elim
  case tup xs=>
   f_len;obtain⟨p,vs,rfl,D,F⟩:=r2;refine .inr (.inl ⟨p,rfl,⟨vs,D⟩,kF O xs (λi H' ρ' t f=>?_) (λi H' ρ' t f=>?_) (λi d' H' ρ' x U J f y=>?_) M aQ⟩)
   ·rw[F.length]at t;exact⟨vs,vs[i],f.tup _ _ D,Í t⟩
   ·exact⟨vs,f.tup _ _ D,by rw[<- F.length];exact t⟩
   ·obtain⟨rfl,y⟩:=y;obtain⟨V,S,rw'⟩:=F.get J;have:=y vs (f.tup _ _ D);rw[S]at this;cases this;exact⟨.refl,rw'.mono f⟩
  case con xs=>
   f_len;obtain⟨p,vs,rfl,D,F⟩:=r2;refine .inl ⟨p,rfl,⟨vs,D.seq⟩,kF O xs (λi H' ρ' t f=>?_) (λi H' ρ' t f=>?_) (λi d' H' ρ' x U J f y=>?_) M aQ⟩
   ·rw[F.length]at t;exact⟨vs,vs[i],(f.con _ _ D).seq,Í t⟩
   ·exact⟨vs,(f.con _ _ D).seq,by rw[<- F.length];exact t⟩
   ·obtain⟨rfl,y⟩:=y;obtain⟨V,S,rw'⟩:=F.get J;have:=y vs (f.con _ _ D).seq;rw[S]at this;cases this;exact⟨.refl,rw'.mono f⟩
  case str z=>
   f_len;subst r2;refine .inr (.inr ⟨z,rfl,kF O (z.cps.toList.map λc=>.str ⟨#[c]⟩) (λi H' ρ' t f=>?_) (λi H' ρ' t f=>?_) (λi d' H' ρ' x U J f y=>?_) M aQ⟩)
   ·simpa[Mb]using t
   ·simpa[Mb]using t
   ·obtain⟨rfl,c,hc,rfl⟩:=y;rw[Þ]at J;have:z.cps.toList[i]?=À c:=‹hc›
    rw[this]at J;cases J;exact⟨.refl,by unfold Rep;rfl⟩
def jR(X:Cx)(d:Scope)(xs:P3)(k:U2)(t:Expr)(tt:DS->M Bool)(te:Y2):Prop:=
 ∀(cl:List (Str×Addr))(C:Addr)(pins:N0)(s0:Ê)(H0:Hp)(fp:Q1)(E:Å->Ê->Prop)(EE:bF),fJ (oW X d cl xs C pins s0 H0 fp E) EE->CT (oW X d cl xs C pins s0 H0 fp E) k (liftT X.K X.mg EE tt)/\QE (oW X d cl xs C pins s0 H0 fp E) EE t te
def dw:DS->M Bool:=λ_=>M.ret Ã
theorem Fb(h:∀(cl:List (Str×Addr)) (C:Addr) (pins:N0) (s0:Ê) (H0:Hp) (fp:Q1) (E:Å->Ê->Prop) (EE:bF),fJ (oW X scope cl xs C pins s0 H0 fp E) EE->QE (oW X scope cl xs C pins s0 H0 fp E) EE elt te):jR X scope xs [] elt dw te:=
 λcl C pins s0 H0 fp E EE d=>⟨λk s D H Q I F=>by obtain⟨τ,ρ,G,ab,t⟩:=F;exact QF k s D H Q I (t H ρ .refl ab),h cl C pins s0 H0 fp E EE d⟩
theorem Fc(h:∀(cl:List (Str×Addr)) (C:Addr) (pins:N0) (s0:Ê) (H0:Hp) (fp:Q1) (E:Å->Ê->Prop) (EE:bF),fJ (oW X scope cl xs C pins s0 H0 fp E) EE->QT (oW X scope cl xs C pins s0 H0 fp E) EE c tt/\QE (oW X scope cl xs C pins s0 H0 fp E) EE elt te):jR X scope xs [c] elt tt te:=
 λcl C pins s0 H0 fp E EE d=>⟨QJ (h cl C pins s0 H0 fp E EE d).1,(h cl C pins s0 H0 fp E EE d).2⟩
def lQ(X:Cx):Prop:=∃d k L,X.stack=d::k/\X.env.frame=d.frame/\d.frame=À L
theorem Mm(D:fJ X EE)(t:lQ X)(S:bw X.env.scope X.N scope xs ks)(k:Own X scope xs ks tg ow)(I:jC X.K X.mg ow gO)(M:X.calm=Ã)(F:QE X EE iter m)(L:jR X scope xs ifs elt tt te)(J:∀x,foldedSetIterable iter X.env x=pure x:=by intro _;rfl):
  QE X EE (.ListComp elt [⟨tg,iter,ifs,0⟩] scope pos) (dJ gO ks m tt te):=PE.mono (xX (tt:=λd=>liftT X.K X.mg (qk EE d) tt) (te:=λd=>cE X.K X.mg (qk EE d) te) D t S k M (PI.any F) (λd cl C pins s0 H0 fp E=>L cl C pins s0 H0 fp E _) J) λ_ _ _ h=>wk I h
theorem Mn{I k:Pos}(J:fJ X EE)(D:lQ X)(S:bw X.env.scope X.N scope xs ks)(t:Own X scope xs ks tg ow)(V:jC X.K X.mg ow gO)(R:X.calm=Ã)(hN:X.N.Nodup)(U:QE X EE iter m)(Z:jR X scope xs ifs elt tt te)(M:X.N[i]?=À y)(L:X.env.scope.names.lookup y=À .local)
  (F:swapsWith (.ListComp elt [⟨tg,iter,ifs,0⟩] scope pos) (À (.Name y I)) k.line X.env=pure Ã:=by rfl) (Y:∀x,foldedSetIterable iter X.env x=pure x:=by intro _;rfl):
  QS X EE (.Assign [.Name y I] (.ListComp elt [⟨tg,iter,ifs,0⟩] scope pos) k) (aC i (dJ gO ks m tt te)):=PS.mono (xY (tt:=λσ=>liftT X.K X.mg (qk EE σ) tt) (te:=λσ=>cE X.K X.mg (qk EE σ) te) J D S t R hN (PI.any U) M L F (λσ cl C pins s0 H0 fp E=>Z cl C pins s0 H0 fp E _) Y) λT σ H h=>by
 x_go;refine wk V (EE:=EE) (Q:=λv O=>vN i v σ O T.nx) ⟨τ,ρ,G,ab,?_⟩;dsimp only[aC,bI]at ok;cases e:dJ gO ks m tt te τ G with
 |stuck=>right
 |bP c G'=>kt_k;k_not
 |ok d G'=>kt_k;exact λv H' ρ' f aZ r=>ok _ H' ρ' f (aZ.set r)
theorem Ir(U:jC X.K X.mg ow gO){Q:VK}{H0:Hp}{t:L2.St}{L:Q1}{O:DH}{τ:DS}(F:Int)(n:Nat)(ab:Ab X.K X.mg t H0 τ L O)
  (T:jK X.K X.mg EE H0 t τ L (cK gO ks tt te O.length ((Ů n).map λ(k:Nat)=>.int (F+(k:Int))) τ (O++[.lst []])) Q):
  ∀D,H0 D=Æ->∃W:Nat->Nat->Hp->Prop,(∃m,W 0 m (upd H0 D (.lst [])))/\∀i m H,W i m H ->
   ((xF F n).stop i H/\Q (.ref D) H)\/((xF F n).go i H/\∀x H',(xF F n).vO i H x H'->∃vs,ow x H' vs/\liftT X.K X.mg (qk EE t) tt (vs.map À++mask ks t) H' λb R=>if b=Ã then cE X.K X.mg (qk EE t) te (vs.map À++mask ks t) R λv S=>∃ys,S D=À (.lst ys)/\ys.length<Ç/\∃I,I<m/\W (i+1) I (upd S D (.lst (ys++[v]))) else ∃I,I<m/\W (i+1) I R):=
 kF U (J:=xF F n) _ (λi H ρ M f=>by simpa[xF]using M) (λi H ρ M f=>by simpa[xF]using M) (λi d H ρ x H' hd f y=>by
  obtain⟨rfl,rfl⟩:=y;rw[Þ]at hd;cases q:(Ů n)[i]? with
  |none=>rw[q]at hd;cases hd
  |some k=>rw[q]at hd;obtain⟨V,e⟩:=Â.mp q;rw[adk]at e;kpc_g;cases hd;exact⟨.refl,by unfold Rep;rfl⟩) ab T
variable{ma:DS->M X2}
theorem rB(R:jC X.K X.mg ow gO){d:L2.St}{H:Hp}{Q:VK}(h:cE X.K X.mg EE (dD fc gO ks ma tt te) d H Q):zK (N2 (lN X.K X.mg EE ma)) ks ow (liftT X.K X.mg (qk EE d) tt) (cE X.K X.mg (qk EE d) te) d H Q:=by
 obtain⟨τ,ρ,G,ab,ok⟩:=qy (k:=λτ ds G=>match fc ds with|some xs=>cK gO ks tt te G.length xs τ (G++[.lst []])|none=>.stuck) h;nofun;cases e:ma τ G with
 |stuck=>right
 |bP c G'=>right
 |ok ds G'=>
  kt_k;intro vs M t U J S;obtain⟨O,T,V,d2,L,I,aQ⟩:=ok vs M t U J S;cases q:fc d2 with
  |none=>rw[q]at aQ;o_src
  |some xs=>
   rw[q]at aQ;unfold fc at q;split at q
   ·rename_i j;split at q
    ·rename_i F;o_rec;obtain⟨v,rfl,D⟩:=f7 I;unfold Rep at D;subst D;exact⟨j,rfl,F.1,F.2,Ir R 0 j.toNat L aQ⟩
    ·o_rec
   ·o_rec
theorem zN{t:TE}(k:∀σ H Q,cE X.K X.mg EE me σ H Q->t σ H Q){D:Ends}{σ:L2.St}{H:Hp}(h:iC X.K X.mg EE (aC i me) D σ H):Lz t (vN i) D σ H:=by
 x_go;refine k σ H (λv F=>vN i v σ F D.nx) ⟨τ,ρ,G,ab,?_⟩;dsimp only[aC,bI]at ok;cases e:me τ G with
 |stuck=>right
 |bP c G'=>kt_k;k_not
 |ok d G'=>kt_k;exact λv H' ρ' f aZ r=>ok _ H' ρ' f (aZ.set r)
theorem Fd{p D:Pos}(F:fJ X EE)(t:lQ X)(S:bw X.env.scope X.N scope xs ks)(k:Own X scope xs ks tg ow)(L:jC X.K X.mg ow gO)(U:X.calm=Ã)(O:X.mg "range"=Æ)(I:QA X EE [a] ma)(T:jR X scope xs ifs elt tt te)(J:Gl X "range")(R:æ [a] X.env=[(Ä,eval a X.env)])
  (M:∀x,foldedSetIterable (.Call (.Name "range" p) [a] [] D) X.env x=pure x:=by intro _;rfl):
  QE X EE (.ListComp elt [⟨tg,.Call (.Name "range" p) [a] [] D,ifs,0⟩] scope pos) (dD fc gO ks ma tt te):=PE.mono (xX (tt:=λd=>liftT X.K X.mg (qk EE d) tt) (te:=λd=>cE X.K X.mg (qk EE d) te) F t S k U (qv J O I R) (λd cl C pins s0 H0 fp E=>T cl C pins s0 H0 fp E _) M) λ_ _ _ h=>rB L h
theorem Fe{J d p I:Pos}(L:fJ X EE)(D:lQ X)(S:bw X.env.scope X.N scope xs ks)(t:Own X scope xs ks tg ow)(Z:jC X.K X.mg ow gO)(U:X.calm=Ã)(hN:X.N.Nodup)(R:X.mg "range"=Æ)(V:QA X EE [a] ma)(hb:jR X scope xs ifs elt tt te)(O:X.N[i]?=À y)(M:X.env.scope.names.lookup y=À .local)
  (Y:Gl X "range":=by rfl) (T:æ [a] X.env=[(Ä,eval a X.env)]:=by rfl)
  (F:swapsWith (.ListComp elt [⟨tg,.Call (.Name "range" p) [a] [] I,ifs,0⟩] scope pos) (À (.Name y J)) d.line X.env=pure Ã:=by rfl) (hs:∀x,foldedSetIterable (.Call (.Name "range" p) [a] [] I) X.env x=pure x:=by intro _;rfl):
  QS X EE (.Assign [.Name y J] (.ListComp elt [⟨tg,.Call (.Name "range" p) [a] [] I,ifs,0⟩] scope pos) d) (aC i (dD fc gO ks ma tt te)):=
 PS.mono (xY (tt:=λk=>liftT X.K X.mg (qk EE k) tt) (te:=λk=>cE X.K X.mg (qk EE k) te) L D S t U hN (qv Y R V T) O M F (λk cl C pins s0 H0 fp E=>hb cl C pins s0 H0 fp E _) hs) λ_ _ _ h=>zN (λ_ _ _ h=>rB Z h) h
end
theorem Mp{k:Nat}(r:gE k A):A.units+600<cLine:=by have:=r.un;lia
theorem Ul{EE:bF}{f:Addr}{pos:Pos}(d:X.mg x=À (.ref f))(t:Gl X x)(k:(x==("__debug__":Str))=Ä:=by decide):QE X EE (.Name x pos) (eC (.fn x)):=
 HF (Ls t d (v:=.ref f) rfl k) λ_ _=>by unfold Rep;exact⟨f,rfl,d⟩
noncomputable def bT:Expr->Bool
 |.Starred ..=>Ä
 |_=>Ã
noncomputable def plainT:Expr->Bool
 |.UnaryOp .Not _ _=>Ä
 |.BoolOp ..=>Ä
 |.IfExp ..=>Ä
 |.Compare ..=>Ä
 |_=>Ã
def fL:Expr->Bool
 |.Set ..=>Ä
 |_=>Ã
def nQ:Expr->Bool
 |.ListComp ..=>Ä
 |.SetComp ..=>Ä
 |.DictComp ..=>Ä
 |_=>Ã
noncomputable def kG:Expr->Bool
 |.Call (.Name _ _) [] [] _=>Ä
 |_=>Ã
def Du:Expr->Bool
 |.Slice ..=>Ä
 |_=>Ã
def aq:U2->Bool
 |[]=>Ã
 |e::es=>bT e&&aq es
theorem bx(h:bT e=Ã)(es:U2)(env:Env):æ (e::es) env=(Ä,eval e env)::æ es env:=by cases e<;>first|rfl|cases h
theorem Ff(h:plainT e=Ã)(env:Env)(d:Sem Å):isTrue e env d=(do let v <- d;standAt e.pos;holding [v] (truthy v)):=by cases e<;>first|rfl|cases h|(rename_i k _ _;cases k<;>first|rfl|cases h)
theorem iF(h:fL e=Ã)(env:Env)(x:Å):foldedSetIterable e env x=pure x:=by cases e<;>first|rfl|cases h
theorem oX(h:nQ e=Ã)(t:Option Expr)(l:Nat)(env:Env):swapsWith e t l env=pure Ä:=by cases e<;>first|rfl|cases h
theorem f6(h:kG e=Ã)(n:Str)(env:Env):attributeBase e n env (eval e env)=eval e env:=by
 cases e with
 |Call f as ks p=>cases f<;>first|rfl|(cases as<;>first|rfl|(cases ks<;>first|rfl|cases h))
 |_=>rfl
theorem Um(h:Du e=Ã):rZ e:=λo i=>by cases e<;>first|rfl|cases h
theorem xZ(h:fL e=Ã)(d:CmpOp):behindInMarks d e=Ä:=by cases e<;>first|rfl|cases h
theorem bA{env:Env}{pos:Pos}:∀{es:U2},aq es=Ã->(backTo pos (æ es env)).any (·.1)=Ä
 |[],_=>rfl
 |e::es,h=>by
  ksr_p
  rw[bx h'.1];have d:=bA (env:=env) (pos:=pos) h'.2;show(Ä||(backTo pos (æ es env)).any (·.1))=Ä;rw[d];rfl
theorem wo{env:Env}{pos:Pos}:∀{es:U2},aq es=Ã->(backTo pos (æ es env)).all (λx=>!x.1)=Ã
 |[],_=>rfl
 |e::es,h=>by
  ksr_p
  rw[bx h'.1];have d:=wo (env:=env) (pos:=pos) h'.2;show(!false&&(backTo pos (æ es env)).all (λx=>!x.1))=Ã;rw[d];rfl
theorem tM(h:aq es=Ã)(d:es.length<30):((backTo pos (æ es env)).all (λx=>!x.1)&&(backToKw pos (keywordEach [] env)).all (λx=>x.1.isSome)
   && decide (es.length+([]:List Keyword).length+(if ([]:List Keyword).isEmpty then 0 else 1)<30))=Ã:=by
 rw[wo h];simp only[ł,č,decide_eq_true_eq];exact⟨rfl,‹d›⟩
section
variable{a b o:Expr}{ma mb mc:Y2}{p apos:Pos}{mt:MS}
theorem Mq{m:Y2}(k:QE X EE e m)(d:QA X EE es r)(h:bT e=Ã):QA X EE (e::es) (af m r):=LY k d (bx h _ _)
theorem QU(i:Nat)(t:GO X.env.scope x)(d:(x==("__debug__":Str))=Ä/\(x==("__classdict__":Str))=Ä)(k:X.N[i]?=À x):QE X EE (.Name x pos) (aa i):=PU i k t d.1 d.2
theorem Uo{f:Addr}(k:X.mg x=À (.ref f))(d:Gl X x)(t:(x==("__debug__":Str))=Ä/\(x==("__classdict__":Str))=Ä):QE X EE (.Name x pos) (eC (.fn x)):=Ul k d t.1
theorem Iu(k:QE X EE a ma)(d:QE X EE b mb)(h:Du b=Ã):QE X EE (.Subscript a b pos) (aj aE ma mb):=HN k d (Um h)
theorem Uq(k:X.A.units+600<cLine)(t:QE X EE a ma)(d:QE X EE b mb)(h:fL b=Ã):QE X EE (.Compare a [.In] [b] pos) (aj (sY Ä) ma mb):=TJ k t d (xZ h _)
theorem QV(d:gW X (compareOp op) (rD X EE f))(t:QE X EE a ma)(k:QE X EE b mb)(h:fL b=Ã):QT X EE (.Compare a [op] [b] pos) (cy (aj f ma mb)):=Qh d t k (xZ h _)
theorem QX(d:QE X EE a ma)(h:plainT a=Ã):QT X EE a (eF gA ma):=Qc d (Ff h _)
theorem Iv{g:D->D->M D}(I:gW X (compareOp op) (rD X EE f))(d:gW X (compareOp op') (rD X EE g))(t:QE X EE a ma)(k:QE X EE b mb)(F:QE X EE c mc)(h:fL c=Ã):QT X EE (.Compare a [op,op'] [b,c] pos) (cy (nL f g ma mb mc)):=
 HV I d t k F (by show behindInMarks op' c=Ä;exact xZ h _)
theorem iX{id:String}{f:X2->M D}(I:eE X (.builtin id) (GQ X EE f))(k:X.mg x=Æ)(J:Gl X x)(L:bootBuiltins x=À (.builtin id))(t:QA X EE (e::es) m)(F:x≠"__name__":=by decide)(d:(x==("__debug__":Str))=Ä:=by decide)(h:aq (e::es)=Ã):
  QE X EE (.Call (.Name x p) (e::es) [] pos) (ai f m):=by
 ksr_p
 exact HG I tw k t J L F d (bx h'.1 _ _) (bA h'.2)
theorem wu{id:String}{f:X2->M D}(I:eE X (.type id) (GQ X EE f))(k:X.mg x=Æ)(J:Gl X x)(L:bootBuiltins x=À (.type id))(t:QA X EE (e::es) m)(F:x≠"__name__":=by decide)(d:(x==("__debug__":Str))=Ä:=by decide)(h:aq (e::es)=Ã):
  QE X EE (.Call (.Name x p) (e::es) [] pos) (ai f m):=by
 ksr_p
 exact ES I tw k t J L F d (bx h'.1 _ _) (bA h'.2)
theorem QY(k:X.mg "len"=Æ)(d:Gl X "len")(t:QA X EE [e] m)(h:aq [e]=Ã):QE X EE (.Call (.Name "len" p) [e] [] pos) (ai aM m):=iX EX k d PySem.boot_len t (by decide) (by decide) h
theorem QZ(t:X.calm=Ã)(d:X.mg "all"=Æ)(D:Gl X "all")(k:QA X EE [e] m)(h:aq [e]=Ã):QE X EE (.Call (.Name "all" p) [e] [] pos) (ai (Ia Ä) m):=iX (EY t) d D PyProof.Rows.boot_all k (by decide) (by decide) h
theorem Mr(t:X.calm=Ã)(d:X.mg "max"=Æ)(D:Gl X "max")(k:QA X EE [e,a] m)(h:aq [e,a]=Ã):QE X EE (.Call (.Name "max" p) [e,a] [] pos) (ai (dY λi j=>if j > i then j else i) m):=iX (EZ t) d D PyProof.Rows.boot_max k (by decide) (by decide) h
theorem Ms(t:X.calm=Ã)(d:X.mg "min"=Æ)(D:Gl X "min")(k:QA X EE [e,a] m)(h:aq [e,a]=Ã):QE X EE (.Call (.Name "min" p) [e,a] [] pos) (ai (dY λi j=>if j<i then j else i) m):=iX (E0 t) d D PyProof.Rows.boot_min k (by decide) (by decide) h
theorem Q0(c:Ty){F:Pos}(M:c≠.bD)(J:X.mg "isinstance"=Æ)(d:X.mg x=Æ)(O:Gl X "isinstance")(D:Gl X x)(I:QE X EE a ma)(L:bootBuiltins x=À (.type c.nm))(k:x≠"__name__")(t:(x==("__debug__":Str))=Ä)(h:bT a=Ã):
  QE X EE (.Call (.Name "isinstance" p) [a,.Name x F] [] pos) (zy c ma):=Qt c M J d I L O D k t (bx h _ _) (bx rfl _ _) (bA (es:=[.Name x F]) rfl)
theorem Dv{CX:vc}{k:Nat}{f:Addr}(F:lH X.prog X.w X.K X.mg X.base CX k f fd ps (g9 X.K X.mg n mf))(I:gE k X.A)(J:X.mg x=À (.ref f))(d:Ė X.K (.ref f)=Ã)(L:Binds X.K fd ps [])(t:Sa CX X EE)(O:Gl X x)
  (M:(x==("__debug__":Str))=Ä/\(x==("__classdict__":Str))=Ä) (D:QA X EE (e::es) m) (h:aq (e::es)=Ã:=by rfl):QE X EE (.Call (.Name x p) (e::es) [] pos) (aF n mf m):=by
 ksr_p
 exact Me F I J d L t D O M.1 (bx h'.1 _ _) (bA h'.2)
theorem Fg(D:QE X EE o mo)(t:QA X EE [e] m)(k:kG o=Ã)(h:aq [e]=Ã)(d:(apos.endLine==cpos.line)=Ã):QE X EE (.Call (.Attribute o "append" apos) [e] [] cpos) (bu "list" br mo m):=by
 have h':bT e=Ã/\aq []=Ã:=by simpa[aq]using h
 exact E3 D t (f6 k _ _) (tM h ⋯) d (bx h'.1 _ _) (bA (es:=[]) rfl)
theorem Q2(t:QE X EE o mo)(k:kG o=Ã)(d:(apos.endLine==cpos.line)=Ã):QE X EE (.Call (.Attribute o "pop" apos) [] [] cpos) (bu "list" zB mo ah):=Qu t (f6 k _ _) d
theorem Mt(d:QE X EE a ma)(h:nQ a=Ã):QS X EE (.Expr a pos) (dG ma):=L8 d (oX h _ _ _)
theorem Q3{d:Pos}(t:X.N.Nodup)(k:Loc X.env.scope x)(F:QE X EE a ma)(D:X.fn x=Ã\/X.env.scope.names.lookup x=À .local)(I:X.N[i]?=À x)(h:nQ a=Ã):QS X EE (.Assign [.Name x d] a pos) (aC i ma):=Qq t F I k (oX h _ _ _) D
theorem Iw{i:Expr}{t:Pos}(I:QE X EE a mv)(J:QE X EE o mo)(F:QE X EE i mi)(h:nQ a=Ã)
  (D:∀v,assign (.Subscript o i t) X.env v=(do
   let d <- holding [v] (eval o X.env)
   let k <- holding [v,d] (eval i X.env)
   standAt t
   holding [v,d,k] (setItem d k v)
   release [v,d,k] []):=by intro _;rfl):QS X EE (.Assign [.Subscript o i t] a pos) (iA mv mo mi):=
 Ic I J F (by unfold swapsWithSole;exact oX h _ _ _) (by first|rfl|(unfold swappedStores;rfl)) rfl D
theorem Mu(d:X.N.Nodup)(D:Loc X.env.scope x)(k:X.fn x=Ã\/X.env.scope.names.lookup x=À .local)(t:X.N[i]?=À x):QG X (.Name x pos) (gN i):=Ma d t D k
theorem Q4(d:PassesOwn (model X.prog X.w) X.A X.env X.xe)(D:X.calm=Ã)(t:QE X EE a ma)(F:QG X tg g)(k:qh X EE body ms)(h:fL a=Ã):QS X EE (.For tg a body [] pos) (gG g ma ms):=Qs d D t F k (iF h _)
theorem Iz{L:Pos}(k:PassesOwn (model X.prog X.w) X.A X.env X.xe)(F:X.calm=Ã)(d:X.mg "range"=Æ)(J:Gl X "range")(D:QA X EE [a] m)(I:QG X tg g)(t:qh X EE body ms)(h:bT a=Ã):
  QS X EE (.For tg (.Call (.Name "range" p) [a] [] L) body [] pos) (kB fc g m ms):=H8 k F d D I t J (bx h _ _) (iF rfl _)
variable{elt iter:Expr}{xs:P3}{ow:V->Hp->X1->Prop}{ifs:U2}
theorem Mv(t:fJ X EE)(d:lQ X)(S:bw X.env.scope X.N scope xs ks)(k:Own X scope xs ks tg ow)(J:jC X.K X.mg ow gO)(I:X.calm=Ã)(F:QE X EE iter ma)(D:jR X scope xs ifs elt tt te)(h:fL iter=Ã):QE X EE (.ListComp elt [⟨tg,iter,ifs,0⟩] scope pos) (dJ gO ks ma tt te):=Mm t d S k J I F D (iF h _)
theorem Mw(D:fJ X EE)(t:lQ X)(S:bw X.env.scope X.N scope xs ks)(k:Own X scope xs ks tg ow)(L:jC X.K X.mg ow gO)(R:X.calm=Ã)(O:X.N.Nodup)(F:X.env.scope.names.lookup y=À .local)(I:QE X EE iter ma)(M:jR X scope xs ifs elt tt te)(d:swapsWith (.ListComp elt [⟨tg,iter,ifs,0⟩] scope pos) (À (.Name y py)) spos.line X.env=pure Ã)
  (J:X.N[i]?=À y:=by rfl) (h:fL iter=Ã:=by rfl):QS X EE (.Assign [.Name y py] (.ListComp elt [⟨tg,iter,ifs,0⟩] scope pos) spos) (aC i (dJ gO ks ma tt te)):=Mn D t S k L R O I M J F d (iF h _)
theorem Fi{O:Pos}(t:fJ X EE)(k:lQ X)(S:bw X.env.scope X.N scope xs ks)(d:Own X scope xs ks tg ow)(I:jC X.K X.mg ow gO)(M:X.calm=Ã)(J:X.mg "range"=Æ)(F:Gl X "range")(D:QA X EE [a] m)(L:jR X scope xs ifs elt tt te)(h:bT a=Ã):
  QE X EE (.ListComp elt [⟨tg,.Call (.Name "range" p) [a] [] O,ifs,0⟩] scope pos) (dD fc gO ks m tt te):=Fd t k S d I M J D L F (bx h _ _) (iF rfl _)
theorem Fj(D:fJ X EE)(t:lQ X)(S:bw X.env.scope X.N scope xs ks)(k:Own X scope xs ks tg ow)(M:jC X.K X.mg ow gO)(U:X.calm=Ã)(T:X.N.Nodup)(F:X.env.scope.names.lookup y=À .local)(O:X.mg "range"=Æ)(L:Gl X "range")(I:QA X EE [a] m)(R:jR X scope xs ifs elt tt te)
  (d:swapsWith (.ListComp elt [⟨tg,.Call (.Name "range" p) [a] [] pc,ifs,0⟩] scope pos) (À (.Name y py)) spos.line X.env=pure Ã) (J:X.N[i]?=À y:=by rfl) (h:bT a=Ã:=by rfl):
  QS X EE (.Assign [.Name y py] (.ListComp elt [⟨tg,.Call (.Name "range" p) [a] [] pc,ifs,0⟩] scope pos) spos) (aC i (dD fc gO ks m tt te)):=Fe D t S k M U T O I R J F L (bx h _ _) d (iF rfl _)
theorem Fl{l:Nat}(d:(env.blockKind==.function)=Ã)(t:env.scope.names.lookup y=À .local)(k:(py.line==pos.line)=Ã)(D:(scope.names.any λx=>x.1==y&&(x.2==.local||x.2==.cell))=Ä):swapsWith (.ListComp elt gens scope pos) (À (.Name y py)) l env=pure Ã:=by
 unfold swapsWith;k_in;show(pure (env.blockKind==.function&&env.kindOf y==À .local&&py.line==pos.line&&!(scope.names.any λx=>x.1==y&&(x.2==.local||x.2==.cell))):Sem Bool)=pure Ã;have e:(env.kindOf y==À NameKind.local)=Ã:=by rw[show env.kindOf y=À NameKind.local from t];rfl
 rw[d,e,k,D];rfl
theorem Q5{s0:Ê}{fp:Q1}(S:bw X.env.scope X.N scope xs ks)(h:x∈xs):GO (oW X scope cl xs C pins s0 H0 fp E).env.scope x:=.inl (tK (cl:=cl) (C:=C) S h)
theorem Mx{s0:Ê}{fp:Q1}(S:bw X.env.scope X.N scope xs ks)(h:scope.names.lookup y=À .free):GO (oW X scope cl xs C pins s0 H0 fp E).env.scope y:=.inr (qB (cl:=cl) (C:=C) S h)
theorem My{s0:Ê}{fp:Q1}(h:scope.names.lookup y=À .globalImplicit):Gl (oW X scope cl xs C pins s0 H0 fp E) y:=by show(compEnvC scope cl C X.env).kindOf y=À .globalImplicit;have e:(compEnvC scope cl C X.env).kindOf y=(scope.names.lookup y).map (vh X.env y):=eG scope.names;rw[e,h];rfl
end
theorem IB{k d pos:Pos}(J:X.calm=Ã)(D:fJ X EE)(t:X.mg x=À (.ref C))(L:ExcAt X.K C)(M:Gl X x)(F:(x==("__debug__":Str))=Ä/\(x==("__classdict__":Str))=Ä)
  (I:QA X EE (e::es) m) (h:aq (e::es)=Ã:=by rfl):QS X EE (.Raise (À (.Call (.Name x k) (e::es) [] d)) Æ pos) (nO x m):=by
 ksr_p
 exact Ig J D t L M F.1 I (bx h'.1 _ _) (bA h'.2)
section
open Builtin Builtin.Str
section
theorem ao.strs:∀(l:P3),ao K mg ρ H (l.map D.str) (l.map V.str)
 |[]=>.nil
 |p::r=>.cons (by unfold Rep;rfl) (ao.strs r)
noncomputable def strsOf:X2->Option P3
 |[]=>À []
 |.str x::r=>(strsOf r).map (x::·)
 |_::_=>Æ
theorem kH{K:Ì}{I:Str->Option Å}{ρ:Q1}{H:Hp}:∀{ds:X2}{vs:X1}{us:List Å}{ts:P3},ao K I ρ H ds vs->Vals vs us->strsOf ds=À ts->∃l:List (Str×Tok),us=strValues l/\l.map (·.1)=ts
 |[],vs,us,ts,r,v,e=>by unfold ao at r;subst r;cases v;w_up;exact⟨[],rfl,rfl⟩
 |d::ds,vs,us,ts,r,v,e=>by
  unfold ao at r;obtain⟨x,L,rfl,k,J⟩:=r;cases v with
  |cons v1 v2=>
   cases d<;>try (cases e;done)
   rename_i y;dsimp only[strsOf]at e;cases q:strsOf ds with
   |none=>f_int
   |some D=>f_int;unfold Rep at k;subst k;obtain⟨t,rfl⟩:=v1;obtain⟨l,rfl,F⟩:=kH J v2 q;exact⟨(y,t)::l,rfl,by simp[F]⟩
def rC:D->X2->M D
 |.str x,[d]=>λG=>match ak G d with
  |some (.lst xs)=>match strsOf xs with
   |some t=>if JoinOk x t=Ã then .ok (.str (Txt.join x t)) G else .stuck
   |none=>.stuck
  |_=>.stuck
 |_,_=>M.stop
theorem IC:GP X "str.join" (Ob X EE rC):=by
 kcj_m
 rename_i z
 match ds,ok with
 |[],ok=>left
 |_::_::_,ok=>left
 |[y],ok=>
  obtain⟨U,rfl,M⟩:=f7 wc;unfold Rep at rd;subst rd;k_few;obtain⟨u,rfl,J⟩:=vals1 E2;dsimp only[rC]at ok;cases q:ak G y with
  |none=>kj_on
  |some sk=>
   k_is;cases sk with
   |tup _=>left
   |str _=>left
   |lst ys=>
    ac_nf;cases qs:strsOf ys with
    |none=>rw[qs]at ok;left
    |some F=>
     rw[qs]at ok;ac_nf;by_cases D:JoinOk z F=Ã
     ·rw[Α D]at ok;obtain⟨p,vs,rfl,S,L⟩:=bG (pins:=pins) (σ0:=σ0) (s:=s) ab.hp M q;cases J;obtain⟨its,T,pl,_⟩:=I.list S;obtain⟨l,rfl,O⟩:=kH L T qs;have R:=ok (.str _) H ρ .refl ab (by unfold Rep;rfl);exact iR I.os.2 <|SC.join pl.isList O D λt' k=>λV=>⟨.str _,H,I.tok k,⟨_,rfl⟩,R⟩
     ·rw[Β D]at ok;left
def gK:X2->M D
 |[d]=>λG=>match ak G d with
  |some (.lst xs)=>aY xs G
  |some (.tup xs)=>.ok d G
  |_=>.stuck
 |_=>M.stop
theorem Fo:eE X (.type "tuple") (GQ X EE gK):=by
 k_cls;obtain⟨L,τ,ρ,G,ds,ab,D,ok⟩:=zu
 match ds,ok with
 |[],ok=>left
 |_::_::_,ok=>left
 |[y],ok=>
  obtain⟨J,rfl,d⟩:=f7 D;dsimp only[gK]at ok;cases q:ak G y with
  |none=>kj_on
  |some sk=>
   k_is;cases sk with
   |str _=>left
   |tup ys=>obtain⟨p,vs,rfl,k,t⟩:=eW d q;exact nq pins s σ0 H _ us Q I r ⟨p,vs,rfl,.inr ⟨k,ok _ H ρ .refl ab d⟩⟩
   |lst ys=>obtain⟨p,vs,rfl,k,t⟩:=bG (pins:=pins) (σ0:=σ0) (s:=s) ab.hp d q;exact nq pins s σ0 H _ us Q I r ⟨p,vs,rfl,.inl ⟨k,λl F=>(xS ab t ok).2 l F⟩⟩
def qD:X2->M D
 |[d]=>λG=>match ak G d with
  |some (.lst xs)=>aR xs G
  |some (.tup xs)=>aR xs G
  |_=>.stuck
 |_=>M.stop
theorem Fq:eE X (.type "list") (GQ X EE qD):=by
 k_cls;obtain⟨L,τ,ρ,G,ds,ab,F,ok⟩:=zu
 match ds,ok with
 |[],ok=>left
 |_::_::_,ok=>left
 |[y],ok=>
  obtain⟨J,rfl,D⟩:=f7 F;dsimp only[qD]at ok;cases q:ak G y with
  |none=>kj_on
  |some sk=>
   k_is;cases sk with
   |str _=>left
   |tup ys=>obtain⟨p,vs,rfl,k,t⟩:=eW D q;exact oM pins s σ0 H _ us Q I r ⟨p,vs,rfl,.inr k,λl d=>(jB ab t ok).2 l d⟩
   |lst ys=>obtain⟨p,vs,rfl,k,t⟩:=bG (pins:=pins) (σ0:=σ0) (s:=s) ab.hp D q;exact oM pins s σ0 H _ us Q I r ⟨p,vs,rfl,.inl k,λl d=>(jB ab t ok).2 l d⟩
variable{p apos:Pos}{o:Expr}
theorem Mz(D:QE X EE o mo)(t:QA X EE [e] m)(k:kG o=Ã)(h:aq [e]=Ã)(d:(apos.endLine==cpos.line)=Ã):QE X EE (.Call (.Attribute o "join" apos) [e] [] cpos) (bu "str" rC mo m):=by
 have h':bT e=Ã/\aq []=Ã:=by simpa[aq]using h
 exact Dp F.plainAttrs_str F.slot_str_join F.type_str_join IC D t (f6 k _ _) (tM h ⋯) d (bx h'.1 _ _) (bA (es:=[]) rfl)
theorem boot_tuple:bootBuiltins "tuple"=À (.type "tuple"):=by symm
theorem boot_list:bootBuiltins "list"=À (.type "list"):=by symm
theorem ID(k:X.mg "tuple"=Æ)(d:Gl X "tuple")(t:QA X EE [e] m)(h:aq [e]=Ã):QE X EE (.Call (.Name "tuple" p) [e] [] pos) (ai gK m):=wu Fo k d boot_tuple t (by decide) (by decide) h
theorem MA(k:X.mg "list"=Æ)(d:Gl X "list")(t:QA X EE [e] m)(h:aq [e]=Ã):QE X EE (.Call (.Name "list" p) [e] [] pos) (ai qD m):=wu Fq k d boot_list t (by decide) (by decide) h
def nR(i n:Nat)(d:Str->Option (X2->M D))(m:DS->M X2):Y2:=λτ G=>match τ[i]? with
 |some (À (.fn y))=>match d y with
  |some k=>aF n k m τ G
  |none=>.stuck
 |_=>.stuck
theorem IE{CX:vc}{n:Nat}{oB:Str->Option (X2->M D)}(hN:X.N[i]?=À x)(hv:GO X.env.scope x)(Z:(x==("__debug__":Str))=Ä/\(x==("__classdict__":Str))=Ä)
  (hF:∀y t,oB y=À t->∃k f O T,lH X.prog X.w X.K X.mg X.base CX k f O T (g9 X.K X.mg n t)/\gE k X.A/\X.mg y=À (.ref f)/\Ė X.K (.ref f)=Ã/\Binds X.K O T []) (hx:Sa CX X EE)
  (ha:QA X EE (e::es) m) (h:aq (e::es)=Ã:=by rfl):QE X EE (.Call (.Name x p) (e::es) [] pos) (nR i n oB m):=by
 ksr_p
 intro pins s σ H Q I hq;obtain⟨τ,ρ,G,ab,ok⟩:=hq;unfold nR at ok;cases q:τ[i]? with
 |none=>kj_on
 |some od=>
  cases od with
  |none=>kj_on
  |some d=>
   k_is;k_asm
   rename_i y;ac_nf;cases qt:oB y with
   |none=>rw[qt]at ok;left
   |some t=>
    rw[qt]at ok;obtain⟨k,f,O,T,F,hr,hm,hk,hb⟩:=hF y t qt;obtain⟨v,ev,V⟩:=ab.st.2 i (.fn y) q;unfold Rep at V;obtain⟨a,rfl,J⟩:=V;rw[hm]at J;cases J;obtain⟨R,S,G1,gY,EW⟩:=qy (k:=λ_ ds=>if ds.length=n then t ds else M.stop) ⟨τ,ρ,G,ab,ok⟩;refine Ĉ (Ă (BB hN hv Z.1 Z.2 pins s σ H (λU H'=>U=.ref f/\H'=H) I ⟨_,ev,rfl,rfl⟩) (λu s0 hu=>?_) λ_ _ z=>z);obtain⟨U,H',Y,r0,rfl,rfl⟩:=hu;cases r0;refine abG (h₀:=X.base) Y.ok.mod.OO hk (dO (ha pos pins s0 σ H' _ Y ⟨R,S,G1,gY,EW⟩) λus s1 ⟨vs,H1,I1,r,q⟩=>⟨I1.yV,?_⟩) (bx h'.1 _ _) (bA h'.2);obtain⟨τ2,ρ2,G2,ds,bY,rs,aQ⟩:=q;by_cases L:ds.length=n
    ·rw[Α L]at aQ;exact Dm F hr hb hx I1 r bY rs L aQ
    ·rw[Β L]at aQ;o_src
end
end
section
open Builtin Builtin.Str
section
def Vz(f:D->M D)(m:Y2):Y2:=λτ=>(m τ).bind f
variable{o:Expr}{z:Str}{j1 j2:Nat}{p1 apos:Pos}
end
end
section
open Builtin Builtin.ObjectAttr
structure Ft(K:Ì)(C P:Addr) where
 cd:ClassData
 cls:PySem.W.clsIn K C=À cd
 mro:cd.mro=[.ref C,.ref P,.type "ValueError",.type "Exception",.type "BaseException",.type "object"]
 ga:acR K (.ref C) "__getattribute__"=À (À (.builtin "BaseException.__getattribute__"))
 gh:acR K (.ref C) "__getattr__"=À Æ
 ca:acR K (.ref C) "__class__"=À (À (.builtin "object.__class__"))
 cg:PySem.W.specialIn K (.builtin "object.__class__") "__get__"=À (À (.builtin "getset_descriptor.__get__"))
 ct:PySem.W.takesIn K (.builtin "object.__class__")=À Ã
end
def Q6(CX:vc)(X:Cx)(n:Nat):List (Str×(X2->M D))->Prop
 |[]=>True
 |q::r=>(∃k f d t,lH X.prog X.w X.K X.mg X.base CX k f d t (g9 X.K X.mg n q.2)/\gE k X.A/\X.mg q.1=À (.ref f)/\Ė X.K (.ref f)=Ã/\Binds X.K d t [])/\Q6 CX X n r
theorem Ur{CX:vc}{X:Cx}{n:Nat}:∀{l:List (Str×(X2->M D))},Q6 CX X n l->∀(y:Str)(d:X2->M D),l.lookup y=À d->∃k f t F,lH X.prog X.w X.K X.mg X.base CX k f t F (g9 X.K X.mg n d)/\gE k X.A/\X.mg y=À (.ref f)/\Ė X.K (.ref f)=Ã/\Binds X.K t F []
 |[],_,_,_,h=>nomatch h
 |q::r,⟨L,J⟩,y,d,h=>by
  obtain⟨I,O⟩:=q;rw[ą]at h;cases e:y==I with
  |true=>rw[e]at h;cases h;have:=eq_of_beq e;subst this;exact L
  |false=>rw[e]at h;exact Ur J y d h
theorem W0{m:Y2}(k:QE X EE e m)(h:bT e=Ã)(d:QA X EE es r):QA X EE (e::es) (af m r):=Mq k d h
theorem BZ:typeLookup (.type "list_reverseiterator") (ĥ "__len__")=(pure Æ:Sem (Option Å)):=by rw[typeLookup_type,builtinLookup_eq_fast];rfl
theorem IF:typeLookup (.type "list_reverseiterator") (ĥ "__length_hint__")=(pure (À (.builtin "list_reverseiterator.__length_hint__")):Sem (Option Å)):=by rw[typeLookup_type,builtinLookup_eq_fast];rfl
theorem IG:isSubtype (.type "list_reverseiterator") (.type "list_reverseiterator")=(pure Ã:Sem Bool):=by rw[isSubtype_type];rfl
theorem II{M:Model}{i:Int}{Q:Bool->Ê->Prop}(k:s.heap.IsRevIter it l i)(h:Q Ä s):Ú M A (Ő (.ref it)) Q E s:=by
 have t:s.TypeIs (.ref it) "list_reverseiterator":=by obtain⟨o,e,c,_⟩:=k;exact⟨o,e,c⟩
 unfold Ő;refine Á (abf t BZ ?_);refine Á (abf t IF ?_);have d:splitId "list_reverseiterator.__length_hint__"=À ("list_reverseiterator","__length_hint__"):=by symm
 k_in;rw[d];k_in;refine Á (gV t IG ?_);rw[Β (by decide)];split
 ·rw[Β (by decide)];exact È h
 ·rename_i D;exact absurd (by symm) D
theorem B0{prog:ð}{w:Ć}{R:Result->Ê->Prop}(V:A.handled=Æ)(k:s.heap.IsRevIter it l ((items.size:Int)-1))(O:s.heap.IsList l items)(J:l≠it)(hz:items.size<=Ç)(S:Addr)(res:Å)(c₀:Nat)
  (L:s.heap.get? S=À {cls:=.type "list",data:=.seq #[] c₀}) (Z:S≠l)
  (Y:∀(t:Ê)(acc':Array Å)(c':Nat),Moved [S,it] (λa b=>b=a) s t->t.heap.get? S=À {cls:=.type "list",data:=.seq acc' c'}->ItemsOf (λi v=>items[items.size-1-i]?=À v) acc' items.size->R (.ok (.ret res)) t):
  Ú (model prog w) A.in1 (ĵ (.ref S) (.ref it) res) (λD t=>match D with
   |.done f=>R (.ok f) t
   |.again c'=>c'.quiet=Ã/\codeAny (model prog w) A c' R t) (λe t=>R (.error e) t) s:=by
 have U:S≠it:=by rintro rfl;obtain⟨o,e,c,d⟩:=k;rw[L]at e;w_up;exact absurd (Value.type.inj c) (by decide)
 have ty:s.TypeIs (.ref it) "list_reverseiterator":=by obtain⟨o,e,c,_⟩:=k;exact⟨o,e,c⟩
 have M:=Walks.toS (Walks.listRev (prog:=prog) (w:=w) (A:=A.in1) (show A.in1.handled=Æ from V) it l J items);have I:=codeAny_extend_loopS M hz S (by simp[U,Z]) res items.size 0 (R:=R);unfold ĵ;refine Á (acp ty ?_);have T:Ţ (.ref S) (.ref it)=Ä:=by simp[Ţ,U]
 rw[Β (by rw[T];decide)];refine Á (aa5 k ?_);refine Á (ė (II k ?_));k_in;split
 ·rename_i hs;exact absurd hs (by symm)
 ·exact È ⟨plainId_quiet F.plain_extend_loop _,I s #[] c₀ rfl (ê _) ⟨ê _,‹k›,O⟩ L (ItemsOf.nil _) Y⟩
theorem vj{prog:ð}{w:Ć}{E:Å->Ê->Prop}{Q:Å->Ê->Prop}(U:A.handled=Æ)(k:s.heap.IsRevIter it l ((items.size:Int)-1))(O:s.heap.IsList l items)(L:l≠it)(hz:items.size<=Ç)
  (hQ:∀(h':Heap)(tk:Nat)(acc':Array Å)(c':Nat),(∀b o,b≠it->s.heap.get? b=À o->h'.get? b=À o)->h'.get? s.heap.objs.size=À {cls:=.type "list",data:=.seq acc' c'}->ItemsOf (λi v=>items[items.size-1-i]?=À v) acc' items.size->Q (.ref s.heap.objs.size) {s with heap:=h',toks:=tk}):
  Ú (model prog w) A (call (.type "list") [.ref it]) Q E s:=by
 have Z3:l<s.heap.objs.size:=by obtain⟨o,e,_⟩:=O;exact Õ e
 have lt2:it<s.heap.objs.size:=by obtain⟨o,e,_⟩:=k;exact Õ e
 refine callType_codes (Q₁:=λv Z=>v=.ref s.heap.objs.size/\Z={s with heap:=s.heap.push {cls:=.type "list",data:=.seq #[]}}) F.called_list (F.typeCall_list_1 (.ref it)) F.entry_list_init (code_list_new (.ref it) ⟨rfl,rfl⟩) λobj T t=>?_;obtain⟨rfl,rfl⟩:=t;have D:=Ð (o:={cls:=.type "list",data:=.seq #[]}) s.heap rfl;refine⟨⟨_,D,rfl⟩,F.args_list_init_2 (.ref s.heap.objs.size) (.ref it),?_⟩;have Y:∀b o,s.heap.get? b=À o->(s.heap.push {cls:=.type "list",data:=.seq #[]}).get? b=À o:=λb o e=>É _ e;unfold ŝ.«list.__init__»;k_get;unfold Builtin.List.listItems;refine Á (ĭ D rfl (È ?_));k_get;unfold Builtin.List.listUpdate;refine abh D rfl ?_ (by simp[sizeLine_eq]) (by simp[sizeLine_eq]);have Z4:=ò (š λx=>#[]) D rfl;have V:∀b o,b≠s.heap.objs.size->(s.heap.push {cls:=.type "list",data:=.seq #[]}).get? b=À o->((s.heap.push {cls:=.type "list",data:=.seq #[]}).update s.heap.objs.size (š λx=>#[])).get? b=À o:=λb o M e=>(è _ _ (ô M)).trans e;refine Á (aa6 ?_);have J:∀b o,s.heap.get? b=À o->((s.heap.push {cls:=.type "list",data:=.seq #[]}).update s.heap.objs.size (š λx=>#[])).get? b=À o:=λb o e=>V b o (á (Õ e)) (Y b o e);refine B0 (l:=l) (items:=items) (show A.in1.handled=Æ from U) ?_ ?_ L hz s.heap.objs.size .none (if ((#[]:Array Å).size==(#[]:Array Å).size)=Ã then 0 else 0+1) ?_ (ž Z3) ?_
 ·obtain⟨o,e,r⟩:=k;exact⟨o,J _ _ e,r⟩
 ·obtain⟨o,e,r⟩:=O;exact⟨o,J _ _ e,r⟩
 ·exact Z4
 ·intro S acc' c' R I d;rw[Moved.eq_with R];refine⟨rfl,hQ S.heap S.toks acc' c' (λb o M e=>?_) I d⟩;refine R.heap b o ?_ (J b o e);simp[M,á (Õ e)]
section
variable{a b o:Expr}{ma mb:Y2}{t:DS->M Bool}{p pos2 apos:Pos}
def fuel:Nat:=100000
def dZ(t:DS->M Bool)(ms:MS):Nat->MS
 |0=>λ_ _=>.stuck
 |n+1=>λτ=>bI (t τ) (λc G=>if c=Ã then (match ms τ G with
   |.nx τ' G'=>dZ t ms n τ' G'
   |.ct τ' G'=>dZ t ms n τ' G'
   |.bk τ' G'=>.nx τ' G'
   |r=>r) else .nx τ G) λc G=>.xn c τ G
theorem LV.imp{r:Out Bool}{Q:Bool->Hp->Prop}(h:LV X.K X.mg EE H σ τ ρ r Q)(i:∀b H',Q b H'->Q' b H'):LV X.K X.mg EE H σ τ ρ r Q':=by
 cases r with
 |stuck=>l_fit
 |ok b G=>exact λH' ρ' f ab=>i b H' (h H' ρ' f ab)
 |bP c G=>l_fit
theorem IJ(hp:PassesOwn (model X.prog X.w) X.A X.env X.xe)(hc:QT X EE c t)(hb:qh X EE body ms):QS X EE (.While c body [] pos) (dZ t ms n):=PS.mono (G9 hp hc hb) λR I H h=>by
 obtain⟨M,O,G0,Ml,Z5⟩:=h;refine⟨λm I H=>∃τ ρ G,Ab X.K X.mg I H τ ρ G/\sW X.K X.mg EE H ρ R (dZ t ms m τ G),⟨n,M,O,G0,Ml,Z5⟩,?_⟩;rintro m I H ⟨τ,ρ,G,ab,ok⟩;cases m with
 |zero=>left
 |succ m=>
  obtain⟨S,T,Z,V,Y⟩:=HE (k:=λτ c G=>if c=Ã then (match ms τ G with
   |.nx τ' G'=>dZ t ms m τ' G'
   |.ct τ' G'=>dZ t ms m τ' G'
   |.bk τ' G'=>.nx τ' G'
   | r=>r) else .nx τ G) (show iC X.K X.mg EE (λτ=>bI (t τ) (λc G=>if c=Ã then (match ms τ G with
   |.nx τ' G'=>dZ t ms m τ' G'
   |.ct τ' G'=>dZ t ms m τ' G'
   |.bk τ' G'=>.nx τ' G'
   |r=>r) else .nx τ G) λc G=>.xn c τ G) R I H from⟨τ,ρ,G,ab,ok⟩)
  refine⟨S,T,Z,V,Y.imp λb H1 hq=>?_⟩;obtain⟨τ2,J,G2,U,D⟩:=hq;cases b with
  |false=>rw[Β í]at D |-;exact D I H1 J .refl U
  |true=>
   rw[Α rfl]at D |-;refine⟨λF H'=>∃τ ρ G,Ab X.K X.mg F H' τ ρ G/\sW X.K X.mg EE H' ρ R (dZ t ms m τ G),λF H' w=>⟨m,Ĳ _,w⟩,τ2,J,G2,U,?_⟩;cases q:ms τ2 G2 with
   |stuck=>rw[q]at D;exact D
   |nx τ' G'=>rw[q]at D;exact λF H' ρ' f L=>⟨τ',ρ',G',L,D.fut f⟩
   |ct τ' G'=>rw[q]at D;exact λF H' ρ' f L=>⟨τ',ρ',G',L,D.fut f⟩
   |bk τ' G'=>rw[q]at D;exact D
   |rt d G'=>rw[q]at D;exact D
   |xn c τ' G'=>rw[q]at D;exact D
def oY:X2->M D
 |[d]=>λG=>match ak G d with
  |some (.lst xs)=>aR xs.reverse G
  |_=>.stuck
 |_=>M.stop
theorem zO:bootBuiltins "reversed"=À (.type "reversed"):=by symm
theorem ao.rev:∀{ds:X2}{vs:X1},ao K mg ρ H ds vs->ao K mg ρ H ds.reverse vs.reverse
 |[],vs,h=>by unfold ao at h;subst h;exact .nil
 |d::ds,vs,h=>by unfold ao at h;obtain⟨v,r,rfl,D,k⟩:=h;rw[Ň,Ň];exact(ao.rev k).append (.cons D .nil)
theorem Vals.app:∀{xs ys:X1}{us vs:List Å},Vals xs us->Vals ys vs->Vals (xs++ys) (us++vs)
 |_,_,_,_,.nil,h=>h
 |_,_,_,_,.cons r t,h=>.cons r (Vals.app t h)
theorem Vals.rev:∀{xs:X1}{us:List Å},Vals xs us->Vals xs.reverse us.reverse
 |_,_,.nil=>.nil
 |_,_,.cons r t=>by rw[Ň,Ň];exact Vals.app (Vals.rev t) (.cons r .nil)
theorem Fv{its:List Å}{d:Array Å}(h:ItemsOf (λi v=>its.toArray[its.toArray.size-1-i]?=À v) d its.toArray.size):d=its.reverse.toArray:=by
 obtain⟨I,F⟩:=h;have D:its.toArray.size=its.length:=by simp
 rw[D]at I;apply Array.ext_getElem?;intro i;by_cases k:i<d.size
 ·have e:=F i d[i] (Ľ k);rw[Ľ k,<- e];rw[aaR,aaR,acE ∅,D]
 ·rw[aaI ∅,aaI (by simp;lia)]
theorem B3(hc:X.calm=Ã)(O:X.mg "list"=Æ)(VA:Gl X "list")(S:X.mg "reversed"=Æ)(W2:Gl X "reversed")(ha:QA X EE [e] m)(h:aq [e]=Ã):
  QE X EE (.Call (.Name "list" p) [.Call (.Name "reversed" p2) [e] [] pos2] [] pos) (ai oY m):=by
 have h':bT e=Ã/\aq []=Ã:=by simpa[aq]using h
 intro pins s Z H Q I hq;have M:=qy (k:=λ_ ds=>oY ds) hq;refine Ĉ (iS I VA O boot_list ?_ (by decide) (by decide));refine ă ?_ (bx rfl _ _) (bA (es:=[]) rfl);rw[bx (e:=.Call (.Name "reversed" p2) [e] [] pos2) rfl];show Ú _ _ (spliced ((Ä,eval _ X.env)::backTo pos (æ [] X.env))) _ _ s;refine aar ?_;refine Ĉ (iS I W2 S zO ?_ (by decide) (by decide));refine ă (dO (ha pos2 pins s Z H _ I M) λus D zh=>?_) (bx h'.1 _ _) (bA (es:=[]) rfl);obtain⟨vs,H1,J,r1,τ,ρ,G,ds,ab,rs,ok⟩:=zh
 match ds,ok with
 |[],ok=>left
 |_::_::_,ok=>left
 |[d],ok=>
  k_sub;obtain⟨u,rfl,ru⟩:=vals1 r1;dsimp only[oY]at ok;cases q:ak G d with
  |none=>kj_on
  |some sk=>
   k_is;cases sk with
   |tup zs=>left
   |str z=>left
   |lst zs=>
    ac_nf;obtain⟨l,ys,rfl,sq,rv⟩:=bG (pins:=pins) (σ0:=Z) (s:=D) ab.hp rx q;cases ru;obtain⟨its,V,pl,hz⟩:=J.list sq;have U:=V.length;have T:=pl.isList;have L:l<D.heap.objs.size:=by obtain⟨_,e,_⟩:=T;exact Õ e
    refine call_reversed_list T ?_;refine abX ?_;refine iR (by first|exact J.os.2|exact ý _) <|vj (l:=l) (items:=its.toArray) (show X.A.handled=Æ from I.ok.hd hc) ⟨_,Ð _ rfl,rfl,rfl⟩ (T.push _) (á L) (by simp;lia) λh' tk Y c' kp hS F ht=>?_;have ea:=Fv F;subst ea;obtain⟨R,hn⟩:=jB ab rv.rev ok;have hsz:(D.heap.push (revObj l ((its.toArray.size:Int)-1))).objs.size=D.heap.objs.size+1:=ā ..;refine⟨.ref _,upd H1 _ (.lst ys.reverse),J.laid (t':=tk) (λb o e=>kp b o (á (Õ e)) (É _ e)) ?_ ⟨R,its.reverse,c',Vals.rev V,hS⟩,rfl,hn _ (J.hok.fresh ?_)⟩
    ·show D.heap.objs.size<=(D.heap.push _).objs.size;rw[hsz];lia
    ·show D.heap.objs.size<=(D.heap.push _).objs.size;rw[hsz];lia
noncomputable def intsOf:X2->Option D2
 |[]=>À []
 |.int b::r=>(intsOf r).map (b::·)
 |_::_=>Æ
theorem tN{K:Ì}{J:Str->Option Å}{ρ:Q1}{H:Hp}:∀{ds:X2}{vs:X1}{k:List Å}{bs:D2},ao K J ρ H ds vs->Vals vs k->intsOf ds=À bs->k.length=bs.length/\∀(i:Nat)(v:Å),k[i]?=À v->∃t,v=Value.int (bs.getD i 0) t
 |[],vs,k,bs,r,v,e=>by unfold ao at r;subst r;cases v;w_up;exact⟨rfl,λi v h=>by simp at h⟩
 |d::ds,vs,k,bs,r,v,e=>by
  unfold ao at r;obtain⟨x,R,rfl,D,L⟩:=r;cases v with
  |cons v1 v2=>
   cases d<;>try (cases e;done)
   rename_i b;dsimp only[intsOf]at e;cases q:intsOf ds with
   |none=>f_int
   |some M=>
    f_int;unfold Rep at D;subst D;obtain⟨t,rfl⟩:=v1;obtain⟨F,I⟩:=tN L v2 q;refine⟨by simp[F],λi v h=>?_⟩;cases i with
    |zero=>simp at h;exact⟨t,by simp[h]⟩
    |succ i=>obtain⟨t',O⟩:=I i v ‹h›;exact⟨t',‹O›⟩
theorem preSum_eq(bs:D2):∀n,n<=bs.length->preSum (λi=>bs.getD i 0) n=(bs.take n).sum
 |0,_=>by simp[preSum]
 |n+1,h=>by show preSum (λi=>bs.getD i 0) n+bs.getD n 0=_;have:bs[n]?=À bs[n]:=Í ∅;rw[preSum_eq bs n ∅,<- List.take_append_getElem (show n<bs.length by lia),adT,List.getD,this];rw[List.sum_singleton];rfl
end
theorem sj{t':Nat}(I:Inv X pins σ H s)(k:∀b o,b∉ch->s.heap.get? b=À o->h'.get? b=À o)(t:∀b∈ch,nG X pins H b)(L:0<t':=by accm_mu):Inv X pins σ H {s with heap:=h',toks:=t'}:=by
 have S:∀b u,H b=À u->b∉ch:=λb u e z=>by rw[(t b z).1]at e;w_up
 refine I.step (g':=s.gens) (d':=s.drawn) (ch:=ch) (λb D=>⟨(t b D).2.2.2.1,(t b D).2.1,(t b D).2.2.2.2.1,(t b D).2.2.2.2.2⟩) (λb o _ _ d e _=>k b o d e) (λb o _ _ d e _=>⟨o.slots,k b o d e⟩) (λ_ _ _ _ n=>n)
  (λb o d e=>⟨o,k b o d e⟩) (λ_ _ e=>e) (λ_ _ _ e=>e) (λb M e=>⟨#[],by rw[e];simp⟩) (λm J=>?_) (λb u e=>?_) I.bare
 ·obtain⟨o,es,ep,F,r⟩:=J;exact⟨o,es,ep,k _ o (λz=>(t _ z).2.1 rfl) F,r⟩
 ·refine(I.hok b u e).stay (λc v d q=>k c v ?_ q) (λ_ q=>q) λ_ _ q=>q;rcases d with z|z
  ·rw[z];exact S b u e
  ·exact S c _ z
abbrev View:=DH->Nat->Option X9
variable{vw:View}
def JV(K:Ì)(t:Str->Option Å)(J:It)(vw:View)(H0:Hp)(k:Q1):Prop:=
 ∀(i:Nat)(H:Hp)(ρ:Q1)(G:DH),cQ K H0 H k ρ->fE K t H ρ G->(vw G i=À Æ->J.stop i H) /\
  ∀d,vw G i=À (À d)->J.go i H/\∀x H',J.vO i H x H'->zM K t H H' ρ/\Rep K t ρ H' d x
noncomputable def ng(g:kh)(body:MS)(vw:View):Nat->Nat->MS
 |0,_=>λ_ _=>.stuck
 |f+1,i=>λτ G=>match vw G i with
  |none=>.stuck
  |some Æ=>.nx τ G
  |some (À d)=>match g d τ with
   |none=>.stuck
   |some D=>match body D G with
    |.nx k t=>ng g body vw f (i+1) k t
    |.ct k t=>ng g body vw f (i+1) k t
    |.bk k t=>.nx k t
    |r=>r
abbrev MI:=DS->M (Nat×View)
def Oh(K:Ì)(d:Str->Option Å)(EE:bF)(t:MI):TI:=λk H R=>∃τ ρ G,Ab K d k H τ ρ G/\match t τ G with
 |.stuck=>False
 |.bP c G'=>∀H' ρ',cQ K H H' ρ ρ'->Ab K d k H' τ ρ' G'->EE c k H'
 |.ok (_,vw) G'=>∀J H' ρ',cQ K H H' ρ ρ'->Ab K d k H' τ ρ' G'->JV K d J vw H' ρ'->R J H'
def QI(X:Cx)(EE:bF)(t d:Expr)(k:MI):Prop:=PI X t d (Oh X.K X.mg EE k)
section
variable{iter a b:Expr}{mi:MI}{p:Pos}
theorem IK{body:MS}{Dd:Ends}{J:It}{σ0:L2.St}{I:DH}{D:DS}{fuel:Nat}(U:JV X.K X.mg J vw H0 ρ0)
  (ab:Ab X.K X.mg σ0 H0 D ρ0 I) (ok:sW X.K X.mg EE H0 ρ0 Dd (ng g body vw fuel 0 D I)):
  ∃W:Nat->Nat->L2.St->Hp->Prop,(∃m,W 0 m σ0 H0)/\∀i m t H,W i m t H ->
   (J.stop i H/\Dd.nx t H)\/(J.go i H/\∃N:L2.St->Hp->Prop,(∀k H',N k H'->∃L,L<m/\W (i+1) L k H')/\∀x H',J.vO i H x H'->zx X.K X.mg g x t H' λσ2 H2=>iC X.K X.mg EE body {Dd with nx:=N,ct:=N,bk:=Dd.nx} σ2 H2):=by
 refine⟨λi m t H=>∃τ ρ G,Ab X.K X.mg t H τ ρ G/\cQ X.K H0 H ρ0 ρ/\sW X.K X.mg EE H ρ Dd (ng g body vw m i τ G),⟨fuel,D,ρ0,I,ab,.refl,ok⟩,?_⟩;rintro i m t H ⟨τ,ρ,G,ab,f,ok⟩;cases m with
 |zero=>left
 |succ m=>
  unfold ng at ok;obtain⟨R,O⟩:=U i H ρ G f ab.hp;cases q:vw G i with
  |none=>kj_on
  |some od=>
   k_is;cases od with
   |none=>exact .inl ⟨R q,ok t H ρ .refl ab⟩
   |some d=>
    ac_nf;obtain⟨T,Y⟩:=O d q;refine .inr ⟨T,λk H'=>∃τ' ρ' G',Ab X.K X.mg k H' τ' ρ' G'/\cQ X.K H0 H' ρ0 ρ'/\sW X.K X.mg EE H' ρ' Dd (ng g body vw m (i+1) τ' G'),λk H' z=>⟨m,Ĳ _,z⟩,λx H' y=>?_⟩;obtain⟨⟨F,V⟩,S⟩:=Y x H' y
    replace ok:=sW.fut F ok
    replace ab:Ab X.K X.mg t H' τ ρ G:=ab.fut F (V _ ab.hp)
    replace f:=f.trans F
    cases e:g d τ with
    |none=>kt_k;left
    |some τ1=>
     kt_k;ac_nf;refine⟨τ,ρ,G,d,τ1,ab,S,e,λk M=>⟨τ1,ρ,G,M,?_⟩⟩;cases eb:body τ1 G with
     |stuck=>kt_le
     |nx τ2 G2=>kl_no
     |ct τ2 G2=>kl_no
     |bk τ2 G2=>kt_le
     |rt d G2=>kt_le
     |xn c τ2 G2=>kt_le
def iY(g:kh)(d:MI)(body:MS):MS:=λτ=>bI (d τ) (λx G=>ng g body x.2 x.1 0 τ G) λc G=>.xn c τ G
theorem MB(I:PassesOwn (model X.prog X.w) X.A X.env X.xe)(L:X.calm=Ã)(k:QI X EE tg iter mi)(D:QG X tg g)(F:qh X EE body ms)(t:fL iter=Ã):
  QS X EE (.For tg iter body [] pos) (iY g mi ms):=PS.mono (BE I L k D F (iF t _)) λM σ H h=>by
 x_go;nofun;dsimp only[iY,bI]at ok;cases e:mi τ G with
 |stuck=>right
 |bP c G'=>kt_k;k_not
 |ok x G'=>kt_k;exact λJ H' ρ' f aZ d=>IK d aZ (ok.fut f)
def lR(gO:D->Option X2)(ks:L9)(tt:DS->M Bool)(te:Y2)(n:Nat)(vw:View):Nat->Nat->DS->DH->Out D
 |0,_,_,_=>.stuck
 |f+1,i,τ,G=>match vw G i with
  |none=>.stuck
  |some Æ=>.ok (.obj n) G
  |some (À d)=>match dg gO ks tt te n d τ G with
   |.ok _ G'=>lR gO ks tt te n vw f (i+1) τ G'
   |.bP c G'=>.bP c G'
   |.stuck=>.stuck
variable{ow:V->Hp->X1->Prop}{xs:P3}
theorem Fw(hO:jC X.K X.mg ow gO){Q:VK}{J:It}{vw:View}{H0:Hp}{t:L2.St}{k:Q1}{G0:DH}{τ:DS}{fuel:Nat}(jv:JV X.K X.mg J vw H0 k)
  (ab:Ab X.K X.mg t H0 τ k G0) (ok:jK X.K X.mg EE H0 t τ k (lR gO ks tt te G0.length vw fuel 0 τ (G0++[.lst []])) Q):
  ∀D,H0 D=Æ->∃W:Nat->Nat->Hp->Prop,(∃m,W 0 m (upd H0 D (.lst [])))/\∀i m H,W i m H ->
   (J.stop i H/\Q (.ref D) H)\/(J.go i H/\∀x H',J.vO i H x H'->∃vs,ow x H' vs/\liftT X.K X.mg (qk EE t) tt (vs.map À++mask ks t) H' λb V=>if b=Ã then cE X.K X.mg (qk EE t) te (vs.map À++mask ks t) V λv I=>∃ys,I D=À (.lst ys)/\ys.length<Ç/\∃F,F<m/\W (i+1) F (upd I D (.lst (ys++[v]))) else ∃F,F<m/\W (i+1) F V):=by
 intro D U;have M:cQ X.K H0 (upd H0 D (.lst [])) k (k++[D]):=(cJ U k).trans (cX k D);have Ml:Ab X.K X.mg t (upd H0 D (.lst [])) τ (k++[D]) (G0++[.lst []]):=ab.fut M (ab.hp.more U .nil);have L:(k++[D])[G0.length]?=À D:=by rw[<- ab.hp.hl,aB]
 refine⟨λi m H=>∃ρ G,Ab X.K X.mg t H τ ρ G/\cQ X.K H0 H k ρ/\ρ[G0.length]?=À D/\jK X.K X.mg EE H t τ ρ (lR gO ks tt te G0.length vw m i τ G) Q,
  ⟨fuel,k++[D],_,Ml,M,L,ok.fut M⟩,?_⟩
 rintro i m H ⟨ρ,G,ab,f,R,ok⟩;cases m with
 |zero=>left
 |succ m=>
  unfold lR at ok;obtain⟨Z,Y⟩:=jv i H ρ G f ab.hp;cases q:vw G i with
  |none=>kj_on
  |some od=>
   k_is;cases od with
   |none=>exact .inl ⟨Z q,ok _ H ρ .refl ab (by unfold Rep;exact⟨D,rfl,R⟩)⟩
   |some d=>
    ac_nf;obtain⟨jg,jy⟩:=Y d q;refine .inr ⟨jg,λx H' y=>?_⟩;obtain⟨⟨O,hN⟩,rx⟩:=jy x H' y
    replace ok:=jK.fut O ok
    replace ab:Ab X.K X.mg t H' τ ρ G:=ab.fut O (hN _ ab.hp)
    replace f:=f.trans O
    refine qC hO (W:=λI=>∃F,F<m+1/\∃ρ G,Ab X.K X.mg t I τ ρ G/\cQ X.K H0 I k ρ/\ρ[G0.length]?=À D/\jK X.K X.mg EE I t τ ρ (lR gO ks tt te G0.length vw F (i+1) τ G) Q)
      ab rx R ?_
    cases e:dg gO ks tt te G0.length d τ G with
    |stuck=>right
    |bP c G'=>right
    |ok _ G'=>kt_k;exact λI T S nK=>⟨m,Ĳ _,T,G',nK,f.trans S,S.get R,ok.fut S⟩
def gM(gO:D->Option X2)(ks:L9)(d:MI)(tt:DS->M Bool)(te:Y2):Y2:=λτ=>(d τ).bind λx G=>lR gO ks tt te G.length x.2 x.1 0 τ (G++[.lst []])
theorem tO(D:jC X.K X.mg ow gO){d:L2.St}{H:Hp}{Q:VK}(h:cE X.K X.mg EE (gM gO ks mi tt te) d H Q):
  zK (Oh X.K X.mg EE mi) ks ow (liftT X.K X.mg (qk EE d) tt) (cE X.K X.mg (qk EE d) te) d H Q:=by
 x_go;nofun;dsimp only[gM,M.bind]at ok;cases e:mi τ G with
 |stuck=>right
 |bP c G'=>right
 |ok x G'=>kt_k;exact λJ H' ρ' f t k=>Fw D k t (ok.fut f)
variable{elt:Expr}{ifs:U2}
theorem IL(D:fJ X EE)(t:lQ X)(S:bw X.env.scope X.N scope xs ks)(k:Own X scope xs ks tg ow)(I:jC X.K X.mg ow gO)(M:X.calm=Ã)(F:QI X EE tg iter mi)(L:jR X scope xs ifs elt tt te)(J:fL iter=Ã):
  QE X EE (.ListComp elt [⟨tg,iter,ifs,0⟩] scope pos) (gM gO ks mi tt te):=PE.mono (xX (tt:=λd=>liftT X.K X.mg (qk EE d) tt) (te:=λd=>cE X.K X.mg (qk EE d) te) D t S k M F (λd cl C pins s0 H0 fp E=>L cl C pins s0 H0 fp E _) (iF J _)) λ_ _ _ h=>tO I h
theorem IM(F:fJ X EE)(D:lQ X)(S:bw X.env.scope X.N scope xs ks)(t:Own X scope xs ks tg ow)(M:jC X.K X.mg ow gO)(U:X.calm=Ã)(T:X.N.Nodup)(I:X.env.scope.names.lookup y=À .local)(L:QI X EE tg iter mi)(R:jR X scope xs ifs elt tt te)
  (k:swapsWith (.ListComp elt [⟨tg,iter,ifs,0⟩] scope pos) (À (.Name y py)) spos.line X.env=pure Ã) (J:X.N[i]?=À y:=by rfl) (O:fL iter=Ã:=by rfl):
  QS X EE (.Assign [.Name y py] (.ListComp elt [⟨tg,iter,ifs,0⟩] scope pos) spos) (aC i (gM gO ks mi tt te)):=
 PS.mono (xY (tt:=λd=>liftT X.K X.mg (qk EE d) tt) (te:=λd=>cE X.K X.mg (qk EE d) te) F D S t U T L J I k (λd cl C pins s0 H0 fp E=>R cl C pins s0 H0 fp E _) (iF O _)) λ_ _ _ h=>zN (λ_ _ _ h=>tO M h) h
noncomputable def gP(i j:Nat):kh:=λd τ=>match d with
 |.tup [x,y]=>À ((τ.set i (À x)).set j (À y))
 |_=>Æ
theorem MC{V T:Pos}{k:Nat}(Z:X.calm=Ã)(L:X.N.Nodup)(R:Loc X.env.scope x)(S:Loc X.env.scope y)(D:X.fn x=Ã\/X.env.scope.names.lookup x=À .local)(W3:X.fn y=Ã\/X.env.scope.names.lookup y=À .local)(U:X.N[i]?=À x)(hj:X.N[j]?=À y):
  QG X (.Tuple [.Name x V,.Name y T] k pos) (gP i j):=by
 intro pins s Y H v u Q I r zu;obtain⟨τ,ρ,G,d,τ',ab,F,e,q⟩:=zu;refine G7 (n:=2) Z (lK (mL L U R D) (lK (mL L hj S W3) C9)) rfl rfl pins s Y H v u Q I r ?_;cases d<;>try (cases e;done)
 rename_i ds
 match ds,e with
 |[d1,d2],e=>w_up;unfold Rep at F;obtain⟨a,vs,rfl,M,rs⟩:=F;obtain⟨J,t,rfl,r1,O⟩:=Dn rs;exact⟨a,[J,t],rfl,M,rfl,J,[t],rfl,t,[],rfl,rfl,q _ (Ab.set (Ab.set ab r1) O)⟩
def W4(K:Ì)(a:Addr):It:=
 ⟨λi H=>∃xs x,ko K H a xs/\xs[i]?=À x,λi H y H'=>∃x p,(∀xs,ko K H a xs->xs[i]?=À x)/\H p=Æ/\y=.ref p/\H'=upd H p (.tup [.int i,x]),λi H=>∃xs,ko K H a xs/\xs.length<=i⟩
theorem Fx{k:Nat}{pt:Pos}(l e it:Addr)(S:e≠it):Turn P w K (.Tuple es k pt) (W4 K l) [e,it] e (λi h=>∃J,IsEnum h e it i J/\h.IsListIter it l i) where
 mem:=by simp
 obj:=λi h M b D=>by
  obtain⟨J,t,F⟩:=M;rcases Ù.mp D with rfl|D
  ·exact⟨_,t,λv z=>by cases z⟩
  ·have e:b=it:=‹D›
   kpc_g;obtain⟨o,e,c,d⟩:=F;kst_p
 keep:=λi h h' M U=>by obtain⟨J,t,F⟩:=M;exact⟨J,U e ⋯ _ t,F.at λo q=>U it ⋯ o q⟩
 item:=by
  intro X hP hw hK hc i pins s σ H E I hf zu hg;obtain⟨J,t,F⟩:=zu;kd_in;obtain⟨xs,x,Y,hx⟩:=hg;obtain⟨its,rv,p,hz⟩:=I.list Y;obtain⟨u,hu,ru⟩:=rv.get hx;have W5:e<s.heap.objs.size:=Õ t;have Q7:it<s.heap.objs.size:=by obtain⟨o,q,_⟩:=F;exact Õ q
  refine wpAny_pyNext_enum_item t F p.isList (x:=u) ‹hu› S λh' V hL O hsz U=>?_;refine⟨.ref s.heap.objs.size,rfl,?_⟩
  have I1:Inv X pins σ (upd H s.heap.objs.size (.tup [.int i,x])) {s with heap:=s.heap.push {cls:=.type "tuple",data:=.seq #[.int i s.toks,u]}}:=
   I.laid (t':=s.toks) (λb o q=>É _ q) (Ë _) ⟨by simp[sizeLine_eq],[.int i s.toks,u],.cons ⟨_,rfl⟩ (.cons ru .nil),aaK _ _⟩
  have L:=I.hok.fresh (Ë s.heap.objs.size);have R:∀b∈[e,it],nG X pins (upd H s.heap.objs.size (.tup [.int i,x])) b:=λb D=>by
   have Z:b≠s.heap.objs.size:=by
    rcases Ù.mp D with rfl|D
    ·exact á W5
    ·rw[ï.mp D];exact á Q7
   exact⟨by rw[aI Z];exact(hf b D).1,(hf b D).2⟩
  unfold letOwnedTupleGo;refine Á (aaq V ?_);k_in;rw[Α ⋯];refine Á (aat ?_);unfold updateField;refine Á (aaq V ?_);k_in;rw[Α ⋯];refine wpAny_update V ?_;have xU:∀b,b≠e->(h'.update e (ċ λx=>x.setIfInBounds 0 Value.none)).get? b=h'.get? b:=λb D=>è _ _ (ô D);refine⟨.ref s.heap.objs.size,_,sj (t':=s.toks+1) (s:={s with heap:=s.heap.push {cls:=.type "tuple",data:=.seq #[.int i s.toks,u]}}) (ch:=[e,it]) I1 (λb o D q=>?_) R,rfl,⟨x,s.heap.objs.size,λys hy=>by rw[I.oH hy Y];exact hx,L,rfl,rfl⟩,⟨u,?_,?_⟩,λb D=>(R b D).1⟩
  ·have T:b≠e:=λz=>D (by simp[z]);have hb2:b≠it:=λz=>D (by simp[z]);show(h'.update e _).get? b=À o;rw[xU b T];by_cases Ut:b=s.heap.objs.size
   ·subst Ut;have:=Ð (o:={cls:=.type "tuple",data:=.seq #[.int (i:Int) s.toks,u]}) s.heap rfl;rw[this]at q;o_rec;exact O
   ·have q':(s.heap.push {cls:=.type "tuple",data:=.seq #[.int (i:Int) s.toks,u]}).get? b=À o:=q;refine U b o T hb2 ?_
    rwa [ab0 _ _ _ Ut]at q'
  ·show(h'.update e _).get? e=_;rw[ò _ V rfl];rfl
  ·exact hL.at λo q=>(xU it (ô S)).trans q
 done:=by intro X hP hw hK hc i pins s σ H E I hf zu hg;obtain⟨J,t,F⟩:=zu;kd_in;obtain⟨xs,Y,hx⟩:=hg;obtain⟨its,rv,p,hz⟩:=I.list Y;k_ne;have hl:=rv.length;exact wpAny_pyNext_enum_end (I.ok.hd hc) t F p.isList (by simp;lia) λh' eb=>⟨rfl,I.turned (t':=s.toks) (λb o D e=>eb b o D e) f0 f1 f3 f4 f5⟩
 self:=λ_ _ _ _ _ M h=>by obtain⟨J,t,_⟩:=M;exact aaL t h
def oZ(d:D):View:=λG i=>match ak G d with
 |some (.lst xs)=>À (xs[i]?.map λx=>.tup [.int i,x])
 |_=>Æ
def Dw(m:DS->M X2):MI:=λτ=>(m τ).bind λds=>match ds with
 |[d]=>λG=>match ak G d with
  |some (.lst xs)=>.ok (xs.length+1,oZ d) G
  |_=>.stuck
 |_=>M.stop
theorem wz:bootBuiltins "enumerate"=À (.type "enumerate"):=by symm
theorem MD{d:D}(r:Rep K mg ρ0 H0 d (.ref l))(V:∃xs,ak G0 d=À (.lst xs)):JV K mg (W4 K l) (oZ d) H0 ρ0:=by
 intro i H ρ G f T;have L:∀zs,ak G d=À (.lst zs)->∃xs,ko K H l xs/\ao K mg ρ H zs xs:=λzs q=>by
  have J:=Rep.mono f d _ r;cases d with
  |con ws=>o_rec;unfold Rep at J;obtain⟨a,xs,e,I,t⟩:=J;w_up;exact⟨xs,I.seq,t⟩
  |obj n=>
   unfold ak at q;dsimp only at q;unfold Rep at J;obtain⟨a,e,e1⟩:=J;w_up;cases g:G[n]? with
   |none=>rw[g]at q;o_rec
   |some o=>
    cases o with
    |lst ws=>rw[g]at q;o_rec;obtain⟨Y,xs,e2,R,t⟩:=T.lst g;k_put;exact⟨xs,.of R,t⟩
    |_=>rfl'
  |tup ws=>o_rec
  |str z=>o_rec
  |_=>o_rec
 unfold oZ;cases q:ak G d with
 |none=>cb_eq
 |some sk=>
  cases sk with
  |tup zs=>cb_eq
  |str z=>cb_eq
  |lst zs=>
   obtain⟨xs,I,t⟩:=L zs q;k_in;constructor
   ·intro e;cases qi:zs[i]? with
    |some z=>rw[qi]at e;w_up
    |none=>exact⟨xs,I,by rw[<- t.length];exact Č.mp qi⟩
   ·intro dd e;cases qi:zs[i]? with
    |none=>rw[qi]at e;w_up
    |some z=>rw[qi]at e;w_up;obtain⟨v,M,S⟩:=t.get qi;refine⟨⟨xs,v,I,M⟩,λy H' O=>?_⟩;obtain⟨U,p,k,F,rfl,rfl⟩:=O;have k:=k xs I;rw[M]at k;cases k;refine⟨zM.new F,?_⟩;unfold Rep;refine⟨p,[.int i,v],rfl,.of bz,.cons (by unfold Rep;rfl) (.cons (Rep.mono (cJ F ρ) _ _ S) .nil)⟩
theorem ME{k:Nat}{pt:Pos}(U:X.mg "enumerate"=Æ)(v7:Gl X "enumerate")(ha:QA X EE [a] m)(h:aq [a]=Ã):QI X EE (.Tuple es k pt) (.Call (.Name "enumerate" p) [a] [] pc) (Dw m):=by
 have h':bT a=Ã/\aq []=Ã:=by simpa[aq]using h
 intro pins s F H R I hq;obtain⟨τ,ρ,G,ab,ok⟩:=hq;dsimp only[Dw,M.bind]at ok;refine Ĉ (iS I v7 U wz ?_ (by decide) (by decide));have hA:lN X.K X.mg EE m F H λvs D=>∃t G1 ds,Ab X.K X.mg F D τ t G1/\cQ X.K H D ρ t/\ao X.K X.mg t D ds vs/\m τ G=.ok ds G1:=by
  nofun;cases e:m τ G with
  |stuck=>right
  |bP c G'=>right
  |ok ds G'=>exact λvs H' ρ' f S r=>⟨ρ',G',ds,S,f,r,rfl⟩
 refine ă (dO (ha pc pins s F H _ I hA) λus s1 zh=>?_) (bx h'.1 _ _) (bA (es:=[]) rfl);obtain⟨vs,D,I1,r1,t,G1,ds,L,f1,rs,Y⟩:=zh;rw[Y]at ok;ac_nf
 match ds,rs,ok with
 |[],_,ok=>left
 |_::_::_,_,ok=>left
 |[d],rs,ok=>
  k_sub;obtain⟨u,rfl,V⟩:=vals1 r1;ac_nf;cases q:ak G1 d with
  |none=>kj_on
  |some sk=>
   k_is;cases sk with
   |tup zs=>left
   |str z=>left
   |lst zs=>
    ac_nf;obtain⟨l,ys,rfl,sq,rv⟩:=bG (pins:=pins) (σ0:=F) (s:=s1) L.hp rx q;cases V;obtain⟨its,vv,pl,hz⟩:=I1.list sq;refine call_enumerate_list pl.isList λh2 O hL hsz Z=>?_;refine aaL O ?_;have T:Inv X pins F D {s1 with heap:=h2}:=I1.kept (t':=s1.toks) Z;refine⟨s1.heap.objs.size+1,[s1.heap.objs.size+1,s1.heap.objs.size],_,W4 X.K l,D,rfl,T,Fx l _ _ (adH _),⟨_,O,hL⟩,λb J=>?_,ok _ D t f1 L (MD rx ⟨zs,q⟩)⟩;rcases Ù.mp J with rfl|J
    ·exact I1.sN (aa7 _) (I1.hok.fresh (aa7 _))
    ·rw[ï.mp J];sr_in
end
theorem lz(h:n<=2000000):n<=Ç:=by rw[sizeLine_eq];lia
theorem lS(A:DH)(x:DO)(B:DH):(A++x::B)[A.length]?=À x:=by simp
theorem VB(A:DH)(x y:DO)(B:DH):(A++x::y::B)[A.length+1]?=À y:=by rw[Ò ∅];simp
theorem IP(A:DH)(x y:DO)(B:DH):(A++x::B).set A.length y=A++y::B:=by rw[acF _ _ (Ë _)];simp
theorem VC(A:DH)(x y z:DO)(B:DH):(A++x::y::B).set (A.length+1) z=A++x::z::B:=by rw[acF _ _ ∅];simp
theorem aH{E:DH}{o:DO}(h:G[n]?=À o):(G++E)[n]?=À o:=by rw[Î (Â.mp h).1];l_fit
theorem jn(g:Bool)(i j:Int)(G:DH):fG g (.int i) (.int j) G=.ok (.bl (g ^^ (i==j))) G:=by simp[fG,BR,mO,ź,abu,aas]
theorem iG(g:Bool)(a b:Str)(G:DH)(k:Ñ a=Ã)(d:Ñ b=Ã):fG g (.str a) (.str b) G=.ok (.bl (g ^^ (a==b))) G:=by simp[fG,BR,mO,ź,abu,aas,k,d]
theorem rE(G:DH):∀d:P3,cu (mO G deep) (d.map D.str)=À (d.map Ī)
 |[]=>rfl
 |w::d=>by have k:=rE G d;simp only[Ï,cu,k];rfl
theorem tP(t:Str)(d:P3)(G:DH)(h:Ñ t=Ã)(I:ņ (d.map Ī)=Ã):Ll (.str t) (d.map D.str) G=À (d.any (·==t)):=by
 have k:mO G deep (.str t)=À (.str t):=rfl;unfold Ll;rw[k,rE];k_in;have J:(Ī t).canLay0=Ã:=by simpa[ź]using h
 have F:min (ś (d.map Ī)) (Ī t).depth<=580:=by
  have:(Ī t).depth<=580:=by simp[abu]
  lia
 rw[Α (by rw[J,I];simpa using F)];simp only[adu];congr 1
theorem good_add{a:Str}(k:Ñ a=Ã)(d:Ñ b=Ã):Ñ (a++b)=Ã:=by have e:(a++b).cps=a.cps++b.cps:=rfl;unfold Ñ at *;rw[e,Array.all_append,k,d];rfl
theorem mR(a b:Str):(a++b).length=a.length+b.length:=by show(a.cps++b.cps).size=a.cps.size+b.cps.size;simp
theorem pg{k:Type}{xs:List k}{i:Int}(D:0<=i)(t:i<xs.length):∃v,iz xs i=À v/\xs[i.toNat]?=À v:=by
 have d:i.toNat<xs.length:=∅
 refine⟨xs[i.toNat],?_,Í d⟩;have:=b9 (xs:=xs) (j:=i.toNat) (v:=xs[i.toNat]) (Í d)
 rwa [show((i.toNat:Nat):Int)=i by lia]at this
theorem mS{j:Int}(t:0<=j)(d:j<100000):fc [.int j]=À ((Ē 0 j.toNat).map λ(k:Nat)=>.int (0+(k:Int))):=by show(if -(2^62)<=j/\j<2^62 then À ((Ů j.toNat).map λ(k:Nat)=>D.int (0+(k:Int))) else Æ)=_;rw[Α ⟨∅,∅⟩,List.range_eq_range']
theorem Dy{gO:D->Option X2}{ks:L9}{tt:DS->M Bool}{te:Y2}{n src:Nat}{τ:DS}{xs:X2}(t:DH->Prop)(U:∀G,t G->G[src]?=À (.lst xs))(F:∀G d G',d∈xs->t G->dg gO ks tt te n d τ G=.ok () G'->t G'):
  ∀(fuel k:Nat)(G:DH),xs.length<fuel+k->k<=xs.length->t G->nu gO ks tt te n src fuel k τ G=cK gO ks tt te n (xs.drop k) τ G
 |0,k,G,L,O,J=>by exfalso;lia
 |fuel+1,k,G,L,O,J=>by
  unfold nu;rw[U G J];k_in;by_cases I:k<xs.length
  ·rw[Í I,ľ I,cK];k_in;cases e:dg gO ks tt te n xs[k] τ G with
   |stuck=>rfl
   |bP c G'=>rfl
   |ok u G'=>k_in;exact Dy t U F fuel (k+1) G' ∅ ∅ (F G _ G' (acg I) J e)
  ·rw[ù ∅,ŏ ∅,cK]
def Res.sq(r:Res)(k:MS):Res:=match r with
 |.nx τ G=>k τ G
 |r=>r
noncomputable def Out.cs(r:Out Bool)(a b:MS)(τ:DS):Res:=match r with
 |.stuck=>.stuck
 |.ok c G=>if c=Ã then a τ G else b τ G
 |.bP c G=>.xn c τ G
noncomputable def Out.st(r:Out D)(i:Nat)(τ:DS):Res:=match r with
 |.stuck=>.stuck
 |.ok d G=>.nx (τ.set i (À d)) G
 |.bP c G=>.xn c τ G
noncomputable def Out.xp(r:Out D)(τ:DS):Res:=match r with
 |.stuck=>.stuck
 |.ok d G=>.nx τ G
 |.bP c G=>.xn c τ G
noncomputable def Out.rn(r:Out D)(τ:DS):Res:=match r with
 |.stuck=>.stuck
 |.ok d G=>.rt d G
 |.bP c G=>.xn c τ G
noncomputable def Out.bd{t d:Type}(r:Out t)(k:t->M d):Out d:=match r with
 |.stuck=>.stuck
 |.ok a G=>k a G
 |.bP c G=>.bP c G
noncomputable def Out.sb{d:Type}(r:Out d)(τ:DS)(k:d->DH->Res):Res:=match r with
 |.stuck=>.stuck
 |.ok a G=>k a G
 |.bP c G=>.xn c τ G
noncomputable def Res.fn(r:Res):Out D:=match r with
 |.stuck=>.stuck
 |.nx _ G'=>.ok .bD G'
 |.rt d G'=>.ok d G'
 |.bk _ _=>.stuck
 |.ct _ _=>.stuck
 |.xn c _ G'=>.bP c G'
noncomputable def Res.lp(r:Res)(k:MS):Res:=match r with
 |.nx τ G=>k τ G
 |.ct τ G=>k τ G
 |.bk τ G=>.nx τ G
 |r=>r
def W6(m k:MS):MS:=λτ G=>(m τ G).lp k
section
variable{m k:MS}{t ta tb:DS->M Bool}{a b:MS}{e ma mb:Y2}{d:D}{c:XD}{β:Type}{ml:DS->M X2}{fl:X2->M D}
@[simp]def f9:av m k τ G=(m τ G).sq k:=by unfold av Res.sq;cases m τ G<;>rfl
@[simp]def ic:(Res.nx τ G).sq k=k τ G:=î rfl rfl
@[simp]def zP:(Res.rt d G).sq k=.rt d G:=î rfl rfl
@[simp]def zQ:iV t a b τ G=(t τ G).cs a b τ:=by unfold iV bI Out.cs;cases t τ G<;>rfl
@[simp]def IQ:(Out.ok Ã G).cs a b τ=a τ G:=î rfl rfl
@[simp]def IS:(Out.ok Ä G).cs a b τ=b τ G:=î rfl rfl
@[simp]def lU:aC i e τ G=(e τ G).st i τ:=by unfold aC bI Out.st;cases e τ G<;>rfl
@[simp]def rF:(Out.ok d G).st i τ=.nx (τ.set i (À d)) G:=î rfl rfl
@[simp]def iH:dG e τ G=(e τ G).xp τ:=by unfold dG bI Out.xp;cases e τ G<;>rfl
@[simp]def lC:(Out.ok d G).xp τ=.nx τ G:=î rfl rfl
@[simp]def qE:bS e τ G=(e τ G).rn τ:=by unfold bS bI Out.rn;cases e τ G<;>rfl
@[simp]def pq:(Out.ok d G).rn τ=.rt d G:=î rfl rfl
@[simp]def sr:bC τ G=.nx τ G:=î rfl rfl
@[simp]def e8{x:α}{q:α->M β}:(Out.ok x G).bd q=q x G:=î rfl rfl
@[simp]def aJ{D:M α}{q:α->M β}:M.bind D q G=(D G).bd q:=by unfold M.bind Out.bd;cases D G<;>rfl
@[simp]def Oi{x:α}:M.ret x G=.ok x G:=î rfl rfl
@[simp]def gQ:aa i τ G=match τ[i]? with
 |some (À d)=>.ok d G
 |_=>.stuck:=î rfl rfl
@[simp]def MF:eC d τ G=.ok d G:=î rfl rfl
@[simp]def wA:aj f ma mb τ G=(ma τ G).bd λx=>(mb τ).bind λy=>f x y:=aJ
@[simp]def su:ai fl ml τ G=(ml τ G).bd fl:=aJ
@[simp]def tQ:ah τ G=.ok [] G:=î rfl rfl
@[simp]def x6:af ma ml τ G=(ma τ G).bd λx=>(ml τ).bind λxs=>M.ret (x::xs):=aJ
def Uv:D->M Bool
 |.bl b=>M.ret b
 |_=>M.stop
@[simp]def Uw:cy e τ G=(e τ G).bd Uv:=by unfold cy;rw[aJ];unfold Out.bd;cases e τ G<;>try rfl
@[simp]def Q8{b:Bool}:Uv (.bl b) G=.ok b G:=î rfl rfl
@[simp]def pA{q:D->M Bool}:eF q e τ G=(e τ G).bd q:=aJ
@[simp]def sy:jQ t τ G=(t τ G).bd λc=>M.ret (!c):=aJ
@[simp]def IU:rW ta tb τ G=(ta τ G).bd λc=>if c=Ã then M.ret Ã else tb τ:=aJ
@[simp]def pB:d9 ta tb τ G=(ta τ G).bd λc=>if c=Ã then tb τ else M.ret Ä:=aJ
@[simp]def Q9{y:Ty}:zy y e τ G=(e τ G).bd (tB y):=aJ
@[simp]def Dz{F:X2->M D}:aF n F ml τ G=(ml τ G).bd λds=>if ds.length=n then F ds else M.stop:=aJ
@[simp]def jS{T:String}{g:D->X2->M D}:bu T g mo ml τ G=(mo τ G).bd λd G=>if dB T G d=Ã then (ml τ G).bd (g d) else .stuck:=by
 unfold bu;rw[aJ];unfold Out.bd;cases mo τ G with
 |stuck=>rfl
 |bP c G=>rfl
 |ok d G'=>simp only[aJ];rfl
@[simp]def YC:HU t ma mb τ G=(t τ G).bd λc=>if c=Ã then ma τ else mb τ:=aJ
@[simp]def qF{D:X2->Option X2}{g:kh}{body:MS}:kB D g ml body τ G=(ml τ G).sb τ λds G=>match D ds with
  |some xs=>bh g body xs τ G
  |none=>.stuck:=by
 unfold kB bI Out.sb;cases ml τ G<;>rfl
@[simp]def iZ{g:kh}{body:MS}:gG g e body τ G=(e τ G).sb τ λd G=>match d with
  |.obj n=>match G[n]? with
   |some (.lst xs)=>m9 g body n (xs.length+1) 0 τ G
   |_=>.stuck
  |.tup xs=>bh g body xs τ G
  |.con xs=>bh g body xs τ G
  |.str z=>bh g body (z.cps.toList.map λc=>.str ⟨#[c]⟩) τ G
  |_=>.stuck:=by
 unfold gG bI Out.sb;cases e τ G<;>rfl
@[simp]def gZ{g:kh}{D:MI}{body:MS}:iY g D body τ G=(D τ G).sb τ λx G=>ng g body x.2 x.1 0 τ G:=by unfold iY bI Out.sb;cases D τ G<;>rfl
@[simp]def IV{x:α}{q:α->DH->Res}:(Out.ok x G).sb τ q=q x G:=î rfl rfl
@[simp]def sA{gO:D->Option X2}{ks:L9}{tt:DS->M Bool}{te:Y2}:dJ gO ks e tt te τ G=(e τ G).bd λd G=>match d with
  |.obj k=>match G[k]? with
   |some (.lst xs)=>nu gO ks tt te G.length k (xs.length+1) 0 τ (G++[.lst []])
   |_=>.stuck
  |.tup xs=>cK gO ks tt te G.length xs τ (G++[.lst []])
  |.con xs=>cK gO ks tt te G.length xs τ (G++[.lst []])
  |.str z=>cK gO ks tt te G.length (z.cps.toList.map λc=>.str ⟨#[c]⟩) τ (G++[.lst []])
  |_=>.stuck:=aJ
@[simp]def tR{F:X2->Option X2}{gO:D->Option X2}{ks:L9}{tt:DS->M Bool}{te:Y2}:dD F gO ks ml tt te τ G=(ml τ G).bd λds G=>match F ds with
  |some xs=>cK gO ks tt te G.length xs τ (G++[.lst []])
  |none=>.stuck:=aJ
@[simp]def IW{gO:D->Option X2}{ks:L9}{F:MI}{tt:DS->M Bool}{te:Y2}:gM gO ks F tt te τ G=(F τ G).bd λx G=>lR gO ks tt te G.length x.2 x.1 0 τ (G++[.lst []]):=aJ
@[simp]def bQ{ds:X2}:cj n m ds G=(m (ds.map À++Ö (n-ds.length) Æ) G).fn:=by unfold cj Res.fn;cases m (ds.map À++Ö (n-ds.length) Æ) G<;>rfl
@[simp]def jT:(Res.rt d G).fn=.ok d G:=î rfl rfl
@[simp]def rG{D F:DS->M (Option Int)}:iE e D F τ G=(e τ G).bd λd=>(D τ).bind λl=>(F τ).bind λh=>rV d l h:=aJ
@[simp]def kI:bU τ G=.ok Æ G:=î rfl rfl
def DA:D->M (Option Int)
 |.int i=>M.ret (À i)
 |_=>M.stop
@[simp]def jo:aS e τ G=(e τ G).bd DA:=by unfold aS;rw[aJ];unfold Out.bd;cases e τ G<;>try rfl
@[simp]def mT{i:Int}:DA (.int i) G=.ok (À i) G:=î rfl rfl
def Ux:D->M D
 |.int i=>M.ret (.int (-i))
 |_=>M.stop
@[simp]def IX:zu e τ G=(e τ G).bd Ux:=by unfold zu;rw[aJ];unfold Out.bd;cases e τ G<;>try rfl
@[simp]def IY{i:Int}:Ux (.int i) G=.ok (.int (-i)) G:=î rfl rfl
@[simp]def IZ{F:Str->Option (X2->M D)}:nR i n F ml τ G=match τ[i]? with
 |some (À (.fn y))=>match F y with
  |some I=>aF n I ml τ G
  |none=>.stuck
 |_=>.stuck:=î rfl rfl
@[simp]def Oj:W6 m k τ G=(m τ G).lp k:=î rfl rfl
@[simp]def eL:(Res.nx τ G).lp k=k τ G:=î rfl rfl
@[simp]def pC:dZ t m (n+1) τ G=(t τ G).cs (W6 m (dZ t m n)) bC τ:=by
 rw[dZ];unfold bI Out.cs;k_in;cases t τ G with
 |stuck=>rfl
 |bP c G=>rfl
 |ok b G'=>
  cases b with
  |false=>rfl
  |true=>simp only[if_true];unfold W6 Res.lp;cases m τ G'<;>rfl
theorem bH{body:MS}{x:D}{r:X2}(h:g x τ=À τ1):bh g body (x::r) τ G=(body τ1 G).lp (bh g body r):=by rw[bh,h];k_in;unfold Res.lp;cases body τ1 G<;>rfl
theorem I8{body:MS}{xs:X2}{x:D}(I:G[src]?=À (.lst xs))(F:xs[j]?=À x)(h:g x τ=À τ1):m9 g body src (fu+1) j τ G=(body τ1 G).lp (m9 g body src fu (j+1)):=by rw[m9,I];k_in;rw[F];k_in;rw[h];k_in;unfold Res.lp;cases body τ1 G<;>rfl
theorem zR{body:MS}{xs:X2}(F:G[src]?=À (.lst xs))(D:xs[j]?=Æ):m9 g body src (fu+1) j τ G=.nx τ G:=by rw[m9,F];k_in;rw[D]
end
noncomputable def jD(l:List Nat):Str:=⟨l.toArray⟩
theorem Ja(l:List Nat):(jD l).cps.toList=l:=by simp[jD]
theorem Ol(s:Str):jD s.cps.toList=s:=by cases s;simp[jD]
theorem x8{a:Str}(h:a.cps.toList=b.cps.toList):a=b:=by rw[<- Ol a,<- Ol b,h]
noncomputable def pD(s:List Nat):List (List Nat)->List Nat
 |[]=>[]
 |[p]=>p
 |p::q::d=>p++s++pD s (q::d)
theorem Ra(y:Str):∀d:P3,(y.join d).cps.toList=pD y.cps.toList (d.map λp=>p.cps.toList)
 |[]=>by rw[<- aaS];simp[ab1,pD,Str.empty]
 |p::d=>by
  rw[<- aaS];have t:∀(d:P3)(a:Array Nat),(adi (λk (p:Str)=>k++y.cps++p.cps) a d).toList=pD y.cps.toList (a.toList::d.map λp=>p.cps.toList):=by
   intro d
   induction d with
   |nil=>intro a;simp[pD]
   |cons q qs D=>
    intro a;rw[Ď,D];cases qs with
    |nil=>simp[pD]
    |cons r F=>simp[pD]
  simpa[ab1]using t d p.cps
section
variable{m k mb me:MS}{e:Y2}{c:XD}{ml:DS->M X2}{d:D}
@[simp]def Jb:nO x ml τ G=(ml τ G).sb τ λds G=>if ds.length<=Ç then .xn (.mk x ds) τ G else .stuck:=by unfold nO bI Out.sb;cases ml τ G<;>rfl
@[simp]def Uy{f:D->M D}:Vz f e τ G=(e τ G).bd f:=aJ
noncomputable def Res.tr(r:Res)(D:XD->MS)(t:MS):Res:=match r with
 |.nx τ' G'=>t τ' G'
 |.xn c τ' G'=>D c τ' G'
 |r=>r
theorem Rb:zJ mb mh me τ G=(mb τ G).tr mh me:=by unfold zJ Res.tr;cases mb τ G<;>rfl
theorem Uz:(Res.xn c τ G).tr mh me=mh c τ G:=î rfl rfl
theorem MG{p:Str->Option Bool}{r:XD->MS}{n:Str}{t:X2}:tF p m r (.mk n t) τ G=match p n with
  |some Ã=>Ub (m τ G)
  |some Ä=>r (.mk n t) τ G
  |none=>.stuck:=î rfl rfl
end
mutual
def D.closed:D->Bool
 |.tup ds=>aG ds
 |.con ds=>aG ds
 |.obj _=>Ä
 |.EL _ _=>Ä
 |.EN _ _=>Ä
 |_=>Ã
def aG:X2->Bool
 |[]=>Ã
 |d::r=>d.closed&&aG r
end
def nh(a b:DH):Bool:=@decide (a=b) (aaB _)
theorem iO(a:DH):nh a a=Ã:=@decide_eq_true _ (aaB _) rfl
theorem kJ(a b:DH)(h:nh a b=Ã):a=b:=@of_decide_eq_true _ (aaB _) h
section
mutual
theorem nS:∀(d:D)(v:V),d.closed=Ã->Rep K mg ρ H d v->Rep K mg ρ' H d v
 |.bD,v,c,h=>by unfold Rep at h |-;l_fit
 |.bl b,v,c,h=>by unfold Rep at h |-;l_fit
 |.int i,v,c,h=>by unfold Rep at h |-;l_fit
 |.str x,v,c,h=>by unfold Rep at h |-;l_fit
 |.tup ds,v,c,h=>by unfold Rep at h |-;obtain⟨a,xs,e,s,r⟩:=h;exact⟨a,xs,e,s,fP ds xs (by simpa[D.closed]using c) r⟩
 |.con ds,v,c,h=>by unfold Rep at h |-;obtain⟨a,xs,e,s,r⟩:=h;exact⟨a,xs,e,s,fP ds xs (by simpa[D.closed]using c) r⟩
 |.obj n,v,c,h=>by simp[D.closed]at c
 |.fn x,v,c,h=>by unfold Rep at h |-;l_fit
 |.EL _ _,v,c,h=>by simp[D.closed]at c
 |.EN _ _,v,c,h=>by simp[D.closed]at c
theorem fP:∀(ds:X2)(vs:X1),aG ds=Ã->ao K mg ρ H ds vs->ao K mg ρ' H ds vs
 |[],vs,c,h=>by unfold ao at h |-;l_fit
 |d::ds,vs,c,h=>by
  have k:d.closed=Ã/\aG ds=Ã:=by simpa[aG]using c
  unfold ao at h |-;obtain⟨v,r,e,D,t⟩:=h;exact⟨v,r,e,nS d v k.1 D,fP ds r k.2 t⟩
end
mutual
theorem Rep.back(p:∃r,ρ'=ρ++r):∀(d:D)(v0 v:V),Rep K mg ρ H d v0->Rep K mg ρ' H' d v->Rep K mg ρ H' d v
 |.bD,v0,v,t,h=>by unfold Rep at h |-;l_fit
 |.bl b,v0,v,t,h=>by unfold Rep at h |-;l_fit
 |.int i,v0,v,t,h=>by unfold Rep at h |-;l_fit
 |.str x,v0,v,t,h=>by unfold Rep at h |-;l_fit
 |.tup ds,v0,v,t,h=>by unfold Rep at t h |-;obtain⟨a,xs,e,s,r⟩:=h;obtain⟨M,I,L,s0,F⟩:=t;exact⟨a,xs,e,s,ao.back p ds I xs F r⟩
 |.con ds,v0,v,t,h=>by unfold Rep at t h |-;obtain⟨a,xs,e,s,r⟩:=h;obtain⟨M,I,L,s0,F⟩:=t;exact⟨a,xs,e,s,ao.back p ds I xs F r⟩
 |.obj n,v0,v,t,h=>by unfold Rep at t h |-;obtain⟨a,e,q⟩:=h;obtain⟨M,L,J⟩:=t;obtain⟨r,rfl⟩:=p;rw[Î (Â.mp J).1]at q;exact⟨a,e,q⟩
 |.fn x,v0,v,t,h=>by unfold Rep at h |-;l_fit
 |.EL c T,v0,v,t,h=>by unfold Rep at h |-;l_fit
 |.EN y ds,v0,v,t,h=>by unfold Rep at t h |-;obtain⟨k,a,S,xs,e,J,O,R,r⟩:=h;obtain⟨_,_,_,I,_,_,_,_,F⟩:=t;exact⟨k,a,S,xs,e,J,O,R,ao.back p ds I xs F r⟩
theorem ao.back(p:∃r,ρ'=ρ++r):∀(ds:X2)(k vs:X1),ao K mg ρ H ds k->ao K mg ρ' H' ds vs->ao K mg ρ H' ds vs
 |[],k,vs,t,h=>by unfold ao at h |-;l_fit
 |d::ds,k,vs,t,h=>by unfold ao at t h |-;obtain⟨v,r,e,F,D⟩:=h;obtain⟨v0,I,L,J,Z⟩:=t;exact⟨v,r,e,Rep.back p d v0 v J F,ao.back p ds I r Z D⟩
end
theorem fE.cut(h:fE K mg H ρ G)(p:∃r,ρ'=ρ++r)(h':fE K mg H' ρ' G')(e:G'.take G.length=G):fE K mg H' ρ G:=by
 refine⟨h.hl,h.nd,λn o q=>?_⟩;have M:n<G.length:=(Â.mp q).1;have T:G'[n]?=À o:=by rw[<- e,ŕ]at q;rw[Α M]at q;exact q
 obtain⟨O,L,F⟩:=h.ob n o q;obtain⟨a,I,D⟩:=h'.ob n o T;have S:a=O:=by obtain⟨r,rfl⟩:=p;rw[Î (by rw[h.hl];exact M),L]at I;exact(é I).symm
 subst S;refine⟨a,L,?_⟩;cases o with
 |dct kv=>obtain⟨xs,d,k⟩:=D;obtain⟨t,_,J⟩:=F;exact⟨xs,d,ao.back p _ t xs J k⟩
 |aO f kv=>obtain⟨xs,d,k⟩:=D;obtain⟨t,_,J⟩:=F;exact⟨xs,d,ao.back p _ t xs J k⟩
 |R8 kv=>obtain⟨xs,d,k⟩:=D;obtain⟨t,_,J⟩:=F;exact⟨xs,d,ao.back p _ t xs J k⟩
 |ins c U=>obtain⟨C,R,xs,m,d,k⟩:=D;obtain⟨_,_,t,_,_,J⟩:=F;exact⟨C,R,xs,m,d,ao.back p _ t xs J k⟩
 |lst ds=>obtain⟨xs,d,k⟩:=D;obtain⟨t,_,J⟩:=F;exact⟨xs,d,ao.back p ds t xs J k⟩
 |_=>exact D
theorem sC(e:H a=À (.lst xs))(ρ:Q1):cQ K H (upd H a (.eB o (.lst xs))) ρ ρ:=by
 refine⟨λb d h=>?_,λb q u h=>by rw[aI (d8 h e (by intro z;cases z))];exact h,⟨[],by simp⟩,λb φ h=>by rw[aI (d8 h e (by intro z;cases z))];exact h⟩
 ·rw[xQ]at h |-;rw[aI (d8 h e (by intro z;cases z))];l_fit
theorem fE.eB(h:fE K mg H ρ G)(t:ρ[n]?=À a)(e:H a=À (.lst xs)):fE K mg (upd H a (.eB o (.lst xs))) ρ (G.set n .dead):=by
 have f:cQ K H (upd H a (.eB o (.lst xs))) ρ ρ:=sC e ρ;refine⟨by simp[h.hl],h.nd,λm ob q=>?_⟩;by_cases d:n=m
 ·subst d;rw[ñ,Α rfl]at q;split at q
  ·o_rec;exact⟨a,t,_,bz⟩
  ·o_rec
 ·rw[Ô d]at q;obtain⟨b,k,D⟩:=h.ob m ob q;have I:b≠a:=by rintro rfl;obtain⟨M,F⟩:=Â.mp t;obtain⟨L,J⟩:=Â.mp k;exact d ((ŀ h.nd).mp (F.trans J.symm))
  exact⟨b,k,D.mono f λu q=>by rw[aI I];exact q⟩
end
section
theorem DB(I:Inv X pins σ H s)(e:H a=À (.lst xs)):∃o,Inv X pins σ (upd H a (.eB o (.lst xs))) s:=by
 obtain⟨z,its,n,r,F⟩:=I.hok a _ e;refine⟨_,I.un (H':=upd H a (.eB {cls:=.type "list",data:=.seq its.toArray n} (.lst xs))) (h':=s.heap) (t':=s.toks) ⟨λb o q _ _ _=>q,λb o q _ _ _=>⟨o.slots,q⟩,λb o q d _=>?_,λb o q _=>⟨o,q⟩,λb ys q=>?_,λb o u q=>?_,λb J q=>⟨#[],?_⟩⟩ λb u q=>?_⟩
 ·rw[aI (by rintro rfl;rw[e]at d;cases d)];exact d
 ·rw[aI (d8 q e (by intro z;cases z))];exact q
 ·rw[aI (d8 q e (by intro z;cases z))];exact q
 ·rw[aI (d8 q e (by intro z;cases z)),q];simp
 ·have k:∀c y,H c=À (.own y)->upd H a (.eB {cls:=.type "list",data:=.seq its.toArray n} (.lst xs)) c=À (.own y):=λc y w=>by rw[aI (d8 w e (by intro z;cases z))];exact w
  have t:∀c ys,H c=À (.tup ys)->upd H a (.eB {cls:=.type "list",data:=.seq its.toArray n} (.lst xs)) c=À (.tup ys):=λc ys w=>by rw[aI (d8 w e (by intro z;cases z))];exact w
  by_cases D:b=a
  ·subst D;rw[bz]at q;o_rec;exact⟨F,(I.hok b _ e).stay (λ_ _ _ w=>w) (λc w=>k c b w) t⟩
  ·rw[aI D]at q;exact(I.hok b u q).stay (λ_ _ _ w=>w) (λc w=>k c b w) t
noncomputable def vn(m:Y2):Y2:=λτ G=>match m τ G with
 |.ok (.obj n) G'=>match G'[n]? with
  |some (.lst ds)=>.ok (.con ds) (G'.set n .dead)
  |_=>.stuck
 |r=>r
def eFn(m:Y2):Y2:=λτ G=>match m τ G with
 |.ok (.obj n) G'=>match G'[n]? with
  |some (.lst ds)=>if n=G.length/\G'.length=n+1/\nh (G'.take G.length) G=Ã/\aG ds=Ã then .ok (.con ds) G else .stuck
  |_=>.stuck
 |r=>r
theorem Jd{Q d:VK}{u:Å}(h:EP X pins σ d u s)(t:∀v H',d v H'->Q v H'\/∃a xs,v=.ref a/\H' a=À (.lst xs)/\∀o,Q v (upd H' a (.eB o (.lst xs)))):EP X pins σ Q u s:=by
 obtain⟨v,H',I,r,q⟩:=h;rcases t v H' q with q|⟨a,xs,rfl,e,q⟩
 ·exact⟨v,H',I,r,q⟩
 ·obtain⟨o,k⟩:=DB I e;exact⟨_,_,k,r,q o⟩
theorem UA{m:Y2}(J:QE X EE e m):QE X EE e (vn m):=by
 intro pins s k H Q I zu;obtain⟨τ,ρ,G,ab,ok⟩:=zu;dsimp only[vn]at ok;cases q:m τ G with
 |stuck=>kj_on
 |bP c G'=>k_is;exact J pins s k H Q I ⟨τ,ρ,G,ab,by rw[q];exact ok⟩
 |ok d G'=>
  k_is;by_cases L:∃n,d=.obj n
  ·obtain⟨n,rfl⟩:=L;ac_nf;cases g:G'[n]? with
   |none=>o_new
   |some o=>
    room;cases o with
    |lst ds=>refine dO (J pins s k H (λv H'=>∃a xs,v=.ref a/\H' a=À (.lst xs)/\∀o,Q v (upd H' a (.eB o (.lst xs)))) I ⟨τ,ρ,G,ab,?_⟩) λu R h=>Jd h λv H' q=>.inr q;rw[q];intro v H' ρ' f D r;k_dec;obtain⟨a,rfl,M⟩:=r;obtain⟨S,xs,e1,e2,O⟩:=D.hp.lst g;rw[M]at e1;cases e1;refine⟨a,xs,rfl,e2,λob=>?_⟩;have F:cQ X.K H' (upd H' a (.eB ob (.lst xs))) ρ' ρ':=sC e2 ρ';refine ok _ _ ρ' (f.trans F) ⟨D.st.mono F,D.hp.eB M e2⟩ ?_;unfold Rep;exact⟨a,xs,rfl,.inl ⟨ob,bz⟩,O.mono F⟩
    |_=>left
  ·have t:jK X.K X.mg EE H k τ ρ (.ok d G') Q:=by cases d<;>first|exact ok|exact absurd ⟨_,rfl⟩ L
   exact J pins s k H Q I ⟨τ,ρ,G,ab,by rw[q];exact t⟩
theorem Rc{m:Y2}(M:QE X EE e m):QE X EE e (eFn m):=by
 intro pins s t H Q I zu;obtain⟨τ,ρ,G,ab,ok⟩:=zu;dsimp only[eFn]at ok;cases q:m τ G with
 |stuck=>kj_on
 |bP c G'=>k_is;exact M pins s t H Q I ⟨τ,ρ,G,ab,by rw[q];exact ok⟩
 |ok d G'=>
  k_is;by_cases R:∃n,d=.obj n
  ·obtain⟨n,rfl⟩:=R;ac_nf;cases g:G'[n]? with
   |none=>o_new
   |some o=>
    room;cases o with
    |lst ds=>
     ac_nf;by_cases L:n=G.length/\G'.length=n+1/\nh (G'.take G.length) G=Ã/\aG ds=Ã
     ·rw[Α L]at ok;obtain⟨V,hl,Y,J⟩:=L;refine dO (M pins s t H (λv H'=>∃a xs,v=.ref a/\H' a=À (.lst xs)/\∀o,Q v (upd H' a (.eB o (.lst xs)))) I ⟨τ,ρ,G,ab,?_⟩) λu s' h=>Jd h λv H' q=>.inr q;rw[q];intro v H' ρ' f O r;k_dec;obtain⟨a,rfl,S⟩:=r;obtain⟨a',xs,e1,e2,rs⟩:=O.hp.lst g;rw[S]at e1;cases e1;refine⟨a,xs,rfl,e2,λob=>?_⟩;have k:cQ X.K H' (upd H' a (.eB ob (.lst xs))) ρ' ρ':=sC e2 ρ';have U:cQ X.K H (upd H' a (.eB ob (.lst xs))) ρ ρ:=⟨λb ys w=>k.tup b ys (f.tup b ys w),λb o u w=>k.eB b o u (f.eB b o u w),⟨[],by simp⟩,λb T w=>k.ext b T (f.ext b T w)⟩;have F:=O.hp.eB (o:=ob) S e2;have Z:fE X.K X.mg (upd H' a (.eB ob (.lst xs))) ρ G:=ab.hp.cut f.pre F (by rw[abq ∅];exact kJ _ _ Y)
      refine ok _ _ ρ U ⟨ab.st.mono U,Z⟩ ?_;unfold Rep;exact⟨a,xs,rfl,.inl ⟨ob,bz⟩,fP ds xs J (rs.mono k)⟩
     ·rw[Β L]at ok;left
    |_=>left
  ·have D:jK X.K X.mg EE H t τ ρ (.ok d G') Q:=by cases d<;>first|exact ok|exact absurd ⟨_,rfl⟩ R
   exact M pins s t H Q I ⟨τ,ρ,G,ab,by rw[q];exact D⟩
end
def eN(m:X2->M D):X2->M D:=λds G=>match m ds G with
 |.ok d G'=>if nh (G'.take G.length) G=Ã/\d.closed=Ã then .ok d G else .stuck
 |.bP c G'=>if nh (G'.take G.length) G=Ã then .bP c G else .stuck
 |.stuck=>.stuck
def iB(m:X2->M D):X2->M D:=λds G=>match m ds G with
 |.ok (.obj n) G'=>match G'[n]? with
  |some (.lst xs)=>if nh (G'.take G.length) G=Ã/\G.length<=n/\aG xs=Ã then .ok (.obj G.length) (G++[.lst xs]) else .stuck
  |_=>.stuck
 |.bP c G'=>if nh (G'.take G.length) G=Ã then .bP c G else .stuck
 |_=>.stuck
section
variable{m:X2->M D}
theorem jV(f:cQ K H H' ρ ρ'):cQ K H H' ρ ρ:=⟨f.tup,f.eB,⟨[],by simp⟩,f.ext⟩
theorem DC(vs:X1)(H:Hp)(Q:VK)(E:XK)(h:g9 K mg n (eN m) vs H Q E):g9 K mg n m vs H Q E:=by
 obtain⟨ds,ρ,G,J,F,L,ok⟩:=h;refine⟨ds,ρ,G,J,F,L,?_⟩;dsimp only[eN]at ok;cases q:m ds G with
 |stuck=>k_is;k_end
 |ok d G'=>
  k_is;ac_nf;by_cases k:nh (G'.take G.length) G=Ã/\d.closed=Ã
  ·rw[Α k]at ok;intro v H' ρ' f D r;exact ok v H' ρ (jV f) (F.cut f.pre D (kJ _ _ k.1)) (nS d v k.2 r)
  ·rw[Β k]at ok;left
 |bP c G'=>
  k_is;ac_nf;by_cases k:nh (G'.take G.length) G=Ã
  ·rw[Α k]at ok;intro I H' ρ' t f D;exact ok I H' ρ t (jV f) (F.cut f.pre D (kJ _ _ k))
  ·rw[Β k]at ok;left
theorem Je(vs:X1)(H:Hp)(Q:VK)(E:XK)(h:g9 K mg n (iB m) vs H Q E):g9 K mg n m vs H Q E:=by
 obtain⟨ds,ρ,G,hl,D,rs,ok⟩:=h;refine⟨ds,ρ,G,hl,D,rs,?_⟩;dsimp only[iB]at ok;cases q:m ds G with
 |stuck=>k_is;k_end
 |bP c G'=>
  k_is;ac_nf;by_cases t:nh (G'.take G.length) G=Ã
  ·rw[Α t]at ok;intro R H' ρ' L f F;exact ok R H' ρ L (jV f) (D.cut f.pre F (kJ _ _ t))
  ·rw[Β t]at ok;left
 |ok d G'=>
  k_is;k_asm
  rename_i k;ac_nf;cases g:G'[k]? with
  |none=>o_new
  |some o=>
   room;cases o with
   |lst xs=>
    ac_nf;by_cases t:nh (G'.take G.length) G=Ã/\G.length<=k/\aG xs=Ã
    ·rw[Α t]at ok;intro v H' ρ' f F r;k_dec;obtain⟨a,rfl,V⟩:=r;obtain⟨a',ys,U,e2,J⟩:=F.lst g;rw[V]at U;cases U;have I:=D.cut f.pre F (kJ _ _ t.1);have T:a∉ρ:=by
      intro hm;obtain⟨j,O,ej⟩:=Ļ hm;obtain⟨r,rfl⟩:=f.pre;obtain⟨h1,yW⟩:=Â.mp V;have Y:j<(ρ++r).length:=by simp;lia
      have:(ρ++r)[j]=(ρ++r)[k]:=by rw[yW,List.getElem_append_left O,ej]
      have:=(ŀ F.nd).mp this;have:=D.hl;lia
     refine ok (.ref a) H' (ρ++[a]) ((jV f).trans (cX ρ a)) ?_ (by unfold Rep;exact⟨a,rfl,by rw[<- D.hl];simp⟩);refine⟨by simp[D.hl],?_,λj ob e=>?_⟩
     ·rw[Đ];refine⟨D.nd,by simp,λx Z y hy=>?_⟩;have e:y=a:=‹hy›
      kpc_g;rintro rfl;exact T Z
     ·by_cases O:j<G.length
      ·rw[Î O]at e;obtain⟨b,e3,r3⟩:=I.ob j ob e;exact⟨b,(cX (K:=K) (H:=H') ρ a).get e3,r3.mono (cX ρ a) λu q=>q⟩
      ·have M:j<(G++[DO.lst xs]).length:=(Â.mp e).1;have S:j=G.length:=by simp at M;lia
       subst S;rw[aB]at e;w_up;exact⟨a,by rw[<- D.hl,aB],ys,e2,fP xs ys t.2.2 J⟩
    ·rw[Β t]at ok;left
   |_=>left
end
noncomputable def xF(K:Ì)(a:Addr)(n:Nat):It:=
 ⟨λi H=>∃xs x,ko K H a xs/\xs.length=n/\i<n/\xs[n-1-i]?=À x,λi H y H'=>H'=H/\∀xs,ko K H a xs->xs[n-1-i]?=À y,λi H=>i=n⟩
theorem Jf(a it:Addr)(n:Nat):Turn P w K tg (xF K a n) [it] it (λi h=>h.IsRevIter it a ((n:Int)-1-(i:Int))) where
 mem:=by simp
 obj:=λi h st b D=>by
  have e:b=it:=‹D›
  kpc_g;obtain⟨o,e,c,d⟩:=st;kst_p
 keep:=λi h h' st k=>st.at λo e=>k it ⋯ o e
 item:=by
  intro X hP hw hK R i pins s M H E I hf st F;kd_in;obtain⟨xs,x,O,hn,L,J⟩:=F;obtain⟨its,V,p,hz⟩:=I.list O;obtain⟨u,hu,U⟩:=V.get J;k_ne;have e:(n:Int)-1-(i:Int)=((n-1-i:Nat):Int):=∅
  rw[e]at st;refine wpAny_pyNext_rev_item st p.isList (x:=u) ‹hu› λh' t S=>?_;have Y:Inv X pins M H {s with heap:=h'}:=I.turned (t':=s.toks) (λb o D e=>(S.2 b D).trans e) f0 f1 f3 f4 f5;have e2:((n-1-i:Nat):Int)-1=(n:Int)-1-((i+1:Nat):Int):=∅
  rw[e2]at t;obtain⟨o,e,c,d⟩:=id t;exact⟨u,rfl,vP (s:={s with heap:=h'}) e c d (by decide) ⟨x,H,Y,U,⟨rfl,λys T=>by rw[I.oH T O];exact J⟩,t,λb D=>(hf b D).1⟩⟩
 done:=by intro X hP hw hK R i pins s M H E I hf st F;kd_in;have L:i=n:=F;subst L;k_ne;rw[show(i:Int)-1-(i:Int)=-1 by lia]at st;exact wpAny_pyNext_rev_end (I.ok.hd R) st λh' Z=>⟨rfl,I.turned (t':=s.toks) (λb o D e=>Z b o D e) f0 f1 f3 f4 f5⟩
 self:=λ_ _ _ _ _ st h=>aa5 st h
def B4(d:D)(n:Nat):View:=λG i=>match ak G d with
 |some (.lst xs)=>if xs.length=n then (if i=n then À Æ else if i<n then À xs[n-1-i]? else Æ) else Æ
 |_=>Æ
def Jg(m:DS->M X2):MI:=λτ=>(m τ).bind λds=>match ds with
 |[d]=>λG=>match ak G d with
  |some (.lst xs)=>.ok (xs.length+1,B4 d xs.length) G
  |_=>.stuck
 |_=>M.stop
section
variable{iter a b:Expr}{mi:MI}{p:Pos}
theorem Jh{d:D}{t:X2}(f:cQ X.K H H' ρ ρ')(F:Rep X.K X.mg ρ H d (.ref l))(I:fE X.K X.mg H' ρ' G')(q:ak G' d=À (.lst t)):∃xs,ko X.K H' l xs/\ao X.K X.mg ρ' H' t xs:=by
 have V:=F.mono f;cases d with
 |con ds=>o_rec;unfold Rep at V;obtain⟨k,xs,e,s,r⟩:=V;w_up;exact⟨xs,s.seq,r⟩
 |obj n=>
  unfold Rep at V;obtain⟨k,e,r⟩:=V;w_up;dsimp only[ak]at q;cases g:G'[n]? with
  |none=>rw[g]at q;o_rec
  |some o=>
   cases o with
   |lst ys=>rw[g]at q;o_rec;obtain⟨k,xs,e1,e2,rs⟩:=I.lst g;rw[r]at e1;cases e1;exact⟨xs,.inl (.of e2),rs⟩
   |_=>rw[g]at q;o_rec
 |_=>o_rec
theorem Rf{d:D}(O:Rep X.K X.mg ρ H d (.ref l)):JV X.K X.mg (xF X.K l n) (B4 d n) H ρ:=by
 intro i H' ρ' G' f R;unfold B4;cases q:ak G' d with
 |none=>cb_eq
 |some sk=>
  cases sk with
  |tup zs=>cb_eq
  |str z=>cb_eq
  |lst zs=>
   k_in;by_cases I:zs.length=n
   ·rw[Α I];by_cases F:i=n
    ·rw[Α F];exact⟨λ_=>F,λx e=>(by cases e)⟩
    ·rw[Β F];by_cases k:i<n
     ·rw[Α k];obtain⟨xs,M,L⟩:=Jh f O R q;refine⟨λe=>?_,λx e=>?_⟩
      ·have:=é e;rw[Č]at this;lia
      ·have T:=é e;obtain⟨v,J,S⟩:=L.get T;refine⟨⟨xs,v,M,by rw[<- L.length];exact I,k,J⟩,λy U t=>?_⟩;obtain⟨rfl,t⟩:=t;have:=t xs M;rw[J]at this;cases this;exact⟨⟨.refl,λ_ h=>h⟩,S⟩
     ·rw[Β k];cb_eq
   ·rw[Β I];cb_eq
theorem Rg(U:X.mg "reversed"=Æ)(v7:Gl X "reversed")(ha:QA X EE [a] m)(h:aq [a]=Ã):QI X EE tg (.Call (.Name "reversed" p) [a] [] pc) (Jg m):=by
 have h':bT a=Ã/\aq []=Ã:=by simpa[aq]using h
 intro pins s J H R I Z;obtain⟨τ,ρ,G,ab,ok⟩:=Z;dsimp only[Jg,M.bind]at ok;refine Ĉ (iS I v7 U zO ?_ (by decide) (by decide));have hA:lN X.K X.mg EE m J H λvs t=>∃k G1 ds,Ab X.K X.mg J t τ k G1/\cQ X.K H t ρ k/\ao X.K X.mg k t ds vs/\m τ G=.ok ds G1:=by
  nofun;cases e:m τ G with
  |stuck=>right
  |bP c G'=>right
  |ok ds G'=>exact λvs H' ρ' f O r=>⟨ρ',G',ds,O,f,r,rfl⟩
 refine ă (dO (ha pc pins s J H _ I hA) λus s1 zh=>?_) (bx h'.1 _ _) (bA (es:=[]) rfl);obtain⟨vs,t,I1,r1,k,G1,ds,L,f1,rs,Y⟩:=zh;rw[Y]at ok;ac_nf
 match ds,rs,ok with
 |[],_,ok=>left
 |_::_::_,_,ok=>left
 |[d],rs,ok=>
  k_sub;obtain⟨u,rfl,V⟩:=vals1 r1;ac_nf;cases q:ak G1 d with
  |none=>kj_on
  |some sk=>
   k_is;cases sk with
   |tup zs=>left
   |str z=>left
   |lst zs=>
    ac_nf;obtain⟨l,ys,rfl,sq,rv⟩:=bG (pins:=pins) (σ0:=J) (s:=s1) L.hp rx q;cases V;obtain⟨its,T,pl,hz⟩:=I1.list sq;refine call_reversed_list pl.isList ?_;have F:(s1.heap.push (revObj l ((its.toArray.size:Int)-1))).IsRevIter s1.heap.objs.size l ((its.toArray.size:Int)-1):=⟨_,Ð _ rfl,rfl,rfl⟩;refine aa5 (s:={s1 with heap:=s1.heap.push (revObj l ((its.toArray.size:Int)-1))}) F ?_;have S:Inv X pins J t {s1 with heap:=s1.heap.push (revObj l ((its.toArray.size:Int)-1))}:=I1.kept (t':=s1.toks) λb o e=>É _ e;have D:its.toArray.size=zs.length:=by rw[Ü,<- T.length,rv.length]
    refine⟨s1.heap.objs.size,[s1.heap.objs.size],_,xF X.K l zs.length,t,rfl,S,Jf l _ _,?_,λb hb=>?_,ok _ t k f1 L (Rf rx)⟩
    ·show(s1.heap.push (revObj l ((its.toArray.size:Int)-1))).IsRevIter s1.heap.objs.size l ((zs.length:Int)-1-((0:Nat):Int));rw[<- D];simpa using F
    ·rw[ï.mp hb];sr_in
end
theorem boot_zip:bootBuiltins "zip"=À (.type "zip"):=by symm
section
open PyProof.Rows
section
variable{a b:Expr}{ma mb:Y2}
theorem MH:gW X (binaryOp .Add) (λx y H Q=>∃l b xs t,x=.ref l/\y=.ref b/\ko X.K H l xs/\ko X.K H b t/\xs.length+t.length<=Ç/\∀p,H p=Æ->Q (.ref p) (upd H p (.lst (xs++t)))):=by
 by_in;obtain⟨l,b,xs,t,rfl,rfl,hH,hB,hz,q⟩:=h;cases rx;cases ry;obtain⟨its,r,⟨o,n,e,c,O,d⟩,hl⟩:=I.list hH;obtain⟨k,R,⟨o2,n2,V,S,U,T⟩,hl2⟩:=I.list hB;obtain⟨cls,dd,Y,sl⟩:=o;obtain⟨Pk,Z,J,D⟩:=o2;simp only at c O d S U T;subst c O d S U T;have M:=r.length;have L:=R.length;have ea:its.toArray++k.toArray=(its++k).toArray:=by simp
 refine concat_meets ⟨_,e,rfl⟩ ⟨_,V,rfl⟩ noFill_list_add seq_list_add PySem.F.slot_list_add PySem.F.entry_list_add (PySem.F.args_list_add_2 _ _) (list_addW l b its.toArray k.toArray n n2 _ _ sl D (by simp only[Ü];lia)) ⟨e,V,?_⟩;rw[ea];exact⟨.ref _,_,I.Ti (t':=s.toks) (r.append R) (by rw[Ý];lia),rfl,q _ I.fresh⟩
theorem MJ:gW X (binaryOp .Add) (λx y H Q=>∃a b ys,x=.ref a/\y=.ref b/\m8 X.K H a []/\m8 X.K H b ys/\Q (.ref b) H):=by
 by_in;obtain⟨a,b,ys,rfl,rfl,Y,hb,q⟩:=h;cases rx;cases ry;obtain⟨its,r1,U,_⟩:=I.tuple Y;obtain⟨S,r2,Z,_⟩:=I.tuple hb;have V:its=[]:=by cases r1;rfl
 subst V;obtain⟨⟨cls,dd,R,sl⟩,O,M,n,L⟩:=id U;obtain⟨⟨Pk,F,J,D⟩,t,d,T,k⟩:=id Z;simp only at M L d k;subst M L d k
 exact concat_meets ⟨_,O,rfl⟩ ⟨_,t,rfl⟩ noFill_tuple_add seq_tuple_add aaG aaw (aah _ _)
   (tuple_addW0 a b _ _ n T dd F sl D ⋯) ⟨O,t,⟨.ref b,H,I,rfl,q⟩⟩
noncomputable def lV(G:DH):D->Option X2
 |.con xs=>À xs
 |.obj n=>match G[n]? with
  |some (.lst xs)=>À xs
  |_=>Æ
 |_=>Æ
theorem tS{d:D}{xs:X2}(h:lV G d=À xs):ak G d=À (.lst xs):=by
 cases d with
 |con ys=>cases h;rfl
 |obj n=>
  dsimp only[lV]at h;dsimp only[ak];cases g:G[n]? with
  |none=>rw[g]at h;cases h
  |some o=>
   cases o with
   |lst ys=>rw[g]at h;cases h;rfl
   |_=>rw[g]at h;cases h
 |_=>cases h
def ay(d e:D):M D:=λG=>match d,e with
 |.int i,.int j=>.ok (.int (i+j)) G
 |.str i,.str j=>if i.length+j.length<=Ç then .ok (.str (i++j)) G else .stuck
 |.tup [],.tup ys=>.ok (.tup ys) G
 |.tup (x::xs),.tup ys=>aY (x::xs++ys) G
 |d,e=>match lV G d,lV G e with
  |some xs,À ys=>aR (xs++ys) G
  |_,_=>.stuck
theorem MK:gW X (binaryOp .Add) (rD X EE ay):=by
 z_go;have t:∀xs ys,lV G d=À xs->lV G e=À ys->jK X.K X.mg EE H σ τ ρ (aR (xs++ys) G) Q->Ú (model X.prog X.w) X.A (binaryOp .Add v u) (EP X pins σ0 Q) X.xe s:=λxs ys h1 h2 ok=>by obtain⟨l,vs,rfl,J,D⟩:=bG (pins:=pins) (σ0:=σ0) (s:=s) ab.hp r1 (tS h1);obtain⟨V,M,rfl,L,O⟩:=bG (pins:=pins) (σ0:=σ0) (s:=s) ab.hp r2 (tS h2);obtain⟨F,R⟩:=jB ab (D.append O) ok;rw[Ý]at F;exact MH pins s σ0 H _ _ v u Q I rx ry ⟨l,V,vs,M,rfl,rfl,J,L,F,R⟩
 have rest:(jK X.K X.mg EE H σ τ ρ (match lV G d,lV G e with
  |some xs,À ys=>aR (xs++ys) G
  |_,_=>.stuck) Q)->Ú (model X.prog X.w) X.A (binaryOp .Add v u) (EP X pins σ0 Q) X.xe s:=λok=>by
  cases h1:lV G d with
  |none=>rw[h1]at ok;left
  |some xs=>
   cases h2:lV G e with
   |none=>rw[h1,h2]at ok;left
   |some ys=>rw[h1,h2]at ok;exact t xs ys h1 h2 ok
 cases d with
 |int i=>
  cases e with
  |int j=>unfold Rep at r1 r2;subst r1 r2;exact O6 pins s σ0 H _ _ v u Q I rx ry ⟨i,j,rfl,rfl,ok _ H ρ .refl ab (by unfold Rep;rfl)⟩
  |_=>exact rest ok
 |str i=>
  cases e with
  |str j=>
   unfold Rep at r1 r2;subst r1 r2;dsimp only[ay]at ok;by_cases h:i.length+j.length<=Ç
   ·rw[Α h]at ok;exact BG pins s σ0 H _ _ v u Q I rx ry ⟨i,j,rfl,rfl,h,ok _ H ρ .refl ab (by unfold Rep;rfl)⟩
   ·rw[Β h]at ok;left
  |_=>exact rest ok
 |tup xs=>
  cases e with
  |tup ys=>
   have S:=r2;unfold Rep at r1 r2;obtain⟨p,vs,rfl,J,D⟩:=r1;obtain⟨q,M,rfl,L,O⟩:=r2;cases xs with
   |nil=>
    have T:vs=[]:=by have:=D.length;cases vs with|nil=>rfl|cons _ _=>simp at this
    subst T;exact MJ pins s σ0 H _ _ v u Q I rx ry ⟨p,q,M,rfl,rfl,J,L,ok _ H ρ .refl ab S⟩
   |cons x xs=>
    have k:jK X.K X.mg EE H σ τ ρ (aY (x::xs++ys) G) Q:=ok;have Z:=D.append O;obtain⟨F,R⟩:=xS ab Z k;rw[Ý]at F;have T:vs≠[]:=by intro z;subst z;have:=D.length;simp at this
    refine LL pins s σ0 H _ _ v u Q I rx ry ⟨p,q,vs,M,rfl,rfl,J,L,T,F,λz=>?_,λz p Y=>R p Y⟩;subst z;have U:ys=[]:=by
     have:=O.length;cases ys with
     |nil=>rfl
     |cons _ _=>simp at this
    subst U;unfold aY at k;split at k
    ·exact k _ H ρ .refl ab (by rw[ö];unfold Rep;exact⟨p,vs,rfl,J,D⟩)
    ·exact k.elim
  |_=>cases xs<;>exact rest ok
 |_=>exact rest (by cases e<;>exact ok)
theorem ML(k:QE X EE a ma)(d:QE X EE b mb):QE X EE (.BinOp a .Add b pos) (aj ay ma mb):=rj MK jO k d
theorem Ri{f:Flow}(h:SP X pins D' f s)(F:D'.bk=Dd.bk)(J:D'.ct=Dd.ct)(t:D'.rt=Dd.rt)
  (L:∀k H,D'.nx k H->Dd.nx k H\/∃a xs,H a=À (.lst xs)/\∀o,Dd.nx k (upd H a (.eB o (.lst xs)))):SP X pins Dd f s:=by
 obtain⟨S,O,R,M⟩:=D';subst F J t;cases f with
 |next=>
  obtain⟨d,H',I,q⟩:=h;rcases L d H' q with q|⟨a,xs,e,q⟩
  ·exact⟨d,H',I,q⟩
  ·obtain⟨o,D⟩:=DB I e;exact⟨d,_,D,q o⟩
 |_=>l_fit
theorem UB{st:Stmt}{m:Y2}(S:QS X EE st (aC i m)):QS X EE st (aC i (eFn m)):=by
 intro pins s Y H Dd I zu;obtain⟨τ,ρ,G,ab,ok⟩:=zu;dsimp only[aC,bI,eFn]at ok;cases q:m τ G with
 |stuck=>kj_on
 |bP c G'=>k_is;exact S pins s Y H Dd I ⟨τ,ρ,G,ab,by dsimp only[aC,bI];rw[q];exact ok⟩
 |ok d G'=>
  k_is;by_cases hd:∃n,d=.obj n
  ·obtain⟨n,rfl⟩:=hd;ac_nf;cases g:G'[n]? with
   |none=>o_new
   |some o=>
    room;cases o with
    |lst ds=>
     ac_nf;by_cases L:n=G.length/\G'.length=n+1/\nh (G'.take G.length) G=Ã/\aG ds=Ã
     ·rw[Α L]at ok;obtain⟨hn0,hl,hb,V⟩:=L;refine dO (S pins s Y H {Dd with nx:=λσ' H'=>∃a xs,H' a=À (.lst xs)/\∀o,Dd.nx σ' (upd H' a (.eB o (.lst xs)))} I ⟨τ,ρ,G,ab,?_⟩) λu s' h=>Ri h rfl rfl rfl λσ' H' q=>.inr q;dsimp only[aC,bI];rw[q];intro σ' H' ρ' f D;obtain⟨a,xs,e1,R,rs⟩:=D.hp.lst g;refine⟨a,xs,R,λob=>?_⟩;have F:cQ X.K H' (upd H' a (.eB ob (.lst xs))) ρ' ρ':=sC R ρ';have f3:cQ X.K H (upd H' a (.eB ob (.lst xs))) ρ ρ:=⟨λb ys w=>F.tup b ys (f.tup b ys w),λb o u w=>F.eB b o u (f.eB b o u w),⟨[],by simp⟩,λb φ w=>F.ext b φ (f.ext b φ w)⟩;have jU:fE X.K X.mg (upd H' a (.eB ob (.lst xs))) ρ G:=ab.hp.cut f.pre (D.hp.eB (o:=ob) e1 R) (by rw[abq ∅];exact kJ _ _ hb)
      refine ok σ' _ ρ f3 ⟨⟨by rw[D.st.1];simp,λj Z k=>?_⟩,jU⟩;by_cases t:i=j
      ·subst t;by_cases U:i<τ.length
       ·rw[ñ,Α rfl,Α U]at k;cases k;obtain⟨vv,ev,rv⟩:=D.st.2 i (.obj n) (by rw[ñ,Α rfl,Α U]);unfold Rep at rv;obtain⟨a',rfl,J⟩:=rv;rw[e1]at J;cases J;refine⟨_,ev,?_⟩;unfold Rep;exact⟨a,xs,rfl,.inl ⟨ob,bz⟩,fP ds xs V (rs.mono F)⟩
       ·rw[ñ,Α rfl,Β U]at k;cases k
      ·have ej0:=k;rw[Ô t]at k;obtain⟨v',M,Z8⟩:=D.st.2 j Z (by rw[Ô t];exact k);obtain⟨v0,Z9,O⟩:=ab.st.2 j Z k;exact⟨v',M,Rep.back f.pre Z v0 v' O (Z8.mono F)⟩
     ·rw[Β L]at ok;left
    |_=>left
  ·have T:sW X.K X.mg EE H ρ Dd (.nx (τ.set i (À d)) G'):=by cases d<;>first|exact ok|exact absurd ⟨_,rfl⟩ hd
   exact S pins s Y H Dd I ⟨τ,ρ,G,ab,by dsimp only[aC,bI];rw[q];exact T⟩
theorem B5(l:Addr)(items:Array Å)(n:Nat)(b:Addr)(items2:Array Å)(n2:Nat)(sl2:Array (Option Å))(J:¬(!items.isEmpty&&Ł (items.size+items2.size))=Ã)(D:items.size<=Ç)(t:items.size+items2.size<=Ç+1):
  Meets (ŝ.«list.extend» ⟨[.ref l,.ref b],[]⟩) (λ_ R s=>s.heap.get? l=À {cls:=.type "list",dict:=Æ,data:=.seq items n,slots:=#[]}/\s.heap.get? b=À {cls:=.type "list",dict:=Æ,data:=.seq items2 n2,slots:=sl2}/\R (.ok (.ret Value.none)) {s with heap:=s.heap.update l (š λx=>x++items2),toks:=s.toks}):=
 .of_wp λprog w A R s h=>by
  obtain⟨T,g,d,V,Y⟩:=s;obtain⟨F,I,h⟩:=h;have U:=AutoSeq1.idx_int;have L:=AutoSeq1.sub_tuple_tuple;have M:=AutoSeq1.sub_list_list;have S:=AutoSeq1.sub_tuple_list;have O:=AutoSeq1.sub_list_tuple;
  have k:(items++items2).size<=Ç+1:=by rw[Array.size_append];exact t
  wp_walk using(abh F rfl (hz:=D) (_hz':=k)),adU F,adU I;exact⟨_,rfl,h⟩
theorem B6:GP X "list.extend" (λx vs H Q=>∃l b xs k,x=.ref l/\vs=[.ref b]/\H l=À (.lst xs)/\ko X.K H b k/\xs.length+k.length<=Ç/\Q .bD (upd H l (.lst (xs++k)))):=by
 intro pins s σ H x vs v us Q I T rv h;obtain⟨l,b,xs,k,rfl,rfl,O,U,hz,q⟩:=h;cases T;obtain⟨u,rfl,Z⟩:=rv.one;cases Z;obtain⟨z,its,n,r,hl,e⟩:=I.EG O;obtain⟨d,J,⟨o2,V,e2,L,R,M⟩,_⟩:=I.list U;obtain⟨Pk,S,D,t⟩:=o2;simp only at L R M;subst L R M;have hl2:=J.length;have hsz:its.toArray.size+d.toArray.size<=Ç:=by rw[Ü,Ü];lia
 have Y:¬ (!its.toArray.isEmpty&&Ł (its.toArray.size+d.toArray.size))=Ã:=by rw[zg hsz,abH];exact í
 refine call_meets adl ⟨_,e,rfl⟩ F.entry_list_extend (F.args_list_extend_2 _ _)
  (B5 l its.toArray n b d.toArray V t Y (by rw[Ü];lia) ∅) ⟨e,e2,?_⟩
 refine⟨.bD,_,I.Ht (its':=its++d) O e ⋯ (r.append J) ?_,rfl,q⟩;rw[Ý];lia
def zS:D->X2->M D
 |.obj n,[y]=>λG=>match G[n]?,lV G y with
  |some (.lst xs),À ys=>if xs.length+ys.length<=Ç then .ok .bD (G.set n (.lst (xs++ys))) else .stuck
  |_,_=>.stuck
 |_,_=>M.stop
theorem MN:GP X "list.extend" (Ob X EE zS):=by
 kcj_m
 rename_i n
 match ds,ok with
 |[],ok=>left
 |a::_::_,ok=>left
 |[y],ok=>
  obtain⟨R,rfl,O⟩:=f7 wc;unfold Rep at rd;obtain⟨p,rfl,k⟩:=rd;dsimp only[zS]at ok;cases g:G[n]? with
  |none=>o_new
  |some o=>
   cases g2:lV G y with
   |none=>rw[g,g2]at ok;cases o<;>exact ok.elim
   |some ys=>
    rw[g,g2]at ok;cases o with
    |lst zs=>
     ac_nf;obtain⟨S,vs,t,D,F⟩:=ab.hp.lst g;rw[k]at t;cases t;obtain⟨L,M,rfl,J,U⟩:=bG (pins:=pins) (σ0:=σ0) (s:=s) ab.hp O (tS g2);by_cases hz:zs.length+ys.length<=Ç
     ·rw[Α hz]at ok;exact B6 pins s σ0 H _ _ v us Q I rx E2 ⟨p,L,vs,M,rfl,rfl,D,J,by rw[<- F.length,<- U.length];exact hz,tD (xs:=zs) ab k D (F.append U) (λ_ _=>by unfold Rep;rfl) ok⟩
     ·rw[Β hz]at ok;left
    |_=>left
theorem MO{o:Expr}{d k:Pos}(J:QE X EE o mo)(I:QA X EE [e] m)(D:kG o=Ã)(h:aq [e]=Ã)(t:(d.endLine==k.line)=Ã):QE X EE (.Call (.Attribute o "extend" d) [e] [] k) (bu "list" zS mo m):=by
 have h':bT e=Ã/\aq []=Ã:=by simpa[aq]using h
 exact Dp F.plainAttrs_list adl F.type_list_extend MN J I (f6 D _ _) (tM h ⋯) t (bx h'.1 _ _) (bA (es:=[]) rfl)
end
end
section
open PyProof.Rows
end
noncomputable def i6:D->Option Key
 |.int i=>À (Sum.inl i)
 |.str x=>À (Sum.inr x)
 |_=>Æ
noncomputable def aN{d:Type} [DecidableEq d] (kvs:List (d×D)) (k:d):X9:=(kvs.find? λt=>decide (t.1=k)).map (·.2)
noncomputable def cF{t:Type} [DecidableEq t] (kvs:List (t×D)) (k:t) (v:D):List (t×D):=
 if (kvs.any λd=>decide (d.1=k))=Ã then kvs.map (λd=>if d.1=k then (d.1,v) else d) else kvs++[(k,v)]
section
theorem jW{t:Type} [DecidableEq t] (k:t):∀{kvs:List (t×D)}{xs:X1},ao K mg ρ H (kvs.map (·.2)) xs ->
  (aN kvs k=Æ/\nI ((kvs.map (·.1)).zip xs) k=Æ)\/∃d v,aN kvs k=À d/\nI ((kvs.map (·.1)).zip xs) k=À v/\Rep K mg ρ H d v
 |[],xs,r=>.inl ⟨rfl,rfl⟩
 |p::q,xs,r=>by
  unfold ao at r;obtain⟨v,F,rfl,M,J⟩:=r;by_cases e:p.1=k
  ·exact .inr ⟨p.2,v,by simp[aN,e],by simp[nI,e],M⟩
  ·have I:=jW k J;have L:aN (p::q) k=aN q k:=by simp[aN,e]
   have O:nI (((p::q).map (·.1)).zip (v::F)) k=nI ((q.map (·.1)).zip F) k:=oO (p:=(p.1,v)) e;rw[L,O];exact I
theorem DE{d:Type} [DecidableEq d] (k:d):∀{kvs:List (d×D)}{xs:X1},kvs.length=xs.length->(((kvs.map (·.1)).zip xs).any λt=>decide (t.1=k))=(kvs.any λt=>decide (t.1=k))
 |[],xs,h=>by simp
 |p::q,[],h=>by simp at h
 |p::q,x::xs,h=>by have:=DE k (kvs:=q) (xs:=xs) ‹h›;simp[this]
theorem zT{I:Type} [DecidableEq I] (k:I) {d:D} {v:V} (J:Rep K mg ρ H d v):∀{kvs:List (I×D)}{xs:X1},ao K mg ρ H (kvs.map (·.2)) xs ->
  ∃ys,(((kvs.map (·.1)).zip xs).map λt=>if t.1=k then (t.1,v) else t)=((kvs.map λt=>if t.1=k then (t.1,d) else t).map (·.1)).zip ys/\ao K mg ρ H ((kvs.map λt=>if t.1=k then (t.1,d) else t).map (·.2)) ys
 |[],xs,r=>⟨[],by simp,‹ao.nil›⟩
 |p::q,xs,r=>by
  unfold ao at r;obtain⟨x,R,rfl,O,M⟩:=r;obtain⟨ys,e,L⟩:=zT k J M;by_cases F:p.1=k
  ·refine⟨v::ys,?_,?_⟩
   ·simp only[Ï,abI,Α F,e]
   ·simp only[Ï,Α F];exact .cons J L
  ·refine⟨x::ys,?_,?_⟩
   ·simp only[Ï,abI,Β F,e]
   ·simp only[Ï,Β F];exact .cons O L
theorem zU{k d:Type}:∀{a:List k}{b:List d}(x:k)(y:d),a.length=b.length->(a++[x]).zip (b++[y])=a.zip b++[(x,y)]
 |[],[],x,y,_=>rfl
 |[],_::_,_,_,h=>by simp at h
 |_::_,[],_,_,h=>by simp at h
 |p::a,q::b,x,y,h=>by simp[zU (a:=a) (b:=b) x y ‹h›]
theorem zV [DecidableEq κ] (k:κ) {d:D} {v:V} (F:Rep K mg ρ H d v) {kvs:List (κ×D)} {xs:X1} (r:ao K mg ρ H (kvs.map (·.2)) xs):
  ∃ys,putK ((kvs.map (·.1)).zip xs) k v=((cF kvs k d).map (·.1)).zip ys/\ao K mg ρ H ((cF kvs k d).map (·.2)) ys:=by
 have t:kvs.length=xs.length:=‹r.length›
 unfold putK cF;rw[DE k t];by_cases e:(kvs.any λI=>decide (I.1=k))=Ã
 ·rw[Α e,Α e];exact zT k F r
 ·rw[Β e,Β e];refine⟨xs++[v],?_,?_⟩
  ·rw[ø,Ï,ĸ,zU _ _ ‹t›]
  ·rw[ø];exact r.append (.cons F .nil)
theorem fE.dct{kvs:Y1}(h:fE K mg H ρ G)(e:G[n]?=À (.dct kvs)):∃a xs,ρ[n]?=À a/\H a=À (.dK ((kvs.map (·.1)).zip xs))/\ao K mg ρ H (kvs.map (·.2)) xs:=by obtain⟨a,d,xs,k,r⟩:=h.ob n _ e;exact⟨a,xs,d,k,r⟩
theorem tT{p:Addr}{u w:List (Key×V)}(d:H p=À (.dK u))(ρ:Q1):cQ K H (upd H p (.dK w)) ρ ρ:=by
 refine⟨λa k h=>?_,λa q u h=>by rw[aI (d8 h d (by intro z;cases z))];exact h,⟨[],by simp⟩,λa φ h=>by rw[aI (d8 h d (by intro z;cases z))];exact h⟩
 ·rw[xQ]at h |-;rw[aI (d8 h d (by intro z;cases z))];l_fit
theorem fE.UD{p:Addr}(h:fE K mg H ρ G)(d:H p=Æ):fE K mg (upd H p (.dK [])) (ρ++[p]) (G++[.dct []]):=by
 have f:cQ K H (upd H p (.dK [])) ρ (ρ++[p]):=(cJ d ρ).trans (cX ρ p);refine⟨by simp[h.hl],?_,λn ob e=>?_⟩
 ·rw[Đ];refine⟨h.nd,by simp,λa I b J=>?_⟩;have e:b=p:=‹J›
  kpc_g;rintro rfl;exact h.not_mem d I
 ·by_cases L:n<G.length
  ·rw[Î L]at e;obtain⟨a,t,D⟩:=h.ob n ob e;exact⟨a,f.get t,D.mono f λu q=>by rw[aI (cO q d)];exact q⟩
  ·have F:n<(G++[DO.dct []]).length:=(Â.mp e).1;have k:n=G.length:=by simp at F;lia
   subst k;rw[aB]at e;w_up;exact⟨p,by rw[<- h.hl,aB],[],bz,.nil⟩
theorem fE.putD{es:Y1}{u:List (Key×V)}{ys:X1}(h:fE K mg H ρ G)(t:ρ[n]?=À a)(F:H a=À (.dK u))(r:ao K mg ρ H (es.map (·.2)) ys):
  fE K mg (upd H a (.dK ((es.map (·.1)).zip ys))) ρ (G.set n (.dct es)):=by
 have f:cQ K H (upd H a (.dK ((es.map (·.1)).zip ys))) ρ ρ:=tT F ρ;refine⟨by simp[h.hl],h.nd,λm ob e=>?_⟩;by_cases d:n=m
 ·subst d;rw[ñ,Α rfl]at e;split at e
  ·w_up;exact⟨a,t,ys,bz,r.mono f⟩
  ·w_up
 ·rw[Ô d]at e;obtain⟨b,k,D⟩:=h.ob m ob e;have L:b≠a:=by rintro rfl;obtain⟨O,J⟩:=Â.mp t;obtain⟨M,I⟩:=Â.mp k;exact d ((ŀ h.nd).mp (J.trans I.symm))
  exact⟨b,k,D.mono f λu q=>by rw[aI L];exact q⟩
theorem pF{d:D}{k:Key}(r:Rep K mg ρ H d v)(e:i6 d=À k):v=kV k:=by
 cases d<;>simp[i6]at e
 ·kpc_g;k_dec;exact r
 ·kpc_g;k_dec;exact r
end
section
variable{f o i a:Expr}{apos tpos:Pos}{mf:Y2}
noncomputable def Ji:Y2:=λ_ G=>.ok (.obj G.length) (G++[.dct []])
theorem MP:QE X EE (.Dict [] [] pos) Ji:=PE.mono Hz λt H Q ⟨τ,ρ,G,ab,k⟩=>λp d=>by refine k (.ref p) _ (ρ++[p]) ((cJ d ρ).trans (cX ρ p)) ⟨ab.st.mono ((cJ d ρ).trans (cX ρ p)),ab.hp.UD d⟩ ?_;unfold Rep;exact⟨p,rfl,by rw[<- ab.hp.hl,aB]⟩
def wB(v d k:D):M D:=λG=>match d,i6 k with
 |.obj n,À y=>match G[n]? with
  |some (.dct kvs)=>if kvs.length<Ç then .ok .bD (G.set n (.dct (cF kvs y v))) else .stuck
  |_=>.stuck
 |_,_=>.stuck
def oQ(k t d:Y2):MS:=λτ=>bI ((k τ).bind λv=>(t τ).bind λo=>(d τ).bind λi=>wB v o i) (λ_ G=>.nx τ G) λc G=>.xn c τ G
theorem zW(hu:X.A.units+600<cLine)(hv:QE X EE a mv)(ho:QE X EE o mo)(Y:QE X EE i mi)(h:swapsWith a (À (.Subscript o i tpos)) pos.line X.env=pure Ä):QS X EE (.Assign [.Subscript o i tpos] a pos) (oQ mv mo mi):=
 PS.mono (Dh ∅ ho Y hv h) λDd σ H zz=>by
  k_mem;nofun;dsimp only[oQ,bI,M.bind]at ok;cases e1:mv τ G with
  |stuck=>f_tup;k_end
  |bP c G'=>f_tup;k_not
  |ok v G1=>
   f_tup;intro vv H1 ρ1 R gY r1;kw_lk;ac_nf;cases e2:mo τ G1 with
   |stuck=>gp_on;k_end
   |bP c G'=>gp_on;exact λH' ρ' f aZ=>ok σ H' ρ' (R.trans f) aZ
   |ok ov G2=>
    gp_on;intro vo H2 O F Z V;refine⟨τ,O,G2,Z,?_⟩;ac_nf;cases e3:mi τ G2 with
    |stuck=>ks_is;k_end
    |bP c G'=>ks_is;exact λH' ρ' f aZ=>ok σ H' ρ' ((R.trans F).trans f) aZ
    |ok iv G3=>
     ks_is;intro vi H3 d J L r3;dsimp only[wB]at ok;cases ov<;>try exact ok.elim
     rename_i n;cases ek:i6 iv with
     |none=>rw[ek]at ok;left
     |some y=>
      rw[ek]at ok;have t:=V.mono J;unfold Rep at t;obtain⟨p,rfl,T⟩:=t;ac_nf;cases g:G3[n]? with
      |none=>o_new
      |some ob=>
       cases ob with
       |lst _=>o_new
       |dct kvs=>
        room;ac_nf;obtain⟨p',xs,S,D,U⟩:=L.hp.dct g;rw[T]at S;cases S;by_cases I:kvs.length<Ç
        ·rw[Α I]at ok;have ev:=pF r3 ek;subst ev;have rv:=r1.mono (F.trans J);obtain⟨ys,ey,ry⟩:=zV y rv U;refine⟨p,_,rfl,sU.k D ?_,?_⟩
         ·have:=U.length;simp at this;simp[<- this];exact I
         ·rw[ey];refine ok σ _ d (((R.trans F).trans J).trans (tT D d)) ⟨L.st.mono (tT D d),L.hp.putD T D ry⟩
        ·rw[Β I]at ok;left
       |_=>o_new
theorem MQ(t:X.A.units+600<cLine)(d:QE X EE a mv)(D:QE X EE o mo)(k:QE X EE i mi)(h:nQ a=Ã):QS X EE (.Assign [.Subscript o i tpos] a pos) (oQ mv mo mi):=zW t d D k (oX h _ _ _)
end
section
open PyProof.Rows
section
variable{p pos2:Pos}
def qG:D->X2->M D
 |.obj n,[]=>λG=>match G[n]? with
  |some (.lst _)=>.ok .bD (G.set n (.lst []))
  |_=>.stuck
 |_,_=>M.stop
theorem Fy:GP X "list.clear" (Ob X EE qG):=by
 kcj_m
 rename_i n
 match ds,ok with
 |_::_,ok=>left
 |[],ok=>
  unfold ao at wc;subst wc;unfold Rep at rd;obtain⟨p,rfl,e1⟩:=rd;dsimp only[qG]at ok;cases g:G[n]? with
  |none=>o_new
  |some o=>
   cases o with
   |lst zs=>room;ac_nf;obtain⟨D,vs,e2,k,t⟩:=ab.hp.lst g;k_put;exact Hu pins s σ0 H _ _ v us Q I rx E2 ⟨p,vs,rfl,rfl,k,tD (xs:=zs) ab e1 k .nil (λ_ _=>by unfold Rep;rfl) ok⟩
   |_=>o_new
theorem Jj{o:Expr}{k d:Pos}(I:QE X EE o mo)(D:kG o=Ã)(t:(k.endLine==d.line)=Ã):
  QE X EE (.Call (.Attribute o "clear" k) [] [] d) (bu "list" qG mo ah):=Ib ū PySem.F.slot_list_clear PySem.F.type_list_clear Fy I (f6 D _ _) t
end
end
section
theorem lD{t:Addr}{x:Å}(d:s.heap.IsTupleIter it t i)
  (J:s.heap.IsTuple t items) (I:items[i]?=À x)
  (L:∀h',h'.IsTupleIter it t (i+1)->Į it s.heap h'->Q x {s with heap:=h'}):
  Ú (model prog w) A (Ĩ (.ref it)) Q E s:=by
 obtain⟨o,D,M,k⟩:=id d;obtain⟨R,O,_,S,F⟩:=J;unfold Ĩ
 refine Á (þ (name:=ĥ "__next__") d.typeIs Ŗ
  (ÿ Ŗ d.typeIs abv ?_ (abi _)))
 show Ú _ _ (field (.ref it) 0 >>= _) _ _ s;refine Á (ú D k (x:=.ref t) rfl ?_);show Ú _ _ (if (Value.ref t==Value.none)=Ã then _ else _) _ _ s;rw[Β (show ¬ ((Value.ref t==Value.none)=Ã) from í)];show Ú _ _ (field (.ref it) 1 >>= _) _ _ s;refine Á (ú D k (x:=.int i 0) rfl ?_);show Ú _ _ (seqItems? (.ref t) >>= _) _ _ s;refine Á (ĭ O F ?_);simp only[ó,I];refine Á (đ D k ⋯ (È ⟨x,rfl,È (L _ ?_ (Ğ ..))⟩));exact⟨_,ò _ D (Ŀ (ģ k _)),(abY ..).trans M,by
  rw[ģ k];simp[rawInt]⟩
theorem lW{t:Addr}{Q:Å->Ê->Prop}(I:A.handled=Æ)
  (d:s.heap.IsTupleIter it t i) (M:s.heap.IsTuple t items) (J:items[i]?=Æ)
  (L:∀h' e,acO it s.heap h'->(∃o,h'.get? e=À o/\o.cls=.type "StopIteration")->E (.ref e) {s with heap:=h'}):
  Ú (model prog w) A (Ĩ (.ref it)) Q E s:=by
 obtain⟨o,D,T,F⟩:=id d;obtain⟨R,O,_,S,k⟩:=M;unfold Ĩ
 refine Á (þ (name:=ĥ "__next__") d.typeIs Ŗ
  (ÿ Ŗ d.typeIs abv ?_ (abi _)))
 show Ú _ _ (field (.ref it) 0 >>= _) _ _ s;refine Á (ú D F (x:=.ref t) rfl ?_);show Ú _ _ (if (Value.ref t==Value.none)=Ã then _ else _) _ _ s;rw[Β (show ¬ ((Value.ref t==Value.none)=Ã) from í)];show Ú _ _ (field (.ref it) 1 >>= _) _ _ s;refine Á (ú D F (x:=.int i 0) rfl ?_);show Ú _ _ (seqItems? (.ref t) >>= _) _ _ s;refine Á (ĭ O k ?_);simp only[ó,J];refine Á (aat (Á (đ D F ⋯ ?_)));show Ú _ _ (newExc (.type "StopIteration") [] >>= _) _ _ _;k_get;simp only[newExc,newTuple];refine Á (ë ?_ (by size_fits));refine Á (m:=firstArgMember _ _) (aa8 (a:=Value.none) (by first|rfl|(simp only[firstArgMember];rfl)) ?_);refine ë ?_ (by size_fits);simp only[raiseNew];refine Á (ada ?_)
 first|rw[show A.in1.handled=Æ from I]|rw[I]
 refine Á (È (acQ ?_));exact L _ _ (((Ğ ..).extBut.push _).push _) ⟨_,Ð _ rfl,rfl⟩
end
theorem wC(L:A.handled=Æ)(it l:Addr)(k:l≠it)(items:Array Å):
  Draws prog w A it [it,l] items.size (λi v=>items[i]?=À v) (λi h=>h.IsTupleIter it l i/\h.IsTuple l items) where
 live:=λ_ _ st=>let ⟨o,I,_⟩:=st.1;⟨o,I⟩
 frame:=λ_ _ _ st t=>⟨st.1.at λo e=>t it ⋯ o e,st.2.at λo e=>t l ⋯ o e⟩
 item:=λi s Q E D st J=>by refine lD st.1 st.2 (x:=items[i]) (by simp[D]) λh' M d=>?_;exact J _ h' s.toks (by simp[D]) ⟨M,st.2.extBut d.extBut k⟩ d
 done:=λs Q E st F=>lW L st.1 st.2 ⋯ F
theorem zX(l:Addr)(items:Array Å)(n:Nat)(dct:Option Addr)(sl:Array (Option Å)):
  Meets (ŝ.«enumerate.__new__» ⟨[.type "enumerate",.ref l],[]⟩) (λ_ R s=>s.heap.get? l=À {cls:=.type "tuple",dict:=dct,data:=.seq items n,slots:=sl} /\
   R (.ok (.ret (.ref (s.heap.push {cls:=.type "tuple_iterator",data:=.fields #[.ref l,.int 0 0]}).objs.size)))
    {s with heap:=(s.heap.push {cls:=.type "tuple_iterator",data:=.fields #[.ref l,.int 0 0]}).push {cls:=.type "enumerate",data:=.fields #[.none,.bool Ä,.ref s.heap.objs.size,rawInt 0,.none,.none]}}):=
 .of_wp λprog w A R s h=>by
  obtain⟨F,g,d,I,J⟩:=s;obtain⟨k,h⟩:=h;have D:=sub_enumerate;have t:Heap.IsTuple (Shared.heap ⟨F,g,d,I,J⟩) l items:=⟨_,k,rfl,n,rfl⟩
  wp_walk using ţ k
  refine wpAny_stack_any λst=>È ?_;split
  ·rename_i c _ _ _ _ _;cases (c==Value.type "enumerate")
   ·wp_walk using ţ k,Ű t
    exact⟨_,rfl,h⟩
   ·wp_walk using ţ k,Ű t
    exact⟨_,rfl,h⟩
  ·wp_walk using ţ k,Ű t
   exact⟨_,rfl,h⟩
theorem vp{prog:ð}{w:Ć}{A:Around}{E:Å->Ê->Prop}(M:s.heap.IsTuple l items)
  (h:∀h',IsEnum h' (s.heap.objs.size+1) s.heap.objs.size 0 .none->h'.IsTupleIter s.heap.objs.size l 0->h'.objs.size=s.heap.objs.size+2 ->
   (∀b o,s.heap.get? b=À o->h'.get? b=À o)->Q (.ref (s.heap.objs.size+1)) {s with heap:=h'}):
  Ú (model prog w) A (call (.type "enumerate") [.ref l]) Q E s:=by
 obtain⟨⟨c,d,L,O⟩,J,D,n,t⟩:=M
 replace D:c=.type "tuple":=D
 replace t:L=.seq items n:=t
 subst D t
 refine callType_new F.called_enumerate (by decide) (F.typeCall_enumerate_1 _) (F.newCall_enumerate_1 _) (λk=>F.args_object_init_2 k _) F.entry_enumerate_new
  (zX l items n d O) ⟨J,?_⟩
 have hz:(s.heap.push {cls:=.type "tuple_iterator",data:=.fields #[.ref l,.int 0 0]}).objs.size=s.heap.objs.size+1:=ā ..;show _/\_;rw[hz]
 have I:IsEnum ((s.heap.push {cls:=.type "tuple_iterator",data:=.fields #[.ref l,.int 0 0]}).push
   {cls:=.type "enumerate",data:=.fields #[.none,.bool Ä,.ref s.heap.objs.size,rawInt 0,.none,.none]}) (s.heap.objs.size+1) s.heap.objs.size 0 .none:=by
  have:=Ð (s.heap.push {cls:=.type "tuple_iterator",data:=.fields #[.ref l,.int 0 0]})
   (o:={cls:=.type "enumerate",data:=.fields #[.none,.bool Ä,.ref s.heap.objs.size,rawInt 0,.none,.none]}) rfl
  rw[hz]at this;exact this
 refine⟨⟨_,I,rfl⟩,h _ I ⟨_,É _ (Ð _ rfl),rfl,rfl⟩ (by rw[ā,hz]) λb o x=>É _ (É _ x)⟩
def Rj(K:Ì)(a:Addr):It:=
 ⟨λi H=>∃xs x,m8 K H a xs/\xs[i]?=À x,λi H y H'=>∃x p,(∀xs,m8 K H a xs->xs[i]?=À x)/\H p=Æ/\y=.ref p/\H'=upd H p (.tup [.int i,x]),λi H=>∃xs,m8 K H a xs/\xs.length=i⟩
theorem B7{k:Nat}{pt:Pos}(l e it:Addr)(M:e≠it)(hle:l≠e)(U:l≠it):Turn P w K (.Tuple es k pt) (Rj K l) [e,it] e (λi h=>∃J,IsEnum h e it i J/\h.IsTupleIter it l i) where
 mem:=by simp
 obj:=λi h R b D=>by
  obtain⟨J,t,F⟩:=R;rcases Ù.mp D with rfl|D
  ·exact⟨_,t,λv z=>by cases z⟩
  ·have e:b=it:=‹D›
   kpc_g;obtain⟨o,e,c,d⟩:=F;kst_p
 keep:=λi h h' R Y=>by obtain⟨J,t,F⟩:=R;exact⟨J,Y e ⋯ _ t,F.at λo q=>Y it ⋯ o q⟩
 item:=by
  intro X hP hw hK hc i pins s σ H E I hf zu hg;obtain⟨J,t,F⟩:=zu;kd_in;obtain⟨xs,x,hq,hx⟩:=hg;obtain⟨its,rv,p,hz⟩:=I.tuple hq;obtain⟨u,hu,ru⟩:=rv.get hx;have W5:e<s.heap.objs.size:=Õ t;have Q7:it<s.heap.objs.size:=by obtain⟨o,q,_⟩:=F;exact Õ q
  have O:i<its.length:=(Â.mp hu).1;refine wpAny_pyNext_enum_itemD (wC (show X.A.in1.handled=Æ from I.ok.hd hc) it l U its.toArray) t ⟨F,p⟩ ‹O› M (by simp[M,ô hle]) λx' h' tk hx' Z hst S hsz Y=>?_;have hxu:x'=u:=by have e:its.toArray[i]?=À x':=hx';rw[aaR,hu]at e;exact(é e).symm
  subst hxu;have hL:=hst.1;refine⟨.ref s.heap.objs.size,rfl,?_⟩
  have I1:Inv X pins σ (upd H s.heap.objs.size (.tup [.int i,x])) {s with heap:=s.heap.push {cls:=.type "tuple",data:=.seq #[.int i tk,x']}}:=
   I.laid (t':=s.toks) (λb o q=>É _ q) (Ë _) ⟨by simp[sizeLine_eq],[.int i tk,x'],.cons ⟨_,rfl⟩ (.cons ru .nil),aaK _ _⟩
  have L:=I.hok.fresh (Ë s.heap.objs.size);have T:∀b∈[e,it],nG X pins (upd H s.heap.objs.size (.tup [.int i,x])) b:=λb D=>by
   have hlt:b≠s.heap.objs.size:=by
    rcases Ù.mp D with rfl|D
    ·exact á W5
    ·rw[ï.mp D];exact á Q7
   exact⟨by rw[aI hlt];exact(hf b D).1,(hf b D).2⟩
  unfold letOwnedTupleGo;refine Á (aaq Z ?_);k_in;rw[Α ⋯];refine Á (aat ?_);unfold updateField;refine Á (aaq Z ?_);k_in;rw[Α ⋯];refine wpAny_update Z ?_;have xU:∀b,b≠e->(h'.update e (ċ λx=>x.setIfInBounds 0 Value.none)).get? b=h'.get? b:=λb D=>è _ _ (ô D);refine⟨.ref s.heap.objs.size,_,sj (t':=tk+1) (s:={s with heap:=s.heap.push {cls:=.type "tuple",data:=.seq #[.int i tk,x']}}) (ch:=[e,it]) I1 (λb o D q=>?_) T,rfl,⟨x,s.heap.objs.size,λys hy=>by rw[I.qu hy hq];exact hx,L,rfl,rfl⟩,⟨x',?_,?_⟩,λb D=>(T b D).1⟩
  ·have V:b≠e:=λz=>D (by simp[z]);have hb2:b≠it:=λz=>D (by simp[z]);show(h'.update e _).get? b=À o;rw[xU b V];by_cases Ut:b=s.heap.objs.size
   ·subst Ut;have:=Ð (o:={cls:=.type "tuple",data:=.seq #[.int (i:Int) tk,x']}) s.heap rfl;rw[this]at q;o_rec;exact S
   ·have q':(s.heap.push {cls:=.type "tuple",data:=.seq #[.int (i:Int) tk,x']}).get? b=À o:=q;refine Y b o V hb2 ?_
    rwa [ab0 _ _ _ Ut]at q'
  ·show(h'.update e _).get? e=_;rw[ò _ Z rfl];rfl
  ·exact hL.at λo q=>(xU it (ô M)).trans q
 done:=by
  intro X hP hw hK hc i pins s σ H E I hf zu hg;obtain⟨J,t,F⟩:=zu;kd_in;obtain⟨xs,hq,hx⟩:=hg;obtain⟨its,rv,p,hz⟩:=I.tuple hq;k_ne;have hl:=rv.length;have hi:i=its.toArray.size:=by simp;lia
  subst hi;exact wpAny_pyNext_enum_endD (wC (show X.A.in1.handled=Æ from I.ok.hd hc) it l U its.toArray) t ⟨F,p⟩ λh' eb=>⟨rfl,I.turned (t':=s.toks) (λb o D e=>eb b o D e) f0 f1 f3 f4 f5⟩
 self:=λ_ _ _ _ _ R h=>by obtain⟨J,t,_⟩:=R;exact aaL t h
noncomputable def i7(xs:X2):View:=λ_ i=>if i<=xs.length then À (xs[i]?.map λx=>.tup [.int i,x]) else Æ
def eO(m:DS->M X2):MI:=λτ=>(m τ).bind λds=>match ds with
 |[d]=>λG=>match ak G d with
  |some (.lst xs)=>.ok (xs.length+1,oZ d) G
  |some (.tup xs)=>.ok (xs.length+1,i7 xs) G
  |_=>.stuck
 |_=>M.stop
theorem Jk(F:xQ H0 l vm)(O:ao K mg ρ0 H0 zs vm):JV K mg (Rj K l) (i7 zs) H0 ρ0:=by
 intro i H ρ G f T;have I:=xQ.t (K:=K) (f.tup _ _ F);have J:=O.mono f;unfold i7;constructor
 ·intro e;by_cases D:i<=zs.length
  ·rw[Α D]at e;cases qi:zs[i]? with
   |some z=>rw[qi]at e;w_up
   |none=>have:=Č.mp qi;exact⟨vm,I,by rw[<- J.length];lia⟩
  ·rw[Β D]at e;w_up
 ·intro dd e;by_cases D:i<=zs.length
  ·rw[Α D]at e;cases qi:zs[i]? with
   |none=>rw[qi]at e;w_up
   |some z=>rw[qi]at e;w_up;obtain⟨v,L,R⟩:=J.get qi;refine⟨⟨vm,v,I,L⟩,λy H' M=>?_⟩;obtain⟨S,p,d,k,rfl,rfl⟩:=M;have d:=d vm I;rw[L]at d;cases d;refine⟨zM.new k,?_⟩;unfold Rep;refine⟨p,[.int i,v],rfl,.of bz,.cons (by unfold Rep;rfl) (.cons (Rep.mono (cJ k ρ) _ _ R) .nil)⟩
  ·rw[Β D]at e;w_up
section
variable{a:Expr}{p:Pos}
theorem Jl{k:Nat}{pt:Pos}(U:X.mg "enumerate"=Æ)(v7:Gl X "enumerate")(V:QA X EE [a] m)(h:aq [a]=Ã):QI X EE (.Tuple es k pt) (.Call (.Name "enumerate" p) [a] [] pc) (eO m):=by
 have h':bT a=Ã/\aq []=Ã:=by simpa[aq]using h
 intro pins s L H R I hq;obtain⟨τ,ρ,G,ab,ok⟩:=hq;by_cases Y:∃d S O,m τ G=.ok [d] S/\ak S d=À (.tup O)
 ·obtain⟨d,S,O,em,q⟩:=Y;dsimp only[eO,M.bind]at ok;rw[em]at ok;ac_nf;k_is;ac_nf;refine Ĉ (iS I v7 U wz ?_ (by decide) (by decide));have hA:lN X.K X.mg EE m L H λvs F=>∃D,Ab X.K X.mg L F τ D S/\cQ X.K H F ρ D/\ao X.K X.mg D F [d] vs:=by refine⟨τ,ρ,G,ab,?_⟩;rw[em];exact λvs H' ρ' f aZ r=>⟨ρ',aZ,f,r⟩
  refine ă (dO (V pc pins s L H _ I hA) λus s1 zh=>?_) (bx h'.1 _ _) (bA (es:=[]) rfl);obtain⟨vs,F,I1,r1,D,gY,f1,rs⟩:=zh;k_sub;obtain⟨u,rfl,ru⟩:=vals1 r1;obtain⟨l,ys,rfl,Z,rv⟩:=sZ rx q;cases ru;obtain⟨its,vv,pl,hz⟩:=I1.tuple Z.t;have J:l<s1.heap.objs.size:=by obtain⟨_,e,_⟩:=pl;exact Õ e
  refine vp pl λh2 hE hL hsz kp=>?_;refine aaL hE ?_;have I2:Inv X pins L F {s1 with heap:=h2}:=I1.kept (t':=s1.toks) kp;refine⟨s1.heap.objs.size+1,[s1.heap.objs.size+1,s1.heap.objs.size],_,Rj X.K l,F,rfl,I2,B7 l _ _ (adH _) (á (Ŷ J)) (á J),⟨_,hE,hL⟩,λb T=>?_,ok _ F D f1 gY (Jk Z rv)⟩;rcases Ù.mp T with rfl|T
  ·exact I1.sN (aa7 _) (I1.hok.fresh (aa7 _))
  ·rw[ï.mp T];sr_in
 ·refine ME U v7 V h pins s L H R I ⟨τ,ρ,G,ab,?_⟩;have e:Dw m τ G=eO m τ G:=by
   dsimp only[eO,Dw,M.bind];cases em:m τ G with
   |stuck=>rfl
   |bP c G'=>rfl
   |ok ds G'=>
    k_in
    match ds with
    |[]=>rfl
    |_::_::_=>rfl
    |[d]=>
     k_in;cases q:ak G' d with
     |none=>rfl
     |some sk=>
      cases sk with
      |lst _=>rfl
      |str _=>rfl
      |tup O=>exact absurd ⟨d,G',O,em,q⟩ Y
  rw[e];k_end
end
abbrev DN(s:Str):Prop:=(s==("__debug__":Str))=Ä/\(s==("__classdict__":Str))=Ä
def Out.fw(r:Out D)(G:DH):Out D:=match r with
 |.ok (.obj n) G'=>match G'[n]? with
  |some (.lst ds)=>if n=G.length/\G'.length=n+1/\nh (G'.take G.length) G=Ã/\aG ds=Ã then .ok (.con ds) G else .stuck
  |_=>.stuck
 |r=>r
noncomputable def Out.fz(r:Out D):Out D:=match r with
 |.ok (.obj n) G'=>match G'[n]? with
  |some (.lst ds)=>.ok (.con ds) (G'.set n .dead)
  |_=>.stuck
 |r=>r
section
variable{A B R:DH}{e ma mb mc:Y2}{d:D}{c:XD}{ml:DS->M X2}{xs ys:X2}{m:X2->M D}
theorem dh:eFn e τ G=(e τ G).fw G:=î rfl rfl
@[simp]def DF:vn e τ G=(e τ G).fz:=î rfl rfl
@[simp]def W8:(Out.ok (.tup xs) G').fw G=.ok (.tup xs) G':=î rfl rfl
@[simp]def W9{z:Str}:(Out.ok (.str z) G').fw G=.ok (.str z) G':=î rfl rfl
theorem d7(h:aG ds=Ã):(Out.ok (.obj G.length) (G++[.lst ds])).fw G=.ok (.con ds) G:=by simp[Out.fw,h,iO]
theorem g7(hz:ds.length<=Ç)(h:aG ds=Ã):(aR ds G).fw G=.ok (.con ds) G:=by rw[aR,Α hz,d7 h]
@[simp]def Om:(Out.ok (.obj A.length) (A++.lst ds::B)).fz=.ok (.con ds) (A++.dead::B):=by simp[Out.fz,IP]
theorem Jm{o:DO}:(Out.ok (.obj (A.length+1)) (A++o::.lst ds::B)).fz=.ok (.con ds) (A++o::.dead::B):=by simp[Out.fz,VC,VB]
theorem jq{d:D}(h:m ds G=.ok d (G++R))(k:d.closed=Ã):eN m ds G=.ok d G:=by simp[eN,h,k,iO]
theorem gb{d:D}(h:m ds G=.ok d G)(k:d.closed=Ã):eN m ds G=.ok d G:=jq (R:=[]) ‹h› k
theorem Jo(h:m ds G=.ok (.obj G.length) (G++[.lst xs]))(k:aG xs=Ã):iB m ds G=.ok (.obj G.length) (G++[.lst xs]):=by simp[iB,h,k,iO]
@[simp]def Jp:Jg ml τ G=(ml τ G).bd λds=>match ds with
 |[d]=>λG=>match ak G d with
  |some (.lst xs)=>.ok (xs.length+1,B4 d xs.length) G
  |_=>.stuck
 |_=>M.stop:=aJ
@[simp]def jX:eO ml τ G=(ml τ G).bd λds=>match ds with
 |[d]=>λG=>match ak G d with
  |some (.lst xs)=>.ok (xs.length+1,oZ d) G
  |some (.tup xs)=>.ok (xs.length+1,i7 xs) G
  |_=>.stuck
 |_=>M.stop:=aJ
@[simp]def MT:Ji τ G=.ok (.obj G.length) (G++[.dct []]):=î rfl rfl
@[simp]def VE:oQ ma mb mc τ G=((ma τ G).bd λv=>(mb τ).bind λo=>(mc τ).bind λi=>wB v o i).xp τ:=by unfold oQ bI Out.xp;rw[aJ];cases ((ma τ G).bd λv=>(mb τ).bind λo=>(mc τ).bind λi=>wB v o i)<;>rfl
theorem i8{g:kh}{body:MS}{vw:View}(k:∀G i,i<=xs.length->vw G i=À xs[i]?):∀(fuel i:Nat)(τ:DS)(G:DH),i<=xs.length->xs.length<fuel+i->ng g body vw fuel i τ G=bh g body (xs.drop i) τ G
 |0,i,τ,G,t,F=>∅
 |fuel+1,i,τ,G,t,F=>by
  rw[ng];k_in;rw[k G i t];by_cases D:i<xs.length
  ·rw[Í D,ľ D,bh];k_in;cases g xs[i] τ with
   |none=>rfl
   |some τ1=>
    k_in;cases body τ1 G with
    |nx τ2 G2=>exact i8 k fuel (i+1) τ2 G2 ∅ ∅
    |ct τ2 G2=>exact i8 k fuel (i+1) τ2 G2 ∅ ∅
    |_=>rfl
  ·rw[ù ∅,ŏ ∅,bh]
theorem qH{gO:D->Option X2}{ks:L9}{tt:DS->M Bool}{te:Y2}{vw:View}(F:∀G i,i<=xs.length->vw G i=À xs[i]?):∀(fuel i:Nat)(τ:DS)(G:DH),i<=xs.length->xs.length<fuel+i->lR gO ks tt te n vw fuel i τ G=cK gO ks tt te n (xs.drop i) τ G
 |0,i,τ,G,k,I=>∅
 |fuel+1,i,τ,G,k,I=>by
  rw[lR];rw[F G i k];by_cases t:i<xs.length
  ·rw[Í t,ľ t,cK];k_in;cases dg gO ks tt te n xs[i] τ G with
   |ok u G2=>exact qH F fuel (i+1) τ G2 ∅ ∅
   |_=>rfl
  ·rw[ù ∅,ŏ ∅,cK]
theorem DG{body:MS}:ng g body (B4 (.con xs) xs.length) (xs.length+1) 0 τ G=bh g body xs.reverse τ G:=by
 have:=i8 (g:=g) (body:=body) (xs:=xs.reverse) (vw:=B4 (.con xs) xs.length) (λG i h=>by
  simp only[List.length_reverse]at h;simp only[B4,ak,if_true];by_cases k:i=xs.length
  ·rw[Α k,ù (by simp;lia)]
  ·rw[Β k,Α ∅,acE ∅]) (xs.length+1) 0 τ G ⋯ ⋯
 f_are
theorem tU:lR gO ks tt te n (i7 xs) (xs.length+1) 0 τ G=cK gO ks tt te n (xs.mapIdx λi x=>.tup [.int i,x]) τ G:=by
 have:=qH (n:=n) (gO:=gO) (ks:=ks) (tt:=tt) (te:=te) (xs:=xs.mapIdx λi x=>D.tup [.int i,x]) (vw:=i7 xs) (λG i h=>by simp only[abJ]at h;simp only[i7,Α h,ē]) (xs.length+1) 0 τ G ⋯ ⋯
 f_are
theorem B8{x v:D}(t:gO x=À os)(k:te (os.map À++mask ks τ) (G++[.lst acc])=.ok v (G++[.lst acc]))(hz:acc.length<Ç):
  dg gO ks dw te G.length x τ (G++[.lst acc])=.ok () (G++[.lst (acc++[v])]):=by
 simp only[dg,t,dw,M.ret,k,lS,Α hz,IP]
theorem mU{gO:D->Option X2}{ks:L9}{te:Y2}{own:D->X2}{f:D->D}:∀(xs k:X2),k.length+xs.length<=1000000->(∀x∈xs,gO x=À (own x))->(∀x∈xs,∀k,te ((own x).map À++mask ks τ) (G++[.lst k])=.ok (f x) (G++[.lst k])) ->
  cK gO ks dw te G.length xs τ (G++[.lst k])=.ok (.obj G.length) (G++[.lst (k++xs.map f)])
 |[],k,_,_,_=>by simp[cK]
 |x::xs,k,F,J,I=>by have hz:k.length<Ç:=Ø (by simp at F;lia) (lz (n:=1000001) ∅);rw[cK,B8 (J x ⋯) (I x ⋯ k) hz];k_in;rw[mU xs (k++[f x]) (by simp at F |-;lia) (λy t=>J y (by simp[t])) (λy t=>I y (by simp[t]))];simp
end
theorem tV:∀{xs:X2},(∀x∈xs,x.closed=Ã)->aG xs=Ã
 |[],_=>rfl
 |x::xs,h=>by rw[aG,h x ⋯,tV λy d=>h y (by simp[d])];rfl
theorem aA{d:Type}{f:d->D}{l:List d}(h:∀x,(f x).closed=Ã):aG (l.map f)=Ã:=tV (by intro x k;obtain⟨a,_,rfl⟩:=ä.mp k;exact h a)
theorem dQ{xs:X2}:(D.con xs).closed=aG xs:=by rw[D.closed]
theorem kK{xs:X2}:(D.tup xs).closed=aG xs:=by rw[D.closed]
theorem cz{i:Int}:(D.int i).closed=Ã:=by rw[D.closed]<;>simp
theorem aW{i:Str}:(D.str i).closed=Ã:=by rw[D.closed]<;>simp
theorem fQ{i:Bool}:(D.bl i).closed=Ã:=by rw[D.closed]<;>simp
theorem tW:D.bD.closed=Ã:=by rw[D.closed]<;>simp
theorem fR:aG []=Ã:=rfl
theorem bN{x:D}{xs:X2}:aG (x::xs)=(x.closed&&aG xs):=by rw[aG]
theorem lX:∀{xs ys:X2},aG (xs++ys)=(aG xs&&aG ys)
 |[],ys=>by simp[aG]
 |x::xs,ys=>by simp[aG,lX (xs:=xs),Ż]
mutual
def D.plain:D->Bool
 |.tup ds=>B9 ds
 |.con ds=>B9 ds
 |.str x=>Ñ x
 |.obj _=>Ä
 |.EL _ _=>Ä
 |.EN _ _=>Ä
 |.fn _=>Ä
 |_=>Ã
def B9:X2->Bool
 |[]=>Ã
 |d::r=>d.plain&&B9 r
end
section
theorem tX{d:Addr}{es:Array DictEntry}{e:DictEntry}{Q:Option Å->Ê->Prop}(k:s.heap.IsKeyIter it d i es.size ep)
  (D:s.heap.get? d=À o) (L:o.ExactDict) (F:o.data=.dict es ep) (J:es[i]?=À e)
  (I:∀h',h'.IsKeyIter it d (i+1) es.size ep->Į it s.heap h'->Q (À e.key) {s with heap:=h'}):
  Ú (model prog w) A (pyNext (.ref it)) Q E s:=by
 obtain⟨O,S,Y,t⟩:=id k;unfold pyNext;refine Á (aaj (þ (name:=ĥ "__next__") k.typeIs į (ÿ į k.typeIs aa9 ?_ (aaV _))));refine Á (Á (È (È ?_)));k_get;refine Á (Á (Ń k.typeIs (È ?_)));refine Á (abK S t ?_);rw[show ŋ "dict_keyiterator"=Ä from by decide];show Ú _ _ (if (Value.ref d==Value.none)=Ã then _ else _) _ _ s;rw[Β (show ¬ ((Value.ref d==Value.none)=Ã) from í)];k_upd;refine Á (ŷ D F ?_);k_in;l_out;k_upd;refine Á (acA D F ?_);l_out;refine È ?_;k_in;rw[Β ∅,ó,J];k_in;refine Á (Á (Ń k.typeIs (È ?_)));refine Á (acG k.typeIs ?_);rw[show ŋ "dict_keyiterator"=Ä from by decide];refine Á (đ S t ⋯ ?_);refine Á (ė ?_);simp only[Ĥ,if_false];rw[Β (by decide)]
 have M:Heap.IsKeyIter (s.heap.update it (ċ λx=>x.setIfInBounds (0+1) (rawInt (↑i+1)))) it d (i+1) es.size ep:=
  ⟨_,ò _ S (Ŀ (ģ t _)),(abY ..).trans Y,by
   rw[ģ t];simp[rawInt]⟩
 refine Á (acG M.typeIs ?_);rw[Α (by decide)];exact È (È ⟨_,rfl,È (I _ M (Ğ ..))⟩)
theorem vq{d:Addr}{es:Array DictEntry}{Q:Option Å->Ê->Prop}(I:A.handled=Æ)(k:s.heap.IsKeyIter it d i es.size ep)
  (D:s.heap.get? d=À o) (M:o.ExactDict) (F:o.data=.dict es ep) (L:es[i]?=Æ)
  (J:∀h',acO it s.heap h'->Q Æ {s with heap:=h'}):
  Ú (model prog w) A (pyNext (.ref it)) Q E s:=by
 obtain⟨O,S,Y,t⟩:=id k;unfold pyNext;refine Á (aaj (þ (name:=ĥ "__next__") k.typeIs į (ÿ į k.typeIs aa9 ?_ (aaV _))));refine Á (Á (È (È ?_)));k_get;refine Á (Á (Ń k.typeIs (È ?_)));refine Á (abK S t ?_);rw[show ŋ "dict_keyiterator"=Ä from by decide];show Ú _ _ (if (Value.ref d==Value.none)=Ã then _ else _) _ _ s;rw[Β (show ¬ ((Value.ref d==Value.none)=Ã) from í)];k_upd;refine Á (ŷ D F ?_);k_in;l_out;k_upd;refine Á (acA D F ?_);l_out;refine È ?_;k_in;rw[Β ∅,ó,L];k_in;refine Á (Á (Ń k.typeIs (È ?_)));rw[show ŋ "dict_keyiterator"=Ä from by decide];refine Á (đ S t ⋯ ?_);k_get;simp only[newExc,newTuple];refine Á (ë ?_ (by size_fits));refine Á (m:=firstArgMember _ _) (aa8 (a:=Value.none) (by first|rfl|(simp only[firstArgMember];rfl)) ?_);refine ë ?_ (by size_fits);simp only[raiseNew];refine Á (ada ?_)
 first|rw[show A.in1.handled=Æ from I]|rw[I]
 refine Á (È (acQ ?_));refine Á (gV (T:="StopIteration") (v:=.ref _) ?_ isSubtype_stop ?_)
 ·exact⟨_,Ð _ rfl,rfl⟩
 rw[Α rfl];exact È (J _ (((Ğ ..).extBut.push _).push _))
theorem Fz{d:Addr}{es:Array DictEntry}(t:(d==sysModules)=Ä)
  (D:s.heap.get? d=À o) (L:o.ExactDict) (I:o.data=.dict es ep)
  (J:Q (.ref s.heap.objs.size) {s with heap:=s.heap.push {cls:=.type "dict_keyiterator",data:=.fields #[.ref d,.int 0 0,.int es.size 0,.int ep 0]}}):
  Ú (model prog w) A (pyIter (.ref d)) Q E s:=by
 have k:s.TypeIs (.ref d) "dict":=⟨_,D,L.1⟩;refine ab2 k adI (ÿ adI k F.entry_dict_iter ?_ (F.args_dict_iter_1 _));refine Á (Á (acH k ?_));refine Á (È (È ?_));k_upd;refine Á (m:=acI _) ?_;unfold acI;rw[Β (by rw[t];exact í)];refine È ?_;refine Á (ŷ D I ?_);refine Á (acA D I ?_);refine Á (ë ?_ (by size_fits));exact È ⟨_,rfl,"dict_keyiterator",_,⟨_,Ð _ rfl,rfl⟩,į.lookup,J⟩
end
def rH(t:Bool)(h:Heap)(it l:Addr)(i:Nat):Prop:=if t=Ã then h.IsTupleIter it l i else h.IsListIter it l i
def ve(t:Bool)(h:Heap)(l:Addr)(xs:Array Å):Prop:=if t=Ã then h.IsTuple l xs else h.IsList l xs
theorem rH.at(x:rH tp h it l i)(k:∀o,h.get? it=À o->h'.get? it=À o):rH tp h' it l i:=by
 cases tp
 ·exact Heap.IsListIter.at (show h.IsListIter it l i from x) k
 ·exact Heap.IsTupleIter.at (show h.IsTupleIter it l i from x) k
theorem ve.at{xs:Array Å}(x:ve tp h l xs)(k:∀o,h.get? l=À o->h'.get? l=À o):ve tp h' l xs:=by
 cases tp
 ·obtain⟨o,e,r⟩:=(show h.IsList l xs from x);exact(⟨o,k o e,r⟩:h'.IsList l xs)
 ·exact Heap.IsTuple.at (show h.IsTuple l xs from x) k
theorem rH.get(x:rH tp h it l i):∃o,h.get? it=À o/\∀v,o.data≠.cell v:=by
 cases tp
 ·obtain⟨o,e,c,d⟩:=(show h.IsListIter it l i from x);exact⟨o,e,λv q=>by rw[d]at q;cases q⟩
 ·obtain⟨o,e,c,d⟩:=(show h.IsTupleIter it l i from x);exact⟨o,e,λv q=>by rw[d]at q;cases q⟩
section
theorem nU{x:Å}(d:rH tp s.heap it l i)
  (k:ve tp s.heap l items) (D:items[i]?=À x)
  (t:∀h',rH tp h' it l (i+1)->Į it s.heap h'->Q x {s with heap:=h'}):
  Ú (model prog w) A (Ĩ (.ref it)) Q E s:=by
 cases tp
 ·exact wpAny_nextOf_list_item (show s.heap.IsListIter it l i from d) (show s.heap.IsList l items from k) D t
 ·exact lD (show s.heap.IsTupleIter it l i from d) (show s.heap.IsTuple l items from k) D t
theorem FA{TI TO:Addr}{k:Nat}{a b x y:Å}{xs:Array Å}(D:ZipApart z TI TO i1 i2 l1 l2)(hz:IsZip s.heap z TI TO Value.none)(hTI:IsPair s.heap TI (.ref i1) (.ref i2))(Z:IsPair s.heap TO a b)
  (h1:rH t1 s.heap i1 l1 k) (h2:rH t2 s.heap i2 l2 k) (p1:ve t1 s.heap l1 xs) (p2:ve t2 s.heap l2 ys) (hx:xs[k]?=À x) (hy:ys[k]?=À y)
  (hQ:∀h',IsZip h' z TI TO (rawInt s.heap.objs.size)->IsPair h' TO x y->rH t1 h' i1 l1 (k+1)->rH t2 h' i2 l2 (k+1)->IsPair h' s.heap.objs.size x y->h'.objs.size=s.heap.objs.size+1 ->
   (∀c o,c≠z->c≠TO->c≠i1->c≠i2->s.heap.get? c=À o->h'.get? c=À o)->Q (.ref s.heap.objs.size) {s with heap:=h'}):
  Ú (model prog w) A (ŝ.«zip.__next__» {pos:=[Value.ref z]}) (λT s'=>∃v,T=Fin.done (Flow.ret v)/\Q v s') E s:=by
 unfold «Builtin».«zip.__next__»;k_upd;k_in;refine Á (ú hz rfl (x:=.bool Ä) rfl ?_);refine Á (ú hz rfl (x:=.ref TI) rfl ?_);refine Á (ĭ hTI rfl ?_);k_in;l_out;k_get;unfold aak;refine Á (ú hz rfl (x:=.none) rfl ?_);k_in;refine È ?_;rw[Α rfl];refine Á (aat ?_);refine Á (ú hz rfl (x:=.ref TO) rfl ?_);k_in;refine Á (ŗ hz ⋯ λXa z1 s1=>?_);have k1:∀c o,c≠z->s.heap.get? c=À o->Xa.get? c=À o:=λc o d q=>(s1.2 c d).trans q;k_get;rw[show[Value.ref i1,Value.ref i2].zipIdx=[(.ref i1,0),(.ref i2,1)] from rfl,Ŋ];k_get;k_in;refine Á (ab7 ?_);refine Á (nU (h1.at λo q=>k1 _ _ D.i1z q) (p1.at λo q=>k1 _ _ D.l1z q) hx λt m1 V=>È ?_);have k2:∀c o,c≠z->c≠i1->s.heap.get? c=À o->t.get? c=À o:=λc o d J q=>(V.2 c J).trans (k1 c o d q);k_in;have UE:IsPair t TO a b:=k2 _ _ D.TOz D.TOi1 Z;refine Á (ĭ UE rfl ?_);k_in;refine Á (aba UE λI e3 M=>?_);refine Á (aa6 (È ?_));have k3:∀c o,c≠z->c≠i1->c≠TO->s.heap.get? c=À o->I.get? c=À o:=λc o d J O q=>(M.2 c O).trans (k2 c o d J q);have Y:IsPair I TO x b:=e3;k_in;rw[Ŋ];k_get;k_in;refine Á (ab7 ?_);refine Á (nU (h2.at λo q=>k3 _ _ D.i2z D.i12.symm D.TOi2.symm q) (p2.at λo q=>k3 _ _ D.l2z D.l2i1 D.l2TO q) hy λYE m2 L=>È ?_);k_in;have YF:IsPair YE TO x b:=(L.2 _ D.TOi2).trans Y;refine Á (ĭ YF rfl ?_);k_in;refine Á (aba YF λR e5 F=>?_);refine Á (aa6 (È ?_));have k5:∀c o,c≠z->c≠i1->c≠TO->c≠i2->s.heap.get? c=À o->R.get? c=À o:=λc o d J O hf q=>(F.2 c O).trans ((L.2 c hf).trans (k3 c o d J O q));have YG:IsPair R TO x y:=e5;k_in;rw[acS];refine È ?_;k_in;refine Á (ĭ YG rfl ?_);k_in;refine Á (acT ?_);k_get;unfold Builtin.SmallTypes.ownedTupleHandOut;k_in;have hsz:R.objs.size=s.heap.objs.size:=by have a1:=s1.1;have a2:=V.1;have a3:=M.1;have a4:=L.1;have a5:=F.1;dsimp only at a2 a3 a4 a5;lia
 have z5:=(F.2 z D.TOz.symm).trans ((L.2 z D.i2z.symm).trans ((M.2 z D.TOz.symm).trans ((V.2 z D.i1z.symm).trans z1)));have zn:z≠s.heap.objs.size:=á (Õ hz);rw[hsz];refine Á (ŗ (É _ z5) ⋯ λh6' z6 s6=>?_);refine ŗ z6 ⋯ λU z7 s7=>?_;refine È ⟨_,rfl,?_⟩;have k7:∀c,c≠z->U.get? c=(R.push {cls:=.type "tuple",data:=.seq #[x,y]}).get? c:=λc d=>(s7.2 c d).trans (s6.2 c d);have S:∀c o,c≠z->R.get? c=À o->U.get? c=À o:=λc o d q=>(k7 c d).trans (É _ q);refine hQ U z7 (S _ _ D.TOz YG) (m1.at λo q=>?_) (m2.at λo q=>?_) ?_ ?_ (λc o c1 c2 c3 c4 q=>S c o c1 (k5 c o c1 c3 c2 c4 q))
 ·exact S _ _ D.i1z ((F.2 _ D.TOi1.symm).trans ((L.2 _ D.i12).trans ((M.2 _ D.TOi1.symm).trans q)))
 ·exact S _ _ D.i2z ((F.2 _ D.TOi2.symm).trans q)
 ·refine(k7 _ zn.symm).trans ?_;rw[<- hsz];exact Ð _ rfl
 ·have a6:=s6.1;have a7:=s7.1;have a8:=ā R {cls:=.type "tuple",data:=.seq #[x,y]};dsimp only at a6 a7;lia
end
section
theorem wD{Q:Å->Ê->Prop}(D:A.handled=Æ)(d:rH tp s.heap it l i)
  (k:ve tp s.heap l items) (t:items[i]?=Æ)
  (F:∀h' e,acO it s.heap h'->(∃o,h'.get? e=À o/\o.cls=.type "StopIteration")->E (.ref e) {s with heap:=h'}):
  Ú (model prog w) A (Ĩ (.ref it)) Q E s:=by
 cases tp
 ·exact wpAny_nextOf_list_end D (show s.heap.IsListIter it l i from d) (show s.heap.IsList l items from k) t F
 ·exact lW D (show s.heap.IsTupleIter it l i from d) (show s.heap.IsTuple l items from k) t F
theorem Jq{t1 t2:Bool}{TI TO:Addr}{k:Nat}{a b:Å}{xs ys:Array Å}{Q:PySem.Fin->Ê->Prop}(hh:A.handled=Æ)(D:ZipApart z TI TO i1 i2 l1 l2)(hz:IsZip s.heap z TI TO Value.none)(Y:IsPair s.heap TI (.ref i1) (.ref i2))(V:IsPair s.heap TO a b)
  (h1:rH t1 s.heap i1 l1 k) (h2:rH t2 s.heap i2 l2 k) (p1:ve t1 s.heap l1 xs) (p2:ve t2 s.heap l2 ys) (F:xs[k]?=Æ\/ys[k]?=Æ)
  (hE:∀h' e,(∀c o,c≠z->c≠TO->c≠i1->c≠i2->s.heap.get? c=À o->h'.get? c=À o)->(∃o,h'.get? e=À o/\o.cls=.type "StopIteration")->E (.ref e) {s with heap:=h'}):
  Ú (model prog w) A (ŝ.«zip.__next__» {pos:=[Value.ref z]}) Q E s:=by
 unfold «Builtin».«zip.__next__»;k_upd;k_in;refine Á (ú hz rfl (x:=.bool Ä) rfl ?_);refine Á (ú hz rfl (x:=.ref TI) rfl ?_);refine Á (ĭ Y rfl ?_);k_in;l_out;k_get;unfold aak;refine Á (ú hz rfl (x:=.none) rfl ?_);k_in;refine È ?_;rw[Α rfl];refine Á (aat ?_);refine Á (ú hz rfl (x:=.ref TO) rfl ?_);k_in;refine Á (ŗ hz ⋯ λXa z1 s1=>?_);have k1:∀c o,c≠z->s.heap.get? c=À o->Xa.get? c=À o:=λc o M q=>(s1.2 c M).trans q;k_get;rw[show[Value.ref i1,Value.ref i2].zipIdx=[(.ref i1,0),(.ref i2,1)] from rfl,Ŋ];k_get;k_in;refine Á (ab7 ?_);cases VF:xs[k]? with
 |none=>
  refine Á (wD hh (h1.at λo q=>k1 _ _ D.i1z q) (p1.at λo q=>k1 _ _ D.l1z q) VF λd e I L=>?_);obtain⟨oe,t,R⟩:=L;have z2:=I _ _ D.i1z.symm z1;have T:e≠z:=by rintro rfl;rw[z2]at t;cases t;exact absurd (show Value.type "zip"=Value.type "StopIteration" from R) (by decide)
  refine ŗ z2 ⋯ λS z3 J=>?_;exact hE _ _ (λc o O c2 Z c4 q=>(J.2 c O).trans (I _ _ Z (k1 c o O q))) ⟨oe,(J.2 e T).trans t,R⟩
 |some x=>
 refine Á (nU (h1.at λo q=>k1 _ _ D.i1z q) (p1.at λo q=>k1 _ _ D.l1z q) VF λd m1 I=>È ?_);have hy:ys[k]?=Æ:=by
  rcases F with F|F
  ·rw[VF]at F;cases F
  ·exact F
 have k2:∀c o,c≠z->c≠i1->s.heap.get? c=À o->d.get? c=À o:=λc o M U q=>(I.2 c U).trans (k1 c o M q);k_in;have UE:IsPair d TO a b:=k2 _ _ D.TOz D.TOi1 V;refine Á (ĭ UE rfl ?_);k_in;refine Á (aba UE λS e3 J=>?_);refine Á (aa6 (È ?_));have k3:∀c o,c≠z->c≠i1->c≠TO->s.heap.get? c=À o->S.get? c=À o:=λc o M U L q=>(J.2 c L).trans (k2 c o M U q);k_in;rw[Ŋ];k_get;k_in;refine Á (ab7 ?_);refine Á (wD hh (h2.at λo q=>k3 _ _ D.i2z D.i12.symm D.TOi2.symm q) (p2.at λo q=>k3 _ _ D.l2z D.l2i1 D.l2TO q) hy λYE e s4 L=>?_);obtain⟨oe,t,R⟩:=L;have z4:=s4 _ _ D.i2z.symm ((J.2 z D.TOz.symm).trans ((I.2 z D.i1z.symm).trans z1));have T:e≠z:=by rintro rfl;rw[z4]at t;cases t;exact absurd (show Value.type "zip"=Value.type "StopIteration" from R) (by decide)
 refine ŗ z4 ⋯ λRk z5 s5=>?_;exact hE _ _ (λc o O c2 Z c4 q=>(s5.2 c O).trans (s4 _ _ c4 (k3 c o O Z c2 q))) ⟨oe,(s5.2 e T).trans t,R⟩
end
section
theorem vA{TI TO:Addr}{k:Nat}{a b x y:Å}{xs:Array Å}{Q:Option Å->Ê->Prop}(D:ZipApart z TI TO i1 i2 l1 l2)(hz:IsZip s.heap z TI TO Value.none)(t:IsPair s.heap TI (.ref i1) (.ref i2))(d:IsPair s.heap TO a b)
  (O:rH t1 s.heap i1 l1 k) (M:rH t2 s.heap i2 l2 k) (T:ve t1 s.heap l1 xs) (U:ve t2 s.heap l2 ys) (I:xs[k]?=À x) (J:ys[k]?=À y)
  (V:∀h',IsZip h' z TI TO (rawInt s.heap.objs.size)->IsPair h' TO x y->rH t1 h' i1 l1 (k+1)->rH t2 h' i2 l2 (k+1)->IsPair h' s.heap.objs.size x y->h'.objs.size=s.heap.objs.size+1 ->
   (∀c o,c≠z->c≠TO->c≠i1->c≠i2->s.heap.get? c=À o->h'.get? c=À o)->Q (À (.ref s.heap.objs.size)) {s with heap:=h'}):
  Ú (model prog w) A (pyNext (.ref z)) Q E s:=by
 have F:s.TypeIs (.ref z) "zip":=⟨_,hz,rfl⟩;unfold pyNext;refine Á (aaj (þ (name:=ĥ "__next__") F abj (ÿ abj F adJ ?_ (adv _))));exact FA D hz t d O M T U I J λh' R S L Y a5 a6 Z=>È (V h' R S L Y a5 a6 Z)
theorem x9{TI TO:Addr}{k:Nat}{a b:Å}{xs:Array Å}{Q:Option Å->Ê->Prop}(O:A.handled=Æ)(D:ZipApart z TI TO i1 i2 l1 l2)(hz:IsZip s.heap z TI TO Value.none)(t:IsPair s.heap TI (.ref i1) (.ref i2))(d:IsPair s.heap TO a b)
  (M:rH t1 s.heap i1 l1 k) (L:rH t2 s.heap i2 l2 k) (S:ve t1 s.heap l1 xs) (U:ve t2 s.heap l2 ys) (J:xs[k]?=Æ\/ys[k]?=Æ)
  (V:∀h',(∀c o,c≠z->c≠TO->c≠i1->c≠i2->s.heap.get? c=À o->h'.get? c=À o)->Q Æ {s with heap:=h'}):
  Ú (model prog w) A (pyNext (.ref z)) Q E s:=by
 have F:s.TypeIs (.ref z) "zip":=⟨_,hz,rfl⟩;unfold pyNext;refine Á (aaj (þ (name:=ĥ "__next__") F abj (ÿ abj F adJ ?_ (adv _))));refine Jq O D hz t d M L S U J λh' e I R=>?_;refine Á (gV (T:="StopIteration") (v:=.ref e) R isSubtype_stop ?_);rw[Α rfl];exact È (V _ I)
noncomputable def Sf(tp:Bool)(l:Addr):Obj:={cls:=.type (if tp=Ã then "tuple_iterator" else "list_iterator"),data:=.fields #[.ref l,.int 0 0]}
theorem Jr{xs:Array Å}(h:ve tp s.heap l xs)(d:Q (.ref s.heap.objs.size) {s with heap:=s.heap.push (Sf tp l)}):Ú (model prog w) A (pyIter (.ref l)) Q E s:=by
 cases tp
 ·exact aaJ (show s.heap.IsList l xs from h) d
 ·exact Ű (show s.heap.IsTuple l xs from h) d
end
abbrev Sg(t:Bool)(h:Heap)(d:Addr):Heap:=h.push (Sf t d)
abbrev Rl(t D:Bool)(h:Heap)(d k:Addr):Heap:=(Sg t h d).push (Sf D k)
abbrev Rm(t1 t:Bool)(h:Heap)(l1 d:Addr):Heap:=(Rl t1 t h l1 d).push {cls:=.type "tuple",data:=.seq #[.ref h.objs.size,.ref (Sg t1 h l1).objs.size]}
abbrev Sh(t D:Bool)(h:Heap)(d k:Addr):Heap:=(Rm t D h d k).push {cls:=.type "tuple",data:=.seq #[.none,.none]}
abbrev VG(t1 t2:Bool)(h:Heap)(l1 l2:Addr):Heap:=(Sh t1 t2 h l1 l2).push {cls:=.type "zip",data:=.fields #[.none,.bool Ä,.bool Ä,.ref (Rl t1 t2 h l1 l2).objs.size,.ref (Rm t1 t2 h l1 l2).objs.size]}
theorem Cb(t1 t2:Bool)(l1 l2:Addr)(xs ys:Array Å):
  Meets (ŝ.«zip.__new__» ⟨[.type "zip",.ref l1,.ref l2],[]⟩) (λ_ R s=>ve t1 s.heap l1 xs/\ve t2 s.heap l2 ys /\
   R (.ok (.ret (.ref (Sh t1 t2 s.heap l1 l2).objs.size))) {s with heap:=VG t1 t2 s.heap l1 l2}):=
 .of_wp λprog w A R s h=>by obtain⟨D,t,h⟩:=h;have d:=sub_zip;have k:ve t2 (s.heap.push (Sf t1 l1)) l2 ys:=t.at λo q=>É _ q;unfold «Builtin».«zip.__new__»;k_get;unfold Builtin.SmallTypes.newClass;k_in;k_upd;rw[Β (by decide),d];k_upd;rw[Β (by decide)];refine È ?_;k_in;l_out;k_get;unfold Builtin.SmallTypes.iterAll;k_in;k_get;rw[Ŋ];refine Á (Á (ė (Jr D (È ?_))));k_in;rw[Ŋ];refine Á (Á (ė (Jr k (È ?_))));k_in;rw[acS];refine È (È ?_);refine Á (acT ?_ (by simp[sizeLine_eq]));refine Á (acT ?_ (by simp[sizeLine_eq]));k_get;unfold Builtin.SmallTypes.newRecord;k_in;exact ë (È ⟨_,rfl,h⟩) (by simp[sizeOk,sizeLine_eq,Builtin.SmallTypes.ownedTupleFields])
theorem FE{prog:ð}{w:Ć}{A:Around}{E:Å->Ê->Prop}{xs:Array Å}(U:ve t1 s.heap l1 xs)(T:ve t2 s.heap l2 ys)
  (h:∀h',IsZip h' (s.heap.objs.size+4) (s.heap.objs.size+2) (s.heap.objs.size+3) .none->IsPair h' (s.heap.objs.size+2) (.ref s.heap.objs.size) (.ref (s.heap.objs.size+1))->IsPair h' (s.heap.objs.size+3) .none .none ->
   rH t1 h' s.heap.objs.size l1 0->rH t2 h' (s.heap.objs.size+1) l2 0->h'.objs.size=s.heap.objs.size+5->(∀c o,s.heap.get? c=À o->h'.get? c=À o)->Q (.ref (s.heap.objs.size+4)) {s with heap:=h'}):
  Ú (model prog w) A (call (.type "zip") [.ref l1,.ref l2]) Q E s:=by
 refine callType_new F.called_zip (by decide) (F.typeCall_zip_2 _ _) (F.newCall_zip_2 _ _) (λJ=>F.args_object_init_3 J _ _) F.entry_zip_new
  (Cb t1 t2 l1 l2 xs ys) ⟨U,T,?_⟩
 have L:(Sg t1 s.heap l1).objs.size=s.heap.objs.size+1:=ā ..;have I:(Rl t1 t2 s.heap l1 l2).objs.size=s.heap.objs.size+2:=by rw[Rl,ā,L]
 have M:(Rm t1 t2 s.heap l1 l2).objs.size=s.heap.objs.size+3:=by rw[Rm,ā,I]
 have d:(Sh t1 t2 s.heap l1 l2).objs.size=s.heap.objs.size+4:=by rw[Sh,ā,M]
 have V:(VG t1 t2 s.heap l1 l2).objs.size=s.heap.objs.size+5:=by rw[VG,ā,d]
 have t:=Ð (Sh t1 t2 s.heap l1 l2) (o:={cls:=.type "zip",data:=.fields #[.none,.bool Ä,.bool Ä,.ref (Rl t1 t2 s.heap l1 l2).objs.size,.ref (Rm t1 t2 s.heap l1 l2).objs.size]}) rfl;have gO:=Ð (Rm t1 t2 s.heap l1 l2) (o:={cls:=.type "tuple",data:=.seq #[.none,.none]}) rfl;have D:=Ð (Rl t1 t2 s.heap l1 l2) (o:={cls:=.type "tuple",data:=.seq #[.ref s.heap.objs.size,.ref (Sg t1 s.heap l1).objs.size]}) rfl;have S:rH t2 (Rl t1 t2 s.heap l1 l2) (s.heap.objs.size+1) l2 0:=by have:=Ð (Sg t1 s.heap l1) (o:=Sf t2 l2) rfl;rw[L]at this;cases t2<;>exact⟨_,this,rfl,rfl⟩
 have R:rH t1 (Sg t1 s.heap l1) s.heap.objs.size l1 0:=by have:=Ð s.heap (o:=Sf t1 l1) rfl;cases t1<;>exact⟨_,this,rfl,rfl⟩
 replace t:IsZip (VG t1 t2 s.heap l1 l2) (s.heap.objs.size+4) (s.heap.objs.size+2) (s.heap.objs.size+3) .none:=by rw[IsZip,<- d,<- I,<- M];exact t
 replace gO:IsPair (Sh t1 t2 s.heap l1 l2) (s.heap.objs.size+3) .none .none:=by rw[IsPair,<- M];exact gO
 replace D:IsPair (Rm t1 t2 s.heap l1 l2) (s.heap.objs.size+2) (.ref s.heap.objs.size) (.ref (s.heap.objs.size+1)):=by rw[IsPair,<- I,<- L];exact D
 have k:∀{h:Heap}{O:Obj}{c:Addr}{o:Obj},h.get? c=À o->(h.push O).get? c=À o:=λq=>É _ q;refine⟨?_,?_⟩
 ·rw[d];exact⟨_,t,rfl⟩
 ·rw[d];exact h _ t (k (k D)) (k gO) (R.at λo q=>k (k (k (k q)))) (S.at λo q=>k (k (k q))) V λc o q=>k (k (k (k (k q))))
def Js(t:Bool)(K:Ì)(H:Hp)(a:Addr)(xs:X1):Prop:=if t=Ã then m8 K H a xs else ko K H a xs
section
variable{ys:X1}{t:Bool}
theorem _root_.L2.Inv.Cc(I:Inv X pins σ H s)(h:Js t X.K H a xs):∃its:List Å,Vals xs its/\ve t s.heap a its.toArray:=by
 cases t
 ·obtain⟨its,r,p,_⟩:=I.list (show ko X.K H a xs from h);exact⟨its,r,p.isList⟩
 ·obtain⟨its,r,p,_⟩:=I.tuple (show m8 X.K H a xs from h);exact⟨its,r,p⟩
theorem _root_.L2.Inv.zY(I:Inv X pins σ H s)(h:Js t X.K H a xs)(h':Js t X.K H a ys):xs=ys:=by
 cases t
 ·exact I.oH (show ko X.K H a xs from h) (show ko X.K H a ys from h')
 ·exact I.qu (show m8 X.K H a xs from h) (show m8 X.K H a ys from h')
theorem ve.lt(p:ve t h a its):a<h.objs.size:=by
 cases t
 ·obtain⟨o,e,_⟩:=(show h.IsList a its from p);exact Õ e
 ·obtain⟨o,e,_⟩:=(show h.IsTuple a its from p);exact Õ e
end
def Rn(K:Ì)(t d:Bool)(a b:Addr):It:=
 ⟨λi H=>∃xs ys x y,Js t K H a xs/\Js d K H b ys/\xs[i]?=À x/\ys[i]?=À y,λi H v H'=>∃x y p,(∀xs,Js t K H a xs->xs[i]?=À x)/\(∀ys,Js d K H b ys->ys[i]?=À y)/\H p=Æ/\v=.ref p/\H'=upd H p (.tup [x,y]),λi H=>∃xs ys,Js t K H a xs/\Js d K H b ys/\(xs.length<=i\/ys.length<=i)⟩
theorem FF{k:Nat}{pt:Pos}(t1 t2:Bool)(l1 l2 z TI TO t F:Addr)(D:ZipApart z TI TO t F l1 l2):Turn P w K (.Tuple es k pt) (Rn K t1 t2 l1 l2) [z,TI,TO,t,F] z
  (λi h=>IsZip h z TI TO .none/\IsPair h TI (.ref t) (.ref F)/\(∃a b,IsPair h TO a b)/\rH t1 h t l1 i/\rH t2 h F l2 i) where
 mem:=by simp
 obj:=λi h V c d=>by
  obtain⟨hz,hTI,⟨a,b,hTO⟩,R,O⟩:=V;simp only[Ù,ě,or_false]at d;rcases d with rfl|rfl|rfl|rfl|rfl
  ·exact⟨_,hz,λv e=>by cases e⟩
  ·exact⟨_,hTI,λv e=>by cases e⟩
  ·exact⟨_,hTO,λv e=>by cases e⟩
  ·exact R.get
  ·exact O.get
 keep:=λi h h' V U=>by obtain⟨hz,hTI,⟨a,b,hTO⟩,R,O⟩:=V;exact⟨U z ⋯ _ hz,U TI ⋯ _ hTI,⟨a,b,U TO ⋯ _ hTO⟩,R.at λo q=>U t ⋯ o q,O.at λo q=>U F ⋯ o q⟩
 item:=by
  intro X hP hw hK d i pins s σ H E I hf zu hg;obtain⟨hz,hTI,⟨a,b,hTO⟩,R,O⟩:=zu;kd_in;obtain⟨xs,ys,x,y,M,L,T,hy⟩:=hg;obtain⟨Cd,UG,p1⟩:=I.Cc M;obtain⟨its2,Si,p2⟩:=I.Cc L;obtain⟨u1,hu1,ru1⟩:=UG.get T;obtain⟨u2,hu2,Xe⟩:=Si.get hy;have lt:∀{c o},s.heap.get? c=À o->c≠s.heap.objs.size:=λe=>á (Õ e);have Xf:t≠s.heap.objs.size:=by obtain⟨o,q,_⟩:=R.get;exact lt q
  have Xg:F≠s.heap.objs.size:=by obtain⟨o,q,_⟩:=O.get;exact lt q
  refine vA D hz hTI hTO R O p1 p2 (x:=u1) (y:=u2) ‹hu1› ‹hu2› λh' a1 a2 a3 a4 a5 a6 hk=>?_;refine⟨.ref s.heap.objs.size,rfl,?_⟩
  have I1:Inv X pins σ (upd H s.heap.objs.size (.tup [x,y])) {s with heap:=s.heap.push {cls:=.type "tuple",data:=.seq #[u1,u2]}}:=
   I.laid (t':=s.toks) (λb o q=>É _ q) (Ë _) ⟨by simp[sizeLine_eq],[u1,u2],.cons ru1 (.cons Xe .nil),aaK _ _⟩
  have S:=I.hok.fresh (Ë s.heap.objs.size);have hne:∀c∈[z,TI,TO,t,F],c≠s.heap.objs.size:=λc d=>by
   simp only[Ù,ě,or_false]at d;rcases d with rfl|rfl|rfl|rfl|rfl
   ·exact lt hz
   ·exact lt hTI
   ·exact lt hTO
   ·exact Xf
   ·exact Xg
  have Y:∀c∈[z,TI,TO,t,F],nG X pins (upd H s.heap.objs.size (.tup [x,y])) c:=λc d=>⟨by rw[aI (hne c d)];exact(hf c d).1,(hf c d).2⟩;refine wpAny_letOwnedTupleGo_zip (s:={s with heap:=h'}) a1 λh2' hz' J=>?_;have Xh:IsPair h' TI (.ref t) (.ref F):=hk _ _ D.TIz D.TITO D.TIi1 D.TIi2 hTI;refine⟨.ref s.heap.objs.size,_,sj (t':=s.toks) (s:={s with heap:=s.heap.push {cls:=.type "tuple",data:=.seq #[u1,u2]}}) (ch:=[z,TI,TO,t,F]) I1 (λc o d q=>?_) Y,rfl,⟨x,y,s.heap.objs.size,λzs hz=>by rw[I.zY hz M];exact T,λzs hz=>by rw[I.zY hz L];exact hy,S,rfl,rfl⟩,⟨hz',J.extBut _ _ D.TIz Xh,⟨_,_,J.extBut _ _ D.TOz a2⟩,a3.at λo q=>J.extBut _ _ D.i1z q,a4.at λo q=>J.extBut _ _ D.i2z q⟩,λc d=>(Y c d).1⟩;have c1:c≠z:=λq=>d (by simp[q]);have c2:c≠TO:=λq=>d (by simp[q]);have c3:c≠t:=λq=>d (by simp[q]);have c4:c≠F:=λq=>d (by simp[q]);refine J.extBut _ _ c1 ?_;by_cases Z:c=s.heap.objs.size
  ·subst Z;have:=Ð (o:={cls:=.type "tuple",data:=.seq #[u1,u2]}) s.heap rfl;rw[this]at q;o_rec;exact a5
  ·have q':(s.heap.push {cls:=.type "tuple",data:=.seq #[u1,u2]}).get? c=À o:=q;refine hk c o c1 c2 c3 c4 ?_
   rwa [ab0 _ _ _ Z]at q'
 done:=by
  intro X hP hw hK d i pins s σ H E I hf zu hg;obtain⟨hz,hTI,⟨a,b,hTO⟩,R,O⟩:=zu;kd_in;obtain⟨xs,ys,M,L,T⟩:=hg;obtain⟨Cd,UG,p1⟩:=I.Cc M;obtain⟨its2,Si,p2⟩:=I.Cc L;have hl1:=UG.length;have hl2:=Si.length;refine x9 (I.ok.hd d) D hz hTI hTO R O p1 p2 (by
   rcases T with T|T
   ·refine .inl ?_;simp;lia
   ·refine .inr ?_;simp;lia) λh' hk=>⟨rfl,sj (t':=s.toks) (ch:=[z,TI,TO,t,F]) I (λc o d q=>hk c o (λe=>d (by simp[e])) (λe=>d (by simp[e])) (λe=>d (by simp[e])) (λe=>d (by simp[e])) q) hf⟩
 self:=λ_ _ _ _ _ V h=>by obtain⟨hz,_⟩:=V;exact adK hz h
def b8(G:DH)(d:D):Option (Bool×X2):=match ak G d with
 |some (.lst xs)=>À (Ä,xs)
 |some (.tup xs)=>À (Ã,xs)
 |_=>Æ
def ny(d e:D):View:=λG i=>match b8 G d,b8 G e with
 |some (_,xs),À (_,ys)=>À (match xs[i]?,ys[i]? with
  |some x,À y=>À (.tup [x,y])
  |_,_=>Æ)
 |_,_=>Æ
def zZ(m:DS->M X2):MI:=λτ=>(m τ).bind λds=>match ds with
 |[d,e]=>λG=>match b8 G d,b8 G e with
  |some (_,xs),À (_,ys)=>.ok (min xs.length ys.length+1,ny d e) G
  |_,_=>.stuck
 |_=>M.stop
section
variable{iter a b:Expr}{mi:MI}{p:Pos}
theorem tY{pins:N0}{σ0:L2.St}{s:Ê}{d:D}{x:V}{t:Bool}(h:fE X.K X.mg H ρ G)(r:Rep X.K X.mg ρ H d x)(e:b8 G d=À (t,ds)):
  ∃p xs,x=.ref p/\Js t X.K H p xs/\ao X.K X.mg ρ H ds xs:=by
 unfold b8 at e;cases q:ak G d with
 |none=>f_int
 |some k=>
  rw[q]at e;cases k with
  |lst zs=>w_up;obtain⟨p,xs,I,F,J⟩:=bG (pins:=pins) (σ0:=σ0) (s:=s) h r q;exact⟨p,xs,I,F,J⟩
  |tup zs=>w_up;obtain⟨p,xs,I,F,J⟩:=eW r q;exact⟨p,xs,I,F,J⟩
  |str z=>w_up
theorem DI{d:D}{x:V}{t:Bool}(r:Rep X.K X.mg ρ H d x)(h:fE X.K X.mg H ρ G)(e:b8 G d=À (t,ds)):
  ∃p xs,x=.ref p/\Js t X.K H p xs/\ao X.K X.mg ρ H ds xs:=by
 unfold b8 at e;cases q:ak G d with
 |none=>f_int
 |some k=>
  rw[q]at e;cases k with
  |lst zs=>
   w_up;cases d with
   |con ds=>o_rec;k_dec;obtain⟨F,xs,e,s,r⟩:=r;exact⟨F,xs,e,s.seq,r⟩
   |obj n=>obtain⟨F,rfl,e⟩:=(show ∃a,x=.ref a/\ρ[n]?=À a by unfold Rep at r;exact r);obtain⟨xs,J,I⟩:=Jh cQ.refl r h q;exact⟨F,xs,rfl,J,I⟩
   |_=>o_rec
  |tup zs=>w_up;obtain⟨p,xs,J,I,L⟩:=eW r q;exact⟨p,xs,J,I,L⟩
  |str z=>w_up
theorem wF{H H':Hp}{ρ ρ':Q1}{d:D}{l:Addr}{t t':Bool}(q:b8 G d=À (t,ds))(q':b8 G' d=À (t',ds')):t=t':=by
 unfold b8 at q q';cases d with
 |tup xs=>o_rec;cases q';rfl
 |con xs=>o_rec;cases q';rfl
 |obj n=>
  dsimp only[ak]at q q';have f:∀{G:DH}{t:Bool}{ds:X2},(match (match G[n]? with|some (.lst xs)=>À (TH.lst xs)|_=>Æ)with|some (.lst xs)=>À (Ä,xs)|some (.tup xs)=>À (Ã,xs)|_=>Æ)=À (t,ds)->t=Ä:=by
   intro G t ds h;cases g:G[n]? with
   |none=>rw[g]at h;cases h
   |some o=>cases o<;>(rw[g]at h;cases h)<;>rfl
  exact(f q).trans (f q').symm
 |_=>o_rec
theorem MU{d e:D}{es:X2}(r1:Rep X.K X.mg ρ H d (.ref l1))(r2:Rep X.K X.mg ρ H e (.ref l2))(k1:b8 G d=À (t1,ds))(k2:b8 G e=À (t2,es)):JV X.K X.mg (Rn X.K t1 t2 l1 l2) (ny d e) H ρ:=by
 intro i H' ρ' G' f hp;unfold ny;cases q1:b8 G' d with
 |none=>cb_eq
 |some s1=>
  cases q2:b8 G' e with
  |none=>cb_eq
  |some s2=>
     obtain⟨u1,zs⟩:=s1;obtain⟨u2,ws⟩:=s2;have J:=wF (H:=H) (H':=H') (ρ:=ρ) (ρ':=ρ') (l:=l1) k1 q1;have L:=wF (H:=H) (H':=H') (ρ:=ρ) (ρ':=ρ') (l:=l2) k2 q2;subst J L;k_in;obtain⟨p1,xs,y1,V,Y⟩:=DI (r1.mono f) hp q1;obtain⟨p2,ys,y2,S,Z⟩:=DI (r2.mono f) hp q2;cases y1;cases y2;have l1e:=Y.length;have l2e:=Z.length;cases h1:zs[i]? with
     |none=>refine⟨λ_=>⟨xs,ys,V,S,.inl ?_⟩,λx e=>(by cases e)⟩;rw[Č]at h1;lia
     |some x=>
      cases h2:ws[i]? with
      |none=>refine⟨λ_=>⟨xs,ys,V,S,.inr ?_⟩,λx e=>(by cases e)⟩;rw[Č]at h2;lia
      |some y=>refine⟨λe=>(by cases e),λt e=>?_⟩;w_up;obtain⟨U,I,UG⟩:=Y.get h1;obtain⟨M,F,Si⟩:=Z.get h2;refine⟨⟨xs,ys,U,M,V,S,I,F⟩,λv H2 hy=>?_⟩;obtain⟨x',y',pp,T,R,k,rfl,rfl⟩:=hy;have J:=T xs V;rw[I]at J;cases J;have L:=R ys S;rw[F]at L;cases L;have O:cQ X.K H' (upd H' pp (.tup [U,M])) ρ' ρ':=cJ k ρ';refine⟨⟨O,λG hG=>hG.new k⟩,?_⟩;unfold Rep;exact⟨pp,[U,M],rfl,.of bz,.cons (UG.mono O) (.cons (Si.mono O) .nil)⟩
theorem MV{k:Nat}{pt:Pos}(hm:X.mg "zip"=Æ)(v7:Gl X "zip")(ha:QA X EE [a,b] m)(h:aq [a,b]=Ã):QI X EE (.Tuple es k pt) (.Call (.Name "zip" p) [a,b] [] pc) (zZ m):=by
 have h':bT a=Ã/\aq [b]=Ã:=by simpa[aq]using h
 intro pins s L H R I hq;obtain⟨τ,ρ,G,ab,ok⟩:=hq;dsimp only[zZ,M.bind]at ok;refine Ĉ (iS I v7 hm boot_zip ?_ (by decide) (by decide));have hA:lN X.K X.mg EE m L H λvs F=>∃t G1 ds,Ab X.K X.mg L F τ t G1/\cQ X.K H F ρ t/\ao X.K X.mg t F ds vs/\m τ G=.ok ds G1:=by
  nofun;cases e:m τ G with
  |stuck=>right
  |bP c G'=>right
  |ok ds G'=>exact λvs H' ρ' f aZ r=>⟨ρ',G',ds,aZ,f,r,rfl⟩
 refine ă (dO (ha pc pins s L H _ I hA) λus s1 zh=>?_) (bx h'.1 _ _) (bA h'.2);obtain⟨vs,F,S,r1,t,G1,ds,U,f1,J,em⟩:=zh;rw[em]at ok;ac_nf
 match ds,J,ok with
 |[],_,ok=>left
 |[_],_,ok=>left
 |_::_::_::_,_,ok=>left
 |[d,e],J,ok=>
  unfold ao at J;obtain⟨x,rest,rfl,rx,J⟩:=J;obtain⟨y,rfl,ry⟩:=f7 J;cases r1 with
  |cons ru rr=>
  rename_i u us';obtain⟨u2,rfl,Xe⟩:=vals1 rr;ac_nf;cases q:b8 G1 d with
  |none=>kj_on
  |some sk=>
   cases q2:b8 G1 e with
   |none=>rw[q,q2]at ok;left
   |some Y=>
      rw[q,q2]at ok;ac_nf;obtain⟨t1,zs⟩:=sk;obtain⟨t2,ws⟩:=Y;obtain⟨l,ys,rfl,sq,rv⟩:=tY (pins:=pins) (σ0:=L) (s:=s1) U.hp rx q;obtain⟨T,ys2,rfl,Sj,Si⟩:=tY (pins:=pins) (σ0:=L) (s:=s1) U.hp ry q2;cases ru;cases Xe;obtain⟨its,vv,pl⟩:=S.Cc sq;obtain⟨its2,vv2,YI⟩:=S.Cc Sj;refine FE pl YI λh2 b1 b2 b3 b4 b5 hsz kp=>?_;refine adK (s:={s1 with heap:=h2}) b1 ?_;have I2:Inv X pins L F {s1 with heap:=h2}:=S.kept (t':=s1.toks) kp;have ll:l<s1.heap.objs.size:=pl.lt;have V:T<s1.heap.objs.size:=YI.lt;have ll':(l:Nat)<s1.heap.objs.size:=ll;have aai:(T:Nat)<s1.heap.objs.size:=V;have D:ZipApart (s1.heap.objs.size+4) (s1.heap.objs.size+2) (s1.heap.objs.size+3) s1.heap.objs.size (s1.heap.objs.size+1) l T:=by constructor<;>(intro q;simp only[Addr]at *;lia)
      refine⟨s1.heap.objs.size+4,_,_,Rn X.K t1 t2 l T,F,rfl,I2,FF t1 t2 l T _ _ _ _ _ D,⟨b1,b2,⟨_,_,b3⟩,b4,b5⟩,λc Z=>?_,ok _ F t f1 U (MU rx ry q q2)⟩;have O:s1.heap.objs.size<=c:=by simp only[Ù,ě,or_false]at Z;rcases Z with rfl|rfl|rfl|rfl|rfl<;>lia
      exact S.sN O (S.hok.fresh O)
end
def pG:D->Option (List Key)
 |.tup ds=>cu i6 ds
 |_=>Æ
noncomputable def Ce:Key->D
 |.inl i=>.int i
 |.inr x=>.str x
section
theorem z8:∀{ds:X2}{xs:X1}{ks:List Key},ao K mg ρ H ds xs->cu i6 ds=À ks->xs=ks.map kV
 |[],xs,ks,r,e=>by unfold ao at r;subst r;w_up;rfl
 |d::ds,xs,ks,r,e=>by
  unfold ao at r;obtain⟨v,vs,rfl,D,t⟩:=r;unfold cu at e;cases q1:i6 d with
  |none=>rw[q1]at e;w_up
  |some k=>
   cases q2:cu i6 ds with
   |none=>rw[q1,q2]at e;w_up
   |some r=>rw[q1,q2]at e;w_up;rw[pF D q1,z8 t q2];rfl
theorem pH{d:D}{ks:List Key}(r:Rep K mg ρ H d v)(e:pG d=À ks):∃b,v=.ref b/\H b=À (.tup (ks.map kV)):=by
 cases d with
 |tup ds=>k_dec;obtain⟨a,xs,rfl,t,k⟩:=r;exact⟨a,rfl,by rw[<- z8 k e];exact t⟩
 |_=>w_up
theorem z9:∀(ks:List Key),ao K mg ρ H (ks.map Ce) (ks.map kV)
 |[]=>.nil
 |k::ks=>.cons (by cases k<;>(unfold Rep;rfl)) (z9 ks)
def MW(d:Bool)(H:Hp)(a:Addr)(u:List (List Key×V)):Prop:=if d=Ã then ∃o,H a=À (.eB o (.dT u)) else H a=À (.dT u)
theorem MW.rd{d:Bool}(h:MW d H a u):Rd H a (.dT u):=by
 cases d
 ·exact .inl h
 ·exact .inr h
theorem fE.aO{d:Bool}(h:fE K mg H ρ G)(e:G[n]?=À (.aO d kvs)):∃a xs,ρ[n]?=À a/\MW d H a ((kvs.map (·.1)).zip xs)/\ao K mg ρ H (kvs.map (·.2)) xs:=by obtain⟨a,k,xs,t,r⟩:=h.ob n _ e;exact⟨a,xs,k,t,r⟩
theorem lY{p:Addr}(d:H p=À (.dT u))(ρ:Q1):cQ K H (upd H p ob) ρ ρ:=by
 refine⟨λa k h=>?_,λa q w h=>by rw[aI (d8 h d (by intro z;cases z))];exact h,⟨[],by simp⟩,λa φ h=>by rw[aI (d8 h d (by intro z;cases z))];exact h⟩
 ·rw[xQ]at h |-;rw[aI (d8 h d (by intro z;cases z))];l_fit
theorem fE.Oo{p:Addr}(h:fE K mg H ρ G)(d:H p=Æ):fE K mg (upd H p (.dT [])) (ρ++[p]) (G++[.aO Ä []]):=by
 have f:cQ K H (upd H p (.dT [])) ρ (ρ++[p]):=(cJ d ρ).trans (cX ρ p);refine⟨by simp[h.hl],?_,λn ob e=>?_⟩
 ·rw[Đ];refine⟨h.nd,by simp,λa I b J=>?_⟩;have e:b=p:=‹J›
  kpc_g;rintro rfl;exact h.not_mem d I
 ·by_cases L:n<G.length
  ·rw[Î L]at e;obtain⟨a,t,D⟩:=h.ob n ob e;exact⟨a,f.get t,D.mono f λu q=>by rw[aI (cO q d)];exact q⟩
  ·have F:n<(G++[DO.aO Ä []]).length:=(Â.mp e).1;have k:n=G.length:=by simp at F;lia
   subst k;rw[aB]at e;w_up;exact⟨p,by rw[<- h.hl,aB],[],bz,.nil⟩
theorem fE.Ro{t:Bool}{es:List (List Key×D)}{ys:X1}(h:fE K mg H ρ G)(F:ρ[n]?=À a)(J:H a=À (.dT u))
  (O:MW t (upd H a ob) a ((es.map (·.1)).zip ys)) (r:ao K mg ρ H (es.map (·.2)) ys):
  fE K mg (upd H a ob) ρ (G.set n (.aO t es)):=by
 have f:cQ K H (upd H a ob) ρ ρ:=lY J ρ;refine⟨by simp[h.hl],h.nd,λm o e=>?_⟩;by_cases d:n=m
 ·subst d;rw[ñ,Α rfl]at e;split at e
  ·w_up;exact⟨a,F,ys,O,r.mono f⟩
  ·w_up
 ·rw[Ô d]at e;obtain⟨b,k,I⟩:=h.ob m o e;have R:b≠a:=by rintro rfl;obtain⟨T,M⟩:=Â.mp F;obtain⟨S,L⟩:=Â.mp k;exact d ((ŀ h.nd).mp (M.trans L.symm))
  exact⟨b,k,I.mono f λu q=>by rw[aI R];exact q⟩
end
section
variable{f o i a:Expr}{apos tpos:Pos}{mf:Y2}
noncomputable def nV:Y2:=λ_ G=>.ok (.obj G.length) (G++[.aO Ä []])
theorem Jt:QE X EE (.Dict [] [] pos) nV:=PE.mono HA λt H Q ⟨τ,ρ,G,ab,k⟩=>λp d=>by refine k (.ref p) _ (ρ++[p]) ((cJ d ρ).trans (cX ρ p)) ⟨ab.st.mono ((cJ d ρ).trans (cX ρ p)),ab.hp.Oo d⟩ ?_;unfold Rep;exact⟨p,rfl,by rw[<- ab.hp.hl,aB]⟩
def lZ(d k:D):M D:=λG=>match d,pG k with
 |.obj n,À y=>match G[n]? with
  |some (.aO _ kvs)=>match aN kvs y with
   |some v=>.ok v G
   |none=>.stuck
  |_=>.stuck
 |_,_=>.stuck
def i9(t D:Y2):Y2:=λτ=>(t τ).bind λd=>(D τ).bind λk=>lZ d k
theorem MX(hu:X.A.units+600<cLine)(Z:QE X EE o mo)(U:QE X EE i mi)(hs:Hx i):QE X EE (.Subscript o i pos) (i9 mo mi):=by
 refine PE.mono (Dg ∅ Z U hs) λσ H Q zz=>?_;k_mem;nofun;dsimp only[i9,M.bind]at ok;cases e1:mo τ G with
 |stuck=>f_tup;k_end
 |bP c G'=>f_tup;k_end
 |ok d G1=>
  f_tup;ac_nf;intro vd H1 ρ1 L gY r1;kw_lk;cases e2:mi τ G1 with
  |stuck=>gp_on;k_end
  |bP c G'=>gp_on;exact λH' ρ' f S=>ok H' ρ' (L.trans f) S
  |ok k G2=>
   gp_on;dsimp only[lZ]at ok;intro vk V F I J T;cases d with
   |obj n=>
    cases ek:pG k with
    |none=>rw[ek]at ok;left
    |some y=>
     rw[ek]at ok;ac_nf;cases g:G2[n]? with
     |none=>o_new
     |some ob=>
      cases ob with
      |aO fz kvs=>
       room;ac_nf;have t:=r1.mono I;unfold Rep at t;obtain⟨p,rfl,ep⟩:=t;obtain⟨p',xs,R,eH,rs⟩:=J.hp.aO g;rw[ep]at R;cases R;obtain⟨b,rfl,Y⟩:=pH T ek;rcases jW y rs with⟨D,O⟩|⟨dv,v,D,O,z3⟩
       ·rw[D]at ok;left
       ·rw[D]at ok;exact⟨p,v,rfl,.inr ⟨_,y,b,eH.rd,rfl,Y,O.symm⟩,ok v V F (L.trans I) J z3⟩
      |_=>o_new
   |_=>left
def gc(v d k:D):M D:=λG=>match d,pG k with
 |.obj n,À y=>match G[n]? with
  |some (.aO Ä kvs)=>if kvs.length<Ç then .ok .bD (G.set n (.aO Ä (cF kvs y v))) else .stuck
  |_=>.stuck
 |_,_=>.stuck
theorem DJ{v d k:D}{O T R:V}{S:Hp->Prop}(ab:Ab X.K X.mg σ H τ ρ G)(rv:Rep X.K X.mg ρ H v O)(M:Rep X.K X.mg ρ H d T)(ri:Rep X.K X.mg ρ H k R)
  (F:gc v d k G≠.stuck)
  (I:∀r G' H',gc v d k G=.ok r G'->cQ X.K H H' ρ ρ->Ab X.K X.mg σ H' τ ρ G'->S H'):∃a H',T=.ref a/\sU H a R O H'/\S H':=by
 unfold gc at F I;cases d with
 |obj n=>
  cases ek:pG k with
  |none=>rw[ek]at F;exact(F rfl).elim
  |some y=>
   rw[ek]at I F;dsimp only at I F;cases g:G[n]? with
   |none=>rw[g]at F;exact(F rfl).elim
   |some ob=>
    cases ob with
    |aO fz kvs=>
     cases fz with
     |true=>rw[g]at F;exact(F rfl).elim
     |false=>
      rw[g]at I F;dsimp only at I F;unfold Rep at M;obtain⟨p,rfl,ep⟩:=M;obtain⟨p',xs,Y,J,U⟩:=ab.hp.aO g;rw[ep]at Y;cases Y;by_cases L:kvs.length<Ç
      ·rw[Α L]at I;obtain⟨b,rfl,eb⟩:=pH ri ek;obtain⟨ys,ey,Z⟩:=zV y rv U;refine⟨p,_,rfl,sU.t J eb ?_,?_⟩
       ·have:=U.length;simp at this;simp[<- this];exact L
       ·rw[ey];exact I _ _ _ rfl (lY J ρ) ⟨ab.st.mono (lY J ρ),ab.hp.Ro ep J bz Z⟩
      ·rw[Β L]at F;exact(F rfl).elim
    |_=>rw[g]at F;exact(F rfl).elim
 |_=>exact(F rfl).elim
def jE(k t d:Y2):MS:=λτ=>bI ((k τ).bind λv=>(t τ).bind λo=>(d τ).bind λi=>gc v o i) (λ_ G=>.nx τ G) λc G=>.xn c τ G
theorem Ju(hu:X.A.units+600<cLine)(R:QE X EE a mv)(S:QE X EE o mo)(J:QE X EE i mi)(h:nQ a=Ã):QS X EE (.Assign [.Subscript o i tpos] a pos) (jE mv mo mi):=
 PS.mono (Dh ∅ S J R (oX h _ _ _)) λZ σ H zz=>by
  k_mem;nofun;dsimp only[jE,bI,M.bind]at ok;cases e1:mv τ G with
  |stuck=>f_tup;k_end
  |bP c G'=>f_tup;k_not
  |ok v G1=>
   f_tup;intro V Y ρ1 F gY T;kw_lk;ac_nf;cases e2:mo τ G1 with
   |stuck=>gp_on;k_end
   |bP c G'=>gp_on;exact λH' ρ' f aZ=>ok σ H' ρ' (F.trans f) aZ
   |ok ov G2=>
    gp_on;intro vo H2 D d L I;refine⟨τ,D,G2,L,?_⟩;ac_nf;cases e3:mi τ G2 with
    |stuck=>ks_is;k_end
    |bP c G'=>ks_is;exact λH' ρ' f aZ=>ok σ H' ρ' ((F.trans d).trans f) aZ
    |ok iv G3=>ks_is;intro vi H3 t k O U;ac_nf;refine DJ O (T.mono (d.trans k)) (I.mono k) U (λq=>by rw[q]at ok;exact ok.elim) λr G' H' q f aZ=>?_;k_is;exact ok σ H' t (((F.trans d).trans k).trans f) aZ
end
section
theorem Jv(I:Inv X pins σ H s)(e:H a=À (.dT u))(J:s.heap.get? a=À o):Inv X pins σ (upd H a (.eB o (.dT u))) s:=by
 refine I.un (H':=upd H a (.eB o (.dT u))) (h':=s.heap) (t':=s.toks) ⟨λb o q _ _ _=>q,λb o q _ _ _=>⟨o.slots,q⟩,λb o q d _=>?_,λb o q _=>⟨o,q⟩,λb ys q=>?_,λb o u q=>?_,λb L q=>⟨#[],?_⟩⟩ λb F q=>?_
 ·rw[aI (by rintro rfl;rw[e]at d;cases d)];exact d
 ·rw[aI (d8 q e (by intro z;cases z))];exact q
 ·rw[aI (d8 q e (by intro z;cases z))];exact q
 ·rw[aI (d8 q e (by intro z;cases z)),q];simp
 ·have k:∀c y,H c=À (.own y)->upd H a (.eB o (.dT u)) c=À (.own y):=λc y w=>by rw[aI (d8 w e (by intro z;cases z))];exact w
  have t:∀c ys,H c=À (.tup ys)->upd H a (.eB o (.dT u)) c=À (.tup ys):=λc ys w=>by rw[aI (d8 w e (by intro z;cases z))];exact w
  by_cases D:b=a
  ·subst D;rw[bz]at q;o_rec;exact⟨J,(I.hok b _ e).stay (λ_ _ _ w=>w) (λc w=>k c b w) t⟩
  ·rw[aI D]at q;exact(I.hok b F q).stay (λ_ _ _ w=>w) (λc w=>k c b w) t
end
theorem ya(I:Inv X pins σ H s)(e:H a=À (.eB o (.dT u))):
  s.heap.get? a=À o/\(a==sysModules)=Ä/\o.ExactDict/\∃es ep,o.data=.dict es ep/\es.size=u.length/\∀(i:Nat) k v,u[i]?=À (k,v)->∃M b,es[i]?=À M/\M.key=.ref b/\H b=À (.tup (k.map kV)):=by
 obtain⟨L,z,y,xs,r,o',es,ep,J,S,U,O,h6⟩:=(show cU X.prog X.w H s.heap a (.eB o (.dT u)) from I.hok a _ e);rw[L]at J;cases J;have Y:u.length=xs.length:=aag r;refine⟨L,y,S,es,ep,U,?_,λi k v d=>?_⟩
 ·have:=congrArg aa3 O;simp at this;lia
 ·have F:∀{l:List (List Key×V)}{m:List (List Key×Addr×Å)},KT H l m->∀(i:Nat) k v,l[i]?=À (k,v)->∃q,m[i]?=À q/\H q.2.1=À (.tup (k.map kV)):=by
   intro l m q
   induction q with
   |nil=>intro i k v d;simp at d
   |@cons p q ps Z D t R=>
    intro i k v d;cases i with
    |zero=>simp at d;subst d;exact⟨q,rfl,D.2.1⟩
    |succ i=>exact R i k v ‹d›
  obtain⟨q,D,T⟩:=F r i k v d;refine⟨entryOfKey (tupleKind (cC X.prog X.w)) q,q.2.1,?_,rfl,T⟩;have:es.toList[i]?=À (entryOfKey (tupleKind (cC X.prog X.w)) q):=by rw[O,Þ,D];rfl
  f_are
def UH(o:Obj)(a:Addr)(u:List (List Key×V)):It:=
 ⟨λi H=>H a=À (.eB o (.dT u))/\i<u.length,λi H y H'=>H'=H/\∃b k v,y=.ref b/\u[i]?=À (k,v)/\H b=À (.tup (k.map kV)),λi H=>H a=À (.eB o (.dT u))/\u.length<=i⟩
theorem Cg(st:h.IsKeyIter it a i n ep)(k:∀o,h.get? it=À o->h'.get? it=À o):h'.IsKeyIter it a i n ep:=by obtain⟨o,e,r⟩:=st;exact⟨o,k o e,r⟩
theorem Ci(o:Obj)(u:List (List Key×V))(a it:Addr)(ep:Nat)(es:Array DictEntry)(hd:o.data=.dict es ep):Turn P w K tg (UH o a u) [it] it (λi h=>h.IsKeyIter it a i es.size ep) where
 mem:=by simp
 obj:=λi h st b t=>by
  have e:b=it:=‹t›
  kpc_g;obtain⟨o,e,c,d⟩:=st;kst_p
 keep:=λi h h' st k=>Cg st λo e=>k it ⋯ o e
 item:=by intro X hP hw hK hc i pins s R H E I hf st L;kd_in;obtain⟨J,F⟩:=L;obtain⟨h1,_,h2,M,vL,h3,Z,O⟩:=ya I J;rw[hd]at h3;cases h3;obtain⟨en,b,g1,T,U⟩:=O i _ _ (by rw[Í F]);k_ne;refine tX st h1 h2 hd g1 λh' D S=>?_;have Y:Inv X pins R H {s with heap:=h'}:=I.turned (t':=s.toks) (λb o t e=>(S.2 b t).trans e) f0 f1 f3 f4 f5;obtain⟨o,e,c,d⟩:=id D;exact⟨_,rfl,vP (s:={s with heap:=h'}) e c d (by decide) ⟨.ref b,H,Y,T,⟨rfl,b,_,_,rfl,Í F,U⟩,D,λb t=>(hf b t).1⟩⟩
 done:=by intro X hP hw hK hc i pins s R H E I hf st L;kd_in;obtain⟨J,F⟩:=L;obtain⟨h1,_,h2,M,vL,h3,Z,O⟩:=ya I J;rw[hd]at h3;cases h3;k_ne;exact vq (I.ok.hd hc) st h1 h2 hd (by simp;lia) λh' eb=>⟨rfl,I.turned (t':=s.toks) (λb o t e=>eb b o t e) f0 f1 f3 f4 f5⟩
 self:=λ_ _ _ _ _ st h=>wpAny_pyIter_keyiter st h
def Cj(kvs:List (List Key×D)):View:=λ_ i=>if i<=kvs.length then À ((kvs[i]?).map λk=>.tup (k.1.map Ce)) else Æ
def Jw(m:Y2):MI:=λτ=>(m τ).bind λd G=>match d with
 |.obj n=>match G[n]? with
  |some (.aO _ kvs)=>.ok (kvs.length+1,Cj kvs) (G.set n (.aO Ã kvs))
  |_=>.stuck
 |_=>.stuck
theorem MY(L:kvs.length=xs.length)(e:H0 a=À (.eB o (.dT ((kvs.map (·.1)).zip xs)))):JV K mg (UH o a ((kvs.map (·.1)).zip xs)) (Cj kvs) H0 ρ0:=by
 intro i H ρ G f S;have F:=f.eB a _ _ e;have hz:((kvs.map (·.1)).zip xs).length=kvs.length:=by simp[L]
 unfold Cj;constructor
 ·intro q;by_cases t:i<=kvs.length
  ·rw[Α t]at q;cases g:kvs[i]? with
   |some kv=>rw[g]at q;o_rec
   |none=>have:=Č.mp g;exact⟨F,∅⟩
  ·rw[Β t]at q;o_rec
 ·intro d q;by_cases t:i<=kvs.length
  ·rw[Α t]at q;cases g:kvs[i]? with
   |none=>rw[g]at q;o_rec
   |some kv=>
    rw[g]at q;o_rec;obtain⟨O,_⟩:=Â.mp g;refine⟨⟨F,∅⟩,λy H' M=>?_⟩;obtain⟨rfl,b,k,v,rfl,D,R⟩:=M;have J:k=kv.1:=by rw[abP]at D;rw[Þ,g]at D;exact(é D.1).symm
    subst J;refine⟨⟨cQ.refl,λG I=>I⟩,?_⟩;unfold Rep;exact⟨b,_,rfl,R,z9 kv.1⟩
  ·rw[Β t]at q;o_rec
section
variable{m:Y2}
theorem MZ(ha:QE X EE e m):QI X EE tg e (Jw m):=by
 intro pins s J H R I hq;obtain⟨τ,ρ,G,ab,ok⟩:=hq;dsimp only[Jw,M.bind]at ok;have hA:cE X.K X.mg EE m J H λv F=>∃k G1 d,Ab X.K X.mg J F τ k G1/\cQ X.K H F ρ k/\Rep X.K X.mg k F d v/\m τ G=.ok d G1:=by
  nofun;cases e:m τ G with
  |stuck=>right
  |bP c G'=>right
  |ok d G'=>exact λv H' ρ' f aZ r=>⟨ρ',G',d,aZ,f,r,rfl⟩
 refine dO (ha pins s J H _ I hA) λu s1 zh=>?_;obtain⟨v,F,T,ru,k,G1,d,O,f1,rd,em⟩:=zh;rw[em]at ok;ac_nf;cases d with
 |obj n=>
  ac_nf;cases g:G1[n]? with
  |none=>o_new
  |some ob=>
   cases ob with
   |aO fz kvs=>
    room;ac_nf;unfold Rep at rd;obtain⟨p,rfl,ep⟩:=rd;cases ru;obtain⟨p',xs,vL,D,rs⟩:=O.hp.aO g;rw[ep]at vL;cases vL;have hl:kvs.length=xs.length:=‹rs.length›
    have L:∀(o:Obj)(t:Hp),Inv X pins J t s1->t p=À (.eB o (.dT ((kvs.map (·.1)).zip xs)))->cQ X.K F t k k->fE X.K X.mg t k (G1.set n (.aO Ã kvs)) ->
      Ú (model X.prog X.w) X.A (pyIter (.ref p)) (Wf X pins J tg R) X.xe s1:=by
     intro o t S e2 V U;obtain⟨h1,h0,h2,es,YJ,Y,h4,h5⟩:=ya S e2;refine Fz h0 h1 h2 Y ?_;have I3:Inv X pins J t {s1 with heap:=s1.heap.push {cls:=.type "dict_keyiterator",data:=.fields #[.ref p,.int 0 0,.int es.size 0,.int YJ 0]}}:=S.kept (t':=s1.toks) λc o q=>É _ q;refine⟨s1.heap.objs.size,_,_,_,t,rfl,I3,Ci o _ p _ YJ es Y,⟨_,Ð _ rfl,rfl,rfl⟩,λc hc=>?_,ok _ t k (f1.trans V) ⟨O.st.mono V,U⟩ (MY hl e2)⟩;rw[ï.mp hc];exact S.sN (Ë _) (S.hok.fresh (Ë _))
    cases fz with
    |false=>
     obtain⟨o,hg⟩:∃o,s1.heap.get? p=À o:=by obtain⟨_,_,_,_,o,_,_,h,_⟩:=(show cU X.prog X.w F s1.heap p (.dT _) from T.hok p _ D);exact⟨o,h⟩
     exact L o _ (Jv T D hg) bz (lY D k) (O.hp.Ro ep D ⟨o,bz⟩ rs)
    |true=>
     obtain⟨o,D⟩:=D;refine L o _ T D cQ.refl ?_;have:G1.set n (.aO Ã kvs)=G1:=by
      apply Ĕ;intro j;by_cases Z:n=j
      ·subst Z;rw[ñ,Α rfl,Α (Â.mp g).1,g]
      ·rw[Ô Z]
     rw[this];exact O.hp
   |_=>o_new
 |_=>left
end
section
open PyProof.Rows
end
theorem kM{i j:Int}:ay (.int i) (.int j) G=.ok (.int (i+j)) G:=î rfl rfl
section
variable{ma mb:Y2}
@[simp]def YK:TU ma mb τ G=(ma τ G).bd λd=>match d with
 |.bl Ä=>mb τ
 |.bl Ã=>M.ret (.bl Ã)
 |_=>M.stop:=aJ
@[simp]def Jx:EU ma mb τ G=(ma τ G).bd λd=>match d with
 |.bl Ã=>mb τ
 |.bl Ä=>M.ret (.bl Ä)
 |_=>M.stop:=aJ
theorem Cm{x:D}(k:gO x=À os)(d:tt (os.map À++mask ks τ) (G++[.lst acc])=.ok Ä (G++[.lst acc])):
  dg gO ks tt te G.length x τ (G++[.lst acc])=.ok () (G++[.lst acc]):=by
 simp only[dg,k,d]
theorem Aa{x v:D}(k:gO x=À os)(d:tt (os.map À++mask ks τ) (G++[.lst acc])=.ok Ã (G++[.lst acc]))(t:te (os.map À++mask ks τ) (G++[.lst acc])=.ok v (G++[.lst acc]))(hz:acc.length<Ç):
  dg gO ks tt te G.length x τ (G++[.lst acc])=.ok () (G++[.lst (acc++[v])]):=by
 simp only[dg,k,d,t,lS,Α hz,IP]
theorem bX{gO:D->Option X2}{ks:L9}{tt:DS->M Bool}{te:Y2}{F:Type}{own:F->X2}{dat f:F->D}{c:F->Bool}:∀(t:List F)(d:X2),d.length+t.length<=1000000->(∀x∈t,gO (dat x)=À (own x)) ->
  (∀x∈t,∀d,tt ((own x).map À++mask ks τ) (G++[.lst d])=.ok (c x) (G++[.lst d]))->(∀x∈t,∀d,te ((own x).map À++mask ks τ) (G++[.lst d])=.ok (f x) (G++[.lst d])) ->
  cK gO ks tt te G.length (t.map dat) τ (G++[.lst d])=.ok (.obj G.length) (G++[.lst (d++(t.filter c).map f)])
 |[],d,_,_,_,_=>by simp[cK]
 |x::t,d,L,I,O,R=>by
  have hz:d.length<Ç:=Ø (by simp at L;lia) (lz (n:=1000001) ∅);rw[Ï,cK];have J:=O x ⋯ d;cases hc:c x with
  |false=>rw[hc]at J;rw[Cm (I x ⋯) J];k_in;rw[bX t d (by simp at L;lia) (λq k=>I q (by simp[k])) (λq k=>O q (by simp[k])) (λq k=>R q (by simp[k])),Ŭ (by rw[hc];decide)]
  |true=>rw[hc]at J;rw[Aa (I x ⋯) J (R x ⋯ d) hz];k_in;rw[bX t (d++[f x]) (by simp at L |-;lia) (λq k=>I q (by simp[k])) (λq k=>O q (by simp[k])) (λq k=>R q (by simp[k])),ĳ hc];simp
end
section
open PyProof.Rows
end
section
variable{a b:Expr}{ma mb m:Y2}
def rJ(d e:D):M D:=λG=>match d,e with
 |.obj n,.int k=>match G[n]? with
  |some (.lst xs)=>if k<1000/\-1000<k/\xs.length*k.toNat<=Ç then aR (Ö k.toNat xs).flatten G else .stuck
  |_=>.stuck
 |_,_=>.stuck
theorem ao.rep(r:ao K mg ρ H ds vs):∀k:Nat,ao K mg ρ H (Ö k ds).flatten (Ö k vs).flatten
 |0=>.nil
 |k+1=>by rw[Ċ,Ņ,Ċ,Ņ];exact r.append (r.rep k)
theorem M0:gW X (binaryOp .Mult) (rD X EE rJ):=by
 z_go;k_asm
 rename_i n;cases e<;>try exact ok.elim
 rename_i k;dsimp only[rJ]at ok;cases g:G[n]? with
 |none=>o_new
 |some o=>
  cases o with
  |lst zs=>
   room;ac_nf;unfold Rep at r1 r2;subst r2;obtain⟨p,rfl,e1⟩:=r1;obtain⟨M,vs,e2,F,D⟩:=ab.hp.lst g;k_put;by_cases t:k<1000/\-1000<k/\zs.length*k.toNat<=Ç
   ·rw[Α t]at ok;obtain⟨L,J⟩:=jB ab (D.rep k.toNat) ok;exact Px pins s σ0 H _ _ v u Q I rx ry ⟨p,k,vs,rfl,rfl,F,∅,∅,by rw[<- D.length];exact t.2.2,J⟩
   ·rw[Β t]at ok;left
  |_=>o_new
theorem Rp(k:QE X EE a ma)(d:QE X EE b mb):QE X EE (.BinOp a .Mult b pos) (aj rJ ma mb):=rj M0 jO k d
def M1(g:kh)(τ:DS)(d:D)(G:DH):Res:=match g d τ with
 |some τ'=>.nx τ' G
 |none=>.stuck
def FG(g:kh)(m:Y2):MS:=λτ=>bI (m τ) (λd G=>M1 g τ d G) λc G=>.xn c τ G
theorem Rq(Y:QE X EE a ma)(hg:QG X tg g)(Z:swapsWithSole [tg] a pos.line X.env=pure Ä)(hw:swappedStores [tg] a X.env=pure Æ)(S:(assignEach [tg] X.env).map (·.2)=[assign tg X.env]):QS X EE (.Assign [tg] a pos) (FG g ma):=by
 intro pins s T H U I h;refine G8 Y hg Z hw S pins s T H U I ?_;have O:=sX (k:=λτ d G=>M1 g τ d G) h;obtain⟨τ,ρ,G,ab,ok⟩:=O;nofun;cases e:ma τ G with
 |stuck=>right
 |bP c G'=>right
 |ok d G'=>
  kt_k;intro v H' ρ' f J r;obtain⟨τ2,t,R,d2,M,L,aQ⟩:=ok v H' ρ' f J r;unfold M1 at aQ;cases eg:g d2 τ2 with
  |none=>rw[eg]at aQ;o_src
  |some F=>rw[eg]at aQ;exact⟨τ2,t,R,d2,F,M,L,eg,λD V=>aQ D H' t .refl V⟩
end
section
variable{e:Y2}{ml:DS->M X2}{d:D}
section
theorem pI:iA mv mo mi τ G=((mv τ G).bd λv=>(mo τ).bind λo=>(mi τ).bind λi=>kD v o i).xp τ:=by unfold iA bI Out.xp;rw[aJ];cases (mv τ G).bd λv=>(mo τ).bind λo=>(mi τ).bind λi=>kD v o i<;>rfl
theorem Rr:FG g e τ G=(e τ G).sb τ λd G=>M1 g τ d G:=by unfold FG bI Out.sb;cases e τ G<;>rfl
end
end
theorem M3{CX:vc}{k:Nat}{f:Addr}:lH P w K mg base CX k f fd ps (g9 K mg n (λ_=>M.stop)):=
 ⟨λvs H Q E D=>by
  obtain⟨ds,ρ,G,J,I,L,t⟩:=D;exact t.elim,λA d s H F O vs Q E _ _ _ _ _ D=>by
  obtain⟨ds,ρ,G,J,I,L,t⟩:=D;exact t.elim⟩
def Ac(r:Out D):Out D:=match r with
 |.bP _ _=>.stuck
 |r=>r
section
open PyProof.Rows
end
section
open PyProof.Rows
end
section
open PyProof.Rows
end
section
variable{o i:Expr}{p:Pos}
noncomputable def gf(G:DH):D->Option Y1
 |.obj n=>match G[n]? with
  |some (.dct kvs)=>À kvs
  |some (.R8 kvs)=>À kvs
  |_=>Æ
 |_=>Æ
theorem mV{d:D}{kvs:Y1}{x:V}(h:fE X.K X.mg H ρ G)(r:Rep X.K X.mg ρ H d x)(e:gf G d=À kvs):∃a xs,x=.ref a/\Rd H a (.dK ((kvs.map (·.1)).zip xs))/\ao X.K X.mg ρ H (kvs.map (·.2)) xs:=by
 cases d with
 |obj n=>
  k_dec;obtain⟨a,rfl,k⟩:=r;dsimp only[gf]at e;cases g:G[n]? with
  |none=>rw[g]at e;w_up
  |some ob=>
   cases ob with
   |dct kv=>rw[g]at e;w_up;obtain⟨t,xs,e1,e2,rs⟩:=h.dct g;rw[k]at e1;cases e1;exact⟨a,xs,rfl,.inl e2,rs⟩
   |R8 kv=>rw[g]at e;w_up;obtain⟨t,e1,xs,e2,rs⟩:=h.ob n _ g;rw[k]at e1;cases e1;exact⟨a,xs,rfl,.inr e2,rs⟩
   |_=>rw[g]at e;w_up
 |_=>w_up
def Jy(d k:D):M D:=λG=>match gf G d,i6 k with
 |some kvs,À y=>match aN kvs y with
  |some v=>.ok v G
  |none=>.stuck
 |_,_=>.stuck
def M4(t D:Y2):Y2:=λτ=>(t τ).bind λd=>(D τ).bind λk=>Jy d k
theorem Rt(hu:X.A.units+600<cLine)(U:QE X EE o mo)(S:QE X EE i mi)(V:Hx i):QE X EE (.Subscript o i pos) (M4 mo mi):=by
 refine PE.mono (Dg ∅ U S V) λσ H Q zz=>?_;k_mem;nofun;dsimp only[M4,M.bind]at ok;cases e1:mo τ G with
 |stuck=>f_tup;k_end
 |bP c G'=>f_tup;k_end
 |ok d G1=>
  f_tup;ac_nf;intro vd H1 ρ1 J gY Y;kw_lk;cases e2:mi τ G1 with
  |stuck=>gp_on;k_end
  |bP c G'=>gp_on;exact λH' ρ' f O=>ok H' ρ' (J.trans f) O
  |ok k G2=>
   gp_on;dsimp only[Jy]at ok;intro vk T D F I R;cases q:gf G2 d with
   |none=>kj_on
   |some kvs=>
    cases ek:i6 k with
    |none=>rw[q,ek]at ok;left
    |some y=>
     rw[q,ek]at ok;ac_nf;obtain⟨a,xs,rfl,eH,rs⟩:=mV I.hp (Y.mono F) q;have ev:=pF R ek;subst ev;rcases jW y rs with⟨t,L⟩|⟨dv,v,t,L,Z⟩
     ·rw[t]at ok;left
     ·rw[t]at ok;refine⟨a,v,rfl,?_,ok v T D (J.trans F) I Z⟩;exact .inl ⟨_,y,eH,rfl,L.symm⟩
def Cn(d e:D):M D:=λG=>match gf G e,i6 d with
 |some kvs,À y=>.ok (.bl (aN kvs y).isSome) G
 |_,_=>.stuck
theorem Ru(L:X.A.units+600<cLine):gW X (compareOp .In) (rD X EE Cn):=by
 z_go;dsimp only[Cn]at ok;cases q:gf G e with
 |none=>kj_on
 |some kvs=>
  cases ek:i6 d with
  |none=>rw[q,ek]at ok;left
  |some y=>
   rw[q,ek]at ok;obtain⟨a,xs,rfl,eH,D⟩:=mV ab.hp r2 q;have F:=pF r1 ek;subst F;cases ry;refine WC ∅ I (.inl ⟨_,y,eH,rfl,rfl⟩) rx λs' I'=>⟨.bl _,H,I',rfl,ok _ H ρ .refl ab ?_⟩;unfold Rep;rcases jW y D with⟨t,k⟩|⟨M,v,t,k,J⟩
   ·rw[t,k];rfl
   ·rw[t,k];rfl
end
theorem M5{d:Type}{a:List (d×V)}{b:List (d×Å)}(h:KV a b):a.map (·.1)=b.map (·.1):=by
 induction h with
 |nil=>rfl
 |cons h _ k=>rw[Ï,Ï,h.1,k]
theorem Jz{d:Type}{l:List (d×D)}(h:l.length=xs.length):((l.map (·.1)).zip xs).map (·.1)=l.map (·.1):=by rw[List.map_fst_zip];simp;lia
theorem M6{M:Model}{u:Å}{Q:Env->Ê->Prop}(O:scope.kind=.function)(T:scope.names.lookup y=À .local)
  (h:∀env,env=newEnv scope s.heap.objs.size gl (cellsFrom (s.heap.objs.size+1) scope.names []) qual func code Æ bi->∀F,InCallC s env.locals (bindL env.kindOf [(y,u)] λ_=>Æ) env.cells (bindC env.kindOf [(y,u)] λ_=>Æ) F->0<F.toks->Q env F):
  Ú M A (newFunctionEnv scope gl [] [(y,u)] qual func code Æ bi) Q E s:=by
 have e:newFunctionEnv scope gl [] [(y,u)] qual func code Æ bi=(newFunctionEnv scope gl [] [] qual func code Æ bi >>= λenv=>storeName env y u >>= λ_=>pure env):=by simp[newFunctionEnv]
 rw[e];refine Á (abE O ⋯ λenv d s1 x=>?_);have I:env.kindOf y=À .local:=by subst d;exact T
 have J:env.scope.kind=.function:=by subst d;exact O
 have t:env.locals=s.heap.objs.size:=by subst d;rfl
 refine Á (aaP I x.toInCall.ns (λh' D L=>È (h env d _ ⟨⟨?_,?_,λb o S=>?_,x.toInCall.fresh⟩,λn c R=>?_,x.apart,x.above⟩ (ý _))) (by rw[J];rfl))
 ·obtain⟨h1,V,k⟩:=x.toInCall.same;rw[k];exact⟨h',V+1,rfl⟩
 ·have q:(λz=>if z=y then À u else bindL env.kindOf [] (λ_=>Æ) z)=bindL env.kindOf [(y,u)] λ_=>Æ:=by funext z;simp[bindL,I]
  rw[<- q];exact D
 ·refine(L.2 b ?_).trans (x.toInCall.keep b o S);rw[t];exact á (Õ S)
 ·have q:=x.cell n c R;have U:c≠env.locals:=ž (x.above n c (mem_of_lookup R));have Y:bindC env.kindOf [(y,u)] (λ_=>Æ) n=bindC env.kindOf [] (λ_=>Æ) n:=by simp[bindC,I]
  rw[Y];obtain⟨o,k,Z⟩:=q;exact⟨o,(L.2 c U).trans k,Z⟩
section
variable{f:Addr}
theorem UI{st:Stmt}{k:Nat}{m:X2->M D}(F:LQ K x qual st f fd)(S:gX N [y] (au st))(hy:(au st).names.lookup y=À .local)(hN:N.length=nn)(hm:∀ds G,m ds G=Ac (cj nn ms ds G))
  (R:∀(X:Cx)(EE:bF)(L:Å)(A:Around)(t:List Env)(s:Ê)(H:Hp)(E:XK),X=rS (xV P w) P w K mg base N qual (au st) f L A t s H E->gE k (A.deeper (Ō qual (au st) s.heap.objs.size f L)) ->
   fJ X EE->PassesOwn (model P w) X.A X.env X.xe->qh X EE (bE st) ms):
  nk P w K mg base (xV P w) (k+1) f fd [y] (g9 K mg 1 m):=by
 subst hN;obtain⟨oc,od,kV,doc,pm,an,L,ct,osl,rfl,lk,hcd⟩:=F.ex;refine⟨λvs H Q E h=>h.len,λA t s H args us vs Q E hr Y hb r BI=>?_⟩;have hl:=BI.len;obtain⟨ds,ρ,G,hn,hp,rs,ok⟩:=BI;have KX:K.In s.heap:=Y.mod.OO.keeps λb o e=>(Y.bs b o e).1;have lim:s.heap.NoLimit:=Y.mod.nolimit.keeps λb o e=>(Y.bs b o e).1;have hul:us.length=1:=by rw[<- r.length];exact hl
 obtain⟨u,rfl⟩:=List.length_eq_one_iff.mp hul;refine codeAny_call_function hr.depth (KX _ _ lk) rfl S.co S.gen rfl (adg KX hcd) (hb _ _ _ _ ?_);refine M6 S.kind hy λenv he s1 x Z=>?_;subst he;refine⟨lim.keeps x.toInCall.keep,codeAny_func ?_⟩;have hB:=R _ (λ_ _ _=>False) L A t s H E rfl (hr.deeper _) (λ_ _ _ _ _ _ _ _ _ _ z=>z.elim) abZ;have I:Inv (rS (xV P w) P w K mg base N qual (au st) f L A t s H E) [] (L2.start N vs) H s1:=vV S hr.hd Y hl r x (n:=s1.toks) Z;have hq:iC K mg (λ_ _ _=>False) ms {nx:=λ_ H'=>Q .bD H',rt:=Q} (L2.start N vs) H:=by
  refine⟨ds.map À++Ö (N.length-ds.length) Æ,ρ,G,⟨nM rs,hp⟩,?_⟩;rw[hm]at ok;dsimp only[cj]at ok;cases q:ms (ds.map À++Ö (N.length-ds.length) Æ) G with
  |stuck=>k_is;k_end
  |nx τ G'=>k_is;exact λO H' ρ' f ab=>ok .bD H' ρ' f ab.hp (by unfold Rep;rfl)
  |rt d G'=>k_is;exact λv H' ρ' f hp r=>ok v H' ρ' f hp r
  |bk τ G'=>kj_on
  |ct τ G'=>kj_on
  |xn c τ G'=>kj_on
 refine Ă (hB [] s1 (L2.start N vs) H _ I hq) (λfl s' T=>?_) λe s' T=>T
 have U:∀{O:St}{H':Hp}{v:V}{u:Å},Inv (rS (xV P w) P w K mg base N qual (au st) f L A t s H E) [] O H' s'->RelV v u->Q v H'->CE t P w H s Q u s':=
  λ{O H' v u} J rv q=>⟨v,H',J.os,J.bare,J.base,J.hok,rv,q⟩
 cases fl with
 |ret u=>obtain⟨v,O,H',J,rv,q⟩:=T;exact U J rv q
 |next=>obtain⟨O,H',J,q⟩:=T;exact U (v:=V.bD) (u:=Value.none) J rfl q
 |brk=>obtain⟨_,_,_,q⟩:=T;exact Ģ q
 |cont=>obtain⟨_,_,_,q⟩:=T;exact Ģ q
end
structure oE where
 P:ð
 w:Ć
 K:Ì
 mg:Str->Option Å
 base:Heap
def gB(g:oE)(x:Str)(k n:Nat)(m:X2->M D):Prop:=∃f d t,lH g.P g.w g.K g.mg g.base (xV g.P g.w) k f d t (g9 g.K g.mg n m)/\g.mg x=À (.ref f)/\Ė g.K (.ref f)=Ã/\Binds g.K d t []
def UJ(g:oE)(x:Str):Prop:=∃f,g.mg x=À (.ref f)
noncomputable def Lm(x:Str):Bool:=!(x=="__debug__")&&!(x=="__classdict__")
noncomputable def tZ(d:Scope)(x:Str)(k:NameKind):Bool:=decide (d.names.lookup x=À k)
def Co(d:Scope)(N:P3):List (Option Str):=N.map λx=>if (tZ d x .local||tZ d x .cell||tZ d x .free)=Ã then À x else Æ
def FH(c:Bool)(d:Scope)(N:P3):List (Option Str):=N.map λx=>if (tZ d x .local||(c&&tZ d x .cell))=Ã then À x else Æ
def JA(d:Scope)(xs N:P3):List (Option Str):=xs.map À++N.map λx=>if tZ d x .free=Ã then À x else Æ
structure Cf(X:Cx)(EE:bF)(g:oE)(k:Nat)(B:P3)(sc:Scope)(V W:List (Option Str)):Prop where
 eq:X.prog=g.P/\X.w=g.w/\X.K=g.K/\X.mg=g.mg/\X.base=g.base
 vis:∀(i:Nat)(x:Str),V[i]?=À (À x)->X.N[i]?=À x/\GO X.env.scope x
 gl:∀x,tZ sc x .globalImplicit=Ã->Gl X x
 st:∀(i:Nat)(x:Str),W[i]?=À (À x)->X.N[i]?=À x/\Loc X.env.scope x/\(X.fn x=Ã\/X.env.scope.names.lookup x=À .local)
 bl:∀b,B.contains b=Ã->X.mg b=Æ
 hx:fJ X EE
 hr:gE k X.A
 hc:X.calm=Ã
structure Cs(X:Cx)(sc:Scope)(N:P3):Prop where
 nd:X.N.Nodup
 hf:lQ X
 po:PassesOwn (model X.prog X.w) X.A X.env X.xe
 hs:X.env.scope=sc
 hN:X.N=N
 bk:(X.env.blockKind==.function)=Ã
 stk:X.stack=X.env::X.outer
 ex:X.ex=[]
theorem cV{a b:Bool}(h:(a&&b)=Ã):a=Ã/\b=Ã:=‹h›
theorem ua(h:Lm x=Ã):DN x:=by obtain⟨k,d⟩:=cV h;exact⟨‹k›,‹d›⟩
theorem map_some{d:Type}{f:d->Bool}{l:List d}{x:d}(h:(l.map λx=>if f x=Ã then À x else Æ)[i]?=À (À x)):l[i]?=À x/\f x=Ã:=by
 rw[Þ]at h;cases e:l[i]? with
 |none=>rw[e]at h;cases h
 |some y=>
  rw[e]at h;dsimp only[Option.map]at h;by_cases q:f y=Ã
  ·rw[Α q]at h;cases h;exact⟨rfl,q⟩
  ·rw[Β q]at h;cases h
theorem pJ{k:NameKind}(h:tZ sc x k=Ã):sc.names.lookup x=À k:=of_decide_eq_true h
section
variable{g:oE}{k k':Nat}{B xs:P3}{V:List (Option Str)}{p:Pos}{a b elt iter:Expr}{ifs:U2}{ma:Y2}{mi:MI}
theorem Cf.hu(c:Cf X EE g k B sc V W):X.A.units+600<cLine:=Mp c.hr
theorem Cf.YL(c:Cf X EE g k B sc V W)(h:(decide (V[i]?=À (À x))&&Lm x)=Ã):(X.N[i]?=À x/\GO X.env.scope x)/\DN x:=⟨c.vis i x (of_decide_eq_true (cV h).1),ua (cV h).2⟩
theorem M7(c:Cf X EE g k B sc V W)(h:(decide (V[i]?=À (À x))&&Lm x)=Ã):QE X EE (.Name x pos) (aa i):=by obtain⟨⟨D,d⟩,t⟩:=c.YL h;exact QU i d t D
theorem gB.at(c:Cf X EE g k B sc V W)(C:gB g x k' n mf)(h:k'<=k):∃f d t,lH X.prog X.w X.K X.mg X.base (xV X.prog X.w) k' f d t (g9 X.K X.mg n mf)/\gE k' X.A/\X.mg x=À (.ref f)/\Ė X.K (.ref f)=Ã/\Binds X.K d t []:=by obtain⟨f,d,t,M,L,O,I⟩:=C;have r:=c.hr.mono h;obtain⟨D,J,F,S,R⟩:=c.eq;rw[D,J,F,S,R];exact⟨f,d,t,M,r,L,O,I⟩
theorem Ad(c:Cf X EE g k B sc V W)(C:gB g x k' n mf)(h:(decide (k'<=k)&&(tZ sc x .globalImplicit&&(Lm x&&aq (e::es))))=Ã)(D:QA X EE (e::es) m):QE X EE (.Call (.Name x p) (e::es) [] pos) (aF n mf m):=by obtain⟨O,h⟩:=cV h;obtain⟨M,h⟩:=cV h;obtain⟨R,F⟩:=cV h;obtain⟨f,S,T,t,I,d,J,L⟩:=C.at c (of_decide_eq_true O);exact Dv t I d J L (Mh c.hx) (c.gl x M) (ua R) D F
theorem Cp(c:Cf X EE g k B sc V W)(C:UJ g x)(h:(tZ sc x .globalImplicit&&Lm x)=Ã):QE X EE (.Name x pos) (eC (.fn x)):=by obtain⟨t,D⟩:=cV h;obtain⟨f,d⟩:=C;exact Uo (f:=f) (by rw[c.eq.2.2.2.1];exact d) (c.gl x t) (ua D)
def FJ(g:oE)(k n:Nat):List (Str×(X2->M D))->Prop
 |[]=>True
 |q::r=>(∃d,gB g q.1 d n q.2/\d<=k)/\FJ g k n r
theorem FJ.at(c:Cf X EE g k B sc V W):∀{l:List (Str×(X2->M D))},FJ g k n l->Q6 (xV X.prog X.w) X n l
 |[],h=>trivial
 |q::r,⟨⟨I,T,S⟩,L⟩=>by obtain⟨f,J,U,t,F,d,O,R⟩:=T.at c S;exact⟨⟨I,f,J,U,t,F,d,O,R⟩,FJ.at c L⟩
theorem FL{l:List (Str×(X2->M D))}(c:Cf X EE g k B sc V W)(C:FJ g k n l)(h:((decide (V[i]?=À (À x))&&Lm x)&&aq (e::es))=Ã)(I:QA X EE (e::es) m):QE X EE (.Call (.Name x p) (e::es) [] pos) (nR i n (λy=>ő y l) m):=by obtain⟨t,h⟩:=cV h;obtain⟨⟨F,J⟩,d⟩:=c.YL t;exact IE F J d (Ur (C.at c)) (Mh c.hx) I h
theorem Cf.Oq(c:Cf X EE g k B sc V W)(h:decide (W[i]?=À (À x))=Ã):X.N[i]?=À x/\Loc X.env.scope x/\(X.fn x=Ã\/X.env.scope.names.lookup x=À .local):=c.st i x (of_decide_eq_true h)
theorem M8(c:Cf X EE g k B sc V W)(s:Cs X scope N)(h:(decide (W[i]?=À (À x))&&nQ a)=Ã)(J:QE X EE a ma):QS X EE (.Assign [.Name x px] a pos) (aC i ma):=by obtain⟨D,d⟩:=cV h;obtain⟨F,I,t⟩:=c.Oq D;exact Q3 s.nd I J t F d
theorem JB(c:Cf X EE g k B sc V W)(s:Cs X scope N)(h:decide (W[i]?=À (À x))=Ã):QG X (.Name x pos) (gN i):=by obtain⟨t,D,d⟩:=c.Oq h;exact Mu s.nd D d t
theorem JC{q:Nat}(c:Cf X EE g k B sc V W)(s:Cs X scope N)(h:(decide (W[i]?=À (À x))&&decide (W[j]?=À (À y)))=Ã):QG X (.Tuple [.Name x px,.Name y py] q pos) (gP i j):=by obtain⟨F,d⟩:=cV h;obtain⟨I,J,t⟩:=c.Oq F;obtain⟨M,D,L⟩:=c.Oq d;exact MC c.hc s.nd J D t L I M
def M9(t:Expr)(xs:P3)(gO:D->Option X2):Prop:=(∃x p,t=.Name x p/\xs=[x]/\gO=oN)\/∃x y p q k r,t=.Tuple [.Name x p,.Name y q] k r/\xs=[x,y]/\gO=oT 2
theorem Sk{q:Pos}:M9 (.Name x q) [x] oN:=.inl ⟨_,_,rfl,rfl,rfl⟩
theorem Sl{q r:Pos}{k:Nat}:M9 (.Tuple [.Name x p,.Name y q] k r) [x,y] (oT 2):=.inr ⟨_,_,_,_,_,_,rfl,rfl,rfl⟩
theorem qI(c:X.calm=Ã)(h:M9 tg xs gO)(S:bw X.env.scope X.N scope xs ks):∃d,Own X scope xs ks tg d/\jC X.K X.mg d gO:=by
 rcases h with⟨x,p,rfl,rfl,rfl⟩|⟨x,y,p,q,k,r,rfl,rfl,rfl⟩
 ·exact⟨_,Il S,E8⟩
 ·exact⟨_,Im c S,Ip⟩
instance {a:Scope} {N:P3} {b:Scope} {xs:P3} {ks:L9}:Decidable (bw a N b xs ks):=
 decidable_of_iff (xs.Nodup/\b.kind=.function/\(∀y∈b.names,y.2≠.cell)/\(∀y∈b.names,y.2=.local->b.names.lookup y.1=À .local)/\(∀x∈xs,b.names.lookup x=À .local)/\(∀y∈b.names,y.2=.free->a.names.lookup y.1=À .cell\/a.names.lookup y.1=À .free)/\((ks.zip N).all λp=>!p.1||decide (b.names.lookup p.2=À .free))=Ã)
  ⟨λzz=>by obtain⟨a,b,c,d,e,f,g⟩:=zz;exact⟨a,b,c,d,e,f,g⟩,λzz=>by obtain⟨a,b,c,d,e,f,g⟩:=zz;exact⟨a,b,c,d,e,f,g⟩⟩
theorem sE{s0:Ê}{fp:Q1}(c:Cf X EE g k B sc V W)(s:Cs X sc N)(S:bw X.env.scope X.N scope xs ks)(D:fJ (oW X scope cl xs C pins s0 H0 fp E) Ii):
  Cf (oW X scope cl xs C pins s0 H0 fp E) Ii g k B scope (JA scope xs N) []:=by
 refine⟨c.eq,λi x h=>?_,λx h=>My (pJ h),λi x h=>by simp at h,c.bl,D,c.hr,c.hc⟩;unfold JA at h;by_cases q:i<xs.length
 ·rw[Î ‹q›,Þ]at h;cases e:xs[i]? with
  |none=>rw[e]at h;cases h
  |some z=>rw[e]at h;cases h;exact⟨by show(xs++X.N)[i]?=À x;rw[Î q,e],Q5 S (ç e)⟩
 ·rw[Ò ‹q›,Û]at h;obtain⟨t,d⟩:=map_some h;exact⟨by show(xs++X.N)[i]?=À x;rw[Ò ∅,s.hN,t],Mx S (pJ d)⟩
def Na(g:oE)(k:Nat)(B:P3)(d:Scope)(xs N:P3)(t:U2)(D:Expr)(tt:DS->M Bool)(te:Y2):Prop:=
 ∀(X:Cx)(EE:bF),Cf X EE g k B d (JA d xs N) []->(match t with
  |[]=>tt=dw
  |[c]=>QT X EE c tt
  |_=>False)/\QE X EE D te
theorem Xj(h:∀(X:Cx) (EE:bF),Cf X EE g k B scope (JA scope xs N) []->QE X EE elt te):Na g k B scope xs N [] elt dw te:=λX EE c=>⟨rfl,h X EE c⟩
theorem Xk(h:∀(X:Cx) (EE:bF),Cf X EE g k B scope (JA scope xs N) []->QT X EE a tt/\QE X EE elt te):Na g k B scope xs N [a] elt tt te:=h
theorem jY(c:Cf X EE g k B sc V W)(s:Cs X sc N)(S:bw X.env.scope X.N scope xs ks)(h:Na g k B scope xs N ifs elt tt te):jR X scope xs ifs elt tt te:=by
 match ifs,h with
 |[],h=>have e:tt=dw:=(h _ _ (sE (cl:=[]) (C:=0) (pins:=[]) (s0:=X.s₀) (H0:=X.H₀) (fp:=[]) (E:=λ_ _=>True) (Ii:=EE) c s S (λ_ _ _ _ _ _ _ _ _ _ _=>trivial))).1;kpc_g;exact Fb λcl C pins s0 H0 fp D d t=>(h _ _ (sE c s S t)).2
 |[_],h=>exact Fc λcl C pins s0 H0 fp D d t=>h _ _ (sE c s S t)
 |_::_::_,h=>exact((h _ _ (sE (cl:=[]) (C:=0) (pins:=[]) (s0:=X.s₀) (H0:=X.H₀) (fp:=[]) (E:=λ_ _=>True) (Ii:=EE) c s S (λ_ _ _ _ _ _ _ _ _ _ _=>trivial))).1).elim
theorem Cs.S(s:Cs X sc N)(h:bw sc N scope xs ks):bw X.env.scope X.N scope xs ks:=by rw[s.hs,s.hN];l_fit
theorem Ae(c:Cf X EE g k B sc V W)(s:Cs X sc N)(t:M9 tg xs gO)(S:bw sc N scope xs ks)(h:fL iter=Ã)(F:QE X EE iter ma)(D:Na g k B scope xs N ifs elt tt te):QE X EE (.ListComp elt [⟨tg,iter,ifs,0⟩] scope pos) (dJ gO ks ma tt te):=by obtain⟨_,d,I⟩:=qI c.hc t (s.S S);exact Mv c.hx s.hf (s.S S) d I c.hc F (jY c s (s.S S) D) h
theorem wG(c:Cf X EE g k B sc V W)(s:Cs X sc N)(t:M9 tg xs gO)(S:bw sc N scope xs ks)(h:fL iter=Ã)(F:QI X EE tg iter mi)(D:Na g k B scope xs N ifs elt tt te):QE X EE (.ListComp elt [⟨tg,iter,ifs,0⟩] scope pos) (gM gO ks mi tt te):=by obtain⟨_,d,I⟩:=qI c.hc t (s.S S);exact IL c.hx s.hf (s.S S) d I c.hc F (jY c s (s.S S) D) h
theorem uc(c:Cf X EE g k B sc V W)(s:Cs X sc N)(t:M9 tg xs gO)(S:bw sc N scope xs ks)(h:(B.contains "range"&&(tZ sc "range" .globalImplicit&&bT a))=Ã)(F:QA X EE [a] m)(D:Na g k B scope xs N ifs elt tt te):QE X EE (.ListComp elt [⟨tg,.Call (.Name "range" p) [a] [] px,ifs,0⟩] scope pos) (dD fc gO ks m tt te):=by obtain⟨_,d,I⟩:=qI c.hc t (s.S S);exact Fi c.hx s.hf (s.S S) d I c.hc (c.bl _ (cV h).1) (c.gl _ (cV (cV h).2).1) F (jY c s (s.S S) D) (cV (cV h).2).2
def VI(W:List (Option Str))(t d:Scope)(i:Nat)(y:Str)(D pos:Pos):Bool:=(decide (W[i]?=À (À y))&&tZ t y .local)&&((D.line==pos.line)&&!(d.names.any λx=>x.1==y&&(x.2==.local||x.2==.cell)))
theorem Cf.sw{l:Nat}(c:Cf X EE g k B sc V W)(s:Cs X sc N)(h:VI W sc scope i y py pos=Ã):X.env.scope.names.lookup y=À .local/\swapsWith (.ListComp elt gens scope pos) (À (.Name y py)) l X.env=pure Ã/\X.N[i]?=À y:=by
 obtain⟨d,t⟩:=cV h;have D:X.env.scope.names.lookup y=À .local:=by rw[s.hs];exact pJ (cV d).2
 exact⟨D,Fl s.bk D (cV t).1 (by simpa using(cV t).2),(c.Oq (cV d).1).1⟩
theorem Af(c:Cf X EE g k B sc V W)(s:Cs X sc N)(t:M9 tg xs gO)(S:bw sc N scope xs ks)(h:(VI W sc scope i y py pos&&fL iter)=Ã)(J:QE X EE iter ma)(F:Na g k B scope xs N ifs elt tt te):QS X EE (.Assign [.Name y py] (.ListComp elt [⟨tg,iter,ifs,0⟩] scope pos) spos) (aC i (dJ gO ks ma tt te)):=by obtain⟨_,D,L⟩:=qI c.hc t (s.S S);obtain⟨M,I,d⟩:=c.sw s (cV h).1;exact Mw c.hx s.hf (s.S S) D L c.hc s.nd M J (jY c s (s.S S) F) I d (cV h).2
theorem wH(c:Cf X EE g k B sc V W)(s:Cs X sc N)(t:M9 tg xs gO)(S:bw sc N scope xs ks)(h:(VI W sc scope i y py pos&&fL iter)=Ã)(J:QI X EE tg iter mi)(F:Na g k B scope xs N ifs elt tt te):QS X EE (.Assign [.Name y py] (.ListComp elt [⟨tg,iter,ifs,0⟩] scope pos) spos) (aC i (gM gO ks mi tt te)):=by obtain⟨_,D,L⟩:=qI c.hc t (s.S S);obtain⟨M,I,d⟩:=c.sw s (cV h).1;exact IM c.hx s.hf (s.S S) D L c.hc s.nd M J (jY c s (s.S S) F) I d (cV h).2
theorem ud(c:Cf X EE g k B sc V W)(s:Cs X sc N)(t:M9 tg xs gO)(S:bw sc N scope xs ks)(h:(VI W sc scope i y py pos&&(B.contains "range"&&(tZ sc "range" .globalImplicit&&bT a)))=Ã)(J:QA X EE [a] m)(F:Na g k B scope xs N ifs elt tt te):QS X EE (.Assign [.Name y py] (.ListComp elt [⟨tg,.Call (.Name "range" p) [a] [] px,ifs,0⟩] scope pos) spos) (aC i (dD fc gO ks m tt te)):=by obtain⟨_,D,L⟩:=qI c.hc t (s.S S);obtain⟨M,I,d⟩:=c.sw s (cV h).1;exact Fj c.hx s.hf (s.S S) D L c.hc s.nd M (c.bl _ (cV (cV h).2).1) (c.gl _ (cV (cV (cV h).2).2).1) J (jY c s (s.S S) F) I d (cV (cV (cV h).2).2).2
end
theorem yb(h:∀k,p [k]):∀d:List Å,d.length=1->p d:=λd e=>by rcases d with _|⟨k,_|⟨z,t⟩⟩<;>first|exact h k|(cases e;done)
theorem vB(h:∀t k,p [t,k]):∀d:List Å,d.length=2->p d:=λd e=>by rcases d with _|⟨t,_|⟨k,_|⟨z,D⟩⟩⟩<;>first|exact h t k|(cases e;done)
theorem vC(h:∀D k t,p [D,k,t]):∀d:List Å,d.length=3->p d:=λd e=>by rcases d with _|⟨D,_|⟨k,_|⟨t,_|⟨z,F⟩⟩⟩⟩<;>first|exact h D k t|(cases e;done)
theorem Ag(h:∀D k t F,p [D,k,t,F]):∀d:List Å,d.length=4->p d:=λd e=>by rcases d with _|⟨D,_|⟨k,_|⟨t,_|⟨F,_|⟨z,I⟩⟩⟩⟩⟩<;>first|exact h D k t F|(cases e;done)
theorem Ah(h:∀F t D I k,p [F,t,D,I,k]):∀d:List Å,d.length=5->p d:=λd e=>by rcases d with _|⟨F,_|⟨t,_|⟨D,_|⟨I,_|⟨k,_|⟨z,J⟩⟩⟩⟩⟩⟩<;>first|exact h F t D I k|(cases e;done)
abbrev JD:=Str×Nat×P3×Stmt
def yc(K:Ì)(k:Str->Option Å)(x:Str)(n:Nat)(N:P3)(st:Stmt):Prop:=∃f d,LQ K x x st f d/\k x=À (.ref f)
def pK(K:Ì)(d:Str->Option Å):List JD->Prop
 |[]=>True
 |(x,n,N,st)::r=>yc K d x n N st/\pK K d r
section
variable{st:Stmt}
theorem pK.at:∀{l:List JD}(T:pK K mg l)(i:Nat){x:Str}{n:Nat}{N:P3}{st:Stmt},l[i]?=À (x,n,N,st)->yc K mg x n N st
 |d::l,T,0,_,_,_,_,h=>by cases h;exact T.1
 |d::l,T,i+1,_,_,_,_,h=>pK.at T.2 i ‹h›
theorem pK.cons{l:List JD}(X:K.In h)(G:h.Ns mainGlobals mg){f:Addr}{J M:Option Addr}{L:Array (Option Å)}{F kV O D d I:Å}(a:Ŝ K mainGlobals x=À (À (.ref f)))
  (t:K.lookup f=À ⟨F,J,.func (Ą x x (c9 st) (bE st) (au st) .none kV O D M d I),L⟩) (c:Ŕ K d x=Ã) (k:Ė K (.ref f)=Ã) (r:pK K mg l):pK K mg ((x,n,N,st)::l):=⟨⟨f,_,Py t c k,ad8 X G a⟩,r⟩
def jZ(d:Str->Option Å):P3->Prop
 |[]=>True
 |x::r=>d x=Æ/\jZ d r
theorem jZ.cons{l:P3}(X:K.In h)(G:h.Ns mainGlobals mg)(a:Ŝ K mainGlobals x=À Æ)(r:jZ mg l):jZ mg (x::l):=⟨PySem.W.mg_none_of X G a,r⟩
theorem jZ.at:∀{l:P3},jZ mg l->∀b,l.contains b=Ã->mg b=Æ
 |x::l,T,b,h=>by
  rw[List.contains_cons]at h;cases e:b==x with
  |true=>rw[eq_of_beq e];exact T.1
  |false=>rw[e]at h;exact jZ.at T.2 b ‹h›
end
section
variable{g:oE}{k:Nat}{B:P3}{st:Stmt}{m:X2->M D}{c:xP}
def yd(st:Stmt)(x:Str)(F:P3):Prop:=∀(kV t J:Å)(L:Option Addr)(d I:Å)(D:List Å),D.length=F.length->bindArgs (Ą x x (c9 st) (bE st) (au st) .none kV t J L d I) ⟨D,[]⟩=pure (F.zip D)
theorem Rv(h:(Co sc N)[i]?=À (À x)):N[i]?=À x/\GO sc x:=by
 obtain⟨t,d⟩:=map_some (f:=λx=>tZ sc x .local||tZ sc x .cell||tZ sc x .free) h;refine⟨t,?_⟩;simp only[abg]at d;rcases d with(d|d)|d
 ·exact .inl (pJ d)
 ·exact .inr (.inl (pJ d))
 ·exact .inr (.inr (pJ d))
theorem Cq{f:Addr}{E:XK}(t:jZ mg B)
  (I:gE k (A.deeper (Ō x sc s.heap.objs.size f cdv))) (F:fJ (rS (xV P w) P w K mg base N x sc f cdv A outer s H E) EE):Cf (rS (xV P w) P w K mg base N x sc f cdv A outer s H E) EE ⟨P,w,K,mg,base⟩ k B sc (Co sc N) (FH Ã sc N):=by
 refine⟨⟨rfl,rfl,rfl,rfl,rfl⟩,λi x h=>Rv h,λx h=>pJ h,λi x h=>?_,t.at,F,I,rfl⟩;obtain⟨D,d⟩:=map_some (f:=λx=>tZ sc x .local||(Ã&&tZ sc x .cell)) h;refine⟨D,?_,.inl rfl⟩;simp only[abg,ł]at d;exact d.imp pJ pJ
theorem JE(h:sc.kind=.function):((if sc.kind.isAnnotationScope then adm else sc.kind)==adm)=Ã:=by rw[h];rfl
theorem mW(D:yc g.K g.mg x n N st)(O:jZ g.mg B)(S:gX N (N.take n) (au st))(t:(N.take n).length=n)(V:N.length=nn)(T:yd st x (N.take n))
  (body:∀(X:Cx)(EE:bF),Cf X EE g k B (au st) (Co (au st) N) (FH Ã (au st) N)->Cs X (au st) N->qh X EE (bE st) ms):gB g x (k+1) n (λds=>cj nn ms ds):=by
 obtain⟨f,J,F,R⟩:=D;refine⟨f,J,_,Zz (k:=k) (ms:=ms) F S t V (λ_=>rfl) ?_,R,F.kp,F.binds T⟩;intro X EE M A d s H E Y L I U;subst Y;exact body _ EE (Cq O L I) ⟨S.nd,⟨_,d,s.heap.objs.size,rfl,rfl,rfl⟩,U,rfl,rfl,JE S.kind,rfl,rfl⟩
theorem gB.pure(h:gB g x k n m):gB g x k n (eN m):=by obtain⟨f,d,F,D,t⟩:=h;exact⟨f,d,F,D.imp DC,t⟩
theorem gB.fresh(h:gB g x k n m):gB g x k n (iB m):=by obtain⟨f,d,F,D,t⟩:=h;exact⟨f,d,F,D.imp Je,t⟩
theorem yc.has(h:yc g.K g.mg x n N st):UJ g x:=by obtain⟨f,_,_,h⟩:=h;exact⟨f,h⟩
theorem JF{f:Addr}(F:LQ g.K x x st f fd)(J:jZ g.mg B)(S:gX N [y] (au st))(D:(au st).names.lookup y=À .local)(L:N.length=nn)
  (body:∀(X:Cx)(EE:bF),Cf X EE g k B (au st) (Co (au st) N) (FH Ã (au st) N)->Cs X (au st) N->qh X EE (bE st) ms):nk g.P g.w g.K g.mg g.base (xV g.P g.w) (k+1) f fd [y] (g9 g.K g.mg 1 (eN λds G=>Ac (cj nn ms ds G))):=by
 refine nk.imp (UI (k:=k) (ms:=ms) F S D L (λ_ _=>rfl) ?_) DC;intro X EE c A d s H E M I t U;subst M;exact body _ EE (Cq J I t) ⟨S.nd,⟨_,d,s.heap.objs.size,rfl,rfl,rfl⟩,U,rfl,rfl,JE S.kind,rfl,rfl⟩
theorem FN{f:Addr}(F:LQ K x x st f fd)(M:yd st x [y])(s:Ê)(u:Å):BindsTo s fd ⟨[u],[]⟩ [(y,u)]:=by obtain⟨R,S,kV,t,D,I,d,L,O,rfl,T,J⟩:=F.ex;exact .of_eq (M kV t D I d L [u] rfl)
end
noncomputable def Cr(o:Obj):Bool:=match o.cls,o.data with
 |.none,.fields _=>Ä
 |_,_=>Ã
abbrev fK(K:Params->Ì)(P:Params):Ì:=(K P).filter λp=>Cr p.2
section
theorem ja{a:Addr}{o:Obj}(k:Cr o=Ã):∀{K:Ì},K.lookup a=À o->(K.filter λp=>Cr p.2).lookup a=À o
 |(b,u)::K,h=>by
  rw[ą]at h;by_cases e:a=b
  ·kpc_g;rw[show(a==a)=Ã by simp]at h;cases h;rw[ĳ (by exact k),ą,show(a==a)=Ã by simp]
  ·have t:(a==b)=Ä:=beq_eq_false_iff_ne.mpr e;rw[t]at h;have d:=ja k h;by_cases q:Cr u=Ã
   ·rw[ĳ (by exact q),ą,t];exact d
   ·rw[Ŭ (by exact q)];exact d
theorem Ai:Cr ⟨oc,od,.func fd,sl⟩=Ã:=by cases oc<;>rfl
theorem JG{es:Array DictEntry}:Cr ⟨oc,od,.dict es ep,sl⟩=Ã:=by cases oc<;>rfl
theorem qJ{ns:Addr}{r:Option Å}(h:Ŝ K ns x=À r):Ŝ (K.filter λp=>Cr p.2) ns x=À r:=by
 unfold Ŝ at h |-;cases e:K.lookup ns with
 |none=>rw[e]at h;cases h
 |some o=>
  rw[e]at h;obtain⟨t,d,dt,k⟩:=o;cases dt with
  |dict es ep=>rw[ja JG e];l_fit
  |_=>cases h
variable{st:Stmt}
theorem pK.JH{l:List JD}(X:abk (K.filter λp=>Cr p.2) h)(G:h.Ns mainGlobals mg){f cA:Addr}{S I D:Option Addr}{V k:Array (Option Å)}{O kV Z M J v0:Å}{T:String}{L:Tok}{vs:Array Å}{d:List Å}(a:Ŝ K mainGlobals x=À (À (.ref f)))
  (F:K.lookup f=À ⟨O,S,.func (Ą x x (c9 st) (bE st) (au st) .none kV Z M I (.ref cA) J),V⟩) (Y:K.lookup cA=À ⟨.type T,D,.fields vs,k⟩) (R:vs.toList=v0::.str x L::d) (r:pK (K.filter λp=>Cr p.2) mg l):pK (K.filter λp=>Cr p.2) mg ((x,n,N,st)::l):=by
 have t:=ja Ai F;have U:=ja (show Cr ⟨.type T,D,.fields vs,k⟩=Ã from rfl) Y;refine pK.cons X G (qJ a) t ?_ ?_ r
 ·unfold Ŕ;k_in;rw[U];k_in;rw[R];simp
 ·unfold Ė;k_in;rw[t]
theorem jZ.JH{l:P3}(X:abk (K.filter λp=>Cr p.2) h)(G:h.Ns mainGlobals mg)(a:Ŝ K mainGlobals x=À Æ)(r:jZ mg l):jZ mg (x::l):=jZ.cons X G (qJ a) r
end
theorem JI{a:Addr}{o:Obj}:∀{K:Ì},K.lookup a=À o->(a,o)∈K
 |(b,u)::K,h=>by
  rw[ą]at h;by_cases e:a=b
  ·kpc_g;rw[show(a==a)=Ã by simp]at h;cases h;simp
  ·rw[show(a==b)=Ä from beq_eq_false_iff_ne.mpr e]at h;exact å _ (JI h)
theorem JJ{K:Params->Ì}{t:Nat}{r:PySem.W.RowW}{d:DefRec}(J:∀P,as=(K P).map (·.1))
  (h:adb q loose XP (λw h=>abk (fK K w.params) h) r d kwd run):PySem.W.WalkX q loose XP (PySem.W.X.obsZ as) (PySem.W.X.valZ K n t) r d kwd run:=by
 intro w k F S mb G e a o pm cd M dV kV U T Y h4 h5 h6 D I O L p1 p2 p3 p4 Z;refine h w k F S mb G (λb u hb=>?_) a o pm cd M dV kV U T Y h4 h5 h6 D I O p1 p2 p3 p4 Z;have V:=(ļ.mp (JI hb)).1;have R:as.map k.heap.get?=(K w.params).map λp=>À p.2:=congrArg (·.1) e;rw[J w.params,ĕ]at R;exact L.keeps b u (List.map_inj_left.mp R (b,u) V)
section
variable{g:oE}{k:Nat}{B:P3}{Vs:List (Option Str)}{p pt apos:Pos}{a:Expr}{ma:Y2}{oB:List (Str×Bool)}
theorem Cf.to(c:Cf X EE g k B sc Vs W)(d:fJ (Cx.to X E' pn) Ii):Cf (Cx.to X E' pn) Ii g k B sc Vs W:=⟨c.eq,c.vis,c.gl,c.st,c.bl,d,c.hr,c.hc⟩
theorem Cs.to(s:Cs X sc N)(h:PassesOwn (model X.prog X.w) X.A X.env E'):Cs (Cx.to X E' pn) sc N:=⟨s.nd,s.hf,h,s.hs,s.hN,s.bk,s.stk,s.ex⟩
structure Ch(X:Cx)(g:oE)(B:P3)(sc:Scope)(Vs:List (Option Str)):Prop where
 eq:X.K=g.K/\X.mg=g.mg
 vis:∀(i:Nat)(x:Str),Vs[i]?=À (À x)->X.N[i]?=À x/\GO X.env.scope x
 gl:∀x,tZ sc x .globalImplicit=Ã->Gl X x
 bl:∀b,B.contains b=Ã->X.mg b=Æ
 hu:X.A.units+600<cLine
structure Ck(X:Cx)(g:oE)(B:P3)(sc:Scope)(N:P3)(Vs:List (Option Str)):Prop where
 h:Ch X g B sc Vs
 nd:X.N.Nodup
 hs:X.env.scope=sc
 hN:X.N=N
 ex:X.ex=[]
theorem Nb{t d:MS}(c:Cf X EE g k B sc Vs W)(s:Cs X sc N)
  (M:∀(X:Cx)(EE:bF),Cf X EE g k B sc Vs W->Cs X sc N->qh X EE body t) (R:∀(X:Cx)(EE:bF),Ck X g B sc N Vs->QH X EE (h0::hs) mh) (S:qh X EE orelse d):QS X EE (.Try body (h0::hs) orelse [] pos) (zJ t mh d):=by
 obtain⟨V,U,L,Y,I,J⟩:=s.hf;exact QC s.stk ⟨L,I.trans J⟩ (λT D Ii F O=>M _ _ (c.to F) (s.to O)) (λD=>R _ _ ⟨⟨⟨c.eq.2.2.1,c.eq.2.2.2.1⟩,c.vis,c.gl,c.bl,c.hu⟩,s.nd,s.hs,s.hN,s.ex⟩) S
def FO(g:oE)(x:Str)(D:List (Str×Bool)):Prop:=∃t,g.mg x=À t/\∀n b d,D.lookup n=À b->g.mg n=À d->acP g.K d t=À b
def UL(g:oE)(x:Str)(D:List (Str×Bool)):Prop:=∃t,g.mg x=À t/\∀c b d,D.lookup c=À b->g.mg c=À d->∃C P,d=.ref C/\Nonempty (Ft g.K C P)/\Ū g.K d t=À b
def YM(g:oE)(T:String)(t:List (Str×Bool)):Prop:=∀c b d,t.lookup c=À b->g.mg c=À d->∃C P,d=.ref C/\Nonempty (Ft g.K C P)/\Ū g.K d (.type T)=À b
def Rw(g:oE)(x:Str):Prop:=∃C,g.mg x=À (.ref C)/\ExcAt g.K C
theorem FP(c:Cf X EE g k B sc Vs W)(C:Rw g x)(h:((tZ sc x .globalImplicit&&Lm x)&&aq (e::es))=Ã)(D:QA X EE (e::es) m):QS X EE (.Raise (À (.Call (.Name x np) (e::es) [] cpos)) Æ pos) (nO x m):=by obtain⟨F,d,t⟩:=C;exact IB c.hc c.hx (by rw[c.eq.2.2.2.1];exact d) (by rw[c.eq.2.2.1];exact t) (c.gl x (cV (cV h).1).1) (ua (cV (cV h).1).2) D (cV h).2
def Xl(K:Ì)(d:Str->Option Å)(x:Str)(ds:P3):Prop:=∃(q:Addr)(o:Obj)(its:Array Å)(n:Nat),d x=À (.ref q)/\K.lookup q=À o/\o.cls=.type "tuple"/\o.dict=Æ/\o.data=.seq its n/\its.size<=Ç/\Vals (ds.map V.str) its.toList
end
theorem Rx{m:X2->M D}{ns:D2}(I:∀ns:D2,ns.length<=63->∃G,m [.con (ns.map .int)] []=.ok (.bl Ã) G)(k:ns.length<=63)(t:LP H)(d:ko K H a (ns.map V.int)):
  g9 K mg 1 m [.ref a] H (λv _=>v=.bl Ã) λ_ _ _=>False:=by
 obtain⟨G,e⟩:=I ns k;have F:R9 K H a (ns.map V.int):=by
  rcases d with(h|h)|h
  ·rcases t a with z|⟨o,xs,z⟩
   ·rw[h]at z;cases z
   ·rw[h]at z;cases z
  ·exact .inl h
  ·exact .inr h
 refine⟨[.con (ns.map .int)],[],[],rfl,⟨rfl,by simp,λn o e=>by simp at e⟩,.cons (by unfold Rep;exact⟨a,_,rfl,F,.ints ns⟩) .nil,?_⟩;rw[e];intro v H' ρ' _ _ r;k_dec;exact r
section
open PyProof.Rows
theorem JK{l:adV}{k:Nat}{d:DefRec}{K:Params->Ì}{CX:Ć->vc}
  (hn:l.most=À n) (hn2:n<=Ç) (Z:d.params.defaults=[]) (hr:gE k callerA) (hY:∀(w:Ć)(h:Heap),YP w h->(K w.params).In h)
  (F:∀(w:Ć)(L:Str->Option Å)(O:Addr)(h:Heap),(K w.params).In h->h.Ns mainGlobals L->L d.name=À (.ref O) ->
   ∃(fd:FuncData)(sp:Sp),(∀(s:Ê)(u:Å),BindsTo s fd ⟨[u],[]⟩ [(x,u)])/\(∀t:Heap,nk l.prog w (K w.params) L t (CX w) k O fd [x] sp) /\
    ∀(H:Hp)(a:Addr)(R:D2),R.length<=n->LP H->ko (K w.params) H a (R.map V.int)->sp [.ref a] H (λv _=>v=.bl Ã) λ_ _ _=>False)
  (Wz:∀(w:Ć)(H:Hp)(s:Ê)(e:Å)(U:Ê),CX w [] H s (λ_ _ _=>False) e U->False):
  adb q loose XP YP l.row.toRowW d [] (λf vs=>ad3 f vs):=by
 refine Yq.zj hn Z λw s₀ M L mb O o pm cd doc a vs R G Y ho hd hcd S J I D hg=>?_;have KX:=hY w _ Y;obtain⟨fd,sp,hb,hF,BI⟩:=F w L O _ KX G.T.g S;exact Hw KX G.T.g G.T.b G.T.builtins G.T.nolimit hg J I (ü D hn2) hr (λt _ _=>hF t) hb (λH hO hS=>BI H a R D hO hS) λH e U=>Wz w H M e U
section
variable{g:oE}
theorem FO.one(k:g.mg x=À cv)(m2:g.mg n0=À c0)(e:acP g.K c0 cv=À b0):FO g x [(n0,b0)]:=by
 refine⟨cv,k,λn b d h1 h2=>?_⟩;rw[ą]at h1;cases q:n==n0 with
 |true=>rw[q]at h1;cases h1;rw[beq_iff_eq]at q;subst q;rw[m2]at h2;cases h2;exact e
 |false=>rw[q]at h1;cases h1
theorem UL.at{n0:Str}{t:Bool}{k:Å}{C P:Addr}(m2:g.mg n0=À (.ref C))(F:Ft g.K C P)(e:Ū g.K (.ref C) k=À t)(c:Str)(b:Bool)(d:Å)(h1:[(n0,t)].lookup c=À b)(h2:g.mg c=À d):∃C P,d=.ref C/\Nonempty (Ft g.K C P)/\Ū g.K d k=À b:=by
 rw[ą]at h1;cases q:c==n0 with
 |true=>rw[q]at h1;cases h1;rw[beq_iff_eq]at q;subst q;rw[m2]at h2;cases h2;exact⟨C,P,rfl,⟨F⟩,e⟩
 |false=>rw[q]at h1;cases h1
theorem UL.one{P:Addr}(k:g.mg x=À cv)(d:g.mg n0=À (.ref C))(F:Ft g.K C P)(e:Ū g.K (.ref C) cv=À b0):UL g x [(n0,b0)]:=⟨cv,k,UL.at d F e⟩
theorem YM.one{T:String}{P:Addr}(d:g.mg n0=À (.ref C))(F:Ft g.K C P)(e:Ū g.K (.ref C) (.type T)=À b0):YM g T [(n0,b0)]:=UL.at d F e
end
section
variable{a:Expr}{m:Y2}
def UM(m:Y2):Y2:=λτ G=>match m τ G with
 |.ok d G'=>if nh (G'.take G.length) G=Ã/\d.closed=Ã then .ok d G else .stuck
 |r=>r
theorem UN(D:QE X EE a m):QE X EE a (UM m):=PE.mono D λF H Q zz=>by
 k_mem;nofun;dsimp only[UM]at ok;cases q:m τ G with
 |stuck=>k_is;k_end
 |bP c G'=>k_is;k_end
 |ok d G'=>
  k_is;ac_nf;by_cases k:nh (G'.take G.length) G=Ã/\d.closed=Ã
  ·rw[Α k]at ok;intro v H' ρ' f t r;exact ok v H' ρ (jV f) ⟨ab.st.mono (jV f),ab.hp.cut f.pre t.hp (kJ _ _ k.1)⟩ (nS d v k.2 r)
  ·rw[Β k]at ok;left
end
end
section
variable{r:DS}{x y d:D}{ma mb:Y2}{ml:DS->M X2}{a b c e g h i j k l m n o:X9}
@[simp high]def Z9:aa 0 (À x::r) G=.ok x G:=î rfl rfl
@[simp high]def ov0:aj f (aa 0) mb (À x::r) G=(mb (À x::r) G).bd (f x):=aJ
@[simp high]def av0:af (aa 0) ml (À x::r) G=(ml (À x::r) G).bd λz=>M.ret (x::z):=aJ
@[simp high]def ev1:aa 1 (a::À x::r) G=.ok x G:=î rfl rfl
@[simp high]def ov1:aj f (aa 1) mb (a::À x::r) G=(mb (a::À x::r) G).bd (f x):=aJ
@[simp high]def av1:af (aa 1) ml (a::À x::r) G=(ml (a::À x::r) G).bd λz=>M.ret (x::z):=aJ
@[simp high]def si2{w:X9}:(a::b::c::r).set 2 w=a::b::w::r:=î rfl rfl
@[simp high]def ev2:aa 2 (a::b::À x::r) G=.ok x G:=î rfl rfl
@[simp high]def ov2:aj f (aa 2) mb (a::b::À x::r) G=(mb (a::b::À x::r) G).bd (f x):=aJ
@[simp high]def av2:af (aa 2) ml (a::b::À x::r) G=(ml (a::b::À x::r) G).bd λz=>M.ret (x::z):=aJ
@[simp high]def si3{w:X9}:(a::b::c::e::r).set 3 w=a::b::c::w::r:=î rfl rfl
@[simp high]def ev3:aa 3 (a::b::c::À x::r) G=.ok x G:=î rfl rfl
@[simp high]def ov3:aj f (aa 3) mb (a::b::c::À x::r) G=(mb (a::b::c::À x::r) G).bd (f x):=aJ
@[simp high]def av3:af (aa 3) ml (a::b::c::À x::r) G=(ml (a::b::c::À x::r) G).bd λz=>M.ret (x::z):=aJ
@[simp high]def si4{w:X9}:(a::b::c::e::g::r).set 4 w=a::b::c::e::w::r:=î rfl rfl
@[simp high]def ev4:aa 4 (a::b::c::e::À x::r) G=.ok x G:=î rfl rfl
@[simp high]def ov4:aj f (aa 4) mb (a::b::c::e::À x::r) G=(mb (a::b::c::e::À x::r) G).bd (f x):=aJ
@[simp high]def av4:af (aa 4) ml (a::b::c::e::À x::r) G=(ml (a::b::c::e::À x::r) G).bd λz=>M.ret (x::z):=aJ
@[simp high]def si5{w:X9}:(a::b::c::e::g::h::r).set 5 w=a::b::c::e::g::w::r:=î rfl rfl
@[simp high]def ev5:aa 5 (a::b::c::e::g::À x::r) G=.ok x G:=î rfl rfl
@[simp high]def ov5:aj f (aa 5) mb (a::b::c::e::g::À x::r) G=(mb (a::b::c::e::g::À x::r) G).bd (f x):=aJ
@[simp high]def av5:af (aa 5) ml (a::b::c::e::g::À x::r) G=(ml (a::b::c::e::g::À x::r) G).bd λz=>M.ret (x::z):=aJ
@[simp high]def si6{w:X9}:(a::b::c::e::g::h::i::r).set 6 w=a::b::c::e::g::h::w::r:=î rfl rfl
@[simp high]def ov6:aj f (aa 6) mb (a::b::c::e::g::h::À x::r) G=(mb (a::b::c::e::g::h::À x::r) G).bd (f x):=aJ
@[simp high]def av6:af (aa 6) ml (a::b::c::e::g::h::À x::r) G=(ml (a::b::c::e::g::h::À x::r) G).bd λz=>M.ret (x::z):=aJ
@[simp high]def si7{w:X9}:(a::b::c::e::g::h::i::j::r).set 7 w=a::b::c::e::g::h::i::w::r:=î rfl rfl
@[simp high]def ev7:aa 7 (a::b::c::e::g::h::i::À x::r) G=.ok x G:=î rfl rfl
@[simp high]def ov7:aj f (aa 7) mb (a::b::c::e::g::h::i::À x::r) G=(mb (a::b::c::e::g::h::i::À x::r) G).bd (f x):=aJ
@[simp high]def av7:af (aa 7) ml (a::b::c::e::g::h::i::À x::r) G=(ml (a::b::c::e::g::h::i::À x::r) G).bd λz=>M.ret (x::z):=aJ
@[simp high]def si8{w:X9}:(a::b::c::e::g::h::i::j::k::r).set 8 w=a::b::c::e::g::h::i::j::w::r:=î rfl rfl
@[simp high]def ov8:aj f (aa 8) mb (a::b::c::e::g::h::i::j::À x::r) G=(mb (a::b::c::e::g::h::i::j::À x::r) G).bd (f x):=aJ
@[simp high]def av8:af (aa 8) ml (a::b::c::e::g::h::i::j::À x::r) G=(ml (a::b::c::e::g::h::i::j::À x::r) G).bd λz=>M.ret (x::z):=aJ
@[simp high]def av9:af (aa 9) ml (a::b::c::e::g::h::i::j::k::À x::r) G=(ml (a::b::c::e::g::h::i::j::k::À x::r) G).bd λz=>M.ret (x::z):=aJ
@[simp high]def aam:aa 10 (a::b::c::e::g::h::i::j::k::l::À x::r) G=.ok x G:=î rfl rfl
@[simp high]def ocl:aj f (eC x) mb τ G=(mb τ G).bd (f x):=aJ
@[simp high]def acl:af (eC x) ml τ G=(ml τ G).bd λz=>M.ret (x::z):=aJ
end
section
variable{k v:Expr}{mk:Y2}
def l7(mk d:Y2):Y2:=λτ G=>((mk τ).bind λk=>(d τ).bind λv=>(gc v (.obj G.length) k).bind λ_=>M.ret (.obj G.length)) (G++[.aO Ä []])
def Ry(J D:TE):TE:=λd H Q=>∀p,H p=Æ->J d (upd H p (.dT [])) λx F=>D d F λy I=>∃t,sU I p x y t/\(∃b,x=.ref b)/\Q (.ref p) t
theorem FQ{b:Addr}{y:V}{r:Å}{Q:Unit->Ê->Prop}(hu:A.units<cLine)(I:Inv X pins σ H s)(g:sU H a (.ref b) y H')(U:RelV y r)(h:∀J,Inv X pins σ H' J->Q () J):
  Ú (model X.prog X.w) A (dictSet a (.ref b) r) Q E s:=by
 rcases g with⟨kvs,k,e,t,l,M⟩|⟨kvs,k,b',e,t,L,l,M⟩
 ·cases k<;>cases t
 ·cases t;subst M;obtain⟨z,S,xs,d,dd⟩:=N8 I.hok e;have hz:xs.length<=Ç:=by rw[<- aag d];exact z
  have O:(putK kvs k y).length<=Ç:=by have:=lM kvs k y;lia
  refine wpAny_dictSet_heap (knd:=tupleKind (cC X.prog X.w)) (xs:=xs) (k:=k) hu (nJ I.hok L) dd (λh' Z hs=>h _ ?_) hz;obtain⟨q,es,ep,F,R,T,Y,_,h5⟩:=Z;refine xO I (by rw[e];exact ů) hs ⟨q,F⟩ ⟨O,S,_,(d.put k L U).keeps λc ys D=>?_,q,es,ep,F,R,T,Y,h5⟩;rw[aI (d8 D e (λz=>nomatch z))];exact D
theorem JL{t D:TE}(hu:X.A.units<cLine)(F:PE X k t)(Y:PE X v D):PE X (.Dict [À k] [v] pos) (Ry t D):=by intro pins s d H Q I q;have R:=I.hok.fresh (Ë s.heap.objs.size);have S:=I.laid (a:=s.heap.objs.size) (o:=.dT []) (h':=s.heap.push {cls:=.type "dict",data:=.dict #[]}) (t':=s.toks) (λ_ _ q=>É _ q) (Ë _) (zm s.heap I.big);refine wpAny_Dict_any rfl rfl ⋯ ⋯ ?_;refine pairTrees_cons_walk (dO (F pins _ d _ _ S (q _ R)) λu U ⟨x,O,M,rx,J⟩=>dO (Y pins U d O _ M J) λw2 Z ⟨y,H2,I3,ry,L⟩=>pairTrees_nil_walk ?_);obtain⟨V,g,⟨b,rfl⟩,T⟩:=L;cases rx;unfold storeAll;rw[Ŋ];refine Á (Á (FQ hu I3 g ry λs' I4=>È ?_));k_in;rw[acS];exact È ⟨.ref s.heap.objs.size,V,I4,rfl,T⟩
theorem JM(hu:X.A.units+600<cLine)(T:QE X EE k mk)(hv:QE X EE v mv):QE X EE (.Dict [À k] [v] pos) (l7 mk mv):=by
 refine PE.mono (JL ∅ T hv) λσ H Q zz=>?_;k_mem;intro p O;have D:cQ X.K H (upd H p (.dT [])) ρ (ρ++[p]):=(cJ O ρ).trans (cX ρ p);have Ml:Ab X.K X.mg σ (upd H p (.dT [])) τ (ρ++[p]) (G++[.aO Ä []]):=⟨ab.st.mono D,ab.hp.Oo O⟩;refine⟨τ,ρ++[p],_,Ml,?_⟩;have r0:(ρ++[p])[G.length]?=À p:=by rw[<- ab.hp.hl,aB]
 dsimp only[l7,M.bind,M.ret]at ok;cases e1:mk τ (G++[.aO Ä []])with
 |stuck=>f_tup;k_end
 |bP c G'=>f_tup;exact λH' ρ' f d=>ok H' ρ' (D.trans f) d
 |ok kd G1=>
  f_tup;ac_nf;intro vk H1 ρ1 I gY r1;kw_lk;cases e2:mv τ G1 with
  |stuck=>gp_on;k_end
  |bP c G'=>gp_on;exact λH' ρ' f d=>ok H' ρ' ((D.trans I).trans f) d
  |ok U Y=>
   gp_on;ac_nf;intro vv H2 t F V R;have J:Rep X.K X.mg t H2 (.obj G.length) (.ref p):=by unfold Rep;exact⟨p,rfl,(I.trans F).get r0⟩
   have L:=r1.mono F;cases ek:pG kd with
   |none=>
    have:gc U (.obj G.length) kd Y=.stuck:=by simp[gc,ek]
    rw[this]at ok;left
   |some y=>
    obtain⟨b,hb,_⟩:=pH L ek;obtain⟨a,H3,e3,Z,q3⟩:=DJ (S:=λH'=>Q (.ref p) H') V R J L (λq=>by rw[q]at ok;exact ok.elim) λr G' H' q f d=>by rw[q]at ok;ac_nf;exact ok (.ref p) H' t (((D.trans I).trans F).trans f) d (J.mono f)
    cases e3;exact⟨H3,Z,⟨b,hb⟩,q3⟩
end
structure Xm(K:Ì)(x:Str)(st:Stmt)(f:Addr)(fd:FuncData):Prop where
 ex:∃(oc:Å)(od:Option Addr)(kV doc pm:Å)(an:Option Addr)(cdv ct:Å)(osl:Array (Option Å))(T:Addr)(oT:Obj)(n:Nat),
  fd=Ą x x (c9 st) (bE st) (au st) (.ref T) kV doc pm an cdv ct/\K.lookup f=À ⟨oc,od,.func fd,osl⟩/\Ŕ K cdv x=Ã/\K.lookup T=À oT/\oT.data=.seq #[.none] n
 kp:Ė K (.ref f)=Ã
def rK(K:Ì)(k:Str->Option Å)(x:Str)(n:Nat)(N:P3)(st:Stmt):Prop:=∃f d,Xm K x st f d/\k x=À (.ref f)
def JN(g:oE)(x:Str)(k n:Nat)(m:X2->M D):Prop:=∃f d t,lH g.P g.w g.K g.mg g.base (xV g.P g.w) k f d t (g9 g.K g.mg n m)/\g.mg x=À (.ref f)/\Ė g.K (.ref f)=Ã/\Binds g.K d t [.none]
def ue(n:Nat)(d:X2->M D)(m:DS->M X2):Y2:=ai (λds=>if ds.length+1=n then d (ds++[.bD]) else M.stop) m
section
variable{CX:vc}{k:Nat}{f:Addr}
theorem Nc{pins:N0}{t:L2.St}{H:Hp}{s:Ê}{Q:VK}{D:List Å}{vs:X1}{τ:DS}{ρ:Q1}{G:DH}{ds:X2}(F:lH X.prog X.w X.K X.mg X.base CX k f fd ps (g9 X.K X.mg n mf))(Y:gE k X.A)(Z:Binds X.K fd ps [.none])
  (M:Sa CX X EE) (I:Inv X pins t H s) (r:Vals vs D) (ab:Ab X.K X.mg t H τ ρ G) (rs:ao X.K X.mg ρ H ds vs) (S:ds.length+1=n) (ok:jK X.K X.mg EE H t τ ρ (mf (ds++[.bD]) G) Q):Ú (model X.prog X.w) X.A (call (.ref f) D) (EP X pins t Q) X.xe s:=by
 have h:g9 X.K X.mg n mf (vs++[.bD]) H Q (TZ X.mg EE t):=by
  refine⟨ds++[.bD],ρ,G,‹S›,ab.hp,rs.append (.cons (by unfold Rep;rfl) .nil),?_⟩;cases q:mf (ds++[.bD]) G with
  |stuck=>k_is;k_end
  |ok d G'=>k_is;exact λv H' ρ' f L r=>ok v H' ρ' f (fE.ab ab f L) r
  |bP c G'=>k_is;exact λcls H' ρ' T f L=>⟨c,T,ok H' ρ' f (fE.ab ab f L)⟩
 have R:(D++[Value.none]).length=ps.length:=by have:=F.len _ _ _ _ h;rw[Ý]at this |-;rw[<- r.length];exact this
 have N6:=Z s D I.yV R;have O:Vals (vs++[V.bD]) (D++[Value.none]):=r.append (.cons rfl .nil);refine ad5 (codeAny_mono (F.run X.A X.stack s H ⟨D,[]⟩ (D++[.none]) (vs++[.bD]) Q (TZ X.mg EE t) Y I.gF I.os.2 N6 O h) λr U J=>?_);cases r with
 |error e=>exact M pins t H s e U I J
 |ok fl=>
  cases fl with
  |ret u=>exact I.after J
  |next=>exact Ģ J
  |brk=>exact Ģ J
  |cont=>exact Ģ J
end
section
variable{f:Addr}
theorem Xn{st:Stmt}{kV:Å}{k:Nat}{m:X2->M D}(lk:K.lookup f=À ⟨oc,od,.func (Ą x x (c9 st) (bE st) (au st) dV kV doc pm an cdv ct),osl⟩)(Z:Ŕ K cdv x=Ã)(S:gX N ps (au st))(hps:ps.length=n)(hN:N.length=nn)(hm:∀ds,m ds=cj nn ms ds)
  (R:∀(X:Cx)(EE:bF)(A:Around)(F:List Env)(s:Ê)(H:Hp)(E:XK),X=rS (xV P w) P w K mg base N x (au st) f cdv A F s H E->gE k (A.deeper (Ō x (au st) s.heap.objs.size f cdv)) ->
   fJ X EE->PassesOwn (model P w) X.A X.env X.xe->qh X EE (bE st) ms):
  lH P w K mg base (xV P w) (k+1) f (Ą x x (c9 st) (bE st) (au st) dV kV doc pm an cdv ct) ps (g9 K mg n m):=by
 subst hps hN;have e:m=λds=>cj N.length ms ds:=funext hm;kpc_g;refine N5 lk Z S (λvs H Q E h=>h.len) λA F s H vs Q E hr h=>?_;obtain⟨ds,ρ,G,hn,hp,rs,ok⟩:=h;refine⟨_,R _ (λc σ H'=>∀J,zG mg c J->E J Æ H') A F s H E rfl hr ?_ abZ,ds.map À++Ö (N.length-ds.length) Æ,ρ,G,⟨nM rs,hp⟩,?_⟩
 ·intro pins σ H' s' e J c I fx hc ee;obtain⟨B,fb,V,we⟩:=fx;refine zF (L:=s.heap.objs.size) I.ok.frames rfl fb λh' a0 fl u hD=>?_;have T:Inv _ [] σ H' {s' with heap:=h'}:=Inv.Dq (t:=s'.toks) I we V fl.1 u;have C8:∀b o,s.heap.get? b=À o->b∉frs F->b∉frs (Ō x (au st) s.heap.objs.size f cdv::F):=λb o e U z=>by
   rcases Ù.mp (I.kj b z)with z|z
   ·exact absurd (Õ e) (by rw[show b=s.heap.objs.size from z];exact Ĭ _)
   ·exact U z
  refine⟨e,J,a0,B,H',rfl,fl,hD,⟨T.os,T.bare,λb o O Y U=>we.keep b o O Y (C8 b o O U) (by intro z;exact absurd (show b∈([]:Q1) from z) ⋯),λb o O U=>we.there b o O (C8 b o O U) (by intro z;exact absurd (show b∈([]:Q1) from z) ⋯),
   λb o O Y U=>T.base.slot b o O Y U (by intro z;exact absurd (show b∈([]:Q1) from z) ⋯),λb o O Y=>T.base.free b o O Y (by intro z;exact absurd (show b∈([]:Q1) from z) ⋯),T.base.tups,T.base.lG,T.base.nF,V⟩,ee J hc⟩
 ·dsimp only[cj]at ok;cases q:ms (ds.map À++Ö (N.length-ds.length) Æ) G with
  |stuck=>k_is;k_end
  |nx τ G'=>k_is;exact λσ' H' ρ' f ab=>ok .bD H' ρ' f ab.hp (by unfold Rep;rfl)
  |rt d G'=>k_is;exact λv H' ρ' f hp r=>ok v H' ρ' f hp r
  |bk τ G'=>kj_on
  |ct τ G'=>kj_on
  |xn c τ G'=>k_is;exact λσ' H' ρ' f ab J hc=>ok J H' ρ' hc f ab.hp
end
section
variable{g:oE}{k k':Nat}{B:P3}{Vs:List (Option Str)}{p:Pos}{st:Stmt}
theorem JO(c:Cf X EE g k B sc Vs W)(C:JN g x k' n mf)(h:(decide (k'<=k)&&(tZ sc x .globalImplicit&&(Lm x&&aq (e::es))))=Ã)(ha:QA X EE (e::es) m):QE X EE (.Call (.Name x p) (e::es) [] pos) (ue n mf m):=by
 obtain⟨Z,h⟩:=cV h;obtain⟨V,h⟩:=cV h;obtain⟨h3,h4⟩:=cV h;obtain⟨f,fd,ps,D,O,F,S⟩:=C;have r:=c.hr.mono (of_decide_eq_true Z);obtain⟨T,e2,R,J,e5⟩:=c.eq;rw[<- T,<- e2,<- R,<- J,<- e5]at D;rw[<- J]at O;rw[<- R]at F S;have h':bT e=Ã/\aq es=Ã:=by simpa[aq]using h4
 intro pins s σ H Q I hq;obtain⟨τ,ρ,G,ab,Y⟩:=qy (k:=λ_ ds=>if ds.length+1=n then mf (ds++[.bD]) else M.stop) hq;refine Ĉ (oG I (c.gl x V) O ?_ (ua h3).1);refine abG (h₀:=X.base) I.ok.mod.OO F (dO (ha pos pins s σ H _ I ⟨τ,ρ,G,ab,Y⟩) λus s1 ⟨vs,H1,L,r1,q⟩=>⟨L.yV,?_⟩) (bx h'.1 _ _) (bA h'.2);obtain⟨τ1,ρ1,G1,ds,U,rs,d⟩:=q;by_cases t:ds.length+1=n
 ·rw[Α t]at d;exact Nc D r S (Mh c.hx) L r1 U rs t d
 ·rw[Β t]at d;exact d.elim
theorem Aj(Dd:rK g.K g.mg x n N st)(hB:jZ g.mg B)(S:gX N (N.take n) (au st))(Z:(N.take n).length=n)(hN:N.length=nn)
  (hb:∀(T:Addr)(kV t L:Å)(M:Option Addr)(d I:Å)(D:List Å),D.length=(N.take n).length->∃k:Option (Array Å)->Sem (List (Str×Å)),bindArgs (Ą x x (c9 st) (bE st) (au st) (.ref T) kV t L M d I) ⟨D,[]⟩=seqItems? (.ref T) >>= k/\k (À #[.none])=pure ((N.take n).zip D))
  (hd:∀(T:Addr)(kV t L:Å)(M:Option Addr)(d I:Å)(D:List Å),D.length+1=(N.take n).length->∃k:Option (Array Å)->Sem (List (Str×Å)),bindArgs (Ą x x (c9 st) (bE st) (au st) (.ref T) kV t L M d I) ⟨D,[]⟩=seqItems? (.ref T) >>= k/\k (À #[.none])=pure ((N.take n).zip (D++[.none])))
  (body:∀(X:Cx)(EE:bF),Cf X EE g k B (au st) (Co (au st) N) (FH Ã (au st) N)->Cs X (au st) N->qh X EE (bE st) ms):gB g x (k+1) n (λds=>cj nn ms ds)/\JN g x (k+1) n (λds=>cj nn ms ds):=by
 obtain⟨f,fd,F,hm⟩:=Dd;have kp:=F.kp;obtain⟨oc,od,kV,t,L,M,d,I,osl,T,oT,nT,rfl,lk,U,lT,dT⟩:=F.ex;have ok:lH g.P g.w g.K g.mg g.base (xV g.P g.w) (k+1) f (Ą x x (c9 st) (bE st) (au st) (.ref T) kV t L M d I) (N.take n) (g9 g.K g.mg n (λds=>cj nn ms ds)):=by refine Xn (k:=k) (ms:=ms) lk U S Z hN (λ_=>rfl) ?_;intro X EE A J s H E hX hr hx UK;subst hX;exact body _ EE (Cq hB hr hx) ⟨S.nd,⟨_,J,s.heap.objs.size,rfl,rfl,rfl⟩,UK,rfl,rfl,JE S.kind,rfl,rfl⟩
 refine⟨⟨f,_,_,ok,hm,kp,λs D V O=>?_⟩,⟨f,_,_,ok,hm,kp,λs D V O=>?_⟩⟩
 ·rw[ö]at O |-;obtain⟨k1,R,Y⟩:=hb T kV t L M d I D O;exact .of_defaults (T:=T) rfl (V _ _ lT) dT R Y
 ·obtain⟨k1,R,Y⟩:=hd T kV t L M d I D ‹O›;exact .of_defaults (T:=T) rfl (V _ _ lT) dT R Y
end
noncomputable def Bv(a b:Str):Bool:=!ltCps b.cps.toList a.cps.toList
theorem kN{a:Str}:Bv a b=Ã↔a.cps.toList<=b.cps.toList:=by unfold Bv;rw[PyProof.Rows.ltCps_eq];simp
theorem wI{a c:Str}(h:Bv a b=Ã)(k:Bv b c=Ã):Bv a c=Ã:=kN.mpr (List.le_trans (kN.mp h) (kN.mp k))
theorem Ak{a:Str}(h:Bv a b=Ã)(k:Bv b a=Ã):a=b:=by have:=List.le_antisymm (kN.mp h) (kN.mp k);cases a;cases b;f_are
theorem FT{a:Str}(h:Bv a b=Ä):Bv b a=Ã:=by
 rcases List.le_total a.cps.toList b.cps.toList with k|k
 ·rw[kN.mpr k]at h;cases h
 ·exact kN.mpr k
def FU(x:Str):P3->P3
 |[]=>[x]
 |y::r=>if Bv x y=Ã then x::y::r else y::FU x r
def aT(l:P3):P3:=l.foldr FU []
theorem qK(x:Str):∀l,(FU x l).Perm (x::l)
 |[]=>.refl _
 |y::r=>by
  unfold FU;split
  ·exact .refl _
  ·exact((qK x r).cons y).trans (.swap ..)
theorem bq:∀l,(aT l).Perm l
 |[]=>.refl _
 |x::r=>(qK x _).trans ((bq r).cons x)
theorem uf(x:Str):∀l:P3,l.Pairwise (λa b=>Bv a b=Ã)->(FU x l).Pairwise (λa b=>Bv a b=Ã)
 |[],_=>ach ..
 |y::r,h=>by
  obtain⟨k,t⟩:=ű.mp h;unfold FU;split
  ·rename_i d;refine ű.mpr ⟨λz hz=>?_,h⟩;rcases Ù.mp hz with rfl|hz
   ·exact d
   ·exact wI d (k z hz)
  ·rename_i d;have D:Bv y x=Ã:=FT ‹d›;refine ű.mpr ⟨λz hz=>?_,uf x r t⟩;rcases Ù.mp ((qK x r).mem_iff.mp hz)with rfl|hz
   ·exact D
   ·exact k z hz
theorem jr:∀l,(aT l).Pairwise (λa b=>Bv a b=Ã)
 |[]=>.nil
 |x::r=>uf x _ (jr r)
theorem Al:∀{l:P3},abb l=Ã->l.Pairwise (λa b=>Bv a b=Ã)
 |[],_=>.nil
 |[x],_=>ach ..
 |x::y::r,h=>by
  obtain⟨k,t⟩:=cV (show(Bv x y&&abb (y::r))=Ã from h);have d:=Al t;refine ű.mpr ⟨λz hz=>?_,d⟩;rcases Ù.mp hz with rfl|hz
  ·exact k
  ·exact wI k ((ű.mp d).1 z hz)
theorem ug(d:ss'.Perm ss)(k:abb ss'=Ã):ss'=aT ss:=
 ab8 (λ_ _ _ _ a b=>Ak a b) (Al k) (jr ss) (d.trans (bq ss).symm)
noncomputable def pL:List Key->Option P3
 |[]=>À []
 |.inr i::r=>(pL r).map (i::·)
 |_=>Æ
theorem wJ:∀{ks:List Key}{ns:P3}{vs:List Å},pL ks=À ns->vs.length=ks.length->(∀(i:Nat)(k:Key)(v:Å),ks[i]?=À k->vs[i]?=À v->sM k v=Ã)->û vs ns
 |[],ns,vs,h,hl,hk=>by cases h;rw[ŭ.mp hl];exact .nil
 |.inr i::r,ns,[],h,hl,hk=>by simp at hl
 |.inr i::r,ns,v::vs,h,hl,hk=>by
  dsimp only[pL]at h;cases e:pL r with
  |none=>rw[e]at h;cases h
  |some m=>
   rw[e]at h;cases h;have d:=hk 0 (.inr i) v rfl rfl;rcases cT d with⟨j,t,e1,rfl⟩|⟨x,t,e1,rfl⟩
   ·cases e1
   ·cases e1;exact .cons i t (wJ e ‹hl› λj k u h1 h2=>hk (j+1) k u ‹h1› ‹h2›)
section
theorem vD{d:Addr}{kvs:List (Key×Å)}{Q:Å->Ê->Prop}(hh:A.handled=Æ)(V:(d==sysModules)=Ä)(Z:s.heap.DictOf (cC prog w) d kvs)(hn:pL (kvs.map (·.1))=À ns)(hl:kvs.length<64)
  (hQ:∀(D h':Heap)(tk:Nat)(its:List Å)(c:Nat),(∀b o,s.heap.get? b=À o->D.get? b=À o)->(∀b o,D.get? b=À o->h'.get? b=À o)->h'.get? D.objs.size=À {cls:=.type "list",data:=.seq its.toArray c}->û its (aT ns)->Q (.ref D.objs.size) {s with heap:=h',toks:=tk}):
  Ú (model prog w) A (call (.builtin "sorted") [.ref d]) Q E s:=by
 obtain⟨o,es,ep,D,U,h3,h4,h5,h6⟩:=Z;have hz:kvs.length<=Ç:=by rw[sizeLine_eq];lia
 refine aae ab9 abQ abR (abS _) ?_;unfold Builtin.sorted;refine Á (aa8 (a:=()) rfl ?_);refine Á (PySem.W.kdu_collect (PySem.W.kdl_dict (knd:=cC prog w) (kvs:=kvs) (ep:=ep) V) (show A.in1.handled=Æ from hh) ⟨o,es,D,U,h3,h4,h5,h6⟩ hz λh' tk acc kp t=>?_);have L:û acc.toList ns:=wJ hn ‹t.1› λi k v F I=>by obtain⟨k',x,J,g4⟩:=t.2 i v ‹I›;rw[Þ,J]at F;cases F;exact g4
 refine Á (ë ?_ (show acc.toList.toArray.size<=Ç by simp only[Array.toArray_toList];rw[t.1];exact hz));have M:(h'.push {cls:=.type "list",data:=.seq acc.toList.toArray}).get? h'.objs.size=À (ac3 "list" acc.toList.toArray 0):=Ð _ rfl;refine Á (ė (ÿ abw ⟨_,M,rfl⟩ abl (abm abL (n:=0) M L.keysOf (λR S T e=>abT (by rw[<- e];exact L)) (by have:=t.1;simp at this |-;lia) λO hp hs=>⟨_,rfl,?_⟩) (abx _)));refine È ⟨_,rfl,?_⟩;obtain⟨Y,F,I,J⟩:=aby L hp hs;generalize(adn O).map (·.2)=out at F;obtain⟨c,ec⟩:=abM (out:=out) M;have es:=ug I J;subst es;refine hQ h' _ tk out.toList c kp (λb o e=>?_) ‹ec› F;have lt:=Õ e;rw[abz (á lt) (Ø lt (by simp[Heap.push]))];exact É _ e
end
def kO:X2->M D
 |[d]=>λG=>match gf G d with
  |some kvs=>match pL (kvs.map (·.1))with
   |some k=>if kvs.length<64 then aR ((aT k).map .str) G else .stuck
   |none=>.stuck
  |none=>match ak G d with
   |some (.lst xs)=>match strsOf xs with
    |some k=>if k.length<64 then aR ((aT k).map .str) G else .stuck
    |none=>.stuck
   |_=>.stuck
 |_=>M.stop
theorem qL{vs:List Å}(h:û vs ns):Vals (ns.map V.str) vs:=by
 induction h with
 |nil=>exact .nil
 |cons n t _ d=>exact .cons ⟨_,rfl⟩ d
theorem l8:∀(l:List (Str×Tok)),û (strValues l) (l.map (·.1))
 |[]=>.nil
 |p::l=>.cons _ _ (l8 l)
section
variable{p:Pos}
theorem ye(hc:X.calm=Ã):eE X (.builtin "sorted") (GQ X EE kO):=by
 kln_w
 match ds,ok with
 |[],ok=>left
 |_::_::_,ok=>left
 |[d],ok=>
  k_sub;obtain⟨u,rfl,T⟩:=vals1 r;dsimp only[kO]at ok;cases q:gf G d with
  |some kvs=>
   k_is;ac_nf;cases qn:pL (kvs.map (·.1))with
   |none=>rw[qn]at ok;left
   |some F=>
    rw[qn]at ok;ac_nf;by_cases D:kvs.length<64
    ·rw[Α D]at ok;obtain⟨a,ys,rfl,eH,rs⟩:=mV ab.hp rx q;cases T;obtain⟨_,hm,vs,kv,hd⟩:=qY I.hok eH;have O:kvs.length=ys.length:=‹rs.length›
     have J:=M5 kv;rw[Jz O]at J;have el:=congrArg aa3 J;simp at el;have M:ao X.K X.mg ρ H ((aT F).map .str) ((aT F).map V.str):=ao.strs _;obtain⟨t,L⟩:=jB ab M ok;refine iR I.os.2 <|vD (show X.A.handled=Æ from I.ok.hd hc) hm hd (by rw[<- J];exact qn) ∅ λh1 h' tk its c kp Xo e g=>λht=>?_;have S:Inv X pins σ0 H {s with heap:=h1,toks:=tk}:=I.kept (t':=tk) kp;exact⟨.ref _,_,S.laid (t':=tk) Xo (Ë _) (show cU X.prog X.w _ h' _ (.lst _) from⟨t,its,c,qL g,e⟩),rfl,L _ (S.hok.fresh (Ë _))⟩
    ·rw[Β D]at ok;left
  |none=>
   k_is;ac_nf;cases qs:ak G d with
   |none=>rw[qs]at ok;left
   |some sk=>
    rw[qs]at ok;cases sk with
    |tup _=>left
    |str _=>left
    |lst zs=>
     ac_nf;cases qn:strsOf zs with
     |none=>rw[qn]at ok;left
     |some F=>
      rw[qn]at ok;ac_nf;by_cases D:F.length<64
      ·rw[Α D]at ok;obtain⟨a,ys,rfl,sq,rv⟩:=bG (pins:=pins) (σ0:=σ0) (s:=s) ab.hp rx qs;cases T;obtain⟨its,vv,⟨o,k,e1,Z,Y,U⟩,_⟩:=I.list sq;obtain⟨l,rfl,rfl⟩:=kH rv vv qn;have M:ao X.K X.mg ρ H ((aT (l.map (·.1))).map .str) ((aT (l.map (·.1))).map V.str):=ao.strs _;obtain⟨t,L⟩:=jB ab M ok;obtain⟨oc,od,odt,osl⟩:=o;dsimp only at Z Y U;subst Z Y U;refine iR I.os.2 <|PyProof.Rows.sorted_strs (vs:=strValues l) ⟨_,e1,rfl,k,rfl⟩ (l8 l) (by simp[strValues]at D |-;exact D) λout ss' g1 g2 g3=>λht=>?_;have es:=ug g2 g3;subst es;obtain⟨c,R⟩:=PyProof.Rows.sortedAll_at s.heap (strValues l) out;exact⟨.ref _,_,I.laid (t':=s.toks) (λb o eb=>PyProof.Rows.sortedAll_old eb) (aa7 _) (show cU X.prog X.w _ _ _ (.lst _) from⟨t,out.toList,c,qL g1,‹R›⟩),rfl,L _ (I.hok.fresh (aa7 _))⟩
      ·rw[Β D]at ok;left
theorem Cu(t:X.calm=Ã)(d:X.mg "sorted"=Æ)(D:Gl X "sorted")(k:QA X EE [e] m)(h:aq [e]=Ã):QE X EE (.Call (.Name "sorted" p) [e] [] pos) (ai kO m):=iX (ye t) d D acd k (by decide) (by decide) h
end
section
variable{f o:Expr}{apos p:Pos}{mf:Y2}
def wK(G:DH):D->Bool
 |.obj n=>match G[n]? with
  |some (.aO _ _)=>Ã
  |_=>Ä
 |_=>Ä
def yf(d k x:D):M D:=λG=>match d,pG k with
 |.obj n,À y=>match G[n]? with
  |some (.aO _ kvs)=>.ok ((aN kvs y).getD x) G
  |_=>.stuck
 |_,_=>.stuck
def uh(D t F:Y2):Y2:=λτ=>(D τ).bind λd G=>if wK G d=Ã then ((t τ).bind λk=>(F τ).bind λx=>yf d k x) G else .stuck
theorem JP{d:D}(h:wK G d=Ã):∃n fz kvs,d=.obj n/\G[n]?=À (.aO fz kvs):=by
 cases d<;>simp[wK]at h;rename_i n;cases g:G[n]? with
 |none=>rw[g]at h;cases h
 |some ob=>
  cases ob with
  |aO fz kvs=>exact⟨n,fz,kvs,rfl,g⟩
  |_=>rw[g]at h;cases h
theorem JQ(hu:X.A.units+600<cLine)(ho:QE X EE o mo)(he:QE X EE e me)(hf:QE X EE f mf)(hb:kG o=Ã)(h:aq [e,f]=Ã)(t:(apos.endLine==cpos.line)=Ã):
  QE X EE (.Call (.Attribute o "get" apos) [e,f] [] cpos) (uh mo me mf):=by
 have h':bT e=Ã/\bT f=Ã:=by simpa[aq]using h
 refine PE.mono (HB ∅ ho he hf ⟨f6 hb _ _,tM h ⋯,t,by rw[bx h'.1,bx h'.2];rfl⟩) λσ H Q zz=>?_;k_mem;nofun;dsimp only[uh,M.bind]at ok;cases e1:mo τ G with
 |stuck=>f_tup;k_end
 |bP c G'=>f_tup;k_end
 |ok d G1=>
  f_tup;ac_nf;intro vd H1 ρ1 S gY Y;by_cases L:wK G1 d=Ã
  ·rw[Α L]at ok;obtain⟨n,fz,kvs,rfl,g1⟩:=JP L;unfold Rep at Y;obtain⟨p,rfl,ep⟩:=Y;obtain⟨p',xs,vL,eH,_⟩:=gY.hp.aO g1;rw[ep]at vL;cases vL;refine⟨p,rfl,.inr ⟨_,eH.rd⟩,τ,ρ1,G1,gY,?_⟩;cases e2:me τ G1 with
   |stuck=>gp_on;k_end
   |bP c G'=>gp_on;exact λH' ρ' f D=>ok H' ρ' (S.trans f) D
   |ok k G2=>
    gp_on;ac_nf;intro vk H2 R F bY r2;refine⟨τ,R,G2,bY,?_⟩;cases e3:mf τ G2 with
    |stuck=>ks_is;k_end
    |bP c G'=>ks_is;exact λH' ρ' f D=>ok H' ρ' ((S.trans F).trans f) D
    |ok x G3=>
     ks_is;dsimp only[yf]at ok;intro vx H3 J I Z r3;cases ek:pG k with
     |none=>rw[ek]at ok;left
     |some y=>
      rw[ek]at ok;ac_nf;cases g:G3[n]? with
      |none=>o_new
      |some ob=>
       cases ob with
       |aO fz3 aap=>
        room;ac_nf;obtain⟨p3,xs3,YN,O,T⟩:=Z.hp.aO g;rw[(F.trans I).get ep]at YN;cases YN;obtain⟨b,rfl,eb⟩:=pH (r2.mono I) ek;refine⟨_,.inr ⟨_,y,b,O.rd,rfl,eb,rfl⟩,?_⟩;refine ok _ H3 J ((S.trans F).trans I) Z ?_;rcases jW y T with⟨V,U⟩|⟨d,v,V,U,z3⟩
        ·rw[V,U];exact r3
        ·rw[V,U];exact z3
       |_=>o_new
  ·rw[Β L]at ok;left
def gg(d e:D):M D:=λG=>match gf G e,i6 d with
 |some kvs,À y=>.ok (.bl (!(aN kvs y).isSome)) G
 |_,_=>.stuck
theorem FW(L:X.A.units+600<cLine):gW X (compareOp .NotIn) (rD X EE gg):=by
 z_go;dsimp only[gg]at ok;cases q:gf G e with
 |none=>kj_on
 |some kvs=>
  cases ek:i6 d with
  |none=>rw[q,ek]at ok;left
  |some y=>
   rw[q,ek]at ok;obtain⟨a,xs,rfl,eH,D⟩:=mV ab.hp r2 q;have F:=pF r1 ek;subst F;cases ry;refine LR ∅ I (.inl ⟨_,y,eH,rfl,rfl⟩) rx λs' I'=>⟨.bl _,H,I',rfl,ok _ H ρ .refl ab ?_⟩;unfold Rep;rcases jW y D with⟨t,k⟩|⟨M,v,t,k,J⟩
   ·rw[t,k];rfl
   ·rw[t,k];rfl
def pM:X2->M D
 |[.obj n]=>λG=>match G[n]? with
  |some (.aO _ kvs)=>.ok (.int kvs.length) G
  |_=>.stuck
 |_=>M.stop
theorem Nd{K:Type} [DecidableEq K] {knd:HeapKind prog w K} {A:Around} {E:Å->Ê->Prop} {s:Ê} {d:Addr} {xs:List (K×Addr×Å)} {Q:Å->Ê->Prop}
  (M:(d==sysModules)=Ä) (D:s.heap.DictOfH knd d xs) (I:(xs.length:Int)<2^63)
  (h:Q (.int xs.length (s.toks+1)) {s with toks:=s.toks+1+1}):Ú (model prog w) A (call (.builtin "len") [.ref d]) Q E s:=by
 have k:MeetsIn prog w (ŝ.«dict.__len__» ⟨[.ref d],[]⟩) (λ_ R s=>∃xs,s.heap.DictOfH knd d xs/\R (.ok (.ret (.int xs.length s.toks))) {s with toks:=s.toks+1}):=
  .of_wp λA R s O=>by obtain⟨xs,D,h⟩:=O;obtain⟨o,es,ep,L,S,t,J,_,_⟩:=D;show Ú _ _ (dictSize d >>= _) _ _ s;unfold dictSize;refine Á (Á (ŷ L t (È ?_)));show Ú _ _ (Builtin.Dict.pendingCount d >>= _) _ _ s;refine Á (wpAny_pendingCount_other M ?_);refine wpAny_ret_mkInt ?_;rw[adw,size_of_entries J];l_fit
 refine aae kind_len plain_len entry_len (args_len1 _) ?_;unfold ŝ.«len»;refine Á (m:=oneArg "len" _) (È ?_)
 refine Á (m:=callSpecial? (.ref d) (ĥ "__len__")) (þ (name:=ĥ "__len__") D.typeIs adW
  (call_meetsIn adW D.typeIs F.entry_dict_len (F.args_dict_len_1 _) k ⟨xs,D,?_⟩))
 show Ú _ _ _ _ _ {s with toks:=s.toks+1};refine Á (ė (È ?_));refine Á (aa6 ?_);show Ú _ _ (if ((xs.length:Nat):Int)<0 then _ else _) _ _ _;rw[Β ∅];show Ú _ _ (if ((xs.length:Nat):Int) >= 2^63 then _ else _) _ _ _;rw[Β ∅];exact Á (wpAny_mkInt (È ⟨_,rfl,h⟩))
theorem FY:eE X (.builtin "len") (GQ X EE pM):=by
 kln_w
 match ds,ok with
 |[],ok=>left
 |d::_::_,ok=>cases d<;>exact ok.elim
 |[d],ok=>
  k_asm
  rename_i n;k_sub;obtain⟨u,rfl,F⟩:=vals1 r;dsimp only[pM]at ok;cases g:G[n]? with
  |none=>o_new
  |some ob=>
   cases ob with
   |aO fz kvs=>
    room;unfold Rep at rx;obtain⟨p,rfl,ep⟩:=rx;cases F;obtain⟨O,xs,t,L,rs⟩:=ab.hp.aO g;rw[ep]at t;cases t;obtain⟨z,J,vs,k,dd⟩:=qZ I.hok L.rd;have D:=rs.length;have M:=ok (.int kvs.length) H ρ .refl ab (by unfold Rep;rfl);have V:vs.length=kvs.length:=by rw[<- k.length,List.length_zip];simp at D |-;lia
    refine Nd J dd (by rw[<- k.length];rw[sizeLine_eq]at z;lia) ?_;rw[V];exact⟨.int _,H,I.tok _,⟨_,rfl⟩,M⟩
   |_=>o_new
theorem Nf(k:X.mg "len"=Æ)(d:Gl X "len")(t:QA X EE [e] m)(h:aq [e]=Ã):QE X EE (.Call (.Name "len" p) [e] [] pos) (ai pM m):=iX FY k d PySem.boot_len t (by decide) (by decide) h
end
section
open PyProof.Rows
section
variable{st:Stmt}
theorem rK.ofZ(X:abk (K.filter λp=>Cr p.2) h)(G:h.Ns mainGlobals mg){f cA T:Addr}{O t S:Option Addr}{R k Y:Array (Option Å)}{L kV U J F v0:Å}{I:String}{Z:Tok}{vs:Array Å}{d:List Å}{D:Nat}(a:Ŝ K mainGlobals x=À (À (.ref f)))
  (V:K.lookup f=À ⟨L,O,.func (Ą x x (c9 st) (bE st) (au st) (.ref T) kV U J t (.ref cA) F),R⟩) (lc:K.lookup cA=À ⟨.type I,S,.fields vs,k⟩) (hv:vs.toList=v0::.str x Z::d) (lt:K.lookup T=À ⟨.type "tuple",Æ,.seq #[.none] D,Y⟩):
  rK (K.filter λp=>Cr p.2) mg x n N st:=by
 have M:=ja Ai V;have l2:=ja (show Cr ⟨.type I,S,.fields vs,k⟩=Ã from rfl) lc;refine⟨f,_,⟨⟨L,O,kV,U,J,t,.ref cA,F,R,T,_,D,rfl,M,?_,ja rfl lt,rfl⟩,?_⟩,ad8 X G (qJ a)⟩
 ·unfold Ŕ;k_in;rw[l2];k_in;rw[hv];simp
 ·unfold Ė;k_in;rw[M]
end
end
section
variable{a b:Expr}{ma mb m:Y2}
def um:X2->M D
 |[d]=>λG=>match b8 G d with
  |some (_,xs)=>match intsOf xs with
   |some bs=>.ok (.int bs.sum) G
   |none=>.stuck
  |_=>.stuck
 |_=>M.stop
theorem FZ(T:X.calm=Ã):eE X (.builtin "sum") (GQ X EE um):=by
 kln_w
 match ds,ok with
 |[],ok=>left
 |_::_::_,ok=>left
 |[d],ok=>
  k_sub;obtain⟨u,rfl,V⟩:=vals1 r;dsimp only[um]at ok;cases q:b8 G d with
  |none=>kj_on
  |some sk=>
   k_is;obtain⟨t,zs⟩:=sk;ac_nf;cases qb:intsOf zs with
   |none=>rw[qb]at ok;left
   |some bs=>
    rw[qb]at ok;obtain⟨p,vs,rfl,sq,Y⟩:=tY (pins:=pins) (σ0:=σ0) (s:=s) ab.hp rx q;cases V;obtain⟨its,U,M⟩:=I.Cc sq;obtain⟨F,k⟩:=tN Y U qb;have D:p<s.heap.objs.size:=M.lt;refine iR I.os.2 (call_sum_walkG (Jr M ?_));cases t with
    |false=>
     have J:s.heap.IsList p its.toArray:=M
     refine⟨s.heap.objs.size,[s.heap.objs.size,p],[s.heap.objs.size],its.toArray.size,_,_,λi=>bs.getD i 0,rfl,ad6 (A:=X.A.in1) (I.ok.hd T) _ p (á D) _,
      ⟨⟨_,Ð _ rfl,rfl,rfl⟩,J.push _⟩,λb L=>?_,λi v R=>k i v ‹R›,λh' S t' O Z=>?_⟩
     ·show b<(s.heap.push _).objs.size;rw[ā];rcases Ù.mp L with rfl|L
      ·exact Ĳ _
      ·rw[ï.mp L];exact Ŷ D
     ·rw[show its.toArray.size=bs.length by simpa using F,preSum_eq bs _ (Ë _),Ĵ];exact⟨.int _,H,I.kept (t':=S) (nN O),⟨_,rfl⟩,ok _ H ρ .refl ab (by unfold Rep;rfl)⟩
    |true=>
     have J:s.heap.IsTuple p its.toArray:=M
     refine⟨s.heap.objs.size,[s.heap.objs.size,p],[s.heap.objs.size],its.toArray.size,_,_,λi=>bs.getD i 0,rfl,Walks.tuple (A:=X.A.in1) (I.ok.hd T) _ p (á D) _,
      ⟨⟨_,Ð _ rfl,rfl,rfl⟩,J.at λo q=>É _ q⟩,λb L=>?_,λi v R=>k i v ‹R›,λh' S t' O Z=>?_⟩
     ·show b<(s.heap.push _).objs.size;rw[ā];rcases Ù.mp L with rfl|L
      ·exact Ĳ _
      ·rw[ï.mp L];exact Ŷ D
     ·rw[show its.toArray.size=bs.length by simpa using F,preSum_eq bs _ (Ë _),Ĵ];exact⟨.int _,H,I.kept (t':=S) (nN O),⟨_,rfl⟩,ok _ H ρ .refl ab (by unfold Rep;rfl)⟩
theorem Ng{p:Pos}{ml:DS->M X2}(t:X.calm=Ã)(d:X.mg "sum"=Æ)(D:Gl X "sum")(k:QA X EE [e] ml)(h:aq [e]=Ã):QE X EE (.Call (.Name "sum" p) [e] [] pos) (ai um ml):=iX (FZ t) d D PyProof.Rows.boot_sum k (by decide) (by decide) h
noncomputable def Nh(i j l:Nat):kh:=λd τ=>match d with
 |.tup [x,y,z]=>À (((τ.set i (À x)).set j (À y)).set l (À z))
 |_=>Æ
theorem F0{z:Str}{l:Nat}{px Z pz:Pos}{k:Nat}(hc:X.calm=Ã)(M:X.N.Nodup)(U:Loc X.env.scope x)(Y:Loc X.env.scope y)(hz:Loc X.env.scope z)(L:X.fn x=Ã\/X.env.scope.names.lookup x=À .local)(W3:X.fn y=Ã\/X.env.scope.names.lookup y=À .local)(J:X.fn z=Ã\/X.env.scope.names.lookup z=À .local)(hi:X.N[i]?=À x)(hj:X.N[j]?=À y)(V:X.N[l]?=À z):
  QG X (.Tuple [.Name x px,.Name y Z,.Name z pz] k pos) (Nh i j l):=by
 intro pins s σ H v u Q I r zu;obtain⟨τ,ρ,G,d,τ',ab,O,e,q⟩:=zu;refine G7 (n:=3) hc (lK (mL M hi U L) (lK (mL M hj Y W3) (lK (mL M V hz J) C9))) rfl rfl pins s σ H v u Q I r ?_;cases d<;>try (cases e;done)
 rename_i ds
 match ds,e with
 |[d1,d2,d3],e=>w_up;unfold Rep at O;obtain⟨a,vs,rfl,S,D⟩:=O;unfold ao at D;obtain⟨R,vs',rfl,r1,D⟩:=D;obtain⟨F,t,rfl,T,r3⟩:=Dn D;exact⟨a,[R,F,t],rfl,S,rfl,R,[F,t],rfl,F,[t],rfl,t,[],rfl,rfl,q _ (Ab.set (Ab.set (Ab.set ab r1) T) r3)⟩
theorem JR{g:oE}{k:Nat}{B:P3}{V:List (Option Str)}{z:Str}{l q:Nat}(c:Cf X EE g k B sc V W)(s:Cs X scope N)(h:(decide (W[i]?=À (À x))&&(decide (W[j]?=À (À y))&&decide (W[l]?=À (À z))))=Ã):QG X (.Tuple [.Name x px,.Name y py,.Name z pz] q pos) (Nh i j l):=by obtain⟨R,h⟩:=cV h;obtain⟨O,T⟩:=cV h;obtain⟨J,L,F⟩:=c.Oq R;obtain⟨M,t,S⟩:=c.Oq O;obtain⟨I,d,D⟩:=c.Oq T;exact F0 c.hc s.nd L t d F S D J M I
end
section
theorem F1{k:Int}{y:V}{Q:VK}(I:Inv X pins σ H s)(D:H l=À (.lst xs))(hz:xs.length<Ç)(hk:0<=k)(Y:k<1000)(rv:Vals [.int k,y] us)
  (q:Q .bD (upd H l (.lst (xs.take k.toNat++y::xs.drop k.toNat)))):Ú (model X.prog X.w) X.A (call (.builtin "list.insert") (.ref l::us)) (λu U=>∃v H',Inv X pins σ H' U/\RelV v u/\Q v H') X.xe s:=by
 cases rv with
 |cons r1 rr=>
 obtain⟨d,rfl,J⟩:=vals1 rr;obtain⟨t,rfl⟩:=r1;obtain⟨z,its,n,r,hl,e⟩:=I.EG D;have M:-(2^63)<=k:=∅
 have L:k<2^63:=∅
 have R:¬ (!Builtin.List.listFitsIndex k)=Ã:=by rw[fitsIndex_both M L];exact í
 have Z:its.toArray.size<=Ç:=by rw[Ü];lia
 refine call_meets F.slot_list_insert ⟨_,e,rfl⟩ F.entry_list_insert (F.args_list_insert_3 _ _ _) (@AutoListH.list_insert_list_int_val_1 l its.toArray n k t d R Z) ⟨e,?_⟩;have ht:its.take (min k.toNat its.length)=its.take k.toNat:=by
  rcases Nat.le_total k.toNat its.length with h|h
  ·rw[adX h]
  ·rw[adL h,Ĵ,Ę h]
 have O:its.drop (min k.toNat its.length)=its.drop k.toNat:=by
  rcases Nat.le_total k.toNat its.length with h|h
  ·rw[adX h]
  ·rw[adL h,adM,ĺ h]
 refine⟨.bD,_,I.Ht (its':=its.take k.toNat++d::its.drop k.toNat) D e ?_ ((r.take _).append (.cons J (r.drop _))) ?_,rfl,q⟩
 ·apply Array.ext';have S:its.toArray.size=its.length:=by simp
  have T:(if k<0 then (k+its.length).toNat else min k.toNat its.length)=min k.toNat its.length:=Β ∅;simp only[S,T];rw[<- ht,<- O];simp;rw[Ę (by rw[Œ];exact Ë _)]
 ·have:=List.length_take_le k.toNat xs;simp;lia
def pN:D->X2->M D
 |.obj n,[.int k,v]=>λG=>match G[n]? with
  |some (.lst xs)=>if 0<=k/\k<1000/\xs.length<Ç then .ok .bD (G.set n (.lst (xs.take k.toNat++v::xs.drop k.toNat))) else .stuck
  |_=>.stuck
 |_,_=>M.stop
theorem Cv:GP X "list.insert" (Ob X EE pN):=by
 kcj_m
 rename_i n
 match ds,ok with
 |[],ok=>left
 |[y],ok=>cases y<;>exact ok.elim
 |y::_::_::_,ok=>cases y<;>exact ok.elim
 |[y,z],ok=>
  cases y<;>try exact ok.elim
  rename_i k;unfold ao at wc;obtain⟨S,F,rfl,L,wc⟩:=wc;obtain⟨R,rfl,M⟩:=f7 wc;unfold Rep at L;subst L;unfold Rep at rd;obtain⟨p,rfl,e1⟩:=rd;dsimp only[pN]at ok;cases g:G[n]? with
  |none=>o_new
  |some o=>
   cases o with
   |lst zs=>
    room;ac_nf;obtain⟨O,vs,e2,J,D⟩:=ab.hp.lst g;k_put;by_cases t:0<=k/\k<1000/\zs.length<Ç
    ·rw[Α t]at ok;cases rx;exact F1 I J (by rw[<- D.length];exact t.2.2) t.1 t.2.1 E2 (tD (xs:=zs) ab e1 J ((D.take _).append (.cons M (D.drop _))) (λ_ _=>by unfold Rep;rfl) ok)
    ·rw[Β t]at ok;left
   |_=>o_new
section
variable{o e2:Expr}{apos:Pos}
theorem F2(D:QE X EE o mo)(t:QA X EE [e,e2] m)(k:kG o=Ã)(h:aq [e,e2]=Ã)(d:(apos.endLine==cpos.line)=Ã):QE X EE (.Call (.Attribute o "insert" apos) [e,e2] [] cpos) (bu "list" pN mo m):=by
 have h':bT e=Ã/\aq [e2]=Ã:=by simpa[aq]using h
 exact Dp ū PySem.F.slot_list_insert PySem.F.type_list_insert Cv D t (f6 k _ _) (tM h ⋯) d (bx h'.1 _ _) (bA h'.2)
end
end
section
variable{a b:Expr}{ma mb:Y2}
abbrev wL:=aP (λi j=>decide (0<=j)&&decide ((ac4 i:Int)*j<=2^27)) λi j=>.int (i^j.toNat)
theorem Ni:gW X (binaryOp .Pow) (rI (λi j=>0<=j/\(ac4 i:Int)*j<=2^27) λi j=>.int (i^j.toNat)):=S2 λ_ _ _ _ _ _ _ d q=>PyProof.Rows.pow_int d.1 d.2 q
theorem Nj(k:QE X EE a ma)(d:QE X EE b mb):QE X EE (.BinOp a .Pow b pos) (aj wL ma mb):=rj Ni (oU (λi j h=>by simpa using h) λ_ _ _ _=>by unfold Rep;rfl) k d
end
section
variable{g:oE}{k:Nat}{B:P3}{st:Stmt}
theorem F3(M:rK g.K g.mg x n N st)(O:jZ g.mg B)(S:gX N (N.take n) (au st))(J:(N.take n).length=n)(V:N.length=nn)
  (U:∀(T:Addr)(kV D F:Å)(L:Option Addr)(t I:Å)(d:List Å),d.length=(N.take n).length->∃k:Option (Array Å)->Sem (List (Str×Å)),bindArgs (Ą x x (c9 st) (bE st) (au st) (.ref T) kV D F L t I) ⟨d,[]⟩=seqItems? (.ref T) >>= k/\k (À #[.none])=pure ((N.take n).zip d))
  (R:∀(T:Addr)(kV D F:Å)(L:Option Addr)(t I:Å)(d:List Å),d.length+1=(N.take n).length->∃k:Option (Array Å)->Sem (List (Str×Å)),bindArgs (Ą x x (c9 st) (bE st) (au st) (.ref T) kV D F L t I) ⟨d,[]⟩=seqItems? (.ref T) >>= k/\k (À #[.none])=pure ((N.take n).zip (d++[.none])))
  (body:∀(X:Cx)(EE:bF),Cf X EE g k B (au st) (Co (au st) N) (FH Ã (au st) N)->Cs X (au st) N->qh X EE (bE st) ms):gB g x (k+1) n (λds=>cj nn ms ds):=(Aj M O S J V U R body).1
end
theorem YO(n:Nat)(h:∀d:List Å,d.length=n->p d):∀d:List Å,d.length+1=n+1->p d:=λd e=>h d (Nat.succ.inj e)
theorem Am(h:∀I t D J k F,p [I,t,D,J,k,F]):∀d:List Å,d.length=6->p d:=λd e=>by rcases d with _|⟨I,_|⟨t,_|⟨D,_|⟨J,_|⟨k,_|⟨F,_|⟨z,L⟩⟩⟩⟩⟩⟩⟩<;>first|exact h I t D J k F|(cases e;done)
section
variable{g:oE}{k:Nat}{st:Stmt}
theorem JS(D:yc g.K g.mg x n N st)(I:yd st x (N.take n)):gB g x k n (λ_=>M.stop):=by obtain⟨f,d,F,t⟩:=D;exact⟨f,d,_,M3,t,F.kp,F.binds I⟩
end
section
variable{g:oE}{k:Nat}{B:P3}{V:List (Option Str)}{p:Pos}
theorem JT(c:Cf X EE g k B sc V W)(C:gB g x k n mf)(h:(tZ sc x .globalImplicit&&(Lm x&&aq (e::es)))=Ã)(F:QA X EE (e::es) m):QE X EE (.Call (.Name x p) (e::es) [] pos) (aF n mf m):=by obtain⟨d,h⟩:=cV h;obtain⟨L,I⟩:=cV h;obtain⟨f,R,S,D,J,t,O,M⟩:=C.at c (Ë _);exact Dv D J t O M (Mh c.hx) (c.gl x d) (ua L) F I
end
section
variable{g:oE}{k:Nat}{st:Stmt}
theorem uo{MM:Nat->X2->M D}{F:(X2->M D)->X2->M D}(d:yc g.K g.mg x n N st)(t:yd st x (N.take n))(I:MM 0=λ_=>M.stop)(es:∀i,MM (i+1)=F (MM i))
  (J:∀i,gB g x (i+k) n (MM i)->gB g x (i+k+1) n (F (MM i))):∀j,gB g x (j+k) n (MM j)
 |0=>by rw[I];exact JS d t
 |j+1=>by rw[es,show j+1+k=j+k+1 by lia];exact J j (uo d t I es J j)
end
section
variable{g:oE}{B:P3}{Vs:List (Option Str)}{a:Expr}{ma:Y2}{oB:List (Str×Bool)}
structure Cw(X:Cx)(sc:Scope)(N:P3):Prop where
 nd:X.N.Nodup
 hs:X.env.scope=sc
 hN:X.N=N
theorem F4{d:Stmt}{m:MS}(c:Ck X g B sc N Vs)(C:FO g x oB)(h:(tZ sc x .globalImplicit&&Lm x)=Ã)
  (D:∀(X:Cx),Ch X g B sc Vs->Cw X sc N->qh X Yt (d::suite) m) (F:QH X EE rest mr):QH X EE (.ExceptHandler (À (.Name x np)) Æ (d::suite) pos::rest) (tF (λn=>oB.lookup n) m mr):=by
 obtain⟨I,t,k⟩:=C;exact Mk (by rw[c.h.eq.2];exact t) (by rw[c.h.eq.1,c.h.eq.2];exact k) (c.h.gl x (cV h).1) (ua (cV h).2).1 (λe=>D _ ⟨c.h.eq,c.h.vis,c.h.gl,c.h.bl,c.h.hu⟩ ⟨c.nd,c.hs,c.hN⟩) F
end
section
variable{A B R:DH}{e ma mb mc:Y2}{d:D}{c:XD}{ml:DS->M X2}{xs ys:X2}{m:X2->M D}
@[simp]def j0:nV τ G=.ok (.obj G.length) (G++[.aO Ä []]):=î rfl rfl
@[simp]def kP:i9 ma mb τ G=(ma τ G).bd λd=>(mb τ).bind λk=>lZ d k:=aJ
@[simp]def JU:l7 ma mb τ G=(ma τ (G++[.aO Ä []])).bd λk=>(mb τ).bind λv=>(gc v (.obj G.length) k).bind λ_=>M.ret (.obj G.length):=by unfold l7;rw[aJ]
@[simp]def uq:jE ma mb mc τ G=((ma τ G).bd λv=>(mb τ).bind λo=>(mc τ).bind λi=>gc v o i).xp τ:=by unfold jE bI Out.xp;rw[aJ];cases ((ma τ G).bd λv=>(mb τ).bind λo=>(mc τ).bind λi=>gc v o i)<;>rfl
@[simp]def JW:Jw e τ G=(e τ G).bd λd G=>match d with
 |.obj n=>match G[n]? with
  |some (.aO _ kvs)=>.ok (kvs.length+1,Cj kvs) (G.set n (.aO Ã kvs))
  |_=>.stuck
 |_=>.stuck:=aJ
@[simp]def Nk:zZ ml τ G=(ml τ G).bd λds=>match ds with
 |[d,e]=>λG=>match b8 G d,b8 G e with
  |some (_,xs),À (_,ys)=>.ok (min xs.length ys.length+1,ny d e) G
  |_,_=>.stuck
 |_=>M.stop:=aJ
theorem DK{body:MS}:ng g body (Cj kvs) (kvs.length+1) 0 τ G=bh g body (kvs.map λk=>.tup (k.1.map Ce)) τ G:=by
 have:=i8 (g:=g) (body:=body) (xs:=kvs.map λk=>D.tup (k.1.map Ce)) (vw:=Cj kvs) (λG i h=>by simp only[Û]at h;simp only[Cj,Α h,Þ]) (kvs.length+1) 0 τ G ⋯ ⋯
 f_are
theorem wM{body:MS}:ng g body (i7 xs) (xs.length+1) 0 τ G=bh g body (xs.mapIdx λi x=>.tup [.int i,x]) τ G:=by
 have:=i8 (g:=g) (body:=body) (xs:=xs.mapIdx λi x=>D.tup [.int i,x]) (vw:=i7 xs) (λG i h=>by simp only[abJ]at h;simp only[i7,Α h,ē]) (xs.length+1) 0 τ G ⋯ ⋯
 f_are
theorem F5:lR gO ks tt te n (ny (.tup xs) (.tup ys)) (min xs.length ys.length+1) 0 τ G=cK gO ks tt te n (õ (λx y=>.tup [x,y]) xs ys) τ G:=by
 have:=qH (n:=n) (gO:=gO) (ks:=ks) (tt:=tt) (te:=te) (xs:=õ (λx y=>D.tup [x,y]) xs ys) (vw:=ny (.tup xs) (.tup ys)) (λG i h=>by simp only[ny,b8,ak,acJ];cases xs[i]?<;>cases ys[i]?<;>rfl) (min xs.length ys.length+1) 0 τ G ⋯ ⋯
 f_are
theorem JX{body:MS}:ng g body (ny (.tup xs) (.con ys)) (min xs.length ys.length+1) 0 τ G=bh g body (õ (λx y=>.tup [x,y]) xs ys) τ G:=by
 have:=i8 (g:=g) (body:=body) (xs:=õ (λx y=>D.tup [x,y]) xs ys) (vw:=ny (.tup xs) (.con ys)) (λG i h=>by simp only[ny,b8,ak,acJ];cases xs[i]?<;>cases ys[i]?<;>rfl) (min xs.length ys.length+1) 0 τ G ⋯ ⋯
 f_are
end
def nW:X2->M D
 |[d]=>λG=>match ak G d with
  |some (.lst xs)=>match strsOf xs with
   |some k=>if k.Nodup/\k.length<60 then aR ((aT k).map .str) G else .stuck
   |none=>.stuck
  |_=>.stuck
 |_=>M.stop
def DM(d:Bool):D->D->M D
 |.bl a,.bl b=>M.ret (.bl (d ^^ (a==b)))
 |_,_=>M.stop
def kQ:D->M D
 |.obj n=>λG=>match G[n]? with
  |some (.aO Ä _)=>.ok .bD (G.set n (.aO Ä []))
  |_=>.stuck
 |_=>M.stop
section
theorem Nl:gW X (compareOp .IsNot) (λx y H Q=>∃a b,x=.bl a/\y=.bl b/\Q (.bl (!(a==b))) H):=by by_in;obtain⟨a,b,rfl,rfl,q⟩:=h;cases rx;cases ry;refine wpAny_isNot_plain (by cases a<;>cases b<;>rfl) (sP I q ?_);cases a<;>cases b<;>rfl
theorem JY:gW X (compareOp .IsNot) (rD X EE (DM Ã)):=tu Nl λD H τ ρ G x y d e Q ab t k ok=>by
 k_asm
 cases e<;>try exact ok.elim
 rename_i a b;unfold Rep at t k;exact⟨a,b,t,k,ok _ H ρ .refl ab (by unfold Rep;simp)⟩
end
end
end L3
namespace HT
noncomputable section
open PySem PyProof.Rows L2
open PySem.SeqAt
end
end HT
namespace L3
noncomputable section
open PySem PySem.Spec L2
end
end L3
namespace PySem
noncomputable section
namespace F
end F
end
end PySem
namespace L3
noncomputable section
open PySem PySem.Spec L2
variable{Q:Option Å->Ê->Prop}{its vs us:List Å}{first v:Å}{P:Nat->Å->Prop}{es':Array (Int×Å)}{es:List (Int×Å)}{pins:N0}{h h0 H1:Heap}{a I:Addr}{g:Bool->Sem Unit}{x:Str}{wr:Q1}{σ l:P3}{t':SetTable}{prog:ð}{s:Ê}{w:Ć}{o:Obj}{n i ep:Nat}
section
variable{g:oE}{k nn:Nat}{B N:P3}{mf:X2->M D}{st:Stmt}{ms:MS}
theorem F6(D:rK g.K g.mg x n N st)(j:jZ g.mg B)(S:gX N (N.take n) (au st))(e:(N.take n).length=n)(r:N.length=nn)
  (q:∀(T:Addr)(kV d p:Å)(f:Option Addr)(c b:Å)(u:List Å),u.length=(N.take n).length->∃k:Option (Array Å)->Sem (List (Str×Å)),bindArgs (Ą x x (c9 st) (bE st) (au st) (.ref T) kV d p f c b) ⟨u,[]⟩=seqItems? (.ref T) >>= k/\k (À #[.none])=pure ((N.take n).zip u))
  (m:∀(T:Addr)(kV d p:Å)(f:Option Addr)(c b:Å)(u:List Å),u.length+1=(N.take n).length->∃k:Option (Array Å)->Sem (List (Str×Å)),bindArgs (Ą x x (c9 st) (bE st) (au st) (.ref T) kV d p f c b) ⟨u,[]⟩=seqItems? (.ref T) >>= k/\k (À #[.none])=pure ((N.take n).zip (u++[.none])))
  (body:∀(X:Cx)(EE:bF),Cf X EE g k B (au st) (Co (au st) N) (FH Ã (au st) N)->Cs X (au st) N->qh X EE (bE st) ms):JN g x (k+1) n (λds=>cj nn ms ds):=(Aj D j S e r q m body).2
end
def strOf:Å->Str
 |.str x _=>x
 |_=>⟨#[]⟩
def cG(w:Ć):Bool:=w.params.followText "set-order"
def eS(es:Array (Int×Å))(ep:Nat)(t:SetTable):Obj:={cls:=.type "set",data:=.set es ep t}
structure kR(prog:ð)(w:Ć)(l:P3)(es:Array (Int×Å))(t:SetTable):Prop where
 fits:t.fits es.size=Ã
 led:t.led=!(cG w)
 pl:t.plain=Ã->es.size=0
 el:ElemsOf (strKind prog w) es.toList
 pm:(es.toList.map λe=>strOf e.2).Perm l
def SetT(prog:ð)(w:Ć)(l:P3)(o:Obj):Prop:=∃es ep t,o=eS es ep t/\kR prog w l es t
section
variable{A:Around}{E:Å->Ê->Prop}{es:Array (Int×Å)}{t:SetTable}
theorem kR.len(h:kR prog w l es t):es.size=l.length:=‹h.pm.length_eq›
theorem JZ(h:(strKind prog w).is x v=Ã):strOf v=x:=by obtain⟨t,rfl⟩:=Value.isStrOf_shape h;rfl
theorem kR.none(h:kR prog w l es t){x:Str}(c:x∉l):es.toList.findIdx? (λe=>(strKind prog w).is x e.2)=Æ:=by
 rw[List.findIdx?_eq_none_iff];intro e b;cases q:(strKind prog w).is x e.2 with
 |false=>rfl
 |true=>exact absurd (h.pm.mem_iff.mp (ä.mpr ⟨e,b,JZ q⟩)) c
theorem kR.more(h:kR prog w l es t){x:Str}{b:Tok}{e:Array (Int×Å)}{t':SetTable}(p:e.toList.Perm (es.toList++[((strKind prog w).hash x,.str x b)]))(f:t'.fits e.size=Ã)(d:t'.led=t.led)(c:t'.plain=Ä):
  kR prog w (l++[x]) e t':=
 ⟨f,d.trans h.led,λk=>(by rw[c]at k;cases k),(h.el.push (strKind_is _ _ x b) rfl).perm p,(p.map _).trans (by rw[ø];exact h.pm.append_right _)⟩
theorem kR.UO(h:kR prog w l es t){e:Array (Int×Å)}{t':SetTable}(p:e.toList.Perm es.toList)(f:t'.fits e.size=Ã)(c:t'.led=t.led)(b:t'.plain=Ã->t.plain=Ã):
  kR prog w l e t':=
 ⟨f,c.trans h.led,λk=>by have:=p.length_eq;rw[ĝ,ĝ]at this;rw[this];exact h.pl (b k),h.el.perm p,(p.map _).trans h.pm⟩
theorem F7(t:SetTable)(n:Nat):(t.orStandIn n).led=t.led/\((t.orStandIn n).plain=Ã->t.plain=Ã):=by
 unfold SetTable.orStandIn;split
 ·exact⟨rfl,id⟩
 ·exact⟨rfl,λh=>by cases h⟩
theorem Cy(t:SetTable)(es:Array (Int×Å))(h:Int)(x:Å):(layNew t es h x).2.1.led=t.led/\((layNew t es h x).2.1.plain=Ã->t.plain=Ã):=by
 unfold layNew;split
 ·rename_i j d _;exact F7 (t.put j).1 _
 ·exact⟨rfl,λh=>by cases h⟩
theorem F8(t:SetTable)(es:Array (Int×Å))(n:Nat):(relayAll t es n).2.1.led=t.led/\((relayAll t es n).2.1.plain=Ã->t.plain=Ã):=by
 unfold relayAll;split
 ·rename_i t' b e;unfold SetTable.relaid SetTable.laid at e;cases q:SetTable.layClean (SetTable.sizeAbove n-1) (es.map (·.1))with
  |none=>f_int
  |some c=>
   f_int;k_in;split
   ·exact⟨rfl,id⟩
   ·exact⟨rfl,λh=>by cases h⟩
 ·exact⟨rfl,λh=>by cases h⟩
theorem sF(b:h.get? a=À (eS es ep t)):(h.update a (ad7 es' t')).get? a=À (eS es' (ep+1) t'):=by have:=ò (ad7 es' t') b (by rw[putSet_of es' t' (rfl:(eS es ep t).data=_)];rfl);rw[putSet_of es' t' (rfl:(eS es ep t).data=_)]at this;exact this
theorem An(B:∀(b:Bool) (f:Ê) (q:Unit->Ê->Prop),q () f->Ú (model prog w) A (g b) q E f){ep:Nat}(j:s.heap.get? a=À (eS es ep t))
  {c:Array (Int×Å)} {d:SetTable} (D:kR prog w l c d) (C:l.length<64) {y:Bool} {R:Option Bool->Ê->Prop}
  (h:∀h' o,Į a s.heap h'->h'.get? a=À o->SetT prog w l o->R (À Ã) {s with heap:=h'}):
  Ú (model prog w) A (do
    storeSet a c d
    if (!y&&d.tooFull)=Ã then do
      g (relayAll d c (ż c.size)).2.2
      storeSet a (relayAll d c (ż c.size)).1 (relayAll d c (ż c.size)).2.1
      pure (À Ã)
     else pure (À Ã)) R E s:=by
 have z:∀X:Array (Int×Å),X.size=c.size->X.size<=Ç:=λX e=>by rw[e,D.len,sizeLine_eq];lia
 refine Á (adx j rfl ?_ (z _ rfl));have p:=Ğ s.heap a (ad7 c d);split
 ·have r:=relayAll_perm d c (ż c.size);have u:=relayAll_fits d c (ż c.size);obtain⟨k,m⟩:=F8 d c (ż c.size);refine Á (B _ _ _ ?_);have hsz:=r.length_eq;rw[ĝ,ĝ]at hsz;refine Á (adx (sF j) rfl ?_ (z _ hsz));exact È (h _ _ (p.trans (Ğ _ a _)) (sF (sF j)) ⟨_,_,_,rfl,D.UO r u k m⟩)
 ·exact È (h _ _ p (sF j) ⟨_,_,_,rfl,D⟩)
theorem J0{tk:Tok}{Q:Bool->Ê->Prop}(ho:s.heap.get? a=À o)(hS:SetT prog w l o)(hx:x∉l)(hl:l.length<60)
  (h:∀h' o',Į a s.heap h'->h'.get? a=À o'->SetT prog w (l++[x]) o'->Q Ã {s with heap:=h'}):
  Ú (model prog w) A (setAddHashed a (.str x tk) ((strKind prog w).hash x)) Q E s:=by
 obtain⟨es,ep,t,rfl,D⟩:=hS;have b1:es.size<scanBound:=by rw[D.len];unfold scanBound;lia
 unfold setAddHashed setAddHashedIn;refine ė (Á (ī ho rfl D.fits ?_));k_in;rw[byScan_of rfl b1 D.el];simp only[↓reduceIte];unfold setAddByScan;k_get;refine Á (aat ?_);refine Á (wpAny_setScan_of (strKind_is _ _ x tk) ho rfl D.fits D.el ?_);rw[D.none hx];k_in
 have Xq:∀(b:Bool)(s₁:Ê)(Q':Unit->Ê->Prop),Q' () s₁->Ú (model prog w) A (match b with|true=>rule "set.scan.the-table-gave-way" |false=>pure ()) Q' E s₁:=
  λb s₁ Q' hq=>by cases b<;>first|exact È hq|exact aat hq
 have hp:=layNew_perm t es ((strKind prog w).hash x) (.str x tk);have hf:=layNew_fits t es ((strKind prog w).hash x) (.str x tk);obtain⟨hl1,hl2⟩:=Cy t es ((strKind prog w).hash x) (.str x tk);rw[ady]at hp;generalize layNew t es ((strKind prog w).hash x) (.str x tk)=L at hp hf hl1 hl2 |-;obtain⟨es1,t1,wd,Xr⟩:=L;dsimp only at hp hf hl1 hl2 |-;refine Á (Xq Xr _ _ ?_);have hend:∀t2:SetTable,t2.fits es1.size=Ã->t2.led=t1.led->t2.plain=Ä->kR prog w (l++[x]) es1 t2:=λt2 g1 g2 g3=>D.more hp g1 (g2.trans hl1) g3;have hl':(l++[x]).length<64:=by simp;lia
 split
 ·k_get;rw[hashByValue_scannable 8 (x:=.str x tk) rfl];refine È ?_;refine An Xq ho (hend _ (SetTable.fits_plain_off hf) rfl rfl) hl' ?_;intro h' o' g1 g2 g3;exact È (h h' o' g1 g2 g3)
 ·rename_i hq;k_upd;simp only[↓reduceIte];refine An Xq ho (hend _ hf rfl ‹hq›) hl' ?_;intro h' o' g1 g2 g3;exact È (h h' o' g1 g2 g3)
end
section
variable{A:Around}{E:Å->Ê->Prop}
theorem F9:SetT prog w [] (eS #[] 0 (.fresh 0 0 (!(cG w)))):=⟨_,_,_,rfl,rfl,rfl,λ_=>rfl,(by intro e b;cases b),aea.refl _⟩
theorem J1{R:Result->Ê->Prop}{S:Addr}{fp:Q1}{St:Nat->Heap->Prop}(W:Walks prog w A.in1 I fp wr l.length P St)(M:S∉fp)(Z:l.Nodup)(hl:l.length<60)
  (hv:∀i v,P i v->∃x t,l[i]?=À x/\v=.str x t):
  ∀(k i:Nat)(s:Ê)(o:Obj),l.length-i=k->i<=l.length->St i s.heap->s.heap.get? S=À o->SetT prog w (l.take i) o ->
   (∀h' tk N,(∀b u,b∉S::wr->s.heap.get? b=À u->h'.get? b=À u)->h'.get? S=À N->SetT prog w l N->R (.ok (.ret .none)) {s with heap:=h',toks:=tk}) ->
   codeAny (model prog w) A (.builtin "set.update.loop" ⟨[.ref S,.ref I],[]⟩) R s:=by
 have O:S∉wr:=λh=>M (W.sub _ h);intro k
 induction k with
 |zero=>
  intro i s o T U st F p r;have e:i=l.length:=∅
  kpc_g;rw[Ĵ]at p;refine codeAny_builtin aaf ?_;rw[Ş ō _];show Ú _ A.in1 (pyNext (.ref I) >>= _) _ _ s;refine Á (W.done s _ _ st λh' tk f=>?_);exact È (r h' tk o (λb u c=>f b u λz=>c (å _ z)) (f S o O F) p)
 |succ k V=>
  intro i s o T U st F p r;have d:i<l.length:=∅
  refine codeAny_builtin aaf ?_;rw[Ş ō _];show Ú _ A.in1 (pyNext (.ref I) >>= _) _ _ s;refine Á (W.item i s _ _ d st λv h' tk hP D f=>?_);obtain⟨x,t,L,rfl⟩:=hv i v hP;show Ú _ A.in1 (holding [Value.str x t] (setAdd S (.str x t)) >>= _) _ _ _;refine Á (ė ?_);unfold setAdd;refine ė ?_;refine Á ((strKind prog w).pyHash (k:=x) (strKind_is _ _ _ _) ?_);have B:x∉l.take i:=by
   intro Y;obtain⟨j,hj,e⟩:=Ļ Y;rw[ſ]at hj;have e2:l[j]?=À x:=by rw[<- e,List.getElem_take,Í ∅]
   have:=(List.getElem?_inj ∅ Z).mp (e2.trans L.symm);lia
  refine J0 (s:={s with heap:=h',toks:=tk+1}) (f S o O F) p B (by rw[ſ];lia) λX o2 K J m=>?_;have et:l.take i++[x]=l.take (i+1):=by rw[List.take_add_one,L];rfl
  rw[et]at m;refine È ⟨plainId_quiet ō _,V (i+1) _ o2 ∅ d (W.frame _ _ _ D λb c u e=>?_) J m λh3 G o3 y H q=>?_⟩
  ·rw[K.2 b (λz=>M (z▸c))];exact e
  ·refine r h3 G o3 (λb u c e=>y b u c ?_) H q;have C:b≠S:=λz=>c (z▸ć);show X.get? b=À u;rw[K.2 b C];exact f b u (λz=>c (å _ z)) e
theorem Nm(x:Å){Q₁:Å->Ê->Prop}(h:Q₁ (.ref s.heap.objs.size) {s with heap:=s.heap.push (eS #[] 0 (.fresh 0 0 (!(cG w))))}):
  codeAny (model prog w) A (.call (.builtin "set.__new__") ⟨[.type "set",x],[]⟩) (wants Q₁ E) s:=by
 refine codeAny_of_tree ?_;show Ú _ A.in1 (do checkBuiltinCall "set.__new__" ⟨[.type "set",x],[]⟩;again (.builtin "set.__new__" ⟨[.type "set",x],[]⟩)) _ _ s;refine Á (aa8 (F.newCall_set_1 x) (È ⟨plainId_quiet adY _,codeAny_builtin F.entry_set_new ?_⟩));rw[Ş adY _];unfold ŝ.«set.__new__» Builtin.Frozenset.newClass;have b:=sub_set_self;obtain⟨c,g,d,t,e⟩:=s;k_in
 wp_walk
 refine Ħ (È ?_);k_in;simp only[newObj];refine Á (wpAny_alloc (È ?_));exact È h
theorem J2{S:Addr}{Q:Result->Ê->Prop}(O:A.handled=Æ)(K:h0.IsList a its.toArray)(C:û its l)(N:l.Nodup)(r:l.length<60)
  (G:H1.get? S=À (eS #[] 0 (.fresh 0 0 (!(cG w))))) (hsz:H1.objs.size=S+1) (J:∀b u,h0.get? b=À u->H1.get? b=À u) (c:a<S)
  (h:∀h' tk o,h'.get? S=À o->SetT prog w l o->(∀b u,b≠S->H1.get? b=À u->h'.get? b=À u)->Q (.ok (.ret .none)) {s with heap:=h',toks:=tk}):
  Ú (model prog w) A.in1 (ŝ.«set.__init__» ⟨[.ref S,.ref a],[]⟩)
   (λp m=>match p with|.done f=>Q (.ok f) m|.again D=>D.quiet=Ã/\codeAny (model prog w) A D Q m) (λe m=>Q (.error e) m) {s with heap:=H1}:=by
 obtain⟨L,Of,d,nl,j⟩:=K;obtain⟨aay,YQ,YR,Xs⟩:=L;simp only at d j;subst d j;have X:=J _ _ Of;have M:=F.sub_list_set;have U:=F.sub_list_frozenset;have T:(Value.type "list"==Value.type "dict")=Ä:=by decide
 have k:H1.IsList a its.toArray:=⟨_,X,rfl,nl,rfl⟩;have V:=G;unfold eS at V;unfold ŝ.«set.__init__» noKeywords Builtin.Frozenset.updateFrom;generalize q:pyIter=PI
 wp_walk
 subst q;refine aaJ k ?_;refine Á (wpAny_runValue ?_);have Xv:a≠H1.objs.size:=by rw[hsz];exact á (Ŷ c)
 have B:S∉[H1.objs.size,a]:=by simp only[Ù,ě,or_false,not_or];rw[hsz];exact⟨á (Ĳ _),ž c⟩
 have el:its.toArray.size=l.length:=by rw[Ü];exact C.length
 have W:=ad6 (prog:=prog) (w:=w) (A:=A.in1.in1) (by simp[O]) _ a Xv its.toArray;rw[el]at W;refine J1 W B N r (λi v Z=>?_) _ 0 _ _ rfl (ê _) ⟨⟨_,Ð _ rfl,rfl,rfl⟩,k.push _⟩ (É _ G) F9 ?_
 ·obtain⟨y,t,H,Y⟩:=C.item i v ‹Z›;exact⟨y,t,Y,H⟩
 ·intro h' tk o R ho hT;refine È ?_;show Ú _ _ (ret Value.none) _ _ _;refine È (h h' tk o ho hT λb u r e=>R b u ?_ (É _ e));have z:=Õ e;simp only[Ù,ě,or_false,not_or];exact⟨r,á z⟩
theorem Ga{Q:Å->Ê->Prop}(J:A.handled=Æ)(B:s.heap.IsList a its.toArray)(D:û its l)(H:l.Nodup)(M:l.length<60)
  (h:∀h' tk o,h'.get? s.heap.objs.size=À o->SetT prog w l o->(∀b u,s.heap.get? b=À u->h'.get? b=À u)->Q (.ref s.heap.objs.size) {s with heap:=h',toks:=tk}):
  Ú (model prog w) A (call (.type "set") [.ref a]) Q E s:=by
 obtain⟨c,U,G⟩:=Ų.mro;have y:=Ų.made;have C:=Ų.sub;refine ad5 (codeAny_of_tree ?_);show Ú _ _ (callAny (.type "set") _) _ _ _;refine È ⟨Code.quiet_builtin _ (by symm),codeAny_builtin F.entry_type_call ?_⟩;rw[Around.under_plain (weight_type_call_type "set" [.ref a] []) rfl];have S:=Ų.notType;have O:=Ų.canCreate;have K:=F.typeCall_set_1 (.ref a)
 repeat (any_goals (first|assumption|wp_step))
 refine codeAny_mono (Nm (.ref a) (E:=E) (Q₁:=λv d=>v=.ref s.heap.objs.size/\d={s with heap:=s.heap.push (eS #[] 0 (.fresh 0 0 (!(cG w))))}) ⟨rfl,rfl⟩) λr d t=>?_;cases r with
 |error e=>exact t
 |ok fl=>
  cases fl with
  |ret obj=>
   obtain⟨rfl,rfl⟩:=t;have p:(s.heap.push (eS #[] 0 (.fresh 0 0 (!(cG w))))).get? s.heap.objs.size=À (eS #[] 0 (.fresh 0 0 (!(cG w)))):=Ð _ rfl;have j:Shared.TypeIs {s with heap:=s.heap.push (eS #[] 0 (.fresh 0 0 (!(cG w))))} (.ref s.heap.objs.size) "set":=⟨_,p,rfl⟩;have L:=Ų.init.lookup;have N:=Ų.init.bind (.ref s.heap.objs.size)
   repeat (any_goals (first|assumption|wp_step))
   refine codeAny_mono (codeAny_call_builtin (R:=wants (λr f=>r=.none/\∃h' tk o,f={s with heap:=h',toks:=tk}/\h'.get? s.heap.objs.size=À o/\SetT prog w l o/\(∀b u,s.heap.get? b=À u->h'.get? b=À u)) E)
     Ų.init.plain F.entry_set_init (check_set_init_1 j ?_)) λr₂ f X=>?_
   ·have hsz:(s.heap.push (eS #[] 0 (.fresh 0 0 (!(cG w))))).objs.size=s.heap.objs.size+1:=ā ..;have k:∀b u,s.heap.get? b=À u->(s.heap.push (eS #[] 0 (.fresh 0 0 (!(cG w))))).get? b=À u:=λb u e=>É _ e;generalize s.heap.push (eS #[] 0 (.fresh 0 0 (!(cG w))))=T at p j hsz k;exact J2 (A:=A.in1) (by simp[J]) B D H M p hsz k (let ⟨_,e,_⟩:=B;Õ e) λh' tk o z j q=>⟨rfl,h',tk,o,rfl,z,j,λb u e=>q b u (á (Õ e)) (k b u e)⟩
   ·cases r₂ with
    |error e=>exact X
    |ok fl₂=>
     cases fl₂ with
     |ret r=>
      obtain⟨rfl,h',tk,o,rfl,z,m,k⟩:=X
      repeat (any_goals (first|assumption|wp_step))
      exact h _ _ _ z m k
     |_=>exact X.elim
  |_=>exact t.elim
end
namespace HS
theorem slot_next:Slot "set_iterator" "__next__" "set_iterator.__next__":=
 .of (owner:="set_iterator") (n:="__next__") (by rw[typeLookup_type,builtinLookup_eq_fast];kernel_rfl) (by symm) (by symm) (by symm)
  (by first|exact .inl (by symm)|exact .inr (by symm)) (by rw[isSubtype_type];kernel_rfl)
theorem entry_next:entryFor table "set_iterator.__next__"=À ŝ.«set_iterator.__next__»:=entryFor_of_tree (by kernel_rfl)
theorem Ao:Manifest.owners.lookup (String.ofList "set_iterator".toList.reverse.reverse)=À Manifest.sig_set_iterator:=by kernel_rfl
theorem args_next(a:Å):argsOk "set_iterator.__next__" ⟨[a],[]⟩:=by unfold argsOk;rw[signature?_of (id:="set_iterator.__next__") (n:="__next__".toList.reverse) (o:="set_iterator".toList.reverse) (by kernel_rfl) Ao];kernel_rfl
theorem DP:Slot "set_iterator" "__iter__" "set_iterator.__iter__":=
 .of (owner:="set_iterator") (n:="__iter__") (by rw[typeLookup_type,builtinLookup_eq_fast];kernel_rfl) (by symm) (by symm) (by symm)
  (by first|exact .inl (by symm)|exact .inr (by symm)) (by rw[isSubtype_type];kernel_rfl)
theorem Cz:entryFor table "set.__iter__"=À ŝ.«frozenset.__iter__»:=entryFor_alias (id':="frozenset.__iter__") (by kernel_rfl) rfl (by symm) (by kernel_rfl)
end HS
theorem nX{b:Type}:∀{l:List b}{i:Nat}(h:i<l.length),(l[i]::l.eraseIdx i).Perm l
 |x::l,0,_=>.refl _
 |x::l,i+1,h=>((aea.swap ..).trans ((nX (Nat.lt_of_succ_lt_succ h)).cons x))
theorem wN{c:Type}(next:Nat->Nat):∀(f k:Nat)(l:List c)(out:Array c),l.length<=f->(acv next f k l out).toList.Perm (out.toList++l)
 |0,k,l,out,h=>by rw[ŭ.mp (Nat.le_zero.mp h)];simp[acv]
 |f+1,k,[],out,h=>by simp[acv]
 |f+1,k,x::l,out,h=>by have b:next k%(x::l).length<(x::l).length:=Nat.mod_lt _ ⋯;unfold acv;rw[Í b];k_in;have d:=wN next f (k+1) ((x::l).eraseIdx (next k%(x::l).length)) (out.push (x::l)[next k%(x::l).length]) (by rw[acU,Α b];simp at h |-;lia);refine d.trans ?_;rw[ady,â];exact(nX b).append_left _
section
variable{A:Around}{E:Å->Ê->Prop}{es:Array (Int×Å)}{t:SetTable}{it:Addr}
theorem yg{src:Source}{Q:Nat->Ê->Prop}(b:n≠0)(h:∀i dr,i<n->Q i {s with drawn:=dr}):Ú (model prog w) A (choose src n) Q E s:=λc p _=>by unfold choose;rw[Sem.wp_choose];exact⟨b,h _ _ (Nat.mod_lt _ (Nat.pos_of_ne_zero b))⟩
theorem DQ{e:Type}:∀(n:Nat)(xs:List e)(s:Ê){Q:List e->Ê->Prop},xs.length<=n->(∀ys dr,ys.Perm xs->Q ys {s with drawn:=dr})->Ú (model prog w) A (drawOrder n xs) Q E s
 |0,xs,s,Q,h,b=>by rw[ŭ.mp (Nat.le_zero.mp h)]at b |-;exact È (b _ s.drawn (.refl _))
 |n+1,[],s,Q,h,b=>È (b _ s.drawn (.refl _))
 |n+1,x::l,s,Q,h,b=>by unfold drawOrder;refine Á (yg ⋯ λi dr c=>?_);rw[Í c];refine Á (DQ n _ _ (by rw[acU,Α c];simp at h |-;lia) λys d p=>?_);exact È (b _ d ((p.cons _).trans (nX c)))
theorem CA(xs:Array Nat):aaM xs 0=0:=by
 have g:∀f b,ab3 xs 0 f 0 b=0:=by
  intro f
  induction f with
  |zero=>intro b;rfl
  |succ f c=>
   intro b;unfold ab3;split
   ·k_in;rw[Β (Nat.not_lt_zero _)];exact c _
   ·rfl
 exact g _ _
theorem Gb(j:Nat):aaM #[j] (j+1)=1:=by simp[aaM,ab3]
def Nx(w:Ć)(a b:Addr)(ep:Nat)(es:Array (Int×Å))(t:SetTable)(c:List Å)(i:Nat)(first:Å)(h:Heap):Prop:=
 (cG w=Ã/\(∃m:Nat,first=.int m 0)/\c=(pickOrder (w.params.setOrder a ep) es).toList.map (·.2)) \/
 (cG w=Ä/\es.size<=1/\(∃m:Nat,first=.int m 0/\aaM t.place m=i)/\c=es.toList.map (·.2)) \/
 (cG w=Ä/\∃ps:List Nat,first=.ref b/\h.get? b=À {cls:=.type "tuple",data:=.seq (ps.map λi:Nat=>rawInt i).toArray}/\ps.Perm (Ů es.size)/\c=ps.filterMap λi=>es[i]?.map (·.2))
theorem J3{Q:Å->Ê->Prop}(ho:s.heap.get? a=À (eS es ep t))(D:kR prog w σ es t)(r:σ.length<60)
  (h:∀dr h' it b first d,(∀b u,s.heap.get? b=À u->h'.get? b=À u)->s.heap.objs.size<=it->b<it->(b=a\/s.heap.objs.size<=b)->h'.get? it=À {cls:=.type "set_iterator",data:=.fields #[first,.int 0 0,.ref a,.int es.size 0,.int ep 0]} ->
   d.Perm (es.toList.map (·.2))->Nx w a b ep es t d 0 first h'->Q (.ref it) {s with heap:=h',drawn:=dr}):
  Ú (model prog w) A (pyIter (.ref a)) Q E s:=by
 have f:s.TypeIs (.ref a) "set":=⟨_,ho,rfl⟩;refine ab2 f adZ (ÿ adZ f HS.Cz ?_ (F.args_set_iter_1 _));unfold ŝ.«frozenset.__iter__» Builtin.Frozenset.slot0 slotArgs;simp only[aci,Ķ,Ĥ,↓reduceIte,bind_assoc,ď,bne_self_eq_false];unfold Builtin.Frozenset.addrOf Builtin.Frozenset.sizeOf;k_upd
 try dsimp only
 k_upd;refine Á (Á (abr ho rfl D.fits (È ?_)));unfold setDrawn;kpf_c;unfold setsByText;refine Á (Á (Ħ (È ?_)));refine È ?_;show Ú _ _ (if (!(cG w)&&(!t.plain&&decide (1<es.size)))=Ã then _ else _) _ _ _;have k:(es.toList.map (·.2)).Perm (es.toList.map (·.2)):=.refl _;have j:typeLookup (.type "set_iterator") (ĥ "__next__")=pure (À (.builtin "set_iterator.__next__")):=HS.slot_next.lookup;have z:es.size<=Ç:=by rw[D.len,sizeLine_eq];lia
 by_cases c:(!(cG w)&&(!t.plain&&decide (1<es.size)))=Ã
 ·rw[Α c];refine Á (DQ _ _ _ ⋯ λys dr p=>?_);have m:=acV.mp c;refine Á (ë ?_ ?hz)
  case hz=>show(List.map _ ys).toArray.size<=Ç;rw[Ü,Û,p.length_eq,List.length_range];exact z
  refine Á (adz (É _ ho) rfl D.fits ?_);refine Á (ë (È ⟨_,rfl,"set_iterator",_,⟨_,Ð _ rfl,rfl⟩,j,?_⟩));refine h dr _ _ s.heap.objs.size _ _ (λb u e=>É _ (É _ e)) (by simp[ā]) (by simp[ā]) (.inr (Ë _)) (Ð _ rfl) ?_ (.inr (.inr ⟨‹m.1›,ys,rfl,É _ (Ð _ rfl),p,rfl⟩));refine(p.filterMap _).trans ?_;have q:=filterMap_getElem?_range es;rw[<- q,List.map_filterMap]
 ·rw[Β c];k_upd;refine Á (adz ho rfl D.fits ?_);refine Á (ë (È ⟨_,rfl,"set_iterator",_,⟨_,Ð _ rfl,rfl⟩,j,?_⟩));cases q:cG w with
  |true=>refine h s.drawn _ _ a _ _ (λb u e=>É _ e) (Ë _) (Õ ho) (.inl rfl) (Ð _ rfl) ?_ (.inl ⟨q,⟨0,rfl⟩,rfl⟩);have:=(wN (w.params.setOrder a ep) es.size 0 es.toList #[] ⋯).map (·.2);exact this
  |false=>
   refine h s.drawn _ _ a _ _ (λb u e=>É _ e) (Ë _) (Õ ho) (.inl rfl) (Ð _ rfl) k (.inr (.inl ⟨q,?_,⟨0,rfl,?_⟩,rfl⟩))
   ·rcases Nat.lt_or_ge 1 es.size with g|g
    ·rw[q]at c;have:t.plain=Ã:=by simpa[g]using c
     rw[D.pl this];exact ê _
    ·exact g
   ·exact CA _
end
section
variable{A:Around}{E:Å->Ê->Prop}{es:Array (Int×Å)}{t:SetTable}{b it:Addr}{ord:List Å}
def VL(first:Å)(i:Nat)(a:Addr)(n ep:Nat):Obj:={cls:=.type "set_iterator",data:=.fields #[first,.int i 0,.ref a,.int n 0,.int ep 0]}
theorem J4{es:Array (Int×Å)}:∀{c:List Nat}(i:Nat),(∀p∈c,p<es.size)->(c.filterMap λi=>es[i]?.map (·.2))[i]?=c[i]?.bind λi=>es[i]?.map (·.2)
 |[],i,h=>by simp
 |p::c,i,h=>by
  have d:=h p ć;rw[List.filterMap_cons_some (b:=es[p].2) (by rw[Ľ d];rfl)];cases i with
  |zero=>simp[Ľ d]
  |succ i=>simpa using J4 i λq e=>h q (å _ e)
theorem ur{vs:Array Å}(c:h.get? it=À {cls:=.type "set_iterator",data:=.fields vs})(k:Nat)(v:Å):
  (h.update it (ċ (·.setIfInBounds k v))).get? it=À {cls:=.type "set_iterator",data:=.fields (vs.setIfInBounds k v)}:=ò _ c rfl
theorem next_item{v:Å}{Q:Option Å->Ê->Prop}(c:s.heap.get? it=À (VL first i a es.size ep))(ho:s.heap.get? a=À (eS es ep t))(D:kR prog w σ es t)
  (N:Nx w a b ep es t ord i first s.heap) (hv:ord[i]?=À v) (H:b≠it)
  (h:∀h' M,Į it s.heap h'->h'.get? it=À (VL M (i+1) a es.size ep)->Nx w a b ep es t ord (i+1) M h'->Q (À v) {s with heap:=h'}):
  Ú (model prog w) A (pyNext (.ref it)) Q E s:=by
 have S:s.TypeIs (.ref it) "set_iterator":=⟨_,c,rfl⟩;unfold pyNext;refine Á (aaj (þ (name:=ĥ "__next__") S HS.slot_next (ÿ HS.slot_next S HS.entry_next ?_ (HS.args_next _))));unfold ŝ.«set_iterator.__next__» slotArgs;simp only[aci,Ķ,Ĥ,↓reduceIte,bind_assoc,ď,bne_self_eq_false];k_upd;refine Á (abK c rfl ?_);k_in;refine Á (abr ho rfl D.fits ?_);l_out;have U:∀(f g:Obj->Obj),Į it s.heap ((s.heap.update it f).update it g):=λf g=>(Ğ _ it f).trans (Ğ _ it g);have J:cG w=Ä->t.led=Ã:=λq=>by rw[D.led,q];rfl
 have k:i<ord.length:=(Â.mp hv).1
 have y:∀(m:Nat)(d:Nat),first=.int m 0->(cG w=Ã\/es.size<=1/\aaM t.place d=i+1) ->
   Ú (model prog w) A.in1 (do
     setField (.ref it) 0 (rawInt d)
     setField (.ref it) 1 (rawInt (i+1))
     ret v) (λF G=>∃v,F=Fin.done (Flow.ret v)/\Ú (model prog w) A (pure (À v)) Q E G)
    (λe G=>Ú (model prog w) A (do
     let r <- isInstance e (Value.type "StopIteration")
     if r=Ã then pure Æ else throw e) Q E G) s:=by
  intro m d e g;kpc_g;refine Á (đ c rfl ⋯ ?_);refine Á (đ (ur c 0 _) rfl ⋯ ?_);refine È ⟨_,rfl,È (h _ (.int d 0) (U _ _) (ur (ur c 0 _) 1 _) ?_)⟩;rcases N with⟨q,_,r⟩|⟨q,K,_,z⟩|⟨q,ps,e,_⟩
  ·exact .inl ⟨q,⟨d,rfl⟩,r⟩
  ·rcases g with g|g
   ·rw[g]at q;o_rec
   ·exact .inr (.inl ⟨q,K,⟨d,rfl,g.2⟩,z⟩)
  ·w_up
 rcases N with⟨q,⟨m,rfl⟩,r⟩|⟨q,K,⟨m,rfl,r3⟩,z⟩|⟨q,ps,rfl,T,p,r⟩
 ·k_in;unfold setNext;kpf_c;unfold setsByText setWalk;l_idx;rw[Α q];k_in;l_out;kpf_c;l_idx;rw[Α q];refine Á (Ħ (È (È ?_)));have e:(pickOrder (w.params.setOrder a ep) es)[i]?.map (·.2)=À v:=by rw[r]at hv;simpa using hv
  cases g:(pickOrder (w.params.setOrder a ep) es)[i]? with
  |none=>rw[g]at e;w_up
  |some u=>rw[g]at e;w_up;show Ú _ _ (match Option.map (λe=>(e.2,(m:Int).toNat)) ((pickOrder (w.params.setOrder a ep) es)[(i:Int).toNat]?)with|some (x,next)=>_|none=>_) _ _ _;rw[ó,ó,g];exact y m m rfl (.inl q)
 ·k_in;unfold setNext;kpf_c;unfold setsByText;l_idx;rw[Β (by rw[q];exact í)];k_in;show Ú _ _ (if (!t.plain&&decide (1<es.size))=Ã then _ else _) _ _ _;rw[Β (by simp;lia)];show Ú _ _ ((if (!t.led&&!es.isEmpty)=Ã then _ else pure ()) >>= _) _ _ _;rw[Β (by rw[J q];simp)];refine Á (È (È ?_));have X:i<es.size:=by rw[z]at k;simpa using k
  have L:es.size=1:=∅
  have V:i=0:=∅
  subst V;obtain⟨j,R⟩:∃j,t.place=#[j]:=by have B:=D.fits;unfold SetTable.fits at B;rw[L]at B;simp at B;exact Array.size_eq_one_iff.mp B.1
  have Y:es[0]?=À es[0]:=by simp[L]
  have W:es[0].2=v:=by rw[z]at hv;simp[X]at hv;exact hv
  rw[ó,r3,Y,R];have:=y m (j+1) rfl (.inr ⟨K,by rw[R];exact Gb j⟩);rw[<- W]at this;exact this
 ·refine Á (ĭ T rfl ?_);have C:∀O∈ps,O<es.size:=λO Z=>abB.mp (p.mem_iff.mp Z);rw[r,J4 i C]at hv;cases g:ps[i]? with
  |none=>rw[g]at hv;cases hv
  |some j=>
   rw[g]at hv;cases g2:es[j]? with
   |none=>rw[show(À j).bind (λi=>es[i]?.map (·.2))=es[j]?.map (·.2) from rfl,g2]at hv;cases hv
   |some u=>
   rw[show(À j).bind (λi=>es[i]?.map (·.2))=es[j]?.map (·.2) from rfl,g2]at hv;cases hv;have e:(ps.map λi:Nat=>rawInt i).toArray[(i:Int).toNat]?=À (rawInt j):=by simp[g]
   k_in;rw[e];show Ú _ _ (setNextDrawn a (j:Int).toNat (ep:Int).toNat >>= _) _ _ _;rw[ó,ó];unfold setNextDrawn;kpf_c;k_in;rw[Β ⋯,g2];refine È ?_;refine Á (đ c rfl ⋯ ?_);refine È ⟨_,rfl,È (h _ _ (Ğ _ it _) (ur c 1 _) (.inr (.inr ⟨q,ps,rfl,?_,p,r⟩)))⟩;exact(è _ _ (ô H)).trans T
end
namespace HS
theorem J5:entryFor table "set_iterator.__iter__"=À ŝ.«dict_keyiterator.__iter__»:=entryFor_alias (id':="dict_keyiterator.__iter__") (by kernel_rfl) rfl (by symm) (by kernel_rfl)
theorem Nn(a:Å):argsOk "set_iterator.__iter__" ⟨[a],[]⟩:=by unfold argsOk;rw[signature?_of (id:="set_iterator.__iter__") (n:="__iter__".toList.reverse) (o:="set_iterator".toList.reverse) (by kernel_rfl) Ao];kernel_rfl
end HS
section
variable{A:Around}{E:Å->Ê->Prop}{es:Array (Int×Å)}{t:SetTable}{b it:Addr}{ord:List Å}
theorem qM{P:Fin->Ê->Prop}(hh:A.handled=Æ)(h:∀h',(∀b u,s.heap.get? b=À u->h'.get? b=À u)->Q Æ {s with heap:=h'}):
  Ú (model prog w) A.in1 (do
    let r <- newExc (Value.type "StopIteration") []
    raiseNew r) P (λe s'=>Ú (model prog w) A (do
     let r <- isInstance e (Value.type "StopIteration")
     if r=Ã then pure Æ else throw e) Q E s') s:=by
 k_get;simp only[newExc,newTuple];refine Á (ë ?_ (by size_fits));refine Á (m:=firstArgMember _ _) (aa8 (a:=Value.none) (by first|rfl|(simp only[firstArgMember];rfl)) ?_);refine ë ?_ (by size_fits);simp only[raiseNew];refine Á (ada ?_);rw[show A.in1.handled=Æ from hh];refine Á (È (acQ ?_));refine Á (gV (T:="StopIteration") (b:=Ã) ⟨_,Ð _ rfl,rfl⟩ isSubtype_stop ?_);exact È (h _ λb u e=>É _ (É _ e))
theorem Gd(hh:A.handled=Æ)(hi:s.heap.get? it=À (VL first es.size a es.size ep))(ho:s.heap.get? a=À (eS es ep t))(D:kR prog w σ es t)
  (hp:ord.length=es.size) (hx:Nx w a b ep es t ord es.size first s.heap)
  (h:∀h',(∀b u,b≠it->s.heap.get? b=À u->h'.get? b=À u)->Q Æ {s with heap:=h'}):
  Ú (model prog w) A (pyNext (.ref it)) Q E s:=by
 have hT:s.TypeIs (.ref it) "set_iterator":=⟨_,hi,rfl⟩;unfold pyNext;refine Á (aaj (þ (name:=ĥ "__next__") hT HS.slot_next (ÿ HS.slot_next hT HS.entry_next ?_ (HS.args_next _))));unfold ŝ.«set_iterator.__next__» slotArgs;simp only[aci,Ķ,Ĥ,↓reduceIte,bind_assoc,ď,bne_self_eq_false];k_upd;refine Á (abK hi rfl ?_);k_in;refine Á (abr ho rfl D.fits ?_);l_out;have led:cG w=Ä->t.led=Ã:=λq=>by rw[D.led,q];rfl
 have kp:∀(H':Heap)(f:Obj->Obj),(∀b u,(s.heap.update it f).get? b=À u->H'.get? b=À u)->∀b u,b≠it->s.heap.get? b=À u->H'.get? b=À u:=
  λH' f k b u hb e=>k b u ((è _ _ (ô hb)).trans e)
 have Xo:∀(H':Heap)(f g:Obj->Obj),(∀b u,((s.heap.update it f).update it g).get? b=À u->H'.get? b=À u)->∀b u,b≠it->s.heap.get? b=À u->H'.get? b=À u:=
  λH' f g k b u hb e=>k b u ((è _ _ (ô hb)).trans ((è _ _ (ô hb)).trans e))
 rcases hx with⟨q,⟨m,rfl⟩,r⟩|⟨q,r1,⟨m,rfl,r3⟩,r2⟩|⟨q,ps,rfl,hb,p,r⟩
 ·k_in;unfold setNext;kpf_c;unfold setsByText setWalk;l_idx;rw[Α q];k_in;l_out;kpf_c;l_idx;rw[Α q];refine Á (Ħ (È (È ?_)));have g:(pickOrder (w.params.setOrder a ep) es)[es.size]?=Æ:=by rw[r]at hp;simp at hp;rw[<- hp];simp
  show Ú _ _ (match Option.map (λe=>(e.2,(m:Int).toNat)) ((pickOrder (w.params.setOrder a ep) es)[(es.size:Int).toNat]?)with|some (x,next)=>_|none=>_) _ _ _;rw[ó,ó,g];refine Á (đ hi rfl ⋯ ?_);exact qM hh λh' k=>h h' (kp h' _ k)
 ·k_in;unfold setNext;kpf_c;unfold setsByText;l_idx;rw[Β (by rw[q];exact í)];k_in;show Ú _ _ (if (!t.plain&&decide (1<es.size))=Ã then _ else _) _ _ _;rw[Β (by simp;lia)];show Ú _ _ ((if (!t.led&&!es.isEmpty)=Ã then _ else pure ()) >>= _) _ _ _;rw[Β (by rw[led q];simp)];refine Á (È (È ?_));rw[ó,r3,show es[es.size]?=Æ by simp];refine Á (đ hi rfl ⋯ ?_);exact qM hh λh' k=>h h' (kp h' _ k)
 ·refine Á (ĭ hb rfl ?_);have e:(ps.map λi:Nat=>rawInt i).toArray[(es.size:Int).toNat]?=Æ:=by have:=p.length_eq;simp at this;simp[this]
  k_in;rw[e];refine Á (đ hi rfl ⋯ ?_);refine Á (đ (ur hi 0 _) rfl ⋯ ?_);exact qM hh λh' k=>h h' (Xo h' _ _ k)
theorem Ge(K:A.handled=Æ)(D:kR prog w σ es t)(M:ord.length=es.size)(J:a≠it)(H:b≠it):
  Walks prog w A it [it,a,b] [it] es.size (λi v=>ord[i]?=À v) (λi h=>∃first,h.get? it=À (VL first i a es.size ep)/\h.get? a=À (eS es ep t)/\Nx w a b ep es t ord i first h) where
 sub:=λb d=>by simp at d;simp[d]
 frame:=λi h h' ⟨f,c,j,m⟩ B=>⟨f,B it ⋯ _ c,B a ⋯ _ j,by
  rcases m with g|g|⟨q,N,e,d,p,r⟩
  ·exact .inl g
  ·exact .inr (.inl g)
  ·exact .inr (.inr ⟨q,N,e,B b ⋯ _ d,p,r⟩)⟩
 item:=λi s Q E O ⟨f,c,j,m⟩ y=>by have F:ord[i]?=À ord[i]:=Í ∅;exact next_item c j D m F H λh' G C k1 k2=>y _ h' s.toks F ⟨G,k1,by rw[C.2 a J];exact j,k2⟩ λb u d e=>by rw[C.2 b (λz=>d (by simp[z]))];exact e
 done:=λs Q E ⟨f,c,j,m⟩ y=>Gd K c j D M m λh' k=>y h' s.toks λb u d e=>k b u (λz=>d (by simp[z])) e
 self:=λi s Q E L y=>by obtain⟨f,c,j,m⟩:=L;exact by refine ab2 ⟨_,c,rfl⟩ HS.DP (ÿ HS.DP ⟨_,c,rfl⟩ HS.J5 ?_ (HS.Nn _));show Ú _ _ (ret (.ref it)) _ _ s;exact È ⟨_,rfl,"set_iterator",_,⟨_,c,rfl⟩,HS.slot_next.lookup,y⟩
end
section
variable{A:Around}{E:Å->Ê->Prop}{es:Array (Int×Å)}{t:SetTable}
theorem J6{Q:Bool->Ê->Prop}(e:s.TypeIs (.ref a) "set")(h:Q Ä s):Ú (model prog w) A (Ő (.ref a)) Q E s:=by
 unfold Ő;refine Á (abf e F.slot_set_len.lookup ?_);generalize c:("set.__len__":String)=d
 wp_delta
 rw[show splitId d=À ("set","__len__") from by subst c;symm];subst c;refine Á (gV (T:="set") (b:=Ã) e sub_set_self ?_);refine acB (λz=>absurd z (by decide)) (λ_=>?_);refine acB (λ_=>?_) (λz=>absurd (by symm) z);refine Á (acp e ?_);exact È h
theorem CB{R:Result->Ê->Prop}(hh:A.handled=Æ){S:Addr}{res:Å}{c0:Nat}(C:s.heap.get? a=À (eS es ep t))(D:kR prog w σ es t)(hl:σ.length<60)(Xy:S≠a)
  (hS:s.heap.get? S=À {cls:=.type "list",data:=.seq #[] c0})
  (h:∀h' tk dr acc c,(∀b u,b≠S->s.heap.get? b=À u->h'.get? b=À u)->h'.get? S=À {cls:=.type "list",data:=.seq acc c}->acc.toList.Perm (es.toList.map (·.2))->R (.ok (.ret res)) {s with heap:=h',toks:=tk,drawn:=dr}):
  Ú (model prog w) A.in1 (ĵ (.ref S) (.ref a) res)
   (λZ m=>match Z with|.done f=>R (.ok f) m|.again J=>J.quiet=Ã/\codeAny (model prog w) A J R m) (λe m=>R (.error e) m) s:=by
 have hz:es.size<=Ç:=by rw[D.len,sizeLine_eq];lia
 unfold ĵ;refine Á (acp (T:="set") ⟨_,C,rfl⟩ ?_);have H:Ţ (.ref S) (.ref a)=Ä:=by simp[Ţ,Xy]
 simp only[H,show(Value.type "set"==Value.type "list")=Ä by decide,show(Value.type "set"==Value.type "tuple")=Ä by decide,Bool.or_false,Ĥ,if_false];refine Á (J3 C D hl λdr H it b first G K p M hb2 g1 g2 g3=>?_);have r:=Õ hS;have hSI:S≠it:=λz=>absurd (z▸r) (ado.mpr p);refine Á (ė (J6 ⟨_,K _ _ C,rfl⟩ ?_));have X:G.length=es.size:=by rw[g2.length_eq];simp
 have N:a≠it:=λz=>absurd (z▸Õ C) (ado.mpr p)
 have B:∀(h2:Heap)(c:Nat),(∀b u,b≠S->H.get? b=À u->h2.get? b=À u)->h2.get? S=À {cls:=.type "list",data:=.seq #[] c} ->
   codeAny (model prog w) A (.builtin "list.extend.loop" ⟨[.ref S,.ref it,res],[]⟩) R {s with heap:=h2,drawn:=dr}:=by
  intro h2 c k e;have O:S≠b:=λz=>by
   rcases hb2 with q|q
   ·exact Xy (z.trans q)
   ·exact absurd (z▸r) (ado.mpr q)
  have F:S∉[it,a,b]:=by simp only[Ù,ě,or_false,not_or];exact⟨hSI,Xy,O⟩
  have W:=Ge (prog:=prog) (w:=w) (A:=A.in1) (ep:=ep) hh D X N (á M);have st:=W.frame 0 H h2 ⟨first,g1,K _ _ C,g3⟩ λu L o y=>k u o (λz=>F (z▸L)) y;refine codeAny_extend_loopS W.toS hz S F res es.size 0 _ #[] c (adA _) (ê _) st e (ItemsOf.nil _) λm d J hm V j=>?_;rw[Moved.eq_with hm];refine h m.heap m.toks dr d J (λu o L y=>hm.heap u o (λz=>?_) (k u o L (K u o y))) V ?_
  ·rcases Ù.mp z with z|z
   ·exact L z
   ·rw[ï.mp z]at y;exact absurd (Õ y) (ado.mpr p)
  ·have:d.toList=G:=by
    refine Ĕ λi=>?_;rcases Nat.lt_or_ge i es.size with q|q
    ·have q':i<d.size:=by rw[j.1];exact q
     have e1:d[i]?=À d[i]:=by simp[q']
     rw[acC,e1,j.2 i _ e1]
    ·rw[ù (by rw[ĝ,j.1];exact q),ù ∅]
   rw[this];exact g2
 have U:=K _ _ hS;refine acB (λ_=>?_) (λ_=>È ⟨plainId_quiet abU _,B _ c0 (λb o _ e=>e) U⟩);refine Á (aat ?_);k_get;show Ú _ _ (updateSeq S (·.push .none) >>= λ_=>updateSeq S (·.pop)) _ _ _;refine Á (abh U rfl ?_);have VJ:=ò (š (·.push Value.none)) U rfl;refine abh (hz:=by seq_fits) VJ rfl ?_;have Y:=ò (š (·.pop)) VJ rfl;exact È ⟨plainId_quiet abU _,B _ _ (λb o M e=>(è _ _ (ô M)).trans ((è _ _ (ô M)).trans e)) Y⟩
theorem Aq{R:List Å->Ê->Prop}(C:A.handled=Æ)(z:s.heap.get? a=À (eS es ep t))(D:kR prog w σ es t)(B:σ.length<60)
  (h:∀h' tk dr vs,(∀b u,s.heap.get? b=À u->h'.get? b=À u)->vs.Perm (es.toList.map (·.2))->R vs {s with heap:=h',toks:=tk,drawn:=dr}):
  Ú (model prog w) A (collect (.ref a)) R E s:=by
 have hz:es.size<=Ç:=by rw[D.len,sizeLine_eq];lia
 unfold collect;refine Á (wpAny_runValue (codeAny_builtin PyProof.Rows.entry_proto_collect' ?_));rw[Ş PySem.F.plain_proto_collect _];show Ú _ A.in1 (newList [] >>= λl=>again (.builtin "list.__iadd__" ⟨[l,.ref a],[]⟩)) _ _ s;refine Á (ë ?_);refine È ⟨plainId_quiet acj _,codeAny_builtin PyProof.Rows.entry_list_iadd' ?_⟩;rw[Ş acj _];have U:(s.heap.push {cls:=.type "list",data:=.seq ([]:List Å).toArray}).get? s.heap.objs.size=À {cls:=.type "list",data:=.seq #[]}:=Ð _ rfl;show Ú _ A.in1 (ĵ (.ref s.heap.objs.size) (.ref a) (.ref s.heap.objs.size)) _ _ _
 have m:=CB (A:=A) (s:={s with heap:=s.heap.push {cls:=.type "list",data:=.seq ([]:List Å).toArray}}) (res:=.ref s.heap.objs.size)
  (R:=λq r=>∃h' tk dr acc c,q=.ok (.ret (.ref s.heap.objs.size))/\r={s with heap:=h',toks:=tk,drawn:=dr}/\(∀b u,s.heap.get? b=À u->h'.get? b=À u) /\
   h'.get? s.heap.objs.size=À {cls:=.type "list",data:=.seq acc c}/\acc.toList.Perm (es.toList.map (·.2)))
  C (É _ z) D B (ž (Õ z)) U
  (λh' tk dr acc c k e p=>⟨h',tk,dr,acc,c,rfl,rfl,λb o e=>k b o (á (Õ e)) (É _ e),e,p⟩)
 refine Ă m (λfin r x=>?_) λe r x=>?_
 ·cases fin with
  |done f=>obtain⟨h',tk,dr,acc,c,e,rfl,j,d,p⟩:=x;w_up;show Ú _ A (load s.heap.objs.size >>= _) _ _ _;refine Á (aaq d ?_);exact È (h h' tk dr _ j p)
  |again J=>refine⟨x.1,codeAny_mono x.2 λq H y=>?_⟩;obtain⟨h',tk,dr,acc,c,rfl,rfl,j,d,p⟩:=y;show Ú _ A (load s.heap.objs.size >>= _) _ _ _;refine Á (aaq d ?_);exact È (h h' tk dr _ j p)
 ·obtain⟨_,_,_,_,_,G,_⟩:=x;cases G
end
def UQ(P:ð)(w:Ć)(a:Addr)(l:P3)(h:Heap):Prop:=∃o,h.get? a=À o/\SetT P w l o
section
variable{X:Cx}{EE:bF}{e:Expr}{pos pos2 p p2:Pos}{m:DS->M X2}
def J7(X:Cx)(xs:X1)(H:Hp)(Q:VK):Prop:=∃c τ ρ G d z b,Ab X.K X.mg c H τ ρ G/\ao X.K X.mg ρ H [d] xs/\ak G d=À (.lst z)/\strsOf z=À b/\b.Nodup/\b.length<60 /\
 ∀p,H p=Æ->Q (.ref p) (upd H p (.ext (UQ X.prog X.w p b)))
def J8(X:Cx)(xs:X1)(H:Hp)(Q:VK):Prop:=∃a b,xs=[.ref a]/\H a=À (.ext (UQ X.prog X.w a b))/\b.length<60/\∀p,H p=Æ->Q (.ref p) (upd H p (.lst ((aT b).map .str)))
theorem Gf{b:L2.St}{H:Hp}(I:Inv X pins b H s)(dr:Drawn):Inv X pins b H {s with drawn:=dr}:=
 ⟨I.ok,I.os,I.bare,I.base,I.loc,I.cell,I.free,I.iQ,I.pin,I.hok,I.len⟩
theorem Gg(hc:X.calm=Ã):eE X (.type "set") (J7 X):=by k_cls;obtain⟨σ,τ,ρ,G,d,zs,ns,ab,rs,qs,qn,hd,hl,hq⟩:=zu;k_sub;obtain⟨u,rfl,ru⟩:=vals1 r;obtain⟨a,ys,rfl,sq,rv⟩:=bG (pins:=pins) (σ0:=σ0) (s:=s) ab.hp rx qs;cases ru;obtain⟨its,vv,⟨o,k,e1,e2,e3,e4⟩,_⟩:=I.list sq;obtain⟨l,rfl,rfl⟩:=kH rv vv qn;obtain⟨oc,od,odt,osl⟩:=o;dsimp only at e2 e3 e4;subst e2 e3 e4;refine iR I.os.2 <|Ga (its:=strValues l) (show X.A.handled=Æ from I.ok.hd hc) ⟨_,e1,rfl,k,rfl⟩ (l8 l) hd hl λh' tk o g1 g2 kp=>λht=>?_;exact⟨.ref _,_,I.laid (t':=tk) kp (Ë _) (show cU X.prog X.w _ h' _ (.ext _) from⟨⟨o,g1,g2⟩,⟨o,g1⟩,λh1 h2 ⟨o,q,r⟩ k=>⟨o,k o q,r⟩⟩),rfl,hq _ (I.hok.fresh (Ë _))⟩
theorem Ar(h:ElemsOf (strKind prog w) es):û (es.map (·.2)) (es.map λe=>strOf e.2):=by
 induction es with
 |nil=>exact .nil
 |cons e r b=>obtain⟨⟨k,c,_⟩,_⟩:=h.head;obtain⟨t,d⟩:=Value.isStrOf_shape c;rw[Ï,Ï,d];exact .cons k t (b h.tail)
theorem Gh(p:u.Perm vs)(h:û vs l):∃d,û u d/\d.Perm l:=by
 have g:∀{vs l},û vs l->vs.map strOf=l/\∀v∈vs,∃x t,v=.str x t:=by
  intro vs l h
  induction h with
  |nil=>exact⟨rfl,by simp⟩
  |cons x t _ c=>exact⟨by rw[Ï,c.1];rfl,by intro v b;rcases Ù.mp b with rfl|b;exact⟨x,t,rfl⟩;exact c.2 v b⟩
 have f:∀u:List Å,(∀v∈u,∃x t,v=.str x t)->û u (u.map strOf):=by
  intro u
  induction u with
  |nil=>intro _;exact .nil
  |cons v r c=>intro h;obtain⟨x,t,rfl⟩:=h _ ć;exact .cons x t (c λv b=>h v (å _ b))
 obtain⟨rfl,j⟩:=g h;exact⟨_,f u λv b=>j v (p.mem_iff.mp b),p.map _⟩
theorem yh(N:X.calm=Ã):eE X (.builtin "sorted") (J8 X):=by
 k_cls;obtain⟨a,T,U,Z,F,R⟩:=zu;subst U;obtain⟨u,rfl,J⟩:=vals1 r;cases J;obtain⟨⟨o,W,es,ep,t,rfl,D⟩,_⟩:=(show cU X.prog X.w H s.heap a (.ext _) from I.hok a _ Z);refine iR I.os.2 ?_;refine aae ab9 abQ abR (abS _) ?_;unfold Builtin.sorted;refine Á (aa8 (a:=()) rfl ?_);refine Á (Aq (show X.A.in1.handled=Æ from I.ok.hd N) W D F λh1 tk dr vs O pv=>?_);obtain⟨l1,d,S⟩:=Gh pv (Ar D.el);have z:=S.trans D.pm;have j:vs.length<64:=by rw[d.length,z.length_eq];lia
 refine Á (ë ?_ (show vs.toArray.size<=Ç by rw[Ü,sizeLine_eq];lia));have f:(h1.push {cls:=.type "list",data:=.seq vs.toArray}).get? h1.objs.size=À (ac3 "list" vs.toArray 0):=Ð _ rfl;refine Á (ė (ÿ abw ⟨_,f,rfl⟩ abl (abm abL (n:=0) f ‹d.keysOf› (λy B C e=>abT (by rw[<- e];simpa using d)) ‹j› λk Y V=>⟨_,rfl,?_⟩) (abx _)));refine È ⟨_,rfl,λht=>?_⟩;obtain⟨K,E,G,L⟩:=aby d ‹Y› V;generalize(adn k).map (·.2)=out at E;obtain⟨c,M⟩:=abM (out:=out) f;have es:=ug (G.trans z) L;subst es;have q:Inv X pins σ0 H {s with heap:=h1,toks:=tk,drawn:=dr}:=Gf (I.kept (t':=tk) O) dr;refine⟨.ref _,_,q.laid (t':=tk) (h':=_) (a:=h1.objs.size) (o:=.lst ((aT T).map .str)) (λb o e=>?_) (Ë _) ?_,rfl,R _ (q.hok.fresh (Ë _))⟩
 ·have lt:=Õ e;rw[abz (á lt) (Ø lt (by simp[Heap.push]))];exact É _ e
 ·exact(show cU X.prog X.w _ _ _ (.lst _) from⟨by rw[Û,(bq _).length_eq,sizeLine_eq];lia,out.toList,c,qL E,‹M›⟩)
theorem CD(hc:X.calm=Ã)(h1:X.mg "sorted"=Æ)(g1:Gl X "sorted")(h2:X.mg "set"=Æ)(g2:Gl X "set")(ha:QA X EE [e] m)(h:aq [e]=Ã):
  QE X EE (.Call (.Name "sorted" p) [.Call (.Name "set" p2) [e] [] pos2] [] pos) (ai nW m):=by
 have h':bT e=Ã/\aq []=Ã:=by simpa[aq]using h
 refine PE.mono (ze (yh hc) g1 h1 acd (rY (vW (Gg hc) g2 h2 PyProof.Rows.boot_set ha (by decide) (by decide) (bx h'.1 _ _) (bA (es:=[]) rfl)) BH rfl) (by decide) (by decide)) λσ H Q q=>?_;show lN X.K X.mg EE m σ H λxs H1=>J7 X xs H1 λx H2=>J8 X [x] H2 Q;refine jN (r:=λxs H1 Q=>J7 X xs H1 λx H2=>J8 X [x] H2 Q) (λH τ ρ G xs ds ab r ok=>?_) q
 match ds,ok with
 |[],ok=>left
 |_::_::_,ok=>left
 |[d],ok=>
  dsimp only[nW]at ok;split at ok
  ·rename_i zs qs;split at ok
   ·rename_i ns qn;split at ok
    ·rename_i hd;refine⟨σ,τ,ρ,G,d,zs,ns,ab,r,qs,qn,hd.1,hd.2,λa Xz=>⟨a,ns,rfl,bz,hd.2,?_⟩⟩;exact(jB (ab.fut (cJ Xz ρ) (ab.hp.new Xz)) (ao.strs (aT ns)) (ok.fut (cJ Xz ρ))).2
    ·left
   ·left
  ·left
end
section
variable{X:Cx}{EE:bF}{o:Expr}{mo:Y2}{apos cpos:Pos}
def UR:V->X1->Hp->VK->Prop:=λx xs H Q=>∃a u,x=.ref a/\xs=[]/\H a=À (.dT u)/\Q .bD (upd H a (.dT []))
theorem Gi:GP X "dict.clear" UR:=by
 intro pins s y H x xs v J Q I r E zu;obtain⟨a,u,m,B,k,q⟩:=zu;subst m B;cases r;cases E;obtain⟨hz,t,ys,p,o,es,ep,b,d,c,A,_⟩:=(show cU X.prog X.w H s.heap a (.dT u) from I.hok a _ k);have j:es.size<=Ç:=by have:=congrArg aa3 A;rw[ĝ,Û,<- p.length]at this;rw[this];exact hz
 refine ÿ adB ⟨o,b,d.1⟩ F.entry_dict_clear ?_ (F.args_dict_clear_1 _);have f:∀h':Heap,h'=s.heap.update a (ad0 λ_=>#[])->EP X pins y Q .none {s with heap:=h'}:=by
  intro h' z;subst z;have g:=ò (ad0 λ_=>#[]) b (Obj.isFreed_of_dict (acW c _))
  exact⟨.bD,_,I.write (x:=a) (e:=a) (o:=.dT []) (t':=s.toks) (by rw[k];exact trivial) (.inl rfl) (λG u D C=>(è s.heap _ (ô D)).trans C) ⟨_,g⟩
   ⟨ê _,t,[],.nil,_,_,_,g,d.mapDictKeys _,acW c _,rfl,acN⟩,rfl,q⟩
 unfold ŝ.«dict.clear»;k_get;unfold Builtin.Dict.noArgs;refine Á (acH ⟨o,b,d.1⟩ ?_);show Ú _ _ (pure a) _ _ s;refine È ?_;refine Á (ŷ b c ?_);k_get;unfold bearsInstanceDictMark;refine Á (aaq b (È ?_));refine Á (wpAny_updateDictKeys (hz:=j) b c ?_);split
 ·exact Á (aa6 (È ⟨.none,rfl,f _ rfl⟩))
 ·exact Á (È (È ⟨.none,rfl,f _ rfl⟩))
theorem Gj(m:QE X EE o mo)(q:kG o=Ã)(b:(apos.endLine==cpos.line)=Ã):QE X EE (.Call (.Attribute o "clear" apos) [] [] cpos) (Vz kQ mo):=
 PE.mono (Hs F.plainAttrs_dict adB F.type_dict_clear Gi m (f6 q _ _) b) λr H Q h=>by
  obtain⟨τ,ρ,G,ab,ok⟩:=kr (k:=λ_ d=>kQ d) h;nofun;cases e:mo τ G with
  |stuck=>right
  |bP c G'=>right
  |ok d G'=>
   k_go;cases d2<;>try exact aQ.elim
   rename_i n;f_len;obtain⟨p,rfl,e1⟩:=r2;dsimp only[kQ]at aQ;split at aQ
   ·rename_i kvs g;obtain⟨a,e2,xs,j,_⟩:=bY.hp.ob n _ g;k_put;rw[Β í]at j;have f:=lY (K:=X.K) (ob:=.dT []) j ρ2;refine⟨.inr (.inr (.inl ⟨rfl,.inr ⟨_,j⟩⟩)),p,_,rfl,rfl,j,?_⟩;exact aQ .bD _ ρ2 f (bY.fut f (bY.hp.Ro (es:=[]) (ys:=[]) e1 j bz .nil)) (by unfold Rep;rfl)
   ·o_src
end
end
end L3
set_option hygiene false in
local macro_rules|`(($n:num))=>`(aa $n)|`(($n:str))=>`(eC (.str $n))
set_option hygiene false in
local macro_rules|`($x\$y)=>`(aj aE $x $y)|`($x<|>$y)=>`(av $x $y)
local macro_rules|`(())=>`(by simp;lia)
set_option hygiene false in
local macro_rules|`({$n:num})=>`(eC (.int $n))
set_option hygiene false in
local macro_rules|`(#[])=>`(ah)|`(#[$x])=>`(af $x ah)|`(#[$x,$y,*])=>`(af $x #[$y,*])
namespace K22
noncomputable section
open PySem PySem.Spec L2 L3
def top(i:Nat):Stmt:=PySem.Challenge.pw_pathshape_k22_marked_trees.main.body.getD i (.Pass ⟨0,0,0,0⟩)
abbrev yi:Stmt:=top 4
abbrev uu:Stmt:=top 6
abbrev uv:Stmt:=top 7
abbrev yj:Stmt:=top 9
abbrev yk:Stmt:=top 10
abbrev As:Stmt:=top 11
abbrev CF:Stmt:=top 12
abbrev Np:Stmt:=top 13
abbrev Au:Stmt:=top 14
abbrev CG:Stmt:=top 15
abbrev CH:Stmt:=top 17
abbrev US:Stmt:=top 18
abbrev wO:Stmt:=top 19
abbrev pO:Stmt:=top 20
abbrev uw:Stmt:=top 21
abbrev yl:Stmt:=top 23
abbrev Av:Stmt:=top 24
abbrev Aw:Stmt:=top 25
abbrev ym:Stmt:=top 26
abbrev yo:Stmt:=top 27
abbrev yp:Stmt:=top 28
abbrev vE:Stmt:=top 29
abbrev yq:Stmt:=top 30
abbrev Ax:Stmt:=top 31
abbrev Ay:Stmt:=top 32
abbrev CJ:Stmt:=top 33
abbrev vF:Stmt:=top 34
abbrev yr:Stmt:=top 35
abbrev ux:Stmt:=top 36
abbrev Ot:Stmt:=top 37
abbrev uy:P3:=["placed"]
def jb:MS:=bS (eFn (gM (oT 2) [Ã] (eO #[((0)\{1})\{1}]) dw (ai aY #[aj ay ((2)\{0}) (ai aY #[(0)]),(1)])))
def cH(ds:X2):M D:=eN (λds=>cj 1 jb ds) ds
abbrev Az:P3:=["rule"]
def l9:MS:=bS (ai gK #[eFn (dJ oN [] ((0)\{3}) dw {0})])
def ie(ds:X2):M D:=eN (λds=>cj 1 l9 ds) ds
abbrev Nq:P3:=["rule","counts","k","low","high","most"]
def uz:MS:=aC 5 (HU (cy (aj (fH Ä) (4) (eC .bD))) (3) (4))<|>(bS (aj ay (aj ay (eFn (iE (1) bU (aS (2)))) (ai aY (af (ai (dY λi j=>if j<i then j else i) #[aj ay ((1)\(2)) {1},(5)]) #[]))) (eFn (iE (1) (aS (aj ay (2) {1})) bU))))
def yt:MS:=aC 3 ((((0)\{3})\(2))\{1})<|>(aC 4 ((((0)\{3})\(2))\{2})<|>(iV (cy (aj (fG Ä) ((0)\{2}) ("mix"))) uz bC<|>((aC 5 (HU (cy (aj (fH Ä) (4) (eC .bD))) (ai (dY λi j=>if j > i then j else i) #[(3),{1}]) (4)))<|>(bS (aj ay (aj ay (ai gK #[eFn (dJ oN [] (eFn (iE ((0)\{3}) bU (aS (2)))) dw ((0)\{1}))]) (ai aY (af (ai (dY λi j=>if j<i then j else i) #[aj ay ((1)\(2)) {1},(5)]) #[]))) (eFn (iE (1) (aS (aj ay (2) {1})) bU)))))))
def sG(ds:X2):M D:=eN (λds=>cj 6 yt ds) ds
abbrev AA:P3:=["items","counts"]
def mj:MS:=bS (ai (Ia Ä) #[eFn (gM (oT 2) [] (zZ #[(0),(1)]) dw (aj PZ (1) ((0)\{1})))])
def fS(ds:X2):M D:=eN (λds=>cj 2 mj ds) ds
abbrev CK:P3:=["items","layers","counts","names","layer","came"]
def fT:MS:=aC 5 (i9 (4) (2))<|>dG (bu "list" br (3) #[((0)\((5)\{1}))\{0}])<|>aC 2 ((5)\{0})
def nY:MS:=aC 3 (ai aR #[])<|>iY (gN 4) (Jg #[vn (iE (1) (aS {1}) bU)]) fT<|>bS (eFn (ai oY #[(3)]))
def gR(ds:X2):M D:=eN (λds=>cj 6 nY ds) ds
abbrev AB:P3:=["_law_state_here","_law_at","_law_number"]
def jt:MS:=aC 1 ((0)\{1})<|>iA (aj ay (1) {1}) (0) {1}<|>iV (cy (aj ER (1) (ai aM #[(0)\{0}]))) (bS (((0)\{0})\(1))) bC<|>aC 2 (aj aX (aj EO (aj ay (((0)\{0})\(aj aX (1) (ai aM #[(0)\{0}]))) (aj EO {7919} (1))) {48271}) {2147483647})<|>aC 2 (aj aX (aj EO (2) (2)) {2147483629})<|>bS (aj aX (aj EO (2) (aj ay (2) (aj EO {16807} (1)))) {1000000007})
def aD(ds:X2):M D:=cj 3 jt ds
abbrev yu:P3:=["_law_cell","_law_many","_law_letters","_law_core","_law_here"]
def iI:MS:=aC 2 ("abcdefghijklmnopqrstuvwxyz")<|>aC 3 (bu "str" rC ("") #[eFn (dD fc oN [Ã,Ä,Ã] #[aj aX (0) {6}] dw ((3)\(aj aX (aj bJ (1) (aj ay (0) {2})) {26})))])<|>aC 4 (aj aX (aj bJ (0) {6}) (aj ay (ai aM #[(3)]) {1}))<|>bS (eFn (dD fc oN [Ã,Ä,Ã,Ã,Ã] #[(1)] dw (aj ay (aj ay (aj ay (eFn (iE (4) bU (aS (5)))) ((3)\(aj aX (aj ay (aj bJ (1) {42}) (0)) {26}))) ("q")) (eFn (iE (4) (aS (5)) bU)))))
def eX(ds:X2):M D:=eN (λds=>cj 5 iI ds) ds
abbrev CL:P3:=["_law_rule","_law_names_here","_law_left","_law_name","_law_low","_law_high","_law_count"]
def bZ:MS:=aC 6 (ai aM #[eFn (dJ oN [Ä,Ä,Ä,Ã] (1) (cy (aj (fG Ä) (0) (4))) (0))])<|>iV (rW (cy (aj ER (6) (4))) (d9 (cy (aj (fH Ã) (5) (eC .bD))) (cy (aj qA (6) (5))))) (bS (eC (.bl Ä))) bC<|>iV (d9 (cy (aj (fG Ä) ((0)\{2}) ("row"))) (cy (aj (fG Ã) (eFn (iE (2) bU (aS (6)))) (UM (vn (aj rJ (ai aR #[(3)]) (6))))))) (bS (eC (.bl Ä))) bC<|>iV (cy (aj (fG Ä) ((0)\{2}) ("row"))) (aC 2 (eFn (iE (2) (aS (6)) bU))) (aC 2 (eFn (dJ oN [Ä,Ä,Ä,Ã] (2) (cy (aj (fG Ã) (0) (4))) (0))))
def nZ:MS:=aC 2 (eFn (ai qD #[(1)]))<|>gG (Nh 3 4 5) ((0)\{3}) bZ<|>bS (aj (fG Ä) (2) (eFn (ai aR #[])))
def jd(ds:X2):M D:=eN (λds=>cj 7 nZ ds) ds
def gi:MS:=aC 2 ("abcdefghijklmnopqrstuvwxyz")<|>aC 3 (bu "str" rC ("") #[eFn (dD fc oN [Ã,Ä,Ã] #[aj aX (0) {6}] dw ((3)\(aj aX (aj bJ (1) (aj ay (0) {2})) {26})))])<|>aC 4 (aj aX (aj bJ (0) {6}) (aj ay (ai aM #[(3)]) {1}))<|>bS (dD fc oN [Ã,Ä,Ã,Ã,Ã] #[(1)] dw (aj ay (aj ay (aj ay (eFn (iE (4) bU (aS (5)))) ((3)\(aj aX (aj ay (aj bJ (1) {42}) (0)) {26}))) ("q")) (eFn (iE (4) (aS (5)) bU))))
def cY(ds:X2):M D:=iB (λds=>cj 5 gi ds) ds
abbrev yw:P3:=["_law_script","_law_cells","_law_cell","_law_number"]
def b7:MS:=dG (bu "list" br (1) #[aj aX (3) (aj iU {10} {6})])<|>aC 3 (aj bJ (3) (aj iU {10} {6}))
def di:MS:=aC 3 (aj aX (2) (aj wL (aj iU {10} {60}) {6}))<|>dG (bu "list" br (1) #[aj aX (3) (aj iU {10} {6})])<|>aC 3 (aj bJ (3) (aj iU {10} {6}))<|>dZ (d9 (cy (aj qA (3) {0})) (cy (aj ER (ai aM #[(1)]) {300}))) b7 fuel
def eT:MS:=aC 1 (ai aR #[])<|>iV (d9 (cy (aj qA (ai aM #[(0)]) {0})) (cy (aj (fG Ä) (aj aX ((0)\{0}) {2}) {1}))) (gG (gN 2) (eFn (iE (0) (aS {1}) (aS {63}))) di) (aC 1 (eFn (dJ oN [] (eFn (iE (0) (aS {1}) (aS {63}))) dw (aj aX (0) (aj iU {10} {18})))))<|>bS (ai aR #[eFn (aj ay (1) (eFn (ai aR #[aj ay (ai aM #[(0)]) {3}]))),{0}])
def dM(ds:X2):M D:=iB (λds=>cj 4 eT ds) ds
abbrev yx:P3:=["top","parts_of","found","waiting","one"]
def fj:MS:=aC 4 (bu "list" zB (3) ah)<|>dG (bu "list" br (2) #[(4)])<|>dG (bu "list" zS (3) #[eFn (ai oY #[nR 1 1 (λy=>ő y [("placed_parts",cH)]) #[(4)]])])
def kU:MS:=aC 2 (ai aR #[])<|>aC 3 (ai aR #[(0)])<|>dZ (cy (aj qA (ai aM #[(3)]) {0})) fj fuel<|>bS (vn (2))
def kW(ds:X2):M D:=eN (λds=>cj 5 kU ds) ds
abbrev CM:P3:=["rule","counts","k","high"]
def n6:MS:=aC 3 ((((0)\{3})\(2))\{2})<|>iV (d9 (cy (aj (fH Ã) (3) (eC .bD))) (cy (aj PZ ((1)\(2)) (3)))) (bS (eC (.bl Ä))) bC<|>bS (TU (aj (fG Ä) ((0)\{2}) ("mix")) (EU (aj (fG Ä) (ai um #[eFn (iE (1) (aS (aj ay (2) {1})) bU)]) {0}) (aF 2 fS #[eFn (iE ((0)\{3}) bU (aS (2))),(1)])))
def kX(ds:X2):M D:=eN (λds=>cj 4 n6 ds) ds
abbrev AD:P3:=["_law_state_here","_law_names_here","_law_low","_law_first","_law_cell","_law_some","_law_high"]
def ju:MS:=aC 4 (aF 1 aD #[(0)])<|>aC 5 (1)<|>iV (cy (aj qA (2) {0})) (aC 5 (3)) bC<|>aC 6 ((eFn (ai aR #[eC .bD,(2),{2},aj ay (2) (aj bJ (aj xR {2} (2)) {2})]))\(aj aX (aj bJ (4) {8}) {4}))<|>bS (ai aY #[(5)\(aj aX (aj bJ (4) {64}) (ai aM #[(5)])),(2),(6)])
def fU(ds:X2):M D:=cj 7 ju ds
abbrev vG:P3:=["_law_state_here","_law_rule","_law_fuel","_law_found","_law_name","_law_low","_law_high","_law_more","_law_cell"]
def cZ:MS:=aC 8 (aF 1 aD #[(0)])<|>(aC 7 (aj aX (8) {3})<|>(iV (cy (aj (fH Ã) (6) (eC .bD))) (aC 7 (ai (dY λi j=>if j<i then j else i) #[(7),aj xR (6) (5)])) (iV (cy (aj (fG Ä) (aj aX (aj bJ (8) {3}) {8}) {5})) (aC 7 (aj aX (aj bJ (8) {24}) {80})) bC)))
def eU:MS:=aC 7 {0}<|>iV (cy (aj qA ((2)\{0}) {0})) cZ bC<|>dG (bu "list" br (3) #[aj ay (5) (7)])<|>iA (aj xR ((2)\{0}) (7)) (2) {0}
def jF:MS:=aC 3 (ai aR #[])<|>gG (Nh 4 5 6) ((1)\{3}) eU<|>bS (vn (3))
def g8(ds:X2):M D:=cj 9 jF ds
abbrev yy:P3:=["_law_state_here","_law_rule","_law_counts_here","_law_row","_law_item_here","_law_count","_law_k","_law_at"]
def fk:MS:=aC 7 (ai aM #[(3)])<|>iV (cy (aj (fG Ä) ((1)\{2}) ("mix"))) (aC 7 (aj aX (aF 1 aD #[(0)]) (aj ay (ai aM #[(3)]) {1}))) bC<|>dG (bu "list" pN (3) #[(7),(4)\{0}])
def dS:MS:=kB fc (gN 6) #[(5)] fk
def kY:MS:=aC 3 (ai aR #[])<|>iY (gP 4 5) (zZ #[(1)\{3},(2)]) dS<|>bS (vn (3))
def iJ(ds:X2):M D:=cj 8 kY ds
abbrev uA:P3:=["tree"]
def je:MS:=bS (aF 2 kW #[ai aY #[ai aY #[],(0)],eC (.fn "placed_parts")])
def gj(ds:X2):M D:=eN (λds=>cj 1 je ds) ds
abbrev yz:P3:=["rule","layer","names","fitting","found","counts","k"]
def dU:MS:=iV (eF gA (aF 3 kX #[(0),(5),(6)])) (jE (ai aY #[(5),(6)]) (4) (aF 3 sG #[(0),(5),(6)])) bC
def fq:MS:=gG (gN 6) (3) dU
def jG:MS:=aC 4 (nV)<|>iY (gN 5) (Jw (1)) fq<|>bS (4)
def kZ:MS:=aC 3 (eFn (gM (oT 2) [Ä,Ä,Ã] (eO #[(0)\{3}]) (cy (aj Cn ((1)\{0}) (4))) (0)))<|>jG
def iK(ds:X2):M D:=cj 7 kZ ds
abbrev yC:P3:=["_law_state_here","_law_names_here","_law_first","_law_most","_law_items_here","_law_k","_law_cell","_law_low","_law_item_here"]
def dW:MS:=aC 6 (aF 1 aD #[(0)])<|>aC 7 {0}<|>iV (d9 (cy (aj qA (ai aM #[(2)]) {0})) (cy (aj (fG Ä) (aj aX (6) {2}) {1}))) (aC 7 (aj ay {1} (aj aX (aj bJ (6) {2}) {2}))) bC<|>aC 8 (aF 4 fU #[(0),(1),(7),(2)])<|>iV (cy (aj (sY Ã) ((8)\{0}) (eFn (dJ oN [] (4) dw ((0)\{0}))))) (dG (bu "list" br (4) #[(8)])) bC
def lg:MS:=aC 4 (ai aR #[])<|>kB fc (gN 5) #[aj aX (aF 1 aD #[(0)]) (aj ay (3) {1})] dW<|>bS (ai gK #[(4)])
def dR(ds:X2):M D:=cj 9 lg ds
abbrev yD:P3:=["rule","choices","items","layers","names","counts"]
def fy:MS:=dG (bu "list" br (3) #[aF 3 iK #[(0),(3)\(zu {1}),(4)]])
def bV:MS:=iV (eF gA (aF 2 fS #[(2),(5)])) (bS (aF 3 gR #[(2),(3),(5)])) bC
def fB:MS:=iY (gN 5) (Jw ((3)\(zu {1}))) bV<|>bS (eC .bD)
def iL:MS:=aC 2 ((0)\{3})<|>aC 3 (ai aR #[l7 (aF 1 ie #[(0)]) (eC .bD)])<|>gG (gN 4) (1) fy<|>fB
def eY(ds:X2):M D:=eN (λds=>cj 6 iL ds) ds
abbrev yE:P3:=["_law_state_here","_law_names_here","_law_kinds","_law_most","_law_rules","_law_k","_law_name","_law_cell","_law_items_here"]
def dF:MS:=aC 7 (aF 1 aD #[(0)])<|>aC 8 (aF 4 dR #[(0),(1),eFn (iE (1) (aS (aj ay (5) {1})) bU),(3)])<|>dG (bu "list" br (4) #[ai aY #[(6),(2)\(aj aX (7) (ai aM #[(2)])),(eFn (ai aR #[("row"),("mix")]))\(aj aX (aj bJ (7) {8}) {2}),(8)]])
def fC:MS:=aC 7 (aF 1 aD #[(0)])<|>aC 8 (aF 4 dR #[(0),(1),eFn (iE (1) bU (aS {2})),(3)])<|>aC 6 ((1)\(aj aX (aj bJ (7) {16}) (ai aM #[(1)])))<|>dG (bu "list" br (4) #[ai aY #[(6),(2)\(aj aX (7) (ai aM #[(2)])),(eFn (ai aR #[("row"),("mix")]))\(aj aX (aj bJ (7) {8}) {2}),(8)]])
def jH:MS:=kB fc (gN 5) #[aj aX (aF 1 aD #[(0)]) {3}] fC<|>bS (ai aY #[(1)\{0},ai gK #[(4)]])
def lq:MS:=aC 4 (ai aR #[])<|>iY (gP 5 6) (eO #[(1)]) dF<|>jH
def gk(ds:X2):M D:=cj 9 lq ds
abbrev uB:P3:=["rules","kind","choices","found","number","rule","row"]
def fF:MS:=aC 6 (aF 2 eY #[(5),(2)])<|>iV (cy (aj (fH Ã) (6) (eC .bD))) (oQ (ai aY #[(4),(6)]) (3) ((5)\{0})) bC
def bO:MS:=iV (d9 (cy (aj (fG Ä) ((5)\{1}) (1))) (cy (aj gg ((5)\{0}) (3)))) fF bC
def jf:MS:=aC 3 (Ji)<|>iY (gP 4 5) (eO #[(0)]) bO<|>bS (3)
def gn(ds:X2):M D:=cj 7 jf ds
abbrev pP:P3:=["shape","tree","chosen","place","part","choices"]
def aU:MS:=aC 5 (dD fc oN [Ä,Ä,Ã,Ã] #[ai aM #[(4)\{1}]] dw (i9 (3) (aj ay (4) (ai aY #[(0)]))))<|>jE (aF 3 gn #[(0)\{1},(4)\{0},(5)]) (2) (3)
def gp:MS:=aC 2 (nV)<|>iY (gP 3 4) (Jg #[aF 1 gj #[(1)]]) aU<|>bS (2)
def cL(ds:X2):M D:=cj 6 gp ds
abbrev CN:P3:=["shape","tree"]
def n8:MS:=bS (vn (ai kO #[i9 (aF 2 cL #[(0),(1)]) (ai aY #[])]))
def gS(ds:X2):M D:=eN (λds=>cj 2 n8 ds) ds
abbrev wQ:P3:=["shape","tree","name","chosen","names","numbers","place","part","choice","k","below"]
def gT:MS:=jE (10) (4) (aj ay (6) (ai aY #[(9)]))
def eV:MS:=aC 8 (M4 (i9 (3) (6)) (i9 (4) (6)))<|>jE ((8)\{0}) (5) (6)<|>iY (gP 9 10) (eO #[(8)\{1}]) gT
def mX:MS:=aC 3 (aF 2 cL #[(0),(1)])<|>aC 4 (l7 (ai aY #[]) (HU (cy (aj (fH Ä) (2) (eC .bD))) ((0)\{0}) (2)))<|>iV (cy (aj gg (i9 (4) (ai aY #[])) (i9 (3) (ai aY #[])))) (nO "NoShape" #[("the tree is not of this name")]) bC<|>aC 5 (nV)<|>gG (gP 6 7) (aF 1 gj #[(1)]) eV<|>bS (5)
def dm(ds:X2):M D:=cj 11 mX ds
def lu:MS:=bS (ai kO #[i9 (aF 2 cL #[(0),(1)]) (ai aY #[])])
def gq(ds:X2):M D:=iB (λds=>cj 2 lu ds) ds
abbrev UT:P3:=["shape","tree"]
def J9:MS:=bS (aj (sY Ä) ((0)\{0}) (aF 2 gS #[(0),(1)]))
def AE(ds:X2):M D:=eN (λds=>cj 2 J9 ds) ds
abbrev uC:P3:=["_law_shape_here","_law_tree_here","_law_name"]
def jh:MS:=zJ (dG (aF 3 dm #[(0),(1),(2)])) (tF (λn=>ő n [("NoShape",Ã)]) (bS (eC (.bl Ã))) Qz) bC<|>bS (eC (.bl Ä))
def gr(ds:X2):M D:=eN (λds=>cj 3 jh ds) ds
abbrev AF:P3:=["_law_state_here","_law_shape_here","_law_name","_law_fuel","_law_place","_law_marks","_law_numbers","_law_number","_law_rule","_law_parts","_law_k","_law_one"]
def gu(i:X2->M D):MS:=dG (bu "list" br (9) #[aF 6 i #[(0),(1),(11),(3),aj ay (4) (ai aY #[(10)]),(5)]])
def iM(i:X2->M D):MS:=aC 7 ((6)\{0})<|>iV (cy (aj qA ((3)\{0}) {0})) (aC 7 ((6)\(aj aX (aF 1 aD #[(0)]) (ai aM #[(6)])))) bC<|>iA (aj xR ((3)\{0}) {1}) (3) {0}<|>aC 8 (((1)\{1})\(7))<|>jE (7) (5) (4)<|>aC 9 (ai aR #[])<|>iY (gP 10 11) (eO #[aF 3 iJ #[(0),(8),aF 3 g8 #[(0),(8),(3)]]]) (gu i)<|>bS (ai aY #[(8)\{1},ai gK #[(9)]])
def ir(i:X2->M D):MS:=aC 6 (eFn (dD fc oN [Ä,Ã,Ã] #[ai aM #[(1)\{1}]] (cy (aj (fG Ä) ((((2)\{1})\(0))\{0}) (3))) (0)))<|>(iM i)
mutual
def cI:Nat->X2->M D
  |0,_=>M.stop
  |n+1,ds=>cj 12 (ir (cI n)) ds
end
abbrev mq:X2->M D:=cI 40
abbrev AG:P3:=["_law_state_here","_law_shape_here","_law_fuel","_law_most","_law_marks","_law_tree_here"]
def ly:MS:=aC 4 (nV)<|>aC 5 (aF 6 mq #[(0),(1),(1)\{0},ai aR #[{0}],ai aY #[],(4)])
def jw:MS:=aC 4 (nV)<|>aC 5 (aF 6 mq #[(0),(1),(1)\{0},ai aR #[(2)],ai aY #[],(4)])<|>iV (cy (aj qA (ai pM #[(4)]) (3))) ly bC<|>bS (ai aY #[(5),(4)])
def fV(ds:X2):M D:=cj 6 jw ds
abbrev vH:P3:=["_law_shape_here","_law_tree_here","_law_place","_law_marks","_law_seen","_law_number","_law_rule","_law_names_here","_law_k","_law_part"]
def dN(j:X2->M D):MS:=iV (jQ (eF gA (aF 5 j #[(0),(9),aj ay (2) (ai aY #[(8)]),(3),(4)]))) (bS (eC (.bl Ä))) bC<|>dG (bu "list" br (7) #[(((0)\{1})\(i9 (3) (aj ay (2) (ai aY #[(8)]))))\{0}])
def fD(j:X2->M D):MS:=aC 5 (uh (3) (2) (zu {1}))<|>iV (rW (jQ (eF gA (zy .int (5)))) (rW (eF gA (zy .bl (5))) (jQ (cy (nL Tv ER {0} (5) (ai aM #[(0)\{1}])))))) (bS (eC (.bl Ä))) bC<|>dG (bu "list" br (4) #[(2)])<|>aC 6 (((0)\{1})\(5))<|>aC 7 (ai aR #[])<|>iY (gP 8 9) (eO #[(1)\{1}]) (dN j)<|>bS (EU (aj (fG Ä) ((6)\{1}) ((1)\{0})) (aF 2 jd #[(6),vn (7)]))
mutual
def bW:Nat->X2->M D
  |0,_=>M.stop
  |n+1,ds=>cj 10 (fD (bW n)) ds
end
abbrev nA:X2->M D:=bW 95
abbrev yF:P3:=["_law_shape_here","_law_tree_here","_law_marks","_law_name","_law_seen"]
def lA:MS:=aC 4 (ai aR #[])<|>iV (rW (jQ (eF gA (zy .dct (2)))) (jQ (eF gA (aF 5 nA #[(0),(1),ai aY #[],(2),(4)])))) (bS (eC (.bl Ä))) bC<|>bS (EU (aj (fG Ä) (ai aM #[(4)]) (ai pM #[(2)])) (aj (fG Ä) ((((0)\{1})\(i9 (2) (ai aY #[])))\{0}) (3)))
def eZ(ds:X2):M D:=eN (λds=>cj 5 lA ds) ds
abbrev Ou:P3:=["_law_script","_law_state_here","_law_names_here","_law_kinds","_law_shape_here","_law_tree_here","_law_due","_law_found","_law_told","_law_name"]
def CO:MS:=iV (jQ (eF gA (aF 3 gr #[(4),(5),(9)]))) (bS (eC (.bl Ä))) bC<|>Oa
def n9:MS:=iV (cy (aj (sY Ã) (9) (7))) CO bC<|>aC 8 (aF 3 dm #[(4),(5),(9)])<|>iV (jQ (eF gA (aF 4 eZ #[(4),(5),(8),(9)]))) (bS (eC (.bl Ä))) bC
def wR:MS:=aC 1 (aF 1 dM #[(0)])<|>aC 2 (aF 2 cY #[aF 1 aD #[(1)],{4}])<|>iV (cy (aj (fG Ä) (aj aX (aF 1 aD #[(1)]) {2}) {1})) (iA (aj ay ((2)\{0}) ("z")) (2) {0}) bC<|>aC 3 (aF 2 eX #[aF 1 aD #[(1)],{3}])<|>aC 4 (aF 4 gk #[(1),vn (iE (2) bU (aS (aj ay {1} (aj aX (aF 1 aD #[(1)]) {3})))),(3),{3}])<|>FG (gP 5 6) (aF 4 fV #[(1),(4),aj aX (aF 1 aD #[(1)]) {21},{90}])<|>aC 7 (aF 2 gq #[(4),(5)])<|>iV (rW (cy (aj (DM Ã) (aF 2 AE #[(4),(5)]) (eC (.bl Ã)))) (cy (aj (sY Ã) ((4)\{0}) (7)))) (bS (eC (.bl Ä))) bC<|>iV (cy (aj (fG Ã) (7) (eFn (ai nW #[(7)])))) (bS (eC (.bl Ä))) bC<|>aC 8 (ue 3 dm #[(4),(5)])<|>iV (jQ (eF gA (aF 4 eZ #[(4),(5),(8),(4)\{0}]))) (bS (eC (.bl Ä))) bC<|>dG (Vz kQ (8))<|>dG (bu "list" qG (7) ah)<|>aC 7 (aF 2 gS #[(4),(5)])<|>gG (gN 9) (2) n9<|>bS (aj (fG Ä) (ai aM #[eFn (dJ oN [Ä,Ä,Ã] (7) (cy (aj (sY Ã) (0) (eFn (iE (3) bU (aS {3}))))) (0))]) {0})
def Ka(ds:X2):M D:=eN (λds G=>Ac (cj 10 wR ds G)) ds
def defs:List JD:=("all_within",2,yx,yi)::[("placed_trees",1,uA,uu),("placed_parts",1,uy,uv),("row_chosen",2,yD,yj),("next_layer",3,yz,yk),("no_counts",1,Az,As),("may_take",3,CM,CF),("taken",3,Nq,Np),("is_enough",2,AA,Au),("row_back",3,CK,CG),("names_of",2,CN,CH),("has",2,UT,US),("chosen_by_place",2,pP,pO),("chosen_rules",3,uB,uw),("_law_state",1,yw,yl),("_law_next",1,AB,Av),("_law_item",4,AD,Aw),("_law_items",4,yC,ym),("_law_shape",4,yE,yo),("_law_names",2,yu,yp),("_law_counts",3,vG,vE),("_law_order",3,yy,yq),("_law_grow",6,AF,Ax),("_law_tree",4,AG,Ay),("_law_let",2,CL,CJ),("_law_walked",5,vH,vF),("_law_right",4,yF,yr),("_law_refused",3,uC,ux),("law",1,Ou,Ot)]
def Rz:P3:=["all","bool","dict","enumerate","int","isinstance","len","list","max","min","range","reversed","set","sorted","sum","tuple","zip"]
structure Txt(g:oE):Prop where
  D:pK g.K g.mg defs
  B:jZ g.mg Rz
  C0:Rw g "NoShape"
  C1:FO g "NoShape" [("NoShape",Ã)]
  C2:rK g.K g.mg "marking" 3 wQ wO
theorem bK{a b:Prop}(h:a)(k:a->b):b:=k h
theorem RA{g:oE}(T:Txt g){f:Addr}{fd:FuncData}(F:LQ g.K "law" "law" Ot f fd):nk g.P g.w g.K g.mg g.base (xV g.P g.w) 98 f fd ["_law_script"] (g9 g.K g.mg 1 Ka):=by
 obtain⟨_,_,_,_,_,_,_,_,_,_,_,_,_,_,_,_,_,_,_,_,_,_,_,_,_,_,_,_,_,_⟩:=T.D;have:=T.C0;have:=T.C1;have:=T.C2;refine bK (a:=gB g "placed_parts" 1 1 cH) ?_ λ_=>bK (a:=gB g "no_counts" 1 1 ie) ?_ λ_=>bK (a:=gB g "taken" 1 3 sG) ?_ λ_=>bK (a:=gB g "is_enough" 1 2 fS) ?_ λ_=>bK (a:=gB g "row_back" 1 3 gR) ?_ λ_=>bK (a:=gB g "_law_next" 1 1 aD) ?_ λ_=>bK (a:=gB g "_law_names" 1 2 eX) ?_ λ_=>bK (a:=gB g "_law_let" 1 2 jd) ?_ λ_=>bK (a:=gB g "_law_names" 1 2 cY) ?_ λ_=>bK (a:=gB g "_law_state" 1 1 dM) ?_ λ_=>bK (a:=gB g "all_within" 2 2 kW) ?_ λ_=>bK (a:=gB g "may_take" 2 3 kX) ?_ λ_=>bK (a:=gB g "_law_item" 2 4 fU) ?_ λ_=>bK (a:=gB g "_law_counts" 2 3 g8) ?_ λ_=>bK (a:=gB g "_law_order" 2 3 iJ) ?_ λ_=>bK (a:=gB g "placed_trees" 3 1 gj) ?_ λ_=>bK (a:=gB g "next_layer" 3 3 iK) ?_ λ_=>bK (a:=gB g "_law_items" 3 4 dR) ?_ λ_=>bK (a:=gB g "row_chosen" 4 2 eY) ?_ λ_=>bK (a:=gB g "_law_shape" 4 4 gk) ?_ λ_=>bK (a:=gB g "chosen_rules" 5 3 gn) ?_ λ_=>bK (a:=gB g "chosen_by_place" 6 2 cL) ?_ λ_=>bK (a:=gB g "names_of" 7 2 gS) ?_ λ_=>bK (a:=JN g "marking" 7 3 dm) ?_ λ_=>bK (a:=gB g "marking" 7 3 dm) ?_ λ_=>bK (a:=gB g "names_of" 7 2 gq) ?_ λ_=>bK (a:=gB g "has" 8 2 AE) ?_ λ_=>bK (a:=gB g "_law_refused" 8 3 gr) ?_ λ_=>bK (a:=gB g "_law_grow" 42 6 mq) ?_ λ_=>bK (a:=gB g "_law_tree" 43 4 fV) ?_ λ_=>bK (a:=gB g "_law_walked" 96 5 nA) ?_ λ_=>bK (a:=gB g "_law_right" 97 4 eZ) ?_ λ_=>?_
 all_goals
  first
   |(with_reducible show gB _ "marking" _ _ _);refine F3 (by assumption) T.B ⟨rfl,rfl,rfl,by symm,rfl,by symm,by symm⟩ rfl rfl (by intro T kV doc pm an cdv ct;exact vC λ_ _ _=>⟨_,rfl,rfl⟩) (by intro T kV doc pm an cdv ct;exact YO 2 <|vB λ_ _=>⟨_,rfl,rfl⟩) λX EE hV hS=>?_
   |(with_reducible show JN _ "marking" _ _ _);refine F6 (by assumption) T.B ⟨rfl,rfl,rfl,by symm,rfl,by symm,by symm⟩ rfl rfl (by intro T kV doc pm an cdv ct;exact vC λ_ _ _=>⟨_,rfl,rfl⟩) (by intro T kV doc pm an cdv ct;exact YO 2 <|vB λ_ _=>⟨_,rfl,rfl⟩) λX EE hV hS=>?_
   |(with_reducible show gB _ "_law_grow" _ _ _);refine uo (k:=2) (MM:=cI) (F:=λr=>λds=>cj 12 (ir r) ds) (by assumption) (by intro _ _ _ _ _ _;first|exact yb λ_=>rfl|exact vB λ_ _=>rfl|exact vC λ_ _ _=>rfl|exact Ag λ_ _ _ _=>rfl|exact Ah λ_ _ _ _ _=>rfl|exact Am λ_ _ _ _ _ _=>rfl) (by funext ds;rw[cI]) (λi=>by funext ds;rw[cI]) (λi _=>?_) 40;show gB _ _ _ _ (λds=>cj 12 (ir (cI i)) ds);refine mW (by assumption) T.B ⟨rfl,rfl,rfl,by symm,rfl,by symm,by symm⟩ rfl rfl (by intro _ _ _ _ _ _;first|exact yb λ_=>rfl|exact vB λ_ _=>rfl|exact vC λ_ _ _=>rfl|exact Ag λ_ _ _ _=>rfl|exact Ah λ_ _ _ _ _=>rfl|exact Am λ_ _ _ _ _ _=>rfl) λX EE hV hS=>?_
   |(with_reducible show gB _ "_law_walked" _ _ _);refine uo (k:=1) (MM:=bW) (F:=λr=>λds=>cj 10 (fD r) ds) (by assumption) (by intro _ _ _ _ _ _;first|exact yb λ_=>rfl|exact vB λ_ _=>rfl|exact vC λ_ _ _=>rfl|exact Ag λ_ _ _ _=>rfl|exact Ah λ_ _ _ _ _=>rfl|exact Am λ_ _ _ _ _ _=>rfl) (by funext ds;rw[bW]) (λi=>by funext ds;rw[bW]) (λi _=>?_) 95;show gB _ _ _ _ (λds=>cj 10 (fD (bW i)) ds);refine mW (by assumption) T.B ⟨rfl,rfl,rfl,by symm,rfl,by symm,by symm⟩ rfl rfl (by intro _ _ _ _ _ _;first|exact yb λ_=>rfl|exact vB λ_ _=>rfl|exact vC λ_ _ _=>rfl|exact Ag λ_ _ _ _=>rfl|exact Ah λ_ _ _ _ _=>rfl|exact Am λ_ _ _ _ _ _=>rfl) λX EE hV hS=>?_
   |(with_reducible show nk _ _ _ _ _ _ _ _ _ _ _);refine JF (N:=Ou) (y:="_law_script") F T.B ⟨rfl,rfl,rfl,by symm,rfl,by symm,by symm⟩ (by symm) rfl λX EE hV hS=>?_
   |(with_reducible show gB _ "marking" _ _ _);refine mW (by assumption) T.B ⟨rfl,rfl,rfl,by symm,rfl,by symm,by symm⟩ rfl rfl (by intro _ _ _ _ _ _;first|exact yb λ_=>rfl|exact vB λ_ _=>rfl|exact vC λ_ _ _=>rfl|exact Ag λ_ _ _ _=>rfl|exact Ah λ_ _ _ _ _=>rfl|exact Am λ_ _ _ _ _ _=>rfl) λX EE hV hS=>?_
   |refine gB.pure (mW (by assumption) T.B ⟨rfl,rfl,rfl,by symm,rfl,by symm,by symm⟩ rfl rfl (by intro _ _ _ _ _ _;first|exact yb λ_=>rfl|exact vB λ_ _=>rfl|exact vC λ_ _ _=>rfl|exact Ag λ_ _ _ _=>rfl|exact Ah λ_ _ _ _ _=>rfl|exact Am λ_ _ _ _ _ _=>rfl) λX EE hV hS=>?_)
   |refine gB.fresh (mW (by assumption) T.B ⟨rfl,rfl,rfl,by symm,rfl,by symm,by symm⟩ rfl rfl (by intro _ _ _ _ _ _;first|exact yb λ_=>rfl|exact vB λ_ _=>rfl|exact vC λ_ _ _=>rfl|exact Ag λ_ _ _ _=>rfl|exact Ah λ_ _ _ _ _=>rfl|exact Am λ_ _ _ _ _ _=>rfl) λX EE hV hS=>?_)
   |refine mW (by assumption) T.B ⟨rfl,rfl,rfl,by symm,rfl,by symm,by symm⟩ rfl rfl (by intro _ _ _ _ _ _;first|exact yb λ_=>rfl|exact vB λ_ _=>rfl|exact vC λ_ _ _=>rfl|exact Ag λ_ _ _ _=>rfl|exact Ah λ_ _ _ _ _=>rfl|exact Am λ_ _ _ _ _ _=>rfl) λX EE hV hS=>?_
  delta jb l9 yt uz mj nY fT jt iI nZ bZ gi eT b7 di kU fj n6 ju jF cZ eU kY fk dS je kZ dU fq jG lg dW iL fy bV fB lq dF fC jH jf fF bO gp aU n8 mX gT eV lu J9 jh ir gu iM jw ly fD dN lA wR CO n9
  repeat' first
    |(with_reducible show @Eq Bool _ Ã);kernel_rfl
    |with_reducible show QE _ _ _ _;first
       |refine M7 hV ?_
       |(show QE _ _ _ (eC _));first|exact PV|exact PY|((show QE _ _ (.Name _ _) (eC _));first|refine Cp hV (yc.has (by assumption)) ?_|refine Cp hV (Xl.has (by assumption)) ?_)|((show QE _ _ _ (eC (.fn _)));refine Cp hV (yc.has (by assumption)) ?_)|exact Tt|exact PX
       |(show QE _ _ _ (bu _ _ _ _));first|refine Mz ?_ ?_ ?_ ?_ ?_|refine Jj ?_ ?_ ?_|refine F2 ?_ ?_ ?_ ?_ ?_|refine Fg ?_ ?_ ?_ ?_ ?_|refine MO ?_ ?_ ?_ ?_ ?_|refine Q2 ?_ ?_ ?_
       |refine UN ?_
       |(show QE _ _ _ (aj _ _ _));first|refine Iu ?_ ?_ ?_|refine ML ?_ ?_|refine P6 ?_ ?_|refine P4 ?_ ?_|refine P5 ?_ ?_|refine LX ?_ ?_|refine Rp ?_ ?_|refine P7 ?_ ?_|refine Nj ?_ ?_|refine TF hV.hu ?_ ?_|refine Tw ?_ ?_|refine Uq hV.hu ?_ ?_ ?_
       |refine Rc ?_
       |refine UA ?_
       |((show QE _ _ _ (aF _ _ _));first|refine JT hV (by assumption) ?_ ?_|refine Ad hV (by assumption) ?_ ?_)
       |((show QE _ _ _ (ue _ _ _));refine JO hV (by assumption) ?_ ?_)
       |((show QE _ _ (.ListComp _ _ _ _) _);first|refine Ae hV hS Sk ?_ ?_ ?_ ?_|refine Ae hV hS Sl ?_ ?_ ?_ ?_|refine wG hV hS Sk ?_ ?_ ?_ ?_|refine wG hV hS Sl ?_ ?_ ?_ ?_|refine uc hV hS Sk ?_ ?_ ?_ ?_|refine uc hV hS Sl ?_ ?_ ?_ ?_)
       |(show QE _ _ _ (ai _ _));first|refine P9 ?_|refine Qa ?_|refine QY (hV.bl _ ?_) (hV.gl _ ?_) ?_ ?_|refine Nf (hV.bl _ ?_) (hV.gl _ ?_) ?_ ?_|refine Ng hV.hc (hV.bl _ ?_) (hV.gl _ ?_) ?_ ?_|((show QE _ _ _ (ai nW _));refine CD hV.hc (hV.bl _ ?_) (hV.gl _ ?_) (hV.bl _ ?_) (hV.gl _ ?_) ?_ ?_)|refine Cu hV.hc (hV.bl _ ?_) (hV.gl _ ?_) ?_ ?_|refine QZ hV.hc (hV.bl _ ?_) (hV.gl _ ?_) ?_ ?_|refine Mr hV.hc (hV.bl _ ?_) (hV.gl _ ?_) ?_ ?_|refine Ms hV.hc (hV.bl _ ?_) (hV.gl _ ?_) ?_ ?_|refine MA (hV.bl _ ?_) (hV.gl _ ?_) ?_ ?_|refine ID (hV.bl _ ?_) (hV.gl _ ?_) ?_ ?_|refine B3 hV.hc (hV.bl _ ?_) (hV.gl _ ?_) (hV.bl _ ?_) (hV.gl _ ?_) ?_ ?_
       |refine Qo ?_
       |refine HP ?_ ?_ ?_
       |refine Gj ?_ ?_ ?_
       |refine JM hV.hu ?_ ?_
       |refine JQ hV.hu ?_ ?_ ?_ ?_ ?_ ?_
       |refine Q0 _ ?_ (hV.bl _ ?_) (hV.bl _ ?_) (hV.gl _ ?_) (hV.gl _ ?_) ?_ ?_ ?_ ?_ ?_
       |refine Rt hV.hu ?_ ?_ ?_
       |refine MX hV.hu ?_ ?_ ?_
       |exact MP
       |exact Jt
       |refine FL hV ?_ ?_ ?_
       |refine Qn ?_ ?_
       |refine TV ?_ ?_
       |refine Qm ?_
       |refine TQ ?_ ?_ ?_
    |with_reducible show QA _ _ _ _;first
       |refine W0 ?_ ?_ ?_
       |exact P8
    |(with_reducible show qh _ _ _ _);first|((with_reducible show qh _ _ _ (_<|>_));refine HX ?_ ?_)|refine L7 ?_|exact L6
    |with_reducible show QS _ _ _ _;first
       |((show QS _ _ _ (FG _ _));refine Rq ?_ ?_ (by with_unfolding_all exact rfl) (by with_unfolding_all exact rfl) (by with_unfolding_all exact rfl))
       |((show QS _ _ _ (iA _ _ _));refine Iw ?_ ?_ ?_ ?_ (by with_unfolding_all exact λ_=>rfl))
       |((show QS _ _ (.Assign _ (.ListComp _ _ _ _) _) _);first|refine Af hV hS Sk ?_ (by decide+kernel) ?_ ?_|refine Af hV hS Sl ?_ (by decide+kernel) ?_ ?_|refine wH hV hS Sk ?_ (by decide+kernel) ?_ ?_|refine wH hV hS Sl ?_ (by decide+kernel) ?_ ?_|refine ud hV hS Sk ?_ (by decide+kernel) ?_ ?_|refine ud hV hS Sl ?_ (by decide+kernel) ?_ ?_)
       |((show QS _ _ _ (oQ _ _ _));first|refine MQ hV.hu ?_ ?_ ?_ (by decide+kernel)|refine zW hV.hu ?_ ?_ ?_ (by with_unfolding_all exact rfl))
       |((show QS _ _ _ (jE _ _ _));refine Ju hV.hu ?_ ?_ ?_ ?_)
       |((show QS _ _ _ (nO _ _));refine FP hV (by assumption) ?_ ?_)
       |((show QS _ _ _ (zJ _ _ _));refine Nb hV hS (λX EE hV hS=>?_) (λX EE hK=>?_) ?_)
       |refine Qp ?_
       |exact zw
       |refine TX ?_ ?_ ?_
       |refine Mt ?_ ?_
       |refine UB ?_
       |refine M8 hV hS ?_ ?_
       |refine Q4 hS.po hV.hc ?_ ?_ ?_ ?_
       |refine Iz hS.po hV.hc (hV.bl _ ?_) (hV.gl _ ?_) ?_ ?_ ?_ ?_
       |refine MB hS.po hV.hc ?_ ?_ ?_ ?_
       |refine IJ hS.po ?_ ?_
    |with_reducible show QT _ _ _ _;first
       |refine QV ?_ ?_ ?_ ?_
       |refine Iv ?_ ?_ ?_ ?_ ?_ ?_
       |refine QX ?_ ?_
       |refine Qg ?_
       |refine WH ?_
    |with_reducible first
      |exact HJ hV.hu
      |exact Qi
      |exact Qk
      |exact Ql
      |exact Qj
      |exact Qd hV.hu
      |exact HM hV.hu
      |exact ET hV.hu
      |exact Ru hV.hu
      |exact FW hV.hu
      |exact L5
      |exact HR
      |exact JY
      |refine L0 ?_
      |exact LZ
      |refine Xj λX EE hV=>?_
      |refine Xk λX EE hV=>⟨?_,?_⟩
      |refine Jl (hV.bl _ ?_) (hV.gl _ ?_) ?_ ?_
      |refine MV (hV.bl _ ?_) (hV.gl _ ?_) ?_ ?_
      |refine Rg (hV.bl _ ?_) (hV.gl _ ?_) ?_ ?_
      |refine MZ ?_
      |refine Qf ?_ ?_
      |refine L4 ?_
      |refine TN ?_ ?_
      |refine Qe ?_
      |refine JB hV hS ?_
      |refine JC hV hS ?_
      |refine JR hV hS ?_
      |refine F4 hK (by assumption) ?_ (λX hV hW=>?_) ?_
      |exact QB
      |exact trivial
    |decide+kernel
    |(with_reducible show Hx _);exact λ_ _=>rfl
    |(with_reducible show FJ _ _ _ _);first|exact trivial|refine⟨⟨_,by assumption,by decide⟩,?_⟩
    |refine Ad hV (by assumption) ?_ ?_
end
end K22
section
open PySem PySem.Spec L2 L3
local macro_rules
 | `(tactic| simp! [$a,*])=>`(tactic| simp [b8,gA,aE,ak,aP,dY,aM,ay,aY,dB,br,zB,tB,Sb,Ty.is,$a,*])
local macro_rules
 | `(tactic| simp_all! [$a,*])=>`(tactic| simp only [e8,gQ,aJ,List.getElem?_cons_zero,List.getElem?_cons_succ,Oi,List.length_cons,tQ,x6,List.set_cons_succ,List.set_cons_zero,List.length_nil,MF,wA,if_true,ic,f9,lU,rF,su,List.map_cons,Dz,List.nil_append,List.map_nil,List.cons_append,List.replicate,Uw,IV,qE,zQ,Q8,pq,jT,sr,IS,IQ,$a,*])
namespace K22
noncomputable section
open PySem PySem.Spec L2 L3
structure Itm where
 nm:Str
 lo:Int
 hi:Option Int
def iP:Option Int->D
 |none=>.bD
 |some h=>.int h
def bR(i:Itm):D:=.tup [.str i.nm,.int i.lo,iP i.hi]
def aK(a b:Str)(mix:Bool)(its:List Itm):D:=.tup [.str a,.str b,.str (if mix=Ã then "mix" else "row"),.tup (its.map bR)]
def cD(c:D2):D:=.tup (c.map .int)
theorem nB{xs:X2}{k:Nat}{d:D}(h:xs[k]?=À d):iz xs (k:Int)=À d:=b9 h
theorem Sm{a b c d:D}:iz [a,b,c,d] 3=À d:=b9 (j:=3) rfl
theorem at2{a b c d:D}:iz [a,b,c,d] 2=À c:=b9 (j:=2) rfl
theorem RB{a b c:D}:iz [a,b,c] 1=À b:=b9 (j:=1) rfl
theorem UU{a b c:D}:iz [a,b,c] 2=À c:=b9 (j:=2) rfl
theorem RC{a b c:D}:iz [a,b,c] 0=À a:=b9 (j:=0) rfl
theorem yG{a b:D}:iz [a,b] 0=À a:=b9 (j:=0) rfl
theorem uD{a b:D}:iz [a,b] 1=À b:=b9 (j:=1) rfl
theorem qN(c:D2):(cD c).closed=Ã:=by unfold cD;rw[kK];exact aA λ_=>cz
theorem yH(a b:Str)(mix:Bool)(its:List Itm)(g:its.length<=100)(G:DH):ie [aK a b mix its] G=.ok (cD (its.map λ_=>0)) G:=by
 unfold ie;refine gb ?_ (qN _);have c:=mU (τ:=[À (aK a b mix its)]) (G:=G) (gO:=oN) (ks:=[]) (te:=eC (.int 0)) (own:=λx=>[x]) (f:=λ_=>.int 0) (its.map bR) [] () (λx _=>rfl) (λx e d=>rfl);have hz:its.length<=Ç:=lz ∅;have h:aG (its.map λ_=>D.int 0)=Ã:=aA λ_=>cz;rw[ã,ĕ]at c
 replace c:cK oN [] dw {0} G.length (its.map bR) [À (aK a b mix its)] (G++[.lst []])=.ok (.obj G.length) (G++[.lst (its.map λ_=>D.int 0)]):=c
 unfold l9;unfold aK at c |-;simp![Sm,c,dh,d7 h,gK,hz,cD]
def bL:List Itm->D2->Bool
 |i::r,x::c=>decide (i.lo<=x)&&bL r c
 |_,_=>Ã
theorem uE:∀(its:List Itm)(c:D2),((its.zip c).map λp=>decide (p.1.lo<=p.2)).all id=bL its c
 |[],c=>by simp[bL]
 |i::r,[]=>by simp[bL]
 |i::r,x::c=>by rw[abI,Ï,ade,uE r c];rfl
theorem wU:∀(its:List Itm)(c:D2),õ (λx y=>D.tup [x,y]) (its.map bR) (c.map D.int)=(its.zip c).map λp=>D.tup [bR p.1,.int p.2]
 |[],c=>by simp
 |i::r,[]=>by simp
 |i::r,x::c=>by rw[Ï,Ï,aaN,wU r c];rfl
theorem wV:∀bs:L9,rq (bs.map D.bl)=À bs
 |[]=>rfl
 |b::r=>by simp[rq,wV r]
theorem wW(its:List Itm)(c:D2)(hl:its.length<=100)(G:DH):fS [.tup (its.map bR),cD c] G=.ok (.bl (bL its c)) G:=by
 unfold fS;refine gb ?_ fQ;have hb:=uE its c;have c1:=bX (τ:=[À (D.tup (its.map bR)),À (cD c)]) (G:=G) (gO:=oT 2) (ks:=[]) (tt:=dw) (te:=aj PZ (1) ((0)\{1})) (own:=λp:Itm×Int=>[bR p.1,.int p.2]) (dat:=λp=>.tup [bR p.1,.int p.2]) (f:=λp=>.bl (decide (p.1.lo<=p.2))) (c:=λ_=>Ã) (its.zip c) [] () (λx _=>rfl) (λx hx acc=>by first|rfl|simp[dw]) (λx hx acc=>by
   have:aE (bR x.1) (.int 1) (G++[.lst acc])=.ok (.int x.1.lo) (G++[.lst acc]):=by simp only[bR,aE,ak,RB]
   generalize bR x.1=I at this |-;simp[mask,this,aP])
 rw[ã,Ŧ.mpr (λ_ _=>rfl),<- wU]at c1;have e3:(its.zip c).map (λp=>D.bl (decide (p.1.lo<=p.2)))=((its.zip c).map λp=>decide (p.1.lo<=p.2)).map .bl:=by rw[ĕ];rfl
 rw[e3]at c1;generalize((its.zip c).map λp=>decide (p.1.lo<=p.2))=bs at c1 hb;have hcl:aG (bs.map D.bl)=Ã:=aA λ_=>fQ;unfold mj;unfold cD at c1 |-;have c2:=F5 (n:=G.length) (τ:=[À (D.tup (its.map bR)),À (D.tup (c.map .int))]) (G:=G++[.lst []]) (gO:=oT 2) (ks:=[]) (tt:=dw) (te:=aj PZ (1) ((0)\{1})) (xs:=its.map bR) (ys:=c.map .int);rw[c1]at c2;simp only[Û]at c2;simp![c2,dh,d7 hcl,Ia,wV,hb]
theorem uF(xs:X2)(k:Nat)(h:k<xs.length)(hz:xs.length<=1000)(G:DH):rV (.tup xs) Æ (À (k:Int)) G=.ok (.tup (xs.take k)) G:=by
 simp only[rV,ak];have a:HT.fO xs.length xs.length (À (k:Int))=k:=by rw[HT.iD];lia
 rw[Β (by rw[a];lia),aY];have j:cutD xs Æ (À (k:Int))=xs.take k:=by unfold cutD;rw[a,HT.iT];simp
 rw[j,Α (lz ())]
theorem AH(xs:X2)(k:Nat)(h:k<xs.length)(hz:xs.length<=1000)(G:DH):rV (.tup xs) (À ((k:Int)+1)) Æ G=.ok (.tup (xs.drop (k+1))) G:=by
 simp only[rV,ak];have a:HT.fO xs.length 0 (À ((k:Int)+1))=k+1:=by rw[show((k:Int)+1)=((k+1:Nat):Int) by lia,HT.iD];lia
 rw[Β (by rw[a];lia),aY];have j:cutD xs (À ((k:Int)+1)) Æ=xs.drop (k+1):=by unfold cutD;rw[a,HT.iT];rw[Ę (by rw[Œ];lia)]
 rw[j,Α (lz ())]
theorem Nr(xs ys:X2)(hz:(xs++ys).length<=1000)(G:DH):ay (.tup xs) (.tup ys) G=.ok (.tup (xs++ys)) G:=by
 cases xs with
 |nil=>rfl
 |cons x r=>show aY (x::r++ys) G=_;rw[aY,Α (lz ∅)]
theorem rL:∀c:D2,intsOf (c.map D.int)=À c
 |[]=>rfl
 |x::c=>by simp[intsOf,rL c]
theorem yI(mix:Bool)(G:DH):fG Ä (.str (if mix=Ã then "mix" else "row")) (.str "mix") G=.ok (.bl mix) G:=by
 cases mix
 ·rw[Β (by decide),iG _ _ _ _ (by symm) (by symm)];congr 1
 ·rw[Α rfl,iG _ _ _ _ (by symm) (by symm)];congr 1
theorem Ov(a b:Str)(mix:Bool)(its:List Itm)(G:DH):aE (aK a b mix its) (.int 3) G=.ok (.tup (its.map bR)) G:=by simp only[aK,aE,ak,Sm]
theorem Ow(a b:Str)(mix:Bool)(its:List Itm)(G:DH):aE (aK a b mix its) (.int 2) G=.ok (.str (if mix=Ã then "mix" else "row")) G:=by simp only[aK,aE,ak,at2]
def ni(x:Int):Option Int->Bool
 |some h=>decide (x<h)
 |none=>Ã
def jJ(mix:Bool)(its:List Itm)(c:D2)(k:Nat)(it:Itm)(x:Int):Bool:=ni x it.hi&&(mix||((c.drop (k+1)).sum==0&&bL (its.take k) c))
theorem RG(a b:Str)(mix:Bool)(its:List Itm)(c:D2)(F:its.length<=100)(J:c.length=its.length)(k:Nat)(it:Itm)(x:Int)(o:its[k]?=À it)(u:c[k]?=À x)(G:DH):
  kX [aK a b mix its,cD c,.int k] G=.ok (.bl (jJ mix its c k it x)) G:=by
 have r:k<its.length:=(Â.mp o).1;have v:iz (its.map bR) (k:Int)=À (.tup [.str it.nm,.int it.lo,iP it.hi]):=nB (by rw[Þ,o];rfl);have z:iz (c.map D.int) (k:Int)=À (.int x):=nB (by rw[Þ,u];rfl);have s:=AH (c.map .int) k () () G;have g:=uF (its.map bR) k () () G;have e:=wW (its.take k) c () G;rw[aaX]at e;rw[<- aaZ]at s;have d:=rL (c.drop (k+1));have f:=Ov a b mix its G;have i:=Ow a b mix its G;have l:aE (.tup (its.map bR)) (.int k) G=.ok (.tup [.str it.nm,.int it.lo,iP it.hi]) G:=by simp only[aE,ak,v]
 have p:aE (.tup [.str it.nm,.int it.lo,iP it.hi]) (.int 2) G=.ok (iP it.hi) G:=by simp only[aE,ak,UU]
 have n:aE (cD c) (.int k) G=.ok (.int x) G:=by simp only[cD,aE,ak,z]
 have m:um [.tup ((c.drop (k+1)).map .int)] G=.ok (.int (c.drop (k+1)).sum) G:=by simp only[um,b8,ak,d]
 have j:=yI mix G;unfold kX;refine gb ?_ fQ;unfold n6;unfold jJ;have y:D.tup (c.map .int)=cD c:=rfl;rw[y]at s;generalize D.str (if mix=Ã then "mix" else "row")=w at i j;generalize aK a b mix its=R at i f |-;generalize cD c=C at n s e |-;generalize D.tup (its.map bR)=I at f l g;generalize D.tup [.str it.nm,.int it.lo,iP it.hi]=H at l p;generalize(its.map bR).take k=I1 at g e;generalize(c.drop (k+1)).map D.int=C1 at s m;generalize(c.drop (k+1)).sum=S at m |-;generalize bL (its.take k) c=E at e |-;have t:d9 (cy (aj (fH Ã) (3) (eC .bD))) (cy (aj PZ ((1)\(2)) (3))) [À R,À C,À (.int k),À (iP it.hi)] G=.ok (not (ni x it.hi)) G:=by
  cases it.hi with
  |none=>rfl
  |some h=>
   have:decide (h<=x)=!decide (x<h):=by simp only[<- decide_not,Int.not_lt]
   simp[n,fH,aP,iP,ni,this]
 have q:TU (aj (fG Ä) ((0)\{2}) ("mix")) (EU (aj (fG Ä) (ai um #[eFn (iE (1) (aS (aj ay (2) {1})) bU)]) {0}) (aF 2 fS #[eFn (iE ((0)\{3}) bU (aS (2))),(1)])) [À R,À C,À (.int k),À (iP it.hi)] G=.ok (.bl (mix||(S==0&&E))) G:=by
  cases mix with
  |true=>simp[i,j]
  |false=>cases A:S==0<;>simp[i,j,dh,kM,s,m,jn,A,f,g,e]
 generalize TU _ _=X at q |-;generalize d9 _ _=Y at t |-;cases B:ni x it.hi<;>rw[B]at t<;>simp[f,l,p,t,q]
def bg(mix:Bool)(it:Itm):Int:=match it.hi with
 |some h=>h
 |none=>if mix=Ã then it.lo else if 1 > it.lo then 1 else it.lo
def cS(mix:Bool)(its:List Itm)(c:D2)(k:Nat)(it:Itm)(x:Int):D2:=
 (if mix=Ã then c.take k else (its.take k).map (·.lo))++[if bg mix it<x+1 then bg mix it else x+1]++c.drop (k+1)
theorem Kc(a b:Str)(mix:Bool)(its:List Itm)(c:D2)(V:its.length<=100)(U:c.length=its.length)(k:Nat)(it:Itm)(x:Int)(H:its[k]?=À it)(u:c[k]?=À x)(G:DH):
  sG [aK a b mix its,cD c,.int k] G=.ok (cD (cS mix its c k it x)) G:=by
 have K:k<its.length:=(Â.mp H).1;have P:iz (its.map bR) (k:Int)=À (.tup [.str it.nm,.int it.lo,iP it.hi]):=nB (by rw[Þ,H];rfl);have S:iz (c.map D.int) (k:Int)=À (.int x):=nB (by rw[Þ,u];rfl);have s:=AH (c.map .int) k () () G;have n:=uF (its.map bR) k () () G;have e:=uF (c.map .int) k () () G;rw[<- aaZ]at s;rw[<- aaX]at n e;unfold sG;refine gb ?_ (qN _);have O:(1:Nat)<=Ç:=lz ∅;have r:=λτ=>bX (τ:=τ) (G:=G) (gO:=oN) (ks:=[]) (tt:=dw) (te:=aj aE (0) {1}) (own:=λi:Itm=>[bR i]) (dat:=bR) (f:=λi=>.int i.lo) (c:=λ_=>Ã) (its.take k) [] () (λx _=>rfl) (λx u d=>by first|rfl|simp[dw]) (λx u d=>by
  have:aE (bR x) (.int 1) (G++[.lst d])=.ok (.int x.lo) (G++[.lst d]):=by simp only[bR,aE,ak,RB]
  generalize bR x=I at this |-;simp[mask,this])
 have N:(its.take k).map (λi=>D.int i.lo)=((its.take k).map (·.lo)).map .int:=by rw[ĕ];rfl
 simp only[ã,Ŧ.mpr (λ_ _=>rfl),N]at r;have h:aG (((its.take k).map (·.lo)).map D.int)=Ã:=aA λ_=>cz;have hz:(((its.take k).map (·.lo)).map D.int).length<=Ç:=lz ();have B:=Nr ((c.take k).map .int) [.int (if bg mix it<x+1 then bg mix it else x+1)] () G;have g:=Nr ((c.take k).map .int++[.int (if bg mix it<x+1 then bg mix it else x+1)]) ((c.drop (k+1)).map .int) () G;have z:=Nr (((its.take k).map (·.lo)).map .int) [.int (if bg mix it<x+1 then bg mix it else x+1)] () G;have o:=Nr (((its.take k).map (·.lo)).map .int++[.int (if bg mix it<x+1 then bg mix it else x+1)]) ((c.drop (k+1)).map .int) () G;have X:cD (cS mix its c k it x)=.tup ((if mix=Ã then (c.take k).map D.int else ((its.take k).map (·.lo)).map D.int)++[.int (if bg mix it<x+1 then bg mix it else x+1)]++(c.drop (k+1)).map D.int):=by unfold cD cS;cases mix<;>simp
 rw[X];have l:=Ov a b mix its G;have p:=Ow a b mix its G;have q:aE (.tup (its.map bR)) (.int k) G=.ok (.tup [.str it.nm,.int it.lo,iP it.hi]) G:=by simp only[aE,ak,P]
 have A:aE (.tup [.str it.nm,.int it.lo,iP it.hi]) (.int 1) G=.ok (.int it.lo) G:=by simp only[aE,ak,RB]
 have v:aE (.tup [.str it.nm,.int it.lo,iP it.hi]) (.int 2) G=.ok (iP it.hi) G:=by simp only[aE,ak,UU]
 have E:aE (cD c) (.int k) G=.ok (.int x) G:=by simp only[cD,aE,ak,S]
 have y:=yI mix G;have Q:D.tup (c.map .int)=cD c:=rfl;rw[Q]at s e;unfold yt uz;generalize D.str (if mix=Ã then "mix" else "row")=w at p y;generalize aK a b mix its=R at p l |-;generalize cD c=C at E s e |-;generalize(its.take k).map bR=I1 at n r;generalize D.tup (its.map bR)=I at l q n;generalize(c.drop (k+1)).map D.int=C1 at s g o |-;generalize(c.take k).map D.int=C2 at e B g |-;generalize((its.take k).map (·.lo)).map D.int=L at r z o h hz |-;generalize D.tup [.str it.nm,.int it.lo,iP it.hi]=T at q v A;have m:∀(J F:X9),ai aY (af (ai (dY λi j=>if j<i then j else i) #[aj ay ((1)\(2)) {1},(5)]) #[]) [À R,À C,À (.int k),J,F,À (.int (bg mix it))] G=.ok (.tup [.int (if bg mix it<x+1 then bg mix it else x+1)]) G:=λJ F=>by simp[E,kM,dY,aY,O]
 generalize(if bg mix it<x+1 then bg mix it else x+1)=M at B g z o m |-;generalize ai aY _=Z at m |-;have t:(if mix=Ã then HU (cy (aj (fH Ä) (4) (eC .bD))) (3) (4) else HU (cy (aj (fH Ä) (4) (eC .bD))) (ai (dY λi j=>if j > i then j else i) #[(3),{1}]) (4)) [À R,À C,À (.int k),À (.int it.lo),À (iP it.hi),Æ] G=.ok (.int (bg mix it)) G:=by unfold bg;cases mix<;>cases it.hi<;>simp[fH,dY,iP]
 cases mix with
 |true=>rw[Α rfl]at t |-;generalize HU (cy (aj (fH Ä) (4) (eC .bD))) (3) (4)=Y at t |-;simp[l,q,A,v,p,y,t,dh,kM,s,e,m,B,g]
 |false=>rw[Β (by decide)]at t |-;generalize HU (cy (aj (fH Ä) (4) (eC .bD))) (ai (dY λi j=>if j > i then j else i) #[(3),{1}]) (4)=Y at t |-;simp[l,q,A,v,p,y,t,dh,kM,s,n,b8,ak,r,d7 h,gK,aY,hz,m,z,o]
section
variable{κ:Type}[DecidableEq κ]
theorem iu(k:κ):aN ([]:List (κ×D)) k=Æ:=rfl
theorem cM(p:κ×D)(l:List (κ×D))(k:κ):aN (p::l) k=if p.1=k then À p.2 else aN l k:=by unfold aN;rw[Ś];by_cases h:p.1=k<;>simp[h]
theorem Kd(a b:List (κ×D))(k:κ):aN (a++b) k=(aN a k).or (aN b k):=by
 induction a with
 |nil=>simp[iu]
 |cons p a i=>rw[ħ,cM,cM,i];split<;>simp
theorem dz(l:List (κ×D))(k:κ):(aN l k).isSome=Ã↔k∈l.map (·.1):=by
 induction l with
 |nil=>simp[iu]
 |cons p l i=>
  rw[cM];by_cases h:p.1=k
  ·simp[h]
  ·rw[Β h,i];rw[Ï,Ù];constructor
   ·exact λz=>.inr z
   ·rintro(z|z)
    ·exact(h z.symm).elim
    ·exact z
theorem wX{l:List (κ×D)}{k:κ}(h:k∉l.map (·.1)):aN l k=Æ:=by
 cases q:aN l k with
 |none=>rfl
 |some v=>exact(h ((dz l k).mp (by rw[q];rfl))).elim
theorem Ke(l:List (κ×D))(k a:κ)(v:D):aN (l.map λb=>if b.1=k then (b.1,v) else b) a=if a=k then (aN l a).map λ_=>v else aN l a:=by
 induction l with
 |nil=>simp[iu]
 |cons p l i=>rw[Ï,cM,cM,i];by_cases c:p.1=k<;>by_cases h:p.1=a<;>by_cases d:a=k<;>simp_all
theorem gw(l:List (κ×D))(k k':κ)(v:D):aN (cF l k v) k'=if k'=k then À v else aN l k':=by
 unfold cF;split
 ·rename_i h;rw[Ke];by_cases e:k'=k
  ·kpc_g;rw[Α rfl,Α rfl];have:(aN l k').isSome=Ã:=(dz l k').mpr (by obtain⟨x,a,e⟩:=Ĝ.mp h;exact ä.mpr ⟨x,a,of_decide_eq_true e⟩)
   cases q:aN l k' with
   |none=>rw[q]at this;cases this
   |some w=>rfl
  ·rw[Β e,Β e]
 ·rename_i h;rw[Kd,cM,iu];by_cases e:k'=k
  ·kpc_g;rw[Α rfl,Α rfl];rw[wX λb=>h (by obtain⟨x,a,e⟩:=ä.mp b;exact Ĝ.mpr ⟨x,a,decide_eq_true e⟩)]
   rfl
  ·rw[Β e,Β (λz=>e z.symm)];cases aN l k'<;>rfl
theorem sH(l:List (κ×D))(k:κ)(v:D):(cF l k v).length<=l.length+1:=by unfold cF;split<;>simp
theorem yJ(l:List (κ×D))(k:κ)(v:D)(h:k∉l.map (·.1)):cF l k v=l++[(k,v)]:=by
 unfold cF;rw[Β λz=>h (by obtain⟨x,a,e⟩:=Ĝ.mp z;exact ä.mpr ⟨x,a,of_decide_eq_true e⟩)]
end
def kC(c:D2):List Key:=c.map Sum.inl
theorem mw(c:D2):pG (cD c)=À (kC c):=by
 unfold cD kC;show cu i6 (c.map D.int)=_
 induction c with
 |nil=>rfl
 |cons x c i=>rw[Ï,cu,i];rfl
theorem CP{c d:D2}(h:kC c=kC d):c=d:=by unfold kC at h;exact(List.map_inj_right λ_ _ h=>Sum.inl.inj h).mp h
theorem DR(c:D2):D.tup ((kC c).map Ce)=cD c:=by unfold kC cD;rw[ĕ];rfl
theorem Kf(its:List Itm):(its.map bR).mapIdx (λi x=>D.tup [.int i,x])=its.zipIdx.map λp=>D.tup [.int p.2,bR p.1]:=by apply Ĕ;intro i;simp only[ē,Þ,acX];cases its[i]?<;>simp
def lE(mix:Bool)(its:List Itm)(F:List (Itm×Nat)):Option (D2×D)->Option (D2×D)
 |none=>Æ
 |some (c,_)=>match F with
  |[(it,k)]=>match c[k]? with
   |some x=>if jJ mix its c k it x=Ã then À (cS mix its c k it x,.tup [cD c,.int k]) else Æ
   |none=>Æ
  |_=>Æ
def fits(its:List Itm)(nm:Str):List (Itm×Nat):=its.zipIdx.filter λp=>nm==p.1.nm
def lay0(its:List Itm):Option (D2×D):=À (its.map λ_=>0,.bD)
def pQ(mix:Bool)(its:List Itm)(names:P3):Option (D2×D):=names.foldl (λl nm=>lE mix its (fits its nm) l) (lay0 its)
theorem uG(mix:Bool)(its:List Itm)(names:P3)(nm:Str):pQ mix its (names++[nm])=lE mix its (fits its nm) (pQ mix its names):=by unfold pQ;rw[ab4];rfl
theorem Kg{its:List Itm}{nm:Str}{it:Itm}{k:Nat}(h:fits its nm=[(it,k)]):its[k]?=À it/\it.nm=nm:=by
 have:(it,k)∈fits its nm:=by rw[h];simp
 unfold fits at this;obtain⟨a,b⟩:=ļ.mp this;rw[Ě]at a;exact⟨‹a›,(beq_iff_eq.mp b).symm⟩
theorem CQ{mix:Bool}{its:List Itm}{F:List (Itm×Nat)}{l:Option (D2×D)}{c:D2}{v:D}(h:lE mix its F l=À (c,v)):
  ∃c0 v0 it k x,l=À (c0,v0)/\F=[(it,k)]/\c0[k]?=À x/\jJ mix its c0 k it x=Ã/\c=cS mix its c0 k it x/\v=.tup [cD c0,.int k]:=by
 cases l with
 |none=>cases h
 |some cv=>
  obtain⟨c0,v0⟩:=cv
  match F,h with
  |[],h=>cases h
  |_::_::_,h=>cases h
  |[(it,k)],h=>
   unfold lE at h;dsimp only at h;cases q:c0[k]? with
   |none=>rw[q]at h;cases h
   |some x=>
    rw[q]at h;dsimp only at h;by_cases a:jJ mix its c0 k it x=Ã
    ·rw[Α a]at h;cases h;exact⟨c0,v0,it,k,x,rfl,rfl,q,a,rfl,rfl⟩
    ·rw[Β a]at h;cases h
theorem Gk{mix:Bool}{its:List Itm}{c:D2}{k:Nat}{it:Itm}{x:Int}(a:c.length=its.length)(h:k<its.length):(cS mix its c k it x).length=its.length:=by unfold cS;cases mix<;>simp<;>lia
def accept(mix:Bool)(its:List Itm)(names:P3):Bool:=match pQ mix its names with
 |some (c,_)=>bL its c
 |none=>Ä
structure WF(its:List Itm):Prop where
 nd:(its.map (·.nm)).Nodup
 lo:∀i∈its,0<=i.lo
 hi:∀i∈its,∀h,i.hi=À h->i.lo<=h
theorem qO{its:List Itm}{nm:Str}(h:∀i∈its,i.nm≠nm):fits its nm=[]:=by unfold fits;rw[ų];rintro⟨i,k⟩ a;rw[Ě]at a;have:=h i (ç a);simp;exact λe=>this e.symm
theorem ji{P R:List Itm}{it:Itm}(h:((P++it::R).map (·.nm)).Nodup):fits (P++it::R) it.nm=[(it,P.length)]:=by
 unfold fits;rw[ø,Ï,Đ]at h;obtain⟨_,f,l⟩:=h;have g:∀i∈P,i.nm≠it.nm:=λi b e=>l i.nm (ä.mpr ⟨i,b,rfl⟩) it.nm ⋯ e;have j:∀i∈R,i.nm≠it.nm:=λi b e=>(ę.mp f).1 (by rw[<- e];exact ä.mpr ⟨i,b,rfl⟩);rw[List.zipIdx_append,List.filter_append,List.zipIdx_cons,ĳ ⋯];have c:(P.zipIdx.filter λp=>it.nm==p.1.nm)=[]:=by rw[ų];rintro⟨i,k⟩ a;rw[Ě]at a;have:=g i (ç a);simp;exact λe=>this e.symm
 have d:∀n,((R.zipIdx n).filter λp=>it.nm==p.1.nm)=[]:=by intro n;rw[ų];rintro⟨i,k⟩ a;have:=j i (List.fst_mem_of_mem_zipIdx a);simp;exact λe=>this e.symm
 rw[c,d];simp
def fM(mix:Bool)(its:List Itm)(l:Option (D2×D))(names:P3):Bool:=match names.foldl (λl nm=>lE mix its (fits its nm) l) l with
 |some (c,_)=>bL its c
 |none=>Ä
theorem rM(mix:Bool)(its:List Itm)(names:P3):accept mix its names=fM mix its (lay0 its) names:=rfl
theorem fW(mix:Bool)(its:List Itm):∀names,fM mix its Æ names=Ä:=by
 have:∀names:P3,names.foldl (λl nm=>lE mix its (fits its nm) l) Æ=Æ:=by
  intro names
  induction names with
  |nil=>rfl
  |cons n t i=>rw[Ď];exact i
 intro names;unfold fM;rw[this]
theorem qP(mix:Bool)(its:List Itm)(l:Option (D2×D))(n:Str)(t:P3):fM mix its l (n::t)=fM mix its (lE mix its (fits its n) l) t:=rfl
theorem oh:∀{A:List Itm}{cA:D2}(B:List Itm)(c:D2),A.length=cA.length->bL (A++B) (cA++c)=(bL A cA&&bL B c)
 |[],[],B,c,_=>by simp[bL]
 |[],_::_,_,_,h=>by simp at h
 |_::_,[],_,_,h=>by simp at h
 |i::A,x::cA,B,c,h=>by have:=oh (A:=A) (cA:=cA) B c ‹h›;simp[bL,this,Ż]
theorem mY:∀(P:List Itm),bL P (P.map (·.lo))=Ã
 |[]=>rfl
 |i::P=>by simp[bL,mY P]
theorem mC:∀(A:List Itm)(c d:D2),A.length<=c.length->bL A (c++d)=bL A c
 |[],c,d,_=>by simp[bL]
 |i::A,[],d,h=>by simp at h
 |i::A,x::c,d,h=>by simp[bL,mC A c d ‹h›]
def inR(i:Itm)(n:Int):Bool:=decide (i.lo<=n)&&(match i.hi with
 |some h=>decide (n<=h)
 |none=>Ã)
def jj(i:Itm)(f:P3->Bool):Int->P3->Bool
 |y,[]=>inR i y&&f []
 |y,n::t=>if n=i.nm then jj i f (y+1) t else inR i y&&f (n::t)
def cP:List Itm->P3->Bool
 |[],names=>names.isEmpty
 |i::R,names=>jj i (cP R) 0 names
theorem uH{i:Itm}{f:P3->Bool}{h:Int}(a:i.hi=À h):∀(names:P3)(y:Int),h<y->jj i f y names=Ä
 |[],y,c=>by
  have:¬ y<=h:=∅
  simp[jj,inR,a,this]
 |n::t,y,c=>by
  have:¬ y<=h:=∅
  rw[jj];by_cases b:n=i.nm
  ·rw[Α b];exact uH a t (y+1) ∅
  ·rw[Β b];simp[inR,a,this]
theorem wY{n:Str}{t:P3}:∀{R:List Itm},(∀i∈R,i.nm≠n)->cP R (n::t)=Ä
 |[],_=>rfl
 |i::R,h=>by rw[cP,jj,Β (λe=>h i ⋯ e.symm),wY λj a=>h j (by simp[a])];simp
def lB(R:List Itm):Bool:=R.all λi=>decide (i.lo<=0)
theorem UW{i:Itm}(hi:∀h,i.hi=À h->0<=h):inR i 0=decide (i.lo<=0):=by
 unfold inR;cases q:i.hi with
 |none=>simp
 |some h=>simp[hi h q]
theorem DT:∀{R:List Itm},(∀i∈R,∀h,i.hi=À h->0<=h)->cP R []=lB R
 |[],_=>rfl
 |i::R,h=>by rw[cP,jj,DT λj a=>h j (by simp[a]),UW (h i ⋯)];simp[lB]
theorem AI{r:Itm}{R2:List Itm}{t:P3}:∀{R:List Itm},(∀i∈R,i.nm≠r.nm)->(∀i∈R,∀h,i.hi=À h->0<=h)->cP (R++r::R2) (r.nm::t)=(lB R&&jj r (cP R2) 1 t)
 |[],_,_=>by rw[ã,cP,jj,Α rfl];simp[lB]
 |i::R,h,b=>by rw[ħ,cP,jj,Β (λe=>h i ⋯ e.symm),AI (λj a=>h j (by simp[a])) (λj a=>b j (by simp[a])),UW (b i ⋯)];simp[lB,Ż]
theorem mD:∀(R:List Itm),bL R (R.map λ_=>0)=lB R
 |[]=>rfl
 |i::R=>by have:=mD R;unfold lB at this |-;simp[bL,this]
theorem pR:∀(R:List Itm),(R.map λ_=>(0:Int)).sum=0
 |[]=>rfl
 |i::R=>by simp[pR R]
theorem uI:∀(c:D2),(∀x∈c,0<=x)->0<=c.sum
 |[],_=>by simp
 |x::c,h=>by have:=h x ⋯;have:=uI c λy a=>h y (by simp[a]);simp;lia
def cW(it:Itm)(y:Int):Int:=if bg Ä it<y then bg Ä it else y
theorem yK:∀(names:P3)(P:List Itm)(cur:Itm)(R:List Itm)(y:Int)(v:D),WF (P++cur::R)->0<=y->(∀h,cur.hi=À h->y<=h)->(P=[]\/1<=cW cur y) ->
  fM Ä (P++cur::R) (À (P.map (·.lo)++cW cur y::R.map (λ_=>0),v)) names=jj cur (cP R) y names
 |[],P,cur,R,y,v,W,E,g,G=>by
  have w:∀i∈R,∀h,i.hi=À h->0<=h:=λi hi h e=>adC (W.lo i (by simp[hi])) (W.hi i (by simp[hi]) h e);show bL (P++cur::R) (P.map (·.lo)++cW cur y::R.map λ_=>0)=_;rw[oh _ _ ⋯,mY,jj,DT w];simp only[bL,mD,ł];congr 1;unfold cW bg inR;cases q:cur.hi with
  |none=>simp only[aal];rw[decide_eq_decide];simp;split<;>split<;>lia
  |some h=>have:=g h q;simp only;rw[Β ∅];simp[this]
 |n::t,P,cur,R,y,v,W,E,g,G=>by
  have L:0<=cW cur y:=by
   unfold cW bg;cases q:cur.hi with
   |none=>simp only;split<;>(try split)<;>simp at *<;>lia
   |some h=>have:=g h q;simp only;rw[Β ∅];exact E
  have c:(P.map (·.lo)).length=P.length:=by simp
  have w:∀i∈R,∀h,i.hi=À h->0<=h:=λi hi h e=>adC (W.lo i (by simp[hi])) (W.hi i (by simp[hi]) h e);rw[qP,jj];by_cases s:n=cur.nm
  ·subst s;rw[Α rfl,ji W.nd];have j:(P.map (·.lo)++cW cur y::R.map λ_=>(0:Int))[P.length]?=À (cW cur y):=by rw[<- c,Ò (Ë _)];simp
   have k:jJ Ä (P++cur::R) (P.map (·.lo)++cW cur y::R.map λ_=>0) P.length cur (cW cur y)=ni (cW cur y) cur.hi:=by
    unfold jJ;have p:(P.map (·.lo)++cW cur y::R.map λ_=>(0:Int)).drop (P.length+1)=R.map λ_=>0:=by rw[<- c,aaa];simp
    have B:(P++cur::R).take P.length=P:=by simp
    rw[p,B,pR,mC P _ _ ⋯,mY];simp
   have C:cS Ä (P++cur::R) (P.map (·.lo)++cW cur y::R.map λ_=>0) P.length cur (cW cur y)=P.map (·.lo)++(if bg Ä cur<cW cur y+1 then bg Ä cur else cW cur y+1)::R.map λ_=>0:=by
    unfold cS;have p:(P.map (·.lo)++cW cur y::R.map λ_=>(0:Int)).drop (P.length+1)=R.map λ_=>0:=by rw[<- c,aaa];simp
    have B:(P++cur::R).take P.length=P:=by simp
    rw[p,B];simp
   unfold lE;k_in;rw[j];k_in;rw[k,C];by_cases a:ni (cW cur y) cur.hi=Ã
   ·rw[Α a];have z:(if bg Ä cur<cW cur y+1 then bg Ä cur else cW cur y+1)=cW cur (y+1):=by unfold cW;split<;>split<;>(try split)<;>lia
    have V:∀h,cur.hi=À h->y+1<=h:=by intro h q;have:=g h q;unfold ni at a;rw[q]at a;simp[cW,bg,q]at a;split at a<;>lia
    rw[z];refine yK t P cur R (y+1) _ W ∅ V (.inr ?_);unfold cW bg;cases q:cur.hi with
    |none=>simp only;simp;split<;>split<;>lia
    |some h=>have:=V h q;simp only;rw[Β ∅];lia
   ·rw[Β a,fW];cases q:cur.hi with
    |none=>rw[q]at a;exact(a rfl).elim
    |some h=>have F:=g h q;rw[q]at a;simp[ni,cW,bg,q]at a;rw[Β ∅]at a;exact(uH q t (y+1) ∅).symm
  ·rw[Β s];have A:inR cur y=decide (cur.lo<=cW cur y):=by
    unfold cW bg inR;cases q:cur.hi with
    |none=>simp only[aal];rw[decide_eq_decide];simp;split<;>split<;>lia
    |some h=>have:=g h q;simp only;rw[Β ∅];simp[this]
   by_cases m:∃r∈R,r.nm=n
   ·obtain⟨r,m,rfl⟩:=m;obtain⟨R1,R2,rfl⟩:=abN m;have N:P++cur::(R1++r::R2)=(P++cur::R1)++r::R2:=by simp
    have u:P.map (·.lo)++cW cur y::(R1++r::R2).map (λ_=>(0:Int))=(P.map (·.lo)++cW cur y::R1.map λ_=>0)++0::R2.map λ_=>0:=by simp
    have U:∀i∈R1,i.nm≠r.nm:=by intro i hi e;have:=W.nd;rw[N,ø,Ï,Đ]at this;exact this.2.2 i.nm (ä.mpr ⟨i,by simp[hi],rfl⟩) r.nm ⋯ e
    rw[AI U λi hi=>w i (by simp[hi])];rw[N]at W |-;rw[u,ji W.nd];have f:(P.map (·.lo)++cW cur y::R1.map λ_=>(0:Int)).length=(P++cur::R1).length:=by simp
    have j:((P.map (·.lo)++cW cur y::R1.map λ_=>(0:Int))++0::R2.map λ_=>0)[(P++cur::R1).length]?=À 0:=by rw[<- f,Ò (Ë _)];simp
    have o:List.drop ((P++cur::R1).length+1) ((P.map (λi:Itm=>i.lo)++cW cur y::R1.map λ_=>(0:Int))++0::R2.map λ_=>0)=R2.map λ_=>0:=by rw[<- f,aaa,ĺ ∅,aaD];rfl
    have H:((P++cur::R1)++r::R2).take (P++cur::R1).length=P++cur::R1:=by rw[abo];rfl
    have k:jJ Ä ((P++cur::R1)++r::R2) ((P.map (·.lo)++cW cur y::R1.map λ_=>(0:Int))++0::R2.map λ_=>0) (P++cur::R1).length r 0=(ni 0 r.hi&&(inR cur y&&lB R1)):=by unfold jJ;rw[o,H,pR,mC _ _ _ ⋯,oh _ _ ⋯,mY,A];simp[bL,mD]
    have C:cS Ä ((P++cur::R1)++r::R2) ((P.map (·.lo)++cW cur y::R1.map λ_=>(0:Int))++0::R2.map λ_=>0) (P++cur::R1).length r 0=(P++cur::R1).map (·.lo)++(if bg Ä r<0+1 then bg Ä r else 0+1)::R2.map λ_=>0:=by unfold cS;rw[o,H];simp
    unfold lE;k_in;rw[j];k_in;rw[k,C];cases hio:inR cur y&&lB R1 with
    |false=>rw[abH,Β (by decide),fW,<- Ż,hio];rfl
    |true=>
     rw[aal,<- Ż,hio,ł];have M:=W.lo r ⋯;by_cases a:ni 0 r.hi=Ã
     ·rw[Α a];have l:∀h,r.hi=À h->1<=h:=by intro h q;rw[q]at a;simp[ni]at a;lia
      have z:(if bg Ä r<0+1 then bg Ä r else 0+1)=cW r 1:=by simp[cW]
      have F:1<=cW r 1:=by
       unfold cW bg;cases q:r.hi with
       |none=>simp only;simp;split<;>(try split)<;>lia
       |some h=>have:=l h q;simp only;rw[Β ∅];lia
      rw[z];exact yK t (P++cur::R1) r R2 1 _ W ∅ l (.inr F)
     ·rw[Β a,fW];cases q:r.hi with
      |none=>rw[q]at a;exact(a rfl).elim
      |some h=>rw[q]at a;simp[ni]at a;exact(uH q t 1 ∅).symm
   ·rw[wY λi hi e=>m ⟨i,hi,e⟩,abH];by_cases I:∃q∈P,q.nm=n
    ·obtain⟨q,K,rfl⟩:=I;obtain⟨b,d,rfl⟩:=abN K;have O:1<=cW cur y:=by
      rcases G with h|h
      ·simp at h
      ·l_fit
     have N:(b++q::d)++cur::R=b++q::(d++cur::R):=by simp
     have u:(b++q::d).map (·.lo)++cW cur y::R.map (λ_=>(0:Int))=b.map (·.lo)++q.lo::(d.map (·.lo)++cW cur y::R.map λ_=>0):=by simp
     rw[N]at W |-;rw[u,ji W.nd];have f:(b.map (·.lo)).length=b.length:=by simp
     have j:(b.map (·.lo)++q.lo::(d.map (·.lo)++cW cur y::R.map λ_=>(0:Int)))[b.length]?=À q.lo:=by rw[<- f,Ò (Ë _)];simp
     have o:(b.map (·.lo)++q.lo::(d.map (·.lo)++cW cur y::R.map λ_=>(0:Int))).drop (b.length+1)=d.map (·.lo)++cW cur y::R.map λ_=>0:=by rw[<- f,aaa,ĺ ∅,aaD];rfl
     have Q:=uI (d.map (·.lo)) λx J=>by obtain⟨i,hi,rfl⟩:=ä.mp J;exact W.lo i (by simp[hi])
     have k:jJ Ä (b++q::(d++cur::R)) (b.map (·.lo)++q.lo::(d.map (·.lo)++cW cur y::R.map λ_=>0)) b.length q q.lo=Ä:=by
      unfold jJ;rw[o];have:((d.map (·.lo)++cW cur y::R.map λ_=>(0:Int)).sum==0)=Ä:=by rw[adT,adf,pR];simp;lia
      rw[this];simp
     unfold lE;k_in;rw[j];k_in;rw[k,Β (by decide),fW]
    ·rw[qO λi hi e=>?_]
     ·exact fW _ _ _
     ·rcases ì.mp hi with h|h
      ·exact I ⟨i,h,e⟩
      ·rcases Ù.mp h with rfl|h
       ·exact s e.symm
       ·exact m ⟨i,h,e⟩
theorem uJ(its:List Itm)(W:WF its)(names:P3):accept Ä its names=cP its names:=by
 rw[rM];cases its with
 |nil=>
  cases names with
  |nil=>rfl
  |cons n t=>rw[qP,qO ⋯];exact fW _ _ _
 |cons i R=>
  have a:cW i 0=0:=by
   have b:=W.lo i ⋯;unfold cW bg;cases q:i.hi with
   |none=>simp only;simp;intro h;split at h<;>lia
   |some h=>have:=W.hi i ⋯ h q;simp only;rw[Β ∅]
  have:=yK names [] i R 0 .bD W ∅ (λh q=>adC (W.lo i ⋯) (W.hi i ⋯ h q)) (.inl rfl);rw[a]at this;exact this
def dP(it:Itm)(y:Int):Int:=if bg Ã it<y then bg Ã it else y
def cnt(names:P3)(nm:Str):Int:=((names.filter λn=>n==nm).length:Nat)
def gC:List Itm->D2->P3->Bool
 |i::its,y::ys,names=>inR i (y+cnt names i.nm)&&gC its ys names
 |_,_,_=>Ã
def Gm:List Itm->D2->Prop
 |[],[]=>True
 |i::its,y::ys=>(0<=y/\∀h,i.hi=À h->y<=h)/\Gm its ys
 |_,_=>False
theorem wZ:∀{P:List Itm}{it:Itm}{R:List Itm}{ys:D2},Gm (P++it::R) ys->∃yP y a,ys=yP++y::a/\Gm P yP/\(0<=y/\∀h,it.hi=À h->y<=h)/\Gm R a
 |[],it,R,[],h=>by simp[Gm]at h
 |[],it,R,y::ys,h=>⟨[],y,ys,rfl,trivial,h.1,h.2⟩
 |i::P,it,R,[],h=>by simp[Gm]at h
 |i::P,it,R,y::ys,h=>by obtain⟨yP,d,a,e,c,b,f⟩:=wZ (P:=P) (it:=it) (R:=R) h.2;exact⟨y::yP,d,a,by rw[e];rfl,⟨h.1,c⟩,b,f⟩
theorem DU:∀{P:List Itm}{ys:D2},Gm P ys->P.length=ys.length
 |[],[],_=>rfl
 |[],_::_,h=>h.elim
 |_::_,[],h=>h.elim
 |i::P,y::ys,h=>by simp[DU h.2]
theorem AJ:∀{P:List Itm}{yP:D2}{it:Itm}{R:List Itm}{y:Int}{a:D2},Gm P yP->(0<=y/\∀h,it.hi=À h->y<=h)->Gm R a->Gm (P++it::R) (yP++y::a)
 |[],[],it,R,y,a,_,b,c=>⟨b,c⟩
 |[],_::_,_,_,_,_,h,_,_=>h.elim
 |_::_,[],_,_,_,_,h,_,_=>h.elim
 |i::P,z::yP,it,R,y,a,d,b,c=>⟨d.1,AJ d.2 b c⟩
theorem uK:∀{P:List Itm}{yP:D2}{B:List Itm}{yB:D2}{names:P3},P.length=yP.length->gC (P++B) (yP++yB) names=(gC P yP names&&gC B yB names)
 |[],[],B,yB,names,_=>by simp[gC]
 |[],_::_,_,_,_,h=>by simp at h
 |_::_,[],_,_,_,h=>by simp at h
 |i::P,y::yP,B,yB,names,h=>by have:=uK (P:=P) (yP:=yP) (B:=B) (yB:=yB) (names:=names) ‹h›;simp[gC,this,Ż]
theorem Kh{n nm:Str}{t:P3}(h:nm≠n):cnt (n::t) nm=cnt t nm:=by unfold cnt;rw[Ŭ ‹λe=>h e.symm›]
theorem Kl{n:Str}{t:P3}:cnt (n::t) n=cnt t n+1:=by unfold cnt;rw[ĳ ⋯];simp
theorem RH(t:P3)(n:Str):0<=cnt t n:=by unfold cnt;lia
theorem qQ{n:Str}{t:P3}:∀{P:List Itm}{yP:D2},(∀i∈P,i.nm≠n)->gC P yP (n::t)=gC P yP t
 |[],_,_=>by simp[gC]
 |_::_,[],_=>by simp[gC]
 |i::P,y::yP,h=>by rw[gC,gC,Kh (h i ⋯),qQ λj a=>h j (by simp[a])]
theorem Nu{i:Itm}{y:Int}(h:0<=y/\∀h,i.hi=À h->y<=h):decide (i.lo<=dP i y)=inR i y:=by
 unfold dP bg inR;cases q:i.hi with
 |none=>simp only[aal];rw[decide_eq_decide];simp;split<;>lia
 |some z=>have:=h.2 z q;simp only;rw[Β ∅];simp[this]
theorem DV:∀{its:List Itm}{ys:D2},Gm its ys->bL its (õ dP its ys)=gC its ys []
 |[],[],_=>rfl
 |[],_::_,h=>h.elim
 |_::_,[],h=>h.elim
 |i::its,y::ys,h=>by
  have e:y+cnt [] i.nm=y:=by simp[cnt]
  rw[aaN,bL,gC,DV h.2,e,Nu h.1]
def known(its:List Itm)(names:P3):Bool:=names.all λn=>its.any λi=>i.nm==n
theorem DW(its:List Itm)(W:WF its):∀(names:P3)(ys:D2)(v:D),Gm its ys->fM Ã its (À (õ dP its ys,v)) names=(known its names&&gC its ys names)
 |[],ys,v,h=>by show bL its (õ dP its ys)=_;rw[DV h];simp[known]
 |n::t,ys,v,h=>by
  rw[qP];by_cases c:∃i∈its,i.nm=n
  ·obtain⟨it,hi,rfl⟩:=c;have f:known its (it.nm::t)=known its t:=by unfold known;rw[ade,Ĝ.mpr ⟨it,hi,by simp⟩,ł]
   rw[f];obtain⟨P,R,rfl⟩:=abN hi;obtain⟨yP,y,a,rfl,o,k,x⟩:=wZ h;have p:∀i∈P,i.nm≠it.nm:=by intro i hi e;have:=W.nd;rw[ø,Ï,Đ]at this;exact this.2.2 i.nm (ä.mpr ⟨i,hi,rfl⟩) it.nm ⋯ e
   have r:∀i∈R,i.nm≠it.nm:=by intro i hi e;have:=W.nd;rw[ø,Ï,Đ]at this;exact(ę.mp this.2.1).1 (by rw[<- e];exact ä.mpr ⟨i,hi,rfl⟩)
   have d:=DU o;have V:(õ dP P yP).length=P.length:=by simp[d]
   have u:õ dP (P++it::R) (yP++y::a)=õ dP P yP++dP it y::õ dP R a:=by rw[ac5 d];rfl
   have c:(õ dP P yP++dP it y::õ dP R a)[P.length]?=À (dP it y):=by rw[<- V,Ò (Ë _)];simp
   have m:jJ Ã (P++it::R) (õ dP P yP++dP it y::õ dP R a) P.length it (dP it y)=ni (dP it y) it.hi:=by simp[jJ]
   have w:cS Ã (P++it::R) (õ dP P yP++dP it y::õ dP R a) P.length it (dP it y)=õ dP P yP++(if bg Ã it<dP it y+1 then bg Ã it else dP it y+1)::õ dP R a:=by
    unfold cS;rw[Α rfl,<- V,abo,aaa,ĺ ∅,aaD]
    ·simp
    ·rfl
   have j:gC (P++it::R) (yP++y::a) (it.nm::t)=(gC P yP t&&(inR it (y+(cnt t it.nm+1))&&gC R a t)):=by rw[uK d,qQ p,gC,Kl,qQ r]
   rw[u,ji W.nd];unfold lE;k_in;rw[c];k_in;rw[m,w];by_cases b:ni (dP it y) it.hi=Ã
   ·rw[Α b];have s:(if bg Ã it<dP it y+1 then bg Ã it else dP it y+1)=dP it (y+1):=by unfold dP;split<;>split<;>(try split)<;>lia
    have l:∀h,it.hi=À h->y+1<=h:=by intro h q;have:=k.2 h q;rw[q]at b;simp[ni,dP,bg,q]at b;split at b<;>lia
    have g:õ dP P yP++dP it (y+1)::õ dP R a=õ dP (P++it::R) (yP++(y+1)::a):=by rw[ac5 d];rfl
    rw[s,g,DW _ W t (yP++(y+1)::a) _ (AJ o ⟨∅,l⟩ x),j,uK d,gC];rw[show y+1+cnt t it.nm=y+(cnt t it.nm+1) by lia]
   ·rw[Β b,fW,j];cases q:it.hi with
    |none=>rw[q]at b;exact(b rfl).elim
    |some h=>
     have A:=k.2 h q;rw[q]at b;simp[ni,dP,bg,q]at b;rw[Β ∅]at b;have z:=RH t it.nm;have:inR it (y+(cnt t it.nm+1))=Ä:=by unfold inR;rw[q];simp;intro _;lia
     rw[this];simp
  ·rw[qO λi hi e=>c ⟨i,hi,e⟩];have:known its (n::t)=Ä:=by unfold known;rw[ade,adD.mpr (λi hi=>by simpa using λe=>c ⟨i,hi,e⟩),Ÿ]
   rw[this,Ÿ];exact fW _ _ _
theorem uL(its:List Itm)(W:WF its)(names:P3):accept Ã its names=(known its names&&gC its (its.map λ_=>0) names):=by
 rw[rM];have hz:∀l:List Itm,(∀i∈l,0<=i.lo)->(∀i∈l,∀h,i.hi=À h->i.lo<=h)->Gm l (l.map λ_=>0)/\õ dP l (l.map λ_=>0)=l.map λ_=>0:=by
  intro l
  induction l with
  |nil=>intro _ _;exact⟨trivial,rfl⟩
  |cons i l f=>
   intro e b;obtain⟨c,d⟩:=f (λj a=>e j (by simp[a])) (λj a=>b j (by simp[a]));have g:=e i ⋯;refine⟨⟨⟨adQ 0,λh q=>?_⟩,c⟩,?_⟩
   ·have:=b i ⋯ h q;show(0:Int)<=h;lia
   ·rw[Ï,aaN,d];congr 1;unfold dP bg;cases q:i.hi with
    |none=>simp only;simp;lia
    |some h=>have:=b i ⋯ h q;simp only;rw[Β ∅]
 obtain⟨c,d⟩:=hz its W.lo W.hi;have:=DW its W names _ .bD c;rw[d]at this;exact this
def jx(f:List (Str×D)):Y1:=f.map λp=>(Sum.inr p.1,p.2)
theorem mE(f:List (Str×D))(nm:Str):aN (jx f) (Sum.inr nm)=aN f nm:=by
 induction f with
 |nil=>rfl
 |cons p f i=>
  unfold jx at i |-;rw[Ï,cM,cM,i];by_cases h:p.1=nm
  ·simp[h]
  ·rw[Β h,Β (λe=>h (acL e))]
def az(L:List (D2×D)):List (List Key×D):=L.map λp=>(kC p.1,p.2)
theorem mZ(L:List (D2×D))(c:D2):aN (az L) (kC c)=aN L c:=by
 induction L with
 |nil=>rfl
 |cons p L i=>
  unfold az at i |-;rw[Ï,cM,cM,i];by_cases h:p.1=c
  ·simp[h]
  ·rw[Β h,Β (λe=>h (CP e))]
theorem pS(L:List (D2×D))(c:D2)(v:D):cF (az L) (kC c) v=az (cF L c v):=by
 have e:((az L).any λk=>decide (k.1=kC c))=L.any λk=>decide (k.1=c):=by unfold az;rw[adu];congr 1;funext p;simp only[aa0,decide_eq_decide];exact⟨CP,λe=>by rw[e]⟩
 unfold cF;rw[e];split
 ·unfold az;rw[ĕ,ĕ];apply ŧ;intro p _;simp only[aa0];by_cases h:p.1=c
  ·rw[Α h,Α (by rw[h])]
  ·rw[Β h,Β (λz=>h (CP z))]
 ·simp[az]
theorem j8(L:List (D2×D)):(az L).length=L.length:=by simp[az]
def oj(its:List Itm)(f:List (Str×D)):List (Itm×Nat):=its.zipIdx.filter λp=>(aN f p.1.nm).isSome
theorem CS(a b:Str)(mix:Bool)(its:List Itm)(fs:List (Str×D))(q:Nat)(dl:D)(hl:its.length<=100)(G:DH)(hq:G[q]?=À (.dct (jx fs))):
  eFn (gM (oT 2) [Ä,Ä,Ã] (eO #[(0)\{3}]) (cy (aj Cn ((1)\{0}) (4))) (0)) [À (aK a b mix its),À dl,À (.obj q),Æ,Æ,Æ,Æ] G
   = .ok (.con ((oj its fs).map λp=>.int p.2)) G:=by
 have c1:=bX (τ:=[À (aK a b mix its),À dl,À (.obj q),Æ,Æ,Æ,Æ]) (G:=G) (gO:=oT 2) (ks:=[Ä,Ä,Ã]) (tt:=cy (aj Cn ((1)\{0}) (4))) (te:=aa 0) (own:=λp:Itm×Nat=>[.int p.2,bR p.1]) (dat:=λp=>D.tup [.int p.2,bR p.1]) (f:=λp=>.int p.2) (c:=λp=>(aN fs p.1.nm).isSome) its.zipIdx [] () (λp _=>rfl) (λp hp acc=>by have hg:(G++[DO.lst acc])[q]?=À (.dct (jx fs)):=aH hq;have hv:=mE fs p.1.nm;unfold bR;simp![mask,RC,Cn,gf,hg,i6,hv]) (λp hp acc=>by simp![mask])
 rw[ã,<- Kf]at c1;have hcl:aG ((oj its fs).map λp=>D.int p.2)=Ã:=aA λ_=>cz;have c2:=tU (n:=G.length) (τ:=[À (aK a b mix its),À dl,À (.obj q),Æ,Æ,Æ,Æ]) (G:=G++[.lst []]) (gO:=oT 2) (ks:=[Ä,Ä,Ã]) (tt:=cy (aj Cn ((1)\{0}) (4))) (te:=aa 0) (xs:=its.map bR);rw[c1]at c2;unfold oj at hcl |-;generalize((its.zipIdx.filter λp=>(aN fs p.1.nm).isSome).map λp=>D.int p.2)=F at hcl c2 |-;unfold aK at c2 |-;generalize its.map bR=I at c2 |-;generalize(if mix=Ã then ("mix":Str) else "row")=w at c2 |-;simp![Sm,c2,dh,d7 hcl]
def stp(mix:Bool)(its:List Itm)(c:D2)(a:List (D2×D))(p:Itm×Nat):List (D2×D):=match c[p.2]? with
 |some x=>if jJ mix its c p.2 p.1 x=Ã then cF a (cS mix its c p.2 p.1 x) (.tup [cD c,.int p.2]) else a
 |none=>a
def nD(mix:Bool)(its:List Itm)(F:List (Itm×Nat))(L a:List (D2×D)):List (D2×D):=L.foldl (λa q=>F.foldl (stp mix its q.1) a) a
theorem DX(mix:Bool)(its:List Itm)(c:D2)(a:List (D2×D))(p:Itm×Nat):(stp mix its c a p).length<=a.length+1:=by
 unfold stp;split
 ·split
  ·exact sH _ _ _
  ·lia
 ·lia
theorem AK(mix:Bool)(its:List Itm)(c:D2):∀(F:List (Itm×Nat))(a:List (D2×D)),(F.foldl (stp mix its c) a).length<=a.length+F.length
 |[],a=>by simp
 |p::F,a=>by have b:=DX mix its c a p;have h:=AK mix its c F (stp mix its c a p);simp only[Ď,Ó];lia
theorem yL(v:D)(c:D2)(A:DH)(L:List (D2×D))(h:L.length<16000000):gc v (.obj A.length) (cD c) (A++[.aO Ä (az L)])=.ok .bD (A++[.aO Ä (az (cF L c v))]):=by have a:L.length<Ç:=Ø h (by rw[sizeLine_eq];lia);unfold gc;rw[mw];k_in;rw[lS];k_in;rw[Α (by simpa[j8]using a),IP,pS]
theorem uM(a b:Str)(mix:Bool)(its:List Itm)(l:its.length<=100)(c:D2)(q:c.length=its.length)(y h f:D)(G:DH):∀(F:List (Itm×Nat)),(∀p∈F,its[p.2]?=À p.1)->∀(d:List (D2×D))(o:X9),d.length+F.length<16000000 ->
  ∃N,bh (gN 6) dU (F.map λp=>.int p.2) [À (aK a b mix its),À y,À h,À f,À (.obj G.length),À (cD c),o] (G++[.aO Ä (az d)])
   = .nx [À (aK a b mix its),À y,À h,À f,À (.obj G.length),À (cD c),N] (G++[.aO Ä (az (F.foldl (stp mix its c) d))])
 |[],r,d,o,hz=>⟨o,by simp[bh]⟩
 |(it,k)::F,r,d,o,hz=>by
  have j:=r (it,k) ⋯;have u:k<its.length:=(Â.mp j).1;have i:c[k]?=À (c[k]'∅):=Í ∅;generalize c[k]'∅=x at i;have B:=DX mix its c d (it,k);obtain⟨N,v⟩:=uM a b mix its l c q y h f G F (λp z=>r p (by simp[z])) (stp mix its c d (it,k)) (À (.int k)) (by simp only[Ó]at hz;lia);refine⟨N,?_⟩;have m:=RG a b mix its c l q k it x j i (G++[.aO Ä (az d)]);have g:=Kc a b mix its c l q k it x j i (G++[.aO Ä (az d)]);have e:=yL (.tup [cD c,.int k]) (cS mix its c k it x) G d (by simp only[Ó]at hz;lia);have w:(2:Nat)<=Ç:=lz ∅;have n:stp mix its c d (it,k)=if jJ mix its c k it x=Ã then cF d (cS mix its c k it x) (.tup [cD c,.int k]) else d:=by unfold stp;simp only[i]
  rw[Ï,Ď];rw[bH rfl];k_all;have s:dU [À (aK a b mix its),À y,À h,À f,À (.obj G.length),À (cD c),À (.int k)] (G++[.aO Ä (az d)])=.nx [À (aK a b mix its),À y,À h,À f,À (.obj G.length),À (cD c),À (.int k)] (G++[.aO Ä (az (stp mix its c d (it,k)))]):=by
   rw[n];generalize cS mix its c k it x=t at g e |-;generalize aK a b mix its=R at m g |-;generalize cD c=C at m g e |-;generalize cD t=A at g e |-;generalize E:cF d t (.tup [C,.int k])=Q at e |-;cases hm:jJ mix its c k it x with
   |false=>rw[hm]at m;simp![dU,m]
   |true=>rw[hm]at m;simp![dU,m,g,e,w]
  rw[s,eL];exact v
theorem pT{its:List Itm}{f:List (Str×D)}{p:Itm×Nat}(h:p∈oj its f):its[p.2]?=À p.1/\(aN f p.1.nm).isSome=Ã:=by unfold oj at h;obtain⟨a,b⟩:=ļ.mp h;rw[Ě]at a;exact⟨‹a›,b⟩
theorem Ny{its:List Itm}{f:List (Str×D)}{it:Itm}{k:Nat}(h:its[k]?=À it)(a:(aN f it.nm).isSome=Ã):(it,k)∈oj its f:=by unfold oj;refine ļ.mpr ⟨?_,a⟩;rw[Ě];simpa using h
theorem Km(its:List Itm)(f:List (Str×D)):(oj its f).length<=its.length:=by unfold oj;exact ü (Ŵ _ _) ⋯
theorem uN(a b:Str)(mix:Bool)(its:List Itm)(f:its.length<=100)(F:List (Itm×Nat))(g:∀p∈F,its[p.2]?=À p.1)(y d:D)(G:DH):∀(L:List (D2×D)),(∀p∈L,p.1.length=its.length)->∀(c:List (D2×D))(e o:X9),c.length+L.length*F.length<16000000 ->
  ∃R N,bh (gN 5) fq (L.map λp=>cD p.1) [À (aK a b mix its),À y,À d,À (.con (F.map λp=>.int p.2)),À (.obj G.length),e,o] (G++[.aO Ä (az c)])
   = .nx [À (aK a b mix its),À y,À d,À (.con (F.map λp=>.int p.2)),À (.obj G.length),R,N] (G++[.aO Ä (az (nD mix its F L c))])
 |[],h,c,e,o,hz=>⟨e,o,by simp[bh,nD]⟩
 |p::L,h,c,e,o,hz=>by
  simp only[Ó,acq]at hz;have m:=AK mix its p.1 F c;obtain⟨N,i⟩:=uM a b mix its f p.1 (h p ⋯) y d (.con (F.map λp=>.int p.2)) G F g c o ∅;obtain⟨l,X,j⟩:=uN a b mix its f F g y d G L (λq k=>h q (by simp[k])) (F.foldl (stp mix its p.1) c) (À (cD p.1)) N ∅;refine⟨l,X,?_⟩;rw[Ï,bH rfl];k_all;have s:fq [À (aK a b mix its),À y,À d,À (.con (F.map λp=>.int p.2)),À (.obj G.length),À (cD p.1),o] (G++[.aO Ä (az c)])=.nx [À (aK a b mix its),À y,À d,À (.con (F.map λp=>.int p.2)),À (.obj G.length),À (cD p.1),N] (G++[.aO Ä (az (F.foldl (stp mix its p.1) c))]):=by
   unfold fq;rw[iZ]
   simp_all! [e8]
   exact i
  rw[s,eL];exact j
theorem Kn(a b:Str)(mix:Bool)(its:List Itm)(fs:List (Str×D))(n q:Nat)(fz:Bool)(L:List (D2×D))(hl:its.length<=100)(G:DH)
  (hg:G[n]?=À (.aO fz (az L))) (hq:G[q]?=À (.dct (jx fs))) (hL:∀p∈L,p.1.length=its.length) (hz:L.length*its.length<16000000):
  iK [aK a b mix its,.obj n,.obj q] G=.ok (.obj G.length) (G.set n (.aO Ã (az L))++[.aO Ä (az (nD mix its (oj its fs) L []))]):=by
 have hnl:n<G.length:=(Â.mp hg).1;have f0:=CS a b mix its fs q (.obj n) hl G hq;generalize GR:G.set n (.aO Ã (az L))=G1;have hlen:G.length=G1.length:=by rw[<- GR];simp
 have hget:(G++[DO.aO Ä []])[n]?=À (.aO fz (az L)):=aH hg;have RJ:(G++[DO.aO Ä []]).set n (.aO Ã (az L))=G1++[.aO Ä []]:=by rw[List.set_append_left _ _ hnl,GR]
 have hfl:=Km its fs;have hmul:L.length*(oj its fs).length<=L.length*its.length:=Nat.mul_le_mul_left _ hfl;obtain⟨RI,Nv,e1⟩:=uN a b mix its hl (oj its fs) (λp hp=>(pT hp).1) (.obj n) (.obj q) G1 L hL [] Æ Æ ();have ek:(az L).map (λkv=>D.tup (kv.1.map Ce))=L.map λp=>cD p.1:=by unfold az;rw[ĕ];exact ŧ λp _=>DR p.1
 generalize hR:aK a b mix its=R at f0 e1;generalize(oj its fs).map (λp=>D.int p.2)=F at f0 e1;unfold iK;rw[bQ];unfold kZ jG
 simp_all! [f0]
 simp_all! [j0,gZ,JW,hget,RJ,DK,ek]
 rw[hlen];rw[show(DO.aO Ä [])=DO.aO Ä (az []) from rfl,e1]
 simp_all! [e8]
theorem AL(mix:Bool)(its:List Itm)(c:D2):∀(F:List (Itm×Nat))(a:List (D2×D))(b:D2)(v:D),aN (F.foldl (stp mix its c) a) b=À v ->
  aN a b=À v\/∃p∈F,∃x,c[p.2]?=À x/\jJ mix its c p.2 p.1 x=Ã/\b=cS mix its c p.2 p.1 x/\v=.tup [cD c,.int p.2]
 |[],a,b,v,h=>.inl h
 |p::F,a,b,v,h=>by
  rw[Ď]at h;rcases AL mix its c F _ b v h with h|⟨q,k,x,i,g,j,f⟩
  ·unfold stp at h;cases hx:c[p.2]? with
   |none=>rw[hx]at h;exact .inl h
   |some x=>
    rw[hx]at h;dsimp only at h;by_cases d:jJ mix its c p.2 p.1 x=Ã
    ·rw[Α d,gw]at h;by_cases e:b=cS mix its c p.2 p.1 x
     ·rw[Α e]at h;exact .inr ⟨p,by simp,x,hx,d,e,(é h).symm⟩
     ·rw[Β e]at h;exact .inl h
    ·rw[Β d]at h;exact .inl h
  ·exact .inr ⟨q,by simp[k],x,i,g,j,f⟩
theorem qR(mix:Bool)(its:List Itm)(c:D2):∀(F:List (Itm×Nat))(a:List (D2×D))(b:D2),(aN a b).isSome=Ã->(aN (F.foldl (stp mix its c) a) b).isSome=Ã
 |[],a,b,h=>h
 |p::F,a,b,h=>by
  rw[Ď];apply qR mix its c F;unfold stp;split
  ·split
   ·rw[gw];split
    ·rfl
    ·l_fit
   ·l_fit
  ·l_fit
theorem Ko(mix:Bool)(its:List Itm)(c:D2):∀(F:List (Itm×Nat))(a:List (D2×D))(p:Itm×Nat)(x:Int),p∈F->c[p.2]?=À x->jJ mix its c p.2 p.1 x=Ã->(aN (F.foldl (stp mix its c) a) (cS mix its c p.2 p.1 x)).isSome=Ã:=by
 intro F
 induction F with
 |nil=>intro a p x h;simp at h
 |cons q F i=>
  intro a p x h b d;rw[Ď];rcases Ù.mp h with rfl|h
  ·apply qR;unfold stp;rw[b];k_in;rw[Α d,gw,Α rfl];rfl
  ·exact i _ p x h b d
theorem m5(mix:Bool)(its:List Itm)(F:List (Itm×Nat)):∀(L a:List (D2×D))(c:D2)(v:D),aN (nD mix its F L a) c=À v ->
  aN a c=À v\/∃q∈L,∃p∈F,∃x,q.1[p.2]?=À x/\jJ mix its q.1 p.2 p.1 x=Ã/\c=cS mix its q.1 p.2 p.1 x/\v=.tup [cD q.1,.int p.2]
 |[],a,c,v,h=>.inl h
 |q::L,a,c,v,h=>by
  have h':aN (nD mix its F L (F.foldl (stp mix its q.1) a)) c=À v:=h;rcases m5 mix its F L _ c v h' with h|⟨r,b,z⟩
  ·rcases AL mix its q.1 F a c v h with h|z
   ·exact .inl h
   ·exact .inr ⟨q,by simp,z⟩
  ·exact .inr ⟨r,by simp[b],z⟩
theorem uO(mix:Bool)(its:List Itm)(F:List (Itm×Nat)):∀(L a:List (D2×D))(c:D2),(aN a c).isSome=Ã->(aN (nD mix its F L a) c).isSome=Ã
 |[],a,c,h=>h
 |q::L,a,c,h=>uO mix its F L _ c (qR mix its q.1 F a c h)
theorem Gn(mix:Bool)(its:List Itm)(F:List (Itm×Nat)):∀(L a:List (D2×D))(q:D2×D)(p:Itm×Nat)(x:Int),q∈L->p∈F->q.1[p.2]?=À x->jJ mix its q.1 p.2 p.1 x=Ã->(aN (nD mix its F L a) (cS mix its q.1 p.2 p.1 x)).isSome=Ã:=by
 intro L
 induction L with
 |nil=>intro a q p x h;simp at h
 |cons r L i=>
  intro a q p x h d b c;rcases Ù.mp h with rfl|h
  ·exact uO mix its F L _ _ (Ko mix its q.1 F a p x d b c)
  ·exact i _ q p x h d b c
abbrev FS:=List (Str×D)
def layAt(mix:Bool)(its:List Itm)(a:List FS):List (D2×D):=a.foldl (λL f=>nD mix its (oj its f) L []) [(its.map λ_=>0,.bD)]
theorem gU(mix:Bool)(its:List Itm)(a:List FS)(f:FS):layAt mix its (a++[f])=nD mix its (oj its f) (layAt mix its a) []:=by unfold layAt;rw[ab4];rfl
theorem mF{a:Type} [DecidableEq a] {l:List (a×D)} {p:a×D} (h:p∈l):(aN l p.1).isSome=Ã:=(dz l p.1).mpr (ä.mpr ⟨p,h,rfl⟩)
theorem uP{a:Type} [DecidableEq a] {l:List (a×D)} {k:a} (h:(aN l k).isSome=Ã):∃p∈l,p.1=k:=by obtain⟨p,b,e⟩:=ä.mp ((dz l k).mp h);exact⟨p,b,e⟩
theorem qS(mix:Bool)(its:List Itm):∀(n:Nat)(a:List FS),a.length=n->∀p∈layAt mix its a,p.1.length=its.length
 |0,a,h,p,c=>by have:a=[]:=ĉ h;subst this;simp[layAt]at c;subst c;simp
 |n+1,a,h,p,c=>by
  obtain⟨b,f,rfl⟩:∃b f,a=b++[f]:=⟨a.dropLast,a.getLast (by intro e;rw[e]at h;simp at h),(Ā _).symm⟩;have j:=qS mix its n b ‹h›;rw[gU]at c;have i:=mF c;obtain⟨v,g⟩:=Option.isSome_iff_exists.mp i;rcases m5 mix its _ _ _ _ _ g with m|⟨q,l,r,d,x,t,s,k,o⟩
  ·simp[iu]at m
  ·rw[k];exact Gk (j q l) (Â.mp (pT d).1).1
theorem RK{d:Type} [DecidableEq d] (l:List (d×D)) (k:d) (v:D) (h:(l.map (·.1)).Nodup):((cF l k v).map (·.1)).Nodup:=by
 unfold cF;split
 ·rw[ĕ,show((·.1)∘λc:d×D=>if c.1=k then (c.1,v) else c)=(·.1) from funext λc=>by dsimp only[aa0];split<;>rfl];l_fit
 ·rename_i q;rw[ø,Đ];refine⟨h,by simp,λa i b j=>?_⟩;rintro rfl;obtain⟨x,g,e⟩:=ä.mp i;have f:a=k:=‹j›
  exact q (Ĝ.mpr ⟨x,g,decide_eq_true (e.trans f)⟩)
theorem DY(mix:Bool)(its:List Itm)(c:D2):∀(F:List (Itm×Nat))(a:List (D2×D)),(a.map (·.1)).Nodup->((F.foldl (stp mix its c) a).map (·.1)).Nodup
 |[],a,h=>h
 |p::F,a,h=>by
  rw[Ď];refine DY mix its c F _ ?_;unfold stp;split
  ·split
   ·exact RK _ _ _ h
   ·l_fit
  ·l_fit
theorem AM(mix:Bool)(its:List Itm)(F:List (Itm×Nat)):∀(L a:List (D2×D)),(a.map (·.1)).Nodup->((nD mix its F L a).map (·.1)).Nodup
 |[],a,h=>h
 |q::L,a,h=>AM mix its F L _ (DY mix its q.1 F a h)
def w4(its:List Itm):Prop:=∀i∈its,(0<=i.lo/\i.lo<=2)/\∀h,i.hi=À h->i.lo<=h/\h<=2
def VO(c:D2):Prop:=∀x∈c,0<=x/\x<=2
theorem Nz{mix:Bool}{it:Itm}(h:(0<=it.lo/\it.lo<=2)/\∀h,it.hi=À h->it.lo<=h/\h<=2):0<=bg mix it/\bg mix it<=2:=by
 unfold bg;split
 ·rename_i z e;have:=h.2 z e;lia
 ·split
  ·exact h.1
  ·split<;>lia
theorem Kp{mix:Bool}{its:List Itm}(d:w4 its){c:D2}(b:VO c){k:Nat}{it:Itm}{x:Int}(a:it∈its)(f:0<=x):VO (cS mix its c k it x):=by
 have g:=Nz (mix:=mix) (d it a);intro y h;unfold cS at h;rcases ì.mp h with h|h
 ·rcases ì.mp h with h|h
  ·split at h
   ·exact b y (ş h)
   ·obtain⟨i,e,rfl⟩:=ä.mp h;exact(d i (ş e)).1
  ·have:y=if bg mix it<x+1 then bg mix it else x+1:=‹h›
   rw[this];split<;>lia
 ·exact b y (Ž h)
theorem AN(mix:Bool)(its:List Itm)(g:w4 its):∀(n:Nat)(a:List FS),a.length=n->((layAt mix its a).map (·.1)).Nodup/\∀p∈layAt mix its a,VO p.1
 |0,a,h=>by
  have:a=[]:=ĉ h;subst this;refine⟨by simp[layAt],λp c=>?_⟩;simp[layAt]at c;subst c;intro x k;have:x=0:=by obtain⟨i,_,e⟩:=ä.mp k;exact e.symm
  lia
 |n+1,a,h=>by
  obtain⟨b,f,rfl⟩:∃b f,a=b++[f]:=⟨a.dropLast,a.getLast (by intro e;rw[e]at h;simp at h),(Ā _).symm⟩;have d:=AN mix its g n b ‹h›;rw[gU];refine⟨AM mix its _ _ _ .nil,λp c=>?_⟩;obtain⟨v,m⟩:=Option.isSome_iff_exists.mp (mF c);rcases m5 mix its _ _ _ _ _ m with t|⟨q,j,r,l,x,o,w,s,u⟩
  ·simp[iu]at t
  ·rw[s];exact Kp g (d.2 q j) (ç (pT l).1) (d.2 q j x (ç o)).1
def CU:Nat->D1
 |0=>[[]]
 |n+1=>(CU n).flatMap λc=>[0::c,1::c,2::c]
theorem AO:∀{c:D2},VO c->c∈CU c.length
 |[],h=>by simp[CU]
 |x::c,h=>by
  have i:=AO (c:=c) λy a=>h y (å _ a);have b:=h x ć;rw[Ó,CU,adN];refine⟨c,i,?_⟩;have:x=0\/x=1\/x=2:=∅
  rcases this with rfl|rfl|rfl<;>simp
theorem AQ:∀n,(CU n).length=3^n
 |0=>rfl
 |n+1=>by rw[CU,List.length_flatMap,Nat.pow_succ,<- AQ n];simp[List.map_const']
theorem w6{d:Type} [DecidableEq d]:∀{l m:List d},l.Nodup->(∀x∈l,x∈m)->l.length<=m.length
 |[],m,_,_=>ê _
 |a::l,m,j,h=>by obtain⟨g,f⟩:=ę.mp j;have c:=h a ć;have i:=w6 (l:=l) (m:=m.erase a) f λx b=>(List.mem_erase_of_ne (λe=>g (by rw[<- e];exact b))).mpr (h x (å _ b));rw[List.length_erase_of_mem c]at i;have:=acw c;rw[Ó];lia
theorem Gp(mix:Bool)(its:List Itm)(f:its.length<=3)(e:w4 its)(b:List FS):(layAt mix its b).length<=27:=by
 have h:=AN mix its e _ b rfl;have:=w6 h.1 (m:=CU its.length) λc a=>by
  obtain⟨p,d,rfl⟩:=ä.mp a;have:=AO (h.2 p d)
  rwa [qS mix its _ b rfl p d]at this
 rw[Û,AQ]at this;have g:3^its.length<=3^3:=Nat.pow_le_pow_right ∅ f;lia
structure gD(aV:List FS)(names:P3):Prop where
 len:names.length=aV.length
 mem:∀(i:Nat)(fs:FS)(nm:Str),aV[i]?=À fs->names[i]?=À nm->(aN fs nm).isSome=Ã
theorem gD.nil:gD [] []:=⟨rfl,λi f nm h=>by simp at h⟩
theorem gD.snoc{a:List FS}{names:P3}{f:FS}{nm:Str}(h:gD a names)(j:(aN f nm).isSome=Ã):gD (a++[f]) (names++[nm]):=by
 refine⟨by simp[h.len],λi g n e b=>?_⟩;by_cases d:i<a.length
 ·rw[Î d]at e;rw[Î (by rw[h.len];exact d)]at b;exact h.mem i g n e b
 ·have c:i<(a++[f]).length:=(Â.mp e).1;have:i=a.length:=by simp at c;lia
  subst this;rw[Ò (Ë _)]at e;rw[<- h.len,Ò (Ë _)]at b;simp at e b;subst e b;exact j
theorem gD.Kq{b:List FS}{f:FS}{w:P3}(h:gD (b++[f]) w):∃names nm,w=names++[nm]/\gD b names/\(aN f nm).isSome=Ã:=by
 have a:w≠[]:=by intro e;have:=h.len;rw[e]at this;simp at this
 have g:w.dropLast.length=b.length:=by have:=h.len;simp at this |-;lia
 have c:=(Ā a);refine⟨w.dropLast,w.getLast a,c.symm,⟨g,λi j n d l=>?_⟩,?_⟩
 ·have k:i<b.length:=(Â.mp d).1;refine h.mem i j n (by rw[Î k];exact d) ?_;rw[<- c,Î ∅];exact l
 ·refine h.mem b.length f _ ⋯ ?_;have:(w.dropLast++[w.getLast a])[b.length]?=À (w.getLast a):=by rw[<- g];simp
  rw[c]at this;exact this
theorem NC{its:List Itm}(a:(its.map (·.nm)).Nodup){it:Itm}{k:Nat}(h:its[k]?=À it):fits its it.nm=[(it,k)]:=by
 obtain⟨c,e⟩:=Â.mp h;have es:its=its.take k++it::its.drop (k+1):=by rw[<- e,List.getElem_cons_drop,ŵ]
 have b:(its.take k).length=k:=by simp;lia
 have:=ji (P:=its.take k) (it:=it) (R:=its.drop (k+1)) (by rw[<- es];exact a);rw[<- es,b]at this;exact this
theorem DZ(mix:Bool)(its:List Itm)(d:(its.map (·.nm)).Nodup):∀(n:Nat)(a:List FS),a.length=n->∀(names:P3),gD a names->∀c v,pQ mix its names=À (c,v)->(aN (layAt mix its a) c).isSome=Ã
 |0,a,h,names,b,c,v,e=>by have:a=[]:=ĉ h;subst this;have:names=[]:=ĉ b.len;subst this;w_up;simp[layAt,cM]
 |n+1,a,h,names,b,c,v,e=>by obtain⟨p,g,rfl⟩:∃p g,a=p++[g]:=⟨a.dropLast,a.getLast (by intro e;rw[e]at h;simp at h),(Ā _).symm⟩;obtain⟨names,nm,rfl,b,t⟩:=b.Kq;rw[uG]at e;obtain⟨m,v0,it,k,x,s,r,u,l,rfl,rfl⟩:=CQ e;obtain⟨i,f⟩:=Kg r;have o:=DZ mix its d n p ‹h› names b m v0 s;obtain⟨q,w,j⟩:=uP o;subst j;rw[gU];exact Gn mix its _ _ _ q (it,k) x w (Ny i (by rw[f];exact t)) u l
theorem w9(mix:Bool)(its:List Itm)(d:(its.map (·.nm)).Nodup)(hl:its.length<=100)(a:List FS)(L:X2)(A:DH)(P:∀i,i<=a.length->∃p C,L[i]?=À (.obj p)/\p<A.length/\A[p]?=À (.aO C (az (layAt mix its (a.take i))))):
  ∀(i:Nat),i<=a.length->i<=1000->∀(c:D2)(y:D)(l o:X9)(w:P3)(B:DH),w.length+i<=1000->(aN (layAt mix its (a.take i)) c).isSome=Ã ->
   ∃(τ':DS)(r:P3),gD (a.take i) r/\(∃v,pQ mix its r=À (c,v))/\bh (gN 4) fT (((L.drop 1).take i).reverse) [À (.tup (its.map bR)),À y,À (cD c),À (.obj A.length),l,o] (A++.lst (w.map .str)::B)=.nx τ' (A++.lst ((w++r.reverse).map .str)::B)/\τ'[3]?=À (À (.obj A.length))
 |0,R,u,c,y,l,o,w,B,hw,h=>by rw[List.take_zero]at h;obtain⟨p,g,e⟩:=uP h;simp[layAt]at g;subst g;refine⟨[À (.tup (its.map bR)),À y,À (cD c),À (.obj A.length),l,o],[],‹gD.nil›,⟨.bD,by rw[<- e];rfl⟩,by simp[bh],rfl⟩
 |i+1,R,u,c,y,l,o,w,B,hw,h=>by
  obtain⟨p,C,g,hpl,hA⟩:=P (i+1) R;have m:i<a.length:=∅
  obtain⟨v,E⟩:=Option.isSome_iff_exists.mp h;have z:a.take (i+1)=a.take i++[a[i]]:=aaO m;rw[z,gU]at E;rcases m5 mix its _ _ _ _ _ E with Y|⟨q,hq,X,K,x,S,N,O,U⟩
  ·simp[iu]at Y
  obtain⟨it,k⟩:=X;dsimp only at S N O U;obtain⟨G,b⟩:=pT K;dsimp only at G b;have RL:i+1<L.length:=(Â.mp g).1;have V:(L.drop 1)[i]?=À (.obj p):=by rw[adp,Nat.add_comm];exact g
  have e1:((L.drop 1).take (i+1)).reverse=.obj p::((L.drop 1).take i).reverse:=by
   have f:i<(L.drop 1).length:=by simp;lia
   rw[aaO f,ac6];rw[Í f]at V;rw[é V];rfl
  have t:=mF hq;obtain⟨τ',r,Z,⟨v0,M⟩,j,F⟩:=w9 mix its d hl a L A P i ∅ ∅ q.1 y (À (.obj p)) (À (.tup [cD q.1,.int k])) (w++[it.nm]) B () t;refine⟨τ',r++[it.nm],by rw[z];exact Z.snoc b,⟨.tup [cD q.1,.int k],?_⟩,?_,F⟩
  ·rw[uG,M,NC d G];unfold lE;k_in;rw[S];k_in;rw[Α N,O]
  rw[e1,bH rfl];have T:iz (its.map bR) (k:Int)=À (.tup [.str it.nm,.int it.lo,iP it.hi]):=nB (by rw[Þ,G];rfl);have H:(A++.lst (w.map D.str)::B)[p]?=À (.aO C (az (layAt mix its (a.take (i+1))))):=aH hA;have hz:w.length<Ç:=Ø ∅ (lz (n:=1001) ∅);have J:lZ (.obj p) (cD c) (A++.lst (w.map D.str)::B)=.ok (.tup [cD q.1,.int k]) (A++.lst (w.map D.str)::B):=by unfold lZ;rw[mw];k_in;rw[H];k_in;rw[mZ,z,gU,E];k_in;rw[U]
  have ew:(w++(r++[it.nm]).reverse).map D.str=(w++[it.nm]++r.reverse).map D.str:=by simp
  rw[ew];rw[show(w++[it.nm]).map D.str=w.map D.str++[.str it.nm] by simp]at j;generalize its.map bR=I at T j |-;generalize cD c=W at J |-;generalize cD q.1=Q at J j |-;have s:fT [À (.tup I),À y,À W,À (.obj A.length),À (.obj p),o] (A++.lst (w.map D.str)::B)=.nx [À (.tup I),À y,À Q,À (.obj A.length),À (.obj p),À (.tup [Q,.int k])] (A++.lst (w.map D.str++[.str it.nm])::B):=by
   unfold fT
   simp_all! [iH,kP,J]
   simp![lS,IP,hz,T,RC,yG,uD]
  simp only[ß,à,s,eL];exact j
theorem back_eq(mix:Bool)(its:List Itm)(f:(its.map (·.nm)).Nodup)(s:its.length<=100)(a:List FS)(E:a.length<=900)(L:X2)(A:DH)(q:Nat)(t:A[q]?=À (.lst L))(H:L.length=a.length+1)(B:∀i,i<=a.length->∃p w,L[i]?=À (.obj p)/\p<A.length/\A[p]?=À (.aO w (az (layAt mix its (a.take i)))))
  (c:D2) (h:(aN (layAt mix its a) c).isSome=Ã):∃r v,gR [.tup (its.map bR),.obj q,cD c] A=.ok (.con (r.map .str)) A/\gD a r/\pQ mix its r=À (c,v):=by
 have o:cutD L (À 1) Æ=L.drop 1:=by unfold cutD;rw[show(À (1:Int))=À ((1:Nat):Int) from rfl,HT.iD,HT.iT];rw[show min 1 L.length=1 by lia,Ę (by rw[Œ];lia)]
 have hz:(L.drop 1).length<=Ç:=lz ();gn_on;obtain⟨τ',r,k,⟨v,z⟩,e,u⟩:=w9 mix its f s a L A B a.length (Ë _) ∅ c (.obj q) Æ Æ [] [.dead] () (by rw[Ĵ];exact h);rw[Ĵ]at k;rw[Ę (),ã]at e;have l:(A++[DO.lst []])[q]?=À (.lst L):=aH t;have y:=k.len;have d:(r.reverse.map D.str).length<=Ç:=lz ();have b:aG ((r.reverse.map D.str).reverse)=Ã:=by rw[<- ack];exact aA λ_=>aW
 have j:(r.reverse.map D.str).reverse=r.map .str:=by rw[<- ack,List.reverse_reverse]
 refine⟨r,v,?_,k,z⟩;rw[<- j];unfold gR;refine jq (R:=[.lst (r.reverse.map .str),.dead]) ?_ (by rw[dQ];exact b);rw[bQ];unfold nY;have m:([]:X2).length<=Ç:=ê _;generalize F:L.drop 1=M at e hz o;generalize its.map bR=I at e |-;generalize cD c=C at e |-;generalize r.reverse.map D.str=W at e d b |-;have n:=DG (g:=gN 4) (body:=fT) (xs:=M) (τ:=[À (D.tup I),À (.obj q),À C,À (.obj A.length),Æ,Æ]) (G:=A++[.lst [],.dead]);rw[ĸ]at e;rw[e]at n;have es:rV (.obj q) (À 1) Æ (A++[DO.lst []])=.ok (.obj (A.length+1)) (A++[.lst [],.lst M]):=by simp only[rV,ak,l,o,aR,Α hz];simp
 have x:(Out.ok (.obj (A.length+1)) (A++[DO.lst [],.lst M])).fz=.ok (.con M) (A++[.lst [],.dead]):=Jm
 simp_all! [aR,Α m]
 simp_all! [Α h0,gZ,Jp,DF,rG,jo,mT,kI,es,x,ak,n]
 simp_all! [dh,u,oY,ak,lS,aR]
 rw[Α ‹d›];rw[d7 b,pq,jT]
structure AR(G:DH)(ch:Nat)(aV:List FS)(qs:List Nat):Prop where
 lst:G[ch]?=À (.lst (qs.map .obj))
 len:qs.length=aV.length
 YS:∀(i:Nat)(q:Nat)(fs:FS),qs[i]?=À q->aV[i]?=À fs->G[q]?=À (.dct (jx fs))
theorem AR.more{G R:DH}{ch:Nat}{b:List FS}{a:List Nat}(h:AR G ch b a):AR (G++R) ch b a:=
 ⟨aH h.lst,h.len,λi q f e c=>aH (h.YS i q f e c)⟩
structure yM(mix:Bool)(its:List Itm)(G:DH)(aV:List FS)(H:DH)(L:X2):Prop where
 pre:H.take G.length=G
 lt:G.length+1<H.length
 lst:H[G.length+1]?=À (.lst L)
 len:L.length=aV.length+1
 lay:∀i,i<=aV.length->∃p fz,L[i]?=À (.obj p)/\p≠G.length+1/\G.length<=p/\H[p]?=À (.aO fz (az (layAt mix its (aV.take i))))
theorem Kr{a:Type}(xs:List a)(x:a):iz (xs++[x]) (-1)=À x:=by
 have h:Bt (xs++[x]).length (-1)=À xs.length:=by unfold Bt;simp;lia
 unfold iz;rw[h];simp
theorem D0{xs:X2}{d:D}(h:xs[xs.length-1]?=À d):iz xs (-1)=À d:=by
 obtain⟨b,e⟩:=Â.mp h;have a:xs≠[]:=by rintro rfl;simp at b
 have c:xs=xs.dropLast++[d]:=by rw[<- e,<- List.getLast_eq_getElem a];exact(Ā a).symm
 rw[c];exact Kr _ _
theorem yN{G H:DH}(h:H.take G.length=G){q:Nat}{o:DO}(e:G[q]?=À o):H[q]?=À o:=by have a:q<G.length:=(Â.mp e).1;rw[<- h,ŕ,Α a]at e;exact e
theorem grow(a b:Str)(mix:Bool)(its:List Itm)(O:its.length<=3)(w:w4 its)(G:DH)(ch:Nat)(l:List Nat)(d:List FS)(h:d.length<=250)(C:AR G ch d l)(y z:D):
  ∀(r c:List FS)(H:DH)(L:X2)(E o:X9),d=c++r->yM mix its G c H L ->
   ∃(S:X9)(H':DH)(M:X2),yM mix its G d H' M/\m9 (gN 4) fy ch (r.length+1) c.length [À (aK a b mix its),À y,À z,À (.obj (G.length+1)),E,o] H=.nx [À (aK a b mix its),À y,À z,À (.obj (G.length+1)),S,o] H'
 |[],c,H,L,E,o,g,I=>by rw[ö]at g;subst g;refine⟨E,H,L,I,zR (yN I.pre C.lst) ?_⟩;rw[Þ,ù (by rw[C.len];exact Ë _)];rfl
 |m::r,c,H,L,E,o,g,I=>by
  obtain⟨p,fz,h1,h2,h3,J⟩:=I.lay c.length (Ë _);rw[Ĵ]at J;have hn:c.length+(r.length+1)<=250:=by rw[g]at h;simpa using h
  have P:d[c.length]?=À m:=by rw[g];simp
  have Q:c.length<l.length:=by rw[C.len,g];simp
  have j:l[c.length]?=À (l[c.length]):=Í Q;generalize l[c.length]=q at j;have K:=C.YS _ q m j P;have N:=yN I.pre K;have Sn:=Gp mix its O w c;have hm:(layAt mix its c).length*its.length<=27*3:=Nat.mul_le_mul Sn O;have F:=Kn a b mix its m p q fz (layAt mix its c) ∅ H J N (qS mix its _ c rfl) ∅;rw[<- gU]at F;have hpl:p<H.length:=(Â.mp J).1;have v:iz L (-1)=À (.obj p):=D0 (by rw[I.len];exact h1);have hlt:=I.lt;generalize A:H.set p (.aO Ã (az (layAt mix its c)))++[.aO Ä (az (layAt mix its (c++[m])))]=t at F;have hl1:t.length=H.length+1:=by rw[<- A];simp
  have X:t[G.length+1]?=À (.lst L):=by rw[<- A,Î (),Ô h2];exact I.lst
  have hz:L.length<Ç:=Ø (by rw[I.len];lia) (lz (n:=1001) ∅);have I2:yM mix its G (c++[m]) (t.set (G.length+1) (.lst (L++[.obj H.length]))) (L++[.obj H.length]):=by
   have k:∀q:Nat,q<H.length->q≠G.length+1->q≠p->(t.set (G.length+1) (.lst (L++[.obj H.length])))[q]?=H[q]?:=by intro q j hq1 hq2;rw[Ô ∅,<- A,Î (),Ô ∅]
   refine⟨?_,by simp;lia,?_,by simp[I.len],λi hi=>?_⟩
   ·apply Ĕ;intro q;by_cases j:q<G.length
    ·have:=I.pre;rw[ŕ,Α j];have e:G[q]?=H[q]?:=by
      conv=>lhs;rw[<- I.pre]
      rw[ŕ,Α j]
     rw[e,k q ∅ ∅ ∅]
    ·rw[ù (),ù ∅]
   ·rw[ñ,Α rfl,Α ∅]
   ·by_cases s:i<=c.length
    ·obtain⟨q,f,k1,k2,k3,B⟩:=I.lay i s;have Y:q<H.length:=(Â.mp B).1;rw[abc s];have Z:(L++[D.obj H.length])[i]?=À (.obj q):=by rw[Î (by rw[I.len];lia)];exact k1
     by_cases W:q=p
     ·subst W;rw[J]at B;have e2:az (layAt mix its (c.take i))=az (layAt mix its c):=by have:=é B;injection this with _ e3;exact e3.symm
      refine⟨q,Ã,Z,k2,k3,?_⟩;rw[e2,Ô ∅,<- A,Î (),ñ,Α rfl,Α Y]
     ·exact⟨q,f,Z,k2,k3,by rw[k q Y k2 W];exact B⟩
    ·have T:i=c.length+1:=by simp at hi;lia
     subst T;refine⟨H.length,Ä,?_,∅,∅,?_⟩
     ·rw[<- I.len,Ò (Ë _)];simp
     ·rw[Ę ⋯,Ô ∅,<- A];rw[Ò ⋯];simp
  obtain⟨S,H',M,I',U⟩:=grow a b mix its O w G ch l d h C y z r (c++[m]) _ _ (À (.obj q)) o (by rw[g];simp) I2;refine⟨S,H',M,I',?_⟩;have u:fy [À (aK a b mix its),À y,À z,À (.obj (G.length+1)),À (.obj q),o] H=.nx [À (aK a b mix its),À y,À z,À (.obj (G.length+1)),À (.obj q),o] (t.set (G.length+1) (.lst (L++[.obj H.length]))):=by have V:=I.lst;generalize aK a b mix its=R at F |-;generalize G.length+1=q at X V |-;unfold fy;simp![V,v,F,X,hz]
  rw[Ó,I8 (yN I.pre C.lst) (x:=.obj q) (by rw[Þ,j];rfl) rfl];simp only[ß,à,u,eL];rw[Ý]at U;exact U
theorem xg(mix:Bool)(its:List Itm)(f:its.length<=100)(R Ch y:D)(o:X9)(H:DH)(res:D2->P3):∀(L:List (D2×D))(c:X9),(∀p∈L,bL its p.1=Ã->gR [.tup (its.map bR),y,cD p.1] H=.ok (.con ((res p.1).map .str)) H) ->
  (∃p∈L,bL its p.1=Ã/\bh (gN 5) bV (L.map λp=>cD p.1) [À R,À Ch,À (.tup (its.map bR)),À y,o,c] H=.rt (.con ((res p.1).map .str)) H) \/
  ((∀p∈L,bL its p.1=Ä)/\∃d,bh (gN 5) bV (L.map λp=>cD p.1) [À R,À Ch,À (.tup (its.map bR)),À y,o,c] H=.nx [À R,À Ch,À (.tup (its.map bR)),À y,o,d] H)
 |[],c,h=>.inr ⟨λp g=>by simp at g,c,by simp[bh]⟩
 |p::L,c,h=>by
  have e:=wW its p.1 f H;have b:=h p ⋯;rw[Ï,bH rfl];k_all;cases he:bL its p.1 with
  |true=>
   refine .inl ⟨p,by simp,he,?_⟩;have b:=b he;rw[he]at e;generalize its.map bR=It at e b |-;generalize cD p.1=C at e b |-;generalize(res p.1).map D.str=r at b |-;have s:bV [À R,À Ch,À (.tup It),À y,o,À C] H=.rt (.con r) H:=by simp![bV,e,b]
   rw[s];rfl
  |false=>
   rw[he]at e;have s:bV [À R,À Ch,À (.tup (its.map bR)),À y,o,À (cD p.1)] H=.nx [À R,À Ch,À (.tup (its.map bR)),À y,o,À (cD p.1)] H:=by generalize its.map bR=It at e |-;generalize cD p.1=C at e |-;simp![bV,e]
   rw[s,eL];rcases xg mix its f R Ch y o H res L (À (cD p.1)) (λq a=>h q (by simp[a]))with⟨q,a,e1,e2⟩|⟨e1,d,e2⟩
   ·exact .inl ⟨q,by simp[a],e1,e2⟩
   ·refine .inr ⟨λq a=>?_,d,e2⟩;rcases Ù.mp a with rfl|a
    ·exact he
    ·exact e1 q a
theorem Gq(a b:Str)(mix:Bool)(its:List Itm)(hl:its.length<=3)(A:w4 its)(t:(its.map (·.nm)).Nodup)(d:List FS)(T:d.length<=250)(G:DH)(ch:Nat)(y:List Nat)(C:AR G ch d y):
  (∃r,gD d r/\accept mix its r=Ã/\eY [aK a b mix its,.obj ch] G=.ok (.con (r.map .str)) G)\/((∀r,gD d r->accept mix its r=Ä)/\eY [aK a b mix its,.obj ch] G=.ok .bD G):=by
 have I0:yM mix its G [] (G++[.aO Ä (az [(its.map λ_=>0,.bD)]),.lst [.obj G.length]]) [.obj G.length]:=by
  refine⟨by simp,by simp,?_,rfl,λi B=>?_⟩
  ·rw[Ò ∅];simp
  ·have:i=0:=‹B›
   subst this;refine⟨G.length,Ä,rfl,∅,Ë _,?_⟩;rw[lS];rfl
 obtain⟨N,H,L,I,O⟩:=grow a b mix its hl A G ch y d T C (.obj ch) (.tup (its.map bR)) d [] _ _ Æ Æ rfl I0;obtain⟨p,M,h1,Q,Y,x⟩:=I.lay d.length (Ë _);rw[Ĵ]at x;have u:p<H.length:=(Â.mp x).1;have o:iz L (-1)=À (.obj p):=D0 (by rw[I.len];exact h1);have K:=yH a b mix its ∅ (G++[.aO Ä []]);have np:=yL .bD (its.map λ_=>0) G [] ⋯;have J:(1:Nat)<=Ç:=lz ∅;generalize k:H.set p (.aO Ã (az (layAt mix its d)))=g;have W:g[G.length+1]?=À (.lst L):=by rw[<- k,Ô Q];exact I.lst
 have n:g=G++g.drop G.length:=by
  have:g.take G.length=G:=by rw[<- k,abq Y];exact I.pre
  conv=>lhs;rw[<- ŵ G.length g,this]
 have yX:∀i,i<=d.length->∃p M,L[i]?=À (.obj p)/\p<g.length/\g[p]?=À (.aO M (az (layAt mix its (d.take i)))):=by
  intro i B;obtain⟨q,f,k1,k2,k3,w⟩:=I.lay i B;have So:q<H.length:=(Â.mp w).1;by_cases U:p=q
  ·subst U;rw[x]at w;have s:az (layAt mix its (d.take i))=az (layAt mix its d):=by have:=é w;injection this with _ e3;exact e3.symm
   refine⟨p,Ã,k1,by rw[<- k];simpa using u,?_⟩;rw[s,<- k,ñ,Α rfl,Α u]
  ·exact⟨q,f,k1,by rw[<- k];simpa using So,by rw[<- k,Ô U];exact w⟩
 have S:=I.lst;have E:=C.lst;have XF:iL [À (aK a b mix its),À (.obj ch),Æ,Æ,Æ,Æ] G=fB [À (aK a b mix its),À (.obj ch),À (.tup (its.map bR)),À (.obj (G.length+1)),N,Æ] H:=by
  have ix:∀τ G,aj aE (0) {3} (À (aK a b mix its)::τ) G=.ok (.tup (its.map bR)) G:=by intro τ G;unfold aK;simp![Sm]
  have dn:∀τ,ai aR (af (l7 (aF 1 ie (af (0) ah)) (eC .bD)) ah) (À (aK a b mix its)::τ) G=.ok (.obj (G.length+1)) (G++[.aO Ä (az [(its.map λ_=>0,.bD)]),.lst [.obj G.length]]):=by intro τ;have X:gc .bD (.obj G.length) (cD (its.map λ_=>0)) (G++[.aO Ä []])=.ok .bD (G++[.aO Ä (az [(its.map λ_=>0,.bD)])]):=np;generalize aK a b mix its=R at K |-;generalize cD (its.map λ_=>0)=Z at K X;generalize az [(its.map λ_=>0,.bD)]=K0 at X |-;simp![K,X,J,aR]
  have V:(G++[DO.aO Ä (az [(its.map λ_=>0,.bD)]),.lst [.obj G.length]])[ch]?=À (.lst (y.map .obj)):=aH E;unfold iL;rw[f9,lU,ix,rF,ic];k_all;rw[f9,lU,dn,rF,ic];k_all;rw[f9,iZ]
  simp_all! [V,Û]
  rw[C.len];rw[ď]at O;rw[O,ic]
 have P:(az (layAt mix its d)).map (λkv=>D.tup (kv.1.map Ce))=(layAt mix its d).map λp=>cD p.1:=by unfold az;rw[ĕ];exact ŧ λp _=>DR p.1
 have XI:fB [À (aK a b mix its),À (.obj ch),À (.tup (its.map bR)),À (.obj (G.length+1)),N,Æ] H=(bh (gN 5) bV ((layAt mix its d).map λp=>cD p.1) [À (aK a b mix its),À (.obj ch),À (.tup (its.map bR)),À (.obj (G.length+1)),N,Æ] g).sq (bS (eC .bD)):=by
  unfold fB
  simp_all! [gZ,JW,IX,IY,aE,ak,S,o,x,k,DK,P]
 have m:∀r,(bh (gN 5) bV ((layAt mix its d).map λp=>cD p.1) [À (aK a b mix its),À (.obj ch),À (.tup (its.map bR)),À (.obj (G.length+1)),N,Æ] g).sq (bS (eC .bD))=.rt r g->r.closed=Ã->eY [aK a b mix its,.obj ch] G=.ok r G:=by
  intro r h hc;unfold eY;refine jq (R:=g.drop G.length) ?_ hc;rw[<- n,bQ]
  simp_all! [e8]
  rw[XF,XI,h,jT]
 have l:∀c:D2,∃r:P3,(aN (layAt mix its d) c).isSome=Ã->(∃v,gR [.tup (its.map bR),.obj (G.length+1),cD c] g=.ok (.con (r.map .str)) g/\gD d r/\pQ mix its r=À (c,v)):=by
  intro c;by_cases h:(aN (layAt mix its d) c).isSome=Ã
  ·obtain⟨r,v,z⟩:=back_eq mix its t ∅ d ∅ L g (G.length+1) W I.len yX c h;exact⟨r,λ_=>⟨v,z⟩⟩
  ·exact⟨[],λz=>(h z).elim⟩
 obtain⟨res,j⟩:=Classical.axiomOfChoice l;rcases xg mix its ∅ (aK a b mix its) (.obj ch) (.obj (G.length+1)) N g res (layAt mix its d) Æ (λp hp _=>by obtain⟨v,z,_⟩:=j p.1 (mF hp);exact z)with⟨q,F,s,e3⟩|⟨s,RI,e3⟩
 ·obtain⟨v,z1,z2,z3⟩:=j q.1 (mF F);refine .inl ⟨res q.1,z2,?_,m _ ?_ ?_⟩
  ·unfold accept;rw[z3];exact s
  ·rw[e3];rfl
  ·rw[dQ];exact aA λ_=>aW
 ·refine .inr ⟨λr hr=>?_,m _ ?_ tW⟩
  ·unfold accept;cases UZ:pQ mix its r with
   |none=>rfl
   |some cv=>obtain⟨c,v⟩:=cv;obtain⟨q,F,e⟩:=uP (DZ mix its t _ d rfl r hr c v UZ);have:=s q F;rw[e]at this;exact this
  ·rw[e3,ic,qE,MF,pq]
inductive T where
 |nd (k:Str) (ps:List T)
mutual
def T.d:T->D
 |.nd k p=>.tup [.str k,.tup (dL p)]
def dL:List T->X2
 |[]=>[]
 |t::r=>t.d::dL r
end
mutual
def T.prs(p:D2):T->List (D2×T)
 |.nd k a=>(p,.nd k a)::qT p 0 a
def qT(p:D2)(j:Int):List T->List (D2×T)
 |[]=>[]
 |t::r=>t.prs (p++[j])++qT p (j+1) r
end
mutual
def T.subs:T->List T
 |.nd k p=>.nd k p::bM p
def bM:List T->List T
 |[]=>[]
 |t::r=>t.subs++bM r
end
theorem om:∀a:List T,dL a=a.map T.d
 |[]=>rfl
 |t::r=>by rw[dL,om r,Ï]
mutual
theorem Ks(p:D2):∀t:T,(t.prs p).map (·.2)=t.subs
 |.nd k a=>by rw[T.prs,T.subs,Ï,xh p 0 a]
theorem xh(p:D2)(j:Int):∀a:List T,(qT p j a).map (·.2)=bM a
 |[]=>rfl
 |t::r=>by rw[qT,bM,ø,Ks _ t,xh p (j+1) r]
end
mutual
theorem AU:∀t:T,t.d.closed=Ã
 |.nd k p=>by rw[T.d,kK,bN,bN,aW,kK,xj p];rfl
theorem xj:∀a:List T,aG (dL a)=Ã
 |[]=>rfl
 |t::r=>by rw[dL,bN,AU t,xj r];rfl
end
theorem CV{xs:X2}(h:aG xs=Ã):aG xs.reverse=Ã:=by
 induction xs with
 |nil=>rfl
 |cons x xs i=>
  rw[bN]at h;have h':x.closed=Ã/\aG xs=Ã:=‹h›
  rw[Ň,lX,i h'.2];simp[bN,h'.1,fR]
abbrev pl(p:D2):D:=cD p
theorem D3(xs ys:X2)(G:DH)(h:xs.length+ys.length<=Ç):ay (.tup xs) (.tup ys) G=.ok (.tup (xs++ys)) G:=by
 cases xs with
 |nil=>rfl
 |cons x xs=>show aY (x::xs++ys) G=_;rw[aY,Α (by simp at h |-;lia)]
def fY(x:D2×T):D:=.tup [pl x.1,x.2.d]
theorem CW(p:D2):(pl p).closed=Ã:=by exact qN p
theorem jk(x:D2×T):(fY x).closed=Ã:=by rw[fY,kK,bN,bN,CW,AU];rfl
def kids(p:D2)(j:Int):List T->List (D2×T)
 |[]=>[]
 |t::r=>(p++[j],t)::kids p (j+1) r
theorem AV(p:D2):∀(a:List T)(j:Int),(kids p j a).length=a.length
 |[],j=>rfl
 |t::r,j=>by rw[kids,Ó,AV p r,Ó]
theorem xm(p:D2):∀(a:List T)(j:Int),qT p j a=(kids p j a).flatMap λx=>x.2.prs x.1
 |[],j=>rfl
 |t::r,j=>by rw[qT,kids,ab5,xm p r]
def kf(p:D2):D->D
 |.tup [.int i,y]=>.tup [.tup (p.map .int++[.int i]),y]
 |_=>.bD
def RM:D->X2
 |.tup xs=>xs
 |_=>[]
theorem AW(p:D2):∀(b:List T)(j:Nat),((dL b).mapIdx λi x=>D.tup [.int ((i+j:Nat):Int),x]).map (kf p)=(kids p (j:Int) b).map fY
 |[],j=>rfl
 |t::r,j=>by
  have a:=AW p r (j+1);rw[dL,kids,aab,Ï,Ï];congr 1
  ·simp[kf,fY,pl,cD]
  ·rw[show((j+1:Nat):Int)=(j:Int)+1 by lia]at a;rw[<- a];congr 1;apply Ĕ;intro i;simp only[ē];congr 1;funext x;rw[show i+1+j=i+(j+1) by lia]
theorem Ku(p:D2)(k:Str)(a:List T)(w:p.length<=1000)(u:a.length<=1000)(G:DH):cH [fY (p,.nd k a)] G=.ok (.con ((kids p 0 a).map fY)) G:=by
 kcf_m;have z:(2:Nat)<=Ç:=lz ∅;have Y:fY (p,.nd k a)=.tup [.tup (p.map .int),.tup [.str k,.tup (dL a)]]:=by rw[fY,T.d];rfl
 have q:(dL a).length=a.length:=by rw[om,Û]
 have o:∀(x y:D),iz [x,y] 0=À x:=λx y=>by have:=b9 (xs:=[x,y]) (j:=0) (v:=x) rfl;f_are
 have r:∀(x y:D),iz [x,y] 1=À y:=λx y=>by have:=b9 (xs:=[x,y]) (j:=1) (v:=y) rfl;f_are
 have e:=AW p a 0;simp only[adw,Int.natCast_zero]at e;have g:=mU (τ:=[À (fY (p,.nd k a))]) (G:=G) (gO:=oT 2) (ks:=[Ã]) (te:=ai aY #[aj ay ((2)\{0}) (ai aY #[(0)]),(1)]) (own:=RM) (f:=kf p) ((dL a).mapIdx λi x=>D.tup [.int (i:Int),x]) [] () (λx h=>by
   obtain⟨i,m,rfl⟩:=ad1.mp h;simp[oT,RM]) (λx h b=>by
   obtain⟨i,m,rfl⟩:=ad1.mp h;rw[Y];have c:=D3 (p.map .int) [.int (i:Int)] (G++[.lst b]) (lz ());generalize(dL a)[i]=y;simp only[RM,kf]at c |-;generalize p.map D.int=t at c |-
   simp_all! [mask,aE,ak,o,aY,Α (show 0+1<=Ç from z1),Α (show 0+1+1<=Ç from z),c])
 rw[e,ã]at g;refine gb ?_ (by rw[dQ];exact aA jk);have n:eFn (gM (oT 2) [Ã] (eO #[((0)\{1})\{1}]) dw (ai aY #[aj ay ((2)\{0}) (ai aY #[(0)]),(1)])) [À (fY (p,.nd k a))] G=.ok (.con ((kids p 0 a).map fY)) G:=by
  rw[dh];have l:gM (oT 2) [Ã] (eO #[((0)\{1})\{1}]) dw (ai aY #[aj ay ((2)\{0}) (ai aY #[(0)]),(1)]) [À (fY (p,.nd k a))] G=.ok (.obj G.length) (G++[.lst ((kids p 0 a).map fY)]):=by
   rw[<- g,<- tU];have s:∀G,eO #[((0)\{1})\{1}] [À (fY (p,.nd k a))] G=.ok ((dL a).length+1,i7 (dL a)) G:=λG=>by
    rw[Y]
    simp_all! [jX,aE,ak,r]
   rw[IW,s,e8]
  rw[l,d7 (aA jk)]
 unfold jb
 simp_all! [bQ,Nat.sub_self,ac7,ö,n]
def tot:List (D2×T)->Nat
 |[]=>0
 |x::r=>x.2.subs.length+tot r
theorem yO:∀xs ys:List (D2×T),tot (xs++ys)=tot xs+tot ys
 |[],ys=>by simp[tot]
 |x::xs,ys=>by rw[ħ,tot,tot,yO xs ys];lia
theorem AX(p:D2):∀(a:List T)(j:Int),tot (kids p j a)=(bM a).length
 |[],j=>rfl
 |t::r,j=>by rw[kids,tot,AX p r,bM,Ý]
theorem uQ(t:T):1<=t.subs.length:=by cases t;rw[T.subs,Ó];lia
theorem j9:∀a:List T,a.length<=(bM a).length
 |[]=>ê _
 |t::r=>by have:=uQ t;have:=j9 r;rw[bM,Ý,Ó];lia
theorem D4:∀w:List (D2×T),w.length<=tot w
 |[]=>ê _
 |x::r=>by have:=uQ x.2;have:=D4 r;rw[tot,Ó];lia
theorem U0:ő ("placed_parts":Str) [("placed_parts",cH)]=À cH:=by simp[ő]
theorem AY{y:Str}{m:X2->M D}(h:ő y [("placed_parts",cH)]=À m)(A:DH)(a f:X9)(F R P:X2)(d:D)(i:∀H,m [d] H=.ok (.con P) H)(b:aG P=Ã)(p:F.length<=1000)(o:R.length+P.length<=2000):
  fj [a,À (.fn y),À (.obj A.length),À (.obj (A.length+1)),f] (A++[.lst F,.lst (R++[d])])=.nx [a,À (.fn y),À (.obj A.length),À (.obj (A.length+1)),À d] (A++[.lst (F++[d]),.lst (R++P.reverse)]):=by
 have l:F.length<Ç:=Ø ∅ (lz (n:=1001) ∅);have j:R.length+P.reverse.length<=Ç:=lz ();have z:P.reverse.length<=Ç:=lz ();have e:∀H,eFn (ai oY #[nR 1 1 (λy=>ő y [("placed_parts",cH)]) #[(4)]]) [a,À (.fn y),À (.obj A.length),À (.obj (A.length+1)),À d] H=.ok (.con P.reverse) H:=λH=>by
  rw[dh]
  simp_all! [IZ,h,i,oY,ak]
  rw[g7 z (CV b)]
 generalize c:eFn (ai oY #[nR 1 1 (λy=>ő y [("placed_parts",cH)]) #[(4)]])=E at e;have k:(R++[d])[(R++[d]).length-1]?=À d:=by simp
 have g:(R++[d]).dropLast=R:=by simp
 unfold fj;rw[c]
 simp_all! [iH,jS,dB,lS,VB,beq_self_eq_true,zB,k,g,VC,br,Α l,IP,lC,e,zS,lV,Α j]
theorem rN(A:DH)(e:X9):∀(n:Nat)(F:List (D2×T))(w:List (D2×T))(d:X9),tot w<n->F.length+tot w<=1000->(∀x∈w,x.1.length+x.2.subs.length<=1000) ->
  ∃g,dZ (cy (aj qA (ai aM #[(3)]) {0})) fj n [e,À (.fn "placed_parts"),À (.obj A.length),À (.obj (A.length+1)),d] (A++[.lst (F.map fY),.lst (w.map fY).reverse]) =
   .nx [e,À (.fn "placed_parts"),À (.obj A.length),À (.obj (A.length+1)),g] (A++[.lst ((F++w.flatMap λx=>x.2.prs x.1).map fY),.lst []])
 |0,F,w,d,h,_,_=>∅
 |n+1,F,[],d,h,i,o=>by
  refine⟨d,?_⟩
  simp_all! [pC,aM,ak,VB,adO,aP,adP,ö]
  rw[show decide ((0:Int)<((0:Nat):Int))=Ä from by decide,IS,sr]
 |n+1,F,(p,.nd k a)::w,d,h,i,o=>by
  have z:=o (p,.nd k a) ⋯;simp only[T.subs,Ó]at z;rw[tot]at h i;simp only[T.subs,Ó]at h i;have I:=j9 a;have H:=AX p a 0;have u:=D4 w;have J:=AV p a 0;obtain⟨g,E⟩:=rN A e n (F++[(p,.nd k a)]) (kids p 0 a++w) (À (fY (p,.nd k a))) (by rw[yO];lia) (by rw[yO];simp;lia) (λx b=>by
   rcases ì.mp b with b|b
   ·have l:∀(f:List T)(j:Int),x∈kids p j f->x.1.length=p.length+1/\x.2.subs.length<=(bM f).length:=by
     intro f
     induction f with
     |nil=>intro j b;simp[kids]at b
     |cons t r v=>
      intro j b;rw[kids]at b;rw[bM,Ý];rcases Ù.mp b with rfl|b
      ·exact⟨by simp,by simp⟩
      ·obtain⟨s,y⟩:=v _ b;exact⟨s,∅⟩
    obtain⟨s,y⟩:=l a 0 b;lia
   ·exact o x (by simp[b]))
  refine⟨g,?_⟩;have q:=AY U0 A e d (F.map fY) (w.map fY).reverse ((kids p 0 a).map fY) (fY (p,.nd k a)) (Ku p k a ∅ ∅) (aA jk) () ();have C:(((p,T.nd k a)::w).map fY).reverse=(w.map fY).reverse++[fY (p,.nd k a)]:=by simp
  have m:((w.map fY).reverse++((kids p 0 a).map fY).reverse)=((kids p 0 a++w).map fY).reverse:=by simp
  have G:F.map fY++[fY (p,T.nd k a)]=(F++[(p,T.nd k a)]).map fY:=by simp
  have D:(F++((p,T.nd k a)::w).flatMap λx=>x.2.prs x.1)=(F++[(p,.nd k a)]++(kids p 0 a++w).flatMap λx=>x.2.prs x.1):=by rw[ab5,T.prs,List.flatMap_append,<- xm];simp
  rw[m,G]at q;rw[C,D];have c:decide ((0:Int)<(((w.map fY).reverse++[fY (p,.nd k a)]).length:Int))=Ã:=by simp
  have B:cy (aj qA (ai aM #[(3)]) {0}) [e,À (.fn "placed_parts"),À (.obj A.length),À (.obj (A.length+1)),d] (A++[.lst (F.map fY),.lst ((w.map fY).reverse++[fY (p,.nd k a)])])=.ok Ã (A++[.lst (F.map fY),.lst ((w.map fY).reverse++[fY (p,.nd k a)])]):=by
   generalize(w.map fY).reverse++[fY (p,.nd k a)]=L at c
   simp_all! [aM,ak,VB,aP,c]
  rw[pC,B,IQ,Oj,q,eL,E]
theorem Gr(t:T)(c:t.subs.length<=500)(G:DH):kW [fY ([],t),.fn "placed_parts"] G=.ok (.con ((t.prs []).map fY)) G:=by
 kcf_m;obtain⟨f,e⟩:=rN G (À (fY ([],t))) fuel [] [([],t)] Æ (by simp[tot,fuel];lia) (by simp[tot];lia) (λx a=>by rw[ï.mp a];simp;lia);simp only[ĸ,Ï,Ň,adO,ã,ab5,adP,ö]at e;refine jq (R:=[.dead,.lst []]) ?_ (by rw[dQ];exact aA jk);have b:aR [] G=.ok (.obj G.length) (G++[.lst []]):=by simp[aR]
 generalize(t.prs []).map fY=L at e;generalize fY ([],t)=d at e;have h:aR [d] (G++[.lst []])=.ok (.obj (G.length+1)) (G++[.lst [],.lst [d]]):=by simp[aR,z1]
 unfold kU;simp![b,h,e]
theorem xo(t:T)(h:t.subs.length<=500)(G:DH):gj [t.d] G=.ok (.con ((t.prs []).map fY)) G:=by have a:(0:Nat)<=Ç:=ê _;have z:(2:Nat)<=Ç:=lz ∅;have e:=Gr t h G;have ep:fY ([],t)=.tup [.tup [],t.d]:=rfl;rw[ep]at e;refine gb ?_ (by rw[dQ];exact aA jk);generalize t.d=d at e;unfold je;simp![e,z]
def D5(r:List P3)(S:P3):List P3:=r.flatMap λa=>S.map λnm=>a++[nm]
def dH(S:List P3):List P3:=S.foldl D5 [[]]
theorem pU(a:List P3)(S:P3):dH (a++[S])=D5 (dH a) S:=by unfold dH;rw[ab4];rfl
theorem AZ{a:List P3}{S w:P3}:w∈D5 a S↔∃r∈a,∃nm∈S,w=r++[nm]:=by
 unfold D5;rw[adN];constructor
 ·rintro⟨r,b,h⟩;obtain⟨nm,c,e⟩:=ä.mp h;exact⟨r,b,nm,c,e.symm⟩
 ·rintro⟨r,b,nm,c,e⟩;exact⟨r,b,ä.mpr ⟨nm,c,e.symm⟩⟩
abbrev e9(f:FS):P3:=f.map (·.1)
theorem m6:∀(n:Nat)(a:List FS),a.length=n->∀w,gD a w↔w∈dH (a.map e9)
 |0,a,h,w=>by
  have:a=[]:=ĉ h;subst this;constructor
  ·intro b;have:w=[]:=ĉ b.len;subst this;simp[dH]
  ·intro c;simp[dH]at c;subst c;exact gD.nil
 |n+1,a,h,w=>by
  obtain⟨p,f,rfl⟩:∃p f,a=p++[f]:=⟨a.dropLast,a.getLast (by intro e;rw[e]at h;simp at h),(Ā _).symm⟩;have i:=m6 n p ‹h›;rw[ø,Ï,ĸ,pU,AZ];constructor
  ·intro b;obtain⟨names,nm,rfl,b,d⟩:=b.Kq;exact⟨names,(i names).mp b,nm,(dz f nm).mp d,rfl⟩
  ·rintro⟨r,b,nm,g,rfl⟩;exact((i r).mpr b).snoc ((dz f nm).mpr g)
structure cR where
 nm:Str
 kd:Str
 mix:Bool
 its:List Itm
def aL(r:cR):D:=aK r.nm r.kd r.mix r.its
structure sI(r:cR):Prop where
 two:r.its.length<=3
 wf:WF r.its
 cap:w4 r.its
 sn:Ñ r.nm=Ã
 sk:Ñ r.kd=Ã
 si:∀i∈r.its,Ñ i.nm=Ã
def rX(S:List P3)(k:Str)(r:cR):Bool:=r.kd==k&&(dH S).any (accept r.mix r.its)
def lI(p:cR->Bool)(a:P3)(r:cR):P3:=if p r=Ã/\r.nm∉a then a++[r.nm] else a
def Kv(p:cR->Bool)(r:List cR):P3:=r.foldl (lI p) []
structure NG(all:List cR)(aV:List FS)(kd:Str)(acc:FS):Prop where
 val:∀nm d,aN acc nm=À d->∃(n:Nat)(r:cR)(row:P3),all[n]?=À r/\r.nm=nm/\r.kd=kd/\gD aV row/\accept r.mix r.its row=Ã/\d=.tup [.int n,.con (row.map .str)]
theorem NH(f:FS)(nm:Str)(v:D):cF (jx f) (Sum.inr nm) v=jx (cF f nm v):=by
 have e:((jx f).any λk=>decide (k.1=Sum.inr nm))=f.any λk=>decide (k.1=nm):=by unfold jx;rw[adu];congr 1;funext p;simp only[aa0,decide_eq_decide];exact⟨acL,λe=>by rw[e]⟩
 unfold cF;rw[e];split
 ·unfold jx;rw[ĕ,ĕ];apply ŧ;intro p _;simp only[aa0];by_cases h:p.1=nm
  ·rw[Α h,Α (by rw[h])]
  ·rw[Β h,Β (λz=>h (acL z))]
 ·simp[jx]
theorem Kw{a b c d:D}:iz [a,b,c,d] 0=À a:=b9 (j:=0) rfl
theorem Ky{a b c d:D}:iz [a,b,c,d] 1=À b:=b9 (j:=1) rfl
theorem D6(c:List cR)(j:∀r∈c,sI r)(f:List FS)(Z:f.length<=250)(k:Str)(u:Ñ k=Ã)(G:DH)(ch:Nat)(L:List Nat)(C:AR G ch f L)(E:D):
  ∀(l:List (cR×Nat)),(∀p∈l,c[p.2]?=À p.1)->∀(acc:FS)(I J o:X9),acc.length+l.length<=1000->NG c f k acc ->
   ∃(b:FS)(τ:DS),NG c f k b/\e9 b=(l.map (·.1)).foldl (lI (rX (f.map e9) k)) (e9 acc)/\τ[3]?=À (À (.obj G.length)) /\
    bh (gP 4 5) bO (l.map λp=>.tup [.int p.2,aL p.1]) [À E,À (.str k),À (.obj ch),À (.obj G.length),I,J,o] (G++[.dct (jx acc)])=.nx τ (G++[.dct (jx b)])
 |[],S,acc,I,J,o,hz,m=>⟨acc,[À E,À (.str k),À (.obj ch),À (.obj G.length),I,J,o],m,rfl,rfl,by simp[bh]⟩
 |(r,n)::l,S,acc,I,J,o,hz,m=>by
  have M:=S (r,n) ⋯;dsimp only at M;have K:=j r (ç M);have N:acc.length<Ç:=Ø (by simp at hz;lia) (lz (n:=1001) ∅);have h2:(2:Nat)<=Ç:=lz ∅;have O:fG Ä (.str r.kd) (.str k) (G++[.dct (jx acc)])=.ok (.bl (r.kd==k)) (G++[.dct (jx acc)]):=by rw[iG Ä _ _ _ K.sk u,abO]
  have y:=mE acc r.nm;have g:(aN acc r.nm).isSome=Ã↔r.nm∈e9 acc:=dz acc r.nm;have T:=Gq r.nm r.kd r.mix r.its K.two K.cap K.wf.nd f Z (G++[.dct (jx acc)]) ch L C.more
  have x:∃(s:FS)(W:X9),NG c f k s/\s.length<=acc.length+1/\e9 s=lI (rX (f.map e9) k) (e9 acc) r /\
    bO [À E,À (.str k),À (.obj ch),À (.obj G.length),À (.int n),À (aL r),o] (G++[.dct (jx acc)])=.nx [À E,À (.str k),À (.obj ch),À (.obj G.length),À (.int n),À (aL r),W] (G++[.dct (jx s)]):=by
   by_cases Q:r.kd=k
   ·have h:(r.kd==k)=Ã:=‹Q›
    rw[h]at O;by_cases v:r.nm∈e9 acc
    ·refine⟨acc,o,m,∅,?_,?_⟩
     ·unfold lI;rw[Β (λz=>z.2 v)]
     ·have P:=g.mpr v;obtain⟨dv,RN⟩:=Option.isSome_iff_exists.mp P;rw[RN]at y;unfold aL aK bO;generalize(if r.mix=Ã then ("mix":Str) else "row")=w;generalize r.its.map bR=It;simp![Kw,Ky,O,gg,gf,i6,y,lS]
    ·have P:aN acc r.nm=Æ:=by
      cases q:aN acc r.nm with
      |none=>rfl
      |some d=>exact(v (g.mp (by rw[q];rfl))).elim
     rw[P]at y;rcases T with⟨a,Y,ha,i⟩|⟨V,i⟩
     ·have F:rX (f.map e9) k r=Ã:=by unfold rX;rw[h,ł,Ĝ];exact⟨a,(m6 _ f rfl a).mp Y,ha⟩
      have XJ:cF acc r.nm (.tup [.int n,.con (a.map .str)])=acc++[(r.nm,.tup [.int n,.con (a.map .str)])]:=yJ _ _ _ v;refine⟨cF acc r.nm (.tup [.int n,.con (a.map .str)]),À (.con (a.map .str)),⟨λnm d A=>?_⟩,sH _ _ _,?_,?_⟩
      ·rw[gw]at A;by_cases e:nm=r.nm
       ·rw[Α e]at A;exact⟨n,r,a,M,e.symm,Q,Y,ha,(é A).symm⟩
       ·rw[Β e]at A;exact m.val nm d A
      ·unfold lI;rw[Α ⟨F,v⟩,XJ];simp
      ·have X:wB (.tup [.int n,.con (a.map .str)]) (.obj G.length) (.str r.nm) (G++[.dct (jx acc)])=.ok .bD (G++[.dct (jx (cF acc r.nm (.tup [.int n,.con (a.map .str)])))]):=by
        unfold wB;have VN:(jx acc).length<Ç:=by simpa[jx]using N
        simp only[i6,lS,Α VN,IP,NH]
       generalize cF acc r.nm (.tup [.int n,.con (a.map .str)])=A1 at X |-;have U:aL r=aK r.nm r.kd r.mix r.its:=rfl;rw[<- U]at i;generalize a.map D.str=rw0 at i X |-;have B:∀H,aE (aL r) (.int 0) H=.ok (.str r.nm) H:=λH=>by unfold aL aK;simp![Kw]
       have t:∀H,aE (aL r) (.int 1) H=.ok (.str r.kd) H:=λH=>by unfold aL aK;simp![Ky]
       generalize aL r=R at i B t |-;unfold bO fF;simp[aY,O,gg,gf,i6,y,lS,i,fH,X,h2,B,t]
     ·have F:rX (f.map e9) k r=Ä:=by unfold rX;rw[h,ł,adD];intro w hw;rw[V w ((m6 _ f rfl w).mpr hw)];decide
      refine⟨acc,À .bD,m,∅,?_,?_⟩
      ·unfold lI;rw[Β (λz=>by rw[F]at z;exact absurd z.1 (by decide))]
      ·have U:aL r=aK r.nm r.kd r.mix r.its:=rfl;rw[<- U]at i;have B:∀H,aE (aL r) (.int 0) H=.ok (.str r.nm) H:=λH=>by unfold aL aK;simp![Kw]
       have t:∀H,aE (aL r) (.int 1) H=.ok (.str r.kd) H:=λH=>by unfold aL aK;simp![Ky]
       generalize aL r=R at i B t |-;unfold bO fF;simp[O,gg,gf,i6,y,lS,i,fH,B,t]
   ·have h:(r.kd==k)=Ä:=‹Q›
    rw[h]at O;refine⟨acc,o,m,∅,?_,?_⟩
    ·unfold lI rX;rw[h,Ÿ,Β ⋯]
    ·unfold aL aK bO;generalize(if r.mix=Ã then ("mix":Str) else "row")=w;generalize r.its.map bR=It;simp![Kw,Ky,O]
  obtain⟨s,W,k1,k2,k3,k4⟩:=x;obtain⟨b,τ,j1,j2,j3,j4⟩:=D6 c j f Z k u G ch L C E l (λp F=>S p (by simp[F])) s (À (.int n)) (À (aL r)) W (by simp at hz;lia) k1;refine⟨b,τ,j1,?_,j3,?_⟩
  ·rw[j2,k3];rfl
  ·rw[Ï,bH rfl];simp only[ß,à,k4,eL];exact j4
theorem CY(r:List cR):(r.map aL).mapIdx (λi x=>D.tup [.int i,x])=r.zipIdx.map λp=>D.tup [.int p.2,aL p.1]:=by apply Ĕ;intro i;simp only[ē,Þ,acX];cases r[i]?<;>simp
theorem U3(a:List cR)(hz:a.length<=100)(c:∀r∈a,sI r)(b:List FS)(o:b.length<=250)(k:Str)(i:Ñ k=Ã)(G:DH)(ch:Nat)(q:List Nat)(C:AR G ch b q):
  ∃f,gn [.tup (a.map aL),.str k,.obj ch] G=.ok (.obj G.length) (G++[.dct (jx f)])/\NG a b k f/\e9 f=Kv (rX (b.map e9) k) a:=by
 obtain⟨f,τ,n,m,s,j⟩:=D6 a c b o k i G ch q C (.tup (a.map aL)) a.zipIdx (λp l=>by rw[Ě]at l;simpa using l) [] Æ Æ Æ () ⟨λnm d h=>by simp[iu]at h⟩
 refine⟨f,?_,n,?_⟩
 ·rw[<- CY]at j;have e:=wM (g:=gP 4 5) (body:=bO) (xs:=a.map aL) (τ:=[À (.tup (a.map aL)),À (.str k),À (.obj ch),À (.obj G.length),Æ,Æ,Æ]) (G:=G++[.dct []]);rw[show(DO.dct [])=DO.dct (jx []) from rfl,j]at e;generalize a.map aL=R at e |-;unfold gn;rw[bQ];unfold jf
  simp_all! [MT,gZ,jX,ak]
  rw[show(DO.dct [])=DO.dct (jx []) from rfl,e]
  simp_all! [s]
 ·rw[m];unfold Kv;congr 1;simp
mutual
def bB(r:List cR):T->P3
 |.nd k p=>Kv (rX (pW r p) k) r
def pW(a:List cR):List T->List P3
 |[]=>[]
 |t::r=>bB a t::pW a r
end
theorem pX(a:List cR):∀b:List T,pW a b=b.map (bB a)
 |[]=>by rw[pW];rfl
 |t::r=>by rw[pW,pX a r,Ï]
structure U4(rs:List cR)(k:Str)(Ss:List P3)(fs:FS):Prop where
 keys:e9 fs=Kv (rX Ss k) rs
 val:∀nm d,aN fs nm=À d->∃(n:Nat)(r:cR)(row:P3),rs[n]?=À r/\r.nm=nm/\r.kd=k/\row∈dH Ss/\accept r.mix r.its row=Ã/\d=.tup [.int n,.con (row.map .str)]
abbrev PD:=List (D2×D)
mutual
def Ct(r:List cR)(H:DH)(a:PD)(p:D2):T->Prop
 |.nd k b=>(∃q f,aN a p=À (.obj q)/\H[q]?=À (.dct (jx f))/\U4 r k (pW r b) f)/\Bw r H a p 0 b
def Bw(a:List cR)(H:DH)(k:PD)(p:D2)(j:Int):List T->Prop
 |[]=>True
 |t::r=>Ct a H k (p++[j]) t/\Bw a H k p (j+1) r
end
mutual
theorem NI{r:List cR}{H H':DH}{e b:PD}(d:∀(q:Nat) o,H[q]?=À (.dct o)->H'[q]?=À (.dct o)):∀(t:T)(p:D2),(∀a,p <+: a->aN b a=aN e a)->Ct r H e p t->Ct r H' b p t
 |.nd k i,p,c,h=>by rw[Ct]at h |-;obtain⟨⟨q,f,l,j,s⟩,g⟩:=h;exact⟨⟨q,f,by rw[c p (aac p)];exact l,d q _ j,s⟩,pY d i p 0 (λm _ a n=>c a (Ŏ (ı p [m]) n)) g⟩
theorem pY{g:List cR}{H H':DH}{e a:PD}(d:∀(q:Nat) o,H[q]?=À (.dct o)->H'[q]?=À (.dct o)):∀(f:List T)(p:D2)(j:Int),(∀b,j<=b->∀k,(p++[b]) <+: k->aN a k=aN e k)->Bw g H e p j f->Bw g H' a p j f
 |[],p,j,c,h=>by rw[Bw];trivial
 |t::r,p,j,c,h=>by rw[Bw]at h |-;exact⟨NI d t (p++[j]) (c j ∅) h.1,pY d r p (j+1) (λb i=>c b ∅) h.2⟩
end
theorem sJ{p k:D2}{i j:Int}(c:(p++[i]) <+: k)(h:(p++[j]) <+: k):i=j:=by obtain⟨a,rfl⟩:=c;obtain⟨b,e⟩:=h;simp at e;exact e.1.symm
theorem gx{p:D2}{j:Int}:¬ (p++[j]) <+: p:=λh=>by have:=h.length_le;simp at this;lia
def XN:T->Prop
 |.nd k p=>Ñ k=Ã/\p.length<=250
def yY(t:T):Prop:=∀s∈t.subs,XN s
def Gu(t:List T):Prop:=∀s∈bM t,XN s
theorem yY.node{k:Str}{p:List T}(h:yY (.nd k p)):(Ñ k=Ã/\p.length<=250)/\Gu p:=
 ⟨h (.nd k p) (by rw[T.subs];simp),λs a=>h s (by rw[T.subs];simp[a])⟩
theorem Gu.cons{t:T}{r:List T}(h:Gu (t::r)):yY t/\Gu r:=⟨λs a=>h s (by rw[bM];simp[a]),λs a=>h s (by rw[bM];simp[a])⟩
def c7(nm:Str)(r:List cR):D:=.tup [.str nm,.tup (r.map aL)]
theorem Bw.kids{n:List cR}{H:DH}{m:PD}{p:D2}:∀{t:List T}{j:Int},Bw n H m p j t->∃(c:List Nat)(d:List FS),c.length=t.length/\d.length=t.length/\d.map e9=pW n t/\(∀(i q:Nat),c[i]?=À q->aN m (p++[j+(i:Int)])=À (.obj q))/\∀(i q:Nat)(f:FS),c[i]?=À q->d[i]?=À f->H[q]?=À (.dct (jx f))
 |[],j,h=>⟨[],[],rfl,rfl,by rw[pW];rfl,λi q e=>by simp at e,λi q f e=>by simp at e⟩
 |.nd k B::r,j,h=>by
  rw[Bw,Ct]at h;obtain⟨⟨⟨q,f,u,s,v⟩,_⟩,z⟩:=h;obtain⟨c,d,o,A,y,x,w⟩:=Bw.kids z;refine⟨q::c,f::d,by simp[o],by simp[A],?_,?_,?_⟩
  ·rw[Ï,y,pW,bB,v.keys]
  ·intro i l e;cases i with
   |zero=>simp at e;kpc_g;simpa using u
   |succ i=>have:=x i l ‹e›;rw[show j+((i+1:Nat):Int)=j+1+(i:Int) by lia];exact this
  ·intro i l g a b;cases i with
   |zero=>simp at a b;subst a b;exact s
   |succ i=>exact w i l g ‹a› ‹b›
theorem CZ(q:List Nat):((Ē 0 q.length).map λ(k:Nat)=>D.int (0+(k:Int))).map (λd=>match d with|.int i=>D.obj (q.getD i.toNat 0)|_=>.bD)=q.map .obj:=by
 apply Ĕ;intro i;simp only[Þ];by_cases h:i<q.length
 ·rw[List.getElem?_range' h,Í h];simp[Í h]
 ·rw[ù (),ù ∅];rfl
theorem C3(nm:Str)(g:List cR)(hz:g.length<=100)(K:∀r∈g,sI r)(A B:DH)(o:PD)(I:o.length<1000000)(p:D2)(hp:p.length<=900)(k:Str)(l:List T)(hk:Ñ k=Ã)(hps:l.length<=250)(E:D)(L:X9)(h:Bw g (A++.aO Ä (az o)::B) o p 0 l):
  ∃m Z,U4 g k (pW g l) m/\Z[1]?=À (DO.dct (jx m))/\aU [À (c7 nm g),À E,À (.obj A.length),À (cD p),À (T.nd k l).d,L] (A++.aO Ä (az o)::B)=.nx [À (c7 nm g),À E,À (.obj A.length),À (cD p),À (T.nd k l).d,À (.obj (A.length+1+B.length))] (A++.aO Ä (az (cF o p (.obj (A.length+1+B.length+1))))::(B++Z)):=by
 obtain⟨c,N,X,e2,V,e4,e5⟩:=h.kids;generalize M:A++DO.aO Ä (az o)::B=H at h e5 |-;have t:H.length=A.length+1+B.length:=by rw[<- M];simp;lia
 have U:∀e,(H++[DO.lst e])[A.length]?=À (.aO Ä (az o)):=λe=>by rw[<- M];simp
 have hr:=mS (j:=(l.length:Int)) ∅ ∅;have O:=mU (τ:=[À (c7 nm g),À E,À (.obj A.length),À (cD p),À (T.nd k l).d,L]) (G:=H) (gO:=oN) (ks:=[Ä,Ä,Ã,Ã]) (te:=i9 (3) (aj ay (4) (ai aY #[(0)]))) (own:=λx=>[x]) (f:=λd=>match d with|.int i=>D.obj (c.getD i.toNat 0)|_=>.bD) ((Ē 0 c.length).map λ(k:Nat)=>D.int (0+(k:Int))) [] () (λx _=>rfl) (λx hx e=>by
  obtain⟨i,hi,rfl⟩:=ä.mp hx;have v:i<c.length:=by rw[adE]at hi;lia
  have hq:c[i]?=À (c[i]):=Í v;have hv:=e4 i _ hq;kcf_m;have F:ay (cD p) (.tup [.int (0+(i:Int))]) (H++[.lst e])=.ok (cD (p++[0+(i:Int)])) (H++[.lst e]):=by unfold cD;rw[D3 _ _ _ (lz ())];simp
  have YU:lZ (.obj A.length) (cD (p++[0+(i:Int)])) (H++[.lst e])=.ok (.obj c[i]) (H++[.lst e]):=by unfold lZ;rw[mw];k_in;rw[U];k_in;rw[mZ,hv]
  have hf:(match D.int (0+(i:Int))with|.int i=>D.obj (c.getD i.toNat 0)|_=>.bD)=D.obj c[i]:=by simp[v]
  rw[hf];generalize cD (p++[0+(i:Int)])=P1 at F YU;generalize cD p=P0 at F |-;rw[acy]at F;simp[mask,aY,z1,F,YU])
 rw[CZ,ã]at O;have C:AR (H++[.lst (c.map .obj)]) H.length N c:=by refine⟨lS _ _ _,by rw[X,e2],λi q m a b=>aH (e5 i q m a b)⟩
 obtain⟨m,z,f2,W⟩:=U3 g hz K N ∅ k hk (H++[.lst (c.map .obj)]) H.length c C;rw[V]at W;refine⟨m,[.lst (c.map .obj),.dct (jx m)],⟨W,λnm d hd=>?_⟩,rfl,?_⟩
 ·obtain⟨n,r,w,g1,g2,g3,g4,g5,g6⟩:=f2.val nm d hd;exact⟨n,r,w,g1,g2,g3,by rw[<- V];exact(m6 _ N rfl w).mp g4,g5,g6⟩
 ·have J:(H++[DO.lst (c.map .obj)]).length=A.length+1+B.length+1:=by simp[t]
  rw[J]at z;have s:gc (.obj (A.length+1+B.length+1)) (.obj A.length) (cD p) (H++[.lst (c.map .obj)]++[.dct (jx m)])=.ok .bD (A++.aO Ä (az (cF o p (.obj (A.length+1+B.length+1))))::(B++[.lst (c.map .obj),.dct (jx m)])):=by
   have h0:o.length<Ç:=Ø I (lz (n:=1000000) ∅);have eh:H++[DO.lst (c.map .obj)]++[.dct (jx m)]=A++.aO Ä (az o)::(B++[.lst (c.map .obj),.dct (jx m)]):=by rw[<- M];simp
   rw[eh];unfold gc;rw[mw];k_in;rw[lS];k_in;rw[Α (by simpa[j8]using h0),IP,pS]
  rw[<- t]at s z |-;have R:(dL l).length=l.length:=by rw[om,Û]
  have Y:fc [.int ((dL l).length:Int)]=À ((Ē 0 c.length).map λ(k:Nat)=>D.int (0+(k:Int))):=by rw[R,hr,X];simp
  have y:dD fc oN [Ä,Ä,Ã,Ã] #[ai aM #[(4)\{1}]] dw (i9 (3) (aj ay (4) (ai aY #[(0)]))) [À (c7 nm g),À E,À (.obj A.length),À (cD p),À (T.nd k l).d,L] H=.ok (.obj H.length) (H++[.lst (c.map .obj)]):=by
   rw[<- O];rw[T.d]at O |-;generalize dL l=dl at Y |-
   simp_all! [tR,aE,ak,uD,aM,Y]
  have u:∀G,aE (c7 nm g) (.int 1) G=.ok (.tup (g.map aL)) G:=λG=>by unfold c7;simp![uD]
  have Sq:∀G,aE (T.nd k l).d (.int 0) G=.ok (.str k) G:=λG=>by rw[T.d];simp![yG]
  generalize g.map aL=RS at z u;generalize c7 nm g=S at y u |-;generalize(T.nd k l).d=td at y Sq |-;generalize cD p=P at y s |-;generalize c.map D.obj=Q at y z s |-;unfold aU
  simp_all! [y,uq,u,Sq,z,s,lC]
structure OA(rs:List cR)(A B:DH)(kv kv':PD)(B':DH)(P:D2->Prop)(n:Nat):Prop where
 out:∀key,¬ P key->aN kv' key=aN kv key
 len:kv'.length<=kv.length+n
theorem A2{A B b:DH}{c k:PD}:∀(q:Nat) o,(A++DO.aO Ä (az c)::B)[q]?=À (.dct o)->(A++DO.aO Ä (az k)::(B++b))[q]?=À (.dct o):=by
 intro q o h;by_cases a:q<A.length
 ·rw[Î a]at h |-;l_fit
 ·rw[Ò ∅]at h |-;cases hq:q-A.length with
  |zero=>rw[hq]at h;simp at h
  |succ i=>rw[hq,ň]at h;rw[ň];exact aH h
mutual
theorem OB(nm:Str)(i:List cR)(hz:i.length<=100)(n:∀r∈i,sI r)(A:DH)(y:D):∀(t:T)(p:D2)(B:DH)(o:PD)(C u s:X9)(a:X2),yY t->p.length+t.subs.length<=900->o.length+t.subs.length<1000000 ->
  ∃(f:PD)(q:DH)(E G v:X9),OA i A B o f q (λb=>p <+: b) t.subs.length/\Ct i (A++.aO Ä (az f)::(B++q)) f p t /\
   bh (gP 3 4) aU ((t.prs p).reverse.map fY++a) [À (c7 nm i),À y,À (.obj A.length),C,u,s] (A++.aO Ä (az o)::B)=bh (gP 3 4) aU a [À (c7 nm i),À y,À (.obj A.length),E,G,v] (A++.aO Ä (az f)::(B++q))
 |.nd k m,p,B,o,C,u,s,a,Q,R,J=>by
  obtain⟨⟨z,S⟩,w⟩:=Q.node;rw[T.subs,Ó]at R J;obtain⟨U,c,E,G,v,x,F,H⟩:=OC nm i hz n A y m p 0 B o C u s (fY (p,.nd k m)::a) w ∅ ∅;obtain⟨I,L,V,K,O⟩:=C3 nm i hz n A (B++c) U (by have:=x.len;lia) p ∅ k m z ∅ y v F;refine⟨cF U p (.obj (A.length+1+(B++c).length+1)),c++L,À (cD p),À (T.nd k m).d,À (.obj (A.length+1+(B++c).length)),⟨λb h=>?_,?_⟩,?_,?_⟩
  ·have l:b≠p:=λe=>h (by rw[e];exact aac p);rw[gw,Β l];exact x.out b λN=>by obtain⟨j,_,P⟩:=N;exact h (Ŏ (ı p [j]) P)
  ·have:=sH U p (.obj (A.length+1+(B++c).length+1));have:=x.len;rw[T.subs,Ó];lia
  ·rw[Ct];refine⟨⟨A.length+1+(B++c).length+1,I,by rw[gw,Α rfl],?_,V⟩,?_⟩
   ·rw[<- â,Ò ∅];have:A.length+1+(B++c).length+1-A.length=(B++c).length+1+1:=∅
    rw[this,ň,Ò ∅];rw[show(B++c).length+1-(B++c).length=1 by lia];exact K
   ·rw[<- â];refine pY A2 m p 0 (λM _ b g=>?_) F;have l:b≠p:=λe=>gx (p:=p) (j:=M) (by rw[e]at g;exact g);rw[gw,Β l]
  ·rw[T.prs,Ň,ø,Ï,ĸ,â,acK,H];have ep:fY (p,T.nd k m)=.tup [cD p,(T.nd k m).d]:=rfl;rw[ep,bH rfl];simp only[ß,à,O,eL,â]
theorem OC(nm:Str)(d:List cR)(hz:d.length<=100)(g:∀r∈d,sI r)(A:DH)(y:D):∀(f:List T)(p:D2)(j:Int)(B:DH)(e:PD)(n l o:X9)(a:X2),Gu f->p.length+1+(bM f).length<=900->e.length+(bM f).length<1000000 ->
  ∃(b:PD)(q:DH)(w C v:X9),OA d A B e b q (λk=>∃i,j<=i/\(p++[i]) <+: k) (bM f).length/\Bw d (A++.aO Ä (az b)::(B++q)) b p j f /\
   bh (gP 3 4) aU ((qT p j f).reverse.map fY++a) [À (c7 nm d),À y,À (.obj A.length),n,l,o] (A++.aO Ä (az e)::B)=bh (gP 3 4) aU a [À (c7 nm d),À y,À (.obj A.length),w,C,v] (A++.aO Ä (az b)::(B++q))
 |[],p,j,B,e,n,l,o,a,G,H,E=>by
  refine⟨e,[],n,l,o,⟨λ_ _=>rfl,∅⟩,?_,?_⟩
  ·rw[Bw];trivial
  ·rw[qT];simp
 |t::r,p,j,B,e,n,l,o,a,G,H,E=>by
  obtain⟨z,X⟩:=G.cons;rw[bM,Ý]at H E;obtain⟨U,F,w,C,v,x,P,I⟩:=OC nm d hz g A y r p (j+1) B e n l o ((t.prs (p++[j])).reverse.map fY++a) X ∅ ∅;obtain⟨u,L,N,K,R,s,J,Q⟩:=OB nm d hz g A y t (p++[j]) (B++F) U w C v a z () (by have:=x.len;lia);refine⟨u,F++L,N,K,R,⟨λk c=>?_,?_⟩,?_,?_⟩
  ·rw[s.out k λh=>c ⟨j,∅,h⟩,x.out k λM=>by obtain⟨i,O,h⟩:=M;exact c ⟨i,∅,h⟩]
  ·have:=x.len;have:=s.len;rw[bM,Ý];lia
  ·rw[<- â,Bw];refine⟨J,pY A2 r p (j+1) (λi O k m=>s.out k λh=>?_) P⟩;have:=sJ m h;lia
  ·rw[qT,ac6,ø,â,I,Q,â]
end
theorem mG(nm:Str)(a:List cR)(hz:a.length<=100)(h:∀r∈a,sI r)(t:T)(j:yY t)(i:t.subs.length<=500)(G:DH):
  ∃(k:PD)(B:DH),Ct a (G++.aO Ä (az k)::B) k [] t/\cL [c7 nm a,t.d] G=.ok (.obj G.length) (G++.aO Ä (az k)::B):=by
 obtain⟨k,B,c,l,m,s,f,b⟩:=OB nm a hz h G t.d t [] [] [] Æ Æ Æ [] j () ();refine⟨k,B,f,?_⟩;have p:=xo t i (G++[.aO Ä []]);have e:=DG (g:=gP 3 4) (body:=aU) (xs:=(t.prs []).map fY) (τ:=[À (c7 nm a),À t.d,À (.obj G.length),Æ,Æ,Æ]) (G:=G++[.aO Ä []]);rw[ö,ack,bh,ã]at b;have y:bh (gP 3 4) aU ((t.prs []).map fY).reverse [À (c7 nm a),À t.d,À (.obj G.length),Æ,Æ,Æ] (G++[.aO Ä []])=.nx [À (c7 nm a),À t.d,À (.obj G.length),c,l,m] (G++.aO Ä (az k)::B):=b;rw[y]at e;generalize c7 nm a=S at e |-;generalize t.d=n at e p |-;generalize(t.prs []).map fY=L at e p;unfold cL;rw[bQ];unfold gp
 simp_all! [j0,gZ,Jp,p,ak,e]
theorem iw:∀(n:Nat)(a:List P3),a.length=n->∀w,w∈dH a↔(w.length=a.length/\∀(i:Nat)(S:P3)(nm:Str),a[i]?=À S->w[i]?=À nm->nm∈S)
 |0,a,h,w=>by have:a=[]:=ĉ h;subst this;simp[dH]
 |n+1,a,h,w=>by
  obtain⟨p,S,rfl⟩:∃p q,a=p++[q]:=⟨a.dropLast,a.getLast (by intro e;rw[e]at h;simp at h),(Ā _).symm⟩;have s:p.length=n:=‹h›
  have o:=iw n p s;rw[pU,AZ];constructor
  ·rintro⟨r,t,nm,u,rfl⟩;obtain⟨f,g⟩:=(o r).mp t;refine⟨by simp[f],λi m K b d=>?_⟩;by_cases k:i<p.length
   ·rw[Î k]at b;rw[Î ∅]at d;exact g i m K b d
   ·have l:i<(p++[S]).length:=(Â.mp b).1;have:i=p.length:=by simp at l;lia
    subst this;rw[Ò (Ë _)]at b;rw[<- f,Ò (Ë _)]at d;simp at b d;subst b d;exact u
  ·rintro⟨f,g⟩;have c:w≠[]:=by intro e;rw[e]at f;simp at f
   have Y:w.dropLast.length=p.length:=by simp at f |-;lia
   have j:=(Ā c);refine⟨w.dropLast,(o _).mpr ⟨Y,λi m K b d=>?_⟩,w.getLast c,?_,j.symm⟩
   ·have k:i<p.length:=(Â.mp b).1;refine g i m K (by rw[Î k];exact b) ?_;rw[<- j,Î ∅];exact d
   ·refine g p.length S _ ⋯ ?_;have:(w.dropLast++[w.getLast c])[p.length]?=À (w.getLast c):=by rw[<- Y];simp
    rw[j]at this;exact this
theorem Gv{S:P3}{d:List P3}{w:P3}(h:w∈dH (S::d)):∃nm a,w=nm::a/\nm∈S/\a∈dH d:=by
 obtain⟨c,b⟩:=(iw _ _ rfl w).mp h;cases w with
 |nil=>simp at c
 |cons nm a=>refine⟨nm,a,rfl,b 0 S nm rfl rfl,(iw _ _ rfl a).mpr ⟨‹c›,λi f K g e=>b (i+1) f K ‹g› ‹e›⟩⟩
theorem KC{w:P3}(h:w∈dH []):w=[]:=by simpa[dH]using h
theorem KG{S:List P3}{w:P3}(h:w∈dH S):w.length=S.length:=((iw _ _ rfl w).mp h).1
mutual
def uR(b:List cR):T->D2->Str->PD->Prop
 |.nd k c,p,nm,ms=>∃(n:Nat)(r:cR)(a:P3)(m:PD),b[n]?=À r/\r.nm=nm/\r.kd=k/\accept r.mix r.its a=Ã/\oq b c p 0 a m/\ms=(p,.int n)::m
def oq(b:List cR):List T->D2->Int->P3->PD->Prop
 |[],_,_,a,ms=>a=[]/\ms=[]
 |t::r,p,j,a,ms=>∃(nm:Str)(f:P3)(c m:PD),a=nm::f/\uR b t (p++[j]) nm c/\oq b r p (j+1) f m/\ms=c++m
end
mutual
theorem uR.keys{e:List cR}:∀(t:T)(p:D2)(nm:Str)(ms:PD),uR e t p nm ms->(∀q∈ms,p <+: q.1)/\ms.length=t.subs.length
 |.nd k f,p,nm,ms,h=>by
  rw[uR]at h;obtain⟨n,r,a,m,s,o,u,l,g,rfl⟩:=h;obtain⟨i,d⟩:=oq.keys f p 0 a m g;refine⟨λq b=>?_,by rw[T.subs];simp[d]⟩;rcases Ù.mp b with rfl|b
  ·exact aac p
  ·obtain⟨j,_,c⟩:=i q b;exact Ŏ (ı p [j]) c
theorem oq.keys{s:List cR}:∀(d:List T)(p:D2)(j:Int)(a:P3)(ms:PD),oq s d p j a ms->(∀q∈ms,∃c,j<=c/\(p++[c]) <+: q.1)/\ms.length=(bM d).length
 |[],p,j,a,ms,h=>by rw[oq]at h;obtain⟨rfl,rfl⟩:=h;exact⟨λq b=>by simp at b,by rw[bM];rfl⟩
 |t::r,p,j,a,ms,h=>by
  rw[oq]at h;obtain⟨nm,f,u,m,rfl,i,g,rfl⟩:=h;obtain⟨k,o⟩:=uR.keys t (p++[j]) nm u i;obtain⟨l,e⟩:=oq.keys r p (j+1) f m g;refine⟨λq b=>?_,by rw[bM,Ý,Ý,o,e]⟩;rcases ì.mp b with b|b
  ·exact⟨j,∅,k q b⟩
  ·obtain⟨c,v,n⟩:=l q b;exact⟨c,∅,n⟩
end
theorem qU{g:kh}{body:MS}{xs:X2}{τ:DS}{G:DH}:ng g body (oZ (.con xs)) (xs.length+1) 0 τ G=bh g body (xs.mapIdx λi x=>.tup [.int i,x]) τ G:=by
 have:=i8 (g:=g) (body:=body) (xs:=xs.mapIdx λi x=>D.tup [.int i,x]) (vw:=oZ (.con xs)) (λG i h=>by simp only[abJ]at h;simp only[oZ,ak,ē]) (xs.length+1) 0 τ G ⋯ ⋯
 f_are
theorem D8(v:D)(c:D2)(A B:DH)(L:PD)(h:L.length<1000000):gc v (.obj A.length) (cD c) (A++.aO Ä (az L)::B)=.ok .bD (A++.aO Ä (az (cF L c v))::B):=by have a:L.length<Ç:=Ø h (lz (n:=1000000) ∅);unfold gc;rw[mw];k_in;rw[lS];k_in;rw[Α (by simpa[j8]using a),IP,pS]
theorem uS(A B:DH)(p:D2)(H:p.length<=900)(g d f b m l c:X9):∀(r:P3)(j:Nat)(n:PD)(q o:X9),n.length+r.length<1000000 ->
  ∃(u:PD)(t v:X9),(∀k,(∀i:Nat,i<r.length->k≠p++[((j+i:Nat):Int)])->aN u k=aN n k)/\(∀(i:Nat) nm,r[i]?=À nm->aN u (p++[((j+i:Nat):Int)])=À (.str nm))/\u.length<=n.length+r.length /\
   bh (gP 9 10) gT ((r.map D.str).mapIdx λi x=>.tup [.int ((j+i:Nat):Int),x]) [g,d,f,b,À (.obj A.length),m,À (cD p),l,c,q,o] (A++.aO Ä (az n)::B)=.nx [g,d,f,b,À (.obj A.length),m,À (cD p),l,c,t,v] (A++.aO Ä (az u)::B)
 |[],j,n,q,o,h=>⟨n,q,o,λ_ _=>rfl,λi nm e=>by simp at e,by simp,by simp[bh]⟩
 |nm::r,j,n,q,o,h=>by
  simp only[Ó]at h;have J:=sH n (p++[(j:Int)]) (.str nm);obtain⟨u,t,v,z,E,L,G⟩:=uS A B p H g d f b m l c r (j+1) (cF n (p++[(j:Int)]) (.str nm)) (À (.int j)) (À (.str nm)) ∅;refine⟨u,t,v,λk y=>?_,λi K e=>?_,by simp only[Ó];lia,?_⟩
  ·rw[z k λi C e=>y (i+1) () (by rw[e,show j+1+i=j+(i+1) by lia]),gw,Β (by have:=y 0 ⋯;simpa using this)]
  ·cases i with
   |zero=>simp at e;kpc_g;rw[z _ λi C e=>?_,adw,gw,Α rfl];have:=aaE e;simp at this;lia
   |succ i=>rw[show j+(i+1)=j+1+i by lia];exact E i K ‹e›
  ·have F:((nm::r).map D.str).mapIdx (λi x=>D.tup [.int ((j+i:Nat):Int),x])=.tup [.int (j:Int),.str nm]::(r.map D.str).mapIdx λi x=>.tup [.int ((j+1+i:Nat):Int),x]:=by rw[Ï,aab];congr 1;apply Ĕ;intro i;simp only[ē];congr 1;funext x;rw[show j+(i+1)=j+1+i by lia]
   rw[F,bH rfl];k_all;kcf_m;have w:ay (cD p) (.tup [.int (j:Int)]) (A++.aO Ä (az n)::B)=.ok (cD (p++[(j:Int)])) (A++.aO Ä (az n)::B):=by unfold cD;rw[D3 _ _ _ (lz ())];simp
   have a:=D8 (.str nm) (p++[(j:Int)]) A B n ∅;have s:gT [g,d,f,b,À (.obj A.length),m,À (cD p),l,c,À (.int j),À (.str nm)] (A++.aO Ä (az n)::B)=.nx [g,d,f,b,À (.obj A.length),m,À (cD p),l,c,À (.int j),À (.str nm)] (A++.aO Ä (az (cF n (p++[(j:Int)]) (.str nm)))::B):=by generalize cF n (p++[(j:Int)]) (.str nm)=N at a |-;generalize cD (p++[(j:Int)])=I at w a;generalize cD p=P at w |-;unfold gT;simp[aY,z1,w,a]
   rw[s,eL];exact G
theorem jz{G:DH}{n:Nat}{f:Bool}{L:PD}{c:D2}{v:D}(h:G[n]?=À (.aO f (az L)))(a:aN L c=À v):lZ (.obj n) (cD c) G=.ok v G:=by unfold lZ;rw[mw];k_in;rw[h];k_in;rw[mZ,a]
theorem NJ{G:DH}{n:Nat}{f:FS}{nm:Str}{v:D}(h:G[n]?=À (.dct (jx f)))(a:aN f nm=À v):Jy (.obj n) (.str nm) G=.ok v G:=by simp only[Jy,gf,h,i6,mE,a]
theorem Gw(A:DH)(c:Nat)(I:PD)(O:A[c]?=À (.aO Ä (az I)))(q:Nat)(H:FS)(p:D2)(V:p.length<=900)(T:aN I p=À (.obj q))(Q:A[q]?=À (.dct (jx H)))(nm:Str)(n:Nat)(r:P3)(S:aN H nm=À (.tup [.int n,.con (r.map .str)]))
  (a m:PD) (E:aN a p=À (.str nm)) (z:a.length+r.length<1000000) (s:m.length<1000000) (C:p∉m.map (·.1)) (f h j:X9) (t:D) (U B l:X9):
  ∃(u:PD)(w y:X9),(∀k,(∀i:Nat,i<r.length->k≠p++[(i:Int)])->aN u k=aN a k)/\(∀(i:Nat) nm,r[i]?=À nm->aN u (p++[(i:Int)])=À (.str nm))/\u.length<=a.length+r.length /\
   eV [f,h,j,À (.obj c),À (.obj A.length),À (.obj (A.length+1)),À (cD p),À t,U,B,l] (A++[.aO Ä (az a),.aO Ä (az m)]) =
    .nx [f,h,j,À (.obj c),À (.obj A.length),À (.obj (A.length+1)),À (cD p),À t,À (.tup [.int n,.con (r.map .str)]),w,y] (A++[.aO Ä (az u),.aO Ä (az (m++[(p,.int n)]))]):=by
 obtain⟨u,w,y,K,F,N,L⟩:=uS A [.aO Ä (az (m++[(p,.int n)]))] p V f h j (À (.obj c)) (À (.obj (A.length+1))) (À t) (À (.tup [.int n,.con (r.map .str)])) r 0 a B l z;simp only[İ]at K F L;refine⟨u,w,y,K,F,N,?_⟩;have M:lZ (.obj c) (cD p) (A++[.aO Ä (az a),.aO Ä (az m)])=.ok (.obj q) (A++[.aO Ä (az a),.aO Ä (az m)]):=jz (aH O) T;have J:lZ (.obj A.length) (cD p) (A++[.aO Ä (az a),.aO Ä (az m)])=.ok (.str nm) (A++[.aO Ä (az a),.aO Ä (az m)]):=jz (lS _ _ _) E;have x:Jy (.obj q) (.str nm) (A++[.aO Ä (az a),.aO Ä (az m)])=.ok (.tup [.int n,.con (r.map .str)]) (A++[.aO Ä (az a),.aO Ä (az m)]):=NJ (aH Q) S;have b:=D8 (.int n) p (A++[.aO Ä (az a)]) [] m s;rw[yJ m p (.int n) C]at b;simp only[Ý,Ó,ď,â,ħ,ã,İ]at b;have e:=qU (g:=gP 9 10) (body:=gT) (xs:=r.map D.str) (τ:=[f,h,j,À (.obj c),À (.obj A.length),À (.obj (A.length+1)),À (cD p),À t,À (.tup [.int n,.con (r.map .str)]),B,l]) (G:=A++[.aO Ä (az a),.aO Ä (az (m++[(p,.int n)]))]);rw[L]at e;have o:∀G,aE (.tup [.int n,.con (r.map .str)]) (.int 0) G=.ok (.int n) G:=λG=>by simp![yG]
 have v:∀G,aE (.tup [.int n,.con (r.map .str)]) (.int 1) G=.ok (.con (r.map .str)) G:=λG=>by simp![uD]
 generalize r.map D.str=R at x e o v |-;generalize D.tup [.int (n:Int),.con R]=d at x e o v |-;generalize cD p=P at M J b e |-;generalize az (m++[(p,D.int (n:Int))])=W at b e |-;unfold eV
 simp_all! [M4,kP,M,J,x,uq,o,b,lC,gZ,jX,v,ak,e]
mutual
theorem KH(y:List cR)(A:DH)(c:Nat)(B:PD)(V:A[c]?=À (.aO Ä (az B)))(x C D:X9):∀(t:T)(p:D2)(nm:Str)(l m:PD)(R W M P E:X9)(f:X2),Ct y A B p t->nm∈bB y t->aN l p=À (.str nm)->(∀a∈m.map (·.1),¬ p <+: a)->p.length+t.subs.length<=900->l.length+t.subs.length<=1000000->m.length+t.subs.length<1000000 ->
  ∃(H ms:PD)(O L F J K:X9),uR y t p nm ms/\(∀a,¬ (p <+: a/\a≠p)->aN H a=aN l a)/\H.length+1<=l.length+t.subs.length /\
   bh (gP 6 7) eV ((t.prs p).map fY++f) [x,C,D,À (.obj c),À (.obj A.length),À (.obj (A.length+1)),R,W,M,P,E] (A++[.aO Ä (az l),.aO Ä (az m)]) =
    bh (gP 6 7) eV f [x,C,D,À (.obj c),À (.obj A.length),À (.obj (A.length+1)),O,L,F,J,K] (A++[.aO Ä (az H),.aO Ä (az (m++ms))])
 |.nd k s,p,nm,l,m,R,W,M,P,E,f,u,S,hn,v,hp,N,G=>by
  rw[Ct]at u;obtain⟨⟨q,I,h1,h2,U⟩,h4⟩:=u;rw[T.subs,Ó]at hp N G;have Q:=j9 s;have b:nm∈e9 I:=by rw[U.keys];rw[bB]at S;exact S
  obtain⟨d,Y⟩:=Option.isSome_iff_exists.mp ((dz I nm).mpr b);obtain⟨n,r,g,g1,g2,g3,Z,g5,rfl⟩:=U.val nm d Y;have hrl:g.length=s.length:=by rw[KG Z,pX,Û]
  obtain⟨XQ,q9,XR,k1,k2,k3,k4⟩:=Gw A c B V q I p ∅ h1 h2 nm n g Y l m hn ∅ ∅ (λz=>v p z (aac p)) x C D (T.nd k s).d M P E;obtain⟨XS,ms,O,L,F,J,K,j1,j2,j3,j4⟩:=KI y A c B V x C D s p 0 g XQ (m++[(p,.int n)]) (À (cD p)) (À (T.nd k s).d) (À (.tup [.int n,.con (g.map .str)])) q9 XR f h4 Z (λi Kz e=>by simpa using k2 i Kz e) (λa o w _ h=>by
   rw[ø,ì]at o;rcases o with o|o
   ·exact v a o (Ŏ (ı p [w]) h)
   ·simp at o;subst o;exact gx h) ∅ ∅ ()
  refine⟨XS,(p,.int n)::ms,O,L,F,J,K,?_,?_,?_,?_⟩
  ·rw[uR];exact⟨n,r,g,ms,g1,g2,g3,g5,j1,rfl⟩
  ·intro a b;rw[j2 a λzz=>by obtain⟨w,_,h,_⟩:=zz;exact b ⟨Ŏ (ı p [w]) h,λe=>gx (p:=p) (j:=w) (by rw[e]at h;exact h)⟩];refine k1 a λi hi e=>b ⟨by rw[e];exact ı p _,λX=>?_⟩;rw[e]at X;simp at X
  ·rw[T.subs,Ó];lia
  ·rw[T.prs,Ï,ħ];have ep:fY (p,T.nd k s)=.tup [cD p,(T.nd k s).d]:=rfl;rw[ep,bH rfl];simp only[ß,à,k4,eL];rw[j4,â,acK]
theorem KI(B:List cR)(A:DH)(c:Nat)(F:PD)(Y:A[c]?=À (.aO Ä (az F)))(E G H:X9):∀(f:List T)(p:D2)(j:Int)(b:P3)(n m:PD)(u y C D v:X9)(a:X2),Bw B A F p j f->b∈dH (pW B f)->(∀(i:Nat) nm,b[i]?=À nm->aN n (p++[j+(i:Int)])=À (.str nm))->(∀k∈m.map (·.1),∀d,j<=d->¬ (p++[d]) <+: k)->p.length+1+(bM f).length<=900->n.length+(bM f).length<1000000+f.length->m.length+(bM f).length<1000000 ->
  ∃(N ms:PD)(W U J O S:X9),oq B f p j b ms/\(∀k,¬ (∃d,j<=d/\(p++[d]) <+: k/\k≠p++[d])->aN N k=aN n k)/\N.length+f.length<=n.length+(bM f).length /\
   bh (gP 6 7) eV ((qT p j f).map fY++a) [E,G,H,À (.obj c),À (.obj A.length),À (.obj (A.length+1)),u,y,C,D,v] (A++[.aO Ä (az n),.aO Ä (az m)]) =
    bh (gP 6 7) eV a [E,G,H,À (.obj c),À (.obj A.length),À (.obj (A.length+1)),W,U,J,O,S] (A++[.aO Ä (az N),.aO Ä (az (m++ms))])
 |[],p,j,b,n,m,u,y,C,D,v,a,g,z,K,q,hp,s,w=>by rw[pW]at z;have:=KC z;subst this;refine⟨n,[],u,y,C,D,v,by rw[oq];exact⟨rfl,rfl⟩,λ_ _=>rfl,by simp,?_⟩;rw[qT];simp
 |t::r,p,j,b,n,m,u,y,C,D,v,a,g,z,K,q,hp,s,w=>by
  rw[Bw]at g;rw[pW]at z;rw[bM,Ý]at hp s w;rw[Ó]at s;have hlr:=j9 r;obtain⟨nm,fZ,rfl,hm,P⟩:=Gv z;obtain⟨XQ,M,q6,q7,q8,q9,XR,k1,k2,k3,k4⟩:=KH B A c F Y E G H t (p++[j]) nm n m u y C D v ((qT p (j+1) r).map fY++a) g.1 hm ‹K 0 nm rfl› (λk o=>q k o j ∅) () ∅ ∅;obtain⟨X,Q⟩:=uR.keys t _ _ _ k1;obtain⟨XS,m2,W,U,J,O,S,j1,j2,j3,j4⟩:=KI B A c F Y E G H r p (j+1) fZ XQ (m++M) q6 q7 q8 q9 XR a g.2 P (λi Kz e=>by
   have Z:=K (i+1) Kz ‹e›;rw[show j+((i+1:Nat):Int)=j+1+(i:Int) by lia]at Z;have V:¬ ((p++[j]) <+: (p++[j+1+(i:Int)])/\p++[j+1+(i:Int)]≠p++[j]):=λL=>by obtain⟨h,_⟩:=L;have he:=h.eq_of_length ⋯;have:=aaE he;simp at this;lia
   rw[k2 _ V];exact Z) (λk o d hj h=>by
   rw[ø,ì]at o;rcases o with o|o
   ·exact q k o d ∅ h
   ·obtain⟨x,hx,rfl⟩:=ä.mp o;have:=sJ (X x hx) h;lia) ∅ ∅ (by simp[Q];lia)
  refine⟨XS,M++m2,W,U,J,O,S,?_,?_,?_,?_⟩
  ·rw[oq];exact⟨nm,fZ,M,m2,rfl,k1,j1,rfl⟩
  ·intro k l;rw[j2 k λL=>by obtain⟨d,hj,R,I⟩:=L;exact l ⟨d,∅,R,I⟩,k2 k λ⟨R,I⟩=>l ⟨j,∅,R,I⟩]
  ·rw[bM,Ý,Ó];lia
  ·rw[qT,ø,â,k4,j4,â]
end
theorem Ct.root{r:List cR}{H:DH}{a:PD}{p:D2}{t:T}(h:Ct r H a p t):∃q f,aN a p=À (.obj q)/\H[q]?=À (.dct (jx f))/\e9 f=bB r t:=by
 cases t with
 |nd k ps=>rw[Ct]at h;obtain⟨⟨q,f,c,b,d⟩,_⟩:=h;exact⟨q,f,c,b,by rw[bB];exact d.keys⟩
def GU:Option Str->D
 |none=>.bD
 |some n=>.str n
theorem mH(n0:Str)(b:List cR)(hz:b.length<=100)(u:∀r∈b,sI r)(t:T)(Q:yY t)(A:t.subs.length<=500)(o:Option Str)(G:DH):
  (o.getD n0∈bB b t/\∃(ms:PD)(R:DH)(m:Nat),uR b t [] (o.getD n0) ms/\(G++R)[m]?=À (.aO Ä (az ms))/\dm [c7 n0 b,t.d,GU o] G=.ok (.obj m) (G++R)) \/
  (o.getD n0∉bB b t/\∃(R:DH)(M:X2),dm [c7 n0 b,t.d,GU o] G=.bP (.mk "NoShape" M) (G++R)):=by
 obtain⟨k,B,v,e⟩:=mG n0 b hz u t Q A G;generalize z:G++DO.aO Ä (az k)::B=a at v e;have y:a[G.length]?=À (.aO Ä (az k)):=by rw[<- z,lS]
 obtain⟨q,g,P,I,E⟩:=v.root;kcf_m;have n:=yL (.str (o.getD n0)) [] a [] ⋯;have H:cF ([]:PD) [] (D.str (o.getD n0))=[([],.str (o.getD n0))]:=rfl;rw[H]at n;have F:az []=[]:=rfl;rw[F]at n;have x:cD []=D.tup []:=rfl;have p:∀G,aE (c7 n0 b) (.int 0) G=.ok (.str n0) G:=λG=>by unfold c7;simp![yG]
 have Y:∀τ G,HU (cy (aj (fH Ä) (2) (eC .bD))) ((0)\{0}) (2) (À (c7 n0 b)::À t.d::À (GU o)::τ) G=.ok (.str (o.getD n0)) G:=by
  intro τ G;generalize c7 n0 b=S at p |-;cases o with
  |none=>simp[GU,fH,p]
  |some nm=>simp[GU,fH]
 generalize V:o.getD n0=nm at n Y |-;have c:∀τ,l7 (ai aY #[]) (HU (cy (aj (fH Ä) (2) (eC .bD))) ((0)\{0}) (2)) (À (c7 n0 b)::À t.d::À (GU o)::τ) a=.ok (.obj a.length) (a++[.aO Ä (az [([],.str nm)])]):=by
  intro τ;gn_on;rw[x]at n;rw[JU]
  simp_all! [aY,Α h0,Y,n]
 have C:lZ (.obj a.length) (.tup []) (a++[.aO Ä (az [([],.str nm)])])=.ok (.str nm) (a++[.aO Ä (az [([],.str nm)])]):=by rw[<- x];exact jz (lS _ _ _) (by simp[cM])
 have w:lZ (.obj G.length) (.tup []) (a++[.aO Ä (az [([],.str nm)])])=.ok (.obj q) (a++[.aO Ä (az [([],.str nm)])]):=by rw[<- x];exact jz (aH y) P
 have i:(a++[DO.aO Ä (az [([],.str nm)])])[q]?=À (.dct (jx g)):=aH I;have U:a=G++(DO.aO Ä (az k)::B):=z.symm;by_cases l:nm∈bB b t
 ·refine .inl ?_;refine⟨l,?_⟩;have f:(aN g nm).isSome=Ã:=(dz g nm).mpr (show nm∈e9 g by rw[E];exact l);obtain⟨dv,O⟩:=Option.isSome_iff_exists.mp f;have h:gg (.str nm) (.obj q) (a++[.aO Ä (az [([],.str nm)])])=.ok (.bl Ä) (a++[.aO Ä (az [([],.str nm)])]):=by simp only[gg,gf,i,i6,mE,O];rfl
  obtain⟨N,ms,p6,p7,p8,X,vI,J,Z,j3,j⟩:=KH b a G.length k y (À (c7 n0 b)) (À t.d) (À (GU o)) t [] nm [([],.str nm)] [] Æ Æ Æ Æ Æ [] v l (by simp[cM]) ⋯ () () ();rw[ö,ã,bh]at j;have s:=xo t A (a++[.aO Ä (az [([],.str nm)]),.aO Ä (az [])]);refine⟨ms,(DO.aO Ä (az k)::B)++[.aO Ä (az N),.aO Ä (az ms)],a.length+1,J,?_,?_⟩
  ·rw[<- â,<- U,Ò ∅];simp
  ·rw[<- â,<- U];rw[F]at j s;generalize c7 n0 b=S at e c j |-;generalize GU o=W at c j |-;generalize t.d=K at e c j s |-;generalize(t.prs []).map fY=L at j s;unfold dm;rw[bQ];unfold mX
   simp_all! [e,c]
   gn_on
   simp_all! [kP,aY,Α h0,C,w,h,j0,â,Ý,İ,iZ,s,j]
 ·refine .inr ?_;refine⟨l,(DO.aO Ä (az k)::B)++[.aO Ä (az [([],.str nm)])],[.str "the tree is not of this name"],?_⟩;have f:aN g nm=Æ:=wX (by show nm∉e9 g;rw[E];exact l);have h:gg (.str nm) (.obj q) (a++[.aO Ä (az [([],.str nm)])])=.ok (.bl Ã) (a++[.aO Ä (az [([],.str nm)])]):=by simp only[gg,gf,i,i6,mE,f];rfl
  rw[<- â,<- U];generalize c7 n0 b=S at e c |-;generalize GU o=W at c |-;generalize t.d=K at e c |-;unfold dm;rw[bQ];unfold mX;gn_on
  simp_all! [e,c]
  simp_all! [kP,aY,Α h0,C,w,h,Jb,İ,Α z1]
  rfl
theorem rO:∀a b:P3,aa1 (a.map Ī) (b.map Ī)=(a==b)
 |[],[]=>by simp[aa1]
 |[],y::b=>by simp[aa1]
 |x::a,[]=>by simp[aa1]
 |x::a,y::b=>by have i:=rO a b;rw[Ï,Ï,aa1,i];simp[aas]
theorem fX:∀a:P3,(∀x∈a,Ñ x=Ã)->ņ (a.map Ī)=Ã
 |[],h=>by simp[ņ]
 |x::a,h=>by have i:=fX a λy b=>h y (by simp[b]);simp[ņ,ź,i,h x ⋯]
theorem uV:∀a:P3,ś (a.map Ī)<=10
 |[]=>by simp[ś]
 |x::a=>by have i:=uV a;simp[ś,abu]at i |-;lia
theorem uW(g:Bool)(a b:P3)(h:∀x∈a,Ñ x=Ã)(f:∀x∈b,Ñ x=Ã)(G:DH):fG g (.con (a.map .str)) (.con (b.map .str)) G=.ok (.bl (g ^^ (a==b))) G:=by
 have t:∀c:P3,mO G deep (.con (c.map .str))=À (.list (c.map Ī)):=λc=>by
  have:∀n,cu (mO G (n+1)) (c.map D.str)=À (c.map Ī):=λn=>by
   induction c with
   |nil=>rfl
   |cons x c i=>simp only[Ï,cu,i];rfl
  show(cu (mO G _) (c.map D.str)).map aaF=_;rw[this];rfl
 unfold fG BR;rw[t,t];k_in;have l:=uV a;have e:(aaF (a.map Ī)).canLay0=Ã:=by simp[ź,fX a h]
 have d:(aaF (b.map Ī)).canLay0=Ã:=by simp[ź,fX b f]
 have k:(aaF (a.map Ī)).depth<=580:=by simp[abu];lia
 rw[Α (by rw[e,d];simp;lia)];have j:aas (aaF (a.map Ī)) (aaF (b.map Ī))=(a==b):=by rw[<- rO];simp[aas]
 rw[j]
def sD(w:P3):D:=.con (w.map .str)
theorem Gx(w:P3):(sD w).closed=Ã:=by unfold sD;rw[dQ];exact aA λ_=>aW
theorem uX{p:cR->Bool}(P:Str->Prop):∀(d:List cR)(a:P3),(∀x∈a,P x)->(∀r∈d,P r.nm)->∀x∈d.foldl (lI p) a,P x
 |[],a,h,_,x,c=>h x c
 |r::d,a,h,e,x,c=>by
  rw[Ď]at c;refine uX P d _ ?_ (λq f=>e q (by simp[f])) x c;intro y b;unfold lI at b;split at b
  ·rcases ì.mp b with b|b
   ·exact h y b
   ·rw[ï.mp b];exact e r ⋯
  ·exact h y b
theorem A3{p:cR->Bool}:∀(b:List cR)(a:P3),(b.foldl (lI p) a).length<=a.length+b.length
 |[],a=>by simp
 |r::b,a=>by
  have:=A3 (p:=p) b (lI p a r);have h:(lI p a r).length<=a.length+1:=by unfold lI;split<;>simp
  simp only[Ď,Ó];lia
theorem yQ{a:List cR}(h:∀r∈a,sI r)(t:T):∀x∈bB a t,Ñ x=Ã:=by
 cases t with
 |nd k ps=>rw[bB];exact uX (λx=>Ñ x=Ã) a [] ⋯ λr b=>(h r b).sn
theorem pZ(r:List cR)(t:T):(bB r t).length<=r.length:=by
 cases t with
 |nd k ps=>rw[bB];have:=A3 (p:=rX (pW r ps) k) r [];simpa[Kv]using this
theorem ou:∀l:P3,strsOf (l.map D.str)=À l
 |[]=>rfl
 |x::l=>by simp[strsOf,ou l]
theorem qV:∀f:FS,pL ((jx f).map (·.1))=À (e9 f)
 |[]=>rfl
 |p::f=>by have i:=qV f;unfold jx at i |-;simp only[Ï,pL,i];rfl
theorem A4(n0:Str)(a:List cR)(hz:a.length<=5)(h:∀r∈a,sI r)(t:T)(s:yY t)(o:t.subs.length<=500)(G:DH):gS [c7 n0 a,t.d] G=.ok (sD (aT (bB a t))) G:=by
 obtain⟨k,B,m,e⟩:=mG n0 a ∅ h t s o G;obtain⟨q,g,n,i,j⟩:=m.root;generalize l:G++DO.aO Ä (az k)::B=b at i e;have w:b[G.length]?=À (.aO Ä (az k)):=by rw[<- l,lS]
 have x:cD []=D.tup []:=rfl;have p:lZ (.obj G.length) (.tup []) b=.ok (.obj q) b:=by rw[<- x];exact jz w n
 have u:=pZ a t;have c:((aT (bB a t)).map D.str).length<=Ç:=lz (by rw[Û,(bq _).length_eq];lia);have f:(jx g).length<64:=by
  have:(e9 g).length<64:=by rw[j];lia
  simpa[jx]using this
 have v:kO [.obj q] b=.ok (.obj b.length) (b++[.lst ((aT (bB a t)).map .str)]):=by simp only[kO,gf,i,qV,Α f,j,aR,Α c]
 gn_on;unfold gS;refine jq (R:=(DO.aO Ä (az k)::B)++[.dead]) ?_ (Gx _);rw[<- â,l];generalize c7 n0 a=S at e |-;generalize t.d=y at e |-;rw[bQ];unfold n8
 simp_all! [DF,kP,e,aY,Α h0,p,v,Om]
 rfl
theorem KJ{l:P3}{x:Str}(c:∀y∈l,Ñ y=Ã)(b:Ñ x=Ã)(G:DH):sY Ä (.str x) (sD (aT l)) G=.ok (.bl (decide (x∈l))) G:=by
 have h:=tP x (aT l) G b (fX _ λy a=>c y ((bq _).mem_iff.mp a));unfold sD;simp only[sY,ak,h,abO];congr 2;apply aao.mpr;rw[Ĝ,decide_eq_true_iff];constructor
 ·rintro⟨y,a,e⟩;rw[beq_iff_eq]at e;exact(bq _).mem_iff.mp (e▸a)
 ·exact λh=>⟨x,(bq _).mem_iff.mpr h,by simp⟩
theorem RO(n0:Str)(g:Ñ n0=Ã)(a:List cR)(hz:a.length<=5)(h:∀r∈a,sI r)(t:T)(f:yY t)(c:t.subs.length<=500)(G:DH):AE [c7 n0 a,t.d] G=.ok (.bl (decide (n0∈bB a t))) G:=by
 have e:=A4 n0 a hz h t f c G;have b:=KJ (yQ h t) g G;have i:∀G,aE (c7 n0 a) (.int 0) G=.ok (.str n0) G:=λG=>by unfold c7;simp![yG]
 unfold AE;refine gb ?_ fQ;generalize c7 n0 a=S at e i |-;generalize t.d=j at e |-;generalize sD (aT (bB a t))=L at e b;rw[bQ];unfold J9
 simp_all! [i,e,b]
def Bx(c:D2)(a:Int):DO:=.lst [.con (c.map .int),.int a]
structure lJ(cs:D2):Prop where
 ne:cs≠[]
 le:cs.length<=1000
theorem KL{c:D2}(p:lJ c)(s:Nat)(a:Int)(K:0<=a)(G:DH)(g:G[s]?=À (Bx c a)):∃v:Int,aD [.obj s] G=.ok (.int v) (G.set s (Bx c (a+1))):=by
 have j:s<G.length:=(Â.mp g).1;have V:(G.set s (Bx c (a+1)))[s]?=À (Bx c (a+1)):=by rw[ñ,Α rfl,Α j]
 have B:0<c.length:=ğ.mpr p.ne;have F:=p.le;unfold Bx at g V |-;have q:aE (.obj s) (.int 1) G=.ok (.int a) G:=by simp only[aE,ak,g,uD]
 have e:aE (.obj s) (.int 0) (G.set s (.lst [.con (c.map .int),.int (a+1)]))=.ok (.con (c.map .int)) (G.set s (.lst [.con (c.map .int),.int (a+1)])):=by simp only[aE,ak,V,yG]
 have n:∀τ:DS,τ[0]?=À (À (.obj s))->τ[1]?=À (À (.int a))->iA (aj ay (1) {1}) (0) {1} τ G=.nx τ (G.set s (.lst [.con (c.map .int),.int (a+1)])):=by
  intro τ E w;have k:Bt [D.con (c.map .int),D.int a].length 1=À 1:=rfl
  simp_all! [pI,E,w,kM,kD,g,k,lC]
  rfl
 generalize O:G.set s (.lst [.con (c.map .int),.int (a+1)])=N at e n |-;have h:∀H,aM [.con (c.map .int)] H=.ok (.int c.length) H:=λH=>by simp only[aM,ak,Û]
 by_cases b:a<(c.length:Int)
 ·obtain⟨d,l,R⟩:=pg (xs:=c.map D.int) (i:=a) K ‹b›;obtain⟨v,m⟩:∃v,d=.int v:=by have:=ç R;simp at this;obtain⟨v,_,rfl⟩:=this;exact⟨v,rfl⟩
  subst m;have f:∀H,aE (.con (c.map .int)) (.int a) H=.ok (.int v) H:=λH=>by simp only[aE,ak,l]
  refine⟨v,?_⟩;generalize D.con (c.map .int)=C at e h f;unfold aD;rw[bQ];unfold jt
  simp_all! [q]
  rw[n _ rfl rfl]
  simp_all! [e,h,aP,decide_eq_true b,f,zP]
 ·have o:(0:Int)<=a%(c.length:Int)/\a%(c.length:Int)<c.length:=⟨abp _ ∅,aau _ ∅⟩;obtain⟨d,l,R⟩:=pg (xs:=c.map D.int) (i:=a%(c.length:Int)) o.1 ‹o.2›;obtain⟨v,m⟩:∃v,d=.int v:=by have:=ç R;simp at this;obtain⟨v,_,rfl⟩:=this;exact⟨v,rfl⟩
  subst m;have f:∀H,aE (.con (c.map .int)) (.int (a%(c.length:Int))) H=.ok (.int v) H:=λH=>by simp only[aE,ak,l]
  have X:decide ((0:Int)<(c.length:Int))=Ã:=decide_eq_true ∅;have A:0<=(v+7919*a)*48271%2147483647:=∅
  have I:(v+7919*a)*48271%2147483647<2147483647:=∅
  generalize u:(v+7919*a)*48271%2147483647=y at A I;have L:-18446744073709551616<y:=∅
  have t:y<18446744073709551616:=∅
  have J:0<=y*y%2147483629:=∅
  have x:y*y%2147483629<2147483629:=∅
  generalize hz:y*y%2147483629=z at J x;have r:-18446744073709551616<z:=∅
  have M:z<18446744073709551616:=∅
  refine⟨z*(z+16807*a)%1000000007,?_⟩;generalize D.con (c.map .int)=C at e h f;unfold aD;rw[bQ];unfold jt
  simp_all! [q]
  rw[n _ rfl rfl]
  simp_all! [e,h,aP,decide_eq_false b,X,f,kM]
  simp[u,hz,L,t,r,M,kM,aP]
def Up(s:Nat)(c:D2)(G G':DH):Prop:=∃(a:Int)(R:DH),0<=a/\G'=G.set s (Bx c a)++R
def bf(s:Nat)(c:D2)(G:DH):Prop:=∃a:Int,0<=a/\G[s]?=À (Bx c a)
theorem bf.lt{s:Nat}{c:D2}{G:DH}(h:bf s c G):s<G.length:=by obtain⟨a,_,e⟩:=h;exact(Â.mp e).1
theorem Up.st{s:Nat}{c:D2}{G G':DH}(h:Up s c G G')(b:s<G.length):bf s c G':=by obtain⟨a,R,d,rfl⟩:=h;exact⟨a,d,by rw[Î ‹b›,ñ,Α rfl,Α b]⟩
theorem Up.refl{s:Nat}{c:D2}{G:DH}(h:bf s c G):Up s c G G:=by obtain⟨a,b,e⟩:=h;refine⟨a,[],b,?_⟩;obtain⟨f,d⟩:=Â.mp e;rw[ö,<- d,List.set_getElem_self]
theorem Up.get{s:Nat}{c:D2}{G G':DH}(h:Up s c G G'){q:Nat}{o:DO}(d:q≠s)(e:G[q]?=À o):G'[q]?=À o:=by obtain⟨a,R,f,rfl⟩:=h;have b:q<G.length:=(Â.mp e).1;rw[Î ‹b›,Ô (λz=>d z.symm)];exact e
theorem Up.len{s:Nat}{c:D2}{G G':DH}(h:Up s c G G'):G.length<=G'.length:=by obtain⟨a,R,b,rfl⟩:=h;simp
theorem eu{c:D2}(g:lJ c){s:Nat}{G:DH}(h:bf s c G):∃(v:Int)(G':DH),Up s c G G'/\bf s c G'/\G'.length=G.length/\aD [.obj s] G=.ok (.int v) G':=by have b:=h.lt;obtain⟨a,d,e⟩:=h;obtain⟨v,f⟩:=KL g s a d G e;have u:Up s c G (G.set s (Bx c (a+1))):=⟨a+1,[],∅,by simp⟩;exact⟨v,_,u,u.st b,by simp,f⟩
theorem qe(w:P3)(c:w≠[])(g:w.length<=1000)(i:Int):∃x∈w,∀H,aE (sD w) (.int (i%(w.length:Int))) H=.ok (.str x) H:=by have f:0<w.length:=ğ.mpr c;have a:(0:Int)<=i%(w.length:Int)/\i%(w.length:Int)<w.length:=⟨abp _ ∅,aau _ ∅⟩;obtain⟨d,e,R⟩:=pg (xs:=w.map D.str) (i:=i%(w.length:Int)) a.1 ‹a.2›;have h:=ç R;obtain⟨x,b,rfl⟩:=ä.mp h;exact⟨x,b,λH=>by unfold sD;simp only[aE,ak,e]⟩
theorem A5(low c:Int)(r:0<=low/\low<=2)(k n m f o:X9)(H:DH):∃b:Option Int,(∀h,b=À h->low<=h/\h<=2) /\
  aj aE (eFn (ai aR #[eC .bD,(2),{2},aj ay (2) (aj bJ (aj xR {2} (2)) {2})])) (aj aX (aj bJ (4) {8}) {4}) [k,n,À (.int low),m,À (.int c),f,o] H=.ok (iP b) H:=by
 have z:([D.bD,.int low,.int 2,.int (low+(2-low)/2)]).length<=Ç:=lz ⋯;have l:aG [D.bD,.int low,.int 2,.int (low+(2-low)/2)]=Ã:=by simp[bN,fR,tW,cz]
 have g:=g7 (G:=H) z l;have p:eFn (ai aR #[eC .bD,(2),{2},aj ay (2) (aj bJ (aj xR {2} (2)) {2})]) [k,n,À (.int low),m,À (.int c),f,o] H=.ok (.con [.bD,.int low,.int 2,.int (low+(2-low)/2)]) H:=by simp[dh,kM,aP,g]
 have q:aj aX (aj bJ (4) {8}) {4} [k,n,À (.int low),m,À (.int c),f,o] H=.ok (.int (c/8%4)) H:=by simp[aP]
 have k0:0<=c/8%4:=∅
 have k1:c/8%4<4:=∅
 rw[wA,p,e8,aJ,q,e8];generalize c/8%4=i at k0 k1;have b:i=0\/i=1\/i=2\/i=3:=∅
 have a:∀(j:Nat)(d:D),[D.bD,.int low,.int 2,.int (low+(2-low)/2)][j]?=À d->aE (.con [.bD,.int low,.int 2,.int (low+(2-low)/2)]) (.int (j:Int)) H=.ok d H:=λj d h=>by have:=b9 (j:=j) h;simp only[aE,ak,this]
 rcases b with rfl|rfl|rfl|rfl
 ·exact⟨Æ,(λh e=>by cases e),a 0 _ rfl⟩
 ·exact⟨À low,(λh e=>by cases e;lia),a 1 _ rfl⟩
 ·exact⟨À 2,(λh e=>by cases e;lia),a 2 _ rfl⟩
 ·exact⟨À (low+(2-low)/2),(λh e=>by cases e;lia),a 3 _ rfl⟩
theorem KN{n:D2}(y:lJ n){s:Nat}(names first:P3)(p:names≠[])(t:names.length<=100)(w:first.length<=100)(l:Int)(d:0<=l/\l<=2)(q:0<l->first≠[]){G:DH}(h:bf s n G):
  ∃(it:Itm)(G':DH),it.lo=l/\(∀h,it.hi=À h->l<=h/\h<=2)/\(it.nm∈names\/it.nm∈first)/\(0<l->it.nm∈first)/\Up s n G G'/\bf s n G'/\G'.length=G.length/\fU [.obj s,sD names,.int l,sD first] G=.ok (bR it) G':=by
 obtain⟨v,G',u,f,b,j⟩:=eu y h;have r:(3:Nat)<=Ç:=lz ∅;by_cases g:0<l
 ·obtain⟨c,o,e⟩:=A5 l v d (À (.obj s)) (À (sD names)) (À (sD first)) (À (sD first)) Æ G';obtain⟨x,k,i⟩:=qe first (q g) ∅ (v/64)
  have a:0<first.length:=ğ.mpr (q g)
  have m:∀H,aM [sD first] H=.ok (.int first.length) H:=λH=>by unfold sD;simp only[aM,ak,Û]
  refine⟨⟨x,l,c⟩,G',rfl,o,.inr k,λ_=>k,u,f,b,?_⟩;generalize sD names=N at j e |-;generalize sD first=F at e i m |-
  unfold fU;rw[bQ];unfold ju bR;k_in;generalize A:aj aE (eFn (ai aR #[eC .bD,(2),{2},aj ay (2) (aj bJ (aj xR {2} (2)) {2})])) (aj aX (aj bJ (4) {8}) {4})=E at e |-;generalize iP c=B at e |-
  simp_all! [j,aP,decide_eq_true g,e]
  simp[aP,m,i,r,aY,a]
 ·obtain⟨c,o,e⟩:=A5 l v d (À (.obj s)) (À (sD names)) (À (sD first)) (À (sD names)) Æ G';obtain⟨x,k,i⟩:=qe names p ∅ (v/64);have a:0<names.length:=ğ.mpr p;have m:∀H,aM [sD names] H=.ok (.int names.length) H:=λH=>by unfold sD;simp only[aM,ak,Û]
  refine⟨⟨x,l,c⟩,G',rfl,o,.inl k,λz=>(g z).elim,u,f,b,?_⟩;generalize sD names=N at j e i m |-;generalize sD first=F at e |-
  unfold fU;rw[bQ];unfold ju bR;k_in;generalize A:aj aE (eFn (ai aR #[eC .bD,(2),{2},aj ay (2) (aj bJ (aj xR {2} (2)) {2})])) (aj aX (aj bJ (4) {8}) {4})=E at e |-;generalize iP c=B at e |-
  simp_all! [j,aP,decide_eq_false g,e]
  simp[aP,m,i,r,aY,a]
structure Fm(s n:Nat)(G G':DH):Prop where
 len:G.length<=G'.length
 keep:∀(q:Nat)(o:DO),q<n->q≠s->G[q]?=À o->G'[q]?=À o
theorem Fm.refl{s n:Nat}{G:DH}:Fm s n G G:=⟨Ë _,λ_ _ _ _ e=>e⟩
theorem Fm.trans{s n:Nat}{G G' U:DH}(h:Fm s n G G')(h':Fm s n G' U):Fm s n G U:=⟨ü h.len h'.len,λq o a b e=>h'.keep q o a b (h.keep q o a b e)⟩
theorem Up.fm{s n:Nat}{c:D2}{G G':DH}(h:Up s c G G'):Fm s n G G':=⟨h.len,λq o _ b e=>h.get b e⟩
theorem Fm.set{s n:Nat}{G:DH}{L:Nat}{x:DO}(h:n<=L):Fm s n G (G.set L x):=⟨by simp,λq o a b e=>by rw[Ô ∅];exact e⟩
theorem Fm.app{s n:Nat}{G R:DH}:Fm s n G (G++R):=⟨by simp,λq o a b e=>aH e⟩
theorem bf.set{s L:Nat}{c:D2}{G:DH}{x:DO}(h:bf s c G)(b:L≠s):bf s c (G.set L x):=by obtain⟨a,d,e⟩:=h;exact⟨a,d,by rw[Ô b];exact e⟩
theorem bf.app{s:Nat}{c:D2}{G R:DH}(h:bf s c G):bf s c (G++R):=by obtain⟨a,b,e⟩:=h;exact⟨a,b,aH e⟩
theorem gy{G:DH}{L:Nat}{x y:DO}(h:G[L]?=À y):(G.set L x)[L]?=À x:=by have a:L<G.length:=(Â.mp h).1;rw[ñ,Α rfl,Α a]
structure A6(names first:P3)(its:List Itm):Prop where
 nd:(its.map (·.nm)).Nodup
 lo:∀i∈its,0<=i.lo/\i.lo<=2
 hi:∀i∈its,∀h,i.hi=À h->i.lo<=h/\h<=2
 nm:∀i∈its,i.nm∈names
 ft:∀i∈its,0<i.lo->i.nm∈first
theorem sL(i:Itm)(G:DH):aE (bR i) (.int 0) G=.ok (.str i.nm) G:=by unfold bR;simp![RC]
theorem KO(its:List Itm)(m:its.length<=1000)(τ:DS)(G:DH)(L:Nat)(b:τ[4]?=À (À (.obj L)))(h:G[L]?=À (.lst (its.map bR))):
  eFn (dJ oN [] (4) dw ((0)\{0})) τ G=.ok (sD (its.map (·.nm))) G:=by
 have R:L<G.length:=(Â.mp h).1;have c1:=bX (τ:=τ) (G:=G) (gO:=oN) (ks:=[]) (tt:=dw) (te:=aj aE (0) {0}) (own:=λi:Itm=>[bR i]) (dat:=bR) (f:=λi=>.str i.nm) (c:=λ_=>Ã) its [] () (λx _=>rfl) (λx l acc=>by first|rfl|simp[dw]) (λi g acc=>by have e:=sL i (G++[.lst acc]);generalize bR i=d at e |-;simp[e])
 rw[ã,Ŧ.mpr (λ_ _=>rfl)]at c1;have c2:=Dy (gO:=oN) (ks:=[]) (tt:=dw) (te:=aj aE (0) {0}) (n:=G.length) (src:=L) (τ:=τ) (xs:=its.map bR) (λH=>∃acc,H=G++[.lst acc]) (λH ⟨acc,e⟩=>by rw[e];exact aH h) (λH d H' j ⟨acc,e⟩ hs=>by
  obtain⟨i,g,rfl⟩:=ä.mp j;rw[e]at hs;have a:=sL i (G++[.lst acc]);unfold dg at hs;dsimp only[oN]at hs;have t:dw (([bR i].map À)++mask [] τ) (G++[.lst acc])=.ok Ã (G++[.lst acc]):=rfl;have k:aj aE (0) {0} (([bR i].map À)++mask [] τ) (G++[.lst acc])=.ok (.str i.nm) (G++[.lst acc]):=by generalize bR i=d at a |-;simp[a]
  rw[t]at hs;dsimp only at hs;rw[k]at hs;dsimp only at hs;rw[lS]at hs;dsimp only at hs;split at hs
  ·cases hs;exact⟨acc++[.str i.nm],by rw[IP]⟩
  ·cases hs) ((its.map bR).length+1) 0 (G++[.lst []]) ⋯ ⋯ ⟨[],rfl⟩
 rw[acY,c1]at c2;have hcl:aG (its.map λi=>D.str i.nm)=Ã:=aA λ_=>aW;have es:sD (its.map (·.nm))=.con (its.map λi=>D.str i.nm):=by unfold sD;rw[ĕ];rfl
 rw[es];simp only[dh,sA,gQ,b,e8,h];rw[c2,d7 hcl]
theorem uY{Z:D2}(hc:lJ Z){s:Nat}(names first:P3)(hn:names≠[])(F:names.length<=100)(q:∀x∈names,Ñ x=Ã)(N:∀x∈first,x∈names)(Q:first.length<=100)(n L:Nat)(OD:n<=L)(U7:s<n)(o:X9):
  ∀(xs:X2)(its:List Itm)(H:DH)(Y t u r:X9),A6 names first its->bf s Z H->H[L]?=À (.lst (its.map bR))->its.length+xs.length<=100 ->
   ∃(its':List Itm)(H':DH)(p5 p6 p7 p8:X9),A6 names first its'/\its'.length<=its.length+xs.length/\bf s Z H'/\Fm s n H H'/\H'[L]?=À (.lst (its'.map bR)) /\
    bh (gN 5) dW xs [À (.obj s),À (sD names),À (sD first),o,À (.obj L),Y,t,u,r] H=.nx [À (.obj s),À (sD names),À (sD first),o,À (.obj L),p5,p6,p7,p8] H'
 |[],its,H,Y,t,u,r,k,hs,hL,hz=>⟨its,H,Y,t,u,r,k,by simp,hs,.refl,hL,by simp[bh]⟩
 |x::xs,its,H,Y,t,u,r,k,hs,hL,hz=>by
  simp only[Ó]at hz;have D9:L≠s:=∅
  obtain⟨v,H1,u1,s1,l1,e1⟩:=eu hc hs;have xq:=u1.get D9 hL;have D:∃l:Int,(0<=l/\l<=2)/\(0<l->first≠[])/\∀(P B:X9),(iV (d9 (cy (aj qA (ai aM #[(2)]) {0})) (cy (aj (fG Ä) (aj aX (6) {2}) {1}))) (aC 7 (aj ay {1} (aj aX (aj bJ (6) {2}) {2}))) bC) [À (.obj s),À (sD names),À (sD first),o,À (.obj L),P,À (.int v),À (.int 0),B] H1=.nx [À (.obj s),À (sD names),À (sD first),o,À (.obj L),P,À (.int v),À (.int l),B] H1:=by
   have A:∀H,aM [sD first] H=.ok (.int first.length) H:=λH=>by unfold sD;simp only[aM,ak,Û]
   have g:=jn Ä (v%2) 1 H1;rw[abO]at g;by_cases X:0<first.length
   ·by_cases h2:v%2=1
    ·refine⟨1+v/2%2,∅,λ_=>ğ.mp X,λP B=>?_⟩;rw[h2]at g;generalize sD names=NA;generalize sD first=FI at A |-
     simp[A,aP,X,g,kM,h2]
    ·have h2':(v%2==1)=Ä:=‹h2›
     rw[h2']at g;refine⟨0,∅,λz=>∅,λP B=>?_⟩;generalize sD names=NA;generalize sD first=FI at A |-
     simp[A,aP,X,g]
   ·refine⟨0,∅,λz=>∅,λP B=>?_⟩;generalize sD names=NA;generalize sD first=FI at A |-
    simp[A,aP,X]
  obtain⟨l,R,hf,XU⟩:=D;obtain⟨it,p,i1,i2,i3,i4,u2,s2,l2,T⟩:=KN hc names first hn F Q l R hf s1
  have U:=u2.get D9 xq;have M:it.nm∈names:=i3.elim id (N _);have U8:=λτ h4=>KO its ∅ τ p L h4 U;have f:=tP it.nm (its.map (·.nm)) p (q _ M) (fX _ λy hy=>by obtain⟨j,hj,rfl⟩:=ä.mp hy;exact q _ (k.nm j hj))
  have m:=sL it p;have GV:its.length<Ç:=Ø ∅ (lz (n:=1001) ∅)
  have J:∃(C:List Itm)(w:DH),A6 names first C/\C.length<=its.length+1/\bf s Z w/\Fm s n p w/\w[L]?=À (.lst (C.map bR)) /\
    dW [À (.obj s),À (sD names),À (sD first),o,À (.obj L),À x,t,u,r] H=.nx [À (.obj s),À (sD names),À (sD first),o,À (.obj L),À x,À (.int v),À (.int l),À (bR it)] w:=by
   have G:∀K:MS,dW=av (aC 6 (aF 1 aD #[(0)])) (aC 7 {0}<|>iV (d9 (cy (aj qA (ai aM #[(2)]) {0})) (cy (aj (fG Ä) (aj aX (6) {2}) {1}))) (aC 7 (aj ay {1} (aj aX (aj bJ (6) {2}) {2}))) bC<|>aC 8 (aF 4 fU #[(0),(1),(7),(2)])<|>K)->dW [À (.obj s),À (sD names),À (sD first),o,À (.obj L),À x,t,u,r] H=K [À (.obj s),À (sD names),À (sD first),o,À (.obj L),À x,À (.int v),À (.int l),À (bR it)] p:=by
    intro K hK;rw[hK];have V:=XU (À x) r;generalize hS:iV (d9 (cy (aj qA (ai aM #[(2)]) {0})) (cy (aj (fG Ä) (aj aX (6) {2}) {1}))) (aC 7 (aj ay {1} (aj aX (aj bJ (6) {2}) {2}))) bC=S at V |-;generalize sD names=NA at T V |-;generalize sD first=FI at T V |-
    generalize bR it=I at T |-
    simp_all! [e1,V,T]
   have O:((its.map (·.nm)).any λy=>y==it.nm)=decide (it.nm∈its.map (·.nm)):=by
    apply aao.mpr;rw[Ĝ,decide_eq_true_iff];constructor
    ·rintro⟨y,hy,e⟩;rw[beq_iff_eq]at e;exact e▸hy
    ·exact λh=>⟨it.nm,h,by simp⟩
   rw[O]at f;have c:=U8 [À (.obj s),À (sD names),À (sD first),o,À (.obj L),À x,À (.int v),À (.int l),À (bR it)] rfl;by_cases hm:it.nm∈its.map (·.nm)
   ·rw[decide_eq_true hm]at f;refine⟨its,p,k,∅,s2,.refl,U,?_⟩;rw[G _ rfl];generalize hE:eFn (dJ oN [] (4) dw ((0)\{0}))=E at c |-;generalize bR it=I at m c |-;generalize its.map (λx=>x.nm)=W at f c
    simp_all! [m,c]
    unfold sD;simp[sY,ak,f]
   ·rw[decide_eq_false hm]at f;refine⟨its++[it],p.set L (.lst ((its++[it]).map bR)),⟨?_,?_,?_,?_,?_⟩,by simp,s2.set D9,.set OD,gy U,?_⟩
    ·rw[ø,Đ];refine⟨k.nd,by simp,λa ha b R e=>?_⟩;simp at R;subst R;exact hm (e▸ha)
    ·intro i d;rcases ì.mp d with h|h
     ·exact k.lo i h
     ·rw[ï.mp h,i1];exact R
    ·intro i d;rcases ì.mp d with h|h
     ·exact k.hi i h
     ·rw[ï.mp h,i1];exact i2
    ·intro i d;rcases ì.mp d with h|h
     ·exact k.nm i h
     ·rw[ï.mp h];exact M
    ·intro i d;rcases ì.mp d with h|h
     ·exact k.ft i h
     ·rw[ï.mp h,i1];exact i4
    ·rw[G _ rfl];rw[show(its++[it]).map bR=its.map bR++[bR it] by simp];generalize hE:eFn (dJ oN [] (4) dw ((0)\{0}))=E at c |-;generalize bR it=I at m c |-;generalize its.map (λx=>x.nm)=W at f c
     simp_all! [m,c]
     unfold sD;simp[sY,ak,f,U,dB,br,GV]
  obtain⟨C,w,t1,t2,t3,t4,t5,t6⟩:=J;obtain⟨its',H',p5,p6,p7,p8,j1,j2,j3,j4,j5,j6⟩:=uY hc names first hn F q N Q n L OD U7 o xs C w (À x) (À (.int v)) (À (.int l)) (À (bR it)) t1 t3 t5 ∅
  refine⟨its',H',p5,p6,p7,p8,j1,by simp only[Ó];lia,j3,((u1.fm.trans u2.fm).trans t4).trans j4,j5,?_⟩;rw[bH rfl];simp only[ß,à,t6,eL];exact j6
theorem xr{m:D2}(n:lJ m){s:Nat}(names first:P3)(z:names≠[])(f:names.length<=100)(l:∀x∈names,Ñ x=Ã)(e:∀x∈first,x∈names)(g:first.length<=100){G:DH}(h:bf s m G):
  ∃(its:List Itm)(G':DH),A6 names first its/\its.length<=3/\bf s m G'/\Fm s G.length G G'/\dR [.obj s,sD names,sD first,.int 3] G=.ok (.tup (its.map bR)) G':=by
 have c:=h.lt;obtain⟨v,b,u,A,K,p⟩:=eu n (h.app (R:=[.lst []]));have k0:0<=v%4:=∅
 have k1:v%4<4:=∅
 have o:=mS (j:=v%4) k0 ∅;have B:b[G.length]?=À (.lst (([]:List Itm).map bR)):=u.get ∅ (lS _ _ _);obtain⟨its,G',H,I,E,C,t,q,w,r,y,a⟩:=uY n names first z f l e g G.length G.length (Ë _) c (À (.int 3)) ((Ē 0 (v%4).toNat).map λ(k:Nat)=>.int (0+(k:Int))) [] b Æ Æ Æ Æ ⟨by simp,by simp,by simp,by simp,by simp⟩ A B ()
 have d:its.length<=3:=by simp at q;lia
 refine⟨its,G',t,d,w,((Fm.app).trans u.fm).trans r,?_⟩;gn_on;have hz:its.length<=Ç:=lz ∅;generalize((Ē 0 (v%4).toNat).map λ(k:Nat)=>D.int (0+(k:Int)))=xs at o a;generalize sD names=N at a |-;generalize sD first=F at a |-
 unfold dR;rw[bQ];unfold lg;have J:aP (λ_ j=>decide (0<j)) (λi j=>.int (i%j)) (.int v) (.int 4) b=.ok (.int (v%4)) b:=rfl
 simp_all! [aR,Α h0,qF,p,kM]
 simp[aP,o,a,gK,ak,y,aY,hz]
structure KP(names kinds:P3)(r:cR):Prop where
 ok:sI r
 nm:r.nm∈names
 kd:r.kd∈kinds
 it:∀i∈r.its,i.nm∈names/\i.lo<=2/\∀h,i.hi=À h->h<=2
def RT(names k:P3)(j:Nat)(r:cR):Prop:=KP names k r/\names[j]?=À r.nm/\∀i∈r.its,0<i.lo->i.nm∈names.drop (j+1)
theorem OE{names first k:P3}(b:∀x∈names,Ñ x=Ã)(G:∀x∈k,Ñ x=Ã){its:List Itm}(h:A6 names first its)(g:its.length<=3){nm d:Str}(mix:Bool)(f:nm∈names)(c:d∈k):KP names k ⟨nm,d,mix,its⟩:=
 ⟨⟨g,⟨h.nd,λi a=>(h.lo i a).1,λi a z e=>(h.hi i a z e).1⟩,(λi a=>⟨h.lo i a,h.hi i a⟩),b _ f,G _ c,λi a=>b _ (h.nm i a)⟩,f,c,λi a=>⟨h.nm i a,(h.lo i a).2,λz e=>(h.hi i a z e).2⟩⟩
theorem RU(v:Int)(τ:DS)(H:DH)(k:τ[7]?=À (À (.int v))):∃mix:Bool,aj aE (eFn (ai aR #[("row"),("mix")])) (aj aX (aj bJ (7) {8}) {2}) τ H=.ok (.str (if mix=Ã then "mix" else "row")) H:=by
 have z:([D.str "row",.str "mix"]).length<=Ç:=lz ⋯;have c:aG [D.str "row",.str "mix"]=Ã:=by simp[bN,fR,aW]
 have b:=g7 (G:=H) z c;have e:eFn (ai aR #[("row"),("mix")]) τ H=.ok (.con [.str "row",.str "mix"]) H:=by simp[dh,b]
 have g:aj aX (aj bJ (7) {8}) {2} τ H=.ok (.int (v/8%2)) H:=by simp[aP,k]
 have k0:0<=v/8%2:=∅
 have k1:v/8%2<2:=∅
 rw[wA,e,e8,aJ,g,e8];generalize v/8%2=i at k0 k1;have a:∀(j:Nat)(d:D),[D.str "row",.str "mix"][j]?=À d->aE (.con [.str "row",.str "mix"]) (.int (j:Int)) H=.ok d H:=λj d h=>by have:=b9 (j:=j) h;simp only[aE,ak,this]
 have f:i=0\/i=1:=∅
 rcases f with rfl|rfl
 ·exact⟨Ä,a 0 _ rfl⟩
 ·exact⟨Ã,a 1 _ rfl⟩
abbrev xu:MS:=dG (bu "list" br (4) #[ai aY #[(6),(2)\(aj aX (7) (ai aM #[(2)])),(eFn (ai aR #[("row"),("mix")]))\(aj aX (aj bJ (7) {8}) {2}),(8)]])
theorem A7(k:P3)(j:k≠[])(w:k.length<=100)(q:∀x∈k,Ñ x=Ã)(nm:Str)(v:Int)(its:List Itm)(r:List cR)(hz:r.length<=100)(L:Nat)(H:DH)(p:H[L]?=À (.lst (r.map aL)))(f d b g:X9):
  ∃(a:Str)(mix:Bool),a∈k/\xu [f,d,À (sD k),b,À (.obj L),g,À (.str nm),À (.int v),À (.tup (its.map bR))] H=.nx [f,d,À (sD k),b,À (.obj L),g,À (.str nm),À (.int v),À (.tup (its.map bR))] (H.set L (.lst ((r++[(⟨nm,a,mix,its⟩:cR)]).map aL))):=by
 obtain⟨a,c,i⟩:=qe k j ∅ v;obtain⟨mix,e⟩:=RU v [f,d,À (sD k),b,À (.obj L),g,À (.str nm),À (.int v),À (.tup (its.map bR))] H rfl;refine⟨a,mix,c,?_⟩;have h:0<k.length:=ğ.mpr j;have m:∀H,aM [sD k] H=.ok (.int k.length) H:=λH=>by unfold sD;simp only[aM,ak,Û]
 have z:(4:Nat)<=Ç:=lz ∅;have G:r.length<Ç:=Ø ∅ (lz (n:=1001) ∅);have l:(r++[(⟨nm,a,mix,its⟩:cR)]).map aL=r.map aL++[.tup [.str nm,.str a,.str (if mix=Ã then "mix" else "row"),.tup (its.map bR)]]:=by simp[aL,aK]
 rw[l];generalize its.map bR=I at e |-;generalize(if mix=Ã then ("mix":Str) else "row")=rm at e |-;generalize sD k=K at e i m |-;generalize o:aj aE (eFn (ai aR #[("row"),("mix")])) (aj aX (aj bJ (7) {8}) {2})=E at e;unfold xu;rw[o];simp[dB,p,e,m,aP,h,i,aY,z,br,G]
theorem KQ(names:P3)(e:names.length<=100)(j:Nat)(d:j<names.length)(τ:DS)(H:DH)(a:τ[1]?=À (À (sD names)))(c:τ[5]?=À (À (.int (j:Int)))):eFn (iE (1) (aS (aj ay (5) {1})) bU) τ H=.ok (sD (names.drop (j+1))) H:=by
 have b:cutD (names.map D.str) (À ((j:Int)+1)) Æ=(names.drop (j+1)).map .str:=by unfold cutD;rw[show((j:Int)+1)=((j+1:Nat):Int) by lia,HT.iD,HT.iT,Û,show min (j+1) names.length=j+1 by lia];rw[Ę (by rw[Œ,Û];lia),<- aaZ]
 have hz:((names.drop (j+1)).map D.str).length<=Ç:=lz ();have h:aG ((names.drop (j+1)).map D.str)=Ã:=aA λ_=>aW;unfold sD at a |-
 simp_all! [dh,rG,a,jo,c,kM,mT,kI,rV,ak,b]
 exact g7 hz h
theorem KR(names:P3)(b:names.length<=100)(τ:DS)(H:DH)(a:τ[1]?=À (À (sD names))):eFn (iE (1) bU (aS {2})) τ H=.ok (sD (names.take 2)) H:=by
 have j:cutD (names.map D.str) Æ (À 2)=(names.take 2).map .str:=by unfold cutD;rw[show(À (2:Int))=À ((2:Nat):Int) from rfl,HT.iD,HT.iT,Û,adA,acY,<- aaX];congr 1;rw[aaT];lia
 have hz:((names.take 2).map D.str).length<=Ç:=lz ();have h:aG ((names.take 2).map D.str)=Ã:=aA λ_=>aW;unfold sD at a |-
 simp_all! [dh,rG,a,jo,mT,kI,rV,ak,j]
 exact g7 hz h
theorem KS{cs:D2}(Q:lJ cs){s:Nat}(names k:P3)(hn:names≠[])(m:names.length<=100)(p:∀x∈names,Ñ x=Ã)(hk:k≠[])(wj:k.length<=100)(Gy:∀x∈k,Ñ x=Ã)(n L:Nat)(OD:n<=L)(U7:s<n):
  ∀(c:P3)(j:Nat)(d:List cR)(H:DH)(J F u t:X9),names.drop j=c->d.length=j->(∀(i:Nat) r,d[i]?=À r->RT names k i r)->bf s cs H->H[L]?=À (.lst (d.map aL)) ->
   ∃(f:List cR)(H':DH)(R Y X P:X9),f.length=names.length/\(∀(i:Nat) r,f[i]?=À r->RT names k i r)/\bf s cs H'/\Fm s n H H'/\H'[L]?=À (.lst (f.map aL)) /\
    bh (gP 5 6) dF ((c.map D.str).mapIdx λi x=>.tup [.int ((j+i:Nat):Int),x]) [À (.obj s),À (sD names),À (sD k),À (.int 3),À (.obj L),J,F,u,t] H=.nx [À (.obj s),À (sD names),À (sD k),À (.int 3),À (.obj L),R,Y,X,P] H'
 |[],j,d,H,J,F,u,t,B,U,G,S,T=>by
  have hle:names.length<=j:=by have:=congrArg aa3 B;simp at this;lia
  have hj:j<=names.length:=by
   by_cases h0:j=0
   ·lia
   ·have g:j-1<d.length:=∅
    have:=(G (j-1) (d[j-1]) (Í g)).2.1;have:=(Â.mp this).1;lia
  exact⟨d,H,J,F,u,t,∅,G,S,.refl,T,by simp[bh]⟩
 |nm::c,j,d,H,J,F,u,t,B,U,G,S,T=>by
  have K:L≠s:=∅
  have g:j<names.length:=by have:=congrArg aa3 B;simp at this;lia
  have C:names[j]?=À nm:=by have:=congrArg (λl=>l[0]?) B;f_are
  have z:nm∈names:=ç C;obtain⟨v,H1,u1,s1,l1,e1⟩:=eu Q S;have xq:=u1.get K T;obtain⟨its,H2,i1,i2,s2,N,I⟩:=xr Q names (names.drop (j+1)) hn m p (λx M=>Ž M) () s1;have RL:L<H1.length:=(Â.mp xq).1;have yX:=N.keep L _ RL K xq;obtain⟨W,mix,O,y⟩:=A7 k hk wj Gy nm v its d ∅ L H2 yX (À (.obj s)) (À (sD names)) (À (.int 3)) (À (.int (j:Int)));have M:=OE p Gy i1 i2 mix z O;obtain⟨f,H',R,Y,X,P,k1,k2,k3,k4,k5,k6⟩:=KS Q names k hn m p hk wj Gy n L OD U7 c (j+1) (d++[(⟨nm,W,mix,its⟩:cR)]) _ (À (.int j)) (À (.str nm)) (À (.int v)) (À (.tup (its.map bR))) (by rw[<- List.drop_drop,B];rfl) (by simp[U]) (λi r e=>by
   by_cases V:i<d.length
   ·rw[Î V]at e;exact G i r e
   ·have Z:i<(d++[(⟨nm,W,mix,its⟩:cR)]).length:=(Â.mp e).1;have:i=d.length:=by simp at Z;lia
    subst this;rw[Ò (Ë _)]at e;simp at e;kpc_g;rw[U];exact⟨M,C,λi V=>i1.ft i V⟩) (s2.set K) (gy yX)
  refine⟨f,H',R,Y,X,P,k1,k2,k3,((u1.fm.trans ⟨N.len,λq o a b e=>N.keep q o (by have:=(Â.mp e).1;lia) b e⟩).trans (.set OD)).trans k4,k5,?_⟩;have e0:((nm::c).map D.str).mapIdx (λi x=>D.tup [.int ((j+i:Nat):Int),x])=.tup [.int (j:Int),.str nm]::(c.map D.str).mapIdx λi x=>.tup [.int ((j+1+i:Nat):Int),x]:=by rw[Ï,aab];congr 1;apply Ĕ;intro i;simp only[ē];congr 1;funext x;rw[show j+(i+1)=j+1+i by lia]
  rw[e0,bH rfl];k_all;have w:dF [À (.obj s),À (sD names),À (sD k),À (.int 3),À (.obj L),À (.int j),À (.str nm),u,t] H=.nx [À (.obj s),À (sD names),À (sD k),À (.int 3),À (.obj L),À (.int j),À (.str nm),À (.int v),À (.tup (its.map bR))] (H2.set L (.lst ((d++[(⟨nm,W,mix,its⟩:cR)]).map aL))):=by
   have A:=KQ names m j g [À (.obj s),À (sD names),À (sD k),À (.int 3),À (.obj L),À (.int j),À (.str nm),À (.int v),t] H1 rfl rfl;have h:dF=av (aC 7 (aF 1 aD #[(0)])) (aC 8 (aF 4 dR #[(0),(1),eFn (iE (1) (aS (aj ay (5) {1})) bU),(3)])<|>xu):=rfl;rw[h];generalize xu=TR at y |-;generalize hE:eFn (iE (1) (aS (aj ay (5) {1})) bU)=E at A |-;generalize sD (names.drop (j+1))=FD at I A;generalize sD names=NA at I y A |-;generalize sD k=KA at y A |-;generalize its.map bR=IA at I y |-
   simp_all! [e1,A,I,y]
  rw[w,eL];exact k6
theorem KU{T:D2}(K:lJ T){s:Nat}(names k:P3)(z:names≠[])(G:names.length<=50)(i:∀x∈names,Ñ x=Ã)(hk:k≠[])(Y:k.length<=100)(S:∀x∈k,Ñ x=Ã)(n L:Nat)(X:n<=L)(U7:s<n):
  ∀(xs:X2)(f d:List cR)(H:DH)(C g p l:X9),f.length<=50->d.length+xs.length<=50->(∀r∈d,KP names k r)->bf s T H->H[L]?=À (.lst ((f++d).map aL)) ->
   ∃(c:List cR)(H':DH)(M R Q J:X9),c.length<=d.length+xs.length/\(∀r∈c,KP names k r)/\bf s T H'/\Fm s n H H'/\H'[L]?=À (.lst ((f++c).map aL)) /\
    bh (gN 5) fC xs [À (.obj s),À (sD names),À (sD k),À (.int 3),À (.obj L),C,g,p,l] H=.nx [À (.obj s),À (sD names),À (sD k),À (.int 3),À (.obj L),M,R,Q,J] H'
 |[],f,d,H,C,g,p,l,W,hz,m,N,O=>⟨d,H,C,g,p,l,by simp,m,N,.refl,O,by simp[bh]⟩
 |x::xs,f,d,H,C,g,p,l,W,hz,m,N,O=>by
  simp only[Ó]at hz;have D:L≠s:=∅
  obtain⟨v,V,u1,s1,l1,e1⟩:=eu K N;have xq:=u1.get D O;obtain⟨its,A,i1,i2,s2,F,B⟩:=xr K names (names.take 2) z ∅ i (λx m=>ş m) () s1;have RL:L<V.length:=(Â.mp xq).1;have Z:=F.keep L _ RL D xq;obtain⟨nm,u,ep⟩:=qe names z ∅ (v/16);obtain⟨kd,mix,I,j⟩:=A7 k hk Y S nm v its (f++d) () L A Z (À (.obj s)) (À (sD names)) (À (.int 3)) (À x);have NK:=OE i S i1 i2 mix u I;have y:0<names.length:=ğ.mpr z;have mJ:∀H,aM [sD names] H=.ok (.int names.length) H:=λH=>by unfold sD;simp only[aM,ak,Û]
  rw[â]at j;obtain⟨c,H',M,R,Q,J,k1,k2,k3,k4,k5,k6⟩:=KU K names k z G i hk Y S n L X U7 xs f (d++[(⟨nm,kd,mix,its⟩:cR)]) _ (À x) (À (.str nm)) (À (.int v)) (À (.tup (its.map bR))) W () (λr P=>by
   rcases ì.mp P with h|h
   ·exact m r h
   ·rw[ï.mp h];exact NK) (s2.set D) (gy Z)
  refine⟨c,H',M,R,Q,J,by simp only[Ý,Ó,ď]at k1 |-;lia,k2,k3,((u1.fm.trans ⟨F.len,λq o a b e=>F.keep q o (by have:=(Â.mp e).1;lia) b e⟩).trans (.set X)).trans k4,k5,?_⟩;rw[bH rfl];k_all;have t:fC [À (.obj s),À (sD names),À (sD k),À (.int 3),À (.obj L),À x,g,p,l] H=.nx [À (.obj s),À (sD names),À (sD k),À (.int 3),À (.obj L),À x,À (.str nm),À (.int v),À (.tup (its.map bR))] (A.set L (.lst ((f++(d++[(⟨nm,kd,mix,its⟩:cR)])).map aL))):=by
   have w:=KR names ∅ [À (.obj s),À (sD names),À (sD k),À (.int 3),À (.obj L),À x,g,À (.int v),l] V rfl;have h:fC=av (aC 7 (aF 1 aD #[(0)])) (aC 8 (aF 4 dR #[(0),(1),eFn (iE (1) bU (aS {2})),(3)])<|>aC 6 ((1)\(aj aX (aj bJ (7) {16}) (ai aM #[(1)])))<|>xu):=rfl;rw[h];have em:∀τ:DS,τ[7]?=À (À (.int v))->τ[1]?=À (À (sD names))->aj aE (1) (aj aX (aj bJ (7) {16}) (ai aM #[(1)])) τ A=.ok (.str nm) A:=by intro τ h7 h1;generalize sD names=NA at h1 mJ ep;simp[h7,h1,mJ,aP,y,ep]
   have U:=em [À (.obj s),À (sD names),À (sD k),À (.int 3),À (.obj L),À x,g,À (.int v),À (.tup (its.map bR))] rfl rfl;generalize xu=TR at j |-;generalize hE:eFn (iE (1) bU (aS {2}))=E at w |-;generalize hM:aj aE (1) (aj aX (aj bJ (7) {16}) (ai aM #[(1)]))=EM at U |-;generalize sD (names.take 2)=FD at B w;generalize sD names=NA at B j w U |-;generalize sD k=KA at j w U |-;generalize its.map bR=IA at B j U |-
   simp_all! [e1,w,B,U,j]
  rw[t,eL];exact k6
structure NN(names kinds:P3)(rs:List cR):Prop where
 le:rs.length<=names.length+2
 ge:names.length<=rs.length
 fst:∀(i:Nat) r,i<names.length->rs[i]?=À r->RT names kinds i r
 all:∀r∈rs,KP names kinds r
theorem Gz{m:D2}(o:lJ m){s:Nat}(n0:Str)(n a:P3)(Q:n.length<=10)(c:∀x∈n0::n,Ñ x=Ã)(F:a≠[])(E:a.length<=100)(M:∀x∈a,Ñ x=Ã){G:DH}(h:bf s m G):
  ∃(b:List cR)(G':DH),NN (n0::n) a b/\bf s m G'/\Fm s G.length G G'/\gk [.obj s,sD (n0::n),sD a,.int 3] G=.ok (c7 n0 b) G':=by
 have d:=h.lt;have A:n0::n≠[]:=by simp
 obtain⟨b,Z,B,K,I,z,k1,k2,k3,N,k5,L⟩:=KS o (n0::n) a A () c F E M G.length G.length (Ë _) d (n0::n) 0 [] (G++[.lst []]) Æ Æ Æ Æ rfl rfl ⋯ h.app (lS _ _ _);obtain⟨v,G2,w,T,l2,R⟩:=eu o k3;have S:=w.get (q:=G.length) ∅ k5;have Y:0<=v%3:=∅
 have c1:v%3<3:=∅
 have C:=mS (j:=v%3) Y ∅;obtain⟨f,G3,q5,q6,q7,q8,O,U,j3,W,y,l⟩:=KU o (n0::n) a A () c F E M G.length G.length (Ë _) d ((Ē 0 (v%3).toNat).map λ(k:Nat)=>.int (0+(k:Int))) b [] G2 B K I z (by rw[k1];simp;lia) () ⋯ T (by rw[ö];exact S);have hel:f.length<=2:=by simp at O;lia
 have hrl:b.length=n.length+1:=‹k1›
 refine⟨b++f,G3,⟨by simp;lia,by simp;lia,λi r p e=>?_,λr t=>?_⟩,j3,((Fm.app.trans N).trans w.fm).trans W,?_⟩
 ·rw[Î (by rw[k1];exact p)]at e;exact k2 i r e
 ·rcases ì.mp t with h|h
  ·obtain⟨i,p,e⟩:=Ļ h;exact(k2 i r (by rw[Í p,e])).1
  ·exact U r h
 ·gn_on;have hz:(b++f).length<=Ç:=lz ();have z2:(2:Nat)<=Ç:=lz ∅;have u:=qU (g:=gP 5 6) (body:=dF) (xs:=(n0::n).map D.str) (τ:=[À (.obj s),À (sD (n0::n)),À (sD a),À (.int 3),À (.obj G.length),Æ,Æ,Æ,Æ]) (G:=G++[.lst []]);simp only[İ]at L;rw[L]at u;have J:∀H,aE (sD (n0::n)) (.int 0) H=.ok (.str n0) H:=λH=>by have:iz ((n0::n).map D.str) ((0:Nat):Int)=À (.str n0):=b9 rfl;unfold sD;simp only[aE,ak];rw[show((0:Int))=((0:Nat):Int) from rfl,this]
  have P:sD (n0::n)=.con ((n0::n).map .str):=rfl;have X:∀H,ak H (sD (n0::n))=À (.lst ((n0::n).map D.str)):=λH=>rfl;have V:ng (gP 5 6) dF (oZ (sD (n0::n))) (((n0::n).map D.str).length+1) 0 [À (.obj s),À (sD (n0::n)),À (sD a),À (.int 3),À (.obj G.length),Æ,Æ,Æ,Æ] (G++[.lst []])=.nx [À (.obj s),À (sD (n0::n)),À (sD a),À (.int 3),À (.obj G.length),B,K,I,z] Z:=u;clear u;generalize(n0::n).map D.str=NL at V X;generalize sD (n0::n)=NA at V l J X |-;generalize sD a=KA at V l |-;generalize((Ē 0 (v%3).toNat).map λ(k:Nat)=>D.int (0+(k:Int)))=xs at C l;unfold gk;rw[bQ];unfold lq jH c7
  simp_all! [aR,Α h0,gZ,jX,X,V]
  simp_all! [qF,R]
  generalize b++f=RS at y hz |-;simp[aP,C,l,gK,ak,y,aY,hz,z2,J]
structure Fp(P:Nat->Prop)(G G':DH):Prop where
 len:G.length<=G'.length
 keep:∀(q:Nat)(o:DO),¬ P q->G[q]?=À o->G'[q]?=À o
theorem Fp.refl{P:Nat->Prop}{G:DH}:Fp P G G:=⟨Ë _,λ_ _ _ e=>e⟩
theorem Fp.trans{P:Nat->Prop}{G G' U:DH}(h:Fp P G G')(h':Fp P G' U):Fp P G U:=⟨ü h.len h'.len,λq o a e=>h'.keep q o a (h.keep q o a e)⟩
theorem Fp.mono{P Q:Nat->Prop}{G G':DH}(h:Fp P G G')(b:∀q,q<G.length->P q->Q q):Fp Q G G':=⟨h.len,λq o a e=>h.keep q o (λz=>a (b q (Â.mp e).1 z)) e⟩
theorem Up.fp{P:Nat->Prop}{s:Nat}{c:D2}{G G':DH}(h:Up s c G G')(b:P s):Fp P G G':=⟨h.len,λq o a e=>h.get (λz=>a (z▸b)) e⟩
theorem Fp.set{P:Nat->Prop}{G:DH}{L:Nat}{x:DO}(h:P L):Fp P G (G.set L x):=⟨by simp,λq o a e=>by rw[Ô (λz=>a (by rw[<- z];exact h))];exact e⟩
theorem Fp.app{P:Nat->Prop}{G R:DH}:Fp P G (G++R):=⟨by simp,λq o a e=>aH e⟩
def XX(f:Int)(i:Itm)(c:Int):Prop:=i.lo<=c/\c<=i.lo+79/\(f<=0->c=i.lo)/\∀h,i.hi=À h->c<=h
def qf(f:Int):List Itm->D2->Prop
 |[],[]=>True
 |i::r,c::d=>XX f i c/\qf f r d
 |_,_=>False
theorem uZ{f n:Int}(h:n<=f):∀{its:List Itm}{j:D2},qf n its j->(f<=0->n<=0)->qf f its j
 |[],[],_,_=>trivial
 |[],_::_,z,_=>z.elim
 |_::_,[],z,_=>z.elim
 |i::r,c::d,z,a=>⟨⟨z.1.1,z.1.2.1,λb=>z.1.2.2.1 (a b),z.1.2.2.2⟩,uZ h z.2 a⟩
theorem rP{p:D2}(U:lJ p){s f Lf:Nat}(V:s≠f)(N:s≠Lf)(X:f≠Lf)(r:D):∀(its:List Itm),(∀i∈its,0<=i.lo/\∀h,i.hi=À h->i.lo<=h)->∀(a:D2)(b:Int)(H:DH)(w C u o o8:X9),a.length+its.length<=100->bf s p H->H[f]?=À (.lst [.int b])->H[Lf]?=À (.lst (a.map .int)) ->
  ∃(G:D2)(E:Int)(H':DH)(T K R Q J:X9),qf b its G/\E<=b/\bf s p H'/\H'[f]?=À (.lst [.int E])/\H'[Lf]?=À (.lst ((a++G).map .int))/\Fp (λq=>q=s\/q=f\/q=Lf) H H' /\
   bh (Nh 4 5 6) eU (its.map bR) [À (.obj s),À r,À (.obj f),À (.obj Lf),w,C,u,o,o8] H=.nx [À (.obj s),À r,À (.obj f),À (.obj Lf),T,K,R,Q,J] H'
 |[],hi,a,b,H,w,C,u,o,o8,hz,y,I,L=>⟨[],b,H,w,C,u,o,o8,trivial,∅,y,I,by rw[ö];exact L,.refl,by simp[bh]⟩
 |i::its,hi,a,b,H,w,C,u,o,o8,hz,y,I,L=>by
  simp only[Ó]at hz;obtain⟨hlo,A⟩:=hi i ⋯;have et:Nh 4 5 6 (bR i) [À (.obj s),À r,À (.obj f),À (.obj Lf),w,C,u,o,o8]=À [À (.obj s),À r,À (.obj f),À (.obj Lf),À (.str i.nm),À (.int i.lo),À (iP i.hi),o,o8]:=rfl;have hfx:aE (.obj f) (.int 0) H=.ok (.int b) H:=by have:iz [D.int b] 0=À (.int b):=b9 (j:=0) rfl;simp only[aE,ak,I,this]
  have k:∃(m:Int)(c:DH)(F:X9),0<=m/\m<=79/\(b<=0->m=0)/\(∀h,i.hi=À h->i.lo+m<=h)/\bf s p c/\Up s p H c/\(iV (cy (aj qA ((2)\{0}) {0})) cZ bC) [À (.obj s),À r,À (.obj f),À (.obj Lf),À (.str i.nm),À (.int i.lo),À (iP i.hi),À (.int 0),o8] H=.nx [À (.obj s),À r,À (.obj f),À (.obj Lf),À (.str i.nm),À (.int i.lo),À (iP i.hi),À (.int m),F] c:=by
   by_cases h0:0<b
   ·obtain⟨v,c,u1,s1,l1,e1⟩:=eu U y;have b0:0<=v%3:=∅
    have b1:v%3<=2:=∅
    cases hh:i.hi with
    |none=>
     by_cases Y:v/3%8=5
     ·refine⟨v/24%80,c,À (.int v),∅,∅,λz=>∅,λh e=>(by cases e),s1,u1,?_⟩;simp[hfx,h0,cZ,e1,aP,iP,fH,Y,jn]
     ·have h6:(v/3%8==5)=Ä:=‹Y›
      refine⟨v%3,c,À (.int v),b0,∅,λz=>∅,λh e=>(by cases e),s1,u1,?_⟩;simp[hfx,h0,cZ,e1,aP,iP,fH,h6,jn]
    |some z=>have hz':=A z hh;refine⟨if z-i.lo<v%3 then z-i.lo else v%3,c,À (.int v),by split<;>lia,by split<;>lia,λz=>∅,λh e=>(by cases e;split<;>lia),s1,u1,?_⟩;simp[hfx,h0,cZ,e1,aP,iP,fH,dY]
   ·refine⟨0,H,o8,∅,∅,λ_=>rfl,λh e=>by have:=A h e;lia,y,.refl y,?_⟩;simp[hfx,h0,aP]
  obtain⟨m,c,F,m0,m2,mz,mh,s1,u1,e1⟩:=k;have M:=u1.get (ô V) I;have W:=u1.get (ô N) L;have GV:a.length<Ç:=Ø ∅ (lz (n:=1001) ∅);generalize t:c.set Lf (.lst ((a++[i.lo+m]).map .int))=d;have yX:d[Lf]?=À (.lst ((a++[i.lo+m]).map .int)):=by rw[<- t];exact gy W
  have g:d[f]?=À (.lst [.int b]):=by rw[<- t,Ô (ô X)];exact M
  have s2:bf s p d:=by rw[<- t];exact s1.set (ô N)
  generalize B:d.set f (.lst [.int (b-m)])=l;have VQ:l[f]?=À (.lst [.int (b-m)]):=by rw[<- B];exact gy g
  have P:l[Lf]?=À (.lst ((a++[i.lo+m]).map .int)):=by rw[<- B,Ô X];exact yX
  have Z:bf s p l:=by rw[<- B];exact s2.set (ô V)
  obtain⟨G,E,H',T,K,R,Q,J,j1,j2,j3,j4,j5,j6,j7⟩:=rP U V N X r its (λj hj=>hi j (by simp[hj])) (a++[i.lo+m]) (b-m) l (À (.str i.nm)) (À (.int i.lo)) (À (iP i.hi)) (À (.int m)) F () Z VQ P;refine⟨(i.lo+m)::G,E,H',T,K,R,Q,J,⟨⟨∅,∅,λz=>by rw[mz z];lia,mh⟩,uZ ∅ j1 (λz=>∅)⟩,∅,j3,j4,by rw[j5];simp,?_,?_⟩
  ·have f2:Fp (λq=>q=s\/q=f\/q=Lf) c d:=by rw[<- t];exact .set (.inr (.inr rfl))
   have f3:Fp (λq=>q=s\/q=f\/q=Lf) d l:=by rw[<- B];exact .set (.inr (.inl rfl))
   exact(((u1.fp (.inl rfl)).trans f2).trans f3).trans j6
  ·rw[Ï,bH et];have O:Bt [D.int b].length 0=À 0:=rfl;have XZ:aE (.obj f) (.int 0) d=.ok (.int b) d:=by have:iz [D.int b] 0=À (.int b):=b9 (j:=0) rfl;simp only[aE,ak,g,this]
   have X0:(a++[i.lo+m]).map D.int=a.map .int++[.int (i.lo+m)]:=by simp
   rw[X0]at t;have YZ:d.set f (.lst ([D.int b].set 0 (.int (b-m))))=l:=B;have x:eU [À (.obj s),À r,À (.obj f),À (.obj Lf),À (.str i.nm),À (.int i.lo),À (iP i.hi),o,o8] H=.nx [À (.obj s),À r,À (.obj f),À (.obj Lf),À (.str i.nm),À (.int i.lo),À (iP i.hi),À (.int m),F] l:=by unfold eU;generalize hS:iV (cy (aj qA ((2)\{0}) {0})) cZ bC=S at e1 |-;generalize iP i.hi=HD at e1 |-;simp only[f9,lU,MF,rF,ic,ß,à,e1,iH,jS,gQ,ň,acm,e8,dB,W,beq_self_eq_true,if_true,x6,tQ,wA,aJ,kM,Oi,br,Û,Α GV,t,lC,pI,XZ,aP,kD,g,O,B]
   rw[x,eL];exact j7
theorem A8(r:cR)(G:DH):aE (aL r) (.int 3) G=.ok (.tup (r.its.map bR)) G:=by unfold aL aK;simp![Sm]
theorem KY(r:cR)(G:DH):aE (aL r) (.int 2) G=.ok (.str (if r.mix=Ã then "mix" else "row")) G:=by unfold aL aK;simp![at2]
theorem C4{l:D2}(B:lJ l){s f:Nat}(V:s≠f)(r:cR)(k:sI r)(b:Int){H:DH}(p:bf s l H)(o:H[f]?=À (.lst [.int b])):
  ∃(j:D2)(n:Int)(H':DH),qf b r.its j/\n<=b/\bf s l H'/\H'[f]?=À (.lst [.int n])/\Fp (λq=>q=s\/q=f\/H.length<=q) H H'/\g8 [.obj s,aL r,.obj f] H=.ok (.con (j.map .int)) H':=by
 have t:=p.lt;have A:f<H.length:=(Â.mp o).1;obtain⟨j,n,a,L,G,J,F,E,x,v,y,w,c,z,d⟩:=rP B (s:=s) (f:=f) (Lf:=H.length) V ∅ ∅ (aL r) r.its (λi m=>⟨k.wf.lo i m,k.wf.hi i m⟩) [] b (H++[.lst []]) Æ Æ Æ Æ Æ (by have:=k.two;simp;lia) p.app (aH o) (lS _ _ _);rw[ã]at c;have K:H.length<a.length:=(Â.mp c).1;refine⟨j,n,a.set H.length .dead,x,v,y.set ∅,by rw[Ô ∅];exact w,?_,?_⟩
 ·have D:Fp (λq=>q=s\/q=f\/H.length<=q) H (H++[.lst []]):=.app;have u:Fp (λq=>q=s\/q=f\/H.length<=q) (H++[.lst []]) a:=z.mono λq _ h=>by
   rcases h with h|h|h
   ·exact .inl h
   ·exact .inr (.inl h)
   ·exact .inr (.inr ∅)
  exact(D.trans u).trans (.set (.inr (.inr (Ë _))))
 ·gn_on;have g:=A8 r;generalize aL r=R at g d |-;generalize r.its.map bR=I at g d;have C:∀τ:DS,τ[3]?=À (À (.obj H.length))->vn (3) τ a=.ok (.con (j.map .int)) (a.set H.length .dead):=by
   intro τ h;unfold vn;have e:aa 3 τ a=.ok (.obj H.length) a:=by rw[gQ,h]
   rw[e];k_in;rw[c]
  unfold g8;rw[bQ];unfold jF
  simp_all! [aR,Α h0,iZ,g,d]
  rw[C _ rfl,pq,jT]
theorem Eb(a b:P3)(x:Str):cnt (a++b) x=cnt a x+cnt b x:=by simp[cnt]
theorem NO(r:P3)(k:Nat)(n x:Str):cnt (r.take k++n::r.drop k) x=cnt r x+(if n=x then 1 else 0):=by
 have h:=Eb (r.take k) (r.drop k) x;rw[ŵ]at h;rw[Eb,h];by_cases e:n=x
 ·kpc_g;rw[Kl,Α rfl];lia
 ·rw[Kh (ô e),Β e];lia
theorem A9{C:D2}(T:lJ C){s L:Nat}(K:s≠L)(r:cR)(i:Itm)(j:D):∀(xs:X2)(a:P3)(H:DH)(f:X9)(E o:X9),a.length+xs.length<=900->bf s C H->H[L]?=À (.lst (a.map .str)) ->
  ∃(k:P3)(H':DH)(P O:X9),k.length=a.length+xs.length/\(∀x∈k,x∈a\/(x=i.nm/\0<xs.length))/\(∀x,cnt k x=cnt a x+(if i.nm=x then (xs.length:Int) else 0))/\(r.mix=Ä->k=a++Ö xs.length i.nm)/\bf s C H'/\H'[L]?=À (.lst (k.map .str))/\Fp (λq=>q=s\/q=L) H H' /\
   bh (gN 6) fk xs [À (.obj s),À (aL r),À j,À (.obj L),À (bR i),f,E,o] H=.nx [À (.obj s),À (aL r),À j,À (.obj L),À (bR i),f,P,O] H'
 |[],a,H,f,E,o,hz,p,t=>⟨a,H,E,o,by simp,λx U=>.inl U,λx=>by simp,λ_=>by simp,p,t,.refl,by simp[bh]⟩
 |x::xs,a,H,f,E,o,hz,p,t=>by
  simp only[Ó]at hz;have mJ:aM [.obj L] H=.ok (.int a.length) H:=by simp only[aM,ak,t,Û]
  have J:∃(b:Nat)(d:DH),b<=a.length/\(r.mix=Ä->b=a.length)/\bf s C d/\Up s C H d/\(iV (cy (aj (fG Ä) ((1)\{2}) ("mix"))) (aC 7 (aj aX (aF 1 aD #[(0)]) (aj ay (ai aM #[(3)]) {1}))) bC) [À (.obj s),À (aL r),À j,À (.obj L),À (bR i),f,À x,À (.int a.length)] H=.nx [À (.obj s),À (aL r),À j,À (.obj L),À (bR i),f,À x,À (.int (b:Int))] d:=by
   have V:=KY r H;have g:=yI r.mix H;generalize(if r.mix=Ã then ("mix":Str) else "row")=rm at V g;generalize aL r=R at V |-;generalize bR i=I;cases Y0:r.mix with
   |false=>rw[Y0]at g;exact⟨a.length,H,Ë _,λ_=>rfl,p,.refl p,by simp[V,g]⟩
   |true=>
    rw[Y0]at g;obtain⟨v,d,u,M,l1,l⟩:=eu T p;have G:=u.get (ô K) t;have X:aM [.obj L] d=.ok (.int a.length) d:=by simp only[aM,ak,G,Û]
    have k0:0<=v%((a.length:Int)+1):=abp _ ∅;have k1:v%((a.length:Int)+1)<(a.length:Int)+1:=aau _ ∅;have A:(0:Int)<(a.length:Int)+1:=∅
    refine⟨(v%((a.length:Int)+1)).toNat,d,∅,λz=>(by cases z),M,u,?_⟩;rw[ac8 k0];simp[V,g,l,X,kM,aP,A]
  obtain⟨b,d,a1,am,M,u,l⟩:=J;have G:=u.get (ô K) t;generalize c:a.take b++i.nm::a.drop b=B;have hr1:B.length=a.length+1:=by rw[<- c];simp;lia
  have w:∀y∈B,y∈a\/y=i.nm:=by
   intro y F;rw[<- c]at F;rcases ì.mp F with h|h
   ·exact .inl (ş h)
   ·rcases Ù.mp h with h|h
    ·exact .inr h
    ·exact .inl (Ž h)
  obtain⟨k,H',P,O,j1,j2,jc,Z,j3,j4,W,j6⟩:=A9 T K r i j xs B (d.set L (.lst (B.map .str))) f (À x) (À (.int (b:Int))) ∅ (M.set (ô K)) (gy G);refine⟨k,H',P,O,by simp only[Ó];lia,λy F=>?_,λy=>?_,λg=>?_,j3,j4,((u.fp (.inl rfl)).trans (.set (.inr rfl))).trans W,?_⟩
  ·rcases j2 y F with h|h
   ·rcases w y h with h|h
    ·exact .inl h
    ·exact .inr ⟨h,by simp⟩
   ·exact .inr ⟨h.1,by simp⟩
  ·rw[jc y,<- c,NO];by_cases e:i.nm=y
   ·simp only[Α e,Ó];lia
   ·simp only[Β e];lia
  ·rw[Z g,<- c,am g,Ĵ,adM,Ó,Ċ];simp
  ·rw[bH rfl];k_all;have Y:a.length<Ç:=Ø ∅ (lz (n:=1001) ∅);have Q:=sL i;have X4:(a.map D.str).take b++D.str i.nm::(a.map D.str).drop b=B.map .str:=by rw[<- c];simp
   have N:0<=(b:Int)/\(b:Int)<1000/\(a.map D.str).length<Ç:=⟨∅,∅,‹Y›⟩;have m:fk [À (.obj s),À (aL r),À j,À (.obj L),À (bR i),f,À x,o] H=.nx [À (.obj s),À (aL r),À j,À (.obj L),À (bR i),f,À x,À (.int (b:Int))] (d.set L (.lst (B.map .str))):=by
    unfold fk;generalize hS:iV (cy (aj (fG Ä) ((1)\{2}) ("mix"))) (aC 7 (aj aX (aF 1 aD #[(0)]) (aj ay (ai aM #[(3)]) {1}))) bC=S at l |-;generalize bR i=I at l Q |-;generalize aL r=R at l |-
    simp_all! [mJ,l,iH,jS,dB,G,beq_self_eq_true,Q,pN,Α N,ó,X4,lC]
   rw[m,eL];exact j6
def zp:List Itm->D2->List (Itm×Int)
 |i::r,c::d=>(i,c)::zp r d
 |_,_=>[]
def vJ:List (Itm×Int)->Str->Int
 |[],_=>0
 |p::l,x=>(if p.1.nm=x then p.2 else 0)+vJ l x
def mK:List (Itm×Int)->P3
 |[]=>[]
 |p::l=>Ö p.2.toNat p.1.nm++mK l
theorem Bb{B:D2}(G:lJ B){s L:Nat}(M:s≠L)(r:cR)(d:D):∀(l:List (Itm×Int)),(∀p∈l,0<=p.2/\p.2<=81)->∀(a:P3)(H:DH)(g m o b:X9),a.length+81*l.length<=900->bf s B H->H[L]?=À (.lst (a.map .str)) ->
  ∃(f:P3)(H':DH)(V U t n:X9),(f.length:Int)=a.length+(l.map (·.2)).sum/\(∀x∈f,x∈a\/∃p∈l,x=p.1.nm/\0<p.2)/\(∀x,cnt f x=cnt a x+vJ l x)/\(r.mix=Ä->f=a++mK l)/\bf s B H'/\H'[L]?=À (.lst (f.map .str))/\Fp (λq=>q=s\/q=L) H H' /\
   bh (gP 4 5) dS (l.map λp=>.tup [bR p.1,.int p.2]) [À (.obj s),À (aL r),À d,À (.obj L),g,m,o,b] H=.nx [À (.obj s),À (aL r),À d,À (.obj L),V,U,t,n] H'
 |[],z,a,H,g,m,o,b,hz,w,y=>⟨a,H,g,m,o,b,by simp,λx u=>.inl u,λx=>by simp[vJ],λ_=>by simp[mK],w,y,.refl,by simp[bh]⟩
 |(i,c)::l,z,a,H,g,m,o,b,hz,w,y=>by
  simp only[Ó]at hz;obtain⟨v,h4⟩:=z (i,c) ⋯;dsimp only at v h4;have J:=mS (j:=c) v ∅;obtain⟨Z,F,t,n,C,K,N,I,j3,Y,T,O⟩:=A9 G M r i d ((Ē 0 c.toNat).map λ(k:Nat)=>.int (0+(k:Int))) a H (À (.int c)) o b () w y;simp only[Û,List.length_range']at C K N I;obtain⟨f,H',R,W,Q,P,k1,k2,kc,X,k3,S,k5,k6⟩:=Bb G M r d l (λp A=>z p (by simp[A])) Z F (À (bR i)) (À (.int c)) t n ∅ j3 Y;refine⟨f,H',R,W,Q,P,by rw[k1,C];simp;lia,λx u=>?_,λx=>?_,λE=>?_,k3,S,T.trans k5,?_⟩
  ·rcases k2 x u with h|⟨p,A,h⟩
   ·rcases K x h with h|h
    ·exact .inl h
    ·exact .inr ⟨(i,c),by simp,h.1,by have:=h.2;lia⟩
   ·exact .inr ⟨p,by simp[A],h⟩
  ·rw[kc x,N x,vJ];k_in;rw[ac8 v];lia
  ·rw[X E,I E,mK,â]
  ·rw[Ï,bH rfl];k_all;have e:dS [À (.obj s),À (aL r),À d,À (.obj L),À (bR i),À (.int c),o,b] H=.nx [À (.obj s),À (aL r),À d,À (.obj L),À (bR i),À (.int c),t,n] F:=by
    unfold dS;generalize((Ē 0 c.toNat).map λ(k:Nat)=>D.int (0+(k:Int)))=xs at J O
    simp_all! [qF,J,O]
   rw[e,eL];exact k6
theorem KZ:∀(its:List Itm)(j:D2),õ (λx y=>D.tup [x,y]) (its.map bR) (j.map .int)=(zp its j).map λp=>.tup [bR p.1,.int p.2]
 |[],j=>by simp[zp]
 |i::r,[]=>by simp[zp]
 |i::r,c::d=>by simp[zp,KZ r d]
theorem OF{g:Int}:∀{its:List Itm}{a:D2},qf g its a->(∀i∈its,0<=i.lo/\i.lo<=2)->(∀p∈zp its a,p.1∈its/\0<=p.2/\p.2<=81/\(g<=0->p.2=p.1.lo))/\((zp its a).map (·.2)).sum<=81*its.length/\(g<=0->((zp its a).map (·.2)).sum<=2*its.length)/\(zp its a).length=its.length
 |[],[],_,_=>by simp[zp]
 |[],_::_,z,_=>z.elim
 |_::_,[],z,_=>z.elim
 |i::r,c::d,z,h=>by
  obtain⟨⟨w,x,k,_⟩,s⟩:=z;obtain⟨q,u,t,n⟩:=OF s λj m=>h j (by simp[m]);have v:=h i ⋯;refine⟨λp f=>?_,?_,λb=>?_,by simp[zp,n]⟩
  ·rw[zp]at f;rcases Ù.mp f with rfl|f
   ·exact⟨by simp,by dsimp only;lia,by dsimp only;lia,λb=>by dsimp only;exact k b⟩
   ·obtain⟨o,l⟩:=q p f;exact⟨by simp[o],l⟩
  ·simp only[zp,Ï,adf,Ó];lia
  ·have e:=k b;have:=t b;simp only[zp,Ï,adf,Ó];lia
theorem Ec(i:Itm)(f:P3->Bool){w:P3}(h:∀n t,w=n::t->n≠i.nm):∀(m:Nat)(y:Int),jj i f y (Ö m i.nm++w)=(inR i (y+m)&&f w)
 |0,y=>by
  simp only[ac7,ã];cases w with
  |nil=>simp[jj]
  |cons n t=>rw[jj,Β (h n t rfl)];simp
 |m+1,y=>by rw[Ċ,ħ,jj,Α rfl,Ec i f h m (y+1)];congr 2;simp;lia
theorem Bd:∀{l:List (Itm×Int)}{x:Str},x∈mK l->∃p∈l,p.1.nm=x
 |[],_,h=>by simp[mK]at h
 |p::l,x,h=>by
  rw[mK]at h;rcases ì.mp h with h|h
  ·exact⟨p,by simp,(List.eq_of_mem_replicate h).symm⟩
  ·obtain⟨q,a,e⟩:=Bd h;exact⟨q,by simp[a],e⟩
theorem K1{its:List Itm}{jA:D2}{p:Itm×Int}(h:p∈zp its jA):p.1∈its:=by
 induction its generalizing jA with
 |nil=>simp[zp]at h
 |cons i r a=>
  cases jA with
  |nil=>simp[zp]at h
  |cons c d=>
   rw[zp]at h;rcases Ù.mp h with rfl|h
   ·simp
   ·simp[a h]
theorem Be{k:Int}:∀{its:List Itm}{f:D2},qf k its f->(its.map (·.nm)).Nodup->(∀i∈its,0<=i.lo)->cP its (mK (zp its f))=Ã
 |[],[],_,_,_=>by simp[zp,mK,cP]
 |[],_::_,z,_,_=>z.elim
 |_::_,[],z,_,_=>z.elim
 |i::r,c::d,z,a,b=>by
  obtain⟨⟨u,v,s,l⟩,q⟩:=z;rw[Ï,ę]at a;have hi:=b i ⋯;rw[zp,mK,cP];k_in;rw[Ec i (cP r) (λn t e=>?_) c.toNat 0,Be q a.2 λj g=>b j (by simp[g]),aal]
  ·unfold inR;rw[č];refine⟨decide_eq_true ∅,?_⟩;cases hh:i.hi with
   |none=>rfl
   |some h=>exact decide_eq_true (by have:=l h hh;lia)
  ·rintro rfl;have m:i.nm∈mK (zp r d):=by rw[e];simp
   obtain⟨p,o,e⟩:=Bd m;exact a.1 (ä.mpr ⟨p.1,K1 o,e⟩)
theorem Ed:∀{l:List (Itm×Int)}{x:Str},(∀p∈l,p.1.nm≠x)->vJ l x=0
 |[],_,_=>rfl
 |p::l,x,h=>by rw[vJ,Β (h p ⋯),Ed λq a=>h q (by simp[a])];lia
theorem Ef{n:Int}(a:P3):∀{its:List Itm}{m:D2},qf n its m->(its.map (·.nm)).Nodup->(∀i∈its,cnt a i.nm=vJ (zp its m) i.nm)->gC its (its.map λ_=>0) a=Ã
 |[],[],_,_,_=>by simp[gC]
 |[],_::_,z,_,_=>z.elim
 |_::_,[],z,_,_=>z.elim
 |i::r,c::d,z,b,l=>by
  obtain⟨⟨u,v,t,o⟩,s⟩:=z;rw[Ï,ę]at b;have hz:vJ (zp r d) i.nm=0:=Ed λp q e=>b.1 (ä.mpr ⟨p.1,K1 q,e⟩);have f:=l i ⋯;rw[zp,vJ]at f;dsimp only at f;rw[Α rfl,hz]at f;rw[Ï,gC,Ef a s b.2 (λj k=>?_),aal,f]
  ·unfold inR;rw[č];refine⟨decide_eq_true ∅,?_⟩;cases hh:i.hi with
   |none=>rfl
   |some h=>exact decide_eq_true (by have:=o h hh;lia)
  ·have g:=l j (by simp[k]);rw[zp,vJ]at g;dsimp only at g;rw[Β (λe=>b.1 (ä.mpr ⟨j,k,e.symm⟩))]at g;lia
theorem GA{v:D2}(O:lJ v){s:Nat}(r:cR)(k:WF r.its)(hr:r.its.length<=3)(m:∀i∈r.its,0<=i.lo/\i.lo<=2)(t:Int)(j:D2)(c:qf t r.its j){H:DH}(A:bf s v H):
  ∃(a:P3)(H':DH),a.length<=243/\(t<=0->a.length<=6)/\accept r.mix r.its a=Ã/\(∀x∈a,∃i∈r.its,x=i.nm/\(t<=0->0<i.lo))/\bf s v H'/\Fp (λq=>q=s\/H.length<=q) H H'/\iJ [.obj s,aL r,.con (j.map .int)] H=.ok (sD a) H':=by
 have B:=A.lt;obtain⟨z,z2,T,Z⟩:=OF c m;obtain⟨a,b,p4,p5,p6,Y,I,w,E,P,J,y,N,K⟩:=Bb O (s:=s) (L:=H.length) ∅ r (.con (j.map .int)) (zp r.its j) (λp d=>⟨(z p d).2.1,(z p d).2.2.1⟩) [] (H++[.lst []]) Æ Æ Æ Æ () A.app (lS _ _ _);simp at I;have hL:H.length<b.length:=(Â.mp y).1;refine⟨a,b.set H.length .dead,∅,λu=>by have:=T u;lia,?_,λx l=>?_,J.set ∅,?_,?_⟩
 ·cases hm:r.mix with
  |false=>rw[uJ r.its k,P hm,ã];exact Be c k.nd k.lo
  |true=>
   rw[uL r.its k,č];refine⟨?_,Ef a c k.nd λi W=>?_⟩
   ·unfold known;rw[œ];intro x l;rcases w x l with h|⟨p,d,n,M⟩
    ·simp at h
    ·rw[Ĝ];exact⟨p.1,(z p d).1,by simp[n]⟩
   ·rw[E i.nm];simp[cnt]
 ·rcases w x l with h|⟨p,d,n,M⟩
  ·simp at h
  ·obtain⟨S,V,c3,F⟩:=z p d;exact⟨p.1,S,n,λu=>by have:=F u;lia⟩
 ·have U:Fp (λq=>q=s\/H.length<=q) H (H++[.lst []]):=.app;have C:Fp (λq=>q=s\/H.length<=q) (H++[.lst []]) b:=N.mono λq _ h=>by
   rcases h with h|h
   ·exact .inl h
   ·exact .inr ∅
  exact(U.trans C).trans (.set (.inr (Ë _)))
 ·gn_on;have o:=A8 r;have Q:∀τ:DS,τ[3]?=À (À (.obj H.length))->vn (3) τ b=.ok (sD a) (b.set H.length .dead):=by
   intro τ h;unfold vn;have e:aa 3 τ b=.ok (.obj H.length) b:=by rw[gQ,h]
   rw[e];k_in;rw[y];rfl
  have f:=JX (g:=gP 4 5) (body:=dS) (xs:=r.its.map bR) (ys:=j.map .int) (τ:=[À (.obj s),À (aL r),À (.con (j.map .int)),À (.obj H.length),Æ,Æ,Æ,Æ]) (G:=H++[.lst []]);rw[KZ,K]at f;generalize j.map D.int=CT at f |-;generalize aL r=R at o f |-;generalize r.its.map bR=X at o f;unfold iJ;rw[bQ];unfold kY
  simp_all! [aR,Α h0,gZ,Nk,o,b8,ak,f]
  rw[Q _ rfl,pq,jT]
theorem yS(r:cR)(G:DH):aE (aL r) (.int 0) G=.ok (.str r.nm) G:=by unfold aL aK;simp![Kw]
theorem Eg(r:cR)(G:DH):aE (aL r) (.int 1) G=.ok (.str r.kd) G:=by unfold aL aK;simp![Ky]
theorem Bf(p:D2)(c:p.length<=900)(j:Int)(τ:DS)(H:DH)(i k:Nat)(b:τ[i]?=À (À (cD p)))(a:τ[k]?=À (À (.int j))):aj ay (aa i) (ai aY #[aa k]) τ H=.ok (cD (p++[j])) H:=by
 kcf_m;have h:ay (cD p) (.tup [.int j]) H=.ok (cD (p++[j])) H:=by unfold cD;rw[D3 _ _ _ (lz ())];simp
 simp_all! [b,a,aY,İ,Α z1,h]
def iN(a:List cR)(nm:Str):List Nat:=(Ē 0 a.length).filter λk=>(a[k]?.map λr=>r.nm==nm).getD Ä
theorem K2(n0:Str)(rs:List cR)(hz:rs.length<=100)(hrs:∀r∈rs,sI r)(nm:Str)(hnm:Ñ nm=Ã)(a0 a3 a4 a5:X9)(G:DH):
  eFn (dD fc oN [Ä,Ã,Ã] #[ai aM #[(1)\{1}]] (cy (aj (fG Ä) ((((2)\{1})\(0))\{0}) (3))) (0)) [a0,À (c7 n0 rs),À (.str nm),a3,a4,a5,Æ,Æ,Æ,Æ,Æ,Æ] G=.ok (.con ((iN rs nm).map λk:Nat=>.int (k:Int))) G:=by
 have pV:∀G,aE (c7 n0 rs) (.int 1) G=.ok (.tup (rs.map aL)) G:=λG=>by unfold c7;simp![uD]
 have hr:=mS (j:=(rs.length:Int)) ∅ ∅;have c1:=bX (τ:=[a0,À (c7 n0 rs),À (.str nm),a3,a4,a5,Æ,Æ,Æ,Æ,Æ,Æ]) (G:=G) (gO:=oN) (ks:=[Ä,Ã,Ã]) (tt:=cy (aj (fG Ä) ((((2)\{1})\(0))\{0}) (3))) (te:=aa 0) (own:=λk:Nat=>[.int (0+(k:Int))]) (dat:=λk=>.int (0+(k:Int))) (f:=λk=>.int (0+(k:Int))) (c:=λk=>(rs[k]?.map λr=>r.nm==nm).getD Ä) (Ē 0 rs.length) [] () (λx _=>rfl) (λk hk acc=>by
  have hk':k<rs.length:=by rw[adE]at hk;lia
  have hrk:rs[k]?=À rs[k]:=Í hk';have hat:iz (rs.map aL) (k:Int)=À (aL rs[k]):=nB (by rw[Þ,hrk];rfl);have i0:=yS rs[k];have he:=iG Ä rs[k].nm nm (G++[.lst acc]) (hrs _ (acg _)).sn hnm;rw[hrk];generalize rs[k]=r at hat i0 he;generalize c7 n0 rs=S at pV |-;have Sq:∀H,aE (.tup (rs.map aL)) (.int (k:Int)) H=.ok (aL r) H:=λH=>by simp only[aE,ak,hat]
  generalize rs.map aL=RS at pV Sq;generalize aL r=R at i0 Sq;rw[acy];simp[mask,pV,Sq,i0,he]) (λk hk acc=>by simp![mask])
 rw[ã]at c1;have hcl:aG ((iN rs nm).map λk:Nat=>D.int (k:Int))=Ã:=aA λ_=>cz;have e0:((Ē 0 rs.length).filter λk=>(rs[k]?.map λr=>r.nm==nm).getD Ä).map (λk:Nat=>D.int (0+(k:Int)))=(iN rs nm).map λk:Nat=>D.int (k:Int):=by unfold iN;apply ŧ;intro k _;rw[acy]
 rw[e0]at c1;have hlen:∀G,aM [.tup (rs.map aL)] G=.ok (.int rs.length) G:=λG=>by simp only[aM,ak,Û]
 rw[ó]at hr;generalize(iN rs nm).map (λk:Nat=>D.int (k:Int))=NB at c1 hcl |-;generalize c7 n0 rs=S at pV c1 |-;generalize rs.map aL=RS at pV hlen
 simp_all! [dh,tR,pV,hlen,hr,c1]
 rw[d7 hcl]
theorem K3{rs:List cR}{nm:Str}{k:Nat}(h:k∈iN rs nm):∃r,rs[k]?=À r/\r.nm=nm:=by
 unfold iN at h;obtain⟨a,h2⟩:=ļ.mp h;cases q:rs[k]? with
 |none=>rw[q]at h2;cases h2
 |some r=>rw[q]at h2;exact⟨r,rfl,‹h2›⟩
theorem rQ{p:Nat->Bool}:∀(n j:Nat){i:Nat},j<=i->i<j+n->p i=Ã->(∀k,j<=k->k<i->p k=Ä)->∃r,(Ē j n).filter p=i::r
 |0,j,i,f,d,_,_=>∅
 |n+1,j,i,f,d,c,h=>by
  rw[List.range'_succ];by_cases e:j=i
  ·kpc_g;rw[ĳ c];exact⟨_,rfl⟩
  ·rw[Ŭ (by rw[h j (Ë _) ∅];decide)];exact rQ n (j+1) ∅ ∅ c λk a b=>h k ∅ b
theorem GB{names a:P3}{c:List cR}(s:NN names a c)(f:names.Nodup){i:Nat}{nm:Str}(j:names[i]?=À nm):∃r,iN c nm=i::r:=by
 have h:i<names.length:=(Â.mp j).1;have m:=s.ge;have d:∀k,k<names.length->∃r,c[k]?=À r/\names[k]?=À r.nm:=λk l=>by have e:c[k]?=À (c[k]'∅):=Í ∅;exact⟨_,e,(s.fst k _ l e).2.1⟩
 refine rQ c.length 0 (ê _) ∅ ?_ ?_
 ·obtain⟨r,g,b⟩:=d i h;rw[g];rw[j]at b;simp[é b]
 ·intro k _ l;obtain⟨r,g,b⟩:=d k ∅;rw[g];show(r.nm==nm)=Ä;rw[beq_eq_false_iff_ne];intro e;rw[e,<- j]at b;have w:k<names.length:=∅
  rw[Í w,Í h]at b;have:=(ŀ f).mp (é b);lia
def need(f:Int)(i:Nat):Nat:=if 0<f then f.toNat+3 else 3-i
def s0:Nat->Nat
 |0=>0
 |k+1=>1+6*s0 k
def bnd(f:Int)(i:Nat):Nat:=10450*f.toNat+s0 (3-i)
theorem Eh{a b:Nat}(h:a<=b):s0 a<=s0 b:=by
 induction b with
 |zero=>rw[show a=0 by lia];exact Ë _
 |succ b i=>
  by_cases e:a=b+1
  ·rw[e];exact Ë _
  ·have:=i ∅;rw[s0];lia
theorem Vb{a:Nat}(h:a<=3):s0 a<=43:=ü (Eh h) (by decide)
def VS:T->Prop
 |.nd k p=>Ñ k=Ã/\p.length<=243
def Vc(t:T):Prop:=∀s∈t.subs,VS s
def X5(t:List T):Prop:=∀s∈bM t,VS s
theorem VS.ok{t:T}(h:VS t):XN t:=by
 cases t with
 |nd k ps=>exact⟨h.1,ü h.2 ∅⟩
theorem Vc.ok{t:T}(h:Vc t):yY t:=λs a=>(h s a).ok
def Vd:D2->T->Prop
 |[],_=>True
 |j::q,.nd _ p=>∃(k:Nat)(c:T),j=(k:Int)/\p[k]?=À c/\Vd q c
theorem Bg{p:cR->Bool}{x:Str}:∀(b:List cR)(a:P3),(x∈a\/∃r∈b,p r=Ã/\r.nm=x)->x∈b.foldl (lI p) a
 |[],a,h=>by
  rcases h with h|⟨r,h,_⟩
  ·l_fit
  ·simp at h
 |q::b,a,h=>by
  rw[Ď];refine Bg b _ ?_;rcases h with h|⟨r,h,d,c⟩
  ·refine .inl ?_;unfold lI;split
   ·simp[h]
   ·l_fit
  ·rcases Ù.mp h with rfl|h
   ·refine .inl ?_;unfold lI;split
    ·simp[c]
    ·rename_i f;by_cases e:r.nm∈a
     ·rw[<- c];exact e
     ·exact absurd ⟨d,e⟩ f
   ·exact .inr ⟨r,h,d,c⟩
theorem NP{b:List cR}{r:cR}(f:r∈b){t:List T}{a:P3}(d:a.length=t.length)(l:∀(k:Nat) x,a[k]?=À x->∃c,t[k]?=À c/\x∈bB b c)(g:accept r.mix r.its a=Ã):r.nm∈bB b (.nd r.kd t):=by rw[bB];refine Bg b [] (.inr ⟨r,f,?_,rfl⟩);unfold rX;rw[č,Ĝ];refine⟨by simp,a,(iw _ _ rfl a).mpr ⟨by rw[pX];simp[d],λi S nm e j=>?_⟩,g⟩;obtain⟨c,m,h⟩:=l i nm j;rw[pX,Þ,m]at e;cases e;exact h
structure Y3(s f mk:Nat):Prop where
 sf:s≠f
 sm:s≠mk
 fm:f≠mk
def GS(names:P3)(n0:Str)(r:List cR)(c:D2)(s f mk:Nat)(F:X2->M D)(N:Nat):Prop:=∀(nm:Str)(i:Nat)(a:Int)(p:D2)(ms:PD)(H:DH),names[i]?=À nm->need a i<=N->p.length+N<=100->(∀k∈ms.map (·.1),¬ p <+: k)->ms.length+bnd a i<1000000->bf s c H->H[f]?=À (.lst [.int a])->H[mk]?=À (.aO Ä (az ms)) ->
 ∃(t:T)(b:Int)(n:PD)(H':DH),Vc t/\t.subs.length+10450*b.toNat<=bnd a i/\b<=a-1/\n.length=t.subs.length/\(∀x∈n,∃q,x.1=p++q/\Vd q t/\q.length<N)/\nm∈bB r t/\bf s c H'/\H'[f]?=À (.lst [.int b])/\H'[mk]?=À (.aO Ä (az (ms++n)))/\Fp (λq=>q=s\/q=f\/q=mk\/H.length<=q) H H'/\F [.obj s,c7 n0 r,.str nm,.obj f,cD p,.obj mk] H=.ok t.d H'
theorem xw{names:P3}{n0:Str}{w:List cR}{cs:D2}{s f mk:Nat}(dd:Y3 s f mk){F:X2->M D}{N:Nat}(hF:GS names n0 w cs s f mk F N)(Y:Int)(i0 K:Nat)(hB:∀(m:Int) (i:Nat),m<=Y-1->(Y<=0->i0<i)->s0 (3-i)<=K/\need m i<=N)(p:D2)(hp:p.length+1+N<=100)(L:Nat)(D9:L≠s)(X:L≠f)(Y4:L≠mk)(J Q G I:X9):
  ∀(r:P3)(j:Nat)(l:List T)(ms:PD)(H:DH)(m:Int)(uT VT:X9),(∀x∈r,∃i,names[i]?=À x/\(Y<=0->i0<i))->m<=Y-1->(∀o∈ms.map (·.1),∀j':Int,(j:Int)<=j'->¬ (p++[j']) <+: o)->ms.length+10450*m.toNat+r.length*K<1000000->l.length+r.length<=300->bf s cs H->H[f]?=À (.lst [.int m])->H[mk]?=À (.aO Ä (az ms))->H[L]?=À (.lst (dL l)) ->
   ∃(a:List T)(V:Int)(A:PD)(H':DH)(vI VU:X9),X5 a/\a.length=r.length/\(bM a).length+10450*V.toNat<=10450*m.toNat+r.length*K/\V<=m/\A.length=(bM a).length/\(∀x∈A,∃(k:Nat)(c:T)(q:D2),a[k]?=À c/\x.1=p++((j+k:Nat):Int)::q/\Vd q c/\q.length<N)/\(∀(k:Nat) x,r[k]?=À x->∃c,a[k]?=À c/\x∈bB w c)/\bf s cs H'/\H'[f]?=À (.lst [.int V])/\H'[mk]?=À (.aO Ä (az (ms++A)))/\H'[L]?=À (.lst (dL l++dL a))/\Fp (λq=>q=s\/q=f\/q=mk\/q=L\/H.length<=q) H H' /\
    bh (gP 10 11) (gu F) ((r.map D.str).mapIdx λi x=>.tup [.int ((j+i:Nat):Int),x]) [À (.obj s),À (c7 n0 w),J,À (.obj f),À (cD p),À (.obj mk),Q,G,I,À (.obj L),uT,VT] H=.nx [À (.obj s),À (c7 n0 w),J,À (.obj f),À (cD p),À (.obj mk),Q,G,I,À (.obj L),vI,VU] H'
 |[],j,l,ms,H,m,uT,VT,hr,Y5,C,hz,hz2,O,hf,hm,Z=>by refine⟨[],m,[],H,uT,VT,λs O=>by rw[bM]at O;simp at O,rfl,by rw[bM];simp,adQ _,by rw[bM];rfl,λx hx=>(by simp at hx),λk x hx=>(by simp at hx),O,hf,by rw[ö];exact hm,by rw[dL,ö];exact Z,.refl,by simp[bh]⟩
 |x::r,j,l,ms,H,m,uT,VT,hr,Y5,C,hz,hz2,O,hf,hm,Z=>by
  simp only[Ó,acq r.length K]at hz hz2;obtain⟨i,hi,hii⟩:=hr x ⋯;obtain⟨b1,b2⟩:=hB m i Y5 hii;obtain⟨t,Y6,b,H1,t1,t2,t3,t4,t5,tn,t6,t7,t8,t9,Su⟩:=hF x i m (p++[(j:Int)]) ms H hi b2 () (λo z=>C o z (j:Int) (adQ _)) (by unfold bnd;lia) O hf hm;unfold bnd at t2;have t5':∀x∈b,(p++[(j:Int)]) <+: x.1:=λy g=>by obtain⟨q,e,_⟩:=t5 y g;rw[e];exact ı _ _
  have RL:L<H.length:=(Â.mp Z).1;have xq:=t9.keep L _ (by rintro(h|h|h|h)<;>lia) Z;have hdl:(dL l).length=l.length:=by rw[om,Û]
  have GV:(dL l).length<Ç:=Ø ∅ (lz (n:=1001) ∅);have W:dL (l++[t])=dL l++[t.d]:=by rw[om,om];simp
  generalize B:H1.set L (.lst (dL l++[t.d]))=v;have yX:v[L]?=À (.lst (dL (l++[t]))):=by rw[<- B,W];exact gy xq
  have hf2:v[f]?=À (.lst [.int Y6]):=by rw[<- B,Ô X];exact t7
  have hm2:v[mk]?=À (.aO Ä (az (ms++b))):=by rw[<- B,Ô Y4];exact t8
  have s2:bf s cs v:=by rw[<- B];exact t6.set D9
  obtain⟨a,V,U,H',vI,VU,k1,k2,k3,k4,k5,k6,kn,k7,k8,k9,VV,VW,OG⟩:=xw dd hF Y i0 K hB p hp L D9 X Y4 J Q G I r (j+1) (l++[t]) (ms++b) v Y6 (À (.int j)) (À (.str x)) (λy g=>hr y (by simp[g])) ∅ (λo z j' hj u=>by
   rw[ø,ì]at z;rcases z with z|z
   ·exact C o z j' ∅ u
   ·obtain⟨y,g,rfl⟩:=ä.mp z;have:=sJ (t5' y g) u;lia) (by rw[Ý,t4];lia) () s2 hf2 hm2 yX
  refine⟨t::a,V,b++U,H',vI,VU,?_,by simp[k2],?_,∅,?_,?_,?_,k7,k8,by rw[<- â];exact k9,?_,?_,?_⟩
  ·intro y g;rw[bM]at g;rcases ì.mp g with h|h
   ·exact t1 y h
   ·exact k1 y h
  ·rw[bM,Ý,Ó,acq r.length K];lia
  ·rw[bM,Ý,Ý,t4,k5]
  ·intro y g;rcases ì.mp g with h|h
   ·obtain⟨q,e,hq⟩:=t5 y h;exact⟨0,t,q,rfl,by rw[e];simp,hq⟩
   ·obtain⟨k,c,q,h1,h2,h3⟩:=k6 y h;exact⟨k+1,c,q,‹h1›,by rw[h2,show j+1+k=j+(k+1) by lia],h3⟩
  ·intro k y g;cases k with
   |zero=>simp at g;subst g;exact⟨t,rfl,tn⟩
   |succ k=>obtain⟨c,h1,h2⟩:=kn k y ‹g›;exact⟨c,‹h1›,h2⟩
  ·rw[VV,W,dL];simp
  ·have f1:Fp (λq=>q=s\/q=f\/q=mk\/q=L\/H.length<=q) H H1:=t9.mono λq _ h=>by
    rcases h with h|h|h|h
    ·exact .inl h
    ·exact .inr (.inl h)
    ·exact .inr (.inr (.inl h))
    ·exact .inr (.inr (.inr (.inr h)))
   have f2:Fp (λq=>q=s\/q=f\/q=mk\/q=L\/H.length<=q) H1 v:=by rw[<- B];exact .set (.inr (.inr (.inr (.inl rfl))))
   have f3:Fp (λq=>q=s\/q=f\/q=mk\/q=L\/H.length<=q) v H':=VW.mono λq _ h=>by
    rcases h with h|h|h|h|h
    ·exact .inl h
    ·exact .inr (.inl h)
    ·exact .inr (.inr (.inl h))
    ·exact .inr (.inr (.inr (.inl h)))
    ·exact .inr (.inr (.inr (.inr (by have:=f1.len;have:=f2.len;lia))))
   exact(f1.trans f2).trans f3
  ·have e0:((x::r).map D.str).mapIdx (λi x=>D.tup [.int ((j+i:Nat):Int),x])=.tup [.int (j:Int),.str x]::(r.map D.str).mapIdx λi x=>.tup [.int ((j+1+i:Nat):Int),x]:=by rw[Ï,aab];congr 1;apply Ĕ;intro i;simp only[ē];congr 1;funext x;rw[show j+(i+1)=j+1+i by lia]
   rw[e0,bH rfl];k_all;have sn:=Bf p ∅ (j:Int) [À (.obj s),À (c7 n0 w),J,À (.obj f),À (cD p),À (.obj mk),Q,G,I,À (.obj L),À (.int j),À (.str x)] H 4 10 rfl rfl;have R:gu F [À (.obj s),À (c7 n0 w),J,À (.obj f),À (cD p),À (.obj mk),Q,G,I,À (.obj L),À (.int j),À (.str x)] H=.nx [À (.obj s),À (c7 n0 w),J,À (.obj f),À (cD p),À (.obj mk),Q,G,I,À (.obj L),À (.int j),À (.str x)] v:=by
    unfold gu;generalize hE:aj ay (4) (ai aY #[(10)])=E at sn |-;generalize c7 n0 w=S at sn Su |-;generalize cD (p++[(j:Int)])=P1 at sn Su;generalize cD p=P at sn |-;generalize t.d=td at Su B
    simp_all! [iH,jS,dB,Z,beq_self_eq_true,sn,Su,br,xq,Α GV,B,lC]
   rw[R,eL];exact OG
theorem K4(ks:List Nat)(hk:ks≠[])(hl:ks.length<=1000)(i:Int):∃k∈ks,∀H,aE (.con (ks.map λk:Nat=>.int (k:Int))) (.int (i%(ks.length:Int))) H=.ok (.int (k:Int)) H:=by have hp:0<ks.length:=ğ.mpr hk;have hm:(0:Int)<=i%(ks.length:Int)/\i%(ks.length:Int)<ks.length:=⟨abp _ ∅,aau _ ∅⟩;obtain⟨d,ed,RQ⟩:=pg (xs:=ks.map λk:Nat=>D.int (k:Int)) (i:=i%(ks.length:Int)) hm.1 ‹hm.2›;obtain⟨x,hx,rfl⟩:=ä.mp (ç RQ);exact⟨x,hx,λH=>by simp only[aE,ak,ed]⟩
theorem K5{g:kh}{body:MS}{ml:DS->M X2}{τ:DS}{G G':DH}{xs:X2}{r:Res}(a:ml τ G=.ok [.con xs] G')(h:bh g body (xs.mapIdx λi x=>.tup [.int i,x]) τ G'=r):iY g (eO ml) body τ G=r:=by
 have e:=qU (g:=g) (body:=body) (xs:=xs) (τ:=τ) (G:=G');rw[h]at e;rw[gZ,jX,a]
 simp_all! [ak,e]
theorem Ei{names kinds:P3}(hnl:names.length<=3)(hnd:names.Nodup)(hng:∀x∈names,Ñ x=Ã)(n0:Str){rs:List cR}(sh:NN names kinds rs){cs:D2}(hc:lJ cs){s f mk:Nat}(dd:Y3 s f mk):∀N,GS names n0 rs cs s f mk (cI N) N
 |0=>by intro nm i fu p ms H hi hN;exfalso;have hil:i<names.length:=(Â.mp hi).1;unfold need at hN;split at hN<;>lia
 |N+1=>by
  intro nm i fu p ms H hi hN hp hfr hz hs hf hm;have hil:i<names.length:=(Â.mp hi).1;have hrl:=sh.le;have hrs:∀r∈rs,sI r:=λr hr=>(sh.all r hr).ok;have hnm:Ñ nm=Ã:=hng _ (ç hi);have nb:=K2 n0 rs ∅ hrs nm hnm (À (.obj s)) (À (.obj f)) (À (cD p)) (À (.obj mk)) H;obtain⟨tl,hnb⟩:=GB sh hnd hi;have aa2:(iN rs nm).length<=100:=by
   have:(iN rs nm).length<=rs.length:=by unfold iN;exact ü (Ŵ _ _) ⋯
   lia
  have Vf:iN rs nm≠[]:=by rw[hnb];simp
  have hfx:∀H:DH,H[f]?=À (.lst [.int fu])->aE (.obj f) (.int 0) H=.ok (.int fu) H:=λH hf=>by have:iz [D.int fu] 0=À (.int fu):=b9 (j:=0) rfl;simp only[aE,ak,hf,this]
  have hnum:∃(n:Nat)(H1:DH),n∈iN rs nm/\(fu<=0->n=i)/\bf s cs H1/\Up s cs H H1/\∀(K:MS)(τ:DS),τ[0]?=À (À (.obj s))->τ[3]?=À (À (.obj f))->τ[6]?=À (À (.con ((iN rs nm).map λk:Nat=>.int (k:Int))))->av (aC 7 ((6)\{0})) (iV (cy (aj qA ((3)\{0}) {0})) (aC 7 ((6)\(aj aX (aF 1 aD #[(0)]) (ai aM #[(6)])))) bC<|>K) τ H=K (τ.set 7 (À (.int (n:Int)))) H1:=by
   have i0:∀H,aE (.con ((iN rs nm).map λk:Nat=>.int (k:Int))) (.int 0) H=.ok (.int (i:Int)) H:=λH=>by have:iz ((iN rs nm).map λk:Nat=>D.int (k:Int)) ((0:Nat):Int)=À (.int (i:Int)):=b9 (by rw[hnb];rfl);simp only[aE,ak];rw[show(0:Int)=((0:Nat):Int) from rfl,this]
   have mJ:∀H,aM [.con ((iN rs nm).map λk:Nat=>.int (k:Int))] H=.ok (.int (iN rs nm).length) H:=λH=>by simp only[aM,ak,Û]
   have Vg:=hfx H hf;have hpos:0<(iN rs nm).length:=ğ.mpr Vf;by_cases h0:0<fu
   ·obtain⟨v,H1,u1,s1,l1,e1⟩:=eu hc hs;obtain⟨k,hk,ek⟩:=K4 (iN rs nm) Vf ∅ v;refine⟨k,H1,hk,λz=>∅,s1,u1,λK τ t0 t3 t6=>?_⟩;generalize D.con ((iN rs nm).map λk:Nat=>.int (k:Int))=NB at i0 mJ ek t6;simp[t0,t3,t6,i0,Vg,h0,e1,mJ,aP,hpos,ek]
   ·refine⟨i,H,by rw[hnb];simp,λ_=>rfl,hs,.refl hs,λK τ t0 t3 t6=>?_⟩;generalize D.con ((iN rs nm).map λk:Nat=>.int (k:Int))=NB at i0 t6;simp[t3,t6,i0,Vg,h0,aP]
  obtain⟨n,H1,hn1,hn2,s1,u1,e1⟩:=hnum;obtain⟨r,hr,hrn⟩:=K3 hn1;have NK:=sh.all r (ç hr);have hf1:=u1.get (ô dd.sf) hf;have hm1:=u1.get (ô dd.sm) hm;generalize ki:H1.set f (.lst [.int (fu-1)])=H2;have hf2:H2[f]?=À (.lst [.int (fu-1)]):=by rw[<- ki];exact gy hf1
  have hm2:H2[mk]?=À (.aO Ä (az ms)):=by rw[<- ki,Ô dd.fm];exact hm1
  have s2:bf s cs H2:=by rw[<- ki];exact s1.set (ô dd.sf)
  have hpm:p∉ms.map (·.1):=λz=>hfr p z (aac p);generalize By:H2.set mk (.aO Ä (az (ms++[(p,.int n)])))=H3;have VQ:H3[f]?=À (.lst [.int (fu-1)]):=by rw[<- By,Ô (ô dd.fm)];exact hf2
  have Y7:H3[mk]?=À (.aO Ä (az (ms++[(p,.int n)]))):=by rw[<- By];exact gy hm2
  have s3:bf s cs H3:=by rw[<- By];exact s2.set (ô dd.sm)
  have l3:H3.length=H1.length:=by rw[<- By,<- ki];simp
  have l1:=u1.len;have sl:=s3.lt;have fl:f<H3.length:=(Â.mp VQ).1;have ml:mk<H3.length:=(Â.mp Y7).1;obtain⟨jA,X6,H5,c1,c2,c3,c4,c5,c6⟩:=C4 hc dd.sf r NK.ok (fu-1) (s3.app (R:=[.lst []])) (aH VQ);have hlo:∀i∈r.its,0<=i.lo/\i.lo<=2:=λi hi=>⟨NK.ok.wf.lo i hi,(NK.it i hi).2.1⟩;obtain⟨row,H6,o1,o2,oa,o3,o4,o5,o6⟩:=GA hc r NK.ok.wf NK.ok.two hlo (fu-1) jA c1 c3;have hL4:(H3++[DO.lst []])[H3.length]?=À (.lst (dL [])):=by rw[dL];exact lS _ _ _
  have l5:=c5.len;have l6:=o5.len;simp at l5 c5;have kp:∀q o,q≠s->q≠f->q<H3.length+1->(H3++[DO.lst []])[q]?=À o->H6[q]?=À o:=λq o a b c e=>o5.keep q o (by rintro(h|h)<;>lia) (c5.keep q o (by rintro(h|h|h)<;>lia) e);have hL6:=kp H3.length _ ∅ ∅ ∅ hL4;have hm6:=kp mk _ (ô dd.sm) (ô dd.fm) ∅ (aH Y7);have hf6:H6[f]?=À (.lst [.int X6]):=o5.keep f _ (by rintro(h|h);exact dd.sf h.symm;lia) c4;have hBc:∃Bc:Nat,(∀(nE:Int)(i':Nat),nE<=fu-1->(fu<=0->i<i')->s0 (3-i')<=Bc/\need nE i'<=N)/\1+10450*X6.toNat+row.length*Bc<=bnd fu i:=by
   unfold need at hN;by_cases h0:0<fu
   ·rw[Α h0]at hN;refine⟨43,λnE i' h1 _=>⟨Vb ∅,?_⟩,?_⟩
    ·unfold need;by_cases h2:0<nE
     ·rw[Α h2];lia
     ·rw[Β h2];lia
    ·unfold bnd;have:row.length*43<=243*43:=acZ 43 o1;lia
   ·rw[Β h0]at hN;refine⟨s0 (3-i-1),λnE i' h1 h2=>?_,?_⟩
    ·have:=h2 ∅;unfold need;rw[Β ∅];exact⟨Eh ∅,∅⟩
    ·unfold bnd;have e:3-i=(3-i-1)+1:=∅
     rw[e,s0,show 3-i-1+1-1=3-i-1 by lia];have:=acZ (s0 (3-i-1)) (o2 ∅);lia
  obtain⟨Bc,hB1,hB2⟩:=hBc;obtain⟨ts,nE,new,H7,vI,VU,k1,k2,k3,k4,k5,k6,kn,k7,k8,k9,VV,VW,OG⟩:=xw dd (Ei hnl hnd hng n0 sh hc dd N) fu i Bc hB1 p ∅ H3.length ∅ ∅ ∅ (À (.str nm)) (À (.con ((iN rs nm).map λk:Nat=>.int (k:Int)))) (À (.int (n:Int))) (À (aL r)) row 0 [] (ms++[(p,.int n)]) H6 X6 Æ Æ (λx hx=>by
   obtain⟨it,hit,rfl,X7⟩:=o3 x hx;obtain⟨i',hi',e'⟩:=Ļ (NK.it it hit).1;by_cases h0:fu<=0
   ·have en:=hn2 h0;subst en;have ru:=sh.fst n r hil hr;obtain⟨i2,hi2,e2⟩:=Ļ (ru.2.2 it hit (X7 ∅));refine⟨n+1+i2,?_,λ_=>∅⟩;rw[<- adp,Í hi2,e2]
   ·exact⟨i',by rw[Í hi',e'],λz=>(h0 z).elim⟩) ∅ (λkey hk j' _ hpre=>by
   rw[ø,ì]at hk;rcases hk with hk|hk
   ·exact hfr key hk (Ŏ (ı p [j']) hpre)
   ·simp at hk;subst hk;exact gx hpre) () () o4 hf6 hm6 hL6
  rw[dL,ã]at VV;simp only[İ]at OG;refine⟨.nd r.kd ts,nE,(p,.int n)::new,H7,?_,?_,∅,?_,?_,?_,k7,k8,?_,?_,?_⟩
  ·intro y hy;rw[T.subs]at hy;rcases Ù.mp hy with rfl|hy
   ·exact⟨NK.ok.sk,∅⟩
   ·exact k1 y hy
  ·rw[T.subs,Ó];lia
  ·rw[T.subs,Ó,Ó,k5]
  ·intro y hy;rcases Ù.mp hy with rfl|hy
   ·exact⟨[],by simp,trivial,ý _⟩
   ·obtain⟨k,c,q,h1,h2,h3⟩:=k6 y hy;exact⟨((0+k:Nat):Int)::q,h2,⟨0+k,c,rfl,by rw[İ];exact h1,h3.1⟩,Nat.succ_lt_succ h3.2⟩
  ·rw[<- hrn];exact NP (ç hr) (by rw[k2]) kn oa
  ·rw[show ms++(p,D.int (n:Int))::new=ms++[(p,.int n)]++new by simp];exact k9
  ·refine⟨by have:=VW.len;lia,λq o hq e=>?_⟩;have So:q<H.length:=(Â.mp e).1;have q1:q≠s:=λz=>hq (.inl z);have q2:q≠f:=λz=>hq (.inr (.inl z));have q3:q≠mk:=λz=>hq (.inr (.inr (.inl z)));have e1:=u1.get q1 e;have e2:H2[q]?=À o:=by rw[<- ki,Ô (ô q2)];exact e1
   have e3:H3[q]?=À o:=by rw[<- By,Ô (ô q3)];exact e2
   have e6:=kp q o q1 q2 ∅ (aH e3);exact VW.keep q o (by rintro(h|h|h|h|h)<;>lia) e6
  ·gn_on;have hix:Bt [D.int fu].length 0=À 0:=rfl;have X8:=hfx H1 hf1;have Yb:kD (.int (fu-1)) (.obj f) (.int 0) H1=.ok .bD H2:=by unfold kD;k_in;rw[hf1];k_in;rw[hix];k_in;rw[<- ki];rfl
   have pV:∀G,aE (c7 n0 rs) (.int 1) G=.ok (.tup (rs.map aL)) G:=λG=>by unfold c7;simp![uD]
   have GC:∀G,aE (.tup (rs.map aL)) (.int n) G=.ok (aL r) G:=λG=>by have:iz (rs.map aL) (n:Int)=À (aL r):=nB (by rw[Þ,hr];rfl);simp only[aE,ak,this]
   have put:gc (.int n) (.obj mk) (cD p) H2=.ok .bD H3:=by
    have hb:1<=bnd fu i:=∅
    have h1:(az ms).length<Ç:=Ø (by rw[j8];lia) (lz (n:=1000000) ∅);unfold gc;rw[mw];k_in;rw[hm2];k_in;rw[Α h1,pS,yJ ms p _ hpm,By]
   have Y8:=Eg r;have hdl:(dL ts).length<=Ç:=lz (by rw[om,Û];lia);have z2:(2:Nat)<=Ç:=lz ∅;rw[cI,T.d];rw[bQ];have hb:ir (cI N)=av (aC 6 (eFn (dD fc oN [Ä,Ã,Ã] #[ai aM #[(1)\{1}]] (cy (aj (fG Ä) ((((2)\{1})\(0))\{0}) (3))) (0)))) (iM (cI N)):=rfl;rw[hb];generalize hE:eFn (dD fc oN [Ä,Ã,Ã] #[ai aM #[(1)\{1}]] (cy (aj (fG Ä) ((((2)\{1})\(0))\{0}) (3))) (0))=E at nb |-;generalize D.con (jA.map .int)=CT at c6 o6;generalize rs.map aL=RS at pV GC
   simp_all! [nb]
   unfold iM;rw[e1 _ _ rfl rfl rfl];k_all;generalize D.con ((iN rs nm).map λk:Nat=>.int (k:Int))=NB at OG |-;generalize c7 n0 rs=S at pV OG |-;generalize cD p=P at put OG |-;generalize aL r=R at GC c6 o6 Y8 OG
   simp_all! [pI,X8,aP]
   rw[Yb]
   simp_all! [lC,pV,GC,uq,put,aR,Α h0]
   rw[K5 (xs:=row.map D.str) (G':=H6) (by simp_all! [c6,o6];rfl) OG,ic]
   simp_all! [Y8,gK,ak,VV,aY,Α hdl,Α (show 0+1+1<=Ç from z2)]
theorem RV{f:Int}(h:f<=20):bnd f 0<900000:=by
 unfold bnd;have:s0 (3-0)=43:=by decide
 lia
theorem K6{names k:P3}(w:names.length<=3)(C:names.Nodup)(y:∀x∈names,Ñ x=Ã){n0:Str}(h0:names[0]?=À n0){r:List cR}(sh:NN names k r){u:D2}(Z:lJ u){s:Nat}(a:Int)(b:a<=20){H:DH}(n:bf s u H):
  ∃(t:T)(ms:PD)(mk:Nat)(H':DH),Vc t/\ms.length=t.subs.length/\t.subs.length<=90/\(∀x∈ms,Vd x.1 t/\x.1.length<40)/\n0∈bB r t/\bf s u H'/\H'[mk]?=À (.aO Ä (az ms))/\Fp (λq=>q=s\/H.length<=q) H H'/\fV [.obj s,c7 n0 r,.int a,.int 90] H=.ok (.tup [t.d,.obj mk]) H':=by
 have E:=n.lt;kcf_m;have R:(2:Nat)<=Ç:=lz ∅;have F:(0:Nat)<=Ç:=ê _;have i:∀G,aE (c7 n0 r) (.int 0) G=.ok (.str n0) G:=λG=>by unfold c7;simp![yG]
 have m:∀(a:Int),a<=20->need a 0<=40:=λa h=>by unfold need;split<;>lia
 have hx0:cD []=D.tup []:=rfl;have p:∀(a:Int)(H:DH),a<=20->bf s u H->∃(t:T)(ms:PD)(H':DH),Vc t/\ms.length=t.subs.length/\(a<=0->t.subs.length<=90)/\(∀x∈ms,Vd x.1 t/\x.1.length<40)/\n0∈bB r t/\bf s u H'/\H'[H.length]?=À (.aO Ä (az ms))/\Fp (λq=>q=s\/H.length<=q) H H'/\cI 40 [.obj s,c7 n0 r,.str n0,.obj (H.length+1),.tup [],.obj H.length] (H++[.aO Ä [],.lst [.int a]])=.ok t.d H':=by intro a H b n;have E:=n.lt;have g:=Ei w C y n0 sh Z (s:=s) (f:=H.length+1) (mk:=H.length) ⟨∅,∅,∅⟩ 40;obtain⟨t,nE,A,H',t1,t2,t3,t4,t5,V,t6,t7,L,N,Su⟩:=g n0 0 a [] [] (H++[.aO Ä [],.lst [.int a]]) h0 (m a b) ⋯ ⋯ (by have:=RV b;simp;lia) n.app (by rw[Ò ∅];simp) (by rw[lS];rfl);rw[ã]at L;refine⟨t,A,H',t1,t4,λz=>(by unfold bnd at t2;have:s0 (3-0)=43:=(by decide);lia),λx W=>(by obtain⟨q,e,l⟩:=t5 x W;rw[e,ã];exact l),V,t6,L,⟨by have:=N.len;simp at this;lia,λq o l e=>?_⟩,Su⟩;have So:q<H.length:=(Â.mp e).1;exact N.keep q o (by rintro(h|h|h|h);exact l (.inl h);lia;lia;simp at h;lia) (aH e)
 obtain⟨t,ms,c,a1,a2,ab,U,an,K,M,v,j⟩:=p a H b n;have O:pM [.obj H.length] c=.ok (.int ms.length) c:=by simp only[pM,M,j8]
 have B:∀(H:DH)(d:D),aR [d] (H++[.aO Ä []])=.ok (.obj (H.length+1)) (H++[.aO Ä [],.lst [d]]):=λH d=>by simp[aR,z1]
 by_cases Q:(90:Int)<(ms.length:Int)
 ·obtain⟨t',J,H2,b1,b2,bb,bp,bn,b3,X,P,I⟩:=p 0 c ∅ K;refine⟨t',J,c.length,H2,b1,b2,bb ∅,bp,bn,b3,X,?_,?_⟩
  ·exact⟨ü v.len P.len,λq o l e=>P.keep q o (by rintro(h|h);exact l (.inl h);have:=(Â.mp e).1;have:=v.len;lia) (v.keep q o l e)⟩
  ·have Y:=B H (.int a);have Rh:=B c (.int 0);generalize c7 n0 r=S at i j I |-;generalize t.d=td at j;generalize t'.d=td' at I |-;unfold fV;rw[bQ];unfold jw ly
   simp_all! [j0,i,Y,aY,Α F,j]
   simp_all! [O,aP,decide_eq_true Q,j0,i,Rh,aY,Α F,I,Α (show 0+1+1<=Ç from R)]
 ·refine⟨t,ms,H.length,c,a1,a2,∅,U,an,K,M,v,?_⟩;have Y:=B H (.int a);generalize c7 n0 r=S at i j |-;generalize t.d=td at j |-;unfold fV;rw[bQ];unfold jw
  simp_all! [j0,i,Y,aY,Α F,j]
  simp_all! [O,aP,decide_eq_false Q,aY,Α (show 0+1+1<=Ç from R)]
theorem Vh(τ:DS)(H:DH):∃M:Int,0<M/\aj wL (aj iU {10} {60}) {6} τ H=.ok (.int M) H:=⟨((10:Int)^60)^6,by symm,by kernel_rfl⟩
theorem pw6(τ:DS)(H:DH):aj iU {10} {6} τ H=.ok (.int 1000000) H:=by kernel_rfl
theorem Yd(τ:DS)(H:DH):aj iU {10} {18} τ H=.ok (.int 1000000000000000000) H:=by kernel_rfl
theorem Bh(G:DH)(c:D2)(hz:c.length<=1000)(v:Int)(a b:X9):b7 [a,À (.obj G.length),b,À (.int v)] (G++[.lst (c.map .int)])=.nx [a,À (.obj G.length),b,À (.int (v/1000000))] (G++[.lst ((c++[v%1000000]).map .int)]):=by
 have d:(c.map D.int).length<Ç:=by simpa using Ø (show c.length<1001 by lia) (lz (n:=1001) ∅)
 have p:=λτ H=>pw6 τ H;have e:(c++[v%1000000]).map D.int=c.map .int++[.int (v%1000000)]:=by simp
 rw[e];unfold b7;generalize h:aj iU {10} {6}=P at p |-;generalize c.map D.int=C at d |-;simp[dB,lS,p,aP,br,d,IP]
theorem Bj(G:DH)(b e:X9):∀(d m:Nat)(c:D2)(v:Int),300-c.length<=d->d<m->c.length<=500->∃(a:D2)(i:Int),a.length<=max c.length 300/\c.length<=a.length/\dZ (d9 (cy (aj qA (3) {0})) (cy (aj ER (ai aM #[(1)]) {300}))) b7 m [b,À (.obj G.length),e,À (.int v)] (G++[.lst (c.map .int)])=.nx [b,À (.obj G.length),e,À (.int i)] (G++[.lst (a.map .int)])
 |d,0,c,v,g,h,p=>∅
 |d,m+1,c,v,g,h,p=>by
  have o:aM [.obj G.length] (G++[.lst (c.map .int)])=.ok (.int c.length) (G++[.lst (c.map .int)]):=by simp only[aM,ak,lS,Û]
  have f:d9 (cy (aj qA (3) {0})) (cy (aj ER (ai aM #[(1)]) {300})) [b,À (.obj G.length),e,À (.int v)] (G++[.lst (c.map .int)])=.ok (decide (0<v)&&decide ((c.length:Int)<300)) (G++[.lst (c.map .int)]):=by
   by_cases l:0<v
   ·simp_all! [pB,aP,decide_eq_true l,o,ł]
   ·simp_all! [pB,aP,decide_eq_false l,Ĥ,if_false,Ÿ]
  by_cases k:(decide (0<v)&&decide ((c.length:Int)<300))=Ã
  ·have n:c.length<300:=by have:=(acV.mp k).2;have:=of_decide_eq_true this;lia
   match d,g,h with
   |0,g,h=>lia
   |d+1,g,h=>obtain⟨a,i,k1,k2,k3⟩:=Bj G b e d m (c++[v%1000000]) (v/1000000) () ∅ ();rw[k]at f;refine⟨a,i,by simp at k1;lia,by simp at k2;lia,?_⟩;rw[pC,f,IQ,Oj,Bh G c ∅ v b e,eL,k3]
  ·have j:(decide (0<v)&&decide ((c.length:Int)<300))=Ä:=‹k›
   rw[j]at f;exact⟨c,v,∅,Ë _,by rw[pC,f,IS,sr]⟩
theorem u0(G:DH)(a0:X9):∀(xs:D2)(cs:D2)(b o:X9),cs.length<=300+(62-xs.length)->xs.length<=62 ->
  ∃(a:D2)(e p:X9),a.length<=362/\bh (gN 2) di (xs.map .int) [a0,À (.obj G.length),b,o] (G++[.lst (cs.map .int)])=.nx [a0,À (.obj G.length),e,p] (G++[.lst (a.map .int)])
 |[],cs,b,o,h,f=>⟨cs,b,o,by simp at h;lia,by simp[bh]⟩
 |x::xs,cs,b,o,h,f=>by
  simp only[Ó]at h f;obtain⟨M,m,g⟩:=Vh [a0,À (.obj G.length),À (.int x),o] (G++[.lst (cs.map .int)]);obtain⟨Y,v,k1,k2,k3⟩:=Bj G a0 (À (.int x)) (300-(cs++[x%M%1000000]).length) fuel (cs++[x%M%1000000]) (x%M/1000000) (Ë _) (by unfold fuel;lia) ();obtain⟨a,e,p,k,j⟩:=u0 G a0 xs Y (À (.int x)) (À (.int v)) (by simp at k1;lia) ∅;refine⟨a,e,p,k,?_⟩;rw[Ï,bH rfl];k_all;have ct:=Bh G cs ∅ (x%M) a0 (À (.int x));have l:di=av (aC 3 (aj aX (2) (aj wL (aj iU {10} {60}) {6}))) (dG (bu "list" br (1) #[aj aX (3) (aj iU {10} {6})])<|>aC 3 (aj bJ (3) (aj iU {10} {6}))<|>dZ (d9 (cy (aj qA (3) {0})) (cy (aj ER (ai aM #[(1)]) {300}))) b7 fuel):=rfl;have s:di [a0,À (.obj G.length),À (.int x),o] (G++[.lst (cs.map .int)])=.nx [a0,À (.obj G.length),À (.int x),À (.int v)] (G++[.lst (Y.map .int)]):=by
   rw[l];generalize n:dZ (d9 (cy (aj qA (3) {0})) (cy (aj ER (ai aM #[(1)]) {300}))) b7 fuel=W at k3 |-;have i:aC 3 (aj aX (2) (aj wL (aj iU {10} {60}) {6})) [a0,À (.obj G.length),À (.int x),o] (G++[.lst (cs.map .int)])=.nx [a0,À (.obj G.length),À (.int x),À (.int (x%M))] (G++[.lst (cs.map .int)]):=by generalize r:aj wL (aj iU {10} {60}) {6}=P at g |-;simp[g,aP,m]
   rw[f9,i,ic];unfold b7 at ct;generalize t:dG (bu "list" br (1) #[aj aX (3) (aj iU {10} {6})])=A at ct |-;generalize q:aC 3 (aj bJ (3) (aj iU {10} {6}))=B at ct |-;rw[f9]at ct |-;cases hq:A [a0,À (.obj G.length),À (.int x),À (.int (x%M))] (G++[.lst (cs.map .int)])with
   |nx τ K=>rw[hq,ic]at ct;rw[ic,f9,ct,ic,k3]
   |stuck=>rw[hq]at ct;cases ct
   |rt d K=>rw[hq]at ct;cases ct
   |bk τ K=>rw[hq]at ct;cases ct
   |ct τ K=>rw[hq]at ct;cases ct
   |xn c τ K=>rw[hq]at ct;cases ct
  rw[s,eL];exact j
theorem GD(ns:D2)(hl:ns.length<=63)(G:DH):∃cs:D2,lJ cs/\dM [.con (ns.map .int)] G=.ok (.obj G.length) (G++[Bx cs 0]):=by
 have Sv:(0:Nat)<=Ç:=ê _;kcf_m;have z2:(2:Nat)<=Ç:=lz ∅;have mJ:∀H,aM [.con (ns.map .int)] H=.ok (.int ns.length) H:=λH=>by simp only[aM,ak,Û]
 have fin:∀(cs:D2)(d1:D)(o2 o3:X9)(H:DH),cs.length<=900->lV H d1=À (cs.map .int)->bS (ai aR #[eFn (aj ay (1) (eFn (ai aR #[aj ay (ai aM #[(0)]) {3}]))),{0}]) [À (.con (ns.map .int)),À d1,o2,o3] H=.rt (.obj H.length) (H++[Bx (cs++[(ns.length:Int)+3]) 0]):=by
  intro cs d1 o2 o3 H hcs hd;have e1:eFn (ai aR #[aj ay (ai aM #[(0)]) {3}]) [À (.con (ns.map .int)),À d1,o2,o3] H=.ok (.con [.int ((ns.length:Int)+3)]) H:=by
   simp_all! [dh,mJ,kM]
   exact g7 ‹z1› (by simp[bN,fR,cz])
  have e2:eFn (aj ay (1) (eFn (ai aR #[aj ay (ai aM #[(0)]) {3}]))) [À (.con (ns.map .int)),À d1,o2,o3] H=.ok (.con ((cs++[(ns.length:Int)+3]).map .int)) H:=by
   have ea:ay d1 (.con [.int ((ns.length:Int)+3)]) H=aR (cs.map .int++[.int ((ns.length:Int)+3)]) H:=by
    unfold ay;cases d1 with
    |con xs=>simp only[lV]at hd |-;rw[é hd]
    |obj k=>simp only[hd];rfl
    |_=>simp[lV]at hd
   have e6:aa 1 [À (.con (ns.map .int)),À d1,o2,o3] H=.ok d1 H:=rfl;rw[dh,wA,e6,e8,aJ,e1,e8,ea];rw[show(cs++[(ns.length:Int)+3]).map D.int=cs.map .int++[.int ((ns.length:Int)+3)] by simp];exact g7 (lz ()) (by rw[lX,bN,fR,cz,aA λ_=>cz];rfl)
  generalize hE:eFn (aj ay (1) (eFn (ai aR #[aj ay (ai aM #[(0)]) {3}])))=E at e2 |-
  simp_all! [e2,aR,Α (show 0+1+1<=Ç from z2)]
  rfl
 have fr:∀(cs:D2)(R:DH),dM [.con (ns.map .int)] G=iB (λds=>cj 4 eT ds) [.con (ns.map .int)] G->cj 4 eT [.con (ns.map .int)] G=.ok (.obj (G++R).length) (G++R++[Bx cs 0])->dM [.con (ns.map .int)] G=.ok (.obj G.length) (G++[Bx cs 0]):=by intro cs R h1 h2;rw[h1];unfold iB;k_in;rw[h2];k_in;rw[lS];unfold Bx;k_in;rw[Α ⟨by rw[â,abo];exact iO _;rfl,by simp,by simp[bN,fR,cz,dQ,aA λ_=>cz]⟩]
 have hsl:∀H,∃xs:D2,xs.length<=62/\∀τ:DS,eFn (iE (0) (aS {1}) (aS {63})) (À (.con (ns.map .int))::τ) H=.ok (.con (xs.map .int)) H:=by
  intro H;refine⟨(ns.drop 1).take 62,by simp;lia,λτ=>?_⟩;have jU:cutD (ns.map D.int) (À 1) (À 63)=((ns.drop 1).take 62).map .int:=by
   unfold cutD;rw[show(À (1:Int))=À ((1:Nat):Int) from rfl,show(À (63:Int))=À ((63:Nat):Int) from rfl,HT.iD,HT.iD,Û,<- aaZ,<- aaX];congr 1;cases ns with
   |nil=>simp
   |cons a r=>simp only[Ó]at hl |-;rw[show min 1 (r.length+1)=1 by lia,aaT];simp;lia
  simp_all! [dh,rG,jo,mT,rV,ak,jU]
  exact g7 (lz ()) (aA λ_=>cz)
 have Ej:∀(H:DH)(τ:DS),∃b:Bool,d9 (cy (aj qA (ai aM #[(0)]) {0})) (cy (aj (fG Ä) (aj aX ((0)\{0}) {2}) {1})) (À (.con (ns.map .int))::τ) H=.ok b H:=by
  intro H τ;cases ns with
  |nil=>exact⟨Ä,by simp[aM,ak,aP]⟩
  |cons a r=>
   have h0:aE (.con ((a::r).map .int)) (.int 0) H=.ok (.int a) H:=by have:iz ((a::r).map D.int) ((0:Nat):Int)=À (.int a):=b9 rfl;simp only[aE,ak];rw[show(0:Int)=((0:Nat):Int) from rfl,this]
   have h1:=mJ H;have h2:=jn Ä (a%2) 1 H;have hp:0<(a::r).length:=by simp
   generalize(a::r).length=L at h1 hp;generalize D.con ((a::r).map .int)=C at h0 h1 |-;exact⟨Ä ^^ (a%2==1),by simp[h1,h0,aP,hp,h2]⟩
 obtain⟨b,eb⟩:=Ej (G++[.lst []]) [À (.obj G.length),Æ,Æ];obtain⟨xs,hxl,exs⟩:=hsl (G++[.lst []]);have hB:eT=av (aC 1 (ai aR #[])) (iV (d9 (cy (aj qA (ai aM #[(0)]) {0})) (cy (aj (fG Ä) (aj aX ((0)\{0}) {2}) {1}))) (gG (gN 2) (eFn (iE (0) (aS {1}) (aS {63}))) di) (aC 1 (eFn (dJ oN [] (eFn (iE (0) (aS {1}) (aS {63}))) dw (aj aX (0) (aj iU {10} {18})))))<|>bS (ai aR #[eFn (aj ay (1) (eFn (ai aR #[aj ay (ai aM #[(0)]) {3}]))),{0}])):=rfl;cases b with
 |true=>obtain⟨cs,p2,p3,k1,k2⟩:=u0 G (À (.con (ns.map .int))) xs [] Æ Æ ⋯ hxl;refine⟨cs++[(ns.length:Int)+3],⟨by simp,by simp;lia⟩,fr _ [.lst (cs.map .int)] rfl ?_⟩;have hf:=fin cs (.obj G.length) p2 p3 (G++[.lst (cs.map .int)]) ∅ (by simp only[lV,lS]);rw[bQ,hB];rw[ĸ]at k2;generalize hT:d9 (cy (aj qA (ai aM #[(0)]) {0})) (cy (aj (fG Ä) (aj aX ((0)\{0}) {2}) {1}))=TT at eb |-;generalize hS:eFn (iE (0) (aS {1}) (aS {63}))=S at exs |-;generalize hE:ai aR #[eFn (aj ay (1) (eFn (ai aR #[aj ay (ai aM #[(0)]) {3}]))),{0}]=E at hf |-;simp only[Ï,ĸ,Ó,ď,ħ,ã,Ö,f9,lU,su,tQ,e8,aR,Α Sv,rF,ic,ß,à,zQ,eb,IQ,iZ,exs,IV,k2,hf,jT]
 |false=>
  have c1:=bX (τ:=[À (.con (ns.map .int)),À (.obj G.length),Æ,Æ]) (G:=G++[.lst []]) (gO:=oN) (ks:=[]) (tt:=dw) (te:=aj aX (0) (aj iU {10} {18})) (own:=λx:Int=>[.int x]) (dat:=λx=>.int x) (f:=λx=>.int (x%1000000000000000000)) (c:=λ_=>Ã) xs [] () (λx _=>rfl) (λx hx acc=>by first|rfl|simp[dw]) (λx hx acc=>by have p1:=λτ H=>Yd τ H;generalize hP:aj iU {10} {18}=P at p1 |-;simp[p1,aP])
  rw[ã,Ŧ.mpr (λ_ _=>rfl)]at c1;have hcl:aG (xs.map λx=>D.int (x%1000000000000000000))=Ã:=aA λ_=>cz;have ec:eFn (dJ oN [] (eFn (iE (0) (aS {1}) (aS {63}))) dw (aj aX (0) (aj iU {10} {18}))) [À (.con (ns.map .int)),À (.obj G.length),Æ,Æ] (G++[.lst []])=.ok (.con ((xs.map λx=>x%1000000000000000000).map .int)) (G++[.lst []]):=by have ex0:=exs [À (.obj G.length),Æ,Æ];rw[ĕ];show _=Out.ok (D.con (xs.map λx=>D.int (x%1000000000000000000))) _;rw[dh,sA,ex0,e8];k_in;rw[c1,d7 hcl]
  refine⟨(xs.map λx=>x%1000000000000000000)++[(ns.length:Int)+3],⟨by simp,by simp;lia⟩,fr _ [.lst []] rfl ?_⟩;have hf:=fin (xs.map λx=>x%1000000000000000000) (.con ((xs.map λx=>x%1000000000000000000).map .int)) Æ Æ (G++[.lst []]) () rfl;rw[bQ,hB];generalize hT:d9 (cy (aj qA (ai aM #[(0)]) {0})) (cy (aj (fG Ä) (aj aX ((0)\{0}) {2}) {1}))=TT at eb |-;generalize hC:eFn (dJ oN [] (eFn (iE (0) (aS {1}) (aS {63}))) dw (aj aX (0) (aj iU {10} {18})))=CC at ec |-;generalize hE:ai aR #[eFn (aj ay (1) (eFn (ai aR #[aj ay (ai aM #[(0)]) {3}]))),{0}]=E at hf |-;simp only[Ï,ĸ,Ó,ď,ħ,ã,Ö,f9,lU,su,tQ,e8,aR,Α Sv,rF,ic,ß,à,zQ,eb,IS,ec,hf,jT]
theorem OH{l:List Nat}(h:∀x∈l,x<1114112):Ñ (jD l)=Ã:=by unfold Ñ jD;rw[Array.all_eq_true_iff_forall_mem];intro x a;simpa using h x ‹a›
theorem m7(l:List Nat):(jD l).length=l.length:=by simp[jD,adh]
def lt(i:Int):Str:=jD [97+(i%26).toNat]
theorem Vi(i:Int):Ñ (lt i)=Ã:=OH λx h=>by simp at h;lia
theorem u6(i:Int):(lt i).length=1:=m7 _
theorem Ek(i:Int)(G:DH):aE (.str "abcdefghijklmnopqrstuvwxyz") (.int (i%26)) G=.ok (.str (lt i)) G:=by
 have h:∀k<26,("abcdefghijklmnopqrstuvwxyz":Str).cps.toList[k]?=À (97+k):=by symm
 have a:=h (i%26).toNat ∅;have b:iz ("abcdefghijklmnopqrstuvwxyz":Str).cps.toList (i%26)=À (97+(i%26).toNat):=by
  have:=b9 a
  rwa [show(((i%26).toNat:Nat):Int)=i%26 by lia]at this
 have hz:("abcdefghijklmnopqrstuvwxyz":Str).length<=Ç:=lz (by symm);simp only[aE,ak,hz,if_true,b];rfl
theorem Bk:∀(ks:List Nat)(n:Nat),(ks.map λx=>jD [x]).foldl (λa (w:Str)=>a+w.length+0) n=n+ks.length
 |[],n=>rfl
 |k::ks,n=>by rw[Ï,Ď,Bk ks,m7];simp;lia
theorem xx:∀ks:List Nat,pD [] (ks.map λx=>[x])=ks
 |[]=>rfl
 |[k]=>rfl
 |k::j::ks=>by rw[Ï,Ï,pD,<- Ï (f:=λx=>[x]),xx (j::ks)];simp
theorem Vj(ks:List Nat)(hl:ks.length<=100)(G:DH):rC (.str "") [.con (ks.map λx=>.str (jD [x]))] G=.ok (.str (jD ks)) G:=by
 have hj:JoinOk "" (ks.map λx=>jD [x])=Ã:=by
  have n2:("":Str).length=0:=by symm
  have e:(ks.map λx=>jD [x]).toArray.foldl (λa (w:Str)=>a+w.length+("":Str).length) 0=ks.length:=by rw[n2,List.foldl_toArray,Bk];simp
  unfold JoinOk;rw[e,Bool.not_eq_true'];unfold Builtin.Str.tooLong;exact decide_eq_false (by have:=lz (n:=100000) ∅;lia)
 have hs:=ou (ks.map λx=>jD [x]);rw[ĕ]at hs;have hs':strsOf (ks.map λx=>D.str (jD [x]))=À (ks.map λx=>jD [x]):=hs;have hjl:Txt.join "" (ks.map λx=>jD [x])=jD ks:=by
  apply x8;rw[Ja];show(ab1 "" (ks.map λx=>jD [x])).cps.toList=_;rw[aaS];refine(Ra "" _).trans ?_;rw[ĕ];have:(λw:Str=>w.cps.toList)∘(λx=>jD [x])=λx=>[x]:=by funext w;exact Ja _
  rw[this];exact xx ks
 simp[rC,ak,hs',hj,hjl]
theorem Bl{te:Y2}{ks:L9}{ml:DS->M X2}{τ:DS}{G:DH}(j:Int)(h0:0<=j)(h1:j<=1000)(f:Nat->D)(hm:ml τ G=.ok [.int j] G)(he:∀k:Nat,(k:Int)<j->∀acc,te (À (.int k)::mask ks τ) (G++[.lst acc])=.ok (f k) (G++[.lst acc])):
  dD fc oN ks ml dw te τ G=.ok (.obj G.length) (G++[.lst ((Ē 0 j.toNat).map f)]):=by
 have hr:=mS (j:=j) h0 ∅;have c1:=bX (τ:=τ) (G:=G) (gO:=oN) (ks:=ks) (tt:=dw) (te:=te) (own:=λk:Nat=>[.int (0+(k:Int))]) (dat:=λk:Nat=>.int (0+(k:Int))) (f:=f) (c:=λ_=>Ã) (Ē 0 j.toNat) [] () (λx _=>rfl) (λx hx acc=>by first|rfl|simp[dw]) (λx hx acc=>by
  have hx':(x:Int)<j:=by have:=List.mem_range'.mp hx;lia
  have:=he x hx' acc;rw[acy];exact this)
 rw[ã,Ŧ.mpr (λ_ _=>rfl)]at c1;rw[tR,hm,e8,hr];exact c1
theorem Bm(x:Str)(l u:Option Int)(h:Ñ x=Ã):Ñ (aax x l u)=Ã:=by
 unfold aax;split
 ·l_fit
 ·unfold Ñ at h |-;simp only[List.all_toArray,œ,abD]at h |-;rintro c ⟨i,_,b⟩;have a:=Array.all_eq_true'.mp h c (Array.mem_of_getElem? b);exact a
theorem C5{p a b r:Str}(h:p++a++r=p++b++r)(hl:a.length=b.length):a=b:=by have h1:(p.cps++a.cps++r.cps).toList=(p.cps++b.cps++r.cps).toList:=congrArg (λs:Str=>s.cps.toList) h;simp only[Array.toList_append,â]at h1;have h2:=aaE h1;exact x8 (List.append_inj_left h2 (by simpa[adh]using hl))
def El:Y2:=eFn (dD fc oN [Ã,Ä,Ã] #[aj aX (0) {6}] dw ((3)\(aj aX (aj bJ (1) (aj ay (0) {2})) {26})))
def K7:Y2:=dD fc oN [Ã,Ä,Ã,Ã,Ã] #[(1)] dw (aj ay (aj ay (aj ay (eFn (iE (4) bU (aS (5)))) ((3)\(aj aX (aj ay (aj bJ (1) {42}) (0)) {26}))) ("q")) (eFn (iE (4) (aS (5)) bU)))
def cN(c:Int):List Nat:=(Ē 0 (c%6).toNat).map λ(k:Nat)=>97+(c/((k:Int)+2)%26).toNat
theorem K8(c:Int)(a1:X9)(G:DH):El [À (.int c),a1,À (.str "abcdefghijklmnopqrstuvwxyz"),Æ,Æ] G=.ok (.con ((cN c).map λx=>.str (jD [x]))) G:=by
 have e:=Bl (te:=aj aE (3) (aj aX (aj bJ (1) (aj ay (0) {2})) {26})) (ks:=[Ã,Ä,Ã]) (ml:=af (aj aX (0) {6}) #[]) (τ:=[À (.int c),a1,À (.str "abcdefghijklmnopqrstuvwxyz"),Æ,Æ]) (G:=G) (c%6) ∅ ∅ (λk=>.str (lt (c/((k:Int)+2)))) (by simp[aP]) (λk hk acc=>by
  have h2:0<(k:Int)+2:=∅
  have h3:(k:Int)+2<1073741824:=∅
  have hx:=Ek (c/((k:Int)+2)) (G++[.lst acc]);generalize(G++[.lst acc])=H at hx |-;generalize D.str "abcdefghijklmnopqrstuvwxyz"=Z at hx |-;simp[mask,kM,aP,h2,h3,hx])
 rw[El,dh,e,d7 (aA λ_=>aW)];unfold cN lt;rw[ĕ];rfl
theorem kg(c:Int):(cN c).length<=5:=by unfold cN;simp;lia
theorem Bo(c:Int):Ñ (jD (cN c))=Ã:=OH λx h=>by unfold cN at h;obtain⟨k,_,rfl⟩:=ä.mp h;lia
def iy(c:Int):Int:=c/6%(((cN c).length:Int)+1)
def dX(c:Int)(k:Nat):Str:=aax (jD (cN c)) Æ (À (iy c))++lt (c/42+(k:Int))++"q"++aax (jD (cN c)) (À (iy c)) Æ
theorem qW(c:Int)(k:Nat):Ñ (dX c k)=Ã:=by unfold dX;exact good_add (good_add (good_add (Bm _ _ _ (Bo c)) (Vi _)) (by symm)) (Bm _ _ _ (Bo c))
theorem NQ(c:Int)(k:Nat):(dX c k).length=(dX c 0).length:=by unfold dX;simp only[mR,u6]
theorem GF(c:Int)(k:Nat):(dX c k).length<=20:=by
 unfold dX;have a:=abt (jD (cN c)) Æ (À (iy c));have h:=abt (jD (cN c)) (À (iy c)) Æ;rw[m7]at a h;have d:=kg c;have b:("q":Str).length=1:=by symm
 simp only[mR,u6,b];lia
theorem yT(c:Int)(j k:Nat)(hj:j<4)(hk:k<4)(h:dX c j=dX c k):j=k:=by
 unfold dX at h;have e:∀a b d f:Str,a++b++d++f=a++b++(d++f):=λa b d f=>x8 (by show(a.cps++b.cps++d.cps++f.cps).toList=(a.cps++b.cps++(d.cps++f.cps)).toList;simp)
 rw[e,e]at h;have h1:=C5 h (by rw[u6,u6]);unfold lt at h1;have h2:=congrArg (λs:Str=>s.cps.toList) h1;simp only[Ja,List.cons.injEq,and_true]at h2;lia
theorem Bp(c:Int)(n:Nat)(hn:n<=4)(G:DH):K7 [À (.int c),À (.int n),À (.str "abcdefghijklmnopqrstuvwxyz"),À (.str (jD (cN c))),À (.int (iy c))] G=.ok (.obj G.length) (G++[.lst ((Ē 0 n).map λk=>.str (dX c k))]):=by
 have e:=Bl (te:=aj ay (aj ay (aj ay (eFn (iE (4) bU (aS (5)))) ((3)\(aj aX (aj ay (aj bJ (1) {42}) (0)) {26}))) ("q")) (eFn (iE (4) (aS (5)) bU))) (ks:=[Ã,Ä,Ã,Ã,Ã]) (ml:=af (1) #[]) (τ:=[À (.int c),À (.int n),À (.str "abcdefghijklmnopqrstuvwxyz"),À (.str (jD (cN c))),À (.int (iy c))]) (G:=G) (n:Int) ∅ ∅ (λk=>.str (dX c k)) ⋯ (λk hk acc=>by
  have hx:=Ek (c/42+(k:Int)) (G++[.lst acc]);have h1:=abt (jD (cN c)) Æ (À (iy c));have h2:=abt (jD (cN c)) (À (iy c)) Æ;have h0:=m7 (cN c);rw[m7]at h1 h2;have h3:=kg c;have h4:("q":Str).length=1:=by symm
  have h5:=u6 (c/42+(k:Int));have hz:(jD (cN c)).length<=Ç:=lz ∅;unfold dX;generalize hA:aax (jD (cN c)) Æ (À (iy c))=A at h1 |-;generalize hB:aax (jD (cN c)) (À (iy c)) Æ=B at h2 |-;have s1:∀H,rV (.str (jD (cN c))) Æ (À (iy c)) H=.ok (.str A) H:=λH=>by simp only[rV,ak,Α hz,hA]
  have s2:∀H,rV (.str (jD (cN c))) (À (iy c)) Æ H=.ok (.str B) H:=λH=>by simp only[rV,ak,Α hz,hB]
  generalize iy c=hh at s1 s2 |-;generalize lt (c/42+(k:Int))=l at hx h5 |-;generalize hq:("q":Str)=q at h4 |-;have a1:∀H,ay (.str A) (.str l) H=.ok (.str (A++l)) H:=λH=>by simp only[ay];exact Α (lz ∅)
  have a2:∀H,ay (.str (A++l)) (.str q) H=.ok (.str (A++l++q)) H:=λH=>by simp only[ay];exact Α (lz (by rw[mR];lia))
  have a3:∀H,ay (.str (A++l++q)) (.str B) H=.ok (.str (A++l++q++B)) H:=λH=>by simp only[ay];exact Α (lz (by rw[mR,mR];lia))
  generalize A++l++q++B=u at a3 |-;generalize A++l++q=u2 at a2 a3 |-;generalize A++l=u3 at a1 a2 |-;generalize D.str (jD (cN c))=C at s1 s2 |-;generalize D.str "abcdefghijklmnopqrstuvwxyz"=Z at hx |-;generalize(G++[.lst acc])=H at hx |-;simp[mask,dh,kM,aP,hx,s1,s2,a1,a2,a3])
 rw[ó]at e;exact e
theorem xy(c:Int)(n:Nat)(j:n<=4)(G:DH)(k:MS):av (aC 2 ("abcdefghijklmnopqrstuvwxyz")) (aC 3 (bu "str" rC ("") #[El])<|>aC 4 (aj aX (aj bJ (0) {6}) (aj ay (ai aM #[(3)]) {1}))<|>k) [À (.int c),À (.int n),Æ,Æ,Æ] G=k [À (.int c),À (.int n),À (.str "abcdefghijklmnopqrstuvwxyz"),À (.str (jD (cN c))),À (.int (iy c))] G:=by
 have e:=K8 c (À (.int n)) G;have a:=Vj (cN c) (by have:=kg c;lia) G;have b:aM [.str (jD (cN c))] G=.ok (.int (cN c).length) G:=by have hz:(cN c).length<=Ç:=lz (by have:=kg c;lia);simp only[aM,ak,m7,Α hz]
 have d:0<((cN c).length:Int)+1:=∅
 have h:((cN c).length:Int)+1<1073741824:=by have:=kg c;lia
 unfold iy;generalize D.con ((cN c).map λx=>.str (jD [x]))=i at e a;generalize D.str (jD (cN c))=C at a b |-;generalize D.str "abcdefghijklmnopqrstuvwxyz"=Z at e |-;generalize El=E at e |-;generalize((cN c).length:Int)=L at b d h |-;generalize f:D.str ""=S at a |-;have g:dB "str" G S=Ã:=by subst f;rfl
 simp[e,a,b,kM,aP,d,h,g]
theorem GH(c:Int)(n:Nat)(h:n<=4)(G:DH):eX [.int c,.int n] G=.ok (.con ((Ē 0 n).map λk=>.str (dX c k))) G:=by unfold eX;refine gb ?_ (by rw[dQ];exact aA λ_=>aW);rw[bQ];show(iI [À (.int c),À (.int n),Æ,Æ,Æ] G).fn=_;have e:iI [À (.int c),À (.int n),Æ,Æ,Æ] G=bS (eFn K7) [À (.int c),À (.int n),À (.str "abcdefghijklmnopqrstuvwxyz"),À (.str (jD (cN c))),À (.int (iy c))] G:=xy c n h G _;rw[e,qE,dh,Bp c n h,d7 (aA λ_=>aW),pq,jT]
def ql(names:P3)(nm:Str):Nat:=(names.filter λn=>n==nm).length
def nj(mix:Bool)(names:P3):List Itm->P3->Bool
 |[],left=>left.isEmpty
 |i::r,left=>
  if inR i (ql names i.nm:Int)=Ã then
   if mix=Ã then nj mix names r (left.filter λn=>!(n==i.nm))
   else if left.take (ql names i.nm)=Ö (ql names i.nm) i.nm then nj mix names r (left.drop (ql names i.nm)) else Ä
  else Ä
theorem Em:∀(its:List Itm)(w:P3),cP its w=Ã->∀n∈w,∃i∈its,i.nm=n
 |[],w,h,n,hn=>by
  cases w with
  |nil=>simp at hn
  |cons x w=>cases h
 |i::R,w,h,n,hn=>by
  have k:∀(w:P3)(y:Int),jj i (cP R) y w=Ã->∀n∈w,n=i.nm\/∃j∈R,j.nm=n:=by
   intro w
   induction w with
   |nil=>intro y _ n hn;simp at hn
   |cons x w d=>
    intro y a n hn;rw[jj]at a;by_cases b:x=i.nm
    ·rw[Α b]at a;rcases Ù.mp hn with rfl|hn
     ·exact .inl b
     ·exact d _ a n hn
    ·rw[Β b]at a;have f:cP R (x::w)=Ã:=by
      cases q:cP R (x::w)with
      |true=>rfl
      |false=>rw[q]at a;simp at a
     exact .inr (Em R (x::w) f n hn)
  rcases k w 0 h n hn with e|⟨j,c,e⟩
  ·exact⟨i,by simp,e.symm⟩
  ·exact⟨j,by simp[c],e⟩
theorem xA(i:Itm)(f:P3->Bool):∀(w:P3)(y:Int),∃(m:Nat)(a:P3),w=Ö m i.nm++a/\(∀n t,a=n::t->n≠i.nm)/\jj i f y w=(inR i (y+(m:Int))&&f a)
 |[],y=>⟨0,[],by simp,λn t e=>by simp at e,by simp[jj]⟩
 |n::t,y=>by
  by_cases h:n=i.nm
  ·obtain⟨m,a,c,b,d⟩:=xA i f t (y+1);refine⟨m+1,a,by rw[c,h];rfl,b,?_⟩;rw[jj,Α h,d,show y+1+(m:Int)=y+((m+1:Nat):Int) by lia]
  ·exact⟨0,n::t,by simp,λg t' e=>by cases e;exact h,by rw[jj,Β h];simp⟩
theorem K9(a b:P3)(nm:Str):ql (a++b) nm=ql a nm+ql b nm:=by simp[ql]
theorem RX(m:Nat)(nm:Str):ql (Ö m nm) nm=m:=by simp[ql]
theorem En{a:P3}{nm:Str}(h:nm∉a):ql a nm=0:=by unfold ql;rw[ŭ,ų];intro n b e;simp at e;exact h (e▸b)
theorem RY{a:P3}{nm:Str}(h:nm∈a):0<ql a nm:=by unfold ql;exact acw (ļ.mpr ⟨h,by simp⟩)
theorem Eo:∀(its:List Itm),(its.map (·.nm)).Nodup->∀(p left:P3),(∀i∈its,i.nm∉p)->nj Ä (p++left) its left=cP its left
 |[],c,p,left,s=>by rw[nj,cP]
 |i::R,c,p,left,s=>by
  rw[Ï,ę]at c;have C:=s i ⋯;have B:ql (p++left) i.nm=ql left i.nm:=by rw[K9,En C];lia
  obtain⟨m,w',d,x,A⟩:=xA i (cP R) left 0;rw[nj,cP,A,B];have E:ql left i.nm=m+ql w' i.nm:=by rw[d,K9,RX]
  by_cases b:i.nm∈w'
  ·have z:cP R w'=Ä:=by
    cases q:cP R w' with
    |false=>rfl
    |true=>obtain⟨j,f,e⟩:=Em R w' q i.nm b;exact(c.1 (by rw[<- e];exact ä.mpr ⟨j,f,rfl⟩)).elim
   rw[z,abH];have v:=RY b;by_cases a:inR i (ql left i.nm:Int)=Ã
   ·rw[Α a,Β (by decide),Β ?_];intro e;cases w' with
    |nil=>simp at b
    |cons n t=>have r:=x n t rfl;rw[E,d]at e;have g:=congrArg (λl=>l[m]?) e;rw[ŕ,Α ∅,Ò ⋯]at g;simp at g;rw[Ũ,Α ∅]at g;exact r (é g)
   ·rw[Β a]
  ·have hz:=En b;have y:ql left i.nm=m:=∅
   rw[y];have w:(0:Int)+(m:Int)=(m:Int):=∅
   rw[w];have D:left.take m=Ö m i.nm:=by rw[d,abc ⋯];simp
   have o:left.drop m=w':=by rw[d,List.drop_append_of_le_length ⋯];simp
   by_cases a:inR i (m:Int)=Ã
   ·rw[Α a,Β (by decide),Α D,a,ł,o];have u:=Eo R c.2 (p++Ö m i.nm) w' (λj f k=>by
     rcases ì.mp k with h|h
     ·exact s j (by simp[f]) h
     ·have:=(adq.mp h).2;exact c.1 (by rw[<- this];exact ä.mpr ⟨j,f,rfl⟩))
    rw[â,<- d]at u;exact u
   ·rw[Β a];have:inR i (m:Int)=Ä:=‹a›
    rw[this,Ÿ]
theorem Ep(names:P3):∀(its:List Itm)(left:P3),nj Ã names its left=(gC its (its.map λ_=>0) names&&(left.all λn=>its.any λi=>i.nm==n))
 |[],left=>by
  rw[nj];cases left with
  |nil=>simp[gC]
  |cons n t=>simp[gC]
 |i::R,left=>by
  rw[nj,Ï,gC];have g:(0:Int)+cnt names i.nm=(ql names i.nm:Int):=by simp[cnt,ql]
  rw[g];by_cases a:inR i (ql names i.nm:Int)=Ã
  ·rw[Α a,Α rfl,Ep names R,a,ł];congr 1;rw[List.all_filter];apply aao.mpr;rw[œ,œ];constructor
   ·intro h n c;have:=h n c;simp only[aaW];by_cases e:i.nm=n
    ·simp[e]
    ·have d:(n==i.nm)=Ä:=by simpa using λz=>e z.symm
     simp[d]at this;simp[this]
   ·intro h n c;have:=h n c;simp only[aaW,abg,beq_iff_eq]at this;by_cases e:n=i.nm
    ·simp[e]
    ·have d:(n==i.nm)=Ä:=‹e›
     rcases this with b|b
     ·exact(e b.symm).elim
     ·simp[d,b]
  ·have f:inR i (ql names i.nm:Int)=Ä:=‹a›
   rw[Β a,f];simp
theorem C6(mix:Bool)(its:List Itm)(W:WF its)(names:P3):nj mix names its names=accept mix its names:=by
 cases mix with
 |false=>rw[uJ its W];have:=Eo its W.nd [] names (λi _ h=>by simp at h);f_are
 |true=>rw[uL its W,Ep,Bool.and_comm];rfl
theorem NR(mix:Bool)(G:DH):fG Ä (.str (if mix=Ã then "mix" else "row")) (.str "row") G=.ok (.bl (!mix)) G:=by
 cases mix
 ·rw[Β (by decide),iG _ _ _ _ (by symm) (by symm)];congr 1
 ·rw[Α rfl,iG _ _ _ _ (by symm) (by symm)];congr 1
theorem NS(g:Bool)(nm:Str)(hnm:Ñ nm=Ã)(ws:P3)(hw:∀x∈ws,Ñ x=Ã)(hl:ws.length<=1000)(τ:DS)(G:DH)(h3:τ[3]?=À (À (.str nm))){ρ:DS}(hm:mask [Ä,Ä,Ä,Ã] τ=Æ::Æ::Æ::À (.str nm)::ρ):
  cK oN [Ä,Ä,Ä,Ã] (cy (aj (fG g) (0) (4))) (0) G.length (ws.map .str) τ (G++[.lst []])=.ok (.obj G.length) (G++[.lst ((ws.filter λn=>g ^^ (n==nm)).map .str)]):=by
 have c1:=bX (τ:=τ) (G:=G) (gO:=oN) (ks:=[Ä,Ä,Ä,Ã]) (tt:=cy (aj (fG g) (0) (4))) (te:=aa 0) (own:=λx:Str=>[.str x]) (dat:=λx=>D.str x) (f:=λx=>D.str x) (c:=λn=>g ^^ (n==nm)) ws [] () (λx _=>rfl) (λx hx acc=>by rw[hm];have he:=iG g x nm (G++[.lst acc]) (hw x hx) hnm;simp![he]) (λx hx acc=>by simp![hm])
 rw[ã]at c1;exact c1
theorem OI(g:Bool)(i:Nat)(nm:Str)(a:Ñ nm=Ã)(w:P3)(f:∀x∈w,Ñ x=Ã)(b:w.length<=1000)(τ:DS)(G:DH)(c:τ[i]?=À (À (.con (w.map .str))))(j:τ[3]?=À (À (.str nm))){ρ:DS}(e:mask [Ä,Ä,Ä,Ã] τ=Æ::Æ::Æ::À (.str nm)::ρ):
  eFn (dJ oN [Ä,Ä,Ä,Ã] (aa i) (cy (aj (fG g) (0) (4))) (0)) τ G=.ok (.con ((w.filter λn=>g ^^ (n==nm)).map .str)) G:=by
 have d:=NS g nm a w f b τ G j e;have h:aG ((w.filter λn=>g ^^ (n==nm)).map D.str)=Ã:=aA λ_=>aW;simp only[dh,sA,gQ,c,e8,d];rw[d7 h]
theorem NT(nm:Str)(C:Nat)(f:C<=900)(τ:DS)(G:DH)(g:τ[3]?=À (À (.str nm)))(b:τ[6]?=À (À (.int (C:Int)))):
  UM (vn (aj rJ (ai aR #[(3)]) (6))) τ G=.ok (.con ((Ö C nm).map .str)) G:=by
 kcf_m;have c:(Ö C [D.str nm]).flatten=(Ö C nm).map .str:=by
  rw[List.map_replicate];clear b f
  induction C with
  |zero=>rfl
  |succ C i=>rw[Ċ,Ņ,i,Ċ];rfl
 have hz:((Ö C nm).map D.str).length<=Ç:=lz ();have h:C<=Ç:=lz ∅;have j:(G++[DO.lst [D.str nm]])[G.length]?=À (.lst [.str nm]):=lS _ _ _;have e:aj rJ (ai aR #[(3)]) (6) τ G=.ok (.obj (G.length+1)) (G++[.lst [.str nm],.lst ((Ö C nm).map .str)]):=by
  simp_all! [g,b,aR,İ,Α z1,rJ,j]
  rw[Α (by refine⟨∅,∅,?_⟩;simpa using h)];simp only[ó,c,Α hz,Ý,Ó,ď,â,ħ,ã,İ]
 have d:vn (aj rJ (ai aR #[(3)]) (6)) τ G=.ok (.con ((Ö C nm).map .str)) (G++[.lst [.str nm],.dead]):=by rw[DF,e];exact Jm
 have a:(D.con ((Ö C nm).map .str)).closed=Ã:=by rw[dQ];exact aA λ_=>aW
 unfold UM;rw[d];k_in;rw[Α ⟨by simp[iO],a⟩]
theorem La(i:Itm)(C:Nat)(x c d e:X9)(G:DH):rW (cy (aj ER (6) (4))) (d9 (cy (aj (fH Ã) (5) (eC .bD))) (cy (aj qA (6) (5)))) [x,c,d,e,À (.int i.lo),À (iP i.hi),À (.int (C:Int))] G=.ok (!inR i (C:Int)) G:=by
 unfold inR;cases hh:i.hi with
 |none=>
  by_cases h:i.lo<=(C:Int)
  ·have h':¬ (C:Int)<i.lo:=∅
   simp![iP,h,h',fH]
  ·have h':(C:Int)<i.lo:=∅
   simp![iP,h,h',fH]
 |some z=>
  by_cases h:i.lo<=(C:Int)
  ·have h':¬ (C:Int)<i.lo:=∅
   by_cases b:(C:Int)<=z
   ·have a:¬ z<(C:Int):=∅
    simp![iP,h,h',b,a,fH]
   ·have a:z<(C:Int):=∅
    simp![iP,h,h',b,a,fH]
  ·have h':(C:Int)<i.lo:=∅
   simp![iP,h,h',fH]
theorem u7(a b:Str)(mix:Bool)(vK:List Itm)(names:P3)(hn:∀x∈names,Ñ x=Ã)(hl:names.length<=100):∀(its:List Itm),(∀i∈its,Ñ i.nm=Ã)->∀(left:P3),(∀x∈left,Ñ x=Ã)->left.length<=names.length->∀(o3 o4 o5 o6:X9)(G:DH),
  (nj mix names its left=Ä/\bh (Nh 3 4 5) bZ (its.map bR) [À (aK a b mix vK),À (.con (names.map .str)),À (.con (left.map .str)),o3,o4,o5,o6] G=.rt (.bl Ä) G) \/
  (∃(left':P3)(p3 p4 p5 p6:X9),(∀x∈left',Ñ x=Ã)/\nj mix names its left=left'.isEmpty/\bh (Nh 3 4 5) bZ (its.map bR) [À (aK a b mix vK),À (.con (names.map .str)),À (.con (left.map .str)),o3,o4,o5,o6] G=.nx [À (aK a b mix vK),À (.con (names.map .str)),À (.con (left'.map .str)),p3,p4,p5,p6] G)
 |[],hi,left,hle,Sn,o3,o4,o5,o6,G=>.inr ⟨left,o3,o4,o5,o6,hle,by rw[nj],by simp[bh]⟩
 |i::R,hi,left,hle,Sn,o3,o4,o5,o6,G=>by
  have hin:=hi i ⋯;have hR:∀G,aE (aK a b mix vK) (.int 2) G=.ok (.str (if mix=Ã then "mix" else "row")) G:=λG=>by unfold aK;simp![at2]
  have hrm:=λG=>NR mix G;have et:Nh 3 4 5 (bR i) [À (aK a b mix vK),À (.con (names.map .str)),À (.con (left.map .str)),o3,o4,o5,o6]=À [À (aK a b mix vK),À (.con (names.map .str)),À (.con (left.map .str)),À (.str i.nm),À (.int i.lo),À (iP i.hi),o6]:=rfl;have f1:=OI Ä 1 i.nm hin names hn ∅ [À (aK a b mix vK),À (.con (names.map .str)),À (.con (left.map .str)),À (.str i.nm),À (.int i.lo),À (iP i.hi),o6] G rfl rfl rfl;have ec:(names.filter λn=>Ä ^^ (n==i.nm))=names.filter λn=>n==i.nm:=by congr 1;funext n;simp
  rw[ec]at f1;have hcl:ql names i.nm<=names.length:=Ŵ _ _;have Ye:((names.filter λn=>n==i.nm).map D.str).length=ql names i.nm:=by simp[ql]
  generalize hF:(names.filter λn=>n==i.nm).map D.str=F at f1 Ye;generalize hC:ql names i.nm=C at hcl Ye;generalize Za:(names.map D.str)=ND at f1 et |-;generalize Zb:aK a b mix vK=RD at f1 et hR |-;generalize hwm:(if mix=Ã then ("mix":Str) else "row")=wm at hR hrm;rw[Ï,bH et];have s1:∀G,rV (.con (left.map .str)) Æ (À (C:Int)) G=.ok (.obj G.length) (G++[.lst ((left.take C).map .str)]):=λG=>by
   have jU:cutD (left.map D.str) Æ (À (C:Int))=(left.take C).map .str:=by unfold cutD;rw[HT.iD,HT.iT];rw[Û,adA,acY,<- aaX];congr 1;rw[aaT];lia
   have hz:((left.take C).map D.str).length<=Ç:=lz ();simp only[rV,ak,jU,aR,Α hz]
  have s2:∀G,rV (.con (left.map .str)) (À (C:Int)) Æ G=.ok (.obj G.length) (G++[.lst ((left.drop C).map .str)]):=λG=>by
   have jU:cutD (left.map D.str) (À (C:Int)) Æ=(left.drop C).map .str:=by
    unfold cutD;rw[HT.iD,HT.iT,Ę (by rw[Œ];lia),<- aaZ];congr 1;rw[Û];by_cases h:C<=left.length
    ·rw[show min C left.length=C by lia]
    ·rw[show min C left.length=left.length by lia,ĺ ∅,ĺ ∅]
   have hz:((left.drop C).map D.str).length<=Ç:=lz ();simp only[rV,ak,jU,aR,Α hz]
  have k1:aG ((left.take C).map D.str)=Ã:=aA λ_=>aW;have k2:aG ((left.drop C).map D.str)=Ã:=aA λ_=>aW;have hC9:C<=900:=∅
  have rp:=λx4 x5=>NT i.nm C hC9 [À RD,À (.con ND),À (.con (left.map .str)),À (.str i.nm),x4,x5,À (.int (C:Int))] G rfl rfl;have Ej:=La i C (À RD) (À (.con ND)) (À (.con (left.map .str))) (À (.str i.nm)) G;have hst:∀x∈left.take C,Ñ x=Ã:=λx hx=>hle x (ş hx);have hsr:∀x∈Ö C i.nm,Ñ x=Ã:=λx hx=>by rw[(adq.mp hx).2];exact hin
  have eqs:=uW Ã (left.take C) (Ö C i.nm) hst hsr G;have f2:=OI Ã 2 i.nm hin left hle ∅ [À RD,À (.con ND),À (.con (left.map .str)),À (.str i.nm),À (.int i.lo),À (iP i.hi),À (.int (C:Int))] G rfl rfl rfl;have ef:(left.filter λn=>Ã ^^ (n==i.nm))=left.filter λn=>!(n==i.nm):=by congr 1;funext n;simp
  rw[ef]at f2;have w1:eFn (iE (2) bU (aS (6))) [À RD,À (.con ND),À (.con (left.map .str)),À (.str i.nm),À (.int i.lo),À (iP i.hi),À (.int (C:Int))] G=.ok (.con ((left.take C).map .str)) G:=by
   simp_all! [dh,rG,kI,jo,mT,s1]
   rw[d7 k1]
  have w2:eFn (iE (2) (aS (6)) bU) [À RD,À (.con ND),À (.con (left.map .str)),À (.str i.nm),À (.int i.lo),À (iP i.hi),À (.int (C:Int))] G=.ok (.con ((left.drop C).map .str)) G:=by
   simp_all! [dh,rG,kI,jo,mT,s2]
   rw[d7 k2]
  have hLF:nj mix names (i::R) left=if inR i (C:Int)=Ã then if mix=Ã then nj mix names R (left.filter λn=>!(n==i.nm)) else if left.take C=Ö C i.nm then nj mix names R (left.drop C) else Ä else Ä:=by rw[nj,hC]
  have NU:aM [.con F] G=.ok (.int (C:Int)) G:=by simp only[aM,ak,Ye]
  rw[hLF];cases hr:inR i (C:Int)with
  |false=>
   rw[hr]at Ej;refine .inl ⟨rfl,?_⟩;have step:bZ [À RD,À (.con ND),À (.con (left.map .str)),À (.str i.nm),À (.int i.lo),À (iP i.hi),o6] G=.rt (.bl Ä) G:=by
    unfold bZ
    simp_all! [f1,NU,Ej,ac0,zP]
   rw[step];rfl
  |true=>
   rw[hr]at Ej;rw[Α rfl];cases mix with
   |true=>
    rw[Α rfl];have step:bZ [À RD,À (.con ND),À (.con (left.map .str)),À (.str i.nm),À (.int i.lo),À (iP i.hi),o6] G=.nx [À RD,À (.con ND),À (.con ((left.filter λn=>!(n==i.nm)).map .str)),À (.str i.nm),À (.int i.lo),À (iP i.hi),À (.int (C:Int))] G:=by
     unfold bZ
     simp_all! [f1,NU,Ej,Ķ]
     simp_all! [pB,hR,hrm,Ķ,Ĥ,if_false,f2]
    rw[step,eL,<- Zb,<- Za];exact u7 a b Ã vK names hn hl R (λj hj=>hi j (by simp[hj])) _ (λx hx=>hle x (ļ.mp hx).1) (ü (Ŵ _ _) Sn) _ _ _ _ G
   |false=>
    rw[Β (by decide)];by_cases he:left.take C=Ö C i.nm
    ·have he':(left.take C==Ö C i.nm)=Ã:=‹he›
     rw[he']at eqs;rw[Α he];have step:bZ [À RD,À (.con ND),À (.con (left.map .str)),À (.str i.nm),À (.int i.lo),À (iP i.hi),o6] G=.nx [À RD,À (.con ND),À (.con ((left.drop C).map .str)),À (.str i.nm),À (.int i.lo),À (iP i.hi),À (.int (C:Int))] G:=by
      unfold bZ
      simp_all! [f1,NU,Ej,Ķ]
      simp_all! [pB,hR,hrm,ac0,w1,rp,eqs,ace,w2]
     rw[step,eL,<- Zb,<- Za];exact u7 a b Ä vK names hn hl R (λj hj=>hi j (by simp[hj])) _ (λx hx=>hle x (Ž hx)) () _ _ _ _ G
    ·have he':(left.take C==Ö C i.nm)=Ä:=‹he›
     rw[he']at eqs;rw[Β he];refine .inl ⟨rfl,?_⟩;have step:bZ [À RD,À (.con ND),À (.con (left.map .str)),À (.str i.nm),À (.int i.lo),À (iP i.hi),o6] G=.rt (.bl Ä) G:=by
      unfold bZ
      simp_all! [f1,NU,Ej,Ķ]
      simp_all! [pB,hR,hrm,ac0,w1,rp,eqs,Bool.xor_false,zP]
     rw[step];rfl
theorem RZ(a b:Str)(mix:Bool)(its:List Itm)(W:WF its)(r:∀i∈its,Ñ i.nm=Ã)(names:P3)(f:∀x∈names,Ñ x=Ã)(g:names.length<=100)(G:DH):
  jd [aK a b mix its,.con (names.map .str)] G=.ok (.bl (accept mix its names)) G:=by
 have h:aG (names.map D.str)=Ã:=aA λ_=>aW;have hz:(names.map D.str).length<=Ç:=lz ();have m:eFn (ai qD #[(1)]) [À (aK a b mix its),À (.con (names.map .str)),Æ,Æ,Æ,Æ,Æ] G=.ok (.con (names.map .str)) G:=by
  simp_all! [dh,qD,ak]
  rw[g7 hz h]
 have t:∀τ,aj aE (0) {3} (À (aK a b mix its)::τ) G=.ok (.tup (its.map bR)) G:=by intro τ;unfold aK;simp![Sm]
 have e:=C6 mix its W names;unfold jd;refine gb ?_ fQ;rw[bQ];unfold nZ;simp only[Ï,ĸ,Ó,ď,ħ,ã,Ö,f9,lU,m,rF,ic,ß,à,iZ,t,IV];rcases u7 a b mix its names f g its r names f (Ë _) Æ Æ Æ Æ G with⟨d,c⟩|⟨l,k,s,p,o,j,d,c⟩
 ·rw[c,zP,jT,<- e,d]
 ·rw[c,ic,<- e,d];have q:eFn (ai aR #[]) [À (aK a b mix its),À (.con (names.map .str)),À (.con (l.map .str)),k,s,p,o] G=.ok (.con (([]:P3).map .str)) G:=by simp only[dh,su,tQ,e8];exact g7 (ê _) rfl
  have n:=uW Ä l [] j ⋯ G;simp only[qE,wA,gQ,ň,acm,e8,aJ,q,n,pq,jT,abO];cases l<;>rfl
theorem uR.head{a:List cR}{t:T}{p:D2}{nm:Str}{ms:PD}(h:uR a t p nm ms):∃(n:Nat)(r:cR)(m:PD),a[n]?=À r/\r.nm=nm/\ms=(p,.int n)::m:=by
 cases t with
 |nd k ps=>rw[uR]at h;obtain⟨n,r,b,m,d,c,_,_,_,rfl⟩:=h;exact⟨n,r,m,d,c,rfl⟩
theorem oq.Er{d:List cR}:∀{b:List T}{p:D2}{j:Int}{a:P3}{ms:PD},oq d b p j a ms->a.length=b.length
 |[],p,j,a,ms,h=>by rw[oq]at h;rw[h.1];rfl
 |t::r,p,j,a,ms,h=>by rw[oq]at h;obtain⟨nm,f,e,m,rfl,_,c,_⟩:=h;simp[oq.Er c]
theorem xB(n0:Str)(b:List cR)(F:X2->M D)(m sn L:Nat)(h1:sn≠m)(h2:L≠m)(h3:sn≠L)(I:Bool)(ms:PD)(p:D2)(o v l:D)(N:Nat)
  (hF:∀(t:T)(q:D2)(nm:Str)(sub:PD),uR b t q nm sub->(∀x∈sub,aN ms x.1=À x.2)->yY t->t.subs.length<=N->q.length+t.subs.length<=900->∀(H:DH)(s:D1),H[m]?=À (.aO I (az ms))->H[sn]?=À (.lst (s.map cD))->s.length+t.subs.length<=1000 ->
   ∃(u:D1)(H':DH),u.length=s.length+t.subs.length/\Fp (λq=>q=sn\/H.length<=q) H H'/\H'[sn]?=À (.lst (u.map cD))/\F [c7 n0 b,t.d,cD q,.obj m,.obj sn] H=.ok (.bl Ã) H'):
  ∀(e:List T)(j:Nat)(c:P3)(sub:PD),oq b e p (j:Int) c sub->(∀x∈sub,aN ms x.1=À x.2)->Gu e->(bM e).length<=N->p.length+1+(bM e).length<=900->∀(a:P3)(s:D1)(H:DH)(Q U:X9),a.length+e.length<=1000->H[m]?=À (.aO I (az ms))->H[sn]?=À (.lst (s.map cD))->H[L]?=À (.lst (a.map .str))->s.length+(bM e).length<=1000 ->
   ∃(Y q9:X9)(u:D1)(H':DH),u.length=s.length+(bM e).length/\Fp (λq=>q=sn\/q=L\/H.length<=q) H H'/\H'[sn]?=À (.lst (u.map cD))/\H'[L]?=À (.lst ((a++c).map .str)) /\
    bh (gP 8 9) (dN F) ((dL e).mapIdx λi x=>.tup [.int ((j+i:Nat):Int),x]) [À (c7 n0 b),À o,À (cD p),À (.obj m),À (.obj sn),À v,À l,À (.obj L),Q,U] H
    = .nx [À (c7 n0 b),À o,À (cD p),À (.obj m),À (.obj sn),À v,À l,À (.obj L),Y,q9] H'
 |[],j,c,sub,B,O,ht,hs,hp,a,s,H,Q,U,hz,V,gs,K,BI=>by rw[oq]at B;rw[B.1];refine⟨Q,U,s,H,by rw[bM];rfl,.refl,gs,‹K›,?_⟩;rw[dL];simp[bh]
 |t::r,j,c,sub,B,O,ht,hs,hp,a,s,H,Q,U,hz,V,gs,K,BI=>by
  rw[oq]at B;obtain⟨nm,fZ,m1,m2,rfl,g1,g2,rfl⟩:=B;obtain⟨ht1,XO⟩:=ht.cons;rw[bM,Ý]at hs hp BI;simp only[Ó]at hz;have hml:m<H.length:=(Â.mp V).1;have Sn:L<H.length:=(Â.mp K).1;obtain⟨Zc,g,c1,X,c3,R⟩:=hF t (p++[(j:Int)]) nm m1 g1 (λx w=>O x (by simp[w])) ht1 ∅ () H s V gs ∅;have VX:g[m]?=À (.aO I (az ms)):=X.keep _ _ ∅ V;have VY:g[L]?=À (.lst (a.map .str)):=X.keep _ _ ∅ K;obtain⟨n,rr,ms',k1,k2,k3⟩:=g1.head;have RN:aN ms (p++[(j:Int)])=À (.int n):=O (p++[(j:Int)],.int n) (by rw[k3];simp);have w:lZ (.obj m) (cD (p++[(j:Int)])) g=.ok (.int n) g:=jz VX RN;have hz':a.length<Ç:=Ø ∅ (lz (n:=1001) ∅);generalize f:g.set L (.lst ((a++[nm]).map .str))=h;have gm2:h[m]?=À (.aO I (az ms)):=by rw[<- f,Ô h2];exact VX
  have Z:h[sn]?=À (.lst (Zc.map cD)):=by rw[<- f,Ô (ô h3)];exact c3
  have gl2:h[L]?=À (.lst ((a++[nm]).map .str)):=by rw[<- f];exact gy VY
  have hlen2:h.length=g.length:=by rw[<- f];simp
  have f2:Fp (λq=>q=sn\/q=L\/H.length<=q) H h:=by rw[<- f];exact(X.mono λq _ z=>by rcases z with z|z;exact .inl z;exact .inr (.inr z)).trans (.set (.inr (.inl rfl)))
  obtain⟨Y,q9,u,H',i1,i2,i3,i4,ih⟩:=xB n0 b F m sn L h1 h2 h3 I ms p o v l N hF r (j+1) fZ m2 (by rw[show((j+1:Nat):Int)=(j:Int)+1 by lia];exact g2) (λx w=>O x (by simp[w])) XO ∅ ∅ (a++[nm]) Zc h (À (.int j)) (À t.d) () gm2 Z gl2 ∅;refine⟨Y,q9,u,H',by rw[i1,c1,bM,Ý];lia,f2.trans (i2.mono λq hq z=>?_),i3,by rw[i4];simp,?_⟩
  ·rcases z with z|z|z
   ·exact .inl z
   ·exact .inr (.inl z)
   ·exact absurd hq ∅
  have e0:(dL (t::r)).mapIdx (λi x=>D.tup [.int ((j+i:Nat):Int),x])=.tup [.int (j:Int),t.d]::(dL r).mapIdx λi x=>.tup [.int ((j+1+i:Nat):Int),x]:=by rw[dL,aab];congr 1;apply Ĕ;intro i;simp only[ē];congr 1;funext x;rw[show j+(i+1)=j+1+i by lia]
  have J:=λτ H i k=>Bf p ∅ (j:Int) τ H i k;have W:∀G,aE (c7 n0 b) (.int 1) G=.ok (.tup (b.map aL)) G:=λG=>by unfold c7;simp![uD]
  have GC:∀G,aE (.tup (b.map aL)) (.int n) G=.ok (aL rr) G:=λG=>by have:iz (b.map aL) (n:Int)=À (aL rr):=nB (by rw[Þ,k1];rfl);simp only[aE,ak,this]
  have D7:=yS rr;rw[k2]at D7;rw[e0,bH rfl];k_all;have C:dN F [À (c7 n0 b),À o,À (cD p),À (.obj m),À (.obj sn),À v,À l,À (.obj L),À (.int j),À t.d] H=.nx [À (c7 n0 b),À o,À (cD p),À (.obj m),À (.obj sn),À v,À l,À (.obj L),À (.int j),À t.d] h:=by have y:=J [À (c7 n0 b),À o,À (cD p),À (.obj m),À (.obj sn),À v,À l,À (.obj L),À (.int j),À t.d] H 2 8 rfl rfl;have A:=J [À (c7 n0 b),À o,À (cD p),À (.obj m),À (.obj sn),À v,À l,À (.obj L),À (.int j),À t.d] g 2 8 rfl rfl;rw[show(a++[nm]).map D.str=a.map .str++[.str nm] by simp]at f;generalize c7 n0 b=S at R y A W |-;generalize t.d=tt at R y A |-;generalize cD (p++[(j:Int)])=P1 at R w y A;generalize cD p=P at y A |-;generalize b.map aL=RS at W GC;generalize hE:aj ay (2) (ai aY #[(8)])=E at y A;unfold dN;rw[hE];simp[y,A,R,w,W,GC,D7,dB,VY,br,hz',f,gA]
  rw[C,eL];exact ih
theorem Lb{d:List cR}(c:∀r∈d,sI r):∀{g:List T}{p:D2}{j:Int}{a:P3}{ms:PD},oq d g p j a ms->∀x∈a,Ñ x=Ã
 |[],p,j,a,ms,h,x,b=>by rw[oq]at h;rw[h.1]at b;simp at b
 |t::r,p,j,a,ms,h,x,b=>by
  rw[oq]at h;obtain⟨nm,o,q,m,rfl,i,l,rfl⟩:=h;obtain⟨n,f,_,k,e,_⟩:=i.head;rcases Ù.mp b with rfl|b
  ·rw[<- e];exact(c f (ç k)).sn
  ·exact Lb c l x b
theorem xC(n0:Str)(i:List cR)(hz:i.length<=100)(y:∀r∈i,sI r)(m sn:Nat)(w:sn≠m)(J:Bool)(ms:PD):∀(N:Nat),N<=100->∀(t:T)(p:D2)(nm:Str)(sub:PD),uR i t p nm sub->(∀x∈sub,aN ms x.1=À x.2)->yY t->t.subs.length<=N->p.length+t.subs.length<=900->∀(H:DH)(s:D1),H[m]?=À (.aO J (az ms))->H[sn]?=À (.lst (s.map cD))->s.length+t.subs.length<=1000 ->
  ∃(K:D1)(H':DH),K.length=s.length+t.subs.length/\Fp (λq=>q=sn\/H.length<=q) H H'/\H'[sn]?=À (.lst (K.map cD))/\bW N [c7 n0 i,t.d,cD p,.obj m,.obj sn] H=.ok (.bl Ã) H'
 |0,hN,t,p,nm,sub,R,Z,ht,hs,hp,H,s,E,I,BI=>by have:=uQ t;lia
 |N+1,hN,.nd k l,p,nm,sub,R,Z,ht,hs,hp,H,s,E,I,BI=>by
  obtain⟨⟨hk,hps⟩,hts⟩:=ht.node;rw[T.subs,Ó]at hs hp BI;rw[uR]at R;obtain⟨n,r,j,ms',X,h2,h3,h4,h5,rfl⟩:=R;have hrl:=oq.Er h5;have ho:=y r (ç X);have RN:aN ms p=À (.int n):=Z (p,.int n) ⋯;have hml:m<H.length:=(Â.mp E).1;have hsl:sn<H.length:=(Â.mp I).1;have abn:=j9 l;generalize A:H.set sn (.lst ((s++[p]).map cD))++[.lst []]=v;have VX:v[m]?=À (.aO J (az ms)):=by rw[<- A];exact aH (by rw[Ô w];exact E)
  have VC:v[sn]?=À (.lst ((s++[p]).map cD)):=by rw[<- A];exact aH (gy I)
  have hl1:v.length=H.length+1:=by rw[<- A];simp
  have VY:v[H.length]?=À (.lst (([]:P3).map .str)):=by rw[<- A,Ò ⋯];simp
  obtain⟨q8,q9,K,H',i1,i2,i3,V,e1⟩:=xB n0 i (bW N) m sn H.length w ∅ ∅ J ms p (T.nd k l).d (.int n) (aL r) N (λt q nm sub a b c d e H s f g h=>xC n0 i hz y m sn w J ms N ∅ t q nm sub a b c d e H s f g h) l 0 j ms' h5 (λx hx=>Z x (by simp[hx])) hts ∅ ∅ [] (s++[p]) v Æ Æ () VX VC VY ();simp only[İ,ã]at e1 V;have Sn:H.length<H'.length:=(Â.mp V).1;refine⟨K,H'.set H.length .dead,by rw[i1,T.subs];simp;lia,?_,by rw[Ô ∅];exact i3,?_⟩
  ·have f0:Fp (λq=>q=sn\/H.length<=q) H v:=by rw[<- A];exact(Fp.set (.inl rfl)).trans .app
   refine(f0.trans (i2.mono λq hq z=>?_)).trans (.set (.inr (Ë _)));rcases z with z|z|z
   ·exact .inl z
   ·exact .inr ∅
   ·exact absurd hq ∅
  have C:yf (.obj m) (cD p) (.int (-1)) H=.ok (.int n) H:=by unfold yf;rw[mw];k_in;rw[E];k_in;rw[mZ,RN];rfl
  have hdt:wK H (.obj m)=Ã:=by unfold wK;k_in;rw[E]
  have Q:n<i.length:=(Â.mp X).1;have F:∀G,aE (c7 n0 i) (.int 1) G=.ok (.tup (i.map aL)) G:=λG=>by unfold c7;simp![uD]
  have O:∀G,aE (.tup (i.map aL)) (.int n) G=.ok (aL r) G:=λG=>by have:iz (i.map aL) (n:Int)=À (aL r):=nB (by rw[Þ,X];rfl);simp only[aE,ak,this]
  have Y:∀G,aE (T.nd k l).d (.int 1) G=.ok (.tup (dL l)) G:=λG=>by rw[T.d];simp![uD]
  have Zd:∀G,aE (T.nd k l).d (.int 0) G=.ok (.str k) G:=λG=>by rw[T.d];simp![yG]
  have U:=Eg r;rw[h3]at U;have o:∀G,aM [.tup (i.map aL)] G=.ok (.int i.length) G:=λG=>by simp only[aM,ak,Û]
  have L:=Lb y h5;have B:∀G,jd [aL r,.con (j.map .str)] G=.ok (.bl Ã) G:=λG=>by have:=RZ r.nm r.kd r.mix r.its ho.wf ho.si j L ∅ G;rw[h4]at this;exact this
  have Oz:fG Ä (.str k) (.str k) H'=.ok (.bl Ã) H':=by rw[iG Ä _ _ _ hk hk];simp
  have u:=wM (g:=gP 8 9) (body:=dN (bW N)) (xs:=dL l) (τ:=[À (c7 n0 i),À (T.nd k l).d,À (cD p),À (.obj m),À (.obj sn),À (.int n),À (aL r),À (.obj H.length),Æ,Æ]) (G:=v);rw[e1]at u;rw[bW];gn_on;have W:s.length<Ç:=Ø ∅ (lz (n:=1001) ∅);have Ze:∀τ:DS,τ[7]?=À (À (.obj H.length))->vn (7) τ H'=.ok (.con (j.map .str)) (H'.set H.length .dead):=by
   intro τ h;unfold vn;have e:aa 7 τ H'=.ok (.obj H.length) H':=by rw[gQ,h]
   rw[e];k_in;rw[V]
  have sv:∀τ:DS,τ[3]?=À (À (.obj m))->τ[2]?=À (À (cD p))->uh (3) (2) (zu {1}) τ H=.ok (.int n) H:=by
   intro τ a b;have b1:aa 3 τ H=.ok (.obj m) H:=by rw[gQ,a]
   have b2:aa 2 τ H=.ok (cD p) H:=by rw[gQ,b]
   have b3:zu {1} τ H=.ok (.int (-1)) H:=by simp only[IX,MF,e8,IY]
   unfold uh;simp only[M.bind,b1,b2,b3,Α hdt,C]
  have Ej:∀τ:DS,τ[0]?=À (À (c7 n0 i))->τ[5]?=À (À (.int n))->rW (jQ (eF gA (zy .int (5)))) (rW (eF gA (zy .bl (5))) (jQ (cy (nL Tv ER {0} (5) (ai aM #[(0)\{1}]))))) τ H=.ok Ä H:=by
   intro τ a b;have c1:nL Tv ER {0} (5) (ai aM #[(0)\{1}]) τ H=.ok (.bl Ã) H:=by unfold nL;simp[M.bind,a,b,F,o,Tv,ER,aP,Q]
   simp[a,b,c1,tB,Sb,Ty.is,gA]
  rw[show(s++[p]).map cD=s.map cD++[cD p] by simp]at A;generalize i.map aL=RS at F O o;generalize c7 n0 i=S at F u Ej |-;generalize(T.nd k l).d=td at Y Zd u |-;generalize cD p=P at sv u A |-;generalize aL r=RR at O U B u;generalize j.map D.str=RW at B u Ze;generalize dL l=DL at Y u;rw[bQ];unfold fD
  simp_all! [sv]
  rw[Ej _ rfl rfl]
  simp_all! [iH,jS,dB,I,beq_self_eq_true,br,Û,Α W,lC,F,O,aR,Α h0,adR,A,gZ,jX,Y,ak,u]
  simp_all! [Jx,U,Zd,Oz,Ze,B,gA]
theorem Bq(c:Int)(n:Nat)(h:n<=4)(G:DH):cY [.int c,.int n] G=.ok (.obj G.length) (G++[.lst ((Ē 0 n).map λk=>.str (dX c k))]):=by unfold cY;refine Jo ?_ (aA λ_=>aW);rw[bQ];show(gi [À (.int c),À (.int n),Æ,Æ,Æ] G).fn=_;have e:gi [À (.int c),À (.int n),Æ,Æ,Æ] G=bS K7 [À (.int c),À (.int n),À (.str "abcdefghijklmnopqrstuvwxyz"),À (.str (jD (cN c))),À (.int (iy c))] G:=xy c n h G _;rw[e,qE,Bp c n h,pq,jT]
theorem oz{b:Type} [DecidableEq b]:∀{l:List (b×D)},(l.map (·.1)).Nodup->∀x∈l,aN l x.1=À x.2
 |p::l,h,x,a=>by
  rw[Ï,ę]at h;rw[cM];rcases Ù.mp a with rfl|a
  ·rw[Α rfl]
  ·rw[Β (λe=>h.1 (by rw[e];exact ä.mpr ⟨x,a,rfl⟩)),oz h.2 x a]
mutual
theorem uR.nd{l:List cR}:∀(t:T)(p:D2)(nm:Str)(ms:PD),uR l t p nm ms->(ms.map (·.1)).Nodup
 |.nd k c,p,nm,ms,h=>by rw[uR]at h;obtain⟨n,r,a,m,_,_,_,_,d,rfl⟩:=h;rw[Ï,ę];refine⟨λg=>?_,oq.nd c p 0 a m d⟩;obtain⟨x,f,e⟩:=ä.mp g;obtain⟨i,_,b⟩:=(oq.keys c p 0 a m d).1 x f;exact gx (p:=p) (j:=i) (by rw[e]at b;exact b)
theorem oq.nd{w:List cR}:∀(s:List T)(p:D2)(j:Int)(c:P3)(ms:PD),oq w s p j c ms->(ms.map (·.1)).Nodup
 |[],p,j,c,ms,h=>by rw[oq]at h;rw[h.2];exact acN
 |t::r,p,j,c,ms,h=>by rw[oq]at h;obtain⟨nm,f,g,m,rfl,k,i,rfl⟩:=h;rw[ø,Đ];refine⟨uR.nd t _ nm g k,oq.nd r p (j+1) f m i,λa o b v e=>?_⟩;kpc_g;obtain⟨x,n,z⟩:=ä.mp o;obtain⟨y,q,u⟩:=ä.mp v;have l:=(uR.keys t _ nm g k).1 x n;obtain⟨B,A,d⟩:=(oq.keys r p (j+1) f m i).1 y q;rw[z]at l;rw[u]at d;have:=sJ l d;lia
end
theorem Lc{m:X2->M D}{ds:X2}{G R:DH}{xs:X2}(h:m ds G=.ok (.obj (G++R).length) (G++R++[.lst xs]))(b:aG xs=Ã):iB m ds G=.ok (.obj G.length) (G++[.lst xs]):=by
 have a:(G++R++[DO.lst xs])[(G++R).length]?=À (.lst xs):=lS _ _ _;have e:(G++R++[DO.lst xs]).take G.length=G:=by rw[â,abo];rfl
 unfold iB;rw[h];k_in;rw[a];k_in;rw[Α ⟨by rw[e];exact iO _,by simp,b⟩]
theorem GI(n0:Str)(a:List cR)(hz:a.length<=5)(h:∀r∈a,sI r)(t:T)(w:yY t)(v:t.subs.length<=500)(G:DH):gq [c7 n0 a,t.d] G=.ok (.obj G.length) (G++[.lst ((aT (bB a t)).map .str)]):=by
 obtain⟨k,B,p,e⟩:=mG n0 a ∅ h t w v G;obtain⟨q,g,u,i,l⟩:=p.root;generalize j:G++DO.aO Ä (az k)::B=b at i e;have n:b[G.length]?=À (.aO Ä (az k)):=by rw[<- j,lS]
 have o:cD []=D.tup []:=rfl;have x:lZ (.obj G.length) (.tup []) b=.ok (.obj q) b:=by rw[<- o];exact jz n u
 have m:=pZ a t;have c:((aT (bB a t)).map D.str).length<=Ç:=lz (by rw[Û,(bq _).length_eq];lia);have f:(jx g).length<64:=by
  have:(e9 g).length<64:=by rw[l];lia
  simpa[jx]using this
 have s:kO [.obj q] b=.ok (.obj b.length) (b++[.lst ((aT (bB a t)).map .str)]):=by simp only[kO,gf,i,qV,Α f,l,aR,Α c]
 gn_on;unfold gq;refine Lc (R:=DO.aO Ä (az k)::B) ?_ (aA λ_=>aW);rw[j];generalize c7 n0 a=S at e |-;generalize t.d=y at e |-;rw[bQ];unfold lu
 simp_all! [kP,e,aY,Α h0,x,s]
theorem Br(n0:Str)(a:List cR)(hz:a.length<=5)(j:∀r∈a,sI r)(t:T)(J:yY t)(Q:t.subs.length<=90)(nm:Str)(v:Ñ nm=Ã)(ms:PD)(mk:uR a t [] nm ms)(m:Nat)(G:DH)(i:G[m]?=À (.aO Ä (az ms))):
  eZ [c7 n0 a,t.d,.obj m,.str nm] G=.ok (.bl Ã) G:=by
 have p:∀G,aE (c7 n0 a) (.int 1) G=.ok (.tup (a.map aL)) G:=λG=>by unfold c7;simp![uD]
 gn_on;obtain⟨n,r,M,k1,k2,k3⟩:=mk.head;have b:=uR.nd t [] _ ms mk;have F:m<G.length:=(Â.mp i).1;obtain⟨P,H',I,s,K,g⟩:=xC n0 a ∅ j m G.length ∅ Ä ms 95 ∅ t [] _ ms mk (λx C=>oz b x C) J ∅ () (G++[.lst []]) [] (aH i) (lS _ _ _) ();have h:=(uR.keys t [] _ ms mk).2;have k:aN ms []=À (.int n):=oz b ([],.int n) (by rw[k3];simp);have Z:H'[m]?=À (.aO Ä (az ms)):=s.keep _ _ () (aH i);have c:H'=G++H'.drop G.length:=by
  have:H'.take G.length=G:=by
   apply Ĕ;intro q;rw[ŕ];split
   ·rename_i w;have e:=s.keep q _ () (aH (E:=[.lst []]) (Í w));rw[e,Í w]
   ·rw[ù ∅]
  conv=>lhs;rw[<- ŵ G.length H',this]
 have y:cD []=D.tup []:=rfl;have H:lZ (.obj m) (.tup []) H'=.ok (.int n) H':=by rw[<- y];exact jz Z k
 have u:∀G,aE (.tup (a.map aL)) (.int n) G=.ok (aL r) G:=λG=>by have:iz (a.map aL) (n:Int)=À (aL r):=nB (by rw[Þ,k1];rfl);simp only[aE,ak,this]
 have z:=yS r;rw[k2]at z;have A:pM [.obj m] H'=.ok (.int t.subs.length) H':=by simp only[pM,Z,j8,h]
 have f:aM [.obj G.length] H'=.ok (.int t.subs.length) H':=by simp only[aM,ak,K,Û,I,ď,İ]
 have B:fG Ä (.int t.subs.length) (.int t.subs.length) H'=.ok (.bl Ã) H':=by rw[jn];simp
 have l:fG Ä (.str nm) (.str nm) H'=.ok (.bl Ã) H':=by rw[iG _ _ _ _ v v];simp
 have o:tB .dct (.obj m) (G++[.lst []])=.ok (.bl Ã) (G++[.lst []]):=by have:(G++[DO.lst []])[m]?=À (.aO Ä (az ms)):=aH i;simp only[tB,Sb,this];rfl
 rw[y]at g;unfold eZ;refine jq (R:=H'.drop G.length) ?_ fQ;rw[<- c];generalize a.map aL=N at p u;generalize c7 n0 a=S at p g |-;generalize t.d=O at g |-;generalize(t.subs.length:Int)=L at A f B;rw[bQ];unfold lA
 simp_all! [aR,Α h0,IU,sy,pA,Q9,o,gA,Ķ,Ĥ,if_false,aY,g,Jx,f,A,B,p,kP,H,u,z,l]
theorem C7(n0:Str)(a:List cR)(hz:a.length<=5)(h:∀r∈a,sI r)(t:T)(j:yY t)(i:t.subs.length<=500)(nm:Str)(m:nm∉bB a t)(G:DH):
  gr [c7 n0 a,t.d,.str nm] G=.ok (.bl Ã) G:=by
 rcases mH n0 a ∅ h t j i (À nm) G with⟨k,_⟩|⟨_,R,l,e⟩
 ·exact(m k).elim
 ·unfold gr;refine jq (R:=R) ?_ fQ;simp only[GU]at e;generalize c7 n0 a=S at e |-;generalize t.d=b at e |-;rw[bQ];unfold jh;have c:ő ("NoShape":Str) [("NoShape",Ã)]=À Ã:=by simp[ő]
  have g:dG (aF 3 dm #[(0),(1),(2)]) [À S,À b,À (.str nm)] G=.xn (.mk "NoShape" l) [À S,À b,À (.str nm)] (G++R):=by
   simp_all! [e,iH]
   rfl
  have f:zJ (dG (aF 3 dm #[(0),(1),(2)])) (tF (λn=>ő n [("NoShape",Ã)]) (bS (eC (.bl Ã))) Qz) bC [À S,À b,À (.str nm)] G=.rt (.bl Ã) (G++R):=by rw[Rb,g,Uz,MG,c];rfl
  show(av _ _ [À S,À b,À (.str nm)] G).fn=_;rw[f9,f,zP,jT]
theorem qg{m k:MS}{τ τ':DS}{G G':DH}(h:m τ G=.nx τ' G'):av m k τ G=k τ' G':=by rw[f9,h,ic]
theorem oA{i:Nat}{e:Y2}{k:MS}{τ:DS}{G G':DH}{v:D}(h:e τ G=.ok v G'):av (aC i e) k τ G=k (τ.set i (À v)) G':=by rw[f9,lU,h,rF,ic]
theorem Ld{a b c:Str}(d:a≠b)(h:a≠c)(e:b≠c):[a,b,c].Nodup:=by simp[d,h,e]
theorem names4{j:D2}(r:lJ j)(C:D){H:DH}(M:bf 0 j H)(p:H.length=1):∃(a b c d:Str)(H':DH),[a,b,c].Nodup/\(∀x∈[a,b,c,d],Ñ x=Ã)/\bf 0 j H'/\H'[1]?=À (.lst [.str a,.str b,.str c,.str d])/\∀k:MS,
  av (aC 2 (aF 2 cY #[aF 1 aD #[(1)],{4}])) (iV (cy (aj (fG Ä) (aj aX (aF 1 aD #[(1)]) {2}) {1})) (iA (aj ay ((2)\{0}) ("z")) (2) {0}) bC<|>k) [À C,À (.obj 0),Æ,Æ,Æ,Æ,Æ,Æ,Æ,Æ] H=k [À C,À (.obj 0),À (.obj 1),Æ,Æ,Æ,Æ,Æ,Æ,Æ] H':=by
 obtain⟨v,f,P,L,y,A⟩:=eu r M;have u:=Bq v 4 ∅ f;rw[y,p]at u;have O:cY [.int v,.int 4] f=.ok (.obj 1) (f++[.lst [.str (dX v 0),.str (dX v 1),.str (dX v 2),.str (dX v 3)]]):=u;obtain⟨w,e,B,s,S,t⟩:=eu r (G:=f++[.lst [.str (dX v 0),.str (dX v 1),.str (dX v 2),.str (dX v 3)]]) L.app;have g:e[1]?=À (.lst [.str (dX v 0),.str (dX v 1),.str (dX v 2),.str (dX v 3)]):=B.get ∅ (by rw[<- p,<- y];exact lS _ _ _);have o:dX v 0≠dX v 1:=λh=>by have:=yT v 0 1 ∅ ∅ h;lia
 have n:dX v 0≠dX v 2:=λh=>by have:=yT v 0 2 ∅ ∅ h;lia
 have Z:dX v 1≠dX v 2:=λh=>by have:=yT v 1 2 ∅ ∅ h;lia
 have first:∀k:MS,av (aC 2 (aF 2 cY #[aF 1 aD #[(1)],{4}])) k [À C,À (.obj 0),Æ,Æ,Æ,Æ,Æ,Æ,Æ,Æ] H=k [À C,À (.obj 0),À (.obj 1),Æ,Æ,Æ,Æ,Æ,Æ,Æ] (f++[.lst [.str (dX v 0),.str (dX v 1),.str (dX v 2),.str (dX v 3)]]):=λk=>by
  refine(oA (v:=.obj 1) ?_).trans rfl
  simp_all! [A,O]
 have E:cy (aj (fG Ä) (aj aX (aF 1 aD #[(1)]) {2}) {1}) [À C,À (.obj 0),À (.obj 1),Æ,Æ,Æ,Æ,Æ,Æ,Æ] (f++[.lst [.str (dX v 0),.str (dX v 1),.str (dX v 2),.str (dX v 3)]])=.ok (w%2==1) e:=by generalize f++[.lst [.str (dX v 0),.str (dX v 1),.str (dX v 2),.str (dX v 3)]]=Q at t |-;simp[t,aP,jn]
 by_cases z:w%2=1
 ·refine⟨dX v 0++"z",dX v 1,dX v 2,dX v 3,e.set 1 (.lst [.str (dX v 0++"z"),.str (dX v 1),.str (dX v 2),.str (dX v 3)]),?_,?_,s.set ∅,?_,λk=>?_⟩
  ·have hz:∀k,dX v 0++"z"≠dX v k:=λk h=>by
    have I:=congrArg adh h;have q:("z":Str).length=1:=by symm
    rw[mR,NQ v k,q]at I;lia
   exact Ld (hz 1) (hz 2) Z
  ·intro x i;simp only[Ù,ě,or_false]at i;rcases i with rfl|rfl|rfl|rfl
   ·exact good_add (qW _ _) (by symm)
   ·exact qW _ _
   ·exact qW _ _
   ·exact qW _ _
  ·rw[ñ,Α rfl,Α (Â.mp g).1]
  ·rw[first];refine qg ?_;rw[zQ,E,show(w%2==1)=Ã by simpa using z,IQ];have hz:(dX v 0).length+("z":Str).length<=Ç:=lz (by
    have q:("z":Str).length=1:=by symm
    have:=GF v 0;lia)
   have m:ay (.str (dX v 0)) (.str "z") e=.ok (.str (dX v 0++"z")) e:=by simp only[ay];exact Α hz
   generalize dX v 0++"z"=R at m |-;generalize dX v 0=n0 at g m |-;generalize dX v 1=K at g |-;generalize dX v 2=J at g |-;generalize dX v 3=N at g |-;have F:aE (.obj 1) (.int 0) e=.ok (.str n0) e:=by simp only[aE,ak,g];rfl
   have l:Bt [D.str n0,.str K,.str J,.str N].length 0=À 0:=rfl
   simp_all! [pI,F,m,kD,g,l,lC]
   rfl
 ·refine⟨dX v 0,dX v 1,dX v 2,dX v 3,e,Ld o n Z,?_,s,g,λk=>?_⟩
  ·intro x i;simp only[Ù,ě,or_false]at i;rcases i with rfl|rfl|rfl|rfl<;>exact qW _ _
  ·rw[first];refine qg ?_;rw[zQ,E,show(w%2==1)=Ä by simpa using z,IS,sr]
theorem Le(a b c d:Str)(h:[a,b,c].Nodup)(j:Int)(g:0<=j)(f:j<3):∃t:P3,(∀x∈a::t,x∈[a,b,c])/\(a::t).Nodup/\t.length<=2/\cutD [.str a,.str b,.str c,.str d] Æ (À (1+j))=(a::t).map .str:=by
 have:j=0\/j=1\/j=2:=∅
 rcases this with rfl|rfl|rfl
 ·exact⟨[],by simp,by simp,by simp,rfl⟩
 ·exact⟨[b],λx e=>by simp at e |-;rcases e with h|h<;>simp[h],by simp at h |-;exact h.1.1,by simp,rfl⟩
 ·exact⟨[b,c],λx e=>e,h,by simp,rfl⟩
abbrev VZ:Y2:=aF 1 aD #[(1)]
def Vk(k:MS):MS:=aC 3 (aF 2 eX #[VZ,{3}])<|>aC 4 (aF 4 gk #[(1),vn (iE (2) bU (aS (aj ay {1} (aj aX VZ {3})))),(3),{3}])<|>FG (gP 5 6) (aF 4 fV #[(1),(4),aj aX VZ {21},{90}])<|>k
theorem NV{F:D2}(j:lJ F)(C:D)(a b c d:Str)(A:[a,b,c].Nodup)(w:∀x∈[a,b,c,d],Ñ x=Ã){H:DH}(hs:bf 0 F H)(hg:H[1]?=À (.lst [.str a,.str b,.str c,.str d])):
  ∃(g:List cR)(t:T)(K M:D)(H':DH),g.length<=5/\(∀r∈g,sI r)/\(∀r∈g,r.nm∈[a,b,c])/\yY t/\t.subs.length<=90/\a∈bB g t/\H'[1]?=À (.lst [.str a,.str b,.str c,.str d])/\∀k:MS,
   Vk k [À C,À (.obj 0),À (.obj 1),Æ,Æ,Æ,Æ,Æ,Æ,Æ] H=k [À C,À (.obj 0),À (.obj 1),À K,À (c7 a g),À t.d,À M,Æ,Æ,Æ] H':=by
 obtain⟨f,m,u1,s1,l1,e1⟩:=eu j hs;have g1:=u1.get (q:=1) ∅ hg;have n1:=GH f 3 ∅ m;have Z:eX [.int f,.int 3] m=.ok (sD [dX f 0,dX f 1,dX f 2]) m:=n1;have l:∀x∈[dX f 0,dX f 1,dX f 2],Ñ x=Ã:=λx n=>by simp only[Ù,ě,or_false]at n;rcases n with rfl|rfl|rfl<;>exact qW _ _
 generalize hK:[dX f 0,dX f 1,dX f 2]=ks at Z l;have O:ks.length=3:=by rw[<- hK];rfl
 obtain⟨J,i,Y,s2,l2,e2⟩:=eu j s1;have B:=Y.get (q:=1) ∅ g1;obtain⟨e,P,t2,t3,t4⟩:=Le a b c d A (J%3) ∅ ∅;have Q:∀x∈a::e,Ñ x=Ã:=λx n=>w x (by
  have:=P x n;simp only[Ù,ě,or_false]at this |-;rcases this with h|h|h
  ·exact .inl h
  ·exact .inr (.inl h)
  ·exact .inr (.inr (.inl h)))
 have z3:((a::e).map D.str).length<=Ç:=lz ();have sl:vn (iE (2) bU (aS (aj ay {1} (aj aX VZ {3})))) [À C,À (.obj 0),À (.obj 1),À (sD ks),Æ,Æ,Æ,Æ,Æ,Æ] m=.ok (sD (a::e)) (i++[.dead]):=by
  have I:rV (.obj 1) Æ (À (1+J%3)) i=.ok (.obj i.length) (i++[.lst ((a::e).map .str)]):=by simp only[rV,ak,B,t4,aR,Α z3]
  have u:(Out.ok (.obj i.length) (i++[.lst ((a::e).map .str)]):Out D).fz=.ok (sD (a::e)) (i++[.dead]):=Om;generalize sD (a::e)=S at u |-;generalize(a::e).map D.str=TL at I u;generalize sD ks=K
  simp_all! [DF,rG,kI,jo,e2,aP,show(0:Int)<3 from by decide,show(3:Int)<1073741824 from by decide,decide_true,Bool.and_self,kM,DA,I,u]
 obtain⟨g,U,p,W,f3,o⟩:=Gz j (s:=0) a e ks ∅ Q (by intro z;rw[z]at O;simp at O) ∅ l (G:=i++[.dead]) s2.app;have h1l:1<i.length:=(Â.mp B).1;have g3:U[1]?=À (.lst [.str a,.str b,.str c,.str d]):=f3.keep 1 _ () ∅ (aH B);obtain⟨v6,X,u5,s5,l5,e5⟩:=eu j W;have R:=u5.get (q:=1) ∅ g3;obtain⟨t,ms,mk,G6,r1,r2,r9,_,r8,r3,r4,r5,E⟩:=K6 (names:=a::e) () t2 Q (n0:=a) rfl p j (v6%21) ∅ s5;have h5l:1<X.length:=(Â.mp R).1;have V:=r5.keep 1 _ ∅ R;refine⟨g,t,sD ks,.obj mk,G6,by have:=p.le;simp at this;lia,λr y=>(p.all r y).ok,λr y=>P _ (p.all r y).nm,r1.ok,r9,r8,V,λk=>?_⟩;unfold Vk;refine(oA (v:=sD ks) (G':=m) ?_).trans ?_
 ·simp_all! [e1,Z]
 refine(oA (v:=c7 a g) (G':=U) ?_).trans ?_
 ·generalize c7 a g=S at o |-;have L:=sl;generalize sD (a::e)=N at L o;generalize sD ks=K at L o;k_all;rw[Dz,x6,gQ]
  simp_all! [L,o]
 refine qg ?_;generalize c7 a g=S at E |-;generalize t.d=td at E |-;generalize sD ks=K
 simp_all! [Rr,e5,aP,show(0:Int)<21 from by decide,show(21:Int)<1073741824 from by decide,decide_true,Bool.and_self,E]
 rfl
theorem Es{p:cR->Bool}:∀(d:List cR)(c:P3),c.Nodup->(d.foldl (lI p) c).Nodup
 |[],c,h=>h
 |r::d,c,h=>by
  rw[Ď];refine Es d _ ?_;unfold lI;split
  ·rename_i i;rw[Đ];refine⟨h,by simp,λa g b f e=>?_⟩;have:b=r.nm:=‹f›
   exact i.2 (by rw[<- this,<- e];exact g)
  ·l_fit
theorem NW(r:List cR)(t:T):(bB r t).Nodup:=by
 cases t with
 |nd k ps=>rw[bB];exact Es _ _ .nil
theorem GJ(l:P3):aT (aT l)=aT l:=
 ab8 (λ_ _ _ _ a b=>Ak a b) (jr _) (jr _) (bq _)
theorem GK(g:Bool)(a b:P3)(h:∀x∈a,Ñ x=Ã)(c:∀x∈b,Ñ x=Ã){G:DH}{P:Nat}(d:G[P]?=À (.lst (a.map .str))):fG g (.obj P) (.con (b.map .str)) G=.ok (.bl (g ^^ (a==b))) G:=by
 have e:=uW g a b h c G;have t:mO G deep (.obj P)=mO G deep (.con (a.map .str)):=by show(match G[P]? with|some (.lst ds)=>(cu (mO G _) ds).map aaF|_=>Æ)=_;rw[d];rfl
 unfold fG BR at e |-;rw[t];exact e
theorem yU(g:Bool){l:P3}{x:Str}(b:∀y∈l,Ñ y=Ã)(a:Ñ x=Ã){G:DH}{d:D}(f:ak G d=À (.lst (l.map .str))):sY g (.str x) d G=.ok (.bl (g ^^ decide (x∈l))) G:=by
 have h:=tP x l G a (fX _ b);have e:(l.any λy=>y==x)=decide (x∈l):=by
  apply aao.mpr;rw[Ĝ,decide_eq_true_iff];constructor
  ·rintro⟨y,c,e⟩;rw[beq_iff_eq]at e;exact e▸c
  ·exact λh=>⟨x,h,by simp⟩
 simp only[sY,f,h,e]
theorem GL{a:List cR}{t:T}{x:Str}(h:x∈bB a t):∃r∈a,r.nm=x:=by
 cases t with
 |nd k ps=>rw[bB]at h;exact uX (λx=>∃r∈a,r.nm=x) a [] ⋯ (λr b=>⟨r,b,rfl⟩) x h
theorem GN(a:Str)(b:List cR)(hz:b.length<=5)(c:∀r∈b,sI r)(t:T)(l:yY t)(v:t.subs.length<=90)(C K M:D)(x:Str)(n:Ñ x=Ã)(o:X9)(H:DH):
  ∃(Y:X9)(R:DH),(∀k:DS->DH->Res,(n9 [À C,À (.obj 0),À (.obj 1),À K,À (c7 a b),À t.d,À M,À (sD (aT (bB b t))),o,À (.str x)] H).lp k=k [À C,À (.obj 0),À (.obj 1),À K,À (c7 a b),À t.d,À M,À (sD (aT (bB b t))),Y,À (.str x)] (H++R)):=by
 have p:∀y∈aT (bB b t),Ñ y=Ã:=λy q=>yQ c t y ((bq _).mem_iff.mp q);have f:=yU Ã p n (G:=H) (d:=sD (aT (bB b t))) rfl;by_cases g:x∈bB b t
 ·have i:decide (x∈aT (bB b t))=Ã:=decide_eq_true ((bq _).mem_iff.mpr g);rw[i]at f;rcases mH a b ∅ c t l ∅ (À x) H with⟨_,ms,R,m,mk,w,e⟩|⟨u,_⟩
  ·have j:=Br a b hz c t l v x n ms mk m (H++R) w;simp only[GU]at e;refine⟨À (.obj m),R,λk=>?_⟩;generalize c7 a b=S at e j |-;generalize t.d=s at e j |-;generalize sD (aT (bB b t))=L at f |-;unfold n9
   simp_all! [f,ace,e,sy,pA,j,gA,Ķ,eL]
  ·exact(u g).elim
 ·have i:decide (x∈aT (bB b t))=Ä:=decide_eq_false λh=>g ((bq _).mem_iff.mp h);rw[i]at f;have e:=C7 a b hz c t l ∅ x g H;refine⟨o,[],λk=>?_⟩;rw[ö];generalize c7 a b=S at e |-;generalize t.d=s at e |-;generalize sD (aT (bB b t))=L at f |-;unfold n9 CO
  simp_all! [f,Bool.xor_false,sy,pA,e,gA,Ķ]
  rfl
theorem u9(a:Str)(e:List cR)(hz:e.length<=5)(h:∀r∈e,sI r)(t:T)(q:yY t)(n:t.subs.length<=90)(C K M:D)(c:P3)(f:∀x∈c,Ñ x=Ã):∀(b p:P3)(o i:X9)(H:DH),c=p++b->H[1]?=À (.lst (c.map .str)) ->
  ∃(l k:X9)(R:DH),m9 (gN 9) n9 1 (b.length+1) p.length [À C,À (.obj 0),À (.obj 1),À K,À (c7 a e),À t.d,À M,À (sD (aT (bB e t))),o,i] H=.nx [À C,À (.obj 0),À (.obj 1),À K,À (c7 a e),À t.d,À M,À (sD (aT (bB e t))),l,k] (H++R)
 |[],p,o,i,H,g,j=>⟨o,i,[],by
  rw[ö];exact zR j (by rw[g];simp)⟩
 |x::b,p,o,i,H,g,j=>by obtain⟨Y,R,s⟩:=GN a e hz h t q n C K M x (f x (by rw[g];simp)) o H;obtain⟨l,k,u,m⟩:=u9 a e hz h t q n C K M c f b (p++[x]) Y (À (.str x)) (H++R) (by rw[g];simp) (aH j);refine⟨l,k,R++u,?_⟩;rw[Ó,I8 j (x:=.str x) (by rw[g];simp) rfl];k_all;rw[s];rw[Ý]at m;rw[<- â];exact m
theorem Bs(a:Str)(rs:List cR)(hrs:∀r∈rs,sI r)(t:T)(p q r d:Str)(hok:∀x∈[p,q,r,d],Ñ x=Ã)(hin:∀r'∈rs,r'.nm∈[p,q,r])(hz:rs.length<=5)(τ:DS)(H:DH)(h7:τ[7]?=À (À (sD (aT (bB rs t)))))(h2:τ[2]?=À (À (.obj 1)))(hg:H[1]?=À (.lst [.str p,.str q,.str r,.str d]))(hm:∃ρ,mask [Ä,Ä,Ã] τ=Æ::Æ::À (.obj 1)::ρ):
  aj (fG Ä) (ai aM #[eFn (dJ oN [Ä,Ä,Ã] (7) (cy (aj (sY Ã) (0) (eFn (iE (3) bU (aS {3}))))) (0))]) {0} τ H=.ok (.bl Ã) H:=by
 obtain⟨ρ,hm⟩:=hm;have hl:(aT (bB rs t)).length<=5:=by rw[(bq _).length_eq];exact ü (pZ rs t) hz
 have z3:(3:Nat)<=Ç:=lz ∅;have c1:=bX (τ:=τ) (G:=H) (gO:=oN) (ks:=[Ä,Ä,Ã]) (tt:=cy (aj (sY Ã) (0) (eFn (iE (3) bU (aS {3}))))) (te:=aa 0) (own:=λx:Str=>[.str x]) (dat:=λx=>D.str x) (f:=λx=>D.str x) (c:=λ_=>Ä) (aT (bB rs t)) [] () (λx _=>rfl) (λx hx acc=>by
  rw[hm];obtain⟨r',hr',e⟩:=GL ((bq _).mem_iff.mp hx);have Zj:x∈[p,q,r]:=e▸hin r' hr';have Lg:∀y∈[p,q,r],Ñ y=Ã:=λy hy=>hok y (by
   simp only[Ù,ě,or_false]at hy |-;rcases hy with h|h|h
   ·exact .inl h
   ·exact .inr (.inl h)
   ·exact .inr (.inr (.inl h)))
  have hg':(H++[DO.lst acc])[1]?=À (.lst [.str p,.str q,.str r,.str d]):=aH hg;have d1:rV (.obj 1) Æ (À 3) (H++[.lst acc])=.ok (.obj (H++[DO.lst acc]).length) ((H++[.lst acc])++[.lst [.str p,.str q,.str r]]):=by have:cutD [D.str p,.str q,.str r,.str d] Æ (À 3)=[.str p,.str q,.str r]:=rfl;simp only[rV,ak,hg',this,aR,Ó,ď,İ,Α z3]
  have m1:=yU Ã Lg (Lg x Zj) (G:=H++[.lst acc]) (d:=.con [.str p,.str q,.str r]) rfl;rw[decide_eq_true Zj]at m1;have d2:(Out.ok (.obj (H++[DO.lst acc]).length) ((H++[.lst acc])++[.lst [.str p,.str q,.str r]]):Out D).fw (H++[.lst acc])=.ok (.con [.str p,.str q,.str r]) (H++[.lst acc]):=d7 (aA (l:=[p,q,r]) λ_=>aW);generalize D.con [.str p,.str q,.str r]=S at d2 m1;generalize[D.str p,.str q,.str r]=TL at d1 d2;generalize H++[DO.lst acc]=G1 at d1 d2 m1 |-;simp[dh,rG,kI,jo,DA,d1,d2,m1]) (λx hx acc=>by simp![hm])
 have hf:(aT (bB rs t)).filter (λ_=>Ä)=[]:=by simp
 rw[hf,ĸ,ö]at c1;have hcl:aG ([]:X2)=Ã:=rfl;have e1:eFn (dJ oN [Ä,Ä,Ã] (7) (cy (aj (sY Ã) (0) (eFn (iE (3) bU (aS {3}))))) (0)) τ H=.ok (.con []) H:=by unfold sD at h7;simp only[dh,sA,gQ,h7,e8,c1];rw[d7 hcl]
 have e2:=jn Ä 0 0 H;generalize hE:eFn (dJ oN [Ä,Ä,Ã] (7) (cy (aj (sY Ã) (0) (eFn (iE (3) bU (aS {3}))))) (0))=E at e1 |-;simp[e1,aM,ak,e2]
def Vl:MS:=aC 7 (aF 2 gq #[(4),(5)])<|>iV (rW (cy (aj (DM Ã) (aF 2 AE #[(4),(5)]) (eC (.bl Ã)))) (cy (aj (sY Ã) ((4)\{0}) (7)))) (bS (eC (.bl Ä))) bC<|>iV (cy (aj (fG Ã) (7) (eFn (ai nW #[(7)])))) (bS (eC (.bl Ä))) bC<|>aC 8 (ue 3 dm #[(4),(5)])<|>iV (jQ (eF gA (aF 4 eZ #[(4),(5),(8),(4)\{0}]))) (bS (eC (.bl Ä))) bC<|>dG (Vz kQ (8))<|>dG (bu "list" qG (7) ah)<|>aC 7 (aF 2 gS #[(4),(5)])<|>gG (gN 9) (2) n9<|>bS (aj (fG Ä) (ai aM #[eFn (dJ oN [Ä,Ä,Ã] (7) (cy (aj (sY Ã) (0) (eFn (iE (3) bU (aS {3}))))) (0))]) {0})
theorem NX(C K M:D)(a b c d:Str)(k:∀x∈[a,b,c,d],Ñ x=Ã)(e:List cR)(hz:e.length<=5)(h:∀r∈e,sI r)(J:∀r∈e,r.nm∈[a,b,c])(t:T)(o:yY t)(Y:t.subs.length<=90)(i:a∈bB e t){H:DH}(hg:H[1]?=À (.lst [.str a,.str b,.str c,.str d])):
  ∃H',Vl [À C,À (.obj 0),À (.obj 1),À K,À (c7 a e),À t.d,À M,Æ,Æ,Æ] H=.rt (.bl Ã) H':=by
 have I:Ñ a=Ã:=k a ⋯;have A:∀y∈aT (bB e t),Ñ y=Ã:=λy hy=>yQ h t y ((bq _).mem_iff.mp hy);have Yj:a∈aT (bB e t):=(bq _).mem_iff.mpr i;have mJ:(aT (bB e t)).length<=5:=by rw[(bq _).length_eq];exact ü (pZ e t) hz
 have L:(aT (bB e t)).Nodup:=(bq _).nodup_iff.mpr (NW e t);have e1:=GI a e hz h t o ∅ H;generalize V:H++[DO.lst ((aT (bB e t)).map .str)]=f at e1;have w:f[H.length]?=À (.lst ((aT (bB e t)).map .str)):=by rw[<- V,lS]
 have g1:f[1]?=À (.lst [.str a,.str b,.str c,.str d]):=by rw[<- V];exact aH hg
 have h1l:1<H.length:=(Â.mp hg).1;have X:=RO a I e hz h t o ∅ f;rw[decide_eq_true i]at X;have U:=yU Ã A I (G:=f) (d:=.obj H.length) (by simp only[ak,w]);rw[decide_eq_true Yj]at U;have q:∀G,aE (c7 a e) (.int 0) G=.ok (.str a) G:=λG=>by unfold c7;simp![yG]
 have E:((aT (bB e t)).map D.str).length<=Ç:=lz ();have so:nW [.obj H.length] f=.ok (.obj f.length) (f++[.lst ((aT (bB e t)).map .str)]):=by simp only[nW,ak,w,ou];rw[Α ⟨L,∅⟩,GJ,aR,Α E]
 have fw:(Out.ok (.obj f.length) (f++[.lst ((aT (bB e t)).map .str)]):Out D).fw f=.ok (.con ((aT (bB e t)).map .str)) f:=d7 (aA λ_=>aW);have p:=GK Ã (aT (bB e t)) (aT (bB e t)) A A w;have N6:(aT (bB e t)==aT (bB e t))=Ã:=by simp
 rw[N6]at p;rcases mH a e ∅ h t o ∅ Æ f with⟨_,ms,R,m,mk,j,F⟩|⟨hn,_⟩
 case inr=>exact(hn i).elim
 simp only[GU]at F;have Q:=Br a e hz h t o Y a I ms mk m (f++R) j;generalize O:f++R=l at j F Q;have g2:l[1]?=À (.lst [.str a,.str b,.str c,.str d]):=by rw[<- O];exact aH g1
 have Z:l[H.length]?=À (.lst ((aT (bB e t)).map .str)):=by rw[<- O];exact aH w
 have n1:m≠1:=λz=>by rw[z,g2]at j;cases j
 have n2:m≠H.length:=λz=>by rw[z,Z]at j;cases j
 have Zl:kQ (.obj m) l=.ok .bD (l.set m (.aO Ä [])):=by simp only[kQ,j]
 generalize By:l.set m (.aO Ä [])=u at Zl;have B:u[H.length]?=À (.lst ((aT (bB e t)).map .str)):=by rw[<- By,Ô n2];exact Z
 have g3:u[1]?=À (.lst [.str a,.str b,.str c,.str d]):=by rw[<- By,Ô n1];exact g2
 generalize Zm:u.set H.length (.lst [])=g;have N:g[1]?=À (.lst ([a,b,c,d].map .str)):=by rw[<- Zm,Ô ∅];exact g3
 have e5:=A4 a e hz h t o ∅ g;obtain⟨P,p9,s,e6⟩:=u9 a e hz h t o Y C K M [a,b,c,d] k [a,b,c,d] [] (À (.obj m)) Æ g rfl N;have g5:(g++s)[1]?=À (.lst [.str a,.str b,.str c,.str d]):=aH N;have e7:=Bs a e h t a b c d k J hz [À C,À (.obj 0),À (.obj 1),À K,À (c7 a e),À t.d,À M,À (sD (aT (bB e t))),P,p9] (g++s) rfl rfl g5 ⟨_,rfl⟩;refine⟨g++s,?_⟩;unfold sD at e5 e6 e7;generalize(aT (bB e t)).map D.str=W at *;generalize c7 a e=S at *;generalize t.d=n at *;unfold Vl;refine(oA (v:=.obj H.length) (G':=f) ?_).trans ?_
 ·simp_all! [e1]
 k_all;refine(qg (τ':=[À C,À (.obj 0),À (.obj 1),À K,À S,À n,À M,À (.obj H.length),Æ,Æ]) (G':=f) ?_).trans ?_
 ·have hB:DM Ã (.bl Ã) (.bl Ã)=L3.M.ret (.bl Ä):=rfl
  simp_all! [IU,X,hB,Ĥ,if_false,q,U,ace]
 refine(qg (τ':=[À C,À (.obj 0),À (.obj 1),À K,À S,À n,À M,À (.obj H.length),Æ,Æ]) (G':=f) ?_).trans ?_
 ·simp_all! [dh,so,fw,p,ace]
 refine(oA (v:=.obj m) (G':=l) ?_).trans ?_
 ·unfold ue
  simp_all! [Ó,ď,F]
 k_all;refine(qg (τ':=[À C,À (.obj 0),À (.obj 1),À K,À S,À n,À M,À (.obj H.length),À (.obj m),Æ]) (G':=l) ?_).trans ?_
 ·simp_all! [sy,pA,q,Q,gA,Ķ]
 refine(qg (τ':=[À C,À (.obj 0),À (.obj 1),À K,À S,À n,À M,À (.obj H.length),À (.obj m),Æ]) (G':=u) ?_).trans ?_
 ·simp_all! [iH,Uy,Zl,lC]
 refine(qg (τ':=[À C,À (.obj 0),À (.obj 1),À K,À S,À n,À M,À (.obj H.length),À (.obj m),Æ]) (G':=g) ?_).trans ?_
 ·simp_all! [iH,jS,dB,B,beq_self_eq_true,qG,Zm,lC]
 refine(oA (v:=.con W) (G':=g) ?_).trans ?_
 ·simp_all! [e5]
 k_all;refine(qg (τ':=[À C,À (.obj 0),À (.obj 1),À K,À S,À n,À M,À (.con W),P,p9]) (G':=g++s) ?_).trans ?_
 ·rw[iZ,gQ]
  simp_all! [N]
  exact e6
 rw[qE,e7,pq]
theorem Lh(n:D2)(j:n.length<=63):∃G,Ka [.con (n.map .int)] []=.ok (.bl Ã) G:=by
 obtain⟨f,h,q⟩:=GD n j [];have Z:dM [.con (n.map .int)] []=.ok (.obj 0) [Bx f 0]:=q;obtain⟨a,b,c,d,y,o,g,w,p,m⟩:=names4 h (.con (n.map .int)) (H:=[Bx f 0]) ⟨0,∅,rfl⟩ rfl;obtain⟨x,t,K,M,z,k1,k2,k3,k,k5,u,l,s⟩:=NV h (.con (n.map .int)) a b c d o g w p;obtain⟨i,e⟩:=NX (.con (n.map .int)) K M a b c d g x k1 k2 k3 t k k5 u l;refine⟨[],?_⟩;unfold Ka;refine jq (R:=i) ?_ fQ;have r:wR [À (.con (n.map .int)),Æ,Æ,Æ,Æ,Æ,Æ,Æ,Æ,Æ] []=.rt (.bl Ã) i:=by
  unfold wR;refine(oA (v:=.obj 0) (G':=[Bx f 0]) ?_).trans ?_
  ·generalize D.con (n.map .int)=C at Z |-
   simp_all! [Z]
  refine(m _).trans ?_;exact(s _).trans e
 rw[ã];show Ac (cj 10 wR [.con (n.map .int)] [])=_;rw[bQ];show Ac (wR [À (.con (n.map .int)),Æ,Æ,Æ,Æ,Æ,Æ,Æ,Æ,Æ] []).fn=_;rw[r,jT];rfl
end
end K22
end
namespace K22
noncomputable section
open PySem PySem.Spec L2 L3
theorem walk{l:adV}{v:ð}{b:P3}{X:(Str->Option Å)->Heap->Prop}{Y:Ć->Heap->Prop}{d:DefRec}{K:Params->Ì}(p:l.most=À 63)(e:d.params.defaults=[])
    (y:∀(w:Ć)(h:Heap),Y w h->(K w.params).In h) (o:d.name="law")
    (F:∀(w:Ć)(m:Str->Option Å)(h:Heap),(K w.params).In h->h.Ns mainGlobals m->pK (K w.params) m defs/\jZ m Rz/\Rw (⟨l.prog,w,K w.params,m,h⟩:oE) "NoShape"/\FO (⟨l.prog,w,K w.params,m,h⟩:oE) "NoShape" [("NoShape",Ã)]/\rK (K w.params) m "marking" 3 wQ wO):
    adb v b X Y l.row.toRowW d [] (λf vs=>ad3 f vs):=
  JK (n:=63) (k:=98) (x:="_law_script") (CX:=λw=>xV l.prog w) p (by decide) e ⟨rfl,by decide,by decide⟩ y (λw m A h t G hm=>by obtain⟨T,s,k0,k1,k2⟩:=F w m h t G;obtain⟨f,fd,Fu,i⟩:=T.at 28 rfl;rw[o,i]at hm;cases hm;exact⟨fd,_,FN Fu (by intro _ _ _ _ _ _;exact yb λ_=>rfl),λc=>RA (g:=⟨l.prog,w,K w.params,m,c⟩) ⟨T,s,k0,k1,k2⟩ Fu,λH a B j u r=>Rx Lh j u r⟩) λ_ _ _ _ _ q=>by obtain⟨_,_,_,_,_,_,_,_,_,z⟩:=q;exact z
end
end K22
end
namespace PySem.W.Fast
def tw4221757173319397420:=0
def tw8333478884787578273:=0
def tw13112574543837307463:=0
def tw7330463353661136219:=0
def tw4225894133424932521:=0
def tw10141827907008956368:=0
def tw550817706165131299:=0
def tw8818948159840745903:=0
def tw14549833475814952734:=0
def tw3317558637957679949:=0
def tw18337095328608861769:=0
def tw11532996269759416878:=0
def tw9502480668268975879:=0
def tw8775542231800564192:=0
def tw16810616450802130996:=0
def tw5800785422054056227:=0
def tw12419768142483881404:=0
def tw17602722784762768807:=0
def tw15645431480276069862:=0
def tw1433539702356368430:=0
def tw11177903810171036756:=0
def tw3826490819186778313:=0
def tw12388145399018814656:=0
def tw6322695208182721801:=0
def tw8775836747768372666:=0
def tw9767193474135944837:=0
def tw3181555207655250418:=0
def tw11931512481615617964:=0
def tw11064114371622762269:=0
def tw3422826862301261562:=0
def tw18369416456602106555:=0
def tw6514152860422750690:=0
def tw10847200577432847915:=0
def tw14341169031931944634:=0
def tw6639315423473385472:=0
def tw14083483457441305544:=0
def tw7703142224594222086:=0
def tw4663358305387378499:=0
def tw14166879732849228663:=0
def tw1318724968549397088:=0
def tw5452243463088948199:=0
def tw10579222265728889028:=0
def tw13710666012800009142:=0
def tw5921198978456546389:=0
def tw13298206368590791194:=0
def tw11671341825168210010:=0
def tw4776126754706564441:=0
def tw6132541083559466060:=0
def tw18264016420432392591:=0
def tw2503160086334558451:=0
def tw6409345147719450133:=0
def tw6650882852068339896:=0
def tw13271950404251109467:=0
def tw6661876716898136910:=0
def tw14794644472788760136:=0
def tw14751588013040923825:=0
def tw15011571367561416504:=0
def tw8629268018628730050:=0
def tw5018671289912770443:=0
def tw4123803801115799421:=0
def tw3829442442489651004:=0
def tw14444775857432725281:=0
def tw15381575337244322498:=0
def tw5014296532791954156:=0
def tw9089215625992668913:=0
def tw14071469615852382410:=0
def tw16019065759892624726:=0
def tw4783663287645980397:=0
def tw60524031426204675:=0
def tw1144891698499598875:=0
def tw10088329884391693368:=0
def tw4909854171293927152:=0
def tw10761739871674392103:=0
def tw13193432305852842561:=0
def tw13243284368171655033:=0
def tw9967330162683527784:=0
def tw2974996824252406724:=0
def tw3787567615796389829:=0
def tw18350345731980590939:=0
def tw2285425856749572633:=0
def tw12977425377744666999:=0
def tw3376467608364275240:=0
def tw5131874925598891359:=0
def tw18290241854660234507:=0
def tw4375903463483875048:=0
def tw16745512913374608337:=0
def tw12681098661504522478:=0
def tw15768391365231358664:=0
def tw15103947413164884985:=0
def tw7961339916161109703:=0
def tw17913678000208682278:=0
def tw12937869653225682667:=0
def tw14597570079481636278:=0
def tw3749618354825160147:=0
def tw297502511437933891:=0
def tw3327641713026616077:=0
def tw11805407723953280380:=0
def tw1692225704937775985:=0
def tw15887675628644748072:=0
def tw14562286218487626139:=0
def tw15946994880765813131:=0
def tw14434591257995700743:=0
def tw11215217538950346730:=0
def tw2700386771941932396:=0
def tw15519485476043753288:=0
def tw11589109596180737279:=0
def tw14813362487631593694:=0
def tw2882394470177518483:=0
def tw4617998279731524569:=0
def tw13839825419984009499:=0
def tw4832130765628836039:=0
def tw15900423947458500553:=0
def tw8923512368774103809:=0
def tw4510129057345854275:=0
def tw4146050636264192291:=0
def tw11487842774531031337:=0
def tw5345559131690516600:=0
def tw6506424913948927668:=0
def tw9636686547040821504:=0
def tw8020605769227051673:=0
def tw3084058684548468357:=0
def tw2955230008843807083:=0
def tw17056070280263970111:=0
def tw16933887912541243234:=0
def tw16480242509626963289:=0
def tw12376462231449346654:=0
def tw5054728652004792423:=0
def tw9444764486897840426:=0
def tw5379776091725723980:=0
def tw3804922827914612007:=0
def tw3720330256771496397:=0
def tw15340743564489253934:=0
def tw1445182456690728488:=0
def tw13363456074157800129:=0
def tw12030596878253979913:=0
def tw10810666033330668820:=0
def tw5323152033950176404:=0
def tw9325713009494546844:=0
def tw11098729420472377210:=0
def tw17170848897442662164:=0
def tw14648940804418716309:=0
def tw15075018463968035273:=0
def tw15797322914008001865:=0
def tw15943417520882189986:=0
def tw9643514230030243973:=0
def tw2212390654377317673:=0
def tw10951417696577946941:=0
def tw1709000943089271788:=0
def tw14403863991366208487:=0
def tw4593380240283614754:=0
def tw8742319693368499280:=0
def tw7737964378538945957:=0
def tw332608642896801705:=0
def tw12818045658223386342:=0
def tw12197691758586938451:=0
def tw10911236531052330873:=0
def tw17985091901743645154:=0
def tw4721043876942932031:=0
def tw17312559827697898857:=0
def tw17007479284305464165:=0
def tw12682593804816651935:=0
def tw1152850158572484819:=0
def tw9478082150511844435:=0
def tw9315499976663756563:=0
def tw7097526018632443439:=0
def tw16623333167886466935:=0
def tw13332123775078311768:=0
def tw10045040937558919232:=0
def tw6054966525187430849:=0
def tw2958183180849947135:=0
def tw13357844101735167039:=0
def tw9347303347247446458:=0
def tw9181647233854980251:=0
def tw7405956536048508507:=0
def tw6998379621357459603:=0
def tw3502897550665428012:=0
def tw3245270080762148901:=0
def tw16188162245942108476:=0
def tw15357401986446372572:=0
def tw1261961169614851033:=0
def tw11193894636498586502:=0
def tw9866304576722896321:=0
def tw9606427030864601740:=0
def tw9280149731308868415:=0
def tw7848815346564558145:=0
def tw7663817240220512484:=0
def tw7336766249164536146:=0
def tw667287151974665880:=0
def tw654253224435424649:=0
def tw6346361144344641052:=0
def tw490528265497951869:=0
def tw4643501631703252063:=0
def tw4639429449042510778:=0
def tw3594315660631084005:=0
def tw257382575334568760:=0
def tw193473151757079440:=0
def tw17847990434209628376:=0
def tw15712255614089403822:=0
def tw15200550460965825828:=0
def tw13025522532923516648:=0
def tw12845573016224155154:=0
def tw11072284758263193488:=0
def tw10981630365447204618:=0
def tw10660925528566321887:=0
def tw10609350550261264889:=0
def tw10220321572070802381:=0
end PySem.W.Fast
open PySem PySem.W PyProof.Rows
set_option maxRecDepth 100000 in
set_option maxHeartbeats 0 in
theorem PySem.Challenge.cw_pathshape_k22_marked_trees_holds : PySem.Challenge.rw_pathshape_k22_marked_trees.Holds := by
  w_on;o_law;z_head;(case hw=>w_witness2)
  k_fill
  refine L3.JJ (λP=>rfl) (K22.walk (l:=PySem.Challenge.rw_pathshape_k22_marked_trees) rfl rfl (λ_ _ Y=>Y) rfl ?F)
  case F=>
    intro w mg h KX G
    refine ⟨?_,?_,?_,?_,?_⟩
    · delta K22.defs
      repeat (refine' L3.pK.JH KX G ?_ ?_ ?_ ?_ ?_;any_goals exact rfl)
      exact trivial
    · delta K22.Rz
      repeat (refine L3.jZ.JH KX G ?_ ?_;exact rfl)
      exact trivial
    · refine' ⟨_,PySem.W.mg_of KX G (L3.qJ ?_),_,_,_,_,_,_,_,_,_,_,_,_,_,_,_,_,?_,?_,?_,?_⟩;any_goals exact rfl
      all_goals kernel_rfl
    · refine' L3.FO.one (PySem.W.mg_of KX G (L3.qJ ?_)) (PySem.W.mg_of KX G (L3.qJ ?_)) ?_;any_goals exact rfl
    · refine' L3.rK.ofZ KX G ?_ ?_ ?_ ?_ ?_;any_goals exact rfl
