import PyProof.Rows.All
import Wide.All
import OpenK.AllK
import Wide.FinOn
import Lean
import PyProof.EqAt
import PyProof.EqKinds
import PyProof.TupleCall
import PyProof.Rows.SortRuns
import PyProof.Rows.SortShellK
import PyProof.P3Eq
import PyProof.Draws
import PyProof.EnumMake
import PyProof.NeData
import KE.LcSums
import PyProof.WalkInts
import PyProof.SeqI3
import KE.KSortTup
import KE.KRevIter
import PyProof.FactsAll.range_2
import PyProof.DictCompW
import PyProof.SetRoads
import PyProof.FactsAll.set_1
import PyProof.Rows.SetFrom
import PyProof.CollectWalk
import PyProof.Walks
import PyProof.TupleIter
import PyProof.TupleKey
import PySem.Challenge.RW_rooklands_k15_whole_stands
local macro_rules | `(tactic| omega) => `(tactic| first | lia | omega +splitDisjunctions)
open PySem renaming PyData->Qa,wpAny_pure->Qb,Program->Qz,Expr->Q3,Around->Jb,FuncData->Jd,World->Ji,wpAny_newObj_type->JJ,wpAny_call_entry->JK,wpAny_holding->JY,wpAny_seqItems->Za,wpAny_callSpecial?_slot->Ze,wpAny_field->Zg,wpAny_setState_of->Zo,wpAny_forIn_list->ZB,wpAny_truthy_bool->ZL,sizeLine_eq->Z5,wpAny_of_eq->Yo,wpAny_specialOf->Yy,Builtin->Yz,wpAny_askSetting->YX,Stmt->Y4,wpAny_setField_rec->Y7,wpAny_pyIter_tuple->Y8,ReadsAll->Y9,wpAny_passesOwn->Qam,codeAny_builtin->Qan,mem_of_lookup->Qas,IsTupleKey->Qau,Fin->QaE,wpAny_isInstance->QaH,Scope->QaR,wpAny_loadPart'->QaV,NameKind->Qbk,wpAny_typeOf->Qbt,Reads->QbD,Paired->QbK,plainId_quiet->QbM,wpAny_Call_Name_kw->Qcl,codeAny_mono->Qcm,wpAny_setField->QcC,isSubtype_type->QcD,wpAny_pyIter_enum->QcP,wpAny_comprehension_free->QcQ,wpAny_attempt->Qda,Operator->Qdd,wpAny_pyIter_zip->QdB,wpAny_pyIter_rangeiter->QdI,codeAny_compStart_list->QdJ,wpAny_execs_nil->Qen,isSubtype_tuple_tuple->Qeo,codeAny_of_tree->Qep,builtinLookup_eq_fast->Qeq,Builtin->Qeu,wpAny_updateSeq_pair->QeR,wpAny_newFunctionEnv->QeS,wpAny_tupleItemsOf->Qgq,wpAny_onRaise->Qgr,wpAny_newList->Qgs,PassesOwn->Qgw,Comprehension->QgA,wpAny_pyIter_list->QhB,call_meets->QhC,seqIndex_neg->QiD,IsPart->QiJ,wpAny_eqBool_int->QiP,noFill_tuple_add->QiQ,typeLookup_type->Qk3,seqIndex_of->Qk4,Keyword->Qla,IsRangeIter->Qlb,wpAny_letOwnedTupleGo_enum->QlU,wpAny_newTuple->Ql0,wpAny_letOwnedTupleGo_zip->Ql1,seq_tuple_add->QoZ,rangeSize_one->Qo0,call->Qo1,BindsTo->Qo9,wpAny_pyNext_range_end->Qr5,wpAny_getItem_list_neg->Qr6,exec_Assign_Name_used->Qta,concat_meets->Qtb,IsZip->Qtk,CmpOp->Qtm,wpAny_loadName_local->QvJ,wpAny_setEntries_of->QvR,wpAny_loadName_cell->QvS,wpAny_letGo->QvT,wpAny_List_spliced->QyC,ZipApart->QyE,Result->QyF,Within->QyG,wpAny_storeSet_of->Qy4,wpAny_sequenceKey->Qy5,wpAny_pyIter_slot->Qy6,wpAny_assign_Name->Qy7,wpAny_Name->Qy8,typeIs_int->Qy9,slot_list_getitem->Qza,Model->Qzm
open Array renaming length_toList->Qc,getElem?_toList->Q5,toList_append->JD,getElem_toList->JO,getD->Zi,perm_iff_toList_perm->Zz,mem_toList_iff->ZO,getElem?_eq_none->ZX,getElem?_eq_some_iff->Z3,forIn_toList->Z6,getElem?_eq_getElem->Yb,mem_of_getElem?->YY,getD_eq_getD_getElem?->YZ,toList_extract->Qbe,replicate->Qbv,getElem_setIfInBounds->Qbw,size_extract->QbL,toList_push->Qb5,toList_inj->Qco,toList_reverse->Qdh,size_map->QdH,all_eq_true_iff_forall_mem->QeD,toList_setIfInBounds->Qhz,size_setIfInBounds->QiM,toList_filterMap->QjR,foldl_toList->QoV,toList_zip->Qsg,toList_map->Qsh,toList->QyT
open PySem.W renaming Frag->Qd,keepIn->Qg,nsIn->Qy,codeIn->QL,fnOf->QR,mg_of->QY,mg_none_of->Q4,kia_one->Zl,methodObj->Qet,instObj->QfE,OpenLaw->QfF,lookIn->Qgu,kitOne->Qgv,cellsFrom_some->QiG,kitx_list->Ql2,kitx_dict->Ql3,plainGet->QoR,findIn->Qsa,WalkO->Qte
open PySem.Heap renaming get?_push_of_some->Qe,lt_size->Qo,get?_push_size->Qu,size_push->Zp,get?_update_self->ZK,get?_update_other->YO,SameBut->Qay,IsTuple->QlZ
open List renaming getElem?_eq_getElem->Qf,length_map->Qh,size_toArray->Ql,mem_cons->Qp,mem_map->Qq,length_append->Qs,length_cons->Qt,range->Qw,getElem?_map->Qx,getElem?_eq_some_iff->QD,getD_eq_getElem?_getD->QF,mem_cons_of_mem->QH,getElem?_eq_none->QM,mem_of_getElem?->QQ,append_assoc->QU,not_mem_nil->QV,getElem?_append_right->QX,pairwise_iff_getElem->QZ,length_range->Q1,mem_singleton->Q6,mem_append->Ja,map_map->Jc,pairwise_append->Jh,replicate->Jl,mem_cons_self->Jm,mem_range->Jq,take_append_drop->Jr,mem_filter->Js,mem_append_right->Jt,lookup_cons->Jx,getElem?_range->Jy,append_nil->Jz,map_append->JF,length_take->JH,map_cons->JI,getElem?_append_left->JN,ext_getElem?->Zj,mem_append_left->Zr,replicate_succ->ZC,drop_zero->ZD,mem_iff_getElem?->ZJ,take_length->ZN,getElem?_cons_succ->ZQ,toArray->ZR,pairwise_map->ZS,flatMap_cons->ZT,toList_toArray->ZW,perm_append_comm->Z8,mem_filterMap->Z9,filterMap_append->Ya,drop_eq_getElem_cons->Ye,take_add_one->Yk,nodup_append->Yl,length_set->Ym,flatten_cons->Yn,map_congr_left->Yt,getElem?_replicate->Yu,filterMap_cons->Yv,mem_flatMap->YD,length_drop->YE,getElem_mem->YF,take_of_length_le->YM,drop_of_length_le->YN,getElem?_drop->YR,range_succ->Y1,extract_eq_take_drop->Qaq,all_eq_true->Qat,nodup_cons->QaI,foldl_cons->QaJ,filter_eq_nil_iff->QaS,mapM_toArray->QaT,length_replicate->Qa1,mem_of_mem_take->Qbf,mem_of_mem_drop->Qbg,dropLast_concat_getLast->Qbl,nil_append->QbB,flatMap_append->QbC,zip_cons_cons->QbP,filterMap_map->QbQ,take_sublist->Qb9,filter_cons_of_pos->Qcn,mem_toArray->QcF,getElem_map->QcG,any_eq_true->QcH,getElem?_set_self->QcI,length_singleton->Qc4,length_nil->Qc5,length_filter_le->Qc6,mem_iff_getElem->QdF,getElem?_set_ne->QdG,take_take->QdK,pairwise_cons->QeA,map_take->QeB,getElem?_take->QeC,zipIdx_cons->QfN,of_mem_zip->Qhu,lookup->Qhv,forIn_cons->Qhw,perm_ext_iff_of_nodup->QhI,drop_drop->QiI,length_erase_of_mem->QiS,getElem?_take_of_lt->QiT,getElem?_cons_zero->QjP,filter_cons_of_neg->QjQ,pairwise_lt_range->Qk9,zipWith->QlW,pairwise_flatMap->QlX,getElem?_toArray->QlY,mem_of_getLast?->Ql8,getLast?_append->Ql9,map_id->QoS,length_zipWith->QoT,length->QoU,map_filterMap->Qo4,find?_eq_none->Qo5,filter_append->Qo6,reverse_cons->Qsb,getElem?_set->Qsc,foldl->Qsd,perm_middle->Qtg,nodup_range->Qth,map_snd_zip->Qti,flatMap_map->Qtj,zipIdx_nil->QvM,take_range->QvN,find?_some->QvO,take_zero->QvZ,forIn_nil->Qv0,take_nil->QyK,sum_cons->QyL,drop_nil->QyM,any_cons->QyN,Pairwise->QyO,map_nil->Qzn,any_map->Qzo
open Nat renaming le_refl->Qi,zero_le->Qr,ne_of_lt->QB,lt_of_lt_of_le->Q0,le_trans->Q7,zero_add->JP,lt_trichotomy->ZV,not_lt_zero->ZY,lt_succ_of_lt->Yq,le_of_lt->Ys,min_eq_left->Y5,lt_irrefl->Qad,pow_le_pow_right->Qao,ne_of_gt->QaA,add_sub_cancel->QaL,sub_self->Qa3,succ_pos->QbW,lt_of_le_of_lt->QbX,add_zero->Qdf,mod_lt->QdE,min_le_right->Qgx,le_max_right->Qgy,le_add_right->Qgz,two_pow_pos->QhH,add_sub_cancel_left->Qk8,succ_mul->Ql5,succ_add->Ql6,sub_zero->Ql7,testBit_two_pow->Qo3,le_of_lt_succ->Qtf,lt_succ_self->QvL,min_le_left->QvY,testBit_or->QyI,mul_le_mul->QyJ
open PyProof.Rows renaming wpS_bind->Qj,wpS_pure->Qk,callWith_type1->JM,SortSt->J1,wpS_forRange->J4,slot_tuple_getitem->J5,SortKind->Z7,wpS_mono->YQ,wpS_modify->QaO,listUpdate_at->QbN,get?_update_seq->Qb1,wpS_get->QcB,step_dedup->QcR,seqEpoch_at->Qdb,wpS_lift->Qey,AllBare->QfI,oneTypeOnly'_eq->Qk5,subscriptTail_builtinR->Qr7,listItems_at->Qs9,getElem?_mirror_all->QvU,entry_tuple_getitem->QvV,args_tuple_getitem->QyD
open Option.some renaming inj->Qm
open Bool renaming false_ne_true->Qv,and_eq_true_iff->QJ,false_eq_true->Jn,and_eq_true->JS,not_true->Yw,eq_iff_iff->Y3,or_eq_true->Qhy,not_false->QiL,true_and->QyR,and_true->QyS
open PySem.Value renaming ref->QK,none->Jw,type->ZM,bool->QaQ,int->Qer,builtin->Qes,str->Qtc,float->Qzd
open PySem.PyData renaming int->QN,depthAll->Q2,canLayAll0->Jg,eqv->Ju,tuple->Yp,depth->YU,list->QaP,bool->Qb8,eqvAll->Qea,canLay0->Qht
open Int renaming toNat_natCast->Q8,add_zero->Qdg,natCast_nonneg->QeT,zero_add->QfO,le_refl->Qo8,emod_lt_of_pos->Qse,emod_nonneg->Qv1
open Or renaming inr->Je,inl->Jf
open PySem.SetTable renaming bits->Jj,runEnd->Jp,turns->JB,below->JR,Probe->Zd,insertAt->Zy,leap->Yj,advance->Qac,laid->Qa0,fresh->QbA,layClean->QbJ,fits->QbV,slot->QdC,toList_insertAt->Qgt,fill->Qhs,has->QiF,sizeAbove->Qk6
open PySem.NameKind renaming free->Jk,cell->YW
open PySem.SetTable.layClean renaming free->JA
open PySem.SetTable.probe renaming go->JE
open PySem.Builtin.Range renaming rangeFitsLong->JL,rangeSize->ZH,rangeFields->Qzx
open PySem.Builtin.SmallTypes renaming nextOf->JT,ownedTupleIsFree->ZE,ownedTupleHandOut->QbE
open PySem.PassesOwn renaming never->JW
open ForInStep renaming yield->J3,done->Qbu
open PySem.Obj renaming mapSeq->J6,data_mapFields->YV,isFreed_of_fields->Qde,cls_mapFields->QfG,putSet->QjO,mapFields->Qk7
open Classical renaming byContradiction->Zb
open List.Pairwise renaming filter->Zh,imp_of_mem->Qbh,imp->QhJ,nil->Qzp,map->Qzq
open PySem.Heap.SameBut renaming update->Zq
open PySem.Builtin.Tuple renaming tupleHashOf->Zs,tupleExact->Y2,tupleItemsOf->QaW,tupleIsExact->Qzt,tupleCompareSizes->Qzu
open PySem.Builtin.Int renaming intBits->Zu,intTooBig->QgB
open PyProof.Rows.F renaming plain_set_update_loop->ZG,entry_set_update_loop->Qb3
open List.Perm renaming refl->Z2,append_left->YH,append_right->QaB,trans->Qa4,swap->QfH
open PySem.Around renaming under_plainId->Yf
open Option renaming map_eq_some_iff->YC,isSome_iff_exists->QhG,getD_none->Qo2,none->QyH
open False renaming elim->YG
open PySem.Builtin.Slice renaming slicePlaces->YS,sliceAdjust->Qa5,sliceApplied->Qeb,slicePartIndex->Qzv,sliceFields->Qzw
open PySem.F renaming slot_tuple_hash->Qap,slot_tuple_iterator_next->Qar,called_set->QaK,args_tuple_add_2->QbO,entry_tuple_add->Qb2,slot_tuple_add->Qca,slot_tuple_lt->QcE,slot_zip_next->QdL,slot_tuple_eq->QdM,slot_range_reversed->QdN,plainAttrs_list->QhE,args_tuple_lt_2->QhF,entry_tuple_lt->QiH,args_tuple_iterator_next_1->QiK,slot_set_iter->QiR,entry_tuple_iterator_next->QiU,plain_reversed_new->Qsf,plain_list_iadd->Qv2,args_zip_next_1->Qv3,entry_zip_next->QyQ,slot_int_rmul->Qzr,plain_set_new->Qzs
open PySem.Str renaming ofString->Qaz
open PySem.Challenge renaming rw_rooklands_k15_whole_stands->Qa2,pw_rooklands_k15_whole_stands->QvX
open PySem.SetTable.below renaming go->Qbc
open PySem.SeqAt.Reads renaming unique->Qbd
open PySem.Builtin.List renaming listTooLong->Qbm,listExtendWith->Qec,listSameRef->QeU
open Prod.mk renaming inj->Qb4
open PySem.Builtin renaming bitAnd->Qc7,bitOr->QdO
open Sum renaming inl->Qdc,inr->QhD
open Ne renaming symm->QdD
open Prod renaming ext->Qez
open Array.Perm renaming refl->QeE
open True renaming intro->QfC
open PySem.SeqAt renaming eqAt_reads->QfD
open PySem.Calls renaming Name_function_global->Qhx,call_function_entry->QhK
open PySem.Shared renaming TypeIs->QiE,heap->QlV
open PySem.PyData.int renaming inj->Ql4
open String renaming splitOnAux->QoP,splitOn->Qtd
open PyProof.Rows.SortSt renaming mk'->QoQ
open List.cons renaming inj->Qo7
open PySem.pickOrder renaming go->Qr8
open StateT renaming run_pure->Qr9
open PyProof.Rows.IsTup renaming new->Qtl
open PySem.Builtin.Frozenset renaming updateFrom->Qtn,newClass->Qto
open PySem.Paired renaming length->QvK
open Sum.inl renaming inj->QvW
open PySem.Heap.IsSliceOf renaming new->QyP
open PySem.Walks renaming range->Qzb
open PySem.W.WShape renaming has->Qzc
open PySem.EqMixed renaming ne_str_int->Qze,ne_str_bool->Qzf,ne_int_str->Qzg,ne_bool_str->Qzh,eq_str_int->Qzi,eq_str_bool->Qzj,eq_int_str->Qzk,eq_bool_str->Qzl
open PySem PySem.Spec PyProof.Rows
set_option Elab.async false
set_option linter.all false
set_option maxRecDepth 100000
namespace L2
abbrev Key:=Sum Int Str
def QxS:Key->Value->Bool
 |.inl k,v=>Value.isInt k v
 |.inr x,v=>Value.isStrOf x v
def QBL(w:Ji):Key->Int
 |.inl k=>hashInt k
 |.inr x=>hashStr w x
theorem Yi:∀{k:Key}{v:Value},QxS k v=true->(∃i t,k=Qdc i/\v=Qer i t)∨(∃x t,k=QhD x/\v=Qtc x t)
 |.inl i,v,h=>by
  obtain⟨t,e⟩:=Value.isInt_shape (k:=i) (v:=v) h;exact .inl ⟨i,t,rfl,e⟩
 |.inr x,v,h=>by
  obtain⟨t,e⟩:=Value.isStrOf_shape (x:=x) (v:=v) h;exact .inr ⟨x,t,rfl,e⟩
theorem QxR(a b:Int):decide ((Qdc a:Key)=Qdc b)=(a == b):=by
 by_cases e:a=b
 ·subst e;simp
 ·have h:¬(Qdc a:Key)=Qdc b:=λq=>e (QvW q)
  rw[decide_eq_false h];exact(beq_eq_false_iff_ne.mpr e).symm
theorem QxM(a b:Str):decide ((QhD a:Key)=QhD b)=decide (a=b):=by
 by_cases e:a=b
 ·subst e;simp
 ·have h:¬(QhD a:Key)=QhD b:=λq=>e (Sum.inr.inj q)
  rw[decide_eq_false h,decide_eq_false e]
theorem QxQ(a:Int)(b:Str):decide ((Qdc a:Key)=QhD b)=false:=decide_eq_false (λq=>nomatch q)
theorem QxN(a:Str)(b:Int):decide ((QhD a:Key)=Qdc b)=false:=decide_eq_false (λq=>nomatch q)
def mixKind(prog:Qz)(w:Ji):PySem.KeyKind prog w Key where
 is:=QxS
 hash:=QBL w
 inj:=λv a b ha hb=>by
  rcases Yi ha with⟨i,t,rfl,rfl⟩ | ⟨x,t,rfl,rfl⟩
  ·rcases Yi hb with⟨j,u,rfl,e⟩ | ⟨y,u,rfl,e⟩
   ·injection e with e1 _;rw[e1]
   ·exact nomatch e
  ·rcases Yi hb with⟨j,u,rfl,e⟩ | ⟨y,u,rfl,e⟩
   ·exact nomatch e
   ·injection e with e1 _;rw[e1]
 byValue:=λk v h=>by
  rcases Yi h with⟨i,t,rfl,rfl⟩ | ⟨x,t,rfl,rfl⟩<;>rfl
 pyHash:=λhv h=>by
  rcases Yi hv with⟨i,t,rfl,rfl⟩ | ⟨x,t,rfl,rfl⟩
  ·exact wpAny_pyHash_int h
  ·exact wpAny_pyHash_str h
 eqBool:=λhu hv h=>by
  rcases Yi hu with⟨i,t,rfl,rfl⟩ | ⟨x,t,rfl,rfl⟩
  ·rcases Yi hv with⟨j,u,rfl,rfl⟩ | ⟨y,u,rfl,rfl⟩
   ·rw[QxR] at h;exact QiP h
   ·rw[QxQ] at h;exact SeqAt.EqAt.int_str i t y u _ _ _ _ h
  ·rcases Yi hv with⟨j,u,rfl,rfl⟩ | ⟨y,u,rfl,rfl⟩
   ·rw[QxN] at h;exact SeqAt.EqAt.str_int x t j u _ _ _ _ h
   ·rw[QxM] at h;exact wpAny_eqBool_str h
 «strs» := λk x t v h=>by
  rcases Yi h with⟨i,u,rfl,e⟩ | ⟨y,u,rfl,e⟩
  ·exact nomatch e
  ·injection e with e1 _
   subst e1;cases v<;>rfl
inductive V where
 |non | bl (b:Bool) | int (i:Int) | str (x:Str) | byt (b:Array UInt8) | flt (b:UInt64) | ref (a:Addr) | ty (n:String)
 deriving DecidableEq
def RelV:V->Value->Prop
 |.non,u=>u=Jw
 |.bl b,u=>u=QaQ b
 |.int i,u=>∃t,u=Qer i t
 |.str x,u=>∃t,u=Qtc x t
 |.byt b,u=>∃t,u=Value.bytes b t
 |.flt b,u=>∃t,u=Qzd b t
 |.ref a,u=>u=QK a
 |.ty n,u=>u=ZM n
abbrev Vals:List V->List Value->Prop:=QbK RelV
theorem Vals.length{xs:List V}{us:List Value}(r:Vals xs us):xs.length=us.length:=QvK r
theorem Vals.get:∀{xs:List V}{us:List Value}{i:Nat}{x:V},Vals xs us->xs[i]? = some x->∃u,us[i]? = some u/\RelV x u
 |_,_,_,_,.nil,e=>by simp at e
 |_,_,0,_,.cons r _,e=>by simp at e;subst e;exact⟨_,rfl,r⟩
 |_,_,i+1,x,.cons _ t,e=>by
  obtain⟨u,h1,h2⟩:=Vals.get (i:=i) (x:=x) t (by simpa using e);exact⟨u,by simpa using h1,h2⟩
theorem Vals.set{x:V}{u:Value}(r:RelV x u):∀{xs:List V}{us:List Value}(i:Nat),Vals xs us->Vals (xs.set i x) (us.set i u)
 |_,_,_,.nil=>.nil
 |_,_,0,.cons _ t=>.cons r t
 |_,_,i+1,.cons q t=>.cons q (Vals.set r i t)
theorem Vals.append:∀{xs ys:List V}{us ws:List Value},Vals xs us->Vals ys ws->Vals (xs++ys) (us++ws)
 |_,_,_,_,.nil,s=>s
 |_,_,_,_,.cons r t,s=>.cons r (Vals.append t s)
theorem Vals.take:∀{xs:List V}{us:List Value}(n:Nat),Vals xs us->Vals (xs.take n) (us.take n)
 |_,_,0,_=>.nil
 |_,_,_+1,.nil=>.nil
 |_,_,n+1,.cons r t=>.cons r (Vals.take n t)
theorem Vals.drop:∀{xs:List V}{us:List Value}(n:Nat),Vals xs us->Vals (xs.drop n) (us.drop n)
 |_,_,0,r=>r
 |_,_,_+1,.nil=>.nil
 |_,_,n+1,.cons _ t=>Vals.drop n t
def QAH:Option V->Option Value->Prop
 |some v,some u=>RelV v u
 |none,none=>True
 |_,_=>False
def KV{κ:Type}:List (κ×V)->List (κ×Value)->Prop:=QbK λ(p:κ×V)(q:κ×Value)=>p.1=q.1/\RelV p.2 q.2
def kV:Key->V
 |.inl i=>.int i
 |.inr x=>.str x
inductive HO where
 /-- a list -/
 |lst (xs:List V)
 /-- a tuple (never changes) -/
 |tup (xs:List V)
 /-- a dict whose keys are ints and texts;one whose keys are tuples of ints and texts (the empty one is both) -/
 |dK (kvs:List (Key×V)) | dT (kvs:List (List Key×V))
 /-- a set of ints: its members,its size -/
 |set (S:Int->Bool) (n:Nat)
 /-- an instance of the class at C,its dict at dx,its attributes -/
 |ins (C dx:Addr) (fs:List (Str×V))
 /-- the dict of the instance at x -/
 |own (x:Addr)
 /-- the dict of an exception -/
 |xd (fs:List (Str×V))
 /-- a bound method,f of x -/
 |met (f x:Addr)
 /-- a range object lo,lo+1,.. below hi -/
 |rng (lo hi:Int)
 /-- a thing that is known to the object (the script;a dict while a loop walks it): read,never written while it is so -/
 |frz (o:Obj) (u:HO)
 /-- a code object's table -/
 |tbl (ps:Array Value)
 /-- any other thing,by what is true of its one object (a def of one's own: SetO a S n:=HO.ext λh=>..) -/
 |ext (φ:Heap->Prop)
abbrev Hp:=Addr->Option HO
def upd(H:Hp)(a:Addr)(o:HO):Hp:=λb=>if b=a then some o else H b
theorem J7{H:Hp}{a:Addr}{o:HO}:upd H a o a=some o:=by unfold upd;rw[if_pos rfl]
theorem Zk{H:Hp}{a b:Addr}{o:HO}(h:b≠a):upd H a o b=H b:=by unfold upd;rw[if_neg h]
theorem Yd{H:Hp}{a b:Addr}{o:HO}(h:H a=some o)(h':H b=none):a≠b:=by
 intro e;subst e;rw[h] at h';cases h'
section
variable(P:Qz)(w:Ji)
def ObjOk(H:Hp)(h:Heap)(a:Addr):HO->Prop
 |.lst xs=>xs.length<=sizeLine/\∃(its:List Value)(n:Nat),Vals xs its/\h.get? a=some { cls:=.type "list",data:=.seq its.toArray n }
 |.tup xs=>xs.length<=sizeLine/\∃its:List Value,Vals xs its/\IsTup h a its.toArray
 |.dK kvs=>kvs.length<=sizeLine/\(a == sysModules)=false/\∃vs,KV kvs vs/\h.DictOf (mixKind P w) a vs
 |.dT kvs=>kvs.length<=sizeLine/\(a == sysModules)=false/\∃xs:List (List Key×Addr×Value),
   QbK (λ(p:List Key×V)(q:List Key×Addr×Value)=>p.1=q.1/\H q.2.1=some (.tup (p.1.map kV))/\RelV p.2 q.2.2) kvs xs /\
   ∃o es ep,h.get? a=some o/\o.ExactDict/\o.data=.dict es ep/\es.toList=xs.map (entryOfKey (tupleKind (mixKind P w)))/\(xs.map (·.1)).Nodup
 |.set S n=>h.SetOf (intKind P w) a S n
 |.ins C dx fs=>H dx=some (.own a)/\fs.length<=1000/\dx≠a/\h.get? a=some (PySem.W.instObj C dx) /\
   ∃mA,h.Ns1 dx mA/\(∀f,QAH (fs.lookup f) (mA f))/\PySem.Within mA (fs.map (·.1))
 |.own _=>∃o,h.get? a=some o
 |.xd fs=>∃mA,h.Ns1 a mA/\∀f,QAH (fs.lookup f) (mA f)
 |.rng lo hi=>∃t u v,h.get? a=some { cls:=.type "range",data:=.fields #[.int lo t,.int hi u,.int 1 v] }
 |.frz o u=>h.get? a=some o/\ObjOk H h a u
 |.tbl ps=>h.get? a=some { cls:=.none,data:=.fields ps }
 |.met f x=>h.get? a=some (PySem.W.methodObj (.ref f) (.ref x))
 |.ext φ=>φ h/\(∃o,h.get? a=some o)/\∀h1 h2:Heap,φ h1->(∀o,h1.get? a=some o->h2.get? a=some o)->φ h2
def HOk(H:Hp)(h:Heap):Prop:=∀a o,H a=some o->ObjOk P w H h a o
end
section
variable{P:Qz}{w:Ji}{H H':Hp}{h h':Heap}{a:Addr}{o:HO}
theorem ObjOk.lt(x:ObjOk P w H h a o):a<h.objs.size:=by
 cases o with
 |lst xs=>obtain⟨_,_,_,_,e⟩:=x;exact Qo e
 |tup xs=>obtain⟨_,_,_,p⟩:=x;exact p.lt
 |dK kvs=>obtain⟨_,_,_,_,o,_,_,e,_⟩:=x;exact Qo e
 |dT kvs=>obtain⟨_,_,_,_,o,_,_,e,_⟩:=x;exact Qo e
 |set S n=>obtain⟨o,_,_,_,e,_⟩:=x;exact Qo e
 |ins C dx fs=>obtain⟨_,_,_,e,_⟩:=x;exact Qo e
 |own y=>obtain⟨_,e⟩:=x;exact Qo e
 |xd fs=>obtain⟨_,⟨_,_,_,e,_⟩,_⟩:=x;exact Qo e
 |rng lo hi=>obtain⟨_,_,_,e⟩:=x;exact Qo e
 |frz ob u=>obtain⟨e,_⟩:=x;exact Qo e
 |tbl ps=>exact Qo (show h.get? a=some _ from x)
 |met f y=>exact Qo (show h.get? a=some _ from x)
 |ext φ=>obtain⟨_,⟨_,e⟩,_⟩:=x;exact Qo e
theorem QbK.mapP{α β:Type}{F G:α->β->Prop}:∀{l₁:List α}{l₂:List β},QbK F l₁ l₂->(∀a b,F a b->G a b)->QbK G l₁ l₂
 |_,_,.nil,_=>.nil
 |_,_,.cons r t,f=>.cons (f _ _ r) (QbK.mapP t f)
theorem ObjOk.stay(x:ObjOk P w H h a o)(k:∀b u,(b=a∨H b=some (.own a))->h.get? b=some u->h'.get? b=some u)
  (ho:∀b,H b=some (.own a)->H' b=some (.own a))(ht:∀b xs,H b=some (.tup xs)->H' b=some (.tup xs)):ObjOk P w H' h' a o:=by
 induction o with
 |lst xs=>obtain⟨z,its,n,r,e⟩:=x;exact⟨z,its,n,r,k _ _ (.inl rfl) e⟩
 |tup xs=>obtain⟨z,its,r,ob,e,c⟩:=x;exact⟨z,its,r,ob,k _ _ (.inl rfl) e,c⟩
 |dK kvs=>obtain⟨z,y,vs,r,ob,es,ep,e,c⟩:=x;exact⟨z,y,vs,r,ob,es,ep,k _ _ (.inl rfl) e,c⟩
 |dT kvs=>
  obtain⟨z,y,xs,r,ob,es,ep,e,c⟩:=x;exact⟨z,y,xs,QbK.mapP r λp q z=>⟨z.1,ht _ _ z.2.1,z.2.2⟩,ob,es,ep,k _ _ (.inl rfl) e,c⟩
 |set S n=>obtain⟨ob,es,ep,t,e,c⟩:=x;exact⟨ob,es,ep,t,k _ _ (.inl rfl) e,c⟩
 |ins C dx fs=>
  obtain⟨d,z,ne,e,mA,⟨od,es,ep,e2,c⟩,r⟩:=x;exact⟨ho _ d,z,ne,k _ _ (.inl rfl) e,mA,⟨od,es,ep,k _ _ (.inr d) e2,c⟩,r⟩
 |own y=>obtain⟨ob,e⟩:=x;exact⟨ob,k _ _ (.inl rfl) e⟩
 |xd fs=>obtain⟨mA,⟨od,es,ep,e,c⟩,r⟩:=x;exact⟨mA,⟨od,es,ep,k _ _ (.inl rfl) e,c⟩,r⟩
 |rng lo hi=>obtain⟨t,u,v,e⟩:=x;exact⟨t,u,v,k _ _ (.inl rfl) e⟩
 |frz ob u ih=>obtain⟨e,q⟩:=x;exact⟨k _ _ (.inl rfl) e,ih q⟩
 |tbl ps=>
  have e:h.get? a=some { cls:=.none,data:=.fields ps }:=x;show h'.get? a=some { cls:=.none,data:=.fields ps };exact k a _ (.inl rfl) e
 |met f y=>
  have e:h.get? a=some (PySem.W.methodObj (.ref f) (.ref y)):=x;show h'.get? a=some (PySem.W.methodObj (.ref f) (.ref y));exact k a _ (.inl rfl) e
 |ext φ=>obtain⟨p,⟨o,e⟩,st⟩:=x;exact⟨st _ _ p λo q=>k _ _ (.inl rfl) q,⟨o,k _ _ (.inl rfl) e⟩,st⟩
theorem HOk.lt(x:HOk P w H h)(e:H a=some o):a<h.objs.size:=(x a o e).lt
theorem HOk.fresh(x:HOk P w H h)(e:h.objs.size<=a):H a=none:=by
 cases q:H a with
 |none=>rfl
 |some u=>exact absurd (Q0 (x.lt q) e) (Qad _)
theorem HOk.kept(x:HOk P w H h)(k:∀b u,h.get? b=some u->h'.get? b=some u):HOk P w H h':=λa o e=>
 (x a o e).stay (λb u _ q=>k b u q) (λ_ q=>q) λ_ _ q=>q
theorem HOk.laid(x:HOk P w H h)(k:∀b u,h.get? b=some u->h'.get? b=some u)(hp:h.objs.size<=a)(new:ObjOk P w (upd H a o) h' a o):HOk P w (upd H a o) h':=λb u e=>by
 have hn:=x.fresh hp;by_cases hb:b=a
 ·subst hb;rw[J7] at e;cases e;exact new
 ·rw[Zk hb] at e;exact(x b u e).stay (λc v _ q=>k c v q) (λc q=>by rw[Zk (Yd q hn)];exact q) λc xs q=>by rw[Zk (Yd q hn)];exact q
end
def Rd(H:Hp)(a:Addr)(u:HO):Prop:=H a=some u∨∃o,H a=some (.frz o u)
theorem Rd.ok{P:Qz}{w:Ji}{H:Hp}{h:Heap}{a:Addr}{u:HO}(r:Rd H a u)(x:HOk P w H h):ObjOk P w H h a u:=by
 rcases r with r | ⟨o,r⟩
 ·exact x a u r
 ·obtain⟨_,q⟩:=x a _ r;exact q
def Mut:Option HO->Prop
 |some (.lst _)=>True
 |some (.dK _)=>True
 |some (.dT _)=>True
 |some (.set _ _)=>True
 |some (.ins _ _ _)=>True
 |some (.ext _)=>True
 |_=>False
section
variable{P:Qz}{w:Ji}{H:Hp}{h h':Heap}{x e:Addr}{o':HO}
theorem HOk.write(ok:HOk P w H h)(mu:Mut (H x))(he:e=x∨H e=some (.own x))(k:∀b u,b≠e->h.get? b=some u->h'.get? b=some u)(heo:∃u,h'.get? e=some u)
  (new:ObjOk P w (upd H x o') h' x o'):HOk P w (upd H x o') h':=λb u q=>by
 have nown:∀c y,H c=some (.own y)->c≠x:=λc y r z=>by subst z;rw[r] at mu;exact mu
 have ntup:∀c xs,H c=some (.tup xs)->c≠x:=λc xs r z=>by subst z;rw[r] at mu;exact mu
 by_cases hb:b=x
 ·subst hb;rw[J7] at q;cases q;exact new
 ·rw[Zk hb] at q;by_cases hbe:b=e
  ·have q':H b=some (.own x):=by
    rcases he with z | z
    ·exact absurd (hbe.trans z) hb
    ·rw[hbe];exact z
   rw[q] at q';cases q';obtain⟨v,hv⟩:=heo;exact⟨v,by rw[hbe];exact hv⟩
  ·refine(ok b u q).stay (λc v hc r=>k c v ?_ r) (λc r=>by rw[Zk (nown c b r)];exact r) λc xs r=>by rw[Zk (ntup c xs r)];exact r
   rcases hc with rfl | hc
   ·exact hbe
   ·rintro rfl;rcases he with z | z
    ·exact nown c b hc z
    ·rw[hc] at z;cases z;exact hb rfl
end
structure Un (fs ex:List Addr) (H H':Hp) (h h':Heap):Prop where
 keep:∀b o,h.get? b=some o->H b=none->b∉fs->b∉ex->h'.get? b=some o
 slot:∀b o,h.get? b=some o->H b=none->b∈fs->b∉ex->∃sl,h'.get? b=some { o with slots:=sl }
 free:∀b o,h.get? b=some o->H b=none->b∉ex->H' b=none
 there:∀b o,h.get? b=some o->b∉ex->∃o',h'.get? b=some o'
 tups:∀b xs,H b=some (.tup xs)->H' b=some (.tup xs)
 frzs:∀b o u,H b=some (.frz o u)->H' b=some (.frz o u)
 tbls:∀b ps,H b=some (.tbl ps)->∃more,H' b=some (.tbl (ps++more))
section
variable{fs fs' ex ex':List Addr}{H H1 H2:Hp}{h h1 h2 h':Heap}{a x e:Addr}{o:HO}
theorem Un.any(u:Un fs ex H H1 h h1){b:Addr}{ob:Obj}(q:h.get? b=some ob)(n:H b=none)(hx:b∉ex):∃sl,h1.get? b=some { ob with slots:=sl }:=by
 by_cases hb:b∈fs
 ·exact u.slot b ob q n hb hx
 ·exact⟨ob.slots,u.keep b ob q n hb hx⟩
theorem Un.kept(k:∀b u,h.get? b=some u->h'.get? b=some u):Un fs ex H H h h':=
 ⟨λb ob q _ _ _=>k b ob q,λb ob q _ _ _=>⟨ob.slots,k b ob q⟩,λ_ _ _ n _=>n,λb ob q _=>⟨ob,k b ob q⟩,λ_ _ q=>q,λ_ _ _ q=>q,λ_ ps q=>⟨#[],by rw[q];simp⟩⟩
theorem Un.refl:Un fs ex H H h h:=Un.kept λ_ _ q=>q
theorem Un.laid(k:∀b u,h.get? b=some u->h'.get? b=some u)(hp:h.objs.size<=a)(hn:H a=none):Un fs ex H (upd H a o) h h' where
 keep:=λb u q _ _ _=>k b u q
 slot:=λb u q _ _ _=>⟨u.slots,k b u q⟩
 free:=λb u q n _=>by rw[Zk (QB (Q0 (Qo q) hp))];exact n
 there:=λb u q _=>⟨u,k b u q⟩
 tups:=λb xs q=>by rw[Zk (Yd q hn)];exact q
 frzs:=λb u xs q=>by rw[Zk (Yd q hn)];exact q
 tbls:=λb ps q=>⟨#[],by rw[Zk (Yd q hn),q];simp⟩
theorem Un.write(mu:Mut (H x))(he:e=x∨H e=some (.own x))(k:∀b u,b≠e->h.get? b=some u->h'.get? b=some u)(heo:∃u,h'.get? e=some u):Un fs ex H (upd H x o) h h':=by
 have hx:∀b,H b=none->b≠x:=λb n z=>by subst z;rw[n] at mu;exact mu
 have hb:∀b,H b=none->b≠e:=λb n z=>by
  subst z;rcases he with r | r
  ·exact hx b n r
  ·rw[n] at r;cases r
 have hm:∀b u,H b=some u->¬Mut (some u)->b≠x:=λb u q nm z=>by subst z;rw[q] at mu;exact nm mu
 refine⟨λb u q n _ _=>k b u (hb b n) q,λb u q n _ _=>⟨u.slots,k b u (hb b n) q⟩,λb u q n _=>by rw[Zk (hx b n)];exact n,λb u q _=>?_,
  λb xs q=>by rw[Zk (hm b _ q λz=>z)];exact q,λb u xs q=>by rw[Zk (hm b _ q λz=>z)];exact q,λb ps q=>⟨#[],by rw[Zk (hm b _ q λz=>z),q];simp⟩⟩
 by_cases hbe:b=e
 ·subst hbe;exact heo
 ·exact⟨u,k b u hbe q⟩
end
def trk(h:Heap)(H:Hp):List Addr:=(Qw h.objs.size).filter λa=>(H a).isSome
def QrC(h:Heap)(H:Hp):Heap:=PySem.W.hideAll h (trk h H)
theorem QnP(h:Heap)(H:Hp):(QrC h H).objs.size=h.objs.size:=PySem.W.hideAll_size _ _
theorem QrB{h:Heap}{H:Hp}{b:Addr}{o:Obj}(e:h.get? b=some o)(n:H b=none):(QrC h H).get? b=some o:=
 PySem.W.hideAll_get _ e λhm=>by
  have q:(H b).isSome=true:=(Js.mp hm).2;rw[n] at q;simp at q
theorem QuS{h:Heap}{H:Hp}{b:Addr}{o:Obj}(e:(QrC h H).get? b=some o):h.get? b=some o/\H b=none:=by
 have e':h.get? b=some o:=PySem.W.of_hideAll (trk h H) e;refine⟨e',?_⟩;cases q:H b with
 |none=>rfl
 |some x=>
  have hm:b∈trk h H:=Js.mpr ⟨Jq.mpr (Qo e'),by simp[q]⟩;have z:(QrC h H).get? b=none:=PySem.W.hideAll_none (trk h H) hm;rw[z] at e;cases e
def QvH(g h:Heap)(L:Addr):List (Addr×Obj):=(Qw h.objs.size).filterMap λa=>if a=L∨(g.get? a).isSome=true then none else(h.get? a).map λo=>(a,o)
def rest(g h:Heap)(L d:Addr):List (Addr×Obj):=(QvH g h L).filter λp=>decide (p.1≠d)
structure Mod (K:PySem.W.Frag) (mg:Str->Option Value) (base:Heap):Prop where
 kin:K.In base
 glob:base.Ns mainGlobals mg
 blt:∃mb,base.Ns builtinsNs mb/\∀x:Str,x ≠ "__name__" -> mb x=bootBuiltins x
 nolimit:base.NoLimit
structure Cx where
 prog:Qz
 w:Ji
 K:PySem.W.Frag
 mg:Str->Option Value
 base:Heap
 A:Jb
 N:List Str
 s₀:Shared
 H₀:Hp
 env:Env
 outer:List Env
 stack:List Env
 ex:List Addr
 fn:Str->Bool
 calm:Bool
 pn:List (Addr×Obj)
 xe:Value->Shared->Prop
def frs(l:List Env):List Addr:=l.filterMap (·.frame)
abbrev Cx.fs (X:Cx):List Addr:=frs X.outer
def Vis(sc:QaR)(x:Str):Prop:=sc.names.lookup x=some .local∨sc.names.lookup x=some .cell∨sc.names.lookup x=some .free
def Loc(sc:QaR)(x:Str):Prop:=sc.names.lookup x=some .local∨sc.names.lookup x=some .cell
def Look(env:Env)(h:Heap)(m:Str->Option Value)(x:Str)(u:Value):Prop:=
 (env.kindOf x=some .local/\m x=some u)∨((env.kindOf x=some .cell∨env.kindOf x=some .free)/\∃c,env.cells.lookup x=some c/\h.IsCell c (some u))
structure Cx.Ok (X:Cx):Prop where
 mod:Mod X.K X.mg X.base
 kind:X.env.scope.kind=.function
 glob:X.env.globals=mainGlobals
 blt:X.env.builtins=builtinsNs
 above:X.s₀.heap.objs.size<=X.env.locals
 inj:∀x y c,X.env.cells.lookup x=some c->X.env.cells.lookup y=some c->x=y
 has:∀x,(X.env.kindOf x=some .cell∨X.env.kindOf x=some .free)->∃c,X.env.cells.lookup x=some c
 cab:∀x c,X.fn x=true->X.env.cells.lookup x=some c->X.s₀.heap.objs.size<=c
 hd:X.calm=true->X.A.handled=none
 frames:X.A.frames=some X.stack
 stk:X.stack=X.outer∨(X.stack=X.env::X.outer/\X.env.frame=some X.env.locals)
 exf:∀b∈X.ex,b≠X.env.locals/\∀x c,X.env.cells.lookup x=some c->c≠b
 bs:∀b o,X.base.get? b=some o->X.s₀.heap.get? b=some o/\X.H₀ b=none
 bsz:X.base.objs.size<=X.s₀.heap.objs.size
 noex:∀b o,X.base.get? b=some o->b∉X.ex
 exfs:∀b∈X.ex,b∉X.fs
 funs:X.s₀.heap.FunFrames X.base X.outer
 frf:∀b∈X.fs,X.H₀ b=none
structure Inv (X:Cx) (pins:List (Addr×Obj)) (σ:List (Option V)) (H:Hp) (s:Shared):Prop where
 ok:X.Ok
 os:s.os=X.s₀.os
 bare:QfI s.gens
 base:Un X.fs X.ex X.H₀ H X.s₀.heap s.heap
 loc:∃m,s.heap.Ns X.env.locals m/\∀(i:Nat)(x:Str)(v:V),X.N[i]? = some x->σ[i]? = some (some v)->Vis X.env.scope x->∃u,RelV v u/\Look X.env s.heap m x u
 cell:∀x c,X.env.cells.lookup x=some c->∃v,s.heap.IsCell c v
 free:H X.env.locals=none
 freeC:∀x c,X.env.cells.lookup x=some c->H c=none
 pin:∀p∈X.pn++pins,s.heap.get? p.1=some p.2/\H p.1=none/\p.1≠X.env.locals/\p.1∉X.fs/\∀v,p.2.data≠.cell v
 hok:HOk X.prog X.w H s.heap
 len:σ.length=X.N.length
section
variable{X:Cx}{pins:List (Addr×Obj)}{σ:List (Option V)}{H H':Hp}{s:Shared}{h':Heap}
theorem Cx.Ok.nofr(ok:X.Ok){b:Addr}{o:Obj}(e:X.base.get? b=some o):b∉X.fs:=λhb=>by
 have:=(ok.funs.mem hb).1;rw[e] at this;cases this
theorem Inv.bs(I:Inv X pins σ H s):∀b o,X.base.get? b=some o->s.heap.get? b=some o/\H b=none:=λb o e=>
 ⟨I.base.keep b o (I.ok.bs b o e).1 (I.ok.bs b o e).2 (I.ok.nofr e) (I.ok.noex b o e),I.base.free b o (I.ok.bs b o e).1 (I.ok.bs b o e).2 (I.ok.noex b o e)⟩
theorem Inv.bk(I:Inv X pins σ H s):∀b o,X.base.get? b=some o->s.heap.get? b=some o:=λb o e=>(I.bs b o e).1
theorem Inv.mod(I:Inv X pins σ H s):Mod X.K X.mg X.base:=I.ok.mod
theorem Inv.kIn(I:Inv X pins σ H s):X.K.In s.heap:=I.ok.mod.kin.keeps I.bk
theorem Inv.fr(I:Inv X pins σ H s):∃m,Fr X.base X.env.locals s.heap m:=
 let ⟨m,hn,_⟩:=I.loc
 ⟨m,hn,I.bk,Q7 I.ok.bsz I.ok.above⟩
theorem Inv.lt(I:Inv X pins σ H s):X.env.locals<s.heap.objs.size:=let ⟨_,hn,_⟩:=I.loc;hn.lt
theorem Inv.sz(I:Inv X pins σ H s):X.s₀.heap.objs.size<=s.heap.objs.size:=Q7 I.ok.above (Ys I.lt)
theorem Inv.nofs(I:Inv X pins σ H s){a:Addr}(h:s.heap.objs.size<=a):a∉X.fs:=λhb=>by
 obtain⟨_,o,ho,_⟩:=I.ok.funs.mem hb;exact absurd (Q0 (Qo ho) (Q7 I.sz h)) (Qad _)
theorem Inv.cne(I:Inv X pins σ H s):∀x c,X.env.cells.lookup x=some c->c≠X.env.locals:=λx c e z=>by
 obtain⟨v,o,ho,hd⟩:=I.cell x c e;obtain⟨m,⟨o',es,ep,ho',hd',_⟩,_⟩:=I.loc;rw[z,ho'] at ho;cases ho;rw[hd'] at hd;cases hd
theorem Inv.funs(I:Inv X pins σ H s):s.heap.FunFrames X.base X.outer:=by
 have all:∀(l:List Env),(∀b∈frs l,b∈X.fs)->X.s₀.heap.FunFrames X.base l->s.heap.FunFrames X.base l:=by
  intro l;induction l with
  |nil=>intro _ _;trivial
  |cons env r ih=>
   intro hs hl;obtain⟨hk,⟨L,o,hf,hn,ho,hd⟩,hr⟩:=hl;have hL:L∈X.fs:=hs L (by unfold frs;rw[Yv,hf];exact Jm);obtain⟨sl,e⟩:=I.base.slot L o ho (I.ok.frf L hL) hL λz=>I.ok.exfs L z hL
   exact⟨hk,⟨L,_,hf,hn,e,hd⟩,ih (λb hb=>hs b (by unfold frs;rw[Yv,hf];exact QH _ hb)) hr⟩
 exact all X.outer (λ_ hb=>hb) I.ok.funs
theorem Inv.stack(I:Inv X pins σ H s):s.heap.FunFrames X.base X.stack:=by
 rcases I.ok.stk with e | ⟨e,hf⟩
 ·rw[e];exact I.funs
 ·rw[e];obtain⟨m,hn,_⟩:=I.loc;refine .cons (by rw[I.ok.kind];decide) hf hn ?_ I.funs
  exact Heap.get?_none_of_le (Q7 I.ok.bsz I.ok.above)
theorem Inv.stkSub(I:Inv X pins σ H s):∀b∈frs X.stack,b∈X.env.locals::X.fs:=λb hb=>by
 rcases I.ok.stk with e | ⟨e,hf⟩
 ·rw[e] at hb;exact QH _ hb
 ·rw[e] at hb;unfold frs at hb;rw[Yv,hf] at hb;exact hb
theorem Inv.stkFree(I:Inv X pins σ H s):∀b∈frs X.stack,H b=none:=λb hb=>by
 rcases Qp.mp (I.stkSub b hb) with e | hb
 ·rw[e];exact I.free
 ·obtain⟨_,o,ho,_⟩:=I.ok.funs.mem hb;exact I.base.free b o ho (I.ok.frf b hb) λz=>I.ok.exfs b z hb
theorem Inv.step{g':Array GenState}{t':Nat}{d':Drawn}{ch:List Addr}(I:Inv X pins σ H s)
  (hch:∀b∈ch,(b∈X.ex∨X.s₀.heap.objs.size<=b)/\b≠X.env.locals/\(∀x c,X.env.cells.lookup x=some c->c≠b)/\∀p∈X.pn++pins,p.1≠b)
  (keep:∀b o,b≠X.env.locals->b∉X.fs->b∉ch->s.heap.get? b=some o->H b=none->h'.get? b=some o)
  (slot:∀b o,b≠X.env.locals->b∈X.fs->b∉ch->s.heap.get? b=some o->H b=none->∃sl,h'.get? b=some { o with slots:=sl })(free:∀b o,b∉ch->s.heap.get? b=some o->H b=none->H' b=none)
  (there:∀b o,b∉ch->s.heap.get? b=some o->∃o',h'.get? b=some o')
  (tups:∀b xs,H b=some (.tup xs)->H' b=some (.tup xs))(frzs:∀b o u,H b=some (.frz o u)->H' b=some (.frz o u))(tbls:∀b ps,H b=some (.tbl ps)->∃more,H' b=some (.tbl (ps++more)))
  (ns:∀m,s.heap.Ns X.env.locals m->h'.Ns X.env.locals m)(hok:HOk X.prog X.w H' h')(hg:QfI g') :
  Inv X pins σ H' { s with heap:=h',gens:=g',drawn:=d',toks:=t' }:=by
 have neL:∀b o,X.s₀.heap.get? b=some o->b≠X.env.locals:=λb o e=>QB (Q0 (Qo e) I.ok.above)
 have neC:∀b o,X.s₀.heap.get? b=some o->b∉X.ex->b∉ch:=λb o e hx hb=>by
  rcases(hch b hb).1 with z | z
  ·exact hx z
  ·exact absurd (Q0 (Qo e) z) (Qad _)
 have cellK:∀x c,X.env.cells.lookup x=some c->∀v,s.heap.IsCell c v->h'.IsCell c v:=λx c e v ⟨o,ho,hd⟩=>by
  have nch:c∉ch:=λz=>(hch c z).2.2.1 x c e rfl
  by_cases hc:c∈X.fs
  ·obtain⟨sl,q⟩:=slot c o (I.cne x c e) hc nch ho (I.freeC x c e);exact⟨_,q,hd⟩
  ·exact⟨o,keep c o (I.cne x c e) hc nch ho (I.freeC x c e),hd⟩
 refine⟨I.ok,I.os,hg,⟨λb o e n hb hx=>?_,λb o e n hb hx=>?_,λb o e n hx=>?_,λb o e hx=>?_,λb xs e=>tups b xs (I.base.tups b xs e),λb o xs e=>frzs b o xs (I.base.frzs b o xs e),λb ps e=>?_⟩,?_,λx c e=>?_,?_,λx c e=>?_,λp hp=>?_,hok,I.len⟩
 ·exact keep b o (neL b o e) hb (neC b o e hx) (I.base.keep b o e n hb hx) (I.base.free b o e n hx)
 ·obtain⟨sl,e1⟩:=I.base.slot b o e n hb hx;obtain⟨sl',e2⟩:=slot b _ (neL b o e) hb (neC b o e hx) e1 (I.base.free b o e n hx);exact⟨sl',e2⟩
 ·obtain⟨o',e1⟩:=I.base.there b o e hx;exact free b o' (neC b o e hx) e1 (I.base.free b o e n hx)
 ·obtain⟨o',e1⟩:=I.base.there b o e hx;exact there b o' (neC b o e hx) e1
 ·obtain⟨m1,e1⟩:=I.base.tbls b ps e;obtain⟨m2,e2⟩:=tbls b _ e1;exact⟨m1++m2,by rw[e2,Array.append_assoc]⟩
 ·obtain⟨m,hn,hl⟩:=I.loc;refine⟨m,ns m hn,λi x v e1 e2 e3=>?_⟩;obtain⟨u,r,l⟩:=hl i x v e1 e2 e3;refine⟨u,r,?_⟩;rcases l with l | ⟨k,c,e,z⟩
  ·exact .inl l
  ·exact .inr ⟨k,c,e,cellK x c e _ z⟩
 ·obtain⟨v,z⟩:=I.cell x c e;exact⟨v,cellK x c e v z⟩
 ·obtain⟨m,⟨o,_,_,ho,_⟩,_⟩:=I.loc;exact free _ o (λz=>(hch _ z).2.1 rfl) ho I.free
 ·obtain⟨v,o,ho,hd⟩:=I.cell x c e;exact free c o (λz=>(hch c z).2.2.1 x c e rfl) ho (I.freeC x c e)
 ·obtain⟨e,n,ne,nf,d⟩:=I.pin p hp;have nch:p.1∉ch:=λz=>(hch p.1 z).2.2.2 p hp rfl
  exact⟨keep p.1 p.2 ne nf nch e n,free p.1 p.2 nch e n,ne,nf,d⟩
theorem Inv.un{t':Nat}(I:Inv X pins σ H s)(u:Un X.fs [] H H' s.heap h')(hok:HOk X.prog X.w H' h'):Inv X pins σ H' { s with heap:=h',toks:=t' }:=by
 obtain⟨m,⟨o,es,ep,ho,r⟩,_⟩:=id I.loc;obtain⟨sl,hL⟩:=u.any ho I.free (by simp);exact I.step (g':=s.gens) (d':=s.drawn) (ch:=[]) (λ_ z=>nomatch z) (λb o _ hb _ e n=>u.keep b o e n hb (by simp)) (λb o _ hb _ e n=>u.slot b o e n hb (by simp)) (λb o _ e n=>u.free b o e n (by simp)) (λb o _ e=>u.there b o e (by simp)) u.tups u.frzs u.tbls (λm' hm=>by
  obtain⟨o',es',ep',ho',r'⟩:=hm;rw[ho] at ho';cases ho';exact⟨_,es',ep',hL,r'⟩) hok I.bare
theorem Inv.call{g':Array GenState}{t':Nat}{d':Drawn}{ch:List Addr}(I:Inv X pins σ H s)(u:Un (frs X.stack) ch H H' s.heap h')(hok:HOk X.prog X.w H' h')(hg:QfI g')
  (hch:∀b∈ch,(b∈X.ex∨X.s₀.heap.objs.size<=b)/\b≠X.env.locals/\(∀x c,X.env.cells.lookup x=some c->c≠b)/\∀p∈X.pn++pins,p.1≠b) :
  Inv X pins σ H' { s with heap:=h',gens:=g',drawn:=d',toks:=t' }:=by
 obtain⟨m,⟨o,es,ep,ho,r⟩,_⟩:=id I.loc;obtain⟨sl,hL⟩:=u.any ho I.free λz=>(hch _ z).2.1 rfl
 exact I.step (ch:=ch) hch (λb o hL hb hc e n=>u.keep b o e n (λz=>(Qp.mp (I.stkSub b z)).elim hL hb) hc) (λb o _ _ hc e n=>u.any e n hc) (λb o hc e n=>u.free b o e n hc) (λb o hc e=>u.there b o e hc) u.tups u.frzs u.tbls (λm' hm=>by
  obtain⟨o',es',ep',ho',r'⟩:=hm;rw[ho] at ho';cases ho';exact⟨_,es',ep',hL,r'⟩) hok hg
theorem Inv.turned{t':Nat}{it:Addr}(I:Inv X pins σ H s)(k:∀b o,b≠it->s.heap.get? b=some o->h'.get? b=some o)(hn:H it=none)(hL:it≠X.env.locals)
  (h1:it∈X.ex∨X.s₀.heap.objs.size<=it)(h2:∀x c,X.env.cells.lookup x=some c->c≠it)(h3:∀p∈X.pn++pins,p.1≠it):Inv X pins σ H { s with heap:=h',toks:=t' }:=by
 have nit:∀b u,H b=some u->b≠it:=λb u e z=>by rw[z,hn] at e;cases e
 refine I.step (g':=s.gens) (d':=s.drawn) (ch:=[it]) (λb hb=>?_) (λb o _ _ hc e _=>k b o (λz=>hc (by simp[z])) e) (λb o _ _ hc e _=>⟨o.slots,k b o (λz=>hc (by simp[z])) e⟩) (λ_ _ _ _ n=>n)
  (λb o hc e=>⟨o,k b o (λz=>hc (by simp[z])) e⟩) (λ_ _ e=>e) (λ_ _ _ e=>e) (λb ps e=>⟨#[],by rw[e];simp⟩) (λm hm=>?_) (λb u e=>?_) I.bare
 ·have e:b=it:=by simpa using hb
  subst e;exact⟨h1,hL,h2,h3⟩
 ·obtain⟨o,es,ep,ho,r⟩:=hm;exact⟨o,es,ep,k _ o (QdD hL) ho,r⟩
 ·refine(I.hok b u e).stay (λc v hc q=>k c v ?_ q) (λ_ q=>q) λ_ _ q=>q
  rcases hc with z | z
  ·rw[z];exact nit b u e
  ·exact nit c _ z
theorem Inv.tok(I:Inv X pins σ H s)(t:Nat):Inv X pins σ H { s with toks:=t }:=I.un (h':=s.heap) (t':=t) Un.refl I.hok
theorem Inv.kept{t':Nat}(I:Inv X pins σ H s)(k:∀b u,s.heap.get? b=some u->h'.get? b=some u):Inv X pins σ H { s with heap:=h',toks:=t' }:=I.un (Un.kept k) (I.hok.kept k)
theorem Inv.laid{a:Addr}{o:HO}{t':Nat}(I:Inv X pins σ H s)(k:∀b u,s.heap.get? b=some u->h'.get? b=some u)(hp:s.heap.objs.size<=a)(new:ObjOk X.prog X.w (upd H a o) h' a o) :
  Inv X pins σ (upd H a o) { s with heap:=h',toks:=t' }:=I.un (Un.laid k hp (I.hok.fresh hp)) (I.hok.laid k hp new)
theorem Inv.write{x e:Addr}{o:HO}{t':Nat}(I:Inv X pins σ H s)(mu:Mut (H x))(he:e=x∨H e=some (.own x))(k:∀b u,b≠e->s.heap.get? b=some u->h'.get? b=some u)(heo:∃u,h'.get? e=some u)
  (new:ObjOk X.prog X.w (upd H x o) h' x o):Inv X pins σ (upd H x o) { s with heap:=h',toks:=t' }:=I.un (Un.write mu he k heo) (I.hok.write mu he k heo new)
theorem Inv.weak{σ':List (Option V)}(I:Inv X pins σ H s)(hl:σ'.length=σ.length)(w:∀(i:Nat) v,σ'[i]? = some (some v)->σ[i]? = some (some v)):Inv X pins σ' H s:=
 ⟨I.ok,I.os,I.bare,I.base,let ⟨m,hn,hl'⟩:=I.loc;⟨m,hn,λi x v e1 e2 e3=>hl' i x v e1 (w i v e2) e3⟩,I.cell,I.free,I.freeC,I.pin,I.hok,hl.trans I.len⟩
theorem Inv.pins_of{pins':List (Addr×Obj)}(I:Inv X pins σ H s)(h:∀p∈pins',s.heap.get? p.1=some p.2/\H p.1=none/\p.1≠X.env.locals/\p.1∉X.fs/\∀v,p.2.data≠.cell v):Inv X pins' σ H s:=
 ⟨I.ok,I.os,I.bare,I.base,I.loc,I.cell,I.free,I.freeC,λp hp=>(Ja.mp hp).elim (λz=>I.pin p (Zr _ z)) (h p),I.hok,I.len⟩
theorem Qks{N:List Str}(hN:N.Nodup){i j:Nat}{x:Str}(a:N[i]? = some x)(b:N[j]? = some x):i=j:=by
 obtain⟨h1,e1⟩:=QD.mp a;obtain⟨h2,e2⟩:=QD.mp b;exact(List.getElem_inj hN).mp (e1.trans e2.symm)
theorem QhR{M:Qzm}{A:Jb}{E:Value->Shared->Prop}{i:Nat}{x:Str}{v:V}{u:Value}{Q:Unit->Shared->Prop}(I:Inv X pins σ H s)(hN:X.N.Nodup)(hi:X.N[i]? = some x)(hx:Loc X.env.scope x)(r:RelV v u)
  (h:∀s',Inv X pins (σ.set i (some v)) H s'->(∃a,Qay a s.heap s'.heap/\(a=X.env.locals∨X.env.cells.lookup x=some a))->Q () s')(hf:X.fn x=true∨X.env.scope.names.lookup x=some .local:=by first | exact .inl rfl | exact .inr rfl | assumption):wpAny M A (storeName X.env x u) Q E s:=by
 obtain⟨m,hn,hl⟩:=id I.loc;have hcls:(X.env.scope.kind == .class||(X.env.scope.kind == .module&&X.env.locals != X.env.globals))=false:=by rw[I.ok.kind];rfl
 have hiσ:i < σ.length:=by rw[I.len];exact(QD.mp hi).1
 have cne:=I.cne;have tracked:∀{a:Addr}{h':Heap},(∃o,s.heap.get? a=some o/\H a=none)->Qay a s.heap h'->HOk X.prog X.w H h':=λ{a h'} ha hs b ob e=>by
  obtain⟨_,_,hfree⟩:=ha;refine(I.hok b ob e).stay (λc w' hc q=>(hs.2 c ?_).trans q) (λ_ q=>q) λ_ _ q=>q
  rintro rfl;rcases hc with rfl | hc
  ·rw[hfree] at e;cases e
  ·rw[hfree] at hc;cases hc
 rcases hx with hk | hk
 ·refine wpAny_storeName_local hk hn (λh' hn' hs=>?_) hcls;obtain⟨oL,_,_,hoL,_⟩:=id hn;refine h _ ⟨I.ok,I.os,I.bare,⟨λb o e n hb hx=>?_,λb o e n hb hx=>?_,I.base.free,λb o e hx=>?_,I.base.tups,I.base.frzs,I.base.tbls⟩,⟨_,hn',λj y v' e1 e2 e3=>?_⟩,λy c e=>?_,I.free,I.freeC,λp hp=>?_,tracked ⟨oL,hoL,I.free⟩ hs,by simpa using I.len⟩ ⟨_,hs,.inl rfl⟩
  ·exact(hs.2 b (QB (Q0 (Qo e) I.ok.above))).trans (I.base.keep b o e n hb hx)
  ·obtain⟨sl,e1⟩:=I.base.slot b o e n hb hx;exact⟨sl,(hs.2 b (QB (Q0 (Qo e) I.ok.above))).trans e1⟩
  ·obtain⟨o',e1⟩:=I.base.there b o e hx;exact⟨o',(hs.2 b (QB (Q0 (Qo e) I.ok.above))).trans e1⟩
  ·by_cases hj:j=i
   ·subst hj;rw[hi] at e1;cases e1;rw[QcI hiσ] at e2;cases e2;exact⟨u,r,.inl ⟨hk,by simp⟩⟩
   ·rw[QdG (QdD hj)] at e2;obtain⟨u',r',q⟩:=hl j y v' e1 e2 e3;refine⟨u',r',?_⟩;rcases q with⟨k,e⟩ | ⟨k,c,e,z⟩
    ·refine .inl ⟨k,?_⟩;have:y≠x:=λe=>hj (Qks hN e1 (e ▸ hi))
     simp[this,e]
    ·exact .inr ⟨k,c,e,z.sameBut hs (cne y c e)⟩
  ·obtain⟨w',z⟩:=I.cell y c e;exact⟨w',z.sameBut hs (cne y c e)⟩
  ·obtain⟨e,n,ne,nf,d⟩:=I.pin p hp;exact⟨(hs.2 p.1 ne).trans e,n,ne,nf,d⟩
 ·have hfn:X.fn x=true:=by
   rcases hf with z | z
   ·exact z
   ·rw[z] at hk;cases hk
  obtain⟨c,hc⟩:=I.ok.has x (.inl hk);obtain⟨w',z⟩:=I.cell x c hc;refine wpAny_storeName_cell I.ok.kind hk hc z (λh' hc' hs=>?_);obtain⟨oc,hoc,hocd⟩:=id z;refine h { s with heap:=h' } ⟨I.ok,I.os,I.bare,⟨λb o e n hb hx=>?_,λb o e n hb hx=>?_,I.base.free,λb o e hx=>?_,I.base.tups,I.base.frzs,I.base.tbls⟩,⟨m,hn.sameBut hs (QdD (cne x c hc)),λj y v' e1 e2 e3=>?_⟩,λy c' e=>?_,I.free,I.freeC,λp hp=>?_,tracked ⟨oc,hoc,I.freeC x c hc⟩ hs,by simpa using I.len⟩ ⟨c,hs,.inr hc⟩
  ·exact(hs.2 b (QB (Q0 (Qo e) (I.ok.cab x c hfn hc)))).trans (I.base.keep b o e n hb hx)
  ·obtain⟨sl,e1⟩:=I.base.slot b o e n hb hx;exact⟨sl,(hs.2 b (QB (Q0 (Qo e) (I.ok.cab x c hfn hc)))).trans e1⟩
  ·obtain⟨o',e1⟩:=I.base.there b o e hx;exact⟨o',(hs.2 b (QB (Q0 (Qo e) (I.ok.cab x c hfn hc)))).trans e1⟩
  ·by_cases hj:j=i
   ·subst hj;rw[hi] at e1;cases e1;rw[QcI hiσ] at e2;cases e2;exact⟨u,r,.inr ⟨.inl hk,c,hc,hc'⟩⟩
   ·rw[QdG (QdD hj)] at e2;obtain⟨u',r',q⟩:=hl j y v' e1 e2 e3;refine⟨u',r',?_⟩;rcases q with q | ⟨k,c',e,z'⟩
    ·exact .inl q
    ·refine .inr ⟨k,c',e,z'.sameBut hs ?_⟩;rintro rfl;exact hj (Qks hN e1 (I.ok.inj _ _ _ e hc ▸ hi))
  ·by_cases hcc:c'=c
   ·subst hcc;exact⟨_,hc'⟩
   ·obtain⟨w2,z2⟩:=I.cell y c' e;exact⟨w2,z2.sameBut hs hcc⟩
  ·obtain⟨e,n,ne,nf,d⟩:=I.pin p hp;refine⟨(hs.2 p.1 ?_).trans e,n,ne,nf,d⟩;intro q;rw[q,hoc] at e;have q':oc=p.2:=Qm e;exact d w' (by rw[<- q'];exact hocd)
theorem QgI{M:Qzm}{A:Jb}{E:Value->Shared->Prop}{i:Nat}{x:Str}{v:V}{u:Value}{Q:Unit->Shared->Prop}(I:Inv X pins σ H s)(hN:X.N.Nodup)(hi:X.N[i]? = some x)(hx:Loc X.env.scope x)(r:RelV v u)
  (h:∀s',Inv X pins (σ.set i (some v)) H s'->Q () s')(hf:X.fn x=true∨X.env.scope.names.lookup x=some .local:=by first | exact .inl rfl | exact .inr rfl | assumption):wpAny M A (storeName X.env x u) Q E s:=
 QhR I hN hi hx r (λs' I' _=>h s' I') hf
theorem Inv.call'{s':Shared}{ch:List Addr}(I:Inv X pins σ H s)(ho:s'.os=s.os)(u:Un (frs X.stack) ch H H' s.heap s'.heap)(hok:HOk X.prog X.w H' s'.heap)(hg:QfI s'.gens)
  (hch:∀b∈ch,(b∈X.ex∨X.s₀.heap.objs.size<=b)/\b≠X.env.locals/\(∀x c,X.env.cells.lookup x=some c->c≠b)/\∀p∈X.pn++pins,p.1≠b):Inv X pins σ H' s':=by
 obtain⟨h',g',d',t',o'⟩:=s';have e:o'=s.os:=ho;subst e;exact I.call (g':=g') (t':=t') (d':=d') u hok hg hch
end
abbrev XK:=Value->Option Addr->Hp->Prop
abbrev St:=List (Option V)
abbrev VK:=V->Hp->Prop
abbrev TE:=St->Hp->VK->Prop
abbrev TT:=St->Hp->(Bool->Hp->Prop)->Prop
abbrev TA:=St->Hp->(List V->Hp->Prop)->Prop
structure Ends where
 nx:St->Hp->Prop
 rt:VK
 bk:St->Hp->Prop:=λ_ _=>False
 ct:St->Hp->Prop:=λ_ _=>False
abbrev TS:=Ends->St->Hp->Prop
def EP(X:Cx)(pins:List (Addr×Obj))(σ:St)(Q:VK)(u:Value)(s':Shared):Prop:=∃v H',Inv X pins σ H' s'/\RelV v u/\Q v H'
def TP(X:Cx)(pins:List (Addr×Obj))(σ:St)(Q:Bool->Hp->Prop)(b:Bool)(s':Shared):Prop:=∃H',Inv X pins σ H' s'/\Q b H'
def AP(X:Cx)(pins:List (Addr×Obj))(σ:St)(Q:List V->Hp->Prop)(us:List Value)(s':Shared):Prop:=∃vs H',Inv X pins σ H' s'/\Vals vs us/\Q vs H'
def SP(X:Cx)(pins:List (Addr×Obj))(D:Ends)(f:Flow)(s':Shared):Prop:=
 match f with
 |.next=>∃σ' H',Inv X pins σ' H' s'/\D.nx σ' H'
 |.brk=>∃σ' H',Inv X pins σ' H' s'/\D.bk σ' H'
 |.cont=>∃σ' H',Inv X pins σ' H' s'/\D.ct σ' H'
 |.ret u=>∃v σ' H',Inv X pins σ' H' s'/\RelV v u/\D.rt v H'
def PE(X:Cx)(e:Q3)(t:TE):Prop:=
 ∀(pins:List (Addr×Obj))(s:Shared)(σ:St)(H:Hp)(Q:VK),Inv X pins σ H s->t σ H Q->wpAny (model X.prog X.w) X.A (eval e X.env) (EP X pins σ Q) X.xe s
def PT(X:Cx)(e:Q3)(t:TT):Prop:=
 ∀(pins:List (Addr×Obj))(s:Shared)(σ:St)(H:Hp)(Q:Bool->Hp->Prop),Inv X pins σ H s->t σ H Q->wpAny (model X.prog X.w) X.A (isTrue e X.env (eval e X.env)) (TP X pins σ Q) X.xe s
def PW(X:Cx)(e:Q3)(t:TT):Prop:=
 ∀(whole:Sem Value)(pins:List (Addr×Obj))(s:Shared)(σ:St)(H:Hp)(Q:Bool->Hp->Prop),Inv X pins σ H s->t σ H Q->wpAny (model X.prog X.w) X.A (isTrue e X.env whole) (TP X pins σ Q) X.xe s
theorem PW.pt{X:Cx}{e:Q3}{t:TT}(h:PW X e t):PT X e t:=h _
def PA(X:Cx)(es:List Q3)(t:TA):Prop:=
 ∀(pos:Pos)(pins:List (Addr×Obj))(s:Shared)(σ:St)(H:Hp)(Q:List V->Hp->Prop),Inv X pins σ H s->t σ H Q->wpAny (model X.prog X.w) X.A (spliced (backTo pos (starEach es X.env))) (AP X pins σ Q) X.xe s
def PS(X:Cx)(st:Y4)(t:TS):Prop:=
 ∀(pins:List (Addr×Obj))(s:Shared)(σ:St)(H:Hp)(D:Ends),Inv X pins σ H s->t D σ H->wpAny (model X.prog X.w) X.A (exec st X.env) (SP X pins D) X.xe s
def PSs(X:Cx)(st:List Y4)(t:TS):Prop:=
 ∀(pins:List (Addr×Obj))(s:Shared)(σ:St)(H:Hp)(D:Ends),Inv X pins σ H s->t D σ H->wpAny (model X.prog X.w) X.A (execs st X.env) (SP X pins D) X.xe s
theorem thn{α:Type}{t:Sem α}{Q Q':α->Shared->Prop}{M:Qzm}{A:Jb}{E:Value->Shared->Prop}{s:Shared}(h:wpAny M A t Q E s)(hQ:∀a s,Q a s->Q' a s):wpAny M A t Q' E s:=wpAny_mono h hQ λ_ _ x=>x
section
variable{X:Cx}
def Qmp(i:Nat):TE:=λσ H Q=>∃v,σ[i]? = some (some v)/\Q v H
def tC(v:V):TE:=λ_ H Q=>Q v H
theorem QwX{i:Nat}{x:Str}{pos:Pos}(hN:X.N[i]? = some x)(hv:Vis X.env.scope x)(hd:(x == ("__debug__" : Str))=false:=by decide)(hcd:(x == ("__classdict__" : Str))=false:=by decide):PE X (.Name x pos) (Qmp i):=by
 intro pins s σ H Q I h;obtain⟨v,e,h⟩:=h;obtain⟨m,hn,hl⟩:=I.loc;obtain⟨u,r,l⟩:=hl i x v hN e hv;have fin:EP X pins σ Q u s:=⟨v,H,I,r,h⟩;rcases l with⟨hk,hm⟩ | ⟨hk,c,hc,hcell⟩
 ·exact Qy8 (QvJ I.ok.kind hk hn hm fin) hd
 ·rcases hk with hk | hk
  ·exact Qy8 (QvS I.ok.kind hk hc hcell fin) hd
  ·exact Qy8 (wpAny_loadName_free I.ok.kind hk hc hcell fin hcd) hd
theorem Qaj{i j pos}:PE X (.Constant (.int i) j pos) (tC (.int i)):=λ_ _ _ H _ I h=>wpAny_Constant_int ⟨.int i,H,I.tok _,⟨_,rfl⟩,h⟩
theorem QzU{b j pos}:PE X (.Constant (.bool b) j pos) (tC (.bl b)):=λ_ _ _ H _ I h=>Constant_bool ⟨.bl b,H,I,rfl,h⟩
theorem Qw0{j pos}:PE X (.Constant .none j pos) (tC .non):=λ_ _ _ H _ I h=>Constant_none ⟨.non,H,I,rfl,h⟩
def Gl(X:Cx)(x:Str):Prop:=X.env.kindOf x=some .globalImplicit
theorem QnF{E:Value->Shared->Prop}{pins:List (Addr×Obj)}{s:Shared}{σ:St}{H:Hp}{x:Str}{u:Value}{pos:Pos}{Q:Value->Shared->Prop}(I:Inv X pins σ H s)(hg:Gl X x)(hm:X.mg x=some u)(h:Q u s)
  (hd:(x == ("__debug__" : Str))=false:=by decide):wpAny (model X.prog X.w) X.A (eval (.Name x pos) X.env) Q E s:=
 Qhx I.ok.kind hg (Calls.loadGlobal_global (by rw[I.ok.glob];exact I.mod.glob.keeps I.bk) hm h) hd
theorem QcN{E:Value->Shared->Prop}{pins:List (Addr×Obj)}{s:Shared}{σ:St}{H:Hp}{x:Str}{u:Value}{pos:Pos}{Q:Value->Shared->Prop}(I:Inv X pins σ H s)(hg:Gl X x)(hm:X.mg x=none)(hv:bootBuiltins x=some u)(h:Q u s)
  (hn:x ≠ "__name__" := by decide)(hd:(x == ("__debug__" : Str))=false:=by decide):wpAny (model X.prog X.w) X.A (eval (.Name x pos) X.env) Q E s:=by
 obtain⟨mb,h1,h2⟩:=I.mod.blt;exact Qhx I.ok.kind hg (Calls.loadGlobal_builtin (by rw[I.ok.glob];exact I.mod.glob.keeps I.bk) hm (by rw[I.ok.blt];exact h1.keeps I.bk) ((h2 x hn).trans hv) h) hd
theorem Qt9{x:Str}{v:V}{u:Value}{pos:Pos}(hg:Gl X x)(hm:X.mg x=some u)(r:RelV v u)(hd:(x == ("__debug__" : Str))=false:=by decide):PE X (.Name x pos) (tC v):=
 λ_ _ _ H _ I h=>QnF I hg hm ⟨v,H,I,r,h⟩ hd
theorem Qub{x:Str}{v:V}{u:Value}{pos:Pos}(hg:Gl X x)(hm:X.mg x=none)(hv:bootBuiltins x=some u)(r:RelV v u)(hn:x ≠ "__name__" := by decide)(hd:(x == ("__debug__" : Str))=false:=by decide):PE X (.Name x pos) (tC v):=
 λ_ _ _ H _ I h=>QcN I hg hm hv ⟨v,H,I,r,h⟩ hn hd
variable{a b:Q3}{ta tb:TE}{pos:Pos}
def tB(t:TE):TT:=λσ H Q=>t σ H λx H1=>∃c,x=.bl c/\Q c H1
theorem QwQ{e:Q3}{t:TE}(h:PE X e t)(he:∀whole,isTrue e X.env whole=(do let v <- whole;standAt e.pos;holding [v] (truthy v)):=by intro _;rfl):PT X e (tB t):=by
 intro pins s σ H Q I hw;refine isTrue_plain (thn (h pins s σ H _ I hw) λv s1 ⟨x,H1,I1,r1,q1⟩=>?_) (he _);obtain⟨d,rfl,q⟩:=q1;cases r1;exact ZL ⟨H1,I1,q⟩
variable{tA tB':TT}{rest:List Q3}
def QBA(t u:TT):TT:=λσ H Q=>t σ H λc H1=>if c=true then u σ H1 Q else Q false H1
def tOr(t u:TT):TT:=λσ H Q=>t σ H λc H1=>if c=true then Q true H1 else u σ H1 Q
def QBx(t:TT):TT:=λσ H Q=>t σ H λc H1=>Q (!c) H1
theorem QtU(ha:PT X a tA):PW X (.BoolOp .And [a] pos) tA:=by
 intro wh pins s σ H Q I h;refine isTrue_and (thn (ha pins s σ H Q I h) λc s1 e=>?_);cases c with
 |true=>exact isTrue_and_nil e
 |false=>exact e
theorem QwO(ha:PT X a tA):PW X (.BoolOp .Or [a] pos) tA:=by
 intro wh pins s σ H Q I h;refine isTrue_or (thn (ha pins s σ H Q I h) λc s1 e=>?_);cases c with
 |false=>exact isTrue_or_nil e
 |true=>exact e
theorem QwP(ha:PT X a tA)(hb:PW X (.BoolOp .And (b::rest) pos) tB'):PW X (.BoolOp .And (a::b::rest) pos) (QBA tA tB'):=by
 intro wh pins s σ H Q I h;refine isTrue_and (thn (ha pins s σ H _ I h) λc s1 ⟨H1,I1,q1⟩=>?_);cases c with
 |true=>exact hb wh pins s1 σ H1 Q I1 q1
 |false=>exact⟨H1,I1,q1⟩
theorem QzQ(ha:PT X a tA)(hb:PW X (.BoolOp .Or (b::rest) pos) tB'):PW X (.BoolOp .Or (a::b::rest) pos) (tOr tA tB'):=by
 intro wh pins s σ H Q I h;refine isTrue_or (thn (ha pins s σ H _ I h) λc s1 ⟨H1,I1,q1⟩=>?_);cases c with
 |true=>exact⟨H1,I1,q1⟩
 |false=>exact hb wh pins s1 σ H1 Q I1 q1
theorem QwR(ha:PT X a tA):PT X (.UnaryOp .Not a pos) (QBx tA):=by
 intro pins s σ H Q I h;exact isTrue_not (ha pins s σ H (λc H1=>Q (!c) H1) I h)
def QzE(ta tb:TE):TE:=λσ H Q=>ta σ H λx H1=>∃c,x=.bl c/\if c=true then tb σ H1 Q else Q (.bl false) H1
def QzB(ta:TE):TE:=λσ H Q=>ta σ H λx H1=>∃c,x=.bl c/\Q (.bl (!c)) H1
theorem QwY{op}{t:TE}(h:PE X a t):PE X (.BoolOp op [a] pos) t:=λpins s σ H Q I hw=>BoolOp_one (h pins s σ H Q I hw)
theorem Qw2(ha:PE X a ta)(hb:PE X (.BoolOp .And (b::rest) pos) tb):PE X (.BoolOp .And (a::b::rest) pos) (QzE ta tb):=by
 intro pins s σ H Q I h;refine BoolOp_and (thn (ha pins s σ H _ I h) λv s1 ⟨x,H1,I1,r1,q1⟩=>?_);obtain⟨c,rfl,q1⟩:=q1;cases r1;refine ZL ?_
 cases c with
 |true=>exact hb pins s1 σ H1 Q I1 q1
 |false=>exact⟨.bl false,H1,I1,rfl,q1⟩
theorem QwZ(ha:PE X a ta):PE X (.UnaryOp .Not a pos) (QzB ta):=by
 intro pins s σ H Q I h;refine UnaryOp_ (thn (ha pins s σ H _ I h) λv s1 ⟨x,H1,I1,r1,q1⟩=>?_);obtain⟨c,rfl,q1⟩:=q1;cases r1;exact not_of (ZL ⟨.bl (!c),H1,I1,rfl,q1⟩)
def tIf(t:TT)(ta tb:TE):TE:=λσ H Q=>t σ H λc H1=>if c=true then ta σ H1 Q else tb σ H1 Q
theorem QpS{c:Q3}(hc:PT X c tA)(ha:PE X a ta)(hb:PE X b tb):PE X (.IfExp c a b pos) (tIf tA ta tb):=by
 intro pins s σ H Q I h;refine wpAny_IfExp (thn (hc pins s σ H _ I h) λd s1 ⟨H1,I1,q1⟩=>?_);cases d with
 |true=>exact ha pins s1 σ H1 Q I1 q1
 |false=>exact hb pins s1 σ H1 Q I1 q1
end
def SqL(K:PySem.W.Frag)(H:Hp)(a:Addr)(xs:List V):Prop:=
 Rd H a (.lst xs) ∨
  ∃(o:Obj)(its:Array Value)(n:Nat),K.lookup a=some o/\o.cls=.type "list" /\ o.dict=none/\o.data=.seq its n/\its.size<=sizeLine/\Vals xs its.toList
def SqT(K:PySem.W.Frag)(H:Hp)(a:Addr)(xs:List V):Prop:=
 Rd H a (.tup xs) ∨
  ∃(o:Obj)(its:Array Value)(n:Nat),K.lookup a=some o/\o.cls=.type "tuple" /\ o.data=.seq its n/\its.size<=sizeLine/\Vals xs its.toList
def QBV:Value->Option V
 |.none=>some .non
 |.bool b=>some (.bl b)
 |.int i _=>some (.int i)
 |.str x _=>some (.str x)
 |.bytes b _=>some (.byt b)
 |.float b _=>some (.flt b)
 |.ref a=>some (.ref a)
 |.type n=>some (.ty n)
 |_=>none
theorem RelV.abs{x:V}{u:Value}(r:RelV x u):QBV u=some x:=by
 cases x with
 |non=>cases r;rfl
 |bl _=>cases r;rfl
 |int _=>obtain⟨t,rfl⟩:=r;rfl
 |str _=>obtain⟨t,rfl⟩:=r;rfl
 |byt _=>obtain⟨t,rfl⟩:=r;rfl
 |flt _=>obtain⟨t,rfl⟩:=r;rfl
 |ref _=>cases r;rfl
 |ty _=>cases r;rfl
theorem RelV.inj{x y:V}{u:Value}(r:RelV x u)(q:RelV y u):x=y:=Qm (r.abs.symm.trans q.abs)
theorem Vals.inj:∀{xs ys:List V}{us:List Value},Vals xs us->Vals ys us->xs=ys
 |_,_,_,.nil,.nil=>rfl
 |_,_,_,.cons r t,.cons r' t'=>by rw[r.inj r',Vals.inj t t']
section
variable{X:Cx}{pins:List (Addr×Obj)}{σ:St}{H:Hp}{s:Shared}{a:Addr}{xs ys:List V}
theorem SqL.of{K:PySem.W.Frag}(h:H a=some (.lst xs)):SqL K H a xs:=.inl (.inl h)
theorem SqT.of{K:PySem.W.Frag}(h:H a=some (.tup xs)):SqT K H a xs:=.inl (.inl h)
theorem Inv.list(I:Inv X pins σ H s)(h:SqL X.K H a xs):∃its:List Value,Vals xs its/\PlainL s.heap a its.toArray/\xs.length<=sizeLine:=by
 rcases h with h | ⟨o,its,n,hk,hc,hd,hs,hz,r⟩
 ·obtain⟨z,its,n,r,e⟩:=h.ok I.hok;exact⟨its,r,⟨_,n,e,rfl,rfl,rfl⟩,z⟩
 ·refine⟨its.toList,r,⟨o,n,I.kIn a o hk,hc,hd,by simpa using hs⟩,?_⟩;have e:=r.length;simp only[Qc] at e;omega
theorem Inv.tuple(I:Inv X pins σ H s)(h:SqT X.K H a xs):∃its:List Value,Vals xs its/\IsTup s.heap a its.toArray/\xs.length<=sizeLine:=by
 rcases h with h | ⟨o,its,n,hk,hc,hs,hz,r⟩
 ·obtain⟨z,its,r,p⟩:=h.ok I.hok;exact⟨its,r,p,z⟩
 ·refine⟨its.toList,r,⟨o,I.kIn a o hk,hc,n,by simpa using hs⟩,?_⟩;have e:=r.length;simp only[Qc] at e;omega
theorem Inv.list_inj(I:Inv X pins σ H s)(h:SqL X.K H a xs)(h':SqL X.K H a ys):xs=ys:=by
 obtain⟨its,r,⟨o,n,e,_,_,d⟩,_⟩:=I.list h;obtain⟨its',r',⟨o',n',e',_,_,d'⟩,_⟩:=I.list h';rw[e] at e';cases e';rw[d] at d';injection d' with d1 _
 have:its=its':=by simpa using congrArg QyT d1
 subst this;exact r.inj r'
theorem Inv.tuple_inj(I:Inv X pins σ H s)(h:SqT X.K H a xs)(h':SqT X.K H a ys):xs=ys:=by
 obtain⟨its,r,⟨o,e,_,n,d⟩,_⟩:=I.tuple h;obtain⟨its',r',⟨o',e',_,n',d'⟩,_⟩:=I.tuple h';rw[e] at e';cases e';rw[d] at d';injection d' with d1 _
 have:its=its':=by simpa using congrArg QyT d1
 subst this;exact r.inj r'
end
abbrev Cx.wish (X:Cx) (E:Value->Shared->Prop):Cx:={ X with xe:=E }
abbrev Cx.nox (X:Cx):Cx:=X.wish λ_ _=>False
theorem Cx.Ok.wish{X:Cx}(ok:X.Ok)(E:Value->Shared->Prop):(X.wish E).Ok:=
 ⟨ok.mod,ok.kind,ok.glob,ok.blt,ok.above,ok.inj,ok.has,ok.cab,ok.hd,ok.frames,ok.stk,ok.exf,ok.bs,ok.bsz,ok.noex,ok.exfs,ok.funs,ok.frf⟩
theorem Cx.Ok.unwish{X:Cx}{E:Value->Shared->Prop}(ok:(X.wish E).Ok):X.Ok:=
 ⟨ok.mod,ok.kind,ok.glob,ok.blt,ok.above,ok.inj,ok.has,ok.cab,ok.hd,ok.frames,ok.stk,ok.exf,ok.bs,ok.bsz,ok.noex,ok.exfs,ok.funs,ok.frf⟩
section
variable{X:Cx}{pins:List (Addr×Obj)}{σ:St}{H:Hp}{s:Shared}{E:Value->Shared->Prop}
theorem Inv.wish(I:Inv X pins σ H s)(E:Value->Shared->Prop):Inv (X.wish E) pins σ H s:=⟨I.ok.wish E,I.os,I.bare,I.base,I.loc,I.cell,I.free,I.freeC,I.pin,I.hok,I.len⟩
theorem Inv.unwish(I:Inv (X.wish E) pins σ H s):Inv X pins σ H s:=⟨I.ok.unwish,I.os,I.bare,I.base,I.loc,I.cell,I.free,I.freeC,I.pin,I.hok,I.len⟩
theorem SP.unwish{D:Ends}{f:Flow}{s':Shared}(h:SP (X.wish E) pins D f s'):SP X pins D f s':=by
 cases f with
 |next=>obtain⟨σ',H',I,q⟩:=h;exact⟨σ',H',I.unwish,q⟩
 |brk=>obtain⟨σ',H',I,q⟩:=h;exact⟨σ',H',I.unwish,q⟩
 |cont=>obtain⟨σ',H',I,q⟩:=h;exact⟨σ',H',I.unwish,q⟩
 |ret u=>obtain⟨v,σ',H',I,r,q⟩:=h;exact⟨v,σ',H',I.unwish,r,q⟩
theorem PE.nox{e:Q3}{t:TE}(h:PE X.nox e t):PE X e t:=λpins s σ H Q I hw=>
 wpAny_mono (h pins s σ H Q (I.wish _) hw) (λ_ _ ⟨v,H',I',r,q⟩=>⟨v,H',I'.unwish,r,q⟩) λ_ _ z=>YG z
theorem PT.nox{e:Q3}{t:TT}(h:PT X.nox e t):PT X e t:=λpins s σ H Q I hw=>
 wpAny_mono (h pins s σ H Q (I.wish _) hw) (λ_ _ ⟨H',I',q⟩=>⟨H',I'.unwish,q⟩) λ_ _ z=>YG z
theorem PSs.nox{st:List Y4}{t:TS}(h:PSs X.nox st t):PSs X st t:=λpins s σ H D I hw=>
 wpAny_mono (h pins s σ H D (I.wish _) hw) (λ_ _ q=>q.unwish) λ_ _ z=>YG z
end
section
variable{X:Cx}{st:Y4}{rest:List Y4}{t u:TS}{e:Q3}{te:TE}{pos:Pos}
def QzC:TS:=λD σ H=>D.nx σ H
def QBv(t u:TS):TS:=λD σ H=>t { D with nx:=u D } σ H
theorem Qjh:PSs X [] QzC:=λ_ _ σ H _ I h=>Qen ⟨σ,H,I,h⟩
theorem QaZ(h1:PS X st t)(h2:PSs X rest u):PSs X (st::rest) (QBv t u):=by
 intro pins s σ H D I h;refine wpAny_execs_cons (thn (h1 pins s σ H { D with nx:=u D } I h) λf s1 q=>?_);cases f with
 |next=>
  obtain⟨σ',H',I',q⟩:=q;exact h2 pins s1 σ' H' D I' q
 |ret v=>exact q
 |brk=>exact q
 |cont=>exact q
theorem QcU(h1:PS X st t):PSs X [st] t:=by
 intro pins s σ H D I h;refine wpAny_execs_cons (thn (h1 pins s σ H D I h) λf s1 q=>?_);cases f with
 |next=>exact Qen q
 |ret v=>exact q
 |brk=>exact q
 |cont=>exact q
theorem Inv.quiet{pins:List (Addr×Obj)}{σ:St}{H:Hp}{s:Shared}(I:Inv X pins σ H s):interactive X.env=false:=by simp[interactive,I.ok.kind]
def Qpi(te:TE):TS:=λD σ H=>te σ H λ_ H1=>D.nx σ H1
theorem Qji(he:PE X e te)(hs:swapsWith e none pos.line X.env=pure false:=by rfl):PS X (.Expr e pos) (Qpi te):=by
 intro pins s σ H D I h;exact wpAny_Expr_any (thn (he pins s σ H _ I h) λv s1 ⟨x,H1,I1,r1,q1⟩=>⟨σ,H1,I1,q1⟩) I.quiet hs
def QBw(te:TE):TS:=λD σ H=>te σ H D.rt
theorem Qeh(he:PE X e te):PS X (.Return (some e) pos) (QBw te):=by
 intro pins s σ H D I h;exact wpAny_Return_some (thn (he pins s σ H _ I h) λv s1 ⟨x,H1,I1,r1,q1⟩=>⟨x,σ,H1,I1,r1,q1⟩)
def QBz(c:TT)(t u:TS):TS:=λD σ H=>c σ H λb H1=>if b=true then t D σ H1 else u D σ H1
theorem QtX{c:Q3}{a b:List Y4}{tc:TT}(hc:PT X c tc)(ha:PSs X a t)(hb:PSs X b u):PS X (.If c a b pos) (QBz tc t u):=by
 intro pins s σ H D I h;refine wpAny_If (thn (hc pins s σ H _ I h) λd s1 ⟨H1,I1,q1⟩=>?_);cases d with
 |true=>exact ha pins s1 σ H1 D I1 q1
 |false=>exact hb pins s1 σ H1 D I1 q1
end
abbrev TG:=V->St->Hp->(St->Hp->Prop)->Prop
abbrev TGs:=List V->St->Hp->(St->Hp->Prop)->Prop
def PG(X:Cx)(target:Q3)(t:TG):Prop:=
 ∀(pins:List (Addr×Obj))(s:Shared)(σ:St)(H:Hp)(v:V)(u:Value)(Q:St->Hp->Prop),Inv X pins σ H s->RelV v u->t v σ H Q ->
  wpAny (model X.prog X.w) X.A (assign target X.env u) (λ_ s'=>∃σ' H',Inv X pins σ' H' s'/\Q σ' H') X.xe s
def PGs(X:Cx)(ts:List Q3)(t:TGs):Prop:=
 ∀(pins:List (Addr×Obj))(s:Shared)(σ:St)(H:Hp)(vs:List V)(us:List Value)(Q:St->Hp->Prop),Inv X pins σ H s->Vals vs us->t vs σ H Q ->
  wpAny (model X.prog X.w) X.A (assignInOrder ((assignEach ts X.env).map (·.2)) us) (λ_ s'=>∃σ' H',Inv X pins σ' H' s'/\Q σ' H') X.xe s
abbrev TSet:=V->V->V->Hp->(Hp->Prop)->Prop
def QAI(X:Cx)(t:TSet):Prop:=
 ∀(pins:List (Addr×Obj))(s:Shared)(σ:St)(H:Hp)(o i v:V)(ov iv u:Value)(Q:Hp->Prop),Inv X pins σ H s->RelV o ov->RelV i iv->RelV v u->t o i v H Q ->
  wpAny (model X.prog X.w) X.A (setItem ov iv u) (λ_ s'=>∃H',Inv X pins σ H' s'/\Q H') X.xe s
abbrev TIp:=V->V->Hp->VK->Prop
def PIp(X:Cx)(op:Qdd)(t:TIp):Prop:=
 ∀(pins:List (Addr×Obj))(s:Shared)(σ:St)(H:Hp)(x y:V)(v u:Value)(Q:VK),Inv X pins σ H s->RelV x v->RelV y u->t x y H Q ->
  wpAny (model X.prog X.w) X.A (inplaceOp op v u) (EP X pins σ Q) X.xe s
section
variable{X:Cx}{pos:Pos}
def Qg7(i:Nat):TG:=λv σ H Q=>Q (σ.set i (some v)) H
theorem Qjj{i:Nat}{x:Str}(hN:X.N.Nodup)(hi:X.N[i]? = some x)(hx:Loc X.env.scope x)(hf:X.fn x=true∨X.env.scope.names.lookup x=some .local:=by first | exact .inl rfl | exact .inr rfl | assumption):PG X (.Name x pos) (Qg7 i):=by
 intro pins s σ H v u Q I r h;exact Qy7 (QgI I hN hi hx r (λs' I'=>⟨_,H,I',h⟩) hf)
def QA7:TGs:=λvs σ H Q=>vs=[]/\Q σ H
def Qx3(t:TG)(u:TGs):TGs:=λvs σ H Q=>∃v r,vs=v::r/\t v σ H λσ' H'=>u r σ' H' Q
theorem Qt6:PGs X [] QA7:=by
 intro pins s σ H vs us Q I r h;obtain⟨e,h⟩:=h;subst e;cases r;exact assignInOrder_nil ⟨σ,H,I,h⟩
theorem QpN{e:Q3}{es:List Q3}{t:TG}{u:TGs}(h1:PG X e t)(h2:PGs X es u)
  (hs:(assignEach (e::es) X.env).map (·.2)=assign e X.env::(assignEach es X.env).map (·.2):=by rfl):PGs X (e::es) (Qx3 t u):=by
 intro pins s σ H vs us Q I r h;obtain⟨v,vr,e1,h⟩:=h;subst e1;cases r with
 |cons r rr=>
  rw[hs];refine assignInOrder_cons (thn (h1 pins s σ H _ _ _ I r h) λ_ s1 ⟨σ1,H1,I1,q1⟩=>?_);exact h2 pins s1 σ1 H1 _ _ Q I1 rr q1
def QA6(K:PySem.W.Frag)(n:Nat)(t:TGs):TG:=λv σ H Q=>∃a xs,v=.ref a/\SqT K H a xs/\xs.length=n/\t xs σ H Q
theorem QwV{es:List Q3}{k:Nat}{t:TGs}{n:Nat}(hc:X.calm=true)(h:PGs X es t)
  (hn:(assignEach es X.env).length=n:=by rfl)(hst:(assignEach es X.env).findIdx? (·.1)=none:=by rfl):PG X (.Tuple es k pos) (QA6 X.K n t):=by
 intro pins s σ H v u Q I r hw;obtain⟨a,xs,e1,hq,hl,hw⟩:=hw;subst e1;cases r;obtain⟨its,rv,ht,hz⟩:=I.tuple hq;refine assign_Tuple_tuple (I.ok.hd hc) ht (by simp[hn,<- hl,rv.length]) hst λh' hx=>?_
 have I1:Inv X pins σ H { s with heap:=h' }:=I.kept (t':=s.toks) λb o e=>hx b o (QB (Qo e)) e
 exact h pins _ σ H xs _ Q I1 (by simpa using rv) hw
def gSub(to ti:TE)(t:TSet):TG:=λv σ H Q=>to σ H λo H1=>ti σ H1 λi H2=>t o i v H2 λH3=>Q σ H3
theorem QwW{o i:Q3}{to ti:TE}{t:TSet}(ho:PE X o to)(hi:PE X i ti)(hs:QAI X t)
  (ha:∀v,assign (.Subscript o i pos) X.env v=(do
   let ov <- holding [v] (eval o X.env)
   let iv <- holding [v,ov] (eval i X.env)
   standAt pos
   holding [v,ov,iv] (setItem ov iv v)
   release [v,ov,iv] []):=by intro _;rfl):PG X (.Subscript o i pos) (gSub to ti t):=by
 intro pins s σ H v u Q I r h;rw[ha];refine wpAny_bind (JY (thn (ho pins s σ H _ I h) λov s1 ⟨x,H1,I1,r1,q1⟩=>?_));refine wpAny_bind (JY (thn (hi pins s1 σ H1 _ I1 q1) λiv s2 ⟨y,H2,I2,r2,q2⟩=>?_));refine wpAny_bind (wpAny_standAt (wpAny_bind (JY (thn (hs pins s2 σ H2 x y v ov iv u _ I2 r1 r2 r q2) λ_ s3 ⟨H3,I3,q3⟩=>?_))));exact wpAny_release ⟨σ,H3,I3,q3⟩
def Qsm(te:TE)(g:TG):TS:=λD σ H=>te σ H λx H1=>g x σ H1 D.nx
theorem Qsx{tg e:Q3}{te:TE}{g:TG}(he:PE X e te)(hg:PG X tg g)(hs:swapsWithSole [tg] e pos.line X.env=pure false:=by rfl)(hw:swappedStores [tg] e X.env=pure none:=by rfl)
  (h1:(assignEach [tg] X.env).map (·.2)=[assign tg X.env]:=by rfl):PS X (.Assign [tg] e pos) (Qsm te g):=by
 intro pins s σ H D I h;refine wpAny_Assign_stores (thn (he pins s σ H _ I h) λv s1 ⟨x,H1,I1,r1,q1⟩=>?_) hs hw;rw[h1];exact thn (hg pins s1 σ H1 x v _ I1 r1 q1) λ_ s2 q=>q
theorem Qeg{i:Nat}{x:Str}{e:Q3}{te:TE}{pos':Pos}(hN:X.N.Nodup)(hi:X.N[i]? = some x)(hx:Loc X.env.scope x)(he:PE X e te)(hs:swapsWith e (some (.Name x pos')) pos.line X.env=pure false:=by rfl)(hf:X.fn x=true∨X.env.scope.names.lookup x=some .local:=by first | exact .inl rfl | exact .inr rfl | assumption) :
  PS X (.Assign [.Name x pos'] e pos) (Qsm te (Qg7 i)):=by
 intro pins s σ H D I h;refine wpAny_Assign_Name (thn (he pins s σ H _ I h) λv s1 ⟨y,H1,I1,r1,q1⟩=>?_) hs;exact QgI I1 hN hi hx r1 (λs2 I2=>⟨_,H1,I2,q1⟩) hf
def QAM(i:Nat)(te:TE)(ti:TIp):TS:=λD σ H=>∃x,σ[i]? = some (some x)/\te σ H λy H1=>ti x y H1 λz H2=>D.nx (σ.set i (some z)) H2
theorem QwS{i:Nat}{x:Str}{e:Q3}{te:TE}{op:Qdd}{ti:TIp}{pos':Pos}(hN:X.N.Nodup)(hi:X.N[i]? = some x)(hx:Loc X.env.scope x)(he:PE X e te)(ho:PIp X op ti)(hf:X.fn x=true∨X.env.scope.names.lookup x=some .local:=by first | exact .inl rfl | exact .inr rfl | assumption) :
  PS X (.AugAssign (.Name x pos') op e pos) (QAM i te ti):=by
 intro pins s σ H D I h;obtain⟨v,e1,h⟩:=h;obtain⟨m,hn,hl⟩:=I.loc;have vis:Vis X.env.scope x:=by rcases hx with k | k;exact .inl k;exact .inr (.inl k)
 obtain⟨u,r,l⟩:=hl i x v hi e1 vis;refine wpAny_AugAssign_Name ?_
 have go:wpAny (model X.prog X.w) X.A (eval e X.env) (λw s₂=>wpAny (model X.prog X.w) X.A (inplaceOp op u w) (λr s₃=>wpAny (model X.prog X.w) X.A (storeName X.env x r) (λ_=>SP X pins D .next) X.xe s₃) X.xe s₂) X.xe s:=by
  refine thn (he pins s σ H _ I h) λw s1 ⟨y,H1,I1,r1,q1⟩=>?_
  refine thn (ho pins s1 σ H1 v y u w _ I1 r r1 q1) λz s2 ⟨zv,H2,I2,r2,q2⟩=>?_
  exact QgI I2 hN hi hx r2 (λs3 I3=>⟨_,H2,I3,q2⟩) hf
 rcases l with⟨hk,hm⟩ | ⟨hk,c,hc,hcell⟩
 ·exact QvJ I.ok.kind hk hn hm go
 ·rcases hk with hk | hk
  ·exact QvS I.ok.kind hk hc hcell go
  ·rcases hx with k | k
   ·have:X.env.scope.names.lookup x=some .free:=hk;rw[k] at this;cases this
   ·have:X.env.scope.names.lookup x=some .free:=hk;rw[k] at this;cases this
def Qwh(to ti te:TE)(tget:V->V->Hp->VK->Prop)(tip:TIp)(tset:TSet):TS:=λD σ H=>to σ H λo H1=>ti σ H1 λi H2=>tget o i H2 λx H3=>te σ H3 λy H4=>tip x y H4 λz H5=>tset o i z H5 λH6=>D.nx σ H6
def QBp(X:Cx)(t:V->V->Hp->VK->Prop):Prop:=
 ∀(pins:List (Addr×Obj))(s:Shared)(σ:St)(H:Hp)(o i:V)(ov iv:Value)(Q:VK),Inv X pins σ H s->RelV o ov->RelV i iv->t o i H Q ->
  wpAny (model X.prog X.w) X.A (getItem ov iv) (EP X pins σ Q) X.xe s
theorem QtY{o i e:Q3}{to ti te:TE}{tget:V->V->Hp->VK->Prop}{tip:TIp}{tset:TSet}{op:Qdd}{tpos:Pos}(ho:PE X o to)(hi:PE X i ti)(hg:QBp X tget)(he:PE X e te)(hp:PIp X op tip)(hs:QAI X tset)
  (ha:∀ov iv new,augStore i ov iv new=(do holding [new,ov,iv] (setItem ov iv new);release [new,ov,iv] [];pure .next):=by intros;rfl):PS X (.AugAssign (.Subscript o i tpos) op e pos) (Qwh to ti te tget tip tset):=by
 intro pins s σ H D I h;refine wpAny_AugAssign_SubscriptAny (thn (ho pins s σ H _ I h) λov s1 ⟨x1,H1,I1,r1,q1⟩=>?_) ha;refine thn (hi pins s1 σ H1 _ I1 q1) λiv s2 ⟨x2,H2,I2,r2,q2⟩=>?_
 refine thn (hg pins s2 σ H2 x1 x2 ov iv _ I2 r1 r2 q2) λold s3 ⟨x3,H3,I3,r3,q3⟩=>?_
 refine thn (he pins s3 σ H3 _ I3 q3) λv s4 ⟨x4,H4,I4,r4,q4⟩=>?_
 refine thn (hp pins s4 σ H4 x3 x4 old v _ I4 r3 r4 q4) λnew s5 ⟨x5,H5,I5,r5,q5⟩=>?_
 exact thn (hs pins s5 σ H5 x1 x2 x5 ov iv new _ I5 r1 r2 r5 q5) λ_ s6 ⟨H6,I6,q6⟩=>⟨σ,H6,I6,q6⟩
def ipI(f:Int->Int->Int):TIp:=λx y H Q=>∃i j,x=.int i/\y=.int j/\Q (.int (f i j)) H
theorem QnM:PIp X .Add (ipI λi j=>i+j):=by
 intro pins s σ H x y v u Q I r1 r2 h;obtain⟨i,j,e1,e2,q⟩:=h;subst e1;subst e2;obtain⟨t,rfl⟩:=r1;obtain⟨t',rfl⟩:=r2;exact iadd_int ⟨.int _,H,I.tok _,⟨_,rfl⟩,q⟩
theorem QxY:PIp X .Sub (ipI λi j=>i - j):=by
 intro pins s σ H x y v u Q I r1 r2 h;obtain⟨i,j,e1,e2,q⟩:=h;subst e1;subst e2;obtain⟨t,rfl⟩:=r1;obtain⟨t',rfl⟩:=r2;exact isub_int ⟨.int _,H,I.tok _,⟨_,rfl⟩,q⟩
end
section
variable{X:Cx}{pos:Pos}
def Qwe(c:TT)(tb:TS):TS:=λD σ H=>∃W:Nat->St->Hp->Prop,(∃m,W m σ H)/\∀m σ H,W m σ H ->
 c σ H λb H1=>if b=true then ∃N:St->Hp->Prop,(∀σ' H',N σ' H'->∃m',m'<m/\W m' σ' H')/\tb { D with nx:=N,ct:=N,bk:=D.nx } σ H1 else D.nx σ H1
theorem QpJ{c:Q3}{body:List Y4}{tc:TT}{tb:TS}(hp:Qgw (model X.prog X.w) X.A X.env X.xe)(hc:PT X c tc)(hb:PSs X body tb):PS X (.While c body [] pos) (Qwe tc tb):=by
 intro pins s σ H D I h;obtain⟨W,⟨m0,w0⟩,turn⟩:=h;refine wpAny_While (codeAny_whileLoop (λn s'=>∃σ' H',Inv X pins σ' H' s'/\W n σ' H') ?_ m0 ⟨σ,H,I,w0⟩);rintro n s1 ⟨σ1,H1,I1,w1⟩;refine Qam hp (thn (hc pins s1 σ1 H1 _ I1 (turn n σ1 H1 w1)) λb s2 ⟨H2,I2,q2⟩=>?_);cases b with
 |true=>
  obtain⟨N,hN,q2⟩:=q2;rw[if_pos rfl];refine Qam hp (thn (hb pins s2 σ1 H2 _ I2 q2) λf s3 q3=>?_);cases f with
  |next=>
   obtain⟨σ3,H3,I3,n3⟩:=q3;obtain⟨m',hm,w3⟩:=hN σ3 H3 n3;exact⟨m',hm,σ3,H3,I3,w3⟩
  |cont=>
   obtain⟨σ3,H3,I3,n3⟩:=q3;obtain⟨m',hm,w3⟩:=hN σ3 H3 n3;exact⟨m',hm,σ3,H3,I3,w3⟩
  |brk=>exact q3
  |ret v=>exact q3
 |false=>
  rw[if_neg Qv];exact Qen ⟨σ1,H2,I2,q2⟩
end
structure It where
 go:Nat->Hp->Prop
 yld:Nat->Hp->V->Hp->Prop
 stop:Nat->Hp->Prop
def FpOk(X:Cx)(pins:List (Addr×Obj))(H:Hp)(b:Addr):Prop:=
 H b=none/\b≠X.env.locals/\b∉X.fs/\(b∈X.ex∨X.s₀.heap.objs.size<=b)/\(∀x c,X.env.cells.lookup x=some c->c≠b)/\∀p∈X.pn++pins,p.1≠b
theorem Inv.fpOk{X:Cx}{pins:List (Addr×Obj)}{σ:St}{H H':Hp}{s:Shared}{b:Addr}(I:Inv X pins σ H s)(hb:s.heap.objs.size<=b)(hn:H' b=none):FpOk X pins H' b:=by
 refine⟨hn,QaA (Q0 I.lt hb),I.nofs hb,.inr (Q7 I.sz hb),λx c e z=>?_,λp hp z=>?_⟩
 ·obtain⟨v,q⟩:=I.cell x c e;exact absurd (Q0 q.lt (by rw[z];exact hb)) (Qad _)
 ·exact absurd (Q0 (Qo (I.pin p hp).1) (by rw[z];exact hb)) (Qad _)
structure Turn (P:Qz) (w:Ji) (K:PySem.W.Frag) (tg:Q3) (J:It) (fp:List Addr) (it:Addr) (tn:Nat->Heap->Prop):Prop where
 mem:it∈fp
 obj:∀i h,tn i h->∀b∈fp,∃o,h.get? b=some o/\∀v,o.data≠.cell v
 keep:∀i h h',tn i h->(∀b∈fp,∀o,h.get? b=some o->h'.get? b=some o)->tn i h'
 item:∀(X:Cx),X.prog=P->X.w=w->X.K=K->X.calm=true->∀(i:Nat)(pins:List (Addr×Obj))(s:Shared)(σ:St)(H:Hp)(E:Value->Shared->Prop),Inv X pins σ H s->(∀b∈fp,FpOk X pins H b)->tn i s.heap->J.go i H ->
  wpAny (model P w) X.A (pyNext (.ref it)) (λr s1=>∃u,r=some u /\
   wpAny (model P w) X.A (letOwnedTupleGo tg (.ref it) u) (λ_ s2=>∃x H',Inv X pins σ H' s2/\RelV x u/\J.yld i H x H'/\tn (i+1) s2.heap/\∀b∈fp,H' b=none) E s1) E s
 done:∀(X:Cx),X.prog=P->X.w=w->X.K=K->X.calm=true->∀(i:Nat)(pins:List (Addr×Obj))(s:Shared)(σ:St)(H:Hp)(E:Value->Shared->Prop),Inv X pins σ H s->(∀b∈fp,FpOk X pins H b)->tn i s.heap->J.stop i H ->
  wpAny (model P w) X.A (pyNext (.ref it)) (λr s1=>r=none/\Inv X pins σ H s1) E s
 self:∀(A:Jb)(i:Nat)(s:Shared)(Q:Value->Shared->Prop)(E:Value->Shared->Prop),tn i s.heap->Q (.ref it) s->wpAny (model P w) A (pyIter (.ref it)) Q E s
abbrev TI:=St->Hp->(It->Hp->Prop)->Prop
def PIE(X:Cx)(pins:List (Addr×Obj))(σ:St)(tg:Q3)(R:It->Hp->Prop)(itv:Value)(s2:Shared):Prop:=
 ∃(it:Addr)(fp:List Addr)(tn:Nat->Heap->Prop)(J:It)(H':Hp),itv=.ref it/\Inv X pins σ H' s2/\Turn X.prog X.w X.K tg J fp it tn/\tn 0 s2.heap/\(∀b∈fp,FpOk X pins H' b)/\R J H'
def PI(X:Cx)(tg iter:Q3)(wi:TI):Prop:=
 ∀(pins:List (Addr×Obj))(s:Shared)(σ:St)(H:Hp)(R:It->Hp->Prop),Inv X pins σ H s->wi σ H R ->
  wpAny (model X.prog X.w) X.A (eval iter X.env) (λv s1=>wpAny (model X.prog X.w) X.A (pyIter v) (PIE X pins σ tg R) X.xe s1) X.xe s
theorem QrH{M:Qzm}{A:Jb}{E:Value->Shared->Prop}{s:Shared}{tg:Q3}{it:Addr}{u:Value}{o:Obj}{n:String}{vs:Array Value}{Q:Unit->Shared->Prop}(ho:s.heap.get? it=some o)(hc:o.cls=.type n)(hd:o.data=.fields vs)
  (hn:["enumerate", "zip", "dict_itemiterator", "dict_reverseitemiterator", "odict_iterator", "itertools.zip_longest", "itertools.pairwise"].contains n=false)(hQ:Q () s):wpAny M A (letOwnedTupleGo tg (.ref it) u) Q E s:=by
 unfold letOwnedTupleGo;cases tg<;>first
  |exact Qb hQ
  |(cases u<;>first
    |exact Qb hQ
    |(refine wpAny_bind (wpAny_load ho ?_)
      rw[hc,hd];show wpAny M A (if(["enumerate", "zip", "dict_itemiterator", "dict_reverseitemiterator", "odict_iterator", "itertools.zip_longest", "itertools.pairwise"].contains n&&vs[0]? == some (rawInt _))=true then _ else _) Q E s;rw[if_neg (by intro h;rw[hn,Bool.false_and] at h;cases h)];exact Qb hQ))
def Itl(K:PySem.W.Frag)(a:Addr):It:=
 ⟨λi H=>∃xs x,SqL K H a xs/\xs[i]? = some x,λi H x H'=>H'=H/\∀xs,SqL K H a xs->xs[i]? = some x,λi H=>∃xs,SqL K H a xs/\xs.length<=i⟩
def Itt(K:PySem.W.Frag)(a:Addr):It:=
 ⟨λi H=>∃xs x,SqT K H a xs/\xs[i]? = some x,λi H x H'=>H'=H/\∀xs,SqT K H a xs->xs[i]? = some x,λi H=>∃xs,SqT K H a xs/\xs.length<=i⟩
def Itr(lo:Int)(n:Nat):It:=⟨λi _=>i<n,λi H x H'=>H'=H/\x=.int (lo+i),λi _=>n<=i⟩
theorem Qmi{P:Qz}{w:Ji}{K:PySem.W.Frag}{tg:Q3}(a it:Addr):Turn P w K tg (Itl K a) [it] it (λi h=>h.IsListIter it a i) where
 mem:=by simp
 obj:=λi h st b hb=>by
  have e:b=it:=by simpa using hb
  subst e;obtain⟨o,e,c,d⟩:=st;exact⟨o,e,λv z=>by rw[d] at z;cases z⟩
 keep:=λi h h' st k=>st.at λo e=>k it (by simp) o e
 item:=by
  intro X hP hw hK hc i pins s σ H E I hf st hg;subst hP hw hK;obtain⟨xs,x,hq,hx⟩:=hg;obtain⟨its,rv,p,hz⟩:=I.list hq;obtain⟨u,hu,ru⟩:=rv.get hx;obtain⟨f0,f1,f2,f3,f4,f5⟩:=hf it (by simp);refine wpAny_pyNext_list_item st p.isList (x:=u) (by simpa using hu) λh' st' sb=>?_
  have I1:Inv X pins σ H { s with heap:=h' }:=I.turned (t':=s.toks) (λb o hb e=>(sb.2 b hb).trans e) f0 f1 f3 f4 f5;obtain⟨o,e,c,d⟩:=id st';exact⟨u,rfl,QrH (s:={ s with heap:=h' }) e c d (by decide) ⟨x,H,I1,ru,⟨rfl,λys hy=>by rw[I.list_inj hy hq];exact hx⟩,st',λb hb=>(hf b hb).1⟩⟩
 done:=by
  intro X hP hw hK hc i pins s σ H E I hf st hg;subst hP hw hK;obtain⟨xs,hq,hx⟩:=hg;obtain⟨its,rv,p,hz⟩:=I.list hq;obtain⟨f0,f1,f2,f3,f4,f5⟩:=hf it (by simp);have hl:=rv.length;exact wpAny_pyNext_list_end (I.ok.hd hc) st p.isList (by simp;omega) λh' eb=>⟨rfl,I.turned (t':=s.toks) (λb o hb e=>eb b o hb e) f0 f1 f3 f4 f5⟩
 self:=λ_ _ _ _ _ st h=>wpAny_pyIter_listiter st h
theorem Qle{P:Qz}{w:Ji}{K:PySem.W.Frag}{tg:Q3}(a it:Addr):Turn P w K tg (Itt K a) [it] it (λi h=>h.IsTupleIter it a i) where
 mem:=by simp
 obj:=λi h st b hb=>by
  have e:b=it:=by simpa using hb
  subst e;obtain⟨o,e,c,d⟩:=st;exact⟨o,e,λv z=>by rw[d] at z;cases z⟩
 keep:=λi h h' st k=>st.at λo e=>k it (by simp) o e
 item:=by
  intro X hP hw hK hc i pins s σ H E I hf st hg;subst hP hw hK;obtain⟨xs,x,hq,hx⟩:=hg;obtain⟨its,rv,p,hz⟩:=I.tuple hq;obtain⟨u,hu,ru⟩:=rv.get hx;obtain⟨f0,f1,f2,f3,f4,f5⟩:=hf it (by simp);refine wpAny_pyNext_tuple_item st (show s.heap.IsTuple a its.toArray from p) (x:=u) (by simpa using hu) λh' st' sb=>?_
  have I1:Inv X pins σ H { s with heap:=h' }:=I.turned (t':=s.toks) (λb o hb e=>(sb.2 b hb).trans e) f0 f1 f3 f4 f5;obtain⟨o,e,c,d⟩:=id st';exact⟨u,rfl,QrH (s:={ s with heap:=h' }) e c d (by decide) ⟨x,H,I1,ru,⟨rfl,λys hy=>by rw[I.tuple_inj hy hq];exact hx⟩,st',λb hb=>(hf b hb).1⟩⟩
 done:=by
  intro X hP hw hK hc i pins s σ H E I hf st hg;subst hP hw hK;obtain⟨xs,hq,hx⟩:=hg;obtain⟨its,rv,p,hz⟩:=I.tuple hq;obtain⟨f0,f1,f2,f3,f4,f5⟩:=hf it (by simp);have hl:=rv.length;exact wpAny_pyNext_tuple_end (I.ok.hd hc) st (show s.heap.IsTuple a its.toArray from p) (by simp;omega) λh' eb=>⟨rfl,I.turned (t':=s.toks) (λb o hb e=>eb b o hb e) f0 f1 f3 f4 f5⟩
 self:=λ_ _ _ _ _ st h=>wpAny_pyIter_tupleiter st h
theorem Qlf{P:Qz}{w:Ji}{K:PySem.W.Frag}{tg:Q3}(it:Addr)(lo:Int)(n:Nat):Turn P w K tg (Itr lo n) [it] it (λi h=>Qlb h it (lo+(i:Nat)*1) ((n:Int) - (i:Nat)) 1) where
 mem:=by simp
 obj:=λi h st b hb=>by
  have e:b=it:=by simpa using hb
  subst e;exact⟨_,st,λv z=>by
   have z':Data.fields _=Data.cell v:=z;cases z'⟩
 keep:=λi h h' st k=>k it (by simp) _ st
 item:=by
  intro X hP hw hK hc i pins s σ H E I hf st hg;subst hP hw hK;obtain⟨f0,f1,f2,f3,f4,f5⟩:=hf it (by simp);have W:=Qzb (prog:=X.prog) (w:=X.w) (I.ok.hd hc) it lo 1 n;refine W.item i s _ _ hg st λv h' tk hv st' kk=>?_
  obtain⟨t,rfl⟩:=hv;have I1:Inv X pins σ H { s with heap:=h',toks:=tk }:=I.turned (λb o hb e=>kk b o (by simpa using hb) e) f0 f1 f3 f4 f5;refine⟨_,rfl,QrH (s:={ s with heap:=h',toks:=tk }) (n := "range_iterator") st' rfl rfl (by decide) ⟨.int (lo+i),H,I1,⟨t,?_⟩,⟨rfl,rfl⟩,st',λb hb=>(hf b hb).1⟩⟩;rw[Int.mul_one]
 done:=by
  intro X hP hw hK hc i pins s σ H E I hf st hg;subst hP hw hK;obtain⟨f0,f1,f2,f3,f4,f5⟩:=hf it (by simp);exact Qr5 (I.ok.hd hc) st (by have:n<=i:=hg;omega) λh' eb=>⟨rfl,I.turned (t':=s.toks) (λb o hb e=>eb b o hb e) f0 f1 f3 f4 f5⟩
 self:=λ_ _ _ _ _ st h=>QdI st h
section
variable{X:Cx}{tg:Q3}
def QAl(K:PySem.W.Frag)(tl:TE):TI:=λσ H R=>tl σ H λx H1=>∃a,x=.ref a/\(∃xs,SqL K H1 a xs)/\R (Itl K a) H1
def QBO(K:PySem.W.Frag)(tl:TE):TI:=λσ H R=>tl σ H λx H1=>∃a,x=.ref a/\(∃xs,SqT K H1 a xs)/\R (Itt K a) H1
theorem Qt3{l:Q3}{tl:TE}(hl:PE X l tl):PI X tg l (QAl X.K tl):=by
 intro pins s σ H R I h;refine thn (hl pins s σ H _ I h) λv s1 ⟨x,H1,I1,r1,q1⟩=>?_
 obtain⟨a,e,⟨xs,hq⟩,q⟩:=q1;subst e;cases r1;obtain⟨its,rv,p,hz⟩:=I1.list hq;refine QhB p.isList ?_
 refine⟨s1.heap.objs.size,[s1.heap.objs.size],_,_,H1,rfl,I1.kept (t':=s1.toks) λb o e=>Qe _ e,Qmi a _,⟨_,Qu _ rfl,rfl,rfl⟩,λb hb=>?_,q⟩;have e:b=s1.heap.objs.size:=by simpa using hb
 subst e;exact I1.fpOk (Qi _) (I1.hok.fresh (Qi _))
theorem QwU{l:Q3}{tl:TE}(hl:PE X l tl):PI X tg l (QBO X.K tl):=by
 intro pins s σ H R I h;refine thn (hl pins s σ H _ I h) λv s1 ⟨x,H1,I1,r1,q1⟩=>?_
 obtain⟨a,e,⟨xs,hq⟩,q⟩:=q1;subst e;cases r1;obtain⟨its,rv,p,hz⟩:=I1.tuple hq;refine Y8 (show s1.heap.IsTuple a its.toArray from p) ?_
 refine⟨s1.heap.objs.size,[s1.heap.objs.size],_,_,H1,rfl,I1.kept (t':=s1.toks) λb o e=>Qe _ e,Qle a _,⟨_,Qu _ rfl,rfl,rfl⟩,λb hb=>?_,q⟩;have e:b=s1.heap.objs.size:=by simpa using hb
 subst e;exact I1.fpOk (Qi _) (I1.hok.fresh (Qi _))
theorem QpF{pins:List (Addr×Obj)}{σ:St}{H:Hp}{s:Shared}{R:It->Hp->Prop}{E:Value->Shared->Prop}{lo hi:Int}{t u v:Tok}{tk:Nat}(I:Inv X pins σ H s)(h1 : -(2^62)<=lo)(h2:lo<2^62)(h3 : -(2^62)<=hi)(h4:hi<2^62)
  (q:R (Itr lo (hi - lo).toNat) H):wpAny (model X.prog X.w) X.A (pyIter (.ref s.heap.objs.size)) (PIE X pins σ tg R) E { s with heap:=s.heap.push { cls:=.type "range",data:=.fields #[.int lo t,.int hi u,.int 1 v] },toks:=tk }:=by
 refine wpAny_pyIter_range (IsRange.new ..) (small_one h1 h2 h3 h4) ?_
 have I1:Inv X pins σ H { s with heap:=s.heap.push { cls:=.type "range",data:=.fields #[.int lo t,.int hi u,.int 1 v] },toks:=tk }:=I.kept λb o e=>Qe _ e
 refine⟨(s.heap.push { cls:=.type "range",data:=.fields #[.int lo t,.int hi u,.int 1 v] }).objs.size,[(s.heap.push { cls:=.type "range",data:=.fields #[.int lo t,.int hi u,.int 1 v] }).objs.size],_,_,H,rfl,
  I1.kept (t':=tk) λb o e=>Qe _ e,Qlf _ lo (hi - lo).toNat,?_,λb hb=>?_,q⟩
 ·have e1:lo+((0:Nat):Int)*1=lo:=by simp
  have e2:(((hi - lo).toNat:Nat):Int) - ((0:Nat):Int)=ZH lo hi 1:=by rw[Qo0];split<;>omega
  show Qlb _ _ (lo+((0:Nat):Int)*1) ((((hi - lo).toNat:Nat):Int) - ((0:Nat):Int)) 1;rw[e1,e2];exact Qu _ rfl
 ·have e:b=(s.heap.push { cls:=.type "range",data:=.fields #[.int lo t,.int hi u,.int 1 v] }).objs.size:=by simpa using hb
  subst e;exact I1.fpOk (Qi _) (I1.hok.fresh (Qi _))
def QAk(ta:TA):TI:=λσ H R=>ta σ H λvs H1=>∃j:Int,vs=[.int j] /\ -(2^62)<=j/\j<2^62/\R (Itr 0 j.toNat) H1
theorem Qh0{a:Q3}{ta:TA}{p pos:Pos}(hg:Gl X "range")(hm:X.mg "range" = none)(ha:PA X [a] ta)(hs:starEach [a] X.env=[(false,eval a X.env)]:=by rfl):PI X tg (.Call (.Name "range" p) [a] [] pos) (QAk ta):=by
 intro pins s σ H R I h;refine Call_ (QcN I hg hm boot_range (JM (thn (ha pos pins s σ H _ I h) λus s1 ⟨vs,H1,I1,r1,q1⟩=>?_) hs rfl));obtain⟨j,e,q1,q2,q⟩:=q1;subst e;cases r1 with
 |cons r rr=>
  cases rr;obtain⟨t,rfl⟩:=r;exact call_range_1 (QpF I1 (by omega) (by omega) q1 q2 (by simpa using q))
def tFor(wi:TI)(g:TG)(tb:TS):TS:=λD σ H=>wi σ H λJ H1=>∃W:Nat->Nat->St->Hp->Prop,(∃m,W 0 m σ H1)/\∀i m σ H,W i m σ H ->
 (J.stop i H/\D.nx σ H)∨(J.go i H/\∃N:St->Hp->Prop,(∀σ' H',N σ' H'->∃m',m'<m/\W (i+1) m' σ' H')/\∀x H',J.yld i H x H'->g x σ H' λσ2 H2=>tb { D with nx:=N,ct:=N,bk:=D.nx } σ2 H2)
def Qkn(fp:List Addr)(h:Heap):List (Addr×Obj):=fp.filterMap λb=>(h.get? b).map λo=>(b,o)
theorem Qcv{fp:List Addr}{h:Heap}{b:Addr}{o:Obj}(hb:b∈fp)(e:h.get? b=some o):(b,o)∈Qkn fp h:=Z9.mpr ⟨b,hb,by rw[e];rfl⟩
theorem Qns{fp:List Addr}{h:Heap}{p:Addr×Obj}(hp:p∈Qkn fp h):p.1∈fp/\h.get? p.1=some p.2:=by
 obtain⟨b,hb,e⟩:=Z9.mp hp;cases q:h.get? b with
 |none=>rw[q] at e;cases e
 |some o=>
  rw[q] at e;have e':(b,o)=p:=Qm e;subst e';exact⟨hb,q⟩
theorem Inv.pinned{pins:List (Addr×Obj)}{σ:St}{H:Hp}{s:Shared}{fp:List Addr}(I:Inv X pins σ H s)(hf:∀b∈fp,FpOk X pins H b)(ho:∀b∈fp,∃o,s.heap.get? b=some o/\∀v,o.data≠.cell v):Inv X (pins++Qkn fp s.heap) σ H s:=
 I.pins_of λp hp=>(Ja.mp hp).elim (λz=>I.pin p (Jt _ z)) λz=>by
  obtain⟨hb,e⟩:=Qns z;obtain⟨f0,f1,f2,_⟩:=hf p.1 hb;obtain⟨o,e',d⟩:=ho p.1 hb;rw[e] at e';cases e';exact⟨e,f0,f1,f2,d⟩
theorem Inv.unpinned{pins pl:List (Addr×Obj)}{σ:St}{H:Hp}{s:Shared}(I:Inv X (pins++pl) σ H s):Inv X pins σ H s:=I.pins_of λp hp=>I.pin p (Jt _ (Zr _ hp))
theorem Qsw{iter:Q3}{body:List Y4}{wi:TI}{g:TG}{tb:TS}{pos:Pos}(hp:Qgw (model X.prog X.w) X.A X.env X.xe)(hc:X.calm=true)(hi:PI X tg iter wi)(hg:PG X tg g)(hb:PSs X body tb)
  (hs:∀x,foldedSetIterable iter X.env x=pure x:=by intro _;rfl):PS X (.For tg iter body [] pos) (tFor wi g tb):=by
 intro pins s σ H D I h;refine wpAny_For (thn (hi pins s σ H _ I h) λv s1 h1=>thn h1 λitv s2 h2=>?_) hs;obtain⟨it,fp,tn,J,H2,e,I2,T,st2,f2,W,⟨m0,w0⟩,turn⟩:=h2;subst e;have stat:∀{H':Hp},(∀b∈fp,H' b=none)->∀b∈fp,FpOk X pins H' b:=λhn b hb=>⟨hn b hb,(f2 b hb).2⟩
 refine codeAny_forLoop_any (λn s'=>∃i σ' H',Inv X pins σ' H' s'/\tn i s'.heap/\(∀b∈fp,H' b=none)/\W i n σ' H') ?_ m0 ⟨0,σ,H2,I2,st2,λb hb=>(f2 b hb).1,w0⟩
 rintro n s3 ⟨i,σ3,H3,I3,st3,fr3,w3⟩;rcases turn i n σ3 H3 w3 with⟨stop,qn⟩ | ⟨go,N,hN,step⟩
 ·refine Qam hp (thn (T.done X rfl rfl rfl hc i pins s3 σ3 H3 X.xe I3 (stat fr3) st3 stop) λr s4 ⟨hr,I4⟩=>?_);subst hr;exact Qen ⟨σ3,H3,I4,qn⟩
 ·refine Qam hp (thn (T.item X rfl rfl rfl hc i pins s3 σ3 H3 X.xe I3 (stat fr3) st3 go) λr s4 ⟨u,hr,h4⟩=>?_);subst hr;refine Qam hp (thn h4 λ_ s5 ⟨x,H5,I5,r5,y5,st5,fr5⟩=>?_);have I5':=I5.pinned (stat fr5) (T.obj _ _ st5);refine Qam hp (thn (hg _ s5 σ3 H5 x u _ I5' r5 (step x H5 y5)) λ_ s6 ⟨σ6,H6,I6,q6⟩=>?_);refine Qam hp (thn (hb _ s6 σ6 H6 _ I6 q6) λf s7 q7=>?_);have again:∀{σ7:St}{H7:Hp},Inv X (pins++Qkn fp s5.heap) σ7 H7 s7->N σ7 H7->∃m,m<n/\∃i σ' H',Inv X pins σ' H' s7/\tn i s7.heap/\(∀b∈fp,H' b=none)/\W i m σ' H':=λ{σ7 H7} I7 n7=>by
   obtain⟨m',hm,w7⟩:=hN σ7 H7 n7;refine⟨m',hm,i+1,σ7,H7,I7.unpinned,T.keep _ _ _ st5 λb hb o e=>(I7.pin (b,o) (Jt _ (Jt _ (Qcv hb e)))).1,λb hb=>?_,w7⟩;obtain⟨o,e,d⟩:=T.obj _ _ st5 b hb;exact(I7.pin (b,o) (Jt _ (Jt _ (Qcv hb e)))).2.1
  cases f with
  |next=>obtain⟨σ7,H7,I7,n7⟩:=q7;exact again I7 n7
  |cont=>obtain⟨σ7,H7,I7,n7⟩:=q7;exact again I7 n7
  |brk=>obtain⟨σ7,H7,I7,q7⟩:=q7;exact⟨σ7,H7,I7.unpinned,q7⟩
  |ret v=>obtain⟨x7,σ7,H7,I7,r7,q7⟩:=q7;exact⟨x7,σ7,H7,I7.unpinned,r7,q7⟩
end
theorem QnY{lo:Int}{n:Nat}{g:TG}{tb:TS}{D:Ends}{σ:St}{H:Hp}(Pv:Nat->St->Hp->Prop)(h0:Pv 0 σ H)
  (hs:∀i σ H,i<n->Pv i σ H->g (.int (lo+i)) σ H λσ2 H2=>tb { D with nx:=Pv (i+1),ct:=Pv (i+1),bk:=D.nx } σ2 H2)(hd:∀σ H,Pv n σ H->D.nx σ H) :
  ∃W:Nat->Nat->St->Hp->Prop,(∃m,W 0 m σ H)/\∀i m σ H,W i m σ H ->
   ((Itr lo n).stop i H/\D.nx σ H)∨((Itr lo n).go i H/\∃N:St->Hp->Prop,(∀σ' H',N σ' H'->∃m',m'<m/\W (i+1) m' σ' H')/\∀x H',(Itr lo n).yld i H x H'->g x σ H' λσ2 H2=>tb { D with nx:=N,ct:=N,bk:=D.nx } σ2 H2):=by
 refine⟨λi m σ H=>m=n - i/\i<=n/\Pv i σ H,⟨n,by simp,Qr _,h0⟩,?_⟩;rintro i m σ H ⟨rfl,hi,p⟩;by_cases hlt:i<n
 ·refine .inr ⟨hlt,Pv (i+1),λσ' H' p'=>⟨n - (i+1),by omega,rfl,hlt,p'⟩,λx H' y=>?_⟩;obtain⟨e,y⟩:=y;subst e y;exact hs i σ _ hlt p
 ·have e:i=n:=by omega
  subst e;exact .inl ⟨Qi _,hd σ H p⟩
abbrev R2:=V->V->Hp->VK->Prop
def OpR(X:Cx)(f:Value->Value->Sem Value)(r:R2):Prop:=
 ∀(pins:List (Addr×Obj))(s:Shared)(σ:St)(H:Hp)(x y:V)(v u:Value)(Q:VK),Inv X pins σ H s->RelV x v->RelV y u->r x y H Q ->
  wpAny (model X.prog X.w) X.A (f v u) (EP X pins σ Q) X.xe s
def UnR(X:Cx)(f:Value->Sem Value)(r:V->Hp->VK->Prop):Prop:=
 ∀(pins:List (Addr×Obj))(s:Shared)(σ:St)(H:Hp)(x:V)(v:Value)(Q:VK),Inv X pins σ H s->RelV x v->r x H Q ->
  wpAny (model X.prog X.w) X.A (f v) (EP X pins σ Q) X.xe s
def CallR(X:Cx)(f:Value)(r:List V->Hp->VK->Prop):Prop:=
 ∀(pins:List (Addr×Obj))(s:Shared)(σ:St)(H:Hp)(xs:List V)(us:List Value)(Q:VK),Inv X pins σ H s->Vals xs us->r xs H Q ->
  wpAny (model X.prog X.w) X.A (call f us) (EP X pins σ Q) X.xe s
def QBW(X:Cx)(r:V->Hp->(Bool->Hp->Prop)->Prop):Prop:=
 ∀(pins:List (Addr×Obj))(s:Shared)(σ:St)(H:Hp)(x:V)(v:Value)(Q:Bool->Hp->Prop),Inv X pins σ H s->RelV x v->r x H Q ->
  wpAny (model X.prog X.w) X.A (truthy v) (TP X pins σ Q) X.xe s
def tOp(r:R2)(ta tb:TE):TE:=λσ H Q=>ta σ H λx H1=>tb σ H1 λy H2=>r x y H2 Q
def tUn(r:V->Hp->VK->Prop)(ta:TE):TE:=λσ H Q=>ta σ H λx H1=>r x H1 Q
def rI(C:Int->Int->Prop)(g:Int->Int->V):R2:=λx y H Q=>∃i j,x=.int i/\y=.int j/\C i j/\Q (g i j) H
def rI0(g:Int->Int->V):R2:=λx y H Q=>∃i j,x=.int i/\y=.int j/\Q (g i j) H
def rU(g:Int->V):V->Hp->VK->Prop:=λx H Q=>∃i,x=.int i/\Q (g i) H
section
variable{X:Cx}{a b c:Q3}{ta tb tc:TE}{pos:Pos}
theorem QAD(ha:PE X a ta)(hb:PE X b tb){pins:List (Addr×Obj)}{s:Shared}{σ:St}{H:Hp}{R:V->V->Hp->Prop}(I:Inv X pins σ H s)
  (h:ta σ H λx H1=>tb σ H1 λy H2=>R x y H2){Q:Value->Shared->Prop}{f:Value->Value->Sem Value}
  (hf:∀v u s2 x y H2,Inv X pins σ H2 s2->RelV x v->RelV y u->R x y H2->wpAny (model X.prog X.w) X.A (f v u) Q X.xe s2) :
  wpAny (model X.prog X.w) X.A (eval a X.env) (λv s₁=>wpAny (model X.prog X.w) X.A (eval b X.env) (λu s₂=>wpAny (model X.prog X.w) X.A (f v u) Q X.xe s₂) X.xe s₁) X.xe s:=by
 refine thn (ha pins s σ H _ I h) λv s1 ⟨x,H1,I1,r1,q1⟩=>?_
 refine thn (hb pins s1 σ H1 _ I1 q1) λu s2 ⟨y,H2,I2,r2,q2⟩=>?_
 exact hf v u s2 x y H2 I2 r1 r2 q2
theorem QbT{op:Qdd}{r:R2}(ho:OpR X (binaryOp op) r)(ha:PE X a ta)(hb:PE X b tb):PE X (.BinOp a op b pos) (tOp r ta tb):=by
 intro pins s σ H Q I h;exact wpAny_BinOp (QAD ha hb I h λv u s2 x y H2 I2 rx ry q=>ho pins s2 σ H2 x y v u Q I2 rx ry q)
theorem QzT{op:UnaryOp}{r:V->Hp->VK->Prop}(ho:UnR X (unaryOp op) r)(ha:PE X a ta):PE X (.UnaryOp op a pos) (tUn r ta):=by
 intro pins s σ H Q I h;exact UnaryOp_ (thn (ha pins s σ H _ I h) λv s1 ⟨x,H1,I1,r1,q1⟩=>ho pins s1 σ H1 x v Q I1 r1 q1)
theorem opI{f:Value->Value->Sem Value}{C:Int->Int->Prop}{g:Int->Int->Int}
  (rule:∀(i j:Int)(t u:Tok)(s:Shared)(Q:Value->Shared->Prop)(E:Value->Shared->Prop),C i j->Q (.int (g i j) s.toks) { s with toks:=s.toks+1 }->wpAny (model X.prog X.w) X.A (f (.int i t) (.int j u)) Q E s) :
  OpR X f (rI C λi j=>.int (g i j)):=by
 intro pins s σ H x y v u Q I rx ry h;obtain⟨i,j,rfl,rfl,hc,q⟩:=h;obtain⟨t,rfl⟩:=rx;obtain⟨t',rfl⟩:=ry;exact rule i j t t' s _ _ hc ⟨.int (g i j),H,I.tok _,⟨_,rfl⟩,q⟩
theorem QyZ{f:Value->Value->Sem Value}{g:Int->Int->Int}
  (rule:∀(i j:Int)(t u:Tok)(s:Shared)(Q:Value->Shared->Prop)(E:Value->Shared->Prop),Q (.int (g i j) s.toks) { s with toks:=s.toks+1 }->wpAny (model X.prog X.w) X.A (f (.int i t) (.int j u)) Q E s) :
  OpR X f (rI0 λi j=>.int (g i j)):=by
 intro pins s σ H x y v u Q I rx ry h;obtain⟨i,j,rfl,rfl,q⟩:=h;obtain⟨t,rfl⟩:=rx;obtain⟨t',rfl⟩:=ry;exact rule i j t t' s _ _ ⟨.int (g i j),H,I.tok _,⟨_,rfl⟩,q⟩
theorem Qy0{f:Value->Value->Sem Value}{g:Int->Int->Bool}
  (rule:∀(i j:Int)(t u:Tok)(s:Shared)(Q:Value->Shared->Prop)(E:Value->Shared->Prop),Q (.bool (g i j)) s->wpAny (model X.prog X.w) X.A (f (.int i t) (.int j u)) Q E s) :
  OpR X f (rI0 λi j=>.bl (g i j)):=by
 intro pins s σ H x y v u Q I rx ry h;obtain⟨i,j,rfl,rfl,q⟩:=h;obtain⟨t,rfl⟩:=rx;obtain⟨t',rfl⟩:=ry;exact rule i j t t' s _ _ ⟨.bl (g i j),H,I,rfl,q⟩
def QBs(i j:Int):Prop:=0<=j/\j<=1000000/\i.natAbs<2^64
def CMul(i j:Int):Prop:=(-(2^64)<i/\i<2^64)∨(-(2^64)<j/\j<2^64)
theorem CMul.ok{i j:Int}(h:CMul i j):IntMulOk i j:=by
 rcases h with⟨h1,h2⟩ | ⟨h1,h2⟩
 ·exact .of_left (intBits_le_64 h1 h2)
 ·exact .of_right (intBits_le_64 h1 h2)
theorem Qf8:OpR X (binaryOp .Add) (rI0 λi j=>.int (i+j)):=QyZ λ_ _ _ _ _ _ _ q=>add_int q
theorem Qdr:OpR X (binaryOp .Sub) (rI0 λi j=>.int (i - j)):=QyZ λ_ _ _ _ _ _ _ q=>sub_int q
theorem Qf7:OpR X (binaryOp .Mult) (rI CMul λi j=>.int (i*j)):=opI λ_ _ _ _ _ _ _ hc q=>mul_int q hc.ok
theorem Qh3:OpR X (binaryOp .Mod) (rI (λ_ j=>0<j) λi j=>.int (i % j)):=opI λi j _ _ _ _ _ hc q=>by
 have h1:(0:Int)<j:=hc;exact mod_int' (by omega) (by rw[Int.fmod_eq_emod_of_nonneg i (by omega)];exact q)
theorem QsC:OpR X (binaryOp .Pow) (rI QBs λi j=>.int (i^j.toNat)):=opI λ_ _ _ _ _ _ _ hc q=>pow_int_small hc.1 hc.2.1 hc.2.2 q
theorem Qkp:OpR X (binaryOp .LShift) (rI QBs λi j=>.int (i*2^j.toNat)):=opI λ_ _ _ _ _ _ _ hc q=>lshift_int_small hc.1 hc.2.1 hc.2.2 q
theorem Qxu:OpR X (binaryOp .BitAnd) (rI0 λi j=>.int (Qc7 i j)):=QyZ λ_ _ _ _ _ _ _ q=>and_int q
theorem Qz1:OpR X (binaryOp .BitOr) (rI0 λi j=>.int (QdO i j)):=QyZ λ_ _ _ _ _ _ _ q=>or_int q
theorem unI{f:Value->Sem Value}{g:Int->Int}
  (rule:∀(i:Int)(t:Tok)(s:Shared)(Q:Value->Shared->Prop)(E:Value->Shared->Prop),Q (.int (g i) s.toks) { s with toks:=s.toks+1 }->wpAny (model X.prog X.w) X.A (f (.int i t)) Q E s) :
  UnR X f (rU λi=>.int (g i)):=by
 intro pins s σ H x v Q I rx h;obtain⟨i,rfl,q⟩:=h;obtain⟨t,rfl⟩:=rx;exact rule i t s _ _ ⟨.int (g i),H,I.tok _,⟨_,rfl⟩,q⟩
theorem Qv5:UnR X (unaryOp .USub) (rU λi=>.int (-i)):=unI λ_ _ _ _ _ q=>neg_int q
end
def QAO:V->V->Bool
 |.non,.non=>true | .non,.int _=>true | .int _,.non=>true | .non,.bl _=>true | .bl _,.non=>true | .non,.str _=>true | .str _,.non=>true
 |.int _,.int _=>true | .bl _,.bl _=>true | .str _,.str _=>true | .byt _,.byt _=>true
 |.int _,.str _=>true | .str _,.int _=>true | .bl _,.str _=>true | .str _,.bl _=>true
 |_,_=>false
def rEq:R2:=λx y H Q=>QAO x y=true/\Q (.bl (decide (x=y))) H
def rNe:R2:=λx y H Q=>QAO x y=true/\Q (.bl (!decide (x=y))) H
theorem Qod{i j:Int}:decide (V.int i=V.int j)=(i == j):=by
 rw[Y3];simp
theorem QsY{i j:Bool}:decide (V.bl i=V.bl j)=(i == j):=by
 rw[Y3];simp
theorem Qoc{i j:Str}:decide (V.str i=V.str j)=(i == j):=by
 rw[Y3];simp
theorem Qoe{i j:Array UInt8}:decide (V.byt i=V.byt j)=(i.toList == j.toList):=by
 rw[Y3];cases i;cases j;simp
section
variable{X:Cx}{a b c:Q3}{ta tb tc:TE}{pos:Pos}
theorem ZP{pins:List (Addr×Obj)}{σ:St}{H:Hp}{s:Shared}{Q:VK}{k k':Bool}(I:Inv X pins σ H s)(q:Q (.bl k) H)(e:k=k'):EP X pins σ Q (.bool k') s:=by
 subst e;exact⟨.bl k,H,I,rfl,q⟩
theorem Qz3:OpR X (compareOp .Eq) rEq:=by
 intro pins s σ H x y v u Q I rx ry h;obtain⟨hs,q⟩:=h;cases x with
 |non=>
  cases rx;cases y with
  |non=>cases ry;exact PySem.EqNone.eq_none_none (ZP I q (by simp))
  |bl j=>cases ry;exact PySem.EqNone.eq_none_bool (ZP I q (by simp))
  |int j=>obtain⟨t',rfl⟩:=ry;exact PySem.EqNone.eq_none_int (ZP I q (by simp))
  |str j=>obtain⟨t',rfl⟩:=ry;exact PySem.EqNone.eq_none_str (ZP I q (by simp))
  |_=>exact absurd (show false=true from hs) Qv
 |bl i=>
  cases rx;cases y with
  |non=>cases ry;exact PySem.EqNone.eq_bool_none (ZP I q (by simp))
  |bl j=>cases ry;exact eq_bool (ZP I q QsY)
  |str j=>obtain⟨t',rfl⟩:=ry;exact PySem.EqMixed.eq_bool_str (ZP I q (by simp))
  |_=>exact absurd (show false=true from hs) Qv
 |int i=>
  obtain⟨t,rfl⟩:=rx;cases y with
  |non=>cases ry;exact PySem.EqNone.eq_int_none (ZP I q (by simp))
  |int j=>obtain⟨t',rfl⟩:=ry;exact eq_int (ZP I q Qod)
  |str j=>obtain⟨t',rfl⟩:=ry;exact PySem.EqMixed.eq_int_str (ZP I q (by simp))
  |_=>exact absurd (show false=true from hs) Qv
 |str i=>
  obtain⟨t,rfl⟩:=rx;cases y with
  |non=>cases ry;exact PySem.EqNone.eq_str_none (ZP I q (by simp))
  |bl j=>cases ry;exact PySem.EqMixed.eq_str_bool (ZP I q (by simp))
  |int j=>obtain⟨t',rfl⟩:=ry;exact PySem.EqMixed.eq_str_int (ZP I q (by simp))
  |str j=>obtain⟨t',rfl⟩:=ry;exact eq_str (ZP I q Qoc)
  |_=>exact absurd (show false=true from hs) Qv
 |byt i=>
  obtain⟨t,rfl⟩:=rx;cases y with
  |byt j=>obtain⟨t',rfl⟩:=ry;exact PySem.W.eq_bytes (ZP I q Qoe)
  |_=>exact absurd (show false=true from hs) Qv
 |_=>cases y<;>exact absurd (show false=true from hs) Qv
theorem Qz2:OpR X (compareOp .NotEq) rNe:=by
 intro pins s σ H x y v u Q I rx ry h;obtain⟨hs,q⟩:=h;cases x with
 |non=>
  cases rx;cases y with
  |non=>cases ry;exact PySem.EqNone.ne_none_none (ZP I q (by simp))
  |bl j=>cases ry;exact PySem.EqNone.ne_none_bool (ZP I q (by simp))
  |int j=>obtain⟨t',rfl⟩:=ry;exact PySem.EqNone.ne_none_int (ZP I q (by simp))
  |str j=>obtain⟨t',rfl⟩:=ry;exact PySem.EqNone.ne_none_str (ZP I q (by simp))
  |_=>exact absurd (show false=true from hs) Qv
 |bl i=>
  cases rx;cases y with
  |non=>cases ry;exact PySem.EqNone.ne_bool_none (ZP I q (by simp))
  |bl j=>cases ry;exact ne_bool (ZP I q (congrArg not QsY))
  |str j=>obtain⟨t',rfl⟩:=ry;exact PySem.EqMixed.ne_bool_str (ZP I q (by simp))
  |_=>exact absurd (show false=true from hs) Qv
 |int i=>
  obtain⟨t,rfl⟩:=rx;cases y with
  |non=>cases ry;exact PySem.EqNone.ne_int_none (ZP I q (by simp))
  |int j=>obtain⟨t',rfl⟩:=ry;exact ne_int (ZP I q (congrArg not Qod))
  |str j=>obtain⟨t',rfl⟩:=ry;exact PySem.EqMixed.ne_int_str (ZP I q (by simp))
  |_=>exact absurd (show false=true from hs) Qv
 |str i=>
  obtain⟨t,rfl⟩:=rx;cases y with
  |non=>cases ry;exact PySem.EqNone.ne_str_none (ZP I q (by simp))
  |bl j=>cases ry;exact PySem.EqMixed.ne_str_bool (ZP I q (by simp))
  |int j=>obtain⟨t',rfl⟩:=ry;exact PySem.EqMixed.ne_str_int (ZP I q (by simp))
  |str j=>obtain⟨t',rfl⟩:=ry;exact ne_str (ZP I q (congrArg not Qoc))
  |_=>exact absurd (show false=true from hs) Qv
 |byt i=>
  obtain⟨t,rfl⟩:=rx;cases y with
  |byt j=>obtain⟨t',rfl⟩:=ry;exact PySem.W.ne_bytes (ZP I q (congrArg not Qoe))
  |_=>exact absurd (show false=true from hs) Qv
 |_=>cases y<;>exact absurd (show false=true from hs) Qv
theorem QuC:OpR X (compareOp .Lt) (rI0 λi j=>.bl (decide (i<j))):=Qy0 λ_ _ _ _ _ _ _ q=>lt_int q
theorem Qrf:OpR X (compareOp .LtE) (rI0 λi j=>.bl (decide (i<=j))):=Qy0 λ_ _ _ _ _ _ _ q=>le_int q
theorem QuF:OpR X (compareOp .Gt) (rI0 λi j=>.bl (decide (j<i))):=Qy0 λ_ _ _ _ _ _ _ q=>gt_int q
theorem QuG:OpR X (compareOp .GtE) (rI0 λi j=>.bl (decide (j<=i))):=Qy0 λ_ _ _ _ _ _ _ q=>ge_int q
theorem QuA:OpR X (compareOp .IsNot) (λx y H Q=>y=.non/\Q (.bl (!decide (x=.non))) H):=by
 intro pins s σ H x y v u Q I rx ry h;obtain⟨rfl,q⟩:=h;cases ry;refine isnot_none_gen (ZP I q ?_);cases x<;>first
  |(cases rx;rfl)
  |(obtain⟨t,rfl⟩:=rx;rfl)
theorem OpR.or{f:Value->Value->Sem Value}{r r':R2}(h:OpR X f r)(h':OpR X f r'):OpR X f (λx y H Q=>r x y H Q∨r' x y H Q):=by
 intro pins s σ H x y v u Q I rx ry q;rcases q with q | q
 ·exact h pins s σ H x y v u Q I rx ry q
 ·exact h' pins s σ H x y v u Q I rx ry q
theorem Yc(b:Q3){op:Qtm}(h:op≠.In:=by decide)(h2:op≠.NotIn:=by decide):behindInMarks op b=false:=by
 have e1:(op == CmpOp.In)=false:=by cases op<;>first | rfl | exact absurd rfl h
 have e2:(op == CmpOp.NotIn)=false:=by cases op<;>first | rfl | exact absurd rfl h2
 cases b<;>simp[behindInMarks,e1,e2]
theorem Qua{op:Qtm}{r:R2}(ho:OpR X (compareOp op) r)(ha:PE X a ta)(hb:PE X b tb)(hm:behindInMarks op b=false):PE X (.Compare a [op] [b] pos) (tOp r ta tb):=by
 intro pins s σ H Q I h;exact wpAny_Compare1 (QAD ha hb I h λv u s2 x y H2 I2 rx ry q=>ho pins s2 σ H2 x y v u Q I2 rx ry q) hm
def Qzz(t:TE):TT:=λσ H Q=>t σ H λx H'=>∃k,x=.bl k/\Q k H'
theorem Qjg{op:Qtm}{r:R2}(ho:OpR X (compareOp op) r)(ha:PE X a ta)(hb:PE X b tb)(hm:behindInMarks op b=false):PT X (.Compare a [op] [b] pos) (Qzz (tOp r ta tb)):=by
 intro pins s σ H Q I h;refine wpAny_isTrue_Compare1 (thn (ha pins s σ H _ I h) λv s1 ⟨x,H1,I1,r1,q1⟩=>thn (hb pins s1 σ H1 _ I1 q1) λu s2 ⟨y,H2,I2,r2,q2⟩=>
  thn (ho pins s2 σ H2 x y v u _ I2 r1 r2 q2) λc s3 ⟨z,H3,I3,r3,k,e,q3⟩=>?_) hm
 subst e;cases r3;exact ZL ⟨H3,I3,q3⟩
def Qsl(r r':R2)(ta tb tc:TE):TE:=λσ H Q=>ta σ H λx H1=>tb σ H1 λy H2=>r x y H2 λz H3=>∃k,z=.bl k /\
 (if k=true then tc σ H3 λw' H4=>r' y w' H4 Q else Q (.bl false) H3)
theorem QpT{op op':Qtm}{r r':R2}(ho:OpR X (compareOp op) r)(ho':OpR X (compareOp op') r')(ha:PE X a ta)(hb:PE X b tb)(hc:PE X c tc)
  (hm:lastMarks [op,op'] [b,c]=false:=by with_unfolding_all rfl):PE X (.Compare a [op,op'] [b,c] pos) (Qsl r r' ta tb tc):=by
 intro pins s σ H Q I h;refine Compare_chain (thn (ha pins s σ H _ I h) λv s1 ⟨x,H1,I1,r1,q1⟩=>chain_link (thn (hb pins s1 σ H1 _ I1 q1) λu s2 ⟨y,H2,I2,r2,q2⟩=>
  thn (ho pins s2 σ H2 x y v u _ I2 r1 r2 q2) λd s3 ⟨z,H3,I3,r3,k,e,q3⟩=>?_)) hm
 subst e;cases r3;refine ZL ?_
 cases k with
 |false=>exact ite_ff ⟨.bl false,H3,I3,rfl,q3⟩
 |true=>exact ite_tt (chain_last (thn (hc pins s3 σ H3 _ I3 q3) λw' s4 ⟨z',H4,I4,r4,q4⟩=>ho' pins s4 σ H4 y z' u w' Q I4 r2 r4 q4))
def QAG(K:PySem.W.Frag)(x:V)(H:Hp)(k:Bool):Prop:=
 match x with
 |.non=>k=false
 |.bl b=>k=b
 |.int i=>k=(i != 0)
 |.str y=>y.length<=sizeLine/\k=((y.length:Int) != 0)
 |.byt y=>y.size<=sizeLine/\k=((y.size:Int) != 0)
 |.ref p=>(∃xs,SqL K H p xs/\k = !xs.isEmpty)∨(∃xs,SqT K H p xs/\k = !xs.isEmpty)∨∃kvs,H p=some (.dK kvs)/\k = !kvs.isEmpty
 |_=>False
theorem QlJ{κ:Type}{kvs:List (κ×V)}{vs:List (κ×Value)}(r:KV kvs vs):(!vs.isEmpty) = !kvs.isEmpty:=by
 cases r<;>rfl
theorem Qgj{xs:List V}{its:List Value}(r:Vals xs its):(!its.toArray.isEmpty) = !xs.isEmpty:=by
 cases r<;>simp
theorem Qge:(sizeLine:Nat)<2^63:=by rw[Z5];decide
theorem Qv9:QBW X (λx H Q=>∃k,QAG X.K x H k/\Q k H):=by
 intro pins s σ H x v Q I rx h;obtain⟨k,e,q⟩:=h;have hl:=Qge;have hs:sizeLine=16777216:=Z5;cases x with
 |non=>
  cases rx;have e':k=false:=e;subst e';exact truthy_none ⟨H,I,q⟩
 |bl b=>
  cases rx;have e':k=b:=e;subst e';exact ZL ⟨H,I,q⟩
 |int i=>
  obtain⟨t,rfl⟩:=rx;have e':k=(i != 0):=e;subst e';exact PySem.P.truthy_int ⟨H,I,q⟩
 |str y=>
  obtain⟨t,rfl⟩:=rx;obtain⟨hy,e'⟩:y.length<=sizeLine/\k=((y.length:Int) != 0):=e;subst e';exact PySem.P.truthy_str (by omega) ⟨H,I.tok _,q⟩
 |byt y=>
  obtain⟨t,rfl⟩:=rx;obtain⟨hy,e'⟩:y.size<=sizeLine/\k=((y.size:Int) != 0):=e;subst e';exact PySem.W.truthy_bytes (by omega) ⟨H,I.tok _,q⟩
 |ref p=>
  cases rx;have e':(∃xs,SqL X.K H p xs/\k = !xs.isEmpty)∨(∃xs,SqT X.K H p xs/\k = !xs.isEmpty)∨∃kvs,H p=some (.dK kvs)/\k = !kvs.isEmpty:=e
  rcases e' with⟨xs,hx,e'⟩ | ⟨xs,hx,e'⟩ | ⟨kvs,hx,e'⟩
  ·subst e';obtain⟨its,r,pl,hz⟩:=I.list hx;have hlen:=r.length;exact wpAny_truthy_list pl.isList (by simp only[Ql];omega) ⟨H,I.tok _,by rw[Qgj r];exact q⟩
  ·subst e';obtain⟨its,r,pl,hz⟩:=I.tuple hx;have hlen:=r.length;exact truthy_tuple pl (by simp only[Ql];omega) ⟨H,I.tok _,by rw[Qgj r];exact q⟩
  ·subst e';obtain⟨hz,hS,vs,r,m⟩:kvs.length<=sizeLine/\(p == sysModules)=false/\∃vs,KV kvs vs/\s.heap.DictOf (mixKind X.prog X.w) p vs:=I.hok p _ hx
   have hlen:kvs.length=vs.length:=QvK r;exact wpAny_truthy_dict hS m (by omega) ⟨H,I.tok _,by rw[QlJ r];exact q⟩
 |_=>exact(show False from e).elim
theorem QpI(ha:PE X a ta)(he:∀whole,isTrue a X.env whole=(do let v <- whole;standAt a.pos;holding [v] (truthy v))) :
  PT X a (λσ H Q=>ta σ H λx H'=>∃k,QAG X.K x H' k/\Q k H'):=by
 intro pins s σ H Q I h;exact isTrue_plain (thn (ha pins s σ H _ I h) λv s1 ⟨x,H1,I1,r1,q1⟩=>Qv9 pins s1 σ H1 x v Q I1 r1 q1) (he _)
theorem vals1{x:V}{us:List Value}(r:Vals [x] us):∃u,us=[u]/\RelV x u:=by
 cases r with
 |cons r1 r2=>cases r2;exact⟨_,rfl,r1⟩
theorem vals2{x y:V}{us:List Value}(r:Vals [x,y] us):∃u w',us=[u,w']/\RelV x u/\RelV y w':=by
 cases r with
 |cons r1 r2=>
  cases r2 with
  |cons r3 r4=>cases r4;exact⟨_,_,rfl,r1,r3⟩
theorem Qow(hc:X.calm=true):CallR X (.builtin "max") (λxs H Q=>∃i j,xs=[.int i,.int j]/\Q (.int (if j > i then j else i)) H):=by
 intro pins s σ H xs us Q I r h;obtain⟨i,j,rfl,q⟩:=h;obtain⟨u,w',rfl,⟨t,rfl⟩,⟨t',rfl⟩⟩:=vals2 r;refine max_two_ints (I.ok.hd hc) λh' tk k=>⟨_,H,I.kept k,?_,q⟩
 by_cases hj:j > i
 ·rw[if_pos hj,if_pos hj];exact⟨_,rfl⟩
 ·rw[if_neg hj,if_neg hj];exact⟨_,rfl⟩
theorem Qis(hc:X.calm=true):CallR X (.builtin "min") (λxs H Q=>∃i j,xs=[.int i,.int j]/\Q (.int (if j<i then j else i)) H):=by
 intro pins s σ H xs us Q I r h;obtain⟨i,j,rfl,q⟩:=h;obtain⟨u,w',rfl,⟨t,rfl⟩,⟨t',rfl⟩⟩:=vals2 r;refine min_two_ints (I.ok.hd hc) λh' tk k=>⟨_,H,I.kept k,?_,q⟩
 by_cases hj:j<i
 ·rw[if_pos hj,if_pos hj];exact⟨_,rfl⟩
 ·rw[if_neg hj,if_neg hj];exact⟨_,rfl⟩
end
structure ObjM (h:Heap) (x dx C:Addr) (mA:Str->Option Value):Prop where
 obj:h.get? x=some (PySem.W.instObj C dx)
 ns:h.Ns1 dx mA
 ne:dx≠x
theorem QnD{h:Heap}{dx:Addr}{mA:Str->Option Value}(n:h.Ns1 dx mA):∃od,h.get? dx=some od/\∀name,PySem.W.lookIn name od=some (mA name):=by
 obtain⟨o,es,ep,ho,hd,hk,_,hm⟩:=n;refine⟨o,ho,λname=>?_⟩;have e:=hm name;unfold nsFind findBy at e;rw[<- Array.find?_toList] at e;unfold PySem.W.lookIn;rw[hd]
 dsimp only
 split
 ·rename_i y q
  rw[q] at e;exact congrArg some e
 ·rename_i q
  rw[q] at e;have a:es.toList.any (·.refKey)=false:=by
   rw[List.any_eq_false];intro y hy;obtain⟨z,t,hkey⟩:=hk y (ZO.mp hy);simp[DictEntry.refKey,hkey]
  have a':¬es.toList.any (·.refKey)=true:=by rw[a];exact Qv
  rw[if_neg a'];exact congrArg some e
theorem ObjM.look{h:Heap}{x dx C:Addr}{mA:Str->Option Value}(I:ObjM h x dx C mA):∃od,PySem.W.InstAt h x (PySem.W.instObj C dx) C (some od)/\∀name,PySem.W.lookIn name od=some (mA name):=
 let ⟨od,ho,hl⟩:=QnD I.ns
 ⟨od,⟨I.obj,rfl,rfl,ho⟩,hl⟩
section
variable{prog:Qz}{w:Ji}{A:Jb}{E:Value->Shared->Prop}{s:Shared}{K:PySem.W.Frag}{x dx C f:Addr}{mA:Str->Option Value}{name:Str}{v:Value}
end
section
variable{P:Qz}{w:Ji}{H H':Hp}{h h':Heap}{a C dx:Addr}{fs fs':List (Str×V)}
theorem ins_get(hok:HOk P w H h)(e:H a=some (.ins C dx fs)):∃mA,ObjM h a dx C mA/\(∀f,QAH (fs.lookup f) (mA f))/\PySem.Within mA (fs.map (·.1))/\fs.length<=1000/\H dx=some (.own a):=by
 obtain⟨d,z,ne,ob,mA,n,r,q⟩:=(show ObjOk P w H h a (.ins C dx fs) from hok a _ e);exact⟨mA,⟨ob,n,ne⟩,r,q,z,d⟩
end
structure Cls (K:PySem.W.Frag) (C:Addr):Prop where
 pg:PySem.W.plainGet K C Str.empty=true
 hd:PySem.W.hasDictIn K C=true
 po:PySem.W.plainOver K C=true
 sa:PySem.W.findIn K (.ref C) "__setattr__" = some (some (.builtin "object.__setattr__"))
theorem Cls.get{K:PySem.W.Frag}{C:Addr}(c:Cls K C)(f:Str):PySem.W.plainGet K C f=true:=c.pg
section
variable{X:Cx}{pins:List (Addr×Obj)}{σ:St}{H:Hp}{s:Shared}{a C dx:Addr}{fs:List (Str×V)}{f:Str}{v:V}{A:Jb}{E:Value->Shared->Prop}
end
section
variable{X:Cx}{o e value:Q3}{f:Str}{pos pos' tpos:Pos}{ta tv:TE}
def rAdd:V->V->Hp->VK->Prop:=λx y H Q=>∃i j,x=.int i/\y=.int j/\Q (.int (i+j)) H
end
section
variable{X:Cx}{pins:List (Addr×Obj)}{σ:St}{H:Hp}{s:Shared}{A:Jb}{E:Value->Shared->Prop}{Q:Value->Shared->Prop}{c:Value}{b:Bool}
inductive TyOf (K:PySem.W.Frag) (H:Hp):V->Value->Prop where
 |non:TyOf K H .non (.type "NoneType")
 |bl (x:Bool):TyOf K H (.bl x) (.type "bool")
 |int (i:Int):TyOf K H (.int i) (.type "int")
 |str (x:Str):TyOf K H (.str x) (.type "str")
 |flt (x:UInt64):TyOf K H (.flt x) (.type "float")
 |lst {a:Addr} {xs:List V} (e:H a=some (.lst xs)):TyOf K H (.ref a) (.type "list")
 |frz {a:Addr} {o:Obj} {xs:List V} (e:H a=some (.frz o (.lst xs))):TyOf K H (.ref a) (.type "list")
 |tup {a:Addr} {xs:List V} (e:H a=some (.tup xs)):TyOf K H (.ref a) (.type "tuple")
 |dK {a:Addr} {kvs:List (Key×V)} (e:H a=some (.dK kvs)):TyOf K H (.ref a) (.type "dict")
 |dT {a:Addr} {kvs:List (List Key×V)} (e:H a=some (.dT kvs)):TyOf K H (.ref a) (.type "dict")
 |ins {a C dx:Addr} {fs:List (Str×V)} (e:H a=some (.ins C dx fs)) (cl:Cls K C) (ha:PySem.W.findIn K (.ref C) "__class__" = some (some (.builtin "object.__class__")))
   (hn:PySem.W.specialIn K (.builtin "object.__class__") "__get__" = some (some (.builtin "getset_descriptor.__get__"))) (htk:PySem.W.takesIn K (.builtin "object.__class__")=some true)
   (hm:PySem.W.mroIn K C (.type "object")=some true):TyOf K H (.ref a) (.ref C)
theorem QnL{x:V}{u t:Value}(I:Inv X pins σ H s)(rx:RelV x u)(ty:TyOf X.K H x t)(e:PySem.W.kitOne X.K t c=some b)(h:∀tk,Q (.bool b) { s with toks:=tk }) :
  wpAny (model X.prog X.w) A (call (.builtin "isinstance") [u,c]) Q E s:=by
 cases ty with
 |non=>cases(show u=Jw from rx);exact PySem.W.kia_one PySem.W.kitx_none I.kIn QfC e (λz=>nomatch z) h
 |bl y=>cases(show u=QaQ y from rx);exact PySem.W.kia_one PySem.W.kitx_bool I.kIn QfC e (λz=>nomatch z) h
 |int i=>obtain⟨t,q⟩:=(show ∃t,u=Qer i t from rx);cases q;exact PySem.W.kia_one PySem.W.kitx_int I.kIn QfC e (λz=>nomatch z) h
 |str y=>obtain⟨t,q⟩:=(show ∃t,u=Qtc y t from rx);cases q;exact PySem.W.kia_one PySem.W.kitx_str I.kIn QfC e (λz=>nomatch z) h
 |flt y=>obtain⟨t,q⟩:=(show ∃t,u=Qzd y t from rx);cases q;exact PySem.W.kia_one PySem.W.kitx_float I.kIn QfC e (λz=>nomatch z) h
 |@lst a xs ea=>
  cases(show u=QK a from rx);obtain⟨_,_,n,_,h1⟩:=(show ObjOk X.prog X.w H s.heap a (.lst xs) from I.hok a _ ea);exact PySem.W.kia_one PySem.W.kitx_list I.kIn ⟨_,h1,rfl⟩ e (λz=>nomatch z) h
 |@frz a ob xs ea=>
  cases(show u=QK a from rx);obtain⟨_,_,_,n,_,h1⟩:=(show ObjOk X.prog X.w H s.heap a (.frz ob (.lst xs)) from I.hok a _ ea);exact PySem.W.kia_one PySem.W.kitx_list I.kIn ⟨_,h1,rfl⟩ e (λz=>nomatch z) h
 |@tup a xs ea=>
  cases(show u=QK a from rx);obtain⟨_,_,_,p⟩:=(show ObjOk X.prog X.w H s.heap a (.tup xs) from I.hok a _ ea);obtain⟨o,h1,h2,_⟩:=p;exact PySem.W.kia_one PySem.W.kitx_tuple I.kIn ⟨o,h1,h2⟩ e (λz=>nomatch z) h
 |@dK a kvs ea=>
  cases(show u=QK a from rx);obtain⟨_,_,vs,_,p⟩:=(show ObjOk X.prog X.w H s.heap a (.dK kvs) from I.hok a _ ea);obtain⟨o,es,ep,h1,h2,_⟩:=p;exact PySem.W.kia_one PySem.W.kitx_dict I.kIn ⟨o,h1,h2.1⟩ e (λz=>nomatch z) h
 |@dT a kvs ea=>
  cases(show u=QK a from rx);obtain⟨_,_,xs,_,o,es,ep,h1,h2,_⟩:=(show ObjOk X.prog X.w H s.heap a (.dT kvs) from I.hok a _ ea);exact PySem.W.kia_one PySem.W.kitx_dict I.kIn ⟨o,h1,h2.1⟩ e (λz=>nomatch z) h
 |@ins a C dx fs ea cl ha hn htk hm=>
  cases(show u=QK a from rx);obtain⟨mA,O,_⟩:=ins_get I.hok ea;obtain⟨od,J,_⟩:=O.look;exact PySem.W.kia_one (PySem.W.kitx_own (cl.get _) cl.hd ha hn htk hm) I.kIn J e (λz=>nomatch z) h
end
structure Room (k:Nat) (A:Jb):Prop where
 hd:A.handled=none
 dp:A.depth+3*k+5<recursionLimit
 un:A.units+16*k+200<cLine
theorem Room.mono{j k:Nat}{A:Jb}(r:Room k A)(h:j<=k):Room j A:=⟨r.hd,by have:=r.dp;omega,by have:=r.un;omega⟩
theorem Room.deeper{k:Nat}{A:Jb}(r:Room (k+1) A)(env:Env):Room k (A.deeper env):=
 ⟨r.hd,by have:=r.dp;show A.depth+1+3*k+5<_;omega,by have:=r.un;show A.units+3+16*k+200<_;omega⟩
theorem Room.depth{k:Nat}{A:Jb}(r:Room k A):A.depth<recursionLimit:=by have:=r.dp;omega
def QyU:TA:=λ_ H Q=>Q [] H
def Qi3(ta:TE)(tr:TA):TA:=λσ H Q=>ta σ H λx H1=>tr σ H1 λxs H2=>Q (x::xs) H2
section
variable{X:Cx}{e:Q3}{es:List Q3}{te:TE}{t:TA}{pos:Pos}
theorem YJ:PA X [] QyU:=λ_ _ _ _ H Q I h=>Calls.spliced_nil ⟨[],H,I,.nil,h⟩
theorem Qfb(ha:PE X e te)(hr:PA X es t)(hs:starEach (e::es) X.env=(false,eval e X.env)::starEach es X.env:=by rfl):PA X (e::es) (Qi3 te t):=by
 intro pos pins s σ H Q I h;rw[hs];show wpAny _ _ (spliced ((false,eval e X.env)::backTo pos (starEach es X.env))) _ _ s;refine Calls.spliced_cons (thn (ha pins s σ H _ I h) λu s1 ⟨x,H1,I1,r1,q1⟩=>?_);exact thn (hr pos pins s1 σ H1 _ I1 q1) λus s2 ⟨xs,H2,I2,r2,q2⟩=>⟨x::xs,H2,I2,.cons r1 r2,q2⟩
def QBy(t:TA):TE:=λσ H Q=>t σ H λxs H1=>xs.length<=sizeLine/\∀p,H1 p=none->Q (.ref p) (upd H1 p (.lst xs))
theorem QsA(h:PA X es t):PE X (.List es pos) (QBy t):=by
 intro pins s σ H Q I hq;refine QyC (thn (h pos pins s σ H _ I hq) λus s1 ⟨xs,H1,I1,r,z,q⟩=>⟨by rw[<- r.length];exact z,?_⟩);have hf:H1 s1.heap.objs.size=none:=I1.hok.fresh (Qi _);refine⟨.ref s1.heap.objs.size,upd H1 s1.heap.objs.size (.lst xs),I1.laid (t':=s1.toks) (λb u e=>Qe _ e) (Qi _) ?_,rfl,q _ hf⟩;exact⟨z,us,0,r,Qu _ rfl⟩
end
abbrev Sp:=List V->Hp->VK->XK->Prop
abbrev CXT:=List Env->Hp->Shared->XK->Value->Shared->Prop
structure Env0 (P:Qz) (w:Ji) (K:PySem.W.Frag) (mg:Str->Option Value) (base:Heap) (A:Jb) (outer:List Env) (s:Shared) (H:Hp):Prop where
 frames:A.frames=some outer
 mod:Mod K mg base
 bs:∀b o,base.get? b=some o->s.heap.get? b=some o/\H b=none
 bsz:base.objs.size<=s.heap.objs.size
 funs:s.heap.FunFrames base outer
 frf:∀b∈frs outer,H b=none
 hok:HOk P w H s.heap
 bare:QfI s.gens
def CE(outer:List Env)(P:Qz)(w:Ji)(H:Hp)(s:Shared)(Q:VK)(u:Value)(s':Shared):Prop:=
 ∃v H',s'.os=s.os/\QfI s'.gens/\Un (frs outer) [] H H' s.heap s'.heap/\HOk P w H' s'.heap/\RelV v u/\Q v H'
def CR(CX:CXT)(outer:List Env)(P:Qz)(w:Ji)(H:Hp)(s:Shared)(Q:VK)(E:XK)(r:QyF)(s':Shared):Prop:=
 match r with
 |.ok (.ret u)=>CE outer P w H s Q u s'
 |.ok _=>False
 |.error e=>CX outer H s E e s'
structure FnOk (P:Qz) (w:Ji) (K:PySem.W.Frag) (mg:Str->Option Value) (base:Heap) (CX:CXT) (k:Nat) (f:Addr) (fd:Jd) (ps:List Str) (sp:Sp):Prop where
 len:∀vs H Q E,sp vs H Q E->vs.length=ps.length
 run:∀(A:Jb)(outer:List Env)(s:Shared)(H:Hp)(args:Args)(us:List Value)(vs:List V)(Q:VK)(E:XK),Room k A->Env0 P w K mg base A outer s H->Qo9 s fd args (ps.zip us)->Vals vs us->sp vs H Q E ->
  codeAny (model P w) A (.call (.ref f) args) (CR CX outer P w H s Q E) s
theorem FnOk.imp{P:Qz}{w:Ji}{K:PySem.W.Frag}{mg:Str->Option Value}{base:Heap}{CX:CXT}{k:Nat}{f:Addr}{fd:Jd}{ps:List Str}{sp sp':Sp}(F:FnOk P w K mg base CX k f fd ps sp)
  (h:∀vs H Q E,sp' vs H Q E->sp vs H Q E):FnOk P w K mg base CX k f fd ps sp':=
 ⟨λvs H Q E q=>F.len vs H Q E (h _ _ _ _ q),λA outer s H args us vs Q E hr he hb hv hs=>F.run A outer s H args us vs Q E hr he hb hv (h _ _ _ _ hs)⟩
section
variable{X:Cx}{pins:List (Addr×Obj)}{σ:St}{H:Hp}{s s':Shared}
theorem Inv.env0(I:Inv X pins σ H s):Env0 X.prog X.w X.K X.mg X.base X.A X.stack s H:=
 ⟨I.ok.frames,I.ok.mod,I.bs,Q7 I.ok.bsz I.sz,I.stack,I.stkFree,I.hok,I.bare⟩
theorem Inv.after{Q:VK}{u:Value}(I:Inv X pins σ H s)(h:CE X.stack X.prog X.w H s Q u s'):EP X pins σ Q u s':=by
 obtain⟨v,H',os,bare,un,hok,r,q⟩:=h;obtain⟨hh,g,d,t,os'⟩:=s';obtain rfl:os'=s.os:=os;exact⟨v,H',I.call (h':=hh) (g':=g) (d':=d) (t':=t) (ch:=[]) un hok bare (λb z=>absurd z (by simp)),r,q⟩
end
def Qwg(sp:Sp)(dvs:List V)(E:XK)(t:TA):TE:=λσ H Q=>t σ H λvs H1=>sp (vs++dvs) H1 Q E
def Binds(K:PySem.W.Frag)(fd:Jd)(ps:List Str)(ds:List Value):Prop:=
 ∀(s:Shared)(us:List Value),K.In s.heap->(us++ds).length=ps.length->Qo9 s fd ⟨us,[]⟩ (ps.zip (us++ds))
theorem Binds.all{K:PySem.W.Frag}{fd:Jd}{ps:List Str}(h:∀us:List Value,us.length=ps.length->bindArgs fd ⟨us,[]⟩=pure (ps.zip us)):Binds K fd ps []:=λs us _ hl=>by
 rw[Jz] at hl ⊢;exact .of_eq (h us hl)
def QfA(CX:CXT)(X:Cx)(E:XK):Prop:=∀(pins:List (Addr×Obj))(σ:St)(H:Hp)(s:Shared)(e:Value)(s':Shared),Inv X pins σ H s->CX X.stack H s E e s'->X.xe e s'
section
variable{X:Cx}{CX:CXT}{k:Nat}{f C:Addr}{fd:Jd}{ps:List Str}{sp:Sp}{dvs:List V}{ds:List Value}{E:XK}{x m:Str}{p pos apos:Pos}{e o:Q3}{es:List Q3}{ta:TE}{t:TA}
theorem Qwu{pins:List (Addr×Obj)}{σ:St}{H:Hp}{s:Shared}{Q:VK}{us:List Value}{vs:List V}(F:FnOk X.prog X.w X.K X.mg X.base CX k f fd ps sp)(hr:Room k X.A)(hb:Binds X.K fd ps ds)(hd:Vals dvs ds)(hx:QfA CX X E)
  (I:Inv X pins σ H s)(r:Vals vs us)(h:sp (vs++dvs) H Q E):wpAny (model X.prog X.w) X.A (call (.ref f) us) (EP X pins σ Q) X.xe s:=by
 have r2:Vals (vs++dvs) (us++ds):=r.append hd;have hl:(us++ds).length=ps.length:=by rw[<- r2.length];exact F.len _ _ _ _ h
 refine wpAny_call (Qcm (F.run X.A X.stack s H ⟨us,[]⟩ (us++ds) (vs++dvs) Q E hr I.env0 (hb s us I.kIn hl) r2 h) λr s' hq=>?_);cases r with
 |error e=>exact hx pins σ H s e s' I hq
 |ok fl=>
  cases fl with
  |ret u=>exact I.after hq
  |next=>exact YG hq
  |brk=>exact YG hq
  |cont=>exact YG hq
theorem Qjk(F:FnOk X.prog X.w X.K X.mg X.base CX k f fd ps sp)(hr:Room k X.A)(hg:Gl X x)(hm:X.mg x=some (.ref f))(hk:PySem.W.keepIn X.K (.ref f)=true)(hb:Binds X.K fd ps ds)(hd:Vals dvs ds)(hx:QfA CX X E)
  (ha:PA X (e::es) t)(hdb:(x == ("__debug__" : Str))=false:=by decide)(he:starEach (e::es) X.env=(false,eval e X.env)::starEach es X.env:=by rfl)(hpl:(backTo pos (starEach es X.env)).any (·.1)=false:=by rfl) :
  PE X (.Call (.Name x p) (e::es) [] pos) (Qwg sp dvs E t):=by
 intro pins s σ H Q I h;refine Qcl (QnF I hg hm ?_ hdb);refine PySem.W.callWith_K (h₀:=X.base) I.ok.mod.kin hk (thn (ha pos pins s σ H _ I h) λus s1 ⟨vs,H1,I1,r,q⟩=>⟨I1.kIn,?_⟩) he hpl;exact Qwu F hr hb hd hx I1 r q
end
section
variable{X:Cx}{CX:CXT}{k:Nat}{f C:Addr}{fd:Jd}{ps ks:List Str}{sp:Sp}{E:XK}{x m:Str}{p pos apos kpos:Pos}{e o:Q3}{es:List Q3}{kws:List Qla}{te ta:TE}{t tk:TA}{nm:Option Str}
variable{g:List Value->List Value->List Value}{gV:List V->List V->List V}
end
structure JZ (N P:List Str) (sc:QaR):Prop where
 kind:sc.kind=.function
 co:sc.isCoroutine=false
 gen:sc.isGenerator=false
 nd:N.Nodup
 pre:N.take P.length=P
 par:∀x∈P,sc.names.lookup x=some .local∨sc.names.lookup x=some .cell
 nofree:∀y∈sc.names,y.2≠.free
theorem Qiw{kindOf:Str->Option Qbk}{x:Str}:∀{binds:List (Str×Value)}{m:Str->Option Value},(∀v,(x,v)∉binds)->bindL kindOf binds m x=m x
 |[],_,_=>rfl
 |(n,v)::r,m,h=>by
  unfold bindL;rw[Qiw λw hw=>h w (QH _ hw)];split
  ·have:x≠n:=by rintro rfl;exact h v Jm
   simp[this]
  ·rfl
theorem Qiy{kindOf:Str->Option Qbk}{x:Str}:∀{binds:List (Str×Value)}{m:Str->Option Value},(∀v,(x,v)∉binds)->bindC kindOf binds m x=m x
 |[],_,_=>rfl
 |(n,v)::r,m,h=>by
  unfold bindC;rw[Qiy λw hw=>h w (QH _ hw)];split
  ·rfl
  ·have:x≠n:=by rintro rfl;exact h v Jm
   simp[this]
theorem Qix{kindOf:Str->Option Qbk}{x:Str}{v:Value}:∀{P:List Str}{vs:List Value}{i:Nat}{m:Str->Option Value},P.Nodup->P[i]? = some x->vs[i]? = some v->kindOf x=some .local ->
  bindL kindOf (P.zip vs) m x=some v
 |[],_,_,_,_,h,_,_=>by simp at h
 |_::_,[],_,_,_,_,h,_=>by simp at h
 |p::P,w::vs,0,m,nd,h1,h2,hk=>by
  simp at h1 h2;subst h1;subst h2;show bindL kindOf ((p,w)::P.zip vs) m p=_;unfold bindL;rw[Qiw λv hv=>(QaI.mp nd).1 (Qhu hv).1,if_pos hk];simp
 |p::P,w::vs,i+1,m,nd,h1,h2,hk=>by
  show bindL kindOf ((p,w)::P.zip vs) m x=_;unfold bindL;exact Qix (i:=i) (QaI.mp nd).2 (by simpa using h1) (by simpa using h2) hk
theorem Qiz{kindOf:Str->Option Qbk}{x:Str}{v:Value}:∀{P:List Str}{vs:List Value}{i:Nat}{m:Str->Option Value},P.Nodup->P[i]? = some x->vs[i]? = some v->kindOf x≠some .local ->
  bindC kindOf (P.zip vs) m x=some v
 |[],_,_,_,_,h,_,_=>by simp at h
 |_::_,[],_,_,_,_,h,_=>by simp at h
 |p::P,w::vs,0,m,nd,h1,h2,hk=>by
  simp at h1 h2;subst h1;subst h2;show bindC kindOf ((p,w)::P.zip vs) m p=_;unfold bindC;rw[Qiy λv hv=>(QaI.mp nd).1 (Qhu hv).1,if_neg hk];simp
 |p::P,w::vs,i+1,m,nd,h1,h2,hk=>by
  show bindC kindOf ((p,w)::P.zip vs) m x=_;unfold bindC;exact Qiz (i:=i) (QaI.mp nd).2 (by simpa using h1) (by simpa using h2) hk
def start(N:List Str)(vs:List V):St:=vs.map some++Jl (N.length - vs.length) none
def QoX(CX:CXT)(P:Qz)(w:Ji)(K:PySem.W.Frag)(mg:Str->Option Value)(base:Heap)(N:List Str)(qual:Str)(scope:QaR)(f:Addr)(cd:Value)(A:Jb)(outer:List Env)(s:Shared)(H:Hp)(E:XK):Cx where
 prog:=P
 w:=w
 K:=K
 mg:=mg
 base:=base
 A:=A.deeper (envOfC qual scope s.heap.objs.size f cd)
 N:=N
 s₀:=s
 H₀:=H
 env:=envOfC qual scope s.heap.objs.size f cd
 outer:=outer
 stack:=envOfC qual scope s.heap.objs.size f cd::outer
 ex:=[]
 calm:=true
 fn:=λ_=>true
 pn:=[]
 xe:=λe s'=>wpAny (model P w) (A.deeper (envOfC qual scope s.heap.objs.size f cd)) (leaving (envOfC qual scope s.heap.objs.size f cd) e) (λ_ s''=>CX outer H s E e s'') (λe' s''=>CX outer H s E e' s'') s'
theorem QkZ{sc:QaR}{n:Nat}{x:Str}(h:sc.names.lookup x=some .cell):∃c,(cellsFrom n sc.names []).lookup x=some c:=by
 have q:=PySem.W.cellsFrom_some sc.names n [] (.inl h);exact QhG.mp q
theorem QnN{CX:CXT}{P:Qz}{w:Ji}{K:PySem.W.Frag}{mg:Str->Option Value}{base:Heap}{N ps:List Str}{qual:Str}{scope:QaR}{f:Addr}{cd:Value}{A:Jb}{outer:List Env}{s s1:Shared}{H:Hp}{E:XK}{us:List Value}{vs:List V}
  (S:JZ N ps scope)(hd:A.handled=none)(e0:Env0 P w K mg base A outer s H)(hl:vs.length=ps.length)(r:Vals vs us)
  (x:InCallC s s.heap.objs.size (bindL (envOfC qual scope s.heap.objs.size f cd).kindOf (ps.zip us) λ_=>none) (cellsFrom (s.heap.objs.size+1) scope.names []) (bindC (envOfC qual scope s.heap.objs.size f cd).kindOf (ps.zip us) λ_=>none) s1) :
  Inv (QoX CX P w K mg base N qual scope f cd A outer s H E) [] (start N vs) H s1:=by
 have hpl:ps.length<=N.length:=by have:=congrArg QoU S.pre;rw[JH] at this;omega
 obtain⟨h1,tk,rfl,hk⟩:=x.done;have noA:∀b:Addr,b∉(QoX CX P w K mg base N qual scope f cd A outer s H E).ex:=λb z=>absurd (show b∈([]:List Addr) from z) (by simp)
 refine⟨⟨e0.mod,S.kind,rfl,rfl,Qi _,λy z c h1 h2=>?_,λy hy=>?_,λy c _ h=>?_,λ_=>hd,Around.frames_deeper e0.frames,.inr ⟨rfl,rfl⟩,λb z=>absurd z (noA b),e0.bs,e0.bsz,λb _ _=>noA b,λb z=>absurd z (noA b),e0.funs,e0.frf⟩,
  rfl,e0.bare,Un.kept hk,⟨_,x.toInCall.ns,λi y v h1 h2 h3=>?_⟩,λy c h=>⟨_,x.cell y c h⟩,e0.hok.fresh (Qi _),λy c h=>?_,λp hp=>absurd (show p∈([]:List (Addr×Obj)) from hp) (by simp),e0.hok.kept hk,?_⟩
 ·exact name_of_addr x.apart (PySem.mem_of_lookup h1) (PySem.mem_of_lookup h2)
 ·have hy:scope.names.lookup y=some .cell∨scope.names.lookup y=some .free:=hy;rcases hy with hy | hy
  ·exact QkZ hy
  ·exact absurd rfl (S.nofree _ (PySem.mem_of_lookup hy))
 ·exact Ys (x.above y c (PySem.mem_of_lookup h))
 ·have hi:i<vs.length:=by
   unfold start at h2;by_cases hi:i<vs.length
   ·exact hi
   ·rw[QX (by simpa using hi)] at h2;rw[Yu] at h2;split at h2<;>cases h2
  have ha:vs[i]? = some v:=by
   unfold start at h2;rw[JN (by simpa using hi),Qx] at h2;cases e:vs[i]? with
   |none=>rw[e] at h2;cases h2
   |some a=>rw[e] at h2;cases h2;rfl
  obtain⟨u,hu,rv⟩:=r.get ha;have hp:ps[i]? = some y:=by
   rw[<- S.pre,QiT (by omega)];exact h1
  have ndP:ps.Nodup:=by rw[<- S.pre];exact S.nd.sublist (Qb9 _ _)
  refine⟨u,rv,?_⟩;rcases S.par y (QQ hp) with k | k
  ·exact .inl ⟨k,Qix ndP hp hu k⟩
  ·obtain⟨c,e⟩:=QkZ (n:=s.heap.objs.size+1) k;refine .inr ⟨.inl k,c,e,?_⟩;have q:=x.cell y c e;rw[Qiz ndP hp hu (by show scope.names.lookup y≠_;rw[k];decide)] at q;exact q
 ·exact e0.hok.fresh (Ys (x.above y c (PySem.mem_of_lookup h)))
 ·unfold start;show _=N.length;rw[Qs,Qh,Qa1];omega
theorem QAo{CX:CXT}{P:Qz}{w:Ji}{K:PySem.W.Frag}{mg:Str->Option Value}{base:Heap}{k:Nat}{f:Addr}{name qual:Str}{params:Arguments}{body:List Y4}{scope:QaR}{dV kV doc pm cdv ct oc:Value}{an od:Option Addr}
  {osl:Array (Option Value)} {N ps:List Str} {sp:Sp} (lk:K.lookup f=some ⟨oc,od,.func (PySem.W.fnOf name qual params body scope dV kV doc pm an cdv ct),osl⟩) (hcd:PySem.W.codeIn K cdv qual=true) (S:JZ N ps scope)
  (len:∀vs H Q E,sp vs H Q E->vs.length=ps.length)
  (hbody:∀(A:Jb)(outer:List Env)(s:Shared)(H:Hp)(vs:List V)(Q:VK)(E:XK),Room k (A.deeper (envOfC qual scope s.heap.objs.size f cdv))->sp vs H Q E ->
   ∃t,PSs (QoX CX P w K mg base N qual scope f cdv A outer s H E) body t/\t { nx:=λ_ H'=>Q .non H',rt:=Q } (start N vs) H) :
  FnOk P w K mg base CX (k+1) f (PySem.W.fnOf name qual params body scope dV kV doc pm an cdv ct) ps sp:=by
 refine⟨len,λA outer s H args us vs Q E hr e0 hb r hsp=>?_⟩;have hl:=len _ _ _ _ hsp;have KX:K.In s.heap:=e0.mod.kin.keeps λb o e=>(e0.bs b o e).1
 have lim:s.heap.NoLimit:=e0.mod.nolimit.keeps λb o e=>(e0.bs b o e).1
 have hkind:∀y∈ps.zip us,scope.names.lookup y.1=some .local∨(scope.names.lookup y.1=some .cell/\((cellsFrom (s.heap.objs.size+1) scope.names []).lookup y.1).isSome=true):=λ⟨n,v⟩ hy=>by
  rcases S.par n (Qhu hy).1 with q | q
  ·exact .inl q
  ·exact .inr ⟨q,PySem.W.cellsFrom_some _ _ _ (.inl q)⟩
 refine codeAny_call_function hr.depth (KX _ _ lk) rfl S.co S.gen rfl (PySem.W.codeRec_of KX hcd) (hb _ _ _ _ ?_);refine wpAny_newFunctionEnv_cells S.kind hkind λenv he s1 x=>?_
 subst he;refine⟨lim.keeps x.toInCall.keep,codeAny_func ?_⟩;obtain⟨t,ht,hq⟩:=hbody A outer s H vs Q E (hr.deeper _) hsp;have I:Inv (QoX CX P w K mg base N qual scope f cdv A outer s H E) [] (start N vs) H s1:=QnN S hr.hd e0 hl r x;refine wpAny_mono (ht [] s1 (start N vs) H _ I hq) (λfl s' hs=>?_) λe s' hs=>hs
 have fin:∀{σ':St}{H':Hp}{v:V}{u:Value},Inv (QoX CX P w K mg base N qual scope f cdv A outer s H E) [] σ' H' s'->RelV v u->Q v H'->CE outer P w H s Q u s':=
  λ{σ' H' v u} J rv q=>⟨v,H',J.os,J.bare,J.base,J.hok,rv,q⟩
 cases fl with
 |ret u=>
  obtain⟨v,σ',H',J,rv,q⟩:=hs;exact fin J rv q
 |next=>
  obtain⟨σ',H',J,q⟩:=hs;exact fin (v:=V.non) (u:=Jw) J rfl q
 |brk=>
  obtain⟨_,_,_,q⟩:=hs;exact YG q
 |cont=>
  obtain⟨_,_,_,q⟩:=hs;exact YG q
section
variable{X:Cx}{x:Str}{p pos:Pos}{e:Q3}{es:List Q3}{t:TA}{id T:String}{r:List V->Hp->VK->Prop}
def tCB(r:List V->Hp->VK->Prop)(t:TA):TE:=λσ H Q=>t σ H λvs H1=>r vs H1 Q
theorem Qct(hc:CallR X (.builtin id) r)(hg:Gl X x)(hm:X.mg x=none)(hv:bootBuiltins x=some (.builtin id))(ha:PA X (e::es) t)(hn:x ≠ "__name__" := by decide)(hdb:(x == ("__debug__" : Str))=false:=by decide)
  (he:starEach (e::es) X.env=(false,eval e X.env)::starEach es X.env:=by rfl)(hpl:(backTo pos (starEach es X.env)).any (·.1)=false:=by rfl):PE X (.Call (.Name x p) (e::es) [] pos) (tCB r t):=by
 intro pins s σ H Q I h;refine Qcl (QcN I hg hm hv ?_ hn hdb);exact PyProof.Rows.callWith_builtin1 (thn (ha pos pins s σ H _ I h) λus s1 ⟨vs,H1,I1,r1,q1⟩=>hc pins s1 σ H1 vs us Q I1 r1 q1) he hpl
theorem Qe9(hc:CallR X (.type T) r)(hg:Gl X x)(hm:X.mg x=none)(hv:bootBuiltins x=some (.type T))(ha:PA X (e::es) t)(hn:x ≠ "__name__" := by decide)(hdb:(x == ("__debug__" : Str))=false:=by decide)
  (he:starEach (e::es) X.env=(false,eval e X.env)::starEach es X.env:=by rfl)(hpl:(backTo pos (starEach es X.env)).any (·.1)=false:=by rfl):PE X (.Call (.Name x p) (e::es) [] pos) (tCB r t):=by
 intro pins s σ H Q I h;refine Qcl (QcN I hg hm hv ?_ hn hdb);exact JM (thn (ha pos pins s σ H _ I h) λus s1 ⟨vs,H1,I1,r1,q1⟩=>hc pins s1 σ H1 vs us Q I1 r1 q1) he hpl
end
end L2
namespace HT
theorem QpE(A:Jb)(s:Shared)(a:Int)(t:Tok)(c:Int)(u:Tok)(prog:Qz)(w:Ji)(E:Value->Shared->Prop)(Q:Value->Shared->Prop)(h:Q (.bool (decide (a<c))) s) :
  wpAny (model prog w) A (richCompare .Lt (.int a t) (.int c u)) Q E s:=
 (PyProof.Rows.lt_int h:wpAny (model prog w) A (compareOp .Lt (.int a t) (.int c u)) Q E s)
section
open PySem.SeqAt
open PySem.AutoSeq1 (wpAny_loadPart')
open PySem.MeetsSeq PySem.MeetsSeq2 PySem.MeetsSeq3
end
section
variable{prog:Qz}{w:Ji}{A:Jb}{E:Value->Shared->Prop}{s:Shared}
theorem QvA{t b:Addr}{vs ws:List Value}{Q:Value->Shared->Prop}(ht:IsTup s.heap t vs.toArray)(hb:IsTup s.heap b ws.toArray)(hv:vs≠[])
  (h1:ws=[]->Q (.ref t) s)(h2:ws≠[]->Q (.ref s.heap.objs.size) { s with heap:=s.heap.push { cls:=.type "tuple",data:=.seq (vs++ws).toArray } })
  (hsz:vs.length+ws.length<=sizeLine):wpAny (model prog w) A (binaryOp .Add (.ref t) (.ref b)) Q E s:=by
 obtain⟨⟨cls,dd,data,sl⟩,ho,hc,n,hd⟩:=id ht;obtain⟨⟨cls2,dd2,data2,sl2⟩,ho2,hc2,n2,hd2⟩:=id hb;simp only at hc hd hc2 hd2;subst hc hd hc2 hd2;have e:vs.toArray++ws.toArray=(vs++ws).toArray:=by simp
 by_cases hw:ws=[]
 ·exact Qtb ⟨_,ho,rfl⟩ ⟨_,ho2,rfl⟩ QiQ QoZ PySem.F.slot_tuple_add PySem.F.entry_tuple_add (PySem.F.args_tuple_add_2 _ _)
   (tuple_addW1 t b vs.toArray ws.toArray n n2 dd dd2 sl sl2 (by simpa using hv) (by simp[hw])) ⟨ho,ho2,h1 hw⟩
 ·refine Qtb ⟨_,ho,rfl⟩ ⟨_,ho2,rfl⟩ QiQ QoZ PySem.F.slot_tuple_add PySem.F.entry_tuple_add (PySem.F.args_tuple_add_2 _ _)
   (tuple_addW2 t b vs.toArray ws.toArray n n2 dd dd2 sl sl2 (by simpa using hv) (by simpa using hw) (by rw[Ql,Ql];exact hsz)) ⟨ho,ho2,?_⟩
  rw[e];exact h2 hw
def sIx(n d:Nat):Option Int->Nat
 |none=>d
 |some v=>if v<0 then(v+(n:Int)).toNat else min v.toNat n
theorem QgO(n d:Nat):sIx n d none=d:=rfl
theorem QmJ(n d k:Nat):sIx n d (some (k:Int))=min k n:=by
 show(if(k:Int)<0 then((k:Int)+(n:Int)).toNat else min (k:Int).toNat n)=min k n;rw[if_neg (by omega),Q8]
theorem Qws(n d:Nat)(hd:d<=n)(o:Option Int):sIx n d o<=n:=by
 cases o with
 |none=>exact hd
 |some v=>
  show(if v<0 then(v+(n:Int)).toNat else min v.toNat n)<=n;by_cases hv:v<0
  ·rw[if_pos hv];omega
  ·rw[if_neg hv];exact Qgx _ _
theorem Qoo(v:Int)(n d:Nat):(if v<0 then max (v+(n:Int)) 0 else min v (n:Int))=((sIx n d (some v):Nat):Int):=by
 show(if v<0 then max (v+(n:Int)) 0 else min v (n:Int))=(((if v<0 then(v+(n:Int)).toNat else min v.toNat n):Nat):Int);by_cases hv:v<0
 ·simp only[if_pos hv];omega
 ·simp only[if_neg hv];omega
theorem QlS(lo hi:Option Int)(n:Nat):Qa5 lo hi 1 (n:Int)=(((sIx n 0 lo:Nat):Int),((sIx n n hi:Nat):Int)):=by
 have h1:¬((1:Int)<0):=by omega
 unfold Qa5;simp only[h1,if_false];refine Qez ?_ ?_
 ·cases lo with
  |none=>rfl
  |some v=>exact Qoo v n 0
 ·cases hi with
  |none=>rfl
  |some v=>exact Qoo v n n
theorem Qlv(i j:Nat):YS (i:Int) (j:Int) 1=j - i:=by
 unfold YS;have h1:(1:Int) > 0:=by omega
 simp only[h1,if_true,Int.ediv_one];split<;>omega
theorem QfU{v:Value}{o:Option Int}{Q:Option Int->Shared->Prop}(p:QiJ v o)(h:Q o s):wpAny (model prog w) A (Qzv v) Q E s:=by
 cases p with
 |none=>exact slicePart_none h
 |int i t=>exact slicePart_int h
theorem QbY{sl:Addr}{vl vu:Value}{lo hi:Option Int}{n:Nat}{Q:Int×Int×Nat->Shared->Prop}(hs:s.heap.IsSliceOf sl vl vu .none)(pl:QiJ vl lo)(pu:QiJ vu hi)
  (h:Q (((sIx n 0 lo:Nat):Int),1,sIx n n hi - sIx n 0 lo) s):wpAny (model prog w) A (Qeb (.ref sl) (pure (n:Int))) Q E s:=by
 obtain⟨os,hos,hcs,hds⟩:=id hs;unfold Qeb Qzw;refine wpAny_bind (wpAny_bind (Zg hos hds (x:=vl) rfl (wpAny_bind (Zg hos hds (x:=vu) rfl (wpAny_bind (Zg hos hds (x:=.none) rfl (Qb ?_)))))));refine wpAny_bind (slicePart_none ?_);show wpAny _ _ (if((1:Int) == 0)=true then _ else _) _ _ s;rw[if_neg (by decide)];refine wpAny_bind (QfU pl (wpAny_bind (QfU pu (wpAny_bind (Qb ?_)))));show wpAny _ _ (match Qa5 lo hi 1 (n:Int) with | (lo,hi)=>pure (lo,(1:Int),YS lo hi 1)) _ _ s;rw[QlS lo hi n];show wpAny _ _ (pure (((sIx n 0 lo:Nat):Int),(1:Int),YS ((sIx n 0 lo:Nat):Int) ((sIx n n hi:Nat):Int) 1)) _ _ s;rw[Qlv];exact Qb h
theorem QpL(xs:Array Value)(i k:Nat):((Qw k).filterMap λ(m:Nat)=>xs[((i:Int)+(m:Int)*1).toNat]?).toArray=((xs.toList.drop i).take k).toArray:=by
 have e:(λ(m:Nat)=>xs[((i:Int)+(m:Int)*1).toNat]?)=λm=>xs[i+m]? := by
  funext m
  have:((i:Int)+(m:Int)*1).toNat=i+m:=by omega
  rw[this]
 rw[e];have:=pick_run xs i k;rw[QbQ] at this;have e2:((λx=>xs[x]?)∘λx=>i+x)=λm=>xs[i+m]? := rfl
 rw[e2] at this;rw[this]
theorem Qd4{t sl:Addr}{items:Array Value}{vl vu:Value}{lo hi:Option Int}{Q:Value->Shared->Prop}(ht:IsTup s.heap t items)(hs:s.heap.IsSliceOf sl vl vu .none)(pl:QiJ vl lo)(pu:QiJ vu hi)
  (hw:¬(sIx items.size 0 lo=0/\sIx items.size items.size hi=items.size))
  (h:Q (.ref s.heap.objs.size) { s with heap:=s.heap.push { cls:=.type "tuple",data:=.seq ((items.toList.drop (sIx items.size 0 lo)).take (sIx items.size items.size hi - sIx items.size 0 lo)).toArray } })
  (hsz:items.size<=sizeLine):wpAny (model prog w) A (getItem (.ref t) (.ref sl)) Q E s:=by
 have htake:sizeOk (.seq ((items.toList.drop (sIx items.size 0 lo)).take (sIx items.size items.size hi - sIx items.size 0 lo)).toArray):=by
  show((items.toList.drop (sIx items.size 0 lo)).take (sIx items.size items.size hi - sIx items.size 0 lo)).toArray.size<=sizeLine;rw[Ql,JH,YE,Qc];omega
 have hj:sIx items.size items.size hi<=items.size:=Qws _ _ (Qi _) hi;obtain⟨os,hos,hcs,hds⟩:=id hs;have hTs:s.TypeIs (.ref sl) "slice" := ⟨os,hos,hcs⟩;unfold getItem
 try with_reducible refine JY ?_
 first | refine wpAny_bind (Qb ?_) | skip
 refine wpAny_bind (Qy5 ht.typeIs (by decide) ?_);refine wpAny_bind (Ze (name:=Qaz "__getitem__") ht.typeIs J5
  (JK J5 ht.typeIs QvV ?_ (QyD _ _)))
 show wpAny _ _ (QaW (.ref t) >>= _) _ _ s;refine wpAny_bind (tupleItemsOf_ ht ?_);refine wpAny_bind (Qbt hTs ?_);rw[if_pos (by decide)];refine wpAny_bind (QbY hs pl pu ?_);have hno:¬((((sIx items.size 0 lo:Nat):Int) == 0&&(1:Int) == 1&&(sIx items.size items.size hi - sIx items.size 0 lo) == items.size)=true):=by
  intro q;rw[JS,JS] at q;have q1:((sIx items.size 0 lo:Nat):Int)=0:=eq_of_beq q.1.1;have q2:sIx items.size items.size hi - sIx items.size 0 lo=items.size:=eq_of_beq q.2;exact hw ⟨by omega,by omega⟩
 show wpAny _ _ (if(((sIx items.size 0 lo:Nat):Int) == 0&&(1:Int) == 1&&(sIx items.size items.size hi - sIx items.size 0 lo) == items.size)=true then _ else _) _ _ s;rw[if_neg hno,QpL]
 first
  |exact wpAny_bind (m:=Y2 _) (JJ (Qb ⟨_,rfl,Qb h⟩) htake)
  |exact wpAny_bind (m:=Y2 _) (JJ (wpAny_bind (Qb (Qb ⟨_,rfl,Qb h⟩))) htake)
  |exact wpAny_bind (wpAny_bind (m:=Y2 _) (JJ (Qb (Qb ⟨_,rfl,Qb h⟩)) htake))
  |exact wpAny_bind (wpAny_bind (m:=Y2 _) (JJ (Qb ⟨_,rfl,Qb h⟩) htake))
end
end HT
namespace L2
abbrev TO:=St->Hp->(Option Int->Hp->Prop)->Prop
def PO(X:Cx)(e:Option Q3)(t:TO):Prop:=
 ∀(pins:List (Addr×Obj))(s:Shared)(σ:St)(H:Hp)(Q:Option Int->Hp->Prop),Inv X pins σ H s->t σ H Q ->
  wpAny (model X.prog X.w) X.A (evalPart e X.env) (λu s'=>∃o H',Inv X pins σ H' s'/\QiJ u o/\Q o H') X.xe s
def Qtz:TO:=λ_ H Q=>Q none H
def QzA(t:TE):TO:=λσ H Q=>t σ H λx H1=>∃i,x=.int i/\Q (some i) H1
theorem intsAre_of{ns:List Int}:∀{us:List Value},Vals (ns.map V.int) us->IntsAre us ns:=by
 induction ns with
 |nil=>intro us r;rw[Qzn] at r;cases r;exact .nil
 |cons n ns ih=>
  intro us r;rw[JI] at r;cases r with
  |cons r1 r2=>
   obtain⟨t,e⟩:=r1;subst e;exact .cons n t (ih r2)
section
variable{X:Cx}{e:Q3}{te:TE}{lo hi:Option Q3}{tl th:TO}{pos p2:Pos}
theorem Qt1:PO X none Qtz:=by
 intro pins s σ H Q I h;rw[evalPart_none];exact Qb ⟨none,H,I,.none,h⟩
theorem Qt0(h:PE X e te):PO X (some e) (QzA te):=by
 intro pins s σ H Q I hw;rw[evalPart_some];refine thn (h pins s σ H _ I hw) λu s1 ⟨x,H1,I1,r1,q1⟩=>?_
 obtain⟨i,rfl,q⟩:=q1;obtain⟨t,rfl⟩:=r1;exact⟨some i,H1,I1,.int i t,q⟩
def SlR(X:Cx)(r:V->Option Int->Option Int->Hp->VK->Prop):Prop:=
 ∀(pins:List (Addr×Obj))(s:Shared)(σ:St)(H:Hp)(x:V)(v vl vu:Value)(lo hi:Option Int)(sl:Addr)(Q:VK),Inv X pins σ H s->RelV x v->s.heap.IsSliceOf sl vl vu .none->QiJ vl lo->QiJ vu hi->r x lo hi H Q ->
  ∃T id,typeLookup (.type T) "__getitem__" = pure (some (.builtin id))/\s.TypeIs v T/\wpAny (model X.prog X.w) X.A (getItem v (.ref sl)) (EP X pins σ Q) X.xe s
def tSl(r:V->Option Int->Option Int->Hp->VK->Prop)(te:TE)(tl th:TO):TE:=λσ H Q=>te σ H λx H1=>tl σ H1 λl H2=>th σ H2 λu H3=>r x l u H3 Q
theorem QpO{r:V->Option Int->Option Int->Hp->VK->Prop}(hr:SlR X r)(he:PE X e te)(hl:PO X lo tl)(hu:PO X hi th):PE X (.Subscript e (.Slice lo hi none p2) pos) (tSl r te tl th):=by
 intro pins s σ H Q I h;refine Subscript_ (thn (he pins s σ H _ I h) λv s1 ⟨x,H1,I1,r1,q1⟩=>?_);refine wpAny_Slice (thn (hl pins s1 σ H1 _ I1 q1) λvl s2 ⟨l,H2,I2,pl,q2⟩=>thn (hu pins s2 σ H2 _ I2 q2) λvu s3 ⟨u,H3,I3,pu,q3⟩=>?_);rw[evalPart_none];refine Qb ?_
 have I4:Inv X pins σ H3 { s3 with heap:=s3.heap.push { cls:=.type "slice",data:=.fields #[vl,vu,.none] } }:=I3.kept (t':=s3.toks) λb ob q=>Qe _ q
 obtain⟨T,id,hT,ht,hg⟩:=hr pins { s3 with heap:=s3.heap.push { cls:=.type "slice",data:=.fields #[vl,vu,.none] } } σ H3 x v vl vu l u s3.heap.objs.size Q I4 r1 (QyP ..) pl pu q3;show wpAny (model X.prog X.w) X.A (subscriptTail e (.Slice lo hi none p2) v (.ref s3.heap.objs.size)) (EP X pins σ Q) X.xe { s3 with heap:=s3.heap.push { cls:=.type "slice",data:=.fields #[vl,vu,.none] } };exact tail_any (ops:=[.ref s3.heap.objs.size,v]) ht hT hg (by with_unfolding_all rfl)
def QkU(xs:List V)(lo hi:Option Int):List V:=(xs.drop (HT.sIx xs.length 0 lo)).take (HT.sIx xs.length xs.length hi - HT.sIx xs.length 0 lo)
theorem Qfs(xs:List V)(lo hi:Option Int):(QkU xs lo hi).length<=xs.length:=by
 unfold QkU;rw[JH,YE];omega
def QBB(K:PySem.W.Frag):V->Option Int->Option Int->Hp->VK->Prop:=λx lo hi H Q=>∃a xs,x=.ref a/\SqT K H a xs /\
 ¬(HT.sIx xs.length 0 lo=0/\HT.sIx xs.length xs.length hi=xs.length)/\∀p,H p=none->Q (.ref p) (upd H p (.tup (QkU xs lo hi)))
theorem Qwo:SlR X (QBB X.K):=by
 intro pins s σ H x v vl vu lo hi sl Q I rx hs pl pu h;obtain⟨a,xs,rfl,hx,hw,q⟩:=h;cases rx;obtain⟨its,r,ht,hz⟩:=I.tuple hx;have hlen:its.toArray.size=xs.length:=by rw[Ql];exact r.length.symm
 refine⟨"tuple",_,J5.lookup,ht.typeIs,?_⟩;refine HT.Qd4 ht hs pl pu (by rw[hlen];exact hw) ?_ (by rw[hlen];exact hz)
 rw[hlen];refine⟨.ref s.heap.objs.size,_,I.laid (t':=s.toks) (o:=.tup (QkU xs lo hi)) (λb ob q=>Qe _ q) (Qi _) ?_,rfl,q _ (I.hok.fresh (Qi _))⟩;exact⟨Q7 (Qfs xs lo hi) hz,_,(r.drop (HT.sIx xs.length 0 lo)).take (HT.sIx xs.length xs.length hi - HT.sIx xs.length 0 lo),Qtl _ _⟩
def QzM(K:PySem.W.Frag):R2:=λx y H Q=>∃a b xs ys,x=.ref a/\y=.ref b/\SqT K H a xs/\SqT K H b ys/\xs≠[]/\xs.length+ys.length<=sizeLine /\
 (ys=[]->Q (.ref a) H)/\(ys≠[]->∀p,H p=none->Q (.ref p) (upd H p (.tup (xs++ys))))
theorem Vals.nil_iff{xs:List V}{us:List Value}(r:Vals xs us):us=[]↔xs=[]:=by
 cases r with
 |nil=>simp
 |cons _ _=>simp
theorem QuH:OpR X (binaryOp .Add) (QzM X.K):=by
 intro pins s σ H x y v u Q I rx ry h;obtain⟨a,b,xs,ys,rfl,rfl,ha,hb,hx,hz,q1,q2⟩:=h;cases rx;cases ry;obtain⟨its,r1,p1,_⟩:=I.tuple ha;obtain⟨its2,r2,p2,_⟩:=I.tuple hb;refine HT.QvA p1 p2 (λz=>hx (r1.nil_iff.mp z)) (λz=>⟨.ref a,H,I,rfl,q1 (r2.nil_iff.mp z)⟩) (λz=>?_) (by rw[<- r1.length,<- r2.length];exact hz);refine⟨.ref s.heap.objs.size,_,I.laid (t':=s.toks) (o:=.tup (xs++ys)) (λb ob q=>Qe _ q) (Qi _) ?_,rfl,q2 (λw=>z (r2.nil_iff.mpr w)) _ (I.hok.fresh (Qi _))⟩;exact⟨by rw[Qs];exact hz,_,r1.append r2,Qtl _ _⟩
end
def ixN(n:Nat)(i:Int):Option Nat:=if 0<=i then(if i<n then some i.toNat else none) else if -(n:Int)<=i then some (i+n).toNat else none
def atI{α:Type}(xs:List α)(i:Int):Option α:=(ixN xs.length i).bind λj=>xs[j]?
theorem QnK{n:Nat}{i:Int}{j:Nat}(h:ixN n i=some j):seqIndex? i n=some j/\j<n /\ -(n:Int)<=i/\i<n:=by
 unfold ixN at h;by_cases h0:0<=i
 ·rw[if_pos h0] at h;by_cases h1:i<n
  ·rw[if_pos h1] at h;have e:i.toNat=j:=Qm h;exact⟨by rw[Qk4 h0 h1,e],by omega,by omega,h1⟩
  ·rw[if_neg h1] at h;cases h
 ·rw[if_neg h0] at h;by_cases h1 : -(n:Int)<=i
  ·rw[if_pos h1] at h;have e:(i+n).toNat=j:=Qm h;exact⟨by rw[QiD (by omega) h1,e],by omega,h1,by omega⟩
  ·rw[if_neg h1] at h;cases h
theorem QjL{α:Type}{xs:List α}{i:Int}{v:α}(h:atI xs i=some v):∃j,seqIndex? i xs.length=some j/\xs[j]? = some v/\j<xs.length /\ -(xs.length:Int)<=i/\i<xs.length:=by
 unfold atI at h;cases e:ixN xs.length i with
 |none=>rw[e] at h;cases h
 |some j=>
  rw[e] at h;obtain⟨h1,h2,h3,h4⟩:=QnK e;exact⟨j,h1,h,h2,h3,h4⟩
theorem Zx{α:Type}{xs:List α}{j:Nat}{v:α}(h:xs[j]? = some v):atI xs (j:Int)=some v:=by
 have hj:j<xs.length:=(QD.mp h).1;have e:ixN xs.length (j:Int)=some j:=by
  unfold ixN;rw[if_pos (by omega),if_pos (by omega)];simp
 unfold atI;rw[e];exact h
theorem Qr0{α:Type}(xs:List α)(v:α):atI (xs++[v]) (-1)=some v:=by
 have hl:(xs++[v]).length=xs.length+1:=by simp
 have e:ixN (xs++[v]).length (-1)=some xs.length:=by
  unfold ixN;rw[hl,if_neg (by decide),if_pos (by omega)]
  congr 1
  omega
 unfold atI;rw[e];show(xs++[v])[xs.length]? = some v;simp
def QjM(b:Q3):Prop:=∀o i,subscripted b false o i=operate [o,i] (getItem o i)
def IxR(X:Cx)(r:R2):Prop:=
 ∀(value slice:Q3)(pins:List (Addr×Obj))(s:Shared)(σ:St)(H:Hp)(x y:V)(v u:Value)(Q:VK),Inv X pins σ H s->RelV x v->RelV y u->r x y H Q ->
  subscripted slice false v u=operate [v,u] (getItem v u)->wpAny (model X.prog X.w) X.A (subscriptTail value slice v u) (EP X pins σ Q) X.xe s
def MtR(X:Cx)(id:String)(r:V->List V->Hp->VK->Prop):Prop:=
 ∀(pins:List (Addr×Obj))(s:Shared)(σ:St)(H:Hp)(x:V)(xs:List V)(v:Value)(us:List Value)(Q:VK),Inv X pins σ H s->RelV x v->Vals xs us->r x xs H Q ->
  wpAny (model X.prog X.w) X.A (call (.builtin id) (v::us)) (EP X pins σ Q) X.xe s
section
variable{X:Cx}{a b:Q3}{ta tb:TE}{pos:Pos}
theorem QpR{r:R2}(hr:IxR X r)(ha:PE X a ta)(hb:PE X b tb)(hs:QjM b):PE X (.Subscript a b pos) (tOp r ta tb):=by
 intro pins s σ H Q I h;exact Subscript_ (QAD ha hb I h λv u s2 x y H2 I2 rx ry q=>hr a b pins s2 σ H2 x y v u Q I2 rx ry q (hs _ _))
def QyX(K:PySem.W.Frag):R2:=λx y H Q=>∃p xs i v,x=.ref p/\y=.int i/\SqL K H p xs/\atI xs i=some v/\Q v H
def QAV(K:PySem.W.Frag):R2:=λx y H Q=>∃p xs i v,x=.ref p/\y=.int i/\SqT K H p xs/\atI xs i=some v/\Q v H
theorem Qg5:IxR X (QyX X.K):=by
 intro value slice pins s σ H x y v u Q I rx ry h hs;obtain⟨p,xs,i,z,rfl,rfl,hq,he,q⟩:=h;cases rx;obtain⟨t,rfl⟩:=ry;obtain⟨its,r,pl,hz⟩:=I.list hq;obtain⟨j,h1,h2,h3,h4,h5⟩:=QjL he;obtain⟨w,ew,rw'⟩:=r.get h2;have hl:=r.length;have hn:=Qge;have fin:EP X pins σ Q w s:=⟨z,H,I,rw',q⟩;by_cases h0:0<=i
 ·have hj:i.toNat=j:=by
   rw[Qk4 h0 h5] at h1;exact Qm h1
  exact item_listR pl.isList h0 (by omega) (by rw[hj];simpa using ew) fin hs
 ·have hj:(i+(its.toArray.size:Int)).toNat=j:=by
   rw[QiD (by omega) h4] at h1;rw[Ql,<- hl];exact Qm h1
  exact Qr7 (x:=w) pl.isList.typeIs Qza.lookup
   (Qr6 (Q:=λr s'=>r=w/\EP X pins σ Q r s') pl.isList (by omega) (by rw[Ql]<;>omega) (by omega) (by rw[hj];simpa using ew) ⟨rfl,fin⟩) hs
theorem QxT:IxR X (QAV X.K):=by
 intro value slice pins s σ H x y v u Q I rx ry h hs;obtain⟨p,xs,i,z,rfl,rfl,hq,he,q⟩:=h;cases rx;obtain⟨t,rfl⟩:=ry;obtain⟨its,r,pl,hz⟩:=I.tuple hq;obtain⟨j,h1,h2,h3,h4,h5⟩:=QjL he;obtain⟨w,ew,rw'⟩:=r.get h2;have hl:=r.length;have hn:=Qge;have fin:EP X pins σ Q w s:=⟨z,H,I,rw',q⟩;exact Qr7 (x:=w) pl.typeIs slot_tuple_getitem.lookup
  (getItem_tuple (j:=j) (Q:=λr s'=>r=w/\EP X pins σ Q r s') pl (by omega) (by omega) (by rw[Ql,<- hl];exact h1) (by simpa using ew) ⟨rfl,fin⟩) hs
theorem QlE(its:List Value)(n j:Nat)(u:Value):J6 (·.setIfInBounds j u) { cls:=.type "list",data:=.seq its.toArray n }={ cls:=.type "list",data:=.seq (its.set j u).toArray n }:=by
 simp[J6]
theorem Inv.lst{pins:List (Addr×Obj)}{σ:St}{H:Hp}{s:Shared}{p:Addr}{xs:List V}(I:Inv X pins σ H s)(h:H p=some (.lst xs)) :
  ∃(its:List Value)(n:Nat),Vals xs its/\s.heap.get? p=some { cls:=.type "list",data:=.seq its.toArray n }/\xs.length<=sizeLine:=by
 obtain⟨z,its,n,r,e⟩:=I.hok p _ h;exact⟨its,n,r,e,z⟩
theorem Inv.lstUpd{pins:List (Addr×Obj)}{σ:St}{H:Hp}{s:Shared}{p:Addr}{xs ys:List V}{its its':List Value}{n n':Nat}{f:Obj->Obj}(I:Inv X pins σ H s)(h:H p=some (.lst xs))
  (ho:s.heap.get? p=some { cls:=.type "list",data:=.seq its.toArray n })(hf:f { cls:=.type "list",data:=.seq its.toArray n }={ cls:=.type "list",data:=.seq its'.toArray n' })(r:Vals ys its')(hz:ys.length<=sizeLine)(t:Nat) :
  Inv X pins σ (upd H p (.lst ys)) { s with heap:=s.heap.update p f,toks:=t }:=by
 have e:(s.heap.update p f).get? p=some { cls:=.type "list",data:=.seq its'.toArray n' }:=by
  rw[ZK f ho (by rw[hf]<;>rfl),hf]
 refine I.write (x:=p) (e:=p) (by rw[h];trivial) (.inl rfl) (λb u hb q=>(YO _ _ (QdD hb)).trans q) ⟨_,e⟩ ?_
 exact⟨hz,its',n',r,e⟩
def QwC:V->V->V->Hp->(Hp->Prop)->Prop:=λo i v H Q=>∃p xs k j,o=.ref p/\i=.int k/\H p=some (.lst xs)/\ixN xs.length k=some j/\Q (upd H p (.lst (xs.set j v)))
theorem Qj7:QAI X QwC:=by
 intro pins s σ H o i v ov iv u Q I ro ri rv h;obtain⟨p,xs,k,j,rfl,rfl,hp,hj,q⟩:=h;cases ro;obtain⟨t,rfl⟩:=ri;obtain⟨its,n,r,ho,hz⟩:=I.lst hp;obtain⟨h1,h2,h3,h4⟩:=QnK hj;have hl:=r.length;have hn:=Qge;have I':Inv X pins σ (upd H p (.lst (xs.set j v))) { s with heap:=s.heap.update p (J6 (·.setIfInBounds j u)) }:=
  I.lstUpd hp ho (QlE its n j u) (r.set rv j) (by rw[Ym];exact hz) s.toks
 by_cases h0:0<=k
 ·have hk:k.toNat=j:=by
   rw[Qk4 h0 h4] at h1;exact Qm h1
  exact PySem.W.ki_setAt ho h0 (by omega) (by rw[Ql,<- hl];exact h4) (by rw[hk];exact⟨_,I',q⟩)
 ·have hk:(k+(its.toArray.size:Int)).toNat=j:=by
   rw[QiD (by omega) h3] at h1;rw[Ql,<- hl];exact Qm h1
  exact PySem.W.ki_setBack ho (by omega) (by rw[Ql,<- hl];exact h3) (by omega) (by rw[hk];exact⟨_,I',q⟩)
theorem QhU(lo hi:Option Int)(n:Nat):(sliceBounds lo hi none n).1=((HT.sIx n 0 lo:Nat):Int)/\(sliceBounds lo hi none n).2.1=((HT.sIx n n hi:Nat):Int)/\(sliceBounds lo hi none n).2.2=1:=by
 refine⟨?_,?_,rfl⟩
 ·cases lo with
  |none=>simp[sliceBounds,HT.sIx]
  |some i=>
   simp only[sliceBounds,HT.sIx,Qo2,show(1:Int) > 0 by decide,if_true];by_cases h:i<0
   ·simp only[h,if_true]<;>omega
   ·simp only[h,if_false]<;>omega
 ·cases hi with
  |none=>simp[sliceBounds,HT.sIx]
  |some i=>
   simp only[sliceBounds,HT.sIx,Qo2,show(1:Int) > 0 by decide,if_true];by_cases h:i<0
   ·simp only[h,if_true]<;>omega
   ·simp only[h,if_false]<;>omega
theorem QgL(its:List Value)(lo hi:Option Int):slicePick its.toArray lo hi none=((its.drop (HT.sIx its.length 0 lo)).take (HT.sIx its.length its.length hi - HT.sIx its.length 0 lo)).toArray:=by
 obtain⟨h1,h2,h3⟩:=QhU lo hi its.toArray.size;unfold slicePick;rw[h1,h2,h3];simp only[sliceRange_one,pick_run,Ql]<;>rfl
def QBC(K:PySem.W.Frag):V->Option Int->Option Int->Hp->VK->Prop:=λx lo hi H Q=>∃a xs,x=.ref a/\SqL K H a xs/\∀p,H p=none->Q (.ref p) (upd H p (.lst (QkU xs lo hi)))
theorem QtC:SlR X (QBC X.K):=by
 intro pins s σ H x v vl vu lo hi sl Q I rx hs pl pu h;obtain⟨a,xs,rfl,hx,q⟩:=h;cases rx;obtain⟨its,r,ht,hz⟩:=I.list hx;have hlen:=r.length;refine⟨"list",_,Qza.lookup,ht.isList.typeIs,?_⟩;refine wpAny_getItem_list_slice ht.isList hs pl pu .none (by simp) ?_ (by rw[Ql]<;>omega)
 rw[QgL,<- hlen];refine⟨.ref s.heap.objs.size,_,I.laid (t':=s.toks) (o:=.lst (QkU xs lo hi)) (λb ob q=>Qe _ q) (Qi _) ?_,rfl,q _ (I.hok.fresh (Qi _))⟩;exact⟨Q7 (Qfs xs lo hi) hz,_,0,(r.drop (HT.sIx xs.length 0 lo)).take (HT.sIx xs.length xs.length hi - HT.sIx xs.length 0 lo),Qu _ rfl⟩
theorem Qcj:CallR X (.builtin "len") (λxs H Q=>∃p ys,xs=[.ref p]/\(SqL X.K H p ys∨SqT X.K H p ys)/\Q (.int ys.length) H):=by
 intro pins s σ H xs us Q I r h;obtain⟨p,ys,rfl,hq,q⟩:=h;obtain⟨u,rfl,rx⟩:=vals1 r;cases rx;have hn:=Qge;rcases hq with hq | hq
 ·obtain⟨its,r',pl,hz⟩:=I.list hq;have hlen:=r'.length;exact Calls.call_len_list pl.isList (by simp only[Ql]<;>omega) ⟨.int ys.length,H,I.tok _,⟨s.toks+1,by rw[Ql,hlen]⟩,q⟩
 ·obtain⟨its,r',pl,hz⟩:=I.tuple hq;have hlen:=r'.length;exact len_tuple pl (by simp only[Ql]<;>omega) ⟨.int ys.length,H,I.tok _,⟨s.toks+1,by rw[Ql,hlen]⟩,q⟩
theorem Qit:CallR X (.type "list") (λxs H Q=>∃p ys,xs=[.ref p]/\(SqL X.K H p ys∨SqT X.K H p ys)/\∀l,H l=none->Q (.ref l) (upd H l (.lst ys))):=by
 intro pins s σ H xs us Q I r h;obtain⟨p,ys,rfl,hq,q⟩:=h;obtain⟨u,rfl,rx⟩:=vals1 r;cases rx;have fin:∀(its:List Value),Vals ys its->ys.length<=sizeLine->∀(h':Heap)(c':Nat),(∀b o',s.heap.get? b=some o'->h'.get? b=some o') ->
   h'.get? s.heap.objs.size=some { cls:=.type "list",dict:=none,data:=.seq its.toArray c',slots:=#[] }->EP X pins σ Q (.ref s.heap.objs.size) { s with heap:=h' }:=λits r' hz h' c' kp e=>
  ⟨.ref s.heap.objs.size,_,I.laid (t':=s.toks) kp (Qi _) (show ObjOk X.prog X.w _ h' _ (.lst ys) from⟨hz,its,c',r',e⟩),rfl,q _ (I.hok.fresh (Qi _))⟩
 rcases hq with hq | hq
 ·obtain⟨its,r',pl,hz⟩:=I.list hq;have hlen:=r'.length;obtain⟨o,ho,hc,n,hd⟩:=pl.isList;exact call_list_seq p (.inl rfl) ho hc hd (λh' c' kp e=>fin its r' hz h' c' kp e) (by simp only[Ql]<;>omega)
 ·obtain⟨its,r',pl,hz⟩:=I.tuple hq;have hlen:=r'.length;obtain⟨o,ho,hc,n,hd⟩:=pl;exact call_list_seq p (.inr rfl) ho hc hd (λh' c' kp e=>fin its r' hz h' c' kp e) (by simp only[Ql]<;>omega)
theorem Qhj:CallR X (.type "tuple") (λxs H Q=>∃p ys,xs=[.ref p]/\((SqL X.K H p ys/\∀l,H l=none->Q (.ref l) (upd H l (.tup ys)))∨(SqT X.K H p ys/\Q (.ref p) H))):=by
 intro pins s σ H xs us Q I r h;obtain⟨p,ys,rfl,h⟩:=h;obtain⟨u,rfl,rx⟩:=vals1 r;cases rx;rcases h with⟨hq,q⟩ | ⟨hq,q⟩
 ·obtain⟨its,r',pl,hz⟩:=I.list hq;have hlen:=r'.length;refine call_tuple_list pl.isList (λh' kp=>?_) (by simp only[Ql]<;>omega);have I1:Inv X pins σ H { s with heap:=h' }:=I.kept (t':=s.toks) kp;have I2:Inv X pins σ (upd H h'.objs.size (.tup ys)) { s with heap:=h'.push { cls:=.type "tuple",data:=.seq its.toArray } }:=
   I1.laid (t':=s.toks) (λb o e=>Qe _ e) (Qi _) (show ObjOk X.prog X.w _ _ _ (.tup ys) from⟨hz,its,r',Qtl _ _⟩)
  exact⟨.ref h'.objs.size,_,I2,rfl,q _ (I1.hok.fresh (Qi _))⟩
 ·obtain⟨its,r',pl,hz⟩:=I.tuple hq;exact call_tuple_same pl ⟨.ref p,H,I,rfl,q⟩
def tyV(K:PySem.W.Frag)(T:String)(x:V)(H:Hp):Prop:=match x with
 |.str _=>T = "str"
 |.int _=>T = "int"
 |.ref p=>(T = "list" /\ ∃xs,SqL K H p xs)∨(T = "tuple" /\ ∃o,K.lookup p=some o/\o.cls=.type "tuple" /\ o.dict=none) ∨
   (T = "dict" /\ ((∃kvs,H p=some (.dK kvs))∨∃kvs,H p=some (.dT kvs)))∨(T = "set" /\ ∃S n,H p=some (.set S n))
 |_=>False
theorem Qv6{pins:List (Addr×Obj)}{σ:St}{H:Hp}{s:Shared}{T:String}{x:V}{v:Value}(I:Inv X pins σ H s)(r:RelV x v)(ty:tyV X.K T x H) :
  s.TypeIs v T/\∀a,v=.ref a->∃ob,s.heap.get? a=some ob/\ob.dict=none:=by
 cases x with
 |str z=>
  obtain⟨t,rfl⟩:=r;cases(show T = "str" from ty);exact⟨typeIs_str s z t,λ_ e=>nomatch e⟩
 |int i=>
  obtain⟨t,rfl⟩:=r;cases(show T = "int" from ty);exact⟨Qy9 s i t,λ_ e=>nomatch e⟩
 |ref p=>
  cases r;rcases ty with⟨rfl,xs,hq⟩ | ⟨rfl,o,hk,hc,hd⟩ | ⟨rfl,hk⟩ | ⟨rfl,S,n,hk⟩
  ·obtain⟨its,_,pl,_⟩:=I.list hq;refine⟨pl.isList.typeIs,λa e=>?_⟩;cases e;obtain⟨o,n,e,c,hd,_⟩:=pl;exact⟨o,e,hd⟩
  ·refine⟨⟨o,I.kIn p o hk,hc⟩,λa e=>?_⟩;cases e;exact⟨o,I.kIn _ o hk,hd⟩
  ·have z:∃o,s.heap.get? p=some o/\o.ExactDict:=by
    rcases hk with⟨kvs,hk⟩ | ⟨kvs,hk⟩
    ·obtain⟨_,_,_,_,o,_,_,e,ex,_⟩:=I.hok p _ hk;exact⟨o,e,ex⟩
    ·obtain⟨_,_,_,_,o,_,_,e,ex,_⟩:=I.hok p _ hk;exact⟨o,e,ex⟩
   obtain⟨o,e,ex⟩:=z;refine⟨⟨o,e,ex.1⟩,λa e2=>?_⟩;cases e2;exact⟨o,e,ex.2.1⟩
  ·obtain⟨o,_,_,_,e,ex,_⟩:=I.hok p _ hk;refine⟨⟨o,e,ex.1⟩,λa e2=>?_⟩;cases e2;exact⟨o,e,ex.2.1⟩
 |_=>exact YG ty
def tBM(K:PySem.W.Frag)(T:String)(r:V->List V->Hp->VK->Prop)(to:TE)(t:TA):TE:=λσ H Q=>to σ H λx H1=>tyV K T x H1/\t σ H1 λxs H2=>r x xs H2 Q
variable{o e:Q3}{es:List Q3}{to:TE}{t:TA}{name:Str}{apos cpos:Pos}{T id:String}{r:V->List V->Hp->VK->Prop}
theorem Qw1(pa:PlainAttrs T)(slot:Slot T name id)(hty:typeOf (.builtin id)=pure (.type "method_descriptor"))(hm:MtR X id r)(ho:PE X o to)(ha:PA X (e::es) t)
  (hbase:attributeBase o name X.env (eval o X.env)=eval o X.env:=by rfl)
  (hfew:((backTo cpos (starEach (e::es) X.env)).all (λx => !x.1)&&(backToKw cpos (keywordEach [] X.env)).all (λx=>x.1.isSome)
   && decide ((e::es).length+([]:List Qla).length+(if([]:List Qla).isEmpty then 0 else 1)<30))=true:=by rfl)
  (hline:(apos.endLine == cpos.line)=true:=by rfl) (hs:starEach (e::es) X.env=(false,eval e X.env)::starEach es X.env:=by rfl) (hplain:(backTo cpos (starEach es X.env)).any (·.1)=false:=by rfl) :
  PE X (.Call (.Attribute o name apos) (e::es) [] cpos) (tBM X.K T r to t):=by
 intro pins s σ H Q I h;refine wpAny_Call_method_late hbase hfew hline rfl (thn (ho pins s σ H _ I h) λv s1 ⟨x,H1,I1,r1,ty,q1⟩=>?_);obtain⟨h1,h2⟩:=Qv6 I1 r1 ty;refine⟨T,id,pa,slot,hty,h1,h2,?_⟩;have hA:=ha cpos pins s1 σ H1 _ I1 q1;rw[hs] at hA ⊢;refine Calls.callWith_builtin (by show(false||(backTo cpos (starEach es X.env)).any (·.1))=false;rw[hplain]<;>rfl) (Calls.evalArgs_plain ?_);exact thn hA λus s2 ⟨vs,H2,I2,r2,q2⟩=>hm pins s2 σ H2 x vs v us Q I2 r1 r2 q2
end
def MtM(X:Cx)(id:String)(r:V->List V->Hp->VK->Prop):Prop:=
 ∀(pins:List (Addr×Obj))(s:Shared)(σ:St)(H:Hp)(x:V)(xs:List V)(v:Value)(us:List Value)(Q:VK),Inv X pins σ H s->RelV x v->Vals xs us->r x xs H Q ->
  wpAny (model X.prog X.w) X.A (call (.builtin id) (v::us)) (EP X pins σ Q) X.xe s
theorem Vals.one:∀{x:V}{us:List Value},Vals [x] us->∃u,us=[u]/\RelV x u
 |_,_,.cons r .nil=>⟨_,rfl,r⟩
theorem Vals.zero:∀{us:List Value},Vals [] us->us=[]
 |_,.nil=>rfl
theorem Vals.reverse{xs:List V}{us:List Value}(h:Vals xs us):Vals xs.reverse us.reverse:=by
 induction h with
 |nil=>exact .nil
 |cons r t ih=>rw[Qsb,Qsb];exact Vals.append ih (.cons r .nil)
theorem Vals.rep{xs:List V}{us:List Value}(h:Vals xs us):∀k:Nat,Vals (Jl k xs).flatten (Jl k us).flatten
 |0=>.nil
 |k+1=>by
  rw[ZC,ZC,Yn,Yn];exact Vals.append h (Vals.rep h k)
theorem foldl_rep(its:List Value):∀(k:Nat)(acc:List Value),
  Qsd (λx1 x2=>x1++x2) acc.toArray (Jl k its.toArray)=(acc++(Jl k its).flatten).toArray
 |0,acc=>by simp
 |k+1,acc=>by
  have e:acc.toArray++its.toArray=(acc++its).toArray:=by simp
  have e2:(acc++its)++(Jl k its).flatten=acc++(Jl (k+1) its).flatten:=by
   rw[ZC,Yn,QU]
  rw[<- e2,<- foldl_rep its k (acc++its),<- e,ZC,QaJ]
section
variable{X:Cx}{pins:List (Addr×Obj)}{σ:St}{H:Hp}{s:Shared}{l b:Addr}{xs ys zs:List V}
theorem Inv.lset{its its':List Value}{n:Nat}{f:Array Value->Array Value}{t':Nat}(I:Inv X pins σ H s)(hH:H l=some (.lst xs))
  (e:s.heap.get? l=some { cls:=.type "list",data:=.seq its.toArray n })(hf:f its.toArray=its'.toArray)(hv:Vals ys its')(hz:ys.length<=sizeLine) :
  Inv X pins σ (upd H l (.lst ys)) { s with heap:=s.heap.update l (J6 f),toks:=t' }:=by
 have q:=PySem.IsL.update e f;rw[hf] at q;refine I.write (x:=l) (e:=l) (by rw[hH];exact trivial) (.inl rfl) (λb' u hb hu=>(YO s.heap (J6 f) (QdD hb)).trans hu) ⟨_,q⟩ ?_
 exact⟨hz,its',_,hv,q⟩
theorem Inv.lnew{its:List Value}{t':Nat}(I:Inv X pins σ H s)(hv:Vals ys its)(hz:ys.length<=sizeLine) :
  Inv X pins σ (upd H s.heap.objs.size (.lst ys)) { s with heap:=s.heap.push { cls:=.type "list",data:=.seq its.toArray },toks:=t' }:=
 I.laid (λ_ _ q=>Qe _ q) (Qi _) ⟨hz,its,0,hv,Qu _ rfl⟩
theorem Inv.fresh(I:Inv X pins σ H s):H s.heap.objs.size=none:=I.hok.fresh (Qi _)
theorem Inv.lstM(I:Inv X pins σ H s)(hH:H l=some (.lst xs)):xs.length<=sizeLine/\∃(its:List Value)(n:Nat),Vals xs its/\xs.length=its.length/\s.heap.get? l=some { cls:=.type "list",data:=.seq its.toArray n }:=by
 obtain⟨z,its,n,r,e⟩:=I.hok l _ hH;exact⟨z,its,n,r,r.length,e⟩
theorem Qro{n:Nat}(h:n<=sizeLine):Qbm n=false:=by
 unfold Qbm;exact decide_eq_false (by omega)
end
section
variable{X:Cx}
def QmS:V->List V->Hp->VK->Prop:=λx vs H Q=>∃l xs y,x=.ref l/\vs=[y]/\H l=some (.lst xs)/\xs.length<sizeLine/\Q .non (upd H l (.lst (xs++[y])))
theorem Qia:MtM X "list.append" QmS:=by
 intro pins s σ H x vs v us Q I rx rv h;obtain⟨l,xs,y,rfl,rfl,hH,hz,q⟩:=h;cases rx;obtain⟨u,rfl,ru⟩:=rv.one;obtain⟨z,its,n,r,hl,e⟩:=I.lstM hH;refine QhC F.slot_list_append ⟨_,e,rfl⟩ F.entry_list_append (F.args_list_append_2 _ _) (PySem.list_append l its.toArray n u (by rw[Ql];omega)) ⟨e,?_⟩;refine⟨.non,_,I.lset (its':=its++[u]) hH e (by simp) (r.append (.cons ru .nil)) ?_,rfl,q⟩;rw[Qs,Qc4];omega
def QA0:R2:=λx y H Q=>∃l b xs zs,x=.ref l/\y=.ref b/\H l=some (.lst xs)/\H b=some (.lst zs)/\xs.length+zs.length<=sizeLine/\∀p,H p=none->Q (.ref p) (upd H p (.lst (xs++zs)))
theorem Qxt:OpR X (binaryOp .Add) QA0:=by
 intro pins s σ H x y v u Q I rx ry h;obtain⟨l,b,xs,zs,rfl,rfl,hH,hB,hz,q⟩:=h;cases rx;cases ry;obtain⟨z,its,n,r,hl,e⟩:=I.lstM hH;obtain⟨z2,its2,n2,r2,hl2,e2⟩:=I.lstM hB;refine PySem.P.add_list e e2 ?_ (by rw[Ql,Ql];omega)
 have ea:its.toArray++its2.toArray=(its++its2).toArray:=by simp
 rw[ea];exact⟨.ref _,_,I.lnew (t':=s.toks) (r.append r2) (by rw[Qs];omega),rfl,q _ I.fresh⟩
def QAR:R2:=λx y H Q=>∃l k xs,x=.ref l/\y=.int k/\H l=some (.lst xs) /\ -(2^63)<=k/\k<2^63/\xs.length*k.toNat<=sizeLine /\
 ∀p,H p=none->Q (.ref p) (upd H p (.lst (Jl k.toNat xs).flatten))
theorem Qu0{α:Type}(xs:List α)(k:Nat):(Jl k xs).flatten.length=k*xs.length:=by
 induction k with
 |zero=>simp
 |succ k ih=>rw[ZC,Yn,Qs,ih,Ql5,Nat.add_comm]
theorem Qxl:OpR X (binaryOp .Mult) QAR:=by
 intro pins s σ H x y v u Q I rx ry h;obtain⟨l,k,xs,rfl,rfl,hH,h1,h2,hz,q⟩:=h;cases rx;obtain⟨t,rfl⟩:=ry;obtain⟨z,its,n,r,hl,e⟩:=I.lstM hH;have hlen:its.toArray.size*k.toNat<=sizeLine:=by rw[Ql,<- hl];exact hz
 have hcap:¬its.toArray.size*k.toNat > (2^63 - 1) / 8:=by
  have:(sizeLine:Nat)<=(2^63 - 1) / 8:=by decide
  omega
 have hfit:¬(!Builtin.List.listFitsIndex k)=true:=by
  rw[fitsIndex_both h1 h2];exact Qv
 have hlong:¬Qbm (its.toArray.size*k.toNat)=true:=by
  rw[Qro hlen];exact Qv
 have hnew:Qsd (λx1 x2=>x1++x2) #[] (Jl (if its.toArray.isEmpty=true then 0 else k.toNat) its.toArray)=(Jl k.toNat its).flatten.toArray:=by
  have f0:∀m:Nat,Qsd (λx1 x2=>x1++x2) #[] (Jl m its.toArray)=(Jl m its).flatten.toArray:=λm=>by
   have:=foldl_rep its m [];rw[QbB] at this;exact this
  rw[f0];cases its with
  |nil=>simp
  |cons a r'=>rw[if_neg (by simp)]
 refine wpAny_binaryOp_repeat_ref (T := "list") (U := "int") (by decide) ⟨_,e,rfl⟩ (λs'=>Qy9 s' k t) noFill_list_mul F.fills_int_mul Qzr repeat_list F.slot_int_index.lookup
  (QhC Qzr (Qy9 s k t) F.entry_int_rmul (F.args_int_rmul_2 _ _) (int___rmul___int_list k t l its.toArray n)
   ⟨e,rfl,⟨_,e,rfl⟩,QhC F.slot_list_mul ⟨_,e,rfl⟩ F.entry_list_mul (F.args_list_mul_2 _ _) (AutoListH.list___mul___list_int_3 l its.toArray n k t hfit hcap hlong) ⟨e,?_⟩⟩)
 rw[hnew];exact⟨.ref _,_,I.lnew (t':=s.toks) (r.rep k.toNat) (by rw[Qu0,Nat.mul_comm];exact hz),rfl,q _ I.fresh⟩
end
section
variable{prog:Qz}{w:Ji}{A:Jb}{E:Value->Shared->Prop}{s:Shared}
end
section
variable{X:Cx}
end
end L2
namespace Att
open PySem.W PySem.Calls
theorem Qfj{P:Params}{h:Heap}:∀(ns:List Int)(vs:List Value),WellAll P h vs (ns.map WData.int)->IntsAre vs ns:=by
 intro ns;induction ns with
 |nil=>
  intro vs w;rw[Qzn] at w;cases w;exact .nil
 |cons n ns ih=>
  intro vs w;rw[JI] at w;cases w with
  |cons a b=>
   cases a;exact .cons _ _ (ih _ b)
theorem QmC{l:OpenLaw}{n:Nat}(hn:l.most=some n){P:Params}{h:Heap}{args:List WData}{vals:List Value}
  (hpre:l.row.toRowW.claim.pre args=true)(hwl:WellAll P h vals args) :
  ∃a vs ns,vals=[QK a]/\args=[WData.list (ns.map WData.int)]/\h.get? a=some { cls:=.type "list",data:=.seq vs.toArray }/\IntsAre vs ns/\ns.length<=n:=by
 have hsh:WShape.hasAll [] args [.list .int]=true:=(pre_splitW hpre).1;have hc:l.pre.holds [] { args:=args }=true:=(pre_splitW hpre).2;obtain⟨d,r,rfl,h1,h2⟩:=hasAllW_cons hsh;obtain rfl:=hasAllW_nil h2;obtain⟨xs,rfl,h3⟩:=hasW_list h1;obtain⟨ns,rfl⟩:=items_int h3;have hlen:ns.length<=n:=by
  unfold OpenLaw.pre at hc;have h4:(WTm.not (.lt (.lit (.int (n:Int))) (.len (.arg 0)))).holds [] { args:=[.list (ns.map .int)] }=true:=by
   have h4:=(holds_andW hc).1;rw[hn] at h4;exact h4
  have h5:=condW_of h4 (w_not (w_lt w_lit (w_len_list (w_arg rfl))));rw[Qh] at h5;refine Nat.le_of_not_lt λq=>?_
  have q':(n:Int)<((ns.length:Nat):Int):=by omega
  first
   |(rw[decide_eq_true q'] at h5;exact absurd h5 (by decide))
   |(simp at h5;omega)
 cases hwl with
 |cons w1 w2=>
  cases w2;cases w1 with
  |list ho hall=>exact⟨_,_,ns,rfl,rfl,ho,Qfj ns _ hall,hlen⟩
theorem Qm2(l:OpenLaw)(args:List WData):l.row.toRowW.claim.post args (.bool true) args=true:=
 postW_of (r:=l.row.toRowW) (X:=(true == true))
  (show Qzc [] (.bool true) .bool=true by first | rfl | decide | simp[Qzc,WShape.arms,WShape.armsAll])
  (show(WTm.eq .res (.lit (.bool true))).value [] { args:=args,res:=some (.bool true),after:=args }=some (.bool (true == true)) from w_eq_bool (w_res rfl) w_lit) rfl
theorem QjK{l:OpenLaw}{n:Nat}{q:Qz}{loose:List Str}{XP:(Str->Option Value)->Heap->Prop}{YP:Ji->Heap->Prop}{d:DefRec}
  (hn:l.most=some n)(hdf:d.params.defaults=[])
  (call:∀(w:Ji)(s₀ s₁:Shared)(mg mb:Str->Option Value)(fa:Addr)(o:Obj)(pm cd doc:Value)(a:Addr)(vs:List Value)(ns:List Int),
   Ground q loose [] XP w s₀ mg mb s₁.heap->YP w s₁.heap ->
   s₁.heap.get? fa=some o->o.data=.func (docDef d.name d.params d.body d.scope pm cd doc)->s₁.heap.CodeRec cd d.name->mg d.name=some (.ref fa) ->
   s₁.heap.get? a=some { cls:=.type "list",data:=.seq vs.toArray }->IntsAre vs ns->ns.length<=n->s₁.gens=#[] ->
   codeAny (model l.prog w) callerA (.call (.ref fa) ⟨[.ref a],[]⟩) (λr s'=>r=.ok (.ret (.bool true))/\OldK s₁.heap s'.heap/\s'.os=s₁.os/\QfI s'.gens) s₁) :
  WalkO q loose XP YP l.row.toRowW d [] (λf vs=>PySem.call f vs):=by
 intro w s₀ s₁ mg mb G Y fa o pm cd doc dV kV ho hd hcd hD hmg hg args vals as hpre hlay hrd hwl hlo;obtain rfl:dV=.none:=Dflts.none hD hdf;obtain rfl:kV=.none:=Dflts.noKw hD;obtain⟨a,vs,ns,rfl,rfl,hobj,hints,hlen⟩:=QmC hn hpre hwl;refine enter_call (Qcm (call w s₀ s₁ mg mb fa o pm cd doc a vs ns G Y ho (fd_plain hd) hcd hmg hobj hints hlen hg) λr s' hq=>?_);obtain⟨rfl,h2,h3,h4⟩:=hq;exact⟨.inl ⟨.bool true,.bool true,[],rfl,λ_=>rfl,.bool true,Qm2 l _,λ_=>⟨Qzp,λ_ hm=>(nomatch hm)⟩⟩,h2,h3,h4⟩
section
variable{prog:Qz}{w:Ji}{A:Jb}{E:Value->Shared->Prop}{s:Shared}{K:Frag}
end
end Att
namespace L2
theorem QhM:∀{vs:List Value}{ns:List Int},IntsAre vs ns->Vals (ns.map V.int) vs
 |_,_,.nil=>.nil
 |_,_,.cons n t h=>.cons ⟨t,rfl⟩ (QhM h)
def QAJ(H:Hp):Prop:=∀b,H b=none∨∃o xs,H b=some (.frz o (.lst xs))
theorem Qrz{P:Qz}{w:Ji}{K:PySem.W.Frag}{mg mb:Str->Option Value}{CX:CXT}{k:Nat}{fa a:Addr}{fd:Jd}{x:Str}{sp:Sp}{s₁:Shared}{vs:List Value}{ns:List Int}
  (KX:K.In s₁.heap)(hns:s₁.heap.Ns mainGlobals mg)(hb:s₁.heap.Ns builtinsNs mb)(hbb:∀x:Str,x ≠ "__name__" -> mb x=bootBuiltins x)(hlim:s₁.heap.NoLimit)(hg:s₁.gens=#[])
  (ha:s₁.heap.get? a=some { cls:=.type "list",data:=.seq vs.toArray })(hi:IntsAre vs ns)(hl:ns.length<=sizeLine)(hr:Room k callerA)
  (F:∀base:Heap,K.In base->base.Ns mainGlobals mg->FnOk P w K mg base CX k fa fd [x] sp)(hbind:∀(s:Shared)(u:Value),Qo9 s fd ⟨[u],[]⟩ [(x,u)])
  (hsp:∀H:Hp,QAJ H->SqL K H a (ns.map V.int)->sp [.ref a] H (λv _=>v=.bl true) λ_ _ _=>False)
  (hCX:∀H e s',CX [] H s₁ (λ_ _ _=>False) e s'->False) :
  codeAny (model P w) callerA (.call (.ref fa) ⟨[.ref a],[]⟩) (λr s'=>r=.ok (.ret (.bool true))/\OldK s₁.heap s'.heap/\s'.os=s₁.os/\QfI s'.gens) s₁:=by
 have rv:=QhM hi;have lenV:=hi.length;have core:∀H:Hp,QAJ H->SqL K H a (ns.map V.int)->HOk P w H s₁.heap->(∀b,H b≠none->b=a)->(H a≠none->K.lookup a=none) ->
   codeAny (model P w) callerA (.call (.ref fa) ⟨[.ref a],[]⟩) (λr s'=>r=.ok (.ret (.bool true))/\OldK s₁.heap s'.heap/\s'.os=s₁.os/\QfI s'.gens) s₁:=by
  intro H hO hS hok hA hK;have base_of:∀{b:Addr}{o:Obj},s₁.heap.get? b=some o->H b=none->(QrC s₁.heap H).get? b=some o:=λe n=>QrB e n
  have noA:∀{b:Addr}{o:Obj}{es:Array DictEntry}{ep:Nat},s₁.heap.get? b=some o->o.data=.dict es ep->H b=none:=λ{b o es ep} e d=>by
   cases q:H b with
   |none=>rfl
   |some u=>
    have e':b=a:=hA b (by rw[q];simp);subst e';rw[ha] at e;cases e;have d':Data.seq vs.toArray _=Data.dict es ep:=d;cases d'
  have nsK:∀{b:Addr}{m:Str->Option Value},s₁.heap.Ns b m->(QrC s₁.heap H).Ns b m:=λ{b m} ⟨o,es,ep,e,d,r⟩=>⟨o,es,ep,base_of e (noA e d),d,r⟩
  have hKb:K.In (QrC s₁.heap H):=λb o e=>base_of (KX b o e) (by
   cases q:H b with
   |none=>rfl
   |some u=>
    have e':b=a:=hA b (by rw[q];simp);subst e';rw[hK (by rw[q];simp)] at e;cases e)
  have hM:Mod K mg (QrC s₁.heap H):=⟨hKb,nsK hns,⟨mb,nsK hb,hbb⟩,let ⟨mc,h1,h2⟩:=hlim;⟨mc,nsK h1,h2⟩⟩;have e0:Env0 P w K mg (QrC s₁.heap H) callerA [] s₁ H:=⟨rfl,hM,λb o e=>QuS e,Nat.le_of_eq (QnP _ _),trivial,λb hb=>absurd (show b∈([]:List Addr) from hb) (by simp),hok,.of_eq hg⟩;refine Qcm ((F _ hKb (nsK hns)).run callerA [] s₁ H ⟨[.ref a],[]⟩ [.ref a] [.ref a] _ _ hr e0 (hbind s₁ (.ref a)) (.cons rfl .nil) (hsp H hO hS)) λr s' h=>?_
  cases r with
  |error e=>exact(hCX H e s' h).elim
  |ok fl=>
   cases fl with
   |next=>exact YG h
   |brk=>exact YG h
   |cont=>exact YG h
   |ret u=>
    obtain⟨v,H',os,bare,un,hok',r',q⟩:=h;have q':v=.bl true:=q;subst q';obtain rfl:u=QaQ true:=r';refine⟨rfl,OldK.of_keep λb o e=>?_,os,bare⟩;cases q:H b with
    |none=>exact un.keep b o e q (by intro z;exact absurd (show b∈([]:List Addr) from z) (by simp)) (by simp)
    |some u=>
     rcases hO b with z | ⟨ob,xs,z⟩
     ·rw[q] at z;cases z
     ·have z2:=un.frzs b ob _ z;obtain⟨e1,_⟩:=hok b _ z;obtain⟨e2,_⟩:=hok' b _ z2;rw[e] at e1;cases e1;exact e2
 cases hk:K.lookup a with
 |some o=>
  have e:=KX a o hk;rw[ha] at e;cases e;refine core (λ_=>none) (λ_=>.inl rfl) (.inr ⟨_,vs.toArray,_,hk,rfl,rfl,rfl,by rw[Ql,lenV];exact hl,by simpa using rv⟩) (λb u z=>by have z':(none:Option HO)=some u:=z;cases z') (λb z=>absurd rfl z) λz=>absurd rfl z
 |none=>
  refine core (λb=>if b=a then some (.frz { cls:=.type "list",data:=.seq vs.toArray } (.lst (ns.map V.int))) else none) (λb=>?_) (.inl (.inr ⟨{ cls:=.type "list",data:=.seq vs.toArray },if_pos rfl⟩)) (λb u z=>?_) (λb z=>?_) λ_=>hk
  ·by_cases hb:b=a
   ·exact .inr ⟨_,_,if_pos hb⟩
   ·exact .inl (if_neg hb)
  ·by_cases hb:b=a
   ·have z':=(if_pos hb).symm.trans z;cases z';subst hb;exact⟨ha,by rw[Qh];exact hl,vs,_,rv,ha⟩
   ·have z':=(if_neg hb).symm.trans z;cases z'
  ·by_cases hb:b=a
   ·exact hb
   ·exact absurd (if_neg hb) z
theorem Qtu{l:PySem.W.OpenLaw}{n k:Nat}{q:Qz}{loose:List Str}{XP:(Str->Option Value)->Heap->Prop}{YP:Ji->Heap->Prop}{d:DefRec}{K:Params->PySem.W.Frag}{CX:Ji->CXT}{sp:Ji->Sp}{x:Str}
  (hn:l.most=some n)(hn2:n<=sizeLine)(hdf:d.params.defaults=[])(hr:Room k callerA)
  (hY:∀(w:Ji)(h:Heap),YP w h->(K w.params).In h)
  (F:∀(w:Ji)(mg:Str->Option Value)(fa:Addr)(h:Heap),(K w.params).In h->h.Ns mainGlobals mg->mg d.name=some (.ref fa) ->
   ∃fd:Jd,(∀(s:Shared)(u:Value),Qo9 s fd ⟨[u],[]⟩ [(x,u)]) /\
    ∀base:Heap,(K w.params).In base->base.Ns mainGlobals mg->FnOk l.prog w (K w.params) mg base (CX w) k fa fd [x] (sp w))
  (hsp:∀(w:Ji)(H:Hp)(a:Addr)(ns:List Int),ns.length<=n->QAJ H->SqL (K w.params) H a (ns.map V.int)->sp w [.ref a] H (λv _=>v=.bl true) λ_ _ _=>False)
  (hCX:∀(w:Ji)(H:Hp)(s:Shared)(e:Value)(s':Shared),CX w [] H s (λ_ _ _=>False) e s'->False) :
  PySem.W.WalkO q loose XP YP l.row.toRowW d [] (λf vs=>PySem.call f vs):=by
 refine Att.QjK hn hdf λw s₀ s₁ mg mb fa o pm cd doc a vs ns G Y ho hd hcd hmg hobj hints hlen hg=>?_
 have KX:=hY w _ Y;obtain⟨fd,hb,hF⟩:=F w mg fa _ KX G.T.g hmg;exact Qrz KX G.T.g G.T.b G.T.builtins G.T.nolimit hg hobj hints (Q7 hlen hn2) hr hF hb (λH hO hS=>hsp w H a ns hlen hO hS) λH e s'=>hCX w H s₁ e s'
def J8(s:Y4):Arguments:=match s with
 |.FunctionDef _ a _ _ _ _ _ _ _ _=>a
 |_=>{ posonlyargs:=[],args:=[],vararg:=none,kwonlyargs:=[],kw_defaults:=[],kwarg:=none,defaults:=[] }
def JU(s:Y4):List Y4:=match s with
 |.FunctionDef _ _ b _ _ _ _ _ _ _=>b
 |_=>[]
def QC(s:Y4):QaR:=match s with
 |.FunctionDef _ _ _ _ _ _ sc _ _ _=>sc
 |_=>{ kind:=.function,names:=[],isGenerator:=false,isCoroutine:=false }
abbrev CX0:CXT:=λ_ _ _ _ _ _=>False
abbrev E0:XK:=λ_ _ _=>False
structure Fun (K:PySem.W.Frag) (x qual:Str) (st:Y4) (f:Addr) (fd:Jd):Prop where
 ex:∃(oc:Value)(od:Option Addr)(kV doc pm:Value)(an:Option Addr)(cdv ct:Value)(osl:Array (Option Value)),
  fd=PySem.W.fnOf x qual (J8 st) (JU st) (QC st) .none kV doc pm an cdv ct/\K.lookup f=some ⟨oc,od,.func fd,osl⟩/\PySem.W.codeIn K cdv qual=true
 kp:PySem.W.keepIn K (.ref f)=true
section
variable{P:Qz}{w:Ji}{K:PySem.W.Frag}{mg:Str->Option Value}{base:Heap}
theorem Fun.ok{x qual:Str}{st:Y4}{f:Addr}{fd:Jd}{N ps:List Str}{k:Nat}{sp:Sp}(F:Fun K x qual st f fd)(S:JZ N ps (QC st))(len:∀vs H Q E,sp vs H Q E->vs.length=ps.length)
  (hbody:∀(cdv:Value)(A:Jb)(outer:List Env)(s:Shared)(H:Hp)(vs:List V)(Q:VK)(E:XK),Room k (A.deeper (envOfC qual (QC st) s.heap.objs.size f cdv))->sp vs H Q E ->
   ∃t,PSs (QoX CX0 P w K mg base N qual (QC st) f cdv A outer s H E).nox (JU st) t/\t { nx:=λ_ H'=>Q .non H',rt:=Q } (start N vs) H):FnOk P w K mg base CX0 (k+1) f fd ps sp:=by
 obtain⟨oc,od,kV,doc,pm,an,cdv,ct,osl,rfl,lk,hcd⟩:=F.ex;refine QAo lk hcd S len λA outer s H vs Q E hr hsp=>?_
 obtain⟨t,h,q⟩:=hbody cdv A outer s H vs Q E hr hsp;exact⟨t,h.nox,q⟩
theorem Fun.binds{x qual:Str}{st:Y4}{f:Addr}{fd:Jd}{ps:List Str}(F:Fun K x qual st f fd)
  (h:∀(kV doc pm:Value)(an:Option Addr)(cdv ct:Value)(us:List Value),us.length=ps.length->bindArgs (PySem.W.fnOf x qual (J8 st) (JU st) (QC st) .none kV doc pm an cdv ct) ⟨us,[]⟩=pure (ps.zip us)):Binds K fd ps []:=by
 obtain⟨oc,od,kV,doc,pm,an,cdv,ct,osl,rfl,lk,hcd⟩:=F.ex;exact .all (h kV doc pm an cdv ct)
theorem Z1{x qual:Str}{st:Y4}{f:Addr}{oc:Value}{od an:Option Addr}{osl:Array (Option Value)}{kV doc pm cdv ct:Value}(l:K.lookup f=some ⟨oc,od,.func (PySem.W.fnOf x qual (J8 st) (JU st) (QC st) .none kV doc pm an cdv ct),osl⟩)
  (c:PySem.W.codeIn K cdv qual=true)(k:PySem.W.keepIn K (.ref f)=true):Fun K x qual st f (PySem.W.fnOf x qual (J8 st) (JU st) (QC st) .none kV doc pm an cdv ct):=⟨⟨oc,od,kV,doc,pm,an,cdv,ct,osl,rfl,l,c⟩,k⟩
end
section
variable{X:Cx}
theorem pv(i:Nat){x:Str}{pos:Pos}(hN:X.N[i]? = some x:=by rfl)(hv:Vis X.env.scope x:=by first | exact Jf rfl | exact Je (Jf rfl) | exact Je (Je rfl))(hd:(x == ("__debug__" : Str))=false:=by decide)
  (hcd:(x == ("__classdict__" : Str))=false:=by decide):PE X (.Name x pos) (Qmp i):=QwX hN hv hd hcd
end
theorem QA3{A B:Prop}(h:B):if false=true then A else B:=by
 rw[if_neg Qv];exact h
theorem QAe{A B:Prop}(h:A):if true=true then A else B:=by
 rw[if_pos rfl];exact h
theorem QA4{c A B:Prop}[Decidable c](h1:c->A)(h2:¬c->B):if c then A else B:=by
 by_cases h:c
 ·rw[if_pos h];exact h1 h
 ·rw[if_neg h];exact h2 h
def Same(H H':Hp):Prop:=∀b o,H b=some o->H' b=some o
theorem Same.refl(H:Hp):Same H H:=λ_ _ h=>h
theorem Same.trans{H H1 H2:Hp}(a:Same H H1)(b:Same H1 H2):Same H H2:=λc o h=>b c o (a c o h)
theorem Same.free{H H':Hp}(e:Same H H'){l:Addr}(h:H' l=QyH):H l=QyH:=by
 cases q:H l with
 |none=>rfl
 |some o=>
  rw[e l o q] at h;cases h
theorem Same.seq{K:PySem.W.Frag}{H H':Hp}{a:Addr}{xs:List V}(e:Same H H')(h:SqL K H a xs):SqL K H' a xs:=by
 rcases h with(h | ⟨o,h⟩) | h
 ·exact .inl (.inl (e _ _ h))
 ·exact .inl (.inr ⟨o,e _ _ h⟩)
 ·exact .inr h
end L2
set_option maxHeartbeats 4000000
namespace Rt
def Qch:Bool->Keyed->Array Keyed->Nat->Nat->Nat->StateT J1 Sem (Option Nat):=sortPriv% PySem.Builtin.gallop
theorem QlK(lf:Bool)(kk:Keyed)(xs:Array Keyed)(b n h:Nat):Qch lf kk xs b n h=(do
 let bey (z:Nat):StateT J1 Sem (Option Bool):=do
  let x <- elem' xs (b+z)
  if lf then lt' x kk else return (<- lt' kk x).map (!·)
 let mut l0:=0
 let mut o0:=1
 let mut u:=0
 let mut v:=0
 let some r0 <- bey h | return none
 if r0 then
  let mo:=n - h
  for _ in [0:n] do
   if o0≥mo then break
   let some r1 <- bey (h+o0) | return none
   if !r1 then break
   l0:=o0
   o0:=2*o0+1
  u:=h+l0+1
  v:=h+min o0 mo
 else
  let mo:=h+1
  for _ in [0:n] do
   if o0≥mo then break
   let some r1 <- bey (h - o0) | return none
   if r1 then break
   l0:=o0
   o0:=2*o0+1
  u:=h+1 - min o0 mo
  v:=h - l0
 for _ in [0:n] do
  if u≥v then break
  let m:=u+(v - u) / 2
  let some r1 <- bey m | return none
  if r1 then u:=m+1 else v:=m
 return some v):=rfl
structure Ord (c:Keyed->Keyed->Bool):Prop where
 asym:∀x y,c x y=true->c y x=false
 trans:∀x y z,c y x=false->c z y=false->c z x=false
abbrev le (c:Keyed->Keyed->Bool) (x y:Keyed):Prop:=c y x=false
section
variable{c:Keyed->Keyed->Bool}
theorem Ord.irr(o:Ord c)(x:Keyed):c x x=false:=by
 cases h:c x x with
 |false=>rfl
 |true=>rw[o.asym x x h] at h;cases h
theorem Ord.tr(o:Ord c){x y z:Keyed}(a:le c x y)(b:le c y z):le c x z:=o.trans x y z a b
theorem Ord.lt_le(o:Ord c){x y:Keyed}(a:c x y=true):le c x y:=o.asym x y a
theorem Ord.tr_lt(o:Ord c){x y z:Keyed}(a:le c x y)(b:c y z=true):c x z=true:=by
 cases h:c x z with
 |true=>rfl
 |false=>rw[show c y z=false from o.trans z x y h a] at b;cases b
end
def kx(xs:Array Keyed)(i:Nat):Keyed:=(xs[i]?).getD (Jw,Jw)
theorem Qu4{xs:Array Keyed}{i:Nat}(h:i<xs.size):xs[i]? = some (kx xs i):=by
 unfold kx;rw[getElem?_pos xs i h];rfl
theorem Qjy{xs ys:Array Keyed}{i j:Nat}(h:xs[i]? = ys[j]?):kx xs i=kx ys j:=by unfold kx;rw[h]
def Sg(c:Keyed->Keyed->Bool)(xs:Array Keyed)(lo hi:Nat):Prop:=∀i j,lo<=i->i<=j->j<hi->le c (kx xs i) (kx xs j)
structure Asks (prog:Qz) (w:Ji) (A:Jb) (s:Shared) (κ:Z7) (a₀:Array Keyed) (c:Keyed->Keyed->Bool):Prop where
 ord:Ord c
 lt:∀x y,x∈a₀.toList->y∈a₀.toList->∀(C:Bool->Shared->Prop)(E':Value->Shared->Prop),C (c x y) s->wpAny (model prog w) A (keyLt' κ x.1 y.1) C E' s
structure SB (κ:Z7) (a₀:Array Keyed) (st:J1):Prop where
 perm:(arrOf st).Perm a₀
 kind:kindOf st=κ
 failed:failedOf st=none
theorem SB.size{κ:Z7}{a₀:Array Keyed}{st:J1}(h:SB κ a₀ st):(arrOf st).size=a₀.size:=h.perm.size_eq
theorem SB.mem{κ:Z7}{a₀:Array Keyed}{st:J1}(h:SB κ a₀ st){p:Keyed}(e:p∈(arrOf st).toList):p∈a₀.toList:=(Zz.mp h.perm).mem_iff.mp e
theorem Qfg{xs:Array Keyed}{i:Nat}(h:i<xs.size):kx xs i∈xs.toList:=ZO.mpr (YY (Qu4 h))
section
variable{prog:Qz}{w:Ji}{A:Jb}{E:Value->Shared->Prop}{s:Shared}{a₀:Array Keyed}{κ:Z7}{c:Keyed->Keyed->Bool}
theorem QhL{st:J1}{x y:Keyed}{Q:Option Bool->J1->Prop}(hA:Asks prog w A s κ a₀ c)(hk:kindOf st=κ)(hx:x∈a₀.toList)(hy:y∈a₀.toList)(h:Q (some (c x y)) st):wpS (model prog w) A E s (lt' x y) Q st:=by
 rw[lt'_eq];refine Qj (QcB ?_);rw[hk];refine Qj (Qey (Qda (hA.lt x y hx hy _ _ ⟨rfl,?_⟩)));exact Qk h
theorem Q9{st:J1}{arr:Array Keyed}{i:Nat}{Q:Keyed->J1->Prop}(hi:i<arr.size)(h:Q (kx arr i) st):wpS (model prog w) A E s (elem' arr i) Q st:=by
 rw[elem'_eq,Qu4 hi];exact Qk h
theorem QeW{st:J1}{i j:Nat}{Q:Option Bool->J1->Prop}(hA:Asks prog w A s κ a₀ c)(hB:SB κ a₀ st)(hi:i<a₀.size)(hj:j<a₀.size)(h:Q (some (c (kx (arrOf st) i) (kx (arrOf st) j))) st):wpS (model prog w) A E s (ltAt' i j) Q st:=by
 have h1:i<(arrOf st).size:=by rw[hB.size];exact hi
 have h2:j<(arrOf st).size:=by rw[hB.size];exact hj
 rw[ltAt'_eq];refine Qj (QcB ?_);refine Qj (Q9 h1 ?_);refine Qj (Q9 h2 ?_);exact QhL hA hB.kind (hB.mem (Qfg h1)) (hB.mem (Qfg h2)) h
def Qc1(c:Keyed->Keyed->Bool)(lf:Bool)(kk:Keyed)(xs:Array Keyed)(i:Nat):Bool:=if lf then c (kx xs i) kk else !c kk (kx xs i)
theorem QrW(o:Ord c){lf:Bool}{kk:Keyed}{xs:Array Keyed}{b n:Nat}(sg:Sg c xs b (b+n)){i j:Nat}(hij:i<=j)(hj:j<n)(h:Qc1 c lf kk xs (b+j)=true):Qc1 c lf kk xs (b+i)=true:=by
 have l:=sg (b+i) (b+j) (by omega) (by omega) (by omega);unfold Qc1 at h ⊢;cases lf with
 |true=>exact o.tr_lt l h
 |false=>
  simp only[Jn,if_false,Bool.not_eq_true'] at h ⊢;exact o.tr l h
theorem ZF{st:J1}{lf:Bool}{kk:Keyed}{xs:Array Keyed}{b n hint:Nat}{Q:Option Nat->J1->Prop}(hA:Asks prog w A s κ a₀ c)(hk:kindOf st=κ)(hkey:kk∈a₀.toList)(harr:∀p∈xs.toList,p∈a₀.toList)(hb:b+n<=xs.size)(hh:hint<n)(sg:Sg c xs b (b+n))
  (h:∀k,k<=n->(∀i,i<k->Qc1 c lf kk xs (b+i)=true)->(∀i,k<=i->i<n->Qc1 c lf kk xs (b+i)=false)->Q (some k) st):wpS (model prog w) A E s (Qch lf kk xs b n hint) Q st:=by
 have bey:∀(i:Nat)(Q':Option Bool->J1->Prop),i<n->Q' (some (Qc1 c lf kk xs (b+i))) st->wpS (model prog w) A E s (do
   let x <- elem' xs (b+i)
   if lf then lt' x kk else return (<- lt' kk x).map (!·)) Q' st:=λi Q' hi hq=>by
  have hs:b+i<xs.size:=by omega
  refine Qj (Q9 hs ?_);have pm:=harr _ (Qfg hs);unfold Qc1 at hq;cases lf with
  |true=>exact QhL hA hk pm hkey hq
  |false=>exact Qj (QhL hA hk hkey pm (Qk hq))
 have mono:∀{i j:Nat},i<=j->j<n->Qc1 c lf kk xs (b+j)=true->Qc1 c lf kk xs (b+i)=true:=λhij hj h=>QrW hA.ord sg hij hj h
 have monoF:∀{i j:Nat},i<=j->j<n->Qc1 c lf kk xs (b+i)=false->Qc1 c lf kk xs (b+j)=false:=λ{i j} hij hj h=>by
  cases e:Qc1 c lf kk xs (b+j) with
  |false=>rfl
  |true=>rw[mono hij hj e] at h;cases h
 rw[QlK]
 dsimp only
 refine Qj (bey hint _ hh ?_);cases hr:Qc1 c lf kk xs (b+hint) with
 |true=>
  dsimp only
  rw[if_pos rfl];refine Qj (YQ (J4 (I:=λx z st'=>st'=st/\∃l o,z=(none,l,o)/\l<o/\x+1<=o/\hint+l<n/\Qc1 c lf kk xs (b+(hint+l))=true)
   (Q:=λz st'=>st'=st/\∃l o,z=(none,l,o)/\l<o/\hint+l<n/\Qc1 c lf kk xs (b+(hint+l))=true/\(hint+o<n->Qc1 c lf kk xs (b+(hint+o))=false)) ?step ?fin ⟨rfl,0,1,rfl,by omega,by omega,by omega,hr⟩) ?post)
  case fin=>
   rintro z st' ⟨rfl,l,o,rfl,h1,h2,h3,h4⟩;exact⟨rfl,l,o,rfl,h1,h3,h4,λh5=>by omega⟩
  case step=>
   rintro x z st' _ hx ⟨rfl,l,o,rfl,h1,h2,h3,h4⟩
   dsimp only
   by_cases g:o≥n - hint
   ·rw[if_pos g];exact Qk ⟨rfl,l,o,rfl,h1,h3,h4,λh5=>by omega⟩
   ·rw[if_neg g];refine Qj (bey (hint+o) _ (by omega) ?_);cases e:Qc1 c lf kk xs (b+(hint+o)) with
    |true=>exact Qk ⟨rfl,o,2*o+1,rfl,by omega,by omega,by omega,e⟩
    |false=>exact Qk ⟨rfl,l,o,rfl,h1,h3,h4,λ_=>e⟩
  case post=>
   rintro z st' ⟨rfl,l,o,rfl,h1,h3,h4,h5⟩
   dsimp only
   refine Qj (YQ (J4 (I:=λx z st''=>st''=st'/\∃u v,z=(none,u,v)/\v<=n/\u<=v/\v - u<=n - x/\(∀i,i<u->Qc1 c lf kk xs (b+i)=true)/\(∀i,v<=i->i<n->Qc1 c lf kk xs (b+i)=false))
    (Q:=λz st''=>st''=st'/\∃v,z=(none,v,v)/\v<=n/\(∀i,i<v->Qc1 c lf kk xs (b+i)=true)/\(∀i,v<=i->i<n->Qc1 c lf kk xs (b+i)=false)) ?step2 ?fin2 ?init2) ?post2)
   case init2=>
    refine⟨rfl,_,_,rfl,by omega,by omega,by omega,λi hi=>mono (by omega) h3 h4,λi hi hn=>?_⟩;exact monoF (i:=hint+o) (by omega) hn (h5 (by omega))
   case fin2=>
    rintro z st'' ⟨rfl,u,v,rfl,g1,g2,g3,g4,g5⟩;have:u=v:=by omega
    subst this;exact⟨rfl,u,rfl,g1,g4,g5⟩
   case step2=>
    rintro x z st'' _ hx ⟨rfl,u,v,rfl,g1,g2,g3,g4,g5⟩
    dsimp only
    by_cases g:u≥v
    ·rw[if_pos g];have:u=v:=by omega
     subst this;exact Qk ⟨rfl,u,rfl,g1,g4,g5⟩
    ·rw[if_neg g];refine Qj (bey (u+(v - u) / 2) _ (by omega) ?_);cases e:Qc1 c lf kk xs (b+(u+(v - u) / 2)) with
     |true=>exact Qk ⟨rfl,_,_,rfl,g1,by omega,by omega,λi hi=>mono (by omega) (by omega) e,g5⟩
     |false=>exact Qk ⟨rfl,_,_,rfl,by omega,by omega,by omega,g4,λi hi hn=>monoF hi hn e⟩
   case post2=>
    rintro z st'' ⟨rfl,v,rfl,g1,g4,g5⟩;exact Qk (h v g1 g4 g5)
 |false=>
  dsimp only
  rw[if_neg (by decide)];refine Qj (YQ (J4 (I:=λx z st'=>st'=st/\∃l o,z=(none,l,o)/\l<o/\x+1<=o/\l<=hint/\Qc1 c lf kk xs (b+(hint - l))=false)
   (Q:=λz st'=>st'=st/\∃l o,z=(none,l,o)/\l<o/\l<=hint/\Qc1 c lf kk xs (b+(hint - l))=false/\(o<=hint->Qc1 c lf kk xs (b+(hint - o))=true)) ?step ?fin ⟨rfl,0,1,rfl,by omega,by omega,by omega,hr⟩) ?post)
  case fin=>
   rintro z st' ⟨rfl,l,o,rfl,h1,h2,h3,h4⟩;exact⟨rfl,l,o,rfl,h1,h3,h4,λh5=>by omega⟩
  case step=>
   rintro x z st' _ hx ⟨rfl,l,o,rfl,h1,h2,h3,h4⟩
   dsimp only
   by_cases g:o≥hint+1
   ·rw[if_pos g];exact Qk ⟨rfl,l,o,rfl,h1,h3,h4,λh5=>by omega⟩
   ·rw[if_neg g];refine Qj (bey (hint - o) _ (by omega) ?_);cases e:Qc1 c lf kk xs (b+(hint - o)) with
    |false=>exact Qk ⟨rfl,o,2*o+1,rfl,by omega,by omega,by omega,e⟩
    |true=>exact Qk ⟨rfl,l,o,rfl,h1,h3,h4,λ_=>e⟩
  case post=>
   rintro z st' ⟨rfl,l,o,rfl,h1,h3,h4,h5⟩
   dsimp only
   refine Qj (YQ (J4 (I:=λx z st''=>st''=st'/\∃u v,z=(none,u,v)/\v<=n/\u<=v/\v - u<=n - x/\(∀i,i<u->Qc1 c lf kk xs (b+i)=true)/\(∀i,v<=i->i<n->Qc1 c lf kk xs (b+i)=false))
    (Q:=λz st''=>st''=st'/\∃v,z=(none,v,v)/\v<=n/\(∀i,i<v->Qc1 c lf kk xs (b+i)=true)/\(∀i,v<=i->i<n->Qc1 c lf kk xs (b+i)=false)) ?step2 ?fin2 ?init2) ?post2)
   case init2=>
    refine⟨rfl,_,_,rfl,by omega,by omega,by omega,λi hi=>?_,λi hi hn=>monoF hi hn h4⟩;exact mono (j:=hint - o) (by omega) (by omega) (h5 (by omega))
   case fin2=>
    rintro z st'' ⟨rfl,u,v,rfl,g1,g2,g3,g4,g5⟩;have:u=v:=by omega
    subst this;exact⟨rfl,u,rfl,g1,g4,g5⟩
   case step2=>
    rintro x z st'' _ hx ⟨rfl,u,v,rfl,g1,g2,g3,g4,g5⟩
    dsimp only
    by_cases g:u≥v
    ·rw[if_pos g];have:u=v:=by omega
     subst this;exact Qk ⟨rfl,u,rfl,g1,g4,g5⟩
    ·rw[if_neg g];refine Qj (bey (u+(v - u) / 2) _ (by omega) ?_);cases e:Qc1 c lf kk xs (b+(u+(v - u) / 2)) with
     |true=>exact Qk ⟨rfl,_,_,rfl,g1,by omega,by omega,λi hi=>mono (by omega) (by omega) e,g5⟩
     |false=>exact Qk ⟨rfl,_,_,rfl,by omega,by omega,by omega,g4,λi hi hn=>monoF hi hn e⟩
   case post2=>
    rintro z st'' ⟨rfl,v,rfl,g1,g4,g5⟩;exact Qk (h v g1 g4 g5)
structure Fb (κ:Z7) (a₀:Array Keyed) (lo:Nat) (st st':J1):Prop where
 sb:SB κ a₀ st'
 pend:pendingOf st'=pendingOf st
 low:∀k,k<lo->kx (arrOf st') k=kx (arrOf st) k
theorem Fb.refl{st:J1}{lo:Nat}(h:SB κ a₀ st):Fb κ a₀ lo st st:=⟨h,rfl,λ_ _=>rfl⟩
theorem QnI{xs:Array Keyed}{i j:Nat}(hj:j<=xs.size)(k:Nat):kx (mirror xs i j ((j - i) / 2)) k=if i<=k/\k<j then kx xs (i+j - 1 - k) else kx xs k:=by
 have e:=QvU (i:=i) hj k;by_cases h1:i<=k/\k<j
 ·rw[if_pos h1] at e ⊢;exact Qjy e
 ·rw[if_neg h1] at e ⊢;exact Qjy e
theorem Qcb{st:J1}{i j lo:Nat}{st0:J1}{Q:Unit->J1->Prop}(fb:Fb κ a₀ lo st0 st)(hi:lo<=i)(hj:j<=a₀.size)
  (h:∀st',Fb κ a₀ lo st0 st'->(∀k,kx (arrOf st') k=if i<=k/\k<j then kx (arrOf st) (i+j - 1 - k) else kx (arrOf st) k)->Q () st'):wpS (model prog w) A E s (reverseSlice' i j) Q st:=by
 rw[reverseSlice'_eq];have km:∀k,kx (mirror (arrOf st) i j ((j - i) / 2)) k=if i<=k/\k<j then kx (arrOf st) (i+j - 1 - k) else kx (arrOf st) k:=λk=>QnI (by rw[fb.sb.size];exact hj) k
 refine QaO (h _ ⟨⟨(mirror_perm _ _ _ _).trans fb.sb.perm,fb.sb.kind,fb.sb.failed⟩,fb.pend,λk hk=>?_⟩ km);show kx (mirror (arrOf st) i j ((j - i) / 2)) k=_;rw[km,if_neg (by omega)];exact fb.low k hk
def QBn(lo a nr:Nat):StateT J1 Sem (Option (Option Nat)×Nat):=
 forIn [a:nr] ((none,a):Option (Option Nat)×Nat) λ_ z=>do
  let r <- ltAt' (lo+z.2) (lo+z.2 - 1)
  match r with
  |some b=>if b=true then pure (Qbu (none,z.2)) else pure (J3 (none,z.2+1))
  |_=>pure (Qbu (some none,z.2))
theorem QeY{st:J1}{lo a nr:Nat}{Q:Option (Option Nat)×Nat->J1->Prop}(hA:Asks prog w A s κ a₀ c)(hn:lo+nr<=a₀.size)(h1:1<=a)(han:a<=nr)(hB:SB κ a₀ st)(sg:Sg c (arrOf st) lo (lo+a))
  (h:∀n,a<=n->n<=nr->Sg c (arrOf st) lo (lo+n)->(n=nr∨c (kx (arrOf st) (lo+n)) (kx (arrOf st) (lo+n - 1))=true)->Q (none,n) st):wpS (model prog w) A E s (QBn lo a nr) Q st:=by
 unfold QBn;refine J4 (I:=λx z st'=>st'=st/\z=(none,x)/\Sg c (arrOf st) lo (lo+x)) ?step ?fin ⟨rfl,rfl,sg⟩
 case fin=>
  rintro z st' ⟨rfl,rfl,hs⟩;rw[show max a nr=nr by omega] at hs ⊢;exact h nr han (Qi _) hs (.inl rfl)
 case step=>
  rintro x z st' hax hxn ⟨rfl,rfl,hs⟩
  dsimp only
  refine Qj (QeW hA hB (by omega) (by omega) ?_);cases e:c (kx (arrOf st') (lo+x)) (kx (arrOf st') (lo+x - 1)) with
  |true=>exact Qk (h x hax (by omega) hs (.inr e))
  |false=>
   refine Qk ⟨rfl,rfl,λi j hi hij hj=>?_⟩;by_cases z:j<lo+x
   ·exact hs i j hi hij z
   ·have zj:j=lo+x:=by omega
    subst zj;by_cases zi:i=lo+x
    ·subst zi;exact hA.ord.irr _
    ·exact hA.ord.tr (hs i (lo+x - 1) hi (by omega) (by omega)) e
def Ng(c:Keyed->Keyed->Bool)(xs:Array Keyed)(lo hi:Nat):Prop:=∀i j,lo<=i->i<=j->j<hi->le c (kx xs j) (kx xs i)
def Eqv(c:Keyed->Keyed->Bool)(x y:Keyed):Prop:=le c x y/\le c y x
theorem Eqv.ng(o:Ord c){xs ys:Array Keyed}{lo hi:Nat}(h:∀k,lo<=k->k<hi->Eqv c (kx ys k) (kx xs k))(n:Ng c xs lo hi):Ng c ys lo hi:=λi j hi' hij hj=>
 o.tr (h j (by omega) hj).1 (o.tr (n i j hi' hij hj) (h i hi' (by omega)).2)
theorem QgR(o:Ord c){xs ys:Array Keyed}{u v:Nat}(h:∀k,kx ys k=if u<=k/\k<v then kx xs (u+v - 1 - k) else kx xs k)(q:∀k,u<=k->k<v->Eqv c (kx xs k) (kx xs (v - 1)))(k:Nat):Eqv c (kx ys k) (kx xs k):=by
 rw[h k];split
 ·rename_i z
  have a:=q (u+v - 1 - k) (by omega) (by omega);have b:=q k z.1 z.2;exact⟨o.tr a.1 b.2,o.tr b.1 a.2⟩
 ·exact⟨o.irr _,o.irr _⟩
def Qx9(lo n nr:Nat):StateT J1 Sem (Option (Option Nat)×Nat×Nat):=
 forIn [n:nr] ((none,n,0):Option (Option Nat)×Nat×Nat) λ_ z=>do
  let r <- ltAt' (lo+z.2.1) (lo+z.2.1 - 1)
  match r with
  |some b=>
   if b=true then
    if z.2.2 > 0 then do
     reverseSlice' (lo+z.2.1 - (z.2.2+1)) (lo+z.2.1)
     pure (J3 (none,z.2.1+1,0))
    else pure (J3 (none,z.2.1+1,0))
   else do
    let r <- ltAt' (lo+z.2.1 - 1) (lo+z.2.1)
    match r with
    |some b=>
     if b=true then pure (Qbu (none,z.2.1,z.2.2))
     else pure (J3 (none,z.2.1+1,z.2.2+1))
    |_=>pure (Qbu (some none,z.2.1,z.2.2))
  |_=>pure (Qbu (some none,z.2.1,z.2.2))
theorem Qfd(o:Ord c){xs:Array Keyed}{lo n:Nat}(h:Ng c xs lo (lo+n))(h1:1<=n)(l:le c (kx xs (lo+n)) (kx xs (lo+n - 1))):Ng c xs lo (lo+(n+1)):=λi j hi hij hj=>by
 by_cases z:j<lo+n
 ·exact h i j hi hij z
 ·have zj:j=lo+n:=by omega
  subst zj;by_cases zi:i=lo+n
  ·subst zi;exact o.irr _
  ·exact o.tr l (h i (lo+n - 1) hi (by omega) (by omega))
theorem QjT{st st0:J1}{lo n nr:Nat}{Q:Option (Option Nat)×Nat×Nat->J1->Prop}(hA:Asks prog w A s κ a₀ c)(hn:lo+nr<=a₀.size)(h1:1<=n)(han:n<=nr)(fb:Fb κ a₀ lo st0 st)(ng:Ng c (arrOf st) lo (lo+n))
  (h:∀m q st',n<=m->m<=nr->Fb κ a₀ lo st0 st'->Ng c (arrOf st') lo (lo+m)->q+1<=m->(∀k,lo+m - (q+1)<=k->k<lo+m->Eqv c (kx (arrOf st') k) (kx (arrOf st') (lo+m - 1)))->Q (none,m,q) st'):wpS (model prog w) A E s (Qx9 lo n nr) Q st:=by
 unfold Qx9;have ir:∀x,Eqv c x x:=λx=>⟨hA.ord.irr x,hA.ord.irr x⟩
 refine J4 (I:=λx z st'=>∃q,z=(none,x,q)/\Fb κ a₀ lo st0 st'/\Ng c (arrOf st') lo (lo+x)/\q+1<=x/\(∀k,lo+x - (q+1)<=k->k<lo+x->Eqv c (kx (arrOf st') k) (kx (arrOf st') (lo+x - 1)))) ?step ?fin
  ⟨0,rfl,fb,ng,h1,λk k1 k2=>by rw[show k=lo+n - 1 by omega];exact ir _⟩
 case fin=>
  rintro z st' ⟨q,rfl,f,g,g1,g2⟩;rw[show max n nr=nr by omega] at g g1 g2 ⊢;exact h nr q st' han (Qi _) f g g1 g2
 case step=>
  rintro x z st' hax hxn ⟨q,rfl,f,g,g1,g2⟩
  dsimp only
  refine Qj (QeW hA f.sb (by omega) (by omega) ?_);cases e:c (kx (arrOf st') (lo+x)) (kx (arrOf st') (lo+x - 1)) with
  |true=>
   dsimp only
   rw[if_pos rfl];by_cases zq:q > 0
   ·rw[if_pos zq];refine Qj (Qcb f (by omega) (by omega) λst2 f2 km=>Qk ⟨0,rfl,f2,?_,by omega,λk k1 k2=>by rw[show k=lo+(x+1) - 1 by omega];exact ir _⟩);refine Eqv.ng hA.ord (xs:=arrOf st') (λk _ _=>QgR hA.ord km g2 k) (Qfd hA.ord g (by omega) (hA.ord.lt_le e))
   ·rw[if_neg zq];exact Qk ⟨0,rfl,f,Qfd hA.ord g (by omega) (hA.ord.lt_le e),by omega,λk k1 k2=>by rw[show k=lo+(x+1) - 1 by omega];exact ir _⟩
  |false=>
   dsimp only
   rw[if_neg (by decide)];refine Qj (QeW hA f.sb (by omega) (by omega) ?_);cases e2:c (kx (arrOf st') (lo+x - 1)) (kx (arrOf st') (lo+x)) with
   |true=>exact Qk (h x q st' hax (by omega) f g g1 g2)
   |false=>
    refine Qk ⟨q+1,rfl,f,Qfd hA.ord g (by omega) e2,by omega,λk k1 k2=>?_⟩;rw[show lo+(x+1) - 1=lo+x by omega];by_cases zk:k=lo+x
    ·subst zk;exact ir _
    ·have a:=g2 k (by omega) (by omega);exact⟨hA.ord.tr a.1 e,hA.ord.tr e2 a.2⟩
theorem Qrp{xs ys:Array Keyed}{lo hi:Nat}(h:∀k,kx ys k=if lo<=k/\k<hi then kx xs (lo+hi - 1 - k) else kx xs k)(n:Ng c xs lo hi):Sg c ys lo hi:=λi j hi' hij hj=>by
 rw[h i,h j,if_pos (by omega),if_pos (by omega)];exact n _ _ (by omega) (by omega) (by omega)
theorem QgD{st:J1}{lo nr:Nat}{Q:Option Nat->J1->Prop}(hA:Asks prog w A s κ a₀ c)(hn:lo+nr<=a₀.size)(h1:1<=nr)(hB:SB κ a₀ st)
  (h:∀m st',Fb κ a₀ lo st st'->1<=m->m<=nr->Sg c (arrOf st') lo (lo+m)->Q (some m) st'):wpS (model prog w) A E s (countRun' lo nr) Q st:=by
 rw[countRun'_eq]
 dsimp only
 refine Qj (QeY (lo:=lo) (a:=1) (nr:=nr) hA hn (Qi _) h1 hB (λi j hi hij hj=>by rw[show i=j by omega];exact hA.ord.irr _) λn n1 n2 sg hor=>?_)
 dsimp only
 by_cases zn:n=nr
 ·rw[if_pos (by simpa using zn)];exact Qk (h n st (Fb.refl hB) n1 n2 sg)
 ·rw[if_neg (by simpa using zn)];have hlt:=hor.resolve_left zn;by_cases zg:n > 1
  ·rw[if_pos zg];refine Qj (QeW hA hB (by omega) (by omega) ?_);cases e:c (kx (arrOf st) lo) (kx (arrOf st) (lo+n - 1)) with
   |true=>exact Qk (h n st (Fb.refl hB) n1 n2 sg)
   |false=>
    have all:∀k,lo<=k->k<lo+n->Eqv c (kx (arrOf st) k) (kx (arrOf st) (lo+n - 1)):=λk k1 k2=>
     ⟨sg k (lo+n - 1) k1 (by omega) (by omega),hA.ord.tr e (sg lo k (Qi _) k1 k2)⟩
    dsimp only
    rw[if_neg (by decide)];refine Qj (Qcb (Fb.refl hB) (Qi _) (by omega) λst2 f2 km=>?_);have ng2:Ng c (arrOf st2) lo (lo+(n+1)):=by
     refine Eqv.ng hA.ord (xs:=arrOf st) (λk k1 k2=>QgR hA.ord km all k) (Qfd hA.ord (λi j i1 ij j1=>?_) n1 (hA.ord.lt_le hlt));have a:=all i i1 (by omega);have b:=all j (by omega) j1;exact hA.ord.tr b.1 a.2
    refine Qj (Qey (wpAny_rule ⟨rfl,?_⟩));refine Qj (QjT (lo:=lo) (n:=n+1) (nr:=nr) hA hn (by omega) (by omega) f2 (ng2) λm q st' m1 m2 f5 g g1 g2=>?_)
    dsimp only
    by_cases zq:q > 0
    ·rw[if_pos zq];refine Qj (Qcb f5 (by omega) (by omega) λst3 f3 km3=>?_);refine Qj (Qcb f3 (Qi _) (by omega) λst4 f4 km4=>?_);refine Qj (QeY (lo:=lo) (a:=m) (nr:=nr) hA hn (by omega) m2 f4.sb (Qrp km4 (Eqv.ng hA.ord (xs:=arrOf st') (λk _ _=>QgR hA.ord km3 g2 k) g)) λk k1 k2 sg4 _=>Qk (h k st4 f4 (by omega) k2 sg4))
    ·rw[if_neg zq];refine Qj (Qcb f5 (Qi _) (by omega) λst4 f4 km4=>?_);refine Qj (QeY (lo:=lo) (a:=m) (nr:=nr) hA hn (by omega) m2 f4.sb (Qrp km4 (g)) λk k1 k2 sg4 _=>Qk (h k st4 f4 (by omega) k2 sg4))
  ·rw[if_neg zg];have z1:n=1:=by omega
   subst z1;refine Qj (Qey (wpAny_rule ⟨rfl,?_⟩));refine Qj (QjT (lo:=lo) (n:=1+1) (nr:=nr) hA hn (by omega) (by omega) (Fb.refl hB) (Qfd hA.ord (λi j i1 ij j1=>by rw[show i=j by omega];exact hA.ord.irr _) n1 (hA.ord.lt_le hlt)) λm q st' m1 m2 f5 g g1 g2=>?_)
   dsimp only
   by_cases zq:q > 0
   ·rw[if_pos zq];refine Qj (Qcb f5 (by omega) (by omega) λst3 f3 km3=>?_);refine Qj (Qcb f3 (Qi _) (by omega) λst4 f4 km4=>?_);refine Qj (QeY (lo:=lo) (a:=m) (nr:=nr) hA hn (by omega) m2 f4.sb (Qrp km4 (Eqv.ng hA.ord (xs:=arrOf st') (λk _ _=>QgR hA.ord km3 g2 k) g)) λk k1 k2 sg4 _=>Qk (h k st4 f4 (by omega) k2 sg4))
   ·rw[if_neg zq];refine Qj (Qcb f5 (Qi _) (by omega) λst4 f4 km4=>?_);refine Qj (QeY (lo:=lo) (a:=m) (nr:=nr) hA hn (by omega) m2 f4.sb (Qrp km4 (g)) λk k1 k2 sg4 _=>Qk (h k st4 f4 (by omega) k2 sg4))
theorem QnJ{xs:Array Keyed}{src d:Nat}(hs:src<xs.size)(hd:d<=src)(k:Nat):kx (bubble xs src d) k=if k=src - d then kx xs src else if src - d<k/\k<=src then kx xs (k - 1) else kx xs k:=by
 have e:=getElem?_bubble hs d hd k
 by_cases h1:k=src - d
 ·rw[if_pos h1] at e ⊢;exact Qjy e
 ·rw[if_neg h1] at e ⊢;by_cases h2:src - d<k/\k<=src
  ·rw[if_pos h2] at e ⊢;exact Qjy e
  ·rw[if_neg h2] at e ⊢;exact Qjy e
theorem QeX{st:J1}{lo n ok:Nat}{Q:Bool->J1->Prop}(hA:Asks prog w A s κ a₀ c)(hn:lo+n<=a₀.size)(h1:1<=ok)(hok:ok<=n)(hB:SB κ a₀ st)(sg:Sg c (arrOf st) lo (lo+ok))
  (h:∀st',Fb κ a₀ lo st st'->Sg c (arrOf st') lo (lo+n)->Q true st'):wpS (model prog w) A E s (binarySort' lo n ok) Q st:=by
 rw[binarySort'_eq];refine Qj (YQ (J4 (I:=λk z st'=>z=(none,())/\Fb κ a₀ lo st st'/\Sg c (arrOf st') lo (lo+min k n)) (Q:=λz st'=>z=(none,())/\Fb κ a₀ lo st st'/\Sg c (arrOf st') lo (lo+n)) ?step ?fin ⟨rfl,Fb.refl hB,by rw[show min (max ok 1) n=ok by omega];exact sg⟩) ?post)
 case post=>
  rintro z st' ⟨rfl,f,g⟩;exact Qk (h st' f g)
 case fin=>
  rintro z st' ⟨rfl,f,g⟩;rw[show min (max (max ok 1) n) n=n by omega] at g;exact⟨rfl,f,g⟩
 case step=>
  rintro k z st' hak hkn ⟨rfl,f,g⟩;rw[show min k n=k by omega] at g;refine Qj (YQ (J4 (I:=λx z st''=>st''=st'/\∃l r,z=(none,l,r)/\l<=r/\r<=k/\r - l<=k - x/\(∀i,i<l->le c (kx (arrOf st') (lo+i)) (kx (arrOf st') (lo+k)))/\(∀i,r<=i->i<k->le c (kx (arrOf st') (lo+k)) (kx (arrOf st') (lo+i))))
   (Q:=λz st''=>st''=st'/\∃l r,z=(none,l,r)/\l<=k/\(∀i,i<l->le c (kx (arrOf st') (lo+i)) (kx (arrOf st') (lo+k)))/\(∀i,l<=i->i<k->le c (kx (arrOf st') (lo+k)) (kx (arrOf st') (lo+i)))) ?istep ?ifin ⟨rfl,0,k,rfl,by omega,by omega,by omega,λi hi=>by omega,λi a b=>by omega⟩) ?ipost)
  case ifin=>
   rintro z st'' ⟨rfl,l,r,rfl,h1,h2,h3,h4,h5⟩;have:l=r:=by omega
   subst this;exact⟨rfl,l,l,rfl,h2,h4,h5⟩
  case istep=>
   rintro x z st'' _ hx ⟨rfl,l,r,rfl,h1,h2,h3,h4,h5⟩
   dsimp only
   by_cases zz:l≥r
   ·rw[if_pos zz];have:l=r:=by omega
    subst this;exact Qk ⟨rfl,l,l,rfl,h2,h4,h5⟩
   ·rw[if_neg zz];refine Qj (QeW hA f.sb (by omega) (by omega) ?_);cases e:c (kx (arrOf st'') (lo+k)) (kx (arrOf st'') (lo+(l+r) / 2)) with
    |true=>exact Qk ⟨rfl,_,_,rfl,by omega,by omega,by omega,h4,λi a b=>hA.ord.tr (hA.ord.lt_le e) (g _ _ (by omega) (by omega) (by omega))⟩
    |false=>exact Qk ⟨rfl,_,_,rfl,by omega,by omega,by omega,λi a=>hA.ord.tr (g (lo+i) (lo+(l+r) / 2) (by omega) (by omega) (by omega)) e,h5⟩
  case ipost=>
   rintro z st'' ⟨rfl,l,r,rfl,h2,h4,h5⟩
   dsimp only
   rw[moveDown'_eq];have hs:lo+k<(arrOf st'').size:=by rw[f.sb.size];omega
   have kb:∀j,kx (bubble (arrOf st'') (lo+k) (lo+k - (lo+l))) j=if j=lo+l then kx (arrOf st'') (lo+k) else if lo+l<j/\j<=lo+k then kx (arrOf st'') (j - 1) else kx (arrOf st'') j:=λj=>by
    rw[QnJ hs (by omega),show lo+k - (lo+k - (lo+l))=lo+l by omega]
   refine Qj (QaO (Qk ⟨rfl,⟨⟨(bubble_perm _ _ _).trans f.sb.perm,f.sb.kind,f.sb.failed⟩,f.pend,λj hj=>?_⟩,λi j hi hij hj=>?_⟩))
   ·show kx (bubble (arrOf st'') (lo+k) (lo+k - (lo+l))) j=_;rw[kb,if_neg (by omega),if_neg (by omega)];exact f.low j hj
   ·show le c (kx (bubble (arrOf st'') (lo+k) (lo+k - (lo+l))) i) (kx (bubble (arrOf st'') (lo+k) (lo+k - (lo+l))) j);rw[kb,kb];have low:∀i,lo<=i->i<lo+l->le c (kx (arrOf st'') i) (kx (arrOf st'') (lo+k)):=λi a b=>by have:=h4 (i - lo) (by omega);rwa [show lo+(i - lo)=i by omega] at this
    have high:∀i,lo+l<=i->i<lo+k->le c (kx (arrOf st'') (lo+k)) (kx (arrOf st'') i):=λi a b=>by have:=h5 (i - lo) (by omega) (by omega);rwa [show lo+(i - lo)=i by omega] at this
    repeat' split
    all_goals first
     |(exfalso;omega)
     |exact hA.ord.irr _
     |exact low _ (by omega) (by omega)
     |exact high _ (by omega) (by omega)
     |exact g _ _ (by omega) (by omega) (by omega)
end
def YT:Nat->StateT J1 Sem Unit:=sortPriv% PySem.Builtin.setMinGallop
theorem Qev(g:Nat):YT g=modify λz=>QoQ (kindOf z) (arrOf z) (pendingOf z) g (failedOf z):=rfl
def QgZ:Array Keyed->Array Keyed->StateT J1 Sem (Array Keyed):=sortPriv% PySem.Builtin.mergeLo
def Qg0:Array Keyed->Array Keyed->StateT J1 Sem (Array Keyed):=sortPriv% PySem.Builtin.mergeHi
theorem Qjr(a b:Array Keyed):QgZ a b=(do
 rule "list.sort.merge-lo"
 let tot:=a.size+b.size
 let dn (r:Array Keyed) (i j:Nat):=r++a.extract i a.size++b.extract j b.size
 let la (r:Array Keyed) (i j:Nat):=r++b.extract j b.size++a.extract i a.size
 let mut r:Array Keyed:=#[<- elem' b 0]
 let mut i:=0
 let mut j:=1
 if j == b.size then return dn r i j
 if i+1 == a.size then return la r i j
 let mut mg:=gallopOf (<- get)
 for _ in [0:tot] do
  let mut p:=0
  let mut q:=0
  for _ in [0:tot] do
   let some t <- lt' (<- elem' b j) (<- elem' a i) | return dn r i j
   if t then
    r:=r.push (<- elem' b j);j:=j+1;q:=q+1;p:=0
    if j == b.size then return dn r i j
    if q≥mg then break
   else
    r:=r.push (<- elem' a i);i:=i+1;p:=p+1;q:=0
    if i+1 == a.size then return la r i j
    if p≥mg then break
  rule "list.sort.gallop"
  mg:=mg+1
  for _ in [0:tot] do
   if mg > 1 then mg:=mg - 1
   YT mg
   let some k <- Qch false (<- elem' b j) a i (a.size - i) 0 | return dn r i j
   p:=k
   if k > 0 then
    r:=r++a.extract i (i+k);i:=i+k
    if i+1 == a.size then return la r i j
    if i == a.size then return dn r i j
   r:=r.push (<- elem' b j);j:=j+1
   if j == b.size then return dn r i j
   let some k <- Qch true (<- elem' a i) b j (b.size - j) 0 | return dn r i j
   q:=k
   if k > 0 then
    r:=r++b.extract j (j+k);j:=j+k
    if j == b.size then return dn r i j
   r:=r.push (<- elem' a i);i:=i+1
   if i+1 == a.size then return la r i j
   if p<7&&q<7 then break
  mg:=mg+1
  YT mg
 unsupported "internal:list.sort.merge-bound"):=rfl
section
variable{c:Keyed->Keyed->Bool}
abbrev Pw (c:Keyed->Keyed->Bool) (l:List Keyed):Prop:=l.Pairwise (le c)
theorem Qs1{r ch x y:List Keyed}(h1:Pw c (r++(ch++x)))(h2:Pw c (r++y))(h:∀u∈ch,∀v∈y,le c u v):Pw c ((r++ch)++x)/\Pw c ((r++ch)++y):=by
 have h1':Pw c ((r++ch)++x):=by rw[QU];exact h1
 refine⟨h1',?_⟩;have g:=Jh.mp h1';have g2:=Jh.mp h2;refine Jh.mpr ⟨g.1,g2.2.1,λu hu v hv=>?_⟩;rcases Ja.mp hu with z | z
 ·exact g2.2.2 u z v hv
 ·exact h u z v hv
theorem Qa8{xs:Array Keyed}{i:Nat}(h:i<xs.size):xs.toList[i]? = some (kx xs i):=by rw[Q5];exact Qu4 h
theorem Qn8{xs:Array Keyed}{i:Nat}(h:i<xs.size):xs.toList.drop i=kx xs i::xs.toList.drop (i+1):=by
 have hl:i<xs.toList.length:=by rw[Qc];exact h
 rw[Ye hl];have:=Qa8 h;rw[Qf hl] at this;rw[Qm this]
theorem QbU{xs:Array Keyed}{i:Nat}{p:Keyed}(h:p∈xs.toList.drop i):∃k,i<=k/\k<xs.size/\p=kx xs k:=by
 obtain⟨n,hn⟩:=ZJ.mp h;rw[YR] at hn;have hl:=(QD.mp hn).1;rw[Qc] at hl;rw[Qa8 hl] at hn;exact⟨i+n,by omega,hl,(Qm hn).symm⟩
theorem QeP(xs:Array Keyed)(i k:Nat):(xs.extract i (i+k)).toList=(xs.toList.drop i).take k:=by
 rw[Qbe,Qaq,Qk8]
theorem Qd6(xs:Array Keyed)(i:Nat):(xs.extract i xs.size).toList=xs.toList.drop i:=by
 rw[Qbe,Qaq,YM (by rw[YE,Qc];exact Qi _)]
theorem Qfe{xs:Array Keyed}{i k:Nat}{p:Keyed}(h:p∈(xs.toList.drop i).take k):∃t,t<k/\i+t<xs.size/\p=kx xs (i+t):=by
 obtain⟨n,hn⟩:=ZJ.mp h;rw[QeC] at hn;split at hn
 ·rename_i z
  rw[YR] at hn;have hl:=(QD.mp hn).1;rw[Qc] at hl;rw[Qa8 hl] at hn;exact⟨n,z,hl,(Qm hn).symm⟩
 ·cases hn
structure MI (c:Keyed->Keyed->Bool) (a b r:Array Keyed) (i j:Nat):Prop where
 ha:Pw c (r.toList++a.toList.drop i)
 hb:Pw c (r.toList++b.toList.drop j)
 pm:(r.toList++(a.toList.drop i++b.toList.drop j)).Perm (a.toList++b.toList)
def Out(c:Keyed->Keyed->Bool)(a b z:Array Keyed):Prop:=Pw c z.toList/\z.toList.Perm (a.toList++b.toList)
variable{a b r:Array Keyed}{i j k:Nat}
theorem MI.chA(m:MI c a b r i j)(h:∀t,t<k->i+t<a.size->∀n,j<=n->n<b.size->le c (kx a (i+t)) (kx b n)):MI c a b (r++a.extract i (i+k)) (i+k) j:=by
 have e:a.toList.drop i=(a.toList.drop i).take k++a.toList.drop (i+k):=by rw[<- QiI,Jr]
 have e2:(r++a.extract i (i+k)).toList=r.toList++(a.toList.drop i).take k:=by rw[JD,QeP]
 have h1:=m.ha;have pm:=m.pm;rw[e] at h1 pm;obtain⟨g1,g2⟩:=Qs1 h1 m.hb λu hu v hv=>by
  obtain⟨t,t1,t2,rfl⟩:=Qfe hu;obtain⟨n,n1,n2,rfl⟩:=QbU hv;exact h t t1 t2 n n1 n2
 refine⟨by rw[e2];exact g1,by rw[e2];exact g2,?_⟩;rw[e2,QU,<- QU ((a.toList.drop i).take k)];exact pm
theorem MI.chB(m:MI c a b r i j)(h:∀t,t<k->j+t<b.size->∀n,i<=n->n<a.size->le c (kx b (j+t)) (kx a n)):MI c a b (r++b.extract j (j+k)) i (j+k):=by
 have e:b.toList.drop j=(b.toList.drop j).take k++b.toList.drop (j+k):=by rw[<- QiI,Jr]
 have e2:(r++b.extract j (j+k)).toList=r.toList++(b.toList.drop j).take k:=by rw[JD,QeP]
 have h1:=m.hb;have pm:=m.pm;rw[e] at h1 pm;obtain⟨g1,g2⟩:=Qs1 h1 m.ha λu hu v hv=>by
  obtain⟨t,t1,t2,rfl⟩:=Qfe hu;obtain⟨n,n1,n2,rfl⟩:=QbU hv;exact h t t1 t2 n n1 n2
 refine⟨by rw[e2];exact g2,by rw[e2];exact g1,?_⟩;rw[e2,QU];refine Qa4 (YH _ ?_) pm;rw[<- QU,<- QU];exact QaB _ Z8
theorem Qkl{xs:Array Keyed}{i:Nat}(h:i<xs.size):r.push (kx xs i)=r++xs.extract i (i+1):=by
 apply Qco.mp
 rw[Qb5,JD,QeP,Qn8 h];rfl
theorem MI.puA(m:MI c a b r i j)(hi:i<a.size)(h:∀n,j<=n->n<b.size->le c (kx a i) (kx b n)):MI c a b (r.push (kx a i)) (i+1) j:=by
 rw[Qkl hi];refine m.chA λt t1 t2=>?_
 have:t=0:=by omega
 subst this;exact h
theorem MI.puB(m:MI c a b r i j)(hj:j<b.size)(h:∀n,i<=n->n<a.size->le c (kx b j) (kx a n)):MI c a b (r.push (kx b j)) i (j+1):=by
 rw[Qkl hj];refine m.chB λt t1 t2=>?_
 have:t=0:=by omega
 subst this;exact h
theorem MI.dnB(m:MI c a b r i j)(hj:j=b.size):Out c a b (r++a.extract i a.size++b.extract j b.size):=by
 have e:b.toList.drop j=[]:=YN (by rw[Qc];omega);have e2:(r++a.extract i a.size++b.extract j b.size).toList=r.toList++a.toList.drop i:=by rw[JD,JD,Qd6,Qd6,e,Jz]
 have pm:=m.pm;rw[e,Jz] at pm;exact⟨by rw[e2];exact m.ha,by rw[e2];exact pm⟩
theorem MI.dnA(m:MI c a b r i j)(hi:i=a.size):Out c a b (r++a.extract i a.size++b.extract j b.size):=by
 have e:a.toList.drop i=[]:=YN (by rw[Qc];omega);have e2:(r++a.extract i a.size++b.extract j b.size).toList=r.toList++b.toList.drop j:=by rw[JD,JD,Qd6,Qd6,e,Jz]
 have pm:=m.pm;rw[e,QbB] at pm;exact⟨by rw[e2];exact m.hb,by rw[e2];exact pm⟩
theorem MI.last(m:MI c a b r i j)(hi:i+1=a.size)(p2:∀k,k<b.size->le c (kx b k) (kx a (a.size - 1))):Out c a b (r++b.extract j b.size++a.extract i a.size):=by
 have e2:(r++b.extract j b.size++a.extract i a.size).toList=(r.toList++b.toList.drop j)++a.toList.drop i:=by rw[JD,JD,Qd6,Qd6]
 have g:=Jh.mp m.ha;refine⟨by
  rw[e2];refine Jh.mpr ⟨m.hb,g.2.1,λu hu v hv=>?_⟩;rcases Ja.mp hu with z | z
  ·exact g.2.2 u z v hv
  ·obtain⟨n,n1,n2,rfl⟩:=QbU hv;obtain⟨n',n3,n4,rfl⟩:=QbU z;rw[show n=a.size - 1 by omega];exact p2 n' n4,?_⟩
 rw[e2,QU];exact Qa4 (YH _ Z8) m.pm
end
structure Sm (st st':J1):Prop where
 kind:kindOf st'=kindOf st
 arr:arrOf st'=arrOf st
 pend:pendingOf st'=pendingOf st
 failed:failedOf st'=failedOf st
theorem Sm.refl(st:J1):Sm st st:=⟨rfl,rfl,rfl,rfl⟩
section
variable{prog:Qz}{w:Ji}{A:Jb}{E:Value->Shared->Prop}{s:Shared}{a₀:Array Keyed}{κ:Z7}{c:Keyed->Keyed->Bool}
theorem QfP{st st0:J1}{g:Nat}{Q:Unit->J1->Prop}(m:Sm st0 st)(h:∀st',Sm st0 st'->Q () st'):wpS (model prog w) A E s (YT g) Q st:=by
 rw[Qev];exact QaO (h _ ⟨m.kind,m.arr,m.pend,m.failed⟩)
theorem JV{x y:Nat}(h:x≠y):¬((x == y)=true):=λz=>h (beq_iff_eq.mp z)
theorem QiW{st:J1}{a b:Array Keyed}{Q:Array Keyed->J1->Prop}(hA:Asks prog w A s κ a₀ c)(hk:kindOf st=κ)(ma:∀p∈a.toList,p∈a₀.toList)(mb:∀p∈b.toList,p∈a₀.toList)(na:1<=a.size)(nb:1<=b.size)
  (sa:Sg c a 0 a.size)(sb:Sg c b 0 b.size)(p1:∀k,k<a.size->le c (kx b 0) (kx a k))(p2:∀k,k<b.size->le c (kx b k) (kx a (a.size - 1)))(h:∀z st',Sm st st'->Out c a b z->Q z st'):wpS (model prog w) A E s (QgZ a b) Q st:=by
 have pwl:∀{xs:Array Keyed},Sg c xs 0 xs.size->Pw c xs.toList:=λ{xs} sg=>QZ.mpr λx y hx hy hxy=>by
  rw[Qc] at hx hy;have e1:=Qa8 hx;have e2:=Qa8 hy;rw[Qf (by rw[Qc];exact hx)] at e1;rw[Qf (by rw[Qc];exact hy)] at e2;rw[Qm e1,Qm e2];exact sg x y (Qr _) (by omega) hy
 rw[Qjr]
 dsimp only
 refine Qj (Qey (wpAny_rule ⟨rfl,?_⟩));refine Qj (Q9 (by omega) ?_);have m0:MI c a b #[] 0 0:=⟨by rw[ZD];exact pwl sa,by rw[ZD];exact pwl sb,by rw[ZD,ZD];exact Z2 _⟩;have m1:MI c a b #[kx b 0] 0 1:=MI.puB m0 (by omega) λn _ hn=>p1 n hn
 by_cases z1:1=b.size
 ·rw[if_pos (beq_iff_eq.mpr z1)];exact Qk (h _ _ (Sm.refl st) (m1.dnB z1))
 ·rw[if_neg (JV z1)];by_cases z2:0+1=a.size
  ·rw[if_pos (beq_iff_eq.mpr z2)];exact Qk (h _ _ (Sm.refl st) (m1.last z2 p2))
  ·rw[if_neg (JV z2)];refine Qj (QcB ?_);refine Qj (YQ (J4 (I:=λx z st'=>∃r i j mg,z=(none,r,i,j,mg)/\MI c a b r i j/\i+1<a.size/\j<b.size/\x+1<=i+j/\Sm st st')
    (Q:=λz st'=>∃o y,z=(some o,y)/\Out c a b o/\Sm st st') ?step ?fin ⟨_,0,1,_,rfl,m1,by omega,by omega,by omega,Sm.refl st⟩) ?post)
   case post=>
    rintro z st' ⟨o,y,rfl,ho,sm⟩;exact Qk (h o st' sm ho)
   case fin=>
    rintro z st' ⟨r,i,j,mg,rfl,m,i1,j1,x1,sm⟩;exfalso
    omega
   case step=>
    rintro x z st' _ hx ⟨r,i,j,mg,rfl,m,i1,j1,x1,sm⟩
    dsimp only
    refine Qj (YQ (J4 (I:=λy z st2=>∃r i j p q,z=(none,r,i,j,p,q)/\MI c a b r i j/\i+1<a.size/\j<b.size/\x+1+y<=i+j/\Sm st st2)
     (Q:=λz st2=>(∃o y,z=(some o,y)/\Out c a b o/\Sm st st2)∨∃r i j p q,z=(none,r,i,j,p,q)/\MI c a b r i j/\i+1<a.size/\j<b.size/\x+2<=i+j/\Sm st st2) ?step1 ?fin1 ⟨r,i,j,0,0,rfl,m,i1,j1,by omega,sm⟩) ?post1)
    case fin1=>
     rintro z st2 ⟨r,i,j,p,q,rfl,m,i1,j1,x1,sm⟩;exact .inr ⟨r,i,j,p,q,rfl,m,i1,j1,by omega,sm⟩
    case step1=>
     rintro y z st2 _ hy ⟨r,i,j,p,q,rfl,m,i1,j1,x1,sm⟩
     dsimp only
     refine Qj (Q9 j1 ?_);refine Qj (Q9 (by omega) ?_);refine Qj (QhL hA (sm.kind.trans hk) (mb _ (Qfg j1)) (ma _ (Qfg (by omega))) ?_);cases e:c (kx b j) (kx a i) with
     |true=>
      dsimp only
      rw[if_pos rfl];refine Qj (Q9 j1 ?_);have m2:=MI.puB m j1 λn n1 n2=>hA.ord.tr (hA.ord.lt_le e) (sa i n (Qr _) n1 n2)
      by_cases z3:j+1=b.size
      ·rw[if_pos (beq_iff_eq.mpr z3)];exact Qk (.inl ⟨_,_,rfl,m2.dnB z3,sm⟩)
      ·rw[if_neg (JV z3)];split
       ·exact Qk (.inr ⟨_,_,_,_,_,rfl,m2,by omega,by omega,by omega,sm⟩)
       ·exact Qk ⟨_,_,_,_,_,rfl,m2,by omega,by omega,by omega,sm⟩
     |false=>
      dsimp only
      rw[if_neg (by decide)];refine Qj (Q9 (by omega) ?_);have m2:=MI.puA m (by omega) λn n1 n2=>hA.ord.tr e (sb j n (Qr _) n1 n2)
      by_cases z3:i+1+1=a.size
      ·rw[if_pos (beq_iff_eq.mpr z3)];exact Qk (.inl ⟨_,_,rfl,m2.last z3 p2,sm⟩)
      ·rw[if_neg (JV z3)];split
       ·exact Qk (.inr ⟨_,_,_,_,_,rfl,m2,by omega,by omega,by omega,sm⟩)
       ·exact Qk ⟨_,_,_,_,_,rfl,m2,by omega,by omega,by omega,sm⟩
    case post1=>
     rintro z st2 (⟨o,y,rfl,ho,sm⟩ | ⟨r,i,j,p,q,rfl,m,i1,j1,x1,sm⟩)
     ·exact Qk ⟨o,_,rfl,ho,sm⟩
     ·dsimp only
      refine Qj (Qey (wpAny_rule ⟨rfl,?_⟩));refine Qj (YQ (J4 (I:=λy z st3=>∃r i j mg p q,z=(none,r,i,j,mg,p,q)/\MI c a b r i j/\i+1<a.size/\j<b.size/\x+2<=i+j/\Sm st st3)
       (Q:=λz st3=>(∃o y,z=(some o,y)/\Out c a b o/\Sm st st3)∨∃r i j mg p q,z=(none,r,i,j,mg,p,q)/\MI c a b r i j/\i+1<a.size/\j<b.size/\x+2<=i+j/\Sm st st3) ?step2 ?fin2 ⟨r,i,j,_,p,q,rfl,m,i1,j1,by omega,sm⟩) ?post2)
      case fin2=>
       rintro z st3 ⟨r,i,j,mg,p,q,rfl,m,i1,j1,x1,sm⟩;exact .inr ⟨r,i,j,mg,p,q,rfl,m,i1,j1,by omega,sm⟩
      case post2=>
       rintro z st3 (⟨o,y,rfl,ho,sm⟩ | ⟨r,i,j,mg,p,q,rfl,m,i1,j1,x1,sm⟩)
       ·exact Qk ⟨o,_,rfl,ho,sm⟩
       ·dsimp only
        exact Qj (QfP sm λst4 sm4=>Qk ⟨_,_,_,_,rfl,m,i1,j1,by omega,sm4⟩)
      case step2=>
       rintro y z st3 _ hy ⟨r,i,j,mg,p,q,rfl,m,i1,j1,x1,sm⟩
       dsimp only
       by_cases z0:mg > 1
       ·rw[if_pos z0];refine Qj (QfP sm λst4 sm4=>?_);refine Qj (Q9 (by omega) ?_);refine Qj (ZF hA (sm4.kind.trans hk) (mb _ (Qfg (by omega))) ma (by omega) (by omega) (λx y x1 xy y1=>sa x y (Qr _) xy (by omega)) λk kn b1 b2=>?_);have b1:∀t,t<k->(!c (kx b j) (kx a (i+t)))=true:=λt ht=>b1 t ht
        have b2:∀t,k<=t->t<a.size - i->(!c (kx b j) (kx a (i+t)))=false:=λt h1 h2=>b2 t h1 h2
        dsimp only
        have hB1:∀n,i+k<=n->n<a.size->le c (kx b j) (kx a n):=λn n1 n2=>by
         have:=b2 (n - i) (by omega) (by omega);rw[show i+(n - i)=n by omega] at this;exact hA.ord.lt_le (by simpa using this)
        by_cases zk:k > 0
        ·rw[if_pos zk];have m2:=MI.chA (k:=k) m λt t1 t2 n n1 n2=>by
          have:=b1 t t1;exact hA.ord.tr (show le c (kx a (i+t)) (kx b j) by simpa using this) (sb j n (Qr _) n1 n2)
         by_cases z2:i+k+1=a.size
         ·rw[if_pos (beq_iff_eq.mpr z2)];exact Qk (.inl ⟨_,_,rfl,m2.last z2 p2,sm4⟩)
         ·rw[if_neg (JV z2)];by_cases z3:i+k=a.size
          ·rw[if_pos (beq_iff_eq.mpr z3)];exact Qk (.inl ⟨_,_,rfl,m2.dnA z3,sm4⟩)
          ·rw[if_neg (JV z3)];refine Qj (Q9 (by omega) ?_);have m5:=MI.puB m2 (by omega) hB1;by_cases z5:j+1=b.size
           ·rw[if_pos (beq_iff_eq.mpr z5)];exact Qk (.inl ⟨_,_,rfl,m5.dnB z5,sm4⟩)
           ·rw[if_neg (JV z5)];refine Qj (Q9 (by omega) ?_);refine Qj (ZF hA (sm4.kind.trans hk) (ma _ (Qfg (by omega))) mb (by omega) (by omega) (λx y x1 xy y1=>sb x y (Qr _) xy (by omega)) λk2 k2n b1 b2=>?_);have b1:∀t,t<k2->c (kx b (j+1+t)) (kx a (i+k))=true:=λt ht=>b1 t ht
            have b2:∀t,k2<=t->t<b.size - (j+1)->c (kx b (j+1+t)) (kx a (i+k))=false:=λt h1 h2=>b2 t h1 h2
            dsimp only
            have gA:∀n,j+1+k2<=n->n<b.size->le c (kx a (i+k)) (kx b n):=λn n1 n2=>by have:=b2 (n - (j+1)) (by omega) (by omega);rwa [show j+1+(n - (j+1))=n by omega] at this
            by_cases zk2:k2 > 0
            ·rw[if_pos zk2];have m6:=MI.chB (k:=k2) m5 λt t1 t2 n n1 n2=>hA.ord.tr (hA.ord.lt_le (b1 t t1)) (sa (i+k) n (Qr _) n1 n2)
             by_cases z6:j+1+k2=b.size
             ·rw[if_pos (beq_iff_eq.mpr z6)];exact Qk (.inl ⟨_,_,rfl,m6.dnB z6,sm4⟩)
             ·rw[if_neg (JV z6)];refine Qj (Q9 (by omega) ?_);have m9:=MI.puA m6 (by omega) gA;by_cases z9:i+k+1+1=a.size
              ·rw[if_pos (beq_iff_eq.mpr z9)];exact Qk (.inl ⟨_,_,rfl,m9.last z9 p2,sm4⟩)
              ·rw[if_neg (JV z9)];split
               ·exact Qk (.inr ⟨_,_,_,_,_,_,rfl,m9,by omega,by omega,by omega,sm4⟩)
               ·exact Qk ⟨_,_,_,_,_,_,rfl,m9,by omega,by omega,by omega,sm4⟩
            ·rw[if_neg zk2];have zk2:k2=0:=by omega
             subst zk2;refine Qj (Q9 (by omega) ?_);have m9:=MI.puA m5 (by omega) gA;by_cases z9:i+k+1+1=a.size
             ·rw[if_pos (beq_iff_eq.mpr z9)];exact Qk (.inl ⟨_,_,rfl,m9.last z9 p2,sm4⟩)
             ·rw[if_neg (JV z9)];split
              ·exact Qk (.inr ⟨_,_,_,_,_,_,rfl,m9,by omega,by omega,by omega,sm4⟩)
              ·exact Qk ⟨_,_,_,_,_,_,rfl,m9,by omega,by omega,by omega,sm4⟩
        ·rw[if_neg zk];have zk:k=0:=by omega
         subst zk;refine Qj (Q9 (by omega) ?_);have m5:=MI.puB m (by omega) hB1;by_cases z5:j+1=b.size
         ·rw[if_pos (beq_iff_eq.mpr z5)];exact Qk (.inl ⟨_,_,rfl,m5.dnB z5,sm4⟩)
         ·rw[if_neg (JV z5)];refine Qj (Q9 (by omega) ?_);refine Qj (ZF hA (sm4.kind.trans hk) (ma _ (Qfg (by omega))) mb (by omega) (by omega) (λx y x1 xy y1=>sb x y (Qr _) xy (by omega)) λk2 k2n b1 b2=>?_);have b1:∀t,t<k2->c (kx b (j+1+t)) (kx a (i))=true:=λt ht=>b1 t ht
          have b2:∀t,k2<=t->t<b.size - (j+1)->c (kx b (j+1+t)) (kx a (i))=false:=λt h1 h2=>b2 t h1 h2
          dsimp only
          have gA:∀n,j+1+k2<=n->n<b.size->le c (kx a (i)) (kx b n):=λn n1 n2=>by have:=b2 (n - (j+1)) (by omega) (by omega);rwa [show j+1+(n - (j+1))=n by omega] at this
          by_cases zk2:k2 > 0
          ·rw[if_pos zk2];have m6:=MI.chB (k:=k2) m5 λt t1 t2 n n1 n2=>hA.ord.tr (hA.ord.lt_le (b1 t t1)) (sa (i) n (Qr _) n1 n2)
           by_cases z6:j+1+k2=b.size
           ·rw[if_pos (beq_iff_eq.mpr z6)];exact Qk (.inl ⟨_,_,rfl,m6.dnB z6,sm4⟩)
           ·rw[if_neg (JV z6)];refine Qj (Q9 (by omega) ?_);have m9:=MI.puA m6 (by omega) gA;by_cases z9:i+1+1=a.size
            ·rw[if_pos (beq_iff_eq.mpr z9)];exact Qk (.inl ⟨_,_,rfl,m9.last z9 p2,sm4⟩)
            ·rw[if_neg (JV z9)];split
             ·exact Qk (.inr ⟨_,_,_,_,_,_,rfl,m9,by omega,by omega,by omega,sm4⟩)
             ·exact Qk ⟨_,_,_,_,_,_,rfl,m9,by omega,by omega,by omega,sm4⟩
          ·rw[if_neg zk2];have zk2:k2=0:=by omega
           subst zk2;refine Qj (Q9 (by omega) ?_);have m9:=MI.puA m5 (by omega) gA;by_cases z9:i+1+1=a.size
           ·rw[if_pos (beq_iff_eq.mpr z9)];exact Qk (.inl ⟨_,_,rfl,m9.last z9 p2,sm4⟩)
           ·rw[if_neg (JV z9)];split
            ·exact Qk (.inr ⟨_,_,_,_,_,_,rfl,m9,by omega,by omega,by omega,sm4⟩)
            ·exact Qk ⟨_,_,_,_,_,_,rfl,m9,by omega,by omega,by omega,sm4⟩
       ·rw[if_neg z0];refine Qj (QfP sm λst4 sm4=>?_);refine Qj (Q9 (by omega) ?_);refine Qj (ZF hA (sm4.kind.trans hk) (mb _ (Qfg (by omega))) ma (by omega) (by omega) (λx y x1 xy y1=>sa x y (Qr _) xy (by omega)) λk kn b1 b2=>?_);have b1:∀t,t<k->(!c (kx b j) (kx a (i+t)))=true:=λt ht=>b1 t ht
        have b2:∀t,k<=t->t<a.size - i->(!c (kx b j) (kx a (i+t)))=false:=λt h1 h2=>b2 t h1 h2
        dsimp only
        have hB1:∀n,i+k<=n->n<a.size->le c (kx b j) (kx a n):=λn n1 n2=>by
         have:=b2 (n - i) (by omega) (by omega);rw[show i+(n - i)=n by omega] at this;exact hA.ord.lt_le (by simpa using this)
        by_cases zk:k > 0
        ·rw[if_pos zk];have m2:=MI.chA (k:=k) m λt t1 t2 n n1 n2=>by
          have:=b1 t t1;exact hA.ord.tr (show le c (kx a (i+t)) (kx b j) by simpa using this) (sb j n (Qr _) n1 n2)
         by_cases z2:i+k+1=a.size
         ·rw[if_pos (beq_iff_eq.mpr z2)];exact Qk (.inl ⟨_,_,rfl,m2.last z2 p2,sm4⟩)
         ·rw[if_neg (JV z2)];by_cases z3:i+k=a.size
          ·rw[if_pos (beq_iff_eq.mpr z3)];exact Qk (.inl ⟨_,_,rfl,m2.dnA z3,sm4⟩)
          ·rw[if_neg (JV z3)];refine Qj (Q9 (by omega) ?_);have m5:=MI.puB m2 (by omega) hB1;by_cases z5:j+1=b.size
           ·rw[if_pos (beq_iff_eq.mpr z5)];exact Qk (.inl ⟨_,_,rfl,m5.dnB z5,sm4⟩)
           ·rw[if_neg (JV z5)];refine Qj (Q9 (by omega) ?_);refine Qj (ZF hA (sm4.kind.trans hk) (ma _ (Qfg (by omega))) mb (by omega) (by omega) (λx y x1 xy y1=>sb x y (Qr _) xy (by omega)) λk2 k2n b1 b2=>?_);have b1:∀t,t<k2->c (kx b (j+1+t)) (kx a (i+k))=true:=λt ht=>b1 t ht
            have b2:∀t,k2<=t->t<b.size - (j+1)->c (kx b (j+1+t)) (kx a (i+k))=false:=λt h1 h2=>b2 t h1 h2
            dsimp only
            have gA:∀n,j+1+k2<=n->n<b.size->le c (kx a (i+k)) (kx b n):=λn n1 n2=>by have:=b2 (n - (j+1)) (by omega) (by omega);rwa [show j+1+(n - (j+1))=n by omega] at this
            by_cases zk2:k2 > 0
            ·rw[if_pos zk2];have m6:=MI.chB (k:=k2) m5 λt t1 t2 n n1 n2=>hA.ord.tr (hA.ord.lt_le (b1 t t1)) (sa (i+k) n (Qr _) n1 n2)
             by_cases z6:j+1+k2=b.size
             ·rw[if_pos (beq_iff_eq.mpr z6)];exact Qk (.inl ⟨_,_,rfl,m6.dnB z6,sm4⟩)
             ·rw[if_neg (JV z6)];refine Qj (Q9 (by omega) ?_);have m9:=MI.puA m6 (by omega) gA;by_cases z9:i+k+1+1=a.size
              ·rw[if_pos (beq_iff_eq.mpr z9)];exact Qk (.inl ⟨_,_,rfl,m9.last z9 p2,sm4⟩)
              ·rw[if_neg (JV z9)];split
               ·exact Qk (.inr ⟨_,_,_,_,_,_,rfl,m9,by omega,by omega,by omega,sm4⟩)
               ·exact Qk ⟨_,_,_,_,_,_,rfl,m9,by omega,by omega,by omega,sm4⟩
            ·rw[if_neg zk2];have zk2:k2=0:=by omega
             subst zk2;refine Qj (Q9 (by omega) ?_);have m9:=MI.puA m5 (by omega) gA;by_cases z9:i+k+1+1=a.size
             ·rw[if_pos (beq_iff_eq.mpr z9)];exact Qk (.inl ⟨_,_,rfl,m9.last z9 p2,sm4⟩)
             ·rw[if_neg (JV z9)];split
              ·exact Qk (.inr ⟨_,_,_,_,_,_,rfl,m9,by omega,by omega,by omega,sm4⟩)
              ·exact Qk ⟨_,_,_,_,_,_,rfl,m9,by omega,by omega,by omega,sm4⟩
        ·rw[if_neg zk];have zk:k=0:=by omega
         subst zk;refine Qj (Q9 (by omega) ?_);have m5:=MI.puB m (by omega) hB1;by_cases z5:j+1=b.size
         ·rw[if_pos (beq_iff_eq.mpr z5)];exact Qk (.inl ⟨_,_,rfl,m5.dnB z5,sm4⟩)
         ·rw[if_neg (JV z5)];refine Qj (Q9 (by omega) ?_);refine Qj (ZF hA (sm4.kind.trans hk) (ma _ (Qfg (by omega))) mb (by omega) (by omega) (λx y x1 xy y1=>sb x y (Qr _) xy (by omega)) λk2 k2n b1 b2=>?_);have b1:∀t,t<k2->c (kx b (j+1+t)) (kx a (i))=true:=λt ht=>b1 t ht
          have b2:∀t,k2<=t->t<b.size - (j+1)->c (kx b (j+1+t)) (kx a (i))=false:=λt h1 h2=>b2 t h1 h2
          dsimp only
          have gA:∀n,j+1+k2<=n->n<b.size->le c (kx a (i)) (kx b n):=λn n1 n2=>by have:=b2 (n - (j+1)) (by omega) (by omega);rwa [show j+1+(n - (j+1))=n by omega] at this
          by_cases zk2:k2 > 0
          ·rw[if_pos zk2];have m6:=MI.chB (k:=k2) m5 λt t1 t2 n n1 n2=>hA.ord.tr (hA.ord.lt_le (b1 t t1)) (sa (i) n (Qr _) n1 n2)
           by_cases z6:j+1+k2=b.size
           ·rw[if_pos (beq_iff_eq.mpr z6)];exact Qk (.inl ⟨_,_,rfl,m6.dnB z6,sm4⟩)
           ·rw[if_neg (JV z6)];refine Qj (Q9 (by omega) ?_);have m9:=MI.puA m6 (by omega) gA;by_cases z9:i+1+1=a.size
            ·rw[if_pos (beq_iff_eq.mpr z9)];exact Qk (.inl ⟨_,_,rfl,m9.last z9 p2,sm4⟩)
            ·rw[if_neg (JV z9)];split
             ·exact Qk (.inr ⟨_,_,_,_,_,_,rfl,m9,by omega,by omega,by omega,sm4⟩)
             ·exact Qk ⟨_,_,_,_,_,_,rfl,m9,by omega,by omega,by omega,sm4⟩
          ·rw[if_neg zk2];have zk2:k2=0:=by omega
           subst zk2;refine Qj (Q9 (by omega) ?_);have m9:=MI.puA m5 (by omega) gA;by_cases z9:i+1+1=a.size
           ·rw[if_pos (beq_iff_eq.mpr z9)];exact Qk (.inl ⟨_,_,rfl,m9.last z9 p2,sm4⟩)
           ·rw[if_neg (JV z9)];split
            ·exact Qk (.inr ⟨_,_,_,_,_,_,rfl,m9,by omega,by omega,by omega,sm4⟩)
            ·exact Qk ⟨_,_,_,_,_,_,rfl,m9,by omega,by omega,by omega,sm4⟩
end
theorem Qjs(a b:Array Keyed):Qg0 a b=(do
 rule "list.sort.merge-hi"
 let tot:=a.size+b.size
 let dn (r:Array Keyed) (i j:Nat):=a.extract 0 i++b.extract 0 j++r.reverse
 let fb (r:Array Keyed) (i j:Nat):=b.extract 0 j++a.extract 0 i++r.reverse
 let mut i:=a.size - 1
 let mut j:=b.size
 let mut r:Array Keyed:=#[<- elem' a i]
 if i == 0 then return dn r i j
 if j == 1 then return fb r i j
 let mut mg:=gallopOf (<- get)
 for _ in [0:tot] do
  let mut p:=0
  let mut q:=0
  for _ in [0:tot] do
   let some t <- lt' (<- elem' b (j - 1)) (<- elem' a (i - 1)) | return dn r i j
   if t then
    i:=i - 1;r:=r.push (<- elem' a i);p:=p+1;q:=0
    if i == 0 then return dn r i j
    if p≥mg then break
   else
    j:=j - 1;r:=r.push (<- elem' b j);q:=q+1;p:=0
    if j == 1 then return fb r i j
    if q≥mg then break
  rule "list.sort.gallop"
  mg:=mg+1
  for _ in [0:tot] do
   if mg > 1 then mg:=mg - 1
   YT mg
   let some t <- Qch false (<- elem' b (j - 1)) a 0 i (i - 1) | return dn r i j
   let k:=i - t
   p:=k
   if k > 0 then
    r:=r++(a.extract t i).reverse;i:=t
    if i == 0 then return dn r i j
   j:=j - 1;r:=r.push (<- elem' b j)
   if j == 1 then return fb r i j
   let some t <- Qch true (<- elem' a (i - 1)) b 0 j (j - 1) | return dn r i j
   let k:=j - t
   q:=k
   if k > 0 then
    r:=r++(b.extract t j).reverse;j:=t
    if j == 1 then return fb r i j
    if j == 0 then return dn r i j
   i:=i - 1;r:=r.push (<- elem' a i)
   if i == 0 then return dn r i j
   if p<7&&q<7 then break
  mg:=mg+1
  YT mg
 unsupported "internal:list.sort.merge-bound"):=rfl
section
variable{c:Keyed->Keyed->Bool}
theorem Qs0{r ch x y:List Keyed}(h1:Pw c ((x++ch)++r))(h2:Pw c (y++r))(h:∀u∈y,∀v∈ch,le c u v):Pw c (x++(ch++r))/\Pw c (y++(ch++r)):=by
 have h1':Pw c (x++(ch++r)):=by rw[<- QU];exact h1
 refine⟨h1',?_⟩;have g:=Jh.mp h1';have g2:=Jh.mp h2;refine Jh.mpr ⟨g2.1,g.2.1,λu hu v hv=>?_⟩;rcases Ja.mp hv with z | z
 ·exact h u hu v z
 ·exact g2.2.2 u hu v z
theorem QkK(xs:Array Keyed)(i:Nat):(xs.extract 0 i).toList=xs.toList.take i:=by
 rw[Qbe,Qaq,Ql7,ZD]
theorem Qa9(xs:Array Keyed)(t i:Nat):(xs.extract t i).toList=(xs.toList.take i).drop t:=by
 rw[Qbe,Qaq,List.take_drop];by_cases z:t<=i
 ·rw[show t+(i - t)=i by omega]
 ·rw[show i - t=0 by omega,Qdf,YN (by rw[JH];omega),YN (by rw[JH];omega)]
theorem Qak{xs:Array Keyed}{t i:Nat}{p:Keyed}(h:p∈(xs.toList.take i).drop t):∃n,t<=n/\n<i/\n<xs.size/\p=kx xs n:=by
 obtain⟨n,hn⟩:=ZJ.mp h;rw[YR,QeC] at hn;split at hn
 ·rename_i z
  have hl:=(QD.mp hn).1;rw[Qc] at hl;rw[Qa8 hl] at hn;exact⟨t+n,by omega,z,hl,(Qm hn).symm⟩
 ·cases hn
structure MH (c:Keyed->Keyed->Bool) (a b r:Array Keyed) (i j:Nat):Prop where
 ha:Pw c (a.toList.take i++r.toList.reverse)
 hb:Pw c (b.toList.take j++r.toList.reverse)
 pm:((a.toList.take i++b.toList.take j)++r.toList.reverse).Perm (a.toList++b.toList)
variable{a b r:Array Keyed}{i j t:Nat}
theorem QdX(r x:Array Keyed):(r++x.reverse).toList.reverse=x.toList++r.toList.reverse:=by
 rw[JD,Qdh,List.reverse_append,List.reverse_reverse]
theorem MH.chA(m:MH c a b r i j)(ht:t<=i)(h:∀n,t<=n->n<i->n<a.size->∀k,k<j->k<b.size->le c (kx b k) (kx a n)):MH c a b (r++(a.extract t i).reverse) t j:=by
 have e:a.toList.take i=a.toList.take t++(a.toList.take i).drop t:=by
  have:=(Jr t (a.toList.take i)).symm
  rwa [QdK,Y5 ht] at this
 have h1:=m.ha;have pm:=m.pm;rw[e] at h1 pm;obtain⟨g1,g2⟩:=Qs0 h1 m.hb λu hu v hv=>by
  obtain⟨n,n1,n2,n3,rfl⟩:=Qak hv;obtain⟨k,_,k2,k3,rfl⟩:=Qak (t:=0) (by rw[ZD];exact hu);exact h n n1 n2 n3 k k2 k3
 refine⟨by rw[QdX,Qa9];exact g1,by rw[QdX,Qa9];exact g2,?_⟩;rw[QdX,Qa9];refine Qa4 ?_ pm
 rw[<- QU];refine QaB _ ?_
 rw[QU,QU];exact YH _ Z8
theorem MH.chB(m:MH c a b r i j)(ht:t<=j)(h:∀n,t<=n->n<j->n<b.size->∀k,k<i->k<a.size->le c (kx a k) (kx b n)):MH c a b (r++(b.extract t j).reverse) i t:=by
 have e:b.toList.take j=b.toList.take t++(b.toList.take j).drop t:=by
  have:=(Jr t (b.toList.take j)).symm
  rwa [QdK,Y5 ht] at this
 have h1:=m.hb;have pm:=m.pm;rw[e] at h1 pm;obtain⟨g1,g2⟩:=Qs0 h1 m.ha λu hu v hv=>by
  obtain⟨n,n1,n2,n3,rfl⟩:=Qak hv;obtain⟨k,_,k2,k3,rfl⟩:=Qak (t:=0) (by rw[ZD];exact hu);exact h n n1 n2 n3 k k2 k3
 refine⟨by rw[QdX,Qa9];exact g2,by rw[QdX,Qa9];exact g1,?_⟩;rw[QdX,Qa9];refine Qa4 ?_ pm
 rw[<- QU,QU (a.toList.take i)]
theorem Qkk{xs:Array Keyed}{i:Nat}(h1:1<=i)(h:i<=xs.size):r.push (kx xs (i - 1))=r++(xs.extract (i - 1) i).reverse:=by
 apply Qco.mp
 have e:=QeP xs (i - 1) 1;rw[show i - 1+1=i by omega] at e;rw[Qb5,JD,Qdh,e,Qn8 (by omega)];rfl
theorem MH.puA(m:MH c a b r i j)(h1:1<=i)(hi:i<=a.size)(h:∀k,k<j->k<b.size->le c (kx b k) (kx a (i - 1))):MH c a b (r.push (kx a (i - 1))) (i - 1) j:=by
 rw[Qkk h1 hi];refine m.chA (by omega) λn n1 n2 _=>?_
 rw[show n=i - 1 by omega];exact h
theorem MH.puB(m:MH c a b r i j)(h1:1<=j)(hj:j<=b.size)(h:∀k,k<i->k<a.size->le c (kx a k) (kx b (j - 1))):MH c a b (r.push (kx b (j - 1))) i (j - 1):=by
 rw[Qkk h1 hj];refine m.chB (by omega) λn n1 n2 _=>?_
 rw[show n=j - 1 by omega];exact h
theorem Qcu(x y r:Array Keyed)(i j:Nat):(x.extract 0 i++y.extract 0 j++r.reverse).toList=(x.toList.take i++y.toList.take j)++r.toList.reverse:=by
 rw[JD,JD,QkK,QkK,Qdh]
theorem MH.dnA(m:MH c a b r i j)(hi:i=0):Out c a b (a.extract 0 i++b.extract 0 j++r.reverse):=by
 have pm:=m.pm;subst hi;refine⟨?_,by rw[Qcu];exact pm⟩;rw[Qcu,QvZ,QbB];exact m.hb
theorem MH.dnB(m:MH c a b r i j)(hj:j=0):Out c a b (a.extract 0 i++b.extract 0 j++r.reverse):=by
 have pm:=m.pm;subst hj;refine⟨?_,by rw[Qcu];exact pm⟩;rw[Qcu,QvZ,Jz];exact m.ha
theorem MH.fb(m:MH c a b r i j)(hj:j=1)(p1:∀k,k<a.size->le c (kx b 0) (kx a k)):Out c a b (b.extract 0 j++a.extract 0 i++r.reverse):=by
 refine⟨?_,?_⟩
 ·rw[Qcu];have g:=Jh.mp m.hb;rw[QU];refine Jh.mpr ⟨g.1,m.ha,λu hu v hv=>?_⟩;rcases Ja.mp hv with z | z
  ·obtain⟨k,_,k2,k3,rfl⟩:=Qak (t:=0) (by rw[ZD];exact hu);obtain⟨n,_,n2,n3,rfl⟩:=Qak (t:=0) (by rw[ZD];exact z);rw[show k=0 by omega];exact p1 n n3
  ·exact g.2.2 u hu v z
 ·rw[Qcu];exact Qa4 (QaB _ Z8) m.pm
end
section
variable{prog:Qz}{w:Ji}{A:Jb}{E:Value->Shared->Prop}{s:Shared}{a₀:Array Keyed}{κ:Z7}{c:Keyed->Keyed->Bool}
theorem Qkj{xs:Array Keyed}(sg:Sg c xs 0 xs.size):Pw c xs.toList:=QZ.mpr λx y hx hy hxy=>by
 rw[Qc] at hx hy;have e1:=Qa8 hx;have e2:=Qa8 hy;rw[Qf (by rw[Qc];exact hx)] at e1;rw[Qf (by rw[Qc];exact hy)] at e2;rw[Qm e1,Qm e2];exact sg x y (Qr _) (by omega) hy
theorem QiX{st:J1}{a b:Array Keyed}{Q:Array Keyed->J1->Prop}(hA:Asks prog w A s κ a₀ c)(hk:kindOf st=κ)(ma:∀p∈a.toList,p∈a₀.toList)(mb:∀p∈b.toList,p∈a₀.toList)(na:1<=a.size)(nb:1<=b.size)
  (sa:Sg c a 0 a.size)(sb:Sg c b 0 b.size)(p1:∀k,k<a.size->le c (kx b 0) (kx a k))(p2:∀k,k<b.size->le c (kx b k) (kx a (a.size - 1)))(h:∀z st',Sm st st'->Out c a b z->Q z st'):wpS (model prog w) A E s (Qg0 a b) Q st:=by
 rw[Qjs]
 dsimp only
 refine Qj (Qey (wpAny_rule ⟨rfl,?_⟩));refine Qj (Q9 (by omega) ?_);have tk:∀xs:Array Keyed,xs.toList.take xs.size=xs.toList:=λxs=>YM (by rw[Qc];exact Qi _)
 have m0:MH c a b #[] a.size b.size:=⟨by rw[tk];show Pw c (a.toList++[]);rw[Jz];exact Qkj sa,by rw[tk];show Pw c (b.toList++[]);rw[Jz];exact Qkj sb,by rw[tk,tk];show((a.toList++b.toList)++[]).Perm _;rw[Jz]⟩;have m1:MH c a b #[kx a (a.size - 1)] (a.size - 1) b.size:=MH.puA m0 na (Qi _) λk _ hk=>p2 k hk
 by_cases z1:a.size - 1=0
 ·rw[if_pos (beq_iff_eq.mpr z1)];exact Qk (h _ _ (Sm.refl st) (m1.dnA z1))
 ·rw[if_neg (JV z1)];by_cases z2:b.size=1
  ·rw[if_pos (beq_iff_eq.mpr z2)];exact Qk (h _ _ (Sm.refl st) (m1.fb z2 p1))
  ·rw[if_neg (JV z2)];refine Qj (QcB ?_);refine Qj (YQ (J4 (I:=λx z st'=>∃r i j mg,z=(none,i,j,r,mg)/\MH c a b r i j/\1<=i/\i<=a.size/\2<=j/\j<=b.size/\x+1+i+j<=a.size+b.size/\Sm st st')
    (Q:=λz st'=>∃o y,z=(some o,y)/\Out c a b o/\Sm st st') ?step ?fin ⟨_,_,_,_,rfl,m1,by omega,by omega,by omega,by omega,by omega,Sm.refl st⟩) ?post)
   case post=>
    rintro z st' ⟨o,y,rfl,ho,sm⟩;exact Qk (h o st' sm ho)
   case fin=>
    rintro z st' ⟨r,i,j,mg,rfl,m,i1,i2,j1,j2,x1,sm⟩;exfalso
    omega
   case step=>
    rintro x z st' _ hx ⟨r,i,j,mg,rfl,m,i1,i2,j1,j2,x1,sm⟩
    dsimp only
    refine Qj (YQ (J4 (I:=λy z st2=>∃r i j p q,z=(none,i,j,r,p,q)/\MH c a b r i j/\1<=i/\i<=a.size/\2<=j/\j<=b.size/\x+1+y+i+j<=a.size+b.size/\Sm st st2)
     (Q:=λz st2=>(∃o y,z=(some o,y)/\Out c a b o/\Sm st st2)∨∃r i j p q,z=(none,i,j,r,p,q)/\MH c a b r i j/\1<=i/\i<=a.size/\2<=j/\j<=b.size/\x+2+i+j<=a.size+b.size/\Sm st st2) ?step1 ?fin1 ⟨r,i,j,0,0,rfl,m,i1,i2,j1,j2,by omega,sm⟩) ?post1)
    case fin1=>
     rintro z st2 ⟨r,i,j,p,q,rfl,m,i1,i2,j1,j2,x1,sm⟩;exact .inr ⟨r,i,j,p,q,rfl,m,i1,i2,j1,j2,by omega,sm⟩
    case step1=>
     rintro y z st2 _ hy ⟨r,i,j,p,q,rfl,m,i1,i2,j1,j2,x1,sm⟩
     dsimp only
     refine Qj (Q9 (by omega) ?_);refine Qj (Q9 (by omega) ?_);refine Qj (QhL hA (sm.kind.trans hk) (mb _ (Qfg (by omega))) (ma _ (Qfg (by omega))) ?_);cases e:c (kx b (j - 1)) (kx a (i - 1)) with
     |true=>
      dsimp only
      rw[if_pos rfl];refine Qj (Q9 (by omega) ?_);have m2:=MH.puA m i1 i2 λk k1 k2=>hA.ord.tr (sb k (j - 1) (Qr _) (by omega) (by omega)) (hA.ord.lt_le e)
      by_cases z3:i - 1=0
      ·rw[if_pos (beq_iff_eq.mpr z3)];exact Qk (.inl ⟨_,_,rfl,m2.dnA z3,sm⟩)
      ·rw[if_neg (JV z3)];split
       ·exact Qk (.inr ⟨_,_,_,_,_,rfl,m2,by omega,by omega,by omega,by omega,by omega,sm⟩)
       ·exact Qk ⟨_,_,_,_,_,rfl,m2,by omega,by omega,by omega,by omega,by omega,sm⟩
     |false=>
      dsimp only
      rw[if_neg (by decide)];refine Qj (Q9 (by omega) ?_);have m2:=MH.puB m (by omega) j2 λk k1 k2=>hA.ord.tr (sa k (i - 1) (Qr _) (by omega) (by omega)) e
      by_cases z3:j - 1=1
      ·rw[if_pos (beq_iff_eq.mpr z3)];exact Qk (.inl ⟨_,_,rfl,m2.fb z3 p1,sm⟩)
      ·rw[if_neg (JV z3)];split
       ·exact Qk (.inr ⟨_,_,_,_,_,rfl,m2,by omega,by omega,by omega,by omega,by omega,sm⟩)
       ·exact Qk ⟨_,_,_,_,_,rfl,m2,by omega,by omega,by omega,by omega,by omega,sm⟩
    case post1=>
     rintro z st2 (⟨o,y,rfl,ho,sm⟩ | ⟨r,i,j,p,q,rfl,m,i1,i2,j1,j2,x1,sm⟩)
     ·exact Qk ⟨o,_,rfl,ho,sm⟩
     ·dsimp only
      refine Qj (Qey (wpAny_rule ⟨rfl,?_⟩));refine Qj (YQ (J4 (I:=λy z st3=>∃r i j mg p q,z=(none,i,j,r,mg,p,q)/\MH c a b r i j/\1<=i/\i<=a.size/\2<=j/\j<=b.size/\x+2+i+j<=a.size+b.size/\Sm st st3)
       (Q:=λz st3=>(∃o y,z=(some o,y)/\Out c a b o/\Sm st st3)∨∃r i j mg p q,z=(none,i,j,r,mg,p,q)/\MH c a b r i j/\1<=i/\i<=a.size/\2<=j/\j<=b.size/\x+2+i+j<=a.size+b.size/\Sm st st3) ?step2 ?fin2 ⟨r,i,j,_,p,q,rfl,m,i1,i2,j1,j2,by omega,sm⟩) ?post2)
      case fin2=>
       rintro z st3 ⟨r,i,j,mg,p,q,rfl,m,i1,i2,j1,j2,x1,sm⟩;exact .inr ⟨r,i,j,mg,p,q,rfl,m,i1,i2,j1,j2,by omega,sm⟩
      case post2=>
       rintro z st3 (⟨o,y,rfl,ho,sm⟩ | ⟨r,i,j,mg,p,q,rfl,m,i1,i2,j1,j2,x1,sm⟩)
       ·exact Qk ⟨o,_,rfl,ho,sm⟩
       ·dsimp only
        exact Qj (QfP sm λst4 sm4=>Qk ⟨_,_,_,_,rfl,m,i1,i2,j1,j2,by omega,sm4⟩)
      case step2=>
       rintro y z st3 _ hy ⟨r,i,j,mg,p,q,rfl,m,i1,i2,j1,j2,x1,sm⟩
       dsimp only
       by_cases z0:mg > 1
       ·rw[if_pos z0];refine Qj (QfP sm λst4 sm4=>?_);refine Qj (Q9 (by omega) ?_);refine Qj (ZF hA (sm4.kind.trans hk) (mb _ (Qfg (by omega))) ma (by omega) (by omega) (λx y x1 xy y1=>sa x y (Qr _) xy (by omega)) λt tn b1 b2=>?_);have lowA:∀n,n<t->le c (kx a n) (kx b (j - 1)):=λn hn=>by
         have:(!c (kx b (j - 1)) (kx a (0+n)))=true:=b1 n hn;rw[JP] at this
         simpa using this
        have b2:∀n,t<=n->n<i->c (kx b (j - 1)) (kx a n)=true:=λn h1 h2=>by
         have:(!c (kx b (j - 1)) (kx a (0+n)))=false:=b2 n h1 h2;rw[JP] at this
         simpa using this
        dsimp only
        by_cases zk:i - t > 0
        ·rw[if_pos zk];have m2:=MH.chA (t:=t) m tn λn n1 n2 _ k k1 k2=>hA.ord.tr (sb k (j - 1) (Qr _) (by omega) (by omega)) (hA.ord.lt_le (b2 n n1 n2))
         by_cases z2:t=0
         ·rw[if_pos (beq_iff_eq.mpr z2)];exact Qk (.inl ⟨_,_,rfl,m2.dnA z2,sm4⟩)
         ·rw[if_neg (JV z2)];refine Qj (Q9 (by omega) ?_);have m5:=MH.puB m2 (by omega) (by omega) λk k1 k2=>lowA k k1
          by_cases z5:j - 1=1
          ·rw[if_pos (beq_iff_eq.mpr z5)];exact Qk (.inl ⟨_,_,rfl,m5.fb z5 p1,sm4⟩)
          ·rw[if_neg (JV z5)];refine Qj (Q9 (by omega) ?_);refine Qj (ZF hA (sm4.kind.trans hk) (ma _ (Qfg (by omega))) mb (by omega) (by omega) (λx y x1 xy y1=>sb x y (Qr _) xy (by omega)) λt2 t2n b1 b2=>?_);have b1:∀n,n<t2->c (kx b n) (kx a (t - 1))=true:=λn hn=>by have:=b1 n hn;rwa [JP] at this
           have b2:∀n,t2<=n->n<j - 1->c (kx b n) (kx a (t - 1))=false:=λn h1 h2=>by have:=b2 n h1 h2;rwa [JP] at this
           dsimp only
           by_cases zk2:j - 1 - t2 > 0
           ·rw[if_pos zk2];have m6:=MH.chB (t:=t2) m5 t2n λn n1 n2 _ k k1 k2=>hA.ord.tr (sa k (t - 1) (Qr _) (by omega) (by omega)) (b2 n n1 n2)
            by_cases z6:t2=1
            ·rw[if_pos (beq_iff_eq.mpr z6)];exact Qk (.inl ⟨_,_,rfl,m6.fb z6 p1,sm4⟩)
            ·rw[if_neg (JV z6)];by_cases z7:t2=0
             ·rw[if_pos (beq_iff_eq.mpr z7)];exact Qk (.inl ⟨_,_,rfl,m6.dnB z7,sm4⟩)
             ·rw[if_neg (JV z7)];refine Qj (Q9 (by omega) ?_);have m9:=MH.puA m6 (by omega) (by omega) λk k1 k2=>hA.ord.lt_le (b1 k k1)
              by_cases z9:t - 1=0
              ·rw[if_pos (beq_iff_eq.mpr z9)];exact Qk (.inl ⟨_,_,rfl,m9.dnA z9,sm4⟩)
              ·rw[if_neg (JV z9)];split
               ·exact Qk (.inr ⟨_,_,_,_,_,_,rfl,m9,by omega,by omega,by omega,by omega,by omega,sm4⟩)
               ·exact Qk ⟨_,_,_,_,_,_,rfl,m9,by omega,by omega,by omega,by omega,by omega,sm4⟩
           ·rw[if_neg zk2];have zt:t2=j - 1:=by omega
            refine Qj (Q9 (by omega) ?_);have m9:=MH.puA m5 (by omega) (by omega) λk k1 k2=>hA.ord.lt_le (b1 k (by omega))
            by_cases z9:t - 1=0
            ·rw[if_pos (beq_iff_eq.mpr z9)];exact Qk (.inl ⟨_,_,rfl,m9.dnA z9,sm4⟩)
            ·rw[if_neg (JV z9)];split
             ·exact Qk (.inr ⟨_,_,_,_,_,_,rfl,m9,by omega,by omega,by omega,by omega,by omega,sm4⟩)
             ·exact Qk ⟨_,_,_,_,_,_,rfl,m9,by omega,by omega,by omega,by omega,by omega,sm4⟩
        ·rw[if_neg zk];have zt:t=i:=by omega
         subst zt;refine Qj (Q9 (by omega) ?_);have m5:=MH.puB m (by omega) (by omega) λk k1 k2=>lowA k k1
         by_cases z5:j - 1=1
         ·rw[if_pos (beq_iff_eq.mpr z5)];exact Qk (.inl ⟨_,_,rfl,m5.fb z5 p1,sm4⟩)
         ·rw[if_neg (JV z5)];refine Qj (Q9 (by omega) ?_);refine Qj (ZF hA (sm4.kind.trans hk) (ma _ (Qfg (by omega))) mb (by omega) (by omega) (λx y x1 xy y1=>sb x y (Qr _) xy (by omega)) λt2 t2n b1 b2=>?_);have b1:∀n,n<t2->c (kx b n) (kx a (t - 1))=true:=λn hn=>by have:=b1 n hn;rwa [JP] at this
          have b2:∀n,t2<=n->n<j - 1->c (kx b n) (kx a (t - 1))=false:=λn h1 h2=>by have:=b2 n h1 h2;rwa [JP] at this
          dsimp only
          by_cases zk2:j - 1 - t2 > 0
          ·rw[if_pos zk2];have m6:=MH.chB (t:=t2) m5 t2n λn n1 n2 _ k k1 k2=>hA.ord.tr (sa k (t - 1) (Qr _) (by omega) (by omega)) (b2 n n1 n2)
           by_cases z6:t2=1
           ·rw[if_pos (beq_iff_eq.mpr z6)];exact Qk (.inl ⟨_,_,rfl,m6.fb z6 p1,sm4⟩)
           ·rw[if_neg (JV z6)];by_cases z7:t2=0
            ·rw[if_pos (beq_iff_eq.mpr z7)];exact Qk (.inl ⟨_,_,rfl,m6.dnB z7,sm4⟩)
            ·rw[if_neg (JV z7)];refine Qj (Q9 (by omega) ?_);have m9:=MH.puA m6 (by omega) (by omega) λk k1 k2=>hA.ord.lt_le (b1 k k1)
             by_cases z9:t - 1=0
             ·rw[if_pos (beq_iff_eq.mpr z9)];exact Qk (.inl ⟨_,_,rfl,m9.dnA z9,sm4⟩)
             ·rw[if_neg (JV z9)];split
              ·exact Qk (.inr ⟨_,_,_,_,_,_,rfl,m9,by omega,by omega,by omega,by omega,by omega,sm4⟩)
              ·exact Qk ⟨_,_,_,_,_,_,rfl,m9,by omega,by omega,by omega,by omega,by omega,sm4⟩
          ·rw[if_neg zk2];have zt:t2=j - 1:=by omega
           refine Qj (Q9 (by omega) ?_);have m9:=MH.puA m5 (by omega) (by omega) λk k1 k2=>hA.ord.lt_le (b1 k (by omega))
           by_cases z9:t - 1=0
           ·rw[if_pos (beq_iff_eq.mpr z9)];exact Qk (.inl ⟨_,_,rfl,m9.dnA z9,sm4⟩)
           ·rw[if_neg (JV z9)];split
            ·exact Qk (.inr ⟨_,_,_,_,_,_,rfl,m9,by omega,by omega,by omega,by omega,by omega,sm4⟩)
            ·exact Qk ⟨_,_,_,_,_,_,rfl,m9,by omega,by omega,by omega,by omega,by omega,sm4⟩
       ·rw[if_neg z0];refine Qj (QfP sm λst4 sm4=>?_);refine Qj (Q9 (by omega) ?_);refine Qj (ZF hA (sm4.kind.trans hk) (mb _ (Qfg (by omega))) ma (by omega) (by omega) (λx y x1 xy y1=>sa x y (Qr _) xy (by omega)) λt tn b1 b2=>?_);have lowA:∀n,n<t->le c (kx a n) (kx b (j - 1)):=λn hn=>by
         have:(!c (kx b (j - 1)) (kx a (0+n)))=true:=b1 n hn;rw[JP] at this
         simpa using this
        have b2:∀n,t<=n->n<i->c (kx b (j - 1)) (kx a n)=true:=λn h1 h2=>by
         have:(!c (kx b (j - 1)) (kx a (0+n)))=false:=b2 n h1 h2;rw[JP] at this
         simpa using this
        dsimp only
        by_cases zk:i - t > 0
        ·rw[if_pos zk];have m2:=MH.chA (t:=t) m tn λn n1 n2 _ k k1 k2=>hA.ord.tr (sb k (j - 1) (Qr _) (by omega) (by omega)) (hA.ord.lt_le (b2 n n1 n2))
         by_cases z2:t=0
         ·rw[if_pos (beq_iff_eq.mpr z2)];exact Qk (.inl ⟨_,_,rfl,m2.dnA z2,sm4⟩)
         ·rw[if_neg (JV z2)];refine Qj (Q9 (by omega) ?_);have m5:=MH.puB m2 (by omega) (by omega) λk k1 k2=>lowA k k1
          by_cases z5:j - 1=1
          ·rw[if_pos (beq_iff_eq.mpr z5)];exact Qk (.inl ⟨_,_,rfl,m5.fb z5 p1,sm4⟩)
          ·rw[if_neg (JV z5)];refine Qj (Q9 (by omega) ?_);refine Qj (ZF hA (sm4.kind.trans hk) (ma _ (Qfg (by omega))) mb (by omega) (by omega) (λx y x1 xy y1=>sb x y (Qr _) xy (by omega)) λt2 t2n b1 b2=>?_);have b1:∀n,n<t2->c (kx b n) (kx a (t - 1))=true:=λn hn=>by have:=b1 n hn;rwa [JP] at this
           have b2:∀n,t2<=n->n<j - 1->c (kx b n) (kx a (t - 1))=false:=λn h1 h2=>by have:=b2 n h1 h2;rwa [JP] at this
           dsimp only
           by_cases zk2:j - 1 - t2 > 0
           ·rw[if_pos zk2];have m6:=MH.chB (t:=t2) m5 t2n λn n1 n2 _ k k1 k2=>hA.ord.tr (sa k (t - 1) (Qr _) (by omega) (by omega)) (b2 n n1 n2)
            by_cases z6:t2=1
            ·rw[if_pos (beq_iff_eq.mpr z6)];exact Qk (.inl ⟨_,_,rfl,m6.fb z6 p1,sm4⟩)
            ·rw[if_neg (JV z6)];by_cases z7:t2=0
             ·rw[if_pos (beq_iff_eq.mpr z7)];exact Qk (.inl ⟨_,_,rfl,m6.dnB z7,sm4⟩)
             ·rw[if_neg (JV z7)];refine Qj (Q9 (by omega) ?_);have m9:=MH.puA m6 (by omega) (by omega) λk k1 k2=>hA.ord.lt_le (b1 k k1)
              by_cases z9:t - 1=0
              ·rw[if_pos (beq_iff_eq.mpr z9)];exact Qk (.inl ⟨_,_,rfl,m9.dnA z9,sm4⟩)
              ·rw[if_neg (JV z9)];split
               ·exact Qk (.inr ⟨_,_,_,_,_,_,rfl,m9,by omega,by omega,by omega,by omega,by omega,sm4⟩)
               ·exact Qk ⟨_,_,_,_,_,_,rfl,m9,by omega,by omega,by omega,by omega,by omega,sm4⟩
           ·rw[if_neg zk2];have zt:t2=j - 1:=by omega
            refine Qj (Q9 (by omega) ?_);have m9:=MH.puA m5 (by omega) (by omega) λk k1 k2=>hA.ord.lt_le (b1 k (by omega))
            by_cases z9:t - 1=0
            ·rw[if_pos (beq_iff_eq.mpr z9)];exact Qk (.inl ⟨_,_,rfl,m9.dnA z9,sm4⟩)
            ·rw[if_neg (JV z9)];split
             ·exact Qk (.inr ⟨_,_,_,_,_,_,rfl,m9,by omega,by omega,by omega,by omega,by omega,sm4⟩)
             ·exact Qk ⟨_,_,_,_,_,_,rfl,m9,by omega,by omega,by omega,by omega,by omega,sm4⟩
        ·rw[if_neg zk];have zt:t=i:=by omega
         subst zt;refine Qj (Q9 (by omega) ?_);have m5:=MH.puB m (by omega) (by omega) λk k1 k2=>lowA k k1
         by_cases z5:j - 1=1
         ·rw[if_pos (beq_iff_eq.mpr z5)];exact Qk (.inl ⟨_,_,rfl,m5.fb z5 p1,sm4⟩)
         ·rw[if_neg (JV z5)];refine Qj (Q9 (by omega) ?_);refine Qj (ZF hA (sm4.kind.trans hk) (ma _ (Qfg (by omega))) mb (by omega) (by omega) (λx y x1 xy y1=>sb x y (Qr _) xy (by omega)) λt2 t2n b1 b2=>?_);have b1:∀n,n<t2->c (kx b n) (kx a (t - 1))=true:=λn hn=>by have:=b1 n hn;rwa [JP] at this
          have b2:∀n,t2<=n->n<j - 1->c (kx b n) (kx a (t - 1))=false:=λn h1 h2=>by have:=b2 n h1 h2;rwa [JP] at this
          dsimp only
          by_cases zk2:j - 1 - t2 > 0
          ·rw[if_pos zk2];have m6:=MH.chB (t:=t2) m5 t2n λn n1 n2 _ k k1 k2=>hA.ord.tr (sa k (t - 1) (Qr _) (by omega) (by omega)) (b2 n n1 n2)
           by_cases z6:t2=1
           ·rw[if_pos (beq_iff_eq.mpr z6)];exact Qk (.inl ⟨_,_,rfl,m6.fb z6 p1,sm4⟩)
           ·rw[if_neg (JV z6)];by_cases z7:t2=0
            ·rw[if_pos (beq_iff_eq.mpr z7)];exact Qk (.inl ⟨_,_,rfl,m6.dnB z7,sm4⟩)
            ·rw[if_neg (JV z7)];refine Qj (Q9 (by omega) ?_);have m9:=MH.puA m6 (by omega) (by omega) λk k1 k2=>hA.ord.lt_le (b1 k k1)
             by_cases z9:t - 1=0
             ·rw[if_pos (beq_iff_eq.mpr z9)];exact Qk (.inl ⟨_,_,rfl,m9.dnA z9,sm4⟩)
             ·rw[if_neg (JV z9)];split
              ·exact Qk (.inr ⟨_,_,_,_,_,_,rfl,m9,by omega,by omega,by omega,by omega,by omega,sm4⟩)
              ·exact Qk ⟨_,_,_,_,_,_,rfl,m9,by omega,by omega,by omega,by omega,by omega,sm4⟩
          ·rw[if_neg zk2];have zt:t2=j - 1:=by omega
           refine Qj (Q9 (by omega) ?_);have m9:=MH.puA m5 (by omega) (by omega) λk k1 k2=>hA.ord.lt_le (b1 k (by omega))
           by_cases z9:t - 1=0
           ·rw[if_pos (beq_iff_eq.mpr z9)];exact Qk (.inl ⟨_,_,rfl,m9.dnA z9,sm4⟩)
           ·rw[if_neg (JV z9)];split
            ·exact Qk (.inr ⟨_,_,_,_,_,_,rfl,m9,by omega,by omega,by omega,by omega,by omega,sm4⟩)
            ·exact Qk ⟨_,_,_,_,_,_,rfl,m9,by omega,by omega,by omega,by omega,by omega,sm4⟩
end
theorem Qjt(i:Nat):mergeAt' i=(do
 let z <- get
 let (some (u,n,pw),some (v,m,_)):=((pendingOf z)[i]?,(pendingOf z)[i+1]?) | unsupported "internal:list.sort.pending"
 set (setPending z (((pendingOf z).setIfInBounds i (u,n+m,pw)).eraseIdxIfInBounds (i+1)))
 let some k <- Qch false (<- elem' (arrOf z) v) (arrOf z) u n 0 | return false
 let (u,n):=(u+k,n - k)
 if n == 0 then return true
 let some m <- Qch true (<- elem' (arrOf z) (u+n - 1)) (arrOf z) v m (m - 1) | return false
 if m == 0 then return true
 let x:=(arrOf z).extract u v
 let y:=(arrOf z).extract v (v+m)
 let mm <- if n<=m then QgZ x y else Qg0 x y
 modify λz=>setArr z (mm.toList.zipIdx.foldl (λa (p,j)=>a.setIfInBounds (u+j) p) (arrOf z))
 return (failedOf (<- get)).isNone):=rfl
theorem Qtr{σ:Type}{M:Qzm}{A:Jb}{E:Value->Shared->Prop}{s:Shared}{Q:PUnit->σ->Prop}{st st':σ}(h:Q ⟨⟩ st'):wpS M A E s (set st':StateT σ Sem PUnit) Q st:=by
 unfold wpS;rw[StateT.run_set];exact Qb ⟨rfl,h⟩
theorem QkC(u:Nat):∀(z:List Keyed)(m:Nat)(xs:Array Keyed),u+m+z.length<=xs.size->((z.zipIdx m).foldl (λa (p:Keyed×Nat)=>a.setIfInBounds (u+p.2) p.1) xs).toList=xs.toList.take (u+m)++z++xs.toList.drop (u+m+z.length)
 |[],m,xs,_=>by
  show xs.toList=_;rw[Jz,Qc5,Qdf,Jr]
 |p::z,m,xs,h=>by
  rw[Qt] at h;rw[QfN,QaJ];have ih:=QkC u z (m+1) (xs.setIfInBounds (u+m) p) (by rw[QiM];omega);rw[ih,Qhz,List.set_eq_take_append_cons_drop,if_pos (by rw[Qc];omega)];have lt:(xs.toList.take (u+m)).length=u+m:=by rw[JH,Qc];omega
  have e1:(xs.toList.take (u+m)++p::xs.toList.drop (u+m+1)).take (u+(m+1))=xs.toList.take (u+m)++[p]:=by
   rw[List.take_append,lt,YM (by omega),show u+(m+1) - (u+m)=1 by omega];rfl
  have e2:(xs.toList.take (u+m)++p::xs.toList.drop (u+m+1)).drop (u+(m+1)+z.length)=xs.toList.drop (u+m+(p::z).length):=by
   rw[List.drop_append,lt,YN (by omega),QbB,show u+(m+1)+z.length - (u+m)=z.length+1 by omega,List.drop_succ_cons,QiI,Qt]
   congr 1
   omega
  rw[e1,e2,QU,QU,QU];rfl
theorem Qie{xs ys:Array Keyed}{i j:Nat}(h:xs.toList[i]? = ys.toList[j]?):kx xs i=kx ys j:=by
 rw[Q5,Q5] at h;exact Qjy h
theorem QsN{xs:Array Keyed}{u v t:Nat}(h:u+t<v)(hv:v<=xs.size):kx (xs.extract u v) t=kx xs (u+t):=by
 refine Qjy ?_
 rw[Array.getElem?_extract,if_pos (by omega)]
section
variable{c:Keyed->Keyed->Bool}
structure Laid (c:Keyed->Keyed->Bool) (xs ws z:Array Keyed) (lo hi:Nat):Prop where
 size:ws.size=xs.size
 perm:ws.Perm xs
 out:∀n,n<lo∨hi<=n->kx ws n=kx xs n
 mid:∀n,lo<=n->n<hi->kx ws n=kx z (n - lo)
 zs:z.size=hi - lo
 of_:∀n,lo<=n->n<hi->∃m,lo<=m/\m<hi/\kx ws n=kx xs m
theorem Qu3{xs z:Array Keyed}{lo v hi:Nat}(h1:lo<=v)(h2:v<=hi)(h3:hi<=xs.size)(o:Out c (xs.extract lo v) (xs.extract v hi) z):Laid c xs (z.toList.zipIdx.foldl (λa (p:Keyed×Nat)=>a.setIfInBounds (lo+p.2) p.1) xs) z lo hi:=by
 have ln:z.toList.length=hi - lo:=by
  rw[o.2.length_eq,Qs,Qc,Qc,QbL,QbL];omega
 have zs:z.size=hi - lo:=by rw[<- ln,Qc]
 have lb:=QkC lo z.toList 0 xs (by omega);rw[Qdf,ln,show lo+(hi - lo)=hi by omega] at lb;generalize hw:z.toList.zipIdx.foldl (λa (p:Keyed×Nat)=>a.setIfInBounds (lo+p.2) p.1) xs=ws;rw[show z.toList.zipIdx 0=z.toList.zipIdx from rfl,hw] at lb;have lt:(xs.toList.take lo).length=lo:=by rw[JH,Qc];omega
 have mid0:xs.toList=xs.toList.take lo++((xs.extract lo v).toList++(xs.extract v hi).toList)++xs.toList.drop hi:=by
  rw[Qa9,Qa9];have e1:xs.toList.take hi=xs.toList.take v++(xs.toList.take hi).drop v:=by
   have:=(Jr v (xs.toList.take hi)).symm
   rwa [QdK,Y5 h2] at this
  have e2:xs.toList.take v=xs.toList.take lo++(xs.toList.take v).drop lo:=by
   have:=(Jr lo (xs.toList.take v)).symm
   rwa [QdK,Y5 h1] at this
  rw[<- QU,<- e2,<- e1,Jr]
 have szl:ws.toList.length=xs.toList.length:=by
  rw[lb,Qs,Qs,lt,ln,YE,Qc];omega
 have md:∀n,lo<=n->n<hi->kx ws n=kx z (n - lo):=λn n1 n2=>by
  refine Qie ?_
  rw[lb,JN (by rw[Qs,lt,ln];omega),QX (by rw[lt];exact n1),lt]
 refine⟨by rw[<- Qc,szl,Qc],?_,λn hn=>?_,md,zs,λn n1 n2=>?_⟩
 ·refine Zz.mpr ?_
  rw[lb]
  conv=>rhs;rw[mid0]
  exact QaB _ (YH _ o.2)
 ·refine Qie ?_
  rw[lb];rcases hn with hn | hn
  ·rw[QU,JN (by rw[lt];exact hn),QeC,if_pos hn]
  ·rw[QX (by rw[Qs,lt,ln];omega),Qs,lt,ln,YR]
   congr 1
   omega
 ·have hz:n - lo<z.size:=by omega
  have hm:=o.2.mem_iff.mp (Qfg hz);rw[md n n1 n2];rcases Ja.mp hm with q | q
  ·rw[Qa9] at q;obtain⟨m,m1,m2,_,e⟩:=Qak q;exact⟨m,m1,by omega,e⟩
  ·rw[Qa9] at q;obtain⟨m,m1,m2,_,e⟩:=Qak q;exact⟨m,by omega,m2,e⟩
end
section
variable{prog:Qz}{w:Ji}{A:Jb}{E:Value->Shared->Prop}{s:Shared}{a₀:Array Keyed}{κ:Z7}{c:Keyed->Keyed->Bool}
structure Mg (κ:Z7) (a₀:Array Keyed) (c:Keyed->Keyed->Bool) (st st':J1) (i u v hi pn pw:Nat):Prop where
 sb:SB κ a₀ st'
 pend:pendingOf st'=((pendingOf st).setIfInBounds i (u,pn,pw)).eraseIdxIfInBounds (i+1)
 out:∀n,n<u∨hi<=n->kx (arrOf st') n=kx (arrOf st) n
 sg:Sg c (arrOf st') u hi
theorem QiY{st:J1}{i u n pw m pw2:Nat}{Q:Bool->J1->Prop}(hA:Asks prog w A s κ a₀ c)(hB:SB κ a₀ st)(e1:(pendingOf st)[i]? = some (u,n,pw))(e2:(pendingOf st)[i+1]? = some (u+n,m,pw2))(n1:1<=n)(m1:1<=m)(hz:u+n+m<=a₀.size)
  (s1:Sg c (arrOf st) u (u+n))(s2:Sg c (arrOf st) (u+n) (u+n+m))(h:∀st',Mg κ a₀ c st st' i u (u+n) (u+n+m) (n+m) pw->Q true st'):wpS (model prog w) A E s (mergeAt' i) Q st:=by
 have sz:=hB.size;have mem:∀p∈(arrOf st).toList,p∈a₀.toList:=λp hp=>hB.mem hp
 have memE:∀{x y:Nat}{p:Keyed},p∈((arrOf st).extract x y).toList->p∈a₀.toList:=λ{x y p} hp=>mem p (by rw[Qa9] at hp;exact Qbf (Qbg hp))
 rw[Qjt];refine Qj (QcB ?_);rw[e1,e2]
 dsimp only
 refine Qj (Qtr ?_);refine Qj (Q9 (by omega) ?_);refine Qj (ZF hA hB.kind (mem _ (Qfg (by omega))) mem (by omega) (by omega) s1 λk kn b1 b2=>?_);have b1:∀t,t<k->le c (kx (arrOf st) (u+t)) (kx (arrOf st) (u+n)):=λt ht=>by
  have:(!c (kx (arrOf st) (u+n)) (kx (arrOf st) (u+t)))=true:=b1 t ht
  simpa using this
 have b2:∀t,k<=t->t<n->c (kx (arrOf st) (u+n)) (kx (arrOf st) (u+t))=true:=λt h1 h2=>by
  have:(!c (kx (arrOf st) (u+n)) (kx (arrOf st) (u+t)))=false:=b2 t h1 h2
  simpa using this
 dsimp only
 by_cases z1:n - k=0
 ·rw[if_pos (beq_iff_eq.mpr z1)];refine Qk (h _ ⟨⟨hB.perm,hB.kind,hB.failed⟩,rfl,λ_ _=>rfl,λx y x1 xy y1=>?_⟩);show le c (kx (arrOf st) x) (kx (arrOf st) y);by_cases zx:x<u+n
  ·by_cases zy:y<u+n
   ·exact s1 x y x1 xy zy
   ·have:=b1 (x - u) (by omega);rw[show u+(x - u)=x by omega] at this;exact hA.ord.tr this (s2 (u+n) y (Qi _) (by omega) y1)
  ·exact s2 x y (by omega) xy y1
 ·rw[if_neg (JV z1)];have hl:u+k+(n - k) - 1=u+n - 1:=by omega
  rw[hl];refine Qj (Q9 (by omega) ?_);refine Qj (ZF hA hB.kind (mem _ (Qfg (by omega))) mem (by omega) (by omega) s2 λm2 mn d1 d2=>?_);have d1:∀t,t<m2->c (kx (arrOf st) (u+n+t)) (kx (arrOf st) (u+n - 1))=true:=λt ht=>d1 t ht
  have d2:∀t,m2<=t->t<m->le c (kx (arrOf st) (u+n - 1)) (kx (arrOf st) (u+n+t)):=λt h1 h2=>d2 t h1 h2
  dsimp only
  by_cases z2:m2=0
  ·rw[if_pos (beq_iff_eq.mpr z2)];refine Qk (h _ ⟨⟨hB.perm,hB.kind,hB.failed⟩,rfl,λ_ _=>rfl,λx y x1 xy y1=>?_⟩);show le c (kx (arrOf st) x) (kx (arrOf st) y);by_cases zx:x<u+n
   ·by_cases zy:y<u+n
    ·exact s1 x y x1 xy zy
    ·have:=d2 (y - (u+n)) (by omega) (by omega);rw[show u+n+(y - (u+n))=y by omega] at this;exact hA.ord.tr (s1 x (u+n - 1) x1 (by omega) (by omega)) this
   ·exact s2 x y (by omega) xy y1
  ·rw[if_neg (JV z2)];have ex:∀t,t<n - k->kx ((arrOf st).extract (u+k) (u+n)) t=kx (arrOf st) (u+k+t):=λt ht=>QsN (by omega) (by omega)
   have ey:∀t,t<m2->kx ((arrOf st).extract (u+n) (u+n+m2)) t=kx (arrOf st) (u+n+t):=λt ht=>QsN (by omega) (by omega)
   have sx:((arrOf st).extract (u+k) (u+n)).size=n - k:=by rw[QbL];omega
   have sy:((arrOf st).extract (u+n) (u+n+m2)).size=m2:=by rw[QbL];omega
   have fin:∀(z:Array Keyed)(st':J1),Sm (setPending st (((pendingOf st).setIfInBounds i (u,n+m,pw)).eraseIdxIfInBounds (i+1))) st'->Out c ((arrOf st).extract (u+k) (u+n)) ((arrOf st).extract (u+n) (u+n+m2)) z ->
     wpS (model prog w) A E s (do
      modify λx=>setArr x (z.toList.zipIdx.foldl (λa (p,j)=>a.setIfInBounds (u+k+j) p) (arrOf x))
      return (failedOf (<- get)).isNone) Q st':=λz st' sm o=>by
    refine Qj (QaO (Qj (QcB ?_)));have fe:failedOf st'=none:=sm.failed.trans hB.failed;have ae:arrOf st'=arrOf st:=sm.arr;have L:=Qu3 (c:=c) (xs:=arrOf st) (z:=z) (lo:=u+k) (v:=u+n) (hi:=u+n+m2) (by omega) (by omega) (by omega) o;refine Qk ?_
    show Q ((failedOf st').isNone) _;rw[fe,ae];refine h _ ⟨⟨L.perm.trans hB.perm,sm.kind.trans hB.kind,fe⟩,sm.pend,λx hx=>L.out x (by omega),λx y x1 xy y1=>?_⟩;generalize z.toList.zipIdx.foldl (λa (p:Keyed×Nat)=>a.setIfInBounds (u+k+p.2) p.1) (arrOf st)=ws at L;show le c (kx ws x) (kx ws y);have a0:∀x,u<=x->x<u+k->le c (kx (arrOf st) x) (kx (arrOf st) (u+n)):=λx g1 g2=>by have:=b1 (x - u) (by omega);rwa [show u+(x - u)=x by omega] at this
    have b9:∀y,u+n+m2<=y->y<u+n+m->le c (kx (arrOf st) (u+n - 1)) (kx (arrOf st) y):=λy g1 g2=>by have:=d2 (y - (u+n)) (by omega) (by omega);rwa [show u+n+(y - (u+n))=y by omega] at this
    by_cases zx:x<u+k
    ·rw[L.out x (.inl zx)];by_cases zy:y<u+k
     ·rw[L.out y (.inl zy)];exact s1 x y x1 xy (by omega)
     ·by_cases zy2:y<u+n+m2
      ·obtain⟨q,q1,q2,qe⟩:=L.of_ y (by omega) zy2;rw[qe];by_cases zq:q<u+n
       ·exact s1 x q x1 (by omega) zq
       ·exact hA.ord.tr (a0 x x1 zx) (s2 (u+n) q (Qi _) (by omega) (by omega))
      ·rw[L.out y (.inr (by omega))];exact hA.ord.tr (a0 x x1 zx) (s2 (u+n) y (Qi _) (by omega) y1)
    ·by_cases zx2:x<u+n+m2
     ·by_cases zy2:y<u+n+m2
      ·rw[L.mid x (by omega) zx2,L.mid y (by omega) zy2];by_cases xe:x=y
       ·subst xe;exact hA.ord.irr _
       ·have g:=QZ.mp o.1 (x - (u+k)) (y - (u+k)) (by rw[Qc,L.zs];omega) (by rw[Qc,L.zs];omega) (by omega);have k1:=Qa8 (xs:=z) (i:=x - (u+k)) (by rw[L.zs];omega);have k2:=Qa8 (xs:=z) (i:=y - (u+k)) (by rw[L.zs];omega);rw[Qf (by rw[Qc,L.zs];omega)] at k1 k2;rw[Qm k1,Qm k2] at g;exact g
      ·rw[L.out y (.inr (by omega))];obtain⟨q,q1,q2,qe⟩:=L.of_ x (by omega) zx2;rw[qe];by_cases zq:q<u+n
       ·exact hA.ord.tr (s1 q (u+n - 1) (by omega) (by omega) (by omega)) (b9 y (by omega) y1)
       ·exact s2 q y (by omega) (by omega) y1
     ·rw[L.out x (.inr (by omega)),L.out y (.inr (by omega))];exact s2 x y (by omega) xy y1
   have hsx:Sg c ((arrOf st).extract (u+k) (u+n)) 0 ((arrOf st).extract (u+k) (u+n)).size:=λx y _ xy y1=>by
    rw[sx] at y1;rw[ex x (by omega),ex y y1];exact s1 _ _ (by omega) (by omega) (by omega)
   have hsy:Sg c ((arrOf st).extract (u+n) (u+n+m2)) 0 ((arrOf st).extract (u+n) (u+n+m2)).size:=λx y _ xy y1=>by
    rw[sy] at y1;rw[ey x (by omega),ey y y1];exact s2 _ _ (by omega) (by omega) (by omega)
   have hp1:∀t,t<((arrOf st).extract (u+k) (u+n)).size->le c (kx ((arrOf st).extract (u+n) (u+n+m2)) 0) (kx ((arrOf st).extract (u+k) (u+n)) t):=λt ht=>by
    rw[sx] at ht;rw[ey 0 (by omega),ex t ht,Qdf];have:=b2 (k+t) (by omega) (by omega);rw[show u+(k+t)=u+k+t by omega] at this;exact hA.ord.lt_le this
   have hp2:∀t,t<((arrOf st).extract (u+n) (u+n+m2)).size->le c (kx ((arrOf st).extract (u+n) (u+n+m2)) t) (kx ((arrOf st).extract (u+k) (u+n)) (((arrOf st).extract (u+k) (u+n)).size - 1)):=λt ht=>by
    rw[sy] at ht;rw[sx,ey t ht,ex (n - k - 1) (by omega),show u+k+(n - k - 1)=u+n - 1 by omega];exact hA.ord.lt_le (d1 t ht)
   split
   ·exact Qj (QiW hA hB.kind (λp hp=>memE hp) (λp hp=>memE hp) (by rw[sx];omega) (by rw[sy];omega) hsx hsy hp1 hp2 λz st' sm o=>fin z st' sm o)
   ·exact Qj (QiX hA hB.kind (λp hp=>memE hp) (λp hp=>memE hp) (by rw[sx];omega) (by rw[sy];omega) hsx hsy hp1 hp2 λz st' sm o=>fin z st' sm o)
end
def RunsOk:List (Nat×Nat)->Nat->Nat->Prop
 |[],s,e=>s=e
 |(s',n)::r,s,e=>s'=s/\1<=n/\RunsOk r (s+n) e
theorem RunsOk.app:∀{l1 l2:List (Nat×Nat)}{s e:Nat},RunsOk (l1++l2) s e↔∃m,RunsOk l1 s m/\RunsOk l2 m e
 |[],l2,s,e=>⟨λh=>⟨s,rfl,h⟩,λ⟨m,h1,h2⟩=>by cases(show s=m from h1);exact h2⟩
 |(s',n)::l1,l2,s,e=>by
  constructor
  ·rintro⟨h1,h2,h3⟩;obtain⟨m,a,b⟩:=RunsOk.app.mp h3;exact⟨m,⟨h1,h2,a⟩,b⟩
  ·rintro⟨m,⟨h1,h2,a⟩,b⟩;exact⟨h1,h2,RunsOk.app.mpr ⟨m,a,b⟩⟩
theorem RunsOk.le:∀{l:List (Nat×Nat)}{s e:Nat},RunsOk l s e->s+l.length<=e
 |[],s,e,h=>by cases(show s=e from h);exact Qi _
 |(s',n)::l,s,e,⟨_,h2,h3⟩=>by
  have:=RunsOk.le h3;rw[Qt];omega
theorem RunsOk.mem:∀{l:List (Nat×Nat)}{s e:Nat},RunsOk l s e->∀p∈l,s<=p.1/\p.1+p.2<=e
 |(s',n)::l,s,e,⟨h1,h2,h3⟩,p,hp=>by
  have hl:=RunsOk.le h3;rcases Qp.mp hp with z | z
  ·subst z;show s<=s'/\s'+n<=e;omega
  ·have:=RunsOk.mem h3 p z;omega
def sn(p:Nat×Nat×Nat):Nat×Nat:=(p.1,p.2.1)
def Qah(st:J1):List (Nat×Nat):=(pendingOf st).toList.map sn
section
variable{prog:Qz}{w:Ji}{A:Jb}{E:Value->Shared->Prop}{s:Shared}{a₀:Array Keyed}{κ:Z7}{c:Keyed->Keyed->Bool}
structure RI (κ:Z7) (a₀:Array Keyed) (c:Keyed->Keyed->Bool) (lo:Nat) (st:J1):Prop where
 sb:SB κ a₀ st
 runs:RunsOk (Qah st) 0 lo
 srt:∀p∈Qah st,Sg c (arrOf st) p.1 (p.1+p.2)
 le:lo<=a₀.size
theorem Sg.same{xs ys:Array Keyed}{u v:Nat}(h:Sg c xs u v)(k:∀n,u<=n->n<v->kx ys n=kx xs n):Sg c ys u v:=λi j hi hij hj=>by
 rw[k i hi (by omega),k j (by omega) hj];exact h i j hi hij hj
theorem Qv7{l:List (Nat×Nat×Nat)}{i:Nat}(h:i+1<l.length):∃l1 x y l2,l=l1++x::y::l2/\l1.length=i:=by
 refine⟨l.take i,l[i],l[i+1],l.drop (i+2),?_,by rw[JH];omega⟩;rw[<- Ye,<- Ye,Jr]
theorem QdP{st:J1}{lo i hi:Nat}{Q:Bool->J1->Prop}(hA:Asks prog w A s κ a₀ c)(ri:RI κ a₀ c lo st)(hi':i+1<(pendingOf st).size)
  (h:∀st',RI κ a₀ c lo st'->(pendingOf st').size+1=(pendingOf st).size->(∀n,lo<=n->kx (arrOf st') n=kx (arrOf st) n)->Q true st'):wpS (model prog w) A E s (mergeAt' i) Q st:=by
 obtain⟨l1,⟨u,n,pw⟩,⟨v,m,pw2⟩,l2,el,ll⟩:=Qv7 (l:=(pendingOf st).toList) (i:=i) (by rw[Qc];exact hi');have er:Qah st=l1.map sn++(u,n)::(v,m)::l2.map sn:=by unfold Qah;rw[el,JF];rfl
 have r0:=ri.runs;rw[er] at r0;obtain⟨q,ra,rb⟩:=RunsOk.app.mp r0;obtain⟨g1,g2,g3,g4,g5⟩:=rb;subst g1;subst g3;have e1:(pendingOf st)[i]? = some (u,n,pw):=by
  rw[<- Q5,el,QX (by omega),ll,Qa3];rfl
 have e2:(pendingOf st)[i+1]? = some (u+n,m,pw2):=by
  rw[<- Q5,el,QX (by omega),ll,show i+1 - i=1 by omega];rfl
 have le5:=RunsOk.le g5;have le1:=ri.le;refine QiY hA ri.sb e1 e2 g2 g4 (by omega) (ri.srt (u,n) (by rw[er];simp)) (ri.srt (u+n,m) (by rw[er];simp)) λst' mg=>?_
 have ep:(pendingOf st').toList=l1++(u,n+m,pw)::l2:=by
  rw[mg.pend,Array.toList_eraseIdxIfInBounds,Qhz,el,List.set_append_right _ _ (by omega),ll,Qa3,List.set_cons_zero,List.eraseIdx_append_of_length_le (by omega),ll,show i+1 - i=1 by omega];rfl
 have er':Qah st'=l1.map sn++(u,n+m)::l2.map sn:=by unfold Qah;rw[ep,JF];rfl
 refine h st' ⟨mg.sb,?_,λp hp=>?_,ri.le⟩ ?_ λk hk=>mg.out k (.inr (by omega))
 ·rw[er'];exact RunsOk.app.mpr ⟨u,ra,rfl,by omega,by rw[show u+(n+m)=u+n+m by omega];exact g5⟩
 ·rw[er'] at hp;rcases Ja.mp hp with z | z
  ·have b:=RunsOk.mem ra p z;exact(ri.srt p (by rw[er];exact Zr _ z)).same λk k1 k2=>mg.out k (.inl (by omega))
  ·rcases Qp.mp z with z | z
   ·subst z;show Sg c (arrOf st') u (u+(n+m));rw[show u+(n+m)=u+n+m by omega];exact mg.sg
   ·have b:=RunsOk.mem g5 p z;exact(ri.srt p (by rw[er];exact Jt _ (QH _ (QH _ z)))).same λk k1 k2=>mg.out k (.inr (by omega))
 ·rw[<- Qc,<- Qc,ep,el,Qs,Qs,Qt,Qt,Qt];omega
theorem RI.pow{st:J1}{lo:Nat}(r:RI κ a₀ c lo st)(i pw:Nat):RI κ a₀ c lo (setPending st ((pendingOf st).modify i λx=>(x.1,x.2.1,pw))):=by
 have er:Qah (setPending st ((pendingOf st).modify i λx=>(x.1,x.2.1,pw)))=Qah st:=by
  show((pendingOf st).modify i λx=>(x.1,x.2.1,pw)).toList.map sn=(pendingOf st).toList.map sn;rw[Array.toList_modify];apply Zj
  intro j;rw[Qx,Qx,List.getElem?_modify];cases(pendingOf st).toList[j]? with
  |none=>rfl
  |some p=>
   show some (sn (if i=j then _ else p))=some (sn p);split<;>rfl
 exact⟨⟨r.sb.perm,r.sb.kind,r.sb.failed⟩,by rw[er];exact r.runs,by rw[er];exact r.srt,r.le⟩
theorem QiV{st:J1}{Q:Unit->J1->Prop}(hA:Asks prog w A s κ a₀ c)(hB:SB κ a₀ st)(hp:pendingOf st=#[])
  (h:∀st',SB κ a₀ st'->Sg c (arrOf st') 0 a₀.size->Q () st'):wpS (model prog w) A E s sortRuns' Q st:=by
 rw[sortRuns'_eq];refine Qj (QcB ?_)
 dsimp only
 rw[hB.size];have ri0:RI κ a₀ c 0 st:=⟨hB,by unfold Qah;rw[hp];rfl,λp h=>by unfold Qah at h;rw[hp] at h;simp at h,Qr _⟩;refine Qj (YQ (J4 (I:=λx z st'=>∃lo,z=(none,lo)/\RI κ a₀ c lo st'/\(x<=lo∨lo=a₀.size)) (Q:=λz st'=>z=(none,a₀.size)/\RI κ a₀ c a₀.size st') ?step ?fin ⟨0,rfl,ri0,.inl (Qi _)⟩) ?post)
 case fin=>
  rintro z st' ⟨lo,rfl,ri,hx⟩;have:=ri.le;have e:lo=a₀.size:=by omega
  subst e;exact⟨rfl,ri⟩
 case step=>
  rintro x z st' _ hx ⟨lo,rfl,ri,hxl⟩
  dsimp only
  have hle:=ri.le;by_cases z0:lo≥a₀.size
  ·rw[if_pos z0];have e:lo=a₀.size:=by omega
   subst e;exact Qk ⟨rfl,ri⟩
  ·rw[if_neg z0];refine Qj (QgD hA (by omega) (by omega) ri.sb λm st1 f1 m1 m2 sg1=>?_)
   dsimp only
   have ri1:RI κ a₀ c lo st1:=⟨f1.sb,by unfold Qah;rw[f1.pend];exact ri.runs,λp hp=>by
    unfold Qah at hp;rw[f1.pend] at hp;have b:=RunsOk.mem ri.runs p hp;exact(ri.srt p hp).same λk k1 k2=>f1.low k (by omega),hle⟩
   have push:∀(n:Nat)(st2:J1),RI κ a₀ c lo st2->1<=n->lo+n<=a₀.size->Sg c (arrOf st2) lo (lo+n)->RI κ a₀ c (lo+n) (setPending st2 ((pendingOf st2).push (lo,n,0))):=λn st2 r2 n1 n2 sg=>by
    have er:Qah (setPending st2 ((pendingOf st2).push (lo,n,0)))=Qah st2++[(lo,n)]:=by
     show((pendingOf st2).push (lo,n,0)).toList.map sn=_;rw[Qb5,JF];rfl
    refine⟨⟨r2.sb.perm,r2.sb.kind,r2.sb.failed⟩,by rw[er];exact RunsOk.app.mpr ⟨lo,r2.runs,rfl,n1,rfl⟩,λp hp=>?_,n2⟩;rw[er] at hp;rcases Ja.mp hp with z | z
    ·exact r2.srt p z
    ·rw[Q6.mp z];exact sg
   by_cases zm:m<minRun' a₀.size a₀.size 0
   ·rw[if_pos zm];refine Qj (Qey (wpAny_rule ⟨rfl,?_⟩));refine Qj (QeX hA (by omega) m1 (by omega) f1.sb sg1 λst2 f2 sg2=>?_);simp only[Yw,Jn,if_false];have ri2:RI κ a₀ c lo st2:=⟨f2.sb,by unfold Qah;rw[f2.pend];exact ri1.runs,λp hp=>by
     unfold Qah at hp;rw[f2.pend] at hp;have b:=RunsOk.mem ri1.runs p hp;exact(ri1.srt p hp).same λk k1 k2=>f2.low k (by omega),hle⟩
    refine Qj (QcB ?_);cases hb:(pendingOf st2).back? with
    |none=>
     dsimp only
     exact Qj (QaO (Qk ⟨_,rfl,push _ st2 ri2 (by omega) (by omega) sg2,by omega⟩))
    |some bb=>
     obtain⟨s1,s2,s3⟩:=bb
     dsimp only
     refine Qj (YQ (J4 (I:=λ_ z st3=>z=(none,())/\RI κ a₀ c lo st3/\Sg c (arrOf st3) lo (lo+min (a₀.size - lo) (minRun' a₀.size a₀.size 0))) (Q:=λz st3=>z=(none,())/\RI κ a₀ c lo st3/\Sg c (arrOf st3) lo (lo+min (a₀.size - lo) (minRun' a₀.size a₀.size 0))) ?stepA (λ_ _ q=>q) ⟨rfl,ri2,sg2⟩) ?postA)
     case stepA=>
      rintro y z st3 _ hy ⟨rfl,r3,g3⟩;refine Qj (QcB ?_);by_cases z5:(pendingOf st3).size > 1
      ·rw[if_pos z5,getElem?_pos (pendingOf st3) ((pendingOf st3).size - 2) (by omega)];generalize (pendingOf st3)[(pendingOf st3).size - 2]'(by omega)=pp;obtain⟨q1,q2,q3⟩:=pp
       dsimp only
       split
       ·exact Qk ⟨rfl,r3,g3⟩
       ·refine Qj (QdP (hi:=0) hA r3 (by omega) λst4 r4 sz k4=>?_);exact Qk ⟨rfl,r4,g3.same λk k1 _=>k4 k k1⟩
      ·rw[if_neg z5];exact Qk ⟨rfl,r3,g3⟩
     case postA=>
      rintro z st3 ⟨rfl,r3,g3⟩
      dsimp only
      refine Qj (QaO (Qj (QaO (Qk ⟨_,rfl,push _ _ (r3.pow _ _) (by omega) (by omega) g3,by omega⟩))))
   ·rw[if_neg zm];refine Qj (QcB ?_);cases hb:(pendingOf st1).back? with
    |none=>
     dsimp only
     exact Qj (QaO (Qk ⟨_,rfl,push _ st1 ri1 m1 (by omega) sg1,by omega⟩))
    |some bb=>
     obtain⟨s1,s2,s3⟩:=bb
     dsimp only
     refine Qj (YQ (J4 (I:=λ_ z st3=>z=(none,())/\RI κ a₀ c lo st3/\Sg c (arrOf st3) lo (lo+m)) (Q:=λz st3=>z=(none,())/\RI κ a₀ c lo st3/\Sg c (arrOf st3) lo (lo+m)) ?stepA (λ_ _ q=>q) ⟨rfl,ri1,sg1⟩) ?postA)
     case stepA=>
      rintro y z st3 _ hy ⟨rfl,r3,g3⟩;refine Qj (QcB ?_);by_cases z5:(pendingOf st3).size > 1
      ·rw[if_pos z5,getElem?_pos (pendingOf st3) ((pendingOf st3).size - 2) (by omega)];generalize (pendingOf st3)[(pendingOf st3).size - 2]'(by omega)=pp;obtain⟨q1,q2,q3⟩:=pp
       dsimp only
       split
       ·exact Qk ⟨rfl,r3,g3⟩
       ·refine Qj (QdP (hi:=0) hA r3 (by omega) λst4 r4 sz k4=>?_);exact Qk ⟨rfl,r4,g3.same λk k1 _=>k4 k k1⟩
      ·rw[if_neg z5];exact Qk ⟨rfl,r3,g3⟩
     case postA=>
      rintro z st3 ⟨rfl,r3,g3⟩
      dsimp only
      refine Qj (QaO (Qj (QaO (Qk ⟨_,rfl,push _ _ (r3.pow _ _) m1 (by omega) g3,by omega⟩))))
 case post=>
  rintro z st' ⟨rfl,ri⟩
  dsimp only
  refine Qj (YQ (J4 (I:=λx z st3=>z=(none,())/\RI κ a₀ c a₀.size st3/\((pendingOf st3).size+x<=a₀.size∨(pendingOf st3).size<=1)) (Q:=λz st3=>z=(none,())/\RI κ a₀ c a₀.size st3/\(pendingOf st3).size<=1) ?stepB ?finB ⟨rfl,ri,.inl ?initB⟩) ?postB)
  case initB=>
   have:=RunsOk.le ri.runs;unfold Qah at this;rw[Qh,Qc] at this;omega
  case finB=>
   rintro z st3 ⟨rfl,r3,hx⟩;exact⟨rfl,r3,by omega⟩
  case stepB=>
   rintro x z st3 _ hx ⟨rfl,r3,hs⟩;refine Qj (QcB ?_);by_cases z5:(pendingOf st3).size<=1
   ·rw[if_pos z5];exact Qk ⟨rfl,r3,z5⟩
   ·rw[if_neg z5];have key:∀i,i+1<(pendingOf st3).size->wpS (model prog w) A E s (mergeAt' i) (λb st4=>b=true/\RI κ a₀ c a₀.size st4/\(pendingOf st4).size+1=(pendingOf st3).size) st3:=λi hi=>QdP (hi:=0) hA r3 hi λst4 r4 sz _=>⟨rfl,r4,sz⟩
    refine Qj (YQ (key _ ?_) ?_)
    ·have ii:∀{p:Prop}[Decidable p],(if p then(pendingOf st3).size - 2 - 1 else(pendingOf st3).size - 2)+1<(pendingOf st3).size:=by intro p _;split<;>omega
     exact ii
    ·rintro bb st4 ⟨rfl,r4,sz⟩;exact Qk ⟨rfl,r4,by omega⟩
  case postB=>
   rintro z st3 ⟨rfl,r3,hs⟩;refine Qk (h st3 r3.sb ?_);have rr:=r3.runs;have hl:(Qah st3).length<=1:=by unfold Qah;rw[Qh,Qc];exact hs
   have hsr:=r3.srt;cases er:Qah st3 with
   |nil=>
    rw[er] at rr;rw[<- (show 0=a₀.size from rr)];exact λi j hi hij hj=>by omega
   |cons p l=>
    rw[er] at rr hl hsr;cases l with
    |cons p' l'=>simp at hl
    |nil=>
     obtain⟨g1,g2,g3⟩:=rr;have:=hsr p (Q6.mpr rfl);rw[g1,(show 0+p.2=a₀.size from g3)] at this;exact this
end
end Rt
namespace L2
def blk(X:Cx)(M:List Str)(scope:QaR)(cl:List (Str×Addr))(ex:List Addr)(s3:Shared)(H3:Hp)(C:Addr):Cx where
 prog:=X.prog
 w:=X.w
 K:=X.K
 mg:=X.mg
 base:=X.base
 A:=X.A
 N:=M
 s₀:=s3
 H₀:=H3
 env:=compEnvC scope cl C X.env
 outer:=X.stack
 stack:=X.stack
 ex:=ex
 fn:=λ_=>false
 calm:=X.calm
 pn:=[]
 xe:=λ_ _=>False
def Qcz(env:Env):List (Str×Qbk)->List (Str×Addr)->List (Str×Addr)
 |[],acc=>acc
 |(n,k)::r,acc=>Qcz env r (if k=.free then(n,(env.cells.lookup n).getD 0)::acc else acc)
theorem QjE{env:Env}:∀(l:List (Str×Qbk))(acc:List (Str×Addr)),(∀x∈l,x.2=.free->∃c,env.cells.lookup x.1=some c) ->
  (forIn (m:=Sem) l acc λx cs=>(if(x.2 == Jk)=true then do let a <- cellOf env x.1;pure (J3 ((x.1,a)::cs)) else pure (J3 cs)))=pure (Qcz env l acc)
 |[],acc,_=>rfl
 |(n,k)::r,acc,h=>by
  rw[Qhw];by_cases hk:k=.free
  ·subst hk;obtain⟨c,hc⟩:=h (n,.free) Jm rfl;have e1:cellOf env n=pure c:=by unfold cellOf;rw[hc]
   have e2:Qcz env ((n,.free)::r) acc=Qcz env r ((n,c)::acc):=by
    show Qcz env r (if Jk=.free then(n,(env.cells.lookup n).getD 0)::acc else acc)=_;rw[if_pos rfl,hc];rfl
   rw[e2];show((if(Jk == Jk)=true then do let a <- cellOf env n;pure (J3 ((n,a)::acc)) else pure (J3 acc)) >>= _)=_;rw[if_pos (show(Jk == Jk)=true by decide),e1];exact QjE r _ λx hx=>h x (QH _ hx)
  ·have hb:(k == Jk)=false:=by simpa using hk
   have e2:Qcz env ((n,k)::r) acc=Qcz env r acc:=by
    show Qcz env r (if k=.free then(n,(env.cells.lookup n).getD 0)::acc else acc)=_;rw[if_neg hk]
   rw[e2];show((if(k == Jk)=true then _ else pure (J3 acc)) >>= _)=_;rw[hb,if_neg Qv];exact QjE r _ λx hx=>h x (QH _ hx)
theorem QjF{scope:QaR}{env:Env}(h:∀x∈scope.names,x.2=.free->∃c,env.cells.lookup x.1=some c):closureFor scope env=pure (Qcz env scope.names []):=by
 have e:=QjE (env:=env) scope.names [] h;unfold closureFor;show(forIn scope.names [] _ >>= _)=_;have e':(forIn (m:=Sem) scope.names ([]:List (Str×Addr)) λx cs=>match x with | (name,kind)=>(if(kind == Jk)=true then do let a <- cellOf env name;pure (J3 ((name,a)::cs)) else pure (J3 cs)))=pure (Qcz env scope.names []):=e
 first
  |(rw[e'];rfl)
  |(refine Eq.trans (congrArg (λt=>t >>= _) e') ?_;rfl)
theorem QjG{env:Env}:∀(l:List (Str×Qbk))(acc:List (Str×Addr)),(∀x∈l,x.2=.free->∃c,env.cells.lookup x.1=some c)->(∀x c,acc.lookup x=some c->env.cells.lookup x=some c) ->
  (∀x c,(Qcz env l acc).lookup x=some c->env.cells.lookup x=some c)/\(∀x c,acc.lookup x=some c->(Qcz env l acc).lookup x=some c)/\∀x,(x,Jk)∈l->∃c,(Qcz env l acc).lookup x=some c
 |[],acc,_,ha=>⟨ha,λ_ _ h=>h,λ_ h=>nomatch h⟩
 |(n,k)::r,acc,h,ha=>by
  have hr:∀x∈r,x.2=.free->∃c,env.cells.lookup x.1=some c:=λx hx=>h x (QH _ hx)
  by_cases hk:k=.free
  ·subst hk;obtain⟨c,hc⟩:=h (n,.free) Jm rfl;have e2:Qcz env ((n,.free)::r) acc=Qcz env r ((n,c)::acc):=by
    show Qcz env r (if Jk=.free then(n,(env.cells.lookup n).getD 0)::acc else acc)=_;rw[if_pos rfl,hc];rfl
   rw[e2];have ha':∀x c',((n,c)::acc).lookup x=some c'->env.cells.lookup x=some c':=λx c' q=>by
    rw[Jx] at q;cases hx:x == n with
    |true=>
     rw[hx] at q;have z:c=c':=Qm q;have y:x=n:=by simpa using hx
     rw[y,<- z];exact hc
    |false=>rw[hx] at q;exact ha x c' q
   obtain⟨i1,i2,i3⟩:=QjG r ((n,c)::acc) hr ha';refine⟨i1,λx c' q=>?_,λx hx=>?_⟩
   ·refine i2 x c' ?_
    rw[Jx];cases hx:x == n with
    |true=>
     have y:x=n:=by simpa using hx
     have:=ha x c' q;rw[y,hc] at this;exact this
    |false=>exact q
   ·rcases Qp.mp hx with z | z
    ·cases z;exact⟨c,i2 n c (by rw[Jx,beq_self_eq_true])⟩
    ·exact i3 x z
  ·have e2:Qcz env ((n,k)::r) acc=Qcz env r acc:=by
    show Qcz env r (if k=.free then(n,(env.cells.lookup n).getD 0)::acc else acc)=_;rw[if_neg hk]
   rw[e2];obtain⟨i1,i2,i3⟩:=QjG r acc hr ha;refine⟨i1,i2,λx hx=>?_⟩;rcases Qp.mp hx with z | z
   ·cases z;exact absurd rfl hk
   ·exact i3 x z
theorem Qcw{l:List (Str×Qbk)}{x:Str}{k:Qbk}(h:l.lookup x=some k):(x,k)∈l:=by
 induction l with
 |nil=>cases h
 |cons p r ih=>
  obtain⟨n,q⟩:=p;rw[Jx] at h;cases hx:x == n with
  |true=>
   rw[hx] at h;have y:x=n:=by simpa using hx
   have z:q=k:=Qm h;subst y z;exact Jm
  |false=>rw[hx] at h;exact QH _ (ih h)
theorem Qbx{env:Env}:∀{names:List (Str×Qbk)}{x:Str}{k:Qbk},(names.map λ(n,k)=>if(k == Jk&&env.scope.kind == .function&&env.kindOf n == some .cell) then(n,YW) else(n,k)).lookup x=some k ->
  names.lookup x=some k∨(k=.cell/\names.lookup x=some .free)
 |[],x,k,h=>by cases h
 |(n,q)::r,x,k,h=>by
  have ih:=@Qbx env r x k;rw[JI] at h;have h':Qhv x ((if(q == Jk&&env.scope.kind == .function&&env.kindOf n == some .cell)=true then(n,YW) else(n,q))::_)=some k:=h;cases hx:x == n with
  |true=>
   by_cases hc:(q == Jk&&env.scope.kind == .function&&env.kindOf n == some .cell)=true
   ·rw[if_pos hc,Jx,hx] at h';have z:YW=k:=Qm h';have y:q=.free:=by simp at hc;exact hc.1.1
    refine .inr ⟨z.symm,?_⟩;rw[Jx,hx,y]
   ·rw[if_neg hc,Jx,hx] at h';refine .inl ?_
    rw[Jx,hx];exact h'
  |false=>
   have h2:Qhv x (r.map λ(n,k)=>if(k == Jk&&env.scope.kind == .function&&env.kindOf n == some .cell) then(n,YW) else(n,k))=some k:=by
    by_cases hc:(q == Jk&&env.scope.kind == .function&&env.kindOf n == some .cell)=true
    ·rw[if_pos hc,Jx,hx] at h';exact h'
    ·rw[if_neg hc,Jx,hx] at h';exact h'
   rw[Jx,hx];exact ih h2
theorem relabel_free{env:Env}:∀{names:List (Str×Qbk)}{x:Str},names.lookup x=some .free->(names.map λ(n,k)=>if(k == Jk&&env.scope.kind == .function&&env.kindOf n == some .cell) then(n,YW) else(n,k)).lookup x=some .cell ∨
   (names.map λ(n,k)=>if(k == Jk&&env.scope.kind == .function&&env.kindOf n == some .cell) then(n,YW) else(n,k)).lookup x=some .free
 |[],x,h=>by cases h
 |(n,q)::r,x,h=>by
  have ih:=@relabel_free env r x;rw[JI];show Qhv x ((if(q == Jk&&env.scope.kind == .function&&env.kindOf n == some .cell)=true then(n,YW) else(n,q))::_)=some .cell∨Qhv x ((if(q == Jk&&env.scope.kind == .function&&env.kindOf n == some .cell)=true then(n,YW) else(n,q))::_)=some .free;cases hx:x == n with
  |true=>
   rw[Jx,hx] at h;have z:q=Jk:=Qm h;subst z;by_cases hc:(Jk == Jk&&env.scope.kind == .function&&env.kindOf n == some .cell)=true
   ·rw[if_pos hc,Jx,hx];exact .inl rfl
   ·rw[if_neg hc,Jx,hx];exact .inr rfl
  |false=>
   rw[Jx,hx] at h;by_cases hc:(q == Jk&&env.scope.kind == .function&&env.kindOf n == some .cell)=true
   ·rw[if_pos hc,Jx,hx];exact ih h
   ·rw[if_neg hc,Jx,hx];exact ih h
def Qhh(N:List Str)(sc:QaR)(M:List Str)(scope:QaR)(cap:List (Option Nat)):Bool:=
 cap.length == M.length&&(M.zip cap).all (λ(x,o)=>match o with
  |none=>scope.names.lookup x == some .local
  |some j=>N[j]? == some x&&(scope.names.lookup x == some .free&&(sc.names.lookup x == some .cell||sc.names.lookup x == some .free))) &&
 (scope.kind == .function&&scope.names.all λy=>y.2 != .cell&&((y.2 != .free||(sc.names.lookup y.1 == some .cell||sc.names.lookup y.1 == some .free))&&(y.2 != .local||scope.names.lookup y.1 == some .local)))
def Qd9(cap:List (Option Nat))(σ:St):St:=cap.map λo=>match o with
 |none=>none
 |some j=>(σ[j]?).getD none
structure CapOk (N:List Str) (sc:QaR) (M:List Str) (scope:QaR) (cap:List (Option Nat)):Prop where
 len:cap.length=M.length
 own:∀(i j:Nat)(x:Str),M[i]? = some x->cap[i]? = some (some j)->N[j]? = some x/\scope.names.lookup x=some .free/\(sc.names.lookup x=some .cell∨sc.names.lookup x=some .free)
 kind:scope.kind=.function
 cell:∀y∈scope.names,y.2≠.cell
 free:∀y∈scope.names,y.2=.free->sc.names.lookup y.1=some .cell∨sc.names.lookup y.1=some .free
 loc:∀y∈scope.names,y.2=.local->scope.names.lookup y.1=some .local
theorem CapOk.of{N:List Str}{sc:QaR}{M:List Str}{scope:QaR}{cap:List (Option Nat)}(h:Qhh N sc M scope cap=true):CapOk N sc M scope cap:=by
 unfold Qhh at h;simp only[JS,Qat,beq_iff_eq] at h;obtain⟨⟨h1,h2⟩,h3,h4⟩:=h;refine⟨h1,λi j x e1 e2=>?_,h3,λy hy z=>?_,λy hy z=>?_,λy hy z=>?_⟩
 ·have hm:(x,some j)∈M.zip cap:=by
   have:(M.zip cap)[i]? = some (x,some j):=by rw[List.getElem?_zip_eq_some];exact⟨e1,e2⟩
   exact QQ this
  have:=h2 _ hm;simp only[JS,beq_iff_eq,Qhy] at this;exact this
 ·have:=(h4 y hy).1;simp[z] at this
 ·have:=(h4 y hy).2.1
  simpa [z] using this
 ·have:=(h4 y hy).2.2
  simpa [z] using this
section
variable{X:Cx}{pins:List (Addr×Obj)}{σ:St}{H H3:Hp}{s3:Shared}{M:List Str}{scope:QaR}{cap:List (Option Nat)}{fp:List Addr}{h4:Heap}{t4:Nat}
theorem Cx.Ok.cells(ok:X.Ok){N:List Str}(c:CapOk N X.env.scope M scope cap):∀y∈scope.names,y.2=.free->∃d,X.env.cells.lookup y.1=some d:=λy hy z=>ok.has y.1 (c.free y hy z)
theorem Qfx(I:Inv X pins σ H3 s3)(c:CapOk X.N X.env.scope M scope cap)(hf:∀b∈fp,FpOk X pins H3 b)(hb:∀b∈fp,b<s3.heap.objs.size)
  (hn:h4.Ns s3.heap.objs.size λ_=>none)(hk:∀b o,s3.heap.get? b=some o->h4.get? b=some o) :
  Inv (blk X M scope (Qcz X.env scope.names []) fp s3 H3 s3.heap.objs.size) [] (Qd9 cap σ) H3 { s3 with heap:=h4,toks:=t4 }:=by
 obtain⟨c1,c2,c3⟩:=QjG scope.names [] (I.ok.cells c) (λx d q=>by cases q);refine⟨⟨I.ok.mod,c.kind,I.ok.glob,I.ok.blt,Qi _,λx y d e1 e2=>I.ok.inj x y d (c1 x d e1) (c1 y d e2),λx hx=>?_,(λx d z=>nomatch z),I.ok.hd,I.ok.frames,.inl rfl,λb hb'=>?_,I.bs,
  Q7 I.ok.bsz I.sz,λb o e z=>?_,λb hb' z=>?_,I.stack,I.stkFree⟩,rfl,I.bare,Un.kept hk,⟨_,hn,λi x v e1 e2 e3=>?_⟩,λx d e=>?_,I.hok.fresh (Qi _),λx d e=>I.freeC x d (c1 x d e),λp hp=>(nomatch hp),I.hok.kept hk,?_⟩
 ·have hx':(relabel scope X.env).names.lookup x=some .cell∨(relabel scope X.env).names.lookup x=some .free:=hx;rcases hx' with q | q
  ·rcases Qbx q with z | ⟨_,z⟩
   ·exact absurd rfl (c.cell _ (Qcw z))
   ·exact c3 x (Qcw z)
  ·rcases Qbx q with z | ⟨z,_⟩
   ·exact c3 x (Qcw z)
   ·cases z
 ·obtain⟨f0,f1,f2,f3,f4,f5⟩:=hf b hb';exact⟨QB (hb b hb'),λx d e=>f4 x d (c1 x d e)⟩
 ·obtain⟨f0,f1,f2,f3,f4,f5⟩:=hf b z;rcases f3 with q | q
  ·exact I.ok.noex b o e q
  ·exact absurd (Q0 (Qo e) (Q7 I.ok.bsz q)) (Qad _)
 ·obtain⟨f0,f1,f2,f3,f4,f5⟩:=hf b hb';rcases Qp.mp (I.stkSub b z) with q | q
  ·exact f1 q
  ·exact f2 q
 ·have e2':(cap.map λo=>match o with | none=>none | some j=>(σ[j]?).getD none)[i]? = some (some v):=e2;rw[Qx] at e2';cases q:cap[i]? with
  |none=>rw[q] at e2';cases e2'
  |some o=>
   rw[q] at e2';cases o with
   |none=>cases e2'
   |some j=>
    have e4:(σ[j]?).getD none=some v:=Qm e2';have e5:σ[j]? = some (some v):=by
     cases r:σ[j]? with
     |none=>rw[r] at e4;cases e4
     |some o=>rw[r] at e4;exact congrArg some e4
    obtain⟨n1,n2,n3⟩:=c.own i j x e1 q;obtain⟨m,hm,hl⟩:=I.loc;obtain⟨u,ru,lk⟩:=hl j x v n1 e5 (n3.elim (λz=>.inr (.inl z)) λz=>.inr (.inr z));refine⟨u,ru,.inr ?_⟩;rcases lk with⟨k1,_⟩ | ⟨_,d,k2,k3⟩
    ·have k1':X.env.scope.names.lookup x=some .local:=k1;rcases n3 with z | z<;>(rw[z] at k1';cases k1')
    ·obtain⟨d',hd'⟩:=c3 x (Qcw n2);have ed:d'=d:=by
      have:=c1 x d' hd';rw[k2] at this;exact(Qm this).symm
     subst ed;exact⟨(relabel_free n2:(relabel scope X.env).names.lookup x=some .cell∨(relabel scope X.env).names.lookup x=some .free),d',hd',k3.keeps hk⟩
 ·obtain⟨v,q⟩:=I.cell x d (c1 x d e);exact⟨v,q.keeps hk⟩
 ·show(cap.map _).length=M.length;rw[Qh];exact c.len
theorem QoD{σ':St}{s':Shared}{h':Heap}(I:Inv X pins σ H3 s3)(hf:∀b∈fp,FpOk X pins H3 b)(J:Inv (blk X M scope (Qcz X.env scope.names []) fp s3 H3 s3.heap.objs.size) [] σ' H s')(hs:Qay s3.heap.objs.size s'.heap h') :
  Inv X pins σ H { s' with heap:=h' }:=by
 have u:Un (frs X.stack) fp H3 H s3.heap s'.heap:=J.base;have ne:∀b o,s3.heap.get? b=some o->b≠s3.heap.objs.size:=λb o e=>QB (Qo e)
 have hC:H s3.heap.objs.size=none:=J.free;refine I.call' (ch:=fp) (s':={ s' with heap:=h' }) J.os ⟨λb o e n hb hx=>(hs.2 b (ne b o e)).trans (u.keep b o e n hb hx),λb o e n hb hx=>?_,u.free,λb o e hx=>?_,u.tups,u.frzs,u.tbls⟩ (λb o e=>?_) J.bare λb hb=>?_
 ·obtain⟨sl,q⟩:=u.slot b o e n hb hx;exact⟨sl,(hs.2 b (ne b o e)).trans q⟩
 ·obtain⟨o',q⟩:=u.there b o e hx;exact⟨o',(hs.2 b (ne b o e)).trans q⟩
 ·refine(J.hok b o e).stay (λc v hc q=>(hs.2 c ?_).trans q) (λ_ q=>q) λ_ _ q=>q
  rintro rfl;rcases hc with z | z
  ·rw[<- z,hC] at e;cases e
  ·rw[hC] at z;cases z
 ·obtain⟨f0,f1,f2,f3,f4,f5⟩:=hf b hb;exact⟨f3,f1,f4,f5⟩
end
def Wk:St->St->Prop
 |[],[]=>True
 |none::a,_::b=>Wk a b
 |some v::a,some u::b=>v=u/\Wk a b
 |_,_=>False
theorem Wk.len:∀{a b:St},Wk a b->a.length=b.length
 |[],[],_=>rfl
 |none::a,_::b,h=>congrArg (·+1) (Wk.len (a:=a) (b:=b) h)
 |some v::a,some u::b,h=>congrArg (·+1) (Wk.len (a:=a) (b:=b) h.2)
 |[],_::_,h=>h.elim
 |some _::_,[],h=>h.elim
 |none::_,[],h=>h.elim
 |some _::_,none::_,h=>h.elim
theorem Wk.get:∀{a b:St},Wk a b->∀(i:Nat) v,a[i]? = some (some v)->b[i]? = some (some v)
 |[],[],_,i,v,h=>by simp at h
 |none::a,x::b,h,0,v,e=>by simp at e
 |none::a,x::b,h,i+1,v,e=>by
  simp only[ZQ] at e ⊢;exact Wk.get (a:=a) (b:=b) h i v e
 |some q::a,some u::b,h,0,v,e=>by
  simp only[QjP] at e ⊢;rw[<- h.1];exact e
 |some q::a,some u::b,h,i+1,v,e=>by
  simp only[ZQ] at e ⊢;exact Wk.get (a:=a) (b:=b) h.2 i v e
 |[],_::_,h,_,_,_=>h.elim
 |some _::_,[],h,_,_,_=>h.elim
 |none::_,[],h,_,_,_=>h.elim
 |some _::_,none::_,h,_,_,_=>h.elim
theorem Inv.wk{X:Cx}{pins:List (Addr×Obj)}{σ σ':St}{H:Hp}{s:Shared}(I:Inv X pins σ H s)(h:Wk σ' σ):Inv X pins σ' H s:=I.weak h.len h.get
def Qmq(J:It)(body:V->Hp->(Hp->Prop)->Prop)(Qn:Hp->Prop)(H:Hp):Prop:=
 ∃W:Nat->Nat->Hp->Prop,(∃m,W 0 m H)/\∀i m H2,W i m H2->(J.stop i H2/\Qn H2)∨(J.go i H2/\∀x H3,J.yld i H2 x H3->body x H3 λH6=>∃m',m'<m/\W (i+1) m' H6)
abbrev Act:=(Shared->Prop)->Shared->Prop
def BodyOk(Y:Cx)(σ:St)(act:Act)(b:Hp->(Hp->Prop)->Prop):Prop:=
 ∀(pins:List (Addr×Obj))(s:Shared)(H:Hp)(k:Hp->Prop)(Q:Shared->Prop),Inv Y pins σ H s->b H k->(∀s' H',Inv Y pins σ H' s'->k H'->Q s')->act Q s
theorem Qdy{Y:Cx}{σ:St}{tg:Q3}{elt:Q3}{gens:List QgA}{scope:QaR}{cpos:Pos}{d:Nat}{it D:Addr}{fp:List Addr}{tn:Nat->Heap->Prop}{J:It}{pins:List (Addr×Obj)}{s:Shared}{H:Hp}{body:V->Hp->(Hp->Prop)->Prop}{Qn:Hp->Prop}{R:QyF->Shared->Prop}{act:Value->Act}
  (hc:Y.calm=true)(T:Turn Y.prog Y.w Y.K tg J fp it tn)(st:tn 0 s.heap)(hf:∀b∈fp,FpOk Y pins H b)
  (hturn:∀(Q:PySem.Fin->Shared->Prop)(E:Value->Shared->Prop)(s:Shared),wpAny (model Y.prog Y.w) Y.A (pyNext (.ref it)) (λr s1=>match r with
   |none=>Q (.done .next) s1
   |some v=>wpAny (model Y.prog Y.w) Y.A (letOwnedTupleGo tg (.ref it) v) (λ_ s2=>act v (λs3=>Q (.again (.compLoop (.ListComp elt gens scope cpos) d (.ref it) (.ref D) Y.env)) s3) s2) E s1) E s ->
   wpAny (model Y.prog Y.w) Y.A (compTurn (.ListComp elt gens scope cpos) d (.ref it) (.ref D) Y.env) Q E s)
  (hact:∀(x:V)(u:Value),RelV x u->BodyOk Y σ (act u) (body x))
  (I:Inv Y pins σ H s)(h:Qmq J body Qn H)(hR:∀s' H',Inv Y pins σ H' s'->Qn H'->R (.ok .next) s') :
  codeAny (model Y.prog Y.w) Y.A (.compLoop (.ListComp elt gens scope cpos) d (.ref it) (.ref D) Y.env) R s:=by
 obtain⟨W,⟨m0,w0⟩,turn⟩:=h;have stat:∀{H':Hp},(∀b∈fp,H' b=none)->∀b∈fp,FpOk Y pins H' b:=λhn b hb=>⟨hn b hb,(hf b hb).2⟩
 refine codeAny_loop rfl (λn s'=>∃i H',Inv Y pins σ H' s'/\tn i s'.heap/\(∀b∈fp,H' b=none)/\W i n H') (λn s3 hI=>?_) m0 ⟨0,H,I,st,λb hb=>(hf b hb).1,w0⟩;show wpAny _ Y.A ((compTurn (.ListComp elt gens scope cpos) d (.ref it) (.ref D) Y.env).onRaise (λx=>do noteFrame x Y.env;theTreesLotGoes x)) _ _ s3;refine wpAny_noted (hturn _ _ _ ?_);obtain⟨i,H3,I3,st3,fr3,w3⟩:=hI;rcases turn i n H3 w3 with⟨stop,qn⟩ | ⟨go,step⟩
 ·refine thn (T.done Y rfl rfl rfl hc i pins s3 σ H3 _ I3 (stat fr3) st3 stop) λr s4 ⟨hr,I4⟩=>?_
  subst hr;exact hR s4 H3 I4 qn
 ·refine thn (T.item Y rfl rfl rfl hc i pins s3 σ H3 _ I3 (stat fr3) st3 go) λr s4 ⟨u,hr,h4⟩=>?_
  subst hr;refine thn h4 λ_ s5 ⟨x,H5,I5,r5,y5,st5,fr5⟩=>?_
  have I5':=I5.pinned (stat fr5) (T.obj _ _ st5);refine hact x u r5 _ s5 H5 _ _ I5' (step x H5 y5) λs7 H7 I7 ⟨m',hm,w7⟩=>?_
  refine⟨rfl,m',hm,i+1,H7,I7.unpinned,T.keep _ _ _ st5 λb hb o e=>(I7.pin (b,o) (Jt _ (Jt _ (Qcv hb e)))).1,λb hb=>?_,w7⟩;obtain⟨o,e,dd⟩:=T.obj _ _ st5 b hb;exact(I7.pin (b,o) (Jt _ (Jt _ (Qcv hb e)))).2.1
abbrev Qmo (ifs:List Q3) (env:Env):Sem Bool:=forIn ifs true λc r=>if r=true then do let ok <- isTrue c env (eval c env);pure (J3 ok) else pure (J3 r)
def PTs(Y:Cx)(ifs:List Q3)(t:TT):Prop:=
 ∀(pins:List (Addr×Obj))(s:Shared)(σ:St)(H:Hp)(Q:Bool->Hp->Prop),Inv Y pins σ H s->t σ H Q->wpAny (model Y.prog Y.w) Y.A (Qmo ifs Y.env) (TP Y pins σ Q) Y.xe s
def Qty:TT:=λ_ H Q=>Q true H
theorem QtW{Y:Cx}:PTs Y [] Qty:=λpins s σ H Q I h=>wpAny_tests_nil ⟨H,I,h⟩
theorem QtV{Y:Cx}{c:Q3}{t:TT}(h:PT Y c t):PTs Y [c] t:=λpins s σ H Q I q=>wpAny_tests_one (h pins s σ H Q I q)
def Qr2(Y:Cx)(tg:Q3)(ifs:List Q3)(inner:Act):Value->Act:=λu Q s=>
 wpAny (model Y.prog Y.w) Y.A (assign tg Y.env u) (λ_ s4=>wpAny (model Y.prog Y.w) Y.A (Qmo ifs Y.env) (λok s5=>if ok=true then inner Q s5 else Q s5) (λ_ _=>False) s4) (λ_ _=>False) s
def bOf(σ:St)(g:TG)(tc:TT)(inner:St->Hp->(Hp->Prop)->Prop):V->Hp->(Hp->Prop)->Prop:=λx H k=>g x σ H λσ4 H4=>Wk σ σ4/\tc σ4 H4 λb H5=>
 if b=true then inner σ4 H5 k else k H5
theorem Qhn{Y:Cx}{σ:St}{tg:Q3}{ifs:List Q3}{g:TG}{tc:TT}{inner:Act}{ri:St->Hp->(Hp->Prop)->Prop}(hx:Y.xe=λ_ _=>False)(hg:PG Y tg g)(ht:PTs Y ifs tc)(he:∀σ4,BodyOk Y σ4 inner (ri σ4))(x:V)(u:Value)(r:RelV x u) :
  BodyOk Y σ (Qr2 Y tg ifs inner u) (bOf σ g tc ri x):=by
 intro pins s H k Q I h hQ;have hx':∀(v:Value)(s':Shared),Y.xe v s'->False:=λv s' z=>by rw[hx] at z;exact z
 refine wpAny_mono (hg pins s σ H x u _ I r h) (λ_ s4 ⟨σ4,H4,I4,wk,q4⟩=>?_) hx';refine wpAny_mono (ht pins s4 σ4 H4 _ I4 q4) (λb s5 ⟨H5,I5,q5⟩=>?_) hx';cases b with
 |false=>
  rw[if_neg Qv] at q5;rw[if_neg Qv];exact hQ s5 H5 (I5.wk wk) q5
 |true=>
  rw[if_pos rfl] at q5;rw[if_pos rfl];exact he σ4 pins s5 H5 k Q I5 q5 λs' H' I' k'=>hQ s' H' (I'.wk wk) k'
def QoL(Y:Cx)(elt:Q3)(D:Addr):Act:=λQ s=>wpAny (model Y.prog Y.w) Y.A (eval elt Y.env) (λv s6=>wpAny (model Y.prog Y.w) Y.A (call (.builtin "list.append") [.ref D,v]) (λ_ s7=>Q s7) (λ_ _=>False) s6) (λ_ _=>False) s
def Qyv(p:Addr)(te:TE):St->Hp->(Hp->Prop)->Prop:=λσ H k=>te σ H λv H6=>∃ys,H6 p=some (.lst ys)/\ys.length<sizeLine/\k (upd H6 p (.lst (ys++[v])))
theorem Qho{Y:Cx}{σ:St}{elt:Q3}{te:TE}{D:Addr}(hx:Y.xe=λ_ _=>False)(he:PE Y elt te):BodyOk Y σ (QoL Y elt D) (Qyv D te σ):=by
 intro pins s H k Q I h hQ;have hx':∀(v:Value)(s':Shared),Y.xe v s'->False:=λv s' z=>by rw[hx] at z;exact z
 refine wpAny_mono (he pins s σ H _ I h) (λv s6 ⟨y,H6,I6,r6,ys,e,hz,q⟩=>?_) hx';exact wpAny_mono (Qia (X:=Y) pins s6 σ H6 (.ref D) [y] (.ref D) [v] (λ_ H'=>k H') I6 rfl (.cons r6 .nil) ⟨D,ys,y,rfl,rfl,e,hz,q⟩) (λ_ s7 ⟨_,H7,I7,_,q7⟩=>hQ s7 H7 I7 q7) hx'
theorem QjW{Y:Cx}{elt tg iter:Q3}{ifs:List Q3}{scope:QaR}{cpos:Pos}{it D:Addr}(Q:PySem.Fin->Shared->Prop)(E:Value->Shared->Prop)(s:Shared)
  (h:wpAny (model Y.prog Y.w) Y.A (pyNext (.ref it)) (λr s1=>match r with
   |none=>Q (.done .next) s1
   |some v=>wpAny (model Y.prog Y.w) Y.A (letOwnedTupleGo tg (.ref it) v) (λ_ s2=>Qr2 Y tg ifs (QoL Y elt D) v (λs3=>Q (.again (.compLoop (.ListComp elt [⟨tg,iter,ifs,0⟩] scope cpos) 0 (.ref it) (.ref D) Y.env)) s3) s2) E s1) E s) :
  wpAny (model Y.prog Y.w) Y.A (compTurn (.ListComp elt [⟨tg,iter,ifs,0⟩] scope cpos) 0 (.ref it) (.ref D) Y.env) Q E s:=by
 rw[compTurn_list];refine wpAny_bind (wpAny_standAt (wpAny_bind (thn h λr s1 h1=>?_)));cases r with
 |none=>exact Qb h1
 |some v=>
  refine wpAny_bind (thn h1 λ_ s2 h2=>?_);refine wpAny_bind (wpAny_mono h2 (λ_ s4 h4=>wpAny_bind (wpAny_mono h4 (λok s5 h5=>?_) λ_ _ f=>f.elim)) λ_ _ f=>f.elim);cases ok with
  |false=>exact Qb h5
  |true=>exact wpAny_bind (wpAny_bind (wpAny_mono h5 (λx s6 h6=>wpAny_bind (wpAny_mono h6 (λ_ s7 h7=>Qb (Qb h7)) λ_ _ f=>f.elim)) λ_ _ f=>f.elim))
def tComp(cap:List (Option Nat))(wi:TI)(g:TG)(tc:TT)(te:TE):TE:=λσ H Q=>wi σ H λJ H1=>∀p,H1 p=none->Qmq J (bOf (Qd9 cap σ) g tc (Qyv p te)) (Q (.ref p)) (upd H1 p (.lst []))
theorem FpOk.upd{X:Cx}{pins:List (Addr×Obj)}{H:Hp}{b a:Addr}{o:HO}(h:FpOk X pins H b)(hne:b≠a):FpOk X pins (upd H a o) b:=⟨by rw[Zk hne];exact h.1,h.2⟩
theorem QpQ{X:Cx}{M:List Str}{cap:List (Option Nat)}{elt tg iter:Q3}{ifs:List Q3}{scope:QaR}{pos:Pos}{wi:TI}{g:TG}{tc:TT}{te:TE}(hc:X.calm=true)(ok:Qhh X.N X.env.scope M scope cap=true)
  (hi:PI X tg iter wi)(hb:∀cl ex s3 H3 C,PG (blk X M scope cl ex s3 H3 C) tg g/\PTs (blk X M scope cl ex s3 H3 C) ifs tc/\PE (blk X M scope cl ex s3 H3 C) elt te)
  (hs:∀x,foldedSetIterable iter X.env x=pure x:=by intro _;rfl):PE X (.ListComp elt [⟨tg,iter,ifs,0⟩] scope pos) (tComp cap wi g tc te):=by
 intro pins s σ H Q I h;have c:=CapOk.of ok;rw[eval_ListComp];refine QcQ (use:=none) rfl hs (QjF (I.ok.cells c)) c.kind c.loc ?_
 refine thn (hi pins s σ H _ I h) λv s1 h1=>thn h1 λitv s2 h2=>?_
 obtain⟨it,fp,tn,J,H2,e,I2,T,st2,f2,hW⟩:=h2;subst e;refine JJ (QeS c.cell (by intro y hy;simp at hy) (λh₁ hns₁ hsb₁=>?_) c.kind);have I3:Inv X pins σ (upd H2 s2.heap.objs.size (.lst [])) { s2 with heap:=s2.heap.push { cls:=.type "list",data:=.seq ([]:List Value).toArray } }:=I2.lnew (t':=s2.toks) (ys:=[]) .nil (Qr _);have lt2:∀b∈fp,b<s2.heap.objs.size:=λb hb=>by obtain⟨o,e,_⟩:=T.obj _ _ st2 b hb;exact Qo e
 have f3:∀b∈fp,FpOk X pins (upd H2 s2.heap.objs.size (.lst [])) b:=λb hb=>(f2 b hb).upd (QB (lt2 b hb))
 generalize hs3:({ s2 with heap:=s2.heap.push { cls:=.type "list",data:=.seq ([]:List Value).toArray } }:Shared)=s3 at I3;have e3:s3.heap=s2.heap.push { cls:=.type "list",data:=.seq ([]:List Value).toArray }:=by rw[<- hs3]
 have z3:s3.heap.objs.size=s2.heap.objs.size+1:=by rw[e3,Zp]
 have hk:∀b o,s3.heap.get? b=some o->h₁.get? b=some o:=λb o e=>hsb₁.extBut b o (by
  have:=Qo e;rw[e3] at this;exact QB this) (Qe _ (e3 ▸ e))
 have hn₁:h₁.Ns s3.heap.objs.size λ_=>none:=by rw[e3];exact hns₁
 have B:=Qfx (t4:=s3.toks+([]:List (Str×Value)).length) (fp:=fp) I3 c f3 (λb hb=>by rw[z3];exact Yq (lt2 b hb)) hn₁ hk;have st4:tn 0 h₁:=T.keep _ _ _ st2 λb hb o e=>hk b o (by rw[e3];exact Qe _ e)
 have fp4:∀b∈fp,FpOk (blk X M scope (Qcz X.env scope.names []) fp s3 (upd H2 s2.heap.objs.size (.lst [])) s3.heap.objs.size) [] (upd H2 s2.heap.objs.size (.lst [])) b:=λb hb=>by
  refine⟨(f3 b hb).1,(B.ok.exf b hb).1,B.ok.exfs b hb,.inl hb,(B.ok.exf b hb).2,λp hp=>(nomatch hp)⟩
 obtain⟨hg,ht,he⟩:=hb (Qcz X.env scope.names []) fp s3 (upd H2 s2.heap.objs.size (.lst [])) s3.heap.objs.size;have loop:codeAny (model X.prog X.w) X.A (.compLoop (.ListComp elt [⟨tg,iter,ifs,0⟩] scope pos) 0 (.ref it) (.ref s2.heap.objs.size) (compEnvC scope (Qcz X.env scope.names []) s3.heap.objs.size X.env))
   (compPost (model X.prog X.w) X.A X.xe none (EP X pins σ Q) (.ref s2.heap.objs.size) s3.heap.objs.size) { s3 with heap:=h₁,toks:=s3.toks+([]:List (Str×Value)).length }:=by
  refine Qdy (Y:=blk X M scope (Qcz X.env scope.names []) fp s3 (upd H2 s2.heap.objs.size (.lst [])) s3.heap.objs.size) (gens:=[⟨tg,iter,ifs,0⟩]) (d:=0) hc T st4 fp4
   (λQ E s h=>QjW Q E s h) (λx u r=>Qhn rfl hg ht (λσ4=>Qho rfl he) x u r) B (hW _ (I2.hok.fresh (Qi _))) λs' H' I' q=>?_
  obtain⟨m,hn,_⟩:=I'.loc;exact⟨m,hn,λh' hs'=>⟨.ref s2.heap.objs.size,H',QoD I3 f3 I' hs',rfl,q⟩⟩
 exact QdJ loop (T.self _ 0 _ _ _ st4 loop)
section
variable{X:Cx}
theorem QjJ:CallR X (.builtin "isinstance") (λxs H Q=>∃x t T b,xs=[x,.ty T]/\TyOf X.K H x t/\PySem.W.kitOne X.K t (.type T)=some b/\Q (.bl b) H):=by
 intro pins s σ H xs us Q I r h;obtain⟨x,t,T,b,rfl,ty,e,q⟩:=h;obtain⟨u,v,rfl,ru,rv⟩:=vals2 r;cases(show v=ZM T from rv);exact QnL I ru ty e λtk=>⟨.bl b,H,I.tok tk,rfl,q⟩
theorem QrV{bs:List Bool}:∀{us:List Value},Vals (bs.map V.bl) us->LSm.BoolsAre us bs:=by
 induction bs with
 |nil=>intro us r;cases r;exact .nil
 |cons b bs ih=>
  intro us r;cases r with
  |cons r t=>
   cases(show _=QaQ b from r);exact .cons b (ih t)
theorem Qhl:CallR X (.builtin "all") (λxs H Q=>∃(p:Addr)(bs:List Bool),xs=[.ref p]/\SqL X.K H p (bs.map V.bl)/\X.calm=true/\Q (.bl (bs.all id)) H):=by
 intro pins s σ H xs us Q I r h;obtain⟨p,bs,rfl,hp,hc,q⟩:=h;obtain⟨u,rfl,ru⟩:=vals1 r;cases ru;obtain⟨its,rv,pl,hz⟩:=I.list hp;have hl:=pl.isList;have hb:=QrV rv;have hlt:p<s.heap.objs.size:=by obtain⟨_,e,_⟩:=hl;exact Qo e
 refine call_all_walk (QhB hl ?_);refine⟨s.heap.objs.size,[s.heap.objs.size,p],[s.heap.objs.size],its.toArray.size,_,_,λi=>(bs[i]?).getD true,rfl,Walks.list (A:=X.A.in1) (I.ok.hd hc) _ p (QB hlt) its.toArray,
  ⟨⟨_,Qu _ rfl,rfl,rfl⟩,hl.push _⟩,λi v s' Q' E' hP hQ=>?_,λh' tk hk=>?_⟩
 ·obtain⟨b,e,rfl⟩:=hb.get i v (by simpa using hP);simp only[e,Option.getD_some] at hQ;exact ZL hQ
 ·have e:((Qw its.toArray.size).all λi=>(bs[i]?).getD true)=bs.all id:=by
   rw[Ql,hb.length];exact LSm.range_all bs
  rw[e];exact⟨.bl _,H,I.kept (LSm.kept_iter hk),rfl,q⟩
def QAQ:V->Option Int->Option Int->Hp->VK->Prop:=λx lo hi H Q=>∃a xs,x=.ref a/\H a=some (.tup xs)/\∀p H',Same H H'->H' p=some (.tup (QkU xs lo hi))->Q (.ref p) H'
theorem JX{H:Hp}{p:Addr}{o:HO}(h:H p=none):Same H (upd H p o):=λb u e=>by rw[Zk (Yd e h)];exact e
theorem QcY{prog:Qz}{w:Ji}{A:Jb}{E:Value->Shared->Prop}{s:Shared}{t sl:Addr}{items:Array Value}{vl vu:Value}{lo hi:Option Int}{Q:Value->Shared->Prop}(ht:IsTup s.heap t items)(hs:s.heap.IsSliceOf sl vl vu .none)(pl:QiJ vl lo)(pu:QiJ vu hi)
  (h1:HT.sIx items.size 0 lo=0)(h2:HT.sIx items.size items.size hi=items.size)(h:Q (.ref t) s):wpAny (model prog w) A (getItem (.ref t) (.ref sl)) Q E s:=by
 obtain⟨os,hos,hcs,hds⟩:=id hs;have hTs:s.TypeIs (.ref sl) "slice" := ⟨os,hos,hcs⟩;unfold getItem
 try with_reducible refine JY ?_
 first | refine wpAny_bind (Qb ?_) | skip
 refine wpAny_bind (Qy5 ht.typeIs (by decide) ?_);refine wpAny_bind (Ze (name:=Qaz "__getitem__") ht.typeIs J5
  (JK J5 ht.typeIs QvV ?_ (QyD _ _)))
 show wpAny _ _ (QaW (.ref t) >>= _) _ _ s;refine wpAny_bind (tupleItemsOf_ ht ?_);refine wpAny_bind (Qbt hTs ?_);rw[if_pos (by decide)];refine wpAny_bind (HT.QbY hs pl pu ?_);show wpAny _ _ (if(((HT.sIx items.size 0 lo:Nat):Int) == 0&&(1:Int) == 1&&(HT.sIx items.size items.size hi - HT.sIx items.size 0 lo) == items.size)=true then _ else _) _ _ s;rw[if_pos (by rw[h1,h2];simp)];refine wpAny_bind (m:=Qzt _) (wpAny_bind (Qbt ht.typeIs (Qb ?_)));rw[if_pos (by decide)];exact wpAny_bind (wpAny_rule (Qb ⟨_,rfl,Qb h⟩))
theorem Qwp:SlR X QAQ:=by
 intro pins s σ H x v vl vu lo hi sl Q I rx hs pl pu h;obtain⟨a,xs,rfl,hx,q⟩:=h;by_cases hw:HT.sIx xs.length 0 lo=0/\HT.sIx xs.length xs.length hi=xs.length
 ·cases rx;obtain⟨its,r,ht,hz⟩:=I.tuple (SqT.of hx);have hlen:its.toArray.size=xs.length:=by rw[Ql];exact r.length.symm
  refine⟨"tuple",_,J5.lookup,ht.typeIs,?_⟩;refine QcY ht hs pl pu (by rw[hlen];exact hw.1) (by rw[hlen];exact hw.2) ?_
  refine⟨.ref a,H,I,rfl,q a H (Same.refl H) ?_⟩;have e:QkU xs lo hi=xs:=by
   unfold QkU;rw[hw.1,hw.2];simp
  rw[e];exact hx
 ·exact Qwo pins s σ H (.ref a) v vl vu lo hi sl Q I rx hs pl pu ⟨a,xs,rfl,SqT.of hx,hw,λp hp=>q p _ (JX hp) J7⟩
def QwG:R2:=λx y H Q=>∃a b xs ys,x=.ref a/\y=.ref b/\H a=some (.tup xs)/\H b=some (.tup ys)/\xs.length+ys.length<=sizeLine/\∀p H',Same H H'->H' p=some (.tup (xs++ys))->Q (.ref p) H'
theorem QuI:OpR X (binaryOp .Add) QwG:=by
 intro pins s σ H x y v u Q I rx ry h;obtain⟨a,b,xs,ys,rfl,rfl,ha,hb,hz,q⟩:=h;by_cases hx:xs=[]
 ·subst hx;cases rx;cases ry;obtain⟨its,r1,p1,_⟩:=I.tuple (SqT.of ha);obtain⟨its2,r2,p2,_⟩:=I.tuple (SqT.of hb);cases r1;obtain⟨⟨cls,dd,data,sl⟩,ho,hc,n,hd⟩:=id p1;obtain⟨⟨cls2,dd2,data2,sl2⟩,ho2,hc2,n2,hd2⟩:=id p2;simp only at hc hd hc2 hd2;subst hc hd hc2 hd2;exact Qtb ⟨_,ho,rfl⟩ ⟨_,ho2,rfl⟩ QiQ QoZ PySem.F.slot_tuple_add PySem.F.entry_tuple_add (PySem.F.args_tuple_add_2 _ _)
   (tuple_addW0 a b #[] its2.toArray n n2 dd dd2 sl sl2 rfl) ⟨ho,ho2,⟨.ref b,H,I,rfl,q b H (Same.refl H) hb⟩⟩
 ·exact QuH pins s σ H _ _ v u Q I rx ry ⟨a,b,xs,ys,rfl,rfl,SqT.of ha,SqT.of hb,hx,hz,λe=>q a H (Same.refl H) (by rw[e,Jz];exact ha),λ_ p hp=>q p _ (JX hp) J7⟩
end
end L2
namespace Rz
open Sem (wp)
section
variable{prog:Qz}{w:Ji}{A:Jb}{E:Value->Shared->Prop}{s:Shared}
theorem QeM{it t:Addr}{i:Nat}{items:Array Value}{x:Value}{Q:Value->Shared->Prop}(hit:s.heap.IsTupleIter it t i)(ht:s.heap.IsTuple t items)(hx:items[i]? = some x)
  (hQ:∀h',h'.IsTupleIter it t (i+1)->Qay it s.heap h'->Q x { s with heap:=h' }):wpAny (model prog w) A (JT (.ref it)) Q E s:=by
 obtain⟨o,ho,hc,hd⟩:=id hit;obtain⟨ol,hol,_,nl,hdl⟩:=ht;unfold JT;refine wpAny_bind (Ze (name:=Qaz "__next__") hit.typeIs Qar
  (JK Qar hit.typeIs QiU ?_ (QiK _)))
 show wpAny _ _ (field (.ref it) 0 >>= _) _ _ s;refine wpAny_bind (Zg ho hd (x:=.ref t) rfl ?_);show wpAny _ _ (if(QK t == Jw)=true then _ else _) _ _ s;rw[if_neg (show ¬((QK t == Jw)=true) from Qv)];show wpAny _ _ (field (.ref it) 1 >>= _) _ _ s;refine wpAny_bind (Zg ho hd (x:=.int i 0) rfl ?_);show wpAny _ _ (seqItems? (.ref t) >>= _) _ _ s;refine wpAny_bind (Za hol hdl ?_);simp only[Q8,hx];refine wpAny_bind (QcC ho hd (by simp) (Qb ⟨x,rfl,Qb (hQ _ ?_ (Zq ..))⟩));exact⟨_,ZK _ ho (Qde (YV hd _)),(QfG ..).trans hc,by
  rw[YV hd];simp[rawInt]⟩
theorem Qjq{it t:Addr}{i:Nat}{items:Array Value}{Q:Value->Shared->Prop}(hh:A.handled=none)(hit:s.heap.IsTupleIter it t i)(ht:s.heap.IsTuple t items)(hx:items[i]? = none)
  (hE:∀h' e,Heap.ExtBut it s.heap h'->(∃o,h'.get? e=some o/\o.cls=.type "StopIteration")->E (.ref e) { s with heap:=h' }):wpAny (model prog w) A (JT (.ref it)) Q E s:=by
 obtain⟨o,ho,hc,hd⟩:=id hit;obtain⟨ol,hol,_,nl,hdl⟩:=ht;unfold JT;refine wpAny_bind (Ze (name:=Qaz "__next__") hit.typeIs Qar
  (JK Qar hit.typeIs QiU ?_ (QiK _)))
 show wpAny _ _ (field (.ref it) 0 >>= _) _ _ s;refine wpAny_bind (Zg ho hd (x:=.ref t) rfl ?_);show wpAny _ _ (if(QK t == Jw)=true then _ else _) _ _ s;rw[if_neg (show ¬((QK t == Jw)=true) from Qv)];show wpAny _ _ (field (.ref it) 1 >>= _) _ _ s;refine wpAny_bind (Zg ho hd (x:=.int i 0) rfl ?_);show wpAny _ _ (seqItems? (.ref t) >>= _) _ _ s;refine wpAny_bind (Za hol hdl ?_);simp only[Q8,hx];refine wpAny_bind (wpAny_rule (wpAny_bind (QcC ho hd (by simp) ?_)));show wpAny _ _ (newExc (.type "StopIteration") [] >>= _) _ _ _;refine wpAny_bind ?_
 simp only[newExc,newTuple];refine wpAny_bind (JJ ?_ (by size_fits));refine wpAny_bind (m:=firstArgMember _ _) (Yo (a:=Jw) (by first | rfl | (simp only[firstArgMember];rfl)) ?_);refine JJ ?_ (by size_fits)
 simp only[raiseNew];refine wpAny_bind (wpAny_handled ?_)
 first | rw[show A.in1.handled=none from hh] | rw[hh]
 refine wpAny_bind (Qb (wpAny_throw ?_));exact hE _ _ (((Zq ..).extBut.push _).push _) ⟨_,Qu _ rfl,rfl⟩
structure Apart (z TI TO i1 i2 t1 t2:Addr):Prop where
 a1:TI≠z
 a2:TO≠z
 a3:i1≠z
 a4:i2≠z
 a5:TI≠TO
 a6:TI≠i1
 a7:TI≠i2
 a8:TO≠i1
 a9:TO≠i2
 b1:i1≠i2
 b2:t1≠z/\t1≠TO/\t1≠i1/\t1≠i2
 b3:t2≠z/\t2≠TO/\t2≠i1/\t2≠i2
structure QoN (h:Heap) (z TI TO i1 i2 t1 t2:Addr) (f:Value) (k:Nat):Prop where
 zp:Qtk h z TI TO f
 ti:IsPair h TI (.ref i1) (.ref i2)
 to:∃a b,IsPair h TO a b
 i1:h.IsTupleIter i1 t1 k
 i2:h.IsTupleIter i2 t2 k
theorem Qnv{z TI TO i1 i2 t1 t2:Addr}{k:Nat}{xs ys:Array Value}{x y:Value}{Q:Option Value->Shared->Prop}(D:Apart z TI TO i1 i2 t1 t2)(Z:QoN s.heap z TI TO i1 i2 t1 t2 .none k)
  (hl1:s.heap.IsTuple t1 xs)(hl2:s.heap.IsTuple t2 ys)(hx:xs[k]? = some x)(hy:ys[k]? = some y)
  (hQ:∀h',QoN h' z TI TO i1 i2 t1 t2 (rawInt s.heap.objs.size) (k+1)->IsPair h' s.heap.objs.size x y->(∀c o,c≠z->c≠TO->c≠i1->c≠i2->s.heap.get? c=some o->h'.get? c=some o)->Q (some (.ref s.heap.objs.size)) { s with heap:=h' }) :
  wpAny (model prog w) A (pyNext (.ref z)) Q E s:=by
 obtain⟨hz,hTI,⟨a,b,hTO⟩,h1,h2⟩:=Z;have hT:s.TypeIs (.ref z) "zip" := ⟨_,hz,rfl⟩;unfold pyNext;refine wpAny_bind (Qda (Ze (name:=Qaz "__next__") hT QdL (JK QdL hT QyQ ?_ (Qv3 _))));show wpAny _ _ (field (.ref z) 2 >>= _) _ _ _;refine wpAny_bind (Zg hz rfl (x:=.bool false) rfl ?_);show wpAny _ _ (field (.ref z) 3 >>= _) _ _ _;refine wpAny_bind (Zg hz rfl (x:=.ref TI) rfl (wpAny_bind (Za hTI rfl ?_)));show wpAny _ _ (ZE (.ref z) >>= _) _ _ _;refine wpAny_bind ?_
 unfold ZE;refine wpAny_bind (Zg hz rfl (x:=.none) rfl (Qb ?_));simp only[if_true];refine wpAny_bind (wpAny_rule (wpAny_bind (Zg hz rfl (x:=.ref TO) rfl (wpAny_bind (Y7 hz (by simp) λg1 z1 s1=>?_)))))
 replace z1:Qtk g1 z TI TO .ellipsis:=z1
 refine wpAny_bind ?_
 simp only[QfN,QvM,Qhw,Qv0];refine wpAny_bind (wpAny_bind (Qgr ?_));show wpAny _ _ (JT (.ref i1) >>= _) _ _ _;refine wpAny_bind (QeM (h1.extBut s1.extBut D.a3) (hl1.extBut s1.extBut D.b2.1) hx λg2 p2 s2=>Qb ?_);have o2:IsPair g2 TO a b:=s2.extBut _ _ D.a8 (s1.extBut _ _ D.a2 hTO);refine wpAny_bind (Za o2 rfl (wpAny_bind (QeR o2 λg3 o3 s3=>wpAny_bind (QvT (Qb ?_)))))
 replace o3:IsPair g3 TO x b:=o3
 refine wpAny_bind (wpAny_bind (Qgr ?_));show wpAny _ _ (JT (.ref i2) >>= _) _ _ _;refine wpAny_bind (QeM (((h2.extBut s1.extBut D.a4).extBut s2.extBut D.b1.symm).extBut s3.extBut D.a9.symm)
  (((hl2.extBut s1.extBut D.b3.1).extBut s2.extBut D.b3.2.2.1).extBut s3.extBut D.b3.2.1) hy λg4 p4 s4=>Qb ?_)
 have o4:IsPair g4 TO x b:=s4.extBut _ _ D.a9 o3;refine wpAny_bind (Za o4 rfl (wpAny_bind (QeR o4 λg5 o5 s5=>wpAny_bind (QvT (Qb (Qb ?_))))))
 replace o5:IsPair g5 TO x y:=o5
 refine wpAny_bind (Za o5 rfl (wpAny_bind (Ql0 ?_)));have sz:g5.objs.size=s.heap.objs.size:=by rw[s5.1,s4.1,s3.1,s2.1,s1.1]
 have kp:∀c o,c≠z->c≠TO->c≠i1->c≠i2->s.heap.get? c=some o->g5.get? c=some o:=λc o c1 c2 c3 c4 e=>
  s5.extBut _ _ c2 (s4.extBut _ _ c4 (s3.extBut _ _ c2 (s2.extBut _ _ c3 (s1.extBut _ _ c1 e))))
 have z5:Qtk g5 z TI TO .ellipsis:=s5.extBut _ _ D.a2.symm (s4.extBut _ _ D.a4.symm (s3.extBut _ _ D.a2.symm (s2.extBut _ _ D.a3.symm z1)));have q1:g5.IsTupleIter i1 t1 (k+1):=((p2.extBut s3.extBut D.a8.symm).extBut s4.extBut D.b1).extBut s5.extBut D.a8.symm;have q2:g5.IsTupleIter i2 t2 (k+1):=p4.extBut s5.extBut D.a9.symm;show wpAny _ _ (QbE (.ref z) (.ref g5.objs.size) >>= _) _ _ _;refine wpAny_bind ?_
 unfold QbE;have z6:Qtk (g5.push { cls:=.type "tuple",data:=.seq #[x,y] }) z TI TO .ellipsis:=Qe _ z5;refine wpAny_bind (Y7 z6 (by simp) λg7 z7 s7=>?_)
 replace z7:Qtk g7 z TI TO (rawInt g5.objs.size):=z7
 refine Y7 z7 (by simp) λg8 z8 s8=>?_
 replace z8:Qtk g8 z TI TO (rawInt g5.objs.size):=z8
 have up:∀c o,c≠z->g5.get? c=some o->g8.get? c=some o:=λc o c1 e=>s8.extBut _ _ c1 (s7.extBut _ _ c1 (Qe _ e))
 have ne:g5.objs.size≠z:=QaA (Qo z5);have t8:IsPair g8 g5.objs.size x y:=s8.extBut _ _ ne (s7.extBut _ _ ne (Qu _ rfl));rw[sz] at z8 t8;refine Qb ⟨_,rfl,Qb ?_⟩;show Q (some (.ref g5.objs.size)) _;rw[sz];exact hQ g8 ⟨z8,up _ _ D.a1 (kp _ _ D.a1 D.a5 D.a6 D.a7 hTI),⟨x,y,up _ _ D.a2 o5⟩,q1.at λo e=>up _ o D.a3 e,q2.at λo e=>up _ o D.a4 e⟩ t8 λc o c1 c2 c3 c4 e=>up c o c1 (kp c o c1 c2 c3 c4 e)
theorem Qrq{z TI TO i1 i2 t1 t2:Addr}{k:Nat}{xs ys:Array Value}{Q:Option Value->Shared->Prop}(hh:A.handled=none)(D:Apart z TI TO i1 i2 t1 t2)(Z:QoN s.heap z TI TO i1 i2 t1 t2 .none k)
  (hl1:s.heap.IsTuple t1 xs)(hl2:s.heap.IsTuple t2 ys)(hend:xs[k]? = none∨ys[k]? = none)
  (hQ:∀h',(∀c o,c≠z->c≠TO->c≠i1->c≠i2->s.heap.get? c=some o->h'.get? c=some o)->Q none { s with heap:=h' }):wpAny (model prog w) A (pyNext (.ref z)) Q E s:=by
 obtain⟨hz,hTI,⟨a,b,hTO⟩,h1,h2⟩:=Z;have hT:s.TypeIs (.ref z) "zip" := ⟨_,hz,rfl⟩;have fin:∀(h':Heap)(e:Addr),(∀c o,c≠z->c≠TO->c≠i1->c≠i2->s.heap.get? c=some o->h'.get? c=some o)->(∃o,h'.get? e=some o/\o.cls=.type "StopIteration") ->
   wpAny (model prog w) A (isInstance (.ref e) (.type "StopIteration") >>= λx=>if x=true then pure none else throw (.ref e)) Q E { s with heap:=h' }:=λh' e hk he=>by
  obtain⟨o,ho,hc⟩:=he;refine wpAny_bind (QaH (T := "StopIteration") (b:=true) ⟨o,ho,hc⟩ isSubtype_stop ?_);exact Qb (hQ _ hk)
 unfold pyNext;refine wpAny_bind (Qda (Ze (name:=Qaz "__next__") hT QdL (JK QdL hT QyQ ?_ (Qv3 _))));show wpAny _ _ (field (.ref z) 2 >>= _) _ _ _;refine wpAny_bind (Zg hz rfl (x:=.bool false) rfl ?_);show wpAny _ _ (field (.ref z) 3 >>= _) _ _ _;refine wpAny_bind (Zg hz rfl (x:=.ref TI) rfl (wpAny_bind (Za hTI rfl ?_)));show wpAny _ _ (ZE (.ref z) >>= _) _ _ _;refine wpAny_bind ?_
 unfold ZE;refine wpAny_bind (Zg hz rfl (x:=.none) rfl (Qb ?_));simp only[if_true];refine wpAny_bind (wpAny_rule (wpAny_bind (Zg hz rfl (x:=.ref TO) rfl (wpAny_bind (Y7 hz (by simp) λg1 z1 s1=>?_)))))
 replace z1:Qtk g1 z TI TO .ellipsis:=z1
 refine wpAny_bind ?_
 simp only[QfN,QvM,Qhw,Qv0];refine wpAny_bind (wpAny_bind (Qgr ?_));show wpAny _ _ (JT (.ref i1) >>= _) _ _ _;cases hx:xs[k]? with
 |none=>
  refine wpAny_bind (Qjq hh (h1.extBut s1.extBut D.a3) (hl1.extBut s1.extBut D.b2.1) hx λg2 e s2 he=>?_);obtain⟨oe,hoe,hce⟩:=he;have z2:Qtk g2 z TI TO .ellipsis:=s2 _ _ D.a3.symm z1;have hez:e≠z:=λq=>by subst q;rw[z2] at hoe;cases hoe;simp at hce
  refine Y7 z2 (by simp) λg3 _ s3=>?_
  exact fin g3 e (λc o c1 _ c3 _ q=>s3.extBut _ _ c1 (s2 _ _ c3 (s1.extBut _ _ c1 q))) ⟨oe,s3.extBut _ _ hez hoe,hce⟩
 |some x=>
  have hy:ys[k]? = none:=by
   rcases hend with q | q
   ·rw[hx] at q;cases q
   ·exact q
  refine wpAny_bind (QeM (h1.extBut s1.extBut D.a3) (hl1.extBut s1.extBut D.b2.1) hx λg2 p2 s2=>Qb ?_);have o2:IsPair g2 TO a b:=s2.extBut _ _ D.a8 (s1.extBut _ _ D.a2 hTO);refine wpAny_bind (Za o2 rfl (wpAny_bind (QeR o2 λg3 o3 s3=>wpAny_bind (QvT (Qb ?_)))));refine wpAny_bind (wpAny_bind (Qgr ?_));show wpAny _ _ (JT (.ref i2) >>= _) _ _ _;refine wpAny_bind (Qjq hh (((h2.extBut s1.extBut D.a4).extBut s2.extBut D.b1.symm).extBut s3.extBut D.a9.symm)
   (((hl2.extBut s1.extBut D.b3.1).extBut s2.extBut D.b3.2.2.1).extBut s3.extBut D.b3.2.1) hy λg4 e s4 he=>?_)
  obtain⟨oe,hoe,hce⟩:=he;have z4:Qtk g4 z TI TO .ellipsis:=s4 _ _ D.a4.symm (s3.extBut _ _ D.a2.symm (s2.extBut _ _ D.a3.symm z1));have hez:e≠z:=λq=>by subst q;rw[z4] at hoe;cases hoe;simp at hce
  refine Y7 z4 (by simp) λg5 _ s5=>?_
  exact fin g5 e (λc o c1 c2 c3 c4 q=>s5.extBut _ _ c1 (s4 _ _ c4 (s3.extBut _ _ c2 (s2.extBut _ _ c3 (s1.extBut _ _ c1 q))))) ⟨oe,s5.extBut _ _ hez hoe,hce⟩
end
abbrev zh1 (h:Heap) (t1:Addr):Heap:=h.push { cls:=.type "tuple_iterator",data:=.fields #[.ref t1,.int 0 0] }
abbrev zh2 (h:Heap) (t1 t2:Addr):Heap:=(zh1 h t1).push { cls:=.type "tuple_iterator",data:=.fields #[.ref t2,.int 0 0] }
abbrev zh3 (h:Heap) (t1 t2:Addr):Heap:=(zh2 h t1 t2).push { cls:=.type "tuple",data:=.seq #[.ref h.objs.size,.ref (zh1 h t1).objs.size] }
abbrev zh4 (h:Heap) (t1 t2:Addr):Heap:=(zh3 h t1 t2).push { cls:=.type "tuple",data:=.seq #[.none,.none] }
abbrev zh5 (h:Heap) (t1 t2:Addr):Heap:=(zh4 h t1 t2).push { cls:=.type "zip",data:=.fields #[.none,.bool false,.bool false,.ref (zh2 h t1 t2).objs.size,.ref (zh3 h t1 t2).objs.size] }
theorem made(t1 t2:Addr)(xs ys:Array Value) :
  Meets (Yz.«zip.__new__» ⟨[.type "zip",.ref t1,.ref t2],[]⟩) (λ_ R s=>s.heap.IsTuple t1 xs/\s.heap.IsTuple t2 ys/\R (.ok (.ret (.ref (zh4 s.heap t1 t2).objs.size))) { s with heap:=zh5 s.heap t1 t2 }):=
 .of_wp λprog w A R s h=>by
  obtain⟨hp,g,d,tk,os⟩:=s;obtain⟨hl1,hl2,h⟩:=h;have hsub:=sub_zip;have k1:QlZ (QlV ⟨hp,g,d,tk,os⟩) t1 xs:=hl1;have k2:QlZ (QlV ⟨hp.push { cls:=.type "tuple_iterator",data:=.fields #[.ref t1,.int 0 0] },g,d,tk,os⟩) t2 ys:=hl2.at λo e=>Qe _ e
  wp_walk using Y8 k1,Y8 k2
  exact⟨_,rfl,h⟩
section
variable{prog:Qz}{w:Ji}{A:Jb}{E:Value->Shared->Prop}{s:Shared}
theorem QrU{t1 t2:Addr}{xs ys:Array Value}{Q:Value->Shared->Prop}(hl1:s.heap.IsTuple t1 xs)(hl2:s.heap.IsTuple t2 ys)
  (h:∀h',QoN h' (s.heap.objs.size+4) (s.heap.objs.size+2) (s.heap.objs.size+3) s.heap.objs.size (s.heap.objs.size+1) t1 t2 .none 0->(∀c o,s.heap.get? c=some o->h'.get? c=some o)->Q (.ref (s.heap.objs.size+4)) { s with heap:=h' }) :
  wpAny (model prog w) A (call (.type "zip") [.ref t1,.ref t2]) Q E s:=by
 refine callType_new F.called_zip (by decide) (F.typeCall_zip_2 _ _) (F.newCall_zip_2 _ _) (λobj=>F.args_object_init_3 obj _ _) F.entry_zip_new (made t1 t2 xs ys) ⟨hl1,hl2,?_⟩;have z1:(zh1 s.heap t1).objs.size=s.heap.objs.size+1:=Zp ..;have z2:(zh2 s.heap t1 t2).objs.size=s.heap.objs.size+2:=by rw[Zp,z1]
 have z3:(zh3 s.heap t1 t2).objs.size=s.heap.objs.size+3:=by rw[Zp,z2]
 have z4:(zh4 s.heap t1 t2).objs.size=s.heap.objs.size+4:=by rw[Zp,z3]
 have g5:(zh5 s.heap t1 t2).get? (zh4 s.heap t1 t2).objs.size=some _:=Qu _ rfl;have g4:(zh5 s.heap t1 t2).get? (zh3 s.heap t1 t2).objs.size=some _:=Qe _ (Qu _ rfl);have g3:(zh5 s.heap t1 t2).get? (zh2 s.heap t1 t2).objs.size=some _:=Qe _ (Qe _ (Qu _ rfl));have g2:(zh5 s.heap t1 t2).get? (zh1 s.heap t1).objs.size=some _:=Qe _ (Qe _ (Qe _ (Qu _ rfl)));have g1:(zh5 s.heap t1 t2).get? s.heap.objs.size=some _:=Qe _ (Qe _ (Qe _ (Qe _ (Qu _ rfl))));show _/\_;rw[z2,z3,z4] at g5;rw[z1,z2] at g3;rw[z3] at g4;rw[z1] at g2;rw[z4];exact⟨⟨_,g5,rfl⟩,h _ ⟨g5,g3,⟨_,_,g4⟩,⟨_,g1,rfl,rfl⟩,⟨_,g2,rfl,rfl⟩⟩ λc o x=>Qe _ (Qe _ (Qe _ (Qe _ (Qe _ x))))⟩
end
end Rz
namespace L2
section
variable{X:Cx}{pins:List (Addr×Obj)}{σ:St}{H:Hp}{s:Shared}{h':Heap}
theorem Inv.turnedNew{t':Nat}{ch:List Addr}{a:Addr}{o:HO}(I:Inv X pins σ H s)(hch:∀b∈ch,FpOk X pins H b)(k:∀b u,b∉ch->s.heap.get? b=some u->h'.get? b=some u)(hp:s.heap.objs.size<=a)
  (new:ObjOk X.prog X.w (upd H a o) h' a o):Inv X pins σ (upd H a o) { s with heap:=h',toks:=t' }:=by
 have hn:H a=none:=I.hok.fresh hp;have nch:∀b u,H b=some u->b∉ch:=λb u e z=>by rw[(hch b z).1] at e;cases e
 refine I.step (g':=s.gens) (d':=s.drawn) (ch:=ch) (λb hb=>?_) (λb u _ _ hc e _=>k b u hc e) (λb u _ _ hc e _=>⟨u.slots,k b u hc e⟩) (λb u hc e n=>?_) (λb u hc e=>⟨u,k b u hc e⟩)
  (λb xs e=>by rw[Zk (Yd e hn)];exact e) (λb u v e=>by rw[Zk (Yd e hn)];exact e) (λb ps e=>⟨#[],by rw[Zk (Yd e hn),e];simp⟩) (λm hm=>?_) (λb u e=>?_) I.bare
 ·obtain⟨f0,f1,f2,f3,f4,f5⟩:=hch b hb;exact⟨f3,f1,f4,f5⟩
 ·rw[Zk (QB (Q0 (Qo e) hp))];exact n
 ·obtain⟨u,es,ep,ho,r⟩:=hm;exact⟨u,es,ep,k _ u (λz=>(hch _ z).2.1 rfl) ho,r⟩
 ·by_cases hb:b=a
  ·subst hb;rw[J7] at e;cases e;exact new
  ·rw[Zk hb] at e;refine(I.hok b u e).stay (λc v hc q=>k c v ?_ q) (λc q=>by rw[Zk (Yd q hn)];exact q) λc xs q=>by rw[Zk (Yd q hn)];exact q
   rcases hc with z | z
   ·rw[z];exact nch b u e
   ·exact nch c _ z
theorem Inv.turnedAll{t':Nat}{ch:List Addr}(I:Inv X pins σ H s)(hch:∀b∈ch,FpOk X pins H b)(k:∀b u,b∉ch->s.heap.get? b=some u->h'.get? b=some u):Inv X pins σ H { s with heap:=h',toks:=t' }:=by
 have nch:∀b u,H b=some u->b∉ch:=λb u e z=>by rw[(hch b z).1] at e;cases e
 refine I.step (g':=s.gens) (d':=s.drawn) (ch:=ch) (λb hb=>?_) (λb u _ _ hc e _=>k b u hc e) (λb u _ _ hc e _=>⟨u.slots,k b u hc e⟩) (λb u hc e n=>n) (λb u hc e=>⟨u,k b u hc e⟩)
  (λb xs e=>e) (λb u v e=>e) (λb ps e=>⟨#[],by rw[e];simp⟩) (λm hm=>?_) (λb u e=>?_) I.bare
 ·obtain⟨f0,f1,f2,f3,f4,f5⟩:=hch b hb;exact⟨f3,f1,f4,f5⟩
 ·obtain⟨u,es,ep,ho,r⟩:=hm;exact⟨u,es,ep,k _ u (λz=>(hch _ z).2.1 rfl) ho,r⟩
 ·refine(I.hok b u e).stay (λc v hc q=>k c v ?_ q) (λc q=>q) λc xs q=>q
  rcases hc with z | z
  ·rw[z];exact nch b u e
  ·exact nch c _ z
end
def Itz(t1 t2:Addr):It:=
 ⟨λi H=>∃xs ys x y,H t1=some (.tup xs)/\H t2=some (.tup ys)/\xs[i]? = some x/\ys[i]? = some y,
  λi H v H'=>∃p x y,H p=none/\(∀xs,H t1=some (.tup xs)->xs[i]? = some x)/\(∀ys,H t2=some (.tup ys)->ys[i]? = some y)/\v=.ref p/\H'=upd H p (.tup [x,y]),
  λi H=>∃xs ys,H t1=some (.tup xs)/\H t2=some (.tup ys)/\(xs.length<=i∨ys.length<=i)⟩
theorem Qpe{P:Qz}{w:Ji}{K:PySem.W.Frag}{elts:List Q3}{x1}{tpos:Pos}{z TI TO i1 i2 t1 t2:Addr}(D:Rz.Apart z TI TO i1 i2 t1 t2) :
  Turn P w K (.Tuple elts x1 tpos) (Itz t1 t2) [z,TI,TO,i1,i2] z (λi h=>Rz.QoN h z TI TO i1 i2 t1 t2 .none i) where
 mem:=by simp
 obj:=λi h st b hb=>by
  obtain⟨a1,a2,⟨_,_,a3⟩,⟨o4,a4,_,d4⟩,⟨o5,a5,_,d5⟩⟩:=st;simp only[Qp,QV,or_false] at hb;rcases hb with rfl | rfl | rfl | rfl | rfl
  ·exact⟨_,a1,λv q=>nomatch q⟩
  ·exact⟨_,a2,λv q=>nomatch q⟩
  ·exact⟨_,a3,λv q=>nomatch q⟩
  ·exact⟨_,a4,λv q=>by rw[d4] at q;cases q⟩
  ·exact⟨_,a5,λv q=>by rw[d5] at q;cases q⟩
 keep:=λi h h' st k=>by
  obtain⟨a1,a2,⟨a,b,a3⟩,a4,a5⟩:=st;exact⟨k z (by simp) _ a1,k TI (by simp) _ a2,⟨a,b,k TO (by simp) _ a3⟩,a4.at λo e=>k i1 (by simp) o e,a5.at λo e=>k i2 (by simp) o e⟩
 item:=by
  intro X hP hw hK hc i pins s σ H E I hf st hg;subst hP hw hK;obtain⟨xs,ys,x,y,h1,h2,hx,hy⟩:=hg;obtain⟨its1,r1,p1,_⟩:=I.tuple (SqT.of h1);obtain⟨its2,r2,p2,_⟩:=I.tuple (SqT.of h2);obtain⟨u1,hu1,ru1⟩:=r1.get hx;obtain⟨u2,hu2,ru2⟩:=r2.get hy;refine Rz.Qnv D st (show s.heap.IsTuple t1 its1.toArray from p1) (show s.heap.IsTuple t2 its2.toArray from p2) (by simpa using hu1) (by simpa using hu2) λh' st' tp kp=>?_
  have hlt:∀b∈[z,TI,TO,i1,i2],b≠s.heap.objs.size:=λb hb=>by
   obtain⟨a1,a2,⟨_,_,a3⟩,⟨o4,a4,_,d4⟩,⟨o5,a5,_,d5⟩⟩:=st;simp only[Qp,QV,or_false] at hb;rcases hb with rfl | rfl | rfl | rfl | rfl
   ·exact QB (Qo a1)
   ·exact QB (Qo a2)
   ·exact QB (Qo a3)
   ·exact QB (Qo a4)
   ·exact QB (Qo a5)
  have fr:H s.heap.objs.size=none:=I.hok.fresh (Qi _);refine⟨_,rfl,Ql1 st'.zp λh2' z2 s2=>?_⟩;have I1:Inv X pins σ (upd H s.heap.objs.size (.tup [x,y])) { s with heap:=h2',toks:=s.toks }:=by
   refine I.turnedNew (ch:=[z,TI,TO,i1,i2]) hf (λb u hb e=>?_) (Qi _) ⟨by show 2<=sizeLine;decide,[u1,u2],.cons ru1 (.cons ru2 .nil),?_⟩
   ·simp only[Qp,QV,or_false,not_or] at hb;exact s2.extBut _ _ hb.1 (kp b u hb.1 hb.2.2.1 hb.2.2.2.1 hb.2.2.2.2 e)
   ·exact⟨_,s2.extBut _ _ (hlt z (by simp)).symm tp,rfl,0,rfl⟩
  refine⟨.ref s.heap.objs.size,_,I1,rfl,⟨_,x,y,fr,λxs' e=>?_,λys' e=>?_,rfl,rfl⟩,?_,λb hb=>?_⟩
  ·rw[h1] at e;cases e;exact hx
  ·rw[h2] at e;cases e;exact hy
  ·obtain⟨a1,a2,⟨a,b,a3⟩,a4,a5⟩:=st';exact⟨z2,s2.extBut _ _ D.a1 a2,⟨a,b,s2.extBut _ _ D.a2 a3⟩,a4.extBut s2.extBut D.a3,a5.extBut s2.extBut D.a4⟩
  ·rw[Zk (hlt b hb)];exact(hf b hb).1
 done:=by
  intro X hP hw hK hc i pins s σ H E I hf st hg;subst hP hw hK;obtain⟨xs,ys,h1,h2,he⟩:=hg;obtain⟨its1,r1,p1,_⟩:=I.tuple (SqT.of h1);obtain⟨its2,r2,p2,_⟩:=I.tuple (SqT.of h2);have l1:=r1.length;have l2:=r2.length;refine Rz.Qrq (I.ok.hd hc) D st (show s.heap.IsTuple t1 its1.toArray from p1) (show s.heap.IsTuple t2 its2.toArray from p2) ?_ λh' kp=>⟨rfl,I.turnedAll (t':=s.toks) (ch:=[z,TI,TO,i1,i2]) hf λb u hb e=>?_⟩
  ·rcases he with q | q
   ·exact .inl (by simp;omega)
   ·exact .inr (by simp;omega)
  ·simp only[Qp,QV,or_false,not_or] at hb;exact kp b u hb.1 hb.2.2.1 hb.2.2.2.1 hb.2.2.2.2 e
 self:=λ_ _ _ _ _ st h=>QdB st.zp h
section
variable{X:Cx}
theorem apart_new(n t1 t2:Nat)(h1:t1<n)(h2:t2<n):Rz.Apart (n+4) (n+2) (n+3) n (n+1) t1 t2 where
 a1:=by show ¬(n+2=n+4);omega
 a2:=by show ¬(n+3=n+4);omega
 a3:=by show ¬(n=n+4);omega
 a4:=by show ¬(n+1=n+4);omega
 a5:=by show ¬(n+2=n+3);omega
 a6:=by show ¬(n+2=n);omega
 a7:=by show ¬(n+2=n+1);omega
 a8:=by show ¬(n+3=n);omega
 a9:=by show ¬(n+3=n+1);omega
 b1:=by show ¬(n=n+1);omega
 b2:=⟨by show ¬(t1=n+4);omega,by show ¬(t1=n+3);omega,by show ¬(t1=n);omega,by show ¬(t1=n+1);omega⟩
 b3:=⟨by show ¬(t2=n+4);omega,by show ¬(t2=n+3);omega,by show ¬(t2=n);omega,by show ¬(t2=n+1);omega⟩
def QBN(ta:TA):TI:=λσ H R=>ta σ H λvs H1=>∃t1 t2 xs ys,vs=[.ref t1,.ref t2]/\H1 t1=some (.tup xs)/\H1 t2=some (.tup ys)/\R (Itz t1 t2) H1
theorem QoA:bootBuiltins "zip" = some (.type "zip"):=by decide +kernel
theorem QwT{a b:Q3}{elts:List Q3}{x1}{tpos:Pos}{ta:TA}{p pos:Pos}(hg:Gl X "zip")(hm:X.mg "zip" = none)(ha:PA X [a,b] ta)(hs:starEach [a,b] X.env=[(false,eval a X.env),(false,eval b X.env)]:=by rfl)(hs2:starEach [b] X.env=[(false,eval b X.env)]:=by rfl) :
  PI X (.Tuple elts x1 tpos) (.Call (.Name "zip" p) [a,b] [] pos) (QBN ta):=by
 intro pins s σ H R I h;refine Call_ (QcN I hg hm QoA (JM (thn (ha pos pins s σ H _ I h) λus s1 ⟨vs,H1,I1,r1,q1⟩=>?_) (by rw[hs,hs2]) (by rw[hs2];rfl)));obtain⟨t1,t2,xs,ys,e,h1,h2,q⟩:=q1;subst e;obtain⟨u,v,rfl,ru,rv⟩:=vals2 r1;cases(show u=QK t1 from ru);cases(show v=QK t2 from rv);obtain⟨its1,w1,p1,_⟩:=I1.tuple (SqT.of h1);obtain⟨its2,w2,p2,_⟩:=I1.tuple (SqT.of h2);have n1:t1<s1.heap.objs.size:=I1.hok.lt h1;have n2:t2<s1.heap.objs.size:=I1.hok.lt h2;refine Rz.QrU (show s1.heap.IsTuple t1 its1.toArray from p1) (show s1.heap.IsTuple t2 its2.toArray from p2) λh' st kp=>?_
 refine QdB (s:={ s1 with heap:=h' }) st.zp ?_
 have D:=apart_new s1.heap.objs.size t1 t2 n1 n2;refine⟨s1.heap.objs.size+4,_,_,_,H1,rfl,I1.kept (t':=s1.toks) kp,Qpe D,st,λb hb=>?_,q⟩;have hb':s1.heap.objs.size<=b:=by
  simp only[Qp,QV,or_false] at hb;rcases hb with rfl | rfl | rfl | rfl | rfl<;>omega
 exact I1.fpOk hb' (I1.hok.fresh hb')
end
end L2
namespace Rk
open L2
def QAL:Option HO->Option (List V)
 |some (.tup xs)=>some xs
 |_=>none
def QgE(H:Hp):V->Option (List V)
 |.ref a=>QAL (H a)
 |_=>none
theorem QjX(H:Hp)(a:Addr):QgE H (.ref a)=QAL (H a):=rfl
def isT(H:Hp)(x:V):Bool:=(QgE H x).isSome
def Kn(p:Addr)(H:Hp):V->Prop
 |.non=>True
 |.bl _=>True
 |.int _=>True
 |.str _=>True
 |.ref a=>a≠p/\((∃xs,H a=some (.tup xs))∨(∃xs,H a=some (.lst xs))∨∃kvs,H a=some (.dK kvs))
 |_=>False
def KnD(p:Addr):Nat->Hp->V->Prop
 |0,H,x=>Kn p H x
 |n+1,H,x=>Kn p H x/\∀xs,QgE H x=some xs->∀y∈xs,KnD p n H y
def KX(p:Addr)(H H':Hp):Prop:=∀b o,b≠p->H b=some o->H' b=some o
theorem KX.of{p:Addr}{H H':Hp}(h:Same H H'):KX p H H':=λb o _ e=>h b o e
theorem KX.new{p q:Addr}{H:Hp}{o:HO}(h:H q=none):KX p H (L2.upd H q o):=KX.of (JX h)
theorem KnD.low{p:Addr}{H:Hp}:∀{n:Nat}{x:V},KnD p (n+1) H x->KnD p n H x
 |0,x,h=>h.1
 |n+1,x,h=>⟨h.1,λxs e y hy=>KnD.low (h.2 xs e y hy)⟩
theorem KnD.tup{p:Addr}{H:Hp}{n:Nat}{a:Addr}{xs:List V}(hp:a≠p)(e:H a=some (.tup xs))(h:∀y∈xs,KnD p n H y):KnD p (n+1) H (.ref a):=
 ⟨⟨hp,.inl ⟨xs,e⟩⟩,λys z y hy=>h y (by
  have z':some xs=some ys:=by rw[<- z,QjX,e];rfl
  cases z';exact hy)⟩
theorem QhO{H:Hp}{a:Addr}{xs:List V}(e:H a=some (.tup xs)):QgE H (.ref a)=some xs:=by rw[QjX,e];rfl
def QsP(H:Hp)(x:V):List Int:=((QgE H x).getD []).map λy=>match y with
 |.int i=>i
 |_=>0
def IntsT(H:Hp)(x:V)(ns:List Int):Prop:=∃a,x=.ref a/\H a=some (.tup (ns.map V.int))
theorem IntsT.eq{H:Hp}{x:V}{ns:List Int}(h:IntsT H x ns):QsP H x=ns:=by
 obtain⟨a,rfl,e⟩:=h;unfold QsP;rw[QhO e];show(ns.map V.int).map _=ns;rw[Jc];exact QoS _
theorem Qhm:bootBuiltins "isinstance" = some (.builtin "isinstance"):=by decide +kernel
theorem Qys:bootBuiltins "int" = some (.type "int"):=by decide +kernel
theorem QvD:bootBuiltins "bool" = some (.type "bool"):=by decide +kernel
theorem Qdz:bootBuiltins "tuple" = some (.type "tuple"):=by decide +kernel
theorem QvC:bootBuiltins "list" = some (.type "list"):=by decide +kernel
theorem Qoy:bootBuiltins "all" = some (.builtin "all"):=by decide +kernel
theorem QcO:bootBuiltins "len" = some (.builtin "len"):=by decide +kernel
theorem Qyr:bootBuiltins "max" = some (.builtin "max"):=by decide +kernel
theorem Qs5:bootBuiltins "min" = some (.builtin "min"):=by decide +kernel
end Rk
namespace L2
theorem Qg2{J:It}{body:V->Hp->(Hp->Prop)->Prop}{Qn:Hp->Prop}{H:Hp}(n:Nat)(Pv:Nat->Hp->Prop)(h0:Pv 0 H)
  (hs:∀i H2,i<n->Pv i H2->J.go i H2/\∀x H3,J.yld i H2 x H3->∀k:Hp->Prop,(∀H6,Pv (i+1) H6->k H6)->body x H3 k)(hd:∀H2,Pv n H2->J.stop n H2/\Qn H2):Qmq J body Qn H:=by
 refine⟨λi m H=>m=n - i/\i<=n/\Pv i H,⟨n,by simp,Qr _,h0⟩,?_⟩;rintro i m H2 ⟨rfl,hi,p⟩;by_cases hlt:i<n
 ·obtain⟨go,st⟩:=hs i H2 hlt p;exact .inr ⟨go,λx H3 y=>st x H3 y _ λH6 p6=>⟨n - (i+1),by omega,rfl,hlt,p6⟩⟩
 ·have e:i=n:=by omega
  subst e;exact .inl (hd H2 p)
end L2
namespace Rk
open L2
theorem range_getD{α:Type}(L:List α)(d:α):(Qw L.length).map (λi=>L.getD i d)=L:=by
 refine Zj λi=>?_
 rw[Qx];by_cases hi:i<L.length
 ·rw[Jy hi];show some (L.getD i d)=L[i]?;rw[QF,Qf hi];rfl
 ·have h1:(Qw L.length)[i]? = none:=QM (by rw[Q1];omega);have h2:L[i]? = none:=QM (by omega);rw[h1,h2];rfl
def Qdk(K:PySem.W.Frag):Sp:=λvs H Q _=>∃a ns k,vs=[.ref a,.int k]/\SqL K H a ((ns:List Int).map V.int)/\ns.length<2^20/\0<=k/\∀c,Q (.int c) H
def Qwn:Sp:=λvs H Q _=>∃c,vs=[.int c]/\∀p n,H p=none->Q (.ref p) (upd H p (.lst [.int n]))
def Cs(p:Addr)(H:Hp):List V->List (Int×Int)->Prop:=QbK λx ij=>∃d,d≠p/\x=.ref d/\H d=some (.tup [.int ij.1,.int ij.2])
theorem Cs.mem{p:Addr}{H:Hp}:∀{ps:List V}{L:List (Int×Int)},Cs p H ps L->∀x∈ps,∃ij∈L,∃d,d≠p/\x=.ref d/\H d=some (.tup [.int ij.1,.int ij.2])
 |_,_,.nil,x,h=>nomatch h
 |_,_,.cons r t,x,h=>by
  rcases Qp.mp h with e | e
  ·subst e;exact⟨_,Jm,r⟩
  ·obtain⟨ij,m,q⟩:=Cs.mem t x e;exact⟨ij,QH _ m,q⟩
def QyB(a b:Int×Int):Prop:=a.1<b.1∨(a.1=b.1/\a.2<b.2)
structure Good (h w:Int) (L:List (Int×Int)):Prop where
 asc:L.Pairwise QyB
 ins:∀x∈L,0<=x.1/\x.1<h/\0<=x.2/\x.2<w
 len:L.length<=36
theorem QkL(x:Int){m:Int}(h:0<m):0<=x % m/\x % m<m:=⟨Qv1 _ (by omega),Qse _ h⟩
def notStar:Q3->Bool
 |.Starred _ _=>false
 |_=>true
theorem Z4{e:Q3}{es:List Q3}{env:Env}(h:notStar e=true):starEach (e::es) env=(false,eval e env)::starEach es env:=by
 cases e<;>first | rfl | cases h
section
variable{X:Cx}
theorem Qej{e:Q3}{es:List Q3}{te:TE}{t:TA}(ha:PE X e te)(hr:PA X es t)(hs:notStar e=true:=by rfl):PA X (e::es) (Qi3 te t):=Qfb ha hr (Z4 hs)
inductive PEs (X:Cx):List Q3->List TE->Prop
 |nil:PEs X [] []
 |cons {e es te ts}:PE X e te->notStar e=true->PEs X es ts->PEs X (e::es) (te::ts)
def QAN:List TE->TA
 |[]=>QyU
 |t::ts=>Qi3 t (QAN ts)
theorem PEs.pa{es:List Q3}{ts:List TE}(h:PEs X es ts):PA X es (QAN ts):=by
 induction h with
 |nil=>exact YJ
 |cons a s _ ih=>exact Qej a ih s
end
def Sm(H:Hp)(x:V):Prop:=∀ps,QgE H x=some ps->ps.length<sizeLine
def Part(p:Addr)(H:Hp)(x:V):Prop:=KnD p 2 H x/\Sm H x
def QyA(p:Addr)(H:Hp)(x:V):Prop:=KnD p 3 H x/\Sm H x/\∀xs,QgE H x=some xs->∀y∈xs,Sm H y
theorem Qv8{H:Hp}{a:Addr}{xs ys:List V}(e:H a=some (.tup xs))(z:QgE H (.ref a)=some ys):ys=xs:=by
 rw[QhO e] at z;cases z;rfl
theorem Part.tup{p:Addr}{H:Hp}{a:Addr}{xs:List V}(hp:a≠p)(e:H a=some (.tup xs))(hl:xs.length<sizeLine)(h:∀y∈xs,KnD p 1 H y):Part p H (.ref a):=
 ⟨KnD.tup hp e h,λps z=>by rw[Qv8 e z];exact hl⟩
theorem QAp{P:V->Prop}{a:V}{l:List V}(h:P a)(k:∀y∈l,P y):∀y∈a::l,P y:=λy hy=>by
 rcases Qp.mp hy with e | e
 ·subst e;exact h
 ·exact k y e
theorem QcW{n:Nat}(h:n<=1000):n<sizeLine:=QbX h (by decide)
def Fine(p:Addr):Nat->Hp->V->Prop
 |0,H,x=>Kn p H x/\Sm H x
 |n+1,H,x=>Kn p H x/\Sm H x/\∀xs,QgE H x=some xs->∀y∈xs,Fine p n H y
theorem Fine.sm{p:Addr}{H:Hp}{x:V}:∀{n:Nat},Fine p n H x->Sm H x
 |0,h=>h.2
 |_+1,h=>h.2.1
theorem Fine.knd{p:Addr}{H:Hp}:∀{n:Nat}{x:V},Fine p n H x->KnD p n H x
 |0,_,h=>h.1
 |_+1,_,h=>⟨h.1,λxs e y hy=>(h.2.2 xs e y hy).knd⟩
theorem Fine.thing{p:Addr}{H:Hp}{x:V}(h:∀n,Fine p n H x):QyA p H x:=⟨(h 3).knd,(h 0).2,λxs e y hy=>((h 1).2.2 xs e y hy).2⟩
section
variable{X:Cx}
end
def Qzy(t:TA):TE:=λσ H Q=>t σ H λxs H1=>xs.length<=1000/\∀a H2,Same H1 H2->H1 a=none->H2 a=some (.tup xs)->Q (.ref a) H2
def QzD(t:TA):TE:=λσ H Q=>t σ H λxs H1=>xs.length<=1000/\∀a H2,Same H1 H2->H1 a=none->H2 a=some (.lst xs)->Q (.ref a) H2
section
variable{X:Cx}
theorem Qt7{es:List Q3}{t:TA}{x1}{pos:Pos}(h:PA X es t):PE X (.Tuple es x1 pos) (Qzy t):=by
 intro pins s σ H Q I hq;refine wpAny_Tuple_spliced (thn (h pos pins s σ H _ I hq) λus s1 ⟨xs,H1,I1,r,z,q⟩=>⟨by rw[<- r.length];exact Ys (QcW z),?_⟩);have hf:H1 s1.heap.objs.size=none:=I1.hok.fresh (Qi _);refine⟨.ref s1.heap.objs.size,upd H1 s1.heap.objs.size (.tup xs),I1.laid (t':=s1.toks) (λb u e=>Qe _ e) (Qi _) ?_,rfl,q _ _ (JX hf) hf J7⟩;exact⟨Ys (QcW z),us,r,⟨_,Qu _ rfl,rfl,_,rfl⟩⟩
theorem Qt8{es:List Q3}{t:TA}{pos:Pos}(h:PA X es t):PE X (.List es pos) (QzD t):=by
 intro pins s σ H Q I hq;refine QyC (thn (h pos pins s σ H _ I hq) λus s1 ⟨xs,H1,I1,r,z,q⟩=>⟨by rw[<- r.length];exact Ys (QcW z),?_⟩);have hf:H1 s1.heap.objs.size=none:=I1.hok.fresh (Qi _);refine⟨.ref s1.heap.objs.size,upd H1 s1.heap.objs.size (.lst xs),I1.laid (t':=s1.toks) (λb u e=>Qe _ e) (Qi _) ?_,rfl,q _ _ (JX hf) hf J7⟩;exact⟨Ys (QcW z),us,0,r,Qu _ rfl⟩
end
def FineA(p:Addr)(H:Hp)(x:V):Prop:=∀n,Fine p n H x
theorem FineA.thing{p:Addr}{H:Hp}{x:V}(h:FineA p H x):QyA p H x:=Fine.thing h
end Rk
namespace Rx
open PySem.Calls L2 PySem.W Builtin Builtin.ObjectAttr Builtin.Getset_descriptor
def ExAt(a C:Addr)(h:Heap):Prop:=∃o vs,h.get? a=some o/\o.cls=.ref C/\o.data=.fields vs
theorem ExAt.ty{M:Qzm}{h:Heap}{a C:Addr}(x:ExAt a C h):Looks M h (typeOf (.ref a)) (.ref C):=by
 obtain⟨o,vs,e,c,_⟩:=x;exact c ▸ (Looks.ld e).andThen .now
section
variable{prog:Qz}{w:Ji}{A:Jb}{E:Value->Shared->Prop}{s:Shared}{K:PySem.W.Frag}{a C:Addr}
end
end Rx
namespace Rx
open PySem.Calls L2
section
variable{X:Cx}{E:XK}{C:Addr}{x:Str}{e0:Q3}{te:TE}{np cpos pos:Pos}
end
section
variable{X:Cx}{pins:List (Addr×Obj)}{σ:L2.St}{H:Hp}{s:Shared}
end
def XP(X:Cx)(pins:List (Addr×Obj))(Ex:L2.St->Addr->Hp->Prop)(e:Value)(s1:Shared):Prop:=
 ∃(σ:L2.St)(C:Addr)(H':Hp)(a t:Addr)(B:Heap),e=.ref a/\Heap.FlyingW B X.stack a (.ref C) (.ref t) s1.heap/\H' a=none/\X.s₀.heap.get? a=none/\(∀p∈X.pn++pins,p.1≠a) /\
  (∀(h2:Heap)(tk:Nat),B.StaysIn h2->s1.heap.UpToSlots h2->Inv X pins σ H' { s1 with heap:=h2,toks:=tk })/\Ex σ C H'
section
variable{X:Cx}{k:Nat}{f:Addr}{fd:Jd}{ps:List Str}{sp:Sp}{x:Str}{p pos:Pos}{e:Q3}{es:List Q3}{t:TA}
end
section
variable{X:Cx}{R:Addr}{i:Nat}{n r:Str}{call hx:Q3}{tc:TX}{th:TE}{rp np hp hpos pos:Pos}
end
section
variable{P:Qz}{w:Ji}{K:PySem.W.Frag}{mg:Str->Option Value}{base:Heap}
end
section
variable{X:Cx}{k:Nat}{f:Addr}{fd:Jd}{ps:List Str}{sp:Sp}{x:Str}{p pos:Pos}{e:Q3}{es:List Q3}{t:TA}
end
section
variable{X:Cx}
theorem bools_eq{bs:List Bool}{us:List Value}(r:Vals (bs.map V.bl) us):us=bs.map QaQ:=by
 induction bs generalizing us with
 |nil=>cases r;rfl
 |cons b bs ih=>
  cases r with
  |cons r t=>
   cases(show _=QaQ b from r);rw[ih t];rfl
end
end Rx
namespace Rd
open L2
mutual
inductive Dat (H:Hp):V->Qa->Prop
 |non:Dat H .non .none
 |bl (b:Bool):Dat H (.bl b) (.bool b)
 |int (i:Int):Dat H (.int i) (.int i)
 |str (x:Str):Qht (.str x)=true->Dat H (.str x) (.str x)
 |tup {a:Addr} {xs:List V} {ds:List Qa}:H a=some (.tup xs)->Dats H xs ds->Dat H (.ref a) (.tuple ds)
 |lst {a:Addr} {xs:List V} {ds:List Qa}:H a=some (.lst xs)->Dats H xs ds->Dat H (.ref a) (.list ds)
inductive Dats (H:Hp):List V->List Qa->Prop
 |nil:Dats H [] []
 |cons {x:V} {xs:List V} {d:Qa} {ds:List Qa}:Dat H x d->Dats H xs ds->Dats H (x::xs) (d::ds)
end
mutual
theorem Yr{P:Qz}{w:Ji}{H:Hp}{h:Heap}(ok:HOk P w H h):∀(d:Qa)(x:V)(v:Value),Dat H x d->RelV x v->(∃as,QbD h v d as)/\d.canLay0=true
 |.none,_,v,.non,r=>by cases r;exact⟨⟨_,.none⟩,rfl⟩
 |.bool b,_,v,.bl _,r=>by cases r;exact⟨⟨_,.bool b⟩,rfl⟩
 |.int i,_,v,.int _,r=>by obtain⟨t,rfl⟩:=r;exact⟨⟨_,.int i t⟩,rfl⟩
 |.str z,_,v,.str _ c,r=>by obtain⟨t,rfl⟩:=r;exact⟨⟨_,.str z t⟩,c⟩
 |.tuple ds,_,v,.tup (a:=a) (xs:=xs) e q,r=>by
  cases r;obtain⟨_,its,rv,o,ho,hc,n,hd⟩:=ok a _ e;obtain⟨⟨as,ra⟩,cl⟩:=Qal ok ds xs its q rv;exact⟨⟨as,.tuple ho hc hd ra⟩,cl⟩
 |.list ds,_,v,.lst (a:=a) (xs:=xs) e q,r=>by
  cases r;obtain⟨_,its,n,rv,ho⟩:=ok a _ e;obtain⟨⟨as,ra⟩,cl⟩:=Qal ok ds xs its q rv;exact⟨⟨a::as,.list ho rfl rfl ra⟩,cl⟩
 |.dict _,_,_,q,_=>nomatch q
theorem Qal{P:Qz}{w:Ji}{H:Hp}{h:Heap}(ok:HOk P w H h):∀(ds:List Qa)(xs:List V)(vs:List Value),Dats H xs ds->Vals xs vs->(∃as,Y9 h vs ds as)/\Jg ds=true
 |[],_,vs,.nil,r=>by cases r;exact⟨⟨_,.nil⟩,rfl⟩
 |d::ds,_,vs,.cons (x:=x) (xs:=xs) q qs,r=>by
  cases r with
  |cons r rs=>
   obtain⟨⟨a1,r1⟩,c1⟩:=Yr ok d x _ q r;obtain⟨⟨a2,r2⟩,c2⟩:=Qal ok ds xs _ qs rs;exact⟨⟨_,.cons r1 r2⟩,by simp[Jg,c1,c2]⟩
end
mutual
theorem QkQ{H H':Hp}(s:Same H H'):∀(d:Qa)(x:V),Dat H x d->Dat H' x d
 |.none,_,.non=>.non
 |.bool _,_,.bl _=>.bl _
 |.int _,_,.int _=>.int _
 |.str _,_,.str _ c=>.str _ c
 |.tuple ds,_,.tup (xs:=xs) e q=>.tup (s _ _ e) (Qdx s ds xs q)
 |.list ds,_,.lst (xs:=xs) e q=>.lst (s _ _ e) (Qdx s ds xs q)
 |.dict _,_,q=>nomatch q
theorem Qdx{H H':Hp}(s:Same H H'):∀(ds:List Qa)(xs:List V),Dats H xs ds->Dats H' xs ds
 |[],_,.nil=>.nil
 |d::ds,_,.cons (x:=x) (xs:=xs) q qs=>.cons (QkQ s d x q) (Qdx s ds xs qs)
end
theorem Dat.same{H H':Hp}{x:V}{d:Qa}(q:Dat H x d)(s:Same H H'):Dat H' x d:=QkQ s d x q
theorem Dats.same{H H':Hp}{xs:List V}{ds:List Qa}(q:Dats H xs ds)(s:Same H H'):Dats H' xs ds:=Qdx s ds xs q
theorem Dats.length{H:Hp}:∀{xs:List V}{ds:List Qa},Dats H xs ds->xs.length=ds.length
 |_,_,.nil=>rfl
 |_,_,.cons _ q=>by rw[Qt,Qt,q.length]
section
variable{X:Cx}
def QBE(X:Cx):R2:=λx y H Q=>∃dx dy,Dat H x dx/\Dat H y dy/\X.A.units+min dx.depth dy.depth<cLine/\Q (.bl (Ju dx dy)) H
theorem Qxs:OpR X (compareOp .Eq) (QBE X):=by
 intro pins s σ H x y v u Q I rx ry h;obtain⟨dx,dy,qx,qy,hu,q⟩:=h;obtain⟨⟨as,ra⟩,ca⟩:=Yr I.hok dx x v qx rx;obtain⟨⟨bs,rb⟩,cb⟩:=Yr I.hok dy y u qy ry;exact SeqAt.compareEq_reads ra rb ca cb hu ⟨.bl _,H,I,rfl,q⟩
open Classical in
noncomputable def eqH (h:Heap) (d:Qa) (y:Value):Bool:=decide (∃e as,QbD h y e as/\e.canLay0=true/\Ju e d=true)
open Classical in
theorem QAr{h:Heap}{d:Qa}{y:Value}(q:∃e as,QbD h y e as/\e.canLay0=true/\Ju e d=true):eqH h d y=true:=by
 unfold eqH;exact decide_eq_true q
open Classical in
theorem QAt{h:Heap}{d:Qa}{y:Value}(q:¬ ∃e as,QbD h y e as/\e.canLay0=true/\Ju e d=true):eqH h d y=false:=by
 unfold eqH;exact decide_eq_false q
theorem QsV{h:Heap}{d e:Qa}{y:Value}{as:List Addr}(r:QbD h y e as)(c:e.canLay0=true):eqH h d y=Ju e d:=by
 cases q:Ju e d with
 |true=>exact QAr ⟨e,as,r,c,q⟩
 |false=>
  refine QAt λ⟨e',as',r',c',q'⟩=>?_
  rw[<- Qbd e e' y as as' c r r',q] at q';cases q'
theorem Qfz{h:Heap}{d:Qa}:∀{vs:List Value}{ds:List Qa}{as:List Addr},Y9 h vs ds as->Jg ds=true->vs.any (eqH h d)=ds.any λe=>Ju e d
 |_,_,_,.nil,_=>rfl
 |_,_,_,.cons r rs,c=>by
  simp only[Jg,JS] at c;rw[QyN,QyN,QsV r c.1,Qfz rs c.2]
theorem Qff{A:Jb}{s:Shared}{d:Qa}{v:Value}{bs:List Addr}(rv:QbD s.heap v d bs)(cv:d.canLay0=true):∀{vs:List Value}{ds:List Qa}{as:List Addr},Y9 s.heap vs ds as->Jg ds=true->A.units+d.depth<cLine ->
  ∀u∈vs,SeqAt.EqAt A s u v (eqH s.heap d u)
 |_,_,_,.nil,_,_=>λu hu=>nomatch hu
 |_,_,_,.cons (d:=e) r rs,c,hu=>λu hm=>by
  simp only[Jg,JS] at c;rcases Qp.mp hm with z | z
  ·subst z;rw[QsV r c.1];exact QfD e d A s _ v _ bs r rv c.1 cv (QbX (Nat.add_le_add_left (Qgx _ _) _) hu)
  ·exact Qff rv cv rs c.2 hu u z
def QAX(X:Cx)(neg:Bool):R2:=λx y H Q=>∃c ps ds d,y=.ref c/\H c=some (.tup ps)/\Dats H ps ds/\Dat H x d/\X.A.in1.units+d.depth<cLine/\Q (.bl (if neg then !(ds.any λe=>Ju e d) else ds.any λe=>Ju e d)) H
theorem Qxp:OpR X (compareOp .In) (QAX X false):=by
 intro pins s σ H x y v u Q I rx ry h;obtain⟨c,ps,ds,d,rfl,hc,qs,qx,hu,q⟩:=h;cases ry;obtain⟨⟨as,ra⟩,ca⟩:=Yr I.hok d x v qx rx;obtain⟨_,its,rv,tp⟩:=I.hok c _ hc;obtain⟨⟨bs,rb⟩,cb⟩:=Qal I.hok ds ps its qs rv;refine SeqAt.in_tupleAt (eqH s.heap d) tp (λw hw=>Qff ra ca rb cb hu w (QcF.mp hw)) ⟨.bl _,H,I,rfl,?_⟩;rw[show its.toArray.any (eqH s.heap d)=its.any (eqH s.heap d) by simp,Qfz rb cb];exact q
theorem Qng:OpR X (compareOp .NotIn) (QAX X true):=by
 intro pins s σ H x y v u Q I rx ry h;obtain⟨c,ps,ds,d,rfl,hc,qs,qx,hu,q⟩:=h;cases ry;obtain⟨⟨as,ra⟩,ca⟩:=Yr I.hok d x v qx rx;obtain⟨_,its,rv,tp⟩:=I.hok c _ hc;obtain⟨⟨bs,rb⟩,cb⟩:=Qal I.hok ds ps its qs rv;refine SeqAt.notIn_tupleAt (eqH s.heap d) tp (λw hw=>Qff ra ca rb cb hu w (QcF.mp hw)) ⟨.bl _,H,I,rfl,?_⟩;rw[show its.toArray.any (eqH s.heap d)=its.any (eqH s.heap d) by simp,Qfz rb cb];exact q
end
section
variable{X:Cx}
end
end Rd
namespace L2
def Ite(l:Addr):It:=
 ⟨λi H=>∃xs x,H l=some (.lst xs)/\xs[i]? = some x,
  λi H v H'=>∃p x,H p=none/\(∀xs,H l=some (.lst xs)->xs[i]? = some x)/\v=.ref p/\H'=upd H p (.tup [.int (i:Nat),x]),
  λi H=>∃xs,H l=some (.lst xs)/\xs.length<=i⟩
theorem Qml{P:Qz}{w:Ji}{K:PySem.W.Frag}{elts:List Q3}{x1}{tpos:Pos}{e it l:Addr}(hne:e≠it) :
  Turn P w K (.Tuple elts x1 tpos) (Ite l) [e,it] e (λi h=>(∃old,IsEnum h e it (i:Nat) old)/\h.IsListIter it l i) where
 mem:=by simp
 obj:=λi h st b hb=>by
  obtain⟨⟨old,a1⟩,⟨o2,a2,_,d2⟩⟩:=st;simp only[Qp,QV,or_false] at hb;rcases hb with rfl | rfl
  ·exact⟨_,a1,λv q=>nomatch q⟩
  ·exact⟨_,a2,λv q=>by rw[d2] at q;cases q⟩
 keep:=λi h h' st k=>by
  obtain⟨⟨old,a1⟩,⟨o2,a2,c2⟩⟩:=st;exact⟨⟨old,k e (by simp) _ a1⟩,o2,k it (by simp) _ a2,c2⟩
 item:=by
  intro X hP hw hK hc i pins s σ H E I hf st hg;subst hP hw hK;obtain⟨xs,x,h1,hx⟩:=hg;obtain⟨⟨old,a1⟩,a2⟩:=st;obtain⟨its,r1,p1,_⟩:=I.list (SqL.of h1);obtain⟨u,hu,ru⟩:=r1.get hx;refine wpAny_pyNext_enum_item a1 a2 p1.isList (x:=u) (by simpa using hu) hne λh' o' l' tp sz kp=>?_
  have fr:H s.heap.objs.size=none:=I.hok.fresh (Qi _);have n1:e≠s.heap.objs.size:=QB (Qo a1);have n2:it≠s.heap.objs.size:=by
   obtain⟨o2,a2,_⟩:=a2;exact QB (Qo a2)
  refine⟨_,rfl,QlU o' λh2 e2 s2=>?_⟩;have I1:Inv X pins σ (upd H s.heap.objs.size (.tup [.int (i:Nat),x])) { s with heap:=h2,toks:=s.toks+1 }:=by
   refine I.turnedNew (ch:=[e,it]) hf (λb v hb q=>?_) (Qi _) ⟨by show 2<=sizeLine;decide,[.int (i:Nat) s.toks,u],.cons ⟨_,rfl⟩ (.cons ru .nil),?_⟩
   ·simp only[Qp,QV,or_false,not_or] at hb;exact s2.extBut _ _ hb.1 (kp b v hb.1 hb.2 q)
   ·exact⟨_,s2.extBut _ _ n1.symm tp,rfl,0,rfl⟩
  refine⟨.ref s.heap.objs.size,_,I1,rfl,⟨_,x,fr,λxs' q=>?_,rfl,rfl⟩,⟨⟨u,e2⟩,?_⟩,λb hb=>?_⟩
  ·rw[h1] at q;cases q;exact hx
  ·exact l'.extBut s2.extBut hne.symm
  ·simp only[Qp,QV,or_false] at hb;rcases hb with rfl | rfl
   ·rw[Zk n1];exact(hf _ (by simp)).1
   ·rw[Zk n2];exact(hf _ (by simp)).1
 done:=by
  intro X hP hw hK hc i pins s σ H E I hf st hg;subst hP hw hK;obtain⟨xs,h1,he⟩:=hg;obtain⟨⟨old,a1⟩,a2⟩:=st;obtain⟨its,r1,p1,_⟩:=I.list (SqL.of h1);have l1:=r1.length;refine wpAny_pyNext_enum_end (I.ok.hd hc) a1 a2 p1.isList (by simp;omega) λh' kp=>⟨rfl,I.turnedAll (t':=s.toks) (ch:=[e,it]) hf λb v hb q=>?_⟩
  simp only[Qp,QV,or_false,not_or] at hb;exact kp b v hb.2 q
 self:=λ_ _ _ _ _ st h=>by
  obtain⟨⟨old,a1⟩,_⟩:=st;exact QcP a1 h
def QAm(ta:TA):TI:=λσ H R=>ta σ H λvs H1=>∃l xs,vs=[.ref l]/\H1 l=some (.lst xs)/\R (Ite l) H1
theorem Qiu:bootBuiltins "enumerate" = some (.type "enumerate"):=by decide +kernel
section
variable{X:Cx}
theorem Qt4{a:Q3}{elts:List Q3}{x1}{tpos:Pos}{ta:TA}{p pos:Pos}(hg:Gl X "enumerate")(hm:X.mg "enumerate" = none)(ha:PA X [a] ta)(hs:starEach [a] X.env=[(false,eval a X.env)]:=by rfl) :
  PI X (.Tuple elts x1 tpos) (.Call (.Name "enumerate" p) [a] [] pos) (QAm ta):=by
 intro pins s σ H R I h;refine Call_ (QcN I hg hm Qiu (JM (thn (ha pos pins s σ H _ I h) λus s1 ⟨vs,H1,I1,r1,q1⟩=>?_) hs rfl));obtain⟨l,xs,e,h1,q⟩:=q1;subst e;obtain⟨u,rfl,ru⟩:=vals1 r1;cases(show u=QK l from ru);obtain⟨its,w1,p1,_⟩:=I1.list (SqL.of h1);refine call_enumerate_list p1.isList λh' e1 i1 sz kp=>?_
 refine QcP (s:={ s1 with heap:=h' }) e1 ?_
 refine⟨s1.heap.objs.size+1,_,_,_,H1,rfl,I1.kept (t':=s1.toks) kp,Qml (by show ¬(s1.heap.objs.size+1=s1.heap.objs.size);omega),⟨⟨_,e1⟩,i1⟩,λb hb=>?_,q⟩;have hb':s1.heap.objs.size<=b:=by
  simp only[Qp,QV,or_false] at hb;rcases hb with rfl | rfl<;>omega
 exact I1.fpOk hb' (I1.hok.fresh hb')
end
section
variable{prog:Qz}{w:Ji}{A:Jb}{R:QyF->Shared->Prop}{s:Shared}
theorem QhS{elt tg iter:Q3}{ifs:List Q3}{g0:QgA}{scope:QaR}{pos:Pos}{it acc:Value}{env:Env}
  (h0:codeAny (model prog w) A (.compLoop (.ListComp elt [g0,⟨tg,iter,ifs,0⟩] scope pos) 1 it acc env) R s)
  (h:wpAny (model prog w) A (pyIter it) (λit' s'=>codeAny (model prog w) A (.compLoop (.ListComp elt [g0,⟨tg,iter,ifs,0⟩] scope pos) 1 it' acc env) R s') (notedBy (model prog w) A env λx s'=>R (.error x) s') s) :
  codeAny (model prog w) A (.compStart (.ListComp elt [g0,⟨tg,iter,ifs,0⟩] scope pos) 1 it acc env) R s:=by
 refine Qep ?_
 show wpAny _ _ ((compStart (.ListComp elt [g0,⟨tg,iter,ifs,0⟩] scope pos) 1 it acc env).onRaise (λx=>do noteFrame x env;standAt theWindowsPlace)) _ _ s;refine wpAny_notedAt ?_
 unfold compStart;show wpAny _ _ (ask >>= _) _ _ s;refine wpAny_bind (YX (wpAny_ite ?_));split
 ·first
   |exact wpAny_bind (Qb (Qb ⟨rfl,h0⟩))
   |exact Qb ⟨rfl,h0⟩
 ·first
   |exact wpAny_bind (wpAny_rule (wpAny_bind (wpAny_standAt (wpAny_bind (wpAny_mono h (λit' s' h'=>Qb ⟨rfl,h'⟩) λ_ _ x=>x)))))
   |exact wpAny_bind (wpAny_rule (wpAny_bind (wpAny_standAt (wpAny_bind (wpAny_mono h (λit' s' h'=>Qb (Qb ⟨rfl,h'⟩)) λ_ _ x=>x)))))
end
theorem Qmj{Y:Cx}{elt tg iter:Q3}{ifs:List Q3}{g0:QgA}{scope:QaR}{cpos:Pos}{it D:Addr}(Q:PySem.Fin->Shared->Prop)(E:Value->Shared->Prop)(s:Shared)
  (h:wpAny (model Y.prog Y.w) Y.A (pyNext (.ref it)) (λr s1=>match r with
   |none=>Q (.done .next) s1
   |some v=>wpAny (model Y.prog Y.w) Y.A (letOwnedTupleGo tg (.ref it) v) (λ_ s2=>Qr2 Y tg ifs (QoL Y elt D) v (λs3=>Q (.again (.compLoop (.ListComp elt [g0,⟨tg,iter,ifs,0⟩] scope cpos) 1 (.ref it) (.ref D) Y.env)) s3) s2) E s1) E s) :
  wpAny (model Y.prog Y.w) Y.A (compTurn (.ListComp elt [g0,⟨tg,iter,ifs,0⟩] scope cpos) 1 (.ref it) (.ref D) Y.env) Q E s:=by
 have e:compTurn (.ListComp elt [g0,⟨tg,iter,ifs,0⟩] scope cpos) 1 (.ref it) (.ref D) Y.env=(do
   standAt iter.pos
   match <- pyNext (.ref it) with
   |none=>pure (.done .next)
   |some v=>
    letOwnedTupleGo tg (.ref it) v
    assign tg Y.env v
    let mut ok:=true
    for c in ifs do
     if ok then ok <- isTrue c Y.env (eval c Y.env)
    if ok then
     (do let _ <- call (.builtin "list.append") [.ref D,<- eval elt Y.env])
    again (.compLoop (.ListComp elt [g0,⟨tg,iter,ifs,0⟩] scope cpos) 1 (.ref it) (.ref D) Y.env)):=by rfl
 rw[e];refine wpAny_bind (wpAny_standAt (wpAny_bind (thn h λr s1 h1=>?_)));cases r with
 |none=>exact Qb h1
 |some v=>
  refine wpAny_bind (thn h1 λ_ s2 h2=>?_);refine wpAny_bind (wpAny_mono h2 (λ_ s4 h4=>wpAny_bind (wpAny_mono h4 (λok s5 h5=>?_) λ_ _ f=>f.elim)) λ_ _ f=>f.elim);cases ok with
  |false=>exact Qb h5
  |true=>exact wpAny_bind (wpAny_bind (wpAny_mono h5 (λx s6 h6=>wpAny_bind (wpAny_mono h6 (λ_ s7 h7=>Qb (Qb h7)) λ_ _ f=>f.elim)) λ_ _ f=>f.elim))
def QoK(Y:Cx)(e:Q3)(iter:Q3)(D:Addr):Act:=λQ s=>wpAny (model Y.prog Y.w) Y.A (eval iter Y.env) (λx s1=>wpAny (model Y.prog Y.w) Y.A (pyIter x)
 (λitv s2=>codeAny (model Y.prog Y.w) Y.A (.compStart e 1 itv (.ref D) Y.env) (λr s3=>match r with | .ok _=>Q s3 | .error _=>False) s2) (λ_ _=>False) s1) (λ_ _=>False) s
def Qyu(wi:TI)(g:TG)(tc:TT)(p:Addr)(te:TE):St->Hp->(Hp->Prop)->Prop:=λσ H k=>wi σ H λJ H1=>Qmq J (bOf σ g tc (Qyv p te)) k H1
theorem QoC{Y:Cx}{σ:St}{elt tg iter:Q3}{ifs:List Q3}{g0:QgA}{scope:QaR}{cpos:Pos}{D:Addr}{wi:TI}{g:TG}{tc:TT}{te:TE}(hx:Y.xe=λ_ _=>False)(hc:Y.calm=true)
  (hi:PI Y tg iter wi)(hg:PG Y tg g)(ht:PTs Y ifs tc)(he:PE Y elt te):BodyOk Y σ (QoK Y (.ListComp elt [g0,⟨tg,iter,ifs,0⟩] scope cpos) iter D) (Qyu wi g tc D te σ):=by
 intro pins s H k Q I h hQ;have hx':∀(v:Value)(s':Shared),Y.xe v s'->False:=λv s' z=>by rw[hx] at z;exact z
 refine wpAny_mono (hi pins s σ H _ I h) (λv s1 h1=>wpAny_mono h1 (λitv s2 h2=>?_) hx') hx';obtain⟨it,fp,tn,J,H2,e,I2,T,st2,f2,hW⟩:=h2;subst e;have loop:codeAny (model Y.prog Y.w) Y.A (.compLoop (.ListComp elt [g0,⟨tg,iter,ifs,0⟩] scope cpos) 1 (.ref it) (.ref D) Y.env) (λr s3=>match r with | .ok _=>Q s3 | .error _=>False) s2:=
  Qdy (Y:=Y) (gens:=[g0,⟨tg,iter,ifs,0⟩]) (d:=1) hc T st2 f2 (λQ E s h=>Qmj Q E s h) (λx u r=>Qhn hx hg ht (λσ4=>Qho hx he) x u r) I2 hW λs' H' I' q=>hQ s' H' I' q
 exact QhS loop (T.self _ 0 _ _ _ st2 loop)
theorem Qlg{Y:Cx}{elt tg iter tg2 iter2:Q3}{ifs ifs2:List Q3}{scope:QaR}{cpos:Pos}{it D:Addr}(hs:∀x,foldedSetIterable iter2 Y.env x=pure x)(Q:PySem.Fin->Shared->Prop)(E:Value->Shared->Prop)(s:Shared)
  (h:wpAny (model Y.prog Y.w) Y.A (pyNext (.ref it)) (λr s1=>match r with
   |none=>Q (.done .next) s1
   |some v=>wpAny (model Y.prog Y.w) Y.A (letOwnedTupleGo tg (.ref it) v) (λ_ s2=>Qr2 Y tg ifs (QoK Y (.ListComp elt [⟨tg,iter,ifs,0⟩,⟨tg2,iter2,ifs2,0⟩] scope cpos) iter2 D) v (λs3=>Q (.again (.compLoop (.ListComp elt [⟨tg,iter,ifs,0⟩,⟨tg2,iter2,ifs2,0⟩] scope cpos) 0 (.ref it) (.ref D) Y.env)) s3) s2) E s1) E s) :
  wpAny (model Y.prog Y.w) Y.A (compTurn (.ListComp elt [⟨tg,iter,ifs,0⟩,⟨tg2,iter2,ifs2,0⟩] scope cpos) 0 (.ref it) (.ref D) Y.env) Q E s:=by
 have e:compTurn (.ListComp elt [⟨tg,iter,ifs,0⟩,⟨tg2,iter2,ifs2,0⟩] scope cpos) 0 (.ref it) (.ref D) Y.env=(do
   standAt iter.pos
   match <- pyNext (.ref it) with
   |none=>pure (.done .next)
   |some v=>
    letOwnedTupleGo tg (.ref it) v
    assign tg Y.env v
    let mut ok:=true
    for c in ifs do
     if ok then ok <- isTrue c Y.env (eval c Y.env)
    if ok then
     let x <- eval iter2 Y.env
     standAt iter2.pos
     let x <- foldedSetIterable iter2 Y.env x
     let _ <- runOwn (.compStart (.ListComp elt [⟨tg,iter,ifs,0⟩,⟨tg2,iter2,ifs2,0⟩] scope cpos) 1 (<- holding [x] (pyIter x)) (.ref D) Y.env) Y.env
    again (.compLoop (.ListComp elt [⟨tg,iter,ifs,0⟩,⟨tg2,iter2,ifs2,0⟩] scope cpos) 0 (.ref it) (.ref D) Y.env)):=by rfl
 rw[e];refine wpAny_bind (wpAny_standAt (wpAny_bind (thn h λr s1 h1=>?_)));cases r with
 |none=>exact Qb h1
 |some v=>
  refine wpAny_bind (thn h1 λ_ s2 h2=>?_);refine wpAny_bind (wpAny_mono h2 (λ_ s4 h4=>wpAny_bind (wpAny_mono h4 (λok s5 h5=>?_) λ_ _ f=>f.elim)) λ_ _ f=>f.elim);cases ok with
  |false=>exact Qb h5
  |true=>
   refine wpAny_bind (wpAny_mono h5 (λx s6 h6=>wpAny_bind (wpAny_standAt ?_)) λ_ _ f=>f.elim);rw[hs x];refine wpAny_bind (Qb (wpAny_bind (JY (wpAny_mono h6 (λitv s7 h7=>?_) λ_ _ f=>f.elim))));refine wpAny_bind (wpAny_runOwn (h:=none) (Qcm h7 λr s8 h8=>?_));cases r with
   |error z=>exact h8.elim
   |ok fl=>exact Qb h8
def Qsk(cap:List (Option Nat))(wi:TI)(g:TG)(tc:TT)(wi2:TI)(g2:TG)(tc2:TT)(te:TE):TE:=λσ H Q=>wi σ H λJ H1=>∀p,H1 p=none->Qmq J (bOf (Qd9 cap σ) g tc (Qyu wi2 g2 tc2 p te)) (Q (.ref p)) (upd H1 p (.lst []))
end L2
namespace Rk
open L2 Rd
def pairD(ij:Int×Int):Qa:=.tuple [.int ij.1,.int ij.2]
theorem QlL(b:Int×Int):YU (pairD b)=1:=by
 unfold pairD;simp[YU,Q2]
end Rk
namespace Rr
section
variable{prog:Qz}{w:Ji}{A:Jb}{E:Value->Shared->Prop}{s:Shared}
end
end Rr
namespace L2
def Qwf(ta:TA):TE:=λσ H Q=>ta σ H λvs H1=>∃j,vs=[.int j]/\∀r H2,Same H1 H2->H1 r=none->H2 r=some (.rng 0 j)->Q (.ref r) H2
section
variable{X:Cx}
theorem QpP{a:Q3}{ta:TA}{p pos:Pos}(hg:Gl X "range")(hm:X.mg "range" = none)(ha:PA X [a] ta)(hs:starEach [a] X.env=[(false,eval a X.env)]:=by rfl):PE X (.Call (.Name "range" p) [a] [] pos) (Qwf ta):=by
 intro pins s σ H Q I h;refine Qcl (QcN I hg hm boot_range ?_);refine JM (thn (ha pos pins s σ H _ I h) λus s1 ⟨vs,H1,I1,r1,q1⟩=>?_) hs rfl;obtain⟨j,e,q⟩:=q1;subst e;obtain⟨u,rfl,ru⟩:=vals1 r1;obtain⟨t,rfl⟩:=ru;refine call_range_1 ?_
 have hf:H1 s1.heap.objs.size=none:=I1.hok.fresh (Qi _);refine⟨.ref s1.heap.objs.size,upd H1 s1.heap.objs.size (.rng 0 j),I1.laid (t':=s1.toks+1+1) (λb u e=>Qe _ e) (Qi _) ⟨_,_,_,Qu _ rfl⟩,rfl,q _ _ (JX hf) hf J7⟩
end
end L2
namespace Rs
open PySem.W
def sp{α:Type}(n:Nat)(c:Nat->Nat->Bool):KasT α->(α->Prop)->Prop
 |.ret a,Q=>Q a
 |.ask i j f,Q=>i<n/\j<n/\sp n c (f (c i j)) Q
theorem Qa6{α:Type}{n:Nat}{c:Nat->Nat->Bool}{Q Q':α->Prop}(h:∀a,Q a->Q' a):∀{t:KasT α},sp n c t Q->sp n c t Q'
 |.ret a,q=>h a q
 |.ask i j f,q=>⟨q.1,q.2.1,Qa6 h (t:=f (c i j)) q.2.2⟩
theorem QdQ{α β:Type}{n:Nat}{c:Nat->Nat->Bool}{f:α->KasT β}{Q:β->Prop}:∀{t:KasT α},sp n c t (λa=>sp n c (f a) Q)->sp n c (t.bind f) Q
 |.ret a,q=>q
 |.ask i j g,q=>⟨q.1,q.2.1,QdQ (t:=g (c i j)) q.2.2⟩
theorem QjS{α:Type}{n:Nat}{c:Nat->Nat->Bool}{cmp:Nat->Nat->(Bool->Shared->Prop)->Shared->Prop}{s:Shared}{Q:α->Shared->Prop}(hc:∀i j (C:Bool->Shared->Prop),i<n->j<n->C (c i j) s->cmp i j C s) :
  ∀{t:KasT α},sp n c t (λa=>Q a s)->t.kasWp cmp Q s
 |.ret a,q=>q
 |.ask i j f,q=>hc i j _ q.1 q.2.1 (QjS hc (t:=f (c i j)) q.2.2)
section
variable{n:Nat}{K:Nat->Int}
abbrev cK (K:Nat->Int) (i j:Nat):Bool:=decide (K i<K j)
structure Good (n:Nat) (p:Array Nat):Prop where
 perm:p.toList.Perm (Qw n)
theorem Good.size{p:Array Nat}(g:Good n p):p.size=n:=by
 have:=g.perm.length_eq;rw[Q1,Qc] at this;exact this
def at_(p:Array Nat)(i:Nat):Nat:=p.getD i 0
theorem QiA{p:Array Nat}{i:Nat}(h:i<p.size):p[i]? = some (at_ p i):=by
 unfold at_;rw[YZ,Yb h];rfl
theorem QrZ{p q:Array Nat}{i j:Nat}(h:p[i]? = q[j]?):at_ p i=at_ q j:=by
 unfold at_;rw[YZ,YZ,h]
theorem Good.lt{p:Array Nat}(g:Good n p)(h0:0<n)(i:Nat):at_ p i<n:=by
 by_cases h:i<p.size
 ·have e:=QiA h;have m:at_ p i∈p.toList:=by
   have:=YY e;exact ZO.mpr this
  exact Jq.mp (g.perm.mem_iff.mp m)
 ·unfold at_;rw[YZ,ZX (by omega)];exact h0
theorem Good.inj{p:Array Nat}(g:Good n p){i j:Nat}(hi:i<n)(hj:j<n)(e:at_ p i=at_ p j):i=j:=by
 have nd:p.toList.Nodup:=g.perm.nodup_iff.mpr Qth;have hs:=g.size;have hi':i<p.toList.length:=by rw[Qc];omega
 have hj':j<p.toList.length:=by rw[Qc];omega
 have ei:p.toList[i]=at_ p i:=by
  have:=QiA (p:=p) (i:=i) (by omega);rw[Yb (by omega)] at this;rw[JO];exact Qm this
 have ej:p.toList[j]=at_ p j:=by
  have:=QiA (p:=p) (i:=j) (by omega);rw[Yb (by omega)] at this;rw[JO];exact Qm this
 have pw:=QZ.mp nd;rcases ZV i j with h | h | h
 ·exact absurd (ei.trans (e.trans ej.symm)) (pw i j hi' hj' h)
 ·exact h
 ·exact absurd (ej.trans (e.symm.trans ei.symm)) (pw j i hj' hi' h)
def kk(K:Nat->Int)(p:Array Nat)(i:Nat):Int:=K (at_ p i)
def Adj(K:Nat->Int)(p:Array Nat)(m:Nat):Prop:=∀i,i+1<m->kk K p i<=kk K p (i+1)
def Dsc(K:Nat->Int)(p:Array Nat)(m:Nat):Prop:=∀i,i+1<m->kk K p (i+1)<kk K p i
theorem Adj.le{p:Array Nat}{m:Nat}(h:Adj K p m){i:Nat}:∀{j:Nat},i<=j->j<m->kk K p i<=kk K p j
 |0,hij,_=>by cases Nat.le_zero.mp hij;exact Qo8 _
 |j+1,hij,hj=>by
  by_cases e:i=j+1
  ·rw[e];exact Qo8 _
  ·exact Int.le_trans (h.le (i:=i) (j:=j) (by omega) (by omega)) (h j hj)
theorem QpD{p:Array Nat}(g:Good n p)(i j:Nat):Good n (kas_rev p i j):=⟨(Zz.mp (mirror_perm p i j _)).trans g.perm⟩
theorem Qsu{p:Array Nat}{m k:Nat}(hm:m<=p.size)(hk:k<m):at_ (kas_rev p 0 m) k=at_ p (m - 1 - k):=by
 refine QrZ ?_
 have:=QvU (xs:=p) (i:=0) (j:=m) hm k;rw[if_pos ⟨Qr _,hk⟩,JP] at this;exact this
theorem QtI{p:Array Nat}{m:Nat}(hm:m<=p.size)(d:Dsc K p m):Adj K (kas_rev p 0 m) m:=by
 intro i hi;unfold kk;rw[Qsu hm (by omega),Qsu hm hi];have:=d (m - 1 - (i+1)) (by omega);have e:m - 1 - (i+1)+1=m - 1 - i:=by omega
 rw[e] at this;exact Int.le_of_lt this
theorem Qmy{p:Array Nat}(g:Good n p)(h0:0<n):∀(f a:Nat),1<=a->Adj K p a ->
  sp n (cK K) (kas_asc p f a) (λm=>a<=m/\m<=a+f/\Adj K p m/\(m=a+f∨kk K p m<kk K p (m - 1)))
 |0,a,_,h=>⟨Qi _,Qi _,h,.inl rfl⟩
 |f+1,a,ha,h=>by
  refine⟨g.lt h0 a,g.lt h0 (a - 1),?_⟩;show sp n (cK K) (if decide (kk K p a<kk K p (a - 1))=true then .ret a else kas_asc p f (a+1)) _;by_cases e:kk K p a<kk K p (a - 1)
  ·rw[decide_eq_true e,if_pos rfl];exact⟨Qi _,Qgz _ _,h,.inr e⟩
  ·rw[decide_eq_false e,if_neg (by simp)];refine Qa6 ?_ (Qmy g h0 f (a+1) (by omega) ?_)
   ·rintro m ⟨h1,h2,h3,h4⟩;exact⟨by omega,by omega,h3,h4.imp (λq=>by omega) id⟩
   ·intro i hi;by_cases q:i+1<a
    ·exact h i q
    ·have e1:i=a - 1:=by omega
     have e2:i+1=a:=by omega
     rw[e2,e1];exact Int.not_lt.mp e
theorem Qu5(inj:∀i j,i<n->j<n->K i=K j->i=j){p:Array Nat}(g:Good n p){i j:Nat}(hi:i<n)(hj:j<n)(h:i≠j):kk K p i≠kk K p j:=
 λe=>h (g.inj hi hj (inj _ _ (g.lt (by omega) i) (g.lt (by omega) j) e))
theorem Qmx(inj:∀i j,i<n->j<n->K i=K j->i=j){p:Array Nat}(g:Good n p)(h0:0<n):∀(f a:Nat),1<=a->a+f<=n->Dsc K p a ->
  sp n (cK K) (kas_desc f p a 0) (λr=>r.1=p/\r.2.2=0/\a<=r.2.1/\r.2.1<=a+f/\Dsc K p r.2.1)
 |0,a,_,_,h=>⟨rfl,rfl,Qi _,Qi _,h⟩
 |f+1,a,ha,haf,h=>by
  refine⟨g.lt h0 a,g.lt h0 (a - 1),?_⟩;show sp n (cK K) (if decide (kk K p a<kk K p (a - 1))=true then(if 0 > 0 then kas_desc f (kas_rev p (a - (0+1)) a) (a+1) 0 else kas_desc f p (a+1) 0) else _) _;by_cases e:kk K p a<kk K p (a - 1)
  ·rw[decide_eq_true e,if_pos rfl,if_neg (by omega)];refine Qa6 ?_ (Qmx inj g h0 f (a+1) (by omega) (by omega) ?_)
   ·rintro r ⟨h1,h2,h3,h4,h5⟩;exact⟨h1,h2,by omega,by omega,h5⟩
   ·intro i hi;by_cases q:i+1<a
    ·exact h i q
    ·have e1:i=a - 1:=by omega
     have e2:i+1=a:=by omega
     rw[e2,e1];exact e
  ·rw[decide_eq_false e,if_neg (by simp)];refine⟨g.lt h0 (a - 1),g.lt h0 a,?_⟩;show sp n (cK K) (if decide (kk K p (a - 1)<kk K p a)=true then .ret (p,a,0) else _) _;have ne:=Qu5 (K:=K) inj g (i:=a - 1) (j:=a) (by omega) (by omega) (by omega);rw[decide_eq_true (by omega),if_pos rfl];exact⟨rfl,rfl,Qi _,Qgz _ _,h⟩
def Run(K:Nat->Int)(n:Nat)(r:Nat×Array Nat):Prop:=Good n r.2/\1<=r.1/\r.1<=n/\Adj K r.2 r.1
theorem Qpk{p:Array Nat}(g:Good n p){m:Nat}(h1:1<=m)(hm:m<=n)(d:Dsc K p m):sp n (cK K) (kas_tail3 m n p) (Run K n):=by
 refine QdQ ?_
 have hs:=g.size;have g':=QpD g 0 m;refine Qa6 ?_ (Qmy g' (by omega) (n - m) m h1 (QtI (by omega) d))
 rintro k ⟨a,b,c,_⟩;exact⟨g',by omega,by omega,c⟩
theorem Qi6(inj:∀i j,i<n->j<n->K i=K j->i=j){p:Array Nat}(g:Good n p){m:Nat}(hm:m+1<=n)(d:Dsc K p (m+1)):sp n (cK K) (kas_descPart m n p) (Run K n):=by
 refine QdQ ?_
 refine Qa6 ?_ (Qmx inj g (by omega) (n - (m+1)) (m+1) (by omega) (by omega) d)
 rintro⟨p',k,q⟩ ⟨e1,e2,h3,h4,h5⟩;have e1:p'=p:=e1;have e2:q=0:=e2;subst e1 e2;show sp n (cK K) (if 0 > 0 then _ else kas_tail3 k n p') _;rw[if_neg (by omega)];have h3:m+1<=k:=h3;have h4:k<=m+1+(n - (m+1)):=h4;exact Qpk g (by omega) (by omega) h5
theorem Qpl(inj:∀i j,i<n->j<n->K i=K j->i=j){p:Array Nat}(g:Good n p)(h0:0<n):sp n (cK K) (kas_count n p) (Run K n):=by
 refine QdQ ?_
 refine Qa6 ?_ (Qmy g h0 (n - 1) 1 (Qi _) (λi hi=>by omega))
 rintro m ⟨h1,h2,h3,h4⟩;show sp n (cK K) (if(m == n)=true then .ret (m,p) else if m > 1 then _ else kas_descPart m n p) _;by_cases e:m=n
 ·rw[if_pos (beq_iff_eq.mpr e)];exact⟨g,h1,by omega,h3⟩
 ·rw[if_neg (λq=>e (beq_iff_eq.mp q))];by_cases e2:m > 1
  ·rw[if_pos e2];refine⟨g.lt h0 0,g.lt h0 (m - 1),?_⟩;show sp n (cK K) (if decide (kk K p 0<kk K p (m - 1))=true then .ret (m,p) else _) _;have le:=h3.le (i:=0) (j:=m - 1) (by omega) (by omega);have ne:=Qu5 (K:=K) inj g (i:=0) (j:=m - 1) (by omega) (by omega) (by omega);rw[decide_eq_true (by omega),if_pos rfl];exact⟨g,h1,by omega,h3⟩
  ·rw[if_neg e2];have em:m=1:=by omega
   subst em;refine Qi6 inj g (by omega) λi hi=>?_
   have ei:i=0:=by omega
   subst ei;rcases h4 with q | q
   ·omega
   ·exact q
theorem QgK{p:Array Nat}(g:Good n p)(h0:0<n){k:Nat}(A:Adj K p k):∀(f l r:Nat),l<=r->r<=k->r - l<=f->(∀i,i<l->kk K p i<=kk K p k)->(∀i,r<=i->i<k->kk K p k<kk K p i) ->
  sp n (cK K) (kas_place p k f l r) (λm=>m<=k/\(∀i,i<m->kk K p i<=kk K p k)/\∀i,m<=i->i<k->kk K p k<kk K p i)
 |0,l,r,h1,h2,h3,a,b=>⟨by omega,a,λi hi hk=>b i (by omega) hk⟩
 |f+1,l,r,h1,h2,h3,a,b=>by
  show sp n (cK K) (if l≥r then .ret l else _) _;by_cases e:l≥r
  ·rw[if_pos e];exact⟨by omega,a,λi hi hk=>b i (by omega) hk⟩
  ·rw[if_neg e];refine⟨g.lt h0 k,g.lt h0 ((l+r) / 2),?_⟩;show sp n (cK K) (if decide (kk K p k<kk K p ((l+r) / 2))=true then kas_place p k f l ((l+r) / 2) else kas_place p k f ((l+r) / 2+1) r) _;by_cases q:kk K p k<kk K p ((l+r) / 2)
   ·rw[decide_eq_true q,if_pos rfl];refine QgK g h0 A f l ((l+r) / 2) (by omega) (by omega) (by omega) a λi hi hk=>?_
    exact Int.lt_of_lt_of_le q (A.le hi hk)
   ·rw[decide_eq_false q,if_neg (by simp)];refine QgK g h0 A f ((l+r) / 2+1) r (by omega) h2 (by omega) (λi hi=>?_) b;exact Int.le_trans (A.le (i:=i) (j:=(l+r) / 2) (by omega) (by omega)) (Int.not_lt.mp q)
theorem Qsr(h0:0<n):∀(f k:Nat){p:Array Nat},Good n p->k+f<=n->Adj K p k->sp n (cK K) (kas_bin f p k) (λp'=>Good n p'/\Adj K p' (k+f))
 |0,k,p,g,_,A=>⟨g,A⟩
 |f+1,k,p,g,hk,A=>by
  refine QdQ ?_
  refine Qa6 ?_ (QgK g h0 A k 0 k (Qr _) (Qi _) (by omega) (λi hi=>by omega) (λi hi hk=>by omega))
  rintro l ⟨hl,lo,hi⟩;have hs:=g.size;have bb:∀j,at_ (bubble p k (k - l)) j=if j=l then at_ p k else if l<j/\j<=k then at_ p (j - 1) else at_ p j:=by
   intro j;have:=getElem?_bubble (xs:=p) (src:=k) (by omega) (k - l) (by omega) j
   have e:k - (k - l)=l:=by omega
   rw[e] at this;split
   ·rename_i q;rw[if_pos q] at this;exact QrZ this
   ·rename_i q
    rw[if_neg q] at this;split
    ·rename_i q2;rw[if_pos q2] at this;exact QrZ this
    ·rename_i q2;rw[if_neg q2] at this;exact QrZ this
  refine Qa6 ?_ (Qsr h0 f (k+1) (p:=bubble p k (k - l)) ⟨(Zz.mp (bubble_perm p k (k - l))).trans g.perm⟩ (by omega) ?_)
  ·rintro p' ⟨a,b⟩;exact⟨a,by rw[show k+(f+1)=k+1+f by omega];exact b⟩
  ·intro i hik;unfold kk;rw[bb,bb];by_cases c1:i+1<l
   ·rw[if_neg (by omega),if_neg (by omega),if_neg (by omega),if_neg (by omega)];exact A i (by omega)
   ·by_cases c2:i+1=l
    ·rw[if_neg (by omega),if_neg (by omega),if_pos c2];exact lo i (by omega)
    ·by_cases c3:i=l
     ·rw[if_pos c3,if_neg (by omega),if_pos ⟨by omega,by omega⟩];exact Int.le_of_lt (hi (i+1 - 1) (by omega) (by omega))
     ·rw[if_neg c3,if_pos ⟨by omega,by omega⟩,if_neg (by omega),if_pos ⟨by omega,by omega⟩];have:=A (i - 1) (by omega);rw[show i - 1+1=i+1 - 1 by omega] at this;exact this
theorem QtB(inj:∀i j,i<n->j<n->K i=K j->i=j)(h0:0<n):sp n (cK K) (kas_sort n) (λp=>Good n p/\Adj K p n):=by
 have g:Good n (ZR (Qw n)):=⟨Z2 _⟩;refine QdQ ?_
 refine Qa6 ?_ (Qpl inj g h0)
 rintro⟨m,p⟩ ⟨g',h1,h2,A⟩;show sp n (cK K) (if m<n then kas_bin (n - max m 1) p (max m 1) else .ret p) _;have e:max m 1=m:=by have:1<=m:=h1;omega
 rw[e];by_cases q:m<n
 ·rw[if_pos q];refine Qa6 ?_ (Qsr h0 (n - m) m g' (by omega) A)
  rintro p' ⟨a,b⟩;exact⟨a,by rw[show m+(n - m)=n by omega] at b;exact b⟩
 ·rw[if_neg q];have h2:m<=n:=h2;have e2:m=n:=by omega
  subst e2;exact⟨g',A⟩
end
end Rs
namespace Rs
open PySem.W PySem.Calls
section
variable{prog:Qz}{w:Ji}{A:Jb}{E:Value->Shared->Prop}{s:Shared}
def Kept(a:Addr)(h h':Heap):Prop:=∀b x,b≠a->h.get? b=some x->h'.get? b=some x
theorem Qcp{h:Heap}{a:Addr}(f:Obj->Obj):Kept a h (h.update a f):=λb x hb e=>(Heap.get?_update_ne _ _ _ _ hb).trans e
theorem Qdq{h:Heap}{a:Addr}(o:Obj):Kept a h (h.push o):=λb x _ e=>Qe _ e
theorem Kept.trans{a:Addr}{h h1 h2:Heap}(k:Kept a h h1)(k':Kept a h1 h2):Kept a h h2:=λb x hb e=>k' b x hb (k b x hb e)
theorem QmO(vs:List Value):(Qw vs.length).map (λi=>vs.getD i Jw)=vs:=by
 apply Zj
 intro i;rw[Qx];by_cases h:i<vs.length
 ·rw[Jy h,Qf h];show some (vs.getD i Jw)=_;rw[QF,Qf h];rfl
 ·rw[QM (by simpa using h),QM (by omega)];rfl
theorem QfM{a:Addr}{vs:List Value}{n:Nat}{P:PySem.Fin->Shared->Prop}(ho:s.heap.get? a=some (seqObj "list" vs.toArray n))(h64:vs.length<64)(K:Nat->Int)(κ:Z7)
  (inj:∀i j,i<vs.length->j<vs.length->K i=K j->i=j)
  (hkind:2<=vs.length->∀h':Heap,Kept a s.heap h'->∀(Q':Z7->Shared->Prop)(E':Value->Shared->Prop),Q' κ { s with heap:=h' }->wpAny (model prog w) A (keyKind' vs.toArray) Q' E' { s with heap:=h' })
  (hcmp:∀h':Heap,Kept a s.heap h'->∀(i j:Nat)(C:Bool->Shared->Prop),i<vs.length->j<vs.length->C (decide (K i<K j)) { s with heap:=h' }->wpAny (model prog w) A (keyLt' κ (vs.getD i Jw) (vs.getD j Jw)) C (λ_ _=>False) { s with heap:=h' })
  (h:∀p:Array Nat,Good vs.length p->Adj K p vs.length->∀(h':Heap)(e:Nat),Kept a s.heap h'->h'.get? a=some (seqObj "list" (ZR (p.toList.map λi=>vs.getD i Jw)) e)->P (.done (.ret .none)) { s with heap:=h' }) :
  wpAny (model prog w) A (Yz.«list.sort» ⟨[.ref a],[]⟩) P E s:=by
 have ha:a<s.heap.objs.size:=Qo ho;obtain⟨e1,ho1⟩:∃e1,(s.heap.update a (J6 λ_=>(#[]:Array Value))).get? a=some (seqObj "list" #[] e1):=⟨_,Qb1 ho λ_=>#[]⟩
 have K3:Kept a s.heap (((s.heap.update a (J6 λ_=>(#[]:Array Value))).push (seqObj "tuple" vs.toArray 0)).push (seqObj "list" #[] 0)):=(Qcp _).trans ((Qdq _).trans (Qdq _));have ho6:(((s.heap.update a (J6 λ_=>(#[]:Array Value))).push (seqObj "tuple" vs.toArray 0)).push (seqObj "list" #[] 0)).get? a=some (seqObj "list" #[] e1):=Qe _ (Qe _ ho1);rw[list_sort_plain];refine wpAny_bind (Qs9 ho rfl ?_);refine wpAny_bind (QbN ho rfl ?_ (by rw[Ql,Z5];omega) (Qr _));refine wpAny_bind (Qdb ho1 rfl ?_);refine wpAny_bind (Ql0 ?_ (by show vs.length<=_;rw[Z5];omega));refine wpAny_bind (Qgs ?_ (Qr _));refine JY ?_
 show wpAny (model prog w) A _ P E { s with heap:=((s.heap.update a (J6 λ_=>(#[]:Array Value))).push (seqObj "tuple" vs.toArray 0)).push (seqObj "list" #[] 0) }
 dsimp only
 generalize (((s.heap.update a (J6 λ_=>(#[]:Array Value))).push (seqObj "tuple" vs.toArray 0)).push (seqObj "list" #[] 0))=h3 at K3 ho6 ⊢;have fin:∀p:Array Nat,Good vs.length p->Adj K p vs.length->∀st':J1,(arrOf st').map (·.2)=ZR (p.toList.map λi=>vs.getD i Jw)->failedOf st'=none ->
   ∃e2,(h3.update a (J6 λ_=>ZR (p.toList.map λi=>vs.getD i Jw))).get? a=some (seqObj "list" (ZR (p.toList.map λi=>vs.getD i Jw)) e2):=λp _ _ _ _ _=>⟨_,Qb1 ho6 λ_=>_⟩
 by_cases h2:vs.toArray.size<2
 ·rw[if_pos h2,if_pos h2];refine wpAny_bind (Qb ?_);rw[Qr9];refine wpAny_bind (Qb ?_)
  dsimp only
  have gg:Good vs.length (ZR (Qw vs.length)):=⟨Z2 _⟩;have aa:Adj K (ZR (Qw vs.length)) vs.length:=λi hi=>by rw[Ql] at h2;omega
  have out:(arrOf (QoQ general' (vs.toArray.zip vs.toArray) #[] 7 none)).map (·.2)=ZR ((ZR (Qw vs.length)).toList.map λi=>vs.getD i Jw):=by
   show(vs.toArray.zip vs.toArray).map (·.2)=_;rw[ZW,QmO];apply Qco.mp
   rw[Qsh,Qsg];show(vs.zip vs).map (·.2)=vs;exact Qti (Qi _)
  obtain⟨e2,he2⟩:=fin _ gg aa _ out rfl;rw[out];refine wpAny_bind (Qdb ho6 rfl ?_);refine wpAny_bind (QbN ho6 rfl ?_ (Qr _) (by rw[Ql,Qh,ZW,Q1,Z5];omega));simp only[bne_self_eq_false,Jn,if_false];exact Qb (h _ gg aa _ e2 (K3.trans (Qcp _)) he2)
 ·rw[if_neg h2,if_neg h2];have h2':2<=vs.length:=by rw[Ql] at h2;omega
  refine wpAny_bind (hkind h2' h3 K3 _ _ ?_);refine wpAny_bind (wpAny_mono (kat_run (Q:=λst' s'=>∃p:Array Nat,Good vs.length p/\Adj K p vs.length/\arrOf st'=p.map (kas_item (vs.toArray.zip vs.toArray))/\failedOf st'=none/\s'={ s with heap:=h3 })
   (G:=λp s'=>Good vs.length p/\Adj K p vs.length/\s'={ s with heap:=h3 }) rfl h2' h64 (λp' st' s' a1 a2 a3 a4=>⟨p',a4.1,a4.2.1,a2,a3,a4.2.2⟩)
   (QjS (c:=cK K) (λi j C hi hj hC=>hcmp h3 K3 i j C hi hj hC) (Qa6 (λp q=>⟨q.1,q.2,rfl⟩) (QtB inj (by omega))))) ?_ λ_ _ e=>e)
  rintro⟨⟨⟩,st'⟩ s' ⟨p,gg,aa,har,hf,rfl⟩
  dsimp only
  have out:=kat_snds (ks:=vs) rfl har;obtain⟨e2,he2⟩:=fin p gg aa st' out hf;rw[out];refine wpAny_bind (Qdb ho6 rfl ?_);refine wpAny_bind (QbN ho6 rfl ?_ (Qr _) (by rw[Ql,Qh,Qc,gg.size,Z5];omega));rw[hf];simp only[bne_self_eq_false,Jn,if_false];exact Qb (h p gg aa _ e2 (K3.trans (Qcp _)) he2)
theorem QhT{Q:Value->Shared->Prop}{l:Addr}{T:String}{o:Obj}{vs:List Value}{n:Nat}(hT:T = "list" ∨ T = "tuple")(ho:s.heap.get? l=some o)(hc:o.cls=.type T)(hd:o.data=.seq vs.toArray n)(h64:vs.length<64)
  (h:∀h':Heap,(∀b x,s.heap.get? b=some x->h'.get? b=some x)->∀(P:PySem.Fin->Shared->Prop)(E':Value->Shared->Prop),(∀s2,Q (.ref h'.objs.size) s2->P (.done (.ret .none)) s2) ->
   wpAny (model prog w) A.in1.in1 (Yz.«list.sort» ⟨[.ref h'.objs.size],[]⟩) P E' { s with heap:=h'.push (seqObj "list" vs.toArray 0) }) :
  wpAny (model prog w) A (call (.builtin "sorted") [.ref l]) Q E s:=by
 refine QhK kind_sorted plain_sorted entry_sorted (args_sorted1 _) ?_
 unfold Yz.«sorted»;refine wpAny_bind (m:=checkCount "sorted" 1 1 _) (Qb ?_);refine wpAny_bind (wpAny_collect_seq (items:=vs.toArray) l hT ho hc hd (λh' kp=>?_) (by rw[Ql,Z5];omega));refine wpAny_bind (Qgs ?_ (by rw[ZW,Z5];omega));have hoL:(h'.push (seqObj "list" vs.toArray 0)).get? h'.objs.size=some (seqObj "list" vs.toArray 0):=Qu _ rfl;show wpAny _ _ _ _ _ { s with heap:=h'.push (seqObj "list" vs.toArray 0) };refine wpAny_bind (JY (JK slot_list_sort ⟨_,hoL,rfl⟩ entry_list_sort ?body (args_list_sort _)));exact h h' kp _ _ λs2 hq=>⟨_,rfl,Qb ⟨_,rfl,hq⟩⟩
end
structure PairV (h:Heap) (v:Value) (ij:Int×Int):Prop where
 it:∃(a:Addr)(o:Obj)(n:Nat)(t u:Tok),v=.ref a/\h.get? a=some o/\o.cls=.type "tuple" /\ o.data=.seq #[.int ij.1 t,.int ij.2 u] n
theorem PairV.keep{h h':Heap}{v:Value}{ij:Int×Int}(q:PairV h v ij)(k:∀b x,h.get? b=some x->h'.get? b=some x):PairV h' v ij:=by
 obtain⟨a,o,n,t,u,e,g,c,d⟩:=q.it;exact⟨a,o,n,t,u,e,k _ _ g,c,d⟩
inductive PairsV (h:Heap):List Value->List (Int×Int)->Prop
 |nil:PairsV h [] []
 |cons {v:Value} {vs:List Value} {ij:Int×Int} {L:List (Int×Int)}:PairV h v ij->PairsV h vs L->PairsV h (v::vs) (ij::L)
theorem PairsV.keep{h h':Heap}(k:∀b x,h.get? b=some x->h'.get? b=some x):∀{vs:List Value}{L:List (Int×Int)},PairsV h vs L->PairsV h' vs L
 |_,_,.nil=>.nil
 |_,_,.cons q r=>.cons (q.keep k) (r.keep k)
theorem PairsV.len{h:Heap}:∀{vs:List Value}{L:List (Int×Int)},PairsV h vs L->vs.length=L.length
 |_,_,.nil=>rfl
 |_,_,.cons _ r=>by rw[Qt,Qt,r.len]
theorem PairsV.at_{h:Heap}:∀{vs:List Value}{L:List (Int×Int)},PairsV h vs L->∀i,i<vs.length->PairV h (vs.getD i Jw) (L.getD i (0,0))
 |_,_,.nil,i,hi=>by simp at hi
 |_,_,.cons q r,0,hi=>q
 |_,_,.cons q r,i+1,hi=>by
  have:=r.at_ i (by simpa using hi)
  simpa using this
theorem PairsV.firsts{h:Heap}:∀{vs:List Value}{L:List (Int×Int)},PairsV h vs L->∃fs,KatTups h vs fs/\fs.length=vs.length/\∀v∈fs,∃i t,v=Qer i t
 |_,_,.nil=>⟨[],.nil,rfl,λv hv=>nomatch hv⟩
 |_,_,.cons q r=>by
  obtain⟨fs,k,l,f⟩:=r.firsts;obtain⟨a,o,n,t,u,e,g,c,d⟩:=q.it;subst e;refine⟨_::fs,KatTups.cons g c d rfl k,by rw[Qt,Qt,l],λv hv=>?_⟩;rcases Qp.mp hv with z | z
  ·exact⟨_,_,z⟩
  ·exact f v z
def code(ij:Int×Int):Int:=64*ij.1+ij.2
section
variable{prog:Qz}{w:Ji}{A:Jb}{E:Value->Shared->Prop}{s:Shared}
theorem Qvs{a b:Int×Int}(ha:0<=a.2/\a.2<64)(hb:0<=b.2/\b.2<64):decide (code a<code b)=if a.1=b.1 then(if a.2=b.2 then false else decide (a.2<b.2)) else decide (a.1<b.1):=by
 unfold code;split
 ·split
  ·exact decide_eq_false (by omega)
  ·by_cases q:a.2<b.2
   ·rw[decide_eq_true q];exact decide_eq_true (by omega)
   ·rw[decide_eq_false q];exact decide_eq_false (by omega)
 ·by_cases q:a.1<b.1
  ·rw[decide_eq_true q];exact decide_eq_true (by omega)
  ·rw[decide_eq_false q];exact decide_eq_false (by omega)
theorem Quz{v v':Value}{a b:Int×Int}{C:Bool->Shared->Prop}(pa:PairV s.heap v a)(pb:PairV s.heap v' b)(ha:0<=a.2/\a.2<64)(hb:0<=b.2/\b.2<64)(h:C (decide (code a<code b)) s) :
  wpAny (model prog w) A (keyLt' (tuples' true) v v') C E s:=by
 obtain⟨x,ox,n,t,u,rfl,gx,cx,dx⟩:=pa.it;obtain⟨y,oy,m,t',u',rfl,gy,cy,dy⟩:=pb.it;rw[Qvs ha hb] at h;refine kat_lt gx dx gy dy ?_
 show KatLex prog w A true false C [(.int a.1 t,.int b.1 t'),(.int a.2 u,.int b.2 u')] 0 s;refine kat_cons (QiP ?_);by_cases e:a.1=b.1
 ·rw[if_pos e] at h;rw[show(a.1 == b.1)=true from beq_iff_eq.mpr e];refine kat_yes (kat_cons (QiP ?_));by_cases e2:a.2=b.2
  ·rw[if_pos e2] at h;rw[show(a.2 == b.2)=true from beq_iff_eq.mpr e2];exact kat_yes (kat_nil h)
  ·rw[if_neg e2] at h;rw[show(a.2 == b.2)=false from beq_eq_false_iff_ne.mpr e2];exact kat_no (kat_one _ _ (lt_int h))
 ·rw[if_neg e] at h;rw[show(a.1 == b.1)=false from beq_eq_false_iff_ne.mpr e];exact kat_no (oneLt_int h)
theorem Qnd{vs:List Value}{L:List (Int×Int)}{Q:Z7->Shared->Prop}(r:PairsV s.heap vs L)(h2:2<=vs.length)(h:Q (tuples' true) s):wpAny (model prog w) A (keyKind' vs.toArray) Q E s:=by
 obtain⟨fs,k,l,f⟩:=r.firsts;refine kat_kind (T:=.type "int") k (by omega) (λv hv=>?_) (by decide +kernel) ?_
 ·obtain⟨i,t,rfl⟩:=f v hv;exact Looks.of_pure rfl
 ·rw[show(ZM "int" != ZM "tuple")=true by decide +kernel];exact h
theorem Qfh{a:Addr}{vs:List Value}{L:List (Int×Int)}{n:Nat}{P:PySem.Fin->Shared->Prop}(ho:s.heap.get? a=some (seqObj "list" vs.toArray n))(h64:vs.length<64)(r:∀h',Kept a s.heap h'->PairsV h' vs L)(nd:L.Nodup)(hb:∀ij∈L,0<=ij.2/\ij.2<64)
  (h:∀p:Array Nat,Good vs.length p->Adj (λi=>code (L.getD i (0,0))) p vs.length->∀(h':Heap)(e:Nat),Kept a s.heap h'->h'.get? a=some (seqObj "list" (ZR (p.toList.map λi=>vs.getD i Jw)) e)->P (.done (.ret .none)) { s with heap:=h' }) :
  wpAny (model prog w) A (Yz.«list.sort» ⟨[.ref a],[]⟩) P E s:=by
 have hl:vs.length=L.length:=(r s.heap (λb x _ e=>e)).len;have hb':∀i,i<vs.length->0<=(L.getD i (0,0)).2/\(L.getD i (0,0)).2<64:=λi hi=>by
  rw[QF,Qf (by omega)];exact hb _ (YF _)
 refine QfM ho h64 (λi=>code (L.getD i (0,0))) (tuples' true) (λi j hi hj e=>?_) (λh2 h' k Q' E' q=>Qnd (s:={ s with heap:=h' }) (r h' k) h2 q) (λh' k i j C hi hj q=>Quz (s:={ s with heap:=h' }) ((r h' k).at_ i hi) ((r h' k).at_ j hj) (hb' i hi) (hb' j hj) q) h;have bi:=hb' i hi;have bj:=hb' j hj;have e:code (L.getD i (0,0))=code (L.getD j (0,0)):=e;unfold code at e;have e':L.getD i (0,0)=L.getD j (0,0):=Qez (by omega) (by omega);rw[QF,QF,Qf (by omega),Qf (by omega)] at e';have pw:=QZ.mp nd;rcases ZV i j with q | q | q
 ·exact absurd e' (pw i j (by omega) (by omega) q)
 ·exact q
 ·exact absurd e'.symm (pw j i (by omega) (by omega) q)
end
theorem QnS{α:Type}{L:List α}{d:α}{p:Array Nat}(g:Good L.length p):(p.toList.map λi=>L.getD i d).Perm L:=by
 have e:(Qw L.length).map (λi=>L.getD i d)=L:=by
  apply Zj
  intro i;rw[Qx];by_cases h:i<L.length
  ·rw[Jy h,Qf h];show some (L.getD i d)=_;rw[QF,Qf h];rfl
  ·rw[QM (by simpa using h),QM (by omega)];rfl
 have:=g.perm.map λi=>L.getD i d
 rwa [e] at this
theorem QnR{L:List (Int×Int)}{p:Array Nat}(g:Good L.length p)(ad:Adj (λi=>code (L.getD i (0,0))) p L.length)(inj:∀i j,i<L.length->j<L.length->code (L.getD i (0,0))=code (L.getD j (0,0))->i=j) :
  (p.toList.map λi=>L.getD i (0,0)).Pairwise λa b=>code a<code b:=by
 rw[QZ];intro i j hi hj hij;rw[Qh,Qc] at hi hj;have hs:=g.size;rw[QcG,QcG,JO,JO];have ei:p[i]=at_ p i:=by have:=QiA (p:=p) (i:=i) (by omega);rw[Yb (by omega)] at this;exact Qm this
 have ej:p[j]=at_ p j:=by have:=QiA (p:=p) (i:=j) (by omega);rw[Yb (by omega)] at this;exact Qm this
 rw[ei,ej];have le:=ad.le (i:=i) (j:=j) (by omega) (by omega);have ne:=Qu5 (K:=λi=>code (L.getD i (0,0))) inj g (i:=i) (j:=j) (by omega) (by omega) (by omega);have le:code (L.getD (at_ p i) (0,0))<=code (L.getD (at_ p j) (0,0)):=le;have ne:code (L.getD (at_ p i) (0,0))≠code (L.getD (at_ p j) (0,0)):=ne;omega
end Rs
namespace L2
open _root_.Rd _root_.Rk _root_.Rs
section
variable{X:Cx}
theorem Qh2{P:Qz}{w:Ji}{H:Hp}{h:Heap}(ok:HOk P w H h):∀{xs:List V}{L:List (Int×Int)}{vs:List Value},Dats H xs (L.map Rk.pairD)->Vals xs vs->PairsV h vs L
 |_,[],vs,.nil,r=>by cases r;exact .nil
 |_,ij::L,vs,.cons (x:=x) (xs:=xs) q qs,r=>by
  cases r with
  |cons r rs=>
   refine .cons ?_ (Qh2 ok qs rs)
   cases q with
   |@tup a ys ds e q2=>
    cases r;obtain⟨_,its,rv,o,ho,hc,n,hd⟩:=ok a _ e;cases q2 with
    |cons q3 q4=>
     cases q4 with
     |cons q5 q6=>
      cases q6;cases q3;cases q5;cases rv with
      |cons r1 r2=>
       cases r2 with
       |cons r3 r4=>
        cases r4;obtain⟨t,rfl⟩:=r1;obtain⟨u,rfl⟩:=r3;exact⟨_,o,n,t,u,rfl,ho,hc,hd⟩
theorem Qof{H:Hp}:∀{xs:List V}{L:List (Int×Int)},Dats H xs (L.map Rk.pairD)->∀i,i<xs.length->Dat H (xs.getD i .non) (Rk.pairD (L.getD i (0,0)))
 |_,[],.nil,i,hi=>by simp at hi
 |_,ij::L,.cons q qs,0,hi=>q
 |_,ij::L,.cons q qs,i+1,hi=>by
  have:=Qof (L:=L) qs i (by simpa using hi)
  simpa using this
theorem Qmf:∀{xs:List V}{vs:List Value},Vals xs vs->∀i,i<xs.length->RelV (xs.getD i .non) (vs.getD i Jw)
 |_,_,.nil,i,hi=>by simp at hi
 |_,_,.cons q qs,0,hi=>q
 |_,_,.cons q qs,i+1,hi=>by
  have:=Qmf qs i (by simpa using hi)
  simpa using this
theorem QkO{H:Hp}{f:Nat->V}{g:Nat->Int×Int}:∀{is:List Nat},(∀i∈is,Dat H (f i) (Rk.pairD (g i)))->Dats H (is.map f) ((is.map g).map Rk.pairD)
 |[],_=>.nil
 |i::is,h=>.cons (h i (.head _)) (QkO λj hj=>h j (.tail _ hj))
theorem QjV{f:Nat->V}{g:Nat->Value}:∀{is:List Nat},(∀i∈is,RelV (f i) (g i))->Vals (is.map f) (is.map g)
 |[],_=>.nil
 |i::is,h=>.cons (h i (.head _)) (QjV λj hj=>h j (.tail _ hj))
def QmQ:List V->Hp->VK->Prop:=λxs H Q=>∃(l:Addr)(vs:List V)(L:List (Int×Int)),xs=[.ref l]/\H l=some (.lst vs)/\Dats H vs (L.map Rk.pairD)/\L.Nodup/\L.length<64/\(∀ij∈L,0<=ij.2/\ij.2<64) /\
 ∀(t:Addr)(ys:List V)(M:List (Int×Int))(H2:Hp),Same H H2->H t=none->H2 t=some (.lst ys)->Dats H2 ys (M.map Rk.pairD)->M.Perm L->M.Pairwise (λa b=>Rs.code a<Rs.code b)->Q (.ref t) H2
theorem Qgo:CallR X (.builtin "sorted") QmQ:=by
 intro pins s σ H xs us Q I r h;obtain⟨l,vs,L,rfl,hl,ds,nd,h64,hb,q⟩:=h;obtain⟨u,rfl,ru⟩:=vals1 r;cases ru;obtain⟨hz,its,n,rv,ho⟩:=I.hok l _ hl;have pv:=Qh2 I.hok ds rv;have lv:=ds.length;rw[Qh] at lv;have li:=rv.length;have lp:=pv.len;refine QhT (.inl rfl) ho rfl rfl (by omega) λh' kp P E' hP=>?_
 refine Qfh (s:={ s with heap:=h'.push (seqObj "list" its.toArray 0) }) (vs:=its) (L:=L) (Qu _ rfl) (by omega) (λh2 k2=>?_) nd hb λp g ad h2 e k2 e2=>hP _ ?_
 ·exact(pv.keep kp).keep λb x e=>k2 b x (QB (Qo e)) (Qe _ e)
 ·have I1:Inv X pins σ H { s with heap:=h' }:=I.kept (t':=s.toks) kp;have hf:H h'.objs.size=none:=I1.hok.fresh (Qi _);have hp:∀i∈p.toList,i<vs.length:=λi hi=>by have:=Jq.mp (g.perm.mem_iff.mp hi);omega
  have I2:Inv X pins σ (upd H h'.objs.size (.lst (p.toList.map λi=>vs.getD i .non))) { s with heap:=h2 }:=
   I1.laid (t':=s.toks) (λb x e'=>k2 b x (QB (Qo e')) (Qe _ e')) (Qi _) (show ObjOk X.prog X.w _ _ _ (.lst _) from⟨by rw[Qh,Qc,g.size];exact Ys (Rk.QcW (by omega)),_,e,QjV λi hi=>Qmf rv i (hp i hi),e2⟩)
  have g':Good L.length p:=by rw[<- lp];exact g
  have ad':Adj (λi=>Rs.code (L.getD i (0,0))) p L.length:=by rw[<- lp];exact ad
  refine⟨.ref h'.objs.size,_,I2,rfl,q _ _ (p.toList.map λi=>L.getD i (0,0)) _ (JX hf) hf J7 (QkO λi hi=>(Qof ds i (hp i hi)).same (JX hf)) (QnS g') (QnR g' ad' λi j hi hj e=>?_)⟩;have bi:0<=(L.getD i (0,0)).2/\(L.getD i (0,0)).2<64:=by rw[QF,Qf hi];exact hb _ (YF _)
  have bj:0<=(L.getD j (0,0)).2/\(L.getD j (0,0)).2<64:=by rw[QF,Qf hj];exact hb _ (YF _)
  unfold Rs.code at e;have e':L.getD i (0,0)=L.getD j (0,0):=Qez (by omega) (by omega);rw[QF,QF,Qf hi,Qf hj] at e';have pw:=QZ.mp nd;rcases ZV i j with z | z | z
  ·exact absurd e' (pw i j hi hj z)
  ·exact z
  ·exact absurd e'.symm (pw j i hj hi z)
end
end L2
namespace Re
open AutoSeq1 (wpAny_loadPart')
theorem QsX{prog:Qz}{w:Ji}{A:Jb}{it t:Addr}{items:Array Value}(hh:A.handled=none)(hti:t≠it) :
  Draws prog w A it [it,t] items.size (λi x=>items[i]? = some x) (λi h=>h.IsTupleIter it t i/\h.IsTuple t items) where
 live:=λi h st=>by
  obtain⟨⟨o,ho,_⟩,_⟩:=st;exact⟨o,ho⟩
 frame:=λi h h' st k=>by
  obtain⟨⟨o,ho,c⟩,⟨o2,h2,c2⟩⟩:=st;exact⟨⟨o,k it (by simp) _ ho,c⟩,⟨o2,k t (by simp) _ h2,c2⟩⟩
 item:=λi s Q E hi st hQ=>by
  refine Rz.QeM st.1 st.2 (x:=items[i]) (by simp[hi]) λh' hit' hs'=>?_
  refine hQ _ h' s.toks (by simp[hi]) ⟨hit',?_⟩ hs';obtain⟨o2,h2,c2⟩:=st.2;exact⟨o2,(hs'.2 t hti).trans h2,c2⟩
 done:=λs Q E st hE=>Rz.Qjq hh st.1 st.2 (by simp) hE
theorem QlD(l:Addr)(items:Array Value)(n:Nat)(dct:Option Addr)(sl:Array (Option Value)) :
  Meets (Yz.«enumerate.__new__» ⟨[.type "enumerate",.ref l],[]⟩) (λ_ R s=>s.heap.get? l=some { cls:=.type "tuple",dict:=dct,data:=.seq items n,slots:=sl } /\
   R (.ok (.ret (.ref (s.heap.push { cls:=.type "tuple_iterator",data:=.fields #[.ref l,.int 0 0] }).objs.size)))
    { s with heap:=(s.heap.push { cls:=.type "tuple_iterator",data:=.fields #[.ref l,.int 0 0] }).push { cls:=.type "enumerate",data:=.fields #[.none,.bool false,.ref s.heap.objs.size,rawInt 0,.none,.none] } }):=
 .of_wp λprog w A R s h=>by
  obtain⟨hp,g,d,tk,os⟩:=s;obtain⟨hl,h⟩:=h;have hsub:=sub_enumerate;have hL:QlZ (QlV ⟨hp,g,d,tk,os⟩) l items:=⟨_,hl,rfl,n,rfl⟩
  wp_walk using QaV hl
  refine wpAny_stack_any λst=>Qb ?_
  split
  ·rename_i c _ _ _ _ _
   cases(c == ZM "enumerate")
   ·wp_walk using QaV hl,Y8 hL
    exact⟨_,rfl,h⟩
   ·wp_walk using QaV hl,Y8 hL
    exact⟨_,rfl,h⟩
  ·wp_walk using QaV hl,Y8 hL
   exact⟨_,rfl,h⟩
theorem QlP{prog:Qz}{w:Ji}{A:Jb}{E:Value->Shared->Prop}{s:Shared}{l:Addr}{items:Array Value}{Q:Value->Shared->Prop}(hL:s.heap.IsTuple l items)
  (h:∀h',IsEnum h' (s.heap.objs.size+1) s.heap.objs.size 0 .none->h'.IsTupleIter s.heap.objs.size l 0->(∀b o,s.heap.get? b=some o->h'.get? b=some o)->Q (.ref (s.heap.objs.size+1)) { s with heap:=h' }) :
  wpAny (model prog w) A (call (.type "enumerate") [.ref l]) Q E s:=by
 obtain⟨⟨c,dct,dt,sl⟩,hl,hc,n,hd⟩:=hL
 replace hc:c=.type "tuple" := hc
 replace hd:dt=.seq items n:=hd
 subst hc hd;refine callType_new F.called_enumerate (by decide) (F.typeCall_enumerate_1 _) (F.newCall_enumerate_1 _) (λobj=>F.args_object_init_2 obj _) F.entry_enumerate_new (QlD l items n dct sl) ⟨hl,?_⟩;have hz:(s.heap.push { cls:=.type "tuple_iterator",data:=.fields #[.ref l,.int 0 0] }).objs.size=s.heap.objs.size+1:=Zp ..;show _/\_;rw[hz];have he:=Qu (s.heap.push { cls:=.type "tuple_iterator",data:=.fields #[.ref l,.int 0 0] }) (o:={ cls:=.type "enumerate",data:=.fields #[.none,.bool false,.ref s.heap.objs.size,rawInt 0,.none,.none] }) rfl;rw[hz] at he;exact⟨⟨_,he,rfl⟩,h _ he ⟨_,Qe _ (Qu _ rfl),rfl,rfl⟩ λb o x=>Qe _ (Qe _ x)⟩
end Re
namespace L2
def Iet(l:Addr):It:=
 ⟨λi H=>∃xs x,H l=some (.tup xs)/\xs[i]? = some x,
  λi H v H'=>∃p x,H p=none/\(∀xs,H l=some (.tup xs)->xs[i]? = some x)/\v=.ref p/\H'=upd H p (.tup [.int (i:Nat),x]),
  λi H=>∃xs,H l=some (.tup xs)/\xs.length=i⟩
theorem Qlh{P:Qz}{w:Ji}{K:PySem.W.Frag}{elts:List Q3}{x1}{tpos:Pos}{e it l:Addr}(hne:e≠it) :
  Turn P w K (.Tuple elts x1 tpos) (Iet l) [e,it] e (λi h=>(∃old,IsEnum h e it (i:Nat) old)/\h.IsTupleIter it l i) where
 mem:=by simp
 obj:=λi h st b hb=>by
  obtain⟨⟨old,a1⟩,⟨o2,a2,_,d2⟩⟩:=st;simp only[Qp,QV,or_false] at hb;rcases hb with rfl | rfl
  ·exact⟨_,a1,λv q=>nomatch q⟩
  ·exact⟨_,a2,λv q=>by rw[d2] at q;cases q⟩
 keep:=λi h h' st k=>by
  obtain⟨⟨old,a1⟩,⟨o2,a2,c2⟩⟩:=st;exact⟨⟨old,k e (by simp) _ a1⟩,o2,k it (by simp) _ a2,c2⟩
 item:=by
  intro X hP hw hK hc i pins s σ H E I hf st hg;subst hP hw hK;obtain⟨xs,x,h1,hx⟩:=hg;obtain⟨⟨old,a1⟩,a2⟩:=st;obtain⟨its,r1,p1,_⟩:=I.tuple (SqT.of h1);obtain⟨u,hu,ru⟩:=r1.get hx;have nel:e≠l:=λz=>by have q:=(hf e (by simp)).1;rw[z,h1] at q;cases q
  have nil:l≠it:=λz=>by have q:=(hf it (by simp)).1;rw[<- z,h1] at q;cases q
  have hi:i<its.toArray.size:=by
   have:=(QD.mp hu).1
   simpa using this
  refine wpAny_pyNext_enum_itemD (Re.QsX (A:=X.A.in1) (t:=l) (I.ok.hd hc) nil) a1 ⟨a2,p1⟩ hi hne (by simp[hne,nel]) λy h' tk hy o' l' tp sz kp=>?_
  have ey:y=u:=by
   have e1:its.toArray[i]? = some u:=by simpa using hu
   rw[e1] at hy;exact(Qm hy).symm
  subst ey;obtain⟨l',tq⟩:=l';have fr:H s.heap.objs.size=none:=I.hok.fresh (Qi _);have n1:e≠s.heap.objs.size:=QB (Qo a1);have n2:it≠s.heap.objs.size:=by
   obtain⟨o2,a2,_⟩:=a2;exact QB (Qo a2)
  refine⟨_,rfl,QlU o' λh2 e2 s2=>?_⟩;have I1:Inv X pins σ (upd H s.heap.objs.size (.tup [.int (i:Nat),x])) { s with heap:=h2,toks:=tk+1 }:=by
   refine I.turnedNew (ch:=[e,it]) hf (λb v hb q=>?_) (Qi _) ⟨by show 2<=sizeLine;decide,[.int (i:Nat) tk,y],.cons ⟨_,rfl⟩ (.cons ru .nil),?_⟩
   ·simp only[Qp,QV,or_false,not_or] at hb;exact s2.extBut _ _ hb.1 (kp b v hb.1 hb.2 q)
   ·exact⟨_,s2.extBut _ _ n1.symm tp,rfl,0,rfl⟩
  refine⟨.ref s.heap.objs.size,_,I1,rfl,⟨_,x,fr,λxs' q=>?_,rfl,rfl⟩,⟨⟨y,e2⟩,?_⟩,λb hb=>?_⟩
  ·rw[h1] at q;cases q;exact hx
  ·exact l'.extBut s2.extBut hne.symm
  ·simp only[Qp,QV,or_false] at hb;rcases hb with rfl | rfl
   ·rw[Zk n1];exact(hf _ (by simp)).1
   ·rw[Zk n2];exact(hf _ (by simp)).1
 done:=by
  intro X hP hw hK hc i pins s σ H E I hf st hg;subst hP hw hK;obtain⟨xs,h1,he⟩:=hg;obtain⟨⟨old,a1⟩,a2⟩:=st;obtain⟨its,r1,p1,_⟩:=I.tuple (SqT.of h1);have l1:=r1.length;have nel:e≠l:=λz=>by have q:=(hf e (by simp)).1;rw[z,h1] at q;cases q
  have nil:l≠it:=λz=>by have q:=(hf it (by simp)).1;rw[<- z,h1] at q;cases q
  have e0:its.toArray.size=i:=by rw[Ql];omega
  have D:=Re.QsX (prog:=X.prog) (w:=X.w) (A:=X.A.in1) (t:=l) (items:=its.toArray) (I.ok.hd hc) nil;rw[e0] at D;refine wpAny_pyNext_enum_endD D a1 ⟨a2,p1⟩ λh' kp=>⟨rfl,I.turnedAll (t':=s.toks) (ch:=[e,it]) hf λb v hb q=>?_⟩
  simp only[Qp,QV,or_false,not_or] at hb;exact kp b v hb.2 q
 self:=λ_ _ _ _ _ st h=>by
  obtain⟨⟨old,a1⟩,_⟩:=st;exact QcP a1 h
def Qx1(ta:TA):TI:=λσ H R=>ta σ H λvs H1=>∃l xs,vs=[.ref l]/\H1 l=some (.tup xs)/\R (Iet l) H1
section
variable{X:Cx}
theorem QpM{a:Q3}{elts:List Q3}{x1}{tpos:Pos}{ta:TA}{p pos:Pos}(hg:Gl X "enumerate")(hm:X.mg "enumerate" = none)(ha:PA X [a] ta)(hs:starEach [a] X.env=[(false,eval a X.env)]:=by rfl) :
  PI X (.Tuple elts x1 tpos) (.Call (.Name "enumerate" p) [a] [] pos) (Qx1 ta):=by
 intro pins s σ H R I h;refine Call_ (QcN I hg hm Qiu (JM (thn (ha pos pins s σ H _ I h) λus s1 ⟨vs,H1,I1,r1,q1⟩=>?_) hs rfl));obtain⟨l,xs,e,h1,q⟩:=q1;subst e;obtain⟨u,rfl,ru⟩:=vals1 r1;cases(show u=QK l from ru);obtain⟨its,w1,p1,_⟩:=I1.tuple (SqT.of h1);refine Re.QlP p1 λh' e1 i1 kp=>?_
 refine QcP (s:={ s1 with heap:=h' }) e1 ?_
 refine⟨s1.heap.objs.size+1,_,_,_,H1,rfl,I1.kept (t':=s1.toks) kp,Qlh (by show ¬(s1.heap.objs.size+1=s1.heap.objs.size);omega),⟨⟨_,e1⟩,i1⟩,λb hb=>?_,q⟩;have hb':s1.heap.objs.size<=b:=by
  simp only[Qp,QV,or_false] at hb;rcases hb with rfl | rfl<;>omega
 exact I1.fpOk hb' (I1.hok.fresh hb')
end
end L2
namespace Rk
open L2
end Rk
namespace L2
section
variable{X:Cx}{pins:List (Addr×Obj)}{σ:St}{H:Hp}
theorem QcJ{M:List Str}{scope:QaR}{fp:List Addr}{σ':St}{H3:Hp}{s3 s':Shared}{D:Addr}{i:Nat}{y:Str}{py:Pos}{Mo:Qzm}{A:Jb}{E:Value->Shared->Prop}{Q:Value->Shared->Prop}
  (I3:Inv X pins σ H3 s3)(f3:∀b∈fp,FpOk X pins H3 b)(J:Inv (blk X M scope (Qcz X.env scope.names []) fp s3 H3 s3.heap.objs.size) [] σ' H s')
  (hN:X.N.Nodup)(hi:X.N[i]? = some y)(hl:X.env.scope.names.lookup y=some .local)(hq:∀s2,Inv X pins (σ.set i (some (.ref D))) H s2->Q .none s2) :
  wpAny Mo A (assign (.Name y py) X.env (.ref D)) (λ_ s2=>∃m,s2.heap.Ns s3.heap.objs.size m/\∀h',Qay s3.heap.objs.size s2.heap h'->Q .none { s2 with heap:=h' }) E s':=by
 have J0:Inv X pins σ H s':=QoD I3 f3 J (Heap.SameBut.refl ..);obtain⟨m,hn,_⟩:=J.loc;have hC:H s3.heap.objs.size=none:=J.free;have lt:X.env.locals<s3.heap.objs.size:=I3.lt;refine Qy7 (QhR J0 hN hi (Jf hl) (show RelV (.ref D) (.ref D) from rfl) (λs2 J2 ⟨a,sb,ha⟩=>?_) (.inr hl));have ea:a=X.env.locals∨X.env.cells.lookup y=some a:=ha;have na:s3.heap.objs.size≠a:=by
  rcases ea with z | z
  ·rw[z];exact QaA lt
  ·obtain⟨v,o,ho,_⟩:=I3.cell y a z;exact QaA (Qo ho)
 refine⟨m,hn.sameBut sb na,λh' hs=>hq _ ?_⟩;refine J2.turned (t':=s2.toks) (it:=s3.heap.objs.size) (λb o hb e=>hs.extBut b o hb e) hC (QaA lt) (.inr I3.sz) (λx c e z=>?_) λp hp z=>?_
 ·obtain⟨v,o,ho,_⟩:=I3.cell x c e;exact absurd (z ▸ Qo ho) (Qad _)
 ·have e:=(I3.pin p hp).1;exact absurd (z ▸ Qo e) (Qad _)
end
theorem QpK{X:Cx}{M:List Str}{cap:List (Option Nat)}{elt tg iter:Q3}{ifs:List Q3}{scope:QaR}{pos:Pos}{wi:TI}{g:TG}{tc:TT}{te:TE}{i:Nat}{y:Str}{py spos:Pos}(hN:X.N.Nodup)(hiy:X.N[i]? = some y)(hly:X.env.scope.names.lookup y=some .local)(hc:X.calm=true)(ok:Qhh X.N X.env.scope M scope cap=true)
  (hi:PI X tg iter wi)(hb:∀cl ex s3 H3 C,PG (blk X M scope cl ex s3 H3 C) tg g/\PTs (blk X M scope cl ex s3 H3 C) ifs tc/\PE (blk X M scope cl ex s3 H3 C) elt te)
  (hs:∀x,foldedSetIterable iter X.env x=pure x:=by intro _;rfl)(hsw:swapsWith (.ListComp elt [⟨tg,iter,ifs,0⟩] scope pos) (some (.Name y py)) spos.line X.env=pure true:=by rfl):PS X (.Assign [.Name y py] (.ListComp elt [⟨tg,iter,ifs,0⟩] scope pos) spos) (Qsm (tComp cap wi g tc te) (Qg7 i)):=by
 intro pins s σ H D I h;have c:=CapOk.of ok;rw[Qta _ _ _ _ hsw];refine wpAny_bind (wpAny_standAt (wpAny_bind ?_));show wpAny _ X.A (do let _ <- comprehension (.ListComp elt [⟨tg,iter,ifs,0⟩] scope pos) scope X.env _ (newList []) false (eval iter X.env) (some (assign (.Name y py) X.env))) _ _ s;refine wpAny_bind (wpAny_mono (QcQ (use:=some (assign (.Name y py) X.env)) (Q:=λ_ s'=>SP X pins D .next s') rfl hs (QjF (I.ok.cells c)) c.kind c.loc ?_) (λ_ s' hq=>Qb (Qb hq)) λ_ _ e=>e);refine thn (hi pins s σ H _ I h) λv s1 h1=>thn h1 λitv s2 h2=>?_
 obtain⟨it,fp,tn,J,H2,e,I2,T,st2,f2,hW⟩:=h2;subst e;refine JJ (QeS c.cell (by intro y hy;simp at hy) (λh₁ hns₁ hsb₁=>?_) c.kind);have I3:Inv X pins σ (upd H2 s2.heap.objs.size (.lst [])) { s2 with heap:=s2.heap.push { cls:=.type "list",data:=.seq ([]:List Value).toArray } }:=I2.lnew (t':=s2.toks) (ys:=[]) .nil (Qr _);have lt2:∀b∈fp,b<s2.heap.objs.size:=λb hb=>by obtain⟨o,e,_⟩:=T.obj _ _ st2 b hb;exact Qo e
 have f3:∀b∈fp,FpOk X pins (upd H2 s2.heap.objs.size (.lst [])) b:=λb hb=>(f2 b hb).upd (QB (lt2 b hb))
 generalize hs3:({ s2 with heap:=s2.heap.push { cls:=.type "list",data:=.seq ([]:List Value).toArray } }:Shared)=s3 at I3;have e3:s3.heap=s2.heap.push { cls:=.type "list",data:=.seq ([]:List Value).toArray }:=by rw[<- hs3]
 have z3:s3.heap.objs.size=s2.heap.objs.size+1:=by rw[e3,Zp]
 have hk:∀b o,s3.heap.get? b=some o->h₁.get? b=some o:=λb o e=>hsb₁.extBut b o (by
  have:=Qo e;rw[e3] at this;exact QB this) (Qe _ (e3 ▸ e))
 have hn₁:h₁.Ns s3.heap.objs.size λ_=>none:=by rw[e3];exact hns₁
 have B:=Qfx (t4:=s3.toks+([]:List (Str×Value)).length) (fp:=fp) I3 c f3 (λb hb=>by rw[z3];exact Yq (lt2 b hb)) hn₁ hk;have st4:tn 0 h₁:=T.keep _ _ _ st2 λb hb o e=>hk b o (by rw[e3];exact Qe _ e)
 have fp4:∀b∈fp,FpOk (blk X M scope (Qcz X.env scope.names []) fp s3 (upd H2 s2.heap.objs.size (.lst [])) s3.heap.objs.size) [] (upd H2 s2.heap.objs.size (.lst [])) b:=λb hb=>by
  refine⟨(f3 b hb).1,(B.ok.exf b hb).1,B.ok.exfs b hb,.inl hb,(B.ok.exf b hb).2,λp hp=>(nomatch hp)⟩
 obtain⟨hg,ht,he⟩:=hb (Qcz X.env scope.names []) fp s3 (upd H2 s2.heap.objs.size (.lst [])) s3.heap.objs.size;have loop:codeAny (model X.prog X.w) X.A (.compLoop (.ListComp elt [⟨tg,iter,ifs,0⟩] scope pos) 0 (.ref it) (.ref s2.heap.objs.size) (compEnvC scope (Qcz X.env scope.names []) s3.heap.objs.size X.env))
   (compPost (model X.prog X.w) X.A X.xe (some (assign (.Name y py) X.env)) (λ_ s'=>SP X pins D .next s') (.ref s2.heap.objs.size) s3.heap.objs.size) { s3 with heap:=h₁,toks:=s3.toks+([]:List (Str×Value)).length }:=by
  refine Qdy (Y:=blk X M scope (Qcz X.env scope.names []) fp s3 (upd H2 s2.heap.objs.size (.lst [])) s3.heap.objs.size) (gens:=[⟨tg,iter,ifs,0⟩]) (d:=0) hc T st4 fp4
   (λQ E s h=>QjW Q E s h) (λx u r=>Qhn rfl hg ht (λσ4=>Qho rfl he) x u r) B (hW _ (I2.hok.fresh (Qi _))) λs' H' I' q=>?_
  exact QcJ (Q:=λ_ s'=>SP X pins D .next s') I3 f3 I' hN hiy hly λs2' J2=>⟨_,H',J2,q⟩
 exact QdJ loop (T.self _ 0 _ _ _ st4 loop)
theorem Qm1{X:Cx}{M:List Str}{cap:List (Option Nat)}{elt tg iter tg2 iter2:Q3}{ifs ifs2:List Q3}{scope:QaR}{pos:Pos}{wi wi2:TI}{g g2:TG}{tc tc2:TT}{te:TE}{i:Nat}{y:Str}{py spos:Pos}(hN:X.N.Nodup)(hiy:X.N[i]? = some y)(hly:X.env.scope.names.lookup y=some .local)(hc:X.calm=true)(ok:Qhh X.N X.env.scope M scope cap=true)
  (hi:PI X tg iter wi)(hb:∀cl ex s3 H3 C,PG (blk X M scope cl ex s3 H3 C) tg g/\PTs (blk X M scope cl ex s3 H3 C) ifs tc/\PI (blk X M scope cl ex s3 H3 C) tg2 iter2 wi2/\PG (blk X M scope cl ex s3 H3 C) tg2 g2/\PTs (blk X M scope cl ex s3 H3 C) ifs2 tc2/\PE (blk X M scope cl ex s3 H3 C) elt te)
  (hs:∀x,foldedSetIterable iter X.env x=pure x:=by intro _;rfl)(hs2:∀env x,foldedSetIterable iter2 env x=pure x:=by intro _ _;rfl)(hsw:swapsWith (.ListComp elt [⟨tg,iter,ifs,0⟩,⟨tg2,iter2,ifs2,0⟩] scope pos) (some (.Name y py)) spos.line X.env=pure true:=by rfl):PS X (.Assign [.Name y py] (.ListComp elt [⟨tg,iter,ifs,0⟩,⟨tg2,iter2,ifs2,0⟩] scope pos) spos) (Qsm (Qsk cap wi g tc wi2 g2 tc2 te) (Qg7 i)):=by
 intro pins s σ H D I h;have c:=CapOk.of ok;rw[Qta _ _ _ _ hsw];refine wpAny_bind (wpAny_standAt (wpAny_bind ?_));show wpAny _ X.A (do let _ <- comprehension (.ListComp elt [⟨tg,iter,ifs,0⟩,⟨tg2,iter2,ifs2,0⟩] scope pos) scope X.env _ (newList []) false (eval iter X.env) (some (assign (.Name y py) X.env))) _ _ s;refine wpAny_bind (wpAny_mono (QcQ (use:=some (assign (.Name y py) X.env)) (Q:=λ_ s'=>SP X pins D .next s') rfl hs (QjF (I.ok.cells c)) c.kind c.loc ?_) (λ_ s' hq=>Qb (Qb hq)) λ_ _ e=>e);refine thn (hi pins s σ H _ I h) λv s1 h1=>thn h1 λitv s2 h2=>?_
 obtain⟨it,fp,tn,J,H2,e,I2,T,st2,f2,hW⟩:=h2;subst e;refine JJ (QeS c.cell (by intro y hy;simp at hy) (λh₁ hns₁ hsb₁=>?_) c.kind);have I3:Inv X pins σ (upd H2 s2.heap.objs.size (.lst [])) { s2 with heap:=s2.heap.push { cls:=.type "list",data:=.seq ([]:List Value).toArray } }:=I2.lnew (t':=s2.toks) (ys:=[]) .nil (Qr _);have lt2:∀b∈fp,b<s2.heap.objs.size:=λb hb=>by obtain⟨o,e,_⟩:=T.obj _ _ st2 b hb;exact Qo e
 have f3:∀b∈fp,FpOk X pins (upd H2 s2.heap.objs.size (.lst [])) b:=λb hb=>(f2 b hb).upd (QB (lt2 b hb))
 generalize hs3:({ s2 with heap:=s2.heap.push { cls:=.type "list",data:=.seq ([]:List Value).toArray } }:Shared)=s3 at I3;have e3:s3.heap=s2.heap.push { cls:=.type "list",data:=.seq ([]:List Value).toArray }:=by rw[<- hs3]
 have z3:s3.heap.objs.size=s2.heap.objs.size+1:=by rw[e3,Zp]
 have hk:∀b o,s3.heap.get? b=some o->h₁.get? b=some o:=λb o e=>hsb₁.extBut b o (by
  have:=Qo e;rw[e3] at this;exact QB this) (Qe _ (e3 ▸ e))
 have hn₁:h₁.Ns s3.heap.objs.size λ_=>none:=by rw[e3];exact hns₁
 have B:=Qfx (t4:=s3.toks+([]:List (Str×Value)).length) (fp:=fp) I3 c f3 (λb hb=>by rw[z3];exact Yq (lt2 b hb)) hn₁ hk;have st4:tn 0 h₁:=T.keep _ _ _ st2 λb hb o e=>hk b o (by rw[e3];exact Qe _ e)
 have fp4:∀b∈fp,FpOk (blk X M scope (Qcz X.env scope.names []) fp s3 (upd H2 s2.heap.objs.size (.lst [])) s3.heap.objs.size) [] (upd H2 s2.heap.objs.size (.lst [])) b:=λb hb=>by
  refine⟨(f3 b hb).1,(B.ok.exf b hb).1,B.ok.exfs b hb,.inl hb,(B.ok.exf b hb).2,λp hp=>(nomatch hp)⟩
 obtain⟨hg,ht,hi2,hg2,ht2,he⟩:=hb (Qcz X.env scope.names []) fp s3 (upd H2 s2.heap.objs.size (.lst [])) s3.heap.objs.size;have loop:codeAny (model X.prog X.w) X.A (.compLoop (.ListComp elt [⟨tg,iter,ifs,0⟩,⟨tg2,iter2,ifs2,0⟩] scope pos) 0 (.ref it) (.ref s2.heap.objs.size) (compEnvC scope (Qcz X.env scope.names []) s3.heap.objs.size X.env))
   (compPost (model X.prog X.w) X.A X.xe (some (assign (.Name y py) X.env)) (λ_ s'=>SP X pins D .next s') (.ref s2.heap.objs.size) s3.heap.objs.size) { s3 with heap:=h₁,toks:=s3.toks+([]:List (Str×Value)).length }:=by
  refine Qdy (Y:=blk X M scope (Qcz X.env scope.names []) fp s3 (upd H2 s2.heap.objs.size (.lst [])) s3.heap.objs.size) (gens:=[⟨tg,iter,ifs,0⟩,⟨tg2,iter2,ifs2,0⟩]) (d:=0) hc T st4 fp4
   (λQ E s h=>Qlg (hs2 _) Q E s h) (λx u r=>Qhn rfl hg ht (λσ4=>QoC rfl hc hi2 hg2 ht2 he) x u r) B (hW _ (I2.hok.fresh (Qi _))) λs' H' I' q=>?_
  exact QcJ (Q:=λ_ s'=>SP X pins D .next s') I3 f3 I' hN hiy hly λs2' J2=>⟨_,H',J2,q⟩
 exact QdJ loop (T.self _ 0 _ _ _ st4 loop)
end L2
namespace Rk
open L2 _root_.Rd
section
variable{X:Cx}
def QBD(X:Cx):R2:=λx y H Q=>∃dx dy,Dat H x dx/\Dat H y dy/\X.A.units+min dx.depth dy.depth<cLine/\Q (.bl (!Ju dx dy)) H
theorem Qxn:OpR X (compareOp .NotEq) (QBD X):=by
 intro pins s σ H x y v u Q I rx ry h;obtain⟨dx,dy,qx,qy,hu,q⟩:=h;obtain⟨⟨as,ra⟩,ca⟩:=Yr I.hok dx x v qx rx;obtain⟨⟨bs,rb⟩,cb⟩:=Yr I.hok dy y u qy ry;exact SeqAt.compareNe_reads ra rb ca cb hu ⟨.bl _,H,I,rfl,q⟩
end
theorem Cs.re{p p':Addr}{H:Hp}{zs:List V}(e:H p'=some (.lst zs)):∀{ps:List V}{L:List (Int×Int)},Cs p H ps L->Cs p' H ps L
 |_,_,.nil=>.nil
 |_,_,.cons ⟨d,_,ev,h⟩ t=>.cons ⟨d,(λz=>by rw[z,e] at h;cases h),ev,h⟩ (Cs.re e t)
end Rk
namespace Rk
open L2
end Rk
namespace Rx
open PySem.Calls L2
section
variable{X:Cx}{E:XK}
end
section
variable{X:Cx}{tf:TE}{fe:Q3}{pos:Pos}{e:Q3}{es:List Q3}{t:TA}{M:Addr->Sp->Prop}
end
end Rx
namespace Rk
open L2 _root_.Rd
structure GlbA (mg:Str->Option Value):Prop where
 isinstance:mg "isinstance" = none
 int:mg "int" = none
 bool:mg "bool" = none
 str:mg "str" = none
 tuple:mg "tuple" = none
 list:mg "list" = none
 all:mg "all" = none
 len:mg "len" = none
 zip:mg "zip" = none
 enumerate:mg "enumerate" = none
 range:mg "range" = none
 max:mg "max" = none
 min:mg "min" = none
 sorted:mg "sorted" = none
 sum:mg "sum" = none
 set:mg "set" = none
 any:mg "any" = none
 reversed:mg "reversed" = none
 divmod:mg "divmod" = none
def QzK(u:Nat)(neg:Bool):R2:=λx y H Q=>∃c ps ds d,y=.ref c/\H c=some (.tup ps)/\Dats H ps ds/\Dat H x d/\u+d.depth<cLine/\Q (.bl (if neg then !(ds.any λe=>Ju e d) else ds.any λe=>Ju e d)) H
theorem Qxo{X:Cx}:OpR X (compareOp .In) (QzK X.A.in1.units false):=Qxp
end Rk
namespace Rx
open PySem.Calls L2
section
variable{P:Qz}{w:Ji}{K:PySem.W.Frag}{mg:Str->Option Value}{base:Heap}
end
end Rx
namespace Rk
open L2 _root_.Rd
section
variable{X:Cx}{is js:List Nat}
end
end Rk
namespace L2
theorem Qai{h:Heap}{a:Addr}{its:Array Value}(p:PlainL h a its):h.IsList a its:=by
 obtain⟨o,n,h1,h2,_,h3⟩:=p;exact⟨o,h1,h2,n,h3⟩
structure QiC (h:Heap) (z TI TO i1 i2 t1 t2:Addr) (f:Value) (k:Nat):Prop where
 zp:Qtk h z TI TO f
 ti:IsPair h TI (.ref i1) (.ref i2)
 to:∃a b,IsPair h TO a b
 i1:h.IsListIter i1 t1 k
 i2:h.IsListIter i2 t2 k
section
variable{prog:Qz}{w:Ji}{A:Jb}{E:Value->Shared->Prop}{s:Shared}
theorem Qma{z TI TO i1 i2 t1 t2:Addr}{k:Nat}{xs ys:Array Value}{x y:Value}{Q:Option Value->Shared->Prop}(D:QyE z TI TO i1 i2 t1 t2)(Z:QiC s.heap z TI TO i1 i2 t1 t2 .none k)
  (hl1:s.heap.IsList t1 xs)(hl2:s.heap.IsList t2 ys)(hx:xs[k]? = some x)(hy:ys[k]? = some y)
  (hQ:∀h',QiC h' z TI TO i1 i2 t1 t2 (rawInt s.heap.objs.size) (k+1)->IsPair h' s.heap.objs.size x y->(∀c o,c≠z->c≠TO->c≠i1->c≠i2->s.heap.get? c=some o->h'.get? c=some o)->Q (some (.ref s.heap.objs.size)) { s with heap:=h' }) :
  wpAny (model prog w) A (pyNext (.ref z)) Q E s:=by
 obtain⟨hz,hTI,⟨a,b,hTO⟩,h1,h2⟩:=Z;exact wpAny_pyNext_zip_item D hz hTI hTO h1 h2 hl1 hl2 hx hy λh' a1 a2 a3 a4 a5 a6 a7=>hQ h' ⟨a1,a7 _ _ D.TIz D.TITO D.TIi1 D.TIi2 hTI,⟨x,y,a2⟩,a3,a4⟩ a5 a7
theorem Qpa{z TI TO i1 i2 t1 t2:Addr}{k:Nat}{xs ys:Array Value}{Q:Option Value->Shared->Prop}(hh:A.handled=none)(D:QyE z TI TO i1 i2 t1 t2)(Z:QiC s.heap z TI TO i1 i2 t1 t2 .none k)
  (hl1:s.heap.IsList t1 xs)(hl2:s.heap.IsList t2 ys)(hend:xs[k]? = none∨ys[k]? = none)
  (hQ:∀h',(∀c o,c≠z->c≠TO->c≠i1->c≠i2->s.heap.get? c=some o->h'.get? c=some o)->Q none { s with heap:=h' }):wpAny (model prog w) A (pyNext (.ref z)) Q E s:=by
 obtain⟨hz,hTI,⟨a,b,hTO⟩,h1,h2⟩:=Z;exact wpAny_pyNext_zip_end hh D hz hTI hTO h1 h2 hl1 hl2 hend hQ
theorem Qmb{t1 t2:Addr}{xs ys:Array Value}{Q:Value->Shared->Prop}(hl1:s.heap.IsList t1 xs)(hl2:s.heap.IsList t2 ys)
  (h:∀h',QiC h' (s.heap.objs.size+4) (s.heap.objs.size+2) (s.heap.objs.size+3) s.heap.objs.size (s.heap.objs.size+1) t1 t2 .none 0->(∀c o,s.heap.get? c=some o->h'.get? c=some o)->Q (.ref (s.heap.objs.size+4)) { s with heap:=h' }) :
  wpAny (model prog w) A (call (.type "zip") [.ref t1,.ref t2]) Q E s:=
 call_zip_2 hl1 hl2 λh' a1 a2 a3 a4 a5 a6 a7=>h h' ⟨a1,a2,⟨_,_,a3⟩,a4,a5⟩ a7
end
def QBr(t1 t2:Addr):It:=
 ⟨λi H=>∃xs ys x y,H t1=some (.lst xs)/\H t2=some (.lst ys)/\xs[i]? = some x/\ys[i]? = some y,
  λi H v H'=>∃p x y,H p=none/\(∀xs,H t1=some (.lst xs)->xs[i]? = some x)/\(∀ys,H t2=some (.lst ys)->ys[i]? = some y)/\v=.ref p/\H'=upd H p (.tup [x,y]),
  λi H=>∃xs ys,H t1=some (.lst xs)/\H t2=some (.lst ys)/\(xs.length<=i∨ys.length<=i)⟩
theorem Qmh{P:Qz}{w:Ji}{K:PySem.W.Frag}{elts:List Q3}{x1}{tpos:Pos}{z TI TO i1 i2 t1 t2:Addr}(D:QyE z TI TO i1 i2 t1 t2) :
  Turn P w K (.Tuple elts x1 tpos) (QBr t1 t2) [z,TI,TO,i1,i2] z (λi h=>QiC h z TI TO i1 i2 t1 t2 .none i) where
 mem:=by simp
 obj:=λi h st b hb=>by
  obtain⟨a1,a2,⟨_,_,a3⟩,⟨o4,a4,_,d4⟩,⟨o5,a5,_,d5⟩⟩:=st;simp only[Qp,QV,or_false] at hb;rcases hb with rfl | rfl | rfl | rfl | rfl
  ·exact⟨_,a1,λv q=>nomatch q⟩
  ·exact⟨_,a2,λv q=>nomatch q⟩
  ·exact⟨_,a3,λv q=>nomatch q⟩
  ·exact⟨_,a4,λv q=>by rw[d4] at q;cases q⟩
  ·exact⟨_,a5,λv q=>by rw[d5] at q;cases q⟩
 keep:=λi h h' st k=>by
  obtain⟨a1,a2,⟨a,b,a3⟩,a4,a5⟩:=st;exact⟨k z (by simp) _ a1,k TI (by simp) _ a2,⟨a,b,k TO (by simp) _ a3⟩,a4.at λo e=>k i1 (by simp) o e,a5.at λo e=>k i2 (by simp) o e⟩
 item:=by
  intro X hP hw hK hc i pins s σ H E I hf st hg;subst hP hw hK;obtain⟨xs,ys,x,y,h1,h2,hx,hy⟩:=hg;obtain⟨its1,r1,p1,_⟩:=I.list (SqL.of h1);obtain⟨its2,r2,p2,_⟩:=I.list (SqL.of h2);obtain⟨u1,hu1,ru1⟩:=r1.get hx;obtain⟨u2,hu2,ru2⟩:=r2.get hy;refine Qma D st (Qai p1) (Qai p2) (by simpa using hu1) (by simpa using hu2) λh' st' tp kp=>?_
  have hlt:∀b∈[z,TI,TO,i1,i2],b≠s.heap.objs.size:=λb hb=>by
   obtain⟨a1,a2,⟨_,_,a3⟩,⟨o4,a4,_,d4⟩,⟨o5,a5,_,d5⟩⟩:=st;simp only[Qp,QV,or_false] at hb;rcases hb with rfl | rfl | rfl | rfl | rfl
   ·exact QB (Qo a1)
   ·exact QB (Qo a2)
   ·exact QB (Qo a3)
   ·exact QB (Qo a4)
   ·exact QB (Qo a5)
  have fr:H s.heap.objs.size=none:=I.hok.fresh (Qi _);refine⟨_,rfl,Ql1 st'.zp λh2' z2 s2=>?_⟩;have I1:Inv X pins σ (upd H s.heap.objs.size (.tup [x,y])) { s with heap:=h2',toks:=s.toks }:=by
   refine I.turnedNew (ch:=[z,TI,TO,i1,i2]) hf (λb u hb e=>?_) (Qi _) ⟨by show 2<=sizeLine;decide,[u1,u2],.cons ru1 (.cons ru2 .nil),?_⟩
   ·simp only[Qp,QV,or_false,not_or] at hb;exact s2.extBut _ _ hb.1 (kp b u hb.1 hb.2.2.1 hb.2.2.2.1 hb.2.2.2.2 e)
   ·exact⟨_,s2.extBut _ _ (hlt z (by simp)).symm tp,rfl,0,rfl⟩
  refine⟨.ref s.heap.objs.size,_,I1,rfl,⟨_,x,y,fr,λxs' e=>?_,λys' e=>?_,rfl,rfl⟩,?_,λb hb=>?_⟩
  ·rw[h1] at e;cases e;exact hx
  ·rw[h2] at e;cases e;exact hy
  ·obtain⟨a1,a2,⟨a,b,a3⟩,a4,a5⟩:=st';exact⟨z2,s2.extBut _ _ D.TIz a2,⟨a,b,s2.extBut _ _ D.TOz a3⟩,a4.extBut s2.extBut D.i1z,a5.extBut s2.extBut D.i2z⟩
  ·rw[Zk (hlt b hb)];exact(hf b hb).1
 done:=by
  intro X hP hw hK hc i pins s σ H E I hf st hg;subst hP hw hK;obtain⟨xs,ys,h1,h2,he⟩:=hg;obtain⟨its1,r1,p1,_⟩:=I.list (SqL.of h1);obtain⟨its2,r2,p2,_⟩:=I.list (SqL.of h2);have l1:=r1.length;have l2:=r2.length;refine Qpa (I.ok.hd hc) D st (Qai p1) (Qai p2) ?_ λh' kp=>⟨rfl,I.turnedAll (t':=s.toks) (ch:=[z,TI,TO,i1,i2]) hf λb u hb e=>?_⟩
  ·rcases he with q | q
   ·exact .inl (by simp;omega)
   ·exact .inr (by simp;omega)
  ·simp only[Qp,QV,or_false,not_or] at hb;exact kp b u hb.1 hb.2.2.1 hb.2.2.2.1 hb.2.2.2.2 e
 self:=λ_ _ _ _ _ st h=>QdB st.zp h
section
variable{X:Cx}
theorem QlR(n t1 t2:Nat)(h1:t1<n)(h2:t2<n):QyE (n+4) (n+2) (n+3) n (n+1) t1 t2 where
 TIz:=by show ¬(n+2=n+4);omega
 TOz:=by show ¬(n+3=n+4);omega
 i1z:=by show ¬(n=n+4);omega
 i2z:=by show ¬(n+1=n+4);omega
 TITO:=by show ¬(n+2=n+3);omega
 TIi1:=by show ¬(n+2=n);omega
 TIi2:=by show ¬(n+2=n+1);omega
 TOi1:=by show ¬(n+3=n);omega
 TOi2:=by show ¬(n+3=n+1);omega
 i12:=by show ¬(n=n+1);omega
 l1z:=by show ¬(t1=n+4);omega
 l1TO:=by show ¬(t1=n+3);omega
 l1i1:=by show ¬(t1=n);omega
 l1i2:=by show ¬(t1=n+1);omega
 l2z:=by show ¬(t2=n+4);omega
 l2TO:=by show ¬(t2=n+3);omega
 l2i1:=by show ¬(t2=n);omega
 l2i2:=by show ¬(t2=n+1);omega
def QAj(ta:TA):TI:=λσ H R=>ta σ H λvs H1=>∃t1 t2 xs ys,vs=[.ref t1,.ref t2]/\H1 t1=some (.lst xs)/\H1 t2=some (.lst ys)/\R (QBr t1 t2) H1
theorem Qoz:bootBuiltins "zip" = some (.type "zip"):=by decide +kernel
theorem Qt2{a b:Q3}{elts:List Q3}{x1}{tpos:Pos}{ta:TA}{p pos:Pos}(hg:Gl X "zip")(hm:X.mg "zip" = none)(ha:PA X [a,b] ta)(hs:starEach [a,b] X.env=[(false,eval a X.env),(false,eval b X.env)]:=by rfl)(hs2:starEach [b] X.env=[(false,eval b X.env)]:=by rfl) :
  PI X (.Tuple elts x1 tpos) (.Call (.Name "zip" p) [a,b] [] pos) (QAj ta):=by
 intro pins s σ H R I h;refine Call_ (QcN I hg hm Qoz (JM (thn (ha pos pins s σ H _ I h) λus s1 ⟨vs,H1,I1,r1,q1⟩=>?_) (by rw[hs,hs2]) (by rw[hs2];rfl)));obtain⟨t1,t2,xs,ys,e,h1,h2,q⟩:=q1;subst e;obtain⟨u,v,rfl,ru,rv⟩:=vals2 r1;cases(show u=QK t1 from ru);cases(show v=QK t2 from rv);obtain⟨its1,w1,p1,_⟩:=I1.list (SqL.of h1);obtain⟨its2,w2,p2,_⟩:=I1.list (SqL.of h2);have n1:t1<s1.heap.objs.size:=I1.hok.lt h1;have n2:t2<s1.heap.objs.size:=I1.hok.lt h2;refine Qmb (Qai p1) (Qai p2) λh' st kp=>?_
 refine QdB (s:={ s1 with heap:=h' }) st.zp ?_
 have D:=QlR s1.heap.objs.size t1 t2 n1 n2;refine⟨s1.heap.objs.size+4,_,_,_,H1,rfl,I1.kept (t':=s1.toks) kp,Qmh D,st,λb hb=>?_,q⟩;have hb':s1.heap.objs.size<=b:=by
  simp only[Qp,QV,or_false] at hb;rcases hb with rfl | rfl | rfl | rfl | rfl<;>omega
 exact I1.fpOk hb' (I1.hok.fresh hb')
end
def QwE(K:PySem.W.Frag):List V->Hp->VK->Prop:=λxs H Q=>∃p ys,xs=[.ref p]/\(SqL K H p ys∨SqT K H p ys)/\Q (.int ys.length) H
theorem Qs4:bootBuiltins "sum" = some (.builtin "sum"):=by decide +kernel
theorem bt_set:bootBuiltins "set" = some (.type "set"):=by decide +kernel
theorem Qfw:bootBuiltins "sorted" = some (.builtin "sorted"):=by decide +kernel
def Qwy(K:PySem.W.Frag):List V->Hp->VK->Prop:=λxs H Q=>∃(p:Addr)(ns:List Int),xs=[.ref p]/\SqL K H p (ns.map V.int)/\Q (.int ns.sum) H
def CMulB(i j:Int):Prop:=∃k:Nat,k<=1000000/\i.natAbs<2^k/\j.natAbs<2^k
theorem QoE{i:Int}{k:Nat}(h:i.natAbs<2^k):Zu i<=k:=by
 unfold Zu;split
 ·exact Qr _
 ·rename_i z
  have hz:i.natAbs≠0:=by
   intro q;apply z
   have:i=0:=by omega
   subst this;rfl
  have:=(Nat.log2_lt hz).mpr h;omega
theorem CMulB.ok{i j:Int}(h:CMulB i j):IntMulOk i j:=by
 obtain⟨k,hk,h1,h2⟩:=h;have a:=QoE h1;have b:=QoE h2;unfold IntMulOk;have c:QgB (Zu i+Zu j:Nat)=false:=by
  unfold QgB;rw[decide_eq_false];have:bitsLine=134217728:=by decide +kernel
  rw[this];omega
 intro z;rw[JS] at z;have z2:=z.2;have e:((Zu i+Zu j:Nat):Int)=(Zu i:Int)+(Zu j:Int):=by omega
 rw[e] at c;rw[c] at z2;cases z2
section
variable{X:Cx}
theorem QuB:OpR X (binaryOp .Mult) (rI CMulB λi j=>.int (i*j)):=opI λ_ _ _ _ _ _ _ hc q=>mul_int q hc.ok
theorem QrJ:QBp X (QyX X.K):=by
 intro pins s σ H o i ov iv Q I ro ri h;obtain⟨p,xs,k,z,rfl,rfl,hq,he,q⟩:=h;cases ro;obtain⟨t,rfl⟩:=ri;obtain⟨its,r,pl,hz⟩:=I.list hq;obtain⟨j,h1,h2,h3,h4,h5⟩:=QjL he;obtain⟨w,ew,rw'⟩:=r.get h2;have hl:=r.length;have hn:=Qge;have fin:EP X pins σ Q w s:=⟨z,H,I,rw',q⟩;by_cases h0:0<=k
 ·have hj:k.toNat=j:=by
   rw[Qk4 h0 h5] at h1;exact Qm h1
  exact wpAny_getItem_list pl.isList h0 (by omega) (by rw[hj];simpa using ew) fin
 ·have hj:(k+(its.toArray.size:Int)).toNat=j:=by
   rw[QiD (by omega) h4] at h1;rw[Ql,<- hl];exact Qm h1
  exact Qr6 pl.isList (by omega) (by rw[Ql]<;>omega) (by omega) (by rw[hj];simpa using ew) fin
theorem Qiq(hc:X.calm=true):CallR X (.builtin "sum") (Qwy X.K):=by
 intro pins s σ H xs us Q I r h;obtain⟨p,ns,rfl,hp,q⟩:=h;obtain⟨u,rfl,ru⟩:=vals1 r;cases ru;obtain⟨its,rv,pl,hz⟩:=I.list hp;have hi:IntsAre its ns:=intsAre_of rv;obtain⟨ys,hx⟩:=hi.allInts.items;have hl':s.heap.IsList p (intItems ys):=hx ▸ pl.isList;refine sum_intListG (I.ok.hd hc) hl' λh' tk t' hk=>?_
 have e1:ns=ys.toList.map (·.1):=by
  rw[<- nums_intItems,<- hx];exact(show numsOf its.toArray.toList=ns from hi.numsOf).symm
 have e2:preSum (numAt ys) ys.size=ns.sum:=by
  rw[preSum_eq,YM (by simp),e1]
 rw[e2];exact⟨.int _,H,I.kept hk,⟨_,rfl⟩,q⟩
end
end L2
namespace Rk
open L2 _root_.Rd
def QAS(u:Nat):R2:=λx y H Q=>∃dx dy,Dat H x dx/\Dat H y dy/\u+min dx.depth dy.depth<cLine/\Q (.bl (!Ju dx dy)) H
theorem Qxm{X:Cx}:OpR X (compareOp .NotEq) (QAS X.A.units):=Qxn
def QAY(u:Nat):R2:=λx y H Q=>∃dx dy,Dat H x dx/\Dat H y dy/\u+min dx.depth dy.depth<cLine/\Q (.bl (Ju dx dy)) H
theorem Qxr{X:Cx}:OpR X (compareOp .Eq) (QAY X.A.units):=Qxs
theorem Qnf{X:Cx}:OpR X (compareOp .NotIn) (QzK X.A.in1.units true):=Qng
end Rk
namespace Rx
open PySem.Calls L2
end Rx
namespace Rk
open L2 _root_.Rd
theorem Qu7{n k:Nat}(h:k<n):ixN n (k:Nat)=some k:=by
 unfold ixN;rw[if_pos (by omega),if_pos (by omega)];simp
end Rk
namespace HT
section
open PySem.SeqAt
open PySem.AutoSeq1 (wpAny_loadPart')
open PySem.MeetsSeq PySem.MeetsSeq2 PySem.MeetsSeq3
end
section
variable{prog:Qz}{w:Ji}{A:Jb}{E:Value->Shared->Prop}{s:Shared}
end
end HT
namespace L2
def QwA(K:PySem.W.Frag):V->Option Int->Option Int->Hp->VK->Prop:=λx lo hi H Q=>∃a xs,x=.ref a/\SqL K H a xs/\∀p H',Same H H'->H p=none->H' p=some (.lst (QkU xs lo hi))->Q (.ref p) H'
theorem Qpm{X:Cx}:SlR X (QwA X.K):=by
 intro pins s σ H x v vl vu lo hi sl Q I rx hs pl pu h;obtain⟨a,xs,e,hx,q⟩:=h;exact QtC pins s σ H x v vl vu lo hi sl Q I rx hs pl pu ⟨a,xs,e,hx,λp hp=>q p _ (JX hp) hp J7⟩
theorem cut_last(xs:List V):(QkU xs (some (-1)) none).length<=1:=by
 unfold QkU;rw[JH,YE];have h2:xs.length - 1<=HT.sIx xs.length 0 (some (-1)):=by
  show xs.length - 1<=(if(-1:Int)<0 then((-1:Int)+(xs.length:Int)).toNat else min (-1:Int).toNat xs.length);rw[if_pos (by decide)];omega
 omega
end L2
namespace Rk
open L2 _root_.Rd
end Rk
namespace L2
section
variable{X:Cx}
def QmP(K:PySem.W.Frag):List V->Hp->VK->Prop:=λxs H Q=>∃p ys,xs=[.ref p]/\((SqL K H p ys/\∀l H',Same H H'->H l=none->H' l=some (.tup ys)->Q (.ref l) H')∨(SqT K H p ys/\Q (.ref p) H))
theorem Qbz:CallR X (.type "tuple") (QmP X.K):=by
 intro pins s σ H xs us Q I r h;obtain⟨p,ys,e,h⟩:=h;refine Qhj pins s σ H xs us Q I r ⟨p,ys,e,?_⟩;rcases h with⟨h1,h2⟩ | h
 ·exact .inl ⟨h1,λl hl=>h2 l _ (JX hl) hl J7⟩
 ·exact .inr h
def QmR(K:PySem.W.Frag):List V->Hp->VK->Prop:=λxs H Q=>∃p ys,xs=[.ref p]/\(SqL K H p ys∨SqT K H p ys)/\∀l H',Same H H'->H l=none->H' l=some (.lst ys)->Q (.ref l) H'
theorem Qhk:CallR X (.type "list") (QmR X.K):=by
 intro pins s σ H xs us Q I r h;obtain⟨p,ys,e,h1,h2⟩:=h;exact Qit pins s σ H xs us Q I r ⟨p,ys,e,h1,λl hl=>h2 l _ (JX hl) hl J7⟩
end
end L2
namespace Rk
open L2 _root_.Rd
end Rk
namespace L2
section
variable{X:Cx}
end
section
variable{X:Cx}
end
end L2
namespace Rk
open L2 _root_.Rd
end Rk
namespace Rx
open PySem.Calls L2
section
variable{X:Cx}{e:Q3}{st:Y4}{pos:Pos}{te:TX}{t u:TSX}{tc:TT}{c:Q3}{a b:List Y4}
end
section
variable{X:Cx}{R:Addr}{i:Nat}{n r:Str}{body:List Y4}{hx:Q3}{tb:TSX}{th:TE}{np hp hpos pos:Pos}
end
end Rx
namespace L2
section
variable{X:Cx}
end
end L2
namespace Rk
open L2 _root_.Rd
end Rk
namespace Dl
open L2 _root_.Rd Rk
def dkV(kvs:List (Int×Int)):List (Key×V):=kvs.map λp=>(Qdc p.1,V.int p.2)
def dkD(kvs:List (Int×Int)):List (Qa×Qa):=kvs.map λp=>(QN p.1,QN p.2)
mutual
inductive DA (A:Addr->Prop) (H:Hp):V->Qa->Prop
 |non:DA A H .non .none
 |bl (b:Bool):DA A H (.bl b) (.bool b)
 |int (i:Int):DA A H (.int i) (.int i)
 |str (x:Str):Qht (.str x)=true->DA A H (.str x) (.str x)
 |tup {a:Addr} {xs:List V} {ds:List Qa}:¬A a->H a=some (.tup xs)->DAs A H xs ds->DA A H (.ref a) (.tuple ds)
 |lst {a:Addr} {xs:List V} {ds:List Qa}:¬A a->H a=some (.lst xs)->DAs A H xs ds->DA A H (.ref a) (.list ds)
 |dct {a:Addr} {kvs:List (Int×Int)} {ds:List (Qa×Qa)}:¬A a->H a=some (.dK (dkV kvs))->ds=dkD kvs->DA A H (.ref a) (.dict ds)
inductive DAs (A:Addr->Prop) (H:Hp):List V->List Qa->Prop
 |nil:DAs A H [] []
 |cons {x:V} {xs:List V} {d:Qa} {ds:List Qa}:DA A H x d->DAs A H xs ds->DAs A H (x::xs) (d::ds)
end
mutual
theorem Qyf{A A':Addr->Prop}{H H':Hp}(k:∀a o,¬A a->H a=some o->H' a=some o)(m:∀a,A' a->A a∨H a=none):∀(d:Qa)(x:V),DA A H x d->DA A' H' x d
 |.none,_,.non=>.non
 |.bool _,_,.bl _=>.bl _
 |.int _,_,.int _=>.int _
 |.str _,_,.str _ c=>.str _ c
 |.tuple ds,_,.tup (xs:=xs) n e q=>.tup (λz=>(m _ z).elim n λz=>by rw[z] at e;cases e) (k _ _ n e) (QkR k m ds xs q)
 |.list ds,_,.lst (xs:=xs) n e q=>.lst (λz=>(m _ z).elim n λz=>by rw[z] at e;cases e) (k _ _ n e) (QkR k m ds xs q)
 |.dict _,_,.dct n e q=>.dct (λz=>(m _ z).elim n λz=>by rw[z] at e;cases e) (k _ _ n e) q
theorem QkR{A A':Addr->Prop}{H H':Hp}(k:∀a o,¬A a->H a=some o->H' a=some o)(m:∀a,A' a->A a∨H a=none):∀(ds:List Qa)(xs:List V),DAs A H xs ds->DAs A' H' xs ds
 |[],_,.nil=>.nil
 |d::ds,_,.cons (x:=x) (xs:=xs) q qs=>.cons (Qyf k m d x q) (QkR k m ds xs qs)
end
theorem DA.mv{A A':Addr->Prop}{H H':Hp}{x:V}{d:Qa}(q:DA A H x d)(k:∀a o,¬A a->H a=some o->H' a=some o)(m:∀a,A' a->A a∨H a=none):DA A' H' x d:=Qyf k m d x q
theorem DAs.mv{A A':Addr->Prop}{H H':Hp}{x:List V}{d:List Qa}(q:DAs A H x d)(k:∀a o,¬A a->H a=some o->H' a=some o)(m:∀a,A' a->A a∨H a=none):DAs A' H' x d:=QkR k m d x q
theorem DA.same{A:Addr->Prop}{H H':Hp}{x:V}{d:Qa}(q:DA A H x d)(s:Same H H'):DA A H' x d:=q.mv (λa o _ e=>s a o e) λa z=>.inl z
theorem DAs.same{A:Addr->Prop}{H H':Hp}{x:List V}{d:List Qa}(q:DAs A H x d)(s:Same H H'):DAs A H' x d:=q.mv (λa o _ e=>s a o e) λa z=>.inl z
theorem DAs.length{A:Addr->Prop}{H:Hp}:∀{xs:List V}{ds:List Qa},DAs A H xs ds->xs.length=ds.length
 |_,_,.nil=>rfl
 |_,_,.cons _ q=>by rw[Qt,Qt,q.length]
theorem DAs.get{A:Addr->Prop}{H:Hp}:∀{xs:List V}{ds:List Qa},DAs A H xs ds->∀(i:Nat)(d:Qa),ds[i]? = some d->∃x,xs[i]? = some x/\DA A H x d
 |_,_,.nil,i,x,e=>by simp at e
 |_,_,.cons q qs,0,x,e=>by simp at e;subst e;exact⟨_,rfl,q⟩
 |_,_,.cons q qs,i+1,x,e=>qs.get i x (by simpa using e)
theorem DAs.getV{A:Addr->Prop}{H:Hp}:∀{xs:List V}{ds:List Qa},DAs A H xs ds->∀(i:Nat)(x:V),xs[i]? = some x->∃d,ds[i]? = some d/\DA A H x d
 |_,_,.nil,i,x,e=>by simp at e
 |_,_,.cons q qs,0,x,e=>by simp at e;subst e;exact⟨_,rfl,q⟩
 |_,_,.cons q qs,i+1,x,e=>qs.getV i x (by simpa using e)
theorem DAs.app{A:Addr->Prop}{H:Hp}:∀{xs ys:List V}{ds es:List Qa},DAs A H xs ds->DAs A H ys es->DAs A H (xs++ys) (ds++es)
 |_,_,_,_,.nil,q=>q
 |_,_,_,_,.cons a b,q=>.cons a (b.app q)
theorem DAs.take{A:Addr->Prop}{H:Hp}:∀{xs:List V}{ds:List Qa},DAs A H xs ds->∀n:Nat,DAs A H (xs.take n) (ds.take n)
 |_,_,.nil,n=>by rw[QyK,QyK];exact .nil
 |_,_,.cons a b,0=>.nil
 |_,_,.cons a b,n+1=>.cons a (b.take n)
theorem DAs.drop{A:Addr->Prop}{H:Hp}:∀{xs:List V}{ds:List Qa},DAs A H xs ds->∀n:Nat,DAs A H (xs.drop n) (ds.drop n)
 |_,_,.nil,n=>by rw[QyM,QyM];exact .nil
 |_,_,.cons a b,0=>.cons a b
 |_,_,.cons a b,n+1=>b.drop n
theorem DAs.set{A:Addr->Prop}{H:Hp}{x:V}{d:Qa}(q:DA A H x d):∀{xs:List V}{ds:List Qa},DAs A H xs ds->∀n:Nat,DAs A H (xs.set n x) (ds.set n d)
 |_,_,.nil,n=>.nil
 |_,_,.cons a b,0=>.cons q b
 |_,_,.cons a b,n+1=>.cons a (b.set q n)
mutual
def nd:Qa->Bool
 |.dict _=>false
 |.tuple ds=>nds ds
 |.list ds=>nds ds
 |_=>true
def nds:List Qa->Bool
 |[]=>true
 |d::ds=>nd d&&nds ds
end
mutual
theorem QkS{A:Addr->Prop}{H:Hp}:∀(d:Qa)(x:V),nd d=true->DA A H x d->Dat H x d
 |.none,_,_,.non=>.non
 |.bool _,_,_,.bl _=>.bl _
 |.int _,_,_,.int _=>.int _
 |.str _,_,_,.str _ c=>.str _ c
 |.tuple ds,_,n,.tup (xs:=xs) _ e q=>.tup e (Qbr ds xs n q)
 |.list ds,_,n,.lst (xs:=xs) _ e q=>.lst e (Qbr ds xs n q)
theorem Qbr{A:Addr->Prop}{H:Hp}:∀(ds:List Qa)(xs:List V),nds ds=true->DAs A H xs ds->Dats H xs ds
 |[],_,_,.nil=>.nil
 |d::ds,_,n,.cons (x:=x) (xs:=xs) q qs=>by
  have n':=QJ.mp (show(nd d&&nds ds)=true from n);exact .cons (QkS d x n'.1 q) (Qbr ds xs n'.2 qs)
end
theorem QgY{ds:List Qa}:nds ds=true↔∀d∈ds,nd d=true:=by
 induction ds with
 |nil=>exact⟨(λ_ _ h=>nomatch h),λ_=>rfl⟩
 |cons d ds ih=>
  rw[show nds (d::ds)=(nd d&&nds ds) from rfl,QJ,ih];constructor
  ·rintro⟨a,b⟩ e he;rcases Qp.mp he with z | z
   ·rw[z];exact a
   ·exact b e z
  ·intro h;exact⟨h d (by simp),λe he=>h e (by simp[he])⟩
def DP(A P:Addr->Prop)(H:Hp)(v:V)(d:Qa):Prop:=DA A H v d∨∃l xs ds,v=.ref l/\d=.list ds/\¬P l/\H l=some (.lst xs)/\DAs A H xs ds
theorem DP.dat{A P:Addr->Prop}{H:Hp}{v:V}{d:Qa}(h:DP A P H v d)(n:nd d=true):Dat H v d:=by
 rcases h with h | ⟨l,xs,ds,rfl,rfl,_,e,q⟩
 ·exact QkS d v n h
 ·exact .lst e (Qbr ds xs n q)
theorem DP.list{A P:Addr->Prop}{H:Hp}{v:V}{ds:List Qa}(h:DP A P H v (.list ds)):∃l xs,v=.ref l/\H l=some (.lst xs)/\DAs A H xs ds:=by
 rcases h with h | ⟨l,xs,ds',rfl,e,_,h2,q⟩
 ·cases h with | lst n e q=>exact⟨_,_,rfl,e,q⟩
 ·cases e;exact⟨l,xs,rfl,h2,q⟩
theorem DP.tuple{A P:Addr->Prop}{H:Hp}{v:V}{ds:List Qa}(h:DP A P H v (.tuple ds)):∃l xs,v=.ref l/\H l=some (.tup xs)/\DAs A H xs ds:=by
 rcases h with h | ⟨l,xs,ds',rfl,e,_⟩
 ·cases h with | tup n e q=>exact⟨_,_,rfl,e,q⟩
 ·cases e
theorem DP.int{A P:Addr->Prop}{H:Hp}{v:V}{i:Int}(h:DP A P H v (.int i)):v=.int i:=by
 rcases h with h | ⟨l,xs,ds',rfl,e,_⟩
 ·cases h;rfl
 ·cases e
theorem DP.bool{A P:Addr->Prop}{H:Hp}{v:V}{i:Bool}(h:DP A P H v (.bool i)):v=.bl i:=by
 rcases h with h | ⟨l,xs,ds',rfl,e,_⟩
 ·cases h;rfl
 ·cases e
theorem DP.none{A P:Addr->Prop}{H:Hp}{v:V}(h:DP A P H v .none):v=.non:=by
 rcases h with h | ⟨l,xs,ds',rfl,e,_⟩
 ·cases h;rfl
 ·cases e
theorem DP.str{A P:Addr->Prop}{H:Hp}{v:V}{x:Str}(h:DP A P H v (.str x)):v=.str x/\Qht (.str x)=true:=by
 rcases h with h | ⟨l,xs,ds',rfl,e,_⟩
 ·cases h with | str _ c=>exact⟨rfl,c⟩
 ·cases e
inductive Sl where
 |no | pot | scr
 |v (d:Qa)
 |own (ds:List Qa)
 |pk (ds:List Qa)
abbrev Sts:=List Sl
structure Fm where
 H0:Hp
 A0:Addr->Prop
 pt:Addr->Prop
def QBq(σ:L2.St)(δ:Sts)(i:Nat)(a:Addr):Prop:=σ[i]? = some (some (.ref a))/\(δ[i]? = some .pot∨∃ds,δ[i]? = some (.own ds))
def Av(F:Fm)(σ:L2.St)(δ:Sts)(a:Addr):Prop:=F.A0 a∨∃i,QBq σ δ i a
def YB(σ:L2.St)(δ:Sts)(a:Addr):Prop:=∃i:Nat,σ[i]? = some (some (.ref a))/\δ[i]? = some .pot
def QBo(K:PySem.W.Frag)(F:Fm)(H:Hp)(A:Addr->Prop)(o:Option V):Sl->Prop
 |.no=>True
 |.v d=>∃v,o=some v/\DA A H v d
 |.own ds=>∃l xs,o=some (.ref l)/\H l=some (.lst xs)/\DAs A H xs ds/\F.H0 l=none
 |.pk ds=>∃l xs,o=some (.ref l)/\H l=some (.lst xs)/\DAs A H xs ds/\∃ys,F.H0 l=some (.lst ys)/\¬F.pt l
 |.pot=>∃p n,o=some (.ref p)/\H p=some (.lst [.int n])/\(F.pt p∨F.H0 p=none)
 |.scr=>∃a ns,o=some (.ref a)/\SqL K F.H0 a ((ns:List Int).map V.int)/\¬F.pt a/\ns.length<=63
structure Rel (K:PySem.W.Frag) (F:Fm) (σ:L2.St) (H:Hp) (δ:Sts):Prop where
 len:σ.length=δ.length
 dom:∀a,F.A0 a->∃xs,H a=some (.lst xs)
 dom0:∀a,F.A0 a->∃xs,F.H0 a=some (.lst xs)
 pt0:∀p,F.pt p->F.A0 p/\∃n,H p=some (.lst [.int n])
 kx:∀b o,¬F.pt b->F.H0 b=some o->H b=some o
 sl:∀(i:Nat) o x,σ[i]? = some o->δ[i]? = some x->QBo K F H (Av F σ δ) o x
 inj:∀(i j:Nat) a ds,δ[i]? = some (.own ds)->σ[i]? = some (some (.ref a))->QBq σ δ j a->i=j
def Kp(σ:L2.St)(δ:Sts)(H H':Hp):Prop:=(∀b o,¬YB σ δ b->H b=some o->H' b=some o)/\∀b,YB σ δ b->∃n,H' b=some (.lst [.int n])
def Stp(F:Fm)(σ:L2.St)(H:Hp)(δ:Sts)(σ':L2.St)(H':Hp)(δ':Sts):Prop:=(∀b o,¬Av F σ δ b->H b=some o->H' b=some o)/\∀b,Av F σ' δ' b->Av F σ δ b∨H b=none
def Ke(F:Fm)(H':Hp):Prop:=(∀b o,¬F.pt b->F.H0 b=some o->H' b=some o)/\∀p,F.pt p->∃n,H' p=some (.lst [.int n])
theorem QaC{F:Fm}{σ:L2.St}{δ:Sts}{a:Addr}(h:YB σ δ a):Av F σ δ a:=let ⟨i,h1,h2⟩:=h;.inr ⟨i,h1,.inl h2⟩
theorem Rel.ke{K:PySem.W.Frag}{F:Fm}{σ:L2.St}{H:Hp}{δ:Sts}(r:Rel K F σ H δ):Ke F H:=⟨r.kx,λp hp=>(r.pt0 p hp).2⟩
theorem Rel.isl{K:PySem.W.Frag}{F:Fm}{σ:L2.St}{H:Hp}{δ:Sts}(r:Rel K F σ H δ){a:Addr}(h:Av F σ δ a):∃xs,H a=some (.lst xs):=by
 rcases h with h | ⟨i,h1,h2⟩
 ·exact r.dom a h
 ·rcases h2 with h2 | ⟨ds,h2⟩
  ·obtain⟨p,n,e,h,_⟩:=r.sl i _ _ h1 h2;cases e;exact⟨_,h⟩
  ·obtain⟨l,xs,e,h,_⟩:=r.sl i _ _ h1 h2;cases e;exact⟨_,h⟩
theorem Kp.refl{K:PySem.W.Frag}{F:Fm}{σ:L2.St}{H:Hp}{δ:Sts}(r:Rel K F σ H δ):Kp σ δ H H:=⟨λ_ _ _ e=>e,λb ⟨i,h1,h2⟩=>by
 obtain⟨p,n,e,h,_⟩:=r.sl i _ _ h1 h2;cases e;exact⟨n,h⟩⟩
theorem Kp.trans{σ:L2.St}{δ:Sts}{H H1 H2:Hp}(a:Kp σ δ H H1)(b:Kp σ δ H1 H2):Kp σ δ H H2:=⟨λc o n e=>b.1 c o n (a.1 c o n e),b.2⟩
theorem Kp.same{K:PySem.W.Frag}{F:Fm}{σ:L2.St}{H H':Hp}{δ:Sts}(r:Rel K F σ H δ)(s:Same H H'):Kp σ δ H H':=⟨λb o _ e=>s b o e,λb hb=>let ⟨n,h⟩:=(Kp.refl r).2 b hb;⟨n,s _ _ h⟩⟩
theorem Kp.da{F:Fm}{σ:L2.St}{H H':Hp}{δ:Sts}{v:V}{d:Qa}(k:Kp σ δ H H')(h:DA (Av F σ δ) H v d):DA (Av F σ δ) H' v d:=h.mv (λa o n e=>k.1 a o (λz=>n (QaC z)) e) λa z=>.inl z
theorem Kp.das{F:Fm}{σ:L2.St}{H H':Hp}{δ:Sts}{v:List V}{d:List Qa}(k:Kp σ δ H H')(h:DAs (Av F σ δ) H v d):DAs (Av F σ δ) H' v d:=h.mv (λa o n e=>k.1 a o (λz=>n (QaC z)) e) λa z=>.inl z
theorem Kp.dp{F:Fm}{σ:L2.St}{H H':Hp}{δ:Sts}{v:V}{d:Qa}(k:Kp σ δ H H')(h:DP (Av F σ δ) (YB σ δ) H v d):DP (Av F σ δ) (YB σ δ) H' v d:=by
 rcases h with h | ⟨l,xs,ds,e1,e2,n,e,q⟩
 ·exact .inl (k.da h)
 ·exact .inr ⟨l,xs,ds,e1,e2,n,k.1 _ _ n e,k.das q⟩
theorem Rel.own_pot{K:PySem.W.Frag}{F:Fm}{σ:L2.St}{H:Hp}{δ:Sts}(r:Rel K F σ H δ){i:Nat}{ds:List Qa}{l:Addr}(h:δ[i]? = some (.own ds))(e:σ[i]? = some (some (.ref l))):¬YB σ δ l:=by
 rintro⟨j,h1,h2⟩;have:=r.inj i j l _ h e ⟨h1,.inl h2⟩;subst this;rw[h] at h2;cases h2
theorem Rel.pt_pot{K:PySem.W.Frag}{F:Fm}{σ:L2.St}{H H':Hp}{δ:Sts}(r:Rel K F σ H δ)(k:Kp σ δ H H'){p:Addr}(hp:F.pt p):∃n,H' p=some (.lst [.int n]):=by
 by_cases z:YB σ δ p
 ·exact k.2 p z
 ·obtain⟨n,e⟩:=(r.pt0 p hp).2;exact⟨n,k.1 _ _ z e⟩
theorem Rel.kp{K:PySem.W.Frag}{F:Fm}{σ:L2.St}{H H':Hp}{δ:Sts}(r:Rel K F σ H δ)(k:Kp σ δ H H'):Rel K F σ H' δ where
 len:=r.len
 dom:=λa ha=>by
  by_cases z:YB σ δ a
  ·exact⟨_,(k.2 a z).choose_spec⟩
  ·obtain⟨xs,e⟩:=r.dom a ha;exact⟨xs,k.1 _ _ z e⟩
 dom0:=r.dom0
 pt0:=λp hp=>⟨(r.pt0 p hp).1,r.pt_pot k hp⟩
 kx:=λb o n e=>by
  by_cases z:YB σ δ b
  ·obtain⟨i,h1,h2⟩:=z;obtain⟨p,m,e1,h,q⟩:=r.sl i _ _ h1 h2;cases e1;rcases q with q | q
   ·exact absurd q n
   ·rw[q] at e;cases e
  ·exact k.1 _ _ z (r.kx b o n e)
 sl:=λi o x h1 h2=>by
  have h:=r.sl i o x h1 h2;cases x with
  |no=>trivial
  |v d=>obtain⟨v,e,q⟩:=h;exact⟨v,e,k.da q⟩
  |own ds=>obtain⟨l,xs,rfl,e,q,f⟩:=h;exact⟨l,xs,rfl,k.1 _ _ (r.own_pot h2 h1) e,k.das q,f⟩
  |pk ds=>
   obtain⟨l,xs,rfl,e,q,ys,f,f2⟩:=h;refine⟨l,xs,rfl,k.1 _ _ ?_ e,k.das q,ys,f,f2⟩;rintro⟨j,j1,j2⟩;obtain⟨p,m,e1,_,w⟩:=r.sl j _ _ j1 j2;cases e1;rcases w with w | w
   ·exact f2 w
   ·rw[w] at f;cases f
  |pot=>
   obtain⟨p,n,rfl,e,q⟩:=h;obtain⟨m,e'⟩:=k.2 p ⟨i,h1,h2⟩;exact⟨p,m,rfl,e',q⟩
  |scr=>exact h
 inj:=r.inj
theorem Rel.same{K:PySem.W.Frag}{F:Fm}{σ:L2.St}{H H':Hp}{δ:Sts}(r:Rel K F σ H δ)(s:Same H H'):Rel K F σ H' δ:=r.kp (Kp.same r s)
theorem Stp.refl{F:Fm}{σ:L2.St}{H:Hp}{δ:Sts}:Stp F σ H δ σ H δ:=⟨λ_ _ _ e=>e,λ_ z=>.inl z⟩
theorem Stp.trans{F:Fm}{σ σ1 σ2:L2.St}{H H1 H2:Hp}{δ δ1 δ2:Sts}(a:Stp F σ H δ σ1 H1 δ1)(b:Stp F σ1 H1 δ1 σ2 H2 δ2):Stp F σ H δ σ2 H2 δ2:=by
 refine⟨λc o n e=>?_,λc z=>?_⟩
 ·refine b.1 c o (λz=>?_) (a.1 c o n e);rcases a.2 c z with q | q
  ·exact n q
  ·rw[q] at e;cases e
 ·rcases b.2 c z with q | q
  ·exact a.2 c q
  ·by_cases y:Av F σ δ c
   ·exact .inl y
   ·right
    cases e:H c with
    |none=>rfl
    |some o=>rw[a.1 c o y e] at q;cases q
theorem Stp.kp{F:Fm}{σ:L2.St}{H H':Hp}{δ:Sts}(k:Kp σ δ H H'):Stp F σ H δ σ H' δ:=⟨λb o n e=>k.1 b o (λz=>n (QaC z)) e,λ_ z=>.inl z⟩
theorem Stp.da{F:Fm}{σ σ':L2.St}{H H':Hp}{δ δ':Sts}{v:V}{d:Qa}(k:Stp F σ H δ σ' H' δ')(h:DA (Av F σ δ) H v d):DA (Av F σ' δ') H' v d:=h.mv k.1 k.2
abbrev XP:=Addr->Prop
abbrev DE:=Sts->(Qa->Prop)->XP->Prop
abbrev DT:=Sts->(Bool->Prop)->XP->Prop
abbrev DAr:=Sts->(List Qa->Prop)->XP->Prop
abbrev DSl:=Sts->(List Sl->Prop)->XP->Prop
inductive Md where | D | P | F
def FrV(H H':Hp)(v:V):Prop:=∀l,v=.ref l->(∃xs,H' l=some (.lst xs))->H l=none
def Vok(m:Md)(F:Fm)(σ:L2.St)(δ:Sts)(H H':Hp)(v:V)(d:Qa):Prop:=
 match m with
 |.D=>DA (Av F σ δ) H' v d
 |.P=>DP (Av F σ δ) (YB σ δ) H' v d
 |.F=>DA (Av F σ δ) H' v d/\FrV H H' v
def Out(F:Fm)(E:XK)(EX:XP):Prop:=∀C,EX C->∀H',Ke F H'->E (.ref C) none H'
def tX(m:Md)(K:PySem.W.Frag)(E:XK)(w:DE):TE:=λσ H Q=>∃(F:Fm)(δ:Sts)(R:Qa->Prop)(EX:XP),Rel K F σ H δ/\w δ R EX/\(∀d,R d->∀v H',Rel K F σ H' δ->Kp σ δ H H'->Vok m F σ δ H H' v d->Q v H')/\Out F E EX
def tT(K:PySem.W.Frag)(E:XK)(w:DT):TT:=λσ H Q=>∃(F:Fm)(δ:Sts)(R:Bool->Prop)(EX:XP),Rel K F σ H δ/\w δ R EX/\(∀b,R b->∀H',Rel K F σ H' δ->Kp σ δ H H'->Q b H')/\Out F E EX
def VD(m:Md)(A P:Addr->Prop)(H:Hp)(v:V)(d:Qa):Prop:=
 match m with
 |.P=>DP A P H v d
 |_=>DA A H v d
def tAr(n:Nat)(m:Md)(K:PySem.W.Frag)(E:XK)(w:DAr):TA:=λσ H Q=>∃(F:Fm)(δ:Sts)(R:List Qa->Prop)(EX:XP),Rel K F σ H δ/\w δ R EX/\(∀ds,R ds->ds.length=n->∀vs H',Rel K F σ H' δ->Kp σ δ H H'->QbK (VD m (Av F σ δ) (YB σ δ) H') vs ds->Q vs H')/\Out F E EX
def QlT(A pt:Addr->Prop)(H:Hp)(v:V):Sl->Prop
 |.v d=>DA A H v d
 |.pot=>∃p,v=.ref p/\pt p
 |_=>False
def tAs(K:PySem.W.Frag)(E:XK)(w:DSl):TA:=λσ H Q=>∃(F:Fm)(δ:Sts)(R:List Sl->Prop)(EX:XP),Rel K F σ H δ/\w δ R EX/\(∀ds,R ds->∀vs H',Rel K F σ H' δ->Kp σ δ H H'->QbK (QlT (Av F σ δ) (YB σ δ) H') vs ds->Q vs H')/\Out F E EX
theorem Kp.vd{m:Md}{F:Fm}{σ:L2.St}{H H':Hp}{δ:Sts}{v:V}{d:Qa}(k:Kp σ δ H H')(h:VD m (Av F σ δ) (YB σ δ) H v d):VD m (Av F σ δ) (YB σ δ) H' v d:=by
 cases m
 ·exact k.da h
 ·exact k.dp h
 ·exact k.da h
theorem Kp.arg{F:Fm}{σ:L2.St}{H H':Hp}{δ:Sts}{v:V}{d:Sl}(k:Kp σ δ H H')(h:QlT (Av F σ δ) (YB σ δ) H v d):QlT (Av F σ δ) (YB σ δ) H' v d:=by
 cases d with
 |v d=>exact k.da h
 |pot=>exact h
 |_=>exact h.elim
def Qc2(H:Hp):Prop:=∀a xs,H a=some (.lst xs)∨H a=some (.tup xs)->xs.length<=sizeLine
section
variable{X:Cx}{E:XK}
theorem Inv.lens{pins:List (Addr×Obj)}{σ:L2.St}{H:Hp}{s:Shared}(I:Inv X pins σ H s):Qc2 H:=λa xs h=>by
 rcases h with h | h
 ·exact(I.hok a _ h).1
 ·exact(I.hok a _ h).1
theorem PE.imp{e:Q3}{t t':TE}(h:PE X e t)(i:∀σ H Q,t' σ H Q->t σ H Q):PE X e t':=λpins s σ H Q I q=>h pins s σ H Q I (i σ H Q q)
theorem PT.imp{e:Q3}{t t':TT}(h:PT X e t)(i:∀σ H Q,t' σ H Q->t σ H Q):PT X e t':=λpins s σ H Q I q=>h pins s σ H Q I (i σ H Q q)
theorem PW.imp{e:Q3}{t t':TT}(h:PW X e t)(i:∀σ H Q,t' σ H Q->t σ H Q):PW X e t':=λwh pins s σ H Q I q=>h wh pins s σ H Q I (i σ H Q q)
theorem PA.imp{e:List Q3}{t t':TA}(h:PA X e t)(i:∀σ H Q,t' σ H Q->t σ H Q):PA X e t':=λpos pins s σ H Q I q=>h pos pins s σ H Q I (i σ H Q q)
theorem OpR.len{f:Value->Value->Sem Value}{r:R2}(h:OpR X f r):OpR X f (λx y H Q=>Qc2 H->r x y H Q):=λpins s σ H x y v u Q I rx ry q=>h pins s σ H x y v u Q I rx ry (q (Inv.lens I))
theorem CallR.len{f:Value}{r:List V->Hp->VK->Prop}(h:CallR X f r):CallR X f (λxs H Q=>Qc2 H->r xs H Q):=λpins s σ H xs us Q I rx q=>h pins s σ H xs us Q I rx (q (Inv.lens I))
theorem IxR.len{r:R2}(h:IxR X r):IxR X (λx y H Q=>Qc2 H->r x y H Q):=λa b pins s σ H x y v u Q I rx ry q hs=>h a b pins s σ H x y v u Q I rx ry (q (Inv.lens I)) hs
theorem OpR.or2{f:Value->Value->Sem Value}{r r':R2}(h:OpR X f r)(h':OpR X f r'):OpR X f (λx y H Q=>r x y H Q∨r' x y H Q):=OpR.or h h'
theorem IxR.or2{r r':R2}(h:IxR X r)(h':IxR X r'):IxR X (λx y H Q=>r x y H Q∨r' x y H Q):=λa b pins s σ H x y v u Q I rx ry q hs=>q.elim (λq=>h a b pins s σ H x y v u Q I rx ry q hs) λq=>h' a b pins s σ H x y v u Q I rx ry q hs
theorem SlR.or2{r r':V->Option Int->Option Int->Hp->VK->Prop}(h:SlR X r)(h':SlR X r'):SlR X (λx a b H Q=>r x a b H Q∨r' x a b H Q):=λpins s σ H x v vl vu lo hi sl Q I rx hs pl pu q=>q.elim (h pins s σ H x v vl vu lo hi sl Q I rx hs pl pu) (h' pins s σ H x v vl vu lo hi sl Q I rx hs pl pu)
theorem toD{e:Q3}{w:DE}(h:PE X e (tX .F X.K E w)):PE X e (tX .D X.K E w):=PE.imp h λσ H Q ⟨F,δ,R,EX,r,hw,k,o⟩=>⟨F,δ,R,EX,r,hw,λd hd v H' r' kp vk=>k d hd v H' r' kp vk.1,o⟩
theorem toP{e:Q3}{w:DE}(h:PE X e (tX .D X.K E w)):PE X e (tX .P X.K E w):=PE.imp h λσ H Q ⟨F,δ,R,EX,r,hw,k,o⟩=>⟨F,δ,R,EX,r,hw,λd hd v H' r' kp vk=>k d hd v H' r' kp (.inl vk),o⟩
theorem QBu{e:Q3}{w:DE}(h:PE X e (tX .F X.K E w)):PE X e (tX .P X.K E w):=toP (toD h)
def QAw(i:Nat):DE:=λδ Q _=>match δ[i]? with
 |some (.v d)=>Q d
 |_=>False
def dPk(i:Nat):DE:=λδ Q _=>match δ[i]? with
 |some (.v d)=>Q d
 |some (.own ds)=>Q (.list ds)
 |some (.pk ds)=>Q (.list ds)
 |_=>False
def dC(d:Qa):DE:=λ_ Q _=>Q d
theorem Rel.lt{K:PySem.W.Frag}{F:Fm}{σ:L2.St}{H:Hp}{δ:Sts}(r:Rel K F σ H δ){i:Nat}{x:Sl}(h:δ[i]? = some x):∃o,σ[i]? = some o:=by
 have:=(QD.mp h).1;exact⟨σ[i]'(by rw[r.len];exact this),Qf _⟩
theorem Qw5{e:Q3}{i:Nat}(h:PE X e (Qmp i)):PE X e (tX .D X.K E (QAw i)):=PE.imp h λσ H Q ⟨F,δ,R,EX,r,hw,k,o⟩=>by
 unfold QAw at hw;split at hw
 ·rename_i d hd
  obtain⟨x,hx⟩:=r.lt hd;obtain⟨v,rfl,q⟩:=r.sl i _ _ hx hd;exact⟨v,hx,k d hw v H r (Kp.refl r) q⟩
 ·exact hw.elim
theorem QzW{e:Q3}{i:Nat}(h:PE X e (Qmp i)):PE X e (tX .P X.K E (dPk i)):=PE.imp h λσ H Q ⟨F,δ,R,EX,r,hw,k,o⟩=>by
 unfold dPk at hw;split at hw
 ·rename_i d hd
  obtain⟨x,hx⟩:=r.lt hd;obtain⟨v,rfl,q⟩:=r.sl i _ _ hx hd;exact⟨v,hx,k d hw v H r (Kp.refl r) (.inl q)⟩
 ·rename_i d hd
  obtain⟨x,hx⟩:=r.lt hd;obtain⟨l,xs,rfl,e,q,_⟩:=r.sl i _ _ hx hd;exact⟨_,hx,k _ hw _ H r (Kp.refl r) (.inr ⟨l,xs,d,rfl,rfl,r.own_pot hd hx,e,q⟩)⟩
 ·rename_i d hd
  obtain⟨x,hx⟩:=r.lt hd;obtain⟨l,xs,rfl,e,q,ys,f,f2⟩:=r.sl i _ _ hx hd;refine⟨_,hx,k _ hw _ H r (Kp.refl r) (.inr ⟨l,xs,d,rfl,rfl,?_,e,q⟩)⟩;rintro⟨j,j1,j2⟩;obtain⟨p,m,e1,_,w⟩:=r.sl j _ _ j1 j2;cases e1;rcases w with w | w
  ·exact f2 w
  ·rw[w] at f;cases f
 ·exact hw.elim
theorem QyY{e:Q3}{v:V}{d:Qa}(h:PE X e (tC v))(q:∀(A:Addr->Prop)(H:Hp),DA A H v d):PE X e (tX .D X.K E (dC d)):=PE.imp h λσ H Q ⟨F,δ,R,EX,r,hw,k,o⟩=>k d hw v H r (Kp.refl r) (q _ _)
theorem Qxc{i:Int}{j pos}:PE X (.Constant (.int i) j pos) (tX .D X.K E (dC (.int i))):=QyY Qaj λ_ _=>.int i
theorem QzZ{b:Bool}{j pos}:PE X (.Constant (.bool b) j pos) (tX .D X.K E (dC (.bool b))):=QyY QzU λ_ _=>.bl b
theorem Qw9{j pos}:PE X (.Constant .none j pos) (tX .D X.K E (dC .none)):=QyY Qw0 λ_ _=>.non
def OpD(r:R2)(rD:Qa->Qa->(Qa->Prop)->Prop):Prop:=∀(A P:Addr->Prop)(H:Hp)(x y:V)(d1 d2:Qa)(R:Qa->Prop)(Q:VK),Qc2 H->(∀a,A a->∃xs,H a=some (.lst xs))->DP A P H x d1->DP A P H y d2->rD d1 d2 R ->
 (∀d,R d->∀v H',Same H H'->DA A H' v d->FrV H H' v->Q v H')->r x y H Q
def Qr4(r:R2)(rD:Qa->Qa->(Qa->Prop)->Prop):Prop:=∀(A P:Addr->Prop)(H:Hp)(x y:V)(d1 d2:Qa)(R:Qa->Prop)(Q:VK),Qc2 H->(∀a,A a->∃xs,H a=some (.lst xs))->DP A P H x d1->DP A P H y d2->rD d1 d2 R ->
 (∀d,R d->∀v H',Same H H'->DA A H' v d->Q v H')->r x y H Q
def dOp(rD:Qa->Qa->(Qa->Prop)->Prop)(wa wb:DE):DE:=λδ Q EX=>wa δ (λd1=>wb δ (λd2=>rD d1 d2 Q) EX) EX
theorem Qjm{K:PySem.W.Frag}{r:R2}{rD:Qa->Qa->(Qa->Prop)->Prop}{wa wb:DE}(hd:OpD r rD)(σ:L2.St)(H:Hp)(Q:VK)(h:tX .F K E (dOp rD wa wb) σ H Q) :
  tOp (λx y H Q=>Qc2 H->r x y H Q) (tX .P K E wa) (tX .P K E wb) σ H Q:=by
 obtain⟨F,δ,R,EX,rel,hw,k,o⟩:=h;refine⟨F,δ,_,EX,rel,hw,λd1 h1 x H1 rel1 kp1 x1=>⟨F,δ,_,EX,rel1,h1,λd2 h2 y H2 rel2 kp2 y2=>λln=>?_,o⟩,o⟩;refine hd (Av F σ δ) (YB σ δ) H2 x y d1 d2 R Q ln (λa ha=>rel2.isl ha) (kp2.dp x1) y2 h2 λd hR v H' s q f=>?_
 refine k d hR v H' (rel2.same s) ((kp1.trans kp2).trans (Kp.same rel2 s)) ⟨q,λl e1 e2=>?_⟩;have f2:=f l e1 e2;cases e:H l with
 |none=>rfl
 |some ob=>
  by_cases z:YB σ δ l
  ·obtain⟨n,en⟩:=kp2.2 l z;rw[en] at f2;cases f2
  ·rw[(kp1.trans kp2).1 _ _ z e] at f2;cases f2
theorem Qre{K:PySem.W.Frag}{r:R2}{rD:Qa->Qa->(Qa->Prop)->Prop}{wa wb:DE}(hd:Qr4 r rD)(σ:L2.St)(H:Hp)(Q:VK)(h:tX .D K E (dOp rD wa wb) σ H Q) :
  tOp (λx y H Q=>Qc2 H->r x y H Q) (tX .P K E wa) (tX .P K E wb) σ H Q:=by
 obtain⟨F,δ,R,EX,rel,hw,k,o⟩:=h;refine⟨F,δ,_,EX,rel,hw,λd1 h1 x H1 rel1 kp1 x1=>⟨F,δ,_,EX,rel1,h1,λd2 h2 y H2 rel2 kp2 y2=>λln=>?_,o⟩,o⟩;refine hd (Av F σ δ) (YB σ δ) H2 x y d1 d2 R Q ln (λa ha=>rel2.isl ha) (kp2.dp x1) y2 h2 λd hR v H' s q=>?_
 exact k d hR v H' (rel2.same s) ((kp1.trans kp2).trans (Kp.same rel2 s)) q
variable{a b:Q3}{wa wb:DE}{pos:Pos}{r:R2}{rD:Qa->Qa->(Qa->Prop)->Prop}
theorem Qxf{op:Qdd}(ho:OpR X (binaryOp op) r)(hd:OpD r rD)(ha:PE X a (tX .P X.K E wa))(hb:PE X b (tX .P X.K E wb)):PE X (.BinOp a op b pos) (tX .F X.K E (dOp rD wa wb)):=PE.imp (QbT (OpR.len ho) ha hb) (Qjm hd)
theorem Qxe{op:Qtm}(ho:OpR X (compareOp op) r)(hd:OpD r rD)(ha:PE X a (tX .P X.K E wa))(hb:PE X b (tX .P X.K E wb))(hm:behindInMarks op b=false):PE X (.Compare a [op] [b] pos) (tX .F X.K E (dOp rD wa wb)):=PE.imp (Qua (OpR.len ho) ha hb hm) (Qjm hd)
theorem QzX{r:R2}{rD:Qa->Qa->(Qa->Prop)->Prop}(ho:IxR X r)(hd:Qr4 r rD)(ha:PE X a (tX .P X.K E wa))(hb:PE X b (tX .P X.K E wb))(hs:QjM b):PE X (.Subscript a b pos) (tX .D X.K E (dOp rD wa wb)):=PE.imp (QpR (IxR.len ho) ha hb hs) (Qre hd)
def dTst(w:DE):DT:=λδ Q EX=>w δ (λd=>match d with
 |.bool k=>Q k
 |_=>False) EX
theorem Quh{op:Qtm}(ho:OpR X (compareOp op) r)(hd:OpD r rD)(ha:PE X a (tX .P X.K E wa))(hb:PE X b (tX .P X.K E wb))(hm:behindInMarks op b=false):PT X (.Compare a [op] [b] pos) (tT X.K E (dTst (dOp rD wa wb))):=by
 refine PT.imp (Qjg (OpR.len ho) ha hb hm) λσ H Q ⟨F,δ,R,EX,rel,hw,k,o⟩=>?_
 refine Qjm hd σ H (λx H'=>∃k,x=.bl k/\Q k H') ⟨F,δ,_,EX,rel,hw,λd hd2 v H' rel' kp vk=>?_,o⟩;split at hd2
 ·rename_i b
  have:v=.bl b:=by cases vk.1;rfl
  exact⟨b,this,k b hd2 H' rel' kp⟩
 ·exact hd2.elim
def tru:Qa->Bool
 |.none=>false
 |.bool b=>b
 |.int i=>i != 0
 |.str y=>(y.length:Int) != 0
 |.list ds => !ds.isEmpty
 |.tuple ds => !ds.isEmpty
 |.dict ds => !ds.isEmpty
def strOk:Qa->Prop
 |.str y=>y.length<=sizeLine
 |_=>True
def dTru(w:DE):DT:=λδ Q EX=>w δ (λd=>strOk d/\Q (tru d)) EX
theorem Qwa{K:PySem.W.Frag}{A P:Addr->Prop}{H:Hp}{v:V}{d:Qa}(h:DP A P H v d)(hs:strOk d):QAG K v H (tru d):=by
 have sq:∀{xs:List V}{ds:List Qa},DAs A H xs ds->(!ds.isEmpty) = !xs.isEmpty:=λq=>by cases q<;>rfl
 rcases h with h | ⟨l,xs,ds,rfl,rfl,_,e,q⟩
 ·cases h with
  |non=>rfl
  |bl b=>rfl
  |int i=>rfl
  |str x c=>exact⟨hs,rfl⟩
  |@tup a xs ds n e q=>exact .inr (.inl ⟨xs,SqT.of e,sq q⟩)
  |@lst a xs ds n e q=>exact .inl ⟨xs,SqL.of e,sq q⟩
  |@dct a kvs ds n e q=>subst q;exact .inr (.inr ⟨dkV kvs,e,by cases kvs<;>rfl⟩)
 ·exact .inl ⟨xs,SqL.of e,sq q⟩
theorem Quf{e:Q3}{w:DE}(h:PE X e (tX .P X.K E w))(he:∀whole,isTrue e X.env whole=(do let v <- whole;standAt e.pos;holding [v] (truthy v))):PT X e (tT X.K E (dTru w)):=by
 refine PT.imp (QpI h he) λσ H Q ⟨F,δ,R,EX,rel,hw,k,o⟩=>?_
 exact⟨F,δ,_,EX,rel,hw,λd ⟨hs,hq⟩ v H' rel' kp vk=>⟨tru d,Qwa vk hs,k _ hq H' rel' kp⟩,o⟩
theorem Que{e:Q3}{w:DE}(h:PE X e (tX .P X.K E w))(he:∀whole,isTrue e X.env whole=(do let v <- whole;standAt e.pos;holding [v] (truthy v)):=by intro _;rfl):PT X e (tT X.K E (dTst w)):=by
 refine PT.imp (QwQ h he) λσ H Q ⟨F,δ,R,EX,rel,hw,k,o⟩=>?_
 refine⟨F,δ,_,EX,rel,hw,λd hd v H' rel' kp vk=>?_,o⟩;split at hd
 ·exact⟨_,DP.bool vk,k _ hd H' rel' kp⟩
 ·exact hd.elim
def QBm(wa wb:DT):DT:=λδ Q EX=>wa δ (λc=>if c=true then wb δ Q EX else Q false) EX
def dOr(wa wb:DT):DT:=λδ Q EX=>wa δ (λc=>if c=true then Q true else wb δ Q EX) EX
def QBd(wa:DT):DT:=λδ Q EX=>wa δ (λc=>Q (!c)) EX
theorem Qdu{c:Prop}[Decidable c]{p q p' q':Prop}(h:if c then p else q)(h1:p->p')(h2:q->q'):if c then p' else q':=by
 split at h
 ·rw[if_pos (by assumption)];exact h1 h
 ·rw[if_neg (by assumption)];exact h2 h
variable{rest:List Q3}{ta tb:DT}
theorem QpU(ha:PT X a (tT X.K E ta)):PW X (.BoolOp .And [a] pos) (tT X.K E ta):=QtU ha
theorem Quc(ha:PT X a (tT X.K E ta)):PW X (.BoolOp .Or [a] pos) (tT X.K E ta):=QwO ha
theorem Qud(ha:PT X a (tT X.K E ta))(hb:PW X (.BoolOp .And (b::rest) pos) (tT X.K E tb)):PW X (.BoolOp .And (a::b::rest) pos) (tT X.K E (QBm ta tb)):=by
 refine PW.imp (QwP ha hb) λσ H Q ⟨F,δ,R,EX,rel,hw,k,o⟩=>?_
 refine⟨F,δ,_,EX,rel,hw,λc hc H' rel' kp=>?_,o⟩;exact Qdu hc (λz=>⟨F,δ,R,EX,rel',z,λc hc H2 rel2 kp2=>k c hc H2 rel2 (kp.trans kp2),o⟩) λz=>k _ z H' rel' kp
theorem Qw3(ha:PT X a (tT X.K E ta))(hb:PW X (.BoolOp .Or (b::rest) pos) (tT X.K E tb)):PW X (.BoolOp .Or (a::b::rest) pos) (tT X.K E (dOr ta tb)):=by
 refine PW.imp (QzQ ha hb) λσ H Q ⟨F,δ,R,EX,rel,hw,k,o⟩=>?_
 refine⟨F,δ,_,EX,rel,hw,λc hc H' rel' kp=>?_,o⟩;exact Qdu hc (λz=>k _ z H' rel' kp) (λz=>⟨F,δ,R,EX,rel',z,λc hc H2 rel2 kp2=>k c hc H2 rel2 (kp.trans kp2),o⟩)
theorem Qug(ha:PT X a (tT X.K E ta)):PT X (.UnaryOp .Not a pos) (tT X.K E (QBd ta)):=by
 refine PT.imp (QwR ha) λσ H Q ⟨F,δ,R,EX,rel,hw,k,o⟩=>?_
 exact⟨F,δ,_,EX,rel,hw,λc hc H' rel' kp=>k _ hc H' rel' kp,o⟩
def Qyn(wa wb:DE):DE:=λδ Q EX=>wa δ (λd=>match d with
 |.bool c=>if c=true then wb δ Q EX else Q (.bool false)
 |_=>False) EX
def Qyk(wa:DE):DE:=λδ Q EX=>wa δ (λd=>match d with
 |.bool c=>Q (.bool (!c))
 |_=>False) EX
theorem Qw7{op}{w:DE}(h:PE X a (tX .D X.K E w)):PE X (.BoolOp op [a] pos) (tX .D X.K E w):=QwY h
theorem Qxg(ha:PE X a (tX .P X.K E wa))(hb:PE X (.BoolOp .And (b::rest) pos) (tX .D X.K E wb)):PE X (.BoolOp .And (a::b::rest) pos) (tX .D X.K E (Qyn wa wb)):=by
 refine PE.imp (Qw2 ha hb) λσ H Q ⟨F,δ,R,EX,rel,hw,k,o⟩=>?_
 refine⟨F,δ,_,EX,rel,hw,λd hd v H' rel' kp vk=>?_,o⟩;split at hd
 ·exact⟨_,DP.bool vk,Qdu hd (λz=>⟨F,δ,R,EX,rel',z,λd hd v H2 rel2 kp2=>k d hd v H2 rel2 (kp.trans kp2),o⟩) λz=>k _ z _ H' rel' kp (.bl _)⟩
 ·exact hd.elim
theorem Qw8(ha:PE X a (tX .P X.K E wa)):PE X (.UnaryOp .Not a pos) (tX .D X.K E (Qyk wa)):=by
 refine PE.imp (QwZ ha) λσ H Q ⟨F,δ,R,EX,rel,hw,k,o⟩=>?_
 refine⟨F,δ,_,EX,rel,hw,λd hd v H' rel' kp vk=>?_,o⟩;split at hd
 ·exact⟨_,DP.bool vk,k _ hd _ H' rel' kp (.bl _)⟩
 ·exact hd.elim
def QBi(t:DT)(wa wb:DE):DE:=λδ Q EX=>t δ (λc=>if c=true then wa δ Q EX else wb δ Q EX) EX
theorem Qxd{c:Q3}(hc:PT X c (tT X.K E ta))(ha:PE X a (tX .D X.K E wa))(hb:PE X b (tX .D X.K E wb)):PE X (.IfExp c a b pos) (tX .D X.K E (QBi ta wa wb)):=by
 refine PE.imp (QpS hc ha hb) λσ H Q ⟨F,δ,R,EX,rel,hw,k,o⟩=>?_
 refine⟨F,δ,_,EX,rel,hw,λd hd H' rel' kp=>?_,o⟩;exact Qdu hd (λz=>⟨F,δ,R,EX,rel',z,λd hd v H2 rel2 kp2=>k d hd v H2 rel2 (kp.trans kp2),o⟩) (λz=>⟨F,δ,R,EX,rel',z,λd hd v H2 rel2 kp2=>k d hd v H2 rel2 (kp.trans kp2),o⟩)
end
theorem Qga{A:Addr->Prop}{H H':Hp}{l:Addr}{xs:List V}{ds:List Qa}(dm:∀a,A a->∃xs,H a=some (.lst xs))(s:Same H H')(n:H l=none)(e:H' l=some (.lst xs))(q:DAs A H xs ds):DA A H' (.ref l) (.list ds):=
 .lst (λz=>by obtain⟨ys,e'⟩:=dm l z;rw[n] at e';cases e') e (q.same s)
theorem QhN{A:Addr->Prop}{H H':Hp}{l:Addr}{xs:List V}{ds:List Qa}(dm:∀a,A a->∃xs,H a=some (.lst xs))(s:Same H H')(e:H' l=some (.tup xs))(q:DAs A H xs ds):DA A H' (.ref l) (.tuple ds):=
 .tup (λz=>by obtain⟨ys,e'⟩:=dm l z;rw[s _ _ e'] at e;cases e) e (q.same s)
theorem Qby{H H':Hp}{l:Addr}(n:H l=none):FrV H H' (.ref l):=λl' e _=>by cases e;exact n
theorem Qfk{H H':Hp}{l:Addr}{xs:List V}(e:H' l=some (.tup xs)):FrV H H' (.ref l):=λl' e1 ⟨ys,e2⟩=>by cases e1;rw[e] at e2;cases e2
theorem Qae{H H':Hp}{i:Int}:FrV H H' (.int i):=λl' e _=>by cases e
theorem QaD{H H':Hp}{i:Bool}:FrV H H' (.bl i):=λl' e _=>by cases e
theorem Qvf{H H':Hp}:FrV H H' .non:=λl' e _=>by cases e
theorem DAs.rep{A:Addr->Prop}{H:Hp}{xs:List V}{ds:List Qa}(q:DAs A H xs ds):∀k:Nat,DAs A H (Jl k xs).flatten (Jl k ds).flatten
 |0=>.nil
 |k+1=>by rw[ZC,ZC,Yn,Yn];exact q.app (DAs.rep q k)
def QBU:Qa->Qa->(Qa->Prop)->Prop
 |.int i,.int j,Q=>Q (.int (i+j))
 |.tuple a,.tuple b,Q=>a.length+b.length<=1000000/\Q (.tuple (a++b))
 |.list a,.list b,Q=>a.length+b.length<=1000000/\Q (.list (a++b))
 |_,_,_=>False
def iiD(C:Int->Int->Prop)(f:Int->Int->Qa):Qa->Qa->(Qa->Prop)->Prop
 |.int i,.int j,Q=>C i j/\Q (f i j)
 |_,_,_=>False
def ii0(f:Int->Int->Qa):Qa->Qa->(Qa->Prop)->Prop
 |.int i,.int j,Q=>Q (f i j)
 |_,_,_=>False
def QBJ:Qa->Qa->(Qa->Prop)->Prop
 |.int i,.int j,Q=>(CMul i j∨CMulB i j)/\Q (.int (i*j))
 |.list a,.int k,Q=>(k<1000000 /\ -1000000<k/\a.length*k.toNat<=1000000)/\Q (.list (Jl k.toNat a).flatten)
 |_,_,_=>False
theorem Qjv:1000000<=sizeLine:=by show 1000000<=2^24;decide
section
variable{X:Cx}{E:XK}
theorem Qjp{C:Int->Int->Prop}{g:Int->Int->Int}:OpD (rI C λi j=>.int (g i j)) (iiD C λi j=>.int (g i j)):=λA P H x y d1 d2 R Q ln dm hx hy h k=>by
 cases d1<;>cases d2<;>first | exact h.elim | skip
 rw[hx.int,hy.int];exact⟨_,_,rfl,rfl,h.1,k _ h.2 _ H (Same.refl H) (.int _) Qae⟩
theorem QcM{g:Int->Int->Int}:OpD (rI0 λi j=>.int (g i j)) (ii0 λi j=>.int (g i j)):=λA P H x y d1 d2 R Q ln dm hx hy h k=>by
 cases d1<;>cases d2<;>first | exact h.elim | skip
 rw[hx.int,hy.int];exact⟨_,_,rfl,rfl,k _ h _ H (Same.refl H) (.int _) Qae⟩
theorem Qds{g:Int->Int->Bool}:OpD (rI0 λi j=>.bl (g i j)) (ii0 λi j=>.bool (g i j)):=λA P H x y d1 d2 R Q ln dm hx hy h k=>by
 cases d1<;>cases d2<;>first | exact h.elim | skip
 rw[hx.int,hy.int];exact⟨_,_,rfl,rfl,k _ h _ H (Same.refl H) (.bl _) QaD⟩
def rAdd:R2:=λx y H Q=>(rI0 (λi j=>.int (i+j)) x y H Q∨QwG x y H Q)∨QA0 x y H Q
theorem YK:OpR X (binaryOp .Add) rAdd:=OpR.or2 (OpR.or2 Qf8 QuI) Qxt
theorem QaM:OpD rAdd QBU:=λA P H x y d1 d2 R Q ln dm hx hy h k=>by
 cases d1<;>cases d2<;>first | exact h.elim | skip
 ·rw[hx.int,hy.int];exact .inl (.inl ⟨_,_,rfl,rfl,k _ h _ H (Same.refl H) (.int _) Qae⟩)
 ·obtain⟨l1,xs,rfl,e1,q1⟩:=hx.list;obtain⟨l2,ys,rfl,e2,q2⟩:=hy.list;refine .inr ⟨l1,l2,xs,ys,rfl,rfl,e1,e2,Q7 (by rw[q1.length,q2.length];exact h.1) Qjv,λp hp=>?_⟩;exact k _ h.2 _ _ (JX hp) (Qga dm (JX hp) hp J7 (q1.app q2)) (Qby hp)
 ·obtain⟨l1,xs,rfl,e1,q1⟩:=hx.tuple;obtain⟨l2,ys,rfl,e2,q2⟩:=hy.tuple;refine .inl (.inr ⟨l1,l2,xs,ys,rfl,rfl,e1,e2,Q7 (by rw[q1.length,q2.length];exact h.1) Qjv,λp H' s e=>?_⟩);exact k _ h.2 _ _ s (QhN dm s e (q1.app q2)) (Qfk e)
def QwD:R2:=λx y H Q=>(rI CMul (λi j=>.int (i*j)) x y H Q∨rI CMulB (λi j=>.int (i*j)) x y H Q)∨QAR x y H Q
theorem Qni:OpR X (binaryOp .Mult) QwD:=OpR.or2 (OpR.or2 Qf7 QuB) Qxl
theorem QsH:OpD QwD QBJ:=λA P H x y d1 d2 R Q ln dm hx hy h k=>by
 cases d1<;>cases d2<;>first | exact h.elim | skip
 ·rw[hx.int,hy.int];rcases h.1 with c | c
  ·exact .inl (.inl ⟨_,_,rfl,rfl,c,k _ h.2 _ H (Same.refl H) (.int _) Qae⟩)
  ·exact .inl (.inr ⟨_,_,rfl,rfl,c,k _ h.2 _ H (Same.refl H) (.int _) Qae⟩)
 ·obtain⟨l1,xs,rfl,e1,q1⟩:=hx.list;rw[hy.int];obtain⟨⟨h1,h2,h3⟩,h4⟩:=h;refine .inr ⟨l1,_,xs,rfl,rfl,e1,by omega,by omega,Q7 (by rw[q1.length];exact h3) Qjv,λp hp=>?_⟩;exact k _ h4 _ _ (JX hp) (Qga dm (JX hp) hp J7 (q1.rep _)) (Qby hp)
def eqD:Qa->Qa->(Qa->Prop)->Prop
 |.int i,.int j,Q=>Q (.bool (decide (i=j)))
 |.bool i,.bool j,Q=>Q (.bool (decide (i=j)))
 |.str i,.str j,Q=>Q (.bool (decide (i=j)))
 |a,b,Q=>(nd a=true/\nd b=true/\(a.depth<=50∨b.depth<=50))/\Q (.bool (Ju a b))
def neD:Qa->Qa->(Qa->Prop)->Prop
 |.int i,.int j,Q=>Q (.bool (!decide (i=j)))
 |.bool i,.bool j,Q=>Q (.bool (!decide (i=j)))
 |.str i,.str j,Q=>Q (.bool (!decide (i=j)))
 |a,b,Q=>(nd a=true/\nd b=true/\(a.depth<=50∨b.depth<=50))/\Q (.bool (!Ju a b))
theorem QxG{a b:Qa}(h:a.depth<=50∨b.depth<=50):min a.depth b.depth<=50:=by rcases h with h | h<;>omega
def QAZ(u:Nat):R2:=λx y H Q=>rEq x y H Q∨QAY u x y H Q
def QAT(u:Nat):R2:=λx y H Q=>rNe x y H Q∨QAS u x y H Q
theorem Qh4:OpR X (compareOp .Eq) (QAZ X.A.units):=OpR.or2 Qz3 Qxr
theorem Qek:OpR X (compareOp .NotEq) (QAT X.A.units):=OpR.or2 Qz2 Qxm
theorem Qyb{i j:Int}:decide (V.int i=V.int j)=decide (i=j):=by
 by_cases h:i=j
 ·subst h;simp
 ·rw[decide_eq_false h,decide_eq_false (λz=>h (V.int.inj z))]
theorem Qyc{i j:Bool}:decide (V.bl i=V.bl j)=decide (i=j):=by
 by_cases h:i=j
 ·subst h;simp
 ·rw[decide_eq_false h,decide_eq_false (λz=>h (V.bl.inj z))]
theorem Qya{i j:Str}:decide (V.str i=V.str j)=decide (i=j):=by
 by_cases h:i=j
 ·subst h;simp
 ·rw[decide_eq_false h,decide_eq_false (λz=>h (V.str.inj z))]
theorem Qnt{u:Nat}(hu:u+60<cLine):OpD (QAZ u) eqD:=λA P H x y d1 d2 R Q ln dm hx hy h k=>by
 unfold eqD at h;split at h
 ·rw[hx.int,hy.int];exact .inl ⟨rfl,k (.bool (decide (V.int _=V.int _))) (by rw[Qyb];exact h) _ H (Same.refl H) (.bl _) QaD⟩
 ·rw[hx.bool,hy.bool];exact .inl ⟨rfl,k (.bool (decide (V.bl _=V.bl _))) (by rw[Qyc];exact h) _ H (Same.refl H) (.bl _) QaD⟩
 ·rw[hx.str.1,hy.str.1];exact .inl ⟨rfl,k (.bool (decide (V.str _=V.str _))) (by rw[Qya];exact h) _ H (Same.refl H) (.bl _) QaD⟩
 ·obtain⟨⟨n1,n2,dp⟩,hR⟩:=h;have:=QxG dp;exact .inr ⟨_,_,hx.dat n1,hy.dat n2,by omega,k _ hR _ H (Same.refl H) (.bl _) QaD⟩
theorem Qh5{u:Nat}(hu:u+60<cLine):OpD (QAT u) neD:=λA P H x y d1 d2 R Q ln dm hx hy h k=>by
 unfold neD at h;split at h
 ·rw[hx.int,hy.int];exact .inl ⟨rfl,k (.bool (!decide (V.int _=V.int _))) (by rw[Qyb];exact h) _ H (Same.refl H) (.bl _) QaD⟩
 ·rw[hx.bool,hy.bool];exact .inl ⟨rfl,k (.bool (!decide (V.bl _=V.bl _))) (by rw[Qyc];exact h) _ H (Same.refl H) (.bl _) QaD⟩
 ·rw[hx.str.1,hy.str.1];exact .inl ⟨rfl,k (.bool (!decide (V.str _=V.str _))) (by rw[Qya];exact h) _ H (Same.refl H) (.bl _) QaD⟩
 ·obtain⟨⟨n1,n2,dp⟩,hR⟩:=h;have:=QxG dp;exact .inr ⟨_,_,hx.dat n1,hy.dat n2,by omega,k _ hR _ H (Same.refl H) (.bl _) QaD⟩
def QtN(u:Nat)(neg:Bool):R2:=λx y H Q=>∃c ps ds d,y=.ref c/\H c=some (.lst ps)/\Dats H ps ds/\Dat H x d/\u+d.depth<cLine/\Q (.bl (if neg then !(ds.any λe=>Ju e d) else ds.any λe=>Ju e d)) H
theorem QuE:OpR X (compareOp .In) (QtN X.A.in1.units false):=by
 intro pins s σ H x y v u Q I rx ry h;obtain⟨c,ps,ds,d,rfl,hc,qs,qx,hu,q⟩:=h;cases ry;obtain⟨⟨as,ra⟩,ca⟩:=Yr I.hok d x v qx rx;obtain⟨its,rv,pl,hz⟩:=I.list (SqL.of hc);obtain⟨⟨bs,rb⟩,cb⟩:=Qal I.hok ds ps its qs rv;refine SeqAt.in_listAt (eqH s.heap d) pl.isList (λw hw=>Qff ra ca rb cb hu w (QcF.mp hw)) ⟨.bl _,H,I,rfl,?_⟩;rw[show its.toArray.any (eqH s.heap d)=its.any (eqH s.heap d) by simp,Qfz rb cb];exact q
theorem Qly:OpR X (compareOp .NotIn) (QtN X.A.in1.units true):=by
 intro pins s σ H x y v u Q I rx ry h;obtain⟨c,ps,ds,d,rfl,hc,qs,qx,hu,q⟩:=h;cases ry;obtain⟨⟨as,ra⟩,ca⟩:=Yr I.hok d x v qx rx;obtain⟨its,rv,pl,hz⟩:=I.list (SqL.of hc);obtain⟨⟨bs,rb⟩,cb⟩:=Qal I.hok ds ps its qs rv;refine SeqAt.notIn_listAt (eqH s.heap d) pl.isList (λw hw=>Qff ra ca rb cb hu w (QcF.mp hw)) ⟨.bl _,H,I,rfl,?_⟩;rw[show its.toArray.any (eqH s.heap d)=its.any (eqH s.heap d) by simp,Qfz rb cb];exact q
def inD(neg:Bool)(d:Qa):Qa->(Qa->Prop)->Prop
 |.list ds,Q=>(nds ds=true/\nd d=true/\d.depth<=50)/\Q (.bool (if neg then !(ds.any λe=>Ju e d) else ds.any λe=>Ju e d))
 |.tuple ds,Q=>(nds ds=true/\nd d=true/\d.depth<=50)/\Q (.bool (if neg then !(ds.any λe=>Ju e d) else ds.any λe=>Ju e d))
 |_,_=>False
def QzL(u:Nat)(neg:Bool):R2:=λx y H Q=>QzK u neg x y H Q∨QtN u neg x y H Q
theorem Qxq:OpR X (compareOp .In) (QzL X.A.in1.units false):=OpR.or2 Qxo QuE
theorem Qnh:OpR X (compareOp .NotIn) (QzL X.A.in1.units true):=OpR.or2 Qnf Qly
theorem QxB{u:Nat}{neg:Bool}(hu:u+60<cLine):OpD (QzL u neg) (inD neg):=λA P H x y d1 d2 R Q ln dm hx hy h k=>by
 cases d2<;>first | exact h.elim | skip
 ·obtain⟨l,xs,rfl,e,q⟩:=hy.list;obtain⟨⟨n1,n2,n3⟩,hR⟩:=h;exact .inr ⟨l,xs,_,d1,rfl,e,Qbr _ _ n1 q,hx.dat n2,by omega,k _ hR _ H (Same.refl H) (.bl _) QaD⟩
 ·obtain⟨l,xs,rfl,e,q⟩:=hy.tuple;obtain⟨⟨n1,n2,n3⟩,hR⟩:=h;exact .inl ⟨l,xs,_,d1,rfl,e,Qbr _ _ n1 q,hx.dat n2,by omega,k _ hR _ H (Same.refl H) (.bl _) QaD⟩
def QAg:Qa->Bool
 |.none=>true
 |_=>false
def isD:Qa->Qa->(Qa->Prop)->Prop
 |.bool a,.bool b,Q=>Q (.bool (a == b))
 |a,.none,Q=>Q (.bool (QAg a))
 |_,_,_=>False
def QA5:Qa->Qa->(Qa->Prop)->Prop
 |.bool a,.bool b,Q=>Q (.bool (a != b))
 |a,.none,Q=>Q (.bool (!QAg a))
 |_,_,_=>False
theorem Qjn:OpR X (compareOp .IsNot) (λx y H Q=>∃a b,x=.bl a/\y=.bl b/\Q (.bl (a != b)) H):=by
 intro pins s σ H x y v u Q I rx ry h;obtain⟨a,b,rfl,rfl,q⟩:=h;cases(show v=QaQ a from rx);cases(show u=QaQ b from ry);refine isnot_bool ?_
 exact⟨.bl _,H,I,rfl,q⟩
def QwF:R2:=λx y H Q=>(∃a b,x=.bl a/\y=.bl b/\Q (.bl (a != b)) H)∨(y=.non/\Q (.bl (!decide (x=.non))) H)
theorem QuD:OpR X (compareOp .IsNot) QwF:=OpR.or2 Qjn QuA
theorem Qx8{A P:Addr->Prop}{H:Hp}{v:V}{d:Qa}(h:DP A P H v d):decide (v=.non)=QAg d:=by
 rcases h with h | ⟨l,xs,ds',rfl,rfl,_⟩
 ·cases h<;>first | rfl | exact decide_eq_false (λz=>by cases z)
 ·exact decide_eq_false (λz=>by cases z)
theorem QxA:OpD QwF QA5:=λA P H x y d1 d2 R Q ln dm hx hy h k=>by
 unfold QA5 at h;split at h
 ·rw[hx.bool,hy.bool];exact .inl ⟨_,_,rfl,rfl,k _ h _ H (Same.refl H) (.bl _) QaD⟩
 ·refine .inr ⟨hy.none,?_⟩;rw[Qx8 hx];exact k _ h _ H (Same.refl H) (.bl _) QaD
 ·exact h.elim
def ixD:Qa->Qa->(Qa->Prop)->Prop
 |.list ds,.int i,Q=>∃d,atI ds i=some d/\Q d
 |.tuple ds,.int i,Q=>∃d,atI ds i=some d/\Q d
 |_,_,_=>False
theorem Qs7{A:Addr->Prop}{H:Hp}{xs:List V}{ds:List Qa}{i:Int}{d:Qa}(q:DAs A H xs ds)(h:atI ds i=some d):∃v,atI xs i=some v/\DA A H v d:=by
 unfold atI at h ⊢;rw[q.length];cases e:ixN ds.length i with
 |none=>rw[e] at h;cases h
 |some j=>
  rw[e] at h;exact q.get j d h
def QAW(K:PySem.W.Frag):R2:=λx y H Q=>QyX K x y H Q∨QAV K x y H Q
theorem Z0:IxR X (QAW X.K):=IxR.or2 Qg5 QxT
theorem Qax{K:PySem.W.Frag}:Qr4 (QAW K) ixD:=λA P H x y d1 d2 R Q ln dm hx hy h k=>by
 cases d1<;>cases d2<;>first | exact h.elim | skip
 ·obtain⟨l,xs,rfl,e,q⟩:=hx.list;obtain⟨d,hd,hR⟩:=h;obtain⟨v,hv,dv⟩:=Qs7 q hd;rw[hy.int];exact .inl ⟨l,xs,_,v,rfl,rfl,SqL.of e,hv,k d hR v H (Same.refl H) dv⟩
 ·obtain⟨l,xs,rfl,e,q⟩:=hx.tuple;obtain⟨d,hd,hR⟩:=h;obtain⟨v,hv,dv⟩:=Qs7 q hd;rw[hy.int];exact .inr ⟨l,xs,_,v,rfl,rfl,SqT.of e,hv,k d hR v H (Same.refl H) dv⟩
def dUn(rD:Qa->(Qa->Prop)->Prop)(wa:DE):DE:=λδ Q EX=>wa δ (λd=>rD d Q) EX
def QA1:Qa->(Qa->Prop)->Prop
 |.int i,Q=>Q (.int (-i))
 |_,_=>False
variable{a b c:Q3}{wa wb wc:DE}{pos:Pos}
theorem Qxa(ha:PE X a (tX .P X.K E wa)):PE X (.UnaryOp .USub a pos) (tX .F X.K E (dUn QA1 wa)):=by
 refine PE.imp (QzT Qv5 ha) λσ H Q ⟨F,δ,R,EX,rel,hw,k,o⟩=>?_
 refine⟨F,δ,_,EX,rel,hw,λd hd v H' rel' kp vk=>?_,o⟩;cases d<;>first | exact(show False from hd).elim | skip
 exact⟨_,DP.int vk,k _ hd _ H' rel' kp ⟨.int _,Qae⟩⟩
def dCh(p q:Int->Int->Bool)(wa wb wc:DE):DE:=λδ Q EX=>wa δ (λx=>wb δ (λy=>match x,y with
 |.int i,.int j=>if p i j=true then wc δ (λz=>match z with
  |.int k=>Q (.bool (q j k))
  |_=>False) EX else Q (.bool false)
 |_,_=>False) EX) EX
theorem Qvx{K:PySem.W.Frag}{p q:Int->Int->Bool}(σ:L2.St)(H:Hp)(Q:VK)(h:tX .F K E (dCh p q wa wb wc) σ H Q) :
  Qsl (rI0 λi j=>.bl (p i j)) (rI0 λi j=>.bl (q i j)) (tX .P K E wa) (tX .P K E wb) (tX .P K E wc) σ H Q:=by
 obtain⟨F,δ,R,EX,rel,hw,k,o⟩:=h;refine⟨F,δ,_,EX,rel,hw,λd1 h1 x H1 rel1 kp1 x1=>⟨F,δ,_,EX,rel1,h1,λd2 h2 y H2 rel2 kp2 y2=>?_,o⟩,o⟩;cases d1<;>cases d2<;>first | exact(show False from h2).elim | skip
 rw[DP.int x1,DP.int y2];refine⟨_,_,rfl,rfl,_,rfl,Qdu h2 (λz=>⟨F,δ,_,EX,rel2,z,λd3 h3 v H3 rel3 kp3 v3=>?_,o⟩) λz=>k _ z _ H2 rel2 (kp1.trans kp2) ⟨.bl _,QaD⟩⟩;cases d3<;>first | exact(show False from h3).elim | skip
 rw[DP.int v3];exact⟨_,_,rfl,rfl,k _ h3 _ H3 rel3 ((kp1.trans kp2).trans kp3) ⟨.bl _,QaD⟩⟩
theorem QzY{op op':Qtm}{p q:Int->Int->Bool}(ho:OpR X (compareOp op) (rI0 λi j=>.bl (p i j)))(ho':OpR X (compareOp op') (rI0 λi j=>.bl (q i j)))(ha:PE X a (tX .P X.K E wa))(hb:PE X b (tX .P X.K E wb))(hc:PE X c (tX .P X.K E wc))(hm:lastMarks [op,op'] [b,c]=false:=by with_unfolding_all rfl) :
  PE X (.Compare a [op,op'] [b,c] pos) (tX .F X.K E (dCh p q wa wb wc)):=PE.imp (QpT ho ho' ha hb hc (hm:=hm)) Qvx
def QBe:DAr:=λ_ Q _=>Q []
def Qoj(we:DE)(wr:DAr):DAr:=λδ Q EX=>we δ (λd=>wr δ (λds=>Q (d::ds)) EX) EX
theorem Qut{m:Md}:PA X [] (tAr 0 m X.K E QBe):=PA.imp YJ λσ H Q ⟨F,δ,R,EX,rel,hw,k,o⟩=>k [] hw rfl [] H rel (Kp.refl rel) .nil
theorem QoF{n:Nat}{m:Md}{K:PySem.W.Frag}{we:DE}{wr:DAr}(hm:∀{F:Fm}{σ:L2.St}{δ:Sts}{H H':Hp}{v:V}{d:Qa},Vok m F σ δ H H' v d->VD m (Av F σ δ) (YB σ δ) H' v d)(σ:L2.St)(H:Hp)(Q:List V->Hp->Prop)(h:tAr (n+1) m K E (Qoj we wr) σ H Q):Qi3 (tX m K E we) (tAr n m K E wr) σ H Q:=by
 obtain⟨F,δ,R,EX,rel,hw,k,o⟩:=h;refine⟨F,δ,_,EX,rel,hw,λd hd v H' rel' kp vk=>⟨F,δ,_,EX,rel',hd,λds hds hl vs H2 rel2 kp2 vks=>?_,o⟩,o⟩;exact k _ hds (by rw[Qt,hl]) (v::vs) H2 rel2 (kp.trans kp2) (.cons (kp2.vd (hm vk)) vks)
theorem Qna{n:Nat}{e:Q3}{es:List Q3}{we:DE}{wr:DAr}(he:PE X e (tX .D X.K E we))(hr:PA X es (tAr n .D X.K E wr))(hs:notStar e=true:=by rfl):PA X (e::es) (tAr (n+1) .D X.K E (Qoj we wr)):=PA.imp (Qej he hr hs) (QoF λh=>h)
theorem Qm9{n:Nat}{e:Q3}{es:List Q3}{we:DE}{wr:DAr}(he:PE X e (tX .P X.K E we))(hr:PA X es (tAr n .P X.K E wr))(hs:notStar e=true:=by rfl):PA X (e::es) (tAr (n+1) .P X.K E (Qoj we wr)):=PA.imp (Qej he hr hs) (QoF λh=>h)
theorem Qd1{A P:Addr->Prop}{H:Hp}:∀{vs:List V}{ds:List Qa},QbK (VD .D A P H) vs ds->DAs A H vs ds
 |_,_,.nil=>.nil
 |_,_,.cons a b=>.cons a (Qd1 b)
def QBa(w:DAr):DE:=λδ Q EX=>w δ (λds=>Q (.tuple ds)) EX
def QBf(w:DAr):DE:=λδ Q EX=>w δ (λds=>Q (.list ds)) EX
theorem Qw6{n:Nat}{es:List Q3}{w:DAr}{x1}(h:PA X es (tAr n .D X.K E w))(hn:n<=1000:=by decide):PE X (.Tuple es x1 pos) (tX .F X.K E (QBa w)):=by
 refine PE.imp (Qt7 h) λσ H Q ⟨F,δ,R,EX,rel,hw,k,o⟩=>?_
 refine⟨F,δ,_,EX,rel,hw,λds hds hl vs H' rel' kp q=>?_,o⟩;have q':=Qd1 q;refine⟨by rw[q'.length,hl];exact hn,λa H2 s n e=>k _ hds _ H2 (rel'.same s) (kp.trans (Kp.same rel' s)) ⟨QhN (λa ha=>rel'.isl ha) s e q',Qfk e⟩⟩
theorem Qcf{σ:L2.St}{δ:Sts}{H H':Hp}{l:Addr}(k:Kp σ δ H H')(n:H' l=none):H l=none:=by
 cases e:H l with
 |none=>rfl
 |some ob=>
  by_cases z:YB σ δ l
  ·obtain⟨m,em⟩:=k.2 l z;rw[em] at n;cases n
  ·rw[k.1 _ _ z e] at n;cases n
theorem Qxb{n:Nat}{es:List Q3}{w:DAr}(h:PA X es (tAr n .D X.K E w))(hn:n<=1000:=by decide):PE X (.List es pos) (tX .F X.K E (QBf w)):=by
 refine PE.imp (Qt8 h) λσ H Q ⟨F,δ,R,EX,rel,hw,k,o⟩=>?_
 refine⟨F,δ,_,EX,rel,hw,λds hds hl vs H' rel' kp q=>?_,o⟩;have q':=Qd1 q;refine⟨by rw[q'.length,hl];exact hn,λa H2 s n e=>k _ hds _ H2 (rel'.same s) (kp.trans (Kp.same rel' s)) ⟨Qga (λa ha=>rel'.isl ha) s n e q',Qby (Qcf kp n)⟩⟩
def Qc3(r:List V->Hp->VK->Prop)(rD:List Qa->(Qa->Prop)->Prop):Prop:=∀(A P:Addr->Prop)(H:Hp)(vs:List V)(ds:List Qa)(R:Qa->Prop)(Q:VK),Qc2 H->(∀a,A a->∃xs,H a=some (.lst xs))->QbK (DP A P H) vs ds->rD ds R ->
 (∀d,R d->∀v H',Same H H'->DA A H' v d->FrV H H' v->Q v H')->r vs H Q
def dCB(rD:List Qa->(Qa->Prop)->Prop)(wa:DAr):DE:=λδ Q EX=>wa δ (λds=>rD ds Q) EX
theorem Qos{n:Nat}{K:PySem.W.Frag}{r:List V->Hp->VK->Prop}{rD:List Qa->(Qa->Prop)->Prop}{wa:DAr}(hd:Qc3 r rD)(σ:L2.St)(H:Hp)(Q:VK)(h:tX .F K E (dCB rD wa) σ H Q) :
  tCB (λxs H Q=>Qc2 H->r xs H Q) (tAr n .P K E wa) σ H Q:=by
 obtain⟨F,δ,R,EX,rel,hw,k,o⟩:=h;refine⟨F,δ,_,EX,rel,hw,λds hds hl vs H' rel' kp q ln=>?_,o⟩;refine hd (Av F σ δ) (YB σ δ) H' vs ds R Q ln (λa ha=>rel'.isl ha) q hds λd hR v H2 s dv fr=>?_
 exact k d hR v H2 (rel'.same s) (kp.trans (Kp.same rel' s)) ⟨dv,λl e1 e2=>Qcf kp (fr l e1 e2)⟩
variable{x:Str}{bid T:String}{p:Pos}{e:Q3}{es:List Q3}{n:Nat}{wr:DAr}{r:List V->Hp->VK->Prop}{rD:List Qa->(Qa->Prop)->Prop}
theorem Qrd(hc:CallR X (.builtin bid) r)(hd:Qc3 r rD)(hg:Gl X x)(hm:X.mg x=none)(hv:bootBuiltins x=some (.builtin bid))(ha:PA X (e::es) (tAr n .P X.K E wr))(hn:x ≠ "__name__" := by decide)(hdb:(x == ("__debug__" : Str))=false:=by decide)
  (he:starEach (e::es) X.env=(false,eval e X.env)::starEach es X.env:=by rfl)(hpl:(backTo pos (starEach es X.env)).any (·.1)=false:=by rfl):PE X (.Call (.Name x p) (e::es) [] pos) (tX .F X.K E (dCB rD wr)):=
 PE.imp (Qct (CallR.len hc) hg hm hv ha hn hdb he hpl) (Qos hd)
theorem Qnc(hc:CallR X (.type T) r)(hd:Qc3 r rD)(hg:Gl X x)(hm:X.mg x=none)(hv:bootBuiltins x=some (.type T))(ha:PA X (e::es) (tAr n .P X.K E wr))(hn:x ≠ "__name__" := by decide)(hdb:(x == ("__debug__" : Str))=false:=by decide)
  (he:starEach (e::es) X.env=(false,eval e X.env)::starEach es X.env:=by rfl)(hpl:(backTo pos (starEach es X.env)).any (·.1)=false:=by rfl):PE X (.Call (.Name x p) (e::es) [] pos) (tX .F X.K E (dCB rD wr)):=
 PE.imp (Qe9 (CallR.len hc) hg hm hv ha hn hdb he hpl) (Qos hd)
theorem pd1{A P:Addr->Prop}{H:Hp}{vs:List V}{d:Qa}(q:QbK (DP A P H) vs [d]):∃v,vs=[v]/\DP A P H v d:=by
 cases q with
 |cons a b=>cases b;exact⟨_,rfl,a⟩
theorem pd2{A P:Addr->Prop}{H:Hp}{vs:List V}{d d':Qa}(q:QbK (DP A P H) vs [d,d']):∃v v',vs=[v,v']/\DP A P H v d/\DP A P H v' d':=by
 cases q with
 |cons a b=>cases b with | cons b c=>cases c;exact⟨_,_,rfl,a,b⟩
def QA2:List Qa->(Qa->Prop)->Prop
 |[.list ds],Q=>Q (.int ds.length)
 |[.tuple ds],Q=>Q (.int ds.length)
 |_,_=>False
theorem Qfv{K:PySem.W.Frag}:Qc3 (QwE K) QA2:=λA P H vs ds R Q ln dm q h k=>by
 unfold QA2 at h;split at h
 ·obtain⟨v,rfl,hv⟩:=pd1 q;obtain⟨l,xs,rfl,e,qq⟩:=hv.list;exact⟨l,xs,rfl,.inl (SqL.of e),by rw[qq.length];exact k _ h _ H (Same.refl H) (.int _) Qae⟩
 ·obtain⟨v,rfl,hv⟩:=pd1 q;obtain⟨l,xs,rfl,e,qq⟩:=hv.tuple;exact⟨l,xs,rfl,.inr (SqT.of e),by rw[qq.length];exact k _ h _ H (Same.refl H) (.int _) Qae⟩
 ·exact h.elim
theorem Qbb:CallR X (.builtin "len") (QwE X.K):=Qcj
def QuX:List Qa->(Qa->Prop)->Prop
 |[.int i,.int j],Q=>Q (.int (if j<i then j else i))
 |_,_=>False
def QxH:List Qa->(Qa->Prop)->Prop
 |[.int i,.int j],Q=>Q (.int (if j > i then j else i))
 |_,_=>False
theorem Qoq:Qc3 (λxs H Q=>∃i j,xs=[.int i,.int j]/\Q (.int (if j<i then j else i)) H) QuX:=λA P H vs ds R Q ln dm q h k=>by
 unfold QuX at h;split at h
 ·obtain⟨v,v',rfl,h1,h2⟩:=pd2 q;rw[h1.int,h2.int];exact⟨_,_,rfl,k _ h _ H (Same.refl H) (.int _) Qae⟩
 ·exact h.elim
theorem Qvy:Qc3 (λxs H Q=>∃i j,xs=[.int i,.int j]/\Q (.int (if j > i then j else i)) H) QxH:=λA P H vs ds R Q ln dm q h k=>by
 unfold QxH at h;split at h
 ·obtain⟨v,v',rfl,h1,h2⟩:=pd2 q;rw[h1.int,h2.int];exact⟨_,_,rfl,k _ h _ H (Same.refl H) (.int _) Qae⟩
 ·exact h.elim
def Qck:List Qa->Option (List Bool)
 |[]=>some []
 |.bool b::ds=>(Qck ds).map (b::·)
 |_::_=>none
def QdA:List Qa->Option (List Int)
 |[]=>some []
 |.int b::ds=>(QdA ds).map (b::·)
 |_::_=>none
theorem QoB(bs:List Bool):Qck (bs.map Qb8)=some bs:=by
 induction bs with
 |nil=>rfl
 |cons b bs ih=>rw[JI,Qck,ih];rfl
theorem ints_map(bs:List Int):QdA (bs.map QN)=some bs:=by
 induction bs with
 |nil=>rfl
 |cons b bs ih=>rw[JI,QdA,ih];rfl
theorem bools_eq:∀{ds:List Qa}{bs:List Bool},Qck ds=some bs->ds=bs.map Qb8
 |[],bs,h=>by cases h;rfl
 |d::ds,bs,h=>by
  cases d<;>first | (unfold Qck at h;cases h;done) | skip
  rw[Qck] at h;obtain⟨cs,h1,rfl⟩:=YC.mp h;rw[bools_eq h1];rfl
theorem Qjz:∀{ds:List Qa}{bs:List Int},QdA ds=some bs->ds=bs.map QN
 |[],bs,h=>by cases h;rfl
 |d::ds,bs,h=>by
  cases d<;>first | (unfold QdA at h;cases h;done) | skip
  rw[QdA] at h;obtain⟨cs,h1,rfl⟩:=YC.mp h;rw[Qjz h1];rfl
theorem Qil{A:Addr->Prop}{H:Hp}:∀{bs:List Bool}{xs:List V},DAs A H xs (bs.map Qb8)->xs=bs.map V.bl
 |[],_,.nil=>rfl
 |b::bs,_,.cons (.bl _) r=>by rw[Qil r];rfl
theorem Qhd{A:Addr->Prop}{H:Hp}:∀{bs:List Int}{xs:List V},DAs A H xs (bs.map QN)->xs=bs.map V.int
 |[],_,.nil=>rfl
 |b::bs,_,.cons (.int _) r=>by rw[Qhd r];rfl
@[irreducible] def Qy1:List Qa->(Qa->Prop)->Prop
 |[.list ds],Q=>∃bs,Qck ds=some bs/\Q (.bool (bs.all id))
 |_,_=>False
theorem Qor{K:PySem.W.Frag}{cm:Bool}(hc:cm=true):Qc3 (λxs H Q=>∃(p:Addr)(bs:List Bool),xs=[.ref p]/\SqL K H p (bs.map V.bl)/\cm=true/\Q (.bl (bs.all id)) H) Qy1:=λA P H vs ds R Q ln dm q h k=>by
 unfold Qy1 at h;split at h
 ·obtain⟨v,rfl,hv⟩:=pd1 q;obtain⟨bs,hb,hR⟩:=h;rw[bools_eq hb] at hv;obtain⟨l,xs,rfl,e,qq⟩:=hv.list;rw[Qil qq] at e;exact⟨l,bs,rfl,SqL.of e,hc,k _ hR _ H (Same.refl H) (.bl _) QaD⟩
 ·exact h.elim
@[irreducible] def QyV:List Qa->(Qa->Prop)->Prop
 |[.list ds],Q=>∃ns,QdA ds=some ns/\Q (.int ns.sum)
 |_,_=>False
theorem Qs2{K:PySem.W.Frag}:Qc3 (Qwy K) QyV:=λA P H vs ds R Q ln dm q h k=>by
 unfold QyV at h;split at h
 ·obtain⟨v,rfl,hv⟩:=pd1 q;obtain⟨bs,hb,hR⟩:=h;rw[Qjz hb] at hv;obtain⟨l,xs,rfl,e,qq⟩:=hv.list;rw[Qhd qq] at e;exact⟨l,bs,rfl,SqL.of e,k _ hR _ H (Same.refl H) (.int _) Qae⟩
 ·exact h.elim
def Qsj:List Qa->(Qa->Prop)->Prop
 |[.list ds],Q=>Q (.tuple ds)
 |[.tuple ds],Q=>Q (.tuple ds)
 |_,_=>False
def QxK:List Qa->(Qa->Prop)->Prop
 |[.list ds],Q=>Q (.list ds)
 |[.tuple ds],Q=>Q (.list ds)
 |_,_=>False
theorem Qhf{K:PySem.W.Frag}:Qc3 (QmP K) Qsj:=λA P H vs ds R Q ln dm q h k=>by
 unfold Qsj at h;split at h
 ·obtain⟨v,rfl,hv⟩:=pd1 q;obtain⟨l,xs,rfl,e,qq⟩:=hv.list;exact⟨l,xs,rfl,.inl ⟨SqL.of e,λl' H' s n e'=>k _ h _ H' s (QhN dm s e' qq) (Qfk e')⟩⟩
 ·obtain⟨v,rfl,hv⟩:=pd1 q;obtain⟨l,xs,rfl,e,qq⟩:=hv.tuple;exact⟨l,xs,rfl,.inr ⟨SqT.of e,k _ h _ H (Same.refl H) (QhN dm (Same.refl H) e qq) (Qfk e)⟩⟩
 ·exact h.elim
theorem Qvz{K:PySem.W.Frag}:Qc3 (QmR K) QxK:=λA P H vs ds R Q ln dm q h k=>by
 unfold QxK at h;split at h
 ·obtain⟨v,rfl,hv⟩:=pd1 q;obtain⟨l,xs,rfl,e,qq⟩:=hv.list;exact⟨l,xs,rfl,.inl (SqL.of e),λl' H' s n e'=>k _ h _ H' s (Qga dm s n e' qq) (Qby n)⟩
 ·obtain⟨v,rfl,hv⟩:=pd1 q;obtain⟨l,xs,rfl,e,qq⟩:=hv.tuple;exact⟨l,xs,rfl,.inr (SqT.of e),λl' H' s n e'=>k _ h _ H' s (Qga dm s n e' qq) (Qby n)⟩
 ·exact h.elim
end
section
variable{X:Cx}{E:XK}
inductive Tn where | int | bool | str | tuple | list
def Tn.s:Tn->String
 |.int => "int"
 |.bool => "bool"
 |.str => "str"
 |.tuple => "tuple"
 |.list => "list"
def isT:Tn->Qa->Bool
 |.int,.int _=>true
 |.int,.bool _=>true
 |.bool,.bool _=>true
 |.str,.str _=>true
 |.tuple,.tuple _=>true
 |.list,.list _=>true
 |_,_=>false
theorem Qvb{K:PySem.W.Frag}{A P:Addr->Prop}{H:Hp}{v:V}{d:Qa}(tn:Tn)(h:DP A P H v d):∃t,TyOf K H v t/\PySem.W.kitOne K t (.type tn.s)=some (isT tn d):=by
 rcases h with h | ⟨l,xs,ds,rfl,rfl,_,e,q⟩
 ·cases h with
  |non=>exact⟨_,.non,by cases tn<;>rfl⟩
  |bl b=>exact⟨_,.bl _,by cases tn<;>rfl⟩
  |int i=>exact⟨_,.int _,by cases tn<;>rfl⟩
  |str x c=>exact⟨_,.str _,by cases tn<;>rfl⟩
  |tup n e q=>exact⟨_,.tup e,by cases tn<;>rfl⟩
  |lst n e q=>exact⟨_,.lst e,by cases tn<;>rfl⟩
  |dct n e q=>exact⟨_,.dK e,by cases tn<;>rfl⟩
 ·exact⟨_,.lst e,by cases tn<;>rfl⟩
def Qyl(tn:Tn)(we:DE):DE:=λδ Q EX=>we δ (λd=>Q (.bool (isT tn d))) EX
theorem Quv{e f:Q3}{we:DE}{p pos:Pos}(tn:Tn)(hg:Gl X "isinstance")(hm:X.mg "isinstance" = none)(he:PE X e (tX .P X.K E we))(hf:PE X f (tC (.ty tn.s)))(h1:notStar e=true:=by rfl)(h2:notStar f=true:=by rfl) :
  PE X (.Call (.Name "isinstance" p) [e,f] [] pos) (tX .F X.K E (Qyl tn we)):=by
 refine PE.imp (Qct QjJ hg hm Qhm (Qej he (Qej hf YJ h2) h1) (he:=Z4 h1) (hpl:=by rw[Z4 h2];rfl)) λσ H Q ⟨F,δ,R,EX,rel,hw,k,o⟩=>?_
 refine⟨F,δ,_,EX,rel,hw,λd hd v H' rel' kp vk=>?_,o⟩;obtain⟨t,ty,et⟩:=Qvb (K:=X.K) tn vk;exact⟨v,t,tn.s,_,rfl,ty,et,k _ hd _ H' rel' kp ⟨.bl _,QaD⟩⟩
theorem Qz0{x:Str}{pos:Pos}(tn:Tn)(hg:Gl X x)(hm:X.mg x=none)(hv:bootBuiltins x=some (.type tn.s))(hn:x ≠ "__name__" := by decide)(hd:(x == ("__debug__" : Str))=false:=by decide):PE X (.Name x pos) (tC (.ty tn.s)):=Qub (v:=.ty tn.s) hg hm hv rfl hn hd
abbrev DO:=Sts->(Option Int->Prop)->XP->Prop
def tO(K:PySem.W.Frag)(E:XK)(w:DO):TO:=λσ H Q=>∃(F:Fm)(δ:Sts)(R:Option Int->Prop)(EX:XP),Rel K F σ H δ/\w δ R EX/\(∀d,R d->∀H',Rel K F σ H' δ->Kp σ δ H H'->Q d H')/\Out F E EX
def dNo:DO:=λ_ Q _=>Q none
def dSo(we:DE):DO:=λδ Q EX=>we δ (λd=>match d with
 |.int i=>Q (some i)
 |_=>False) EX
theorem PO.imp{e:Option Q3}{t t':TO}(h:PO X e t)(i:∀σ H Q,t' σ H Q->t σ H Q):PO X e t':=λpins s σ H Q I q=>h pins s σ H Q I (i σ H Q q)
theorem Qp5:PO X none (tO X.K E dNo):=PO.imp Qt1 λσ H Q ⟨F,δ,R,EX,rel,hw,k,o⟩=>k _ hw H rel (Kp.refl rel)
theorem Qp4{e:Q3}{we:DE}(he:PE X e (tX .P X.K E we)):PO X (some e) (tO X.K E (dSo we)):=by
 refine PO.imp (Qt0 he) λσ H Q ⟨F,δ,R,EX,rel,hw,k,o⟩=>?_
 refine⟨F,δ,_,EX,rel,hw,λd hd v H' rel' kp vk=>?_,o⟩;cases d<;>first | exact(show False from hd).elim | skip
 exact⟨_,DP.int vk,k _ hd H' rel' kp⟩
def cutD(xs:List Qa)(lo hi:Option Int):List Qa:=(xs.drop (HT.sIx xs.length 0 lo)).take (HT.sIx xs.length xs.length hi - HT.sIx xs.length 0 lo)
theorem Qol{A:Addr->Prop}{H:Hp}{xs:List V}{ds:List Qa}(q:DAs A H xs ds)(lo hi:Option Int):DAs A H (QkU xs lo hi) (cutD ds lo hi):=by
 unfold QkU cutD;rw[q.length];exact(q.drop _).take _
def slD(d:Qa)(lo hi:Option Int)(Q:Qa->Prop):Prop:=
 match d with
 |.list ds=>Q (.list (cutD ds lo hi))
 |.tuple ds=>Q (.tuple (cutD ds lo hi))
 |_=>False
def dSl(we:DE)(wl wh:DO):DE:=λδ Q EX=>we δ (λd=>wl δ (λlo=>wh δ (λhi=>slD d lo hi Q) EX) EX) EX
def QwB(K:PySem.W.Frag):V->Option Int->Option Int->Hp->VK->Prop:=λx a b H Q=>QAQ x a b H Q∨QwA K x a b H Q
theorem Qrb{e:Q3}{lo hi:Option Q3}{we:DE}{wl wh:DO}{p2 pos:Pos}(he:PE X e (tX .P X.K E we))(hl:PO X lo (tO X.K E wl))(hh:PO X hi (tO X.K E wh)):PE X (.Subscript e (.Slice lo hi none p2) pos) (tX .F X.K E (dSl we wl wh)):=by
 refine PE.imp (QpO (r:=QwB X.K) (SlR.or2 Qwp Qpm) he hl hh) λσ H Q ⟨F,δ,R,EX,rel,hw,k,o⟩=>?_
 refine⟨F,δ,_,EX,rel,hw,λd hd v H1 rel1 kp1 vk=>⟨F,δ,_,EX,rel1,hd,λa ha H2 rel2 kp2=>⟨F,δ,_,EX,rel2,ha,λb hb H3 rel3 kp3=>?_,o⟩,o⟩,o⟩;have v3:=kp3.dp (kp2.dp vk);have K3:=(kp1.trans kp2).trans kp3;cases d<;>first | exact(show False from hb).elim | skip
 ·obtain⟨l,xs,rfl,e,q⟩:=DP.list v3;exact .inr ⟨l,xs,rfl,SqL.of e,λp H' s n e'=>k _ hb _ H' (rel3.same s) (K3.trans (Kp.same rel3 s)) ⟨Qga (λa ha=>rel3.isl ha) s n e' (Qol q _ _),Qby (Qcf K3 n)⟩⟩
 ·obtain⟨l,xs,rfl,e,q⟩:=DP.tuple v3;exact .inl ⟨l,xs,rfl,e,λp H' s e'=>k _ hb _ H' (rel3.same s) (K3.trans (Kp.same rel3 s)) ⟨QhN (λa ha=>rel3.isl ha) s e' (Qol q _ _),Qfk e'⟩⟩
abbrev DF:=List Sl->(Qa->Prop)->XP->Prop
def Kq(pt:Addr->Prop)(H H':Hp):Prop:=(∀b o,¬pt b->H b=some o->H' b=some o)/\∀p,pt p->∃n,H' p=some (.lst [.int n])
def ZA(fr:Bool)(f:DF):Sp:=λvs H Q Ex=>∃(A pt:Addr->Prop)(args:List Sl)(R:Qa->Prop)(EX:XP),(∀a,A a->∃xs,H a=some (.lst xs))/\(∀p,pt p->A p/\∃n,H p=some (.lst [.int n]))/\QbK (QlT A pt H) vs args/\f args R EX /\
 (∀d,R d->∀v H',Kq pt H H'->DA A H' v d->(fr=true->FrV H H' v)->Q v H')/\∀C,EX C->∀H',Kq pt H H'->Ex (.ref C) none H'
def QAP:DSl:=λ_ Q _=>Q []
def sV(we:DE)(wr:DSl):DSl:=λδ Q EX=>we δ (λd=>wr δ (λds=>Q (.v d::ds)) EX) EX
def QzH(i:Nat)(wr:DSl):DSl:=λδ Q EX=>match δ[i]? with
 |some .pot=>wr δ (λds=>Q (.pot::ds)) EX
 |_=>False
theorem Qul:PA X [] (tAs X.K E QAP):=PA.imp YJ λσ H Q ⟨F,δ,R,EX,rel,hw,k,o⟩=>k [] hw [] H rel (Kp.refl rel) .nil
theorem QzV{e:Q3}{es:List Q3}{we:DE}{wr:DSl}(he:PE X e (tX .D X.K E we))(hr:PA X es (tAs X.K E wr))(hs:notStar e=true:=by rfl):PA X (e::es) (tAs X.K E (sV we wr)):=by
 refine PA.imp (Qej he hr hs) λσ H Q ⟨F,δ,R,EX,rel,hw,k,o⟩=>?_
 refine⟨F,δ,_,EX,rel,hw,λd hd v H' rel' kp vk=>⟨F,δ,_,EX,rel',hd,λds hds vs H2 rel2 kp2 vks=>?_,o⟩,o⟩;exact k _ hds (v::vs) H2 rel2 (kp.trans kp2) (.cons (kp2.da vk) vks)
theorem Quj{e:Q3}{es:List Q3}{i:Nat}{wr:DSl}(he:PE X e (Qmp i))(hr:PA X es (tAs X.K E wr))(hs:notStar e=true:=by rfl):PA X (e::es) (tAs X.K E (QzH i wr)):=by
 refine PA.imp (Qej he hr hs) λσ H Q ⟨F,δ,R,EX,rel,hw,k,o⟩=>?_
 unfold QzH at hw;split at hw
 ·rename_i hd
  obtain⟨x,hx⟩:=rel.lt hd;obtain⟨p,n,rfl,e,q⟩:=rel.sl i _ _ hx hd;refine⟨.ref p,hx,F,δ,_,EX,rel,hw,λds hds vs H2 rel2 kp2 vks=>?_,o⟩;exact k _ hds (.ref p::vs) H2 rel2 kp2 (.cons ⟨p,rfl,i,hx,hd⟩ vks)
 ·exact hw.elim
def Qok(f:DF)(wa:DSl):DE:=λδ Q EX=>wa δ (λargs=>f args Q EX) EX
theorem Kq.kp{K:PySem.W.Frag}{F:Fm}{σ:L2.St}{δ:Sts}{H H':Hp}(k:Kq (YB σ δ) H H'):Kp σ δ H H':=k
theorem Qir{m:Md}{fr:Bool}{K:PySem.W.Frag}{f:DF}{wa:DSl}(hm:∀{F:Fm}{σ:L2.St}{δ:Sts}{H H':Hp}{v:V}{d:Qa},DA (Av F σ δ) H' v d->(fr=true->FrV H H' v)->Vok m F σ δ H H' v d)(σ:L2.St)(H:Hp)(Q:VK)(h:tX m K E (Qok f wa) σ H Q):Qwg (ZA fr f) [] E (tAs K E wa) σ H Q:=by
 obtain⟨F,δ,R,EX,rel,hw,k,o⟩:=h;refine⟨F,δ,_,EX,rel,hw,λargs ha vs H1 rel1 kp1 q=>?_,o⟩;show ZA fr f (vs++[]) H1 Q E;rw[Jz];refine⟨Av F σ δ,YB σ δ,args,R,EX,λa ha=>rel1.isl ha,λp hp=>⟨QaC hp,(Kp.refl rel1).2 p hp⟩,q,ha,λd hd v H' kq dv fr=>?_,λC hC H' kq=>o C hC H' (rel1.kp kq).ke⟩;exact k d hd v H' (rel1.kp kq) (kp1.trans kq) (hm dv λz l e1 e2=>Qcf kp1 (fr z l e1 e2))
variable{CX:CXT}{k:Nat}{f:Addr}{fd:Jd}{ps:List Str}{x:Str}{p pos:Pos}{e:Q3}{es:List Q3}{fD:DF}{wa:DSl}
theorem Quy(G:FnOk X.prog X.w X.K X.mg X.base CX k f fd ps (ZA false fD))(hr:Room k X.A)(hg:Gl X x)(hm:X.mg x=some (.ref f))(hk:PySem.W.keepIn X.K (.ref f)=true)(hb:Binds X.K fd ps [])(hx:QfA CX X E)
  (ha:PA X (e::es) (tAs X.K E wa))(hdb:(x == ("__debug__" : Str))=false:=by decide)(he:starEach (e::es) X.env=(false,eval e X.env)::starEach es X.env:=by rfl)(hpl:(backTo pos (starEach es X.env)).any (·.1)=false:=by rfl) :
  PE X (.Call (.Name x p) (e::es) [] pos) (tX .D X.K E (Qok fD wa)):=PE.imp (Qjk G hr hg hm hk hb .nil hx ha hdb he hpl) (Qir λh _=>h)
theorem Qrc(G:FnOk X.prog X.w X.K X.mg X.base CX k f fd ps (ZA true fD))(hr:Room k X.A)(hg:Gl X x)(hm:X.mg x=some (.ref f))(hk:PySem.W.keepIn X.K (.ref f)=true)(hb:Binds X.K fd ps [])(hx:QfA CX X E)
  (ha:PA X (e::es) (tAs X.K E wa))(hdb:(x == ("__debug__" : Str))=false:=by decide)(he:starEach (e::es) X.env=(false,eval e X.env)::starEach es X.env:=by rfl)(hpl:(backTo pos (starEach es X.env)).any (·.1)=false:=by rfl) :
  PE X (.Call (.Name x p) (e::es) [] pos) (tX .F X.K E (Qok fD wa)):=PE.imp (Qjk G hr hg hm hk hb .nil hx ha hdb he hpl) (Qir λh z=>⟨h,z rfl⟩)
end
abbrev DG:=Qa->Sts->(Sts->Prop)->Prop
def tG(ix:List Nat)(K:PySem.W.Frag)(w:DG):TG:=λv σ H Q=>∃(F:Fm)(δ:Sts)(d:Qa)(R:Sts->Prop),Rel K F σ H δ/\DA (Av F σ δ) H v d/\w d δ R /\
 ∀δ',R δ'->∀σ',Rel K F σ' H δ'->Stp F σ H δ σ' H δ'->σ'.length=σ.length->(∀j,j∉ix->σ'[j]? = σ[j]?)->Q σ' H
theorem QaU{α:Type}{l:List α}{i j:Nat}{x:α}(h:j≠i):(l.set i x)[j]? = l[j]? := QdG (QdD h)
theorem set_eq{α:Type}{l:List α}{i:Nat}{x y:α}(h:(l.set i x)[i]? = some y):y=x:=by
 rw[Qsc] at h;simp only[if_true] at h;split at h
 ·exact(Qm h).symm
 ·cases h
theorem Qfy{F:Fm}{σ:L2.St}{δ:Sts}{i:Nat}{o:Option V}{d:Qa}{a:Addr}(h:Av F (σ.set i o) (δ.set i (.v d)) a):Av F σ δ a:=by
 rcases h with h | ⟨j,h1,h2⟩
 ·exact .inl h
 ·by_cases z:j=i
  ·subst z;rcases h2 with h2 | ⟨ds,h2⟩<;>cases set_eq h2
  ·rw[QaU z] at h1 h2;exact .inr ⟨j,h1,h2⟩
theorem Rel.setv{K:PySem.W.Frag}{F:Fm}{σ:L2.St}{H:Hp}{δ:Sts}(r:Rel K F σ H δ){i:Nat}{v:V}{d:Qa}(q:DA (Av F σ δ) H v d):Rel K F (σ.set i (some v)) H (δ.set i (.v d)) where
 len:=by rw[Ym,Ym];exact r.len
 dom:=r.dom
 dom0:=r.dom0
 pt0:=r.pt0
 kx:=r.kx
 sl:=λj o x h1 h2=>by
  have wk:∀{v:V}{d':Qa},DA (Av F σ δ) H v d'->DA (Av F (σ.set i (some v)) (δ.set i (.v d))) H v d':=λh=>h.mv (λ_ _ _ e=>e) λa z=>.inl (Qfy z)
  by_cases z:j=i
  ·subst z;cases set_eq h1;cases set_eq h2;exact⟨v,rfl,q.mv (λ_ _ _ e=>e) λa z=>.inl (Qfy z)⟩
  ·rw[QaU z] at h1 h2;have h:=r.sl j o x h1 h2;cases x with
   |no=>trivial
   |v d=>obtain⟨v',e,q'⟩:=h;exact⟨v',e,q'.mv (λ_ _ _ e=>e) λa z=>.inl (Qfy z)⟩
   |own ds=>obtain⟨l,xs,e,e2,q',f⟩:=h;exact⟨l,xs,e,e2,q'.mv (λ_ _ _ e=>e) λa z=>.inl (Qfy z),f⟩
   |pk ds=>obtain⟨l,xs,e,e2,q',f⟩:=h;exact⟨l,xs,e,e2,q'.mv (λ_ _ _ e=>e) λa z=>.inl (Qfy z),f⟩
   |pot=>exact h
   |scr=>exact h
 inj:=λj k a ds h1 h2 ⟨h3,h4⟩=>by
  by_cases z:j=i
  ·subst z;cases set_eq h1
  ·rw[QaU z] at h1 h2;by_cases z2:k=i
   ·subst z2;rcases h4 with h4 | ⟨ds,h4⟩<;>cases set_eq h4
   ·rw[QaU z2] at h3 h4;exact r.inj j k a ds h1 h2 ⟨h3,h4⟩
theorem Stp.setv{F:Fm}{σ:L2.St}{H:Hp}{δ:Sts}{i:Nat}{o:Option V}{d:Qa}:Stp F σ H δ (σ.set i o) H (δ.set i (.v d)):=⟨λ_ _ _ e=>e,λa z=>.inl (Qfy z)⟩
def gN(i:Nat):DG:=λd δ Q=>Q (δ.set i (.v d))
def Qj8:Sts->List Nat->List Qa->Sts
 |δ,i::is,d::ds=>Qj8 (δ.set i (.v d)) is ds
 |δ,_,_=>δ
def gTN(is:List Nat):DG:=λd δ Q=>match d with
 |.tuple ds=>ds.length=is.length/\Q (Qj8 δ is ds)
 |_=>False
section
variable{X:Cx}{E:XK}
theorem PG.imp{e:Q3}{t t':TG}(h:PG X e t)(i:∀v σ H Q,t' v σ H Q->t v σ H Q):PG X e t':=λpins s σ H v u Q I r q=>h pins s σ H v u Q I r (i v σ H Q q)
theorem Qra{e:Q3}{i:Nat}(h:PG X e (Qg7 i)):PG X e (tG [i] X.K (gN i)):=PG.imp h λv σ H Q ⟨F,δ,d,R,rel,dv,hw,k⟩=>
 k _ hw _ (rel.setv dv) Stp.setv (Ym ..) λj hj=>QaU λz=>hj (by rw[z];exact Q6.mpr rfl)
def gNs:List Nat->TGs
 |[]=>QA7
 |i::is=>Qx3 (Qg7 i) (gNs is)
theorem QkH{K:PySem.W.Frag}{F:Fm}{H:Hp}{Q:L2.St->Hp->Prop}:∀(is:List Nat)(vs:List V)(ds:List Qa)(σ:L2.St)(δ:Sts),ds.length=is.length->Rel K F σ H δ->DAs (Av F σ δ) H vs ds ->
  (∀σ',Rel K F σ' H (Qj8 δ is ds)->Stp F σ H δ σ' H (Qj8 δ is ds)->σ'.length=σ.length->(∀j,j∉is->σ'[j]? = σ[j]?)->Q σ' H)->gNs is vs σ H Q
 |[],vs,ds,σ,δ,hl,rel,q,k=>by
  cases ds with
  |nil=>cases q;exact⟨rfl,k σ rel Stp.refl rfl λ_ _=>rfl⟩
  |cons d ds=>cases hl
 |i::is,vs,ds,σ,δ,hl,rel,q,k=>by
  cases ds with
  |nil=>cases hl
  |cons d ds=>
   cases q with
   |@cons v vs _ _ q qs=>
    refine⟨v,vs,rfl,?_⟩;refine QkH is vs ds _ _ (by simpa using hl) (rel.setv q) (qs.mv (λ_ _ _ e=>e) λa z=>.inl (Qfy z)) λσ' r' st hl' hj=>?_
    refine k σ' r' (Stp.setv.trans st) (by rw[hl',Ym]) λj hn=>?_
    rw[hj j (λz=>hn (QH _ z)),QaU (λz=>hn (by rw[z];exact Jm))]
theorem Qus{e:Q3}{n:Nat}{is:List Nat}(h:PG X e (QA6 X.K n (gNs is)))(hn:is.length=n:=by rfl):PG X e (tG is X.K (gTN is)):=PG.imp h λv σ H Q ⟨F,δ,d,R,rel,dv,hw,k⟩=>by
 unfold gTN at hw;split at hw
 ·obtain⟨hl,hR⟩:=hw;cases dv with
  |@tup a xs ds na e q=>
   exact⟨a,xs,rfl,SqT.of e,by rw[q.length,hl,hn],QkH is xs _ σ δ hl rel q λσ' r' st hl' hj=>k _ hR σ' r' st hl' hj⟩
 ·exact hw.elim
def ItD(A S:Addr->Prop)(J:It)(items:List Qa)(H1:Hp):Prop:=items.length<=sizeLine/\∀(H2:Hp)(A':Addr->Prop),(∀b o,S b->H1 b=some o->H2 b=some o)->(∀b,A' b->A b∨H1 b=none)->(∀a,A' a->∃xs,H2 a=some (.lst xs)) ->
 (∀(i:Nat) d,items[i]? = some d->J.go i H2/\∀x H3,J.yld i H2 x H3->Same H2 H3/\DA A' H3 x d)/\J.stop items.length H2
def Sx(m:Md)(F:Fm)(σ:L2.St)(δ:Sts)(b:Addr):Prop:=
 match m with
 |.P=>¬YB σ δ b
 |_=>¬Av F σ δ b
abbrev DI:=Sts->(List Qa->Prop)->XP->Prop
def tI(m:Md)(K:PySem.W.Frag)(E:XK)(w:DI):TI:=λσ H R=>∃(F:Fm)(δ:Sts)(R':List Qa->Prop)(EX:XP),Rel K F σ H δ/\w δ R' EX/\(∀items,R' items->∀J H',Rel K F σ H' δ->Kp σ δ H H'->ItD (Av F σ δ) (Sx m F σ δ) J items H'->R J H')/\Out F E EX
theorem PI.imp{tg e:Q3}{t t':TI}(h:PI X tg e t)(i:∀σ H R,Qc2 H->t' σ H R->t σ H R):PI X tg e t':=λpins s σ H R I q=>h pins s σ H R I (i σ H R (Inv.lens I) q)
theorem PI.len{tg e:Q3}{t:TI}(h:PI X tg e t):PI X tg e (λσ H R=>t σ H λJ H1=>Qc2 H1->R J H1):=λpins s σ H R I q=>by
 refine thn (h pins s σ H _ I q) λv s1 h1=>thn h1 λitv s2 h2=>?_
 obtain⟨it,fp,tn,J,H',e,I',T,t0,fo,hR⟩:=h2;exact⟨it,fp,tn,J,H',e,I',T,t0,fo,hR (Inv.lens I')⟩
def QBh(w:DE):DI:=λδ Q EX=>w δ (λd=>match d with
 |.list ds=>Q ds
 |_=>False) EX
def QBg(w:DE):DI:=λδ Q EX=>w δ (λd=>match d with
 |.tuple ds=>Q ds
 |_=>False) EX
theorem Qbn{A S:Addr->Prop}{H H2:Hp}{A':Addr->Prop}{xs:List V}{ds:List Qa}(sA:∀b,¬A b->S b)(k:∀b o,S b->H b=some o->H2 b=some o)(m:∀b,A' b->A b∨H b=none)(q:DAs A H xs ds):DAs A' H2 xs ds:=q.mv (λa o n e=>k a o (sA a n) e) m
theorem QAd{K:PySem.W.Frag}{A S:Addr->Prop}{H:Hp}{l:Addr}{xs:List V}{ds:List Qa}(sA:∀b,¬A b->S b)(sl:S l)(e:H l=some (.lst xs))(q:DAs A H xs ds)(ln:xs.length<=sizeLine):ItD A S (Itl K l) ds H:=by
 refine⟨by rw[<- q.length];exact ln,λH2 A' k m dm=>⟨λi d hd=>?_,xs,SqL.of (k _ _ sl e),by rw[q.length];exact Qi _⟩⟩;obtain⟨x,hx,dx⟩:=(Qbn sA k m q).get i d hd;refine⟨⟨xs,x,SqL.of (k _ _ sl e),hx⟩,λy H3 ⟨e3,hy⟩=>?_⟩;subst e3;have:=hy xs (SqL.of (k _ _ sl e));rw[hx] at this;cases this;exact⟨Same.refl _,dx⟩
theorem QAb{K:PySem.W.Frag}{A S:Addr->Prop}{H:Hp}{l:Addr}{xs:List V}{ds:List Qa}(sA:∀b,¬A b->S b)(sl:S l)(e:H l=some (.tup xs))(q:DAs A H xs ds)(ln:xs.length<=sizeLine):ItD A S (Itt K l) ds H:=by
 refine⟨by rw[<- q.length];exact ln,λH2 A' k m dm=>⟨λi d hd=>?_,xs,SqT.of (k _ _ sl e),by rw[q.length];exact Qi _⟩⟩;obtain⟨x,hx,dx⟩:=(Qbn sA k m q).get i d hd;refine⟨⟨xs,x,SqT.of (k _ _ sl e),hx⟩,λy H3 ⟨e3,hy⟩=>?_⟩;subst e3;have:=hy xs (SqT.of (k _ _ sl e));rw[hx] at this;cases this;exact⟨Same.refl _,dx⟩
theorem QfJ{m:Md}{F:Fm}{σ:L2.St}{δ:Sts}{b:Addr}(h:¬Av F σ δ b):Sx m F σ δ b:=by
 cases m
 ·exact h
 ·exact λz=>h (QaC z)
 ·exact h
theorem stL{m:Md}{F:Fm}{σ:L2.St}{δ:Sts}{H H':Hp}{v:V}{ds:List Qa}(h:VD m (Av F σ δ) (YB σ δ) H v (.list ds)):∃l xs,v=.ref l/\Sx m F σ δ l/\H l=some (.lst xs)/\DAs (Av F σ δ) H xs ds:=by
 cases m
 ·cases h with | @lst a xs _ n e q=>exact⟨a,xs,rfl,n,e,q⟩
 ·rcases h with h | ⟨l,xs,ds',rfl,e,n,e2,q⟩
  ·cases h with | @lst a xs _ n e q=>exact⟨a,xs,rfl,QfJ n,e,q⟩
  ·cases e;exact⟨l,xs,rfl,n,e2,q⟩
 ·cases h with | @lst a xs _ n e q=>exact⟨a,xs,rfl,n,e,q⟩
theorem stT{m:Md}{F:Fm}{σ:L2.St}{δ:Sts}{H H':Hp}{v:V}{ds:List Qa}(h:VD m (Av F σ δ) (YB σ δ) H v (.tuple ds)):∃l xs,v=.ref l/\Sx m F σ δ l/\H l=some (.tup xs)/\DAs (Av F σ δ) H xs ds:=by
 cases m
 ·cases h with | @tup a xs _ n e q=>exact⟨a,xs,rfl,n,e,q⟩
 ·rcases h with h | ⟨l,xs,ds',rfl,e,n,e2,q⟩
  ·cases h with | @tup a xs _ n e q=>exact⟨a,xs,rfl,QfJ n,e,q⟩
  ·cases e
 ·cases h with | @tup a xs _ n e q=>exact⟨a,xs,rfl,n,e,q⟩
theorem Qed{m:Md}{F:Fm}{σ:L2.St}{δ:Sts}{H H':Hp}{v:V}{d:Qa}(h:Vok m F σ δ H H' v d):VD m (Av F σ δ) (YB σ δ) H' v d:=by
 cases m
 ·exact h
 ·exact h
 ·exact h.1
variable{m:Md}{tg e e':Q3}{w w':DE}{p pos tpos:Pos}
theorem Qp9(h:PE X e (tX m X.K E w)):PI X tg e (tI m X.K E (QBh w)):=by
 refine PI.imp (PI.len (Qt3 h)) λσ H R _ ⟨F,δ,R',EX,rel,hw,k,o⟩=>?_
 refine⟨F,δ,_,EX,rel,hw,λd hd v H' rel' kp vk=>?_,o⟩;cases d<;>first | exact(show False from hd).elim | skip
 obtain⟨l,xs,rfl,sl,e,q⟩:=stL (H':=H') (Qed vk);exact⟨l,rfl,⟨xs,SqL.of e⟩,λln=>k _ hd _ H' rel' kp (QAd (λb=>QfJ) sl e q (ln _ _ (.inl e)))⟩
theorem Qur(h:PE X e (tX m X.K E w)):PI X tg e (tI m X.K E (QBg w)):=by
 refine PI.imp (PI.len (QwU h)) λσ H R _ ⟨F,δ,R',EX,rel,hw,k,o⟩=>?_
 refine⟨F,δ,_,EX,rel,hw,λd hd v H' rel' kp vk=>?_,o⟩;cases d<;>first | exact(show False from hd).elim | skip
 obtain⟨l,xs,rfl,sl,e,q⟩:=stT (H':=H') (Qed vk);exact⟨l,rfl,⟨xs,SqT.of e⟩,λln=>k _ hd _ H' rel' kp (QAb (λb=>QfJ) sl e q (ln _ _ (.inr e)))⟩
def QoW(lo:Int)(n:Nat):List Qa:=(Qw n).map λ(i:Nat)=>.int (lo+i)
theorem Qjb{lo:Int}{n i:Nat}{d:Qa}(h:(QoW lo n)[i]? = some d):i<n/\d=.int (lo+i):=by
 unfold QoW at h;rw[Qx] at h;by_cases z:i<n
 ·rw[Jy z] at h;exact⟨z,(Qm h).symm⟩
 ·rw[QM (by rw[Q1];omega)] at h;cases h
theorem Qja{lo:Int}{n:Nat}:(QoW lo n).length=n:=by unfold QoW;rw[Qh,Q1]
theorem QAc{A S:Addr->Prop}{H:Hp}{lo:Int}{n:Nat}(hn:n<=1000000):ItD A S (Itr lo n) (QoW lo n) H:=by
 refine⟨by rw[Qja];exact Q7 hn Qjv,λH2 A' k m dm=>⟨λi d hd=>?_,by rw[Qja];exact Qi _⟩⟩;obtain⟨hi,rfl⟩:=Qjb hd;exact⟨hi,λx H3 ⟨e1,e2⟩=>by subst e1 e2;exact⟨Same.refl _,.int _⟩⟩
def Qyi(w:DE):DI:=λδ Q EX=>w δ (λd=>match d with
 |.int j=>(-1000000<=j/\j<=1000000)/\Q (QoW 0 j.toNat)
 |_=>False) EX
theorem Qp8(hg:Gl X "range")(hm:X.mg "range" = none)(h:PE X e (tX .P X.K E w))(hs:notStar e=true:=by rfl):PI X tg (.Call (.Name "range" p) [e] [] pos) (tI m X.K E (Qyi w)):=by
 refine PI.imp (Qh0 hg hm (Qej h YJ hs) (by rw[Z4 hs];rfl)) λσ H R _ ⟨F,δ,R',EX,rel,hw,k,o⟩=>?_
 refine⟨F,δ,_,EX,rel,hw,λd hd v H' rel' kp vk=>?_,o⟩;cases d<;>first | exact(show False from hd).elim | skip
 obtain⟨⟨h1,h2⟩,hR⟩:=hd;rw[DP.int vk];exact⟨_,rfl,by omega,by omega,k _ hR _ H' rel' kp (QAc (by omega))⟩
theorem QgU{A':Addr->Prop}{H2:Hp}{r:Addr}{x y:V}{d d':Qa}(dm:∀a,A' a->∃xs,H2 a=some (.lst xs))(n:H2 r=none)(q:DA A' H2 x d)(q':DA A' H2 y d'):DA A' (upd H2 r (.tup [x,y])) (.ref r) (.tuple [d,d']):=
 .tup (λz=>by obtain⟨xs,e⟩:=dm r z;rw[n] at e;cases e) J7 (.cons (q.same (JX n)) (.cons (q'.same (JX n)) .nil))
def QjC(ds:List Qa):List Qa:=(Qw ds.length).map λ(i:Nat)=>.tuple [.int i,ds.getD i .none]
theorem Qdw{ds:List Qa}{i:Nat}{d:Qa}(h:(QjC ds)[i]? = some d):∃e,ds[i]? = some e/\d=.tuple [.int i,e]:=by
 unfold QjC at h;rw[Qx] at h;by_cases z:i<ds.length
 ·rw[Jy z] at h;refine⟨ds[i],Qf z,?_⟩;rw[<- Qm h];show Yp [.int i,ds.getD i .none]=_;rw[QF,Qf z];rfl
 ·rw[QM (by rw[Q1];omega)] at h;cases h
theorem Qcy{ds:List Qa}:(QjC ds).length=ds.length:=by unfold QjC;rw[Qh,Q1]
def QBk(w:DE):DI:=λδ Q EX=>w δ (λd=>match d with
 |.list ds=>Q (QjC ds)
 |_=>False) EX
def QBj(w:DE):DI:=λδ Q EX=>w δ (λd=>match d with
 |.tuple ds=>Q (QjC ds)
 |_=>False) EX
variable{elts:List Q3}
theorem Qm8{x1}(hg:Gl X "enumerate")(hm:X.mg "enumerate" = none)(h:PE X e (tX m X.K E w))(hs:notStar e=true:=by rfl):PI X (.Tuple elts x1 tpos) (.Call (.Name "enumerate" p) [e] [] pos) (tI m X.K E (QBk w)):=by
 refine PI.imp (PI.len (Qt4 hg hm (Qej h YJ hs) (by rw[Z4 hs];rfl))) λσ H R _ ⟨F,δ,R',EX,rel,hw,k,o⟩=>?_
 refine⟨F,δ,_,EX,rel,hw,λd hd v H' rel' kp vk=>?_,o⟩;cases d<;>first | exact(show False from hd).elim | skip
 obtain⟨l,xs,rfl,sl,e,q⟩:=stL (H':=H') (Qed vk);refine⟨l,xs,rfl,e,λln=>k _ hd _ H' rel' kp ⟨by rw[Qcy,<- q.length];exact ln _ _ (.inl e),λH2 A' kk mm dm=>⟨λi d hd'=>?_,xs,kk _ _ sl e,by rw[Qcy,q.length];exact Qi _⟩⟩⟩;obtain⟨d',hd2,rfl⟩:=Qdw hd';obtain⟨x,hx,dx⟩:=(Qbn (S:=Sx m F σ δ) (λb=>QfJ) kk mm q).get i d' hd2;refine⟨⟨xs,x,kk _ _ sl e,hx⟩,λy H3 ⟨r,x',nr,hx',e1,e2⟩=>?_⟩;subst e1 e2;have:=hx' xs (kk _ _ sl e);rw[hx] at this;cases this;exact⟨JX nr,QgU dm nr (.int _) dx⟩
theorem Qm7{x1}(hg:Gl X "enumerate")(hm:X.mg "enumerate" = none)(h:PE X e (tX m X.K E w))(hs:notStar e=true:=by rfl):PI X (.Tuple elts x1 tpos) (.Call (.Name "enumerate" p) [e] [] pos) (tI m X.K E (QBj w)):=by
 refine PI.imp (PI.len (QpM hg hm (Qej h YJ hs) (by rw[Z4 hs];rfl))) λσ H R _ ⟨F,δ,R',EX,rel,hw,k,o⟩=>?_
 refine⟨F,δ,_,EX,rel,hw,λd hd v H' rel' kp vk=>?_,o⟩;cases d<;>first | exact(show False from hd).elim | skip
 obtain⟨l,xs,rfl,sl,e,q⟩:=stT (H':=H') (Qed vk);refine⟨l,xs,rfl,e,λln=>k _ hd _ H' rel' kp ⟨by rw[Qcy,<- q.length];exact ln _ _ (.inr e),λH2 A' kk mm dm=>⟨λi d hd'=>?_,xs,kk _ _ sl e,by rw[Qcy,q.length]⟩⟩⟩;obtain⟨d',hd2,rfl⟩:=Qdw hd';obtain⟨x,hx,dx⟩:=(Qbn (S:=Sx m F σ δ) (λb=>QfJ) kk mm q).get i d' hd2;refine⟨⟨xs,x,kk _ _ sl e,hx⟩,λy H3 ⟨r,x',nr,hx',e1,e2⟩=>?_⟩;subst e1 e2;have:=hx' xs (kk _ _ sl e);rw[hx] at this;cases this;exact⟨JX nr,QgU dm nr (.int _) dx⟩
def Qlc(ds es:List Qa):List Qa:=QlW (λd e=>.tuple [d,e]) ds es
theorem zip_get{ds es:List Qa}{i:Nat}{d:Qa}(h:(Qlc ds es)[i]? = some d):∃a b,ds[i]? = some a/\es[i]? = some b/\d=.tuple [a,b]:=by
 unfold Qlc at h;rw[List.getElem?_zipWith] at h;cases h1:ds[i]? with
 |none=>rw[h1] at h;cases h
 |some a=>
  cases h2:es[i]? with
  |none=>rw[h1,h2] at h;cases h
  |some b=>rw[h1,h2] at h;exact⟨a,b,rfl,rfl,(Qm h).symm⟩
theorem QgC{ds es:List Qa}:(Qlc ds es).length=min ds.length es.length:=by unfold Qlc;rw[QoT]
def QA9(w w':DE):DI:=λδ Q EX=>w δ (λd=>w' δ (λd'=>match d,d' with
 |.list ds,.list es=>Q (Qlc ds es)
 |_,_=>False) EX) EX
def QA8(w w':DE):DI:=λδ Q EX=>w δ (λd=>w' δ (λd'=>match d,d' with
 |.tuple ds,.tuple es=>Q (Qlc ds es)
 |_,_=>False) EX) EX
theorem Qp7{x1}(hg:Gl X "zip")(hm:X.mg "zip" = none)(h:PE X e (tX m X.K E w))(h':PE X e' (tX m X.K E w'))(hs:notStar e=true:=by rfl)(hs':notStar e'=true:=by rfl):PI X (.Tuple elts x1 tpos) (.Call (.Name "zip" p) [e,e'] [] pos) (tI m X.K E (QA9 w w')):=by
 refine PI.imp (PI.len (Qt2 hg hm (Qej h (Qej h' YJ hs') hs) (by rw[Z4 hs,Z4 hs'];rfl) (hs2:=by rw[Z4 hs'];rfl))) λσ H R _ ⟨F,δ,R',EX,rel,hw,k,o⟩=>?_
 refine⟨F,δ,_,EX,rel,hw,λd hd v H1 rel1 kp1 vk=>⟨F,δ,_,EX,rel1,hd,λd2 hd2 v2 H2 rel2 kp2 vk2=>?_,o⟩,o⟩;cases d<;>cases d2<;>first | exact(show False from hd2).elim | skip
 obtain⟨l,xs,rfl,sl,e,q⟩:=stL (H':=H2) (kp2.vd (Qed vk));obtain⟨l2,ys,rfl,sl2,e2,q2⟩:=stL (H':=H2) (Qed vk2);refine⟨l,l2,xs,ys,rfl,e,e2,λln=>k _ hd2 _ H2 rel2 (kp1.trans kp2) ⟨?_,λH3 A' kk mm dm=>⟨λi d hd'=>?_,xs,ys,kk _ _ sl e,kk _ _ sl2 e2,by rw[QgC,q.length,q2.length];omega⟩⟩⟩
 ·rw[QgC,<- q.length];exact Q7 (QvY _ _) (ln _ _ (.inl e))
 obtain⟨a,b,ha,hb,rfl⟩:=zip_get hd';obtain⟨x,hx,dx⟩:=(Qbn (S:=Sx m F σ δ) (λb=>QfJ) kk mm q).get i a ha;obtain⟨y,hy,dy⟩:=(Qbn (S:=Sx m F σ δ) (λb=>QfJ) kk mm q2).get i b hb;refine⟨⟨xs,ys,x,y,kk _ _ sl e,kk _ _ sl2 e2,hx,hy⟩,λz H4 ⟨r,x',y',nr,hx',hy',e1,e3⟩=>?_⟩;subst e1 e3;have h1:=hx' xs (kk _ _ sl e);have h2:=hy' ys (kk _ _ sl2 e2);rw[hx] at h1;rw[hy] at h2;cases h1;cases h2;exact⟨JX nr,QgU dm nr dx dy⟩
theorem Qp6{x1}(hg:Gl X "zip")(hm:X.mg "zip" = none)(h:PE X e (tX m X.K E w))(h':PE X e' (tX m X.K E w'))(hs:notStar e=true:=by rfl)(hs':notStar e'=true:=by rfl):PI X (.Tuple elts x1 tpos) (.Call (.Name "zip" p) [e,e'] [] pos) (tI m X.K E (QA8 w w')):=by
 refine PI.imp (PI.len (QwT hg hm (Qej h (Qej h' YJ hs') hs) (by rw[Z4 hs,Z4 hs'];rfl) (hs2:=by rw[Z4 hs'];rfl))) λσ H R _ ⟨F,δ,R',EX,rel,hw,k,o⟩=>?_
 refine⟨F,δ,_,EX,rel,hw,λd hd v H1 rel1 kp1 vk=>⟨F,δ,_,EX,rel1,hd,λd2 hd2 v2 H2 rel2 kp2 vk2=>?_,o⟩,o⟩;cases d<;>cases d2<;>first | exact(show False from hd2).elim | skip
 obtain⟨l,xs,rfl,sl,e,q⟩:=stT (H':=H2) (kp2.vd (Qed vk));obtain⟨l2,ys,rfl,sl2,e2,q2⟩:=stT (H':=H2) (Qed vk2);refine⟨l,l2,xs,ys,rfl,e,e2,λln=>k _ hd2 _ H2 rel2 (kp1.trans kp2) ⟨?_,λH3 A' kk mm dm=>⟨λi d hd'=>?_,xs,ys,kk _ _ sl e,kk _ _ sl2 e2,by rw[QgC,q.length,q2.length];omega⟩⟩⟩
 ·rw[QgC,<- q.length];exact Q7 (QvY _ _) (ln _ _ (.inr e))
 obtain⟨a,b,ha,hb,rfl⟩:=zip_get hd';obtain⟨x,hx,dx⟩:=(Qbn (S:=Sx m F σ δ) (λb=>QfJ) kk mm q).get i a ha;obtain⟨y,hy,dy⟩:=(Qbn (S:=Sx m F σ δ) (λb=>QfJ) kk mm q2).get i b hb;refine⟨⟨xs,ys,x,y,kk _ _ sl e,kk _ _ sl2 e2,hx,hy⟩,λz H4 ⟨r,x',y',nr,hx',hy',e1,e3⟩=>?_⟩;subst e1 e3;have h1:=hx' xs (kk _ _ sl e);have h2:=hy' ys (kk _ _ sl2 e2);rw[hx] at h1;rw[hy] at h2;cases h1;cases h2;exact⟨JX nr,QgU dm nr dx dy⟩
end
def QvB:Option Sl->Sl
 |some (.v d)=>.v d
 |some (.own ds)=>.pk ds
 |some (.pk ds)=>.pk ds
 |some .pot=>.pot
 |_=>.no
def QeQ(cap:List (Option Nat))(δ:Sts):Sts:=cap.map λo=>match o with
 |none=>.no
 |some j=>QvB δ[j]?
theorem Qhg{cap:List (Option Nat)}{σ:L2.St}{i:Nat}{o:Option V}(h:(Qd9 cap σ)[i]? = some o):(cap[i]? = some none/\o=none)∨∃j,cap[i]? = some (some j)/\o=(σ[j]?).getD none:=by
 unfold Qd9 at h;rw[Qx] at h;obtain⟨c,hc,rfl⟩:=YC.mp h;cases c with
 |none=>exact .inl ⟨hc,rfl⟩
 |some j=>exact .inr ⟨j,hc,rfl⟩
theorem Qhi{cap:List (Option Nat)}{δ:Sts}{i:Nat}{x:Sl}(h:(QeQ cap δ)[i]? = some x):(cap[i]? = some none/\x=.no)∨∃j,cap[i]? = some (some j)/\x=QvB δ[j]? := by
 unfold QeQ at h;rw[Qx] at h;obtain⟨c,hc,rfl⟩:=YC.mp h;cases c with
 |none=>exact .inl ⟨hc,rfl⟩
 |some j=>exact .inr ⟨j,hc,rfl⟩
theorem Qbs{cap:List (Option Nat)}{σ:L2.St}{δ:Sts}{i:Nat}{o:Option V}{x:Sl}(h1:(Qd9 cap σ)[i]? = some o)(h2:(QeQ cap δ)[i]? = some x)(hx:x≠.no):∃(j:Nat)(y:Sl),δ[j]? = some y/\x=QvB (some y)/\o=(σ[j]?).getD none:=by
 rcases Qhi h2 with⟨_,e⟩ | ⟨j,hj,e⟩
 ·exact absurd e hx
 ·rcases Qhg h1 with⟨z,_⟩ | ⟨j',hj',e'⟩
  ·rw[hj] at z;cases z
  ·rw[hj] at hj';cases hj';cases e2:δ[j]? with
   |none=>rw[e2] at e;exact absurd e hx
   |some y=>exact⟨j,y,e2,by rw[e,e2],e'⟩
theorem Qc0{cap:List (Option Nat)}{σ:L2.St}{δ:Sts}{a:Addr}(h:YB (Qd9 cap σ) (QeQ cap δ) a):YB σ δ a:=by
 obtain⟨i,h1,h2⟩:=h;obtain⟨j,y,hy,e,eo⟩:=Qbs h1 h2 (λz=>by cases z);cases y<;>first | (cases e;done) | skip
 refine⟨j,?_,hy⟩;cases e2:σ[j]? with
 |none=>rw[e2] at eo;cases eo
 |some o'=>rw[e2] at eo;exact congrArg some eo.symm
def inF(A1:Addr->Prop)(cap:List (Option Nat))(σ:L2.St)(δ:Sts)(H:Hp):Fm:=⟨H,A1,YB (Qd9 cap σ) (QeQ cap δ)⟩
theorem QkG{A1:Addr->Prop}{cap:List (Option Nat)}{σ:L2.St}{δ:Sts}{H:Hp}(h:∀a,YB σ δ a->A1 a){a:Addr}:Av (inF A1 cap σ δ H) (Qd9 cap σ) (QeQ cap δ) a↔A1 a:=by
 constructor
 ·rintro(z | ⟨i,h1,h2⟩)
  ·exact z
  ·rcases h2 with h2 | ⟨ds,h2⟩
   ·exact h a (Qc0 ⟨i,h1,h2⟩)
   ·obtain⟨j,y,hy,e,eo⟩:=Qbs h1 h2 (λz=>by cases z);cases y<;>cases e
 ·exact .inl
theorem QnO{K:PySem.W.Frag}{F:Fm}{σ:L2.St}{δ:Sts}{H1 H3:Hp}{A1:Addr->Prop}{cap:List (Option Nat)}(rel:Rel K F σ H1 δ)(hA:∀a,Av F σ δ a->A1 a)(hN:∀a,A1 a->Av F σ δ a∨H1 a=none)
  (dm:∀a,A1 a->∃xs,H3 a=some (.lst xs))(kp:Kp σ δ H1 H3):Rel K (inF A1 cap σ δ H3) (Qd9 cap σ) H3 (QeQ cap δ) where
 len:=by unfold Qd9 QeQ;rw[Qh,Qh]
 dom:=dm
 dom0:=dm
 pt0:=λp hp=>⟨hA p (QaC (Qc0 hp)),kp.2 p (Qc0 hp)⟩
 kx:=λb o _ e=>e
 sl:=λi o x h1 h2=>by
  have iv:∀{a:Addr},Av (inF A1 cap σ δ H3) (Qd9 cap σ) (QeQ cap δ) a->A1 a:=λ{a}=>(QkG λa z=>hA a (QaC z)).mp
  have mv:∀{v:V}{d:Qa},DA (Av F σ δ) H1 v d->DA (Av (inF A1 cap σ δ H3) (Qd9 cap σ) (QeQ cap δ)) H3 v d:=λq=>q.mv (λa o n e=>kp.1 a o (λz=>n (QaC z)) e) λa z=>hN a (iv z)
  have mvs:∀{v:List V}{d:List Qa},DAs (Av F σ δ) H1 v d->DAs (Av (inF A1 cap σ δ H3) (Qd9 cap σ) (QeQ cap δ)) H3 v d:=λq=>q.mv (λa o n e=>kp.1 a o (λz=>n (QaC z)) e) λa z=>hN a (iv z)
  cases x with
  |no=>trivial
  |own ds=>
   obtain⟨j,y,hy,e,eo⟩:=Qbs h1 h2 (λz=>by cases z);cases y<;>cases e
  |scr=>
   obtain⟨j,y,hy,e,eo⟩:=Qbs h1 h2 (λz=>by cases z);cases y<;>cases e
  |v d=>
   obtain⟨j,y,hy,e,eo⟩:=Qbs h1 h2 (λz=>by cases z);cases y<;>first | (cases e;done) | skip
   cases e;obtain⟨x,hx⟩:=rel.lt hy;obtain⟨v,rfl,q⟩:=rel.sl j _ _ hx hy;rw[hx] at eo;exact⟨v,eo,mv q⟩
  |pk ds=>
   obtain⟨j,y,hy,e,eo⟩:=Qbs h1 h2 (λz=>by cases z);cases y<;>first | (cases e;done) | skip
   ·cases e;obtain⟨x,hx⟩:=rel.lt hy;obtain⟨l,xs,rfl,e,q,f⟩:=rel.sl j _ _ hx hy;rw[hx] at eo;have np:=rel.own_pot hy hx;exact⟨l,xs,eo,kp.1 _ _ np e,mvs q,xs,kp.1 _ _ np e,λz=>np (Qc0 z)⟩
   ·cases e;obtain⟨x,hx⟩:=rel.lt hy;obtain⟨l,xs,rfl,e,q,ys,f,f2⟩:=rel.sl j _ _ hx hy;rw[hx] at eo;have np:¬YB σ δ l:=by
     rintro⟨j,j1,j2⟩;obtain⟨p,m,e1,_,w⟩:=rel.sl j _ _ j1 j2;cases e1;rcases w with w | w
     ·exact f2 w
     ·rw[w] at f;cases f
    exact⟨l,xs,eo,kp.1 _ _ np e,mvs q,xs,kp.1 _ _ np e,λz=>np (Qc0 z)⟩
  |pot=>
   obtain⟨j,y,hy,e,eo⟩:=Qbs h1 h2 (λz=>by cases z);cases y<;>first | (cases e;done) | skip
   obtain⟨x,hx⟩:=rel.lt hy;obtain⟨p,n,rfl,e,q⟩:=rel.sl j _ _ hx hy;rw[hx] at eo;obtain⟨m,em⟩:=kp.2 p ⟨j,hx,hy⟩;have eo':o=some (.ref p):=eo;subst eo';exact⟨p,m,rfl,em,.inl ⟨i,h1,h2⟩⟩
 inj:=λi j a ds h1 h2 _=>by
  obtain⟨j,y,hy,e,eo⟩:=Qbs h2 h1 (λz=>by cases z);cases y<;>cases e
theorem Qpb:∀{σ σ':L2.St},σ'.length=σ.length->(∀(i:Nat) v,σ[i]? = some (some v)->σ'[i]? = some (some v))->Wk σ σ'
 |[],[],_,_=>trivial
 |[],_::_,h,_=>by cases h
 |_::_,[],h,_=>by cases h
 |none::a,x::b,h,g=>Qpb (σ:=a) (σ':=b) (by simpa using h) λi v e=>by simpa using g (i+1) v (by simpa using e)
 |some u::a,x::b,h,g=>by
  have h0:=g 0 u rfl;simp only[QjP,Option.some.injEq] at h0;subst h0;exact⟨rfl,Qpb (σ:=a) (σ':=b) (by simpa using h) λi v e=>by simpa using g (i+1) v (by simpa using e)⟩
def QcZ(cap:List (Option Nat))(ix:List Nat):Bool:=ix.all λi=>match cap[i]? with
 |some none=>true
 |_=>false
theorem Qs3{cap:List (Option Nat)}{ix:List Nat}(hf:QcZ cap ix=true){σ σ4:L2.St}(hl:σ4.length=(Qd9 cap σ).length)(hj:∀j,j∉ix->σ4[j]? = (Qd9 cap σ)[j]?):Wk (Qd9 cap σ) σ4:=by
 refine Qpb hl λi v e=>?_
 by_cases z:i∈ix
 ·have:=Qat.mp hf i z;rcases Qhg e with⟨_,e2⟩ | ⟨j,hj2,_⟩
  ·cases e2
  ·rw[hj2] at this;cases this
 ·rw[hj i z];exact e
def XF:XP:=λ_=>False
@[irreducible] def QjN(items:List Qa)(wg:DG)(wt:DT)(we:DE)(δ:Sts)(Q:Qa->Prop):Prop:=∃Iv:Nat->List Qa->Prop,Iv 0 [] /\
 (∀(i:Nat) acc d,items[i]? = some d->Iv i acc->wg d δ λδ4=>wt δ4 (λb=>if b=true then we δ4 (λe=>Iv (i+1) (acc++[e])) XF else Iv (i+1) acc) XF)/\∀acc,Iv items.length acc->Q (.list acc)
def dComp(cap:List (Option Nat))(wi:DI)(wg:DG)(wt:DT)(we:DE):DE:=λδ Q EX=>wi δ (λitems=>QjN items wg wt we (QeQ cap δ) Q) EX
def QvQ:DT:=λ_ Q _=>Q true
section
variable{X:Cx}{E:XK}
theorem QsB{F:Fm}{E:XK}:Out F E XF:=λ_ z=>z.elim
theorem PTs.imp{es:List Q3}{t t':TT}(h:PTs X es t)(i:∀σ H Q,t' σ H Q->t σ H Q):PTs X es t':=λpins s σ H Q I q=>h pins s σ H Q I (i σ H Q q)
theorem QpW:PTs X [] (tT X.K E QvQ):=PTs.imp QtW λσ H Q ⟨F,δ,R,EX,rel,hw,k,o⟩=>k _ hw H rel (Kp.refl rel)
theorem QpV{c:Q3}{t:DT}(h:PT X c (tT X.K E t)):PTs X [c] (tT X.K E t):=QtV h
theorem QjA{K:PySem.W.Frag}{A1:Addr->Prop}{cap:List (Option Nat)}{σ σ4:L2.St}{δ δ4:Sts}{H3 H4:Hp}(r:Rel K (inF A1 cap σ δ H3) σ4 H4 δ4)(hk:∀b o,¬YB σ δ b->H4 b=some o->H3 b=none->False){b:Addr}(h:YB σ4 δ4 b):YB σ δ b:=by
 obtain⟨i,h1,h2⟩:=h;obtain⟨p,n,e,hp,w⟩:=r.sl i _ _ h1 h2;cases e;rcases w with w | w
 ·exact Qc0 w
 ·by_cases z:YB σ δ b
  ·exact z
  ·exact(hk b _ z hp w).elim
theorem Qmk{K:PySem.W.Frag}{F:Fm}{σ:L2.St}{δ:Sts}{H1 H3:Hp}{cap:List (Option Nat)}{ix:List Nat}{wg:DG}{wt:DT}{A1:Addr->Prop}{x:V}{d:Qa}{inner:L2.St->Hp->(Hp->Prop)->Prop}{kk:Hp->Prop}{T:Sts->Prop}{N:Prop}
  (hf:QcZ cap ix=true)(rel:Rel K F σ H1 δ)(hA:∀a,Av F σ δ a->A1 a)(hN:∀a,A1 a->Av F σ δ a∨H1 a=none)(dm:∀a,A1 a->∃xs,H3 a=some (.lst xs))(kp:Kp σ δ H1 H3)(dx:DA A1 H3 x d)
  (h:wg d (QeQ cap δ) λδ4=>wt δ4 (λb=>if b=true then T δ4 else N) XF)
  (hT:∀σ4 δ4 H5,T δ4->Rel K (inF A1 cap σ δ H3) σ4 H5 δ4->Kp σ δ H3 H5->(∀b,YB σ4 δ4 b->YB σ δ b)->inner σ4 H5 kk)(hF:N->∀H5,Kp σ δ H3 H5->kk H5) :
  bOf (Qd9 cap σ) (tG ix K wg) (tT K E0 wt) inner x H3 kk:=by
 have ri:=QnO (cap:=cap) rel hA hN dm kp;have iv:∀{a:Addr},Av (inF A1 cap σ δ H3) (Qd9 cap σ) (QeQ cap δ) a->A1 a:=λ{a}=>(QkG λa z=>hA a (QaC z)).mp
 refine⟨inF A1 cap σ δ H3,QeQ cap δ,d,_,ri,dx.mv (λ_ _ _ e=>e) λa z=>.inl (iv z),h,λδ4 h4 σ4 r4 st4 l4 j4=>⟨Qs3 hf l4 j4,inF A1 cap σ δ H3,δ4,_,XF,r4,h4,λb hb H5 r5 kp5=>?_,QsB⟩⟩;have pots:∀{b:Addr},YB σ4 δ4 b->YB σ δ b:=λz=>QjA r4 (λb o _ e1 e2=>by rw[e2] at e1;cases e1) z
 have K5:Kp σ δ H3 H5:=by
  refine⟨λb o n e=>kp5.1 b o (λz=>n (pots z)) e,λb hb=>?_⟩;by_cases z:YB σ4 δ4 b
  ·exact kp5.2 b z
  ·obtain⟨n,e⟩:=kp.2 b hb;exact⟨n,kp5.1 _ _ z e⟩
 exact Qdu hb (λz=>hT σ4 δ4 H5 z r5 K5 λb=>pots) λz=>hF z H5 K5
structure Lp (σ:L2.St) (δ:Sts) (A1:Addr->Prop) (p:Addr) (H1 H2:Hp) (acc:List Qa):Prop where
 kp:Kp σ δ H1 H2
 at_:∃ys,H2 p=some (.lst ys)/\DAs A1 H2 ys acc
theorem Lp.step{σ:L2.St}{δ:Sts}{A1:Addr->Prop}{p:Addr}{H1 H2 H3:Hp}{acc:List Qa}(hpA:∀a,YB σ δ a->A1 a)(hpn:¬YB σ δ p)(h:Lp σ δ A1 p H1 H2 acc)(k:Kp σ δ H2 H3):Lp σ δ A1 p H1 H3 acc:=by
 obtain⟨ys,e,q⟩:=h.at_;exact⟨h.kp.trans k,ys,k.1 _ _ hpn e,q.mv (λa o n e=>k.1 a o (λz=>n (hpA a z)) e) λa z=>.inl z⟩
theorem QsW{K:PySem.W.Frag}{σ σ4:L2.St}{δ δ4:Sts}{H1 H3 H5:Hp}{cap:List (Option Nat)}{we:DE}{A1:Addr->Prop}{p:Addr}{acc:List Qa}{kk:Hp->Prop}{G:Qa->Prop}
  (hpA:A1 p)(hP:∀a,YB σ δ a->A1 a)(hp1:H1 p=none)(hpn:¬YB σ δ p)(lp:Lp σ δ A1 p H1 H5 acc)(hl:acc.length<sizeLine)(r5:Rel K (inF A1 cap σ δ H3) σ4 H5 δ4)(pots:∀b,YB σ4 δ4 b->YB σ δ b)
  (h:we δ4 G XF)(hk:∀e,G e->∀H',Lp σ δ A1 p H1 H' (acc++[e])->kk H'):Qyv p (tX .D K E0 we) σ4 H5 kk:=by
 refine⟨inF A1 cap σ δ H3,δ4,G,XF,r5,h,λe he v H6 r6 kp6 dv=>?_,QsB⟩;have k56:Kp σ δ H5 H6:=by
  refine⟨λb o n e=>kp6.1 b o (λz=>n (pots b z)) e,λb hb=>?_⟩;by_cases z:YB σ4 δ4 b
  ·exact kp6.2 b z
  ·obtain⟨n,e⟩:=lp.kp.2 b hb;exact⟨n,kp6.1 _ _ z e⟩
 obtain⟨k6,ys,e6,q6⟩:=lp.step hP hpn k56;have up:∀{b:Addr}{o:HO},¬A1 b->H6 b=some o->upd H6 p (.lst (ys++[v])) b=some o:=λ{b o} n e=>by rw[Zk (λz=>n (by rw[z];exact hpA))];exact e
 refine⟨ys,e6,by rw[q6.length];exact hl,hk e he _ ⟨⟨λb o n e=>?_,λb hb=>?_⟩,ys++[v],J7,DAs.app (q6.mv (λ_ _=>up) λa z=>.inl z) (.cons (DA.mv dv (λa o n e=>up (λz=>n (.inl z)) e) λa z=>.inl (.inl z)) .nil)⟩⟩
 ·rw[Zk (λz=>by rw[z,hp1] at e;cases e)];exact k6.1 b o n e
 ·rw[Zk (λz=>hpn (by rw[<- z];exact hb))];exact k6.2 b hb
theorem Quw{M:List Str}{cap:List (Option Nat)}{elt tg iter:Q3}{ifs:List Q3}{scope:QaR}{pos:Pos}{ix:List Nat}{wi:DI}{wg:DG}{wt:DT}{we:DE}(hc:X.calm=true)(ok:Qhh X.N X.env.scope M scope cap=true)(hf:QcZ cap ix=true)
  (hi:PI X tg iter (tI .P X.K E wi))(hb:∀cl ex s3 H3 C,PG (blk X M scope cl ex s3 H3 C) tg (tG ix X.K wg)/\PTs (blk X M scope cl ex s3 H3 C) ifs (tT X.K E0 wt)/\PE (blk X M scope cl ex s3 H3 C) elt (tX .D X.K E0 we))
  (hs:∀x,foldedSetIterable iter X.env x=pure x:=by intro _;rfl):PE X (.ListComp elt [⟨tg,iter,ifs,0⟩] scope pos) (tX .F X.K E (dComp cap wi wg wt we)):=by
 refine PE.imp (QpQ hc ok hi hb hs) λσ H Q ⟨F,δ,R,EX,rel,hw,k,o⟩=>?_
 refine⟨F,δ,_,EX,rel,hw,λitems hC J H1 rel1 kp1 ⟨ln,it⟩ p hp=>?_,o⟩;unfold QjN at hC;obtain⟨Iv,i0,step,fin⟩:=hC;have hpn:¬YB σ δ p:=λz=>by obtain⟨xs,e⟩:=rel1.isl (QaC (F:=F) z);rw[hp] at e;cases e
 let A1:Addr->Prop:=λa=>Av F σ δ a∨a=p
 have hP:∀a,YB σ δ a->A1 a:=λa z=>.inl (QaC z)
 have hN:∀a,A1 a->Av F σ δ a∨H1 a=none:=λa z=>z.elim .inl λz=>.inr (by rw[z];exact hp)
 have dmK:∀{H2:Hp},Kp σ δ H1 H2->(∃ys,H2 p=some (.lst ys))->∀a,A1 a->∃xs,H2 a=some (.lst xs):=λ{H2} k2 e2 a z=>by
  rcases z with z | z
  ·exact(rel1.kp k2).isl z
  ·rw[z];exact e2
 refine Qg2 items.length (λi H2=>i<=items.length/\∃acc,Iv i acc/\acc.length<=i/\Lp σ δ A1 p H1 H2 acc) ⟨Qr _,[],i0,Qi _,Kp.same rel1 (JX hp),[],J7,.nil⟩ (λi H2 hi ⟨_,acc,iv,hl,lp⟩=>?_) λH2 ⟨_,acc,iv,hl,lp⟩=>?_
 ·obtain⟨k2,ys,e2,q2⟩:=lp;obtain⟨go,_⟩:=it H2 A1 (λb o n e=>k2.1 b o n e) hN (dmK k2 ⟨ys,e2⟩);have hd:items[i]? = some items[i]:=Qf hi;obtain⟨g1,g2⟩:=go i _ hd;refine⟨g1,λx H3 y kk hk=>?_⟩;obtain⟨s3,dx⟩:=g2 x H3 y;have k23:=Kp.same (rel1.kp k2) s3;have lp3:Lp σ δ A1 p H1 H3 acc:=Lp.step hP hpn ⟨k2,ys,e2,q2⟩ k23;refine Qmk hf rel1 (λa z=>.inl z) hN (dmK lp3.kp ⟨ys,s3 _ _ e2⟩) lp3.kp dx (step i acc _ hd iv) (λσ4 δ4 H5 h5 r5 k5 pots=>?_) λh5 H5 k5=>hk _ ⟨hi,acc,h5,by omega,lp3.step hP hpn k5⟩
  exact QsW (.inr rfl) hP hp hpn (lp3.step hP hpn k5) (by omega) r5 pots h5 λe he H' lp'=>hk _ ⟨hi,acc++[e],he,by rw[Qs];show _+1<=_;omega,lp'⟩
 ·obtain⟨k2,ys,e2,q2⟩:=lp;obtain⟨_,st⟩:=it H2 A1 (λb o n e=>k2.1 b o n e) hN (dmK k2 ⟨ys,e2⟩);refine⟨st,k _ (fin acc iv) (.ref p) H2 (rel1.kp k2) (kp1.trans k2) ⟨.lst (λz=>?_) e2 (q2.mv (λ_ _ _ e=>e) λa z=>.inl (.inl z)),λl e1 _=>?_⟩⟩
  ·obtain⟨xs,e⟩:=rel1.isl z;rw[hp] at e;cases e
  ·cases e1;exact Qcf kp1 hp
theorem Qvv{items:List Qa}{wg:DG}{wt:DT}{we:DE}{δ:Sts}{Q:Qa->Prop}(G:Qa->Option Qa)
  (h:∀d∈items,∀(k1:Prop)(k2:Qa->Prop),(G d=none->k1)->(∀e,G d=some e->k2 e)->wg d δ λδ4=>wt δ4 (λb=>if b=true then we δ4 k2 XF else k1) XF)(q:Q (.list (items.filterMap G))) :
  QjN items wg wt we δ Q:=by
 unfold QjN;refine⟨λi acc=>acc=(items.take i).filterMap G,by simp,λi acc d hd e=>?_,λacc e=>by rw[e,ZN];exact q⟩;have hs:(items.take (i+1)).filterMap G=(items.take i).filterMap G++(G d).toList:=by
  rw[Yk,hd,Ya];cases e2:G d<;>simp[e2]
 have e:acc=(items.take i).filterMap G:=e;refine h d (QQ hd) _ _ (λe2=>?_) λe' e2=>?_
 ·show acc=(items.take (i+1)).filterMap G;rw[hs,e2,e];simp
 ·show acc++[e']=(items.take (i+1)).filterMap G;rw[hs,e2,e];rfl
theorem QbI{items:List Qa}{wg:DG}{we:DE}{δ:Sts}{Q:Qa->Prop}(G:Qa->Qa)
  (h:∀d∈items,∀(k2:Qa->Prop),k2 (G d)->wg d δ λδ4=>we δ4 k2 XF)(q:Q (.list (items.map G))) :
  QjN items wg QvQ we δ Q:=by
 unfold QjN;refine⟨λi acc=>acc=(items.take i).map G,by simp,λi acc d hd e=>?_,λacc e=>by rw[e,ZN];exact q⟩;have hs:(items.take (i+1)).map G=(items.take i).map G++[G d]:=by
  rw[Yk,hd,JF];simp
 have e:acc=(items.take i).map G:=e;have hh:=h d (QQ hd) (λe=>acc++[e]=(items.take (i+1)).map G) (by show acc++[G d]=_;rw[hs,e]);simp only[QvQ,if_true];exact hh
end
theorem Qn9:∀{a b:List (Int×Int)},dkV a=dkV b->a=b
 |[],[],_=>rfl
 |[],_::_,h=>by cases h
 |_::_,[],h=>by cases h
 |p::a,q::b,h=>by
  have h:=Qo7 (show(Qdc p.1,V.int p.2)::dkV a=(Qdc q.1,V.int q.2)::dkV b from h);have h1:=Qb4 h.1;rw[Qn9 h.2,Qez (QvW h1.1) (V.int.inj h1.2)]
mutual
theorem Qog{A B:Addr->Prop}{H:Hp}:∀(d d':Qa)(x:V),DA A H x d->DA B H x d'->d=d'
 |.none,d',_,.non,h=>by cases h;rfl
 |.bool _,d',_,.bl _,h=>by cases h;rfl
 |.int _,d',_,.int _,h=>by cases h;rfl
 |.str _,d',_,.str _ _,h=>by cases h;rfl
 |.tuple ds,d',_,.tup (xs:=xs) n e q,h=>by
  cases h with
  |@tup a ys es n' e' q'=>
   rw[e] at e';cases e';rw[Qhb ds es xs q q']
  |@lst a ys es n' e' q'=>rw[e] at e';cases e'
  |@dct a kvs' ds' n' e' q'=>rw[e] at e';cases e'
 |.list ds,d',_,.lst (xs:=xs) n e q,h=>by
  cases h with
  |@tup a ys es n' e' q'=>rw[e] at e';cases e'
  |@lst a ys es n' e' q'=>
   rw[e] at e';cases e';rw[Qhb ds es xs q q']
  |@dct a kvs' ds' n' e' q'=>rw[e] at e';cases e'
 |.dict _,d',_,.dct (kvs:=kvs) n e q,h=>by
  cases h with
  |@tup a ys es n' e' q'=>rw[e] at e';cases e'
  |@lst a ys es n' e' q'=>rw[e] at e';cases e'
  |@dct a kvs' ds' n' e' q'=>
   rw[e] at e';rw[q,q',Qn9 (HO.dK.inj (Qm e'))]
theorem Qhb{A B:Addr->Prop}{H:Hp}:∀(ds es:List Qa)(xs:List V),DAs A H xs ds->DAs B H xs es->ds=es
 |[],es,_,.nil,h=>by cases h;rfl
 |d::ds,es,_,.cons q qs,h=>by
  cases h with
  |@cons x xs e es q' qs'=>rw[Qog d e _ q q',Qhb ds es _ qs qs']
end
mutual
theorem Qye{A:Addr->Prop}{H:Hp}{l:Addr}{rs:List Qa}(root:DA A H (.ref l) (.list rs)):∀(d:Qa)(x:V),sizeOf d<sizeOf (QaP rs)->DA A H x d->DA (λa=>A a∨a=l) H x d
 |.none,_,_,.non=>.non
 |.bool _,_,_,.bl _=>.bl _
 |.int _,_,_,.int _=>.int _
 |.str _,_,_,.str _ c=>.str _ c
 |.tuple ds,_,hs,.tup (a:=a) (xs:=xs) n e q=>.tup (λz=>z.elim n λz=>by subst z;cases root with | @lst _ ys _ n' e' q'=>(rw[e] at e';cases e')) e (Qhc root ds xs (by simp at hs ⊢;omega) q)
 |.list ds,_,hs,.lst (a:=a) (xs:=xs) n e q=>.lst (λz=>z.elim n λz=>by
   subst z;have:=Qog _ _ _ root (.lst n e q);rw[this] at hs;omega) e (Qhc root ds xs (by simp at hs ⊢;omega) q)
 |.dict _,_,hs,.dct (a:=a) n e q=>.dct (λz=>z.elim n λz=>by subst z;cases root with | @lst _ ys _ n' e' q'=>(rw[e] at e';cases e')) e q
theorem Qhc{A:Addr->Prop}{H:Hp}{l:Addr}{rs:List Qa}(root:DA A H (.ref l) (.list rs)):∀(ds:List Qa)(xs:List V),sizeOf ds<sizeOf (QaP rs)->DAs A H xs ds->DAs (λa=>A a∨a=l) H xs ds
 |[],_,_,.nil=>.nil
 |d::ds,_,hs,.cons q qs=>.cons (Qye root d _ (by simp at hs ⊢;omega) q) (Qhc root ds _ (by simp at hs ⊢;omega) qs)
end
theorem DA.items{A:Addr->Prop}{H:Hp}{l:Addr}{ds:List Qa}(root:DA A H (.ref l) (.list ds)):∃xs,H l=some (.lst xs)/\DAs (λa=>A a∨a=l) H xs ds:=by
 have root':=root;cases root with
 |@lst _ xs _ n e q=>exact⟨xs,e,Qhc root' ds xs (by simp) q⟩
structure QfB where
 nx:Sts->Prop
 rt:Qa->Prop
 rtF:Qa->Prop
 bk:Sts->Prop
 ct:Sts->Prop
 ex:XP
abbrev DS:=QfB->Sts->Prop
structure Nx (K:PySem.W.Frag) (F:Fm) (σ:L2.St) (H:Hp) (δ:Sts) (R:Sts->Prop) (T:L2.St->Hp->Prop):Prop where
 go:∀δ',R δ'->∀σ' H',Rel K F σ' H' δ'->Stp F σ H δ σ' H' δ'->T σ' H'
structure Ends1 (K:PySem.W.Frag) (E:XK) (F:Fm) (σ:L2.St) (H:Hp) (δ:Sts) (DD:QfB) (D:Ends):Prop where
 nx:Nx K F σ H δ DD.nx D.nx
 rt:∀d,DD.rt d->∀v H',Ke F H'->DA F.A0 H' v d->D.rt v H'
 rtF:∀d,DD.rtF d->∀v H',Ke F H'->DA F.A0 H' v d->FrV F.H0 H' v->D.rt v H'
 bk:Nx K F σ H δ DD.bk D.bk
 ct:Nx K F σ H δ DD.ct D.ct
 ex:Out F E DD.ex
def tS(K:PySem.W.Frag)(E:XK)(w:DS):TS:=λD σ H=>∃(F:Fm)(δ:Sts)(DD:QfB),Rel K F σ H δ/\w DD δ/\Ends1 K E F σ H δ DD D
theorem Nx.step{K:PySem.W.Frag}{F:Fm}{σ σ1:L2.St}{H H1:Hp}{δ δ1:Sts}{R:Sts->Prop}{T:L2.St->Hp->Prop}(h:Nx K F σ H δ R T)(s:Stp F σ H δ σ1 H1 δ1):Nx K F σ1 H1 δ1 R T:=⟨λδ' hR σ' H' r st=>h.go δ' hR σ' H' r (s.trans st)⟩
theorem Ends1.step{K:PySem.W.Frag}{E:XK}{F:Fm}{σ σ1:L2.St}{H H1:Hp}{δ δ1:Sts}{DD:QfB}{D:Ends}(h:Ends1 K E F σ H δ DD D)(s:Stp F σ H δ σ1 H1 δ1):Ends1 K E F σ1 H1 δ1 DD D:=⟨h.nx.step s,h.rt,h.rtF,h.bk.step s,h.ct.step s,h.ex⟩
section
variable{X:Cx}{E:XK}
theorem PS.imp{e:Y4}{t t':TS}(h:PS X e t)(i:∀D σ H,t' D σ H->t D σ H):PS X e t':=λpins s σ H D I q=>h pins s σ H D I (i D σ H q)
theorem PSs.imp{e:List Y4}{t t':TS}(h:PSs X e t)(i:∀D σ H,t' D σ H->t D σ H):PSs X e t':=λpins s σ H D I q=>h pins s σ H D I (i D σ H q)
def QBb(a b:DS):DS:=λD δ=>a { D with nx:=b D } δ
def Qyg:DS:=λD δ=>D.nx δ
theorem QpX:PSs X [] (tS X.K E Qyg):=PSs.imp Qjh λD σ H ⟨F,δ,DD,rel,hw,en⟩=>en.nx.go δ hw σ H rel Stp.refl
theorem Quk{st:Y4}{w:DS}(h:PS X st (tS X.K E w)):PSs X [st] (tS X.K E w):=QcU h
theorem Qp2{st:Y4}{rest:List Y4}{w w':DS}(h:PS X st (tS X.K E w))(h':PSs X rest (tS X.K E w')):PSs X (st::rest) (tS X.K E (QBb w w')):=by
 refine PSs.imp (QaZ h h') λD σ H ⟨F,δ,DD,rel,hw,en⟩=>?_
 exact⟨F,δ,_,rel,hw,⟨λδ' h' σ' H' r st=>⟨F,δ',DD,r,h',en.step st⟩⟩,en.rt,en.rtF,en.bk,en.ct,en.ex⟩
def QAx(i:Nat)(we:DE):DS:=λD δ=>we δ (λd=>D.nx (δ.set i (.v d))) D.ex
def Qvm(i:Nat)(we:DE):DS:=λD δ=>we δ (λd=>match d with
 |.list ds=>D.nx (δ.set i (.own ds))
 |_=>False) D.ex
def Qyh(i:Nat)(we:DE):DS:=λD δ=>we δ (λd=>match d with
 |.list [.int _]=>D.nx (δ.set i .pot)
 |_=>False) D.ex
variable{i:Nat}{e:Q3}{st:Y4}{we wi:DE}
theorem Qm5(h:PS X st (Qsm (tX .D X.K E we) (Qg7 i))):PS X st (tS X.K E (QAx i we)):=by
 refine PS.imp h λD σ H ⟨F,δ,DD,rel,hw,en⟩=>?_
 refine⟨F,δ,_,DD.ex,rel,hw,λd hd v H' rel' kp vk=>?_,en.ex⟩;exact en.nx.go _ hd _ H' (rel'.setv vk) ((Stp.kp kp).trans Stp.setv)
theorem Qs6{F:Fm}{σ:L2.St}{δ:Sts}{i:Nat}{l:Addr}{x:Sl}{a:Addr}(h:Av F (σ.set i (some (.ref l))) (δ.set i x) a):Av F σ δ a∨a=l:=by
 rcases h with h | ⟨j,h1,h2⟩
 ·exact .inl (.inl h)
 ·by_cases z:j=i
  ·subst z;cases set_eq h1;exact .inr rfl
  ·rw[QaU z] at h1 h2;exact .inl (.inr ⟨j,h1,h2⟩)
theorem Rel.seto{K:PySem.W.Frag}{F:Fm}{σ:L2.St}{H H':Hp}{δ:Sts}{l:Addr}{x:Sl}(r:Rel K F σ H δ)(r':Rel K F σ H' δ)(kp:Kp σ δ H H')(n:H l=none)(hx:∀A:Addr->Prop,(∀a,A a->Av F σ δ a∨H a=none)->(∀a,A a->Av F σ δ a∨a=l)->QBo K F H' A (some (.ref l)) x) :
  Rel K F (σ.set i (some (.ref l))) H' (δ.set i x)/\Stp F σ H δ (σ.set i (some (.ref l))) H' (δ.set i x):=by
 have nA:∀a,Av F (σ.set i (some (.ref l))) (δ.set i x) a->Av F σ δ a∨H a=none:=λa z=>(Qs6 z).elim .inl λz=>.inr (by rw[z];exact n)
 have kk:∀a o,¬Av F σ δ a->H a=some o->H' a=some o:=λa o m e=>kp.1 a o (λz=>m (QaC z)) e
 refine⟨?_,⟨kk,nA⟩⟩;exact{
  len:=by rw[Ym,Ym];exact r.len
  dom:=r'.dom
  dom0:=r'.dom0
  pt0:=r'.pt0
  kx:=r'.kx
  sl:=λj o y h1 h2=>by
   by_cases z:j=i
   ·subst z;cases set_eq h1;cases set_eq h2;exact hx _ nA λa z=>Qs6 z
   ·rw[QaU z] at h1 h2;have h:=r.sl j o y h1 h2;have h':=r'.sl j o y h1 h2;cases y with
    |no=>trivial
    |v d=>obtain⟨v',e,q'⟩:=h;exact⟨v',e,q'.mv kk nA⟩
    |own ds=>obtain⟨l',xs,rfl,e2,q',f⟩:=h;exact⟨l',xs,rfl,kp.1 _ _ (r.own_pot h2 h1) e2,q'.mv kk nA,f⟩
    |pk ds=>
     obtain⟨l',xs,rfl,e2,q',ys,f,f2⟩:=h;refine⟨l',xs,rfl,kp.1 _ _ ?_ e2,q'.mv kk nA,ys,f,f2⟩;rintro⟨j,j1,j2⟩;obtain⟨p,m,e1,_,w⟩:=r.sl j _ _ j1 j2;cases e1;rcases w with w | w
     ·exact f2 w
     ·rw[w] at f;cases f
    |pot=>exact h'
    |scr=>exact h'
  inj:=λj k a ds h1 h2 ⟨h3,h4⟩=>by
   have ne:∀(k:Nat),k≠i->σ[k]? = some (some (.ref l))->(δ[k]? = some .pot∨∃ds,δ[k]? = some (.own ds))->False:=λk _ h3 h4=>by
    obtain⟨xs,e⟩:=r.isl (a:=l) (.inr ⟨k,h3,h4⟩);rw[n] at e;cases e
   by_cases z:j=i
   ·subst z;cases set_eq h2;by_cases z2:k=j
    ·exact z2.symm
    ·rw[QaU z2] at h3 h4;exact(ne k z2 h3 h4).elim
   ·rw[QaU z] at h1 h2;by_cases z2:k=i
    ·subst z2;cases set_eq h3;exact(ne j z h2 (.inr ⟨ds,h1⟩)).elim
    ·rw[QaU z2] at h3 h4;exact r.inj j k a ds h1 h2 ⟨h3,h4⟩ }
theorem QnV{K:PySem.W.Frag}{F:Fm}{σ:L2.St}{H:Hp}{δ:Sts}(r:Rel K F σ H δ){l:Addr}(n:H l=none):F.H0 l=none:=by
 cases e:F.H0 l with
 |none=>rfl
 |some o=>
  by_cases z:F.pt l
  ·obtain⟨_,m,e'⟩:=r.pt0 l z;rw[n] at e';cases e'
  ·rw[r.kx l o z e] at n;cases n
theorem Qko(h:PS X st (Qsm (tX .F X.K E we) (Qg7 i))):PS X st (tS X.K E (Qvm i we)):=by
 refine PS.imp h λD σ H ⟨F,δ,DD,rel,hw,en⟩=>?_
 refine⟨F,δ,_,DD.ex,rel,hw,λd hd v H' rel' kp ⟨vk,fr⟩=>?_,en.ex⟩;obtain⟨ds,rfl⟩:∃ds,d=.list ds:=by cases d<;>first | exact⟨_,rfl⟩ | exact(show False from hd).elim
 obtain⟨l,rfl⟩:∃l,v=.ref l:=by cases vk;exact⟨_,rfl⟩
 obtain⟨xs,e,q⟩:=DA.items vk;have n:=fr l rfl ⟨xs,e⟩;obtain⟨r2,st⟩:=rel.seto (i:=i) (x:=.own ds) rel' kp n λA hA hB=>⟨l,xs,rfl,e,q.mv (λ_ _ _ e=>e) λa z=>.inl (hB a z),QnV rel n⟩
 exact en.nx.go _ hd _ H' r2 st
theorem QpY(h:PS X st (Qsm (tX .F X.K E we) (Qg7 i))):PS X st (tS X.K E (Qyh i we)):=by
 refine PS.imp h λD σ H ⟨F,δ,DD,rel,hw,en⟩=>?_
 refine⟨F,δ,_,DD.ex,rel,hw,λd hd v H' rel' kp ⟨vk,fr⟩=>?_,en.ex⟩;split at hd
 ·cases vk with
  |@lst l xs ds na e q=>
   have n:=fr l rfl ⟨xs,e⟩;cases q with
   |cons q1 q2=>
    cases q1;cases q2;obtain⟨r2,st⟩:=rel.seto (i:=i) (x:=.pot) rel' kp n λA hA hB=>⟨l,_,rfl,e,.inr (QnV rel n)⟩
    exact en.nx.go _ hd _ H' r2 st
 ·exact hd.elim
def QBl(we:DE)(wg:DG):DS:=λD δ=>we δ (λd=>wg d δ D.nx) D.ex
theorem Qup{ix:List Nat}{wg:DG}(h:PS X st (Qsm (tX .D X.K E we) (tG ix X.K wg))):PS X st (tS X.K E (QBl we wg)):=by
 refine PS.imp h λD σ H ⟨F,δ,DD,rel,hw,en⟩=>?_
 refine⟨F,δ,_,DD.ex,rel,hw,λd hd v H' rel' kp vk=>?_,en.ex⟩;exact⟨F,δ,d,_,rel',vk,hd,λδ' h' σ' r' st' _ _=>en.nx.go _ h' _ H' r' ((Stp.kp kp).trans st')⟩
def QBc(we:DE):DS:=λD δ=>we δ D.rt D.ex
def Qyj(we:DE):DS:=λD δ=>we δ D.rtF D.ex
theorem Qvl{F:Fm}{σ:L2.St}{δ:Sts}{H:Hp}{v:V}{d:Qa}(h:DA (Av F σ δ) H v d):DA F.A0 H v d:=h.mv (λ_ _ _ e=>e) λa z=>.inl (.inl z)
theorem Qui{e:Q3}{pos:Pos}(h:PE X e (tX .D X.K E we)):PS X (.Return (some e) pos) (tS X.K E (QBc we)):=by
 refine PS.imp (Qeh h) λD σ H ⟨F,δ,DD,rel,hw,en⟩=>?_
 exact⟨F,δ,_,DD.ex,rel,hw,λd hd v H' rel' kp vk=>en.rt d hd v H' rel'.ke (Qvl vk),en.ex⟩
theorem Qp0{e:Q3}{pos:Pos}(h:PE X e (tX .F X.K E we)):PS X (.Return (some e) pos) (tS X.K E (Qyj we)):=by
 refine PS.imp (Qeh h) λD σ H ⟨F,δ,DD,rel,hw,en⟩=>?_
 exact⟨F,δ,_,DD.ex,rel,hw,λd hd v H' rel' kp vk=>en.rtF d hd v H' rel'.ke (Qvl vk.1) λl e1 e2=>QnV rel (vk.2 l e1 e2),en.ex⟩
def Qvn(i:Nat):DS:=λD δ=>match δ[i]? with
 |some (.own ds)=>D.rtF (.list ds)
 |some (.v d)=>D.rt d
 |_=>False
theorem QpZ{e:Q3}{pos:Pos}(h:PE X e (Qmp i)):PS X (.Return (some e) pos) (tS X.K E (Qvn i)):=by
 refine PS.imp (Qeh h) λD σ H ⟨F,δ,DD,rel,hw,en⟩=>?_
 unfold Qvn at hw;split at hw
 ·rename_i ds hd
  obtain⟨x,hx⟩:=rel.lt hd;obtain⟨l,xs,rfl,e,q,f⟩:=rel.sl i _ _ hx hd;refine⟨_,hx,en.rtF _ hw _ H rel.ke (.lst (λz=>?_) e (q.mv (λ_ _ _ e=>e) λa z=>.inl (.inl z))) λl' e1 _=>by cases e1;exact f⟩;obtain⟨ys,e'⟩:=rel.dom0 l z;rw[f] at e';cases e'
 ·rename_i d hd
  obtain⟨x,hx⟩:=rel.lt hd;obtain⟨v,rfl,q⟩:=rel.sl i _ _ hx hd;exact⟨v,hx,en.rt _ hw _ H rel.ke (Qvl q)⟩
 ·exact hw.elim
def dIf(t:DT)(a b:DS):DS:=λD δ=>t δ (λc=>if c=true then a D δ else b D δ) D.ex
theorem Qw4{c:Q3}{a b:List Y4}{pos:Pos}{t:DT}{w w':DS}(hc:PT X c (tT X.K E t))(ha:PSs X a (tS X.K E w))(hb:PSs X b (tS X.K E w')):PS X (.If c a b pos) (tS X.K E (dIf t w w')):=by
 refine PS.imp (QtX hc ha hb) λD σ H ⟨F,δ,DD,rel,hw,en⟩=>?_
 exact⟨F,δ,_,DD.ex,rel,hw,λb hb H' rel' kp=>Qdu hb (λz=>⟨F,δ,DD,rel',z,en.step (Stp.kp kp)⟩) λz=>⟨F,δ,DD,rel',z,en.step (Stp.kp kp)⟩,en.ex⟩
theorem Qm6{sts:List Y4}:PSs X sts (tS X.K E λ_ _=>False):=λpins s σ H D I ⟨F,δ,DD,rel,hw,en⟩=>hw.elim
def QAA(i:Nat)(rD:Qa->Qa->(Qa->Prop)->Prop)(we:DE):DS:=λD δ=>match δ[i]? with
 |some (.v d)=>we δ (λe=>rD d e (λz=>D.nx (δ.set i (.v z)))) D.ex
 |_=>False
theorem Quo{r:TIp}{rD:Qa->Qa->(Qa->Prop)->Prop}(hd:Qr4 r rD)(h:PS X st (QAM i (tX .P X.K E we) (λx y H Q=>Qc2 H->r x y H Q))):PS X st (tS X.K E (QAA i rD we)):=by
 refine PS.imp h λD σ H ⟨F,δ,DD,rel,hw,en⟩=>?_
 unfold QAA at hw;split at hw
 ·rename_i d hd'
  obtain⟨x,hx⟩:=rel.lt hd';obtain⟨v,rfl,q⟩:=rel.sl i _ _ hx hd';refine⟨v,hx,F,δ,_,DD.ex,rel,hw,λe he y H' rel' kp yk ln=>?_,en.ex⟩;refine hd (Av F σ δ) (YB σ δ) H' v y d e _ _ ln (λa ha=>rel'.isl ha) (.inl (kp.da q)) yk he λz hz u H2 s du=>?_
  exact en.nx.go _ hz _ H2 ((rel'.same s).setv du) (((Stp.kp kp).trans (Stp.kp (Kp.same rel' s))).trans Stp.setv)
 ·exact hw.elim
theorem QgW{g:Int->Int->Int}:Qr4 (ipI g) (ii0 λi j=>.int (g i j)):=λA P H x y d1 d2 R Q ln dm hx hy h k=>by
 cases d1<;>cases d2<;>first | exact h.elim | skip
 rw[hx.int,hy.int];exact⟨_,_,rfl,rfl,k _ h _ H (Same.refl H) (.int _)⟩
theorem PIp.len{op:Qdd}{t:TIp}(h:PIp X op t):PIp X op (λx y H Q=>Qc2 H->t x y H Q):=λpins s σ H x y v u Q I rx ry q=>h pins s σ H x y v u Q I rx ry (q (Inv.lens I))
theorem Rel.mut{K:PySem.W.Frag}{F:Fm}{σ:L2.St}{H:Hp}{δ:Sts}(r:Rel K F σ H δ){l:Addr}{ds ds':List Qa}{ys:List V}(h:δ[i]? = some (.own ds))(hx:σ[i]? = some (some (.ref l)))(q:DAs (Av F σ δ) H ys ds') :
  Rel K F σ (upd H l (.lst ys)) (δ.set i (.own ds'))/\Stp F σ H δ σ (upd H l (.lst ys)) (δ.set i (.own ds')):=by
 have hl:Av F σ δ l:=.inr ⟨i,hx,.inr ⟨ds,h⟩⟩;obtain⟨l',xs0,e0,el,_,f⟩:=r.sl i _ _ hx h;cases e0;have lt:i < δ.length:=(QD.mp h).1;have ge:(δ.set i (.own ds'))[i]? = some (.own ds'):=by rw[QcI lt]
 have kk:∀a o,¬Av F σ δ a->H a=some o->upd H l (.lst ys) a=some o:=λa o n e=>by rw[Zk (λz=>n (by rw[z];exact hl))];exact e
 have av:∀a,Av F σ (δ.set i (.own ds')) a->Av F σ δ a:=λa z=>by
  rcases z with z | ⟨j,h1,h2⟩
  ·exact .inl z
  ·by_cases z:j=i
   ·subst z;exact .inr ⟨j,h1,.inr ⟨ds,h⟩⟩
   ·rw[QaU z] at h2;exact .inr ⟨j,h1,h2⟩
 have up:∀{b:Addr}{o:HO},b≠l->H b=some o->upd H l (.lst ys) b=some o:=λn e=>by rw[Zk n];exact e
 refine⟨?_,⟨kk,λa z=>.inl (av a z)⟩⟩;exact{
  len:=by rw[Ym];exact r.len
  dom:=λa ha=>by
   by_cases z:a=l
   ·rw[z];exact⟨_,J7⟩
   ·obtain⟨xs,e⟩:=r.dom a ha;exact⟨xs,up z e⟩
  dom0:=r.dom0
  pt0:=λp hp=>by
   obtain⟨h1,n,e⟩:=r.pt0 p hp;refine⟨h1,n,up (λz=>?_) e⟩;obtain⟨xs,e'⟩:=r.dom0 p h1;rw[z,f] at e';cases e'
  kx:=λb o n e=>up (λz=>by rw[z,f] at e;cases e) (r.kx b o n e)
  sl:=λj o y h1 h2=>by
   by_cases z:j=i
   ·subst z;rw[ge] at h2;cases h2;rw[hx] at h1;cases h1;exact⟨l,ys,rfl,J7,q.mv kk λa z=>.inl (av a z),f⟩
   ·rw[QaU z] at h2;have hh:=r.sl j o y h1 h2;cases y with
    |no=>trivial
    |v d=>obtain⟨v',e,q'⟩:=hh;exact⟨v',e,q'.mv kk λa z=>.inl (av a z)⟩
    |own es=>
     obtain⟨l',xs,rfl,e2,q',f'⟩:=hh;exact⟨l',xs,rfl,up (λz2=>z (r.inj j i l' es h2 h1 ⟨by rw[z2];exact hx,.inr ⟨ds,h⟩⟩)) e2,q'.mv kk λa z=>.inl (av a z),f'⟩
    |pk es=>
     obtain⟨l',xs,rfl,e2,q',ys',f',f2⟩:=hh;exact⟨l',xs,rfl,up (λz2=>by rw[z2,f] at f';cases f') e2,q'.mv kk λa z=>.inl (av a z),ys',f',f2⟩
    |pot=>
     obtain⟨p,n,rfl,e2,w⟩:=hh;refine⟨p,n,rfl,up (λz2=>?_) e2,w⟩;subst z2;exact r.own_pot h hx ⟨j,h1,h2⟩
    |scr=>exact hh
  inj:=λj k a es h1 h2 ⟨h3,h4⟩=>by
   have h4':δ[k]? = some .pot∨∃ds,δ[k]? = some (.own ds):=by
    by_cases z:k=i
    ·subst z;exact .inr ⟨ds,h⟩
    ·rw[QaU z] at h4;exact h4
   by_cases z:j=i
   ·subst z;exact r.inj j k a ds h h2 ⟨h3,h4'⟩
   ·rw[QaU z] at h1;exact r.inj j k a es h1 h2 ⟨h3,h4'⟩ }
def QAB(i:Nat)(we:DE):DS:=λD δ=>match δ[i]? with
 |some (.own ds)=>we δ (λd=>ds.length<1000000/\D.nx (δ.set i (.own (ds++[d])))) D.ex
 |_=>False
theorem Quq(h:PS X st (Qpi (tBM X.K "list" QmS (Qmp i) (Qi3 (tX .D X.K E we) QyU)))):PS X st (tS X.K E (QAB i we)):=by
 refine PS.imp h λD σ H ⟨F,δ,DD,rel,hw,en⟩=>?_
 unfold QAB at hw;split at hw
 ·rename_i ds hd
  obtain⟨x,hx⟩:=rel.lt hd;obtain⟨l,xs,rfl,e,q,f⟩:=rel.sl i _ _ hx hd;have np:=rel.own_pot hd hx;refine⟨.ref l,hx,.inl ⟨rfl,_,SqL.of e⟩,F,δ,_,DD.ex,rel,hw,λd ⟨hl,hn⟩ v H' rel' kp vk=>?_,en.ex⟩;have q':=kp.das q;refine⟨l,xs,v,rfl,rfl,kp.1 _ _ np e,Q0 (by rw[q.length];exact hl) Qjv,?_⟩;obtain⟨r2,st⟩:=rel'.mut hd hx (q'.app (.cons vk .nil));exact en.nx.go _ hn _ _ r2 ((Stp.kp kp).trans st)
 ·exact hw.elim
def Qvq(i:Nat)(rD:Qa->Qa->(Qa->Prop)->Prop)(wi we:DE):DS:=λD δ=>match δ[i]? with
 |some (.own ds)=>wi δ (λz=>match z with
  |.int k=>∃j a,ixN ds.length k=some j/\ds[j]? = some a/\we δ (λe=>rD a e λb=>D.nx (δ.set i (.own (ds.set j b)))) D.ex
  |_=>False) D.ex
 |_=>False
theorem Qp3{r:TIp}{rD:Qa->Qa->(Qa->Prop)->Prop}(hd:Qr4 r rD)(h:PS X st (Qwh (Qmp i) (tX .P X.K E wi) (tX .P X.K E we) (QyX X.K) (λx y H Q=>Qc2 H->r x y H Q) QwC)):PS X st (tS X.K E (Qvq i rD wi we)):=by
 refine PS.imp h λD σ H ⟨F,δ,DD,rel,hw,en⟩=>?_
 unfold Qvq at hw;split at hw
 ·rename_i ds hds
  obtain⟨x,hx⟩:=rel.lt hds;obtain⟨l,xs,rfl,e,q,f⟩:=rel.sl i _ _ hx hds;have np:=rel.own_pot hds hx;refine⟨.ref l,hx,F,δ,_,DD.ex,rel,hw,λz hz y H1 rel1 kp1 yk=>?_,en.ex⟩;cases z<;>first | exact(show False from hz).elim | skip
  obtain⟨j,a,hj,ha,hn⟩:=hz;have q1:=kp1.das q;obtain⟨va,hva,da⟩:=q1.get j a ha;rw[DP.int yk];refine⟨l,xs,_,va,rfl,rfl,SqL.of (kp1.1 _ _ np e),by unfold atI;rw[q.length,hj];exact hva,F,δ,_,DD.ex,rel1,hn,λb hb u H2 rel2 kp2 uk ln=>?_,en.ex⟩;refine hd (Av F σ δ) (YB σ δ) H2 va u a b _ _ ln (λa ha=>rel2.isl ha) (.inl (kp2.da da)) uk hb λc hc w H3 s dw=>?_
  have r3:=rel2.same s;have k3:=kp2.trans (Kp.same rel2 s);refine⟨l,xs,_,j,rfl,rfl,k3.1 _ _ np (kp1.1 _ _ np e),by rw[q.length];exact hj,?_⟩;obtain⟨r4,st⟩:=r3.mut hds hx ((k3.das q1).set dw j);exact en.nx.go _ hc _ _ r4 (((Stp.kp kp1).trans (Stp.kp k3)).trans st)
 ·exact hw.elim
@[irreducible] def QvI(items:List Qa)(wg:DG)(wb:DS)(D:QfB)(δ:Sts):Prop:=∃Iv:Nat->Sts->Prop,Iv 0 δ/\(∀(i:Nat) d δ,items[i]? = some d->Iv i δ->wg d δ λδ2=>wb { D with nx:=Iv (i+1),ct:=Iv (i+1),bk:=D.nx } δ2)/\∀δ,Iv items.length δ->D.nx δ
def dFor(wi:DI)(wg:DG)(wb:DS):DS:=λD δ=>wi δ (λitems=>QvI items wg wb D δ) D.ex
theorem Qun{tg iter:Q3}{body:List Y4}{pos:Pos}{ix:List Nat}{wi:DI}{wg:DG}{wb:DS}(hp:Qgw (model X.prog X.w) X.A X.env X.xe)(hc:X.calm=true)(hi:PI X tg iter (tI .D X.K E wi))(hg:PG X tg (tG ix X.K wg))(hb:PSs X body (tS X.K E wb))
  (hs:∀x,foldedSetIterable iter X.env x=pure x:=by intro _;rfl):PS X (.For tg iter body [] pos) (tS X.K E (dFor wi wg wb)):=by
 refine PS.imp (Qsw hp hc hi hg hb hs) λD σ H ⟨F,δ,DD,rel,hw,en⟩=>?_
 refine⟨F,δ,_,DD.ex,rel,hw,λitems hC J H1 rel1 kp1 ⟨ln,it⟩=>?_,en.ex⟩;unfold QvI at hC;obtain⟨Iv,i0,step,fin⟩:=hC;have en1:=en.step (Stp.kp (F:=F) kp1);refine⟨λi m σ' H'=>m=items.length - i/\i<=items.length/\∃δ',Iv i δ'/\Rel X.K F σ' H' δ'/\Stp F σ H1 δ σ' H' δ',⟨_,rfl,Qr _,δ,i0,rel1,Stp.refl⟩,?_⟩;rintro i m σ' H' ⟨rfl,hi',δ',iv,r',st'⟩;obtain⟨go,stop⟩:=it H' (Av F σ' δ') st'.1 st'.2 λa ha=>r'.isl ha
 by_cases hlt:i<items.length
 ·have hd:items[i]? = some items[i]:=Qf hlt;obtain⟨g1,g2⟩:=go i _ hd;refine .inr ⟨g1,λσ2 H2=>∃δ2,Iv (i+1) δ2/\Rel X.K F σ2 H2 δ2/\Stp F σ H1 δ σ2 H2 δ2,λσ2 H2 ⟨δ2,h2,r2,s2⟩=>⟨_,by omega,rfl,hlt,δ2,h2,r2,s2⟩,λx H3 y=>?_⟩;obtain⟨s3,dx⟩:=g2 x H3 y;have r3:=r'.same s3;have st3:Stp F σ H1 δ σ' H3 δ':=st'.trans (Stp.kp (Kp.same r' s3));refine⟨F,δ',_,_,r3,dx,step i _ δ' hd iv,λδ4 h4 σ4 r4 st4 _ _=>⟨F,δ4,_,r4,h4,?_⟩⟩;have st5:=st3.trans st4;exact⟨⟨λδ6 h6 σ6 H6 r6 s6=>⟨δ6,h6,r6,st5.trans s6⟩⟩,en.rt,en.rtF,(en1.step st5).nx,⟨λδ6 h6 σ6 H6 r6 s6=>⟨δ6,h6,r6,st5.trans s6⟩⟩,en.ex⟩
 ·have e:i=items.length:=by omega
  subst e;exact .inl ⟨stop,(en1.step st').nx.go δ' (fin δ' iv) σ' H' r' Stp.refl⟩
theorem Qg8{lo:Int}{n:Nat}{wg:DG}{wb:DS}{D:QfB}{δ:Sts}(Iv:Nat->Sts->Prop)(h0:Iv 0 δ)
  (hs:∀(i:Nat) δ,i<n->Iv i δ->wg (.int (lo+i)) δ λδ2=>wb { D with nx:=Iv (i+1),ct:=Iv (i+1),bk:=D.nx } δ2)(hd:∀δ,Iv n δ->D.nx δ):QvI (QoW lo n) wg wb D δ:=by
 unfold QvI;exact⟨Iv,h0,λi d δ hd iv=>by obtain⟨hi,rfl⟩:=Qjb hd;exact hs i δ hi iv,λδ iv=>hd δ (by rw[Qja] at iv;exact iv)⟩
theorem QaN{items:List Qa}{wg:DG}{wb:DS}{D:QfB}{δ:Sts}(Iv:Nat->Sts->Prop)(h0:Iv 0 δ)
  (hs:∀(i:Nat) d δ,items[i]? = some d->Iv i δ->wg d δ λδ2=>wb { D with nx:=Iv (i+1),ct:=Iv (i+1),bk:=D.nx } δ2)(hd:∀δ,Iv items.length δ->D.nx δ):QvI items wg wb D δ:=by
 unfold QvI;exact⟨Iv,h0,hs,hd⟩
def Qym(we:DE):DS:=λD δ=>we δ (λ_=>D.nx δ) D.ex
theorem Qp1(h:PS X st (Qpi (tX .P X.K E we))):PS X st (tS X.K E (Qym we)):=by
 refine PS.imp h λD σ H ⟨F,δ,DD,rel,hw,en⟩=>?_
 exact⟨F,δ,_,DD.ex,rel,hw,λd hd v H' rel' kp vk=>en.nx.go δ hd σ H' rel' (Stp.kp kp),en.ex⟩
end
def stD(N:List Str)(args:List Sl):Sts:=args++Jl (N.length - args.length) .no
theorem Qf6{α β:Type}{R:α->β->Prop}:∀{xs:List α}{ys:List β},QbK R xs ys->∀(i:Nat) x y,xs[i]? = some x->ys[i]? = some y->R x y
 |_,_,.nil,i,x,y,h,_=>by simp at h
 |_,_,.cons a b,0,x,y,h,h'=>by simp at h h';subst h h';exact a
 |_,_,.cons a b,i+1,x,y,h,h'=>Qf6 b i x y (by simpa using h) (by simpa using h')
theorem Qmu{K:PySem.W.Frag}{N:List Str}{A pt:Addr->Prop}{H:Hp}{vs:List V}{args:List Sl}(dm:∀a,A a->∃xs,H a=some (.lst xs))(hp:∀p,pt p->A p/\∃n,H p=some (.lst [.int n]))(q:QbK (QlT A pt H) vs args):Rel K ⟨H,A,pt⟩ (L2.start N vs) H (stD N args):=by
 have hl:vs.length=args.length:=q.length;have no:∀(i:Nat) x,(stD N args)[i]? = some x->(i<args.length/\args[i]? = some x)∨x=.no:=λi x h=>by
  unfold stD at h;by_cases z:i<args.length
  ·rw[JN z] at h;exact .inl ⟨z,h⟩
  ·rw[QX (by omega),Yu] at h;split at h
   ·exact .inr (Qm h).symm
   ·cases h
 have arg:∀(i:Nat) o x,(L2.start N vs)[i]? = some o->(stD N args)[i]? = some x->x≠.no->∃v,o=some v/\QlT A pt H v x:=λi o x h1 h2 hx=>by
  rcases no i x h2 with⟨z,e⟩ | e
  ·unfold L2.start at h1;rw[JN (by rw[Qh];omega),Qx] at h1;obtain⟨v,hv,rfl⟩:=YC.mp h1;exact⟨v,rfl,Qf6 q i v x hv e⟩
  ·exact absurd e hx
 have av:∀a,Av ⟨H,A,pt⟩ (L2.start N vs) (stD N args) a->A a:=λa z=>by
  rcases z with z | ⟨i,h1,h2⟩
  ·exact z
  ·rcases h2 with h2 | ⟨ds,h2⟩
   ·obtain⟨v,e,p,rfl,hp'⟩:=arg i _ _ h1 h2 (λz=>by cases z);cases e;exact(hp _ hp').1
   ·obtain⟨v,e,hh⟩:=arg i _ _ h1 h2 (λz=>by cases z);exact hh.elim
 exact{
  len:=by unfold L2.start stD;rw[Qs,Qs,Qh,Qa1,Qa1,hl]
  dom:=dm
  dom0:=dm
  pt0:=hp
  kx:=λ_ _ _ e=>e
  sl:=λi o x h1 h2=>by
   cases x with
   |no=>trivial
   |v d=>
    obtain⟨v,e,hh⟩:=arg i _ _ h1 h2 (λz=>by cases z);exact⟨v,e,DA.mv hh (λ_ _ _ e=>e) λa z=>.inl (av a z)⟩
   |pot=>
    obtain⟨v,e,p,rfl,hp'⟩:=arg i _ _ h1 h2 (λz=>by cases z);obtain⟨_,n,en⟩:=hp p hp';exact⟨p,n,e,en,.inl hp'⟩
   |own ds=>obtain⟨v,e,hh⟩:=arg i _ _ h1 h2 (λz=>by cases z);exact hh.elim
   |pk ds=>obtain⟨v,e,hh⟩:=arg i _ _ h1 h2 (λz=>by cases z);exact hh.elim
   |scr=>obtain⟨v,e,hh⟩:=arg i _ _ h1 h2 (λz=>by cases z);exact hh.elim
  inj:=λi j a ds h1 h2 _=>by
   obtain⟨v,e,hh⟩:=arg i _ _ h2 h1 (λz=>by cases z);exact hh.elim }
def QBI:Qa->Bool
 |.list _=>false
 |_=>true
def rtD:Bool->(Qa->Prop)->Qa->Prop
 |true,R,d=>QBI d=true/\R d
 |false,R,d=>R d
def Qvi(fr:Bool)(R:Qa->Prop)(EX:XP):QfB:=⟨λ_=>R .none,rtD fr R,R,λ_=>False,λ_=>False,EX⟩
theorem Qvh{K:PySem.W.Frag}{E Ex:XK}{fr:Bool}{A pt:Addr->Prop}{H:Hp}{R:Qa->Prop}{EX EX':XP}{Q:VK}{σ:L2.St}{δ:Sts}(k:∀d,R d->∀v H',Kq pt H H'->DA A H' v d->(fr=true->FrV H H' v)->Q v H')(o:Out ⟨H,A,pt⟩ E EX') :
  Ends1 K E ⟨H,A,pt⟩ σ H δ (Qvi fr R EX') { nx:=λ_ H'=>Q .non H',rt:=Q } where
 nx:=⟨λδ' hR σ' H' r st=>k _ hR _ H' r.ke .non λ_=>Qvf⟩
 rt:=λd h v H' ke dv=>by
  cases fr with
  |false=>exact k d h v H' ke dv λz=>by cases z
  |true=>
   obtain⟨h1,h2⟩:=h;refine k d h2 v H' ke dv λz l e1 ⟨xs,e2⟩=>?_
   subst e1;cases dv with
   |@tup a ys ds n e q=>rw[e] at e2;cases e2
   |@lst a ys ds n e q=>cases h1
   |@dct a kvs ds n e q=>rw[e] at e2;cases e2
 rtF:=λd h v H' ke dv fr'=>k d h v H' ke dv λ_=>fr'
 bk:=⟨λ_ h=>h.elim⟩
 ct:=⟨λ_ h=>h.elim⟩
 ex:=o
section
variable{P:Qz}{w:Ji}{K:PySem.W.Frag}{mg:Str->Option Value}{base:Heap}
theorem okD{x qual:Str}{st:Y4}{f:Addr}{fd:Jd}{N ps:List Str}{k:Nat}{fD:DF}(fr:Bool)(F:Fun K x qual st f fd)(S:JZ N ps (QC st))(len:∀args R EX,fD args R EX->args.length=ps.length)
  (hbody:∀(cdv:Value)(A:Jb)(outer:List Env)(s:Shared)(H:Hp)(E:XK),Room k (A.deeper (envOfC qual (QC st) s.heap.objs.size f cdv)) ->
   ∃wd,PSs (QoX CX0 P w K mg base N qual (QC st) f cdv A outer s H E).nox (JU st) (tS K E0 wd)/\∀args R EX,fD args R EX->wd (Qvi fr R XF) (stD N args)):FnOk P w K mg base CX0 (k+1) f fd ps (ZA fr fD):=by
 refine F.ok S (λvs H Q E h=>?_) λcdv A outer s H vs Q E hr h=>?_
 ·obtain⟨A,pt,args,R,EX,_,_,q,h,_⟩:=h;rw[q.length];exact len _ _ _ h
 ·obtain⟨wd,hp,hw⟩:=hbody cdv A outer s H E hr;obtain⟨A',pt,args,R,EX,dm,hpt,q,h,k,_⟩:=h;exact⟨_,hp,⟨H,A',pt⟩,_,_,Qmu dm hpt q,hw args R EX h,Qvh (Ex:=E) (EX:=EX) k QsB⟩
end
end Dl
namespace L2
def QAK(i j:Int):Prop:=0<j/\j<=10^40
theorem QgV{X:Cx}:OpR X (binaryOp .FloorDiv) (rI QAK λi j=>.int (i / j)):=opI λi j _ _ _ _ _ hc q=>by
 have h1:(0:Int)<j:=hc.1;have h2:j<=10^40:=hc.2;refine floordiv_int (by omega) (by rw[Int.fdiv_eq_ediv_of_nonneg i (by omega)];exact q) (.inl (PyProof.noPylong_of_log2 ?_));have h3:j.natAbs<2^200:=by
  have:(10:Int)^40<2^200:=by decide
  omega
 have:=(Nat.log2_lt (by omega:j.natAbs≠0)).mpr h3;omega
end L2
namespace Rk
open L2 _root_.Rd
def Qj6:Sp:=λvs H Q _=>∃p n f,vs=[.ref p,.int f]/\H p=some (.lst [.int n])/\0<f/\f<=10^40/\∀r m,0<=r->r<f->Q (.int r) (upd H p (.lst [.int m]))
end Rk
namespace Dl
open L2 _root_.Rd Rk
theorem Zw{X:Cx}{E:XK}:QfA CX0 X E:=λ_ _ _ _ _ _ _ h=>h.elim
theorem Room.u60{k:Nat}{A:Jb}(r:Room k A):A.units+60<cLine:=by have:=r.un;omega
theorem Room.i60{k:Nat}{A:Jb}(r:Room k A):A.in1.units+60<cLine:=by
 have:=r.un;show A.units+1+60<cLine;omega
section
variable{X:Cx}{E:XK}{CX:CXT}{k:Nat}{f:Addr}{fd:Jd}{ps:List Str}{x:Str}{p pos:Pos}{e:Q3}{es:List Q3}{fD:DF}
def Qph:DF:=λargs R _=>∃f,args=[.pot,.v (.int f)]/\0<f/\f<=10^40/\∀r,0<=r->r<f->R (.int r)
theorem Qwd{vs:List V}{H:Hp}{Q:VK}{Ex:XK}(h:ZA true Qph vs H Q Ex):Qj6 vs H Q Ex:=by
 obtain⟨A,pt,args,R,EX,dm,hp,q,⟨f,rfl,f0,f1,hR⟩,k,_⟩:=h;cases q with
 |cons q1 q2=>cases q2 with
  |cons q2 q3=>
   cases q3;obtain⟨p,rfl,pp⟩:=q1;cases q2;obtain⟨_,n,e⟩:=hp p pp;refine⟨p,n,f,rfl,e,f0,f1,λr m r0 r1=>k _ (hR r r0 r1) _ _ ⟨λb o nb eb=>?_,λz hz=>?_⟩ (.int _) λ_=>Qae⟩
   ·rw[Zk (λz=>nb (by rw[z];exact pp))];exact eb
   ·by_cases y:z=p
    ·rw[y];exact⟨m,J7⟩
    ·obtain⟨_,n',e'⟩:=hp z hz;exact⟨n',by rw[Zk y];exact e'⟩
def QzS:DF:=λargs R _=>∃c,args=[.v (.int c)]/\∀n,R (.list [.int n])
theorem QzR{vs:List V}{H:Hp}{Q:VK}{Ex:XK}(h:ZA true QzS vs H Q Ex):Qwn vs H Q Ex:=by
 obtain⟨A,pt,args,R,EX,dm,hp,q,⟨c,rfl,hR⟩,k,_⟩:=h;cases q with
 |cons q1 q2=>
  cases q2;cases q1;refine⟨c,rfl,λp n hn=>k _ (hR n) _ _ ⟨λb o _ eb=>JX hn b o eb,λz hz=>?_⟩ (.lst (λz=>?_) J7 (.cons (.int _) .nil)) λ_=>Qby hn⟩
  ·obtain⟨_,n',e'⟩:=hp z hz;exact⟨n',JX hn _ _ e'⟩
  ·obtain⟨xs,e⟩:=dm p z;rw[hn] at e;cases e
def isW:Qa->Bool
 |.int _=>true
 |_=>false
def Qmd:DF:=λargs R _=>∃d,args=[.v d]/\R (.bool (isW d))
theorem QmD{K:PySem.W.Frag}{F:Fm}{σ:L2.St}{H:Hp}{δ:Sts}(r:Rel K F σ H δ){a:Addr}{xs:List V}(h:SqL K F.H0 a xs)(n:¬F.pt a):SqL K H a xs:=by
 rcases h with h | h
 ·rcases h with h | ⟨o,h⟩
  ·exact .inl (.inl (r.kx _ _ n h))
  ·exact .inl (.inr ⟨o,r.kx _ _ n h⟩)
 ·exact .inr h
def Qvo(i:Nat):DE:=λδ Q _=>match δ[i]? with
 |some .scr=>∀n:Nat,n<=63->Q (.int n)
 |_=>False
theorem Quu{i:Nat}{a:Q3}(hg:Gl X "len")(hm:X.mg "len" = none)(h:PE X a (Qmp i))(hs:notStar a=true:=by rfl):PE X (.Call (.Name "len" p) [a] [] pos) (tX .F X.K E (Qvo i)):=by
 refine PE.imp (Qct Qcj hg hm QcO (Qej h YJ hs) (he:=by rw[Z4 hs])) λσ H Q ⟨F,δ,R,EX,rel,hw,k,o⟩=>?_
 unfold Qvo at hw;split at hw
 ·rename_i hd
  obtain⟨x,hx⟩:=rel.lt hd;obtain⟨l,ns,rfl,sq,np,n63⟩:=rel.sl i _ _ hx hd;refine⟨_,hx,l,_,rfl,.inl (QmD rel sq np),?_⟩;rw[Qh];exact k _ (hw _ n63) _ H rel (Kp.refl rel) ⟨.int _,Qae⟩
 ·exact hw.elim
def Qvp(i:Nat)(wb:DE):DE:=λδ Q EX=>match δ[i]? with
 |some .scr=>wb δ (λd=>match d with
  |.int k=>0<=k/\∀c,Q (.int c)
  |_=>False) EX
 |_=>False
theorem Qux{i:Nat}{a b:Q3}{wb:DE}(G:FnOk X.prog X.w X.K X.mg X.base CX0 k f fd ps (Qdk X.K))(hr:Room k X.A)(hg:Gl X x)(hm:X.mg x=some (.ref f))(hk:PySem.W.keepIn X.K (.ref f)=true)(hb:Binds X.K fd ps [])
  (ha:PE X a (Qmp i))(h:PE X b (tX .P X.K E wb))(h1:notStar a=true:=by rfl)(h2:notStar b=true:=by rfl)(hdb:(x == ("__debug__" : Str))=false:=by decide) :
  PE X (.Call (.Name x p) [a,b] [] pos) (tX .F X.K E (Qvp i wb)):=by
 refine PE.imp (Qjk (E:=E) G hr hg hm hk hb .nil Zw (Qej ha (Qej h YJ h2) h1) hdb (Z4 h1) (by rw[Z4 h2];rfl)) λσ H Q ⟨F,δ,R,EX,rel,hw,k,o⟩=>?_
 unfold Qvp at hw;split at hw
 ·rename_i hd
  obtain⟨x,hx⟩:=rel.lt hd;obtain⟨l,ns,rfl,sq,np,n63⟩:=rel.sl i _ _ hx hd;refine⟨_,hx,F,δ,_,EX,rel,hw,λd hd2 v H' rel' kp vk=>?_,o⟩;cases d<;>first | exact(show False from hd2).elim | skip
  rw[DP.int vk];exact⟨l,ns,_,rfl,QmD rel' sq np,QbX n63 (by decide),hd2.1,λc=>k _ (hd2.2 c) _ H' rel' kp ⟨.int _,Qae⟩⟩
 ·exact hw.elim
end
section
variable{P:Qz}{w:Ji}{K:PySem.W.Frag}{mg:Str->Option Value}{base:Heap}
def QfT(K:PySem.W.Frag):Sp:=λvs H Q _=>∃(a:Addr)(ns:List Int),vs=[.ref a]/\SqL K H a (ns.map V.int)/\ns.length<=63/\∀H',Q (.bl true) H'
def Qx7:QfB:=⟨λ_=>False,λd=>d=.bool true,λd=>d=.bool true,λ_=>False,λ_=>False,XF⟩
theorem Qz6{x qual:Str}{st:Y4}{f:Addr}{fd:Jd}{N:List Str}{p:Str}{k:Nat}(F:Fun K x qual st f fd)(S:JZ N [p] (QC st))
  (hbody:∀(cdv:Value)(A:Jb)(outer:List Env)(s:Shared)(H:Hp)(E:XK),Room k (A.deeper (envOfC qual (QC st) s.heap.objs.size f cdv)) ->
   ∃wd,PSs (QoX CX0 P w K mg base N qual (QC st) f cdv A outer s H E).nox (JU st) (tS K E0 wd)/\wd Qx7 (stD N [.scr])):FnOk P w K mg base CX0 (k+1) f fd [p] (QfT K):=by
 refine F.ok S (λvs H Q E h=>?_) λcdv A outer s H vs Q E hr h=>?_
 ·obtain⟨a,ns,rfl,_⟩:=h;rfl
 ·obtain⟨wd,hp,hw⟩:=hbody cdv A outer s H E hr;obtain⟨a,ns,rfl,sq,n63,k⟩:=h;have get0:∀(i:Nat) o y,(L2.start N [V.ref a])[i]? = some o->(stD N [.scr])[i]? = some y->y≠.no->o=some (.ref a)/\y=.scr:=λi o y h1 h2 hy=>by
   cases i with
   |zero=>cases h1;cases h2;exact⟨rfl,rfl⟩
   |succ i=>
    unfold stD at h2;rw[QX (by simp),Yu] at h2;split at h2
    ·exact absurd (Qm h2).symm hy
    ·cases h2
  have noav:∀b,¬Av (⟨H,λ_=>False,λ_=>False⟩:Fm) (L2.start N [V.ref a]) (stD N [.scr]) b:=λb z=>by
   rcases z with z | ⟨i,h1,h2⟩
   ·exact z
   ·rcases h2 with h2 | ⟨ds,h2⟩
    ·cases(get0 i _ _ h1 h2 (λz=>by cases z)).2
    ·cases(get0 i _ _ h1 h2 (λz=>by cases z)).2
  refine⟨_,hp,⟨H,λ_=>False,λ_=>False⟩,_,_,?_,hw,?_⟩
  ·exact{
    len:=by unfold L2.start stD;simp
    dom:=λ_ h=>h.elim
    dom0:=λ_ h=>h.elim
    pt0:=λ_ h=>h.elim
    kx:=λ_ _ _ e=>e
    sl:=λi o y h1 h2=>by
     cases y with
     |no=>trivial
     |scr=>
      obtain⟨rfl,_⟩:=get0 i _ _ h1 h2 (λz=>by cases z);exact⟨a,ns,rfl,sq,λz=>z,n63⟩
     |v d=>cases(get0 i _ _ h1 h2 (λz=>by cases z)).2
     |own d=>cases(get0 i _ _ h1 h2 (λz=>by cases z)).2
     |pk d=>cases(get0 i _ _ h1 h2 (λz=>by cases z)).2
     |pot=>cases(get0 i _ _ h1 h2 (λz=>by cases z)).2
    inj:=λi j b ds h1 h2 _=>by cases(get0 i _ _ h2 h1 (λz=>by cases z)).2 }
  ·exact{
    nx:=⟨λ_ h=>h.elim⟩
    rt:=λd h v H' ke dv=>by cases(show d=.bool true from h);cases dv;exact k H'
    rtF:=λd h v H' ke dv _=>by cases(show d=.bool true from h);cases dv;exact k H'
    bk:=⟨λ_ h=>h.elim⟩
    ct:=⟨λ_ h=>h.elim⟩
    ex:=QsB }
end
theorem QoJ{α:Type}{p:α->Prop}:∀x∈([]:List α),p x:=λ_ h=>nomatch h
theorem YL{α:Type}{p:α->Prop}{a:α}{l:List α}(h:p a)(t:∀x∈l,p x):∀x∈a::l,p x:=λx hx=>by
 rcases Qp.mp hx with z | z
 ·rw[z];exact h
 ·exact t x z
theorem Qyx{b c:Bool}{R:Qa->Prop}(h:R (.bool (b&&c))):if b=true then R (.bool c) else R (.bool false):=by
 cases b
 ·exact QA3 h
 ·exact QAe h
theorem Qhq{b c:Bool}{R:Qa->Prop}{Pk:Prop}(h:R (.bool (b&&c)))(k:b=true->R (.bool c)->Pk):if b=true then Pk else R (.bool false):=by
 cases b
 ·exact QA3 h
 ·exact QAe (k rfl h)
theorem ifF{c:Bool}{A B:Prop}(h:c=false)(k:B):if c=true then A else B:=by subst h;exact k
theorem ifT{c:Bool}{A B:Prop}(h:c=true)(k:A):if c=true then A else B:=by subst h;exact k
theorem ifC{c:Bool}{A B:Prop}(t:c=true->A)(f:c=false->B):if c=true then A else B:=by
 cases c
 ·exact f rfl
 ·exact t rfl
theorem all_map{α:Type}(l:List α)(g:α->Bool):(l.map g).all id=l.all g:=by
 rw[List.all_map];rfl
theorem Qhr{ds:List Qa}{Q:Qa->Prop}{g:Qa->Bool}{items:List Qa}(h:ds=[.list (items.map λd=>.bool (g d))])(q:Q (.bool (items.all g))):Qy1 ds Q:=by
 subst h;unfold Qy1;refine⟨items.map g,?_,by rw[all_map];exact q⟩;rw[show items.map (λd=>Qb8 (g d))=(items.map g).map Qb8 by rw[Jc];rfl,QoB]
theorem Qmr{ds:List Qa}{Q:Qa->Prop}(ns:List Int)(h:ds=[.list (ns.map QN)])(q:Q (.int ns.sum)):QyV ds Q:=by
 subst h;unfold QyV;exact⟨ns,ints_map ns,q⟩
end Dl
namespace L2
section
variable{X:Cx}
end
end L2
namespace Dl
open L2 _root_.Rd Rk
section
variable{X:Cx}{E:XK}
variable{e:Q3}{w:DE}{p p2 pos pos2:Pos}
end
theorem Qyw{ds:List Qa}{i:Int}(h0:0<=i)(h1:i<ds.length):∃d,d∈ds/\atI ds i=some d:=by
 obtain⟨j,rfl⟩:∃j:Nat,i=j:=⟨i.toNat,by omega⟩
 have hj:j<ds.length:=by omega
 exact⟨ds[j],YF hj,Zx (Qf hj)⟩
theorem QAa{ds:List Qa}{i:Int}{Q:Qa->Prop}(h0:0<=i)(h1:i<ds.length)(q:∀d∈ds,Q d):∃d,atI ds i=some d/\Q d:=by
 obtain⟨d,hd,e⟩:=Qyw h0 h1;exact⟨d,e,q d hd⟩
theorem QrP{xs:List Qa}{lo hi:Option Int}{d:Qa}(h:d∈cutD xs lo hi):d∈xs:=Qbg (Qbf h)
structure QE (m:Md) (X:Cx) (E:XK) (e:Q3) (w:DE):Prop where h:PE X e (tX m X.K E w)
structure QT (X:Cx) (E:XK) (e:Q3) (w:DT):Prop where h:PT X e (tT X.K E w)
structure QW (X:Cx) (E:XK) (e:Q3) (w:DT):Prop where h:PW X e (tT X.K E w)
structure QTs (X:Cx) (E:XK) (es:List Q3) (w:DT):Prop where h:PTs X es (tT X.K E w)
structure QA (n:Nat) (m:Md) (X:Cx) (E:XK) (es:List Q3) (w:DAr):Prop where h:PA X es (tAr n m X.K E w)
structure QAs (X:Cx) (E:XK) (es:List Q3) (w:DSl):Prop where h:PA X es (tAs X.K E w)
structure QO (X:Cx) (E:XK) (o:Option Q3) (w:DO):Prop where h:PO X o (tO X.K E w)
structure QG (ix:List Nat) (X:Cx) (tg:Q3) (w:DG):Prop where h:PG X tg (tG ix X.K w)
structure QI (m:Md) (X:Cx) (E:XK) (tg it:Q3) (w:DI):Prop where h:PI X tg it (tI m X.K E w)
structure QS (X:Cx) (E:XK) (st:Y4) (w:DS):Prop where h:PS X st (tS X.K E w)
structure QSs (X:Cx) (E:XK) (sts:List Y4) (w:DS):Prop where h:PSs X sts (tS X.K E w)
section
variable{X:Cx}{E:XK}
theorem Zv{e:Q3}{w:DE}(h:QE .F X E e w):QE .D X E e w:=⟨toD h.h⟩
theorem JG{e:Q3}{w:DE}(h:QE .D X E e w):QE .P X E e w:=⟨toP h.h⟩
theorem JC{e:Q3}{w:DE}(h:QE .F X E e w):QE .P X E e w:=⟨QBu h.h⟩
theorem qv(i:Nat){x:Str}{pos:Pos}(hN:X.N[i]? = some x:=by rfl)(hv:Vis X.env.scope x:=by first | exact Jf rfl | exact Je (Jf rfl) | exact Je (Je rfl))(hd:(x == ("__debug__" : Str))=false:=by decide)(hcd:(x == ("__classdict__" : Str))=false:=by decide):QE .D X E (.Name x pos) (QAw i):=⟨Qw5 (pv i hN hv hd hcd)⟩
theorem qp(i:Nat){x:Str}{pos:Pos}(hN:X.N[i]? = some x:=by rfl)(hv:Vis X.env.scope x:=by first | exact Jf rfl | exact Je (Jf rfl) | exact Je (Je rfl))(hd:(x == ("__debug__" : Str))=false:=by decide)(hcd:(x == ("__classdict__" : Str))=false:=by decide):QE .P X E (.Name x pos) (dPk i):=⟨QzW (pv i hN hv hd hcd)⟩
theorem Zc{i:Int}{j pos}:QE .D X E (.Constant (.int i) j pos) (dC (.int i)):=⟨Qxc⟩
theorem Qki{b:Bool}{j pos}:QE .D X E (.Constant (.bool b) j pos) (dC (.bool b)):=⟨QzZ⟩
theorem QtS{j pos}:QE .D X E (.Constant .none j pos) (dC .none):=⟨Qw9⟩
theorem QwM{x:Str}(i:Int){u:Value}{pos:Pos}(hg:Gl X x)(hm:X.mg x=some u)(r:RelV (.int i) u)(hd:(x == ("__debug__" : Str))=false:=by decide):QE .D X E (.Name x pos) (dC (.int i)):=⟨QyY (Qt9 hg hm r hd) λ_ _=>.int i⟩
theorem YA{a b:Q3}{wa wb:DE}{pos:Pos}{r:R2}{rD:Qa->Qa->(Qa->Prop)->Prop}{op:Qdd}(ho:OpR X (binaryOp op) r)(hd:OpD r rD)(ha:QE .P X E a wa)(hb:QE .P X E b wb):QE .F X E (.BinOp a op b pos) (dOp rD wa wb):=⟨Qxf ho hd ha.h hb.h⟩
theorem QhX{a b:Q3}{wa wb:DE}{pos:Pos}{r:R2}{rD:Qa->Qa->(Qa->Prop)->Prop}{op:Qtm}(ho:OpR X (compareOp op) r)(hd:OpD r rD)(ha:QE .P X E a wa)(hb:QE .P X E b wb)(hm:behindInMarks op b=false):QE .F X E (.Compare a [op] [b] pos) (dOp rD wa wb):=⟨Qxe ho hd ha.h hb.h hm⟩
theorem Qaw{a b:Q3}{wa wb:DE}{pos:Pos}{r:R2}{rD:Qa->Qa->(Qa->Prop)->Prop}{op:Qtm}(ho:OpR X (compareOp op) r)(hd:OpD r rD)(ha:QE .P X E a wa)(hb:QE .P X E b wb)(hm:behindInMarks op b=false):QT X E (.Compare a [op] [b] pos) (dTst (dOp rD wa wb)):=⟨Quh ho hd ha.h hb.h hm⟩
theorem Qdp{a b:Q3}{wa wb:DE}{pos:Pos}{r:R2}{rD:Qa->Qa->(Qa->Prop)->Prop}(ho:IxR X r)(hd:Qr4 r rD)(ha:QE .P X E a wa)(hb:QE .P X E b wb)(hs:QjM b):QE .D X E (.Subscript a b pos) (dOp rD wa wb):=⟨QzX ho hd ha.h hb.h hs⟩
theorem QwK{a:Q3}{wa:DE}{pos:Pos}(ha:QE .P X E a wa):QE .F X E (.UnaryOp .USub a pos) (dUn QA1 wa):=⟨Qxa ha.h⟩
theorem QBF{a b c:Q3}{wa wb wc:DE}{pos:Pos}{op op':Qtm}{p q:Int->Int->Bool}(ho:OpR X (compareOp op) (rI0 λi j=>.bl (p i j)))(ho':OpR X (compareOp op') (rI0 λi j=>.bl (q i j)))(ha:QE .P X E a wa)(hb:QE .P X E b wb)(hc:QE .P X E c wc)(hm:lastMarks [op,op'] [b,c]=false:=by with_unfolding_all rfl):QE .F X E (.Compare a [op,op'] [b,c] pos) (dCh p q wa wb wc):=⟨QzY ho ho' ha.h hb.h hc.h hm⟩
theorem QmV{e:Q3}{w:DE}(h:QE .P X E e w)(he:∀whole,isTrue e X.env whole=(do let v <- whole;standAt e.pos;holding [v] (truthy v)):=by intro _;rfl):QT X E e (dTru w):=⟨Quf h.h he⟩
theorem Qdn{e:Q3}{w:DE}(h:QE .P X E e w)(he:∀whole,isTrue e X.env whole=(do let v <- whole;standAt e.pos;holding [v] (truthy v)):=by intro _;rfl):QT X E e (dTst w):=⟨Que h.h he⟩
theorem QmU{a:Q3}{pos:Pos}{ta:DT}(ha:QT X E a ta):QW X E (.BoolOp .And [a] pos) ta:=⟨QpU ha.h⟩
theorem Qsv{a b:Q3}{rest:List Q3}{pos:Pos}{ta tb:DT}(ha:QT X E a ta)(hb:QW X E (.BoolOp .And (b::rest) pos) tb):QW X E (.BoolOp .And (a::b::rest) pos) (QBm ta tb):=⟨Qud ha.h hb.h⟩
theorem Qlu{a b:Q3}{rest:List Q3}{pos:Pos}{wa wb:DE}(ha:QE .P X E a wa)(hb:QE .D X E (.BoolOp .And (b::rest) pos) wb):QE .D X E (.BoolOp .And (a::b::rest) pos) (Qyn wa wb):=⟨Qxg ha.h hb.h⟩
theorem Qkc{a:Q3}{pos:Pos}{ta:DT}(ha:QT X E a ta):QW X E (.BoolOp .Or [a] pos) ta:=⟨Quc ha.h⟩
theorem QmT{a b:Q3}{rest:List Q3}{pos:Pos}{ta tb:DT}(ha:QT X E a ta)(hb:QW X E (.BoolOp .Or (b::rest) pos) tb):QW X E (.BoolOp .Or (a::b::rest) pos) (dOr ta tb):=⟨Qw3 ha.h hb.h⟩
theorem QvP{e:Q3}{t:DT}(h:QW X E e t):QT X E e t:=⟨PW.pt h.h⟩
theorem QcK{a:Q3}{pos:Pos}{ta:DT}(ha:QT X E a ta):QT X E (.UnaryOp .Not a pos) (QBd ta):=⟨Qug ha.h⟩
theorem Qlt{op}{a:Q3}{pos:Pos}{w:DE}(h:QE .D X E a w):QE .D X E (.BoolOp op [a] pos) w:=⟨Qw7 h.h⟩
theorem QzO{a:Q3}{pos:Pos}{wa:DE}(ha:QE .P X E a wa):QE .D X E (.UnaryOp .Not a pos) (Qyk wa):=⟨Qw8 ha.h⟩
theorem QzP{c a b:Q3}{pos:Pos}{ta:DT}{wa wb:DE}(hc:QT X E c ta)(ha:QE .D X E a wa)(hb:QE .D X E b wb):QE .D X E (.IfExp c a b pos) (QBi ta wa wb):=⟨Qxd hc.h ha.h hb.h⟩
theorem J9{m:Md}:QA 0 m X E [] QBe:=⟨Qut⟩
theorem Qb6{n:Nat}{e:Q3}{es:List Q3}{we:DE}{wr:DAr}(he:QE .D X E e we)(hr:QA n .D X E es wr)(hs:notStar e=true:=by rfl):QA (n+1) .D X E (e::es) (Qoj we wr):=⟨Qna he.h hr.h hs⟩
theorem QeJ{n:Nat}{e:Q3}{es:List Q3}{we:DE}{wr:DAr}(he:QE .P X E e we)(hr:QA n .P X E es wr)(hs:notStar e=true:=by rfl):QA (n+1) .P X E (e::es) (Qoj we wr):=⟨Qm9 he.h hr.h hs⟩
theorem Qd0{n:Nat}{es:List Q3}{w:DAr}{x1}{pos:Pos}(h:QA n .D X E es w)(hn:n<=1000:=by decide):QE .F X E (.Tuple es x1 pos) (QBa w):=⟨Qw6 h.h hn⟩
theorem QfL{n:Nat}{es:List Q3}{w:DAr}{pos:Pos}(h:QA n .D X E es w)(hn:n<=1000:=by decide):QE .F X E (.List es pos) (QBf w):=⟨Qxb h.h hn⟩
theorem YI{x:Str}{bid:String}{p pos:Pos}{e:Q3}{es:List Q3}{n:Nat}{wr:DAr}{r:List V->Hp->VK->Prop}{rD:List Qa->(Qa->Prop)->Prop}(hc:CallR X (.builtin bid) r)(hd:Qc3 r rD)(hg:Gl X x)(hm:X.mg x=none)(hv:bootBuiltins x=some (.builtin bid))(ha:QA n .P X E (e::es) wr)(hn:x ≠ "__name__" := by decide)(hdb:(x == ("__debug__" : Str))=false:=by decide)(he:starEach (e::es) X.env=(false,eval e X.env)::starEach es X.env:=by rfl)(hpl:(backTo pos (starEach es X.env)).any (·.1)=false:=by rfl):QE .F X E (.Call (.Name x p) (e::es) [] pos) (dCB rD wr):=⟨Qrd hc hd hg hm hv ha.h hn hdb he hpl⟩
theorem QeK{x:Str}{T:String}{p pos:Pos}{e:Q3}{es:List Q3}{n:Nat}{wr:DAr}{r:List V->Hp->VK->Prop}{rD:List Qa->(Qa->Prop)->Prop}(hc:CallR X (.type T) r)(hd:Qc3 r rD)(hg:Gl X x)(hm:X.mg x=none)(hv:bootBuiltins x=some (.type T))(ha:QA n .P X E (e::es) wr)(hn:x ≠ "__name__" := by decide)(hdb:(x == ("__debug__" : Str))=false:=by decide)(he:starEach (e::es) X.env=(false,eval e X.env)::starEach es X.env:=by rfl)(hpl:(backTo pos (starEach es X.env)).any (·.1)=false:=by rfl):QE .F X E (.Call (.Name x p) (e::es) [] pos) (dCB rD wr):=⟨Qnc hc hd hg hm hv ha.h hn hdb he hpl⟩
theorem Qkh{e:Q3}{we:DE}{p pos pos2:Pos}{x:Str}(tn:Tn)(hg:Gl X "isinstance")(hm:X.mg "isinstance" = none)(he:QE .P X E e we)(hg2:Gl X x)(hm2:X.mg x=none)(hv:bootBuiltins x=some (.type tn.s))(hn:x ≠ "__name__" := by decide)(hd:(x == ("__debug__" : Str))=false:=by decide)(h1:notStar e=true:=by rfl):QE .F X E (.Call (.Name "isinstance" p) [e,.Name x pos2] [] pos) (Qyl tn we):=⟨Quv tn hg hm he.h (Qz0 tn hg2 hm2 hv hn hd) h1 rfl⟩
theorem Qe7  : QO X E none dNo:=⟨Qp5⟩
theorem Qe6{e:Q3}{we:DE}(he:QE .P X E e we):QO X E (some e) (dSo we):=⟨Qp4 he.h⟩
theorem Qe8{e:Q3}{lo hi:Option Q3}{we:DE}{wl wh:DO}{p2 pos:Pos}(he:QE .P X E e we)(hl:QO X E lo wl)(hh:QO X E hi wh):QE .F X E (.Subscript e (.Slice lo hi none p2) pos) (dSl we wl wh):=⟨Qrb he.h hl.h hh.h⟩
theorem JQ  : QAs X E [] QAP:=⟨Qul⟩
theorem ZI{e:Q3}{es:List Q3}{we:DE}{wr:DSl}(he:QE .D X E e we)(hr:QAs X E es wr)(hs:notStar e=true:=by rfl):QAs X E (e::es) (sV we wr):=⟨QzV he.h hr.h hs⟩
theorem Qe5(i:Nat){x:Str}{pos:Pos}{es:List Q3}{wr:DSl}(hr:QAs X E es wr)(hN:X.N[i]? = some x:=by rfl)(hv:Vis X.env.scope x:=by first | exact Jf rfl | exact Je (Jf rfl) | exact Je (Je rfl))(hd:(x == ("__debug__" : Str))=false:=by decide)(hcd:(x == ("__classdict__" : Str))=false:=by decide):QAs X E (.Name x pos::es) (QzH i wr):=⟨Quj (pv i hN hv hd hcd) hr.h rfl⟩
theorem Zm{CX:CXT}{k:Nat}{f:Addr}{fd:Jd}{ps:List Str}{x:Str}{p pos:Pos}{e:Q3}{es:List Q3}{fD:DF}{wa:DSl}(G:FnOk X.prog X.w X.K X.mg X.base CX k f fd ps (ZA false fD))(hr:Room k X.A)(hg:Gl X x)(hm:X.mg x=some (.ref f))(hk:PySem.W.keepIn X.K (.ref f)=true)(hb:Binds X.K fd ps [])(hx:QfA CX X E)(ha:QAs X E (e::es) wa)(hdb:(x == ("__debug__" : Str))=false:=by decide)(he:starEach (e::es) X.env=(false,eval e X.env)::starEach es X.env:=by rfl)(hpl:(backTo pos (starEach es X.env)).any (·.1)=false:=by rfl):QE .D X E (.Call (.Name x p) (e::es) [] pos) (Qok fD wa):=⟨Quy G hr hg hm hk hb hx ha.h hdb he hpl⟩
theorem Y0{CX:CXT}{k:Nat}{f:Addr}{fd:Jd}{ps:List Str}{x:Str}{p pos:Pos}{e:Q3}{es:List Q3}{fD:DF}{wa:DSl}(G:FnOk X.prog X.w X.K X.mg X.base CX k f fd ps (ZA true fD))(hr:Room k X.A)(hg:Gl X x)(hm:X.mg x=some (.ref f))(hk:PySem.W.keepIn X.K (.ref f)=true)(hb:Binds X.K fd ps [])(hx:QfA CX X E)(ha:QAs X E (e::es) wa)(hdb:(x == ("__debug__" : Str))=false:=by decide)(he:starEach (e::es) X.env=(false,eval e X.env)::starEach es X.env:=by rfl)(hpl:(backTo pos (starEach es X.env)).any (·.1)=false:=by rfl):QE .F X E (.Call (.Name x p) (e::es) [] pos) (Qok fD wa):=⟨Qrc G hr hg hm hk hb hx ha.h hdb he hpl⟩
theorem QwN{k:Nat}{f:Addr}{fd:Jd}{ps:List Str}{x y:Str}{p pos pos2:Pos}{b:Q3}{wb:DE}(i:Nat)(G:FnOk X.prog X.w X.K X.mg X.base CX0 k f fd ps (Qdk X.K))(hr:Room k X.A)(hg:Gl X x)(hm:X.mg x=some (.ref f))(hk:PySem.W.keepIn X.K (.ref f)=true)(hb:Binds X.K fd ps [])(h:QE .P X E b wb)(hN:X.N[i]? = some y:=by rfl)(hv:Vis X.env.scope y:=by first | exact Jf rfl | exact Je (Jf rfl) | exact Je (Je rfl))(hd:(y == ("__debug__" : Str))=false:=by decide)(hcd:(y == ("__classdict__" : Str))=false:=by decide)(h2:notStar b=true:=by rfl)(hdb:(x == ("__debug__" : Str))=false:=by decide):QE .F X E (.Call (.Name x p) [.Name y pos2,b] [] pos) (Qvp i wb):=⟨Qux G hr hg hm hk hb (pv i hN hv hd hcd) h.h rfl h2 hdb⟩
theorem QwL{y:Str}{p pos pos2:Pos}(i:Nat)(hg:Gl X "len")(hm:X.mg "len" = none)(hN:X.N[i]? = some y:=by rfl)(hv:Vis X.env.scope y:=by first | exact Jf rfl | exact Je (Jf rfl) | exact Je (Je rfl))(hd:(y == ("__debug__" : Str))=false:=by decide)(hcd:(y == ("__classdict__" : Str))=false:=by decide):QE .F X E (.Call (.Name "len" p) [.Name y pos2] [] pos) (Qvo i):=⟨Quu hg hm (pv i hN hv hd hcd) rfl⟩
theorem Yh(i:Nat){x:Str}{pos:Pos}(hN:X.N.Nodup)(hi:X.N[i]? = some x)(hx:Loc X.env.scope x)(hf:X.fn x=true∨X.env.scope.names.lookup x=some .local:=by first | exact .inl rfl | exact .inr rfl | assumption):QG [i] X (.Name x pos) (gN i):=⟨Qra (Qjj hN hi hx hf)⟩
structure QGs (X:Cx) (es:List Q3) (is:List Nat):Prop where h:PGs X es (gNs is)
theorem Qbp  : QGs X [] []:=⟨Qt6⟩
theorem Zf(i:Nat){is:List Nat}{x:Str}{pos:Pos}{es:List Q3}(h:QGs X es is)(hN:X.N.Nodup)(hi:X.N[i]? = some x)(hx:Loc X.env.scope x)(hf:X.fn x=true∨X.env.scope.names.lookup x=some .local:=by first | exact .inl rfl | exact .inr rfl | assumption)(hs:(assignEach (.Name x pos::es) X.env).map (·.2)=assign (.Name x pos) X.env::(assignEach es X.env).map (·.2):=by rfl):QGs X (.Name x pos::es) (i::is):=⟨QpN (Qjj hN hi hx hf) h.h hs⟩
theorem Qbo{es:List Q3}{k:Nat}{pos:Pos}{is:List Nat}(hc:X.calm=true)(h:QGs X es is)(hn:(assignEach es X.env).length=is.length:=by rfl)(hst:(assignEach es X.env).findIdx? (·.1)=none:=by rfl):QG is X (.Tuple es k pos) (gTN is):=⟨Qus (QwV hc h.h hn hst) rfl⟩
theorem QcT{m:Md}{tg e:Q3}{w:DE}(h:QE m X E e w):QI m X E tg e (QBh w):=⟨Qp9 h.h⟩
theorem QcL{m:Md}{tg e:Q3}{w:DE}(h:QE m X E e w):QI m X E tg e (QBg w):=⟨Qur h.h⟩
theorem QdZ{m:Md}{tg e:Q3}{w:DE}{p pos:Pos}(hg:Gl X "range")(hm:X.mg "range" = none)(h:QE .P X E e w)(hs:notStar e=true:=by rfl):QI m X E tg (.Call (.Name "range" p) [e] [] pos) (Qyi w):=⟨Qp8 hg hm h.h hs⟩
theorem Qkf{m:Md}{e:Q3}{w:DE}{p pos tpos:Pos}{elts:List Q3}{x1}(hg:Gl X "enumerate")(hm:X.mg "enumerate" = none)(h:QE m X E e w)(hs:notStar e=true:=by rfl):QI m X E (.Tuple elts x1 tpos) (.Call (.Name "enumerate" p) [e] [] pos) (QBk w):=⟨Qm8 hg hm h.h hs⟩
theorem QtR{m:Md}{e e':Q3}{w w':DE}{p pos tpos:Pos}{elts:List Q3}{x1}(hg:Gl X "zip")(hm:X.mg "zip" = none)(h:QE m X E e w)(h':QE m X E e' w')(hs:notStar e=true:=by rfl)(hs':notStar e'=true:=by rfl):QI m X E (.Tuple elts x1 tpos) (.Call (.Name "zip" p) [e,e'] [] pos) (QA9 w w'):=⟨Qp7 hg hm h.h h'.h hs hs'⟩
theorem QpH{m:Md}{e:Q3}{w:DE}{p pos tpos:Pos}{elts:List Q3}{x1}(hg:Gl X "enumerate")(hm:X.mg "enumerate" = none)(h:QE m X E e w)(hs:notStar e=true:=by rfl):QI m X E (.Tuple elts x1 tpos) (.Call (.Name "enumerate" p) [e] [] pos) (QBj w):=⟨Qm7 hg hm h.h hs⟩
theorem QtQ{m:Md}{e e':Q3}{w w':DE}{p pos tpos:Pos}{elts:List Q3}{x1}(hg:Gl X "zip")(hm:X.mg "zip" = none)(h:QE m X E e w)(h':QE m X E e' w')(hs:notStar e=true:=by rfl)(hs':notStar e'=true:=by rfl):QI m X E (.Tuple elts x1 tpos) (.Call (.Name "zip" p) [e,e'] [] pos) (QA8 w w'):=⟨Qp6 hg hm h.h h'.h hs hs'⟩
theorem Qav  : QTs X E [] QvQ:=⟨QpW⟩
theorem Qjd{c:Q3}{t:DT}(h:QT X E c t):QTs X E [c] t:=⟨QpV h.h⟩
theorem Qb0(M:List Str)(cap:List (Option Nat)){elt tg iter:Q3}{ifs:List Q3}{scope:QaR}{pos:Pos}{ix:List Nat}{wi:DI}{wg:DG}{wt:DT}{we:DE}(hi:QI .P X E tg iter wi)(hb:∀cl ex s3 H3 C,QG ix (blk X M scope cl ex s3 H3 C) tg wg/\QTs (blk X M scope cl ex s3 H3 C) E0 ifs wt/\QE .D (blk X M scope cl ex s3 H3 C) E0 elt we)(hc:X.calm=true:=by rfl)(ok:Qhh X.N X.env.scope M scope cap=true:=by rfl)(hf:QcZ cap ix=true:=by rfl)(hs:∀x,foldedSetIterable iter X.env x=pure x:=by intro _;rfl):QE .F X E (.ListComp elt [⟨tg,iter,ifs,0⟩] scope pos) (dComp cap wi wg wt we):=⟨Quw hc ok hf hi.h (λcl ex s3 H3 C=>⟨(hb cl ex s3 H3 C).1.h,(hb cl ex s3 H3 C).2.1.h,(hb cl ex s3 H3 C).2.2.h⟩) hs⟩
theorem Yg  : QSs X E [] Qyg:=⟨QpX⟩
theorem Jo{st:Y4}{w:DS}(h:QS X E st w):QSs X E [st] w:=⟨Quk h.h⟩
theorem QP{st:Y4}{rest:List Y4}{w w':DS}(h:QS X E st w)(h':QSs X E rest w'):QSs X E (st::rest) (QBb w w'):=⟨Qp2 h.h h'.h⟩
theorem Qdo{sts:List Y4}:QSs X E sts (λ_ _=>False):=⟨Qm6⟩
theorem ZU(i:Nat){x:Str}{e:Q3}{pos pos':Pos}{we:DE}(he:QE .D X E e we)(hN:X.N.Nodup)(hi:X.N[i]? = some x:=by rfl)(hx:Loc X.env.scope x:=by first | exact Jf rfl | exact Je rfl)(hs:swapsWith e (some (.Name x pos')) pos.line X.env=pure false:=by rfl)(hf:X.fn x=true∨X.env.scope.names.lookup x=some .local:=by first | exact .inl rfl | exact .inr rfl | assumption):QS X E (.Assign [.Name x pos'] e pos) (QAx i we):=⟨Qm5 (Qeg hN hi hx he.h hs hf)⟩
theorem QgS(i:Nat){x:Str}{e:Q3}{pos pos':Pos}{we:DE}(he:QE .F X E e we)(hN:X.N.Nodup)(hi:X.N[i]? = some x:=by rfl)(hx:Loc X.env.scope x:=by first | exact Jf rfl | exact Je rfl)(hs:swapsWith e (some (.Name x pos')) pos.line X.env=pure false:=by rfl)(hf:X.fn x=true∨X.env.scope.names.lookup x=some .local:=by first | exact .inl rfl | exact .inr rfl | assumption):QS X E (.Assign [.Name x pos'] e pos) (Qvm i we):=⟨Qko (Qeg hN hi hx he.h hs hf)⟩
theorem QtO(i:Nat){x:Str}{e:Q3}{pos pos':Pos}{we:DE}(he:QE .F X E e we)(hN:X.N.Nodup)(hi:X.N[i]? = some x:=by rfl)(hx:Loc X.env.scope x:=by first | exact Jf rfl | exact Je rfl)(hs:swapsWith e (some (.Name x pos')) pos.line X.env=pure false:=by rfl)(hf:X.fn x=true∨X.env.scope.names.lookup x=some .local:=by first | exact .inl rfl | exact .inr rfl | assumption):QS X E (.Assign [.Name x pos'] e pos) (Qyh i we):=⟨QpY (Qeg hN hi hx he.h hs hf)⟩
theorem Qke{tg e:Q3}{pos:Pos}{ix:List Nat}{we:DE}{wg:DG}(he:QE .D X E e we)(hg:QG ix X tg wg)(hs:swapsWithSole [tg] e pos.line X.env=pure false:=by rfl)(hw:swappedStores [tg] e X.env=pure none:=by rfl)(h1:(assignEach [tg] X.env).map (·.2)=[assign tg X.env]:=by rfl):QS X E (.Assign [tg] e pos) (QBl we wg):=⟨Qup (Qsx he.h hg.h hs hw h1)⟩
theorem Yx{e:Q3}{pos:Pos}{we:DE}(h:QE .D X E e we):QS X E (.Return (some e) pos) (QBc we):=⟨Qui h.h⟩
theorem QbR{e:Q3}{pos:Pos}{we:DE}(h:QE .F X E e we):QS X E (.Return (some e) pos) (Qyj we):=⟨Qp0 h.h⟩
theorem Qje(i:Nat){x:Str}{pos pos2:Pos}(hN:X.N[i]? = some x:=by rfl)(hv:Vis X.env.scope x:=by first | exact Jf rfl | exact Je (Jf rfl) | exact Je (Je rfl))(hd:(x == ("__debug__" : Str))=false:=by decide)(hcd:(x == ("__classdict__" : Str))=false:=by decide):QS X E (.Return (some (.Name x pos)) pos2) (Qvn i):=⟨QpZ (pv i hN hv hd hcd)⟩
theorem QbS{c:Q3}{a b:List Y4}{pos:Pos}{t:DT}{w w':DS}(hc:QT X E c t)(ha:QSs X E a w)(hb:QSs X E b w'):QS X E (.If c a b pos) (dIf t w w'):=⟨Qw4 hc.h ha.h hb.h⟩
theorem QmY(i:Nat){x:Str}{e:Q3}{we:DE}{op:Qdd}{ti:TIp}{rD:Qa->Qa->(Qa->Prop)->Prop}{pos pos':Pos}(ho:PIp X op ti)(hd:Qr4 ti rD)(he:QE .P X E e we)(hN:X.N.Nodup)(hi:X.N[i]? = some x:=by rfl)(hx:Loc X.env.scope x:=by first | exact Jf rfl | exact Je rfl)(hf:X.fn x=true∨X.env.scope.names.lookup x=some .local:=by first | exact .inl rfl | exact .inr rfl | assumption):QS X E (.AugAssign (.Name x pos') op e pos) (QAA i rD we):=⟨Quo hd (QwS hN hi hx he.h (PIp.len ho) hf)⟩
theorem QwJ{y:Str}{e:Q3}{we:DE}{apos cpos pos npos:Pos}(i:Nat)(he:QE .D X E e we)(hN:X.N[i]? = some y:=by rfl)(hv:Vis X.env.scope y:=by first | exact Jf rfl | exact Je (Jf rfl) | exact Je (Je rfl))(hd:(y == ("__debug__" : Str))=false:=by decide)(hcd:(y == ("__classdict__" : Str))=false:=by decide)(hst:notStar e=true:=by rfl)(hbase:attributeBase (.Name y npos) "append" X.env (eval (.Name y npos) X.env)=eval (.Name y npos) X.env:=by rfl)(hfew:((backTo cpos (starEach [e] X.env)).all (λx => !x.1)&&(backToKw cpos (keywordEach [] X.env)).all (λx=>x.1.isSome)&&decide ([e].length+([]:List Qla).length+(if([]:List Qla).isEmpty then 0 else 1)<30))=true:=by rfl)(hline:(apos.endLine == cpos.line)=true:=by rfl)(hsw:swapsWith (.Call (.Attribute (.Name y npos) "append" apos) [e] [] cpos) none pos.line X.env=pure false:=by rfl):QS X E (.Expr (.Call (.Attribute (.Name y npos) "append" apos) [e] [] cpos) pos) (QAB i we):=⟨Quq (Qji (Qw1 PySem.F.plainAttrs_list PySem.F.slot_list_append PySem.F.type_list_append Qia (pv i hN hv hd hcd) (Qej he.h YJ hst) hbase hfew hline (Z4 hst) rfl) hsw)⟩
theorem QtP{y:Str}{e k:Q3}{we wk:DE}{op:Qdd}{ti:TIp}{rD:Qa->Qa->(Qa->Prop)->Prop}{pos tpos npos:Pos}(i:Nat)(ho:PIp X op ti)(hd:Qr4 ti rD)(hk:QE .P X E k wk)(he:QE .P X E e we)(hN:X.N[i]? = some y:=by rfl)(hv:Vis X.env.scope y:=by first | exact Jf rfl | exact Je (Jf rfl) | exact Je (Je rfl))(hdd:(y == ("__debug__" : Str))=false:=by decide)(hcd:(y == ("__classdict__" : Str))=false:=by decide)(ha:∀ov iv new,augStore k ov iv new=(do holding [new,ov,iv] (setItem ov iv new);release [new,ov,iv] [];pure .next):=by intros;rfl):QS X E (.AugAssign (.Subscript (.Name y npos) k tpos) op e pos) (Qvq i rD wk we):=⟨Qp3 hd (QtY (pv i hN hv hdd hcd) hk.h QrJ he.h (PIp.len ho) Qj7 ha)⟩
theorem QbZ{tg iter:Q3}{body:List Y4}{pos:Pos}{ix:List Nat}{wi:DI}{wg:DG}{wb:DS}(hp:Qgw (model X.prog X.w) X.A X.env X.xe)(hc:X.calm=true)(hi:QI .D X E tg iter wi)(hg:QG ix X tg wg)(hb:QSs X E body wb)(hs:∀x,foldedSetIterable iter X.env x=pure x:=by intro _;rfl):QS X E (.For tg iter body [] pos) (dFor wi wg wb):=⟨Qun hp hc hi.h hg.h hb.h hs⟩
theorem QmW{e:Q3}{we:DE}{pos:Pos}(he:QE .P X E e we)(hs:swapsWith e none pos.line X.env=pure false:=by rfl):QS X E (.Expr e pos) (Qym we):=⟨Qp1 (Qji he.h hs)⟩
end
section
variable{P:Qz}{w:Ji}{K:PySem.W.Frag}{mg:Str->Option Value}{base:Heap}
theorem okQ{x qual:Str}{st:Y4}{f:Addr}{fd:Jd}{N ps:List Str}{k:Nat}{fD:DF}(fr:Bool)(F:Fun K x qual st f fd)(S:JZ N ps (QC st))(len:∀args R EX,fD args R EX->args.length=ps.length)
  (hbody:∀(cdv:Value)(A:Jb)(outer:List Env)(s:Shared)(H:Hp)(E:XK),Room k (A.deeper (envOfC qual (QC st) s.heap.objs.size f cdv)) ->
   ∃wd,QSs (QoX CX0 P w K mg base N qual (QC st) f cdv A outer s H E).nox E0 (JU st) wd/\∀args R EX,fD args R EX->wd (Qvi fr R XF) (stD N args)):FnOk P w K mg base CX0 (k+1) f fd ps (ZA fr fD):=
 okD fr F S len λcdv A outer s H E hr=>let ⟨wd,h,q⟩:=hbody cdv A outer s H E hr;⟨wd,h.h,q⟩
theorem QBG{x qual:Str}{st:Y4}{f:Addr}{fd:Jd}{N:List Str}{p:Str}{k:Nat}(F:Fun K x qual st f fd)(S:JZ N [p] (QC st))
  (hbody:∀(cdv:Value)(A:Jb)(outer:List Env)(s:Shared)(H:Hp)(E:XK),Room k (A.deeper (envOfC qual (QC st) s.heap.objs.size f cdv)) ->
   ∃wd,QSs (QoX CX0 P w K mg base N qual (QC st) f cdv A outer s H E).nox E0 (JU st) wd/\wd Qx7 (stD N [.scr])):FnOk P w K mg base CX0 (k+1) f fd [p] (QfT K):=
 Qz6 F S λcdv A outer s H E hr=>let ⟨wd,h,q⟩:=hbody cdv A outer s H E hr;⟨wd,h.h,q⟩
end
structure GOk (wg:DG):Prop where h:∀d δ Q,wg d δ Q->wg d δ λδ'=>(∀(j:Nat) x,δ'[j]? = some x->(∃e,x=.v e)∨δ[j]? = some x)/\Q δ'
theorem QrG(i:Nat):GOk (gN i):=⟨λd δ Q h=>⟨λj x e=>by
 by_cases z:j=i
 ·subst z;exact .inl ⟨d,set_eq e⟩
 ·rw[QaU z] at e;exact .inr e,h⟩⟩
theorem QnX{cap:List (Option Nat)}{ix:List Nat}(hf:QcZ cap ix=true){i:Nat}(hi:i∈ix):cap[i]? = some none:=by
 have:=Qat.mp hf i hi;split at this
 ·assumption
 ·cases this
theorem QeO{cap:List (Option Nat)}{ix:List Nat}(hf:QcZ cap ix=true){δ:Sts}{i:Nat}{x:Sl}(h:(QeQ cap δ)[i]? = some x)(hx:x≠.no):i∉ix:=λz=>by
 rcases Qhi h with⟨_,e⟩ | ⟨j,hj,_⟩
 ·exact hx e
 ·rw[QnX hf z] at hj;cases hj
section
variable{K:PySem.W.Frag}{σ σ4:L2.St}{δ δ4:Sts}{cap:List (Option Nat)}{ix:List Nat}{A1:Addr->Prop}{H3 H5 H6:Hp}
theorem QsQ(hP:∀a,YB σ δ a->A1 a)(hf:QcZ cap ix=true)(j4:∀j,j∉ix->σ4[j]? = (Qd9 cap σ)[j]?)(gk:∀(j:Nat) x,δ4[j]? = some x->(∃e,x=.v e)∨(QeQ cap δ)[j]? = some x){a:Addr}(h:Av (inF A1 cap σ δ H3) σ4 δ4 a):A1 a:=by
 rcases h with z | ⟨i,h1,h2⟩
 ·exact z
 ·refine(QkG (cap:=cap) (H:=H3) hP).mp ?_
  rcases h2 with h2 | ⟨ds,h2⟩
  ·rcases gk i _ h2 with⟨e,z⟩ | z
   ·cases z
   ·exact .inr ⟨i,by rw[<- j4 i (QeO hf z (λz=>by cases z))];exact h1,.inl z⟩
  ·rcases gk i _ h2 with⟨e,z⟩ | z
   ·cases z
   ·exact .inr ⟨i,by rw[<- j4 i (QeO hf z (λz=>by cases z))];exact h1,.inr ⟨ds,z⟩⟩
theorem Qvc(hP:∀a,YB σ δ a->A1 a)(hf:QcZ cap ix=true)(j4:∀j,j∉ix->σ4[j]? = (Qd9 cap σ)[j]?)(gk:∀(j:Nat) x,δ4[j]? = some x->(∃e,x=.v e)∨(QeQ cap δ)[j]? = some x)
  (ri:Rel K (inF A1 cap σ δ H6) (Qd9 cap σ) H6 (QeQ cap δ))(r5:Rel K (inF A1 cap σ δ H3) σ4 H5 δ4)(kk:∀a o,¬A1 a->H5 a=some o->H6 a=some o):Rel K (inF A1 cap σ δ H6) σ4 H6 δ4 where
 len:=r5.len
 dom:=ri.dom
 dom0:=ri.dom0
 pt0:=ri.pt0
 kx:=ri.kx
 sl:=λi o x h1 h2=>by
  have iv:∀{a:Addr},Av (inF A1 cap σ δ H6) σ4 δ4 a->A1 a:=λ{a} z=>QsQ hP hf j4 gk z
  rcases gk i x h2 with⟨d,rfl⟩ | hx
  ·obtain⟨v,e,q⟩:=r5.sl i o _ h1 h2;exact⟨v,e,q.mv (λa o n e=>kk a o (λz=>n (.inl z)) e) λa z=>.inl (.inl (iv z))⟩
  ·by_cases hn:x=.no
   ·subst hn;trivial
   ·have h1':(Qd9 cap σ)[i]? = some o:=by rw[<- j4 i (QeO hf hx hn)];exact h1
    have h:=ri.sl i o x h1' hx;cases x with
    |no=>trivial
    |v d=>obtain⟨v',e,q'⟩:=h;exact⟨v',e,q'.mv (λ_ _ _ e=>e) λa z=>.inl (.inl (iv z))⟩
    |own ds=>obtain⟨l,xs,e,e2,q',f⟩:=h;exact⟨l,xs,e,e2,q'.mv (λ_ _ _ e=>e) λa z=>.inl (.inl (iv z)),f⟩
    |pk ds=>obtain⟨l,xs,e,e2,q',f⟩:=h;exact⟨l,xs,e,e2,q'.mv (λ_ _ _ e=>e) λa z=>.inl (.inl (iv z)),f⟩
    |pot=>exact h
    |scr=>exact h
 inj:=λi j a ds h1 h2 _=>by
  rcases gk i _ h1 with⟨e,z⟩ | z
  ·cases z
  ·rcases Qhi z with⟨_,e⟩ | ⟨j,hj,e⟩
   ·cases e
   ·exfalso
    cases e2:δ[j]? with
    |none=>rw[e2] at e;cases e
    |some y=>rw[e2] at e;cases y<;>cases e
end
theorem Qpf{K:PySem.W.Frag}{F:Fm}{σ:L2.St}{δ:Sts}{H1 H3:Hp}{cap:List (Option Nat)}{ix:List Nat}{wg:DG}{wt:DT}{A1:Addr->Prop}{x:V}{d:Qa}{inner:L2.St->Hp->(Hp->Prop)->Prop}{kk:Hp->Prop}{T:Sts->Prop}{N:Prop}(gok:GOk wg)
  (hf:QcZ cap ix=true)(rel:Rel K F σ H1 δ)(hA:∀a,Av F σ δ a->A1 a)(hN:∀a,A1 a->Av F σ δ a∨H1 a=none)(dm:∀a,A1 a->∃xs,H3 a=some (.lst xs))(kp:Kp σ δ H1 H3)(dx:DA A1 H3 x d)
  (h:wg d (QeQ cap δ) λδ4=>wt δ4 (λb=>if b=true then T δ4 else N) XF)
  (hT:∀σ4 δ4 H5,T δ4->Rel K (inF A1 cap σ δ H3) σ4 H5 δ4->Kp σ δ H3 H5->(∀j,j∉ix->σ4[j]? = (Qd9 cap σ)[j]?)->σ4.length=(Qd9 cap σ).length->(∀(j:Nat) x,δ4[j]? = some x->(∃e,x=.v e)∨(QeQ cap δ)[j]? = some x)->inner σ4 H5 kk)(hF:N->∀H5,Kp σ δ H3 H5->kk H5) :
  bOf (Qd9 cap σ) (tG ix K wg) (tT K E0 wt) inner x H3 kk:=by
 have ri:=QnO (cap:=cap) rel hA hN dm kp;have iv:∀{a:Addr},Av (inF A1 cap σ δ H3) (Qd9 cap σ) (QeQ cap δ) a->A1 a:=λ{a}=>(QkG λa z=>hA a (QaC z)).mp
 refine⟨inF A1 cap σ δ H3,QeQ cap δ,d,_,ri,dx.mv (λ_ _ _ e=>e) λa z=>.inl (iv z),gok.h _ _ _ h,λδ4 ⟨g4,h4⟩ σ4 r4 st4 l4 j4=>⟨Qs3 hf l4 j4,inF A1 cap σ δ H3,δ4,_,XF,r4,h4,λb hb H5 r5 kp5=>?_,QsB⟩⟩;have pots:∀{b:Addr},YB σ4 δ4 b->YB σ δ b:=λz=>QjA r4 (λb o _ e1 e2=>by rw[e2] at e1;cases e1) z
 have K5:Kp σ δ H3 H5:=by
  refine⟨λb o n e=>kp5.1 b o (λz=>n (pots z)) e,λb hb=>?_⟩;by_cases z:YB σ4 δ4 b
  ·exact kp5.2 b z
  ·obtain⟨n,e⟩:=kp.2 b hb;exact⟨n,kp5.1 _ _ z e⟩
 exact Qdu hb (λz=>hT σ4 δ4 H5 z r5 K5 j4 l4 g4) λz=>hF z H5 K5
theorem Qvk{K:PySem.W.Frag}{σ σ4:L2.St}{δ δ4:Sts}{H1 H3 H5:Hp}{cap:List (Option Nat)}{we:DE}{A1:Addr->Prop}{p:Addr}{acc:List Qa}{kk:Hp->Prop}{G:Qa->Prop}
  (hpA:A1 p)(hP:∀a,YB σ δ a->A1 a)(hp1:H1 p=none)(hpn:¬YB σ δ p)(lp:Lp σ δ A1 p H1 H5 acc)(hl:acc.length<sizeLine)(r5:Rel K (inF A1 cap σ δ H3) σ4 H5 δ4)(pots:∀b,YB σ4 δ4 b->YB σ δ b)
  (h:we δ4 G XF)(hk:∀e,G e->∀H',Lp σ δ A1 p H1 H' (acc++[e])->(∀b o,¬A1 b->H5 b=some o->H' b=some o)->kk H'):Qyv p (tX .D K E0 we) σ4 H5 kk:=by
 refine⟨inF A1 cap σ δ H3,δ4,G,XF,r5,h,λe he v H6 r6 kp6 dv=>?_,QsB⟩;have k56:Kp σ δ H5 H6:=by
  refine⟨λb o n e=>kp6.1 b o (λz=>n (pots b z)) e,λb hb=>?_⟩;by_cases z:YB σ4 δ4 b
  ·exact kp6.2 b z
  ·obtain⟨n,e⟩:=lp.kp.2 b hb;exact⟨n,kp6.1 _ _ z e⟩
 obtain⟨k6,ys,e6,q6⟩:=lp.step hP hpn k56;have up:∀{b:Addr}{o:HO},¬A1 b->H6 b=some o->upd H6 p (.lst (ys++[v])) b=some o:=λ{b o} n e=>by rw[Zk (λz=>n (by rw[z];exact hpA))];exact e
 refine⟨ys,e6,by rw[q6.length];exact hl,hk e he _ ⟨⟨λb o n e=>?_,λb hb=>?_⟩,ys++[v],J7,DAs.app (q6.mv (λ_ _=>up) λa z=>.inl z) (.cons (DA.mv dv (λa o n e=>up (λz=>n (.inl z)) e) λa z=>.inl (.inl z)) .nil)⟩ λb o n e=>up n (kp6.1 b o (λz=>n (hP b (pots b z))) e)⟩
 ·rw[Zk (λz=>by rw[z,hp1] at e;cases e)];exact k6.1 b o n e
 ·rw[Zk (λz=>hpn (by rw[<- z];exact hb))];exact k6.2 b hb
def Qrx:Nat:=1000000
@[irreducible] def InR(items2:List Qa)(wg2:DG)(wt2:DT)(we:DE)(δ4:Sts)(acc:List Qa)(N:List Qa->Prop):Prop:=∃Jv:Nat->List Qa->Prop,Jv 0 acc /\
 (∀(j:Nat) acc2 d2,items2[j]? = some d2->Jv j acc2->acc2.length<Qrx/\wg2 d2 δ4 λδ5=>wt2 δ5 (λb=>if b=true then we δ5 (λe=>Jv (j+1) (acc2++[e])) XF else Jv (j+1) acc2) XF)/\∀acc2,Jv items2.length acc2->N acc2
@[irreducible] def Qk2(items:List Qa)(wg:DG)(wt:DT)(wi2:DI)(wg2:DG)(wt2:DT)(we:DE)(δ:Sts)(Q:Qa->Prop):Prop:=∃Iv:Nat->List Qa->Prop,Iv 0 [] /\
 (∀(i:Nat) acc d,items[i]? = some d->Iv i acc->wg d δ λδ4=>wt δ4 (λb=>if b=true then wi2 δ4 (λitems2=>InR items2 wg2 wt2 we δ4 acc (Iv (i+1))) XF else Iv (i+1) acc) XF)/\∀acc,Iv items.length acc->Q (.list acc)
def QsZ(cap:List (Option Nat))(wi:DI)(wg:DG)(wt:DT)(wi2:DI)(wg2:DG)(wt2:DT)(we:DE):DE:=λδ Q EX=>wi δ (λitems=>Qk2 items wg wt wi2 wg2 wt2 we (QeQ cap δ) Q) EX
section
variable{X:Cx}{E:XK}
theorem Qrw:Qrx<=sizeLine:=Q7 (by decide) Qjv
end
section
variable{X:Cx}{E:XK}
end
theorem QAh{items2:List Qa}{wg2:DG}{wt2:DT}{we:DE}{δ4:Sts}{acc:List Qa}{N:List Qa->Prop}(G:Qa->Option Qa)(hl:acc.length+items2.length<Qrx)
  (h:∀d∈items2,∀(k1:Prop)(k2:Qa->Prop),(G d=none->k1)->(∀e,G d=some e->k2 e)->wg2 d δ4 λδ5=>wt2 δ5 (λb=>if b=true then we δ5 k2 XF else k1) XF)(q:N (acc++items2.filterMap G)) :
  InR items2 wg2 wt2 we δ4 acc N:=by
 unfold InR;refine⟨λi acc2=>acc2=acc++(items2.take i).filterMap G,by simp,λi acc2 d hd e=>?_,λacc2 e=>by rw[e,ZN];exact q⟩;have e:acc2=acc++(items2.take i).filterMap G:=e;have hs:(items2.take (i+1)).filterMap G=(items2.take i).filterMap G++(G d).toList:=by
  rw[Yk,hd,Ya];cases e2:G d<;>simp[e2]
 refine⟨?_,h d (QQ hd) _ _ (λe2=>?_) λe' e2=>?_⟩
 ·have:=List.length_filterMap_le G (items2.take i);have h2:(items2.take i).length<=items2.length:=by rw[JH];exact Qgx _ _
  rw[e,Qs];omega
 ·show acc2=acc++(items2.take (i+1)).filterMap G;rw[hs,e2,e];simp
 ·show acc2++[e']=acc++(items2.take (i+1)).filterMap G;rw[hs,e2,e];simp
theorem QxZ{items2:List Qa}{wg2:DG}{we:DE}{δ4:Sts}{acc:List Qa}{N:List Qa->Prop}(G:Qa->Qa)(hl:acc.length+items2.length<Qrx)
  (h:∀d∈items2,∀(k2:Qa->Prop),k2 (G d)->wg2 d δ4 λδ5=>we δ5 k2 XF)(q:N (acc++items2.map G)):InR items2 wg2 QvQ we δ4 acc N:=by
 refine QAh (λd=>some (G d)) hl (λd hd k1 k2 _ h2=>?_) (by rw[show items2.filterMap (λd=>some (G d))=items2.map G from by rw[<- List.filterMap_eq_map];rfl];exact q);have hh:=h d hd k2 (h2 _ rfl);simp only[QvQ,if_true];exact hh
section
open Rs PySem.W PySem.Calls
variable{X:Cx}
end
def QBS(a b:DI):DI:=λδ R EX=>a δ R EX∨b δ R EX
theorem QzN{X:Cx}{E:XK}{m:Md}{tg e:Q3}{a b:DI}(h:QI m X E tg e a)(h':QI m X E tg e b):QI m X E tg e (QBS a b):=⟨λpins s σ H R I ⟨F,δ,R',EX,rel,hw,k,o⟩=>by
 rcases hw with hw | hw
 ·exact h.h pins s σ H R I ⟨F,δ,R',EX,rel,hw,k,o⟩
 ·exact h'.h pins s σ H R I ⟨F,δ,R',EX,rel,hw,k,o⟩⟩
end Dl
namespace PySem
namespace AutoSeq1
open PyProof
end AutoSeq1
end PySem
namespace L2
end L2
namespace Dl
open L2 _root_.Rd Rk
section
variable{X:Cx}{E:XK}
end
theorem Qom{K:PySem.W.Frag}{E:XK}{cap:List (Option Nat)}{ix:List Nat}{wi:DI}{wg:DG}{wt:DT}{we:DE}(hf:QcZ cap ix=true)(σ:L2.St)(H:Hp)(Q:VK)(h:tX .F K E (dComp cap wi wg wt we) σ H Q) :
  tComp cap (tI .P K E wi) (tG ix K wg) (tT K E0 wt) (tX .D K E0 we) σ H Q:=by
 obtain⟨F,δ,R,EX,rel,hw,k,o⟩:=h;refine⟨F,δ,_,EX,rel,hw,λitems hC J H1 rel1 kp1 ⟨ln,it⟩ p hp=>?_,o⟩;unfold QjN at hC;obtain⟨Iv,i0,step,fin⟩:=hC;have hpn:¬YB σ δ p:=λz=>by obtain⟨xs,e⟩:=rel1.isl (QaC (F:=F) z);rw[hp] at e;cases e
 let A1:Addr->Prop:=λa=>Av F σ δ a∨a=p
 have hP:∀a,YB σ δ a->A1 a:=λa z=>.inl (QaC z)
 have hN:∀a,A1 a->Av F σ δ a∨H1 a=none:=λa z=>z.elim .inl λz=>.inr (by rw[z];exact hp)
 have dmK:∀{H2:Hp},Kp σ δ H1 H2->(∃ys,H2 p=some (.lst ys))->∀a,A1 a->∃xs,H2 a=some (.lst xs):=λ{H2} k2 e2 a z=>by
  rcases z with z | z
  ·exact(rel1.kp k2).isl z
  ·rw[z];exact e2
 refine Qg2 items.length (λi H2=>i<=items.length/\∃acc,Iv i acc/\acc.length<=i/\Lp σ δ A1 p H1 H2 acc) ⟨Qr _,[],i0,Qi _,Kp.same rel1 (JX hp),[],J7,.nil⟩ (λi H2 hi ⟨_,acc,iv,hl,lp⟩=>?_) λH2 ⟨_,acc,iv,hl,lp⟩=>?_
 ·obtain⟨k2,ys,e2,q2⟩:=lp;obtain⟨go,_⟩:=it H2 A1 (λb o n e=>k2.1 b o n e) hN (dmK k2 ⟨ys,e2⟩);have hd:items[i]? = some items[i]:=Qf hi;obtain⟨g1,g2⟩:=go i _ hd;refine⟨g1,λx H3 y kk hk=>?_⟩;obtain⟨s3,dx⟩:=g2 x H3 y;have k23:=Kp.same (rel1.kp k2) s3;have lp3:Lp σ δ A1 p H1 H3 acc:=Lp.step hP hpn ⟨k2,ys,e2,q2⟩ k23;refine Qmk hf rel1 (λa z=>.inl z) hN (dmK lp3.kp ⟨ys,s3 _ _ e2⟩) lp3.kp dx (step i acc _ hd iv) (λσ4 δ4 H5 h5 r5 k5 pots=>?_) λh5 H5 k5=>hk _ ⟨hi,acc,h5,by omega,lp3.step hP hpn k5⟩
  exact QsW (.inr rfl) hP hp hpn (lp3.step hP hpn k5) (by omega) r5 pots h5 λe he H' lp'=>hk _ ⟨hi,acc++[e],he,by rw[Qs];show _+1<=_;omega,lp'⟩
 ·obtain⟨k2,ys,e2,q2⟩:=lp;obtain⟨_,st⟩:=it H2 A1 (λb o n e=>k2.1 b o n e) hN (dmK k2 ⟨ys,e2⟩);refine⟨st,k _ (fin acc iv) (.ref p) H2 (rel1.kp k2) (kp1.trans k2) ⟨.lst (λz=>?_) e2 (q2.mv (λ_ _ _ e=>e) λa z=>.inl (.inl z)),λl e1 _=>?_⟩⟩
  ·obtain⟨xs,e⟩:=rel1.isl z;rw[hp] at e;cases e
  ·cases e1;exact Qcf kp1 hp
theorem QBR{K:PySem.W.Frag}{E:XK}{w:DE}(σ:L2.St)(H:Hp)(Q:VK)(h:tX .D K E w σ H Q):tX .F K E w σ H Q:=by
 obtain⟨F,δ,R,EX,rel,hw,k,o⟩:=h;exact⟨F,δ,R,EX,rel,hw,λd hd v H' r kp vk=>k d hd v H' r kp vk.1,o⟩
section
variable{X:Cx}{E:XK}
theorem Qjf(M:List Str)(cap:List (Option Nat))(i:Nat){elt tg iter:Q3}{ifs:List Q3}{scope:QaR}{pos py spos:Pos}{y:Str}{ix:List Nat}{wi:DI}{wg:DG}{wt:DT}{we:DE}(hN:X.N.Nodup)(hi:QI .P X E tg iter wi)(hb:∀cl ex s3 H3 C,QG ix (blk X M scope cl ex s3 H3 C) tg wg/\QTs (blk X M scope cl ex s3 H3 C) E0 ifs wt/\QE .D (blk X M scope cl ex s3 H3 C) E0 elt we)(hiy:X.N[i]? = some y:=by rfl)(hly:X.env.scope.names.lookup y=some .local:=by rfl)(hc:X.calm=true:=by rfl)(ok:Qhh X.N X.env.scope M scope cap=true:=by rfl)(hf:QcZ cap ix=true:=by rfl)(hs:∀x,foldedSetIterable iter X.env x=pure x:=by intro _;rfl)(hsw:swapsWith (.ListComp elt [⟨tg,iter,ifs,0⟩] scope pos) (some (.Name y py)) spos.line X.env=pure true:=by rfl):QS X E (.Assign [.Name y py] (.ListComp elt [⟨tg,iter,ifs,0⟩] scope pos) spos) (QAx i (dComp cap wi wg wt we)):=
 ⟨Qm5 (PS.imp (PS.imp (QpK hN hiy hly hc ok hi.h (λcl ex s3 H3 C=>⟨(hb cl ex s3 H3 C).1.h,(hb cl ex s3 H3 C).2.1.h,(hb cl ex s3 H3 C).2.2.h⟩) hs hsw) λD σ H q=>Qom (E:=E) hf σ H _ q) λD σ H q=>QBR σ H _ q)⟩
end
theorem QlM{K:PySem.W.Frag}{E:XK}{cap:List (Option Nat)}{ix ix2:List Nat}{wi wi2:DI}{wg wg2:DG}{wt wt2:DT}{we:DE}(gok:GOk wg)(hf:QcZ cap ix=true)(hf2:QcZ cap ix2=true)(hd:ix2.all (λi => !ix.contains i)=true)(σ:L2.St)(H:Hp)(Q:VK)(h:tX .F K E (QsZ cap wi wg wt wi2 wg2 wt2 we) σ H Q) :
  Qsk cap (tI .P K E wi) (tG ix K wg) (tT K E0 wt) (tI .D K E0 wi2) (tG ix2 K wg2) (tT K E0 wt2) (tX .D K E0 we) σ H Q:=by
 obtain⟨F,δ,R,EX,rel,hw,k,o⟩:=h;refine⟨F,δ,_,EX,rel,hw,λitems hC J H1 rel1 kp1 ⟨ln,it⟩ p hp=>?_,o⟩;unfold Qk2 at hC;obtain⟨Iv,i0,step,fin⟩:=hC;have hpn:¬YB σ δ p:=λz=>by obtain⟨xs,e⟩:=rel1.isl (QaC (F:=F) z);rw[hp] at e;cases e
 let A1:Addr->Prop:=λa=>Av F σ δ a∨a=p
 have hP:∀a,YB σ δ a->A1 a:=λa z=>.inl (QaC z)
 have hN:∀a,A1 a->Av F σ δ a∨H1 a=none:=λa z=>z.elim .inl λz=>.inr (by rw[z];exact hp)
 have dmK:∀{H2:Hp},Kp σ δ H1 H2->(∃ys,H2 p=some (.lst ys))->∀a,A1 a->∃xs,H2 a=some (.lst xs):=λ{H2} k2 e2 a z=>by
  rcases z with z | z
  ·exact(rel1.kp k2).isl z
  ·rw[z];exact e2
 refine Qg2 items.length (λi H2=>i<=items.length/\∃acc,Iv i acc/\Lp σ δ A1 p H1 H2 acc) ⟨Qr _,[],i0,Kp.same rel1 (JX hp),[],J7,.nil⟩ (λi H2 hi ⟨_,acc,iv,lp⟩=>?_) λH2 ⟨_,acc,iv,lp⟩=>?_
 ·obtain⟨k2,ys,e2,q2⟩:=lp;obtain⟨go,_⟩:=it H2 A1 (λb o n e=>k2.1 b o n e) hN (dmK k2 ⟨ys,e2⟩);have hd':items[i]? = some items[i]:=Qf hi;obtain⟨g1,g2⟩:=go i _ hd';refine⟨g1,λx H3 y kk hk=>?_⟩;obtain⟨s3,dx⟩:=g2 x H3 y;have k23:=Kp.same (rel1.kp k2) s3;have lp3:Lp σ δ A1 p H1 H3 acc:=Lp.step hP hpn ⟨k2,ys,e2,q2⟩ k23;refine Qpf gok hf rel1 (λa z=>.inl z) hN (dmK lp3.kp ⟨ys,s3 _ _ e2⟩) lp3.kp dx (step i acc _ hd' iv) (λσ4 δ4 H5 h5 r5 k5 j4 l4 g4=>?_) λh5 H5 k5=>hk _ ⟨hi,acc,h5,lp3.step hP hpn k5⟩
  have av4:∀{H:Hp}{a:Addr},Av (inF A1 cap σ δ H) σ4 δ4 a->A1 a:=λ{H a} z=>QsQ hP hf j4 g4 z
  refine⟨inF A1 cap σ δ H3,δ4,_,XF,r5,h5,λitems2 hJ J2 H7 rel7 kp7 ⟨ln2,it2⟩=>?_,QsB⟩;unfold InR at hJ;obtain⟨Jv,z0,step2,fin2⟩:=hJ;have pots4:∀{b:Addr},YB σ4 δ4 b->YB σ δ b:=λ{b} z=>by
   obtain⟨j,z1,z2⟩:=z;rcases g4 j _ z2 with⟨e,z⟩ | z
   ·cases z
   ·exact Qc0 ⟨j,by rw[<- j4 j (QeO hf z (λz=>by cases z))];exact z1,z⟩
  have k57:Kp σ δ H5 H7:=by
   refine⟨λb o n e=>kp7.1 b o (λz=>n (pots4 z)) e,λb hb=>?_⟩;by_cases z:YB σ4 δ4 b
   ·exact kp7.2 b z
   ·obtain⟨n,e⟩:=k5.2 b hb;exact⟨n,kp7.1 _ _ z e⟩
  refine Qg2 items2.length (λj H8=>j<=items2.length/\∃acc2,Jv j acc2/\Lp σ δ A1 p H1 H8 acc2/\∀b o,¬A1 b->H7 b=some o->H8 b=some o) ⟨Qr _,acc,z0,(lp3.step hP hpn k5).step hP hpn k57,λ_ _ _ e=>e⟩ (λj H8 hj ⟨_,acc2,jv,lp8,s78⟩=>?_) λH8 ⟨_,acc2,jv,lp8,s78⟩=>?_
  ·obtain⟨ys8,e8,q8⟩:=lp8.at_;obtain⟨go2,_⟩:=it2 H8 A1 (λb o n e=>s78 b o (λz=>n (.inl z)) e) (λb z=>.inl (.inl z)) (dmK lp8.kp ⟨ys8,e8⟩);have hd2:items2[j]? = some items2[j]:=Qf hj;obtain⟨g3,g5⟩:=go2 j _ hd2;refine⟨g3,λx2 H9 y2 kk2 hk2=>?_⟩;obtain⟨s9,dx2⟩:=g5 x2 H9 y2;have k89:=Kp.same (rel1.kp lp8.kp) s9;have lp9:Lp σ δ A1 p H1 H9 acc2:=lp8.step hP hpn k89;have ri:=QnO (cap:=cap) rel1 (λa z=>.inl z) hN (dmK lp9.kp ⟨ys8,s9 _ _ e8⟩) lp9.kp;have r9:=Qvc hP hf j4 g4 ri r5 λa o n e=>s9 _ _ (s78 a o n (k57.1 a o (λz=>n (hP a z)) e))
   obtain⟨hl2,hw2⟩:=step2 j acc2 _ hd2 jv;refine⟨inF A1 cap σ δ H9,δ4,_,_,r9,dx2.mv (λ_ _ _ e=>e) λa z=>.inl (av4 z),hw2,λδ5 h6 σ5 r10 st5 l5 j5=>⟨Qpb l5 λi v e=>?_,inF A1 cap σ δ H9,δ5,_,XF,r10,h6,λb hb H10 r11 kp11=>?_,QsB⟩⟩
   ·by_cases z:i∈ix2
    ·have n1:i∉ix:=λz2=>by
      have:=Qat.mp hd i z;simp[z2] at this
     rw[j4 i n1] at e;rcases Qhg e with⟨_,e2⟩ | ⟨j,hj2,_⟩
     ·cases e2
     ·rw[QnX hf2 z] at hj2;cases hj2
    ·rw[j5 i z];exact e
   ·have pots:∀{b:Addr},YB σ5 δ5 b->YB σ δ b:=λz=>QjA r10 (λb o _ e1 e2=>by rw[e2] at e1;cases e1) z
    have K10:Kp σ δ H9 H10:=by
     refine⟨λb o n e=>kp11.1 b o (λz=>n (pots z)) e,λb hb=>?_⟩;by_cases z:YB σ5 δ5 b
     ·exact kp11.2 b z
     ·obtain⟨n,e⟩:=lp9.kp.2 b hb;exact⟨n,kp11.1 _ _ z e⟩
    have s710:∀b o,¬A1 b->H7 b=some o->H10 b=some o:=λb o n e=>K10.1 b o (λz=>n (hP b z)) (s9 _ _ (s78 b o n e))
    refine Qdu hb (λz=>?_) λz=>hk2 _ ⟨hj,acc2,z,lp9.step hP hpn K10,s710⟩
    exact Qvk (.inr rfl) hP hp hpn (lp9.step hP hpn K10) (Q0 hl2 Qrw) r11 (λb=>pots) z λe he H' lp' kk'=>hk2 _ ⟨hj,acc2++[e],he,lp',λb o n e=>kk' b o n (s710 b o n e)⟩
  ·obtain⟨ys8,e8,q8⟩:=lp8.at_;obtain⟨_,st2⟩:=it2 H8 A1 (λb o n e=>s78 b o (λz=>n (.inl z)) e) (λb z=>.inl (.inl z)) (dmK lp8.kp ⟨ys8,e8⟩);exact⟨st2,hk _ ⟨hi,acc2,fin2 acc2 jv,lp8⟩⟩
 ·obtain⟨k2,ys,e2,q2⟩:=lp;obtain⟨_,st⟩:=it H2 A1 (λb o n e=>k2.1 b o n e) hN (dmK k2 ⟨ys,e2⟩);refine⟨st,k _ (fin acc iv) (.ref p) H2 (rel1.kp k2) (kp1.trans k2) ⟨.lst (λz=>?_) e2 (q2.mv (λ_ _ _ e=>e) λa z=>.inl (.inl z)),λl e1 _=>?_⟩⟩
  ·obtain⟨xs,e⟩:=rel1.isl z;rw[hp] at e;cases e
  ·cases e1;exact Qcf kp1 hp
section
variable{X:Cx}{E:XK}
theorem QmX(M:List Str)(cap:List (Option Nat))(i:Nat){elt tg iter tg2 iter2:Q3}{ifs ifs2:List Q3}{scope:QaR}{pos py spos:Pos}{y:Str}{ix ix2:List Nat}{wi wi2:DI}{wg wg2:DG}{wt wt2:DT}{we:DE}(hN:X.N.Nodup)(gok:GOk wg)(hi:QI .P X E tg iter wi)(hb:∀cl ex s3 H3 C,QG ix (blk X M scope cl ex s3 H3 C) tg wg/\QTs (blk X M scope cl ex s3 H3 C) E0 ifs wt/\QI .D (blk X M scope cl ex s3 H3 C) E0 tg2 iter2 wi2/\QG ix2 (blk X M scope cl ex s3 H3 C) tg2 wg2/\QTs (blk X M scope cl ex s3 H3 C) E0 ifs2 wt2/\QE .D (blk X M scope cl ex s3 H3 C) E0 elt we)(hiy:X.N[i]? = some y:=by rfl)(hly:X.env.scope.names.lookup y=some .local:=by rfl)(hc:X.calm=true:=by rfl)(ok:Qhh X.N X.env.scope M scope cap=true:=by rfl)(hf:QcZ cap ix=true:=by rfl)(hf2:QcZ cap ix2=true:=by rfl)(hd:ix2.all (λi => !ix.contains i)=true:=by rfl)(hs:∀x,foldedSetIterable iter X.env x=pure x:=by intro _;rfl)(hs2:∀env x,foldedSetIterable iter2 env x=pure x:=by intro _ _;rfl)(hsw:swapsWith (.ListComp elt [⟨tg,iter,ifs,0⟩,⟨tg2,iter2,ifs2,0⟩] scope pos) (some (.Name y py)) spos.line X.env=pure true:=by rfl):QS X E (.Assign [.Name y py] (.ListComp elt [⟨tg,iter,ifs,0⟩,⟨tg2,iter2,ifs2,0⟩] scope pos) spos) (Qvm i (QsZ cap wi wg wt wi2 wg2 wt2 we)):=
 ⟨Qko (PS.imp (Qm1 hN hiy hly hc ok hi.h (λcl ex s3 H3 C=>⟨(hb cl ex s3 H3 C).1.h,(hb cl ex s3 H3 C).2.1.h,(hb cl ex s3 H3 C).2.2.1.h,(hb cl ex s3 H3 C).2.2.2.1.h,(hb cl ex s3 H3 C).2.2.2.2.1.h,(hb cl ex s3 H3 C).2.2.2.2.2.h⟩) hs hs2 hsw) λD σ H q=>QlM (E:=E) gok hf hf2 hd σ H _ q)⟩
end
theorem Qh1{A:Addr->Prop}{H:Hp}(dm:∀a,A a->∃xs,H a=some (.lst xs)):∀(M:List (Int×Int))(ys:List V),Dats H ys (M.map Rk.pairD)->DAs A H ys (M.map Rk.pairD)
 |[],ys,h=>by cases h;exact .nil
 |m::M,ys,h=>by
  cases h with
  |@cons x xs _ _ h1 h2=>
   refine .cons ?_ (Qh1 dm M xs h2)
   cases h1 with
   |@tup a zs _ e q=>
    refine .tup (λz=>?_) e ?_
    ·obtain⟨xs,e'⟩:=dm a z;rw[e] at e';cases e'
    ·cases q with
     |cons a b=>
      cases a;cases b with
      |cons a b=>cases a;cases b;exact .cons (.int _) (.cons (.int _) .nil)
theorem QbH(L:List (Int×Int)):nds (L.map Rk.pairD)=true:=QgY.mpr λd hd=>by
 obtain⟨i,_,rfl⟩:=Qq.mp hd;rfl
@[irreducible] def sortPD:List Qa->(Qa->Prop)->Prop
 |[.list ds],Q=>∃L:List (Int×Int),ds=L.map Rk.pairD/\L.Nodup/\L.length<64/\(∀ij∈L,0<=ij.2/\ij.2<64)/\∀M:List (Int×Int),M.Perm L->M.Pairwise (λa b=>Rs.code a<Rs.code b)->Q (.list (M.map Rk.pairD))
 |_,_=>False
theorem cd_sortP:Qc3 QmQ sortPD:=λA P H vs ds R Q ln dm q h k=>by
 unfold sortPD at h;split at h
 ·obtain⟨v,rfl,hv⟩:=pd1 q;obtain⟨L,rfl,nd',h64,hb,hR⟩:=h;obtain⟨l,xs,rfl,e,qq⟩:=hv.list;refine⟨l,xs,L,rfl,e,Qbr _ _ (QbH L) qq,nd',h64,hb,λt ys M H2 s n e2 dts pm pw=>?_⟩;have dm2:∀a,A a->∃xs,H2 a=some (.lst xs):=λa z=>by obtain⟨xs,e⟩:=dm a z;exact⟨xs,s _ _ e⟩
  refine k _ (hR M pm pw) _ H2 s (.lst (λz=>?_) e2 (Qh1 dm2 M ys dts)) (Qby n);obtain⟨xs,e⟩:=dm t z;rw[n] at e;cases e
 ·exact h.elim
theorem sortP_of{L:List (Int×Int)}{Q:Qa->Prop}(h1:L.Nodup)(h2:L.length<64)(h3:∀ij∈L,0<=ij.2/\ij.2<64)(k:∀M:List (Int×Int),M.Perm L->M.Pairwise (λa b=>Rs.code a<Rs.code b)->Q (.list (M.map Rk.pairD))):sortPD [.list (L.map Rk.pairD)] Q:=by
 unfold sortPD;exact⟨L,rfl,h1,h2,h3,k⟩
def rkD:Qa->Nat
 |.int _=>0
 |.tuple _=>1
 |_=>2
def Qfu(i j:Int):Ordering:=if i<j then .lt else if i=j then .eq else .gt
def QBT(i j:Nat):Ordering:=if i<j then .lt else if i=j then .eq else .gt
def thn(o:Ordering)(p:Ordering):Ordering:=match o with
 |.eq=>p
 |o=>o
mutual
def Qb7:Qa->Qa->Ordering
 |.int i,.int j=>Qfu i j
 |.tuple a,.tuple b=>Qbj a b
 |x,y=>QBT (rkD x) (rkD y)
def Qbj:List Qa->List Qa->Ordering
 |[],[]=>.eq
 |[],_::_=>.lt
 |_::_,[]=>.gt
 |x::xs,y::ys=>thn (Qb7 x y) (Qbj xs ys)
end
def isL:Ordering->Bool
 |.lt=>true
 |_=>false
def ltD(x y:Qa):Bool:=isL (Qb7 x y)
def QuY(x y:List Qa):Bool:=isL (Qbj x y)
def sw:Ordering->Ordering
 |.lt=>.gt
 |.gt=>.lt
 |.eq=>.eq
def Qgi:Ordering->Bool
 |.gt=>false
 |_=>true
theorem Qwc(a b:Ordering):sw (thn a b)=thn (sw a) (sw b):=by cases a<;>rfl
theorem Qvt(i j:Int):Qfu j i=sw (Qfu i j):=by
 unfold Qfu;by_cases h:i<j
 ·rw[if_neg (by omega),if_neg (by omega),if_pos h];rfl
 ·by_cases h2:i=j
  ·rw[if_neg (by omega),if_pos h2.symm,if_neg h,if_pos h2];rfl
  ·rw[if_pos (by omega),if_neg h,if_neg h2];rfl
theorem Qvu(i j:Int):Qgi (Qfu i j)=decide (i<=j):=by
 unfold Qfu;by_cases h:i<j
 ·rw[if_pos h];exact(decide_eq_true (by omega)).symm
 ·by_cases h2:i=j
  ·rw[if_neg h,if_pos h2];exact(decide_eq_true (by omega)).symm
  ·rw[if_neg h,if_neg h2];exact(decide_eq_false (by omega)).symm
mutual
theorem Qd7:∀(x y:Qa),Qb7 y x=sw (Qb7 x y)
 |.int i,.int j=>Qvt i j
 |.tuple a,.tuple b=>QkY a b
 |.int _,.tuple _=>rfl
 |.tuple _,.int _=>rfl
 |.int _,.none=>rfl
 |.int _,.bool _=>rfl
 |.int _,.str _=>rfl
 |.int _,.list _=>rfl
 |.int _,.dict _=>rfl
 |.tuple _,.none=>rfl
 |.tuple _,.bool _=>rfl
 |.tuple _,.str _=>rfl
 |.tuple _,.list _=>rfl
 |.tuple _,.dict _=>rfl
 |.none,y=>by cases y<;>rfl
 |.bool _,y=>by cases y<;>rfl
 |.str _,y=>by cases y<;>rfl
 |.list _,y=>by cases y<;>rfl
 |.dict _,y=>by cases y<;>rfl
theorem QkY:∀(xs ys:List Qa),Qbj ys xs=sw (Qbj xs ys)
 |[],[]=>rfl
 |[],_::_=>rfl
 |_::_,[]=>rfl
 |x::xs,y::ys=>by
  show thn (Qb7 y x) (Qbj ys xs)=sw (thn (Qb7 x y) (Qbj xs ys));rw[Qd7 x y,QkY xs ys,Qwc]
end
theorem QxL{a c:Ordering}(hab:Qgi a=true)(h:Qgi (sw c)=true->Qgi (sw a)=true)(ha:a=.lt):c=.lt:=by
 subst ha;cases c with
 |lt=>rfl
 |eq=>cases h rfl
 |gt=>cases h rfl
mutual
theorem Qhe:∀(x y z:Qa),Qgi (Qb7 x y)=true->Qgi (Qb7 y z)=true->Qgi (Qb7 x z)=true
 |.int i,.int j,.int k,h1,h2=>by
  have h1:Qgi (Qfu i j)=true:=h1;have h2:Qgi (Qfu j k)=true:=h2;show Qgi (Qfu i k)=true;rw[Qvu] at h1 h2 ⊢;have a:=of_decide_eq_true h1;have b:=of_decide_eq_true h2;exact decide_eq_true (by omega)
 |.tuple a,.tuple b,.tuple c,h1,h2=>QkX a b c h1 h2
 |.int _,y,.tuple _,h1,h2=>rfl
 |.int _,.tuple _,.int _,h1,h2=>by cases h2
 |.tuple _,.int _,z,h1,h2=>by cases h1
 |.tuple _,.tuple _,.int _,h1,h2=>by cases h2
 |.int _,y,.none,_,_=>rfl
 |.int _,y,.bool _,_,_=>rfl
 |.int _,y,.str _,_,_=>rfl
 |.int _,y,.list _,_,_=>rfl
 |.int _,y,.dict _,_,_=>rfl
 |.tuple _,y,.none,_,_=>rfl
 |.tuple _,y,.bool _,_,_=>rfl
 |.tuple _,y,.str _,_,_=>rfl
 |.tuple _,y,.list _,_,_=>rfl
 |.tuple _,y,.dict _,_,_=>rfl
 |.int _,.none,.int _,h1,h2=>by cases h2
 |.int _,.bool _,.int _,h1,h2=>by cases h2
 |.int _,.str _,.int _,h1,h2=>by cases h2
 |.int _,.list _,.int _,h1,h2=>by cases h2
 |.int _,.dict _,.int _,h1,h2=>by cases h2
 |.tuple _,.none,.int _,h1,h2=>by cases h2
 |.tuple _,.bool _,.int _,h1,h2=>by cases h2
 |.tuple _,.str _,.int _,h1,h2=>by cases h2
 |.tuple _,.list _,.int _,h1,h2=>by cases h2
 |.tuple _,.dict _,.int _,h1,h2=>by cases h2
 |.tuple _,.none,.tuple _,h1,h2=>by cases h2
 |.tuple _,.bool _,.tuple _,h1,h2=>by cases h2
 |.tuple _,.str _,.tuple _,h1,h2=>by cases h2
 |.tuple _,.list _,.tuple _,h1,h2=>by cases h2
 |.tuple _,.dict _,.tuple _,h1,h2=>by cases h2
 |.none,y,z,h1,h2=>by cases y<;>cases z<;>first | rfl | (cases h1;done) | (cases h2;done)
 |.bool _,y,z,h1,h2=>by cases y<;>cases z<;>first | rfl | (cases h1;done) | (cases h2;done)
 |.str _,y,z,h1,h2=>by cases y<;>cases z<;>first | rfl | (cases h1;done) | (cases h2;done)
 |.list _,y,z,h1,h2=>by cases y<;>cases z<;>first | rfl | (cases h1;done) | (cases h2;done)
 |.dict _,y,z,h1,h2=>by cases y<;>cases z<;>first | rfl | (cases h1;done) | (cases h2;done)
 termination_by x y z=>sizeOf x+sizeOf y+sizeOf z
theorem QkX:∀(xs ys zs:List Qa),Qgi (Qbj xs ys)=true->Qgi (Qbj ys zs)=true->Qgi (Qbj xs zs)=true
 |[],_,[],_,_=>rfl
 |[],_,_::_,_,_=>rfl
 |_::_,[],_,h1,_=>by cases h1
 |_::_,_::_,[],_,h2=>by cases h2
 |x::xs,y::ys,z::zs,h1,h2=>by
  have h1:Qgi (thn (Qb7 x y) (Qbj xs ys))=true:=h1;have h2:Qgi (thn (Qb7 y z) (Qbj ys zs))=true:=h2;show Qgi (thn (Qb7 x z) (Qbj xs zs))=true;have a1:Qgi (Qb7 x y)=true:=by cases e:Qb7 x y<;>rw[e] at h1<;>first | rfl | cases h1
  have a2:Qgi (Qb7 y z)=true:=by cases e:Qb7 y z<;>rw[e] at h2<;>first | rfl | cases h2
  have a3:=Qhe x y z a1 a2;cases e1:Qb7 x y with
  |gt=>rw[e1] at a1;cases a1
  |lt=>
   have:Qb7 x z=.lt:=QxL (a:=Qb7 x y) a1 (λq=>by
    rw[<- Qd7 x z] at q;rw[<- Qd7 x y];exact Qhe y z x a2 q) e1
   rw[this];rfl
  |eq=>
   cases e2:Qb7 y z with
   |gt=>rw[e2] at a2;cases a2
   |lt=>
    have:Qb7 x z=.lt:=QxL (a:=Qb7 y z) a2 (λq=>by
     rw[<- Qd7 x z] at q;rw[<- Qd7 y z];exact Qhe z x y q a1) e2
    rw[this];rfl
   |eq=>
    rw[e1] at h1;rw[e2] at h2;cases e3:Qb7 x z with
    |gt=>rw[e3] at a3;cases a3
    |lt=>rfl
    |eq=>exact QkX xs ys zs h1 h2
 termination_by x y z=>sizeOf x+sizeOf y+sizeOf z
end
theorem QxX(o:Ordering):isL (sw o) = !Qgi o:=by cases o<;>rfl
theorem QnB(x y:Qa):ltD y x = !Qgi (Qb7 x y):=by unfold ltD;rw[Qd7 x y,QxX]
theorem Qky(x y:Qa)(h:ltD x y=true):ltD y x=false:=by
 rw[QnB];unfold ltD at h;cases e:Qb7 x y<;>rw[e] at h<;>first | rfl | cases h
theorem QxJ(x y z:Qa)(h1:ltD y x=false)(h2:ltD z y=false):ltD z x=false:=by
 rw[QnB] at h1 h2 ⊢;rw[Qhe x y z (by simpa using h1) (by simpa using h2)];rfl
mutual
def QiO:Qa->Qa->Bool
 |.int _,.int _=>true
 |.tuple a,.tuple b=>Qci a b
 |_,_=>false
def Qci:List Qa->List Qa->Bool
 |x::xs,y::ys=>QiO x y&&Qci xs ys
 |_,_=>true
end
def isE:Ordering->Bool
 |.eq=>true
 |_=>false
theorem Qu9(a b:Ordering):isE (thn a b)=(isE a&&isE b):=by cases a<;>rfl
mutual
theorem Qn6:∀(x y:Qa),QiO x y=true->Ju x y=isE (Qb7 x y)
 |.int i,.int j,_=>by
  show(i == j)=isE (Qfu i j);unfold Qfu;by_cases h:i=j
  ·subst h;simp[isE]
  ·rw[beq_eq_false_iff_ne.mpr h];split
   ·rfl
   ·rfl
 |.tuple a,.tuple b,h=>Qn4 a b h
 |.int _,.tuple _,h=>by cases h
 |.tuple _,.int _,h=>by cases h
 |.int _,.none,h=>by cases h
 |.int _,.bool _,h=>by cases h
 |.int _,.str _,h=>by cases h
 |.int _,.list _,h=>by cases h
 |.int _,.dict _,h=>by cases h
 |.tuple _,.none,h=>by cases h
 |.tuple _,.bool _,h=>by cases h
 |.tuple _,.str _,h=>by cases h
 |.tuple _,.list _,h=>by cases h
 |.tuple _,.dict _,h=>by cases h
 |.none,y,h=>by cases y<;>cases h
 |.bool _,y,h=>by cases y<;>cases h
 |.str _,y,h=>by cases y<;>cases h
 |.list _,y,h=>by cases y<;>cases h
 |.dict _,y,h=>by cases y<;>cases h
theorem Qn4:∀(xs ys:List Qa),Qci xs ys=true->Qea xs ys=isE (Qbj xs ys)
 |[],[],_=>rfl
 |[],_::_,_=>rfl
 |_::_,[],_=>rfl
 |x::xs,y::ys,h=>by
  have h:=QJ.mp (show(QiO x y&&Qci xs ys)=true from h);show(Ju x y&&Qea xs ys)=isE (thn (Qb7 x y) (Qbj xs ys));rw[Qn6 x y h.1,Qn4 xs ys h.2,Qu9]
end
end Dl
namespace Rt
open PySem.Calls Dl
theorem Qfq:∀{ds:List Qa}{d:Qa},d∈ds->d.depth<=Q2 ds
 |x::ds,d,h=>by
  show d.depth<=max x.depth (Q2 ds);rcases Qp.mp h with z | z
  ·subst z;exact Nat.le_max_left _ _
  ·exact Q7 (Qfq z) (Qgy _ _)
theorem readsAll_len{h:Heap}:∀{vs:List Value}{ds:List Qa}{as:List Addr},Y9 h vs ds as->vs.length=ds.length
 |_,_,_,.nil=>rfl
 |_,_,_,.cons _ r=>by rw[Qt,Qt,readsAll_len r]
section
open PySem.SeqAt
open PySem.AutoSeq1 (wpAny_loadPart')
open PySem.MeetsSeq PySem.MeetsSeq2 PySem.MeetsSeq3
theorem Qee{l b:Addr}{items items2:Array Value}{n n2:Nat}{dd dd2:Option Addr}{sl sl2:Array (Option Value)}{ds es:List Qa}{as bs:List Addr}{N:Nat}(hk:Qci ds es=true)(hc1:Jg ds=true)(hc2:Jg es=true)(hd:Q2 ds<=N)
  (ih:∀(x y:Qa)(A:Jb)(s:Shared)(v u:Value)(p q:List Addr),QbD s.heap v x p->QbD s.heap u y q->x.canLay0=true->y.canLay0=true->QiO x y=true->x.depth<=N->A.units+2*N+2<cLine->∀(prog:Qz)(w:Ji)(E Q:Value->Shared->Prop),Q (.bool (ltD x y)) s->wpAny (model prog w) A (richCompare .Lt v u) Q E s) :
  Meets (Yz.«tuple.__lt__» ⟨[.ref l,.ref b],[]⟩)
   (λA R s=>s.heap.get? l=some { cls:=.type "tuple",dict:=dd,data:=.seq items n,slots:=sl }/\s.heap.get? b=some { cls:=.type "tuple",dict:=dd2,data:=.seq items2 n2,slots:=sl2 }/\Y9 s.heap items.toList ds as/\Y9 s.heap items2.toList es bs/\A.units+2*N+4<cLine /\
    R (.ok (.ret (.bool (QuY ds es)))) s):=
 .of_wp λprog w A R s h=>by
  obtain⟨hp,g,d,tk,os⟩:=s;obtain⟨hl,hb,hr1,hr2,hu,h⟩:=h;have f2:=AutoSeq1.sub_tuple_tuple;have hu1:A.in1.units+2*N+2<cLine:=by show A.units+1+2*N+2<cLine;omega
  have z1:items.size=ds.length:=by rw[<- readsAll_len hr1];simp
  have z2:items2.size=es.length:=by rw[<- readsAll_len hr2];simp
  wp_walk using QaV hl,QaV hb,ZB _ (λrest b s'=>b.1=none/\s'=⟨hp,g,d,tk,os⟩/\∃(vs ws:List Value)(xs ys:List Qa)(p q:List Addr),rest=vs.zip ws /\
   Y9 hp vs xs p/\Y9 hp ws ys q/\Qci xs ys=true/\Jg xs=true/\Jg ys=true/\Q2 xs<=N/\xs.length+items2.size=ys.length+items.size/\R (.ok (.ret (.bool (QuY xs ys)))) ⟨hp,g,d,tk,os⟩) _
  case turn=>
   rintro⟨y,x⟩ rest b s' ⟨hb',rfl,vs,ws,xs,ys,p,q,hz,hvi,hwi,hkk,c1,c2,hdd,hlen,hR⟩;cases hvi with
   |nil=>rw[List.zip_nil_left] at hz;cases hz
   |@cons v0 vs0 d1 ds1 as1 as2 r1 hvi'=>
    cases hwi with
    |nil=>rw[List.zip_nil_right] at hz;cases hz
    |@cons u0 us0 d2 ds2 bs1 bs2 r2 hwi'=>
     rw[QbP] at hz;injection hz with hyx hrest
     injection hyx with hy hx
     subst hy hx;have hkk:=QJ.mp (show(QiO d1 d2&&Qci ds1 ds2)=true from hkk);simp only[Jg,JS] at c1 c2;have dm1:d1.depth<=N:=Q7 (Qfq (ds:=d1::ds1) (.head _)) hdd;have dm2:Q2 ds1<=N:=Q7 (show Q2 ds1<=max d1.depth (Q2 ds1) from Qgy _ _) hdd;simp only[Qt] at hlen;have he:=QfD d1 d2 A.in1 ⟨hp,g,d,tk,os⟩ y x _ _ r1 r2 c1.1 c2.1 (by omega);have hR:R (.ok (.ret (.bool (isL (thn (Qb7 d1 d2) (Qbj ds1 ds2)))))) ⟨hp,g,d,tk,os⟩:=hR;rw[Qn6 d1 d2 hkk.1] at he;have hri:=λE Q=>ih d1 d2 A.in1 ⟨hp,g,d,tk,os⟩ y x _ _ r1 r2 c1.1 c2.1 hkk.1 dm1 hu1 prog w E Q
     unfold ltD at hri;cases e1:Qb7 d1 d2 with
     |lt=>
      rw[e1] at he hR hri;refine wpAny_bind (he prog w _ _ ?_)
      wp_walk using hri
      exact⟨_,rfl,hR⟩
     |gt=>
      rw[e1] at he hR hri;refine wpAny_bind (he prog w _ _ ?_)
      wp_walk using hri
      exact⟨_,rfl,hR⟩
     |eq=>
      rw[e1] at he hR;refine wpAny_bind (he prog w _ _ ?_)
      wp_walk
      exact⟨rfl,rfl,_,_,_,_,_,_,hrest,hvi',hwi',hkk.2,c1.2,c2.2,dm2,by omega,hR⟩
  case fin=>
   rintro⟨b1,b2⟩ s' ⟨hb',rfl,vs,ws,xs,ys,p,q,hz,hvi,hwi,hkk,c1,c2,hdd,hlen,hR⟩;simp only at hb';subst hb';have hv:QuY xs ys=decide (items.size<items2.size):=by
    cases hvi with
    |nil=>
     cases hwi with
     |nil=>
      simp only[Qc5] at hlen;exact(decide_eq_false (by omega)).symm
     |cons r2 hw=>
      simp only[Qc5,Qt] at hlen;exact(decide_eq_true (by omega)).symm
    |cons r1 hv=>
     cases hwi with
     |nil=>
      simp only[Qc5,Qt] at hlen;exact(decide_eq_false (by omega)).symm
     |cons r2 hw=>
      rw[QbP] at hz;cases hz
   rw[hv] at hR
   wp_walk
   exact⟨_,rfl,by simpa [Qzu] using hR⟩
  case h=>
   exact⟨rfl,rfl,items.toList,items2.toList,ds,es,as,bs,rfl,hr1,hr2,hk,hc1,hc2,hd,by omega,h⟩
end
end Rt
namespace Rt
open PySem.Calls PySem.W Dl
mutual
def okK:Qa->Bool
 |.int _=>true
 |.tuple ds=>Qc9 ds
 |_=>false
def Qc9:List Qa->Bool
 |[]=>true
 |d::ds=>okK d&&Qc9 ds
end
mutual
theorem QdY{h h':Heap}(k:∀b o,h.get? b=some o->h'.get? b=some o):∀(d:Qa)(v:Value)(as:List Addr),okK d=true->QbD h v d as->QbD h' v d as
 |.int _,_,_,_,.int i t=>.int i t
 |.tuple ds,_,_,hk,.tuple (vs:=vs) e c d r=>.tuple (k _ _ e) c d (QaY k ds _ _ hk r)
 |.none,_,_,hk,_=>by cases hk
 |.bool _,_,_,hk,_=>by cases hk
 |.str _,_,_,hk,_=>by cases hk
 |.list _,_,_,hk,_=>by cases hk
 |.dict _,_,_,hk,_=>by cases hk
theorem QaY{h h':Heap}(k:∀b o,h.get? b=some o->h'.get? b=some o):∀(ds:List Qa)(vs:List Value)(as:List Addr),Qc9 ds=true->Y9 h vs ds as->Y9 h' vs ds as
 |[],_,_,_,.nil=>.nil
 |d::ds,_,_,hk,.cons r rs=>by
  have hk:=QJ.mp (show(okK d&&Qc9 ds)=true from hk);exact .cons (QdY k d _ _ hk.1 r) (QaY k ds _ _ hk.2 rs)
end
theorem QtK:∀(N:Nat)(x y:Qa)(A:Jb)(s:Shared)(v u:Value)(p q:List Addr),QbD s.heap v x p->QbD s.heap u y q->x.canLay0=true->y.canLay0=true->QiO x y=true->x.depth<=N->A.units+2*N+2<cLine->∀(prog:Qz)(w:Ji)(E Q:Value->Shared->Prop),Q (.bool (ltD x y)) s->wpAny (model prog w) A (richCompare .Lt v u) Q E s:=by
 intro N;have intz:∀(i j:Int)(A:Jb)(s:Shared)(v u:Value)(p q:List Addr),QbD s.heap v (.int i) p->QbD s.heap u (.int j) q->∀(prog:Qz)(w:Ji)(E Q:Value->Shared->Prop),Q (.bool (ltD (.int i) (.int j))) s->wpAny (model prog w) A (richCompare .Lt v u) Q E s:=by
  intro i j A s v u p q r1 r2 prog w E Q h;cases r1;cases r2;refine HT.QpE A s i _ j _ prog w E Q ?_
  have e:ltD (.int i) (.int j)=decide (i<j):=by
   show isL (Qfu i j)=_;unfold Qfu;by_cases z:i<j
   ·rw[if_pos z,decide_eq_true z];rfl
   ·rw[if_neg z,decide_eq_false z];split<;>rfl
  rw[e] at h;exact h
 induction N with
 |zero=>
  intro x y A s v u p q r1 r2 c1 c2 hk hd hu prog w E Q h;cases x<;>cases y<;>first | (cases hk;done) | skip
  ·exact intz _ _ A s v u p q r1 r2 prog w E Q h
  ·unfold YU at hd;omega
 |succ N ih=>
  intro x y A s v u p q r1 r2 c1 c2 hk hd hu prog w E Q h;cases x<;>cases y<;>first | (cases hk;done) | skip
  ·exact intz _ _ A s v u p q r1 r2 prog w E Q h
  ·rename_i ds es
   cases r1 with
   |@tuple a o vs n _ _ ho hc hd' ra=>
    cases r2 with
    |@tuple b o2 vs2 n2 _ _ ho2 hc2 hd2 rb=>
     obtain⟨cls,dd,data,sl⟩:=o;obtain⟨cls2,dd2,data2,sl2⟩:=o2;simp only at hc hd' hc2 hd2;subst hc hd' hc2 hd2;have dd3:Q2 ds<=N:=by unfold YU at hd;omega
     exact richCompare_meets_room (op:=.Lt) ⟨_,ho,rfl⟩ ⟨_,ho2,rfl⟩ PySem.F.slot_tuple_lt PySem.F.entry_tuple_lt (PySem.F.args_tuple_lt_2 _ _) (Qee (N:=N) hk c1 c2 dd3 ih)
      ⟨ho,ho2,ra,rb,by omega,show QaQ (QuY ds es)≠Value.notImplemented/\Q (.bool (QuY ds es)) s from⟨(λx=>nomatch x),h⟩⟩ (by omega)
theorem Qlz{N:Nat}{ds es:List Qa}{A:Jb}{s:Shared}{v u:Value}{p q:List Addr}(r1:QbD s.heap v (.tuple ds) p)(r2:QbD s.heap u (.tuple es) q)(c1:Jg ds=true)(c2:Jg es=true)(hk:Qci ds es=true)(hd:Q2 ds<=N)(hu:A.units+2*N+4<cLine){prog:Qz}{w:Ji}{E:Value->Shared->Prop}{C:Bool->Shared->Prop}(h:C (QuY ds es) s):wpAny (model prog w) A (oneLt' true v u) C E s:=by
 cases r1 with
 |@tuple a o vs n _ _ ho hc hd' ra=>
  cases r2 with
  |@tuple b o2 vs2 n2 _ _ ho2 hc2 hd2 rb=>
   obtain⟨cls,dd,data,sl⟩:=o;obtain⟨cls2,dd2,data2,sl2⟩:=o2;simp only at hc hd' hc2 hd2;subst hc hd' hc2 hd2;rw[oneLt'_eq];simp only[if_true];refine wpAny_bind (wpAny_cRoomFor (by omega) ?_);refine wpAny_bind (wpAny_callSpecialIfBound?_slot ⟨_,ho,rfl⟩ PySem.F.slot_tuple_lt (QhC PySem.F.slot_tuple_lt ⟨_,ho,rfl⟩ PySem.F.entry_tuple_lt (PySem.F.args_tuple_lt_2 _ _) (Qee (N:=N) hk c1 c2 hd λx y=>QtK N x y) ⟨ho,ho2,ra,rb,hu,?_⟩));exact ZL h
section
variable{prog:Qz}{w:Ji}{A:Jb}{E:Value->Shared->Prop}{s:Shared}
theorem QsE{N:Nat}{x y:Qa}{v u:Value}{p q:List Addr}(r1:QbD s.heap v x p)(r2:QbD s.heap u y q)(c1:x.canLay0=true)(c2:y.canLay0=true)(hk:QiO x y=true)(hd:x.depth<=N)(hu:A.units+2*N+2<cLine){C:Bool->Shared->Prop}(h:C (ltD x y) s):wpAny (model prog w) A (oneLt' false v u) C E s:=by
 refine kat_one v u ?_
 exact QtK N x y A s v u p q r1 r2 c1 c2 hk hd hu prog w E _ h
theorem QnC(i j:Int):ltD (.int i) (.int j)=decide (i<j):=by
 show isL (Qfu i j)=_;unfold Qfu;by_cases z:i<j
 ·rw[if_pos z,decide_eq_true z];rfl
 ·rw[if_neg z,decide_eq_false z];split<;>rfl
def Qvd:List Qa->Prop
 |.int _::_=>True
 |_=>False
theorem QsO{b:Bool}{n1 n2 N:Nat}{C:Bool->Shared->Prop}(hu:A.units+2*N+2<cLine):∀(vs us:List Value)(xs ys:List Qa)(p q:List Addr)(i:Nat),Y9 s.heap vs xs p->Y9 s.heap us ys q->Jg xs=true->Jg ys=true->Qci xs ys=true->Q2 xs<=N->(b=true->i=0->Qvd xs)->xs.length+n2=ys.length+n1 ->
  C (QuY xs ys) s->KatLex prog w A b (decide (n1<n2)) C (vs.zip us) i s
 |[],us,xs,ys,p,q,i,r1,r2,c1,c2,hk,hd,hb,hl,h=>by
  cases r1;refine kat_nil ?_
  cases r2 with
  |nil=>rw[show decide (n1<n2)=false from decide_eq_false (by simp at hl;omega)];exact h
  |cons r rs=>rw[show decide (n1<n2)=true from decide_eq_true (by simp at hl;omega)];exact h
 |v::vs,[],xs,ys,p,q,i,r1,r2,c1,c2,hk,hd,hb,hl,h=>by
  cases r2;cases r1;refine kat_nil ?_
  rw[show decide (n1<n2)=false from decide_eq_false (by simp at hl;omega)];exact h
 |v::vs,u::us,xs,ys,p,q,i,r1,r2,c1,c2,hk,hd,hb,hl,h=>by
  cases r1 with
  |@cons _ _ d1 ds1 as1 as2 r1 rs1=>
   cases r2 with
   |@cons _ _ d2 ds2 bs1 bs2 r2 rs2=>
    have hk:=QJ.mp (show(QiO d1 d2&&Qci ds1 ds2)=true from hk);simp only[Jg,JS] at c1 c2;have dm1:d1.depth<=N:=Q7 (Qfq (ds:=d1::ds1) (.head _)) hd;have dm2:Q2 ds1<=N:=Q7 (show Q2 ds1<=max d1.depth (Q2 ds1) from Qgy _ _) hd;have h:C (isL (thn (Qb7 d1 d2) (Qbj ds1 ds2))) s:=h;have one:C (ltD d1 d2) s->wpAny (model prog w) A (oneLt' (b&&i == 0) v u) C (λ_ _=>False) s:=λhc=>by
     cases e:(b&&i == 0) with
     |false=>exact QsE (N:=N) r1 r2 c1.1 c2.1 hk.1 dm1 hu hc
     |true=>
      have e:=QJ.mp e;have hh:=hb e.1 (beq_iff_eq.mp e.2);cases d1<;>first | exact hh.elim | skip
      cases d2<;>first | (cases hk.1;done) | skip
      cases r1;cases r2;rw[QnC] at hc;exact oneLt_int hc
    refine kat_cons (QfD d1 d2 A s v u _ _ r1 r2 c1.1 c2.1 (by omega) prog w _ _ ?_);rw[Qn6 d1 d2 hk.1];cases e1:Qb7 d1 d2 with
    |lt=>rw[e1] at h;exact kat_no (one (by unfold ltD;rw[e1];exact h))
    |gt=>rw[e1] at h;exact kat_no (one (by unfold ltD;rw[e1];exact h))
    |eq=>
     rw[e1] at h;refine kat_yes (QsO hu vs us ds1 ds2 _ _ (i+1) rs1 rs2 c1.2 c2.2 hk.2 dm2 (λ_ z=>by omega) (by simp only[Qt] at hl;omega) h)
def Qr3(ds:List Qa)(κ:Z7):Prop:=κ=general'∨κ=oneType'∨κ=tuples' false∨(κ=tuples' true/\∀d∈ds,∃es,d=.tuple es/\Qvd es)
theorem QxP{N:Nat}{ds:List Qa}{κ:Z7}{x y:Qa}{v u:Value}{p q:List Addr}(su:Qr3 ds κ)(hx:x∈ds)(r1:QbD s.heap v x p)(r2:QbD s.heap u y q)(c1:x.canLay0=true)(c2:y.canLay0=true)(hk:QiO x y=true)(tb:∀b,κ=tuples' b->∃es,x=.tuple es)(hd:x.depth<=N)(hu:A.units+2*N+4<cLine){C:Bool->Shared->Prop}(h:C (ltD x y) s) :
  wpAny (model prog w) A (keyLt' κ v u) C E s:=by
 have tup:∀b,κ=tuples' b->(b=true->∃es,x=.tuple es/\Qvd es)->wpAny (model prog w) A (keyLt' κ v u) C E s:=λb hb hh=>by
  subst hb;obtain⟨es,rfl⟩:=tb b rfl;cases y<;>first | (cases hk;done) | skip
  rename_i fs
  cases r1 with
  |@tuple a o vs n _ _ ho hc hd' ra=>
   cases r2 with
   |@tuple b2 o2 vs2 n2 _ _ ho2 hc2 hd2 rb=>
    have dd3:Q2 es<=N:=by unfold YU at hd;omega
    refine kat_lt ho hd' ho2 hd2 (QsO (N:=N) (by omega) _ _ es fs _ _ 0 ra rb c1 c2 hk dd3 (λe _=>?_) ?_ h)
    ·obtain⟨es',e',hh⟩:=hh e;cases e';exact hh
    ·have e1:=readsAll_len ra;have e2:=readsAll_len rb;rw[Qc] at e1 e2;omega
 rcases su with rfl | rfl | rfl | ⟨rfl,hall⟩
 ·exact QsE (N:=N) r1 r2 c1 c2 hk hd (by omega) h
 ·cases x<;>cases y<;>first | (cases hk;done) | skip
  ·cases r1;cases r2;rw[QnC] at h;exact oneLt_int h
  ·have dd3:∀{es:List Qa},(Yp es).depth<=N->Q2 es<=N:=λ{es} h=>by unfold YU at h;omega
   exact Qlz (N:=N) r1 r2 c1 c2 hk (dd3 hd) hu h
 ·exact tup false rfl λe=>by cases e
 ·exact tup true rfl λ_=>hall x hx
end
section
variable{M:Qzm}{A:Jb}{E:Value->Shared->Prop}{s:Shared}
theorem Qgd{α β:Type}{f:α->Sem β}{g:α->β}:∀(l:List α){Q:List β->Shared->Prop},(∀v∈l,∀(Q':β->Shared->Prop),Q' (g v) s->wpAny M A (f v) Q' E s)->Q (l.map g) s->wpAny M A (l.mapM f) Q E s
 |[],_,_,h=>by rw[List.mapM_nil];exact Qb h
 |x::l,Q,hf,h=>by
  rw[List.mapM_cons];exact wpAny_bind (hf x (.head _) _ (wpAny_bind (Qgd l (Q:=λbs s'=>wpAny M A (pure (g x::bs)) Q E s') (λv hv=>hf v (.tail _ hv)) (Qb h))))
end
def QiN(h:Heap)(v:Value):Option Value:=match v with
 |.ref a=>(match h.get? a with
  |some o=>(match o.data with
   |.seq xs _=>xs[0]?
   |_=>none)
  |none=>none)
 |_=>none
def tyV(h:Heap)(v:Value):Value:=match v with
 |.int _ _=>.type "int"
 |.ref a=>(match h.get? a with
  |some o=>o.cls
  |none=>.none)
 |_=>.none
theorem Qab:∀{ds:List Qa},Qc9 ds=true->∀d∈ds,okK d=true
 |x::ds,h,d,hd=>by
  have h:=QJ.mp (show(okK x&&Qc9 ds)=true from h);rcases Qp.mp hd with z | z
  ·rw[z];exact h.1
  ·exact Qab h.2 d z
theorem Qnp:∀{ds:List Qa},(∀d∈ds,okK d=true)->Qc9 ds=true
 |[],_=>rfl
 |x::ds,h=>by
  show(okK x&&Qc9 ds)=true;rw[h x (.head _),Qnp λd hd=>h d (.tail _ hd)];rfl
theorem ZZ{h:Heap}:∀{vs:List Value}{ds:List Qa}{as:List Addr},Y9 h vs ds as->∀v∈vs,∃d∈ds,∃bs,QbD h v d bs
 |_,_,_,.cons (d:=d) r rs,v,hv=>by
  rcases Qp.mp hv with z | z
  ·rw[z];exact⟨d,.head _,_,r⟩
  ·obtain⟨d',hd,bs,r'⟩:=ZZ rs v z;exact⟨d',.tail _ hd,bs,r'⟩
theorem Qdm{h:Heap}:∀{vs:List Value}{ds:List Qa}{as:List Addr},Y9 h vs ds as->∀d∈ds,∃v∈vs,∃bs,QbD h v d bs
 |_,_,_,.cons (d:=d) (v:=v) r rs,d',hd=>by
  rcases Qp.mp hd with z | z
  ·rw[z];exact⟨v,.head _,_,r⟩
  ·obtain⟨v',hv,bs,r'⟩:=Qdm rs d' z;exact⟨v',.tail _ hv,bs,r'⟩
section
variable{prog:Qz}{w:Ji}{A:Jb}{E:Value->Shared->Prop}{s:Shared}
theorem QiZ{v:Value}{d:Qa}{bs:List Addr}(r:QbD s.heap v d bs)(hk:okK d=true){Q:Value->Shared->Prop}(q:Q (tyV s.heap v) s):wpAny (model prog w) A (typeOf v) Q E s:=by
 cases r<;>first | (cases hk;done) | skip
 ·exact Qb q
 ·rename_i a o vs n xs ho hc hd ra
  refine wpAny_typeOf_ref ho ?_
  have e:tyV s.heap (.ref a)=o.cls:=by unfold tyV;simp only[ho]
  rw[e] at q;exact q
theorem QkF{vs:List Value}{ds:List Qa}{as:List Addr}{Q:Z7->Shared->Prop}(ra:Y9 s.heap vs ds as)(hk:Qc9 ds=true)(ht:∀d∈ds,∃es,d=.tuple es)(h:∀κ,Qr3 ds κ->Q κ s):wpAny (model prog w) A (keyKind' vs.toArray) Q E s:=by
 have rd:=ZZ ra;have fs:∀v∈vs,∀(Q':Option Value->Shared->Prop),Q' (QiN s.heap v) s->wpAny (model prog w) A (firstOfTuple' v) Q' E s:=λv hv Q' q=>by
  obtain⟨d,hd,bs,r⟩:=rd v hv;obtain⟨es,rfl⟩:=ht d hd;cases r with
  |@tuple a o xs n _ _ ho hc hd' r'=>
   rw[kas_first_eq];refine wpAny_bind (wpAny_typeOf_ref ho ?_);rw[hc];rw[if_neg (by decide)];refine wpAny_bind (Qs9 ho hd' (Qb ?_));have e:QiN s.heap (.ref a)=xs[0]? := by unfold QiN;simp only[ho,hd']
   rw[<- e];exact q
 rw[keyKind'_eq,QaT,map_eq_pure_bind];refine wpAny_bind (wpAny_bind (Qgd (g:=QiN s.heap) vs fs (Qb ?_)));by_cases z:((vs.map (QiN s.heap)).toArray.all λx=>x.isSome)=true
 ·rw[if_pos z];refine wpAny_bind (wpAny_rule ?_);have hfm:((vs.map (QiN s.heap)).toArray.filterMap id)=(vs.filterMap (QiN s.heap)).toArray:=by simp[QbQ]
  have heads:∀u∈vs.filterMap (QiN s.heap),∃d bs,QbD s.heap u d bs/\okK d=true:=λu hu=>by
   obtain⟨v,hv,e⟩:=Z9.mp hu;obtain⟨d,hd,bs,r⟩:=rd v hv;obtain⟨es,rfl⟩:=ht d hd;have ko:=Qab hk _ hd;cases r with
   |@tuple a o xs n _ _ ho hc hd' r'=>
    have e2:QiN s.heap (.ref a)=xs[0]? := by unfold QiN;simp only[ho,hd']
    rw[e2] at e;have hm:u∈xs.toList:=by rw[<- Q5] at e;exact QQ e
    obtain⟨d2,hd2,bs2,r2⟩:=ZZ r' u hm;exact⟨d2,bs2,r2,Qab ko _ hd2⟩
  rw[hfm,Qk5,QaT,map_eq_pure_bind];refine wpAny_bind (wpAny_bind (wpAny_bind (Qgd (g:=tyV s.heap) _ (λu hu Q' q=>?_) (Qb ?_))))
  ·obtain⟨d,bs,r,ko⟩:=heads u hu;exact QiZ r ko q
  ·have fin:∀o:Option Value,(o.any (· != ZM "tuple")=true->∀u∈vs.filterMap (QiN s.heap),tyV s.heap u≠ZM "tuple")->Q (tuples' (o.any (· != ZM "tuple"))) s:=λo ho=>by
    cases e:o.any (· != ZM "tuple") with
    |false=>exact h _ (.inr (.inr (.inl rfl)))
    |true=>
     refine h _ (.inr (.inr (.inr ⟨rfl,λd hd=>?_⟩)));obtain⟨es,rfl⟩:=ht d hd;obtain⟨v,hv,bs,r⟩:=Qdm ra _ hd;refine⟨es,rfl,?_⟩;have ko:=Qab hk _ hd;cases r with
     |@tuple a oo xs n _ _ ho' hc hd' r'=>
      have e2:QiN s.heap (.ref a)=xs[0]? := by unfold QiN;simp only[ho',hd']
      have some1:(QiN s.heap (.ref a)).isSome=true:=by
       have z':=QeD.mp z (QiN s.heap (QK a)) (by simp;exact⟨_,hv,rfl⟩);exact z'
      rw[e2] at some1;obtain⟨u,hu⟩:=QhG.mp some1;have hl:=(Z3.mp hu).1;have nt:=ho e u (Z9.mpr ⟨_,hv,by rw[e2];exact hu⟩);have hu':xs.toList[0]? = some u:=by rw[Q5];exact hu
      cases hx:xs.toList with
      |nil=>rw[hx] at hu';cases hu'
      |cons u0 us=>
       rw[hx] at hu' r';have e0:u0=u:=by simpa using hu'
       subst e0;cases r' with
       |@cons _ _ d1 ds1 as1 as2 r1 rs1=>
        have ko1:=(QJ.mp (show(okK d1&&Qc9 ds1)=true from ko)).1;cases r1<;>first | (cases ko1;done) | skip
        ·trivial
        ·rename_i a2 o2 vs2 n2 xs2 ho2 hc2 hd2 ra2
         exfalso
         apply nt
         unfold tyV;simp only[ho2];exact hc2
   cases hg:((vs.filterMap (QiN s.heap)).map (tyV s.heap)).toArray[0]? with
   |none=>exact Qb (Qb (fin none λe=>by cases e))
   |some t=>
    dsimp only
    refine Qb (Qb (fin _ λe u hu=>?_));split at e
    ·rename_i hall
     have ne:(t != ZM "tuple")=true:=e;have te:(tyV s.heap u == t)=true:=by
      have:=QeD.mp hall (tyV s.heap u) (by simp;exact⟨u,by simpa using Z9.mp hu,rfl⟩);exact this
     rw[eq_of_beq te]
     simpa using ne
    ·cases e
 ·rw[if_neg z];split
  ·exact Qb (h _ (.inl rfl))
  ·rw[Qk5,QaT,map_eq_pure_bind];refine wpAny_bind (wpAny_bind (wpAny_bind (Qgd (g:=tyV s.heap) _ (λv hv Q' q=>?_) (Qb ?_))))
   ·obtain⟨d,hd,bs,r⟩:=rd v hv;exact QiZ r (Qab hk _ hd) q
   ·have fin:∀b:Bool,wpAny (model prog w) A (pure (if b=true then oneType' else general')) Q E s:=λb=>by
     cases b
     ·exact Qb (h _ (.inl rfl))
     ·exact Qb (h _ (.inr (.inl rfl)))
    split
    ·exact Qb (fin _)
    ·exact Qb (fin _)
end
end Rt
namespace Rt
open PySem.Calls PySem.W Dl Rs
section
variable{prog:Qz}{w:Ji}{A:Jb}{E:Value->Shared->Prop}{s:Shared}
def prs(vs:List Value):Array Keyed:=vs.toArray.zip vs.toArray
theorem QeL(vs:List Value):(prs vs).toList=vs.zip vs:=by unfold prs;rw[Qsg]
theorem QtZ(vs:List Value):(prs vs).toList.map (·.2)=vs:=by rw[QeL];exact Qti (Qi _)
theorem Qdi:∀{vs:List Value}{p:Keyed},p∈vs.zip vs->p.1=p.2/\p.2∈vs
 |v::vs,p,h=>by
  rw[QbP] at h;rcases Qp.mp h with z | z
  ·rw[z];exact⟨rfl,.head _⟩
  ·exact⟨(Qdi z).1,.tail _ (Qdi z).2⟩
theorem Qg3{a:Addr}{vs:List Value}{n:Nat}{P:PySem.Fin->Shared->Prop}(ho:s.heap.get? a=some (seqObj "list" vs.toArray n))(hz:vs.length<=sizeLine){c:Keyed->Keyed->Bool}(oc:Ord c)
  (hkind:∀h':Heap,Kept a s.heap h'->∀(Q':Z7->Shared->Prop)(E':Value->Shared->Prop),(∀κ,Asks prog w A { s with heap:=h' } κ (prs vs) c->Q' κ { s with heap:=h' })->wpAny (model prog w) A (keyKind' vs.toArray) Q' E' { s with heap:=h' })
  (h:∀arr:Array Keyed,arr.Perm (prs vs)->Sg c arr 0 arr.size->∀(h':Heap)(e:Nat),Kept a s.heap h'->h'.get? a=some (seqObj "list" (arr.toList.map (·.2)).toArray e)->P (.done (.ret .none)) { s with heap:=h' }) :
  wpAny (model prog w) A (Yz.«list.sort» ⟨[.ref a],[]⟩) P E s:=by
 have ha:a<s.heap.objs.size:=Qo ho;obtain⟨e1,ho1⟩:∃e1,(s.heap.update a (J6 λ_=>(#[]:Array Value))).get? a=some (seqObj "list" #[] e1):=⟨_,Qb1 ho λ_=>#[]⟩
 have K3:Kept a s.heap (((s.heap.update a (J6 λ_=>(#[]:Array Value))).push (seqObj "tuple" vs.toArray 0)).push (seqObj "list" #[] 0)):=(Qcp _).trans ((Qdq _).trans (Qdq _));have ho6:(((s.heap.update a (J6 λ_=>(#[]:Array Value))).push (seqObj "tuple" vs.toArray 0)).push (seqObj "list" #[] 0)).get? a=some (seqObj "list" #[] e1):=Qe _ (Qe _ ho1);rw[list_sort_plain];refine wpAny_bind (Qs9 ho rfl ?_);refine wpAny_bind (QbN ho rfl ?_ (by rw[Ql];exact hz) (Qr _));refine wpAny_bind (Qdb ho1 rfl ?_);refine wpAny_bind (Ql0 ?_ (by show vs.length<=_;exact hz));refine wpAny_bind (Qgs ?_ (Qr _));refine JY ?_
 show wpAny (model prog w) A _ P E { s with heap:=((s.heap.update a (J6 λ_=>(#[]:Array Value))).push (seqObj "tuple" vs.toArray 0)).push (seqObj "list" #[] 0) }
 dsimp only
 generalize (((s.heap.update a (J6 λ_=>(#[]:Array Value))).push (seqObj "tuple" vs.toArray 0)).push (seqObj "list" #[] 0))=h3 at K3 ho6 ⊢;have out:∀arr:Array Keyed,arr.map (·.2)=(arr.toList.map (·.2)).toArray:=λarr=>by
  apply Qco.mp
  rw[Qsh]
 have psz:(prs vs).size=vs.length:=by rw[<- Qc,QeL,List.length_zip,Nat.min_self]
 by_cases h2:vs.toArray.size<2
 ·rw[if_pos h2,if_pos h2];refine wpAny_bind (Qb ?_);rw[Qr9];refine wpAny_bind (Qb ?_)
  dsimp only
  have f:Sg c (prs vs) 0 (prs vs).size:=λi j _ hij hj=>by
   rw[psz] at hj;rw[Ql] at h2;rw[show i=j by omega];exact oc.irr _
  refine wpAny_bind (Qdb ho6 rfl ?_);refine wpAny_bind (QbN ho6 rfl ?_ (Qr _) (by rw[QdH];show(prs vs).size<=_;rw[(QeE (prs vs)).size_eq,psz];omega));simp only[bne_self_eq_false,Jn,if_false];show wpAny _ _ (ret Jw) _ _ { s with heap:=h3.update a (J6 λ_=>Array.map (λx=>x.snd) (prs vs)) };rw[out];exact Qb (h (prs vs) (QeE (prs vs)) (f) _ _ (K3.trans (Qcp _)) (Qb1 ho6 λ_=>_))
 ·rw[if_neg h2,if_neg h2];refine wpAny_bind (hkind h3 K3 _ _ λκ hA=>?_);refine wpAny_bind (wpAny_mono (QiV (a₀:=prs vs) (κ:=κ) (st:=QoQ κ (prs vs) #[] 7 none) (Q:=λ_ st'=>SB κ (prs vs) st'/\Sg c (arrOf st') 0 (prs vs).size) hA ⟨QeE _,rfl,rfl⟩ rfl λst' b g=>⟨b,g⟩) ?_ λ_ _ e=>e);rintro⟨⟨⟩,st'⟩ s' ⟨rfl,b,g⟩
  dsimp only
  rw[b.failed];have g2:Sg c (arrOf st') 0 (arrOf st').size:=by rw[b.size];exact g
  refine wpAny_bind (Qdb ho6 rfl ?_);refine wpAny_bind (QbN ho6 rfl ?_ (Qr _) (by rw[QdH];show(arrOf st').size<=_;rw[(b.perm).size_eq,psz];omega));simp only[bne_self_eq_false,Jn,if_false];show wpAny _ _ (ret Jw) _ _ { s with heap:=h3.update a (J6 λ_=>Array.map (λx=>x.snd) (arrOf st')) };rw[out];exact Qb (h (arrOf st') (b.perm) (g2) _ _ (K3.trans (Qcp _)) (Qb1 ho6 λ_=>_))
open Classical in
noncomputable def rdV (h:Heap) (v:Value):Qa:=if q:∃d as,QbD h v d as/\d.canLay0=true then q.choose else .none
theorem QmN{h:Heap}{v:Value}{d:Qa}{as:List Addr}(r:QbD h v d as)(c:d.canLay0=true):rdV h v=d:=by
 unfold rdV;have q:∃d as,QbD h v d as/\d.canLay0=true:=⟨d,as,r,c⟩
 rw[dif_pos q];obtain⟨as',r',c'⟩:=q.choose_spec;exact(Qbd d _ v as as' c r r').symm
theorem Qei{α β:Type}(f:α->β){l m:List β}(p:l.Perm m):∀{T:List α},m=T.map f->∃T':List α,T'.Perm T/\l=T'.map f:=by
 induction p with
 |nil=>intro T e;exact⟨T,Z2 _,e⟩
 |@cons x l1 l2 _ ih=>
  intro T e;cases T with
  |nil=>cases e
  |cons t T=>
   rw[JI] at e;injection e with e1 e2
   obtain⟨T',p',e'⟩:=ih e2;exact⟨t::T',p'.cons t,by rw[JI,<- e1,<- e']⟩
 |@swap x y l=>
  intro T e;cases T with
  |nil=>cases e
  |cons t T=>
   cases T with
   |nil=>rw[JI] at e;injection e with e1 e2;cases e2
   |cons t2 T=>
    rw[JI,JI] at e;injection e with e1 e2
    injection e2 with e3 e4
    exact⟨t2::t::T,QfH t t2 T,by rw[JI,JI,<- e1,<- e3,<- e4]⟩
 |@trans l1 l2 l3 _ _ ih1 ih2=>
  intro T e;obtain⟨T2,p2,e2⟩:=ih2 e;obtain⟨T1,p1,e1⟩:=ih1 e2;exact⟨T1,p1.trans p2,e1⟩
end
mutual
theorem Qon:∀(d:Qa),QiO d d=true->okK d=true
 |.int _,_=>rfl
 |.tuple ds,h=>QkW ds h
 |.none,h=>by cases h
 |.bool _,h=>by cases h
 |.str _,h=>by cases h
 |.list _,h=>by cases h
 |.dict _,h=>by cases h
theorem QkW:∀(ds:List Qa),Qci ds ds=true->Qc9 ds=true
 |[],_=>rfl
 |d::ds,h=>by
  have h:=QJ.mp (show(QiO d d&&Qci ds ds)=true from h);show(okK d&&Qc9 ds)=true;rw[Qon d h.1,QkW ds h.2];rfl
end
mutual
theorem Qd2:∀(d:Qa),okK d=true->d.canLay0=true
 |.int _,_=>rfl
 |.tuple ds,h=>Qkq ds h
 |.none,h=>by cases h
 |.bool _,h=>by cases h
 |.str _,h=>by cases h
 |.list _,h=>by cases h
 |.dict _,h=>by cases h
theorem Qkq:∀(ds:List Qa),Qc9 ds=true->Jg ds=true
 |[],_=>rfl
 |d::ds,h=>by
  have h:=QJ.mp (show(okK d&&Qc9 ds)=true from h);simp only[Jg,Qd2 d h.1,Qkq ds h.2,Bool.and_self]
end
structure Qk1 (ds:List Qa):Prop where
 cmp:∀x∈ds,∀y∈ds,QiO x y=true
 dep:∀x∈ds,x.depth<=20
end Rt
namespace L2
open PySem.Calls _root_.Rd _root_.Rk _root_.Rs Rt Dl
structure Trp where
 x:V
 v:Value
 d:Qa
theorem Qwb{H:Hp}:∀{xs:List V}{ds:List Qa}{vs:List Value},Dats H xs ds->Vals xs vs->∃T:List Trp,xs=T.map (·.x)/\vs=T.map (·.v)/\ds=T.map (·.d)/\∀t∈T,Dat H t.x t.d/\RelV t.x t.v
 |_,_,_,.nil,.nil=>⟨[],rfl,rfl,rfl,λ_ h=>nomatch h⟩
 |_,_,_,.cons q qs,.cons r rs=>by
  obtain⟨T,e1,e2,e3,h⟩:=Qwb qs rs;refine⟨⟨_,_,_⟩::T,by rw[e1];rfl,by rw[e2];rfl,by rw[e3];rfl,λt ht=>?_⟩;rcases Qp.mp ht with z | z
  ·rw[z];exact⟨q,r⟩
  ·exact h t z
theorem Qsi{H:Hp}:∀{T:List Trp},(∀t∈T,Dat H t.x t.d/\RelV t.x t.v)->Dats H (T.map (·.x)) (T.map (·.d))/\Vals (T.map (·.x)) (T.map (·.v))
 |[],_=>⟨.nil,.nil⟩
 |t::T,h=>by
  obtain⟨a,b⟩:=Qsi (T:=T) λt ht=>h t (.tail _ ht)
  exact⟨.cons (h t (.head _)).1 a,.cons (h t (.head _)).2 b⟩
section
variable{X:Cx}
end
end L2
namespace Dl
open L2 _root_.Rd Rk Rt
theorem Qyd{A:Addr->Prop}{H:Hp}{xs:List V}{ds:List Qa}(q:DAs A H xs ds){v:V}(hv:v∈xs):∃d∈ds,DA A H v d:=by
 obtain⟨i,hi⟩:=ZJ.mp hv;obtain⟨d,hd,h⟩:=q.getV i v hi;exact⟨d,QQ hd,h⟩
theorem Qim{A:Addr->Prop}{H:Hp}:∀{ys:List V}{es:List Qa},Dats H ys es->(∀y∈ys,∃d,DA A H y d/\nd d=true/\d.canLay0=true/\Dat H y d)->(∀y d e,y∈ys->Dat H y d->Dat H y e->d=e)->DAs A H ys es
 |_,_,.nil,_,_=>.nil
 |_,_,.cons (x:=x) (d:=d) q qs,h,u=>by
  obtain⟨d',h1,_,_,h4⟩:=h x (.head _);have:d=d':=u x d d' (.head _) q h4;subst this;exact .cons h1 (Qim qs (λy hy=>h y (.tail _ hy)) λy d e hy=>u y d e (.tail _ hy))
mutual
theorem QkP{H:Hp}:∀(d e:Qa)(x:V),Dat H x d->Dat H x e->d=e
 |.none,e,_,.non,h=>by cases h;rfl
 |.bool _,e,_,.bl _,h=>by cases h;rfl
 |.int _,e,_,.int _,h=>by cases h;rfl
 |.str _,e,_,.str _ _,h=>by cases h;rfl
 |.tuple ds,e,_,.tup (xs:=xs) e1 q,h=>by
  cases h with
  |@tup a ys es e2 q'=>
   rw[e1] at e2;cases e2;rw[Qfr ds es xs q q']
  |@lst a ys es e2 q'=>rw[e1] at e2;cases e2
 |.list ds,e,_,.lst (xs:=xs) e1 q,h=>by
  cases h with
  |@tup a ys es e2 q'=>rw[e1] at e2;cases e2
  |@lst a ys es e2 q'=>
   rw[e1] at e2;cases e2;rw[Qfr ds es xs q q']
 |.dict _,_,_,q,_=>nomatch q
theorem Qfr{H:Hp}:∀(ds es:List Qa)(xs:List V),Dats H xs ds->Dats H xs es->ds=es
 |[],es,_,.nil,h=>by cases h;rfl
 |d::ds,es,_,.cons q qs,h=>by
  cases h with
  |@cons x xs e es q' qs'=>rw[QkP d e _ q q',Qfr ds es _ qs qs']
end
mutual
theorem Qnr:∀(d:Qa),okK d=true->nd d=true
 |.int _,_=>rfl
 |.tuple ds,h=>Qnq ds h
 |.none,h=>by cases h
 |.bool _,h=>by cases h
 |.str _,h=>by cases h
 |.list _,h=>by cases h
 |.dict _,h=>by cases h
theorem Qnq:∀(ds:List Qa),Qc9 ds=true->nds ds=true
 |[],_=>rfl
 |d::ds,h=>by
  have h:=QJ.mp (show(okK d&&Qc9 ds)=true from h);show(nd d&&nds ds)=true;rw[Qnr d h.1,Qnq ds h.2];rfl
end
end Dl
namespace L2
open PySem.Calls _root_.Rd _root_.Rk Rt
section
variable{X:Cx}
def ddI(ns:List Int):List Int:=ns.foldl QcR []
theorem QrM(ns:List Int):firstMet (λi=>ns.getD i 0) ns.length=ddI ns:=by
 unfold firstMet ddI
 congr 1
 apply Zj
 intro i;rw[Qx];by_cases h:i<ns.length
 ·rw[Jy h,Qf h];show some (ns.getD i 0)=_;rw[QF,Qf h];rfl
 ·rw[QM (by simpa using h),QM (by omega)];rfl
def QzJ(K:PySem.W.Frag):List V->Hp->VK->Prop:=λxs H Q=>∃(l:Addr)(ns:List Int),xs=[.ref l]/\SqL K H l (ns.map V.int)/\ns.length<=4000 /\
 ∀(t:Addr)(H2:Hp),Same H H2->H t=none->H2 t=some (.set (λk=>(ddI ns).any (· == k)) (ddI ns).length)->Q (.ref t) H2
theorem Qov(hc:X.calm=true):CallR X (.type "set") (QzJ X.K):=by
 intro pins s σ H xs us Q I r h;obtain⟨p,ns,rfl,hp,hn,q⟩:=h;obtain⟨u,rfl,ru⟩:=vals1 r;cases ru;obtain⟨its,rv,pl,hz⟩:=I.list hp;have hi:IntsAre its ns:=intsAre_of rv;have hl:=hi.length;refine PySem.call_set_list (items:=its.toArray) (ns:=ns) (I.ok.hd hc) pl.isList (by simpa using hi) (by rw[Ql,hl];unfold scanBound;omega) λh' tk hS hk=>?_
 have ez:its.toArray.size=ns.length:=by rw[Ql];exact hl
 rw[ez,QrM] at hS;have hf:H s.heap.objs.size=none:=I.hok.fresh (Qi _);refine⟨.ref s.heap.objs.size,upd H s.heap.objs.size (.set (λk=>(ddI ns).any (· == k)) (ddI ns).length),I.laid (t':=tk) (λb x e=>hk b x (Qo e) e) (Qi _) hS,rfl,q _ _ (JX hf) hf J7⟩
def QtM:List V->Hp->VK->Prop:=λxs H Q=>∃(a:Addr)(S:Int->Bool)(n:Nat),xs=[.ref a]/\H a=some (.set S n)/\n<=4000/\Q (.int n) H
theorem QjI:CallR X (.builtin "len") QtM:=by
 intro pins s σ H xs us Q I r h;obtain⟨a,S,n,rfl,ha,hn,q⟩:=h;obtain⟨u,rfl,ru⟩:=vals1 r;cases ru;obtain⟨o,es,ep,t,ho,hex,hd,hel,hmem,hb,hf,hz⟩:=I.hok a _ ha;have hz:es.size=n:=hz;refine PySem.call_len_set ho hex hd hf (by
                       rw[hz];have:(4000:Int)<2^63:=by decide
                       omega) ?_
 rw[hz];exact⟨.int n,H,I.tok _,⟨_,rfl⟩,q⟩
theorem QkN:∀(ns σ:List Int),(ns.foldl QcR σ).length<=σ.length+ns.length/\(σ.Nodup->((ns.foldl QcR σ).length=σ.length+ns.length↔(σ++ns).Nodup))
 |[],σ=>⟨Qi _,λh=>by simp[h]⟩
 |n::ns,σ=>by
  rw[QaJ,Qt];by_cases z:σ.any (· == n)=true
  ·have e:QcR σ n=σ:=by unfold QcR;rw[if_pos z]
   rw[e];obtain⟨a,b⟩:=QkN ns σ;refine⟨by omega,λhs=>⟨λq=>by omega,λq=>?_⟩⟩;obtain⟨x,hx,hn⟩:=QcH.mp z;have hn:=beq_iff_eq.mp hn;subst hn;exact absurd rfl ((Yl.mp q).2.2 x hx x (.head _))
  ·have e:QcR σ n=σ++[n]:=by unfold QcR;rw[if_neg z]
   rw[e];obtain⟨a,b⟩:=QkN ns (σ++[n]);rw[Qs] at a b;have nm:n∉σ:=λhx=>z (QcH.mpr ⟨n,hx,by simp⟩)
   refine⟨by simp only[Qc4] at a;omega,λhs=>?_⟩;have hs2:(σ++[n]).Nodup:=Yl.mpr ⟨hs,by simp,λx hx y hy=>by rw[Q6.mp hy];exact λe=>nm (e ▸ hx)⟩;have:=b hs2;rw[QU] at this;have e3:σ++n::ns=σ++([n]++ns):=rfl;rw[e3,<- this];simp only[Qc4];omega
theorem QAv(ns:List Int):(ddI ns).length<=ns.length:=by have:=(QkN ns []).1;unfold ddI;simpa using this
theorem QkM(ns:List Int):(ddI ns).length=ns.length↔ns.Nodup:=by have:=(QkN ns []).2 (by simp);unfold ddI;simpa using this
def QAU:R2:=λx y H Q=>∃d e,Dat H x d/\Dat H y e/\Dl.QiO d e=true/\d.depth<=20/\Q (.bl (Dl.ltD d e)) H
theorem QsD(hu:X.A.units+60<cLine):OpR X (compareOp .Lt) QAU:=by
 intro pins s σ H x y v u Q I rx ry h;obtain⟨d,e,qx,qy,hk,hd,q⟩:=h;obtain⟨⟨as,ra⟩,ca⟩:=Yr I.hok d x v qx rx;obtain⟨⟨bs,rb⟩,cb⟩:=Yr I.hok e y u qy ry;exact QtK 20 d e X.A s v u as bs ra rb ca cb hk hd (by omega) _ _ _ _ ⟨.bl _,H,I,rfl,q⟩
end
end L2
namespace Dl
open L2 _root_.Rd Rk Rt
@[irreducible] def anyD:List Qa->(Qa->Prop)->Prop
 |[.list ds],Q=>∃bs,Qck ds=some bs/\Q (.bool (bs.any id))
 |_,_=>False
def QBK:Qa->Qa->(Qa->Prop)->Prop:=λd e Q=>(okK d=true/\okK e=true/\QiO d e=true/\d.depth<=20)/\Q (.bool (ltD d e))
theorem QsI:OpD QAU QBK:=λA P H x y d1 d2 R Q ln dm hx hy h k=>by
 obtain⟨⟨h1,h2,h3,h4⟩,hR⟩:=h;exact⟨d1,d2,hx.dat (Qnr d1 h1),hy.dat (Qnr d2 h2),h3,h4,k _ hR _ H (Same.refl H) (.bl _) QaD⟩
section
variable{X:Cx}{E:XK}
def Qoi(w:DE):DE:=λδ Q EX=>w δ (λd=>match d with
 |.list ds=>∃ns,QdA ds=some ns/\ns.length<=4000/\Q (.int (ddI ns).length)
 |_=>False) EX
theorem bt_set:bootBuiltins "set" = some (.type "set"):=by decide +kernel
theorem Qnb{e:Q3}{w:DE}{p p2 pos pos2:Pos}(hg:Gl X "len")(hm:X.mg "len" = none)(hg2:Gl X "set")(hm2:X.mg "set" = none)(h:PE X e (tX .P X.K E w))(hc:X.calm=true)(hs:notStar e=true):PE X (.Call (.Name "len" p) [.Call (.Name "set" p2) [e] [] pos2] [] pos) (tX .F X.K E (Qoi w)):=by
 refine PE.imp (Qct QjI hg hm QcO (Qej (Qe9 (Qov hc) hg2 hm2 bt_set (Qej h YJ hs) (he:=Z4 hs)) YJ)) λσ H Q ⟨F,δ,R,EX,rel,hw,k,o⟩=>?_
 refine⟨F,δ,_,EX,rel,hw,λd hd v H1 rel1 kp1 vk=>?_,o⟩;cases d<;>first | exact(show False from hd).elim | skip
 obtain⟨ns,hn,hl,hR⟩:=hd;rw[Qjz hn] at vk;obtain⟨l,xs,rfl,e,q⟩:=DP.list vk;rw[Qhd q] at e;refine⟨l,ns,rfl,SqL.of e,hl,λt H2 s2 n2 e2=>⟨t,_,_,rfl,e2,?_,?_⟩⟩
 ·have:=QAv ns;omega
 ·exact k _ hR _ H2 (rel1.same s2) (kp1.trans (Kp.same rel1 s2)) ⟨.int _,Qae⟩
theorem Qkg{e:Q3}{w:DE}{p p2 pos pos2:Pos}(hg:Gl X "len")(hm:X.mg "len" = none)(hg2:Gl X "set")(hm2:X.mg "set" = none)(h:QE .P X E e w)(hc:X.calm=true:=by rfl)(hs:notStar e=true:=by rfl):QE .F X E (.Call (.Name "len" p) [.Call (.Name "set" p2) [e] [] pos2] [] pos) (Qoi w):=⟨Qnb hg hm hg2 hm2 h.h hc hs⟩
end
end Dl
namespace Rk
open L2 _root_.Rd Dl
def inW(d:Qa)(a b:Int):Bool:=match d with
 |.int i=>decide (a<=i)&&decide (i<=b)
 |_=>false
theorem QrA{i a b:Int}(h1:a<=i)(h2:i<=b):inW (.int i) a b=true:=by
 show(decide (a<=i)&&decide (i<=b))=true;rw[decide_eq_true h1,decide_eq_true h2];rfl
theorem Qx0{d:Qa}{a b:Int}(h:inW d a b=true):∃i,d=.int i/\a<=i/\i<=b:=by
 cases d<;>first | (cases h;done) | skip
 rename_i i
 have h:=QJ.mp (show(decide (a<=i)&&decide (i<=b))=true from h);exact⟨i,rfl,of_decide_eq_true h.1,of_decide_eq_true h.2⟩
def QeZ:DF:=λargs R _=>∃d a b,args=[.v d,.v (.int a),.v (.int b)]/\R (.bool (inW d a b))
theorem Qkt(ns:List Int):nds (ns.map QN)=true:=QgY.mpr λd hd=>by
 obtain⟨i,_,rfl⟩:=Qq.mp hd;rfl
theorem QkT(xs:List Qa)(k:Int)(h:0<=k):Dl.cutD xs none (some k)=xs.take k.toNat:=by
 unfold Dl.cutD;obtain⟨j,rfl⟩:∃j:Nat,k=j:=⟨k.toNat,by omega⟩
 rw[HT.QgO,HT.QmJ,ZD,Ql7,Q8];by_cases z:j<=xs.length
 ·rw[Y5 z]
 ·rw[Nat.min_eq_right (by omega),ZN,YM (by omega)]
end Rk
namespace Rx
open PySem.Calls L2
section
variable{X:Cx}{e:Q3}{st:Y4}{rest:List Y4}{pos:Pos}{te:TX}{t u:TSX}
end
end Rx
namespace L2
open Dl
end L2
namespace Dl
open L2 _root_.Rd Rk
section
variable{X:Cx}
variable{k:Nat}{f:Addr}{fd:Jd}{ps:List Str}{x:Str}{p pos:Pos}{e:Q3}{es:List Q3}{fD:DF}{wa:DSl}
end
end Dl
namespace Rk
open L2 _root_.Rd Dl Rt
def Qex:List Qa->Bool
 |x::y::r=>ltD x y&&Qex (y::r)
 |_=>true
def QxI:Qa->Bool
 |.tuple [a,b]=>ltD a b
 |_=>false
theorem Qyo(d:Qa)(ds:List Qa):Dl.cutD (d::ds) (some 1) none=ds:=by
 unfold Dl.cutD;rw[HT.QgO,show(1:Int)=((1:Nat):Int) from rfl,HT.QmJ];rw[Y5 (by rw[Qt];omega),List.drop_one,List.tail_cons,Qt,QaL,ZN]
theorem QeV:∀ds:List Qa,(Qlc ds (Dl.cutD ds (some 1) none)).all QxI=Qex ds
 |[]=>by
  have h:(Qlc ([]:List Qa) (Dl.cutD [] (some 1) none))=[]:=by unfold Qlc;rfl
  rw[h];rfl
 |[x]=>by rw[Qyo];rfl
 |x::y::r=>by
  have ih:=QeV (y::r);rw[Qyo] at ih ⊢;show(QxI (.tuple [x,y])&&(Qlc (y::r) r).all QxI)=_;rw[ih];rfl
def Qs8(ds:List Qa):Prop:=∀x∈ds,okK x=true/\x.depth<=20/\∀y∈ds,QiO x y=true
def Qjc:DF:=λargs R _=>∃ds:List Qa,(args=[.v (.tuple ds)]∨args=[.v (.list ds)])/\Qs8 ds/\R (.bool (Qex ds))
def QlI(h w:Int):Qa->Bool
 |.tuple [a,b]=>inW a 0 (h - 1)&&inW b 0 (w - 1)
 |_=>false
theorem QxW{h w:Int}{d:Qa}(q:QlI h w d=true):∃p:Int×Int,d=pairD p/\0<=p.1/\p.1<h/\0<=p.2/\p.2<w:=by
 cases d<;>first | (cases q;done) | skip
 rename_i ds
 match ds,q with
 |[a,b],q=>
  have q:=QJ.mp (show(inW a 0 (h - 1)&&inW b 0 (w - 1))=true from q);obtain⟨i,rfl,i1,i2⟩:=Qx0 q.1;obtain⟨j,rfl,j1,j2⟩:=Qx0 q.2;exact⟨(i,j),rfl,i1,by show i<h;omega,j1,by show j<w;omega⟩
 |[],q=>cases q
 |[_],q=>cases q
 |_::_::_::_,q=>cases q
theorem QxV{h w:Int}{p:Int×Int}(h1:0<=p.1)(h2:p.1<h)(h3:0<=p.2)(h4:p.2<w):QlI h w (pairD p)=true:=by
 show(inW (.int p.1) 0 (h - 1)&&inW (.int p.2) 0 (w - 1))=true;rw[QrA h1 (by omega),QrA h3 (by omega)];rfl
def toP:Qa->Int×Int
 |.tuple [.int a,.int b]=>(a,b)
 |_=>(0,0)
theorem Qkm{h w:Int}{ds:List Qa}(q:ds.all (QlI h w)=true):∃L:List (Int×Int),ds=L.map pairD/\∀p∈L,0<=p.1/\p.1<h/\0<=p.2/\p.2<w:=by
 induction ds with
 |nil=>exact⟨[],rfl,λ_ h=>nomatch h⟩
 |cons d ds ih=>
  rw[List.all_cons,JS] at q;obtain⟨p,rfl,hp⟩:=QxW q.1;obtain⟨L,rfl,hL⟩:=ih q.2;refine⟨p::L,rfl,λx hx=>?_⟩;rcases Qp.mp hx with z | z
  ·rw[z];exact hp
  ·exact hL x z
theorem Qfa(L:List (Int×Int)):(L.map pairD).map toP=L:=by
 rw[Jc]
 conv=>rhs;rw[<- QoS L]
 rfl
theorem Qfp(p:Int×Int):(pairD p).depth<=1:=by
 show Q2 [.int p.1,.int p.2]+1<=1;simp[Q2,YU]
theorem Qba{n:Nat}:∀{ds:List Qa},(∀d∈ds,d.depth<=n)->Q2 ds<=n
 |[],_=>Qr _
 |d::ds,h=>by
  show max d.depth (Q2 ds)<=n;exact Nat.max_le.mpr ⟨h d (.head _),Qba λd hd=>h d (.tail _ hd)⟩
theorem Qem(L:List (Int×Int)):Qs8 (L.map pairD):=λx hx=>by
 obtain⟨p,_,rfl⟩:=Qq.mp hx;refine⟨rfl,Q7 (Qfp p) (by decide),λy hy=>?_⟩;obtain⟨q,_,rfl⟩:=Qq.mp hy;rfl
theorem Qfo(L:List (Int×Int)):(Yp (L.map pairD)).depth<=2:=by
 show Q2 (L.map pairD)+1<=2;have:=Qba (n:=1) (ds:=L.map pairD) λd hd=>by obtain⟨p,_,rfl⟩:=Qq.mp hd;exact Qfp p
 omega
def stT(L:List (Int×Int)):Qa:=.tuple (L.map pairD)
def plt(p q:Int×Int):Prop:=p.1<q.1∨(p.1=q.1/\p.2<q.2)
instance plt_dec (p q:Int×Int):Decidable (plt p q):=by unfold plt;exact inferInstance
theorem Qkx(p q:Int×Int):ltD (pairD p) (pairD q)=decide (plt p q):=by
 show isL (thn (Qfu p.1 q.1) (thn (Qfu p.2 q.2) .eq))=_;unfold Qfu plt;by_cases h1:p.1<q.1
 ·rw[if_pos h1];exact(decide_eq_true (.inl h1)).symm
 ·rw[if_neg h1];by_cases h2:p.1=q.1
  ·rw[if_pos h2];by_cases h3:p.2<q.2
   ·rw[if_pos h3];exact(decide_eq_true (.inr ⟨h2,h3⟩)).symm
   ·rw[if_neg h3];have:decide (p.1<q.1∨p.1=q.1/\p.2<q.2)=false:=decide_eq_false (by omega);rw[this];split<;>rfl
  ·rw[if_neg h2];exact(decide_eq_false (by omega)).symm
theorem Qih(p q:Int×Int):Ju (pairD p) (pairD q)=decide (p=q):=by
 show((p.1 == q.1)&&((p.2 == q.2)&&true))=_;obtain⟨a,b⟩:=p;obtain⟨c,d⟩:=q;by_cases h1:a=c
 ·by_cases h2:b=d
  ·subst h1 h2;simp
  ·simp[h1,h2]
 ·simp[h1]
theorem QoI(cs:List (Int×Int))(p:Int×Int):((cs.map pairD).any λc=>Ju c (pairD p))=decide (p∈cs):=by
 rw[Qzo,Y3,QcH,decide_eq_true_iff];constructor
 ·rintro⟨c,hc,h⟩;have:c=p:=of_decide_eq_true (by rw[<- Qih];exact h);rw[<- this];exact hc
 ·intro h;refine⟨p,h,?_⟩;show Ju (pairD p) (pairD p)=true;rw[Qih];simp
def QBM(h w:Int):Qa->Bool
 |.tuple ds=>ds.all (QlI h w)&&Qex ds
 |_=>false
def apB(L:List (Int×Int)):Bool:=decide (L.map (·.1)).Nodup&&decide (L.map (·.2)).Nodup
def bdD(h w:Int)(cs:List (Int×Int)):Qa:=.tuple [.int h,.int w,.tuple (cs.map pairD)]
def inC(cs:List (Int×Int))(e:Qa):Bool:=(cs.map pairD).any λc=>Ju c e
def Qu8(h w:Int)(cs:List (Int×Int)):Qa->Bool
 |.tuple ds=>(ds.all (QlI h w)&&Qex ds)&&(ds.all (inC cs)&&apB (ds.map toP))
 |_=>false
def Qm3:DF:=λargs R _=>∃(h w:Int)(d:Qa),args=[.v (.int h),.v (.int w),.v d]/\R (.bool (QlI h w d))
def Qop:DF:=λargs R _=>∃(h w:Int)(d:Qa),args=[.v (.int h),.v (.int w),.v d]/\R (.bool (QBM h w d))
def QoH:DF:=λargs R _=>∃L:List (Int×Int),args=[.v (.tuple (L.map pairD))]/\L.length<=4000/\R (.bool (apB L))
def Qwq(d:Qa):Prop:=∀ds,d=.tuple ds->ds.length<=1000
def Qj5:DF:=λargs R _=>∃(h w:Int)(cs:List (Int×Int))(d:Qa),args=[.v (bdD h w cs),.v d]/\Qwq d/\R (.bool (Qu8 h w cs d))
theorem Qgp(ns:List Int):QdA (ns.map QN)=some ns:=Dl.ints_map ns
def Qew(r n:Nat)(f:Nat->Nat->Bool):List (Int×Int):=((Qw n).filter (f r)).map λ(c:Nat)=>((r:Int),(c:Int))
def cellsF(h w:Nat)(f:Nat->Nat->Bool):List (Int×Int):=(Qw h).flatMap λr=>Qew r w f
def Qtv(f:Nat->Nat->Bool)(i j:Nat)(b:Bool):Nat->Nat->Bool:=λr c=>if r=i/\c=j then b else f r c
theorem QaG(h w:Nat)(f:Nat->Nat->Bool):cellsF (h+1) w f=cellsF h w f++Qew h w f:=by
 unfold cellsF;rw[Y1,QbC];simp
theorem QmL(r n:Nat)(f:Nat->Nat->Bool):Qew r (n+1) f=Qew r n f++(if f r n=true then[((r:Int),(n:Int))] else[]):=by
 unfold Qew;rw[Y1,Qo6,JF]
 congr 1
 by_cases z:f r n=true
 ·rw[if_pos z];simp[z]
 ·rw[if_neg z];simp[z]
theorem Qf4{r n:Nat}{f g:Nat->Nat->Bool}(h:∀c,c<n->f r c=g r c):Qew r n f=Qew r n g:=by
 unfold Qew
 congr 1
 exact List.filter_congr λc hc=>h c (Jq.mp hc)
theorem Qio{h w:Nat}{f g:Nat->Nat->Bool}(q:∀r c,r<h->c<w->f r c=g r c):cellsF h w f=cellsF h w g:=by
 induction h with
 |zero=>rfl
 |succ h ih=>rw[QaG,QaG,ih λr c hr=>q r c (by omega),Qf4 λc hc=>q h c (by omega) hc]
theorem QlN{h w i j:Nat}{f:Nat->Nat->Bool}{b:Bool}(hi:h<=i):cellsF h w (Qtv f i j b)=cellsF h w f:=Qio λr c hr _=>if_neg λz=>by omega
theorem Qpz{i n j:Nat}{f:Nat->Nat->Bool}{b:Bool}(hj:n<=j):Qew i n (Qtv f i j b)=Qew i n f:=Qf4 λc hc=>if_neg λz=>by omega
theorem Qdt{r n:Nat}{f:Nat->Nat->Bool}{p:Int×Int}:p∈Qew r n f↔∃c:Nat,c<n/\f r c=true/\p=((r:Int),(c:Int)):=by
 unfold Qew;rw[Qq];constructor
 ·rintro⟨c,hc,rfl⟩;have hc:=Js.mp hc;exact⟨c,Jq.mp hc.1,hc.2,rfl⟩
 ·rintro⟨c,hc,hf,rfl⟩;exact⟨c,Js.mpr ⟨Jq.mpr hc,hf⟩,rfl⟩
theorem Qgc{h w:Nat}{f:Nat->Nat->Bool}{p:Int×Int}:p∈cellsF h w f↔∃r c:Nat,r<h/\c<w/\f r c=true/\p=((r:Int),(c:Int)):=by
 unfold cellsF;rw[YD];constructor
 ·rintro⟨r,hr,hp⟩;obtain⟨c,hc,hf,rfl⟩:=Qdt.mp hp;exact⟨r,c,Jq.mp hr,hc,hf,rfl⟩
 ·rintro⟨r,c,hr,hc,hf,rfl⟩;exact⟨r,Jq.mpr hr,Qdt.mpr ⟨c,hc,hf,rfl⟩⟩
theorem Qip{h w:Nat}{f:Nat->Nat->Bool}{p:Int×Int}(q:p∈cellsF h w f):0<=p.1/\p.1<h/\0<=p.2/\p.2<w:=by
 obtain⟨r,c,hr,hc,_,rfl⟩:=Qgc.mp q;exact⟨QeT _,by show(r:Int)<h;omega,QeT _,by show(c:Int)<w;omega⟩
theorem QgP(r n:Nat)(f:Nat->Nat->Bool):(Qew r n f).length<=n:=by
 unfold Qew;rw[Qh];exact Q7 (Qc6 _ _) (by rw[Q1];exact Qi _)
theorem Qd8(w:Nat)(f:Nat->Nat->Bool):∀h,(cellsF h w f).length<=h*w
 |0=>Qr _
 |h+1=>by
  have:=Qd8 w f h;have:=QgP h w f;rw[QaG,Qs,Ql5];omega
theorem Qfm(r n:Nat)(f:Nat->Nat->Bool):(Qew r n f).filter (λp=>decide (p.1=(r:Int)))=Qew r n f:=List.filter_eq_self.mpr λp hp=>by
 obtain⟨c,_,_,rfl⟩:=Qdt.mp hp;exact decide_eq_true rfl
theorem Qfn{r k n:Nat}(h:r≠k)(f:Nat->Nat->Bool):(Qew r n f).filter (λp=>decide (p.1=(k:Int)))=[]:=QaS.mpr λp hp=>by
 obtain⟨c,_,_,rfl⟩:=Qdt.mp hp;show ¬decide ((r:Int)=(k:Int))=true;rw[decide_eq_false (by omega)];exact Qv
theorem Qgn(w k:Nat)(f:Nat->Nat->Bool):∀h,(cellsF h w f).filter (λp=>decide (p.1=(k:Int)))=if k<h then Qew k w f else[]
 |0=>rfl
 |h+1=>by
  rw[QaG,Qo6,Qgn w k f h];by_cases z:k=h
  ·subst z;rw[if_neg (by omega),Qfm,if_pos (by omega)];rfl
  ·rw[Qfn (λe=>z e.symm),Jz];by_cases z2:k<h
   ·rw[if_pos z2,if_pos (by omega)]
   ·rw[if_neg z2,if_neg (by omega)]
theorem QtT(r n:Nat)(f:Nat->Nat->Bool):(Qew r n f).Pairwise plt:=by
 unfold Qew;refine Qzq (R:=λa b=>a<b) _ (λa b hab=>.inr ⟨rfl,by show(a:Int)<b;omega⟩) ?_
 exact Zh _ Qk9
theorem QhY(w:Nat)(f:Nat->Nat->Bool):∀h,(cellsF h w f).Pairwise plt
 |0=>.nil
 |h+1=>by
  rw[QaG];refine Jh.mpr ⟨QhY w f h,QtT h w f,λp hp q hq=>?_⟩;obtain⟨r,c,hr,_,_,rfl⟩:=Qgc.mp hp;obtain⟨c',_,_,rfl⟩:=Qdt.mp hq;exact .inl (by show(r:Int)<h;omega)
theorem Qsz{p q:Int×Int}(h:plt p q):p≠q:=λe=>by subst e;rcases h with z | z<;>omega
def Qjx:DF:=λargs R _=>∃m:Int,args=[.pot,.v (.int m)]/\1<=m/\m<=6/\∀(h w:Nat)(f:Nat->Nat->Bool),1<=h->(h:Int)<=m->1<=w->(w:Int)<=m->R (bdD h w (cellsF h w f))
def QhA(cs:List (Int×Int))(r:Int):List (Int×Int):=cs.filter λp=>decide (p.1=r)
def QjB(cells L:List (Int×Int)):List (List (Int×Int)):=(cells.filter λc => !decide (c.2∈L.map (·.2))).map λc=>L++[c]
def Qc8(cs:List (Int×Int)):Nat->List (List (Int×Int))
 |0=>[[]]
 |i+1=>Qc8 cs i++(Qc8 cs i).flatMap (QjB (QhA cs i))
theorem QrN(cells L:List (Int×Int)):(QjB cells L).length<=cells.length:=by
 unfold QjB;rw[Qh];exact Qc6 _ _
theorem QkJ{α β:Type}{f:α->List β}{k:Nat}:∀{xs:List α},(∀x∈xs,(f x).length<=k)->(xs.flatMap f).length<=xs.length*k
 |[],_=>Qr _
 |x::xs,h=>by
  have h1:=h x (.head _);have h2:=QkJ (xs:=xs) λy hy=>h y (.tail _ hy)
  rw[ZT,Qs,Qt,Ql5];omega
theorem Qj3{cs:List (Int×Int)}{k:Nat}(h:∀r,(QhA cs r).length<=k):∀i,(Qc8 cs i).length<=(k+1)^i
 |0=>Qi _
 |i+1=>by
  have h1:=Qj3 h i;have h2:=QkJ (xs:=Qc8 cs i) (k:=k) λL _=>Q7 (QrN (QhA cs i) L) (h i)
  show(Qc8 cs i++(Qc8 cs i).flatMap (QjB (QhA cs i))).length<=_;rw[Qs,Nat.pow_succ,Nat.mul_add,Nat.mul_one];have h3:(Qc8 cs i).length*k<=(k+1)^i*k:=Nat.mul_le_mul_right k h1;omega
theorem Qbq{cells L M:List (Int×Int)}:M∈QjB cells L↔∃c∈cells,c.2∉L.map (·.2)/\M=L++[c]:=by
 unfold QjB;rw[Qq];constructor
 ·rintro⟨c,hc,rfl⟩;have hc:=Js.mp hc;exact⟨c,hc.1,by simpa using hc.2,rfl⟩
 ·rintro⟨c,hc,hn,rfl⟩;exact⟨c,Js.mpr ⟨hc,by simpa using hn⟩,rfl⟩
theorem Qe3{cs:List (Int×Int)}:∀i,∀L∈Qc8 cs i,L.length<=i
 |0,L,h=>by rw[Q6.mp h];exact Qi _
 |i+1,L,h=>by
  rcases Ja.mp (show L∈Qc8 cs i++(Qc8 cs i).flatMap (QjB (QhA cs i)) from h) with z | z
  ·exact Nat.le_succ_of_le (Qe3 i L z)
  ·obtain⟨M,hM,hL⟩:=YD.mp z;obtain⟨c,_,_,rfl⟩:=Qbq.mp hL;have:=Qe3 i M hM;rw[Qs];exact Nat.succ_le_succ this
theorem Qmt(cs:List (Int×Int)):∀i,[]∈Qc8 cs i
 |0=>.head _
 |i+1=>Ja.mpr (.inl (Qmt cs i))
theorem QvF(ns:List Int)(i:Int):((ns.map QN).any λe=>Ju e (.int i))=decide (i∈ns):=by
 rw[Qzo,Y3,QcH,decide_eq_true_iff];constructor
 ·rintro⟨c,hc,h⟩;have:c=i:=by simpa [Ju] using h
  rw[<- this];exact hc
 ·intro h;refine⟨i,h,?_⟩;show(i == i)=true;simp
theorem Qi9(w h:Nat)(f:Nat->Nat->Bool)(r:Int):(QhA (cellsF h w f) r).length<=w:=by
 by_cases z:0<=r
 ·obtain⟨k,rfl⟩:∃k:Nat,r=k:=⟨r.toNat,by omega⟩
  unfold QhA;rw[Qgn];split
  ·exact QgP _ _ _
  ·exact Qr _
 ·have:QhA (cellsF h w f) r=[]:=QaS.mpr λp hp e=>by
   have:=Qip hp;have:=of_decide_eq_true e;omega
  rw[this];exact Qr _
theorem QmM:∀{L:List (Int×Int)},L.Pairwise plt->Qex (L.map pairD)=true
 |[],_=>rfl
 |[_],_=>rfl
 |p::q::L,h=>by
  have h:=QeA.mp h;show(ltD (pairD p) (pairD q)&&Qex ((q::L).map pairD))=true;rw[Qkx,decide_eq_true (h.1 q (.head _)),QmM h.2];rfl
theorem Qmv{h w:Int}{cs L:List (Int×Int)}(hb:∀p∈cs,0<=p.1/\p.1<h/\0<=p.2/\p.2<w)(hin:∀p∈L,p∈cs)(ha:apB L=true)(hp:L.Pairwise plt):Qu8 h w cs (stT L)=true:=by
 show(((L.map pairD).all (QlI h w)&&Qex (L.map pairD))&&((L.map pairD).all (inC cs)&&apB ((L.map pairD).map toP)))=true;have e1:(L.map pairD).all (QlI h w)=true:=Qat.mpr λd hd=>by
  obtain⟨p,hp,rfl⟩:=Qq.mp hd;have:=hb p (hin p hp);exact QxV this.1 this.2.1 this.2.2.1 this.2.2.2
 have e2:(L.map pairD).all (inC cs)=true:=Qat.mpr λd hd=>by
  obtain⟨p,hp,rfl⟩:=Qq.mp hd;unfold inC;rw[QoI];exact decide_eq_true (hin p hp)
 rw[Qfa,ha,QmM hp,e1,e2];rfl
theorem Qvg{α β:Type}{g:α->Option β}{p:α->Bool}{k:α->β}:∀{xs:List α},(∀x∈xs,g x=if p x=true then some (k x) else none)->xs.filterMap g=(xs.filter p).map k
 |[],_=>rfl
 |x::xs,h=>by
  have ih:=Qvg (xs:=xs) λy hy=>h y (.tail _ hy)
  by_cases z:p x=true
  ·rw[List.filterMap_cons_some (by rw[h x (.head _),if_pos z]),ih,Qcn z];rfl
  ·rw[List.filterMap_cons_none (by rw[h x (.head _),if_neg z]),ih,QjQ z]
@[irreducible] def Qrv:List Qa->(Qa->Prop)->Prop:=QuX
theorem QrT:Qc3 (λxs H Q=>∃i j,xs=[.int i,.int j]/\Q (.int (if j<i then j else i)) H) Qrv:=by unfold Qrv;exact Qoq
theorem QuW{i j k:Int}{Q:Qa->Prop}(e:(if j<i then j else i)=k)(h:Q (.int k)):Qrv [.int i,.int j] Q:=by
 unfold Qrv;show Q (.int (if j<i then j else i));rw[e];exact h
theorem QkI(g:Int×Int->Bool)(cs:List (Int×Int)):(cs.map pairD).filterMap (λd=>if g (toP d)=true then some d else none)=(cs.filter g).map pairD:=by
 rw[QbQ];exact Qvg (p:=g) (k:=pairD) λp _=>rfl
theorem Qvw{items:List Qa}{wg wg2:DG}{wt wt2:DT}{wi2:DI}{we:DE}{δ:Sts}{Q:Qa->Prop}(G:Qa->List Qa)(k:Nat)(hl:(items.flatMap G).length<=k)
  (h:∀d∈items,∀(acc:List Qa)(N:List Qa->Prop),acc.length+(G d).length<=k->N (acc++G d)->wg d δ λδ4=>wt δ4 (λb=>if b=true then wi2 δ4 (λitems2=>InR items2 wg2 wt2 we δ4 acc N) XF else N acc) XF)(q:Q (.list (items.flatMap G))) :
  Qk2 items wg wt wi2 wg2 wt2 we δ Q:=by
 unfold Qk2;refine⟨λi acc=>acc=(items.take i).flatMap G,by simp,λi acc d hd e=>?_,λacc e=>by rw[e,ZN];exact q⟩;have e:acc=(items.take i).flatMap G:=e;have hs:(items.take (i+1)).flatMap G=(items.take i).flatMap G++G d:=by
  rw[Yk,hd,QbC];simp
 refine h d (QQ hd) acc _ ?_ (by show acc++G d=_;rw[hs,e])
 have h1:(items.flatMap G).length=((items.take (i+1)).flatMap G).length+((items.drop (i+1)).flatMap G).length:=by
  rw[<- Qs,<- QbC,Jr]
 rw[hs,<- e,Qs] at h1;omega
end Rk
namespace Rv
theorem Qwk:isSubtype (.type "range_iterator") (.type "reversed")=pure false:=by rw[QcD];kernel_rfl
section
variable{prog:Qz}{w:Ji}{A:Jb}{E:Value->Shared->Prop}{s:Shared}
def QhW(a b:Int):Obj:={ cls:=.type "range_iterator",data:=.fields #[rawInt (a+(ZH a b 1 - 1)*1),rawInt (ZH a b 1),rawInt (-1)] }
theorem QlQ{r:Addr}{j:Int}{t u v:Tok}{Q:Value->Shared->Prop}(hr:IsRange s.heap r 0 j 1 t u v)(h0 : -1000<=j)(h1:j<=1000)
  (h:Q (.ref s.heap.objs.size) { s with heap:=s.heap.push (QhW 0 j) }):wpAny (model prog w) A (call (.builtin "range.__reversed__") [.ref r]) Q E s:=by
 refine JK QdN ⟨_,hr,rfl⟩ F.entry_range_reversed ?_ (F.args_range_reversed_1 _)
 unfold Yz.«range.__reversed__»;refine wpAny_bind (Yo (a:=QK r) rfl ?_);refine wpAny_bind ?_
 unfold Qzx;refine wpAny_bind (Zg hr rfl (x:=.int 0 t) rfl ?_);refine wpAny_bind (Yo (a:=some 0) rfl ?_);refine wpAny_bind (Zg hr rfl (x:=.int j u) rfl ?_);refine wpAny_bind (Yo (a:=some j) rfl ?_);refine wpAny_bind (Zg hr rfl (x:=.int 1 v) rfl ?_);refine wpAny_bind (Yo (a:=some 1) rfl ?_);refine Qb ?_
 dsimp only
 have hz:ZH 0 j 1=if 0<j then j else 0:=by rw[Qo0];split<;>omega
 have fit:∀x:Int,-2000<=x->x<=2000->JL x=true:=λx a b=>by
  unfold JL;simp only[JS,decide_eq_true_eq];omega
 have hs:(JL 0&&JL j&&JL 1&&JL (-1)&&JL (0 - 1)&&JL (ZH 0 j 1))=true:=by
  rw[fit 0 (by decide) (by decide),fit j (by omega) (by omega),fit 1 (by decide) (by decide),fit (-1) (by decide) (by decide),fit (0 - 1) (by decide) (by decide),fit _ (by rw[hz];split<;>omega) (by rw[hz];split<;>omega)];rfl
 rw[hs,if_neg (by decide),if_pos rfl];exact wpAny_bind (JJ (Qb ⟨_,rfl,h⟩))
theorem QrY{r:Addr}{j:Int}{t u v:Tok}{Q:Value->Shared->Prop}(hr:IsRange s.heap r 0 j 1 t u v)(h0 : -1000<=j)(h1:j<=1000)
  (h:Q (.ref s.heap.objs.size) { s with heap:=s.heap.push (QhW 0 j) }):codeAny (model prog w) A (.call (.builtin "reversed.__new__") ⟨[.type "reversed",.ref r],[]⟩) (wants Q E) s:=by
 have hT:s.TypeIs (.ref r) "range" := ⟨_,hr,rfl⟩;refine Qep ?_
 show wpAny _ A.in1 (do checkBuiltinCall "reversed.__new__" ⟨[.type "reversed",.ref r],[]⟩;again (.builtin "reversed.__new__" ⟨[.type "reversed",.ref r],[]⟩)) _ _ s;refine wpAny_bind (Yo (F.newCall_reversed_1 _) (Qb ⟨QbM Qsf _,Qan F.entry_reversed_new ?_⟩));rw[Yf Qsf _];unfold Yz.«reversed.__new__»;refine wpAny_bind (Yo (newClass_reversed _) ?_)
 dsimp only
 refine wpAny_bind (Yo (a:=()) (by first | rfl | kernel_rfl) ?_);refine wpAny_bind (Yo (a:=()) (by first | rfl | kernel_rfl) ?_)
 try dsimp only
 refine wpAny_bind (Yy hT QdN.lookup ?_)
 try dsimp only
 refine wpAny_bind (Yo (QdN.bind _) ?_)
 try dsimp only
 first
 |rw[if_neg (show ¬((Qes "range.__reversed__" == Jw)=true) from Qv)]
 |(show wpAny _ _ (if(Qes "range.__reversed__" == Jw)=true then _ else _) _ _ _;rw[if_neg (show ¬((Qes "range.__reversed__" == Jw)=true) from Qv)])
 refine wpAny_bind (wpAny_rule ?_);refine wpAny_bind (m:=runValue (.call (.builtin "range.__reversed__") ⟨[.ref r],[]⟩)) (show wpAny _ _ (call (.builtin "range.__reversed__") [.ref r]) _ _ _ from QlQ hr h0 h1 ?_)
 first
 |exact Qb h
 |exact wpAny_bind (Qb (Qb h))
theorem Qox{r:Addr}{j:Int}{t u v:Tok}{Q:Value->Shared->Prop}(hr:IsRange s.heap r 0 j 1 t u v)(h0 : -1000<=j)(h1:j<=1000)
  (h:Q (.ref s.heap.objs.size) { s with heap:=s.heap.push (QhW 0 j) }):wpAny (model prog w) A (call (.type "reversed") [.ref r]) Q E s:=by
 refine callType_other (U := "range_iterator") (Q₁:=λobj s₁=>obj=.ref s.heap.objs.size/\s₁={ s with heap:=s.heap.push (QhW 0 j) }) (by decide +kernel) F.create_reversed ⟨_,_,F.mro_reversed⟩ F.made_reversed Qwk (F.typeCall_reversed_1 _) (QrY hr h0 h1 ⟨rfl,rfl⟩) ?_
 rintro obj s₁ ⟨rfl,rfl⟩;exact⟨⟨_,Qu _ rfl,rfl⟩,h⟩
end
end Rv
namespace L2
def Itv(n:Nat):It:=⟨λi _=>i<n,λi H x H'=>H'=H/\x=.int ((n:Int) - 1 - i),λi _=>n<=i⟩
theorem Qmm{P:Qz}{w:Ji}{K:PySem.W.Frag}{tg:Q3}(it:Addr)(n:Nat):Turn P w K tg (Itv n) [it] it (λi h=>Qlb h it ((n:Int) - 1+(i:Nat)*(-1)) ((n:Int) - (i:Nat)) (-1)) where
 mem:=by simp
 obj:=λi h st b hb=>by
  have e:b=it:=by simpa using hb
  subst e;exact⟨_,st,λv z=>by
   have z':Data.fields _=Data.cell v:=z;cases z'⟩
 keep:=λi h h' st k=>k it (by simp) _ st
 item:=by
  intro X hP hw hK hc i pins s σ H E I hf st hg;subst hP hw hK;obtain⟨f0,f1,f2,f3,f4,f5⟩:=hf it (by simp);have W:=Qzb (prog:=X.prog) (w:=X.w) (I.ok.hd hc) it ((n:Int) - 1) (-1) n;refine W.item i s _ _ hg st λv h' tk hv st' kk=>?_
  obtain⟨t,rfl⟩:=hv;have I1:Inv X pins σ H { s with heap:=h',toks:=tk }:=I.turned (λb o hb e=>kk b o (by simpa using hb) e) f0 f1 f3 f4 f5;refine⟨_,rfl,QrH (s:={ s with heap:=h',toks:=tk }) (n := "range_iterator") st' rfl rfl (by decide) ⟨.int ((n:Int) - 1 - i),H,I1,⟨t,?_⟩,⟨rfl,rfl⟩,st',λb hb=>(hf b hb).1⟩⟩;rw[show(n:Int) - 1+(i:Int)*(-1)=(n:Int) - 1 - i by omega]
 done:=by
  intro X hP hw hK hc i pins s σ H E I hf st hg;subst hP hw hK;obtain⟨f0,f1,f2,f3,f4,f5⟩:=hf it (by simp);exact Qr5 (I.ok.hd hc) st (by have:n<=i:=hg;omega) λh' eb=>⟨rfl,I.turned (t':=s.toks) (λb o hb e=>eb b o hb e) f0 f1 f3 f4 f5⟩
 self:=λ_ _ _ _ _ st h=>QdI st h
def QAn(ta:TA):TI:=λσ H R=>ta σ H λvs H1=>∃(r:Addr)(j:Int),vs=[.ref r]/\H1 r=some (.rng 0 j) /\ -1000<=j/\j<=1000/\R (Itv j.toNat) H1
section
variable{X:Cx}{tg:Q3}
theorem Qt5{a:Q3}{ta:TA}{p pos:Pos}(hg:Gl X "reversed")(hm:X.mg "reversed" = none)(ha:PA X [a] ta)(hs:starEach [a] X.env=[(false,eval a X.env)]:=by rfl):PI X tg (.Call (.Name "reversed" p) [a] [] pos) (QAn ta):=by
 intro pins s σ H R I h;refine Call_ (QcN I hg hm boot_reversed (JM (thn (ha pos pins s σ H _ I h) λus s1 ⟨vs,H1,I1,r1,q1⟩=>?_) hs rfl));obtain⟨r,j,e,hr,q1,q2,q⟩:=q1;subst e;obtain⟨u,rfl,ru⟩:=vals1 r1;cases(show u=QK r from ru);obtain⟨t1,t2,t3,e⟩:=I1.hok r _ hr;refine Rv.Qox (show IsRange s1.heap r 0 j 1 t1 t2 t3 from e) q1 q2 ?_
 have hz:ZH 0 j 1=((j.toNat:Nat):Int):=by rw[Qo0];split<;>omega
 have it0:Qlb (s1.heap.push (Rv.QhW 0 j)) s1.heap.objs.size (((j.toNat:Nat):Int) - 1+((0:Nat):Int)*(-1)) (((j.toNat:Nat):Int) - ((0:Nat):Int)) (-1):=by
  have:=Qu (h:=s1.heap) (o:=Rv.QhW 0 j) rfl;unfold Rv.QhW at this;rw[hz,show(0:Int)+(((j.toNat:Nat):Int) - 1)*1=((j.toNat:Nat):Int) - 1+((0:Nat):Int)*(-1) by omega] at this;rw[show((j.toNat:Nat):Int) - ((0:Nat):Int)=((j.toNat:Nat):Int) by omega];unfold Rv.QhW;rw[hz,show(0:Int)+(((j.toNat:Nat):Int) - 1)*1=((j.toNat:Nat):Int) - 1+((0:Nat):Int)*(-1) by omega];exact this
 refine QdI it0 ?_
 refine⟨s1.heap.objs.size,[s1.heap.objs.size],_,_,H1,rfl,I1.kept (t':=s1.toks) λb o e=>Qe _ e,Qmm _ j.toNat,it0,λb hb=>?_,q⟩;have e:b=s1.heap.objs.size:=by simpa using hb
 subst e;exact I1.fpOk (Qi _) (I1.hok.fresh (Qi _))
end
section
variable{X:Cx}
def Qkb:V->List V->Hp->VK->Prop:=λx vs H Q=>∃l xs y,x=.ref l/\vs=[.int 0,y]/\H l=some (.lst xs)/\xs.length<sizeLine/\Q .non (upd H l (.lst (y::xs)))
theorem QlC:MtM X "list.insert" Qkb:=by
 intro pins s σ H x vs v us Q I rx rv h;obtain⟨l,xs,y,rfl,rfl,hH,hz,q⟩:=h;cases rx;cases rv with
 |cons r0 rv=>
  obtain⟨u,rfl,ru⟩:=Vals.one rv;obtain⟨t,rfl⟩:=r0;obtain⟨z,its,n,r,hl,e⟩:=I.lstM hH;refine QhC F.slot_list_insert ⟨_,e,rfl⟩ F.entry_list_insert (F.args_list_insert_3 _ _ _) (AutoSeq1.list_insert_list_int_val_1 l its.toArray n 0 t u (by decide) (by rw[Ql];omega)) ⟨e,?_⟩;refine⟨.non,_,I.lset (its':=u::its) hH e (by simp) (.cons ru r) ?_,rfl,q⟩;rw[Qt];omega
end
end L2
namespace Dl
open L2 _root_.Rd Rk
section
variable{X:Cx}{E:XK}{st:Y4}{i:Nat}{we:DE}
def QtH(n:Nat):List Qa:=(Qw n).map λ(i:Nat)=>.int ((n:Int) - 1 - i)
theorem QeI(n:Nat):(QtH n).length=n:=by unfold QtH;rw[Qh,Q1]
theorem QgQ{n i:Nat}{d:Qa}(h:(QtH n)[i]? = some d):i<n/\d=.int ((n:Int) - 1 - i):=by
 unfold QtH at h;rw[Qx] at h;by_cases z:i<n
 ·rw[Jy z] at h;exact⟨z,(Qm h).symm⟩
 ·rw[QM (by rw[Q1];omega)] at h;cases h
def QAz(w:DE):DI:=λδ Q EX=>w δ (λd=>match d with
 |.int j=>(-1000<=j/\j<=1000)/\Q (QtH j.toNat)
 |_=>False) EX
theorem QAf{A S:Addr->Prop}{n:Nat}{H1:Hp}(h:n<=sizeLine):ItD A S (Itv n) (QtH n) H1:=by
 refine⟨by rw[QeI];exact h,λH2 A' _ _ _=>⟨λi d hd=>?_,?_⟩⟩
 ·obtain⟨hi,rfl⟩:=QgQ hd;refine⟨hi,λx H3 hy=>?_⟩;obtain⟨rfl,rfl⟩:=hy;exact⟨Same.refl _,.int _⟩
 ·show n<=(QtH n).length;rw[QeI];exact Qi _
theorem QmZ{m:Md}{tg e:Q3}{w:DE}{p p2 pos pos2:Pos}(hg:Gl X "reversed")(hm:X.mg "reversed" = none)(hg2:Gl X "range")(hm2:X.mg "range" = none)(h:QE .P X E e w)(hs:notStar e=true:=by rfl):QI m X E tg (.Call (.Name "reversed" p) [.Call (.Name "range" p2) [e] [] pos2] [] pos) (QAz w):=⟨by
 refine PI.imp (Qt5 hg hm (Qej (QpP hg2 hm2 (Qej h.h YJ hs) (by rw[Z4 hs];rfl)) YJ)) λσ H R _ ⟨F,δ,R',EX,rel,hw,k,o⟩=>?_
 refine⟨F,δ,_,EX,rel,hw,λd hd v H' rel' kp vk=>?_,o⟩;cases d<;>first | exact(show False from hd).elim | skip
 obtain⟨⟨h1,h2⟩,hR⟩:=hd;rw[DP.int vk];exact⟨_,rfl,λr H2 s2 n2 e2=>⟨r,_,rfl,e2,h1,h2,k _ hR _ H2 (rel'.same s2) (kp.trans (Kp.same rel' s2)) (QAf (Ys (Rk.QcW (by omega))))⟩⟩⟩
def QAy(i:Nat)(we:DE):DS:=λD δ=>match δ[i]? with
 |some (.own ds)=>we δ (λd=>ds.length<1000000/\D.nx (δ.set i (.own (d::ds)))) D.ex
 |_=>False
theorem Qum(h:PS X st (Qpi (tBM X.K "list" Qkb (Qmp i) (Qi3 (tX .D X.K E (dC (.int 0))) (Qi3 (tX .D X.K E we) QyU))))):PS X st (tS X.K E (QAy i we)):=by
 refine PS.imp h λD σ H ⟨F,δ,DD,rel,hw,en⟩=>?_
 unfold QAy at hw;split at hw
 ·rename_i ds hd
  obtain⟨x,hx⟩:=rel.lt hd;obtain⟨l,xs,rfl,e,q,f⟩:=rel.sl i _ _ hx hd;have np:=rel.own_pot hd hx;refine⟨.ref l,hx,.inl ⟨rfl,_,SqL.of e⟩,F,δ,(λd=>d=.int 0),DD.ex,rel,rfl,λd hd0 v0 H0 rel0 kp0 vk0=>?_,en.ex⟩;subst hd0;cases vk0;refine⟨F,δ,_,DD.ex,rel0,hw,λd ⟨hl,hn⟩ v H' rel' kp vk=>?_,en.ex⟩;have kk:=kp0.trans kp;have q':=kk.das q;refine⟨l,xs,v,rfl,rfl,kk.1 _ _ np e,Q0 (by rw[q.length];exact hl) Qjv,?_⟩;obtain⟨r2,st⟩:=rel'.mut hd hx (.cons vk q');exact en.nx.go _ hn _ _ r2 ((Stp.kp kk).trans st)
 ·exact hw.elim
theorem QwI{y:Str}{e e0:Q3}{we:DE}{apos cpos pos npos:Pos}(i:Nat)(h0:QE .D X E e0 (dC (.int 0)))(he:QE .D X E e we)(hN:X.N[i]? = some y:=by rfl)(hv:Vis X.env.scope y:=by first | exact Jf rfl | exact Je (Jf rfl) | exact Je (Je rfl))(hd:(y == ("__debug__" : Str))=false:=by decide)(hcd:(y == ("__classdict__" : Str))=false:=by decide)(hs0:notStar e0=true:=by rfl)(hst:notStar e=true:=by rfl)(hbase:attributeBase (.Name y npos) "insert" X.env (eval (.Name y npos) X.env)=eval (.Name y npos) X.env:=by rfl)(hfew:((backTo cpos (starEach [e0,e] X.env)).all (λx => !x.1)&&(backToKw cpos (keywordEach [] X.env)).all (λx=>x.1.isSome)&&decide ([e0,e].length+([]:List Qla).length+(if([]:List Qla).isEmpty then 0 else 1)<30))=true:=by rfl)(hline:(apos.endLine == cpos.line)=true:=by rfl)(hsw:swapsWith (.Call (.Attribute (.Name y npos) "insert" apos) [e0,e] [] cpos) none pos.line X.env=pure false:=by rfl):QS X E (.Expr (.Call (.Attribute (.Name y npos) "insert" apos) [e0,e] [] cpos) pos) (QAy i we):=⟨Qum (Qji (Qw1 PySem.F.plainAttrs_list PySem.F.slot_list_insert PySem.F.type_list_insert QlC (pv i hN hv hd hcd) (Qej h0.h (Qej he.h YJ hst) hs0) hbase hfew hline (Z4 hs0) (by rw[Z4 hst];rfl)) hsw)⟩
end
end Dl
namespace Rk
open L2 _root_.Rd Dl Rt
def Qpj(B:Nat->Nat->Int)(t:Nat):List Nat->Nat->Int
 |[],_=>0
 |c::cs,k=>(if t.testBit c=true then 0 else B (t ||| 2^c) k)+Qpj B t cs k
theorem Qe2(B:Nat->Nat->Int)(t c k:Nat):∀cs:List Nat,Qpj B t (cs++[c]) k=Qpj B t cs k+(if t.testBit c=true then 0 else B (t ||| 2^c) k)
 |[]=>by show _+0=0+_;omega
 |d::cs=>by
  show _+Qpj B t (cs++[c]) k=_+Qpj B t cs k+_;rw[Qe2 B t c k cs];omega
def QeH(h:Nat)(F:Nat->Int):List Qa:=(Qw (h+1)).map λ(k:Nat)=>.int (F k)
def Qi2(h w:Nat)(B:Nat->Nat->Int):List Qa:=(Qw (2^w)).map λ(t:Nat)=>.list (QeH h (B t))
def stepB(B:Nat->Nat->Int)(cols:List Nat)(t k:Nat):Int:=B t k+if k=0 then 0 else Qpj B t cols (k - 1)
def QoY(cs:List (Int×Int))(r:Nat):List Nat:=(QhA cs r).map λp=>p.2.toNat
def Wc(cs:List (Int×Int))(h:Nat):Nat->Nat->Nat->Int
 |0,_,k=>if k=0 then 1 else 0
 |i+1,t,k=>stepB (Wc cs h i) (QoY cs (h - 1 - i)) t k
def Qi1(cs:List (Int×Int))(h w:Nat):Nat->List Qa
 |0=>[.list (Qi2 h w (Wc cs h 0))]
 |i+1=>.list (Qi2 h w (Wc cs h (i+1)))::Qi1 cs h w i
def Qva(ns:List Nat):List Qa:=ns.map λ(c:Nat)=>.int (c:Int)
def QrR(cs:List (Int×Int))(h w:Nat):List Qa:=(Qw (min h w+1)).map λ(k:Nat)=>.int (Wc cs h h 0 k)
def Qru:DF:=λargs R _=>∃(h w:Nat)(cs:List (Int×Int)),args=[.v (bdD h w cs)]/\R (.int ((min h w:Nat):Int))
def Qtq:DF:=λargs R _=>∃(h w:Nat)(B:Nat->Nat->Int)(cols:List Nat)(t:Nat),args=[.v (.list (Qi2 h w B)),.v (.list (Qva cols)),.v (.int t)]/\t<2^w/\(∀c∈cols,c<w)/\h<=6/\w<=6/\R (.list (QeH h (stepB B cols t)))
def Qme:DF:=λargs R _=>∃(h w:Nat)(cs:List (Int×Int)),args=[.v (bdD h w cs)]/\h<=6/\w<=6/\(∀p∈cs,0<=p.2/\p.2<w)/\R (.list (Qi1 cs h w h))
def Qft:DF:=λargs R _=>∃(h w:Nat)(cs:List (Int×Int)),args=[.v (bdD h w cs)]/\h<=6/\w<=6/\(∀p∈cs,0<=p.2/\p.2<w)/\R (.list (QrR cs h w))
theorem Qcd{h k:Nat}{F:Nat->Int}(hk:k<=h):(QeH h F)[k]? = some (.int (F k)):=by
 unfold QeH;rw[Qx,Jy (by omega)];rfl
theorem Qcs(h:Nat)(F:Nat->Int):(QeH h F).length=h+1:=by unfold QeH;rw[Qh,Q1]
theorem Qe0{h w t:Nat}{B:Nat->Nat->Int}(ht:t<2^w):(Qi2 h w B)[t]? = some (.list (QeH h (B t))):=by
 unfold Qi2;rw[Qx,Jy ht];rfl
theorem QbG{h:Nat}{F G:Nat->Int}(e:∀k,k<=h->F k=G k):QeH h F=QeH h G:=by
 unfold QeH;refine Yt λk hk=>?_
 rw[e k (by have:=Jq.mp hk;omega)]
theorem QpA{h j:Nat}{F:Nat->Int}{v:Int}(hj:j<=h):(QeH h F).set j (.int v)=QeH h (λk=>if k=j then v else F k):=by
 apply Zj
 intro k;rw[Qsc];by_cases z:j=k
 ·subst z;rw[if_pos rfl,if_pos (by rw[Qcs];omega),Qcd hj,if_pos rfl]
 ·rw[if_neg z];by_cases z2:k<=h
  ·rw[Qcd z2,Qcd z2,if_neg (λe=>z e.symm)]
  ·rw[QM (by rw[Qcs];omega),QM (by rw[Qcs];omega)]
theorem cut_last(xs:List Qa):Dl.cutD xs none (some (-1))=xs.take (xs.length - 1):=by
 unfold Dl.cutD;rw[HT.QgO,ZD,Ql7]
 congr 1
 have e:HT.sIx xs.length xs.length (some (-1))=((-1:Int)+(xs.length:Int)).toNat:=by unfold HT.sIx;dsimp only;rw[if_pos (by decide)]
 rw[e];omega
theorem QvE:∀t:Fin 64,∀c:Fin 6,Qc7 ((t:Nat):Int) (1*2^((c:Nat):Int).toNat)=if(t:Nat).testBit c=true then 2^(c:Nat) else 0:=by decide +kernel
theorem Qyt:∀t:Fin 64,∀c:Fin 6,QdO ((t:Nat):Int) (1*2^((c:Nat):Int).toNat)=(((t:Nat) ||| 2^(c:Nat):Nat):Int):=by decide +kernel
theorem Qxi{t c w:Nat}(ht:t<2^w)(hc:c<w):t ||| 2^c<2^w:=Nat.or_lt_two_pow ht (Nat.pow_lt_pow_right (by decide) hc)
theorem QpC(h:Nat)(F:Nat->Int):Dl.cutD (QeH h F) none (some (-1))=(Qw h).map λ(k:Nat)=>QN (F k):=by
 rw[cut_last,Qcs];unfold QeH;rw[<- QeB,QaL,QvN,Y5 (Nat.le_succ h)]
theorem QvG{t c w:Nat}(ht:t<2^w)(hc:c<w)(w6:w<=6):Qc7 (t:Int) (1*2^((c:Nat):Int).toNat)=if t.testBit c=true then 2^c else 0:=by
 have h64:2^w<=2^6:=Qao (by decide) w6;exact QvE ⟨t,by have e:2^6=64:=rfl;omega⟩ ⟨c,by omega⟩
theorem Qxj{t c w:Nat}(ht:t<2^w)(hc:c<w)(w6:w<=6):QdO (t:Int) (1*2^((c:Nat):Int).toNat)=((t ||| 2^c:Nat):Int):=by
 have h64:2^w<=2^6:=Qao (by decide) w6;exact Qyt ⟨t,by have e:2^6=64:=rfl;omega⟩ ⟨c,by omega⟩
theorem QgT(w:Nat):(1*2^((w:Nat):Int).toNat:Int)=((2^w:Nat):Int):=by
 rw[Int.one_mul,Q8];simp
theorem Qyq(cs:List (Int×Int))(r:Nat)(hb:∀p∈cs,0<=p.2):(cs.map pairD).filterMap (λd=>if(toP d).1=(r:Int) then some (.int (toP d).2) else none)=Qva (QoY cs r):=by
 unfold Qva QoY QhA;rw[QbQ,Jc];refine Qvg (p:=λp:Int×Int=>decide (p.1=(r:Int))) λp hp=>?_
 show(if p.1=(r:Int) then some (QN p.2) else none)=if decide (p.1=(r:Int))=true then some (QN ((p.2.toNat:Nat):Int)) else none
 rw[show((p.2.toNat:Nat):Int)=p.2 by have:=hb p hp;omega];by_cases z:p.1=(r:Int)
 ·rw[if_pos z,if_pos (decide_eq_true z)]
 ·rw[if_neg z,if_neg (by simpa using z)]
theorem Qvr{cs:List (Int×Int)}{w r c:Nat}(hb:∀p∈cs,0<=p.2/\p.2<w)(h:c∈QoY cs r):c<w:=by
 unfold QoY QhA at h;obtain⟨p,hp,rfl⟩:=Qq.mp h;have:=hb p (Js.mp hp).1;omega
theorem QjZ(cs:List (Int×Int))(h w:Nat):∀i,(Qi1 cs h w i).length=i+1
 |0=>rfl
 |i+1=>by show(Qi1 cs h w i).length+1=_;rw[QjZ cs h w i]
theorem Qi0(cs:List (Int×Int))(h w:Nat):∀i,(Qi1 cs h w i)[0]? = some (.list (Qi2 h w (Wc cs h i)))
 |0=>rfl
 |_+1=>rfl
theorem QpB(cs:List (Int×Int))(h t:Nat):QeH h (Wc cs h 0 t)=QN 1::Jl h (.int 0):=by
 apply Zj
 intro k;cases k with
 |zero=>rw[Qcd (Qr _)];rfl
 |succ k=>
  by_cases z:k+1<=h
  ·rw[Qcd z,ZQ,Yu,if_pos (by omega)];rfl
  ·rw[QM (by rw[Qcs];omega),ZQ,Yu,if_neg (by omega)]
theorem QtJ(h:Nat):(Jl h [QN 0]).flatten=Jl h (.int 0):=by
 induction h with
 |zero=>rfl
 |succ h ih=>rw[ZC,Yn,ih];rfl
theorem Qsy{w:Nat}(h:w<=6) : -1000000<=(1*2^((w:Nat):Int).toNat:Int)/\(1*2^((w:Nat):Int).toNat:Int)<=1000000:=by
 have p64:2^w<=64:=Qao (n:=2) (by decide) h;rw[QgT];generalize 2^w=x at p64;omega
def sumZ{α:Type}(f:α->Int):List α->Int
 |[]=>0
 |x::xs=>f x+sumZ f xs
theorem QgF{α:Type}(f:α->Int):∀a b:List α,sumZ f (a++b)=sumZ f a+sumZ f b
 |[],b=>by show _=0+_;rw[QfO];rfl
 |x::a,b=>by show _+sumZ f (a++b)=_+sumZ f a+_;rw[QgF f a b];omega
theorem QhP{α β:Type}(f:β->Int)(g:α->List β):∀a:List α,sumZ f (a.flatMap g)=sumZ (λx=>sumZ f (g x)) a
 |[]=>rfl
 |x::a=>by rw[ZT,QgF,QhP f g a];rfl
theorem Qaf{α:Type}{f g:α->Int}:∀{a:List α},(∀x∈a,f x=g x)->sumZ f a=sumZ g a
 |[],_=>rfl
 |x::a,h=>by show f x+_=g x+_;rw[h x (.head _),Qaf λy hy=>h y (.tail _ hy)]
theorem QgG{α:Type}(f g:α->Int):∀a:List α,sumZ (λx=>f x+g x) a=sumZ f a+sumZ g a
 |[]=>rfl
 |x::a=>by show(f x+g x)+sumZ _ a=f x+sumZ f a+(g x+sumZ g a);rw[QgG f g a];omega
theorem QaF{α:Type}(f:α->Int)(p:α->Bool):∀a:List α,sumZ f (a.filter p)=sumZ (λx=>if p x=true then f x else 0) a
 |[]=>rfl
 |x::a=>by
  by_cases z:p x=true
  ·rw[Qcn z];show f x+_=(if p x=true then f x else 0)+_;rw[if_pos z,QaF f p a]
  ·rw[QjQ z];show _=(if p x=true then f x else 0)+_;rw[if_neg z,QaF f p a,QfO]
theorem Qj1{α β:Type}(f:β->Int)(g:α->β):∀a:List α,sumZ f (a.map g)=sumZ (λx=>f (g x)) a
 |[]=>rfl
 |x::a=>by show _+sumZ f (a.map g)=_+_;rw[Qj1 f g a]
theorem sumZ_zero{α:Type}:∀a:List α,sumZ (λ_=>0) a=0
 |[]=>rfl
 |x::a=>by show 0+sumZ _ a=0;rw[sumZ_zero a];rfl
theorem QfQ{α:Type}(p:α->Bool):∀a:List α,sumZ (λx=>if p x=true then 1 else 0) a=((a.countP p:Nat):Int)
 |[]=>rfl
 |x::a=>by
  show(if p x=true then 1 else 0)+_=_;rw[QfQ p a];by_cases z:p x=true
  ·rw[if_pos z,List.countP_cons_of_pos z];omega
  ·rw[if_neg z,List.countP_cons_of_neg z];omega
theorem Qe1{α:Type}(B:Nat->Nat->Int)(t k:Nat)(g:α->Nat):∀a:List α,Qpj B t (a.map g) k=sumZ (λx=>if t.testBit (g x)=true then 0 else B (t ||| 2^g x) k) a
 |[]=>rfl
 |x::a=>by show _+Qpj B t (a.map g) k=_+_;rw[Qe1 B t k g a]
def mkL(L:List (Int×Int)):Nat:=L.foldl (λt p=>t ||| 2^p.2.toNat) 0
theorem QeN(L:List (Int×Int))(p:Int×Int):mkL (L++[p])=mkL L ||| 2^p.2.toNat:=by
 unfold mkL;rw[List.foldl_append];rfl
theorem Qk0(c:Nat):∀(L:List (Int×Int))(t:Nat),(L.foldl (λt p=>t ||| 2^p.2.toNat) t).testBit c=(t.testBit c||decide (c∈L.map λp=>p.2.toNat))
 |[],t=>by simp
 |p::L,t=>by
  rw[QaJ,Qk0 c L,QyI,Qo3,Bool.or_assoc]
  congr 1
  rw[JI,Y3];simp only[Qhy,decide_eq_true_eq,Qp];constructor
  ·rintro(z | z)
   ·exact .inl z.symm
   ·exact .inr z
  ·rintro(z | z)
   ·exact .inl z.symm
   ·exact .inr z
theorem Qhp(L:List (Int×Int))(c:Nat):(mkL L).testBit c=decide (c∈L.map λp=>p.2.toNat):=by
 unfold mkL;rw[Qk0];simp
theorem QeF{cs:List (Int×Int)}:∀i,∀L∈Qc8 cs i,∀p∈L,p∈cs
 |0,L,h,p,hp=>by rw[Q6.mp h] at hp;cases hp
 |i+1,L,h,p,hp=>by
  rcases Ja.mp (show L∈Qc8 cs i++(Qc8 cs i).flatMap (QjB (QhA cs i)) from h) with z | z
  ·exact QeF i L z p hp
  ·obtain⟨M,hM,hL⟩:=YD.mp z;obtain⟨c,hc,_,rfl⟩:=Qbq.mp hL;rcases Ja.mp hp with y | y
   ·exact QeF i M hM p y
   ·rw[Q6.mp y];exact(Js.mp hc).1
theorem Qju{L:List (Int×Int)}{c:Int×Int}(hL:∀p∈L,0<=p.2)(hc:0<=c.2):(c.2.toNat∈L.map λp=>p.2.toNat)↔c.2∈L.map (·.2):=by
 rw[Qq,Qq];constructor
 ·rintro⟨p,hp,e⟩;refine⟨p,hp,?_⟩;have:=hL p hp;have e:p.2.toNat=c.2.toNat:=e;show p.2=c.2;omega
 ·rintro⟨p,hp,e⟩;exact⟨p,hp,by show p.2.toNat=c.2.toNat;rw[show p.2=c.2 from e]⟩
def trm(cs:List (Int×Int))(h r k:Nat)(L:List (Int×Int)):Int:=if L.length<=k then Wc cs h (h - r) (mkL L) (k - L.length) else 0
theorem Qpg{cs:List (Int×Int)}{h r k:Nat}(hr:r<h)(hb:∀p∈cs,0<=p.2){L:List (Int×Int)}(hL:∀p∈L,p∈cs) :
  trm cs h r k L=trm cs h (r+1) k L+sumZ (trm cs h (r+1) k) (QjB (QhA cs r) L):=by
 have e1:h - r=(h - (r+1))+1:=by omega
 have e2:h - 1 - (h - (r+1))=r:=by omega
 unfold QjB;rw[Qj1,QaF];unfold trm;rw[e1];by_cases z:L.length<=k
 ·rw[if_pos z,if_pos z];show stepB (Wc cs h (h - (r+1))) (QoY cs (h - 1 - (h - (r+1)))) (mkL L) (k - L.length)=_;rw[e2];unfold stepB
  congr 1
  by_cases z2:k - L.length=0
  ·rw[if_pos z2];refine(Eq.trans (Qaf (g:=λ_=>0) λc hc=>?_) (sumZ_zero _)).symm;rw[Qs,if_neg (show ¬(L.length+[c].length<=k) by show ¬(L.length+1<=k);omega)];split<;>rfl
  ·rw[if_neg z2];unfold QoY;rw[Qe1];refine Qaf λc hc=>?_
   have hc':=hb c (Js.mp hc).1;rw[Qhp,QeN,Qs,if_pos (show L.length+[c].length<=k by show L.length+1<=k;omega)];have em:=Qju (c:=c) (λp hp=>hb p (hL p hp)) hc';by_cases y:c.2∈L.map (·.2)
   ·rw[if_pos (decide_eq_true (em.mpr y)),if_neg (by simpa using y)]
   ·rw[if_neg (by rw[decide_eq_true_eq];exact λq=>y (em.mp q)),if_pos (by simpa using y)];show _=Wc cs h (h - (r+1)) _ (k - (L.length+1));rw[show k - L.length - 1=k - (L.length+1) by omega]
 ·rw[if_neg z,if_neg z,QfO];refine(Eq.trans (Qaf (g:=λ_=>0) λc hc=>?_) (sumZ_zero _)).symm;rw[Qs,if_neg (show ¬(L.length+[c].length<=k) by show ¬(L.length+1<=k);omega)];split<;>rfl
theorem QjU{cs:List (Int×Int)}{h k:Nat}(hb:∀p∈cs,0<=p.2):∀r,r<=h->sumZ (trm cs h r k) (Qc8 cs r)=Wc cs h h 0 k
 |0,_=>by
  show(if 0<=k then Wc cs h (h - 0) (mkL []) (k - 0) else 0)+0=_;rw[if_pos (Qr _),Qdg];rfl
 |r+1,hr=>by
  rw[<- QjU hb r (by omega)];show sumZ _ (Qc8 cs r++(Qc8 cs r).flatMap (QjB (QhA cs r)))=_;rw[QgF,QhP,<- QgG];exact(Qaf λL hL=>Qpg (by omega) hb (QeF r L hL)).symm
def QAC(cs:List (Int×Int))(h k:Nat):Int:=(((Qc8 cs h).countP λL=>L.length == k:Nat):Int)
theorem QrQ{cs:List (Int×Int)}{h:Nat}(hb:∀p∈cs,0<=p.2)(k:Nat):QAC cs h k=Wc cs h h 0 k:=by
 rw[<- QjU (k:=k) hb h (Qi _)];unfold QAC;rw[<- QfQ];refine Qaf λL _=>?_
 unfold trm;rw[Qa3];show(if(L.length == k)=true then 1 else 0)=if L.length<=k then(if k - L.length=0 then 1 else 0) else 0
 by_cases z:L.length=k
 ·rw[if_pos (by simpa using z),if_pos (by omega),if_pos (by omega)]
 ·rw[if_neg (by simpa using z)];by_cases z2:L.length<=k
  ·rw[if_pos z2,if_neg (by omega)]
  ·rw[if_neg z2]
theorem QgX:∀(w:Nat)(l:List Nat),l.Nodup->(∀x∈l,x<w)->l.length<=w
 |0,l,_,h=>by
  cases l with
  |nil=>exact Qi _
  |cons a l=>exact absurd (h a (.head _)) (ZY _)
 |w+1,l,nd,h=>by
  by_cases z:w∈l
  ·have h1:=QgX w (l.erase w) (nd.erase w) λx hx=>by
    have:=h x (List.mem_of_mem_erase hx);have hne:x≠w:=λe=>by subst e;exact(List.Nodup.not_mem_erase nd) hx
    omega
   have h2:=QiS z;omega
  ·have h1:=QgX w l nd λx hx=>by
    have:=h x hx;have hne:x≠w:=λe=>by subst e;exact z hx
    omega
   omega
theorem Qi4{cs:List (Int×Int)}:∀i,∀L∈Qc8 cs i,(L.map (·.2)).Nodup
 |0,L,h=>by rw[Q6.mp h];exact .nil
 |i+1,L,h=>by
  rcases Ja.mp (show L∈Qc8 cs i++(Qc8 cs i).flatMap (QjB (QhA cs i)) from h) with z | z
  ·exact Qi4 i L z
  ·obtain⟨M,hM,hL⟩:=YD.mp z;obtain⟨c,_,hn,rfl⟩:=Qbq.mp hL;rw[JF];refine Yl.mpr ⟨Qi4 i M hM,by simp,λa h1 b h2 e=>?_⟩;have h2:b=c.2:=by simpa using h2
   rw[e,h2] at h1;exact hn h1
theorem Qms{cs:List (Int×Int)}{w i:Nat}(hb:∀p∈cs,0<=p.2/\p.2<w){L:List (Int×Int)}(h:L∈Qc8 cs i):L.length<=w:=by
 have nd:=Qi4 i L h;have hs:=QeF i L h;have h1:=QgX w (L.map λp=>p.2.toNat) ?_ λx hx=>?_
 ·rwa [Qh] at h1
 ·have e:(L.map λp=>p.2.toNat)=(L.map (·.2)).map Int.toNat:=by rw[Jc];rfl
  rw[e];refine ZS.mpr (Qbh (λ{a b} ha hb' hne hz=>hne ?_) nd);obtain⟨p,hp,rfl⟩:=Qq.mp ha;obtain⟨q,hq,rfl⟩:=Qq.mp hb';have:=hb p (hs p hp);have:=hb q (hs q hq);show p.2=q.2;have hz:p.2.toNat=q.2.toNat:=hz;omega
 ·obtain⟨p,hp,rfl⟩:=Qq.mp hx;have:=hb p (hs p hp);omega
end Rk
namespace L2
section
variable{X:Cx}
end
end L2
namespace Dl
open L2 _root_.Rd Rk
end Dl
namespace Rk
open L2 _root_.Rd Dl Rt
theorem Qd5{α β:Type}{f g:α->List β}:∀{xs:List α},(∀x∈xs,f x=g x)->xs.flatMap f=xs.flatMap g
 |[],_=>rfl
 |x::xs,h=>by rw[ZT,ZT,h x (.head _),Qd5 λy hy=>h y (.tail _ hy)]
def Bds(h w:Nat)(cs:List (Int×Int)):Prop:=h<=6/\w<=6/\∀p∈cs,0<=p.1/\p.1<h/\0<=p.2/\p.2<w
theorem Bds.col{h w:Nat}{cs:List (Int×Int)}(b:Bds h w cs):∀p∈cs,0<=p.2/\p.2<(w:Int):=λp hp=>(b.2.2 p hp).2.2
theorem Bds.nn{h w:Nat}{cs:List (Int×Int)}(b:Bds h w cs):∀p∈cs,0<=p.2:=λp hp=>(b.2.2 p hp).2.2.1
def QlF:List (Int×Int)->List (Int×Int)->Prop
 |[],[]=>False
 |[],_::_=>True
 |_::_,[]=>False
 |p::L,q::M=>plt p q∨(p=q/\QlF L M)
theorem QrS(p q:Int×Int):Qb7 (pairD p) (pairD q)=if plt p q then .lt else if p=q then .eq else .gt:=by
 obtain⟨a,b⟩:=p;obtain⟨c,d⟩:=q;show thn (Qfu a c) (thn (Qfu b d) .eq)=_;unfold Qfu;by_cases h1:a<c
 ·rw[if_pos h1,if_pos (show plt (a,b) (c,d) from Jf h1)];rfl
 ·rw[if_neg h1];by_cases h2:a=c
  ·subst h2;rw[if_pos rfl];by_cases h3:b<d
   ·rw[if_pos h3,if_pos (show plt (a,b) (a,d) from Je ⟨rfl,h3⟩)];rfl
   ·have hn:¬plt (a,b) (a,d):=λz=>by
     have z:a<a∨(a=a/\b<d):=z;omega
    rw[if_neg h3,if_neg hn];by_cases h4:b=d
    ·subst h4;rw[if_pos rfl,if_pos rfl];rfl
    ·rw[if_neg h4,if_neg (λe=>h4 (Qb4 e).2)];rfl
  ·have hn:¬plt (a,b) (c,d):=λz=>by
    have z:a<c∨(a=c/\b<d):=z;omega
   rw[if_neg h2,if_neg hn,if_neg (λe=>h2 (Qb4 e).1)];rfl
theorem Qg1:∀L M:List (Int×Int),ltD (stT L) (stT M)=true↔QlF L M
 |[],[]=>by
  constructor
  ·intro h;cases h
  ·intro h;exact h.elim
 |[],_::_=>⟨λ_=>trivial,λ_=>rfl⟩
 |_::_,[]=>by
  constructor
  ·intro h;cases h
  ·intro h;exact h.elim
 |p::L,q::M=>by
  have ih:=Qg1 L M;show isL (thn (Qb7 (pairD p) (pairD q)) (Qbj (L.map pairD) (M.map pairD)))=true↔_;have ih:isL (Qbj (L.map pairD) (M.map pairD))=true↔QlF L M:=ih;rw[QrS];by_cases z:plt p q
  ·rw[if_pos z];exact⟨λ_=>.inl z,λ_=>rfl⟩
  ·rw[if_neg z];by_cases y:p=q
   ·rw[if_pos y];show isL (Qbj (L.map pairD) (M.map pairD))=true↔_;rw[ih];exact⟨λh=>.inr ⟨y,h⟩,λh=>h.elim (λe=>absurd e z) λe=>e.2⟩
   ·rw[if_neg y];constructor
    ·intro h;cases h
    ·rintro(h | h)
     ·exact absurd h z
     ·exact absurd h.1 y
theorem Qjw:∀L:List (Int×Int),¬QlF L L
 |[],h=>h
 |p::L,h=>by
  rcases h with z | z
  ·rcases z with z | z<;>omega
  ·exact Qjw L z.2
theorem Qry{L M:List (Int×Int)}(h1:QlF L M)(h2:QlF M L):False:=by
 have a:=(Qg1 L M).mpr h1;have b:=(Qg1 M L).mpr h2;rw[Qky _ _ a] at b;cases b
theorem QnE:∀{S T:List (Int×Int)}(c d:Int×Int),S.length=T.length->QlF S T->QlF (S++[c]) (T++[d])
 |[],[],_,_,_,h=>h.elim
 |[],_::_,_,_,e,_=>by cases e
 |_::_,[],_,_,e,_=>by cases e
 |p::S,q::T,c,d,e,h=>by
  rcases h with z | z
  ·exact .inl z
  ·exact .inr ⟨z.1,QnE c d (by simpa using e) z.2⟩
theorem Qkz:∀(S:List (Int×Int)){c d:Int×Int},plt c d->QlF (S++[c]) (S++[d])
 |[],c,d,h=>.inl h
 |p::S,c,d,h=>.inr ⟨rfl,Qkz S h⟩
def rbI(S:List (Int×Int)):Int:=match S.getLast? with
 |some c=>c.1+1
 |none=>0
def fol(cs S:List (Int×Int)):List (Int×Int):=cs.filter λc=>decide (rbI S<=c.1) && !decide (c.2∈S.map (·.2))
def evS(cs:List (Int×Int)):Nat->List (List (Int×Int))
 |0=>[[]]
 |k+1=>(evS cs k).flatMap λS=>(fol cs S).map λc=>S++[c]
structure Std (cs L:List (Int×Int)):Prop where
 sub:∀p∈L,p∈cs
 rows:L.Pairwise λp q=>p.1<q.1
 cols:(L.map (·.2)).Nodup
theorem Std.nil{cs:List (Int×Int)}:Std cs []:=⟨λp hp=>(nomatch hp),.nil,.nil⟩
theorem Std.init{cs S:List (Int×Int)}{c:Int×Int}(h:Std cs (S++[c])):Std cs S/\c∈cs/\(∀p∈S,p.1<c.1)/\c.2∉S.map (·.2):=by
 have r:=Jh.mp h.rows;have k:=h.cols;rw[JF] at k;have k:=Yl.mp k;refine⟨⟨λp hp=>h.sub p (Zr _ hp),r.1,k.1⟩,h.sub c (by simp),λp hp=>r.2.2 p hp c (by simp),λz=>?_⟩;exact k.2.2 c.2 z c.2 (by simp) rfl
theorem Std.snoc{cs S:List (Int×Int)}{c:Int×Int}(h:Std cs S)(h1:c∈cs)(h2:∀p∈S,p.1<c.1)(h3:c.2∉S.map (·.2)):Std cs (S++[c]):=by
 refine⟨λp hp=>?_,Jh.mpr ⟨h.rows,by simp,λp hp q hq=>?_⟩,?_⟩
 ·rcases Ja.mp hp with z | z
  ·exact h.sub p z
  ·rw[Q6.mp z];exact h1
 ·rw[Q6.mp hq];exact h2 p hp
 ·rw[JF];refine Yl.mpr ⟨h.cols,by simp,λa ha b hb e=>?_⟩;have hb:b=c.2:=by simpa using hb
  rw[e,hb] at ha;exact h3 ha
theorem QkE{S:List (Int×Int)}(h:S.Pairwise λp q=>p.1<q.1){c:Int×Int}:(∀p∈S,p.1<c.1)∨¬rbI S<=c.1∨(S=[] ):=by
 by_cases z:S=[]
 ·exact .inr (.inr z)
 ·by_cases y:rbI S<=c.1
  ·refine .inl λp hp=>?_
   obtain⟨T,d,rfl⟩:∃T d,S=T++[d]:=⟨S.dropLast,S.getLast z,(Qbl z).symm⟩
   have y:d.1+1<=c.1:=by unfold rbI at y;rw[Ql9] at y;simpa using y
   rcases Ja.mp hp with q | q
   ·have:=(Jh.mp h).2.2 p q d (by simp);omega
   ·rw[Q6.mp q];omega
  ·exact .inr (.inl y)
theorem Qww{S:List (Int×Int)}{c:Int×Int}(h:∀p∈S,p.1<c.1)(h0:0<=c.1):rbI S<=c.1:=by
 unfold rbI;cases e:S.getLast? with
 |none=>exact h0
 |some d=>
  have:=h d (Ql8 e);show d.1+1<=c.1;omega
theorem Qce{cs:List (Int×Int)}(h0:∀p∈cs,0<=p.1):∀(k:Nat)(L:List (Int×Int)),L∈evS cs k↔Std cs L/\L.length=k
 |0,L=>by
  constructor
  ·intro h;rw[Q6.mp h];exact⟨.nil,rfl⟩
  ·rintro⟨_,h⟩;cases L with
   |nil=>exact .head _
   |cons a b=>cases h
 |k+1,L=>by
  show L∈(evS cs k).flatMap (λS=>(fol cs S).map λc=>S++[c])↔_;rw[YD];constructor
  ·rintro⟨S,hS,hL⟩;obtain⟨c,hc,rfl⟩:=Qq.mp hL;obtain⟨st,hl⟩:=(Qce h0 k S).mp hS;have hc:=Js.mp hc;have hc2:=QJ.mp hc.2;refine⟨st.snoc hc.1 ?_ (by simpa using hc2.2),by rw[Qs,hl];rfl⟩;rcases QkE st.rows (c:=c) with z | z | z
   ·exact z
   ·exact absurd (of_decide_eq_true hc2.1) z
   ·rw[z];exact λp hp=>(nomatch hp)
  ·rintro⟨st,hl⟩;have hne:L≠[]:=λe=>by rw[e] at hl;cases hl
   obtain⟨S,c,rfl⟩:∃T d,L=T++[d]:=⟨L.dropLast,L.getLast hne,(Qbl hne).symm⟩
   obtain⟨s1,s2,s3,s4⟩:=st.init;refine⟨S,(Qce h0 k S).mpr ⟨s1,by rw[Qs] at hl;exact Nat.succ.inj hl⟩,Qq.mpr ⟨c,Js.mpr ⟨s2,?_⟩,rfl⟩⟩;rw[JS];exact⟨decide_eq_true (Qww s3 (h0 c s2)),by simpa using s4⟩
theorem Qdv{cs:List (Int×Int)}(hp:cs.Pairwise plt)(h0:∀p∈cs,0<=p.1):∀k,(evS cs k).Pairwise QlF
 |0=>List.pairwise_singleton _ _
 |k+1=>by
  show((evS cs k).flatMap λS=>(fol cs S).map λc=>S++[c]).Pairwise QlF;rw[QlX];refine⟨λS _=>?_,?_⟩
  ·exact ZS.mpr ((Zh _ hp).imp λh=>Qkz S h)
  ·refine Qbh (λ{S T} hS hT h=>?_) (Qdv hp h0 k);intro x hx y hy;obtain⟨c,_,rfl⟩:=Qq.mp hx;obtain⟨d,_,rfl⟩:=Qq.mp hy;exact QnE c d (by rw[((Qce h0 k S).mp hS).2,((Qce h0 k T).mp hT).2]) h
theorem QcV{cs:List (Int×Int)}(h0:∀p∈cs,0<=p.1):∀(i:Nat)(L:List (Int×Int)),L∈Qc8 cs i↔Std cs L/\∀p∈L,p.1<(i:Int)
 |0,L=>by
  constructor
  ·intro h;rw[Q6.mp h];exact⟨.nil,λp hp=>(nomatch hp)⟩
  ·rintro⟨s,h⟩;cases L with
   |nil=>exact .head _
   |cons a b=>
    have h1:=h a (.head _);have h2:=h0 a (s.sub a (.head _));exact absurd h1 (by show ¬a.1<0;omega)
 |i+1,L=>by
  show L∈Qc8 cs i++(Qc8 cs i).flatMap (QjB (QhA cs i))↔_;rw[Ja,YD];constructor
  ·rintro(h | ⟨S,hS,hL⟩)
   ·obtain⟨a,b⟩:=(QcV h0 i L).mp h;exact⟨a,λp hp=>by have:=b p hp;omega⟩
   ·obtain⟨c,hc,hn,rfl⟩:=Qbq.mp hL;obtain⟨a,b⟩:=(QcV h0 i S).mp hS;have hc:=Js.mp hc;have hr:c.1=(i:Int):=of_decide_eq_true hc.2;refine⟨a.snoc hc.1 (λp hp=>by rw[hr];exact b p hp) hn,λp hp=>?_⟩;rcases Ja.mp hp with z | z
    ·have:=b p z;omega
    ·rw[Q6.mp z,hr];omega
  ·rintro⟨s,h⟩;by_cases z:L=[]
   ·left
    rw[z];exact Qmt cs i
   ·obtain⟨S,c,rfl⟩:∃T d,L=T++[d]:=⟨L.dropLast,L.getLast z,(Qbl z).symm⟩
    obtain⟨s1,s2,s3,s4⟩:=s.init;have hc:=h c (by simp);by_cases y:c.1=(i:Int)
    ·right
     exact⟨S,(QcV h0 i S).mpr ⟨s1,λp hp=>by have:=s3 p hp;omega⟩,Qbq.mpr ⟨c,Js.mpr ⟨s2,decide_eq_true y⟩,s4,rfl⟩⟩
    ·left
     refine(QcV h0 i _).mpr ⟨s,λp hp=>?_⟩;rcases Ja.mp hp with q | q
     ·have:=s3 p q;omega
     ·rw[Q6.mp q];omega
theorem Qso{cs:List (Int×Int)}(nd:cs.Nodup)(h0:∀p∈cs,0<=p.1):∀i,(Qc8 cs i).Nodup
 |0=>by show[([]:List (Int×Int))].Nodup;simp
 |i+1=>by
  have ih:=Qso nd h0 i;show(Qc8 cs i++(Qc8 cs i).flatMap (QjB (QhA cs i))).Nodup;refine Yl.mpr ⟨ih,?_,λL hL M hM e=>?_⟩
  ·show QyO _ _;rw[QlX];refine⟨λS _=>?_,ih.imp λ{S T} hne x hx y hy e=>?_⟩
   ·unfold QjB;refine ZS.mpr ((Zh _ (Zh _ nd)).imp λ{c d} hne e=>hne ?_);have:=List.append_inj_right' e rfl
    simpa using this
   ·obtain⟨c,_,_,rfl⟩:=Qbq.mp hx;obtain⟨d,_,_,rfl⟩:=Qbq.mp hy;exact hne (List.append_inj_left' e rfl)
  ·obtain⟨S,hS,hM⟩:=YD.mp hM;obtain⟨c,hc,_,rfl⟩:=Qbq.mp hM;have hr:c.1=(i:Int):=of_decide_eq_true (Js.mp hc).2;have:=((QcV h0 i L).mp hL).2 c (by rw[e];simp);omega
end Rk
namespace Dl
open L2 _root_.Rd Rk
section
variable{X:Cx}{E:XK}{st:Y4}{we:DE}
end
end Dl
namespace Rk
open L2 _root_.Rd Dl Rt
structure GB (h w:Nat) (cs:List (Int×Int)):Prop where
 bds:Bds h w cs
 srt:cs.Pairwise plt
 few:(Qc8 cs h).length<=200000
theorem GB.r0{h w:Nat}{cs:List (Int×Int)}(g:GB h w cs):∀p∈cs,0<=p.1:=λp hp=>(g.bds.2.2 p hp).1
theorem GB.rh{h w:Nat}{cs:List (Int×Int)}(g:GB h w cs):∀p∈cs,p.1<(h:Int):=λp hp=>(g.bds.2.2 p hp).2.1
theorem Qn2{h w:Nat}{cs:List (Int×Int)}(g:GB h w cs)(k:Nat):(evS cs k).Perm ((Qc8 cs h).filter λL=>L.length == k):=by
 have nd:=Qso (g.srt.imp Qsz) g.r0 h;have s2:=Qdv g.srt g.r0 k;have n2:(evS cs k).Nodup:=QhJ (R:=QlF) (S:=λa b=>a≠b) (λ{S T} z (e:S=T)=>Qjw S (by rw[<- e] at z;exact z)) s2;refine(QhI n2 (Zh _ nd)).mpr λL=>?_
 rw[Js,Qce g.r0,QcV g.r0];constructor
 ·rintro⟨a,b⟩;exact⟨⟨a,λp hp=>g.rh p (a.sub p hp)⟩,by simpa using b⟩
 ·rintro⟨⟨a,_⟩,b⟩;exact⟨a,by simpa using b⟩
theorem Qx6{h w:Nat}{cs:List (Int×Int)}(g:GB h w cs)(k:Nat):((evS cs k).length:Int)=Wc cs h h 0 k:=by
 rw[<- QrQ g.bds.nn];unfold QAC;rw[(Qn2 g k).length_eq,List.countP_eq_length_filter]
theorem QsU{h w:Nat}{cs:List (Int×Int)}(g:GB h w cs)(k:Nat):(evS cs k).length<=200000:=by
 rw[(Qn2 g k).length_eq];exact Q7 (Qc6 _ _) g.few
def stL:Qa->List (Int×Int)
 |.tuple ds=>ds.map toP
 |_=>[]
theorem Qwm(L:List (Int×Int)):stL (stT L)=L:=Qfa L
def Qpy:DF:=λargs R _=>∃S:List (Int×Int),args=[.v (stT S)]/\R (.int (rbI S))
def Qx4:DF:=λargs R _=>∃(h w:Nat)(cs S:List (Int×Int)),args=[.v (bdD h w cs),.v (stT S)]/\R (.list ((fol cs S).map pairD))
def evD:DF:=λargs R _=>∃(h w:Nat)(cs:List (Int×Int))(k:Nat),args=[.v (bdD h w cs),.v (.int k)]/\GB h w cs/\k<=6/\R (.list ((evS cs k).map stT))
theorem Qu1{S:List (Int×Int)}{c:Int×Int}(h:S.getLast? = some c):atI (S.map pairD) (-1)=some (pairD c):=by
 obtain⟨xs,rfl⟩:=List.getLast?_eq_some_iff.mp h
 rw[JF];exact Qr0 _ _
def evG(cs:List (Int×Int))(d:Qa):List Qa:=(fol cs (stL d)).map λc=>stT (stL d++[c])
theorem Qn3(cs:List (Int×Int))(k:Nat):((evS cs k).map stT).flatMap (evG cs)=(evS cs (k+1)).map stT:=by
 show _=((evS cs k).flatMap λS=>(fol cs S).map λc=>S++[c]).map stT;rw[Qtj,List.map_flatMap];refine Qd5 λS _=>?_
 unfold evG;rw[Qwm,Jc];rfl
end Rk
namespace L2
section
variable{X:Cx}
end
end L2
namespace Dl
open L2 _root_.Rd Rk Rt
end Dl
namespace Rk
open L2 _root_.Rd Dl Rt
end Rk
namespace L2
open _root_.Rd
section
variable{X:Cx}
end
end L2
namespace Dl
open L2 _root_.Rd Rk Rt
section
variable{X:Cx}{E:XK}
end
end Dl
namespace Rk
open L2 _root_.Rd Dl Rt
def xts(cs:List (Int×Int)):Nat->List (Int×Int)->List (List (Int×Int))
 |0,S=>[S]
 |m+1,S=>(fol cs S).flatMap λc=>xts cs m (S++[c])
theorem QsT(cs:List (Int×Int)):∀(m j:Nat),(evS cs j).flatMap (xts cs m)=evS cs (j+m)
 |0,j=>by
  show(evS cs j).flatMap (λS=>[S])=evS cs j;rw[List.flatMap_singleton']
 |m+1,j=>by
  have h:=QsT cs m (j+1);rw[show j+1+m=j+(m+1) by omega] at h;rw[<- h];show(evS cs j).flatMap (λS=>(fol cs S).flatMap λc=>xts cs m (S++[c]))=((evS cs j).flatMap λS=>(fol cs S).map λc=>S++[c]).flatMap (xts cs m);rw[List.flatMap_assoc];refine Qd5 λS _=>?_
  rw[Qtj]
theorem Qn1(cs:List (Int×Int))(k:Nat):xts cs k []=evS cs k:=by
 have h:=QsT cs k 0;rw[JP] at h;rw[<- h];show _=[([]:List (Int×Int))].flatMap (xts cs k);simp
theorem QoO(cs:List (Int×Int))(h:Nat):∀(i t:Nat),Wc cs h i t 0=1
 |0,_=>rfl
 |i+1,t=>by
  show Wc cs h i t 0+0=1;rw[QoO cs h i t];rfl
theorem Qyz{h w:Nat}{cs:List (Int×Int)}(g:GB h w cs){T:List (Int×Int)}(hT:∀p∈T,p∈cs)(m:Nat):∀i,i<=h->Wc cs h i (mkL T) (m+1)=sumZ (λc=>Wc cs h (h - (c.1+1).toNat) (mkL (T++[c])) m) (cs.filter λc=>decide (((h - i:Nat):Int)<=c.1) && !decide (c.2∈T.map (·.2)))
 |0,_=>by
  have e:cs.filter (λc=>decide (((h - 0:Nat):Int)<=c.1) && !decide (c.2∈T.map (·.2)))=[]:=by
   rw[QaS];intro c hc;have:=g.rh c hc;rw[decide_eq_false (by omega)];exact Qv
  rw[e];rfl
 |i+1,hi=>by
  show Wc cs h i (mkL T) (m+1)+(if m+1=0 then 0 else Qpj (Wc cs h i) (mkL T) (QoY cs (h - 1 - i)) (m+1 - 1))=_;rw[if_neg (by omega),QaL,Qyz g hT m i (by omega),QaF,QaF];unfold QoY QhA;rw[Qe1,QaF,<- QgG];refine Qaf λc hc=>?_
  have h0:=g.r0 c hc;have hh:=g.rh c hc;have em:=Qju (L:=T) (c:=c) (λp hp=>g.bds.nn p (hT p hp)) (g.bds.nn c hc);by_cases y:c.2∈T.map (·.2)
  ·have bt:(mkL T).testBit c.2.toNat=true:=by rw[Qhp];exact decide_eq_true (em.mpr y)
   rw[decide_eq_true y,bt];simp
  ·have bn:(mkL T).testBit c.2.toNat=false:=by rw[Qhp];exact decide_eq_false λq=>y (em.mp q)
   rw[decide_eq_false y,bn];simp only[QiL,QyS,decide_eq_true_eq,Jn,if_false];rw[QeN];by_cases z:c.1=((h - 1 - i:Nat):Int)
   ·rw[if_neg (by omega),if_pos z,if_pos (by omega),show h - (c.1+1).toNat=i by omega];omega
   ·rw[if_neg z,Qdg];by_cases z2:((h - i:Nat):Int)<=c.1
    ·rw[if_pos z2,if_pos (by omega)]
    ·rw[if_neg z2,if_neg (by omega)]
theorem Qg4{α β:Type}(g:α->List β):∀xs:List α,((xs.flatMap g).length:Int)=sumZ (λx=>((g x).length:Int)) xs
 |[]=>rfl
 |x::xs=>by
  rw[ZT,Qs];show _=((g x).length:Int)+sumZ _ xs;rw[<- Qg4 g xs];omega
theorem Qwj{α:Type}(f:α->Int):∀xs:List α,(xs.map f).sum=sumZ f xs
 |[]=>rfl
 |x::xs=>by rw[JI,QyL,Qwj f xs];rfl
theorem QtL(S:List (Int×Int))(c:Int×Int):rbI (S++[c])=c.1+1:=by
 unfold rbI;rw[Ql9];rfl
theorem Qwx{h w:Nat}{cs S:List (Int×Int)}(g:GB h w cs)(st:Std cs S):0<=rbI S/\rbI S<=h:=by
 unfold rbI;cases e:S.getLast? with
 |none=>exact⟨Qo8 _,by show(0:Int)<=h;omega⟩
 |some d=>
  have hd:=st.sub d (Ql8 e);have a:=g.r0 d hd;have b:=g.rh d hd;exact⟨by show 0<=d.1+1;omega,by show d.1+1<=h;omega⟩
theorem Qfl{cs S:List (Int×Int)}{c:Int×Int}(st:Std cs S)(hc:c∈fol cs S):Std cs (S++[c]):=by
 have hc:=Js.mp hc;have hc2:=QJ.mp hc.2;refine st.snoc hc.1 ?_ (by simpa using hc2.2)
 rcases QkE st.rows (c:=c) with z | z | z
 ·exact z
 ·exact absurd (of_decide_eq_true hc2.1) z
 ·rw[z];exact λp hp=>(nomatch hp)
theorem Qmc{h w:Nat}{cs:List (Int×Int)}(g:GB h w cs):∀(m:Nat)(S:List (Int×Int)),Std cs S->((xts cs m S).length:Int)=Wc cs h (h - (rbI S).toNat) (mkL S) m
 |0,S,_=>by rw[QoO];rfl
 |m+1,S,st=>by
  have rb:=Qwx g st;show(((fol cs S).flatMap λc=>xts cs m (S++[c])).length:Int)=_;rw[Qg4,Qyz g st.sub m _ (Nat.sub_le _ _)];have e:(((h - (h - (rbI S).toNat):Nat):Nat):Int)=rbI S:=by omega
  rw[e];refine Qaf λc hc=>?_
  rw[Qmc g m (S++[c]) (Qfl st hc),QtL]
def tmN(cs L:List (Int×Int))(k a:Nat):Nat:=(((fol cs (L.take a)).filter λo=>decide (plt o (L.getD a (0,0)))).flatMap λo=>xts cs (k - a - 1) (L.take a++[o])).length
def numN(cs L:List (Int×Int))(k:Nat):Nat->Nat
 |0=>0
 |j+1=>numN cs L k j+tmN cs L k j
theorem Qef{c:Int×Int}:∀{xs:List (Int×Int)},xs.Pairwise plt->c∈xs->∃ys,xs=(xs.filter λo=>decide (plt o c))++c::ys
 |x::xs,h,hc=>by
  have h1:=QeA.mp h;rcases Qp.mp hc with z | z
  ·subst z;have e:(c::xs).filter (λo=>decide (plt o c))=[]:=by
    rw[QaS];intro o ho;rcases Qp.mp ho with y | y
    ·subst y;rw[decide_eq_false (λq=>by rcases q with q | q<;>omega)];exact Qv
    ·have:=h1.1 o y;rw[decide_eq_false (λq=>by rcases q with q | q<;>rcases this with t | t<;>omega)];exact Qv
   exact⟨xs,by rw[e];rfl⟩
  ·obtain⟨ys,e⟩:=Qef h1.2 z;refine⟨ys,?_⟩;have ef:(x::xs).filter (λo=>decide (plt o c))=x::xs.filter (λo=>decide (plt o c)):=Qcn (p:=λo=>decide (plt o c)) (decide_eq_true (h1.1 c z));rw[ef,List.cons_append,<- e]
theorem Qj4{cs L:List (Int×Int)}(st:Std cs L):∀j,Std cs (L.take j):=λj=>⟨λp hp=>st.sub p (Qbf hp),st.rows.sublist (Qb9 _ _),st.cols.sublist ((Qb9 _ _).map _)⟩
theorem QjY{L:List (Int×Int)}{j:Nat}(h:j<L.length):L.take (j+1)=L.take j++[L.getD j (0,0)]:=by
 rw[Yk,Qf h,QF,Qf h];rfl
theorem QrL{h w:Nat}{cs L:List (Int×Int)}(g:GB h w cs)(st:Std cs L){j:Nat}(hj:j<L.length):L.getD j (0,0)∈fol cs (L.take j):=by
 have s:=Qj4 st (j+1);rw[QjY hj] at s;obtain⟨s1,s2,s3,s4⟩:=s.init;refine Js.mpr ⟨s2,?_⟩;rw[JS];exact⟨decide_eq_true (Qww s3 (g.r0 _ s2)),by simpa using s4⟩
theorem Qnu{h w:Nat}{cs L:List (Int×Int)}(g:GB h w cs)(st:Std cs L):∀j,j<=L.length->∀i M,(xts cs (L.length - j) (L.take j))[i]? = some M->(evS cs L.length)[numN cs L L.length j+i]? = some M
 |0,_,i,M,hM=>by
  rw[<- Qn1];show(xts cs L.length [])[0+i]? = some M;rw[JP];exact hM
 |j+1,hj,i,M,hM=>by
  show(evS cs L.length)[numN cs L L.length j+tmN cs L L.length j+i]? = some M;rw[Nat.add_assoc];refine Qnu g st j (by omega) _ M ?_
  have hf:=QrL g st (show j<L.length by omega);have sp:(fol cs (L.take j)).Pairwise plt:=Zh _ g.srt;obtain⟨ys,e⟩:=Qef sp hf;have ek:L.length - j=(L.length - j - 1)+1:=by omega
  rw[ek];show((fol cs (L.take j)).flatMap λc=>xts cs (L.length - j - 1) (L.take j++[c]))[_]? = some M;rw[e,QbC,ZT];unfold tmN;rw[QX (Qgz _ _),Qk8];have hM:(xts cs (L.length - j - 1) (L.take j++[L.getD j (0,0)]))[i]? = some M:=by
   rw[<- QjY (by omega),show L.length - j - 1=L.length - (j+1) by omega];exact hM
  have il:=(QD.mp hM).1;rw[JN il];exact hM
theorem QsK{h w:Nat}{cs L:List (Int×Int)}(g:GB h w cs)(st:Std cs L):(evS cs L.length)[numN cs L L.length L.length]? = some L:=by
 have:=Qnu g st L.length (Qi _) 0 L (by rw[Qa3,ZN];rfl);exact this
theorem Qx5{h w:Nat}{cs:List (Int×Int)}(g:GB h w cs)(k:Nat):(evS cs k).Nodup:=
 QhJ (R:=QlF) (S:=λa b=>a≠b) (λ{S T} z (e:S=T)=>Qjw S (by rw[<- e] at z;exact z)) (Qdv g.srt g.r0 k)
theorem Qz9{α:Type}{xs:List α}(h:xs.Nodup){i j:Nat}{x:α}(hi:xs[i]? = some x)(hj:xs[j]? = some x):i=j:=by
 obtain⟨i1,i2⟩:=QD.mp hi;obtain⟨j1,j2⟩:=QD.mp hj;have hp:=QZ.mp h;by_cases z:i<j
 ·exact absurd (by rw[i2,j2]) (hp i j i1 j1 z)
 ·by_cases y:j<i
  ·exact absurd (by rw[i2,j2]) (hp j i j1 i1 y)
  ·omega
theorem Qkr{h w:Nat}{cs L:List (Int×Int)}(g:GB h w cs){k i:Nat}(hi:(evS cs k)[i]? = some L):numN cs L k k=i:=by
 obtain⟨st,hl⟩:=(Qce g.r0 k L).mp (QQ hi);subst hl;exact Qz9 (Qx5 g _) (QsK g st) hi
theorem QBQ{h w:Nat}(f:Nat->Nat->Bool)(h6:h<=6)(w6:w<=6):GB h w (cellsF h w f):=by
 refine⟨⟨h6,w6,λp hp=>Qip hp⟩,QhY w f h,Q7 (Qj3 (λr=>Qi9 w h f r) h) ?_⟩;have c:(w+1)^h<=7^h:=Nat.pow_le_pow_left (by omega) _;have d:7^h<=7^6:=Qao (by decide) h6;have e:(7:Nat)^6=117649:=rfl;omega
theorem Qsq{h w:Nat}{cs L:List (Int×Int)}(g:GB h w cs)(st:Std cs L):Qu8 h w cs (stT L)=true:=by
 refine Qmv (λp hp=>g.bds.2.2 p hp) st.sub ?_ (st.rows.imp λz=>.inl z)
 show(decide (L.map (·.1)).Nodup&&decide (L.map (·.2)).Nodup)=true;rw[decide_eq_true st.cols,QyS];exact decide_eq_true (ZS.mpr (st.rows.imp λ{a b}(z:a.1<b.1)=>by show a.1≠b.1;omega))
theorem Qe4{h w:Nat}{cs L:List (Int×Int)}(g:GB h w cs)(st:Std cs L):L.length<=min h w:=by
 have m:=(QcV g.r0 h L).mpr ⟨st,λp hp=>g.rh p (st.sub p hp)⟩;have a:=Qe3 h L m;have b:=Qms g.bds.col m;omega
theorem Qj0(cs:List (Int×Int))(h w:Nat):∀(i j:Nat),j<=i->(Qi1 cs h w i)[j]? = some (.list (Qi2 h w (Wc cs h (i - j))))
 |0,0,_=>rfl
 |i+1,0,_=>rfl
 |i+1,j+1,hj=>by
  show(Qi1 cs h w i)[j]? = _;rw[Qj0 cs h w i j (by omega),show i+1 - (j+1)=i - j by omega]
theorem Qxk:∀t:Fin 64,∀c:Fin 6,(t:Nat).testBit c=false->(t:Nat) ||| 2^(c:Nat)=t+2^(c:Nat):=by decide +kernel
theorem QsM{w:Nat}(w6:w<=6):∀{T S:List (Int×Int)},(∀p∈T++S,0<=p.2/\p.2<w)->((T++S).map (·.2)).Nodup->mkL T<2^w->((mkL T:Nat):Int)+(S.map λp=>(1*2^p.2.toNat:Int)).sum=((mkL (T++S):Nat):Int)/\mkL (T++S)<2^w
 |T,[],_,_,h=>by rw[Jz];exact⟨by show _+0=_;omega,h⟩
 |T,c::S,hb,nd,h=>by
  have hc:=hb c (by simp);have p64:2^w<=2^6:=Qao (by decide) w6;have e64:(2:Nat)^6=64:=rfl;have nt:(mkL T).testBit c.2.toNat=false:=by
   rw[Qhp];refine decide_eq_false λq=>?_
   have:=(Qju (L:=T) (c:=c) (λp hp=>(hb p (Zr _ hp)).1) hc.1).mp q;rw[JF,JI] at nd;exact(Yl.mp nd).2.2 _ this c.2 (.head _) rfl
  have eo:mkL T ||| 2^c.2.toNat=mkL T+2^c.2.toNat:=Qxk ⟨mkL T,by omega⟩ ⟨c.2.toNat,by omega⟩ nt;have lt:mkL (T++[c])<2^w:=by rw[QeN];exact Qxi h (by omega)
  have e1:T++c::S=(T++[c])++S:=by simp
  have ih:=QsM w6 (T:=T++[c]) (S:=S) (by rw[<- e1];exact hb) (by rw[<- e1];exact nd) lt;rw[e1];refine⟨?_,ih.2⟩;rw[<- ih.1,JI,QyL,QeN,eo];have:((2^c.2.toNat:Nat):Int)=(2:Int)^c.2.toNat:=by simp
  rw[Int.one_mul,<- this];omega
def Qpc:DF:=λargs R _=>∃(h w:Nat)(cs S:List (Int×Int))(k:Nat),args=[.v (.list (Qi1 cs h w h)),.v (stT S),.v (.int k)]/\GB h w cs/\Std cs S/\k<=h/\R (.int ((xts cs k S).length:Nat))
def QjH:DF:=λargs R _=>∃(h w:Nat)(cs S:List (Int×Int))(m n:Nat),args=[.v (bdD h w cs),.v (.list (Qi1 cs h w h)),.v (stT S),.v (.int m),.v (.int n)]/\GB h w cs/\Std cs S/\m<h/\n<(xts cs (m+1) S).length/\∀c (n':Nat),c∈fol cs S->n'<(xts cs m (S++[c])).length->(xts cs (m+1) S)[n]? = (xts cs m (S++[c]))[n']? -> R (.tuple [pairD c,.int n'])
def QlB(cs L:List (Int×Int)):Qa:=match (evS cs L.length)[numN cs L L.length L.length+1]? with
 |some M=>stT M
 |none=>.none
theorem Qg9{h w:Nat}{cs:List (Int×Int)}(g:GB h w cs)(k:Nat):Wc cs h h 0 k=((evS cs k).length:Int):=(Qx6 g k).symm
end Rk
namespace L2
section
variable{κ:Type}[DecidableEq κ]
end
section
variable{P:Qz}{w:Ji}{H:Hp}{h:Heap}{a:Addr}
end
section
variable{X:Cx}{pins:List (Addr×Obj)}{σ:St}{H:Hp}{s:Shared}{a:Addr}{y v:V}{u r:Value}{o:Option V}{A:Jb}{E:Value->Shared->Prop}
end
section
variable{X:Cx}{pins:List (Addr×Obj)}{σ:St}{H:Hp}{s:Shared}{a:Addr}{kvs:List (Key×V)}{k:Key}{u:Value}{A:Jb}{E:Value->Shared->Prop}
end
section
variable{X:Cx}{o i e value:Q3}{pos pos' tpos:Pos}{td ty tv:TE}
end
section
variable{X:Cx}{pos:Pos}
end
section
variable{X:Cx}{pins:List (Addr×Obj)}{σ:St}{H:Hp}{s:Shared}{a:Addr}{y d:V}{u r:Value}{o:Option V}{A:Jb}{E:Value->Shared->Prop}
end
section
variable{X:Cx}{o e f:Q3}{apos cpos:Pos}{td ty tx:TE}
end
section
variable{X:Cx}{pins:List (Addr×Obj)}{σ:St}{H:Hp}{s:Shared}{a:Addr}{kvs:List (Key×V)}{A:Jb}{E:Value->Shared->Prop}
end
section
variable{X:Cx}{pins:List (Addr×Obj)}{σ:St}{H:Hp}{s:Shared}{a:Addr}{y:V}{u:Value}{A:Jb}{E:Value->Shared->Prop}
end
end L2
namespace Dl
open L2 _root_.Rd Rk
section
variable{X:Cx}{E:XK}
theorem Qoa:∀{a b:List (Int×Int)},dkD a=dkD b->a=b
 |[],[],_=>rfl
 |[],_::_,h=>by cases h
 |_::_,[],h=>by cases h
 |p::a,q::b,h=>by
  have h:=Qo7 (show(QN p.1,QN p.2)::dkD a=(QN q.1,QN q.2)::dkD b from h);have h1:=Qb4 h.1;rw[Qoa h.2,Qez (Ql4 h1.1) (Ql4 h1.2)]
theorem DP.dict{A P:Addr->Prop}{H:Hp}{v:V}{kvs:List (Int×Int)}(h:DP A P H v (.dict (dkD kvs))):∃l,v=.ref l/\H l=some (.dK (dkV kvs)):=by
 rcases h with h | ⟨l,xs,ds',rfl,e,_⟩
 ·cases h with
  |dct n e q=>rw[Qoa q];exact⟨_,rfl,e⟩
 ·cases e
end
end Dl
namespace Rk
open L2 _root_.Rd Dl Rt
def oth(n:Nat)(o:List Nat):List Nat:=(Qw n).filter λx => !decide (x∈o)
end Rk
namespace HT
section
open PySem.SeqAt
open PySem.AutoSeq1 (wpAny_loadPart')
open PySem.MeetsSeq PySem.MeetsSeq2 PySem.MeetsSeq3
end
section
variable{prog:Qz}{w:Ji}{A:Jb}{E:Value->Shared->Prop}{s:Shared}
end
end HT
namespace L2
end L2
namespace Rk
open L2 _root_.Rd Dl Rt
theorem Qik{A:Addr->Prop}{H:Hp}(dm:∀a,A a->∃xs,H a=some (.lst xs)):∀{ys:List V}{M:List (Int×Int)},Dats H ys (M.map pairD)->DAs A H ys (M.map pairD)
 |[],[],_=>.nil
 |y::ys,p::M,.cons q qs=>by
  refine .cons ?_ (Qik dm qs)
  cases q with
  |tup e q2=>
   refine .tup (λz=>?_) e ?_
   ·obtain⟨xs,e2⟩:=dm _ z;rw[e] at e2;cases e2
   ·cases q2 with
    |cons a b=>
     cases b with
     |cons b c=>cases c;cases a;cases b;exact .cons (.int _) (.cons (.int _) .nil)
@[irreducible] def sortPD:List Qa->(Qa->Prop)->Prop:=λds Q=>∃L:List (Int×Int),ds=[.list (L.map pairD)]/\L.Nodup/\L.length<64/\(∀p∈L,0<=p.2/\p.2<64)/\∀M:List (Int×Int),M.Perm L->M.Pairwise plt->Q (.list (M.map pairD))
theorem sortP_of{L:List (Int×Int)}{Q:Qa->Prop}(h1:L.Nodup)(h2:L.length<64)(h3:∀p∈L,0<=p.2/\p.2<64)(k:∀M:List (Int×Int),M.Perm L->M.Pairwise plt->Q (.list (M.map pairD))):sortPD [.list (L.map pairD)] Q:=by
 unfold sortPD;exact⟨L,rfl,h1,h2,h3,k⟩
theorem cd_sortP:Qc3 QmQ sortPD:=λA P H vs ds R Q ln dm q h k=>by
 unfold sortPD at h;obtain⟨L,rfl,h1,h2,h3,hR⟩:=h;obtain⟨v,rfl,hv⟩:=pd1 q;obtain⟨l,xs,rfl,e,qq⟩:=hv.list;refine⟨l,xs,L,rfl,e,Qbr _ _ (QbH L) qq,h1,h2,h3,λt ys M H2 s n e2 dts pm pw=>?_⟩;have dm2:∀a,A a->∃xs,H2 a=some (.lst xs):=λa z=>by obtain⟨xs,e⟩:=dm a z;exact⟨xs,s _ _ e⟩
 have pl:M.Pairwise plt:=by
  have hb:∀p∈M,0<=p.2/\p.2<64:=λp hp=>h3 p (pm.mem_iff.mp hp)
  refine Qbh (λ{a b} ha hb' hc=>?_) pw;have:=hb a ha;have:=hb b hb';have hc:64*a.1+a.2<64*b.1+b.2:=hc;show a.1<b.1∨(a.1=b.1/\a.2<b.2);omega
 refine k _ (hR M pm pl) _ H2 s (.lst (λz=>?_) e2 (Qik dm2 dts)) (Qby n);obtain⟨xs,e⟩:=dm t z;rw[n] at e;cases e
end Rk
namespace Dl
open L2 _root_.Rd Rk Rt
end Dl
namespace Rk
open L2 _root_.Rd Dl Rt
end Rk
namespace Zt
def f5(M x:Nat):Nat:=(x*5+1) % M
def it5(M:Nat):Nat->Nat->Nat
 |0,x=>x
 |n+1,x=>it5 M n (f5 M x)
theorem Qg6(M:Nat):∀(m n x:Nat),it5 M (m+n) x=it5 M n (it5 M m x)
 |0,n,x=>by rw[JP];rfl
 |m+1,n,x=>by rw[Ql6];exact Qg6 M m n (f5 M x)
def Qyp(M:Nat):Nat->Nat->Nat->Nat
 |0,_,acc=>acc
 |n+1,x,acc=>Qyp M n (f5 M x) (acc ||| 2^x)
theorem QkV(M j:Nat):∀(n x acc:Nat),(Qyp M n x acc).testBit j=true->acc.testBit j=true∨∃b,b<n/\it5 M b x=j
 |0,_,_,h=>.inl h
 |n+1,x,acc,h=>by
  rcases QkV M j n (f5 M x) (acc ||| 2^x) h with z | ⟨b,hb,e⟩
  ·rw[QyI,Qhy,Qo3] at z;rcases z with z | z
   ·exact .inl z
   ·exact .inr ⟨0,by omega,by show x=j;simpa using z⟩
  ·exact .inr ⟨b+1,by omega,e⟩
def Qcg(M:Nat):Bool:=decide (Qyp M M 0 0=2^M - 1)&&decide (it5 M M 0=0)
theorem QsR:Qcg 8=true:=by decide +kernel
theorem Qve:Qcg 32=true:=by decide +kernel
theorem QrF:Qcg 128=true:=by decide +kernel
theorem QrE:Qcg 512=true:=by decide +kernel
theorem QnU:Qcg 2048=true:=by decide +kernel
theorem QrD{M:Nat}(h:Qcg M=true){i j:Nat}(hi:i<M)(hj:j<M):∃n,n<M/\it5 M n i=j:=by
 have h:=QJ.mp h;have h1:Qyp M M 0 0=2^M - 1:=of_decide_eq_true h.1;have h2:it5 M M 0=0:=of_decide_eq_true h.2;have all:∀k,k<M->∃b,b<M/\it5 M b 0=k:=λk hk=>by
  have:(Qyp M M 0 0).testBit k=true:=by rw[h1,Nat.testBit_two_pow_sub_one];exact decide_eq_true hk
  rcases QkV M k M 0 0 this with z | z
  ·simp at z
  ·exact z
 obtain⟨a,ha,rfl⟩:=all i hi;obtain⟨b,hb,rfl⟩:=all j hj;by_cases z:a<=b
 ·exact⟨b - a,by omega,by rw[<- Qg6,show a+(b - a)=b by omega]⟩
 ·refine⟨M - a+b,by omega,?_⟩;rw[<- Qg6,show a+(M - a+b)=M+b by omega,Qg6,h2]
def QcX(mask:Nat):Nat->Nat×Nat->Nat×Nat
 |0,p=>p
 |n+1,p=>QcX mask n (Yj mask p.1 p.2)
theorem Qid(mask:Nat):∀(m n:Nat)(p:Nat×Nat),QcX mask (m+n) p=QcX mask n (QcX mask m p)
 |0,n,p=>by rw[JP];rfl
 |m+1,n,p=>by rw[Ql6];exact Qid mask m n _
theorem Qib(mask:Nat):∀(n:Nat)(p:Nat×Nat),(QcX mask n p).2=p.2 / 32^n
 |0,p=>by show p.2=p.2 / 1;omega
 |n+1,p=>by
  show(QcX mask n (Yj mask p.1 p.2)).2=_;rw[Qib mask n];show p.2 / 32 / 32^n=_;rw[Nat.div_div_eq_div_mul,Nat.pow_succ,Nat.mul_comm]
theorem Qic(mask:Nat):∀(n i:Nat),QcX mask n (i,0)=(it5 (mask+1) n i,0)
 |0,i=>rfl
 |n+1,i=>by
  show QcX mask n (Yj mask i 0)=_;have:Yj mask i 0=(f5 (mask+1) i,0):=by
   show((i*5+1+0 / 32) % (mask+1),0 / 32)=_;simp[f5]
  rw[this,Qic mask n];rfl
theorem QkA{mask:Nat}:∀(n:Nat)(p:Nat×Nat),p.1<mask+1->(QcX mask n p).1<mask+1
 |0,_,h=>h
 |n+1,p,_=>QkA n _ (QdE _ (QbW _))
theorem Qgf{mask:Nat}(hg:Qcg (mask+1)=true){i perturb j:Nat}(hi:i<mask+1)(hp:perturb<2^64)(hj:j<mask+1):∃n,n<mask+14/\(QcX mask n (i,perturb)).1=j:=by
 have h13:=Qib mask 13 (i,perturb);have:perturb / 32^13=0:=Nat.div_eq_of_lt (Q0 hp (by decide));rw[show(i,perturb).2=perturb from rfl,this] at h13;have hl:=QkA 13 (i,perturb) hi;obtain⟨n,hn,e⟩:=QrD hg hl hj;refine⟨13+n,by omega,?_⟩;rw[Qid,show QcX mask 13 (i,perturb)=((QcX mask 13 (i,perturb)).1,0) from Qez rfl h13,Qic];exact e
def stps(t:SetTable):Nat->Zd->Zd
 |0,p=>p
 |n+1,p=>stps t n (t.advance p)
theorem Qaa(t:SetTable):∀(m n:Nat)(p:Zd),stps t (m+n) p=stps t n (stps t m p)
 |0,n,p=>by rw[JP];rfl
 |m+1,n,p=>by rw[Ql6];exact Qaa t m n _
def Qpw(t:SetTable)(i perturb:Nat)(d:Option Nat):Zd:={ j:=i,more:=Jp t.mask i - i,i:=i,perturb:=perturb,dummy:=d }
theorem QhQ(t:SetTable):∀(m j i perturb:Nat)(d:Option Nat),stps t m { j:=j,more:=m,i:=i,perturb:=perturb,dummy:=d }={ j:=j+m,more:=0,i:=i,perturb:=perturb,dummy:=d }
 |0,_,_,_,_=>rfl
 |m+1,j,i,perturb,d=>by
  show stps t m (t.advance _)=_;have:t.advance { j:=j,more:=m+1,i:=i,perturb:=perturb,dummy:=d }={ j:=j+1,more:=m,i:=i,perturb:=perturb,dummy:=d }:=by
   unfold Qac;rw[if_pos (by show m+1 > 0;omega)];rfl
  rw[this,QhQ t m,show j+1+m=j+(m+1) by omega]
theorem Qwt(mask i:Nat):Jp mask i - i<=9:=by unfold Jp;split<;>omega
theorem QgH(t:SetTable)(i perturb:Nat)(d:Option Nat):stps t (Jp t.mask i - i+1) (Qpw t i perturb d)=Qpw t (Yj t.mask i perturb).1 (Yj t.mask i perturb).2 d:=by
 rw[Qaa];unfold Qpw;rw[QhQ];simp only[stps];unfold Qac;rw[if_neg (by show ¬(0:Nat) > 0;omega)]
theorem QfR(t:SetTable)(d:Option Nat):∀(n i perturb:Nat),∃m,m<=10*n/\stps t m (Qpw t i perturb d)=Qpw t (QcX t.mask n (i,perturb)).1 (QcX t.mask n (i,perturb)).2 d
 |0,i,perturb=>⟨0,by omega,rfl⟩
 |n+1,i,perturb=>by
  obtain⟨m,hm,e⟩:=QfR t d n (Yj t.mask i perturb).1 (Yj t.mask i perturb).2;have:=Qwt t.mask i;refine⟨Jp t.mask i - i+1+m,by omega,?_⟩;rw[Qaa,QgH,e];rfl
theorem Qiv(h:Int):Jj h<2^64:=by
 unfold Jj;have:=Qse h (show(0:Int)<2^64 by decide);have:=Qv1 h (show(2^64:Int)≠0 by decide);omega
theorem Qlj(t:SetTable)(hg:Qcg (t.mask+1)=true)(h:Int){j:Nat}(hj:j<t.mask+1):∃m,m<10*JB t.mask/\(stps t m (t.probeStart h)).j=j:=by
 obtain⟨n,hn,e⟩:=Qgf (mask:=t.mask) hg (i:=Jj h % (t.mask+1)) (QdE _ (QbW _)) (Qiv h) hj;obtain⟨m,hm,e2⟩:=QfR t none n (Jj h % (t.mask+1)) (Jj h);refine⟨m,by unfold JB;omega,?_⟩;have:t.probeStart h=Qpw t (Jj h % (t.mask+1)) (Jj h) none:=rfl;rw[this,e2];exact e
theorem Qj2:∀{P Q:List Nat},P.Nodup->(∀p∈P,p∈Q)->P.length<=Q.length
 |[],_,_,_=>Qr _
 |p::P,Q,nd,h=>by
  have nd:=QaI.mp nd;have hp:=h p (.head _);have:=Qj2 (P:=P) (Q:=Q.erase p) nd.2 λx hx=>(List.mem_erase_of_ne (show x≠p from λe=>nd.1 (e ▸ hx))).mpr (h x (.tail _ hx))
  rw[QiS hp] at this;have:=List.length_pos_of_mem hp;rw[Qt];omega
theorem QrX{xs:Array Nat}{j:Nat}(pw:xs.toList.Pairwise (· < ·)):∀(fuel lo hi:Nat),hi - lo<=fuel->lo<=hi->hi<=xs.size->(∀k (hk:k<xs.size),k<lo->xs[k]<j)->(∀k (hk:k<xs.size),hi<=k->j<=xs[k]) ->
  Qbc xs j fuel lo hi<=xs.size/\(∀k (hk:k<xs.size),k<Qbc xs j fuel lo hi->xs[k]<j)/\∀k (hk:k<xs.size),Qbc xs j fuel lo hi<=k->j<=xs[k]:=by
 have mono:∀a b (ha:a<xs.size) (hb:b<xs.size),a<=b->xs[a]<=xs[b]:=λa b ha hb h=>by
  by_cases e:a=b
  ·subst e;exact Qi _
  ·have:=QZ.mp pw a b (by simpa using ha) (by simpa using hb) (by omega);simp only[JO] at this;omega
 intro fuel;induction fuel with
 |zero=>
  intro lo hi h1 h2 h3 h4 h5;have:lo=hi:=by omega
  subst this;exact⟨h3,h4,h5⟩
 |succ fuel ih=>
  intro lo hi h1 h2 h3 h4 h5;unfold Qbc;by_cases z:lo<hi
  ·rw[if_pos z]
   dsimp only
   have hm:(lo+hi) / 2<xs.size:=by omega
   have eg:xs.getD ((lo+hi) / 2) j=xs[(lo+hi) / 2]:=by simp[Zi,hm]
   rw[eg];by_cases y:xs[(lo+hi) / 2]<j
   ·rw[if_pos y];refine ih _ _ (by omega) (by omega) h3 (λk hk hlt=>?_) h5;have:=mono k ((lo+hi) / 2) hk hm (by omega);omega
   ·rw[if_neg y];refine ih _ _ (by omega) (by omega) (by omega) h4 λk hk hle=>?_
    have:=mono ((lo+hi) / 2) k hm hk hle;omega
  ·rw[if_neg z];have:lo=hi:=by omega
   subst this;exact⟨h3,h4,h5⟩
theorem QcA{xs:Array Nat}(pw:xs.toList.Pairwise (· < ·))(j:Nat):JR xs j<=xs.size/\(∀k (hk:k<xs.size),k<JR xs j->xs[k]<j)/\∀k (hk:k<xs.size),JR xs j<=k->j<=xs[k]:=
 QrX pw _ 0 xs.size (by omega) (Qr _) (Qi _) (λk hk h=>by omega) λk hk h=>by omega
structure Tab (t:SetTable):Prop where
 pw:t.place.toList.Pairwise (· < ·)
 le:∀x∈t.place.toList,x<=t.mask
 dm:t.dummies=#[]
 gd:Qcg (t.mask+1)=true
 pl:t.plain=true
 od:t.mask % 2=1
theorem Tab.slot_no{t:SetTable}(x:Tab t){j:Nat}(h:j∉t.place.toList):t.slot j=.empty:=by
 unfold QdC
 dsimp only
 rw[if_neg,x.dm]
 ·rfl
 ·intro z;have z:=eq_of_beq z;exact h (ZO.mpr (YY z))
theorem Tab.slot_dm{t:SetTable}(x:Tab t)(j:Nat):t.slot j≠.dummy:=by
 unfold QdC
 dsimp only
 split
 ·exact λe=>by cases e
 ·rw[x.dm,if_neg (by simp[QiF])];exact λe=>by cases e
theorem Tab.slot_e{t:SetTable}(x:Tab t){j:Nat}(h:t.slot j=.empty):j∉t.place.toList:=λhj=>by
 obtain⟨i,hi,e⟩:=QdF.mp hj;have hi':i<t.place.size:=by simpa using hi
 have e':t.place[i]=j:=by simpa using e
 obtain⟨b1,b2,b3⟩:=QcA x.pw j;have hb:JR t.place j=i:=by
  rcases ZV (JR t.place j) i with z | z | z
  ·have hb':JR t.place j<t.place.size:=by omega
   have h1:=b3 _ hb' (Qi _);have:=QZ.mp x.pw (JR t.place j) i (by simpa using hb') hi z;simp only[JO] at this;omega
  ·exact z
  ·have:=b2 i hi' z;omega
 unfold QdC at h
 dsimp only at h
 rw[hb,if_pos (by simp[hi',e'])] at h;cases h
theorem Tab.room{t:SetTable}(x:Tab t)(hs:t.place.size<=t.mask):∃j,j<t.mask+1/\j∉t.place.toList:=by
 apply Zb
 intro hn;have:∀p∈Qw (t.mask+1),p∈t.place.toList:=λp hp=>by
  apply Zb
  intro h;exact hn ⟨p,Jq.mp hp,h⟩
 have:=Qj2 Qth this;rw[Q1,Qc] at this;omega
theorem QiB(t:SetTable)(p:Zd):(t.advance p).dummy=p.dummy:=by
 unfold Qac;split<;>rfl
theorem Tab.put{t:SetTable}(x:Tab t){j:Nat}(hj:j∉t.place.toList)(hm:j<=t.mask):Tab (t.put j).1/\(t.put j).1.place.toList=t.place.toList.take (t.put j).2++j::t.place.toList.drop (t.put j).2/\(t.put j).1.mask=t.mask/\(t.put j).1.led=t.led/\(t.put j).1.moves=t.moves/\(t.put j).1.dummies=#[]:=by
 obtain⟨b1,b2,b3⟩:=QcA x.pw j;have hp:(t.put j).2=JR t.place j:=rfl;have hl:(t.put j).1.place.toList=t.place.toList.take (t.put j).2++j::t.place.toList.drop (t.put j).2:=Qgt _ _ _;have hd:(t.put j).1.dummies=#[]:=by
  show(if QiF t.dummies j=true then _ else t.dummies)=#[];rw[x.dm,if_neg (by simp[QiF])]
 have lo:∀a∈t.place.toList.take (JR t.place j),a<j:=λa ha=>by
  obtain⟨k,hk,e⟩:=QdF.mp ha;rw[JH] at hk;rw[List.getElem_take] at e;have hk2:k<t.place.size:=by rw[Qc] at hk;omega
  have:=b2 k hk2 (by omega);rw[JO] at e;omega
 have hi:∀a∈t.place.toList.drop (JR t.place j),j<a:=λa ha=>by
  have hne:a≠j:=λe=>hj (e ▸ Qbg ha)
  obtain⟨k,hk,e⟩:=QdF.mp ha;rw[YE,Qc] at hk;rw[List.getElem_drop,JO] at e;have:=b3 (JR t.place j+k) (by omega) (by omega);omega
 refine⟨⟨?_,?_,hd,x.gd,x.pl,x.od⟩,hl,rfl,rfl,rfl,hd⟩
 ·rw[hl,hp,Jh,QeA];refine⟨x.pw.sublist (Qb9 _ _),⟨hi,x.pw.sublist (List.drop_sublist _ _)⟩,λa ha b hb=>?_⟩;rcases Qp.mp hb with z | z
  ·subst z;exact lo a ha
  ·have:=lo a ha;have:=hi b z;omega
 ·intro a ha;rw[hl] at ha;rcases Ja.mp ha with z | z
  ·exact x.le a (Qbf z)
  ·rcases Qp.mp z with z | z
   ·subst z;exact hm
   ·exact x.le a (Qbg z)
theorem QnW{mask:Nat}{owner:Array (Option Nat)}:∀(n fuel i perturb:Nat),n<fuel->owner.getD (QcX mask n (i,perturb)).1 (some 0)=none->∃j,JA mask owner fuel i perturb=some j/\owner.getD j (some 0)=none:=by
 intro n;induction n with
 |zero=>
  intro fuel i perturb hf he;obtain⟨fuel,rfl⟩:∃m,fuel=m+1:=⟨fuel - 1,by omega⟩
  unfold JA;cases hfd:(Qw (Jp mask i+1 - i)).find? λk=>(owner.getD (i+k) (some 0)).isNone with
  |some k=>
   have:=QvO hfd;exact⟨i+k,rfl,by simpa using this⟩
  |none=>
   have:=Qo5.mp hfd 0 (Jq.mpr (by unfold Jp;split<;>omega));rw[Qdf,show owner.getD i (some 0)=none from he] at this;exact absurd rfl this
 |succ n ih=>
  intro fuel i perturb hf he;obtain⟨fuel,rfl⟩:∃m,fuel=m+1:=⟨fuel - 1,by omega⟩
  unfold JA;cases hfd:(Qw (Jp mask i+1 - i)).find? λk=>(owner.getD (i+k) (some 0)).isNone with
  |some k=>
   have:=QvO hfd;exact⟨i+k,rfl,by simpa using this⟩
  |none=>exact ih fuel _ _ (by omega) he
theorem Qcx{f g:Nat->Option Nat}:∀{l:List Nat},(∀x∈l,f x=g x)->l.filterMap f=l.filterMap g
 |[],_=>rfl
 |x::l,h=>by
  rw[Yv,Yv,h x (.head _),Qcx λy hy=>h y (.tail _ hy)]
theorem QsS(f:Nat->Option Nat)(j k:Nat)(hf:f j=none):∀M,j<M->((Qw M).filterMap λx=>if x=j then some k else f x).Perm (k::(Qw M).filterMap f)
 |0,h=>absurd h (ZY _)
 |M+1,h=>by
  rw[Y1,Ya,Ya];by_cases z:M=j
  ·subst z;have e:((Qw M).filterMap λx=>if x=M then some k else f x)=(Qw M).filterMap f:=Qcx λx hx=>if_neg (by have:=Jq.mp hx;omega)
   rw[e];have e2:([M].filterMap λx=>if x=M then some k else f x)=[k]:=by simp
   have e3:[M].filterMap f=[]:=by simp[hf]
   rw[e2,e3,Jz];exact Z8
  ·have ih:=QsS f j k hf M (by omega);have e2:([M].filterMap λx=>if x=j then some k else f x)=[M].filterMap f:=Qcx λx hx=>by
    rw[Q6.mp hx,if_neg z]
   rw[e2];exact ih.append_right _
def Lv(mask:Nat)(owner:Array (Option Nat)):List Nat:=(Qw (mask+1)).filterMap λj=>owner.getD j none
theorem QnZ{f:Nat->Option Nat}:∀{M:Nat},(∀j,j<M->f j≠none)->((Qw M).filterMap f).length=M
 |0,_=>rfl
 |M+1,h=>by
  rw[Y1,Ya,Qs,QnZ λj hj=>h j (by omega)];cases e:f M with
  |none=>exact absurd e (h M (by omega))
  |some y=>simp[e]
structure Own (mask:Nat) (owner:Array (Option Nat)) (k:Nat):Prop where
 sz:owner.size=mask+1
 pm:(Lv mask owner).Perm (Qw k)
theorem QkB{mask:Nat}(hg:Qcg (mask+1)=true){owner:Array (Option Nat)}{k:Nat}(x:Own mask owner k)(hk:k<=mask)(h:Int):∃j,JA mask owner (JB mask) (Jj h % (mask+1)) (Jj h)=some j/\Own mask (owner.setIfInBounds j (some k)) (k+1):=by
 obtain⟨e,he,hn⟩:∃e,e<mask+1/\owner.getD e none=none:=by
  apply Zb
  intro hno;have:=QnZ (f:=λj=>owner.getD j none) (M:=mask+1) λj hj z=>hno ⟨j,hj,z⟩
  have h2:=x.pm.length_eq;rw[Q1] at h2;unfold Lv at h2;omega
 have gd:∀j,j<mask+1->owner.getD j (some 0)=owner.getD j none:=λj hj=>by
  have:j<owner.size:=by rw[x.sz];exact hj
  simp[Zi,this]
 obtain⟨n,hn',e2⟩:=Qgf hg (i:=Jj h % (mask+1)) (perturb:=Jj h) (QdE _ (QbW _)) (Qiv h) he;obtain⟨j,hj,hj0⟩:=QnW (mask:=mask) (owner:=owner) n (JB mask) (Jj h % (mask+1)) (Jj h) (by unfold JB;omega) (by rw[e2,gd e he];exact hn);have hjs:j<owner.size:=by
  apply Zb
  intro z;simp[Zi,z] at hj0
 refine⟨j,hj,by rw[QiM];exact x.sz,?_⟩;have e3:Lv mask (owner.setIfInBounds j (some k))=(Qw (mask+1)).filterMap λy=>if y=j then some k else owner.getD y none:=Qcx λy hy=>by
  have hy:=Jq.mp hy;have hys:y<owner.size:=by rw[x.sz];exact hy
  by_cases z:y=j
  ·subst z;simp[Zi,hys]
  ·rw[if_neg z];simp[Zi,hys,Qbw,QdD z]
 rw[e3];refine(QsS _ j k (by rw[<- gd j (by rw[<- x.sz];exact hjs)];exact hj0) _ (by rw[<- x.sz];exact hjs)).trans ?_
 refine(show(k::(Qw (mask+1)).filterMap λy=>owner.getD y none).Perm (k::Qw k) from x.pm.cons k).trans ?_
 rw[show Qw (k+1)=Qw k++[k] from Y1];exact Z8 (l₁:=[k])
theorem QnH{mask:Nat}(hg:Qcg (mask+1)=true):∀(hs:List Int)(owner:Array (Option Nat))(k:Nat),Own mask owner k->k+hs.length<=mask+1->∃owner',hs.foldl (λacc h=>do
  let (owner,k) <- acc
  let j <- JA mask owner (JB mask) (Jj h % (mask+1)) (Jj h)
  pure (owner.setIfInBounds j (some k),k+1)) (some (owner,k))=some (owner',k+hs.length)/\Own mask owner' (k+hs.length)
 |[],owner,k,x,_=>⟨owner,rfl,x⟩
 |h::hs,owner,k,x,hl=>by
  rw[Qt] at hl;obtain⟨j,hj,y⟩:=QkB hg x (by omega) h;obtain⟨o',e,z⟩:=QnH hg hs _ (k+1) y (by omega);refine⟨o',?_,by rw[Qt,show k+(hs.length+1)=k+1+hs.length by omega];exact z⟩;rw[QaJ,Qt,show k+(hs.length+1)=k+1+hs.length by omega,<- e]
  congr 1
  show(JA mask owner (JB mask) (Jj h % (mask+1)) (Jj h)).bind _=_;rw[hj];rfl
theorem Qne(mask:Nat):Own mask (Qbv (mask+1) none) 0:=by
 refine⟨by simp,?_⟩;have:Lv mask (Qbv (mask+1) none)=[]:=by
  unfold Lv;rw[List.filterMap_eq_nil_iff];intro j hj;have:=Jq.mp hj;simp[Zi,this]
 rw[this];exact Z2 _
theorem Qu2{mask finger moves:Nat}{led:Bool}(hg:Qcg (mask+1)=true)(ho:mask % 2=1)(hashes:Array Int)(hl:hashes.size<=mask) :
  ∃t order,Qa0 mask finger moves led true hashes=some (t,order)/\Tab t/\t.mask=mask/\t.led=led/\t.place.size=hashes.size/\order.toList.Perm (Qw hashes.size):=by
 obtain⟨owner,e,x⟩:=QnH hg hashes.toList (Qbv (mask+1) none) 0 (Qne mask) (by rw[Qc];omega);rw[JP,Qc] at e x;have ec:QbJ mask hashes=some owner:=by
  unfold QbJ;rw[<- QoV];exact congrArg (λz=>z.map (·.1)) e
 have el:Qa0 mask finger moves led true hashes=some ({ mask:=mask,place:=(((Qw (mask+1)).filterMap λj=>(owner.getD j none).map (j,·)).map (·.1)).toArray,dummies:=#[],finger:=finger,led:=led,moves:=moves,plain:=true },(((Qw (mask+1)).filterMap λj=>(owner.getD j none).map (j,·)).map (·.2)).toArray):=by
  unfold Qa0;rw[ec];rfl
 have e2:((Qw (mask+1)).filterMap λj=>(owner.getD j none).map (j,·)).map (·.2)=Lv mask owner:=by
  unfold Lv;rw[Qo4];exact Qcx λy _=>by cases owner.getD y none<;>rfl
 have e1:((Qw (mask+1)).filterMap λj=>(owner.getD j none).map (j,·)).map (·.1)=(Qw (mask+1)).filterMap λj=>(owner.getD j none).map λ_=>j:=by
  rw[Qo4];exact Qcx λy _=>by cases owner.getD y none<;>rfl
 have len:(((Qw (mask+1)).filterMap λj=>(owner.getD j none).map (j,·)).map (·.1)).length=hashes.size:=by
  rw[Qh];have h1:=congrArg QoU e2;rw[Qh,x.pm.length_eq,Q1] at h1;exact h1
 refine⟨_,_,el,⟨?_,?_,rfl,hg,rfl,ho⟩,rfl,rfl,by rw[Ql];exact len,by rw[ZW,e2];exact x.pm⟩
 ·show QyO (· < ·) (ZR _).toList;rw[ZW,e1,List.pairwise_filterMap];refine Qk9.imp λ{a b} h=>?_
  intro c hc d hd;cases hoa:owner.getD a none with
  |none=>rw[hoa] at hc;cases hc
  |some _=>
   cases hob:owner.getD b none with
   |none=>rw[hob] at hd;cases hd
   |some _=>rw[hoa] at hc;rw[hob] at hd;cases hc;cases hd;exact h
 ·intro y hy;have hy:y∈(((Qw (mask+1)).filterMap λj=>(owner.getD j none).map (j,·)).map (·.1)).toArray.toList:=hy;rw[ZW,e1] at hy;obtain⟨a,ha,e⟩:=Z9.mp hy;have:=Jq.mp ha;cases hoa:owner.getD a none with
  |none=>rw[hoa] at e;cases e
  |some _=>
   rw[hoa] at e;cases e;show a<=mask;omega
theorem Qlx{α:Type}{es:Array α}{order:Array Nat}(h:order.toList.Perm (Qw es.size)):(order.filterMap (es[·]?)).toList.Perm es.toList:=by
 rw[QjR];refine(h.filterMap _).trans ?_
 have:(Qw es.size).filterMap (es[·]?)=es.toList:=by
  apply Zj
  intro i;have key:∀n,n<=es.size->(Qw n).filterMap (es[·]?)=es.toList.take n:=λn=>by
   induction n with
   |zero=>intro _;rfl
   |succ n ih=>
    intro hn;rw[Y1,Ya,ih (by omega),Yk];have:es[n]? = some es[n]:=by simp[show n<es.size by omega]
    simp[this]
  rw[key _ (Qi _),<- Qc,ZN]
 rw[this]
theorem Qr1{t t':SetTable}(h:t'.mask=t.mask)(p:Zd):t'.advance p=t.advance p:=by
 unfold Qac;rw[h]
theorem Qcc{t t':SetTable}(h:t'.mask=t.mask):∀(n:Nat)(p:Zd),stps t' n p=stps t n p
 |0,_=>rfl
 |n+1,p=>by
  show stps t' n (t'.advance p)=stps t n (t.advance p);rw[Qr1 h,Qcc h n]
theorem Qcq{t t':SetTable}(h:t'.mask=t.mask)(x:Int):t'.probeStart x=t.probeStart x:=by
 unfold SetTable.probeStart;rw[h]
structure PIn (t:SetTable) (p:Zd):Prop where
 a:p.j+p.more<=t.mask
 b:p.i<=t.mask
theorem QhV{mask i:Nat}(h:i<=mask):i+(Jp mask i - i)<=mask:=by unfold Jp;split<;>omega
theorem PIn.adv{t:SetTable}{p:Zd}(x:PIn t p):PIn t (t.advance p):=by
 unfold Qac;split
 ·exact⟨by show p.j+1+(p.more - 1)<=_;have:=x.a;omega,x.b⟩
 ·have:(Yj t.mask p.i p.perturb).1<=t.mask:=Qtf (QdE _ (QbW _));exact⟨QhV this,this⟩
theorem PIn.stps{t:SetTable}:∀(n:Nat){p:Zd},PIn t p->PIn t (stps t n p)
 |0,_,x=>x
 |n+1,_,x=>PIn.stps n x.adv
theorem PIn.start(t:SetTable)(h:Int):PIn t (t.probeStart h):=by
 have:Jj h % (t.mask+1)<=t.mask:=Qtf (QdE _ (QbW _));exact⟨QhV this,this⟩
theorem Qi5(t:SetTable)(h:Int)(n:Nat):(stps t n (t.probeStart h)).j<=t.mask:=by
 have:=(PIn.stps n (PIn.start t h)).a;omega
def Rch(t:SetTable)(j:Nat)(h:Int):Prop:=∃n,(stps t n (t.probeStart h)).j=j/\∀m,m<n->(stps t m (t.probeStart h)).j∈t.place.toList
theorem Rch.mono{t t':SetTable}{j:Nat}{h:Int}(x:Rch t j h)(hm:t'.mask=t.mask)(hs:∀y∈t.place.toList,y∈t'.place.toList):Rch t' j h:=by
 obtain⟨n,e,k⟩:=x;refine⟨n,by rw[Qcq hm,Qcc hm];exact e,λm hlt=>?_⟩;rw[Qcq hm,Qcc hm];exact hs _ (k m hlt)
theorem Tab.slot_l{t:SetTable}{j i:Nat}(h:t.slot j=.live i):t.place[i]? = some j:=by
 unfold QdC at h
 dsimp only at h
 split at h
 ·rename_i e
  cases h;exact eq_of_beq e
 ·split at h<;>cases h
theorem Tab.slot_at{t:SetTable}(x:Tab t){i:Nat}{j:Nat}(h:t.place[i]? = some j):t.slot j=.live i:=by
 have hj:j∈t.place.toList:=ZO.mpr (YY h);cases hs:t.slot j with
 |empty=>exact absurd hj (x.slot_e hs)
 |dummy=>exact absurd hs (x.slot_dm j)
 |live i'=>
  have h':=Tab.slot_l hs;obtain⟨h1,e1⟩:=Z3.mp h;obtain⟨h2,e2⟩:=Z3.mp h'
  congr 1
  rcases ZV i' i with z | z | z
  ·have:=QZ.mp x.pw i' i (by simpa using h2) (by simpa using h1) z;simp only[JO] at this;omega
  ·exact z
  ·have:=QZ.mp x.pw i i' (by simpa using h1) (by simpa using h2) z;simp only[JO] at this;omega
theorem QrI{t:SetTable}(x:Tab t)(hashAt:Nat->Int)(h:Int):∀(n fuel:Nat)(p:Zd),n<fuel->t.slot (stps t n p).j=.empty->p.dummy=none ->
  ∃k,k<=n/\(∀m,m<k->∃i,t.slot (stps t m p).j=.live i/\hashAt i≠h)/\((JE t hashAt h fuel p=some (.empty (stps t k p).j none)/\t.slot (stps t k p).j=.empty)∨(k<n/\∃i,JE t hashAt h fuel p=some (.candidate (stps t k p).j i (stps t (k+1) p))/\t.slot (stps t k p).j=.live i/\hashAt i=h)):=by
 intro n;induction n with
 |zero=>
  intro fuel p hf he hd;obtain⟨fuel,rfl⟩:∃m,fuel=m+1:=⟨fuel - 1,by omega⟩
  refine⟨0,Qi _,λm hm=>absurd hm (ZY _),.inl ⟨?_,he⟩⟩;unfold JE;rw[show t.slot p.j=.empty from he]
  dsimp only
  rw[hd];rfl
 |succ n ih=>
  intro fuel p hf he hd;obtain⟨fuel,rfl⟩:∃m,fuel=m+1:=⟨fuel - 1,by omega⟩
  cases hs:t.slot p.j with
  |empty=>
   refine⟨0,Qr _,λm hm=>absurd hm (ZY _),.inl ⟨?_,hs⟩⟩;unfold JE;rw[hs]
   dsimp only
   rw[hd];rfl
  |dummy=>exact absurd hs (x.slot_dm _)
  |live i=>
   by_cases z:hashAt i=h
   ·refine⟨0,Qr _,λm hm=>absurd hm (ZY _),.inr ⟨QbW _,i,?_,hs,z⟩⟩;unfold JE;rw[hs]
    dsimp only
    rw[if_pos (by simp[z])];rfl
   ·obtain⟨k,hk,ps,q⟩:=ih fuel (t.advance p) (by omega) he (by rw[QiB];exact hd);have eg:JE t hashAt h (fuel+1) p=JE t hashAt h fuel (t.advance p):=by
     conv=>lhs;unfold JE
     rw[hs]
     dsimp only
     rw[if_neg (by simp[z])]
    have ps':∀m,m<k+1->∃i,t.slot (stps t m p).j=.live i/\hashAt i≠h:=λm hm=>by
     cases m with
     |zero=>exact⟨i,hs,z⟩
     |succ m=>exact ps m (by omega)
    rcases q with⟨q1,q2⟩ | ⟨q0,i',q1,q2,q3⟩
    ·exact⟨k+1,by omega,ps',.inl ⟨by rw[eg];exact q1,q2⟩⟩
    ·exact⟨k+1,by omega,ps',.inr ⟨by omega,i',by rw[eg];exact q1,q2,q3⟩⟩
theorem Qsp(t:SetTable):∀(k m j i perturb:Nat)(d:Option Nat),k<=m->(stps t k { j:=j,more:=m,i:=i,perturb:=perturb,dummy:=d }).j=j+k
 |0,_,_,_,_,_,_=>rfl
 |k+1,m,j,i,perturb,d,h=>by
  obtain⟨m,rfl⟩:∃m',m=m'+1:=⟨m - 1,by omega⟩
  show(stps t k (t.advance _)).j=_;have:t.advance { j:=j,more:=m+1,i:=i,perturb:=perturb,dummy:=d }={ j:=j+1,more:=m,i:=i,perturb:=perturb,dummy:=d }:=by
   unfold Qac;rw[if_pos (by show m+1 > 0;omega)];rfl
  rw[this,Qsp t k m _ _ _ _ (by omega)];omega
theorem QrK{t:SetTable}{owner:Array (Option Nat)}:∀(fuel i perturb j:Nat),JA t.mask owner fuel i perturb=some j->∃n,(stps t n (Qpw t i perturb none)).j=j/\∀m,m<n->owner.getD (stps t m (Qpw t i perturb none)).j (some 0)≠none:=by
 intro fuel;induction fuel with
 |zero=>intro i perturb j h;cases h
 |succ fuel ih=>
  intro i perturb j h;unfold JA at h;have jr:∀k,k<=Jp t.mask i - i->(stps t k (Qpw t i perturb none)).j=i+k:=λk hk=>Qsp t k _ _ _ _ _ hk
  have re:Jp t.mask i+1 - i=Jp t.mask i - i+1:=by unfold Jp;split<;>omega
  cases hfd:(Qw (Jp t.mask i+1 - i)).find? λk=>(owner.getD (i+k) (some 0)).isNone with
  |some k=>
   rw[hfd] at h;cases h;obtain⟨_,hk,hb⟩:=List.find?_range_eq_some.mp hfd
   have hk:=Jq.mp hk;rw[re] at hk;refine⟨k,jr k (by omega),λm hm=>?_⟩;rw[jr m (by omega)];have:=hb m hm;intro z;rw[z] at this;cases this
  |none=>
   rw[hfd] at h;obtain⟨n,e,w⟩:=ih _ _ _ h;have all:=Qo5.mp hfd;refine⟨Jp t.mask i - i+1+n,by rw[Qaa,QgH];exact e,λm hm=>?_⟩;by_cases z:m<Jp t.mask i - i+1
   ·rw[jr m (by omega)];have:=all m (Jq.mpr (by omega));intro y;rw[y] at this;exact this rfl
   ·obtain⟨m',rfl⟩:∃m',m=Jp t.mask i - i+1+m':=⟨m - (Jp t.mask i - i+1),by omega⟩
    rw[Qaa,QgH];exact w m' (by omega)
def tM(mask:Nat):SetTable:={ mask:=mask,place:=#[],dummies:=#[],finger:=0,led:=true,moves:=0,plain:=true }
def Qy3(mask:Nat)(owner:Array (Option Nat))(H:Nat->Int):Prop:=∀j k,owner.getD j none=some k->∃n,(stps (tM mask) n ((tM mask).probeStart (H k))).j=j/\∀m,m<n->owner.getD (stps (tM mask) m ((tM mask).probeStart (H k))).j none≠none
theorem QnG{mask:Nat}(hg:Qcg (mask+1)=true){owner:Array (Option Nat)}{k:Nat}{H:Nat->Int}(x:Own mask owner k)(w:Qy3 mask owner H)(hk:k<=mask):∃j,JA mask owner (JB mask) (Jj (H k) % (mask+1)) (Jj (H k))=some j/\Own mask (owner.setIfInBounds j (some k)) (k+1)/\Qy3 mask (owner.setIfInBounds j (some k)) H:=by
 obtain⟨j,hj,y⟩:=QkB hg x hk (H k);refine⟨j,hj,y,?_⟩;have gr:∀z,owner.getD z none≠none->(owner.setIfInBounds j (some k)).getD z none≠none:=λz hz=>by
  have hs:z<owner.size:=by
   apply Zb
   intro c;exact hz (by simp[Zi,c])
  by_cases e:j=z
  ·subst e;simp[Zi,hs]
  ·have:(owner.setIfInBounds j (some k)).getD z none=owner.getD z none:=by simp[Zi,hs,Qbw,e]
   rw[this];exact hz
 obtain⟨n,e,way⟩:=QrK (t:=tM mask) _ _ _ _ hj;intro j' k' h';by_cases z:j=j'
 ·subst z;have hs:j<owner.size:=by
   apply Zb
   intro c;simp[Zi,c] at h'
  have ek:k'=k:=by
   simp[Zi,hs] at h';exact h'.symm
  subst ek;refine⟨n,e,λm hm=>gr _ ?_⟩;have h1:=way m hm;have h2:(stps (tM mask) m ((tM mask).probeStart (H k'))).j<=mask:=Qi5 (tM mask) (H k') m;have h3:(stps (tM mask) m ((tM mask).probeStart (H k'))).j<owner.size:=by rw[x.sz];omega
  have h1:owner.getD (stps (tM mask) m ((tM mask).probeStart (H k'))).j (some 0)≠none:=h1
  simpa [Zi,h3] using h1
 ·have h2:owner.getD j' none=some k':=by
   have hs:j'<owner.size:=by
    apply Zb
    intro c;simp[Zi,c] at h'
   rw[<- h'];simp[Zi,hs,Qbw,z]
  obtain⟨n',e',way'⟩:=w j' k' h2;exact⟨n',e',λm hm=>gr _ (way' m hm)⟩
theorem QkD{mask:Nat}(hg:Qcg (mask+1)=true)(H:Nat->Int):∀(hs:List Int)(owner:Array (Option Nat))(k:Nat),Own mask owner k->Qy3 mask owner H->(∀i (hi:i<hs.length),H (k+i)=hs[i])->k+hs.length<=mask+1->∃owner',hs.foldl (λacc h=>do
  let (owner,k) <- acc
  let j <- JA mask owner (JB mask) (Jj h % (mask+1)) (Jj h)
  pure (owner.setIfInBounds j (some k),k+1)) (some (owner,k))=some (owner',k+hs.length)/\Own mask owner' (k+hs.length)/\Qy3 mask owner' H
 |[],owner,k,x,w,_,_=>⟨owner,rfl,x,w⟩
 |h::hs,owner,k,x,w,hH,hl=>by
  rw[Qt] at hl;have e0:H k=h:=hH 0 (by simp);obtain⟨j,hj,y,y2⟩:=QnG hg x w (by omega);rw[e0] at hj;obtain⟨o',e,z,z2⟩:=QkD hg H hs _ (k+1) y y2 (λi hi=>by
   have:=hH (i+1) (by rw[Qt];omega);rw[show k+1+i=k+(i+1) by omega,this];rfl) (by omega)
  refine⟨o',?_,by rw[Qt,show k+(hs.length+1)=k+1+hs.length by omega];exact z,z2⟩;rw[QaJ,Qt,show k+(hs.length+1)=k+1+hs.length by omega,<- e]
  congr 1
  show(JA mask owner (JB mask) (Jj h % (mask+1)) (Jj h)).bind _=_;rw[hj];rfl
theorem QlG{mask finger moves:Nat}{led:Bool}(hg:Qcg (mask+1)=true)(ho:mask % 2=1)(hashes:Array Int)(hl:hashes.size<=mask) :
  ∃t order,Qa0 mask finger moves led true hashes=some (t,order)/\Tab t/\t.mask=mask/\t.led=led/\t.place.size=hashes.size/\order.toList.Perm (Qw hashes.size)/\∀(i j k:Nat),t.place[i]? = some j->order[i]? = some k->Rch t j (hashes.getD k 0):=by
 obtain⟨owner,e,x,w⟩:=QkD hg (λk=>hashes.getD k 0) hashes.toList (Qbv (mask+1) none) 0 (Qne mask) (λj k h=>by
   have:(Qbv (mask+1) (none:Option Nat)).getD j none=none:=by
    by_cases c:j<mask+1<;>simp[Zi,c]
   rw[this] at h;cases h) (λi hi=>by
   have hi':i<hashes.size:=by simpa using hi
   simp[Zi,hi']) (by rw[Qc];omega)
 rw[JP,Qc] at e x;have ec:QbJ mask hashes=some owner:=by
  unfold QbJ;rw[<- QoV];exact congrArg (λz=>z.map (·.1)) e
 have el:Qa0 mask finger moves led true hashes=some ({ mask:=mask,place:=(((Qw (mask+1)).filterMap λj=>(owner.getD j none).map (j,·)).map (·.1)).toArray,dummies:=#[],finger:=finger,led:=led,moves:=moves,plain:=true },(((Qw (mask+1)).filterMap λj=>(owner.getD j none).map (j,·)).map (·.2)).toArray):=by
  unfold Qa0;rw[ec];rfl
 obtain⟨t,order,e2,T,m1,m2,m3,m4⟩:=Qu2 (finger:=finger) (moves:=moves) (led:=led) hg ho hashes hl;rw[el] at e2;have e2:=Qm e2;have et:_=t:=congrArg Prod.fst e2;have eo:_=order:=congrArg Prod.snd e2;refine⟨t,order,by rw[el,e2],T,m1,m2,m3,m4,λi j k hj hk=>?_⟩;have live:∀y z,(y,z)∈((Qw (mask+1)).filterMap λj=>(owner.getD j none).map (j,·))↔y<=mask/\owner.getD y none=some z:=λy z=>by
  rw[Z9];constructor
  ·rintro⟨a,ha,e⟩;have:=Jq.mp ha;cases hoa:owner.getD a none with
   |none=>rw[hoa] at e;cases e
   |some b=>rw[hoa] at e;cases e;exact⟨by omega,hoa⟩
  ·rintro⟨h1,h2⟩;exact⟨y,Jq.mpr (by omega),by rw[h2];rfl⟩
 have pl:∀y,owner.getD y none≠none->y<=mask->y∈t.place.toList:=λy hy hm=>by
  rw[<- et];show y∈(ZR _).toList;rw[ZW,Qq];cases hoy:owner.getD y none with
  |none=>exact absurd hoy hy
  |some z=>exact⟨(y,z),(live y z).mpr ⟨hm,hoy⟩,rfl⟩
 have hjk:(j,k)∈((Qw (mask+1)).filterMap λj=>(owner.getD j none).map (j,·)):=by
  rw[<- et] at hj;rw[<- eo] at hk;have hj:(((Qw (mask+1)).filterMap λj=>(owner.getD j none).map (j,·)).map (·.1)).toArray[i]? = some j:=hj;have hk:(((Qw (mask+1)).filterMap λj=>(owner.getD j none).map (j,·)).map (·.2)).toArray[i]? = some k:=hk;rw[QlY,Qx] at hj hk;cases hz:((Qw (mask+1)).filterMap λj=>(owner.getD j none).map (j,·))[i]? with
  |none=>rw[hz] at hj;cases hj
  |some q=>
   rw[hz] at hj hk;have h1:q.1=j:=Qm hj;have h2:q.2=k:=Qm hk;rw[<- h1,<- h2];exact QQ hz
 obtain⟨hjm,hjo⟩:=(live j k).mp hjk;obtain⟨n,e3,way⟩:=w j k hjo;have hm:t.mask=(tM mask).mask:=m1;refine⟨n,by rw[Qcq hm,Qcc hm];exact e3,λm hlt=>?_⟩;rw[Qcq hm,Qcc hm];exact pl _ (way m hlt) (Qi5 (tM mask) _ m)
theorem QdR:Slot "set_iterator" "__next__" "set_iterator.__next__" :=
 .of (owner := "set_iterator") (n := "__next__") (by rw[Qk3,Qeq];kernel_rfl) (by decide +kernel) (by decide +kernel) (by decide +kernel) (by first | exact .inl (by decide +kernel) | exact .inr (by decide +kernel)) (by rw[QcD];kernel_rfl)
theorem Qn7:entryFor table "set_iterator.__next__" = some Yz.«set_iterator.__next__» := entryFor_of_fast (by kernel_rfl)
theorem Qxh:Manifest.owners.lookup (String.ofList ['r', 'o', 't', 'a', 'r', 'e', 't', 'i', '_', 't', 'e', 's'].reverse)=some Manifest.sig_set_iterator:=by kernel_rfl
theorem QoG(a:Value):argsOk "set_iterator.__next__" ⟨[a],[]⟩:=by
 unfold argsOk;rw[signature?_of (id := "set_iterator.__next__") (n:=['_', '_', 't', 'x', 'e', 'n', '_', '_']) (o:=['r', 'o', 't', 'a', 'r', 'e', 't', 'i', '_', 't', 'e', 's']) (by kernel_rfl) Qxh];kernel_rfl
theorem Qvj:entryFor table "set.__iter__" = some Yz.«frozenset.__iter__» := entryFor_alias (id' := "frozenset.__iter__") (by kernel_rfl) (by first | rfl | decide +kernel | (unfold Qtd;simp +decide [QoP])) (by decide +kernel) (by kernel_rfl)
def IsSI(h:Heap)(I:Addr)(first:Value)(i a n ep:Nat):Prop:=∃o,h.get? I=some o/\o.cls=.type "set_iterator" /\ o.data=.fields #[first,.int i 0,.ref a,.int n 0,.int ep 0]
theorem IsSI.typeIs{s:Shared}{I:Addr}{first:Value}{i a n ep:Nat}(x:IsSI s.heap I first i a n ep):s.TypeIs (.ref I) "set_iterator" := let ⟨o,h,c,_⟩:=x;⟨o,h,c⟩
structure SetAt (h:Heap) (a:Addr) (es:Array (Int×Value)) (ep:Nat) (t:SetTable):Prop where
 at_:∃o,h.get? a=some o/\o.ExactSet/\o.data=.set es ep t
 ft:t.fits es.size=true
section
variable{prog:Qz}{w:Ji}{A:Jb}{E:Value->Shared->Prop}{s:Shared}
theorem QuT{I a:Addr}{i ep slot nx:Nat}{es:Array (Int×Value)}{t:SetTable}{x:Value}{Q:Option Value->Shared->Prop}(hit:IsSI s.heap I (.int slot 0) i a es.size ep)(ha:SetAt s.heap a es ep t)
  (hN:∀(A:Jb)(E:Value->Shared->Prop)(Q':Option (Value×Nat)->Shared->Prop),Q' (some (x,nx)) s->wpAny (model prog w) A (setNext a slot i ep) Q' E s)
  (hQ:∀h',IsSI h' I (.int nx 0) (i+1) a es.size ep->Qay I s.heap h'->Q (some x) { s with heap:=h' }):wpAny (model prog w) A (pyNext (.ref I)) Q E s:=by
 obtain⟨o,ho,hc,hd⟩:=id hit;obtain⟨os,hos,hex,hds⟩:=ha.at_;unfold pyNext;refine wpAny_bind (Qda (Ze (name:=Qaz "__next__") hit.typeIs QdR (JK QdR hit.typeIs Qn7 ?_ (QoG _))));unfold Yz.«set_iterator.__next__»
 wp_walk
 rw[hd];refine Qb ?_
 dsimp only
 refine wpAny_bind (QvR hos hds ha.ft ?_);rw[if_neg (by simp)];refine wpAny_bind ?_
 refine hN _ _ _ ?_
 dsimp only
 refine wpAny_bind (QcC ho hd (by simp) ?_);have g1:(s.heap.update I (Qk7 λx=>x.setIfInBounds 0 (rawInt ↑nx))).get? I=some (Qk7 (λx=>x.setIfInBounds 0 (rawInt ↑nx)) o):=ZK _ ho (Qde (YV hd _));have d1:(Qk7 (λx=>x.setIfInBounds 0 (rawInt ↑nx)) o).data=.fields #[.int nx 0,.int i 0,.ref a,.int es.size 0,.int ep 0]:=by rw[YV hd];simp[rawInt]
 refine wpAny_bind (QcC g1 d1 (by simp) (Qb ⟨x,rfl,Qb (hQ _ ?_ ((Zq ..).trans (Zq ..)))⟩));exact⟨_,ZK _ g1 (Qde (YV d1 _)),(QfG ..).trans ((QfG ..).trans hc),by rw[YV d1];simp[rawInt]⟩
theorem QxC{I a:Addr}{i ep slot:Nat}{es:Array (Int×Value)}{t:SetTable}{Q:Option Value->Shared->Prop}(hh:A.handled=none)(hit:IsSI s.heap I (.int slot 0) i a es.size ep)(ha:SetAt s.heap a es ep t)
  (hN:∀(A:Jb)(E:Value->Shared->Prop)(Q':Option (Value×Nat)->Shared->Prop),Q' none s->wpAny (model prog w) A (setNext a slot i ep) Q' E s)
  (hQ:∀h',Heap.ExtBut I s.heap h'->Q none { s with heap:=h' }):wpAny (model prog w) A (pyNext (.ref I)) Q E s:=by
 obtain⟨o,ho,hc,hd⟩:=id hit;obtain⟨os,hos,hex,hds⟩:=ha.at_;unfold pyNext;refine wpAny_bind (Qda (Ze (name:=Qaz "__next__") hit.typeIs QdR (JK QdR hit.typeIs Qn7 ?_ (QoG _))));unfold Yz.«set_iterator.__next__»
 wp_walk
 rw[hd];refine Qb ?_
 dsimp only
 refine wpAny_bind (QvR hos hds ha.ft ?_);rw[if_neg (by simp)];refine wpAny_bind ?_
 refine hN _ _ _ ?_
 dsimp only
 refine wpAny_bind (QcC ho hd (by simp) ?_);refine wpAny_bind ?_
 simp only[newExc,newTuple];refine wpAny_bind (JJ ?_ (by size_fits));refine wpAny_bind (m:=firstArgMember _ _) (Yo (a:=Jw) (by first | rfl | (simp only[firstArgMember];rfl)) ?_);refine JJ ?_ (by size_fits)
 simp only[raiseNew];refine wpAny_bind (wpAny_handled ?_)
 first | rw[show A.in1.handled=none from hh] | rw[hh]
 refine wpAny_bind (Qb (wpAny_throw ?_));refine wpAny_bind (QaH (T := "StopIteration") (b:=true) ⟨_,Qu _ rfl,rfl⟩ (by rw[QcD];kernel_rfl) ?_);exact Qb (hQ _ (((Zq ..).extBut.push _).push _))
theorem Qss{a:Addr}{ep slot given:Nat}{es:Array (Int×Value)}{t:SetTable}{Q:Option (Value×Nat)->Shared->Prop}(hb:w.params.followText "set-order" = false)(ha:SetAt s.heap a es ep t)(hp:t.plain=true)(hl:t.led=true)
  (h:Q (match es[JR t.place slot]?,t.place[JR t.place slot]? with | some (_,x),some j=>some (x,j+1) | _,_=>none) s):wpAny (model prog w) A (setNext a slot given ep) Q E s:=by
 obtain⟨os,hos,hex,hds⟩:=ha.at_;unfold setNext;refine wpAny_bind (Zo hos hds ha.ft ?_)
 dsimp only
 unfold setsByText;refine wpAny_bind (wpAny_bind (YX (Qb ?_)));rw[show(model prog w).w.params.followText "set-order" = false from hb,if_neg Qv];split
 ·rename_i hdr
  exact absurd (show(!t.plain&&decide (es.size > 1))=true from hdr) (by rw[hp];simp)
 ·refine wpAny_bind ?_
  show wpAny (model prog w) A (if(!t.led && !es.isEmpty)=true then unsupported "set:maker-not-led" else pure ()) _ E s;rw[if_neg (by rw[hl];simp)];exact Qb (Qb h)
theorem QmA{a:Addr}{ep slot given:Nat}{es:Array (Int×Value)}{t:SetTable}{Q:Option (Value×Nat)->Shared->Prop}(hb:w.params.followText "set-order" = true)(ha:SetAt s.heap a es ep t)
  (h:Q (((pickOrder (w.params.setOrder a ep) es)[given]?).map λe=>(e.2,slot)) s):wpAny (model prog w) A (setNext a slot given ep) Q E s:=by
 obtain⟨os,hos,hex,hds⟩:=ha.at_;unfold setNext;refine wpAny_bind (Zo hos hds ha.ft ?_)
 dsimp only
 unfold setsByText;refine wpAny_bind (wpAny_bind (YX (Qb ?_)));rw[show(model prog w).w.params.followText "set-order" = true from hb,if_pos rfl,if_neg (by simp)];refine wpAny_bind ?_
 unfold setWalk;refine wpAny_bind (Zo hos hds ha.ft ?_)
 dsimp only
 unfold setsByText;refine wpAny_bind (wpAny_bind (YX (Qb ?_)));rw[show(model prog w).w.params.followText "set-order" = true from hb,if_pos rfl];refine wpAny_bind (YX (Qb ?_));exact Qb h
theorem QhZ{α:Type}(next:Nat->Nat)(xs:Array α):(pickOrder next xs).toList.Perm xs.toList:=by
 unfold pickOrder;have go:∀(n k:Nat)(left:List α)(out:Array α),left.length=n->(Qr8 next n k left out).toList.Perm (out.toList++left):=λn=>by
  induction n with
  |zero=>
   intro k left out hl;rw[List.length_eq_zero_iff.mp hl,Jz];exact Z2 _
  |succ n ih=>
   intro k left out hl;have hi:next k % left.length<left.length:=QdE _ (by omega)
   unfold Qr8;rw[Qf hi]
   dsimp only
   refine(ih (k+1) _ _ (by rw[List.length_eraseIdx,if_pos hi];omega)).trans ?_
   rw[Qb5,QU];refine YH _ ?_
   have sp:left=left.take (next k % left.length)++left[next k % left.length]::left.drop (next k % left.length+1):=by rw[<- Ye hi,Jr]
   have pm:=(Qtg (a:=left[next k % left.length]) (l₁:=left.take (next k % left.length)) (l₂:=left.drop (next k % left.length+1))).symm;rw[<- sp,<- List.eraseIdx_eq_take_drop_succ] at pm;exact pm
 have:=go xs.size 0 xs.toList #[] (by simp)
 simpa using this
theorem QxU{a:Addr}{ep:Nat}{es:Array (Int×Value)}{t:SetTable}{Q:Value->Shared->Prop}(ha:SetAt s.heap a es ep t)(hp:t.plain=true)
  (hQ:Q (.ref s.heap.objs.size) { s with heap:=s.heap.push { cls:=.type "set_iterator",data:=.fields #[.int 0 0,.int 0 0,.ref a,.int es.size 0,.int ep 0] } }):wpAny (model prog w) A (pyIter (.ref a)) Q E s:=by
 obtain⟨os,hos,hex,hds⟩:=ha.at_;have hT:s.TypeIs (.ref a) "set" := ⟨os,hos,hex.1⟩;refine Qy6 hT PySem.F.slot_set_iter (JK PySem.F.slot_set_iter hT Qvj ?_ (PySem.F.args_set_iter_1 _));unfold Yz.«frozenset.__iter__»
 wp_walk
 have nf:¬(t.place.size != es.size||decide (t.fill > t.mask))=true:=by
  have hf:=ha.ft;simp only[QbV,JS,beq_iff_eq,decide_eq_true_eq] at hf;simp[hf.1,Nat.not_lt.mpr hf.2]
 rw[hds]
 dsimp only
 rw[if_neg nf];refine Qb (Qb (Qb ?_));refine wpAny_bind ?_
 unfold setDrawn;refine wpAny_bind (Zo hos hds ha.ft ?_)
 dsimp only
 unfold setsByText;refine wpAny_bind (wpAny_bind (YX (Qb ?_)));refine Qb ?_
 split
 ·rename_i hdr
  have hdr:(!(w.params.followText "set-order")&&(!t.plain&&decide (es.size > 1)))=true:=hdr;rw[hp] at hdr;simp at hdr
 ·refine wpAny_bind (Qb ?_);refine wpAny_bind (wpAny_setEpoch_of hos hds ha.ft ?_);exact wpAny_bind (JJ (Qb ⟨_,rfl, "set_iterator",_,⟨_,Qu _ rfl,rfl⟩,QdR.lookup,hQ⟩))
theorem SetAt.at'{h h':Heap}{a:Addr}{es:Array (Int×Value)}{ep:Nat}{t:SetTable}(x:SetAt h a es ep t)(k:∀o,h.get? a=some o->h'.get? a=some o):SetAt h' a es ep t:=let ⟨o,h1,h2⟩:=x.at_;⟨⟨o,k o h1,h2⟩,x.ft⟩
theorem IsSI.at'{h h':Heap}{I:Addr}{first:Value}{i a n ep:Nat}(x:IsSI h I first i a n ep)(k:∀o,h.get? I=some o->h'.get? I=some o):IsSI h' I first i a n ep:=let ⟨o,h1,h2⟩:=x;⟨o,k o h1,h2⟩
end
structure Way (prog:Qz) (w:Ji) (a:Addr) (es:Array (Int×Value)) (ep:Nat) (t:SetTable) (so:Nat->Nat) (vs:Array (Int×Value)):Prop where
 pm:vs.toList.Perm es.toList
 s0:so 0=0
 item:∀(s:Shared)(A:Jb)(E:Value->Shared->Prop)(Q:Option (Value×Nat)->Shared->Prop)(i:Nat)(e:Int×Value),SetAt s.heap a es ep t->vs[i]? = some e->Q (some (e.2,so (i+1))) s->wpAny (model prog w) A (setNext a (so i) i ep) Q E s
 fin:∀(s:Shared)(A:Jb)(E:Value->Shared->Prop)(Q:Option (Value×Nat)->Shared->Prop),SetAt s.heap a es ep t->Q none s->wpAny (model prog w) A (setNext a (so es.size) es.size ep) Q E s
theorem Way.walks{prog:Qz}{w:Ji}{A:Jb}(hh:A.handled=none){a:Addr}{es:Array (Int×Value)}{ep:Nat}{t:SetTable}{so:Nat->Nat}{vs:Array (Int×Value)}(W:Way prog w a es ep t so vs)(I:Addr)(hne:a≠I)(self:∀(s:Shared)(Q:Value->Shared->Prop)(E:Value->Shared->Prop)(i:Nat),IsSI s.heap I (.int (so i) 0) i a es.size ep->Q (.ref I) s->wpAny (model prog w) A (pyIter (.ref I)) Q E s) :
  Walks prog w A I [I,a] [I] es.size (λi v=>(vs[i]?).map (·.2)=some v) (λi h=>IsSI h I (.int (so i) 0) i a es.size ep/\SetAt h a es ep t) where
 sub:=λb hb=>by simp at hb;simp[hb]
 frame:=λ_ _ _ st hk=>⟨st.1.at' λo e=>hk I (by simp) o e,st.2.at' λo e=>hk a (by simp) o e⟩
 item:=λi s Q E hi st hQ=>by
  have hl:vs.size=es.size:=by rw[<- Qc,W.pm.length_eq,Qc]
  have hv:vs[i]? = some vs[i]:=by simp[hl,hi]
  refine QuT st.1 st.2 (x:=vs[i].2) (nx:=so (i+1)) (λA E Q' q=>W.item s A E Q' i _ st.2 hv q) λh' hit' hs'=>?_
  refine hQ _ h' s.toks (by rw[hv];rfl) ⟨hit',st.2.at' λo e=>hs'.extBut a o (λz=>hne z) e⟩ λb o hb e=>hs'.extBut b o (λz=>hb (by simp[z])) e
 done:=λs Q E st hQ=>QxC hh st.1 st.2 (λA E Q' q=>W.fin s A E Q' st.2 q) λh' he'=>hQ h' s.toks λb o hb e=>he' b o (λz=>hb (by simp[z])) e
 self:=λi s Q E st hQ=>self s Q E i st.1 hQ
theorem Qpd{prog:Qz}{w:Ji}(hb:w.params.followText "set-order" = true)(a:Addr)(es:Array (Int×Value))(ep:Nat)(t:SetTable):Way prog w a es ep t (λ_=>0) (pickOrder (w.params.setOrder a ep) es) where
 pm:=QhZ _ _
 s0:=rfl
 item:=λs A E Q i e ha hv q=>QmA hb ha (by rw[hv];exact q)
 fin:=λs A E Q ha q=>QmA hb ha (by
  have hl:(pickOrder (w.params.setOrder a ep) es).size=es.size:=by rw[<- Qc,(QhZ _ _).length_eq,Qc]
  rw[ZX (by omega)];exact q)
theorem Qtt{prog:Qz}{w:Ji}(hb:w.params.followText "set-order" = false)(a:Addr)(es:Array (Int×Value))(ep:Nat)(t:SetTable)(hp:t.plain=true)(hl:t.led=true)(hz:t.place.size=es.size)(so:Nat->Nat)(s0:so 0=0)(hs:∀i,i<t.place.size->so (i+1)=t.place.getD i 0+1)(hbel:∀i,i<=t.place.size->JR t.place (so i)=i):Way prog w a es ep t so es where
 pm:=Z2 _
 s0:=s0
 item:=λs A E Q i e ha hv q=>Qss hb ha hp hl (by
  have hi:i<es.size:=by
   by_cases z:i<es.size
   ·exact z
   ·rw[ZX (by omega)] at hv;cases hv
  rw[hbel i (by omega),hv,show t.place[i]? = some (t.place.getD i 0) by simp[Zi,show i<t.place.size by omega]]
  dsimp only
  rw[<- hs i (by omega)];exact q)
 fin:=λs A E Q ha q=>Qss hb ha hp hl (by
  rw[hbel es.size (by omega),ZX (Qi _)];exact q)
section
variable{prog:Qz}{w:Ji}{A:Jb}{E:Value->Shared->Prop}{s:Shared}
theorem QnQ(n:Nat){k:Int}{v:Value}(h:(intKind prog w).is k v=true):hashByValue n v=pure true/\∀d,ofAClassStatement d v=pure false:=by
 cases v<;>first | (cases h;done) | skip
 all_goals first | exact⟨by cases n<;>rfl,λd=>by cases d<;>rfl⟩ | (simp[intKind] at h)
theorem Qif{ks:List Int}{vs:List Value}(h:ItemsAre (intKind prog w) ks vs):∀v∈vs,∃k,(intKind prog w).is k v=true:=by
 induction h with
 |nil=>intro v hv;cases hv
 |cons h1 _ ih=>
  intro v hv;rcases Qp.mp hv with z | z
  ·subst z;exact⟨_,h1⟩
  ·exact ih v z
end
theorem QfS(t:SetTable):∀(n:Nat)(p:Zd),(stps t n p).dummy=p.dummy
 |0,_=>rfl
 |n+1,p=>by
  show(stps t n (t.advance p)).dummy=_;rw[QfS t n,QiB]
section
variable{prog:Qz}{w:Ji}{A:Jb}{E:Value->Shared->Prop}{s:Shared}
structure TS (prog:Qz) (w:Ji) (h:Heap) (a:Addr) (es:Array (Int×Value)) (ep:Nat) (t:SetTable) (ps:List (List Int×Addr)):Prop where
 at_:SetAt h a es ep t
 tab:Tab t
 ent:es.toList=ps.map λp=>(tupleKeyHash (intKind prog w) p.1,QK p.2)
 key:∀p∈ps,Qau (intKind prog w) h p.1 p.2
 nd:(ps.map (·.1)).Nodup
 rch:∀(i j:Nat)(e:Int×Value),t.place[i]? = some j->es[i]? = some e->Rch t j e.1
 mks:t.mask=7∨t.mask=31∨t.mask=127∨t.mask=511∨t.mask=2047
 few:t.place.size*5<t.mask*3
variable{a:Addr}{es:Array (Int×Value)}{ep:Nat}{t:SetTable}{ps:List (List Int×Addr)}
theorem TS.size(x:TS prog w s.heap a es ep t ps):es.size=ps.length:=by rw[<- Qc,x.ent,Qh]
end
def Sm(m:Nat):List Nat:=(Qw 6).filter m.testBit
def tb(m:Nat)(led:Bool):SetTable:={ mask:=if 5<=(Sm m).length then 31 else 7,place:=(Sm m).toArray,dummies:=#[],finger:=0,led:=led,moves:=if 5<=(Sm m).length then 1 else 0,plain:=true }
def so(m i:Nat):Nat:=match i with
 |0=>0
 |i+1=>(Sm m).toArray.getD i 0+1
def EsOk(es:Array (Int×Value))(S:List Nat):Prop:=∃tks:List Tok,tks.length=S.length/\es.toList=QlW (λ(v:Nat)(tk:Tok)=>((v:Int),Qer (v:Int) tk)) S tks
theorem EsOk.size{es:Array (Int×Value)}{S:List Nat}(h:EsOk es S):es.size=S.length:=by
 obtain⟨tks,hl,e⟩:=h;rw[<- Qc,e,QoT,hl,Nat.min_self]
theorem Qtp{S:List Nat}{e:Int×Value}:∀{tks:List Tok},e∈QlW (λ(v:Nat)(tk:Tok)=>((v:Int),Qer (v:Int) tk)) S tks->∃v∈S,∃tk,e=((v:Int),.int v tk):=by
 induction S with
 |nil=>intro tks h;cases tks<;>cases h
 |cons x S ih=>
  intro tks h;cases tks with
  |nil=>cases h
  |cons t tks=>
   rcases Qp.mp h with z | z
   ·exact⟨x,.head _,t,z⟩
   ·obtain⟨v,hv,r⟩:=ih z;exact⟨v,.tail _ hv,r⟩
theorem EsOk.mem{es:Array (Int×Value)}{S:List Nat}(h:EsOk es S){e:Int×Value}(he:e∈es.toList):∃v∈S,∃tk,e=((v:Int),.int v tk):=by
 obtain⟨tks,hl,e'⟩:=h;rw[e'] at he;exact Qtp he
theorem SetAt.store{h:Heap}{a:Addr}{es es':Array (Int×Value)}{ep:Nat}{t t':SetTable}(x:SetAt h a es ep t)(hf:t'.fits es'.size=true):SetAt (h.update a (QjO es' t')) a es' (ep+1) t':=by
 obtain⟨o,ho,hex,hd⟩:=x.at_;have hg:=ZK (QjO es' t') ho (by rw[putSet_of es' t' hd];rfl);rw[putSet_of es' t' hd] at hg;exact⟨⟨_,hg,hex,rfl⟩,hf⟩
section
variable{prog:Qz}{w:Ji}{A:Jb}{E:Value->Shared->Prop}{s:Shared}
end
section
variable{prog:Qz}{w:Ji}{A:Jb}{R:QyF->Shared->Prop}{I:Addr}{fp wr:List Addr}{n:Nat}{P:Nat->Value->Prop}{St:Nat->Heap->Prop}
end
theorem ins_get{α β:Type}{l1:List α}{l2:List β}(hl:l1.length=l2.length){p:Nat}(hp:p<=l1.length){x:α}{y:β}{i:Nat}{u:α}{v:β}(h1:(l1.take p++x::l1.drop p)[i]? = some u)(h2:(l2.take p++y::l2.drop p)[i]? = some v):(u=x/\v=y)∨∃k:Nat,l1[k]? = some u/\l2[k]? = some v:=by
 have t1:(l1.take p).length=p:=by rw[JH];omega
 have t2:(l2.take p).length=p:=by rw[JH];omega
 rcases ZV i p with z | z | z
 ·rw[JN (by omega),QiT z] at h1 h2;exact .inr ⟨i,h1,h2⟩
 ·subst z;rw[QX (by omega),t1,Qa3] at h1;rw[QX (by omega),t2,Qa3] at h2;exact .inl ⟨(Qm h1).symm,(Qm h2).symm⟩
 ·rw[QX (by omega),t1,show i - p=(i - p - 1)+1 by omega,ZQ,YR] at h1;rw[QX (by omega),t2,show i - p=(i - p - 1)+1 by omega,ZQ,YR] at h2;exact .inr ⟨_,h1,h2⟩
section
variable{prog:Qz}{w:Ji}{A:Jb}{E:Value->Shared->Prop}{s:Shared}{a:Addr}{es:Array (Int×Value)}{ep:Nat}{t:SetTable}{ps:List (List Int×Addr)}
theorem TS.other(x:TS prog w s.heap a es ep t ps){ks:List Int}{b:Addr}(hk:Qau (intKind prog w) s.heap ks b):b≠a:=λe=>by
 subst e;obtain⟨o,ho,hex,hd⟩:=x.at_.at_;obtain⟨o',it,n,ho',hc,_⟩:=hk;rw[ho] at ho';cases ho';rw[hex.1] at hc;exact absurd hc (by decide)
end
theorem QnT{t:SetTable}(h:t.mask=7∨t.mask=31∨t.mask=127∨t.mask=511∨t.mask=2047):Qcg (t.mask+1)=true:=by
 rcases h with h | h | h | h | h<;>rw[h]
 ·exact QsR
 ·exact Qve
 ·exact QrF
 ·exact QrE
 ·exact QnU
section
variable{prog:Qz}{w:Ji}{A:Jb}{E:Value->Shared->Prop}{s:Shared}{a:Addr}{es:Array (Int×Value)}{ep:Nat}{t:SetTable}{ps:List (List Int×Addr)}
end
section
variable{prog:Qz}{w:Ji}{A:Jb}{E:Value->Shared->Prop}{s:Shared}
def Qbi(w:Ji):Bool := !w.params.followText "set-order"
theorem QtE(a:Value){Q:Value->Shared->Prop}(h:Q (.ref s.heap.objs.size) { s with heap:=s.heap.push { cls:=.type "set",dict:=none,data:=.set #[] 0 (.fresh 0 0 (Qbi w)) } }):codeAny (model prog w) A (.call (.builtin "set.__new__") ⟨[.type "set",a],[]⟩) (wants Q E) s:=by
 refine Qep (by
  show wpAny _ A.in1 (do checkBuiltinCall "set.__new__" ⟨[.type "set",a],[]⟩;again (.builtin "set.__new__" ⟨[.type "set",a],[]⟩)) _ _ s;refine wpAny_bind (Yo (PySem.F.newCall_set_1 a) (Qb ⟨QbM Qzs _,Qan F.entry_set_new ?_⟩));rw[Yf Qzs _];unfold Yz.«set.__new__» Qto;have hsub:=sub_set_self;obtain⟨hp,g,d,tk,os⟩:=s
  dsimp only;wp_walk
  refine YX (Qb ?_);dsimp only;simp only[newObj];refine wpAny_bind (wpAny_alloc (Qb ?_));exact Qb h)
end
section
variable{prog:Qz}{w:Ji}{s:Shared}{a:Addr}{es:Array (Int×Value)}{ep:Nat}{t:SetTable}{ps:List (List Int×Addr)}
theorem Qtx(led:Bool):Tab (QbA 0 0 led):=⟨by simp[QbA],by simp[QbA],rfl,QsR,rfl,by show 7 % 2=1;decide⟩
variable{A:Jb}{R:QyF->Shared->Prop}{I:Addr}{fp wr:List Addr}{n:Nat}{P:Nat->Value->Prop}{St:Nat->Heap->Prop}
end
section
variable{prog:Qz}{w:Ji}{A:Jb}{E:Value->Shared->Prop}{s:Shared}
end
theorem QmB:Slot "set_iterator" "__iter__" "set_iterator.__iter__" :=
 .of (owner := "set_iterator") (n := "__iter__") (by rw[Qk3,Qeq];kernel_rfl) (by decide +kernel) (by decide +kernel) (by decide +kernel) (by first | exact .inl (by decide +kernel) | exact .inr (by decide +kernel)) (by rw[QcD];kernel_rfl)
theorem QAu:entryFor table "set_iterator.__iter__" = some Yz.«dict_keyiterator.__iter__» := entryFor_alias (id' := "dict_keyiterator.__iter__") (by kernel_rfl) (by first | rfl | decide +kernel | (unfold Qtd;simp +decide [QoP])) (by decide +kernel) (by kernel_rfl)
theorem QAE(a:Value):argsOk "set_iterator.__iter__" ⟨[a],[]⟩:=by
 unfold argsOk;rw[signature?_of (id := "set_iterator.__iter__") (n:=['_', '_', 'r', 'e', 't', 'i', '_', '_']) (o:=['r', 'o', 't', 'a', 'r', 'e', 't', 'i', '_', 't', 'e', 's']) (by kernel_rfl) Qxh];kernel_rfl
theorem QuZ:typeLookup (.type "set") "__len__" = pure (some (.builtin "set.__len__")):=by rw[Qk3,Qeq];kernel_rfl
section
variable{prog:Qz}{w:Ji}{A:Jb}{E:Value->Shared->Prop}{s:Shared}
theorem QtD{I a:Addr}{first:Value}{i n ep:Nat}{Q:Value->Shared->Prop}(hit:IsSI s.heap I first i a n ep)(h:Q (.ref I) s):wpAny (model prog w) A (pyIter (.ref I)) Q E s:=by
 refine Qy6 hit.typeIs QmB (JK QmB hit.typeIs QAu ?_ (QAE _));show wpAny _ _ (ret (.ref I)) _ _ s;exact Qb ⟨_,rfl, "set_iterator",_,hit.typeIs,QdR.lookup,h⟩
theorem QjD{a:Addr}{es vs:Array (Int×Value)}{ep:Nat}{t:SetTable}{so:Nat->Nat}{Q:List Value->Shared->Prop}(hh:A.handled=none)(W:Way prog w a es ep t so vs)(ha:SetAt s.heap a es ep t)(hp:t.plain=true)(hn:es.size<=sizeLine)
  (hQ:∀(h':Heap)(tk:Nat),(∀b o,s.heap.get? b=some o->h'.get? b=some o)->Q (vs.toList.map (·.2)) { s with heap:=h',toks:=tk }):wpAny (model prog w) A (collect (.ref a)) Q E s:=by
 have hlt:a<s.heap.objs.size:=let ⟨o,ho,_⟩:=ha.at_;Qo ho
 unfold collect;refine wpAny_bind (wpAny_runValue (Qan F.entry_proto_collect ?_));rw[Yf F.plain_proto_collect _];show wpAny _ A.in1 (newList [] >>= λl=>again (.builtin "list.__iadd__" ⟨[l,.ref a],[]⟩)) _ _ s;refine wpAny_bind (JJ (Qb ⟨QbM Qv2 _,Qan F.entry_list_iadd ?_⟩));rw[Yf Qv2 _];generalize hH:s.heap.push { cls:=.type "list",data:=.seq ([]:List Value).toArray }=H;have hHs:H.objs.size=s.heap.objs.size+1:=by rw[<- hH,Zp]
 have keep:∀b o,s.heap.get? b=some o->H.get? b=some o:=λb o e=>hH ▸ Qe _ e
 have hS:H.get? s.heap.objs.size=some { cls:=.type "list",data:=.seq ([]:List Value).toArray }:=hH ▸ Qu _ rfl;have ha1:SetAt H a es ep t:=ha.at' λo e=>keep a o e
 have hT:QiE { s with heap:=H } (.ref a) "set" := let ⟨o,ho,hx,_⟩:=ha1.at_;⟨o,ho,hx.1⟩
 show wpAny _ A.in1 (Qec (.ref s.heap.objs.size) (.ref a) (.ref s.heap.objs.size)) _ _ { s with heap:=H };unfold Qec;refine wpAny_bind (Qbt hT ?_);have h1:QeU (.ref s.heap.objs.size) (.ref a)=false:=by simp[QeU,QaA hlt]
 have h2:(ZM "set" == ZM "list")=false:=by decide
 have h3:(ZM "set" == ZM "tuple")=false:=by decide
 simp only[h1,h2,h3,Bool.or_false,Jn,if_false];refine wpAny_bind (QxU ha1 hp ?_);generalize hH2:Heap.push H { cls:=.type "set_iterator",data:=.fields #[.int 0 0,.int 0 0,.ref a,.int es.size 0,.int ep 0] }=H2;have keep2:∀b o,H.get? b=some o->H2.get? b=some o:=λb o e=>hH2 ▸ Qe _ e
 have hT2:QiE { s with heap:=H2 } (.ref a) "set" := let ⟨o,ho,hc⟩:=hT;⟨o,keep2 a o ho,hc⟩
 have hI:IsSI H2 H.objs.size (.int (so 0) 0) 0 a es.size ep:=⟨_,hH2 ▸ Qu _ rfl,rfl,by rw[W.s0];rfl⟩;refine wpAny_bind (JY ?_);show wpAny _ A.in1 _ _ _ { s with heap:=H2 };unfold Builtin.List.listLengthHint;refine wpAny_bind (Yy hT2 QuZ ?_)
 wp_delta
 refine wpAny_bind (QaH (b:=true) hT2 (by rw[QcD];kernel_rfl) ?_);show wpAny _ A.in1 (typeOf (QK a) >>= _) _ _ _;refine wpAny_bind (Qbt hT2 (Qb ?_));show wpAny _ A.in1 (rule "list.extend.makes-room" >>= λ_=>Builtin.List.listTouch (.ref s.heap.objs.size) >>= λ_=>again (.builtin "list.extend.loop" ⟨[.ref s.heap.objs.size,.ref H.objs.size,.ref s.heap.objs.size],[]⟩)) _ _ _;refine wpAny_bind (wpAny_rule (wpAny_bind ?_));show wpAny _ A.in1 (updateSeq s.heap.objs.size (·.push .none) >>= λ_=>updateSeq s.heap.objs.size (·.pop)) _ _ _;have hS1:=keep2 _ _ hS;refine wpAny_bind (wpAny_updateSeq hS1 rfl ?_);have hS2:=ZK (J6 (·.push Jw)) hS1 rfl;refine wpAny_updateSeq hS2 rfl ?_
 have hS3:=ZK (J6 (·.pop)) hS2 rfl;generalize hH3:(H2.update s.heap.objs.size (J6 (·.push Jw))).update s.heap.objs.size (J6 (·.pop))=H3 at hS3 ⊢;have oth:∀b o,b≠s.heap.objs.size->H2.get? b=some o->H3.get? b=some o:=λb o hb e=>hH3 ▸ (YO _ _ (QdD hb)).trans ((YO _ _ (QdD hb)).trans e)
 have hIS:H.objs.size≠s.heap.objs.size:=by omega
 have hne:a≠H.objs.size:=by rw[hHs];exact QB (Yq hlt)
 have hSf:s.heap.objs.size∉[H.objs.size,a]:=by simp only[Qp,QV,or_false,not_or];exact⟨by omega,QaA hlt⟩
 have WW:=(Way.walks (A:=A.in1) hh W H.objs.size hne λs Q E i st q=>QtD st q).toS;refine Qb ⟨QbM F.plain_extend_loop _,codeAny_extend_loopS WW hn _ hSf _ es.size 0 { s with heap:=H3 } _ _ rfl (Qr _) ⟨hI.at' λo e=>oth _ o hIS e,ha1.at' λo e=>oth a o (QB hlt) (keep2 a o e)⟩ hS3 (ItemsOf.nil _) λs' acc' c' hm hS' hacc=>?_⟩;show wpAny _ A (load s.heap.objs.size >>= _) _ _ s';refine wpAny_bind (wpAny_load hS' (Qb ?_));have hl:vs.size=es.size:=by rw[<- Qc,W.pm.length_eq,Qc]
 have he:acc'.toList=vs.toList.map (·.2):=by
  apply Zj
  intro j;rw[Qx,Q5,Q5];by_cases z:j<acc'.size
  ·have:=hacc.2 j acc'[j] (by simp[z]);rw[this];simp[z]
  ·rw[ZX (by omega),ZX (by have:=hacc.1;omega)];rfl
 show Q acc'.toList s';rw[he];have es':s'={ s with heap:=s'.heap,toks:=s'.toks }:=by
  obtain⟨hp',g',d',tk',os'⟩:=s';have e1:=hm.gens;have e2:=hm.drawn;have e3:=hm.os;simp only at e1 e2 e3;rw[e1,e2,e3]
 rw[es'];refine hQ _ _ λb o e=>?_
 have hb:=Qo e;refine hm.heap b o ?_ (oth b o (QB hb) (keep2 b o (keep b o e)))
 simp only[Qp,QV,or_false,not_or];exact⟨QB hb,by rw[hHs];exact QB (Yq hb)⟩
end
end Zt
namespace Zt
open PySem.W PySem.Calls Rs
section
variable{prog:Qz}{w:Ji}{A:Jb}{E:Value->Shared->Prop}{s:Shared}
end
end Zt
namespace L2
open Zt
section
variable{X:Cx}
end
end L2
namespace Dl
open L2 _root_.Rd Rk Zt
section
variable{X:Cx}{E:XK}
end
end Dl
namespace L2
open PySem.Calls _root_.Rd _root_.Rk _root_.Rs Rt Dl
section
variable{X:Cx}
theorem Qmz(hu:X.A.units+60<cLine){pins:List (Addr×Obj)}{s:Shared}{σ:L2.St}{H:Hp}(I:Inv X pins σ H s){vs:List V}{ds:List Qa}{its:List Value}(rv:Vals vs its)(hz:vs.length<=sizeLine)(dts:Dats H vs ds)(so:Qk1 ds){Q:VK}
  (q:∀(t:Addr)(ys:List V)(es:List Qa)(H2:Hp),Same H H2->H t=none->H2 t=some (.lst ys)->Dats H2 ys es->es.Perm ds->es.Pairwise (λa b=>ltD b a=false)->(∀y∈ys,y∈vs)->Q (.ref t) H2)(h':Heap)(tk:Nat)(kp:∀b x,s.heap.get? b=some x->h'.get? b=some x)(P:PySem.Fin->Shared->Prop)(E':Value->Shared->Prop)
  (hP:∀s2,(∃v H',Inv X pins σ H' s2/\RelV v (.ref h'.objs.size)/\Q v H')->P (.done (.ret .none)) s2) :
  wpAny (model X.prog X.w) X.A.in1.in1 (Yz.«list.sort» ⟨[.ref h'.objs.size],[]⟩) P E' { s with heap:=h'.push (seqObj "list" its.toArray 0),toks:=tk }:=by
 have hu2:X.A.in1.in1.units+2*20+4<cLine:=by show X.A.units+1+1+2*20+4<cLine;omega
 have li:=rv.length;obtain⟨⟨as,ra⟩,cl⟩:=Qal I.hok ds vs its dts rv;have okds:Qc9 ds=true:=Qnp λd hd=>Qon d (so.cmp d hd d hd)
 have ra':=QaY kp ds its as okds ra
 let c:Keyed->Keyed->Bool:=λx y=>ltD (rdV h' x.1) (rdV h' y.1)
 have oc:Ord c:=⟨λx y=>Qky _ _,λx y z=>QxJ _ _ _⟩;refine Qg3 (s:={ s with heap:=h'.push (seqObj "list" its.toArray 0),toks:=tk }) (c:=c) (Qu _ rfl) (by omega) oc (λh2 k2 Q' E' hq=>?_) λarr pm sg h2 e k2 e2=>hP _ ?_
 ·have kk:∀b x,h'.get? b=some x->h2.get? b=some x:=λb x e=>k2 b x (QB (Qo e)) (Qe _ e)
  have ra2:=QaY kk ds its as okds ra';have asks:∀κ,Qr3 ds κ->(∀b,κ=tuples' b->∀d∈ds,∃es,d=.tuple es)->Asks X.prog X.w X.A.in1.in1 { s with heap:=h2,toks:=tk } κ (prs its) c:=λκ su tb=>by
   refine⟨oc,λx y hx hy C E'' hC=>?_⟩;rw[QeL] at hx hy;obtain⟨ex,hx⟩:=Qdi hx;obtain⟨ey,hy⟩:=Qdi hy;obtain⟨d1,m1,b1,r1⟩:=ZZ ra2 x.2 hx;obtain⟨d2,m2,b2,r2⟩:=ZZ ra2 y.2 hy;obtain⟨d1',m1',b1',r1'⟩:=ZZ ra' x.2 hx;obtain⟨d2',m2',b2',r2'⟩:=ZZ ra' y.2 hy;have k1:=Qab okds d1 m1;have k2:=Qab okds d2 m2;have c1:=Qd2 d1 k1;have c2:=Qd2 d2 k2;have c1':=Qd2 d1' (Qab okds d1' m1');have c2':=Qd2 d2' (Qab okds d2' m2');have q1:d1'=d1:=Qbd d1' d1 x.2 _ _ c1' (QdY kk d1' _ _ (Qab okds d1' m1') r1') r1;have q2:d2'=d2:=Qbd d2' d2 y.2 _ _ c2' (QdY kk d2' _ _ (Qab okds d2' m2') r2') r2;subst q1 q2;have hC:C (ltD (rdV h' x.1) (rdV h' y.1)) { s with heap:=h2,toks:=tk }:=hC;rw[ex,ey,QmN r1' c1',QmN r2' c2'] at hC;rw[ex,ey];exact QxP (N:=20) su m1 r1 r2 c1 c2 (so.cmp _ m1 _ m2) (λb e=>tb b e _ m1) (so.dep _ m1) hu2 hC
  cases ds with
  |nil=>
   cases ra2;exact QkF (s:={ s with heap:=h2,toks:=tk }) .nil rfl (λd hd=>nomatch hd) λκ su=>hq κ (asks κ su λb _ d hd=>nomatch hd)
  |cons d0 ds0=>
   have sh:(∀d∈d0::ds0,∃es,d=.tuple es)∨∀d∈d0::ds0,∃i,d=.int i:=by
    cases d0 with
    |int i=>exact .inr λd hd=>by have:=so.cmp _ (.head _) d hd;cases d<;>first | exact⟨_,rfl⟩ | (cases this;done)
    |tuple es=>exact .inl λd hd=>by have:=so.cmp _ (.head _) d hd;cases d<;>first | exact⟨_,rfl⟩ | (cases this;done)
    |_=>have:=so.cmp _ (.head _) _ (.head _);cases this
   rcases sh with sh | sh
   ·exact QkF (s:={ s with heap:=h2,toks:=tk }) ra2 okds sh λκ su=>hq κ (asks κ su λb _=>sh)
   ·have one:Qr3 (d0::ds0) oneType':=.inr (.inl rfl);by_cases l2:its.length<2
    ·have hk1:∀v∈its,∀(Q'':Option Value->Shared->Prop),Q'' none { s with heap:=h2,toks:=tk }->wpAny (model X.prog X.w) X.A.in1.in1 (firstOfTuple' v) Q'' E' { s with heap:=h2,toks:=tk }:=λv hv Q'' q''=>by
      obtain⟨d,hd,bs,r⟩:=ZZ ra2 v hv;obtain⟨i,rfl⟩:=sh d hd;cases r;exact Qb q''
     have hk2:∀v∈its,∀(Q'':Value->Shared->Prop),Q'' (Rt.tyV h2 v) { s with heap:=h2,toks:=tk }->wpAny (model X.prog X.w) X.A.in1.in1 (typeOf v) Q'' E' { s with heap:=h2,toks:=tk }:=λv hv Q'' q''=>by
      obtain⟨d,hd,bs,r⟩:=ZZ ra2 v hv;exact QiZ (s:={ s with heap:=h2,toks:=tk }) r (Qab okds d hd) q''
     rw[keyKind'_eq,QaT,map_eq_pure_bind];refine wpAny_bind (wpAny_bind (Qgd (g:=λ_=>(none:Option Value)) its hk1 (Qb ?_)));cases its with
     |nil=>cases ra2
     |cons v0 vs0=>
      rw[if_neg (by simp)];rw[if_neg (by simp)];rw[Qk5,QaT,map_eq_pure_bind];refine wpAny_bind (wpAny_bind (wpAny_bind (Qgd (g:=Rt.tyV h2) _ hk2 (Qb ?_))));have fin:∀b:Bool,wpAny (model X.prog X.w) X.A.in1.in1 (pure (if b=true then oneType' else general')) Q' E' { s with heap:=h2,toks:=tk }:=λb=>by
       have ni:∀{κ:Z7},(∀b',κ≠tuples' b')->∀b',κ=tuples' b'->∀d∈d0::ds0,∃es,d=Yp es:=λh b' e=>(h b' e).elim
       cases b
       ·exact Qb (hq _ (asks _ (.inl rfl) (ni λb' e=>by cases e)))
       ·exact Qb (hq _ (asks _ (.inr (.inl rfl)) (ni λb' e=>by cases e)))
      split
      ·exact Qb (fin _)
      ·exact Qb (fin _)
    ·have ia:∀{vs:List Value}{ds:List Qa}{as:List Addr},Y9 h2 vs ds as->(∀d∈ds,∃i,d=QN i)->∃ns,IntsAre vs ns:=by
      intro vs ds as ra hs;induction vs generalizing ds as with
      |nil=>exact⟨[],.nil⟩
      |cons v vs ih=>
       cases ra with
       |cons r rs=>
        obtain⟨i,rfl⟩:=hs _ (.head _);obtain⟨ns,hn⟩:=ih rs λd hd=>hs d (.tail _ hd)
        cases r;exact⟨i::ns,.cons _ _ hn⟩
     obtain⟨ns,hn⟩:=ia ra2 sh
     match its,hn,l2 with
     |v1::v2::vs',hn,_=>
      rw[keyKind_ints hn];exact Qb (hq _ (asks _ one λb e=>by cases e))
     |[_],_,l2=>exact absurd (QvL 1) l2
     |[],_,l2=>exact absurd (Nat.zero_lt_two) l2
 ·have I1:Inv X pins σ H { s with heap:=h',toks:=tk }:=I.kept (t':=tk) kp;have hf:H h'.objs.size=none:=I1.hok.fresh (Qi _);have pv:(arr.toList.map (·.2)).Perm its:=by
   have:=(Zz.mp pm).map (·.2)
   rwa [QtZ] at this
  obtain⟨Tr,t1,t2,t3,th⟩:=Qwb dts rv;obtain⟨Tr',p',e'⟩:=Qei Trp.v (l:=arr.toList.map (·.2)) (by rw[<- t2];exact pv) (T:=Tr) rfl;have th':∀t∈Tr',Dat H t.x t.d/\RelV t.x t.v:=λt ht=>th t (p'.mem_iff.mp ht)
  obtain⟨dts',rv'⟩:=Qsi th';have ll:(Tr'.map (·.x)).length<=sizeLine:=by
   have:=p'.length_eq;rw[Qh,this,<- Qh (f:=Trp.x),<- t1];exact hz
  have I2:Inv X pins σ (upd H h'.objs.size (.lst (Tr'.map (·.x)))) { s with heap:=h2,toks:=tk }:=
   I1.laid (t':=tk) (λb x e'=>k2 b x (QB (Qo e')) (Qe _ e')) (Qi _) (show ObjOk X.prog X.w _ _ _ (.lst _) from⟨ll,_,e,by rw[e'];exact rv',e2⟩)
  refine⟨.ref h'.objs.size,_,I2,rfl,q _ _ (Tr'.map (·.d)) _ (JX hf) hf J7 (dts'.same (JX hf)) (by rw[t3];exact p'.map _) ?_ λy hy=>?_⟩
  ·-- in order
   have len:arr.toList.length=Tr'.length:=by have:=congrArg QoU e';rwa [Qh,Qh] at this
   rw[QZ];intro i j hi hj hij;rw[Qh] at hi hj;rw[QcG,QcG];have ka:∀(k:Nat)(hk:k<Tr'.length),rdV h' (kx arr k).1=Tr'[k].d:=λk hk=>by
    have hk':k<arr.size:=by rw[<- Qc,len];exact hk
    have m:=Qfg hk';have m2:=(Zz.mp pm).mem_iff.mp m;rw[QeL] at m2;have e3:=(Qdi m2).1;have e4:(kx arr k).2=Tr'[k].v:=by
     have h5:(arr.toList.map (·.2))[k]? = some (kx arr k).2:=by rw[Qx,Qa8 hk'];rfl
     rw[e',Qx,Qf hk] at h5;exact(Qm h5).symm
    rw[e3,e4];obtain⟨dt,rv0⟩:=th' _ (YF hk);obtain⟨⟨bs,rr⟩,cc⟩:=Yr I1.hok _ _ _ dt rv0;exact QmN rr cc
   have g:ltD (rdV h' (kx arr j).1) (rdV h' (kx arr i).1)=false:=sg i j (Qr _) (by omega) (by rw[<- Qc,len];exact hj);rw[ka i hi,ka j hj] at g;exact g
  ·obtain⟨t,ht,rfl⟩:=Qq.mp hy;rw[t1];exact Qq.mpr ⟨t,p'.mem_iff.mp ht,rfl⟩
end
end L2
namespace Zt
section
variable{prog:Qz}{w:Ji}{A:Jb}{E:Value->Shared->Prop}{s:Shared}
theorem Qts{a:Addr}{es:Array (Int×Value)}{ep:Nat}{t:SetTable}(hs:SetAt s.heap a es ep t)(T:Tab t)(hl:t.led=Qbi w):∃so vs,Way prog w a es ep t so vs:=by
 have hz:t.place.size=es.size:=by
  have:=hs.ft;unfold QbV at this;exact eq_of_beq (QJ.mp this).1
 cases hb:w.params.followText "set-order" with
 |true=>exact⟨_,_,Qpd hb a es ep _⟩
 |false=>
  have hl:t.led=true:=by rw[hl];unfold Qbi;rw[hb];rfl
  let so:Nat->Nat:=λi=>match i with
   |0=>0
   |i+1=>t.place.getD i 0+1
  refine⟨so,es,Qtt hb a es ep t T.pl hl hz so rfl (λi hi=>rfl) (λi hi=>?_)⟩;obtain⟨b1,b2,b3⟩:=QcA T.pw (so i);cases i with
  |zero=>
   cases hB:JR t.place (so 0) with
   |zero=>rfl
   |succ k=>
    have:=b2 0 (by omega) (by omega);exact absurd this (ZY _)
  |succ i=>
   have e:so (i+1)=t.place[i]+1:=by show t.place.getD i 0+1=_;simp[Zi,show i<t.place.size by omega]
   rcases ZV (JR t.place (so (i+1))) (i+1) with z | z | z
   ·have h1:=b3 i (by omega) (by omega);omega
   ·exact z
   ·have hi2:i+1<t.place.size:=by omega
    have h1:=b2 (i+1) hi2 z;have:=QZ.mp T.pw i (i+1) (by simp;omega) (by simp;omega) (by omega);simp only[JO] at this;omega
end
end Zt
namespace Rk
open L2 _root_.Rd Dl Rt
def tN(ns:List Int):Qa:=.tuple (ns.map QN)
theorem QrO(ns:List Int):(tN ns).depth<=1:=by
 show Q2 (ns.map QN)+1<=1;have:=Qba (n:=0) (ds:=ns.map QN) λd hd=>by obtain⟨p,_,rfl⟩:=Qq.mp hd;exact Qi _
 omega
theorem Qgm:∀(L M:List Int),Qci (L.map QN) (M.map QN)=true
 |[],[]=>rfl
 |[],_::_=>rfl
 |_::_,[]=>rfl
 |_::L,_::M=>by show(true&&Qci (L.map QN) (M.map QN))=true;rw[Qgm L M];rfl
end Rk
namespace L2
open Zt _root_.Rd _root_.Rk Dl Rt
section
variable{X:Cx}
theorem Qfi{prog:Qz}{w:Ji}:∀{r:List Int}{its:List Value},IntsAre its r->ItemsAre (intKind prog w) r its
 |_,_,.nil=>.nil
 |_,_,.cons n t h=>.cons (intKind_is _ _ _ _) (Qfi h)
theorem QxO{pins:List (Addr×Obj)}{s:Shared}{σ:L2.St}{H:Hp}(I:Inv X pins σ H s){r:List Int}{b:Addr}(h:H b=some (.tup (r.map V.int))):Qau (intKind X.prog X.w) s.heap r b:=by
 obtain⟨hz,its,rv,o,ho,hc,n,hd⟩:=I.hok b _ h;exact⟨o,its.toArray,n,ho,hc,hd,by simpa using Qfi (intsAre_of rv)⟩
theorem range_getD{α:Type}(L:List α)(d:α):(Qw L.length).map (λi=>L.getD i d)=L:=by
 apply Zj
 intro i;rw[Qx];by_cases h:i<L.length
 ·rw[Jy h,Qf h];show some (L.getD i d)=_;rw[QF,Qf h];rfl
 ·rw[QM (by simpa using h),QM (by omega)];rfl
end
end L2
namespace Dl
open L2 _root_.Rd Rk Zt Rt
section
variable{X:Cx}{E:XK}
theorem Qf9:∀L:List Int,Qc9 (L.map QN)=true
 |[]=>rfl
 |_::L=>by show(true&&Qc9 (L.map QN))=true;rw[Qf9 L];rfl
end
end Dl
namespace Rk
open L2 _root_.Rd Dl Rt
mutual
theorem Qxz:∀(x y:Qa),okK x=true->okK y=true->Qb7 x y=.eq->x=y
 |.int i,.int j,_,_,h=>by
  have h:Qfu i j=.eq:=h;unfold Qfu at h;by_cases z:i<j
  ·rw[if_pos z] at h;cases h
  ·rw[if_neg z] at h;by_cases y:i=j
   ·rw[y]
   ·rw[if_neg y] at h;cases h
 |.int _,.tuple _,_,_,h=>by cases h
 |.tuple _,.int _,_,_,h=>by cases h
 |.tuple a,.tuple b,h1,h2,h=>by rw[QsF a b h1 h2 h]
 |.none,_,h,_,_=>by cases h
 |.bool _,_,h,_,_=>by cases h
 |.str _,_,h,_,_=>by cases h
 |.list _,_,h,_,_=>by cases h
 |.dict _,_,h,_,_=>by cases h
 |.int _,.none,_,h,_=>by cases h
 |.int _,.bool _,_,h,_=>by cases h
 |.int _,.str _,_,h,_=>by cases h
 |.int _,.list _,_,h,_=>by cases h
 |.int _,.dict _,_,h,_=>by cases h
 |.tuple _,.none,_,h,_=>by cases h
 |.tuple _,.bool _,_,h,_=>by cases h
 |.tuple _,.str _,_,h,_=>by cases h
 |.tuple _,.list _,_,h,_=>by cases h
 |.tuple _,.dict _,_,h,_=>by cases h
theorem QsF:∀(xs ys:List Qa),Qc9 xs=true->Qc9 ys=true->Qbj xs ys=.eq->xs=ys
 |[],[],_,_,_=>rfl
 |[],_::_,_,_,h=>by cases h
 |_::_,[],_,_,h=>by cases h
 |x::xs,y::ys,h1,h2,h=>by
  have h1:=QJ.mp (show(okK x&&Qc9 xs)=true from h1);have h2:=QJ.mp (show(okK y&&Qc9 ys)=true from h2);have h:thn (Qb7 x y) (Qbj xs ys)=.eq:=h;cases e:Qb7 x y with
  |eq=>rw[e] at h;rw[Qxz x y h1.1 h2.1 e,QsF xs ys h1.2 h2.2 h]
  |lt=>rw[e] at h;cases h
  |gt=>rw[e] at h;cases h
end
theorem QuR{x y:Qa}(h1:okK x=true)(h2:okK y=true)(a:ltD y x=false)(b:ltD x y=false):x=y:=by
 refine Qxz x y h1 h2 ?_
 rw[QnB] at a;unfold ltD at b;cases e:Qb7 x y with
 |eq=>rfl
 |lt=>rw[e] at b;cases b
 |gt=>rw[e] at a;cases a
theorem Qmw{es fs:List Qa}(p:es.Perm fs)(hk:∀d∈fs,okK d=true)(h1:es.Pairwise λa b=>ltD b a=false)(h2:fs.Pairwise λa b=>ltD b a=false):es=fs:=
 List.Perm.eq_of_pairwise (le:=λa b=>ltD b a=false) (λa b ha hb x y=>QuR (hk a (p.mem_iff.mp ha)) (hk b hb) x y) h1 h2 p
end Rk
namespace Dl
open L2 _root_.Rd Rk
@[irreducible] def Qy2(t:DT)(wb:DS)(D:QfB)(δ:Sts):Prop:=∃Iv:Nat->Sts->Prop,(∃m,Iv m δ)/\∀m δ,Iv m δ->t δ (λb=>if b=true then wb { D with nx:=λδ'=>∃m',m'<m/\Iv m' δ',ct:=λδ'=>∃m',m'<m/\Iv m' δ',bk:=D.nx } δ else D.nx δ) D.ex
def Qoh(t:DT)(wb:DS):DS:=λD δ=>Qy2 t wb D δ
section
variable{X:Cx}{E:XK}
theorem Qm4{c:Q3}{body:List Y4}{pos:Pos}{t:DT}{wb:DS}(hp:Qgw (model X.prog X.w) X.A X.env X.xe)(hc:PT X c (tT X.K E t))(hb:PSs X body (tS X.K E wb)):PS X (.While c body [] pos) (tS X.K E (Qoh t wb)):=by
 refine PS.imp (QpJ hp hc hb) λD σ H ⟨F,δ,DD,rel,hw,en⟩=>?_
 unfold Qoh Qy2 at hw;obtain⟨Iv,⟨m0,i0⟩,step⟩:=hw;refine⟨λm σ' H'=>∃δ',Iv m δ'/\Rel X.K F σ' H' δ'/\Stp F σ H δ σ' H' δ',⟨m0,δ,i0,rel,Stp.refl⟩,?_⟩;rintro m σ' H' ⟨δ',iv,r',st'⟩;refine⟨F,δ',_,DD.ex,r',step m δ' iv,λb hb H1 rel1 kp1=>?_,en.ex⟩;have st1:Stp F σ H δ σ' H1 δ':=st'.trans (Stp.kp kp1);cases b with
 |true=>
  rw[if_pos rfl] at hb;show if true=true then _ else _
  rw[if_pos rfl];refine⟨λσ2 H2=>∃δ2,(∃m',m'<m/\Iv m' δ2)/\Rel X.K F σ2 H2 δ2/\Stp F σ H δ σ2 H2 δ2,λσ2 H2 ⟨δ2,⟨m',hm,h2⟩,r2,s2⟩=>⟨m',hm,δ2,h2,r2,s2⟩,F,δ',_,rel1,hb,?_⟩;exact⟨⟨λδ6 h6 σ6 H6 r6 s6=>⟨δ6,h6,r6,st1.trans s6⟩⟩,en.rt,en.rtF,(en.step st1).nx,⟨λδ6 h6 σ6 H6 r6 s6=>⟨δ6,h6,r6,st1.trans s6⟩⟩,en.ex⟩
 |false=>
  rw[if_neg Qv] at hb;show if false=true then _ else _
  rw[if_neg Qv];exact(en.step st1).nx.go δ' hb σ' H1 rel1 Stp.refl
theorem QpG{c:Q3}{body:List Y4}{pos:Pos}{t:DT}{wb:DS}(hp:Qgw (model X.prog X.w) X.A X.env X.xe)(hc:QT X E c t)(hb:QSs X E body wb):QS X E (.While c body [] pos) (Qoh t wb):=⟨Qm4 hp hc.h hb.h⟩
end
theorem Qv4{t:DT}{wb:DS}{D:QfB}{δ:Sts}(Iv:Nat->Sts->Prop)(m0:Nat)(h0:Iv m0 δ)
  (hs:∀m δ,Iv m δ->t δ (λb=>if b=true then wb { D with nx:=λδ'=>∃m',m'<m/\Iv m' δ',ct:=λδ'=>∃m',m'<m/\Iv m' δ',bk:=D.nx } δ else D.nx δ) D.ex):Qy2 t wb D δ:=by
 unfold Qy2;exact⟨Iv,⟨m0,h0⟩,hs⟩
end Dl
namespace Zn
open Zt
inductive InRows (prog:Qz) (w:Ji) (h:Heap):List (List Int)->List Value->Prop
 |nil:InRows prog w h [] []
 |cons {k:List Int} {b:Addr} {ks:List (List Int)} {vs:List Value}:Qau (intKind prog w) h k b->InRows prog w h ks vs->InRows prog w h (k::ks) (.ref b::vs)
def IsTT(prog:Qz)(w:Ji)(h:Heap)(ks:List (List Int))(a:Addr):Prop:=∃o items n,h.get? a=some o/\o.cls=.type "tuple" /\ o.data=.seq items n/\InRows prog w h ks items.toList
def ttHash(prog:Qz)(w:Ji)(ks:List (List Int)):Int:=reduceHash (Zs (ks.map (tupleKeyHash (intKind prog w))))
def TK(h h':Heap):Prop:=∀c o,h.get? c=some o->o.cls=.type "tuple" -> h'.get? c=some o
section
variable{prog:Qz}{w:Ji}{A:Jb}{E:Value->Shared->Prop}{s:Shared}
theorem InRows.all{h:Heap}{ks:List (List Int)}{vs:List Value}(x:InRows prog w h ks vs):∀v∈vs,∃k b,v=.ref b/\Qau (intKind prog w) h k b:=by
 induction x with
 |nil=>intro v hv;cases hv
 |cons h1 _ ih=>
  intro v hv;rcases Qp.mp hv with z | z
  ·subst z;exact⟨_,_,rfl,h1⟩
  ·exact ih v z
theorem InRows.inj{h:Heap}{x y:List (List Int)}{vs:List Value}(hx:InRows prog w h x vs)(hy:InRows prog w h y vs):x=y:=by
 induction hx generalizing y with
 |nil=>cases hy;rfl
 |cons h1 _ ih=>
  cases hy with
  |cons h2 t2=>rw[h1.inj h2,ih t2]
theorem InRows.keep{h h':Heap}(k:TK h h'){ks:List (List Int)}{vs:List Value}(x:InRows prog w h ks vs):InRows prog w h' ks vs:=by
 induction x with
 |nil=>exact .nil
 |cons h1 _ ih=>
  obtain⟨o,it,n,ho,hc,r⟩:=h1;exact .cons ⟨o,it,n,k _ _ ho hc,hc,r⟩ ih
theorem IsTT.keep{h h':Heap}(k:TK h h'){ks:List (List Int)}{a:Addr}(x:IsTT prog w h ks a):IsTT prog w h' ks a:=by
 obtain⟨o,it,n,ho,hc,hd,r⟩:=x;exact⟨o,it,n,k _ _ ho hc,hc,hd,r.keep k⟩
theorem IsTT.typeIs{ks:List (List Int)}{a:Addr}(x:IsTT prog w s.heap ks a):s.TypeIs (.ref a) "tuple" := let ⟨o,_,_,ho,hc,_⟩:=x;⟨o,ho,hc⟩
theorem IsTT.inj{h:Heap}{a:Addr}{x y:List (List Int)}(hx:IsTT prog w h x a)(hy:IsTT prog w h y a):x=y:=by
 obtain⟨o,items,n,ho,_,hd,hi⟩:=hx;obtain⟨o',items',n',ho',_,hd',hi'⟩:=hy;cases ho.symm.trans ho';rw[hd] at hd';injection hd' with h1 _
 subst h1;exact hi.inj hi'
theorem Qm0{ks:List (List Int)}{a:Addr}{Q:Int->Shared->Prop}(hu:A.units+4<cLine)(hk:IsTT prog w s.heap ks a)(h:∀tk,Q (ttHash prog w ks) { s with toks:=tk }):wpAny (model prog w) A (pyHash (.ref a)) Q E s:=by
 have hT:=hk.typeIs;obtain⟨o,items,n,ho,_,hd,hi⟩:=hk;unfold pyHash
 first | unfold pyHashByItsType | skip
 first | refine wpAny_bind (wpAny_cRoomFor_or (.inr (by omega)) ?_) | skip
 refine wpAny_bind (Yy hT Qap.lookup ?_);show wpAny _ _ (if(some (Qes "tuple.__hash__") == some Jw)=true then _ else _) Q E s;rw[if_neg (by rw[beq_builtin_none];exact Qv)];refine wpAny_bind (Yy hT Qap.lookup ?_);show wpAny _ _ (callSpecialIfBoundUnlessNone? (.ref a) "__hash__" _ >>= _) Q E s;refine wpAny_bind (wpAny_callSpecialIfBoundUnlessNone?_slot hT Qap (JK Qap hT F.entry_tuple_hash ?_ (F.args_tuple_hash_1 _)));show wpAny _ _ (QaW (.ref a) >>= _) _ _ s;refine wpAny_bind (Qgq ho hd ?_);refine wpAny_bind ?_
 rw[<- Z6];refine ZB _
  (λrest (b:Array Int) s'=>∃done left tk,ks=done++left/\InRows prog w s.heap left rest/\b.toList=done.map (tupleKeyHash (intKind prog w))/\s'={ s with toks:=tk })
  _ ?_ ?_ _ _ ⟨[],ks,s.toks,rfl,hi,rfl,rfl⟩
 ·rintro x rest b s' ⟨done,left,tk,rfl,hl,hb,rfl⟩;cases hl with
  |@cons k c ks' _ h1 hl'=>
   refine wpAny_bind (wpAny_pyHash_tuple (s:={ s with toks:=tk }) (by show A.units+1<cLine;omega) h1 ?_)
   first
    |exact Qb ⟨done++[k],ks',_,by simp,hl',by simp[hb],rfl⟩
    |exact wpAny_bind (Qb (Qb ⟨done++[k],ks',_,by simp,hl',by simp[hb],rfl⟩))
 ·rintro b s' ⟨done,left,tk,rfl,hl,hb,rfl⟩;cases hl;rw[Jz] at h;show wpAny _ _ (retInt (Zs b.toList)) _ _ _;rw[hb];refine wpAny_ret_mkInt ?_
  show wpAny _ _ (if(decide (-(2:Int)^63<=Zs (done.map (tupleKeyHash (intKind prog w))))&&decide (Zs (done.map (tupleKeyHash (intKind prog w)))<2^63))=true then _ else _) Q E _;unfold ttHash reduceHash at h;by_cases hr:(decide (-(2:Int)^63<=Zs (done.map (tupleKeyHash (intKind prog w))))&&decide (Zs (done.map (tupleKeyHash (intKind prog w)))<2^63))=true
  ·rw[if_pos hr];rw[if_pos hr] at h;exact Qb (h _)
  ·rw[if_neg hr];rw[if_neg hr] at h;exact wpAny_bind (wpAny_rule (Qb (h _)))
theorem Qli{x y:List (List Int)}{a b:Addr}{P:PySem.Fin->Shared->Prop}(hu:A.units<cLine)(hx:IsTT prog w s.heap x a)(hy:IsTT prog w s.heap y b)(h:P (.done (.ret (.bool (decide (x=y))))) s) :
  wpAny (model prog w) A (Yz.«tuple.__eq__» ⟨[.ref a,.ref b],[]⟩) P E s:=by
 have hTb:=hy.typeIs;obtain⟨oa,xs,na,hoa,_,hda,hia⟩:=hx;obtain⟨ob,ys,nb,hob,_,hdb,hib⟩:=hy;show wpAny _ _ (isInstance (.ref b) (.type "tuple") >>= _) _ _ s;refine wpAny_bind (QaH hTb Qeo ?_);simp only[Yw,Jn,if_false];refine wpAny_bind (Qgq hoa hda ?_);refine wpAny_bind (Qgq hob hdb ?_);refine wpAny_bind ?_
 refine ZB _
  (λrest r s'=>r.1=none/\s'=s/\∃x' y' xs' ys',rest=List.zip xs' ys'/\InRows prog w s.heap x' xs'/\InRows prog w s.heap y' ys'/\decide (x'=y')=decide (x=y)/\(xs'.length == ys'.length)=(xs.size == ys.size))
  _ ?_ ?_ _ _ ⟨rfl,rfl,x,y,xs.toList,ys.toList,rfl,hia,hib,rfl,by simp⟩
 ·rintro⟨u,v⟩ rest r s' ⟨hr,rfl,x',y',xs',ys',hz,hx',hy',hdec,hlen⟩;cases hx' with
  |nil=>simp at hz
  |@cons k1 u' x'' xs'' h1 hx''=>
   cases hy' with
   |nil=>simp at hz
   |@cons k2 v' y'' ys'' h2 hy''=>
    simp only[QbP,List.cons.injEq,Prod.mk.injEq] at hz;obtain⟨⟨rfl,rfl⟩,rfl⟩:=hz;refine wpAny_bind (wpAny_eqBool_tuple hu h1 h2 ?_);by_cases hk:k1=k2
    ·subst hk;rw[decide_eq_true rfl];simp only[Yw,Jn,if_false];refine Qb ⟨rfl,rfl,x'',y'',xs'',ys'',rfl,hx'',hy'',?_,by simpa using hlen⟩;rw[<- hdec];by_cases hxy:x''=y''
     ·simp[hxy]
     ·simp[hxy]
    ·rw[decide_eq_false hk];simp only[QiL,if_true];have hf:decide (x=y)=false:=by rw[<- hdec];simp[hk]
     rw[hf] at h;exact wpAny_bind (Qb (Qb (Qb h)))
 ·rintro⟨r1,r2⟩ s' ⟨hr,rfl,x',y',xs',ys',hz,hx',hy',hdec,hlen⟩;simp only at hr;subst hr;refine Qb ?_
  have hfin:(xs.size == ys.size)=decide (x=y):=by
   rw[<- hdec,<- hlen];cases hx' with
   |nil=>
    cases hy' with
    |nil=>simp
    |cons _ _=>simp
   |cons _ _=>
    cases hy' with
    |nil=>simp
    |cons _ _=>simp at hz
  show P (.done (.ret (.bool (xs.size == ys.size)))) s';rw[hfin];exact h
theorem Qii{x y:List (List Int)}{a b:Addr}{Q:Bool->Shared->Prop}(hu:A.units+4<cLine)(hx:IsTT prog w s.heap x a)(hy:IsTT prog w s.heap y b)(h:Q (decide (x=y)) s):wpAny (model prog w) A (eqBool (.ref a) (.ref b)) Q E s:=by
 unfold eqBool
 try with_reducible refine JY ?_
 show wpAny _ _ (if(QK a == QK b)=true then _ else _) Q E s;by_cases hab:(QK a == QK b)=true
 ·rw[if_pos hab];have e:a=b:=by have:=eq_of_beq hab;injection this
  subst e;obtain rfl:=hx.inj hy;exact wpAny_bind (wpAny_rule (Qb (by simpa using h)))
 ·rw[if_neg hab];exact wpAny_bind (wpAny_richCompare_same_room (op:=.Eq) hx.typeIs hy.typeIs QdM
   (JK QdM hx.typeIs F.entry_tuple_eq (Qli (by show A.units+1<cLine;omega) hx hy ⟨_,rfl,(λe=>nomatch e),ZL h⟩) (F.args_tuple_eq_2 _ _)) (by omega))
theorem QwH{n:Nat}{ks:List Int}{a:Addr}{Q:Bool->Shared->Prop}(hk:Qau (intKind prog w) s.heap ks a)(h:Q true s):wpAny (model prog w) A (eqIsQuiet (n+1) (.ref a)) Q E s:=by
 have hT:=hk.typeIs;obtain⟨o,items,m,ho,_,hd,hi⟩:=hk;unfold eqIsQuiet;refine wpAny_bind (Yy hT QdM.lookup ?_);show wpAny _ _ (isInstance (.ref a) (.type "tuple") >>= _) _ _ s;refine wpAny_bind (QaH hT Qeo ?_);simp only[Yw,Jn,if_false];refine wpAny_bind (Za ho hd ?_);refine wpAny_bind ?_
 show wpAny _ _ (forIn items _ _) _ _ s;rw[<- Z6];refine ZB _ (λrest r s'=>r.1=none/\s'=s/\∀v∈rest,carriedByValue v=true) _ ?_ ?_ _ _ ⟨rfl,rfl,hi.byValue⟩
 ·rintro v rest r s' ⟨hr,rfl,hall⟩;rw[eqIsQuiet_byValue _ (hall v Jm)];refine wpAny_bind (Qb ?_);simp only[Yw,Jn,if_false];exact Qb ⟨rfl,rfl,λu hu'=>hall u (QH _ hu')⟩
 ·rintro⟨r1,r2⟩ s' ⟨hr,rfl,_⟩;simp only at hr;subst hr;exact Qb h
theorem Qkd{ks:List (List Int)}{a:Addr}{Q:Bool->Shared->Prop}(hk:IsTT prog w s.heap ks a)(h:Q true s):wpAny (model prog w) A (eqIsQuiet 8 (.ref a)) Q E s:=by
 have hT:=hk.typeIs;obtain⟨o,items,m,ho,_,hd,hi⟩:=hk;unfold eqIsQuiet;refine wpAny_bind (Yy hT QdM.lookup ?_);show wpAny _ _ (isInstance (.ref a) (.type "tuple") >>= _) _ _ s;refine wpAny_bind (QaH hT Qeo ?_);simp only[Yw,Jn,if_false];refine wpAny_bind (Za ho hd ?_);refine wpAny_bind ?_
 show wpAny _ _ (forIn items _ _) _ _ s;rw[<- Z6];refine ZB _ (λrest r s'=>r.1=none/\s'=s/\∀v∈rest,∃k b,v=.ref b/\Qau (intKind prog w) s.heap k b) _ ?_ ?_ _ _ ⟨rfl,rfl,hi.all⟩
 ·rintro v rest r s' ⟨hr,rfl,hall⟩;obtain⟨k,b,rfl,hb⟩:=hall v Jm;refine wpAny_bind (QwH hb ?_);simp only[Yw,Jn,if_false];exact Qb ⟨rfl,rfl,λu hu'=>hall u (QH _ hu')⟩
 ·rintro⟨r1,r2⟩ s' ⟨hr,rfl,_⟩;simp only at hr;subst hr;exact Qb h
theorem QBP{n:Nat}{ks:List Int}{a:Addr}{Q:Bool->Shared->Prop}(hk:Qau (intKind prog w) s.heap ks a)(h:Q true s):wpAny (model prog w) A (hashByValue (n+1) (.ref a)) Q E s:=by
 have hT:=hk.typeIs;obtain⟨o,items,m,ho,_,hd,hi⟩:=hk;have ha:=Qif hi;unfold hashByValue;refine wpAny_bind (Yy hT Qap.lookup ?_)
 dsimp only
 refine wpAny_bind (Za ho hd ?_);refine wpAny_bind ?_
 show wpAny _ _ (forIn items _ _) _ _ s;rw[<- Z6];refine ZB _ (λrest r s'=>r.1=none/\s'=s/\∀v∈rest,∃k,(intKind prog w).is k v=true) _ ?_ ?_ _ _ ⟨rfl,rfl,ha⟩
 ·rintro v rest r s' ⟨hr,rfl,hall⟩;obtain⟨k,hk⟩:=hall v Jm;rw[(QnQ _ hk).1];refine wpAny_bind (Qb ?_);simp only[Yw,Jn,if_false];exact Qb ⟨rfl,rfl,λu hu'=>hall u (QH _ hu')⟩
 ·rintro⟨r1,r2⟩ s' ⟨hr,rfl,_⟩;simp only at hr;subst hr;exact Qb h
theorem Qx2{ks:List (List Int)}{a:Addr}{Q:Bool->Shared->Prop}(hk:IsTT prog w s.heap ks a)(h:Q true s):wpAny (model prog w) A (hashByValue 8 (.ref a)) Q E s:=by
 have hT:=hk.typeIs;obtain⟨o,items,m,ho,_,hd,hi⟩:=hk;unfold hashByValue;refine wpAny_bind (Yy hT Qap.lookup ?_)
 dsimp only
 refine wpAny_bind (Za ho hd ?_);refine wpAny_bind ?_
 show wpAny _ _ (forIn items _ _) _ _ s;rw[<- Z6];refine ZB _ (λrest r s'=>r.1=none/\s'=s/\∀v∈rest,∃k b,v=.ref b/\Qau (intKind prog w) s.heap k b) _ ?_ ?_ _ _ ⟨rfl,rfl,hi.all⟩
 ·rintro v rest r s' ⟨hr,rfl,hall⟩;obtain⟨k,b,rfl,hb⟩:=hall v Jm;refine wpAny_bind (QBP hb ?_);simp only[Yw,Jn,if_false];exact Qb ⟨rfl,rfl,λu hu'=>hall u (QH _ hu')⟩
 ·rintro⟨r1,r2⟩ s' ⟨hr,rfl,_⟩;simp only at hr;subst hr;exact Qb h
theorem QBH{n:Nat}{ks:List Int}{a:Addr}{Q:Bool->Shared->Prop}(hk:Qau (intKind prog w) s.heap ks a)(h:Q false s):wpAny (model prog w) A (ofAClassStatement (n+1) (.ref a)) Q E s:=by
 have hT:=hk.typeIs;obtain⟨o,items,m,ho,_,hd,hi⟩:=hk;have ha:=Qif hi;unfold ofAClassStatement;refine wpAny_bind (Qbt hT ?_)
 dsimp only
 rw[if_pos (by decide)];refine wpAny_bind (Qb ?_);rw[if_neg (by decide)];refine wpAny_bind (Za ho hd ?_)
 dsimp only
 refine wpAny_bind ?_
 show wpAny _ _ (forIn items _ _) _ _ s;rw[<- Z6];refine ZB _ (λrest r s'=>r.1=none/\s'=s/\∀v∈rest,∃k,(intKind prog w).is k v=true) _ ?_ ?_ _ _ ⟨rfl,rfl,ha⟩
 ·rintro v rest r s' ⟨hr,rfl,hall⟩;obtain⟨k,hk⟩:=hall v Jm;rw[(QnQ 0 hk).2];refine wpAny_bind (Qb ?_);rw[if_neg (by decide)];exact Qb ⟨rfl,rfl,λu hu'=>hall u (QH _ hu')⟩
 ·rintro⟨r1,r2⟩ s' ⟨hr,rfl,_⟩;simp only at hr;subst hr;exact Qb h
theorem QsJ{ks:List (List Int)}{a:Addr}{Q:Bool->Shared->Prop}(hk:IsTT prog w s.heap ks a)(h:Q false s):wpAny (model prog w) A (ofAClassStatement 8 (.ref a)) Q E s:=by
 have hT:=hk.typeIs;obtain⟨o,items,m,ho,_,hd,hi⟩:=hk;unfold ofAClassStatement;refine wpAny_bind (Qbt hT ?_)
 dsimp only
 rw[if_pos (by decide)];refine wpAny_bind (Qb ?_);rw[if_neg (by decide)];refine wpAny_bind (Za ho hd ?_)
 dsimp only
 refine wpAny_bind ?_
 show wpAny _ _ (forIn items _ _) _ _ s;rw[<- Z6];refine ZB _ (λrest r s'=>r.1=none/\s'=s/\∀v∈rest,∃k b,v=.ref b/\Qau (intKind prog w) s.heap k b) _ ?_ ?_ _ _ ⟨rfl,rfl,hi.all⟩
 ·rintro v rest r s' ⟨hr,rfl,hall⟩;obtain⟨k,b,rfl,hb⟩:=hall v Jm;refine wpAny_bind (QBH hb ?_);rw[if_neg (by decide)];exact Qb ⟨rfl,rfl,λu hu'=>hall u (QH _ hu')⟩
 ·rintro⟨r1,r2⟩ s' ⟨hr,rfl,_⟩;simp only at hr;subst hr;exact Qb h
theorem Qpn{ks:List (List Int)}{a:Addr}{stored:List Value}{Q:Bool->Shared->Prop}(hk:IsTT prog w s.heap ks a)(hs:∀v∈stored,∃ks' b,v=.ref b/\IsTT prog w s.heap ks' b)(h:Q false s):wpAny (model prog w) A (searchCouldBeSeen (.ref a) stored) Q E s:=by
 unfold searchCouldBeSeen;refine wpAny_bind ?_
 refine ZB _ (λrest r s'=>r.1=none/\s'=s/\∀v∈rest,∃ks' b,v=.ref b/\IsTT prog w s.heap ks' b) _ ?_ ?_ _ _ ⟨rfl,rfl,hs⟩
 ·rintro v rest r s' ⟨hr,rfl,hall⟩;obtain⟨ks',b,rfl,hb⟩:=hall v Jm
  dsimp only
  split
  ·exact Qb ⟨rfl,rfl,λu hu'=>hall u (QH _ hu')⟩
  ·refine wpAny_bind (Qkd hk ?_);rw[if_neg (by decide)];refine wpAny_bind (Qkd hb ?_);rw[if_neg (by decide)];refine wpAny_bind (QsJ hk ?_);rw[if_neg (by decide)];refine wpAny_bind (QsJ hb ?_);rw[if_neg (by decide)];exact Qb ⟨rfl,rfl,λu hu'=>hall u (QH _ hu')⟩
 ·rintro⟨r1,r2⟩ s' ⟨hr,rfl,_⟩;simp only at hr;subst hr;exact Qb h
end
section
variable{prog:Qz}{w:Ji}{A:Jb}{E:Value->Shared->Prop}{s:Shared}
structure TZ (prog:Qz) (w:Ji) (h:Heap) (a:Addr) (es:Array (Int×Value)) (ep:Nat) (t:SetTable) (ps:List (List (List Int)×Addr)):Prop where
 at_:SetAt h a es ep t
 tab:Tab t
 ent:es.toList=ps.map λp=>(ttHash prog w p.1,QK p.2)
 key:∀p∈ps,IsTT prog w h p.1 p.2
 nd:(ps.map (·.1)).Nodup
 rch:∀(i j:Nat)(e:Int×Value),t.place[i]? = some j->es[i]? = some e->Rch t j e.1
 mks:t.mask=7∨t.mask=31∨t.mask=127∨t.mask=511∨t.mask=2047
 few:t.place.size*5<t.mask*3
variable{a:Addr}{es:Array (Int×Value)}{ep:Nat}{t:SetTable}{ps:List (List (List Int)×Addr)}
theorem TZ.esatZ(x:TZ prog w s.heap a es ep t ps)(i:Nat):es[i]? = (ps[i]?).map λp=>(ttHash prog w p.1,QK p.2):=by
 rw[<- Q5,x.ent,Qx]
theorem TZ.szZ(x:TZ prog w s.heap a es ep t ps):es.size=ps.length:=by rw[<- Qc,x.ent,Qh]
theorem TZ.pszZ(x:TZ prog w s.heap a es ep t ps):t.place.size=ps.length:=by
 have:=x.at_.ft;unfold QbV at this;have:=(QJ.mp this).1;rw[<- x.szZ];exact eq_of_beq this
theorem QzF(x:TZ prog w s.heap a es ep t ps)(hu:A.units+4<cLine){ks:List (List Int)}{b:Addr}(hk:IsTT prog w s.heap ks b){n:Nat}(hn:n<10*JB t.mask)(he:t.slot (stps t n (t.probeStart (ttHash prog w ks))).j=.empty){Q:SetFound->Shared->Prop}
  (hThere:ks∈ps.map (·.1)->Q (.there none) s)(hFree:ks∉ps.map (·.1)->∀j,j∉t.place.toList->j<=t.mask->Rch t j (ttHash prog w ks)->Q (.free j false) s) :
  ∀(fuel k0:Nat)(stand:Option Zd),k0<=n->n - k0<fuel->stand.getD (t.probeStart (ttHash prog w ks))=stps t k0 (t.probeStart (ttHash prog w ks))->(∀m,m<k0->∃i,t.slot (stps t m (t.probeStart (ttHash prog w ks))).j=.live i/\∀p,ps[i]? = some p->p.1≠ks) ->
   wpAny (model prog w) A (setSearchFrom a (.ref b) (ttHash prog w ks) true fuel stand) Q E s:=by
 obtain⟨o,ho,hex,hd⟩:=x.at_.at_;have hf:=x.at_.ft;intro fuel;induction fuel with
 |zero=>intro k0 stand _ h;exact absurd h (ZY _)
 |succ fuel ih=>
  intro k0 stand h1 h2 h3 h4;generalize hH:ttHash prog w ks=H at *;unfold setSearchFrom;refine wpAny_bind (Zo ho hd hf ?_)
  dsimp only
  rw[if_neg (by unfold SetTable.gaveWay;rw[x.tab.od];decide)];obtain⟨k,hkn,pass,met⟩:=QrI x.tab (λi=>(es[i]?.map (·.1)).getD 0) H (n - k0) (10*JB t.mask) (stps t k0 (t.probeStart H)) (by omega) (by rw[<- Qaa,show k0+(n - k0)=n by omega];exact he) (by rw[QfS];rfl);have eh:∀(i:Nat)(p:List (List Int)×Addr),ps[i]? = some p->(es[i]?.map (·.1)).getD 0=ttHash prog w p.1:=λi p hp=>by rw[x.esatZ,hp];rfl
  have pass':∀m,m<k0+k->∃i,t.slot (stps t m (t.probeStart H)).j=.live i/\∀p,ps[i]? = some p->p.1≠ks:=λm hm=>by
   by_cases z:m<k0
   ·exact h4 m z
   ·obtain⟨i,hi,hne⟩:=pass (m - k0) (by omega);rw[<- Qaa,show k0+(m - k0)=m by omega] at hi;refine⟨i,hi,λp hp e=>hne ?_⟩;rw[eh i p hp,e];exact hH
  rcases met with⟨m1,m2⟩ | ⟨m0,i,m1,m2,m3⟩
  ·split
   ·rename_i mt hpb
    rw[h3] at hpb;have hpb:JE t (λi=>(es[i]?.map (·.1)).getD 0) H (10*JB t.mask) (stps t k0 (t.probeStart H))=some mt:=hpb;rw[m1] at hpb;cases hpb
    dsimp only
    rw[<- Qaa] at m2 ⊢;have nin:=x.tab.slot_e m2;refine Qb (hFree (λhin=>?_) _ nin (Qi5 t H _) ⟨k0+k,rfl,λm hm=>?_⟩)
    ·obtain⟨p,hp,rfl⟩:=Qq.mp hin;obtain⟨ix,hix⟩:=ZJ.mp hp;have hlt:ix<t.place.size:=by rw[x.pszZ];exact(QD.mp hix).1
     have hpl:t.place[ix]? = some t.place[ix]:=by simp[hlt]
     obtain⟨nn,e1,e2⟩:=x.rch ix _ _ hpl (by rw[x.esatZ,hix];rfl)
     dsimp only at e1 e2
     rw[hH] at e1 e2;have hlive:=x.tab.slot_at hpl;rw[<- e1] at hlive;rcases ZV nn (k0+k) with z | z | z
     ·obtain⟨i',hi',hne⟩:=pass' nn z;rw[hlive] at hi';cases hi';exact hne p hix rfl
     ·rw[z,m2] at hlive;cases hlive
     ·exact nin (e2 _ z)
    ·obtain⟨i',hi',_⟩:=pass' m hm;have:=Tab.slot_l hi';exact ZO.mpr (YY this)
   ·rename_i hpb
    rw[h3] at hpb;exact absurd (show JE t (λi=>(es[i]?.map (·.1)).getD 0) H (10*JB t.mask) (stps t k0 (t.probeStart H))=none from by
     cases hz:JE t (λi=>(es[i]?.map (·.1)).getD 0) H (10*JB t.mask) (stps t k0 (t.probeStart H)) with
     |none=>rfl
     |some q=>exact absurd hz (hpb q)) (by rw[m1];exact λe=>by cases e)
  ·split
   ·rename_i mt hpb
    rw[h3] at hpb;have hpb:JE t (λi=>(es[i]?.map (·.1)).getD 0) H (10*JB t.mask) (stps t k0 (t.probeStart H))=some mt:=hpb;rw[m1] at hpb;cases hpb
    dsimp only
    have hpi:=Tab.slot_l m2;have hlt:i<ps.length:=by rw[<- x.pszZ];exact(Z3.mp hpi).1
    obtain⟨p,hp⟩:∃p,ps[i]? = some p:=⟨ps[i],by simp[hlt]⟩
    have hpm:=QQ hp;have hei:es[i]? = some (ttHash prog w p.1,QK p.2):=by rw[x.esatZ,hp];rfl
    have hst:∀v∈(List.map (λx=>x.2) (Array.filter (λx=>x.1 == H) es).toList),∃ks' b,v=QK b/\IsTT prog w s.heap ks' b:=λv hv=>by
     obtain⟨e,he',rfl⟩:=Qq.mp hv;have he':e∈es.toList:=by
      rw[Array.toList_filter] at he';exact(Js.mp he').1
     rw[x.ent] at he';obtain⟨q,hq,rfl⟩:=Qq.mp he';exact⟨q.1,q.2,rfl,x.key q hq⟩
    have sm:t.sameMemory t.moves t.mask=some true:=by unfold SetTable.sameMemory;rw[if_pos (by simp)]
    split
    ·refine wpAny_bind (Qpn hk hst ?_);rw[if_neg (by decide)];rw[hei]
     dsimp only
     refine wpAny_bind (JY (Qii hu (x.key p hpm) hk ?_));refine wpAny_bind (Zo ho hd hf ?_)
     dsimp only
     by_cases z:p.1=ks
     ·rw[if_pos (by simp[z])];exact Qb (hThere (Qq.mpr ⟨p,hpm,z⟩))
     ·rw[if_neg (by simp[z]),sm]
      dsimp only
      rw[if_pos rfl,m2]
      dsimp only
      rw[hei]
      dsimp only
      refine wpAny_bind ?_
      unfold isSame
      dsimp only
      rw[if_pos (by simp)];refine Qb (wpAny_bind (Qb ?_));rw[if_pos rfl]
      dsimp only
      rw[if_neg (by simp[z])];refine ih (k0+k+1) _ (by omega) (by omega) (by rw[<- Qaa];rfl) λm hm=>?_
      by_cases y:m<k0+k
      ·exact pass' m y
      ·obtain rfl:m=k0+k:=by omega
       refine⟨i,by rw[Qaa];exact m2,λq hq=>?_⟩;rw[hp] at hq;cases hq;exact z
    ·rw[hei]
     dsimp only
     refine wpAny_bind (JY (Qii hu (x.key p hpm) hk ?_));refine wpAny_bind (Zo ho hd hf ?_)
     dsimp only
     by_cases z:p.1=ks
     ·rw[if_pos (by simp[z])];exact Qb (hThere (Qq.mpr ⟨p,hpm,z⟩))
     ·rw[if_neg (by simp[z]),sm]
      dsimp only
      rw[if_pos rfl,m2]
      dsimp only
      rw[hei]
      dsimp only
      refine wpAny_bind ?_
      unfold isSame
      dsimp only
      rw[if_pos (by simp)];refine Qb (wpAny_bind (Qb ?_));rw[if_pos rfl]
      dsimp only
      rw[if_neg (by simp[z])];refine ih (k0+k+1) _ (by omega) (by omega) (by rw[<- Qaa];rfl) λm hm=>?_
      by_cases y:m<k0+k
      ·exact pass' m y
      ·obtain rfl:m=k0+k:=by omega
       refine⟨i,by rw[Qaa];exact m2,λq hq=>?_⟩;rw[hp] at hq;cases hq;exact z
   ·rename_i hpb
    rw[h3] at hpb;exact absurd (show JE t (λi=>(es[i]?.map (·.1)).getD 0) H (10*JB t.mask) (stps t k0 (t.probeStart H))=none from by
     cases hz:JE t (λi=>(es[i]?.map (·.1)).getD 0) H (10*JB t.mask) (stps t k0 (t.probeStart H)) with
     |none=>rfl
     |some q=>exact absurd hz (hpb q)) (by rw[m1];exact λe=>by cases e)
end
section
variable{prog:Qz}{w:Ji}{A:Jb}{E:Value->Shared->Prop}{s:Shared}{a:Addr}{es:Array (Int×Value)}{ep:Nat}{t:SetTable}{ps:List (List (List Int)×Addr)}
theorem TZ.othZ(x:TZ prog w s.heap a es ep t ps){ks:List (List Int)}{b:Addr}(hk:IsTT prog w s.heap ks b):b≠a:=λe=>by
 subst e;obtain⟨o,ho,hex,hd⟩:=x.at_.at_;obtain⟨o',it,n,ho',hc,_⟩:=hk;rw[ho] at ho';cases ho';rw[hex.1] at hc;exact absurd hc (by decide)
theorem Qmn{h:Heap}{f:Obj->Obj}(x:SetAt h a es ep t):TK h (h.update a f):=λc o ho hc=>(YO _ _ (λe:a=c=>by
 subst e;obtain⟨o',ho',hex,hd⟩:=x.at_;rw[ho] at ho';cases ho';rw[hex.1] at hc;exact absurd hc (by decide))).trans ho
theorem TZ.putZ(x:TZ prog w s.heap a es ep t ps){ks:List (List Int)}{b:Addr}(hk:IsTT prog w s.heap ks b)(hnew:ks∉ps.map (·.1)){j:Nat}(hj:j∉t.place.toList)(hm:j<=t.mask)(hr:Rch t j (ttHash prog w ks)) :
  SetAt (s.heap.update a (QjO (Zy es (t.put j).2 (ttHash prog w ks,QK b)) (t.put j).1)) a (Zy es (t.put j).2 (ttHash prog w ks,QK b)) (ep+1) (t.put j).1 /\
  Tab (t.put j).1/\(Zy es (t.put j).2 (ttHash prog w ks,QK b)).toList=(ps.take (t.put j).2++(ks,b)::ps.drop (t.put j).2).map (λp=>(ttHash prog w p.1,QK p.2)) /\
  (∀p∈ps.take (t.put j).2++(ks,b)::ps.drop (t.put j).2,IsTT prog w (s.heap.update a (QjO (Zy es (t.put j).2 (ttHash prog w ks,QK b)) (t.put j).1)) p.1 p.2) /\
  (ps.take (t.put j).2++(ks,b)::ps.drop (t.put j).2).Perm ((ks,b)::ps) /\
  (∀(i j':Nat)(e:Int×Value),(t.put j).1.place[i]? = some j'->(Zy es (t.put j).2 (ttHash prog w ks,QK b))[i]? = some e->Rch (t.put j).1 j' e.1) /\
  (t.put j).1.place.size=ps.length+1:=by
 obtain⟨T,pl,m1,m2,m3,m4⟩:=x.tab.put hj hm;have hle:(t.put j).2<=t.place.toList.length:=by
  rw[Qc];exact(QcA x.tab.pw j).1
 have hsz:(t.put j).1.place.size=ps.length+1:=by
  rw[<- Qc,pl,<- x.pszZ,<- Qc,Qs,Qt,JH,YE];omega
 have hes:(Zy es (t.put j).2 (ttHash prog w ks,QK b)).toList=es.toList.take (t.put j).2++(ttHash prog w ks,QK b)::es.toList.drop (t.put j).2:=Qgt _ _ _;have hent:(Zy es (t.put j).2 (ttHash prog w ks,QK b)).toList=(ps.take (t.put j).2++(ks,b)::ps.drop (t.put j).2).map (λp=>(ttHash prog w p.1,QK p.2)):=by
  rw[hes,x.ent,JF,JI,QeB,List.map_drop]
 have hpm:(ps.take (t.put j).2++(ks,b)::ps.drop (t.put j).2).Perm ((ks,b)::ps):=by
  refine Qtg.trans ?_
  rw[Jr]
 have hs1:(Zy es (t.put j).2 (ttHash prog w ks,QK b)).size=ps.length+1:=by
  rw[<- Qc,hent,Qh,hpm.length_eq,Qt]
 have hfew:(t.put j).1.place.size<=(t.put j).1.mask:=by
  rw[hsz,m1,<- x.pszZ];have:=x.few;have:=x.mks;omega
 refine⟨x.at_.store ?_,T,hent,λp hp=>?_,hpm,λi j' e h1 h2=>?_,hsz⟩
 ·unfold QbV Qhs;rw[m4,hsz,hs1];rw[hsz] at hfew;simp[hfew]
 ·rcases Qp.mp (hpm.mem_iff.mp hp) with z | z
  ·subst z;exact hk.keep (Qmn x.at_)
  ·exact(x.key p z).keep (Qmn x.at_)
 ·rw[<- Q5,pl] at h1;rw[<- Q5,hes] at h2;have hl:t.place.toList.length=es.toList.length:=by rw[Qc,Qc,x.pszZ,x.szZ]
  have grow:∀y∈t.place.toList,y∈(t.put j).1.place.toList:=λy hy=>by
   rw[pl];rw[<- Jr (t.put j).2 t.place.toList] at hy;rcases Ja.mp hy with z | z
   ·exact Zr _ z
   ·exact Jt _ (.tail _ z)
  rcases ins_get hl hle h1 h2 with⟨rfl,rfl⟩ | ⟨k,q1,q2⟩
  ·exact hr.mono m1 grow
  ·exact(x.rch k j' e (by rw[<- Q5];exact q1) (by rw[<- Q5];exact q2)).mono m1 grow
end
section
variable{prog:Qz}{w:Ji}{A:Jb}{E:Value->Shared->Prop}{s:Shared}{a:Addr}{es:Array (Int×Value)}{ep:Nat}{t:SetTable}{ps:List (List (List Int)×Addr)}
theorem Qwv{m wanted:Nat}{ps:List (List (List Int)×Addr)}(hA:SetAt s.heap a es ep t)(hpl:t.plain=true)(hent:es.toList=ps.map λp=>(ttHash prog w p.1,QK p.2))(hkey:∀p∈ps,IsTT prog w s.heap p.1 p.2)(hoth:∀p∈ps,p.2≠a)(hnd:(ps.map (·.1)).Nodup)
  (hw:Qk6 wanted=m+1)(hm:m=7∨m=31∨m=127∨m=511∨m=2047)(hf:ps.length*5<m*3){Q:Unit->Shared->Prop}
  (h:∀h' es' t' ps',TZ prog w h' a es' (ep+1) t' ps'->ps'.Perm ps->t'.led=t.led->Qay a s.heap h'->Q () { s with heap:=h' }):wpAny (model prog w) A (setRelay a wanted) Q E s:=by
 obtain⟨o,ho,hex,hd⟩:=hA.at_;have hsz:es.size=ps.length:=by rw[<- Qc,hent,Qh]
 have hg:Qcg (m+1)=true:=QnT (t:=tM m) hm;obtain⟨t2,order,el,T,m1,m2,m3,m4,m5⟩:=QlG (finger:=t.finger) (moves:=t.movedTo m) (led:=t.led) hg (by omega) (es.map (·.1)) (by rw[QdH,hsz];omega);rw[QdH] at m3 m4;have pe:=Qlx (es:=es) m4;have sz2:(order.filterMap (es[·]?)).size=es.size:=by rw[<- Qc,pe.length_eq,Qc]
 unfold setRelay;refine wpAny_bind (Zo ho hd hA.ft ?_)
 dsimp only
 rw[if_neg (by rw[hw,Z5];omega)];refine wpAny_bind ?_
 have erl:t.relaid (es.map (·.1)) wanted=some (t2,order):=by
  unfold SetTable.relaid;rw[hw,QaL,hpl];exact el
 rw[erl];show wpAny (model prog w) A (if((order.filterMap (es[·]?)).size != es.size)=true then _ else _) _ E s;rw[if_neg (by rw[sz2];simp)];refine Qb ?_
 dsimp only
 have fit:t2.fits (order.filterMap (es[·]?)).size=true:=by
  unfold QbV Qhs;rw[T.dm,m3,sz2,hsz,m1];simp;omega
 refine Qy4 ho hd ?_ (by rw[sz2,hsz,Z5];omega)
 obtain⟨ps',pp,ep'⟩:∃ps':List (List (List Int)×Addr),ps'.Perm ps/\(order.filterMap (es[·]?)).toList=ps'.map λp=>(ttHash prog w p.1,QK p.2):=by
  rw[hent] at pe;have key:∀{l k:List (Int×Value)},l.Perm k->∀{T:List (List (List Int)×Addr)},k=T.map (λp=>(ttHash prog w p.1,QK p.2))->∃T':List (List (List Int)×Addr),T'.Perm T/\l=T'.map λp=>(ttHash prog w p.1,QK p.2):=by
   intro l k p;induction p with
   |nil=>intro T e;exact⟨T,Z2 _,e⟩
   |@cons x l1 l2 _ ih=>
    intro T e;cases T with
    |nil=>cases e
    |cons y T=>
     injection e with e1 e2
     obtain⟨T',p',e'⟩:=ih e2;exact⟨y::T',p'.cons y,by rw[e1,e'];rfl⟩
   |swap x y l=>
    intro T e
    match T,e with
    |u::v::T,e=>
     injection e with e1 e2
     injection e2 with e2 e3
     exact⟨v::u::T,QfH _ _ _,by rw[e1,e2,e3];rfl⟩
   |trans _ _ ih1 ih2=>
    intro T e;obtain⟨T1,p1,e1⟩:=ih2 e;obtain⟨T2,p2,e2⟩:=ih1 e1;exact⟨T2,p2.trans p1,e2⟩
  exact key pe rfl
 refine h _ _ t2 ps' ⟨hA.store fit,T,ep',λp hp=>(hkey p (pp.mem_iff.mp hp)).keep (Qmn hA),(pp.map (·.1)).nodup_iff.mpr hnd,λi j e h1 h2=>?_,by rw[m1];exact hm,by rw[m3,hsz,m1];exact hf⟩ pp m2 (Zq ..);have hlt:i<order.size:=by
  have:order.size=es.size:=by
   have:=m4.length_eq;rw[Qc,Q1] at this;exact this
  rw[this,<- m3];exact(Z3.mp h1).1
 have hok:order[i]? = some order[i]:=by simp[hlt]
 have hr:=m5 i j order[i] h1 hok;have hin:order[i]<es.size:=Jq.mp (m4.mem_iff.mp (ZO.mpr (Array.getElem_mem hlt)));have e2:e=es[order[i]]:=by
  have key:∀(l:List Nat),(∀x∈l,x<es.size)->∀i:Nat,(l.filterMap (es[·]?))[i]? = (l[i]?).bind (es[·]?):=λl=>by
   induction l with
   |nil=>intro _ i;rfl
   |cons x l ih=>
    intro hx i;have hx1:x<es.size:=hx x (.head _);have hx0:es[x]? = some es[x]:=by simp[hx1]
    rw[Yv,hx0];cases i with
    |zero=>simp[hx0]
    |succ i=>exact ih (λy hy=>hx y (.tail _ hy)) i
  rw[<- Q5,QjR,key order.toList λy hy=>Jq.mp (m4.mem_iff.mp hy)] at h2;rw[Q5,hok] at h2;simp[hin] at h2;exact h2.symm
 have e3:(es.map (·.1)).getD order[i] 0=e.1:=by rw[e2];simp[Zi,hin]
 rw[e3] at hr;exact hr
theorem QAF(x:TZ prog w s.heap a es ep t ps)(hu:A.units+4<cLine){ks:List (List Int)}{b:Addr}(hk:IsTT prog w s.heap ks b)(h300:ps.length<1200){Q:Bool->Shared->Prop}
  (h1:ks∈ps.map (·.1)->∀tk,Q false { s with toks:=tk })
  (h2:ks∉ps.map (·.1)->∀h' es' ep' t' ps' tk,TZ prog w h' a es' ep' t' ps'->ps'.Perm ((ks,b)::ps)->t'.led=t.led->Qay a s.heap h'->Q true { s with heap:=h',toks:=tk }):wpAny (model prog w) A (setAdd a (.ref b)) Q E s:=by
 obtain⟨o,ho,hex,hd⟩:=x.at_.at_;unfold setAdd;refine JY (wpAny_bind (Qm0 hu hk λtk0=>?_));unfold setAddHashed;refine JY ?_
 unfold setAddHashedIn;refine wpAny_bind (Zo (s:={ s with toks:=tk0 }) ho hd x.at_.ft ?_)
 dsimp only
 rw[if_neg (by unfold byScan Value.scannable;simp)];have hsm:t.place.size<=t.mask:=by
  have:=x.few;omega
 obtain⟨j0,hj0,hj1⟩:=x.tab.room hsm;obtain⟨n,hn,en⟩:=Qlj t (QnT x.mks) (ttHash prog w ks) hj0;have x':TZ prog w ({ s with toks:=tk0 }:Shared).heap a es ep t ps:=x;have hn2:n<100000:=by
  have:=x.mks;unfold JB at hn;omega
 refine wpAny_bind (QzF (s:={ s with toks:=tk0 }) x' hu hk hn (by rw[en];exact x.tab.slot_no hj1) (λhin=>?_) (λhnot j hj hjm hr=>?_) 100000 0 none (Qr _) (by omega) rfl λm hm=>absurd hm (ZY _))
 ·exact Qb (h1 hin _)
 ·dsimp only
  refine wpAny_bind (Zo (s:={ s with toks:=tk0 }) ho hd x.at_.ft ?_)
  dsimp only
  obtain⟨q1,q2,q3,q4,q5,q6,q7⟩:=TZ.putZ (s:={ s with toks:=tk0 }) x' hk hnot hj hjm hr;obtain⟨T,pl,m1,m2,m3,m4⟩:=x.tab.put hj hjm;generalize hpt:t.put j=pt at *;obtain⟨t1,p1⟩:=pt
  dsimp only at *
  have hsz1:(Zy es p1 (ttHash prog w ks,QK b)).size=ps.length+1:=by rw[<- Qc,q3,Qh,q5.length_eq,Qt]
  have hfill:t1.fill=ps.length+1:=by unfold Qhs;rw[m4,q7];rfl
  have hfew:=x.few;have hmk:=x.mks;have hps:=x.pszZ;have hes:=x.szZ;have hoth:∀p∈ps.take p1++(ks,b)::ps.drop p1,p.2≠a:=λp hp=>by
   rcases Qp.mp (q5.mem_iff.mp hp) with z | z
   ·subst z;exact x.othZ hk
   ·exact x.othZ (x.key p z)
  have hnd:((ps.take p1++(ks,b)::ps.drop p1).map (·.1)).Nodup:=(q5.map (·.1)).nodup_iff.mpr (by rw[JI];exact QaI.mpr ⟨hnot,x.nd⟩);rw[if_pos q2.pl];refine wpAny_bind (Qx2 hk ?_);simp only[↓reduceIte,QiL,QyR];refine wpAny_bind (Qy4 (s:={ s with toks:=tk0 }) ho hd ?_ (by rw[hsz1,Z5];omega));by_cases z:t1.tooFull=true
  ·rw[if_pos z];have z':t1.fill*5≥t1.mask*3:=of_decide_eq_true z;rw[hfill,m1] at z';obtain⟨m,hw,hm,hf⟩:∃m,Qk6 (SetTable.grown (es.size+1))=m+1/\(m=7∨m=31∨m=127∨m=511∨m=2047)/\(ps.length+1)*5<m*3:=by
    rw[hes];rcases hmk with e | e | e | e | e
    ·have:ps.length=4:=by omega
     rw[this];exact⟨31,by decide,by decide,by decide⟩
    ·have:ps.length=18:=by omega
     rw[this];exact⟨127,by decide,by decide,by decide⟩
    ·have:ps.length=76:=by omega
     rw[this];exact⟨511,by decide,by decide,by decide⟩
    ·have:ps.length=306:=by omega
     rw[this];exact⟨2047,by decide,by decide,by decide⟩
    ·omega
   refine wpAny_bind (Qwv q1 q2.pl q3 q4 hoth hnd hw hm (by rw[q5.length_eq,Qt];exact hf) λh' es' t' ps' ts pp led sb=>Qb (h2 hnot h' es' _ t' ps' _ ts (pp.trans q5) (led.trans m2) ((Zq ..).trans sb)))
  ·rw[if_neg z];have z':¬t1.fill*5≥t1.mask*3:=λc=>z (decide_eq_true c)
   rw[hfill] at z';exact Qb (h2 hnot _ _ _ _ _ _ ⟨q1,q2,q3,q4,hnd,q6,by rw[m1];exact hmk,by rw[q7];omega⟩ q5 m2 (Zq ..))
end
section
variable{prog:Qz}{w:Ji}{s:Shared}{a:Addr}{es:Array (Int×Value)}{ep:Nat}{t:SetTable}{ps:List (List (List Int)×Addr)}
theorem TZ.atZ{h h':Heap}(x:TZ prog w h a es ep t ps)(k:∀o,h.get? a=some o->h'.get? a=some o)(k2:TK h h'):TZ prog w h' a es ep t ps:=
 ⟨x.at_.at' k,x.tab,x.ent,λp hp=>(x.key p hp).keep k2,x.nd,x.rch,x.mks,x.few⟩
theorem Qwr{h:Heap}(x:SetAt h a es ep t){c:Addr}{o:Obj}(z:c=a)(ho:h.get? c=some o)(hc:o.cls=.type "tuple"):False:=by
 subst z;obtain⟨o',ho',hex,hd⟩:=x.at_;rw[ho] at ho';cases ho';rw[hex.1] at hc;exact absurd hc (by decide)
structure TZt (prog:Qz) (w:Ji) (h:Heap) (a:Addr) (ys:List (List (List Int)×Addr)) (led:Bool):Prop where
 ex:∃es ep t ps,TZ prog w h a es ep t ps/\t.led=led/\ps.length<=ys.length/\(∀p∈ps,p∈ys)/\∀y∈ys,y.1∈ps.map (·.1)
variable{A:Jb}{R:QyF->Shared->Prop}{I:Addr}{fp wr:List Addr}{n:Nat}{P:Nat->Value->Prop}{St:Nat->Heap->Prop}
theorem Qmg(W:Walks prog w A.in1 I fp wr n P St)(S:Addr)(hSf:S∉fp){led:Bool}(hu:A.in1.units+4<cLine)(f:Nat->List (List Int)×Addr)(hval:∀i v,P i v->v=.ref (f i).2)(hwt:∀i h,St i h->∀c∈wr,∀o,h.get? c=some o->o.cls≠.type "tuple")(h300:n<=1000) :
  ∀(k i:Nat)(s:Shared),n - i=k->i<=n->St i s.heap->(∀j,j<n->IsTT prog w s.heap (f j).1 (f j).2)->TZt prog w s.heap S ((Qw i).map f) led ->
   (∀h' tk,(∀b o,b∉S::wr->s.heap.get? b=some o->h'.get? b=some o)->TZt prog w h' S ((Qw n).map f) led->R (.ok (.ret .none)) { s with heap:=h',toks:=tk }) ->
   codeAny (model prog w) A (.builtin "set.update.loop" ⟨[.ref S,.ref I],[]⟩) R s:=by
 have hSw:S∉wr:=λz=>hSf (W.sub _ z)
 intro k;induction k with
 |zero=>
  intro i s hk hi hst hK hS hR;obtain rfl:i=n:=by omega
  refine Qan Qb3 ?_
  rw[Yf ZG _];show wpAny _ A.in1 (pyNext (.ref I) >>= _) _ _ s;refine wpAny_bind (W.done s _ _ hst λh' tk hk'=>Qb (hR h' tk (λb o hb e=>hk' b o (λz=>hb (QH _ z)) e) ?_));obtain⟨es,ep,t,ps,x,hl,hn,hsub,hall⟩:=hS.ex;exact⟨es,ep,t,ps,x.atZ (λo e=>hk' S o hSw e) (λc o ho hc=>hk' c o (λz=>hwt _ _ hst c z o ho hc) ho),hl,hn,hsub,hall⟩
 |succ k ih=>
  intro i s hk hi hst hK hS hR;have hlt:i<n:=by omega
  refine Qan Qb3 ?_
  rw[Yf ZG _];show wpAny _ A.in1 (pyNext (.ref I) >>= _) _ _ s;refine wpAny_bind (W.item i s _ _ hlt hst λv h' tk hP hst' hk'=>?_);obtain rfl:=hval i v hP;obtain⟨es,ep,t,ps,x,hl,hn,hsub,hall⟩:=hS.ex;have tk1:TK s.heap h':=λc o ho hc=>hk' c o (λz=>hwt _ _ hst c z o ho hc) ho
  have x':TZ prog w h' S es ep t ps:=x.atZ (λo e=>hk' S o hSw e) tk1;have hK':∀j,j<n->IsTT prog w h' (f j).1 (f j).2:=λj hj=>(hK j hj).keep tk1
  rw[Qh,Q1] at hn;have er:(Qw (i+1)).map f=(Qw i).map f++[f i]:=by rw[Y1,JF];rfl
  show wpAny _ A.in1 (holding [_] (setAdd S _) >>= _) _ _ _;refine wpAny_bind (JY (QAF (s:={ s with heap:=h',toks:=tk }) x' hu (hK' i hlt) (by omega) (λhin tk'=>?_) λhnot h2 es2 ep2 t2 ps2 tk' x2 pp hl2 sb=>?_))
  ·refine Qb ⟨QbM ZG _,ih (i+1) _ (by omega) hlt hst' hK' ⟨es,ep,t,ps,x',hl,by rw[Qh,Q1];omega,λp hp=>?_,λy hy=>?_⟩ λh3 tk3 hk3 hS3=>hR h3 tk3 (λb o hb e=>?_) hS3⟩
   ·rw[er];exact Zr _ (hsub p hp)
   ·rw[er] at hy;rcases Ja.mp hy with z | z
    ·exact hall y z
    ·rw[Q6.mp z];exact hin
   ·exact hk3 b o hb (hk' b o (λz=>hb (QH _ z)) e)
  ·have oth:∀b o,b≠S->h'.get? b=some o->h2.get? b=some o:=λb o hb e=>by
    rw[sb.2 b hb];exact e
   refine Qb ⟨QbM ZG _,ih (i+1) _ (by omega) hlt (W.frame _ h' _ hst' λb hb o e=>oth b o (λz:b=S=>hSf (by rw[<- z];exact hb)) e) (λj hj=>(hK' j hj).keep λc o ho hc=>oth c o (λz=>Qwr (x'.at_) z ho hc) ho) ⟨es2,ep2,t2,ps2,x2,hl2.trans hl,by rw[pp.length_eq,Qt,Qh,Q1];omega,λp hp=>?_,λy hy=>?_⟩ λh3 tk3 hk3 hS3=>hR h3 tk3 (λb o hb e=>?_) hS3⟩
   ·rw[er];rcases Qp.mp (pp.mem_iff.mp hp) with z | z
    ·rw[z];exact Jt _ (.head _)
    ·exact Zr _ (hsub p z)
   ·have pm:=pp.map (·.1);rw[er] at hy;rcases Ja.mp hy with z | z
    ·exact pm.mem_iff.mpr (.tail _ (hall y z))
    ·rw[Q6.mp z];exact pm.mem_iff.mpr (.head _)
   ·exact hk3 b o hb (oth b o (λz:b=S=>hb (by rw[z];exact Jm)) (hk' b o (λz=>hb (QH _ z)) e))
end
section
variable{prog:Qz}{w:Ji}{A:Jb}{E:Value->Shared->Prop}{s:Shared}
theorem Qot{l:Addr}{items:Array Value}{n:Nat}{f:Nat->List (List Int)×Addr}{Q:Value->Shared->Prop}(hh:A.handled=none)(hu:A.units+60<cLine)(hl:s.heap.IsList l items)(hn:items.size=n)(h300:n<=1000)(hval:∀(i:Nat)(v:Value),items[i]? = some v->v=QK (f i).2)(hK:∀j,j<n->IsTT prog w s.heap (f j).1 (f j).2)
  (h:∀(h':Heap)(tk:Nat),TZt prog w h' s.heap.objs.size ((Qw n).map f) (Qbi w)->(∀b o,b<s.heap.objs.size->s.heap.get? b=some o->h'.get? b=some o)->Q (.ref s.heap.objs.size) { s with heap:=h',toks:=tk }):wpAny (model prog w) A (call (.type "set") [.ref l]) Q E s:=by
 obtain⟨c,tl,hmro⟩:=QaK.mro;have hmade:=QaK.made;have hsub:=QaK.sub;refine wpAny_call (Qep (by
  show wpAny _ _ (callAny (.type "set") _) _ _ _;refine Qb ⟨Code.quiet_builtin _ (by decide +kernel),Qan F.entry_type_call ?_⟩;rw[Around.under_plain (weight_type_call_type "set" [.ref l] []) rfl];have h1:=QaK.notType;have h2:=QaK.canCreate;have hct:=F.typeCall_set_1 (.ref l)
  repeat (any_goals (first | assumption | wp_step))
  refine Qcm (QtE (.ref l) (E:=E) (Q:=λobj s₁=>obj=.ref s.heap.objs.size/\s₁={ s with heap:=s.heap.push { cls:=.type "set",dict:=none,data:=.set #[] 0 (.fresh 0 0 (Qbi w)) } }) ⟨rfl,rfl⟩) λr s₁ hr=>?_
  cases r with
  |error e=>exact hr
  |ok fl=>
   cases fl with
   |ret obj=>
    obtain⟨rfl,rfl⟩:=hr;have hS:(s.heap.push { cls:=.type "set",dict:=none,data:=.set #[] 0 (.fresh 0 0 (Qbi w)) }).get? s.heap.objs.size=some { cls:=.type "set",dict:=none,data:=.set #[] 0 (.fresh 0 0 (Qbi w)) }:=Qu _ rfl;have hT:QiE { s with heap:=s.heap.push { cls:=.type "set",dict:=none,data:=.set #[] 0 (.fresh 0 0 (Qbi w)) } } (.ref s.heap.objs.size) "set" := ⟨_,hS,rfl⟩;have hli:=QaK.init.lookup;have hbi:=QaK.init.bind (.ref s.heap.objs.size)
    repeat (any_goals (first | assumption | wp_step))
    refine Qcm (codeAny_call_builtin (R:=wants (λr s₂=>r=.none/\∃h' tk,s₂={ s with heap:=h',toks:=tk }/\TZt prog w h' s.heap.objs.size ((Qw n).map f) (Qbi w)/\(∀b o,b<s.heap.objs.size->s.heap.get? b=some o->h'.get? b=some o)) E) QaK.init.plain F.entry_set_init (check_set_init_1 hT ?_)) λr₂ s₂ hr₂=>?_
    ·obtain⟨⟨ocls,odict,odata,oslots⟩,hol,hcl,nl,hdl⟩:=hl;simp only at hcl hdl;subst hcl hdl;have hol':(s.heap.push { cls:=.type "set",dict:=none,data:=.set #[] 0 (.fresh 0 0 (Qbi w)) }).get? l=some { cls:=.type "list",dict:=odict,data:=.seq items nl,slots:=oslots }:=Qe _ hol;have hsls:=F.sub_list_set;have hslf:=F.sub_list_frozenset;have hne:(ZM "list" == ZM "dict")=false:=by decide
     have hl1:(s.heap.push { cls:=.type "set",dict:=none,data:=.set #[] 0 (.fresh 0 0 (Qbi w)) }).IsList l items:=⟨_,hol',rfl,nl,rfl⟩;unfold Yz.«set.__init__» noKeywords Qtn;generalize hPI:pyIter=PI;wp_walk;subst hPI;refine QhB hl1 (wpAny_bind (wpAny_runValue ?_));have hlS:l<s.heap.objs.size:=Qo hol;have hneI:l≠(s.heap.push { cls:=.type "set",dict:=none,data:=.set #[] 0 (.fresh 0 0 (Qbi w)) }).objs.size:=by rw[Zp];exact QB (Yq hlS)
     have hSf:s.heap.objs.size∉[(s.heap.push { cls:=.type "set",dict:=none,data:=.set #[] 0 (.fresh 0 0 (Qbi w)) }).objs.size,l]:=by
      rw[Zp];simp only[Qp,QV,or_false,not_or];exact⟨QB (QvL _),QaA hlS⟩
     have w0:=Walks.list (prog:=prog) (w:=w) (A:=A.in1.in1.in1) (by simp[hh]) (s.heap.push { cls:=.type "set",dict:=none,data:=.set #[] 0 (.fresh 0 0 (Qbi w)) }).objs.size l hneI items;rw[hn] at w0;refine Qmg (led:=Qbi w) w0 s.heap.objs.size hSf (by show A.units+1+1+1+4<cLine;omega) f (λi v hv=>hval i v hv) ?hW h300 n 0 _ (by omega) (Qr _) ⟨⟨_,Qu _ rfl,rfl,rfl⟩,hl1.push _⟩ (λj hj=>(hK j hj).keep λc o e _=>Qe _ (Qe _ e)) ?hS0 ?hR
     case hW=>
      intro i h hst c hm o ho hcl;obtain rfl:=Q6.mp hm;obtain⟨⟨o',ho',hc',_⟩,_⟩:=hst;rw[ho] at ho';cases ho';rw[hc'] at hcl;exact absurd hcl (by decide)
     case hS0=>
      refine⟨#[],0,QbA 0 0 (Qbi w),[],⟨⟨⟨_,Qe _ hS,⟨rfl,rfl,rfl⟩,rfl⟩,by cases Qbi w<;>rfl⟩,Qtx _,rfl,(λp hp=>nomatch hp),List.nodup_nil,(λi j e h1=>by simp[QbA] at h1),.inl rfl,by show 0*5<7*3;decide⟩,rfl,Qr _,(λp hp=>nomatch hp),(λy hy=>nomatch hy)⟩
     case hR=>
      intro h' tk hk hS';refine Qb ?_
      refine Qb ⟨rfl,h',tk,rfl,hS',λb o hb e=>?_⟩;have hb2:b≠(s.heap.push { cls:=.type "set",dict:=none,data:=.set #[] 0 (.fresh 0 0 (Qbi w)) }).objs.size:=by rw[Zp];exact QB (Yq hb)
      exact hk b o (by simp only[Qp,QV,or_false,not_or];exact⟨QB hb,hb2⟩) (Qe _ (Qe _ e))
    ·cases r₂ with
     |error e=>exact hr₂
     |ok fl₂=>
      cases fl₂ with
      |ret r=>
       obtain⟨rfl,h',tk,rfl,hS',hk'⟩:=hr₂
       repeat (any_goals (first | assumption | wp_step))
       exact h _ _ hS' hk'
      |_=>exact hr₂
   |_=>exact hr))
end
def QyW(prog:Qz)(w:Ji)(a:Addr)(ps:List (List (List Int)×Addr))(led:Bool)(h:Heap):Prop:=∃es ep t,SetAt h a es ep t/\Tab t/\t.led=led/\es.toList=ps.map λp=>(ttHash prog w p.1,QK p.2)
section
variable{prog:Qz}{w:Ji}{A:Jb}{E:Value->Shared->Prop}{s:Shared}
theorem Qlw{ps:List (List (List Int)×Addr)}:∀{l k:List (Int×Value)},l.Perm k->∀{T:List (List (List Int)×Addr)},k=T.map (λp=>(ttHash prog w p.1,QK p.2))->∃T':List (List (List Int)×Addr),T'.Perm T/\l=T'.map λp=>(ttHash prog w p.1,QK p.2):=by
 intro l k p;induction p with
 |nil=>intro T e;exact⟨T,Z2 _,e⟩
 |@cons x l1 l2 _ ih=>
  intro T e;cases T with
  |nil=>cases e
  |cons y T=>
   injection e with e1 e2
   obtain⟨T',p',e'⟩:=ih e2;exact⟨y::T',p'.cons y,by rw[e1,e'];rfl⟩
 |swap x y l=>
  intro T e
  match T,e with
  |u::v::T,e=>
   injection e with e1 e2
   injection e2 with e2 e3
   exact⟨v::u::T,QfH _ _ _,by rw[e1,e2,e3];rfl⟩
 |trans _ _ ih1 ih2=>
  intro T e;obtain⟨T1,p1,e1⟩:=ih2 e;obtain⟨T2,p2,e2⟩:=ih1 e1;exact⟨T2,p2.trans p1,e2⟩
open PyProof.Rows PySem.W PySem.Calls Rs in
theorem Qi7{Q:Value->Shared->Prop}{a:Addr}{ps:List (List (List Int)×Addr)}(hh:A.handled=none)(hl:ps.length<=1000)(x:QyW prog w a ps (Qbi w) s.heap)
  (h:∀(h':Heap)(tk:Nat)(ps':List (List (List Int)×Addr)),ps'.Perm ps->(∀b x,s.heap.get? b=some x->h'.get? b=some x)->∀(P:PySem.Fin->Shared->Prop)(E':Value->Shared->Prop),(∀s2,Q (.ref h'.objs.size) s2->P (.done (.ret .none)) s2) ->
   wpAny (model prog w) A.in1.in1 (Yz.«list.sort» ⟨[.ref h'.objs.size],[]⟩) P E' { s with heap:=h'.push (seqObj "list" (ps'.map λp=>QK p.2).toArray 0),toks:=tk }) :
  wpAny (model prog w) A (call (.builtin "sorted") [.ref a]) Q E s:=by
 obtain⟨es,ep,t,sa,T,led,ent⟩:=x;have hsz:es.size=ps.length:=by rw[<- Qc,ent,Qh]
 obtain⟨so,vs,W⟩:=Qts (prog:=prog) (w:=w) sa T led;obtain⟨ps',pp,e'⟩:=Qlw (prog:=prog) (w:=w) (ps:=ps) W.pm ent;refine QhK kind_sorted plain_sorted entry_sorted (args_sorted1 _) ?_
 unfold Yz.«sorted»;refine wpAny_bind (m:=checkCount "sorted" 1 1 _) (Qb ?_);refine wpAny_bind (QjD (A:=A.in1) hh W sa T.pl (by rw[hsz,Z5];omega) λh' tk kp=>?_);have ev:vs.toList.map (·.2)=ps'.map λp=>QK p.2:=by rw[e',Jc];rfl
 rw[ev];refine wpAny_bind (Qgs ?_ (by rw[Z5,Qh,pp.length_eq];omega));have hoL:(h'.push (seqObj "list" (ps'.map λp=>QK p.2).toArray 0)).get? h'.objs.size=some (seqObj "list" (ps'.map λp=>QK p.2).toArray 0):=Qu _ rfl;show wpAny _ _ _ _ _ { s with heap:=h'.push (seqObj "list" (ps'.map λp=>QK p.2).toArray 0),toks:=tk };refine wpAny_bind (JY (JK slot_list_sort ⟨_,hoL,rfl⟩ entry_list_sort ?body (args_list_sort _)));exact h h' tk ps' pp kp _ _ λs2 hq=>⟨_,rfl,Qb ⟨_,rfl,hq⟩⟩
end
end Zn
namespace Rk
def ttN(ns:List (List Int)):Qa:=.tuple (ns.map tN)
end Rk
namespace L2
open Zt _root_.Rd _root_.Rk Dl Rt
section
variable{X:Cx}
theorem Qld{L:List (List (List Int)×Addr)}:∀{its:List Value},Vals (L.map λp=>V.ref p.2) its->its=L.map λp=>QK p.2:=by
 induction L with
 |nil=>intro its r;cases r;rfl
 |cons p L ih=>intro its r;cases r with | cons r rs=>cases r;rw[ih rs];rfl
theorem Qf5:∀(L:List (List (List Int)×Addr)),Vals (L.map λp=>V.ref p.2) (L.map λp=>QK p.2)
 |[]=>.nil
 |p::L=>.cons rfl (Qf5 L)
theorem Qel{H:Hp}:∀{bs:List Int}{xs:List V},Dats H xs (bs.map QN)->xs=bs.map V.int
 |[],_,.nil=>rfl
 |b::bs,_,.cons q qs=>by
  cases q;rw[Qel qs];rfl
theorem Qig{pins:List (Addr×Obj)}{s:Shared}{σ:L2.St}{H:Hp}(I:Inv X pins σ H s):∀(ks:List (List Int))(xs:List V)(its:List Value),Dats H xs (ks.map tN)->Vals xs its->Zn.InRows X.prog X.w s.heap ks its
 |[],_,_,.nil,.nil=>.nil
 |k::ks,_,_,.cons q qs,.cons r rs=>by
  have q:Dat H _ (.tuple (k.map QN)):=q;cases q with
  |tup e dd=>
   cases r;rw[Qel dd] at e;exact .cons (QxO I e) (Qig I ks _ _ qs rs)
theorem Qu6{pins:List (Addr×Obj)}{s:Shared}{σ:L2.St}{H:Hp}(I:Inv X pins σ H s){r:List (List Int)}{b:Addr}(h:Dat H (.ref b) (ttN r)):Zn.IsTT X.prog X.w s.heap r b:=by
 have h:Dat H _ (.tuple (r.map tN)):=h;cases h with
 |tup e dd=>
  obtain⟨hz,its,rv,o,ho,hc,n,hd⟩:=I.hok b _ e;exact⟨o,its.toArray,n,ho,hc,hd,by simpa using Qig I r _ _ dd rv⟩
def QzI(prog:Qz)(w:Ji)(K:PySem.W.Frag):List V->Hp->VK->Prop:=λxs H Q=>∃(l:Addr)(L:List (List (List Int)×Addr)),xs=[.ref l]/\SqL K H l (L.map λp=>V.ref p.2)/\(∀p∈L,Dat H (.ref p.2) (ttN p.1))/\L.length<=1000 /\
 ∀(t:Addr)(H2:Hp)(ps:List (List (List Int)×Addr)),(ps.map (·.1)).Nodup->ps.length<=L.length->(∀p∈ps,p∈L)->(∀p∈L,p.1∈ps.map (·.1))->Same H H2->H t=none->H2 t=some (.ext (Zn.QyW prog w t ps (Qbi w)))->Q (.ref t) H2
theorem Qou(hc:X.calm=true)(hu:X.A.units+60<cLine):CallR X (.type "set") (QzI X.prog X.w X.K):=by
 intro pins s σ H xs us Q I r h;obtain⟨p,L,rfl,hp,hL,h300,q⟩:=h;obtain⟨u,rfl,ru⟩:=vals1 r;cases ru;obtain⟨its,rv,pl,hz⟩:=I.list hp;obtain rfl:=Qld rv;have hget:∀i,i<L.length->L.getD i ([],0)∈L:=λi hi=>by
  rw[QF,Qf hi];exact YF hi
 refine Zn.Qot (items:=(L.map λp=>QK p.2).toArray) (n:=L.length) (f:=λi=>L.getD i ([],0)) (I.ok.hd hc) hu pl.isList (by rw[Ql,Qh]) h300 (λi v hv=>?_) (λj hj=>Qu6 I (hL _ (hget j hj))) λh' tk hS hk=>?_
 ·rw[QlY,Qx] at hv;cases e:L[i]? with
  |none=>rw[e] at hv;cases hv
  |some y=>
   rw[e] at hv;cases hv;show _=QK (L.getD i ([],0)).2;rw[QF,e];rfl
 ·rw[range_getD] at hS;obtain⟨es,ep,t,ps,x,hl,hn,hsub,hall⟩:=hS.ex;have hf:H s.heap.objs.size=none:=I.hok.fresh (Qi _);refine⟨.ref s.heap.objs.size,upd H s.heap.objs.size (.ext (Zn.QyW X.prog X.w s.heap.objs.size ps (Qbi X.w))),I.laid (t':=tk) (λb x e=>hk b x (Qo e) e) (Qi _) ⟨⟨es,ep,t,x.at_,x.tab,hl,x.ent⟩,?_,λh1 h2 a b=>?_⟩,rfl,q _ _ ps x.nd hn hsub hall (JX hf) hf J7⟩
  ·obtain⟨o,ho,_⟩:=x.at_.at_;exact⟨o,ho⟩
  ·obtain⟨es,ep,t,sa,r⟩:=a;exact⟨es,ep,t,sa.at' b,r⟩
def Qwz(prog:Qz)(w:Ji):List V->Hp->VK->Prop:=λxs H Q=>∃(a:Addr)(ps:List (List (List Int)×Addr)),xs=[.ref a]/\ps.length<=1000/\H a=some (.ext (Zn.QyW prog w a ps (Qbi w)))/\(∀p∈ps,Dat H (.ref p.2) (ttN p.1)) /\
 ∀(t:Addr)(ys:List V)(es:List Qa)(H2:Hp),Same H H2->H t=none->H2 t=some (.lst ys)->Dats H2 ys es->es.Perm (ps.map λp=>ttN p.1)->es.Pairwise (λa b=>ltD b a=false)->(∀y∈ys,y∈ps.map λp=>V.ref p.2)->Q (.ref t) H2
theorem Qgk{H:Hp}:∀{ps:List (List (List Int)×Addr)},(∀p∈ps,Dat H (.ref p.2) (ttN p.1))->Dats H (ps.map λp=>V.ref p.2) (ps.map λp=>ttN p.1)
 |[],_=>.nil
 |p::ps,h=>.cons (h p (.head _)) (Qgk λq hq=>h q (.tail _ hq))
theorem Qgl:∀(L M:List (List Int)),Qci (L.map tN) (M.map tN)=true
 |[],[]=>rfl
 |[],_::_=>rfl
 |_::_,[]=>rfl
 |a::L,b::M=>by show(Qci (a.map QN) (b.map QN)&&Qci (L.map tN) (M.map tN))=true;rw[Qgl L M,Qgm];rfl
theorem Qob(ns:List (List Int)):(ttN ns).depth<=2:=by
 show Q2 (ns.map tN)+1<=2;have:=Qba (n:=1) (ds:=ns.map tN) λd hd=>by obtain⟨p,_,rfl⟩:=Qq.mp hd;exact QrO _
 omega
theorem QfK(rs:List (List (List Int))):Qk1 (rs.map ttN):=⟨λx hx y hy=>by
 obtain⟨s,_,rfl⟩:=Qq.mp hx;obtain⟨t,_,rfl⟩:=Qq.mp hy;exact Qgl s t,λx hx=>by
 obtain⟨s,_,rfl⟩:=Qq.mp hx;exact Q7 (Qob s) (by decide)⟩
theorem QlO(hc:X.calm=true)(hu:X.A.units+60<cLine):CallR X (.builtin "sorted") (Qwz X.prog X.w):=by
 intro pins s σ H xs us Q I r h;obtain⟨a,ps,rfl,h300,ha,hps,q⟩:=h;obtain⟨u,rfl,ru⟩:=vals1 r;cases ru;obtain⟨hS,_⟩:=I.hok a _ ha;refine Zn.Qi7 (I.ok.hd hc) (by omega) hS λh' tk ps' pp kp P E' hP=>?_
 have hps':∀p∈ps',Dat H (.ref p.2) (ttN p.1):=λp hp=>hps p (pp.mem_iff.mp hp)
 refine Qmz hu I (Qf5 ps') (by rw[Qh,pp.length_eq];exact Ys (Rk.QcW (by omega))) (Qgk hps') (by have:=QfK (ps'.map (·.1));rw[Jc] at this;exact this) (λt ys es H2 s2 n2 e2 dt pe pw hy=>?_) h' tk kp P E' hP;exact q t ys es H2 s2 n2 e2 dt (pe.trans (pp.map _)) pw λy hy'=>(pp.map _).mem_iff.mp (hy y hy')
end
end L2
namespace Dl
open L2 _root_.Rd Rk Zt Rt
section
variable{X:Cx}{E:XK}
@[irreducible] def QfX:Qa->(Qa->Prop)->Prop
 |.list ds,Q=>∃rows:List (List (List Int)),ds=rows.map ttN/\rows.length<=1000/\∀ms:List (List (List Int)),ms.Nodup->(∀x,x∈ms↔x∈rows)->(ms.map ttN).Pairwise (λa b=>ltD b a=false)->Q (.list (ms.map ttN))
 |_,_=>False
theorem Qpv{Q:Qa->Prop}(rows:List (List (List Int)))(hl:rows.length<=1000)(h:∀ms:List (List (List Int)),ms.Nodup->(∀x,x∈ms↔x∈rows)->(ms.map ttN).Pairwise (λa b=>ltD b a=false)->Q (.list (ms.map ttN))):QfX (.list (rows.map ttN)) Q:=by
 unfold QfX;exact⟨rows,rfl,hl,h⟩
def Qin(w:DE):DE:=λδ Q EX=>w δ (λd=>QfX d Q) EX
theorem Qjo:∀L:List (List Int),Qc9 (L.map tN)=true
 |[]=>rfl
 |a::L=>by show(Qc9 (a.map QN)&&Qc9 (L.map tN))=true;rw[Qjo L,Qf9];rfl
theorem Qnw(L:List (List Int)):nd (ttN L)=true:=QgY.mpr λd hd=>by
 obtain⟨p,_,rfl⟩:=Qq.mp hd;exact Qkt p
theorem Qij{A:Addr->Prop}{H:Hp}:∀{rows:List (List (List Int))}{xs:List V},DAs A H xs (rows.map ttN)->∃L:List (List (List Int)×Addr),xs=L.map (λp=>V.ref p.2)/\rows=L.map (·.1)/\∀p∈L,Dat H (.ref p.2) (ttN p.1)
 |[],_,.nil=>⟨[],rfl,rfl,λ_ h=>nomatch h⟩
 |r::rows,_,.cons q qs=>by
  obtain⟨L,rfl,rfl,hL⟩:=Qij qs;have q:DA A H _ (.tuple (r.map tN)):=q;have dd:=QkS _ _ (Qnw r) q;cases q with
  |@tup l ys _ na e qq=>
   refine⟨(r,l)::L,rfl,rfl,λp hp=>?_⟩;rcases Qp.mp hp with z | z
   ·rw[z];exact dd
   ·exact hL p z
theorem Qjl{e:Q3}{w:DE}{p p2 pos pos2:Pos}(hu:X.A.units+60<cLine)(hg:Gl X "sorted")(hm:X.mg "sorted" = none)(hg2:Gl X "set")(hm2:X.mg "set" = none)(h:PE X e (tX .P X.K E w))(hc:X.calm=true)(hs:notStar e=true):PE X (.Call (.Name "sorted" p) [.Call (.Name "set" p2) [e] [] pos2] [] pos) (tX .F X.K E (Qin w)):=by
 refine PE.imp (Qct (L2.QlO hc hu) hg hm Qfw (Qej (Qe9 (L2.Qou hc hu) hg2 hm2 bt_set (Qej h YJ hs) (he:=Z4 hs)) YJ)) λσ H Q ⟨F,δ,R,EX,rel,hw,k,o⟩=>?_
 refine⟨F,δ,_,EX,rel,hw,λd hd v H1 rel1 kp1 vk=>?_,o⟩;have hd:QfX d _:=hd;unfold QfX at hd;split at hd
 ·obtain⟨rows,rfl,h300,hR⟩:=hd;obtain⟨l,xs,rfl,e,q⟩:=DP.list vk;obtain⟨L,rfl,rfl,hL⟩:=Qij q;rw[Qh] at h300;refine⟨l,L,rfl,SqL.of e,hL,h300,λt H2 ps nd hn hsub hall s2 n2 e2=>⟨t,ps,rfl,by omega,e2,λp hp=>(hL p (hsub p hp)).same s2,λt3 ys es H3 s3 n3 e3 dt pe pw hy=>?_⟩⟩;have s13:=s2.trans s3;have n13:H1 t3=none:=by
   cases z:H1 t3 with
   |none=>rfl
   |some o=>rw[s2 _ _ z] at n3;cases n3
  obtain⟨Ms,pM,rfl⟩:=Qei ttN (T:=ps.map (·.1)) pe (by rw[Jc];rfl);refine k _ (hR Ms (pM.nodup_iff.mpr nd) (λx=>?_) pw) _ H3 (rel1.same s13) (kp1.trans (Kp.same rel1 s13)) ?_
  ·rw[pM.mem_iff];constructor
   ·intro hx;obtain⟨p,hp,rfl⟩:=Qq.mp hx;exact Qq.mpr ⟨p,hsub p hp,rfl⟩
   ·intro hx;obtain⟨p,hp,rfl⟩:=Qq.mp hx;exact hall p hp
  ·refine⟨.lst (λz=>by obtain⟨xs,e⟩:=rel1.isl z;rw[n13] at e;cases e) e3 (Qim dt (λy hy'=>?_) λy d e _=>QkP d e y),Qby (Qcf kp1 n13)⟩;obtain⟨p,hp,rfl⟩:=Qq.mp (hy y hy');have hp1:=hL p (hsub p hp);obtain⟨d,hd,da⟩:=Qyd q (Qq.mpr ⟨p,hsub p hp,rfl⟩);obtain⟨r,_,rfl⟩:=Qq.mp hd;exact⟨ttN r,da.same s13,Qnw r,Qd2 _ (Qjo r),QkS _ _ (Qnw r) (da.same s13)⟩
 ·exact hd.elim
theorem Qls{e:Q3}{w:DE}{p p2 pos pos2:Pos}(hu:X.A.units+60<cLine)(hg:Gl X "sorted")(hm:X.mg "sorted" = none)(hg2:Gl X "set")(hm2:X.mg "set" = none)(h:QE .P X E e w)(hc:X.calm=true:=by rfl)(hs:notStar e=true:=by rfl):QE .F X E (.Call (.Name "sorted" p) [.Call (.Name "set" p2) [e] [] pos2] [] pos) (Qin w):=⟨Qjl hu hg hm hg2 hm2 h.h hc hs⟩
end
end Dl
namespace L2
section
variable{X:Cx}{pins:List (Addr×Obj)}{σ:St}{H H3:Hp}{s3:Shared}{M:List Str}{scope:QaR}{cap:List (Option Nat)}{fp:List Addr}{h4:Heap}{t4:Nat}
end
section
variable{X:Cx}{pins:List (Addr×Obj)}{σ:St}{H:Hp}
end
end L2
namespace Rk
open L2 _root_.Rd Dl
end Rk
namespace Dl
open L2
section
variable{X:Cx}{E:XK}
end
end Dl
namespace Rk
open L2 _root_.Rd
def top(i:Nat):Y4:=PySem.Challenge.pw_rooklands_k15_whole_stands.main.body.getD i (.Pass ⟨0,0,0,0⟩)
abbrev QfV:Y4:=top 7
abbrev QdT:Y4:=top 8
abbrev QdU:Y4:=top 9
abbrev Qf2:Y4:=top 11
abbrev QfZ:Y4:=top 12
abbrev Qln:Y4:=top 13
abbrev QfW:Y4:=top 16
abbrev Qf3:Y4:=top 17
abbrev QdV:Y4:=top 18
abbrev Qlq:Y4:=top 19
abbrev QbF:Y4:=top 20
abbrev Qf1:Y4:=top 21
abbrev Qcr:Y4:=top 22
abbrev Qf0:Y4:=top 23
abbrev Qlp:Y4:=top 24
abbrev QfY:Y4:=top 25
abbrev sFol:Y4:=top 26
abbrev Qlo:Y4:=top 27
abbrev QdW:Y4:=top 28
abbrev Qlm:Y4:=top 29
abbrev Qll:Y4:=top 30
abbrev sRow:Y4:=top 31
abbrev Qd3:Y4:=top 33
abbrev lPot:Y4:=top 34
abbrev QlH:Y4:=top 35
abbrev Qgg:Y4:=top 36
abbrev Qgh:Y4:=top 37
abbrev lFew:Y4:=top 38
abbrev sLaw:Y4:=top 39
section
variable{P:Qz}{w:Ji}{K:PySem.W.Frag}{mg:Str->Option Value}{base:Heap}
theorem Qpu:JZ ["_law_script", "_law_k"] ["_law_script", "_law_k"] (QC Qd3):=⟨rfl,rfl,rfl,by decide +kernel,rfl,by decide +kernel,by decide +kernel⟩
theorem Qno{f:Addr}{fd:Jd}(F:Fun K "_law_cell_at" "_law_cell_at" Qd3 f fd)(T:GlbA mg):FnOk P w K mg base CX0 1 f fd ["_law_script", "_law_k"] (Qdk K):=by
 refine F.ok Qpu (λvs H Q E h=>?_) (λcdv A outer s H vs Q E hr h=>?_)
 ·obtain⟨a,ns,k,rfl,_⟩:=h;rfl
 ·obtain⟨a,ns,n,rfl,hs,hl,h0,k⟩:=h;refine⟨_,QaZ (QtX (Qjg QuC (pv 1) (Qct Qcj (by rfl) T.len QcO (Qfb (pv 0) YJ)) (Yc _)) (QcU (Qeh (QpR Qg5 (pv 0) (pv 1) (λ_ _=>rfl)))) Qjh) (QcU (Qeh Qaj)),?_⟩;refine⟨_,rfl,_,rfl,a,_,rfl,.inl hs,_,_,rfl,rfl,_,rfl,?_⟩;refine QA4 (λhlt=>?_) (λ_=>k 0);have hlt':n<(ns.map V.int).length:=of_decide_eq_true hlt;rw[Qh] at hlt';obtain⟨j,rfl⟩:=Int.eq_ofNat_of_zero_le h0;have hj:j<ns.length:=by omega
  refine⟨_,rfl,_,rfl,a,_,_,.int ns[j],rfl,rfl,hs,Zx ?_,k _⟩;rw[Qx,Qf hj];rfl
theorem Qlk:JZ ["_law_cell", "_law_number", "_law_j", "_law_more"] ["_law_cell"] (QC lPot):=⟨rfl,rfl,rfl,by decide +kernel,rfl,by decide +kernel,by decide +kernel⟩
theorem Qxv{f:Addr}{fd:Jd}(F:Fun K "_law_pot" "_law_pot" lPot f fd)(T:GlbA mg):FnOk P w K mg base CX0 1 f fd ["_law_cell"] Qwn:=by
 refine F.ok Qlk (λvs H Q E h=>?_) (λcdv A outer s H vs Q E hr h=>?_)
 ·obtain⟨c,rfl,_⟩:=h;rfl
 ·obtain⟨c,rfl,k⟩:=h;refine⟨_,QaZ (QtX (Qjg QuG (pv 0) (QbT QsC Qaj Qaj) (Yc _)) (QcU (Qeh (QsA (Qfb (QbT Qdr (pv 0) (QbT QsC Qaj Qaj)) YJ)))) Qjh)
   (QaZ (Qeg (i:=1) Qlk.nd rfl (Jf rfl) Qaj)
   (QaZ (Qsw JW rfl (Qh0 (by rfl) T.range (Qfb Qaj YJ)) (Qjj (i:=2) Qlk.nd rfl (Jf rfl))
    (QaZ (Qeg (i:=3) Qlk.nd rfl (Jf rfl) (QbT Qh3 (QbT Qf7 (QbT Qf8 (QbT Qf8 (QbT Qh3 (pv 0) Qaj) (QbT Qf7 Qaj (pv 2))) Qaj) Qaj) Qaj))
    (QaZ (Qeg (i:=3) Qlk.nd rfl (Jf rfl) (QbT Qh3 (QbT Qf8 (QbT Qf8 (QbT Qf7 (pv 3) (pv 3)) (QbT Qf7 Qaj (pv 2))) Qaj) Qaj))
    (QcU (Qeg (i:=1) Qlk.nd rfl (Jf rfl) (QbT Qf8 (QbT Qf7 (pv 1) Qaj) (pv 3)))))))
   (QcU (Qeh (QsA (Qfb (pv 1) YJ)))))),?_⟩
  refine⟨_,rfl,_,_,rfl,rfl,⟨by decide,by decide,by decide⟩,_,_,rfl,rfl,_,rfl,?_⟩;refine QA4 (λ_=>?_) (λ_=>?_)
  ·exact⟨_,rfl,_,_,rfl,rfl,⟨by decide,by decide,by decide⟩,_,_,rfl,rfl,by show 1<=sizeLine;decide,λp hp=>k p _ hp⟩
  ·refine⟨64,rfl,by decide,by decide,QnY (n:=64) (λi σ H2=>∃n v u,σ=[some (.int c),some (.int n),v,u]/\H2=H) ⟨0,none,none,rfl,rfl⟩ ?_ ?_⟩
   ·rintro i σ H2 hi ⟨n,v,u,rfl,rfl⟩;have b1:=QkL ((c % 2147483629+7919*(0+(i:Int))+1)*48271) (m:=2147483647) (by decide);refine⟨_,rfl,_,_,rfl,rfl,by show(0:Int)<2147483629;decide,_,rfl,_,_,rfl,rfl,.inl ⟨by decide,by decide⟩,_,_,rfl,rfl,_,_,rfl,rfl,_,_,rfl,rfl,.inr ⟨by decide,by decide⟩,_,_,rfl,rfl,by show(0:Int)<2147483647;decide,?_⟩;refine⟨_,rfl,_,rfl,_,_,rfl,rfl,.inl ⟨by omega,by omega⟩,_,rfl,_,_,rfl,rfl,.inl ⟨by decide,by decide⟩,_,_,rfl,rfl,_,_,rfl,rfl,_,_,rfl,rfl,by show(0:Int)<2147483587;decide,?_⟩;exact⟨_,rfl,_,_,rfl,rfl,.inr ⟨by decide,by decide⟩,_,rfl,_,_,rfl,rfl,_,_,_,rfl,rfl⟩
   ·rintro σ H2 ⟨n,v,u,rfl,rfl⟩;exact⟨_,rfl,by show 1<=sizeLine;decide,λp hp=>k p _ hp⟩
theorem Qst:JZ ["_law_pot_here", "_law_far", "_law_found"] ["_law_pot_here", "_law_far"] (QC QlH):=⟨rfl,rfl,rfl,by decide +kernel,rfl,by decide +kernel,by decide +kernel⟩
theorem QuN{f:Addr}{fd:Jd}(F:Fun K "_law_take" "_law_take" QlH f fd)(T:GlbA mg):FnOk P w K mg base CX0 1 f fd ["_law_pot_here", "_law_far"] Qj6:=by
 refine F.ok Qst (λvs H Q E h=>?_) (λcdv A outer s H vs Q E hr h=>?_)
 ·obtain⟨p,n,m,rfl,_⟩:=h;rfl
 ·obtain⟨p,n,m,rfl,hp,h0,h1,k⟩:=h;refine⟨_,QaZ (Qeg (i:=2) Qst.nd rfl (Jf rfl) (QbT Qh3 (QpR Qg5 (pv 0) Qaj (λ_ _=>rfl)) (pv 1)))
   (QaZ (Qsx (QbT QgV (QpR Qg5 (pv 0) Qaj (λ_ _=>rfl)) (pv 1)) (QwW (pv 0) Qaj Qj7))
   (QcU (Qeh (pv 2)))),?_⟩
  have b:=QkL n h0;exact⟨_,rfl,p,_,_,_,rfl,rfl,SqL.of hp,rfl,_,rfl,_,_,rfl,rfl,h0,_,rfl,p,_,_,_,rfl,rfl,SqL.of hp,rfl,_,rfl,_,_,rfl,rfl,⟨h0,h1⟩,_,rfl,p,_,_,_,rfl,rfl,hp,rfl,_,rfl,k _ _ b.1 b.2⟩
end
end Rk
namespace Rk
open L2 _root_.Rd
open Dl
open Rt
def Qka:DF:=λargs R _=>∃(h w:Nat)(cs:List (Int×Int))(k:Nat),args=[.v (bdD h w cs),.v (.int k)]/\k<=min h w/\R .none
def QgJ:DF:=λargs R _=>∃(h w:Nat)(cs:List (Int×Int))(k:Nat),args=[.v (bdD h w cs),.v (.int k)]/\GB h w cs/\k<=min h w/\Wc cs h h 0 k<=300/\R (.list ((evS cs k).map stT))
def Qdj:DF:=λargs R _=>∃(h w:Nat)(cs:List (Int×Int))(k n:Nat)(L:List (Int×Int)),args=[.v (bdD h w cs),.v (.int k),.v (.int n)]/\GB h w cs/\k<=min h w/\(evS cs k)[n]? = some L/\R (stT L)
def Qh6:DF:=λargs R _=>∃(h w:Nat)(cs L:List (Int×Int)),args=[.v (bdD h w cs),.v (stT L)]/\GB h w cs/\Std cs L/\R (.int (numN cs L L.length L.length:Nat))
def Qrr:DF:=λargs R _=>∃(h w:Nat)(cs L:List (Int×Int)),args=[.v (bdD h w cs),.v (stT L)]/\GB h w cs/\Std cs L/\R (QlB cs L)
def sw(p:Int×Int):Int×Int:=(p.2,p.1)
def Qtw:DF:=λargs R _=>∃(h w:Nat)(cs:List (Int×Int)),args=[.v (bdD h w cs)]/\GB h w cs/\cs.length<=36/\∀ct:List (Int×Int),ct.Perm (cs.map sw)->R (bdD w h ct)
def QoM:DF:=λargs R _=>∃(h w:Nat)(cs L:List (Int×Int)),args=[.v (stT L)]/\GB h w cs/\Std cs L/\∀S:List (Int×Int),S.Perm (L.map sw)->S.Pairwise plt->R (stT S)
def Qn0:DF:=λargs R _=>∃(h w:Nat)(cs:List (Int×Int))(k:Nat),args=[.v (bdD h w cs),.v (.int k),.v (.int (Wc cs h h 0 k))]/\GB h w cs/\k<=min h w/\Wc cs h h 0 k<=300/\R (.bool true)
theorem Qwi{cs:List (Int×Int)}(h:cs.Nodup):(cs.map sw).Nodup:=ZS.mpr (h.imp λ{a b} hne e=>hne (Qez (Qb4 e).2 (Qb4 e).1))
theorem Qsn(cs:List (Int×Int)):(cs.map pairD).map (λd=>pairD ((toP d).2,(toP d).1))=(cs.map sw).map pairD:=by rw[Jc,Jc];rfl
theorem Qwl{cs L:List (Int×Int)}(st:Std cs L):L.Nodup:=st.rows.imp λ{a b}(z:a.1<b.1) e=>by rw[e] at z;omega
theorem QtA{h w:Nat}{cs L ct S:List (Int×Int)}(g:GB h w cs)(st:Std cs L)(pc:ct.Perm (cs.map sw))(pS:S.Perm (L.map sw))(pw:S.Pairwise plt):Qu8 w h ct (stT S)=true:=by
 have inS:∀p∈S,sw p∈L:=λp hp=>by
  obtain⟨q,hq,rfl⟩:=Qq.mp (pS.mem_iff.mp hp);exact hq
 refine Qmv (λp hp=>?_) (λp hp=>pc.mem_iff.mpr (Qq.mpr ⟨sw p,st.sub _ (inS p hp),rfl⟩)) ?_ pw
 ·obtain⟨q,hq,rfl⟩:=Qq.mp (pc.mem_iff.mp hp);have:=g.bds.2.2 q hq;exact⟨this.2.2.1,this.2.2.2,this.1,this.2.1⟩
 ·show(decide (S.map (·.1)).Nodup&&decide (S.map (·.2)).Nodup)=true;have e1:(L.map sw).map (·.1)=L.map (·.2):=by rw[Jc];rfl
  have e2:(L.map sw).map (·.2)=L.map (·.1):=by rw[Jc];rfl
  have r:(L.map (·.1)).Nodup:=ZS.mpr (st.rows.imp λ{a b}(z:a.1<b.1)=>by show a.1≠b.1;omega);rw[decide_eq_true ((pS.map (·.1)).nodup_iff.mpr (by rw[e1];exact st.cols)),decide_eq_true ((pS.map (·.2)).nodup_iff.mpr (by rw[e2];exact r))];rfl
def Qlr(S:List (Int×Int)):List (List Int):=S.map λp=>[p.1,p.2]
theorem Qpx(S:List (Int×Int)):ttN (Qlr S)=stT S:=by
 show Yp ((S.map λp=>[p.1,p.2]).map tN)=.tuple (S.map pairD);rw[Jc];rfl
theorem QmK{S T:List (Int×Int)}(h:Qlr S=Qlr T):S=T:=by
 have:=congrArg (List.map λl:List Int=>(l.getD 0 0,l.getD 1 0)) h;unfold Qlr at this;rw[Jc,Jc] at this;have f:∀M:List (Int×Int),M.map ((λl:List Int=>(l.getD 0 0,l.getD 1 0))∘λp=>[p.1,p.2])=M:=λM=>by
  conv=>rhs;rw[<- QoS M]
  exact Yt λp _=>rfl
 rwa [f,f] at this
theorem QAq{h w:Nat}{cs:List (Int×Int)}(g:GB h w cs)(k:Nat):((evS cs k).map stT).Pairwise λa b=>ltD b a=false:=by
 refine ZS.mpr ((Qdv g.srt g.r0 k).imp λ{S T} z=>?_);cases e:ltD (stT T) (stT S) with
 |false=>rfl
 |true=>have:=(Qg1 T S).mp e;exact(Qry z this).elim
section
variable{P:Qz}{w:Ji}{K:PySem.W.Frag}{mg:Str->Option Value}{base:Heap}
theorem Qpo:JZ ["thing"] ["thing"] (QC QfV):=⟨rfl,rfl,rfl,by decide +kernel,rfl,by decide +kernel,by decide +kernel⟩
theorem Qrg{f   : Addr}{fd  : Jd}(F:Fun K "is_whole" "is_whole" QfV f fd)(T:GlbA mg) :
  FnOk P w K mg base CX0 1 f fd ["thing"] (ZA false Qmd):=by
 refine okQ false F Qpo (λargs R EX h=>?_) (λcdv A outer s H E hr=>?_)
 ·obtain⟨d,rfl,_⟩:=h;rfl
 ·have hU:=Room.u60 hr;have hI:=Room.i60 hr;refine⟨_,Jo (Yx (Qlu (JC (Qkh .int (by rfl) T.isinstance (qp 0) (by rfl) T.int Qys)) (Qlt (QzO (JC (Qkh .bool (by rfl) T.isinstance (qp 0) (by rfl) T.bool QvD)))))),λargs R EX h=>?_⟩;obtain⟨d,rfl,hR⟩:=h;cases d<;>exact hR
theorem QmE:JZ ["thing", "least", "most"] ["thing", "least", "most"] (QC QdT):=⟨rfl,rfl,rfl,by decide +kernel,rfl,by decide +kernel,by decide +kernel⟩
theorem Qnj{f f1  : Addr}{fd fd1:Jd}(F:Fun K "is_whole_within" "is_whole_within" QdT f fd)(T:GlbA mg)
  (m1:mg "is_whole" = some (.ref f1))(G1:FnOk P w K mg base CX0 1 f1 fd1 ["thing"] (ZA false Qmd))(b1:Binds K fd1 ["thing"] [])(k1:PySem.W.keepIn K (.ref f1)=true) :
  FnOk P w K mg base CX0 2 f fd ["thing", "least", "most"] (ZA false QeZ):=by
 refine okQ false F QmE (λargs R EX h=>?_) (λcdv A outer s H E hr=>?_)
 ·obtain⟨d,a,b,rfl,_⟩:=h;rfl
 ·have hU:=Room.u60 hr;have hI:=Room.i60 hr;refine⟨_,Jo (Yx (Qlu (JG (Zm G1 (hr.mono (by decide)) (by rfl) m1 k1 b1 Zw (ZI (qv 0) JQ))) (Qlt (Zv (QBF Qrf Qrf (qp 1) (qp 0) (qp 2)))))),λargs R EX h=>?_⟩;obtain⟨d,a,b,rfl,hR⟩:=h;refine⟨d,rfl,?_⟩;cases d with
  |int i=>exact QAe (Qyx hR)
  |_=>exact hR
theorem Qgb:(["one", "other"]:List Str).Nodup:=by decide +kernel
theorem QmG:JZ ["things"] ["things"] (QC QdU):=⟨rfl,rfl,rfl,by decide +kernel,rfl,by decide +kernel,by decide +kernel⟩
theorem Qnk{f   : Addr}{fd  : Jd}(F:Fun K "is_rising" "is_rising" QdU f fd)(T:GlbA mg) :
  FnOk P w K mg base CX0 1 f fd ["things"] (ZA false Qjc):=by
 refine okQ false F QmG (λargs R EX h=>?_) (λcdv A outer s H E hr=>?_)
 ·obtain⟨ds,rfl | rfl,_⟩:=h<;>rfl
 ·have hU:=Room.u60 hr;have hI:=Room.i60 hr;refine⟨_,Jo (QbR (YI Qhl (Qor rfl) (by rfl) T.all Qoy (QeJ (JC (Qb0 ["one", "other"] [none,none] (QzN (QtQ (by rfl) T.zip (qp 0) (JC (Qe8 (qp 0) (Qe6 (JG Zc)) Qe7))) (QtR (by rfl) T.zip (qp 0) (JC (Qe8 (qp 0) (Qe6 (JG Zc)) Qe7)))) (λcl ex s3 H3 C=>⟨(Qbo rfl (Zf 0 (Zf 1 Qbp Qgb rfl (Jf rfl) (Je rfl)) Qgb rfl (Jf rfl) (Je rfl))),Qav,(Zv (QhX (QsD hU) QsI (qp 0) (qp 1) (Yc _)))⟩))) J9))),λargs R EX h=>?_⟩;obtain⟨ds,h,hc,hR⟩:=h;have go:∀d∈Qlc ds (Dl.cutD ds (some 1) none),∃a b,d=.tuple [a,b]/\(okK a=true/\okK b=true/\QiO a b=true/\a.depth<=20):=λd hd=>by
   obtain⟨i,hi⟩:=ZJ.mp hd;obtain⟨a,b,ha,hb,rfl⟩:=Dl.zip_get hi;have ma:=QQ ha;have mb:=QrP (QQ hb);exact⟨a,b,rfl,(hc a ma).1,(hc b mb).1,(hc a ma).2.2 b mb,(hc a ma).2.1⟩
  rcases h with rfl | rfl
  ·refine .inl (QbI (λd=>.bool (QxI d)) (λd hd k2 hk=>?_) (Qhr (items:=Qlc ds (Dl.cutD ds (some 1) none)) rfl (by rw[QeV];exact hR)));obtain⟨a,b,rfl,q⟩:=go d hd;exact⟨rfl,q,hk⟩
  ·refine .inr (QbI (λd=>.bool (QxI d)) (λd hd k2 hk=>?_) (Qhr (items:=Qlc ds (Dl.cutD ds (some 1) none)) rfl (by rw[QeV];exact hR)));obtain⟨a,b,rfl,q⟩:=go d hd;exact⟨rfl,q,hk⟩
theorem Qpq:JZ ["high", "wide", "thing"] ["high", "wide", "thing"] (QC QfZ):=⟨rfl,rfl,rfl,by decide +kernel,rfl,by decide +kernel,by decide +kernel⟩
theorem Qrj{f f1  : Addr}{fd fd1:Jd}(F:Fun K "is_place" "is_place" QfZ f fd)(T:GlbA mg)
  (m1:mg "is_whole_within" = some (.ref f1))(G1:FnOk P w K mg base CX0 2 f1 fd1 ["thing", "least", "most"] (ZA false QeZ))(b1:Binds K fd1 ["thing", "least", "most"] [])(k1:PySem.W.keepIn K (.ref f1)=true) :
  FnOk P w K mg base CX0 3 f fd ["high", "wide", "thing"] (ZA false Qm3):=by
 refine okQ false F Qpq (λargs R EX h=>?_) (λcdv A outer s H E hr=>?_)
 ·obtain⟨h,w,d,rfl,_⟩:=h;rfl
 ·have hU:=Room.u60 hr;have hI:=Room.i60 hr;refine⟨_,QP (QbS (QvP (QmT (QcK (Qdn (JC (Qkh .tuple (by rfl) T.isinstance (qp 2) (by rfl) T.tuple Qdz)))) (Qkc (Qaw Qek (Qh5 hU) (JC (YI Qbb Qfv (by rfl) T.len QcO (QeJ (qp 2) J9))) (JG Zc) (Yc _))))) (Jo (Yx Qki)) Yg)
   (Jo (Yx (Qlu (JG (Zm G1 (hr.mono (by decide)) (by rfl) m1 k1 b1 Zw (ZI (Qdp Z0 Qax (qp 2) (JG Zc) (λ_ _=>rfl)) (ZI Zc (ZI (Zv (YA Qdr QcM (qp 0) (JG Zc))) JQ))))) (Qlt (Zm G1 (hr.mono (by decide)) (by rfl) m1 k1 b1 Zw (ZI (Qdp Z0 Qax (qp 2) (JG Zc) (λ_ _=>rfl)) (ZI Zc (ZI (Zv (YA Qdr QcM (qp 1) (JG Zc))) JQ)))))))),λargs R EX h=>?_⟩
  obtain⟨h,w,d,rfl,hR⟩:=h;cases d with
  |tuple ds=>
   match ds,hR with
   |[a,b],hR=>
    refine⟨a,rfl,_,_,_,rfl,?_⟩;refine Qhq hR λ_ hR=>?_
    exact⟨b,rfl,_,_,_,rfl,hR⟩
   |[],hR=>exact hR
   |[_],hR=>exact hR
   |a::b::c::r,hR=>
    exact hR
  |_=>exact hR
theorem QnA:(["part", "high", "wide"]:List Str).Nodup:=by decide +kernel
theorem Qps:JZ ["high", "wide", "thing"] ["high", "wide", "thing"] (QC Qf2):=⟨rfl,rfl,rfl,by decide +kernel,rfl,by decide +kernel,by decide +kernel⟩
theorem Qrl{f f1 f2  : Addr}{fd fd1 fd2:Jd}(F:Fun K "is_cells" "is_cells" Qf2 f fd)(T:GlbA mg)
  (m1:mg "is_place" = some (.ref f1))(G1:FnOk P w K mg base CX0 3 f1 fd1 ["high", "wide", "thing"] (ZA false Qm3))(b1:Binds K fd1 ["high", "wide", "thing"] [])(k1:PySem.W.keepIn K (.ref f1)=true)
  (m2:mg "is_rising" = some (.ref f2))(G2:FnOk P w K mg base CX0 1 f2 fd2 ["things"] (ZA false Qjc))(b2:Binds K fd2 ["things"] [])(k2:PySem.W.keepIn K (.ref f2)=true) :
  FnOk P w K mg base CX0 4 f fd ["high", "wide", "thing"] (ZA false Qop):=by
 refine okQ false F Qps (λargs R EX h=>?_) (λcdv A outer s H E hr=>?_)
 ·obtain⟨h,w,d,rfl,_⟩:=h;rfl
 ·have hU:=Room.u60 hr;have hI:=Room.i60 hr;refine⟨_,QP (QbS (QcK (Qdn (JC (Qkh .tuple (by rfl) T.isinstance (qp 2) (by rfl) T.tuple Qdz)))) (Jo (Yx Qki)) Yg)
   (Jo (Yx (Qlu (JC (YI Qhl (Qor rfl) (by rfl) T.all Qoy (QeJ (JC (Qb0 ["part", "high", "wide"] [none,some 0,some 1] (QcL (qp 2)) (λcl ex s3 H3 C=>⟨(Yh 0 QnA rfl (Jf rfl) (Je rfl)),Qav,(Zm G1 (hr.mono (by decide)) (by rfl) m1 k1 b1 Zw (ZI (qv 1) (ZI (qv 2) (ZI (qv 0) JQ))))⟩))) J9))) (Qlt (Zm G2 (hr.mono (by decide)) (by rfl) m2 k2 b2 Zw (ZI (qv 2) JQ)))))),λargs R EX h=>?_⟩
  obtain⟨h,w,d,rfl,hR⟩:=h;cases d with
  |tuple ds=>
   refine QbI (λd=>.bool (QlI h w d)) (λd hd k2 hk=>⟨_,_,_,rfl,hk⟩) (Qhr (items:=ds) rfl ?_);refine Qhq hR λha hR=>?_
   obtain⟨L,rfl,_⟩:=Qkm ha;exact⟨_,.inl rfl,Qem L,hR⟩
  |_=>exact hR
theorem Qh8:(["row", "column"]:List Str).Nodup:=by decide +kernel
theorem Qh7:(["row", "column"]:List Str).Nodup:=by decide +kernel
theorem QgN:JZ ["cells", "rows", "columns"] ["cells"] (QC Qf3):=⟨rfl,rfl,rfl,by decide +kernel,rfl,by decide +kernel,by decide +kernel⟩
theorem Qrm{f   : Addr}{fd  : Jd}(F:Fun K "are_apart" "are_apart" Qf3 f fd)(T:GlbA mg) :
  FnOk P w K mg base CX0 1 f fd ["cells"] (ZA false QoH):=by
 refine okQ false F QgN (λargs R EX h=>?_) (λcdv A outer s H E hr=>?_)
 ·obtain⟨L,rfl,_⟩:=h;rfl
 ·have hU:=Room.u60 hr;have hI:=Room.i60 hr;refine⟨_,QP (Qjf ["row", "column"] [none,none] 1 QgN.nd (QcL (qp 0)) (λcl ex s3 H3 C=>⟨(Qbo rfl (Zf 0 (Zf 1 Qbp Qh8 rfl (Jf rfl) (Je rfl)) Qh8 rfl (Jf rfl) (Je rfl))),Qav,(qv 0)⟩))
   (QP (Qjf ["row", "column"] [none,none] 2 QgN.nd (QcL (qp 0)) (λcl ex s3 H3 C=>⟨(Qbo rfl (Zf 0 (Zf 1 Qbp Qh7 rfl (Jf rfl) (Je rfl)) Qh7 rfl (Jf rfl) (Je rfl))),Qav,(qv 1)⟩))
   (Jo (Yx (Qlu (JC (QhX Qh4 (Qnt hU) (JC (Qkg (by rfl) T.len (by rfl) T.set (qp 1))) (JC (YI Qbb Qfv (by rfl) T.len QcO (QeJ (qp 1) J9))) (Yc _))) (Qlt (Zv (QhX Qh4 (Qnt hU) (JC (Qkg (by rfl) T.len (by rfl) T.set (qp 2))) (JC (YI Qbb Qfv (by rfl) T.len QcO (QeJ (qp 2) J9))) (Yc _)))))))),λargs R EX h=>?_⟩
  obtain⟨L,rfl,hl,hR⟩:=h;have e1:(L.map pairD).map (λd=>QN (toP d).1)=(L.map (λp=>p.1)).map QN:=by rw[Jc,Jc];rfl
  have e2:(L.map pairD).map (λd=>QN (toP d).2)=(L.map (λp=>p.2)).map QN:=by rw[Jc,Jc];rfl
  refine QbI (λd=>.int (toP d).1) (λd hd k2 hk=>?_) ?_
  ·obtain⟨p,_,rfl⟩:=Qq.mp hd;exact⟨rfl,hk⟩
  ·refine QbI (λd=>.int (toP d).2) (λd hd k2 hk=>?_) ?_
   ·obtain⟨p,_,rfl⟩:=Qq.mp hd;exact⟨rfl,hk⟩
   ·rw[e1,e2];refine⟨_,Qgp _,by rw[Qh];exact hl,?_⟩;have c1:∀ns:List Int,decide (((ddI ns).length:Int)=(((ns.map QN).length:Nat):Int))=decide ns.Nodup:=λns=>by
     rw[Qh];refine decide_eq_decide.mpr ⟨λz=>(QkM ns).mp (by omega),λz=>by have:=(QkM ns).mpr z;omega⟩
    show if decide _=true then _ else _
    rw[c1];refine Qhq hR λ_ hR=>?_
    refine⟨_,Qgp _,by rw[Qh];exact hl,?_⟩;show R (.bool (decide _));rw[c1];exact hR
theorem Qnx:(["cell", "cells"]:List Str).Nodup:=by decide +kernel
theorem QeG:JZ ["board", "thing", "high", "wide", "cells"] ["board", "thing"] (QC QfW):=⟨rfl,rfl,rfl,by decide +kernel,rfl,by decide +kernel,by decide +kernel⟩
theorem Qrh{f f1 f2  : Addr}{fd fd1 fd2:Jd}(F:Fun K "is_stand" "is_stand" QfW f fd)(T:GlbA mg)
  (m1:mg "is_cells" = some (.ref f1))(G1:FnOk P w K mg base CX0 4 f1 fd1 ["high", "wide", "thing"] (ZA false Qop))(b1:Binds K fd1 ["high", "wide", "thing"] [])(k1:PySem.W.keepIn K (.ref f1)=true)
  (m2:mg "are_apart" = some (.ref f2))(G2:FnOk P w K mg base CX0 1 f2 fd2 ["cells"] (ZA false QoH))(b2:Binds K fd2 ["cells"] [])(k2:PySem.W.keepIn K (.ref f2)=true) :
  FnOk P w K mg base CX0 5 f fd ["board", "thing"] (ZA false Qj5):=by
 refine okQ false F QeG (λargs R EX h=>?_) (λcdv A outer s H E hr=>?_)
 ·obtain⟨h,w,cs,d,rfl,_⟩:=h;rfl
 ·have hU:=Room.u60 hr;have hI:=Room.i60 hr;refine⟨_,QP (Qke (qv 0) (Qbo rfl (Zf 2 (Zf 3 (Zf 4 Qbp QeG.nd rfl (by first | exact Jf rfl | exact Je rfl)) QeG.nd rfl (by first | exact Jf rfl | exact Je rfl)) QeG.nd rfl (by first | exact Jf rfl | exact Je rfl))))
   (QP (QbS (QcK (Qdn (JG (Zm G1 (hr.mono (by decide)) (by rfl) m1 k1 b1 Zw (ZI (qv 2) (ZI (qv 3) (ZI (qv 1) JQ))))))) (Jo (Yx Qki)) Yg)
   (Jo (Yx (Qlu (JC (YI Qhl (Qor rfl) (by rfl) T.all Qoy (QeJ (JC (Qb0 ["cell", "cells"] [none,some 4] (QcL (qp 1)) (λcl ex s3 H3 C=>⟨(Yh 0 Qnx rfl (Jf rfl) (Je rfl)),Qav,(Zv (QhX Qxq (QxB hI) (qp 0) (qp 1) (by rfl)))⟩))) J9))) (Qlt (Zm G2 (hr.mono (by decide)) (by rfl) m2 k2 b2 Zw (ZI (qv 1) JQ))))))),λargs R EX h=>?_⟩
  obtain⟨h,w,cs,d,rfl,hs,hR⟩:=h;refine⟨rfl,_,_,_,rfl,?_⟩;cases d with
  |tuple ds=>
   show if(!(ds.all (QlI h w)&&Qex ds))=true then _ else _
   cases hc:(ds.all (QlI h w)&&Qex ds) with
   |false=>
    rw[show Qu8 h w cs (.tuple ds)=false by show((ds.all (QlI h w)&&Qex ds)&&_)=false;rw[hc];rfl] at hR;exact hR
   |true=>
    rw[show Qu8 h w cs (.tuple ds)=(ds.all (inC cs)&&apB (ds.map toP)) by show((ds.all (QlI h w)&&Qex ds)&&_)=_;rw[hc];rfl] at hR;obtain⟨L,rfl,hL⟩:=Qkm (QJ.mp hc).1;have hl:=hs _ rfl;rw[Qh] at hl;refine QbI (λd=>.bool (inC cs d)) (λd hd k2 hk=>?_) (Qhr (items:=L.map pairD) rfl ?_)
    ·obtain⟨p,_,rfl⟩:=Qq.mp hd;exact⟨⟨QbH cs,rfl,by have:=QlL p;omega⟩,hk⟩
    ·rw[Qfa] at hR;refine Qhq hR λ_ hR=>⟨L,rfl,by omega,hR⟩
  |_=>exact hR
theorem QtG:JZ ["board"] ["board"] (QC Qlq):=⟨rfl,rfl,rfl,by decide +kernel,rfl,by decide +kernel,by decide +kernel⟩
theorem QuQ{f   : Addr}{fd  : Jd}(F:Fun K "most_size" "most_size" Qlq f fd)(T:GlbA mg) :
  FnOk P w K mg base CX0 1 f fd ["board"] (ZA false Qru):=by
 refine okQ false F QtG (λargs R EX h=>?_) (λcdv A outer s H E hr=>?_)
 ·obtain⟨h,w,cs,rfl,_⟩:=h;rfl
 ·have hU:=Room.u60 hr;have hI:=Room.i60 hr;refine⟨_,Jo (QbR (YI (Qis rfl) QrT (by rfl) T.min Qs5 (QeJ (JG (Qdp Z0 Qax (qp 0) (JG Zc) (λ_ _=>rfl))) (QeJ (JG (Qdp Z0 Qax (qp 0) (JG Zc) (λ_ _=>rfl))) J9)))),λargs R EX h=>?_⟩;obtain⟨h,w,cs,rfl,hR⟩:=h;exact⟨_,Zx (j:=0) rfl,_,Zx (j:=1) rfl,QuW (by split<;>omega) hR⟩
theorem QdS:JZ ["below", "columns", "taken", "ways", "column", "bit", "size", "many"] ["below", "columns", "taken"] (QC sRow):=⟨rfl,rfl,rfl,by decide +kernel,rfl,by decide +kernel,by decide +kernel⟩
theorem QuJ{f   : Addr}{fd  : Jd}(F:Fun K "ways_with_row" "ways_with_row" sRow f fd)(T:GlbA mg) :
  FnOk P w K mg base CX0 1 f fd ["below", "columns", "taken"] (ZA true Qtq):=by
 refine okQ true F QdS (λargs R EX h=>?_) (λcdv A outer s H E hr=>?_)
 ·obtain⟨h,w,B,cols,t,rfl,_⟩:=h;rfl
 ·have hU:=Room.u60 hr;have hI:=Room.i60 hr;refine⟨_,QP (QgS 3 (QeK Qhk Qvz (by rfl) T.list QvC (QeJ (JG (Qdp Z0 Qax (qp 0) (qp 2) (λ_ _=>rfl))) J9)) QdS.nd)
   (QP (QbZ JW rfl (QcT (qv 1)) (Yh 4 QdS.nd rfl (by first | exact Jf rfl | exact Je rfl))
    (QP (ZU 5 (Zv (YA Qkp Qjp (JG Zc) (qp 4))) QdS.nd)
   (Jo (QbS (QcK (QmV (JC (YA Qxu QcM (qp 2) (qp 5))))) (Jo (QbZ JW rfl (Qkf (by rfl) T.enumerate (Zv (Qe8 (JG (Qdp Z0 Qax (qp 0) (JC (YA Qz1 QcM (qp 2) (qp 5))) (λ_ _=>rfl))) Qe7 (Qe6 (JC (QwK (JG Zc))))))) (Qbo rfl (Zf 6 (Zf 7 Qbp QdS.nd rfl (by first | exact Jf rfl | exact Je rfl)) QdS.nd rfl (by first | exact Jf rfl | exact Je rfl)))
    (Jo (QtP 3 QnM QgW (JC (YA YK QaM (qp 6) (JG Zc))) (qp 7))))) Yg))))
   (Jo (Qje 3))),λargs R EX h=>?_⟩
  obtain⟨h,w,B,cols,t,rfl,ht,hc,h6,w6,hR⟩:=h;refine⟨_,Zx (Qe0 ht),?_⟩;refine QaN (λj δ=>∃ds x4 x5 x6 x7,δ=[.v (.list (Qi2 h w B)),.v (.list (Qva cols)),.v (.int t),.own ds,x4,x5,x6,x7]/\ds=QeH h (stepB B (cols.take j) t)) ⟨_,_,_,_,_,rfl,QbG λk _=>?_⟩ ?_ ?_
  ·show B t k=B t k+if k=0 then 0 else 0
   split<;>omega
  ·rintro j d δ hd ⟨ds,x4,x5,x6,x7,rfl,rfl⟩;unfold Qva at hd;rw[Qx] at hd;obtain⟨c,ec,rfl⟩:∃c:Nat,cols[j]? = some c/\d=.int (c:Int):=by
    cases e:cols[j]? with
    |none=>rw[e] at hd;cases hd
    |some p=>rw[e] at hd;cases hd;exact⟨p,rfl,rfl⟩
   have hcw:=hc c (QQ ec);have et:cols.take (j+1)=cols.take j++[c]:=by rw[Yk,ec];rfl
   refine⟨⟨by omega,by omega,by decide⟩,trivial,?_⟩;show if(!tru (.int (Qc7 (t:Int) (1*2^((c:Nat):Int).toNat))))=true then _ else _
   rw[QvG ht hcw w6];cases hb:t.testBit c with
   |true=>
    have np:(2:Int)^c≠0:=by
     have:(0:Int)<2^c:=Int.pow_pos (by decide);omega
    rw[if_pos rfl];refine ifF ?_ ⟨_,_,_,_,_,rfl,QbG λk _=>?_⟩
    ·show(!((2:Int)^c != 0))=false;simp[np]
    ·unfold stepB;rw[et,Qe2,if_pos hb,Qdg]
   |false=>
    refine ifT rfl ?_
    have olt:=Qxi ht hcw;refine⟨.list (QeH h (B (t ||| 2^c))),?_,?_⟩
    ·show atI (Qi2 h w B) (QdO (t:Int) (1*2^((c:Nat):Int).toNat))=_;rw[Qxj ht hcw w6];exact Zx (Qe0 olt)
    ·show QvI (QjC (Dl.cutD (QeH h (B (t ||| 2^c))) none (some (-1)))) _ _ _ _;rw[QpC];refine QaN (λi δ=>∃ds x6 x7,δ=[.v (.list (Qi2 h w B)),.v (.list (Qva cols)),.v (.int t),.own ds,.v (.int c),.v (.int (1*2^((c:Nat):Int).toNat)),x6,x7]/\ds=QeH h (λk=>stepB B (cols.take j) t k+if 1<=k/\k<=i then B (t ||| 2^c) (k - 1) else 0)) ⟨_,_,_,rfl,QbG λk _=>?_⟩ ?_ ?_
     ·rw[if_neg (by omega),Qdg]
     ·rintro i d δ hd ⟨ds,x6,x7,rfl,rfl⟩;obtain⟨e,he,rfl⟩:=Qdw hd;rw[Qx] at he;have hi:i<h:=by
       by_cases z:i<h
       ·exact z
       ·rw[QM (by rw[Q1];omega)] at he;cases he
      rw[Jy hi] at he;cases he;refine⟨rfl,i+1,_,?_,Qcd (by omega),_,_,_,rfl,?_⟩
      ·rw[Qcs];exact Qu7 (k:=i+1) (by omega)
      ·rw[QpA (by omega)];refine QbG λk hk=>?_
       show(if k=i+1 then(stepB B (cols.take j) t (i+1)+if 1<=i+1/\i+1<=i then B (t ||| 2^c) (i+1 - 1) else 0)+B (t ||| 2^c) i else stepB B (cols.take j) t k+if 1<=k/\k<=i then B (t ||| 2^c) (k - 1) else 0)=stepB B (cols.take j) t k+if 1<=k/\k<=i+1 then B (t ||| 2^c) (k - 1) else 0
       by_cases z:k=i+1
       ·subst z;rw[if_pos rfl,if_neg (by omega),if_pos (by omega),QaL,Qdg]
       ·rw[if_neg z];by_cases z2:1<=k/\k<=i
        ·rw[if_pos z2,if_pos (by omega)]
        ·rw[if_neg z2,if_neg (by omega)]
     ·rintro δ ⟨ds,x6,x7,rfl,rfl⟩;rw[Qcy,Qh,Q1];refine⟨_,_,_,_,_,rfl,QbG λk hk=>?_⟩;unfold stepB;rw[et];by_cases z:k=0
      ·subst z;rw[if_pos rfl,if_neg (by omega),if_pos rfl];omega
      ·rw[if_neg z,if_neg z,if_pos (by omega),Qe2,if_neg (by rw[hb];decide)];omega
  ·rintro δ ⟨ds,x4,x5,x6,x7,rfl,rfl⟩;unfold Qva;rw[Qh,ZN];exact hR
theorem Qrt:(["taken", "high"]:List Str).Nodup:=by decide +kernel
theorem Qkv:(["at", "column", "row"]:List Str).Nodup:=by decide +kernel
theorem Qrs:(["taken", "columns", "table"]:List Str).Nodup:=by decide +kernel
theorem QcS:JZ ["board", "high", "wide", "cells", "table", "row", "columns"] ["board"] (QC Qll):=⟨rfl,rfl,rfl,by decide +kernel,rfl,by decide +kernel,by decide +kernel⟩
theorem QuL{f f1  : Addr}{fd fd1:Jd}(F:Fun K "ways_to_go_on" "ways_to_go_on" Qll f fd)(T:GlbA mg)
  (m1:mg "ways_with_row" = some (.ref f1))(G1:FnOk P w K mg base CX0 1 f1 fd1 ["below", "columns", "taken"] (ZA true Qtq))(b1:Binds K fd1 ["below", "columns", "taken"] [])(k1:PySem.W.keepIn K (.ref f1)=true) :
  FnOk P w K mg base CX0 2 f fd ["board"] (ZA true Qme):=by
 refine okQ true F QcS (λargs R EX h=>?_) (λcdv A outer s H E hr=>?_)
 ·obtain⟨h,w,cs,rfl,_⟩:=h;rfl
 ·have hU:=Room.u60 hr;have hI:=Room.i60 hr;refine⟨_,QP (Qke (qv 0) (Qbo rfl (Zf 1 (Zf 2 (Zf 3 Qbp QcS.nd rfl (by first | exact Jf rfl | exact Je rfl)) QcS.nd rfl (by first | exact Jf rfl | exact Je rfl)) QcS.nd rfl (by first | exact Jf rfl | exact Je rfl))))
   (QP (QgS 4 (QfL (Qb6 (Zv (Qb0 ["taken", "high"] [none,some 1] (QdZ (by rfl) T.range (JC (YA Qkp Qjp (JG Zc) (qp 2)))) (λcl ex s3 H3 C=>⟨(Yh 0 Qrt rfl (Jf rfl) (Je rfl)),Qav,(Zv (YA YK QaM (JC (QfL (Qb6 Zc J9))) (JC (YA Qni QsH (JC (QfL (Qb6 Zc J9))) (qp 1)))))⟩))) J9)) QcS.nd)
   (QP (QbZ JW rfl (QmZ (by rfl) T.reversed (by rfl) T.range (qp 1)) (Yh 5 QcS.nd rfl (by first | exact Jf rfl | exact Je rfl))
    (QP (ZU 6 (Zv (Qb0 ["at", "column", "row"] [none,none,some 5] (QcL (qp 3)) (λcl ex s3 H3 C=>⟨(Qbo rfl (Zf 0 (Zf 1 Qbp Qkv rfl (Jf rfl) (Je rfl)) Qkv rfl (Jf rfl) (Je rfl))),(Qjd (Qaw Qh4 (Qnt hU) (qp 0) (qp 2) (Yc _))),(qv 1)⟩))) QcS.nd)
   (Jo (QwI 4 Zc (Zv (Qb0 ["taken", "columns", "table"] [none,some 6,some 4] (QdZ (by rfl) T.range (JC (YA Qkp Qjp (JG Zc) (qp 2)))) (λcl ex s3 H3 C=>⟨(Yh 0 Qrs rfl (Jf rfl) (Je rfl)),Qav,(Zv (Y0 G1 (hr.mono (by decide)) (by rfl) m1 k1 b1 Zw (ZI (Qdp Z0 Qax (qp 2) (JG Zc) (λ_ _=>rfl)) (ZI (qv 1) (ZI (qv 0) JQ)))))⟩)))))))
   (Jo (Qje 4)))),λargs R EX h=>?_⟩
  obtain⟨h,w,cs,rfl,h6,w6,hb,hR⟩:=h;refine⟨rfl,⟨by omega,by omega,by decide⟩,?_,QbI (λ_=>.list (QN 1::Jl h (.int 0))) (λd hd k2 hk=>?_) ?_⟩
  ·exact Qsy w6
  ·refine⟨⟨by omega,by omega,by rw[Q8];show 1*h<=_;omega⟩,?_⟩;rw[Q8,QtJ];refine⟨by rw[Qa1];show 1+h<=_;omega,hk⟩
  ·have e0:(QoW 0 (1*2^((w:Nat):Int).toNat:Int).toNat).map (λ_=>QaP (QN 1::Jl h (.int 0)))=Qi2 h w (Wc cs h 0):=by
    rw[QgT,Q8];unfold QoW Qi2;rw[Jc];refine Yt λt _=>?_
    show QaP _=QaP _;rw[QpB]
   rw[e0];refine⟨⟨by omega,by omega⟩,QaN (λi δ=>∃ds x5 x6,δ=[.v (bdD h w cs),.v (.int h),.v (.int w),.v (.tuple (cs.map pairD)),.own ds,x5,x6]/\ds=Qi1 cs h w i) ⟨_,_,_,rfl,rfl⟩ ?_ ?_⟩
   ·rintro i d δ hd ⟨ds,x5,x6,rfl,rfl⟩;obtain⟨hi,rfl⟩:=QgQ hd;rw[Q8] at hi;have er:((((h:Nat):Int).toNat:Nat):Int) - 1 - (i:Int)=((h - 1 - i:Nat):Int):=by omega
    rw[er];refine Qvv (λd=>if(toP d).1=((h - 1 - i:Nat):Int) then some (.int (toP d).2) else none) (λd hd k1 k2 h1 h2=>?_) ?_
    ·obtain⟨p,_,rfl⟩:=Qq.mp hd;have h1:(if p.1=((h - 1 - i:Nat):Int) then some (QN p.2) else none)=none->k1:=h1;have h2:∀e,(if p.1=((h - 1 - i:Nat):Int) then some (QN p.2) else none)=some e->k2 e:=h2
     refine⟨rfl,?_⟩;show if decide (p.1=((h - 1 - i:Nat):Int))=true then k2 (.int p.2) else k1
     by_cases z:p.1=((h - 1 - i:Nat):Int)
     ·rw[if_pos (decide_eq_true z)];exact h2 _ (if_pos z)
     ·rw[if_neg (by simpa using z)];exact h1 (if_neg z)
    ·rw[Qyq cs (h - 1 - i) λp hp=>(hb p hp).1];refine⟨⟨by omega,by omega,by decide⟩,?_,QbI (λd=>match d with | .int t=>.list (QeH h (Wc cs h (i+1) t.toNat)) | _=>.none) (λd hd k2 hk=>?_) ?_⟩
     ·exact Qsy w6
     ·obtain⟨t,ht⟩:=ZJ.mp hd;obtain⟨htl,rfl⟩:=Qjb ht;rw[QgT,Q8] at htl;have hk:k2 (.list (QeH h (Wc cs h (i+1) (0+(t:Int)).toNat))):=hk;rw[show(0+(t:Int)).toNat=t by omega] at hk;refine⟨_,Zx (j:=0) (Qi0 cs h w i),h,w,Wc cs h i,QoY cs (h - 1 - i),t,by rw[show(0:Int)+(t:Int)=(t:Int) by omega],htl,λc hc=>Qvr hb hc,h6,w6,hk⟩
     ·refine⟨by rw[QjZ];omega,_,_,_,rfl,?_⟩;show QaP _::Qi1 cs h w i=QaP (Qi2 h w (Wc cs h (i+1)))::Qi1 cs h w i
      congr 2
      rw[QgT,Q8];unfold QoW Qi2;rw[Jc];refine Yt λt _=>?_
      show QaP (QeH h (Wc cs h (i+1) (0+(t:Int)).toNat))=_;rw[show(0+(t:Int)).toNat=t by omega]
   ·rintro δ ⟨ds,x5,x6,rfl,rfl⟩;rw[QeI,Q8];exact hR
theorem QmI:JZ ["board"] ["board"] (QC QdV):=⟨rfl,rfl,rfl,by decide +kernel,rfl,by decide +kernel,by decide +kernel⟩
theorem Qnm{f f1 f2  : Addr}{fd fd1 fd2:Jd}(F:Fun K "counts" "counts" QdV f fd)(T:GlbA mg)
  (m1:mg "ways_to_go_on" = some (.ref f1))(G1:FnOk P w K mg base CX0 2 f1 fd1 ["board"] (ZA true Qme))(b1:Binds K fd1 ["board"] [])(k1:PySem.W.keepIn K (.ref f1)=true)
  (m2:mg "most_size" = some (.ref f2))(G2:FnOk P w K mg base CX0 1 f2 fd2 ["board"] (ZA false Qru))(b2:Binds K fd2 ["board"] [])(k2:PySem.W.keepIn K (.ref f2)=true) :
  FnOk P w K mg base CX0 3 f fd ["board"] (ZA true Qft):=by
 refine okQ true F QmI (λargs R EX h=>?_) (λcdv A outer s H E hr=>?_)
 ·obtain⟨h,w,cs,rfl,_⟩:=h;rfl
 ·have hU:=Room.u60 hr;have hI:=Room.i60 hr;refine⟨_,Jo (QbR (Qe8 (JG (Qdp Z0 Qax (JG (Qdp Z0 Qax (JC (Y0 G1 (hr.mono (by decide)) (by rfl) m1 k1 b1 Zw (ZI (qv 0) JQ))) (JG Zc) (λ_ _=>rfl))) (JG Zc) (λ_ _=>rfl))) Qe7 (Qe6 (JC (YA YK QaM (JG (Zm G2 (hr.mono (by decide)) (by rfl) m2 k2 b2 Zw (ZI (qv 0) JQ))) (JG Zc)))))),λargs R EX h=>?_⟩;obtain⟨h,w,cs,rfl,h6,w6,hb,hR⟩:=h;refine⟨_,_,_,rfl,h6,w6,hb,_,Zx (j:=0) (Qi0 cs h w h),_,Zx (j:=0) (Qe0 (QhH w)),_,_,_,rfl,?_⟩;have e:Dl.cutD (QeH h (Wc cs h h 0)) none (some (((min h w:Nat):Int)+1))=QrR cs h w:=by
   rw[QkT _ _ (by omega)];unfold QeH QrR;rw[<- QeB,QvN,show min (((min h w:Nat):Int)+1).toNat (h+1)=min h w+1 by omega]
  have hR:R (.list (QrR cs h w)):=hR;rw[<- e] at hR;exact hR
theorem QtF:JZ ["start"] ["start"] (QC Qlo):=⟨rfl,rfl,rfl,by decide +kernel,rfl,by decide +kernel,by decide +kernel⟩
theorem QuO{f   : Addr}{fd  : Jd}(F:Fun K "row_behind" "row_behind" Qlo f fd)(T:GlbA mg) :
  FnOk P w K mg base CX0 1 f fd ["start"] (ZA false Qpy):=by
 refine okQ false F QtF (λargs R EX h=>?_) (λcdv A outer s H E hr=>?_)
 ·obtain⟨S,rfl,_⟩:=h;rfl
 ·have hU:=Room.u60 hr;have hI:=Room.i60 hr;refine⟨_,Jo (Yx (QzP (QmV (qp 0)) (Zv (YA YK QaM (JG (Qdp Z0 Qax (JG (Qdp Z0 Qax (qp 0) (JC (QwK (JG Zc))) (λ_ _=>rfl))) (JG Zc) (λ_ _=>rfl))) (JG Zc))) Zc)),λargs R EX h=>?_⟩;obtain⟨S,rfl,hR⟩:=h;refine⟨trivial,?_⟩;unfold rbI at hR;cases e:S.getLast? with
  |none=>
   rw[e] at hR;rw[List.getLast?_eq_none_iff] at e;subst e;exact hR
  |some c=>
   rw[e] at hR;refine ifT ?_ ⟨_,Qu1 e,_,Zx (j:=0) rfl,hR⟩
   cases S with
   |nil=>cases e
   |cons a b=>rfl
theorem QuV:(["cell"]:List Str).Nodup:=by decide +kernel
theorem QuU:(["cell", "row", "taken"]:List Str).Nodup:=by decide +kernel
theorem QmH:JZ ["board", "start", "row", "taken"] ["board", "start"] (QC sFol):=⟨rfl,rfl,rfl,by decide +kernel,rfl,by decide +kernel,by decide +kernel⟩
theorem Qxx{f f1  : Addr}{fd fd1:Jd}(F:Fun K "followers" "followers" sFol f fd)(T:GlbA mg)
  (m1:mg "row_behind" = some (.ref f1))(G1:FnOk P w K mg base CX0 1 f1 fd1 ["start"] (ZA false Qpy))(b1:Binds K fd1 ["start"] [])(k1:PySem.W.keepIn K (.ref f1)=true) :
  FnOk P w K mg base CX0 2 f fd ["board", "start"] (ZA false Qx4):=by
 refine okQ false F QmH (λargs R EX h=>?_) (λcdv A outer s H E hr=>?_)
 ·obtain⟨h,w,cs,S,rfl,_⟩:=h;rfl
 ·have hU:=Room.u60 hr;have hI:=Room.i60 hr;refine⟨_,QP (ZU 2 (Zm G1 (hr.mono (by decide)) (by rfl) m1 k1 b1 Zw (ZI (qv 1) JQ)) QmH.nd)
   (QP (ZU 3 (Zv (Qb0 ["cell"] [none] (QcL (qp 1)) (λcl ex s3 H3 C=>⟨(Yh 0 QuV rfl (Jf rfl) (Je rfl)),Qav,(Qdp Z0 Qax (qp 0) (JG Zc) (λ_ _=>rfl))⟩))) QmH.nd)
   (Jo (QbR (Qb0 ["cell", "row", "taken"] [none,some 2,some 3] (QcL (JG (Qdp Z0 Qax (qp 0) (JG Zc) (λ_ _=>rfl)))) (λcl ex s3 H3 C=>⟨(Yh 0 QuU rfl (Jf rfl) (Je rfl)),(Qjd (QvP (Qsv (Qaw QuG Qds (JG (Qdp Z0 Qax (qp 0) (JG Zc) (λ_ _=>rfl))) (qp 1) (Yc _)) (QmU (Qaw Qnh (QxB hI) (JG (Qdp Z0 Qax (qp 0) (JG Zc) (λ_ _=>rfl))) (qp 2) (by rfl)))))),(qv 0)⟩))))),λargs R EX h=>?_⟩
  obtain⟨h,w,cs,S,rfl,hR⟩:=h;refine⟨_,rfl,QbI (λd=>.int (toP d).2) (λd hd k2 hk=>?_) ?_⟩
  ·obtain⟨p,_,rfl⟩:=Qq.mp hd;exact⟨_,Zx (j:=1) rfl,hk⟩
  ·rw[show(S.map pairD).map (λd=>QN (toP d).2)=(S.map (·.2)).map QN by rw[Jc,Jc];rfl];refine⟨_,Zx (j:=2) rfl,Qvv (λd=>if(λc:Int×Int=>decide (rbI S<=c.1) && !decide (c.2∈S.map (·.2))) (toP d)=true then some d else none) (λd hd k1 k2 h1 h2=>?_) ?_⟩
   ·obtain⟨c,_,rfl⟩:=Qq.mp hd;have h1:(if(decide (rbI S<=c.1) && !decide (c.2∈S.map (·.2)))=true then some (pairD c) else none)=none->k1:=h1;have h2:∀e,(if(decide (rbI S<=c.1) && !decide (c.2∈S.map (·.2)))=true then some (pairD c) else none)=some e->k2 e:=h2
    refine⟨_,Zx (j:=0) rfl,?_⟩;refine ifC (λz1=>?_) λz1=>?_
    ·have z1:decide (rbI S<=c.1)=true:=z1;rw[z1,QyR] at h1 h2;refine⟨_,Zx (j:=1) rfl,⟨Qkt _,rfl,by show YU (.int _)<=50;unfold YU;decide⟩,?_⟩;show if(!((S.map (·.2)).map QN).any λe=>Ju e (.int c.2))=true then _ else k1
     rw[QvF];by_cases z:(!decide (c.2∈S.map (·.2)))=true
     ·rw[if_pos z];exact h2 _ (if_pos z)
     ·rw[if_neg z];exact h1 (if_neg z)
    ·have z1:decide (rbI S<=c.1)=false:=z1;rw[z1] at h1;exact h1 rfl
   ·rw[QkI (λc:Int×Int=>decide (rbI S<=c.1) && !decide (c.2∈S.map (·.2)))];exact hR
theorem QsL:(["stand", "cell", "board"]:List Str).Nodup:=by decide +kernel
theorem Qpr:JZ ["board", "size", "stands", "step"] ["board", "size"] (QC Qf1):=⟨rfl,rfl,rfl,by decide +kernel,rfl,by decide +kernel,by decide +kernel⟩
theorem Qz5{f f1  : Addr}{fd fd1:Jd}(F:Fun K "every_stand" "every_stand" Qf1 f fd)(T:GlbA mg)
  (m1:mg "followers" = some (.ref f1))(G1:FnOk P w K mg base CX0 2 f1 fd1 ["board", "start"] (ZA false Qx4))(b1:Binds K fd1 ["board", "start"] [])(k1:PySem.W.keepIn K (.ref f1)=true) :
  FnOk P w K mg base CX0 3 f fd ["board", "size"] (ZA true evD):=by
 refine okQ true F Qpr (λargs R EX h=>?_) (λcdv A outer s H E hr=>?_)
 ·obtain⟨h,w,cs,k,rfl,_⟩:=h;rfl
 ·have hU:=Room.u60 hr;have hI:=Room.i60 hr;refine⟨_,QP (QgS 2 (QfL (Qb6 (Zv (Qd0 J9)) J9)) Qpr.nd)
   (QP (QbZ JW rfl (QdZ (by rfl) T.range (qp 1)) (Yh 3 Qpr.nd rfl (by first | exact Jf rfl | exact Je rfl))
    (Jo (QmX ["stand", "cell", "board"] [none,none,some 0] 2 Qpr.nd (QrG 0) (QcT (qp 2)) (λcl ex s3 H3 C=>⟨(Yh 0 QsL rfl (Jf rfl) (Je rfl)),Qav,(QcT (Zm G1 (hr.mono (by decide)) (by rfl) m1 k1 b1 Zw (ZI (qv 2) (ZI (qv 0) JQ)))),(Yh 1 QsL rfl (Jf rfl) (Je rfl)),Qav,(Zv (YA YK QaM (qp 0) (JC (Qd0 (Qb6 (qv 1) J9)))))⟩))))
   (Jo (Qje 2))),λargs R EX h=>?_⟩
  obtain⟨h,w,cs,k,rfl,g,k6,hR⟩:=h;refine⟨⟨by omega,by omega⟩,Qg8 (λi δ=>∃ds x3,δ=[.v (bdD h w cs),.v (.int k),.own ds,x3]/\ds=(evS cs i).map stT) ⟨_,_,rfl,rfl⟩ ?_ ?_⟩
  ·rintro i δ hi ⟨ds,x3,rfl,rfl⟩;rw[Q8] at hi;refine Qvw (evG cs) 200000 (by rw[Qn3,Qh];exact QsU g (i+1)) (λd hd acc N hb hN=>?_) ?_
   ·obtain⟨S,hS,rfl⟩:=Qq.mp hd;have lS:=((Qce g.r0 i S).mp hS).2;unfold evG at hb hN;rw[Qwm] at hb hN;rw[Qh] at hb;refine⟨_,_,_,_,rfl,QxZ (λd=>.tuple (S.map pairD++[d])) (by rw[Qh];exact QbX hb (by decide)) (λd hd k2 hk=>?_) ?_⟩
    ·exact⟨by rw[Qh];show _+1<=_;omega,hk⟩
    ·rw[Jc];have e:(fol cs S).map ((λd=>Yp (S.map pairD++[d]))∘pairD)=(fol cs S).map λc=>stT (S++[c]):=Yt λc _=>by
      show Yp (S.map pairD++[pairD c])=Yp ((S++[c]).map pairD);rw[JF];rfl
     rw[e];exact hN
   ·rw[Qn3];exact⟨_,_,rfl,rfl⟩
  ·rintro δ ⟨ds,x3,rfl,rfl⟩;rw[Q8];exact hR
theorem Qpp:JZ ["board", "size"] ["board", "size"] (QC QfY):=⟨rfl,rfl,rfl,by decide +kernel,rfl,by decide +kernel,by decide +kernel⟩
theorem Qri{f f1 f2  : Addr}{fd fd1 fd2:Jd}(F:Fun K "refuse_no_size" "refuse_no_size" QfY f fd)(T:GlbA mg)
  (m1:mg "is_whole_within" = some (.ref f1))(G1:FnOk P w K mg base CX0 2 f1 fd1 ["thing", "least", "most"] (ZA false QeZ))(b1:Binds K fd1 ["thing", "least", "most"] [])(k1:PySem.W.keepIn K (.ref f1)=true)
  (m2:mg "most_size" = some (.ref f2))(G2:FnOk P w K mg base CX0 1 f2 fd2 ["board"] (ZA false Qru))(b2:Binds K fd2 ["board"] [])(k2:PySem.W.keepIn K (.ref f2)=true) :
  FnOk P w K mg base CX0 3 f fd ["board", "size"] (ZA false Qka):=by
 refine okQ false F Qpp (λargs R EX h=>?_) (λcdv A outer s H E hr=>?_)
 ·obtain⟨h,w,cs,k,rfl,_⟩:=h;rfl
 ·have hU:=Room.u60 hr;have hI:=Room.i60 hr;refine⟨_,Jo (QbS (QcK (Qdn (JG (Zm G1 (hr.mono (by decide)) (by rfl) m1 k1 b1 Zw (ZI (qv 1) (ZI Zc (ZI (Zm G2 (hr.mono (by decide)) (by rfl) m2 k2 b2 Zw (ZI (qv 0) JQ)) JQ))))))) Qdo Yg),λargs R EX h=>?_⟩;obtain⟨h,w,cs,k,rfl,hk,hR⟩:=h;refine⟨_,_,_,rfl,_,_,_,rfl,?_⟩;show if(!inW (.int k) 0 ((min h w:Nat):Int))=true then _ else _
  rw[QrA (by omega) (by omega)];exact hR
theorem QzG:JZ ["board", "size"] ["board", "size"] (QC QbF):=⟨rfl,rfl,rfl,by decide +kernel,rfl,by decide +kernel,by decide +kernel⟩
theorem Qz4{f f1 f2 f3  : Addr}{fd fd1 fd2 fd3:Jd}(hB:∃t,mg "MOST_TOLD" = some (.int 300 t))(F:Fun K "stands_of" "stands_of" QbF f fd)(T:GlbA mg)
  (m1:mg "refuse_no_size" = some (.ref f1))(G1:FnOk P w K mg base CX0 3 f1 fd1 ["board", "size"] (ZA false Qka))(b1:Binds K fd1 ["board", "size"] [])(k1:PySem.W.keepIn K (.ref f1)=true)
  (m2:mg "counts" = some (.ref f2))(G2:FnOk P w K mg base CX0 3 f2 fd2 ["board"] (ZA true Qft))(b2:Binds K fd2 ["board"] [])(k2:PySem.W.keepIn K (.ref f2)=true)
  (m3:mg "every_stand" = some (.ref f3))(G3:FnOk P w K mg base CX0 3 f3 fd3 ["board", "size"] (ZA true evD))(b3:Binds K fd3 ["board", "size"] [])(k3:PySem.W.keepIn K (.ref f3)=true) :
  FnOk P w K mg base CX0 4 f fd ["board", "size"] (ZA true QgJ):=by
 refine okQ true F QzG (λargs R EX h=>?_) (λcdv A outer s H E hr=>?_)
 ·obtain⟨h,w,cs,k,rfl,_⟩:=h;rfl
 ·obtain⟨tB,mB⟩:=hB;have hU:=Room.u60 hr;have hI:=Room.i60 hr;refine⟨_,QP (QmW (JG (Zm G1 (hr.mono (by decide)) (by rfl) m1 k1 b1 Zw (ZI (qv 0) (ZI (qv 1) JQ)))))
   (QP (QbS (Qaw QuF Qds (JG (Qdp Z0 Qax (JC (Y0 G2 (hr.mono (by decide)) (by rfl) m2 k2 b2 Zw (ZI (qv 0) JQ))) (qp 1) (λ_ _=>rfl))) (JG (QwM 300 (by rfl) mB ⟨_,rfl⟩)) (Yc _)) Qdo Yg)
   (Jo (QbR (Y0 G3 (hr.mono (by decide)) (by rfl) m3 k3 b3 Zw (ZI (qv 0) (ZI (qv 1) JQ)))))),λargs R EX h=>?_⟩
  obtain⟨h,w,cs,k,rfl,g,hk,hm,hR⟩:=h;refine⟨_,_,_,_,rfl,hk,?_⟩;have h6:=g.bds.1;refine⟨_,_,_,rfl,g.bds.1,g.bds.2.1,g.bds.col,.int (Wc cs h h 0 k),?_,?_⟩
  ·exact Zx (by unfold QrR;rw[Qx,Jy (by omega)];rfl)
  ·refine ifC (λz=>?_) λz=>?_
   ·have z:=of_decide_eq_true z;omega
   ·exact⟨_,_,_,_,rfl,g,by omega,hR⟩
end
section
variable{P:Qz}{w:Ji}{K:PySem.W.Frag}{mg:Str->Option Value}{base:Heap}
theorem Y6:JZ ["_law_pot_here", "_law_most", "_law_high", "_law_wide", "_law_way", "_law_thick", "_law_cells", "_law_row", "_law_column", "_law_drawn", "_law_some"] ["_law_pot_here", "_law_most"] (QC Qgg):=⟨rfl,rfl,rfl,by decide +kernel,rfl,by decide +kernel,by decide +kernel⟩
theorem Qnl{f f1  : Addr}{fd fd1:Jd}(F:Fun K "_law_board" "_law_board" Qgg f fd)(T:GlbA mg)
  (m1:mg "_law_take" = some (.ref f1))(G1:FnOk P w K mg base CX0 1 f1 fd1 ["_law_pot_here", "_law_far"] (ZA true Qph))(b1:Binds K fd1 ["_law_pot_here", "_law_far"] [])(k1:PySem.W.keepIn K (.ref f1)=true) :
  FnOk P w K mg base CX0 2 f fd ["_law_pot_here", "_law_most"] (ZA false Qjx):=by
 refine okQ false F Y6 (λargs R EX h=>?_) (λcdv A outer s H E hr=>?_)
 ·obtain⟨m,rfl,_⟩:=h;rfl
 ·have hU:=Room.u60 hr;have hI:=Room.i60 hr;refine⟨_,QP (ZU 2 (Zv (YA YK QaM (JG Zc) (JC (Y0 G1 (hr.mono (by decide)) (by rfl) m1 k1 b1 Zw (Qe5 0 (ZI (qv 1) JQ)))))) Y6.nd)
   (QP (ZU 3 (Zv (YA YK QaM (JG Zc) (JC (Y0 G1 (hr.mono (by decide)) (by rfl) m1 k1 b1 Zw (Qe5 0 (ZI (qv 1) JQ)))))) Y6.nd)
   (QP (ZU 4 (Zv (Y0 G1 (hr.mono (by decide)) (by rfl) m1 k1 b1 Zw (Qe5 0 (ZI Zc JQ)))) Y6.nd)
   (QP (ZU 5 (Zv (YA YK QaM (JG Zc) (JC (Y0 G1 (hr.mono (by decide)) (by rfl) m1 k1 b1 Zw (Qe5 0 (ZI Zc JQ)))))) Y6.nd)
   (QP (QgS 6 (QfL J9) Y6.nd)
   (QP (QbZ JW rfl (QdZ (by rfl) T.range (qp 2)) (Yh 7 Y6.nd rfl (by first | exact Jf rfl | exact Je rfl))
    (Jo (QbZ JW rfl (QdZ (by rfl) T.range (qp 3)) (Yh 8 Y6.nd rfl (by first | exact Jf rfl | exact Je rfl))
    (QP (ZU 9 (Zv (QhX QuC Qds (JC (Y0 G1 (hr.mono (by decide)) (by rfl) m1 k1 b1 Zw (Qe5 0 (ZI Zc JQ)))) (qp 5) (Yc _))) Y6.nd)
   (QP (ZU 10 (Zv (YA YK QaM (JC (YA Qni QsH (JC (QfL (Qb6 (qv 9) J9))) (JG Zc))) (JC (QfL (Qb6 Qki (Qb6 Qki (Qb6 (Zv (QhX QuC Qds (qp 8) (qp 7) (Yc _))) (Qb6 (Zv (QhX Qh4 (Qnt hU) (JC (YA Qh3 Qjp (JC (YA YK QaM (qp 7) (qp 8))) (JG Zc))) (JG Zc) (Yc _))) (Qb6 (Zv (QhX Qrf Qds (qp 7) (qp 8) (Yc _))) J9))))))))) Y6.nd)
   (Jo (QbS (QmV (JG (Qdp Z0 Qax (qp 10) (qp 4) (λ_ _=>rfl)))) (Jo (QwJ 6 (Zv (Qd0 (Qb6 (qv 7) (Qb6 (qv 8) J9)))))) Yg)))))))
   (Jo (QbR (Qd0 (Qb6 (qv 2) (Qb6 (qv 3) (Qb6 (Zv (QeK Qbz Qhf (by rfl) T.tuple Qdz (QeJ (qp 6) J9))) J9))))))))))),λargs R EX h=>?_⟩
  obtain⟨m,rfl,m1,m6,hR⟩:=h;refine⟨_,rfl,by omega,by omega,λrh rh0 rh1=>⟨_,rfl,by omega,by omega,λrw0 rw1 rw2=>?_⟩⟩;refine⟨_,rfl,by decide,by decide,λway way0 way1=>⟨_,rfl,by decide,by decide,λth th0 th1=>?_⟩⟩;obtain⟨h,hh⟩:∃h:Nat,(h:Int)=1+rh:=⟨(1+rh).toNat,by omega⟩
  obtain⟨w,hw⟩:∃w:Nat,(w:Int)=1+rw0:=⟨(1+rw0).toNat,by omega⟩
  rw[<- hh,<- hw];refine⟨⟨by omega,by omega⟩,Qg8 (λi δ=>∃f ds x1 x2 x3 x4,δ=[.pot,.v (.int m),.v (.int h),.v (.int w),.v (.int way),.v (.int (1+th)),.own ds,x1,x2,x3,x4]/\ds=(cellsF i w f).map pairD) ⟨λ_ _=>false,_,_,_,_,_,rfl,rfl⟩ ?_ ?_⟩
  ·rintro i δ hi ⟨f,ds,x1,x2,x3,x4,rfl,rfl⟩;refine⟨⟨by omega,by omega⟩,Qg8 (λj δ=>∃f ds x2 x3 x4,δ=[.pot,.v (.int m),.v (.int h),.v (.int w),.v (.int way),.v (.int (1+th)),.own ds,.v (.int (0+(i:Int))),x2,x3,x4]/\ds=(cellsF i w f++Qew i j f).map pairD) ⟨f,_,_,_,_,rfl,by rw[show Qew i 0 f=[] from rfl,Jz]⟩ ?_ ?_⟩
   ·rintro j δ hj ⟨f,ds,x2,x3,x4,rfl,rfl⟩;refine⟨_,rfl,by decide,by decide,λdr dr0 dr1=>?_⟩;refine⟨⟨by decide,by decide,by show 1*5<=_;decide⟩,by show(0:Int)<2;decide,by show 5+5<=_;decide,?_⟩;refine QAa way0 (by show way<10;exact way1) λd hd=>?_
    obtain⟨b,rfl⟩:∃b,d=.bool b:=YL (p:=λd=>∃b,d=Qb8 b) ⟨_,rfl⟩ (YL ⟨_,rfl⟩ (YL ⟨_,rfl⟩ (YL ⟨_,rfl⟩ (YL ⟨_,rfl⟩ (YL ⟨_,rfl⟩ (YL ⟨_,rfl⟩ (YL ⟨_,rfl⟩ (YL ⟨_,rfl⟩ (YL ⟨_,rfl⟩ QoJ))))))))) d hd
    refine⟨trivial,?_⟩;have ec:cellsF i w (Qtv f i j b)++Qew i (j+1) (Qtv f i j b)=cellsF i w f++Qew i j f++(if b=true then[((i:Int),(j:Int))] else[]):=by
     rw[QlN (Qi _),QmL,Qpz (Qi _),<- QU,show Qtv f i j b i j=b from if_pos ⟨rfl,rfl⟩]
    cases b with
    |false=>
     refine⟨Qtv f i j false,_,_,_,_,rfl,?_⟩;rw[ec,if_neg (by decide),Jz]
    |true=>
     have l1:=Qd8 w f i;have l2:=QgP i j f;have l3:i*w<=6*6:=QyJ (by omega) (by omega);refine⟨by rw[Qh,Qs];omega,Qtv f i j true,_,_,_,_,rfl,?_⟩;rw[ec,if_pos rfl,JF (l₁:=cellsF i w f++Qew i j f),show(0:Int)+(i:Int)=(i:Int) by omega,show(0:Int)+(j:Int)=(j:Int) by omega];rfl
   ·rintro δ ⟨f,ds,x2,x3,x4,rfl,rfl⟩;exact⟨f,_,_,_,_,_,rfl,by rw[QaG,Q8]⟩
  ·rintro δ ⟨f,ds,x1,x2,x3,x4,rfl,rfl⟩;rw[Q8];exact hR h w f (by omega) (by omega) (by omega) (by omega)
theorem Qku:(["row", "column"]:List Str).Nodup:=by decide +kernel
theorem QmF:JZ ["table", "start", "more", "taken"] ["table", "start", "more"] (QC Qlm):=⟨rfl,rfl,rfl,by decide +kernel,rfl,by decide +kernel,by decide +kernel⟩
theorem QuK{f f1  : Addr}{fd fd1:Jd}(F:Fun K "ways_behind" "ways_behind" Qlm f fd)(T:GlbA mg)
  (m1:mg "row_behind" = some (.ref f1))(G1:FnOk P w K mg base CX0 1 f1 fd1 ["start"] (ZA false Qpy))(b1:Binds K fd1 ["start"] [])(k1:PySem.W.keepIn K (.ref f1)=true) :
  FnOk P w K mg base CX0 2 f fd ["table", "start", "more"] (ZA false Qpc):=by
 refine okQ false F QmF (λargs R EX h=>?_) (λcdv A outer s H E hr=>?_)
 ·obtain⟨h,w,cs,S,k,rfl,_⟩:=h;rfl
 ·have hU:=Room.u60 hr;have hI:=Room.i60 hr;refine⟨_,QP (ZU 3 (Zv (YI (Qiq rfl) Qs2 (by rfl) T.sum Qs4 (QeJ (JC (Qb0 ["row", "column"] [none,none] (QcL (qp 1)) (λcl ex s3 H3 C=>⟨(Qbo rfl (Zf 0 (Zf 1 Qbp Qku rfl (Jf rfl) (Je rfl)) Qku rfl (Jf rfl) (Je rfl))),Qav,(Zv (YA Qkp Qjp (JG Zc) (qp 1)))⟩))) J9))) QmF.nd)
   (Jo (Yx (Qdp Z0 Qax (JG (Qdp Z0 Qax (JG (Qdp Z0 Qax (qp 0) (JG (Zm G1 (hr.mono (by decide)) (by rfl) m1 k1 b1 Zw (ZI (qv 1) JQ))) (λ_ _=>rfl))) (qp 3) (λ_ _=>rfl))) (qp 2) (λ_ _=>rfl)))),λargs R EX h=>?_⟩
  obtain⟨h,w,cs,S,k,rfl,g,st,hk,hR⟩:=h;have rb:=Qwx g st;have hw:=g.bds.2.1;have hb:∀p∈S,0<=p.2/\p.2<(w:Int):=λp hp=>g.bds.col p (st.sub p hp)
  have ms:=QsM hw (T:=[]) (S:=S) hb st.cols (QhH w);rw[QbB] at ms;refine QbI (λd=>.int (1*2^(toP d).2.toNat)) (λd hd k2 hk=>?_) ?_
  ·obtain⟨p,hp,rfl⟩:=Qq.mp hd;have:=hb p hp;exact⟨rfl,⟨by omega,by show p.2<=_;omega,by decide⟩,hk⟩
  ·have es:(S.map pairD).map (λd=>QN (1*2^(toP d).2.toNat))=(S.map λp=>(1*2^p.2.toNat:Int)).map QN:=by rw[Jc,Jc];rfl
   rw[es];refine Qmr _ rfl ?_
   have e2:(S.map λp=>(1*2^p.2.toNat:Int)).sum=((mkL S:Nat):Int):=by
    have:=ms.1;rw[show((mkL []:Nat):Int)=0 from rfl,QfO] at this;exact this
   rw[e2];obtain⟨r,er⟩:∃r:Nat,rbI S=r:=⟨(rbI S).toNat,by omega⟩
   have xl:=Qmc g k S st;rw[er,Q8] at xl;rw[xl] at hR;refine⟨_,rfl,.list (Qi2 h w (Wc cs h (h - r))),?_,_,Zx (Qe0 ms.2),_,Zx (Qcd hk),hR⟩;rw[er];exact Zx (Qj0 cs h w h r (by omega))
theorem Qa7:JZ ["board", "table", "start", "more", "number", "cells", "at", "ways"] ["board", "table", "start", "more", "number"] (QC QdW):=⟨rfl,rfl,rfl,by decide +kernel,rfl,by decide +kernel,by decide +kernel⟩
theorem Qnn{f f1 f2  : Addr}{fd fd1 fd2:Jd}(F:Fun K "cell_at" "cell_at" QdW f fd)(T:GlbA mg)
  (m1:mg "followers" = some (.ref f1))(G1:FnOk P w K mg base CX0 2 f1 fd1 ["board", "start"] (ZA false Qx4))(b1:Binds K fd1 ["board", "start"] [])(k1:PySem.W.keepIn K (.ref f1)=true)
  (m2:mg "ways_behind" = some (.ref f2))(G2:FnOk P w K mg base CX0 2 f2 fd2 ["table", "start", "more"] (ZA false Qpc))(b2:Binds K fd2 ["table", "start", "more"] [])(k2:PySem.W.keepIn K (.ref f2)=true) :
  FnOk P w K mg base CX0 3 f fd ["board", "table", "start", "more", "number"] (ZA false QjH):=by
 refine okQ false F Qa7 (λargs R EX h=>?_) (λcdv A outer s H E hr=>?_)
 ·obtain⟨h,w,cs,S,m,n,rfl,_⟩:=h;rfl
 ·have hU:=Room.u60 hr;have hI:=Room.i60 hr;refine⟨_,QP (ZU 5 (Zm G1 (hr.mono (by decide)) (by rfl) m1 k1 b1 Zw (ZI (qv 0) (ZI (qv 2) JQ))) Qa7.nd)
   (QP (ZU 6 Zc Qa7.nd)
   (QP (ZU 7 (Zm G2 (hr.mono (by decide)) (by rfl) m2 k2 b2 Zw (ZI (qv 1) (ZI (Zv (YA YK QaM (qp 2) (JC (Qd0 (Qb6 (Qdp Z0 Qax (qp 5) (qp 6) (λ_ _=>rfl)) J9))))) (ZI (qv 3) JQ)))) Qa7.nd)
   (QP (QpG JW (Qaw QuG Qds (qp 4) (qp 7) (Yc _))
    (QP (QmY 4 QxY QgW (qp 7) Qa7.nd)
   (QP (QmY 6 QnM QgW (JG Zc) Qa7.nd)
   (Jo (ZU 7 (Zm G2 (hr.mono (by decide)) (by rfl) m2 k2 b2 Zw (ZI (qv 1) (ZI (Zv (YA YK QaM (qp 2) (JC (Qd0 (Qb6 (Qdp Z0 Qax (qp 5) (qp 6) (λ_ _=>rfl)) J9))))) (ZI (qv 3) JQ)))) Qa7.nd)))))
   (Jo (QbR (Qd0 (Qb6 (Qdp Z0 Qax (qp 5) (qp 6) (λ_ _=>rfl)) (Qb6 (qv 4) J9)))))))),λargs R EX h=>?_⟩
  obtain⟨h,w,cs,S,m,n,rfl,g,st,hm,hn,hR⟩:=h;have en:xts cs (m+1) S=(fol cs S).flatMap λc=>xts cs m (S++[c]):=rfl
  rw[en] at hn hR;have lS:(S.map pairD).length=S.length:=Qh _;have sl:=Qe4 g st;have h6:=g.bds.1;refine⟨_,_,_,_,rfl,?_⟩;have get:∀a,a<(fol cs S).length->((fol cs S).map pairD)[a]? = some (pairD ((fol cs S).getD a (0,0)))/\(fol cs S).getD a (0,0)∈fol cs S/\(fol cs S).drop a=(fol cs S).getD a (0,0)::(fol cs S).drop (a+1):=λa ha=>by
   have e:(fol cs S).getD a (0,0)=(fol cs S)[a]:=by rw[QF,Qf ha];rfl
   refine⟨by rw[Qx,Qf ha,e];rfl,by rw[e];exact YF ha,by rw[e];exact Ye ha⟩
  have l0:0<(fol cs S).length:=by
   cases e:fol cs S with
   |nil=>rw[e] at hn;exact absurd hn (ZY _)
   |cons a b=>rw[Qt];omega
  have wy:∀(a:Nat)(ha:a<(fol cs S).length),Yp (S.map pairD++[pairD ((fol cs S).getD a (0,0))])=stT (S++[(fol cs S).getD a (0,0)]):=λa _=>by
   show _=Yp ((S++[(fol cs S).getD a (0,0)]).map pairD);rw[JF];rfl
  refine⟨_,Zx (get 0 l0).1,by rw[lS];show _+1<=_;omega,?_⟩;refine⟨h,w,cs,S++[(fol cs S).getD 0 (0,0)],m,by rw[wy 0 l0],g,Qfl st (get 0 l0).2.1,by omega,?_⟩;refine Qv4 (λz δ=>∃a n2:Nat,z=(fol cs S).length - a/\a<(fol cs S).length/\δ=[.v (bdD h w cs),.v (.list (Qi1 cs h w h)),.v (stT S),.v (.int m),.v (.int n2),.v (.list ((fol cs S).map pairD)),.v (.int a),.v (.int ((xts cs m (S++[(fol cs S).getD a (0,0)])).length:Nat))]/\n2<(((fol cs S).drop a).flatMap λc=>xts cs m (S++[c])).length/\((fol cs S).flatMap λc=>xts cs m (S++[c]))[n]? = (((fol cs S).drop a).flatMap λc=>xts cs m (S++[c]))[n2]?) _ ⟨0,n,rfl,l0,rfl,hn,rfl⟩ ?_
  rintro z δ ⟨a,n2,rfl,ha,rfl,hn2,he⟩;obtain⟨g1,g2,g3⟩:=get a ha;rw[g3,ZT,Qs] at hn2;rw[g3,ZT] at he;refine ifC (λy=>?_) λy=>?_
  ·have y:((xts cs m (S++[(fol cs S).getD a (0,0)])).length:Int)<=(n2:Int):=of_decide_eq_true y;have ha2:a+1<(fol cs S).length:=by
    by_cases q:a+1<(fol cs S).length
    ·exact q
    ·rw[List.drop_eq_nil_of_le (by omega)] at hn2;exact absurd hn2 (by show ¬n2<_+0;omega)
   obtain⟨f1,f2,f3⟩:=get (a+1) ha2;refine⟨pairD ((fol cs S).getD (a+1) (0,0)),by rw[show(a:Int)+1=((a+1:Nat):Int) by omega];exact Zx f1,by rw[lS];show _+1<=_;omega,?_⟩;refine⟨h,w,cs,S++[(fol cs S).getD (a+1) (0,0)],m,by rw[<- wy (a+1) ha2],g,Qfl st f2,by omega,?_⟩;refine⟨(fol cs S).length - (a+1),by omega,a+1,n2 - (xts cs m (S++[(fol cs S).getD a (0,0)])).length,rfl,ha2,?_,by omega,?_⟩
   ·rw[show((n2 - (xts cs m (S++[(fol cs S).getD a (0,0)])).length:Nat):Int)=(n2:Int) - ((xts cs m (S++[(fol cs S).getD a (0,0)])).length:Int) by omega,show((a+1:Nat):Int)=(a:Int)+1 by omega];rfl
   ·rw[he,QX (by omega)]
  ·have y:(n2:Int)<((xts cs m (S++[(fol cs S).getD a (0,0)])).length:Int):=by have:=of_decide_eq_false y;omega
   refine⟨_,Zx g1,hR _ n2 g2 (by omega) ?_⟩;rw[he,JN (by omega)]
theorem Qag:JZ ["board", "size", "number", "table", "stand", "left", "more", "cell"] ["board", "size", "number"] (QC Qcr):=⟨rfl,rfl,rfl,by decide +kernel,rfl,by decide +kernel,by decide +kernel⟩
theorem QlA{f f1 f2 f3 f4  : Addr}{fd fd1 fd2 fd3 fd4:Jd}(F:Fun K "stand_at" "stand_at" Qcr f fd)(T:GlbA mg)
  (m1:mg "refuse_no_size" = some (.ref f1))(G1:FnOk P w K mg base CX0 3 f1 fd1 ["board", "size"] (ZA false Qka))(b1:Binds K fd1 ["board", "size"] [])(k1:PySem.W.keepIn K (.ref f1)=true)
  (m2:mg "ways_to_go_on" = some (.ref f2))(G2:FnOk P w K mg base CX0 2 f2 fd2 ["board"] (ZA true Qme))(b2:Binds K fd2 ["board"] [])(k2:PySem.W.keepIn K (.ref f2)=true)
  (m3:mg "is_whole_within" = some (.ref f3))(G3:FnOk P w K mg base CX0 2 f3 fd3 ["thing", "least", "most"] (ZA false QeZ))(b3:Binds K fd3 ["thing", "least", "most"] [])(k3:PySem.W.keepIn K (.ref f3)=true)
  (m4:mg "cell_at" = some (.ref f4))(G4:FnOk P w K mg base CX0 3 f4 fd4 ["board", "table", "start", "more", "number"] (ZA false QjH))(b4:Binds K fd4 ["board", "table", "start", "more", "number"] [])(k4:PySem.W.keepIn K (.ref f4)=true) :
  FnOk P w K mg base CX0 4 f fd ["board", "size", "number"] (ZA false Qdj):=by
 refine okQ false F Qag (λargs R EX h=>?_) (λcdv A outer s H E hr=>?_)
 ·obtain⟨h,w,cs,k,n,L,rfl,_⟩:=h;rfl
 ·have hU:=Room.u60 hr;have hI:=Room.i60 hr;refine⟨_,QP (QmW (JG (Zm G1 (hr.mono (by decide)) (by rfl) m1 k1 b1 Zw (ZI (qv 0) (ZI (qv 1) JQ)))))
   (QP (ZU 3 (Zv (Y0 G2 (hr.mono (by decide)) (by rfl) m2 k2 b2 Zw (ZI (qv 0) JQ))) Qag.nd)
   (QP (QbS (QcK (Qdn (JG (Zm G3 (hr.mono (by decide)) (by rfl) m3 k3 b3 Zw (ZI (qv 2) (ZI Zc (ZI (Zv (YA Qdr QcM (JG (Qdp Z0 Qax (JG (Qdp Z0 Qax (JG (Qdp Z0 Qax (qp 3) (JG Zc) (λ_ _=>rfl))) (JG Zc) (λ_ _=>rfl))) (qp 1) (λ_ _=>rfl))) (JG Zc))) JQ))))))) Qdo Yg)
   (QP (ZU 4 (Zv (Qd0 J9)) Qag.nd)
   (QP (ZU 5 (qv 2) Qag.nd)
   (QP (QbZ JW rfl (QmZ (by rfl) T.reversed (by rfl) T.range (qp 1)) (Yh 6 Qag.nd rfl (by first | exact Jf rfl | exact Je rfl))
    (QP (Qke (Zm G4 (hr.mono (by decide)) (by rfl) m4 k4 b4 Zw (ZI (qv 0) (ZI (qv 3) (ZI (qv 4) (ZI (qv 6) (ZI (qv 5) JQ)))))) (Qbo rfl (Zf 7 (Zf 5 Qbp Qag.nd rfl (by first | exact Jf rfl | exact Je rfl)) Qag.nd rfl (by first | exact Jf rfl | exact Je rfl))))
   (Jo (ZU 4 (Zv (YA YK QaM (qp 4) (JC (Qd0 (Qb6 (qv 7) J9))))) Qag.nd))))
   (Jo (Yx (qv 4)))))))),λargs R EX h=>?_⟩
  obtain⟨h,w,cs,k,n,L,rfl,g,hk,eL,hR⟩:=h;refine⟨_,_,_,_,rfl,hk,?_⟩;have h6:=g.bds.1;have w6:=g.bds.2.1;refine⟨_,_,_,rfl,h6,w6,g.bds.col,?_⟩;refine⟨_,Zx (j:=0) (Qi0 cs h w h),_,Zx (j:=0) (Qe0 (QhH w)),_,Zx (Qcd (show k<=h by omega)),?_⟩;refine⟨_,_,_,rfl,?_⟩;show if(!inW (.int n) 0 (Wc cs h h 0 k - 1))=true then _ else _
  rw[Qg9 g];have hn:=(QD.mp eL).1;rw[QrA (by omega) (by omega)];refine ifF rfl ?_
  ·rw[<- Qn1] at eL hn;refine⟨⟨by omega,by omega⟩,QaN (λi δ=>∃(S:List (Int×Int))(n2:Nat)(x6 x7:Sl),δ=[.v (bdD h w cs),.v (.int k),.v (.int n),.v (.list (Qi1 cs h w h)),.v (stT S),.v (.int n2),x6,x7]/\Std cs S/\S.length=i/\n2<(xts cs (k - i) S).length/\(xts cs (k - i) S)[n2]? = some L) ⟨[],n,_,_,rfl,.nil,rfl,hn,eL⟩ ?_ ?_⟩
   ·rintro i d δ hd ⟨S,n2,x6,x7,rfl,st,lS,hn2,e2⟩;obtain⟨hi,rfl⟩:=QgQ hd;rw[Q8] at hi;have er:((((k:Nat):Int).toNat:Nat):Int) - 1 - (i:Int)=((k - i - 1:Nat):Int):=by omega
    rw[er];have ek:k - i=(k - i - 1)+1:=by omega
    rw[ek] at hn2 e2;refine⟨_,_,_,_,_,_,rfl,g,st,by omega,hn2,λc n3 hc hc3 ee3=>⟨rfl,?_⟩⟩;have es:stT (S++[c])=.tuple (S.map pairD++[pairD c]):=by unfold stT;rw[JF];rfl
    refine⟨by rw[Qh];show _+1<=_;omega,S++[c],n3,.v (.int ((k - i - 1:Nat):Int)),.v (pairD c),by rw[es];rfl,Qfl st hc,by rw[Qs,lS];rfl,?_,?_⟩
    ·rw[show k - (i+1)=k - i - 1 by omega];exact hc3
    ·rw[show k - (i+1)=k - i - 1 by omega,<- ee3];exact e2
   ·rintro δ ⟨S,n2,x6,x7,rfl,st,lS,hn2,e2⟩;rw[QeI,Q8,Qa3] at hn2 e2;have hn2:n2<1:=hn2;obtain rfl:n2=0:=by omega
    have e2:=Qm e2;rw[e2];exact hR
theorem Qnz:(["other", "cell"]:List Str).Nodup:=by decide +kernel
theorem Qny:(["other", "more", "start", "table"]:List Str).Nodup:=by decide +kernel
theorem QaX:JZ ["board", "stand", "table", "number", "at", "cell", "start", "more", "lesser"] ["board", "stand"] (QC Qf0):=⟨rfl,rfl,rfl,by decide +kernel,rfl,by decide +kernel,by decide +kernel⟩
theorem Qrk{f f1 f2 f3 f4  : Addr}{fd fd1 fd2 fd3 fd4:Jd}(F:Fun K "number_of" "number_of" Qf0 f fd)(T:GlbA mg)
  (m1:mg "is_stand" = some (.ref f1))(G1:FnOk P w K mg base CX0 5 f1 fd1 ["board", "thing"] (ZA false Qj5))(b1:Binds K fd1 ["board", "thing"] [])(k1:PySem.W.keepIn K (.ref f1)=true)
  (m2:mg "ways_to_go_on" = some (.ref f2))(G2:FnOk P w K mg base CX0 2 f2 fd2 ["board"] (ZA true Qme))(b2:Binds K fd2 ["board"] [])(k2:PySem.W.keepIn K (.ref f2)=true)
  (m3:mg "followers" = some (.ref f3))(G3:FnOk P w K mg base CX0 2 f3 fd3 ["board", "start"] (ZA false Qx4))(b3:Binds K fd3 ["board", "start"] [])(k3:PySem.W.keepIn K (.ref f3)=true)
  (m4:mg "ways_behind" = some (.ref f4))(G4:FnOk P w K mg base CX0 2 f4 fd4 ["table", "start", "more"] (ZA false Qpc))(b4:Binds K fd4 ["table", "start", "more"] [])(k4:PySem.W.keepIn K (.ref f4)=true) :
  FnOk P w K mg base CX0 6 f fd ["board", "stand"] (ZA false Qh6):=by
 refine okQ false F QaX (λargs R EX h=>?_) (λcdv A outer s H E hr=>?_)
 ·obtain⟨h,w,cs,L,rfl,_⟩:=h;rfl
 ·have hU:=Room.u60 hr;have hI:=Room.i60 hr;refine⟨_,QP (QbS (QcK (Qdn (JG (Zm G1 (hr.mono (by decide)) (by rfl) m1 k1 b1 Zw (ZI (qv 0) (ZI (qv 1) JQ)))))) Qdo Yg)
   (QP (ZU 2 (Zv (Y0 G2 (hr.mono (by decide)) (by rfl) m2 k2 b2 Zw (ZI (qv 0) JQ))) QaX.nd)
   (QP (ZU 3 Zc QaX.nd)
   (QP (QbZ JW rfl (QpH (by rfl) T.enumerate (qv 1)) (Qbo rfl (Zf 4 (Zf 5 Qbp QaX.nd rfl (by first | exact Jf rfl | exact Je rfl)) QaX.nd rfl (by first | exact Jf rfl | exact Je rfl)))
    (QP (ZU 6 (Zv (Qe8 (qp 1) Qe7 (Qe6 (qp 4)))) QaX.nd)
   (QP (ZU 7 (Zv (YA Qdr QcM (JC (YA Qdr QcM (JC (YI Qbb Qfv (by rfl) T.len QcO (QeJ (qp 1) J9))) (qp 4))) (JG Zc))) QaX.nd)
   (QP (Qjf ["other", "cell"] [none,some 5] 8 QaX.nd (QcT (JG (Zm G3 (hr.mono (by decide)) (by rfl) m3 k3 b3 Zw (ZI (qv 0) (ZI (qv 6) JQ))))) (λcl ex s3 H3 C=>⟨(Yh 0 Qnz rfl (Jf rfl) (Je rfl)),(Qjd (Qaw (QsD hU) QsI (qp 0) (qp 1) (Yc _))),(qv 0)⟩))
   (Jo (QmY 3 QnM QgW (JC (YI (Qiq rfl) Qs2 (by rfl) T.sum Qs4 (QeJ (JC (Qb0 ["other", "more", "start", "table"] [none,some 7,some 6,some 2] (QcT (qp 8)) (λcl ex s3 H3 C=>⟨(Yh 0 Qny rfl (Jf rfl) (Je rfl)),Qav,(Zm G4 (hr.mono (by decide)) (by rfl) m4 k4 b4 Zw (ZI (qv 3) (ZI (Zv (YA YK QaM (qp 2) (JC (Qd0 (Qb6 (qv 0) J9))))) (ZI (qv 1) JQ))))⟩))) J9))) QaX.nd))))))
   (Jo (Yx (qv 3)))))),λargs R EX h=>?_⟩
  obtain⟨h,w,cs,L,rfl,g,st,hR⟩:=h;have sl:=Qe4 g st;refine⟨_,_,_,_,rfl,(λds e=>by cases e;rw[Qh];have:=g.bds.1;omega),?_⟩;have h6:=g.bds.1;have w6:=g.bds.2.1;show if(!Qu8 h w cs (stT L))=true then _ else _
  rw[Qsq g st];refine ifF rfl ?_
  ·have lL:(L.map pairD).length=L.length:=Qh _;refine⟨_,_,_,rfl,h6,w6,g.bds.col,?_⟩;refine QaN (λa δ=>∃x4 x5 x6 x7 x8,δ=[.v (bdD h w cs),.v (stT L),.v (.list (Qi1 cs h w h)),.v (.int (numN cs L L.length a:Nat)),x4,x5,x6,x7,x8]) ⟨_,_,_,_,_,rfl⟩ ?_ ?_
   ·rintro a d δ hd ⟨x4,x5,x6,x7,x8,rfl⟩;obtain⟨e,he,rfl⟩:=Qdw hd;have ha:a<L.length:=by rw[<- lL];exact(QD.mp he).1
    have ee:e=pairD (L.getD a (0,0)):=by
     rw[Qx,Qf ha] at he;rw[QF,Qf ha];exact(Qm he).symm
    subst ee;have ct:Dl.cutD (L.map pairD) none (some (a:Int))=(L.take a).map pairD:=by rw[QkT _ _ (QeT a),Q8,<- QeB]
    have st1:=Qj4 st a;have sd:((fol cs (L.take a)).filter λo=>decide (plt o (L.getD a (0,0)))).Pairwise plt:=Zh _ (Zh _ g.srt);refine⟨rfl,h,w,cs,L.take a,by show[Sl.v _,Sl.v (.tuple (Dl.cutD (L.map pairD) none (some (a:Int))))]=_;rw[ct];rfl,?_⟩;refine Qvv (λd=>if(λo:Int×Int=>decide (plt o (L.getD a (0,0)))) (toP d)=true then some d else none) (λd hd k1 k2 h1 h2=>?_) ?_
    ·obtain⟨o,_,rfl⟩:=Qq.mp hd;have h1:(if decide (plt o (L.getD a (0,0)))=true then some (pairD o) else none)=none->k1:=h1;have h2:∀e,(if decide (plt o (L.getD a (0,0)))=true then some (pairD o) else none)=some e->k2 e:=h2
     have q:=Qem [o,L.getD a (0,0)];have m1:pairD o∈[o,L.getD a (0,0)].map pairD:=.head _;have m2:pairD (L.getD a (0,0))∈[o,L.getD a (0,0)].map pairD:=.tail _ (.head _);refine⟨⟨(q _ m1).1,(q _ m2).1,(q _ m1).2.2 _ m2,(q _ m1).2.1⟩,?_⟩;show if ltD (pairD o) (pairD (L.getD a (0,0)))=true then k2 (pairD o) else k1
     rw[Qkx];by_cases z:decide (plt o (L.getD a (0,0)))=true
     ·rw[if_pos z];exact h2 _ (if_pos z)
     ·rw[if_neg z];exact h1 (if_neg z)
    ·rw[QkI (λo:Int×Int=>decide (plt o (L.getD a (0,0))))];refine QbI (λd=>.int ((xts cs (L.length - a - 1) (L.take a++[toP d])).length:Nat)) (λd hd k2 hk=>?_) ?_
     ·obtain⟨o,ho,rfl⟩:=Qq.mp hd;have ho:=(Js.mp ho).1;refine⟨by show(Dl.cutD (L.map pairD) none (some (a:Int))).length+1<=_;rw[ct,Qh,JH];omega,h,w,cs,L.take a++[o],L.length - a - 1,?_,g,Qfl st1 ho,by omega,hk⟩;show[Sl.v _,Sl.v (.tuple (Dl.cutD (L.map pairD) none (some (a:Int))++[pairD o])),Sl.v (.int (((L.map pairD).length:Int) - (a:Int) - 1))]=_;rw[ct,lL,show(L.length:Int) - (a:Int) - 1=((L.length - a - 1:Nat):Int) by omega];show _=[Sl.v _,Sl.v (.tuple ((L.take a++[o]).map pairD)),Sl.v _];rw[JF];rfl
     ·have es:(((fol cs (L.take a)).filter λo=>decide (plt o (L.getD a (0,0)))).map pairD).map (λd=>QN ((xts cs (L.length - a - 1) (L.take a++[toP d])).length:Nat))=(((fol cs (L.take a)).filter λo=>decide (plt o (L.getD a (0,0)))).map λo=>((xts cs (L.length - a - 1) (L.take a++[o])).length:Int)).map QN:=by rw[Jc,Jc];rfl
      rw[es];refine Qmr _ rfl ?_
      rw[Qwj,<- Qg4];exact⟨_,_,_,_,_,rfl⟩
   ·rintro δ ⟨x4,x5,x6,x7,x8,rfl⟩;rw[Qcy,lL];exact hR
theorem Qi8:JZ ["board", "stand", "number", "size"] ["board", "stand"] (QC Qlp):=⟨rfl,rfl,rfl,by decide +kernel,rfl,by decide +kernel,by decide +kernel⟩
theorem QuP{f f1 f2 f3  : Addr}{fd fd1 fd2 fd3:Jd}(F:Fun K "next_stand" "next_stand" Qlp f fd)(T:GlbA mg)
  (m1:mg "number_of" = some (.ref f1))(G1:FnOk P w K mg base CX0 6 f1 fd1 ["board", "stand"] (ZA false Qh6))(b1:Binds K fd1 ["board", "stand"] [])(k1:PySem.W.keepIn K (.ref f1)=true)
  (m2:mg "counts" = some (.ref f2))(G2:FnOk P w K mg base CX0 3 f2 fd2 ["board"] (ZA true Qft))(b2:Binds K fd2 ["board"] [])(k2:PySem.W.keepIn K (.ref f2)=true)
  (m3:mg "stand_at" = some (.ref f3))(G3:FnOk P w K mg base CX0 4 f3 fd3 ["board", "size", "number"] (ZA false Qdj))(b3:Binds K fd3 ["board", "size", "number"] [])(k3:PySem.W.keepIn K (.ref f3)=true) :
  FnOk P w K mg base CX0 7 f fd ["board", "stand"] (ZA false Qrr):=by
 refine okQ false F Qi8 (λargs R EX h=>?_) (λcdv A outer s H E hr=>?_)
 ·obtain⟨h,w,cs,L,rfl,_⟩:=h;rfl
 ·have hU:=Room.u60 hr;have hI:=Room.i60 hr;refine⟨_,QP (ZU 2 (Zv (YA YK QaM (JG (Zm G1 (hr.mono (by decide)) (by rfl) m1 k1 b1 Zw (ZI (qv 0) (ZI (qv 1) JQ)))) (JG Zc))) Qi8.nd)
   (QP (ZU 3 (Zv (YI Qbb Qfv (by rfl) T.len QcO (QeJ (qp 1) J9))) Qi8.nd)
   (QP (QbS (Qaw Qh4 (Qnt hU) (qp 2) (JG (Qdp Z0 Qax (JC (Y0 G2 (hr.mono (by decide)) (by rfl) m2 k2 b2 Zw (ZI (qv 0) JQ))) (qp 3) (λ_ _=>rfl))) (Yc _)) (Jo (Yx QtS)) Yg)
   (Jo (Yx (Zm G3 (hr.mono (by decide)) (by rfl) m3 k3 b3 Zw (ZI (qv 0) (ZI (qv 3) (ZI (qv 2) JQ)))))))),λargs R EX h=>?_⟩
  obtain⟨h,w,cs,L,rfl,g,st,hR⟩:=h;refine⟨_,_,_,_,rfl,g,st,?_⟩;have sl:=Qe4 g st;have h6:=g.bds.1;have w6:=g.bds.2.1;have lL:(L.map pairD).length=L.length:=Qh _;have na:=QsK g st;have nl:=(QD.mp na).1;refine⟨_,_,_,rfl,h6,w6,g.bds.col,.int (Wc cs h h 0 L.length),?_,?_⟩
  ·show atI (QrR cs h w) (((L.map pairD).length:Nat):Int)=_;rw[lL];exact Zx (by unfold QrR;rw[Qx,Jy (by omega)];rfl)
  ·rw[Qg9 g];refine ifC (λz=>?_) λz=>?_
   ·have z:((numN cs L L.length L.length:Nat):Int)+1=((evS cs L.length).length:Int):=of_decide_eq_true z;unfold QlB at hR;rw[QM (by omega)] at hR;exact hR
   ·have z:¬((numN cs L L.length L.length:Nat):Int)+1=((evS cs L.length).length:Int):=of_decide_eq_false z;have hn:numN cs L L.length L.length+1<(evS cs L.length).length:=by omega
    obtain⟨M,eM⟩:∃M,(evS cs L.length)[numN cs L L.length L.length+1]? = some M:=⟨_,Qf hn⟩
    unfold QlB at hR;rw[eM] at hR;refine⟨h,w,cs,L.length,numN cs L L.length L.length+1,M,?_,g,by omega,eM,hR⟩
    ·show[Sl.v _,Sl.v (.int (((L.map pairD).length:Nat):Int)),Sl.v (.int (((numN cs L L.length L.length:Nat):Int)+1))]=_;rw[lL,show((numN cs L L.length L.length:Nat):Int)+1=((numN cs L L.length L.length+1:Nat):Int) by omega]
end
section
variable{P:Qz}{w:Ji}{K:PySem.W.Frag}{mg:Str->Option Value}{base:Heap}
theorem Qkw:(["row", "column"]:List Str).Nodup:=by decide +kernel
theorem QgM:JZ ["board", "high", "wide", "cells"] ["board"] (QC Qln):=⟨rfl,rfl,rfl,by decide +kernel,rfl,by decide +kernel,by decide +kernel⟩
theorem QuM{f   : Addr}{fd  : Jd}(F:Fun K "turned" "turned" Qln f fd)(T:GlbA mg) :
  FnOk P w K mg base CX0 2 f fd ["board"] (ZA false Qtw):=by
 refine okQ false F QgM (λargs R EX h=>?_) (λcdv A outer s H E hr=>?_)
 ·obtain⟨h,w,cs,rfl,_⟩:=h;rfl
 ·have hU:=Room.u60 hr;have hI:=Room.i60 hr;refine⟨_,QP (Qke (qv 0) (Qbo rfl (Zf 1 (Zf 2 (Zf 3 Qbp QgM.nd rfl (by first | exact Jf rfl | exact Je rfl)) QgM.nd rfl (by first | exact Jf rfl | exact Je rfl)) QgM.nd rfl (by first | exact Jf rfl | exact Je rfl))))
   (Jo (QbR (Qd0 (Qb6 (qv 2) (Qb6 (qv 1) (Qb6 (Zv (QeK Qbz Qhf (by rfl) T.tuple Qdz (QeJ (JC (YI Qgo cd_sortP (by rfl) T.sorted Qfw (QeJ (JC (Qb0 ["row", "column"] [none,none] (QcL (qp 3)) (λcl ex s3 H3 C=>⟨(Qbo rfl (Zf 0 (Zf 1 Qbp Qkw rfl (Jf rfl) (Je rfl)) Qkw rfl (Jf rfl) (Je rfl))),Qav,(Zv (Qd0 (Qb6 (qv 1) (Qb6 (qv 0) J9))))⟩))) J9))) J9))) J9)))))),λargs R EX h=>?_⟩
  obtain⟨h,w,cs,rfl,g,ln,hR⟩:=h;have h6:=g.bds.1;have w6:=g.bds.2.1;have nd1:cs.Nodup:=g.srt.imp Qsz;refine⟨rfl,QbI (λd=>pairD ((toP d).2,(toP d).1)) (λd hd k2 hk=>?_) ?_⟩
  ·obtain⟨p,_,rfl⟩:=Qq.mp hd;exact⟨rfl,hk⟩
  ·rw[Qsn];refine sortP_of (Qwi nd1) (by rw[Qh];omega) (λp hp=>?_) λM pM pw=>hR M pM
   obtain⟨q,hq,rfl⟩:=Qq.mp hp;have:=g.bds.2.2 q hq;show 0<=q.1/\q.1<64;omega
theorem Qh9:(["_law_row", "_law_column"]:List Str).Nodup:=by decide +kernel
theorem Qpt:JZ ["_law_stand"] ["_law_stand"] (QC Qgh):=⟨rfl,rfl,rfl,by decide +kernel,rfl,by decide +kernel,by decide +kernel⟩
theorem Qrn{f   : Addr}{fd  : Jd}(F:Fun K "_law_about" "_law_about" Qgh f fd)(T:GlbA mg) :
  FnOk P w K mg base CX0 1 f fd ["_law_stand"] (ZA false QoM):=by
 refine okQ false F Qpt (λargs R EX h=>?_) (λcdv A outer s H E hr=>?_)
 ·obtain⟨h,w,cs,L,rfl,_⟩:=h;rfl
 ·have hU:=Room.u60 hr;have hI:=Room.i60 hr;refine⟨_,Jo (QbR (QeK Qbz Qhf (by rfl) T.tuple Qdz (QeJ (JC (YI Qgo cd_sortP (by rfl) T.sorted Qfw (QeJ (JC (Qb0 ["_law_row", "_law_column"] [none,none] (QcL (qp 0)) (λcl ex s3 H3 C=>⟨(Qbo rfl (Zf 0 (Zf 1 Qbp Qh9 rfl (Jf rfl) (Je rfl)) Qh9 rfl (Jf rfl) (Je rfl))),Qav,(Zv (Qd0 (Qb6 (qv 1) (Qb6 (qv 0) J9))))⟩))) J9))) J9))),λargs R EX h=>?_⟩;obtain⟨h,w,cs,L,rfl,g,st,hR⟩:=h;have h6:=g.bds.1;have sl:=Qe4 g st;refine QbI (λd=>pairD ((toP d).2,(toP d).1)) (λd hd k2 hk=>?_) ?_
  ·obtain⟨p,_,rfl⟩:=Qq.mp hd;exact⟨rfl,hk⟩
  ·rw[Qsn];refine sortP_of (Qwi (Qwl st)) (by rw[Qh];omega) (λp hp=>?_) λM pM pw=>hR M pM pw
   obtain⟨q,hq,rfl⟩:=Qq.mp hp;have:=g.bds.2.2 q (st.sub q hq);show 0<=q.1/\q.1<64;omega
end
theorem QAi{c:Bool}{A B:Prop}(t:c=true->B->A)(b:B):if c=true then A else B:=by cases c with | true=>exact t rfl b | false=>exact b
theorem Qz8{h w:Nat}{cs L:List (Int×Int)}(g:GB h w cs){k n:Nat}(e:(evS cs k)[n]? = some L):((evS cs k).map stT++[PyData.none])[n+1]? = some (QlB cs L):=by
 have lk:L.length=k:=((Qce g.r0 k L).mp (QQ e)).2;have nn:=Qkr g e;have hn:=(QD.mp e).1;unfold QlB;rw[lk,nn];by_cases z:n+1<(evS cs k).length
 ·rw[JN (by rw[Qh];exact z),Qx,Qf z];rfl
 ·have e2:(evS cs k)[n+1]? = none:=QM (by omega);rw[e2,QX (by rw[Qh];omega),Qh,show n+1 - (evS cs k).length=0 by omega];rfl
theorem Qz7(cs L:List (Int×Int)):(∃M,QlB cs L=stT M)∨QlB cs L=.none:=by
 unfold QlB;split
 ·exact .inl ⟨_,rfl⟩
 ·exact .inr rfl
theorem Qfc:∀{ds:List Qa},(∀d∈ds,okK d=true)->Qc9 ds=true
 |[],_=>rfl
 |d::ds,h=>by
  show(okK d&&Qc9 ds)=true;rw[h d (.head _),Qfc λx hx=>h x (.tail _ hx)];rfl
theorem QsG(S:List (Int×Int)):okK (stT S)=true:=Qfc λd hd=>by obtain⟨p,_,rfl⟩:=Qq.mp hd;rfl
mutual
theorem Qn5:∀(d:Qa),okK d=true->Ju d d=true
 |.int i,_=>by show(i == i)=true;simp
 |.tuple ds,h=>Qha ds h
theorem Qha:∀(ds:List Qa),Qc9 ds=true->Qea ds ds=true
 |[],_=>rfl
 |d::ds,h=>by
  have h:=QJ.mp (show(okK d&&Qc9 ds)=true from h);show(Ju d d&&Qea ds ds)=true;rw[Qn5 d h.1,Qha ds h.2];rfl
end
theorem QxE{A B:Prop}{Q:Qa->Prop}(S:List (Int×Int))(h:Q (.bool false)):neD (stT S) (stT S) Q:=by
 refine⟨⟨QbH S,QbH S,.inl (Q7 (Qfo S) (by decide))⟩,?_⟩;rw[Qn5 _ (QsG S)];exact h
theorem QxF{Q:Qa->Prop}(cs L:List (Int×Int))(h:Q (.bool false)):neD (QlB cs L) (QlB cs L) Q:=by
 rcases Qz7 cs L with⟨M,e⟩ | e
 ·rw[e];exact QxE (A:=True) (B:=True) M h
 ·rw[e];exact⟨⟨rfl,rfl,.inl (by decide)⟩,h⟩
theorem QxD{Q:Qa->Prop}(L:List (List (Int×Int)))(h:Q (.bool false)):neD (.list (L.map stT)) (.list (L.map stT)) Q:=by
 have n:nd (.list (L.map stT))=true:=QgY.mpr λd hd=>by obtain⟨a,_,rfl⟩:=Qq.mp hd;exact QbH a
 refine⟨⟨n,n,.inl ?_⟩,?_⟩
 ·show Q2 (L.map stT)+1<=50;have:=Qba (n:=2) (ds:=L.map stT) λd hd=>by obtain⟨p,_,rfl⟩:=Qq.mp hd;exact Qfo p
  omega
 ·rw[show Ju (.list (L.map stT)) (.list (L.map stT))=true from Qha _ (Qfc λd hd=>by obtain⟨a,_,rfl⟩:=Qq.mp hd;exact QsG a)];exact h
section
variable{P:Qz}{w:Ji}{K:PySem.W.Frag}{mg:Str->Option Value}{base:Heap}
theorem Qj9:JZ ["_law_board_here", "_law_size", "_law_many", "_law_some", "_law_number", "_law_stand"] ["_law_board_here", "_law_size", "_law_many"] (QC lFew):=⟨rfl,rfl,rfl,by decide +kernel,rfl,by decide +kernel,by decide +kernel⟩
theorem Qxy{f f1 f2 f3 f4  : Addr}{fd fd1 fd2 fd3 fd4:Jd}(F:Fun K "_law_few_right" "_law_few_right" lFew f fd)(T:GlbA mg)
  (m1:mg "stands_of" = some (.ref f1))(G1:FnOk P w K mg base CX0 4 f1 fd1 ["board", "size"] (ZA true QgJ))(b1:Binds K fd1 ["board", "size"] [])(k1:PySem.W.keepIn K (.ref f1)=true)
  (m2:mg "stand_at" = some (.ref f2))(G2:FnOk P w K mg base CX0 4 f2 fd2 ["board", "size", "number"] (ZA false Qdj))(b2:Binds K fd2 ["board", "size", "number"] [])(k2:PySem.W.keepIn K (.ref f2)=true)
  (m3:mg "number_of" = some (.ref f3))(G3:FnOk P w K mg base CX0 6 f3 fd3 ["board", "stand"] (ZA false Qh6))(b3:Binds K fd3 ["board", "stand"] [])(k3:PySem.W.keepIn K (.ref f3)=true)
  (m4:mg "next_stand" = some (.ref f4))(G4:FnOk P w K mg base CX0 7 f4 fd4 ["board", "stand"] (ZA false Qrr))(b4:Binds K fd4 ["board", "stand"] [])(k4:PySem.W.keepIn K (.ref f4)=true) :
  FnOk P w K mg base CX0 8 f fd ["_law_board_here", "_law_size", "_law_many"] (ZA false Qn0):=by
 refine okQ false F Qj9 (λargs R EX h=>?_) (λcdv A outer s H E hr=>?_)
 ·obtain⟨h,w,cs,k,rfl,_⟩:=h;rfl
 ·have hU:=Room.u60 hr;have hI:=Room.i60 hr;refine⟨_,QP (ZU 3 (Zv (Y0 G1 (hr.mono (by decide)) (by rfl) m1 k1 b1 Zw (ZI (qv 0) (ZI (qv 1) JQ)))) Qj9.nd)
   (QP (QbS (QvP (QmT (Qaw Qek (Qh5 hU) (JC (YI Qbb Qfv (by rfl) T.len QcO (QeJ (qp 3) J9))) (qp 2) (Yc _)) (Qkc (Qaw Qek (Qh5 hU) (qp 3) (JC (Qls hU (by rfl) T.sorted (by rfl) T.set (qp 3))) (Yc _))))) (Jo (Yx Qki)) Yg)
   (QP (QbZ JW rfl (QcT (Zv (QfL (Qb6 Zc (Qb6 (Zv (YA QgV Qjp (qp 2) (JG Zc))) (Qb6 (Zv (YA QgV Qjp (qp 2) (JG Zc))) (Qb6 (Zv (YA Qdr QcM (qp 2) (JG Zc))) J9))))))) (Yh 4 Qj9.nd rfl (by first | exact Jf rfl | exact Je rfl))
    (Jo (QbS (Qaw QuF Qds (qp 2) (JG Zc) (Yc _)) (QP (ZU 5 (Zm G2 (hr.mono (by decide)) (by rfl) m2 k2 b2 Zw (ZI (qv 0) (ZI (qv 1) (ZI (qv 4) JQ)))) Qj9.nd)
   (QP (QbS (QvP (QmT (Qaw Qek (Qh5 hU) (qp 5) (JG (Qdp Z0 Qax (qp 3) (qp 4) (λ_ _=>rfl))) (Yc _)) (Qkc (Qaw Qek (Qh5 hU) (JG (Zm G3 (hr.mono (by decide)) (by rfl) m3 k3 b3 Zw (ZI (qv 0) (ZI (qv 5) JQ)))) (qp 4) (Yc _))))) (Jo (Yx Qki)) Yg)
   (Jo (QbS (Qaw Qek (Qh5 hU) (JG (Zm G4 (hr.mono (by decide)) (by rfl) m4 k4 b4 Zw (ZI (qv 0) (ZI (qv 5) JQ)))) (JG (Qdp Z0 Qax (JC (YA YK QaM (qp 3) (JC (QfL (Qb6 QtS J9))))) (JC (YA YK QaM (qp 4) (JG Zc))) (λ_ _=>rfl))) (Yc _)) (Jo (Yx Qki)) Yg)))) Yg)))
   (Jo (Yx Qki)))),λargs R EX h=>?_⟩
  obtain⟨h,w,cs,k,rfl,g,hk,hm,hR⟩:=h;have ec:=Qg9 g k;have nd:=Qx5 g k;refine⟨_,_,_,_,rfl,g,hk,hm,?_⟩;refine ifF ?_ ?_
  ·show(!decide ((((evS cs k).map stT).length:Int)=Wc cs h h 0 k))=false;rw[Qh,decide_eq_true ec.symm];rfl
  have er:(evS cs k).map stT=((evS cs k).map Qlr).map ttN:=by
   rw[Jc];exact Yt λS _=>(Qpx S).symm
  have pw0:=QAq g k;have set0:∀Q:Qa->Prop,Q (.list ((evS cs k).map stT))->QfX (.list ((evS cs k).map stT)) Q:=λQ hQ=>by
   rw[er];refine Qpv _ (by rw[Qh];omega) λms nm mem pw=>?_
   have nd2:((evS cs k).map Qlr).Nodup:=ZS.mpr (nd.imp λ{a b} hne e=>hne (QmK e));rw[Qmw (((QhI nm nd2).mpr mem).map ttN) (λd hd=>by obtain⟨L,_,rfl⟩:=Qq.mp hd;exact Qjo L) pw (by rw[<- er];exact pw0),<- er];exact hQ
  refine set0 _ (QxD _ ?_);refine ifF rfl ?_
  refine⟨⟨by decide,by decide⟩,⟨by decide,by decide⟩,QaN (λ_ δ=>∃x4 x5,δ=[.v (bdD h w cs),.v (.int k),.v (.int (Wc cs h h 0 k)),.v (.list ((evS cs k).map stT)),x4,x5]) ⟨_,_,rfl⟩ ?_ ?_⟩
  ·rintro j d δ hd ⟨x4,x5,rfl⟩;obtain⟨i,rfl,hi⟩:∃i:Int,d=.int i/\(0<Wc cs h h 0 k->0<=i/\i<Wc cs h h 0 k):=
    YL (p:=λd=>∃i:Int,d=.int i/\(0<Wc cs h h 0 k->0<=i/\i<Wc cs h h 0 k)) ⟨_,rfl,λ_=>by omega⟩ (YL ⟨_,rfl,λ_=>by omega⟩ (YL ⟨_,rfl,λ_=>by omega⟩ (YL ⟨_,rfl,λ_=>by omega⟩ QoJ))) d (QQ hd)
   refine ifC (λz=>?_) λz=>⟨_,_,rfl⟩
   have z:0<Wc cs h h 0 k:=of_decide_eq_true z;obtain⟨i0,i1⟩:=hi z;obtain⟨n,rfl⟩:∃n:Nat,i=n:=⟨i.toNat,by omega⟩
   have hn:n<(evS cs k).length:=by omega
   obtain⟨L,eL⟩:∃L,(evS cs k)[n]? = some L:=⟨_,Qf hn⟩
   obtain⟨st,lk⟩:=(Qce g.r0 k L).mp (QQ eL);have nn:=Qkr g eL;refine⟨_,_,_,k,n,L,rfl,g,hk,eL,?_⟩;refine⟨stT L,Zx (by rw[Qx,eL];rfl),QxE (A:=True) (B:=True) L ?_⟩;refine ifF rfl ?_
   refine⟨_,_,_,L,rfl,g,st,?_⟩;refine ifF ?_ ?_
   ·show(!decide (((numN cs L L.length L.length:Nat):Int)=(n:Int)))=false;rw[lk,nn,decide_eq_true rfl];rfl
   refine⟨_,_,_,L,rfl,g,st,?_⟩;refine⟨by rw[Qh];show _+1<=_;omega,QlB cs L,?_,QxF cs L (ifF rfl ⟨_,_,rfl⟩)⟩;exact Zx (Qz8 g eL)
  ·rintro δ ⟨x4,x5,rfl⟩;exact hR
end
section
variable{P:Qz}{w:Ji}{K:PySem.W.Frag}{mg:Str->Option Value}{base:Heap}
theorem Qdl:JZ ["_law_script", "_law_k", "_law_pot_here", "_law_board_here", "_law_other", "_law_size", "_law_many", "_law_number", "_law_stand"] ["_law_script"] (QC sLaw):=⟨rfl,rfl,rfl,by decide +kernel,rfl,by decide +kernel,by decide +kernel⟩
theorem Qxw{f f1 f2 f3 f4 f5 f6 f7 f8 f9 f10 f11 f12  : Addr}{fd fd1 fd2 fd3 fd4 fd5 fd6 fd7 fd8 fd9 fd10 fd11 fd12:Jd}(F:Fun K "law" "law" sLaw f fd)(T:GlbA mg)
  (m1:mg "_law_cell_at" = some (.ref f1))(G1:FnOk P w K mg base CX0 1 f1 fd1 ["_law_script", "_law_k"] (Qdk K))(b1:Binds K fd1 ["_law_script", "_law_k"] [])(k1:PySem.W.keepIn K (.ref f1)=true)
  (m2:mg "_law_pot" = some (.ref f2))(G2:FnOk P w K mg base CX0 1 f2 fd2 ["_law_cell"] (ZA true QzS))(b2:Binds K fd2 ["_law_cell"] [])(k2:PySem.W.keepIn K (.ref f2)=true)
  (m3:mg "_law_board" = some (.ref f3))(G3:FnOk P w K mg base CX0 2 f3 fd3 ["_law_pot_here", "_law_most"] (ZA false Qjx))(b3:Binds K fd3 ["_law_pot_here", "_law_most"] [])(k3:PySem.W.keepIn K (.ref f3)=true)
  (m4:mg "turned" = some (.ref f4))(G4:FnOk P w K mg base CX0 2 f4 fd4 ["board"] (ZA false Qtw))(b4:Binds K fd4 ["board"] [])(k4:PySem.W.keepIn K (.ref f4)=true)
  (m5:mg "counts" = some (.ref f5))(G5:FnOk P w K mg base CX0 3 f5 fd5 ["board"] (ZA true Qft))(b5:Binds K fd5 ["board"] [])(k5:PySem.W.keepIn K (.ref f5)=true)
  (m6:mg "_law_few_right" = some (.ref f6))(G6:FnOk P w K mg base CX0 8 f6 fd6 ["_law_board_here", "_law_size", "_law_many"] (ZA false Qn0))(b6:Binds K fd6 ["_law_board_here", "_law_size", "_law_many"] [])(k6:PySem.W.keepIn K (.ref f6)=true)
  (m7:mg "_law_take" = some (.ref f7))(G7:FnOk P w K mg base CX0 1 f7 fd7 ["_law_pot_here", "_law_far"] (ZA true Qph))(b7:Binds K fd7 ["_law_pot_here", "_law_far"] [])(k7:PySem.W.keepIn K (.ref f7)=true)
  (m8:mg "stand_at" = some (.ref f8))(G8:FnOk P w K mg base CX0 4 f8 fd8 ["board", "size", "number"] (ZA false Qdj))(b8:Binds K fd8 ["board", "size", "number"] [])(k8:PySem.W.keepIn K (.ref f8)=true)
  (m9:mg "is_stand" = some (.ref f9))(G9:FnOk P w K mg base CX0 5 f9 fd9 ["board", "thing"] (ZA false Qj5))(b9:Binds K fd9 ["board", "thing"] [])(k9:PySem.W.keepIn K (.ref f9)=true)
  (m10:mg "number_of" = some (.ref f10))(G10:FnOk P w K mg base CX0 6 f10 fd10 ["board", "stand"] (ZA false Qh6))(b10:Binds K fd10 ["board", "stand"] [])(k10:PySem.W.keepIn K (.ref f10)=true)
  (m11:mg "_law_about" = some (.ref f11))(G11:FnOk P w K mg base CX0 1 f11 fd11 ["_law_stand"] (ZA false QoM))(b11:Binds K fd11 ["_law_stand"] [])(k11:PySem.W.keepIn K (.ref f11)=true)
  (m12:mg "next_stand" = some (.ref f12))(G12:FnOk P w K mg base CX0 7 f12 fd12 ["board", "stand"] (ZA false Qrr))(b12:Binds K fd12 ["board", "stand"] [])(k12:PySem.W.keepIn K (.ref f12)=true) :
  FnOk P w K mg base CX0 9 f fd ["_law_script"] (QfT K):=by
 refine QBG F Qdl (λcdv A outer s H E hr=>?_);have hU:=Room.u60 hr;have hI:=Room.i60 hr;refine⟨_,QP (QbZ JW rfl (QdZ (by rfl) T.range (JC (YI (Qow rfl) Qvy (by rfl) T.max Qyr (QeJ (JG Zc) (QeJ (JC (YI (Qis rfl) Qoq (by rfl) T.min Qs5 (QeJ (JC (QwL 0 (by rfl) T.len)) (QeJ (JG Zc) J9)))) J9))))) (Yh 1 Qdl.nd rfl (by first | exact Jf rfl | exact Je rfl))
    (QP (QtO 2 (Y0 G2 (hr.mono (by decide)) (by rfl) m2 k2 b2 Zw (ZI (Zv (QwN 0 G1 (hr.mono (by decide)) (by rfl) m1 k1 b1 (qp 1))) JQ)) Qdl.nd)
   (QP (ZU 3 (Zm G3 (hr.mono (by decide)) (by rfl) m3 k3 b3 Zw (Qe5 2 (ZI Zc JQ))) Qdl.nd)
   (QP (ZU 4 (Zm G4 (hr.mono (by decide)) (by rfl) m4 k4 b4 Zw (ZI (qv 3) JQ)) Qdl.nd)
   (Jo (QbZ JW rfl (Qkf (by rfl) T.enumerate (Zv (Y0 G5 (hr.mono (by decide)) (by rfl) m5 k5 b5 Zw (ZI (qv 3) JQ)))) (Qbo rfl (Zf 5 (Zf 6 Qbp Qdl.nd rfl (by first | exact Jf rfl | exact Je rfl)) Qdl.nd rfl (by first | exact Jf rfl | exact Je rfl)))
    (QP (QbS (QvP (Qsv (Qaw Qrf Qds (qp 6) (JG Zc) (Yc _)) (QmU (QcK (Qdn (JG (Zm G6 (hr.mono (by decide)) (by rfl) m6 k6 b6 Zw (ZI (qv 3) (ZI (qv 5) (ZI (qv 6) JQ)))))))))) (Jo (Yx Qki)) Yg)
   (Jo (QbS (Qaw QuF Qds (qp 6) (JG Zc) (Yc _)) (QP (QbZ JW rfl (QcT (Zv (QfL (Qb6 Zc (Qb6 (Zv (Y0 G7 (hr.mono (by decide)) (by rfl) m7 k7 b7 Zw (Qe5 2 (ZI (qv 6) JQ)))) (Qb6 (Zv (YA Qdr QcM (qp 6) (JG Zc))) J9)))))) (Yh 7 Qdl.nd rfl (by first | exact Jf rfl | exact Je rfl))
    (QP (ZU 8 (Zm G8 (hr.mono (by decide)) (by rfl) m8 k8 b8 Zw (ZI (qv 3) (ZI (qv 5) (ZI (qv 7) JQ)))) Qdl.nd)
   (QP (QbS (QvP (QmT (QcK (Qdn (JG (Zm G9 (hr.mono (by decide)) (by rfl) m9 k9 b9 Zw (ZI (qv 3) (ZI (qv 8) JQ)))))) (QmT (Qaw Qek (Qh5 hU) (JC (YI Qbb Qfv (by rfl) T.len QcO (QeJ (qp 8) J9))) (qp 5) (Yc _)) (Qkc (Qaw Qek (Qh5 hU) (JG (Zm G10 (hr.mono (by decide)) (by rfl) m10 k10 b10 Zw (ZI (qv 3) (ZI (qv 8) JQ)))) (qp 7) (Yc _)))))) (Jo (Yx Qki)) Yg)
   (Jo (QbS (QcK (Qdn (JG (Zm G9 (hr.mono (by decide)) (by rfl) m9 k9 b9 Zw (ZI (qv 4) (ZI (Zm G11 (hr.mono (by decide)) (by rfl) m11 k11 b11 Zw (ZI (qv 8) JQ)) JQ)))))) (Jo (Yx Qki)) Yg)))))
   (Jo (QbS (Qaw QuD QxA (JG (Zm G12 (hr.mono (by decide)) (by rfl) m12 k12 b12 Zw (ZI (qv 3) (ZI (Zm G8 (hr.mono (by decide)) (by rfl) m8 k8 b8 Zw (ZI (qv 3) (ZI (qv 5) (ZI (Zv (YA Qdr QcM (qp 6) (JG Zc))) JQ)))) JQ)))) (JG QtS) (Yc _)) (Jo (Yx Qki)) Yg))) Yg)))))))))
   (Jo (Yx Qki)),?_⟩
 intro n0 n63;refine⟨⟨by split<;>split<;>omega,by split<;>split<;>omega⟩,Qg8 (λi δ=>∃x1 x2 x3 x4 x5 x6 x7 x8,δ=[.scr,x1,x2,x3,x4,x5,x6,x7,x8]) ⟨_,_,_,_,_,_,_,_,rfl⟩ ?_ ?_⟩
 ·rintro i δ hi ⟨x1,x2,x3,x4,x5,x6,x7,x8,rfl⟩;refine⟨by omega,λc=>⟨c,rfl,λn1=>?_⟩⟩;refine⟨5,rfl,by decide,by decide,λh w f h1 hm w1 wm=>?_⟩;have h6:h<=6:=by omega
  have w6:w<=6:=by omega
  have g:GB h w (cellsF h w f):=QBQ f h6 w6;have ln:(cellsF h w f).length<=36:=Q7 (Qd8 w f h) (QyJ h6 w6);generalize cellsF h w f=cs at g ln ⊢;refine⟨h,w,cs,rfl,g,ln,λct pc=>?_⟩;refine⟨h,w,cs,rfl,h6,w6,g.bds.col,?_⟩;refine QaN (λ_ δ=>∃x5 x6 x7 x8,δ=[.scr,.v (.int (0+(i:Int))),.pot,.v (bdD h w cs),.v (bdD w h ct),x5,x6,x7,x8]) ⟨_,_,_,_,rfl⟩ ?_ ?_
  ·rintro k d δ hd ⟨x5,x6,x7,x8,rfl⟩;obtain⟨e,he,rfl⟩:=Qdw hd;have hk:k<min h w+1:=by
    have:=(QD.mp he).1;unfold QrR at this;rw[Qh,Q1] at this;exact this
   have ee:e=.int (Wc cs h h 0 k):=by
    unfold QrR at he;rw[Qx,Jy hk] at he;exact(Qm he).symm
   subst ee;have ec:=Qg9 g k;have ef:=QsU g k;refine⟨rfl,?_⟩;refine QAi (λz b=>⟨h,w,cs,k,rfl,g,by omega,of_decide_eq_true z,ifF rfl b⟩) (ifF rfl ?_)
   ·skip
    refine ifC (λz=>?_) λz=>⟨_,_,_,_,rfl⟩
    have z:0<Wc cs h h 0 k:=of_decide_eq_true z;refine⟨_,rfl,z,by omega,λr r0 r1=>?_⟩;refine QaN (λ_ δ=>∃x7 x8,δ=[.scr,.v (.int (0+(i:Int))),.pot,.v (bdD h w cs),.v (bdD w h ct),.v (.int (k:Int)),.v (.int (Wc cs h h 0 k)),x7,x8]) ⟨_,_,rfl⟩ ?_ ?_
    ·rintro j d δ hd ⟨x7,x8,rfl⟩;obtain⟨i,rfl,i0,i1⟩:∃i:Int,d=.int i/\0<=i/\i<Wc cs h h 0 k:=
      YL (p:=λd=>∃i:Int,d=.int i/\0<=i/\i<Wc cs h h 0 k) ⟨_,rfl,by omega,by omega⟩ (YL ⟨_,rfl,by omega,by omega⟩ (YL ⟨_,rfl,by omega,by omega⟩ QoJ)) d (QQ hd)
     obtain⟨n,rfl⟩:∃n:Nat,i=n:=⟨i.toNat,by omega⟩
     have hn:n<(evS cs k).length:=by omega
     obtain⟨L,eL⟩:∃L,(evS cs k)[n]? = some L:=⟨_,Qf hn⟩
     obtain⟨st,lk⟩:=(Qce g.r0 k L).mp (QQ eL);have nn:=Qkr g eL;have sl:=Qe4 g st;refine⟨_,_,_,k,n,L,rfl,g,by omega,eL,?_⟩;refine⟨_,_,_,_,rfl,(λds e=>by cases e;rw[Qh];omega),?_⟩;rw[Qsq g st];refine ifF rfl ?_
     refine ifF ?_ ?_
     ·show(!decide (((L.map pairD).length:Int)=(k:Int)))=false;rw[Qh,lk,decide_eq_true rfl];rfl
     refine⟨_,_,_,L,rfl,g,st,?_⟩;refine ifF ?_ ?_
     ·show(!decide (((numN cs L L.length L.length:Nat):Int)=(n:Int)))=false;rw[lk,nn,decide_eq_true rfl];rfl
     refine⟨h,w,cs,L,rfl,g,st,λS pS pw=>?_⟩;refine⟨_,_,_,_,rfl,(λds e=>by cases e;rw[Qh,pS.length_eq,Qh];omega),?_⟩;rw[QtA g st pc pS pw];exact⟨_,_,rfl⟩
    ·rintro δ ⟨x7,x8,rfl⟩;have hn:(evS cs k).length - 1<(evS cs k).length:=by omega
     obtain⟨L,eL⟩:∃L,(evS cs k)[(evS cs k).length - 1]? = some L:=⟨_,Qf hn⟩
     obtain⟨st,lk⟩:=(Qce g.r0 k L).mp (QQ eL);have nn:=Qkr g eL;have nx:QlB cs L=.none:=by
      unfold QlB;rw[lk,nn,show(evS cs k).length - 1+1=(evS cs k).length by omega,QM (Qi _)]
     refine⟨_,_,_,k,(evS cs k).length - 1,L,by rw[show(((evS cs k).length - 1:Nat):Int)=Wc cs h h 0 k - 1 by omega],g,by omega,eL,?_⟩;refine⟨_,_,_,L,rfl,g,st,?_⟩;rw[nx];exact⟨_,_,_,_,rfl⟩
  ·rintro δ ⟨x5,x6,x7,x8,rfl⟩;exact⟨_,_,_,_,_,_,_,_,rfl⟩
 ·rintro δ ⟨x1,x2,x3,x4,x5,x6,x7,x8,rfl⟩;rfl
end
end Rk
def PySem.W.Fast.tw7260741690202109047:Nat:=0
def PySem.W.Fast.tw16936374370846012613:Nat:=0
def PySem.W.Fast.tw6490888281906037554:Nat:=0
def PySem.W.Fast.tw15131004656908008193:Nat:=0
def PySem.W.Fast.tw15610254762898951159:Nat:=0
def PySem.W.Fast.tw12359747155749488763:Nat:=0
def PySem.W.Fast.tw4821855047661290600:Nat:=0
def PySem.W.Fast.tw8098539407666824911:Nat:=0
def PySem.W.Fast.tw9686694945197447082:Nat:=0
def PySem.W.Fast.tw3208902811366266256:Nat:=0
def PySem.W.Fast.tw2084264657074252794:Nat:=0
def PySem.W.Fast.tw2262641279384327167:Nat:=0
def PySem.W.Fast.tw2122913318896658927:Nat:=0
def PySem.W.Fast.tw746537579861409019:Nat:=0
def PySem.W.Fast.tw6503586207908938945:Nat:=0
def PySem.W.Fast.tw15437405752437609303:Nat:=0
def PySem.W.Fast.tw9296900678191827455:Nat:=0
def PySem.W.Fast.tw1644630559498076271:Nat:=0
def PySem.W.Fast.tw3752287280096066102:Nat:=0
def PySem.W.Fast.tw2016412566183528873:Nat:=0
def PySem.W.Fast.tw17356453874366953416:Nat:=0
def PySem.W.Fast.tw10286443755503227664:Nat:=0
def PySem.W.Fast.tw11733400704004120475:Nat:=0
def PySem.W.Fast.tw6574922686623116822:Nat:=0
def PySem.W.Fast.tw4683604584065480924:Nat:=0
def PySem.W.Fast.tw14550181051502323200:Nat:=0
def PySem.W.Fast.tw16605181621325377728:Nat:=0
def PySem.W.Fast.tw3867773613320358645:Nat:=0
def PySem.W.Fast.tw14573786506463439618:Nat:=0
def PySem.W.Fast.tw9772163355620924530:Nat:=0
def PySem.W.Fast.tw17184285070834277535:Nat:=0
def PySem.W.Fast.tw5546922259619200908:Nat:=0
def PySem.W.Fast.tw206128655281279109:Nat:=0
def PySem.W.Fast.tw10164614348922206410:Nat:=0
def PySem.W.Fast.tw17644524777566574286:Nat:=0
def PySem.W.Fast.tw14942658462811154687:Nat:=0
def PySem.W.Fast.tw7675616087470466887:Nat:=0
def PySem.W.Fast.tw12412156379458878173:Nat:=0
def PySem.W.Fast.tw9635410480753534336:Nat:=0
def PySem.W.Fast.tw1561549234284679488:Nat:=0
def PySem.W.Fast.tw10546061108011270542:Nat:=0
def PySem.W.Fast.tw6173788891320548232:Nat:=0
def PySem.W.Fast.tw12491648135829194293:Nat:=0
def PySem.W.Fast.tw8594269241794379587:Nat:=0
def PySem.W.Fast.tw13948355110860127845:Nat:=0
def PySem.W.Fast.tw7776587565377647501:Nat:=0
def PySem.W.Fast.tw2723795512313168630:Nat:=0
def PySem.W.Fast.tw6233135705412192737:Nat:=0
def PySem.W.Fast.tw2584591849175514614:Nat:=0
def PySem.W.Fast.tw9887369521963398330:Nat:=0
def PySem.W.Fast.tw8058514985545483628:Nat:=0
def PySem.W.Fast.tw10968255996871712191:Nat:=0
def PySem.W.Fast.tw418345449495666616:Nat:=0
def PySem.W.Fast.tw2974062629827172930:Nat:=0
def PySem.W.Fast.tw9265323795911307523:Nat:=0
def PySem.W.Fast.tw4530096404280642940:Nat:=0
def PySem.W.Fast.tw8664818232134521551:Nat:=0
def PySem.W.Fast.tw10731350401393242620:Nat:=0
def PySem.W.Fast.tw4683294305799111165:Nat:=0
def PySem.W.Fast.tw10307847807236455828:Nat:=0
def PySem.W.Fast.tw13280644884043771674:Nat:=0
def PySem.W.Fast.tw12756528225910444027:Nat:=0
def PySem.W.Fast.tw2059420524859387677:Nat:=0
def PySem.W.Fast.tw827386897779220065:Nat:=0
def PySem.W.Fast.tw13236721557739887042:Nat:=0
def PySem.W.Fast.tw13697145958276831350:Nat:=0
def PySem.W.Fast.tw17613290354144827420:Nat:=0
def PySem.W.Fast.tw17468030581697106813:Nat:=0
def PySem.W.Fast.tw17596698267787493940:Nat:=0
def PySem.W.Fast.tw3568145436180230855:Nat:=0
def PySem.W.Fast.tw8105315954347771896:Nat:=0
def PySem.W.Fast.tw16265211879712861977:Nat:=0
def PySem.W.Fast.tw1221498508356561669:Nat:=0
def PySem.W.Fast.tw5317221784582259363:Nat:=0
def PySem.W.Fast.tw2294360513064801702:Nat:=0
def PySem.W.Fast.tw11941472060401861305:Nat:=0
def PySem.W.Fast.tw1851679821396292979:Nat:=0
def PySem.W.Fast.tw5358662538044704122:Nat:=0
def PySem.W.Fast.tw571449641319872331:Nat:=0
def PySem.W.Fast.tw830511455884215567:Nat:=0
def PySem.W.Fast.tw13938355835859400041:Nat:=0
def PySem.W.Fast.tw54264526084040219:Nat:=0
def PySem.W.Fast.tw4935860665214416263:Nat:=0
def PySem.W.Fast.tw13945135028885184214:Nat:=0
def PySem.W.Fast.tw2743156912308990230:Nat:=0
def PySem.W.Fast.tw16458130113075686472:Nat:=0
def PySem.W.Fast.tw10104447311652715618:Nat:=0
def PySem.W.Fast.tw15610106964328680501:Nat:=0
def PySem.W.Fast.tw11376501535697145251:Nat:=0
def PySem.W.Fast.tw14163328409148801340:Nat:=0
def PySem.W.Fast.tw9157228787473660028:Nat:=0
def PySem.W.Fast.tw15088723680492933731:Nat:=0
def PySem.W.Fast.tw8329642610579991686:Nat:=0
def PySem.W.Fast.tw561612446574276033:Nat:=0
def PySem.W.Fast.tw670734356060988942:Nat:=0
def PySem.W.Fast.tw2188673105758083495:Nat:=0
def PySem.W.Fast.tw12372243310556746626:Nat:=0
def PySem.W.Fast.tw10999616396103504126:Nat:=0
def PySem.W.Fast.tw17143021705246641251:Nat:=0
def PySem.W.Fast.tw5339023943877879526:Nat:=0
def PySem.W.Fast.tw15009608480145432978:Nat:=0
def PySem.W.Fast.tw17367325703844689868:Nat:=0
def PySem.W.Fast.tw15010680814802591656:Nat:=0
def PySem.W.Fast.tw1210514800329060918:Nat:=0
def PySem.W.Fast.tw16975429032566221850:Nat:=0
def PySem.W.Fast.tw5483075557851424601:Nat:=0
def PySem.W.Fast.tw940718998001947799:Nat:=0
def PySem.W.Fast.tw17436683927346350914:Nat:=0
def PySem.W.Fast.tw2650649197614609373:Nat:=0
def PySem.W.Fast.tw14086323860621505493:Nat:=0
def PySem.W.Fast.tw3417694627947749067:Nat:=0
def PySem.W.Fast.tw658343547279296609:Nat:=0
def PySem.W.Fast.tw13087325462975279969:Nat:=0
def PySem.W.Fast.tw6629121685197103073:Nat:=0
def PySem.W.Fast.tw1274014120282055340:Nat:=0
def PySem.W.Fast.tw7650572555249239222:Nat:=0
def PySem.W.Fast.tw14949340859809305057:Nat:=0
def PySem.W.Fast.tw5637734901779021600:Nat:=0
def PySem.W.Fast.tw5308990453365627874:Nat:=0
def PySem.W.Fast.tw1317671121614634820:Nat:=0
def PySem.W.Fast.tw7543308627083773095:Nat:=0
def PySem.W.Fast.tw7359933439113658792:Nat:=0
def PySem.W.Fast.tw10642596986711968000:Nat:=0
def PySem.W.Fast.tw13612062473522777448:Nat:=0
def PySem.W.Fast.tw16675451806077416984:Nat:=0
def PySem.W.Fast.tw3261815739696525347:Nat:=0
def PySem.W.Fast.tw6344700279257116999:Nat:=0
def PySem.W.Fast.tw7918806144025384179:Nat:=0
def PySem.W.Fast.tw220404060233389434:Nat:=0
def PySem.W.Fast.tw8811721173962648766:Nat:=0
def PySem.W.Fast.tw3917994186369100957:Nat:=0
def PySem.W.Fast.tw14383310586785812469:Nat:=0
def PySem.W.Fast.tw14565928462710951633:Nat:=0
def PySem.W.Fast.tw15027723947223636723:Nat:=0
def PySem.W.Fast.tw2194812076842018415:Nat:=0
def PySem.W.Fast.tw13505108099323804128:Nat:=0
def PySem.W.Fast.tw10205723106111927875:Nat:=0
def PySem.W.Fast.tw12563141707956184544:Nat:=0
def PySem.W.Fast.tw14314837966031284953:Nat:=0
def PySem.W.Fast.tw4743646627770050544:Nat:=0
def PySem.W.Fast.tw3059219912225058826:Nat:=0
def PySem.W.Fast.tw15991016146549668376:Nat:=0
def PySem.W.Fast.tw740973287758414329:Nat:=0
def PySem.W.Fast.tw6398420510217540162:Nat:=0
def PySem.W.Fast.tw16837020819069709119:Nat:=0
def PySem.W.Fast.tw14383469635768668580:Nat:=0
def PySem.W.Fast.tw2020139487737453182:Nat:=0
def PySem.W.Fast.tw10599323229544906503:Nat:=0
def PySem.W.Fast.tw13893420066029375502:Nat:=0
namespace Rk
open L2
theorem Qyy{l:PySem.W.OpenLaw}{w:Ji}{K:PySem.W.Frag}{h:Heap}{mg:Str->Option Value}{fa f1 f2 f3 f4 f5 f6 f7 f8 f9 f10 f11 f12 f13 f14 f15 f16 f17 f18 f19 f20 f21 f22 f23 f24 f25 f26 f27 f28 f29:Addr}(X:K.In h)(G:h.Ns mainGlobals mg)(hfa:mg "law" = some (.ref fa))
  {od1 an1 od2 an2 od3 an3 od4 an4 od5 an5 od6 an6 od7 an7 od8 an8 od9 an9 od10 an10 od11 an11 od12 an12 od13 an13 od14 an14 od15 an15 od16 an16 od17 an17 od18 an18 od19 an19 od20 an20 od21 an21 od22 an22 od23 an23 od24 an24 od25 an25 od26 an26 od27 an27 od28 an28 od29 an29:Option Addr} {sl1 sl2 sl3 sl4 sl5 sl6 sl7 sl8 sl9 sl10 sl11 sl12 sl13 sl14 sl15 sl16 sl17 sl18 sl19 sl20 sl21 sl22 sl23 sl24 sl25 sl26 sl27 sl28 sl29:Array (Option Value)} {oc1 kV1 dc1 pm1 cd1 ct1 oc2 kV2 dc2 pm2 cd2 ct2 oc3 kV3 dc3 pm3 cd3 ct3 oc4 kV4 dc4 pm4 cd4 ct4 oc5 kV5 dc5 pm5 cd5 ct5 oc6 kV6 dc6 pm6 cd6 ct6 oc7 kV7 dc7 pm7 cd7 ct7 oc8 kV8 dc8 pm8 cd8 ct8 oc9 kV9 dc9 pm9 cd9 ct9 oc10 kV10 dc10 pm10 cd10 ct10 oc11 kV11 dc11 pm11 cd11 ct11 oc12 kV12 dc12 pm12 cd12 ct12 oc13 kV13 dc13 pm13 cd13 ct13 oc14 kV14 dc14 pm14 cd14 ct14 oc15 kV15 dc15 pm15 cd15 ct15 oc16 kV16 dc16 pm16 cd16 ct16 oc17 kV17 dc17 pm17 cd17 ct17 oc18 kV18 dc18 pm18 cd18 ct18 oc19 kV19 dc19 pm19 cd19 ct19 oc20 kV20 dc20 pm20 cd20 ct20 oc21 kV21 dc21 pm21 cd21 ct21 oc22 kV22 dc22 pm22 cd22 ct22 oc23 kV23 dc23 pm23 cd23 ct23 oc24 kV24 dc24 pm24 cd24 ct24 oc25 kV25 dc25 pm25 cd25 ct25 oc26 kV26 dc26 pm26 cd26 ct26 oc27 kV27 dc27 pm27 cd27 ct27 oc28 kV28 dc28 pm28 cd28 ct28 oc29 kV29 dc29 pm29 cd29 ct29:Value}
  (a1:PySem.W.nsIn K mainGlobals "is_whole" = some (some (.ref f1))) (l1:K.lookup f1=some ⟨oc1,od1,.func (PySem.W.fnOf "is_whole" "is_whole" (J8 QfV) (JU QfV) (QC QfV) .none kV1 dc1 pm1 an1 cd1 ct1),sl1⟩) (c1:PySem.W.codeIn K cd1 "is_whole" = true) (k1:PySem.W.keepIn K (.ref f1)=true)
  (a2:PySem.W.nsIn K mainGlobals "is_whole_within" = some (some (.ref f2)))(l2:K.lookup f2=some ⟨oc2,od2,.func (PySem.W.fnOf "is_whole_within" "is_whole_within" (J8 QdT) (JU QdT) (QC QdT) .none kV2 dc2 pm2 an2 cd2 ct2),sl2⟩)(c2:PySem.W.codeIn K cd2 "is_whole_within" = true)(k2:PySem.W.keepIn K (.ref f2)=true)
  (a3:PySem.W.nsIn K mainGlobals "is_rising" = some (some (.ref f3)))(l3:K.lookup f3=some ⟨oc3,od3,.func (PySem.W.fnOf "is_rising" "is_rising" (J8 QdU) (JU QdU) (QC QdU) .none kV3 dc3 pm3 an3 cd3 ct3),sl3⟩)(c3:PySem.W.codeIn K cd3 "is_rising" = true)(k3:PySem.W.keepIn K (.ref f3)=true)
  (a4:PySem.W.nsIn K mainGlobals "is_cells" = some (some (.ref f4)))(l4:K.lookup f4=some ⟨oc4,od4,.func (PySem.W.fnOf "is_cells" "is_cells" (J8 Qf2) (JU Qf2) (QC Qf2) .none kV4 dc4 pm4 an4 cd4 ct4),sl4⟩)(c4:PySem.W.codeIn K cd4 "is_cells" = true)(k4:PySem.W.keepIn K (.ref f4)=true)
  (a5:PySem.W.nsIn K mainGlobals "is_place" = some (some (.ref f5)))(l5:K.lookup f5=some ⟨oc5,od5,.func (PySem.W.fnOf "is_place" "is_place" (J8 QfZ) (JU QfZ) (QC QfZ) .none kV5 dc5 pm5 an5 cd5 ct5),sl5⟩)(c5:PySem.W.codeIn K cd5 "is_place" = true)(k5:PySem.W.keepIn K (.ref f5)=true)
  (a6:PySem.W.nsIn K mainGlobals "turned" = some (some (.ref f6)))(l6:K.lookup f6=some ⟨oc6,od6,.func (PySem.W.fnOf "turned" "turned" (J8 Qln) (JU Qln) (QC Qln) .none kV6 dc6 pm6 an6 cd6 ct6),sl6⟩)(c6:PySem.W.codeIn K cd6 "turned" = true)(k6:PySem.W.keepIn K (.ref f6)=true)
  (a7:PySem.W.nsIn K mainGlobals "is_stand" = some (some (.ref f7)))(l7:K.lookup f7=some ⟨oc7,od7,.func (PySem.W.fnOf "is_stand" "is_stand" (J8 QfW) (JU QfW) (QC QfW) .none kV7 dc7 pm7 an7 cd7 ct7),sl7⟩)(c7:PySem.W.codeIn K cd7 "is_stand" = true)(k7:PySem.W.keepIn K (.ref f7)=true)
  (a8:PySem.W.nsIn K mainGlobals "are_apart" = some (some (.ref f8)))(l8:K.lookup f8=some ⟨oc8,od8,.func (PySem.W.fnOf "are_apart" "are_apart" (J8 Qf3) (JU Qf3) (QC Qf3) .none kV8 dc8 pm8 an8 cd8 ct8),sl8⟩)(c8:PySem.W.codeIn K cd8 "are_apart" = true)(k8:PySem.W.keepIn K (.ref f8)=true)
  (a9:PySem.W.nsIn K mainGlobals "counts" = some (some (.ref f9)))(l9:K.lookup f9=some ⟨oc9,od9,.func (PySem.W.fnOf "counts" "counts" (J8 QdV) (JU QdV) (QC QdV) .none kV9 dc9 pm9 an9 cd9 ct9),sl9⟩)(c9:PySem.W.codeIn K cd9 "counts" = true)(k9:PySem.W.keepIn K (.ref f9)=true)
  (a10:PySem.W.nsIn K mainGlobals "most_size" = some (some (.ref f10)))(l10:K.lookup f10=some ⟨oc10,od10,.func (PySem.W.fnOf "most_size" "most_size" (J8 Qlq) (JU Qlq) (QC Qlq) .none kV10 dc10 pm10 an10 cd10 ct10),sl10⟩)(c10:PySem.W.codeIn K cd10 "most_size" = true)(k10:PySem.W.keepIn K (.ref f10)=true)
  (a11:PySem.W.nsIn K mainGlobals "stands_of" = some (some (.ref f11)))(l11:K.lookup f11=some ⟨oc11,od11,.func (PySem.W.fnOf "stands_of" "stands_of" (J8 QbF) (JU QbF) (QC QbF) .none kV11 dc11 pm11 an11 cd11 ct11),sl11⟩)(c11:PySem.W.codeIn K cd11 "stands_of" = true)(k11:PySem.W.keepIn K (.ref f11)=true)
  (a12:PySem.W.nsIn K mainGlobals "every_stand" = some (some (.ref f12)))(l12:K.lookup f12=some ⟨oc12,od12,.func (PySem.W.fnOf "every_stand" "every_stand" (J8 Qf1) (JU Qf1) (QC Qf1) .none kV12 dc12 pm12 an12 cd12 ct12),sl12⟩)(c12:PySem.W.codeIn K cd12 "every_stand" = true)(k12:PySem.W.keepIn K (.ref f12)=true)
  (a13:PySem.W.nsIn K mainGlobals "stand_at" = some (some (.ref f13)))(l13:K.lookup f13=some ⟨oc13,od13,.func (PySem.W.fnOf "stand_at" "stand_at" (J8 Qcr) (JU Qcr) (QC Qcr) .none kV13 dc13 pm13 an13 cd13 ct13),sl13⟩)(c13:PySem.W.codeIn K cd13 "stand_at" = true)(k13:PySem.W.keepIn K (.ref f13)=true)
  (a14:PySem.W.nsIn K mainGlobals "number_of" = some (some (.ref f14)))(l14:K.lookup f14=some ⟨oc14,od14,.func (PySem.W.fnOf "number_of" "number_of" (J8 Qf0) (JU Qf0) (QC Qf0) .none kV14 dc14 pm14 an14 cd14 ct14),sl14⟩)(c14:PySem.W.codeIn K cd14 "number_of" = true)(k14:PySem.W.keepIn K (.ref f14)=true)
  (a15:PySem.W.nsIn K mainGlobals "next_stand" = some (some (.ref f15)))(l15:K.lookup f15=some ⟨oc15,od15,.func (PySem.W.fnOf "next_stand" "next_stand" (J8 Qlp) (JU Qlp) (QC Qlp) .none kV15 dc15 pm15 an15 cd15 ct15),sl15⟩)(c15:PySem.W.codeIn K cd15 "next_stand" = true)(k15:PySem.W.keepIn K (.ref f15)=true)
  (a16:PySem.W.nsIn K mainGlobals "refuse_no_size" = some (some (.ref f16)))(l16:K.lookup f16=some ⟨oc16,od16,.func (PySem.W.fnOf "refuse_no_size" "refuse_no_size" (J8 QfY) (JU QfY) (QC QfY) .none kV16 dc16 pm16 an16 cd16 ct16),sl16⟩)(c16:PySem.W.codeIn K cd16 "refuse_no_size" = true)(k16:PySem.W.keepIn K (.ref f16)=true)
  (a17:PySem.W.nsIn K mainGlobals "followers" = some (some (.ref f17)))(l17:K.lookup f17=some ⟨oc17,od17,.func (PySem.W.fnOf "followers" "followers" (J8 sFol) (JU sFol) (QC sFol) .none kV17 dc17 pm17 an17 cd17 ct17),sl17⟩)(c17:PySem.W.codeIn K cd17 "followers" = true)(k17:PySem.W.keepIn K (.ref f17)=true)
  (a18:PySem.W.nsIn K mainGlobals "row_behind" = some (some (.ref f18)))(l18:K.lookup f18=some ⟨oc18,od18,.func (PySem.W.fnOf "row_behind" "row_behind" (J8 Qlo) (JU Qlo) (QC Qlo) .none kV18 dc18 pm18 an18 cd18 ct18),sl18⟩)(c18:PySem.W.codeIn K cd18 "row_behind" = true)(k18:PySem.W.keepIn K (.ref f18)=true)
  (a19:PySem.W.nsIn K mainGlobals "cell_at" = some (some (.ref f19)))(l19:K.lookup f19=some ⟨oc19,od19,.func (PySem.W.fnOf "cell_at" "cell_at" (J8 QdW) (JU QdW) (QC QdW) .none kV19 dc19 pm19 an19 cd19 ct19),sl19⟩)(c19:PySem.W.codeIn K cd19 "cell_at" = true)(k19:PySem.W.keepIn K (.ref f19)=true)
  (a20:PySem.W.nsIn K mainGlobals "ways_behind" = some (some (.ref f20)))(l20:K.lookup f20=some ⟨oc20,od20,.func (PySem.W.fnOf "ways_behind" "ways_behind" (J8 Qlm) (JU Qlm) (QC Qlm) .none kV20 dc20 pm20 an20 cd20 ct20),sl20⟩)(c20:PySem.W.codeIn K cd20 "ways_behind" = true)(k20:PySem.W.keepIn K (.ref f20)=true)
  (a21:PySem.W.nsIn K mainGlobals "ways_to_go_on" = some (some (.ref f21)))(l21:K.lookup f21=some ⟨oc21,od21,.func (PySem.W.fnOf "ways_to_go_on" "ways_to_go_on" (J8 Qll) (JU Qll) (QC Qll) .none kV21 dc21 pm21 an21 cd21 ct21),sl21⟩)(c21:PySem.W.codeIn K cd21 "ways_to_go_on" = true)(k21:PySem.W.keepIn K (.ref f21)=true)
  (a22:PySem.W.nsIn K mainGlobals "ways_with_row" = some (some (.ref f22)))(l22:K.lookup f22=some ⟨oc22,od22,.func (PySem.W.fnOf "ways_with_row" "ways_with_row" (J8 sRow) (JU sRow) (QC sRow) .none kV22 dc22 pm22 an22 cd22 ct22),sl22⟩)(c22:PySem.W.codeIn K cd22 "ways_with_row" = true)(k22:PySem.W.keepIn K (.ref f22)=true)
  (a23:PySem.W.nsIn K mainGlobals "_law_cell_at" = some (some (.ref f23)))(l23:K.lookup f23=some ⟨oc23,od23,.func (PySem.W.fnOf "_law_cell_at" "_law_cell_at" (J8 Qd3) (JU Qd3) (QC Qd3) .none kV23 dc23 pm23 an23 cd23 ct23),sl23⟩)(c23:PySem.W.codeIn K cd23 "_law_cell_at" = true)(k23:PySem.W.keepIn K (.ref f23)=true)
  (a24:PySem.W.nsIn K mainGlobals "_law_pot" = some (some (.ref f24)))(l24:K.lookup f24=some ⟨oc24,od24,.func (PySem.W.fnOf "_law_pot" "_law_pot" (J8 lPot) (JU lPot) (QC lPot) .none kV24 dc24 pm24 an24 cd24 ct24),sl24⟩)(c24:PySem.W.codeIn K cd24 "_law_pot" = true)(k24:PySem.W.keepIn K (.ref f24)=true)
  (a25:PySem.W.nsIn K mainGlobals "_law_take" = some (some (.ref f25)))(l25:K.lookup f25=some ⟨oc25,od25,.func (PySem.W.fnOf "_law_take" "_law_take" (J8 QlH) (JU QlH) (QC QlH) .none kV25 dc25 pm25 an25 cd25 ct25),sl25⟩)(c25:PySem.W.codeIn K cd25 "_law_take" = true)(k25:PySem.W.keepIn K (.ref f25)=true)
  (a26:PySem.W.nsIn K mainGlobals "_law_board" = some (some (.ref f26)))(l26:K.lookup f26=some ⟨oc26,od26,.func (PySem.W.fnOf "_law_board" "_law_board" (J8 Qgg) (JU Qgg) (QC Qgg) .none kV26 dc26 pm26 an26 cd26 ct26),sl26⟩)(c26:PySem.W.codeIn K cd26 "_law_board" = true)(k26:PySem.W.keepIn K (.ref f26)=true)
  (a27:PySem.W.nsIn K mainGlobals "_law_about" = some (some (.ref f27)))(l27:K.lookup f27=some ⟨oc27,od27,.func (PySem.W.fnOf "_law_about" "_law_about" (J8 Qgh) (JU Qgh) (QC Qgh) .none kV27 dc27 pm27 an27 cd27 ct27),sl27⟩)(c27:PySem.W.codeIn K cd27 "_law_about" = true)(k27:PySem.W.keepIn K (.ref f27)=true)
  (a28:PySem.W.nsIn K mainGlobals "_law_few_right" = some (some (.ref f28)))(l28:K.lookup f28=some ⟨oc28,od28,.func (PySem.W.fnOf "_law_few_right" "_law_few_right" (J8 lFew) (JU lFew) (QC lFew) .none kV28 dc28 pm28 an28 cd28 ct28),sl28⟩)(c28:PySem.W.codeIn K cd28 "_law_few_right" = true)(k28:PySem.W.keepIn K (.ref f28)=true)
  (a29:PySem.W.nsIn K mainGlobals "law" = some (some (.ref f29)))(l29:K.lookup f29=some ⟨oc29,od29,.func (PySem.W.fnOf "law" "law" (J8 sLaw) (JU sLaw) (QC sLaw) .none kV29 dc29 pm29 an29 cd29 ct29),sl29⟩)(c29:PySem.W.codeIn K cd29 "law" = true)(k29:PySem.W.keepIn K (.ref f29)=true)
  (z1:PySem.W.nsIn K mainGlobals "isinstance" = some none)
  (z2:PySem.W.nsIn K mainGlobals "int" = some none)
  (z3:PySem.W.nsIn K mainGlobals "bool" = some none)
  (z4:PySem.W.nsIn K mainGlobals "str" = some none)
  (z5:PySem.W.nsIn K mainGlobals "tuple" = some none)
  (z6:PySem.W.nsIn K mainGlobals "list" = some none)
  (z7:PySem.W.nsIn K mainGlobals "all" = some none)
  (z8:PySem.W.nsIn K mainGlobals "len" = some none)
  (z9:PySem.W.nsIn K mainGlobals "zip" = some none)
  (z10:PySem.W.nsIn K mainGlobals "enumerate" = some none)
  (z11:PySem.W.nsIn K mainGlobals "range" = some none)
  (z12:PySem.W.nsIn K mainGlobals "max" = some none)
  (z13:PySem.W.nsIn K mainGlobals "min" = some none)
  (z14:PySem.W.nsIn K mainGlobals "sorted" = some none)
  (z15:PySem.W.nsIn K mainGlobals "sum" = some none)
  (z16:PySem.W.nsIn K mainGlobals "set" = some none)
  (z17:PySem.W.nsIn K mainGlobals "any" = some none)
  (z18:PySem.W.nsIn K mainGlobals "reversed" = some none)
  (z19:PySem.W.nsIn K mainGlobals "divmod" = some none)
  {tB:_} (aB:PySem.W.nsIn K mainGlobals "MOST_TOLD" = some (some (.int 300 tB)))
  :
  ∃fd:Jd,(∀(s:Shared)(v:Value),Qo9 s fd ⟨[v],[]⟩ [("_law_script",v)])/\∀base:Heap,K.In base->base.Ns mainGlobals mg->FnOk l.prog w K mg base CX0 9 fa fd ["_law_script"] (Dl.QfT K):=by
 have e:=hfa.symm.trans (PySem.W.mg_of X G a29);cases e;have T:=(⟨(PySem.W.mg_none_of X G z1),(PySem.W.mg_none_of X G z2),(PySem.W.mg_none_of X G z3),(PySem.W.mg_none_of X G z4),(PySem.W.mg_none_of X G z5),(PySem.W.mg_none_of X G z6),(PySem.W.mg_none_of X G z7),(PySem.W.mg_none_of X G z8),(PySem.W.mg_none_of X G z9),(PySem.W.mg_none_of X G z10),(PySem.W.mg_none_of X G z11),(PySem.W.mg_none_of X G z12),(PySem.W.mg_none_of X G z13),(PySem.W.mg_none_of X G z14),(PySem.W.mg_none_of X G z15),(PySem.W.mg_none_of X G z16),(PySem.W.mg_none_of X G z17),(PySem.W.mg_none_of X G z18),(PySem.W.mg_none_of X G z19)⟩:GlbA mg);have F1:=Z1 (st:=QfV) l1 c1 k1;have b1:=F1.binds (ps:=["thing"]) λ_ _ _ _ _ _ us hl=>match us,hl with | [_],_=>rfl
 have m1:=PySem.W.mg_of X G a1;have F2:=Z1 (st:=QdT) l2 c2 k2;have b2:=F2.binds (ps:=["thing", "least", "most"]) λ_ _ _ _ _ _ us hl=>match us,hl with | [_,_,_],_=>rfl
 have m2:=PySem.W.mg_of X G a2;have F3:=Z1 (st:=QdU) l3 c3 k3;have b3:=F3.binds (ps:=["things"]) λ_ _ _ _ _ _ us hl=>match us,hl with | [_],_=>rfl
 have m3:=PySem.W.mg_of X G a3;have F4:=Z1 (st:=Qf2) l4 c4 k4;have b4:=F4.binds (ps:=["high", "wide", "thing"]) λ_ _ _ _ _ _ us hl=>match us,hl with | [_,_,_],_=>rfl
 have m4:=PySem.W.mg_of X G a4;have F5:=Z1 (st:=QfZ) l5 c5 k5;have b5:=F5.binds (ps:=["high", "wide", "thing"]) λ_ _ _ _ _ _ us hl=>match us,hl with | [_,_,_],_=>rfl
 have m5:=PySem.W.mg_of X G a5;have F6:=Z1 (st:=Qln) l6 c6 k6;have b6:=F6.binds (ps:=["board"]) λ_ _ _ _ _ _ us hl=>match us,hl with | [_],_=>rfl
 have m6:=PySem.W.mg_of X G a6;have F7:=Z1 (st:=QfW) l7 c7 k7;have b7:=F7.binds (ps:=["board", "thing"]) λ_ _ _ _ _ _ us hl=>match us,hl with | [_,_],_=>rfl
 have m7:=PySem.W.mg_of X G a7;have F8:=Z1 (st:=Qf3) l8 c8 k8;have b8:=F8.binds (ps:=["cells"]) λ_ _ _ _ _ _ us hl=>match us,hl with | [_],_=>rfl
 have m8:=PySem.W.mg_of X G a8;have F9:=Z1 (st:=QdV) l9 c9 k9;have b9:=F9.binds (ps:=["board"]) λ_ _ _ _ _ _ us hl=>match us,hl with | [_],_=>rfl
 have m9:=PySem.W.mg_of X G a9;have F10:=Z1 (st:=Qlq) l10 c10 k10;have b10:=F10.binds (ps:=["board"]) λ_ _ _ _ _ _ us hl=>match us,hl with | [_],_=>rfl
 have m10:=PySem.W.mg_of X G a10;have F11:=Z1 (st:=QbF) l11 c11 k11;have b11:=F11.binds (ps:=["board", "size"]) λ_ _ _ _ _ _ us hl=>match us,hl with | [_,_],_=>rfl
 have m11:=PySem.W.mg_of X G a11;have F12:=Z1 (st:=Qf1) l12 c12 k12;have b12:=F12.binds (ps:=["board", "size"]) λ_ _ _ _ _ _ us hl=>match us,hl with | [_,_],_=>rfl
 have m12:=PySem.W.mg_of X G a12;have F13:=Z1 (st:=Qcr) l13 c13 k13;have b13:=F13.binds (ps:=["board", "size", "number"]) λ_ _ _ _ _ _ us hl=>match us,hl with | [_,_,_],_=>rfl
 have m13:=PySem.W.mg_of X G a13;have F14:=Z1 (st:=Qf0) l14 c14 k14;have b14:=F14.binds (ps:=["board", "stand"]) λ_ _ _ _ _ _ us hl=>match us,hl with | [_,_],_=>rfl
 have m14:=PySem.W.mg_of X G a14;have F15:=Z1 (st:=Qlp) l15 c15 k15;have b15:=F15.binds (ps:=["board", "stand"]) λ_ _ _ _ _ _ us hl=>match us,hl with | [_,_],_=>rfl
 have m15:=PySem.W.mg_of X G a15;have F16:=Z1 (st:=QfY) l16 c16 k16;have b16:=F16.binds (ps:=["board", "size"]) λ_ _ _ _ _ _ us hl=>match us,hl with | [_,_],_=>rfl
 have m16:=PySem.W.mg_of X G a16;have F17:=Z1 (st:=sFol) l17 c17 k17;have b17:=F17.binds (ps:=["board", "start"]) λ_ _ _ _ _ _ us hl=>match us,hl with | [_,_],_=>rfl
 have m17:=PySem.W.mg_of X G a17;have F18:=Z1 (st:=Qlo) l18 c18 k18;have b18:=F18.binds (ps:=["start"]) λ_ _ _ _ _ _ us hl=>match us,hl with | [_],_=>rfl
 have m18:=PySem.W.mg_of X G a18;have F19:=Z1 (st:=QdW) l19 c19 k19;have b19:=F19.binds (ps:=["board", "table", "start", "more", "number"]) λ_ _ _ _ _ _ us hl=>match us,hl with | [_,_,_,_,_],_=>rfl
 have m19:=PySem.W.mg_of X G a19;have F20:=Z1 (st:=Qlm) l20 c20 k20;have b20:=F20.binds (ps:=["table", "start", "more"]) λ_ _ _ _ _ _ us hl=>match us,hl with | [_,_,_],_=>rfl
 have m20:=PySem.W.mg_of X G a20;have F21:=Z1 (st:=Qll) l21 c21 k21;have b21:=F21.binds (ps:=["board"]) λ_ _ _ _ _ _ us hl=>match us,hl with | [_],_=>rfl
 have m21:=PySem.W.mg_of X G a21;have F22:=Z1 (st:=sRow) l22 c22 k22;have b22:=F22.binds (ps:=["below", "columns", "taken"]) λ_ _ _ _ _ _ us hl=>match us,hl with | [_,_,_],_=>rfl
 have m22:=PySem.W.mg_of X G a22;have F23:=Z1 (st:=Qd3) l23 c23 k23;have b23:=F23.binds (ps:=["_law_script", "_law_k"]) λ_ _ _ _ _ _ us hl=>match us,hl with | [_,_],_=>rfl
 have m23:=PySem.W.mg_of X G a23;have F24:=Z1 (st:=lPot) l24 c24 k24;have b24:=F24.binds (ps:=["_law_cell"]) λ_ _ _ _ _ _ us hl=>match us,hl with | [_],_=>rfl
 have m24:=PySem.W.mg_of X G a24;have F25:=Z1 (st:=QlH) l25 c25 k25;have b25:=F25.binds (ps:=["_law_pot_here", "_law_far"]) λ_ _ _ _ _ _ us hl=>match us,hl with | [_,_],_=>rfl
 have m25:=PySem.W.mg_of X G a25;have F26:=Z1 (st:=Qgg) l26 c26 k26;have b26:=F26.binds (ps:=["_law_pot_here", "_law_most"]) λ_ _ _ _ _ _ us hl=>match us,hl with | [_,_],_=>rfl
 have m26:=PySem.W.mg_of X G a26;have F27:=Z1 (st:=Qgh) l27 c27 k27;have b27:=F27.binds (ps:=["_law_stand"]) λ_ _ _ _ _ _ us hl=>match us,hl with | [_],_=>rfl
 have m27:=PySem.W.mg_of X G a27;have F28:=Z1 (st:=lFew) l28 c28 k28;have b28:=F28.binds (ps:=["_law_board_here", "_law_size", "_law_many"]) λ_ _ _ _ _ _ us hl=>match us,hl with | [_,_,_],_=>rfl
 have m28:=PySem.W.mg_of X G a28;have F29:=Z1 (st:=sLaw) l29 c29 k29;refine⟨PySem.W.fnOf "law" "law" (J8 sLaw) (JU sLaw) (QC sLaw) .none kV29 dc29 pm29 an29 cd29 ct29,λs v=>.of_eq rfl,λbase _ _=>?_⟩;have G1:FnOk l.prog w K mg base CX0 1 f1 _ ["thing"] (Dl.ZA false Dl.Qmd):=Qrg F1 T ;have G2:FnOk l.prog w K mg base CX0 2 f2 _ ["thing", "least", "most"] (Dl.ZA false QeZ):=Qnj F2 T m1 G1 b1 k1;have G3:FnOk l.prog w K mg base CX0 1 f3 _ ["things"] (Dl.ZA false Qjc):=Qnk F3 T ;have G5:FnOk l.prog w K mg base CX0 3 f5 _ ["high", "wide", "thing"] (Dl.ZA false Qm3):=Qrj F5 T m2 G2 b2 k2;have G4:FnOk l.prog w K mg base CX0 4 f4 _ ["high", "wide", "thing"] (Dl.ZA false Qop):=Qrl F4 T m5 G5 b5 k5 m3 G3 b3 k3;have G8:FnOk l.prog w K mg base CX0 1 f8 _ ["cells"] (Dl.ZA false QoH):=Qrm F8 T ;have G7:FnOk l.prog w K mg base CX0 5 f7 _ ["board", "thing"] (Dl.ZA false Qj5):=Qrh F7 T m4 G4 b4 k4 m8 G8 b8 k8;have G10:FnOk l.prog w K mg base CX0 1 f10 _ ["board"] (Dl.ZA false Qru):=QuQ F10 T ;have G22:FnOk l.prog w K mg base CX0 1 f22 _ ["below", "columns", "taken"] (Dl.ZA true Qtq):=QuJ F22 T ;have G21:FnOk l.prog w K mg base CX0 2 f21 _ ["board"] (Dl.ZA true Qme):=QuL F21 T m22 G22 b22 k22;have G9:FnOk l.prog w K mg base CX0 3 f9 _ ["board"] (Dl.ZA true Qft):=Qnm F9 T m21 G21 b21 k21 m10 G10 b10 k10;have G18:FnOk l.prog w K mg base CX0 1 f18 _ ["start"] (Dl.ZA false Qpy):=QuO F18 T ;have G17:FnOk l.prog w K mg base CX0 2 f17 _ ["board", "start"] (Dl.ZA false Qx4):=Qxx F17 T m18 G18 b18 k18;have G12:FnOk l.prog w K mg base CX0 3 f12 _ ["board", "size"] (Dl.ZA true evD):=Qz5 F12 T m17 G17 b17 k17;have G16:FnOk l.prog w K mg base CX0 3 f16 _ ["board", "size"] (Dl.ZA false Qka):=Qri F16 T m2 G2 b2 k2 m10 G10 b10 k10;have G11:FnOk l.prog w K mg base CX0 4 f11 _ ["board", "size"] (Dl.ZA true QgJ):=Qz4 ⟨_,PySem.W.mg_of X G aB⟩ F11 T m16 G16 b16 k16 m9 G9 b9 k9 m12 G12 b12 k12;have G20:FnOk l.prog w K mg base CX0 2 f20 _ ["table", "start", "more"] (Dl.ZA false Qpc):=QuK F20 T m18 G18 b18 k18;have G19:FnOk l.prog w K mg base CX0 3 f19 _ ["board", "table", "start", "more", "number"] (Dl.ZA false QjH):=Qnn F19 T m17 G17 b17 k17 m20 G20 b20 k20;have G13:FnOk l.prog w K mg base CX0 4 f13 _ ["board", "size", "number"] (Dl.ZA false Qdj):=QlA F13 T m16 G16 b16 k16 m21 G21 b21 k21 m2 G2 b2 k2 m19 G19 b19 k19;have G14:FnOk l.prog w K mg base CX0 6 f14 _ ["board", "stand"] (Dl.ZA false Qh6):=Qrk F14 T m7 G7 b7 k7 m21 G21 b21 k21 m17 G17 b17 k17 m20 G20 b20 k20;have G15:FnOk l.prog w K mg base CX0 7 f15 _ ["board", "stand"] (Dl.ZA false Qrr):=QuP F15 T m14 G14 b14 k14 m9 G9 b9 k9 m13 G13 b13 k13;have G6:FnOk l.prog w K mg base CX0 2 f6 _ ["board"] (Dl.ZA false Qtw):=QuM F6 T ;have G23:FnOk l.prog w K mg base CX0 1 f23 _ ["_law_script", "_law_k"] (Qdk K):=Qno F23 T ;have G24:FnOk l.prog w K mg base CX0 1 f24 _ ["_law_cell"] (Dl.ZA true Dl.QzS):=(Qxv F24 T).imp λ_ _ _ _ h=>Dl.QzR h
 have G25:FnOk l.prog w K mg base CX0 1 f25 _ ["_law_pot_here", "_law_far"] (Dl.ZA true Dl.Qph):=(QuN F25 T).imp λ_ _ _ _ h=>Dl.Qwd h
 have G26:FnOk l.prog w K mg base CX0 2 f26 _ ["_law_pot_here", "_law_most"] (Dl.ZA false Qjx):=Qnl F26 T m25 G25 b25 k25;have G27:FnOk l.prog w K mg base CX0 1 f27 _ ["_law_stand"] (Dl.ZA false QoM):=Qrn F27 T ;have G28:FnOk l.prog w K mg base CX0 8 f28 _ ["_law_board_here", "_law_size", "_law_many"] (Dl.ZA false Qn0):=Qxy F28 T m11 G11 b11 k11 m13 G13 b13 k13 m14 G14 b14 k14 m15 G15 b15 k15;exact Qxw F29 T m23 G23 b23 k23 m24 G24 b24 k24 m26 G26 b26 k26 m6 G6 b6 k6 m9 G9 b9 k9 m28 G28 b28 k28 m25 G25 b25 k25 m13 G13 b13 k13 m7 G7 b7 k7 m14 G14 b14 k14 m27 G27 b27 k27 m15 G15 b15 k15
theorem QBt{l:PySem.W.OpenLaw}{q:Qz}{loose:List Str}{XP:(Str->Option Value)->Heap->Prop}{YP:Ji->Heap->Prop}{d:DefRec}{K:Params->PySem.W.Frag}(hn:l.most=some 63)(hdf:d.params.defaults=[])
  (hY:∀(w:Ji)(h:Heap),YP w h->(K w.params).In h)
  (F:∀(w:Ji)(mg:Str->Option Value)(fa:Addr)(h:Heap),(K w.params).In h->h.Ns mainGlobals mg->mg d.name=some (.ref fa) ->
   ∃fd:Jd,(∀(s:Shared)(u:Value),Qo9 s fd ⟨[u],[]⟩ [("_law_script",u)])/\∀base:Heap,(K w.params).In base->base.Ns mainGlobals mg->FnOk l.prog w (K w.params) mg base CX0 9 fa fd ["_law_script"] (Dl.QfT (K w.params))) :
  PySem.W.WalkO q loose XP YP l.row.toRowW d [] (λf vs=>PySem.call f vs):=
 L2.Qtu (n:=63) (k:=9) (x := "_law_script") (CX:=λ_=>CX0) (sp:=λw=>(Dl.QfT (K w.params))) hn (by decide) hdf ⟨rfl,by decide,by decide⟩ hY F (λ_ _ a ns hl _ hS=>⟨a,ns,rfl,hS,hl,λ_=>rfl⟩) λ_ _ _ _ _ z=>z
end Rk
open PySem.W
set_option maxRecDepth 100000 in
set_option maxHeartbeats 0 in
theorem PySem.Challenge.cw_rooklands_k15_whole_stands_holds : PySem.Challenge.rw_rooklands_k15_whole_stands.Holds := by
 w_on;o_law;k_head;(case hw=>w_witness2)
 k_fill
 refine Rk.QBt (l:=PySem.Challenge.rw_rooklands_k15_whole_stands) rfl rfl (λw h Y=>PySem.W.kIn_of Y) ?F
 case F=>
  intro w mg fa h KX G hmg;refine' Rk.Qyy KX G hmg ?a1 ?l1 ?c1 ?k1 ?a2 ?l2 ?c2 ?k2 ?a3 ?l3 ?c3 ?k3 ?a4 ?l4 ?c4 ?k4 ?a5 ?l5 ?c5 ?k5 ?a6 ?l6 ?c6 ?k6 ?a7 ?l7 ?c7 ?k7 ?a8 ?l8 ?c8 ?k8 ?a9 ?l9 ?c9 ?k9 ?a10 ?l10 ?c10 ?k10 ?a11 ?l11 ?c11 ?k11 ?a12 ?l12 ?c12 ?k12 ?a13 ?l13 ?c13 ?k13 ?a14 ?l14 ?c14 ?k14 ?a15 ?l15 ?c15 ?k15 ?a16 ?l16 ?c16 ?k16 ?a17 ?l17 ?c17 ?k17 ?a18 ?l18 ?c18 ?k18 ?a19 ?l19 ?c19 ?k19 ?a20 ?l20 ?c20 ?k20 ?a21 ?l21 ?c21 ?k21 ?a22 ?l22 ?c22 ?k22 ?a23 ?l23 ?c23 ?k23 ?a24 ?l24 ?c24 ?k24 ?a25 ?l25 ?c25 ?k25 ?a26 ?l26 ?c26 ?k26 ?a27 ?l27 ?c27 ?k27 ?a28 ?l28 ?c28 ?k28 ?a29 ?l29 ?c29 ?k29 ?z1 ?z2 ?z3 ?z4 ?z5 ?z6 ?z7 ?z8 ?z9 ?z10 ?z11 ?z12 ?z13 ?z14 ?z15 ?z16 ?z17 ?z18 ?z19 ?aB
  (case a1=>k_is)
  (case l1=>k_is)
  (case c1=>k_is)
  (case k1=>k_is)
  (case a2=>k_is)
  (case l2=>k_is)
  (case c2=>k_is)
  (case k2=>k_is)
  (case a3=>k_is)
  (case l3=>k_is)
  (case c3=>k_is)
  (case k3=>k_is)
  (case a4=>k_is)
  (case l4=>k_is)
  (case c4=>k_is)
  (case k4=>k_is)
  (case a5=>k_is)
  (case l5=>k_is)
  (case c5=>k_is)
  (case k5=>k_is)
  (case a6=>k_is)
  (case l6=>k_is)
  (case c6=>k_is)
  (case k6=>k_is)
  (case a7=>k_is)
  (case l7=>k_is)
  (case c7=>k_is)
  (case k7=>k_is)
  (case a8=>k_is)
  (case l8=>k_is)
  (case c8=>k_is)
  (case k8=>k_is)
  (case a9=>k_is)
  (case l9=>k_is)
  (case c9=>k_is)
  (case k9=>k_is)
  (case a10=>k_is)
  (case l10=>k_is)
  (case c10=>k_is)
  (case k10=>k_is)
  (case a11=>k_is)
  (case l11=>k_is)
  (case c11=>k_is)
  (case k11=>k_is)
  (case a12=>k_is)
  (case l12=>k_is)
  (case c12=>k_is)
  (case k12=>k_is)
  (case a13=>k_is)
  (case l13=>k_is)
  (case c13=>k_is)
  (case k13=>k_is)
  (case a14=>k_is)
  (case l14=>k_is)
  (case c14=>k_is)
  (case k14=>k_is)
  (case a15=>k_is)
  (case l15=>k_is)
  (case c15=>k_is)
  (case k15=>k_is)
  (case a16=>k_is)
  (case l16=>k_is)
  (case c16=>k_is)
  (case k16=>k_is)
  (case a17=>k_is)
  (case l17=>k_is)
  (case c17=>k_is)
  (case k17=>k_is)
  (case a18=>k_is)
  (case l18=>k_is)
  (case c18=>k_is)
  (case k18=>k_is)
  (case a19=>k_is)
  (case l19=>k_is)
  (case c19=>k_is)
  (case k19=>k_is)
  (case a20=>k_is)
  (case l20=>k_is)
  (case c20=>k_is)
  (case k20=>k_is)
  (case a21=>k_is)
  (case l21=>k_is)
  (case c21=>k_is)
  (case k21=>k_is)
  (case a22=>k_is)
  (case l22=>k_is)
  (case c22=>k_is)
  (case k22=>k_is)
  (case a23=>k_is)
  (case l23=>k_is)
  (case c23=>k_is)
  (case k23=>k_is)
  (case a24=>k_is)
  (case l24=>k_is)
  (case c24=>k_is)
  (case k24=>k_is)
  (case a25=>k_is)
  (case l25=>k_is)
  (case c25=>k_is)
  (case k25=>k_is)
  (case a26=>k_is)
  (case l26=>k_is)
  (case c26=>k_is)
  (case k26=>k_is)
  (case a27=>k_is)
  (case l27=>k_is)
  (case c27=>k_is)
  (case k27=>k_is)
  (case a28=>k_is)
  (case l28=>k_is)
  (case c28=>k_is)
  (case k28=>k_is)
  (case a29=>k_is)
  (case l29=>k_is)
  (case c29=>k_is)
  (case k29=>k_is)
  (case z1=>k_is)
  (case z2=>k_is)
  (case z3=>k_is)
  (case z4=>k_is)
  (case z5=>k_is)
  (case z6=>k_is)
  (case z7=>k_is)
  (case z8=>k_is)
  (case z9=>k_is)
  (case z10=>k_is)
  (case z11=>k_is)
  (case z12=>k_is)
  (case z13=>k_is)
  (case z14=>k_is)
  (case z15=>k_is)
  (case z16=>k_is)
  (case z17=>k_is)
  (case z18=>k_is)
  (case z19=>k_is)
  (case aB=>k_is)
