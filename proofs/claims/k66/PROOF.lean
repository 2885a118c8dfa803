import PyProof.Rows.All
import Wide.All
import OpenK.AllK
import Wide.FinOn
import Lean
import PyProof.EqAt
import PyProof.EqKinds
import PyProof.TupleCall
import PyProof.Rows.SortRuns
import PyProof.Rows.SortShellK
import PyProof.P3Eq
import PyProof.Draws
import PyProof.EnumMake
import PyProof.NeData
import KE.LcSums
import PyProof.WalkInts
import PyProof.SeqI3
import KE.KSortTup
import KE.KRevIter
import PyProof.FactsAll.range_2
import PyProof.SetRoads
import PyProof.FactsAll.set_1
import PyProof.Rows.SetFrom
import PyProof.CollectWalk
import PyProof.Walks
import PyProof.TupleIter
import PyProof.TupleKey
import KE.KDictOf
import PyProof.Rows.TupDisplay
import PySem.Challenge.RW_rooklands_k66_whole_stairs
local macro_rules | `(tactic| omega) => `(tactic| first | lia | omega +splitDisjunctions)
open PySem renaming PyData->Qa,Program->QD,Expr->Q2,FuncData->Jc,Around->Je,World->Jl,wpAny_newObj_type->JC,wpAny_call_entry->JO,wpAny_truthy_bool->JW,wpAny_holding->Za,wpAny_callSpecial?_slot->Zb,wpAny_field->Ze,wpAny_setState_of->Zn,IsTupleKey->ZJ,wpAny_seqItems->ZU,sizeLine_eq->Z0,wpAny_askSetting->Z9,wpAny_of_eq->Yz,ReadsAll->YA,wpAny_setField_rec->YT,wpAny_pyIter_tuple->YU,Stmt->Y7,Scope->Y8,Builtin->Qaa,mem_of_lookup->Qaf,Fin->Qar,wpAny_comprehension_free->QaA,wpAny_loadPart'->QaI,Paired->QaY,NameKind->Qa2,Reads->Qbn,wpAny_newFunctionEnv->Qbv,call_meets->QbJ,wpAny_passesOwn->QbV,wpAny_typeOf->Qcm,wpAny_Call_Name_kw->Qcn,Operator->Qco,wpAny_setField->QcC,isSubtype_type->QcD,wpAny_pyIter_enum->QcP,wpAny_attempt->Qc7,Comprehension->Qde,wpAny_pyIter_zip->Qdw,wpAny_forIn_list->Qdx,wpAny_pyIter_rangeiter->QdG,codeAny_compStart_list->QdH,exec_Assign_Name_used->Qel,builtinLookup_eq_fast->Qem,Builtin->Qeo,wpAny_updateSeq_pair->QeI,wpAny_onRaise->Qf1,wpAny_newList->Qf2,CmpOp->Qga,seqIndex_neg->Qik,codeAny_mono->Qil,IsPart->Qiq,wpAny_isInstance->Qiv,noFill_tuple_add->Qiw,wpAny_specialOf->QkQ,wpAny_execs_nil->QkR,typeLookup_type->QkS,seqIndex_of->QkT,codeAny_of_tree->QkV,codeAny_builtin->QkW,Keyword->Qk0,IsRangeIter->Qk2,wpAny_letOwnedTupleGo_enum->QlO,wpAny_newTuple->QlS,wpAny_letOwnedTupleGo_zip->QlT,seq_tuple_add->Qo0,rangeSize_one->Qo1,plainId_quiet->Qo2,call->Qo3,BindsTo->Qpc,wpAny_pyNext_range_end->Qsd,wpAny_getItem_list_neg->Qse,wpAny_isTrue_Compare1->Qte,wpAny_eqIsQuiet_tuple->Qtf,concat_meets->Qth,Result->Qtk,IsZip->Qtv,wpAny_loadName_local->Qwf,wpAny_setEntries_of->Qwx,wpAny_loadName_cell->Qwy,wpAny_letGo->Qwz,wpAny_eqBool_tuple->Qzp,wpAny_List_spliced->Qzq,ZipApart->Qzs,Within->Qzt,wpAny_storeSet_of->QzQ,wpAny_sequenceKey->QzR,wpAny_pyIter_slot->QzS,wpAny_pyIter_list->QzT,wpAny_assign_Name->QzU,wpAny_Name->QzV,typeIs_int->QzW,slot_list_getitem->QzX,Model->QAa
open PySem.W renaming Frag->Qb,keepIn->Qi,nsIn->QB,codeIn->QM,fnOf->QQ,mg_of->QZ,mg_none_of->Q5,kia_one->Zm,methodObj->Qen,instObj->Qfl,OpenLaw->Qfm,lookIn->Qf6,kitOne->Qf7,cellsFrom_some->Qin,kitx_list->QlU,kitx_dict->QlV,plainGet->QoU,findIn->Qsi,WalkO->Qtl
open PySem.PyData renaming int->Qc,eqv->QL,depthAll->QX,canLayAll0->Ja,tuple->J4,list->Yl,depth->QaD,bool->Qdz,eqvAll->Qd9,canLay0->Qg6
open Array renaming length_toList->Qd,getElem?_toList->Q9,toList_append->Jz,getElem_toList->J8,getD->Zi,perm_iff_toList_perm->Zs,mem_toList_iff->ZI,getElem?_eq_none->ZQ,getElem?_eq_some_iff->ZW,mem_of_getElem?->YJ,getD_eq_getD_getElem?->YK,toList_extract->QaZ,replicate->Qbb,getElem_setIfInBounds->Qbc,size_extract->Qby,getElem?_eq_getElem->QbC,toList_push->QbY,toList_inj->Qcq,toList_reverse->Qdf,size_map->QdE,all_eq_true_iff_forall_mem->Qew,toList_setIfInBounds->Qhd,size_setIfInBounds->Qis,toList_filterMap->QjE,forIn_toList->QoV,foldl_toList->QoW,toList_zip->Qss,toList_map->Qst,toList->QzC
open PySem.Heap renaming get?_push_of_some->Qe,lt_size->Qp,get?_push_size->Qw,get?_update_self->ZC,size_push->ZK,get?_update_other->Yx,SameBut->Qan,IsTuple->QlQ
open List renaming getElem?_eq_getElem->Qf,length_map->Qg,getD_eq_getElem?_getD->Qh,range->Qk,size_toArray->Qo,getElem?_map->Qq,mem_cons->Qr,length_append->Qs,length_cons->Qv,mem_map->Qx,length_range->Qz,mem_range->QF,mem_of_getElem?->QK,map_map->QN,replicate->QP,getElem?_eq_some_iff->QR,mem_append_right->QV,mem_iff_getElem?->Q0,getElem?_eq_none->Q1,append_assoc->Q3,not_mem_nil->Q6,mem_cons_of_mem->Q7,map_congr_left->Q8,mem_singleton->Jf,getElem?_append_right->Jg,map_cons->Jh,length_take->Jo,take_append_drop->Jq,mem_append->Jr,lookup_cons->Jt,getElem?_range->Ju,pairwise_iff_getElem->Jy,mem_filter->JB,map_append->JF,pairwise_append->JI,append_nil->JK,mem_cons_self->JM,getElem?_append_left->Zd,take_length->Zf,all_eq_true->Zg,replicate_succ->Zh,getElem?_cons_succ->Zo,take_add_one->Zv,drop_zero->Zw,filterMap_append->ZB,mem_filterMap->ZF,length_drop->ZH,toList_toArray->ZM,range_succ->ZN,nodup_cons->ZO,filterMap_cons->ZP,take_of_length_le->ZR,drop_of_length_le->ZS,mem_flatMap->Z1,toArray->Z3,perm_append_comm->Z4,getLastD_eq_getLast?->Z8,mem_append_left->Yb,length_set->Yg,flatten_cons->Yh,ext_getElem?->Yi,getElem?_replicate->Yo,getElem_mem->Yr,getElem?_drop->YB,filter_filter->YC,extract_eq_take_drop->Qab,drop_eq_getElem_cons->Qac,nodup_range->Qag,length_eq_zero_iff->Qau,filter_cons_of_pos->Qav,filter_cons_of_neg->Qaw,filterMap_map->Qax,map_id->QaE,mapM_toArray->QaF,length_replicate->QaL,mem_of_mem_drop->Qa0,dropLast_concat_getLast->Qa3,nil_append->Qbk,filter_eq_self->Qbl,perm_ext_iff_of_nodup->Qbx,map_filterMap->QbB,foldl_append->Qb1,flatMap_cons->Qb2,filter_congr->Qb3,mem_toArray->QcF,getElem_map->QcG,ext_getElem->QcH,range_succ_eq_map->QcJ,getElem?_set_self->QcK,zipWith->Qc0,length_nil->Qc1,length_filter_le->Qc2,foldl_cons->Qc3,mem_of_mem_take->QdB,mem_iff_getElem->QdC,getElem?_set_ne->QdD,take_take->QdI,length_zipWith->Qea,flatMap_append->Qeb,zip_cons_cons->Qeu,getElem?_take->Qev,map_nil->Qfo,zipIdx_cons->Qfv,of_mem_zip->Qg7,lookup->Qg8,length->Qg9,forIn_cons->Qha,countP_map->Qhb,drop_drop->Qip,length_filterMap_le->Qiz,length_erase_of_mem->QiA,getElem?_take_of_lt->QiB,take_nil->Qjy,map_take->Qjz,getLast?_cons_cons->QjA,getElem?_cons_zero->QjB,length_pos_of_mem->QkZ,mem_erase_of_ne->Ql2,getLast?_append->Ql3,pairwise_cons->Qo7,getElem_range->Qo8,find?_eq_none->Qo9,take_sublist->Qsj,reverse_cons->Qsk,pairwise_map->Qsl,nodup_append->Qsm,getElem?_set->Qsn,foldl->Qso,perm_middle->Qto,map_zipWith->Qtp,map_snd_zip->Qtq,map_flatMap->Qtr,flatMap_map->Qts,countP_cons->Qtt,any_eq_true->Qtu,zipIdx_nil->Qwk,take_range->Qwl,find?_some->Qwm,take_zero->QwF,nodup_nil->QwG,forIn_nil->QwH,filterMap->QwI,drop_nil->Qzx,any_cons->Qzy
open Nat renaming le_refl->Qj,zero_le->Qt,ne_of_lt->QH,lt_of_lt_of_le->QY,le_trans->Jk,zero_add->JT,le_of_lt->Z5,min_eq_left->Yj,lt_of_le_of_lt->YG,not_lt_zero->YQ,lt_trichotomy->YY,lt_succ_of_lt->YZ,lt_irrefl->Y0,pow_le_pow_right->Y9,ne_of_gt->QaO,succ_pos->QbL,add_zero->QbM,add_sub_cancel->QbN,sub_self->Qdb,mod_lt->QdA,min_le_right->Qf8,le_max_right->Qf9,succ_mul->QlW,succ_add->QlX,sub_zero->QlY,pow_succ->QlZ,mul_comm->Ql0,min_self->Ql1,testBit_two_pow->Qo5,le_succ->Qo6,le_of_lt_succ->Qtn,min_eq_right->Qwi,le_add_right->Qwj,min_le_left->QwE,testBit_or->Qzv,mul_le_mul->Qzw
open PyProof.Rows renaming wpS_bind->Ql,wpS_pure->Qm,callWith_type1->JH,SortSt->JV,wpS_forRange->J1,slot_tuple_getitem->J3,SortKind->Ya,wpS_mono->Yy,wpS_modify->Qaz,listUpdate_at->Qbz,get?_update_seq->QbW,wpS_get->QcB,seqEpoch_at->Qc8,wpS_lift->Qet,AllBare->Qfq,assignInOrder_cons->Qf3,oneTypeOnly'_eq->QkU,subscriptTail_builtinR->Qsf,listItems_at->Qtg,getElem?_mirror_all->QwA,entry_tuple_getitem->QwB,args_tuple_getitem->Qzr,assignInOrder_nil->QzY
open Option.some renaming inj->Qu
open Bool renaming and_eq_true_iff->Qy,false_ne_true->QC,and_eq_true->JR,false_eq_true->ZG,eq_iff_iff->YN,or_eq_true_iff->Qbm,not_eq_true'->Qb4,true_and->Qcp,and_true->QjC,and_comm->QjD,or_eq_true->Qwo,not_true->QzB
open PySem.Value renaming ref->QU,none->JD,type->Yp,bool->YO,int->Qf4,builtin->Qix,str->Qti,float->Qz1
open Int renaming toNat_natCast->Q4,add_zero->QaQ,mul_assoc->Qa9,le_trans->QbO,zero_mul->Qdc,mul_comm->Qdd,zero_add->Qfw,mul_add->Qhl,mul_zero->Ql4,mul_one->Qpa,le_refl->Qpb,natCast_nonneg->Qsp,emod_lt_of_pos->Qsq,le_antisymm->QwJ,emod_nonneg->QwK
open PySem.SetTable renaming bits->Ji,runEnd->Jp,turns->Jx,below->JJ,Probe->J9,insertAt->Zr,leap->Yf,advance->YX,laid->QaK,fresh->Qbj,layClean->Qbw,fits->QbK,slot->Qdy,toList_insertAt->Qf5,fill->Qg5,has->Qim,sizeAbove->QkX
open PySem.NameKind renaming free->Jj,cell->YH
open Or renaming inr->Jm,inl->Jn
open PySem.SetTable.layClean renaming free->Jw
open PySem.SetTable.probe renaming go->JA
open PySem.Builtin.Range renaming rangeFitsLong->JG,rangeSize->Zz,rangeFields->QAj
open PySem.Builtin.SmallTypes renaming nextOf->JL,ownedTupleIsFree->Zx,ownedTupleHandOut->Qbp
open ForInStep renaming yield->JX,done->Qba
open PySem.Obj renaming mapSeq->J5,data_mapFields->YF,isFreed_of_fields->Qda,cls_mapFields->Qfn,putSet->Qjx,mapFields->QkY
open Classical renaming byContradiction->J7
open PySem.PassesOwn renaming never->Zj
open PySem.Heap.SameBut renaming update->Zp
open PySem.Builtin.Int renaming intBits->Zq,intTooBig->Qgb
open List.Perm renaming refl->ZV,append_left->Yt,append_right->Qap,trans->QaP,eq_of_pairwise->Qbo,swap->Qfp
open Option renaming map_eq_some_iff->Yq,isSome_iff_exists->Qhk,getD_none->Qo4,guard->QwD,none->Qzu
open False renaming elim->Ys
open List.Pairwise renaming filter->Yu,sublist->QAb,nil->QAc
open PySem.Builtin.Slice renaming slicePlaces->YD,sliceAdjust->QaR,sliceApplied->Qed,slicePartIndex->QAh,sliceFields->QAi
open PySem.Builtin.Tuple renaming tupleExact->YM,tupleItemsOf->Qec,tupleIsExact->QAf,tupleCompareSizes->QAg
open PySem.Builtin.List renaming listTooLong->YR,listExtendWith->Qee,listSameRef->QeJ
open PySem.F renaming slot_tuple_iterator_next->Qad,args_tuple_add_2->QbA,entry_tuple_add->QbX,slot_tuple_add->Qb5,slot_tuple_lt->QcE,slot_zip_next->QdJ,slot_range_reversed->QdK,plainAttrs_list->Qhi,args_tuple_lt_2->Qhj,entry_tuple_lt->Qio,args_tuple_iterator_next_1->Qir,slot_set_iter->Qiy,entry_tuple_iterator_next->QiC,plain_reversed_new->Qsr,args_list_count_2->Qtw,entry_list_count->Qwn,slot_list_count->QwL,plain_list_iadd->QwM,args_zip_next_1->QwN,entry_zip_next->QzA,slot_int_rmul->QAd
open PySem.Str renaming ofString->Qao
open PySem.Challenge renaming rw_rooklands_k66_whole_stairs->QaN,pw_rooklands_k66_whole_stairs->QwC
open PySem.SetTable.below renaming go->QaW
open PySem.SeqAt.Reads renaming unique->QaX
open Ne renaming symm->Qb0
open PySem.Builtin renaming bitAnd->Qc4,bitOr->QdL
open PySem.Around renaming under_plainId->Qc5
open True renaming intro->Qc9
open Array.Perm renaming refl->Qex
open PySem.SeqAt renaming eqAt_reads->Qfk,list_countAt->QoT
open PySem.Calls renaming Name_function_global->Qhc,call_function_entry->Qhm
open Sum renaming inr->Qhg,inl->Qhh
open PyProof.Rows.IsTup renaming new->Qk1
open PySem.Shared renaming heap->QlP,TypeIs->Qwg
open String renaming splitOnAux->QoR,splitOn->Qtj
open PyProof.Rows.SortSt renaming mk'->QoS
open PySem.pickOrder renaming go->Qsg
open StateT renaming run_pure->Qsh
open Nat.succ renaming inj->Qtm
open PySem.Builtin.Frozenset renaming oneOther->Qtx
open PySem.Paired renaming length->Qwh
open And renaming intro->QwO
open PySem.Heap.IsSliceOf renaming new->Qzz
open PySem.Walks renaming range->QzZ
open PySem.W.WShape renaming has->Qz0
open PySem.EqMixed renaming ne_str_int->Qz2,ne_str_bool->Qz3,ne_int_str->Qz4,ne_bool_str->Qz5,eq_str_int->Qz6,eq_str_bool->Qz7,eq_int_str->Qz8,eq_bool_str->Qz9
open PySem.CmpOp renaming NotIn->QAe
open PySem PySem.Spec PyProof.Rows
set_option Elab.async false
set_option linter.all false
set_option maxRecDepth 100000
namespace L2
abbrev Key:=Sum Int Str
def QyB:Key->Value->Bool
 |.inl k,v=>Value.isInt k v
 |.inr x,v=>Value.isStrOf x v
def QCI(w:Jl):Key->Int
 |.inl k=>hashInt k
 |.inr x=>hashStr w x
theorem Ye:∀{k:Key}{v:Value},QyB k v=true->(∃i t,k=Qhh i/\v=Qf4 i t)∨(∃x t,k=Qhg x/\v=Qti x t)
 |.inl i,v,h=>by
  obtain⟨t,e⟩:=Value.isInt_shape (k:=i) (v:=v) h;exact .inl ⟨i,t,rfl,e⟩
 |.inr x,v,h=>by
  obtain⟨t,e⟩:=Value.isStrOf_shape (x:=x) (v:=v) h;exact .inr ⟨x,t,rfl,e⟩
theorem QyA(a b:Int):decide ((Qhh a:Key)=Qhh b)=(a == b):=by
 by_cases e:a=b
 ·subst e;simp
 ·have h:¬(Qhh a:Key)=Qhh b:=λq=>e (Sum.inl.inj q)
  rw[decide_eq_false h];exact(beq_eq_false_iff_ne.mpr e).symm
theorem Qyw(a b:Str):decide ((Qhg a:Key)=Qhg b)=decide (a=b):=by
 by_cases e:a=b
 ·subst e;simp
 ·have h:¬(Qhg a:Key)=Qhg b:=λq=>e (Sum.inr.inj q)
  rw[decide_eq_false h,decide_eq_false e]
theorem Qyz(a:Int)(b:Str):decide ((Qhh a:Key)=Qhg b)=false:=decide_eq_false (λq=>nomatch q)
theorem Qyx(a:Str)(b:Int):decide ((Qhg a:Key)=Qhh b)=false:=decide_eq_false (λq=>nomatch q)
def mixKind(prog:QD)(w:Jl):PySem.KeyKind prog w Key where
 is:=QyB
 hash:=QCI w
 inj:=λv a b ha hb=>by
  rcases Ye ha with⟨i,t,rfl,rfl⟩ | ⟨x,t,rfl,rfl⟩
  ·rcases Ye hb with⟨j,u,rfl,e⟩ | ⟨y,u,rfl,e⟩
   ·injection e with e1 _;rw[e1]
   ·exact nomatch e
  ·rcases Ye hb with⟨j,u,rfl,e⟩ | ⟨y,u,rfl,e⟩
   ·exact nomatch e
   ·injection e with e1 _;rw[e1]
 byValue:=λk v h=>by
  rcases Ye h with⟨i,t,rfl,rfl⟩ | ⟨x,t,rfl,rfl⟩<;>rfl
 pyHash:=λhv h=>by
  rcases Ye hv with⟨i,t,rfl,rfl⟩ | ⟨x,t,rfl,rfl⟩
  ·exact wpAny_pyHash_int h
  ·exact wpAny_pyHash_str h
 eqBool:=λhu hv h=>by
  rcases Ye hu with⟨i,t,rfl,rfl⟩ | ⟨x,t,rfl,rfl⟩
  ·rcases Ye hv with⟨j,u,rfl,rfl⟩ | ⟨y,u,rfl,rfl⟩
   ·rw[QyA] at h;exact wpAny_eqBool_int h
   ·rw[Qyz] at h;exact SeqAt.EqAt.int_str i t y u _ _ _ _ h
  ·rcases Ye hv with⟨j,u,rfl,rfl⟩ | ⟨y,u,rfl,rfl⟩
   ·rw[Qyx] at h;exact SeqAt.EqAt.str_int x t j u _ _ _ _ h
   ·rw[Qyw] at h;exact wpAny_eqBool_str h
 «strs» := λk x t v h=>by
  rcases Ye h with⟨i,u,rfl,e⟩ | ⟨y,u,rfl,e⟩
  ·exact nomatch e
  ·injection e with e1 _
   subst e1;cases v<;>rfl
inductive V where
 |non | bl (b:Bool) | int (i:Int) | str (x:Str) | byt (b:Array UInt8) | flt (b:UInt64) | ref (a:Addr) | ty (n:String)
 deriving DecidableEq
def RelV:V->Value->Prop
 |.non,u=>u=JD
 |.bl b,u=>u=YO b
 |.int i,u=>∃t,u=Qf4 i t
 |.str x,u=>∃t,u=Qti x t
 |.byt b,u=>∃t,u=Value.bytes b t
 |.flt b,u=>∃t,u=Qz1 b t
 |.ref a,u=>u=QU a
 |.ty n,u=>u=Yp n
abbrev Vals:List V->List Value->Prop:=QaY RelV
theorem Vals.length{xs:List V}{us:List Value}(r:Vals xs us):xs.length=us.length:=Qwh r
theorem Vals.get:∀{xs:List V}{us:List Value}{i:Nat}{x:V},Vals xs us->xs[i]? = some x->∃u,us[i]? = some u/\RelV x u
 |_,_,_,_,.nil,e=>by simp at e
 |_,_,0,_,.cons r _,e=>by simp at e;subst e;exact⟨_,rfl,r⟩
 |_,_,i+1,x,.cons _ t,e=>by
  obtain⟨u,h1,h2⟩:=Vals.get (i:=i) (x:=x) t (by simpa using e);exact⟨u,by simpa using h1,h2⟩
theorem Vals.set{x:V}{u:Value}(r:RelV x u):∀{xs:List V}{us:List Value}(i:Nat),Vals xs us->Vals (xs.set i x) (us.set i u)
 |_,_,_,.nil=>.nil
 |_,_,0,.cons _ t=>.cons r t
 |_,_,i+1,.cons q t=>.cons q (Vals.set r i t)
theorem Vals.append:∀{xs ys:List V}{us ws:List Value},Vals xs us->Vals ys ws->Vals (xs++ys) (us++ws)
 |_,_,_,_,.nil,s=>s
 |_,_,_,_,.cons r t,s=>.cons r (Vals.append t s)
theorem Vals.take:∀{xs:List V}{us:List Value}(n:Nat),Vals xs us->Vals (xs.take n) (us.take n)
 |_,_,0,_=>.nil
 |_,_,_+1,.nil=>.nil
 |_,_,n+1,.cons r t=>.cons r (Vals.take n t)
theorem Vals.drop:∀{xs:List V}{us:List Value}(n:Nat),Vals xs us->Vals (xs.drop n) (us.drop n)
 |_,_,0,r=>r
 |_,_,_+1,.nil=>.nil
 |_,_,n+1,.cons _ t=>Vals.drop n t
def QBv:Option V->Option Value->Prop
 |some v,some u=>RelV v u
 |none,none=>True
 |_,_=>False
def KV{κ:Type}:List (κ×V)->List (κ×Value)->Prop:=QaY λ(p:κ×V)(q:κ×Value)=>p.1=q.1/\RelV p.2 q.2
def kV:Key->V
 |.inl i=>.int i
 |.inr x=>.str x
inductive HO where
 /-- a list -/
 |lst (xs:List V)
 /-- a tuple (never changes) -/
 |tup (xs:List V)
 /-- a dict whose keys are ints and texts;one whose keys are tuples of ints and texts (the empty one is both) -/
 |dK (kvs:List (Key×V)) | dT (kvs:List (List Key×V))
 /-- a set of ints: its members,its size -/
 |set (S:Int->Bool) (n:Nat)
 /-- an instance of the class at C,its dict at dx,its attributes -/
 |ins (C dx:Addr) (fs:List (Str×V))
 /-- the dict of the instance at x -/
 |own (x:Addr)
 /-- the dict of an exception -/
 |xd (fs:List (Str×V))
 /-- a bound method,f of x -/
 |met (f x:Addr)
 /-- a range object lo,lo+1,.. below hi -/
 |rng (lo hi:Int)
 /-- a thing that is known to the object (the script;a dict while a loop walks it): read,never written while it is so -/
 |frz (o:Obj) (u:HO)
 /-- a code object's table -/
 |tbl (ps:Array Value)
 /-- any other thing,by what is true of its one object (a def of one's own: SetO a S n:=HO.ext λh=>..) -/
 |ext (φ:Heap->Prop)
abbrev Hp:=Addr->Option HO
def upd(H:Hp)(a:Addr)(o:HO):Hp:=λb=>if b=a then some o else H b
theorem JN{H:Hp}{a:Addr}{o:HO}:upd H a o a=some o:=by unfold upd;rw[if_pos rfl]
theorem JY{H:Hp}{a b:Addr}{o:HO}(h:b≠a):upd H a o b=H b:=by unfold upd;rw[if_neg h]
theorem Zl{H:Hp}{a b:Addr}{o:HO}(h:H a=some o)(h':H b=none):a≠b:=by
 intro e;subst e;rw[h] at h';cases h'
section
variable(P:QD)(w:Jl)
def ObjOk(H:Hp)(h:Heap)(a:Addr):HO->Prop
 |.lst xs=>xs.length<=sizeLine/\∃(its:List Value)(n:Nat),Vals xs its/\h.get? a=some { cls:=.type "list",data:=.seq its.toArray n }
 |.tup xs=>xs.length<=sizeLine/\∃its:List Value,Vals xs its/\IsTup h a its.toArray
 |.dK kvs=>kvs.length<=sizeLine/\(a == sysModules)=false/\∃vs,KV kvs vs/\h.DictOf (mixKind P w) a vs
 |.dT kvs=>kvs.length<=sizeLine/\(a == sysModules)=false/\∃xs:List (List Key×Addr×Value),
   QaY (λ(p:List Key×V)(q:List Key×Addr×Value)=>p.1=q.1/\H q.2.1=some (.tup (p.1.map kV))/\RelV p.2 q.2.2) kvs xs /\
   ∃o es ep,h.get? a=some o/\o.ExactDict/\o.data=.dict es ep/\es.toList=xs.map (entryOfKey (tupleKind (mixKind P w)))/\(xs.map (·.1)).Nodup
 |.set S n=>h.SetOf (intKind P w) a S n
 |.ins C dx fs=>H dx=some (.own a)/\fs.length<=1000/\dx≠a/\h.get? a=some (PySem.W.instObj C dx) /\
   ∃mA,h.Ns1 dx mA/\(∀f,QBv (fs.lookup f) (mA f))/\PySem.Within mA (fs.map (·.1))
 |.own _=>∃o,h.get? a=some o
 |.xd fs=>∃mA,h.Ns1 a mA/\∀f,QBv (fs.lookup f) (mA f)
 |.rng lo hi=>∃t u v,h.get? a=some { cls:=.type "range",data:=.fields #[.int lo t,.int hi u,.int 1 v] }
 |.frz o u=>h.get? a=some o/\ObjOk H h a u
 |.tbl ps=>h.get? a=some { cls:=.none,data:=.fields ps }
 |.met f x=>h.get? a=some (PySem.W.methodObj (.ref f) (.ref x))
 |.ext φ=>φ h/\(∃o,h.get? a=some o)/\∀h1 h2:Heap,φ h1->(∀o,h1.get? a=some o->h2.get? a=some o)->φ h2
def HOk(H:Hp)(h:Heap):Prop:=∀a o,H a=some o->ObjOk P w H h a o
end
section
variable{P:QD}{w:Jl}{H H':Hp}{h h':Heap}{a:Addr}{o:HO}
theorem ObjOk.lt(x:ObjOk P w H h a o):a<h.objs.size:=by
 cases o with
 |lst xs=>obtain⟨_,_,_,_,e⟩:=x;exact Qp e
 |tup xs=>obtain⟨_,_,_,p⟩:=x;exact p.lt
 |dK kvs=>obtain⟨_,_,_,_,o,_,_,e,_⟩:=x;exact Qp e
 |dT kvs=>obtain⟨_,_,_,_,o,_,_,e,_⟩:=x;exact Qp e
 |set S n=>obtain⟨o,_,_,_,e,_⟩:=x;exact Qp e
 |ins C dx fs=>obtain⟨_,_,_,e,_⟩:=x;exact Qp e
 |own y=>obtain⟨_,e⟩:=x;exact Qp e
 |xd fs=>obtain⟨_,⟨_,_,_,e,_⟩,_⟩:=x;exact Qp e
 |rng lo hi=>obtain⟨_,_,_,e⟩:=x;exact Qp e
 |frz ob u=>obtain⟨e,_⟩:=x;exact Qp e
 |tbl ps=>exact Qp (show h.get? a=some _ from x)
 |met f y=>exact Qp (show h.get? a=some _ from x)
 |ext φ=>obtain⟨_,⟨_,e⟩,_⟩:=x;exact Qp e
theorem QaY.mapP{α β:Type}{F G:α->β->Prop}:∀{l₁:List α}{l₂:List β},QaY F l₁ l₂->(∀a b,F a b->G a b)->QaY G l₁ l₂
 |_,_,.nil,_=>.nil
 |_,_,.cons r t,f=>.cons (f _ _ r) (QaY.mapP t f)
theorem ObjOk.stay(x:ObjOk P w H h a o)(k:∀b u,(b=a∨H b=some (.own a))->h.get? b=some u->h'.get? b=some u)
  (ho:∀b,H b=some (.own a)->H' b=some (.own a))(ht:∀b xs,H b=some (.tup xs)->H' b=some (.tup xs)):ObjOk P w H' h' a o:=by
 induction o with
 |lst xs=>obtain⟨z,its,n,r,e⟩:=x;exact⟨z,its,n,r,k _ _ (.inl rfl) e⟩
 |tup xs=>obtain⟨z,its,r,ob,e,c⟩:=x;exact⟨z,its,r,ob,k _ _ (.inl rfl) e,c⟩
 |dK kvs=>obtain⟨z,y,vs,r,ob,es,ep,e,c⟩:=x;exact⟨z,y,vs,r,ob,es,ep,k _ _ (.inl rfl) e,c⟩
 |dT kvs=>
  obtain⟨z,y,xs,r,ob,es,ep,e,c⟩:=x;exact⟨z,y,xs,QaY.mapP r λp q z=>⟨z.1,ht _ _ z.2.1,z.2.2⟩,ob,es,ep,k _ _ (.inl rfl) e,c⟩
 |set S n=>obtain⟨ob,es,ep,t,e,c⟩:=x;exact⟨ob,es,ep,t,k _ _ (.inl rfl) e,c⟩
 |ins C dx fs=>
  obtain⟨d,z,ne,e,mA,⟨od,es,ep,e2,c⟩,r⟩:=x;exact⟨ho _ d,z,ne,k _ _ (.inl rfl) e,mA,⟨od,es,ep,k _ _ (.inr d) e2,c⟩,r⟩
 |own y=>obtain⟨ob,e⟩:=x;exact⟨ob,k _ _ (.inl rfl) e⟩
 |xd fs=>obtain⟨mA,⟨od,es,ep,e,c⟩,r⟩:=x;exact⟨mA,⟨od,es,ep,k _ _ (.inl rfl) e,c⟩,r⟩
 |rng lo hi=>obtain⟨t,u,v,e⟩:=x;exact⟨t,u,v,k _ _ (.inl rfl) e⟩
 |frz ob u ih=>obtain⟨e,q⟩:=x;exact⟨k _ _ (.inl rfl) e,ih q⟩
 |tbl ps=>
  have e:h.get? a=some { cls:=.none,data:=.fields ps }:=x;show h'.get? a=some { cls:=.none,data:=.fields ps };exact k a _ (.inl rfl) e
 |met f y=>
  have e:h.get? a=some (PySem.W.methodObj (.ref f) (.ref y)):=x;show h'.get? a=some (PySem.W.methodObj (.ref f) (.ref y));exact k a _ (.inl rfl) e
 |ext φ=>obtain⟨p,⟨o,e⟩,st⟩:=x;exact⟨st _ _ p λo q=>k _ _ (.inl rfl) q,⟨o,k _ _ (.inl rfl) e⟩,st⟩
theorem HOk.lt(x:HOk P w H h)(e:H a=some o):a<h.objs.size:=(x a o e).lt
theorem HOk.fresh(x:HOk P w H h)(e:h.objs.size<=a):H a=none:=by
 cases q:H a with
 |none=>rfl
 |some u=>exact absurd (QY (x.lt q) e) (Y0 _)
theorem HOk.kept(x:HOk P w H h)(k:∀b u,h.get? b=some u->h'.get? b=some u):HOk P w H h':=λa o e=>
 (x a o e).stay (λb u _ q=>k b u q) (λ_ q=>q) λ_ _ q=>q
theorem HOk.laid(x:HOk P w H h)(k:∀b u,h.get? b=some u->h'.get? b=some u)(hp:h.objs.size<=a)(new:ObjOk P w (upd H a o) h' a o):HOk P w (upd H a o) h':=λb u e=>by
 have hn:=x.fresh hp;by_cases hb:b=a
 ·subst hb;rw[JN] at e;cases e;exact new
 ·rw[JY hb] at e;exact(x b u e).stay (λc v _ q=>k c v q) (λc q=>by rw[JY (Zl q hn)];exact q) λc xs q=>by rw[JY (Zl q hn)];exact q
end
def Rd(H:Hp)(a:Addr)(u:HO):Prop:=H a=some u∨∃o,H a=some (.frz o u)
theorem Rd.ok{P:QD}{w:Jl}{H:Hp}{h:Heap}{a:Addr}{u:HO}(r:Rd H a u)(x:HOk P w H h):ObjOk P w H h a u:=by
 rcases r with r | ⟨o,r⟩
 ·exact x a u r
 ·obtain⟨_,q⟩:=x a _ r;exact q
def Mut:Option HO->Prop
 |some (.lst _)=>True
 |some (.dK _)=>True
 |some (.dT _)=>True
 |some (.set _ _)=>True
 |some (.ins _ _ _)=>True
 |some (.ext _)=>True
 |_=>False
section
variable{P:QD}{w:Jl}{H:Hp}{h h':Heap}{x e:Addr}{o':HO}
theorem HOk.write(ok:HOk P w H h)(mu:Mut (H x))(he:e=x∨H e=some (.own x))(k:∀b u,b≠e->h.get? b=some u->h'.get? b=some u)(heo:∃u,h'.get? e=some u)
  (new:ObjOk P w (upd H x o') h' x o'):HOk P w (upd H x o') h':=λb u q=>by
 have nown:∀c y,H c=some (.own y)->c≠x:=λc y r z=>by subst z;rw[r] at mu;exact mu
 have ntup:∀c xs,H c=some (.tup xs)->c≠x:=λc xs r z=>by subst z;rw[r] at mu;exact mu
 by_cases hb:b=x
 ·subst hb;rw[JN] at q;cases q;exact new
 ·rw[JY hb] at q;by_cases hbe:b=e
  ·have q':H b=some (.own x):=by
    rcases he with z | z
    ·exact absurd (hbe.trans z) hb
    ·rw[hbe];exact z
   rw[q] at q';cases q';obtain⟨v,hv⟩:=heo;exact⟨v,by rw[hbe];exact hv⟩
  ·refine(ok b u q).stay (λc v hc r=>k c v ?_ r) (λc r=>by rw[JY (nown c b r)];exact r) λc xs r=>by rw[JY (ntup c xs r)];exact r
   rcases hc with rfl | hc
   ·exact hbe
   ·rintro rfl;rcases he with z | z
    ·exact nown c b hc z
    ·rw[hc] at z;cases z;exact hb rfl
end
structure Un (fs ex:List Addr) (H H':Hp) (h h':Heap):Prop where
 keep:∀b o,h.get? b=some o->H b=none->b∉fs->b∉ex->h'.get? b=some o
 slot:∀b o,h.get? b=some o->H b=none->b∈fs->b∉ex->∃sl,h'.get? b=some { o with slots:=sl }
 free:∀b o,h.get? b=some o->H b=none->b∉ex->H' b=none
 there:∀b o,h.get? b=some o->b∉ex->∃o',h'.get? b=some o'
 tups:∀b xs,H b=some (.tup xs)->H' b=some (.tup xs)
 frzs:∀b o u,H b=some (.frz o u)->H' b=some (.frz o u)
 tbls:∀b ps,H b=some (.tbl ps)->∃more,H' b=some (.tbl (ps++more))
section
variable{fs fs' ex ex':List Addr}{H H1 H2:Hp}{h h1 h2 h':Heap}{a x e:Addr}{o:HO}
theorem Un.any(u:Un fs ex H H1 h h1){b:Addr}{ob:Obj}(q:h.get? b=some ob)(n:H b=none)(hx:b∉ex):∃sl,h1.get? b=some { ob with slots:=sl }:=by
 by_cases hb:b∈fs
 ·exact u.slot b ob q n hb hx
 ·exact⟨ob.slots,u.keep b ob q n hb hx⟩
theorem Un.kept(k:∀b u,h.get? b=some u->h'.get? b=some u):Un fs ex H H h h':=
 ⟨λb ob q _ _ _=>k b ob q,λb ob q _ _ _=>⟨ob.slots,k b ob q⟩,λ_ _ _ n _=>n,λb ob q _=>⟨ob,k b ob q⟩,λ_ _ q=>q,λ_ _ _ q=>q,λ_ ps q=>⟨#[],by rw[q];simp⟩⟩
theorem Un.refl:Un fs ex H H h h:=Un.kept λ_ _ q=>q
theorem Un.laid(k:∀b u,h.get? b=some u->h'.get? b=some u)(hp:h.objs.size<=a)(hn:H a=none):Un fs ex H (upd H a o) h h' where
 keep:=λb u q _ _ _=>k b u q
 slot:=λb u q _ _ _=>⟨u.slots,k b u q⟩
 free:=λb u q n _=>by rw[JY (QH (QY (Qp q) hp))];exact n
 there:=λb u q _=>⟨u,k b u q⟩
 tups:=λb xs q=>by rw[JY (Zl q hn)];exact q
 frzs:=λb u xs q=>by rw[JY (Zl q hn)];exact q
 tbls:=λb ps q=>⟨#[],by rw[JY (Zl q hn),q];simp⟩
theorem Un.write(mu:Mut (H x))(he:e=x∨H e=some (.own x))(k:∀b u,b≠e->h.get? b=some u->h'.get? b=some u)(heo:∃u,h'.get? e=some u):Un fs ex H (upd H x o) h h':=by
 have hx:∀b,H b=none->b≠x:=λb n z=>by subst z;rw[n] at mu;exact mu
 have hb:∀b,H b=none->b≠e:=λb n z=>by
  subst z;rcases he with r | r
  ·exact hx b n r
  ·rw[n] at r;cases r
 have hm:∀b u,H b=some u->¬Mut (some u)->b≠x:=λb u q nm z=>by subst z;rw[q] at mu;exact nm mu
 refine⟨λb u q n _ _=>k b u (hb b n) q,λb u q n _ _=>⟨u.slots,k b u (hb b n) q⟩,λb u q n _=>by rw[JY (hx b n)];exact n,λb u q _=>?_,
  λb xs q=>by rw[JY (hm b _ q λz=>z)];exact q,λb u xs q=>by rw[JY (hm b _ q λz=>z)];exact q,λb ps q=>⟨#[],by rw[JY (hm b _ q λz=>z),q];simp⟩⟩
 by_cases hbe:b=e
 ·subst hbe;exact heo
 ·exact⟨u,k b u hbe q⟩
end
def trk(h:Heap)(H:Hp):List Addr:=(Qk h.objs.size).filter λa=>(H a).isSome
def QrH(h:Heap)(H:Hp):Heap:=PySem.W.hideAll h (trk h H)
theorem QnI(h:Heap)(H:Hp):(QrH h H).objs.size=h.objs.size:=PySem.W.hideAll_size _ _
theorem QrG{h:Heap}{H:Hp}{b:Addr}{o:Obj}(e:h.get? b=some o)(n:H b=none):(QrH h H).get? b=some o:=
 PySem.W.hideAll_get _ e λhm=>by
  have q:(H b).isSome=true:=(JB.mp hm).2;rw[n] at q;simp at q
theorem Qu3{h:Heap}{H:Hp}{b:Addr}{o:Obj}(e:(QrH h H).get? b=some o):h.get? b=some o/\H b=none:=by
 have e':h.get? b=some o:=PySem.W.of_hideAll (trk h H) e;refine⟨e',?_⟩;cases q:H b with
 |none=>rfl
 |some x=>
  have hm:b∈trk h H:=JB.mpr ⟨QF.mpr (Qp e'),by simp[q]⟩;have z:(QrH h H).get? b=none:=PySem.W.hideAll_none (trk h H) hm;rw[z] at e;cases e
def Qwc(g h:Heap)(L:Addr):List (Addr×Obj):=(Qk h.objs.size).filterMap λa=>if a=L∨(g.get? a).isSome=true then none else(h.get? a).map λo=>(a,o)
def rest(g h:Heap)(L d:Addr):List (Addr×Obj):=(Qwc g h L).filter λp=>decide (p.1≠d)
structure Mod (K:PySem.W.Frag) (mg:Str->Option Value) (base:Heap):Prop where
 kin:K.In base
 glob:base.Ns mainGlobals mg
 blt:∃mb,base.Ns builtinsNs mb/\∀x:Str,x ≠ "__name__" -> mb x=bootBuiltins x
 nolimit:base.NoLimit
structure Cx where
 prog:QD
 w:Jl
 K:PySem.W.Frag
 mg:Str->Option Value
 base:Heap
 A:Je
 N:List Str
 s₀:Shared
 H₀:Hp
 env:Env
 outer:List Env
 stack:List Env
 ex:List Addr
 fn:Str->Bool
 calm:Bool
 pn:List (Addr×Obj)
 xe:Value->Shared->Prop
def frs(l:List Env):List Addr:=l.filterMap (·.frame)
abbrev Cx.fs (X:Cx):List Addr:=frs X.outer
def Vis(sc:Y8)(x:Str):Prop:=sc.names.lookup x=some .local∨sc.names.lookup x=some .cell∨sc.names.lookup x=some .free
def Loc(sc:Y8)(x:Str):Prop:=sc.names.lookup x=some .local∨sc.names.lookup x=some .cell
def Look(env:Env)(h:Heap)(m:Str->Option Value)(x:Str)(u:Value):Prop:=
 (env.kindOf x=some .local/\m x=some u)∨((env.kindOf x=some .cell∨env.kindOf x=some .free)/\∃c,env.cells.lookup x=some c/\h.IsCell c (some u))
structure Cx.Ok (X:Cx):Prop where
 mod:Mod X.K X.mg X.base
 kind:X.env.scope.kind=.function
 glob:X.env.globals=mainGlobals
 blt:X.env.builtins=builtinsNs
 above:X.s₀.heap.objs.size<=X.env.locals
 inj:∀x y c,X.env.cells.lookup x=some c->X.env.cells.lookup y=some c->x=y
 has:∀x,(X.env.kindOf x=some .cell∨X.env.kindOf x=some .free)->∃c,X.env.cells.lookup x=some c
 cab:∀x c,X.fn x=true->X.env.cells.lookup x=some c->X.s₀.heap.objs.size<=c
 hd:X.calm=true->X.A.handled=none
 frames:X.A.frames=some X.stack
 stk:X.stack=X.outer∨(X.stack=X.env::X.outer/\X.env.frame=some X.env.locals)
 exf:∀b∈X.ex,b≠X.env.locals/\∀x c,X.env.cells.lookup x=some c->c≠b
 bs:∀b o,X.base.get? b=some o->X.s₀.heap.get? b=some o/\X.H₀ b=none
 bsz:X.base.objs.size<=X.s₀.heap.objs.size
 noex:∀b o,X.base.get? b=some o->b∉X.ex
 exfs:∀b∈X.ex,b∉X.fs
 funs:X.s₀.heap.FunFrames X.base X.outer
 frf:∀b∈X.fs,X.H₀ b=none
structure Inv (X:Cx) (pins:List (Addr×Obj)) (σ:List (Option V)) (H:Hp) (s:Shared):Prop where
 ok:X.Ok
 os:s.os=X.s₀.os
 bare:Qfq s.gens
 base:Un X.fs X.ex X.H₀ H X.s₀.heap s.heap
 loc:∃m,s.heap.Ns X.env.locals m/\∀(i:Nat)(x:Str)(v:V),X.N[i]? = some x->σ[i]? = some (some v)->Vis X.env.scope x->∃u,RelV v u/\Look X.env s.heap m x u
 cell:∀x c,X.env.cells.lookup x=some c->∃v,s.heap.IsCell c v
 free:H X.env.locals=none
 freeC:∀x c,X.env.cells.lookup x=some c->H c=none
 pin:∀p∈X.pn++pins,s.heap.get? p.1=some p.2/\H p.1=none/\p.1≠X.env.locals/\p.1∉X.fs/\∀v,p.2.data≠.cell v
 hok:HOk X.prog X.w H s.heap
 len:σ.length=X.N.length
section
variable{X:Cx}{pins:List (Addr×Obj)}{σ:List (Option V)}{H H':Hp}{s:Shared}{h':Heap}
theorem Cx.Ok.nofr(ok:X.Ok){b:Addr}{o:Obj}(e:X.base.get? b=some o):b∉X.fs:=λhb=>by
 have:=(ok.funs.mem hb).1;rw[e] at this;cases this
theorem Inv.bs(I:Inv X pins σ H s):∀b o,X.base.get? b=some o->s.heap.get? b=some o/\H b=none:=λb o e=>
 ⟨I.base.keep b o (I.ok.bs b o e).1 (I.ok.bs b o e).2 (I.ok.nofr e) (I.ok.noex b o e),I.base.free b o (I.ok.bs b o e).1 (I.ok.bs b o e).2 (I.ok.noex b o e)⟩
theorem Inv.bk(I:Inv X pins σ H s):∀b o,X.base.get? b=some o->s.heap.get? b=some o:=λb o e=>(I.bs b o e).1
theorem Inv.mod(I:Inv X pins σ H s):Mod X.K X.mg X.base:=I.ok.mod
theorem Inv.kIn(I:Inv X pins σ H s):X.K.In s.heap:=I.ok.mod.kin.keeps I.bk
theorem Inv.fr(I:Inv X pins σ H s):∃m,Fr X.base X.env.locals s.heap m:=
 let ⟨m,hn,_⟩:=I.loc
 ⟨m,hn,I.bk,Jk I.ok.bsz I.ok.above⟩
theorem Inv.lt(I:Inv X pins σ H s):X.env.locals<s.heap.objs.size:=let ⟨_,hn,_⟩:=I.loc;hn.lt
theorem Inv.sz(I:Inv X pins σ H s):X.s₀.heap.objs.size<=s.heap.objs.size:=Jk I.ok.above (Z5 I.lt)
theorem Inv.nofs(I:Inv X pins σ H s){a:Addr}(h:s.heap.objs.size<=a):a∉X.fs:=λhb=>by
 obtain⟨_,o,ho,_⟩:=I.ok.funs.mem hb;exact absurd (QY (Qp ho) (Jk I.sz h)) (Y0 _)
theorem Inv.cne(I:Inv X pins σ H s):∀x c,X.env.cells.lookup x=some c->c≠X.env.locals:=λx c e z=>by
 obtain⟨v,o,ho,hd⟩:=I.cell x c e;obtain⟨m,⟨o',es,ep,ho',hd',_⟩,_⟩:=I.loc;rw[z,ho'] at ho;cases ho;rw[hd'] at hd;cases hd
theorem Inv.funs(I:Inv X pins σ H s):s.heap.FunFrames X.base X.outer:=by
 have all:∀(l:List Env),(∀b∈frs l,b∈X.fs)->X.s₀.heap.FunFrames X.base l->s.heap.FunFrames X.base l:=by
  intro l;induction l with
  |nil=>intro _ _;trivial
  |cons env r ih=>
   intro hs hl;obtain⟨hk,⟨L,o,hf,hn,ho,hd⟩,hr⟩:=hl;have hL:L∈X.fs:=hs L (by unfold frs;rw[ZP,hf];exact JM);obtain⟨sl,e⟩:=I.base.slot L o ho (I.ok.frf L hL) hL λz=>I.ok.exfs L z hL
   exact⟨hk,⟨L,_,hf,hn,e,hd⟩,ih (λb hb=>hs b (by unfold frs;rw[ZP,hf];exact Q7 _ hb)) hr⟩
 exact all X.outer (λ_ hb=>hb) I.ok.funs
theorem Inv.stack(I:Inv X pins σ H s):s.heap.FunFrames X.base X.stack:=by
 rcases I.ok.stk with e | ⟨e,hf⟩
 ·rw[e];exact I.funs
 ·rw[e];obtain⟨m,hn,_⟩:=I.loc;refine .cons (by rw[I.ok.kind];decide) hf hn ?_ I.funs
  exact Heap.get?_none_of_le (Jk I.ok.bsz I.ok.above)
theorem Inv.stkSub(I:Inv X pins σ H s):∀b∈frs X.stack,b∈X.env.locals::X.fs:=λb hb=>by
 rcases I.ok.stk with e | ⟨e,hf⟩
 ·rw[e] at hb;exact Q7 _ hb
 ·rw[e] at hb;unfold frs at hb;rw[ZP,hf] at hb;exact hb
theorem Inv.stkFree(I:Inv X pins σ H s):∀b∈frs X.stack,H b=none:=λb hb=>by
 rcases Qr.mp (I.stkSub b hb) with e | hb
 ·rw[e];exact I.free
 ·obtain⟨_,o,ho,_⟩:=I.ok.funs.mem hb;exact I.base.free b o ho (I.ok.frf b hb) λz=>I.ok.exfs b z hb
theorem Inv.step{g':Array GenState}{t':Nat}{d':Drawn}{ch:List Addr}(I:Inv X pins σ H s)
  (hch:∀b∈ch,(b∈X.ex∨X.s₀.heap.objs.size<=b)/\b≠X.env.locals/\(∀x c,X.env.cells.lookup x=some c->c≠b)/\∀p∈X.pn++pins,p.1≠b)
  (keep:∀b o,b≠X.env.locals->b∉X.fs->b∉ch->s.heap.get? b=some o->H b=none->h'.get? b=some o)
  (slot:∀b o,b≠X.env.locals->b∈X.fs->b∉ch->s.heap.get? b=some o->H b=none->∃sl,h'.get? b=some { o with slots:=sl })(free:∀b o,b∉ch->s.heap.get? b=some o->H b=none->H' b=none)
  (there:∀b o,b∉ch->s.heap.get? b=some o->∃o',h'.get? b=some o')
  (tups:∀b xs,H b=some (.tup xs)->H' b=some (.tup xs))(frzs:∀b o u,H b=some (.frz o u)->H' b=some (.frz o u))(tbls:∀b ps,H b=some (.tbl ps)->∃more,H' b=some (.tbl (ps++more)))
  (ns:∀m,s.heap.Ns X.env.locals m->h'.Ns X.env.locals m)(hok:HOk X.prog X.w H' h')(hg:Qfq g') :
  Inv X pins σ H' { s with heap:=h',gens:=g',drawn:=d',toks:=t' }:=by
 have neL:∀b o,X.s₀.heap.get? b=some o->b≠X.env.locals:=λb o e=>QH (QY (Qp e) I.ok.above)
 have neC:∀b o,X.s₀.heap.get? b=some o->b∉X.ex->b∉ch:=λb o e hx hb=>by
  rcases(hch b hb).1 with z | z
  ·exact hx z
  ·exact absurd (QY (Qp e) z) (Y0 _)
 have cellK:∀x c,X.env.cells.lookup x=some c->∀v,s.heap.IsCell c v->h'.IsCell c v:=λx c e v ⟨o,ho,hd⟩=>by
  have nch:c∉ch:=λz=>(hch c z).2.2.1 x c e rfl
  by_cases hc:c∈X.fs
  ·obtain⟨sl,q⟩:=slot c o (I.cne x c e) hc nch ho (I.freeC x c e);exact⟨_,q,hd⟩
  ·exact⟨o,keep c o (I.cne x c e) hc nch ho (I.freeC x c e),hd⟩
 refine⟨I.ok,I.os,hg,⟨λb o e n hb hx=>?_,λb o e n hb hx=>?_,λb o e n hx=>?_,λb o e hx=>?_,λb xs e=>tups b xs (I.base.tups b xs e),λb o xs e=>frzs b o xs (I.base.frzs b o xs e),λb ps e=>?_⟩,?_,λx c e=>?_,?_,λx c e=>?_,λp hp=>?_,hok,I.len⟩
 ·exact keep b o (neL b o e) hb (neC b o e hx) (I.base.keep b o e n hb hx) (I.base.free b o e n hx)
 ·obtain⟨sl,e1⟩:=I.base.slot b o e n hb hx;obtain⟨sl',e2⟩:=slot b _ (neL b o e) hb (neC b o e hx) e1 (I.base.free b o e n hx);exact⟨sl',e2⟩
 ·obtain⟨o',e1⟩:=I.base.there b o e hx;exact free b o' (neC b o e hx) e1 (I.base.free b o e n hx)
 ·obtain⟨o',e1⟩:=I.base.there b o e hx;exact there b o' (neC b o e hx) e1
 ·obtain⟨m1,e1⟩:=I.base.tbls b ps e;obtain⟨m2,e2⟩:=tbls b _ e1;exact⟨m1++m2,by rw[e2,Array.append_assoc]⟩
 ·obtain⟨m,hn,hl⟩:=I.loc;refine⟨m,ns m hn,λi x v e1 e2 e3=>?_⟩;obtain⟨u,r,l⟩:=hl i x v e1 e2 e3;refine⟨u,r,?_⟩;rcases l with l | ⟨k,c,e,z⟩
  ·exact .inl l
  ·exact .inr ⟨k,c,e,cellK x c e _ z⟩
 ·obtain⟨v,z⟩:=I.cell x c e;exact⟨v,cellK x c e v z⟩
 ·obtain⟨m,⟨o,_,_,ho,_⟩,_⟩:=I.loc;exact free _ o (λz=>(hch _ z).2.1 rfl) ho I.free
 ·obtain⟨v,o,ho,hd⟩:=I.cell x c e;exact free c o (λz=>(hch c z).2.2.1 x c e rfl) ho (I.freeC x c e)
 ·obtain⟨e,n,ne,nf,d⟩:=I.pin p hp;have nch:p.1∉ch:=λz=>(hch p.1 z).2.2.2 p hp rfl
  exact⟨keep p.1 p.2 ne nf nch e n,free p.1 p.2 nch e n,ne,nf,d⟩
theorem Inv.un{t':Nat}(I:Inv X pins σ H s)(u:Un X.fs [] H H' s.heap h')(hok:HOk X.prog X.w H' h'):Inv X pins σ H' { s with heap:=h',toks:=t' }:=by
 obtain⟨m,⟨o,es,ep,ho,r⟩,_⟩:=id I.loc;obtain⟨sl,hL⟩:=u.any ho I.free (by simp);exact I.step (g':=s.gens) (d':=s.drawn) (ch:=[]) (λ_ z=>nomatch z) (λb o _ hb _ e n=>u.keep b o e n hb (by simp)) (λb o _ hb _ e n=>u.slot b o e n hb (by simp)) (λb o _ e n=>u.free b o e n (by simp)) (λb o _ e=>u.there b o e (by simp)) u.tups u.frzs u.tbls (λm' hm=>by
  obtain⟨o',es',ep',ho',r'⟩:=hm;rw[ho] at ho';cases ho';exact⟨_,es',ep',hL,r'⟩) hok I.bare
theorem Inv.call{g':Array GenState}{t':Nat}{d':Drawn}{ch:List Addr}(I:Inv X pins σ H s)(u:Un (frs X.stack) ch H H' s.heap h')(hok:HOk X.prog X.w H' h')(hg:Qfq g')
  (hch:∀b∈ch,(b∈X.ex∨X.s₀.heap.objs.size<=b)/\b≠X.env.locals/\(∀x c,X.env.cells.lookup x=some c->c≠b)/\∀p∈X.pn++pins,p.1≠b) :
  Inv X pins σ H' { s with heap:=h',gens:=g',drawn:=d',toks:=t' }:=by
 obtain⟨m,⟨o,es,ep,ho,r⟩,_⟩:=id I.loc;obtain⟨sl,hL⟩:=u.any ho I.free λz=>(hch _ z).2.1 rfl
 exact I.step (ch:=ch) hch (λb o hL hb hc e n=>u.keep b o e n (λz=>(Qr.mp (I.stkSub b z)).elim hL hb) hc) (λb o _ _ hc e n=>u.any e n hc) (λb o hc e n=>u.free b o e n hc) (λb o hc e=>u.there b o e hc) u.tups u.frzs u.tbls (λm' hm=>by
  obtain⟨o',es',ep',ho',r'⟩:=hm;rw[ho] at ho';cases ho';exact⟨_,es',ep',hL,r'⟩) hok hg
theorem Inv.turned{t':Nat}{it:Addr}(I:Inv X pins σ H s)(k:∀b o,b≠it->s.heap.get? b=some o->h'.get? b=some o)(hn:H it=none)(hL:it≠X.env.locals)
  (h1:it∈X.ex∨X.s₀.heap.objs.size<=it)(h2:∀x c,X.env.cells.lookup x=some c->c≠it)(h3:∀p∈X.pn++pins,p.1≠it):Inv X pins σ H { s with heap:=h',toks:=t' }:=by
 have nit:∀b u,H b=some u->b≠it:=λb u e z=>by rw[z,hn] at e;cases e
 refine I.step (g':=s.gens) (d':=s.drawn) (ch:=[it]) (λb hb=>?_) (λb o _ _ hc e _=>k b o (λz=>hc (by simp[z])) e) (λb o _ _ hc e _=>⟨o.slots,k b o (λz=>hc (by simp[z])) e⟩) (λ_ _ _ _ n=>n)
  (λb o hc e=>⟨o,k b o (λz=>hc (by simp[z])) e⟩) (λ_ _ e=>e) (λ_ _ _ e=>e) (λb ps e=>⟨#[],by rw[e];simp⟩) (λm hm=>?_) (λb u e=>?_) I.bare
 ·have e:b=it:=by simpa using hb
  subst e;exact⟨h1,hL,h2,h3⟩
 ·obtain⟨o,es,ep,ho,r⟩:=hm;exact⟨o,es,ep,k _ o (Qb0 hL) ho,r⟩
 ·refine(I.hok b u e).stay (λc v hc q=>k c v ?_ q) (λ_ q=>q) λ_ _ q=>q
  rcases hc with z | z
  ·rw[z];exact nit b u e
  ·exact nit c _ z
theorem Inv.tok(I:Inv X pins σ H s)(t:Nat):Inv X pins σ H { s with toks:=t }:=I.un (h':=s.heap) (t':=t) Un.refl I.hok
theorem Inv.kept{t':Nat}(I:Inv X pins σ H s)(k:∀b u,s.heap.get? b=some u->h'.get? b=some u):Inv X pins σ H { s with heap:=h',toks:=t' }:=I.un (Un.kept k) (I.hok.kept k)
theorem Inv.laid{a:Addr}{o:HO}{t':Nat}(I:Inv X pins σ H s)(k:∀b u,s.heap.get? b=some u->h'.get? b=some u)(hp:s.heap.objs.size<=a)(new:ObjOk X.prog X.w (upd H a o) h' a o) :
  Inv X pins σ (upd H a o) { s with heap:=h',toks:=t' }:=I.un (Un.laid k hp (I.hok.fresh hp)) (I.hok.laid k hp new)
theorem Inv.write{x e:Addr}{o:HO}{t':Nat}(I:Inv X pins σ H s)(mu:Mut (H x))(he:e=x∨H e=some (.own x))(k:∀b u,b≠e->s.heap.get? b=some u->h'.get? b=some u)(heo:∃u,h'.get? e=some u)
  (new:ObjOk X.prog X.w (upd H x o) h' x o):Inv X pins σ (upd H x o) { s with heap:=h',toks:=t' }:=I.un (Un.write mu he k heo) (I.hok.write mu he k heo new)
theorem Inv.weak{σ':List (Option V)}(I:Inv X pins σ H s)(hl:σ'.length=σ.length)(w:∀(i:Nat) v,σ'[i]? = some (some v)->σ[i]? = some (some v)):Inv X pins σ' H s:=
 ⟨I.ok,I.os,I.bare,I.base,let ⟨m,hn,hl'⟩:=I.loc;⟨m,hn,λi x v e1 e2 e3=>hl' i x v e1 (w i v e2) e3⟩,I.cell,I.free,I.freeC,I.pin,I.hok,hl.trans I.len⟩
theorem Inv.pins_of{pins':List (Addr×Obj)}(I:Inv X pins σ H s)(h:∀p∈pins',s.heap.get? p.1=some p.2/\H p.1=none/\p.1≠X.env.locals/\p.1∉X.fs/\∀v,p.2.data≠.cell v):Inv X pins' σ H s:=
 ⟨I.ok,I.os,I.bare,I.base,I.loc,I.cell,I.free,I.freeC,λp hp=>(Jr.mp hp).elim (λz=>I.pin p (Yb _ z)) (h p),I.hok,I.len⟩
theorem Qkb{N:List Str}(hN:N.Nodup){i j:Nat}{x:Str}(a:N[i]? = some x)(b:N[j]? = some x):i=j:=by
 obtain⟨h1,e1⟩:=QR.mp a;obtain⟨h2,e2⟩:=QR.mp b;exact(List.getElem_inj hN).mp (e1.trans e2.symm)
theorem Qhw{M:QAa}{A:Je}{E:Value->Shared->Prop}{i:Nat}{x:Str}{v:V}{u:Value}{Q:Unit->Shared->Prop}(I:Inv X pins σ H s)(hN:X.N.Nodup)(hi:X.N[i]? = some x)(hx:Loc X.env.scope x)(r:RelV v u)
  (h:∀s',Inv X pins (σ.set i (some v)) H s'->(∃a,Qan a s.heap s'.heap/\(a=X.env.locals∨X.env.cells.lookup x=some a))->Q () s')(hf:X.fn x=true∨X.env.scope.names.lookup x=some .local:=by first | exact .inl rfl | exact .inr rfl | assumption):wpAny M A (storeName X.env x u) Q E s:=by
 obtain⟨m,hn,hl⟩:=id I.loc;have hcls:(X.env.scope.kind == .class||(X.env.scope.kind == .module&&X.env.locals != X.env.globals))=false:=by rw[I.ok.kind];rfl
 have hiσ:i < σ.length:=by rw[I.len];exact(QR.mp hi).1
 have cne:=I.cne;have tracked:∀{a:Addr}{h':Heap},(∃o,s.heap.get? a=some o/\H a=none)->Qan a s.heap h'->HOk X.prog X.w H h':=λ{a h'} ha hs b ob e=>by
  obtain⟨_,_,hfree⟩:=ha;refine(I.hok b ob e).stay (λc w' hc q=>(hs.2 c ?_).trans q) (λ_ q=>q) λ_ _ q=>q
  rintro rfl;rcases hc with rfl | hc
  ·rw[hfree] at e;cases e
  ·rw[hfree] at hc;cases hc
 rcases hx with hk | hk
 ·refine wpAny_storeName_local hk hn (λh' hn' hs=>?_) hcls;obtain⟨oL,_,_,hoL,_⟩:=id hn;refine h _ ⟨I.ok,I.os,I.bare,⟨λb o e n hb hx=>?_,λb o e n hb hx=>?_,I.base.free,λb o e hx=>?_,I.base.tups,I.base.frzs,I.base.tbls⟩,⟨_,hn',λj y v' e1 e2 e3=>?_⟩,λy c e=>?_,I.free,I.freeC,λp hp=>?_,tracked ⟨oL,hoL,I.free⟩ hs,by simpa using I.len⟩ ⟨_,hs,.inl rfl⟩
  ·exact(hs.2 b (QH (QY (Qp e) I.ok.above))).trans (I.base.keep b o e n hb hx)
  ·obtain⟨sl,e1⟩:=I.base.slot b o e n hb hx;exact⟨sl,(hs.2 b (QH (QY (Qp e) I.ok.above))).trans e1⟩
  ·obtain⟨o',e1⟩:=I.base.there b o e hx;exact⟨o',(hs.2 b (QH (QY (Qp e) I.ok.above))).trans e1⟩
  ·by_cases hj:j=i
   ·subst hj;rw[hi] at e1;cases e1;rw[QcK hiσ] at e2;cases e2;exact⟨u,r,.inl ⟨hk,by simp⟩⟩
   ·rw[QdD (Qb0 hj)] at e2;obtain⟨u',r',q⟩:=hl j y v' e1 e2 e3;refine⟨u',r',?_⟩;rcases q with⟨k,e⟩ | ⟨k,c,e,z⟩
    ·refine .inl ⟨k,?_⟩;have:y≠x:=λe=>hj (Qkb hN e1 (e ▸ hi))
     simp[this,e]
    ·exact .inr ⟨k,c,e,z.sameBut hs (cne y c e)⟩
  ·obtain⟨w',z⟩:=I.cell y c e;exact⟨w',z.sameBut hs (cne y c e)⟩
  ·obtain⟨e,n,ne,nf,d⟩:=I.pin p hp;exact⟨(hs.2 p.1 ne).trans e,n,ne,nf,d⟩
 ·have hfn:X.fn x=true:=by
   rcases hf with z | z
   ·exact z
   ·rw[z] at hk;cases hk
  obtain⟨c,hc⟩:=I.ok.has x (.inl hk);obtain⟨w',z⟩:=I.cell x c hc;refine wpAny_storeName_cell I.ok.kind hk hc z (λh' hc' hs=>?_);obtain⟨oc,hoc,hocd⟩:=id z;refine h { s with heap:=h' } ⟨I.ok,I.os,I.bare,⟨λb o e n hb hx=>?_,λb o e n hb hx=>?_,I.base.free,λb o e hx=>?_,I.base.tups,I.base.frzs,I.base.tbls⟩,⟨m,hn.sameBut hs (Qb0 (cne x c hc)),λj y v' e1 e2 e3=>?_⟩,λy c' e=>?_,I.free,I.freeC,λp hp=>?_,tracked ⟨oc,hoc,I.freeC x c hc⟩ hs,by simpa using I.len⟩ ⟨c,hs,.inr hc⟩
  ·exact(hs.2 b (QH (QY (Qp e) (I.ok.cab x c hfn hc)))).trans (I.base.keep b o e n hb hx)
  ·obtain⟨sl,e1⟩:=I.base.slot b o e n hb hx;exact⟨sl,(hs.2 b (QH (QY (Qp e) (I.ok.cab x c hfn hc)))).trans e1⟩
  ·obtain⟨o',e1⟩:=I.base.there b o e hx;exact⟨o',(hs.2 b (QH (QY (Qp e) (I.ok.cab x c hfn hc)))).trans e1⟩
  ·by_cases hj:j=i
   ·subst hj;rw[hi] at e1;cases e1;rw[QcK hiσ] at e2;cases e2;exact⟨u,r,.inr ⟨.inl hk,c,hc,hc'⟩⟩
   ·rw[QdD (Qb0 hj)] at e2;obtain⟨u',r',q⟩:=hl j y v' e1 e2 e3;refine⟨u',r',?_⟩;rcases q with q | ⟨k,c',e,z'⟩
    ·exact .inl q
    ·refine .inr ⟨k,c',e,z'.sameBut hs ?_⟩;rintro rfl;exact hj (Qkb hN e1 (I.ok.inj _ _ _ e hc ▸ hi))
  ·by_cases hcc:c'=c
   ·subst hcc;exact⟨_,hc'⟩
   ·obtain⟨w2,z2⟩:=I.cell y c' e;exact⟨w2,z2.sameBut hs hcc⟩
  ·obtain⟨e,n,ne,nf,d⟩:=I.pin p hp;refine⟨(hs.2 p.1 ?_).trans e,n,ne,nf,d⟩;intro q;rw[q,hoc] at e;have q':oc=p.2:=Qu e;exact d w' (by rw[<- q'];exact hocd)
theorem Qdi{M:QAa}{A:Je}{E:Value->Shared->Prop}{i:Nat}{x:Str}{v:V}{u:Value}{Q:Unit->Shared->Prop}(I:Inv X pins σ H s)(hN:X.N.Nodup)(hi:X.N[i]? = some x)(hx:Loc X.env.scope x)(r:RelV v u)
  (h:∀s',Inv X pins (σ.set i (some v)) H s'->Q () s')(hf:X.fn x=true∨X.env.scope.names.lookup x=some .local:=by first | exact .inl rfl | exact .inr rfl | assumption):wpAny M A (storeName X.env x u) Q E s:=
 Qhw I hN hi hx r (λs' I' _=>h s' I') hf
theorem Inv.call'{s':Shared}{ch:List Addr}(I:Inv X pins σ H s)(ho:s'.os=s.os)(u:Un (frs X.stack) ch H H' s.heap s'.heap)(hok:HOk X.prog X.w H' s'.heap)(hg:Qfq s'.gens)
  (hch:∀b∈ch,(b∈X.ex∨X.s₀.heap.objs.size<=b)/\b≠X.env.locals/\(∀x c,X.env.cells.lookup x=some c->c≠b)/\∀p∈X.pn++pins,p.1≠b):Inv X pins σ H' s':=by
 obtain⟨h',g',d',t',o'⟩:=s';have e:o'=s.os:=ho;subst e;exact I.call (g':=g') (t':=t') (d':=d') u hok hg hch
end
abbrev XK:=Value->Option Addr->Hp->Prop
abbrev St:=List (Option V)
abbrev VK:=V->Hp->Prop
abbrev TE:=St->Hp->VK->Prop
abbrev TT:=St->Hp->(Bool->Hp->Prop)->Prop
abbrev TA:=St->Hp->(List V->Hp->Prop)->Prop
structure Ends where
 nx:St->Hp->Prop
 rt:VK
 bk:St->Hp->Prop:=λ_ _=>False
 ct:St->Hp->Prop:=λ_ _=>False
abbrev TS:=Ends->St->Hp->Prop
def EP(X:Cx)(pins:List (Addr×Obj))(σ:St)(Q:VK)(u:Value)(s':Shared):Prop:=∃v H',Inv X pins σ H' s'/\RelV v u/\Q v H'
def TP(X:Cx)(pins:List (Addr×Obj))(σ:St)(Q:Bool->Hp->Prop)(b:Bool)(s':Shared):Prop:=∃H',Inv X pins σ H' s'/\Q b H'
def AP(X:Cx)(pins:List (Addr×Obj))(σ:St)(Q:List V->Hp->Prop)(us:List Value)(s':Shared):Prop:=∃vs H',Inv X pins σ H' s'/\Vals vs us/\Q vs H'
def SP(X:Cx)(pins:List (Addr×Obj))(D:Ends)(f:Flow)(s':Shared):Prop:=
 match f with
 |.next=>∃σ' H',Inv X pins σ' H' s'/\D.nx σ' H'
 |.brk=>∃σ' H',Inv X pins σ' H' s'/\D.bk σ' H'
 |.cont=>∃σ' H',Inv X pins σ' H' s'/\D.ct σ' H'
 |.ret u=>∃v σ' H',Inv X pins σ' H' s'/\RelV v u/\D.rt v H'
def PE(X:Cx)(e:Q2)(t:TE):Prop:=
 ∀(pins:List (Addr×Obj))(s:Shared)(σ:St)(H:Hp)(Q:VK),Inv X pins σ H s->t σ H Q->wpAny (model X.prog X.w) X.A (eval e X.env) (EP X pins σ Q) X.xe s
def PT(X:Cx)(e:Q2)(t:TT):Prop:=
 ∀(pins:List (Addr×Obj))(s:Shared)(σ:St)(H:Hp)(Q:Bool->Hp->Prop),Inv X pins σ H s->t σ H Q->wpAny (model X.prog X.w) X.A (isTrue e X.env (eval e X.env)) (TP X pins σ Q) X.xe s
def PW(X:Cx)(e:Q2)(t:TT):Prop:=
 ∀(whole:Sem Value)(pins:List (Addr×Obj))(s:Shared)(σ:St)(H:Hp)(Q:Bool->Hp->Prop),Inv X pins σ H s->t σ H Q->wpAny (model X.prog X.w) X.A (isTrue e X.env whole) (TP X pins σ Q) X.xe s
theorem PW.pt{X:Cx}{e:Q2}{t:TT}(h:PW X e t):PT X e t:=h _
def PA(X:Cx)(es:List Q2)(t:TA):Prop:=
 ∀(pos:Pos)(pins:List (Addr×Obj))(s:Shared)(σ:St)(H:Hp)(Q:List V->Hp->Prop),Inv X pins σ H s->t σ H Q->wpAny (model X.prog X.w) X.A (spliced (backTo pos (starEach es X.env))) (AP X pins σ Q) X.xe s
def PS(X:Cx)(st:Y7)(t:TS):Prop:=
 ∀(pins:List (Addr×Obj))(s:Shared)(σ:St)(H:Hp)(D:Ends),Inv X pins σ H s->t D σ H->wpAny (model X.prog X.w) X.A (exec st X.env) (SP X pins D) X.xe s
def PSs(X:Cx)(st:List Y7)(t:TS):Prop:=
 ∀(pins:List (Addr×Obj))(s:Shared)(σ:St)(H:Hp)(D:Ends),Inv X pins σ H s->t D σ H->wpAny (model X.prog X.w) X.A (execs st X.env) (SP X pins D) X.xe s
theorem thn{α:Type}{t:Sem α}{Q Q':α->Shared->Prop}{M:QAa}{A:Je}{E:Value->Shared->Prop}{s:Shared}(h:wpAny M A t Q E s)(hQ:∀a s,Q a s->Q' a s):wpAny M A t Q' E s:=wpAny_mono h hQ λ_ _ x=>x
section
variable{X:Cx}
theorem bin{a b:Q2}{ta tb:TE}(ha:PE X a ta)(hb:PE X b tb){pins:List (Addr×Obj)}{s:Shared}{σ:St}{H:Hp}{R:V->V->Hp->Prop}(I:Inv X pins σ H s)(h:ta σ H λx H1=>tb σ H1 λy H2=>R x y H2)
  {α:Type} {Q:α->Shared->Prop} {f:Value->Value->Sem α}
  (hf:∀v u s2 x y H2,Inv X pins σ H2 s2->RelV x v->RelV y u->R x y H2->wpAny (model X.prog X.w) X.A (f v u) Q X.xe s2) :
  wpAny (model X.prog X.w) X.A (eval a X.env) (λv s₁=>wpAny (model X.prog X.w) X.A (eval b X.env) (λu s₂=>wpAny (model X.prog X.w) X.A (f v u) Q X.xe s₂) X.xe s₁) X.xe s:=by
 refine thn (ha pins s σ H _ I h) λv s1 ⟨x,H1,I1,r1,q1⟩=>?_
 refine thn (hb pins s1 σ H1 _ I1 q1) λu s2 ⟨y,H2,I2,r2,q2⟩=>?_
 exact hf v u s2 x y H2 I2 r1 r2 q2
def QiK(i:Nat):TE:=λσ H Q=>∃v,σ[i]? = some (some v)/\Q v H
def tC(v:V):TE:=λ_ H Q=>Q v H
theorem QxI{i:Nat}{x:Str}{pos:Pos}(hN:X.N[i]? = some x)(hv:Vis X.env.scope x)(hd:(x == ("__debug__" : Str))=false:=by decide)(hcd:(x == ("__classdict__" : Str))=false:=by decide):PE X (.Name x pos) (QiK i):=by
 intro pins s σ H Q I h;obtain⟨v,e,h⟩:=h;obtain⟨m,hn,hl⟩:=I.loc;obtain⟨u,r,l⟩:=hl i x v hN e hv;have fin:EP X pins σ Q u s:=⟨v,H,I,r,h⟩;rcases l with⟨hk,hm⟩ | ⟨hk,c,hc,hcell⟩
 ·exact QzV (Qwf I.ok.kind hk hn hm fin) hd
 ·rcases hk with hk | hk
  ·exact QzV (Qwy I.ok.kind hk hc hcell fin) hd
  ·exact QzV (wpAny_loadName_free I.ok.kind hk hc hcell fin hcd) hd
theorem YI{i j pos}:PE X (.Constant (.int i) j pos) (tC (.int i)):=λ_ _ _ H _ I h=>wpAny_Constant_int ⟨.int i,H,I.tok _,⟨_,rfl⟩,h⟩
theorem QAL{b j pos}:PE X (.Constant (.bool b) j pos) (tC (.bl b)):=λ_ _ _ H _ I h=>Constant_bool ⟨.bl b,H,I,rfl,h⟩
theorem QxL{j pos}:PE X (.Constant .none j pos) (tC .non):=λ_ _ _ H _ I h=>Constant_none ⟨.non,H,I,rfl,h⟩
def Gl(X:Cx)(x:Str):Prop:=X.env.kindOf x=some .globalImplicit
theorem Qnv{E:Value->Shared->Prop}{pins:List (Addr×Obj)}{s:Shared}{σ:St}{H:Hp}{x:Str}{u:Value}{pos:Pos}{Q:Value->Shared->Prop}(I:Inv X pins σ H s)(hg:Gl X x)(hm:X.mg x=some u)(h:Q u s)
  (hd:(x == ("__debug__" : Str))=false:=by decide):wpAny (model X.prog X.w) X.A (eval (.Name x pos) X.env) Q E s:=
 Qhc I.ok.kind hg (Calls.loadGlobal_global (by rw[I.ok.glob];exact I.mod.glob.keeps I.bk) hm h) hd
theorem QcN{E:Value->Shared->Prop}{pins:List (Addr×Obj)}{s:Shared}{σ:St}{H:Hp}{x:Str}{u:Value}{pos:Pos}{Q:Value->Shared->Prop}(I:Inv X pins σ H s)(hg:Gl X x)(hm:X.mg x=none)(hv:bootBuiltins x=some u)(h:Q u s)
  (hn:x ≠ "__name__" := by decide)(hd:(x == ("__debug__" : Str))=false:=by decide):wpAny (model X.prog X.w) X.A (eval (.Name x pos) X.env) Q E s:=by
 obtain⟨mb,h1,h2⟩:=I.mod.blt;exact Qhc I.ok.kind hg (Calls.loadGlobal_builtin (by rw[I.ok.glob];exact I.mod.glob.keeps I.bk) hm (by rw[I.ok.blt];exact h1.keeps I.bk) ((h2 x hn).trans hv) h) hd
theorem Quo{x:Str}{v:V}{u:Value}{pos:Pos}(hg:Gl X x)(hm:X.mg x=some u)(r:RelV v u)(hd:(x == ("__debug__" : Str))=false:=by decide):PE X (.Name x pos) (tC v):=
 λ_ _ _ H _ I h=>Qnv I hg hm ⟨v,H,I,r,h⟩ hd
theorem Quq{x:Str}{v:V}{u:Value}{pos:Pos}(hg:Gl X x)(hm:X.mg x=none)(hv:bootBuiltins x=some u)(r:RelV v u)(hn:x ≠ "__name__" := by decide)(hd:(x == ("__debug__" : Str))=false:=by decide):PE X (.Name x pos) (tC v):=
 λ_ _ _ H _ I h=>QcN I hg hm hv ⟨v,H,I,r,h⟩ hn hd
variable{a b:Q2}{ta tb:TE}{pos:Pos}
def PC(X:Cx)(op:Qga)(a b:Q2)(t:TE):Prop:=
 ∀(pins:List (Addr×Obj))(s:Shared)(σ:St)(H:Hp)(Q:VK),Inv X pins σ H s->t σ H Q ->
  wpAny (model X.prog X.w) X.A (eval a X.env) (λv s₁=>wpAny (model X.prog X.w) X.A (eval b X.env) (λu s₂=>wpAny (model X.prog X.w) X.A (compareOp op v u) (EP X pins σ Q) X.xe s₂) X.xe s₁) X.xe s
theorem Qrq(b:Q2){op:Qga}(h:op≠.In)(h2:op≠.NotIn):behindInMarks op b=false:=by
 have e1:(op == CmpOp.In)=false:=by cases op<;>first | rfl | exact absurd rfl h
 have e2:(op == QAe)=false:=by cases op<;>first | rfl | exact absurd rfl h2
 cases b<;>simp[behindInMarks,e1,e2]
def tB(t:TE):TT:=λσ H Q=>t σ H λx H1=>∃c,x=.bl c/\Q c H1
theorem QBU{op:Qga}{t:TE}(h:PC X op a b t)(h1:behindInMarks op b=false:=by first | exact Qrq _ (by decide) (by decide) | rfl):PT X (.Compare a [op] [b] pos) (tB t):=by
 intro pins s σ H Q I hw;refine Qte (thn (h pins s σ H _ I hw) λv s1 h1=>thn h1 λu s2 h2=>thn h2 λc s3 ⟨x,H1,I1,r1,q1⟩=>?_) h1;obtain⟨d,rfl,q⟩:=q1;cases r1;exact JW ⟨H1,I1,q⟩
theorem QsL{e:Q2}{t:TE}(h:PE X e t)(he:∀whole,isTrue e X.env whole=(do let v <- whole;standAt e.pos;holding [v] (truthy v)):=by intro _;rfl):PT X e (tB t):=by
 intro pins s σ H Q I hw;refine isTrue_plain (thn (h pins s σ H _ I hw) λv s1 ⟨x,H1,I1,r1,q1⟩=>?_) (he _);obtain⟨d,rfl,q⟩:=q1;cases r1;exact JW ⟨H1,I1,q⟩
variable{tA tB':TT}{rest:List Q2}
def QBD(t u:TT):TT:=λσ H Q=>t σ H λc H1=>if c=true then u σ H1 Q else Q false H1
def tOr(t u:TT):TT:=λσ H Q=>t σ H λc H1=>if c=true then Q true H1 else u σ H1 Q
def QCu(t:TT):TT:=λσ H Q=>t σ H λc H1=>Q (!c) H1
theorem QmN(ha:PT X a tA):PW X (.BoolOp .And [a] pos) tA:=by
 intro wh pins s σ H Q I h;refine isTrue_and (thn (ha pins s σ H Q I h) λc s1 e=>?_);cases c with
 |true=>exact isTrue_and_nil e
 |false=>exact e
theorem QxA(ha:PT X a tA):PW X (.BoolOp .Or [a] pos) tA:=by
 intro wh pins s σ H Q I h;refine isTrue_or (thn (ha pins s σ H Q I h) λc s1 e=>?_);cases c with
 |false=>exact isTrue_or_nil e
 |true=>exact e
theorem QsK(ha:PT X a tA)(hb:PW X (.BoolOp .And (b::rest) pos) tB'):PW X (.BoolOp .And (a::b::rest) pos) (QBD tA tB'):=by
 intro wh pins s σ H Q I h;refine isTrue_and (thn (ha pins s σ H _ I h) λc s1 ⟨H1,I1,q1⟩=>?_);cases c with
 |true=>exact hb wh pins s1 σ H1 Q I1 q1
 |false=>exact⟨H1,I1,q1⟩
theorem QAG(ha:PT X a tA)(hb:PW X (.BoolOp .Or (b::rest) pos) tB'):PW X (.BoolOp .Or (a::b::rest) pos) (tOr tA tB'):=by
 intro wh pins s σ H Q I h;refine isTrue_or (thn (ha pins s σ H _ I h) λc s1 ⟨H1,I1,q1⟩=>?_);cases c with
 |true=>exact⟨H1,I1,q1⟩
 |false=>exact hb wh pins s1 σ H1 Q I1 q1
theorem QxB(ha:PT X a tA):PT X (.UnaryOp .Not a pos) (QCu tA):=by
 intro pins s σ H Q I h;exact isTrue_not (ha pins s σ H (λc H1=>Q (!c) H1) I h)
def QAq(ta tb:TE):TE:=λσ H Q=>ta σ H λx H1=>∃c,x=.bl c/\if c=true then tb σ H1 Q else Q (.bl false) H1
def QCt(ta tb:TE):TE:=λσ H Q=>ta σ H λx H1=>∃c,x=.bl c/\if c=true then Q (.bl true) H1 else tb σ H1 Q
def QAn(ta:TE):TE:=λσ H Q=>ta σ H λx H1=>∃c,x=.bl c/\Q (.bl (!c)) H1
theorem QxJ{op}{t:TE}(h:PE X a t):PE X (.BoolOp op [a] pos) t:=λpins s σ H Q I hw=>BoolOp_one (h pins s σ H Q I hw)
theorem QxN(ha:PE X a ta)(hb:PE X (.BoolOp .And (b::rest) pos) tb):PE X (.BoolOp .And (a::b::rest) pos) (QAq ta tb):=by
 intro pins s σ H Q I h;refine BoolOp_and (thn (ha pins s σ H _ I h) λv s1 ⟨x,H1,I1,r1,q1⟩=>?_);obtain⟨c,rfl,q1⟩:=q1;cases r1;refine JW ?_
 cases c with
 |true=>exact hb pins s1 σ H1 Q I1 q1
 |false=>exact⟨.bl false,H1,I1,rfl,q1⟩
theorem QAK(ha:PE X a ta)(hb:PE X (.BoolOp .Or (b::rest) pos) tb):PE X (.BoolOp .Or (a::b::rest) pos) (QCt ta tb):=by
 intro pins s σ H Q I h;refine BoolOp_or (thn (ha pins s σ H _ I h) λv s1 ⟨x,H1,I1,r1,q1⟩=>?_);obtain⟨c,rfl,q1⟩:=q1;cases r1;refine JW ?_
 cases c with
 |false=>exact hb pins s1 σ H1 Q I1 q1
 |true=>exact⟨.bl true,H1,I1,rfl,q1⟩
theorem QxK(ha:PE X a ta):PE X (.UnaryOp .Not a pos) (QAn ta):=by
 intro pins s σ H Q I h;refine UnaryOp_ (thn (ha pins s σ H _ I h) λv s1 ⟨x,H1,I1,r1,q1⟩=>?_);obtain⟨c,rfl,q1⟩:=q1;cases r1;exact not_of (JW ⟨.bl (!c),H1,I1,rfl,q1⟩)
end
def SqL(K:PySem.W.Frag)(H:Hp)(a:Addr)(xs:List V):Prop:=
 Rd H a (.lst xs) ∨
  ∃(o:Obj)(its:Array Value)(n:Nat),K.lookup a=some o/\o.cls=.type "list" /\ o.dict=none/\o.data=.seq its n/\its.size<=sizeLine/\Vals xs its.toList
def SqT(K:PySem.W.Frag)(H:Hp)(a:Addr)(xs:List V):Prop:=
 Rd H a (.tup xs) ∨
  ∃(o:Obj)(its:Array Value)(n:Nat),K.lookup a=some o/\o.cls=.type "tuple" /\ o.data=.seq its n/\its.size<=sizeLine/\Vals xs its.toList
def QCQ:Value->Option V
 |.none=>some .non
 |.bool b=>some (.bl b)
 |.int i _=>some (.int i)
 |.str x _=>some (.str x)
 |.bytes b _=>some (.byt b)
 |.float b _=>some (.flt b)
 |.ref a=>some (.ref a)
 |.type n=>some (.ty n)
 |_=>none
theorem RelV.abs{x:V}{u:Value}(r:RelV x u):QCQ u=some x:=by
 cases x with
 |non=>cases r;rfl
 |bl _=>cases r;rfl
 |int _=>obtain⟨t,rfl⟩:=r;rfl
 |str _=>obtain⟨t,rfl⟩:=r;rfl
 |byt _=>obtain⟨t,rfl⟩:=r;rfl
 |flt _=>obtain⟨t,rfl⟩:=r;rfl
 |ref _=>cases r;rfl
 |ty _=>cases r;rfl
theorem RelV.inj{x y:V}{u:Value}(r:RelV x u)(q:RelV y u):x=y:=Qu (r.abs.symm.trans q.abs)
theorem Vals.inj:∀{xs ys:List V}{us:List Value},Vals xs us->Vals ys us->xs=ys
 |_,_,_,.nil,.nil=>rfl
 |_,_,_,.cons r t,.cons r' t'=>by rw[r.inj r',Vals.inj t t']
section
variable{X:Cx}{pins:List (Addr×Obj)}{σ:St}{H:Hp}{s:Shared}{a:Addr}{xs ys:List V}
theorem SqL.of{K:PySem.W.Frag}(h:H a=some (.lst xs)):SqL K H a xs:=.inl (.inl h)
theorem SqT.of{K:PySem.W.Frag}(h:H a=some (.tup xs)):SqT K H a xs:=.inl (.inl h)
theorem Inv.list(I:Inv X pins σ H s)(h:SqL X.K H a xs):∃its:List Value,Vals xs its/\PlainL s.heap a its.toArray/\xs.length<=sizeLine:=by
 rcases h with h | ⟨o,its,n,hk,hc,hd,hs,hz,r⟩
 ·obtain⟨z,its,n,r,e⟩:=h.ok I.hok;exact⟨its,r,⟨_,n,e,rfl,rfl,rfl⟩,z⟩
 ·refine⟨its.toList,r,⟨o,n,I.kIn a o hk,hc,hd,by simpa using hs⟩,?_⟩;have e:=r.length;simp only[Qd] at e;omega
theorem Inv.tuple(I:Inv X pins σ H s)(h:SqT X.K H a xs):∃its:List Value,Vals xs its/\IsTup s.heap a its.toArray/\xs.length<=sizeLine:=by
 rcases h with h | ⟨o,its,n,hk,hc,hs,hz,r⟩
 ·obtain⟨z,its,r,p⟩:=h.ok I.hok;exact⟨its,r,p,z⟩
 ·refine⟨its.toList,r,⟨o,I.kIn a o hk,hc,n,by simpa using hs⟩,?_⟩;have e:=r.length;simp only[Qd] at e;omega
theorem Inv.list_inj(I:Inv X pins σ H s)(h:SqL X.K H a xs)(h':SqL X.K H a ys):xs=ys:=by
 obtain⟨its,r,⟨o,n,e,_,_,d⟩,_⟩:=I.list h;obtain⟨its',r',⟨o',n',e',_,_,d'⟩,_⟩:=I.list h';rw[e] at e';cases e';rw[d] at d';injection d' with d1 _
 have:its=its':=by simpa using congrArg QzC d1
 subst this;exact r.inj r'
theorem Inv.tuple_inj(I:Inv X pins σ H s)(h:SqT X.K H a xs)(h':SqT X.K H a ys):xs=ys:=by
 obtain⟨its,r,⟨o,e,_,n,d⟩,_⟩:=I.tuple h;obtain⟨its',r',⟨o',e',_,n',d'⟩,_⟩:=I.tuple h';rw[e] at e';cases e';rw[d] at d';injection d' with d1 _
 have:its=its':=by simpa using congrArg QzC d1
 subst this;exact r.inj r'
end
abbrev Cx.wish (X:Cx) (E:Value->Shared->Prop):Cx:={ X with xe:=E }
abbrev Cx.nox (X:Cx):Cx:=X.wish λ_ _=>False
theorem Cx.Ok.wish{X:Cx}(ok:X.Ok)(E:Value->Shared->Prop):(X.wish E).Ok:=
 ⟨ok.mod,ok.kind,ok.glob,ok.blt,ok.above,ok.inj,ok.has,ok.cab,ok.hd,ok.frames,ok.stk,ok.exf,ok.bs,ok.bsz,ok.noex,ok.exfs,ok.funs,ok.frf⟩
theorem Cx.Ok.unwish{X:Cx}{E:Value->Shared->Prop}(ok:(X.wish E).Ok):X.Ok:=
 ⟨ok.mod,ok.kind,ok.glob,ok.blt,ok.above,ok.inj,ok.has,ok.cab,ok.hd,ok.frames,ok.stk,ok.exf,ok.bs,ok.bsz,ok.noex,ok.exfs,ok.funs,ok.frf⟩
section
variable{X:Cx}{pins:List (Addr×Obj)}{σ:St}{H:Hp}{s:Shared}{E:Value->Shared->Prop}
theorem Inv.wish(I:Inv X pins σ H s)(E:Value->Shared->Prop):Inv (X.wish E) pins σ H s:=⟨I.ok.wish E,I.os,I.bare,I.base,I.loc,I.cell,I.free,I.freeC,I.pin,I.hok,I.len⟩
theorem Inv.unwish(I:Inv (X.wish E) pins σ H s):Inv X pins σ H s:=⟨I.ok.unwish,I.os,I.bare,I.base,I.loc,I.cell,I.free,I.freeC,I.pin,I.hok,I.len⟩
theorem SP.unwish{D:Ends}{f:Flow}{s':Shared}(h:SP (X.wish E) pins D f s'):SP X pins D f s':=by
 cases f with
 |next=>obtain⟨σ',H',I,q⟩:=h;exact⟨σ',H',I.unwish,q⟩
 |brk=>obtain⟨σ',H',I,q⟩:=h;exact⟨σ',H',I.unwish,q⟩
 |cont=>obtain⟨σ',H',I,q⟩:=h;exact⟨σ',H',I.unwish,q⟩
 |ret u=>obtain⟨v,σ',H',I,r,q⟩:=h;exact⟨v,σ',H',I.unwish,r,q⟩
theorem PE.nox{e:Q2}{t:TE}(h:PE X.nox e t):PE X e t:=λpins s σ H Q I hw=>
 wpAny_mono (h pins s σ H Q (I.wish _) hw) (λ_ _ ⟨v,H',I',r,q⟩=>⟨v,H',I'.unwish,r,q⟩) λ_ _ z=>Ys z
theorem PT.nox{e:Q2}{t:TT}(h:PT X.nox e t):PT X e t:=λpins s σ H Q I hw=>
 wpAny_mono (h pins s σ H Q (I.wish _) hw) (λ_ _ ⟨H',I',q⟩=>⟨H',I'.unwish,q⟩) λ_ _ z=>Ys z
theorem PSs.nox{st:List Y7}{t:TS}(h:PSs X.nox st t):PSs X st t:=λpins s σ H D I hw=>
 wpAny_mono (h pins s σ H D (I.wish _) hw) (λ_ _ q=>q.unwish) λ_ _ z=>Ys z
end
section
variable{X:Cx}{st:Y7}{rest:List Y7}{t u:TS}{e:Q2}{te:TE}{pos:Pos}
def QAo:TS:=λD σ H=>D.nx σ H
def QCr(t u:TS):TS:=λD σ H=>t { D with nx:=u D } σ H
theorem QiZ:PSs X [] QAo:=λ_ _ σ H _ I h=>QkR ⟨σ,H,I,h⟩
theorem Qaj(h1:PS X st t)(h2:PSs X rest u):PSs X (st::rest) (QCr t u):=by
 intro pins s σ H D I h;refine wpAny_execs_cons (thn (h1 pins s σ H { D with nx:=u D } I h) λf s1 q=>?_);cases f with
 |next=>
  obtain⟨σ',H',I',q⟩:=q;exact h2 pins s1 σ' H' D I' q
 |ret v=>exact q
 |brk=>exact q
 |cont=>exact q
theorem Qcc(h1:PS X st t):PSs X [st] t:=by
 intro pins s σ H D I h;refine wpAny_execs_cons (thn (h1 pins s σ H D I h) λf s1 q=>?_);cases f with
 |next=>exact QkR q
 |ret v=>exact q
 |brk=>exact q
 |cont=>exact q
theorem Inv.quiet{pins:List (Addr×Obj)}{σ:St}{H:Hp}{s:Shared}(I:Inv X pins σ H s):interactive X.env=false:=by simp[interactive,I.ok.kind]
def QtK(te:TE):TS:=λD σ H=>te σ H λ_ H1=>D.nx σ H1
theorem QmQ(he:PE X e te)(hs:swapsWith e none pos.line X.env=pure false:=by rfl):PS X (.Expr e pos) (QtK te):=by
 intro pins s σ H D I h;exact wpAny_Expr_any (thn (he pins s σ H _ I h) λv s1 ⟨x,H1,I1,r1,q1⟩=>⟨σ,H1,I1,q1⟩) I.quiet hs
def QCs(te:TE):TS:=λD σ H=>te σ H D.rt
theorem Qdo(he:PE X e te):PS X (.Return (some e) pos) (QCs te):=by
 intro pins s σ H D I h;exact wpAny_Return_some (thn (he pins s σ H _ I h) λv s1 ⟨x,H1,I1,r1,q1⟩=>⟨x,σ,H1,I1,r1,q1⟩)
def QCw(c:TT)(t u:TS):TS:=λD σ H=>c σ H λb H1=>if b=true then t D σ H1 else u D σ H1
theorem Quc{c:Q2}{a b:List Y7}{tc:TT}(hc:PT X c tc)(ha:PSs X a t)(hb:PSs X b u):PS X (.If c a b pos) (QCw tc t u):=by
 intro pins s σ H D I h;refine wpAny_If (thn (hc pins s σ H _ I h) λd s1 ⟨H1,I1,q1⟩=>?_);cases d with
 |true=>exact ha pins s1 σ H1 D I1 q1
 |false=>exact hb pins s1 σ H1 D I1 q1
end
abbrev TG:=V->St->Hp->(St->Hp->Prop)->Prop
abbrev TGs:=List V->St->Hp->(St->Hp->Prop)->Prop
def PG(X:Cx)(target:Q2)(t:TG):Prop:=
 ∀(pins:List (Addr×Obj))(s:Shared)(σ:St)(H:Hp)(v:V)(u:Value)(Q:St->Hp->Prop),Inv X pins σ H s->RelV v u->t v σ H Q ->
  wpAny (model X.prog X.w) X.A (assign target X.env u) (λ_ s'=>∃σ' H',Inv X pins σ' H' s'/\Q σ' H') X.xe s
def PGs(X:Cx)(ts:List Q2)(t:TGs):Prop:=
 ∀(pins:List (Addr×Obj))(s:Shared)(σ:St)(H:Hp)(vs:List V)(us:List Value)(Q:St->Hp->Prop),Inv X pins σ H s->Vals vs us->t vs σ H Q ->
  wpAny (model X.prog X.w) X.A (assignInOrder ((assignEach ts X.env).map (·.2)) us) (λ_ s'=>∃σ' H',Inv X pins σ' H' s'/\Q σ' H') X.xe s
abbrev TSet:=V->V->V->Hp->(Hp->Prop)->Prop
def QBw(X:Cx)(t:TSet):Prop:=
 ∀(pins:List (Addr×Obj))(s:Shared)(σ:St)(H:Hp)(o i v:V)(ov iv u:Value)(Q:Hp->Prop),Inv X pins σ H s->RelV o ov->RelV i iv->RelV v u->t o i v H Q ->
  wpAny (model X.prog X.w) X.A (setItem ov iv u) (λ_ s'=>∃H',Inv X pins σ H' s'/\Q H') X.xe s
abbrev TIp:=V->V->Hp->VK->Prop
def PIp(X:Cx)(op:Qco)(t:TIp):Prop:=
 ∀(pins:List (Addr×Obj))(s:Shared)(σ:St)(H:Hp)(x y:V)(v u:Value)(Q:VK),Inv X pins σ H s->RelV x v->RelV y u->t x y H Q ->
  wpAny (model X.prog X.w) X.A (inplaceOp op v u) (EP X pins σ Q) X.xe s
section
variable{X:Cx}{pos:Pos}
def Qer(i:Nat):TG:=λv σ H Q=>Q (σ.set i (some v)) H
theorem QeX{i:Nat}{x:Str}(hN:X.N.Nodup)(hi:X.N[i]? = some x)(hx:Loc X.env.scope x)(hf:X.fn x=true∨X.env.scope.names.lookup x=some .local:=by first | exact .inl rfl | exact .inr rfl | assumption):PG X (.Name x pos) (Qer i):=by
 intro pins s σ H v u Q I r h;exact QzU (Qdi I hN hi hx r (λs' I'=>⟨_,H,I',h⟩) hf)
def QBZ:TGs:=λvs σ H Q=>vs=[]/\Q σ H
def QyL(t:TG)(u:TGs):TGs:=λvs σ H Q=>∃v r,vs=v::r/\t v σ H λσ' H'=>u r σ' H' Q
theorem Qul:PGs X [] QBZ:=by
 intro pins s σ H vs us Q I r h;obtain⟨e,h⟩:=h;subst e;cases r;exact QzY ⟨σ,H,I,h⟩
theorem QpO{e:Q2}{es:List Q2}{t:TG}{u:TGs}(h1:PG X e t)(h2:PGs X es u)
  (hs:(assignEach (e::es) X.env).map (·.2)=assign e X.env::(assignEach es X.env).map (·.2):=by rfl):PGs X (e::es) (QyL t u):=by
 intro pins s σ H vs us Q I r h;obtain⟨v,vr,e1,h⟩:=h;subst e1;cases r with
 |cons r rr=>
  rw[hs];refine Qf3 (thn (h1 pins s σ H _ _ _ I r h) λ_ s1 ⟨σ1,H1,I1,q1⟩=>?_);exact h2 pins s1 σ1 H1 _ _ Q I1 rr q1
def QBY(K:PySem.W.Frag)(n:Nat)(t:TGs):TG:=λv σ H Q=>∃a xs,v=.ref a/\SqT K H a xs/\xs.length=n/\t xs σ H Q
theorem QxG{es:List Q2}{k:Nat}{t:TGs}{n:Nat}(hc:X.calm=true)(h:PGs X es t)
  (hn:(assignEach es X.env).length=n:=by rfl)(hst:(assignEach es X.env).findIdx? (·.1)=none:=by rfl):PG X (.Tuple es k pos) (QBY X.K n t):=by
 intro pins s σ H v u Q I r hw;obtain⟨a,xs,e1,hq,hl,hw⟩:=hw;subst e1;cases r;obtain⟨its,rv,ht,hz⟩:=I.tuple hq;refine assign_Tuple_tuple (I.ok.hd hc) ht (by simp[hn,<- hl,rv.length]) hst λh' hx=>?_
 have I1:Inv X pins σ H { s with heap:=h' }:=I.kept (t':=s.toks) λb o e=>hx b o (QH (Qp e)) e
 exact h pins _ σ H xs _ Q I1 (by simpa using rv) hw
def gSub(to ti:TE)(t:TSet):TG:=λv σ H Q=>to σ H λo H1=>ti σ H1 λi H2=>t o i v H2 λH3=>Q σ H3
theorem QxH{o i:Q2}{to ti:TE}{t:TSet}(ho:PE X o to)(hi:PE X i ti)(hs:QBw X t)
  (ha:∀v,assign (.Subscript o i pos) X.env v=(do
   let ov <- holding [v] (eval o X.env)
   let iv <- holding [v,ov] (eval i X.env)
   standAt pos
   holding [v,ov,iv] (setItem ov iv v)
   release [v,ov,iv] []):=by intro _;rfl):PG X (.Subscript o i pos) (gSub to ti t):=by
 intro pins s σ H v u Q I r h;rw[ha];refine wpAny_bind (Za (thn (ho pins s σ H _ I h) λov s1 ⟨x,H1,I1,r1,q1⟩=>?_));refine wpAny_bind (Za (thn (hi pins s1 σ H1 _ I1 q1) λiv s2 ⟨y,H2,I2,r2,q2⟩=>?_));refine wpAny_bind (wpAny_standAt (wpAny_bind (Za (thn (hs pins s2 σ H2 x y v ov iv u _ I2 r1 r2 r q2) λ_ s3 ⟨H3,I3,q3⟩=>?_))));exact wpAny_release ⟨σ,H3,I3,q3⟩
def Qpj(te:TE)(g:TG):TS:=λD σ H=>te σ H λx H1=>g x σ H1 D.nx
theorem QsN{tg e:Q2}{te:TE}{g:TG}(he:PE X e te)(hg:PG X tg g)(hs:swapsWithSole [tg] e pos.line X.env=pure false:=by rfl)(hw:swappedStores [tg] e X.env=pure none:=by rfl)
  (h1:(assignEach [tg] X.env).map (·.2)=[assign tg X.env]:=by rfl):PS X (.Assign [tg] e pos) (Qpj te g):=by
 intro pins s σ H D I h;refine wpAny_Assign_stores (thn (he pins s σ H _ I h) λv s1 ⟨x,H1,I1,r1,q1⟩=>?_) hs hw;rw[h1];exact thn (hg pins s1 σ H1 x v _ I1 r1 q1) λ_ s2 q=>q
theorem Qdn{i:Nat}{x:Str}{e:Q2}{te:TE}{pos':Pos}(hN:X.N.Nodup)(hi:X.N[i]? = some x)(hx:Loc X.env.scope x)(he:PE X e te)(hs:swapsWith e (some (.Name x pos')) pos.line X.env=pure false:=by rfl)(hf:X.fn x=true∨X.env.scope.names.lookup x=some .local:=by first | exact .inl rfl | exact .inr rfl | assumption) :
  PS X (.Assign [.Name x pos'] e pos) (Qpj te (Qer i)):=by
 intro pins s σ H D I h;refine wpAny_Assign_Name (thn (he pins s σ H _ I h) λv s1 ⟨y,H1,I1,r1,q1⟩=>?_) hs;exact Qdi I1 hN hi hx r1 (λs2 I2=>⟨_,H1,I2,q1⟩) hf
def QBB(i j:Nat)(ta:TA):TS:=λD σ H=>ta σ H λvs H1=>∃v w,vs=[v,w]/\D.nx ((σ.set i (some v)).set j (some w)) H1
theorem QxC{i j:Nat}{x y:Str}{a b:Q2}{ta:TA}{px py pt:Pos}{kt k2 pt2}(hc:X.calm=true)(hN:X.N.Nodup)(hi:X.N[i]? = some x)(hj:X.N[j]? = some y)(hij:i≠j)
  (hx:X.env.scope.names.lookup x=some .local)(hy:X.env.scope.names.lookup y=some .local)(ha:PA X [a,b] ta)
  (hw:swappedStores [.Tuple [.Name x px,.Name y py] kt pt] (.Tuple [a,b] k2 pt2) X.env=pure (some [x,y]))
  (hs:swapsWithSole [.Tuple [.Name x px,.Name y py] kt pt] (.Tuple [a,b] k2 pt2) pos.line X.env=pure false:=by rfl) :
  PS X (.Assign [.Tuple [.Name x px,.Name y py] kt pt] (.Tuple [a,b] k2 pt2) pos) (QBB i j ta):=by
 intro pins s σ H D I h;rw[exec_Assign_arm];refine wpAny_bind (wpAny_standAt ?_);rw[hs];refine wpAny_bind (wpAny_pure ?_);rw[if_neg (by decide)];refine wpAny_bind (Tuple_ (thn (ha _ pins s σ H _ I h) λus s1 ⟨vs,H1,I1,r1,q1⟩=>?_));obtain⟨v,w,e1,q1⟩:=q1;subst e1;obtain⟨u1,u2,rfl,rv,rw'⟩:∃u1 u2,us=[u1,u2]/\RelV v u1/\RelV w u2:=by
  cases r1 with
  |cons p q=>
   cases q with
   |cons p' q'=>
    cases q';exact⟨_,_,rfl,p,p'⟩
 refine JC ?_ (by show 2<=sizeLine;decide)
 have I2:Inv X pins σ H1 { s1 with heap:=s1.heap.push { cls:=.type "tuple",data:=.seq [u1,u2].toArray } }:=I1.kept (t':=s1.toks) λb o e=>Qe _ e
 rw[hw];refine wpAny_bind (wpAny_pure ?_);show wpAny (model X.prog X.w) X.A (do rule "assign.swapped-stores";let items <- unpackItems (.ref s1.heap.objs.size) 2 none;assignInOrder [λv=>bindName X.env y v,λv=>bindName X.env x v] items.reverse;pure Flow.next) _ _ _;refine wpAny_bind (wpAny_rule (wpAny_bind (unpackItems_tuple (items:=#[u1,u2]) (I.ok.hd hc) (Qk1 s1.heap _) λh' hx'=>?_)));have I3:=I2.kept (h':=h') (t':=s1.toks) λb o e=>hx' b o (QH (Qp e)) e
 show wpAny _ _ (assignInOrder [λv=>bindName X.env y v,λv=>bindName X.env x v] [u2,u1] >>= λ_=>pure Flow.next) _ _ _;refine wpAny_bind (Qf3 (wpAny_bindName (Qdi I3 hN hj (.inl hy) rw' (λs2 I4=>?_) (.inr hy))));refine Qf3 (wpAny_bindName (Qdi I4 hN hi (.inl hx) rv (λs3 I5=>QzY (wpAny_pure ?_)) (.inr hx)));rw[List.set_comm _ _ (Qb0 hij)] at I5;exact⟨_,H1,I5,q1⟩
def QBC(i:Nat)(te:TE)(ti:TIp):TS:=λD σ H=>∃x,σ[i]? = some (some x)/\te σ H λy H1=>ti x y H1 λz H2=>D.nx (σ.set i (some z)) H2
theorem QxD{i:Nat}{x:Str}{e:Q2}{te:TE}{op:Qco}{ti:TIp}{pos':Pos}(hN:X.N.Nodup)(hi:X.N[i]? = some x)(hx:Loc X.env.scope x)(he:PE X e te)(ho:PIp X op ti)(hf:X.fn x=true∨X.env.scope.names.lookup x=some .local:=by first | exact .inl rfl | exact .inr rfl | assumption) :
  PS X (.AugAssign (.Name x pos') op e pos) (QBC i te ti):=by
 intro pins s σ H D I h;obtain⟨v,e1,h⟩:=h;obtain⟨m,hn,hl⟩:=I.loc;have vis:Vis X.env.scope x:=by rcases hx with k | k;exact .inl k;exact .inr (.inl k)
 obtain⟨u,r,l⟩:=hl i x v hi e1 vis;refine wpAny_AugAssign_Name ?_
 have go:wpAny (model X.prog X.w) X.A (eval e X.env) (λw s₂=>wpAny (model X.prog X.w) X.A (inplaceOp op u w) (λr s₃=>wpAny (model X.prog X.w) X.A (storeName X.env x r) (λ_=>SP X pins D .next) X.xe s₃) X.xe s₂) X.xe s:=by
  refine thn (he pins s σ H _ I h) λw s1 ⟨y,H1,I1,r1,q1⟩=>?_
  refine thn (ho pins s1 σ H1 v y u w _ I1 r r1 q1) λz s2 ⟨zv,H2,I2,r2,q2⟩=>?_
  exact Qdi I2 hN hi hx r2 (λs3 I3=>⟨_,H2,I3,q2⟩) hf
 rcases l with⟨hk,hm⟩ | ⟨hk,c,hc,hcell⟩
 ·exact Qwf I.ok.kind hk hn hm go
 ·rcases hk with hk | hk
  ·exact Qwy I.ok.kind hk hc hcell go
  ·rcases hx with k | k
   ·have:X.env.scope.names.lookup x=some .free:=hk;rw[k] at this;cases this
   ·have:X.env.scope.names.lookup x=some .free:=hk;rw[k] at this;cases this
def Qw1(to ti te:TE)(tget:V->V->Hp->VK->Prop)(tip:TIp)(tset:TSet):TS:=λD σ H=>to σ H λo H1=>ti σ H1 λi H2=>tget o i H2 λx H3=>te σ H3 λy H4=>tip x y H4 λz H5=>tset o i z H5 λH6=>D.nx σ H6
def QCk(X:Cx)(t:V->V->Hp->VK->Prop):Prop:=
 ∀(pins:List (Addr×Obj))(s:Shared)(σ:St)(H:Hp)(o i:V)(ov iv:Value)(Q:VK),Inv X pins σ H s->RelV o ov->RelV i iv->t o i H Q ->
  wpAny (model X.prog X.w) X.A (getItem ov iv) (EP X pins σ Q) X.xe s
theorem Qud{o i e:Q2}{to ti te:TE}{tget:V->V->Hp->VK->Prop}{tip:TIp}{tset:TSet}{op:Qco}{tpos:Pos}(ho:PE X o to)(hi:PE X i ti)(hg:QCk X tget)(he:PE X e te)(hp:PIp X op tip)(hs:QBw X tset)
  (ha:∀ov iv new,augStore i ov iv new=(do holding [new,ov,iv] (setItem ov iv new);release [new,ov,iv] [];pure .next):=by intros;rfl):PS X (.AugAssign (.Subscript o i tpos) op e pos) (Qw1 to ti te tget tip tset):=by
 intro pins s σ H D I h;refine wpAny_AugAssign_SubscriptAny (thn (ho pins s σ H _ I h) λov s1 ⟨x1,H1,I1,r1,q1⟩=>?_) ha;refine thn (hi pins s1 σ H1 _ I1 q1) λiv s2 ⟨x2,H2,I2,r2,q2⟩=>?_
 refine thn (hg pins s2 σ H2 x1 x2 ov iv _ I2 r1 r2 q2) λold s3 ⟨x3,H3,I3,r3,q3⟩=>?_
 refine thn (he pins s3 σ H3 _ I3 q3) λv s4 ⟨x4,H4,I4,r4,q4⟩=>?_
 refine thn (hp pins s4 σ H4 x3 x4 old v _ I4 r3 r4 q4) λnew s5 ⟨x5,H5,I5,r5,q5⟩=>?_
 exact thn (hs pins s5 σ H5 x1 x2 x5 ov iv new _ I5 r1 r2 r5 q5) λ_ s6 ⟨H6,I6,q6⟩=>⟨σ,H6,I6,q6⟩
def ipI(f:Int->Int->Int):TIp:=λx y H Q=>∃i j,x=.int i/\y=.int j/\Q (.int (f i j)) H
theorem QyE:PIp X .Add (ipI λi j=>i+j):=by
 intro pins s σ H x y v u Q I r1 r2 h;obtain⟨i,j,e1,e2,q⟩:=h;subst e1;subst e2;obtain⟨t,rfl⟩:=r1;obtain⟨t',rfl⟩:=r2;exact iadd_int ⟨.int _,H,I.tok _,⟨_,rfl⟩,q⟩
end
section
variable{X:Cx}{pos:Pos}
end
structure It where
 go:Nat->Hp->Prop
 yld:Nat->Hp->V->Hp->Prop
 stop:Nat->Hp->Prop
def FpOk(X:Cx)(pins:List (Addr×Obj))(H:Hp)(b:Addr):Prop:=
 H b=none/\b≠X.env.locals/\b∉X.fs/\(b∈X.ex∨X.s₀.heap.objs.size<=b)/\(∀x c,X.env.cells.lookup x=some c->c≠b)/\∀p∈X.pn++pins,p.1≠b
theorem Inv.fpOk{X:Cx}{pins:List (Addr×Obj)}{σ:St}{H H':Hp}{s:Shared}{b:Addr}(I:Inv X pins σ H s)(hb:s.heap.objs.size<=b)(hn:H' b=none):FpOk X pins H' b:=by
 refine⟨hn,QaO (QY I.lt hb),I.nofs hb,.inr (Jk I.sz hb),λx c e z=>?_,λp hp z=>?_⟩
 ·obtain⟨v,q⟩:=I.cell x c e;exact absurd (QY q.lt (by rw[z];exact hb)) (Y0 _)
 ·exact absurd (QY (Qp (I.pin p hp).1) (by rw[z];exact hb)) (Y0 _)
structure Turn (P:QD) (w:Jl) (K:PySem.W.Frag) (tg:Q2) (J:It) (fp:List Addr) (it:Addr) (tn:Nat->Heap->Prop):Prop where
 mem:it∈fp
 obj:∀i h,tn i h->∀b∈fp,∃o,h.get? b=some o/\∀v,o.data≠.cell v
 keep:∀i h h',tn i h->(∀b∈fp,∀o,h.get? b=some o->h'.get? b=some o)->tn i h'
 item:∀(X:Cx),X.prog=P->X.w=w->X.K=K->X.calm=true->∀(i:Nat)(pins:List (Addr×Obj))(s:Shared)(σ:St)(H:Hp)(E:Value->Shared->Prop),Inv X pins σ H s->(∀b∈fp,FpOk X pins H b)->tn i s.heap->J.go i H ->
  wpAny (model P w) X.A (pyNext (.ref it)) (λr s1=>∃u,r=some u /\
   wpAny (model P w) X.A (letOwnedTupleGo tg (.ref it) u) (λ_ s2=>∃x H',Inv X pins σ H' s2/\RelV x u/\J.yld i H x H'/\tn (i+1) s2.heap/\∀b∈fp,H' b=none) E s1) E s
 done:∀(X:Cx),X.prog=P->X.w=w->X.K=K->X.calm=true->∀(i:Nat)(pins:List (Addr×Obj))(s:Shared)(σ:St)(H:Hp)(E:Value->Shared->Prop),Inv X pins σ H s->(∀b∈fp,FpOk X pins H b)->tn i s.heap->J.stop i H ->
  wpAny (model P w) X.A (pyNext (.ref it)) (λr s1=>r=none/\Inv X pins σ H s1) E s
 self:∀(A:Je)(i:Nat)(s:Shared)(Q:Value->Shared->Prop)(E:Value->Shared->Prop),tn i s.heap->Q (.ref it) s->wpAny (model P w) A (pyIter (.ref it)) Q E s
abbrev TI:=St->Hp->(It->Hp->Prop)->Prop
def PIE(X:Cx)(pins:List (Addr×Obj))(σ:St)(tg:Q2)(R:It->Hp->Prop)(itv:Value)(s2:Shared):Prop:=
 ∃(it:Addr)(fp:List Addr)(tn:Nat->Heap->Prop)(J:It)(H':Hp),itv=.ref it/\Inv X pins σ H' s2/\Turn X.prog X.w X.K tg J fp it tn/\tn 0 s2.heap/\(∀b∈fp,FpOk X pins H' b)/\R J H'
def PI(X:Cx)(tg iter:Q2)(wi:TI):Prop:=
 ∀(pins:List (Addr×Obj))(s:Shared)(σ:St)(H:Hp)(R:It->Hp->Prop),Inv X pins σ H s->wi σ H R ->
  wpAny (model X.prog X.w) X.A (eval iter X.env) (λv s1=>wpAny (model X.prog X.w) X.A (pyIter v) (PIE X pins σ tg R) X.xe s1) X.xe s
theorem QrM{M:QAa}{A:Je}{E:Value->Shared->Prop}{s:Shared}{tg:Q2}{it:Addr}{u:Value}{o:Obj}{n:String}{vs:Array Value}{Q:Unit->Shared->Prop}(ho:s.heap.get? it=some o)(hc:o.cls=.type n)(hd:o.data=.fields vs)
  (hn:["enumerate", "zip", "dict_itemiterator", "dict_reverseitemiterator", "odict_iterator", "itertools.zip_longest", "itertools.pairwise"].contains n=false)(hQ:Q () s):wpAny M A (letOwnedTupleGo tg (.ref it) u) Q E s:=by
 unfold letOwnedTupleGo;cases tg<;>first
  |exact wpAny_pure hQ
  |(cases u<;>first
    |exact wpAny_pure hQ
    |(refine wpAny_bind (wpAny_load ho ?_)
      rw[hc,hd];show wpAny M A (if(["enumerate", "zip", "dict_itemiterator", "dict_reverseitemiterator", "odict_iterator", "itertools.zip_longest", "itertools.pairwise"].contains n&&vs[0]? == some (rawInt _))=true then _ else _) Q E s;rw[if_neg (by intro h;rw[hn,Bool.false_and] at h;cases h)];exact wpAny_pure hQ))
def Itl(K:PySem.W.Frag)(a:Addr):It:=
 ⟨λi H=>∃xs x,SqL K H a xs/\xs[i]? = some x,λi H x H'=>H'=H/\∀xs,SqL K H a xs->xs[i]? = some x,λi H=>∃xs,SqL K H a xs/\xs.length<=i⟩
def Itt(K:PySem.W.Frag)(a:Addr):It:=
 ⟨λi H=>∃xs x,SqT K H a xs/\xs[i]? = some x,λi H x H'=>H'=H/\∀xs,SqT K H a xs->xs[i]? = some x,λi H=>∃xs,SqT K H a xs/\xs.length<=i⟩
def Itr(lo:Int)(n:Nat):It:=⟨λi _=>i<n,λi H x H'=>H'=H/\x=.int (lo+i),λi _=>n<=i⟩
theorem Qmb{P:QD}{w:Jl}{K:PySem.W.Frag}{tg:Q2}(a it:Addr):Turn P w K tg (Itl K a) [it] it (λi h=>h.IsListIter it a i) where
 mem:=by simp
 obj:=λi h st b hb=>by
  have e:b=it:=by simpa using hb
  subst e;obtain⟨o,e,c,d⟩:=st;exact⟨o,e,λv z=>by rw[d] at z;cases z⟩
 keep:=λi h h' st k=>st.at λo e=>k it (by simp) o e
 item:=by
  intro X hP hw hK hc i pins s σ H E I hf st hg;subst hP hw hK;obtain⟨xs,x,hq,hx⟩:=hg;obtain⟨its,rv,p,hz⟩:=I.list hq;obtain⟨u,hu,ru⟩:=rv.get hx;obtain⟨f0,f1,f2,f3,f4,f5⟩:=hf it (by simp);refine wpAny_pyNext_list_item st p.isList (x:=u) (by simpa using hu) λh' st' sb=>?_
  have I1:Inv X pins σ H { s with heap:=h' }:=I.turned (t':=s.toks) (λb o hb e=>(sb.2 b hb).trans e) f0 f1 f3 f4 f5;obtain⟨o,e,c,d⟩:=id st';exact⟨u,rfl,QrM (s:={ s with heap:=h' }) e c d (by decide) ⟨x,H,I1,ru,⟨rfl,λys hy=>by rw[I.list_inj hy hq];exact hx⟩,st',λb hb=>(hf b hb).1⟩⟩
 done:=by
  intro X hP hw hK hc i pins s σ H E I hf st hg;subst hP hw hK;obtain⟨xs,hq,hx⟩:=hg;obtain⟨its,rv,p,hz⟩:=I.list hq;obtain⟨f0,f1,f2,f3,f4,f5⟩:=hf it (by simp);have hl:=rv.length;exact wpAny_pyNext_list_end (I.ok.hd hc) st p.isList (by simp;omega) λh' eb=>⟨rfl,I.turned (t':=s.toks) (λb o hb e=>eb b o hb e) f0 f1 f3 f4 f5⟩
 self:=λ_ _ _ _ _ st h=>wpAny_pyIter_listiter st h
theorem Qk3{P:QD}{w:Jl}{K:PySem.W.Frag}{tg:Q2}(a it:Addr):Turn P w K tg (Itt K a) [it] it (λi h=>h.IsTupleIter it a i) where
 mem:=by simp
 obj:=λi h st b hb=>by
  have e:b=it:=by simpa using hb
  subst e;obtain⟨o,e,c,d⟩:=st;exact⟨o,e,λv z=>by rw[d] at z;cases z⟩
 keep:=λi h h' st k=>st.at λo e=>k it (by simp) o e
 item:=by
  intro X hP hw hK hc i pins s σ H E I hf st hg;subst hP hw hK;obtain⟨xs,x,hq,hx⟩:=hg;obtain⟨its,rv,p,hz⟩:=I.tuple hq;obtain⟨u,hu,ru⟩:=rv.get hx;obtain⟨f0,f1,f2,f3,f4,f5⟩:=hf it (by simp);refine wpAny_pyNext_tuple_item st (show s.heap.IsTuple a its.toArray from p) (x:=u) (by simpa using hu) λh' st' sb=>?_
  have I1:Inv X pins σ H { s with heap:=h' }:=I.turned (t':=s.toks) (λb o hb e=>(sb.2 b hb).trans e) f0 f1 f3 f4 f5;obtain⟨o,e,c,d⟩:=id st';exact⟨u,rfl,QrM (s:={ s with heap:=h' }) e c d (by decide) ⟨x,H,I1,ru,⟨rfl,λys hy=>by rw[I.tuple_inj hy hq];exact hx⟩,st',λb hb=>(hf b hb).1⟩⟩
 done:=by
  intro X hP hw hK hc i pins s σ H E I hf st hg;subst hP hw hK;obtain⟨xs,hq,hx⟩:=hg;obtain⟨its,rv,p,hz⟩:=I.tuple hq;obtain⟨f0,f1,f2,f3,f4,f5⟩:=hf it (by simp);have hl:=rv.length;exact wpAny_pyNext_tuple_end (I.ok.hd hc) st (show s.heap.IsTuple a its.toArray from p) (by simp;omega) λh' eb=>⟨rfl,I.turned (t':=s.toks) (λb o hb e=>eb b o hb e) f0 f1 f3 f4 f5⟩
 self:=λ_ _ _ _ _ st h=>wpAny_pyIter_tupleiter st h
theorem Qk4{P:QD}{w:Jl}{K:PySem.W.Frag}{tg:Q2}(it:Addr)(lo:Int)(n:Nat):Turn P w K tg (Itr lo n) [it] it (λi h=>Qk2 h it (lo+(i:Nat)*1) ((n:Int) - (i:Nat)) 1) where
 mem:=by simp
 obj:=λi h st b hb=>by
  have e:b=it:=by simpa using hb
  subst e;exact⟨_,st,λv z=>by
   have z':Data.fields _=Data.cell v:=z;cases z'⟩
 keep:=λi h h' st k=>k it (by simp) _ st
 item:=by
  intro X hP hw hK hc i pins s σ H E I hf st hg;subst hP hw hK;obtain⟨f0,f1,f2,f3,f4,f5⟩:=hf it (by simp);have W:=QzZ (prog:=X.prog) (w:=X.w) (I.ok.hd hc) it lo 1 n;refine W.item i s _ _ hg st λv h' tk hv st' kk=>?_
  obtain⟨t,rfl⟩:=hv;have I1:Inv X pins σ H { s with heap:=h',toks:=tk }:=I.turned (λb o hb e=>kk b o (by simpa using hb) e) f0 f1 f3 f4 f5;refine⟨_,rfl,QrM (s:={ s with heap:=h',toks:=tk }) (n := "range_iterator") st' rfl rfl (by decide) ⟨.int (lo+i),H,I1,⟨t,?_⟩,⟨rfl,rfl⟩,st',λb hb=>(hf b hb).1⟩⟩;rw[Qpa]
 done:=by
  intro X hP hw hK hc i pins s σ H E I hf st hg;subst hP hw hK;obtain⟨f0,f1,f2,f3,f4,f5⟩:=hf it (by simp);exact Qsd (I.ok.hd hc) st (by have:n<=i:=hg;omega) λh' eb=>⟨rfl,I.turned (t':=s.toks) (λb o hb e=>eb b o hb e) f0 f1 f3 f4 f5⟩
 self:=λ_ _ _ _ _ st h=>QdG st h
section
variable{X:Cx}{tg:Q2}
def QA9(K:PySem.W.Frag)(tl:TE):TI:=λσ H R=>tl σ H λx H1=>∃a,x=.ref a/\(∃xs,SqL K H1 a xs)/\R (Itl K a) H1
def QCL(K:PySem.W.Frag)(tl:TE):TI:=λσ H R=>tl σ H λx H1=>∃a,x=.ref a/\(∃xs,SqT K H1 a xs)/\R (Itt K a) H1
theorem Qi1{l:Q2}{tl:TE}(hl:PE X l tl):PI X tg l (QA9 X.K tl):=by
 intro pins s σ H R I h;refine thn (hl pins s σ H _ I h) λv s1 ⟨x,H1,I1,r1,q1⟩=>?_
 obtain⟨a,e,⟨xs,hq⟩,q⟩:=q1;subst e;cases r1;obtain⟨its,rv,p,hz⟩:=I1.list hq;refine QzT p.isList ?_
 refine⟨s1.heap.objs.size,[s1.heap.objs.size],_,_,H1,rfl,I1.kept (t':=s1.toks) λb o e=>Qe _ e,Qmb a _,⟨_,Qw _ rfl,rfl,rfl⟩,λb hb=>?_,q⟩;have e:b=s1.heap.objs.size:=by simpa using hb
 subst e;exact I1.fpOk (Qj _) (I1.hok.fresh (Qj _))
theorem QxF{l:Q2}{tl:TE}(hl:PE X l tl):PI X tg l (QCL X.K tl):=by
 intro pins s σ H R I h;refine thn (hl pins s σ H _ I h) λv s1 ⟨x,H1,I1,r1,q1⟩=>?_
 obtain⟨a,e,⟨xs,hq⟩,q⟩:=q1;subst e;cases r1;obtain⟨its,rv,p,hz⟩:=I1.tuple hq;refine YU (show s1.heap.IsTuple a its.toArray from p) ?_
 refine⟨s1.heap.objs.size,[s1.heap.objs.size],_,_,H1,rfl,I1.kept (t':=s1.toks) λb o e=>Qe _ e,Qk3 a _,⟨_,Qw _ rfl,rfl,rfl⟩,λb hb=>?_,q⟩;have e:b=s1.heap.objs.size:=by simpa using hb
 subst e;exact I1.fpOk (Qj _) (I1.hok.fresh (Qj _))
theorem QpG{pins:List (Addr×Obj)}{σ:St}{H:Hp}{s:Shared}{R:It->Hp->Prop}{E:Value->Shared->Prop}{lo hi:Int}{t u v:Tok}{tk:Nat}(I:Inv X pins σ H s)(h1 : -(2^62)<=lo)(h2:lo<2^62)(h3 : -(2^62)<=hi)(h4:hi<2^62)
  (q:R (Itr lo (hi - lo).toNat) H):wpAny (model X.prog X.w) X.A (pyIter (.ref s.heap.objs.size)) (PIE X pins σ tg R) E { s with heap:=s.heap.push { cls:=.type "range",data:=.fields #[.int lo t,.int hi u,.int 1 v] },toks:=tk }:=by
 refine wpAny_pyIter_range (IsRange.new ..) (small_one h1 h2 h3 h4) ?_
 have I1:Inv X pins σ H { s with heap:=s.heap.push { cls:=.type "range",data:=.fields #[.int lo t,.int hi u,.int 1 v] },toks:=tk }:=I.kept λb o e=>Qe _ e
 refine⟨(s.heap.push { cls:=.type "range",data:=.fields #[.int lo t,.int hi u,.int 1 v] }).objs.size,[(s.heap.push { cls:=.type "range",data:=.fields #[.int lo t,.int hi u,.int 1 v] }).objs.size],_,_,H,rfl,
  I1.kept (t':=tk) λb o e=>Qe _ e,Qk4 _ lo (hi - lo).toNat,?_,λb hb=>?_,q⟩
 ·have e1:lo+((0:Nat):Int)*1=lo:=by simp
  have e2:(((hi - lo).toNat:Nat):Int) - ((0:Nat):Int)=Zz lo hi 1:=by rw[Qo1];split<;>omega
  show Qk2 _ _ (lo+((0:Nat):Int)*1) ((((hi - lo).toNat:Nat):Int) - ((0:Nat):Int)) 1;rw[e1,e2];exact Qw _ rfl
 ·have e:b=(s.heap.push { cls:=.type "range",data:=.fields #[.int lo t,.int hi u,.int 1 v] }).objs.size:=by simpa using hb
  subst e;exact I1.fpOk (Qj _) (I1.hok.fresh (Qj _))
def QA8(ta:TA):TI:=λσ H R=>ta σ H λvs H1=>∃j:Int,vs=[.int j] /\ -(2^62)<=j/\j<2^62/\R (Itr 0 j.toNat) H1
theorem QhJ{a:Q2}{ta:TA}{p pos:Pos}(hg:Gl X "range")(hm:X.mg "range" = none)(ha:PA X [a] ta)(hs:starEach [a] X.env=[(false,eval a X.env)]:=by rfl):PI X tg (.Call (.Name "range" p) [a] [] pos) (QA8 ta):=by
 intro pins s σ H R I h;refine Call_ (QcN I hg hm boot_range (JH (thn (ha pos pins s σ H _ I h) λus s1 ⟨vs,H1,I1,r1,q1⟩=>?_) hs rfl));obtain⟨j,e,q1,q2,q⟩:=q1;subst e;cases r1 with
 |cons r rr=>
  cases rr;obtain⟨t,rfl⟩:=r;exact call_range_1 (QpG I1 (by omega) (by omega) q1 q2 (by simpa using q))
def tFor(wi:TI)(g:TG)(tb:TS):TS:=λD σ H=>wi σ H λJ H1=>∃W:Nat->Nat->St->Hp->Prop,(∃m,W 0 m σ H1)/\∀i m σ H,W i m σ H ->
 (J.stop i H/\D.nx σ H)∨(J.go i H/\∃N:St->Hp->Prop,(∀σ' H',N σ' H'->∃m',m'<m/\W (i+1) m' σ' H')/\∀x H',J.yld i H x H'->g x σ H' λσ2 H2=>tb { D with nx:=N,ct:=N,bk:=D.nx } σ2 H2)
def Qj3(fp:List Addr)(h:Heap):List (Addr×Obj):=fp.filterMap λb=>(h.get? b).map λo=>(b,o)
theorem QaM{fp:List Addr}{h:Heap}{b:Addr}{o:Obj}(hb:b∈fp)(e:h.get? b=some o):(b,o)∈Qj3 fp h:=ZF.mpr ⟨b,hb,by rw[e];rfl⟩
theorem Qnc{fp:List Addr}{h:Heap}{p:Addr×Obj}(hp:p∈Qj3 fp h):p.1∈fp/\h.get? p.1=some p.2:=by
 obtain⟨b,hb,e⟩:=ZF.mp hp;cases q:h.get? b with
 |none=>rw[q] at e;cases e
 |some o=>
  rw[q] at e;have e':(b,o)=p:=Qu e;subst e';exact⟨hb,q⟩
theorem Inv.pinned{pins:List (Addr×Obj)}{σ:St}{H:Hp}{s:Shared}{fp:List Addr}(I:Inv X pins σ H s)(hf:∀b∈fp,FpOk X pins H b)(ho:∀b∈fp,∃o,s.heap.get? b=some o/\∀v,o.data≠.cell v):Inv X (pins++Qj3 fp s.heap) σ H s:=
 I.pins_of λp hp=>(Jr.mp hp).elim (λz=>I.pin p (QV _ z)) λz=>by
  obtain⟨hb,e⟩:=Qnc z;obtain⟨f0,f1,f2,_⟩:=hf p.1 hb;obtain⟨o,e',d⟩:=ho p.1 hb;rw[e] at e';cases e';exact⟨e,f0,f1,f2,d⟩
theorem Inv.unpinned{pins pl:List (Addr×Obj)}{σ:St}{H:Hp}{s:Shared}(I:Inv X (pins++pl) σ H s):Inv X pins σ H s:=I.pins_of λp hp=>I.pin p (QV _ (Yb _ hp))
theorem QsM{iter:Q2}{body:List Y7}{wi:TI}{g:TG}{tb:TS}{pos:Pos}(hp:PassesOwn (model X.prog X.w) X.A X.env X.xe)(hc:X.calm=true)(hi:PI X tg iter wi)(hg:PG X tg g)(hb:PSs X body tb)
  (hs:∀x,foldedSetIterable iter X.env x=pure x:=by intro _;rfl):PS X (.For tg iter body [] pos) (tFor wi g tb):=by
 intro pins s σ H D I h;refine wpAny_For (thn (hi pins s σ H _ I h) λv s1 h1=>thn h1 λitv s2 h2=>?_) hs;obtain⟨it,fp,tn,J,H2,e,I2,T,st2,f2,W,⟨m0,w0⟩,turn⟩:=h2;subst e;have stat:∀{H':Hp},(∀b∈fp,H' b=none)->∀b∈fp,FpOk X pins H' b:=λhn b hb=>⟨hn b hb,(f2 b hb).2⟩
 refine codeAny_forLoop_any (λn s'=>∃i σ' H',Inv X pins σ' H' s'/\tn i s'.heap/\(∀b∈fp,H' b=none)/\W i n σ' H') ?_ m0 ⟨0,σ,H2,I2,st2,λb hb=>(f2 b hb).1,w0⟩
 rintro n s3 ⟨i,σ3,H3,I3,st3,fr3,w3⟩;rcases turn i n σ3 H3 w3 with⟨stop,qn⟩ | ⟨go,N,hN,step⟩
 ·refine QbV hp (thn (T.done X rfl rfl rfl hc i pins s3 σ3 H3 X.xe I3 (stat fr3) st3 stop) λr s4 ⟨hr,I4⟩=>?_);subst hr;exact QkR ⟨σ3,H3,I4,qn⟩
 ·refine QbV hp (thn (T.item X rfl rfl rfl hc i pins s3 σ3 H3 X.xe I3 (stat fr3) st3 go) λr s4 ⟨u,hr,h4⟩=>?_);subst hr;refine QbV hp (thn h4 λ_ s5 ⟨x,H5,I5,r5,y5,st5,fr5⟩=>?_);have I5':=I5.pinned (stat fr5) (T.obj _ _ st5);refine QbV hp (thn (hg _ s5 σ3 H5 x u _ I5' r5 (step x H5 y5)) λ_ s6 ⟨σ6,H6,I6,q6⟩=>?_);refine QbV hp (thn (hb _ s6 σ6 H6 _ I6 q6) λf s7 q7=>?_);have again:∀{σ7:St}{H7:Hp},Inv X (pins++Qj3 fp s5.heap) σ7 H7 s7->N σ7 H7->∃m,m<n/\∃i σ' H',Inv X pins σ' H' s7/\tn i s7.heap/\(∀b∈fp,H' b=none)/\W i m σ' H':=λ{σ7 H7} I7 n7=>by
   obtain⟨m',hm,w7⟩:=hN σ7 H7 n7;refine⟨m',hm,i+1,σ7,H7,I7.unpinned,T.keep _ _ _ st5 λb hb o e=>(I7.pin (b,o) (QV _ (QV _ (QaM hb e)))).1,λb hb=>?_,w7⟩;obtain⟨o,e,d⟩:=T.obj _ _ st5 b hb;exact(I7.pin (b,o) (QV _ (QV _ (QaM hb e)))).2.1
  cases f with
  |next=>obtain⟨σ7,H7,I7,n7⟩:=q7;exact again I7 n7
  |cont=>obtain⟨σ7,H7,I7,n7⟩:=q7;exact again I7 n7
  |brk=>obtain⟨σ7,H7,I7,q7⟩:=q7;exact⟨σ7,H7,I7.unpinned,q7⟩
  |ret v=>obtain⟨x7,σ7,H7,I7,r7,q7⟩:=q7;exact⟨x7,σ7,H7,I7.unpinned,r7,q7⟩
end
theorem QnV{lo:Int}{n:Nat}{g:TG}{tb:TS}{D:Ends}{σ:St}{H:Hp}(Pv:Nat->St->Hp->Prop)(h0:Pv 0 σ H)
  (hs:∀i σ H,i<n->Pv i σ H->g (.int (lo+i)) σ H λσ2 H2=>tb { D with nx:=Pv (i+1),ct:=Pv (i+1),bk:=D.nx } σ2 H2)(hd:∀σ H,Pv n σ H->D.nx σ H) :
  ∃W:Nat->Nat->St->Hp->Prop,(∃m,W 0 m σ H)/\∀i m σ H,W i m σ H ->
   ((Itr lo n).stop i H/\D.nx σ H)∨((Itr lo n).go i H/\∃N:St->Hp->Prop,(∀σ' H',N σ' H'->∃m',m'<m/\W (i+1) m' σ' H')/\∀x H',(Itr lo n).yld i H x H'->g x σ H' λσ2 H2=>tb { D with nx:=N,ct:=N,bk:=D.nx } σ2 H2):=by
 refine⟨λi m σ H=>m=n - i/\i<=n/\Pv i σ H,⟨n,by simp,Qt _,h0⟩,?_⟩;rintro i m σ H ⟨rfl,hi,p⟩;by_cases hlt:i<n
 ·refine .inr ⟨hlt,Pv (i+1),λσ' H' p'=>⟨n - (i+1),by omega,rfl,hlt,p'⟩,λx H' y=>?_⟩;obtain⟨e,y⟩:=y;subst e y;exact hs i σ _ hlt p
 ·have e:i=n:=by omega
  subst e;exact .inl ⟨Qj _,hd σ H p⟩
abbrev R2:=V->V->Hp->VK->Prop
def OpR(X:Cx)(f:Value->Value->Sem Value)(r:R2):Prop:=
 ∀(pins:List (Addr×Obj))(s:Shared)(σ:St)(H:Hp)(x y:V)(v u:Value)(Q:VK),Inv X pins σ H s->RelV x v->RelV y u->r x y H Q ->
  wpAny (model X.prog X.w) X.A (f v u) (EP X pins σ Q) X.xe s
def UnR(X:Cx)(f:Value->Sem Value)(r:V->Hp->VK->Prop):Prop:=
 ∀(pins:List (Addr×Obj))(s:Shared)(σ:St)(H:Hp)(x:V)(v:Value)(Q:VK),Inv X pins σ H s->RelV x v->r x H Q ->
  wpAny (model X.prog X.w) X.A (f v) (EP X pins σ Q) X.xe s
def CallR(X:Cx)(f:Value)(r:List V->Hp->VK->Prop):Prop:=
 ∀(pins:List (Addr×Obj))(s:Shared)(σ:St)(H:Hp)(xs:List V)(us:List Value)(Q:VK),Inv X pins σ H s->Vals xs us->r xs H Q ->
  wpAny (model X.prog X.w) X.A (call f us) (EP X pins σ Q) X.xe s
def QCR(X:Cx)(r:V->Hp->(Bool->Hp->Prop)->Prop):Prop:=
 ∀(pins:List (Addr×Obj))(s:Shared)(σ:St)(H:Hp)(x:V)(v:Value)(Q:Bool->Hp->Prop),Inv X pins σ H s->RelV x v->r x H Q ->
  wpAny (model X.prog X.w) X.A (truthy v) (TP X pins σ Q) X.xe s
def tOp(r:R2)(ta tb:TE):TE:=λσ H Q=>ta σ H λx H1=>tb σ H1 λy H2=>r x y H2 Q
def tUn(r:V->Hp->VK->Prop)(ta:TE):TE:=λσ H Q=>ta σ H λx H1=>r x H1 Q
def rI(C:Int->Int->Prop)(g:Int->Int->V):R2:=λx y H Q=>∃i j,x=.int i/\y=.int j/\C i j/\Q (g i j) H
def rI0(g:Int->Int->V):R2:=λx y H Q=>∃i j,x=.int i/\y=.int j/\Q (g i j) H
def rU(g:Int->V):V->Hp->VK->Prop:=λx H Q=>∃i,x=.int i/\Q (g i) H
section
variable{X:Cx}{a b c:Q2}{ta tb tc:TE}{pos:Pos}
theorem QBq(ha:PE X a ta)(hb:PE X b tb){pins:List (Addr×Obj)}{s:Shared}{σ:St}{H:Hp}{R:V->V->Hp->Prop}(I:Inv X pins σ H s)
  (h:ta σ H λx H1=>tb σ H1 λy H2=>R x y H2){Q:Value->Shared->Prop}{f:Value->Value->Sem Value}
  (hf:∀v u s2 x y H2,Inv X pins σ H2 s2->RelV x v->RelV y u->R x y H2->wpAny (model X.prog X.w) X.A (f v u) Q X.xe s2) :
  wpAny (model X.prog X.w) X.A (eval a X.env) (λv s₁=>wpAny (model X.prog X.w) X.A (eval b X.env) (λu s₂=>wpAny (model X.prog X.w) X.A (f v u) Q X.xe s₂) X.xe s₁) X.xe s:=by
 refine thn (ha pins s σ H _ I h) λv s1 ⟨x,H1,I1,r1,q1⟩=>?_
 refine thn (hb pins s1 σ H1 _ I1 q1) λu s2 ⟨y,H2,I2,r2,q2⟩=>?_
 exact hf v u s2 x y H2 I2 r1 r2 q2
theorem QbE{op:Qco}{r:R2}(ho:OpR X (binaryOp op) r)(ha:PE X a ta)(hb:PE X b tb):PE X (.BinOp a op b pos) (tOp r ta tb):=by
 intro pins s σ H Q I h;exact wpAny_BinOp (QBq ha hb I h λv u s2 x y H2 I2 rx ry q=>ho pins s2 σ H2 x y v u Q I2 rx ry q)
theorem QAJ{op:UnaryOp}{r:V->Hp->VK->Prop}(ho:UnR X (unaryOp op) r)(ha:PE X a ta):PE X (.UnaryOp op a pos) (tUn r ta):=by
 intro pins s σ H Q I h;exact UnaryOp_ (thn (ha pins s σ H _ I h) λv s1 ⟨x,H1,I1,r1,q1⟩=>ho pins s1 σ H1 x v Q I1 r1 q1)
theorem opI{f:Value->Value->Sem Value}{C:Int->Int->Prop}{g:Int->Int->Int}
  (rule:∀(i j:Int)(t u:Tok)(s:Shared)(Q:Value->Shared->Prop)(E:Value->Shared->Prop),C i j->Q (.int (g i j) s.toks) { s with toks:=s.toks+1 }->wpAny (model X.prog X.w) X.A (f (.int i t) (.int j u)) Q E s) :
  OpR X f (rI C λi j=>.int (g i j)):=by
 intro pins s σ H x y v u Q I rx ry h;obtain⟨i,j,rfl,rfl,hc,q⟩:=h;obtain⟨t,rfl⟩:=rx;obtain⟨t',rfl⟩:=ry;exact rule i j t t' s _ _ hc ⟨.int (g i j),H,I.tok _,⟨_,rfl⟩,q⟩
theorem QzJ{f:Value->Value->Sem Value}{g:Int->Int->Int}
  (rule:∀(i j:Int)(t u:Tok)(s:Shared)(Q:Value->Shared->Prop)(E:Value->Shared->Prop),Q (.int (g i j) s.toks) { s with toks:=s.toks+1 }->wpAny (model X.prog X.w) X.A (f (.int i t) (.int j u)) Q E s) :
  OpR X f (rI0 λi j=>.int (g i j)):=by
 intro pins s σ H x y v u Q I rx ry h;obtain⟨i,j,rfl,rfl,q⟩:=h;obtain⟨t,rfl⟩:=rx;obtain⟨t',rfl⟩:=ry;exact rule i j t t' s _ _ ⟨.int (g i j),H,I.tok _,⟨_,rfl⟩,q⟩
theorem QzK{f:Value->Value->Sem Value}{g:Int->Int->Bool}
  (rule:∀(i j:Int)(t u:Tok)(s:Shared)(Q:Value->Shared->Prop)(E:Value->Shared->Prop),Q (.bool (g i j)) s->wpAny (model X.prog X.w) X.A (f (.int i t) (.int j u)) Q E s) :
  OpR X f (rI0 λi j=>.bl (g i j)):=by
 intro pins s σ H x y v u Q I rx ry h;obtain⟨i,j,rfl,rfl,q⟩:=h;obtain⟨t,rfl⟩:=rx;obtain⟨t',rfl⟩:=ry;exact rule i j t t' s _ _ ⟨.bl (g i j),H,I,rfl,q⟩
def QBy(i j:Int):Prop:=0<=j/\j<=1000000/\i.natAbs<2^64
def CMul(i j:Int):Prop:=(-(2^64)<i/\i<2^64)∨(-(2^64)<j/\j<2^64)
theorem CMul.ok{i j:Int}(h:CMul i j):IntMulOk i j:=by
 rcases h with⟨h1,h2⟩ | ⟨h1,h2⟩
 ·exact .of_left (intBits_le_64 h1 h2)
 ·exact .of_right (intBits_le_64 h1 h2)
theorem QfO:OpR X (binaryOp .Add) (rI0 λi j=>.int (i+j)):=QzJ λ_ _ _ _ _ _ _ q=>add_int q
theorem QhN:OpR X (binaryOp .Sub) (rI0 λi j=>.int (i - j)):=QzJ λ_ _ _ _ _ _ _ q=>sub_int q
theorem QfM:OpR X (binaryOp .Mult) (rI CMul λi j=>.int (i*j)):=opI λ_ _ _ _ _ _ _ hc q=>mul_int q hc.ok
theorem Qj7:OpR X (binaryOp .Mod) (rI (λ_ j=>0<j) λi j=>.int (i % j)):=opI λi j _ _ _ _ _ hc q=>by
 have h1:(0:Int)<j:=hc;exact mod_int' (by omega) (by rw[Int.fmod_eq_emod_of_nonneg i (by omega)];exact q)
theorem Qm3:OpR X (binaryOp .Pow) (rI QBy λi j=>.int (i^j.toNat)):=opI λ_ _ _ _ _ _ _ hc q=>pow_int_small hc.1 hc.2.1 hc.2.2 q
theorem Qm2:OpR X (binaryOp .LShift) (rI QBy λi j=>.int (i*2^j.toNat)):=opI λ_ _ _ _ _ _ _ hc q=>lshift_int_small hc.1 hc.2.1 hc.2.2 q
theorem Qyb:OpR X (binaryOp .BitAnd) (rI0 λi j=>.int (Qc4 i j)):=QzJ λ_ _ _ _ _ _ _ q=>and_int q
theorem QAV:OpR X (binaryOp .BitOr) (rI0 λi j=>.int (QdL i j)):=QzJ λ_ _ _ _ _ _ _ q=>or_int q
theorem Qvv:OpR X (inplaceOp .Mult) (rI CMul λi j=>.int (i*j)):=opI λ_ _ _ _ _ _ _ hc q=>imul_int q hc.ok
theorem unI{f:Value->Sem Value}{g:Int->Int}
  (rule:∀(i:Int)(t:Tok)(s:Shared)(Q:Value->Shared->Prop)(E:Value->Shared->Prop),Q (.int (g i) s.toks) { s with toks:=s.toks+1 }->wpAny (model X.prog X.w) X.A (f (.int i t)) Q E s) :
  UnR X f (rU λi=>.int (g i)):=by
 intro pins s σ H x v Q I rx h;obtain⟨i,rfl,q⟩:=h;obtain⟨t,rfl⟩:=rx;exact rule i t s _ _ ⟨.int (g i),H,I.tok _,⟨_,rfl⟩,q⟩
theorem QwQ:UnR X (unaryOp .USub) (rU λi=>.int (-i)):=unI λ_ _ _ _ _ q=>neg_int q
end
def scal:V->V->Bool
 |.non,.non=>true | .non,.int _=>true | .int _,.non=>true | .non,.bl _=>true | .bl _,.non=>true | .non,.str _=>true | .str _,.non=>true
 |.int _,.int _=>true | .bl _,.bl _=>true | .str _,.str _=>true | .byt _,.byt _=>true
 |.int _,.str _=>true | .str _,.int _=>true | .bl _,.str _=>true | .str _,.bl _=>true
 |_,_=>false
def rEq:R2:=λx y H Q=>scal x y=true/\Q (.bl (decide (x=y))) H
def rNe:R2:=λx y H Q=>scal x y=true/\Q (.bl (!decide (x=y))) H
theorem Qn6{i j:Int}:decide (V.int i=V.int j)=(i == j):=by
 rw[YN];simp
theorem Qs4{i j:Bool}:decide (V.bl i=V.bl j)=(i == j):=by
 rw[YN];simp
theorem Qn5{i j:Str}:decide (V.str i=V.str j)=(i == j):=by
 rw[YN];simp
theorem Qn7{i j:Array UInt8}:decide (V.byt i=V.byt j)=(i.toList == j.toList):=by
 rw[YN];cases i;cases j;simp
section
variable{X:Cx}{a b c:Q2}{ta tb tc:TE}{pos:Pos}
theorem ZL{pins:List (Addr×Obj)}{σ:St}{H:Hp}{s:Shared}{Q:VK}{k k':Bool}(I:Inv X pins σ H s)(q:Q (.bl k) H)(e:k=k'):EP X pins σ Q (.bool k') s:=by
 subst e;exact⟨.bl k,H,I,rfl,q⟩
theorem QAY:OpR X (compareOp .Eq) rEq:=by
 intro pins s σ H x y v u Q I rx ry h;obtain⟨hs,q⟩:=h;cases x with
 |non=>
  cases rx;cases y with
  |non=>cases ry;exact PySem.EqNone.eq_none_none (ZL I q (by simp))
  |bl j=>cases ry;exact PySem.EqNone.eq_none_bool (ZL I q (by simp))
  |int j=>obtain⟨t',rfl⟩:=ry;exact PySem.EqNone.eq_none_int (ZL I q (by simp))
  |str j=>obtain⟨t',rfl⟩:=ry;exact PySem.EqNone.eq_none_str (ZL I q (by simp))
  |_=>exact absurd (show false=true from hs) QC
 |bl i=>
  cases rx;cases y with
  |non=>cases ry;exact PySem.EqNone.eq_bool_none (ZL I q (by simp))
  |bl j=>cases ry;exact eq_bool (ZL I q Qs4)
  |str j=>obtain⟨t',rfl⟩:=ry;exact PySem.EqMixed.eq_bool_str (ZL I q (by simp))
  |_=>exact absurd (show false=true from hs) QC
 |int i=>
  obtain⟨t,rfl⟩:=rx;cases y with
  |non=>cases ry;exact PySem.EqNone.eq_int_none (ZL I q (by simp))
  |int j=>obtain⟨t',rfl⟩:=ry;exact eq_int (ZL I q Qn6)
  |str j=>obtain⟨t',rfl⟩:=ry;exact PySem.EqMixed.eq_int_str (ZL I q (by simp))
  |_=>exact absurd (show false=true from hs) QC
 |str i=>
  obtain⟨t,rfl⟩:=rx;cases y with
  |non=>cases ry;exact PySem.EqNone.eq_str_none (ZL I q (by simp))
  |bl j=>cases ry;exact PySem.EqMixed.eq_str_bool (ZL I q (by simp))
  |int j=>obtain⟨t',rfl⟩:=ry;exact PySem.EqMixed.eq_str_int (ZL I q (by simp))
  |str j=>obtain⟨t',rfl⟩:=ry;exact eq_str (ZL I q Qn5)
  |_=>exact absurd (show false=true from hs) QC
 |byt i=>
  obtain⟨t,rfl⟩:=rx;cases y with
  |byt j=>obtain⟨t',rfl⟩:=ry;exact PySem.W.eq_bytes (ZL I q Qn7)
  |_=>exact absurd (show false=true from hs) QC
 |_=>cases y<;>exact absurd (show false=true from hs) QC
theorem QAW:OpR X (compareOp .NotEq) rNe:=by
 intro pins s σ H x y v u Q I rx ry h;obtain⟨hs,q⟩:=h;cases x with
 |non=>
  cases rx;cases y with
  |non=>cases ry;exact PySem.EqNone.ne_none_none (ZL I q (by simp))
  |bl j=>cases ry;exact PySem.EqNone.ne_none_bool (ZL I q (by simp))
  |int j=>obtain⟨t',rfl⟩:=ry;exact PySem.EqNone.ne_none_int (ZL I q (by simp))
  |str j=>obtain⟨t',rfl⟩:=ry;exact PySem.EqNone.ne_none_str (ZL I q (by simp))
  |_=>exact absurd (show false=true from hs) QC
 |bl i=>
  cases rx;cases y with
  |non=>cases ry;exact PySem.EqNone.ne_bool_none (ZL I q (by simp))
  |bl j=>cases ry;exact ne_bool (ZL I q (congrArg not Qs4))
  |str j=>obtain⟨t',rfl⟩:=ry;exact PySem.EqMixed.ne_bool_str (ZL I q (by simp))
  |_=>exact absurd (show false=true from hs) QC
 |int i=>
  obtain⟨t,rfl⟩:=rx;cases y with
  |non=>cases ry;exact PySem.EqNone.ne_int_none (ZL I q (by simp))
  |int j=>obtain⟨t',rfl⟩:=ry;exact ne_int (ZL I q (congrArg not Qn6))
  |str j=>obtain⟨t',rfl⟩:=ry;exact PySem.EqMixed.ne_int_str (ZL I q (by simp))
  |_=>exact absurd (show false=true from hs) QC
 |str i=>
  obtain⟨t,rfl⟩:=rx;cases y with
  |non=>cases ry;exact PySem.EqNone.ne_str_none (ZL I q (by simp))
  |bl j=>cases ry;exact PySem.EqMixed.ne_str_bool (ZL I q (by simp))
  |int j=>obtain⟨t',rfl⟩:=ry;exact PySem.EqMixed.ne_str_int (ZL I q (by simp))
  |str j=>obtain⟨t',rfl⟩:=ry;exact ne_str (ZL I q (congrArg not Qn5))
  |_=>exact absurd (show false=true from hs) QC
 |byt i=>
  obtain⟨t,rfl⟩:=rx;cases y with
  |byt j=>obtain⟨t',rfl⟩:=ry;exact PySem.W.ne_bytes (ZL I q (congrArg not Qn7))
  |_=>exact absurd (show false=true from hs) QC
 |_=>cases y<;>exact absurd (show false=true from hs) QC
theorem QuR:OpR X (compareOp .Lt) (rI0 λi j=>.bl (decide (i<j))):=QzK λ_ _ _ _ _ _ _ q=>lt_int q
theorem Qm6:OpR X (compareOp .LtE) (rI0 λi j=>.bl (decide (i<=j))):=QzK λ_ _ _ _ _ _ _ q=>le_int q
theorem QAX:OpR X (compareOp .Gt) (rI0 λi j=>.bl (decide (j<i))):=QzK λ_ _ _ _ _ _ _ q=>gt_int q
theorem Qx7:OpR X (compareOp .GtE) (rI0 λi j=>.bl (decide (j<=i))):=QzK λ_ _ _ _ _ _ _ q=>ge_int q
theorem OpR.or{f:Value->Value->Sem Value}{r r':R2}(h:OpR X f r)(h':OpR X f r'):OpR X f (λx y H Q=>r x y H Q∨r' x y H Q):=by
 intro pins s σ H x y v u Q I rx ry q;rcases q with q | q
 ·exact h pins s σ H x y v u Q I rx ry q
 ·exact h' pins s σ H x y v u Q I rx ry q
theorem Yv(b:Q2){op:Qga}(h:op≠.In:=by decide)(h2:op≠.NotIn:=by decide):behindInMarks op b=false:=by
 have e1:(op == CmpOp.In)=false:=by cases op<;>first | rfl | exact absurd rfl h
 have e2:(op == QAe)=false:=by cases op<;>first | rfl | exact absurd rfl h2
 cases b<;>simp[behindInMarks,e1,e2]
theorem Qup{op:Qga}{r:R2}(ho:OpR X (compareOp op) r)(ha:PE X a ta)(hb:PE X b tb)(hm:behindInMarks op b=false):PE X (.Compare a [op] [b] pos) (tOp r ta tb):=by
 intro pins s σ H Q I h;exact wpAny_Compare1 (QBq ha hb I h λv u s2 x y H2 I2 rx ry q=>ho pins s2 σ H2 x y v u Q I2 rx ry q) hm
def QtI(t:TE):TT:=λσ H Q=>t σ H λx H'=>∃k,x=.bl k/\Q k H'
theorem Qgy{op:Qga}{r:R2}(ho:OpR X (compareOp op) r)(ha:PE X a ta)(hb:PE X b tb)(hm:behindInMarks op b=false):PT X (.Compare a [op] [b] pos) (QtI (tOp r ta tb)):=by
 intro pins s σ H Q I h;refine Qte (thn (ha pins s σ H _ I h) λv s1 ⟨x,H1,I1,r1,q1⟩=>thn (hb pins s1 σ H1 _ I1 q1) λu s2 ⟨y,H2,I2,r2,q2⟩=>
  thn (ho pins s2 σ H2 x y v u _ I2 r1 r2 q2) λc s3 ⟨z,H3,I3,r3,k,e,q3⟩=>?_) hm
 subst e;cases r3;exact JW ⟨H3,I3,q3⟩
def Qmh(r r':R2)(ta tb tc:TE):TE:=λσ H Q=>ta σ H λx H1=>tb σ H1 λy H2=>r x y H2 λz H3=>∃k,z=.bl k /\
 (if k=true then tc σ H3 λw' H4=>r' y w' H4 Q else Q (.bl false) H3)
theorem QpS{op op':Qga}{r r':R2}(ho:OpR X (compareOp op) r)(ho':OpR X (compareOp op') r')(ha:PE X a ta)(hb:PE X b tb)(hc:PE X c tc)
  (hm:lastMarks [op,op'] [b,c]=false:=by with_unfolding_all rfl):PE X (.Compare a [op,op'] [b,c] pos) (Qmh r r' ta tb tc):=by
 intro pins s σ H Q I h;refine Compare_chain (thn (ha pins s σ H _ I h) λv s1 ⟨x,H1,I1,r1,q1⟩=>chain_link (thn (hb pins s1 σ H1 _ I1 q1) λu s2 ⟨y,H2,I2,r2,q2⟩=>
  thn (ho pins s2 σ H2 x y v u _ I2 r1 r2 q2) λd s3 ⟨z,H3,I3,r3,k,e,q3⟩=>?_)) hm
 subst e;cases r3;refine JW ?_
 cases k with
 |false=>exact ite_ff ⟨.bl false,H3,I3,rfl,q3⟩
 |true=>exact ite_tt (chain_last (thn (hc pins s3 σ H3 _ I3 q3) λw' s4 ⟨z',H4,I4,r4,q4⟩=>ho' pins s4 σ H4 y z' u w' Q I4 r2 r4 q4))
theorem QpJ{op op':Qga}{r r':R2}(ho:OpR X (compareOp op) r)(ho':OpR X (compareOp op') r')(ha:PE X a ta)(hb:PE X b tb)(hc:PE X c tc)
  (hm:lastMarks [op,op'] [b,c]=false:=by with_unfolding_all rfl):PT X (.Compare a [op,op'] [b,c] pos) (QtI (Qmh r r' ta tb tc)):=by
 intro pins s σ H Q I h;refine isTrue_chain (thn (ha pins s σ H _ I h) λv s1 ⟨x,H1,I1,r1,q1⟩=>test_link (thn (hb pins s1 σ H1 _ I1 q1) λu s2 ⟨y,H2,I2,r2,q2⟩=>
  thn (ho pins s2 σ H2 x y v u _ I2 r1 r2 q2) λd s3 ⟨z,H3,I3,r3,k,e,q3⟩=>?_)) hm
 subst e;cases r3;refine JW ?_
 cases k with
 |false=>
  obtain⟨k',e',q'⟩:=q3;cases e';exact ite_ff ⟨H3,I3,q'⟩
 |true=>
  refine ite_tt (test_last (thn (hc pins s3 σ H3 _ I3 q3) λw' s4 ⟨z',H4,I4,r4,q4⟩=>thn (ho' pins s4 σ H4 y z' u w' _ I4 r2 r4 q4) λd' s5 ⟨z2,H5,I5,r5,k2,e2,q5⟩=>?_));subst e2;cases r5;exact JW ⟨H5,I5,q5⟩
def QBu(K:PySem.W.Frag)(x:V)(H:Hp)(k:Bool):Prop:=
 match x with
 |.non=>k=false
 |.bl b=>k=b
 |.int i=>k=(i != 0)
 |.str y=>y.length<=sizeLine/\k=((y.length:Int) != 0)
 |.byt y=>y.size<=sizeLine/\k=((y.size:Int) != 0)
 |.ref p=>(∃xs,SqL K H p xs/\k = !xs.isEmpty)∨(∃xs,SqT K H p xs/\k = !xs.isEmpty)∨∃kvs,H p=some (.dK kvs)/\k = !kvs.isEmpty
 |_=>False
theorem QlA{κ:Type}{kvs:List (κ×V)}{vs:List (κ×Value)}(r:KV kvs vs):(!vs.isEmpty) = !kvs.isEmpty:=by
 cases r<;>rfl
theorem QfT{xs:List V}{its:List Value}(r:Vals xs its):(!its.toArray.isEmpty) = !xs.isEmpty:=by
 cases r<;>simp
theorem QfR:(sizeLine:Nat)<2^63:=by rw[Z0];decide
theorem QwU:QCR X (λx H Q=>∃k,QBu X.K x H k/\Q k H):=by
 intro pins s σ H x v Q I rx h;obtain⟨k,e,q⟩:=h;have hl:=QfR;have hs:sizeLine=16777216:=Z0;cases x with
 |non=>
  cases rx;have e':k=false:=e;subst e';exact truthy_none ⟨H,I,q⟩
 |bl b=>
  cases rx;have e':k=b:=e;subst e';exact JW ⟨H,I,q⟩
 |int i=>
  obtain⟨t,rfl⟩:=rx;have e':k=(i != 0):=e;subst e';exact PySem.P.truthy_int ⟨H,I,q⟩
 |str y=>
  obtain⟨t,rfl⟩:=rx;obtain⟨hy,e'⟩:y.length<=sizeLine/\k=((y.length:Int) != 0):=e;subst e';exact PySem.P.truthy_str (by omega) ⟨H,I.tok _,q⟩
 |byt y=>
  obtain⟨t,rfl⟩:=rx;obtain⟨hy,e'⟩:y.size<=sizeLine/\k=((y.size:Int) != 0):=e;subst e';exact PySem.W.truthy_bytes (by omega) ⟨H,I.tok _,q⟩
 |ref p=>
  cases rx;have e':(∃xs,SqL X.K H p xs/\k = !xs.isEmpty)∨(∃xs,SqT X.K H p xs/\k = !xs.isEmpty)∨∃kvs,H p=some (.dK kvs)/\k = !kvs.isEmpty:=e
  rcases e' with⟨xs,hx,e'⟩ | ⟨xs,hx,e'⟩ | ⟨kvs,hx,e'⟩
  ·subst e';obtain⟨its,r,pl,hz⟩:=I.list hx;have hlen:=r.length;exact wpAny_truthy_list pl.isList (by simp only[Qo];omega) ⟨H,I.tok _,by rw[QfT r];exact q⟩
  ·subst e';obtain⟨its,r,pl,hz⟩:=I.tuple hx;have hlen:=r.length;exact truthy_tuple pl (by simp only[Qo];omega) ⟨H,I.tok _,by rw[QfT r];exact q⟩
  ·subst e';obtain⟨hz,hS,vs,r,m⟩:kvs.length<=sizeLine/\(p == sysModules)=false/\∃vs,KV kvs vs/\s.heap.DictOf (mixKind X.prog X.w) p vs:=I.hok p _ hx
   have hlen:kvs.length=vs.length:=Qwh r;exact wpAny_truthy_dict hS m (by omega) ⟨H,I.tok _,by rw[QlA r];exact q⟩
 |_=>exact(show False from e).elim
theorem QpI(ha:PE X a ta)(he:∀whole,isTrue a X.env whole=(do let v <- whole;standAt a.pos;holding [v] (truthy v))) :
  PT X a (λσ H Q=>ta σ H λx H'=>∃k,QBu X.K x H' k/\Q k H'):=by
 intro pins s σ H Q I h;exact isTrue_plain (thn (ha pins s σ H _ I h) λv s1 ⟨x,H1,I1,r1,q1⟩=>QwU pins s1 σ H1 x v Q I1 r1 q1) (he _)
theorem vals1{x:V}{us:List Value}(r:Vals [x] us):∃u,us=[u]/\RelV x u:=by
 cases r with
 |cons r1 r2=>cases r2;exact⟨_,rfl,r1⟩
theorem vals2{x y:V}{us:List Value}(r:Vals [x,y] us):∃u w',us=[u,w']/\RelV x u/\RelV y w':=by
 cases r with
 |cons r1 r2=>
  cases r2 with
  |cons r3 r4=>cases r4;exact⟨_,_,rfl,r1,r3⟩
theorem Qia(hc:X.calm=true):CallR X (.builtin "max") (λxs H Q=>∃i j,xs=[.int i,.int j]/\Q (.int (if j > i then j else i)) H):=by
 intro pins s σ H xs us Q I r h;obtain⟨i,j,rfl,q⟩:=h;obtain⟨u,w',rfl,⟨t,rfl⟩,⟨t',rfl⟩⟩:=vals2 r;refine max_two_ints (I.ok.hd hc) λh' tk k=>⟨_,H,I.kept k,?_,q⟩
 by_cases hj:j > i
 ·rw[if_pos hj,if_pos hj];exact⟨_,rfl⟩
 ·rw[if_neg hj,if_neg hj];exact⟨_,rfl⟩
theorem Qfh(hc:X.calm=true):CallR X (.builtin "min") (λxs H Q=>∃i j,xs=[.int i,.int j]/\Q (.int (if j<i then j else i)) H):=by
 intro pins s σ H xs us Q I r h;obtain⟨i,j,rfl,q⟩:=h;obtain⟨u,w',rfl,⟨t,rfl⟩,⟨t',rfl⟩⟩:=vals2 r;refine min_two_ints (I.ok.hd hc) λh' tk k=>⟨_,H,I.kept k,?_,q⟩
 by_cases hj:j<i
 ·rw[if_pos hj,if_pos hj];exact⟨_,rfl⟩
 ·rw[if_neg hj,if_neg hj];exact⟨_,rfl⟩
theorem Qou:CallR X (.type "int") (λxs H Q=>(∃i,xs=[.int i]/\Q (.int i) H)∨∃k,xs=[.bl k]/\Q (.int (if k then 1 else 0)) H):=by
 intro pins s σ H xs us Q I r h;rcases h with⟨i,rfl,q⟩ | ⟨k,rfl,q⟩
 ·obtain⟨u,rfl,t,rfl⟩:=vals1 r;exact call_int_int ⟨.int i,H,I,⟨_,rfl⟩,q⟩
 ·obtain⟨u,rfl,r1⟩:=vals1 r;cases r1;exact call_int_bool ⟨.int (if k then 1 else 0),H,I.tok _,⟨_,rfl⟩,q⟩
end
structure ObjM (h:Heap) (x dx C:Addr) (mA:Str->Option Value):Prop where
 obj:h.get? x=some (PySem.W.instObj C dx)
 ns:h.Ns1 dx mA
 ne:dx≠x
theorem Qnt{h:Heap}{dx:Addr}{mA:Str->Option Value}(n:h.Ns1 dx mA):∃od,h.get? dx=some od/\∀name,PySem.W.lookIn name od=some (mA name):=by
 obtain⟨o,es,ep,ho,hd,hk,_,hm⟩:=n;refine⟨o,ho,λname=>?_⟩;have e:=hm name;unfold nsFind findBy at e;rw[<- Array.find?_toList] at e;unfold PySem.W.lookIn;rw[hd]
 dsimp only
 split
 ·rename_i y q
  rw[q] at e;exact congrArg some e
 ·rename_i q
  rw[q] at e;have a:es.toList.any (·.refKey)=false:=by
   rw[List.any_eq_false];intro y hy;obtain⟨z,t,hkey⟩:=hk y (ZI.mp hy);simp[DictEntry.refKey,hkey]
  have a':¬es.toList.any (·.refKey)=true:=by rw[a];exact QC
  rw[if_neg a'];exact congrArg some e
theorem ObjM.look{h:Heap}{x dx C:Addr}{mA:Str->Option Value}(I:ObjM h x dx C mA):∃od,PySem.W.InstAt h x (PySem.W.instObj C dx) C (some od)/\∀name,PySem.W.lookIn name od=some (mA name):=
 let ⟨od,ho,hl⟩:=Qnt I.ns
 ⟨od,⟨I.obj,rfl,rfl,ho⟩,hl⟩
section
variable{prog:QD}{w:Jl}{A:Je}{E:Value->Shared->Prop}{s:Shared}{K:PySem.W.Frag}{x dx C f:Addr}{mA:Str->Option Value}{name:Str}{v:Value}
end
section
variable{P:QD}{w:Jl}{H H':Hp}{h h':Heap}{a C dx:Addr}{fs fs':List (Str×V)}
theorem ins_get(hok:HOk P w H h)(e:H a=some (.ins C dx fs)):∃mA,ObjM h a dx C mA/\(∀f,QBv (fs.lookup f) (mA f))/\PySem.Within mA (fs.map (·.1))/\fs.length<=1000/\H dx=some (.own a):=by
 obtain⟨d,z,ne,ob,mA,n,r,q⟩:=(show ObjOk P w H h a (.ins C dx fs) from hok a _ e);exact⟨mA,⟨ob,n,ne⟩,r,q,z,d⟩
end
structure Cls (K:PySem.W.Frag) (C:Addr):Prop where
 pg:PySem.W.plainGet K C Str.empty=true
 hd:PySem.W.hasDictIn K C=true
 po:PySem.W.plainOver K C=true
 sa:PySem.W.findIn K (.ref C) "__setattr__" = some (some (.builtin "object.__setattr__"))
theorem Cls.get{K:PySem.W.Frag}{C:Addr}(c:Cls K C)(f:Str):PySem.W.plainGet K C f=true:=c.pg
section
variable{X:Cx}{pins:List (Addr×Obj)}{σ:St}{H:Hp}{s:Shared}{a C dx:Addr}{fs:List (Str×V)}{f:Str}{v:V}{A:Je}{E:Value->Shared->Prop}
end
section
variable{X:Cx}{o e value:Q2}{f:Str}{pos pos' tpos:Pos}{ta tv:TE}
def rAdd:V->V->Hp->VK->Prop:=λx y H Q=>∃i j,x=.int i/\y=.int j/\Q (.int (i+j)) H
end
section
variable{X:Cx}{pins:List (Addr×Obj)}{σ:St}{H:Hp}{s:Shared}{A:Je}{E:Value->Shared->Prop}{Q:Value->Shared->Prop}{c:Value}{b:Bool}
inductive TyOf (K:PySem.W.Frag) (H:Hp):V->Value->Prop where
 |non:TyOf K H .non (.type "NoneType")
 |bl (x:Bool):TyOf K H (.bl x) (.type "bool")
 |int (i:Int):TyOf K H (.int i) (.type "int")
 |str (x:Str):TyOf K H (.str x) (.type "str")
 |flt (x:UInt64):TyOf K H (.flt x) (.type "float")
 |lst {a:Addr} {xs:List V} (e:H a=some (.lst xs)):TyOf K H (.ref a) (.type "list")
 |frz {a:Addr} {o:Obj} {xs:List V} (e:H a=some (.frz o (.lst xs))):TyOf K H (.ref a) (.type "list")
 |tup {a:Addr} {xs:List V} (e:H a=some (.tup xs)):TyOf K H (.ref a) (.type "tuple")
 |dK {a:Addr} {kvs:List (Key×V)} (e:H a=some (.dK kvs)):TyOf K H (.ref a) (.type "dict")
 |dT {a:Addr} {kvs:List (List Key×V)} (e:H a=some (.dT kvs)):TyOf K H (.ref a) (.type "dict")
 |ins {a C dx:Addr} {fs:List (Str×V)} (e:H a=some (.ins C dx fs)) (cl:Cls K C) (ha:PySem.W.findIn K (.ref C) "__class__" = some (some (.builtin "object.__class__")))
   (hn:PySem.W.specialIn K (.builtin "object.__class__") "__get__" = some (some (.builtin "getset_descriptor.__get__"))) (htk:PySem.W.takesIn K (.builtin "object.__class__")=some true)
   (hm:PySem.W.mroIn K C (.type "object")=some true):TyOf K H (.ref a) (.ref C)
theorem QnB{x:V}{u t:Value}(I:Inv X pins σ H s)(rx:RelV x u)(ty:TyOf X.K H x t)(e:PySem.W.kitOne X.K t c=some b)(h:∀tk,Q (.bool b) { s with toks:=tk }) :
  wpAny (model X.prog X.w) A (call (.builtin "isinstance") [u,c]) Q E s:=by
 cases ty with
 |non=>cases(show u=JD from rx);exact PySem.W.kia_one PySem.W.kitx_none I.kIn Qc9 e (λz=>nomatch z) h
 |bl y=>cases(show u=YO y from rx);exact PySem.W.kia_one PySem.W.kitx_bool I.kIn Qc9 e (λz=>nomatch z) h
 |int i=>obtain⟨t,q⟩:=(show ∃t,u=Qf4 i t from rx);cases q;exact PySem.W.kia_one PySem.W.kitx_int I.kIn Qc9 e (λz=>nomatch z) h
 |str y=>obtain⟨t,q⟩:=(show ∃t,u=Qti y t from rx);cases q;exact PySem.W.kia_one PySem.W.kitx_str I.kIn Qc9 e (λz=>nomatch z) h
 |flt y=>obtain⟨t,q⟩:=(show ∃t,u=Qz1 y t from rx);cases q;exact PySem.W.kia_one PySem.W.kitx_float I.kIn Qc9 e (λz=>nomatch z) h
 |@lst a xs ea=>
  cases(show u=QU a from rx);obtain⟨_,_,n,_,h1⟩:=(show ObjOk X.prog X.w H s.heap a (.lst xs) from I.hok a _ ea);exact PySem.W.kia_one PySem.W.kitx_list I.kIn ⟨_,h1,rfl⟩ e (λz=>nomatch z) h
 |@frz a ob xs ea=>
  cases(show u=QU a from rx);obtain⟨_,_,_,n,_,h1⟩:=(show ObjOk X.prog X.w H s.heap a (.frz ob (.lst xs)) from I.hok a _ ea);exact PySem.W.kia_one PySem.W.kitx_list I.kIn ⟨_,h1,rfl⟩ e (λz=>nomatch z) h
 |@tup a xs ea=>
  cases(show u=QU a from rx);obtain⟨_,_,_,p⟩:=(show ObjOk X.prog X.w H s.heap a (.tup xs) from I.hok a _ ea);obtain⟨o,h1,h2,_⟩:=p;exact PySem.W.kia_one PySem.W.kitx_tuple I.kIn ⟨o,h1,h2⟩ e (λz=>nomatch z) h
 |@dK a kvs ea=>
  cases(show u=QU a from rx);obtain⟨_,_,vs,_,p⟩:=(show ObjOk X.prog X.w H s.heap a (.dK kvs) from I.hok a _ ea);obtain⟨o,es,ep,h1,h2,_⟩:=p;exact PySem.W.kia_one PySem.W.kitx_dict I.kIn ⟨o,h1,h2.1⟩ e (λz=>nomatch z) h
 |@dT a kvs ea=>
  cases(show u=QU a from rx);obtain⟨_,_,xs,_,o,es,ep,h1,h2,_⟩:=(show ObjOk X.prog X.w H s.heap a (.dT kvs) from I.hok a _ ea);exact PySem.W.kia_one PySem.W.kitx_dict I.kIn ⟨o,h1,h2.1⟩ e (λz=>nomatch z) h
 |@ins a C dx fs ea cl ha hn htk hm=>
  cases(show u=QU a from rx);obtain⟨mA,O,_⟩:=ins_get I.hok ea;obtain⟨od,J,_⟩:=O.look;exact PySem.W.kia_one (PySem.W.kitx_own (cl.get _) cl.hd ha hn htk hm) I.kIn J e (λz=>nomatch z) h
end
structure Room (k:Nat) (A:Je):Prop where
 hd:A.handled=none
 dp:A.depth+3*k+5<recursionLimit
 un:A.units+16*k+200<cLine
theorem Room.mono{j k:Nat}{A:Je}(r:Room k A)(h:j<=k):Room j A:=⟨r.hd,by have:=r.dp;omega,by have:=r.un;omega⟩
theorem Room.deeper{k:Nat}{A:Je}(r:Room (k+1) A)(env:Env):Room k (A.deeper env):=
 ⟨r.hd,by have:=r.dp;show A.depth+1+3*k+5<_;omega,by have:=r.un;show A.units+3+16*k+200<_;omega⟩
theorem Room.depth{k:Nat}{A:Je}(r:Room k A):A.depth<recursionLimit:=by have:=r.dp;omega
theorem Room.units{k:Nat}{A:Je}(r:Room k A):A.units+64<cLine:=by have:=r.un;omega
def Qwp:TA:=λ_ H Q=>Q [] H
def Qfr(ta:TE)(tr:TA):TA:=λσ H Q=>ta σ H λx H1=>tr σ H1 λxs H2=>Q (x::xs) H2
section
variable{X:Cx}{e:Q2}{es:List Q2}{te:TE}{t:TA}{pos:Pos}
theorem Yk:PA X [] Qwp:=λ_ _ _ _ H Q I h=>Calls.spliced_nil ⟨[],H,I,.nil,h⟩
theorem QaC(ha:PE X e te)(hr:PA X es t)(hs:starEach (e::es) X.env=(false,eval e X.env)::starEach es X.env:=by rfl):PA X (e::es) (Qfr te t):=by
 intro pos pins s σ H Q I h;rw[hs];show wpAny _ _ (spliced ((false,eval e X.env)::backTo pos (starEach es X.env))) _ _ s;refine Calls.spliced_cons (thn (ha pins s σ H _ I h) λu s1 ⟨x,H1,I1,r1,q1⟩=>?_);exact thn (hr pos pins s1 σ H1 _ I1 q1) λus s2 ⟨xs,H2,I2,r2,q2⟩=>⟨x::xs,H2,I2,.cons r1 r2,q2⟩
def QCv(t:TA):TE:=λσ H Q=>t σ H λxs H1=>xs.length<=sizeLine/\∀p,H1 p=none->Q (.ref p) (upd H1 p (.lst xs))
theorem QsP(h:PA X es t):PE X (.List es pos) (QCv t):=by
 intro pins s σ H Q I hq;refine Qzq (thn (h pos pins s σ H _ I hq) λus s1 ⟨xs,H1,I1,r,z,q⟩=>⟨by rw[<- r.length];exact z,?_⟩);have hf:H1 s1.heap.objs.size=none:=I1.hok.fresh (Qj _);refine⟨.ref s1.heap.objs.size,upd H1 s1.heap.objs.size (.lst xs),I1.laid (t':=s1.toks) (λb u e=>Qe _ e) (Qj _) ?_,rfl,q _ hf⟩;exact⟨z,us,0,r,Qw _ rfl⟩
end
abbrev Sp:=List V->Hp->VK->XK->Prop
abbrev CXT:=List Env->Hp->Shared->XK->Value->Shared->Prop
structure Env0 (P:QD) (w:Jl) (K:PySem.W.Frag) (mg:Str->Option Value) (base:Heap) (A:Je) (outer:List Env) (s:Shared) (H:Hp):Prop where
 frames:A.frames=some outer
 mod:Mod K mg base
 bs:∀b o,base.get? b=some o->s.heap.get? b=some o/\H b=none
 bsz:base.objs.size<=s.heap.objs.size
 funs:s.heap.FunFrames base outer
 frf:∀b∈frs outer,H b=none
 hok:HOk P w H s.heap
 bare:Qfq s.gens
def CE(outer:List Env)(P:QD)(w:Jl)(H:Hp)(s:Shared)(Q:VK)(u:Value)(s':Shared):Prop:=
 ∃v H',s'.os=s.os/\Qfq s'.gens/\Un (frs outer) [] H H' s.heap s'.heap/\HOk P w H' s'.heap/\RelV v u/\Q v H'
def CR(CX:CXT)(outer:List Env)(P:QD)(w:Jl)(H:Hp)(s:Shared)(Q:VK)(E:XK)(r:Qtk)(s':Shared):Prop:=
 match r with
 |.ok (.ret u)=>CE outer P w H s Q u s'
 |.ok _=>False
 |.error e=>CX outer H s E e s'
structure FnOk (P:QD) (w:Jl) (K:PySem.W.Frag) (mg:Str->Option Value) (base:Heap) (CX:CXT) (k:Nat) (f:Addr) (fd:Jc) (ps:List Str) (sp:Sp):Prop where
 len:∀vs H Q E,sp vs H Q E->vs.length=ps.length
 run:∀(A:Je)(outer:List Env)(s:Shared)(H:Hp)(args:Args)(us:List Value)(vs:List V)(Q:VK)(E:XK),Room k A->Env0 P w K mg base A outer s H->Qpc s fd args (ps.zip us)->Vals vs us->sp vs H Q E ->
  codeAny (model P w) A (.call (.ref f) args) (CR CX outer P w H s Q E) s
theorem FnOk.imp{P:QD}{w:Jl}{K:PySem.W.Frag}{mg:Str->Option Value}{base:Heap}{CX:CXT}{k:Nat}{f:Addr}{fd:Jc}{ps:List Str}{sp sp':Sp}(F:FnOk P w K mg base CX k f fd ps sp)
  (h:∀vs H Q E,sp' vs H Q E->sp vs H Q E):FnOk P w K mg base CX k f fd ps sp':=
 ⟨λvs H Q E q=>F.len vs H Q E (h _ _ _ _ q),λA outer s H args us vs Q E hr he hb hv hs=>F.run A outer s H args us vs Q E hr he hb hv (h _ _ _ _ hs)⟩
section
variable{X:Cx}{pins:List (Addr×Obj)}{σ:St}{H:Hp}{s s':Shared}
theorem Inv.env0(I:Inv X pins σ H s):Env0 X.prog X.w X.K X.mg X.base X.A X.stack s H:=
 ⟨I.ok.frames,I.ok.mod,I.bs,Jk I.ok.bsz I.sz,I.stack,I.stkFree,I.hok,I.bare⟩
theorem Inv.after{Q:VK}{u:Value}(I:Inv X pins σ H s)(h:CE X.stack X.prog X.w H s Q u s'):EP X pins σ Q u s':=by
 obtain⟨v,H',os,bare,un,hok,r,q⟩:=h;obtain⟨hh,g,d,t,os'⟩:=s';obtain rfl:os'=s.os:=os;exact⟨v,H',I.call (h':=hh) (g':=g) (d':=d) (t':=t) (ch:=[]) un hok bare (λb z=>absurd z (by simp)),r,q⟩
end
def Qmi(sp:Sp)(dvs:List V)(E:XK)(t:TA):TE:=λσ H Q=>t σ H λvs H1=>sp (vs++dvs) H1 Q E
def Binds(K:PySem.W.Frag)(fd:Jc)(ps:List Str)(ds:List Value):Prop:=
 ∀(s:Shared)(us:List Value),K.In s.heap->(us++ds).length=ps.length->Qpc s fd ⟨us,[]⟩ (ps.zip (us++ds))
theorem Binds.all{K:PySem.W.Frag}{fd:Jc}{ps:List Str}(h:∀us:List Value,us.length=ps.length->bindArgs fd ⟨us,[]⟩=pure (ps.zip us)):Binds K fd ps []:=λs us _ hl=>by
 rw[JK] at hl ⊢;exact .of_eq (h us hl)
def QcO(CX:CXT)(X:Cx)(E:XK):Prop:=∀(pins:List (Addr×Obj))(σ:St)(H:Hp)(s:Shared)(e:Value)(s':Shared),Inv X pins σ H s->CX X.stack H s E e s'->X.xe e s'
section
variable{X:Cx}{CX:CXT}{k:Nat}{f C:Addr}{fd:Jc}{ps:List Str}{sp:Sp}{dvs:List V}{ds:List Value}{E:XK}{x m:Str}{p pos apos:Pos}{e o:Q2}{es:List Q2}{ta:TE}{t:TA}
theorem Qxh{pins:List (Addr×Obj)}{σ:St}{H:Hp}{s:Shared}{Q:VK}{us:List Value}{vs:List V}(F:FnOk X.prog X.w X.K X.mg X.base CX k f fd ps sp)(hr:Room k X.A)(hb:Binds X.K fd ps ds)(hd:Vals dvs ds)(hx:QcO CX X E)
  (I:Inv X pins σ H s)(r:Vals vs us)(h:sp (vs++dvs) H Q E):wpAny (model X.prog X.w) X.A (call (.ref f) us) (EP X pins σ Q) X.xe s:=by
 have r2:Vals (vs++dvs) (us++ds):=r.append hd;have hl:(us++ds).length=ps.length:=by rw[<- r2.length];exact F.len _ _ _ _ h
 refine wpAny_call (Qil (F.run X.A X.stack s H ⟨us,[]⟩ (us++ds) (vs++dvs) Q E hr I.env0 (hb s us I.kIn hl) r2 h) λr s' hq=>?_);cases r with
 |error e=>exact hx pins σ H s e s' I hq
 |ok fl=>
  cases fl with
  |ret u=>exact I.after hq
  |next=>exact Ys hq
  |brk=>exact Ys hq
  |cont=>exact Ys hq
theorem Qcd(F:FnOk X.prog X.w X.K X.mg X.base CX k f fd ps sp)(hr:Room k X.A)(hg:Gl X x)(hm:X.mg x=some (.ref f))(hk:PySem.W.keepIn X.K (.ref f)=true)(hb:Binds X.K fd ps ds)(hd:Vals dvs ds)(hx:QcO CX X E)
  (ha:PA X (e::es) t)(hdb:(x == ("__debug__" : Str))=false:=by decide)(he:starEach (e::es) X.env=(false,eval e X.env)::starEach es X.env:=by rfl)(hpl:(backTo pos (starEach es X.env)).any (·.1)=false:=by rfl) :
  PE X (.Call (.Name x p) (e::es) [] pos) (Qmi sp dvs E t):=by
 intro pins s σ H Q I h;refine Qcn (Qnv I hg hm ?_ hdb);refine PySem.W.callWith_K (h₀:=X.base) I.ok.mod.kin hk (thn (ha pos pins s σ H _ I h) λus s1 ⟨vs,H1,I1,r,q⟩=>⟨I1.kIn,?_⟩) he hpl;exact Qxh F hr hb hd hx I1 r q
end
section
variable{X:Cx}{CX:CXT}{k:Nat}{f C:Addr}{fd:Jc}{ps ks:List Str}{sp:Sp}{E:XK}{x m:Str}{p pos apos kpos:Pos}{e o:Q2}{es:List Q2}{kws:List Qk0}{te ta:TE}{t tk:TA}{nm:Option Str}
variable{g:List Value->List Value->List Value}{gV:List V->List V->List V}
end
structure JZ (N P:List Str) (sc:Y8):Prop where
 kind:sc.kind=.function
 co:sc.isCoroutine=false
 gen:sc.isGenerator=false
 nd:N.Nodup
 pre:N.take P.length=P
 par:∀x∈P,sc.names.lookup x=some .local∨sc.names.lookup x=some .cell
 nofree:∀y∈sc.names,y.2≠.free
theorem Qie{kindOf:Str->Option Qa2}{x:Str}:∀{binds:List (Str×Value)}{m:Str->Option Value},(∀v,(x,v)∉binds)->bindL kindOf binds m x=m x
 |[],_,_=>rfl
 |(n,v)::r,m,h=>by
  unfold bindL;rw[Qie λw hw=>h w (Q7 _ hw)];split
  ·have:x≠n:=by rintro rfl;exact h v JM
   simp[this]
  ·rfl
theorem Qig{kindOf:Str->Option Qa2}{x:Str}:∀{binds:List (Str×Value)}{m:Str->Option Value},(∀v,(x,v)∉binds)->bindC kindOf binds m x=m x
 |[],_,_=>rfl
 |(n,v)::r,m,h=>by
  unfold bindC;rw[Qig λw hw=>h w (Q7 _ hw)];split
  ·rfl
  ·have:x≠n:=by rintro rfl;exact h v JM
   simp[this]
theorem Qif{kindOf:Str->Option Qa2}{x:Str}{v:Value}:∀{P:List Str}{vs:List Value}{i:Nat}{m:Str->Option Value},P.Nodup->P[i]? = some x->vs[i]? = some v->kindOf x=some .local ->
  bindL kindOf (P.zip vs) m x=some v
 |[],_,_,_,_,h,_,_=>by simp at h
 |_::_,[],_,_,_,_,h,_=>by simp at h
 |p::P,w::vs,0,m,nd,h1,h2,hk=>by
  simp at h1 h2;subst h1;subst h2;show bindL kindOf ((p,w)::P.zip vs) m p=_;unfold bindL;rw[Qie λv hv=>(ZO.mp nd).1 (Qg7 hv).1,if_pos hk];simp
 |p::P,w::vs,i+1,m,nd,h1,h2,hk=>by
  show bindL kindOf ((p,w)::P.zip vs) m x=_;unfold bindL;exact Qif (i:=i) (ZO.mp nd).2 (by simpa using h1) (by simpa using h2) hk
theorem Qih{kindOf:Str->Option Qa2}{x:Str}{v:Value}:∀{P:List Str}{vs:List Value}{i:Nat}{m:Str->Option Value},P.Nodup->P[i]? = some x->vs[i]? = some v->kindOf x≠some .local ->
  bindC kindOf (P.zip vs) m x=some v
 |[],_,_,_,_,h,_,_=>by simp at h
 |_::_,[],_,_,_,_,h,_=>by simp at h
 |p::P,w::vs,0,m,nd,h1,h2,hk=>by
  simp at h1 h2;subst h1;subst h2;show bindC kindOf ((p,w)::P.zip vs) m p=_;unfold bindC;rw[Qig λv hv=>(ZO.mp nd).1 (Qg7 hv).1,if_neg hk];simp
 |p::P,w::vs,i+1,m,nd,h1,h2,hk=>by
  show bindC kindOf ((p,w)::P.zip vs) m x=_;unfold bindC;exact Qih (i:=i) (ZO.mp nd).2 (by simpa using h1) (by simpa using h2) hk
def start(N:List Str)(vs:List V):St:=vs.map some++QP (N.length - vs.length) none
def QoY(CX:CXT)(P:QD)(w:Jl)(K:PySem.W.Frag)(mg:Str->Option Value)(base:Heap)(N:List Str)(qual:Str)(scope:Y8)(f:Addr)(cd:Value)(A:Je)(outer:List Env)(s:Shared)(H:Hp)(E:XK):Cx where
 prog:=P
 w:=w
 K:=K
 mg:=mg
 base:=base
 A:=A.deeper (envOfC qual scope s.heap.objs.size f cd)
 N:=N
 s₀:=s
 H₀:=H
 env:=envOfC qual scope s.heap.objs.size f cd
 outer:=outer
 stack:=envOfC qual scope s.heap.objs.size f cd::outer
 ex:=[]
 calm:=true
 fn:=λ_=>true
 pn:=[]
 xe:=λe s'=>wpAny (model P w) (A.deeper (envOfC qual scope s.heap.objs.size f cd)) (leaving (envOfC qual scope s.heap.objs.size f cd) e) (λ_ s''=>CX outer H s E e s'') (λe' s''=>CX outer H s E e' s'') s'
theorem QkI{sc:Y8}{n:Nat}{x:Str}(h:sc.names.lookup x=some .cell):∃c,(cellsFrom n sc.names []).lookup x=some c:=by
 have q:=PySem.W.cellsFrom_some sc.names n [] (.inl h);exact Qhk.mp q
theorem QnC{CX:CXT}{P:QD}{w:Jl}{K:PySem.W.Frag}{mg:Str->Option Value}{base:Heap}{N ps:List Str}{qual:Str}{scope:Y8}{f:Addr}{cd:Value}{A:Je}{outer:List Env}{s s1:Shared}{H:Hp}{E:XK}{us:List Value}{vs:List V}
  (S:JZ N ps scope)(hd:A.handled=none)(e0:Env0 P w K mg base A outer s H)(hl:vs.length=ps.length)(r:Vals vs us)
  (x:InCallC s s.heap.objs.size (bindL (envOfC qual scope s.heap.objs.size f cd).kindOf (ps.zip us) λ_=>none) (cellsFrom (s.heap.objs.size+1) scope.names []) (bindC (envOfC qual scope s.heap.objs.size f cd).kindOf (ps.zip us) λ_=>none) s1) :
  Inv (QoY CX P w K mg base N qual scope f cd A outer s H E) [] (start N vs) H s1:=by
 have hpl:ps.length<=N.length:=by have:=congrArg Qg9 S.pre;rw[Jo] at this;omega
 obtain⟨h1,tk,rfl,hk⟩:=x.done;have noA:∀b:Addr,b∉(QoY CX P w K mg base N qual scope f cd A outer s H E).ex:=λb z=>absurd (show b∈([]:List Addr) from z) (by simp)
 refine⟨⟨e0.mod,S.kind,rfl,rfl,Qj _,λy z c h1 h2=>?_,λy hy=>?_,λy c _ h=>?_,λ_=>hd,Around.frames_deeper e0.frames,.inr ⟨rfl,rfl⟩,λb z=>absurd z (noA b),e0.bs,e0.bsz,λb _ _=>noA b,λb z=>absurd z (noA b),e0.funs,e0.frf⟩,
  rfl,e0.bare,Un.kept hk,⟨_,x.toInCall.ns,λi y v h1 h2 h3=>?_⟩,λy c h=>⟨_,x.cell y c h⟩,e0.hok.fresh (Qj _),λy c h=>?_,λp hp=>absurd (show p∈([]:List (Addr×Obj)) from hp) (by simp),e0.hok.kept hk,?_⟩
 ·exact name_of_addr x.apart (PySem.mem_of_lookup h1) (PySem.mem_of_lookup h2)
 ·have hy:scope.names.lookup y=some .cell∨scope.names.lookup y=some .free:=hy;rcases hy with hy | hy
  ·exact QkI hy
  ·exact absurd rfl (S.nofree _ (PySem.mem_of_lookup hy))
 ·exact Z5 (x.above y c (PySem.mem_of_lookup h))
 ·have hi:i<vs.length:=by
   unfold start at h2;by_cases hi:i<vs.length
   ·exact hi
   ·rw[Jg (by simpa using hi)] at h2;rw[Yo] at h2;split at h2<;>cases h2
  have ha:vs[i]? = some v:=by
   unfold start at h2;rw[Zd (by simpa using hi),Qq] at h2;cases e:vs[i]? with
   |none=>rw[e] at h2;cases h2
   |some a=>rw[e] at h2;cases h2;rfl
  obtain⟨u,hu,rv⟩:=r.get ha;have hp:ps[i]? = some y:=by
   rw[<- S.pre,QiB (by omega)];exact h1
  have ndP:ps.Nodup:=by rw[<- S.pre];exact S.nd.sublist (Qsj _ _)
  refine⟨u,rv,?_⟩;rcases S.par y (QK hp) with k | k
  ·exact .inl ⟨k,Qif ndP hp hu k⟩
  ·obtain⟨c,e⟩:=QkI (n:=s.heap.objs.size+1) k;refine .inr ⟨.inl k,c,e,?_⟩;have q:=x.cell y c e;rw[Qih ndP hp hu (by show scope.names.lookup y≠_;rw[k];decide)] at q;exact q
 ·exact e0.hok.fresh (Z5 (x.above y c (PySem.mem_of_lookup h)))
 ·unfold start;show _=N.length;rw[Qs,Qg,QaL];omega
theorem QBh{CX:CXT}{P:QD}{w:Jl}{K:PySem.W.Frag}{mg:Str->Option Value}{base:Heap}{k:Nat}{f:Addr}{name qual:Str}{params:Arguments}{body:List Y7}{scope:Y8}{dV kV doc pm cdv ct oc:Value}{an od:Option Addr}
  {osl:Array (Option Value)} {N ps:List Str} {sp:Sp} (lk:K.lookup f=some ⟨oc,od,.func (PySem.W.fnOf name qual params body scope dV kV doc pm an cdv ct),osl⟩) (hcd:PySem.W.codeIn K cdv qual=true) (S:JZ N ps scope)
  (len:∀vs H Q E,sp vs H Q E->vs.length=ps.length)
  (hbody:∀(A:Je)(outer:List Env)(s:Shared)(H:Hp)(vs:List V)(Q:VK)(E:XK),Room k (A.deeper (envOfC qual scope s.heap.objs.size f cdv))->sp vs H Q E ->
   ∃t,PSs (QoY CX P w K mg base N qual scope f cdv A outer s H E) body t/\t { nx:=λ_ H'=>Q .non H',rt:=Q } (start N vs) H) :
  FnOk P w K mg base CX (k+1) f (PySem.W.fnOf name qual params body scope dV kV doc pm an cdv ct) ps sp:=by
 refine⟨len,λA outer s H args us vs Q E hr e0 hb r hsp=>?_⟩;have hl:=len _ _ _ _ hsp;have KX:K.In s.heap:=e0.mod.kin.keeps λb o e=>(e0.bs b o e).1
 have lim:s.heap.NoLimit:=e0.mod.nolimit.keeps λb o e=>(e0.bs b o e).1
 have hkind:∀y∈ps.zip us,scope.names.lookup y.1=some .local∨(scope.names.lookup y.1=some .cell/\((cellsFrom (s.heap.objs.size+1) scope.names []).lookup y.1).isSome=true):=λ⟨n,v⟩ hy=>by
  rcases S.par n (Qg7 hy).1 with q | q
  ·exact .inl q
  ·exact .inr ⟨q,PySem.W.cellsFrom_some _ _ _ (.inl q)⟩
 refine codeAny_call_function hr.depth (KX _ _ lk) rfl S.co S.gen rfl (PySem.W.codeRec_of KX hcd) (hb _ _ _ _ ?_);refine wpAny_newFunctionEnv_cells S.kind hkind λenv he s1 x=>?_
 subst he;refine⟨lim.keeps x.toInCall.keep,codeAny_func ?_⟩;obtain⟨t,ht,hq⟩:=hbody A outer s H vs Q E (hr.deeper _) hsp;have I:Inv (QoY CX P w K mg base N qual scope f cdv A outer s H E) [] (start N vs) H s1:=QnC S hr.hd e0 hl r x;refine wpAny_mono (ht [] s1 (start N vs) H _ I hq) (λfl s' hs=>?_) λe s' hs=>hs
 have fin:∀{σ':St}{H':Hp}{v:V}{u:Value},Inv (QoY CX P w K mg base N qual scope f cdv A outer s H E) [] σ' H' s'->RelV v u->Q v H'->CE outer P w H s Q u s':=
  λ{σ' H' v u} J rv q=>⟨v,H',J.os,J.bare,J.base,J.hok,rv,q⟩
 cases fl with
 |ret u=>
  obtain⟨v,σ',H',J,rv,q⟩:=hs;exact fin J rv q
 |next=>
  obtain⟨σ',H',J,q⟩:=hs;exact fin (v:=V.non) (u:=JD) J rfl q
 |brk=>
  obtain⟨_,_,_,q⟩:=hs;exact Ys q
 |cont=>
  obtain⟨_,_,_,q⟩:=hs;exact Ys q
section
variable{X:Cx}{x:Str}{p pos:Pos}{e:Q2}{es:List Q2}{t:TA}{id T:String}{r:List V->Hp->VK->Prop}
def tCB(r:List V->Hp->VK->Prop)(t:TA):TE:=λσ H Q=>t σ H λvs H1=>r vs H1 Q
theorem Qcu(hc:CallR X (.builtin id) r)(hg:Gl X x)(hm:X.mg x=none)(hv:bootBuiltins x=some (.builtin id))(ha:PA X (e::es) t)(hn:x ≠ "__name__" := by decide)(hdb:(x == ("__debug__" : Str))=false:=by decide)
  (he:starEach (e::es) X.env=(false,eval e X.env)::starEach es X.env:=by rfl)(hpl:(backTo pos (starEach es X.env)).any (·.1)=false:=by rfl):PE X (.Call (.Name x p) (e::es) [] pos) (tCB r t):=by
 intro pins s σ H Q I h;refine Qcn (QcN I hg hm hv ?_ hn hdb);exact PyProof.Rows.callWith_builtin1 (thn (ha pos pins s σ H _ I h) λus s1 ⟨vs,H1,I1,r1,q1⟩=>hc pins s1 σ H1 vs us Q I1 r1 q1) he hpl
theorem QmU(hc:CallR X (.type T) r)(hg:Gl X x)(hm:X.mg x=none)(hv:bootBuiltins x=some (.type T))(ha:PA X (e::es) t)(hn:x ≠ "__name__" := by decide)(hdb:(x == ("__debug__" : Str))=false:=by decide)
  (he:starEach (e::es) X.env=(false,eval e X.env)::starEach es X.env:=by rfl)(hpl:(backTo pos (starEach es X.env)).any (·.1)=false:=by rfl):PE X (.Call (.Name x p) (e::es) [] pos) (tCB r t):=by
 intro pins s σ H Q I h;refine Qcn (QcN I hg hm hv ?_ hn hdb);exact JH (thn (ha pos pins s σ H _ I h) λus s1 ⟨vs,H1,I1,r1,q1⟩=>hc pins s1 σ H1 vs us Q I1 r1 q1) he hpl
end
end L2
namespace HT
theorem QpF(A:Je)(s:Shared)(a:Int)(t:Tok)(c:Int)(u:Tok)(prog:QD)(w:Jl)(E:Value->Shared->Prop)(Q:Value->Shared->Prop)(h:Q (.bool (decide (a<c))) s) :
  wpAny (model prog w) A (richCompare .Lt (.int a t) (.int c u)) Q E s:=
 (PyProof.Rows.lt_int h:wpAny (model prog w) A (compareOp .Lt (.int a t) (.int c u)) Q E s)
section
open PySem.SeqAt
open PySem.AutoSeq1 (wpAny_loadPart')
open PySem.MeetsSeq PySem.MeetsSeq2 PySem.MeetsSeq3
end
section
variable{prog:QD}{w:Jl}{A:Je}{E:Value->Shared->Prop}{s:Shared}
theorem Qv4{t b:Addr}{vs ws:List Value}{Q:Value->Shared->Prop}(ht:IsTup s.heap t vs.toArray)(hb:IsTup s.heap b ws.toArray)(hv:vs≠[])
  (h1:ws=[]->Q (.ref t) s)(h2:ws≠[]->Q (.ref s.heap.objs.size) { s with heap:=s.heap.push { cls:=.type "tuple",data:=.seq (vs++ws).toArray } })
  (hsz:vs.length+ws.length<=sizeLine):wpAny (model prog w) A (binaryOp .Add (.ref t) (.ref b)) Q E s:=by
 obtain⟨⟨cls,dd,data,sl⟩,ho,hc,n,hd⟩:=id ht;obtain⟨⟨cls2,dd2,data2,sl2⟩,ho2,hc2,n2,hd2⟩:=id hb;simp only at hc hd hc2 hd2;subst hc hd hc2 hd2;have e:vs.toArray++ws.toArray=(vs++ws).toArray:=by simp
 by_cases hw:ws=[]
 ·exact Qth ⟨_,ho,rfl⟩ ⟨_,ho2,rfl⟩ Qiw Qo0 PySem.F.slot_tuple_add PySem.F.entry_tuple_add (PySem.F.args_tuple_add_2 _ _)
   (tuple_addW1 t b vs.toArray ws.toArray n n2 dd dd2 sl sl2 (by simpa using hv) (by simp[hw])) ⟨ho,ho2,h1 hw⟩
 ·refine Qth ⟨_,ho,rfl⟩ ⟨_,ho2,rfl⟩ Qiw Qo0 PySem.F.slot_tuple_add PySem.F.entry_tuple_add (PySem.F.args_tuple_add_2 _ _)
   (tuple_addW2 t b vs.toArray ws.toArray n n2 dd dd2 sl sl2 (by simpa using hv) (by simpa using hw) (by rw[Qo,Qo];exact hsz)) ⟨ho,ho2,?_⟩
  rw[e];exact h2 hw
def sIx(n d:Nat):Option Int->Nat
 |none=>d
 |some v=>if v<0 then(v+(n:Int)).toNat else min v.toNat n
theorem Qey(n d:Nat):sIx n d none=d:=rfl
theorem QiS(n d k:Nat):sIx n d (some (k:Int))=min k n:=by
 show(if(k:Int)<0 then((k:Int)+(n:Int)).toNat else min (k:Int).toNat n)=min k n;rw[if_neg (by omega),Q4]
theorem Qxf(n d:Nat)(hd:d<=n)(o:Option Int):sIx n d o<=n:=by
 cases o with
 |none=>exact hd
 |some v=>
  show(if v<0 then(v+(n:Int)).toNat else min v.toNat n)<=n;by_cases hv:v<0
  ·rw[if_pos hv];omega
  ·rw[if_neg hv];exact Qf8 _ _
theorem Qon(v:Int)(n d:Nat):(if v<0 then max (v+(n:Int)) 0 else min v (n:Int))=((sIx n d (some v):Nat):Int):=by
 show(if v<0 then max (v+(n:Int)) 0 else min v (n:Int))=(((if v<0 then(v+(n:Int)).toNat else min v.toNat n):Nat):Int);by_cases hv:v<0
 ·simp only[if_pos hv];omega
 ·simp only[if_neg hv];omega
theorem QlN(lo hi:Option Int)(n:Nat):QaR lo hi 1 (n:Int)=(((sIx n 0 lo:Nat):Int),((sIx n n hi:Nat):Int)):=by
 have h1:¬((1:Int)<0):=by omega
 unfold QaR;simp only[h1,if_false];refine Prod.ext ?_ ?_
 ·cases lo with
  |none=>rfl
  |some v=>exact Qon v n 0
 ·cases hi with
  |none=>rfl
  |some v=>exact Qon v n n
theorem Qll(i j:Nat):YD (i:Int) (j:Int) 1=j - i:=by
 unfold YD;have h1:(1:Int) > 0:=by omega
 simp only[h1,if_true,Int.ediv_one];split<;>omega
theorem QfE{v:Value}{o:Option Int}{Q:Option Int->Shared->Prop}(p:Qiq v o)(h:Q o s):wpAny (model prog w) A (QAh v) Q E s:=by
 cases p with
 |none=>exact slicePart_none h
 |int i t=>exact slicePart_int h
theorem QbP{sl:Addr}{vl vu:Value}{lo hi:Option Int}{n:Nat}{Q:Int×Int×Nat->Shared->Prop}(hs:s.heap.IsSliceOf sl vl vu .none)(pl:Qiq vl lo)(pu:Qiq vu hi)
  (h:Q (((sIx n 0 lo:Nat):Int),1,sIx n n hi - sIx n 0 lo) s):wpAny (model prog w) A (Qed (.ref sl) (pure (n:Int))) Q E s:=by
 obtain⟨os,hos,hcs,hds⟩:=id hs;unfold Qed QAi;refine wpAny_bind (wpAny_bind (Ze hos hds (x:=vl) rfl (wpAny_bind (Ze hos hds (x:=vu) rfl (wpAny_bind (Ze hos hds (x:=.none) rfl (wpAny_pure ?_)))))));refine wpAny_bind (slicePart_none ?_);show wpAny _ _ (if((1:Int) == 0)=true then _ else _) _ _ s;rw[if_neg (by decide)];refine wpAny_bind (QfE pl (wpAny_bind (QfE pu (wpAny_bind (wpAny_pure ?_)))));show wpAny _ _ (match QaR lo hi 1 (n:Int) with | (lo,hi)=>pure (lo,(1:Int),YD lo hi 1)) _ _ s;rw[QlN lo hi n];show wpAny _ _ (pure (((sIx n 0 lo:Nat):Int),(1:Int),YD ((sIx n 0 lo:Nat):Int) ((sIx n n hi:Nat):Int) 1)) _ _ s;rw[Qll];exact wpAny_pure h
theorem QpM(xs:Array Value)(i k:Nat):((Qk k).filterMap λ(m:Nat)=>xs[((i:Int)+(m:Int)*1).toNat]?).toArray=((xs.toList.drop i).take k).toArray:=by
 have e:(λ(m:Nat)=>xs[((i:Int)+(m:Int)*1).toNat]?)=λm=>xs[i+m]? := by
  funext m
  have:((i:Int)+(m:Int)*1).toNat=i+m:=by omega
  rw[this]
 rw[e];have:=pick_run xs i k;rw[Qax] at this;have e2:((λx=>xs[x]?)∘λx=>i+x)=λm=>xs[i+m]? := rfl
 rw[e2] at this;rw[this]
theorem Qd4{t sl:Addr}{items:Array Value}{vl vu:Value}{lo hi:Option Int}{Q:Value->Shared->Prop}(ht:IsTup s.heap t items)(hs:s.heap.IsSliceOf sl vl vu .none)(pl:Qiq vl lo)(pu:Qiq vu hi)
  (hw:¬(sIx items.size 0 lo=0/\sIx items.size items.size hi=items.size))
  (h:Q (.ref s.heap.objs.size) { s with heap:=s.heap.push { cls:=.type "tuple",data:=.seq ((items.toList.drop (sIx items.size 0 lo)).take (sIx items.size items.size hi - sIx items.size 0 lo)).toArray } })
  (hsz:items.size<=sizeLine):wpAny (model prog w) A (getItem (.ref t) (.ref sl)) Q E s:=by
 have htake:sizeOk (.seq ((items.toList.drop (sIx items.size 0 lo)).take (sIx items.size items.size hi - sIx items.size 0 lo)).toArray):=by
  show((items.toList.drop (sIx items.size 0 lo)).take (sIx items.size items.size hi - sIx items.size 0 lo)).toArray.size<=sizeLine;rw[Qo,Jo,ZH,Qd];omega
 have hj:sIx items.size items.size hi<=items.size:=Qxf _ _ (Qj _) hi;obtain⟨os,hos,hcs,hds⟩:=id hs;have hTs:s.TypeIs (.ref sl) "slice" := ⟨os,hos,hcs⟩;unfold getItem
 try with_reducible refine Za ?_
 first | refine wpAny_bind (wpAny_pure ?_) | skip
 refine wpAny_bind (QzR ht.typeIs (by decide) ?_);refine wpAny_bind (Zb (name:=Qao "__getitem__") ht.typeIs J3
  (JO J3 ht.typeIs QwB ?_ (Qzr _ _)))
 show wpAny _ _ (Qec (.ref t) >>= _) _ _ s;refine wpAny_bind (tupleItemsOf_ ht ?_);refine wpAny_bind (Qcm hTs ?_);rw[if_pos (by decide)];refine wpAny_bind (QbP hs pl pu ?_);have hno:¬((((sIx items.size 0 lo:Nat):Int) == 0&&(1:Int) == 1&&(sIx items.size items.size hi - sIx items.size 0 lo) == items.size)=true):=by
  intro q;rw[JR,JR] at q;have q1:((sIx items.size 0 lo:Nat):Int)=0:=eq_of_beq q.1.1;have q2:sIx items.size items.size hi - sIx items.size 0 lo=items.size:=eq_of_beq q.2;exact hw ⟨by omega,by omega⟩
 show wpAny _ _ (if(((sIx items.size 0 lo:Nat):Int) == 0&&(1:Int) == 1&&(sIx items.size items.size hi - sIx items.size 0 lo) == items.size)=true then _ else _) _ _ s;rw[if_neg hno,QpM]
 first
  |exact wpAny_bind (m:=YM _) (JC (wpAny_pure ⟨_,rfl,wpAny_pure h⟩) htake)
  |exact wpAny_bind (m:=YM _) (JC (wpAny_bind (wpAny_pure (wpAny_pure ⟨_,rfl,wpAny_pure h⟩))) htake)
  |exact wpAny_bind (wpAny_bind (m:=YM _) (JC (wpAny_pure (wpAny_pure ⟨_,rfl,wpAny_pure h⟩)) htake))
  |exact wpAny_bind (wpAny_bind (m:=YM _) (JC (wpAny_pure ⟨_,rfl,wpAny_pure h⟩) htake))
end
end HT
namespace L2
abbrev TO:=St->Hp->(Option Int->Hp->Prop)->Prop
def PO(X:Cx)(e:Option Q2)(t:TO):Prop:=
 ∀(pins:List (Addr×Obj))(s:Shared)(σ:St)(H:Hp)(Q:Option Int->Hp->Prop),Inv X pins σ H s->t σ H Q ->
  wpAny (model X.prog X.w) X.A (evalPart e X.env) (λu s'=>∃o H',Inv X pins σ H' s'/\Qiq u o/\Q o H') X.xe s
def QtJ:TO:=λ_ H Q=>Q none H
def QAm(t:TE):TO:=λσ H Q=>t σ H λx H1=>∃i,x=.int i/\Q (some i) H1
theorem intsAre_of{ns:List Int}:∀{us:List Value},Vals (ns.map V.int) us->IntsAre us ns:=by
 induction ns with
 |nil=>intro us r;rw[Qfo] at r;cases r;exact .nil
 |cons n ns ih=>
  intro us r;rw[Jh] at r;cases r with
  |cons r1 r2=>
   obtain⟨t,e⟩:=r1;subst e;exact .cons n t (ih r2)
section
variable{X:Cx}{e:Q2}{te:TE}{lo hi:Option Q2}{tl th:TO}{pos p2:Pos}
theorem Quh:PO X none QtJ:=by
 intro pins s σ H Q I h;rw[evalPart_none];exact wpAny_pure ⟨none,H,I,.none,h⟩
theorem Qug(h:PE X e te):PO X (some e) (QAm te):=by
 intro pins s σ H Q I hw;rw[evalPart_some];refine thn (h pins s σ H _ I hw) λu s1 ⟨x,H1,I1,r1,q1⟩=>?_
 obtain⟨i,rfl,q⟩:=q1;obtain⟨t,rfl⟩:=r1;exact⟨some i,H1,I1,.int i t,q⟩
def SlR(X:Cx)(r:V->Option Int->Option Int->Hp->VK->Prop):Prop:=
 ∀(pins:List (Addr×Obj))(s:Shared)(σ:St)(H:Hp)(x:V)(v vl vu:Value)(lo hi:Option Int)(sl:Addr)(Q:VK),Inv X pins σ H s->RelV x v->s.heap.IsSliceOf sl vl vu .none->Qiq vl lo->Qiq vu hi->r x lo hi H Q ->
  ∃T id,typeLookup (.type T) "__getitem__" = pure (some (.builtin id))/\s.TypeIs v T/\wpAny (model X.prog X.w) X.A (getItem v (.ref sl)) (EP X pins σ Q) X.xe s
def tSl(r:V->Option Int->Option Int->Hp->VK->Prop)(te:TE)(tl th:TO):TE:=λσ H Q=>te σ H λx H1=>tl σ H1 λl H2=>th σ H2 λu H3=>r x l u H3 Q
theorem QpQ{r:V->Option Int->Option Int->Hp->VK->Prop}(hr:SlR X r)(he:PE X e te)(hl:PO X lo tl)(hu:PO X hi th):PE X (.Subscript e (.Slice lo hi none p2) pos) (tSl r te tl th):=by
 intro pins s σ H Q I h;refine Subscript_ (thn (he pins s σ H _ I h) λv s1 ⟨x,H1,I1,r1,q1⟩=>?_);refine wpAny_Slice (thn (hl pins s1 σ H1 _ I1 q1) λvl s2 ⟨l,H2,I2,pl,q2⟩=>thn (hu pins s2 σ H2 _ I2 q2) λvu s3 ⟨u,H3,I3,pu,q3⟩=>?_);rw[evalPart_none];refine wpAny_pure ?_
 have I4:Inv X pins σ H3 { s3 with heap:=s3.heap.push { cls:=.type "slice",data:=.fields #[vl,vu,.none] } }:=I3.kept (t':=s3.toks) λb ob q=>Qe _ q
 obtain⟨T,id,hT,ht,hg⟩:=hr pins { s3 with heap:=s3.heap.push { cls:=.type "slice",data:=.fields #[vl,vu,.none] } } σ H3 x v vl vu l u s3.heap.objs.size Q I4 r1 (Qzz ..) pl pu q3;show wpAny (model X.prog X.w) X.A (subscriptTail e (.Slice lo hi none p2) v (.ref s3.heap.objs.size)) (EP X pins σ Q) X.xe { s3 with heap:=s3.heap.push { cls:=.type "slice",data:=.fields #[vl,vu,.none] } };exact tail_any (ops:=[.ref s3.heap.objs.size,v]) ht hT hg (by with_unfolding_all rfl)
def QkB(xs:List V)(lo hi:Option Int):List V:=(xs.drop (HT.sIx xs.length 0 lo)).take (HT.sIx xs.length xs.length hi - HT.sIx xs.length 0 lo)
theorem Qfc(xs:List V)(lo hi:Option Int):(QkB xs lo hi).length<=xs.length:=by
 unfold QkB;rw[Jo,ZH];omega
def QCy(K:PySem.W.Frag):V->Option Int->Option Int->Hp->VK->Prop:=λx lo hi H Q=>∃a xs,x=.ref a/\SqT K H a xs /\
 ¬(HT.sIx xs.length 0 lo=0/\HT.sIx xs.length xs.length hi=xs.length)/\∀p,H p=none->Q (.ref p) (upd H p (.tup (QkB xs lo hi)))
theorem Qw6:SlR X (QCy X.K):=by
 intro pins s σ H x v vl vu lo hi sl Q I rx hs pl pu h;obtain⟨a,xs,rfl,hx,hw,q⟩:=h;cases rx;obtain⟨its,r,ht,hz⟩:=I.tuple hx;have hlen:its.toArray.size=xs.length:=by rw[Qo];exact r.length.symm
 refine⟨"tuple",_,J3.lookup,ht.typeIs,?_⟩;refine HT.Qd4 ht hs pl pu (by rw[hlen];exact hw) ?_ (by rw[hlen];exact hz)
 rw[hlen];refine⟨.ref s.heap.objs.size,_,I.laid (t':=s.toks) (o:=.tup (QkB xs lo hi)) (λb ob q=>Qe _ q) (Qj _) ?_,rfl,q _ (I.hok.fresh (Qj _))⟩;exact⟨Jk (Qfc xs lo hi) hz,_,(r.drop (HT.sIx xs.length 0 lo)).take (HT.sIx xs.length xs.length hi - HT.sIx xs.length 0 lo),Qk1 _ _⟩
def QAB(K:PySem.W.Frag):R2:=λx y H Q=>∃a b xs ys,x=.ref a/\y=.ref b/\SqT K H a xs/\SqT K H b ys/\xs≠[]/\xs.length+ys.length<=sizeLine /\
 (ys=[]->Q (.ref a) H)/\(ys≠[]->∀p,H p=none->Q (.ref p) (upd H p (.tup (xs++ys))))
theorem Vals.nil_iff{xs:List V}{us:List Value}(r:Vals xs us):us=[]↔xs=[]:=by
 cases r with
 |nil=>simp
 |cons _ _=>simp
theorem QuS:OpR X (binaryOp .Add) (QAB X.K):=by
 intro pins s σ H x y v u Q I rx ry h;obtain⟨a,b,xs,ys,rfl,rfl,ha,hb,hx,hz,q1,q2⟩:=h;cases rx;cases ry;obtain⟨its,r1,p1,_⟩:=I.tuple ha;obtain⟨its2,r2,p2,_⟩:=I.tuple hb;refine HT.Qv4 p1 p2 (λz=>hx (r1.nil_iff.mp z)) (λz=>⟨.ref a,H,I,rfl,q1 (r2.nil_iff.mp z)⟩) (λz=>?_) (by rw[<- r1.length,<- r2.length];exact hz);refine⟨.ref s.heap.objs.size,_,I.laid (t':=s.toks) (o:=.tup (xs++ys)) (λb ob q=>Qe _ q) (Qj _) ?_,rfl,q2 (λw=>z (r2.nil_iff.mpr w)) _ (I.hok.fresh (Qj _))⟩;exact⟨by rw[Qs];exact hz,_,r1.append r2,Qk1 _ _⟩
end
def ixN(n:Nat)(i:Int):Option Nat:=if 0<=i then(if i<n then some i.toNat else none) else if -(n:Int)<=i then some (i+n).toNat else none
def atI{α:Type}(xs:List α)(i:Int):Option α:=(ixN xs.length i).bind λj=>xs[j]?
theorem QnA{n:Nat}{i:Int}{j:Nat}(h:ixN n i=some j):seqIndex? i n=some j/\j<n /\ -(n:Int)<=i/\i<n:=by
 unfold ixN at h;by_cases h0:0<=i
 ·rw[if_pos h0] at h;by_cases h1:i<n
  ·rw[if_pos h1] at h;have e:i.toNat=j:=Qu h;exact⟨by rw[QkT h0 h1,e],by omega,by omega,h1⟩
  ·rw[if_neg h1] at h;cases h
 ·rw[if_neg h0] at h;by_cases h1 : -(n:Int)<=i
  ·rw[if_pos h1] at h;have e:(i+n).toNat=j:=Qu h;exact⟨by rw[Qik (by omega) h1,e],by omega,h1,by omega⟩
  ·rw[if_neg h1] at h;cases h
theorem Qjq{α:Type}{xs:List α}{i:Int}{v:α}(h:atI xs i=some v):∃j,seqIndex? i xs.length=some j/\xs[j]? = some v/\j<xs.length /\ -(xs.length:Int)<=i/\i<xs.length:=by
 unfold atI at h;cases e:ixN xs.length i with
 |none=>rw[e] at h;cases h
 |some j=>
  rw[e] at h;obtain⟨h1,h2,h3,h4⟩:=QnA e;exact⟨j,h1,h,h2,h3,h4⟩
theorem Qam{α:Type}{xs:List α}{j:Nat}{v:α}(h:xs[j]? = some v):atI xs (j:Int)=some v:=by
 have hj:j<xs.length:=(QR.mp h).1;have e:ixN xs.length (j:Int)=some j:=by
  unfold ixN;rw[if_pos (by omega),if_pos (by omega)];simp
 unfold atI;rw[e];exact h
theorem Qsa{α:Type}(xs:List α)(v:α):atI (xs++[v]) (-1)=some v:=by
 have hl:(xs++[v]).length=xs.length+1:=by simp
 have e:ixN (xs++[v]).length (-1)=some xs.length:=by
  unfold ixN;rw[hl,if_neg (by decide),if_pos (by omega)]
  congr 1
  omega
 unfold atI;rw[e];show(xs++[v])[xs.length]? = some v;simp
def Qjt(b:Q2):Prop:=∀o i,subscripted b false o i=operate [o,i] (getItem o i)
def IxR(X:Cx)(r:R2):Prop:=
 ∀(value slice:Q2)(pins:List (Addr×Obj))(s:Shared)(σ:St)(H:Hp)(x y:V)(v u:Value)(Q:VK),Inv X pins σ H s->RelV x v->RelV y u->r x y H Q ->
  subscripted slice false v u=operate [v,u] (getItem v u)->wpAny (model X.prog X.w) X.A (subscriptTail value slice v u) (EP X pins σ Q) X.xe s
def MtR(X:Cx)(id:String)(r:V->List V->Hp->VK->Prop):Prop:=
 ∀(pins:List (Addr×Obj))(s:Shared)(σ:St)(H:Hp)(x:V)(xs:List V)(v:Value)(us:List Value)(Q:VK),Inv X pins σ H s->RelV x v->Vals xs us->r x xs H Q ->
  wpAny (model X.prog X.w) X.A (call (.builtin id) (v::us)) (EP X pins σ Q) X.xe s
section
variable{X:Cx}{a b:Q2}{ta tb:TE}{pos:Pos}
theorem QmT{r:R2}(hr:IxR X r)(ha:PE X a ta)(hb:PE X b tb)(hs:Qjt b):PE X (.Subscript a b pos) (tOp r ta tb):=by
 intro pins s σ H Q I h;exact Subscript_ (QBq ha hb I h λv u s2 x y H2 I2 rx ry q=>hr a b pins s2 σ H2 x y v u Q I2 rx ry q (hs _ _))
def QzH(K:PySem.W.Frag):R2:=λx y H Q=>∃p xs i v,x=.ref p/\y=.int i/\SqL K H p xs/\atI xs i=some v/\Q v H
def QAz(K:PySem.W.Frag):R2:=λx y H Q=>∃p xs i v,x=.ref p/\y=.int i/\SqT K H p xs/\atI xs i=some v/\Q v H
theorem QgG:IxR X (QzH X.K):=by
 intro value slice pins s σ H x y v u Q I rx ry h hs;obtain⟨p,xs,i,z,rfl,rfl,hq,he,q⟩:=h;cases rx;obtain⟨t,rfl⟩:=ry;obtain⟨its,r,pl,hz⟩:=I.list hq;obtain⟨j,h1,h2,h3,h4,h5⟩:=Qjq he;obtain⟨w,ew,rw'⟩:=r.get h2;have hl:=r.length;have hn:=QfR;have fin:EP X pins σ Q w s:=⟨z,H,I,rw',q⟩;by_cases h0:0<=i
 ·have hj:i.toNat=j:=by
   rw[QkT h0 h5] at h1;exact Qu h1
  exact item_listR pl.isList h0 (by omega) (by rw[hj];simpa using ew) fin hs
 ·have hj:(i+(its.toArray.size:Int)).toNat=j:=by
   rw[Qik (by omega) h4] at h1;rw[Qo,<- hl];exact Qu h1
  exact Qsf (x:=w) pl.isList.typeIs QzX.lookup
   (Qse (Q:=λr s'=>r=w/\EP X pins σ Q r s') pl.isList (by omega) (by rw[Qo]<;>omega) (by omega) (by rw[hj];simpa using ew) ⟨rfl,fin⟩) hs
theorem QsV:IxR X (QAz X.K):=by
 intro value slice pins s σ H x y v u Q I rx ry h hs;obtain⟨p,xs,i,z,rfl,rfl,hq,he,q⟩:=h;cases rx;obtain⟨t,rfl⟩:=ry;obtain⟨its,r,pl,hz⟩:=I.tuple hq;obtain⟨j,h1,h2,h3,h4,h5⟩:=Qjq he;obtain⟨w,ew,rw'⟩:=r.get h2;have hl:=r.length;have hn:=QfR;have fin:EP X pins σ Q w s:=⟨z,H,I,rw',q⟩;exact Qsf (x:=w) pl.typeIs slot_tuple_getitem.lookup
  (getItem_tuple (j:=j) (Q:=λr s'=>r=w/\EP X pins σ Q r s') pl (by omega) (by omega) (by rw[Qo,<- hl];exact h1) (by simpa using ew) ⟨rfl,fin⟩) hs
theorem Qlv(its:List Value)(n j:Nat)(u:Value):J5 (·.setIfInBounds j u) { cls:=.type "list",data:=.seq its.toArray n }={ cls:=.type "list",data:=.seq (its.set j u).toArray n }:=by
 simp[J5]
theorem Inv.lst{pins:List (Addr×Obj)}{σ:St}{H:Hp}{s:Shared}{p:Addr}{xs:List V}(I:Inv X pins σ H s)(h:H p=some (.lst xs)) :
  ∃(its:List Value)(n:Nat),Vals xs its/\s.heap.get? p=some { cls:=.type "list",data:=.seq its.toArray n }/\xs.length<=sizeLine:=by
 obtain⟨z,its,n,r,e⟩:=I.hok p _ h;exact⟨its,n,r,e,z⟩
theorem Inv.lstUpd{pins:List (Addr×Obj)}{σ:St}{H:Hp}{s:Shared}{p:Addr}{xs ys:List V}{its its':List Value}{n n':Nat}{f:Obj->Obj}(I:Inv X pins σ H s)(h:H p=some (.lst xs))
  (ho:s.heap.get? p=some { cls:=.type "list",data:=.seq its.toArray n })(hf:f { cls:=.type "list",data:=.seq its.toArray n }={ cls:=.type "list",data:=.seq its'.toArray n' })(r:Vals ys its')(hz:ys.length<=sizeLine)(t:Nat) :
  Inv X pins σ (upd H p (.lst ys)) { s with heap:=s.heap.update p f,toks:=t }:=by
 have e:(s.heap.update p f).get? p=some { cls:=.type "list",data:=.seq its'.toArray n' }:=by
  rw[ZC f ho (by rw[hf]<;>rfl),hf]
 refine I.write (x:=p) (e:=p) (by rw[h];trivial) (.inl rfl) (λb u hb q=>(Yx _ _ (Qb0 hb)).trans q) ⟨_,e⟩ ?_
 exact⟨hz,its',n',r,e⟩
def Qxn:V->V->V->Hp->(Hp->Prop)->Prop:=λo i v H Q=>∃p xs k j,o=.ref p/\i=.int k/\H p=some (.lst xs)/\ixN xs.length k=some j/\Q (upd H p (.lst (xs.set j v)))
theorem QjR:QBw X Qxn:=by
 intro pins s σ H o i v ov iv u Q I ro ri rv h;obtain⟨p,xs,k,j,rfl,rfl,hp,hj,q⟩:=h;cases ro;obtain⟨t,rfl⟩:=ri;obtain⟨its,n,r,ho,hz⟩:=I.lst hp;obtain⟨h1,h2,h3,h4⟩:=QnA hj;have hl:=r.length;have hn:=QfR;have I':Inv X pins σ (upd H p (.lst (xs.set j v))) { s with heap:=s.heap.update p (J5 (·.setIfInBounds j u)) }:=
  I.lstUpd hp ho (Qlv its n j u) (r.set rv j) (by rw[Yg];exact hz) s.toks
 by_cases h0:0<=k
 ·have hk:k.toNat=j:=by
   rw[QkT h0 h4] at h1;exact Qu h1
  exact PySem.W.ki_setAt ho h0 (by omega) (by rw[Qo,<- hl];exact h4) (by rw[hk];exact⟨_,I',q⟩)
 ·have hk:(k+(its.toArray.size:Int)).toNat=j:=by
   rw[Qik (by omega) h3] at h1;rw[Qo,<- hl];exact Qu h1
  exact PySem.W.ki_setBack ho (by omega) (by rw[Qo,<- hl];exact h3) (by omega) (by rw[hk];exact⟨_,I',q⟩)
theorem Qhy(lo hi:Option Int)(n:Nat):(sliceBounds lo hi none n).1=((HT.sIx n 0 lo:Nat):Int)/\(sliceBounds lo hi none n).2.1=((HT.sIx n n hi:Nat):Int)/\(sliceBounds lo hi none n).2.2=1:=by
 refine⟨?_,?_,rfl⟩
 ·cases lo with
  |none=>simp[sliceBounds,HT.sIx]
  |some i=>
   simp only[sliceBounds,HT.sIx,Qo4,show(1:Int) > 0 by decide,if_true];by_cases h:i<0
   ·simp only[h,if_true]<;>omega
   ·simp only[h,if_false]<;>omega
 ·cases hi with
  |none=>simp[sliceBounds,HT.sIx]
  |some i=>
   simp only[sliceBounds,HT.sIx,Qo4,show(1:Int) > 0 by decide,if_true];by_cases h:i<0
   ·simp only[h,if_true]<;>omega
   ·simp only[h,if_false]<;>omega
theorem Qgm(its:List Value)(lo hi:Option Int):slicePick its.toArray lo hi none=((its.drop (HT.sIx its.length 0 lo)).take (HT.sIx its.length its.length hi - HT.sIx its.length 0 lo)).toArray:=by
 obtain⟨h1,h2,h3⟩:=Qhy lo hi its.toArray.size;unfold slicePick;rw[h1,h2,h3];simp only[sliceRange_one,pick_run,Qo]<;>rfl
def QCz(K:PySem.W.Frag):V->Option Int->Option Int->Hp->VK->Prop:=λx lo hi H Q=>∃a xs,x=.ref a/\SqL K H a xs/\∀p,H p=none->Q (.ref p) (upd H p (.lst (QkB xs lo hi)))
theorem QtP:SlR X (QCz X.K):=by
 intro pins s σ H x v vl vu lo hi sl Q I rx hs pl pu h;obtain⟨a,xs,rfl,hx,q⟩:=h;cases rx;obtain⟨its,r,ht,hz⟩:=I.list hx;have hlen:=r.length;refine⟨"list",_,QzX.lookup,ht.isList.typeIs,?_⟩;refine wpAny_getItem_list_slice ht.isList hs pl pu .none (by simp) ?_ (by rw[Qo]<;>omega)
 rw[Qgm,<- hlen];refine⟨.ref s.heap.objs.size,_,I.laid (t':=s.toks) (o:=.lst (QkB xs lo hi)) (λb ob q=>Qe _ q) (Qj _) ?_,rfl,q _ (I.hok.fresh (Qj _))⟩;exact⟨Jk (Qfc xs lo hi) hz,_,0,(r.drop (HT.sIx xs.length 0 lo)).take (HT.sIx xs.length xs.length hi - HT.sIx xs.length 0 lo),Qw _ rfl⟩
theorem Qa8:CallR X (.builtin "len") (λxs H Q=>∃p ys,xs=[.ref p]/\(SqL X.K H p ys∨SqT X.K H p ys)/\Q (.int ys.length) H):=by
 intro pins s σ H xs us Q I r h;obtain⟨p,ys,rfl,hq,q⟩:=h;obtain⟨u,rfl,rx⟩:=vals1 r;cases rx;have hn:=QfR;rcases hq with hq | hq
 ·obtain⟨its,r',pl,hz⟩:=I.list hq;have hlen:=r'.length;exact Calls.call_len_list pl.isList (by simp only[Qo]<;>omega) ⟨.int ys.length,H,I.tok _,⟨s.toks+1,by rw[Qo,hlen]⟩,q⟩
 ·obtain⟨its,r',pl,hz⟩:=I.tuple hq;have hlen:=r'.length;exact len_tuple pl (by simp only[Qo]<;>omega) ⟨.int ys.length,H,I.tok _,⟨s.toks+1,by rw[Qo,hlen]⟩,q⟩
theorem Qib:CallR X (.type "list") (λxs H Q=>∃p ys,xs=[.ref p]/\(SqL X.K H p ys∨SqT X.K H p ys)/\∀l,H l=none->Q (.ref l) (upd H l (.lst ys))):=by
 intro pins s σ H xs us Q I r h;obtain⟨p,ys,rfl,hq,q⟩:=h;obtain⟨u,rfl,rx⟩:=vals1 r;cases rx;have fin:∀(its:List Value),Vals ys its->ys.length<=sizeLine->∀(h':Heap)(c':Nat),(∀b o',s.heap.get? b=some o'->h'.get? b=some o') ->
   h'.get? s.heap.objs.size=some { cls:=.type "list",dict:=none,data:=.seq its.toArray c',slots:=#[] }->EP X pins σ Q (.ref s.heap.objs.size) { s with heap:=h' }:=λits r' hz h' c' kp e=>
  ⟨.ref s.heap.objs.size,_,I.laid (t':=s.toks) kp (Qj _) (show ObjOk X.prog X.w _ h' _ (.lst ys) from⟨hz,its,c',r',e⟩),rfl,q _ (I.hok.fresh (Qj _))⟩
 rcases hq with hq | hq
 ·obtain⟨its,r',pl,hz⟩:=I.list hq;have hlen:=r'.length;obtain⟨o,ho,hc,n,hd⟩:=pl.isList;exact call_list_seq p (.inl rfl) ho hc hd (λh' c' kp e=>fin its r' hz h' c' kp e) (by simp only[Qo]<;>omega)
 ·obtain⟨its,r',pl,hz⟩:=I.tuple hq;have hlen:=r'.length;obtain⟨o,ho,hc,n,hd⟩:=pl;exact call_list_seq p (.inr rfl) ho hc hd (λh' c' kp e=>fin its r' hz h' c' kp e) (by simp only[Qo]<;>omega)
theorem QgX:CallR X (.type "tuple") (λxs H Q=>∃p ys,xs=[.ref p]/\((SqL X.K H p ys/\∀l,H l=none->Q (.ref l) (upd H l (.tup ys)))∨(SqT X.K H p ys/\Q (.ref p) H))):=by
 intro pins s σ H xs us Q I r h;obtain⟨p,ys,rfl,h⟩:=h;obtain⟨u,rfl,rx⟩:=vals1 r;cases rx;rcases h with⟨hq,q⟩ | ⟨hq,q⟩
 ·obtain⟨its,r',pl,hz⟩:=I.list hq;have hlen:=r'.length;refine call_tuple_list pl.isList (λh' kp=>?_) (by simp only[Qo]<;>omega);have I1:Inv X pins σ H { s with heap:=h' }:=I.kept (t':=s.toks) kp;have I2:Inv X pins σ (upd H h'.objs.size (.tup ys)) { s with heap:=h'.push { cls:=.type "tuple",data:=.seq its.toArray } }:=
   I1.laid (t':=s.toks) (λb o e=>Qe _ e) (Qj _) (show ObjOk X.prog X.w _ _ _ (.tup ys) from⟨hz,its,r',Qk1 _ _⟩)
  exact⟨.ref h'.objs.size,_,I2,rfl,q _ (I1.hok.fresh (Qj _))⟩
 ·obtain⟨its,r',pl,hz⟩:=I.tuple hq;exact call_tuple_same pl ⟨.ref p,H,I,rfl,q⟩
def tyV(K:PySem.W.Frag)(T:String)(x:V)(H:Hp):Prop:=match x with
 |.str _=>T = "str"
 |.int _=>T = "int"
 |.ref p=>(T = "list" /\ ∃xs,SqL K H p xs)∨(T = "tuple" /\ ∃o,K.lookup p=some o/\o.cls=.type "tuple" /\ o.dict=none) ∨
   (T = "dict" /\ ((∃kvs,H p=some (.dK kvs))∨∃kvs,H p=some (.dT kvs)))∨(T = "set" /\ ∃S n,H p=some (.set S n))
 |_=>False
theorem QwR{pins:List (Addr×Obj)}{σ:St}{H:Hp}{s:Shared}{T:String}{x:V}{v:Value}(I:Inv X pins σ H s)(r:RelV x v)(ty:tyV X.K T x H) :
  s.TypeIs v T/\∀a,v=.ref a->∃ob,s.heap.get? a=some ob/\ob.dict=none:=by
 cases x with
 |str z=>
  obtain⟨t,rfl⟩:=r;cases(show T = "str" from ty);exact⟨typeIs_str s z t,λ_ e=>nomatch e⟩
 |int i=>
  obtain⟨t,rfl⟩:=r;cases(show T = "int" from ty);exact⟨QzW s i t,λ_ e=>nomatch e⟩
 |ref p=>
  cases r;rcases ty with⟨rfl,xs,hq⟩ | ⟨rfl,o,hk,hc,hd⟩ | ⟨rfl,hk⟩ | ⟨rfl,S,n,hk⟩
  ·obtain⟨its,_,pl,_⟩:=I.list hq;refine⟨pl.isList.typeIs,λa e=>?_⟩;cases e;obtain⟨o,n,e,c,hd,_⟩:=pl;exact⟨o,e,hd⟩
  ·refine⟨⟨o,I.kIn p o hk,hc⟩,λa e=>?_⟩;cases e;exact⟨o,I.kIn _ o hk,hd⟩
  ·have z:∃o,s.heap.get? p=some o/\o.ExactDict:=by
    rcases hk with⟨kvs,hk⟩ | ⟨kvs,hk⟩
    ·obtain⟨_,_,_,_,o,_,_,e,ex,_⟩:=I.hok p _ hk;exact⟨o,e,ex⟩
    ·obtain⟨_,_,_,_,o,_,_,e,ex,_⟩:=I.hok p _ hk;exact⟨o,e,ex⟩
   obtain⟨o,e,ex⟩:=z;refine⟨⟨o,e,ex.1⟩,λa e2=>?_⟩;cases e2;exact⟨o,e,ex.2.1⟩
  ·obtain⟨o,_,_,_,e,ex,_⟩:=I.hok p _ hk;refine⟨⟨o,e,ex.1⟩,λa e2=>?_⟩;cases e2;exact⟨o,e,ex.2.1⟩
 |_=>exact Ys ty
def tBM(K:PySem.W.Frag)(T:String)(r:V->List V->Hp->VK->Prop)(to:TE)(t:TA):TE:=λσ H Q=>to σ H λx H1=>tyV K T x H1/\t σ H1 λxs H2=>r x xs H2 Q
variable{o e:Q2}{es:List Q2}{to:TE}{t:TA}{name:Str}{apos cpos:Pos}{T id:String}{r:V->List V->Hp->VK->Prop}
theorem QxM(pa:PlainAttrs T)(slot:Slot T name id)(hty:typeOf (.builtin id)=pure (.type "method_descriptor"))(hm:MtR X id r)(ho:PE X o to)(ha:PA X (e::es) t)
  (hbase:attributeBase o name X.env (eval o X.env)=eval o X.env:=by rfl)
  (hfew:((backTo cpos (starEach (e::es) X.env)).all (λx => !x.1)&&(backToKw cpos (keywordEach [] X.env)).all (λx=>x.1.isSome)
   && decide ((e::es).length+([]:List Qk0).length+(if([]:List Qk0).isEmpty then 0 else 1)<30))=true:=by rfl)
  (hline:(apos.endLine == cpos.line)=true:=by rfl) (hs:starEach (e::es) X.env=(false,eval e X.env)::starEach es X.env:=by rfl) (hplain:(backTo cpos (starEach es X.env)).any (·.1)=false:=by rfl) :
  PE X (.Call (.Attribute o name apos) (e::es) [] cpos) (tBM X.K T r to t):=by
 intro pins s σ H Q I h;refine wpAny_Call_method_late hbase hfew hline rfl (thn (ho pins s σ H _ I h) λv s1 ⟨x,H1,I1,r1,ty,q1⟩=>?_);obtain⟨h1,h2⟩:=QwR I1 r1 ty;refine⟨T,id,pa,slot,hty,h1,h2,?_⟩;have hA:=ha cpos pins s1 σ H1 _ I1 q1;rw[hs] at hA ⊢;refine Calls.callWith_builtin (by show(false||(backTo cpos (starEach es X.env)).any (·.1))=false;rw[hplain]<;>rfl) (Calls.evalArgs_plain ?_);exact thn hA λus s2 ⟨vs,H2,I2,r2,q2⟩=>hm pins s2 σ H2 x vs v us Q I2 r1 r2 q2
end
def MtM(X:Cx)(id:String)(r:V->List V->Hp->VK->Prop):Prop:=
 ∀(pins:List (Addr×Obj))(s:Shared)(σ:St)(H:Hp)(x:V)(xs:List V)(v:Value)(us:List Value)(Q:VK),Inv X pins σ H s->RelV x v->Vals xs us->r x xs H Q ->
  wpAny (model X.prog X.w) X.A (call (.builtin id) (v::us)) (EP X pins σ Q) X.xe s
theorem Vals.one:∀{x:V}{us:List Value},Vals [x] us->∃u,us=[u]/\RelV x u
 |_,_,.cons r .nil=>⟨_,rfl,r⟩
theorem Vals.zero:∀{us:List Value},Vals [] us->us=[]
 |_,.nil=>rfl
theorem Vals.reverse{xs:List V}{us:List Value}(h:Vals xs us):Vals xs.reverse us.reverse:=by
 induction h with
 |nil=>exact .nil
 |cons r t ih=>rw[Qsk,Qsk];exact Vals.append ih (.cons r .nil)
theorem Vals.rep{xs:List V}{us:List Value}(h:Vals xs us):∀k:Nat,Vals (QP k xs).flatten (QP k us).flatten
 |0=>.nil
 |k+1=>by
  rw[Zh,Zh,Yh,Yh];exact Vals.append h (Vals.rep h k)
theorem foldl_rep(its:List Value):∀(k:Nat)(acc:List Value),
  Qso (λx1 x2=>x1++x2) acc.toArray (QP k its.toArray)=(acc++(QP k its).flatten).toArray
 |0,acc=>by simp
 |k+1,acc=>by
  have e:acc.toArray++its.toArray=(acc++its).toArray:=by simp
  have e2:(acc++its)++(QP k its).flatten=acc++(QP (k+1) its).flatten:=by
   rw[Zh,Yh,Q3]
  rw[<- e2,<- foldl_rep its k (acc++its),<- e,Zh,Qc3]
section
variable{X:Cx}{pins:List (Addr×Obj)}{σ:St}{H:Hp}{s:Shared}{l b:Addr}{xs ys zs:List V}
theorem Inv.lset{its its':List Value}{n:Nat}{f:Array Value->Array Value}{t':Nat}(I:Inv X pins σ H s)(hH:H l=some (.lst xs))
  (e:s.heap.get? l=some { cls:=.type "list",data:=.seq its.toArray n })(hf:f its.toArray=its'.toArray)(hv:Vals ys its')(hz:ys.length<=sizeLine) :
  Inv X pins σ (upd H l (.lst ys)) { s with heap:=s.heap.update l (J5 f),toks:=t' }:=by
 have q:=PySem.IsL.update e f;rw[hf] at q;refine I.write (x:=l) (e:=l) (by rw[hH];exact trivial) (.inl rfl) (λb' u hb hu=>(Yx s.heap (J5 f) (Qb0 hb)).trans hu) ⟨_,q⟩ ?_
 exact⟨hz,its',_,hv,q⟩
theorem Inv.lnew{its:List Value}{t':Nat}(I:Inv X pins σ H s)(hv:Vals ys its)(hz:ys.length<=sizeLine) :
  Inv X pins σ (upd H s.heap.objs.size (.lst ys)) { s with heap:=s.heap.push { cls:=.type "list",data:=.seq its.toArray },toks:=t' }:=
 I.laid (λ_ _ q=>Qe _ q) (Qj _) ⟨hz,its,0,hv,Qw _ rfl⟩
theorem Inv.fresh(I:Inv X pins σ H s):H s.heap.objs.size=none:=I.hok.fresh (Qj _)
theorem Inv.lstM(I:Inv X pins σ H s)(hH:H l=some (.lst xs)):xs.length<=sizeLine/\∃(its:List Value)(n:Nat),Vals xs its/\xs.length=its.length/\s.heap.get? l=some { cls:=.type "list",data:=.seq its.toArray n }:=by
 obtain⟨z,its,n,r,e⟩:=I.hok l _ hH;exact⟨z,its,n,r,r.length,e⟩
theorem Qka{n:Nat}(h:n<=sizeLine):YR n=false:=by
 unfold YR;exact decide_eq_false (by omega)
end
section
variable{X:Cx}
def Qt2:V->List V->Hp->VK->Prop:=λx vs H Q=>∃l xs y,x=.ref l/\vs=[y]/\H l=some (.lst xs)/\xs.length<sizeLine/\Q .non (upd H l (.lst (xs++[y])))
theorem Qnp:MtM X "list.append" Qt2:=by
 intro pins s σ H x vs v us Q I rx rv h;obtain⟨l,xs,y,rfl,rfl,hH,hz,q⟩:=h;cases rx;obtain⟨u,rfl,ru⟩:=rv.one;obtain⟨z,its,n,r,hl,e⟩:=I.lstM hH;refine QbJ F.slot_list_append ⟨_,e,rfl⟩ F.entry_list_append (F.args_list_append_2 _ _) (PySem.list_append l its.toArray n u (by rw[Qo];omega)) ⟨e,?_⟩;refine⟨.non,_,I.lset (its':=its++[u]) hH e (by simp) (r.append (.cons ru .nil)) ?_,rfl,q⟩;rw[Qs,List.length_singleton];omega
def Qt0:V->List V->Hp->VK->Prop:=λx vs H Q=>∃l b xs zs,x=.ref l/\vs=[.ref b]/\H l=some (.lst xs)/\H b=some (.lst zs)/\xs.length+zs.length<=sizeLine/\Q .non (upd H l (.lst (xs++zs)))
theorem Qyp:MtM X "list.extend" Qt0:=by
 intro pins s σ H x vs v us Q I rx rv h;obtain⟨l,b,xs,zs,rfl,rfl,hH,hB,hz,q⟩:=h;cases rx;obtain⟨u,rfl,ru⟩:=rv.one;cases ru;obtain⟨z,its,n,r,hl,e⟩:=I.lstM hH;obtain⟨z2,its2,n2,r2,hl2,e2⟩:=I.lstM hB;have hsz:its.toArray.size+its2.toArray.size<=sizeLine:=by rw[Qo,Qo];omega
 have hlong:¬(!its.toArray.isEmpty&&YR (its.toArray.size+its2.toArray.size))=true:=by
  rw[Qka hsz,Bool.and_false];exact QC
 refine QbJ F.slot_list_extend ⟨_,e,rfl⟩ F.entry_list_extend (F.args_list_extend_2 _ _)
  (AutoSeq1.list_extend_list_list_0 l its.toArray n b its2.toArray n2 hlong (by rw[Qo];omega) (by omega)) ⟨e,e2,?_⟩
 refine⟨.non,_,I.lset (its':=its++its2) hH e (by simp) (r.append r2) ?_,rfl,q⟩;rw[Qs];omega
def QBS:R2:=λx y H Q=>∃l b xs zs,x=.ref l/\y=.ref b/\H l=some (.lst xs)/\H b=some (.lst zs)/\xs.length+zs.length<=sizeLine/\∀p,H p=none->Q (.ref p) (upd H p (.lst (xs++zs)))
theorem Qya:OpR X (binaryOp .Add) QBS:=by
 intro pins s σ H x y v u Q I rx ry h;obtain⟨l,b,xs,zs,rfl,rfl,hH,hB,hz,q⟩:=h;cases rx;cases ry;obtain⟨z,its,n,r,hl,e⟩:=I.lstM hH;obtain⟨z2,its2,n2,r2,hl2,e2⟩:=I.lstM hB;refine PySem.P.add_list e e2 ?_ (by rw[Qo,Qo];omega)
 have ea:its.toArray++its2.toArray=(its++its2).toArray:=by simp
 rw[ea];exact⟨.ref _,_,I.lnew (t':=s.toks) (r.append r2) (by rw[Qs];omega),rfl,q _ I.fresh⟩
def QBJ:R2:=λx y H Q=>∃l k xs,x=.ref l/\y=.int k/\H l=some (.lst xs) /\ -(2^63)<=k/\k<2^63/\xs.length*k.toNat<=sizeLine /\
 ∀p,H p=none->Q (.ref p) (upd H p (.lst (QP k.toNat xs).flatten))
theorem Qvn{α:Type}(xs:List α)(k:Nat):(QP k xs).flatten.length=k*xs.length:=by
 induction k with
 |zero=>simp
 |succ k ih=>rw[Zh,Yh,Qs,ih,QlW,Nat.add_comm]
theorem Qx4:OpR X (binaryOp .Mult) QBJ:=by
 intro pins s σ H x y v u Q I rx ry h;obtain⟨l,k,xs,rfl,rfl,hH,h1,h2,hz,q⟩:=h;cases rx;obtain⟨t,rfl⟩:=ry;obtain⟨z,its,n,r,hl,e⟩:=I.lstM hH;have hlen:its.toArray.size*k.toNat<=sizeLine:=by rw[Qo,<- hl];exact hz
 have hcap:¬its.toArray.size*k.toNat > (2^63 - 1) / 8:=by
  have:(sizeLine:Nat)<=(2^63 - 1) / 8:=by decide
  omega
 have hfit:¬(!Builtin.List.listFitsIndex k)=true:=by
  rw[fitsIndex_both h1 h2];exact QC
 have hlong:¬YR (its.toArray.size*k.toNat)=true:=by
  rw[Qka hlen];exact QC
 have hnew:Qso (λx1 x2=>x1++x2) #[] (QP (if its.toArray.isEmpty=true then 0 else k.toNat) its.toArray)=(QP k.toNat its).flatten.toArray:=by
  have f0:∀m:Nat,Qso (λx1 x2=>x1++x2) #[] (QP m its.toArray)=(QP m its).flatten.toArray:=λm=>by
   have:=foldl_rep its m [];rw[Qbk] at this;exact this
  rw[f0];cases its with
  |nil=>simp
  |cons a r'=>rw[if_neg (by simp)]
 refine wpAny_binaryOp_repeat_ref (T := "list") (U := "int") (by decide) ⟨_,e,rfl⟩ (λs'=>QzW s' k t) noFill_list_mul F.fills_int_mul QAd repeat_list F.slot_int_index.lookup
  (QbJ QAd (QzW s k t) F.entry_int_rmul (F.args_int_rmul_2 _ _) (int___rmul___int_list k t l its.toArray n)
   ⟨e,rfl,⟨_,e,rfl⟩,QbJ F.slot_list_mul ⟨_,e,rfl⟩ F.entry_list_mul (F.args_list_mul_2 _ _) (AutoListH.list___mul___list_int_3 l its.toArray n k t hfit hcap hlong) ⟨e,?_⟩⟩)
 rw[hnew];exact⟨.ref _,_,I.lnew (t':=s.toks) (r.rep k.toNat) (by rw[Qvn,Ql0];exact hz),rfl,q _ I.fresh⟩
end
section
variable{prog:QD}{w:Jl}{A:Je}{E:Value->Shared->Prop}{s:Shared}
end
section
variable{X:Cx}
end
end L2
namespace Att
open PySem.W PySem.Calls
theorem Qe6{P:Params}{h:Heap}:∀(ns:List Int)(vs:List Value),WellAll P h vs (ns.map WData.int)->IntsAre vs ns:=by
 intro ns;induction ns with
 |nil=>
  intro vs w;rw[Qfo] at w;cases w;exact .nil
 |cons n ns ih=>
  intro vs w;rw[Jh] at w;cases w with
  |cons a b=>
   cases a;exact .cons _ _ (ih _ b)
theorem Qmw{l:OpenLaw}{n:Nat}(hn:l.most=some n){P:Params}{h:Heap}{args:List WData}{vals:List Value}
  (hpre:l.row.toRowW.claim.pre args=true)(hwl:WellAll P h vals args) :
  ∃a vs ns,vals=[QU a]/\args=[WData.list (ns.map WData.int)]/\h.get? a=some { cls:=.type "list",data:=.seq vs.toArray }/\IntsAre vs ns/\ns.length<=n:=by
 have hsh:WShape.hasAll [] args [.list .int]=true:=(pre_splitW hpre).1;have hc:l.pre.holds [] { args:=args }=true:=(pre_splitW hpre).2;obtain⟨d,r,rfl,h1,h2⟩:=hasAllW_cons hsh;obtain rfl:=hasAllW_nil h2;obtain⟨xs,rfl,h3⟩:=hasW_list h1;obtain⟨ns,rfl⟩:=items_int h3;have hlen:ns.length<=n:=by
  unfold OpenLaw.pre at hc;have h4:(WTm.not (.lt (.lit (.int (n:Int))) (.len (.arg 0)))).holds [] { args:=[.list (ns.map .int)] }=true:=by
   have h4:=(holds_andW hc).1;rw[hn] at h4;exact h4
  have h5:=condW_of h4 (w_not (w_lt w_lit (w_len_list (w_arg rfl))));rw[Qg] at h5;refine Nat.le_of_not_lt λq=>?_
  have q':(n:Int)<((ns.length:Nat):Int):=by omega
  first
   |(rw[decide_eq_true q'] at h5;exact absurd h5 (by decide))
   |(simp at h5;omega)
 cases hwl with
 |cons w1 w2=>
  cases w2;cases w1 with
  |list ho hall=>exact⟨_,_,ns,rfl,rfl,ho,Qe6 ns _ hall,hlen⟩
theorem QmR(l:OpenLaw)(args:List WData):l.row.toRowW.claim.post args (.bool true) args=true:=
 postW_of (r:=l.row.toRowW) (X:=(true == true))
  (show Qz0 [] (.bool true) .bool=true by first | rfl | decide | simp[Qz0,WShape.arms,WShape.armsAll])
  (show(WTm.eq .res (.lit (.bool true))).value [] { args:=args,res:=some (.bool true),after:=args }=some (.bool (true == true)) from w_eq_bool (w_res rfl) w_lit) rfl
theorem Qjp{l:OpenLaw}{n:Nat}{q:QD}{loose:List Str}{XP:(Str->Option Value)->Heap->Prop}{YP:Jl->Heap->Prop}{d:DefRec}
  (hn:l.most=some n)(hdf:d.params.defaults=[])
  (call:∀(w:Jl)(s₀ s₁:Shared)(mg mb:Str->Option Value)(fa:Addr)(o:Obj)(pm cd doc:Value)(a:Addr)(vs:List Value)(ns:List Int),
   Ground q loose [] XP w s₀ mg mb s₁.heap->YP w s₁.heap ->
   s₁.heap.get? fa=some o->o.data=.func (docDef d.name d.params d.body d.scope pm cd doc)->s₁.heap.CodeRec cd d.name->mg d.name=some (.ref fa) ->
   s₁.heap.get? a=some { cls:=.type "list",data:=.seq vs.toArray }->IntsAre vs ns->ns.length<=n->s₁.gens=#[] ->
   codeAny (model l.prog w) callerA (.call (.ref fa) ⟨[.ref a],[]⟩) (λr s'=>r=.ok (.ret (.bool true))/\OldK s₁.heap s'.heap/\s'.os=s₁.os/\Qfq s'.gens) s₁) :
  WalkO q loose XP YP l.row.toRowW d [] (λf vs=>PySem.call f vs):=by
 intro w s₀ s₁ mg mb G Y fa o pm cd doc dV kV ho hd hcd hD hmg hg args vals as hpre hlay hrd hwl hlo;obtain rfl:dV=.none:=Dflts.none hD hdf;obtain rfl:kV=.none:=Dflts.noKw hD;obtain⟨a,vs,ns,rfl,rfl,hobj,hints,hlen⟩:=Qmw hn hpre hwl;refine enter_call (Qil (call w s₀ s₁ mg mb fa o pm cd doc a vs ns G Y ho (fd_plain hd) hcd hmg hobj hints hlen hg) λr s' hq=>?_);obtain⟨rfl,h2,h3,h4⟩:=hq;exact⟨.inl ⟨.bool true,.bool true,[],rfl,λ_=>rfl,.bool true,QmR l _,λ_=>⟨QAc,λ_ hm=>(nomatch hm)⟩⟩,h2,h3,h4⟩
section
variable{prog:QD}{w:Jl}{A:Je}{E:Value->Shared->Prop}{s:Shared}{K:Frag}
end
end Att
namespace L2
theorem Qho:∀{vs:List Value}{ns:List Int},IntsAre vs ns->Vals (ns.map V.int) vs
 |_,_,.nil=>.nil
 |_,_,.cons n t h=>.cons ⟨t,rfl⟩ (Qho h)
def QBx(H:Hp):Prop:=∀b,H b=none∨∃o xs,H b=some (.frz o (.lst xs))
theorem QrC{P:QD}{w:Jl}{K:PySem.W.Frag}{mg mb:Str->Option Value}{CX:CXT}{k:Nat}{fa a:Addr}{fd:Jc}{x:Str}{sp:Sp}{s₁:Shared}{vs:List Value}{ns:List Int}
  (KX:K.In s₁.heap)(hns:s₁.heap.Ns mainGlobals mg)(hb:s₁.heap.Ns builtinsNs mb)(hbb:∀x:Str,x ≠ "__name__" -> mb x=bootBuiltins x)(hlim:s₁.heap.NoLimit)(hg:s₁.gens=#[])
  (ha:s₁.heap.get? a=some { cls:=.type "list",data:=.seq vs.toArray })(hi:IntsAre vs ns)(hl:ns.length<=sizeLine)(hr:Room k callerA)
  (F:∀base:Heap,K.In base->base.Ns mainGlobals mg->FnOk P w K mg base CX k fa fd [x] sp)(hbind:∀(s:Shared)(u:Value),Qpc s fd ⟨[u],[]⟩ [(x,u)])
  (hsp:∀H:Hp,QBx H->SqL K H a (ns.map V.int)->sp [.ref a] H (λv _=>v=.bl true) λ_ _ _=>False)
  (hCX:∀H e s',CX [] H s₁ (λ_ _ _=>False) e s'->False) :
  codeAny (model P w) callerA (.call (.ref fa) ⟨[.ref a],[]⟩) (λr s'=>r=.ok (.ret (.bool true))/\OldK s₁.heap s'.heap/\s'.os=s₁.os/\Qfq s'.gens) s₁:=by
 have rv:=Qho hi;have lenV:=hi.length;have core:∀H:Hp,QBx H->SqL K H a (ns.map V.int)->HOk P w H s₁.heap->(∀b,H b≠none->b=a)->(H a≠none->K.lookup a=none) ->
   codeAny (model P w) callerA (.call (.ref fa) ⟨[.ref a],[]⟩) (λr s'=>r=.ok (.ret (.bool true))/\OldK s₁.heap s'.heap/\s'.os=s₁.os/\Qfq s'.gens) s₁:=by
  intro H hO hS hok hA hK;have base_of:∀{b:Addr}{o:Obj},s₁.heap.get? b=some o->H b=none->(QrH s₁.heap H).get? b=some o:=λe n=>QrG e n
  have noA:∀{b:Addr}{o:Obj}{es:Array DictEntry}{ep:Nat},s₁.heap.get? b=some o->o.data=.dict es ep->H b=none:=λ{b o es ep} e d=>by
   cases q:H b with
   |none=>rfl
   |some u=>
    have e':b=a:=hA b (by rw[q];simp);subst e';rw[ha] at e;cases e;have d':Data.seq vs.toArray _=Data.dict es ep:=d;cases d'
  have nsK:∀{b:Addr}{m:Str->Option Value},s₁.heap.Ns b m->(QrH s₁.heap H).Ns b m:=λ{b m} ⟨o,es,ep,e,d,r⟩=>⟨o,es,ep,base_of e (noA e d),d,r⟩
  have hKb:K.In (QrH s₁.heap H):=λb o e=>base_of (KX b o e) (by
   cases q:H b with
   |none=>rfl
   |some u=>
    have e':b=a:=hA b (by rw[q];simp);subst e';rw[hK (by rw[q];simp)] at e;cases e)
  have hM:Mod K mg (QrH s₁.heap H):=⟨hKb,nsK hns,⟨mb,nsK hb,hbb⟩,let ⟨mc,h1,h2⟩:=hlim;⟨mc,nsK h1,h2⟩⟩;have e0:Env0 P w K mg (QrH s₁.heap H) callerA [] s₁ H:=⟨rfl,hM,λb o e=>Qu3 e,Nat.le_of_eq (QnI _ _),trivial,λb hb=>absurd (show b∈([]:List Addr) from hb) (by simp),hok,.of_eq hg⟩;refine Qil ((F _ hKb (nsK hns)).run callerA [] s₁ H ⟨[.ref a],[]⟩ [.ref a] [.ref a] _ _ hr e0 (hbind s₁ (.ref a)) (.cons rfl .nil) (hsp H hO hS)) λr s' h=>?_
  cases r with
  |error e=>exact(hCX H e s' h).elim
  |ok fl=>
   cases fl with
   |next=>exact Ys h
   |brk=>exact Ys h
   |cont=>exact Ys h
   |ret u=>
    obtain⟨v,H',os,bare,un,hok',r',q⟩:=h;have q':v=.bl true:=q;subst q';obtain rfl:u=YO true:=r';refine⟨rfl,OldK.of_keep λb o e=>?_,os,bare⟩;cases q:H b with
    |none=>exact un.keep b o e q (by intro z;exact absurd (show b∈([]:List Addr) from z) (by simp)) (by simp)
    |some u=>
     rcases hO b with z | ⟨ob,xs,z⟩
     ·rw[q] at z;cases z
     ·have z2:=un.frzs b ob _ z;obtain⟨e1,_⟩:=hok b _ z;obtain⟨e2,_⟩:=hok' b _ z2;rw[e] at e1;cases e1;exact e2
 cases hk:K.lookup a with
 |some o=>
  have e:=KX a o hk;rw[ha] at e;cases e;refine core (λ_=>none) (λ_=>.inl rfl) (.inr ⟨_,vs.toArray,_,hk,rfl,rfl,rfl,by rw[Qo,lenV];exact hl,by simpa using rv⟩) (λb u z=>by have z':(none:Option HO)=some u:=z;cases z') (λb z=>absurd rfl z) λz=>absurd rfl z
 |none=>
  refine core (λb=>if b=a then some (.frz { cls:=.type "list",data:=.seq vs.toArray } (.lst (ns.map V.int))) else none) (λb=>?_) (.inl (.inr ⟨{ cls:=.type "list",data:=.seq vs.toArray },if_pos rfl⟩)) (λb u z=>?_) (λb z=>?_) λ_=>hk
  ·by_cases hb:b=a
   ·exact .inr ⟨_,_,if_pos hb⟩
   ·exact .inl (if_neg hb)
  ·by_cases hb:b=a
   ·have z':=(if_pos hb).symm.trans z;cases z';subst hb;exact⟨ha,by rw[Qg];exact hl,vs,_,rv,ha⟩
   ·have z':=(if_neg hb).symm.trans z;cases z'
  ·by_cases hb:b=a
   ·exact hb
   ·exact absurd (if_neg hb) z
theorem QtF{l:PySem.W.OpenLaw}{n k:Nat}{q:QD}{loose:List Str}{XP:(Str->Option Value)->Heap->Prop}{YP:Jl->Heap->Prop}{d:DefRec}{K:Params->PySem.W.Frag}{CX:Jl->CXT}{sp:Jl->Sp}{x:Str}
  (hn:l.most=some n)(hn2:n<=sizeLine)(hdf:d.params.defaults=[])(hr:Room k callerA)
  (hY:∀(w:Jl)(h:Heap),YP w h->(K w.params).In h)
  (F:∀(w:Jl)(mg:Str->Option Value)(fa:Addr)(h:Heap),(K w.params).In h->h.Ns mainGlobals mg->mg d.name=some (.ref fa) ->
   ∃fd:Jc,(∀(s:Shared)(u:Value),Qpc s fd ⟨[u],[]⟩ [(x,u)]) /\
    ∀base:Heap,(K w.params).In base->base.Ns mainGlobals mg->FnOk l.prog w (K w.params) mg base (CX w) k fa fd [x] (sp w))
  (hsp:∀(w:Jl)(H:Hp)(a:Addr)(ns:List Int),ns.length<=n->QBx H->SqL (K w.params) H a (ns.map V.int)->sp w [.ref a] H (λv _=>v=.bl true) λ_ _ _=>False)
  (hCX:∀(w:Jl)(H:Hp)(s:Shared)(e:Value)(s':Shared),CX w [] H s (λ_ _ _=>False) e s'->False) :
  PySem.W.WalkO q loose XP YP l.row.toRowW d [] (λf vs=>PySem.call f vs):=by
 refine Att.Qjp hn hdf λw s₀ s₁ mg mb fa o pm cd doc a vs ns G Y ho hd hcd hmg hobj hints hlen hg=>?_
 have KX:=hY w _ Y;obtain⟨fd,hb,hF⟩:=F w mg fa _ KX G.T.g hmg;exact QrC KX G.T.g G.T.b G.T.builtins G.T.nolimit hg hobj hints (Jk hlen hn2) hr hF hb (λH hO hS=>hsp w H a ns hlen hO hS) λH e s'=>hCX w H s₁ e s'
def J6(s:Y7):Arguments:=match s with
 |.FunctionDef _ a _ _ _ _ _ _ _ _=>a
 |_=>{ posonlyargs:=[],args:=[],vararg:=none,kwonlyargs:=[],kw_defaults:=[],kwarg:=none,defaults:=[] }
def JQ(s:Y7):List Y7:=match s with
 |.FunctionDef _ _ b _ _ _ _ _ _ _=>b
 |_=>[]
def QJ(s:Y7):Y8:=match s with
 |.FunctionDef _ _ _ _ _ _ sc _ _ _=>sc
 |_=>{ kind:=.function,names:=[],isGenerator:=false,isCoroutine:=false }
abbrev CX0:CXT:=λ_ _ _ _ _ _=>False
abbrev E0:XK:=λ_ _ _=>False
theorem Qre{X:Cx}:QcO CX0 X E0:=λ_ _ _ _ _ _ _ h=>h.elim
structure Fun (K:PySem.W.Frag) (x qual:Str) (st:Y7) (f:Addr) (fd:Jc):Prop where
 ex:∃(oc:Value)(od:Option Addr)(kV doc pm:Value)(an:Option Addr)(cdv ct:Value)(osl:Array (Option Value)),
  fd=PySem.W.fnOf x qual (J6 st) (JQ st) (QJ st) .none kV doc pm an cdv ct/\K.lookup f=some ⟨oc,od,.func fd,osl⟩/\PySem.W.codeIn K cdv qual=true
 kp:PySem.W.keepIn K (.ref f)=true
section
variable{P:QD}{w:Jl}{K:PySem.W.Frag}{mg:Str->Option Value}{base:Heap}
theorem Fun.ok{x qual:Str}{st:Y7}{f:Addr}{fd:Jc}{N ps:List Str}{k:Nat}{sp:Sp}(F:Fun K x qual st f fd)(S:JZ N ps (QJ st))(len:∀vs H Q E,sp vs H Q E->vs.length=ps.length)
  (hbody:∀(cdv:Value)(A:Je)(outer:List Env)(s:Shared)(H:Hp)(vs:List V)(Q:VK)(E:XK),Room k (A.deeper (envOfC qual (QJ st) s.heap.objs.size f cdv))->sp vs H Q E ->
   ∃t,PSs (QoY CX0 P w K mg base N qual (QJ st) f cdv A outer s H E).nox (JQ st) t/\t { nx:=λ_ H'=>Q .non H',rt:=Q } (start N vs) H):FnOk P w K mg base CX0 (k+1) f fd ps sp:=by
 obtain⟨oc,od,kV,doc,pm,an,cdv,ct,osl,rfl,lk,hcd⟩:=F.ex;refine QBh lk hcd S len λA outer s H vs Q E hr hsp=>?_
 obtain⟨t,h,q⟩:=hbody cdv A outer s H vs Q E hr hsp;exact⟨t,h.nox,q⟩
theorem Fun.binds{x qual:Str}{st:Y7}{f:Addr}{fd:Jc}{ps:List Str}(F:Fun K x qual st f fd)
  (h:∀(kV doc pm:Value)(an:Option Addr)(cdv ct:Value)(us:List Value),us.length=ps.length->bindArgs (PySem.W.fnOf x qual (J6 st) (JQ st) (QJ st) .none kV doc pm an cdv ct) ⟨us,[]⟩=pure (ps.zip us)):Binds K fd ps []:=by
 obtain⟨oc,od,kV,doc,pm,an,cdv,ct,osl,rfl,lk,hcd⟩:=F.ex;exact .all (h kV doc pm an cdv ct)
theorem ZY{x qual:Str}{st:Y7}{f:Addr}{oc:Value}{od an:Option Addr}{osl:Array (Option Value)}{kV doc pm cdv ct:Value}(l:K.lookup f=some ⟨oc,od,.func (PySem.W.fnOf x qual (J6 st) (JQ st) (QJ st) .none kV doc pm an cdv ct),osl⟩)
  (c:PySem.W.codeIn K cdv qual=true)(k:PySem.W.keepIn K (.ref f)=true):Fun K x qual st f (PySem.W.fnOf x qual (J6 st) (JQ st) (QJ st) .none kV doc pm an cdv ct):=⟨⟨oc,od,kV,doc,pm,an,cdv,ct,osl,rfl,l,c⟩,k⟩
end
section
variable{X:Cx}
theorem pv(i:Nat){x:Str}{pos:Pos}(hN:X.N[i]? = some x:=by rfl)(hv:Vis X.env.scope x:=by first | exact Jn rfl | exact Jm (Jn rfl) | exact Jm (Jm rfl))(hd:(x == ("__debug__" : Str))=false:=by decide)
  (hcd:(x == ("__classdict__" : Str))=false:=by decide):PE X (.Name x pos) (QiK i):=QxI hN hv hd hcd
end
theorem Qvt{A B:Prop}(h:B):if false=true then A else B:=by
 rw[if_neg QC];exact h
theorem QrE{A B:Prop}(h:A):if true=true then A else B:=by
 rw[if_pos rfl];exact h
theorem QBX{c A B:Prop}[Decidable c](h1:c->A)(h2:¬c->B):if c then A else B:=by
 by_cases h:c
 ·rw[if_pos h];exact h1 h
 ·rw[if_neg h];exact h2 h
def Same(H H':Hp):Prop:=∀b o,H b=some o->H' b=some o
theorem Same.refl(H:Hp):Same H H:=λ_ _ h=>h
theorem Same.trans{H H1 H2:Hp}(a:Same H H1)(b:Same H1 H2):Same H H2:=λc o h=>b c o (a c o h)
theorem Same.free{H H':Hp}(e:Same H H'){l:Addr}(h:H' l=Qzu):H l=Qzu:=by
 cases q:H l with
 |none=>rfl
 |some o=>
  rw[e l o q] at h;cases h
theorem Same.seq{K:PySem.W.Frag}{H H':Hp}{a:Addr}{xs:List V}(e:Same H H')(h:SqL K H a xs):SqL K H' a xs:=by
 rcases h with(h | ⟨o,h⟩) | h
 ·exact .inl (.inl (e _ _ h))
 ·exact .inl (.inr ⟨o,e _ _ h⟩)
 ·exact .inr h
end L2
set_option maxHeartbeats 4000000
namespace Rt
def Qci:Bool->Keyed->Array Keyed->Nat->Nat->Nat->StateT JV Sem (Option Nat):=sortPriv% PySem.Builtin.gallop
theorem QlB(lf:Bool)(kk:Keyed)(xs:Array Keyed)(b n h:Nat):Qci lf kk xs b n h=(do
 let bey (z:Nat):StateT JV Sem (Option Bool):=do
  let x <- elem' xs (b+z)
  if lf then lt' x kk else return (<- lt' kk x).map (!·)
 let mut l0:=0
 let mut o0:=1
 let mut u:=0
 let mut v:=0
 let some r0 <- bey h | return none
 if r0 then
  let mo:=n - h
  for _ in [0:n] do
   if o0≥mo then break
   let some r1 <- bey (h+o0) | return none
   if !r1 then break
   l0:=o0
   o0:=2*o0+1
  u:=h+l0+1
  v:=h+min o0 mo
 else
  let mo:=h+1
  for _ in [0:n] do
   if o0≥mo then break
   let some r1 <- bey (h - o0) | return none
   if r1 then break
   l0:=o0
   o0:=2*o0+1
  u:=h+1 - min o0 mo
  v:=h - l0
 for _ in [0:n] do
  if u≥v then break
  let m:=u+(v - u) / 2
  let some r1 <- bey m | return none
  if r1 then u:=m+1 else v:=m
 return some v):=rfl
structure Ord (c:Keyed->Keyed->Bool):Prop where
 asym:∀x y,c x y=true->c y x=false
 trans:∀x y z,c y x=false->c z y=false->c z x=false
abbrev le (c:Keyed->Keyed->Bool) (x y:Keyed):Prop:=c y x=false
section
variable{c:Keyed->Keyed->Bool}
theorem Ord.irr(o:Ord c)(x:Keyed):c x x=false:=by
 cases h:c x x with
 |false=>rfl
 |true=>rw[o.asym x x h] at h;cases h
theorem Ord.tr(o:Ord c){x y z:Keyed}(a:le c x y)(b:le c y z):le c x z:=o.trans x y z a b
theorem Ord.lt_le(o:Ord c){x y:Keyed}(a:c x y=true):le c x y:=o.asym x y a
theorem Ord.tr_lt(o:Ord c){x y z:Keyed}(a:le c x y)(b:c y z=true):c x z=true:=by
 cases h:c x z with
 |true=>rfl
 |false=>rw[show c y z=false from o.trans z x y h a] at b;cases b
end
def kx(xs:Array Keyed)(i:Nat):Keyed:=(xs[i]?).getD (JD,JD)
theorem Qvr{xs:Array Keyed}{i:Nat}(h:i<xs.size):xs[i]? = some (kx xs i):=by
 unfold kx;rw[getElem?_pos xs i h];rfl
theorem Qjc{xs ys:Array Keyed}{i j:Nat}(h:xs[i]? = ys[j]?):kx xs i=kx ys j:=by unfold kx;rw[h]
def Sg(c:Keyed->Keyed->Bool)(xs:Array Keyed)(lo hi:Nat):Prop:=∀i j,lo<=i->i<=j->j<hi->le c (kx xs i) (kx xs j)
structure Asks (prog:QD) (w:Jl) (A:Je) (s:Shared) (κ:Ya) (a₀:Array Keyed) (c:Keyed->Keyed->Bool):Prop where
 ord:Ord c
 lt:∀x y,x∈a₀.toList->y∈a₀.toList->∀(C:Bool->Shared->Prop)(E':Value->Shared->Prop),C (c x y) s->wpAny (model prog w) A (keyLt' κ x.1 y.1) C E' s
structure SB (κ:Ya) (a₀:Array Keyed) (st:JV):Prop where
 perm:(arrOf st).Perm a₀
 kind:kindOf st=κ
 failed:failedOf st=none
theorem SB.size{κ:Ya}{a₀:Array Keyed}{st:JV}(h:SB κ a₀ st):(arrOf st).size=a₀.size:=h.perm.size_eq
theorem SB.mem{κ:Ya}{a₀:Array Keyed}{st:JV}(h:SB κ a₀ st){p:Keyed}(e:p∈(arrOf st).toList):p∈a₀.toList:=(Zs.mp h.perm).mem_iff.mp e
theorem Qe4{xs:Array Keyed}{i:Nat}(h:i<xs.size):kx xs i∈xs.toList:=ZI.mpr (YJ (Qvr h))
section
variable{prog:QD}{w:Jl}{A:Je}{E:Value->Shared->Prop}{s:Shared}{a₀:Array Keyed}{κ:Ya}{c:Keyed->Keyed->Bool}
theorem Qhn{st:JV}{x y:Keyed}{Q:Option Bool->JV->Prop}(hA:Asks prog w A s κ a₀ c)(hk:kindOf st=κ)(hx:x∈a₀.toList)(hy:y∈a₀.toList)(h:Q (some (c x y)) st):wpS (model prog w) A E s (lt' x y) Q st:=by
 rw[lt'_eq];refine Ql (QcB ?_);rw[hk];refine Ql (Qet (Qc7 (hA.lt x y hx hy _ _ ⟨rfl,?_⟩)));exact Qm h
theorem Jb{st:JV}{arr:Array Keyed}{i:Nat}{Q:Keyed->JV->Prop}(hi:i<arr.size)(h:Q (kx arr i) st):wpS (model prog w) A E s (elem' arr i) Q st:=by
 rw[elem'_eq,Qvr hi];exact Qm h
theorem QeK{st:JV}{i j:Nat}{Q:Option Bool->JV->Prop}(hA:Asks prog w A s κ a₀ c)(hB:SB κ a₀ st)(hi:i<a₀.size)(hj:j<a₀.size)(h:Q (some (c (kx (arrOf st) i) (kx (arrOf st) j))) st):wpS (model prog w) A E s (ltAt' i j) Q st:=by
 have h1:i<(arrOf st).size:=by rw[hB.size];exact hi
 have h2:j<(arrOf st).size:=by rw[hB.size];exact hj
 rw[ltAt'_eq];refine Ql (QcB ?_);refine Ql (Jb h1 ?_);refine Ql (Jb h2 ?_);exact Qhn hA hB.kind (hB.mem (Qe4 h1)) (hB.mem (Qe4 h2)) h
def QcX(c:Keyed->Keyed->Bool)(lf:Bool)(kk:Keyed)(xs:Array Keyed)(i:Nat):Bool:=if lf then c (kx xs i) kk else !c kk (kx xs i)
theorem Qr6(o:Ord c){lf:Bool}{kk:Keyed}{xs:Array Keyed}{b n:Nat}(sg:Sg c xs b (b+n)){i j:Nat}(hij:i<=j)(hj:j<n)(h:QcX c lf kk xs (b+j)=true):QcX c lf kk xs (b+i)=true:=by
 have l:=sg (b+i) (b+j) (by omega) (by omega) (by omega);unfold QcX at h ⊢;cases lf with
 |true=>exact o.tr_lt l h
 |false=>
  simp only[ZG,if_false,Qb4] at h ⊢;exact o.tr l h
theorem Zy{st:JV}{lf:Bool}{kk:Keyed}{xs:Array Keyed}{b n hint:Nat}{Q:Option Nat->JV->Prop}(hA:Asks prog w A s κ a₀ c)(hk:kindOf st=κ)(hkey:kk∈a₀.toList)(harr:∀p∈xs.toList,p∈a₀.toList)(hb:b+n<=xs.size)(hh:hint<n)(sg:Sg c xs b (b+n))
  (h:∀k,k<=n->(∀i,i<k->QcX c lf kk xs (b+i)=true)->(∀i,k<=i->i<n->QcX c lf kk xs (b+i)=false)->Q (some k) st):wpS (model prog w) A E s (Qci lf kk xs b n hint) Q st:=by
 have bey:∀(i:Nat)(Q':Option Bool->JV->Prop),i<n->Q' (some (QcX c lf kk xs (b+i))) st->wpS (model prog w) A E s (do
   let x <- elem' xs (b+i)
   if lf then lt' x kk else return (<- lt' kk x).map (!·)) Q' st:=λi Q' hi hq=>by
  have hs:b+i<xs.size:=by omega
  refine Ql (Jb hs ?_);have pm:=harr _ (Qe4 hs);unfold QcX at hq;cases lf with
  |true=>exact Qhn hA hk pm hkey hq
  |false=>exact Ql (Qhn hA hk hkey pm (Qm hq))
 have mono:∀{i j:Nat},i<=j->j<n->QcX c lf kk xs (b+j)=true->QcX c lf kk xs (b+i)=true:=λhij hj h=>Qr6 hA.ord sg hij hj h
 have monoF:∀{i j:Nat},i<=j->j<n->QcX c lf kk xs (b+i)=false->QcX c lf kk xs (b+j)=false:=λ{i j} hij hj h=>by
  cases e:QcX c lf kk xs (b+j) with
  |false=>rfl
  |true=>rw[mono hij hj e] at h;cases h
 rw[QlB]
 dsimp only
 refine Ql (bey hint _ hh ?_);cases hr:QcX c lf kk xs (b+hint) with
 |true=>
  dsimp only
  rw[if_pos rfl];refine Ql (Yy (J1 (I:=λx z st'=>st'=st/\∃l o,z=(none,l,o)/\l<o/\x+1<=o/\hint+l<n/\QcX c lf kk xs (b+(hint+l))=true)
   (Q:=λz st'=>st'=st/\∃l o,z=(none,l,o)/\l<o/\hint+l<n/\QcX c lf kk xs (b+(hint+l))=true/\(hint+o<n->QcX c lf kk xs (b+(hint+o))=false)) ?step ?fin ⟨rfl,0,1,rfl,by omega,by omega,by omega,hr⟩) ?post)
  case fin=>
   rintro z st' ⟨rfl,l,o,rfl,h1,h2,h3,h4⟩;exact⟨rfl,l,o,rfl,h1,h3,h4,λh5=>by omega⟩
  case step=>
   rintro x z st' _ hx ⟨rfl,l,o,rfl,h1,h2,h3,h4⟩
   dsimp only
   by_cases g:o≥n - hint
   ·rw[if_pos g];exact Qm ⟨rfl,l,o,rfl,h1,h3,h4,λh5=>by omega⟩
   ·rw[if_neg g];refine Ql (bey (hint+o) _ (by omega) ?_);cases e:QcX c lf kk xs (b+(hint+o)) with
    |true=>exact Qm ⟨rfl,o,2*o+1,rfl,by omega,by omega,by omega,e⟩
    |false=>exact Qm ⟨rfl,l,o,rfl,h1,h3,h4,λ_=>e⟩
  case post=>
   rintro z st' ⟨rfl,l,o,rfl,h1,h3,h4,h5⟩
   dsimp only
   refine Ql (Yy (J1 (I:=λx z st''=>st''=st'/\∃u v,z=(none,u,v)/\v<=n/\u<=v/\v - u<=n - x/\(∀i,i<u->QcX c lf kk xs (b+i)=true)/\(∀i,v<=i->i<n->QcX c lf kk xs (b+i)=false))
    (Q:=λz st''=>st''=st'/\∃v,z=(none,v,v)/\v<=n/\(∀i,i<v->QcX c lf kk xs (b+i)=true)/\(∀i,v<=i->i<n->QcX c lf kk xs (b+i)=false)) ?step2 ?fin2 ?init2) ?post2)
   case init2=>
    refine⟨rfl,_,_,rfl,by omega,by omega,by omega,λi hi=>mono (by omega) h3 h4,λi hi hn=>?_⟩;exact monoF (i:=hint+o) (by omega) hn (h5 (by omega))
   case fin2=>
    rintro z st'' ⟨rfl,u,v,rfl,g1,g2,g3,g4,g5⟩;have:u=v:=by omega
    subst this;exact⟨rfl,u,rfl,g1,g4,g5⟩
   case step2=>
    rintro x z st'' _ hx ⟨rfl,u,v,rfl,g1,g2,g3,g4,g5⟩
    dsimp only
    by_cases g:u≥v
    ·rw[if_pos g];have:u=v:=by omega
     subst this;exact Qm ⟨rfl,u,rfl,g1,g4,g5⟩
    ·rw[if_neg g];refine Ql (bey (u+(v - u) / 2) _ (by omega) ?_);cases e:QcX c lf kk xs (b+(u+(v - u) / 2)) with
     |true=>exact Qm ⟨rfl,_,_,rfl,g1,by omega,by omega,λi hi=>mono (by omega) (by omega) e,g5⟩
     |false=>exact Qm ⟨rfl,_,_,rfl,by omega,by omega,by omega,g4,λi hi hn=>monoF hi hn e⟩
   case post2=>
    rintro z st'' ⟨rfl,v,rfl,g1,g4,g5⟩;exact Qm (h v g1 g4 g5)
 |false=>
  dsimp only
  rw[if_neg (by decide)];refine Ql (Yy (J1 (I:=λx z st'=>st'=st/\∃l o,z=(none,l,o)/\l<o/\x+1<=o/\l<=hint/\QcX c lf kk xs (b+(hint - l))=false)
   (Q:=λz st'=>st'=st/\∃l o,z=(none,l,o)/\l<o/\l<=hint/\QcX c lf kk xs (b+(hint - l))=false/\(o<=hint->QcX c lf kk xs (b+(hint - o))=true)) ?step ?fin ⟨rfl,0,1,rfl,by omega,by omega,by omega,hr⟩) ?post)
  case fin=>
   rintro z st' ⟨rfl,l,o,rfl,h1,h2,h3,h4⟩;exact⟨rfl,l,o,rfl,h1,h3,h4,λh5=>by omega⟩
  case step=>
   rintro x z st' _ hx ⟨rfl,l,o,rfl,h1,h2,h3,h4⟩
   dsimp only
   by_cases g:o≥hint+1
   ·rw[if_pos g];exact Qm ⟨rfl,l,o,rfl,h1,h3,h4,λh5=>by omega⟩
   ·rw[if_neg g];refine Ql (bey (hint - o) _ (by omega) ?_);cases e:QcX c lf kk xs (b+(hint - o)) with
    |false=>exact Qm ⟨rfl,o,2*o+1,rfl,by omega,by omega,by omega,e⟩
    |true=>exact Qm ⟨rfl,l,o,rfl,h1,h3,h4,λ_=>e⟩
  case post=>
   rintro z st' ⟨rfl,l,o,rfl,h1,h3,h4,h5⟩
   dsimp only
   refine Ql (Yy (J1 (I:=λx z st''=>st''=st'/\∃u v,z=(none,u,v)/\v<=n/\u<=v/\v - u<=n - x/\(∀i,i<u->QcX c lf kk xs (b+i)=true)/\(∀i,v<=i->i<n->QcX c lf kk xs (b+i)=false))
    (Q:=λz st''=>st''=st'/\∃v,z=(none,v,v)/\v<=n/\(∀i,i<v->QcX c lf kk xs (b+i)=true)/\(∀i,v<=i->i<n->QcX c lf kk xs (b+i)=false)) ?step2 ?fin2 ?init2) ?post2)
   case init2=>
    refine⟨rfl,_,_,rfl,by omega,by omega,by omega,λi hi=>?_,λi hi hn=>monoF hi hn h4⟩;exact mono (j:=hint - o) (by omega) (by omega) (h5 (by omega))
   case fin2=>
    rintro z st'' ⟨rfl,u,v,rfl,g1,g2,g3,g4,g5⟩;have:u=v:=by omega
    subst this;exact⟨rfl,u,rfl,g1,g4,g5⟩
   case step2=>
    rintro x z st'' _ hx ⟨rfl,u,v,rfl,g1,g2,g3,g4,g5⟩
    dsimp only
    by_cases g:u≥v
    ·rw[if_pos g];have:u=v:=by omega
     subst this;exact Qm ⟨rfl,u,rfl,g1,g4,g5⟩
    ·rw[if_neg g];refine Ql (bey (u+(v - u) / 2) _ (by omega) ?_);cases e:QcX c lf kk xs (b+(u+(v - u) / 2)) with
     |true=>exact Qm ⟨rfl,_,_,rfl,g1,by omega,by omega,λi hi=>mono (by omega) (by omega) e,g5⟩
     |false=>exact Qm ⟨rfl,_,_,rfl,by omega,by omega,by omega,g4,λi hi hn=>monoF hi hn e⟩
   case post2=>
    rintro z st'' ⟨rfl,v,rfl,g1,g4,g5⟩;exact Qm (h v g1 g4 g5)
structure Fb (κ:Ya) (a₀:Array Keyed) (lo:Nat) (st st':JV):Prop where
 sb:SB κ a₀ st'
 pend:pendingOf st'=pendingOf st
 low:∀k,k<lo->kx (arrOf st') k=kx (arrOf st) k
theorem Fb.refl{st:JV}{lo:Nat}(h:SB κ a₀ st):Fb κ a₀ lo st st:=⟨h,rfl,λ_ _=>rfl⟩
theorem Qny{xs:Array Keyed}{i j:Nat}(hj:j<=xs.size)(k:Nat):kx (mirror xs i j ((j - i) / 2)) k=if i<=k/\k<j then kx xs (i+j - 1 - k) else kx xs k:=by
 have e:=QwA (i:=i) hj k;by_cases h1:i<=k/\k<j
 ·rw[if_pos h1] at e ⊢;exact Qjc e
 ·rw[if_neg h1] at e ⊢;exact Qjc e
theorem Qb6{st:JV}{i j lo:Nat}{st0:JV}{Q:Unit->JV->Prop}(fb:Fb κ a₀ lo st0 st)(hi:lo<=i)(hj:j<=a₀.size)
  (h:∀st',Fb κ a₀ lo st0 st'->(∀k,kx (arrOf st') k=if i<=k/\k<j then kx (arrOf st) (i+j - 1 - k) else kx (arrOf st) k)->Q () st'):wpS (model prog w) A E s (reverseSlice' i j) Q st:=by
 rw[reverseSlice'_eq];have km:∀k,kx (mirror (arrOf st) i j ((j - i) / 2)) k=if i<=k/\k<j then kx (arrOf st) (i+j - 1 - k) else kx (arrOf st) k:=λk=>Qny (by rw[fb.sb.size];exact hj) k
 refine Qaz (h _ ⟨⟨(mirror_perm _ _ _ _).trans fb.sb.perm,fb.sb.kind,fb.sb.failed⟩,fb.pend,λk hk=>?_⟩ km);show kx (mirror (arrOf st) i j ((j - i) / 2)) k=_;rw[km,if_neg (by omega)];exact fb.low k hk
def QCi(lo a nr:Nat):StateT JV Sem (Option (Option Nat)×Nat):=
 forIn [a:nr] ((none,a):Option (Option Nat)×Nat) λ_ z=>do
  let r <- ltAt' (lo+z.2) (lo+z.2 - 1)
  match r with
  |some b=>if b=true then pure (Qba (none,z.2)) else pure (JX (none,z.2+1))
  |_=>pure (Qba (some none,z.2))
theorem QeM{st:JV}{lo a nr:Nat}{Q:Option (Option Nat)×Nat->JV->Prop}(hA:Asks prog w A s κ a₀ c)(hn:lo+nr<=a₀.size)(h1:1<=a)(han:a<=nr)(hB:SB κ a₀ st)(sg:Sg c (arrOf st) lo (lo+a))
  (h:∀n,a<=n->n<=nr->Sg c (arrOf st) lo (lo+n)->(n=nr∨c (kx (arrOf st) (lo+n)) (kx (arrOf st) (lo+n - 1))=true)->Q (none,n) st):wpS (model prog w) A E s (QCi lo a nr) Q st:=by
 unfold QCi;refine J1 (I:=λx z st'=>st'=st/\z=(none,x)/\Sg c (arrOf st) lo (lo+x)) ?step ?fin ⟨rfl,rfl,sg⟩
 case fin=>
  rintro z st' ⟨rfl,rfl,hs⟩;rw[show max a nr=nr by omega] at hs ⊢;exact h nr han (Qj _) hs (.inl rfl)
 case step=>
  rintro x z st' hax hxn ⟨rfl,rfl,hs⟩
  dsimp only
  refine Ql (QeK hA hB (by omega) (by omega) ?_);cases e:c (kx (arrOf st') (lo+x)) (kx (arrOf st') (lo+x - 1)) with
  |true=>exact Qm (h x hax (by omega) hs (.inr e))
  |false=>
   refine Qm ⟨rfl,rfl,λi j hi hij hj=>?_⟩;by_cases z:j<lo+x
   ·exact hs i j hi hij z
   ·have zj:j=lo+x:=by omega
    subst zj;by_cases zi:i=lo+x
    ·subst zi;exact hA.ord.irr _
    ·exact hA.ord.tr (hs i (lo+x - 1) hi (by omega) (by omega)) e
def Ng(c:Keyed->Keyed->Bool)(xs:Array Keyed)(lo hi:Nat):Prop:=∀i j,lo<=i->i<=j->j<hi->le c (kx xs j) (kx xs i)
def Eqv(c:Keyed->Keyed->Bool)(x y:Keyed):Prop:=le c x y/\le c y x
theorem Eqv.ng(o:Ord c){xs ys:Array Keyed}{lo hi:Nat}(h:∀k,lo<=k->k<hi->Eqv c (kx ys k) (kx xs k))(n:Ng c xs lo hi):Ng c ys lo hi:=λi j hi' hij hj=>
 o.tr (h j (by omega) hj).1 (o.tr (n i j hi' hij hj) (h i hi' (by omega)).2)
theorem Qgu(o:Ord c){xs ys:Array Keyed}{u v:Nat}(h:∀k,kx ys k=if u<=k/\k<v then kx xs (u+v - 1 - k) else kx xs k)(q:∀k,u<=k->k<v->Eqv c (kx xs k) (kx xs (v - 1)))(k:Nat):Eqv c (kx ys k) (kx xs k):=by
 rw[h k];split
 ·rename_i z
  have a:=q (u+v - 1 - k) (by omega) (by omega);have b:=q k z.1 z.2;exact⟨o.tr a.1 b.2,o.tr b.1 a.2⟩
 ·exact⟨o.irr _,o.irr _⟩
def QyQ(lo n nr:Nat):StateT JV Sem (Option (Option Nat)×Nat×Nat):=
 forIn [n:nr] ((none,n,0):Option (Option Nat)×Nat×Nat) λ_ z=>do
  let r <- ltAt' (lo+z.2.1) (lo+z.2.1 - 1)
  match r with
  |some b=>
   if b=true then
    if z.2.2 > 0 then do
     reverseSlice' (lo+z.2.1 - (z.2.2+1)) (lo+z.2.1)
     pure (JX (none,z.2.1+1,0))
    else pure (JX (none,z.2.1+1,0))
   else do
    let r <- ltAt' (lo+z.2.1 - 1) (lo+z.2.1)
    match r with
    |some b=>
     if b=true then pure (Qba (none,z.2.1,z.2.2))
     else pure (JX (none,z.2.1+1,z.2.2+1))
    |_=>pure (Qba (some none,z.2.1,z.2.2))
  |_=>pure (Qba (some none,z.2.1,z.2.2))
theorem Qe1(o:Ord c){xs:Array Keyed}{lo n:Nat}(h:Ng c xs lo (lo+n))(h1:1<=n)(l:le c (kx xs (lo+n)) (kx xs (lo+n - 1))):Ng c xs lo (lo+(n+1)):=λi j hi hij hj=>by
 by_cases z:j<lo+n
 ·exact h i j hi hij z
 ·have zj:j=lo+n:=by omega
  subst zj;by_cases zi:i=lo+n
  ·subst zi;exact o.irr _
  ·exact o.tr l (h i (lo+n - 1) hi (by omega) (by omega))
theorem QjG{st st0:JV}{lo n nr:Nat}{Q:Option (Option Nat)×Nat×Nat->JV->Prop}(hA:Asks prog w A s κ a₀ c)(hn:lo+nr<=a₀.size)(h1:1<=n)(han:n<=nr)(fb:Fb κ a₀ lo st0 st)(ng:Ng c (arrOf st) lo (lo+n))
  (h:∀m q st',n<=m->m<=nr->Fb κ a₀ lo st0 st'->Ng c (arrOf st') lo (lo+m)->q+1<=m->(∀k,lo+m - (q+1)<=k->k<lo+m->Eqv c (kx (arrOf st') k) (kx (arrOf st') (lo+m - 1)))->Q (none,m,q) st'):wpS (model prog w) A E s (QyQ lo n nr) Q st:=by
 unfold QyQ;have ir:∀x,Eqv c x x:=λx=>⟨hA.ord.irr x,hA.ord.irr x⟩
 refine J1 (I:=λx z st'=>∃q,z=(none,x,q)/\Fb κ a₀ lo st0 st'/\Ng c (arrOf st') lo (lo+x)/\q+1<=x/\(∀k,lo+x - (q+1)<=k->k<lo+x->Eqv c (kx (arrOf st') k) (kx (arrOf st') (lo+x - 1)))) ?step ?fin
  ⟨0,rfl,fb,ng,h1,λk k1 k2=>by rw[show k=lo+n - 1 by omega];exact ir _⟩
 case fin=>
  rintro z st' ⟨q,rfl,f,g,g1,g2⟩;rw[show max n nr=nr by omega] at g g1 g2 ⊢;exact h nr q st' han (Qj _) f g g1 g2
 case step=>
  rintro x z st' hax hxn ⟨q,rfl,f,g,g1,g2⟩
  dsimp only
  refine Ql (QeK hA f.sb (by omega) (by omega) ?_);cases e:c (kx (arrOf st') (lo+x)) (kx (arrOf st') (lo+x - 1)) with
  |true=>
   dsimp only
   rw[if_pos rfl];by_cases zq:q > 0
   ·rw[if_pos zq];refine Ql (Qb6 f (by omega) (by omega) λst2 f2 km=>Qm ⟨0,rfl,f2,?_,by omega,λk k1 k2=>by rw[show k=lo+(x+1) - 1 by omega];exact ir _⟩);refine Eqv.ng hA.ord (xs:=arrOf st') (λk _ _=>Qgu hA.ord km g2 k) (Qe1 hA.ord g (by omega) (hA.ord.lt_le e))
   ·rw[if_neg zq];exact Qm ⟨0,rfl,f,Qe1 hA.ord g (by omega) (hA.ord.lt_le e),by omega,λk k1 k2=>by rw[show k=lo+(x+1) - 1 by omega];exact ir _⟩
  |false=>
   dsimp only
   rw[if_neg (by decide)];refine Ql (QeK hA f.sb (by omega) (by omega) ?_);cases e2:c (kx (arrOf st') (lo+x - 1)) (kx (arrOf st') (lo+x)) with
   |true=>exact Qm (h x q st' hax (by omega) f g g1 g2)
   |false=>
    refine Qm ⟨q+1,rfl,f,Qe1 hA.ord g (by omega) e2,by omega,λk k1 k2=>?_⟩;rw[show lo+(x+1) - 1=lo+x by omega];by_cases zk:k=lo+x
    ·subst zk;exact ir _
    ·have a:=g2 k (by omega) (by omega);exact⟨hA.ord.tr a.1 e,hA.ord.tr e2 a.2⟩
theorem Qrs{xs ys:Array Keyed}{lo hi:Nat}(h:∀k,kx ys k=if lo<=k/\k<hi then kx xs (lo+hi - 1 - k) else kx xs k)(n:Ng c xs lo hi):Sg c ys lo hi:=λi j hi' hij hj=>by
 rw[h i,h j,if_pos (by omega),if_pos (by omega)];exact n _ _ (by omega) (by omega) (by omega)
theorem Qgd{st:JV}{lo nr:Nat}{Q:Option Nat->JV->Prop}(hA:Asks prog w A s κ a₀ c)(hn:lo+nr<=a₀.size)(h1:1<=nr)(hB:SB κ a₀ st)
  (h:∀m st',Fb κ a₀ lo st st'->1<=m->m<=nr->Sg c (arrOf st') lo (lo+m)->Q (some m) st'):wpS (model prog w) A E s (countRun' lo nr) Q st:=by
 rw[countRun'_eq]
 dsimp only
 refine Ql (QeM (lo:=lo) (a:=1) (nr:=nr) hA hn (Qj _) h1 hB (λi j hi hij hj=>by rw[show i=j by omega];exact hA.ord.irr _) λn n1 n2 sg hor=>?_)
 dsimp only
 by_cases zn:n=nr
 ·rw[if_pos (by simpa using zn)];exact Qm (h n st (Fb.refl hB) n1 n2 sg)
 ·rw[if_neg (by simpa using zn)];have hlt:=hor.resolve_left zn;by_cases zg:n > 1
  ·rw[if_pos zg];refine Ql (QeK hA hB (by omega) (by omega) ?_);cases e:c (kx (arrOf st) lo) (kx (arrOf st) (lo+n - 1)) with
   |true=>exact Qm (h n st (Fb.refl hB) n1 n2 sg)
   |false=>
    have all:∀k,lo<=k->k<lo+n->Eqv c (kx (arrOf st) k) (kx (arrOf st) (lo+n - 1)):=λk k1 k2=>
     ⟨sg k (lo+n - 1) k1 (by omega) (by omega),hA.ord.tr e (sg lo k (Qj _) k1 k2)⟩
    dsimp only
    rw[if_neg (by decide)];refine Ql (Qb6 (Fb.refl hB) (Qj _) (by omega) λst2 f2 km=>?_);have ng2:Ng c (arrOf st2) lo (lo+(n+1)):=by
     refine Eqv.ng hA.ord (xs:=arrOf st) (λk k1 k2=>Qgu hA.ord km all k) (Qe1 hA.ord (λi j i1 ij j1=>?_) n1 (hA.ord.lt_le hlt));have a:=all i i1 (by omega);have b:=all j (by omega) j1;exact hA.ord.tr b.1 a.2
    refine Ql (Qet (wpAny_rule ⟨rfl,?_⟩));refine Ql (QjG (lo:=lo) (n:=n+1) (nr:=nr) hA hn (by omega) (by omega) f2 (ng2) λm q st' m1 m2 f5 g g1 g2=>?_)
    dsimp only
    by_cases zq:q > 0
    ·rw[if_pos zq];refine Ql (Qb6 f5 (by omega) (by omega) λst3 f3 km3=>?_);refine Ql (Qb6 f3 (Qj _) (by omega) λst4 f4 km4=>?_);refine Ql (QeM (lo:=lo) (a:=m) (nr:=nr) hA hn (by omega) m2 f4.sb (Qrs km4 (Eqv.ng hA.ord (xs:=arrOf st') (λk _ _=>Qgu hA.ord km3 g2 k) g)) λk k1 k2 sg4 _=>Qm (h k st4 f4 (by omega) k2 sg4))
    ·rw[if_neg zq];refine Ql (Qb6 f5 (Qj _) (by omega) λst4 f4 km4=>?_);refine Ql (QeM (lo:=lo) (a:=m) (nr:=nr) hA hn (by omega) m2 f4.sb (Qrs km4 (g)) λk k1 k2 sg4 _=>Qm (h k st4 f4 (by omega) k2 sg4))
  ·rw[if_neg zg];have z1:n=1:=by omega
   subst z1;refine Ql (Qet (wpAny_rule ⟨rfl,?_⟩));refine Ql (QjG (lo:=lo) (n:=1+1) (nr:=nr) hA hn (by omega) (by omega) (Fb.refl hB) (Qe1 hA.ord (λi j i1 ij j1=>by rw[show i=j by omega];exact hA.ord.irr _) n1 (hA.ord.lt_le hlt)) λm q st' m1 m2 f5 g g1 g2=>?_)
   dsimp only
   by_cases zq:q > 0
   ·rw[if_pos zq];refine Ql (Qb6 f5 (by omega) (by omega) λst3 f3 km3=>?_);refine Ql (Qb6 f3 (Qj _) (by omega) λst4 f4 km4=>?_);refine Ql (QeM (lo:=lo) (a:=m) (nr:=nr) hA hn (by omega) m2 f4.sb (Qrs km4 (Eqv.ng hA.ord (xs:=arrOf st') (λk _ _=>Qgu hA.ord km3 g2 k) g)) λk k1 k2 sg4 _=>Qm (h k st4 f4 (by omega) k2 sg4))
   ·rw[if_neg zq];refine Ql (Qb6 f5 (Qj _) (by omega) λst4 f4 km4=>?_);refine Ql (QeM (lo:=lo) (a:=m) (nr:=nr) hA hn (by omega) m2 f4.sb (Qrs km4 (g)) λk k1 k2 sg4 _=>Qm (h k st4 f4 (by omega) k2 sg4))
theorem Qnz{xs:Array Keyed}{src d:Nat}(hs:src<xs.size)(hd:d<=src)(k:Nat):kx (bubble xs src d) k=if k=src - d then kx xs src else if src - d<k/\k<=src then kx xs (k - 1) else kx xs k:=by
 have e:=getElem?_bubble hs d hd k
 by_cases h1:k=src - d
 ·rw[if_pos h1] at e ⊢;exact Qjc e
 ·rw[if_neg h1] at e ⊢;by_cases h2:src - d<k/\k<=src
  ·rw[if_pos h2] at e ⊢;exact Qjc e
  ·rw[if_neg h2] at e ⊢;exact Qjc e
theorem QeL{st:JV}{lo n ok:Nat}{Q:Bool->JV->Prop}(hA:Asks prog w A s κ a₀ c)(hn:lo+n<=a₀.size)(h1:1<=ok)(hok:ok<=n)(hB:SB κ a₀ st)(sg:Sg c (arrOf st) lo (lo+ok))
  (h:∀st',Fb κ a₀ lo st st'->Sg c (arrOf st') lo (lo+n)->Q true st'):wpS (model prog w) A E s (binarySort' lo n ok) Q st:=by
 rw[binarySort'_eq];refine Ql (Yy (J1 (I:=λk z st'=>z=(none,())/\Fb κ a₀ lo st st'/\Sg c (arrOf st') lo (lo+min k n)) (Q:=λz st'=>z=(none,())/\Fb κ a₀ lo st st'/\Sg c (arrOf st') lo (lo+n)) ?step ?fin ⟨rfl,Fb.refl hB,by rw[show min (max ok 1) n=ok by omega];exact sg⟩) ?post)
 case post=>
  rintro z st' ⟨rfl,f,g⟩;exact Qm (h st' f g)
 case fin=>
  rintro z st' ⟨rfl,f,g⟩;rw[show min (max (max ok 1) n) n=n by omega] at g;exact⟨rfl,f,g⟩
 case step=>
  rintro k z st' hak hkn ⟨rfl,f,g⟩;rw[show min k n=k by omega] at g;refine Ql (Yy (J1 (I:=λx z st''=>st''=st'/\∃l r,z=(none,l,r)/\l<=r/\r<=k/\r - l<=k - x/\(∀i,i<l->le c (kx (arrOf st') (lo+i)) (kx (arrOf st') (lo+k)))/\(∀i,r<=i->i<k->le c (kx (arrOf st') (lo+k)) (kx (arrOf st') (lo+i))))
   (Q:=λz st''=>st''=st'/\∃l r,z=(none,l,r)/\l<=k/\(∀i,i<l->le c (kx (arrOf st') (lo+i)) (kx (arrOf st') (lo+k)))/\(∀i,l<=i->i<k->le c (kx (arrOf st') (lo+k)) (kx (arrOf st') (lo+i)))) ?istep ?ifin ⟨rfl,0,k,rfl,by omega,by omega,by omega,λi hi=>by omega,λi a b=>by omega⟩) ?ipost)
  case ifin=>
   rintro z st'' ⟨rfl,l,r,rfl,h1,h2,h3,h4,h5⟩;have:l=r:=by omega
   subst this;exact⟨rfl,l,l,rfl,h2,h4,h5⟩
  case istep=>
   rintro x z st'' _ hx ⟨rfl,l,r,rfl,h1,h2,h3,h4,h5⟩
   dsimp only
   by_cases zz:l≥r
   ·rw[if_pos zz];have:l=r:=by omega
    subst this;exact Qm ⟨rfl,l,l,rfl,h2,h4,h5⟩
   ·rw[if_neg zz];refine Ql (QeK hA f.sb (by omega) (by omega) ?_);cases e:c (kx (arrOf st'') (lo+k)) (kx (arrOf st'') (lo+(l+r) / 2)) with
    |true=>exact Qm ⟨rfl,_,_,rfl,by omega,by omega,by omega,h4,λi a b=>hA.ord.tr (hA.ord.lt_le e) (g _ _ (by omega) (by omega) (by omega))⟩
    |false=>exact Qm ⟨rfl,_,_,rfl,by omega,by omega,by omega,λi a=>hA.ord.tr (g (lo+i) (lo+(l+r) / 2) (by omega) (by omega) (by omega)) e,h5⟩
  case ipost=>
   rintro z st'' ⟨rfl,l,r,rfl,h2,h4,h5⟩
   dsimp only
   rw[moveDown'_eq];have hs:lo+k<(arrOf st'').size:=by rw[f.sb.size];omega
   have kb:∀j,kx (bubble (arrOf st'') (lo+k) (lo+k - (lo+l))) j=if j=lo+l then kx (arrOf st'') (lo+k) else if lo+l<j/\j<=lo+k then kx (arrOf st'') (j - 1) else kx (arrOf st'') j:=λj=>by
    rw[Qnz hs (by omega),show lo+k - (lo+k - (lo+l))=lo+l by omega]
   refine Ql (Qaz (Qm ⟨rfl,⟨⟨(bubble_perm _ _ _).trans f.sb.perm,f.sb.kind,f.sb.failed⟩,f.pend,λj hj=>?_⟩,λi j hi hij hj=>?_⟩))
   ·show kx (bubble (arrOf st'') (lo+k) (lo+k - (lo+l))) j=_;rw[kb,if_neg (by omega),if_neg (by omega)];exact f.low j hj
   ·show le c (kx (bubble (arrOf st'') (lo+k) (lo+k - (lo+l))) i) (kx (bubble (arrOf st'') (lo+k) (lo+k - (lo+l))) j);rw[kb,kb];have low:∀i,lo<=i->i<lo+l->le c (kx (arrOf st'') i) (kx (arrOf st'') (lo+k)):=λi a b=>by have:=h4 (i - lo) (by omega);rwa [show lo+(i - lo)=i by omega] at this
    have high:∀i,lo+l<=i->i<lo+k->le c (kx (arrOf st'') (lo+k)) (kx (arrOf st'') i):=λi a b=>by have:=h5 (i - lo) (by omega) (by omega);rwa [show lo+(i - lo)=i by omega] at this
    repeat' split
    all_goals first
     |(exfalso;omega)
     |exact hA.ord.irr _
     |exact low _ (by omega) (by omega)
     |exact high _ (by omega) (by omega)
     |exact g _ _ (by omega) (by omega) (by omega)
end
def YE:Nat->StateT JV Sem Unit:=sortPriv% PySem.Builtin.setMinGallop
theorem Qep(g:Nat):YE g=modify λz=>QoS (kindOf z) (arrOf z) (pendingOf z) g (failedOf z):=rfl
def QgB:Array Keyed->Array Keyed->StateT JV Sem (Array Keyed):=sortPriv% PySem.Builtin.mergeLo
def QgC:Array Keyed->Array Keyed->StateT JV Sem (Array Keyed):=sortPriv% PySem.Builtin.mergeHi
theorem Qi9(a b:Array Keyed):QgB a b=(do
 rule "list.sort.merge-lo"
 let tot:=a.size+b.size
 let dn (r:Array Keyed) (i j:Nat):=r++a.extract i a.size++b.extract j b.size
 let la (r:Array Keyed) (i j:Nat):=r++b.extract j b.size++a.extract i a.size
 let mut r:Array Keyed:=#[<- elem' b 0]
 let mut i:=0
 let mut j:=1
 if j == b.size then return dn r i j
 if i+1 == a.size then return la r i j
 let mut mg:=gallopOf (<- get)
 for _ in [0:tot] do
  let mut p:=0
  let mut q:=0
  for _ in [0:tot] do
   let some t <- lt' (<- elem' b j) (<- elem' a i) | return dn r i j
   if t then
    r:=r.push (<- elem' b j);j:=j+1;q:=q+1;p:=0
    if j == b.size then return dn r i j
    if q≥mg then break
   else
    r:=r.push (<- elem' a i);i:=i+1;p:=p+1;q:=0
    if i+1 == a.size then return la r i j
    if p≥mg then break
  rule "list.sort.gallop"
  mg:=mg+1
  for _ in [0:tot] do
   if mg > 1 then mg:=mg - 1
   YE mg
   let some k <- Qci false (<- elem' b j) a i (a.size - i) 0 | return dn r i j
   p:=k
   if k > 0 then
    r:=r++a.extract i (i+k);i:=i+k
    if i+1 == a.size then return la r i j
    if i == a.size then return dn r i j
   r:=r.push (<- elem' b j);j:=j+1
   if j == b.size then return dn r i j
   let some k <- Qci true (<- elem' a i) b j (b.size - j) 0 | return dn r i j
   q:=k
   if k > 0 then
    r:=r++b.extract j (j+k);j:=j+k
    if j == b.size then return dn r i j
   r:=r.push (<- elem' a i);i:=i+1
   if i+1 == a.size then return la r i j
   if p<7&&q<7 then break
  mg:=mg+1
  YE mg
 unsupported "internal:list.sort.merge-bound"):=rfl
section
variable{c:Keyed->Keyed->Bool}
abbrev Pw (c:Keyed->Keyed->Bool) (l:List Keyed):Prop:=l.Pairwise (le c)
theorem Qs8{r ch x y:List Keyed}(h1:Pw c (r++(ch++x)))(h2:Pw c (r++y))(h:∀u∈ch,∀v∈y,le c u v):Pw c ((r++ch)++x)/\Pw c ((r++ch)++y):=by
 have h1':Pw c ((r++ch)++x):=by rw[Q3];exact h1
 refine⟨h1',?_⟩;have g:=JI.mp h1';have g2:=JI.mp h2;refine JI.mpr ⟨g.1,g2.2.1,λu hu v hv=>?_⟩;rcases Jr.mp hu with z | z
 ·exact g2.2.2 u z v hv
 ·exact h u z v hv
theorem QaT{xs:Array Keyed}{i:Nat}(h:i<xs.size):xs.toList[i]? = some (kx xs i):=by rw[Q9];exact Qvr h
theorem Qn4{xs:Array Keyed}{i:Nat}(h:i<xs.size):xs.toList.drop i=kx xs i::xs.toList.drop (i+1):=by
 have hl:i<xs.toList.length:=by rw[Qd];exact h
 rw[Qac hl];have:=QaT h;rw[Qf hl] at this;rw[Qu this]
theorem QbG{xs:Array Keyed}{i:Nat}{p:Keyed}(h:p∈xs.toList.drop i):∃k,i<=k/\k<xs.size/\p=kx xs k:=by
 obtain⟨n,hn⟩:=Q0.mp h;rw[YB] at hn;have hl:=(QR.mp hn).1;rw[Qd] at hl;rw[QaT hl] at hn;exact⟨i+n,by omega,hl,(Qu hn).symm⟩
theorem QeE(xs:Array Keyed)(i k:Nat):(xs.extract i (i+k)).toList=(xs.toList.drop i).take k:=by
 rw[QaZ,Qab,Nat.add_sub_cancel_left]
theorem Qd5(xs:Array Keyed)(i:Nat):(xs.extract i xs.size).toList=xs.toList.drop i:=by
 rw[QaZ,Qab,ZR (by rw[ZH,Qd];exact Qj _)]
theorem Qe3{xs:Array Keyed}{i k:Nat}{p:Keyed}(h:p∈(xs.toList.drop i).take k):∃t,t<k/\i+t<xs.size/\p=kx xs (i+t):=by
 obtain⟨n,hn⟩:=Q0.mp h;rw[Qev] at hn;split at hn
 ·rename_i z
  rw[YB] at hn;have hl:=(QR.mp hn).1;rw[Qd] at hl;rw[QaT hl] at hn;exact⟨n,z,hl,(Qu hn).symm⟩
 ·cases hn
structure MI (c:Keyed->Keyed->Bool) (a b r:Array Keyed) (i j:Nat):Prop where
 ha:Pw c (r.toList++a.toList.drop i)
 hb:Pw c (r.toList++b.toList.drop j)
 pm:(r.toList++(a.toList.drop i++b.toList.drop j)).Perm (a.toList++b.toList)
def Out(c:Keyed->Keyed->Bool)(a b z:Array Keyed):Prop:=Pw c z.toList/\z.toList.Perm (a.toList++b.toList)
variable{a b r:Array Keyed}{i j k:Nat}
theorem MI.chA(m:MI c a b r i j)(h:∀t,t<k->i+t<a.size->∀n,j<=n->n<b.size->le c (kx a (i+t)) (kx b n)):MI c a b (r++a.extract i (i+k)) (i+k) j:=by
 have e:a.toList.drop i=(a.toList.drop i).take k++a.toList.drop (i+k):=by rw[<- Qip,Jq]
 have e2:(r++a.extract i (i+k)).toList=r.toList++(a.toList.drop i).take k:=by rw[Jz,QeE]
 have h1:=m.ha;have pm:=m.pm;rw[e] at h1 pm;obtain⟨g1,g2⟩:=Qs8 h1 m.hb λu hu v hv=>by
  obtain⟨t,t1,t2,rfl⟩:=Qe3 hu;obtain⟨n,n1,n2,rfl⟩:=QbG hv;exact h t t1 t2 n n1 n2
 refine⟨by rw[e2];exact g1,by rw[e2];exact g2,?_⟩;rw[e2,Q3,<- Q3 ((a.toList.drop i).take k)];exact pm
theorem MI.chB(m:MI c a b r i j)(h:∀t,t<k->j+t<b.size->∀n,i<=n->n<a.size->le c (kx b (j+t)) (kx a n)):MI c a b (r++b.extract j (j+k)) i (j+k):=by
 have e:b.toList.drop j=(b.toList.drop j).take k++b.toList.drop (j+k):=by rw[<- Qip,Jq]
 have e2:(r++b.extract j (j+k)).toList=r.toList++(b.toList.drop j).take k:=by rw[Jz,QeE]
 have h1:=m.hb;have pm:=m.pm;rw[e] at h1 pm;obtain⟨g1,g2⟩:=Qs8 h1 m.ha λu hu v hv=>by
  obtain⟨t,t1,t2,rfl⟩:=Qe3 hu;obtain⟨n,n1,n2,rfl⟩:=QbG hv;exact h t t1 t2 n n1 n2
 refine⟨by rw[e2];exact g2,by rw[e2];exact g1,?_⟩;rw[e2,Q3];refine QaP (Yt _ ?_) pm;rw[<- Q3,<- Q3];exact Qap _ Z4
theorem Qj1{xs:Array Keyed}{i:Nat}(h:i<xs.size):r.push (kx xs i)=r++xs.extract i (i+1):=by
 apply Qcq.mp
 rw[QbY,Jz,QeE,Qn4 h];rfl
theorem MI.puA(m:MI c a b r i j)(hi:i<a.size)(h:∀n,j<=n->n<b.size->le c (kx a i) (kx b n)):MI c a b (r.push (kx a i)) (i+1) j:=by
 rw[Qj1 hi];refine m.chA λt t1 t2=>?_
 have:t=0:=by omega
 subst this;exact h
theorem MI.puB(m:MI c a b r i j)(hj:j<b.size)(h:∀n,i<=n->n<a.size->le c (kx b j) (kx a n)):MI c a b (r.push (kx b j)) i (j+1):=by
 rw[Qj1 hj];refine m.chB λt t1 t2=>?_
 have:t=0:=by omega
 subst this;exact h
theorem MI.dnB(m:MI c a b r i j)(hj:j=b.size):Out c a b (r++a.extract i a.size++b.extract j b.size):=by
 have e:b.toList.drop j=[]:=ZS (by rw[Qd];omega);have e2:(r++a.extract i a.size++b.extract j b.size).toList=r.toList++a.toList.drop i:=by rw[Jz,Jz,Qd5,Qd5,e,JK]
 have pm:=m.pm;rw[e,JK] at pm;exact⟨by rw[e2];exact m.ha,by rw[e2];exact pm⟩
theorem MI.dnA(m:MI c a b r i j)(hi:i=a.size):Out c a b (r++a.extract i a.size++b.extract j b.size):=by
 have e:a.toList.drop i=[]:=ZS (by rw[Qd];omega);have e2:(r++a.extract i a.size++b.extract j b.size).toList=r.toList++b.toList.drop j:=by rw[Jz,Jz,Qd5,Qd5,e,JK]
 have pm:=m.pm;rw[e,Qbk] at pm;exact⟨by rw[e2];exact m.hb,by rw[e2];exact pm⟩
theorem MI.last(m:MI c a b r i j)(hi:i+1=a.size)(p2:∀k,k<b.size->le c (kx b k) (kx a (a.size - 1))):Out c a b (r++b.extract j b.size++a.extract i a.size):=by
 have e2:(r++b.extract j b.size++a.extract i a.size).toList=(r.toList++b.toList.drop j)++a.toList.drop i:=by rw[Jz,Jz,Qd5,Qd5]
 have g:=JI.mp m.ha;refine⟨by
  rw[e2];refine JI.mpr ⟨m.hb,g.2.1,λu hu v hv=>?_⟩;rcases Jr.mp hu with z | z
  ·exact g.2.2 u z v hv
  ·obtain⟨n,n1,n2,rfl⟩:=QbG hv;obtain⟨n',n3,n4,rfl⟩:=QbG z;rw[show n=a.size - 1 by omega];exact p2 n' n4,?_⟩
 rw[e2,Q3];exact QaP (Yt _ Z4) m.pm
end
structure Sm (st st':JV):Prop where
 kind:kindOf st'=kindOf st
 arr:arrOf st'=arrOf st
 pend:pendingOf st'=pendingOf st
 failed:failedOf st'=failedOf st
theorem Sm.refl(st:JV):Sm st st:=⟨rfl,rfl,rfl,rfl⟩
section
variable{prog:QD}{w:Jl}{A:Je}{E:Value->Shared->Prop}{s:Shared}{a₀:Array Keyed}{κ:Ya}{c:Keyed->Keyed->Bool}
theorem Qfx{st st0:JV}{g:Nat}{Q:Unit->JV->Prop}(m:Sm st0 st)(h:∀st',Sm st0 st'->Q () st'):wpS (model prog w) A E s (YE g) Q st:=by
 rw[Qep];exact Qaz (h _ ⟨m.kind,m.arr,m.pend,m.failed⟩)
theorem JP{x y:Nat}(h:x≠y):¬((x == y)=true):=λz=>h (beq_iff_eq.mp z)
theorem QiE{st:JV}{a b:Array Keyed}{Q:Array Keyed->JV->Prop}(hA:Asks prog w A s κ a₀ c)(hk:kindOf st=κ)(ma:∀p∈a.toList,p∈a₀.toList)(mb:∀p∈b.toList,p∈a₀.toList)(na:1<=a.size)(nb:1<=b.size)
  (sa:Sg c a 0 a.size)(sb:Sg c b 0 b.size)(p1:∀k,k<a.size->le c (kx b 0) (kx a k))(p2:∀k,k<b.size->le c (kx b k) (kx a (a.size - 1)))(h:∀z st',Sm st st'->Out c a b z->Q z st'):wpS (model prog w) A E s (QgB a b) Q st:=by
 have pwl:∀{xs:Array Keyed},Sg c xs 0 xs.size->Pw c xs.toList:=λ{xs} sg=>Jy.mpr λx y hx hy hxy=>by
  rw[Qd] at hx hy;have e1:=QaT hx;have e2:=QaT hy;rw[Qf (by rw[Qd];exact hx)] at e1;rw[Qf (by rw[Qd];exact hy)] at e2;rw[Qu e1,Qu e2];exact sg x y (Qt _) (by omega) hy
 rw[Qi9]
 dsimp only
 refine Ql (Qet (wpAny_rule ⟨rfl,?_⟩));refine Ql (Jb (by omega) ?_);have m0:MI c a b #[] 0 0:=⟨by rw[Zw];exact pwl sa,by rw[Zw];exact pwl sb,by rw[Zw,Zw];exact ZV _⟩;have m1:MI c a b #[kx b 0] 0 1:=MI.puB m0 (by omega) λn _ hn=>p1 n hn
 by_cases z1:1=b.size
 ·rw[if_pos (beq_iff_eq.mpr z1)];exact Qm (h _ _ (Sm.refl st) (m1.dnB z1))
 ·rw[if_neg (JP z1)];by_cases z2:0+1=a.size
  ·rw[if_pos (beq_iff_eq.mpr z2)];exact Qm (h _ _ (Sm.refl st) (m1.last z2 p2))
  ·rw[if_neg (JP z2)];refine Ql (QcB ?_);refine Ql (Yy (J1 (I:=λx z st'=>∃r i j mg,z=(none,r,i,j,mg)/\MI c a b r i j/\i+1<a.size/\j<b.size/\x+1<=i+j/\Sm st st')
    (Q:=λz st'=>∃o y,z=(some o,y)/\Out c a b o/\Sm st st') ?step ?fin ⟨_,0,1,_,rfl,m1,by omega,by omega,by omega,Sm.refl st⟩) ?post)
   case post=>
    rintro z st' ⟨o,y,rfl,ho,sm⟩;exact Qm (h o st' sm ho)
   case fin=>
    rintro z st' ⟨r,i,j,mg,rfl,m,i1,j1,x1,sm⟩;exfalso
    omega
   case step=>
    rintro x z st' _ hx ⟨r,i,j,mg,rfl,m,i1,j1,x1,sm⟩
    dsimp only
    refine Ql (Yy (J1 (I:=λy z st2=>∃r i j p q,z=(none,r,i,j,p,q)/\MI c a b r i j/\i+1<a.size/\j<b.size/\x+1+y<=i+j/\Sm st st2)
     (Q:=λz st2=>(∃o y,z=(some o,y)/\Out c a b o/\Sm st st2)∨∃r i j p q,z=(none,r,i,j,p,q)/\MI c a b r i j/\i+1<a.size/\j<b.size/\x+2<=i+j/\Sm st st2) ?step1 ?fin1 ⟨r,i,j,0,0,rfl,m,i1,j1,by omega,sm⟩) ?post1)
    case fin1=>
     rintro z st2 ⟨r,i,j,p,q,rfl,m,i1,j1,x1,sm⟩;exact .inr ⟨r,i,j,p,q,rfl,m,i1,j1,by omega,sm⟩
    case step1=>
     rintro y z st2 _ hy ⟨r,i,j,p,q,rfl,m,i1,j1,x1,sm⟩
     dsimp only
     refine Ql (Jb j1 ?_);refine Ql (Jb (by omega) ?_);refine Ql (Qhn hA (sm.kind.trans hk) (mb _ (Qe4 j1)) (ma _ (Qe4 (by omega))) ?_);cases e:c (kx b j) (kx a i) with
     |true=>
      dsimp only
      rw[if_pos rfl];refine Ql (Jb j1 ?_);have m2:=MI.puB m j1 λn n1 n2=>hA.ord.tr (hA.ord.lt_le e) (sa i n (Qt _) n1 n2)
      by_cases z3:j+1=b.size
      ·rw[if_pos (beq_iff_eq.mpr z3)];exact Qm (.inl ⟨_,_,rfl,m2.dnB z3,sm⟩)
      ·rw[if_neg (JP z3)];split
       ·exact Qm (.inr ⟨_,_,_,_,_,rfl,m2,by omega,by omega,by omega,sm⟩)
       ·exact Qm ⟨_,_,_,_,_,rfl,m2,by omega,by omega,by omega,sm⟩
     |false=>
      dsimp only
      rw[if_neg (by decide)];refine Ql (Jb (by omega) ?_);have m2:=MI.puA m (by omega) λn n1 n2=>hA.ord.tr e (sb j n (Qt _) n1 n2)
      by_cases z3:i+1+1=a.size
      ·rw[if_pos (beq_iff_eq.mpr z3)];exact Qm (.inl ⟨_,_,rfl,m2.last z3 p2,sm⟩)
      ·rw[if_neg (JP z3)];split
       ·exact Qm (.inr ⟨_,_,_,_,_,rfl,m2,by omega,by omega,by omega,sm⟩)
       ·exact Qm ⟨_,_,_,_,_,rfl,m2,by omega,by omega,by omega,sm⟩
    case post1=>
     rintro z st2 (⟨o,y,rfl,ho,sm⟩ | ⟨r,i,j,p,q,rfl,m,i1,j1,x1,sm⟩)
     ·exact Qm ⟨o,_,rfl,ho,sm⟩
     ·dsimp only
      refine Ql (Qet (wpAny_rule ⟨rfl,?_⟩));refine Ql (Yy (J1 (I:=λy z st3=>∃r i j mg p q,z=(none,r,i,j,mg,p,q)/\MI c a b r i j/\i+1<a.size/\j<b.size/\x+2<=i+j/\Sm st st3)
       (Q:=λz st3=>(∃o y,z=(some o,y)/\Out c a b o/\Sm st st3)∨∃r i j mg p q,z=(none,r,i,j,mg,p,q)/\MI c a b r i j/\i+1<a.size/\j<b.size/\x+2<=i+j/\Sm st st3) ?step2 ?fin2 ⟨r,i,j,_,p,q,rfl,m,i1,j1,by omega,sm⟩) ?post2)
      case fin2=>
       rintro z st3 ⟨r,i,j,mg,p,q,rfl,m,i1,j1,x1,sm⟩;exact .inr ⟨r,i,j,mg,p,q,rfl,m,i1,j1,by omega,sm⟩
      case post2=>
       rintro z st3 (⟨o,y,rfl,ho,sm⟩ | ⟨r,i,j,mg,p,q,rfl,m,i1,j1,x1,sm⟩)
       ·exact Qm ⟨o,_,rfl,ho,sm⟩
       ·dsimp only
        exact Ql (Qfx sm λst4 sm4=>Qm ⟨_,_,_,_,rfl,m,i1,j1,by omega,sm4⟩)
      case step2=>
       rintro y z st3 _ hy ⟨r,i,j,mg,p,q,rfl,m,i1,j1,x1,sm⟩
       dsimp only
       by_cases z0:mg > 1
       ·rw[if_pos z0];refine Ql (Qfx sm λst4 sm4=>?_);refine Ql (Jb (by omega) ?_);refine Ql (Zy hA (sm4.kind.trans hk) (mb _ (Qe4 (by omega))) ma (by omega) (by omega) (λx y x1 xy y1=>sa x y (Qt _) xy (by omega)) λk kn b1 b2=>?_);have b1:∀t,t<k->(!c (kx b j) (kx a (i+t)))=true:=λt ht=>b1 t ht
        have b2:∀t,k<=t->t<a.size - i->(!c (kx b j) (kx a (i+t)))=false:=λt h1 h2=>b2 t h1 h2
        dsimp only
        have hB1:∀n,i+k<=n->n<a.size->le c (kx b j) (kx a n):=λn n1 n2=>by
         have:=b2 (n - i) (by omega) (by omega);rw[show i+(n - i)=n by omega] at this;exact hA.ord.lt_le (by simpa using this)
        by_cases zk:k > 0
        ·rw[if_pos zk];have m2:=MI.chA (k:=k) m λt t1 t2 n n1 n2=>by
          have:=b1 t t1;exact hA.ord.tr (show le c (kx a (i+t)) (kx b j) by simpa using this) (sb j n (Qt _) n1 n2)
         by_cases z2:i+k+1=a.size
         ·rw[if_pos (beq_iff_eq.mpr z2)];exact Qm (.inl ⟨_,_,rfl,m2.last z2 p2,sm4⟩)
         ·rw[if_neg (JP z2)];by_cases z3:i+k=a.size
          ·rw[if_pos (beq_iff_eq.mpr z3)];exact Qm (.inl ⟨_,_,rfl,m2.dnA z3,sm4⟩)
          ·rw[if_neg (JP z3)];refine Ql (Jb (by omega) ?_);have m5:=MI.puB m2 (by omega) hB1;by_cases z5:j+1=b.size
           ·rw[if_pos (beq_iff_eq.mpr z5)];exact Qm (.inl ⟨_,_,rfl,m5.dnB z5,sm4⟩)
           ·rw[if_neg (JP z5)];refine Ql (Jb (by omega) ?_);refine Ql (Zy hA (sm4.kind.trans hk) (ma _ (Qe4 (by omega))) mb (by omega) (by omega) (λx y x1 xy y1=>sb x y (Qt _) xy (by omega)) λk2 k2n b1 b2=>?_);have b1:∀t,t<k2->c (kx b (j+1+t)) (kx a (i+k))=true:=λt ht=>b1 t ht
            have b2:∀t,k2<=t->t<b.size - (j+1)->c (kx b (j+1+t)) (kx a (i+k))=false:=λt h1 h2=>b2 t h1 h2
            dsimp only
            have gA:∀n,j+1+k2<=n->n<b.size->le c (kx a (i+k)) (kx b n):=λn n1 n2=>by have:=b2 (n - (j+1)) (by omega) (by omega);rwa [show j+1+(n - (j+1))=n by omega] at this
            by_cases zk2:k2 > 0
            ·rw[if_pos zk2];have m6:=MI.chB (k:=k2) m5 λt t1 t2 n n1 n2=>hA.ord.tr (hA.ord.lt_le (b1 t t1)) (sa (i+k) n (Qt _) n1 n2)
             by_cases z6:j+1+k2=b.size
             ·rw[if_pos (beq_iff_eq.mpr z6)];exact Qm (.inl ⟨_,_,rfl,m6.dnB z6,sm4⟩)
             ·rw[if_neg (JP z6)];refine Ql (Jb (by omega) ?_);have m9:=MI.puA m6 (by omega) gA;by_cases z9:i+k+1+1=a.size
              ·rw[if_pos (beq_iff_eq.mpr z9)];exact Qm (.inl ⟨_,_,rfl,m9.last z9 p2,sm4⟩)
              ·rw[if_neg (JP z9)];split
               ·exact Qm (.inr ⟨_,_,_,_,_,_,rfl,m9,by omega,by omega,by omega,sm4⟩)
               ·exact Qm ⟨_,_,_,_,_,_,rfl,m9,by omega,by omega,by omega,sm4⟩
            ·rw[if_neg zk2];have zk2:k2=0:=by omega
             subst zk2;refine Ql (Jb (by omega) ?_);have m9:=MI.puA m5 (by omega) gA;by_cases z9:i+k+1+1=a.size
             ·rw[if_pos (beq_iff_eq.mpr z9)];exact Qm (.inl ⟨_,_,rfl,m9.last z9 p2,sm4⟩)
             ·rw[if_neg (JP z9)];split
              ·exact Qm (.inr ⟨_,_,_,_,_,_,rfl,m9,by omega,by omega,by omega,sm4⟩)
              ·exact Qm ⟨_,_,_,_,_,_,rfl,m9,by omega,by omega,by omega,sm4⟩
        ·rw[if_neg zk];have zk:k=0:=by omega
         subst zk;refine Ql (Jb (by omega) ?_);have m5:=MI.puB m (by omega) hB1;by_cases z5:j+1=b.size
         ·rw[if_pos (beq_iff_eq.mpr z5)];exact Qm (.inl ⟨_,_,rfl,m5.dnB z5,sm4⟩)
         ·rw[if_neg (JP z5)];refine Ql (Jb (by omega) ?_);refine Ql (Zy hA (sm4.kind.trans hk) (ma _ (Qe4 (by omega))) mb (by omega) (by omega) (λx y x1 xy y1=>sb x y (Qt _) xy (by omega)) λk2 k2n b1 b2=>?_);have b1:∀t,t<k2->c (kx b (j+1+t)) (kx a (i))=true:=λt ht=>b1 t ht
          have b2:∀t,k2<=t->t<b.size - (j+1)->c (kx b (j+1+t)) (kx a (i))=false:=λt h1 h2=>b2 t h1 h2
          dsimp only
          have gA:∀n,j+1+k2<=n->n<b.size->le c (kx a (i)) (kx b n):=λn n1 n2=>by have:=b2 (n - (j+1)) (by omega) (by omega);rwa [show j+1+(n - (j+1))=n by omega] at this
          by_cases zk2:k2 > 0
          ·rw[if_pos zk2];have m6:=MI.chB (k:=k2) m5 λt t1 t2 n n1 n2=>hA.ord.tr (hA.ord.lt_le (b1 t t1)) (sa (i) n (Qt _) n1 n2)
           by_cases z6:j+1+k2=b.size
           ·rw[if_pos (beq_iff_eq.mpr z6)];exact Qm (.inl ⟨_,_,rfl,m6.dnB z6,sm4⟩)
           ·rw[if_neg (JP z6)];refine Ql (Jb (by omega) ?_);have m9:=MI.puA m6 (by omega) gA;by_cases z9:i+1+1=a.size
            ·rw[if_pos (beq_iff_eq.mpr z9)];exact Qm (.inl ⟨_,_,rfl,m9.last z9 p2,sm4⟩)
            ·rw[if_neg (JP z9)];split
             ·exact Qm (.inr ⟨_,_,_,_,_,_,rfl,m9,by omega,by omega,by omega,sm4⟩)
             ·exact Qm ⟨_,_,_,_,_,_,rfl,m9,by omega,by omega,by omega,sm4⟩
          ·rw[if_neg zk2];have zk2:k2=0:=by omega
           subst zk2;refine Ql (Jb (by omega) ?_);have m9:=MI.puA m5 (by omega) gA;by_cases z9:i+1+1=a.size
           ·rw[if_pos (beq_iff_eq.mpr z9)];exact Qm (.inl ⟨_,_,rfl,m9.last z9 p2,sm4⟩)
           ·rw[if_neg (JP z9)];split
            ·exact Qm (.inr ⟨_,_,_,_,_,_,rfl,m9,by omega,by omega,by omega,sm4⟩)
            ·exact Qm ⟨_,_,_,_,_,_,rfl,m9,by omega,by omega,by omega,sm4⟩
       ·rw[if_neg z0];refine Ql (Qfx sm λst4 sm4=>?_);refine Ql (Jb (by omega) ?_);refine Ql (Zy hA (sm4.kind.trans hk) (mb _ (Qe4 (by omega))) ma (by omega) (by omega) (λx y x1 xy y1=>sa x y (Qt _) xy (by omega)) λk kn b1 b2=>?_);have b1:∀t,t<k->(!c (kx b j) (kx a (i+t)))=true:=λt ht=>b1 t ht
        have b2:∀t,k<=t->t<a.size - i->(!c (kx b j) (kx a (i+t)))=false:=λt h1 h2=>b2 t h1 h2
        dsimp only
        have hB1:∀n,i+k<=n->n<a.size->le c (kx b j) (kx a n):=λn n1 n2=>by
         have:=b2 (n - i) (by omega) (by omega);rw[show i+(n - i)=n by omega] at this;exact hA.ord.lt_le (by simpa using this)
        by_cases zk:k > 0
        ·rw[if_pos zk];have m2:=MI.chA (k:=k) m λt t1 t2 n n1 n2=>by
          have:=b1 t t1;exact hA.ord.tr (show le c (kx a (i+t)) (kx b j) by simpa using this) (sb j n (Qt _) n1 n2)
         by_cases z2:i+k+1=a.size
         ·rw[if_pos (beq_iff_eq.mpr z2)];exact Qm (.inl ⟨_,_,rfl,m2.last z2 p2,sm4⟩)
         ·rw[if_neg (JP z2)];by_cases z3:i+k=a.size
          ·rw[if_pos (beq_iff_eq.mpr z3)];exact Qm (.inl ⟨_,_,rfl,m2.dnA z3,sm4⟩)
          ·rw[if_neg (JP z3)];refine Ql (Jb (by omega) ?_);have m5:=MI.puB m2 (by omega) hB1;by_cases z5:j+1=b.size
           ·rw[if_pos (beq_iff_eq.mpr z5)];exact Qm (.inl ⟨_,_,rfl,m5.dnB z5,sm4⟩)
           ·rw[if_neg (JP z5)];refine Ql (Jb (by omega) ?_);refine Ql (Zy hA (sm4.kind.trans hk) (ma _ (Qe4 (by omega))) mb (by omega) (by omega) (λx y x1 xy y1=>sb x y (Qt _) xy (by omega)) λk2 k2n b1 b2=>?_);have b1:∀t,t<k2->c (kx b (j+1+t)) (kx a (i+k))=true:=λt ht=>b1 t ht
            have b2:∀t,k2<=t->t<b.size - (j+1)->c (kx b (j+1+t)) (kx a (i+k))=false:=λt h1 h2=>b2 t h1 h2
            dsimp only
            have gA:∀n,j+1+k2<=n->n<b.size->le c (kx a (i+k)) (kx b n):=λn n1 n2=>by have:=b2 (n - (j+1)) (by omega) (by omega);rwa [show j+1+(n - (j+1))=n by omega] at this
            by_cases zk2:k2 > 0
            ·rw[if_pos zk2];have m6:=MI.chB (k:=k2) m5 λt t1 t2 n n1 n2=>hA.ord.tr (hA.ord.lt_le (b1 t t1)) (sa (i+k) n (Qt _) n1 n2)
             by_cases z6:j+1+k2=b.size
             ·rw[if_pos (beq_iff_eq.mpr z6)];exact Qm (.inl ⟨_,_,rfl,m6.dnB z6,sm4⟩)
             ·rw[if_neg (JP z6)];refine Ql (Jb (by omega) ?_);have m9:=MI.puA m6 (by omega) gA;by_cases z9:i+k+1+1=a.size
              ·rw[if_pos (beq_iff_eq.mpr z9)];exact Qm (.inl ⟨_,_,rfl,m9.last z9 p2,sm4⟩)
              ·rw[if_neg (JP z9)];split
               ·exact Qm (.inr ⟨_,_,_,_,_,_,rfl,m9,by omega,by omega,by omega,sm4⟩)
               ·exact Qm ⟨_,_,_,_,_,_,rfl,m9,by omega,by omega,by omega,sm4⟩
            ·rw[if_neg zk2];have zk2:k2=0:=by omega
             subst zk2;refine Ql (Jb (by omega) ?_);have m9:=MI.puA m5 (by omega) gA;by_cases z9:i+k+1+1=a.size
             ·rw[if_pos (beq_iff_eq.mpr z9)];exact Qm (.inl ⟨_,_,rfl,m9.last z9 p2,sm4⟩)
             ·rw[if_neg (JP z9)];split
              ·exact Qm (.inr ⟨_,_,_,_,_,_,rfl,m9,by omega,by omega,by omega,sm4⟩)
              ·exact Qm ⟨_,_,_,_,_,_,rfl,m9,by omega,by omega,by omega,sm4⟩
        ·rw[if_neg zk];have zk:k=0:=by omega
         subst zk;refine Ql (Jb (by omega) ?_);have m5:=MI.puB m (by omega) hB1;by_cases z5:j+1=b.size
         ·rw[if_pos (beq_iff_eq.mpr z5)];exact Qm (.inl ⟨_,_,rfl,m5.dnB z5,sm4⟩)
         ·rw[if_neg (JP z5)];refine Ql (Jb (by omega) ?_);refine Ql (Zy hA (sm4.kind.trans hk) (ma _ (Qe4 (by omega))) mb (by omega) (by omega) (λx y x1 xy y1=>sb x y (Qt _) xy (by omega)) λk2 k2n b1 b2=>?_);have b1:∀t,t<k2->c (kx b (j+1+t)) (kx a (i))=true:=λt ht=>b1 t ht
          have b2:∀t,k2<=t->t<b.size - (j+1)->c (kx b (j+1+t)) (kx a (i))=false:=λt h1 h2=>b2 t h1 h2
          dsimp only
          have gA:∀n,j+1+k2<=n->n<b.size->le c (kx a (i)) (kx b n):=λn n1 n2=>by have:=b2 (n - (j+1)) (by omega) (by omega);rwa [show j+1+(n - (j+1))=n by omega] at this
          by_cases zk2:k2 > 0
          ·rw[if_pos zk2];have m6:=MI.chB (k:=k2) m5 λt t1 t2 n n1 n2=>hA.ord.tr (hA.ord.lt_le (b1 t t1)) (sa (i) n (Qt _) n1 n2)
           by_cases z6:j+1+k2=b.size
           ·rw[if_pos (beq_iff_eq.mpr z6)];exact Qm (.inl ⟨_,_,rfl,m6.dnB z6,sm4⟩)
           ·rw[if_neg (JP z6)];refine Ql (Jb (by omega) ?_);have m9:=MI.puA m6 (by omega) gA;by_cases z9:i+1+1=a.size
            ·rw[if_pos (beq_iff_eq.mpr z9)];exact Qm (.inl ⟨_,_,rfl,m9.last z9 p2,sm4⟩)
            ·rw[if_neg (JP z9)];split
             ·exact Qm (.inr ⟨_,_,_,_,_,_,rfl,m9,by omega,by omega,by omega,sm4⟩)
             ·exact Qm ⟨_,_,_,_,_,_,rfl,m9,by omega,by omega,by omega,sm4⟩
          ·rw[if_neg zk2];have zk2:k2=0:=by omega
           subst zk2;refine Ql (Jb (by omega) ?_);have m9:=MI.puA m5 (by omega) gA;by_cases z9:i+1+1=a.size
           ·rw[if_pos (beq_iff_eq.mpr z9)];exact Qm (.inl ⟨_,_,rfl,m9.last z9 p2,sm4⟩)
           ·rw[if_neg (JP z9)];split
            ·exact Qm (.inr ⟨_,_,_,_,_,_,rfl,m9,by omega,by omega,by omega,sm4⟩)
            ·exact Qm ⟨_,_,_,_,_,_,rfl,m9,by omega,by omega,by omega,sm4⟩
end
theorem Qja(a b:Array Keyed):QgC a b=(do
 rule "list.sort.merge-hi"
 let tot:=a.size+b.size
 let dn (r:Array Keyed) (i j:Nat):=a.extract 0 i++b.extract 0 j++r.reverse
 let fb (r:Array Keyed) (i j:Nat):=b.extract 0 j++a.extract 0 i++r.reverse
 let mut i:=a.size - 1
 let mut j:=b.size
 let mut r:Array Keyed:=#[<- elem' a i]
 if i == 0 then return dn r i j
 if j == 1 then return fb r i j
 let mut mg:=gallopOf (<- get)
 for _ in [0:tot] do
  let mut p:=0
  let mut q:=0
  for _ in [0:tot] do
   let some t <- lt' (<- elem' b (j - 1)) (<- elem' a (i - 1)) | return dn r i j
   if t then
    i:=i - 1;r:=r.push (<- elem' a i);p:=p+1;q:=0
    if i == 0 then return dn r i j
    if p≥mg then break
   else
    j:=j - 1;r:=r.push (<- elem' b j);q:=q+1;p:=0
    if j == 1 then return fb r i j
    if q≥mg then break
  rule "list.sort.gallop"
  mg:=mg+1
  for _ in [0:tot] do
   if mg > 1 then mg:=mg - 1
   YE mg
   let some t <- Qci false (<- elem' b (j - 1)) a 0 i (i - 1) | return dn r i j
   let k:=i - t
   p:=k
   if k > 0 then
    r:=r++(a.extract t i).reverse;i:=t
    if i == 0 then return dn r i j
   j:=j - 1;r:=r.push (<- elem' b j)
   if j == 1 then return fb r i j
   let some t <- Qci true (<- elem' a (i - 1)) b 0 j (j - 1) | return dn r i j
   let k:=j - t
   q:=k
   if k > 0 then
    r:=r++(b.extract t j).reverse;j:=t
    if j == 1 then return fb r i j
    if j == 0 then return dn r i j
   i:=i - 1;r:=r.push (<- elem' a i)
   if i == 0 then return dn r i j
   if p<7&&q<7 then break
  mg:=mg+1
  YE mg
 unsupported "internal:list.sort.merge-bound"):=rfl
section
variable{c:Keyed->Keyed->Bool}
theorem Qs7{r ch x y:List Keyed}(h1:Pw c ((x++ch)++r))(h2:Pw c (y++r))(h:∀u∈y,∀v∈ch,le c u v):Pw c (x++(ch++r))/\Pw c (y++(ch++r)):=by
 have h1':Pw c (x++(ch++r)):=by rw[<- Q3];exact h1
 refine⟨h1',?_⟩;have g:=JI.mp h1';have g2:=JI.mp h2;refine JI.mpr ⟨g2.1,g.2.1,λu hu v hv=>?_⟩;rcases Jr.mp hv with z | z
 ·exact h u hu v z
 ·exact g2.2.2 u hu v z
theorem Qkr(xs:Array Keyed)(i:Nat):(xs.extract 0 i).toList=xs.toList.take i:=by
 rw[QaZ,Qab,QlY,Zw]
theorem QaV(xs:Array Keyed)(t i:Nat):(xs.extract t i).toList=(xs.toList.take i).drop t:=by
 rw[QaZ,Qab,List.take_drop];by_cases z:t<=i
 ·rw[show t+(i - t)=i by omega]
 ·rw[show i - t=0 by omega,QbM,ZS (by rw[Jo];omega),ZS (by rw[Jo];omega)]
theorem Y6{xs:Array Keyed}{t i:Nat}{p:Keyed}(h:p∈(xs.toList.take i).drop t):∃n,t<=n/\n<i/\n<xs.size/\p=kx xs n:=by
 obtain⟨n,hn⟩:=Q0.mp h;rw[YB,Qev] at hn;split at hn
 ·rename_i z
  have hl:=(QR.mp hn).1;rw[Qd] at hl;rw[QaT hl] at hn;exact⟨t+n,by omega,z,hl,(Qu hn).symm⟩
 ·cases hn
structure MH (c:Keyed->Keyed->Bool) (a b r:Array Keyed) (i j:Nat):Prop where
 ha:Pw c (a.toList.take i++r.toList.reverse)
 hb:Pw c (b.toList.take j++r.toList.reverse)
 pm:((a.toList.take i++b.toList.take j)++r.toList.reverse).Perm (a.toList++b.toList)
variable{a b r:Array Keyed}{i j t:Nat}
theorem QdV(r x:Array Keyed):(r++x.reverse).toList.reverse=x.toList++r.toList.reverse:=by
 rw[Jz,Qdf,List.reverse_append,List.reverse_reverse]
theorem MH.chA(m:MH c a b r i j)(ht:t<=i)(h:∀n,t<=n->n<i->n<a.size->∀k,k<j->k<b.size->le c (kx b k) (kx a n)):MH c a b (r++(a.extract t i).reverse) t j:=by
 have e:a.toList.take i=a.toList.take t++(a.toList.take i).drop t:=by
  have:=(Jq t (a.toList.take i)).symm
  rwa [QdI,Yj ht] at this
 have h1:=m.ha;have pm:=m.pm;rw[e] at h1 pm;obtain⟨g1,g2⟩:=Qs7 h1 m.hb λu hu v hv=>by
  obtain⟨n,n1,n2,n3,rfl⟩:=Y6 hv;obtain⟨k,_,k2,k3,rfl⟩:=Y6 (t:=0) (by rw[Zw];exact hu);exact h n n1 n2 n3 k k2 k3
 refine⟨by rw[QdV,QaV];exact g1,by rw[QdV,QaV];exact g2,?_⟩;rw[QdV,QaV];refine QaP ?_ pm
 rw[<- Q3];refine Qap _ ?_
 rw[Q3,Q3];exact Yt _ Z4
theorem MH.chB(m:MH c a b r i j)(ht:t<=j)(h:∀n,t<=n->n<j->n<b.size->∀k,k<i->k<a.size->le c (kx a k) (kx b n)):MH c a b (r++(b.extract t j).reverse) i t:=by
 have e:b.toList.take j=b.toList.take t++(b.toList.take j).drop t:=by
  have:=(Jq t (b.toList.take j)).symm
  rwa [QdI,Yj ht] at this
 have h1:=m.hb;have pm:=m.pm;rw[e] at h1 pm;obtain⟨g1,g2⟩:=Qs7 h1 m.ha λu hu v hv=>by
  obtain⟨n,n1,n2,n3,rfl⟩:=Y6 hv;obtain⟨k,_,k2,k3,rfl⟩:=Y6 (t:=0) (by rw[Zw];exact hu);exact h n n1 n2 n3 k k2 k3
 refine⟨by rw[QdV,QaV];exact g2,by rw[QdV,QaV];exact g1,?_⟩;rw[QdV,QaV];refine QaP ?_ pm
 rw[<- Q3,Q3 (a.toList.take i)]
theorem Qj0{xs:Array Keyed}{i:Nat}(h1:1<=i)(h:i<=xs.size):r.push (kx xs (i - 1))=r++(xs.extract (i - 1) i).reverse:=by
 apply Qcq.mp
 have e:=QeE xs (i - 1) 1;rw[show i - 1+1=i by omega] at e;rw[QbY,Jz,Qdf,e,Qn4 (by omega)];rfl
theorem MH.puA(m:MH c a b r i j)(h1:1<=i)(hi:i<=a.size)(h:∀k,k<j->k<b.size->le c (kx b k) (kx a (i - 1))):MH c a b (r.push (kx a (i - 1))) (i - 1) j:=by
 rw[Qj0 h1 hi];refine m.chA (by omega) λn n1 n2 _=>?_
 rw[show n=i - 1 by omega];exact h
theorem MH.puB(m:MH c a b r i j)(h1:1<=j)(hj:j<=b.size)(h:∀k,k<i->k<a.size->le c (kx a k) (kx b (j - 1))):MH c a b (r.push (kx b (j - 1))) i (j - 1):=by
 rw[Qj0 h1 hj];refine m.chB (by omega) λn n1 n2 _=>?_
 rw[show n=j - 1 by omega];exact h
theorem Qcv(x y r:Array Keyed)(i j:Nat):(x.extract 0 i++y.extract 0 j++r.reverse).toList=(x.toList.take i++y.toList.take j)++r.toList.reverse:=by
 rw[Jz,Jz,Qkr,Qkr,Qdf]
theorem MH.dnA(m:MH c a b r i j)(hi:i=0):Out c a b (a.extract 0 i++b.extract 0 j++r.reverse):=by
 have pm:=m.pm;subst hi;refine⟨?_,by rw[Qcv];exact pm⟩;rw[Qcv,QwF,Qbk];exact m.hb
theorem MH.dnB(m:MH c a b r i j)(hj:j=0):Out c a b (a.extract 0 i++b.extract 0 j++r.reverse):=by
 have pm:=m.pm;subst hj;refine⟨?_,by rw[Qcv];exact pm⟩;rw[Qcv,QwF,JK];exact m.ha
theorem MH.fb(m:MH c a b r i j)(hj:j=1)(p1:∀k,k<a.size->le c (kx b 0) (kx a k)):Out c a b (b.extract 0 j++a.extract 0 i++r.reverse):=by
 refine⟨?_,?_⟩
 ·rw[Qcv];have g:=JI.mp m.hb;rw[Q3];refine JI.mpr ⟨g.1,m.ha,λu hu v hv=>?_⟩;rcases Jr.mp hv with z | z
  ·obtain⟨k,_,k2,k3,rfl⟩:=Y6 (t:=0) (by rw[Zw];exact hu);obtain⟨n,_,n2,n3,rfl⟩:=Y6 (t:=0) (by rw[Zw];exact z);rw[show k=0 by omega];exact p1 n n3
  ·exact g.2.2 u hu v z
 ·rw[Qcv];exact QaP (Qap _ Z4) m.pm
end
section
variable{prog:QD}{w:Jl}{A:Je}{E:Value->Shared->Prop}{s:Shared}{a₀:Array Keyed}{κ:Ya}{c:Keyed->Keyed->Bool}
theorem QjZ{xs:Array Keyed}(sg:Sg c xs 0 xs.size):Pw c xs.toList:=Jy.mpr λx y hx hy hxy=>by
 rw[Qd] at hx hy;have e1:=QaT hx;have e2:=QaT hy;rw[Qf (by rw[Qd];exact hx)] at e1;rw[Qf (by rw[Qd];exact hy)] at e2;rw[Qu e1,Qu e2];exact sg x y (Qt _) (by omega) hy
theorem QiF{st:JV}{a b:Array Keyed}{Q:Array Keyed->JV->Prop}(hA:Asks prog w A s κ a₀ c)(hk:kindOf st=κ)(ma:∀p∈a.toList,p∈a₀.toList)(mb:∀p∈b.toList,p∈a₀.toList)(na:1<=a.size)(nb:1<=b.size)
  (sa:Sg c a 0 a.size)(sb:Sg c b 0 b.size)(p1:∀k,k<a.size->le c (kx b 0) (kx a k))(p2:∀k,k<b.size->le c (kx b k) (kx a (a.size - 1)))(h:∀z st',Sm st st'->Out c a b z->Q z st'):wpS (model prog w) A E s (QgC a b) Q st:=by
 rw[Qja]
 dsimp only
 refine Ql (Qet (wpAny_rule ⟨rfl,?_⟩));refine Ql (Jb (by omega) ?_);have tk:∀xs:Array Keyed,xs.toList.take xs.size=xs.toList:=λxs=>ZR (by rw[Qd];exact Qj _)
 have m0:MH c a b #[] a.size b.size:=⟨by rw[tk];show Pw c (a.toList++[]);rw[JK];exact QjZ sa,by rw[tk];show Pw c (b.toList++[]);rw[JK];exact QjZ sb,by rw[tk,tk];show((a.toList++b.toList)++[]).Perm _;rw[JK]⟩;have m1:MH c a b #[kx a (a.size - 1)] (a.size - 1) b.size:=MH.puA m0 na (Qj _) λk _ hk=>p2 k hk
 by_cases z1:a.size - 1=0
 ·rw[if_pos (beq_iff_eq.mpr z1)];exact Qm (h _ _ (Sm.refl st) (m1.dnA z1))
 ·rw[if_neg (JP z1)];by_cases z2:b.size=1
  ·rw[if_pos (beq_iff_eq.mpr z2)];exact Qm (h _ _ (Sm.refl st) (m1.fb z2 p1))
  ·rw[if_neg (JP z2)];refine Ql (QcB ?_);refine Ql (Yy (J1 (I:=λx z st'=>∃r i j mg,z=(none,i,j,r,mg)/\MH c a b r i j/\1<=i/\i<=a.size/\2<=j/\j<=b.size/\x+1+i+j<=a.size+b.size/\Sm st st')
    (Q:=λz st'=>∃o y,z=(some o,y)/\Out c a b o/\Sm st st') ?step ?fin ⟨_,_,_,_,rfl,m1,by omega,by omega,by omega,by omega,by omega,Sm.refl st⟩) ?post)
   case post=>
    rintro z st' ⟨o,y,rfl,ho,sm⟩;exact Qm (h o st' sm ho)
   case fin=>
    rintro z st' ⟨r,i,j,mg,rfl,m,i1,i2,j1,j2,x1,sm⟩;exfalso
    omega
   case step=>
    rintro x z st' _ hx ⟨r,i,j,mg,rfl,m,i1,i2,j1,j2,x1,sm⟩
    dsimp only
    refine Ql (Yy (J1 (I:=λy z st2=>∃r i j p q,z=(none,i,j,r,p,q)/\MH c a b r i j/\1<=i/\i<=a.size/\2<=j/\j<=b.size/\x+1+y+i+j<=a.size+b.size/\Sm st st2)
     (Q:=λz st2=>(∃o y,z=(some o,y)/\Out c a b o/\Sm st st2)∨∃r i j p q,z=(none,i,j,r,p,q)/\MH c a b r i j/\1<=i/\i<=a.size/\2<=j/\j<=b.size/\x+2+i+j<=a.size+b.size/\Sm st st2) ?step1 ?fin1 ⟨r,i,j,0,0,rfl,m,i1,i2,j1,j2,by omega,sm⟩) ?post1)
    case fin1=>
     rintro z st2 ⟨r,i,j,p,q,rfl,m,i1,i2,j1,j2,x1,sm⟩;exact .inr ⟨r,i,j,p,q,rfl,m,i1,i2,j1,j2,by omega,sm⟩
    case step1=>
     rintro y z st2 _ hy ⟨r,i,j,p,q,rfl,m,i1,i2,j1,j2,x1,sm⟩
     dsimp only
     refine Ql (Jb (by omega) ?_);refine Ql (Jb (by omega) ?_);refine Ql (Qhn hA (sm.kind.trans hk) (mb _ (Qe4 (by omega))) (ma _ (Qe4 (by omega))) ?_);cases e:c (kx b (j - 1)) (kx a (i - 1)) with
     |true=>
      dsimp only
      rw[if_pos rfl];refine Ql (Jb (by omega) ?_);have m2:=MH.puA m i1 i2 λk k1 k2=>hA.ord.tr (sb k (j - 1) (Qt _) (by omega) (by omega)) (hA.ord.lt_le e)
      by_cases z3:i - 1=0
      ·rw[if_pos (beq_iff_eq.mpr z3)];exact Qm (.inl ⟨_,_,rfl,m2.dnA z3,sm⟩)
      ·rw[if_neg (JP z3)];split
       ·exact Qm (.inr ⟨_,_,_,_,_,rfl,m2,by omega,by omega,by omega,by omega,by omega,sm⟩)
       ·exact Qm ⟨_,_,_,_,_,rfl,m2,by omega,by omega,by omega,by omega,by omega,sm⟩
     |false=>
      dsimp only
      rw[if_neg (by decide)];refine Ql (Jb (by omega) ?_);have m2:=MH.puB m (by omega) j2 λk k1 k2=>hA.ord.tr (sa k (i - 1) (Qt _) (by omega) (by omega)) e
      by_cases z3:j - 1=1
      ·rw[if_pos (beq_iff_eq.mpr z3)];exact Qm (.inl ⟨_,_,rfl,m2.fb z3 p1,sm⟩)
      ·rw[if_neg (JP z3)];split
       ·exact Qm (.inr ⟨_,_,_,_,_,rfl,m2,by omega,by omega,by omega,by omega,by omega,sm⟩)
       ·exact Qm ⟨_,_,_,_,_,rfl,m2,by omega,by omega,by omega,by omega,by omega,sm⟩
    case post1=>
     rintro z st2 (⟨o,y,rfl,ho,sm⟩ | ⟨r,i,j,p,q,rfl,m,i1,i2,j1,j2,x1,sm⟩)
     ·exact Qm ⟨o,_,rfl,ho,sm⟩
     ·dsimp only
      refine Ql (Qet (wpAny_rule ⟨rfl,?_⟩));refine Ql (Yy (J1 (I:=λy z st3=>∃r i j mg p q,z=(none,i,j,r,mg,p,q)/\MH c a b r i j/\1<=i/\i<=a.size/\2<=j/\j<=b.size/\x+2+i+j<=a.size+b.size/\Sm st st3)
       (Q:=λz st3=>(∃o y,z=(some o,y)/\Out c a b o/\Sm st st3)∨∃r i j mg p q,z=(none,i,j,r,mg,p,q)/\MH c a b r i j/\1<=i/\i<=a.size/\2<=j/\j<=b.size/\x+2+i+j<=a.size+b.size/\Sm st st3) ?step2 ?fin2 ⟨r,i,j,_,p,q,rfl,m,i1,i2,j1,j2,by omega,sm⟩) ?post2)
      case fin2=>
       rintro z st3 ⟨r,i,j,mg,p,q,rfl,m,i1,i2,j1,j2,x1,sm⟩;exact .inr ⟨r,i,j,mg,p,q,rfl,m,i1,i2,j1,j2,by omega,sm⟩
      case post2=>
       rintro z st3 (⟨o,y,rfl,ho,sm⟩ | ⟨r,i,j,mg,p,q,rfl,m,i1,i2,j1,j2,x1,sm⟩)
       ·exact Qm ⟨o,_,rfl,ho,sm⟩
       ·dsimp only
        exact Ql (Qfx sm λst4 sm4=>Qm ⟨_,_,_,_,rfl,m,i1,i2,j1,j2,by omega,sm4⟩)
      case step2=>
       rintro y z st3 _ hy ⟨r,i,j,mg,p,q,rfl,m,i1,i2,j1,j2,x1,sm⟩
       dsimp only
       by_cases z0:mg > 1
       ·rw[if_pos z0];refine Ql (Qfx sm λst4 sm4=>?_);refine Ql (Jb (by omega) ?_);refine Ql (Zy hA (sm4.kind.trans hk) (mb _ (Qe4 (by omega))) ma (by omega) (by omega) (λx y x1 xy y1=>sa x y (Qt _) xy (by omega)) λt tn b1 b2=>?_);have lowA:∀n,n<t->le c (kx a n) (kx b (j - 1)):=λn hn=>by
         have:(!c (kx b (j - 1)) (kx a (0+n)))=true:=b1 n hn;rw[JT] at this
         simpa using this
        have b2:∀n,t<=n->n<i->c (kx b (j - 1)) (kx a n)=true:=λn h1 h2=>by
         have:(!c (kx b (j - 1)) (kx a (0+n)))=false:=b2 n h1 h2;rw[JT] at this
         simpa using this
        dsimp only
        by_cases zk:i - t > 0
        ·rw[if_pos zk];have m2:=MH.chA (t:=t) m tn λn n1 n2 _ k k1 k2=>hA.ord.tr (sb k (j - 1) (Qt _) (by omega) (by omega)) (hA.ord.lt_le (b2 n n1 n2))
         by_cases z2:t=0
         ·rw[if_pos (beq_iff_eq.mpr z2)];exact Qm (.inl ⟨_,_,rfl,m2.dnA z2,sm4⟩)
         ·rw[if_neg (JP z2)];refine Ql (Jb (by omega) ?_);have m5:=MH.puB m2 (by omega) (by omega) λk k1 k2=>lowA k k1
          by_cases z5:j - 1=1
          ·rw[if_pos (beq_iff_eq.mpr z5)];exact Qm (.inl ⟨_,_,rfl,m5.fb z5 p1,sm4⟩)
          ·rw[if_neg (JP z5)];refine Ql (Jb (by omega) ?_);refine Ql (Zy hA (sm4.kind.trans hk) (ma _ (Qe4 (by omega))) mb (by omega) (by omega) (λx y x1 xy y1=>sb x y (Qt _) xy (by omega)) λt2 t2n b1 b2=>?_);have b1:∀n,n<t2->c (kx b n) (kx a (t - 1))=true:=λn hn=>by have:=b1 n hn;rwa [JT] at this
           have b2:∀n,t2<=n->n<j - 1->c (kx b n) (kx a (t - 1))=false:=λn h1 h2=>by have:=b2 n h1 h2;rwa [JT] at this
           dsimp only
           by_cases zk2:j - 1 - t2 > 0
           ·rw[if_pos zk2];have m6:=MH.chB (t:=t2) m5 t2n λn n1 n2 _ k k1 k2=>hA.ord.tr (sa k (t - 1) (Qt _) (by omega) (by omega)) (b2 n n1 n2)
            by_cases z6:t2=1
            ·rw[if_pos (beq_iff_eq.mpr z6)];exact Qm (.inl ⟨_,_,rfl,m6.fb z6 p1,sm4⟩)
            ·rw[if_neg (JP z6)];by_cases z7:t2=0
             ·rw[if_pos (beq_iff_eq.mpr z7)];exact Qm (.inl ⟨_,_,rfl,m6.dnB z7,sm4⟩)
             ·rw[if_neg (JP z7)];refine Ql (Jb (by omega) ?_);have m9:=MH.puA m6 (by omega) (by omega) λk k1 k2=>hA.ord.lt_le (b1 k k1)
              by_cases z9:t - 1=0
              ·rw[if_pos (beq_iff_eq.mpr z9)];exact Qm (.inl ⟨_,_,rfl,m9.dnA z9,sm4⟩)
              ·rw[if_neg (JP z9)];split
               ·exact Qm (.inr ⟨_,_,_,_,_,_,rfl,m9,by omega,by omega,by omega,by omega,by omega,sm4⟩)
               ·exact Qm ⟨_,_,_,_,_,_,rfl,m9,by omega,by omega,by omega,by omega,by omega,sm4⟩
           ·rw[if_neg zk2];have zt:t2=j - 1:=by omega
            refine Ql (Jb (by omega) ?_);have m9:=MH.puA m5 (by omega) (by omega) λk k1 k2=>hA.ord.lt_le (b1 k (by omega))
            by_cases z9:t - 1=0
            ·rw[if_pos (beq_iff_eq.mpr z9)];exact Qm (.inl ⟨_,_,rfl,m9.dnA z9,sm4⟩)
            ·rw[if_neg (JP z9)];split
             ·exact Qm (.inr ⟨_,_,_,_,_,_,rfl,m9,by omega,by omega,by omega,by omega,by omega,sm4⟩)
             ·exact Qm ⟨_,_,_,_,_,_,rfl,m9,by omega,by omega,by omega,by omega,by omega,sm4⟩
        ·rw[if_neg zk];have zt:t=i:=by omega
         subst zt;refine Ql (Jb (by omega) ?_);have m5:=MH.puB m (by omega) (by omega) λk k1 k2=>lowA k k1
         by_cases z5:j - 1=1
         ·rw[if_pos (beq_iff_eq.mpr z5)];exact Qm (.inl ⟨_,_,rfl,m5.fb z5 p1,sm4⟩)
         ·rw[if_neg (JP z5)];refine Ql (Jb (by omega) ?_);refine Ql (Zy hA (sm4.kind.trans hk) (ma _ (Qe4 (by omega))) mb (by omega) (by omega) (λx y x1 xy y1=>sb x y (Qt _) xy (by omega)) λt2 t2n b1 b2=>?_);have b1:∀n,n<t2->c (kx b n) (kx a (t - 1))=true:=λn hn=>by have:=b1 n hn;rwa [JT] at this
          have b2:∀n,t2<=n->n<j - 1->c (kx b n) (kx a (t - 1))=false:=λn h1 h2=>by have:=b2 n h1 h2;rwa [JT] at this
          dsimp only
          by_cases zk2:j - 1 - t2 > 0
          ·rw[if_pos zk2];have m6:=MH.chB (t:=t2) m5 t2n λn n1 n2 _ k k1 k2=>hA.ord.tr (sa k (t - 1) (Qt _) (by omega) (by omega)) (b2 n n1 n2)
           by_cases z6:t2=1
           ·rw[if_pos (beq_iff_eq.mpr z6)];exact Qm (.inl ⟨_,_,rfl,m6.fb z6 p1,sm4⟩)
           ·rw[if_neg (JP z6)];by_cases z7:t2=0
            ·rw[if_pos (beq_iff_eq.mpr z7)];exact Qm (.inl ⟨_,_,rfl,m6.dnB z7,sm4⟩)
            ·rw[if_neg (JP z7)];refine Ql (Jb (by omega) ?_);have m9:=MH.puA m6 (by omega) (by omega) λk k1 k2=>hA.ord.lt_le (b1 k k1)
             by_cases z9:t - 1=0
             ·rw[if_pos (beq_iff_eq.mpr z9)];exact Qm (.inl ⟨_,_,rfl,m9.dnA z9,sm4⟩)
             ·rw[if_neg (JP z9)];split
              ·exact Qm (.inr ⟨_,_,_,_,_,_,rfl,m9,by omega,by omega,by omega,by omega,by omega,sm4⟩)
              ·exact Qm ⟨_,_,_,_,_,_,rfl,m9,by omega,by omega,by omega,by omega,by omega,sm4⟩
          ·rw[if_neg zk2];have zt:t2=j - 1:=by omega
           refine Ql (Jb (by omega) ?_);have m9:=MH.puA m5 (by omega) (by omega) λk k1 k2=>hA.ord.lt_le (b1 k (by omega))
           by_cases z9:t - 1=0
           ·rw[if_pos (beq_iff_eq.mpr z9)];exact Qm (.inl ⟨_,_,rfl,m9.dnA z9,sm4⟩)
           ·rw[if_neg (JP z9)];split
            ·exact Qm (.inr ⟨_,_,_,_,_,_,rfl,m9,by omega,by omega,by omega,by omega,by omega,sm4⟩)
            ·exact Qm ⟨_,_,_,_,_,_,rfl,m9,by omega,by omega,by omega,by omega,by omega,sm4⟩
       ·rw[if_neg z0];refine Ql (Qfx sm λst4 sm4=>?_);refine Ql (Jb (by omega) ?_);refine Ql (Zy hA (sm4.kind.trans hk) (mb _ (Qe4 (by omega))) ma (by omega) (by omega) (λx y x1 xy y1=>sa x y (Qt _) xy (by omega)) λt tn b1 b2=>?_);have lowA:∀n,n<t->le c (kx a n) (kx b (j - 1)):=λn hn=>by
         have:(!c (kx b (j - 1)) (kx a (0+n)))=true:=b1 n hn;rw[JT] at this
         simpa using this
        have b2:∀n,t<=n->n<i->c (kx b (j - 1)) (kx a n)=true:=λn h1 h2=>by
         have:(!c (kx b (j - 1)) (kx a (0+n)))=false:=b2 n h1 h2;rw[JT] at this
         simpa using this
        dsimp only
        by_cases zk:i - t > 0
        ·rw[if_pos zk];have m2:=MH.chA (t:=t) m tn λn n1 n2 _ k k1 k2=>hA.ord.tr (sb k (j - 1) (Qt _) (by omega) (by omega)) (hA.ord.lt_le (b2 n n1 n2))
         by_cases z2:t=0
         ·rw[if_pos (beq_iff_eq.mpr z2)];exact Qm (.inl ⟨_,_,rfl,m2.dnA z2,sm4⟩)
         ·rw[if_neg (JP z2)];refine Ql (Jb (by omega) ?_);have m5:=MH.puB m2 (by omega) (by omega) λk k1 k2=>lowA k k1
          by_cases z5:j - 1=1
          ·rw[if_pos (beq_iff_eq.mpr z5)];exact Qm (.inl ⟨_,_,rfl,m5.fb z5 p1,sm4⟩)
          ·rw[if_neg (JP z5)];refine Ql (Jb (by omega) ?_);refine Ql (Zy hA (sm4.kind.trans hk) (ma _ (Qe4 (by omega))) mb (by omega) (by omega) (λx y x1 xy y1=>sb x y (Qt _) xy (by omega)) λt2 t2n b1 b2=>?_);have b1:∀n,n<t2->c (kx b n) (kx a (t - 1))=true:=λn hn=>by have:=b1 n hn;rwa [JT] at this
           have b2:∀n,t2<=n->n<j - 1->c (kx b n) (kx a (t - 1))=false:=λn h1 h2=>by have:=b2 n h1 h2;rwa [JT] at this
           dsimp only
           by_cases zk2:j - 1 - t2 > 0
           ·rw[if_pos zk2];have m6:=MH.chB (t:=t2) m5 t2n λn n1 n2 _ k k1 k2=>hA.ord.tr (sa k (t - 1) (Qt _) (by omega) (by omega)) (b2 n n1 n2)
            by_cases z6:t2=1
            ·rw[if_pos (beq_iff_eq.mpr z6)];exact Qm (.inl ⟨_,_,rfl,m6.fb z6 p1,sm4⟩)
            ·rw[if_neg (JP z6)];by_cases z7:t2=0
             ·rw[if_pos (beq_iff_eq.mpr z7)];exact Qm (.inl ⟨_,_,rfl,m6.dnB z7,sm4⟩)
             ·rw[if_neg (JP z7)];refine Ql (Jb (by omega) ?_);have m9:=MH.puA m6 (by omega) (by omega) λk k1 k2=>hA.ord.lt_le (b1 k k1)
              by_cases z9:t - 1=0
              ·rw[if_pos (beq_iff_eq.mpr z9)];exact Qm (.inl ⟨_,_,rfl,m9.dnA z9,sm4⟩)
              ·rw[if_neg (JP z9)];split
               ·exact Qm (.inr ⟨_,_,_,_,_,_,rfl,m9,by omega,by omega,by omega,by omega,by omega,sm4⟩)
               ·exact Qm ⟨_,_,_,_,_,_,rfl,m9,by omega,by omega,by omega,by omega,by omega,sm4⟩
           ·rw[if_neg zk2];have zt:t2=j - 1:=by omega
            refine Ql (Jb (by omega) ?_);have m9:=MH.puA m5 (by omega) (by omega) λk k1 k2=>hA.ord.lt_le (b1 k (by omega))
            by_cases z9:t - 1=0
            ·rw[if_pos (beq_iff_eq.mpr z9)];exact Qm (.inl ⟨_,_,rfl,m9.dnA z9,sm4⟩)
            ·rw[if_neg (JP z9)];split
             ·exact Qm (.inr ⟨_,_,_,_,_,_,rfl,m9,by omega,by omega,by omega,by omega,by omega,sm4⟩)
             ·exact Qm ⟨_,_,_,_,_,_,rfl,m9,by omega,by omega,by omega,by omega,by omega,sm4⟩
        ·rw[if_neg zk];have zt:t=i:=by omega
         subst zt;refine Ql (Jb (by omega) ?_);have m5:=MH.puB m (by omega) (by omega) λk k1 k2=>lowA k k1
         by_cases z5:j - 1=1
         ·rw[if_pos (beq_iff_eq.mpr z5)];exact Qm (.inl ⟨_,_,rfl,m5.fb z5 p1,sm4⟩)
         ·rw[if_neg (JP z5)];refine Ql (Jb (by omega) ?_);refine Ql (Zy hA (sm4.kind.trans hk) (ma _ (Qe4 (by omega))) mb (by omega) (by omega) (λx y x1 xy y1=>sb x y (Qt _) xy (by omega)) λt2 t2n b1 b2=>?_);have b1:∀n,n<t2->c (kx b n) (kx a (t - 1))=true:=λn hn=>by have:=b1 n hn;rwa [JT] at this
          have b2:∀n,t2<=n->n<j - 1->c (kx b n) (kx a (t - 1))=false:=λn h1 h2=>by have:=b2 n h1 h2;rwa [JT] at this
          dsimp only
          by_cases zk2:j - 1 - t2 > 0
          ·rw[if_pos zk2];have m6:=MH.chB (t:=t2) m5 t2n λn n1 n2 _ k k1 k2=>hA.ord.tr (sa k (t - 1) (Qt _) (by omega) (by omega)) (b2 n n1 n2)
           by_cases z6:t2=1
           ·rw[if_pos (beq_iff_eq.mpr z6)];exact Qm (.inl ⟨_,_,rfl,m6.fb z6 p1,sm4⟩)
           ·rw[if_neg (JP z6)];by_cases z7:t2=0
            ·rw[if_pos (beq_iff_eq.mpr z7)];exact Qm (.inl ⟨_,_,rfl,m6.dnB z7,sm4⟩)
            ·rw[if_neg (JP z7)];refine Ql (Jb (by omega) ?_);have m9:=MH.puA m6 (by omega) (by omega) λk k1 k2=>hA.ord.lt_le (b1 k k1)
             by_cases z9:t - 1=0
             ·rw[if_pos (beq_iff_eq.mpr z9)];exact Qm (.inl ⟨_,_,rfl,m9.dnA z9,sm4⟩)
             ·rw[if_neg (JP z9)];split
              ·exact Qm (.inr ⟨_,_,_,_,_,_,rfl,m9,by omega,by omega,by omega,by omega,by omega,sm4⟩)
              ·exact Qm ⟨_,_,_,_,_,_,rfl,m9,by omega,by omega,by omega,by omega,by omega,sm4⟩
          ·rw[if_neg zk2];have zt:t2=j - 1:=by omega
           refine Ql (Jb (by omega) ?_);have m9:=MH.puA m5 (by omega) (by omega) λk k1 k2=>hA.ord.lt_le (b1 k (by omega))
           by_cases z9:t - 1=0
           ·rw[if_pos (beq_iff_eq.mpr z9)];exact Qm (.inl ⟨_,_,rfl,m9.dnA z9,sm4⟩)
           ·rw[if_neg (JP z9)];split
            ·exact Qm (.inr ⟨_,_,_,_,_,_,rfl,m9,by omega,by omega,by omega,by omega,by omega,sm4⟩)
            ·exact Qm ⟨_,_,_,_,_,_,rfl,m9,by omega,by omega,by omega,by omega,by omega,sm4⟩
end
theorem Qjb(i:Nat):mergeAt' i=(do
 let z <- get
 let (some (u,n,pw),some (v,m,_)):=((pendingOf z)[i]?,(pendingOf z)[i+1]?) | unsupported "internal:list.sort.pending"
 set (setPending z (((pendingOf z).setIfInBounds i (u,n+m,pw)).eraseIdxIfInBounds (i+1)))
 let some k <- Qci false (<- elem' (arrOf z) v) (arrOf z) u n 0 | return false
 let (u,n):=(u+k,n - k)
 if n == 0 then return true
 let some m <- Qci true (<- elem' (arrOf z) (u+n - 1)) (arrOf z) v m (m - 1) | return false
 if m == 0 then return true
 let x:=(arrOf z).extract u v
 let y:=(arrOf z).extract v (v+m)
 let mm <- if n<=m then QgB x y else QgC x y
 modify λz=>setArr z (mm.toList.zipIdx.foldl (λa (p,j)=>a.setIfInBounds (u+j) p) (arrOf z))
 return (failedOf (<- get)).isNone):=rfl
theorem QtA{σ:Type}{M:QAa}{A:Je}{E:Value->Shared->Prop}{s:Shared}{Q:PUnit->σ->Prop}{st st':σ}(h:Q ⟨⟩ st'):wpS M A E s (set st':StateT σ Sem PUnit) Q st:=by
 unfold wpS;rw[StateT.run_set];exact wpAny_pure ⟨rfl,h⟩
theorem Qkj(u:Nat):∀(z:List Keyed)(m:Nat)(xs:Array Keyed),u+m+z.length<=xs.size->((z.zipIdx m).foldl (λa (p:Keyed×Nat)=>a.setIfInBounds (u+p.2) p.1) xs).toList=xs.toList.take (u+m)++z++xs.toList.drop (u+m+z.length)
 |[],m,xs,_=>by
  show xs.toList=_;rw[JK,Qc1,QbM,Jq]
 |p::z,m,xs,h=>by
  rw[Qv] at h;rw[Qfv,Qc3];have ih:=Qkj u z (m+1) (xs.setIfInBounds (u+m) p) (by rw[Qis];omega);rw[ih,Qhd,List.set_eq_take_append_cons_drop,if_pos (by rw[Qd];omega)];have lt:(xs.toList.take (u+m)).length=u+m:=by rw[Jo,Qd];omega
  have e1:(xs.toList.take (u+m)++p::xs.toList.drop (u+m+1)).take (u+(m+1))=xs.toList.take (u+m)++[p]:=by
   rw[List.take_append,lt,ZR (by omega),show u+(m+1) - (u+m)=1 by omega];rfl
  have e2:(xs.toList.take (u+m)++p::xs.toList.drop (u+m+1)).drop (u+(m+1)+z.length)=xs.toList.drop (u+m+(p::z).length):=by
   rw[List.drop_append,lt,ZS (by omega),Qbk,show u+(m+1)+z.length - (u+m)=z.length+1 by omega,List.drop_succ_cons,Qip,Qv]
   congr 1
   omega
  rw[e1,e2,Q3,Q3,Q3];rfl
theorem QhZ{xs ys:Array Keyed}{i j:Nat}(h:xs.toList[i]? = ys.toList[j]?):kx xs i=kx ys j:=by
 rw[Q9,Q9] at h;exact Qjc h
theorem QsT{xs:Array Keyed}{u v t:Nat}(h:u+t<v)(hv:v<=xs.size):kx (xs.extract u v) t=kx xs (u+t):=by
 refine Qjc ?_
 rw[Array.getElem?_extract,if_pos (by omega)]
section
variable{c:Keyed->Keyed->Bool}
structure Laid (c:Keyed->Keyed->Bool) (xs ws z:Array Keyed) (lo hi:Nat):Prop where
 size:ws.size=xs.size
 perm:ws.Perm xs
 out:∀n,n<lo∨hi<=n->kx ws n=kx xs n
 mid:∀n,lo<=n->n<hi->kx ws n=kx z (n - lo)
 zs:z.size=hi - lo
 of_:∀n,lo<=n->n<hi->∃m,lo<=m/\m<hi/\kx ws n=kx xs m
theorem Qvq{xs z:Array Keyed}{lo v hi:Nat}(h1:lo<=v)(h2:v<=hi)(h3:hi<=xs.size)(o:Out c (xs.extract lo v) (xs.extract v hi) z):Laid c xs (z.toList.zipIdx.foldl (λa (p:Keyed×Nat)=>a.setIfInBounds (lo+p.2) p.1) xs) z lo hi:=by
 have ln:z.toList.length=hi - lo:=by
  rw[o.2.length_eq,Qs,Qd,Qd,Qby,Qby];omega
 have zs:z.size=hi - lo:=by rw[<- ln,Qd]
 have lb:=Qkj lo z.toList 0 xs (by omega);rw[QbM,ln,show lo+(hi - lo)=hi by omega] at lb;generalize hw:z.toList.zipIdx.foldl (λa (p:Keyed×Nat)=>a.setIfInBounds (lo+p.2) p.1) xs=ws;rw[show z.toList.zipIdx 0=z.toList.zipIdx from rfl,hw] at lb;have lt:(xs.toList.take lo).length=lo:=by rw[Jo,Qd];omega
 have mid0:xs.toList=xs.toList.take lo++((xs.extract lo v).toList++(xs.extract v hi).toList)++xs.toList.drop hi:=by
  rw[QaV,QaV];have e1:xs.toList.take hi=xs.toList.take v++(xs.toList.take hi).drop v:=by
   have:=(Jq v (xs.toList.take hi)).symm
   rwa [QdI,Yj h2] at this
  have e2:xs.toList.take v=xs.toList.take lo++(xs.toList.take v).drop lo:=by
   have:=(Jq lo (xs.toList.take v)).symm
   rwa [QdI,Yj h1] at this
  rw[<- Q3,<- e2,<- e1,Jq]
 have szl:ws.toList.length=xs.toList.length:=by
  rw[lb,Qs,Qs,lt,ln,ZH,Qd];omega
 have md:∀n,lo<=n->n<hi->kx ws n=kx z (n - lo):=λn n1 n2=>by
  refine QhZ ?_
  rw[lb,Zd (by rw[Qs,lt,ln];omega),Jg (by rw[lt];exact n1),lt]
 refine⟨by rw[<- Qd,szl,Qd],?_,λn hn=>?_,md,zs,λn n1 n2=>?_⟩
 ·refine Zs.mpr ?_
  rw[lb]
  conv=>rhs;rw[mid0]
  exact Qap _ (Yt _ o.2)
 ·refine QhZ ?_
  rw[lb];rcases hn with hn | hn
  ·rw[Q3,Zd (by rw[lt];exact hn),Qev,if_pos hn]
  ·rw[Jg (by rw[Qs,lt,ln];omega),Qs,lt,ln,YB]
   congr 1
   omega
 ·have hz:n - lo<z.size:=by omega
  have hm:=o.2.mem_iff.mp (Qe4 hz);rw[md n n1 n2];rcases Jr.mp hm with q | q
  ·rw[QaV] at q;obtain⟨m,m1,m2,_,e⟩:=Y6 q;exact⟨m,m1,by omega,e⟩
  ·rw[QaV] at q;obtain⟨m,m1,m2,_,e⟩:=Y6 q;exact⟨m,by omega,m2,e⟩
end
section
variable{prog:QD}{w:Jl}{A:Je}{E:Value->Shared->Prop}{s:Shared}{a₀:Array Keyed}{κ:Ya}{c:Keyed->Keyed->Bool}
structure Mg (κ:Ya) (a₀:Array Keyed) (c:Keyed->Keyed->Bool) (st st':JV) (i u v hi pn pw:Nat):Prop where
 sb:SB κ a₀ st'
 pend:pendingOf st'=((pendingOf st).setIfInBounds i (u,pn,pw)).eraseIdxIfInBounds (i+1)
 out:∀n,n<u∨hi<=n->kx (arrOf st') n=kx (arrOf st) n
 sg:Sg c (arrOf st') u hi
theorem QiG{st:JV}{i u n pw m pw2:Nat}{Q:Bool->JV->Prop}(hA:Asks prog w A s κ a₀ c)(hB:SB κ a₀ st)(e1:(pendingOf st)[i]? = some (u,n,pw))(e2:(pendingOf st)[i+1]? = some (u+n,m,pw2))(n1:1<=n)(m1:1<=m)(hz:u+n+m<=a₀.size)
  (s1:Sg c (arrOf st) u (u+n))(s2:Sg c (arrOf st) (u+n) (u+n+m))(h:∀st',Mg κ a₀ c st st' i u (u+n) (u+n+m) (n+m) pw->Q true st'):wpS (model prog w) A E s (mergeAt' i) Q st:=by
 have sz:=hB.size;have mem:∀p∈(arrOf st).toList,p∈a₀.toList:=λp hp=>hB.mem hp
 have memE:∀{x y:Nat}{p:Keyed},p∈((arrOf st).extract x y).toList->p∈a₀.toList:=λ{x y p} hp=>mem p (by rw[QaV] at hp;exact QdB (Qa0 hp))
 rw[Qjb];refine Ql (QcB ?_);rw[e1,e2]
 dsimp only
 refine Ql (QtA ?_);refine Ql (Jb (by omega) ?_);refine Ql (Zy hA hB.kind (mem _ (Qe4 (by omega))) mem (by omega) (by omega) s1 λk kn b1 b2=>?_);have b1:∀t,t<k->le c (kx (arrOf st) (u+t)) (kx (arrOf st) (u+n)):=λt ht=>by
  have:(!c (kx (arrOf st) (u+n)) (kx (arrOf st) (u+t)))=true:=b1 t ht
  simpa using this
 have b2:∀t,k<=t->t<n->c (kx (arrOf st) (u+n)) (kx (arrOf st) (u+t))=true:=λt h1 h2=>by
  have:(!c (kx (arrOf st) (u+n)) (kx (arrOf st) (u+t)))=false:=b2 t h1 h2
  simpa using this
 dsimp only
 by_cases z1:n - k=0
 ·rw[if_pos (beq_iff_eq.mpr z1)];refine Qm (h _ ⟨⟨hB.perm,hB.kind,hB.failed⟩,rfl,λ_ _=>rfl,λx y x1 xy y1=>?_⟩);show le c (kx (arrOf st) x) (kx (arrOf st) y);by_cases zx:x<u+n
  ·by_cases zy:y<u+n
   ·exact s1 x y x1 xy zy
   ·have:=b1 (x - u) (by omega);rw[show u+(x - u)=x by omega] at this;exact hA.ord.tr this (s2 (u+n) y (Qj _) (by omega) y1)
  ·exact s2 x y (by omega) xy y1
 ·rw[if_neg (JP z1)];have hl:u+k+(n - k) - 1=u+n - 1:=by omega
  rw[hl];refine Ql (Jb (by omega) ?_);refine Ql (Zy hA hB.kind (mem _ (Qe4 (by omega))) mem (by omega) (by omega) s2 λm2 mn d1 d2=>?_);have d1:∀t,t<m2->c (kx (arrOf st) (u+n+t)) (kx (arrOf st) (u+n - 1))=true:=λt ht=>d1 t ht
  have d2:∀t,m2<=t->t<m->le c (kx (arrOf st) (u+n - 1)) (kx (arrOf st) (u+n+t)):=λt h1 h2=>d2 t h1 h2
  dsimp only
  by_cases z2:m2=0
  ·rw[if_pos (beq_iff_eq.mpr z2)];refine Qm (h _ ⟨⟨hB.perm,hB.kind,hB.failed⟩,rfl,λ_ _=>rfl,λx y x1 xy y1=>?_⟩);show le c (kx (arrOf st) x) (kx (arrOf st) y);by_cases zx:x<u+n
   ·by_cases zy:y<u+n
    ·exact s1 x y x1 xy zy
    ·have:=d2 (y - (u+n)) (by omega) (by omega);rw[show u+n+(y - (u+n))=y by omega] at this;exact hA.ord.tr (s1 x (u+n - 1) x1 (by omega) (by omega)) this
   ·exact s2 x y (by omega) xy y1
  ·rw[if_neg (JP z2)];have ex:∀t,t<n - k->kx ((arrOf st).extract (u+k) (u+n)) t=kx (arrOf st) (u+k+t):=λt ht=>QsT (by omega) (by omega)
   have ey:∀t,t<m2->kx ((arrOf st).extract (u+n) (u+n+m2)) t=kx (arrOf st) (u+n+t):=λt ht=>QsT (by omega) (by omega)
   have sx:((arrOf st).extract (u+k) (u+n)).size=n - k:=by rw[Qby];omega
   have sy:((arrOf st).extract (u+n) (u+n+m2)).size=m2:=by rw[Qby];omega
   have fin:∀(z:Array Keyed)(st':JV),Sm (setPending st (((pendingOf st).setIfInBounds i (u,n+m,pw)).eraseIdxIfInBounds (i+1))) st'->Out c ((arrOf st).extract (u+k) (u+n)) ((arrOf st).extract (u+n) (u+n+m2)) z ->
     wpS (model prog w) A E s (do
      modify λx=>setArr x (z.toList.zipIdx.foldl (λa (p,j)=>a.setIfInBounds (u+k+j) p) (arrOf x))
      return (failedOf (<- get)).isNone) Q st':=λz st' sm o=>by
    refine Ql (Qaz (Ql (QcB ?_)));have fe:failedOf st'=none:=sm.failed.trans hB.failed;have ae:arrOf st'=arrOf st:=sm.arr;have L:=Qvq (c:=c) (xs:=arrOf st) (z:=z) (lo:=u+k) (v:=u+n) (hi:=u+n+m2) (by omega) (by omega) (by omega) o;refine Qm ?_
    show Q ((failedOf st').isNone) _;rw[fe,ae];refine h _ ⟨⟨L.perm.trans hB.perm,sm.kind.trans hB.kind,fe⟩,sm.pend,λx hx=>L.out x (by omega),λx y x1 xy y1=>?_⟩;generalize z.toList.zipIdx.foldl (λa (p:Keyed×Nat)=>a.setIfInBounds (u+k+p.2) p.1) (arrOf st)=ws at L;show le c (kx ws x) (kx ws y);have a0:∀x,u<=x->x<u+k->le c (kx (arrOf st) x) (kx (arrOf st) (u+n)):=λx g1 g2=>by have:=b1 (x - u) (by omega);rwa [show u+(x - u)=x by omega] at this
    have b9:∀y,u+n+m2<=y->y<u+n+m->le c (kx (arrOf st) (u+n - 1)) (kx (arrOf st) y):=λy g1 g2=>by have:=d2 (y - (u+n)) (by omega) (by omega);rwa [show u+n+(y - (u+n))=y by omega] at this
    by_cases zx:x<u+k
    ·rw[L.out x (.inl zx)];by_cases zy:y<u+k
     ·rw[L.out y (.inl zy)];exact s1 x y x1 xy (by omega)
     ·by_cases zy2:y<u+n+m2
      ·obtain⟨q,q1,q2,qe⟩:=L.of_ y (by omega) zy2;rw[qe];by_cases zq:q<u+n
       ·exact s1 x q x1 (by omega) zq
       ·exact hA.ord.tr (a0 x x1 zx) (s2 (u+n) q (Qj _) (by omega) (by omega))
      ·rw[L.out y (.inr (by omega))];exact hA.ord.tr (a0 x x1 zx) (s2 (u+n) y (Qj _) (by omega) y1)
    ·by_cases zx2:x<u+n+m2
     ·by_cases zy2:y<u+n+m2
      ·rw[L.mid x (by omega) zx2,L.mid y (by omega) zy2];by_cases xe:x=y
       ·subst xe;exact hA.ord.irr _
       ·have g:=Jy.mp o.1 (x - (u+k)) (y - (u+k)) (by rw[Qd,L.zs];omega) (by rw[Qd,L.zs];omega) (by omega);have k1:=QaT (xs:=z) (i:=x - (u+k)) (by rw[L.zs];omega);have k2:=QaT (xs:=z) (i:=y - (u+k)) (by rw[L.zs];omega);rw[Qf (by rw[Qd,L.zs];omega)] at k1 k2;rw[Qu k1,Qu k2] at g;exact g
      ·rw[L.out y (.inr (by omega))];obtain⟨q,q1,q2,qe⟩:=L.of_ x (by omega) zx2;rw[qe];by_cases zq:q<u+n
       ·exact hA.ord.tr (s1 q (u+n - 1) (by omega) (by omega) (by omega)) (b9 y (by omega) y1)
       ·exact s2 q y (by omega) (by omega) y1
     ·rw[L.out x (.inr (by omega)),L.out y (.inr (by omega))];exact s2 x y (by omega) xy y1
   have hsx:Sg c ((arrOf st).extract (u+k) (u+n)) 0 ((arrOf st).extract (u+k) (u+n)).size:=λx y _ xy y1=>by
    rw[sx] at y1;rw[ex x (by omega),ex y y1];exact s1 _ _ (by omega) (by omega) (by omega)
   have hsy:Sg c ((arrOf st).extract (u+n) (u+n+m2)) 0 ((arrOf st).extract (u+n) (u+n+m2)).size:=λx y _ xy y1=>by
    rw[sy] at y1;rw[ey x (by omega),ey y y1];exact s2 _ _ (by omega) (by omega) (by omega)
   have hp1:∀t,t<((arrOf st).extract (u+k) (u+n)).size->le c (kx ((arrOf st).extract (u+n) (u+n+m2)) 0) (kx ((arrOf st).extract (u+k) (u+n)) t):=λt ht=>by
    rw[sx] at ht;rw[ey 0 (by omega),ex t ht,QbM];have:=b2 (k+t) (by omega) (by omega);rw[show u+(k+t)=u+k+t by omega] at this;exact hA.ord.lt_le this
   have hp2:∀t,t<((arrOf st).extract (u+n) (u+n+m2)).size->le c (kx ((arrOf st).extract (u+n) (u+n+m2)) t) (kx ((arrOf st).extract (u+k) (u+n)) (((arrOf st).extract (u+k) (u+n)).size - 1)):=λt ht=>by
    rw[sy] at ht;rw[sx,ey t ht,ex (n - k - 1) (by omega),show u+k+(n - k - 1)=u+n - 1 by omega];exact hA.ord.lt_le (d1 t ht)
   split
   ·exact Ql (QiE hA hB.kind (λp hp=>memE hp) (λp hp=>memE hp) (by rw[sx];omega) (by rw[sy];omega) hsx hsy hp1 hp2 λz st' sm o=>fin z st' sm o)
   ·exact Ql (QiF hA hB.kind (λp hp=>memE hp) (λp hp=>memE hp) (by rw[sx];omega) (by rw[sy];omega) hsx hsy hp1 hp2 λz st' sm o=>fin z st' sm o)
end
def RunsOk:List (Nat×Nat)->Nat->Nat->Prop
 |[],s,e=>s=e
 |(s',n)::r,s,e=>s'=s/\1<=n/\RunsOk r (s+n) e
theorem RunsOk.app:∀{l1 l2:List (Nat×Nat)}{s e:Nat},RunsOk (l1++l2) s e↔∃m,RunsOk l1 s m/\RunsOk l2 m e
 |[],l2,s,e=>⟨λh=>⟨s,rfl,h⟩,λ⟨m,h1,h2⟩=>by cases(show s=m from h1);exact h2⟩
 |(s',n)::l1,l2,s,e=>by
  constructor
  ·rintro⟨h1,h2,h3⟩;obtain⟨m,a,b⟩:=RunsOk.app.mp h3;exact⟨m,⟨h1,h2,a⟩,b⟩
  ·rintro⟨m,⟨h1,h2,a⟩,b⟩;exact⟨h1,h2,RunsOk.app.mpr ⟨m,a,b⟩⟩
theorem RunsOk.le:∀{l:List (Nat×Nat)}{s e:Nat},RunsOk l s e->s+l.length<=e
 |[],s,e,h=>by cases(show s=e from h);exact Qj _
 |(s',n)::l,s,e,⟨_,h2,h3⟩=>by
  have:=RunsOk.le h3;rw[Qv];omega
theorem RunsOk.mem:∀{l:List (Nat×Nat)}{s e:Nat},RunsOk l s e->∀p∈l,s<=p.1/\p.1+p.2<=e
 |(s',n)::l,s,e,⟨h1,h2,h3⟩,p,hp=>by
  have hl:=RunsOk.le h3;rcases Qr.mp hp with z | z
  ·subst z;show s<=s'/\s'+n<=e;omega
  ·have:=RunsOk.mem h3 p z;omega
def sn(p:Nat×Nat×Nat):Nat×Nat:=(p.1,p.2.1)
def Y4(st:JV):List (Nat×Nat):=(pendingOf st).toList.map sn
section
variable{prog:QD}{w:Jl}{A:Je}{E:Value->Shared->Prop}{s:Shared}{a₀:Array Keyed}{κ:Ya}{c:Keyed->Keyed->Bool}
structure RI (κ:Ya) (a₀:Array Keyed) (c:Keyed->Keyed->Bool) (lo:Nat) (st:JV):Prop where
 sb:SB κ a₀ st
 runs:RunsOk (Y4 st) 0 lo
 srt:∀p∈Y4 st,Sg c (arrOf st) p.1 (p.1+p.2)
 le:lo<=a₀.size
theorem Sg.same{xs ys:Array Keyed}{u v:Nat}(h:Sg c xs u v)(k:∀n,u<=n->n<v->kx ys n=kx xs n):Sg c ys u v:=λi j hi hij hj=>by
 rw[k i hi (by omega),k j (by omega) hj];exact h i j hi hij hj
theorem QwS{l:List (Nat×Nat×Nat)}{i:Nat}(h:i+1<l.length):∃l1 x y l2,l=l1++x::y::l2/\l1.length=i:=by
 refine⟨l.take i,l[i],l[i+1],l.drop (i+2),?_,by rw[Jo];omega⟩;rw[<- Qac,<- Qac,Jq]
theorem QdM{st:JV}{lo i hi:Nat}{Q:Bool->JV->Prop}(hA:Asks prog w A s κ a₀ c)(ri:RI κ a₀ c lo st)(hi':i+1<(pendingOf st).size)
  (h:∀st',RI κ a₀ c lo st'->(pendingOf st').size+1=(pendingOf st).size->(∀n,lo<=n->kx (arrOf st') n=kx (arrOf st) n)->Q true st'):wpS (model prog w) A E s (mergeAt' i) Q st:=by
 obtain⟨l1,⟨u,n,pw⟩,⟨v,m,pw2⟩,l2,el,ll⟩:=QwS (l:=(pendingOf st).toList) (i:=i) (by rw[Qd];exact hi');have er:Y4 st=l1.map sn++(u,n)::(v,m)::l2.map sn:=by unfold Y4;rw[el,JF];rfl
 have r0:=ri.runs;rw[er] at r0;obtain⟨q,ra,rb⟩:=RunsOk.app.mp r0;obtain⟨g1,g2,g3,g4,g5⟩:=rb;subst g1;subst g3;have e1:(pendingOf st)[i]? = some (u,n,pw):=by
  rw[<- Q9,el,Jg (by omega),ll,Qdb];rfl
 have e2:(pendingOf st)[i+1]? = some (u+n,m,pw2):=by
  rw[<- Q9,el,Jg (by omega),ll,show i+1 - i=1 by omega];rfl
 have le5:=RunsOk.le g5;have le1:=ri.le;refine QiG hA ri.sb e1 e2 g2 g4 (by omega) (ri.srt (u,n) (by rw[er];simp)) (ri.srt (u+n,m) (by rw[er];simp)) λst' mg=>?_
 have ep:(pendingOf st').toList=l1++(u,n+m,pw)::l2:=by
  rw[mg.pend,Array.toList_eraseIdxIfInBounds,Qhd,el,List.set_append_right _ _ (by omega),ll,Qdb,List.set_cons_zero,List.eraseIdx_append_of_length_le (by omega),ll,show i+1 - i=1 by omega];rfl
 have er':Y4 st'=l1.map sn++(u,n+m)::l2.map sn:=by unfold Y4;rw[ep,JF];rfl
 refine h st' ⟨mg.sb,?_,λp hp=>?_,ri.le⟩ ?_ λk hk=>mg.out k (.inr (by omega))
 ·rw[er'];exact RunsOk.app.mpr ⟨u,ra,rfl,by omega,by rw[show u+(n+m)=u+n+m by omega];exact g5⟩
 ·rw[er'] at hp;rcases Jr.mp hp with z | z
  ·have b:=RunsOk.mem ra p z;exact(ri.srt p (by rw[er];exact Yb _ z)).same λk k1 k2=>mg.out k (.inl (by omega))
  ·rcases Qr.mp z with z | z
   ·subst z;show Sg c (arrOf st') u (u+(n+m));rw[show u+(n+m)=u+n+m by omega];exact mg.sg
   ·have b:=RunsOk.mem g5 p z;exact(ri.srt p (by rw[er];exact QV _ (Q7 _ (Q7 _ z)))).same λk k1 k2=>mg.out k (.inr (by omega))
 ·rw[<- Qd,<- Qd,ep,el,Qs,Qs,Qv,Qv,Qv];omega
theorem RI.pow{st:JV}{lo:Nat}(r:RI κ a₀ c lo st)(i pw:Nat):RI κ a₀ c lo (setPending st ((pendingOf st).modify i λx=>(x.1,x.2.1,pw))):=by
 have er:Y4 (setPending st ((pendingOf st).modify i λx=>(x.1,x.2.1,pw)))=Y4 st:=by
  show((pendingOf st).modify i λx=>(x.1,x.2.1,pw)).toList.map sn=(pendingOf st).toList.map sn;rw[Array.toList_modify];apply Yi
  intro j;rw[Qq,Qq,List.getElem?_modify];cases(pendingOf st).toList[j]? with
  |none=>rfl
  |some p=>
   show some (sn (if i=j then _ else p))=some (sn p);split<;>rfl
 exact⟨⟨r.sb.perm,r.sb.kind,r.sb.failed⟩,by rw[er];exact r.runs,by rw[er];exact r.srt,r.le⟩
theorem QiD{st:JV}{Q:Unit->JV->Prop}(hA:Asks prog w A s κ a₀ c)(hB:SB κ a₀ st)(hp:pendingOf st=#[])
  (h:∀st',SB κ a₀ st'->Sg c (arrOf st') 0 a₀.size->Q () st'):wpS (model prog w) A E s sortRuns' Q st:=by
 rw[sortRuns'_eq];refine Ql (QcB ?_)
 dsimp only
 rw[hB.size];have ri0:RI κ a₀ c 0 st:=⟨hB,by unfold Y4;rw[hp];rfl,λp h=>by unfold Y4 at h;rw[hp] at h;simp at h,Qt _⟩;refine Ql (Yy (J1 (I:=λx z st'=>∃lo,z=(none,lo)/\RI κ a₀ c lo st'/\(x<=lo∨lo=a₀.size)) (Q:=λz st'=>z=(none,a₀.size)/\RI κ a₀ c a₀.size st') ?step ?fin ⟨0,rfl,ri0,.inl (Qj _)⟩) ?post)
 case fin=>
  rintro z st' ⟨lo,rfl,ri,hx⟩;have:=ri.le;have e:lo=a₀.size:=by omega
  subst e;exact⟨rfl,ri⟩
 case step=>
  rintro x z st' _ hx ⟨lo,rfl,ri,hxl⟩
  dsimp only
  have hle:=ri.le;by_cases z0:lo≥a₀.size
  ·rw[if_pos z0];have e:lo=a₀.size:=by omega
   subst e;exact Qm ⟨rfl,ri⟩
  ·rw[if_neg z0];refine Ql (Qgd hA (by omega) (by omega) ri.sb λm st1 f1 m1 m2 sg1=>?_)
   dsimp only
   have ri1:RI κ a₀ c lo st1:=⟨f1.sb,by unfold Y4;rw[f1.pend];exact ri.runs,λp hp=>by
    unfold Y4 at hp;rw[f1.pend] at hp;have b:=RunsOk.mem ri.runs p hp;exact(ri.srt p hp).same λk k1 k2=>f1.low k (by omega),hle⟩
   have push:∀(n:Nat)(st2:JV),RI κ a₀ c lo st2->1<=n->lo+n<=a₀.size->Sg c (arrOf st2) lo (lo+n)->RI κ a₀ c (lo+n) (setPending st2 ((pendingOf st2).push (lo,n,0))):=λn st2 r2 n1 n2 sg=>by
    have er:Y4 (setPending st2 ((pendingOf st2).push (lo,n,0)))=Y4 st2++[(lo,n)]:=by
     show((pendingOf st2).push (lo,n,0)).toList.map sn=_;rw[QbY,JF];rfl
    refine⟨⟨r2.sb.perm,r2.sb.kind,r2.sb.failed⟩,by rw[er];exact RunsOk.app.mpr ⟨lo,r2.runs,rfl,n1,rfl⟩,λp hp=>?_,n2⟩;rw[er] at hp;rcases Jr.mp hp with z | z
    ·exact r2.srt p z
    ·rw[Jf.mp z];exact sg
   by_cases zm:m<minRun' a₀.size a₀.size 0
   ·rw[if_pos zm];refine Ql (Qet (wpAny_rule ⟨rfl,?_⟩));refine Ql (QeL hA (by omega) m1 (by omega) f1.sb sg1 λst2 f2 sg2=>?_);simp only[QzB,ZG,if_false];have ri2:RI κ a₀ c lo st2:=⟨f2.sb,by unfold Y4;rw[f2.pend];exact ri1.runs,λp hp=>by
     unfold Y4 at hp;rw[f2.pend] at hp;have b:=RunsOk.mem ri1.runs p hp;exact(ri1.srt p hp).same λk k1 k2=>f2.low k (by omega),hle⟩
    refine Ql (QcB ?_);cases hb:(pendingOf st2).back? with
    |none=>
     dsimp only
     exact Ql (Qaz (Qm ⟨_,rfl,push _ st2 ri2 (by omega) (by omega) sg2,by omega⟩))
    |some bb=>
     obtain⟨s1,s2,s3⟩:=bb
     dsimp only
     refine Ql (Yy (J1 (I:=λ_ z st3=>z=(none,())/\RI κ a₀ c lo st3/\Sg c (arrOf st3) lo (lo+min (a₀.size - lo) (minRun' a₀.size a₀.size 0))) (Q:=λz st3=>z=(none,())/\RI κ a₀ c lo st3/\Sg c (arrOf st3) lo (lo+min (a₀.size - lo) (minRun' a₀.size a₀.size 0))) ?stepA (λ_ _ q=>q) ⟨rfl,ri2,sg2⟩) ?postA)
     case stepA=>
      rintro y z st3 _ hy ⟨rfl,r3,g3⟩;refine Ql (QcB ?_);by_cases z5:(pendingOf st3).size > 1
      ·rw[if_pos z5,getElem?_pos (pendingOf st3) ((pendingOf st3).size - 2) (by omega)];generalize (pendingOf st3)[(pendingOf st3).size - 2]'(by omega)=pp;obtain⟨q1,q2,q3⟩:=pp
       dsimp only
       split
       ·exact Qm ⟨rfl,r3,g3⟩
       ·refine Ql (QdM (hi:=0) hA r3 (by omega) λst4 r4 sz k4=>?_);exact Qm ⟨rfl,r4,g3.same λk k1 _=>k4 k k1⟩
      ·rw[if_neg z5];exact Qm ⟨rfl,r3,g3⟩
     case postA=>
      rintro z st3 ⟨rfl,r3,g3⟩
      dsimp only
      refine Ql (Qaz (Ql (Qaz (Qm ⟨_,rfl,push _ _ (r3.pow _ _) (by omega) (by omega) g3,by omega⟩))))
   ·rw[if_neg zm];refine Ql (QcB ?_);cases hb:(pendingOf st1).back? with
    |none=>
     dsimp only
     exact Ql (Qaz (Qm ⟨_,rfl,push _ st1 ri1 m1 (by omega) sg1,by omega⟩))
    |some bb=>
     obtain⟨s1,s2,s3⟩:=bb
     dsimp only
     refine Ql (Yy (J1 (I:=λ_ z st3=>z=(none,())/\RI κ a₀ c lo st3/\Sg c (arrOf st3) lo (lo+m)) (Q:=λz st3=>z=(none,())/\RI κ a₀ c lo st3/\Sg c (arrOf st3) lo (lo+m)) ?stepA (λ_ _ q=>q) ⟨rfl,ri1,sg1⟩) ?postA)
     case stepA=>
      rintro y z st3 _ hy ⟨rfl,r3,g3⟩;refine Ql (QcB ?_);by_cases z5:(pendingOf st3).size > 1
      ·rw[if_pos z5,getElem?_pos (pendingOf st3) ((pendingOf st3).size - 2) (by omega)];generalize (pendingOf st3)[(pendingOf st3).size - 2]'(by omega)=pp;obtain⟨q1,q2,q3⟩:=pp
       dsimp only
       split
       ·exact Qm ⟨rfl,r3,g3⟩
       ·refine Ql (QdM (hi:=0) hA r3 (by omega) λst4 r4 sz k4=>?_);exact Qm ⟨rfl,r4,g3.same λk k1 _=>k4 k k1⟩
      ·rw[if_neg z5];exact Qm ⟨rfl,r3,g3⟩
     case postA=>
      rintro z st3 ⟨rfl,r3,g3⟩
      dsimp only
      refine Ql (Qaz (Ql (Qaz (Qm ⟨_,rfl,push _ _ (r3.pow _ _) m1 (by omega) g3,by omega⟩))))
 case post=>
  rintro z st' ⟨rfl,ri⟩
  dsimp only
  refine Ql (Yy (J1 (I:=λx z st3=>z=(none,())/\RI κ a₀ c a₀.size st3/\((pendingOf st3).size+x<=a₀.size∨(pendingOf st3).size<=1)) (Q:=λz st3=>z=(none,())/\RI κ a₀ c a₀.size st3/\(pendingOf st3).size<=1) ?stepB ?finB ⟨rfl,ri,.inl ?initB⟩) ?postB)
  case initB=>
   have:=RunsOk.le ri.runs;unfold Y4 at this;rw[Qg,Qd] at this;omega
  case finB=>
   rintro z st3 ⟨rfl,r3,hx⟩;exact⟨rfl,r3,by omega⟩
  case stepB=>
   rintro x z st3 _ hx ⟨rfl,r3,hs⟩;refine Ql (QcB ?_);by_cases z5:(pendingOf st3).size<=1
   ·rw[if_pos z5];exact Qm ⟨rfl,r3,z5⟩
   ·rw[if_neg z5];have key:∀i,i+1<(pendingOf st3).size->wpS (model prog w) A E s (mergeAt' i) (λb st4=>b=true/\RI κ a₀ c a₀.size st4/\(pendingOf st4).size+1=(pendingOf st3).size) st3:=λi hi=>QdM (hi:=0) hA r3 hi λst4 r4 sz _=>⟨rfl,r4,sz⟩
    refine Ql (Yy (key _ ?_) ?_)
    ·have ii:∀{p:Prop}[Decidable p],(if p then(pendingOf st3).size - 2 - 1 else(pendingOf st3).size - 2)+1<(pendingOf st3).size:=by intro p _;split<;>omega
     exact ii
    ·rintro bb st4 ⟨rfl,r4,sz⟩;exact Qm ⟨rfl,r4,by omega⟩
  case postB=>
   rintro z st3 ⟨rfl,r3,hs⟩;refine Qm (h st3 r3.sb ?_);have rr:=r3.runs;have hl:(Y4 st3).length<=1:=by unfold Y4;rw[Qg,Qd];exact hs
   have hsr:=r3.srt;cases er:Y4 st3 with
   |nil=>
    rw[er] at rr;rw[<- (show 0=a₀.size from rr)];exact λi j hi hij hj=>by omega
   |cons p l=>
    rw[er] at rr hl hsr;cases l with
    |cons p' l'=>simp at hl
    |nil=>
     obtain⟨g1,g2,g3⟩:=rr;have:=hsr p (Jf.mpr rfl);rw[g1,(show 0+p.2=a₀.size from g3)] at this;exact this
end
end Rt
namespace L2
def blk(X:Cx)(M:List Str)(scope:Y8)(cl:List (Str×Addr))(ex:List Addr)(s3:Shared)(H3:Hp)(C:Addr):Cx where
 prog:=X.prog
 w:=X.w
 K:=X.K
 mg:=X.mg
 base:=X.base
 A:=X.A
 N:=M
 s₀:=s3
 H₀:=H3
 env:=compEnvC scope cl C X.env
 outer:=X.stack
 stack:=X.stack
 ex:=ex
 fn:=λ_=>false
 calm:=X.calm
 pn:=[]
 xe:=λ_ _=>False
def QbU(env:Env):List (Str×Qa2)->List (Str×Addr)->List (Str×Addr)
 |[],acc=>acc
 |(n,k)::r,acc=>QbU env r (if k=.free then(n,(env.cells.lookup n).getD 0)::acc else acc)
theorem Qjl{env:Env}:∀(l:List (Str×Qa2))(acc:List (Str×Addr)),(∀x∈l,x.2=.free->∃c,env.cells.lookup x.1=some c) ->
  (forIn (m:=Sem) l acc λx cs=>(if(x.2 == Jj)=true then do let a <- cellOf env x.1;pure (JX ((x.1,a)::cs)) else pure (JX cs)))=pure (QbU env l acc)
 |[],acc,_=>rfl
 |(n,k)::r,acc,h=>by
  rw[Qha];by_cases hk:k=.free
  ·subst hk;obtain⟨c,hc⟩:=h (n,.free) JM rfl;have e1:cellOf env n=pure c:=by unfold cellOf;rw[hc]
   have e2:QbU env ((n,.free)::r) acc=QbU env r ((n,c)::acc):=by
    show QbU env r (if Jj=.free then(n,(env.cells.lookup n).getD 0)::acc else acc)=_;rw[if_pos rfl,hc];rfl
   rw[e2];show((if(Jj == Jj)=true then do let a <- cellOf env n;pure (JX ((n,a)::acc)) else pure (JX acc)) >>= _)=_;rw[if_pos (show(Jj == Jj)=true by decide),e1];exact Qjl r _ λx hx=>h x (Q7 _ hx)
  ·have hb:(k == Jj)=false:=by simpa using hk
   have e2:QbU env ((n,k)::r) acc=QbU env r acc:=by
    show QbU env r (if k=.free then(n,(env.cells.lookup n).getD 0)::acc else acc)=_;rw[if_neg hk]
   rw[e2];show((if(k == Jj)=true then _ else pure (JX acc)) >>= _)=_;rw[hb,if_neg QC];exact Qjl r _ λx hx=>h x (Q7 _ hx)
theorem QgT{scope:Y8}{env:Env}(h:∀x∈scope.names,x.2=.free->∃c,env.cells.lookup x.1=some c):closureFor scope env=pure (QbU env scope.names []):=by
 have e:=Qjl (env:=env) scope.names [] h;unfold closureFor;show(forIn scope.names [] _ >>= _)=_;have e':(forIn (m:=Sem) scope.names ([]:List (Str×Addr)) λx cs=>match x with | (name,kind)=>(if(kind == Jj)=true then do let a <- cellOf env name;pure (JX ((name,a)::cs)) else pure (JX cs)))=pure (QbU env scope.names []):=e
 first
  |(rw[e'];rfl)
  |(refine Eq.trans (congrArg (λt=>t >>= _) e') ?_;rfl)
theorem Qjm{env:Env}:∀(l:List (Str×Qa2))(acc:List (Str×Addr)),(∀x∈l,x.2=.free->∃c,env.cells.lookup x.1=some c)->(∀x c,acc.lookup x=some c->env.cells.lookup x=some c) ->
  (∀x c,(QbU env l acc).lookup x=some c->env.cells.lookup x=some c)/\(∀x c,acc.lookup x=some c->(QbU env l acc).lookup x=some c)/\∀x,(x,Jj)∈l->∃c,(QbU env l acc).lookup x=some c
 |[],acc,_,ha=>⟨ha,λ_ _ h=>h,λ_ h=>nomatch h⟩
 |(n,k)::r,acc,h,ha=>by
  have hr:∀x∈r,x.2=.free->∃c,env.cells.lookup x.1=some c:=λx hx=>h x (Q7 _ hx)
  by_cases hk:k=.free
  ·subst hk;obtain⟨c,hc⟩:=h (n,.free) JM rfl;have e2:QbU env ((n,.free)::r) acc=QbU env r ((n,c)::acc):=by
    show QbU env r (if Jj=.free then(n,(env.cells.lookup n).getD 0)::acc else acc)=_;rw[if_pos rfl,hc];rfl
   rw[e2];have ha':∀x c',((n,c)::acc).lookup x=some c'->env.cells.lookup x=some c':=λx c' q=>by
    rw[Jt] at q;cases hx:x == n with
    |true=>
     rw[hx] at q;have z:c=c':=Qu q;have y:x=n:=by simpa using hx
     rw[y,<- z];exact hc
    |false=>rw[hx] at q;exact ha x c' q
   obtain⟨i1,i2,i3⟩:=Qjm r ((n,c)::acc) hr ha';refine⟨i1,λx c' q=>?_,λx hx=>?_⟩
   ·refine i2 x c' ?_
    rw[Jt];cases hx:x == n with
    |true=>
     have y:x=n:=by simpa using hx
     have:=ha x c' q;rw[y,hc] at this;exact this
    |false=>exact q
   ·rcases Qr.mp hx with z | z
    ·cases z;exact⟨c,i2 n c (by rw[Jt,beq_self_eq_true])⟩
    ·exact i3 x z
  ·have e2:QbU env ((n,k)::r) acc=QbU env r acc:=by
    show QbU env r (if k=.free then(n,(env.cells.lookup n).getD 0)::acc else acc)=_;rw[if_neg hk]
   rw[e2];obtain⟨i1,i2,i3⟩:=Qjm r acc hr ha;refine⟨i1,i2,λx hx=>?_⟩;rcases Qr.mp hx with z | z
   ·cases z;exact absurd rfl hk
   ·exact i3 x z
theorem Qcw{l:List (Str×Qa2)}{x:Str}{k:Qa2}(h:l.lookup x=some k):(x,k)∈l:=by
 induction l with
 |nil=>cases h
 |cons p r ih=>
  obtain⟨n,q⟩:=p;rw[Jt] at h;cases hx:x == n with
  |true=>
   rw[hx] at h;have y:x=n:=by simpa using hx
   have z:q=k:=Qu h;subst y z;exact JM
  |false=>rw[hx] at h;exact Q7 _ (ih h)
theorem Qbe{env:Env}:∀{names:List (Str×Qa2)}{x:Str}{k:Qa2},(names.map λ(n,k)=>if(k == Jj&&env.scope.kind == .function&&env.kindOf n == some .cell) then(n,YH) else(n,k)).lookup x=some k ->
  names.lookup x=some k∨(k=.cell/\names.lookup x=some .free)
 |[],x,k,h=>by cases h
 |(n,q)::r,x,k,h=>by
  have ih:=@Qbe env r x k;rw[Jh] at h;have h':Qg8 x ((if(q == Jj&&env.scope.kind == .function&&env.kindOf n == some .cell)=true then(n,YH) else(n,q))::_)=some k:=h;cases hx:x == n with
  |true=>
   by_cases hc:(q == Jj&&env.scope.kind == .function&&env.kindOf n == some .cell)=true
   ·rw[if_pos hc,Jt,hx] at h';have z:YH=k:=Qu h';have y:q=.free:=by simp at hc;exact hc.1.1
    refine .inr ⟨z.symm,?_⟩;rw[Jt,hx,y]
   ·rw[if_neg hc,Jt,hx] at h';refine .inl ?_
    rw[Jt,hx];exact h'
  |false=>
   have h2:Qg8 x (r.map λ(n,k)=>if(k == Jj&&env.scope.kind == .function&&env.kindOf n == some .cell) then(n,YH) else(n,k))=some k:=by
    by_cases hc:(q == Jj&&env.scope.kind == .function&&env.kindOf n == some .cell)=true
    ·rw[if_pos hc,Jt,hx] at h';exact h'
    ·rw[if_neg hc,Jt,hx] at h';exact h'
   rw[Jt,hx];exact ih h2
theorem relabel_free{env:Env}:∀{names:List (Str×Qa2)}{x:Str},names.lookup x=some .free->(names.map λ(n,k)=>if(k == Jj&&env.scope.kind == .function&&env.kindOf n == some .cell) then(n,YH) else(n,k)).lookup x=some .cell ∨
   (names.map λ(n,k)=>if(k == Jj&&env.scope.kind == .function&&env.kindOf n == some .cell) then(n,YH) else(n,k)).lookup x=some .free
 |[],x,h=>by cases h
 |(n,q)::r,x,h=>by
  have ih:=@relabel_free env r x;rw[Jh];show Qg8 x ((if(q == Jj&&env.scope.kind == .function&&env.kindOf n == some .cell)=true then(n,YH) else(n,q))::_)=some .cell∨Qg8 x ((if(q == Jj&&env.scope.kind == .function&&env.kindOf n == some .cell)=true then(n,YH) else(n,q))::_)=some .free;cases hx:x == n with
  |true=>
   rw[Jt,hx] at h;have z:q=Jj:=Qu h;subst z;by_cases hc:(Jj == Jj&&env.scope.kind == .function&&env.kindOf n == some .cell)=true
   ·rw[if_pos hc,Jt,hx];exact .inl rfl
   ·rw[if_neg hc,Jt,hx];exact .inr rfl
  |false=>
   rw[Jt,hx] at h;by_cases hc:(q == Jj&&env.scope.kind == .function&&env.kindOf n == some .cell)=true
   ·rw[if_pos hc,Jt,hx];exact ih h
   ·rw[if_neg hc,Jt,hx];exact ih h
def Qff(N:List Str)(sc:Y8)(M:List Str)(scope:Y8)(cap:List (Option Nat)):Bool:=
 cap.length == M.length&&(M.zip cap).all (λ(x,o)=>match o with
  |none=>scope.names.lookup x == some .local
  |some j=>N[j]? == some x&&(scope.names.lookup x == some .free&&(sc.names.lookup x == some .cell||sc.names.lookup x == some .free))) &&
 (scope.kind == .function&&scope.names.all λy=>y.2 != .cell&&((y.2 != .free||(sc.names.lookup y.1 == some .cell||sc.names.lookup y.1 == some .free))&&(y.2 != .local||scope.names.lookup y.1 == some .local)))
def QdF(cap:List (Option Nat))(σ:St):St:=cap.map λo=>match o with
 |none=>none
 |some j=>(σ[j]?).getD none
structure CapOk (N:List Str) (sc:Y8) (M:List Str) (scope:Y8) (cap:List (Option Nat)):Prop where
 len:cap.length=M.length
 own:∀(i j:Nat)(x:Str),M[i]? = some x->cap[i]? = some (some j)->N[j]? = some x/\scope.names.lookup x=some .free/\(sc.names.lookup x=some .cell∨sc.names.lookup x=some .free)
 kind:scope.kind=.function
 cell:∀y∈scope.names,y.2≠.cell
 free:∀y∈scope.names,y.2=.free->sc.names.lookup y.1=some .cell∨sc.names.lookup y.1=some .free
 loc:∀y∈scope.names,y.2=.local->scope.names.lookup y.1=some .local
theorem CapOk.of{N:List Str}{sc:Y8}{M:List Str}{scope:Y8}{cap:List (Option Nat)}(h:Qff N sc M scope cap=true):CapOk N sc M scope cap:=by
 unfold Qff at h;simp only[JR,Zg,beq_iff_eq] at h;obtain⟨⟨h1,h2⟩,h3,h4⟩:=h;refine⟨h1,λi j x e1 e2=>?_,h3,λy hy z=>?_,λy hy z=>?_,λy hy z=>?_⟩
 ·have hm:(x,some j)∈M.zip cap:=by
   have:(M.zip cap)[i]? = some (x,some j):=by rw[List.getElem?_zip_eq_some];exact⟨e1,e2⟩
   exact QK this
  have:=h2 _ hm;simp only[JR,beq_iff_eq,Qwo] at this;exact this
 ·have:=(h4 y hy).1;simp[z] at this
 ·have:=(h4 y hy).2.1
  simpa [z] using this
 ·have:=(h4 y hy).2.2
  simpa [z] using this
section
variable{X:Cx}{pins:List (Addr×Obj)}{σ:St}{H H3:Hp}{s3:Shared}{M:List Str}{scope:Y8}{cap:List (Option Nat)}{fp:List Addr}{h4:Heap}{t4:Nat}
theorem Cx.Ok.cells(ok:X.Ok){N:List Str}(c:CapOk N X.env.scope M scope cap):∀y∈scope.names,y.2=.free->∃d,X.env.cells.lookup y.1=some d:=λy hy z=>ok.has y.1 (c.free y hy z)
theorem Qdv(I:Inv X pins σ H3 s3)(c:CapOk X.N X.env.scope M scope cap)(hf:∀b∈fp,FpOk X pins H3 b)(hb:∀b∈fp,b<s3.heap.objs.size)
  (hn:h4.Ns s3.heap.objs.size λ_=>none)(hk:∀b o,s3.heap.get? b=some o->h4.get? b=some o) :
  Inv (blk X M scope (QbU X.env scope.names []) fp s3 H3 s3.heap.objs.size) [] (QdF cap σ) H3 { s3 with heap:=h4,toks:=t4 }:=by
 obtain⟨c1,c2,c3⟩:=Qjm scope.names [] (I.ok.cells c) (λx d q=>by cases q);refine⟨⟨I.ok.mod,c.kind,I.ok.glob,I.ok.blt,Qj _,λx y d e1 e2=>I.ok.inj x y d (c1 x d e1) (c1 y d e2),λx hx=>?_,(λx d z=>nomatch z),I.ok.hd,I.ok.frames,.inl rfl,λb hb'=>?_,I.bs,
  Jk I.ok.bsz I.sz,λb o e z=>?_,λb hb' z=>?_,I.stack,I.stkFree⟩,rfl,I.bare,Un.kept hk,⟨_,hn,λi x v e1 e2 e3=>?_⟩,λx d e=>?_,I.hok.fresh (Qj _),λx d e=>I.freeC x d (c1 x d e),λp hp=>(nomatch hp),I.hok.kept hk,?_⟩
 ·have hx':(relabel scope X.env).names.lookup x=some .cell∨(relabel scope X.env).names.lookup x=some .free:=hx;rcases hx' with q | q
  ·rcases Qbe q with z | ⟨_,z⟩
   ·exact absurd rfl (c.cell _ (Qcw z))
   ·exact c3 x (Qcw z)
  ·rcases Qbe q with z | ⟨z,_⟩
   ·exact c3 x (Qcw z)
   ·cases z
 ·obtain⟨f0,f1,f2,f3,f4,f5⟩:=hf b hb';exact⟨QH (hb b hb'),λx d e=>f4 x d (c1 x d e)⟩
 ·obtain⟨f0,f1,f2,f3,f4,f5⟩:=hf b z;rcases f3 with q | q
  ·exact I.ok.noex b o e q
  ·exact absurd (QY (Qp e) (Jk I.ok.bsz q)) (Y0 _)
 ·obtain⟨f0,f1,f2,f3,f4,f5⟩:=hf b hb';rcases Qr.mp (I.stkSub b z) with q | q
  ·exact f1 q
  ·exact f2 q
 ·have e2':(cap.map λo=>match o with | none=>none | some j=>(σ[j]?).getD none)[i]? = some (some v):=e2;rw[Qq] at e2';cases q:cap[i]? with
  |none=>rw[q] at e2';cases e2'
  |some o=>
   rw[q] at e2';cases o with
   |none=>cases e2'
   |some j=>
    have e4:(σ[j]?).getD none=some v:=Qu e2';have e5:σ[j]? = some (some v):=by
     cases r:σ[j]? with
     |none=>rw[r] at e4;cases e4
     |some o=>rw[r] at e4;exact congrArg some e4
    obtain⟨n1,n2,n3⟩:=c.own i j x e1 q;obtain⟨m,hm,hl⟩:=I.loc;obtain⟨u,ru,lk⟩:=hl j x v n1 e5 (n3.elim (λz=>.inr (.inl z)) λz=>.inr (.inr z));refine⟨u,ru,.inr ?_⟩;rcases lk with⟨k1,_⟩ | ⟨_,d,k2,k3⟩
    ·have k1':X.env.scope.names.lookup x=some .local:=k1;rcases n3 with z | z<;>(rw[z] at k1';cases k1')
    ·obtain⟨d',hd'⟩:=c3 x (Qcw n2);have ed:d'=d:=by
      have:=c1 x d' hd';rw[k2] at this;exact(Qu this).symm
     subst ed;exact⟨(relabel_free n2:(relabel scope X.env).names.lookup x=some .cell∨(relabel scope X.env).names.lookup x=some .free),d',hd',k3.keeps hk⟩
 ·obtain⟨v,q⟩:=I.cell x d (c1 x d e);exact⟨v,q.keeps hk⟩
 ·show(cap.map _).length=M.length;rw[Qg];exact c.len
theorem QoF{σ':St}{s':Shared}{h':Heap}(I:Inv X pins σ H3 s3)(hf:∀b∈fp,FpOk X pins H3 b)(J:Inv (blk X M scope (QbU X.env scope.names []) fp s3 H3 s3.heap.objs.size) [] σ' H s')(hs:Qan s3.heap.objs.size s'.heap h') :
  Inv X pins σ H { s' with heap:=h' }:=by
 have u:Un (frs X.stack) fp H3 H s3.heap s'.heap:=J.base;have ne:∀b o,s3.heap.get? b=some o->b≠s3.heap.objs.size:=λb o e=>QH (Qp e)
 have hC:H s3.heap.objs.size=none:=J.free;refine I.call' (ch:=fp) (s':={ s' with heap:=h' }) J.os ⟨λb o e n hb hx=>(hs.2 b (ne b o e)).trans (u.keep b o e n hb hx),λb o e n hb hx=>?_,u.free,λb o e hx=>?_,u.tups,u.frzs,u.tbls⟩ (λb o e=>?_) J.bare λb hb=>?_
 ·obtain⟨sl,q⟩:=u.slot b o e n hb hx;exact⟨sl,(hs.2 b (ne b o e)).trans q⟩
 ·obtain⟨o',q⟩:=u.there b o e hx;exact⟨o',(hs.2 b (ne b o e)).trans q⟩
 ·refine(J.hok b o e).stay (λc v hc q=>(hs.2 c ?_).trans q) (λ_ q=>q) λ_ _ q=>q
  rintro rfl;rcases hc with z | z
  ·rw[<- z,hC] at e;cases e
  ·rw[hC] at z;cases z
 ·obtain⟨f0,f1,f2,f3,f4,f5⟩:=hf b hb;exact⟨f3,f1,f4,f5⟩
end
def Wk:St->St->Prop
 |[],[]=>True
 |none::a,_::b=>Wk a b
 |some v::a,some u::b=>v=u/\Wk a b
 |_,_=>False
theorem Wk.len:∀{a b:St},Wk a b->a.length=b.length
 |[],[],_=>rfl
 |none::a,_::b,h=>congrArg (·+1) (Wk.len (a:=a) (b:=b) h)
 |some v::a,some u::b,h=>congrArg (·+1) (Wk.len (a:=a) (b:=b) h.2)
 |[],_::_,h=>h.elim
 |some _::_,[],h=>h.elim
 |none::_,[],h=>h.elim
 |some _::_,none::_,h=>h.elim
theorem Wk.get:∀{a b:St},Wk a b->∀(i:Nat) v,a[i]? = some (some v)->b[i]? = some (some v)
 |[],[],_,i,v,h=>by simp at h
 |none::a,x::b,h,0,v,e=>by simp at e
 |none::a,x::b,h,i+1,v,e=>by
  simp only[Zo] at e ⊢;exact Wk.get (a:=a) (b:=b) h i v e
 |some q::a,some u::b,h,0,v,e=>by
  simp only[QjB] at e ⊢;rw[<- h.1];exact e
 |some q::a,some u::b,h,i+1,v,e=>by
  simp only[Zo] at e ⊢;exact Wk.get (a:=a) (b:=b) h.2 i v e
 |[],_::_,h,_,_,_=>h.elim
 |some _::_,[],h,_,_,_=>h.elim
 |none::_,[],h,_,_,_=>h.elim
 |some _::_,none::_,h,_,_,_=>h.elim
theorem Inv.wk{X:Cx}{pins:List (Addr×Obj)}{σ σ':St}{H:Hp}{s:Shared}(I:Inv X pins σ H s)(h:Wk σ' σ):Inv X pins σ' H s:=I.weak h.len h.get
def Qhr(J:It)(body:V->Hp->(Hp->Prop)->Prop)(Qn:Hp->Prop)(H:Hp):Prop:=
 ∃W:Nat->Nat->Hp->Prop,(∃m,W 0 m H)/\∀i m H2,W i m H2->(J.stop i H2/\Qn H2)∨(J.go i H2/\∀x H3,J.yld i H2 x H3->body x H3 λH6=>∃m',m'<m/\W (i+1) m' H6)
abbrev Act:=(Shared->Prop)->Shared->Prop
def BodyOk(Y:Cx)(σ:St)(act:Act)(b:Hp->(Hp->Prop)->Prop):Prop:=
 ∀(pins:List (Addr×Obj))(s:Shared)(H:Hp)(k:Hp->Prop)(Q:Shared->Prop),Inv Y pins σ H s->b H k->(∀s' H',Inv Y pins σ H' s'->k H'->Q s')->act Q s
theorem Qds{Y:Cx}{σ:St}{tg:Q2}{elt:Q2}{gens:List Qde}{scope:Y8}{cpos:Pos}{d:Nat}{it D:Addr}{fp:List Addr}{tn:Nat->Heap->Prop}{J:It}{pins:List (Addr×Obj)}{s:Shared}{H:Hp}{body:V->Hp->(Hp->Prop)->Prop}{Qn:Hp->Prop}{R:Qtk->Shared->Prop}{act:Value->Act}
  (hc:Y.calm=true)(T:Turn Y.prog Y.w Y.K tg J fp it tn)(st:tn 0 s.heap)(hf:∀b∈fp,FpOk Y pins H b)
  (hturn:∀(Q:PySem.Fin->Shared->Prop)(E:Value->Shared->Prop)(s:Shared),wpAny (model Y.prog Y.w) Y.A (pyNext (.ref it)) (λr s1=>match r with
   |none=>Q (.done .next) s1
   |some v=>wpAny (model Y.prog Y.w) Y.A (letOwnedTupleGo tg (.ref it) v) (λ_ s2=>act v (λs3=>Q (.again (.compLoop (.ListComp elt gens scope cpos) d (.ref it) (.ref D) Y.env)) s3) s2) E s1) E s ->
   wpAny (model Y.prog Y.w) Y.A (compTurn (.ListComp elt gens scope cpos) d (.ref it) (.ref D) Y.env) Q E s)
  (hact:∀(x:V)(u:Value),RelV x u->BodyOk Y σ (act u) (body x))
  (I:Inv Y pins σ H s)(h:Qhr J body Qn H)(hR:∀s' H',Inv Y pins σ H' s'->Qn H'->R (.ok .next) s') :
  codeAny (model Y.prog Y.w) Y.A (.compLoop (.ListComp elt gens scope cpos) d (.ref it) (.ref D) Y.env) R s:=by
 obtain⟨W,⟨m0,w0⟩,turn⟩:=h;have stat:∀{H':Hp},(∀b∈fp,H' b=none)->∀b∈fp,FpOk Y pins H' b:=λhn b hb=>⟨hn b hb,(hf b hb).2⟩
 refine codeAny_loop rfl (λn s'=>∃i H',Inv Y pins σ H' s'/\tn i s'.heap/\(∀b∈fp,H' b=none)/\W i n H') (λn s3 hI=>?_) m0 ⟨0,H,I,st,λb hb=>(hf b hb).1,w0⟩;show wpAny _ Y.A ((compTurn (.ListComp elt gens scope cpos) d (.ref it) (.ref D) Y.env).onRaise (λx=>do noteFrame x Y.env;theTreesLotGoes x)) _ _ s3;refine wpAny_noted (hturn _ _ _ ?_);obtain⟨i,H3,I3,st3,fr3,w3⟩:=hI;rcases turn i n H3 w3 with⟨stop,qn⟩ | ⟨go,step⟩
 ·refine thn (T.done Y rfl rfl rfl hc i pins s3 σ H3 _ I3 (stat fr3) st3 stop) λr s4 ⟨hr,I4⟩=>?_
  subst hr;exact hR s4 H3 I4 qn
 ·refine thn (T.item Y rfl rfl rfl hc i pins s3 σ H3 _ I3 (stat fr3) st3 go) λr s4 ⟨u,hr,h4⟩=>?_
  subst hr;refine thn h4 λ_ s5 ⟨x,H5,I5,r5,y5,st5,fr5⟩=>?_
  have I5':=I5.pinned (stat fr5) (T.obj _ _ st5);refine hact x u r5 _ s5 H5 _ _ I5' (step x H5 y5) λs7 H7 I7 ⟨m',hm,w7⟩=>?_
  refine⟨rfl,m',hm,i+1,H7,I7.unpinned,T.keep _ _ _ st5 λb hb o e=>(I7.pin (b,o) (QV _ (QV _ (QaM hb e)))).1,λb hb=>?_,w7⟩;obtain⟨o,e,dd⟩:=T.obj _ _ st5 b hb;exact(I7.pin (b,o) (QV _ (QV _ (QaM hb e)))).2.1
abbrev QiI (ifs:List Q2) (env:Env):Sem Bool:=forIn ifs true λc r=>if r=true then do let ok <- isTrue c env (eval c env);pure (JX ok) else pure (JX r)
def PTs(Y:Cx)(ifs:List Q2)(t:TT):Prop:=
 ∀(pins:List (Addr×Obj))(s:Shared)(σ:St)(H:Hp)(Q:Bool->Hp->Prop),Inv Y pins σ H s->t σ H Q->wpAny (model Y.prog Y.w) Y.A (QiI ifs Y.env) (TP Y pins σ Q) Y.xe s
def QiL:TT:=λ_ H Q=>Q true H
theorem QmP{Y:Cx}:PTs Y [] QiL:=λpins s σ H Q I h=>wpAny_tests_nil ⟨H,I,h⟩
theorem QmO{Y:Cx}{c:Q2}{t:TT}(h:PT Y c t):PTs Y [c] t:=λpins s σ H Q I q=>wpAny_tests_one (h pins s σ H Q I q)
def QoM(Y:Cx)(tg:Q2)(ifs:List Q2)(inner:Act):Value->Act:=λu Q s=>
 wpAny (model Y.prog Y.w) Y.A (assign tg Y.env u) (λ_ s4=>wpAny (model Y.prog Y.w) Y.A (QiI ifs Y.env) (λok s5=>if ok=true then inner Q s5 else Q s5) (λ_ _=>False) s4) (λ_ _=>False) s
def bOf(σ:St)(g:TG)(tc:TT)(inner:St->Hp->(Hp->Prop)->Prop):V->Hp->(Hp->Prop)->Prop:=λx H k=>g x σ H λσ4 H4=>Wk σ σ4/\tc σ4 H4 λb H5=>
 if b=true then inner σ4 H5 k else k H5
theorem Qfi{Y:Cx}{σ:St}{tg:Q2}{ifs:List Q2}{g:TG}{tc:TT}{inner:Act}{ri:St->Hp->(Hp->Prop)->Prop}(hx:Y.xe=λ_ _=>False)(hg:PG Y tg g)(ht:PTs Y ifs tc)(he:∀σ4,BodyOk Y σ4 inner (ri σ4))(x:V)(u:Value)(r:RelV x u) :
  BodyOk Y σ (QoM Y tg ifs inner u) (bOf σ g tc ri x):=by
 intro pins s H k Q I h hQ;have hx':∀(v:Value)(s':Shared),Y.xe v s'->False:=λv s' z=>by rw[hx] at z;exact z
 refine wpAny_mono (hg pins s σ H x u _ I r h) (λ_ s4 ⟨σ4,H4,I4,wk,q4⟩=>?_) hx';refine wpAny_mono (ht pins s4 σ4 H4 _ I4 q4) (λb s5 ⟨H5,I5,q5⟩=>?_) hx';cases b with
 |false=>
  rw[if_neg QC] at q5;rw[if_neg QC];exact hQ s5 H5 (I5.wk wk) q5
 |true=>
  rw[if_pos rfl] at q5;rw[if_pos rfl];exact he σ4 pins s5 H5 k Q I5 q5 λs' H' I' k'=>hQ s' H' (I'.wk wk) k'
def QoP(Y:Cx)(elt:Q2)(D:Addr):Act:=λQ s=>wpAny (model Y.prog Y.w) Y.A (eval elt Y.env) (λv s6=>wpAny (model Y.prog Y.w) Y.A (call (.builtin "list.append") [.ref D,v]) (λ_ s7=>Q s7) (λ_ _=>False) s6) (λ_ _=>False) s
def Qww(p:Addr)(te:TE):St->Hp->(Hp->Prop)->Prop:=λσ H k=>te σ H λv H6=>∃ys,H6 p=some (.lst ys)/\ys.length<sizeLine/\k (upd H6 p (.lst (ys++[v])))
theorem Qg1{Y:Cx}{σ:St}{elt:Q2}{te:TE}{D:Addr}(hx:Y.xe=λ_ _=>False)(he:PE Y elt te):BodyOk Y σ (QoP Y elt D) (Qww D te σ):=by
 intro pins s H k Q I h hQ;have hx':∀(v:Value)(s':Shared),Y.xe v s'->False:=λv s' z=>by rw[hx] at z;exact z
 refine wpAny_mono (he pins s σ H _ I h) (λv s6 ⟨y,H6,I6,r6,ys,e,hz,q⟩=>?_) hx';exact wpAny_mono (Qnp (X:=Y) pins s6 σ H6 (.ref D) [y] (.ref D) [v] (λ_ H'=>k H') I6 rfl (.cons r6 .nil) ⟨D,ys,y,rfl,rfl,e,hz,q⟩) (λ_ s7 ⟨_,H7,I7,_,q7⟩=>hQ s7 H7 I7 q7) hx'
theorem QjH{Y:Cx}{elt tg iter:Q2}{ifs:List Q2}{scope:Y8}{cpos:Pos}{it D:Addr}(Q:PySem.Fin->Shared->Prop)(E:Value->Shared->Prop)(s:Shared)
  (h:wpAny (model Y.prog Y.w) Y.A (pyNext (.ref it)) (λr s1=>match r with
   |none=>Q (.done .next) s1
   |some v=>wpAny (model Y.prog Y.w) Y.A (letOwnedTupleGo tg (.ref it) v) (λ_ s2=>QoM Y tg ifs (QoP Y elt D) v (λs3=>Q (.again (.compLoop (.ListComp elt [⟨tg,iter,ifs,0⟩] scope cpos) 0 (.ref it) (.ref D) Y.env)) s3) s2) E s1) E s) :
  wpAny (model Y.prog Y.w) Y.A (compTurn (.ListComp elt [⟨tg,iter,ifs,0⟩] scope cpos) 0 (.ref it) (.ref D) Y.env) Q E s:=by
 rw[compTurn_list];refine wpAny_bind (wpAny_standAt (wpAny_bind (thn h λr s1 h1=>?_)));cases r with
 |none=>exact wpAny_pure h1
 |some v=>
  refine wpAny_bind (thn h1 λ_ s2 h2=>?_);refine wpAny_bind (wpAny_mono h2 (λ_ s4 h4=>wpAny_bind (wpAny_mono h4 (λok s5 h5=>?_) λ_ _ f=>f.elim)) λ_ _ f=>f.elim);cases ok with
  |false=>exact wpAny_pure h5
  |true=>exact wpAny_bind (wpAny_bind (wpAny_mono h5 (λx s6 h6=>wpAny_bind (wpAny_mono h6 (λ_ s7 h7=>wpAny_pure (wpAny_pure h7)) λ_ _ f=>f.elim)) λ_ _ f=>f.elim))
def tComp(cap:List (Option Nat))(wi:TI)(g:TG)(tc:TT)(te:TE):TE:=λσ H Q=>wi σ H λJ H1=>∀p,H1 p=none->Qhr J (bOf (QdF cap σ) g tc (Qww p te)) (Q (.ref p)) (upd H1 p (.lst []))
theorem FpOk.upd{X:Cx}{pins:List (Addr×Obj)}{H:Hp}{b a:Addr}{o:HO}(h:FpOk X pins H b)(hne:b≠a):FpOk X pins (upd H a o) b:=⟨by rw[JY hne];exact h.1,h.2⟩
theorem Qj4{X:Cx}{M:List Str}{cap:List (Option Nat)}{elt tg iter:Q2}{ifs:List Q2}{scope:Y8}{pos:Pos}{wi:TI}{g:TG}{tc:TT}{te:TE}(hc:X.calm=true)(ok:Qff X.N X.env.scope M scope cap=true)
  (hi:PI X tg iter wi)(hb:∀cl ex s3 H3 C,PG (blk X M scope cl ex s3 H3 C) tg g/\PTs (blk X M scope cl ex s3 H3 C) ifs tc/\PE (blk X M scope cl ex s3 H3 C) elt te)
  (hs:∀x,foldedSetIterable iter X.env x=pure x:=by intro _;rfl):PE X (.ListComp elt [⟨tg,iter,ifs,0⟩] scope pos) (tComp cap wi g tc te):=by
 intro pins s σ H Q I h;have c:=CapOk.of ok;rw[eval_ListComp];refine QaA (use:=none) rfl hs (QgT (I.ok.cells c)) c.kind c.loc ?_
 refine thn (hi pins s σ H _ I h) λv s1 h1=>thn h1 λitv s2 h2=>?_
 obtain⟨it,fp,tn,J,H2,e,I2,T,st2,f2,hW⟩:=h2;subst e;refine JC (Qbv c.cell (by intro y hy;simp at hy) (λh₁ hns₁ hsb₁=>?_) c.kind);have I3:Inv X pins σ (upd H2 s2.heap.objs.size (.lst [])) { s2 with heap:=s2.heap.push { cls:=.type "list",data:=.seq ([]:List Value).toArray } }:=I2.lnew (t':=s2.toks) (ys:=[]) .nil (Qt _);have lt2:∀b∈fp,b<s2.heap.objs.size:=λb hb=>by obtain⟨o,e,_⟩:=T.obj _ _ st2 b hb;exact Qp e
 have f3:∀b∈fp,FpOk X pins (upd H2 s2.heap.objs.size (.lst [])) b:=λb hb=>(f2 b hb).upd (QH (lt2 b hb))
 generalize hs3:({ s2 with heap:=s2.heap.push { cls:=.type "list",data:=.seq ([]:List Value).toArray } }:Shared)=s3 at I3;have e3:s3.heap=s2.heap.push { cls:=.type "list",data:=.seq ([]:List Value).toArray }:=by rw[<- hs3]
 have z3:s3.heap.objs.size=s2.heap.objs.size+1:=by rw[e3,ZK]
 have hk:∀b o,s3.heap.get? b=some o->h₁.get? b=some o:=λb o e=>hsb₁.extBut b o (by
  have:=Qp e;rw[e3] at this;exact QH this) (Qe _ (e3 ▸ e))
 have hn₁:h₁.Ns s3.heap.objs.size λ_=>none:=by rw[e3];exact hns₁
 have B:=Qdv (t4:=s3.toks+([]:List (Str×Value)).length) (fp:=fp) I3 c f3 (λb hb=>by rw[z3];exact YZ (lt2 b hb)) hn₁ hk;have st4:tn 0 h₁:=T.keep _ _ _ st2 λb hb o e=>hk b o (by rw[e3];exact Qe _ e)
 have fp4:∀b∈fp,FpOk (blk X M scope (QbU X.env scope.names []) fp s3 (upd H2 s2.heap.objs.size (.lst [])) s3.heap.objs.size) [] (upd H2 s2.heap.objs.size (.lst [])) b:=λb hb=>by
  refine⟨(f3 b hb).1,(B.ok.exf b hb).1,B.ok.exfs b hb,.inl hb,(B.ok.exf b hb).2,λp hp=>(nomatch hp)⟩
 obtain⟨hg,ht,he⟩:=hb (QbU X.env scope.names []) fp s3 (upd H2 s2.heap.objs.size (.lst [])) s3.heap.objs.size;have loop:codeAny (model X.prog X.w) X.A (.compLoop (.ListComp elt [⟨tg,iter,ifs,0⟩] scope pos) 0 (.ref it) (.ref s2.heap.objs.size) (compEnvC scope (QbU X.env scope.names []) s3.heap.objs.size X.env))
   (compPost (model X.prog X.w) X.A X.xe none (EP X pins σ Q) (.ref s2.heap.objs.size) s3.heap.objs.size) { s3 with heap:=h₁,toks:=s3.toks+([]:List (Str×Value)).length }:=by
  refine Qds (Y:=blk X M scope (QbU X.env scope.names []) fp s3 (upd H2 s2.heap.objs.size (.lst [])) s3.heap.objs.size) (gens:=[⟨tg,iter,ifs,0⟩]) (d:=0) hc T st4 fp4
   (λQ E s h=>QjH Q E s h) (λx u r=>Qfi rfl hg ht (λσ4=>Qg1 rfl he) x u r) B (hW _ (I2.hok.fresh (Qj _))) λs' H' I' q=>?_
  obtain⟨m,hn,_⟩:=I'.loc;exact⟨m,hn,λh' hs'=>⟨.ref s2.heap.objs.size,H',QoF I3 f3 I' hs',rfl,q⟩⟩
 exact QdH loop (T.self _ 0 _ _ _ st4 loop)
section
variable{X:Cx}
theorem Qjo:CallR X (.builtin "isinstance") (λxs H Q=>∃x t T b,xs=[x,.ty T]/\TyOf X.K H x t/\PySem.W.kitOne X.K t (.type T)=some b/\Q (.bl b) H):=by
 intro pins s σ H xs us Q I r h;obtain⟨x,t,T,b,rfl,ty,e,q⟩:=h;obtain⟨u,v,rfl,ru,rv⟩:=vals2 r;cases(show v=Yp T from rv);exact QnB I ru ty e λtk=>⟨.bl b,H,I.tok tk,rfl,q⟩
theorem Qr5{bs:List Bool}:∀{us:List Value},Vals (bs.map V.bl) us->LSm.BoolsAre us bs:=by
 induction bs with
 |nil=>intro us r;cases r;exact .nil
 |cons b bs ih=>
  intro us r;cases r with
  |cons r t=>
   cases(show _=YO b from r);exact .cons b (ih t)
theorem QgZ:CallR X (.builtin "all") (λxs H Q=>∃(p:Addr)(bs:List Bool),xs=[.ref p]/\SqL X.K H p (bs.map V.bl)/\X.calm=true/\Q (.bl (bs.all id)) H):=by
 intro pins s σ H xs us Q I r h;obtain⟨p,bs,rfl,hp,hc,q⟩:=h;obtain⟨u,rfl,ru⟩:=vals1 r;cases ru;obtain⟨its,rv,pl,hz⟩:=I.list hp;have hl:=pl.isList;have hb:=Qr5 rv;have hlt:p<s.heap.objs.size:=by obtain⟨_,e,_⟩:=hl;exact Qp e
 refine call_all_walk (QzT hl ?_);refine⟨s.heap.objs.size,[s.heap.objs.size,p],[s.heap.objs.size],its.toArray.size,_,_,λi=>(bs[i]?).getD true,rfl,Walks.list (A:=X.A.in1) (I.ok.hd hc) _ p (QH hlt) its.toArray,
  ⟨⟨_,Qw _ rfl,rfl,rfl⟩,hl.push _⟩,λi v s' Q' E' hP hQ=>?_,λh' tk hk=>?_⟩
 ·obtain⟨b,e,rfl⟩:=hb.get i v (by simpa using hP);simp only[e,Option.getD_some] at hQ;exact JW hQ
 ·have e:((Qk its.toArray.size).all λi=>(bs[i]?).getD true)=bs.all id:=by
   rw[Qo,hb.length];exact LSm.range_all bs
  rw[e];exact⟨.bl _,H,I.kept (LSm.kept_iter hk),rfl,q⟩
def QBI:V->Option Int->Option Int->Hp->VK->Prop:=λx lo hi H Q=>∃a xs,x=.ref a/\H a=some (.tup xs)/\∀p H',Same H H'->H' p=some (.tup (QkB xs lo hi))->Q (.ref p) H'
theorem JS{H:Hp}{p:Addr}{o:HO}(h:H p=none):Same H (upd H p o):=λb u e=>by rw[JY (Zl e h)];exact e
theorem QcT{prog:QD}{w:Jl}{A:Je}{E:Value->Shared->Prop}{s:Shared}{t sl:Addr}{items:Array Value}{vl vu:Value}{lo hi:Option Int}{Q:Value->Shared->Prop}(ht:IsTup s.heap t items)(hs:s.heap.IsSliceOf sl vl vu .none)(pl:Qiq vl lo)(pu:Qiq vu hi)
  (h1:HT.sIx items.size 0 lo=0)(h2:HT.sIx items.size items.size hi=items.size)(h:Q (.ref t) s):wpAny (model prog w) A (getItem (.ref t) (.ref sl)) Q E s:=by
 obtain⟨os,hos,hcs,hds⟩:=id hs;have hTs:s.TypeIs (.ref sl) "slice" := ⟨os,hos,hcs⟩;unfold getItem
 try with_reducible refine Za ?_
 first | refine wpAny_bind (wpAny_pure ?_) | skip
 refine wpAny_bind (QzR ht.typeIs (by decide) ?_);refine wpAny_bind (Zb (name:=Qao "__getitem__") ht.typeIs J3
  (JO J3 ht.typeIs QwB ?_ (Qzr _ _)))
 show wpAny _ _ (Qec (.ref t) >>= _) _ _ s;refine wpAny_bind (tupleItemsOf_ ht ?_);refine wpAny_bind (Qcm hTs ?_);rw[if_pos (by decide)];refine wpAny_bind (HT.QbP hs pl pu ?_);show wpAny _ _ (if(((HT.sIx items.size 0 lo:Nat):Int) == 0&&(1:Int) == 1&&(HT.sIx items.size items.size hi - HT.sIx items.size 0 lo) == items.size)=true then _ else _) _ _ s;rw[if_pos (by rw[h1,h2];simp)];refine wpAny_bind (m:=QAf _) (wpAny_bind (Qcm ht.typeIs (wpAny_pure ?_)));rw[if_pos (by decide)];exact wpAny_bind (wpAny_rule (wpAny_pure ⟨_,rfl,wpAny_pure h⟩))
theorem Qw7:SlR X QBI:=by
 intro pins s σ H x v vl vu lo hi sl Q I rx hs pl pu h;obtain⟨a,xs,rfl,hx,q⟩:=h;by_cases hw:HT.sIx xs.length 0 lo=0/\HT.sIx xs.length xs.length hi=xs.length
 ·cases rx;obtain⟨its,r,ht,hz⟩:=I.tuple (SqT.of hx);have hlen:its.toArray.size=xs.length:=by rw[Qo];exact r.length.symm
  refine⟨"tuple",_,J3.lookup,ht.typeIs,?_⟩;refine QcT ht hs pl pu (by rw[hlen];exact hw.1) (by rw[hlen];exact hw.2) ?_
  refine⟨.ref a,H,I,rfl,q a H (Same.refl H) ?_⟩;have e:QkB xs lo hi=xs:=by
   unfold QkB;rw[hw.1,hw.2];simp
  rw[e];exact hx
 ·exact Qw6 pins s σ H (.ref a) v vl vu lo hi sl Q I rx hs pl pu ⟨a,xs,rfl,SqT.of hx,hw,λp hp=>q p _ (JS hp) JN⟩
def Qxr:R2:=λx y H Q=>∃a b xs ys,x=.ref a/\y=.ref b/\H a=some (.tup xs)/\H b=some (.tup ys)/\xs.length+ys.length<=sizeLine/\∀p H',Same H H'->H' p=some (.tup (xs++ys))->Q (.ref p) H'
theorem QuT:OpR X (binaryOp .Add) Qxr:=by
 intro pins s σ H x y v u Q I rx ry h;obtain⟨a,b,xs,ys,rfl,rfl,ha,hb,hz,q⟩:=h;by_cases hx:xs=[]
 ·subst hx;cases rx;cases ry;obtain⟨its,r1,p1,_⟩:=I.tuple (SqT.of ha);obtain⟨its2,r2,p2,_⟩:=I.tuple (SqT.of hb);cases r1;obtain⟨⟨cls,dd,data,sl⟩,ho,hc,n,hd⟩:=id p1;obtain⟨⟨cls2,dd2,data2,sl2⟩,ho2,hc2,n2,hd2⟩:=id p2;simp only at hc hd hc2 hd2;subst hc hd hc2 hd2;exact Qth ⟨_,ho,rfl⟩ ⟨_,ho2,rfl⟩ Qiw Qo0 PySem.F.slot_tuple_add PySem.F.entry_tuple_add (PySem.F.args_tuple_add_2 _ _)
   (tuple_addW0 a b #[] its2.toArray n n2 dd dd2 sl sl2 rfl) ⟨ho,ho2,⟨.ref b,H,I,rfl,q b H (Same.refl H) hb⟩⟩
 ·exact QuS pins s σ H _ _ v u Q I rx ry ⟨a,b,xs,ys,rfl,rfl,SqT.of ha,SqT.of hb,hx,hz,λe=>q a H (Same.refl H) (by rw[e,JK];exact ha),λ_ p hp=>q p _ (JS hp) JN⟩
end
end L2
namespace Rz
open Sem (wp)
section
variable{prog:QD}{w:Jl}{A:Je}{E:Value->Shared->Prop}{s:Shared}
theorem QeB{it t:Addr}{i:Nat}{items:Array Value}{x:Value}{Q:Value->Shared->Prop}(hit:s.heap.IsTupleIter it t i)(ht:s.heap.IsTuple t items)(hx:items[i]? = some x)
  (hQ:∀h',h'.IsTupleIter it t (i+1)->Qan it s.heap h'->Q x { s with heap:=h' }):wpAny (model prog w) A (JL (.ref it)) Q E s:=by
 obtain⟨o,ho,hc,hd⟩:=id hit;obtain⟨ol,hol,_,nl,hdl⟩:=ht;unfold JL;refine wpAny_bind (Zb (name:=Qao "__next__") hit.typeIs Qad
  (JO Qad hit.typeIs QiC ?_ (Qir _)))
 show wpAny _ _ (field (.ref it) 0 >>= _) _ _ s;refine wpAny_bind (Ze ho hd (x:=.ref t) rfl ?_);show wpAny _ _ (if(QU t == JD)=true then _ else _) _ _ s;rw[if_neg (show ¬((QU t == JD)=true) from QC)];show wpAny _ _ (field (.ref it) 1 >>= _) _ _ s;refine wpAny_bind (Ze ho hd (x:=.int i 0) rfl ?_);show wpAny _ _ (seqItems? (.ref t) >>= _) _ _ s;refine wpAny_bind (ZU hol hdl ?_);simp only[Q4,hx];refine wpAny_bind (QcC ho hd (by simp) (wpAny_pure ⟨x,rfl,wpAny_pure (hQ _ ?_ (Zp ..))⟩));exact⟨_,ZC _ ho (Qda (YF hd _)),(Qfn ..).trans hc,by
  rw[YF hd];simp[rawInt]⟩
theorem Qi6{it t:Addr}{i:Nat}{items:Array Value}{Q:Value->Shared->Prop}(hh:A.handled=none)(hit:s.heap.IsTupleIter it t i)(ht:s.heap.IsTuple t items)(hx:items[i]? = none)
  (hE:∀h' e,Heap.ExtBut it s.heap h'->(∃o,h'.get? e=some o/\o.cls=.type "StopIteration")->E (.ref e) { s with heap:=h' }):wpAny (model prog w) A (JL (.ref it)) Q E s:=by
 obtain⟨o,ho,hc,hd⟩:=id hit;obtain⟨ol,hol,_,nl,hdl⟩:=ht;unfold JL;refine wpAny_bind (Zb (name:=Qao "__next__") hit.typeIs Qad
  (JO Qad hit.typeIs QiC ?_ (Qir _)))
 show wpAny _ _ (field (.ref it) 0 >>= _) _ _ s;refine wpAny_bind (Ze ho hd (x:=.ref t) rfl ?_);show wpAny _ _ (if(QU t == JD)=true then _ else _) _ _ s;rw[if_neg (show ¬((QU t == JD)=true) from QC)];show wpAny _ _ (field (.ref it) 1 >>= _) _ _ s;refine wpAny_bind (Ze ho hd (x:=.int i 0) rfl ?_);show wpAny _ _ (seqItems? (.ref t) >>= _) _ _ s;refine wpAny_bind (ZU hol hdl ?_);simp only[Q4,hx];refine wpAny_bind (wpAny_rule (wpAny_bind (QcC ho hd (by simp) ?_)));show wpAny _ _ (newExc (.type "StopIteration") [] >>= _) _ _ _;refine wpAny_bind ?_
 simp only[newExc,newTuple];refine wpAny_bind (JC ?_ (by size_fits));refine wpAny_bind (m:=firstArgMember _ _) (Yz (a:=JD) (by first | rfl | (simp only[firstArgMember];rfl)) ?_);refine JC ?_ (by size_fits)
 simp only[raiseNew];refine wpAny_bind (wpAny_handled ?_)
 first | rw[show A.in1.handled=none from hh] | rw[hh]
 refine wpAny_bind (wpAny_pure (wpAny_throw ?_));exact hE _ _ (((Zp ..).extBut.push _).push _) ⟨_,Qw _ rfl,rfl⟩
structure Apart (z TI TO i1 i2 t1 t2:Addr):Prop where
 a1:TI≠z
 a2:TO≠z
 a3:i1≠z
 a4:i2≠z
 a5:TI≠TO
 a6:TI≠i1
 a7:TI≠i2
 a8:TO≠i1
 a9:TO≠i2
 b1:i1≠i2
 b2:t1≠z/\t1≠TO/\t1≠i1/\t1≠i2
 b3:t2≠z/\t2≠TO/\t2≠i1/\t2≠i2
structure QoQ (h:Heap) (z TI TO i1 i2 t1 t2:Addr) (f:Value) (k:Nat):Prop where
 zp:Qtv h z TI TO f
 ti:IsPair h TI (.ref i1) (.ref i2)
 to:∃a b,IsPair h TO a b
 i1:h.IsTupleIter i1 t1 k
 i2:h.IsTupleIter i2 t2 k
theorem Qnf{z TI TO i1 i2 t1 t2:Addr}{k:Nat}{xs ys:Array Value}{x y:Value}{Q:Option Value->Shared->Prop}(D:Apart z TI TO i1 i2 t1 t2)(Z:QoQ s.heap z TI TO i1 i2 t1 t2 .none k)
  (hl1:s.heap.IsTuple t1 xs)(hl2:s.heap.IsTuple t2 ys)(hx:xs[k]? = some x)(hy:ys[k]? = some y)
  (hQ:∀h',QoQ h' z TI TO i1 i2 t1 t2 (rawInt s.heap.objs.size) (k+1)->IsPair h' s.heap.objs.size x y->(∀c o,c≠z->c≠TO->c≠i1->c≠i2->s.heap.get? c=some o->h'.get? c=some o)->Q (some (.ref s.heap.objs.size)) { s with heap:=h' }) :
  wpAny (model prog w) A (pyNext (.ref z)) Q E s:=by
 obtain⟨hz,hTI,⟨a,b,hTO⟩,h1,h2⟩:=Z;have hT:s.TypeIs (.ref z) "zip" := ⟨_,hz,rfl⟩;unfold pyNext;refine wpAny_bind (Qc7 (Zb (name:=Qao "__next__") hT QdJ (JO QdJ hT QzA ?_ (QwN _))));show wpAny _ _ (field (.ref z) 2 >>= _) _ _ _;refine wpAny_bind (Ze hz rfl (x:=.bool false) rfl ?_);show wpAny _ _ (field (.ref z) 3 >>= _) _ _ _;refine wpAny_bind (Ze hz rfl (x:=.ref TI) rfl (wpAny_bind (ZU hTI rfl ?_)));show wpAny _ _ (Zx (.ref z) >>= _) _ _ _;refine wpAny_bind ?_
 unfold Zx;refine wpAny_bind (Ze hz rfl (x:=.none) rfl (wpAny_pure ?_));simp only[if_true];refine wpAny_bind (wpAny_rule (wpAny_bind (Ze hz rfl (x:=.ref TO) rfl (wpAny_bind (YT hz (by simp) λg1 z1 s1=>?_)))))
 replace z1:Qtv g1 z TI TO .ellipsis:=z1
 refine wpAny_bind ?_
 simp only[Qfv,Qwk,Qha,QwH];refine wpAny_bind (wpAny_bind (Qf1 ?_));show wpAny _ _ (JL (.ref i1) >>= _) _ _ _;refine wpAny_bind (QeB (h1.extBut s1.extBut D.a3) (hl1.extBut s1.extBut D.b2.1) hx λg2 p2 s2=>wpAny_pure ?_);have o2:IsPair g2 TO a b:=s2.extBut _ _ D.a8 (s1.extBut _ _ D.a2 hTO);refine wpAny_bind (ZU o2 rfl (wpAny_bind (QeI o2 λg3 o3 s3=>wpAny_bind (Qwz (wpAny_pure ?_)))))
 replace o3:IsPair g3 TO x b:=o3
 refine wpAny_bind (wpAny_bind (Qf1 ?_));show wpAny _ _ (JL (.ref i2) >>= _) _ _ _;refine wpAny_bind (QeB (((h2.extBut s1.extBut D.a4).extBut s2.extBut D.b1.symm).extBut s3.extBut D.a9.symm)
  (((hl2.extBut s1.extBut D.b3.1).extBut s2.extBut D.b3.2.2.1).extBut s3.extBut D.b3.2.1) hy λg4 p4 s4=>wpAny_pure ?_)
 have o4:IsPair g4 TO x b:=s4.extBut _ _ D.a9 o3;refine wpAny_bind (ZU o4 rfl (wpAny_bind (QeI o4 λg5 o5 s5=>wpAny_bind (Qwz (wpAny_pure (wpAny_pure ?_))))))
 replace o5:IsPair g5 TO x y:=o5
 refine wpAny_bind (ZU o5 rfl (wpAny_bind (QlS ?_)));have sz:g5.objs.size=s.heap.objs.size:=by rw[s5.1,s4.1,s3.1,s2.1,s1.1]
 have kp:∀c o,c≠z->c≠TO->c≠i1->c≠i2->s.heap.get? c=some o->g5.get? c=some o:=λc o c1 c2 c3 c4 e=>
  s5.extBut _ _ c2 (s4.extBut _ _ c4 (s3.extBut _ _ c2 (s2.extBut _ _ c3 (s1.extBut _ _ c1 e))))
 have z5:Qtv g5 z TI TO .ellipsis:=s5.extBut _ _ D.a2.symm (s4.extBut _ _ D.a4.symm (s3.extBut _ _ D.a2.symm (s2.extBut _ _ D.a3.symm z1)));have q1:g5.IsTupleIter i1 t1 (k+1):=((p2.extBut s3.extBut D.a8.symm).extBut s4.extBut D.b1).extBut s5.extBut D.a8.symm;have q2:g5.IsTupleIter i2 t2 (k+1):=p4.extBut s5.extBut D.a9.symm;show wpAny _ _ (Qbp (.ref z) (.ref g5.objs.size) >>= _) _ _ _;refine wpAny_bind ?_
 unfold Qbp;have z6:Qtv (g5.push { cls:=.type "tuple",data:=.seq #[x,y] }) z TI TO .ellipsis:=Qe _ z5;refine wpAny_bind (YT z6 (by simp) λg7 z7 s7=>?_)
 replace z7:Qtv g7 z TI TO (rawInt g5.objs.size):=z7
 refine YT z7 (by simp) λg8 z8 s8=>?_
 replace z8:Qtv g8 z TI TO (rawInt g5.objs.size):=z8
 have up:∀c o,c≠z->g5.get? c=some o->g8.get? c=some o:=λc o c1 e=>s8.extBut _ _ c1 (s7.extBut _ _ c1 (Qe _ e))
 have ne:g5.objs.size≠z:=QaO (Qp z5);have t8:IsPair g8 g5.objs.size x y:=s8.extBut _ _ ne (s7.extBut _ _ ne (Qw _ rfl));rw[sz] at z8 t8;refine wpAny_pure ⟨_,rfl,wpAny_pure ?_⟩;show Q (some (.ref g5.objs.size)) _;rw[sz];exact hQ g8 ⟨z8,up _ _ D.a1 (kp _ _ D.a1 D.a5 D.a6 D.a7 hTI),⟨x,y,up _ _ D.a2 o5⟩,q1.at λo e=>up _ o D.a3 e,q2.at λo e=>up _ o D.a4 e⟩ t8 λc o c1 c2 c3 c4 e=>up c o c1 (kp c o c1 c2 c3 c4 e)
theorem Qrt{z TI TO i1 i2 t1 t2:Addr}{k:Nat}{xs ys:Array Value}{Q:Option Value->Shared->Prop}(hh:A.handled=none)(D:Apart z TI TO i1 i2 t1 t2)(Z:QoQ s.heap z TI TO i1 i2 t1 t2 .none k)
  (hl1:s.heap.IsTuple t1 xs)(hl2:s.heap.IsTuple t2 ys)(hend:xs[k]? = none∨ys[k]? = none)
  (hQ:∀h',(∀c o,c≠z->c≠TO->c≠i1->c≠i2->s.heap.get? c=some o->h'.get? c=some o)->Q none { s with heap:=h' }):wpAny (model prog w) A (pyNext (.ref z)) Q E s:=by
 obtain⟨hz,hTI,⟨a,b,hTO⟩,h1,h2⟩:=Z;have hT:s.TypeIs (.ref z) "zip" := ⟨_,hz,rfl⟩;have fin:∀(h':Heap)(e:Addr),(∀c o,c≠z->c≠TO->c≠i1->c≠i2->s.heap.get? c=some o->h'.get? c=some o)->(∃o,h'.get? e=some o/\o.cls=.type "StopIteration") ->
   wpAny (model prog w) A (isInstance (.ref e) (.type "StopIteration") >>= λx=>if x=true then pure none else throw (.ref e)) Q E { s with heap:=h' }:=λh' e hk he=>by
  obtain⟨o,ho,hc⟩:=he;refine wpAny_bind (Qiv (T := "StopIteration") (b:=true) ⟨o,ho,hc⟩ isSubtype_stop ?_);exact wpAny_pure (hQ _ hk)
 unfold pyNext;refine wpAny_bind (Qc7 (Zb (name:=Qao "__next__") hT QdJ (JO QdJ hT QzA ?_ (QwN _))));show wpAny _ _ (field (.ref z) 2 >>= _) _ _ _;refine wpAny_bind (Ze hz rfl (x:=.bool false) rfl ?_);show wpAny _ _ (field (.ref z) 3 >>= _) _ _ _;refine wpAny_bind (Ze hz rfl (x:=.ref TI) rfl (wpAny_bind (ZU hTI rfl ?_)));show wpAny _ _ (Zx (.ref z) >>= _) _ _ _;refine wpAny_bind ?_
 unfold Zx;refine wpAny_bind (Ze hz rfl (x:=.none) rfl (wpAny_pure ?_));simp only[if_true];refine wpAny_bind (wpAny_rule (wpAny_bind (Ze hz rfl (x:=.ref TO) rfl (wpAny_bind (YT hz (by simp) λg1 z1 s1=>?_)))))
 replace z1:Qtv g1 z TI TO .ellipsis:=z1
 refine wpAny_bind ?_
 simp only[Qfv,Qwk,Qha,QwH];refine wpAny_bind (wpAny_bind (Qf1 ?_));show wpAny _ _ (JL (.ref i1) >>= _) _ _ _;cases hx:xs[k]? with
 |none=>
  refine wpAny_bind (Qi6 hh (h1.extBut s1.extBut D.a3) (hl1.extBut s1.extBut D.b2.1) hx λg2 e s2 he=>?_);obtain⟨oe,hoe,hce⟩:=he;have z2:Qtv g2 z TI TO .ellipsis:=s2 _ _ D.a3.symm z1;have hez:e≠z:=λq=>by subst q;rw[z2] at hoe;cases hoe;simp at hce
  refine YT z2 (by simp) λg3 _ s3=>?_
  exact fin g3 e (λc o c1 _ c3 _ q=>s3.extBut _ _ c1 (s2 _ _ c3 (s1.extBut _ _ c1 q))) ⟨oe,s3.extBut _ _ hez hoe,hce⟩
 |some x=>
  have hy:ys[k]? = none:=by
   rcases hend with q | q
   ·rw[hx] at q;cases q
   ·exact q
  refine wpAny_bind (QeB (h1.extBut s1.extBut D.a3) (hl1.extBut s1.extBut D.b2.1) hx λg2 p2 s2=>wpAny_pure ?_);have o2:IsPair g2 TO a b:=s2.extBut _ _ D.a8 (s1.extBut _ _ D.a2 hTO);refine wpAny_bind (ZU o2 rfl (wpAny_bind (QeI o2 λg3 o3 s3=>wpAny_bind (Qwz (wpAny_pure ?_)))));refine wpAny_bind (wpAny_bind (Qf1 ?_));show wpAny _ _ (JL (.ref i2) >>= _) _ _ _;refine wpAny_bind (Qi6 hh (((h2.extBut s1.extBut D.a4).extBut s2.extBut D.b1.symm).extBut s3.extBut D.a9.symm)
   (((hl2.extBut s1.extBut D.b3.1).extBut s2.extBut D.b3.2.2.1).extBut s3.extBut D.b3.2.1) hy λg4 e s4 he=>?_)
  obtain⟨oe,hoe,hce⟩:=he;have z4:Qtv g4 z TI TO .ellipsis:=s4 _ _ D.a4.symm (s3.extBut _ _ D.a2.symm (s2.extBut _ _ D.a3.symm z1));have hez:e≠z:=λq=>by subst q;rw[z4] at hoe;cases hoe;simp at hce
  refine YT z4 (by simp) λg5 _ s5=>?_
  exact fin g5 e (λc o c1 c2 c3 c4 q=>s5.extBut _ _ c1 (s4 _ _ c4 (s3.extBut _ _ c2 (s2.extBut _ _ c3 (s1.extBut _ _ c1 q))))) ⟨oe,s5.extBut _ _ hez hoe,hce⟩
end
abbrev zh1 (h:Heap) (t1:Addr):Heap:=h.push { cls:=.type "tuple_iterator",data:=.fields #[.ref t1,.int 0 0] }
abbrev zh2 (h:Heap) (t1 t2:Addr):Heap:=(zh1 h t1).push { cls:=.type "tuple_iterator",data:=.fields #[.ref t2,.int 0 0] }
abbrev zh3 (h:Heap) (t1 t2:Addr):Heap:=(zh2 h t1 t2).push { cls:=.type "tuple",data:=.seq #[.ref h.objs.size,.ref (zh1 h t1).objs.size] }
abbrev zh4 (h:Heap) (t1 t2:Addr):Heap:=(zh3 h t1 t2).push { cls:=.type "tuple",data:=.seq #[.none,.none] }
abbrev zh5 (h:Heap) (t1 t2:Addr):Heap:=(zh4 h t1 t2).push { cls:=.type "zip",data:=.fields #[.none,.bool false,.bool false,.ref (zh2 h t1 t2).objs.size,.ref (zh3 h t1 t2).objs.size] }
theorem QCH(t1 t2:Addr)(xs ys:Array Value) :
  Meets (Qaa.«zip.__new__» ⟨[.type "zip",.ref t1,.ref t2],[]⟩) (λ_ R s=>s.heap.IsTuple t1 xs/\s.heap.IsTuple t2 ys/\R (.ok (.ret (.ref (zh4 s.heap t1 t2).objs.size))) { s with heap:=zh5 s.heap t1 t2 }):=
 .of_wp λprog w A R s h=>by
  obtain⟨hp,g,d,tk,os⟩:=s;obtain⟨hl1,hl2,h⟩:=h;have hsub:=sub_zip;have k1:QlQ (QlP ⟨hp,g,d,tk,os⟩) t1 xs:=hl1;have k2:QlQ (QlP ⟨hp.push { cls:=.type "tuple_iterator",data:=.fields #[.ref t1,.int 0 0] },g,d,tk,os⟩) t2 ys:=hl2.at λo e=>Qe _ e
  wp_walk using YU k1,YU k2
  exact⟨_,rfl,h⟩
section
variable{prog:QD}{w:Jl}{A:Je}{E:Value->Shared->Prop}{s:Shared}
theorem Qr4{t1 t2:Addr}{xs ys:Array Value}{Q:Value->Shared->Prop}(hl1:s.heap.IsTuple t1 xs)(hl2:s.heap.IsTuple t2 ys)
  (h:∀h',QoQ h' (s.heap.objs.size+4) (s.heap.objs.size+2) (s.heap.objs.size+3) s.heap.objs.size (s.heap.objs.size+1) t1 t2 .none 0->(∀c o,s.heap.get? c=some o->h'.get? c=some o)->Q (.ref (s.heap.objs.size+4)) { s with heap:=h' }) :
  wpAny (model prog w) A (call (.type "zip") [.ref t1,.ref t2]) Q E s:=by
 refine callType_new F.called_zip (by decide) (F.typeCall_zip_2 _ _) (F.newCall_zip_2 _ _) (λobj=>F.args_object_init_3 obj _ _) F.entry_zip_new (QCH t1 t2 xs ys) ⟨hl1,hl2,?_⟩;have z1:(zh1 s.heap t1).objs.size=s.heap.objs.size+1:=ZK ..;have z2:(zh2 s.heap t1 t2).objs.size=s.heap.objs.size+2:=by rw[ZK,z1]
 have z3:(zh3 s.heap t1 t2).objs.size=s.heap.objs.size+3:=by rw[ZK,z2]
 have z4:(zh4 s.heap t1 t2).objs.size=s.heap.objs.size+4:=by rw[ZK,z3]
 have g5:(zh5 s.heap t1 t2).get? (zh4 s.heap t1 t2).objs.size=some _:=Qw _ rfl;have g4:(zh5 s.heap t1 t2).get? (zh3 s.heap t1 t2).objs.size=some _:=Qe _ (Qw _ rfl);have g3:(zh5 s.heap t1 t2).get? (zh2 s.heap t1 t2).objs.size=some _:=Qe _ (Qe _ (Qw _ rfl));have g2:(zh5 s.heap t1 t2).get? (zh1 s.heap t1).objs.size=some _:=Qe _ (Qe _ (Qe _ (Qw _ rfl)));have g1:(zh5 s.heap t1 t2).get? s.heap.objs.size=some _:=Qe _ (Qe _ (Qe _ (Qe _ (Qw _ rfl))));show _/\_;rw[z2,z3,z4] at g5;rw[z1,z2] at g3;rw[z3] at g4;rw[z1] at g2;rw[z4];exact⟨⟨_,g5,rfl⟩,h _ ⟨g5,g3,⟨_,_,g4⟩,⟨_,g1,rfl,rfl⟩,⟨_,g2,rfl,rfl⟩⟩ λc o x=>Qe _ (Qe _ (Qe _ (Qe _ (Qe _ x))))⟩
end
end Rz
namespace L2
section
variable{X:Cx}{pins:List (Addr×Obj)}{σ:St}{H:Hp}{s:Shared}{h':Heap}
theorem Inv.turnedNew{t':Nat}{ch:List Addr}{a:Addr}{o:HO}(I:Inv X pins σ H s)(hch:∀b∈ch,FpOk X pins H b)(k:∀b u,b∉ch->s.heap.get? b=some u->h'.get? b=some u)(hp:s.heap.objs.size<=a)
  (new:ObjOk X.prog X.w (upd H a o) h' a o):Inv X pins σ (upd H a o) { s with heap:=h',toks:=t' }:=by
 have hn:H a=none:=I.hok.fresh hp;have nch:∀b u,H b=some u->b∉ch:=λb u e z=>by rw[(hch b z).1] at e;cases e
 refine I.step (g':=s.gens) (d':=s.drawn) (ch:=ch) (λb hb=>?_) (λb u _ _ hc e _=>k b u hc e) (λb u _ _ hc e _=>⟨u.slots,k b u hc e⟩) (λb u hc e n=>?_) (λb u hc e=>⟨u,k b u hc e⟩)
  (λb xs e=>by rw[JY (Zl e hn)];exact e) (λb u v e=>by rw[JY (Zl e hn)];exact e) (λb ps e=>⟨#[],by rw[JY (Zl e hn),e];simp⟩) (λm hm=>?_) (λb u e=>?_) I.bare
 ·obtain⟨f0,f1,f2,f3,f4,f5⟩:=hch b hb;exact⟨f3,f1,f4,f5⟩
 ·rw[JY (QH (QY (Qp e) hp))];exact n
 ·obtain⟨u,es,ep,ho,r⟩:=hm;exact⟨u,es,ep,k _ u (λz=>(hch _ z).2.1 rfl) ho,r⟩
 ·by_cases hb:b=a
  ·subst hb;rw[JN] at e;cases e;exact new
  ·rw[JY hb] at e;refine(I.hok b u e).stay (λc v hc q=>k c v ?_ q) (λc q=>by rw[JY (Zl q hn)];exact q) λc xs q=>by rw[JY (Zl q hn)];exact q
   rcases hc with z | z
   ·rw[z];exact nch b u e
   ·exact nch c _ z
theorem Inv.turnedAll{t':Nat}{ch:List Addr}(I:Inv X pins σ H s)(hch:∀b∈ch,FpOk X pins H b)(k:∀b u,b∉ch->s.heap.get? b=some u->h'.get? b=some u):Inv X pins σ H { s with heap:=h',toks:=t' }:=by
 have nch:∀b u,H b=some u->b∉ch:=λb u e z=>by rw[(hch b z).1] at e;cases e
 refine I.step (g':=s.gens) (d':=s.drawn) (ch:=ch) (λb hb=>?_) (λb u _ _ hc e _=>k b u hc e) (λb u _ _ hc e _=>⟨u.slots,k b u hc e⟩) (λb u hc e n=>n) (λb u hc e=>⟨u,k b u hc e⟩)
  (λb xs e=>e) (λb u v e=>e) (λb ps e=>⟨#[],by rw[e];simp⟩) (λm hm=>?_) (λb u e=>?_) I.bare
 ·obtain⟨f0,f1,f2,f3,f4,f5⟩:=hch b hb;exact⟨f3,f1,f4,f5⟩
 ·obtain⟨u,es,ep,ho,r⟩:=hm;exact⟨u,es,ep,k _ u (λz=>(hch _ z).2.1 rfl) ho,r⟩
 ·refine(I.hok b u e).stay (λc v hc q=>k c v ?_ q) (λc q=>q) λc xs q=>q
  rcases hc with z | z
  ·rw[z];exact nch b u e
  ·exact nch c _ z
end
def Itz(t1 t2:Addr):It:=
 ⟨λi H=>∃xs ys x y,H t1=some (.tup xs)/\H t2=some (.tup ys)/\xs[i]? = some x/\ys[i]? = some y,
  λi H v H'=>∃p x y,H p=none/\(∀xs,H t1=some (.tup xs)->xs[i]? = some x)/\(∀ys,H t2=some (.tup ys)->ys[i]? = some y)/\v=.ref p/\H'=upd H p (.tup [x,y]),
  λi H=>∃xs ys,H t1=some (.tup xs)/\H t2=some (.tup ys)/\(xs.length<=i∨ys.length<=i)⟩
theorem Qpg{P:QD}{w:Jl}{K:PySem.W.Frag}{elts:List Q2}{x1}{tpos:Pos}{z TI TO i1 i2 t1 t2:Addr}(D:Rz.Apart z TI TO i1 i2 t1 t2) :
  Turn P w K (.Tuple elts x1 tpos) (Itz t1 t2) [z,TI,TO,i1,i2] z (λi h=>Rz.QoQ h z TI TO i1 i2 t1 t2 .none i) where
 mem:=by simp
 obj:=λi h st b hb=>by
  obtain⟨a1,a2,⟨_,_,a3⟩,⟨o4,a4,_,d4⟩,⟨o5,a5,_,d5⟩⟩:=st;simp only[Qr,Q6,or_false] at hb;rcases hb with rfl | rfl | rfl | rfl | rfl
  ·exact⟨_,a1,λv q=>nomatch q⟩
  ·exact⟨_,a2,λv q=>nomatch q⟩
  ·exact⟨_,a3,λv q=>nomatch q⟩
  ·exact⟨_,a4,λv q=>by rw[d4] at q;cases q⟩
  ·exact⟨_,a5,λv q=>by rw[d5] at q;cases q⟩
 keep:=λi h h' st k=>by
  obtain⟨a1,a2,⟨a,b,a3⟩,a4,a5⟩:=st;exact⟨k z (by simp) _ a1,k TI (by simp) _ a2,⟨a,b,k TO (by simp) _ a3⟩,a4.at λo e=>k i1 (by simp) o e,a5.at λo e=>k i2 (by simp) o e⟩
 item:=by
  intro X hP hw hK hc i pins s σ H E I hf st hg;subst hP hw hK;obtain⟨xs,ys,x,y,h1,h2,hx,hy⟩:=hg;obtain⟨its1,r1,p1,_⟩:=I.tuple (SqT.of h1);obtain⟨its2,r2,p2,_⟩:=I.tuple (SqT.of h2);obtain⟨u1,hu1,ru1⟩:=r1.get hx;obtain⟨u2,hu2,ru2⟩:=r2.get hy;refine Rz.Qnf D st (show s.heap.IsTuple t1 its1.toArray from p1) (show s.heap.IsTuple t2 its2.toArray from p2) (by simpa using hu1) (by simpa using hu2) λh' st' tp kp=>?_
  have hlt:∀b∈[z,TI,TO,i1,i2],b≠s.heap.objs.size:=λb hb=>by
   obtain⟨a1,a2,⟨_,_,a3⟩,⟨o4,a4,_,d4⟩,⟨o5,a5,_,d5⟩⟩:=st;simp only[Qr,Q6,or_false] at hb;rcases hb with rfl | rfl | rfl | rfl | rfl
   ·exact QH (Qp a1)
   ·exact QH (Qp a2)
   ·exact QH (Qp a3)
   ·exact QH (Qp a4)
   ·exact QH (Qp a5)
  have fr:H s.heap.objs.size=none:=I.hok.fresh (Qj _);refine⟨_,rfl,QlT st'.zp λh2' z2 s2=>?_⟩;have I1:Inv X pins σ (upd H s.heap.objs.size (.tup [x,y])) { s with heap:=h2',toks:=s.toks }:=by
   refine I.turnedNew (ch:=[z,TI,TO,i1,i2]) hf (λb u hb e=>?_) (Qj _) ⟨by show 2<=sizeLine;decide,[u1,u2],.cons ru1 (.cons ru2 .nil),?_⟩
   ·simp only[Qr,Q6,or_false,not_or] at hb;exact s2.extBut _ _ hb.1 (kp b u hb.1 hb.2.2.1 hb.2.2.2.1 hb.2.2.2.2 e)
   ·exact⟨_,s2.extBut _ _ (hlt z (by simp)).symm tp,rfl,0,rfl⟩
  refine⟨.ref s.heap.objs.size,_,I1,rfl,⟨_,x,y,fr,λxs' e=>?_,λys' e=>?_,rfl,rfl⟩,?_,λb hb=>?_⟩
  ·rw[h1] at e;cases e;exact hx
  ·rw[h2] at e;cases e;exact hy
  ·obtain⟨a1,a2,⟨a,b,a3⟩,a4,a5⟩:=st';exact⟨z2,s2.extBut _ _ D.a1 a2,⟨a,b,s2.extBut _ _ D.a2 a3⟩,a4.extBut s2.extBut D.a3,a5.extBut s2.extBut D.a4⟩
  ·rw[JY (hlt b hb)];exact(hf b hb).1
 done:=by
  intro X hP hw hK hc i pins s σ H E I hf st hg;subst hP hw hK;obtain⟨xs,ys,h1,h2,he⟩:=hg;obtain⟨its1,r1,p1,_⟩:=I.tuple (SqT.of h1);obtain⟨its2,r2,p2,_⟩:=I.tuple (SqT.of h2);have l1:=r1.length;have l2:=r2.length;refine Rz.Qrt (I.ok.hd hc) D st (show s.heap.IsTuple t1 its1.toArray from p1) (show s.heap.IsTuple t2 its2.toArray from p2) ?_ λh' kp=>⟨rfl,I.turnedAll (t':=s.toks) (ch:=[z,TI,TO,i1,i2]) hf λb u hb e=>?_⟩
  ·rcases he with q | q
   ·exact .inl (by simp;omega)
   ·exact .inr (by simp;omega)
  ·simp only[Qr,Q6,or_false,not_or] at hb;exact kp b u hb.1 hb.2.2.1 hb.2.2.2.1 hb.2.2.2.2 e
 self:=λ_ _ _ _ _ st h=>Qdw st.zp h
section
variable{X:Cx}
theorem apart_new(n t1 t2:Nat)(h1:t1<n)(h2:t2<n):Rz.Apart (n+4) (n+2) (n+3) n (n+1) t1 t2 where
 a1:=by show ¬(n+2=n+4);omega
 a2:=by show ¬(n+3=n+4);omega
 a3:=by show ¬(n=n+4);omega
 a4:=by show ¬(n+1=n+4);omega
 a5:=by show ¬(n+2=n+3);omega
 a6:=by show ¬(n+2=n);omega
 a7:=by show ¬(n+2=n+1);omega
 a8:=by show ¬(n+3=n);omega
 a9:=by show ¬(n+3=n+1);omega
 b1:=by show ¬(n=n+1);omega
 b2:=⟨by show ¬(t1=n+4);omega,by show ¬(t1=n+3);omega,by show ¬(t1=n);omega,by show ¬(t1=n+1);omega⟩
 b3:=⟨by show ¬(t2=n+4);omega,by show ¬(t2=n+3);omega,by show ¬(t2=n);omega,by show ¬(t2=n+1);omega⟩
def QCK(ta:TA):TI:=λσ H R=>ta σ H λvs H1=>∃t1 t2 xs ys,vs=[.ref t1,.ref t2]/\H1 t1=some (.tup xs)/\H1 t2=some (.tup ys)/\R (Itz t1 t2) H1
theorem QoB:bootBuiltins "zip" = some (.type "zip"):=by decide +kernel
theorem QxE{a b:Q2}{elts:List Q2}{x1}{tpos:Pos}{ta:TA}{p pos:Pos}(hg:Gl X "zip")(hm:X.mg "zip" = none)(ha:PA X [a,b] ta)(hs:starEach [a,b] X.env=[(false,eval a X.env),(false,eval b X.env)]:=by rfl)(hs2:starEach [b] X.env=[(false,eval b X.env)]:=by rfl) :
  PI X (.Tuple elts x1 tpos) (.Call (.Name "zip" p) [a,b] [] pos) (QCK ta):=by
 intro pins s σ H R I h;refine Call_ (QcN I hg hm QoB (JH (thn (ha pos pins s σ H _ I h) λus s1 ⟨vs,H1,I1,r1,q1⟩=>?_) (by rw[hs,hs2]) (by rw[hs2];rfl)));obtain⟨t1,t2,xs,ys,e,h1,h2,q⟩:=q1;subst e;obtain⟨u,v,rfl,ru,rv⟩:=vals2 r1;cases(show u=QU t1 from ru);cases(show v=QU t2 from rv);obtain⟨its1,w1,p1,_⟩:=I1.tuple (SqT.of h1);obtain⟨its2,w2,p2,_⟩:=I1.tuple (SqT.of h2);have n1:t1<s1.heap.objs.size:=I1.hok.lt h1;have n2:t2<s1.heap.objs.size:=I1.hok.lt h2;refine Rz.Qr4 (show s1.heap.IsTuple t1 its1.toArray from p1) (show s1.heap.IsTuple t2 its2.toArray from p2) λh' st kp=>?_
 refine Qdw (s:={ s1 with heap:=h' }) st.zp ?_
 have D:=apart_new s1.heap.objs.size t1 t2 n1 n2;refine⟨s1.heap.objs.size+4,_,_,_,H1,rfl,I1.kept (t':=s1.toks) kp,Qpg D,st,λb hb=>?_,q⟩;have hb':s1.heap.objs.size<=b:=by
  simp only[Qr,Q6,or_false] at hb;rcases hb with rfl | rfl | rfl | rfl | rfl<;>omega
 exact I1.fpOk hb' (I1.hok.fresh hb')
end
end L2
namespace Rk
open L2
def QBA:Option HO->Option (List V)
 |some (.tup xs)=>some xs
 |_=>none
def Qgf(H:Hp):V->Option (List V)
 |.ref a=>QBA (H a)
 |_=>none
theorem QjI(H:Hp)(a:Addr):Qgf H (.ref a)=QBA (H a):=rfl
def isT(H:Hp)(x:V):Bool:=(Qgf H x).isSome
def Kn(p:Addr)(H:Hp):V->Prop
 |.non=>True
 |.bl _=>True
 |.int _=>True
 |.str _=>True
 |.ref a=>a≠p/\((∃xs,H a=some (.tup xs))∨(∃xs,H a=some (.lst xs))∨∃kvs,H a=some (.dK kvs))
 |_=>False
def KnD(p:Addr):Nat->Hp->V->Prop
 |0,H,x=>Kn p H x
 |n+1,H,x=>Kn p H x/\∀xs,Qgf H x=some xs->∀y∈xs,KnD p n H y
def KX(p:Addr)(H H':Hp):Prop:=∀b o,b≠p->H b=some o->H' b=some o
theorem KX.refl(p:Addr)(H:Hp):KX p H H:=λ_ _ _ e=>e
theorem KX.of{p:Addr}{H H':Hp}(h:Same H H'):KX p H H':=λb o _ e=>h b o e
theorem KX.new{p q:Addr}{H:Hp}{o:HO}(h:H q=none):KX p H (L2.upd H q o):=KX.of (JS h)
theorem KnD.kn{p:Addr}{H:Hp}{x:V}:∀{n:Nat},KnD p n H x->Kn p H x
 |0,h=>h
 |_+1,h=>h.1
theorem KnD.low{p:Addr}{H:Hp}:∀{n:Nat}{x:V},KnD p (n+1) H x->KnD p n H x
 |0,x,h=>h.1
 |n+1,x,h=>⟨h.1,λxs e y hy=>KnD.low (h.2 xs e y hy)⟩
theorem KnD.tup{p:Addr}{H:Hp}{n:Nat}{a:Addr}{xs:List V}(hp:a≠p)(e:H a=some (.tup xs))(h:∀y∈xs,KnD p n H y):KnD p (n+1) H (.ref a):=
 ⟨⟨hp,.inl ⟨xs,e⟩⟩,λys z y hy=>h y (by
  have z':some xs=some ys:=by rw[<- z,QjI,e];rfl
  cases z';exact hy)⟩
theorem KnD.int{p:Addr}{H:Hp}(i:Int):∀(n:Nat),KnD p n H (.int i)
 |0=>trivial
 |n+1=>⟨trivial,λ_ e=>nomatch e⟩
theorem Qhq{H:Hp}{a:Addr}{xs:List V}(e:H a=some (.tup xs)):Qgf H (.ref a)=some xs:=by rw[QjI,e];rfl
def QsW(H:Hp)(x:V):List Int:=((Qgf H x).getD []).map λy=>match y with
 |.int i=>i
 |_=>0
def IntsT(H:Hp)(x:V)(ns:List Int):Prop:=∃a,x=.ref a/\H a=some (.tup (ns.map V.int))
theorem IntsT.eq{H:Hp}{x:V}{ns:List Int}(h:IntsT H x ns):QsW H x=ns:=by
 obtain⟨a,rfl,e⟩:=h;unfold QsW;rw[Qhq e];show(ns.map V.int).map _=ns;rw[QN];exact QaE _
theorem Qg0:bootBuiltins "isinstance" = some (.builtin "isinstance"):=by decide +kernel
theorem Qtb:bootBuiltins "int" = some (.type "int"):=by decide +kernel
theorem Qv7:bootBuiltins "bool" = some (.type "bool"):=by decide +kernel
theorem QeH:bootBuiltins "tuple" = some (.type "tuple"):=by decide +kernel
theorem Qv6:bootBuiltins "list" = some (.type "list"):=by decide +kernel
theorem Qoz:bootBuiltins "all" = some (.builtin "all"):=by decide +kernel
theorem Qdu:bootBuiltins "len" = some (.builtin "len"):=by decide +kernel
theorem Qta:bootBuiltins "max" = some (.builtin "max"):=by decide +kernel
theorem Qoy:bootBuiltins "min" = some (.builtin "min"):=by decide +kernel
end Rk
namespace L2
theorem Qd1{J:It}{body:V->Hp->(Hp->Prop)->Prop}{Qn:Hp->Prop}{H:Hp}(n:Nat)(Pv:Nat->Hp->Prop)(h0:Pv 0 H)
  (hs:∀i H2,i<n->Pv i H2->J.go i H2/\∀x H3,J.yld i H2 x H3->∀k:Hp->Prop,(∀H6,Pv (i+1) H6->k H6)->body x H3 k)(hd:∀H2,Pv n H2->J.stop n H2/\Qn H2):Qhr J body Qn H:=by
 refine⟨λi m H=>m=n - i/\i<=n/\Pv i H,⟨n,by simp,Qt _,h0⟩,?_⟩;rintro i m H2 ⟨rfl,hi,p⟩;by_cases hlt:i<n
 ·obtain⟨go,st⟩:=hs i H2 hlt p;exact .inr ⟨go,λx H3 y=>st x H3 y _ λH6 p6=>⟨n - (i+1),by omega,rfl,hlt,p6⟩⟩
 ·have e:i=n:=by omega
  subst e;exact .inl (hd H2 p)
end L2
namespace Rk
open L2
theorem range_getD{α:Type}(L:List α)(d:α):(Qk L.length).map (λi=>L.getD i d)=L:=by
 refine Yi λi=>?_
 rw[Qq];by_cases hi:i<L.length
 ·rw[Ju hi];show some (L.getD i d)=L[i]?;rw[Qh,Qf hi];rfl
 ·have h1:(Qk L.length)[i]? = none:=Q1 (by rw[Qz];omega);have h2:L[i]? = none:=Q1 (by omega);rw[h1,h2];rfl
def Qdj(K:PySem.W.Frag):Sp:=λvs H Q _=>∃a ns k,vs=[.ref a,.int k]/\SqL K H a ((ns:List Int).map V.int)/\ns.length<2^20/\0<=k/\∀c,Q (.int c) H
def Qw3:Sp:=λvs H Q _=>∃c,vs=[.int c]/\∀p n,H p=none->Q (.ref p) (upd H p (.lst [.int n]))
def Cs(p:Addr)(H:Hp):List V->List (Int×Int)->Prop:=QaY λx ij=>∃d,d≠p/\x=.ref d/\H d=some (.tup [.int ij.1,.int ij.2])
theorem Cs.mem{p:Addr}{H:Hp}:∀{ps:List V}{L:List (Int×Int)},Cs p H ps L->∀x∈ps,∃ij∈L,∃d,d≠p/\x=.ref d/\H d=some (.tup [.int ij.1,.int ij.2])
 |_,_,.nil,x,h=>nomatch h
 |_,_,.cons r t,x,h=>by
  rcases Qr.mp h with e | e
  ·subst e;exact⟨_,JM,r⟩
  ·obtain⟨ij,m,q⟩:=Cs.mem t x e;exact⟨ij,Q7 _ m,q⟩
def Qzo(a b:Int×Int):Prop:=a.1<b.1∨(a.1=b.1/\a.2<b.2)
structure Good (h w:Int) (L:List (Int×Int)):Prop where
 asc:L.Pairwise Qzo
 ins:∀x∈L,0<=x.1/\x.1<h/\0<=x.2/\x.2<w
 len:L.length<=36
theorem Qku(x:Int){m:Int}(h:0<m):0<=x % m/\x % m<m:=⟨QwK _ (by omega),Qsq _ h⟩
def notStar:Q2->Bool
 |.Starred _ _=>false
 |_=>true
theorem Yc{e:Q2}{es:List Q2}{env:Env}(h:notStar e=true):starEach (e::es) env=(false,eval e env)::starEach es env:=by
 cases e<;>first | rfl | cases h
section
variable{X:Cx}
theorem Qfj{e:Q2}{es:List Q2}{te:TE}{t:TA}(ha:PE X e te)(hr:PA X es t)(hs:notStar e=true:=by rfl):PA X (e::es) (Qfr te t):=QaC ha hr (Yc hs)
inductive PEs (X:Cx):List Q2->List TE->Prop
 |nil:PEs X [] []
 |cons {e es te ts}:PE X e te->notStar e=true->PEs X es ts->PEs X (e::es) (te::ts)
def QBE:List TE->TA
 |[]=>Qwp
 |t::ts=>Qfr t (QBE ts)
theorem PEs.pa{es:List Q2}{ts:List TE}(h:PEs X es ts):PA X es (QBE ts):=by
 induction h with
 |nil=>exact Yk
 |cons a s _ ih=>exact Qfj a ih s
end
def Sm(H:Hp)(x:V):Prop:=∀ps,Qgf H x=some ps->ps.length<sizeLine
def Part(p:Addr)(H:Hp)(x:V):Prop:=KnD p 2 H x/\Sm H x
def Thing(p:Addr)(H:Hp)(x:V):Prop:=KnD p 3 H x/\Sm H x/\∀xs,Qgf H x=some xs->∀y∈xs,Sm H y
theorem QwT{H:Hp}{a:Addr}{xs ys:List V}(e:H a=some (.tup xs))(z:Qgf H (.ref a)=some ys):ys=xs:=by
 rw[Qhq e] at z;cases z;rfl
theorem Part.tup{p:Addr}{H:Hp}{a:Addr}{xs:List V}(hp:a≠p)(e:H a=some (.tup xs))(hl:xs.length<sizeLine)(h:∀y∈xs,KnD p 1 H y):Part p H (.ref a):=
 ⟨KnD.tup hp e h,λps z=>by rw[QwT e z];exact hl⟩
theorem Thing.part{p:Addr}{H:Hp}{x:V}(h:Thing p H x):Part p H x:=⟨h.1.low,h.2.1⟩
theorem QyM{P:V->Prop}:∀y∈([]:List V),P y:=λ_ h=>nomatch h
theorem QnX{P:V->Prop}{a:V}{l:List V}(h:P a)(k:∀y∈l,P y):∀y∈a::l,P y:=λy hy=>by
 rcases Qr.mp hy with e | e
 ·subst e;exact h
 ·exact k y e
theorem Cs.kn{p:Addr}{H:Hp}{ps:List V}{L:List (Int×Int)}(h:Cs p H ps L):∀x∈ps,KnD p 1 H x:=λx hx=>by
 obtain⟨ij,_,d,n,rfl,e⟩:=h.mem x hx;exact KnD.tup n e (QnX (KnD.int _ 0) (QnX (KnD.int _ 0) QyM))
theorem Cs.part{p:Addr}{H:Hp}{c:Addr}{ps:List V}{L:List (Int×Int)}(n:c≠p)(e:H c=some (.tup ps))(hl:ps.length<sizeLine)(h:Cs p H ps L):Part p H (.ref c):=Part.tup n e hl h.kn
theorem Qce{n:Nat}(h:n<=1000):n<sizeLine:=YG h (by decide)
def Fine(p:Addr):Nat->Hp->V->Prop
 |0,H,x=>Kn p H x/\Sm H x
 |n+1,H,x=>Kn p H x/\Sm H x/\∀xs,Qgf H x=some xs->∀y∈xs,Fine p n H y
theorem Fine.kn{p:Addr}{H:Hp}{x:V}:∀{n:Nat},Fine p n H x->Kn p H x
 |0,h=>h.1
 |_+1,h=>h.1
theorem Fine.sm{p:Addr}{H:Hp}{x:V}:∀{n:Nat},Fine p n H x->Sm H x
 |0,h=>h.2
 |_+1,h=>h.2.1
theorem Fine.knd{p:Addr}{H:Hp}:∀{n:Nat}{x:V},Fine p n H x->KnD p n H x
 |0,_,h=>h.1
 |_+1,_,h=>⟨h.1,λxs e y hy=>(h.2.2 xs e y hy).knd⟩
theorem Fine.thing{p:Addr}{H:Hp}{x:V}(h:∀n,Fine p n H x):Thing p H x:=⟨(h 3).knd,(h 0).2,λxs e y hy=>((h 1).2.2 xs e y hy).2⟩
section
variable{X:Cx}
end
def QAl(t:TA):TE:=λσ H Q=>t σ H λxs H1=>xs.length<=1000/\∀a H2,Same H1 H2->H1 a=none->H2 a=some (.tup xs)->Q (.ref a) H2
def QAp(t:TA):TE:=λσ H Q=>t σ H λxs H1=>xs.length<=1000/\∀a H2,Same H1 H2->H1 a=none->H2 a=some (.lst xs)->Q (.ref a) H2
section
variable{X:Cx}
theorem Qum{es:List Q2}{t:TA}{x1}{pos:Pos}(h:PA X es t):PE X (.Tuple es x1 pos) (QAl t):=by
 intro pins s σ H Q I hq;refine wpAny_Tuple_spliced (thn (h pos pins s σ H _ I hq) λus s1 ⟨xs,H1,I1,r,z,q⟩=>⟨by rw[<- r.length];exact Z5 (Qce z),?_⟩);have hf:H1 s1.heap.objs.size=none:=I1.hok.fresh (Qj _);refine⟨.ref s1.heap.objs.size,upd H1 s1.heap.objs.size (.tup xs),I1.laid (t':=s1.toks) (λb u e=>Qe _ e) (Qj _) ?_,rfl,q _ _ (JS hf) hf JN⟩;exact⟨Z5 (Qce z),us,r,⟨_,Qw _ rfl,rfl,_,rfl⟩⟩
theorem Qun{es:List Q2}{t:TA}{pos:Pos}(h:PA X es t):PE X (.List es pos) (QAp t):=by
 intro pins s σ H Q I hq;refine Qzq (thn (h pos pins s σ H _ I hq) λus s1 ⟨xs,H1,I1,r,z,q⟩=>⟨by rw[<- r.length];exact Z5 (Qce z),?_⟩);have hf:H1 s1.heap.objs.size=none:=I1.hok.fresh (Qj _);refine⟨.ref s1.heap.objs.size,upd H1 s1.heap.objs.size (.lst xs),I1.laid (t':=s1.toks) (λb u e=>Qe _ e) (Qj _) ?_,rfl,q _ _ (JS hf) hf JN⟩;exact⟨Z5 (Qce z),us,0,r,Qw _ rfl⟩
end
def FineA(p:Addr)(H:Hp)(x:V):Prop:=∀n,Fine p n H x
theorem FineA.thing{p:Addr}{H:Hp}{x:V}(h:FineA p H x):Thing p H x:=Fine.thing h
theorem FineA.part{p:Addr}{H:Hp}{x:V}(h:FineA p H x):Part p H x:=(Fine.thing h).part
end Rk
namespace Rx
open PySem.Calls L2 PySem.W Builtin Builtin.ObjectAttr Builtin.Getset_descriptor
def ExAt(a C:Addr)(h:Heap):Prop:=∃o vs,h.get? a=some o/\o.cls=.ref C/\o.data=.fields vs
theorem ExAt.ty{M:QAa}{h:Heap}{a C:Addr}(x:ExAt a C h):Looks M h (typeOf (.ref a)) (.ref C):=by
 obtain⟨o,vs,e,c,_⟩:=x;exact c ▸ (Looks.ld e).andThen .now
section
variable{prog:QD}{w:Jl}{A:Je}{E:Value->Shared->Prop}{s:Shared}{K:PySem.W.Frag}{a C:Addr}
end
end Rx
namespace Rx
open PySem.Calls L2
section
variable{X:Cx}{E:XK}{C:Addr}{x:Str}{e0:Q2}{te:TE}{np cpos pos:Pos}
end
section
variable{X:Cx}{pins:List (Addr×Obj)}{σ:L2.St}{H:Hp}{s:Shared}
end
def XP(X:Cx)(pins:List (Addr×Obj))(Ex:L2.St->Addr->Hp->Prop)(e:Value)(s1:Shared):Prop:=
 ∃(σ:L2.St)(C:Addr)(H':Hp)(a t:Addr)(B:Heap),e=.ref a/\Heap.FlyingW B X.stack a (.ref C) (.ref t) s1.heap/\H' a=none/\X.s₀.heap.get? a=none/\(∀p∈X.pn++pins,p.1≠a) /\
  (∀(h2:Heap)(tk:Nat),B.StaysIn h2->s1.heap.UpToSlots h2->Inv X pins σ H' { s1 with heap:=h2,toks:=tk })/\Ex σ C H'
section
variable{X:Cx}{k:Nat}{f:Addr}{fd:Jc}{ps:List Str}{sp:Sp}{x:Str}{p pos:Pos}{e:Q2}{es:List Q2}{t:TA}
end
section
variable{X:Cx}{R:Addr}{i:Nat}{n r:Str}{call hx:Q2}{tc:TX}{th:TE}{rp np hp hpos pos:Pos}
end
section
variable{P:QD}{w:Jl}{K:PySem.W.Frag}{mg:Str->Option Value}{base:Heap}
end
section
variable{X:Cx}{k:Nat}{f:Addr}{fd:Jc}{ps:List Str}{sp:Sp}{x:Str}{p pos:Pos}{e:Q2}{es:List Q2}{t:TA}
end
section
variable{X:Cx}
theorem bools_eq{bs:List Bool}{us:List Value}(r:Vals (bs.map V.bl) us):us=bs.map YO:=by
 induction bs generalizing us with
 |nil=>cases r;rfl
 |cons b bs ih=>
  cases r with
  |cons r t=>
   cases(show _=YO b from r);rw[ih t];rfl
def Qje:Value->Bool
 |.bool b=>b
 |_=>false
theorem QlD(bs:List Bool):(bs.map YO).countP Qje=bs.countP id:=by
 rw[Qhb];exact List.countP_congr λb _=>Iff.rfl
def Qt1:V->List V->Hp->VK->Prop:=λx vs H Q=>∃(l:Addr)(bs:List Bool),x=.ref l/\vs=[.bl true]/\H l=some (.lst (bs.map V.bl))/\Q (.int (bs.countP id:Nat)) H
theorem mt_count:MtR X "list.count" Qt1:=by
 intro pins s σ H x vs v us Q I rx rv h;obtain⟨l,bs,rfl,rfl,hH,q⟩:=h;cases rx;obtain⟨u,rfl,ru⟩:=rv.one;cases(show u=YO true from ru);obtain⟨z,its,n,r,hl,e⟩:=I.lstM hH;have hi:=bools_eq r;subst hi;refine QbJ QwL ⟨_,e,rfl⟩ Qwn (Qtw _ _) (QoT l (bs.map YO).toArray n none #[] (.bool true) Qje) ⟨e,λy hy=>?_,?_⟩
 ·obtain⟨b,_,rfl⟩:=Qx.mp (QcF.mp hy);have:=SeqAt.EqAt.bool_bool (A:=X.A.in1) (s:=s) b true;rw[show(b == true)=b by cases b<;>rfl] at this;exact this
 ·have e2:((bs.map YO).toArray.toList.countP Qje:Nat)=bs.countP id:=QlD bs;rw[e2];exact⟨.int (bs.countP id:Nat),H,I.tok _,⟨_,rfl⟩,q⟩
end
end Rx
namespace Rd
open L2
mutual
inductive Dat (H:Hp):V->Qa->Prop
 |non:Dat H .non .none
 |bl (b:Bool):Dat H (.bl b) (.bool b)
 |int (i:Int):Dat H (.int i) (.int i)
 |str (x:Str):Qg6 (.str x)=true->Dat H (.str x) (.str x)
 |tup {a:Addr} {xs:List V} {ds:List Qa}:H a=some (.tup xs)->Dats H xs ds->Dat H (.ref a) (.tuple ds)
 |lst {a:Addr} {xs:List V} {ds:List Qa}:H a=some (.lst xs)->Dats H xs ds->Dat H (.ref a) (.list ds)
inductive Dats (H:Hp):List V->List Qa->Prop
 |nil:Dats H [] []
 |cons {x:V} {xs:List V} {d:Qa} {ds:List Qa}:Dat H x d->Dats H xs ds->Dats H (x::xs) (d::ds)
end
mutual
theorem Qal{P:QD}{w:Jl}{H:Hp}{h:Heap}(ok:HOk P w H h):∀(d:Qa)(x:V)(v:Value),Dat H x d->RelV x v->(∃as,Qbn h v d as)/\d.canLay0=true
 |.none,_,v,.non,r=>by cases r;exact⟨⟨_,.none⟩,rfl⟩
 |.bool b,_,v,.bl _,r=>by cases r;exact⟨⟨_,.bool b⟩,rfl⟩
 |.int i,_,v,.int _,r=>by obtain⟨t,rfl⟩:=r;exact⟨⟨_,.int i t⟩,rfl⟩
 |.str z,_,v,.str _ c,r=>by obtain⟨t,rfl⟩:=r;exact⟨⟨_,.str z t⟩,c⟩
 |.tuple ds,_,v,.tup (a:=a) (xs:=xs) e q,r=>by
  cases r;obtain⟨_,its,rv,o,ho,hc,n,hd⟩:=ok a _ e;obtain⟨⟨as,ra⟩,cl⟩:=Qat ok ds xs its q rv;exact⟨⟨as,.tuple ho hc hd ra⟩,cl⟩
 |.list ds,_,v,.lst (a:=a) (xs:=xs) e q,r=>by
  cases r;obtain⟨_,its,n,rv,ho⟩:=ok a _ e;obtain⟨⟨as,ra⟩,cl⟩:=Qat ok ds xs its q rv;exact⟨⟨a::as,.list ho rfl rfl ra⟩,cl⟩
 |.dict _,_,_,q,_=>nomatch q
theorem Qat{P:QD}{w:Jl}{H:Hp}{h:Heap}(ok:HOk P w H h):∀(ds:List Qa)(xs:List V)(vs:List Value),Dats H xs ds->Vals xs vs->(∃as,YA h vs ds as)/\Ja ds=true
 |[],_,vs,.nil,r=>by cases r;exact⟨⟨_,.nil⟩,rfl⟩
 |d::ds,_,vs,.cons (x:=x) (xs:=xs) q qs,r=>by
  cases r with
  |cons r rs=>
   obtain⟨⟨a1,r1⟩,c1⟩:=Qal ok d x _ q r;obtain⟨⟨a2,r2⟩,c2⟩:=Qat ok ds xs _ qs rs;exact⟨⟨_,.cons r1 r2⟩,by simp[Ja,c1,c2]⟩
end
mutual
theorem QrV{H H':Hp}(s:Same H H'):∀(d:Qa)(x:V),Dat H x d->Dat H' x d
 |.none,_,.non=>.non
 |.bool _,_,.bl _=>.bl _
 |.int _,_,.int _=>.int _
 |.str _,_,.str _ c=>.str _ c
 |.tuple ds,_,.tup (xs:=xs) e q=>.tup (s _ _ e) (Qdr s ds xs q)
 |.list ds,_,.lst (xs:=xs) e q=>.lst (s _ _ e) (Qdr s ds xs q)
 |.dict _,_,q=>nomatch q
theorem Qdr{H H':Hp}(s:Same H H'):∀(ds:List Qa)(xs:List V),Dats H xs ds->Dats H' xs ds
 |[],_,.nil=>.nil
 |d::ds,_,.cons (x:=x) (xs:=xs) q qs=>.cons (QrV s d x q) (Qdr s ds xs qs)
end
theorem Dats.same{H H':Hp}{xs:List V}{ds:List Qa}(q:Dats H xs ds)(s:Same H H'):Dats H' xs ds:=Qdr s ds xs q
theorem Dats.length{H:Hp}:∀{xs:List V}{ds:List Qa},Dats H xs ds->xs.length=ds.length
 |_,_,.nil=>rfl
 |_,_,.cons _ q=>by rw[Qv,Qv,q.length]
theorem Dats.get{H:Hp}:∀{xs:List V}{ds:List Qa},Dats H xs ds->∀(i:Nat)(x:V),xs[i]? = some x->∃d,ds[i]? = some d/\Dat H x d
 |_,_,.nil,i,x,e=>by simp at e
 |_,_,.cons q qs,0,x,e=>by simp at e;subst e;exact⟨_,rfl,q⟩
 |_,_,.cons q qs,i+1,x,e=>qs.get i x (by simpa using e)
theorem Dats.app{H:Hp}:∀{xs ys:List V}{ds es:List Qa},Dats H xs ds->Dats H ys es->Dats H (xs++ys) (ds++es)
 |_,_,_,_,.nil,q=>q
 |_,_,_,_,.cons a b,q=>.cons a (b.app q)
section
variable{X:Cx}
def QCC(X:Cx):R2:=λx y H Q=>∃dx dy,Dat H x dx/\Dat H y dy/\X.A.units+min dx.depth dy.depth<cLine/\Q (.bl (QL dx dy)) H
theorem Qx9:OpR X (compareOp .Eq) (QCC X):=by
 intro pins s σ H x y v u Q I rx ry h;obtain⟨dx,dy,qx,qy,hu,q⟩:=h;obtain⟨⟨as,ra⟩,ca⟩:=Qal I.hok dx x v qx rx;obtain⟨⟨bs,rb⟩,cb⟩:=Qal I.hok dy y u qy ry;exact SeqAt.compareEq_reads ra rb ca cb hu ⟨.bl _,H,I,rfl,q⟩
open Classical in
noncomputable def eqH (h:Heap) (d:Qa) (y:Value):Bool:=decide (∃e as,Qbn h y e as/\e.canLay0=true/\QL e d=true)
open Classical in
theorem QBi{h:Heap}{d:Qa}{y:Value}(q:∃e as,Qbn h y e as/\e.canLay0=true/\QL e d=true):eqH h d y=true:=by
 unfold eqH;exact decide_eq_true q
open Classical in
theorem QBj{h:Heap}{d:Qa}{y:Value}(q:¬ ∃e as,Qbn h y e as/\e.canLay0=true/\QL e d=true):eqH h d y=false:=by
 unfold eqH;exact decide_eq_false q
theorem Qn2{h:Heap}{d e:Qa}{y:Value}{as:List Addr}(r:Qbn h y e as)(c:e.canLay0=true):eqH h d y=QL e d:=by
 cases q:QL e d with
 |true=>exact QBi ⟨e,as,r,c,q⟩
 |false=>
  refine QBj λ⟨e',as',r',c',q'⟩=>?_
  rw[<- QaX e e' y as as' c r r',q] at q';cases q'
theorem Qjr{h:Heap}{d:Qa}:∀{vs:List Value}{ds:List Qa}{as:List Addr},YA h vs ds as->Ja ds=true->vs.any (eqH h d)=ds.any λe=>QL e d
 |_,_,_,.nil,_=>rfl
 |_,_,_,.cons r rs,c=>by
  simp only[Ja,JR] at c;rw[Qzy,Qzy,Qn2 r c.1,Qjr rs c.2]
theorem QgD{A:Je}{s:Shared}{d:Qa}{v:Value}{bs:List Addr}(rv:Qbn s.heap v d bs)(cv:d.canLay0=true):∀{vs:List Value}{ds:List Qa}{as:List Addr},YA s.heap vs ds as->Ja ds=true->A.units+d.depth<cLine ->
  ∀u∈vs,SeqAt.EqAt A s u v (eqH s.heap d u)
 |_,_,_,.nil,_,_=>λu hu=>nomatch hu
 |_,_,_,.cons (d:=e) r rs,c,hu=>λu hm=>by
  simp only[Ja,JR] at c;rcases Qr.mp hm with z | z
  ·subst z;rw[Qn2 r c.1];exact Qfk e d A s _ v _ bs r rv c.1 cv (YG (Nat.add_le_add_left (Qf8 _ _) _) hu)
  ·exact QgD rv cv rs c.2 hu u z
def QCB(X:Cx)(neg:Bool):R2:=λx y H Q=>∃c ps ds d,y=.ref c/\H c=some (.tup ps)/\Dats H ps ds/\Dat H x d/\X.A.in1.units+d.depth<cLine/\Q (.bl (if neg then !(ds.any λe=>QL e d) else ds.any λe=>QL e d)) H
theorem Qm5:OpR X (compareOp .NotIn) (QCB X true):=by
 intro pins s σ H x y v u Q I rx ry h;obtain⟨c,ps,ds,d,rfl,hc,qs,qx,hu,q⟩:=h;cases ry;obtain⟨⟨as,ra⟩,ca⟩:=Qal I.hok d x v qx rx;obtain⟨_,its,rv,tp⟩:=I.hok c _ hc;obtain⟨⟨bs,rb⟩,cb⟩:=Qat I.hok ds ps its qs rv;refine SeqAt.notIn_tupleAt (eqH s.heap d) tp (λw hw=>QgD ra ca rb cb hu w (QcF.mp hw)) ⟨.bl _,H,I,rfl,?_⟩;rw[show its.toArray.any (eqH s.heap d)=its.any (eqH s.heap d) by simp,Qjr rb cb];exact q
end
section
variable{X:Cx}
end
end Rd
namespace L2
def Ite(l:Addr):It:=
 ⟨λi H=>∃xs x,H l=some (.lst xs)/\xs[i]? = some x,
  λi H v H'=>∃p x,H p=none/\(∀xs,H l=some (.lst xs)->xs[i]? = some x)/\v=.ref p/\H'=upd H p (.tup [.int (i:Nat),x]),
  λi H=>∃xs,H l=some (.lst xs)/\xs.length<=i⟩
theorem Qme{P:QD}{w:Jl}{K:PySem.W.Frag}{elts:List Q2}{x1}{tpos:Pos}{e it l:Addr}(hne:e≠it) :
  Turn P w K (.Tuple elts x1 tpos) (Ite l) [e,it] e (λi h=>(∃old,IsEnum h e it (i:Nat) old)/\h.IsListIter it l i) where
 mem:=by simp
 obj:=λi h st b hb=>by
  obtain⟨⟨old,a1⟩,⟨o2,a2,_,d2⟩⟩:=st;simp only[Qr,Q6,or_false] at hb;rcases hb with rfl | rfl
  ·exact⟨_,a1,λv q=>nomatch q⟩
  ·exact⟨_,a2,λv q=>by rw[d2] at q;cases q⟩
 keep:=λi h h' st k=>by
  obtain⟨⟨old,a1⟩,⟨o2,a2,c2⟩⟩:=st;exact⟨⟨old,k e (by simp) _ a1⟩,o2,k it (by simp) _ a2,c2⟩
 item:=by
  intro X hP hw hK hc i pins s σ H E I hf st hg;subst hP hw hK;obtain⟨xs,x,h1,hx⟩:=hg;obtain⟨⟨old,a1⟩,a2⟩:=st;obtain⟨its,r1,p1,_⟩:=I.list (SqL.of h1);obtain⟨u,hu,ru⟩:=r1.get hx;refine wpAny_pyNext_enum_item a1 a2 p1.isList (x:=u) (by simpa using hu) hne λh' o' l' tp sz kp=>?_
  have fr:H s.heap.objs.size=none:=I.hok.fresh (Qj _);have n1:e≠s.heap.objs.size:=QH (Qp a1);have n2:it≠s.heap.objs.size:=by
   obtain⟨o2,a2,_⟩:=a2;exact QH (Qp a2)
  refine⟨_,rfl,QlO o' λh2 e2 s2=>?_⟩;have I1:Inv X pins σ (upd H s.heap.objs.size (.tup [.int (i:Nat),x])) { s with heap:=h2,toks:=s.toks+1 }:=by
   refine I.turnedNew (ch:=[e,it]) hf (λb v hb q=>?_) (Qj _) ⟨by show 2<=sizeLine;decide,[.int (i:Nat) s.toks,u],.cons ⟨_,rfl⟩ (.cons ru .nil),?_⟩
   ·simp only[Qr,Q6,or_false,not_or] at hb;exact s2.extBut _ _ hb.1 (kp b v hb.1 hb.2 q)
   ·exact⟨_,s2.extBut _ _ n1.symm tp,rfl,0,rfl⟩
  refine⟨.ref s.heap.objs.size,_,I1,rfl,⟨_,x,fr,λxs' q=>?_,rfl,rfl⟩,⟨⟨u,e2⟩,?_⟩,λb hb=>?_⟩
  ·rw[h1] at q;cases q;exact hx
  ·exact l'.extBut s2.extBut hne.symm
  ·simp only[Qr,Q6,or_false] at hb;rcases hb with rfl | rfl
   ·rw[JY n1];exact(hf _ (by simp)).1
   ·rw[JY n2];exact(hf _ (by simp)).1
 done:=by
  intro X hP hw hK hc i pins s σ H E I hf st hg;subst hP hw hK;obtain⟨xs,h1,he⟩:=hg;obtain⟨⟨old,a1⟩,a2⟩:=st;obtain⟨its,r1,p1,_⟩:=I.list (SqL.of h1);have l1:=r1.length;refine wpAny_pyNext_enum_end (I.ok.hd hc) a1 a2 p1.isList (by simp;omega) λh' kp=>⟨rfl,I.turnedAll (t':=s.toks) (ch:=[e,it]) hf λb v hb q=>?_⟩
  simp only[Qr,Q6,or_false,not_or] at hb;exact kp b v hb.2 q
 self:=λ_ _ _ _ _ st h=>by
  obtain⟨⟨old,a1⟩,_⟩:=st;exact QcP a1 h
def QBa(ta:TA):TI:=λσ H R=>ta σ H λvs H1=>∃l xs,vs=[.ref l]/\H1 l=some (.lst xs)/\R (Ite l) H1
theorem Qic:bootBuiltins "enumerate" = some (.type "enumerate"):=by decide +kernel
section
variable{X:Cx}
theorem Quj{a:Q2}{elts:List Q2}{x1}{tpos:Pos}{ta:TA}{p pos:Pos}(hg:Gl X "enumerate")(hm:X.mg "enumerate" = none)(ha:PA X [a] ta)(hs:starEach [a] X.env=[(false,eval a X.env)]:=by rfl) :
  PI X (.Tuple elts x1 tpos) (.Call (.Name "enumerate" p) [a] [] pos) (QBa ta):=by
 intro pins s σ H R I h;refine Call_ (QcN I hg hm Qic (JH (thn (ha pos pins s σ H _ I h) λus s1 ⟨vs,H1,I1,r1,q1⟩=>?_) hs rfl));obtain⟨l,xs,e,h1,q⟩:=q1;subst e;obtain⟨u,rfl,ru⟩:=vals1 r1;cases(show u=QU l from ru);obtain⟨its,w1,p1,_⟩:=I1.list (SqL.of h1);refine call_enumerate_list p1.isList λh' e1 i1 sz kp=>?_
 refine QcP (s:={ s1 with heap:=h' }) e1 ?_
 refine⟨s1.heap.objs.size+1,_,_,_,H1,rfl,I1.kept (t':=s1.toks) kp,Qme (by show ¬(s1.heap.objs.size+1=s1.heap.objs.size);omega),⟨⟨_,e1⟩,i1⟩,λb hb=>?_,q⟩;have hb':s1.heap.objs.size<=b:=by
  simp only[Qr,Q6,or_false] at hb;rcases hb with rfl | rfl<;>omega
 exact I1.fpOk hb' (I1.hok.fresh hb')
end
section
variable{prog:QD}{w:Jl}{A:Je}{R:Qtk->Shared->Prop}{s:Shared}
theorem Qhx{elt tg iter:Q2}{ifs:List Q2}{g0:Qde}{scope:Y8}{pos:Pos}{it acc:Value}{env:Env}
  (h0:codeAny (model prog w) A (.compLoop (.ListComp elt [g0,⟨tg,iter,ifs,0⟩] scope pos) 1 it acc env) R s)
  (h:wpAny (model prog w) A (pyIter it) (λit' s'=>codeAny (model prog w) A (.compLoop (.ListComp elt [g0,⟨tg,iter,ifs,0⟩] scope pos) 1 it' acc env) R s') (notedBy (model prog w) A env λx s'=>R (.error x) s') s) :
  codeAny (model prog w) A (.compStart (.ListComp elt [g0,⟨tg,iter,ifs,0⟩] scope pos) 1 it acc env) R s:=by
 refine QkV ?_
 show wpAny _ _ ((compStart (.ListComp elt [g0,⟨tg,iter,ifs,0⟩] scope pos) 1 it acc env).onRaise (λx=>do noteFrame x env;standAt theWindowsPlace)) _ _ s;refine wpAny_notedAt ?_
 unfold compStart;show wpAny _ _ (ask >>= _) _ _ s;refine wpAny_bind (Z9 (wpAny_ite ?_));split
 ·first
   |exact wpAny_bind (wpAny_pure (wpAny_pure ⟨rfl,h0⟩))
   |exact wpAny_pure ⟨rfl,h0⟩
 ·first
   |exact wpAny_bind (wpAny_rule (wpAny_bind (wpAny_standAt (wpAny_bind (wpAny_mono h (λit' s' h'=>wpAny_pure ⟨rfl,h'⟩) λ_ _ x=>x)))))
   |exact wpAny_bind (wpAny_rule (wpAny_bind (wpAny_standAt (wpAny_bind (wpAny_mono h (λit' s' h'=>wpAny_pure (wpAny_pure ⟨rfl,h'⟩)) λ_ _ x=>x)))))
end
theorem Qmc{Y:Cx}{elt tg iter:Q2}{ifs:List Q2}{g0:Qde}{scope:Y8}{cpos:Pos}{it D:Addr}(Q:PySem.Fin->Shared->Prop)(E:Value->Shared->Prop)(s:Shared)
  (h:wpAny (model Y.prog Y.w) Y.A (pyNext (.ref it)) (λr s1=>match r with
   |none=>Q (.done .next) s1
   |some v=>wpAny (model Y.prog Y.w) Y.A (letOwnedTupleGo tg (.ref it) v) (λ_ s2=>QoM Y tg ifs (QoP Y elt D) v (λs3=>Q (.again (.compLoop (.ListComp elt [g0,⟨tg,iter,ifs,0⟩] scope cpos) 1 (.ref it) (.ref D) Y.env)) s3) s2) E s1) E s) :
  wpAny (model Y.prog Y.w) Y.A (compTurn (.ListComp elt [g0,⟨tg,iter,ifs,0⟩] scope cpos) 1 (.ref it) (.ref D) Y.env) Q E s:=by
 have e:compTurn (.ListComp elt [g0,⟨tg,iter,ifs,0⟩] scope cpos) 1 (.ref it) (.ref D) Y.env=(do
   standAt iter.pos
   match <- pyNext (.ref it) with
   |none=>pure (.done .next)
   |some v=>
    letOwnedTupleGo tg (.ref it) v
    assign tg Y.env v
    let mut ok:=true
    for c in ifs do
     if ok then ok <- isTrue c Y.env (eval c Y.env)
    if ok then
     (do let _ <- call (.builtin "list.append") [.ref D,<- eval elt Y.env])
    again (.compLoop (.ListComp elt [g0,⟨tg,iter,ifs,0⟩] scope cpos) 1 (.ref it) (.ref D) Y.env)):=by rfl
 rw[e];refine wpAny_bind (wpAny_standAt (wpAny_bind (thn h λr s1 h1=>?_)));cases r with
 |none=>exact wpAny_pure h1
 |some v=>
  refine wpAny_bind (thn h1 λ_ s2 h2=>?_);refine wpAny_bind (wpAny_mono h2 (λ_ s4 h4=>wpAny_bind (wpAny_mono h4 (λok s5 h5=>?_) λ_ _ f=>f.elim)) λ_ _ f=>f.elim);cases ok with
  |false=>exact wpAny_pure h5
  |true=>exact wpAny_bind (wpAny_bind (wpAny_mono h5 (λx s6 h6=>wpAny_bind (wpAny_mono h6 (λ_ s7 h7=>wpAny_pure (wpAny_pure h7)) λ_ _ f=>f.elim)) λ_ _ f=>f.elim))
def QoN(Y:Cx)(e:Q2)(iter:Q2)(D:Addr):Act:=λQ s=>wpAny (model Y.prog Y.w) Y.A (eval iter Y.env) (λx s1=>wpAny (model Y.prog Y.w) Y.A (pyIter x)
 (λitv s2=>codeAny (model Y.prog Y.w) Y.A (.compStart e 1 itv (.ref D) Y.env) (λr s3=>match r with | .ok _=>Q s3 | .error _=>False) s2) (λ_ _=>False) s1) (λ_ _=>False) s
def Qzg(wi:TI)(g:TG)(tc:TT)(p:Addr)(te:TE):St->Hp->(Hp->Prop)->Prop:=λσ H k=>wi σ H λJ H1=>Qhr J (bOf σ g tc (Qww p te)) k H1
theorem QoD{Y:Cx}{σ:St}{elt tg iter:Q2}{ifs:List Q2}{g0:Qde}{scope:Y8}{cpos:Pos}{D:Addr}{wi:TI}{g:TG}{tc:TT}{te:TE}(hx:Y.xe=λ_ _=>False)(hc:Y.calm=true)
  (hi:PI Y tg iter wi)(hg:PG Y tg g)(ht:PTs Y ifs tc)(he:PE Y elt te):BodyOk Y σ (QoN Y (.ListComp elt [g0,⟨tg,iter,ifs,0⟩] scope cpos) iter D) (Qzg wi g tc D te σ):=by
 intro pins s H k Q I h hQ;have hx':∀(v:Value)(s':Shared),Y.xe v s'->False:=λv s' z=>by rw[hx] at z;exact z
 refine wpAny_mono (hi pins s σ H _ I h) (λv s1 h1=>wpAny_mono h1 (λitv s2 h2=>?_) hx') hx';obtain⟨it,fp,tn,J,H2,e,I2,T,st2,f2,hW⟩:=h2;subst e;have loop:codeAny (model Y.prog Y.w) Y.A (.compLoop (.ListComp elt [g0,⟨tg,iter,ifs,0⟩] scope cpos) 1 (.ref it) (.ref D) Y.env) (λr s3=>match r with | .ok _=>Q s3 | .error _=>False) s2:=
  Qds (Y:=Y) (gens:=[g0,⟨tg,iter,ifs,0⟩]) (d:=1) hc T st2 f2 (λQ E s h=>Qmc Q E s h) (λx u r=>Qfi hx hg ht (λσ4=>Qg1 hx he) x u r) I2 hW λs' H' I' q=>hQ s' H' I' q
 exact Qhx loop (T.self _ 0 _ _ _ st2 loop)
theorem Qk5{Y:Cx}{elt tg iter tg2 iter2:Q2}{ifs ifs2:List Q2}{scope:Y8}{cpos:Pos}{it D:Addr}(hs:∀x,foldedSetIterable iter2 Y.env x=pure x)(Q:PySem.Fin->Shared->Prop)(E:Value->Shared->Prop)(s:Shared)
  (h:wpAny (model Y.prog Y.w) Y.A (pyNext (.ref it)) (λr s1=>match r with
   |none=>Q (.done .next) s1
   |some v=>wpAny (model Y.prog Y.w) Y.A (letOwnedTupleGo tg (.ref it) v) (λ_ s2=>QoM Y tg ifs (QoN Y (.ListComp elt [⟨tg,iter,ifs,0⟩,⟨tg2,iter2,ifs2,0⟩] scope cpos) iter2 D) v (λs3=>Q (.again (.compLoop (.ListComp elt [⟨tg,iter,ifs,0⟩,⟨tg2,iter2,ifs2,0⟩] scope cpos) 0 (.ref it) (.ref D) Y.env)) s3) s2) E s1) E s) :
  wpAny (model Y.prog Y.w) Y.A (compTurn (.ListComp elt [⟨tg,iter,ifs,0⟩,⟨tg2,iter2,ifs2,0⟩] scope cpos) 0 (.ref it) (.ref D) Y.env) Q E s:=by
 have e:compTurn (.ListComp elt [⟨tg,iter,ifs,0⟩,⟨tg2,iter2,ifs2,0⟩] scope cpos) 0 (.ref it) (.ref D) Y.env=(do
   standAt iter.pos
   match <- pyNext (.ref it) with
   |none=>pure (.done .next)
   |some v=>
    letOwnedTupleGo tg (.ref it) v
    assign tg Y.env v
    let mut ok:=true
    for c in ifs do
     if ok then ok <- isTrue c Y.env (eval c Y.env)
    if ok then
     let x <- eval iter2 Y.env
     standAt iter2.pos
     let x <- foldedSetIterable iter2 Y.env x
     let _ <- runOwn (.compStart (.ListComp elt [⟨tg,iter,ifs,0⟩,⟨tg2,iter2,ifs2,0⟩] scope cpos) 1 (<- holding [x] (pyIter x)) (.ref D) Y.env) Y.env
    again (.compLoop (.ListComp elt [⟨tg,iter,ifs,0⟩,⟨tg2,iter2,ifs2,0⟩] scope cpos) 0 (.ref it) (.ref D) Y.env)):=by rfl
 rw[e];refine wpAny_bind (wpAny_standAt (wpAny_bind (thn h λr s1 h1=>?_)));cases r with
 |none=>exact wpAny_pure h1
 |some v=>
  refine wpAny_bind (thn h1 λ_ s2 h2=>?_);refine wpAny_bind (wpAny_mono h2 (λ_ s4 h4=>wpAny_bind (wpAny_mono h4 (λok s5 h5=>?_) λ_ _ f=>f.elim)) λ_ _ f=>f.elim);cases ok with
  |false=>exact wpAny_pure h5
  |true=>
   refine wpAny_bind (wpAny_mono h5 (λx s6 h6=>wpAny_bind (wpAny_standAt ?_)) λ_ _ f=>f.elim);rw[hs x];refine wpAny_bind (wpAny_pure (wpAny_bind (Za (wpAny_mono h6 (λitv s7 h7=>?_) λ_ _ f=>f.elim))));refine wpAny_bind (wpAny_runOwn (h:=none) (Qil h7 λr s8 h8=>?_));cases r with
   |error z=>exact h8.elim
   |ok fl=>exact wpAny_pure h8
def Qsz(cap:List (Option Nat))(wi:TI)(g:TG)(tc:TT)(wi2:TI)(g2:TG)(tc2:TT)(te:TE):TE:=λσ H Q=>wi σ H λJ H1=>∀p,H1 p=none->Qhr J (bOf (QdF cap σ) g tc (Qzg wi2 g2 tc2 p te)) (Q (.ref p)) (upd H1 p (.lst []))
end L2
namespace Rk
open L2 Rd
def pairD(ij:Int×Int):Qa:=.tuple [.int ij.1,.int ij.2]
end Rk
namespace Rr
section
variable{prog:QD}{w:Jl}{A:Je}{E:Value->Shared->Prop}{s:Shared}
end
end Rr
namespace L2
def QwZ(ta:TA):TE:=λσ H Q=>ta σ H λvs H1=>∃j,vs=[.int j]/\∀r H2,Same H1 H2->H1 r=none->H2 r=some (.rng 0 j)->Q (.ref r) H2
section
variable{X:Cx}
theorem QpR{a:Q2}{ta:TA}{p pos:Pos}(hg:Gl X "range")(hm:X.mg "range" = none)(ha:PA X [a] ta)(hs:starEach [a] X.env=[(false,eval a X.env)]:=by rfl):PE X (.Call (.Name "range" p) [a] [] pos) (QwZ ta):=by
 intro pins s σ H Q I h;refine Qcn (QcN I hg hm boot_range ?_);refine JH (thn (ha pos pins s σ H _ I h) λus s1 ⟨vs,H1,I1,r1,q1⟩=>?_) hs rfl;obtain⟨j,e,q⟩:=q1;subst e;obtain⟨u,rfl,ru⟩:=vals1 r1;obtain⟨t,rfl⟩:=ru;refine call_range_1 ?_
 have hf:H1 s1.heap.objs.size=none:=I1.hok.fresh (Qj _);refine⟨.ref s1.heap.objs.size,upd H1 s1.heap.objs.size (.rng 0 j),I1.laid (t':=s1.toks+1+1) (λb u e=>Qe _ e) (Qj _) ⟨_,_,_,Qw _ rfl⟩,rfl,q _ _ (JS hf) hf JN⟩
end
end L2
namespace Rs
open PySem.W
def sp{α:Type}(n:Nat)(c:Nat->Nat->Bool):KasT α->(α->Prop)->Prop
 |.ret a,Q=>Q a
 |.ask i j f,Q=>i<n/\j<n/\sp n c (f (c i j)) Q
theorem QaS{α:Type}{n:Nat}{c:Nat->Nat->Bool}{Q Q':α->Prop}(h:∀a,Q a->Q' a):∀{t:KasT α},sp n c t Q->sp n c t Q'
 |.ret a,q=>h a q
 |.ask i j f,q=>⟨q.1,q.2.1,QaS h (t:=f (c i j)) q.2.2⟩
theorem QdN{α β:Type}{n:Nat}{c:Nat->Nat->Bool}{f:α->KasT β}{Q:β->Prop}:∀{t:KasT α},sp n c t (λa=>sp n c (f a) Q)->sp n c (t.bind f) Q
 |.ret a,q=>q
 |.ask i j g,q=>⟨q.1,q.2.1,QdN (t:=g (c i j)) q.2.2⟩
theorem QjF{α:Type}{n:Nat}{c:Nat->Nat->Bool}{cmp:Nat->Nat->(Bool->Shared->Prop)->Shared->Prop}{s:Shared}{Q:α->Shared->Prop}(hc:∀i j (C:Bool->Shared->Prop),i<n->j<n->C (c i j) s->cmp i j C s) :
  ∀{t:KasT α},sp n c t (λa=>Q a s)->t.kasWp cmp Q s
 |.ret a,q=>q
 |.ask i j f,q=>hc i j _ q.1 q.2.1 (QjF hc (t:=f (c i j)) q.2.2)
section
variable{n:Nat}{K:Nat->Int}
abbrev cK (K:Nat->Int) (i j:Nat):Bool:=decide (K i<K j)
structure Good (n:Nat) (p:Array Nat):Prop where
 perm:p.toList.Perm (Qk n)
theorem Good.size{p:Array Nat}(g:Good n p):p.size=n:=by
 have:=g.perm.length_eq;rw[Qz,Qd] at this;exact this
def at_(p:Array Nat)(i:Nat):Nat:=p.getD i 0
theorem QoH{p:Array Nat}{i:Nat}(h:i<p.size):p[i]? = some (at_ p i):=by
 unfold at_;rw[YK,QbC h];rfl
theorem Qr9{p q:Array Nat}{i j:Nat}(h:p[i]? = q[j]?):at_ p i=at_ q j:=by
 unfold at_;rw[YK,YK,h]
theorem Good.lt{p:Array Nat}(g:Good n p)(h0:0<n)(i:Nat):at_ p i<n:=by
 by_cases h:i<p.size
 ·have e:=QoH h;have m:at_ p i∈p.toList:=by
   have:=YJ e;exact ZI.mpr this
  exact QF.mp (g.perm.mem_iff.mp m)
 ·unfold at_;rw[YK,ZQ (by omega)];exact h0
theorem Good.inj{p:Array Nat}(g:Good n p){i j:Nat}(hi:i<n)(hj:j<n)(e:at_ p i=at_ p j):i=j:=by
 have nd:p.toList.Nodup:=g.perm.nodup_iff.mpr Qag;have hs:=g.size;have hi':i<p.toList.length:=by rw[Qd];omega
 have hj':j<p.toList.length:=by rw[Qd];omega
 have ei:p.toList[i]=at_ p i:=by
  have:=QoH (p:=p) (i:=i) (by omega);rw[QbC (by omega)] at this;rw[J8];exact Qu this
 have ej:p.toList[j]=at_ p j:=by
  have:=QoH (p:=p) (i:=j) (by omega);rw[QbC (by omega)] at this;rw[J8];exact Qu this
 have pw:=Jy.mp nd;rcases YY i j with h | h | h
 ·exact absurd (ei.trans (e.trans ej.symm)) (pw i j hi' hj' h)
 ·exact h
 ·exact absurd (ej.trans (e.symm.trans ei.symm)) (pw j i hj' hi' h)
def kk(K:Nat->Int)(p:Array Nat)(i:Nat):Int:=K (at_ p i)
def Adj(K:Nat->Int)(p:Array Nat)(m:Nat):Prop:=∀i,i+1<m->kk K p i<=kk K p (i+1)
def Dsc(K:Nat->Int)(p:Array Nat)(m:Nat):Prop:=∀i,i+1<m->kk K p (i+1)<kk K p i
theorem Adj.le{p:Array Nat}{m:Nat}(h:Adj K p m){i:Nat}:∀{j:Nat},i<=j->j<m->kk K p i<=kk K p j
 |0,hij,_=>by cases Nat.le_zero.mp hij;exact Qpb _
 |j+1,hij,hj=>by
  by_cases e:i=j+1
  ·rw[e];exact Qpb _
  ·exact QbO (h.le (i:=i) (j:=j) (by omega) (by omega)) (h j hj)
theorem QpE{p:Array Nat}(g:Good n p)(i j:Nat):Good n (kas_rev p i j):=⟨(Zs.mp (mirror_perm p i j _)).trans g.perm⟩
theorem QsH{p:Array Nat}{m k:Nat}(hm:m<=p.size)(hk:k<m):at_ (kas_rev p 0 m) k=at_ p (m - 1 - k):=by
 refine Qr9 ?_
 have:=QwA (xs:=p) (i:=0) (j:=m) hm k;rw[if_pos ⟨Qt _,hk⟩,JT] at this;exact this
theorem QtY{p:Array Nat}{m:Nat}(hm:m<=p.size)(d:Dsc K p m):Adj K (kas_rev p 0 m) m:=by
 intro i hi;unfold kk;rw[QsH hm (by omega),QsH hm hi];have:=d (m - 1 - (i+1)) (by omega);have e:m - 1 - (i+1)+1=m - 1 - i:=by omega
 rw[e] at this;exact Int.le_of_lt this
theorem Qmr{p:Array Nat}(g:Good n p)(h0:0<n):∀(f a:Nat),1<=a->Adj K p a ->
  sp n (cK K) (kas_asc p f a) (λm=>a<=m/\m<=a+f/\Adj K p m/\(m=a+f∨kk K p m<kk K p (m - 1)))
 |0,a,_,h=>⟨Qj _,Qj _,h,.inl rfl⟩
 |f+1,a,ha,h=>by
  refine⟨g.lt h0 a,g.lt h0 (a - 1),?_⟩;show sp n (cK K) (if decide (kk K p a<kk K p (a - 1))=true then .ret a else kas_asc p f (a+1)) _;by_cases e:kk K p a<kk K p (a - 1)
  ·rw[decide_eq_true e,if_pos rfl];exact⟨Qj _,Qwj _ _,h,.inr e⟩
  ·rw[decide_eq_false e,if_neg (by simp)];refine QaS ?_ (Qmr g h0 f (a+1) (by omega) ?_)
   ·rintro m ⟨h1,h2,h3,h4⟩;exact⟨by omega,by omega,h3,h4.imp (λq=>by omega) id⟩
   ·intro i hi;by_cases q:i+1<a
    ·exact h i q
    ·have e1:i=a - 1:=by omega
     have e2:i+1=a:=by omega
     rw[e2,e1];exact Int.not_lt.mp e
theorem Qyv(inj:∀i j,i<n->j<n->K i=K j->i=j){p:Array Nat}(g:Good n p){i j:Nat}(hi:i<n)(hj:j<n)(h:i≠j):kk K p i≠kk K p j:=
 λe=>h (g.inj hi hj (inj _ _ (g.lt (by omega) i) (g.lt (by omega) j) e))
theorem Qmq(inj:∀i j,i<n->j<n->K i=K j->i=j){p:Array Nat}(g:Good n p)(h0:0<n):∀(f a:Nat),1<=a->a+f<=n->Dsc K p a ->
  sp n (cK K) (kas_desc f p a 0) (λr=>r.1=p/\r.2.2=0/\a<=r.2.1/\r.2.1<=a+f/\Dsc K p r.2.1)
 |0,a,_,_,h=>⟨rfl,rfl,Qj _,Qj _,h⟩
 |f+1,a,ha,haf,h=>by
  refine⟨g.lt h0 a,g.lt h0 (a - 1),?_⟩;show sp n (cK K) (if decide (kk K p a<kk K p (a - 1))=true then(if 0 > 0 then kas_desc f (kas_rev p (a - (0+1)) a) (a+1) 0 else kas_desc f p (a+1) 0) else _) _;by_cases e:kk K p a<kk K p (a - 1)
  ·rw[decide_eq_true e,if_pos rfl,if_neg (by omega)];refine QaS ?_ (Qmq inj g h0 f (a+1) (by omega) (by omega) ?_)
   ·rintro r ⟨h1,h2,h3,h4,h5⟩;exact⟨h1,h2,by omega,by omega,h5⟩
   ·intro i hi;by_cases q:i+1<a
    ·exact h i q
    ·have e1:i=a - 1:=by omega
     have e2:i+1=a:=by omega
     rw[e2,e1];exact e
  ·rw[decide_eq_false e,if_neg (by simp)];refine⟨g.lt h0 (a - 1),g.lt h0 a,?_⟩;show sp n (cK K) (if decide (kk K p (a - 1)<kk K p a)=true then .ret (p,a,0) else _) _;have ne:=Qyv (K:=K) inj g (i:=a - 1) (j:=a) (by omega) (by omega) (by omega);rw[decide_eq_true (by omega),if_pos rfl];exact⟨rfl,rfl,Qj _,Qwj _ _,h⟩
def Run(K:Nat->Int)(n:Nat)(r:Nat×Array Nat):Prop:=Good n r.2/\1<=r.1/\r.1<=n/\Adj K r.2 r.1
theorem Qpo{p:Array Nat}(g:Good n p){m:Nat}(h1:1<=m)(hm:m<=n)(d:Dsc K p m):sp n (cK K) (kas_tail3 m n p) (Run K n):=by
 refine QdN ?_
 have hs:=g.size;have g':=QpE g 0 m;refine QaS ?_ (Qmr g' (by omega) (n - m) m h1 (QtY (by omega) d))
 rintro k ⟨a,b,c,_⟩;exact⟨g',by omega,by omega,c⟩
theorem QiP(inj:∀i j,i<n->j<n->K i=K j->i=j){p:Array Nat}(g:Good n p){m:Nat}(hm:m+1<=n)(d:Dsc K p (m+1)):sp n (cK K) (kas_descPart m n p) (Run K n):=by
 refine QdN ?_
 refine QaS ?_ (Qmq inj g (by omega) (n - (m+1)) (m+1) (by omega) (by omega) d)
 rintro⟨p',k,q⟩ ⟨e1,e2,h3,h4,h5⟩;have e1:p'=p:=e1;have e2:q=0:=e2;subst e1 e2;show sp n (cK K) (if 0 > 0 then _ else kas_tail3 k n p') _;rw[if_neg (by omega)];have h3:m+1<=k:=h3;have h4:k<=m+1+(n - (m+1)):=h4;exact Qpo g (by omega) (by omega) h5
theorem Qpp(inj:∀i j,i<n->j<n->K i=K j->i=j){p:Array Nat}(g:Good n p)(h0:0<n):sp n (cK K) (kas_count n p) (Run K n):=by
 refine QdN ?_
 refine QaS ?_ (Qmr g h0 (n - 1) 1 (Qj _) (λi hi=>by omega))
 rintro m ⟨h1,h2,h3,h4⟩;show sp n (cK K) (if(m == n)=true then .ret (m,p) else if m > 1 then _ else kas_descPart m n p) _;by_cases e:m=n
 ·rw[if_pos (beq_iff_eq.mpr e)];exact⟨g,h1,by omega,h3⟩
 ·rw[if_neg (λq=>e (beq_iff_eq.mp q))];by_cases e2:m > 1
  ·rw[if_pos e2];refine⟨g.lt h0 0,g.lt h0 (m - 1),?_⟩;show sp n (cK K) (if decide (kk K p 0<kk K p (m - 1))=true then .ret (m,p) else _) _;have le:=h3.le (i:=0) (j:=m - 1) (by omega) (by omega);have ne:=Qyv (K:=K) inj g (i:=0) (j:=m - 1) (by omega) (by omega) (by omega);rw[decide_eq_true (by omega),if_pos rfl];exact⟨g,h1,by omega,h3⟩
  ·rw[if_neg e2];have em:m=1:=by omega
   subst em;refine QiP inj g (by omega) λi hi=>?_
   have ei:i=0:=by omega
   subst ei;rcases h4 with q | q
   ·omega
   ·exact q
theorem Qgk{p:Array Nat}(g:Good n p)(h0:0<n){k:Nat}(A:Adj K p k):∀(f l r:Nat),l<=r->r<=k->r - l<=f->(∀i,i<l->kk K p i<=kk K p k)->(∀i,r<=i->i<k->kk K p k<kk K p i) ->
  sp n (cK K) (kas_place p k f l r) (λm=>m<=k/\(∀i,i<m->kk K p i<=kk K p k)/\∀i,m<=i->i<k->kk K p k<kk K p i)
 |0,l,r,h1,h2,h3,a,b=>⟨by omega,a,λi hi hk=>b i (by omega) hk⟩
 |f+1,l,r,h1,h2,h3,a,b=>by
  show sp n (cK K) (if l≥r then .ret l else _) _;by_cases e:l≥r
  ·rw[if_pos e];exact⟨by omega,a,λi hi hk=>b i (by omega) hk⟩
  ·rw[if_neg e];refine⟨g.lt h0 k,g.lt h0 ((l+r) / 2),?_⟩;show sp n (cK K) (if decide (kk K p k<kk K p ((l+r) / 2))=true then kas_place p k f l ((l+r) / 2) else kas_place p k f ((l+r) / 2+1) r) _;by_cases q:kk K p k<kk K p ((l+r) / 2)
   ·rw[decide_eq_true q,if_pos rfl];refine Qgk g h0 A f l ((l+r) / 2) (by omega) (by omega) (by omega) a λi hi hk=>?_
    exact Int.lt_of_lt_of_le q (A.le hi hk)
   ·rw[decide_eq_false q,if_neg (by simp)];refine Qgk g h0 A f ((l+r) / 2+1) r (by omega) h2 (by omega) (λi hi=>?_) b;exact QbO (A.le (i:=i) (j:=(l+r) / 2) (by omega) (by omega)) (Int.not_lt.mp q)
theorem QsB(h0:0<n):∀(f k:Nat){p:Array Nat},Good n p->k+f<=n->Adj K p k->sp n (cK K) (kas_bin f p k) (λp'=>Good n p'/\Adj K p' (k+f))
 |0,k,p,g,_,A=>⟨g,A⟩
 |f+1,k,p,g,hk,A=>by
  refine QdN ?_
  refine QaS ?_ (Qgk g h0 A k 0 k (Qt _) (Qj _) (by omega) (λi hi=>by omega) (λi hi hk=>by omega))
  rintro l ⟨hl,lo,hi⟩;have hs:=g.size;have bb:∀j,at_ (bubble p k (k - l)) j=if j=l then at_ p k else if l<j/\j<=k then at_ p (j - 1) else at_ p j:=by
   intro j;have:=getElem?_bubble (xs:=p) (src:=k) (by omega) (k - l) (by omega) j
   have e:k - (k - l)=l:=by omega
   rw[e] at this;split
   ·rename_i q;rw[if_pos q] at this;exact Qr9 this
   ·rename_i q
    rw[if_neg q] at this;split
    ·rename_i q2;rw[if_pos q2] at this;exact Qr9 this
    ·rename_i q2;rw[if_neg q2] at this;exact Qr9 this
  refine QaS ?_ (QsB h0 f (k+1) (p:=bubble p k (k - l)) ⟨(Zs.mp (bubble_perm p k (k - l))).trans g.perm⟩ (by omega) ?_)
  ·rintro p' ⟨a,b⟩;exact⟨a,by rw[show k+(f+1)=k+1+f by omega];exact b⟩
  ·intro i hik;unfold kk;rw[bb,bb];by_cases c1:i+1<l
   ·rw[if_neg (by omega),if_neg (by omega),if_neg (by omega),if_neg (by omega)];exact A i (by omega)
   ·by_cases c2:i+1=l
    ·rw[if_neg (by omega),if_neg (by omega),if_pos c2];exact lo i (by omega)
    ·by_cases c3:i=l
     ·rw[if_pos c3,if_neg (by omega),if_pos ⟨by omega,by omega⟩];exact Int.le_of_lt (hi (i+1 - 1) (by omega) (by omega))
     ·rw[if_neg c3,if_pos ⟨by omega,by omega⟩,if_neg (by omega),if_pos ⟨by omega,by omega⟩];have:=A (i - 1) (by omega);rw[show i - 1+1=i+1 - 1 by omega] at this;exact this
theorem QtM(inj:∀i j,i<n->j<n->K i=K j->i=j)(h0:0<n):sp n (cK K) (kas_sort n) (λp=>Good n p/\Adj K p n):=by
 have g:Good n (Z3 (Qk n)):=⟨ZV _⟩;refine QdN ?_
 refine QaS ?_ (Qpp inj g h0)
 rintro⟨m,p⟩ ⟨g',h1,h2,A⟩;show sp n (cK K) (if m<n then kas_bin (n - max m 1) p (max m 1) else .ret p) _;have e:max m 1=m:=by have:1<=m:=h1;omega
 rw[e];by_cases q:m<n
 ·rw[if_pos q];refine QaS ?_ (QsB h0 (n - m) m g' (by omega) A)
  rintro p' ⟨a,b⟩;exact⟨a,by rw[show m+(n - m)=n by omega] at b;exact b⟩
 ·rw[if_neg q];have h2:m<=n:=h2;have e2:m=n:=by omega
  subst e2;exact⟨g',A⟩
end
end Rs
namespace Rs
open PySem.W PySem.Calls
section
variable{prog:QD}{w:Jl}{A:Je}{E:Value->Shared->Prop}{s:Shared}
def Kept(a:Addr)(h h':Heap):Prop:=∀b x,b≠a->h.get? b=some x->h'.get? b=some x
theorem Qcr{h:Heap}{a:Addr}(f:Obj->Obj):Kept a h (h.update a f):=λb x hb e=>(Heap.get?_update_ne _ _ _ _ hb).trans e
theorem Qdm{h:Heap}{a:Addr}(o:Obj):Kept a h (h.push o):=λb x _ e=>Qe _ e
theorem Kept.trans{a:Addr}{h h1 h2:Heap}(k:Kept a h h1)(k':Kept a h1 h2):Kept a h h2:=λb x hb e=>k' b x hb (k b x hb e)
theorem QmE(vs:List Value):(Qk vs.length).map (λi=>vs.getD i JD)=vs:=by
 apply Yi
 intro i;rw[Qq];by_cases h:i<vs.length
 ·rw[Ju h,Qf h];show some (vs.getD i JD)=_;rw[Qh,Qf h];rfl
 ·rw[Q1 (by simpa using h),Q1 (by omega)];rfl
theorem QoX{a:Addr}{vs:List Value}{n:Nat}{P:PySem.Fin->Shared->Prop}(ho:s.heap.get? a=some (seqObj "list" vs.toArray n))(h64:vs.length<64)(K:Nat->Int)(κ:Ya)
  (inj:∀i j,i<vs.length->j<vs.length->K i=K j->i=j)
  (hkind:2<=vs.length->∀h':Heap,Kept a s.heap h'->∀(Q':Ya->Shared->Prop)(E':Value->Shared->Prop),Q' κ { s with heap:=h' }->wpAny (model prog w) A (keyKind' vs.toArray) Q' E' { s with heap:=h' })
  (hcmp:∀h':Heap,Kept a s.heap h'->∀(i j:Nat)(C:Bool->Shared->Prop),i<vs.length->j<vs.length->C (decide (K i<K j)) { s with heap:=h' }->wpAny (model prog w) A (keyLt' κ (vs.getD i JD) (vs.getD j JD)) C (λ_ _=>False) { s with heap:=h' })
  (h:∀p:Array Nat,Good vs.length p->Adj K p vs.length->∀(h':Heap)(e:Nat),Kept a s.heap h'->h'.get? a=some (seqObj "list" (Z3 (p.toList.map λi=>vs.getD i JD)) e)->P (.done (.ret .none)) { s with heap:=h' }) :
  wpAny (model prog w) A (Qaa.«list.sort» ⟨[.ref a],[]⟩) P E s:=by
 have ha:a<s.heap.objs.size:=Qp ho;obtain⟨e1,ho1⟩:∃e1,(s.heap.update a (J5 λ_=>(#[]:Array Value))).get? a=some (seqObj "list" #[] e1):=⟨_,QbW ho λ_=>#[]⟩
 have K3:Kept a s.heap (((s.heap.update a (J5 λ_=>(#[]:Array Value))).push (seqObj "tuple" vs.toArray 0)).push (seqObj "list" #[] 0)):=(Qcr _).trans ((Qdm _).trans (Qdm _));have ho6:(((s.heap.update a (J5 λ_=>(#[]:Array Value))).push (seqObj "tuple" vs.toArray 0)).push (seqObj "list" #[] 0)).get? a=some (seqObj "list" #[] e1):=Qe _ (Qe _ ho1);rw[list_sort_plain];refine wpAny_bind (Qtg ho rfl ?_);refine wpAny_bind (Qbz ho rfl ?_ (by rw[Qo,Z0];omega) (Qt _));refine wpAny_bind (Qc8 ho1 rfl ?_);refine wpAny_bind (QlS ?_ (by show vs.length<=_;rw[Z0];omega));refine wpAny_bind (Qf2 ?_ (Qt _));refine Za ?_
 show wpAny (model prog w) A _ P E { s with heap:=((s.heap.update a (J5 λ_=>(#[]:Array Value))).push (seqObj "tuple" vs.toArray 0)).push (seqObj "list" #[] 0) }
 dsimp only
 generalize (((s.heap.update a (J5 λ_=>(#[]:Array Value))).push (seqObj "tuple" vs.toArray 0)).push (seqObj "list" #[] 0))=h3 at K3 ho6 ⊢;have fin:∀p:Array Nat,Good vs.length p->Adj K p vs.length->∀st':JV,(arrOf st').map (·.2)=Z3 (p.toList.map λi=>vs.getD i JD)->failedOf st'=none ->
   ∃e2,(h3.update a (J5 λ_=>Z3 (p.toList.map λi=>vs.getD i JD))).get? a=some (seqObj "list" (Z3 (p.toList.map λi=>vs.getD i JD)) e2):=λp _ _ _ _ _=>⟨_,QbW ho6 λ_=>_⟩
 by_cases h2:vs.toArray.size<2
 ·rw[if_pos h2,if_pos h2];refine wpAny_bind (wpAny_pure ?_);rw[Qsh];refine wpAny_bind (wpAny_pure ?_)
  dsimp only
  have gg:Good vs.length (Z3 (Qk vs.length)):=⟨ZV _⟩;have aa:Adj K (Z3 (Qk vs.length)) vs.length:=λi hi=>by rw[Qo] at h2;omega
  have out:(arrOf (QoS general' (vs.toArray.zip vs.toArray) #[] 7 none)).map (·.2)=Z3 ((Z3 (Qk vs.length)).toList.map λi=>vs.getD i JD):=by
   show(vs.toArray.zip vs.toArray).map (·.2)=_;rw[ZM,QmE];apply Qcq.mp
   rw[Qst,Qss];show(vs.zip vs).map (·.2)=vs;exact Qtq (Qj _)
  obtain⟨e2,he2⟩:=fin _ gg aa _ out rfl;rw[out];refine wpAny_bind (Qc8 ho6 rfl ?_);refine wpAny_bind (Qbz ho6 rfl ?_ (Qt _) (by rw[Qo,Qg,ZM,Qz,Z0];omega));simp only[bne_self_eq_false,ZG,if_false];exact wpAny_pure (h _ gg aa _ e2 (K3.trans (Qcr _)) he2)
 ·rw[if_neg h2,if_neg h2];have h2':2<=vs.length:=by rw[Qo] at h2;omega
  refine wpAny_bind (hkind h2' h3 K3 _ _ ?_);refine wpAny_bind (wpAny_mono (kat_run (Q:=λst' s'=>∃p:Array Nat,Good vs.length p/\Adj K p vs.length/\arrOf st'=p.map (kas_item (vs.toArray.zip vs.toArray))/\failedOf st'=none/\s'={ s with heap:=h3 })
   (G:=λp s'=>Good vs.length p/\Adj K p vs.length/\s'={ s with heap:=h3 }) rfl h2' h64 (λp' st' s' a1 a2 a3 a4=>⟨p',a4.1,a4.2.1,a2,a3,a4.2.2⟩)
   (QjF (c:=cK K) (λi j C hi hj hC=>hcmp h3 K3 i j C hi hj hC) (QaS (λp q=>⟨q.1,q.2,rfl⟩) (QtM inj (by omega))))) ?_ λ_ _ e=>e)
  rintro⟨⟨⟩,st'⟩ s' ⟨p,gg,aa,har,hf,rfl⟩
  dsimp only
  have out:=kat_snds (ks:=vs) rfl har;obtain⟨e2,he2⟩:=fin p gg aa st' out hf;rw[out];refine wpAny_bind (Qc8 ho6 rfl ?_);refine wpAny_bind (Qbz ho6 rfl ?_ (Qt _) (by rw[Qo,Qg,Qd,gg.size,Z0];omega));rw[hf];simp only[bne_self_eq_false,ZG,if_false];exact wpAny_pure (h p gg aa _ e2 (K3.trans (Qcr _)) he2)
theorem Qeh{Q:Value->Shared->Prop}{l:Addr}{T:String}{o:Obj}{vs:List Value}{n:Nat}(hT:T = "list" ∨ T = "tuple")(ho:s.heap.get? l=some o)(hc:o.cls=.type T)(hd:o.data=.seq vs.toArray n)(h64:vs.length<64)
  (h:∀h':Heap,(∀b x,s.heap.get? b=some x->h'.get? b=some x)->∀(P:PySem.Fin->Shared->Prop)(E':Value->Shared->Prop),(∀s2,Q (.ref h'.objs.size) s2->P (.done (.ret .none)) s2) ->
   wpAny (model prog w) A.in1.in1 (Qaa.«list.sort» ⟨[.ref h'.objs.size],[]⟩) P E' { s with heap:=h'.push (seqObj "list" vs.toArray 0) }) :
  wpAny (model prog w) A (call (.builtin "sorted") [.ref l]) Q E s:=by
 refine Qhm kind_sorted plain_sorted entry_sorted (args_sorted1 _) ?_
 unfold Qaa.«sorted»;refine wpAny_bind (m:=checkCount "sorted" 1 1 _) (wpAny_pure ?_);refine wpAny_bind (wpAny_collect_seq (items:=vs.toArray) l hT ho hc hd (λh' kp=>?_) (by rw[Qo,Z0];omega));refine wpAny_bind (Qf2 ?_ (by rw[ZM,Z0];omega));have hoL:(h'.push (seqObj "list" vs.toArray 0)).get? h'.objs.size=some (seqObj "list" vs.toArray 0):=Qw _ rfl;show wpAny _ _ _ _ _ { s with heap:=h'.push (seqObj "list" vs.toArray 0) };refine wpAny_bind (Za (JO slot_list_sort ⟨_,hoL,rfl⟩ entry_list_sort ?body (args_list_sort _)));exact h h' kp _ _ λs2 hq=>⟨_,rfl,wpAny_pure ⟨_,rfl,hq⟩⟩
end
section
variable{prog:QD}{w:Jl}{A:Je}{E:Value->Shared->Prop}{s:Shared}
end
end Rs
namespace L2
open _root_.Rd _root_.Rk _root_.Rs
theorem boot_sorted:bootBuiltins "sorted" = some (.builtin "sorted"):=by decide +kernel
section
variable{X:Cx}
theorem QgJ:∀{ns:List Int}{vs:List Value},Vals (ns.map V.int) vs->IntsAre vs ns
 |[],_,.nil=>.nil
 |i::ns,_,.cons ⟨t,e⟩ r=>by subst e;exact .cons _ _ (QgJ r)
theorem Qg2:∀{ns:List Int}{vs:List Value},IntsAre vs ns->Vals (ns.map V.int) vs
 |_,_,.nil=>.nil
 |_,_,.cons n t r=>.cons ⟨t,rfl⟩ (Qg2 r)
def QsI(K:PySem.W.Frag):List V->Hp->VK->Prop:=λxs H Q=>∃l ns,xs=[.ref l]/\SqT K H l ((ns:List Int).map V.int)/\ns.length<64 /\
 ∀t ms H2,Same H H2->H t=none->H2 t=some (.lst ((ms:List Int).map V.int))->ms.Perm ns->ms.Pairwise (·<=·)->Q (.ref t) H2
theorem QlG:CallR X (.builtin "sorted") (QsI X.K):=by
 intro pins s σ H xs us Q I r h;obtain⟨l,ns,rfl,hl,h64,q⟩:=h;obtain⟨u,rfl,ru⟩:=vals1 r;cases ru;obtain⟨its,rv,tp,hz⟩:=I.tuple hl;obtain⟨o,ho,hc,n,hd⟩:=tp;have li:=rv.length;rw[Qg] at li;refine Qeh (.inr rfl) ho hc hd (by omega) λh' kp P E' hP=>?_
 have hn:(h'.push (seqObj "list" its.toArray 0)).get? h'.objs.size=some (seqObj "list" its.toArray 0):=Qw _ rfl;refine list_sort_tree (s:={ s with heap:=h'.push (seqObj "list" its.toArray 0) }) hn (QgJ rv) (by omega) λout ns' ia pm pw=>hP _ ?_
 have I1:Inv X pins σ H { s with heap:=h' }:=I.kept (t':=s.toks) kp;have hf:H h'.objs.size=none:=I1.hok.fresh (Qj _);obtain⟨e,he⟩:∃e,(sortedHeap (h'.push (seqObj "list" its.toArray 0)) h'.objs.size its out).get? h'.objs.size=some (seqObj "list" out e):=sortedHeap_at hn
 have rv':=Qg2 ia;have lp:=pm.length_eq;have I2:Inv X pins σ (upd H h'.objs.size (.lst (ns'.map V.int))) { s with heap:=sortedHeap (h'.push (seqObj "list" its.toArray 0)) h'.objs.size its out }:=
  I1.laid (t':=s.toks) (λb x e'=>(sortedHeap_old (QH (Qp e')) (QY (Qp e') (by rw[size_push'];exact Qo6 _))).trans (Qe _ e')) (Qj _) (show ObjOk X.prog X.w _ _ _ (.lst _) from⟨by rw[Qg];exact Z5 (Rk.Qce (by omega)),out.toList,e,rv',by rw[he]⟩)
 exact⟨.ref h'.objs.size,_,I2,rfl,q _ ns' _ (JS hf) hf JN pm pw⟩
end
end L2
namespace Re
open AutoSeq1 (wpAny_loadPart')
theorem Qs3{prog:QD}{w:Jl}{A:Je}{it t:Addr}{items:Array Value}(hh:A.handled=none)(hti:t≠it) :
  Draws prog w A it [it,t] items.size (λi x=>items[i]? = some x) (λi h=>h.IsTupleIter it t i/\h.IsTuple t items) where
 live:=λi h st=>by
  obtain⟨⟨o,ho,_⟩,_⟩:=st;exact⟨o,ho⟩
 frame:=λi h h' st k=>by
  obtain⟨⟨o,ho,c⟩,⟨o2,h2,c2⟩⟩:=st;exact⟨⟨o,k it (by simp) _ ho,c⟩,⟨o2,k t (by simp) _ h2,c2⟩⟩
 item:=λi s Q E hi st hQ=>by
  refine Rz.QeB st.1 st.2 (x:=items[i]) (by simp[hi]) λh' hit' hs'=>?_
  refine hQ _ h' s.toks (by simp[hi]) ⟨hit',?_⟩ hs';obtain⟨o2,h2,c2⟩:=st.2;exact⟨o2,(hs'.2 t hti).trans h2,c2⟩
 done:=λs Q E st hE=>Rz.Qi6 hh st.1 st.2 (by simp) hE
theorem Qlu(l:Addr)(items:Array Value)(n:Nat)(dct:Option Addr)(sl:Array (Option Value)) :
  Meets (Qaa.«enumerate.__new__» ⟨[.type "enumerate",.ref l],[]⟩) (λ_ R s=>s.heap.get? l=some { cls:=.type "tuple",dict:=dct,data:=.seq items n,slots:=sl } /\
   R (.ok (.ret (.ref (s.heap.push { cls:=.type "tuple_iterator",data:=.fields #[.ref l,.int 0 0] }).objs.size)))
    { s with heap:=(s.heap.push { cls:=.type "tuple_iterator",data:=.fields #[.ref l,.int 0 0] }).push { cls:=.type "enumerate",data:=.fields #[.none,.bool false,.ref s.heap.objs.size,rawInt 0,.none,.none] } }):=
 .of_wp λprog w A R s h=>by
  obtain⟨hp,g,d,tk,os⟩:=s;obtain⟨hl,h⟩:=h;have hsub:=sub_enumerate;have hL:QlQ (QlP ⟨hp,g,d,tk,os⟩) l items:=⟨_,hl,rfl,n,rfl⟩
  wp_walk using QaI hl
  refine wpAny_stack_any λst=>wpAny_pure ?_
  split
  ·rename_i c _ _ _ _ _
   cases(c == Yp "enumerate")
   ·wp_walk using QaI hl,YU hL
    exact⟨_,rfl,h⟩
   ·wp_walk using QaI hl,YU hL
    exact⟨_,rfl,h⟩
  ·wp_walk using QaI hl,YU hL
   exact⟨_,rfl,h⟩
theorem QlI{prog:QD}{w:Jl}{A:Je}{E:Value->Shared->Prop}{s:Shared}{l:Addr}{items:Array Value}{Q:Value->Shared->Prop}(hL:s.heap.IsTuple l items)
  (h:∀h',IsEnum h' (s.heap.objs.size+1) s.heap.objs.size 0 .none->h'.IsTupleIter s.heap.objs.size l 0->(∀b o,s.heap.get? b=some o->h'.get? b=some o)->Q (.ref (s.heap.objs.size+1)) { s with heap:=h' }) :
  wpAny (model prog w) A (call (.type "enumerate") [.ref l]) Q E s:=by
 obtain⟨⟨c,dct,dt,sl⟩,hl,hc,n,hd⟩:=hL
 replace hc:c=.type "tuple" := hc
 replace hd:dt=.seq items n:=hd
 subst hc hd;refine callType_new F.called_enumerate (by decide) (F.typeCall_enumerate_1 _) (F.newCall_enumerate_1 _) (λobj=>F.args_object_init_2 obj _) F.entry_enumerate_new (Qlu l items n dct sl) ⟨hl,?_⟩;have hz:(s.heap.push { cls:=.type "tuple_iterator",data:=.fields #[.ref l,.int 0 0] }).objs.size=s.heap.objs.size+1:=ZK ..;show _/\_;rw[hz];have he:=Qw (s.heap.push { cls:=.type "tuple_iterator",data:=.fields #[.ref l,.int 0 0] }) (o:={ cls:=.type "enumerate",data:=.fields #[.none,.bool false,.ref s.heap.objs.size,rawInt 0,.none,.none] }) rfl;rw[hz] at he;exact⟨⟨_,he,rfl⟩,h _ he ⟨_,Qe _ (Qw _ rfl),rfl,rfl⟩ λb o x=>Qe _ (Qe _ x)⟩
end Re
namespace L2
def Iet(l:Addr):It:=
 ⟨λi H=>∃xs x,H l=some (.tup xs)/\xs[i]? = some x,
  λi H v H'=>∃p x,H p=none/\(∀xs,H l=some (.tup xs)->xs[i]? = some x)/\v=.ref p/\H'=upd H p (.tup [.int (i:Nat),x]),
  λi H=>∃xs,H l=some (.tup xs)/\xs.length=i⟩
theorem Qk6{P:QD}{w:Jl}{K:PySem.W.Frag}{elts:List Q2}{x1}{tpos:Pos}{e it l:Addr}(hne:e≠it) :
  Turn P w K (.Tuple elts x1 tpos) (Iet l) [e,it] e (λi h=>(∃old,IsEnum h e it (i:Nat) old)/\h.IsTupleIter it l i) where
 mem:=by simp
 obj:=λi h st b hb=>by
  obtain⟨⟨old,a1⟩,⟨o2,a2,_,d2⟩⟩:=st;simp only[Qr,Q6,or_false] at hb;rcases hb with rfl | rfl
  ·exact⟨_,a1,λv q=>nomatch q⟩
  ·exact⟨_,a2,λv q=>by rw[d2] at q;cases q⟩
 keep:=λi h h' st k=>by
  obtain⟨⟨old,a1⟩,⟨o2,a2,c2⟩⟩:=st;exact⟨⟨old,k e (by simp) _ a1⟩,o2,k it (by simp) _ a2,c2⟩
 item:=by
  intro X hP hw hK hc i pins s σ H E I hf st hg;subst hP hw hK;obtain⟨xs,x,h1,hx⟩:=hg;obtain⟨⟨old,a1⟩,a2⟩:=st;obtain⟨its,r1,p1,_⟩:=I.tuple (SqT.of h1);obtain⟨u,hu,ru⟩:=r1.get hx;have nel:e≠l:=λz=>by have q:=(hf e (by simp)).1;rw[z,h1] at q;cases q
  have nil:l≠it:=λz=>by have q:=(hf it (by simp)).1;rw[<- z,h1] at q;cases q
  have hi:i<its.toArray.size:=by
   have:=(QR.mp hu).1
   simpa using this
  refine wpAny_pyNext_enum_itemD (Re.Qs3 (A:=X.A.in1) (t:=l) (I.ok.hd hc) nil) a1 ⟨a2,p1⟩ hi hne (by simp[hne,nel]) λy h' tk hy o' l' tp sz kp=>?_
  have ey:y=u:=by
   have e1:its.toArray[i]? = some u:=by simpa using hu
   rw[e1] at hy;exact(Qu hy).symm
  subst ey;obtain⟨l',tq⟩:=l';have fr:H s.heap.objs.size=none:=I.hok.fresh (Qj _);have n1:e≠s.heap.objs.size:=QH (Qp a1);have n2:it≠s.heap.objs.size:=by
   obtain⟨o2,a2,_⟩:=a2;exact QH (Qp a2)
  refine⟨_,rfl,QlO o' λh2 e2 s2=>?_⟩;have I1:Inv X pins σ (upd H s.heap.objs.size (.tup [.int (i:Nat),x])) { s with heap:=h2,toks:=tk+1 }:=by
   refine I.turnedNew (ch:=[e,it]) hf (λb v hb q=>?_) (Qj _) ⟨by show 2<=sizeLine;decide,[.int (i:Nat) tk,y],.cons ⟨_,rfl⟩ (.cons ru .nil),?_⟩
   ·simp only[Qr,Q6,or_false,not_or] at hb;exact s2.extBut _ _ hb.1 (kp b v hb.1 hb.2 q)
   ·exact⟨_,s2.extBut _ _ n1.symm tp,rfl,0,rfl⟩
  refine⟨.ref s.heap.objs.size,_,I1,rfl,⟨_,x,fr,λxs' q=>?_,rfl,rfl⟩,⟨⟨y,e2⟩,?_⟩,λb hb=>?_⟩
  ·rw[h1] at q;cases q;exact hx
  ·exact l'.extBut s2.extBut hne.symm
  ·simp only[Qr,Q6,or_false] at hb;rcases hb with rfl | rfl
   ·rw[JY n1];exact(hf _ (by simp)).1
   ·rw[JY n2];exact(hf _ (by simp)).1
 done:=by
  intro X hP hw hK hc i pins s σ H E I hf st hg;subst hP hw hK;obtain⟨xs,h1,he⟩:=hg;obtain⟨⟨old,a1⟩,a2⟩:=st;obtain⟨its,r1,p1,_⟩:=I.tuple (SqT.of h1);have l1:=r1.length;have nel:e≠l:=λz=>by have q:=(hf e (by simp)).1;rw[z,h1] at q;cases q
  have nil:l≠it:=λz=>by have q:=(hf it (by simp)).1;rw[<- z,h1] at q;cases q
  have e0:its.toArray.size=i:=by rw[Qo];omega
  have D:=Re.Qs3 (prog:=X.prog) (w:=X.w) (A:=X.A.in1) (t:=l) (items:=its.toArray) (I.ok.hd hc) nil;rw[e0] at D;refine wpAny_pyNext_enum_endD D a1 ⟨a2,p1⟩ λh' kp=>⟨rfl,I.turnedAll (t':=s.toks) (ch:=[e,it]) hf λb v hb q=>?_⟩
  simp only[Qr,Q6,or_false,not_or] at hb;exact kp b v hb.2 q
 self:=λ_ _ _ _ _ st h=>by
  obtain⟨⟨old,a1⟩,_⟩:=st;exact QcP a1 h
def QyJ(ta:TA):TI:=λσ H R=>ta σ H λvs H1=>∃l xs,vs=[.ref l]/\H1 l=some (.tup xs)/\R (Iet l) H1
section
variable{X:Cx}
theorem QpN{a:Q2}{elts:List Q2}{x1}{tpos:Pos}{ta:TA}{p pos:Pos}(hg:Gl X "enumerate")(hm:X.mg "enumerate" = none)(ha:PA X [a] ta)(hs:starEach [a] X.env=[(false,eval a X.env)]:=by rfl) :
  PI X (.Tuple elts x1 tpos) (.Call (.Name "enumerate" p) [a] [] pos) (QyJ ta):=by
 intro pins s σ H R I h;refine Call_ (QcN I hg hm Qic (JH (thn (ha pos pins s σ H _ I h) λus s1 ⟨vs,H1,I1,r1,q1⟩=>?_) hs rfl));obtain⟨l,xs,e,h1,q⟩:=q1;subst e;obtain⟨u,rfl,ru⟩:=vals1 r1;cases(show u=QU l from ru);obtain⟨its,w1,p1,_⟩:=I1.tuple (SqT.of h1);refine Re.QlI p1 λh' e1 i1 kp=>?_
 refine QcP (s:={ s1 with heap:=h' }) e1 ?_
 refine⟨s1.heap.objs.size+1,_,_,_,H1,rfl,I1.kept (t':=s1.toks) kp,Qk6 (by show ¬(s1.heap.objs.size+1=s1.heap.objs.size);omega),⟨⟨_,e1⟩,i1⟩,λb hb=>?_,q⟩;have hb':s1.heap.objs.size<=b:=by
  simp only[Qr,Q6,or_false] at hb;rcases hb with rfl | rfl<;>omega
 exact I1.fpOk hb' (I1.hok.fresh hb')
end
end L2
namespace Rk
open L2
end Rk
namespace L2
section
variable{X:Cx}{pins:List (Addr×Obj)}{σ:St}{H:Hp}
theorem Qbd{M:List Str}{scope:Y8}{fp:List Addr}{σ':St}{H3:Hp}{s3 s':Shared}{D:Addr}{i:Nat}{y:Str}{py:Pos}{Mo:QAa}{A:Je}{E:Value->Shared->Prop}{Q:Value->Shared->Prop}
  (I3:Inv X pins σ H3 s3)(f3:∀b∈fp,FpOk X pins H3 b)(J:Inv (blk X M scope (QbU X.env scope.names []) fp s3 H3 s3.heap.objs.size) [] σ' H s')
  (hN:X.N.Nodup)(hi:X.N[i]? = some y)(hl:X.env.scope.names.lookup y=some .local)(hq:∀s2,Inv X pins (σ.set i (some (.ref D))) H s2->Q .none s2) :
  wpAny Mo A (assign (.Name y py) X.env (.ref D)) (λ_ s2=>∃m,s2.heap.Ns s3.heap.objs.size m/\∀h',Qan s3.heap.objs.size s2.heap h'->Q .none { s2 with heap:=h' }) E s':=by
 have J0:Inv X pins σ H s':=QoF I3 f3 J (Heap.SameBut.refl ..);obtain⟨m,hn,_⟩:=J.loc;have hC:H s3.heap.objs.size=none:=J.free;have lt:X.env.locals<s3.heap.objs.size:=I3.lt;refine QzU (Qhw J0 hN hi (Jn hl) (show RelV (.ref D) (.ref D) from rfl) (λs2 J2 ⟨a,sb,ha⟩=>?_) (.inr hl));have ea:a=X.env.locals∨X.env.cells.lookup y=some a:=ha;have na:s3.heap.objs.size≠a:=by
  rcases ea with z | z
  ·rw[z];exact QaO lt
  ·obtain⟨v,o,ho,_⟩:=I3.cell y a z;exact QaO (Qp ho)
 refine⟨m,hn.sameBut sb na,λh' hs=>hq _ ?_⟩;refine J2.turned (t':=s2.toks) (it:=s3.heap.objs.size) (λb o hb e=>hs.extBut b o hb e) hC (QaO lt) (.inr I3.sz) (λx c e z=>?_) λp hp z=>?_
 ·obtain⟨v,o,ho,_⟩:=I3.cell x c e;exact absurd (z ▸ Qp ho) (Y0 _)
 ·have e:=(I3.pin p hp).1;exact absurd (z ▸ Qp e) (Y0 _)
end
theorem QpL{X:Cx}{M:List Str}{cap:List (Option Nat)}{elt tg iter:Q2}{ifs:List Q2}{scope:Y8}{pos:Pos}{wi:TI}{g:TG}{tc:TT}{te:TE}{i:Nat}{y:Str}{py spos:Pos}(hN:X.N.Nodup)(hiy:X.N[i]? = some y)(hly:X.env.scope.names.lookup y=some .local)(hc:X.calm=true)(ok:Qff X.N X.env.scope M scope cap=true)
  (hi:PI X tg iter wi)(hb:∀cl ex s3 H3 C,PG (blk X M scope cl ex s3 H3 C) tg g/\PTs (blk X M scope cl ex s3 H3 C) ifs tc/\PE (blk X M scope cl ex s3 H3 C) elt te)
  (hs:∀x,foldedSetIterable iter X.env x=pure x:=by intro _;rfl)(hsw:swapsWith (.ListComp elt [⟨tg,iter,ifs,0⟩] scope pos) (some (.Name y py)) spos.line X.env=pure true:=by rfl):PS X (.Assign [.Name y py] (.ListComp elt [⟨tg,iter,ifs,0⟩] scope pos) spos) (Qpj (tComp cap wi g tc te) (Qer i)):=by
 intro pins s σ H D I h;have c:=CapOk.of ok;rw[Qel _ _ _ _ hsw];refine wpAny_bind (wpAny_standAt (wpAny_bind ?_));show wpAny _ X.A (do let _ <- comprehension (.ListComp elt [⟨tg,iter,ifs,0⟩] scope pos) scope X.env _ (newList []) false (eval iter X.env) (some (assign (.Name y py) X.env))) _ _ s;refine wpAny_bind (wpAny_mono (QaA (use:=some (assign (.Name y py) X.env)) (Q:=λ_ s'=>SP X pins D .next s') rfl hs (QgT (I.ok.cells c)) c.kind c.loc ?_) (λ_ s' hq=>wpAny_pure (wpAny_pure hq)) λ_ _ e=>e);refine thn (hi pins s σ H _ I h) λv s1 h1=>thn h1 λitv s2 h2=>?_
 obtain⟨it,fp,tn,J,H2,e,I2,T,st2,f2,hW⟩:=h2;subst e;refine JC (Qbv c.cell (by intro y hy;simp at hy) (λh₁ hns₁ hsb₁=>?_) c.kind);have I3:Inv X pins σ (upd H2 s2.heap.objs.size (.lst [])) { s2 with heap:=s2.heap.push { cls:=.type "list",data:=.seq ([]:List Value).toArray } }:=I2.lnew (t':=s2.toks) (ys:=[]) .nil (Qt _);have lt2:∀b∈fp,b<s2.heap.objs.size:=λb hb=>by obtain⟨o,e,_⟩:=T.obj _ _ st2 b hb;exact Qp e
 have f3:∀b∈fp,FpOk X pins (upd H2 s2.heap.objs.size (.lst [])) b:=λb hb=>(f2 b hb).upd (QH (lt2 b hb))
 generalize hs3:({ s2 with heap:=s2.heap.push { cls:=.type "list",data:=.seq ([]:List Value).toArray } }:Shared)=s3 at I3;have e3:s3.heap=s2.heap.push { cls:=.type "list",data:=.seq ([]:List Value).toArray }:=by rw[<- hs3]
 have z3:s3.heap.objs.size=s2.heap.objs.size+1:=by rw[e3,ZK]
 have hk:∀b o,s3.heap.get? b=some o->h₁.get? b=some o:=λb o e=>hsb₁.extBut b o (by
  have:=Qp e;rw[e3] at this;exact QH this) (Qe _ (e3 ▸ e))
 have hn₁:h₁.Ns s3.heap.objs.size λ_=>none:=by rw[e3];exact hns₁
 have B:=Qdv (t4:=s3.toks+([]:List (Str×Value)).length) (fp:=fp) I3 c f3 (λb hb=>by rw[z3];exact YZ (lt2 b hb)) hn₁ hk;have st4:tn 0 h₁:=T.keep _ _ _ st2 λb hb o e=>hk b o (by rw[e3];exact Qe _ e)
 have fp4:∀b∈fp,FpOk (blk X M scope (QbU X.env scope.names []) fp s3 (upd H2 s2.heap.objs.size (.lst [])) s3.heap.objs.size) [] (upd H2 s2.heap.objs.size (.lst [])) b:=λb hb=>by
  refine⟨(f3 b hb).1,(B.ok.exf b hb).1,B.ok.exfs b hb,.inl hb,(B.ok.exf b hb).2,λp hp=>(nomatch hp)⟩
 obtain⟨hg,ht,he⟩:=hb (QbU X.env scope.names []) fp s3 (upd H2 s2.heap.objs.size (.lst [])) s3.heap.objs.size;have loop:codeAny (model X.prog X.w) X.A (.compLoop (.ListComp elt [⟨tg,iter,ifs,0⟩] scope pos) 0 (.ref it) (.ref s2.heap.objs.size) (compEnvC scope (QbU X.env scope.names []) s3.heap.objs.size X.env))
   (compPost (model X.prog X.w) X.A X.xe (some (assign (.Name y py) X.env)) (λ_ s'=>SP X pins D .next s') (.ref s2.heap.objs.size) s3.heap.objs.size) { s3 with heap:=h₁,toks:=s3.toks+([]:List (Str×Value)).length }:=by
  refine Qds (Y:=blk X M scope (QbU X.env scope.names []) fp s3 (upd H2 s2.heap.objs.size (.lst [])) s3.heap.objs.size) (gens:=[⟨tg,iter,ifs,0⟩]) (d:=0) hc T st4 fp4
   (λQ E s h=>QjH Q E s h) (λx u r=>Qfi rfl hg ht (λσ4=>Qg1 rfl he) x u r) B (hW _ (I2.hok.fresh (Qj _))) λs' H' I' q=>?_
  exact Qbd (Q:=λ_ s'=>SP X pins D .next s') I3 f3 I' hN hiy hly λs2' J2=>⟨_,H',J2,q⟩
 exact QdH loop (T.self _ 0 _ _ _ st4 loop)
theorem QhH{X:Cx}{M:List Str}{cap:List (Option Nat)}{elt tg iter tg2 iter2:Q2}{ifs ifs2:List Q2}{scope:Y8}{pos:Pos}{wi wi2:TI}{g g2:TG}{tc tc2:TT}{te:TE}{i:Nat}{y:Str}{py spos:Pos}(hN:X.N.Nodup)(hiy:X.N[i]? = some y)(hly:X.env.scope.names.lookup y=some .local)(hc:X.calm=true)(ok:Qff X.N X.env.scope M scope cap=true)
  (hi:PI X tg iter wi)(hb:∀cl ex s3 H3 C,PG (blk X M scope cl ex s3 H3 C) tg g/\PTs (blk X M scope cl ex s3 H3 C) ifs tc/\PI (blk X M scope cl ex s3 H3 C) tg2 iter2 wi2/\PG (blk X M scope cl ex s3 H3 C) tg2 g2/\PTs (blk X M scope cl ex s3 H3 C) ifs2 tc2/\PE (blk X M scope cl ex s3 H3 C) elt te)
  (hs:∀x,foldedSetIterable iter X.env x=pure x:=by intro _;rfl)(hs2:∀env x,foldedSetIterable iter2 env x=pure x:=by intro _ _;rfl)(hsw:swapsWith (.ListComp elt [⟨tg,iter,ifs,0⟩,⟨tg2,iter2,ifs2,0⟩] scope pos) (some (.Name y py)) spos.line X.env=pure true:=by rfl):PS X (.Assign [.Name y py] (.ListComp elt [⟨tg,iter,ifs,0⟩,⟨tg2,iter2,ifs2,0⟩] scope pos) spos) (Qpj (Qsz cap wi g tc wi2 g2 tc2 te) (Qer i)):=by
 intro pins s σ H D I h;have c:=CapOk.of ok;rw[Qel _ _ _ _ hsw];refine wpAny_bind (wpAny_standAt (wpAny_bind ?_));show wpAny _ X.A (do let _ <- comprehension (.ListComp elt [⟨tg,iter,ifs,0⟩,⟨tg2,iter2,ifs2,0⟩] scope pos) scope X.env _ (newList []) false (eval iter X.env) (some (assign (.Name y py) X.env))) _ _ s;refine wpAny_bind (wpAny_mono (QaA (use:=some (assign (.Name y py) X.env)) (Q:=λ_ s'=>SP X pins D .next s') rfl hs (QgT (I.ok.cells c)) c.kind c.loc ?_) (λ_ s' hq=>wpAny_pure (wpAny_pure hq)) λ_ _ e=>e);refine thn (hi pins s σ H _ I h) λv s1 h1=>thn h1 λitv s2 h2=>?_
 obtain⟨it,fp,tn,J,H2,e,I2,T,st2,f2,hW⟩:=h2;subst e;refine JC (Qbv c.cell (by intro y hy;simp at hy) (λh₁ hns₁ hsb₁=>?_) c.kind);have I3:Inv X pins σ (upd H2 s2.heap.objs.size (.lst [])) { s2 with heap:=s2.heap.push { cls:=.type "list",data:=.seq ([]:List Value).toArray } }:=I2.lnew (t':=s2.toks) (ys:=[]) .nil (Qt _);have lt2:∀b∈fp,b<s2.heap.objs.size:=λb hb=>by obtain⟨o,e,_⟩:=T.obj _ _ st2 b hb;exact Qp e
 have f3:∀b∈fp,FpOk X pins (upd H2 s2.heap.objs.size (.lst [])) b:=λb hb=>(f2 b hb).upd (QH (lt2 b hb))
 generalize hs3:({ s2 with heap:=s2.heap.push { cls:=.type "list",data:=.seq ([]:List Value).toArray } }:Shared)=s3 at I3;have e3:s3.heap=s2.heap.push { cls:=.type "list",data:=.seq ([]:List Value).toArray }:=by rw[<- hs3]
 have z3:s3.heap.objs.size=s2.heap.objs.size+1:=by rw[e3,ZK]
 have hk:∀b o,s3.heap.get? b=some o->h₁.get? b=some o:=λb o e=>hsb₁.extBut b o (by
  have:=Qp e;rw[e3] at this;exact QH this) (Qe _ (e3 ▸ e))
 have hn₁:h₁.Ns s3.heap.objs.size λ_=>none:=by rw[e3];exact hns₁
 have B:=Qdv (t4:=s3.toks+([]:List (Str×Value)).length) (fp:=fp) I3 c f3 (λb hb=>by rw[z3];exact YZ (lt2 b hb)) hn₁ hk;have st4:tn 0 h₁:=T.keep _ _ _ st2 λb hb o e=>hk b o (by rw[e3];exact Qe _ e)
 have fp4:∀b∈fp,FpOk (blk X M scope (QbU X.env scope.names []) fp s3 (upd H2 s2.heap.objs.size (.lst [])) s3.heap.objs.size) [] (upd H2 s2.heap.objs.size (.lst [])) b:=λb hb=>by
  refine⟨(f3 b hb).1,(B.ok.exf b hb).1,B.ok.exfs b hb,.inl hb,(B.ok.exf b hb).2,λp hp=>(nomatch hp)⟩
 obtain⟨hg,ht,hi2,hg2,ht2,he⟩:=hb (QbU X.env scope.names []) fp s3 (upd H2 s2.heap.objs.size (.lst [])) s3.heap.objs.size;have loop:codeAny (model X.prog X.w) X.A (.compLoop (.ListComp elt [⟨tg,iter,ifs,0⟩,⟨tg2,iter2,ifs2,0⟩] scope pos) 0 (.ref it) (.ref s2.heap.objs.size) (compEnvC scope (QbU X.env scope.names []) s3.heap.objs.size X.env))
   (compPost (model X.prog X.w) X.A X.xe (some (assign (.Name y py) X.env)) (λ_ s'=>SP X pins D .next s') (.ref s2.heap.objs.size) s3.heap.objs.size) { s3 with heap:=h₁,toks:=s3.toks+([]:List (Str×Value)).length }:=by
  refine Qds (Y:=blk X M scope (QbU X.env scope.names []) fp s3 (upd H2 s2.heap.objs.size (.lst [])) s3.heap.objs.size) (gens:=[⟨tg,iter,ifs,0⟩,⟨tg2,iter2,ifs2,0⟩]) (d:=0) hc T st4 fp4
   (λQ E s h=>Qk5 (hs2 _) Q E s h) (λx u r=>Qfi rfl hg ht (λσ4=>QoD rfl hc hi2 hg2 ht2 he) x u r) B (hW _ (I2.hok.fresh (Qj _))) λs' H' I' q=>?_
  exact Qbd (Q:=λ_ s'=>SP X pins D .next s') I3 f3 I' hN hiy hly λs2' J2=>⟨_,H',J2,q⟩
 exact QdH loop (T.self _ 0 _ _ _ st4 loop)
end L2
namespace Rk
open L2 _root_.Rd
section
variable{X:Cx}
def QCA(X:Cx):R2:=λx y H Q=>∃dx dy,Dat H x dx/\Dat H y dy/\X.A.units+min dx.depth dy.depth<cLine/\Q (.bl (!QL dx dy)) H
theorem Qx6:OpR X (compareOp .NotEq) (QCA X):=by
 intro pins s σ H x y v u Q I rx ry h;obtain⟨dx,dy,qx,qy,hu,q⟩:=h;obtain⟨⟨as,ra⟩,ca⟩:=Qal I.hok dx x v qx rx;obtain⟨⟨bs,rb⟩,cb⟩:=Qal I.hok dy y u qy ry;exact SeqAt.compareNe_reads ra rb ca cb hu ⟨.bl _,H,I,rfl,q⟩
end
theorem Cs.re{p p':Addr}{H:Hp}{zs:List V}(e:H p'=some (.lst zs)):∀{ps:List V}{L:List (Int×Int)},Cs p H ps L->Cs p' H ps L
 |_,_,.nil=>.nil
 |_,_,.cons ⟨d,_,ev,h⟩ t=>.cons ⟨d,(λz=>by rw[z,e] at h;cases h),ev,h⟩ (Cs.re e t)
theorem Qes{α:Type}(M:List α)(d:α)(P:α->Bool):(Qk M.length).filterMap (λi=>if P (M.getD i d)=true then some (M.getD i d) else none)=M.filter P:=by
 conv=>rhs;rw[<- range_getD M d]
 rw[List.filter_map,<- List.filterMap_eq_filter,QbB];refine congrArg (λg=>QwI g (Qk M.length)) (funext λi=>?_);show _=Option.map _ (QwD _ i);unfold QwD;by_cases q:P (M.getD i d)=true
 ·rw[if_pos q,if_pos (by simpa using q)];rfl
 ·rw[if_neg q,if_neg (by simpa using q)];rfl
end Rk
namespace Rk
open L2
end Rk
namespace Rx
open PySem.Calls L2
section
variable{X:Cx}{E:XK}
end
section
variable{X:Cx}{tf:TE}{fe:Q2}{pos:Pos}{e:Q2}{es:List Q2}{t:TA}{M:Addr->Sp->Prop}
end
end Rx
namespace Rk
open L2 _root_.Rd
structure GlbA (mg:Str->Option Value):Prop where
 isinstance:mg "isinstance" = none
 int:mg "int" = none
 bool:mg "bool" = none
 str:mg "str" = none
 tuple:mg "tuple" = none
 list:mg "list" = none
 all:mg "all" = none
 len:mg "len" = none
 zip:mg "zip" = none
 enumerate:mg "enumerate" = none
 range:mg "range" = none
 max:mg "max" = none
 min:mg "min" = none
 sorted:mg "sorted" = none
 sum:mg "sum" = none
 set:mg "set" = none
 any:mg "any" = none
 reversed:mg "reversed" = none
 divmod:mg "divmod" = none
def QBN(u:Nat)(neg:Bool):R2:=λx y H Q=>∃c ps ds d,y=.ref c/\H c=some (.tup ps)/\Dats H ps ds/\Dat H x d/\u+d.depth<cLine/\Q (.bl (if neg then !(ds.any λe=>QL e d) else ds.any λe=>QL e d)) H
end Rk
namespace Rx
open PySem.Calls L2
section
variable{P:QD}{w:Jl}{K:PySem.W.Frag}{mg:Str->Option Value}{base:Heap}
end
end Rx
namespace Rk
open L2 _root_.Rd
section
variable{X:Cx}{is js:List Nat}
end
end Rk
namespace L2
theorem Y5{h:Heap}{a:Addr}{its:Array Value}(p:PlainL h a its):h.IsList a its:=by
 obtain⟨o,n,h1,h2,_,h3⟩:=p;exact⟨o,h1,h2,n,h3⟩
structure Qij (h:Heap) (z TI TO i1 i2 t1 t2:Addr) (f:Value) (k:Nat):Prop where
 zp:Qtv h z TI TO f
 ti:IsPair h TI (.ref i1) (.ref i2)
 to:∃a b,IsPair h TO a b
 i1:h.IsListIter i1 t1 k
 i2:h.IsListIter i2 t2 k
section
variable{prog:QD}{w:Jl}{A:Je}{E:Value->Shared->Prop}{s:Shared}
theorem Ql6{z TI TO i1 i2 t1 t2:Addr}{k:Nat}{xs ys:Array Value}{x y:Value}{Q:Option Value->Shared->Prop}(D:Qzs z TI TO i1 i2 t1 t2)(Z:Qij s.heap z TI TO i1 i2 t1 t2 .none k)
  (hl1:s.heap.IsList t1 xs)(hl2:s.heap.IsList t2 ys)(hx:xs[k]? = some x)(hy:ys[k]? = some y)
  (hQ:∀h',Qij h' z TI TO i1 i2 t1 t2 (rawInt s.heap.objs.size) (k+1)->IsPair h' s.heap.objs.size x y->(∀c o,c≠z->c≠TO->c≠i1->c≠i2->s.heap.get? c=some o->h'.get? c=some o)->Q (some (.ref s.heap.objs.size)) { s with heap:=h' }) :
  wpAny (model prog w) A (pyNext (.ref z)) Q E s:=by
 obtain⟨hz,hTI,⟨a,b,hTO⟩,h1,h2⟩:=Z;exact wpAny_pyNext_zip_item D hz hTI hTO h1 h2 hl1 hl2 hx hy λh' a1 a2 a3 a4 a5 a6 a7=>hQ h' ⟨a1,a7 _ _ D.TIz D.TITO D.TIi1 D.TIi2 hTI,⟨x,y,a2⟩,a3,a4⟩ a5 a7
theorem Qpd{z TI TO i1 i2 t1 t2:Addr}{k:Nat}{xs ys:Array Value}{Q:Option Value->Shared->Prop}(hh:A.handled=none)(D:Qzs z TI TO i1 i2 t1 t2)(Z:Qij s.heap z TI TO i1 i2 t1 t2 .none k)
  (hl1:s.heap.IsList t1 xs)(hl2:s.heap.IsList t2 ys)(hend:xs[k]? = none∨ys[k]? = none)
  (hQ:∀h',(∀c o,c≠z->c≠TO->c≠i1->c≠i2->s.heap.get? c=some o->h'.get? c=some o)->Q none { s with heap:=h' }):wpAny (model prog w) A (pyNext (.ref z)) Q E s:=by
 obtain⟨hz,hTI,⟨a,b,hTO⟩,h1,h2⟩:=Z;exact wpAny_pyNext_zip_end hh D hz hTI hTO h1 h2 hl1 hl2 hend hQ
theorem Ql7{t1 t2:Addr}{xs ys:Array Value}{Q:Value->Shared->Prop}(hl1:s.heap.IsList t1 xs)(hl2:s.heap.IsList t2 ys)
  (h:∀h',Qij h' (s.heap.objs.size+4) (s.heap.objs.size+2) (s.heap.objs.size+3) s.heap.objs.size (s.heap.objs.size+1) t1 t2 .none 0->(∀c o,s.heap.get? c=some o->h'.get? c=some o)->Q (.ref (s.heap.objs.size+4)) { s with heap:=h' }) :
  wpAny (model prog w) A (call (.type "zip") [.ref t1,.ref t2]) Q E s:=
 call_zip_2 hl1 hl2 λh' a1 a2 a3 a4 a5 a6 a7=>h h' ⟨a1,a2,⟨_,_,a3⟩,a4,a5⟩ a7
end
def QCo(t1 t2:Addr):It:=
 ⟨λi H=>∃xs ys x y,H t1=some (.lst xs)/\H t2=some (.lst ys)/\xs[i]? = some x/\ys[i]? = some y,
  λi H v H'=>∃p x y,H p=none/\(∀xs,H t1=some (.lst xs)->xs[i]? = some x)/\(∀ys,H t2=some (.lst ys)->ys[i]? = some y)/\v=.ref p/\H'=upd H p (.tup [x,y]),
  λi H=>∃xs ys,H t1=some (.lst xs)/\H t2=some (.lst ys)/\(xs.length<=i∨ys.length<=i)⟩
theorem Qma{P:QD}{w:Jl}{K:PySem.W.Frag}{elts:List Q2}{x1}{tpos:Pos}{z TI TO i1 i2 t1 t2:Addr}(D:Qzs z TI TO i1 i2 t1 t2) :
  Turn P w K (.Tuple elts x1 tpos) (QCo t1 t2) [z,TI,TO,i1,i2] z (λi h=>Qij h z TI TO i1 i2 t1 t2 .none i) where
 mem:=by simp
 obj:=λi h st b hb=>by
  obtain⟨a1,a2,⟨_,_,a3⟩,⟨o4,a4,_,d4⟩,⟨o5,a5,_,d5⟩⟩:=st;simp only[Qr,Q6,or_false] at hb;rcases hb with rfl | rfl | rfl | rfl | rfl
  ·exact⟨_,a1,λv q=>nomatch q⟩
  ·exact⟨_,a2,λv q=>nomatch q⟩
  ·exact⟨_,a3,λv q=>nomatch q⟩
  ·exact⟨_,a4,λv q=>by rw[d4] at q;cases q⟩
  ·exact⟨_,a5,λv q=>by rw[d5] at q;cases q⟩
 keep:=λi h h' st k=>by
  obtain⟨a1,a2,⟨a,b,a3⟩,a4,a5⟩:=st;exact⟨k z (by simp) _ a1,k TI (by simp) _ a2,⟨a,b,k TO (by simp) _ a3⟩,a4.at λo e=>k i1 (by simp) o e,a5.at λo e=>k i2 (by simp) o e⟩
 item:=by
  intro X hP hw hK hc i pins s σ H E I hf st hg;subst hP hw hK;obtain⟨xs,ys,x,y,h1,h2,hx,hy⟩:=hg;obtain⟨its1,r1,p1,_⟩:=I.list (SqL.of h1);obtain⟨its2,r2,p2,_⟩:=I.list (SqL.of h2);obtain⟨u1,hu1,ru1⟩:=r1.get hx;obtain⟨u2,hu2,ru2⟩:=r2.get hy;refine Ql6 D st (Y5 p1) (Y5 p2) (by simpa using hu1) (by simpa using hu2) λh' st' tp kp=>?_
  have hlt:∀b∈[z,TI,TO,i1,i2],b≠s.heap.objs.size:=λb hb=>by
   obtain⟨a1,a2,⟨_,_,a3⟩,⟨o4,a4,_,d4⟩,⟨o5,a5,_,d5⟩⟩:=st;simp only[Qr,Q6,or_false] at hb;rcases hb with rfl | rfl | rfl | rfl | rfl
   ·exact QH (Qp a1)
   ·exact QH (Qp a2)
   ·exact QH (Qp a3)
   ·exact QH (Qp a4)
   ·exact QH (Qp a5)
  have fr:H s.heap.objs.size=none:=I.hok.fresh (Qj _);refine⟨_,rfl,QlT st'.zp λh2' z2 s2=>?_⟩;have I1:Inv X pins σ (upd H s.heap.objs.size (.tup [x,y])) { s with heap:=h2',toks:=s.toks }:=by
   refine I.turnedNew (ch:=[z,TI,TO,i1,i2]) hf (λb u hb e=>?_) (Qj _) ⟨by show 2<=sizeLine;decide,[u1,u2],.cons ru1 (.cons ru2 .nil),?_⟩
   ·simp only[Qr,Q6,or_false,not_or] at hb;exact s2.extBut _ _ hb.1 (kp b u hb.1 hb.2.2.1 hb.2.2.2.1 hb.2.2.2.2 e)
   ·exact⟨_,s2.extBut _ _ (hlt z (by simp)).symm tp,rfl,0,rfl⟩
  refine⟨.ref s.heap.objs.size,_,I1,rfl,⟨_,x,y,fr,λxs' e=>?_,λys' e=>?_,rfl,rfl⟩,?_,λb hb=>?_⟩
  ·rw[h1] at e;cases e;exact hx
  ·rw[h2] at e;cases e;exact hy
  ·obtain⟨a1,a2,⟨a,b,a3⟩,a4,a5⟩:=st';exact⟨z2,s2.extBut _ _ D.TIz a2,⟨a,b,s2.extBut _ _ D.TOz a3⟩,a4.extBut s2.extBut D.i1z,a5.extBut s2.extBut D.i2z⟩
  ·rw[JY (hlt b hb)];exact(hf b hb).1
 done:=by
  intro X hP hw hK hc i pins s σ H E I hf st hg;subst hP hw hK;obtain⟨xs,ys,h1,h2,he⟩:=hg;obtain⟨its1,r1,p1,_⟩:=I.list (SqL.of h1);obtain⟨its2,r2,p2,_⟩:=I.list (SqL.of h2);have l1:=r1.length;have l2:=r2.length;refine Qpd (I.ok.hd hc) D st (Y5 p1) (Y5 p2) ?_ λh' kp=>⟨rfl,I.turnedAll (t':=s.toks) (ch:=[z,TI,TO,i1,i2]) hf λb u hb e=>?_⟩
  ·rcases he with q | q
   ·exact .inl (by simp;omega)
   ·exact .inr (by simp;omega)
  ·simp only[Qr,Q6,or_false,not_or] at hb;exact kp b u hb.1 hb.2.2.1 hb.2.2.2.1 hb.2.2.2.2 e
 self:=λ_ _ _ _ _ st h=>Qdw st.zp h
section
variable{X:Cx}
theorem QlM(n t1 t2:Nat)(h1:t1<n)(h2:t2<n):Qzs (n+4) (n+2) (n+3) n (n+1) t1 t2 where
 TIz:=by show ¬(n+2=n+4);omega
 TOz:=by show ¬(n+3=n+4);omega
 i1z:=by show ¬(n=n+4);omega
 i2z:=by show ¬(n+1=n+4);omega
 TITO:=by show ¬(n+2=n+3);omega
 TIi1:=by show ¬(n+2=n);omega
 TIi2:=by show ¬(n+2=n+1);omega
 TOi1:=by show ¬(n+3=n);omega
 TOi2:=by show ¬(n+3=n+1);omega
 i12:=by show ¬(n=n+1);omega
 l1z:=by show ¬(t1=n+4);omega
 l1TO:=by show ¬(t1=n+3);omega
 l1i1:=by show ¬(t1=n);omega
 l1i2:=by show ¬(t1=n+1);omega
 l2z:=by show ¬(t2=n+4);omega
 l2TO:=by show ¬(t2=n+3);omega
 l2i1:=by show ¬(t2=n);omega
 l2i2:=by show ¬(t2=n+1);omega
def QA7(ta:TA):TI:=λσ H R=>ta σ H λvs H1=>∃t1 t2 xs ys,vs=[.ref t1,.ref t2]/\H1 t1=some (.lst xs)/\H1 t2=some (.lst ys)/\R (QCo t1 t2) H1
theorem QoA:bootBuiltins "zip" = some (.type "zip"):=by decide +kernel
theorem Qui{a b:Q2}{elts:List Q2}{x1}{tpos:Pos}{ta:TA}{p pos:Pos}(hg:Gl X "zip")(hm:X.mg "zip" = none)(ha:PA X [a,b] ta)(hs:starEach [a,b] X.env=[(false,eval a X.env),(false,eval b X.env)]:=by rfl)(hs2:starEach [b] X.env=[(false,eval b X.env)]:=by rfl) :
  PI X (.Tuple elts x1 tpos) (.Call (.Name "zip" p) [a,b] [] pos) (QA7 ta):=by
 intro pins s σ H R I h;refine Call_ (QcN I hg hm QoA (JH (thn (ha pos pins s σ H _ I h) λus s1 ⟨vs,H1,I1,r1,q1⟩=>?_) (by rw[hs,hs2]) (by rw[hs2];rfl)));obtain⟨t1,t2,xs,ys,e,h1,h2,q⟩:=q1;subst e;obtain⟨u,v,rfl,ru,rv⟩:=vals2 r1;cases(show u=QU t1 from ru);cases(show v=QU t2 from rv);obtain⟨its1,w1,p1,_⟩:=I1.list (SqL.of h1);obtain⟨its2,w2,p2,_⟩:=I1.list (SqL.of h2);have n1:t1<s1.heap.objs.size:=I1.hok.lt h1;have n2:t2<s1.heap.objs.size:=I1.hok.lt h2;refine Ql7 (Y5 p1) (Y5 p2) λh' st kp=>?_
 refine Qdw (s:={ s1 with heap:=h' }) st.zp ?_
 have D:=QlM s1.heap.objs.size t1 t2 n1 n2;refine⟨s1.heap.objs.size+4,_,_,_,H1,rfl,I1.kept (t':=s1.toks) kp,Qma D,st,λb hb=>?_,q⟩;have hb':s1.heap.objs.size<=b:=by
  simp only[Qr,Q6,or_false] at hb;rcases hb with rfl | rfl | rfl | rfl | rfl<;>omega
 exact I1.fpOk hb' (I1.hok.fresh hb')
end
def Qxp(K:PySem.W.Frag):List V->Hp->VK->Prop:=λxs H Q=>∃p ys,xs=[.ref p]/\(SqL K H p ys∨SqT K H p ys)/\Q (.int ys.length) H
def QAA:List V->Hp->VK->Prop:=λxs H Q=>(∃i,xs=[.int i]/\Q (.int i) H)∨∃k,xs=[.bl k]/\Q (.int (if k then 1 else 0)) H
theorem Qow:bootBuiltins "sum" = some (.builtin "sum"):=by decide +kernel
theorem Qox:bootBuiltins "sorted" = some (.builtin "sorted"):=by decide +kernel
def Qxj(K:PySem.W.Frag):List V->Hp->VK->Prop:=λxs H Q=>∃(p:Addr)(ns:List Int),xs=[.ref p]/\SqL K H p (ns.map V.int)/\Q (.int ns.sum) H
def CMulB(i j:Int):Prop:=∃k:Nat,k<=1000000/\i.natAbs<2^k/\j.natAbs<2^k
theorem QoG{i:Int}{k:Nat}(h:i.natAbs<2^k):Zq i<=k:=by
 unfold Zq;split
 ·exact Qt _
 ·rename_i z
  have hz:i.natAbs≠0:=by
   intro q;apply z
   have:i=0:=by omega
   subst this;rfl
  have:=(Nat.log2_lt hz).mpr h;omega
theorem CMulB.ok{i j:Int}(h:CMulB i j):IntMulOk i j:=by
 obtain⟨k,hk,h1,h2⟩:=h;have a:=QoG h1;have b:=QoG h2;unfold IntMulOk;have c:Qgb (Zq i+Zq j:Nat)=false:=by
  unfold Qgb;rw[decide_eq_false];have:bitsLine=134217728:=by decide +kernel
  rw[this];omega
 intro z;rw[JR] at z;have z2:=z.2;have e:((Zq i+Zq j:Nat):Int)=(Zq i:Int)+(Zq j:Int):=by omega
 rw[e] at c;rw[c] at z2;cases z2
section
variable{X:Cx}
theorem QuQ:OpR X (binaryOp .Mult) (rI CMulB λi j=>.int (i*j)):=opI λ_ _ _ _ _ _ _ hc q=>mul_int q hc.ok
theorem QrO:QCk X (QzH X.K):=by
 intro pins s σ H o i ov iv Q I ro ri h;obtain⟨p,xs,k,z,rfl,rfl,hq,he,q⟩:=h;cases ro;obtain⟨t,rfl⟩:=ri;obtain⟨its,r,pl,hz⟩:=I.list hq;obtain⟨j,h1,h2,h3,h4,h5⟩:=Qjq he;obtain⟨w,ew,rw'⟩:=r.get h2;have hl:=r.length;have hn:=QfR;have fin:EP X pins σ Q w s:=⟨z,H,I,rw',q⟩;by_cases h0:0<=k
 ·have hj:k.toNat=j:=by
   rw[QkT h0 h5] at h1;exact Qu h1
  exact wpAny_getItem_list pl.isList h0 (by omega) (by rw[hj];simpa using ew) fin
 ·have hj:(k+(its.toArray.size:Int)).toNat=j:=by
   rw[Qik (by omega) h4] at h1;rw[Qo,<- hl];exact Qu h1
  exact Qse pl.isList (by omega) (by rw[Qo]<;>omega) (by omega) (by rw[hj];simpa using ew) fin
theorem Qfg(hc:X.calm=true):CallR X (.builtin "sum") (Qxj X.K):=by
 intro pins s σ H xs us Q I r h;obtain⟨p,ns,rfl,hp,q⟩:=h;obtain⟨u,rfl,ru⟩:=vals1 r;cases ru;obtain⟨its,rv,pl,hz⟩:=I.list hp;have hi:IntsAre its ns:=intsAre_of rv;obtain⟨ys,hx⟩:=hi.allInts.items;have hl':s.heap.IsList p (intItems ys):=hx ▸ pl.isList;refine sum_intListG (I.ok.hd hc) hl' λh' tk t' hk=>?_
 have e1:ns=ys.toList.map (·.1):=by
  rw[<- nums_intItems,<- hx];exact(show numsOf its.toArray.toList=ns from hi.numsOf).symm
 have e2:preSum (numAt ys) ys.size=ns.sum:=by
  rw[preSum_eq,ZR (by simp),e1]
 rw[e2];exact⟨.int _,H,I.kept hk,⟨_,rfl⟩,q⟩
end
end L2
namespace Rk
open L2 _root_.Rd
def QBK(u:Nat):R2:=λx y H Q=>∃dx dy,Dat H x dx/\Dat H y dy/\u+min dx.depth dy.depth<cLine/\Q (.bl (!QL dx dy)) H
theorem Qx5{X:Cx}:OpR X (compareOp .NotEq) (QBK X.A.units):=Qx6
def QBP(u:Nat):R2:=λx y H Q=>∃dx dy,Dat H x dx/\Dat H y dy/\u+min dx.depth dy.depth<cLine/\Q (.bl (QL dx dy)) H
theorem Qx8{X:Cx}:OpR X (compareOp .Eq) (QBP X.A.units):=Qx9
theorem Qm4{X:Cx}:OpR X (compareOp .NotIn) (QBN X.A.in1.units true):=Qm5
mutual
def noL:Qa->Bool
 |.tuple ds=>Qrr ds
 |.list _=>false
 |.dict _=>false
 |_=>true
def Qrr:List Qa->Bool
 |[]=>true
 |d::ds=>noL d&&Qrr ds
end
theorem Qkc:∀{ds:List Qa},(∀d∈ds,noL d=true)->Qrr ds=true
 |[],_=>rfl
 |d::ds,h=>by
  show(noL d&&Qrr ds)=true;rw[h d (by simp),Qkc λe he=>h e (by simp[he])];rfl
mutual
theorem Qkx{H:Hp}{pl:Addr}{ys:List V}{o:HO}(e:H pl=some (.lst ys)):∀(d:Qa)(x:V),noL d=true->Dat H x d->Dat (upd H pl o) x d
 |.none,_,_,.non=>.non
 |.bool b,_,_,.bl _=>.bl b
 |.int i,_,_,.int _=>.int i
 |.str z,_,_,.str _ c=>.str z c
 |.tuple ds,_,n,.tup (a:=a) (xs:=xs) ea q=>.tup (by rw[JY (λz=>by rw[z,e] at ea;cases ea)];exact ea) (Qfa e ds xs n q)
 |.list ds,_,n,_=>by cases n
theorem Qfa{H:Hp}{pl:Addr}{ys:List V}{o:HO}(e:H pl=some (.lst ys)):∀(ds:List Qa)(xs:List V),Qrr ds=true->Dats H xs ds->Dats (upd H pl o) xs ds
 |[],_,_,.nil=>.nil
 |d::ds,_,n,.cons q r=>by
  have n':=Qy.mp (show(noL d&&Qrr ds)=true from n);exact .cons (Qkx e d _ n'.1 q) (Qfa e ds _ n'.2 r)
end
theorem Qn8{H:Hp}{xs:List V}{ds:List Qa}{x:V}{d:Qa}(h:Dats H xs ds)(q:Dat H x d):Dats H (xs++[x]) (ds++[d]):=h.app (.cons q .nil)
theorem QgM{α:Type}{F:α->Option Qa}{l:List α}(h:∀i∈l,∀d,F i=some d->noL d=true):Qrr (l.filterMap F)=true:=by
 refine Qkc λd hd=>?_
 obtain⟨i,hi,e⟩:=ZF.mp hd;exact h i hi d e
theorem QrX{J:It}{σ:L2.St}{g:TG}{tc:TT}{te:TE}{pl:Addr}{H1:Hp}{Qn:Hp->Prop}(n:Nat)(hn:n<sizeLine)(F:Nat->Option Qa)(hF:∀i,i<n->∀d,F i=some d->noL d=true)(hp:H1 pl=none)
  (hs:∀i H2,i<n->Same H1 H2->(∃ys,H2 pl=some (.lst ys))->J.go i H2/\∀x H3,J.yld i H2 x H3->∀(kn:Hp->Prop)(kv:VK),(F i=none->∀H6,Same H2 H6->kn H6) ->
   (∀d v H6,F i=some d->Same H2 H6->Dat H6 v d->kv v H6) ->
   g x σ H3 λσ4 H4=>Wk σ σ4/\tc σ4 H4 λb H5=>if b=true then te σ4 H5 kv else kn H5)
  (hst:∀H2,Same H1 H2->J.stop n H2) (hq:∀H2 ys,Same H1 H2->H2 pl=some (.lst ys)->Dats H2 ys ((Qk n).filterMap F)->Qn H2) :
  Qhr J (bOf σ g tc (Qww pl te)) Qn (upd H1 pl (.lst [])):=by
 refine Qd1 n (λi H2=>i<=n/\Same H1 H2/\∃ys,H2 pl=some (.lst ys)/\Dats H2 ys ((Qk i).filterMap F)) ⟨Qt _,JS hp,[],JN,.nil⟩ (λi H2 hi ⟨_,s2,ys,e2,c2⟩=>?_) λH2 ⟨_,s2,ys,e2,c2⟩=>⟨hst H2 s2,hq H2 ys s2 e2 c2⟩
 obtain⟨go,st⟩:=hs i H2 hi s2 ⟨ys,e2⟩;refine⟨go,λx H3 y k hk=>?_⟩;have er:(Qk (i+1)).filterMap F=(Qk i).filterMap F++(F i).toList:=by
  rw[ZN,ZB];cases e:F i<;>simp[e]
 refine st x H3 y k (λv H6=>∃ys,H6 pl=some (.lst ys)/\ys.length<sizeLine/\k (upd H6 pl (.lst (ys++[v])))) (λe H6 s6=>?_) λd v H6 e s6 dv=>?_
 ·refine hk _ ⟨hi,s2.trans s6,ys,s6 _ _ e2,?_⟩;rw[er,e]
  simpa using c2.same s6
 ·have e6:=s6 _ _ e2;refine⟨_,e6,?_,hk _ ⟨hi,λb o q=>?_,ys++[v],JN,?_⟩⟩
  ·have l1:=c2.length;have:((Qk i).filterMap F).length<=i:=by
    have:=Qiz F (Qk i)
    rwa [Qz] at this
   omega
  ·rw[JY (Zl q hp)];exact s6 b o (s2 b o q)
  ·rw[er,e];exact Qn8 (Qfa e6 _ _ (QgM λj hj=>hF j (by have:=QF.mp hj;omega)) (c2.same s6)) (Qkx e6 _ _ (hF i hi d e) dv)
theorem Qu8{σ:L2.St}{H:Hp}{A B:Hp->Prop}(h:A H):QiL σ H λb H5=>if b=true then A H5 else B H5:=by
 show(if true=true then A H else B H);exact QrE h
def Qh2(ns:List Int):Qa:=.tuple (ns.map Qc)
theorem Qfb{H:Hp}:∀(ns:List Int),Dats H (ns.map V.int) (ns.map Qc)
 |[]=>.nil
 |n::ns=>.cons (.int n) (Qfb ns)
theorem Qh1{H:Hp}:∀{ns:List Int}{xs:List V},Dats H xs (ns.map Qc)->xs=ns.map V.int
 |[],_,.nil=>rfl
 |n::ns,_,.cons (.int _) r=>by rw[Qh1 r];rfl
theorem Qh5{H:Hp}{v:V}{ns:List Int}(h:Dat H v (Qh2 ns)):∃t,v=.ref t/\H t=some (.tup (ns.map V.int)):=by
 unfold Qh2 at h;cases h with
 |@tup a xs _ e q=>exact⟨a,rfl,by rw[e,Qh1 q]⟩
theorem QnD{H:Hp}{t:Addr}{ns:List Int}(e:H t=some (.tup (ns.map V.int))):Dat H (.ref t) (Qh2 ns):=.tup e (Qfb ns)
theorem QhQ:∀ns:List Int,Qrr (ns.map Qc)=true
 |[]=>rfl
 |n::ns=>by show(true&&Qrr (ns.map Qc))=true;rw[QhQ ns];rfl
theorem Qnd(ns:List Int):noL (Qh2 ns)=true:=QhQ ns
end Rk
namespace Rx
open PySem.Calls L2
end Rx
namespace Rk
open L2 _root_.Rd
theorem Qvl{n:Nat}(h:n<=1000000):n<sizeLine:=YG h (by decide)
theorem Qvs{n k:Nat}(h:k<n):ixN n (k:Nat)=some k:=by
 unfold ixN;rw[if_pos (by omega),if_pos (by omega)];simp
end Rk
namespace HT
section
open PySem.SeqAt
open PySem.AutoSeq1 (wpAny_loadPart')
open PySem.MeetsSeq PySem.MeetsSeq2 PySem.MeetsSeq3
end
section
variable{prog:QD}{w:Jl}{A:Je}{E:Value->Shared->Prop}{s:Shared}
end
end HT
namespace L2
def Qxl(K:PySem.W.Frag):V->Option Int->Option Int->Hp->VK->Prop:=λx lo hi H Q=>∃a xs,x=.ref a/\SqL K H a xs/\∀p H',Same H H'->H p=none->H' p=some (.lst (QkB xs lo hi))->Q (.ref p) H'
theorem Qpq{X:Cx}:SlR X (Qxl X.K):=by
 intro pins s σ H x v vl vu lo hi sl Q I rx hs pl pu h;obtain⟨a,xs,e,hx,q⟩:=h;exact QtP pins s σ H x v vl vu lo hi sl Q I rx hs pl pu ⟨a,xs,e,hx,λp hp=>q p _ (JS hp) hp JN⟩
theorem cut_last(xs:List V):(QkB xs (some (-1)) none).length<=1:=by
 unfold QkB;rw[Jo,ZH];have h2:xs.length - 1<=HT.sIx xs.length 0 (some (-1)):=by
  show xs.length - 1<=(if(-1:Int)<0 then((-1:Int)+(xs.length:Int)).toNat else min (-1:Int).toNat xs.length);rw[if_pos (by decide)];omega
 omega
end L2
namespace Rk
open L2 _root_.Rd
theorem QhD{α β:Type}(l:List α)(d:α)(P:α->Bool)(f:α->β):(Qk l.length).filterMap (λi=>if P (l.getD i d)=true then some (f (l.getD i d)) else none)=(l.filter P).map f:=by
 have h:=Qes l d P;rw[<- h,QbB];refine congrArg (λg=>QwI g (Qk l.length)) (funext λi=>?_);by_cases hm:P (l.getD i d)=true
 ·rw[if_pos hm,if_pos hm];rfl
 ·rw[if_neg hm,if_neg hm];rfl
theorem QrD{H:Hp}{ys:List V}{os:List (List Int)}{i:Nat}{x:V}(h:Dats H ys (os.map Qh2))(e:ys[i]? = some x):i<os.length/\∃t,x=.ref t/\H t=some (.tup ((os.getD i []).map V.int)):=by
 obtain⟨d,hd,qd⟩:=h.get i x e;have hi:i<os.length:=by
  have:=(QR.mp hd).1
  rwa [Qg] at this
 refine⟨hi,?_⟩;have ed:d=Qh2 (os.getD i []):=by
  rw[Qq,Qf hi] at hd;cases hd;rw[Qh,Qf hi];rfl
 subst ed;exact Qh5 qd
end Rk
namespace L2
section
variable{X:Cx}
def QmF(K:PySem.W.Frag):List V->Hp->VK->Prop:=λxs H Q=>∃p ys,xs=[.ref p]/\((SqL K H p ys/\∀l H',Same H H'->H l=none->H' l=some (.tup ys)->Q (.ref l) H')∨(SqT K H p ys/\Q (.ref p) H))
theorem Qbi:CallR X (.type "tuple") (QmF X.K):=by
 intro pins s σ H xs us Q I r h;obtain⟨p,ys,e,h⟩:=h;refine QgX pins s σ H xs us Q I r ⟨p,ys,e,?_⟩;rcases h with⟨h1,h2⟩ | h
 ·exact .inl ⟨h1,λl hl=>h2 l _ (JS hl) hl JN⟩
 ·exact .inr h
def QmH(K:PySem.W.Frag):List V->Hp->VK->Prop:=λxs H Q=>∃p ys,xs=[.ref p]/\(SqL K H p ys∨SqT K H p ys)/\∀l H',Same H H'->H l=none->H' l=some (.lst ys)->Q (.ref l) H'
theorem QgY:CallR X (.type "list") (QmH X.K):=by
 intro pins s σ H xs us Q I r h;obtain⟨p,ys,e,h1,h2⟩:=h;exact Qib pins s σ H xs us Q I r ⟨p,ys,e,h1,λl hl=>h2 l _ (JS hl) hl JN⟩
end
end L2
namespace Rk
open L2 _root_.Rd
def Qdh:Nat->(Nat->Int)->Int
 |0,_=>0
 |n+1,f=>Qdh n f+f n
theorem QfA{n:Nat}{f g:Nat->Int}(h:∀i,i<n->f i=g i):Qdh n f=Qdh n g:=by
 induction n with
 |zero=>rfl
 |succ n ih=>rw[Qdh,Qdh,ih λi hi=>h i (by omega),h n (by omega)]
theorem Qml(n:Nat)(c:Int)(f:Nat->Int):Qdh n (λi=>c*f i)=c*Qdh n f:=by
 induction n with
 |zero=>simp[Qdh]
 |succ n ih=>rw[Qdh,Qdh,ih,Qhl]
end Rk
namespace L2
section
variable{X:Cx}
theorem QA6{op:Qco}{r:R2}(h:OpR X (inplaceOp op) r):PIp X op r:=λpins s σ H x y v u Q I rx ry q=>h pins s σ H x y v u Q I rx ry q
end
section
variable{X:Cx}
end
end L2
namespace Rk
open L2 _root_.Rd
end Rk
namespace Rx
open PySem.Calls L2
section
variable{X:Cx}{e:Q2}{st:Y7}{pos:Pos}{te:TX}{t u:TSX}{tc:TT}{c:Q2}{a b:List Y7}
end
section
variable{X:Cx}{R:Addr}{i:Nat}{n r:Str}{body:List Y7}{hx:Q2}{tb:TSX}{th:TE}{np hp hpos pos:Pos}
end
end Rx
namespace L2
section
variable{X:Cx}
end
end L2
namespace Rk
open L2 _root_.Rd
end Rk
namespace Dl
open L2 _root_.Rd Rk
mutual
inductive DA (A:Addr->Prop) (H:Hp):V->Qa->Prop
 |non:DA A H .non .none
 |bl (b:Bool):DA A H (.bl b) (.bool b)
 |int (i:Int):DA A H (.int i) (.int i)
 |str (x:Str):Qg6 (.str x)=true->DA A H (.str x) (.str x)
 |tup {a:Addr} {xs:List V} {ds:List Qa}:¬A a->H a=some (.tup xs)->DAs A H xs ds->DA A H (.ref a) (.tuple ds)
 |lst {a:Addr} {xs:List V} {ds:List Qa}:¬A a->H a=some (.lst xs)->DAs A H xs ds->DA A H (.ref a) (.list ds)
 |dct {a:Addr}:¬A a->H a=some (.dK [])->DA A H (.ref a) (.dict [])
inductive DAs (A:Addr->Prop) (H:Hp):List V->List Qa->Prop
 |nil:DAs A H [] []
 |cons {x:V} {xs:List V} {d:Qa} {ds:List Qa}:DA A H x d->DAs A H xs ds->DAs A H (x::xs) (d::ds)
end
mutual
theorem QyX{A A':Addr->Prop}{H H':Hp}(k:∀a o,¬A a->H a=some o->H' a=some o)(m:∀a,A' a->A a∨H a=none):∀(d:Qa)(x:V),DA A H x d->DA A' H' x d
 |.none,_,.non=>.non
 |.bool _,_,.bl _=>.bl _
 |.int _,_,.int _=>.int _
 |.str _,_,.str _ c=>.str _ c
 |.tuple ds,_,.tup (xs:=xs) n e q=>.tup (λz=>(m _ z).elim n λz=>by rw[z] at e;cases e) (k _ _ n e) (Qky k m ds xs q)
 |.list ds,_,.lst (xs:=xs) n e q=>.lst (λz=>(m _ z).elim n λz=>by rw[z] at e;cases e) (k _ _ n e) (Qky k m ds xs q)
 |.dict _,_,.dct n e=>.dct (λz=>(m _ z).elim n λz=>by rw[z] at e;cases e) (k _ _ n e)
theorem Qky{A A':Addr->Prop}{H H':Hp}(k:∀a o,¬A a->H a=some o->H' a=some o)(m:∀a,A' a->A a∨H a=none):∀(ds:List Qa)(xs:List V),DAs A H xs ds->DAs A' H' xs ds
 |[],_,.nil=>.nil
 |d::ds,_,.cons (x:=x) (xs:=xs) q qs=>.cons (QyX k m d x q) (Qky k m ds xs qs)
end
theorem DA.mv{A A':Addr->Prop}{H H':Hp}{x:V}{d:Qa}(q:DA A H x d)(k:∀a o,¬A a->H a=some o->H' a=some o)(m:∀a,A' a->A a∨H a=none):DA A' H' x d:=QyX k m d x q
theorem DAs.mv{A A':Addr->Prop}{H H':Hp}{x:List V}{d:List Qa}(q:DAs A H x d)(k:∀a o,¬A a->H a=some o->H' a=some o)(m:∀a,A' a->A a∨H a=none):DAs A' H' x d:=Qky k m d x q
theorem DA.same{A:Addr->Prop}{H H':Hp}{x:V}{d:Qa}(q:DA A H x d)(s:Same H H'):DA A H' x d:=q.mv (λa o _ e=>s a o e) λa z=>.inl z
theorem DAs.same{A:Addr->Prop}{H H':Hp}{x:List V}{d:List Qa}(q:DAs A H x d)(s:Same H H'):DAs A H' x d:=q.mv (λa o _ e=>s a o e) λa z=>.inl z
theorem DAs.length{A:Addr->Prop}{H:Hp}:∀{xs:List V}{ds:List Qa},DAs A H xs ds->xs.length=ds.length
 |_,_,.nil=>rfl
 |_,_,.cons _ q=>by rw[Qv,Qv,q.length]
theorem DAs.get{A:Addr->Prop}{H:Hp}:∀{xs:List V}{ds:List Qa},DAs A H xs ds->∀(i:Nat)(d:Qa),ds[i]? = some d->∃x,xs[i]? = some x/\DA A H x d
 |_,_,.nil,i,x,e=>by simp at e
 |_,_,.cons q qs,0,x,e=>by simp at e;subst e;exact⟨_,rfl,q⟩
 |_,_,.cons q qs,i+1,x,e=>qs.get i x (by simpa using e)
theorem DAs.app{A:Addr->Prop}{H:Hp}:∀{xs ys:List V}{ds es:List Qa},DAs A H xs ds->DAs A H ys es->DAs A H (xs++ys) (ds++es)
 |_,_,_,_,.nil,q=>q
 |_,_,_,_,.cons a b,q=>.cons a (b.app q)
theorem DAs.take{A:Addr->Prop}{H:Hp}:∀{xs:List V}{ds:List Qa},DAs A H xs ds->∀n:Nat,DAs A H (xs.take n) (ds.take n)
 |_,_,.nil,n=>by rw[Qjy,Qjy];exact .nil
 |_,_,.cons a b,0=>.nil
 |_,_,.cons a b,n+1=>.cons a (b.take n)
theorem DAs.drop{A:Addr->Prop}{H:Hp}:∀{xs:List V}{ds:List Qa},DAs A H xs ds->∀n:Nat,DAs A H (xs.drop n) (ds.drop n)
 |_,_,.nil,n=>by rw[Qzx,Qzx];exact .nil
 |_,_,.cons a b,0=>.cons a b
 |_,_,.cons a b,n+1=>b.drop n
theorem DAs.set{A:Addr->Prop}{H:Hp}{x:V}{d:Qa}(q:DA A H x d):∀{xs:List V}{ds:List Qa},DAs A H xs ds->∀n:Nat,DAs A H (xs.set n x) (ds.set n d)
 |_,_,.nil,n=>.nil
 |_,_,.cons a b,0=>.cons q b
 |_,_,.cons a b,n+1=>.cons a (b.set q n)
mutual
def nd:Qa->Bool
 |.dict _=>false
 |.tuple ds=>nds ds
 |.list ds=>nds ds
 |_=>true
def nds:List Qa->Bool
 |[]=>true
 |d::ds=>nd d&&nds ds
end
mutual
theorem Qs5{A:Addr->Prop}{H:Hp}:∀(d:Qa)(x:V),nd d=true->DA A H x d->Dat H x d
 |.none,_,_,.non=>.non
 |.bool _,_,_,.bl _=>.bl _
 |.int _,_,_,.int _=>.int _
 |.str _,_,_,.str _ c=>.str _ c
 |.tuple ds,_,n,.tup (xs:=xs) _ e q=>.tup e (QbI ds xs n q)
 |.list ds,_,n,.lst (xs:=xs) _ e q=>.lst e (QbI ds xs n q)
theorem QbI{A:Addr->Prop}{H:Hp}:∀(ds:List Qa)(xs:List V),nds ds=true->DAs A H xs ds->Dats H xs ds
 |[],_,_,.nil=>.nil
 |d::ds,_,n,.cons (x:=x) (xs:=xs) q qs=>by
  have n':=Qy.mp (show(nd d&&nds ds)=true from n);exact .cons (Qs5 d x n'.1 q) (QbI ds xs n'.2 qs)
end
theorem Qnh{ds:List Qa}:nds ds=true↔∀d∈ds,nd d=true:=by
 induction ds with
 |nil=>exact⟨(λ_ _ h=>nomatch h),λ_=>rfl⟩
 |cons d ds ih=>
  rw[show nds (d::ds)=(nd d&&nds ds) from rfl,Qy,ih];constructor
  ·rintro⟨a,b⟩ e he;rcases Qr.mp he with z | z
   ·rw[z];exact a
   ·exact b e z
  ·intro h;exact⟨h d (by simp),λe he=>h e (by simp[he])⟩
def DP(A P:Addr->Prop)(H:Hp)(v:V)(d:Qa):Prop:=DA A H v d∨∃l xs ds,v=.ref l/\d=.list ds/\¬P l/\H l=some (.lst xs)/\DAs A H xs ds
theorem DP.dat{A P:Addr->Prop}{H:Hp}{v:V}{d:Qa}(h:DP A P H v d)(n:nd d=true):Dat H v d:=by
 rcases h with h | ⟨l,xs,ds,rfl,rfl,_,e,q⟩
 ·exact Qs5 d v n h
 ·exact .lst e (QbI ds xs n q)
theorem DP.list{A P:Addr->Prop}{H:Hp}{v:V}{ds:List Qa}(h:DP A P H v (.list ds)):∃l xs,v=.ref l/\H l=some (.lst xs)/\DAs A H xs ds:=by
 rcases h with h | ⟨l,xs,ds',rfl,e,_,h2,q⟩
 ·cases h with | lst n e q=>exact⟨_,_,rfl,e,q⟩
 ·cases e;exact⟨l,xs,rfl,h2,q⟩
theorem DP.tuple{A P:Addr->Prop}{H:Hp}{v:V}{ds:List Qa}(h:DP A P H v (.tuple ds)):∃l xs,v=.ref l/\H l=some (.tup xs)/\DAs A H xs ds:=by
 rcases h with h | ⟨l,xs,ds',rfl,e,_⟩
 ·cases h with | tup n e q=>exact⟨_,_,rfl,e,q⟩
 ·cases e
theorem DP.int{A P:Addr->Prop}{H:Hp}{v:V}{i:Int}(h:DP A P H v (.int i)):v=.int i:=by
 rcases h with h | ⟨l,xs,ds',rfl,e,_⟩
 ·cases h;rfl
 ·cases e
theorem DP.bool{A P:Addr->Prop}{H:Hp}{v:V}{i:Bool}(h:DP A P H v (.bool i)):v=.bl i:=by
 rcases h with h | ⟨l,xs,ds',rfl,e,_⟩
 ·cases h;rfl
 ·cases e
theorem DP.none{A P:Addr->Prop}{H:Hp}{v:V}(h:DP A P H v .none):v=.non:=by
 rcases h with h | ⟨l,xs,ds',rfl,e,_⟩
 ·cases h;rfl
 ·cases e
theorem DP.str{A P:Addr->Prop}{H:Hp}{v:V}{x:Str}(h:DP A P H v (.str x)):v=.str x/\Qg6 (.str x)=true:=by
 rcases h with h | ⟨l,xs,ds',rfl,e,_⟩
 ·cases h with | str _ c=>exact⟨rfl,c⟩
 ·cases e
inductive Sl where
 |no | pot | scr
 |v (d:Qa)
 |own (ds:List Qa)
 |pk (ds:List Qa)
abbrev Sts:=List Sl
structure Fm where
 H0:Hp
 A0:Addr->Prop
 pt:Addr->Prop
def QCl(σ:L2.St)(δ:Sts)(i:Nat)(a:Addr):Prop:=σ[i]? = some (some (.ref a))/\(δ[i]? = some .pot∨∃ds,δ[i]? = some (.own ds))
def Av(F:Fm)(σ:L2.St)(δ:Sts)(a:Addr):Prop:=F.A0 a∨∃i,QCl σ δ i a
def Yn(σ:L2.St)(δ:Sts)(a:Addr):Prop:=∃i:Nat,σ[i]? = some (some (.ref a))/\δ[i]? = some .pot
def QCj(K:PySem.W.Frag)(F:Fm)(H:Hp)(A:Addr->Prop)(o:Option V):Sl->Prop
 |.no=>True
 |.v d=>∃v,o=some v/\DA A H v d
 |.own ds=>∃l xs,o=some (.ref l)/\H l=some (.lst xs)/\DAs A H xs ds/\F.H0 l=none
 |.pk ds=>∃l xs,o=some (.ref l)/\H l=some (.lst xs)/\DAs A H xs ds/\∃ys,F.H0 l=some (.lst ys)/\¬F.pt l
 |.pot=>∃p n,o=some (.ref p)/\H p=some (.lst [.int n])/\(F.pt p∨F.H0 p=none)
 |.scr=>∃a ns,o=some (.ref a)/\SqL K F.H0 a ((ns:List Int).map V.int)/\¬F.pt a/\ns.length<=63
structure Rel (K:PySem.W.Frag) (F:Fm) (σ:L2.St) (H:Hp) (δ:Sts):Prop where
 len:σ.length=δ.length
 dom:∀a,F.A0 a->∃xs,H a=some (.lst xs)
 dom0:∀a,F.A0 a->∃xs,F.H0 a=some (.lst xs)
 pt0:∀p,F.pt p->F.A0 p/\∃n,H p=some (.lst [.int n])
 kx:∀b o,¬F.pt b->F.H0 b=some o->H b=some o
 sl:∀(i:Nat) o x,σ[i]? = some o->δ[i]? = some x->QCj K F H (Av F σ δ) o x
 inj:∀(i j:Nat) a ds,δ[i]? = some (.own ds)->σ[i]? = some (some (.ref a))->QCl σ δ j a->i=j
def Kp(σ:L2.St)(δ:Sts)(H H':Hp):Prop:=(∀b o,¬Yn σ δ b->H b=some o->H' b=some o)/\∀b,Yn σ δ b->∃n,H' b=some (.lst [.int n])
def Stp(F:Fm)(σ:L2.St)(H:Hp)(δ:Sts)(σ':L2.St)(H':Hp)(δ':Sts):Prop:=(∀b o,¬Av F σ δ b->H b=some o->H' b=some o)/\∀b,Av F σ' δ' b->Av F σ δ b∨H b=none
def Ke(F:Fm)(H':Hp):Prop:=(∀b o,¬F.pt b->F.H0 b=some o->H' b=some o)/\∀p,F.pt p->∃n,H' p=some (.lst [.int n])
theorem Qaq{F:Fm}{σ:L2.St}{δ:Sts}{a:Addr}(h:Yn σ δ a):Av F σ δ a:=let ⟨i,h1,h2⟩:=h;.inr ⟨i,h1,.inl h2⟩
theorem Rel.ke{K:PySem.W.Frag}{F:Fm}{σ:L2.St}{H:Hp}{δ:Sts}(r:Rel K F σ H δ):Ke F H:=⟨r.kx,λp hp=>(r.pt0 p hp).2⟩
theorem Rel.isl{K:PySem.W.Frag}{F:Fm}{σ:L2.St}{H:Hp}{δ:Sts}(r:Rel K F σ H δ){a:Addr}(h:Av F σ δ a):∃xs,H a=some (.lst xs):=by
 rcases h with h | ⟨i,h1,h2⟩
 ·exact r.dom a h
 ·rcases h2 with h2 | ⟨ds,h2⟩
  ·obtain⟨p,n,e,h,_⟩:=r.sl i _ _ h1 h2;cases e;exact⟨_,h⟩
  ·obtain⟨l,xs,e,h,_⟩:=r.sl i _ _ h1 h2;cases e;exact⟨_,h⟩
theorem Kp.refl{K:PySem.W.Frag}{F:Fm}{σ:L2.St}{H:Hp}{δ:Sts}(r:Rel K F σ H δ):Kp σ δ H H:=⟨λ_ _ _ e=>e,λb ⟨i,h1,h2⟩=>by
 obtain⟨p,n,e,h,_⟩:=r.sl i _ _ h1 h2;cases e;exact⟨n,h⟩⟩
theorem Kp.trans{σ:L2.St}{δ:Sts}{H H1 H2:Hp}(a:Kp σ δ H H1)(b:Kp σ δ H1 H2):Kp σ δ H H2:=⟨λc o n e=>b.1 c o n (a.1 c o n e),b.2⟩
theorem Kp.same{K:PySem.W.Frag}{F:Fm}{σ:L2.St}{H H':Hp}{δ:Sts}(r:Rel K F σ H δ)(s:Same H H'):Kp σ δ H H':=⟨λb o _ e=>s b o e,λb hb=>let ⟨n,h⟩:=(Kp.refl r).2 b hb;⟨n,s _ _ h⟩⟩
theorem Kp.da{F:Fm}{σ:L2.St}{H H':Hp}{δ:Sts}{v:V}{d:Qa}(k:Kp σ δ H H')(h:DA (Av F σ δ) H v d):DA (Av F σ δ) H' v d:=h.mv (λa o n e=>k.1 a o (λz=>n (Qaq z)) e) λa z=>.inl z
theorem Kp.das{F:Fm}{σ:L2.St}{H H':Hp}{δ:Sts}{v:List V}{d:List Qa}(k:Kp σ δ H H')(h:DAs (Av F σ δ) H v d):DAs (Av F σ δ) H' v d:=h.mv (λa o n e=>k.1 a o (λz=>n (Qaq z)) e) λa z=>.inl z
theorem Kp.dp{F:Fm}{σ:L2.St}{H H':Hp}{δ:Sts}{v:V}{d:Qa}(k:Kp σ δ H H')(h:DP (Av F σ δ) (Yn σ δ) H v d):DP (Av F σ δ) (Yn σ δ) H' v d:=by
 rcases h with h | ⟨l,xs,ds,e1,e2,n,e,q⟩
 ·exact .inl (k.da h)
 ·exact .inr ⟨l,xs,ds,e1,e2,n,k.1 _ _ n e,k.das q⟩
theorem Rel.own_pot{K:PySem.W.Frag}{F:Fm}{σ:L2.St}{H:Hp}{δ:Sts}(r:Rel K F σ H δ){i:Nat}{ds:List Qa}{l:Addr}(h:δ[i]? = some (.own ds))(e:σ[i]? = some (some (.ref l))):¬Yn σ δ l:=by
 rintro⟨j,h1,h2⟩;have:=r.inj i j l _ h e ⟨h1,.inl h2⟩;subst this;rw[h] at h2;cases h2
theorem Rel.pt_pot{K:PySem.W.Frag}{F:Fm}{σ:L2.St}{H H':Hp}{δ:Sts}(r:Rel K F σ H δ)(k:Kp σ δ H H'){p:Addr}(hp:F.pt p):∃n,H' p=some (.lst [.int n]):=by
 by_cases z:Yn σ δ p
 ·exact k.2 p z
 ·obtain⟨n,e⟩:=(r.pt0 p hp).2;exact⟨n,k.1 _ _ z e⟩
theorem Rel.kp{K:PySem.W.Frag}{F:Fm}{σ:L2.St}{H H':Hp}{δ:Sts}(r:Rel K F σ H δ)(k:Kp σ δ H H'):Rel K F σ H' δ where
 len:=r.len
 dom:=λa ha=>by
  by_cases z:Yn σ δ a
  ·exact⟨_,(k.2 a z).choose_spec⟩
  ·obtain⟨xs,e⟩:=r.dom a ha;exact⟨xs,k.1 _ _ z e⟩
 dom0:=r.dom0
 pt0:=λp hp=>⟨(r.pt0 p hp).1,r.pt_pot k hp⟩
 kx:=λb o n e=>by
  by_cases z:Yn σ δ b
  ·obtain⟨i,h1,h2⟩:=z;obtain⟨p,m,e1,h,q⟩:=r.sl i _ _ h1 h2;cases e1;rcases q with q | q
   ·exact absurd q n
   ·rw[q] at e;cases e
  ·exact k.1 _ _ z (r.kx b o n e)
 sl:=λi o x h1 h2=>by
  have h:=r.sl i o x h1 h2;cases x with
  |no=>trivial
  |v d=>obtain⟨v,e,q⟩:=h;exact⟨v,e,k.da q⟩
  |own ds=>obtain⟨l,xs,rfl,e,q,f⟩:=h;exact⟨l,xs,rfl,k.1 _ _ (r.own_pot h2 h1) e,k.das q,f⟩
  |pk ds=>
   obtain⟨l,xs,rfl,e,q,ys,f,f2⟩:=h;refine⟨l,xs,rfl,k.1 _ _ ?_ e,k.das q,ys,f,f2⟩;rintro⟨j,j1,j2⟩;obtain⟨p,m,e1,_,w⟩:=r.sl j _ _ j1 j2;cases e1;rcases w with w | w
   ·exact f2 w
   ·rw[w] at f;cases f
  |pot=>
   obtain⟨p,n,rfl,e,q⟩:=h;obtain⟨m,e'⟩:=k.2 p ⟨i,h1,h2⟩;exact⟨p,m,rfl,e',q⟩
  |scr=>exact h
 inj:=r.inj
theorem Rel.same{K:PySem.W.Frag}{F:Fm}{σ:L2.St}{H H':Hp}{δ:Sts}(r:Rel K F σ H δ)(s:Same H H'):Rel K F σ H' δ:=r.kp (Kp.same r s)
theorem Stp.refl{F:Fm}{σ:L2.St}{H:Hp}{δ:Sts}:Stp F σ H δ σ H δ:=⟨λ_ _ _ e=>e,λ_ z=>.inl z⟩
theorem Stp.trans{F:Fm}{σ σ1 σ2:L2.St}{H H1 H2:Hp}{δ δ1 δ2:Sts}(a:Stp F σ H δ σ1 H1 δ1)(b:Stp F σ1 H1 δ1 σ2 H2 δ2):Stp F σ H δ σ2 H2 δ2:=by
 refine⟨λc o n e=>?_,λc z=>?_⟩
 ·refine b.1 c o (λz=>?_) (a.1 c o n e);rcases a.2 c z with q | q
  ·exact n q
  ·rw[q] at e;cases e
 ·rcases b.2 c z with q | q
  ·exact a.2 c q
  ·by_cases y:Av F σ δ c
   ·exact .inl y
   ·right
    cases e:H c with
    |none=>rfl
    |some o=>rw[a.1 c o y e] at q;cases q
theorem Stp.kp{F:Fm}{σ:L2.St}{H H':Hp}{δ:Sts}(k:Kp σ δ H H'):Stp F σ H δ σ H' δ:=⟨λb o n e=>k.1 b o (λz=>n (Qaq z)) e,λ_ z=>.inl z⟩
theorem Stp.da{F:Fm}{σ σ':L2.St}{H H':Hp}{δ δ':Sts}{v:V}{d:Qa}(k:Stp F σ H δ σ' H' δ')(h:DA (Av F σ δ) H v d):DA (Av F σ' δ') H' v d:=h.mv k.1 k.2
abbrev XP:=Addr->Prop
abbrev DE:=Sts->(Qa->Prop)->XP->Prop
abbrev DT:=Sts->(Bool->Prop)->XP->Prop
abbrev DAr:=Sts->(List Qa->Prop)->XP->Prop
abbrev DSl:=Sts->(List Sl->Prop)->XP->Prop
inductive Md where | D | P | F
def FrV(H H':Hp)(v:V):Prop:=∀l,v=.ref l->(∃xs,H' l=some (.lst xs))->H l=none
def Vok(m:Md)(F:Fm)(σ:L2.St)(δ:Sts)(H H':Hp)(v:V)(d:Qa):Prop:=
 match m with
 |.D=>DA (Av F σ δ) H' v d
 |.P=>DP (Av F σ δ) (Yn σ δ) H' v d
 |.F=>DA (Av F σ δ) H' v d/\FrV H H' v
def Out(F:Fm)(E:XK)(EX:XP):Prop:=∀C,EX C->∀H',Ke F H'->E (.ref C) none H'
def tX(m:Md)(K:PySem.W.Frag)(E:XK)(w:DE):TE:=λσ H Q=>∃(F:Fm)(δ:Sts)(R:Qa->Prop)(EX:XP),Rel K F σ H δ/\w δ R EX/\(∀d,R d->∀v H',Rel K F σ H' δ->Kp σ δ H H'->Vok m F σ δ H H' v d->Q v H')/\Out F E EX
def tT(K:PySem.W.Frag)(E:XK)(w:DT):TT:=λσ H Q=>∃(F:Fm)(δ:Sts)(R:Bool->Prop)(EX:XP),Rel K F σ H δ/\w δ R EX/\(∀b,R b->∀H',Rel K F σ H' δ->Kp σ δ H H'->Q b H')/\Out F E EX
def VD(m:Md)(A P:Addr->Prop)(H:Hp)(v:V)(d:Qa):Prop:=
 match m with
 |.P=>DP A P H v d
 |_=>DA A H v d
def tAr(n:Nat)(m:Md)(K:PySem.W.Frag)(E:XK)(w:DAr):TA:=λσ H Q=>∃(F:Fm)(δ:Sts)(R:List Qa->Prop)(EX:XP),Rel K F σ H δ/\w δ R EX/\(∀ds,R ds->ds.length=n->∀vs H',Rel K F σ H' δ->Kp σ δ H H'->QaY (VD m (Av F σ δ) (Yn σ δ) H') vs ds->Q vs H')/\Out F E EX
def Qjw(A pt:Addr->Prop)(H:Hp)(v:V):Sl->Prop
 |.v d=>DA A H v d
 |.pot=>∃p,v=.ref p/\pt p
 |_=>False
def tAs(K:PySem.W.Frag)(E:XK)(w:DSl):TA:=λσ H Q=>∃(F:Fm)(δ:Sts)(R:List Sl->Prop)(EX:XP),Rel K F σ H δ/\w δ R EX/\(∀ds,R ds->∀vs H',Rel K F σ H' δ->Kp σ δ H H'->QaY (Qjw (Av F σ δ) (Yn σ δ) H') vs ds->Q vs H')/\Out F E EX
theorem Kp.vd{m:Md}{F:Fm}{σ:L2.St}{H H':Hp}{δ:Sts}{v:V}{d:Qa}(k:Kp σ δ H H')(h:VD m (Av F σ δ) (Yn σ δ) H v d):VD m (Av F σ δ) (Yn σ δ) H' v d:=by
 cases m
 ·exact k.da h
 ·exact k.dp h
 ·exact k.da h
theorem Kp.arg{F:Fm}{σ:L2.St}{H H':Hp}{δ:Sts}{v:V}{d:Sl}(k:Kp σ δ H H')(h:Qjw (Av F σ δ) (Yn σ δ) H v d):Qjw (Av F σ δ) (Yn σ δ) H' v d:=by
 cases d with
 |v d=>exact k.da h
 |pot=>exact h
 |_=>exact h.elim
def QcZ(H:Hp):Prop:=∀a xs,H a=some (.lst xs)∨H a=some (.tup xs)->xs.length<=sizeLine
section
variable{X:Cx}{E:XK}
theorem Inv.lens{pins:List (Addr×Obj)}{σ:L2.St}{H:Hp}{s:Shared}(I:Inv X pins σ H s):QcZ H:=λa xs h=>by
 rcases h with h | h
 ·exact(I.hok a _ h).1
 ·exact(I.hok a _ h).1
theorem PE.imp{e:Q2}{t t':TE}(h:PE X e t)(i:∀σ H Q,t' σ H Q->t σ H Q):PE X e t':=λpins s σ H Q I q=>h pins s σ H Q I (i σ H Q q)
theorem PT.imp{e:Q2}{t t':TT}(h:PT X e t)(i:∀σ H Q,t' σ H Q->t σ H Q):PT X e t':=λpins s σ H Q I q=>h pins s σ H Q I (i σ H Q q)
theorem PW.imp{e:Q2}{t t':TT}(h:PW X e t)(i:∀σ H Q,t' σ H Q->t σ H Q):PW X e t':=λwh pins s σ H Q I q=>h wh pins s σ H Q I (i σ H Q q)
theorem PA.imp{e:List Q2}{t t':TA}(h:PA X e t)(i:∀σ H Q,t' σ H Q->t σ H Q):PA X e t':=λpos pins s σ H Q I q=>h pos pins s σ H Q I (i σ H Q q)
theorem OpR.len{f:Value->Value->Sem Value}{r:R2}(h:OpR X f r):OpR X f (λx y H Q=>QcZ H->r x y H Q):=λpins s σ H x y v u Q I rx ry q=>h pins s σ H x y v u Q I rx ry (q (Inv.lens I))
theorem CallR.len{f:Value}{r:List V->Hp->VK->Prop}(h:CallR X f r):CallR X f (λxs H Q=>QcZ H->r xs H Q):=λpins s σ H xs us Q I rx q=>h pins s σ H xs us Q I rx (q (Inv.lens I))
theorem IxR.len{r:R2}(h:IxR X r):IxR X (λx y H Q=>QcZ H->r x y H Q):=λa b pins s σ H x y v u Q I rx ry q hs=>h a b pins s σ H x y v u Q I rx ry (q (Inv.lens I)) hs
theorem OpR.or2{f:Value->Value->Sem Value}{r r':R2}(h:OpR X f r)(h':OpR X f r'):OpR X f (λx y H Q=>r x y H Q∨r' x y H Q):=OpR.or h h'
theorem IxR.or2{r r':R2}(h:IxR X r)(h':IxR X r'):IxR X (λx y H Q=>r x y H Q∨r' x y H Q):=λa b pins s σ H x y v u Q I rx ry q hs=>q.elim (λq=>h a b pins s σ H x y v u Q I rx ry q hs) λq=>h' a b pins s σ H x y v u Q I rx ry q hs
theorem SlR.or2{r r':V->Option Int->Option Int->Hp->VK->Prop}(h:SlR X r)(h':SlR X r'):SlR X (λx a b H Q=>r x a b H Q∨r' x a b H Q):=λpins s σ H x v vl vu lo hi sl Q I rx hs pl pu q=>q.elim (h pins s σ H x v vl vu lo hi sl Q I rx hs pl pu) (h' pins s σ H x v vl vu lo hi sl Q I rx hs pl pu)
theorem toD{e:Q2}{w:DE}(h:PE X e (tX .F X.K E w)):PE X e (tX .D X.K E w):=PE.imp h λσ H Q ⟨F,δ,R,EX,r,hw,k,o⟩=>⟨F,δ,R,EX,r,hw,λd hd v H' r' kp vk=>k d hd v H' r' kp vk.1,o⟩
theorem toP{e:Q2}{w:DE}(h:PE X e (tX .D X.K E w)):PE X e (tX .P X.K E w):=PE.imp h λσ H Q ⟨F,δ,R,EX,r,hw,k,o⟩=>⟨F,δ,R,EX,r,hw,λd hd v H' r' kp vk=>k d hd v H' r' kp (.inl vk),o⟩
theorem QCq{e:Q2}{w:DE}(h:PE X e (tX .F X.K E w)):PE X e (tX .P X.K E w):=toP (toD h)
def QBl(i:Nat):DE:=λδ Q _=>match δ[i]? with
 |some (.v d)=>Q d
 |_=>False
def dPk(i:Nat):DE:=λδ Q _=>match δ[i]? with
 |some (.v d)=>Q d
 |some (.own ds)=>Q (.list ds)
 |some (.pk ds)=>Q (.list ds)
 |_=>False
def dC(d:Qa):DE:=λ_ Q _=>Q d
theorem Rel.lt{K:PySem.W.Frag}{F:Fm}{σ:L2.St}{H:Hp}{δ:Sts}(r:Rel K F σ H δ){i:Nat}{x:Sl}(h:δ[i]? = some x):∃o,σ[i]? = some o:=by
 have:=(QR.mp h).1;exact⟨σ[i]'(by rw[r.len];exact this),Qf _⟩
theorem QxR{e:Q2}{i:Nat}(h:PE X e (QiK i)):PE X e (tX .D X.K E (QBl i)):=PE.imp h λσ H Q ⟨F,δ,R,EX,r,hw,k,o⟩=>by
 unfold QBl at hw;split at hw
 ·rename_i d hd
  obtain⟨x,hx⟩:=r.lt hd;obtain⟨v,rfl,q⟩:=r.sl i _ _ hx hd;exact⟨v,hx,k d hw v H r (Kp.refl r) q⟩
 ·exact hw.elim
theorem QAN{e:Q2}{i:Nat}(h:PE X e (QiK i)):PE X e (tX .P X.K E (dPk i)):=PE.imp h λσ H Q ⟨F,δ,R,EX,r,hw,k,o⟩=>by
 unfold dPk at hw;split at hw
 ·rename_i d hd
  obtain⟨x,hx⟩:=r.lt hd;obtain⟨v,rfl,q⟩:=r.sl i _ _ hx hd;exact⟨v,hx,k d hw v H r (Kp.refl r) (.inl q)⟩
 ·rename_i d hd
  obtain⟨x,hx⟩:=r.lt hd;obtain⟨l,xs,rfl,e,q,_⟩:=r.sl i _ _ hx hd;exact⟨_,hx,k _ hw _ H r (Kp.refl r) (.inr ⟨l,xs,d,rfl,rfl,r.own_pot hd hx,e,q⟩)⟩
 ·rename_i d hd
  obtain⟨x,hx⟩:=r.lt hd;obtain⟨l,xs,rfl,e,q,ys,f,f2⟩:=r.sl i _ _ hx hd;refine⟨_,hx,k _ hw _ H r (Kp.refl r) (.inr ⟨l,xs,d,rfl,rfl,?_,e,q⟩)⟩;rintro⟨j,j1,j2⟩;obtain⟨p,m,e1,_,w⟩:=r.sl j _ _ j1 j2;cases e1;rcases w with w | w
  ·exact f2 w
  ·rw[w] at f;cases f
 ·exact hw.elim
theorem QzI{e:Q2}{v:V}{d:Qa}(h:PE X e (tC v))(q:∀(A:Addr->Prop)(H:Hp),DA A H v d):PE X e (tX .D X.K E (dC d)):=PE.imp h λσ H Q ⟨F,δ,R,EX,r,hw,k,o⟩=>k d hw v H r (Kp.refl r) (q _ _)
theorem QxY{i:Int}{j pos}:PE X (.Constant (.int i) j pos) (tX .D X.K E (dC (.int i))):=QzI YI λ_ _=>.int i
theorem QAR{b:Bool}{j pos}:PE X (.Constant (.bool b) j pos) (tX .D X.K E (dC (.bool b))):=QzI QAL λ_ _=>.bl b
theorem QxV{j pos}:PE X (.Constant .none j pos) (tX .D X.K E (dC .none)):=QzI QxL λ_ _=>.non
def OpD(r:R2)(rD:Qa->Qa->(Qa->Prop)->Prop):Prop:=∀(A P:Addr->Prop)(H:Hp)(x y:V)(d1 d2:Qa)(R:Qa->Prop)(Q:VK),QcZ H->(∀a,A a->∃xs,H a=some (.lst xs))->DP A P H x d1->DP A P H y d2->rD d1 d2 R ->
 (∀d,R d->∀v H',Same H H'->DA A H' v d->FrV H H' v->Q v H')->r x y H Q
def QoZ(r:R2)(rD:Qa->Qa->(Qa->Prop)->Prop):Prop:=∀(A P:Addr->Prop)(H:Hp)(x y:V)(d1 d2:Qa)(R:Qa->Prop)(Q:VK),QcZ H->(∀a,A a->∃xs,H a=some (.lst xs))->DP A P H x d1->DP A P H y d2->rD d1 d2 R ->
 (∀d,R d->∀v H',Same H H'->DA A H' v d->Q v H')->r x y H Q
def dOp(rD:Qa->Qa->(Qa->Prop)->Prop)(wa wb:DE):DE:=λδ Q EX=>wa δ (λd1=>wb δ (λd2=>rD d1 d2 Q) EX) EX
theorem Qi4{K:PySem.W.Frag}{r:R2}{rD:Qa->Qa->(Qa->Prop)->Prop}{wa wb:DE}(hd:OpD r rD)(σ:L2.St)(H:Hp)(Q:VK)(h:tX .F K E (dOp rD wa wb) σ H Q) :
  tOp (λx y H Q=>QcZ H->r x y H Q) (tX .P K E wa) (tX .P K E wb) σ H Q:=by
 obtain⟨F,δ,R,EX,rel,hw,k,o⟩:=h;refine⟨F,δ,_,EX,rel,hw,λd1 h1 x H1 rel1 kp1 x1=>⟨F,δ,_,EX,rel1,h1,λd2 h2 y H2 rel2 kp2 y2=>λln=>?_,o⟩,o⟩;refine hd (Av F σ δ) (Yn σ δ) H2 x y d1 d2 R Q ln (λa ha=>rel2.isl ha) (kp2.dp x1) y2 h2 λd hR v H' s q f=>?_
 refine k d hR v H' (rel2.same s) ((kp1.trans kp2).trans (Kp.same rel2 s)) ⟨q,λl e1 e2=>?_⟩;have f2:=f l e1 e2;cases e:H l with
 |none=>rfl
 |some ob=>
  by_cases z:Yn σ δ l
  ·obtain⟨n,en⟩:=kp2.2 l z;rw[en] at f2;cases f2
  ·rw[(kp1.trans kp2).1 _ _ z e] at f2;cases f2
theorem Qri{K:PySem.W.Frag}{r:R2}{rD:Qa->Qa->(Qa->Prop)->Prop}{wa wb:DE}(hd:QoZ r rD)(σ:L2.St)(H:Hp)(Q:VK)(h:tX .D K E (dOp rD wa wb) σ H Q) :
  tOp (λx y H Q=>QcZ H->r x y H Q) (tX .P K E wa) (tX .P K E wb) σ H Q:=by
 obtain⟨F,δ,R,EX,rel,hw,k,o⟩:=h;refine⟨F,δ,_,EX,rel,hw,λd1 h1 x H1 rel1 kp1 x1=>⟨F,δ,_,EX,rel1,h1,λd2 h2 y H2 rel2 kp2 y2=>λln=>?_,o⟩,o⟩;refine hd (Av F σ δ) (Yn σ δ) H2 x y d1 d2 R Q ln (λa ha=>rel2.isl ha) (kp2.dp x1) y2 h2 λd hR v H' s q=>?_
 exact k d hR v H' (rel2.same s) ((kp1.trans kp2).trans (Kp.same rel2 s)) q
variable{a b:Q2}{wa wb:DE}{pos:Pos}{r:R2}{rD:Qa->Qa->(Qa->Prop)->Prop}
theorem Qx0{op:Qco}(ho:OpR X (binaryOp op) r)(hd:OpD r rD)(ha:PE X a (tX .P X.K E wa))(hb:PE X b (tX .P X.K E wb)):PE X (.BinOp a op b pos) (tX .F X.K E (dOp rD wa wb)):=PE.imp (QbE (OpR.len ho) ha hb) (Qi4 hd)
theorem QxZ{op:Qga}(ho:OpR X (compareOp op) r)(hd:OpD r rD)(ha:PE X a (tX .P X.K E wa))(hb:PE X b (tX .P X.K E wb))(hm:behindInMarks op b=false):PE X (.Compare a [op] [b] pos) (tX .F X.K E (dOp rD wa wb)):=PE.imp (Qup (OpR.len ho) ha hb hm) (Qi4 hd)
theorem QAP{r:R2}{rD:Qa->Qa->(Qa->Prop)->Prop}(ho:IxR X r)(hd:QoZ r rD)(ha:PE X a (tX .P X.K E wa))(hb:PE X b (tX .P X.K E wb))(hs:Qjt b):PE X (.Subscript a b pos) (tX .D X.K E (dOp rD wa wb)):=PE.imp (QmT (IxR.len ho) ha hb hs) (Qri hd)
def dTst(w:DE):DT:=λδ Q EX=>w δ (λd=>match d with
 |.bool k=>Q k
 |_=>False) EX
theorem Quw{op:Qga}(ho:OpR X (compareOp op) r)(hd:OpD r rD)(ha:PE X a (tX .P X.K E wa))(hb:PE X b (tX .P X.K E wb))(hm:behindInMarks op b=false):PT X (.Compare a [op] [b] pos) (tT X.K E (dTst (dOp rD wa wb))):=by
 refine PT.imp (Qgy (OpR.len ho) ha hb hm) λσ H Q ⟨F,δ,R,EX,rel,hw,k,o⟩=>?_
 refine Qi4 hd σ H (λx H'=>∃k,x=.bl k/\Q k H') ⟨F,δ,_,EX,rel,hw,λd hd2 v H' rel' kp vk=>?_,o⟩;split at hd2
 ·rename_i b
  have:v=.bl b:=by cases vk.1;rfl
  exact⟨b,this,k b hd2 H' rel' kp⟩
 ·exact hd2.elim
def tru:Qa->Bool
 |.none=>false
 |.bool b=>b
 |.int i=>i != 0
 |.str y=>(y.length:Int) != 0
 |.list ds => !ds.isEmpty
 |.tuple ds => !ds.isEmpty
 |.dict ds => !ds.isEmpty
def strOk:Qa->Prop
 |.str y=>y.length<=sizeLine
 |_=>True
def dTru(w:DE):DT:=λδ Q EX=>w δ (λd=>strOk d/\Q (tru d)) EX
theorem QwV{K:PySem.W.Frag}{A P:Addr->Prop}{H:Hp}{v:V}{d:Qa}(h:DP A P H v d)(hs:strOk d):QBu K v H (tru d):=by
 have sq:∀{xs:List V}{ds:List Qa},DAs A H xs ds->(!ds.isEmpty) = !xs.isEmpty:=λq=>by cases q<;>rfl
 rcases h with h | ⟨l,xs,ds,rfl,rfl,_,e,q⟩
 ·cases h with
  |non=>rfl
  |bl b=>rfl
  |int i=>rfl
  |str x c=>exact⟨hs,rfl⟩
  |@tup a xs ds n e q=>exact .inr (.inl ⟨xs,SqT.of e,sq q⟩)
  |@lst a xs ds n e q=>exact .inl ⟨xs,SqL.of e,sq q⟩
  |@dct a n e=>exact .inr (.inr ⟨[],e,rfl⟩)
 ·exact .inl ⟨xs,SqL.of e,sq q⟩
theorem Quu{e:Q2}{w:DE}(h:PE X e (tX .P X.K E w))(he:∀whole,isTrue e X.env whole=(do let v <- whole;standAt e.pos;holding [v] (truthy v))):PT X e (tT X.K E (dTru w)):=by
 refine PT.imp (QpI h he) λσ H Q ⟨F,δ,R,EX,rel,hw,k,o⟩=>?_
 exact⟨F,δ,_,EX,rel,hw,λd ⟨hs,hq⟩ v H' rel' kp vk=>⟨tru d,QwV vk hs,k _ hq H' rel' kp⟩,o⟩
theorem Qut{e:Q2}{w:DE}(h:PE X e (tX .P X.K E w))(he:∀whole,isTrue e X.env whole=(do let v <- whole;standAt e.pos;holding [v] (truthy v)):=by intro _;rfl):PT X e (tT X.K E (dTst w)):=by
 refine PT.imp (QsL h he) λσ H Q ⟨F,δ,R,EX,rel,hw,k,o⟩=>?_
 refine⟨F,δ,_,EX,rel,hw,λd hd v H' rel' kp vk=>?_,o⟩;split at hd
 ·exact⟨_,DP.bool vk,k _ hd H' rel' kp⟩
 ·exact hd.elim
def QCh(wa wb:DT):DT:=λδ Q EX=>wa δ (λc=>if c=true then wb δ Q EX else Q false) EX
def dOr(wa wb:DT):DT:=λδ Q EX=>wa δ (λc=>if c=true then Q true else wb δ Q EX) EX
def QB8(wa:DT):DT:=λδ Q EX=>wa δ (λc=>Q (!c)) EX
theorem Qdq{c:Prop}[Decidable c]{p q p' q':Prop}(h:if c then p else q)(h1:p->p')(h2:q->q'):if c then p' else q':=by
 split at h
 ·rw[if_pos (by assumption)];exact h1 h
 ·rw[if_neg (by assumption)];exact h2 h
variable{rest:List Q2}{ta tb:DT}
theorem QpT(ha:PT X a (tT X.K E ta)):PW X (.BoolOp .And [a] pos) (tT X.K E ta):=QmN ha
theorem Qur(ha:PT X a (tT X.K E ta)):PW X (.BoolOp .Or [a] pos) (tT X.K E ta):=QxA ha
theorem Qus(ha:PT X a (tT X.K E ta))(hb:PW X (.BoolOp .And (b::rest) pos) (tT X.K E tb)):PW X (.BoolOp .And (a::b::rest) pos) (tT X.K E (QCh ta tb)):=by
 refine PW.imp (QsK ha hb) λσ H Q ⟨F,δ,R,EX,rel,hw,k,o⟩=>?_
 refine⟨F,δ,_,EX,rel,hw,λc hc H' rel' kp=>?_,o⟩;exact Qdq hc (λz=>⟨F,δ,R,EX,rel',z,λc hc H2 rel2 kp2=>k c hc H2 rel2 (kp.trans kp2),o⟩) λz=>k _ z H' rel' kp
theorem QxO(ha:PT X a (tT X.K E ta))(hb:PW X (.BoolOp .Or (b::rest) pos) (tT X.K E tb)):PW X (.BoolOp .Or (a::b::rest) pos) (tT X.K E (dOr ta tb)):=by
 refine PW.imp (QAG ha hb) λσ H Q ⟨F,δ,R,EX,rel,hw,k,o⟩=>?_
 refine⟨F,δ,_,EX,rel,hw,λc hc H' rel' kp=>?_,o⟩;exact Qdq hc (λz=>k _ z H' rel' kp) (λz=>⟨F,δ,R,EX,rel',z,λc hc H2 rel2 kp2=>k c hc H2 rel2 (kp.trans kp2),o⟩)
theorem Quv(ha:PT X a (tT X.K E ta)):PT X (.UnaryOp .Not a pos) (tT X.K E (QB8 ta)):=by
 refine PT.imp (QxB ha) λσ H Q ⟨F,δ,R,EX,rel,hw,k,o⟩=>?_
 exact⟨F,δ,_,EX,rel,hw,λc hc H' rel' kp=>k _ hc H' rel' kp,o⟩
def Qy5(wa wb:DE):DE:=λδ Q EX=>wa δ (λd=>match d with
 |.bool c=>if c=true then wb δ Q EX else Q (.bool false)
 |_=>False) EX
def QB7(wa wb:DE):DE:=λδ Q EX=>wa δ (λd=>match d with
 |.bool c=>if c=true then Q (.bool true) else wb δ Q EX
 |_=>False) EX
def Qy2(wa:DE):DE:=λδ Q EX=>wa δ (λd=>match d with
 |.bool c=>Q (.bool (!c))
 |_=>False) EX
theorem QxT{op}{w:DE}(h:PE X a (tX .D X.K E w)):PE X (.BoolOp op [a] pos) (tX .D X.K E w):=QxJ h
theorem Qx1(ha:PE X a (tX .P X.K E wa))(hb:PE X (.BoolOp .And (b::rest) pos) (tX .D X.K E wb)):PE X (.BoolOp .And (a::b::rest) pos) (tX .D X.K E (Qy5 wa wb)):=by
 refine PE.imp (QxN ha hb) λσ H Q ⟨F,δ,R,EX,rel,hw,k,o⟩=>?_
 refine⟨F,δ,_,EX,rel,hw,λd hd v H' rel' kp vk=>?_,o⟩;split at hd
 ·exact⟨_,DP.bool vk,Qdq hd (λz=>⟨F,δ,R,EX,rel',z,λd hd v H2 rel2 kp2=>k d hd v H2 rel2 (kp.trans kp2),o⟩) λz=>k _ z _ H' rel' kp (.bl _)⟩
 ·exact hd.elim
theorem QAO(ha:PE X a (tX .P X.K E wa))(hb:PE X (.BoolOp .Or (b::rest) pos) (tX .D X.K E wb)):PE X (.BoolOp .Or (a::b::rest) pos) (tX .D X.K E (QB7 wa wb)):=by
 refine PE.imp (QAK ha hb) λσ H Q ⟨F,δ,R,EX,rel,hw,k,o⟩=>?_
 refine⟨F,δ,_,EX,rel,hw,λd hd v H' rel' kp vk=>?_,o⟩;split at hd
 ·exact⟨_,DP.bool vk,Qdq hd (λz=>k _ z _ H' rel' kp (.bl _)) (λz=>⟨F,δ,R,EX,rel',z,λd hd v H2 rel2 kp2=>k d hd v H2 rel2 (kp.trans kp2),o⟩)⟩
 ·exact hd.elim
theorem QxU(ha:PE X a (tX .P X.K E wa)):PE X (.UnaryOp .Not a pos) (tX .D X.K E (Qy2 wa)):=by
 refine PE.imp (QxK ha) λσ H Q ⟨F,δ,R,EX,rel,hw,k,o⟩=>?_
 refine⟨F,δ,_,EX,rel,hw,λd hd v H' rel' kp vk=>?_,o⟩;split at hd
 ·exact⟨_,DP.bool vk,k _ hd _ H' rel' kp (.bl _)⟩
 ·exact hd.elim
end
theorem Qej{A:Addr->Prop}{H H':Hp}{l:Addr}{xs:List V}{ds:List Qa}(dm:∀a,A a->∃xs,H a=some (.lst xs))(s:Same H H')(n:H l=none)(e:H' l=some (.lst xs))(q:DAs A H xs ds):DA A H' (.ref l) (.list ds):=
 .lst (λz=>by obtain⟨ys,e'⟩:=dm l z;rw[n] at e';cases e') e (q.same s)
theorem Qhp{A:Addr->Prop}{H H':Hp}{l:Addr}{xs:List V}{ds:List Qa}(dm:∀a,A a->∃xs,H a=some (.lst xs))(s:Same H H')(e:H' l=some (.tup xs))(q:DAs A H xs ds):DA A H' (.ref l) (.tuple ds):=
 .tup (λz=>by obtain⟨ys,e'⟩:=dm l z;rw[s _ _ e'] at e;cases e) e (q.same s)
theorem Qbh{H H':Hp}{l:Addr}(n:H l=none):FrV H H' (.ref l):=λl' e _=>by cases e;exact n
theorem Qe8{H H':Hp}{l:Addr}{xs:List V}(e:H' l=some (.tup xs)):FrV H H' (.ref l):=λl' e1 ⟨ys,e2⟩=>by cases e1;rw[e] at e2;cases e2
theorem YL{H H':Hp}{i:Int}:FrV H H' (.int i):=λl' e _=>by cases e
theorem QaU{H H':Hp}{i:Bool}:FrV H H' (.bl i):=λl' e _=>by cases e
theorem QvB{H H':Hp}:FrV H H' .non:=λl' e _=>by cases e
theorem DAs.rep{A:Addr->Prop}{H:Hp}{xs:List V}{ds:List Qa}(q:DAs A H xs ds):∀k:Nat,DAs A H (QP k xs).flatten (QP k ds).flatten
 |0=>.nil
 |k+1=>by rw[Zh,Zh,Yh,Yh];exact q.app (DAs.rep q k)
def QCP:Qa->Qa->(Qa->Prop)->Prop
 |.int i,.int j,Q=>Q (.int (i+j))
 |.tuple a,.tuple b,Q=>a.length+b.length<=1000000/\Q (.tuple (a++b))
 |.list a,.list b,Q=>a.length+b.length<=1000000/\Q (.list (a++b))
 |_,_,_=>False
def iiD(C:Int->Int->Prop)(f:Int->Int->Qa):Qa->Qa->(Qa->Prop)->Prop
 |.int i,.int j,Q=>C i j/\Q (f i j)
 |_,_,_=>False
def ii0(f:Int->Int->Qa):Qa->Qa->(Qa->Prop)->Prop
 |.int i,.int j,Q=>Q (f i j)
 |_,_,_=>False
def QCG:Qa->Qa->(Qa->Prop)->Prop
 |.int i,.int j,Q=>(CMul i j∨CMulB i j)/\Q (.int (i*j))
 |.list a,.int k,Q=>(k<1000000 /\ -1000000<k/\a.length*k.toNat<=1000000)/\Q (.list (QP k.toNat a).flatten)
 |_,_,_=>False
theorem Qlw:1000000<=sizeLine:=by show 1000000<=2^24;decide
section
variable{X:Cx}{E:XK}
theorem Qrp{C:Int->Int->Prop}{g:Int->Int->Int}:OpD (rI C λi j=>.int (g i j)) (iiD C λi j=>.int (g i j)):=λA P H x y d1 d2 R Q ln dm hx hy h k=>by
 cases d1<;>cases d2<;>first | exact h.elim | skip
 rw[hx.int,hy.int];exact⟨_,_,rfl,rfl,h.1,k _ h.2 _ H (Same.refl H) (.int _) YL⟩
theorem QfP{g:Int->Int->Int}:OpD (rI0 λi j=>.int (g i j)) (ii0 λi j=>.int (g i j)):=λA P H x y d1 d2 R Q ln dm hx hy h k=>by
 cases d1<;>cases d2<;>first | exact h.elim | skip
 rw[hx.int,hy.int];exact⟨_,_,rfl,rfl,k _ h _ H (Same.refl H) (.int _) YL⟩
theorem Qj9{g:Int->Int->Bool}:OpD (rI0 λi j=>.bl (g i j)) (ii0 λi j=>.bool (g i j)):=λA P H x y d1 d2 R Q ln dm hx hy h k=>by
 cases d1<;>cases d2<;>first | exact h.elim | skip
 rw[hx.int,hy.int];exact⟨_,_,rfl,rfl,k _ h _ H (Same.refl H) (.bl _) QaU⟩
def rAdd:R2:=λx y H Q=>(rI0 (λi j=>.int (i+j)) x y H Q∨Qxr x y H Q)∨QBS x y H Q
theorem Qak:OpR X (binaryOp .Add) rAdd:=OpR.or2 (OpR.or2 QfO QuT) Qya
theorem Qa5:OpD rAdd QCP:=λA P H x y d1 d2 R Q ln dm hx hy h k=>by
 cases d1<;>cases d2<;>first | exact h.elim | skip
 ·rw[hx.int,hy.int];exact .inl (.inl ⟨_,_,rfl,rfl,k _ h _ H (Same.refl H) (.int _) YL⟩)
 ·obtain⟨l1,xs,rfl,e1,q1⟩:=hx.list;obtain⟨l2,ys,rfl,e2,q2⟩:=hy.list;refine .inr ⟨l1,l2,xs,ys,rfl,rfl,e1,e2,Jk (by rw[q1.length,q2.length];exact h.1) Qlw,λp hp=>?_⟩;exact k _ h.2 _ _ (JS hp) (Qej dm (JS hp) hp JN (q1.app q2)) (Qbh hp)
 ·obtain⟨l1,xs,rfl,e1,q1⟩:=hx.tuple;obtain⟨l2,ys,rfl,e2,q2⟩:=hy.tuple;refine .inl (.inr ⟨l1,l2,xs,ys,rfl,rfl,e1,e2,Jk (by rw[q1.length,q2.length];exact h.1) Qlw,λp H' s e=>?_⟩);exact k _ h.2 _ _ s (Qhp dm s e (q1.app q2)) (Qe8 e)
def Qxo:R2:=λx y H Q=>(rI CMul (λi j=>.int (i*j)) x y H Q∨rI CMulB (λi j=>.int (i*j)) x y H Q)∨QBJ x y H Q
theorem QeZ:OpR X (binaryOp .Mult) Qxo:=OpR.or2 (OpR.or2 QfM QuQ) Qx4
theorem QhO:OpD Qxo QCG:=λA P H x y d1 d2 R Q ln dm hx hy h k=>by
 cases d1<;>cases d2<;>first | exact h.elim | skip
 ·rw[hx.int,hy.int];rcases h.1 with c | c
  ·exact .inl (.inl ⟨_,_,rfl,rfl,c,k _ h.2 _ H (Same.refl H) (.int _) YL⟩)
  ·exact .inl (.inr ⟨_,_,rfl,rfl,c,k _ h.2 _ H (Same.refl H) (.int _) YL⟩)
 ·obtain⟨l1,xs,rfl,e1,q1⟩:=hx.list;rw[hy.int];obtain⟨⟨h1,h2,h3⟩,h4⟩:=h;refine .inr ⟨l1,_,xs,rfl,rfl,e1,by omega,by omega,Jk (by rw[q1.length];exact h3) Qlw,λp hp=>?_⟩;exact k _ h4 _ _ (JS hp) (Qej dm (JS hp) hp JN (q1.rep _)) (Qbh hp)
def eqD:Qa->Qa->(Qa->Prop)->Prop
 |.int i,.int j,Q=>Q (.bool (decide (i=j)))
 |.bool i,.bool j,Q=>Q (.bool (decide (i=j)))
 |.str i,.str j,Q=>Q (.bool (decide (i=j)))
 |a,b,Q=>(nd a=true/\nd b=true/\(a.depth<=50∨b.depth<=50))/\Q (.bool (QL a b))
def neD:Qa->Qa->(Qa->Prop)->Prop
 |.int i,.int j,Q=>Q (.bool (!decide (i=j)))
 |.bool i,.bool j,Q=>Q (.bool (!decide (i=j)))
 |.str i,.str j,Q=>Q (.bool (!decide (i=j)))
 |a,b,Q=>(nd a=true/\nd b=true/\(a.depth<=50∨b.depth<=50))/\Q (.bool (!QL a b))
theorem Qyq{a b:Qa}(h:a.depth<=50∨b.depth<=50):min a.depth b.depth<=50:=by rcases h with h | h<;>omega
def QBQ(u:Nat):R2:=λx y H Q=>rEq x y H Q∨QBP u x y H Q
def QBL(u:Nat):R2:=λx y H Q=>rNe x y H Q∨QBK u x y H Q
theorem QfN:OpR X (compareOp .Eq) (QBQ X.A.units):=OpR.or2 QAY Qx8
theorem QcM:OpR X (compareOp .NotEq) (QBL X.A.units):=OpR.or2 QAW Qx5
theorem QyT{i j:Int}:decide (V.int i=V.int j)=decide (i=j):=by
 by_cases h:i=j
 ·subst h;simp
 ·rw[decide_eq_false h,decide_eq_false (λz=>h (V.int.inj z))]
theorem QyU{i j:Bool}:decide (V.bl i=V.bl j)=decide (i=j):=by
 by_cases h:i=j
 ·subst h;simp
 ·rw[decide_eq_false h,decide_eq_false (λz=>h (V.bl.inj z))]
theorem QyS{i j:Str}:decide (V.str i=V.str j)=decide (i=j):=by
 by_cases h:i=j
 ·subst h;simp
 ·rw[decide_eq_false h,decide_eq_false (λz=>h (V.str.inj z))]
theorem Qlq{u:Nat}(hu:u+60<cLine):OpD (QBQ u) eqD:=λA P H x y d1 d2 R Q ln dm hx hy h k=>by
 unfold eqD at h;split at h
 ·rw[hx.int,hy.int];exact .inl ⟨rfl,k (.bool (decide (V.int _=V.int _))) (by rw[QyT];exact h) _ H (Same.refl H) (.bl _) QaU⟩
 ·rw[hx.bool,hy.bool];exact .inl ⟨rfl,k (.bool (decide (V.bl _=V.bl _))) (by rw[QyU];exact h) _ H (Same.refl H) (.bl _) QaU⟩
 ·rw[hx.str.1,hy.str.1];exact .inl ⟨rfl,k (.bool (decide (V.str _=V.str _))) (by rw[QyS];exact h) _ H (Same.refl H) (.bl _) QaU⟩
 ·obtain⟨⟨n1,n2,dp⟩,hR⟩:=h;have:=Qyq dp;exact .inr ⟨_,_,hx.dat n1,hy.dat n2,by omega,k _ hR _ H (Same.refl H) (.bl _) QaU⟩
theorem Qft{u:Nat}(hu:u+60<cLine):OpD (QBL u) neD:=λA P H x y d1 d2 R Q ln dm hx hy h k=>by
 unfold neD at h;split at h
 ·rw[hx.int,hy.int];exact .inl ⟨rfl,k (.bool (!decide (V.int _=V.int _))) (by rw[QyT];exact h) _ H (Same.refl H) (.bl _) QaU⟩
 ·rw[hx.bool,hy.bool];exact .inl ⟨rfl,k (.bool (!decide (V.bl _=V.bl _))) (by rw[QyU];exact h) _ H (Same.refl H) (.bl _) QaU⟩
 ·rw[hx.str.1,hy.str.1];exact .inl ⟨rfl,k (.bool (!decide (V.str _=V.str _))) (by rw[QyS];exact h) _ H (Same.refl H) (.bl _) QaU⟩
 ·obtain⟨⟨n1,n2,dp⟩,hR⟩:=h;have:=Qyq dp;exact .inr ⟨_,_,hx.dat n1,hy.dat n2,by omega,k _ hR _ H (Same.refl H) (.bl _) QaU⟩
def Qxq(u:Nat)(neg:Bool):R2:=λx y H Q=>∃c ps ds d,y=.ref c/\H c=some (.lst ps)/\Dats H ps ds/\Dat H x d/\u+d.depth<cLine/\Q (.bl (if neg then !(ds.any λe=>QL e d) else ds.any λe=>QL e d)) H
theorem Qln:OpR X (compareOp .NotIn) (Qxq X.A.in1.units true):=by
 intro pins s σ H x y v u Q I rx ry h;obtain⟨c,ps,ds,d,rfl,hc,qs,qx,hu,q⟩:=h;cases ry;obtain⟨⟨as,ra⟩,ca⟩:=Qal I.hok d x v qx rx;obtain⟨its,rv,pl,hz⟩:=I.list (SqL.of hc);obtain⟨⟨bs,rb⟩,cb⟩:=Qat I.hok ds ps its qs rv;refine SeqAt.notIn_listAt (eqH s.heap d) pl.isList (λw hw=>QgD ra ca rb cb hu w (QcF.mp hw)) ⟨.bl _,H,I,rfl,?_⟩;rw[show its.toArray.any (eqH s.heap d)=its.any (eqH s.heap d) by simp,Qjr rb cb];exact q
def inD(neg:Bool)(d:Qa):Qa->(Qa->Prop)->Prop
 |.list ds,Q=>(nds ds=true/\nd d=true/\d.depth<=50)/\Q (.bool (if neg then !(ds.any λe=>QL e d) else ds.any λe=>QL e d))
 |.tuple ds,Q=>(nds ds=true/\nd d=true/\d.depth<=50)/\Q (.bool (if neg then !(ds.any λe=>QL e d) else ds.any λe=>QL e d))
 |_,_=>False
def QBO(u:Nat)(neg:Bool):R2:=λx y H Q=>QBN u neg x y H Q∨Qxq u neg x y H Q
theorem QeY:OpR X (compareOp .NotIn) (QBO X.A.in1.units true):=OpR.or2 Qm4 Qln
theorem Qu6{u:Nat}{neg:Bool}(hu:u+60<cLine):OpD (QBO u neg) (inD neg):=λA P H x y d1 d2 R Q ln dm hx hy h k=>by
 cases d2<;>first | exact h.elim | skip
 ·obtain⟨l,xs,rfl,e,q⟩:=hy.list;obtain⟨⟨n1,n2,n3⟩,hR⟩:=h;exact .inr ⟨l,xs,_,d1,rfl,e,QbI _ _ n1 q,hx.dat n2,by omega,k _ hR _ H (Same.refl H) (.bl _) QaU⟩
 ·obtain⟨l,xs,rfl,e,q⟩:=hy.tuple;obtain⟨⟨n1,n2,n3⟩,hR⟩:=h;exact .inl ⟨l,xs,_,d1,rfl,e,QbI _ _ n1 q,hx.dat n2,by omega,k _ hR _ H (Same.refl H) (.bl _) QaU⟩
def ixD:Qa->Qa->(Qa->Prop)->Prop
 |.list ds,.int i,Q=>∃d,atI ds i=some d/\Q d
 |.tuple ds,.int i,Q=>∃d,atI ds i=some d/\Q d
 |_,_,_=>False
theorem Qtd{A:Addr->Prop}{H:Hp}{xs:List V}{ds:List Qa}{i:Int}{d:Qa}(q:DAs A H xs ds)(h:atI ds i=some d):∃v,atI xs i=some v/\DA A H v d:=by
 unfold atI at h ⊢;rw[q.length];cases e:ixN ds.length i with
 |none=>rw[e] at h;cases h
 |some j=>
  rw[e] at h;exact q.get j d h
def QBM(K:PySem.W.Frag):R2:=λx y H Q=>QzH K x y H Q∨QAz K x y H Q
theorem Qbs:IxR X (QBM X.K):=IxR.or2 QgG QsV
theorem QdZ{K:PySem.W.Frag}:QoZ (QBM K) ixD:=λA P H x y d1 d2 R Q ln dm hx hy h k=>by
 cases d1<;>cases d2<;>first | exact h.elim | skip
 ·obtain⟨l,xs,rfl,e,q⟩:=hx.list;obtain⟨d,hd,hR⟩:=h;obtain⟨v,hv,dv⟩:=Qtd q hd;rw[hy.int];exact .inl ⟨l,xs,_,v,rfl,rfl,SqL.of e,hv,k d hR v H (Same.refl H) dv⟩
 ·obtain⟨l,xs,rfl,e,q⟩:=hx.tuple;obtain⟨d,hd,hR⟩:=h;obtain⟨v,hv,dv⟩:=Qtd q hd;rw[hy.int];exact .inr ⟨l,xs,_,v,rfl,rfl,SqT.of e,hv,k d hR v H (Same.refl H) dv⟩
def dUn(rD:Qa->(Qa->Prop)->Prop)(wa:DE):DE:=λδ Q EX=>wa δ (λd=>rD d Q) EX
def QBV:Qa->(Qa->Prop)->Prop
 |.int i,Q=>Q (.int (-i))
 |_,_=>False
variable{a b c:Q2}{wa wb wc:DE}{pos:Pos}
theorem QxW(ha:PE X a (tX .P X.K E wa)):PE X (.UnaryOp .USub a pos) (tX .F X.K E (dUn QBV wa)):=by
 refine PE.imp (QAJ QwQ ha) λσ H Q ⟨F,δ,R,EX,rel,hw,k,o⟩=>?_
 refine⟨F,δ,_,EX,rel,hw,λd hd v H' rel' kp vk=>?_,o⟩;cases d<;>first | exact(show False from hd).elim | skip
 exact⟨_,DP.int vk,k _ hd _ H' rel' kp ⟨.int _,YL⟩⟩
def dCh(p q:Int->Int->Bool)(wa wb wc:DE):DE:=λδ Q EX=>wa δ (λx=>wb δ (λy=>match x,y with
 |.int i,.int j=>if p i j=true then wc δ (λz=>match z with
  |.int k=>Q (.bool (q j k))
  |_=>False) EX else Q (.bool false)
 |_,_=>False) EX) EX
theorem Qoo{K:PySem.W.Frag}{p q:Int->Int->Bool}(σ:L2.St)(H:Hp)(Q:VK)(h:tX .F K E (dCh p q wa wb wc) σ H Q) :
  Qmh (rI0 λi j=>.bl (p i j)) (rI0 λi j=>.bl (q i j)) (tX .P K E wa) (tX .P K E wb) (tX .P K E wc) σ H Q:=by
 obtain⟨F,δ,R,EX,rel,hw,k,o⟩:=h;refine⟨F,δ,_,EX,rel,hw,λd1 h1 x H1 rel1 kp1 x1=>⟨F,δ,_,EX,rel1,h1,λd2 h2 y H2 rel2 kp2 y2=>?_,o⟩,o⟩;cases d1<;>cases d2<;>first | exact(show False from h2).elim | skip
 rw[DP.int x1,DP.int y2];refine⟨_,_,rfl,rfl,_,rfl,Qdq h2 (λz=>⟨F,δ,_,EX,rel2,z,λd3 h3 v H3 rel3 kp3 v3=>?_,o⟩) λz=>k _ z _ H2 rel2 (kp1.trans kp2) ⟨.bl _,QaU⟩⟩;cases d3<;>first | exact(show False from h3).elim | skip
 rw[DP.int v3];exact⟨_,_,rfl,rfl,k _ h3 _ H3 rel3 ((kp1.trans kp2).trans kp3) ⟨.bl _,QaU⟩⟩
theorem QAQ{op op':Qga}{p q:Int->Int->Bool}(ho:OpR X (compareOp op) (rI0 λi j=>.bl (p i j)))(ho':OpR X (compareOp op') (rI0 λi j=>.bl (q i j)))(ha:PE X a (tX .P X.K E wa))(hb:PE X b (tX .P X.K E wb))(hc:PE X c (tX .P X.K E wc))(hm:lastMarks [op,op'] [b,c]=false:=by with_unfolding_all rfl) :
  PE X (.Compare a [op,op'] [b,c] pos) (tX .F X.K E (dCh p q wa wb wc)):=PE.imp (QpS ho ho' ha hb hc (hm:=hm)) Qoo
theorem QxP{op op':Qga}{p q:Int->Int->Bool}(ho:OpR X (compareOp op) (rI0 λi j=>.bl (p i j)))(ho':OpR X (compareOp op') (rI0 λi j=>.bl (q i j)))(ha:PE X a (tX .P X.K E wa))(hb:PE X b (tX .P X.K E wb))(hc:PE X c (tX .P X.K E wc))(hm:lastMarks [op,op'] [b,c]=false:=by with_unfolding_all rfl) :
  PT X (.Compare a [op,op'] [b,c] pos) (tT X.K E (dTst (dCh p q wa wb wc))):=by
 refine PT.imp (QpJ ho ho' ha hb hc (hm:=hm)) λσ H Q ⟨F,δ,R,EX,rel,hw,k,o⟩=>?_
 refine Qoo σ H (λx H'=>∃k,x=.bl k/\Q k H') ⟨F,δ,_,EX,rel,hw,λd hd2 v H' rel' kp vk=>?_,o⟩;split at hd2
 ·rename_i b
  have:v=.bl b:=by cases vk.1;rfl
  exact⟨b,this,k b hd2 H' rel' kp⟩
 ·exact hd2.elim
def QB9:DAr:=λ_ Q _=>Q []
def Qob(we:DE)(wr:DAr):DAr:=λδ Q EX=>we δ (λd=>wr δ (λds=>Q (d::ds)) EX) EX
theorem QuI{m:Md}:PA X [] (tAr 0 m X.K E QB9):=PA.imp Yk λσ H Q ⟨F,δ,R,EX,rel,hw,k,o⟩=>k [] hw rfl [] H rel (Kp.refl rel) .nil
theorem QoI{n:Nat}{m:Md}{K:PySem.W.Frag}{we:DE}{wr:DAr}(hm:∀{F:Fm}{σ:L2.St}{δ:Sts}{H H':Hp}{v:V}{d:Qa},Vok m F σ δ H H' v d->VD m (Av F σ δ) (Yn σ δ) H' v d)(σ:L2.St)(H:Hp)(Q:List V->Hp->Prop)(h:tAr (n+1) m K E (Qob we wr) σ H Q):Qfr (tX m K E we) (tAr n m K E wr) σ H Q:=by
 obtain⟨F,δ,R,EX,rel,hw,k,o⟩:=h;refine⟨F,δ,_,EX,rel,hw,λd hd v H' rel' kp vk=>⟨F,δ,_,EX,rel',hd,λds hds hl vs H2 rel2 kp2 vks=>?_,o⟩,o⟩;exact k _ hds (by rw[Qv,hl]) (v::vs) H2 rel2 (kp.trans kp2) (.cons (kp2.vd (hm vk)) vks)
theorem QmZ{n:Nat}{e:Q2}{es:List Q2}{we:DE}{wr:DAr}(he:PE X e (tX .D X.K E we))(hr:PA X es (tAr n .D X.K E wr))(hs:notStar e=true:=by rfl):PA X (e::es) (tAr (n+1) .D X.K E (Qob we wr)):=PA.imp (Qfj he hr hs) (QoI λh=>h)
theorem QmY{n:Nat}{e:Q2}{es:List Q2}{we:DE}{wr:DAr}(he:PE X e (tX .P X.K E we))(hr:PA X es (tAr n .P X.K E wr))(hs:notStar e=true:=by rfl):PA X (e::es) (tAr (n+1) .P X.K E (Qob we wr)):=PA.imp (Qfj he hr hs) (QoI λh=>h)
theorem QdY{A P:Addr->Prop}{H:Hp}:∀{vs:List V}{ds:List Qa},QaY (VD .D A P H) vs ds->DAs A H vs ds
 |_,_,.nil=>.nil
 |_,_,.cons a b=>.cons a (QdY b)
def QB3(w:DAr):DE:=λδ Q EX=>w δ (λds=>Q (.tuple ds)) EX
def QCb(w:DAr):DE:=λδ Q EX=>w δ (λds=>Q (.list ds)) EX
theorem QxS{n:Nat}{es:List Q2}{w:DAr}{x1}(h:PA X es (tAr n .D X.K E w))(hn:n<=1000:=by decide):PE X (.Tuple es x1 pos) (tX .F X.K E (QB3 w)):=by
 refine PE.imp (Qum h) λσ H Q ⟨F,δ,R,EX,rel,hw,k,o⟩=>?_
 refine⟨F,δ,_,EX,rel,hw,λds hds hl vs H' rel' kp q=>?_,o⟩;have q':=QdY q;refine⟨by rw[q'.length,hl];exact hn,λa H2 s n e=>k _ hds _ H2 (rel'.same s) (kp.trans (Kp.same rel' s)) ⟨Qhp (λa ha=>rel'.isl ha) s e q',Qe8 e⟩⟩
theorem Qcf{σ:L2.St}{δ:Sts}{H H':Hp}{l:Addr}(k:Kp σ δ H H')(n:H' l=none):H l=none:=by
 cases e:H l with
 |none=>rfl
 |some ob=>
  by_cases z:Yn σ δ l
  ·obtain⟨m,em⟩:=k.2 l z;rw[em] at n;cases n
  ·rw[k.1 _ _ z e] at n;cases n
theorem QxX{n:Nat}{es:List Q2}{w:DAr}(h:PA X es (tAr n .D X.K E w))(hn:n<=1000:=by decide):PE X (.List es pos) (tX .F X.K E (QCb w)):=by
 refine PE.imp (Qun h) λσ H Q ⟨F,δ,R,EX,rel,hw,k,o⟩=>?_
 refine⟨F,δ,_,EX,rel,hw,λds hds hl vs H' rel' kp q=>?_,o⟩;have q':=QdY q;refine⟨by rw[q'.length,hl];exact hn,λa H2 s n e=>k _ hds _ H2 (rel'.same s) (kp.trans (Kp.same rel' s)) ⟨Qej (λa ha=>rel'.isl ha) s n e q',Qbh (Qcf kp n)⟩⟩
def QcI(r:List V->Hp->VK->Prop)(rD:List Qa->(Qa->Prop)->Prop):Prop:=∀(A P:Addr->Prop)(H:Hp)(vs:List V)(ds:List Qa)(R:Qa->Prop)(Q:VK),QcZ H->(∀a,A a->∃xs,H a=some (.lst xs))->QaY (DP A P H) vs ds->rD ds R ->
 (∀d,R d->∀v H',Same H H'->DA A H' v d->FrV H H' v->Q v H')->r vs H Q
def dCB(rD:List Qa->(Qa->Prop)->Prop)(wa:DAr):DE:=λδ Q EX=>wa δ (λds=>rD ds Q) EX
theorem Qot{n:Nat}{K:PySem.W.Frag}{r:List V->Hp->VK->Prop}{rD:List Qa->(Qa->Prop)->Prop}{wa:DAr}(hd:QcI r rD)(σ:L2.St)(H:Hp)(Q:VK)(h:tX .F K E (dCB rD wa) σ H Q) :
  tCB (λxs H Q=>QcZ H->r xs H Q) (tAr n .P K E wa) σ H Q:=by
 obtain⟨F,δ,R,EX,rel,hw,k,o⟩:=h;refine⟨F,δ,_,EX,rel,hw,λds hds hl vs H' rel' kp q ln=>?_,o⟩;refine hd (Av F σ δ) (Yn σ δ) H' vs ds R Q ln (λa ha=>rel'.isl ha) q hds λd hR v H2 s dv fr=>?_
 exact k d hR v H2 (rel'.same s) (kp.trans (Kp.same rel' s)) ⟨dv,λl e1 e2=>Qcf kp (fr l e1 e2)⟩
variable{x:Str}{bid T:String}{p:Pos}{e:Q2}{es:List Q2}{n:Nat}{wr:DAr}{r:List V->Hp->VK->Prop}{rD:List Qa->(Qa->Prop)->Prop}
theorem Qrd(hc:CallR X (.builtin bid) r)(hd:QcI r rD)(hg:Gl X x)(hm:X.mg x=none)(hv:bootBuiltins x=some (.builtin bid))(ha:PA X (e::es) (tAr n .P X.K E wr))(hn:x ≠ "__name__" := by decide)(hdb:(x == ("__debug__" : Str))=false:=by decide)
  (he:starEach (e::es) X.env=(false,eval e X.env)::starEach es X.env:=by rfl)(hpl:(backTo pos (starEach es X.env)).any (·.1)=false:=by rfl):PE X (.Call (.Name x p) (e::es) [] pos) (tX .F X.K E (dCB rD wr)):=
 PE.imp (Qcu (CallR.len hc) hg hm hv ha hn hdb he hpl) (Qot hd)
theorem Qm0(hc:CallR X (.type T) r)(hd:QcI r rD)(hg:Gl X x)(hm:X.mg x=none)(hv:bootBuiltins x=some (.type T))(ha:PA X (e::es) (tAr n .P X.K E wr))(hn:x ≠ "__name__" := by decide)(hdb:(x == ("__debug__" : Str))=false:=by decide)
  (he:starEach (e::es) X.env=(false,eval e X.env)::starEach es X.env:=by rfl)(hpl:(backTo pos (starEach es X.env)).any (·.1)=false:=by rfl):PE X (.Call (.Name x p) (e::es) [] pos) (tX .F X.K E (dCB rD wr)):=
 PE.imp (QmU (CallR.len hc) hg hm hv ha hn hdb he hpl) (Qot hd)
theorem pd1{A P:Addr->Prop}{H:Hp}{vs:List V}{d:Qa}(q:QaY (DP A P H) vs [d]):∃v,vs=[v]/\DP A P H v d:=by
 cases q with
 |cons a b=>cases b;exact⟨_,rfl,a⟩
theorem pd2{A P:Addr->Prop}{H:Hp}{vs:List V}{d d':Qa}(q:QaY (DP A P H) vs [d,d']):∃v v',vs=[v,v']/\DP A P H v d/\DP A P H v' d':=by
 cases q with
 |cons a b=>cases b with | cons b c=>cases c;exact⟨_,_,rfl,a,b⟩
def QBW:List Qa->(Qa->Prop)->Prop
 |[.list ds],Q=>Q (.int ds.length)
 |[.tuple ds],Q=>Q (.int ds.length)
 |_,_=>False
theorem Qf0{K:PySem.W.Frag}:QcI (Qxp K) QBW:=λA P H vs ds R Q ln dm q h k=>by
 unfold QBW at h;split at h
 ·obtain⟨v,rfl,hv⟩:=pd1 q;obtain⟨l,xs,rfl,e,qq⟩:=hv.list;exact⟨l,xs,rfl,.inl (SqL.of e),by rw[qq.length];exact k _ h _ H (Same.refl H) (.int _) YL⟩
 ·obtain⟨v,rfl,hv⟩:=pd1 q;obtain⟨l,xs,rfl,e,qq⟩:=hv.tuple;exact⟨l,xs,rfl,.inr (SqT.of e),by rw[qq.length];exact k _ h _ H (Same.refl H) (.int _) YL⟩
 ·exact h.elim
theorem Qbu:CallR X (.builtin "len") (Qxp X.K):=Qa8
def Qvg:List Qa->(Qa->Prop)->Prop
 |[.int i,.int j],Q=>Q (.int (if j<i then j else i))
 |_,_=>False
def Qvi:List Qa->(Qa->Prop)->Prop
 |[.int i,.int j],Q=>Q (.int (if j > i then j else i))
 |_,_=>False
theorem Qoq:QcI (λxs H Q=>∃i j,xs=[.int i,.int j]/\Q (.int (if j<i then j else i)) H) Qvg:=λA P H vs ds R Q ln dm q h k=>by
 unfold Qvg at h;split at h
 ·obtain⟨v,v',rfl,h1,h2⟩:=pd2 q;rw[h1.int,h2.int];exact⟨_,_,rfl,k _ h _ H (Same.refl H) (.int _) YL⟩
 ·exact h.elim
theorem Qor:QcI (λxs H Q=>∃i j,xs=[.int i,.int j]/\Q (.int (if j > i then j else i)) H) Qvi:=λA P H vs ds R Q ln dm q h k=>by
 unfold Qvi at h;split at h
 ·obtain⟨v,v',rfl,h1,h2⟩:=pd2 q;rw[h1.int,h2.int];exact⟨_,_,rfl,k _ h _ H (Same.refl H) (.int _) YL⟩
 ·exact h.elim
def QcY:List Qa->Option (List Bool)
 |[]=>some []
 |.bool b::ds=>(QcY ds).map (b::·)
 |_::_=>none
def Qcl:List Qa->Option (List Int)
 |[]=>some []
 |.int b::ds=>(Qcl ds).map (b::·)
 |_::_=>none
theorem QoC(bs:List Bool):QcY (bs.map Qdz)=some bs:=by
 induction bs with
 |nil=>rfl
 |cons b bs ih=>rw[Jh,QcY,ih];rfl
theorem ints_map(bs:List Int):Qcl (bs.map Qc)=some bs:=by
 induction bs with
 |nil=>rfl
 |cons b bs ih=>rw[Jh,Qcl,ih];rfl
theorem bools_eq:∀{ds:List Qa}{bs:List Bool},QcY ds=some bs->ds=bs.map Qdz
 |[],bs,h=>by cases h;rfl
 |d::ds,bs,h=>by
  cases d<;>first | (unfold QcY at h;cases h;done) | skip
  rw[QcY] at h;obtain⟨cs,h1,rfl⟩:=Yq.mp h;rw[bools_eq h1];rfl
theorem QgI:∀{ds:List Qa}{bs:List Int},Qcl ds=some bs->ds=bs.map Qc
 |[],bs,h=>by cases h;rfl
 |d::ds,bs,h=>by
  cases d<;>first | (unfold Qcl at h;cases h;done) | skip
  rw[Qcl] at h;obtain⟨cs,h1,rfl⟩:=Yq.mp h;rw[QgI h1];rfl
theorem Qh6{A:Addr->Prop}{H:Hp}:∀{bs:List Bool}{xs:List V},DAs A H xs (bs.map Qdz)->xs=bs.map V.bl
 |[],_,.nil=>rfl
 |b::bs,_,.cons (.bl _) r=>by rw[Qh6 r];rfl
theorem QbH{A:Addr->Prop}{H:Hp}:∀{bs:List Int}{xs:List V},DAs A H xs (bs.map Qc)->xs=bs.map V.int
 |[],_,.nil=>rfl
 |b::bs,_,.cons (.int _) r=>by rw[QbH r];rfl
@[irreducible] def QzO:List Qa->(Qa->Prop)->Prop
 |[.list ds],Q=>∃bs,QcY ds=some bs/\Q (.bool (bs.all id))
 |_,_=>False
theorem Qos{K:PySem.W.Frag}{cm:Bool}(hc:cm=true):QcI (λxs H Q=>∃(p:Addr)(bs:List Bool),xs=[.ref p]/\SqL K H p (bs.map V.bl)/\cm=true/\Q (.bl (bs.all id)) H) QzO:=λA P H vs ds R Q ln dm q h k=>by
 unfold QzO at h;split at h
 ·obtain⟨v,rfl,hv⟩:=pd1 q;obtain⟨bs,hb,hR⟩:=h;rw[bools_eq hb] at hv;obtain⟨l,xs,rfl,e,qq⟩:=hv.list;rw[Qh6 qq] at e;exact⟨l,bs,rfl,SqL.of e,hc,k _ hR _ H (Same.refl H) (.bl _) QaU⟩
 ·exact h.elim
@[irreducible] def QzD:List Qa->(Qa->Prop)->Prop
 |[.list ds],Q=>∃ns,Qcl ds=some ns/\Q (.int ns.sum)
 |_,_=>False
theorem Qop{K:PySem.W.Frag}:QcI (Qxj K) QzD:=λA P H vs ds R Q ln dm q h k=>by
 unfold QzD at h;split at h
 ·obtain⟨v,rfl,hv⟩:=pd1 q;obtain⟨bs,hb,hR⟩:=h;rw[QgI hb] at hv;obtain⟨l,xs,rfl,e,qq⟩:=hv.list;rw[QbH qq] at e;exact⟨l,bs,rfl,SqL.of e,k _ hR _ H (Same.refl H) (.int _) YL⟩
 ·exact h.elim
def Qsx:List Qa->(Qa->Prop)->Prop
 |[.list ds],Q=>Q (.tuple ds)
 |[.tuple ds],Q=>Q (.tuple ds)
 |_,_=>False
def Qyt:List Qa->(Qa->Prop)->Prop
 |[.list ds],Q=>Q (.list ds)
 |[.tuple ds],Q=>Q (.list ds)
 |_,_=>False
theorem QgU{K:PySem.W.Frag}:QcI (QmF K) Qsx:=λA P H vs ds R Q ln dm q h k=>by
 unfold Qsx at h;split at h
 ·obtain⟨v,rfl,hv⟩:=pd1 q;obtain⟨l,xs,rfl,e,qq⟩:=hv.list;exact⟨l,xs,rfl,.inl ⟨SqL.of e,λl' H' s n e'=>k _ h _ H' s (Qhp dm s e' qq) (Qe8 e')⟩⟩
 ·obtain⟨v,rfl,hv⟩:=pd1 q;obtain⟨l,xs,rfl,e,qq⟩:=hv.tuple;exact⟨l,xs,rfl,.inr ⟨SqT.of e,k _ h _ H (Same.refl H) (Qhp dm (Same.refl H) e qq) (Qe8 e)⟩⟩
 ·exact h.elim
theorem Qv2{K:PySem.W.Frag}:QcI (QmH K) Qyt:=λA P H vs ds R Q ln dm q h k=>by
 unfold Qyt at h;split at h
 ·obtain⟨v,rfl,hv⟩:=pd1 q;obtain⟨l,xs,rfl,e,qq⟩:=hv.list;exact⟨l,xs,rfl,.inl (SqL.of e),λl' H' s n e'=>k _ h _ H' s (Qej dm s n e' qq) (Qbh n)⟩
 ·obtain⟨v,rfl,hv⟩:=pd1 q;obtain⟨l,xs,rfl,e,qq⟩:=hv.tuple;exact⟨l,xs,rfl,.inr (SqT.of e),λl' H' s n e'=>k _ h _ H' s (Qej dm s n e' qq) (Qbh n)⟩
 ·exact h.elim
def intD:List Qa->(Qa->Prop)->Prop
 |[.int i],Q=>Q (.int i)
 |[.bool k],Q=>Q (.int (if k then 1 else 0))
 |_,_=>False
theorem Qze:QcI QAA intD:=λA P H vs ds R Q ln dm q h k=>by
 unfold intD at h;split at h
 ·obtain⟨v,rfl,hv⟩:=pd1 q;rw[hv.int];exact .inl ⟨_,rfl,k _ h _ H (Same.refl H) (.int _) YL⟩
 ·obtain⟨v,rfl,hv⟩:=pd1 q;rw[hv.bool];exact .inr ⟨_,rfl,k _ h _ H (Same.refl H) (.int _) YL⟩
 ·exact h.elim
end
section
variable{X:Cx}{E:XK}
inductive Tn where | int | bool | str | tuple | list
def Tn.s:Tn->String
 |.int => "int"
 |.bool => "bool"
 |.str => "str"
 |.tuple => "tuple"
 |.list => "list"
def isT:Tn->Qa->Bool
 |.int,.int _=>true
 |.int,.bool _=>true
 |.bool,.bool _=>true
 |.str,.str _=>true
 |.tuple,.tuple _=>true
 |.list,.list _=>true
 |_,_=>false
theorem Qvw{K:PySem.W.Frag}{A P:Addr->Prop}{H:Hp}{v:V}{d:Qa}(tn:Tn)(h:DP A P H v d):∃t,TyOf K H v t/\PySem.W.kitOne K t (.type tn.s)=some (isT tn d):=by
 rcases h with h | ⟨l,xs,ds,rfl,rfl,_,e,q⟩
 ·cases h with
  |non=>exact⟨_,.non,by cases tn<;>rfl⟩
  |bl b=>exact⟨_,.bl _,by cases tn<;>rfl⟩
  |int i=>exact⟨_,.int _,by cases tn<;>rfl⟩
  |str x c=>exact⟨_,.str _,by cases tn<;>rfl⟩
  |tup n e q=>exact⟨_,.tup e,by cases tn<;>rfl⟩
  |lst n e q=>exact⟨_,.lst e,by cases tn<;>rfl⟩
  |dct n e=>exact⟨_,.dK e,by cases tn<;>rfl⟩
 ·exact⟨_,.lst e,by cases tn<;>rfl⟩
def Qy3(tn:Tn)(we:DE):DE:=λδ Q EX=>we δ (λd=>Q (.bool (isT tn d))) EX
theorem QuK{e f:Q2}{we:DE}{p pos:Pos}(tn:Tn)(hg:Gl X "isinstance")(hm:X.mg "isinstance" = none)(he:PE X e (tX .P X.K E we))(hf:PE X f (tC (.ty tn.s)))(h1:notStar e=true:=by rfl)(h2:notStar f=true:=by rfl) :
  PE X (.Call (.Name "isinstance" p) [e,f] [] pos) (tX .F X.K E (Qy3 tn we)):=by
 refine PE.imp (Qcu Qjo hg hm Qg0 (Qfj he (Qfj hf Yk h2) h1) (he:=Yc h1) (hpl:=by rw[Yc h2];rfl)) λσ H Q ⟨F,δ,R,EX,rel,hw,k,o⟩=>?_
 refine⟨F,δ,_,EX,rel,hw,λd hd v H' rel' kp vk=>?_,o⟩;obtain⟨t,ty,et⟩:=Qvw (K:=X.K) tn vk;exact⟨v,t,tn.s,_,rfl,ty,et,k _ hd _ H' rel' kp ⟨.bl _,QaU⟩⟩
theorem QAS{x:Str}{pos:Pos}(tn:Tn)(hg:Gl X x)(hm:X.mg x=none)(hv:bootBuiltins x=some (.type tn.s))(hn:x ≠ "__name__" := by decide)(hd:(x == ("__debug__" : Str))=false:=by decide):PE X (.Name x pos) (tC (.ty tn.s)):=Quq (v:=.ty tn.s) hg hm hv rfl hn hd
abbrev DO:=Sts->(Option Int->Prop)->XP->Prop
def tO(K:PySem.W.Frag)(E:XK)(w:DO):TO:=λσ H Q=>∃(F:Fm)(δ:Sts)(R:Option Int->Prop)(EX:XP),Rel K F σ H δ/\w δ R EX/\(∀d,R d->∀H',Rel K F σ H' δ->Kp σ δ H H'->Q d H')/\Out F E EX
def dNo:DO:=λ_ Q _=>Q none
def dSo(we:DE):DO:=λδ Q EX=>we δ (λd=>match d with
 |.int i=>Q (some i)
 |_=>False) EX
theorem PO.imp{e:Option Q2}{t t':TO}(h:PO X e t)(i:∀σ H Q,t' σ H Q->t σ H Q):PO X e t':=λpins s σ H Q I q=>h pins s σ H Q I (i σ H Q q)
theorem Qp4:PO X none (tO X.K E dNo):=PO.imp Quh λσ H Q ⟨F,δ,R,EX,rel,hw,k,o⟩=>k _ hw H rel (Kp.refl rel)
theorem Qp3{e:Q2}{we:DE}(he:PE X e (tX .P X.K E we)):PO X (some e) (tO X.K E (dSo we)):=by
 refine PO.imp (Qug he) λσ H Q ⟨F,δ,R,EX,rel,hw,k,o⟩=>?_
 refine⟨F,δ,_,EX,rel,hw,λd hd v H' rel' kp vk=>?_,o⟩;cases d<;>first | exact(show False from hd).elim | skip
 exact⟨_,DP.int vk,k _ hd H' rel' kp⟩
def cutD(xs:List Qa)(lo hi:Option Int):List Qa:=(xs.drop (HT.sIx xs.length 0 lo)).take (HT.sIx xs.length xs.length hi - HT.sIx xs.length 0 lo)
theorem Qoh{A:Addr->Prop}{H:Hp}{xs:List V}{ds:List Qa}(q:DAs A H xs ds)(lo hi:Option Int):DAs A H (QkB xs lo hi) (cutD ds lo hi):=by
 unfold QkB cutD;rw[q.length];exact(q.drop _).take _
def slD(d:Qa)(lo hi:Option Int)(Q:Qa->Prop):Prop:=
 match d with
 |.list ds=>Q (.list (cutD ds lo hi))
 |.tuple ds=>Q (.tuple (cutD ds lo hi))
 |_=>False
def dSl(we:DE)(wl wh:DO):DE:=λδ Q EX=>we δ (λd=>wl δ (λlo=>wh δ (λhi=>slD d lo hi Q) EX) EX) EX
def Qxm(K:PySem.W.Frag):V->Option Int->Option Int->Hp->VK->Prop:=λx a b H Q=>QBI x a b H Q∨Qxl K x a b H Q
theorem Qra{e:Q2}{lo hi:Option Q2}{we:DE}{wl wh:DO}{p2 pos:Pos}(he:PE X e (tX .P X.K E we))(hl:PO X lo (tO X.K E wl))(hh:PO X hi (tO X.K E wh)):PE X (.Subscript e (.Slice lo hi none p2) pos) (tX .F X.K E (dSl we wl wh)):=by
 refine PE.imp (QpQ (r:=Qxm X.K) (SlR.or2 Qw7 Qpq) he hl hh) λσ H Q ⟨F,δ,R,EX,rel,hw,k,o⟩=>?_
 refine⟨F,δ,_,EX,rel,hw,λd hd v H1 rel1 kp1 vk=>⟨F,δ,_,EX,rel1,hd,λa ha H2 rel2 kp2=>⟨F,δ,_,EX,rel2,ha,λb hb H3 rel3 kp3=>?_,o⟩,o⟩,o⟩;have v3:=kp3.dp (kp2.dp vk);have K3:=(kp1.trans kp2).trans kp3;cases d<;>first | exact(show False from hb).elim | skip
 ·obtain⟨l,xs,rfl,e,q⟩:=DP.list v3;exact .inr ⟨l,xs,rfl,SqL.of e,λp H' s n e'=>k _ hb _ H' (rel3.same s) (K3.trans (Kp.same rel3 s)) ⟨Qej (λa ha=>rel3.isl ha) s n e' (Qoh q _ _),Qbh (Qcf K3 n)⟩⟩
 ·obtain⟨l,xs,rfl,e,q⟩:=DP.tuple v3;exact .inl ⟨l,xs,rfl,e,λp H' s e'=>k _ hb _ H' (rel3.same s) (K3.trans (Kp.same rel3 s)) ⟨Qhp (λa ha=>rel3.isl ha) s e' (Qoh q _ _),Qe8 e'⟩⟩
abbrev DF:=List Sl->(Qa->Prop)->XP->Prop
def Kq(pt:Addr->Prop)(H H':Hp):Prop:=(∀b o,¬pt b->H b=some o->H' b=some o)/\∀p,pt p->∃n,H' p=some (.lst [.int n])
def Zu(fr:Bool)(f:DF):Sp:=λvs H Q Ex=>∃(A pt:Addr->Prop)(args:List Sl)(R:Qa->Prop)(EX:XP),(∀a,A a->∃xs,H a=some (.lst xs))/\(∀p,pt p->A p/\∃n,H p=some (.lst [.int n]))/\QaY (Qjw A pt H) vs args/\f args R EX /\
 (∀d,R d->∀v H',Kq pt H H'->DA A H' v d->(fr=true->FrV H H' v)->Q v H')/\∀C,EX C->∀H',Kq pt H H'->Ex (.ref C) none H'
def QBH:DSl:=λ_ Q _=>Q []
def sV(we:DE)(wr:DSl):DSl:=λδ Q EX=>we δ (λd=>wr δ (λds=>Q (.v d::ds)) EX) EX
def QAu(i:Nat)(wr:DSl):DSl:=λδ Q EX=>match δ[i]? with
 |some .pot=>wr δ (λds=>Q (.pot::ds)) EX
 |_=>False
theorem QuB:PA X [] (tAs X.K E QBH):=PA.imp Yk λσ H Q ⟨F,δ,R,EX,rel,hw,k,o⟩=>k [] hw [] H rel (Kp.refl rel) .nil
theorem QAM{e:Q2}{es:List Q2}{we:DE}{wr:DSl}(he:PE X e (tX .D X.K E we))(hr:PA X es (tAs X.K E wr))(hs:notStar e=true:=by rfl):PA X (e::es) (tAs X.K E (sV we wr)):=by
 refine PA.imp (Qfj he hr hs) λσ H Q ⟨F,δ,R,EX,rel,hw,k,o⟩=>?_
 refine⟨F,δ,_,EX,rel,hw,λd hd v H' rel' kp vk=>⟨F,δ,_,EX,rel',hd,λds hds vs H2 rel2 kp2 vks=>?_,o⟩,o⟩;exact k _ hds (v::vs) H2 rel2 (kp.trans kp2) (.cons (kp2.da vk) vks)
theorem Quy{e:Q2}{es:List Q2}{i:Nat}{wr:DSl}(he:PE X e (QiK i))(hr:PA X es (tAs X.K E wr))(hs:notStar e=true:=by rfl):PA X (e::es) (tAs X.K E (QAu i wr)):=by
 refine PA.imp (Qfj he hr hs) λσ H Q ⟨F,δ,R,EX,rel,hw,k,o⟩=>?_
 unfold QAu at hw;split at hw
 ·rename_i hd
  obtain⟨x,hx⟩:=rel.lt hd;obtain⟨p,n,rfl,e,q⟩:=rel.sl i _ _ hx hd;refine⟨.ref p,hx,F,δ,_,EX,rel,hw,λds hds vs H2 rel2 kp2 vks=>?_,o⟩;exact k _ hds (.ref p::vs) H2 rel2 kp2 (.cons ⟨p,rfl,i,hx,hd⟩ vks)
 ·exact hw.elim
def Qoe(f:DF)(wa:DSl):DE:=λδ Q EX=>wa δ (λargs=>f args Q EX) EX
theorem Kq.kp{K:PySem.W.Frag}{F:Fm}{σ:L2.St}{δ:Sts}{H H':Hp}(k:Kq (Yn σ δ) H H'):Kp σ δ H H':=k
theorem Qh9{m:Md}{fr:Bool}{K:PySem.W.Frag}{f:DF}{wa:DSl}(hm:∀{F:Fm}{σ:L2.St}{δ:Sts}{H H':Hp}{v:V}{d:Qa},DA (Av F σ δ) H' v d->(fr=true->FrV H H' v)->Vok m F σ δ H H' v d)(σ:L2.St)(H:Hp)(Q:VK)(h:tX m K E (Qoe f wa) σ H Q):Qmi (Zu fr f) [] E (tAs K E wa) σ H Q:=by
 obtain⟨F,δ,R,EX,rel,hw,k,o⟩:=h;refine⟨F,δ,_,EX,rel,hw,λargs ha vs H1 rel1 kp1 q=>?_,o⟩;show Zu fr f (vs++[]) H1 Q E;rw[JK];refine⟨Av F σ δ,Yn σ δ,args,R,EX,λa ha=>rel1.isl ha,λp hp=>⟨Qaq hp,(Kp.refl rel1).2 p hp⟩,q,ha,λd hd v H' kq dv fr=>?_,λC hC H' kq=>o C hC H' (rel1.kp kq).ke⟩;exact k d hd v H' (rel1.kp kq) (kp1.trans kq) (hm dv λz l e1 e2=>Qcf kp1 (fr z l e1 e2))
variable{CX:CXT}{k:Nat}{f:Addr}{fd:Jc}{ps:List Str}{x:Str}{p pos:Pos}{e:Q2}{es:List Q2}{fD:DF}{wa:DSl}
theorem QuN(G:FnOk X.prog X.w X.K X.mg X.base CX k f fd ps (Zu false fD))(hr:Room k X.A)(hg:Gl X x)(hm:X.mg x=some (.ref f))(hk:PySem.W.keepIn X.K (.ref f)=true)(hb:Binds X.K fd ps [])(hx:QcO CX X E)
  (ha:PA X (e::es) (tAs X.K E wa))(hdb:(x == ("__debug__" : Str))=false:=by decide)(he:starEach (e::es) X.env=(false,eval e X.env)::starEach es X.env:=by rfl)(hpl:(backTo pos (starEach es X.env)).any (·.1)=false:=by rfl) :
  PE X (.Call (.Name x p) (e::es) [] pos) (tX .D X.K E (Qoe fD wa)):=PE.imp (Qcd G hr hg hm hk hb .nil hx ha hdb he hpl) (Qh9 λh _=>h)
theorem Qrc(G:FnOk X.prog X.w X.K X.mg X.base CX k f fd ps (Zu true fD))(hr:Room k X.A)(hg:Gl X x)(hm:X.mg x=some (.ref f))(hk:PySem.W.keepIn X.K (.ref f)=true)(hb:Binds X.K fd ps [])(hx:QcO CX X E)
  (ha:PA X (e::es) (tAs X.K E wa))(hdb:(x == ("__debug__" : Str))=false:=by decide)(he:starEach (e::es) X.env=(false,eval e X.env)::starEach es X.env:=by rfl)(hpl:(backTo pos (starEach es X.env)).any (·.1)=false:=by rfl) :
  PE X (.Call (.Name x p) (e::es) [] pos) (tX .F X.K E (Qoe fD wa)):=PE.imp (Qcd G hr hg hm hk hb .nil hx ha hdb he hpl) (Qh9 λh z=>⟨h,z rfl⟩)
def scal:Qa->Bool
 |.list _=>false
 |.tuple _=>false
 |.dict _=>false
 |_=>true
def QyN:Qa->Bool
 |.list ds=>ds.all scal
 |d=>scal d
theorem QtT{A A':Addr->Prop}{H:Hp}{v:V}{d:Qa}(h:DA A H v d)(s:scal d=true):DA A' H v d:=by
 cases h with
 |non=>exact .non
 |bl b=>exact .bl b
 |int i=>exact .int i
 |str x c=>exact .str x c
 |tup _ _ _=>cases s
 |lst _ _ _=>cases s
 |dct _ _=>cases s
theorem QjT{A A':Addr->Prop}{H:Hp}:∀{vs:List V}{ds:List Qa},DAs A H vs ds->ds.all scal=true->DAs A' H vs ds
 |_,_,.nil,_=>.nil
 |_,_,.cons a b,s=>by
  rw[List.all_cons,JR] at s;exact .cons (QtT a s.1) (QjT b s.2)
def Qod(f:DF)(wa:DAr):DE:=λδ Q EX=>wa δ (λds=>f (ds.map Sl.v) (λd=>QyN d=true/\Q d) EX) EX
def QCn(P:Addr->Prop)(H:Hp)(vs:List V)(a:Addr):Prop:=V.ref a∈vs/\¬P a
theorem QhV{A P:Addr->Prop}{H:Hp}(ws:List V):∀{vs:List V}{ds:List Qa},(∀v∈vs,v∈ws)->QaY (VD .P A P H) vs ds->QaY (Qjw (λa=>A a/\¬QCn P H ws a) (λ_=>False) H) vs (ds.map Sl.v)
 |_,_,_,.nil=>.nil
 |v::vs,d::ds,m,.cons a b=>by
  refine .cons ?_ (QhV ws (λv hv=>m v (Q7 _ hv)) b)
  rcases a with a | ⟨l,xs,ds,rfl,rfl,n,e,q⟩
  ·exact a.mv (λ_ _ _ e=>e) λa z=>.inl z.1
  ·exact .lst (λz=>z.2 ⟨m _ JM,n⟩) e (q.mv (λ_ _ _ e=>e) λa z=>.inl z.1)
theorem QlJ{n:Nat}{fr:Bool}{K:PySem.W.Frag}{f:DF}{wa:DAr}(hfr:fr=true)(σ:L2.St)(H:Hp)(Q:VK)(h:tX .F K E (Qod f wa) σ H Q):Qmi (Zu fr f) [] E (tAr n .P K E wa) σ H Q:=by
 obtain⟨F,δ,R,EX,rel,hw,k,o⟩:=h;refine⟨F,δ,_,EX,rel,hw,λargs ha _ vs H1 rel1 kp1 q=>?_,o⟩;show Zu fr f (vs++[]) H1 Q E;rw[JK];refine⟨λa=>Av F σ δ a/\¬QCn (Yn σ δ) H1 vs a,λ_=>False,args.map Sl.v,_,EX,λa ha=>rel1.isl ha.1,λp hp=>hp.elim,QhV vs (λ_ h=>h) q,ha,λd hd v H' kq dv fr=>?_,λC hC H' kq=>o C hC H' (rel1.same λb o e=>kq.1 b o (λz=>z) e).ke⟩;have s:Same H1 H':=λb o e=>kq.1 b o (λz=>z) e
 have fv:=fr hfr;refine k d hd.2 v H' (rel1.same s) (kp1.trans (Kp.same rel1 s)) ⟨?_,λl e1 e2=>Qcf kp1 (fv l e1 e2)⟩;have hf:=hd.1;cases dv with
 |non=>exact .non
 |bl b=>exact .bl b
 |int i=>exact .int i
 |str x c=>exact .str x c
 |tup _ _ _=>cases hf
 |dct _ _=>cases hf
 |@lst a xs ds n' e q'=>
  refine .lst (λz=>?_) e (QjT q' hf);obtain⟨ys,e'⟩:=rel1.isl z;rw[fv a rfl ⟨xs,e⟩] at e';cases e'
theorem Qrb{n:Nat}{wr:DAr}(G:FnOk X.prog X.w X.K X.mg X.base CX k f fd ps (Zu true fD))(hr:Room k X.A)(hg:Gl X x)(hm:X.mg x=some (.ref f))(hk:PySem.W.keepIn X.K (.ref f)=true)(hb:Binds X.K fd ps [])(hx:QcO CX X E)
  (ha:PA X (e::es) (tAr n .P X.K E wr))(hdb:(x == ("__debug__" : Str))=false:=by decide)(he:starEach (e::es) X.env=(false,eval e X.env)::starEach es X.env:=by rfl)(hpl:(backTo pos (starEach es X.env)).any (·.1)=false:=by rfl) :
  PE X (.Call (.Name x p) (e::es) [] pos) (tX .F X.K E (Qod fD wr)):=PE.imp (Qcd G hr hg hm hk hb .nil hx ha hdb he hpl) (QlJ rfl)
end
abbrev DG:=Qa->Sts->(Sts->Prop)->Prop
def tG(ix:List Nat)(K:PySem.W.Frag)(w:DG):TG:=λv σ H Q=>∃(F:Fm)(δ:Sts)(d:Qa)(R:Sts->Prop),Rel K F σ H δ/\DA (Av F σ δ) H v d/\w d δ R /\
 ∀δ',R δ'->∀σ',Rel K F σ' H δ'->Stp F σ H δ σ' H δ'->σ'.length=σ.length->(∀j,j∉ix->σ'[j]? = σ[j]?)->Q σ' H
theorem QaG{α:Type}{l:List α}{i j:Nat}{x:α}(h:j≠i):(l.set i x)[j]? = l[j]? := QdD (Qb0 h)
theorem set_eq{α:Type}{l:List α}{i:Nat}{x y:α}(h:(l.set i x)[i]? = some y):y=x:=by
 rw[Qsn] at h;simp only[if_true] at h;split at h
 ·exact(Qu h).symm
 ·cases h
theorem Qek{F:Fm}{σ:L2.St}{δ:Sts}{i:Nat}{o:Option V}{d:Qa}{a:Addr}(h:Av F (σ.set i o) (δ.set i (.v d)) a):Av F σ δ a:=by
 rcases h with h | ⟨j,h1,h2⟩
 ·exact .inl h
 ·by_cases z:j=i
  ·subst z;rcases h2 with h2 | ⟨ds,h2⟩<;>cases set_eq h2
  ·rw[QaG z] at h1 h2;exact .inr ⟨j,h1,h2⟩
theorem Rel.setv{K:PySem.W.Frag}{F:Fm}{σ:L2.St}{H:Hp}{δ:Sts}(r:Rel K F σ H δ){i:Nat}{v:V}{d:Qa}(q:DA (Av F σ δ) H v d):Rel K F (σ.set i (some v)) H (δ.set i (.v d)) where
 len:=by rw[Yg,Yg];exact r.len
 dom:=r.dom
 dom0:=r.dom0
 pt0:=r.pt0
 kx:=r.kx
 sl:=λj o x h1 h2=>by
  have wk:∀{v:V}{d':Qa},DA (Av F σ δ) H v d'->DA (Av F (σ.set i (some v)) (δ.set i (.v d))) H v d':=λh=>h.mv (λ_ _ _ e=>e) λa z=>.inl (Qek z)
  by_cases z:j=i
  ·subst z;cases set_eq h1;cases set_eq h2;exact⟨v,rfl,q.mv (λ_ _ _ e=>e) λa z=>.inl (Qek z)⟩
  ·rw[QaG z] at h1 h2;have h:=r.sl j o x h1 h2;cases x with
   |no=>trivial
   |v d=>obtain⟨v',e,q'⟩:=h;exact⟨v',e,q'.mv (λ_ _ _ e=>e) λa z=>.inl (Qek z)⟩
   |own ds=>obtain⟨l,xs,e,e2,q',f⟩:=h;exact⟨l,xs,e,e2,q'.mv (λ_ _ _ e=>e) λa z=>.inl (Qek z),f⟩
   |pk ds=>obtain⟨l,xs,e,e2,q',f⟩:=h;exact⟨l,xs,e,e2,q'.mv (λ_ _ _ e=>e) λa z=>.inl (Qek z),f⟩
   |pot=>exact h
   |scr=>exact h
 inj:=λj k a ds h1 h2 ⟨h3,h4⟩=>by
  by_cases z:j=i
  ·subst z;cases set_eq h1
  ·rw[QaG z] at h1 h2;by_cases z2:k=i
   ·subst z2;rcases h4 with h4 | ⟨ds,h4⟩<;>cases set_eq h4
   ·rw[QaG z2] at h3 h4;exact r.inj j k a ds h1 h2 ⟨h3,h4⟩
theorem Stp.setv{F:Fm}{σ:L2.St}{H:Hp}{δ:Sts}{i:Nat}{o:Option V}{d:Qa}:Stp F σ H δ (σ.set i o) H (δ.set i (.v d)):=⟨λ_ _ _ e=>e,λa z=>.inl (Qek z)⟩
def gN(i:Nat):DG:=λd δ Q=>Q (δ.set i (.v d))
def QjS:Sts->List Nat->List Qa->Sts
 |δ,i::is,d::ds=>QjS (δ.set i (.v d)) is ds
 |δ,_,_=>δ
def gTN(is:List Nat):DG:=λd δ Q=>match d with
 |.tuple ds=>ds.length=is.length/\Q (QjS δ is ds)
 |_=>False
section
variable{X:Cx}{E:XK}
theorem PG.imp{e:Q2}{t t':TG}(h:PG X e t)(i:∀v σ H Q,t' v σ H Q->t v σ H Q):PG X e t':=λpins s σ H v u Q I r q=>h pins s σ H v u Q I r (i v σ H Q q)
theorem Qp9{e:Q2}{i:Nat}(h:PG X e (Qer i)):PG X e (tG [i] X.K (gN i)):=PG.imp h λv σ H Q ⟨F,δ,d,R,rel,dv,hw,k⟩=>
 k _ hw _ (rel.setv dv) Stp.setv (Yg ..) λj hj=>QaG λz=>hj (by rw[z];exact Jf.mpr rfl)
def gNs:List Nat->TGs
 |[]=>QBZ
 |i::is=>QyL (Qer i) (gNs is)
theorem Qkq{K:PySem.W.Frag}{F:Fm}{H:Hp}{Q:L2.St->Hp->Prop}:∀(is:List Nat)(vs:List V)(ds:List Qa)(σ:L2.St)(δ:Sts),ds.length=is.length->Rel K F σ H δ->DAs (Av F σ δ) H vs ds ->
  (∀σ',Rel K F σ' H (QjS δ is ds)->Stp F σ H δ σ' H (QjS δ is ds)->σ'.length=σ.length->(∀j,j∉is->σ'[j]? = σ[j]?)->Q σ' H)->gNs is vs σ H Q
 |[],vs,ds,σ,δ,hl,rel,q,k=>by
  cases ds with
  |nil=>cases q;exact⟨rfl,k σ rel Stp.refl rfl λ_ _=>rfl⟩
  |cons d ds=>cases hl
 |i::is,vs,ds,σ,δ,hl,rel,q,k=>by
  cases ds with
  |nil=>cases hl
  |cons d ds=>
   cases q with
   |@cons v vs _ _ q qs=>
    refine⟨v,vs,rfl,?_⟩;refine Qkq is vs ds _ _ (by simpa using hl) (rel.setv q) (qs.mv (λ_ _ _ e=>e) λa z=>.inl (Qek z)) λσ' r' st hl' hj=>?_
    refine k σ' r' (Stp.setv.trans st) (by rw[hl',Yg]) λj hn=>?_
    rw[hj j (λz=>hn (Q7 _ z)),QaG (λz=>hn (by rw[z];exact JM))]
theorem QuH{e:Q2}{n:Nat}{is:List Nat}(h:PG X e (QBY X.K n (gNs is)))(hn:is.length=n:=by rfl):PG X e (tG is X.K (gTN is)):=PG.imp h λv σ H Q ⟨F,δ,d,R,rel,dv,hw,k⟩=>by
 unfold gTN at hw;split at hw
 ·obtain⟨hl,hR⟩:=hw;cases dv with
  |@tup a xs ds na e q=>
   exact⟨a,xs,rfl,SqT.of e,by rw[q.length,hl,hn],Qkq is xs _ σ δ hl rel q λσ' r' st hl' hj=>k _ hR σ' r' st hl' hj⟩
 ·exact hw.elim
def ItD(A S:Addr->Prop)(J:It)(items:List Qa)(H1:Hp):Prop:=items.length<=sizeLine/\∀(H2:Hp)(A':Addr->Prop),(∀b o,S b->H1 b=some o->H2 b=some o)->(∀b,A' b->A b∨H1 b=none)->(∀a,A' a->∃xs,H2 a=some (.lst xs)) ->
 (∀(i:Nat) d,items[i]? = some d->J.go i H2/\∀x H3,J.yld i H2 x H3->Same H2 H3/\DA A' H3 x d)/\J.stop items.length H2
def Sx(m:Md)(F:Fm)(σ:L2.St)(δ:Sts)(b:Addr):Prop:=
 match m with
 |.P=>¬Yn σ δ b
 |_=>¬Av F σ δ b
abbrev DI:=Sts->(List Qa->Prop)->XP->Prop
def tI(m:Md)(K:PySem.W.Frag)(E:XK)(w:DI):TI:=λσ H R=>∃(F:Fm)(δ:Sts)(R':List Qa->Prop)(EX:XP),Rel K F σ H δ/\w δ R' EX/\(∀items,R' items->∀J H',Rel K F σ H' δ->Kp σ δ H H'->ItD (Av F σ δ) (Sx m F σ δ) J items H'->R J H')/\Out F E EX
theorem PI.imp{tg e:Q2}{t t':TI}(h:PI X tg e t)(i:∀σ H R,QcZ H->t' σ H R->t σ H R):PI X tg e t':=λpins s σ H R I q=>h pins s σ H R I (i σ H R (Inv.lens I) q)
theorem PI.len{tg e:Q2}{t:TI}(h:PI X tg e t):PI X tg e (λσ H R=>t σ H λJ H1=>QcZ H1->R J H1):=λpins s σ H R I q=>by
 refine thn (h pins s σ H _ I q) λv s1 h1=>thn h1 λitv s2 h2=>?_
 obtain⟨it,fp,tn,J,H',e,I',T,t0,fo,hR⟩:=h2;exact⟨it,fp,tn,J,H',e,I',T,t0,fo,hR (Inv.lens I')⟩
def QCd(w:DE):DI:=λδ Q EX=>w δ (λd=>match d with
 |.list ds=>Q ds
 |_=>False) EX
def QCc(w:DE):DI:=λδ Q EX=>w δ (λd=>match d with
 |.tuple ds=>Q ds
 |_=>False) EX
theorem Qa4{A S:Addr->Prop}{H H2:Hp}{A':Addr->Prop}{xs:List V}{ds:List Qa}(sA:∀b,¬A b->S b)(k:∀b o,S b->H b=some o->H2 b=some o)(m:∀b,A' b->A b∨H b=none)(q:DAs A H xs ds):DAs A' H2 xs ds:=q.mv (λa o n e=>k a o (sA a n) e) m
theorem QA3{K:PySem.W.Frag}{A S:Addr->Prop}{H:Hp}{l:Addr}{xs:List V}{ds:List Qa}(sA:∀b,¬A b->S b)(sl:S l)(e:H l=some (.lst xs))(q:DAs A H xs ds)(ln:xs.length<=sizeLine):ItD A S (Itl K l) ds H:=by
 refine⟨by rw[<- q.length];exact ln,λH2 A' k m dm=>⟨λi d hd=>?_,xs,SqL.of (k _ _ sl e),by rw[q.length];exact Qj _⟩⟩;obtain⟨x,hx,dx⟩:=(Qa4 sA k m q).get i d hd;refine⟨⟨xs,x,SqL.of (k _ _ sl e),hx⟩,λy H3 ⟨e3,hy⟩=>?_⟩;subst e3;have:=hy xs (SqL.of (k _ _ sl e));rw[hx] at this;cases this;exact⟨Same.refl _,dx⟩
theorem QA1{K:PySem.W.Frag}{A S:Addr->Prop}{H:Hp}{l:Addr}{xs:List V}{ds:List Qa}(sA:∀b,¬A b->S b)(sl:S l)(e:H l=some (.tup xs))(q:DAs A H xs ds)(ln:xs.length<=sizeLine):ItD A S (Itt K l) ds H:=by
 refine⟨by rw[<- q.length];exact ln,λH2 A' k m dm=>⟨λi d hd=>?_,xs,SqT.of (k _ _ sl e),by rw[q.length];exact Qj _⟩⟩;obtain⟨x,hx,dx⟩:=(Qa4 sA k m q).get i d hd;refine⟨⟨xs,x,SqT.of (k _ _ sl e),hx⟩,λy H3 ⟨e3,hy⟩=>?_⟩;subst e3;have:=hy xs (SqT.of (k _ _ sl e));rw[hx] at this;cases this;exact⟨Same.refl _,dx⟩
theorem Qfs{m:Md}{F:Fm}{σ:L2.St}{δ:Sts}{b:Addr}(h:¬Av F σ δ b):Sx m F σ δ b:=by
 cases m
 ·exact h
 ·exact λz=>h (Qaq z)
 ·exact h
theorem stL{m:Md}{F:Fm}{σ:L2.St}{δ:Sts}{H H':Hp}{v:V}{ds:List Qa}(h:VD m (Av F σ δ) (Yn σ δ) H v (.list ds)):∃l xs,v=.ref l/\Sx m F σ δ l/\H l=some (.lst xs)/\DAs (Av F σ δ) H xs ds:=by
 cases m
 ·cases h with | @lst a xs _ n e q=>exact⟨a,xs,rfl,n,e,q⟩
 ·rcases h with h | ⟨l,xs,ds',rfl,e,n,e2,q⟩
  ·cases h with | @lst a xs _ n e q=>exact⟨a,xs,rfl,Qfs n,e,q⟩
  ·cases e;exact⟨l,xs,rfl,n,e2,q⟩
 ·cases h with | @lst a xs _ n e q=>exact⟨a,xs,rfl,n,e,q⟩
theorem stT{m:Md}{F:Fm}{σ:L2.St}{δ:Sts}{H H':Hp}{v:V}{ds:List Qa}(h:VD m (Av F σ δ) (Yn σ δ) H v (.tuple ds)):∃l xs,v=.ref l/\Sx m F σ δ l/\H l=some (.tup xs)/\DAs (Av F σ δ) H xs ds:=by
 cases m
 ·cases h with | @tup a xs _ n e q=>exact⟨a,xs,rfl,n,e,q⟩
 ·rcases h with h | ⟨l,xs,ds',rfl,e,n,e2,q⟩
  ·cases h with | @tup a xs _ n e q=>exact⟨a,xs,rfl,Qfs n,e,q⟩
  ·cases e
 ·cases h with | @tup a xs _ n e q=>exact⟨a,xs,rfl,n,e,q⟩
theorem Qef{m:Md}{F:Fm}{σ:L2.St}{δ:Sts}{H H':Hp}{v:V}{d:Qa}(h:Vok m F σ δ H H' v d):VD m (Av F σ δ) (Yn σ δ) H' v d:=by
 cases m
 ·exact h
 ·exact h
 ·exact h.1
variable{m:Md}{tg e e':Q2}{w w':DE}{p pos tpos:Pos}
theorem Qp8(h:PE X e (tX m X.K E w)):PI X tg e (tI m X.K E (QCd w)):=by
 refine PI.imp (PI.len (Qi1 h)) λσ H R _ ⟨F,δ,R',EX,rel,hw,k,o⟩=>?_
 refine⟨F,δ,_,EX,rel,hw,λd hd v H' rel' kp vk=>?_,o⟩;cases d<;>first | exact(show False from hd).elim | skip
 obtain⟨l,xs,rfl,sl,e,q⟩:=stL (H':=H') (Qef vk);exact⟨l,rfl,⟨xs,SqL.of e⟩,λln=>k _ hd _ H' rel' kp (QA3 (λb=>Qfs) sl e q (ln _ _ (.inl e)))⟩
theorem QuG(h:PE X e (tX m X.K E w)):PI X tg e (tI m X.K E (QCc w)):=by
 refine PI.imp (PI.len (QxF h)) λσ H R _ ⟨F,δ,R',EX,rel,hw,k,o⟩=>?_
 refine⟨F,δ,_,EX,rel,hw,λd hd v H' rel' kp vk=>?_,o⟩;cases d<;>first | exact(show False from hd).elim | skip
 obtain⟨l,xs,rfl,sl,e,q⟩:=stT (H':=H') (Qef vk);exact⟨l,rfl,⟨xs,SqT.of e⟩,λln=>k _ hd _ H' rel' kp (QA1 (λb=>Qfs) sl e q (ln _ _ (.inr e)))⟩
def Qit(lo:Int)(n:Nat):List Qa:=(Qk n).map λ(i:Nat)=>.int (lo+i)
theorem QdU{lo:Int}{n i:Nat}{d:Qa}(h:(Qit lo n)[i]? = some d):i<n/\d=.int (lo+i):=by
 unfold Qit at h;rw[Qq] at h;by_cases z:i<n
 ·rw[Ju z] at h;exact⟨z,(Qu h).symm⟩
 ·rw[Q1 (by rw[Qz];omega)] at h;cases h
theorem QiV{lo:Int}{n:Nat}:(Qit lo n).length=n:=by unfold Qit;rw[Qg,Qz]
theorem QA2{A S:Addr->Prop}{H:Hp}{lo:Int}{n:Nat}(hn:n<=1000000):ItD A S (Itr lo n) (Qit lo n) H:=by
 refine⟨by rw[QiV];exact Jk hn Qlw,λH2 A' k m dm=>⟨λi d hd=>?_,by rw[QiV];exact Qj _⟩⟩;obtain⟨hi,rfl⟩:=QdU hd;exact⟨hi,λx H3 ⟨e1,e2⟩=>by subst e1 e2;exact⟨Same.refl _,.int _⟩⟩
def Qy0(w:DE):DI:=λδ Q EX=>w δ (λd=>match d with
 |.int j=>(-1000000<=j/\j<=1000000)/\Q (Qit 0 j.toNat)
 |_=>False) EX
theorem Qp7(hg:Gl X "range")(hm:X.mg "range" = none)(h:PE X e (tX .P X.K E w))(hs:notStar e=true:=by rfl):PI X tg (.Call (.Name "range" p) [e] [] pos) (tI m X.K E (Qy0 w)):=by
 refine PI.imp (QhJ hg hm (Qfj h Yk hs) (by rw[Yc hs];rfl)) λσ H R _ ⟨F,δ,R',EX,rel,hw,k,o⟩=>?_
 refine⟨F,δ,_,EX,rel,hw,λd hd v H' rel' kp vk=>?_,o⟩;cases d<;>first | exact(show False from hd).elim | skip
 obtain⟨⟨h1,h2⟩,hR⟩:=hd;rw[DP.int vk];exact⟨_,rfl,by omega,by omega,k _ hR _ H' rel' kp (QA2 (by omega))⟩
theorem QgA{A':Addr->Prop}{H2:Hp}{r:Addr}{x y:V}{d d':Qa}(dm:∀a,A' a->∃xs,H2 a=some (.lst xs))(n:H2 r=none)(q:DA A' H2 x d)(q':DA A' H2 y d'):DA A' (upd H2 r (.tup [x,y])) (.ref r) (.tuple [d,d']):=
 .tup (λz=>by obtain⟨xs,e⟩:=dm r z;rw[n] at e;cases e) JN (.cons (q.same (JS n)) (.cons (q'.same (JS n)) .nil))
def QbZ(ds:List Qa):List Qa:=(Qk ds.length).map λ(i:Nat)=>.tuple [.int i,ds.getD i .none]
theorem Qa6{ds:List Qa}{i:Nat}{d:Qa}(h:(QbZ ds)[i]? = some d):∃e,ds[i]? = some e/\d=.tuple [.int i,e]:=by
 unfold QbZ at h;rw[Qq] at h;by_cases z:i<ds.length
 ·rw[Ju z] at h;refine⟨ds[i],Qf z,?_⟩;rw[<- Qu h];show J4 [.int i,ds.getD i .none]=_;rw[Qh,Qf z];rfl
 ·rw[Q1 (by rw[Qz];omega)] at h;cases h
theorem Qcz{ds:List Qa}:(QbZ ds).length=ds.length:=by unfold QbZ;rw[Qg,Qz]
def QCf(w:DE):DI:=λδ Q EX=>w δ (λd=>match d with
 |.list ds=>Q (QbZ ds)
 |_=>False) EX
def QCe(w:DE):DI:=λδ Q EX=>w δ (λd=>match d with
 |.tuple ds=>Q (QbZ ds)
 |_=>False) EX
variable{elts:List Q2}
theorem QmX{x1}(hg:Gl X "enumerate")(hm:X.mg "enumerate" = none)(h:PE X e (tX m X.K E w))(hs:notStar e=true:=by rfl):PI X (.Tuple elts x1 tpos) (.Call (.Name "enumerate" p) [e] [] pos) (tI m X.K E (QCf w)):=by
 refine PI.imp (PI.len (Quj hg hm (Qfj h Yk hs) (by rw[Yc hs];rfl))) λσ H R _ ⟨F,δ,R',EX,rel,hw,k,o⟩=>?_
 refine⟨F,δ,_,EX,rel,hw,λd hd v H' rel' kp vk=>?_,o⟩;cases d<;>first | exact(show False from hd).elim | skip
 obtain⟨l,xs,rfl,sl,e,q⟩:=stL (H':=H') (Qef vk);refine⟨l,xs,rfl,e,λln=>k _ hd _ H' rel' kp ⟨by rw[Qcz,<- q.length];exact ln _ _ (.inl e),λH2 A' kk mm dm=>⟨λi d hd'=>?_,xs,kk _ _ sl e,by rw[Qcz,q.length];exact Qj _⟩⟩⟩;obtain⟨d',hd2,rfl⟩:=Qa6 hd';obtain⟨x,hx,dx⟩:=(Qa4 (S:=Sx m F σ δ) (λb=>Qfs) kk mm q).get i d' hd2;refine⟨⟨xs,x,kk _ _ sl e,hx⟩,λy H3 ⟨r,x',nr,hx',e1,e2⟩=>?_⟩;subst e1 e2;have:=hx' xs (kk _ _ sl e);rw[hx] at this;cases this;exact⟨JS nr,QgA dm nr (.int _) dx⟩
theorem QmW{x1}(hg:Gl X "enumerate")(hm:X.mg "enumerate" = none)(h:PE X e (tX m X.K E w))(hs:notStar e=true:=by rfl):PI X (.Tuple elts x1 tpos) (.Call (.Name "enumerate" p) [e] [] pos) (tI m X.K E (QCe w)):=by
 refine PI.imp (PI.len (QpN hg hm (Qfj h Yk hs) (by rw[Yc hs];rfl))) λσ H R _ ⟨F,δ,R',EX,rel,hw,k,o⟩=>?_
 refine⟨F,δ,_,EX,rel,hw,λd hd v H' rel' kp vk=>?_,o⟩;cases d<;>first | exact(show False from hd).elim | skip
 obtain⟨l,xs,rfl,sl,e,q⟩:=stT (H':=H') (Qef vk);refine⟨l,xs,rfl,e,λln=>k _ hd _ H' rel' kp ⟨by rw[Qcz,<- q.length];exact ln _ _ (.inr e),λH2 A' kk mm dm=>⟨λi d hd'=>?_,xs,kk _ _ sl e,by rw[Qcz,q.length]⟩⟩⟩;obtain⟨d',hd2,rfl⟩:=Qa6 hd';obtain⟨x,hx,dx⟩:=(Qa4 (S:=Sx m F σ δ) (λb=>Qfs) kk mm q).get i d' hd2;refine⟨⟨xs,x,kk _ _ sl e,hx⟩,λy H3 ⟨r,x',nr,hx',e1,e2⟩=>?_⟩;subst e1 e2;have:=hx' xs (kk _ _ sl e);rw[hx] at this;cases this;exact⟨JS nr,QgA dm nr (.int _) dx⟩
def Qhe(ds es:List Qa):List Qa:=Qc0 (λd e=>.tuple [d,e]) ds es
theorem zip_get{ds es:List Qa}{i:Nat}{d:Qa}(h:(Qhe ds es)[i]? = some d):∃a b,ds[i]? = some a/\es[i]? = some b/\d=.tuple [a,b]:=by
 unfold Qhe at h;rw[List.getElem?_zipWith] at h;cases h1:ds[i]? with
 |none=>rw[h1] at h;cases h
 |some a=>
  cases h2:es[i]? with
  |none=>rw[h1,h2] at h;cases h
  |some b=>rw[h1,h2] at h;exact⟨a,b,rfl,rfl,(Qu h).symm⟩
theorem Qgc{ds es:List Qa}:(Qhe ds es).length=min ds.length es.length:=by unfold Qhe;rw[Qea]
def QB2(w w':DE):DI:=λδ Q EX=>w δ (λd=>w' δ (λd'=>match d,d' with
 |.list ds,.list es=>Q (Qhe ds es)
 |_,_=>False) EX) EX
def QB1(w w':DE):DI:=λδ Q EX=>w δ (λd=>w' δ (λd'=>match d,d' with
 |.tuple ds,.tuple es=>Q (Qhe ds es)
 |_,_=>False) EX) EX
theorem Qp6{x1}(hg:Gl X "zip")(hm:X.mg "zip" = none)(h:PE X e (tX m X.K E w))(h':PE X e' (tX m X.K E w'))(hs:notStar e=true:=by rfl)(hs':notStar e'=true:=by rfl):PI X (.Tuple elts x1 tpos) (.Call (.Name "zip" p) [e,e'] [] pos) (tI m X.K E (QB2 w w')):=by
 refine PI.imp (PI.len (Qui hg hm (Qfj h (Qfj h' Yk hs') hs) (by rw[Yc hs,Yc hs'];rfl) (hs2:=by rw[Yc hs'];rfl))) λσ H R _ ⟨F,δ,R',EX,rel,hw,k,o⟩=>?_
 refine⟨F,δ,_,EX,rel,hw,λd hd v H1 rel1 kp1 vk=>⟨F,δ,_,EX,rel1,hd,λd2 hd2 v2 H2 rel2 kp2 vk2=>?_,o⟩,o⟩;cases d<;>cases d2<;>first | exact(show False from hd2).elim | skip
 obtain⟨l,xs,rfl,sl,e,q⟩:=stL (H':=H2) (kp2.vd (Qef vk));obtain⟨l2,ys,rfl,sl2,e2,q2⟩:=stL (H':=H2) (Qef vk2);refine⟨l,l2,xs,ys,rfl,e,e2,λln=>k _ hd2 _ H2 rel2 (kp1.trans kp2) ⟨?_,λH3 A' kk mm dm=>⟨λi d hd'=>?_,xs,ys,kk _ _ sl e,kk _ _ sl2 e2,by rw[Qgc,q.length,q2.length];omega⟩⟩⟩
 ·rw[Qgc,<- q.length];exact Jk (QwE _ _) (ln _ _ (.inl e))
 obtain⟨a,b,ha,hb,rfl⟩:=zip_get hd';obtain⟨x,hx,dx⟩:=(Qa4 (S:=Sx m F σ δ) (λb=>Qfs) kk mm q).get i a ha;obtain⟨y,hy,dy⟩:=(Qa4 (S:=Sx m F σ δ) (λb=>Qfs) kk mm q2).get i b hb;refine⟨⟨xs,ys,x,y,kk _ _ sl e,kk _ _ sl2 e2,hx,hy⟩,λz H4 ⟨r,x',y',nr,hx',hy',e1,e3⟩=>?_⟩;subst e1 e3;have h1:=hx' xs (kk _ _ sl e);have h2:=hy' ys (kk _ _ sl2 e2);rw[hx] at h1;rw[hy] at h2;cases h1;cases h2;exact⟨JS nr,QgA dm nr dx dy⟩
theorem Qp5{x1}(hg:Gl X "zip")(hm:X.mg "zip" = none)(h:PE X e (tX m X.K E w))(h':PE X e' (tX m X.K E w'))(hs:notStar e=true:=by rfl)(hs':notStar e'=true:=by rfl):PI X (.Tuple elts x1 tpos) (.Call (.Name "zip" p) [e,e'] [] pos) (tI m X.K E (QB1 w w')):=by
 refine PI.imp (PI.len (QxE hg hm (Qfj h (Qfj h' Yk hs') hs) (by rw[Yc hs,Yc hs'];rfl) (hs2:=by rw[Yc hs'];rfl))) λσ H R _ ⟨F,δ,R',EX,rel,hw,k,o⟩=>?_
 refine⟨F,δ,_,EX,rel,hw,λd hd v H1 rel1 kp1 vk=>⟨F,δ,_,EX,rel1,hd,λd2 hd2 v2 H2 rel2 kp2 vk2=>?_,o⟩,o⟩;cases d<;>cases d2<;>first | exact(show False from hd2).elim | skip
 obtain⟨l,xs,rfl,sl,e,q⟩:=stT (H':=H2) (kp2.vd (Qef vk));obtain⟨l2,ys,rfl,sl2,e2,q2⟩:=stT (H':=H2) (Qef vk2);refine⟨l,l2,xs,ys,rfl,e,e2,λln=>k _ hd2 _ H2 rel2 (kp1.trans kp2) ⟨?_,λH3 A' kk mm dm=>⟨λi d hd'=>?_,xs,ys,kk _ _ sl e,kk _ _ sl2 e2,by rw[Qgc,q.length,q2.length];omega⟩⟩⟩
 ·rw[Qgc,<- q.length];exact Jk (QwE _ _) (ln _ _ (.inr e))
 obtain⟨a,b,ha,hb,rfl⟩:=zip_get hd';obtain⟨x,hx,dx⟩:=(Qa4 (S:=Sx m F σ δ) (λb=>Qfs) kk mm q).get i a ha;obtain⟨y,hy,dy⟩:=(Qa4 (S:=Sx m F σ δ) (λb=>Qfs) kk mm q2).get i b hb;refine⟨⟨xs,ys,x,y,kk _ _ sl e,kk _ _ sl2 e2,hx,hy⟩,λz H4 ⟨r,x',y',nr,hx',hy',e1,e3⟩=>?_⟩;subst e1 e3;have h1:=hx' xs (kk _ _ sl e);have h2:=hy' ys (kk _ _ sl2 e2);rw[hx] at h1;rw[hy] at h2;cases h1;cases h2;exact⟨JS nr,QgA dm nr dx dy⟩
end
def Qv5:Option Sl->Sl
 |some (.v d)=>.v d
 |some (.own ds)=>.pk ds
 |some (.pk ds)=>.pk ds
 |some .pot=>.pot
 |_=>.no
def QeG(cap:List (Option Nat))(δ:Sts):Sts:=cap.map λo=>match o with
 |none=>.no
 |some j=>Qv5 δ[j]?
theorem QgV{cap:List (Option Nat)}{σ:L2.St}{i:Nat}{o:Option V}(h:(QdF cap σ)[i]? = some o):(cap[i]? = some none/\o=none)∨∃j,cap[i]? = some (some j)/\o=(σ[j]?).getD none:=by
 unfold QdF at h;rw[Qq] at h;obtain⟨c,hc,rfl⟩:=Yq.mp h;cases c with
 |none=>exact .inl ⟨hc,rfl⟩
 |some j=>exact .inr ⟨j,hc,rfl⟩
theorem QgW{cap:List (Option Nat)}{δ:Sts}{i:Nat}{x:Sl}(h:(QeG cap δ)[i]? = some x):(cap[i]? = some none/\x=.no)∨∃j,cap[i]? = some (some j)/\x=Qv5 δ[j]? := by
 unfold QeG at h;rw[Qq] at h;obtain⟨c,hc,rfl⟩:=Yq.mp h;cases c with
 |none=>exact .inl ⟨hc,rfl⟩
 |some j=>exact .inr ⟨j,hc,rfl⟩
theorem Qa7{cap:List (Option Nat)}{σ:L2.St}{δ:Sts}{i:Nat}{o:Option V}{x:Sl}(h1:(QdF cap σ)[i]? = some o)(h2:(QeG cap δ)[i]? = some x)(hx:x≠.no):∃(j:Nat)(y:Sl),δ[j]? = some y/\x=Qv5 (some y)/\o=(σ[j]?).getD none:=by
 rcases QgW h2 with⟨_,e⟩ | ⟨j,hj,e⟩
 ·exact absurd e hx
 ·rcases QgV h1 with⟨z,_⟩ | ⟨j',hj',e'⟩
  ·rw[hj] at z;cases z
  ·rw[hj] at hj';cases hj';cases e2:δ[j]? with
   |none=>rw[e2] at e;exact absurd e hx
   |some y=>exact⟨j,y,e2,by rw[e,e2],e'⟩
theorem QcW{cap:List (Option Nat)}{σ:L2.St}{δ:Sts}{a:Addr}(h:Yn (QdF cap σ) (QeG cap δ) a):Yn σ δ a:=by
 obtain⟨i,h1,h2⟩:=h;obtain⟨j,y,hy,e,eo⟩:=Qa7 h1 h2 (λz=>by cases z);cases y<;>first | (cases e;done) | skip
 refine⟨j,?_,hy⟩;cases e2:σ[j]? with
 |none=>rw[e2] at eo;cases eo
 |some o'=>rw[e2] at eo;exact congrArg some eo.symm
def inF(A1:Addr->Prop)(cap:List (Option Nat))(σ:L2.St)(δ:Sts)(H:Hp):Fm:=⟨H,A1,Yn (QdF cap σ) (QeG cap δ)⟩
theorem Qkn{A1:Addr->Prop}{cap:List (Option Nat)}{σ:L2.St}{δ:Sts}{H:Hp}(h:∀a,Yn σ δ a->A1 a){a:Addr}:Av (inF A1 cap σ δ H) (QdF cap σ) (QeG cap δ) a↔A1 a:=by
 constructor
 ·rintro(z | ⟨i,h1,h2⟩)
  ·exact z
  ·rcases h2 with h2 | ⟨ds,h2⟩
   ·exact h a (QcW ⟨i,h1,h2⟩)
   ·obtain⟨j,y,hy,e,eo⟩:=Qa7 h1 h2 (λz=>by cases z);cases y<;>cases e
 ·exact .inl
theorem QnG{K:PySem.W.Frag}{F:Fm}{σ:L2.St}{δ:Sts}{H1 H3:Hp}{A1:Addr->Prop}{cap:List (Option Nat)}(rel:Rel K F σ H1 δ)(hA:∀a,Av F σ δ a->A1 a)(hN:∀a,A1 a->Av F σ δ a∨H1 a=none)
  (dm:∀a,A1 a->∃xs,H3 a=some (.lst xs))(kp:Kp σ δ H1 H3):Rel K (inF A1 cap σ δ H3) (QdF cap σ) H3 (QeG cap δ) where
 len:=by unfold QdF QeG;rw[Qg,Qg]
 dom:=dm
 dom0:=dm
 pt0:=λp hp=>⟨hA p (Qaq (QcW hp)),kp.2 p (QcW hp)⟩
 kx:=λb o _ e=>e
 sl:=λi o x h1 h2=>by
  have iv:∀{a:Addr},Av (inF A1 cap σ δ H3) (QdF cap σ) (QeG cap δ) a->A1 a:=λ{a}=>(Qkn λa z=>hA a (Qaq z)).mp
  have mv:∀{v:V}{d:Qa},DA (Av F σ δ) H1 v d->DA (Av (inF A1 cap σ δ H3) (QdF cap σ) (QeG cap δ)) H3 v d:=λq=>q.mv (λa o n e=>kp.1 a o (λz=>n (Qaq z)) e) λa z=>hN a (iv z)
  have mvs:∀{v:List V}{d:List Qa},DAs (Av F σ δ) H1 v d->DAs (Av (inF A1 cap σ δ H3) (QdF cap σ) (QeG cap δ)) H3 v d:=λq=>q.mv (λa o n e=>kp.1 a o (λz=>n (Qaq z)) e) λa z=>hN a (iv z)
  cases x with
  |no=>trivial
  |own ds=>
   obtain⟨j,y,hy,e,eo⟩:=Qa7 h1 h2 (λz=>by cases z);cases y<;>cases e
  |scr=>
   obtain⟨j,y,hy,e,eo⟩:=Qa7 h1 h2 (λz=>by cases z);cases y<;>cases e
  |v d=>
   obtain⟨j,y,hy,e,eo⟩:=Qa7 h1 h2 (λz=>by cases z);cases y<;>first | (cases e;done) | skip
   cases e;obtain⟨x,hx⟩:=rel.lt hy;obtain⟨v,rfl,q⟩:=rel.sl j _ _ hx hy;rw[hx] at eo;exact⟨v,eo,mv q⟩
  |pk ds=>
   obtain⟨j,y,hy,e,eo⟩:=Qa7 h1 h2 (λz=>by cases z);cases y<;>first | (cases e;done) | skip
   ·cases e;obtain⟨x,hx⟩:=rel.lt hy;obtain⟨l,xs,rfl,e,q,f⟩:=rel.sl j _ _ hx hy;rw[hx] at eo;have np:=rel.own_pot hy hx;exact⟨l,xs,eo,kp.1 _ _ np e,mvs q,xs,kp.1 _ _ np e,λz=>np (QcW z)⟩
   ·cases e;obtain⟨x,hx⟩:=rel.lt hy;obtain⟨l,xs,rfl,e,q,ys,f,f2⟩:=rel.sl j _ _ hx hy;rw[hx] at eo;have np:¬Yn σ δ l:=by
     rintro⟨j,j1,j2⟩;obtain⟨p,m,e1,_,w⟩:=rel.sl j _ _ j1 j2;cases e1;rcases w with w | w
     ·exact f2 w
     ·rw[w] at f;cases f
    exact⟨l,xs,eo,kp.1 _ _ np e,mvs q,xs,kp.1 _ _ np e,λz=>np (QcW z)⟩
  |pot=>
   obtain⟨j,y,hy,e,eo⟩:=Qa7 h1 h2 (λz=>by cases z);cases y<;>first | (cases e;done) | skip
   obtain⟨x,hx⟩:=rel.lt hy;obtain⟨p,n,rfl,e,q⟩:=rel.sl j _ _ hx hy;rw[hx] at eo;obtain⟨m,em⟩:=kp.2 p ⟨j,hx,hy⟩;have eo':o=some (.ref p):=eo;subst eo';exact⟨p,m,rfl,em,.inl ⟨i,h1,h2⟩⟩
 inj:=λi j a ds h1 h2 _=>by
  obtain⟨j,y,hy,e,eo⟩:=Qa7 h2 h1 (λz=>by cases z);cases y<;>cases e
theorem Qpe:∀{σ σ':L2.St},σ'.length=σ.length->(∀(i:Nat) v,σ[i]? = some (some v)->σ'[i]? = some (some v))->Wk σ σ'
 |[],[],_,_=>trivial
 |[],_::_,h,_=>by cases h
 |_::_,[],h,_=>by cases h
 |none::a,x::b,h,g=>Qpe (σ:=a) (σ':=b) (by simpa using h) λi v e=>by simpa using g (i+1) v (by simpa using e)
 |some u::a,x::b,h,g=>by
  have h0:=g 0 u rfl;simp only[QjB,Option.some.injEq] at h0;subst h0;exact⟨rfl,Qpe (σ:=a) (σ':=b) (by simpa using h) λi v e=>by simpa using g (i+1) v (by simpa using e)⟩
def Qcj(cap:List (Option Nat))(ix:List Nat):Bool:=ix.all λi=>match cap[i]? with
 |some none=>true
 |_=>false
theorem Qs9{cap:List (Option Nat)}{ix:List Nat}(hf:Qcj cap ix=true){σ σ4:L2.St}(hl:σ4.length=(QdF cap σ).length)(hj:∀j,j∉ix->σ4[j]? = (QdF cap σ)[j]?):Wk (QdF cap σ) σ4:=by
 refine Qpe hl λi v e=>?_
 by_cases z:i∈ix
 ·have:=Zg.mp hf i z;rcases QgV e with⟨_,e2⟩ | ⟨j,hj2,_⟩
  ·cases e2
  ·rw[hj2] at this;cases this
 ·rw[hj i z];exact e
def XF:XP:=λ_=>False
@[irreducible] def Qg4(items:List Qa)(wg:DG)(wt:DT)(we:DE)(δ:Sts)(Q:Qa->Prop):Prop:=∃Iv:Nat->List Qa->Prop,Iv 0 [] /\
 (∀(i:Nat) acc d,items[i]? = some d->Iv i acc->wg d δ λδ4=>wt δ4 (λb=>if b=true then we δ4 (λe=>Iv (i+1) (acc++[e])) XF else Iv (i+1) acc) XF)/\∀acc,Iv items.length acc->Q (.list acc)
def dComp(cap:List (Option Nat))(wi:DI)(wg:DG)(wt:DT)(we:DE):DE:=λδ Q EX=>wi δ (λitems=>Qg4 items wg wt we (QeG cap δ) Q) EX
def QvP:DT:=λ_ Q _=>Q true
section
variable{X:Cx}{E:XK}
theorem QsQ{F:Fm}{E:XK}:Out F E XF:=λ_ z=>z.elim
theorem PTs.imp{es:List Q2}{t t':TT}(h:PTs X es t)(i:∀σ H Q,t' σ H Q->t σ H Q):PTs X es t':=λpins s σ H Q I q=>h pins s σ H Q I (i σ H Q q)
theorem QpV:PTs X [] (tT X.K E QvP):=PTs.imp QmP λσ H Q ⟨F,δ,R,EX,rel,hw,k,o⟩=>k _ hw H rel (Kp.refl rel)
theorem QpU{c:Q2}{t:DT}(h:PT X c (tT X.K E t)):PTs X [c] (tT X.K E t):=QmO h
theorem Qjf{K:PySem.W.Frag}{A1:Addr->Prop}{cap:List (Option Nat)}{σ σ4:L2.St}{δ δ4:Sts}{H3 H4:Hp}(r:Rel K (inF A1 cap σ δ H3) σ4 H4 δ4)(hk:∀b o,¬Yn σ δ b->H4 b=some o->H3 b=none->False){b:Addr}(h:Yn σ4 δ4 b):Yn σ δ b:=by
 obtain⟨i,h1,h2⟩:=h;obtain⟨p,n,e,hp,w⟩:=r.sl i _ _ h1 h2;cases e;rcases w with w | w
 ·exact QcW w
 ·by_cases z:Yn σ δ b
  ·exact z
  ·exact(hk b _ z hp w).elim
theorem Qmd{K:PySem.W.Frag}{F:Fm}{σ:L2.St}{δ:Sts}{H1 H3:Hp}{cap:List (Option Nat)}{ix:List Nat}{wg:DG}{wt:DT}{A1:Addr->Prop}{x:V}{d:Qa}{inner:L2.St->Hp->(Hp->Prop)->Prop}{kk:Hp->Prop}{T:Sts->Prop}{N:Prop}
  (hf:Qcj cap ix=true)(rel:Rel K F σ H1 δ)(hA:∀a,Av F σ δ a->A1 a)(hN:∀a,A1 a->Av F σ δ a∨H1 a=none)(dm:∀a,A1 a->∃xs,H3 a=some (.lst xs))(kp:Kp σ δ H1 H3)(dx:DA A1 H3 x d)
  (h:wg d (QeG cap δ) λδ4=>wt δ4 (λb=>if b=true then T δ4 else N) XF)
  (hT:∀σ4 δ4 H5,T δ4->Rel K (inF A1 cap σ δ H3) σ4 H5 δ4->Kp σ δ H3 H5->(∀b,Yn σ4 δ4 b->Yn σ δ b)->inner σ4 H5 kk)(hF:N->∀H5,Kp σ δ H3 H5->kk H5) :
  bOf (QdF cap σ) (tG ix K wg) (tT K E0 wt) inner x H3 kk:=by
 have ri:=QnG (cap:=cap) rel hA hN dm kp;have iv:∀{a:Addr},Av (inF A1 cap σ δ H3) (QdF cap σ) (QeG cap δ) a->A1 a:=λ{a}=>(Qkn λa z=>hA a (Qaq z)).mp
 refine⟨inF A1 cap σ δ H3,QeG cap δ,d,_,ri,dx.mv (λ_ _ _ e=>e) λa z=>.inl (iv z),h,λδ4 h4 σ4 r4 st4 l4 j4=>⟨Qs9 hf l4 j4,inF A1 cap σ δ H3,δ4,_,XF,r4,h4,λb hb H5 r5 kp5=>?_,QsQ⟩⟩;have pots:∀{b:Addr},Yn σ4 δ4 b->Yn σ δ b:=λz=>Qjf r4 (λb o _ e1 e2=>by rw[e2] at e1;cases e1) z
 have K5:Kp σ δ H3 H5:=by
  refine⟨λb o n e=>kp5.1 b o (λz=>n (pots z)) e,λb hb=>?_⟩;by_cases z:Yn σ4 δ4 b
  ·exact kp5.2 b z
  ·obtain⟨n,e⟩:=kp.2 b hb;exact⟨n,kp5.1 _ _ z e⟩
 exact Qdq hb (λz=>hT σ4 δ4 H5 z r5 K5 λb=>pots) λz=>hF z H5 K5
structure Lp (σ:L2.St) (δ:Sts) (A1:Addr->Prop) (p:Addr) (H1 H2:Hp) (acc:List Qa):Prop where
 kp:Kp σ δ H1 H2
 at_:∃ys,H2 p=some (.lst ys)/\DAs A1 H2 ys acc
theorem Lp.step{σ:L2.St}{δ:Sts}{A1:Addr->Prop}{p:Addr}{H1 H2 H3:Hp}{acc:List Qa}(hpA:∀a,Yn σ δ a->A1 a)(hpn:¬Yn σ δ p)(h:Lp σ δ A1 p H1 H2 acc)(k:Kp σ δ H2 H3):Lp σ δ A1 p H1 H3 acc:=by
 obtain⟨ys,e,q⟩:=h.at_;exact⟨h.kp.trans k,ys,k.1 _ _ hpn e,q.mv (λa o n e=>k.1 a o (λz=>n (hpA a z)) e) λa z=>.inl z⟩
theorem Qs2{K:PySem.W.Frag}{σ σ4:L2.St}{δ δ4:Sts}{H1 H3 H5:Hp}{cap:List (Option Nat)}{we:DE}{A1:Addr->Prop}{p:Addr}{acc:List Qa}{kk:Hp->Prop}{G:Qa->Prop}
  (hpA:A1 p)(hP:∀a,Yn σ δ a->A1 a)(hp1:H1 p=none)(hpn:¬Yn σ δ p)(lp:Lp σ δ A1 p H1 H5 acc)(hl:acc.length<sizeLine)(r5:Rel K (inF A1 cap σ δ H3) σ4 H5 δ4)(pots:∀b,Yn σ4 δ4 b->Yn σ δ b)
  (h:we δ4 G XF)(hk:∀e,G e->∀H',Lp σ δ A1 p H1 H' (acc++[e])->kk H'):Qww p (tX .D K E0 we) σ4 H5 kk:=by
 refine⟨inF A1 cap σ δ H3,δ4,G,XF,r5,h,λe he v H6 r6 kp6 dv=>?_,QsQ⟩;have k56:Kp σ δ H5 H6:=by
  refine⟨λb o n e=>kp6.1 b o (λz=>n (pots b z)) e,λb hb=>?_⟩;by_cases z:Yn σ4 δ4 b
  ·exact kp6.2 b z
  ·obtain⟨n,e⟩:=lp.kp.2 b hb;exact⟨n,kp6.1 _ _ z e⟩
 obtain⟨k6,ys,e6,q6⟩:=lp.step hP hpn k56;have up:∀{b:Addr}{o:HO},¬A1 b->H6 b=some o->upd H6 p (.lst (ys++[v])) b=some o:=λ{b o} n e=>by rw[JY (λz=>n (by rw[z];exact hpA))];exact e
 refine⟨ys,e6,by rw[q6.length];exact hl,hk e he _ ⟨⟨λb o n e=>?_,λb hb=>?_⟩,ys++[v],JN,DAs.app (q6.mv (λ_ _=>up) λa z=>.inl z) (.cons (DA.mv dv (λa o n e=>up (λz=>n (.inl z)) e) λa z=>.inl (.inl z)) .nil)⟩⟩
 ·rw[JY (λz=>by rw[z,hp1] at e;cases e)];exact k6.1 b o n e
 ·rw[JY (λz=>hpn (by rw[<- z];exact hb))];exact k6.2 b hb
theorem QuL{M:List Str}{cap:List (Option Nat)}{elt tg iter:Q2}{ifs:List Q2}{scope:Y8}{pos:Pos}{ix:List Nat}{wi:DI}{wg:DG}{wt:DT}{we:DE}(hc:X.calm=true)(ok:Qff X.N X.env.scope M scope cap=true)(hf:Qcj cap ix=true)
  (hi:PI X tg iter (tI .P X.K E wi))(hb:∀cl ex s3 H3 C,PG (blk X M scope cl ex s3 H3 C) tg (tG ix X.K wg)/\PTs (blk X M scope cl ex s3 H3 C) ifs (tT X.K E0 wt)/\PE (blk X M scope cl ex s3 H3 C) elt (tX .D X.K E0 we))
  (hs:∀x,foldedSetIterable iter X.env x=pure x:=by intro _;rfl):PE X (.ListComp elt [⟨tg,iter,ifs,0⟩] scope pos) (tX .F X.K E (dComp cap wi wg wt we)):=by
 refine PE.imp (Qj4 hc ok hi hb hs) λσ H Q ⟨F,δ,R,EX,rel,hw,k,o⟩=>?_
 refine⟨F,δ,_,EX,rel,hw,λitems hC J H1 rel1 kp1 ⟨ln,it⟩ p hp=>?_,o⟩;unfold Qg4 at hC;obtain⟨Iv,i0,step,fin⟩:=hC;have hpn:¬Yn σ δ p:=λz=>by obtain⟨xs,e⟩:=rel1.isl (Qaq (F:=F) z);rw[hp] at e;cases e
 let A1:Addr->Prop:=λa=>Av F σ δ a∨a=p
 have hP:∀a,Yn σ δ a->A1 a:=λa z=>.inl (Qaq z)
 have hN:∀a,A1 a->Av F σ δ a∨H1 a=none:=λa z=>z.elim .inl λz=>.inr (by rw[z];exact hp)
 have dmK:∀{H2:Hp},Kp σ δ H1 H2->(∃ys,H2 p=some (.lst ys))->∀a,A1 a->∃xs,H2 a=some (.lst xs):=λ{H2} k2 e2 a z=>by
  rcases z with z | z
  ·exact(rel1.kp k2).isl z
  ·rw[z];exact e2
 refine Qd1 items.length (λi H2=>i<=items.length/\∃acc,Iv i acc/\acc.length<=i/\Lp σ δ A1 p H1 H2 acc) ⟨Qt _,[],i0,Qj _,Kp.same rel1 (JS hp),[],JN,.nil⟩ (λi H2 hi ⟨_,acc,iv,hl,lp⟩=>?_) λH2 ⟨_,acc,iv,hl,lp⟩=>?_
 ·obtain⟨k2,ys,e2,q2⟩:=lp;obtain⟨go,_⟩:=it H2 A1 (λb o n e=>k2.1 b o n e) hN (dmK k2 ⟨ys,e2⟩);have hd:items[i]? = some items[i]:=Qf hi;obtain⟨g1,g2⟩:=go i _ hd;refine⟨g1,λx H3 y kk hk=>?_⟩;obtain⟨s3,dx⟩:=g2 x H3 y;have k23:=Kp.same (rel1.kp k2) s3;have lp3:Lp σ δ A1 p H1 H3 acc:=Lp.step hP hpn ⟨k2,ys,e2,q2⟩ k23;refine Qmd hf rel1 (λa z=>.inl z) hN (dmK lp3.kp ⟨ys,s3 _ _ e2⟩) lp3.kp dx (step i acc _ hd iv) (λσ4 δ4 H5 h5 r5 k5 pots=>?_) λh5 H5 k5=>hk _ ⟨hi,acc,h5,by omega,lp3.step hP hpn k5⟩
  exact Qs2 (.inr rfl) hP hp hpn (lp3.step hP hpn k5) (by omega) r5 pots h5 λe he H' lp'=>hk _ ⟨hi,acc++[e],he,by rw[Qs];show _+1<=_;omega,lp'⟩
 ·obtain⟨k2,ys,e2,q2⟩:=lp;obtain⟨_,st⟩:=it H2 A1 (λb o n e=>k2.1 b o n e) hN (dmK k2 ⟨ys,e2⟩);refine⟨st,k _ (fin acc iv) (.ref p) H2 (rel1.kp k2) (kp1.trans k2) ⟨.lst (λz=>?_) e2 (q2.mv (λ_ _ _ e=>e) λa z=>.inl (.inl z)),λl e1 _=>?_⟩⟩
  ·obtain⟨xs,e⟩:=rel1.isl z;rw[hp] at e;cases e
  ·cases e1;exact Qcf kp1 hp
theorem Qr2{items:List Qa}{wg:DG}{wt:DT}{we:DE}{δ:Sts}{Q:Qa->Prop}(G:Qa->Option Qa)
  (h:∀d∈items,∀(k1:Prop)(k2:Qa->Prop),(G d=none->k1)->(∀e,G d=some e->k2 e)->wg d δ λδ4=>wt δ4 (λb=>if b=true then we δ4 k2 XF else k1) XF)(q:Q (.list (items.filterMap G))) :
  Qg4 items wg wt we δ Q:=by
 unfold Qg4;refine⟨λi acc=>acc=(items.take i).filterMap G,by simp,λi acc d hd e=>?_,λacc e=>by rw[e,Zf];exact q⟩;have hs:(items.take (i+1)).filterMap G=(items.take i).filterMap G++(G d).toList:=by
  rw[Zv,hd,ZB];cases e2:G d<;>simp[e2]
 have e:acc=(items.take i).filterMap G:=e;refine h d (QK hd) _ _ (λe2=>?_) λe' e2=>?_
 ·show acc=(items.take (i+1)).filterMap G;rw[hs,e2,e];simp
 ·show acc++[e']=(items.take (i+1)).filterMap G;rw[hs,e2,e];rfl
theorem QbT{items:List Qa}{wg:DG}{we:DE}{δ:Sts}{Q:Qa->Prop}(G:Qa->Qa)
  (h:∀d∈items,∀(k2:Qa->Prop),k2 (G d)->wg d δ λδ4=>we δ4 k2 XF)(q:Q (.list (items.map G))) :
  Qg4 items wg QvP we δ Q:=by
 unfold Qg4;refine⟨λi acc=>acc=(items.take i).map G,by simp,λi acc d hd e=>?_,λacc e=>by rw[e,Zf];exact q⟩;have hs:(items.take (i+1)).map G=(items.take i).map G++[G d]:=by
  rw[Zv,hd,JF];simp
 have e:acc=(items.take i).map G:=e;have hh:=h d (QK hd) (λe=>acc++[e]=(items.take (i+1)).map G) (by show acc++[G d]=_;rw[hs,e]);simp only[QvP,if_true];exact hh
end
mutual
theorem Qoa{A B:Addr->Prop}{H:Hp}:∀(d d':Qa)(x:V),DA A H x d->DA B H x d'->d=d'
 |.none,d',_,.non,h=>by cases h;rfl
 |.bool _,d',_,.bl _,h=>by cases h;rfl
 |.int _,d',_,.int _,h=>by cases h;rfl
 |.str _,d',_,.str _ _,h=>by cases h;rfl
 |.tuple ds,d',_,.tup (xs:=xs) n e q,h=>by
  cases h with
  |@tup a ys es n' e' q'=>
   rw[e] at e';cases e';rw[QgP ds es xs q q']
  |@lst a ys es n' e' q'=>rw[e] at e';cases e'
  |@dct a n' e'=>rw[e] at e';cases e'
 |.list ds,d',_,.lst (xs:=xs) n e q,h=>by
  cases h with
  |@tup a ys es n' e' q'=>rw[e] at e';cases e'
  |@lst a ys es n' e' q'=>
   rw[e] at e';cases e';rw[QgP ds es xs q q']
  |@dct a n' e'=>rw[e] at e';cases e'
 |.dict _,d',_,.dct n e,h=>by
  cases h with
  |@tup a ys es n' e' q'=>rw[e] at e';cases e'
  |@lst a ys es n' e' q'=>rw[e] at e';cases e'
  |@dct a n' e'=>rfl
theorem QgP{A B:Addr->Prop}{H:Hp}:∀(ds es:List Qa)(xs:List V),DAs A H xs ds->DAs B H xs es->ds=es
 |[],es,_,.nil,h=>by cases h;rfl
 |d::ds,es,_,.cons q qs,h=>by
  cases h with
  |@cons x xs e es q' qs'=>rw[Qoa d e _ q q',QgP ds es _ qs qs']
end
mutual
theorem QyW{A:Addr->Prop}{H:Hp}{l:Addr}{rs:List Qa}(root:DA A H (.ref l) (.list rs)):∀(d:Qa)(x:V),sizeOf d<sizeOf (Yl rs)->DA A H x d->DA (λa=>A a∨a=l) H x d
 |.none,_,_,.non=>.non
 |.bool _,_,_,.bl _=>.bl _
 |.int _,_,_,.int _=>.int _
 |.str _,_,_,.str _ c=>.str _ c
 |.tuple ds,_,hs,.tup (a:=a) (xs:=xs) n e q=>.tup (λz=>z.elim n λz=>by subst z;cases root with | @lst _ ys _ n' e' q'=>(rw[e] at e';cases e')) e (QgQ root ds xs (by simp at hs ⊢;omega) q)
 |.list ds,_,hs,.lst (a:=a) (xs:=xs) n e q=>.lst (λz=>z.elim n λz=>by
   subst z;have:=Qoa _ _ _ root (.lst n e q);rw[this] at hs;omega) e (QgQ root ds xs (by simp at hs ⊢;omega) q)
 |.dict _,_,hs,.dct (a:=a) n e=>.dct (λz=>z.elim n λz=>by subst z;cases root with | @lst _ ys _ n' e' q'=>(rw[e] at e';cases e')) e
theorem QgQ{A:Addr->Prop}{H:Hp}{l:Addr}{rs:List Qa}(root:DA A H (.ref l) (.list rs)):∀(ds:List Qa)(xs:List V),sizeOf ds<sizeOf (Yl rs)->DAs A H xs ds->DAs (λa=>A a∨a=l) H xs ds
 |[],_,_,.nil=>.nil
 |d::ds,_,hs,.cons q qs=>.cons (QyW root d _ (by simp at hs ⊢;omega) q) (QgQ root ds _ (by simp at hs ⊢;omega) qs)
end
theorem DA.items{A:Addr->Prop}{H:Hp}{l:Addr}{ds:List Qa}(root:DA A H (.ref l) (.list ds)):∃xs,H l=some (.lst xs)/\DAs (λa=>A a∨a=l) H xs ds:=by
 have root':=root;cases root with
 |@lst _ xs _ n e q=>exact⟨xs,e,QgQ root' ds xs (by simp) q⟩
structure Qg3 where
 nx:Sts->Prop
 rt:Qa->Prop
 rtF:Qa->Prop
 bk:Sts->Prop
 ct:Sts->Prop
 ex:XP
abbrev DS:=Qg3->Sts->Prop
structure Nx (K:PySem.W.Frag) (F:Fm) (σ:L2.St) (H:Hp) (δ:Sts) (R:Sts->Prop) (T:L2.St->Hp->Prop):Prop where
 go:∀δ',R δ'->∀σ' H',Rel K F σ' H' δ'->Stp F σ H δ σ' H' δ'->T σ' H'
structure Ends1 (K:PySem.W.Frag) (E:XK) (F:Fm) (σ:L2.St) (H:Hp) (δ:Sts) (DD:Qg3) (D:Ends):Prop where
 nx:Nx K F σ H δ DD.nx D.nx
 rt:∀d,DD.rt d->∀v H',Ke F H'->DA F.A0 H' v d->D.rt v H'
 rtF:∀d,DD.rtF d->∀v H',Ke F H'->DA F.A0 H' v d->FrV F.H0 H' v->D.rt v H'
 bk:Nx K F σ H δ DD.bk D.bk
 ct:Nx K F σ H δ DD.ct D.ct
 ex:Out F E DD.ex
def tS(K:PySem.W.Frag)(E:XK)(w:DS):TS:=λD σ H=>∃(F:Fm)(δ:Sts)(DD:Qg3),Rel K F σ H δ/\w DD δ/\Ends1 K E F σ H δ DD D
theorem Nx.step{K:PySem.W.Frag}{F:Fm}{σ σ1:L2.St}{H H1:Hp}{δ δ1:Sts}{R:Sts->Prop}{T:L2.St->Hp->Prop}(h:Nx K F σ H δ R T)(s:Stp F σ H δ σ1 H1 δ1):Nx K F σ1 H1 δ1 R T:=⟨λδ' hR σ' H' r st=>h.go δ' hR σ' H' r (s.trans st)⟩
theorem Ends1.step{K:PySem.W.Frag}{E:XK}{F:Fm}{σ σ1:L2.St}{H H1:Hp}{δ δ1:Sts}{DD:Qg3}{D:Ends}(h:Ends1 K E F σ H δ DD D)(s:Stp F σ H δ σ1 H1 δ1):Ends1 K E F σ1 H1 δ1 DD D:=⟨h.nx.step s,h.rt,h.rtF,h.bk.step s,h.ct.step s,h.ex⟩
section
variable{X:Cx}{E:XK}
theorem PS.imp{e:Y7}{t t':TS}(h:PS X e t)(i:∀D σ H,t' D σ H->t D σ H):PS X e t':=λpins s σ H D I q=>h pins s σ H D I (i D σ H q)
theorem PSs.imp{e:List Y7}{t t':TS}(h:PSs X e t)(i:∀D σ H,t' D σ H->t D σ H):PSs X e t':=λpins s σ H D I q=>h pins s σ H D I (i D σ H q)
def QB4(a b:DS):DS:=λD δ=>a { D with nx:=b D } δ
def QyY:DS:=λD δ=>D.nx δ
theorem QpW:PSs X [] (tS X.K E QyY):=PSs.imp QiZ λD σ H ⟨F,δ,DD,rel,hw,en⟩=>en.nx.go δ hw σ H rel Stp.refl
theorem QuA{st:Y7}{w:DS}(h:PS X st (tS X.K E w)):PSs X [st] (tS X.K E w):=Qcc h
theorem Qp1{st:Y7}{rest:List Y7}{w w':DS}(h:PS X st (tS X.K E w))(h':PSs X rest (tS X.K E w')):PSs X (st::rest) (tS X.K E (QB4 w w')):=by
 refine PSs.imp (Qaj h h') λD σ H ⟨F,δ,DD,rel,hw,en⟩=>?_
 exact⟨F,δ,_,rel,hw,⟨λδ' h' σ' H' r st=>⟨F,δ',DD,r,h',en.step st⟩⟩,en.rt,en.rtF,en.bk,en.ct,en.ex⟩
def QzN(i:Nat)(we:DE):DS:=λD δ=>we δ (λd=>D.nx (δ.set i (.v d))) D.ex
def QvN(i:Nat)(we:DE):DS:=λD δ=>we δ (λd=>match d with
 |.list ds=>D.nx (δ.set i (.own ds))
 |_=>False) D.ex
def QyZ(i:Nat)(we:DE):DS:=λD δ=>we δ (λd=>match d with
 |.list [.int _]=>D.nx (δ.set i .pot)
 |_=>False) D.ex
variable{i:Nat}{e:Q2}{st:Y7}{we wi:DE}
theorem Qi2(h:PS X st (Qpj (tX .D X.K E we) (Qer i))):PS X st (tS X.K E (QzN i we)):=by
 refine PS.imp h λD σ H ⟨F,δ,DD,rel,hw,en⟩=>?_
 refine⟨F,δ,_,DD.ex,rel,hw,λd hd v H' rel' kp vk=>?_,en.ex⟩;exact en.nx.go _ hd _ H' (rel'.setv vk) ((Stp.kp kp).trans Stp.setv)
theorem Qtc{F:Fm}{σ:L2.St}{δ:Sts}{i:Nat}{l:Addr}{x:Sl}{a:Addr}(h:Av F (σ.set i (some (.ref l))) (δ.set i x) a):Av F σ δ a∨a=l:=by
 rcases h with h | ⟨j,h1,h2⟩
 ·exact .inl (.inl h)
 ·by_cases z:j=i
  ·subst z;cases set_eq h1;exact .inr rfl
  ·rw[QaG z] at h1 h2;exact .inl (.inr ⟨j,h1,h2⟩)
theorem Rel.seto{K:PySem.W.Frag}{F:Fm}{σ:L2.St}{H H':Hp}{δ:Sts}{l:Addr}{x:Sl}(r:Rel K F σ H δ)(r':Rel K F σ H' δ)(kp:Kp σ δ H H')(n:H l=none)(hx:∀A:Addr->Prop,(∀a,A a->Av F σ δ a∨H a=none)->(∀a,A a->Av F σ δ a∨a=l)->QCj K F H' A (some (.ref l)) x) :
  Rel K F (σ.set i (some (.ref l))) H' (δ.set i x)/\Stp F σ H δ (σ.set i (some (.ref l))) H' (δ.set i x):=by
 have nA:∀a,Av F (σ.set i (some (.ref l))) (δ.set i x) a->Av F σ δ a∨H a=none:=λa z=>(Qtc z).elim .inl λz=>.inr (by rw[z];exact n)
 have kk:∀a o,¬Av F σ δ a->H a=some o->H' a=some o:=λa o m e=>kp.1 a o (λz=>m (Qaq z)) e
 refine⟨?_,⟨kk,nA⟩⟩;exact{
  len:=by rw[Yg,Yg];exact r.len
  dom:=r'.dom
  dom0:=r'.dom0
  pt0:=r'.pt0
  kx:=r'.kx
  sl:=λj o y h1 h2=>by
   by_cases z:j=i
   ·subst z;cases set_eq h1;cases set_eq h2;exact hx _ nA λa z=>Qtc z
   ·rw[QaG z] at h1 h2;have h:=r.sl j o y h1 h2;have h':=r'.sl j o y h1 h2;cases y with
    |no=>trivial
    |v d=>obtain⟨v',e,q'⟩:=h;exact⟨v',e,q'.mv kk nA⟩
    |own ds=>obtain⟨l',xs,rfl,e2,q',f⟩:=h;exact⟨l',xs,rfl,kp.1 _ _ (r.own_pot h2 h1) e2,q'.mv kk nA,f⟩
    |pk ds=>
     obtain⟨l',xs,rfl,e2,q',ys,f,f2⟩:=h;refine⟨l',xs,rfl,kp.1 _ _ ?_ e2,q'.mv kk nA,ys,f,f2⟩;rintro⟨j,j1,j2⟩;obtain⟨p,m,e1,_,w⟩:=r.sl j _ _ j1 j2;cases e1;rcases w with w | w
     ·exact f2 w
     ·rw[w] at f;cases f
    |pot=>exact h'
    |scr=>exact h'
  inj:=λj k a ds h1 h2 ⟨h3,h4⟩=>by
   have ne:∀(k:Nat),k≠i->σ[k]? = some (some (.ref l))->(δ[k]? = some .pot∨∃ds,δ[k]? = some (.own ds))->False:=λk _ h3 h4=>by
    obtain⟨xs,e⟩:=r.isl (a:=l) (.inr ⟨k,h3,h4⟩);rw[n] at e;cases e
   by_cases z:j=i
   ·subst z;cases set_eq h2;by_cases z2:k=j
    ·exact z2.symm
    ·rw[QaG z2] at h3 h4;exact(ne k z2 h3 h4).elim
   ·rw[QaG z] at h1 h2;by_cases z2:k=i
    ·subst z2;cases set_eq h3;exact(ne j z h2 (.inr ⟨ds,h1⟩)).elim
    ·rw[QaG z2] at h3 h4;exact r.inj j k a ds h1 h2 ⟨h3,h4⟩ }
theorem QnS{K:PySem.W.Frag}{F:Fm}{σ:L2.St}{H:Hp}{δ:Sts}(r:Rel K F σ H δ){l:Addr}(n:H l=none):F.H0 l=none:=by
 cases e:F.H0 l with
 |none=>rfl
 |some o=>
  by_cases z:F.pt l
  ·obtain⟨_,m,e'⟩:=r.pt0 l z;rw[n] at e';cases e'
  ·rw[r.kx l o z e] at n;cases n
theorem Qj5(h:PS X st (Qpj (tX .F X.K E we) (Qer i))):PS X st (tS X.K E (QvN i we)):=by
 refine PS.imp h λD σ H ⟨F,δ,DD,rel,hw,en⟩=>?_
 refine⟨F,δ,_,DD.ex,rel,hw,λd hd v H' rel' kp ⟨vk,fr⟩=>?_,en.ex⟩;obtain⟨ds,rfl⟩:∃ds,d=.list ds:=by cases d<;>first | exact⟨_,rfl⟩ | exact(show False from hd).elim
 obtain⟨l,rfl⟩:∃l,v=.ref l:=by cases vk;exact⟨_,rfl⟩
 obtain⟨xs,e,q⟩:=DA.items vk;have n:=fr l rfl ⟨xs,e⟩;obtain⟨r2,st⟩:=rel.seto (i:=i) (x:=.own ds) rel' kp n λA hA hB=>⟨l,xs,rfl,e,q.mv (λ_ _ _ e=>e) λa z=>.inl (hB a z),QnS rel n⟩
 exact en.nx.go _ hd _ H' r2 st
theorem QpX(h:PS X st (Qpj (tX .F X.K E we) (Qer i))):PS X st (tS X.K E (QyZ i we)):=by
 refine PS.imp h λD σ H ⟨F,δ,DD,rel,hw,en⟩=>?_
 refine⟨F,δ,_,DD.ex,rel,hw,λd hd v H' rel' kp ⟨vk,fr⟩=>?_,en.ex⟩;split at hd
 ·cases vk with
  |@lst l xs ds na e q=>
   have n:=fr l rfl ⟨xs,e⟩;cases q with
   |cons q1 q2=>
    cases q1;cases q2;obtain⟨r2,st⟩:=rel.seto (i:=i) (x:=.pot) rel' kp n λA hA hB=>⟨l,_,rfl,e,.inr (QnS rel n)⟩
    exact en.nx.go _ hd _ H' r2 st
 ·exact hd.elim
def QCg(we:DE)(wg:DG):DS:=λD δ=>we δ (λd=>wg d δ D.nx) D.ex
theorem QuF{ix:List Nat}{wg:DG}(h:PS X st (Qpj (tX .D X.K E we) (tG ix X.K wg))):PS X st (tS X.K E (QCg we wg)):=by
 refine PS.imp h λD σ H ⟨F,δ,DD,rel,hw,en⟩=>?_
 refine⟨F,δ,_,DD.ex,rel,hw,λd hd v H' rel' kp vk=>?_,en.ex⟩;exact⟨F,δ,d,_,rel',vk,hd,λδ' h' σ' r' st' _ _=>en.nx.go _ h' _ H' r' ((Stp.kp kp).trans st')⟩
def QB6(i j:Nat)(wa:DAr):DS:=λD δ=>wa δ (λds=>match ds with
 |[a,b]=>D.nx ((δ.set i (.v a)).set j (.v b))
 |_=>False) D.ex
theorem Quz{n i j:Nat}{wa:DAr}(h:PS X st (QBB i j (tAr n .D X.K E wa))):PS X st (tS X.K E (QB6 i j wa)):=by
 refine PS.imp h λD σ H ⟨F,δ,DD,rel,hw,en⟩=>?_
 refine⟨F,δ,_,DD.ex,rel,hw,λds hds _ vs H' rel' kp q=>?_,en.ex⟩;split at hds
 ·cases q with
  |cons q1 q2=>cases q2 with
   |cons q2 q3=>
    cases q3;refine⟨_,_,rfl,en.nx.go _ hds _ H' ((rel'.setv q1).setv (DA.mv q2 (λ_ _ _ e=>e) λa z=>.inl (Qek z))) (((Stp.kp kp).trans Stp.setv).trans Stp.setv)⟩
 ·exact hds.elim
def QB5(we:DE):DS:=λD δ=>we δ D.rt D.ex
def Qy1(we:DE):DS:=λD δ=>we δ D.rtF D.ex
theorem QvM{F:Fm}{σ:L2.St}{δ:Sts}{H:Hp}{v:V}{d:Qa}(h:DA (Av F σ δ) H v d):DA F.A0 H v d:=h.mv (λ_ _ _ e=>e) λa z=>.inl (.inl z)
theorem Qux{e:Q2}{pos:Pos}(h:PE X e (tX .D X.K E we)):PS X (.Return (some e) pos) (tS X.K E (QB5 we)):=by
 refine PS.imp (Qdo h) λD σ H ⟨F,δ,DD,rel,hw,en⟩=>?_
 exact⟨F,δ,_,DD.ex,rel,hw,λd hd v H' rel' kp vk=>en.rt d hd v H' rel'.ke (QvM vk),en.ex⟩
theorem QpZ{e:Q2}{pos:Pos}(h:PE X e (tX .F X.K E we)):PS X (.Return (some e) pos) (tS X.K E (Qy1 we)):=by
 refine PS.imp (Qdo h) λD σ H ⟨F,δ,DD,rel,hw,en⟩=>?_
 exact⟨F,δ,_,DD.ex,rel,hw,λd hd v H' rel' kp vk=>en.rtF d hd v H' rel'.ke (QvM vk.1) λl e1 e2=>QnS rel (vk.2 l e1 e2),en.ex⟩
def QvO(i:Nat):DS:=λD δ=>match δ[i]? with
 |some (.own ds)=>D.rtF (.list ds)
 |some (.v d)=>D.rt d
 |_=>False
theorem QpY{e:Q2}{pos:Pos}(h:PE X e (QiK i)):PS X (.Return (some e) pos) (tS X.K E (QvO i)):=by
 refine PS.imp (Qdo h) λD σ H ⟨F,δ,DD,rel,hw,en⟩=>?_
 unfold QvO at hw;split at hw
 ·rename_i ds hd
  obtain⟨x,hx⟩:=rel.lt hd;obtain⟨l,xs,rfl,e,q,f⟩:=rel.sl i _ _ hx hd;refine⟨_,hx,en.rtF _ hw _ H rel.ke (.lst (λz=>?_) e (q.mv (λ_ _ _ e=>e) λa z=>.inl (.inl z))) λl' e1 _=>by cases e1;exact f⟩;obtain⟨ys,e'⟩:=rel.dom0 l z;rw[f] at e';cases e'
 ·rename_i d hd
  obtain⟨x,hx⟩:=rel.lt hd;obtain⟨v,rfl,q⟩:=rel.sl i _ _ hx hd;exact⟨v,hx,en.rt _ hw _ H rel.ke (QvM q)⟩
 ·exact hw.elim
def dIf(t:DT)(a b:DS):DS:=λD δ=>t δ (λc=>if c=true then a D δ else b D δ) D.ex
theorem QxQ{c:Q2}{a b:List Y7}{pos:Pos}{t:DT}{w w':DS}(hc:PT X c (tT X.K E t))(ha:PSs X a (tS X.K E w))(hb:PSs X b (tS X.K E w')):PS X (.If c a b pos) (tS X.K E (dIf t w w')):=by
 refine PS.imp (Quc hc ha hb) λD σ H ⟨F,δ,DD,rel,hw,en⟩=>?_
 exact⟨F,δ,_,DD.ex,rel,hw,λb hb H' rel' kp=>Qdq hb (λz=>⟨F,δ,DD,rel',z,en.step (Stp.kp kp)⟩) λz=>⟨F,δ,DD,rel',z,en.step (Stp.kp kp)⟩,en.ex⟩
theorem QmV{sts:List Y7}:PSs X sts (tS X.K E λ_ _=>False):=λpins s σ H D I ⟨F,δ,DD,rel,hw,en⟩=>hw.elim
def QBo(i:Nat)(rD:Qa->Qa->(Qa->Prop)->Prop)(we:DE):DS:=λD δ=>match δ[i]? with
 |some (.v d)=>we δ (λe=>rD d e (λz=>D.nx (δ.set i (.v z)))) D.ex
 |_=>False
theorem QuE{r:TIp}{rD:Qa->Qa->(Qa->Prop)->Prop}(hd:QoZ r rD)(h:PS X st (QBC i (tX .P X.K E we) (λx y H Q=>QcZ H->r x y H Q))):PS X st (tS X.K E (QBo i rD we)):=by
 refine PS.imp h λD σ H ⟨F,δ,DD,rel,hw,en⟩=>?_
 unfold QBo at hw;split at hw
 ·rename_i d hd'
  obtain⟨x,hx⟩:=rel.lt hd';obtain⟨v,rfl,q⟩:=rel.sl i _ _ hx hd';refine⟨v,hx,F,δ,_,DD.ex,rel,hw,λe he y H' rel' kp yk ln=>?_,en.ex⟩;refine hd (Av F σ δ) (Yn σ δ) H' v y d e _ _ ln (λa ha=>rel'.isl ha) (.inl (kp.da q)) yk he λz hz u H2 s du=>?_
  exact en.nx.go _ hz _ H2 ((rel'.same s).setv du) (((Stp.kp kp).trans (Stp.kp (Kp.same rel' s))).trans Stp.setv)
 ·exact hw.elim
theorem Qu5{g:Int->Int->Int}:QoZ (ipI g) (ii0 λi j=>.int (g i j)):=λA P H x y d1 d2 R Q ln dm hx hy h k=>by
 cases d1<;>cases d2<;>first | exact h.elim | skip
 rw[hx.int,hy.int];exact⟨_,_,rfl,rfl,k _ h _ H (Same.refl H) (.int _)⟩
theorem Qu4:QoZ (rI CMul λi j=>.int (i*j)) (iiD CMul λi j=>.int (i*j)):=λA P H x y d1 d2 R Q ln dm hx hy h k=>by
 cases d1<;>cases d2<;>first | exact h.elim | skip
 rw[hx.int,hy.int];exact⟨_,_,rfl,rfl,h.1,k _ h.2 _ H (Same.refl H) (.int _)⟩
theorem PIp.len{op:Qco}{t:TIp}(h:PIp X op t):PIp X op (λx y H Q=>QcZ H->t x y H Q):=λpins s σ H x y v u Q I rx ry q=>h pins s σ H x y v u Q I rx ry (q (Inv.lens I))
theorem Rel.mut{K:PySem.W.Frag}{F:Fm}{σ:L2.St}{H:Hp}{δ:Sts}(r:Rel K F σ H δ){l:Addr}{ds ds':List Qa}{ys:List V}(h:δ[i]? = some (.own ds))(hx:σ[i]? = some (some (.ref l)))(q:DAs (Av F σ δ) H ys ds') :
  Rel K F σ (upd H l (.lst ys)) (δ.set i (.own ds'))/\Stp F σ H δ σ (upd H l (.lst ys)) (δ.set i (.own ds')):=by
 have hl:Av F σ δ l:=.inr ⟨i,hx,.inr ⟨ds,h⟩⟩;obtain⟨l',xs0,e0,el,_,f⟩:=r.sl i _ _ hx h;cases e0;have lt:i < δ.length:=(QR.mp h).1;have ge:(δ.set i (.own ds'))[i]? = some (.own ds'):=by rw[QcK lt]
 have kk:∀a o,¬Av F σ δ a->H a=some o->upd H l (.lst ys) a=some o:=λa o n e=>by rw[JY (λz=>n (by rw[z];exact hl))];exact e
 have av:∀a,Av F σ (δ.set i (.own ds')) a->Av F σ δ a:=λa z=>by
  rcases z with z | ⟨j,h1,h2⟩
  ·exact .inl z
  ·by_cases z:j=i
   ·subst z;exact .inr ⟨j,h1,.inr ⟨ds,h⟩⟩
   ·rw[QaG z] at h2;exact .inr ⟨j,h1,h2⟩
 have up:∀{b:Addr}{o:HO},b≠l->H b=some o->upd H l (.lst ys) b=some o:=λn e=>by rw[JY n];exact e
 refine⟨?_,⟨kk,λa z=>.inl (av a z)⟩⟩;exact{
  len:=by rw[Yg];exact r.len
  dom:=λa ha=>by
   by_cases z:a=l
   ·rw[z];exact⟨_,JN⟩
   ·obtain⟨xs,e⟩:=r.dom a ha;exact⟨xs,up z e⟩
  dom0:=r.dom0
  pt0:=λp hp=>by
   obtain⟨h1,n,e⟩:=r.pt0 p hp;refine⟨h1,n,up (λz=>?_) e⟩;obtain⟨xs,e'⟩:=r.dom0 p h1;rw[z,f] at e';cases e'
  kx:=λb o n e=>up (λz=>by rw[z,f] at e;cases e) (r.kx b o n e)
  sl:=λj o y h1 h2=>by
   by_cases z:j=i
   ·subst z;rw[ge] at h2;cases h2;rw[hx] at h1;cases h1;exact⟨l,ys,rfl,JN,q.mv kk λa z=>.inl (av a z),f⟩
   ·rw[QaG z] at h2;have hh:=r.sl j o y h1 h2;cases y with
    |no=>trivial
    |v d=>obtain⟨v',e,q'⟩:=hh;exact⟨v',e,q'.mv kk λa z=>.inl (av a z)⟩
    |own es=>
     obtain⟨l',xs,rfl,e2,q',f'⟩:=hh;exact⟨l',xs,rfl,up (λz2=>z (r.inj j i l' es h2 h1 ⟨by rw[z2];exact hx,.inr ⟨ds,h⟩⟩)) e2,q'.mv kk λa z=>.inl (av a z),f'⟩
    |pk es=>
     obtain⟨l',xs,rfl,e2,q',ys',f',f2⟩:=hh;exact⟨l',xs,rfl,up (λz2=>by rw[z2,f] at f';cases f') e2,q'.mv kk λa z=>.inl (av a z),ys',f',f2⟩
    |pot=>
     obtain⟨p,n,rfl,e2,w⟩:=hh;refine⟨p,n,rfl,up (λz2=>?_) e2,w⟩;subst z2;exact r.own_pot h hx ⟨j,h1,h2⟩
    |scr=>exact hh
  inj:=λj k a es h1 h2 ⟨h3,h4⟩=>by
   have h4':δ[k]? = some .pot∨∃ds,δ[k]? = some (.own ds):=by
    by_cases z:k=i
    ·subst z;exact .inr ⟨ds,h⟩
    ·rw[QaG z] at h4;exact h4
   by_cases z:j=i
   ·subst z;exact r.inj j k a ds h h2 ⟨h3,h4'⟩
   ·rw[QaG z] at h1;exact r.inj j k a es h1 h2 ⟨h3,h4'⟩ }
def dApp(i:Nat)(we:DE):DS:=λD δ=>match δ[i]? with
 |some (.own ds)=>we δ (λd=>ds.length<1000000/\D.nx (δ.set i (.own (ds++[d])))) D.ex
 |_=>False
def dPut(i:Nat)(wi we:DE):DS:=λD δ=>we δ (λd=>match δ[i]? with
 |some (.own ds)=>wi δ (λz=>match z with
  |.int k=>∃j,ixN ds.length k=some j/\D.nx (δ.set i (.own (ds.set j d)))
  |_=>False) D.ex
 |_=>False) D.ex
def QvS(i:Nat)(rD:Qa->Qa->(Qa->Prop)->Prop)(wi we:DE):DS:=λD δ=>match δ[i]? with
 |some (.own ds)=>wi δ (λz=>match z with
  |.int k=>∃j a,ixN ds.length k=some j/\ds[j]? = some a/\we δ (λe=>rD a e λb=>D.nx (δ.set i (.own (ds.set j b)))) D.ex
  |_=>False) D.ex
 |_=>False
theorem Qp2{r:TIp}{rD:Qa->Qa->(Qa->Prop)->Prop}(hd:QoZ r rD)(h:PS X st (Qw1 (QiK i) (tX .P X.K E wi) (tX .P X.K E we) (QzH X.K) (λx y H Q=>QcZ H->r x y H Q) Qxn)):PS X st (tS X.K E (QvS i rD wi we)):=by
 refine PS.imp h λD σ H ⟨F,δ,DD,rel,hw,en⟩=>?_
 unfold QvS at hw;split at hw
 ·rename_i ds hds
  obtain⟨x,hx⟩:=rel.lt hds;obtain⟨l,xs,rfl,e,q,f⟩:=rel.sl i _ _ hx hds;have np:=rel.own_pot hds hx;refine⟨.ref l,hx,F,δ,_,DD.ex,rel,hw,λz hz y H1 rel1 kp1 yk=>?_,en.ex⟩;cases z<;>first | exact(show False from hz).elim | skip
  obtain⟨j,a,hj,ha,hn⟩:=hz;have q1:=kp1.das q;obtain⟨va,hva,da⟩:=q1.get j a ha;rw[DP.int yk];refine⟨l,xs,_,va,rfl,rfl,SqL.of (kp1.1 _ _ np e),by unfold atI;rw[q.length,hj];exact hva,F,δ,_,DD.ex,rel1,hn,λb hb u H2 rel2 kp2 uk ln=>?_,en.ex⟩;refine hd (Av F σ δ) (Yn σ δ) H2 va u a b _ _ ln (λa ha=>rel2.isl ha) (.inl (kp2.da da)) uk hb λc hc w H3 s dw=>?_
  have r3:=rel2.same s;have k3:=kp2.trans (Kp.same rel2 s);refine⟨l,xs,_,j,rfl,rfl,k3.1 _ _ np (kp1.1 _ _ np e),by rw[q.length];exact hj,?_⟩;obtain⟨r4,st⟩:=r3.mut hds hx ((k3.das q1).set dw j);exact en.nx.go _ hc _ _ r4 (((Stp.kp kp1).trans (Stp.kp k3)).trans st)
 ·exact hw.elim
@[irreducible] def Qwe(items:List Qa)(wg:DG)(wb:DS)(D:Qg3)(δ:Sts):Prop:=∃Iv:Nat->Sts->Prop,Iv 0 δ/\(∀(i:Nat) d δ,items[i]? = some d->Iv i δ->wg d δ λδ2=>wb { D with nx:=Iv (i+1),ct:=Iv (i+1),bk:=D.nx } δ2)/\∀δ,Iv items.length δ->D.nx δ
def dFor(wi:DI)(wg:DG)(wb:DS):DS:=λD δ=>wi δ (λitems=>Qwe items wg wb D δ) D.ex
theorem QuD{tg iter:Q2}{body:List Y7}{pos:Pos}{ix:List Nat}{wi:DI}{wg:DG}{wb:DS}(hp:PassesOwn (model X.prog X.w) X.A X.env X.xe)(hc:X.calm=true)(hi:PI X tg iter (tI .D X.K E wi))(hg:PG X tg (tG ix X.K wg))(hb:PSs X body (tS X.K E wb))
  (hs:∀x,foldedSetIterable iter X.env x=pure x:=by intro _;rfl):PS X (.For tg iter body [] pos) (tS X.K E (dFor wi wg wb)):=by
 refine PS.imp (QsM hp hc hi hg hb hs) λD σ H ⟨F,δ,DD,rel,hw,en⟩=>?_
 refine⟨F,δ,_,DD.ex,rel,hw,λitems hC J H1 rel1 kp1 ⟨ln,it⟩=>?_,en.ex⟩;unfold Qwe at hC;obtain⟨Iv,i0,step,fin⟩:=hC;have en1:=en.step (Stp.kp (F:=F) kp1);refine⟨λi m σ' H'=>m=items.length - i/\i<=items.length/\∃δ',Iv i δ'/\Rel X.K F σ' H' δ'/\Stp F σ H1 δ σ' H' δ',⟨_,rfl,Qt _,δ,i0,rel1,Stp.refl⟩,?_⟩;rintro i m σ' H' ⟨rfl,hi',δ',iv,r',st'⟩;obtain⟨go,stop⟩:=it H' (Av F σ' δ') st'.1 st'.2 λa ha=>r'.isl ha
 by_cases hlt:i<items.length
 ·have hd:items[i]? = some items[i]:=Qf hlt;obtain⟨g1,g2⟩:=go i _ hd;refine .inr ⟨g1,λσ2 H2=>∃δ2,Iv (i+1) δ2/\Rel X.K F σ2 H2 δ2/\Stp F σ H1 δ σ2 H2 δ2,λσ2 H2 ⟨δ2,h2,r2,s2⟩=>⟨_,by omega,rfl,hlt,δ2,h2,r2,s2⟩,λx H3 y=>?_⟩;obtain⟨s3,dx⟩:=g2 x H3 y;have r3:=r'.same s3;have st3:Stp F σ H1 δ σ' H3 δ':=st'.trans (Stp.kp (Kp.same r' s3));refine⟨F,δ',_,_,r3,dx,step i _ δ' hd iv,λδ4 h4 σ4 r4 st4 _ _=>⟨F,δ4,_,r4,h4,?_⟩⟩;have st5:=st3.trans st4;exact⟨⟨λδ6 h6 σ6 H6 r6 s6=>⟨δ6,h6,r6,st5.trans s6⟩⟩,en.rt,en.rtF,(en1.step st5).nx,⟨λδ6 h6 σ6 H6 r6 s6=>⟨δ6,h6,r6,st5.trans s6⟩⟩,en.ex⟩
 ·have e:i=items.length:=by omega
  subst e;exact .inl ⟨stop,(en1.step st').nx.go δ' (fin δ' iv) σ' H' r' Stp.refl⟩
theorem QgL{lo:Int}{n:Nat}{wg:DG}{wb:DS}{D:Qg3}{δ:Sts}(Iv:Nat->Sts->Prop)(h0:Iv 0 δ)
  (hs:∀(i:Nat) δ,i<n->Iv i δ->wg (.int (lo+i)) δ λδ2=>wb { D with nx:=Iv (i+1),ct:=Iv (i+1),bk:=D.nx } δ2)(hd:∀δ,Iv n δ->D.nx δ):Qwe (Qit lo n) wg wb D δ:=by
 unfold Qwe;exact⟨Iv,h0,λi d δ hd iv=>by obtain⟨hi,rfl⟩:=QdU hd;exact hs i δ hi iv,λδ iv=>hd δ (by rw[QiV] at iv;exact iv)⟩
theorem Qbt{items:List Qa}{wg:DG}{wb:DS}{D:Qg3}{δ:Sts}(Iv:Nat->Sts->Prop)(h0:Iv 0 δ)
  (hs:∀(i:Nat) d δ,items[i]? = some d->Iv i δ->wg d δ λδ2=>wb { D with nx:=Iv (i+1),ct:=Iv (i+1),bk:=D.nx } δ2)(hd:∀δ,Iv items.length δ->D.nx δ):Qwe items wg wb D δ:=by
 unfold Qwe;exact⟨Iv,h0,hs,hd⟩
def Qy4(we:DE):DS:=λD δ=>we δ (λ_=>D.nx δ) D.ex
theorem Qp0(h:PS X st (QtK (tX .P X.K E we))):PS X st (tS X.K E (Qy4 we)):=by
 refine PS.imp h λD σ H ⟨F,δ,DD,rel,hw,en⟩=>?_
 exact⟨F,δ,_,DD.ex,rel,hw,λd hd v H' rel' kp vk=>en.nx.go δ hd σ H' rel' (Stp.kp kp),en.ex⟩
end
def stD(N:List Str)(args:List Sl):Sts:=args++QP (N.length - args.length) .no
theorem QfL{α β:Type}{R:α->β->Prop}:∀{xs:List α}{ys:List β},QaY R xs ys->∀(i:Nat) x y,xs[i]? = some x->ys[i]? = some y->R x y
 |_,_,.nil,i,x,y,h,_=>by simp at h
 |_,_,.cons a b,0,x,y,h,h'=>by simp at h h';subst h h';exact a
 |_,_,.cons a b,i+1,x,y,h,h'=>QfL b i x y (by simpa using h) (by simpa using h')
theorem Qmo{K:PySem.W.Frag}{N:List Str}{A pt:Addr->Prop}{H:Hp}{vs:List V}{args:List Sl}(dm:∀a,A a->∃xs,H a=some (.lst xs))(hp:∀p,pt p->A p/\∃n,H p=some (.lst [.int n]))(q:QaY (Qjw A pt H) vs args):Rel K ⟨H,A,pt⟩ (L2.start N vs) H (stD N args):=by
 have hl:vs.length=args.length:=q.length;have no:∀(i:Nat) x,(stD N args)[i]? = some x->(i<args.length/\args[i]? = some x)∨x=.no:=λi x h=>by
  unfold stD at h;by_cases z:i<args.length
  ·rw[Zd z] at h;exact .inl ⟨z,h⟩
  ·rw[Jg (by omega),Yo] at h;split at h
   ·exact .inr (Qu h).symm
   ·cases h
 have arg:∀(i:Nat) o x,(L2.start N vs)[i]? = some o->(stD N args)[i]? = some x->x≠.no->∃v,o=some v/\Qjw A pt H v x:=λi o x h1 h2 hx=>by
  rcases no i x h2 with⟨z,e⟩ | e
  ·unfold L2.start at h1;rw[Zd (by rw[Qg];omega),Qq] at h1;obtain⟨v,hv,rfl⟩:=Yq.mp h1;exact⟨v,rfl,QfL q i v x hv e⟩
  ·exact absurd e hx
 have av:∀a,Av ⟨H,A,pt⟩ (L2.start N vs) (stD N args) a->A a:=λa z=>by
  rcases z with z | ⟨i,h1,h2⟩
  ·exact z
  ·rcases h2 with h2 | ⟨ds,h2⟩
   ·obtain⟨v,e,p,rfl,hp'⟩:=arg i _ _ h1 h2 (λz=>by cases z);cases e;exact(hp _ hp').1
   ·obtain⟨v,e,hh⟩:=arg i _ _ h1 h2 (λz=>by cases z);exact hh.elim
 exact{
  len:=by unfold L2.start stD;rw[Qs,Qs,Qg,QaL,QaL,hl]
  dom:=dm
  dom0:=dm
  pt0:=hp
  kx:=λ_ _ _ e=>e
  sl:=λi o x h1 h2=>by
   cases x with
   |no=>trivial
   |v d=>
    obtain⟨v,e,hh⟩:=arg i _ _ h1 h2 (λz=>by cases z);exact⟨v,e,DA.mv hh (λ_ _ _ e=>e) λa z=>.inl (av a z)⟩
   |pot=>
    obtain⟨v,e,p,rfl,hp'⟩:=arg i _ _ h1 h2 (λz=>by cases z);obtain⟨_,n,en⟩:=hp p hp';exact⟨p,n,e,en,.inl hp'⟩
   |own ds=>obtain⟨v,e,hh⟩:=arg i _ _ h1 h2 (λz=>by cases z);exact hh.elim
   |pk ds=>obtain⟨v,e,hh⟩:=arg i _ _ h1 h2 (λz=>by cases z);exact hh.elim
   |scr=>obtain⟨v,e,hh⟩:=arg i _ _ h1 h2 (λz=>by cases z);exact hh.elim
  inj:=λi j a ds h1 h2 _=>by
   obtain⟨v,e,hh⟩:=arg i _ _ h2 h1 (λz=>by cases z);exact hh.elim }
def QCF:Qa->Bool
 |.list _=>false
 |_=>true
def rtD:Bool->(Qa->Prop)->Qa->Prop
 |true,R,d=>QCF d=true/\R d
 |false,R,d=>R d
def QvJ(fr:Bool)(R:Qa->Prop)(EX:XP):Qg3:=⟨λ_=>R .none,rtD fr R,R,λ_=>False,λ_=>False,EX⟩
theorem QvI{K:PySem.W.Frag}{E Ex:XK}{fr:Bool}{A pt:Addr->Prop}{H:Hp}{R:Qa->Prop}{EX EX':XP}{Q:VK}{σ:L2.St}{δ:Sts}(k:∀d,R d->∀v H',Kq pt H H'->DA A H' v d->(fr=true->FrV H H' v)->Q v H')(o:Out ⟨H,A,pt⟩ E EX') :
  Ends1 K E ⟨H,A,pt⟩ σ H δ (QvJ fr R EX') { nx:=λ_ H'=>Q .non H',rt:=Q } where
 nx:=⟨λδ' hR σ' H' r st=>k _ hR _ H' r.ke .non λ_=>QvB⟩
 rt:=λd h v H' ke dv=>by
  cases fr with
  |false=>exact k d h v H' ke dv λz=>by cases z
  |true=>
   obtain⟨h1,h2⟩:=h;refine k d h2 v H' ke dv λz l e1 ⟨xs,e2⟩=>?_
   subst e1;cases dv with
   |@tup a ys ds n e q=>rw[e] at e2;cases e2
   |@lst a ys ds n e q=>cases h1
   |@dct a n e=>rw[e] at e2;cases e2
 rtF:=λd h v H' ke dv fr'=>k d h v H' ke dv λ_=>fr'
 bk:=⟨λ_ h=>h.elim⟩
 ct:=⟨λ_ h=>h.elim⟩
 ex:=o
section
variable{P:QD}{w:Jl}{K:PySem.W.Frag}{mg:Str->Option Value}{base:Heap}
theorem okD{x qual:Str}{st:Y7}{f:Addr}{fd:Jc}{N ps:List Str}{k:Nat}{fD:DF}(fr:Bool)(F:Fun K x qual st f fd)(S:JZ N ps (QJ st))(len:∀args R EX,fD args R EX->args.length=ps.length)
  (hbody:∀(cdv:Value)(A:Je)(outer:List Env)(s:Shared)(H:Hp)(E:XK),Room k (A.deeper (envOfC qual (QJ st) s.heap.objs.size f cdv)) ->
   ∃wd,PSs (QoY CX0 P w K mg base N qual (QJ st) f cdv A outer s H E).nox (JQ st) (tS K E0 wd)/\∀args R EX,fD args R EX->wd (QvJ fr R XF) (stD N args)):FnOk P w K mg base CX0 (k+1) f fd ps (Zu fr fD):=by
 refine F.ok S (λvs H Q E h=>?_) λcdv A outer s H vs Q E hr h=>?_
 ·obtain⟨A,pt,args,R,EX,_,_,q,h,_⟩:=h;rw[q.length];exact len _ _ _ h
 ·obtain⟨wd,hp,hw⟩:=hbody cdv A outer s H E hr;obtain⟨A',pt,args,R,EX,dm,hpt,q,h,k,_⟩:=h;exact⟨_,hp,⟨H,A',pt⟩,_,_,Qmo dm hpt q,hw args R EX h,QvI (Ex:=E) (EX:=EX) k QsQ⟩
end
end Dl
namespace L2
def QBz(i j:Int):Prop:=0<j/\j<=10^40
theorem Qrj{X:Cx}:OpR X (binaryOp .FloorDiv) (rI QBz λi j=>.int (i / j)):=opI λi j _ _ _ _ _ hc q=>by
 have h1:(0:Int)<j:=hc.1;have h2:j<=10^40:=hc.2;refine floordiv_int (by omega) (by rw[Int.fdiv_eq_ediv_of_nonneg i (by omega)];exact q) (.inl (PyProof.noPylong_of_log2 ?_));have h3:j.natAbs<2^200:=by
  have:(10:Int)^40<2^200:=by decide
  omega
 have:=(Nat.log2_lt (by omega:j.natAbs≠0)).mpr h3;omega
end L2
namespace Rk
open L2 _root_.Rd
def QjQ:Sp:=λvs H Q _=>∃p n f,vs=[.ref p,.int f]/\H p=some (.lst [.int n])/\0<f/\f<=10^40/\∀r m,0<=r->r<f->Q (.int r) (upd H p (.lst [.int m]))
end Rk
namespace Dl
open L2 _root_.Rd Rk
theorem ZE{X:Cx}{E:XK}:QcO CX0 X E:=λ_ _ _ _ _ _ _ h=>h.elim
theorem Room.u60{k:Nat}{A:Je}(r:Room k A):A.units+60<cLine:=by have:=r.un;omega
theorem Room.i60{k:Nat}{A:Je}(r:Room k A):A.in1.units+60<cLine:=by
 have:=r.un;show A.units+1+60<cLine;omega
section
variable{X:Cx}{E:XK}{CX:CXT}{k:Nat}{f:Addr}{fd:Jc}{ps:List Str}{x:Str}{p pos:Pos}{e:Q2}{es:List Q2}{fD:DF}
def Qpi:DF:=λargs R _=>∃f,args=[.pot,.v (.int f)]/\0<f/\f<=10^40/\∀r,0<=r->r<f->R (.int r)
theorem QwY{vs:List V}{H:Hp}{Q:VK}{Ex:XK}(h:Zu true Qpi vs H Q Ex):QjQ vs H Q Ex:=by
 obtain⟨A,pt,args,R,EX,dm,hp,q,⟨f,rfl,f0,f1,hR⟩,k,_⟩:=h;cases q with
 |cons q1 q2=>cases q2 with
  |cons q2 q3=>
   cases q3;obtain⟨p,rfl,pp⟩:=q1;cases q2;obtain⟨_,n,e⟩:=hp p pp;refine⟨p,n,f,rfl,e,f0,f1,λr m r0 r1=>k _ (hR r r0 r1) _ _ ⟨λb o nb eb=>?_,λz hz=>?_⟩ (.int _) λ_=>YL⟩
   ·rw[JY (λz=>nb (by rw[z];exact pp))];exact eb
   ·by_cases y:z=p
    ·rw[y];exact⟨m,JN⟩
    ·obtain⟨_,n',e'⟩:=hp z hz;exact⟨n',by rw[JY y];exact e'⟩
def QAI:DF:=λargs R _=>∃c,args=[.v (.int c)]/\∀n,R (.list [.int n])
theorem QAH{vs:List V}{H:Hp}{Q:VK}{Ex:XK}(h:Zu true QAI vs H Q Ex):Qw3 vs H Q Ex:=by
 obtain⟨A,pt,args,R,EX,dm,hp,q,⟨c,rfl,hR⟩,k,_⟩:=h;cases q with
 |cons q1 q2=>
  cases q2;cases q1;refine⟨c,rfl,λp n hn=>k _ (hR n) _ _ ⟨λb o _ eb=>JS hn b o eb,λz hz=>?_⟩ (.lst (λz=>?_) JN (.cons (.int _) .nil)) λ_=>Qbh hn⟩
  ·obtain⟨_,n',e'⟩:=hp z hz;exact⟨n',JS hn _ _ e'⟩
  ·obtain⟨xs,e⟩:=dm p z;rw[hn] at e;cases e
def isW:Qa->Bool
 |.int _=>true
 |_=>false
def Ql9:DF:=λargs R _=>∃d,args=[.v d]/\R (.bool (isW d))
theorem Qmx{K:PySem.W.Frag}{F:Fm}{σ:L2.St}{H:Hp}{δ:Sts}(r:Rel K F σ H δ){a:Addr}{xs:List V}(h:SqL K F.H0 a xs)(n:¬F.pt a):SqL K H a xs:=by
 rcases h with h | h
 ·rcases h with h | ⟨o,h⟩
  ·exact .inl (.inl (r.kx _ _ n h))
  ·exact .inl (.inr ⟨o,r.kx _ _ n h⟩)
 ·exact .inr h
def QvQ(i:Nat):DE:=λδ Q _=>match δ[i]? with
 |some .scr=>∀n:Nat,n<=63->Q (.int n)
 |_=>False
theorem QuJ{i:Nat}{a:Q2}(hg:Gl X "len")(hm:X.mg "len" = none)(h:PE X a (QiK i))(hs:notStar a=true:=by rfl):PE X (.Call (.Name "len" p) [a] [] pos) (tX .F X.K E (QvQ i)):=by
 refine PE.imp (Qcu Qa8 hg hm Qdu (Qfj h Yk hs) (he:=by rw[Yc hs])) λσ H Q ⟨F,δ,R,EX,rel,hw,k,o⟩=>?_
 unfold QvQ at hw;split at hw
 ·rename_i hd
  obtain⟨x,hx⟩:=rel.lt hd;obtain⟨l,ns,rfl,sq,np,n63⟩:=rel.sl i _ _ hx hd;refine⟨_,hx,l,_,rfl,.inl (Qmx rel sq np),?_⟩;rw[Qg];exact k _ (hw _ n63) _ H rel (Kp.refl rel) ⟨.int _,YL⟩
 ·exact hw.elim
def QvR(i:Nat)(wb:DE):DE:=λδ Q EX=>match δ[i]? with
 |some .scr=>wb δ (λd=>match d with
  |.int k=>0<=k/\∀c,Q (.int c)
  |_=>False) EX
 |_=>False
theorem QuM{i:Nat}{a b:Q2}{wb:DE}(G:FnOk X.prog X.w X.K X.mg X.base CX0 k f fd ps (Qdj X.K))(hr:Room k X.A)(hg:Gl X x)(hm:X.mg x=some (.ref f))(hk:PySem.W.keepIn X.K (.ref f)=true)(hb:Binds X.K fd ps [])
  (ha:PE X a (QiK i))(h:PE X b (tX .P X.K E wb))(h1:notStar a=true:=by rfl)(h2:notStar b=true:=by rfl)(hdb:(x == ("__debug__" : Str))=false:=by decide) :
  PE X (.Call (.Name x p) [a,b] [] pos) (tX .F X.K E (QvR i wb)):=by
 refine PE.imp (Qcd (E:=E) G hr hg hm hk hb .nil ZE (Qfj ha (Qfj h Yk h2) h1) hdb (Yc h1) (by rw[Yc h2];rfl)) λσ H Q ⟨F,δ,R,EX,rel,hw,k,o⟩=>?_
 unfold QvR at hw;split at hw
 ·rename_i hd
  obtain⟨x,hx⟩:=rel.lt hd;obtain⟨l,ns,rfl,sq,np,n63⟩:=rel.sl i _ _ hx hd;refine⟨_,hx,F,δ,_,EX,rel,hw,λd hd2 v H' rel' kp vk=>?_,o⟩;cases d<;>first | exact(show False from hd2).elim | skip
  rw[DP.int vk];exact⟨l,ns,_,rfl,Qmx rel' sq np,YG n63 (by decide),hd2.1,λc=>k _ (hd2.2 c) _ H' rel' kp ⟨.int _,YL⟩⟩
 ·exact hw.elim
end
section
variable{P:QD}{w:Jl}{K:PySem.W.Frag}{mg:Str->Option Value}{base:Heap}
def QfD(K:PySem.W.Frag):Sp:=λvs H Q _=>∃(a:Addr)(ns:List Int),vs=[.ref a]/\SqL K H a (ns.map V.int)/\ns.length<=63/\∀H',Q (.bl true) H'
def QyP:Qg3:=⟨λ_=>False,λd=>d=.bool true,λd=>d=.bool true,λ_=>False,λ_=>False,XF⟩
theorem QAZ{x qual:Str}{st:Y7}{f:Addr}{fd:Jc}{N:List Str}{p:Str}{k:Nat}(F:Fun K x qual st f fd)(S:JZ N [p] (QJ st))
  (hbody:∀(cdv:Value)(A:Je)(outer:List Env)(s:Shared)(H:Hp)(E:XK),Room k (A.deeper (envOfC qual (QJ st) s.heap.objs.size f cdv)) ->
   ∃wd,PSs (QoY CX0 P w K mg base N qual (QJ st) f cdv A outer s H E).nox (JQ st) (tS K E0 wd)/\wd QyP (stD N [.scr])):FnOk P w K mg base CX0 (k+1) f fd [p] (QfD K):=by
 refine F.ok S (λvs H Q E h=>?_) λcdv A outer s H vs Q E hr h=>?_
 ·obtain⟨a,ns,rfl,_⟩:=h;rfl
 ·obtain⟨wd,hp,hw⟩:=hbody cdv A outer s H E hr;obtain⟨a,ns,rfl,sq,n63,k⟩:=h;have get0:∀(i:Nat) o y,(L2.start N [V.ref a])[i]? = some o->(stD N [.scr])[i]? = some y->y≠.no->o=some (.ref a)/\y=.scr:=λi o y h1 h2 hy=>by
   cases i with
   |zero=>cases h1;cases h2;exact⟨rfl,rfl⟩
   |succ i=>
    unfold stD at h2;rw[Jg (by simp),Yo] at h2;split at h2
    ·exact absurd (Qu h2).symm hy
    ·cases h2
  have noav:∀b,¬Av (⟨H,λ_=>False,λ_=>False⟩:Fm) (L2.start N [V.ref a]) (stD N [.scr]) b:=λb z=>by
   rcases z with z | ⟨i,h1,h2⟩
   ·exact z
   ·rcases h2 with h2 | ⟨ds,h2⟩
    ·cases(get0 i _ _ h1 h2 (λz=>by cases z)).2
    ·cases(get0 i _ _ h1 h2 (λz=>by cases z)).2
  refine⟨_,hp,⟨H,λ_=>False,λ_=>False⟩,_,_,?_,hw,?_⟩
  ·exact{
    len:=by unfold L2.start stD;simp
    dom:=λ_ h=>h.elim
    dom0:=λ_ h=>h.elim
    pt0:=λ_ h=>h.elim
    kx:=λ_ _ _ e=>e
    sl:=λi o y h1 h2=>by
     cases y with
     |no=>trivial
     |scr=>
      obtain⟨rfl,_⟩:=get0 i _ _ h1 h2 (λz=>by cases z);exact⟨a,ns,rfl,sq,λz=>z,n63⟩
     |v d=>cases(get0 i _ _ h1 h2 (λz=>by cases z)).2
     |own d=>cases(get0 i _ _ h1 h2 (λz=>by cases z)).2
     |pk d=>cases(get0 i _ _ h1 h2 (λz=>by cases z)).2
     |pot=>cases(get0 i _ _ h1 h2 (λz=>by cases z)).2
    inj:=λi j b ds h1 h2 _=>by cases(get0 i _ _ h2 h1 (λz=>by cases z)).2 }
  ·exact{
    nx:=⟨λ_ h=>h.elim⟩
    rt:=λd h v H' ke dv=>by cases(show d=.bool true from h);cases dv;exact k H'
    rtF:=λd h v H' ke dv _=>by cases(show d=.bool true from h);cases dv;exact k H'
    bk:=⟨λ_ h=>h.elim⟩
    ct:=⟨λ_ h=>h.elim⟩
    ex:=QsQ }
end
theorem Qzm{α:Type}{p:α->Prop}:∀x∈([]:List α),p x:=λ_ h=>nomatch h
theorem QoK{α:Type}{p:α->Prop}{a:α}{l:List α}(h:p a)(t:∀x∈l,p x):∀x∈a::l,p x:=λx hx=>by
 rcases Qr.mp hx with z | z
 ·rw[z];exact h
 ·exact t x z
theorem Qzj{b c:Bool}{R:Qa->Prop}(h:R (.bool (b&&c))):if b=true then R (.bool c) else R (.bool false):=by
 cases b
 ·exact Qvt h
 ·exact QrE h
theorem Qwa{b c:Bool}{R:Qa->Prop}{Pk:Prop}(h:R (.bool (b&&c)))(k:b=true->R (.bool c)->Pk):if b=true then Pk else R (.bool false):=by
 cases b
 ·exact Qvt h
 ·exact QrE (k rfl h)
theorem ifF{c:Bool}{A B:Prop}(h:c=false)(k:B):if c=true then A else B:=by subst h;exact k
theorem ifT{c:Bool}{A B:Prop}(h:c=true)(k:A):if c=true then A else B:=by subst h;exact k
theorem ifC{c:Bool}{A B:Prop}(t:c=true->A)(f:c=false->B):if c=true then A else B:=by
 cases c
 ·exact f rfl
 ·exact t rfl
theorem all_map{α:Type}(l:List α)(g:α->Bool):(l.map g).all id=l.all g:=by
 rw[List.all_map];rfl
theorem Qjs{ds:List Qa}{Q:Qa->Prop}{g:Qa->Bool}{items:List Qa}(h:ds=[.list (items.map λd=>.bool (g d))])(q:Q (.bool (items.all g))):QzO ds Q:=by
 subst h;unfold QzO;refine⟨items.map g,?_,by rw[all_map];exact q⟩;rw[show items.map (λd=>Qdz (g d))=(items.map g).map Qdz by rw[QN];rfl,QoC]
theorem QiN{ds:List Qa}{Q:Qa->Prop}(ns:List Int)(h:ds=[.list (ns.map Qc)])(q:Q (.int ns.sum)):QzD ds Q:=by
 subst h;unfold QzD;exact⟨ns,ints_map ns,q⟩
end Dl
namespace L2
section
variable{X:Cx}
end
end L2
namespace Dl
open L2 _root_.Rd Rk
section
variable{X:Cx}{E:XK}
variable{e:Q2}{w:DE}{p p2 pos pos2:Pos}
end
theorem Qzi{ds:List Qa}{i:Int}(h0:0<=i)(h1:i<ds.length):∃d,d∈ds/\atI ds i=some d:=by
 obtain⟨j,rfl⟩:∃j:Nat,i=j:=⟨i.toNat,by omega⟩
 have hj:j<ds.length:=by omega
 exact⟨ds[j],Yr hj,Qam (Qf hj)⟩
theorem QA0{ds:List Qa}{i:Int}{Q:Qa->Prop}(h0:0<=i)(h1:i<ds.length)(q:∀d∈ds,Q d):∃d,atI ds i=some d/\Q d:=by
 obtain⟨d,hd,e⟩:=Qzi h0 h1;exact⟨d,e,q d hd⟩
theorem Qfd(xs:List Qa)(lo hi:Option Int):(cutD xs lo hi).length<=xs.length:=by
 unfold cutD;rw[Jo,ZH];omega
theorem QeF{xs:List Qa}{lo hi:Option Int}{d:Qa}(h:d∈cutD xs lo hi):d∈xs:=Qa0 (QdB h)
structure QE (m:Md) (X:Cx) (E:XK) (e:Q2) (w:DE):Prop where h:PE X e (tX m X.K E w)
structure QT (X:Cx) (E:XK) (e:Q2) (w:DT):Prop where h:PT X e (tT X.K E w)
structure QW (X:Cx) (E:XK) (e:Q2) (w:DT):Prop where h:PW X e (tT X.K E w)
structure QTs (X:Cx) (E:XK) (es:List Q2) (w:DT):Prop where h:PTs X es (tT X.K E w)
structure QA (n:Nat) (m:Md) (X:Cx) (E:XK) (es:List Q2) (w:DAr):Prop where h:PA X es (tAr n m X.K E w)
structure QAs (X:Cx) (E:XK) (es:List Q2) (w:DSl):Prop where h:PA X es (tAs X.K E w)
structure QO (X:Cx) (E:XK) (o:Option Q2) (w:DO):Prop where h:PO X o (tO X.K E w)
structure QG (ix:List Nat) (X:Cx) (tg:Q2) (w:DG):Prop where h:PG X tg (tG ix X.K w)
structure QI (m:Md) (X:Cx) (E:XK) (tg it:Q2) (w:DI):Prop where h:PI X tg it (tI m X.K E w)
structure QS (X:Cx) (E:XK) (st:Y7) (w:DS):Prop where h:PS X st (tS X.K E w)
structure QSs (X:Cx) (E:XK) (sts:List Y7) (w:DS):Prop where h:PSs X sts (tS X.K E w)
section
variable{X:Cx}{E:XK}
theorem Z2{e:Q2}{w:DE}(h:QE .F X E e w):QE .D X E e w:=⟨toD h.h⟩
theorem Zc{e:Q2}{w:DE}(h:QE .D X E e w):QE .P X E e w:=⟨toP h.h⟩
theorem Js{e:Q2}{w:DE}(h:QE .F X E e w):QE .P X E e w:=⟨QCq h.h⟩
theorem qv(i:Nat){x:Str}{pos:Pos}(hN:X.N[i]? = some x:=by rfl)(hv:Vis X.env.scope x:=by first | exact Jn rfl | exact Jm (Jn rfl) | exact Jm (Jm rfl))(hd:(x == ("__debug__" : Str))=false:=by decide)(hcd:(x == ("__classdict__" : Str))=false:=by decide):QE .D X E (.Name x pos) (QBl i):=⟨QxR (pv i hN hv hd hcd)⟩
theorem qp(i:Nat){x:Str}{pos:Pos}(hN:X.N[i]? = some x:=by rfl)(hv:Vis X.env.scope x:=by first | exact Jn rfl | exact Jm (Jn rfl) | exact Jm (Jm rfl))(hd:(x == ("__debug__" : Str))=false:=by decide)(hcd:(x == ("__classdict__" : Str))=false:=by decide):QE .P X E (.Name x pos) (dPk i):=⟨QAN (pv i hN hv hd hcd)⟩
theorem ZD{i:Int}{j pos}:QE .D X E (.Constant (.int i) j pos) (dC (.int i)):=⟨QxY⟩
theorem Qua{b:Bool}{j pos}:QE .D X E (.Constant (.bool b) j pos) (dC (.bool b)):=⟨QAR⟩
theorem QAE{j pos}:QE .D X E (.Constant .none j pos) (dC .none):=⟨QxV⟩
theorem QmM{x:Str}(i:Int){u:Value}{pos:Pos}(hg:Gl X x)(hm:X.mg x=some u)(r:RelV (.int i) u)(hd:(x == ("__debug__" : Str))=false:=by decide):QE .D X E (.Name x pos) (dC (.int i)):=⟨QzI (Quo hg hm r hd) λ_ _=>.int i⟩
theorem Qai{a b:Q2}{wa wb:DE}{pos:Pos}{r:R2}{rD:Qa->Qa->(Qa->Prop)->Prop}{op:Qco}(ho:OpR X (binaryOp op) r)(hd:OpD r rD)(ha:QE .P X E a wa)(hb:QE .P X E b wb):QE .F X E (.BinOp a op b pos) (dOp rD wa wb):=⟨Qx0 ho hd ha.h hb.h⟩
theorem Qlk{a b:Q2}{wa wb:DE}{pos:Pos}{r:R2}{rD:Qa->Qa->(Qa->Prop)->Prop}{op:Qga}(ho:OpR X (compareOp op) r)(hd:OpD r rD)(ha:QE .P X E a wa)(hb:QE .P X E b wb)(hm:behindInMarks op b=false):QE .F X E (.Compare a [op] [b] pos) (dOp rD wa wb):=⟨QxZ ho hd ha.h hb.h hm⟩
theorem Qay{a b:Q2}{wa wb:DE}{pos:Pos}{r:R2}{rD:Qa->Qa->(Qa->Prop)->Prop}{op:Qga}(ho:OpR X (compareOp op) r)(hd:OpD r rD)(ha:QE .P X E a wa)(hb:QE .P X E b wb)(hm:behindInMarks op b=false):QT X E (.Compare a [op] [b] pos) (dTst (dOp rD wa wb)):=⟨Quw ho hd ha.h hb.h hm⟩
theorem Qlj{a b:Q2}{wa wb:DE}{pos:Pos}{r:R2}{rD:Qa->Qa->(Qa->Prop)->Prop}(ho:IxR X r)(hd:QoZ r rD)(ha:QE .P X E a wa)(hb:QE .P X E b wb)(hs:Qjt b):QE .D X E (.Subscript a b pos) (dOp rD wa wb):=⟨QAP ho hd ha.h hb.h hs⟩
theorem Qt8{a:Q2}{wa:DE}{pos:Pos}(ha:QE .P X E a wa):QE .F X E (.UnaryOp .USub a pos) (dUn QBV wa):=⟨QxW ha.h⟩
theorem QCD{a b c:Q2}{wa wb wc:DE}{pos:Pos}{op op':Qga}{p q:Int->Int->Bool}(ho:OpR X (compareOp op) (rI0 λi j=>.bl (p i j)))(ho':OpR X (compareOp op') (rI0 λi j=>.bl (q i j)))(ha:QE .P X E a wa)(hb:QE .P X E b wb)(hc:QE .P X E c wc)(hm:lastMarks [op,op'] [b,c]=false:=by with_unfolding_all rfl):QE .F X E (.Compare a [op,op'] [b,c] pos) (dCh p q wa wb wc):=⟨QAQ ho ho' ha.h hb.h hc.h hm⟩
theorem QAC{a b c:Q2}{wa wb wc:DE}{pos:Pos}{op op':Qga}{p q:Int->Int->Bool}(ho:OpR X (compareOp op) (rI0 λi j=>.bl (p i j)))(ho':OpR X (compareOp op') (rI0 λi j=>.bl (q i j)))(ha:QE .P X E a wa)(hb:QE .P X E b wb)(hc:QE .P X E c wc)(hm:lastMarks [op,op'] [b,c]=false:=by with_unfolding_all rfl):QT X E (.Compare a [op,op'] [b,c] pos) (dTst (dCh p q wa wb wc)):=⟨QxP ho ho' ha.h hb.h hc.h hm⟩
theorem Qxt{e:Q2}{w:DE}(h:QE .P X E e w)(he:∀whole,isTrue e X.env whole=(do let v <- whole;standAt e.pos;holding [v] (truthy v)):=by intro _;rfl):QT X E e (dTru w):=⟨Quu h.h he⟩
theorem QeU{e:Q2}{w:DE}(h:QE .P X E e w)(he:∀whole,isTrue e X.env whole=(do let v <- whole;standAt e.pos;holding [v] (truthy v)):=by intro _;rfl):QT X E e (dTst w):=⟨Qut h.h he⟩
theorem Qt3{a:Q2}{pos:Pos}{ta:DT}(ha:QT X E a ta):QW X E (.BoolOp .And [a] pos) ta:=⟨QpT ha.h⟩
theorem Qxs{a b:Q2}{rest:List Q2}{pos:Pos}{ta tb:DT}(ha:QT X E a ta)(hb:QW X E (.BoolOp .And (b::rest) pos) tb):QW X E (.BoolOp .And (a::b::rest) pos) (QCh ta tb):=⟨Qus ha.h hb.h⟩
theorem Qub{a b:Q2}{rest:List Q2}{pos:Pos}{wa wb:DE}(ha:QE .P X E a wa)(hb:QE .D X E (.BoolOp .And (b::rest) pos) wb):QE .D X E (.BoolOp .And (a::b::rest) pos) (Qy5 wa wb):=⟨Qx1 ha.h hb.h⟩
theorem QhE{a:Q2}{pos:Pos}{ta:DT}(ha:QT X E a ta):QW X E (.BoolOp .Or [a] pos) ta:=⟨Qur ha.h⟩
theorem QhF{a b:Q2}{rest:List Q2}{pos:Pos}{ta tb:DT}(ha:QT X E a ta)(hb:QW X E (.BoolOp .Or (b::rest) pos) tb):QW X E (.BoolOp .Or (a::b::rest) pos) (dOr ta tb):=⟨QxO ha.h hb.h⟩
theorem QBT{a b:Q2}{rest:List Q2}{pos:Pos}{wa wb:DE}(ha:QE .P X E a wa)(hb:QE .D X E (.BoolOp .Or (b::rest) pos) wb):QE .D X E (.BoolOp .Or (a::b::rest) pos) (QB7 wa wb):=⟨QAO ha.h hb.h⟩
theorem Qws{e:Q2}{t:DT}(h:QW X E e t):QT X E e t:=⟨PW.pt h.h⟩
theorem QfK{a:Q2}{pos:Pos}{ta:DT}(ha:QT X E a ta):QT X E (.UnaryOp .Not a pos) (QB8 ta):=⟨Quv ha.h⟩
theorem QmK{op}{a:Q2}{pos:Pos}{w:DE}(h:QE .D X E a w):QE .D X E (.BoolOp op [a] pos) w:=⟨QxT h.h⟩
theorem QAD{a:Q2}{pos:Pos}{wa:DE}(ha:QE .P X E a wa):QE .D X E (.UnaryOp .Not a pos) (Qy2 wa):=⟨QxU ha.h⟩
theorem Zk{m:Md}:QA 0 m X E [] QB9:=⟨QuI⟩
theorem Qhf{n:Nat}{e:Q2}{es:List Q2}{we:DE}{wr:DAr}(he:QE .D X E e we)(hr:QA n .D X E es wr)(hs:notStar e=true:=by rfl):QA (n+1) .D X E (e::es) (Qob we wr):=⟨QmZ he.h hr.h hs⟩
theorem Qc6{n:Nat}{e:Q2}{es:List Q2}{we:DE}{wr:DAr}(he:QE .P X E e we)(hr:QA n .P X E es wr)(hs:notStar e=true:=by rfl):QA (n+1) .P X E (e::es) (Qob we wr):=⟨QmY he.h hr.h hs⟩
theorem Qli{n:Nat}{es:List Q2}{w:DAr}{x1}{pos:Pos}(h:QA n .D X E es w)(hn:n<=1000:=by decide):QE .F X E (.Tuple es x1 pos) (QB3 w):=⟨QxS h.h hn⟩
theorem QhG{n:Nat}{es:List Q2}{w:DAr}{pos:Pos}(h:QA n .D X E es w)(hn:n<=1000:=by decide):QE .F X E (.List es pos) (QCb w):=⟨QxX h.h hn⟩
theorem Ym{x:Str}{bid:String}{p pos:Pos}{e:Q2}{es:List Q2}{n:Nat}{wr:DAr}{r:List V->Hp->VK->Prop}{rD:List Qa->(Qa->Prop)->Prop}(hc:CallR X (.builtin bid) r)(hd:QcI r rD)(hg:Gl X x)(hm:X.mg x=none)(hv:bootBuiltins x=some (.builtin bid))(ha:QA n .P X E (e::es) wr)(hn:x ≠ "__name__" := by decide)(hdb:(x == ("__debug__" : Str))=false:=by decide)(he:starEach (e::es) X.env=(false,eval e X.env)::starEach es X.env:=by rfl)(hpl:(backTo pos (starEach es X.env)).any (·.1)=false:=by rfl):QE .F X E (.Call (.Name x p) (e::es) [] pos) (dCB rD wr):=⟨Qrd hc hd hg hm hv ha.h hn hdb he hpl⟩
theorem Qdl{x:Str}{T:String}{p pos:Pos}{e:Q2}{es:List Q2}{n:Nat}{wr:DAr}{r:List V->Hp->VK->Prop}{rD:List Qa->(Qa->Prop)->Prop}(hc:CallR X (.type T) r)(hd:QcI r rD)(hg:Gl X x)(hm:X.mg x=none)(hv:bootBuiltins x=some (.type T))(ha:QA n .P X E (e::es) wr)(hn:x ≠ "__name__" := by decide)(hdb:(x == ("__debug__" : Str))=false:=by decide)(he:starEach (e::es) X.env=(false,eval e X.env)::starEach es X.env:=by rfl)(hpl:(backTo pos (starEach es X.env)).any (·.1)=false:=by rfl):QE .F X E (.Call (.Name x p) (e::es) [] pos) (dCB rD wr):=⟨Qm0 hc hd hg hm hv ha.h hn hdb he hpl⟩
theorem QmL{e:Q2}{we:DE}{p pos pos2:Pos}{x:Str}(tn:Tn)(hg:Gl X "isinstance")(hm:X.mg "isinstance" = none)(he:QE .P X E e we)(hg2:Gl X x)(hm2:X.mg x=none)(hv:bootBuiltins x=some (.type tn.s))(hn:x ≠ "__name__" := by decide)(hd:(x == ("__debug__" : Str))=false:=by decide)(h1:notStar e=true:=by rfl):QE .F X E (.Call (.Name "isinstance" p) [e,.Name x pos2] [] pos) (Qy3 tn we):=⟨QuK tn hg hm he.h (QAS tn hg2 hm2 hv hn hd) h1 rfl⟩
theorem Qca  : QO X E none dNo:=⟨Qp4⟩
theorem Qb9{e:Q2}{we:DE}(he:QE .P X E e we):QO X E (some e) (dSo we):=⟨Qp3 he.h⟩
theorem Qcb{e:Q2}{lo hi:Option Q2}{we:DE}{wl wh:DO}{p2 pos:Pos}(he:QE .P X E e we)(hl:QO X E lo wl)(hh:QO X E hi wh):QE .F X E (.Subscript e (.Slice lo hi none p2) pos) (dSl we wl wh):=⟨Qra he.h hl.h hh.h⟩
theorem JU  : QAs X E [] QBH:=⟨QuB⟩
theorem Qae{e:Q2}{es:List Q2}{we:DE}{wr:DSl}(he:QE .D X E e we)(hr:QAs X E es wr)(hs:notStar e=true:=by rfl):QAs X E (e::es) (sV we wr):=⟨QAM he.h hr.h hs⟩
theorem Qei(i:Nat){x:Str}{pos:Pos}{es:List Q2}{wr:DSl}(hr:QAs X E es wr)(hN:X.N[i]? = some x:=by rfl)(hv:Vis X.env.scope x:=by first | exact Jn rfl | exact Jm (Jn rfl) | exact Jm (Jm rfl))(hd:(x == ("__debug__" : Str))=false:=by decide)(hcd:(x == ("__classdict__" : Str))=false:=by decide):QAs X E (.Name x pos::es) (QAu i wr):=⟨Quy (pv i hN hv hd hcd) hr.h rfl⟩
theorem Z7{CX:CXT}{k:Nat}{f:Addr}{fd:Jc}{ps:List Str}{x:Str}{p pos:Pos}{e:Q2}{es:List Q2}{fD:DF}{wa:DSl}(G:FnOk X.prog X.w X.K X.mg X.base CX k f fd ps (Zu false fD))(hr:Room k X.A)(hg:Gl X x)(hm:X.mg x=some (.ref f))(hk:PySem.W.keepIn X.K (.ref f)=true)(hb:Binds X.K fd ps [])(hx:QcO CX X E)(ha:QAs X E (e::es) wa)(hdb:(x == ("__debug__" : Str))=false:=by decide)(he:starEach (e::es) X.env=(false,eval e X.env)::starEach es X.env:=by rfl)(hpl:(backTo pos (starEach es X.env)).any (·.1)=false:=by rfl):QE .D X E (.Call (.Name x p) (e::es) [] pos) (Qoe fD wa):=⟨QuN G hr hg hm hk hb hx ha.h hdb he hpl⟩
theorem ZX{CX:CXT}{k:Nat}{f:Addr}{fd:Jc}{ps:List Str}{x:Str}{p pos:Pos}{e:Q2}{es:List Q2}{fD:DF}{wa:DSl}(G:FnOk X.prog X.w X.K X.mg X.base CX k f fd ps (Zu true fD))(hr:Room k X.A)(hg:Gl X x)(hm:X.mg x=some (.ref f))(hk:PySem.W.keepIn X.K (.ref f)=true)(hb:Binds X.K fd ps [])(hx:QcO CX X E)(ha:QAs X E (e::es) wa)(hdb:(x == ("__debug__" : Str))=false:=by decide)(he:starEach (e::es) X.env=(false,eval e X.env)::starEach es X.env:=by rfl)(hpl:(backTo pos (starEach es X.env)).any (·.1)=false:=by rfl):QE .F X E (.Call (.Name x p) (e::es) [] pos) (Qoe fD wa):=⟨Qrc G hr hg hm hk hb hx ha.h hdb he hpl⟩
theorem Qt9{CX:CXT}{k:Nat}{f:Addr}{fd:Jc}{ps:List Str}{x:Str}{p pos:Pos}{e:Q2}{es:List Q2}{fD:DF}{n:Nat}{wr:DAr}(G:FnOk X.prog X.w X.K X.mg X.base CX k f fd ps (Zu true fD))(hr:Room k X.A)(hg:Gl X x)(hm:X.mg x=some (.ref f))(hk:PySem.W.keepIn X.K (.ref f)=true)(hb:Binds X.K fd ps [])(hx:QcO CX X E)(ha:QA n .P X E (e::es) wr)(hdb:(x == ("__debug__" : Str))=false:=by decide)(he:starEach (e::es) X.env=(false,eval e X.env)::starEach es X.env:=by rfl)(hpl:(backTo pos (starEach es X.env)).any (·.1)=false:=by rfl):QE .F X E (.Call (.Name x p) (e::es) [] pos) (Qod fD wr):=⟨Qrb G hr hg hm hk hb hx ha.h hdb he hpl⟩
theorem Qxz{k:Nat}{f:Addr}{fd:Jc}{ps:List Str}{x y:Str}{p pos pos2:Pos}{b:Q2}{wb:DE}(i:Nat)(G:FnOk X.prog X.w X.K X.mg X.base CX0 k f fd ps (Qdj X.K))(hr:Room k X.A)(hg:Gl X x)(hm:X.mg x=some (.ref f))(hk:PySem.W.keepIn X.K (.ref f)=true)(hb:Binds X.K fd ps [])(h:QE .P X E b wb)(hN:X.N[i]? = some y:=by rfl)(hv:Vis X.env.scope y:=by first | exact Jn rfl | exact Jm (Jn rfl) | exact Jm (Jm rfl))(hd:(y == ("__debug__" : Str))=false:=by decide)(hcd:(y == ("__classdict__" : Str))=false:=by decide)(h2:notStar b=true:=by rfl)(hdb:(x == ("__debug__" : Str))=false:=by decide):QE .F X E (.Call (.Name x p) [.Name y pos2,b] [] pos) (QvR i wb):=⟨QuM G hr hg hm hk hb (pv i hN hv hd hcd) h.h rfl h2 hdb⟩
theorem Qxy{y:Str}{p pos pos2:Pos}(i:Nat)(hg:Gl X "len")(hm:X.mg "len" = none)(hN:X.N[i]? = some y:=by rfl)(hv:Vis X.env.scope y:=by first | exact Jn rfl | exact Jm (Jn rfl) | exact Jm (Jm rfl))(hd:(y == ("__debug__" : Str))=false:=by decide)(hcd:(y == ("__classdict__" : Str))=false:=by decide):QE .F X E (.Call (.Name "len" p) [.Name y pos2] [] pos) (QvQ i):=⟨QuJ hg hm (pv i hN hv hd hcd) rfl⟩
theorem Yd(i:Nat){x:Str}{pos:Pos}(hN:X.N.Nodup)(hi:X.N[i]? = some x)(hx:Loc X.env.scope x)(hf:X.fn x=true∨X.env.scope.names.lookup x=some .local:=by first | exact .inl rfl | exact .inr rfl | assumption):QG [i] X (.Name x pos) (gN i):=⟨Qp9 (QeX hN hi hx hf)⟩
structure QGs (X:Cx) (es:List Q2) (is:List Nat):Prop where h:PGs X es (gNs is)
theorem QbS  : QGs X [] []:=⟨Qul⟩
theorem ZA(i:Nat){is:List Nat}{x:Str}{pos:Pos}{es:List Q2}(h:QGs X es is)(hN:X.N.Nodup)(hi:X.N[i]? = some x)(hx:Loc X.env.scope x)(hf:X.fn x=true∨X.env.scope.names.lookup x=some .local:=by first | exact .inl rfl | exact .inr rfl | assumption)(hs:(assignEach (.Name x pos::es) X.env).map (·.2)=assign (.Name x pos) X.env::(assignEach es X.env).map (·.2):=by rfl):QGs X (.Name x pos::es) (i::is):=⟨QpO (QeX hN hi hx hf) h.h hs⟩
theorem QbR{es:List Q2}{k:Nat}{pos:Pos}{is:List Nat}(hc:X.calm=true)(h:QGs X es is)(hn:(assignEach es X.env).length=is.length:=by rfl)(hst:(assignEach es X.env).findIdx? (·.1)=none:=by rfl):QG is X (.Tuple es k pos) (gTN is):=⟨QuH (QxG hc h.h hn hst) rfl⟩
theorem QcR{m:Md}{tg e:Q2}{w:DE}(h:QE m X E e w):QI m X E tg e (QCd w):=⟨Qp8 h.h⟩
theorem QjY{m:Md}{tg e:Q2}{w:DE}(h:QE m X E e w):QI m X E tg e (QCc w):=⟨QuG h.h⟩
theorem QbD{m:Md}{tg e:Q2}{w:DE}{p pos:Pos}(hg:Gl X "range")(hm:X.mg "range" = none)(h:QE .P X E e w)(hs:notStar e=true:=by rfl):QI m X E tg (.Call (.Name "range" p) [e] [] pos) (Qy0 w):=⟨Qp7 hg hm h.h hs⟩
theorem Qgx{m:Md}{e:Q2}{w:DE}{p pos tpos:Pos}{elts:List Q2}{x1}(hg:Gl X "enumerate")(hm:X.mg "enumerate" = none)(h:QE m X E e w)(hs:notStar e=true:=by rfl):QI m X E (.Tuple elts x1 tpos) (.Call (.Name "enumerate" p) [e] [] pos) (QCf w):=⟨QmX hg hm h.h hs⟩
theorem Qt6{m:Md}{e e':Q2}{w w':DE}{p pos tpos:Pos}{elts:List Q2}{x1}(hg:Gl X "zip")(hm:X.mg "zip" = none)(h:QE m X E e w)(h':QE m X E e' w')(hs:notStar e=true:=by rfl)(hs':notStar e'=true:=by rfl):QI m X E (.Tuple elts x1 tpos) (.Call (.Name "zip" p) [e,e'] [] pos) (QB2 w w'):=⟨Qp6 hg hm h.h h'.h hs hs'⟩
theorem Qgw{m:Md}{e:Q2}{w:DE}{p pos tpos:Pos}{elts:List Q2}{x1}(hg:Gl X "enumerate")(hm:X.mg "enumerate" = none)(h:QE m X E e w)(hs:notStar e=true:=by rfl):QI m X E (.Tuple elts x1 tpos) (.Call (.Name "enumerate" p) [e] [] pos) (QCe w):=⟨QmW hg hm h.h hs⟩
theorem QmJ{m:Md}{e e':Q2}{w w':DE}{p pos tpos:Pos}{elts:List Q2}{x1}(hg:Gl X "zip")(hm:X.mg "zip" = none)(h:QE m X E e w)(h':QE m X E e' w')(hs:notStar e=true:=by rfl)(hs':notStar e'=true:=by rfl):QI m X E (.Tuple elts x1 tpos) (.Call (.Name "zip" p) [e,e'] [] pos) (QB1 w w'):=⟨Qp5 hg hm h.h h'.h hs hs'⟩
theorem Y2  : QTs X E [] QvP:=⟨QpV⟩
theorem QeT{c:Q2}{t:DT}(h:QT X E c t):QTs X E [c] t:=⟨QpU h.h⟩
theorem Qbr(M:List Str)(cap:List (Option Nat)){elt tg iter:Q2}{ifs:List Q2}{scope:Y8}{pos:Pos}{ix:List Nat}{wi:DI}{wg:DG}{wt:DT}{we:DE}(hi:QI .P X E tg iter wi)(hb:∀cl ex s3 H3 C,QG ix (blk X M scope cl ex s3 H3 C) tg wg/\QTs (blk X M scope cl ex s3 H3 C) E0 ifs wt/\QE .D (blk X M scope cl ex s3 H3 C) E0 elt we)(hc:X.calm=true:=by rfl)(ok:Qff X.N X.env.scope M scope cap=true:=by rfl)(hf:Qcj cap ix=true:=by rfl)(hs:∀x,foldedSetIterable iter X.env x=pure x:=by intro _;rfl):QE .F X E (.ListComp elt [⟨tg,iter,ifs,0⟩] scope pos) (dComp cap wi wg wt we):=⟨QuL hc ok hf hi.h (λcl ex s3 H3 C=>⟨(hb cl ex s3 H3 C).1.h,(hb cl ex s3 H3 C).2.1.h,(hb cl ex s3 H3 C).2.2.h⟩) hs⟩
theorem QaB  : QSs X E [] QyY:=⟨QpW⟩
theorem JE{st:Y7}{w:DS}(h:QS X E st w):QSs X E [st] w:=⟨QuA h.h⟩
theorem Jd{st:Y7}{rest:List Y7}{w w':DS}(h:QS X E st w)(h':QSs X E rest w'):QSs X E (st::rest) (QB4 w w'):=⟨Qp1 h.h h'.h⟩
theorem QeV{sts:List Y7}:QSs X E sts (λ_ _=>False):=⟨QmV⟩
theorem Qah(i:Nat){x:Str}{e:Q2}{pos pos':Pos}{we:DE}(he:QE .D X E e we)(hN:X.N.Nodup)(hi:X.N[i]? = some x:=by rfl)(hx:Loc X.env.scope x:=by first | exact Jn rfl | exact Jm rfl)(hs:swapsWith e (some (.Name x pos')) pos.line X.env=pure false:=by rfl)(hf:X.fn x=true∨X.env.scope.names.lookup x=some .local:=by first | exact .inl rfl | exact .inr rfl | assumption):QS X E (.Assign [.Name x pos'] e pos) (QzN i we):=⟨Qi2 (Qdn hN hi hx he.h hs hf)⟩
theorem QeW(i:Nat){x:Str}{e:Q2}{pos pos':Pos}{we:DE}(he:QE .F X E e we)(hN:X.N.Nodup)(hi:X.N[i]? = some x:=by rfl)(hx:Loc X.env.scope x:=by first | exact Jn rfl | exact Jm rfl)(hs:swapsWith e (some (.Name x pos')) pos.line X.env=pure false:=by rfl)(hf:X.fn x=true∨X.env.scope.names.lookup x=some .local:=by first | exact .inl rfl | exact .inr rfl | assumption):QS X E (.Assign [.Name x pos'] e pos) (QvN i we):=⟨Qj5 (Qdn hN hi hx he.h hs hf)⟩
theorem Qt4(i:Nat){x:Str}{e:Q2}{pos pos':Pos}{we:DE}(he:QE .F X E e we)(hN:X.N.Nodup)(hi:X.N[i]? = some x:=by rfl)(hx:Loc X.env.scope x:=by first | exact Jn rfl | exact Jm rfl)(hs:swapsWith e (some (.Name x pos')) pos.line X.env=pure false:=by rfl)(hf:X.fn x=true∨X.env.scope.names.lookup x=some .local:=by first | exact .inl rfl | exact .inr rfl | assumption):QS X E (.Assign [.Name x pos'] e pos) (QyZ i we):=⟨QpX (Qdn hN hi hx he.h hs hf)⟩
theorem Qxx{tg e:Q2}{pos:Pos}{ix:List Nat}{we:DE}{wg:DG}(he:QE .D X E e we)(hg:QG ix X tg wg)(hs:swapsWithSole [tg] e pos.line X.env=pure false:=by rfl)(hw:swappedStores [tg] e X.env=pure none:=by rfl)(h1:(assignEach [tg] X.env).map (·.2)=[assign tg X.env]:=by rfl):QS X E (.Assign [tg] e pos) (QCg we wg):=⟨QuF (QsN he.h hg.h hs hw h1)⟩
theorem Qxu(i j:Nat){x y:Str}{a b:Q2}{n:Nat}{wa:DAr}{pos px py pt:Pos}{kt k2 pt2}(ha:QA n .D X E [a,b] wa)(hN:X.N.Nodup)(hc:X.calm=true:=by rfl)(hi:X.N[i]? = some x:=by rfl)(hj:X.N[j]? = some y:=by rfl)(hij:i≠j:=by decide)(hx:X.env.scope.names.lookup x=some .local:=by rfl)(hy:X.env.scope.names.lookup y=some .local:=by rfl)(hw:swappedStores [.Tuple [.Name x px,.Name y py] kt pt] (.Tuple [a,b] k2 pt2) X.env=pure (some [x,y]):=by rfl)(hs:swapsWithSole [.Tuple [.Name x px,.Name y py] kt pt] (.Tuple [a,b] k2 pt2) pos.line X.env=pure false:=by rfl):QS X E (.Assign [.Tuple [.Name x px,.Name y py] kt pt] (.Tuple [a,b] k2 pt2) pos) (QB6 i j wa):=⟨Quz (QxC hc hN hi hj hij hx hy ha.h hw hs)⟩
theorem QaH{e:Q2}{pos:Pos}{we:DE}(h:QE .D X E e we):QS X E (.Return (some e) pos) (QB5 we):=⟨Qux h.h⟩
theorem Qbf{e:Q2}{pos:Pos}{we:DE}(h:QE .F X E e we):QS X E (.Return (some e) pos) (Qy1 we):=⟨QpZ h.h⟩
theorem Qgv(i:Nat){x:Str}{pos pos2:Pos}(hN:X.N[i]? = some x:=by rfl)(hv:Vis X.env.scope x:=by first | exact Jn rfl | exact Jm (Jn rfl) | exact Jm (Jm rfl))(hd:(x == ("__debug__" : Str))=false:=by decide)(hcd:(x == ("__classdict__" : Str))=false:=by decide):QS X E (.Return (some (.Name x pos)) pos2) (QvO i):=⟨QpY (pv i hN hv hd hcd)⟩
theorem Qeq{c:Q2}{a b:List Y7}{pos:Pos}{t:DT}{w w':DS}(hc:QT X E c t)(ha:QSs X E a w)(hb:QSs X E b w'):QS X E (.If c a b pos) (dIf t w w'):=⟨QxQ hc.h ha.h hb.h⟩
theorem Qxw(i:Nat){x:Str}{e:Q2}{we:DE}{op:Qco}{ti:TIp}{rD:Qa->Qa->(Qa->Prop)->Prop}{pos pos':Pos}(ho:PIp X op ti)(hd:QoZ ti rD)(he:QE .P X E e we)(hN:X.N.Nodup)(hi:X.N[i]? = some x:=by rfl)(hx:Loc X.env.scope x:=by first | exact Jn rfl | exact Jm rfl)(hf:X.fn x=true∨X.env.scope.names.lookup x=some .local:=by first | exact .inl rfl | exact .inr rfl | assumption):QS X E (.AugAssign (.Name x pos') op e pos) (QBo i rD we):=⟨QuE hd (QxD hN hi hx he.h (PIp.len ho) hf)⟩
theorem Qt5{y:Str}{e k:Q2}{we wk:DE}{op:Qco}{ti:TIp}{rD:Qa->Qa->(Qa->Prop)->Prop}{pos tpos npos:Pos}(i:Nat)(ho:PIp X op ti)(hd:QoZ ti rD)(hk:QE .P X E k wk)(he:QE .P X E e we)(hN:X.N[i]? = some y:=by rfl)(hv:Vis X.env.scope y:=by first | exact Jn rfl | exact Jm (Jn rfl) | exact Jm (Jm rfl))(hdd:(y == ("__debug__" : Str))=false:=by decide)(hcd:(y == ("__classdict__" : Str))=false:=by decide)(ha:∀ov iv new,augStore k ov iv new=(do holding [new,ov,iv] (setItem ov iv new);release [new,ov,iv] [];pure .next):=by intros;rfl):QS X E (.AugAssign (.Subscript (.Name y npos) k tpos) op e pos) (QvS i rD wk we):=⟨Qp2 hd (Qud (pv i hN hv hdd hcd) hk.h QrO he.h (PIp.len ho) QjR ha)⟩
theorem QcL{tg iter:Q2}{body:List Y7}{pos:Pos}{ix:List Nat}{wi:DI}{wg:DG}{wb:DS}(hp:PassesOwn (model X.prog X.w) X.A X.env X.xe)(hc:X.calm=true)(hi:QI .D X E tg iter wi)(hg:QG ix X tg wg)(hb:QSs X E body wb)(hs:∀x,foldedSetIterable iter X.env x=pure x:=by intro _;rfl):QS X E (.For tg iter body [] pos) (dFor wi wg wb):=⟨QuD hp hc hi.h hg.h hb.h hs⟩
theorem QdX{e:Q2}{we:DE}{pos:Pos}(he:QE .P X E e we)(hs:swapsWith e none pos.line X.env=pure false:=by rfl):QS X E (.Expr e pos) (Qy4 we):=⟨Qp0 (QmQ he.h hs)⟩
end
section
variable{P:QD}{w:Jl}{K:PySem.W.Frag}{mg:Str->Option Value}{base:Heap}
theorem okQ{x qual:Str}{st:Y7}{f:Addr}{fd:Jc}{N ps:List Str}{k:Nat}{fD:DF}(fr:Bool)(F:Fun K x qual st f fd)(S:JZ N ps (QJ st))(len:∀args R EX,fD args R EX->args.length=ps.length)
  (hbody:∀(cdv:Value)(A:Je)(outer:List Env)(s:Shared)(H:Hp)(E:XK),Room k (A.deeper (envOfC qual (QJ st) s.heap.objs.size f cdv)) ->
   ∃wd,QSs (QoY CX0 P w K mg base N qual (QJ st) f cdv A outer s H E).nox E0 (JQ st) wd/\∀args R EX,fD args R EX->wd (QvJ fr R XF) (stD N args)):FnOk P w K mg base CX0 (k+1) f fd ps (Zu fr fD):=
 okD fr F S len λcdv A outer s H E hr=>let ⟨wd,h,q⟩:=hbody cdv A outer s H E hr;⟨wd,h.h,q⟩
theorem QCE{x qual:Str}{st:Y7}{f:Addr}{fd:Jc}{N:List Str}{p:Str}{k:Nat}(F:Fun K x qual st f fd)(S:JZ N [p] (QJ st))
  (hbody:∀(cdv:Value)(A:Je)(outer:List Env)(s:Shared)(H:Hp)(E:XK),Room k (A.deeper (envOfC qual (QJ st) s.heap.objs.size f cdv)) ->
   ∃wd,QSs (QoY CX0 P w K mg base N qual (QJ st) f cdv A outer s H E).nox E0 (JQ st) wd/\wd QyP (stD N [.scr])):FnOk P w K mg base CX0 (k+1) f fd [p] (QfD K):=
 QAZ F S λcdv A outer s H E hr=>let ⟨wd,h,q⟩:=hbody cdv A outer s H E hr;⟨wd,h.h,q⟩
end
structure GOk (wg:DG):Prop where h:∀d δ Q,wg d δ Q->wg d δ λδ'=>(∀(j:Nat) x,δ'[j]? = some x->(∃e,x=.v e)∨δ[j]? = some x)/\Q δ'
theorem Qkp(i:Nat):GOk (gN i):=⟨λd δ Q h=>⟨λj x e=>by
 by_cases z:j=i
 ·subst z;exact .inl ⟨d,set_eq e⟩
 ·rw[QaG z] at e;exact .inr e,h⟩⟩
theorem QnU{cap:List (Option Nat)}{ix:List Nat}(hf:Qcj cap ix=true){i:Nat}(hi:i∈ix):cap[i]? = some none:=by
 have:=Zg.mp hf i hi;split at this
 ·assumption
 ·cases this
theorem QeD{cap:List (Option Nat)}{ix:List Nat}(hf:Qcj cap ix=true){δ:Sts}{i:Nat}{x:Sl}(h:(QeG cap δ)[i]? = some x)(hx:x≠.no):i∉ix:=λz=>by
 rcases QgW h with⟨_,e⟩ | ⟨j,hj,_⟩
 ·exact hx e
 ·rw[QnU hf z] at hj;cases hj
section
variable{K:PySem.W.Frag}{σ σ4:L2.St}{δ δ4:Sts}{cap:List (Option Nat)}{ix:List Nat}{A1:Addr->Prop}{H3 H5 H6:Hp}
theorem QsY(hP:∀a,Yn σ δ a->A1 a)(hf:Qcj cap ix=true)(j4:∀j,j∉ix->σ4[j]? = (QdF cap σ)[j]?)(gk:∀(j:Nat) x,δ4[j]? = some x->(∃e,x=.v e)∨(QeG cap δ)[j]? = some x){a:Addr}(h:Av (inF A1 cap σ δ H3) σ4 δ4 a):A1 a:=by
 rcases h with z | ⟨i,h1,h2⟩
 ·exact z
 ·refine(Qkn (cap:=cap) (H:=H3) hP).mp ?_
  rcases h2 with h2 | ⟨ds,h2⟩
  ·rcases gk i _ h2 with⟨e,z⟩ | z
   ·cases z
   ·exact .inr ⟨i,by rw[<- j4 i (QeD hf z (λz=>by cases z))];exact h1,.inl z⟩
  ·rcases gk i _ h2 with⟨e,z⟩ | z
   ·cases z
   ·exact .inr ⟨i,by rw[<- j4 i (QeD hf z (λz=>by cases z))];exact h1,.inr ⟨ds,z⟩⟩
theorem Qvx(hP:∀a,Yn σ δ a->A1 a)(hf:Qcj cap ix=true)(j4:∀j,j∉ix->σ4[j]? = (QdF cap σ)[j]?)(gk:∀(j:Nat) x,δ4[j]? = some x->(∃e,x=.v e)∨(QeG cap δ)[j]? = some x)
  (ri:Rel K (inF A1 cap σ δ H6) (QdF cap σ) H6 (QeG cap δ))(r5:Rel K (inF A1 cap σ δ H3) σ4 H5 δ4)(kk:∀a o,¬A1 a->H5 a=some o->H6 a=some o):Rel K (inF A1 cap σ δ H6) σ4 H6 δ4 where
 len:=r5.len
 dom:=ri.dom
 dom0:=ri.dom0
 pt0:=ri.pt0
 kx:=ri.kx
 sl:=λi o x h1 h2=>by
  have iv:∀{a:Addr},Av (inF A1 cap σ δ H6) σ4 δ4 a->A1 a:=λ{a} z=>QsY hP hf j4 gk z
  rcases gk i x h2 with⟨d,rfl⟩ | hx
  ·obtain⟨v,e,q⟩:=r5.sl i o _ h1 h2;exact⟨v,e,q.mv (λa o n e=>kk a o (λz=>n (.inl z)) e) λa z=>.inl (.inl (iv z))⟩
  ·by_cases hn:x=.no
   ·subst hn;trivial
   ·have h1':(QdF cap σ)[i]? = some o:=by rw[<- j4 i (QeD hf hx hn)];exact h1
    have h:=ri.sl i o x h1' hx;cases x with
    |no=>trivial
    |v d=>obtain⟨v',e,q'⟩:=h;exact⟨v',e,q'.mv (λ_ _ _ e=>e) λa z=>.inl (.inl (iv z))⟩
    |own ds=>obtain⟨l,xs,e,e2,q',f⟩:=h;exact⟨l,xs,e,e2,q'.mv (λ_ _ _ e=>e) λa z=>.inl (.inl (iv z)),f⟩
    |pk ds=>obtain⟨l,xs,e,e2,q',f⟩:=h;exact⟨l,xs,e,e2,q'.mv (λ_ _ _ e=>e) λa z=>.inl (.inl (iv z)),f⟩
    |pot=>exact h
    |scr=>exact h
 inj:=λi j a ds h1 h2 _=>by
  rcases gk i _ h1 with⟨e,z⟩ | z
  ·cases z
  ·rcases QgW z with⟨_,e⟩ | ⟨j,hj,e⟩
   ·cases e
   ·exfalso
    cases e2:δ[j]? with
    |none=>rw[e2] at e;cases e
    |some y=>rw[e2] at e;cases y<;>cases e
end
theorem Qph{K:PySem.W.Frag}{F:Fm}{σ:L2.St}{δ:Sts}{H1 H3:Hp}{cap:List (Option Nat)}{ix:List Nat}{wg:DG}{wt:DT}{A1:Addr->Prop}{x:V}{d:Qa}{inner:L2.St->Hp->(Hp->Prop)->Prop}{kk:Hp->Prop}{T:Sts->Prop}{N:Prop}(gok:GOk wg)
  (hf:Qcj cap ix=true)(rel:Rel K F σ H1 δ)(hA:∀a,Av F σ δ a->A1 a)(hN:∀a,A1 a->Av F σ δ a∨H1 a=none)(dm:∀a,A1 a->∃xs,H3 a=some (.lst xs))(kp:Kp σ δ H1 H3)(dx:DA A1 H3 x d)
  (h:wg d (QeG cap δ) λδ4=>wt δ4 (λb=>if b=true then T δ4 else N) XF)
  (hT:∀σ4 δ4 H5,T δ4->Rel K (inF A1 cap σ δ H3) σ4 H5 δ4->Kp σ δ H3 H5->(∀j,j∉ix->σ4[j]? = (QdF cap σ)[j]?)->σ4.length=(QdF cap σ).length->(∀(j:Nat) x,δ4[j]? = some x->(∃e,x=.v e)∨(QeG cap δ)[j]? = some x)->inner σ4 H5 kk)(hF:N->∀H5,Kp σ δ H3 H5->kk H5) :
  bOf (QdF cap σ) (tG ix K wg) (tT K E0 wt) inner x H3 kk:=by
 have ri:=QnG (cap:=cap) rel hA hN dm kp;have iv:∀{a:Addr},Av (inF A1 cap σ δ H3) (QdF cap σ) (QeG cap δ) a->A1 a:=λ{a}=>(Qkn λa z=>hA a (Qaq z)).mp
 refine⟨inF A1 cap σ δ H3,QeG cap δ,d,_,ri,dx.mv (λ_ _ _ e=>e) λa z=>.inl (iv z),gok.h _ _ _ h,λδ4 ⟨g4,h4⟩ σ4 r4 st4 l4 j4=>⟨Qs9 hf l4 j4,inF A1 cap σ δ H3,δ4,_,XF,r4,h4,λb hb H5 r5 kp5=>?_,QsQ⟩⟩;have pots:∀{b:Addr},Yn σ4 δ4 b->Yn σ δ b:=λz=>Qjf r4 (λb o _ e1 e2=>by rw[e2] at e1;cases e1) z
 have K5:Kp σ δ H3 H5:=by
  refine⟨λb o n e=>kp5.1 b o (λz=>n (pots z)) e,λb hb=>?_⟩;by_cases z:Yn σ4 δ4 b
  ·exact kp5.2 b z
  ·obtain⟨n,e⟩:=kp.2 b hb;exact⟨n,kp5.1 _ _ z e⟩
 exact Qdq hb (λz=>hT σ4 δ4 H5 z r5 K5 j4 l4 g4) λz=>hF z H5 K5
theorem QvL{K:PySem.W.Frag}{σ σ4:L2.St}{δ δ4:Sts}{H1 H3 H5:Hp}{cap:List (Option Nat)}{we:DE}{A1:Addr->Prop}{p:Addr}{acc:List Qa}{kk:Hp->Prop}{G:Qa->Prop}
  (hpA:A1 p)(hP:∀a,Yn σ δ a->A1 a)(hp1:H1 p=none)(hpn:¬Yn σ δ p)(lp:Lp σ δ A1 p H1 H5 acc)(hl:acc.length<sizeLine)(r5:Rel K (inF A1 cap σ δ H3) σ4 H5 δ4)(pots:∀b,Yn σ4 δ4 b->Yn σ δ b)
  (h:we δ4 G XF)(hk:∀e,G e->∀H',Lp σ δ A1 p H1 H' (acc++[e])->(∀b o,¬A1 b->H5 b=some o->H' b=some o)->kk H'):Qww p (tX .D K E0 we) σ4 H5 kk:=by
 refine⟨inF A1 cap σ δ H3,δ4,G,XF,r5,h,λe he v H6 r6 kp6 dv=>?_,QsQ⟩;have k56:Kp σ δ H5 H6:=by
  refine⟨λb o n e=>kp6.1 b o (λz=>n (pots b z)) e,λb hb=>?_⟩;by_cases z:Yn σ4 δ4 b
  ·exact kp6.2 b z
  ·obtain⟨n,e⟩:=lp.kp.2 b hb;exact⟨n,kp6.1 _ _ z e⟩
 obtain⟨k6,ys,e6,q6⟩:=lp.step hP hpn k56;have up:∀{b:Addr}{o:HO},¬A1 b->H6 b=some o->upd H6 p (.lst (ys++[v])) b=some o:=λ{b o} n e=>by rw[JY (λz=>n (by rw[z];exact hpA))];exact e
 refine⟨ys,e6,by rw[q6.length];exact hl,hk e he _ ⟨⟨λb o n e=>?_,λb hb=>?_⟩,ys++[v],JN,DAs.app (q6.mv (λ_ _=>up) λa z=>.inl z) (.cons (DA.mv dv (λa o n e=>up (λz=>n (.inl z)) e) λa z=>.inl (.inl z)) .nil)⟩ λb o n e=>up n (kp6.1 b o (λz=>n (hP b (pots b z))) e)⟩
 ·rw[JY (λz=>by rw[z,hp1] at e;cases e)];exact k6.1 b o n e
 ·rw[JY (λz=>hpn (by rw[<- z];exact hb))];exact k6.2 b hb
def QrB:Nat:=1000000
@[irreducible] def InR(items2:List Qa)(wg2:DG)(wt2:DT)(we:DE)(δ4:Sts)(acc:List Qa)(N:List Qa->Prop):Prop:=∃Jv:Nat->List Qa->Prop,Jv 0 acc /\
 (∀(j:Nat) acc2 d2,items2[j]? = some d2->Jv j acc2->acc2.length<QrB/\wg2 d2 δ4 λδ5=>wt2 δ5 (λb=>if b=true then we δ5 (λe=>Jv (j+1) (acc2++[e])) XF else Jv (j+1) acc2) XF)/\∀acc2,Jv items2.length acc2->N acc2
@[irreducible] def QkP(items:List Qa)(wg:DG)(wt:DT)(wi2:DI)(wg2:DG)(wt2:DT)(we:DE)(δ:Sts)(Q:Qa->Prop):Prop:=∃Iv:Nat->List Qa->Prop,Iv 0 [] /\
 (∀(i:Nat) acc d,items[i]? = some d->Iv i acc->wg d δ λδ4=>wt δ4 (λb=>if b=true then wi2 δ4 (λitems2=>InR items2 wg2 wt2 we δ4 acc (Iv (i+1))) XF else Iv (i+1) acc) XF)/\∀acc,Iv items.length acc->Q (.list acc)
def Qoc(cap:List (Option Nat))(wi:DI)(wg:DG)(wt:DT)(wi2:DI)(wg2:DG)(wt2:DT)(we:DE):DE:=λδ Q EX=>wi δ (λitems=>QkP items wg wt wi2 wg2 wt2 we (QeG cap δ) Q) EX
section
variable{X:Cx}{E:XK}
theorem QrA:QrB<=sizeLine:=Jk (by decide) Qlw
end
section
variable{X:Cx}{E:XK}
end
theorem QyG{items2:List Qa}{wg2:DG}{wt2:DT}{we:DE}{δ4:Sts}{acc:List Qa}{N:List Qa->Prop}(G:Qa->Option Qa)(hl:acc.length+items2.length<QrB)
  (h:∀d∈items2,∀(k1:Prop)(k2:Qa->Prop),(G d=none->k1)->(∀e,G d=some e->k2 e)->wg2 d δ4 λδ5=>wt2 δ5 (λb=>if b=true then we δ5 k2 XF else k1) XF)(q:N (acc++items2.filterMap G)) :
  InR items2 wg2 wt2 we δ4 acc N:=by
 unfold InR;refine⟨λi acc2=>acc2=acc++(items2.take i).filterMap G,by simp,λi acc2 d hd e=>?_,λacc2 e=>by rw[e,Zf];exact q⟩;have e:acc2=acc++(items2.take i).filterMap G:=e;have hs:(items2.take (i+1)).filterMap G=(items2.take i).filterMap G++(G d).toList:=by
  rw[Zv,hd,ZB];cases e2:G d<;>simp[e2]
 refine⟨?_,h d (QK hd) _ _ (λe2=>?_) λe' e2=>?_⟩
 ·have:=Qiz G (items2.take i);have h2:(items2.take i).length<=items2.length:=by rw[Jo];exact Qf8 _ _
  rw[e,Qs];omega
 ·show acc2=acc++(items2.take (i+1)).filterMap G;rw[hs,e2,e];simp
 ·show acc2++[e']=acc++(items2.take (i+1)).filterMap G;rw[hs,e2,e];simp
theorem QyF{items2:List Qa}{wg2:DG}{we:DE}{δ4:Sts}{acc:List Qa}{N:List Qa->Prop}(G:Qa->Qa)(hl:acc.length+items2.length<QrB)
  (h:∀d∈items2,∀(k2:Qa->Prop),k2 (G d)->wg2 d δ4 λδ5=>we δ5 k2 XF)(q:N (acc++items2.map G)):InR items2 wg2 QvP we δ4 acc N:=by
 refine QyG (λd=>some (G d)) hl (λd hd k1 k2 _ h2=>?_) (by rw[show items2.filterMap (λd=>some (G d))=items2.map G from by rw[<- List.filterMap_eq_map];rfl];exact q);have hh:=h d hd k2 (h2 _ rfl);simp only[QvP,if_true];exact hh
def QmG:List V->Hp->VK->Prop:=λxs H Q=>∃l ns,xs=[.ref l]/\H l=some (.lst ((ns:List Int).map V.int))/\ns.length<64 /\
 ∀t ms H2,Same H H2->H t=none->H2 t=some (.lst ((ms:List Int).map V.int))->ms.Perm ns->ms.Pairwise (·<=·)->Q (.ref t) H2
section
open Rs PySem.W PySem.Calls
variable{X:Cx}
theorem Qjn:CallR X (.builtin "sorted") QmG:=by
 intro pins s σ H xs us Q I r h;obtain⟨l,ns,rfl,hl,h64,q⟩:=h;obtain⟨u,rfl,ru⟩:=vals1 r;cases ru;obtain⟨hz,its,n,rv,ho⟩:=I.hok l _ hl;have li:=rv.length;rw[Qg] at li;refine Qeh (.inl rfl) ho rfl rfl (by omega) λh' kp P E' hP=>?_
 have hn:(h'.push (seqObj "list" its.toArray 0)).get? h'.objs.size=some (seqObj "list" its.toArray 0):=Qw _ rfl;refine list_sort_tree (s:={ s with heap:=h'.push (seqObj "list" its.toArray 0) }) hn (QgJ rv) (by omega) λout ns' ia pm pw=>hP _ ?_
 have I1:Inv X pins σ H { s with heap:=h' }:=I.kept (t':=s.toks) kp;have hf:H h'.objs.size=none:=I1.hok.fresh (Qj _);obtain⟨e,he⟩:∃e,(sortedHeap (h'.push (seqObj "list" its.toArray 0)) h'.objs.size its out).get? h'.objs.size=some (seqObj "list" out e):=sortedHeap_at hn
 have rv':=Qg2 ia;have lp:=pm.length_eq;have I2:Inv X pins σ (upd H h'.objs.size (.lst (ns'.map V.int))) { s with heap:=sortedHeap (h'.push (seqObj "list" its.toArray 0)) h'.objs.size its out }:=
  I1.laid (t':=s.toks) (λb x e'=>(sortedHeap_old (QH (Qp e')) (QY (Qp e') (by rw[size_push'];exact Qo6 _))).trans (Qe _ e')) (Qj _) (show ObjOk X.prog X.w _ _ _ (.lst _) from⟨by rw[Qg];exact Z5 (Rk.Qce (by omega)),out.toList,e,rv',by rw[he]⟩)
 exact⟨.ref h'.objs.size,_,I2,rfl,q _ ns' _ (JS hf) hf JN pm pw⟩
def QsJ(K:PySem.W.Frag):List V->Hp->VK->Prop:=λxs H Q=>QsI K xs H Q∨QmG xs H Q
theorem QlH:CallR X (.builtin "sorted") (QsJ X.K):=by
 intro pins s σ H xs us Q I r h;rcases h with h | h
 ·exact QlG pins s σ H xs us Q I r h
 ·exact Qjn pins s σ H xs us Q I r h
end
@[irreducible] def Qmt:List Qa->(Qa->Prop)->Prop
 |[.list ds],Q=>∃ns,Qcl ds=some ns/\ns.length<64/\∀ms:List Int,ms.Perm ns->ms.Pairwise (·<=·)->Q (.list (ms.map .int))
 |[.tuple ds],Q=>∃ns,Qcl ds=some ns/\ns.length<64/\∀ms:List Int,ms.Perm ns->ms.Pairwise (·<=·)->Q (.list (ms.map .int))
 |_,_=>False
theorem Qcx{A:Addr->Prop}{H:Hp}:∀ms:List Int,DAs A H (ms.map V.int) (ms.map .int)
 |[]=>.nil
 |m::ms=>.cons (.int m) (Qcx ms)
theorem Qv1{K:PySem.W.Frag}:QcI (QsJ K) Qmt:=λA P H vs ds R Q ln dm q h k=>by
 unfold Qmt at h;split at h
 ·obtain⟨v,rfl,hv⟩:=pd1 q;obtain⟨bs,hb,h64,hR⟩:=h;rw[QgI hb] at hv;obtain⟨l,xs,rfl,e,qq⟩:=hv.list;rw[QbH qq] at e;exact .inr ⟨l,bs,rfl,e,h64,λt ms H2 s n e2 pm pw=>k _ (hR ms pm pw) _ H2 s (Qej dm s n e2 (Qcx ms)) (Qbh n)⟩
 ·obtain⟨v,rfl,hv⟩:=pd1 q;obtain⟨bs,hb,h64,hR⟩:=h;rw[QgI hb] at hv;obtain⟨l,xs,rfl,e,qq⟩:=hv.tuple;rw[QbH qq] at e;exact .inl ⟨l,bs,rfl,SqT.of e,h64,λt ms H2 s n e2 pm pw=>k _ (hR ms pm pw) _ H2 s (Qej dm s n e2 (Qcx ms)) (Qbh n)⟩
 ·exact h.elim
theorem QtN{ds:List Qa}{Q:Qa->Prop}{ns:List Int}(h:Qcl ds=some ns)(h64:ns.length<64)(k:∀ms:List Int,ms.Perm ns->ms.Pairwise (·<=·)->Q (.list (ms.map .int))):Qmt [.list ds] Q/\Qmt [.tuple ds] Q:=by
 unfold Qmt;exact⟨⟨ns,h,h64,k⟩,ns,h,h64,k⟩
end Dl
namespace PySem
namespace AutoSeq1
open PyProof
end AutoSeq1
end PySem
namespace L2
end L2
namespace Dl
open L2 _root_.Rd Rk
section
variable{X:Cx}{E:XK}
end
theorem Qoi{K:PySem.W.Frag}{E:XK}{cap:List (Option Nat)}{ix:List Nat}{wi:DI}{wg:DG}{wt:DT}{we:DE}(hf:Qcj cap ix=true)(σ:L2.St)(H:Hp)(Q:VK)(h:tX .F K E (dComp cap wi wg wt we) σ H Q) :
  tComp cap (tI .P K E wi) (tG ix K wg) (tT K E0 wt) (tX .D K E0 we) σ H Q:=by
 obtain⟨F,δ,R,EX,rel,hw,k,o⟩:=h;refine⟨F,δ,_,EX,rel,hw,λitems hC J H1 rel1 kp1 ⟨ln,it⟩ p hp=>?_,o⟩;unfold Qg4 at hC;obtain⟨Iv,i0,step,fin⟩:=hC;have hpn:¬Yn σ δ p:=λz=>by obtain⟨xs,e⟩:=rel1.isl (Qaq (F:=F) z);rw[hp] at e;cases e
 let A1:Addr->Prop:=λa=>Av F σ δ a∨a=p
 have hP:∀a,Yn σ δ a->A1 a:=λa z=>.inl (Qaq z)
 have hN:∀a,A1 a->Av F σ δ a∨H1 a=none:=λa z=>z.elim .inl λz=>.inr (by rw[z];exact hp)
 have dmK:∀{H2:Hp},Kp σ δ H1 H2->(∃ys,H2 p=some (.lst ys))->∀a,A1 a->∃xs,H2 a=some (.lst xs):=λ{H2} k2 e2 a z=>by
  rcases z with z | z
  ·exact(rel1.kp k2).isl z
  ·rw[z];exact e2
 refine Qd1 items.length (λi H2=>i<=items.length/\∃acc,Iv i acc/\acc.length<=i/\Lp σ δ A1 p H1 H2 acc) ⟨Qt _,[],i0,Qj _,Kp.same rel1 (JS hp),[],JN,.nil⟩ (λi H2 hi ⟨_,acc,iv,hl,lp⟩=>?_) λH2 ⟨_,acc,iv,hl,lp⟩=>?_
 ·obtain⟨k2,ys,e2,q2⟩:=lp;obtain⟨go,_⟩:=it H2 A1 (λb o n e=>k2.1 b o n e) hN (dmK k2 ⟨ys,e2⟩);have hd:items[i]? = some items[i]:=Qf hi;obtain⟨g1,g2⟩:=go i _ hd;refine⟨g1,λx H3 y kk hk=>?_⟩;obtain⟨s3,dx⟩:=g2 x H3 y;have k23:=Kp.same (rel1.kp k2) s3;have lp3:Lp σ δ A1 p H1 H3 acc:=Lp.step hP hpn ⟨k2,ys,e2,q2⟩ k23;refine Qmd hf rel1 (λa z=>.inl z) hN (dmK lp3.kp ⟨ys,s3 _ _ e2⟩) lp3.kp dx (step i acc _ hd iv) (λσ4 δ4 H5 h5 r5 k5 pots=>?_) λh5 H5 k5=>hk _ ⟨hi,acc,h5,by omega,lp3.step hP hpn k5⟩
  exact Qs2 (.inr rfl) hP hp hpn (lp3.step hP hpn k5) (by omega) r5 pots h5 λe he H' lp'=>hk _ ⟨hi,acc++[e],he,by rw[Qs];show _+1<=_;omega,lp'⟩
 ·obtain⟨k2,ys,e2,q2⟩:=lp;obtain⟨_,st⟩:=it H2 A1 (λb o n e=>k2.1 b o n e) hN (dmK k2 ⟨ys,e2⟩);refine⟨st,k _ (fin acc iv) (.ref p) H2 (rel1.kp k2) (kp1.trans k2) ⟨.lst (λz=>?_) e2 (q2.mv (λ_ _ _ e=>e) λa z=>.inl (.inl z)),λl e1 _=>?_⟩⟩
  ·obtain⟨xs,e⟩:=rel1.isl z;rw[hp] at e;cases e
  ·cases e1;exact Qcf kp1 hp
theorem QB0{K:PySem.W.Frag}{E:XK}{w:DE}(σ:L2.St)(H:Hp)(Q:VK)(h:tX .D K E w σ H Q):tX .F K E w σ H Q:=by
 obtain⟨F,δ,R,EX,rel,hw,k,o⟩:=h;exact⟨F,δ,R,EX,rel,hw,λd hd v H' r kp vk=>k d hd v H' r kp vk.1,o⟩
section
variable{X:Cx}{E:XK}
theorem QiY(M:List Str)(cap:List (Option Nat))(i:Nat){elt tg iter:Q2}{ifs:List Q2}{scope:Y8}{pos py spos:Pos}{y:Str}{ix:List Nat}{wi:DI}{wg:DG}{wt:DT}{we:DE}(hN:X.N.Nodup)(hi:QI .P X E tg iter wi)(hb:∀cl ex s3 H3 C,QG ix (blk X M scope cl ex s3 H3 C) tg wg/\QTs (blk X M scope cl ex s3 H3 C) E0 ifs wt/\QE .D (blk X M scope cl ex s3 H3 C) E0 elt we)(hiy:X.N[i]? = some y:=by rfl)(hly:X.env.scope.names.lookup y=some .local:=by rfl)(hc:X.calm=true:=by rfl)(ok:Qff X.N X.env.scope M scope cap=true:=by rfl)(hf:Qcj cap ix=true:=by rfl)(hs:∀x,foldedSetIterable iter X.env x=pure x:=by intro _;rfl)(hsw:swapsWith (.ListComp elt [⟨tg,iter,ifs,0⟩] scope pos) (some (.Name y py)) spos.line X.env=pure true:=by rfl):QS X E (.Assign [.Name y py] (.ListComp elt [⟨tg,iter,ifs,0⟩] scope pos) spos) (QzN i (dComp cap wi wg wt we)):=
 ⟨Qi2 (PS.imp (PS.imp (QpL hN hiy hly hc ok hi.h (λcl ex s3 H3 C=>⟨(hb cl ex s3 H3 C).1.h,(hb cl ex s3 H3 C).2.1.h,(hb cl ex s3 H3 C).2.2.h⟩) hs hsw) λD σ H q=>Qoi (E:=E) hf σ H _ q) λD σ H q=>QB0 σ H _ q)⟩
end
theorem QfW{K:PySem.W.Frag}{E:XK}{cap:List (Option Nat)}{ix ix2:List Nat}{wi wi2:DI}{wg wg2:DG}{wt wt2:DT}{we:DE}(gok:GOk wg)(hf:Qcj cap ix=true)(hf2:Qcj cap ix2=true)(hd:ix2.all (λi => !ix.contains i)=true)(σ:L2.St)(H:Hp)(Q:VK)(h:tX .F K E (Qoc cap wi wg wt wi2 wg2 wt2 we) σ H Q) :
  Qsz cap (tI .P K E wi) (tG ix K wg) (tT K E0 wt) (tI .D K E0 wi2) (tG ix2 K wg2) (tT K E0 wt2) (tX .D K E0 we) σ H Q:=by
 obtain⟨F,δ,R,EX,rel,hw,k,o⟩:=h;refine⟨F,δ,_,EX,rel,hw,λitems hC J H1 rel1 kp1 ⟨ln,it⟩ p hp=>?_,o⟩;unfold QkP at hC;obtain⟨Iv,i0,step,fin⟩:=hC;have hpn:¬Yn σ δ p:=λz=>by obtain⟨xs,e⟩:=rel1.isl (Qaq (F:=F) z);rw[hp] at e;cases e
 let A1:Addr->Prop:=λa=>Av F σ δ a∨a=p
 have hP:∀a,Yn σ δ a->A1 a:=λa z=>.inl (Qaq z)
 have hN:∀a,A1 a->Av F σ δ a∨H1 a=none:=λa z=>z.elim .inl λz=>.inr (by rw[z];exact hp)
 have dmK:∀{H2:Hp},Kp σ δ H1 H2->(∃ys,H2 p=some (.lst ys))->∀a,A1 a->∃xs,H2 a=some (.lst xs):=λ{H2} k2 e2 a z=>by
  rcases z with z | z
  ·exact(rel1.kp k2).isl z
  ·rw[z];exact e2
 refine Qd1 items.length (λi H2=>i<=items.length/\∃acc,Iv i acc/\Lp σ δ A1 p H1 H2 acc) ⟨Qt _,[],i0,Kp.same rel1 (JS hp),[],JN,.nil⟩ (λi H2 hi ⟨_,acc,iv,lp⟩=>?_) λH2 ⟨_,acc,iv,lp⟩=>?_
 ·obtain⟨k2,ys,e2,q2⟩:=lp;obtain⟨go,_⟩:=it H2 A1 (λb o n e=>k2.1 b o n e) hN (dmK k2 ⟨ys,e2⟩);have hd':items[i]? = some items[i]:=Qf hi;obtain⟨g1,g2⟩:=go i _ hd';refine⟨g1,λx H3 y kk hk=>?_⟩;obtain⟨s3,dx⟩:=g2 x H3 y;have k23:=Kp.same (rel1.kp k2) s3;have lp3:Lp σ δ A1 p H1 H3 acc:=Lp.step hP hpn ⟨k2,ys,e2,q2⟩ k23;refine Qph gok hf rel1 (λa z=>.inl z) hN (dmK lp3.kp ⟨ys,s3 _ _ e2⟩) lp3.kp dx (step i acc _ hd' iv) (λσ4 δ4 H5 h5 r5 k5 j4 l4 g4=>?_) λh5 H5 k5=>hk _ ⟨hi,acc,h5,lp3.step hP hpn k5⟩
  have av4:∀{H:Hp}{a:Addr},Av (inF A1 cap σ δ H) σ4 δ4 a->A1 a:=λ{H a} z=>QsY hP hf j4 g4 z
  refine⟨inF A1 cap σ δ H3,δ4,_,XF,r5,h5,λitems2 hJ J2 H7 rel7 kp7 ⟨ln2,it2⟩=>?_,QsQ⟩;unfold InR at hJ;obtain⟨Jv,z0,step2,fin2⟩:=hJ;have pots4:∀{b:Addr},Yn σ4 δ4 b->Yn σ δ b:=λ{b} z=>by
   obtain⟨j,z1,z2⟩:=z;rcases g4 j _ z2 with⟨e,z⟩ | z
   ·cases z
   ·exact QcW ⟨j,by rw[<- j4 j (QeD hf z (λz=>by cases z))];exact z1,z⟩
  have k57:Kp σ δ H5 H7:=by
   refine⟨λb o n e=>kp7.1 b o (λz=>n (pots4 z)) e,λb hb=>?_⟩;by_cases z:Yn σ4 δ4 b
   ·exact kp7.2 b z
   ·obtain⟨n,e⟩:=k5.2 b hb;exact⟨n,kp7.1 _ _ z e⟩
  refine Qd1 items2.length (λj H8=>j<=items2.length/\∃acc2,Jv j acc2/\Lp σ δ A1 p H1 H8 acc2/\∀b o,¬A1 b->H7 b=some o->H8 b=some o) ⟨Qt _,acc,z0,(lp3.step hP hpn k5).step hP hpn k57,λ_ _ _ e=>e⟩ (λj H8 hj ⟨_,acc2,jv,lp8,s78⟩=>?_) λH8 ⟨_,acc2,jv,lp8,s78⟩=>?_
  ·obtain⟨ys8,e8,q8⟩:=lp8.at_;obtain⟨go2,_⟩:=it2 H8 A1 (λb o n e=>s78 b o (λz=>n (.inl z)) e) (λb z=>.inl (.inl z)) (dmK lp8.kp ⟨ys8,e8⟩);have hd2:items2[j]? = some items2[j]:=Qf hj;obtain⟨g3,g5⟩:=go2 j _ hd2;refine⟨g3,λx2 H9 y2 kk2 hk2=>?_⟩;obtain⟨s9,dx2⟩:=g5 x2 H9 y2;have k89:=Kp.same (rel1.kp lp8.kp) s9;have lp9:Lp σ δ A1 p H1 H9 acc2:=lp8.step hP hpn k89;have ri:=QnG (cap:=cap) rel1 (λa z=>.inl z) hN (dmK lp9.kp ⟨ys8,s9 _ _ e8⟩) lp9.kp;have r9:=Qvx hP hf j4 g4 ri r5 λa o n e=>s9 _ _ (s78 a o n (k57.1 a o (λz=>n (hP a z)) e))
   obtain⟨hl2,hw2⟩:=step2 j acc2 _ hd2 jv;refine⟨inF A1 cap σ δ H9,δ4,_,_,r9,dx2.mv (λ_ _ _ e=>e) λa z=>.inl (av4 z),hw2,λδ5 h6 σ5 r10 st5 l5 j5=>⟨Qpe l5 λi v e=>?_,inF A1 cap σ δ H9,δ5,_,XF,r10,h6,λb hb H10 r11 kp11=>?_,QsQ⟩⟩
   ·by_cases z:i∈ix2
    ·have n1:i∉ix:=λz2=>by
      have:=Zg.mp hd i z;simp[z2] at this
     rw[j4 i n1] at e;rcases QgV e with⟨_,e2⟩ | ⟨j,hj2,_⟩
     ·cases e2
     ·rw[QnU hf2 z] at hj2;cases hj2
    ·rw[j5 i z];exact e
   ·have pots:∀{b:Addr},Yn σ5 δ5 b->Yn σ δ b:=λz=>Qjf r10 (λb o _ e1 e2=>by rw[e2] at e1;cases e1) z
    have K10:Kp σ δ H9 H10:=by
     refine⟨λb o n e=>kp11.1 b o (λz=>n (pots z)) e,λb hb=>?_⟩;by_cases z:Yn σ5 δ5 b
     ·exact kp11.2 b z
     ·obtain⟨n,e⟩:=lp9.kp.2 b hb;exact⟨n,kp11.1 _ _ z e⟩
    have s710:∀b o,¬A1 b->H7 b=some o->H10 b=some o:=λb o n e=>K10.1 b o (λz=>n (hP b z)) (s9 _ _ (s78 b o n e))
    refine Qdq hb (λz=>?_) λz=>hk2 _ ⟨hj,acc2,z,lp9.step hP hpn K10,s710⟩
    exact QvL (.inr rfl) hP hp hpn (lp9.step hP hpn K10) (QY hl2 QrA) r11 (λb=>pots) z λe he H' lp' kk'=>hk2 _ ⟨hj,acc2++[e],he,lp',λb o n e=>kk' b o n (s710 b o n e)⟩
  ·obtain⟨ys8,e8,q8⟩:=lp8.at_;obtain⟨_,st2⟩:=it2 H8 A1 (λb o n e=>s78 b o (λz=>n (.inl z)) e) (λb z=>.inl (.inl z)) (dmK lp8.kp ⟨ys8,e8⟩);exact⟨st2,hk _ ⟨hi,acc2,fin2 acc2 jv,lp8⟩⟩
 ·obtain⟨k2,ys,e2,q2⟩:=lp;obtain⟨_,st⟩:=it H2 A1 (λb o n e=>k2.1 b o n e) hN (dmK k2 ⟨ys,e2⟩);refine⟨st,k _ (fin acc iv) (.ref p) H2 (rel1.kp k2) (kp1.trans k2) ⟨.lst (λz=>?_) e2 (q2.mv (λ_ _ _ e=>e) λa z=>.inl (.inl z)),λl e1 _=>?_⟩⟩
  ·obtain⟨xs,e⟩:=rel1.isl z;rw[hp] at e;cases e
  ·cases e1;exact Qcf kp1 hp
section
variable{X:Cx}{E:XK}
theorem QmI(M:List Str)(cap:List (Option Nat))(i:Nat){elt tg iter tg2 iter2:Q2}{ifs ifs2:List Q2}{scope:Y8}{pos py spos:Pos}{y:Str}{ix ix2:List Nat}{wi wi2:DI}{wg wg2:DG}{wt wt2:DT}{we:DE}(hN:X.N.Nodup)(gok:GOk wg)(hi:QI .P X E tg iter wi)(hb:∀cl ex s3 H3 C,QG ix (blk X M scope cl ex s3 H3 C) tg wg/\QTs (blk X M scope cl ex s3 H3 C) E0 ifs wt/\QI .D (blk X M scope cl ex s3 H3 C) E0 tg2 iter2 wi2/\QG ix2 (blk X M scope cl ex s3 H3 C) tg2 wg2/\QTs (blk X M scope cl ex s3 H3 C) E0 ifs2 wt2/\QE .D (blk X M scope cl ex s3 H3 C) E0 elt we)(hiy:X.N[i]? = some y:=by rfl)(hly:X.env.scope.names.lookup y=some .local:=by rfl)(hc:X.calm=true:=by rfl)(ok:Qff X.N X.env.scope M scope cap=true:=by rfl)(hf:Qcj cap ix=true:=by rfl)(hf2:Qcj cap ix2=true:=by rfl)(hd:ix2.all (λi => !ix.contains i)=true:=by rfl)(hs:∀x,foldedSetIterable iter X.env x=pure x:=by intro _;rfl)(hs2:∀env x,foldedSetIterable iter2 env x=pure x:=by intro _ _;rfl)(hsw:swapsWith (.ListComp elt [⟨tg,iter,ifs,0⟩,⟨tg2,iter2,ifs2,0⟩] scope pos) (some (.Name y py)) spos.line X.env=pure true:=by rfl):QS X E (.Assign [.Name y py] (.ListComp elt [⟨tg,iter,ifs,0⟩,⟨tg2,iter2,ifs2,0⟩] scope pos) spos) (QvN i (Qoc cap wi wg wt wi2 wg2 wt2 we)):=
 ⟨Qj5 (PS.imp (QhH hN hiy hly hc ok hi.h (λcl ex s3 H3 C=>⟨(hb cl ex s3 H3 C).1.h,(hb cl ex s3 H3 C).2.1.h,(hb cl ex s3 H3 C).2.2.1.h,(hb cl ex s3 H3 C).2.2.2.1.h,(hb cl ex s3 H3 C).2.2.2.2.1.h,(hb cl ex s3 H3 C).2.2.2.2.2.h⟩) hs hs2 hsw) λD σ H q=>QfW (E:=E) gok hf hf2 hd σ H _ q)⟩
theorem QpH(M:List Str)(cap:List (Option Nat))(i:Nat){elt tg iter tg2 iter2:Q2}{ifs ifs2:List Q2}{scope:Y8}{pos py spos:Pos}{y:Str}{ix ix2:List Nat}{wi wi2:DI}{wg wg2:DG}{wt wt2:DT}{we:DE}(hN:X.N.Nodup)(gok:GOk wg)(hi:QI .P X E tg iter wi)(hb:∀cl ex s3 H3 C,QG ix (blk X M scope cl ex s3 H3 C) tg wg/\QTs (blk X M scope cl ex s3 H3 C) E0 ifs wt/\QI .D (blk X M scope cl ex s3 H3 C) E0 tg2 iter2 wi2/\QG ix2 (blk X M scope cl ex s3 H3 C) tg2 wg2/\QTs (blk X M scope cl ex s3 H3 C) E0 ifs2 wt2/\QE .D (blk X M scope cl ex s3 H3 C) E0 elt we)(hiy:X.N[i]? = some y:=by rfl)(hly:X.env.scope.names.lookup y=some .local:=by rfl)(hc:X.calm=true:=by rfl)(ok:Qff X.N X.env.scope M scope cap=true:=by rfl)(hf:Qcj cap ix=true:=by rfl)(hf2:Qcj cap ix2=true:=by rfl)(hd:ix2.all (λi => !ix.contains i)=true:=by rfl)(hs:∀x,foldedSetIterable iter X.env x=pure x:=by intro _;rfl)(hs2:∀env x,foldedSetIterable iter2 env x=pure x:=by intro _ _;rfl)(hsw:swapsWith (.ListComp elt [⟨tg,iter,ifs,0⟩,⟨tg2,iter2,ifs2,0⟩] scope pos) (some (.Name y py)) spos.line X.env=pure true:=by rfl):QS X E (.Assign [.Name y py] (.ListComp elt [⟨tg,iter,ifs,0⟩,⟨tg2,iter2,ifs2,0⟩] scope pos) spos) (QzN i (Qoc cap wi wg wt wi2 wg2 wt2 we)):=
 ⟨Qi2 (PS.imp (PS.imp (QhH hN hiy hly hc ok hi.h (λcl ex s3 H3 C=>⟨(hb cl ex s3 H3 C).1.h,(hb cl ex s3 H3 C).2.1.h,(hb cl ex s3 H3 C).2.2.1.h,(hb cl ex s3 H3 C).2.2.2.1.h,(hb cl ex s3 H3 C).2.2.2.2.1.h,(hb cl ex s3 H3 C).2.2.2.2.2.h⟩) hs hs2 hsw) λD σ H q=>QfW (E:=E) gok hf hf2 hd σ H _ q) λD σ H q=>QB0 σ H _ q)⟩
end
theorem Qng(L:List (Int×Int)):nds (L.map Rk.pairD)=true:=Qnh.mpr λd hd=>by
 obtain⟨i,_,rfl⟩:=Qx.mp hd;rfl
def rkD:Qa->Nat
 |.int _=>0
 |.tuple _=>1
 |_=>2
def Qh8(i j:Int):Ordering:=if i<j then .lt else if i=j then .eq else .gt
def QCN(i j:Nat):Ordering:=if i<j then .lt else if i=j then .eq else .gt
def thn(o:Ordering)(p:Ordering):Ordering:=match o with
 |.eq=>p
 |o=>o
mutual
def QcU:Qa->Qa->Ordering
 |.int i,.int j=>Qh8 i j
 |.tuple a,.tuple b=>Qa1 a b
 |x,y=>QCN (rkD x) (rkD y)
def Qa1:List Qa->List Qa->Ordering
 |[],[]=>.eq
 |[],_::_=>.lt
 |_::_,[]=>.gt
 |x::xs,y::ys=>thn (QcU x y) (Qa1 xs ys)
end
def isL:Ordering->Bool
 |.lt=>true
 |_=>false
def ltD(x y:Qa):Bool:=isL (QcU x y)
def Qvk(x y:List Qa):Bool:=isL (Qa1 x y)
def sw:Ordering->Ordering
 |.lt=>.gt
 |.gt=>.lt
 |.eq=>.eq
def Qfu:Ordering->Bool
 |.gt=>false
 |_=>true
theorem QwX(a b:Ordering):sw (thn a b)=thn (sw a) (sw b):=by cases a<;>rfl
theorem QvW(i j:Int):Qh8 j i=sw (Qh8 i j):=by
 unfold Qh8;by_cases h:i<j
 ·rw[if_neg (by omega),if_neg (by omega),if_pos h];rfl
 ·by_cases h2:i=j
  ·rw[if_neg (by omega),if_pos h2.symm,if_neg h,if_pos h2];rfl
  ·rw[if_pos (by omega),if_neg h,if_neg h2];rfl
theorem QvX(i j:Int):Qfu (Qh8 i j)=decide (i<=j):=by
 unfold Qh8;by_cases h:i<j
 ·rw[if_pos h];exact(decide_eq_true (by omega)).symm
 ·by_cases h2:i=j
  ·rw[if_neg h,if_pos h2];exact(decide_eq_true (by omega)).symm
  ·rw[if_neg h,if_neg h2];exact(decide_eq_false (by omega)).symm
mutual
theorem Qd6:∀(x y:Qa),QcU y x=sw (QcU x y)
 |.int i,.int j=>QvW i j
 |.tuple a,.tuple b=>QkH a b
 |.int _,.tuple _=>rfl
 |.tuple _,.int _=>rfl
 |.int _,.none=>rfl
 |.int _,.bool _=>rfl
 |.int _,.str _=>rfl
 |.int _,.list _=>rfl
 |.int _,.dict _=>rfl
 |.tuple _,.none=>rfl
 |.tuple _,.bool _=>rfl
 |.tuple _,.str _=>rfl
 |.tuple _,.list _=>rfl
 |.tuple _,.dict _=>rfl
 |.none,y=>by cases y<;>rfl
 |.bool _,y=>by cases y<;>rfl
 |.str _,y=>by cases y<;>rfl
 |.list _,y=>by cases y<;>rfl
 |.dict _,y=>by cases y<;>rfl
theorem QkH:∀(xs ys:List Qa),Qa1 ys xs=sw (Qa1 xs ys)
 |[],[]=>rfl
 |[],_::_=>rfl
 |_::_,[]=>rfl
 |x::xs,y::ys=>by
  show thn (QcU y x) (Qa1 ys xs)=sw (thn (QcU x y) (Qa1 xs ys));rw[Qd6 x y,QkH xs ys,QwX]
end
theorem Qyu{a c:Ordering}(hab:Qfu a=true)(h:Qfu (sw c)=true->Qfu (sw a)=true)(ha:a=.lt):c=.lt:=by
 subst ha;cases c with
 |lt=>rfl
 |eq=>cases h rfl
 |gt=>cases h rfl
mutual
theorem QgS:∀(x y z:Qa),Qfu (QcU x y)=true->Qfu (QcU y z)=true->Qfu (QcU x z)=true
 |.int i,.int j,.int k,h1,h2=>by
  have h1:Qfu (Qh8 i j)=true:=h1;have h2:Qfu (Qh8 j k)=true:=h2;show Qfu (Qh8 i k)=true;rw[QvX] at h1 h2 ⊢;have a:=of_decide_eq_true h1;have b:=of_decide_eq_true h2;exact decide_eq_true (by omega)
 |.tuple a,.tuple b,.tuple c,h1,h2=>QkG a b c h1 h2
 |.int _,y,.tuple _,h1,h2=>rfl
 |.int _,.tuple _,.int _,h1,h2=>by cases h2
 |.tuple _,.int _,z,h1,h2=>by cases h1
 |.tuple _,.tuple _,.int _,h1,h2=>by cases h2
 |.int _,y,.none,_,_=>rfl
 |.int _,y,.bool _,_,_=>rfl
 |.int _,y,.str _,_,_=>rfl
 |.int _,y,.list _,_,_=>rfl
 |.int _,y,.dict _,_,_=>rfl
 |.tuple _,y,.none,_,_=>rfl
 |.tuple _,y,.bool _,_,_=>rfl
 |.tuple _,y,.str _,_,_=>rfl
 |.tuple _,y,.list _,_,_=>rfl
 |.tuple _,y,.dict _,_,_=>rfl
 |.int _,.none,.int _,h1,h2=>by cases h2
 |.int _,.bool _,.int _,h1,h2=>by cases h2
 |.int _,.str _,.int _,h1,h2=>by cases h2
 |.int _,.list _,.int _,h1,h2=>by cases h2
 |.int _,.dict _,.int _,h1,h2=>by cases h2
 |.tuple _,.none,.int _,h1,h2=>by cases h2
 |.tuple _,.bool _,.int _,h1,h2=>by cases h2
 |.tuple _,.str _,.int _,h1,h2=>by cases h2
 |.tuple _,.list _,.int _,h1,h2=>by cases h2
 |.tuple _,.dict _,.int _,h1,h2=>by cases h2
 |.tuple _,.none,.tuple _,h1,h2=>by cases h2
 |.tuple _,.bool _,.tuple _,h1,h2=>by cases h2
 |.tuple _,.str _,.tuple _,h1,h2=>by cases h2
 |.tuple _,.list _,.tuple _,h1,h2=>by cases h2
 |.tuple _,.dict _,.tuple _,h1,h2=>by cases h2
 |.none,y,z,h1,h2=>by cases y<;>cases z<;>first | rfl | (cases h1;done) | (cases h2;done)
 |.bool _,y,z,h1,h2=>by cases y<;>cases z<;>first | rfl | (cases h1;done) | (cases h2;done)
 |.str _,y,z,h1,h2=>by cases y<;>cases z<;>first | rfl | (cases h1;done) | (cases h2;done)
 |.list _,y,z,h1,h2=>by cases y<;>cases z<;>first | rfl | (cases h1;done) | (cases h2;done)
 |.dict _,y,z,h1,h2=>by cases y<;>cases z<;>first | rfl | (cases h1;done) | (cases h2;done)
 termination_by x y z=>sizeOf x+sizeOf y+sizeOf z
theorem QkG:∀(xs ys zs:List Qa),Qfu (Qa1 xs ys)=true->Qfu (Qa1 ys zs)=true->Qfu (Qa1 xs zs)=true
 |[],_,[],_,_=>rfl
 |[],_,_::_,_,_=>rfl
 |_::_,[],_,h1,_=>by cases h1
 |_::_,_::_,[],_,h2=>by cases h2
 |x::xs,y::ys,z::zs,h1,h2=>by
  have h1:Qfu (thn (QcU x y) (Qa1 xs ys))=true:=h1;have h2:Qfu (thn (QcU y z) (Qa1 ys zs))=true:=h2;show Qfu (thn (QcU x z) (Qa1 xs zs))=true;have a1:Qfu (QcU x y)=true:=by cases e:QcU x y<;>rw[e] at h1<;>first | rfl | cases h1
  have a2:Qfu (QcU y z)=true:=by cases e:QcU y z<;>rw[e] at h2<;>first | rfl | cases h2
  have a3:=QgS x y z a1 a2;cases e1:QcU x y with
  |gt=>rw[e1] at a1;cases a1
  |lt=>
   have:QcU x z=.lt:=Qyu (a:=QcU x y) a1 (λq=>by
    rw[<- Qd6 x z] at q;rw[<- Qd6 x y];exact QgS y z x a2 q) e1
   rw[this];rfl
  |eq=>
   cases e2:QcU y z with
   |gt=>rw[e2] at a2;cases a2
   |lt=>
    have:QcU x z=.lt:=Qyu (a:=QcU y z) a2 (λq=>by
     rw[<- Qd6 x z] at q;rw[<- Qd6 y z];exact QgS z x y q a1) e2
    rw[this];rfl
   |eq=>
    rw[e1] at h1;rw[e2] at h2;cases e3:QcU x z with
    |gt=>rw[e3] at a3;cases a3
    |lt=>rfl
    |eq=>exact QkG xs ys zs h1 h2
 termination_by x y z=>sizeOf x+sizeOf y+sizeOf z
end
theorem QyD(o:Ordering):isL (sw o) = !Qfu o:=by cases o<;>rfl
theorem Qnr(x y:Qa):ltD y x = !Qfu (QcU x y):=by unfold ltD;rw[Qd6 x y,QyD]
theorem Qrz(x y:Qa)(h:ltD x y=true):ltD y x=false:=by
 rw[Qnr];unfold ltD at h;cases e:QcU x y<;>rw[e] at h<;>first | rfl | cases h
theorem Qys(x y z:Qa)(h1:ltD y x=false)(h2:ltD z y=false):ltD z x=false:=by
 rw[Qnr] at h1 h2 ⊢;rw[QgS x y z (by simpa using h1) (by simpa using h2)];rfl
mutual
def QlR:Qa->Qa->Bool
 |.int _,.int _=>true
 |.tuple a,.tuple b=>Qdt a b
 |_,_=>false
def Qdt:List Qa->List Qa->Bool
 |x::xs,y::ys=>QlR x y&&Qdt xs ys
 |_,_=>true
end
def isE:Ordering->Bool
 |.eq=>true
 |_=>false
theorem Qvu(a b:Ordering):isE (thn a b)=(isE a&&isE b):=by cases a<;>rfl
mutual
theorem Qn1:∀(x y:Qa),QlR x y=true->QL x y=isE (QcU x y)
 |.int i,.int j,_=>by
  show(i == j)=isE (Qh8 i j);unfold Qh8;by_cases h:i=j
  ·subst h;simp[isE]
  ·rw[beq_eq_false_iff_ne.mpr h];split
   ·rfl
   ·rfl
 |.tuple a,.tuple b,h=>QnZ a b h
 |.int _,.tuple _,h=>by cases h
 |.tuple _,.int _,h=>by cases h
 |.int _,.none,h=>by cases h
 |.int _,.bool _,h=>by cases h
 |.int _,.str _,h=>by cases h
 |.int _,.list _,h=>by cases h
 |.int _,.dict _,h=>by cases h
 |.tuple _,.none,h=>by cases h
 |.tuple _,.bool _,h=>by cases h
 |.tuple _,.str _,h=>by cases h
 |.tuple _,.list _,h=>by cases h
 |.tuple _,.dict _,h=>by cases h
 |.none,y,h=>by cases y<;>cases h
 |.bool _,y,h=>by cases y<;>cases h
 |.str _,y,h=>by cases y<;>cases h
 |.list _,y,h=>by cases y<;>cases h
 |.dict _,y,h=>by cases y<;>cases h
theorem QnZ:∀(xs ys:List Qa),Qdt xs ys=true->Qd9 xs ys=isE (Qa1 xs ys)
 |[],[],_=>rfl
 |[],_::_,_=>rfl
 |_::_,[],_=>rfl
 |x::xs,y::ys,h=>by
  have h:=Qy.mp (show(QlR x y&&Qdt xs ys)=true from h);show(QL x y&&Qd9 xs ys)=isE (thn (QcU x y) (Qa1 xs ys));rw[Qn1 x y h.1,QnZ xs ys h.2,Qvu]
end
end Dl
namespace Rt
open PySem.Calls Dl
theorem Qe9:∀{ds:List Qa}{d:Qa},d∈ds->d.depth<=QX ds
 |x::ds,d,h=>by
  show d.depth<=max x.depth (QX ds);rcases Qr.mp h with z | z
  ·subst z;exact Nat.le_max_left _ _
  ·exact Jk (Qe9 z) (Qf9 _ _)
theorem readsAll_len{h:Heap}:∀{vs:List Value}{ds:List Qa}{as:List Addr},YA h vs ds as->vs.length=ds.length
 |_,_,_,.nil=>rfl
 |_,_,_,.cons _ r=>by rw[Qv,Qv,readsAll_len r]
section
open PySem.SeqAt
open PySem.AutoSeq1 (wpAny_loadPart')
open PySem.MeetsSeq PySem.MeetsSeq2 PySem.MeetsSeq3
theorem Qeg{l b:Addr}{items items2:Array Value}{n n2:Nat}{dd dd2:Option Addr}{sl sl2:Array (Option Value)}{ds es:List Qa}{as bs:List Addr}{N:Nat}(hk:Qdt ds es=true)(hc1:Ja ds=true)(hc2:Ja es=true)(hd:QX ds<=N)
  (ih:∀(x y:Qa)(A:Je)(s:Shared)(v u:Value)(p q:List Addr),Qbn s.heap v x p->Qbn s.heap u y q->x.canLay0=true->y.canLay0=true->QlR x y=true->x.depth<=N->A.units+2*N+2<cLine->∀(prog:QD)(w:Jl)(E Q:Value->Shared->Prop),Q (.bool (ltD x y)) s->wpAny (model prog w) A (richCompare .Lt v u) Q E s) :
  Meets (Qaa.«tuple.__lt__» ⟨[.ref l,.ref b],[]⟩)
   (λA R s=>s.heap.get? l=some { cls:=.type "tuple",dict:=dd,data:=.seq items n,slots:=sl }/\s.heap.get? b=some { cls:=.type "tuple",dict:=dd2,data:=.seq items2 n2,slots:=sl2 }/\YA s.heap items.toList ds as/\YA s.heap items2.toList es bs/\A.units+2*N+4<cLine /\
    R (.ok (.ret (.bool (Qvk ds es)))) s):=
 .of_wp λprog w A R s h=>by
  obtain⟨hp,g,d,tk,os⟩:=s;obtain⟨hl,hb,hr1,hr2,hu,h⟩:=h;have f2:=AutoSeq1.sub_tuple_tuple;have hu1:A.in1.units+2*N+2<cLine:=by show A.units+1+2*N+2<cLine;omega
  have z1:items.size=ds.length:=by rw[<- readsAll_len hr1];simp
  have z2:items2.size=es.length:=by rw[<- readsAll_len hr2];simp
  wp_walk using QaI hl,QaI hb,Qdx _ (λrest b s'=>b.1=none/\s'=⟨hp,g,d,tk,os⟩/\∃(vs ws:List Value)(xs ys:List Qa)(p q:List Addr),rest=vs.zip ws /\
   YA hp vs xs p/\YA hp ws ys q/\Qdt xs ys=true/\Ja xs=true/\Ja ys=true/\QX xs<=N/\xs.length+items2.size=ys.length+items.size/\R (.ok (.ret (.bool (Qvk xs ys)))) ⟨hp,g,d,tk,os⟩) _
  case turn=>
   rintro⟨y,x⟩ rest b s' ⟨hb',rfl,vs,ws,xs,ys,p,q,hz,hvi,hwi,hkk,c1,c2,hdd,hlen,hR⟩;cases hvi with
   |nil=>rw[List.zip_nil_left] at hz;cases hz
   |@cons v0 vs0 d1 ds1 as1 as2 r1 hvi'=>
    cases hwi with
    |nil=>rw[List.zip_nil_right] at hz;cases hz
    |@cons u0 us0 d2 ds2 bs1 bs2 r2 hwi'=>
     rw[Qeu] at hz;injection hz with hyx hrest
     injection hyx with hy hx
     subst hy hx;have hkk:=Qy.mp (show(QlR d1 d2&&Qdt ds1 ds2)=true from hkk);simp only[Ja,JR] at c1 c2;have dm1:d1.depth<=N:=Jk (Qe9 (ds:=d1::ds1) (.head _)) hdd;have dm2:QX ds1<=N:=Jk (show QX ds1<=max d1.depth (QX ds1) from Qf9 _ _) hdd;simp only[Qv] at hlen;have he:=Qfk d1 d2 A.in1 ⟨hp,g,d,tk,os⟩ y x _ _ r1 r2 c1.1 c2.1 (by omega);have hR:R (.ok (.ret (.bool (isL (thn (QcU d1 d2) (Qa1 ds1 ds2)))))) ⟨hp,g,d,tk,os⟩:=hR;rw[Qn1 d1 d2 hkk.1] at he;have hri:=λE Q=>ih d1 d2 A.in1 ⟨hp,g,d,tk,os⟩ y x _ _ r1 r2 c1.1 c2.1 hkk.1 dm1 hu1 prog w E Q
     unfold ltD at hri;cases e1:QcU d1 d2 with
     |lt=>
      rw[e1] at he hR hri;refine wpAny_bind (he prog w _ _ ?_)
      wp_walk using hri
      exact⟨_,rfl,hR⟩
     |gt=>
      rw[e1] at he hR hri;refine wpAny_bind (he prog w _ _ ?_)
      wp_walk using hri
      exact⟨_,rfl,hR⟩
     |eq=>
      rw[e1] at he hR;refine wpAny_bind (he prog w _ _ ?_)
      wp_walk
      exact⟨rfl,rfl,_,_,_,_,_,_,hrest,hvi',hwi',hkk.2,c1.2,c2.2,dm2,by omega,hR⟩
  case fin=>
   rintro⟨b1,b2⟩ s' ⟨hb',rfl,vs,ws,xs,ys,p,q,hz,hvi,hwi,hkk,c1,c2,hdd,hlen,hR⟩;simp only at hb';subst hb';have hv:Qvk xs ys=decide (items.size<items2.size):=by
    cases hvi with
    |nil=>
     cases hwi with
     |nil=>
      simp only[Qc1] at hlen;exact(decide_eq_false (by omega)).symm
     |cons r2 hw=>
      simp only[Qc1,Qv] at hlen;exact(decide_eq_true (by omega)).symm
    |cons r1 hv=>
     cases hwi with
     |nil=>
      simp only[Qc1,Qv] at hlen;exact(decide_eq_false (by omega)).symm
     |cons r2 hw=>
      rw[Qeu] at hz;cases hz
   rw[hv] at hR
   wp_walk
   exact⟨_,rfl,by simpa [QAg] using hR⟩
  case h=>
   exact⟨rfl,rfl,items.toList,items2.toList,ds,es,as,bs,rfl,hr1,hr2,hk,hc1,hc2,hd,by omega,h⟩
end
end Rt
namespace Rt
open PySem.Calls PySem.W Dl
mutual
def okK:Qa->Bool
 |.int _=>true
 |.tuple ds=>Qi5 ds
 |_=>false
def Qi5:List Qa->Bool
 |[]=>true
 |d::ds=>okK d&&Qi5 ds
end
mutual
theorem QdW{h h':Heap}(k:∀b o,h.get? b=some o->h'.get? b=some o):∀(d:Qa)(v:Value)(as:List Addr),okK d=true->Qbn h v d as->Qbn h' v d as
 |.int _,_,_,_,.int i t=>.int i t
 |.tuple ds,_,_,hk,.tuple (vs:=vs) e c d r=>.tuple (k _ _ e) c d (QaJ k ds _ _ hk r)
 |.none,_,_,hk,_=>by cases hk
 |.bool _,_,_,hk,_=>by cases hk
 |.str _,_,_,hk,_=>by cases hk
 |.list _,_,_,hk,_=>by cases hk
 |.dict _,_,_,hk,_=>by cases hk
theorem QaJ{h h':Heap}(k:∀b o,h.get? b=some o->h'.get? b=some o):∀(ds:List Qa)(vs:List Value)(as:List Addr),Qi5 ds=true->YA h vs ds as->YA h' vs ds as
 |[],_,_,_,.nil=>.nil
 |d::ds,_,_,hk,.cons r rs=>by
  have hk:=Qy.mp (show(okK d&&Qi5 ds)=true from hk);exact .cons (QdW k d _ _ hk.1 r) (QaJ k ds _ _ hk.2 rs)
end
theorem Qxi:∀(N:Nat)(x y:Qa)(A:Je)(s:Shared)(v u:Value)(p q:List Addr),Qbn s.heap v x p->Qbn s.heap u y q->x.canLay0=true->y.canLay0=true->QlR x y=true->x.depth<=N->A.units+2*N+2<cLine->∀(prog:QD)(w:Jl)(E Q:Value->Shared->Prop),Q (.bool (ltD x y)) s->wpAny (model prog w) A (richCompare .Lt v u) Q E s:=by
 intro N;have intz:∀(i j:Int)(A:Je)(s:Shared)(v u:Value)(p q:List Addr),Qbn s.heap v (.int i) p->Qbn s.heap u (.int j) q->∀(prog:QD)(w:Jl)(E Q:Value->Shared->Prop),Q (.bool (ltD (.int i) (.int j))) s->wpAny (model prog w) A (richCompare .Lt v u) Q E s:=by
  intro i j A s v u p q r1 r2 prog w E Q h;cases r1;cases r2;refine HT.QpF A s i _ j _ prog w E Q ?_
  have e:ltD (.int i) (.int j)=decide (i<j):=by
   show isL (Qh8 i j)=_;unfold Qh8;by_cases z:i<j
   ·rw[if_pos z,decide_eq_true z];rfl
   ·rw[if_neg z,decide_eq_false z];split<;>rfl
  rw[e] at h;exact h
 induction N with
 |zero=>
  intro x y A s v u p q r1 r2 c1 c2 hk hd hu prog w E Q h;cases x<;>cases y<;>first | (cases hk;done) | skip
  ·exact intz _ _ A s v u p q r1 r2 prog w E Q h
  ·unfold QaD at hd;omega
 |succ N ih=>
  intro x y A s v u p q r1 r2 c1 c2 hk hd hu prog w E Q h;cases x<;>cases y<;>first | (cases hk;done) | skip
  ·exact intz _ _ A s v u p q r1 r2 prog w E Q h
  ·rename_i ds es
   cases r1 with
   |@tuple a o vs n _ _ ho hc hd' ra=>
    cases r2 with
    |@tuple b o2 vs2 n2 _ _ ho2 hc2 hd2 rb=>
     obtain⟨cls,dd,data,sl⟩:=o;obtain⟨cls2,dd2,data2,sl2⟩:=o2;simp only at hc hd' hc2 hd2;subst hc hd' hc2 hd2;have dd3:QX ds<=N:=by unfold QaD at hd;omega
     exact richCompare_meets_room (op:=.Lt) ⟨_,ho,rfl⟩ ⟨_,ho2,rfl⟩ PySem.F.slot_tuple_lt PySem.F.entry_tuple_lt (PySem.F.args_tuple_lt_2 _ _) (Qeg (N:=N) hk c1 c2 dd3 ih)
      ⟨ho,ho2,ra,rb,by omega,show YO (Qvk ds es)≠Value.notImplemented/\Q (.bool (Qvk ds es)) s from⟨(λx=>nomatch x),h⟩⟩ (by omega)
theorem Qlo{N:Nat}{ds es:List Qa}{A:Je}{s:Shared}{v u:Value}{p q:List Addr}(r1:Qbn s.heap v (.tuple ds) p)(r2:Qbn s.heap u (.tuple es) q)(c1:Ja ds=true)(c2:Ja es=true)(hk:Qdt ds es=true)(hd:QX ds<=N)(hu:A.units+2*N+4<cLine){prog:QD}{w:Jl}{E:Value->Shared->Prop}{C:Bool->Shared->Prop}(h:C (Qvk ds es) s):wpAny (model prog w) A (oneLt' true v u) C E s:=by
 cases r1 with
 |@tuple a o vs n _ _ ho hc hd' ra=>
  cases r2 with
  |@tuple b o2 vs2 n2 _ _ ho2 hc2 hd2 rb=>
   obtain⟨cls,dd,data,sl⟩:=o;obtain⟨cls2,dd2,data2,sl2⟩:=o2;simp only at hc hd' hc2 hd2;subst hc hd' hc2 hd2;rw[oneLt'_eq];simp only[if_true];refine wpAny_bind (wpAny_cRoomFor (by omega) ?_);refine wpAny_bind (wpAny_callSpecialIfBound?_slot ⟨_,ho,rfl⟩ PySem.F.slot_tuple_lt (QbJ PySem.F.slot_tuple_lt ⟨_,ho,rfl⟩ PySem.F.entry_tuple_lt (PySem.F.args_tuple_lt_2 _ _) (Qeg (N:=N) hk c1 c2 hd λx y=>Qxi N x y) ⟨ho,ho2,ra,rb,hu,?_⟩));exact JW h
section
variable{prog:QD}{w:Jl}{A:Je}{E:Value->Shared->Prop}{s:Shared}
theorem QsR{N:Nat}{x y:Qa}{v u:Value}{p q:List Addr}(r1:Qbn s.heap v x p)(r2:Qbn s.heap u y q)(c1:x.canLay0=true)(c2:y.canLay0=true)(hk:QlR x y=true)(hd:x.depth<=N)(hu:A.units+2*N+2<cLine){C:Bool->Shared->Prop}(h:C (ltD x y) s):wpAny (model prog w) A (oneLt' false v u) C E s:=by
 refine kat_one v u ?_
 exact Qxi N x y A s v u p q r1 r2 c1 c2 hk hd hu prog w E _ h
theorem Qns(i j:Int):ltD (.int i) (.int j)=decide (i<j):=by
 show isL (Qh8 i j)=_;unfold Qh8;by_cases z:i<j
 ·rw[if_pos z,decide_eq_true z];rfl
 ·rw[if_neg z,decide_eq_false z];split<;>rfl
def Qvy:List Qa->Prop
 |.int _::_=>True
 |_=>False
theorem QsU{b:Bool}{n1 n2 N:Nat}{C:Bool->Shared->Prop}(hu:A.units+2*N+2<cLine):∀(vs us:List Value)(xs ys:List Qa)(p q:List Addr)(i:Nat),YA s.heap vs xs p->YA s.heap us ys q->Ja xs=true->Ja ys=true->Qdt xs ys=true->QX xs<=N->(b=true->i=0->Qvy xs)->xs.length+n2=ys.length+n1 ->
  C (Qvk xs ys) s->KatLex prog w A b (decide (n1<n2)) C (vs.zip us) i s
 |[],us,xs,ys,p,q,i,r1,r2,c1,c2,hk,hd,hb,hl,h=>by
  cases r1;refine kat_nil ?_
  cases r2 with
  |nil=>rw[show decide (n1<n2)=false from decide_eq_false (by simp at hl;omega)];exact h
  |cons r rs=>rw[show decide (n1<n2)=true from decide_eq_true (by simp at hl;omega)];exact h
 |v::vs,[],xs,ys,p,q,i,r1,r2,c1,c2,hk,hd,hb,hl,h=>by
  cases r2;cases r1;refine kat_nil ?_
  rw[show decide (n1<n2)=false from decide_eq_false (by simp at hl;omega)];exact h
 |v::vs,u::us,xs,ys,p,q,i,r1,r2,c1,c2,hk,hd,hb,hl,h=>by
  cases r1 with
  |@cons _ _ d1 ds1 as1 as2 r1 rs1=>
   cases r2 with
   |@cons _ _ d2 ds2 bs1 bs2 r2 rs2=>
    have hk:=Qy.mp (show(QlR d1 d2&&Qdt ds1 ds2)=true from hk);simp only[Ja,JR] at c1 c2;have dm1:d1.depth<=N:=Jk (Qe9 (ds:=d1::ds1) (.head _)) hd;have dm2:QX ds1<=N:=Jk (show QX ds1<=max d1.depth (QX ds1) from Qf9 _ _) hd;have h:C (isL (thn (QcU d1 d2) (Qa1 ds1 ds2))) s:=h;have one:C (ltD d1 d2) s->wpAny (model prog w) A (oneLt' (b&&i == 0) v u) C (λ_ _=>False) s:=λhc=>by
     cases e:(b&&i == 0) with
     |false=>exact QsR (N:=N) r1 r2 c1.1 c2.1 hk.1 dm1 hu hc
     |true=>
      have e:=Qy.mp e;have hh:=hb e.1 (beq_iff_eq.mp e.2);cases d1<;>first | exact hh.elim | skip
      cases d2<;>first | (cases hk.1;done) | skip
      cases r1;cases r2;rw[Qns] at hc;exact oneLt_int hc
    refine kat_cons (Qfk d1 d2 A s v u _ _ r1 r2 c1.1 c2.1 (by omega) prog w _ _ ?_);rw[Qn1 d1 d2 hk.1];cases e1:QcU d1 d2 with
    |lt=>rw[e1] at h;exact kat_no (one (by unfold ltD;rw[e1];exact h))
    |gt=>rw[e1] at h;exact kat_no (one (by unfold ltD;rw[e1];exact h))
    |eq=>
     rw[e1] at h;refine kat_yes (QsU hu vs us ds1 ds2 _ _ (i+1) rs1 rs2 c1.2 c2.2 hk.2 dm2 (λ_ z=>by omega) (by simp only[Qv] at hl;omega) h)
def Qsc(ds:List Qa)(κ:Ya):Prop:=κ=general'∨κ=oneType'∨κ=tuples' false∨(κ=tuples' true/\∀d∈ds,∃es,d=.tuple es/\Qvy es)
theorem Qyy{N:Nat}{ds:List Qa}{κ:Ya}{x y:Qa}{v u:Value}{p q:List Addr}(su:Qsc ds κ)(hx:x∈ds)(r1:Qbn s.heap v x p)(r2:Qbn s.heap u y q)(c1:x.canLay0=true)(c2:y.canLay0=true)(hk:QlR x y=true)(tb:∀b,κ=tuples' b->∃es,x=.tuple es)(hd:x.depth<=N)(hu:A.units+2*N+4<cLine){C:Bool->Shared->Prop}(h:C (ltD x y) s) :
  wpAny (model prog w) A (keyLt' κ v u) C E s:=by
 have tup:∀b,κ=tuples' b->(b=true->∃es,x=.tuple es/\Qvy es)->wpAny (model prog w) A (keyLt' κ v u) C E s:=λb hb hh=>by
  subst hb;obtain⟨es,rfl⟩:=tb b rfl;cases y<;>first | (cases hk;done) | skip
  rename_i fs
  cases r1 with
  |@tuple a o vs n _ _ ho hc hd' ra=>
   cases r2 with
   |@tuple b2 o2 vs2 n2 _ _ ho2 hc2 hd2 rb=>
    have dd3:QX es<=N:=by unfold QaD at hd;omega
    refine kat_lt ho hd' ho2 hd2 (QsU (N:=N) (by omega) _ _ es fs _ _ 0 ra rb c1 c2 hk dd3 (λe _=>?_) ?_ h)
    ·obtain⟨es',e',hh⟩:=hh e;cases e';exact hh
    ·have e1:=readsAll_len ra;have e2:=readsAll_len rb;rw[Qd] at e1 e2;omega
 rcases su with rfl | rfl | rfl | ⟨rfl,hall⟩
 ·exact QsR (N:=N) r1 r2 c1 c2 hk hd (by omega) h
 ·cases x<;>cases y<;>first | (cases hk;done) | skip
  ·cases r1;cases r2;rw[Qns] at h;exact oneLt_int h
  ·have dd3:∀{es:List Qa},(J4 es).depth<=N->QX es<=N:=λ{es} h=>by unfold QaD at h;omega
   exact Qlo (N:=N) r1 r2 c1 c2 hk (dd3 hd) hu h
 ·exact tup false rfl λe=>by cases e
 ·exact tup true rfl λ_=>hall x hx
end
section
variable{M:QAa}{A:Je}{E:Value->Shared->Prop}{s:Shared}
theorem QfQ{α β:Type}{f:α->Sem β}{g:α->β}:∀(l:List α){Q:List β->Shared->Prop},(∀v∈l,∀(Q':β->Shared->Prop),Q' (g v) s->wpAny M A (f v) Q' E s)->Q (l.map g) s->wpAny M A (l.mapM f) Q E s
 |[],_,_,h=>by rw[List.mapM_nil];exact wpAny_pure h
 |x::l,Q,hf,h=>by
  rw[List.mapM_cons];exact wpAny_bind (hf x (.head _) _ (wpAny_bind (QfQ l (Q:=λbs s'=>wpAny M A (pure (g x::bs)) Q E s') (λv hv=>hf v (.tail _ hv)) (wpAny_pure h))))
end
def Qiu(h:Heap)(v:Value):Option Value:=match v with
 |.ref a=>(match h.get? a with
  |some o=>(match o.data with
   |.seq xs _=>xs[0]?
   |_=>none)
  |none=>none)
 |_=>none
def tyV(h:Heap)(v:Value):Value:=match v with
 |.int _ _=>.type "int"
 |.ref a=>(match h.get? a with
  |some o=>o.cls
  |none=>.none)
 |_=>.none
theorem YW:∀{ds:List Qa},Qi5 ds=true->∀d∈ds,okK d=true
 |x::ds,h,d,hd=>by
  have h:=Qy.mp (show(okK x&&Qi5 ds)=true from h);rcases Qr.mp hd with z | z
  ·rw[z];exact h.1
  ·exact YW h.2 d z
theorem Qnb:∀{ds:List Qa},(∀d∈ds,okK d=true)->Qi5 ds=true
 |[],_=>rfl
 |x::ds,h=>by
  show(okK x&&Qi5 ds)=true;rw[h x (.head _),Qnb λd hd=>h d (.tail _ hd)];rfl
theorem ZT{h:Heap}:∀{vs:List Value}{ds:List Qa}{as:List Addr},YA h vs ds as->∀v∈vs,∃d∈ds,∃bs,Qbn h v d bs
 |_,_,_,.cons (d:=d) r rs,v,hv=>by
  rcases Qr.mp hv with z | z
  ·rw[z];exact⟨d,.head _,_,r⟩
  ·obtain⟨d',hd,bs,r'⟩:=ZT rs v z;exact⟨d',.tail _ hd,bs,r'⟩
theorem Qdk{h:Heap}:∀{vs:List Value}{ds:List Qa}{as:List Addr},YA h vs ds as->∀d∈ds,∃v∈vs,∃bs,Qbn h v d bs
 |_,_,_,.cons (d:=d) (v:=v) r rs,d',hd=>by
  rcases Qr.mp hd with z | z
  ·rw[z];exact⟨v,.head _,_,r⟩
  ·obtain⟨v',hv,bs,r'⟩:=Qdk rs d' z;exact⟨v',.tail _ hv,bs,r'⟩
section
variable{prog:QD}{w:Jl}{A:Je}{E:Value->Shared->Prop}{s:Shared}
theorem QiH{v:Value}{d:Qa}{bs:List Addr}(r:Qbn s.heap v d bs)(hk:okK d=true){Q:Value->Shared->Prop}(q:Q (tyV s.heap v) s):wpAny (model prog w) A (typeOf v) Q E s:=by
 cases r<;>first | (cases hk;done) | skip
 ·exact wpAny_pure q
 ·rename_i a o vs n xs ho hc hd ra
  refine wpAny_typeOf_ref ho ?_
  have e:tyV s.heap (.ref a)=o.cls:=by unfold tyV;simp only[ho]
  rw[e] at q;exact q
theorem Qkl{vs:List Value}{ds:List Qa}{as:List Addr}{Q:Ya->Shared->Prop}(ra:YA s.heap vs ds as)(hk:Qi5 ds=true)(ht:∀d∈ds,∃es,d=.tuple es)(h:∀κ,Qsc ds κ->Q κ s):wpAny (model prog w) A (keyKind' vs.toArray) Q E s:=by
 have rd:=ZT ra;have fs:∀v∈vs,∀(Q':Option Value->Shared->Prop),Q' (Qiu s.heap v) s->wpAny (model prog w) A (firstOfTuple' v) Q' E s:=λv hv Q' q=>by
  obtain⟨d,hd,bs,r⟩:=rd v hv;obtain⟨es,rfl⟩:=ht d hd;cases r with
  |@tuple a o xs n _ _ ho hc hd' r'=>
   rw[kas_first_eq];refine wpAny_bind (wpAny_typeOf_ref ho ?_);rw[hc];rw[if_neg (by decide)];refine wpAny_bind (Qtg ho hd' (wpAny_pure ?_));have e:Qiu s.heap (.ref a)=xs[0]? := by unfold Qiu;simp only[ho,hd']
   rw[<- e];exact q
 rw[keyKind'_eq,QaF,map_eq_pure_bind];refine wpAny_bind (wpAny_bind (QfQ (g:=Qiu s.heap) vs fs (wpAny_pure ?_)));by_cases z:((vs.map (Qiu s.heap)).toArray.all λx=>x.isSome)=true
 ·rw[if_pos z];refine wpAny_bind (wpAny_rule ?_);have hfm:((vs.map (Qiu s.heap)).toArray.filterMap id)=(vs.filterMap (Qiu s.heap)).toArray:=by simp[Qax]
  have heads:∀u∈vs.filterMap (Qiu s.heap),∃d bs,Qbn s.heap u d bs/\okK d=true:=λu hu=>by
   obtain⟨v,hv,e⟩:=ZF.mp hu;obtain⟨d,hd,bs,r⟩:=rd v hv;obtain⟨es,rfl⟩:=ht d hd;have ko:=YW hk _ hd;cases r with
   |@tuple a o xs n _ _ ho hc hd' r'=>
    have e2:Qiu s.heap (.ref a)=xs[0]? := by unfold Qiu;simp only[ho,hd']
    rw[e2] at e;have hm:u∈xs.toList:=by rw[<- Q9] at e;exact QK e
    obtain⟨d2,hd2,bs2,r2⟩:=ZT r' u hm;exact⟨d2,bs2,r2,YW ko _ hd2⟩
  rw[hfm,QkU,QaF,map_eq_pure_bind];refine wpAny_bind (wpAny_bind (wpAny_bind (QfQ (g:=tyV s.heap) _ (λu hu Q' q=>?_) (wpAny_pure ?_))))
  ·obtain⟨d,bs,r,ko⟩:=heads u hu;exact QiH r ko q
  ·have fin:∀o:Option Value,(o.any (· != Yp "tuple")=true->∀u∈vs.filterMap (Qiu s.heap),tyV s.heap u≠Yp "tuple")->Q (tuples' (o.any (· != Yp "tuple"))) s:=λo ho=>by
    cases e:o.any (· != Yp "tuple") with
    |false=>exact h _ (.inr (.inr (.inl rfl)))
    |true=>
     refine h _ (.inr (.inr (.inr ⟨rfl,λd hd=>?_⟩)));obtain⟨es,rfl⟩:=ht d hd;obtain⟨v,hv,bs,r⟩:=Qdk ra _ hd;refine⟨es,rfl,?_⟩;have ko:=YW hk _ hd;cases r with
     |@tuple a oo xs n _ _ ho' hc hd' r'=>
      have e2:Qiu s.heap (.ref a)=xs[0]? := by unfold Qiu;simp only[ho',hd']
      have some1:(Qiu s.heap (.ref a)).isSome=true:=by
       have z':=Qew.mp z (Qiu s.heap (QU a)) (by simp;exact⟨_,hv,rfl⟩);exact z'
      rw[e2] at some1;obtain⟨u,hu⟩:=Qhk.mp some1;have hl:=(ZW.mp hu).1;have nt:=ho e u (ZF.mpr ⟨_,hv,by rw[e2];exact hu⟩);have hu':xs.toList[0]? = some u:=by rw[Q9];exact hu
      cases hx:xs.toList with
      |nil=>rw[hx] at hu';cases hu'
      |cons u0 us=>
       rw[hx] at hu' r';have e0:u0=u:=by simpa using hu'
       subst e0;cases r' with
       |@cons _ _ d1 ds1 as1 as2 r1 rs1=>
        have ko1:=(Qy.mp (show(okK d1&&Qi5 ds1)=true from ko)).1;cases r1<;>first | (cases ko1;done) | skip
        ·trivial
        ·rename_i a2 o2 vs2 n2 xs2 ho2 hc2 hd2 ra2
         exfalso
         apply nt
         unfold tyV;simp only[ho2];exact hc2
   cases hg:((vs.filterMap (Qiu s.heap)).map (tyV s.heap)).toArray[0]? with
   |none=>exact wpAny_pure (wpAny_pure (fin none λe=>by cases e))
   |some t=>
    dsimp only
    refine wpAny_pure (wpAny_pure (fin _ λe u hu=>?_));split at e
    ·rename_i hall
     have ne:(t != Yp "tuple")=true:=e;have te:(tyV s.heap u == t)=true:=by
      have:=Qew.mp hall (tyV s.heap u) (by simp;exact⟨u,by simpa using ZF.mp hu,rfl⟩);exact this
     rw[eq_of_beq te]
     simpa using ne
    ·cases e
 ·rw[if_neg z];split
  ·exact wpAny_pure (h _ (.inl rfl))
  ·rw[QkU,QaF,map_eq_pure_bind];refine wpAny_bind (wpAny_bind (wpAny_bind (QfQ (g:=tyV s.heap) _ (λv hv Q' q=>?_) (wpAny_pure ?_))))
   ·obtain⟨d,hd,bs,r⟩:=rd v hv;exact QiH r (YW hk _ hd) q
   ·have fin:∀b:Bool,wpAny (model prog w) A (pure (if b=true then oneType' else general')) Q E s:=λb=>by
     cases b
     ·exact wpAny_pure (h _ (.inl rfl))
     ·exact wpAny_pure (h _ (.inr (.inl rfl)))
    split
    ·exact wpAny_pure (fin _)
    ·exact wpAny_pure (fin _)
end
end Rt
namespace Rt
open PySem.Calls PySem.W Dl Rs
section
variable{prog:QD}{w:Jl}{A:Je}{E:Value->Shared->Prop}{s:Shared}
def prs(vs:List Value):Array Keyed:=vs.toArray.zip vs.toArray
theorem QeA(vs:List Value):(prs vs).toList=vs.zip vs:=by unfold prs;rw[Qss]
theorem Que(vs:List Value):(prs vs).toList.map (·.2)=vs:=by rw[QeA];exact Qtq (Qj _)
theorem Qdg:∀{vs:List Value}{p:Keyed},p∈vs.zip vs->p.1=p.2/\p.2∈vs
 |v::vs,p,h=>by
  rw[Qeu] at h;rcases Qr.mp h with z | z
  ·rw[z];exact⟨rfl,.head _⟩
  ·exact⟨(Qdg z).1,.tail _ (Qdg z).2⟩
theorem QgF{a:Addr}{vs:List Value}{n:Nat}{P:PySem.Fin->Shared->Prop}(ho:s.heap.get? a=some (seqObj "list" vs.toArray n))(hz:vs.length<=sizeLine){c:Keyed->Keyed->Bool}(oc:Ord c)
  (hkind:∀h':Heap,Kept a s.heap h'->∀(Q':Ya->Shared->Prop)(E':Value->Shared->Prop),(∀κ,Asks prog w A { s with heap:=h' } κ (prs vs) c->Q' κ { s with heap:=h' })->wpAny (model prog w) A (keyKind' vs.toArray) Q' E' { s with heap:=h' })
  (h:∀arr:Array Keyed,arr.Perm (prs vs)->Sg c arr 0 arr.size->∀(h':Heap)(e:Nat),Kept a s.heap h'->h'.get? a=some (seqObj "list" (arr.toList.map (·.2)).toArray e)->P (.done (.ret .none)) { s with heap:=h' }) :
  wpAny (model prog w) A (Qaa.«list.sort» ⟨[.ref a],[]⟩) P E s:=by
 have ha:a<s.heap.objs.size:=Qp ho;obtain⟨e1,ho1⟩:∃e1,(s.heap.update a (J5 λ_=>(#[]:Array Value))).get? a=some (seqObj "list" #[] e1):=⟨_,QbW ho λ_=>#[]⟩
 have K3:Kept a s.heap (((s.heap.update a (J5 λ_=>(#[]:Array Value))).push (seqObj "tuple" vs.toArray 0)).push (seqObj "list" #[] 0)):=(Qcr _).trans ((Qdm _).trans (Qdm _));have ho6:(((s.heap.update a (J5 λ_=>(#[]:Array Value))).push (seqObj "tuple" vs.toArray 0)).push (seqObj "list" #[] 0)).get? a=some (seqObj "list" #[] e1):=Qe _ (Qe _ ho1);rw[list_sort_plain];refine wpAny_bind (Qtg ho rfl ?_);refine wpAny_bind (Qbz ho rfl ?_ (by rw[Qo];exact hz) (Qt _));refine wpAny_bind (Qc8 ho1 rfl ?_);refine wpAny_bind (QlS ?_ (by show vs.length<=_;exact hz));refine wpAny_bind (Qf2 ?_ (Qt _));refine Za ?_
 show wpAny (model prog w) A _ P E { s with heap:=((s.heap.update a (J5 λ_=>(#[]:Array Value))).push (seqObj "tuple" vs.toArray 0)).push (seqObj "list" #[] 0) }
 dsimp only
 generalize (((s.heap.update a (J5 λ_=>(#[]:Array Value))).push (seqObj "tuple" vs.toArray 0)).push (seqObj "list" #[] 0))=h3 at K3 ho6 ⊢;have out:∀arr:Array Keyed,arr.map (·.2)=(arr.toList.map (·.2)).toArray:=λarr=>by
  apply Qcq.mp
  rw[Qst]
 have psz:(prs vs).size=vs.length:=by rw[<- Qd,QeA,List.length_zip,Ql1]
 by_cases h2:vs.toArray.size<2
 ·rw[if_pos h2,if_pos h2];refine wpAny_bind (wpAny_pure ?_);rw[Qsh];refine wpAny_bind (wpAny_pure ?_)
  dsimp only
  have f:Sg c (prs vs) 0 (prs vs).size:=λi j _ hij hj=>by
   rw[psz] at hj;rw[Qo] at h2;rw[show i=j by omega];exact oc.irr _
  refine wpAny_bind (Qc8 ho6 rfl ?_);refine wpAny_bind (Qbz ho6 rfl ?_ (Qt _) (by rw[QdE];show(prs vs).size<=_;rw[(Qex (prs vs)).size_eq,psz];omega));simp only[bne_self_eq_false,ZG,if_false];show wpAny _ _ (ret JD) _ _ { s with heap:=h3.update a (J5 λ_=>Array.map (λx=>x.snd) (prs vs)) };rw[out];exact wpAny_pure (h (prs vs) (Qex (prs vs)) (f) _ _ (K3.trans (Qcr _)) (QbW ho6 λ_=>_))
 ·rw[if_neg h2,if_neg h2];refine wpAny_bind (hkind h3 K3 _ _ λκ hA=>?_);refine wpAny_bind (wpAny_mono (QiD (a₀:=prs vs) (κ:=κ) (st:=QoS κ (prs vs) #[] 7 none) (Q:=λ_ st'=>SB κ (prs vs) st'/\Sg c (arrOf st') 0 (prs vs).size) hA ⟨Qex _,rfl,rfl⟩ rfl λst' b g=>⟨b,g⟩) ?_ λ_ _ e=>e);rintro⟨⟨⟩,st'⟩ s' ⟨rfl,b,g⟩
  dsimp only
  rw[b.failed];have g2:Sg c (arrOf st') 0 (arrOf st').size:=by rw[b.size];exact g
  refine wpAny_bind (Qc8 ho6 rfl ?_);refine wpAny_bind (Qbz ho6 rfl ?_ (Qt _) (by rw[QdE];show(arrOf st').size<=_;rw[(b.perm).size_eq,psz];omega));simp only[bne_self_eq_false,ZG,if_false];show wpAny _ _ (ret JD) _ _ { s with heap:=h3.update a (J5 λ_=>Array.map (λx=>x.snd) (arrOf st')) };rw[out];exact wpAny_pure (h (arrOf st') (b.perm) (g2) _ _ (K3.trans (Qcr _)) (QbW ho6 λ_=>_))
open Classical in
noncomputable def rdV (h:Heap) (v:Value):Qa:=if q:∃d as,Qbn h v d as/\d.canLay0=true then q.choose else .none
theorem QmD{h:Heap}{v:Value}{d:Qa}{as:List Addr}(r:Qbn h v d as)(c:d.canLay0=true):rdV h v=d:=by
 unfold rdV;have q:∃d as,Qbn h v d as/\d.canLay0=true:=⟨d,as,r,c⟩
 rw[dif_pos q];obtain⟨as',r',c'⟩:=q.choose_spec;exact(QaX d _ v as as' c r r').symm
theorem QhK{α β:Type}(f:α->β){l m:List β}(p:l.Perm m):∀{T:List α},m=T.map f->∃T':List α,T'.Perm T/\l=T'.map f:=by
 induction p with
 |nil=>intro T e;exact⟨T,ZV _,e⟩
 |@cons x l1 l2 _ ih=>
  intro T e;cases T with
  |nil=>cases e
  |cons t T=>
   rw[Jh] at e;injection e with e1 e2
   obtain⟨T',p',e'⟩:=ih e2;exact⟨t::T',p'.cons t,by rw[Jh,<- e1,<- e']⟩
 |@swap x y l=>
  intro T e;cases T with
  |nil=>cases e
  |cons t T=>
   cases T with
   |nil=>rw[Jh] at e;injection e with e1 e2;cases e2
   |cons t2 T=>
    rw[Jh,Jh] at e;injection e with e1 e2
    injection e2 with e3 e4
    exact⟨t2::t::T,Qfp t t2 T,by rw[Jh,Jh,<- e1,<- e3,<- e4]⟩
 |@trans l1 l2 l3 _ _ ih1 ih2=>
  intro T e;obtain⟨T2,p2,e2⟩:=ih2 e;obtain⟨T1,p1,e1⟩:=ih1 e2;exact⟨T1,p1.trans p2,e1⟩
end
mutual
theorem Qol:∀(d:Qa),QlR d d=true->okK d=true
 |.int _,_=>rfl
 |.tuple ds,h=>QkF ds h
 |.none,h=>by cases h
 |.bool _,h=>by cases h
 |.str _,h=>by cases h
 |.list _,h=>by cases h
 |.dict _,h=>by cases h
theorem QkF:∀(ds:List Qa),Qdt ds ds=true->Qi5 ds=true
 |[],_=>rfl
 |d::ds,h=>by
  have h:=Qy.mp (show(QlR d d&&Qdt ds ds)=true from h);show(okK d&&Qi5 ds)=true;rw[Qol d h.1,QkF ds h.2];rfl
end
mutual
theorem Qe0:∀(d:Qa),okK d=true->d.canLay0=true
 |.int _,_=>rfl
 |.tuple ds,h=>Qj8 ds h
 |.none,h=>by cases h
 |.bool _,h=>by cases h
 |.str _,h=>by cases h
 |.list _,h=>by cases h
 |.dict _,h=>by cases h
theorem Qj8:∀(ds:List Qa),Qi5 ds=true->Ja ds=true
 |[],_=>rfl
 |d::ds,h=>by
  have h:=Qy.mp (show(okK d&&Qi5 ds)=true from h);simp only[Ja,Qe0 d h.1,Qj8 ds h.2,Bool.and_self]
end
structure QkN (ds:List Qa):Prop where
 cmp:∀x∈ds,∀y∈ds,QlR x y=true
 dep:∀x∈ds,x.depth<=20
end Rt
namespace L2
open PySem.Calls _root_.Rd _root_.Rk _root_.Rs Rt Dl
structure Trp where
 x:V
 v:Value
 d:Qa
theorem QwW{H:Hp}:∀{xs:List V}{ds:List Qa}{vs:List Value},Dats H xs ds->Vals xs vs->∃T:List Trp,xs=T.map (·.x)/\vs=T.map (·.v)/\ds=T.map (·.d)/\∀t∈T,Dat H t.x t.d/\RelV t.x t.v
 |_,_,_,.nil,.nil=>⟨[],rfl,rfl,rfl,λ_ h=>nomatch h⟩
 |_,_,_,.cons q qs,.cons r rs=>by
  obtain⟨T,e1,e2,e3,h⟩:=QwW qs rs;refine⟨⟨_,_,_⟩::T,by rw[e1];rfl,by rw[e2];rfl,by rw[e3];rfl,λt ht=>?_⟩;rcases Qr.mp ht with z | z
  ·rw[z];exact⟨q,r⟩
  ·exact h t z
theorem Qsw{H:Hp}:∀{T:List Trp},(∀t∈T,Dat H t.x t.d/\RelV t.x t.v)->Dats H (T.map (·.x)) (T.map (·.d))/\Vals (T.map (·.x)) (T.map (·.v))
 |[],_=>⟨.nil,.nil⟩
 |t::T,h=>by
  obtain⟨a,b⟩:=Qsw (T:=T) λt ht=>h t (.tail _ ht)
  exact⟨.cons (h t (.head _)).1 a,.cons (h t (.head _)).2 b⟩
section
variable{X:Cx}
end
end L2
namespace Dl
open L2 _root_.Rd Rk Rt
end Dl
namespace L2
open PySem.Calls _root_.Rd _root_.Rk Rt
section
variable{X:Cx}
end
end L2
namespace Dl
open L2 _root_.Rd Rk Rt
section
variable{X:Cx}{E:XK}
end
end Dl
namespace Rk
open L2 _root_.Rd Dl
def inW(d:Qa)(a b:Int):Bool:=match d with
 |.int i=>decide (a<=i)&&decide (i<=b)
 |_=>false
theorem QyH{i a b:Int}(h1:a<=i)(h2:i<=b):inW (.int i) a b=true:=by
 show(decide (a<=i)&&decide (i<=b))=true;rw[decide_eq_true h1,decide_eq_true h2];rfl
theorem QyI{d:Qa}{a b:Int}(h:inW d a b=true):∃i,d=.int i/\a<=i/\i<=b:=by
 cases d<;>first | (cases h;done) | skip
 rename_i i
 have h:=Qy.mp (show(decide (a<=i)&&decide (i<=b))=true from h);exact⟨i,rfl,of_decide_eq_true h.1,of_decide_eq_true h.2⟩
def Qge:DF:=λargs R _=>∃d a b,args=[.v d,.v (.int a),.v (.int b)]/\R (.bool (inW d a b))
theorem QbF(ns:List Int):nds (ns.map Qc)=true:=Qnh.mpr λd hd=>by
 obtain⟨i,_,rfl⟩:=Qx.mp hd;rfl
theorem QkA(xs:List Qa)(k:Int)(h:0<=k):Dl.cutD xs none (some k)=xs.take k.toNat:=by
 unfold Dl.cutD;obtain⟨j,rfl⟩:∃j:Nat,k=j:=⟨k.toNat,by omega⟩
 rw[HT.Qey,HT.QiS,Zw,QlY,Q4];by_cases z:j<=xs.length
 ·rw[Yj z]
 ·rw[Qwi (by omega),Zf,ZR (by omega)]
end Rk
namespace Rx
open PySem.Calls L2
section
variable{X:Cx}{e:Q2}{st:Y7}{rest:List Y7}{pos:Pos}{te:TX}{t u:TSX}
end
end Rx
namespace L2
open Dl
end L2
namespace Dl
open L2 _root_.Rd Rk
section
variable{X:Cx}
variable{k:Nat}{f:Addr}{fd:Jc}{ps:List Str}{x:Str}{p pos:Pos}{e:Q2}{es:List Q2}{fD:DF}{wa:DSl}
end
end Dl
namespace Rk
open L2 _root_.Rd Dl Rt
def QAx:List Qa->Bool
 |x::y::r=>ltD x y&&QAx (y::r)
 |_=>true
def ltP2:Qa->Bool
 |.tuple [a,b]=>ltD a b
 |_=>false
theorem QrW(d:Qa)(ds:List Qa):Dl.cutD (d::ds) (some 1) none=ds:=by
 unfold Dl.cutD;rw[HT.Qey,show(1:Int)=((1:Nat):Int) from rfl,HT.QiS];rw[Yj (by rw[Qv];omega),List.drop_one,List.tail_cons,Qv,QbN,Zf]
def toP:Qa->Int×Int
 |.tuple [.int a,.int b]=>(a,b)
 |_=>(0,0)
theorem Qji(p:Int×Int):(pairD p).depth<=1:=by
 show QX [.int p.1,.int p.2]+1<=1;simp[QX,QaD]
theorem Yw{n:Nat}:∀{ds:List Qa},(∀d∈ds,d.depth<=n)->QX ds<=n
 |[],_=>Qt _
 |d::ds,h=>by
  show max d.depth (QX ds)<=n;exact Nat.max_le.mpr ⟨h d (.head _),Yw λd hd=>h d (.tail _ hd)⟩
theorem Qjh(L:List (Int×Int)):(J4 (L.map pairD)).depth<=2:=by
 show QX (L.map pairD)+1<=2;have:=Yw (n:=1) (ds:=L.map pairD) λd hd=>by obtain⟨p,_,rfl⟩:=Qx.mp hd;exact Qji p
 omega
def bdD(h w:Int)(cs:List (Int×Int)):Qa:=.tuple [.int h,.int w,.tuple (cs.map pairD)]
theorem QlL(ns:List Int):Qcl (ns.map Qc)=some ns:=Dl.ints_map ns
theorem Qog(xs:List Qa)(k:Nat):Dl.cutD xs (some (k:Int)) none=xs.drop k:=by
 unfold Dl.cutD;rw[HT.Qey,HT.QiS];by_cases z:k<=xs.length
 ·rw[Yj z,ZR (by rw[ZH];exact Qj _)]
 ·rw[Qwi (by omega),List.drop_length,ZS (by omega),Qjy]
def QiU(r n:Nat)(f:Nat->Nat->Bool):List (Int×Int):=((Qk n).filter (f r)).map λ(c:Nat)=>((r:Int),(c:Int))
def YS(h w:Nat)(f:Nat->Nat->Bool):List (Int×Int):=(Qk h).flatMap λr=>QiU r w f
theorem QcV(h w:Nat)(f:Nat->Nat->Bool):YS (h+1) w f=YS h w f++QiU h w f:=by
 unfold YS;rw[ZN,Qeb];simp
theorem QeC{r n:Nat}{f:Nat->Nat->Bool}{p:Int×Int}:p∈QiU r n f↔∃c:Nat,c<n/\f r c=true/\p=((r:Int),(c:Int)):=by
 unfold QiU;rw[Qx];constructor
 ·rintro⟨c,hc,rfl⟩;have hc:=JB.mp hc;exact⟨c,QF.mp hc.1,hc.2,rfl⟩
 ·rintro⟨c,hc,hf,rfl⟩;exact⟨c,JB.mpr ⟨QF.mpr hc,hf⟩,rfl⟩
theorem Qlt{h w:Nat}{f:Nat->Nat->Bool}{p:Int×Int}:p∈YS h w f↔∃r c:Nat,r<h/\c<w/\f r c=true/\p=((r:Int),(c:Int)):=by
 unfold YS;rw[Z1];constructor
 ·rintro⟨r,hr,hp⟩;obtain⟨c,hc,hf,rfl⟩:=QeC.mp hp;exact⟨r,c,QF.mp hr,hc,hf,rfl⟩
 ·rintro⟨r,c,hr,hc,hf,rfl⟩;exact⟨r,QF.mpr hr,QeC.mpr ⟨c,hc,hf,rfl⟩⟩
theorem Qfe{h w:Nat}{f:Nat->Nat->Bool}{p:Int×Int}(q:p∈YS h w f):0<=p.1/\p.1<h/\0<=p.2/\p.2<w:=by
 obtain⟨r,c,hr,hc,_,rfl⟩:=Qlt.mp q;exact⟨Qsp _,by show(r:Int)<h;omega,Qsp _,by show(c:Int)<w;omega⟩
theorem Qpy(r n:Nat)(f:Nat->Nat->Bool):(QiU r n f).length<=n:=by
 unfold QiU;rw[Qg];exact Jk (Qc2 _ _) (by rw[Qz];exact Qj _)
theorem QfY(w:Nat)(f:Nat->Nat->Bool):∀h,(YS h w f).length<=h*w
 |0=>Qt _
 |h+1=>by
  have:=QfY w f h;have:=Qpy h w f;rw[QcV,Qs,QlW];omega
def Qwr(cs:List (Int×Int))(r:Int):List (Int×Int):=cs.filter λp=>decide (p.1=r)
theorem Qv9(ns:List Int)(i:Int):((ns.map Qc).any λe=>QL e (.int i))=decide (i∈ns):=by
 rw[List.any_map,YN,Qtu,decide_eq_true_iff];constructor
 ·rintro⟨c,hc,h⟩;have:c=i:=by simpa [QL] using h
  rw[<- this];exact hc
 ·intro h;refine⟨i,h,?_⟩;show(i == i)=true;simp
def toI:Qa->Int
 |.int i=>i
 |_=>0
theorem Qkm{ds:List Qa}{a b:Int}(h:ds.all (λd=>inW d a b)=true):ds=(ds.map toI).map Qc/\∀i∈ds.map toI,a<=i/\i<=b:=by
 constructor
 ·rw[QN]
  conv=>lhs;rw[<- QaE ds]
  refine Q8 λd hd=>?_
  obtain⟨i,rfl,_⟩:=QyI (Zg.mp h d hd);rfl
 ·intro i hi;obtain⟨d,hd,rfl⟩:=Qx.mp hi;obtain⟨i,rfl,h1,h2⟩:=QyI (Zg.mp h d hd);exact⟨h1,h2⟩
theorem Qgg(ns:List Int):(ns.map Qc).map toI=ns:=by
 rw[QN]
 conv=>rhs;rw[<- QaE ns]
 rfl
def nfI:List Int->Bool
 |x::y::r=>decide (x<=y)&&nfI (y::r)
 |_=>true
def QzM:Qa->Bool
 |.tuple [.int a,.int b]=>decide (a<=b)
 |_=>false
theorem Qsu:∀ns:List Int,(Qhe (ns.map Qc) (Dl.cutD (ns.map Qc) (some 1) none)).all QzM=nfI ns
 |[]=>by
  have h:(Qhe ([]:List Qa) (Dl.cutD [] (some 1) none))=[]:=by unfold Qhe;rfl
  rw[Qfo,h];rfl
 |[x]=>by rw[Jh,QrW];rfl
 |x::y::r=>by
  have ih:=Qsu (y::r);rw[Jh,QrW] at ih ⊢;show(QzM (.tuple [.int x,.int y])&&(Qhe (Qc y::r.map Qc) (r.map Qc)).all QzM)=_;rw[ih];rfl
theorem Qi7:∀{ns:List Int}{a:Int},nfI ns=true->(∀b,ns.getLast? = some b->b<=a)->nfI (ns++[a])=true
 |[],_,_,_=>rfl
 |[x],a,_,h=>by
  show(decide (x<=a)&&true)=true;rw[decide_eq_true (h x rfl)];rfl
 |x::y::r,a,hn,h=>by
  have hn:=Qy.mp (show(decide (x<=y)&&nfI (y::r))=true from hn);show(decide (x<=y)&&nfI (y::r++[a]))=true;rw[hn.1,Qi7 hn.2 λb hb=>h b (by rw[QjA];exact hb)];rfl
def isStairs:Qa->Bool
 |.tuple ds=>(decide ((1:Int)<=ds.length)&&decide ((ds.length:Int)<=6))&&(ds.all (λd=>inW d 0 6)&&nfI (ds.map toI))
 |_=>false
structure ZZ (ns:List Int):Prop where
 l1:1<=ns.length
 l6:ns.length<=6
 bd:∀i∈ns,0<=i/\i<=6
 nf:nfI ns=true
def tI(ns:List Int):Qa:=.tuple (ns.map Qc)
theorem QjP{d:Qa}(h:isStairs d=true):∃ns,d=tI ns/\ZZ ns:=by
 cases d<;>first | (cases h;done) | skip
 rename_i ds
 have h:=Qy.mp (show((decide ((1:Int)<=ds.length)&&decide ((ds.length:Int)<=6))&&(ds.all (λd=>inW d 0 6)&&nfI (ds.map toI)))=true from h);have h1:=Qy.mp h.1;have h2:=Qy.mp h.2;obtain⟨e,b⟩:=Qkm h2.1;refine⟨ds.map toI,by rw[tI,<- e],?_,?_,b,h2.2⟩
 ·rw[Qg];have:=of_decide_eq_true h1.1;omega
 ·rw[Qg];have:=of_decide_eq_true h1.2;omega
theorem Qgj{ns:List Int}(h:ZZ ns):isStairs (tI ns)=true:=by
 show((decide ((1:Int)<=(ns.map Qc).length)&&decide (((ns.map Qc).length:Int)<=6))&&((ns.map Qc).all (λd=>inW d 0 6)&&nfI ((ns.map Qc).map toI)))=true;have a:=h.l1;have b:=h.l6;have e:(ns.map Qc).all (λd=>inW d 0 6)=true:=Zg.mpr λd hd=>by
  obtain⟨i,hi,rfl⟩:=Qx.mp hd;exact QyH (h.bd i hi).1 (h.bd i hi).2
 rw[Qg,Qgg,h.nf,decide_eq_true (by omega),decide_eq_true (by omega),e];rfl
def sH(ns:List Int):Nat:=(max (ns.getLastD 0) 1).toNat
def stF(ns:List Int):Nat->Nat->Bool:=λr c=>decide ((r:Int)<ns.getD c 0)
def stC(ns:List Int):List (Int×Int):=YS (sH ns) ns.length (stF ns)
def sBd(ns:List Int):Qa:=bdD (sH ns) ns.length (stC ns)
def QCJ(L:List (Int×Int))(p:Int×Int):Bool := !(L.any λq=>(decide (q.2=p.2)&&decide (q.1≥p.1))||(decide (q.1=p.1)&&decide (q.2<p.2)))
def QhR:DF:=λargs R _=>∃ns:List Int,args=[.v (tI ns)]/\R (.bool (nfI ns))
def QeQ:DF:=λargs R _=>∃d,args=[.v d]/\R (.bool (isStairs d))
theorem QtV{ns:List Int}(h:ZZ ns):1<=sH ns/\sH ns<=6:=by
 unfold sH;have:ns.getLastD 0<=6:=by
  cases e:ns.getLast? with
  |none=>rw[Z8,e];decide
  |some b=>rw[Z8,e];exact(h.bd b (List.mem_of_getLast? e)).2
 omega
theorem Qmp{ns:List Int}(h:ZZ ns):(stC ns).length<=36:=by
 have a:=QfY ns.length (stF ns) (sH ns);have b:sH ns*ns.length<=6*6:=Qzw (QtV h).2 h.l6;unfold stC;omega
theorem QrR{α β:Type}{g:α->Option β}{p:α->Bool}{k:α->β}:∀{xs:List α},(∀x∈xs,g x=if p x=true then some (k x) else none)->xs.filterMap g=(xs.filter p).map k
 |[],_=>rfl
 |x::xs,h=>by
  have ih:=QrR (xs:=xs) λy hy=>h y (.tail _ hy)
  by_cases z:p x=true
  ·rw[List.filterMap_cons_some (by rw[h x (.head _),if_pos z]),ih,Qav z];rfl
  ·rw[List.filterMap_cons_none (by rw[h x (.head _),if_neg z]),ih,Qaw z]
def QzF(r:Int):Qa->Option Qa
 |.tuple [.int c,.int m]=>if r<m then some (pairD (r,c)) else none
 |_=>none
theorem QrS(ns:List Int)(r:Nat):(QbZ (ns.map Qc)).filterMap (QzF r)=(QiU r ns.length (stF ns)).map pairD:=by
 unfold QbZ QiU;rw[Qax,Qg,QN];refine QrR λc hc=>?_
 have hc:=QF.mp hc;show QzF r (.tuple [.int c,(ns.map Qc).getD c .none])=_;have e1:(ns.map Qc).getD c .none=.int (ns.getD c 0):=by
  rw[Qh,Qq,Qh,Qf hc];rfl
 rw[e1];show(if(r:Int)<ns.getD c 0 then some (pairD ((r:Int),(c:Int))) else none)=if decide ((r:Int)<ns.getD c 0)=true then _ else _
 by_cases z:(r:Int)<ns.getD c 0
 ·rw[if_pos z,if_pos (decide_eq_true z)];rfl
 ·rw[if_neg z,if_neg (by simpa using z)]
theorem Qvo{ns:List Int}(h:1<=ns.length):atI (ns.map Qc) (-1)=some (.int (ns.getLastD 0)):=by
 cases e:ns.getLast? with
 |none=>rw[List.getLast?_eq_none_iff] at e;subst e;exact absurd h (by decide)
 |some b=>
  obtain⟨xs,rfl⟩:=List.getLast?_eq_some_iff.mp e
  rw[JF,Z8,e];exact Qsa _ _
@[irreducible] def Qry:List Qa->(Qa->Prop)->Prop:=Qvi
@[irreducible] def Qrx:List Qa->(Qa->Prop)->Prop:=Qvg
theorem Qr3:QcI (λxs H Q=>∃i j,xs=[.int i,.int j]/\Q (.int (if j > i then j else i)) H) Qry:=by unfold Qry;exact Qor
theorem QkJ:QcI (λxs H Q=>∃i j,xs=[.int i,.int j]/\Q (.int (if j<i then j else i)) H) Qrx:=by unfold Qrx;exact Qoq
theorem Qvh{i j k:Int}{Q:Qa->Prop}(e:(if j > i then j else i)=k)(h:Q (.int k)):Qry [.int i,.int j] Q:=by
 unfold Qry;show Q (.int (if j > i then j else i));rw[e];exact h
theorem Qe2{i j k:Int}{Q:Qa->Prop}(e:(if j<i then j else i)=k)(h:Q (.int k)):Qrx [.int i,.int j] Q:=by
 unfold Qrx;show Q (.int (if j<i then j else i));rw[e];exact h
def QtW(ns:List Int):Qa->List Qa
 |.int r=>(QiU r.toNat ns.length (stF ns)).map pairD
 |_=>[]
theorem QjV(ns:List Int)(h:Nat):(Qit 0 h).flatMap (QtW ns)=(YS h ns.length (stF ns)).map pairD:=by
 unfold Qit YS;rw[Qts,Qtr]
 congr 1
 funext r
 show(QiU (0+(r:Int)).toNat ns.length (stF ns)).map pairD=_;rw[show(0+(r:Int)).toNat=r by omega]
theorem QAv{ns:List Int}:(if(1:Int) > ns.getLastD 0 then 1 else ns.getLastD 0)=(sH ns:Int):=by
 unfold sH;split<;>omega
theorem Qom{items:List Qa}{wg wg2:DG}{wt wt2:DT}{wi2:DI}{we:DE}{δ:Sts}{Q:Qa->Prop}(G:Qa->List Qa)(k:Nat)(hl:(items.flatMap G).length<=k)
  (h:∀d∈items,∀(acc:List Qa)(N:List Qa->Prop),acc.length+(G d).length<=k->N (acc++G d)->wg d δ λδ4=>wt δ4 (λb=>if b=true then wi2 δ4 (λitems2=>InR items2 wg2 wt2 we δ4 acc N) XF else N acc) XF)(q:Q (.list (items.flatMap G))) :
  QkP items wg wt wi2 wg2 wt2 we δ Q:=by
 unfold QkP;refine⟨λi acc=>acc=(items.take i).flatMap G,by simp,λi acc d hd e=>?_,λacc e=>by rw[e,Zf];exact q⟩;have e:acc=(items.take i).flatMap G:=e;have hs:(items.take (i+1)).flatMap G=(items.take i).flatMap G++G d:=by
  rw[Zv,hd,Qeb];simp
 refine h d (QK hd) acc _ ?_ (by show acc++G d=_;rw[hs,e])
 have h1:(items.flatMap G).length=((items.take (i+1)).flatMap G).length+((items.drop (i+1)).flatMap G).length:=by
  rw[<- Qs,<- Qeb,Jq]
 rw[hs,<- e,Qs] at h1;omega
def hdL(ns:List Int):List Int:=(Qk ns.length).map λi=>ns.getD i 0 - (i:Int)
end Rk
namespace Rv
theorem Qw2:isSubtype (.type "range_iterator") (.type "reversed")=pure false:=by rw[QcD];kernel_rfl
section
variable{prog:QD}{w:Jl}{A:Je}{E:Value->Shared->Prop}{s:Shared}
def QhB(a b:Int):Obj:={ cls:=.type "range_iterator",data:=.fields #[rawInt (a+(Zz a b 1 - 1)*1),rawInt (Zz a b 1),rawInt (-1)] }
theorem QlK{r:Addr}{j:Int}{t u v:Tok}{Q:Value->Shared->Prop}(hr:IsRange s.heap r 0 j 1 t u v)(h0 : -1000<=j)(h1:j<=1000)
  (h:Q (.ref s.heap.objs.size) { s with heap:=s.heap.push (QhB 0 j) }):wpAny (model prog w) A (call (.builtin "range.__reversed__") [.ref r]) Q E s:=by
 refine JO QdK ⟨_,hr,rfl⟩ F.entry_range_reversed ?_ (F.args_range_reversed_1 _)
 unfold Qaa.«range.__reversed__»;refine wpAny_bind (Yz (a:=QU r) rfl ?_);refine wpAny_bind ?_
 unfold QAj;refine wpAny_bind (Ze hr rfl (x:=.int 0 t) rfl ?_);refine wpAny_bind (Yz (a:=some 0) rfl ?_);refine wpAny_bind (Ze hr rfl (x:=.int j u) rfl ?_);refine wpAny_bind (Yz (a:=some j) rfl ?_);refine wpAny_bind (Ze hr rfl (x:=.int 1 v) rfl ?_);refine wpAny_bind (Yz (a:=some 1) rfl ?_);refine wpAny_pure ?_
 dsimp only
 have hz:Zz 0 j 1=if 0<j then j else 0:=by rw[Qo1];split<;>omega
 have fit:∀x:Int,-2000<=x->x<=2000->JG x=true:=λx a b=>by
  unfold JG;simp only[JR,decide_eq_true_eq];omega
 have hs:(JG 0&&JG j&&JG 1&&JG (-1)&&JG (0 - 1)&&JG (Zz 0 j 1))=true:=by
  rw[fit 0 (by decide) (by decide),fit j (by omega) (by omega),fit 1 (by decide) (by decide),fit (-1) (by decide) (by decide),fit (0 - 1) (by decide) (by decide),fit _ (by rw[hz];split<;>omega) (by rw[hz];split<;>omega)];rfl
 rw[hs,if_neg (by decide),if_pos rfl];exact wpAny_bind (JC (wpAny_pure ⟨_,rfl,h⟩))
theorem Qr8{r:Addr}{j:Int}{t u v:Tok}{Q:Value->Shared->Prop}(hr:IsRange s.heap r 0 j 1 t u v)(h0 : -1000<=j)(h1:j<=1000)
  (h:Q (.ref s.heap.objs.size) { s with heap:=s.heap.push (QhB 0 j) }):codeAny (model prog w) A (.call (.builtin "reversed.__new__") ⟨[.type "reversed",.ref r],[]⟩) (wants Q E) s:=by
 have hT:s.TypeIs (.ref r) "range" := ⟨_,hr,rfl⟩;refine QkV ?_
 show wpAny _ A.in1 (do checkBuiltinCall "reversed.__new__" ⟨[.type "reversed",.ref r],[]⟩;again (.builtin "reversed.__new__" ⟨[.type "reversed",.ref r],[]⟩)) _ _ s;refine wpAny_bind (Yz (F.newCall_reversed_1 _) (wpAny_pure ⟨Qo2 Qsr _,QkW F.entry_reversed_new ?_⟩));rw[Qc5 Qsr _];unfold Qaa.«reversed.__new__»;refine wpAny_bind (Yz (newClass_reversed _) ?_)
 dsimp only
 refine wpAny_bind (Yz (a:=()) (by first | rfl | kernel_rfl) ?_);refine wpAny_bind (Yz (a:=()) (by first | rfl | kernel_rfl) ?_)
 try dsimp only
 refine wpAny_bind (QkQ hT QdK.lookup ?_)
 try dsimp only
 refine wpAny_bind (Yz (QdK.bind _) ?_)
 try dsimp only
 first
 |rw[if_neg (show ¬((Qix "range.__reversed__" == JD)=true) from QC)]
 |(show wpAny _ _ (if(Qix "range.__reversed__" == JD)=true then _ else _) _ _ _;rw[if_neg (show ¬((Qix "range.__reversed__" == JD)=true) from QC)])
 refine wpAny_bind (wpAny_rule ?_);refine wpAny_bind (m:=runValue (.call (.builtin "range.__reversed__") ⟨[.ref r],[]⟩)) (show wpAny _ _ (call (.builtin "range.__reversed__") [.ref r]) _ _ _ from QlK hr h0 h1 ?_)
 first
 |exact wpAny_pure h
 |exact wpAny_bind (wpAny_pure (wpAny_pure h))
theorem Qov{r:Addr}{j:Int}{t u v:Tok}{Q:Value->Shared->Prop}(hr:IsRange s.heap r 0 j 1 t u v)(h0 : -1000<=j)(h1:j<=1000)
  (h:Q (.ref s.heap.objs.size) { s with heap:=s.heap.push (QhB 0 j) }):wpAny (model prog w) A (call (.type "reversed") [.ref r]) Q E s:=by
 refine callType_other (U := "range_iterator") (Q₁:=λobj s₁=>obj=.ref s.heap.objs.size/\s₁={ s with heap:=s.heap.push (QhB 0 j) }) (by decide +kernel) F.create_reversed ⟨_,_,F.mro_reversed⟩ F.made_reversed Qw2 (F.typeCall_reversed_1 _) (Qr8 hr h0 h1 ⟨rfl,rfl⟩) ?_
 rintro obj s₁ ⟨rfl,rfl⟩;exact⟨⟨_,Qw _ rfl,rfl⟩,h⟩
end
end Rv
namespace L2
def Itv(n:Nat):It:=⟨λi _=>i<n,λi H x H'=>H'=H/\x=.int ((n:Int) - 1 - i),λi _=>n<=i⟩
theorem Qmf{P:QD}{w:Jl}{K:PySem.W.Frag}{tg:Q2}(it:Addr)(n:Nat):Turn P w K tg (Itv n) [it] it (λi h=>Qk2 h it ((n:Int) - 1+(i:Nat)*(-1)) ((n:Int) - (i:Nat)) (-1)) where
 mem:=by simp
 obj:=λi h st b hb=>by
  have e:b=it:=by simpa using hb
  subst e;exact⟨_,st,λv z=>by
   have z':Data.fields _=Data.cell v:=z;cases z'⟩
 keep:=λi h h' st k=>k it (by simp) _ st
 item:=by
  intro X hP hw hK hc i pins s σ H E I hf st hg;subst hP hw hK;obtain⟨f0,f1,f2,f3,f4,f5⟩:=hf it (by simp);have W:=QzZ (prog:=X.prog) (w:=X.w) (I.ok.hd hc) it ((n:Int) - 1) (-1) n;refine W.item i s _ _ hg st λv h' tk hv st' kk=>?_
  obtain⟨t,rfl⟩:=hv;have I1:Inv X pins σ H { s with heap:=h',toks:=tk }:=I.turned (λb o hb e=>kk b o (by simpa using hb) e) f0 f1 f3 f4 f5;refine⟨_,rfl,QrM (s:={ s with heap:=h',toks:=tk }) (n := "range_iterator") st' rfl rfl (by decide) ⟨.int ((n:Int) - 1 - i),H,I1,⟨t,?_⟩,⟨rfl,rfl⟩,st',λb hb=>(hf b hb).1⟩⟩;rw[show(n:Int) - 1+(i:Int)*(-1)=(n:Int) - 1 - i by omega]
 done:=by
  intro X hP hw hK hc i pins s σ H E I hf st hg;subst hP hw hK;obtain⟨f0,f1,f2,f3,f4,f5⟩:=hf it (by simp);exact Qsd (I.ok.hd hc) st (by have:n<=i:=hg;omega) λh' eb=>⟨rfl,I.turned (t':=s.toks) (λb o hb e=>eb b o hb e) f0 f1 f3 f4 f5⟩
 self:=λ_ _ _ _ _ st h=>QdG st h
def QBb(ta:TA):TI:=λσ H R=>ta σ H λvs H1=>∃(r:Addr)(j:Int),vs=[.ref r]/\H1 r=some (.rng 0 j) /\ -1000<=j/\j<=1000/\R (Itv j.toNat) H1
section
variable{X:Cx}{tg:Q2}
theorem Quk{a:Q2}{ta:TA}{p pos:Pos}(hg:Gl X "reversed")(hm:X.mg "reversed" = none)(ha:PA X [a] ta)(hs:starEach [a] X.env=[(false,eval a X.env)]:=by rfl):PI X tg (.Call (.Name "reversed" p) [a] [] pos) (QBb ta):=by
 intro pins s σ H R I h;refine Call_ (QcN I hg hm boot_reversed (JH (thn (ha pos pins s σ H _ I h) λus s1 ⟨vs,H1,I1,r1,q1⟩=>?_) hs rfl));obtain⟨r,j,e,hr,q1,q2,q⟩:=q1;subst e;obtain⟨u,rfl,ru⟩:=vals1 r1;cases(show u=QU r from ru);obtain⟨t1,t2,t3,e⟩:=I1.hok r _ hr;refine Rv.Qov (show IsRange s1.heap r 0 j 1 t1 t2 t3 from e) q1 q2 ?_
 have hz:Zz 0 j 1=((j.toNat:Nat):Int):=by rw[Qo1];split<;>omega
 have it0:Qk2 (s1.heap.push (Rv.QhB 0 j)) s1.heap.objs.size (((j.toNat:Nat):Int) - 1+((0:Nat):Int)*(-1)) (((j.toNat:Nat):Int) - ((0:Nat):Int)) (-1):=by
  have:=Qw (h:=s1.heap) (o:=Rv.QhB 0 j) rfl;unfold Rv.QhB at this;rw[hz,show(0:Int)+(((j.toNat:Nat):Int) - 1)*1=((j.toNat:Nat):Int) - 1+((0:Nat):Int)*(-1) by omega] at this;rw[show((j.toNat:Nat):Int) - ((0:Nat):Int)=((j.toNat:Nat):Int) by omega];unfold Rv.QhB;rw[hz,show(0:Int)+(((j.toNat:Nat):Int) - 1)*1=((j.toNat:Nat):Int) - 1+((0:Nat):Int)*(-1) by omega];exact this
 refine QdG it0 ?_
 refine⟨s1.heap.objs.size,[s1.heap.objs.size],_,_,H1,rfl,I1.kept (t':=s1.toks) λb o e=>Qe _ e,Qmf _ j.toNat,it0,λb hb=>?_,q⟩;have e:b=s1.heap.objs.size:=by simpa using hb
 subst e;exact I1.fpOk (Qj _) (I1.hok.fresh (Qj _))
end
section
variable{X:Cx}
def QjX:V->List V->Hp->VK->Prop:=λx vs H Q=>∃l xs y,x=.ref l/\vs=[.int 0,y]/\H l=some (.lst xs)/\xs.length<sizeLine/\Q .non (upd H l (.lst (y::xs)))
theorem Qls:MtM X "list.insert" QjX:=by
 intro pins s σ H x vs v us Q I rx rv h;obtain⟨l,xs,y,rfl,rfl,hH,hz,q⟩:=h;cases rx;cases rv with
 |cons r0 rv=>
  obtain⟨u,rfl,ru⟩:=Vals.one rv;obtain⟨t,rfl⟩:=r0;obtain⟨z,its,n,r,hl,e⟩:=I.lstM hH;refine QbJ F.slot_list_insert ⟨_,e,rfl⟩ F.entry_list_insert (F.args_list_insert_3 _ _ _) (AutoSeq1.list_insert_list_int_val_1 l its.toArray n 0 t u (by decide) (by rw[Qo];omega)) ⟨e,?_⟩;refine⟨.non,_,I.lset (its':=u::its) hH e (by simp) (.cons ru r) ?_,rfl,q⟩;rw[Qv];omega
end
end L2
namespace Dl
open L2 _root_.Rd Rk
section
variable{X:Cx}{E:XK}{st:Y7}{i:Nat}{we:DE}
def QtX(n:Nat):List Qa:=(Qk n).map λ(i:Nat)=>.int ((n:Int) - 1 - i)
theorem Qgt(n:Nat):(QtX n).length=n:=by unfold QtX;rw[Qg,Qz]
theorem QjW{n i:Nat}{d:Qa}(h:(QtX n)[i]? = some d):i<n/\d=.int ((n:Int) - 1 - i):=by
 unfold QtX at h;rw[Qq] at h;by_cases z:i<n
 ·rw[Ju z] at h;exact⟨z,(Qu h).symm⟩
 ·rw[Q1 (by rw[Qz];omega)] at h;cases h
def QBn(w:DE):DI:=λδ Q EX=>w δ (λd=>match d with
 |.int j=>(-1000<=j/\j<=1000)/\Q (QtX j.toNat)
 |_=>False) EX
theorem QA4{A S:Addr->Prop}{n:Nat}{H1:Hp}(h:n<=sizeLine):ItD A S (Itv n) (QtX n) H1:=by
 refine⟨by rw[Qgt];exact h,λH2 A' _ _ _=>⟨λi d hd=>?_,?_⟩⟩
 ·obtain⟨hi,rfl⟩:=QjW hd;refine⟨hi,λx H3 hy=>?_⟩;obtain⟨rfl,rfl⟩:=hy;exact⟨Same.refl _,.int _⟩
 ·show n<=(QtX n).length;rw[Qgt];exact Qj _
theorem Qt7{m:Md}{tg e:Q2}{w:DE}{p p2 pos pos2:Pos}(hg:Gl X "reversed")(hm:X.mg "reversed" = none)(hg2:Gl X "range")(hm2:X.mg "range" = none)(h:QE .P X E e w)(hs:notStar e=true:=by rfl):QI m X E tg (.Call (.Name "reversed" p) [.Call (.Name "range" p2) [e] [] pos2] [] pos) (QBn w):=⟨by
 refine PI.imp (Quk hg hm (Qfj (QpR hg2 hm2 (Qfj h.h Yk hs) (by rw[Yc hs];rfl)) Yk)) λσ H R _ ⟨F,δ,R',EX,rel,hw,k,o⟩=>?_
 refine⟨F,δ,_,EX,rel,hw,λd hd v H' rel' kp vk=>?_,o⟩;cases d<;>first | exact(show False from hd).elim | skip
 obtain⟨⟨h1,h2⟩,hR⟩:=hd;rw[DP.int vk];exact⟨_,rfl,λr H2 s2 n2 e2=>⟨r,_,rfl,e2,h1,h2,k _ hR _ H2 (rel'.same s2) (kp.trans (Kp.same rel' s2)) (QA4 (Z5 (Rk.Qce (by omega))))⟩⟩⟩
def QBm(i:Nat)(we:DE):DS:=λD δ=>match δ[i]? with
 |some (.own ds)=>we δ (λd=>ds.length<1000000/\D.nx (δ.set i (.own (d::ds)))) D.ex
 |_=>False
theorem QuC(h:PS X st (QtK (tBM X.K "list" QjX (QiK i) (Qfr (tX .D X.K E (dC (.int 0))) (Qfr (tX .D X.K E we) Qwp))))):PS X st (tS X.K E (QBm i we)):=by
 refine PS.imp h λD σ H ⟨F,δ,DD,rel,hw,en⟩=>?_
 unfold QBm at hw;split at hw
 ·rename_i ds hd
  obtain⟨x,hx⟩:=rel.lt hd;obtain⟨l,xs,rfl,e,q,f⟩:=rel.sl i _ _ hx hd;have np:=rel.own_pot hd hx;refine⟨.ref l,hx,.inl ⟨rfl,_,SqL.of e⟩,F,δ,(λd=>d=.int 0),DD.ex,rel,rfl,λd hd0 v0 H0 rel0 kp0 vk0=>?_,en.ex⟩;subst hd0;cases vk0;refine⟨F,δ,_,DD.ex,rel0,hw,λd ⟨hl,hn⟩ v H' rel' kp vk=>?_,en.ex⟩;have kk:=kp0.trans kp;have q':=kk.das q;refine⟨l,xs,v,rfl,rfl,kk.1 _ _ np e,QY (by rw[q.length];exact hl) Qlw,?_⟩;obtain⟨r2,st⟩:=rel'.mut hd hx (.cons vk q');exact en.nx.go _ hn _ _ r2 ((Stp.kp kk).trans st)
 ·exact hw.elim
theorem Qxv{y:Str}{e e0:Q2}{we:DE}{apos cpos pos npos:Pos}(i:Nat)(h0:QE .D X E e0 (dC (.int 0)))(he:QE .D X E e we)(hN:X.N[i]? = some y:=by rfl)(hv:Vis X.env.scope y:=by first | exact Jn rfl | exact Jm (Jn rfl) | exact Jm (Jm rfl))(hd:(y == ("__debug__" : Str))=false:=by decide)(hcd:(y == ("__classdict__" : Str))=false:=by decide)(hs0:notStar e0=true:=by rfl)(hst:notStar e=true:=by rfl)(hbase:attributeBase (.Name y npos) "insert" X.env (eval (.Name y npos) X.env)=eval (.Name y npos) X.env:=by rfl)(hfew:((backTo cpos (starEach [e0,e] X.env)).all (λx => !x.1)&&(backToKw cpos (keywordEach [] X.env)).all (λx=>x.1.isSome)&&decide ([e0,e].length+([]:List Qk0).length+(if([]:List Qk0).isEmpty then 0 else 1)<30))=true:=by rfl)(hline:(apos.endLine == cpos.line)=true:=by rfl)(hsw:swapsWith (.Call (.Attribute (.Name y npos) "insert" apos) [e0,e] [] cpos) none pos.line X.env=pure false:=by rfl):QS X E (.Expr (.Call (.Attribute (.Name y npos) "insert" apos) [e0,e] [] cpos) pos) (QBm i we):=⟨QuC (QmQ (QxM PySem.F.plainAttrs_list PySem.F.slot_list_insert PySem.F.type_list_insert Qls (pv i hN hv hd hcd) (Qfj h0.h (Qfj he.h Yk hst) hs0) hbase hfew hline (Yc hs0) (by rw[Yc hst];rfl)) hsw)⟩
end
end Dl
namespace Rk
open L2 _root_.Rd Dl Rt
def Qpm(B:Nat->Nat->Int)(t:Nat):List Nat->Nat->Int
 |[],_=>0
 |c::cs,k=>(if t.testBit c=true then 0 else B (t ||| 2^c) k)+Qpm B t cs k
theorem QeP(B:Nat->Nat->Int)(t c k:Nat):∀cs:List Nat,Qpm B t (cs++[c]) k=Qpm B t cs k+(if t.testBit c=true then 0 else B (t ||| 2^c) k)
 |[]=>by show _+0=0+_;omega
 |d::cs=>by
  show _+Qpm B t (cs++[c]) k=_+Qpm B t cs k+_;rw[QeP B t c k cs];omega
def Qez(h:Nat)(F:Nat->Int):List Qa:=(Qk (h+1)).map λ(k:Nat)=>.int (F k)
def Qk7(h w:Nat)(B:Nat->Nat->Int):List Qa:=(Qk (2^w)).map λ(t:Nat)=>.list (Qez h (B t))
def stepB(B:Nat->Nat->Int)(cols:List Nat)(t k:Nat):Int:=B t k+if k=0 then 0 else Qpm B t cols (k - 1)
def QrZ(cs:List (Int×Int))(r:Nat):List Nat:=(Qwr cs r).map λp=>p.2.toNat
def Wc(cs:List (Int×Int))(h:Nat):Nat->Nat->Nat->Int
 |0,_,k=>if k=0 then 1 else 0
 |i+1,t,k=>stepB (Wc cs h i) (QrZ cs (h - 1 - i)) t k
def Qsy(cs:List (Int×Int))(h w:Nat):Nat->List Qa
 |0=>[.list (Qk7 h w (Wc cs h 0))]
 |i+1=>.list (Qk7 h w (Wc cs h (i+1)))::Qsy cs h w i
def Qcg(ns:List Nat):List Qa:=ns.map λ(c:Nat)=>.int (c:Int)
def Qwv(cs:List (Int×Int))(h w:Nat):List Qa:=(Qk (min h w+1)).map λ(k:Nat)=>.int (Wc cs h h 0 k)
def Qvf:DF:=λargs R _=>∃(h w:Nat)(cs:List (Int×Int)),args=[.v (bdD h w cs)]/\R (.int ((min h w:Nat):Int))
def Qtz:DF:=λargs R _=>∃(h w:Nat)(B:Nat->Nat->Int)(cols:List Nat)(t:Nat),args=[.v (.list (Qk7 h w B)),.v (.list (Qcg cols)),.v (.int t)]/\t<2^w/\(∀c∈cols,c<w)/\h<=6/\w<=6/\R (.list (Qez h (stepB B cols t)))
def QtC:DF:=λargs R _=>∃(h w:Nat)(cs:List (Int×Int)),args=[.v (bdD h w cs)]/\h<=6/\w<=6/\(∀p∈cs,0<=p.2/\p.2<w)/\R (.list (Qsy cs h w h))
def Qjj:DF:=λargs R _=>∃(h w:Nat)(cs:List (Int×Int)),args=[.v (bdD h w cs)]/\h<=6/\w<=6/\(∀p∈cs,0<=p.2/\p.2<w)/\R (.list (Qwv cs h w))
theorem QdT{h k:Nat}{F:Nat->Int}(hk:k<=h):(Qez h F)[k]? = some (.int (F k)):=by
 unfold Qez;rw[Qq,Ju (by omega)];rfl
theorem Qct(h:Nat)(F:Nat->Int):(Qez h F).length=h+1:=by unfold Qez;rw[Qg,Qz]
theorem QiJ{h w t:Nat}{B:Nat->Nat->Int}(ht:t<2^w):(Qk7 h w B)[t]? = some (.list (Qez h (B t))):=by
 unfold Qk7;rw[Qq,Ju ht];rfl
theorem Qbq{h:Nat}{F G:Nat->Int}(e:∀k,k<=h->F k=G k):Qez h F=Qez h G:=by
 unfold Qez;refine Q8 λk hk=>?_
 rw[e k (by have:=QF.mp hk;omega)]
theorem QpA{h j:Nat}{F:Nat->Int}{v:Int}(hj:j<=h):(Qez h F).set j (.int v)=Qez h (λk=>if k=j then v else F k):=by
 apply Yi
 intro k;rw[Qsn];by_cases z:j=k
 ·subst z;rw[if_pos rfl,if_pos (by rw[Qct];omega),QdT hj,if_pos rfl]
 ·rw[if_neg z];by_cases z2:k<=h
  ·rw[QdT z2,QdT z2,if_neg (λe=>z e.symm)]
  ·rw[Q1 (by rw[Qct];omega),Q1 (by rw[Qct];omega)]
theorem cut_last(xs:List Qa):Dl.cutD xs none (some (-1))=xs.take (xs.length - 1):=by
 unfold Dl.cutD;rw[HT.Qey,Zw,QlY]
 congr 1
 have e:HT.sIx xs.length xs.length (some (-1))=((-1:Int)+(xs.length:Int)).toNat:=by unfold HT.sIx;dsimp only;rw[if_pos (by decide)]
 rw[e];omega
theorem Qv8:∀t:Fin 64,∀c:Fin 6,Qc4 ((t:Nat):Int) (1*2^((c:Nat):Int).toNat)=if(t:Nat).testBit c=true then 2^(c:Nat) else 0:=by decide +kernel
theorem Qzf:∀t:Fin 64,∀c:Fin 6,QdL ((t:Nat):Int) (1*2^((c:Nat):Int).toNat)=(((t:Nat) ||| 2^(c:Nat):Nat):Int):=by decide +kernel
theorem QAU{t c w:Nat}(ht:t<2^w)(hc:c<w):t ||| 2^c<2^w:=Nat.or_lt_two_pow ht (Nat.pow_lt_pow_right (by decide) hc)
theorem QpC(h:Nat)(F:Nat->Int):Dl.cutD (Qez h F) none (some (-1))=(Qk h).map λ(k:Nat)=>Qc (F k):=by
 rw[cut_last,Qct];unfold Qez;rw[<- Qjz,QbN,Qwl,Yj (Qo6 h)]
theorem Qwb{t c w:Nat}(ht:t<2^w)(hc:c<w)(w6:w<=6):Qc4 (t:Int) (1*2^((c:Nat):Int).toNat)=if t.testBit c=true then 2^c else 0:=by
 have h64:2^w<=2^6:=Y9 (by decide) w6;exact Qv8 ⟨t,by have e:2^6=64:=rfl;omega⟩ ⟨c,by omega⟩
theorem Qx3{t c w:Nat}(ht:t<2^w)(hc:c<w)(w6:w<=6):QdL (t:Int) (1*2^((c:Nat):Int).toNat)=((t ||| 2^c:Nat):Int):=by
 have h64:2^w<=2^6:=Y9 (by decide) w6;exact Qzf ⟨t,by have e:2^6=64:=rfl;omega⟩ ⟨c,by omega⟩
theorem Qgz(w:Nat):(1*2^((w:Nat):Int).toNat:Int)=((2^w:Nat):Int):=by
 rw[Int.one_mul,Q4];simp
theorem Qy8(cs:List (Int×Int))(r:Nat)(hb:∀p∈cs,0<=p.2):(cs.map pairD).filterMap (λd=>if(toP d).1=(r:Int) then some (.int (toP d).2) else none)=Qcg (QrZ cs r):=by
 unfold Qcg QrZ Qwr;rw[Qax,QN];refine QrR (p:=λp:Int×Int=>decide (p.1=(r:Int))) λp hp=>?_
 show(if p.1=(r:Int) then some (Qc p.2) else none)=if decide (p.1=(r:Int))=true then some (Qc ((p.2.toNat:Nat):Int)) else none
 rw[show((p.2.toNat:Nat):Int)=p.2 by have:=hb p hp;omega];by_cases z:p.1=(r:Int)
 ·rw[if_pos z,if_pos (decide_eq_true z)]
 ·rw[if_neg z,if_neg (by simpa using z)]
theorem QvT{cs:List (Int×Int)}{w r c:Nat}(hb:∀p∈cs,0<=p.2/\p.2<w)(h:c∈QrZ cs r):c<w:=by
 unfold QrZ Qwr at h;obtain⟨p,hp,rfl⟩:=Qx.mp h;have:=hb p (JB.mp hp).1;omega
theorem QjK(cs:List (Int×Int))(h w:Nat):∀i,(Qsy cs h w i).length=i+1
 |0=>rfl
 |i+1=>by show(Qsy cs h w i).length+1=_;rw[QjK cs h w i]
theorem Qmg(cs:List (Int×Int))(h w:Nat):∀i,(Qsy cs h w i)[0]? = some (.list (Qk7 h w (Wc cs h i)))
 |0=>rfl
 |_+1=>rfl
theorem QpB(cs:List (Int×Int))(h t:Nat):Qez h (Wc cs h 0 t)=Qc 1::QP h (.int 0):=by
 apply Yi
 intro k;cases k with
 |zero=>rw[QdT (Qt _)];rfl
 |succ k=>
  by_cases z:k+1<=h
  ·rw[QdT z,Zo,Yo,if_pos (by omega)];rfl
  ·rw[Q1 (by rw[Qct];omega),Zo,Yo,if_neg (by omega)]
theorem QtZ(h:Nat):(QP h [Qc 0]).flatten=QP h (.int 0):=by
 induction h with
 |zero=>rfl
 |succ h ih=>rw[Zh,Yh,ih];rfl
theorem QsO{w:Nat}(h:w<=6) : -1000000<=(1*2^((w:Nat):Int).toNat:Int)/\(1*2^((w:Nat):Int).toNat:Int)<=1000000:=by
 have p64:2^w<=64:=Y9 (n:=2) (by decide) h;rw[Qgz];generalize 2^w=x at p64;omega
def sumZ{α:Type}(f:α->Int):List α->Int
 |[]=>0
 |x::xs=>f x+sumZ f xs
theorem QjN{α:Type}(f:α->Int):∀a b:List α,sumZ f (a++b)=sumZ f a+sumZ f b
 |[],b=>by show _=0+_;rw[Qfw];rfl
 |x::a,b=>by show _+sumZ f (a++b)=_+sumZ f a+_;rw[QjN f a b];omega
theorem Qmj{α β:Type}(f:β->Int)(g:α->List β):∀a:List α,sumZ f (a.flatMap g)=sumZ (λx=>sumZ f (g x)) a
 |[]=>rfl
 |x::a=>by rw[Qb2,QjN,Qmj f g a];rfl
theorem Qas{α:Type}{f g:α->Int}:∀{a:List α},(∀x∈a,f x=g x)->sumZ f a=sumZ g a
 |[],_=>rfl
 |x::a,h=>by show f x+_=g x+_;rw[h x (.head _),Qas λy hy=>h y (.tail _ hy)]
theorem Qgh{α:Type}(f g:α->Int):∀a:List α,sumZ (λx=>f x+g x) a=sumZ f a+sumZ g a
 |[]=>rfl
 |x::a=>by show(f x+g x)+sumZ _ a=f x+sumZ f a+(g x+sumZ g a);rw[Qgh f g a];omega
theorem Y1{α:Type}(f:α->Int)(p:α->Bool):∀a:List α,sumZ f (a.filter p)=sumZ (λx=>if p x=true then f x else 0) a
 |[]=>rfl
 |x::a=>by
  by_cases z:p x=true
  ·rw[Qav z];show f x+_=(if p x=true then f x else 0)+_;rw[if_pos z,Y1 f p a]
  ·rw[Qaw z];show _=(if p x=true then f x else 0)+_;rw[if_neg z,Y1 f p a,Qfw]
theorem sumZ_zero{α:Type}:∀a:List α,sumZ (λ_=>0) a=0
 |[]=>rfl
 |x::a=>by show 0+sumZ _ a=0;rw[sumZ_zero a];rfl
theorem Qfy{α:Type}(p:α->Bool):∀a:List α,sumZ (λx=>if p x=true then 1 else 0) a=((a.countP p:Nat):Int)
 |[]=>rfl
 |x::a=>by
  show(if p x=true then 1 else 0)+_=_;rw[Qfy p a];by_cases z:p x=true
  ·rw[if_pos z,List.countP_cons_of_pos z];omega
  ·rw[if_neg z,List.countP_cons_of_neg z];omega
theorem Qhu{α:Type}(B:Nat->Nat->Int)(t k:Nat)(g:α->Nat):∀a:List α,Qpm B t (a.map g) k=sumZ (λx=>if t.testBit (g x)=true then 0 else B (t ||| 2^g x) k) a
 |[]=>rfl
 |x::a=>by show _+Qpm B t (a.map g) k=_+_;rw[Qhu B t k g a]
end Rk
namespace L2
section
variable{X:Cx}
end
end L2
namespace Dl
open L2 _root_.Rd Rk
end Dl
namespace Rk
open L2 _root_.Rd Dl Rt
def wo(cs:List (Int×Int))(c:Int×Int):List (Int×Int):=cs.filter λp => !decide (p=c)
theorem QfV{α β:Type}{f g:α->List β}:∀{xs:List α},(∀x∈xs,f x=g x)->xs.flatMap f=xs.flatMap g
 |[],_=>rfl
 |x::xs,h=>by rw[Qb2,Qb2,h x (.head _),QfV λy hy=>h y (.tail _ hy)]
def Bds(h w:Nat)(cs:List (Int×Int)):Prop:=h<=6/\w<=6/\∀p∈cs,0<=p.1/\p.1<h/\0<=p.2/\p.2<w
theorem Bds.wo{h w:Nat}{cs:List (Int×Int)}(b:Bds h w cs)(c:Int×Int):Bds h w (wo cs c):=⟨b.1,b.2.1,λp hp=>b.2.2 p (JB.mp hp).1⟩
theorem Bds.nn{h w:Nat}{cs:List (Int×Int)}(b:Bds h w cs):∀p∈cs,0<=p.2:=λp hp=>(b.2.2 p hp).2.2.1
end Rk
namespace Dl
open L2 _root_.Rd Rk
section
variable{X:Cx}{E:XK}{st:Y7}{we:DE}
end
end Dl
namespace Rk
open L2 _root_.Rd Dl Rt
end Rk
namespace L2
section
variable{X:Cx}
end
end L2
namespace Dl
open L2 _root_.Rd Rk Rt
end Dl
namespace Rk
open L2 _root_.Rd Dl Rt
theorem Qu9{x:Int}{ns:List Int}(h:nfI (x::ns)=true):nfI ns=true:=by
 cases ns with
 |nil=>rfl
 |cons y r=>exact(Qy.mp (show(decide (x<=y)&&nfI (y::r))=true from h)).2
theorem Qne:∀{ns:List Int},nfI ns=true->∀x∈ns,x<=ns.getLastD 0
 |[],_,_,h=>(nomatch h)
 |[a],_,x,h=>by rw[Jf.mp h];exact Qpb _
 |a::b::r,hn,x,hx=>by
  have h2:=Qy.mp (show(decide (a<=b)&&nfI (b::r))=true from hn);have ih:=Qne (ns:=b::r) h2.2;have e:(a::b::r).getLastD 0=(b::r).getLastD 0:=by rw[Z8,Z8,QjA]
  rw[e];rcases Qr.mp hx with z | z
  ·rw[z];exact QbO (of_decide_eq_true h2.1) (ih b (.head _))
  ·exact ih x z
theorem Qoj(p:Nat->Bool)(h:Nat):(Qk (h+1)).countP p=(Qk h).countP p+if p h=true then 1 else 0:=by
 rw[ZN,List.countP_append,List.countP_singleton]
theorem Qs6(m:Int)(h0:0<=m):∀h:Nat,m<=(h:Int)->(((Qk h).countP λ(r:Nat)=>decide ((r:Int)<m):Nat):Int)=m
 |0,hm=>by show(0:Int)=m;omega
 |h+1,hm=>by
  rw[Qoj];by_cases z:(h:Int)<m
  ·have e:(Qk h).countP (λ(r:Nat)=>decide ((r:Int)<m))=h:=by
    have:(Qk h).countP (λ(r:Nat)=>decide ((r:Int)<m))=(Qk h).length:=List.countP_eq_length.mpr λr hr=>decide_eq_true (by have:=QF.mp hr;omega)
    rw[this,Qz]
   rw[e,if_pos (decide_eq_true z)];omega
  ·rw[if_neg (by simpa using z),QbM];exact Qs6 m h0 h (by omega)
theorem getD_mem{ns:List Int}{c:Nat}(h:c<ns.length):ns.getD c 0∈ns:=by
 rw[Qh,Qf h];exact Yr h
def wt(cs L:List (Int×Int)):Nat:=(cs.filter (QCJ L)).length
def QiX:DF:=λargs R _=>∃ns,args=[.v (tI ns)]/\ZZ ns/\R .none
def QzE:DF:=λargs R _=>∃ns,args=[.v (tI ns)]/\ZZ ns/\R (sBd ns)
end Rk
namespace L2
open _root_.Rd
section
variable{X:Cx}
theorem Qok{h:Heap}{d:Qa}:∀{vs:List Value}{ds:List Qa}{as:List Addr},YA h vs ds as->Ja ds=true->vs.countP (eqH h d)=ds.countP λe=>QL e d
 |_,_,_,.nil,_=>rfl
 |_,_,_,.cons r rs,c=>by
  simp only[Ja,JR] at c;rw[Qtt,Qtt,Qn2 r c.1,Qok rs c.2]
def QBR(u:Nat):V->List V->Hp->VK->Prop:=λx vs H Q=>∃l ps ds y d,x=.ref l/\vs=[y]/\H l=some (.lst ps)/\Dats H ps ds/\Dat H y d/\u+d.depth<cLine/\Q (.int (ds.countP λe=>QL e d:Nat)) H
theorem mt_count:MtR X "list.count" (QBR X.A.in1.units):=by
 intro pins s σ H x vs v us Q I rx rv h;obtain⟨l,ps,ds,y,d,rfl,rfl,hH,qs,qy,hu,q⟩:=h;cases rx;obtain⟨u,rfl,ru⟩:=rv.one;obtain⟨⟨as,ra⟩,ca⟩:=Qal I.hok d y u qy ru;obtain⟨z,its,n,r,hl',e⟩:=I.lstM hH;obtain⟨⟨bs,rb⟩,cb⟩:=Qat I.hok ds ps its qs r;refine QbJ QwL ⟨_,e,rfl⟩ Qwn (Qtw _ _) (QoT l its.toArray n _ _ u (eqH s.heap d)) ⟨e,λy hy=>QgD ra ca rb cb hu y (QcF.mp hy),?_⟩;rw[show its.toArray.toList=its from rfl,Qok rb cb];exact⟨.int _,H,I.kept λ_ _ e=>e,⟨_,rfl⟩,q⟩
end
end L2
namespace Dl
open L2 _root_.Rd Rk Rt
section
variable{X:Cx}{E:XK}
def QCa(rD:List Qa->Qa->(Qa->Prop)->Prop)(wa wb:DE):DE:=λδ Q EX=>wa δ (λd1=>match d1 with
 |.list ds=>wb δ (λd2=>rD ds d2 Q) EX
 |_=>False) EX
def QCm(r:V->List V->Hp->VK->Prop)(rD:List Qa->Qa->(Qa->Prop)->Prop):Prop:=∀(A P:Addr->Prop)(H:Hp)(l:Addr)(y:V)(ds:List Qa)(d2:Qa)(R:Qa->Prop)(Q:VK),DP A P H (.ref l) (.list ds)->DP A P H y d2->rD ds d2 R->(∀i:Int,R (.int i)->Q (.int i) H)->r (.ref l) [y] H Q
theorem Qrw{r:V->List V->Hp->VK->Prop}{rD:List Qa->Qa->(Qa->Prop)->Prop}{wa wb:DE}{K:PySem.W.Frag}(hd:QCm r rD)(σ:L2.St)(H:Hp)(Q:VK)(h:tX .F K E (QCa rD wa wb) σ H Q):tBM K "list" r (tX .P K E wa) (Qfr (tX .P K E wb) Qwp) σ H Q:=by
 obtain⟨F,δ,R,EX,rel,hw,k,o⟩:=h;refine⟨F,δ,_,EX,rel,hw,λd1 h1 x H1 rel1 kp1 x1=>?_,o⟩;cases d1<;>first | exact(show False from h1).elim | skip
 rename_i ds
 obtain⟨l,xs,rfl,e,q⟩:=DP.list x1;refine⟨.inl ⟨rfl,xs,SqL.of e⟩,F,δ,_,EX,rel1,h1,λd2 h2 y H2 rel2 kp2 y2=>?_,o⟩;refine hd (Av F σ δ) (Yn σ δ) H2 l y ds d2 R Q (kp2.dp x1) y2 h2 λi hR=>?_
 exact k _ hR _ H2 rel2 (kp1.trans kp2) ⟨.int i,λl e1 e2=>nomatch e1⟩
def Qzb(ds:List Qa)(d:Qa)(Q:Qa->Prop):Prop:=(nds ds=true/\nd d=true/\d.depth<=50)/\Q (.int (ds.countP λe=>QL e d:Nat))
theorem Qyr{u:Nat}(hu:u+60<cLine):QCm (QBR u) Qzb:=λA P H l y ds d2 R Q hx hy h k=>by
 obtain⟨⟨n1,n2,n3⟩,hR⟩:=h;obtain⟨l',xs,e0,e,q⟩:=DP.list hx;cases e0;exact⟨l,xs,ds,y,d2,rfl,rfl,e,QbI _ _ n1 q,hy.dat n2,by omega,k _ hR⟩
theorem QAF{o e:Q2}{wo we:DE}{apos cpos:Pos}(hu:X.A.in1.units+60<cLine)(ho:QE .P X E o wo)(he:QE .P X E e we)(hst:notStar e=true:=by rfl)(hbase:attributeBase o "count" X.env (eval o X.env)=eval o X.env:=by rfl)(hfew:((backTo cpos (starEach [e] X.env)).all (λx => !x.1)&&(backToKw cpos (keywordEach [] X.env)).all (λx=>x.1.isSome)&&decide ([e].length+([]:List Qk0).length+(if([]:List Qk0).isEmpty then 0 else 1)<30))=true:=by rfl)(hline:(apos.endLine == cpos.line)=true:=by rfl):QE .F X E (.Call (.Attribute o "count" apos) [e] [] cpos) (QCa Qzb wo we):=
 ⟨PE.imp (QxM PySem.F.plainAttrs_list PySem.F.slot_list_count PySem.F.type_list_count mt_count ho.h (Qfj he.h Yk hst) hbase hfew hline (Yc hst) rfl) (Qrw (Qyr hu))⟩
end
end Dl
namespace Rk
open L2 _root_.Rd Dl Rt
def wo1(C:List Nat)(c:Nat):List Nat:=C.filter λd => !decide (d=c)
def Pf(f:Nat->Nat->Bool):List Nat->List Nat->Nat->Int
 |[],_,k=>if k=0 then 1 else 0
 |r::R,C,k=>Pf f R C k+(if k=0 then 0 else sumZ (λc=>Pf f R (wo1 C c) (k - 1)) (C.filter (f r)))
theorem QtB(C:List Nat)(c d:Nat):wo1 (wo1 C c) d=wo1 (wo1 C d) c:=by
 unfold wo1;rw[YC,YC];exact Qb3 λx _=>QjD _ _
theorem Qnq{C:List Nat}{c d:Nat}:d∈wo1 C c↔d∈C/\d≠c:=by
 unfold wo1;rw[JB,Qb4,decide_eq_false_iff_not]
theorem Qym{C:List Nat}(h:C.Nodup)(c:Nat):(wo1 C c).Nodup:=Yu _ h
theorem QAk{C:List Nat}{c:Nat}(h:c∉C):wo1 C c=C:=by
 unfold wo1;rw[Qbl];intro d hd;rw[decide_eq_false (λe=>h (by rw[<- e];exact hd))];rfl
theorem Qnu:∀{C:List Nat}{c:Nat},C.Nodup->c∈C->(wo1 C c).length+1=C.length
 |d::C,c,nd,hc=>by
  have nd:=ZO.mp nd;by_cases z:d=c
  ·subst z;have e:wo1 (d::C) d=wo1 C d:=by unfold wo1;rw[Qaw (by simp)]
   rw[e,QAk nd.1];rfl
  ·have e:wo1 (d::C) c=d::wo1 C c:=by unfold wo1;rw[Qav (by simp[z])]
   have hc:c∈C:=by
    rcases Qr.mp hc with y | y
    ·exact absurd y.symm z
    ·exact y
   rw[e,Qv,Qnu nd.2 hc];rfl
theorem Qhs{α β:Type}(g:α->β->Int):∀(C:List α)(D:List β),sumZ (λc=>sumZ (g c) D) C=sumZ (λd=>sumZ (λc=>g c d) C) D
 |[],D=>(sumZ_zero D).symm
 |c::C,D=>by
  show sumZ (g c) D+sumZ _ C=sumZ (λd=>g c d+sumZ (λc=>g c d) C) D;rw[Qhs g C D,Qgh]
theorem Qpk{α:Type}(f:α->Int)(x:Int):∀a:List α,sumZ (λy=>f y*x) a=sumZ f a*x
 |[]=>by show(0:Int)=0*x;rw[Qdc]
 |y::a=>by show f y*x+_=(f y+_)*x;rw[Qpk f x a,Int.add_mul]
theorem Qht{α:Type}(f:α->Int)(x:Int):∀a:List α,sumZ (λy=>x*f y) a=x*sumZ f a
 |[]=>by show(0:Int)=x*0;rw[Ql4]
 |y::a=>by show x*f y+_=x*(f y+_);rw[Qht f x a,Qhl]
theorem Qmk{α:Type}(F:α->Int)(p q:α->Bool)(a:List α):sumZ F ((a.filter p).filter q)=sumZ (λx=>if p x=true then(if q x=true then F x else 0) else 0) a:=by
 rw[Y1 F q,Y1 _ p]
theorem Qju(f:Nat->Nat->Bool):∀(R C:List Nat)(j:Nat),C.Nodup->sumZ (λc=>Pf f R (wo1 C c) j) C=((C.length:Int) - j)*Pf f R C j
 |[],C,j,_=>by
  show sumZ (λ_=>if j=0 then(1:Int) else 0) C=_*(if j=0 then 1 else 0);by_cases z:j=0
  ·subst z;rw[if_pos rfl];have:sumZ (λ_:Nat=>(1:Int)) C=(C.length:Int):=by
    have:=Qfy (λ_:Nat=>true) C;simp only[if_true] at this;rw[this,List.countP_true]
   rw[this];omega
  ·rw[if_neg z,sumZ_zero,Ql4]
 |r::R,C,j,nd=>by
  show sumZ (λc=>Pf f R (wo1 C c) j+(if j=0 then 0 else sumZ (λd=>Pf f R (wo1 (wo1 C c) d) (j - 1)) ((wo1 C c).filter (f r)))) C=_*(Pf f R C j+(if j=0 then 0 else _));rw[Qgh,Qju f R C j nd,Qhl]
  congr 1
  by_cases z:j=0
  ·rw[if_pos z,Ql4];rw[Qas (g:=λ_=>0) λc _=>if_pos z,sumZ_zero]
  ·rw[if_neg z];rw[Qas (g:=λc=>sumZ (λd=>if(!decide (d=c))=true then(if f r d=true then Pf f R (wo1 (wo1 C c) d) (j - 1) else 0) else 0) C) λc _=>by rw[if_neg z];exact Qmk _ _ _ C];rw[Qhs,<- Qht,Y1];refine Qas λd hd=>?_
   by_cases y:f r d=true
   ·rw[if_pos y];have e:=Qju f R (wo1 C d) (j - 1) (Qym nd d);have l:=Qnu nd hd;rw[show((wo1 C d).length:Int) - ((j - 1:Nat):Int)=(C.length:Int) - j by omega] at e;rw[<- e];show _=sumZ _ (C.filter λx => !decide (x=d));rw[Y1];refine Qas λc hc=>?_
    by_cases x:c=d
    ·subst x;have n0:¬(!decide (c=c))=true:=by simp
     rw[if_neg n0,if_neg n0]
    ·have n1:(!decide (d=c))=true:=by simp;exact λe=>x e.symm
     have n2:(!decide (c=d))=true:=by simp[x]
     rw[if_pos n1,if_pos y,if_pos n2,QtB]
   ·rw[if_neg y];refine Eq.trans (Qas (g:=λ_=>0) λc _=>?_) (sumZ_zero C);rw[if_neg y];split<;>rfl
theorem QeO(f g:Nat->Int):∀n,Qdh n (λj=>f j+g j)=Qdh n f+Qdh n g
 |0=>rfl
 |n+1=>by show Qdh n (λj=>f j+g j)+(f n+g n)=(Qdh n f+f n)+(Qdh n g+g n);rw[QeO f g n];omega
theorem Qfz(f:Nat->Int):∀n,Qdh (n+1) f=f 0+Qdh n λj=>f (j+1)
 |0=>by show 0+f 0=f 0+0;omega
 |n+1=>by
  show Qdh (n+1) f+f (n+1)=f 0+(Qdh n (λj=>f (j+1))+f (n+1));rw[Qfz f n];omega
def QhA(h:Nat):Nat->List Nat
 |0=>[]
 |i+1=>(h - 1 - i)::QhA h i
def QgR(w t:Nat):List Nat:=(Qk w).filter λc => !t.testBit c
theorem QrY(w t c:Nat):QgR w (t ||| 2^c)=wo1 (QgR w t) c:=by
 unfold QgR wo1;rw[YC];refine Qb3 λd _=>?_
 rw[Qzv,Qo5,Bool.not_or,QjD]
 congr 1
 rw[show decide (c=d)=decide (d=c) from decide_eq_decide.mpr ⟨λe=>e.symm,λe=>e.symm⟩]
theorem QlE(w:Nat):QgR w 0=Qk w:=by
 unfold QgR;rw[Qbl];intro c _;simp
theorem QsF(w:Nat)(f:Nat->Nat->Bool){r:Nat}:∀h,r<h->Qwr (YS h w f) r=QiU r w f
 |h+1,hr=>by
  unfold Qwr;rw[QcV,List.filter_append];have no:∀(q:Nat)(L:List (Int×Int)),(∀p∈L,p.1≠(r:Int))->L.filter (λp=>decide (p.1=(r:Int)))=[]:=λq L hL=>by
   rw[List.filter_eq_nil_iff];intro p hp;rw[decide_eq_false (hL p hp)];exact QC
  by_cases z:r<h
  ·have ih:=QsF w f h z;unfold Qwr at ih;rw[ih,no 0 _ λp hp=>?_,JK];obtain⟨c,_,_,rfl⟩:=QeC.mp hp;show(h:Int)≠r;omega
  ·have e:r=h:=by omega
   subst e;rw[no 0 (YS r w f) λp hp=>?_,Qbk,Qbl.mpr λp hp=>?_]
   ·obtain⟨c,_,_,rfl⟩:=QeC.mp hp;exact decide_eq_true rfl
   ·have:=(Qfe hp).2.1;omega
theorem Qy9{h w r:Nat}(f:Nat->Nat->Bool)(hr:r<h):QrZ (YS h w f) r=(Qk w).filter (f r):=by
 unfold QrZ;rw[QsF w f h hr];unfold QiU;rw[QN]
 conv=>rhs;rw[<- QaE ((Qk w).filter (f r))]
 exact Q8 λc _=>by show((c:Int)).toNat=c;omega
theorem QBt{h w:Nat}(f:Nat->Nat->Bool):∀(i t k:Nat),i<=h->Wc (YS h w f) h i t k=Pf f (QhA h i) (QgR w t) k
 |0,t,k,_=>rfl
 |i+1,t,k,hi=>by
  show Wc (YS h w f) h i t k+(if k=0 then 0 else Qpm (Wc (YS h w f) h i) t (QrZ (YS h w f) (h - 1 - i)) (k - 1))=Pf f (QhA h i) (QgR w t) k+(if k=0 then 0 else sumZ (λc=>Pf f (QhA h i) (wo1 (QgR w t) c) (k - 1)) ((QgR w t).filter (f (h - 1 - i))));rw[QBt f i t k (by omega)]
  congr 1
  by_cases z:k=0
  ·rw[if_pos z,if_pos z]
  ·rw[if_neg z,if_neg z,Qy9 f (by omega)];have e:=Qhu (Wc (YS h w f) h i) t (k - 1) (λc:Nat=>c) ((Qk w).filter (f (h - 1 - i)));rw[List.map_id'] at e;rw[e,Y1];show _=sumZ _ (((Qk w).filter λc => !t.testBit c).filter (f (h - 1 - i)));rw[Qmk];refine Qas λc _=>?_
   cases hb:t.testBit c with
   |true=>simp
   |false=>
    rw[if_neg QC,if_pos (show(!false)=true from rfl),QBt f i (t ||| 2^c) (k - 1) (by omega),QrY]
theorem Qwd{h w:Nat}(f:Nat->Nat->Bool)(k:Nat):Wc (YS h w f) h h 0 k=Pf f (QhA h h) (Qk w) k:=by
 rw[QBt f h 0 k (Qj _),QlE]
def oth(n:Nat)(o:List Nat):List Nat:=(Qk n).filter λx => !decide (x∈o)
def ordsN(n:Nat):Nat->List (List Nat)
 |0=>[[]]
 |i+1=>(ordsN n i).flatMap λo=>(oth n o).map λx=>o++[x]
theorem Qdp{n:Nat}:∀{i:Nat}{o:List Nat},o∈ordsN n i->o.length=i
 |0,o,h=>by rw[Jf.mp h];rfl
 |i+1,o,h=>by
  obtain⟨p,hp,ho⟩:=Z1.mp h;obtain⟨x,_,rfl⟩:=Qx.mp ho;rw[Qs,Qdp hp];rfl
theorem QuO(n:Nat)(o:List Nat):(oth n o).length<=n:=by
 unfold oth;exact Jk (Qc2 _ _) (by rw[Qz];exact Qj _)
theorem QnY{α β:Type}(g:α->List β)(n:Nat):∀xs:List α,(∀x∈xs,(g x).length<=n)->(xs.flatMap g).length<=xs.length*n
 |[],_=>by simp
 |x::xs,h=>by
  rw[Qb2,Qs,Qv,QlW];have:=QnY g n xs λy hy=>h y (.tail _ hy)
  have:=h x (.head _);omega
theorem Qrg{n:Nat}(h6:n<=6):∀i,i<=6->(ordsN n i).length<=50000
 |i,hi=>by
  have q:∀i,(ordsN n i).length<=n^i:=λi=>by
   induction i with
   |zero=>exact Qj _
   |succ i ih=>
    refine Jk (QnY _ n _ λo _=>by rw[Qg];exact QuO n o) ?_
    rw[QlZ];exact Nat.mul_le_mul_right _ ih
  have a:=q i;have b:n^i<=6^i:=Nat.pow_le_pow_left h6 i;have c:6^i<=6^6:=Y9 (by decide) hi;have e:(6:Nat)^6=46656:=rfl;omega
def tNn(o:List Nat):Qa:=.tuple (Qcg o)
def QAT:DF:=λargs R _=>∃(n:Nat)(o:List Nat),args=[.v (.int n),.v (tNn o)]/\n<=6/\R (.list (Qcg (oth n o)))
def QuP:DF:=λargs R _=>∃n:Nat,args=[.v (.int n)]/\n<=6/\R (.list ((ordsN n n).map tNn))
theorem Qi3{n:Nat}:∀{i:Nat}{o:List Nat},o∈ordsN n i->∀x∈o,x<n
 |0,o,h,x,hx=>by rw[Jf.mp h] at hx;cases hx
 |i+1,o,h,x,hx=>by
  obtain⟨p,hp,ho⟩:=Z1.mp h;obtain⟨y,hy,rfl⟩:=Qx.mp ho;rcases Jr.mp hx with z | z
  ·exact Qi3 hp x z
  ·rw[Jf.mp z];exact QF.mp (JB.mp hy).1
def cI(cs:List (Int×Int))(h w:Nat):List Int:=(Qk (min h w+1)).map (Wc cs h h 0)
theorem Qza(cs:List (Int×Int))(h w:Nat):Qwv cs h w=(cI cs h w).map Qc:=by
 unfold Qwv cI;rw[QN];rfl
theorem QgN(ns:List Int):QL (.list (ns.map Qc)) (.list (ns.map Qc))=true:=by
 show Qd9 (ns.map Qc) (ns.map Qc)=true;induction ns with
 |nil=>rfl
 |cons x ns ih=>
  show(QL (.int x) (.int x)&&Qd9 (ns.map Qc) (ns.map Qc))=true;rw[ih,QjC];show decide (x=x)=true;exact decide_eq_true rfl
end Rk
namespace HT
section
open PySem.SeqAt
open PySem.AutoSeq1 (wpAny_loadPart')
open PySem.MeetsSeq PySem.MeetsSeq2 PySem.MeetsSeq3
end
section
variable{prog:QD}{w:Jl}{A:Je}{E:Value->Shared->Prop}{s:Shared}
end
end HT
namespace L2
end L2
namespace Rk
open L2 _root_.Rd Dl Rt
end Rk
namespace Dl
open L2 _root_.Rd Rk Rt
end Dl
namespace Rk
open L2 _root_.Rd Dl Rt
theorem QhL{n:Nat}{o:List Nat}(h:o∈ordsN n n):o.Perm (Qk n):=by
 have nd:∀{i:Nat}{o:List Nat},o∈ordsN n i->o.Nodup:=λ{i}=>by
  induction i with
  |zero=>intro o h;rw[Jf.mp h];exact .nil
  |succ i ih=>
   intro o h;obtain⟨p,hp,ho⟩:=Z1.mp h;obtain⟨x,hx,rfl⟩:=Qx.mp ho;refine Qsm.mpr ⟨ih hp,by simp,λa ha b hb e=>?_⟩;rw[Jf.mp hb] at e;have:=(JB.mp hx).2;rw[Qb4,decide_eq_false_iff_not] at this;exact this (by rw[<- e];exact ha)
 have p1:o.Perm ((Qk n).filter λx=>decide (x∈o)):=(Qbx (nd h) (Yu _ Qag)).mpr λx=>by
  rw[JB,QF];exact⟨λhx=>⟨Qi3 h x hx,decide_eq_true hx⟩,λhx=>of_decide_eq_true hx.2⟩
 have l1:=p1.length_eq;have l2:=List.length_eq_countP_add_countP (λx=>decide (x∈o)) (l:=Qk n);rw[Qz,List.countP_eq_length_filter,<- l1,Qdp h] at l2;have l3:(Qk n).countP (λx=>decide (¬decide (x∈o)=true))=0:=by omega
 have al:(Qk n).filter (λx=>decide (x∈o))=Qk n:=Qbl.mpr λx hx=>by
  have:=List.countP_eq_zero.mp l3 x hx
  simpa using this
 rw[al] at p1;exact p1
end Rk
namespace Zt
def f5(M x:Nat):Nat:=(x*5+1) % M
def it5(M:Nat):Nat->Nat->Nat
 |0,x=>x
 |n+1,x=>it5 M n (f5 M x)
theorem QgH(M:Nat):∀(m n x:Nat),it5 M (m+n) x=it5 M n (it5 M m x)
 |0,n,x=>by rw[JT];rfl
 |m+1,n,x=>by rw[QlX];exact QgH M m n (f5 M x)
def Qy6(M:Nat):Nat->Nat->Nat->Nat
 |0,_,acc=>acc
 |n+1,x,acc=>Qy6 M n (f5 M x) (acc ||| 2^x)
theorem QkC(M j:Nat):∀(n x acc:Nat),(Qy6 M n x acc).testBit j=true->acc.testBit j=true∨∃b,b<n/\it5 M b x=j
 |0,_,_,h=>.inl h
 |n+1,x,acc,h=>by
  rcases QkC M j n (f5 M x) (acc ||| 2^x) h with z | ⟨b,hb,e⟩
  ·rw[Qzv,Qwo,Qo5] at z;rcases z with z | z
   ·exact .inl z
   ·exact .inr ⟨0,by omega,by show x=j;simpa using z⟩
  ·exact .inr ⟨b+1,by omega,e⟩
def Qch(M:Nat):Bool:=decide (Qy6 M M 0 0=2^M - 1)&&decide (it5 M M 0=0)
theorem Qs0:Qch 8=true:=by decide +kernel
theorem QvA:Qch 32=true:=by decide +kernel
theorem QrL:Qch 128=true:=by decide +kernel
theorem QrK:Qch 512=true:=by decide +kernel
theorem QnP:Qch 2048=true:=by decide +kernel
theorem QrJ{M:Nat}(h:Qch M=true){i j:Nat}(hi:i<M)(hj:j<M):∃n,n<M/\it5 M n i=j:=by
 have h:=Qy.mp h;have h1:Qy6 M M 0 0=2^M - 1:=of_decide_eq_true h.1;have h2:it5 M M 0=0:=of_decide_eq_true h.2;have all:∀k,k<M->∃b,b<M/\it5 M b 0=k:=λk hk=>by
  have:(Qy6 M M 0 0).testBit k=true:=by rw[h1,Nat.testBit_two_pow_sub_one];exact decide_eq_true hk
  rcases QkC M k M 0 0 this with z | z
  ·simp at z
  ·exact z
 obtain⟨a,ha,rfl⟩:=all i hi;obtain⟨b,hb,rfl⟩:=all j hj;by_cases z:a<=b
 ·exact⟨b - a,by omega,by rw[<- QgH,show a+(b - a)=b by omega]⟩
 ·refine⟨M - a+b,by omega,?_⟩;rw[<- QgH,show a+(M - a+b)=M+b by omega,QgH,h2]
def QcS(mask:Nat):Nat->Nat×Nat->Nat×Nat
 |0,p=>p
 |n+1,p=>QcS mask n (Yf mask p.1 p.2)
theorem QhY(mask:Nat):∀(m n:Nat)(p:Nat×Nat),QcS mask (m+n) p=QcS mask n (QcS mask m p)
 |0,n,p=>by rw[JT];rfl
 |m+1,n,p=>by rw[QlX];exact QhY mask m n _
theorem QhW(mask:Nat):∀(n:Nat)(p:Nat×Nat),(QcS mask n p).2=p.2 / 32^n
 |0,p=>by show p.2=p.2 / 1;omega
 |n+1,p=>by
  show(QcS mask n (Yf mask p.1 p.2)).2=_;rw[QhW mask n];show p.2 / 32 / 32^n=_;rw[Nat.div_div_eq_div_mul,QlZ,Ql0]
theorem QhX(mask:Nat):∀(n i:Nat),QcS mask n (i,0)=(it5 (mask+1) n i,0)
 |0,i=>rfl
 |n+1,i=>by
  show QcS mask n (Yf mask i 0)=_;have:Yf mask i 0=(f5 (mask+1) i,0):=by
   show((i*5+1+0 / 32) % (mask+1),0 / 32)=_;simp[f5]
  rw[this,QhX mask n];rfl
theorem Qkh{mask:Nat}:∀(n:Nat)(p:Nat×Nat),p.1<mask+1->(QcS mask n p).1<mask+1
 |0,_,h=>h
 |n+1,p,_=>Qkh n _ (QdA _ (QbL _))
theorem QfS{mask:Nat}(hg:Qch (mask+1)=true){i perturb j:Nat}(hi:i<mask+1)(hp:perturb<2^64)(hj:j<mask+1):∃n,n<mask+14/\(QcS mask n (i,perturb)).1=j:=by
 have h13:=QhW mask 13 (i,perturb);have:perturb / 32^13=0:=Nat.div_eq_of_lt (QY hp (by decide));rw[show(i,perturb).2=perturb from rfl,this] at h13;have hl:=Qkh 13 (i,perturb) hi;obtain⟨n,hn,e⟩:=QrJ hg hl hj;refine⟨13+n,by omega,?_⟩;rw[QhY,show QcS mask 13 (i,perturb)=((QcS mask 13 (i,perturb)).1,0) from Prod.ext rfl h13,QhX];exact e
def stps(t:SetTable):Nat->J9->J9
 |0,p=>p
 |n+1,p=>stps t n (t.advance p)
theorem YV(t:SetTable):∀(m n:Nat)(p:J9),stps t (m+n) p=stps t n (stps t m p)
 |0,n,p=>by rw[JT];rfl
 |m+1,n,p=>by rw[QlX];exact YV t m n _
def Qpx(t:SetTable)(i perturb:Nat)(d:Option Nat):J9:={ j:=i,more:=Jp t.mask i - i,i:=i,perturb:=perturb,dummy:=d }
theorem Qhv(t:SetTable):∀(m j i perturb:Nat)(d:Option Nat),stps t m { j:=j,more:=m,i:=i,perturb:=perturb,dummy:=d }={ j:=j+m,more:=0,i:=i,perturb:=perturb,dummy:=d }
 |0,_,_,_,_=>rfl
 |m+1,j,i,perturb,d=>by
  show stps t m (t.advance _)=_;have:t.advance { j:=j,more:=m+1,i:=i,perturb:=perturb,dummy:=d }={ j:=j+1,more:=m,i:=i,perturb:=perturb,dummy:=d }:=by
   unfold YX;rw[if_pos (by show m+1 > 0;omega)];rfl
  rw[this,Qhv t m,show j+1+m=j+(m+1) by omega]
theorem Qxg(mask i:Nat):Jp mask i - i<=9:=by unfold Jp;split<;>omega
theorem Qgi(t:SetTable)(i perturb:Nat)(d:Option Nat):stps t (Jp t.mask i - i+1) (Qpx t i perturb d)=Qpx t (Yf t.mask i perturb).1 (Yf t.mask i perturb).2 d:=by
 rw[YV];unfold Qpx;rw[Qhv];simp only[stps];unfold YX;rw[if_neg (by show ¬(0:Nat) > 0;omega)]
theorem QfB(t:SetTable)(d:Option Nat):∀(n i perturb:Nat),∃m,m<=10*n/\stps t m (Qpx t i perturb d)=Qpx t (QcS t.mask n (i,perturb)).1 (QcS t.mask n (i,perturb)).2 d
 |0,i,perturb=>⟨0,by omega,rfl⟩
 |n+1,i,perturb=>by
  obtain⟨m,hm,e⟩:=QfB t d n (Yf t.mask i perturb).1 (Yf t.mask i perturb).2;have:=Qxg t.mask i;refine⟨Jp t.mask i - i+1+m,by omega,?_⟩;rw[YV,Qgi,e];rfl
theorem Qid(h:Int):Ji h<2^64:=by
 unfold Ji;have:=Qsq h (show(0:Int)<2^64 by decide);have:=QwK h (show(2^64:Int)≠0 by decide);omega
theorem Qk8(t:SetTable)(hg:Qch (t.mask+1)=true)(h:Int){j:Nat}(hj:j<t.mask+1):∃m,m<10*Jx t.mask/\(stps t m (t.probeStart h)).j=j:=by
 obtain⟨n,hn,e⟩:=QfS (mask:=t.mask) hg (i:=Ji h % (t.mask+1)) (QdA _ (QbL _)) (Qid h) hj;obtain⟨m,hm,e2⟩:=QfB t none n (Ji h % (t.mask+1)) (Ji h);refine⟨m,by unfold Jx;omega,?_⟩;have:t.probeStart h=Qpx t (Ji h % (t.mask+1)) (Ji h) none:=rfl;rw[this,e2];exact e
theorem QjO:∀{P Q:List Nat},P.Nodup->(∀p∈P,p∈Q)->P.length<=Q.length
 |[],_,_,_=>Qt _
 |p::P,Q,nd,h=>by
  have nd:=ZO.mp nd;have hp:=h p (.head _);have:=QjO (P:=P) (Q:=Q.erase p) nd.2 λx hx=>(Ql2 (show x≠p from λe=>nd.1 (e ▸ hx))).mpr (h x (.tail _ hx))
  rw[QiA hp] at this;have:=QkZ hp;rw[Qv];omega
theorem Qr7{xs:Array Nat}{j:Nat}(pw:xs.toList.Pairwise (· < ·)):∀(fuel lo hi:Nat),hi - lo<=fuel->lo<=hi->hi<=xs.size->(∀k (hk:k<xs.size),k<lo->xs[k]<j)->(∀k (hk:k<xs.size),hi<=k->j<=xs[k]) ->
  QaW xs j fuel lo hi<=xs.size/\(∀k (hk:k<xs.size),k<QaW xs j fuel lo hi->xs[k]<j)/\∀k (hk:k<xs.size),QaW xs j fuel lo hi<=k->j<=xs[k]:=by
 have mono:∀a b (ha:a<xs.size) (hb:b<xs.size),a<=b->xs[a]<=xs[b]:=λa b ha hb h=>by
  by_cases e:a=b
  ·subst e;exact Qj _
  ·have:=Jy.mp pw a b (by simpa using ha) (by simpa using hb) (by omega);simp only[J8] at this;omega
 intro fuel;induction fuel with
 |zero=>
  intro lo hi h1 h2 h3 h4 h5;have:lo=hi:=by omega
  subst this;exact⟨h3,h4,h5⟩
 |succ fuel ih=>
  intro lo hi h1 h2 h3 h4 h5;unfold QaW;by_cases z:lo<hi
  ·rw[if_pos z]
   dsimp only
   have hm:(lo+hi) / 2<xs.size:=by omega
   have eg:xs.getD ((lo+hi) / 2) j=xs[(lo+hi) / 2]:=by simp[Zi,hm]
   rw[eg];by_cases y:xs[(lo+hi) / 2]<j
   ·rw[if_pos y];refine ih _ _ (by omega) (by omega) h3 (λk hk hlt=>?_) h5;have:=mono k ((lo+hi) / 2) hk hm (by omega);omega
   ·rw[if_neg y];refine ih _ _ (by omega) (by omega) (by omega) h4 λk hk hle=>?_
    have:=mono ((lo+hi) / 2) k hm hk hle;omega
  ·rw[if_neg z];have:lo=hi:=by omega
   subst this;exact⟨h3,h4,h5⟩
theorem QcA{xs:Array Nat}(pw:xs.toList.Pairwise (· < ·))(j:Nat):JJ xs j<=xs.size/\(∀k (hk:k<xs.size),k<JJ xs j->xs[k]<j)/\∀k (hk:k<xs.size),JJ xs j<=k->j<=xs[k]:=
 Qr7 pw _ 0 xs.size (by omega) (Qt _) (Qj _) (λk hk h=>by omega) λk hk h=>by omega
structure Tab (t:SetTable):Prop where
 pw:t.place.toList.Pairwise (· < ·)
 le:∀x∈t.place.toList,x<=t.mask
 dm:t.dummies=#[]
 gd:Qch (t.mask+1)=true
 pl:t.plain=true
 od:t.mask % 2=1
theorem Tab.slot_no{t:SetTable}(x:Tab t){j:Nat}(h:j∉t.place.toList):t.slot j=.empty:=by
 unfold Qdy
 dsimp only
 rw[if_neg,x.dm]
 ·rfl
 ·intro z;have z:=eq_of_beq z;exact h (ZI.mpr (YJ z))
theorem Tab.slot_dm{t:SetTable}(x:Tab t)(j:Nat):t.slot j≠.dummy:=by
 unfold Qdy
 dsimp only
 split
 ·exact λe=>by cases e
 ·rw[x.dm,if_neg (by simp[Qim])];exact λe=>by cases e
theorem Tab.slot_e{t:SetTable}(x:Tab t){j:Nat}(h:t.slot j=.empty):j∉t.place.toList:=λhj=>by
 obtain⟨i,hi,e⟩:=QdC.mp hj;have hi':i<t.place.size:=by simpa using hi
 have e':t.place[i]=j:=by simpa using e
 obtain⟨b1,b2,b3⟩:=QcA x.pw j;have hb:JJ t.place j=i:=by
  rcases YY (JJ t.place j) i with z | z | z
  ·have hb':JJ t.place j<t.place.size:=by omega
   have h1:=b3 _ hb' (Qj _);have:=Jy.mp x.pw (JJ t.place j) i (by simpa using hb') hi z;simp only[J8] at this;omega
  ·exact z
  ·have:=b2 i hi' z;omega
 unfold Qdy at h
 dsimp only at h
 rw[hb,if_pos (by simp[hi',e'])] at h;cases h
theorem Tab.room{t:SetTable}(x:Tab t)(hs:t.place.size<=t.mask):∃j,j<t.mask+1/\j∉t.place.toList:=by
 apply J7
 intro hn;have:∀p∈Qk (t.mask+1),p∈t.place.toList:=λp hp=>by
  apply J7
  intro h;exact hn ⟨p,QF.mp hp,h⟩
 have:=QjO Qag this;rw[Qz,Qd] at this;omega
theorem Qii(t:SetTable)(p:J9):(t.advance p).dummy=p.dummy:=by
 unfold YX;split<;>rfl
theorem Tab.put{t:SetTable}(x:Tab t){j:Nat}(hj:j∉t.place.toList)(hm:j<=t.mask):Tab (t.put j).1/\(t.put j).1.place.toList=t.place.toList.take (t.put j).2++j::t.place.toList.drop (t.put j).2/\(t.put j).1.mask=t.mask/\(t.put j).1.led=t.led/\(t.put j).1.moves=t.moves/\(t.put j).1.dummies=#[]:=by
 obtain⟨b1,b2,b3⟩:=QcA x.pw j;have hp:(t.put j).2=JJ t.place j:=rfl;have hl:(t.put j).1.place.toList=t.place.toList.take (t.put j).2++j::t.place.toList.drop (t.put j).2:=Qf5 _ _ _;have hd:(t.put j).1.dummies=#[]:=by
  show(if Qim t.dummies j=true then _ else t.dummies)=#[];rw[x.dm,if_neg (by simp[Qim])]
 have lo:∀a∈t.place.toList.take (JJ t.place j),a<j:=λa ha=>by
  obtain⟨k,hk,e⟩:=QdC.mp ha;rw[Jo] at hk;rw[List.getElem_take] at e;have hk2:k<t.place.size:=by rw[Qd] at hk;omega
  have:=b2 k hk2 (by omega);rw[J8] at e;omega
 have hi:∀a∈t.place.toList.drop (JJ t.place j),j<a:=λa ha=>by
  have hne:a≠j:=λe=>hj (e ▸ Qa0 ha)
  obtain⟨k,hk,e⟩:=QdC.mp ha;rw[ZH,Qd] at hk;rw[List.getElem_drop,J8] at e;have:=b3 (JJ t.place j+k) (by omega) (by omega);omega
 refine⟨⟨?_,?_,hd,x.gd,x.pl,x.od⟩,hl,rfl,rfl,rfl,hd⟩
 ·rw[hl,hp,JI,Qo7];refine⟨x.pw.sublist (Qsj _ _),⟨hi,x.pw.sublist (List.drop_sublist _ _)⟩,λa ha b hb=>?_⟩;rcases Qr.mp hb with z | z
  ·subst z;exact lo a ha
  ·have:=lo a ha;have:=hi b z;omega
 ·intro a ha;rw[hl] at ha;rcases Jr.mp ha with z | z
  ·exact x.le a (QdB z)
  ·rcases Qr.mp z with z | z
   ·subst z;exact hm
   ·exact x.le a (Qa0 z)
theorem QnT{mask:Nat}{owner:Array (Option Nat)}:∀(n fuel i perturb:Nat),n<fuel->owner.getD (QcS mask n (i,perturb)).1 (some 0)=none->∃j,Jw mask owner fuel i perturb=some j/\owner.getD j (some 0)=none:=by
 intro n;induction n with
 |zero=>
  intro fuel i perturb hf he;obtain⟨fuel,rfl⟩:∃m,fuel=m+1:=⟨fuel - 1,by omega⟩
  unfold Jw;cases hfd:(Qk (Jp mask i+1 - i)).find? λk=>(owner.getD (i+k) (some 0)).isNone with
  |some k=>
   have:=Qwm hfd;exact⟨i+k,rfl,by simpa using this⟩
  |none=>
   have:=Qo9.mp hfd 0 (QF.mpr (by unfold Jp;split<;>omega));rw[QbM,show owner.getD i (some 0)=none from he] at this;exact absurd rfl this
 |succ n ih=>
  intro fuel i perturb hf he;obtain⟨fuel,rfl⟩:∃m,fuel=m+1:=⟨fuel - 1,by omega⟩
  unfold Jw;cases hfd:(Qk (Jp mask i+1 - i)).find? λk=>(owner.getD (i+k) (some 0)).isNone with
  |some k=>
   have:=Qwm hfd;exact⟨i+k,rfl,by simpa using this⟩
  |none=>exact ih fuel _ _ (by omega) he
theorem Qcy{f g:Nat->Option Nat}:∀{l:List Nat},(∀x∈l,f x=g x)->l.filterMap f=l.filterMap g
 |[],_=>rfl
 |x::l,h=>by
  rw[ZP,ZP,h x (.head _),Qcy λy hy=>h y (.tail _ hy)]
theorem Qs1(f:Nat->Option Nat)(j k:Nat)(hf:f j=none):∀M,j<M->((Qk M).filterMap λx=>if x=j then some k else f x).Perm (k::(Qk M).filterMap f)
 |0,h=>absurd h (YQ _)
 |M+1,h=>by
  rw[ZN,ZB,ZB];by_cases z:M=j
  ·subst z;have e:((Qk M).filterMap λx=>if x=M then some k else f x)=(Qk M).filterMap f:=Qcy λx hx=>if_neg (by have:=QF.mp hx;omega)
   rw[e];have e2:([M].filterMap λx=>if x=M then some k else f x)=[k]:=by simp
   have e3:[M].filterMap f=[]:=by simp[hf]
   rw[e2,e3,JK];exact Z4
  ·have ih:=Qs1 f j k hf M (by omega);have e2:([M].filterMap λx=>if x=j then some k else f x)=[M].filterMap f:=Qcy λx hx=>by
    rw[Jf.mp hx,if_neg z]
   rw[e2];exact ih.append_right _
def Lv(mask:Nat)(owner:Array (Option Nat)):List Nat:=(Qk (mask+1)).filterMap λj=>owner.getD j none
theorem QnW{f:Nat->Option Nat}:∀{M:Nat},(∀j,j<M->f j≠none)->((Qk M).filterMap f).length=M
 |0,_=>rfl
 |M+1,h=>by
  rw[ZN,ZB,Qs,QnW λj hj=>h j (by omega)];cases e:f M with
  |none=>exact absurd e (h M (by omega))
  |some y=>simp[e]
structure Own (mask:Nat) (owner:Array (Option Nat)) (k:Nat):Prop where
 sz:owner.size=mask+1
 pm:(Lv mask owner).Perm (Qk k)
theorem Qki{mask:Nat}(hg:Qch (mask+1)=true){owner:Array (Option Nat)}{k:Nat}(x:Own mask owner k)(hk:k<=mask)(h:Int):∃j,Jw mask owner (Jx mask) (Ji h % (mask+1)) (Ji h)=some j/\Own mask (owner.setIfInBounds j (some k)) (k+1):=by
 obtain⟨e,he,hn⟩:∃e,e<mask+1/\owner.getD e none=none:=by
  apply J7
  intro hno;have:=QnW (f:=λj=>owner.getD j none) (M:=mask+1) λj hj z=>hno ⟨j,hj,z⟩
  have h2:=x.pm.length_eq;rw[Qz] at h2;unfold Lv at h2;omega
 have gd:∀j,j<mask+1->owner.getD j (some 0)=owner.getD j none:=λj hj=>by
  have:j<owner.size:=by rw[x.sz];exact hj
  simp[Zi,this]
 obtain⟨n,hn',e2⟩:=QfS hg (i:=Ji h % (mask+1)) (perturb:=Ji h) (QdA _ (QbL _)) (Qid h) he;obtain⟨j,hj,hj0⟩:=QnT (mask:=mask) (owner:=owner) n (Jx mask) (Ji h % (mask+1)) (Ji h) (by unfold Jx;omega) (by rw[e2,gd e he];exact hn);have hjs:j<owner.size:=by
  apply J7
  intro z;simp[Zi,z] at hj0
 refine⟨j,hj,by rw[Qis];exact x.sz,?_⟩;have e3:Lv mask (owner.setIfInBounds j (some k))=(Qk (mask+1)).filterMap λy=>if y=j then some k else owner.getD y none:=Qcy λy hy=>by
  have hy:=QF.mp hy;have hys:y<owner.size:=by rw[x.sz];exact hy
  by_cases z:y=j
  ·subst z;simp[Zi,hys]
  ·rw[if_neg z];simp[Zi,hys,Qbc,Qb0 z]
 rw[e3];refine(Qs1 _ j k (by rw[<- gd j (by rw[<- x.sz];exact hjs)];exact hj0) _ (by rw[<- x.sz];exact hjs)).trans ?_
 refine(show(k::(Qk (mask+1)).filterMap λy=>owner.getD y none).Perm (k::Qk k) from x.pm.cons k).trans ?_
 rw[show Qk (k+1)=Qk k++[k] from ZN];exact Z4 (l₁:=[k])
theorem Qnx{mask:Nat}(hg:Qch (mask+1)=true):∀(hs:List Int)(owner:Array (Option Nat))(k:Nat),Own mask owner k->k+hs.length<=mask+1->∃owner',hs.foldl (λacc h=>do
  let (owner,k) <- acc
  let j <- Jw mask owner (Jx mask) (Ji h % (mask+1)) (Ji h)
  pure (owner.setIfInBounds j (some k),k+1)) (some (owner,k))=some (owner',k+hs.length)/\Own mask owner' (k+hs.length)
 |[],owner,k,x,_=>⟨owner,rfl,x⟩
 |h::hs,owner,k,x,hl=>by
  rw[Qv] at hl;obtain⟨j,hj,y⟩:=Qki hg x (by omega) h;obtain⟨o',e,z⟩:=Qnx hg hs _ (k+1) y (by omega);refine⟨o',?_,by rw[Qv,show k+(hs.length+1)=k+1+hs.length by omega];exact z⟩;rw[Qc3,Qv,show k+(hs.length+1)=k+1+hs.length by omega,<- e]
  congr 1
  show(Jw mask owner (Jx mask) (Ji h % (mask+1)) (Ji h)).bind _=_;rw[hj];rfl
theorem Qm1(mask:Nat):Own mask (Qbb (mask+1) none) 0:=by
 refine⟨by simp,?_⟩;have:Lv mask (Qbb (mask+1) none)=[]:=by
  unfold Lv;rw[List.filterMap_eq_nil_iff];intro j hj;have:=QF.mp hj;simp[Zi,this]
 rw[this];exact ZV _
theorem Qvp{mask finger moves:Nat}{led:Bool}(hg:Qch (mask+1)=true)(ho:mask % 2=1)(hashes:Array Int)(hl:hashes.size<=mask) :
  ∃t order,QaK mask finger moves led true hashes=some (t,order)/\Tab t/\t.mask=mask/\t.led=led/\t.place.size=hashes.size/\order.toList.Perm (Qk hashes.size):=by
 obtain⟨owner,e,x⟩:=Qnx hg hashes.toList (Qbb (mask+1) none) 0 (Qm1 mask) (by rw[Qd];omega);rw[JT,Qd] at e x;have ec:Qbw mask hashes=some owner:=by
  unfold Qbw;rw[<- QoW];exact congrArg (λz=>z.map (·.1)) e
 have el:QaK mask finger moves led true hashes=some ({ mask:=mask,place:=(((Qk (mask+1)).filterMap λj=>(owner.getD j none).map (j,·)).map (·.1)).toArray,dummies:=#[],finger:=finger,led:=led,moves:=moves,plain:=true },(((Qk (mask+1)).filterMap λj=>(owner.getD j none).map (j,·)).map (·.2)).toArray):=by
  unfold QaK;rw[ec];rfl
 have e2:((Qk (mask+1)).filterMap λj=>(owner.getD j none).map (j,·)).map (·.2)=Lv mask owner:=by
  unfold Lv;rw[QbB];exact Qcy λy _=>by cases owner.getD y none<;>rfl
 have e1:((Qk (mask+1)).filterMap λj=>(owner.getD j none).map (j,·)).map (·.1)=(Qk (mask+1)).filterMap λj=>(owner.getD j none).map λ_=>j:=by
  rw[QbB];exact Qcy λy _=>by cases owner.getD y none<;>rfl
 have len:(((Qk (mask+1)).filterMap λj=>(owner.getD j none).map (j,·)).map (·.1)).length=hashes.size:=by
  rw[Qg];have h1:=congrArg Qg9 e2;rw[Qg,x.pm.length_eq,Qz] at h1;exact h1
 refine⟨_,_,el,⟨?_,?_,rfl,hg,rfl,ho⟩,rfl,rfl,by rw[Qo];exact len,by rw[ZM,e2];exact x.pm⟩
 ·show List.Pairwise (· < ·) (Z3 _).toList;rw[ZM,e1,List.pairwise_filterMap];refine List.pairwise_lt_range.imp λ{a b} h=>?_
  intro c hc d hd;cases hoa:owner.getD a none with
  |none=>rw[hoa] at hc;cases hc
  |some _=>
   cases hob:owner.getD b none with
   |none=>rw[hob] at hd;cases hd
   |some _=>rw[hoa] at hc;rw[hob] at hd;cases hc;cases hd;exact h
 ·intro y hy;have hy:y∈(((Qk (mask+1)).filterMap λj=>(owner.getD j none).map (j,·)).map (·.1)).toArray.toList:=hy;rw[ZM,e1] at hy;obtain⟨a,ha,e⟩:=ZF.mp hy;have:=QF.mp ha;cases hoa:owner.getD a none with
  |none=>rw[hoa] at e;cases e
  |some _=>
   rw[hoa] at e;cases e;show a<=mask;omega
theorem Qlm{α:Type}{es:Array α}{order:Array Nat}(h:order.toList.Perm (Qk es.size)):(order.filterMap (es[·]?)).toList.Perm es.toList:=by
 rw[QjE];refine(h.filterMap _).trans ?_
 have:(Qk es.size).filterMap (es[·]?)=es.toList:=by
  apply Yi
  intro i;have key:∀n,n<=es.size->(Qk n).filterMap (es[·]?)=es.toList.take n:=λn=>by
   induction n with
   |zero=>intro _;rfl
   |succ n ih=>
    intro hn;rw[ZN,ZB,ih (by omega),Zv];have:es[n]? = some es[n]:=by simp[show n<es.size by omega]
    simp[this]
  rw[key _ (Qj _),<- Qd,Zf]
 rw[this]
theorem Qsb{t t':SetTable}(h:t'.mask=t.mask)(p:J9):t'.advance p=t.advance p:=by
 unfold YX;rw[h]
theorem Qb7{t t':SetTable}(h:t'.mask=t.mask):∀(n:Nat)(p:J9),stps t' n p=stps t n p
 |0,_=>rfl
 |n+1,p=>by
  show stps t' n (t'.advance p)=stps t n (t.advance p);rw[Qsb h,Qb7 h n]
theorem Qcs{t t':SetTable}(h:t'.mask=t.mask)(x:Int):t'.probeStart x=t.probeStart x:=by
 unfold SetTable.probeStart;rw[h]
structure PIn (t:SetTable) (p:J9):Prop where
 a:p.j+p.more<=t.mask
 b:p.i<=t.mask
theorem Qhz{mask i:Nat}(h:i<=mask):i+(Jp mask i - i)<=mask:=by unfold Jp;split<;>omega
theorem PIn.adv{t:SetTable}{p:J9}(x:PIn t p):PIn t (t.advance p):=by
 unfold YX;split
 ·exact⟨by show p.j+1+(p.more - 1)<=_;have:=x.a;omega,x.b⟩
 ·have:(Yf t.mask p.i p.perturb).1<=t.mask:=Qtn (QdA _ (QbL _));exact⟨Qhz this,this⟩
theorem PIn.stps{t:SetTable}:∀(n:Nat){p:J9},PIn t p->PIn t (stps t n p)
 |0,_,x=>x
 |n+1,_,x=>PIn.stps n x.adv
theorem PIn.start(t:SetTable)(h:Int):PIn t (t.probeStart h):=by
 have:Ji h % (t.mask+1)<=t.mask:=Qtn (QdA _ (QbL _));exact⟨Qhz this,this⟩
theorem QiO(t:SetTable)(h:Int)(n:Nat):(stps t n (t.probeStart h)).j<=t.mask:=by
 have:=(PIn.stps n (PIn.start t h)).a;omega
def Rch(t:SetTable)(j:Nat)(h:Int):Prop:=∃n,(stps t n (t.probeStart h)).j=j/\∀m,m<n->(stps t m (t.probeStart h)).j∈t.place.toList
theorem Rch.mono{t t':SetTable}{j:Nat}{h:Int}(x:Rch t j h)(hm:t'.mask=t.mask)(hs:∀y∈t.place.toList,y∈t'.place.toList):Rch t' j h:=by
 obtain⟨n,e,k⟩:=x;refine⟨n,by rw[Qcs hm,Qb7 hm];exact e,λm hlt=>?_⟩;rw[Qcs hm,Qb7 hm];exact hs _ (k m hlt)
theorem Tab.slot_l{t:SetTable}{j i:Nat}(h:t.slot j=.live i):t.place[i]? = some j:=by
 unfold Qdy at h
 dsimp only at h
 split at h
 ·rename_i e
  cases h;exact eq_of_beq e
 ·split at h<;>cases h
theorem Tab.slot_at{t:SetTable}(x:Tab t){i:Nat}{j:Nat}(h:t.place[i]? = some j):t.slot j=.live i:=by
 have hj:j∈t.place.toList:=ZI.mpr (YJ h);cases hs:t.slot j with
 |empty=>exact absurd hj (x.slot_e hs)
 |dummy=>exact absurd hs (x.slot_dm j)
 |live i'=>
  have h':=Tab.slot_l hs;obtain⟨h1,e1⟩:=ZW.mp h;obtain⟨h2,e2⟩:=ZW.mp h'
  congr 1
  rcases YY i' i with z | z | z
  ·have:=Jy.mp x.pw i' i (by simpa using h2) (by simpa using h1) z;simp only[J8] at this;omega
  ·exact z
  ·have:=Jy.mp x.pw i i' (by simpa using h1) (by simpa using h2) z;simp only[J8] at this;omega
theorem QrN{t:SetTable}(x:Tab t)(hashAt:Nat->Int)(h:Int):∀(n fuel:Nat)(p:J9),n<fuel->t.slot (stps t n p).j=.empty->p.dummy=none ->
  ∃k,k<=n/\(∀m,m<k->∃i,t.slot (stps t m p).j=.live i/\hashAt i≠h)/\((JA t hashAt h fuel p=some (.empty (stps t k p).j none)/\t.slot (stps t k p).j=.empty)∨(k<n/\∃i,JA t hashAt h fuel p=some (.candidate (stps t k p).j i (stps t (k+1) p))/\t.slot (stps t k p).j=.live i/\hashAt i=h)):=by
 intro n;induction n with
 |zero=>
  intro fuel p hf he hd;obtain⟨fuel,rfl⟩:∃m,fuel=m+1:=⟨fuel - 1,by omega⟩
  refine⟨0,Qj _,λm hm=>absurd hm (YQ _),.inl ⟨?_,he⟩⟩;unfold JA;rw[show t.slot p.j=.empty from he]
  dsimp only
  rw[hd];rfl
 |succ n ih=>
  intro fuel p hf he hd;obtain⟨fuel,rfl⟩:∃m,fuel=m+1:=⟨fuel - 1,by omega⟩
  cases hs:t.slot p.j with
  |empty=>
   refine⟨0,Qt _,λm hm=>absurd hm (YQ _),.inl ⟨?_,hs⟩⟩;unfold JA;rw[hs]
   dsimp only
   rw[hd];rfl
  |dummy=>exact absurd hs (x.slot_dm _)
  |live i=>
   by_cases z:hashAt i=h
   ·refine⟨0,Qt _,λm hm=>absurd hm (YQ _),.inr ⟨QbL _,i,?_,hs,z⟩⟩;unfold JA;rw[hs]
    dsimp only
    rw[if_pos (by simp[z])];rfl
   ·obtain⟨k,hk,ps,q⟩:=ih fuel (t.advance p) (by omega) he (by rw[Qii];exact hd);have eg:JA t hashAt h (fuel+1) p=JA t hashAt h fuel (t.advance p):=by
     conv=>lhs;unfold JA
     rw[hs]
     dsimp only
     rw[if_neg (by simp[z])]
    have ps':∀m,m<k+1->∃i,t.slot (stps t m p).j=.live i/\hashAt i≠h:=λm hm=>by
     cases m with
     |zero=>exact⟨i,hs,z⟩
     |succ m=>exact ps m (by omega)
    rcases q with⟨q1,q2⟩ | ⟨q0,i',q1,q2,q3⟩
    ·exact⟨k+1,by omega,ps',.inl ⟨by rw[eg];exact q1,q2⟩⟩
    ·exact⟨k+1,by omega,ps',.inr ⟨by omega,i',by rw[eg];exact q1,q2,q3⟩⟩
theorem QsA(t:SetTable):∀(k m j i perturb:Nat)(d:Option Nat),k<=m->(stps t k { j:=j,more:=m,i:=i,perturb:=perturb,dummy:=d }).j=j+k
 |0,_,_,_,_,_,_=>rfl
 |k+1,m,j,i,perturb,d,h=>by
  obtain⟨m,rfl⟩:∃m',m=m'+1:=⟨m - 1,by omega⟩
  show(stps t k (t.advance _)).j=_;have:t.advance { j:=j,more:=m+1,i:=i,perturb:=perturb,dummy:=d }={ j:=j+1,more:=m,i:=i,perturb:=perturb,dummy:=d }:=by
   unfold YX;rw[if_pos (by show m+1 > 0;omega)];rfl
  rw[this,QsA t k m _ _ _ _ (by omega)];omega
theorem QrQ{t:SetTable}{owner:Array (Option Nat)}:∀(fuel i perturb j:Nat),Jw t.mask owner fuel i perturb=some j->∃n,(stps t n (Qpx t i perturb none)).j=j/\∀m,m<n->owner.getD (stps t m (Qpx t i perturb none)).j (some 0)≠none:=by
 intro fuel;induction fuel with
 |zero=>intro i perturb j h;cases h
 |succ fuel ih=>
  intro i perturb j h;unfold Jw at h;have jr:∀k,k<=Jp t.mask i - i->(stps t k (Qpx t i perturb none)).j=i+k:=λk hk=>QsA t k _ _ _ _ _ hk
  have re:Jp t.mask i+1 - i=Jp t.mask i - i+1:=by unfold Jp;split<;>omega
  cases hfd:(Qk (Jp t.mask i+1 - i)).find? λk=>(owner.getD (i+k) (some 0)).isNone with
  |some k=>
   rw[hfd] at h;cases h;obtain⟨_,hk,hb⟩:=List.find?_range_eq_some.mp hfd
   have hk:=QF.mp hk;rw[re] at hk;refine⟨k,jr k (by omega),λm hm=>?_⟩;rw[jr m (by omega)];have:=hb m hm;intro z;rw[z] at this;cases this
  |none=>
   rw[hfd] at h;obtain⟨n,e,w⟩:=ih _ _ _ h;have all:=Qo9.mp hfd;refine⟨Jp t.mask i - i+1+n,by rw[YV,Qgi];exact e,λm hm=>?_⟩;by_cases z:m<Jp t.mask i - i+1
   ·rw[jr m (by omega)];have:=all m (QF.mpr (by omega));intro y;rw[y] at this;exact this rfl
   ·obtain⟨m',rfl⟩:∃m',m=Jp t.mask i - i+1+m':=⟨m - (Jp t.mask i - i+1),by omega⟩
    rw[YV,Qgi];exact w m' (by omega)
def tM(mask:Nat):SetTable:={ mask:=mask,place:=#[],dummies:=#[],finger:=0,led:=true,moves:=0,plain:=true }
def QzP(mask:Nat)(owner:Array (Option Nat))(H:Nat->Int):Prop:=∀j k,owner.getD j none=some k->∃n,(stps (tM mask) n ((tM mask).probeStart (H k))).j=j/\∀m,m<n->owner.getD (stps (tM mask) m ((tM mask).probeStart (H k))).j none≠none
theorem Qnw{mask:Nat}(hg:Qch (mask+1)=true){owner:Array (Option Nat)}{k:Nat}{H:Nat->Int}(x:Own mask owner k)(w:QzP mask owner H)(hk:k<=mask):∃j,Jw mask owner (Jx mask) (Ji (H k) % (mask+1)) (Ji (H k))=some j/\Own mask (owner.setIfInBounds j (some k)) (k+1)/\QzP mask (owner.setIfInBounds j (some k)) H:=by
 obtain⟨j,hj,y⟩:=Qki hg x hk (H k);refine⟨j,hj,y,?_⟩;have gr:∀z,owner.getD z none≠none->(owner.setIfInBounds j (some k)).getD z none≠none:=λz hz=>by
  have hs:z<owner.size:=by
   apply J7
   intro c;exact hz (by simp[Zi,c])
  by_cases e:j=z
  ·subst e;simp[Zi,hs]
  ·have:(owner.setIfInBounds j (some k)).getD z none=owner.getD z none:=by simp[Zi,hs,Qbc,e]
   rw[this];exact hz
 obtain⟨n,e,way⟩:=QrQ (t:=tM mask) _ _ _ _ hj;intro j' k' h';by_cases z:j=j'
 ·subst z;have hs:j<owner.size:=by
   apply J7
   intro c;simp[Zi,c] at h'
  have ek:k'=k:=by
   simp[Zi,hs] at h';exact h'.symm
  subst ek;refine⟨n,e,λm hm=>gr _ ?_⟩;have h1:=way m hm;have h2:(stps (tM mask) m ((tM mask).probeStart (H k'))).j<=mask:=QiO (tM mask) (H k') m;have h3:(stps (tM mask) m ((tM mask).probeStart (H k'))).j<owner.size:=by rw[x.sz];omega
  have h1:owner.getD (stps (tM mask) m ((tM mask).probeStart (H k'))).j (some 0)≠none:=h1
  simpa [Zi,h3] using h1
 ·have h2:owner.getD j' none=some k':=by
   have hs:j'<owner.size:=by
    apply J7
    intro c;simp[Zi,c] at h'
   rw[<- h'];simp[Zi,hs,Qbc,z]
  obtain⟨n',e',way'⟩:=w j' k' h2;exact⟨n',e',λm hm=>gr _ (way' m hm)⟩
theorem Qkk{mask:Nat}(hg:Qch (mask+1)=true)(H:Nat->Int):∀(hs:List Int)(owner:Array (Option Nat))(k:Nat),Own mask owner k->QzP mask owner H->(∀i (hi:i<hs.length),H (k+i)=hs[i])->k+hs.length<=mask+1->∃owner',hs.foldl (λacc h=>do
  let (owner,k) <- acc
  let j <- Jw mask owner (Jx mask) (Ji h % (mask+1)) (Ji h)
  pure (owner.setIfInBounds j (some k),k+1)) (some (owner,k))=some (owner',k+hs.length)/\Own mask owner' (k+hs.length)/\QzP mask owner' H
 |[],owner,k,x,w,_,_=>⟨owner,rfl,x,w⟩
 |h::hs,owner,k,x,w,hH,hl=>by
  rw[Qv] at hl;have e0:H k=h:=hH 0 (by simp);obtain⟨j,hj,y,y2⟩:=Qnw hg x w (by omega);rw[e0] at hj;obtain⟨o',e,z,z2⟩:=Qkk hg H hs _ (k+1) y y2 (λi hi=>by
   have:=hH (i+1) (by rw[Qv];omega);rw[show k+1+i=k+(i+1) by omega,this];rfl) (by omega)
  refine⟨o',?_,by rw[Qv,show k+(hs.length+1)=k+1+hs.length by omega];exact z,z2⟩;rw[Qc3,Qv,show k+(hs.length+1)=k+1+hs.length by omega,<- e]
  congr 1
  show(Jw mask owner (Jx mask) (Ji h % (mask+1)) (Ji h)).bind _=_;rw[hj];rfl
theorem Qlx{mask finger moves:Nat}{led:Bool}(hg:Qch (mask+1)=true)(ho:mask % 2=1)(hashes:Array Int)(hl:hashes.size<=mask) :
  ∃t order,QaK mask finger moves led true hashes=some (t,order)/\Tab t/\t.mask=mask/\t.led=led/\t.place.size=hashes.size/\order.toList.Perm (Qk hashes.size)/\∀(i j k:Nat),t.place[i]? = some j->order[i]? = some k->Rch t j (hashes.getD k 0):=by
 obtain⟨owner,e,x,w⟩:=Qkk hg (λk=>hashes.getD k 0) hashes.toList (Qbb (mask+1) none) 0 (Qm1 mask) (λj k h=>by
   have:(Qbb (mask+1) (none:Option Nat)).getD j none=none:=by
    by_cases c:j<mask+1<;>simp[Zi,c]
   rw[this] at h;cases h) (λi hi=>by
   have hi':i<hashes.size:=by simpa using hi
   simp[Zi,hi']) (by rw[Qd];omega)
 rw[JT,Qd] at e x;have ec:Qbw mask hashes=some owner:=by
  unfold Qbw;rw[<- QoW];exact congrArg (λz=>z.map (·.1)) e
 have el:QaK mask finger moves led true hashes=some ({ mask:=mask,place:=(((Qk (mask+1)).filterMap λj=>(owner.getD j none).map (j,·)).map (·.1)).toArray,dummies:=#[],finger:=finger,led:=led,moves:=moves,plain:=true },(((Qk (mask+1)).filterMap λj=>(owner.getD j none).map (j,·)).map (·.2)).toArray):=by
  unfold QaK;rw[ec];rfl
 obtain⟨t,order,e2,T,m1,m2,m3,m4⟩:=Qvp (finger:=finger) (moves:=moves) (led:=led) hg ho hashes hl;rw[el] at e2;have e2:=Qu e2;have et:_=t:=congrArg Prod.fst e2;have eo:_=order:=congrArg Prod.snd e2;refine⟨t,order,by rw[el,e2],T,m1,m2,m3,m4,λi j k hj hk=>?_⟩;have live:∀y z,(y,z)∈((Qk (mask+1)).filterMap λj=>(owner.getD j none).map (j,·))↔y<=mask/\owner.getD y none=some z:=λy z=>by
  rw[ZF];constructor
  ·rintro⟨a,ha,e⟩;have:=QF.mp ha;cases hoa:owner.getD a none with
   |none=>rw[hoa] at e;cases e
   |some b=>rw[hoa] at e;cases e;exact⟨by omega,hoa⟩
  ·rintro⟨h1,h2⟩;exact⟨y,QF.mpr (by omega),by rw[h2];rfl⟩
 have pl:∀y,owner.getD y none≠none->y<=mask->y∈t.place.toList:=λy hy hm=>by
  rw[<- et];show y∈(Z3 _).toList;rw[ZM,Qx];cases hoy:owner.getD y none with
  |none=>exact absurd hoy hy
  |some z=>exact⟨(y,z),(live y z).mpr ⟨hm,hoy⟩,rfl⟩
 have hjk:(j,k)∈((Qk (mask+1)).filterMap λj=>(owner.getD j none).map (j,·)):=by
  rw[<- et] at hj;rw[<- eo] at hk;have hj:(((Qk (mask+1)).filterMap λj=>(owner.getD j none).map (j,·)).map (·.1)).toArray[i]? = some j:=hj;have hk:(((Qk (mask+1)).filterMap λj=>(owner.getD j none).map (j,·)).map (·.2)).toArray[i]? = some k:=hk;rw[List.getElem?_toArray,Qq] at hj hk;cases hz:((Qk (mask+1)).filterMap λj=>(owner.getD j none).map (j,·))[i]? with
  |none=>rw[hz] at hj;cases hj
  |some q=>
   rw[hz] at hj hk;have h1:q.1=j:=Qu hj;have h2:q.2=k:=Qu hk;rw[<- h1,<- h2];exact QK hz
 obtain⟨hjm,hjo⟩:=(live j k).mp hjk;obtain⟨n,e3,way⟩:=w j k hjo;have hm:t.mask=(tM mask).mask:=m1;refine⟨n,by rw[Qcs hm,Qb7 hm];exact e3,λm hlt=>?_⟩;rw[Qcs hm,Qb7 hm];exact pl _ (way m hlt) (QiO (tM mask) _ m)
theorem QdO:Slot "set_iterator" "__next__" "set_iterator.__next__" :=
 .of (owner := "set_iterator") (n := "__next__") (by rw[QkS,Qem];kernel_rfl) (by decide +kernel) (by decide +kernel) (by decide +kernel) (by first | exact .inl (by decide +kernel) | exact .inr (by decide +kernel)) (by rw[QcD];kernel_rfl)
theorem Qn3:entryFor table "set_iterator.__next__" = some Qaa.«set_iterator.__next__» := entryFor_of_fast (by kernel_rfl)
theorem Qx2:Manifest.owners.lookup (String.ofList ['r', 'o', 't', 'a', 'r', 'e', 't', 'i', '_', 't', 'e', 's'].reverse)=some Manifest.sig_set_iterator:=by kernel_rfl
theorem QoJ(a:Value):argsOk "set_iterator.__next__" ⟨[a],[]⟩:=by
 unfold argsOk;rw[signature?_of (id := "set_iterator.__next__") (n:=['_', '_', 't', 'x', 'e', 'n', '_', '_']) (o:=['r', 'o', 't', 'a', 'r', 'e', 't', 'i', '_', 't', 'e', 's']) (by kernel_rfl) Qx2];kernel_rfl
theorem QvK:entryFor table "set.__iter__" = some Qaa.«frozenset.__iter__» := entryFor_alias (id' := "frozenset.__iter__") (by kernel_rfl) (by first | rfl | decide +kernel | (unfold Qtj;simp +decide [QoR])) (by decide +kernel) (by kernel_rfl)
def IsSI(h:Heap)(I:Addr)(first:Value)(i a n ep:Nat):Prop:=∃o,h.get? I=some o/\o.cls=.type "set_iterator" /\ o.data=.fields #[first,.int i 0,.ref a,.int n 0,.int ep 0]
theorem IsSI.typeIs{s:Shared}{I:Addr}{first:Value}{i a n ep:Nat}(x:IsSI s.heap I first i a n ep):s.TypeIs (.ref I) "set_iterator" := let ⟨o,h,c,_⟩:=x;⟨o,h,c⟩
structure SetAt (h:Heap) (a:Addr) (es:Array (Int×Value)) (ep:Nat) (t:SetTable):Prop where
 at_:∃o,h.get? a=some o/\o.ExactSet/\o.data=.set es ep t
 ft:t.fits es.size=true
section
variable{prog:QD}{w:Jl}{A:Je}{E:Value->Shared->Prop}{s:Shared}
theorem Qu7{I a:Addr}{i ep slot nx:Nat}{es:Array (Int×Value)}{t:SetTable}{x:Value}{Q:Option Value->Shared->Prop}(hit:IsSI s.heap I (.int slot 0) i a es.size ep)(ha:SetAt s.heap a es ep t)
  (hN:∀(A:Je)(E:Value->Shared->Prop)(Q':Option (Value×Nat)->Shared->Prop),Q' (some (x,nx)) s->wpAny (model prog w) A (setNext a slot i ep) Q' E s)
  (hQ:∀h',IsSI h' I (.int nx 0) (i+1) a es.size ep->Qan I s.heap h'->Q (some x) { s with heap:=h' }):wpAny (model prog w) A (pyNext (.ref I)) Q E s:=by
 obtain⟨o,ho,hc,hd⟩:=id hit;obtain⟨os,hos,hex,hds⟩:=ha.at_;unfold pyNext;refine wpAny_bind (Qc7 (Zb (name:=Qao "__next__") hit.typeIs QdO (JO QdO hit.typeIs Qn3 ?_ (QoJ _))));unfold Qaa.«set_iterator.__next__»
 wp_walk
 rw[hd];refine wpAny_pure ?_
 dsimp only
 refine wpAny_bind (Qwx hos hds ha.ft ?_);rw[if_neg (by simp)];refine wpAny_bind ?_
 refine hN _ _ _ ?_
 dsimp only
 refine wpAny_bind (QcC ho hd (by simp) ?_);have g1:(s.heap.update I (QkY λx=>x.setIfInBounds 0 (rawInt ↑nx))).get? I=some (QkY (λx=>x.setIfInBounds 0 (rawInt ↑nx)) o):=ZC _ ho (Qda (YF hd _));have d1:(QkY (λx=>x.setIfInBounds 0 (rawInt ↑nx)) o).data=.fields #[.int nx 0,.int i 0,.ref a,.int es.size 0,.int ep 0]:=by rw[YF hd];simp[rawInt]
 refine wpAny_bind (QcC g1 d1 (by simp) (wpAny_pure ⟨x,rfl,wpAny_pure (hQ _ ?_ ((Zp ..).trans (Zp ..)))⟩));exact⟨_,ZC _ g1 (Qda (YF d1 _)),(Qfn ..).trans ((Qfn ..).trans hc),by rw[YF d1];simp[rawInt]⟩
theorem Qyl{I a:Addr}{i ep slot:Nat}{es:Array (Int×Value)}{t:SetTable}{Q:Option Value->Shared->Prop}(hh:A.handled=none)(hit:IsSI s.heap I (.int slot 0) i a es.size ep)(ha:SetAt s.heap a es ep t)
  (hN:∀(A:Je)(E:Value->Shared->Prop)(Q':Option (Value×Nat)->Shared->Prop),Q' none s->wpAny (model prog w) A (setNext a slot i ep) Q' E s)
  (hQ:∀h',Heap.ExtBut I s.heap h'->Q none { s with heap:=h' }):wpAny (model prog w) A (pyNext (.ref I)) Q E s:=by
 obtain⟨o,ho,hc,hd⟩:=id hit;obtain⟨os,hos,hex,hds⟩:=ha.at_;unfold pyNext;refine wpAny_bind (Qc7 (Zb (name:=Qao "__next__") hit.typeIs QdO (JO QdO hit.typeIs Qn3 ?_ (QoJ _))));unfold Qaa.«set_iterator.__next__»
 wp_walk
 rw[hd];refine wpAny_pure ?_
 dsimp only
 refine wpAny_bind (Qwx hos hds ha.ft ?_);rw[if_neg (by simp)];refine wpAny_bind ?_
 refine hN _ _ _ ?_
 dsimp only
 refine wpAny_bind (QcC ho hd (by simp) ?_);refine wpAny_bind ?_
 simp only[newExc,newTuple];refine wpAny_bind (JC ?_ (by size_fits));refine wpAny_bind (m:=firstArgMember _ _) (Yz (a:=JD) (by first | rfl | (simp only[firstArgMember];rfl)) ?_);refine JC ?_ (by size_fits)
 simp only[raiseNew];refine wpAny_bind (wpAny_handled ?_)
 first | rw[show A.in1.handled=none from hh] | rw[hh]
 refine wpAny_bind (wpAny_pure (wpAny_throw ?_));refine wpAny_bind (Qiv (T := "StopIteration") (b:=true) ⟨_,Qw _ rfl,rfl⟩ (by rw[QcD];kernel_rfl) ?_);exact wpAny_pure (hQ _ (((Zp ..).extBut.push _).push _))
theorem QsD{a:Addr}{ep slot given:Nat}{es:Array (Int×Value)}{t:SetTable}{Q:Option (Value×Nat)->Shared->Prop}(hb:w.params.followText "set-order" = false)(ha:SetAt s.heap a es ep t)(hp:t.plain=true)(hl:t.led=true)
  (h:Q (match es[JJ t.place slot]?,t.place[JJ t.place slot]? with | some (_,x),some j=>some (x,j+1) | _,_=>none) s):wpAny (model prog w) A (setNext a slot given ep) Q E s:=by
 obtain⟨os,hos,hex,hds⟩:=ha.at_;unfold setNext;refine wpAny_bind (Zn hos hds ha.ft ?_)
 dsimp only
 unfold setsByText;refine wpAny_bind (wpAny_bind (Z9 (wpAny_pure ?_)));rw[show(model prog w).w.params.followText "set-order" = false from hb,if_neg QC];split
 ·rename_i hdr
  exact absurd (show(!t.plain&&decide (es.size > 1))=true from hdr) (by rw[hp];simp)
 ·refine wpAny_bind ?_
  show wpAny (model prog w) A (if(!t.led && !es.isEmpty)=true then unsupported "set:maker-not-led" else pure ()) _ E s;rw[if_neg (by rw[hl];simp)];exact wpAny_pure (wpAny_pure h)
theorem Qmu{a:Addr}{ep slot given:Nat}{es:Array (Int×Value)}{t:SetTable}{Q:Option (Value×Nat)->Shared->Prop}(hb:w.params.followText "set-order" = true)(ha:SetAt s.heap a es ep t)
  (h:Q (((pickOrder (w.params.setOrder a ep) es)[given]?).map λe=>(e.2,slot)) s):wpAny (model prog w) A (setNext a slot given ep) Q E s:=by
 obtain⟨os,hos,hex,hds⟩:=ha.at_;unfold setNext;refine wpAny_bind (Zn hos hds ha.ft ?_)
 dsimp only
 unfold setsByText;refine wpAny_bind (wpAny_bind (Z9 (wpAny_pure ?_)));rw[show(model prog w).w.params.followText "set-order" = true from hb,if_pos rfl,if_neg (by simp)];refine wpAny_bind ?_
 unfold setWalk;refine wpAny_bind (Zn hos hds ha.ft ?_)
 dsimp only
 unfold setsByText;refine wpAny_bind (wpAny_bind (Z9 (wpAny_pure ?_)));rw[show(model prog w).w.params.followText "set-order" = true from hb,if_pos rfl];refine wpAny_bind (Z9 (wpAny_pure ?_));exact wpAny_pure h
theorem QhI{α:Type}(next:Nat->Nat)(xs:Array α):(pickOrder next xs).toList.Perm xs.toList:=by
 unfold pickOrder;have go:∀(n k:Nat)(left:List α)(out:Array α),left.length=n->(Qsg next n k left out).toList.Perm (out.toList++left):=λn=>by
  induction n with
  |zero=>
   intro k left out hl;rw[Qau.mp hl,JK];exact ZV _
  |succ n ih=>
   intro k left out hl;have hi:next k % left.length<left.length:=QdA _ (by omega)
   unfold Qsg;rw[Qf hi]
   dsimp only
   refine(ih (k+1) _ _ (by rw[List.length_eraseIdx,if_pos hi];omega)).trans ?_
   rw[QbY,Q3];refine Yt _ ?_
   have sp:left=left.take (next k % left.length)++left[next k % left.length]::left.drop (next k % left.length+1):=by rw[<- Qac hi,Jq]
   have pm:=(Qto (a:=left[next k % left.length]) (l₁:=left.take (next k % left.length)) (l₂:=left.drop (next k % left.length+1))).symm;rw[<- sp,<- List.eraseIdx_eq_take_drop_succ] at pm;exact pm
 have:=go xs.size 0 xs.toList #[] (by simp)
 simpa using this
theorem QyC{a:Addr}{ep:Nat}{es:Array (Int×Value)}{t:SetTable}{Q:Value->Shared->Prop}(ha:SetAt s.heap a es ep t)(hp:t.plain=true)
  (hQ:Q (.ref s.heap.objs.size) { s with heap:=s.heap.push { cls:=.type "set_iterator",data:=.fields #[.int 0 0,.int 0 0,.ref a,.int es.size 0,.int ep 0] } }):wpAny (model prog w) A (pyIter (.ref a)) Q E s:=by
 obtain⟨os,hos,hex,hds⟩:=ha.at_;have hT:s.TypeIs (.ref a) "set" := ⟨os,hos,hex.1⟩;refine QzS hT PySem.F.slot_set_iter (JO PySem.F.slot_set_iter hT QvK ?_ (PySem.F.args_set_iter_1 _));unfold Qaa.«frozenset.__iter__»
 wp_walk
 have nf:¬(t.place.size != es.size||decide (t.fill > t.mask))=true:=by
  have hf:=ha.ft;simp only[QbK,JR,beq_iff_eq,decide_eq_true_eq] at hf;simp[hf.1,Nat.not_lt.mpr hf.2]
 rw[hds]
 dsimp only
 rw[if_neg nf];refine wpAny_pure (wpAny_pure (wpAny_pure ?_));refine wpAny_bind ?_
 unfold setDrawn;refine wpAny_bind (Zn hos hds ha.ft ?_)
 dsimp only
 unfold setsByText;refine wpAny_bind (wpAny_bind (Z9 (wpAny_pure ?_)));refine wpAny_pure ?_
 split
 ·rename_i hdr
  have hdr:(!(w.params.followText "set-order")&&(!t.plain&&decide (es.size > 1)))=true:=hdr;rw[hp] at hdr;simp at hdr
 ·refine wpAny_bind (wpAny_pure ?_);refine wpAny_bind (wpAny_setEpoch_of hos hds ha.ft ?_);exact wpAny_bind (JC (wpAny_pure ⟨_,rfl, "set_iterator",_,⟨_,Qw _ rfl,rfl⟩,QdO.lookup,hQ⟩))
theorem SetAt.at'{h h':Heap}{a:Addr}{es:Array (Int×Value)}{ep:Nat}{t:SetTable}(x:SetAt h a es ep t)(k:∀o,h.get? a=some o->h'.get? a=some o):SetAt h' a es ep t:=let ⟨o,h1,h2⟩:=x.at_;⟨⟨o,k o h1,h2⟩,x.ft⟩
theorem IsSI.at'{h h':Heap}{I:Addr}{first:Value}{i a n ep:Nat}(x:IsSI h I first i a n ep)(k:∀o,h.get? I=some o->h'.get? I=some o):IsSI h' I first i a n ep:=let ⟨o,h1,h2⟩:=x;⟨o,k o h1,h2⟩
end
structure Way (prog:QD) (w:Jl) (a:Addr) (es:Array (Int×Value)) (ep:Nat) (t:SetTable) (so:Nat->Nat) (vs:Array (Int×Value)):Prop where
 pm:vs.toList.Perm es.toList
 s0:so 0=0
 item:∀(s:Shared)(A:Je)(E:Value->Shared->Prop)(Q:Option (Value×Nat)->Shared->Prop)(i:Nat)(e:Int×Value),SetAt s.heap a es ep t->vs[i]? = some e->Q (some (e.2,so (i+1))) s->wpAny (model prog w) A (setNext a (so i) i ep) Q E s
 fin:∀(s:Shared)(A:Je)(E:Value->Shared->Prop)(Q:Option (Value×Nat)->Shared->Prop),SetAt s.heap a es ep t->Q none s->wpAny (model prog w) A (setNext a (so es.size) es.size ep) Q E s
theorem Way.walks{prog:QD}{w:Jl}{A:Je}(hh:A.handled=none){a:Addr}{es:Array (Int×Value)}{ep:Nat}{t:SetTable}{so:Nat->Nat}{vs:Array (Int×Value)}(W:Way prog w a es ep t so vs)(I:Addr)(hne:a≠I)(self:∀(s:Shared)(Q:Value->Shared->Prop)(E:Value->Shared->Prop)(i:Nat),IsSI s.heap I (.int (so i) 0) i a es.size ep->Q (.ref I) s->wpAny (model prog w) A (pyIter (.ref I)) Q E s) :
  Walks prog w A I [I,a] [I] es.size (λi v=>(vs[i]?).map (·.2)=some v) (λi h=>IsSI h I (.int (so i) 0) i a es.size ep/\SetAt h a es ep t) where
 sub:=λb hb=>by simp at hb;simp[hb]
 frame:=λ_ _ _ st hk=>⟨st.1.at' λo e=>hk I (by simp) o e,st.2.at' λo e=>hk a (by simp) o e⟩
 item:=λi s Q E hi st hQ=>by
  have hl:vs.size=es.size:=by rw[<- Qd,W.pm.length_eq,Qd]
  have hv:vs[i]? = some vs[i]:=by simp[hl,hi]
  refine Qu7 st.1 st.2 (x:=vs[i].2) (nx:=so (i+1)) (λA E Q' q=>W.item s A E Q' i _ st.2 hv q) λh' hit' hs'=>?_
  refine hQ _ h' s.toks (by rw[hv];rfl) ⟨hit',st.2.at' λo e=>hs'.extBut a o (λz=>hne z) e⟩ λb o hb e=>hs'.extBut b o (λz=>hb (by simp[z])) e
 done:=λs Q E st hQ=>Qyl hh st.1 st.2 (λA E Q' q=>W.fin s A E Q' st.2 q) λh' he'=>hQ h' s.toks λb o hb e=>he' b o (λz=>hb (by simp[z])) e
 self:=λi s Q E st hQ=>self s Q E i st.1 hQ
theorem Qpf{prog:QD}{w:Jl}(hb:w.params.followText "set-order" = true)(a:Addr)(es:Array (Int×Value))(ep:Nat)(t:SetTable):Way prog w a es ep t (λ_=>0) (pickOrder (w.params.setOrder a ep) es) where
 pm:=QhI _ _
 s0:=rfl
 item:=λs A E Q i e ha hv q=>Qmu hb ha (by rw[hv];exact q)
 fin:=λs A E Q ha q=>Qmu hb ha (by
  have hl:(pickOrder (w.params.setOrder a ep) es).size=es.size:=by rw[<- Qd,(QhI _ _).length_eq,Qd]
  rw[ZQ (by omega)];exact q)
theorem QtE{prog:QD}{w:Jl}(hb:w.params.followText "set-order" = false)(a:Addr)(es:Array (Int×Value))(ep:Nat)(t:SetTable)(hp:t.plain=true)(hl:t.led=true)(hz:t.place.size=es.size)(so:Nat->Nat)(s0:so 0=0)(hs:∀i,i<t.place.size->so (i+1)=t.place.getD i 0+1)(hbel:∀i,i<=t.place.size->JJ t.place (so i)=i):Way prog w a es ep t so es where
 pm:=ZV _
 s0:=s0
 item:=λs A E Q i e ha hv q=>QsD hb ha hp hl (by
  have hi:i<es.size:=by
   by_cases z:i<es.size
   ·exact z
   ·rw[ZQ (by omega)] at hv;cases hv
  rw[hbel i (by omega),hv,show t.place[i]? = some (t.place.getD i 0) by simp[Zi,show i<t.place.size by omega]]
  dsimp only
  rw[<- hs i (by omega)];exact q)
 fin:=λs A E Q ha q=>QsD hb ha hp hl (by
  rw[hbel es.size (by omega),ZQ (Qj _)];exact q)
section
variable{prog:QD}{w:Jl}{A:Je}{E:Value->Shared->Prop}{s:Shared}
theorem QnN(n:Nat){k:Int}{v:Value}(h:(intKind prog w).is k v=true):hashByValue n v=pure true/\∀d,ofAClassStatement d v=pure false:=by
 cases v<;>first | (cases h;done) | skip
 all_goals first | exact⟨by cases n<;>rfl,λd=>by cases d<;>rfl⟩ | (simp[intKind] at h)
theorem Qh0{ks:List Int}{vs:List Value}(h:ItemsAre (intKind prog w) ks vs):∀v∈vs,∃k,(intKind prog w).is k v=true:=by
 induction h with
 |nil=>intro v hv;cases hv
 |cons h1 _ ih=>
  intro v hv;rcases Qr.mp hv with z | z
  ·subst z;exact⟨_,h1⟩
  ·exact ih v z
theorem QnM{ks:List Int}{a:Addr}{Q:Bool->Shared->Prop}(hk:ZJ (intKind prog w) s.heap ks a)(h:Q true s):wpAny (model prog w) A (hashByValue 8 (.ref a)) Q E s:=by
 have hT:=hk.typeIs;obtain⟨o,items,n,ho,_,hd,hi⟩:=hk;have ha:=Qh0 hi;unfold hashByValue;refine wpAny_bind (QkQ hT F.slot_tuple_hash.lookup ?_)
 dsimp only
 refine wpAny_bind (ZU ho hd ?_);refine wpAny_bind ?_
 show wpAny _ _ (forIn items _ _) _ _ s;rw[<- QoV];refine Qdx _ (λrest r s'=>r.1=none/\s'=s/\∀v∈rest,∃k,(intKind prog w).is k v=true) _ ?_ ?_ _ _ ⟨rfl,rfl,ha⟩
 ·rintro v rest r s' ⟨hr,rfl,hall⟩;obtain⟨k,hk⟩:=hall v JM;rw[(QnN _ hk).1];refine wpAny_bind (wpAny_pure ?_);simp only[QzB,ZG,if_false];exact wpAny_pure ⟨rfl,rfl,λu hu'=>hall u (Q7 _ hu')⟩
 ·rintro⟨r1,r2⟩ s' ⟨hr,rfl,_⟩;simp only at hr;subst hr;exact wpAny_pure h
theorem QhP{ks:List Int}{a:Addr}{Q:Bool->Shared->Prop}(hk:ZJ (intKind prog w) s.heap ks a)(h:Q false s):wpAny (model prog w) A (ofAClassStatement 8 (.ref a)) Q E s:=by
 have hT:=hk.typeIs;obtain⟨o,items,n,ho,_,hd,hi⟩:=hk;have ha:=Qh0 hi;unfold ofAClassStatement;refine wpAny_bind (Qcm hT ?_)
 dsimp only
 rw[if_pos (by decide)];refine wpAny_bind (wpAny_pure ?_);rw[if_neg (by decide)];refine wpAny_bind (ZU ho hd ?_)
 dsimp only
 refine wpAny_bind ?_
 show wpAny _ _ (forIn items _ _) _ _ s;rw[<- QoV];refine Qdx _ (λrest r s'=>r.1=none/\s'=s/\∀v∈rest,∃k,(intKind prog w).is k v=true) _ ?_ ?_ _ _ ⟨rfl,rfl,ha⟩
 ·rintro v rest r s' ⟨hr,rfl,hall⟩;obtain⟨k,hk⟩:=hall v JM;rw[(QnN 0 hk).2];refine wpAny_bind (wpAny_pure ?_);rw[if_neg (by decide)];exact wpAny_pure ⟨rfl,rfl,λu hu'=>hall u (Q7 _ hu')⟩
 ·rintro⟨r1,r2⟩ s' ⟨hr,rfl,_⟩;simp only at hr;subst hr;exact wpAny_pure h
theorem QtS{ks:List Int}{a:Addr}{stored:List Value}{Q:Bool->Shared->Prop}(hk:ZJ (intKind prog w) s.heap ks a)(hs:∀v∈stored,∃ks' b,v=.ref b/\ZJ (intKind prog w) s.heap ks' b)(h:Q false s):wpAny (model prog w) A (searchCouldBeSeen (.ref a) stored) Q E s:=by
 unfold searchCouldBeSeen;refine wpAny_bind ?_
 refine Qdx _ (λrest r s'=>r.1=none/\s'=s/\∀v∈rest,∃ks' b,v=.ref b/\ZJ (intKind prog w) s.heap ks' b) _ ?_ ?_ _ _ ⟨rfl,rfl,hs⟩
 ·rintro v rest r s' ⟨hr,rfl,hall⟩;obtain⟨ks',b,rfl,hb⟩:=hall v JM
  dsimp only
  split
  ·exact wpAny_pure ⟨rfl,rfl,λu hu'=>hall u (Q7 _ hu')⟩
  ·refine wpAny_bind (Qtf hk ?_);rw[if_neg (by decide)];refine wpAny_bind (Qtf hb ?_);rw[if_neg (by decide)];refine wpAny_bind (QhP hk ?_);rw[if_neg (by decide)];refine wpAny_bind (QhP hb ?_);rw[if_neg (by decide)];exact wpAny_pure ⟨rfl,rfl,λu hu'=>hall u (Q7 _ hu')⟩
 ·rintro⟨r1,r2⟩ s' ⟨hr,rfl,_⟩;simp only at hr;subst hr;exact wpAny_pure h
end
theorem QfC(t:SetTable):∀(n:Nat)(p:J9),(stps t n p).dummy=p.dummy
 |0,_=>rfl
 |n+1,p=>by
  show(stps t n (t.advance p)).dummy=_;rw[QfC t n,Qii]
section
variable{prog:QD}{w:Jl}{A:Je}{E:Value->Shared->Prop}{s:Shared}
structure TS (prog:QD) (w:Jl) (h:Heap) (a:Addr) (es:Array (Int×Value)) (ep:Nat) (t:SetTable) (ps:List (List Int×Addr)):Prop where
 at_:SetAt h a es ep t
 tab:Tab t
 ent:es.toList=ps.map λp=>(tupleKeyHash (intKind prog w) p.1,QU p.2)
 key:∀p∈ps,ZJ (intKind prog w) h p.1 p.2
 nd:(ps.map (·.1)).Nodup
 rch:∀(i j:Nat)(e:Int×Value),t.place[i]? = some j->es[i]? = some e->Rch t j e.1
 mks:t.mask=7∨t.mask=31∨t.mask=127∨t.mask=511∨t.mask=2047
 few:t.place.size*5<t.mask*3
variable{a:Addr}{es:Array (Int×Value)}{ep:Nat}{t:SetTable}{ps:List (List Int×Addr)}
theorem TS.es_at(x:TS prog w s.heap a es ep t ps)(i:Nat):es[i]? = (ps[i]?).map λp=>(tupleKeyHash (intKind prog w) p.1,QU p.2):=by
 rw[<- Q9,x.ent,Qq]
theorem TS.size(x:TS prog w s.heap a es ep t ps):es.size=ps.length:=by rw[<- Qd,x.ent,Qg]
theorem TS.psize(x:TS prog w s.heap a es ep t ps):t.place.size=ps.length:=by
 have:=x.at_.ft;unfold QbK at this;have:=(Qy.mp this).1;rw[<- x.size];exact eq_of_beq this
theorem QCx(x:TS prog w s.heap a es ep t ps)(hu:A.units<cLine){ks:List Int}{b:Addr}(hk:ZJ (intKind prog w) s.heap ks b){n:Nat}(hn:n<10*Jx t.mask)(he:t.slot (stps t n (t.probeStart (tupleKeyHash (intKind prog w) ks))).j=.empty){Q:SetFound->Shared->Prop}
  (hThere:ks∈ps.map (·.1)->Q (.there none) s)(hFree:ks∉ps.map (·.1)->∀j,j∉t.place.toList->j<=t.mask->Rch t j (tupleKeyHash (intKind prog w) ks)->Q (.free j false) s) :
  ∀(fuel k0:Nat)(stand:Option J9),k0<=n->n - k0<fuel->stand.getD (t.probeStart (tupleKeyHash (intKind prog w) ks))=stps t k0 (t.probeStart (tupleKeyHash (intKind prog w) ks))->(∀m,m<k0->∃i,t.slot (stps t m (t.probeStart (tupleKeyHash (intKind prog w) ks))).j=.live i/\∀p,ps[i]? = some p->p.1≠ks) ->
   wpAny (model prog w) A (setSearchFrom a (.ref b) (tupleKeyHash (intKind prog w) ks) true fuel stand) Q E s:=by
 obtain⟨o,ho,hex,hd⟩:=x.at_.at_;have hf:=x.at_.ft;intro fuel;induction fuel with
 |zero=>intro k0 stand _ h;exact absurd h (YQ _)
 |succ fuel ih=>
  intro k0 stand h1 h2 h3 h4;generalize hH:tupleKeyHash (intKind prog w) ks=H at *;unfold setSearchFrom;refine wpAny_bind (Zn ho hd hf ?_)
  dsimp only
  rw[if_neg (by unfold SetTable.gaveWay;rw[x.tab.od];decide)];obtain⟨k,hkn,pass,met⟩:=QrN x.tab (λi=>(es[i]?.map (·.1)).getD 0) H (n - k0) (10*Jx t.mask) (stps t k0 (t.probeStart H)) (by omega) (by rw[<- YV,show k0+(n - k0)=n by omega];exact he) (by rw[QfC];rfl);have eh:∀(i:Nat)(p:List Int×Addr),ps[i]? = some p->(es[i]?.map (·.1)).getD 0=tupleKeyHash (intKind prog w) p.1:=λi p hp=>by rw[x.es_at,hp];rfl
  have pass':∀m,m<k0+k->∃i,t.slot (stps t m (t.probeStart H)).j=.live i/\∀p,ps[i]? = some p->p.1≠ks:=λm hm=>by
   by_cases z:m<k0
   ·exact h4 m z
   ·obtain⟨i,hi,hne⟩:=pass (m - k0) (by omega);rw[<- YV,show k0+(m - k0)=m by omega] at hi;refine⟨i,hi,λp hp e=>hne ?_⟩;rw[eh i p hp,e];exact hH
  rcases met with⟨m1,m2⟩ | ⟨m0,i,m1,m2,m3⟩
  ·split
   ·rename_i mt hpb
    rw[h3] at hpb;have hpb:JA t (λi=>(es[i]?.map (·.1)).getD 0) H (10*Jx t.mask) (stps t k0 (t.probeStart H))=some mt:=hpb;rw[m1] at hpb;cases hpb
    dsimp only
    rw[<- YV] at m2 ⊢;have nin:=x.tab.slot_e m2;refine wpAny_pure (hFree (λhin=>?_) _ nin (QiO t H _) ⟨k0+k,rfl,λm hm=>?_⟩)
    ·obtain⟨p,hp,rfl⟩:=Qx.mp hin;obtain⟨ix,hix⟩:=Q0.mp hp;have hlt:ix<t.place.size:=by rw[x.psize];exact(QR.mp hix).1
     have hpl:t.place[ix]? = some t.place[ix]:=by simp[hlt]
     obtain⟨nn,e1,e2⟩:=x.rch ix _ _ hpl (by rw[x.es_at,hix];rfl)
     dsimp only at e1 e2
     rw[hH] at e1 e2;have hlive:=x.tab.slot_at hpl;rw[<- e1] at hlive;rcases YY nn (k0+k) with z | z | z
     ·obtain⟨i',hi',hne⟩:=pass' nn z;rw[hlive] at hi';cases hi';exact hne p hix rfl
     ·rw[z,m2] at hlive;cases hlive
     ·exact nin (e2 _ z)
    ·obtain⟨i',hi',_⟩:=pass' m hm;have:=Tab.slot_l hi';exact ZI.mpr (YJ this)
   ·rename_i hpb
    rw[h3] at hpb;exact absurd (show JA t (λi=>(es[i]?.map (·.1)).getD 0) H (10*Jx t.mask) (stps t k0 (t.probeStart H))=none from by
     cases hz:JA t (λi=>(es[i]?.map (·.1)).getD 0) H (10*Jx t.mask) (stps t k0 (t.probeStart H)) with
     |none=>rfl
     |some q=>exact absurd hz (hpb q)) (by rw[m1];exact λe=>by cases e)
  ·split
   ·rename_i mt hpb
    rw[h3] at hpb;have hpb:JA t (λi=>(es[i]?.map (·.1)).getD 0) H (10*Jx t.mask) (stps t k0 (t.probeStart H))=some mt:=hpb;rw[m1] at hpb;cases hpb
    dsimp only
    have hpi:=Tab.slot_l m2;have hlt:i<ps.length:=by rw[<- x.psize];exact(ZW.mp hpi).1
    obtain⟨p,hp⟩:∃p,ps[i]? = some p:=⟨ps[i],by simp[hlt]⟩
    have hpm:=QK hp;have hei:es[i]? = some (tupleKeyHash (intKind prog w) p.1,QU p.2):=by rw[x.es_at,hp];rfl
    have hst:∀v∈(List.map (λx=>x.2) (Array.filter (λx=>x.1 == H) es).toList),∃ks' b,v=QU b/\ZJ (intKind prog w) s.heap ks' b:=λv hv=>by
     obtain⟨e,he',rfl⟩:=Qx.mp hv;have he':e∈es.toList:=by
      rw[Array.toList_filter] at he';exact(JB.mp he').1
     rw[x.ent] at he';obtain⟨q,hq,rfl⟩:=Qx.mp he';exact⟨q.1,q.2,rfl,x.key q hq⟩
    have sm:t.sameMemory t.moves t.mask=some true:=by unfold SetTable.sameMemory;rw[if_pos (by simp)]
    split
    ·refine wpAny_bind (QtS hk hst ?_);rw[if_neg (by decide)];rw[hei]
     dsimp only
     refine wpAny_bind (Za (Qzp hu (x.key p hpm) hk ?_));refine wpAny_bind (Zn ho hd hf ?_)
     dsimp only
     by_cases z:p.1=ks
     ·rw[if_pos (by simp[z])];exact wpAny_pure (hThere (Qx.mpr ⟨p,hpm,z⟩))
     ·rw[if_neg (by simp[z]),sm]
      dsimp only
      rw[if_pos rfl,m2]
      dsimp only
      rw[hei]
      dsimp only
      refine wpAny_bind ?_
      unfold isSame
      dsimp only
      rw[if_pos (by simp)];refine wpAny_pure (wpAny_bind (wpAny_pure ?_));rw[if_pos rfl]
      dsimp only
      rw[if_neg (by simp[z])];refine ih (k0+k+1) _ (by omega) (by omega) (by rw[<- YV];rfl) λm hm=>?_
      by_cases y:m<k0+k
      ·exact pass' m y
      ·obtain rfl:m=k0+k:=by omega
       refine⟨i,by rw[YV];exact m2,λq hq=>?_⟩;rw[hp] at hq;cases hq;exact z
    ·rw[hei]
     dsimp only
     refine wpAny_bind (Za (Qzp hu (x.key p hpm) hk ?_));refine wpAny_bind (Zn ho hd hf ?_)
     dsimp only
     by_cases z:p.1=ks
     ·rw[if_pos (by simp[z])];exact wpAny_pure (hThere (Qx.mpr ⟨p,hpm,z⟩))
     ·rw[if_neg (by simp[z]),sm]
      dsimp only
      rw[if_pos rfl,m2]
      dsimp only
      rw[hei]
      dsimp only
      refine wpAny_bind ?_
      unfold isSame
      dsimp only
      rw[if_pos (by simp)];refine wpAny_pure (wpAny_bind (wpAny_pure ?_));rw[if_pos rfl]
      dsimp only
      rw[if_neg (by simp[z])];refine ih (k0+k+1) _ (by omega) (by omega) (by rw[<- YV];rfl) λm hm=>?_
      by_cases y:m<k0+k
      ·exact pass' m y
      ·obtain rfl:m=k0+k:=by omega
       refine⟨i,by rw[YV];exact m2,λq hq=>?_⟩;rw[hp] at hq;cases hq;exact z
   ·rename_i hpb
    rw[h3] at hpb;exact absurd (show JA t (λi=>(es[i]?.map (·.1)).getD 0) H (10*Jx t.mask) (stps t k0 (t.probeStart H))=none from by
     cases hz:JA t (λi=>(es[i]?.map (·.1)).getD 0) H (10*Jx t.mask) (stps t k0 (t.probeStart H)) with
     |none=>rfl
     |some q=>exact absurd hz (hpb q)) (by rw[m1];exact λe=>by cases e)
end
def Sm(m:Nat):List Nat:=(Qk 6).filter m.testBit
def tb(m:Nat)(led:Bool):SetTable:={ mask:=if 5<=(Sm m).length then 31 else 7,place:=(Sm m).toArray,dummies:=#[],finger:=0,led:=led,moves:=if 5<=(Sm m).length then 1 else 0,plain:=true }
def so(m i:Nat):Nat:=match i with
 |0=>0
 |i+1=>(Sm m).toArray.getD i 0+1
def EsOk(es:Array (Int×Value))(S:List Nat):Prop:=∃tks:List Tok,tks.length=S.length/\es.toList=Qc0 (λ(v:Nat)(tk:Tok)=>((v:Int),Qf4 (v:Int) tk)) S tks
theorem EsOk.size{es:Array (Int×Value)}{S:List Nat}(h:EsOk es S):es.size=S.length:=by
 obtain⟨tks,hl,e⟩:=h;rw[<- Qd,e,Qea,hl,Ql1]
theorem Qty{S:List Nat}{e:Int×Value}:∀{tks:List Tok},e∈Qc0 (λ(v:Nat)(tk:Tok)=>((v:Int),Qf4 (v:Int) tk)) S tks->∃v∈S,∃tk,e=((v:Int),.int v tk):=by
 induction S with
 |nil=>intro tks h;cases tks<;>cases h
 |cons x S ih=>
  intro tks h;cases tks with
  |nil=>cases h
  |cons t tks=>
   rcases Qr.mp h with z | z
   ·exact⟨x,.head _,t,z⟩
   ·obtain⟨v,hv,r⟩:=ih z;exact⟨v,.tail _ hv,r⟩
theorem EsOk.mem{es:Array (Int×Value)}{S:List Nat}(h:EsOk es S){e:Int×Value}(he:e∈es.toList):∃v∈S,∃tk,e=((v:Int),.int v tk):=by
 obtain⟨tks,hl,e'⟩:=h;rw[e'] at he;exact Qty he
theorem SetAt.store{h:Heap}{a:Addr}{es es':Array (Int×Value)}{ep:Nat}{t t':SetTable}(x:SetAt h a es ep t)(hf:t'.fits es'.size=true):SetAt (h.update a (Qjx es' t')) a es' (ep+1) t':=by
 obtain⟨o,ho,hex,hd⟩:=x.at_;have hg:=ZC (Qjx es' t') ho (by rw[putSet_of es' t' hd];rfl);rw[putSet_of es' t' hd] at hg;exact⟨⟨_,hg,hex,rfl⟩,hf⟩
section
variable{prog:QD}{w:Jl}{A:Je}{E:Value->Shared->Prop}{s:Shared}
end
section
variable{prog:QD}{w:Jl}{A:Je}{R:Qtk->Shared->Prop}{I:Addr}{fp wr:List Addr}{n:Nat}{P:Nat->Value->Prop}{St:Nat->Heap->Prop}
end
theorem ins_get{α β:Type}{l1:List α}{l2:List β}(hl:l1.length=l2.length){p:Nat}(hp:p<=l1.length){x:α}{y:β}{i:Nat}{u:α}{v:β}(h1:(l1.take p++x::l1.drop p)[i]? = some u)(h2:(l2.take p++y::l2.drop p)[i]? = some v):(u=x/\v=y)∨∃k:Nat,l1[k]? = some u/\l2[k]? = some v:=by
 have t1:(l1.take p).length=p:=by rw[Jo];omega
 have t2:(l2.take p).length=p:=by rw[Jo];omega
 rcases YY i p with z | z | z
 ·rw[Zd (by omega),QiB z] at h1 h2;exact .inr ⟨i,h1,h2⟩
 ·subst z;rw[Jg (by omega),t1,Qdb] at h1;rw[Jg (by omega),t2,Qdb] at h2;exact .inl ⟨(Qu h1).symm,(Qu h2).symm⟩
 ·rw[Jg (by omega),t1,show i - p=(i - p - 1)+1 by omega,Zo,YB] at h1;rw[Jg (by omega),t2,show i - p=(i - p - 1)+1 by omega,Zo,YB] at h2;exact .inr ⟨_,h1,h2⟩
section
variable{prog:QD}{w:Jl}{A:Je}{E:Value->Shared->Prop}{s:Shared}{a:Addr}{es:Array (Int×Value)}{ep:Nat}{t:SetTable}{ps:List (List Int×Addr)}
theorem TS.other(x:TS prog w s.heap a es ep t ps){ks:List Int}{b:Addr}(hk:ZJ (intKind prog w) s.heap ks b):b≠a:=λe=>by
 subst e;obtain⟨o,ho,hex,hd⟩:=x.at_.at_;obtain⟨o',it,n,ho',hc,_⟩:=hk;rw[ho] at ho';cases ho';rw[hex.1] at hc;exact absurd hc (by decide)
theorem Qjd{h:Heap}{f:Obj->Obj}{ks:List Int}{b:Addr}(hk:ZJ (intKind prog w) h ks b)(hne:b≠a):ZJ (intKind prog w) (h.update a f) ks b:=by
 obtain⟨o',it,n,ho',r⟩:=hk;exact⟨o',it,n,(Yx _ _ (Qb0 hne)).trans ho',r⟩
theorem TS.put(x:TS prog w s.heap a es ep t ps){ks:List Int}{b:Addr}(hk:ZJ (intKind prog w) s.heap ks b)(hnew:ks∉ps.map (·.1)){j:Nat}(hj:j∉t.place.toList)(hm:j<=t.mask)(hr:Rch t j (tupleKeyHash (intKind prog w) ks)) :
  SetAt (s.heap.update a (Qjx (Zr es (t.put j).2 (tupleKeyHash (intKind prog w) ks,QU b)) (t.put j).1)) a (Zr es (t.put j).2 (tupleKeyHash (intKind prog w) ks,QU b)) (ep+1) (t.put j).1 /\
  Tab (t.put j).1/\(Zr es (t.put j).2 (tupleKeyHash (intKind prog w) ks,QU b)).toList=(ps.take (t.put j).2++(ks,b)::ps.drop (t.put j).2).map (λp=>(tupleKeyHash (intKind prog w) p.1,QU p.2)) /\
  (∀p∈ps.take (t.put j).2++(ks,b)::ps.drop (t.put j).2,ZJ (intKind prog w) (s.heap.update a (Qjx (Zr es (t.put j).2 (tupleKeyHash (intKind prog w) ks,QU b)) (t.put j).1)) p.1 p.2) /\
  (ps.take (t.put j).2++(ks,b)::ps.drop (t.put j).2).Perm ((ks,b)::ps) /\
  (∀(i j':Nat)(e:Int×Value),(t.put j).1.place[i]? = some j'->(Zr es (t.put j).2 (tupleKeyHash (intKind prog w) ks,QU b))[i]? = some e->Rch (t.put j).1 j' e.1) /\
  (t.put j).1.place.size=ps.length+1:=by
 obtain⟨T,pl,m1,m2,m3,m4⟩:=x.tab.put hj hm;have hle:(t.put j).2<=t.place.toList.length:=by
  rw[Qd];exact(QcA x.tab.pw j).1
 have hsz:(t.put j).1.place.size=ps.length+1:=by
  rw[<- Qd,pl,<- x.psize,<- Qd,Qs,Qv,Jo,ZH];omega
 have hes:(Zr es (t.put j).2 (tupleKeyHash (intKind prog w) ks,QU b)).toList=es.toList.take (t.put j).2++(tupleKeyHash (intKind prog w) ks,QU b)::es.toList.drop (t.put j).2:=Qf5 _ _ _;have hent:(Zr es (t.put j).2 (tupleKeyHash (intKind prog w) ks,QU b)).toList=(ps.take (t.put j).2++(ks,b)::ps.drop (t.put j).2).map (λp=>(tupleKeyHash (intKind prog w) p.1,QU p.2)):=by
  rw[hes,x.ent,JF,Jh,Qjz,List.map_drop]
 have hpm:(ps.take (t.put j).2++(ks,b)::ps.drop (t.put j).2).Perm ((ks,b)::ps):=by
  refine Qto.trans ?_
  rw[Jq]
 have hs1:(Zr es (t.put j).2 (tupleKeyHash (intKind prog w) ks,QU b)).size=ps.length+1:=by
  rw[<- Qd,hent,Qg,hpm.length_eq,Qv]
 have hfew:(t.put j).1.place.size<=(t.put j).1.mask:=by
  rw[hsz,m1,<- x.psize];have:=x.few;have:=x.mks;omega
 refine⟨x.at_.store ?_,T,hent,λp hp=>?_,hpm,λi j' e h1 h2=>?_,hsz⟩
 ·unfold QbK Qg5;rw[m4,hsz,hs1];rw[hsz] at hfew;simp[hfew]
 ·rcases Qr.mp (hpm.mem_iff.mp hp) with z | z
  ·subst z;exact Qjd hk (x.other hk)
  ·exact Qjd (x.key p z) (x.other (x.key p z))
 ·rw[<- Q9,pl] at h1;rw[<- Q9,hes] at h2;have hl:t.place.toList.length=es.toList.length:=by rw[Qd,Qd,x.psize,x.size]
  have grow:∀y∈t.place.toList,y∈(t.put j).1.place.toList:=λy hy=>by
   rw[pl];rw[<- Jq (t.put j).2 t.place.toList] at hy;rcases Jr.mp hy with z | z
   ·exact Yb _ z
   ·exact QV _ (.tail _ z)
  rcases ins_get hl hle h1 h2 with⟨rfl,rfl⟩ | ⟨k,q1,q2⟩
  ·exact hr.mono m1 grow
  ·exact(x.rch k j' e (by rw[<- Q9];exact q1) (by rw[<- Q9];exact q2)).mono m1 grow
end
theorem QnO{t:SetTable}(h:t.mask=7∨t.mask=31∨t.mask=127∨t.mask=511∨t.mask=2047):Qch (t.mask+1)=true:=by
 rcases h with h | h | h | h | h<;>rw[h]
 ·exact Qs0
 ·exact QvA
 ·exact QrL
 ·exact QrK
 ·exact QnP
section
variable{prog:QD}{w:Jl}{A:Je}{E:Value->Shared->Prop}{s:Shared}{a:Addr}{es:Array (Int×Value)}{ep:Nat}{t:SetTable}{ps:List (List Int×Addr)}
theorem QAy{m wanted:Nat}{ps:List (List Int×Addr)}(hA:SetAt s.heap a es ep t)(hpl:t.plain=true)(hent:es.toList=ps.map λp=>(tupleKeyHash (intKind prog w) p.1,QU p.2))(hkey:∀p∈ps,ZJ (intKind prog w) s.heap p.1 p.2)(hoth:∀p∈ps,p.2≠a)(hnd:(ps.map (·.1)).Nodup)
  (hw:QkX wanted=m+1)(hm:m=7∨m=31∨m=127∨m=511∨m=2047)(hf:ps.length*5<m*3){Q:Unit->Shared->Prop}
  (h:∀h' es' t' ps',TS prog w h' a es' (ep+1) t' ps'->ps'.Perm ps->t'.led=t.led->Qan a s.heap h'->Q () { s with heap:=h' }):wpAny (model prog w) A (setRelay a wanted) Q E s:=by
 obtain⟨o,ho,hex,hd⟩:=hA.at_;have hsz:es.size=ps.length:=by rw[<- Qd,hent,Qg]
 have hg:Qch (m+1)=true:=QnO (t:=tM m) hm;obtain⟨t2,order,el,T,m1,m2,m3,m4,m5⟩:=Qlx (finger:=t.finger) (moves:=t.movedTo m) (led:=t.led) hg (by omega) (es.map (·.1)) (by rw[QdE,hsz];omega);rw[QdE] at m3 m4;have pe:=Qlm (es:=es) m4;have sz2:(order.filterMap (es[·]?)).size=es.size:=by rw[<- Qd,pe.length_eq,Qd]
 unfold setRelay;refine wpAny_bind (Zn ho hd hA.ft ?_)
 dsimp only
 rw[if_neg (by rw[hw,Z0];omega)];refine wpAny_bind ?_
 have erl:t.relaid (es.map (·.1)) wanted=some (t2,order):=by
  unfold SetTable.relaid;rw[hw,QbN,hpl];exact el
 rw[erl];show wpAny (model prog w) A (if((order.filterMap (es[·]?)).size != es.size)=true then _ else _) _ E s;rw[if_neg (by rw[sz2];simp)];refine wpAny_pure ?_
 dsimp only
 have fit:t2.fits (order.filterMap (es[·]?)).size=true:=by
  unfold QbK Qg5;rw[T.dm,m3,sz2,hsz,m1];simp;omega
 refine QzQ ho hd ?_ (by rw[sz2,hsz,Z0];omega)
 obtain⟨ps',pp,ep'⟩:∃ps':List (List Int×Addr),ps'.Perm ps/\(order.filterMap (es[·]?)).toList=ps'.map λp=>(tupleKeyHash (intKind prog w) p.1,QU p.2):=by
  rw[hent] at pe;have key:∀{l k:List (Int×Value)},l.Perm k->∀{T:List (List Int×Addr)},k=T.map (λp=>(tupleKeyHash (intKind prog w) p.1,QU p.2))->∃T':List (List Int×Addr),T'.Perm T/\l=T'.map λp=>(tupleKeyHash (intKind prog w) p.1,QU p.2):=by
   intro l k p;induction p with
   |nil=>intro T e;exact⟨T,ZV _,e⟩
   |@cons x l1 l2 _ ih=>
    intro T e;cases T with
    |nil=>cases e
    |cons y T=>
     injection e with e1 e2
     obtain⟨T',p',e'⟩:=ih e2;exact⟨y::T',p'.cons y,by rw[e1,e'];rfl⟩
   |swap x y l=>
    intro T e
    match T,e with
    |u::v::T,e=>
     injection e with e1 e2
     injection e2 with e2 e3
     exact⟨v::u::T,Qfp _ _ _,by rw[e1,e2,e3];rfl⟩
   |trans _ _ ih1 ih2=>
    intro T e;obtain⟨T1,p1,e1⟩:=ih2 e;obtain⟨T2,p2,e2⟩:=ih1 e1;exact⟨T2,p2.trans p1,e2⟩
  exact key pe rfl
 refine h _ _ t2 ps' ⟨hA.store fit,T,ep',λp hp=>Qjd (hkey p (pp.mem_iff.mp hp)) (hoth p (pp.mem_iff.mp hp)),(pp.map (·.1)).nodup_iff.mpr hnd,λi j e h1 h2=>?_,by rw[m1];exact hm,by rw[m3,hsz,m1];exact hf⟩ pp m2 (Zp ..);have hlt:i<order.size:=by
  have:order.size=es.size:=by
   have:=m4.length_eq;rw[Qd,Qz] at this;exact this
  rw[this,<- m3];exact(ZW.mp h1).1
 have hok:order[i]? = some order[i]:=by simp[hlt]
 have hr:=m5 i j order[i] h1 hok;have hin:order[i]<es.size:=QF.mp (m4.mem_iff.mp (ZI.mpr (Array.getElem_mem hlt)));have e2:e=es[order[i]]:=by
  have key:∀(l:List Nat),(∀x∈l,x<es.size)->∀i:Nat,(l.filterMap (es[·]?))[i]? = (l[i]?).bind (es[·]?):=λl=>by
   induction l with
   |nil=>intro _ i;rfl
   |cons x l ih=>
    intro hx i;have hx1:x<es.size:=hx x (.head _);have hx0:es[x]? = some es[x]:=by simp[hx1]
    rw[ZP,hx0];cases i with
    |zero=>simp[hx0]
    |succ i=>exact ih (λy hy=>hx y (.tail _ hy)) i
  rw[<- Q9,QjE,key order.toList λy hy=>QF.mp (m4.mem_iff.mp hy)] at h2;rw[Q9,hok] at h2;simp[hin] at h2;exact h2.symm
 have e3:(es.map (·.1)).getD order[i] 0=e.1:=by rw[e2];simp[Zi,hin]
 rw[e3] at hr;exact hr
theorem addTB(x:TS prog w s.heap a es ep t ps)(hu:A.units<cLine){ks:List Int}{b:Addr}(hk:ZJ (intKind prog w) s.heap ks b)(h300:ps.length<1200){Q:Bool->Shared->Prop}
  (h1:ks∈ps.map (·.1)->∀tk,Q false { s with toks:=tk })
  (h2:ks∉ps.map (·.1)->∀h' es' ep' t' ps' tk,TS prog w h' a es' ep' t' ps'->ps'.Perm ((ks,b)::ps)->t'.led=t.led->Qan a s.heap h'->Q true { s with heap:=h',toks:=tk }):wpAny (model prog w) A (setAdd a (.ref b)) Q E s:=by
 obtain⟨o,ho,hex,hd⟩:=x.at_.at_;unfold setAdd;refine Za (wpAny_bind (wpAny_pyHash_tuple hu hk ?_));unfold setAddHashed;refine Za ?_
 unfold setAddHashedIn;refine wpAny_bind (Zn (s:={ s with toks:=s.toks+(ks.length+1) }) ho hd x.at_.ft ?_)
 dsimp only
 rw[if_neg (by unfold byScan Value.scannable;simp)];have hsm:t.place.size<=t.mask:=by
  have:=x.few;omega
 obtain⟨j0,hj0,hj1⟩:=x.tab.room hsm;obtain⟨n,hn,en⟩:=Qk8 t (QnO x.mks) (tupleKeyHash (intKind prog w) ks) hj0;have x':TS prog w ({ s with toks:=s.toks+(ks.length+1) }:Shared).heap a es ep t ps:=x;have hn2:n<100000:=by
  have:=x.mks;unfold Jx at hn;omega
 refine wpAny_bind (QCx (s:={ s with toks:=s.toks+(ks.length+1) }) x' hu hk hn (by rw[en];exact x.tab.slot_no hj1) (λhin=>?_) (λhnot j hj hjm hr=>?_) 100000 0 none (Qt _) (by omega) rfl λm hm=>absurd hm (YQ _))
 ·exact wpAny_pure (h1 hin _)
 ·dsimp only
  refine wpAny_bind (Zn (s:={ s with toks:=s.toks+(ks.length+1) }) ho hd x.at_.ft ?_)
  dsimp only
  obtain⟨q1,q2,q3,q4,q5,q6,q7⟩:=TS.put (s:={ s with toks:=s.toks+(ks.length+1) }) x' hk hnot hj hjm hr;obtain⟨T,pl,m1,m2,m3,m4⟩:=x.tab.put hj hjm;generalize hpt:t.put j=pt at *;obtain⟨t1,p1⟩:=pt
  dsimp only at *
  have hsz1:(Zr es p1 (tupleKeyHash (intKind prog w) ks,QU b)).size=ps.length+1:=by rw[<- Qd,q3,Qg,q5.length_eq,Qv]
  have hfill:t1.fill=ps.length+1:=by unfold Qg5;rw[m4,q7];rfl
  have hfew:=x.few;have hmk:=x.mks;have hps:=x.psize;have hes:=x.size;have hoth:∀p∈ps.take p1++(ks,b)::ps.drop p1,p.2≠a:=λp hp=>by
   rcases Qr.mp (q5.mem_iff.mp hp) with z | z
   ·subst z;exact x.other hk
   ·exact x.other (x.key p z)
  have hnd:((ps.take p1++(ks,b)::ps.drop p1).map (·.1)).Nodup:=(q5.map (·.1)).nodup_iff.mpr (by rw[Jh];exact ZO.mpr ⟨hnot,x.nd⟩);rw[if_pos q2.pl];refine wpAny_bind (QnM hk ?_);simp only[↓reduceIte,Bool.not_false,Qcp];refine wpAny_bind (QzQ (s:={ s with toks:=s.toks+(ks.length+1) }) ho hd ?_ (by rw[hsz1,Z0];omega));by_cases z:t1.tooFull=true
  ·rw[if_pos z];have z':t1.fill*5≥t1.mask*3:=of_decide_eq_true z;rw[hfill,m1] at z';obtain⟨m,hw,hm,hf⟩:∃m,QkX (SetTable.grown (es.size+1))=m+1/\(m=7∨m=31∨m=127∨m=511∨m=2047)/\(ps.length+1)*5<m*3:=by
    rw[hes];rcases hmk with e | e | e | e | e
    ·have:ps.length=4:=by omega
     rw[this];exact⟨31,by decide,by decide,by decide⟩
    ·have:ps.length=18:=by omega
     rw[this];exact⟨127,by decide,by decide,by decide⟩
    ·have:ps.length=76:=by omega
     rw[this];exact⟨511,by decide,by decide,by decide⟩
    ·have:ps.length=306:=by omega
     rw[this];exact⟨2047,by decide,by decide,by decide⟩
    ·omega
   refine wpAny_bind (QAy q1 q2.pl q3 q4 hoth hnd hw hm (by rw[q5.length_eq,Qv];exact hf) λh' es' t' ps' ts pp led sb=>wpAny_pure (h2 hnot h' es' _ t' ps' _ ts (pp.trans q5) (led.trans m2) ((Zp ..).trans sb)))
  ·rw[if_neg z];have z':¬t1.fill*5≥t1.mask*3:=λc=>z (decide_eq_true c)
   rw[hfill] at z';exact wpAny_pure (h2 hnot _ _ _ _ _ _ ⟨q1,q2,q3,q4,hnd,q6,by rw[m1];exact hmk,by rw[q7];omega⟩ q5 m2 (Zp ..))
end
section
variable{prog:QD}{w:Jl}{A:Je}{E:Value->Shared->Prop}{s:Shared}
def ledOf(w:Jl):Bool := !w.params.followText "set-order"
end
section
variable{prog:QD}{w:Jl}{s:Shared}{a:Addr}{es:Array (Int×Value)}{ep:Nat}{t:SetTable}{ps:List (List Int×Addr)}
theorem QtH(led:Bool):Tab (Qbj 0 0 led):=⟨by simp[Qbj],by simp[Qbj],rfl,Qs0,rfl,by show 7 % 2=1;decide⟩
variable{A:Je}{R:Qtk->Shared->Prop}{I:Addr}{fp wr:List Addr}{n:Nat}{P:Nat->Value->Prop}{St:Nat->Heap->Prop}
end
section
variable{prog:QD}{w:Jl}{A:Je}{E:Value->Shared->Prop}{s:Shared}
end
theorem Qmv:Slot "set_iterator" "__iter__" "set_iterator.__iter__" :=
 .of (owner := "set_iterator") (n := "__iter__") (by rw[QkS,Qem];kernel_rfl) (by decide +kernel) (by decide +kernel) (by decide +kernel) (by first | exact .inl (by decide +kernel) | exact .inr (by decide +kernel)) (by rw[QcD];kernel_rfl)
theorem QBk:entryFor table "set_iterator.__iter__" = some Qaa.«dict_keyiterator.__iter__» := entryFor_alias (id' := "dict_keyiterator.__iter__") (by kernel_rfl) (by first | rfl | decide +kernel | (unfold Qtj;simp +decide [QoR])) (by decide +kernel) (by kernel_rfl)
theorem QBr(a:Value):argsOk "set_iterator.__iter__" ⟨[a],[]⟩:=by
 unfold argsOk;rw[signature?_of (id := "set_iterator.__iter__") (n:=['_', '_', 'r', 'e', 't', 'i', '_', '_']) (o:=['r', 'o', 't', 'a', 'r', 'e', 't', 'i', '_', 't', 'e', 's']) (by kernel_rfl) Qx2];kernel_rfl
theorem Qvm:typeLookup (.type "set") "__len__" = pure (some (.builtin "set.__len__")):=by rw[QkS,Qem];kernel_rfl
section
variable{prog:QD}{w:Jl}{A:Je}{E:Value->Shared->Prop}{s:Shared}
theorem QtQ{I a:Addr}{first:Value}{i n ep:Nat}{Q:Value->Shared->Prop}(hit:IsSI s.heap I first i a n ep)(h:Q (.ref I) s):wpAny (model prog w) A (pyIter (.ref I)) Q E s:=by
 refine QzS hit.typeIs Qmv (JO Qmv hit.typeIs QBk ?_ (QBr _));show wpAny _ _ (ret (.ref I)) _ _ s;exact wpAny_pure ⟨_,rfl, "set_iterator",_,hit.typeIs,QdO.lookup,h⟩
theorem Qjk{a:Addr}{es vs:Array (Int×Value)}{ep:Nat}{t:SetTable}{so:Nat->Nat}{Q:List Value->Shared->Prop}(hh:A.handled=none)(W:Way prog w a es ep t so vs)(ha:SetAt s.heap a es ep t)(hp:t.plain=true)(hn:es.size<=sizeLine)
  (hQ:∀(h':Heap)(tk:Nat),(∀b o,s.heap.get? b=some o->h'.get? b=some o)->Q (vs.toList.map (·.2)) { s with heap:=h',toks:=tk }):wpAny (model prog w) A (collect (.ref a)) Q E s:=by
 have hlt:a<s.heap.objs.size:=let ⟨o,ho,_⟩:=ha.at_;Qp ho
 unfold collect;refine wpAny_bind (wpAny_runValue (QkW F.entry_proto_collect ?_));rw[Qc5 F.plain_proto_collect _];show wpAny _ A.in1 (newList [] >>= λl=>again (.builtin "list.__iadd__" ⟨[l,.ref a],[]⟩)) _ _ s;refine wpAny_bind (JC (wpAny_pure ⟨Qo2 QwM _,QkW F.entry_list_iadd ?_⟩));rw[Qc5 QwM _];generalize hH:s.heap.push { cls:=.type "list",data:=.seq ([]:List Value).toArray }=H;have hHs:H.objs.size=s.heap.objs.size+1:=by rw[<- hH,ZK]
 have keep:∀b o,s.heap.get? b=some o->H.get? b=some o:=λb o e=>hH ▸ Qe _ e
 have hS:H.get? s.heap.objs.size=some { cls:=.type "list",data:=.seq ([]:List Value).toArray }:=hH ▸ Qw _ rfl;have ha1:SetAt H a es ep t:=ha.at' λo e=>keep a o e
 have hT:Qwg { s with heap:=H } (.ref a) "set" := let ⟨o,ho,hx,_⟩:=ha1.at_;⟨o,ho,hx.1⟩
 show wpAny _ A.in1 (Qee (.ref s.heap.objs.size) (.ref a) (.ref s.heap.objs.size)) _ _ { s with heap:=H };unfold Qee;refine wpAny_bind (Qcm hT ?_);have h1:QeJ (.ref s.heap.objs.size) (.ref a)=false:=by simp[QeJ,QaO hlt]
 have h2:(Yp "set" == Yp "list")=false:=by decide
 have h3:(Yp "set" == Yp "tuple")=false:=by decide
 simp only[h1,h2,h3,Bool.or_false,ZG,if_false];refine wpAny_bind (QyC ha1 hp ?_);generalize hH2:Heap.push H { cls:=.type "set_iterator",data:=.fields #[.int 0 0,.int 0 0,.ref a,.int es.size 0,.int ep 0] }=H2;have keep2:∀b o,H.get? b=some o->H2.get? b=some o:=λb o e=>hH2 ▸ Qe _ e
 have hT2:Qwg { s with heap:=H2 } (.ref a) "set" := let ⟨o,ho,hc⟩:=hT;⟨o,keep2 a o ho,hc⟩
 have hI:IsSI H2 H.objs.size (.int (so 0) 0) 0 a es.size ep:=⟨_,hH2 ▸ Qw _ rfl,rfl,by rw[W.s0];rfl⟩;refine wpAny_bind (Za ?_);show wpAny _ A.in1 _ _ _ { s with heap:=H2 };unfold Builtin.List.listLengthHint;refine wpAny_bind (QkQ hT2 Qvm ?_)
 wp_delta
 refine wpAny_bind (Qiv (b:=true) hT2 (by rw[QcD];kernel_rfl) ?_);show wpAny _ A.in1 (typeOf (QU a) >>= _) _ _ _;refine wpAny_bind (Qcm hT2 (wpAny_pure ?_));show wpAny _ A.in1 (rule "list.extend.makes-room" >>= λ_=>Builtin.List.listTouch (.ref s.heap.objs.size) >>= λ_=>again (.builtin "list.extend.loop" ⟨[.ref s.heap.objs.size,.ref H.objs.size,.ref s.heap.objs.size],[]⟩)) _ _ _;refine wpAny_bind (wpAny_rule (wpAny_bind ?_));show wpAny _ A.in1 (updateSeq s.heap.objs.size (·.push .none) >>= λ_=>updateSeq s.heap.objs.size (·.pop)) _ _ _;have hS1:=keep2 _ _ hS;refine wpAny_bind (wpAny_updateSeq hS1 rfl ?_);have hS2:=ZC (J5 (·.push JD)) hS1 rfl;refine wpAny_updateSeq hS2 rfl ?_
 have hS3:=ZC (J5 (·.pop)) hS2 rfl;generalize hH3:(H2.update s.heap.objs.size (J5 (·.push JD))).update s.heap.objs.size (J5 (·.pop))=H3 at hS3 ⊢;have oth:∀b o,b≠s.heap.objs.size->H2.get? b=some o->H3.get? b=some o:=λb o hb e=>hH3 ▸ (Yx _ _ (Qb0 hb)).trans ((Yx _ _ (Qb0 hb)).trans e)
 have hIS:H.objs.size≠s.heap.objs.size:=by omega
 have hne:a≠H.objs.size:=by rw[hHs];exact QH (YZ hlt)
 have hSf:s.heap.objs.size∉[H.objs.size,a]:=by simp only[Qr,Q6,or_false,not_or];exact⟨by omega,QaO hlt⟩
 have WW:=(Way.walks (A:=A.in1) hh W H.objs.size hne λs Q E i st q=>QtQ st q).toS;refine wpAny_pure ⟨Qo2 F.plain_extend_loop _,codeAny_extend_loopS WW hn _ hSf _ es.size 0 { s with heap:=H3 } _ _ rfl (Qt _) ⟨hI.at' λo e=>oth _ o hIS e,ha1.at' λo e=>oth a o (QH hlt) (keep2 a o e)⟩ hS3 (ItemsOf.nil _) λs' acc' c' hm hS' hacc=>?_⟩;show wpAny _ A (load s.heap.objs.size >>= _) _ _ s';refine wpAny_bind (wpAny_load hS' (wpAny_pure ?_));have hl:vs.size=es.size:=by rw[<- Qd,W.pm.length_eq,Qd]
 have he:acc'.toList=vs.toList.map (·.2):=by
  apply Yi
  intro j;rw[Qq,Q9,Q9];by_cases z:j<acc'.size
  ·have:=hacc.2 j acc'[j] (by simp[z]);rw[this];simp[z]
  ·rw[ZQ (by omega),ZQ (by have:=hacc.1;omega)];rfl
 show Q acc'.toList s';rw[he];have es':s'={ s with heap:=s'.heap,toks:=s'.toks }:=by
  obtain⟨hp',g',d',tk',os'⟩:=s';have e1:=hm.gens;have e2:=hm.drawn;have e3:=hm.os;simp only at e1 e2 e3;rw[e1,e2,e3]
 rw[es'];refine hQ _ _ λb o e=>?_
 have hb:=Qp e;refine hm.heap b o ?_ (oth b o (QH hb) (keep2 b o (keep b o e)))
 simp only[Qr,Q6,or_false,not_or];exact⟨QH hb,by rw[hHs];exact QH (YZ hb)⟩
end
end Zt
namespace Zt
open PySem.W PySem.Calls Rs
section
variable{prog:QD}{w:Jl}{A:Je}{E:Value->Shared->Prop}{s:Shared}
end
end Zt
namespace L2
open Zt
section
variable{X:Cx}
end
end L2
namespace Dl
open L2 _root_.Rd Rk Zt
section
variable{X:Cx}{E:XK}
end
end Dl
namespace L2
open PySem.Calls _root_.Rd _root_.Rk _root_.Rs Rt Dl
section
variable{X:Cx}
theorem Qms(hu:X.A.units+60<cLine){pins:List (Addr×Obj)}{s:Shared}{σ:L2.St}{H:Hp}(I:Inv X pins σ H s){vs:List V}{ds:List Qa}{its:List Value}(rv:Vals vs its)(hz:vs.length<=sizeLine)(dts:Dats H vs ds)(so:QkN ds){Q:VK}
  (q:∀(t:Addr)(ys:List V)(es:List Qa)(H2:Hp),Same H H2->H t=none->H2 t=some (.lst ys)->Dats H2 ys es->es.Perm ds->es.Pairwise (λa b=>ltD b a=false)->(∀y∈ys,y∈vs)->Q (.ref t) H2)(h':Heap)(tk:Nat)(kp:∀b x,s.heap.get? b=some x->h'.get? b=some x)(P:PySem.Fin->Shared->Prop)(E':Value->Shared->Prop)
  (hP:∀s2,(∃v H',Inv X pins σ H' s2/\RelV v (.ref h'.objs.size)/\Q v H')->P (.done (.ret .none)) s2) :
  wpAny (model X.prog X.w) X.A.in1.in1 (Qaa.«list.sort» ⟨[.ref h'.objs.size],[]⟩) P E' { s with heap:=h'.push (seqObj "list" its.toArray 0),toks:=tk }:=by
 have hu2:X.A.in1.in1.units+2*20+4<cLine:=by show X.A.units+1+1+2*20+4<cLine;omega
 have li:=rv.length;obtain⟨⟨as,ra⟩,cl⟩:=Qat I.hok ds vs its dts rv;have okds:Qi5 ds=true:=Qnb λd hd=>Qol d (so.cmp d hd d hd)
 have ra':=QaJ kp ds its as okds ra
 let c:Keyed->Keyed->Bool:=λx y=>ltD (rdV h' x.1) (rdV h' y.1)
 have oc:Ord c:=⟨λx y=>Qrz _ _,λx y z=>Qys _ _ _⟩;refine QgF (s:={ s with heap:=h'.push (seqObj "list" its.toArray 0),toks:=tk }) (c:=c) (Qw _ rfl) (by omega) oc (λh2 k2 Q' E' hq=>?_) λarr pm sg h2 e k2 e2=>hP _ ?_
 ·have kk:∀b x,h'.get? b=some x->h2.get? b=some x:=λb x e=>k2 b x (QH (Qp e)) (Qe _ e)
  have ra2:=QaJ kk ds its as okds ra';have asks:∀κ,Qsc ds κ->(∀b,κ=tuples' b->∀d∈ds,∃es,d=.tuple es)->Asks X.prog X.w X.A.in1.in1 { s with heap:=h2,toks:=tk } κ (prs its) c:=λκ su tb=>by
   refine⟨oc,λx y hx hy C E'' hC=>?_⟩;rw[QeA] at hx hy;obtain⟨ex,hx⟩:=Qdg hx;obtain⟨ey,hy⟩:=Qdg hy;obtain⟨d1,m1,b1,r1⟩:=ZT ra2 x.2 hx;obtain⟨d2,m2,b2,r2⟩:=ZT ra2 y.2 hy;obtain⟨d1',m1',b1',r1'⟩:=ZT ra' x.2 hx;obtain⟨d2',m2',b2',r2'⟩:=ZT ra' y.2 hy;have k1:=YW okds d1 m1;have k2:=YW okds d2 m2;have c1:=Qe0 d1 k1;have c2:=Qe0 d2 k2;have c1':=Qe0 d1' (YW okds d1' m1');have c2':=Qe0 d2' (YW okds d2' m2');have q1:d1'=d1:=QaX d1' d1 x.2 _ _ c1' (QdW kk d1' _ _ (YW okds d1' m1') r1') r1;have q2:d2'=d2:=QaX d2' d2 y.2 _ _ c2' (QdW kk d2' _ _ (YW okds d2' m2') r2') r2;subst q1 q2;have hC:C (ltD (rdV h' x.1) (rdV h' y.1)) { s with heap:=h2,toks:=tk }:=hC;rw[ex,ey,QmD r1' c1',QmD r2' c2'] at hC;rw[ex,ey];exact Qyy (N:=20) su m1 r1 r2 c1 c2 (so.cmp _ m1 _ m2) (λb e=>tb b e _ m1) (so.dep _ m1) hu2 hC
  cases ds with
  |nil=>
   cases ra2;exact Qkl (s:={ s with heap:=h2,toks:=tk }) .nil rfl (λd hd=>nomatch hd) λκ su=>hq κ (asks κ su λb _ d hd=>nomatch hd)
  |cons d0 ds0=>
   have sh:(∀d∈d0::ds0,∃es,d=.tuple es)∨∀d∈d0::ds0,∃i,d=.int i:=by
    cases d0 with
    |int i=>exact .inr λd hd=>by have:=so.cmp _ (.head _) d hd;cases d<;>first | exact⟨_,rfl⟩ | (cases this;done)
    |tuple es=>exact .inl λd hd=>by have:=so.cmp _ (.head _) d hd;cases d<;>first | exact⟨_,rfl⟩ | (cases this;done)
    |_=>have:=so.cmp _ (.head _) _ (.head _);cases this
   rcases sh with sh | sh
   ·exact Qkl (s:={ s with heap:=h2,toks:=tk }) ra2 okds sh λκ su=>hq κ (asks κ su λb _=>sh)
   ·have one:Qsc (d0::ds0) oneType':=.inr (.inl rfl);by_cases l2:its.length<2
    ·have hk1:∀v∈its,∀(Q'':Option Value->Shared->Prop),Q'' none { s with heap:=h2,toks:=tk }->wpAny (model X.prog X.w) X.A.in1.in1 (firstOfTuple' v) Q'' E' { s with heap:=h2,toks:=tk }:=λv hv Q'' q''=>by
      obtain⟨d,hd,bs,r⟩:=ZT ra2 v hv;obtain⟨i,rfl⟩:=sh d hd;cases r;exact wpAny_pure q''
     have hk2:∀v∈its,∀(Q'':Value->Shared->Prop),Q'' (Rt.tyV h2 v) { s with heap:=h2,toks:=tk }->wpAny (model X.prog X.w) X.A.in1.in1 (typeOf v) Q'' E' { s with heap:=h2,toks:=tk }:=λv hv Q'' q''=>by
      obtain⟨d,hd,bs,r⟩:=ZT ra2 v hv;exact QiH (s:={ s with heap:=h2,toks:=tk }) r (YW okds d hd) q''
     rw[keyKind'_eq,QaF,map_eq_pure_bind];refine wpAny_bind (wpAny_bind (QfQ (g:=λ_=>(none:Option Value)) its hk1 (wpAny_pure ?_)));cases its with
     |nil=>cases ra2
     |cons v0 vs0=>
      rw[if_neg (by simp)];rw[if_neg (by simp)];rw[QkU,QaF,map_eq_pure_bind];refine wpAny_bind (wpAny_bind (wpAny_bind (QfQ (g:=Rt.tyV h2) _ hk2 (wpAny_pure ?_))));have fin:∀b:Bool,wpAny (model X.prog X.w) X.A.in1.in1 (pure (if b=true then oneType' else general')) Q' E' { s with heap:=h2,toks:=tk }:=λb=>by
       have ni:∀{κ:Ya},(∀b',κ≠tuples' b')->∀b',κ=tuples' b'->∀d∈d0::ds0,∃es,d=J4 es:=λh b' e=>(h b' e).elim
       cases b
       ·exact wpAny_pure (hq _ (asks _ (.inl rfl) (ni λb' e=>by cases e)))
       ·exact wpAny_pure (hq _ (asks _ (.inr (.inl rfl)) (ni λb' e=>by cases e)))
      split
      ·exact wpAny_pure (fin _)
      ·exact wpAny_pure (fin _)
    ·have ia:∀{vs:List Value}{ds:List Qa}{as:List Addr},YA h2 vs ds as->(∀d∈ds,∃i,d=Qc i)->∃ns,IntsAre vs ns:=by
      intro vs ds as ra hs;induction vs generalizing ds as with
      |nil=>exact⟨[],.nil⟩
      |cons v vs ih=>
       cases ra with
       |cons r rs=>
        obtain⟨i,rfl⟩:=hs _ (.head _);obtain⟨ns,hn⟩:=ih rs λd hd=>hs d (.tail _ hd)
        cases r;exact⟨i::ns,.cons _ _ hn⟩
     obtain⟨ns,hn⟩:=ia ra2 sh
     match its,hn,l2 with
     |v1::v2::vs',hn,_=>
      rw[keyKind_ints hn];exact wpAny_pure (hq _ (asks _ one λb e=>by cases e))
     |[_],_,l2=>exact absurd (Nat.lt_succ_self 1) l2
     |[],_,l2=>exact absurd (Nat.zero_lt_two) l2
 ·have I1:Inv X pins σ H { s with heap:=h',toks:=tk }:=I.kept (t':=tk) kp;have hf:H h'.objs.size=none:=I1.hok.fresh (Qj _);have pv:(arr.toList.map (·.2)).Perm its:=by
   have:=(Zs.mp pm).map (·.2)
   rwa [Que] at this
  obtain⟨Tr,t1,t2,t3,th⟩:=QwW dts rv;obtain⟨Tr',p',e'⟩:=QhK Trp.v (l:=arr.toList.map (·.2)) (by rw[<- t2];exact pv) (T:=Tr) rfl;have th':∀t∈Tr',Dat H t.x t.d/\RelV t.x t.v:=λt ht=>th t (p'.mem_iff.mp ht)
  obtain⟨dts',rv'⟩:=Qsw th';have ll:(Tr'.map (·.x)).length<=sizeLine:=by
   have:=p'.length_eq;rw[Qg,this,<- Qg (f:=Trp.x),<- t1];exact hz
  have I2:Inv X pins σ (upd H h'.objs.size (.lst (Tr'.map (·.x)))) { s with heap:=h2,toks:=tk }:=
   I1.laid (t':=tk) (λb x e'=>k2 b x (QH (Qp e')) (Qe _ e')) (Qj _) (show ObjOk X.prog X.w _ _ _ (.lst _) from⟨ll,_,e,by rw[e'];exact rv',e2⟩)
  refine⟨.ref h'.objs.size,_,I2,rfl,q _ _ (Tr'.map (·.d)) _ (JS hf) hf JN (dts'.same (JS hf)) (by rw[t3];exact p'.map _) ?_ λy hy=>?_⟩
  ·-- in order
   have len:arr.toList.length=Tr'.length:=by have:=congrArg Qg9 e';rwa [Qg,Qg] at this
   rw[Jy];intro i j hi hj hij;rw[Qg] at hi hj;rw[QcG,QcG];have ka:∀(k:Nat)(hk:k<Tr'.length),rdV h' (kx arr k).1=Tr'[k].d:=λk hk=>by
    have hk':k<arr.size:=by rw[<- Qd,len];exact hk
    have m:=Qe4 hk';have m2:=(Zs.mp pm).mem_iff.mp m;rw[QeA] at m2;have e3:=(Qdg m2).1;have e4:(kx arr k).2=Tr'[k].v:=by
     have h5:(arr.toList.map (·.2))[k]? = some (kx arr k).2:=by rw[Qq,QaT hk'];rfl
     rw[e',Qq,Qf hk] at h5;exact(Qu h5).symm
    rw[e3,e4];obtain⟨dt,rv0⟩:=th' _ (Yr hk);obtain⟨⟨bs,rr⟩,cc⟩:=Qal I1.hok _ _ _ dt rv0;exact QmD rr cc
   have g:ltD (rdV h' (kx arr j).1) (rdV h' (kx arr i).1)=false:=sg i j (Qt _) (by omega) (by rw[<- Qd,len];exact hj);rw[ka i hi,ka j hj] at g;exact g
  ·obtain⟨t,ht,rfl⟩:=Qx.mp hy;rw[t1];exact Qx.mpr ⟨t,p'.mem_iff.mp ht,rfl⟩
end
end L2
namespace Zt
def QBG(prog:QD)(w:Jl)(a:Addr)(ps:List (List Int×Addr))(led:Bool)(h:Heap):Prop:=∃es ep t,SetAt h a es ep t/\Tab t/\t.led=led/\es.toList=ps.map λp=>(tupleKeyHash (intKind prog w) p.1,QU p.2)
section
variable{prog:QD}{w:Jl}{A:Je}{E:Value->Shared->Prop}{s:Shared}
theorem QtD{a:Addr}{es:Array (Int×Value)}{ep:Nat}{t:SetTable}(hs:SetAt s.heap a es ep t)(T:Tab t)(hl:t.led=ledOf w):∃so vs,Way prog w a es ep t so vs:=by
 have hz:t.place.size=es.size:=by
  have:=hs.ft;unfold QbK at this;exact eq_of_beq (Qy.mp this).1
 cases hb:w.params.followText "set-order" with
 |true=>exact⟨_,_,Qpf hb a es ep _⟩
 |false=>
  have hl:t.led=true:=by rw[hl];unfold ledOf;rw[hb];rfl
  let so:Nat->Nat:=λi=>match i with
   |0=>0
   |i+1=>t.place.getD i 0+1
  refine⟨so,es,QtE hb a es ep t T.pl hl hz so rfl (λi hi=>rfl) (λi hi=>?_)⟩;obtain⟨b1,b2,b3⟩:=QcA T.pw (so i);cases i with
  |zero=>
   cases hB:JJ t.place (so 0) with
   |zero=>rfl
   |succ k=>
    have:=b2 0 (by omega) (by omega);exact absurd this (YQ _)
  |succ i=>
   have e:so (i+1)=t.place[i]+1:=by show t.place.getD i 0+1=_;simp[Zi,show i<t.place.size by omega]
   rcases YY (JJ t.place (so (i+1))) (i+1) with z | z | z
   ·have h1:=b3 i (by omega) (by omega);omega
   ·exact z
   ·have hi2:i+1<t.place.size:=by omega
    have h1:=b2 (i+1) hi2 z;have:=Jy.mp T.pw i (i+1) (by simp;omega) (by simp;omega) (by omega);simp only[J8] at this;omega
theorem QmS{ps:List (List Int×Addr)}:∀{l k:List (Int×Value)},l.Perm k->∀{T:List (List Int×Addr)},k=T.map (λp=>(tupleKeyHash (intKind prog w) p.1,QU p.2))->∃T':List (List Int×Addr),T'.Perm T/\l=T'.map λp=>(tupleKeyHash (intKind prog w) p.1,QU p.2):=by
 intro l k p;induction p with
 |nil=>intro T e;exact⟨T,ZV _,e⟩
 |@cons x l1 l2 _ ih=>
  intro T e;cases T with
  |nil=>cases e
  |cons y T=>
   injection e with e1 e2
   obtain⟨T',p',e'⟩:=ih e2;exact⟨y::T',p'.cons y,by rw[e1,e'];rfl⟩
 |swap x y l=>
  intro T e
  match T,e with
  |u::v::T,e=>
   injection e with e1 e2
   injection e2 with e2 e3
   exact⟨v::u::T,Qfp _ _ _,by rw[e1,e2,e3];rfl⟩
 |trans _ _ ih1 ih2=>
  intro T e;obtain⟨T1,p1,e1⟩:=ih2 e;obtain⟨T2,p2,e2⟩:=ih1 e1;exact⟨T2,p2.trans p1,e2⟩
open PyProof.Rows PySem.W PySem.Calls Rs in
theorem QiQ{Q:Value->Shared->Prop}{a:Addr}{ps:List (List Int×Addr)}(hh:A.handled=none)(hl:ps.length<=1000)(x:QBG prog w a ps (ledOf w) s.heap)
  (h:∀(h':Heap)(tk:Nat)(ps':List (List Int×Addr)),ps'.Perm ps->(∀b x,s.heap.get? b=some x->h'.get? b=some x)->∀(P:PySem.Fin->Shared->Prop)(E':Value->Shared->Prop),(∀s2,Q (.ref h'.objs.size) s2->P (.done (.ret .none)) s2) ->
   wpAny (model prog w) A.in1.in1 (Qaa.«list.sort» ⟨[.ref h'.objs.size],[]⟩) P E' { s with heap:=h'.push (seqObj "list" (ps'.map λp=>QU p.2).toArray 0),toks:=tk }) :
  wpAny (model prog w) A (call (.builtin "sorted") [.ref a]) Q E s:=by
 obtain⟨es,ep,t,sa,T,led,ent⟩:=x;have hsz:es.size=ps.length:=by rw[<- Qd,ent,Qg]
 obtain⟨so,vs,W⟩:=QtD (prog:=prog) (w:=w) sa T led;obtain⟨ps',pp,e'⟩:=QmS (prog:=prog) (w:=w) (ps:=ps) W.pm ent;refine Qhm kind_sorted plain_sorted entry_sorted (args_sorted1 _) ?_
 unfold Qaa.«sorted»;refine wpAny_bind (m:=checkCount "sorted" 1 1 _) (wpAny_pure ?_);refine wpAny_bind (Qjk (A:=A.in1) hh W sa T.pl (by rw[hsz,Z0];omega) λh' tk kp=>?_);have ev:vs.toList.map (·.2)=ps'.map λp=>QU p.2:=by rw[e',QN];rfl
 rw[ev];refine wpAny_bind (Qf2 ?_ (by rw[Z0,Qg,pp.length_eq];omega));have hoL:(h'.push (seqObj "list" (ps'.map λp=>QU p.2).toArray 0)).get? h'.objs.size=some (seqObj "list" (ps'.map λp=>QU p.2).toArray 0):=Qw _ rfl;show wpAny _ _ _ _ _ { s with heap:=h'.push (seqObj "list" (ps'.map λp=>QU p.2).toArray 0),toks:=tk };refine wpAny_bind (Za (JO slot_list_sort ⟨_,hoL,rfl⟩ entry_list_sort ?body (args_list_sort _)));exact h h' tk ps' pp kp _ _ λs2 hq=>⟨_,rfl,wpAny_pure ⟨_,rfl,hq⟩⟩
end
end Zt
namespace Rk
open L2 _root_.Rd Dl Rt
def tN(ns:List Int):Qa:=.tuple (ns.map Qc)
theorem QrT(ns:List Int):(tN ns).depth<=1:=by
 show QX (ns.map Qc)+1<=1;have:=Yw (n:=0) (ds:=ns.map Qc) λd hd=>by obtain⟨p,_,rfl⟩:=Qx.mp hd;exact Qj _
 omega
theorem QfX:∀(L M:List Int),Qdt (L.map Qc) (M.map Qc)=true
 |[],[]=>rfl
 |[],_::_=>rfl
 |_::_,[]=>rfl
 |_::L,_::M=>by show(true&&Qdt (L.map Qc) (M.map Qc))=true;rw[QfX L M];rfl
end Rk
namespace L2
open Zt _root_.Rd _root_.Rk Dl Rt
section
variable{X:Cx}
theorem QhC:∀(L:List (List Int×Addr)),Vals (L.map λp=>V.ref p.2) (L.map λp=>QU p.2)
 |[]=>.nil
 |p::L=>.cons rfl (QhC L)
theorem Qe5{prog:QD}{w:Jl}:∀{r:List Int}{its:List Value},IntsAre its r->ItemsAre (intKind prog w) r its
 |_,_,.nil=>.nil
 |_,_,.cons n t h=>.cons (intKind_is _ _ _ _) (Qe5 h)
theorem key_of{pins:List (Addr×Obj)}{s:Shared}{σ:L2.St}{H:Hp}(I:Inv X pins σ H s){r:List Int}{b:Addr}(h:H b=some (.tup (r.map V.int))):ZJ (intKind X.prog X.w) s.heap r b:=by
 obtain⟨hz,its,rv,o,ho,hc,n,hd⟩:=I.hok b _ h;exact⟨o,its.toArray,n,ho,hc,hd,by simpa using Qe5 (intsAre_of rv)⟩
theorem Qh4{H:Hp}:∀{ps:List (List Int×Addr)},(∀p∈ps,H p.2=some (.tup (p.1.map V.int)))->Dats H (ps.map λp=>V.ref p.2) (ps.map λp=>tN p.1)
 |[],_=>.nil
 |p::ps,h=>.cons (Dat.tup (h p (.head _)) (Qfb p.1)) (Qh4 λq hq=>h q (.tail _ hq))
theorem Qgl(rs:List (List Int)):QkN (rs.map tN):=⟨λx hx y hy=>by
 obtain⟨s,_,rfl⟩:=Qx.mp hx;obtain⟨t,_,rfl⟩:=Qx.mp hy;exact QfX s t,λx hx=>by
 obtain⟨s,_,rfl⟩:=Qx.mp hx;exact Jk (QrT s) (by decide)⟩
end
end L2
namespace Dl
open L2 _root_.Rd Rk Zt Rt
section
variable{X:Cx}{E:XK}
end
end Dl
namespace Rk
open L2 _root_.Rd Dl Rt
def adL(ns:List Int):List Int:=(Qk ns.length).map λi=>ns.getD i 0+(i:Int)
def nbI(hs:List Int)(o:List Nat):List Int:=(Qk o.length).map λi=>hs.getD (o.getD i 0) 0+(i:Int)
def okR(x:List Int):Bool:=decide (0<=x.getD 0 0)&&nfI x
theorem Qbg(ns:List Int):(hdL ns).length=ns.length:=by unfold hdL;rw[Qg,Qz]
theorem Qd8(ns:List Int):(adL ns).length=ns.length:=by unfold adL;rw[Qg,Qz]
theorem Qi8(hs:List Int)(o:List Nat):(nbI hs o).length=o.length:=by unfold nbI;rw[Qg,Qz]
theorem QnJ{ns:List Int}{i:Nat}(h:i<ns.length):(hdL ns).getD i 0=ns.getD i 0 - (i:Int):=by
 unfold hdL;rw[Qh,Qq,Ju h];rfl
theorem QoL{ns:List Int}{i:Nat}(h:i<ns.length):(adL ns).getD i 0=ns.getD i 0+(i:Int):=by
 unfold adL;rw[Qh,Qq,Ju h];rfl
theorem QgO{a b:List Int}(l:a.length=b.length)(h:∀i,i<a.length->a.getD i 0=b.getD i 0):a=b:=by
 refine QcH l λi h1 h2=>?_
 have:=h i h1;rw[Qh,Qh,Qf h1,Qf h2] at this;exact this
theorem QBd(ns:List Int):hdL (adL ns)=ns:=by
 refine QgO (by rw[Qbg,Qd8]) λi hi=>?_
 rw[Qbg,Qd8] at hi;rw[QnJ (by rw[Qd8];exact hi),QoL hi];omega
theorem QBs(ns:List Int):adL (hdL ns)=ns:=by
 refine QgO (by rw[Qd8,Qbg]) λi hi=>?_
 rw[Qd8,Qbg] at hi;rw[QoL (by rw[Qbg];exact hi),QnJ hi];omega
theorem Qyo(hs:List Int)(o:List Nat):nbI hs o=adL (o.map λj=>hs.getD j 0):=by
 refine QgO (by rw[Qi8,Qd8,Qg]) λi hi=>?_
 rw[Qi8] at hi;rw[QoL (by rw[Qg];exact hi)];unfold nbI;rw[Qh,Qq,Ju hi,Qh (l:=o.map _),Qq,Qf hi];show hs.getD (o.getD i 0) 0+(i:Int)=hs.getD o[i] 0+(i:Int);rw[Qh (l:=o),Qf hi];rfl
theorem QsG(hs:List Int):(Qk hs.length).map (λj=>hs.getD j 0)=hs:=by
 refine QgO (by rw[Qg,Qz]) λi hi=>?_
 rw[Qg,Qz] at hi;rw[Qh,Qq,Ju hi];rfl
theorem QpP{a b:List Int}(h:a.Perm b):∃o:List Nat,o.Perm (Qk b.length)/\a=o.map λj=>b.getD j 0:=by
 induction h with
 |nil=>exact⟨[],.nil,rfl⟩
 |@cons x l1 l2 _ ih=>
  obtain⟨o,po,e⟩:=ih;refine⟨0::o.map (·+1),?_,?_⟩
  ·rw[Qv,QcJ];exact .cons _ (po.map _)
  ·rw[Jh,QN,e];rfl
 |swap x y l=>
  refine⟨1::0::(Qk l.length).map (·+2),?_,?_⟩
  ·rw[Qv,Qv,QcJ,QcJ,Jh,QN];exact .swap _ _ _
  ·rw[Jh,Jh,QN]
   conv=>lhs;rw[<- QsG l]
   rfl
 |@trans l1 l2 l3 p1 p2 ih1 ih2=>
  obtain⟨o1,q1,e1⟩:=ih1;obtain⟨o2,q2,e2⟩:=ih2;have l2':l2.length=o2.length:=by rw[e2,Qg]
  have mp:(o1.map λj=>o2.getD j 0).Perm (Qk l3.length):=by
   refine(q1.map _).trans ?_
   have:(Qk l2.length).map (λj=>o2.getD j 0)=o2:=by
    refine QcH (by rw[Qg,Qz,l2']) λi h1 h2=>?_
    rw[QcG,Qo8,Qh,Qf h2];rfl
   rw[this];exact q2
  refine⟨_,mp,?_⟩;rw[QN,e1];refine Q8 λj hj=>?_
  have hj:j<l2.length:=QF.mp (q1.mem_iff.mp hj);show l2.getD j 0=l3.getD (o2.getD j 0) 0;rw[e2,Qh,Qq,Qf (by omega),Qh (l:=o2),Qf (by omega)];rfl
theorem Qj6{n:Nat}:∀{i:Nat}{o:List Nat},o.length=i->o.Nodup->(∀x∈o,x<n)->o∈ordsN n i
 |0,o,l,_,_=>by rw[Qau.mp l];exact .head _
 |i+1,o,l,nd,lt=>by
  have ne:o≠[]:=λz=>by rw[z] at l;cases l
  have e:=Qa3 ne;rw[<- e] at nd lt l ⊢;rw[Qs] at l;obtain⟨n1,_,n3⟩:=Qsm.mp nd;refine Z1.mpr ⟨_,Qj6 (by simpa using l) n1 λx hx=>lt x (Yb _ hx),Qx.mpr ⟨_,JB.mpr ⟨QF.mpr (lt _ (QV _ (.head _))),?_⟩,rfl⟩⟩;rw[Qb4,decide_eq_false_iff_not];exact λhx=>n3 _ hx _ (.head _) rfl
theorem Qrf{n:Nat}{o:List Nat}:o∈ordsN n n↔o.Perm (Qk n):=
 ⟨QhL,λp=>Qj6 (by rw[p.length_eq,Qz]) (p.nodup_iff.mpr Qag) λx hx=>QF.mp (p.mem_iff.mp hx)⟩
theorem QsS{hs x:List Int}:(∃o∈ordsN hs.length hs.length,nbI hs o=x)↔(hdL x).Perm hs:=by
 constructor
 ·rintro⟨o,ho,rfl⟩;rw[Qyo,QBd];have:=(QhL ho).map λj=>hs.getD j 0
  rwa [QsG] at this
 ·intro h;obtain⟨o,po,e⟩:=QpP h;exact⟨o,Qrf.mpr po,by rw[Qyo,<- e,QBs]⟩
def QrF(ns x:List Int):Prop:=(hdL x).Perm (hdL ns)/\okR x=true
structure AllS (ns:List Int) (rows:List (List Int)):Prop where
 nd:rows.Nodup
 iff_:∀x,x∈rows↔QrF ns x
 srt:(rows.map tI).Pairwise λa b=>ltD b a=false
theorem Qko{ns x:List Int}(h:QrF ns x):x.length=ns.length:=by have:=h.1.length_eq;rwa [Qbg,Qbg] at this
theorem QnH{ns:List Int}(h:ZZ ns):QrF ns ns:=by
 refine⟨.refl _,?_⟩;show(decide (0<=ns.getD 0 0)&&nfI ns)=true;rw[h.nf,QjC];have l1:=h.l1
 match ns,h with
 |[],h=>exact absurd h.l1 (by decide)
 |a::r,h=>exact decide_eq_true (h.bd a (.head _)).1
theorem QkE:∀(a b:List Int),isE (Qa1 (a.map Qc) (b.map Qc))=true->a=b
 |[],[],_=>rfl
 |[],_::_,h=>nomatch h
 |_::_,[],h=>nomatch h
 |x::a,y::b,h=>by
  have h:isE (thn (Qh8 x y) (Qa1 (a.map Qc) (b.map Qc)))=true:=h;unfold Qh8 at h;by_cases q:x<y
  ·rw[if_pos q] at h;cases h
  ·rw[if_neg q] at h;by_cases q2:x=y
   ·rw[if_pos q2] at h;rw[q2,QkE a b h]
   ·rw[if_neg q2] at h;cases h
theorem Qvj{a b:List Int}(h1:ltD (tI a) (tI b)=false)(h2:ltD (tI b) (tI a)=false):a=b:=by
 refine QkE a b ?_
 unfold ltD at h1;rw[Qnr] at h2;have h1:isL (Qa1 (a.map Qc) (b.map Qc))=false:=h1;have h2:(!Qfu (Qa1 (a.map Qc) (b.map Qc)))=false:=h2
 revert h1 h2
 cases Qa1 (a.map Qc) (b.map Qc)<;>intro h1 h2
 ·cases h1
 ·rfl
 ·cases h2
theorem AllS.uniq{ns:List Int}{r1 r2:List (List Int)}(h1:AllS ns r1)(h2:AllS ns r2):r1=r2:=by
 have p:r1.Perm r2:=(Qbx h1.nd h2.nd).mpr λx=>(h1.iff_ x).trans (h2.iff_ x).symm
 exact Qbo (le:=λa b=>ltD (tI b) (tI a)=false) (λa b _ _ q1 q2=>Qvj q2 q1) (Qsl.mp h1.srt) (Qsl.mp h2.srt) p
def QiW:List Int->Bool
 |x::y::r=>(decide (y=0)||decide (x<y))&&QiW (y::r)
 |_=>true
def Qwt(x:Int):List Int->List Int
 |[]=>[x]
 |y::r=>if x<=y then x::y::r else y::Qwt x r
def srtS:List Int->List Int
 |[]=>[]
 |x::r=>Qwt x (srtS r)
theorem Qe7(x:Int):∀l:List Int,(Qwt x l).Perm (x::l)
 |[]=>.refl _
 |y::r=>by
  unfold Qwt;split
  ·exact .refl _
  ·exact((Qe7 x r).cons y).trans (.swap _ _ _)
theorem Z6:∀l:List Int,(srtS l).Perm l
 |[]=>.nil
 |x::r=>(Qe7 x _).trans ((Z6 r).cons x)
theorem QnE(x:Int):∀l:List Int,l.Pairwise (·<=·)->(Qwt x l).Pairwise (·<=·)
 |[],_=>List.pairwise_singleton _ _
 |y::r,h=>by
  obtain⟨h1,h2⟩:=Qo7.mp h;unfold Qwt;split
  ·rename_i q
   exact .cons (λz hz=>(Qr.mp hz).elim (λe=>e ▸ q) λhz=>QbO q (h1 z hz)) h
  ·rename_i q
   refine .cons (λz hz=>?_) (QnE x r h2);rcases Qr.mp ((Qe7 x r).mem_iff.mp hz) with e | e
   ·rw[e];omega
   ·exact h1 z e
theorem Qb8:∀l:List Int,(srtS l).Pairwise (·<=·)
 |[]=>.nil
 |x::r=>QnE x _ (Qb8 r)
theorem QeR{a b:List Int}(p:a.Perm b)(h1:a.Pairwise (·<=·))(h2:b.Pairwise (·<=·)):a=b:=Qbo (le:=λa b=>a<=b) (λa b _ _ h1 h2=>QwJ h1 h2) h1 h2 p
def zrs(m:Int):List Int:=(Qk (1 - m).toNat).map λ(i:Nat) => -(i:Int)
def candI(hs:List Int):List Int:=adL (zrs (hs.getD 0 1)++(zrs (hs.getD 0 1)).foldl List.erase hs)
def Qwq:Nat->Nat->List (List Int)
 |0,_=>[[]]
 |n+1,lo=>(Qk 7).flatMap λv=>if lo<=v then(Qwq n v).map ((v:Int)::·) else[]
def QzG:Nat->Nat->List (List Int)
 |0,_=>[[]]
 |n+1,p=>(Qk 12).flatMap λv=>if(v=0/\p=0)∨p<v then(QzG n v).map ((v:Int)::·) else[]
def QCO(ns:List Int):Bool:=let x:=candI (srtS (hdL ns));decide (srtS (hdL x)=srtS (hdL ns))&&(okR x&&QiW x)
theorem QvZ:∀n:Fin 7,((Qwq n.val 0).all λns=>n.val == 0||QCO ns)=true:=by decide +kernel
theorem Qv0:∀n:Fin 7,((QzG n.val 0).all λx=>n.val == 0||decide (candI (srtS (hdL x))=x))=true:=by decide +kernel
theorem QnF:∀(ns:List Int)(lo:Nat),(∀i∈ns,0<=i/\i<=6)->nfI ((lo:Int)::ns)=true->ns∈Qwq ns.length lo
 |[],_,_,_=>.head _
 |a::r,lo,hb,hn=>by
  have hn:=Qy.mp (show(decide ((lo:Int)<=a)&&nfI (a::r))=true from hn);have ha:=hb a (.head _);have h1:=of_decide_eq_true hn.1;refine Z1.mpr ⟨a.toNat,QF.mpr (by omega),?_⟩;rw[if_pos (by omega)];exact Qx.mpr ⟨r,QnF r _ (λi hi=>hb i (.tail _ hi)) (by rw[show((a.toNat:Nat):Int)=a by omega];exact hn.2),by rw[show((a.toNat:Nat):Int)=a by omega]⟩
theorem QsX:∀(x:List Int)(p:Nat),(∀i∈x,i<=11)->nfI ((p:Int)::x)=true->QiW ((p:Int)::x)=true->x∈QzG x.length p
 |[],_,_,_,_=>.head _
 |a::r,p,hb,hn,hr=>by
  have hn:=Qy.mp (show(decide ((p:Int)<=a)&&nfI (a::r))=true from hn);have hr:=Qy.mp (show((decide (a=0)||decide ((p:Int)<a))&&QiW (a::r))=true from hr);have ha:=hb a (.head _);have h1:=of_decide_eq_true hn.1;have h2:a=0∨(p:Int)<a:=by
   rcases Qbm.mp hr.1 with z | z
   ·exact .inl (of_decide_eq_true z)
   ·exact .inr (of_decide_eq_true z)
  refine Z1.mpr ⟨a.toNat,QF.mpr (by omega),?_⟩;rw[if_pos (by omega)];exact Qx.mpr ⟨r,QsX r _ (λi hi=>hb i (.tail _ hi)) (by rw[show((a.toNat:Nat):Int)=a by omega];exact hn.2) (by rw[show((a.toNat:Nat):Int)=a by omega];exact hr.2),by rw[show((a.toNat:Nat):Int)=a by omega]⟩
theorem QmC{ns:List Int}(hs:ZZ ns):∃x,QrF ns x/\QiW x=true/\∀y,QrF ns y->QiW y=true->y=x:=by
 have l1:=hs.l1;have l6:=hs.l6;have hm:ns∈Qwq ns.length 0:=QnF ns 0 hs.bd (by
  match ns,hs with
  |[],h=>exact absurd h.l1 (by decide)
  |a::r,h=>
   show(decide ((0:Int)<=a)&&nfI (a::r))=true;rw[decide_eq_true (h.bd a (.head _)).1,h.nf];rfl)
 have c1:=Zg.mp (QvZ ⟨ns.length,by omega⟩) ns hm;rcases Qbm.mp c1 with z | c1
 ·have:=eq_of_beq z;simp at this;rw[this] at l1;cases l1
 have c1:(decide (srtS (hdL (candI (srtS (hdL ns))))=srtS (hdL ns))&&(okR (candI (srtS (hdL ns)))&&QiW (candI (srtS (hdL ns)))))=true:=c1;have C2:∀y,QrF ns y->decide (candI (srtS (hdL y))=y)=true->y=candI (srtS (hdL ns)):=λy hy c2=>by
  have c2:=of_decide_eq_true c2;have e:srtS (hdL y)=srtS (hdL ns):=QeR ((Z6 _).trans (hy.1.trans (Z6 _).symm)) (Qb8 _) (Qb8 _);rw[e] at c2;exact c2.symm
 generalize candI (srtS (hdL ns))=x at c1 C2;obtain⟨ca,cb⟩:=Qy.mp c1;obtain⟨cb,cc⟩:=Qy.mp cb;have ca:=of_decide_eq_true ca;have pp:=(Z6 (hdL x)).symm;rw[ca] at pp;refine⟨x,⟨pp.trans (Z6 _),cb⟩,cc,λy hy ry=>?_⟩;have ly:=Qko hy;have ok:=Qy.mp hy.2;have y0:=of_decide_eq_true ok.1;have hm:y∈QzG y.length 0:=by
  refine QsX y 0 (λi hi=>?_) ?_ ?_
  ·obtain⟨j,hj⟩:=Q0.mp hi;obtain⟨jl,e⟩:=QR.mp hj;have hh:(hdL y).getD j 0∈hdL ns:=hy.1.mem_iff.mp (by rw[Qh,Qf (by rw[Qbg];exact jl)];exact Yr _);rw[QnJ jl] at hh;obtain⟨t,ht,e2⟩:=Qx.mp hh;have tl:=QF.mp ht;have b:=hs.bd (ns.getD t 0) (by rw[Qh,Qf tl];exact Yr _);have e3:y.getD j 0=i:=by rw[Qh,hj];rfl
   rw[e3] at e2;omega
  ·match y,y0,ok.2 with
   |[],_,_=>rfl
   |a::r,y0,q=>show(decide ((0:Int)<=a)&&nfI (a::r))=true;rw[decide_eq_true (show(0:Int)<=a from y0),q];rfl
  ·match y,y0,ry with
   |[],_,_=>rfl
   |a::r,y0,q=>
    have y0:(0:Int)<=a:=y0;show((decide (a=0)||decide ((0:Int)<a))&&QiW (a::r))=true;rw[q,QjC];by_cases z:a=0
    ·rw[decide_eq_true z];rfl
    ·rw[decide_eq_true (show(0:Int)<a by omega),Bool.or_true]
 have c2:=Zg.mp (Qv0 ⟨y.length,by omega⟩) y hm;rcases Qbm.mp c2 with z | c2
 ·have:=eq_of_beq z;simp at this;rw[this] at ly;simp at ly;omega
 exact C2 y hy c2
theorem QvC{rows:List (List Int)}(nd:rows.Nodup){x:List Int}{p:List Int->Bool}(hx:x∈rows)(px:p x=true)(h:∀y∈rows,p y=true->y=x):rows.filter p=[x]:=by
 have:(rows.filter p).Perm [x]:=(Qbx (Yu _ nd) (by simp)).mpr λy=>by
  rw[JB,Jf];exact⟨λq=>h y q.1 q.2,λe=>e ▸ ⟨hx,px⟩⟩
 exact List.perm_singleton.mp this
end Rk
namespace Zt
def Qgn(prog:QD)(w:Jl)(a:Addr)(ps:List (List Int×Addr))(led:Bool)(h:Heap):Prop:=∃es ep t,SetAt h a es ep t/\Tab t/\t.led=led/\(es.toList=ps.map λp=>(tupleKeyHash (intKind prog w) p.1,QU p.2))/\(ps.map (·.1)).Nodup/\(∀(i j:Nat)(e:Int×Value),t.place[i]? = some j->es[i]? = some e->Rch t j e.1)/\(t.mask=7∨t.mask=31∨t.mask=127∨t.mask=511∨t.mask=2047)/\t.place.size*5<t.mask*3
theorem Qw8{prog:QD}{w:Jl}{a:Addr}{ps:List (List Int×Addr)}{led:Bool}{h:Heap}(x:Qgn prog w a ps led h):QBG prog w a ps led h:=by
 obtain⟨es,ep,t,h1,h2,h3,h4,_⟩:=x;exact⟨es,ep,t,h1,h2,h3,h4⟩
section
variable{prog:QD}{w:Jl}{A:Je}{E:Value->Shared->Prop}{s:Shared}
theorem QtR{a:Addr}{es:Array (Int×Value)}{ep:Nat}{t:SetTable}{ps:List (List Int×Addr)}{h:Heap}(x:TS prog w h a es ep t ps){led:Bool}(hl:t.led=led):Qgn prog w a ps led h:=⟨es,ep,t,x.at_,x.tab,hl,x.ent,x.nd,x.rch,x.mks,x.few⟩
theorem Qva{Q:Value->Shared->Prop}(h:Q (.ref s.heap.objs.size) { s with heap:=s.heap.push { cls:=.type "set",dict:=none,data:=.set #[] 0 (.fresh 0 0 (ledOf w)) } }):wpAny (model prog w) A (newSet (.type "set")) Q E s:=by
 unfold newSet
 wp_walk
 refine Z9 (wpAny_pure ?_);dsimp only;simp only[newObj];refine wpAny_bind (wpAny_alloc (wpAny_pure ?_));exact h
theorem call_add{a b:Addr}{Q:Value->Shared->Prop}(ty:s.TypeIs (.ref a) "set")(h:wpAny (model prog w) A.in1 (setAdd a (.ref b)) (λ_ s'=>Q .none s') E s):wpAny (model prog w) A (call (.builtin "set.add") [.ref a,.ref b]) Q E s:=by
 refine JO F.slot_set_add ty F.entry_set_add ?_ (F.args_set_add_2 _ _)
 unfold Qaa.«set.add»;refine wpAny_bind ?_
 obtain⟨hp,g,d,tk,os⟩:=s;unfold Qtx;generalize setAdd=SA at h ⊢
 wp_walk
 refine wpAny_mono h (λ_ s' q=>?_) λ_ _ e=>e
 exact wpAny_pure ⟨_,rfl,q⟩
end
end Zt
namespace L2
open Zt
theorem Qh7(elt target iter:Q2)(ifs:List Q2)(scope:Y8)(pos:Pos)(it acc:Value)(env:Env) :
  compTurn (.SetComp elt [⟨target,iter,ifs,0⟩] scope pos) 0 it acc env=(do
   standAt iter.pos
   let r <- pyNext it
   match r with
   |none=>pure (.done .next)
   |some v=>
    letOwnedTupleGo target it v
    assign target env v
    let ok <- QiI ifs env
    if ok then
     (do let x <- eval elt env;standAt elt.pos;let _ <- call (.builtin "set.add") [acc,x])
    again (.compLoop (.SetComp elt [⟨target,iter,ifs,0⟩] scope pos) 0 it acc env)):=by rfl
section
variable{prog:QD}{w:Jl}{A:Je}{R:Qtk->Shared->Prop}{s:Shared}
theorem Qck{elt target iter ifs rest scope pos it acc env}
  (h0:codeAny (model prog w) A (.compLoop (.SetComp elt (⟨target,iter,ifs,0⟩::rest) scope pos) 0 it acc env) R s)
  (h:wpAny (model prog w) A (pyIter it) (λit' s'=>codeAny (model prog w) A (.compLoop (.SetComp elt (⟨target,iter,ifs,0⟩::rest) scope pos) 0 it' acc env) R s') (notedBy (model prog w) A env λx s'=>R (.error x) s') s) :
  codeAny (model prog w) A (.compStart (.SetComp elt (⟨target,iter,ifs,0⟩::rest) scope pos) 0 it acc env) R s:=by
 refine QkV ?_
 show wpAny _ _ ((compStart (.SetComp elt (⟨target,iter,ifs,0⟩::rest) scope pos) 0 it acc env).onRaise (λx=>do noteFrame x env;standAt theWindowsPlace)) _ _ s;refine wpAny_notedAt ?_
 unfold compStart;show wpAny _ _ (ask >>= _) _ _ s;refine wpAny_bind (Z9 (wpAny_ite ?_));split
 ·first | exact wpAny_bind (wpAny_pure (wpAny_pure (QwO rfl h0))) | exact wpAny_pure (QwO rfl h0)
 ·refine wpAny_bind (wpAny_rule ?_);show wpAny _ _ (standAt iter.pos >>= _) _ _ s;refine wpAny_bind (wpAny_standAt (wpAny_bind (wpAny_mono h (λit2 s2 q=>wpAny_pure (QwO rfl q)) λ_ _ e=>e)))
end
def QoO(Y:Cx)(elt:Q2)(D:Addr):Act:=λQ s=>wpAny (model Y.prog Y.w) Y.A (eval elt Y.env) (λv s6=>wpAny (model Y.prog Y.w) Y.A (call (.builtin "set.add") [.ref D,v]) (λ_ s7=>Q s7) (λ_ _=>False) s6) (λ_ _=>False) s
def Qzh(P:QD)(W:Jl)(p:Addr)(te:TE):St->Hp->(Hp->Prop)->Prop:=λσ H k=>te σ H λv H6=>∃(ks:List Int)(b:Addr)(ps:List (List Int×Addr)),v=.ref b/\H6 p=some (.ext (Qgn P W p ps (ledOf W)))/\(∀q∈ps,H6 q.2=some (.tup (q.1.map V.int)))/\H6 b=some (.tup (ks.map V.int))/\ps.length<1200/\(ks∈ps.map (·.1)->k (upd H6 p (.ext (Qgn P W p ps (ledOf W)))))/\(ks∉ps.map (·.1)->∀ps',ps'.Perm ((ks,b)::ps)->k (upd H6 p (.ext (Qgn P W p ps' (ledOf W)))))
theorem QiR{P:QD}{W:Jl}{H:Hp}{h:Heap}{a:Addr}{ps:List (List Int×Addr)}{led:Bool}(x:Qgn P W a ps led h):ObjOk P W H h a (.ext (Qgn P W a ps led)):=by
 refine⟨x,?_,λh1 h2 x k=>?_⟩
 ·obtain⟨es,ep,t,sa,_⟩:=x;obtain⟨o,ho,_⟩:=sa.at_;exact⟨o,ho⟩
 ·obtain⟨es,ep,t,sa,r⟩:=x;exact⟨es,ep,t,sa.at' k,r⟩
theorem Qpr{X:Cx}{pins:List (Addr×Obj)}{σ:St}{H:Hp}{s:Shared}(I:Inv X pins σ H s):Inv X pins σ (upd H s.heap.objs.size (.ext (Qgn X.prog X.w s.heap.objs.size [] (ledOf X.w)))) { s with heap:=s.heap.push { cls:=.type "set",dict:=none,data:=.set #[] 0 (.fresh 0 0 (ledOf X.w)) } }:=by
 refine I.laid (t':=s.toks) (λb x e=>Qe _ e) (Qj _) (QiR ⟨#[],0,Qbj 0 0 (ledOf X.w),⟨⟨_,Qw _ rfl,⟨rfl,rfl,rfl⟩,rfl⟩,by cases ledOf X.w<;>rfl⟩,QtH _,rfl,rfl,QwG,λi j e h=>?_,.inl rfl,by show 0*5<7*3;decide⟩);simp[Qbj] at h
theorem QoE{Y:Cx}{σ:St}{elt:Q2}{te:TE}{D:Addr}(hx:Y.xe=λ_ _=>False)(hu:Y.A.units+60<cLine)(he:PE Y elt te):BodyOk Y σ (QoO Y elt D) (Qzh Y.prog Y.w D te σ):=by
 intro pins s H k Q I h hQ;have hx':∀(v:Value)(s':Shared),Y.xe v s'->False:=λv s' z=>by rw[hx] at z;exact z
 refine wpAny_mono (he pins s σ H _ I h) (λv s6 ⟨y,H6,I6,r6,ks,b,ps,ey,eD,hps,eb,hl,k1,k2⟩=>?_) hx';subst ey;cases r6;obtain⟨sq,_,_⟩:=(show ObjOk Y.prog Y.w H6 s6.heap D (.ext _) from I6.hok D _ eD);obtain⟨es,ep,t,sa,tb,led,ent,nd,rch,mks,few⟩:=sq;have x:Zt.TS Y.prog Y.w s6.heap D es ep t ps:=⟨sa,tb,ent,λq hq=>key_of I6 (hps q hq),nd,rch,mks,few⟩;obtain⟨o,ho,hex,hd⟩:=sa.at_;have mu:Mut (H6 D):=by rw[eD];exact Qc9
 refine call_add ⟨o,ho,hex.1⟩ (addTB x (by show Y.A.units+1<cLine;omega) (key_of I6 eb) hl (λhin tk=>?_) λhno h' es' ep' t' ps' tk x' pp led' sb=>?_)
 ·refine hQ _ _ ?_ (k1 hin)
  exact I6.write (t':=tk) (x:=D) (e:=D) mu (.inl rfl) (λb u hb z=>z) ⟨o,ho⟩ (QiR ⟨es,ep,t,sa,tb,led,ent,nd,rch,mks,few⟩)
 ·refine hQ _ _ ?_ (k2 hno ps' pp)
  obtain⟨o',ho',_⟩:=x'.at_.at_;exact I6.write (t':=tk) (x:=D) (e:=D) mu (.inl rfl) (λb u hb z=>(sb.2 b hb).trans z) ⟨o',ho'⟩ (QiR (QtR x' (led'.trans led)))
def Qw0(P:QD)(W:Jl)(cap:List (Option Nat))(wi:TI)(g:TG)(tc:TT)(te:TE):TE:=λσ H Q=>wi σ H λJ H1=>∀p,H1 p=none->Qhr J (bOf (QdF cap σ) g tc (Qzh P W p te)) (Q (.ref p)) (upd H1 p (.ext (Qgn P W p [] (ledOf W))))
theorem Qk9{Y:Cx}{σ:St}{tg:Q2}{elt:Q2}{gens:List Qde}{scope:Y8}{cpos:Pos}{d:Nat}{it D:Addr}{fp:List Addr}{tn:Nat->Heap->Prop}{J:It}{pins:List (Addr×Obj)}{s:Shared}{H:Hp}{body:V->Hp->(Hp->Prop)->Prop}{Qn:Hp->Prop}{R:Qtk->Shared->Prop}{act:Value->Act}
  (hc:Y.calm=true)(T:Turn Y.prog Y.w Y.K tg J fp it tn)(st:tn 0 s.heap)(hf:∀b∈fp,FpOk Y pins H b)
  (hturn:∀(Q:PySem.Fin->Shared->Prop)(E:Value->Shared->Prop)(s:Shared),wpAny (model Y.prog Y.w) Y.A (pyNext (.ref it)) (λr s1=>match r with
   |none=>Q (.done .next) s1
   |some v=>wpAny (model Y.prog Y.w) Y.A (letOwnedTupleGo tg (.ref it) v) (λ_ s2=>act v (λs3=>Q (.again (.compLoop (.SetComp elt gens scope cpos) d (.ref it) (.ref D) Y.env)) s3) s2) E s1) E s ->
   wpAny (model Y.prog Y.w) Y.A (compTurn (.SetComp elt gens scope cpos) d (.ref it) (.ref D) Y.env) Q E s)
  (hact:∀(x:V)(u:Value),RelV x u->BodyOk Y σ (act u) (body x))
  (I:Inv Y pins σ H s)(h:Qhr J body Qn H)(hR:∀s' H',Inv Y pins σ H' s'->Qn H'->R (.ok .next) s') :
  codeAny (model Y.prog Y.w) Y.A (.compLoop (.SetComp elt gens scope cpos) d (.ref it) (.ref D) Y.env) R s:=by
 obtain⟨W,⟨m0,w0⟩,turn⟩:=h;have stat:∀{H':Hp},(∀b∈fp,H' b=none)->∀b∈fp,FpOk Y pins H' b:=λhn b hb=>⟨hn b hb,(hf b hb).2⟩
 refine codeAny_loop rfl (λn s'=>∃i H',Inv Y pins σ H' s'/\tn i s'.heap/\(∀b∈fp,H' b=none)/\W i n H') (λn s3 hI=>?_) m0 ⟨0,H,I,st,λb hb=>(hf b hb).1,w0⟩;show wpAny _ Y.A ((compTurn (.SetComp elt gens scope cpos) d (.ref it) (.ref D) Y.env).onRaise (λx=>do noteFrame x Y.env;theTreesLotGoes x)) _ _ s3;refine wpAny_noted (hturn _ _ _ ?_);obtain⟨i,H3,I3,st3,fr3,w3⟩:=hI;rcases turn i n H3 w3 with⟨stop,qn⟩ | ⟨go,step⟩
 ·refine thn (T.done Y rfl rfl rfl hc i pins s3 σ H3 _ I3 (stat fr3) st3 stop) λr s4 ⟨hr,I4⟩=>?_
  subst hr;exact hR s4 H3 I4 qn
 ·refine thn (T.item Y rfl rfl rfl hc i pins s3 σ H3 _ I3 (stat fr3) st3 go) λr s4 ⟨u,hr,h4⟩=>?_
  subst hr;refine thn h4 λ_ s5 ⟨x,H5,I5,r5,y5,st5,fr5⟩=>?_
  have I5':=I5.pinned (stat fr5) (T.obj _ _ st5);refine hact x u r5 _ s5 H5 _ _ I5' (step x H5 y5) λs7 H7 I7 ⟨m',hm,w7⟩=>?_
  refine⟨rfl,m',hm,i+1,H7,I7.unpinned,T.keep _ _ _ st5 λb hb o e=>(I7.pin (b,o) (QV _ (QV _ (QaM hb e)))).1,λb hb=>?_,w7⟩;obtain⟨o,e,dd⟩:=T.obj _ _ st5 b hb;exact(I7.pin (b,o) (QV _ (QV _ (QaM hb e)))).2.1
theorem Qmn{Y:Cx}{elt tg iter:Q2}{ifs:List Q2}{scope:Y8}{cpos:Pos}{it D:Addr}(Q:PySem.Fin->Shared->Prop)(E:Value->Shared->Prop)(s:Shared)
  (h:wpAny (model Y.prog Y.w) Y.A (pyNext (.ref it)) (λr s1=>match r with
   |none=>Q (.done .next) s1
   |some v=>wpAny (model Y.prog Y.w) Y.A (letOwnedTupleGo tg (.ref it) v) (λ_ s2=>QoM Y tg ifs (QoO Y elt D) v (λs3=>Q (.again (.compLoop (.SetComp elt [⟨tg,iter,ifs,0⟩] scope cpos) 0 (.ref it) (.ref D) Y.env)) s3) s2) E s1) E s) :
  wpAny (model Y.prog Y.w) Y.A (compTurn (.SetComp elt [⟨tg,iter,ifs,0⟩] scope cpos) 0 (.ref it) (.ref D) Y.env) Q E s:=by
 rw[Qh7];refine wpAny_bind (wpAny_standAt (wpAny_bind (thn h λr s1 h1=>?_)));cases r with
 |none=>exact wpAny_pure h1
 |some v=>
  refine wpAny_bind (thn h1 λ_ s2 h2=>?_);refine wpAny_bind (wpAny_mono h2 (λ_ s4 h4=>wpAny_bind (wpAny_mono h4 (λok s5 h5=>?_) λ_ _ f=>f.elim)) λ_ _ f=>f.elim);cases ok with
  |false=>exact wpAny_pure h5
  |true=>exact wpAny_bind (wpAny_bind (wpAny_mono h5 (λx s6 h6=>wpAny_bind (wpAny_standAt (wpAny_bind (wpAny_mono h6 (λ_ s7 h7=>wpAny_pure (wpAny_pure h7)) λ_ _ f=>f.elim)))) λ_ _ f=>f.elim))
theorem QpK{X:Cx}{M:List Str}{cap:List (Option Nat)}{elt tg iter:Q2}{ifs:List Q2}{scope:Y8}{pos:Pos}{wi:TI}{g:TG}{tc:TT}{te:TE}{i:Nat}{y:Str}{py spos:Pos}(hN:X.N.Nodup)(hiy:X.N[i]? = some y)(hly:X.env.scope.names.lookup y=some .local)(hu:X.A.units+60<cLine)(hc:X.calm=true)(ok:Qff X.N X.env.scope M scope cap=true)
  (hi:PI X tg iter wi)(hb:∀cl ex s3 H3 C,PG (blk X M scope cl ex s3 H3 C) tg g/\PTs (blk X M scope cl ex s3 H3 C) ifs tc/\PE (blk X M scope cl ex s3 H3 C) elt te)
  (hs:∀x,foldedSetIterable iter X.env x=pure x:=by intro _;rfl)(hsw:swapsWith (.SetComp elt [⟨tg,iter,ifs,0⟩] scope pos) (some (.Name y py)) spos.line X.env=pure true:=by rfl):PS X (.Assign [.Name y py] (.SetComp elt [⟨tg,iter,ifs,0⟩] scope pos) spos) (Qpj (Qw0 X.prog X.w cap wi g tc te) (Qer i)):=by
 intro pins s σ H D I h;have c:=CapOk.of ok;rw[Qel _ _ _ _ hsw];refine wpAny_bind (wpAny_standAt (wpAny_bind ?_));show wpAny _ X.A (do let _ <- comprehension (.SetComp elt [⟨tg,iter,ifs,0⟩] scope pos) scope X.env _ (newSet (.type "set")) false (eval iter X.env) (some (assign (.Name y py) X.env))) _ _ s;refine wpAny_bind (wpAny_mono (QaA (use:=some (assign (.Name y py) X.env)) (Q:=λ_ s'=>SP X pins D .next s') rfl hs (QgT (I.ok.cells c)) c.kind c.loc ?_) (λ_ s' hq=>wpAny_pure (wpAny_pure hq)) λ_ _ e=>e);refine thn (hi pins s σ H _ I h) λv s1 h1=>thn h1 λitv s2 h2=>?_
 obtain⟨it,fp,tn,J,H2,e,I2,T,st2,f2,hW⟩:=h2;subst e;refine Qva (Qbv c.cell (by intro y hy;simp at hy) (λh₁ hns₁ hsb₁=>?_) c.kind);have I3:Inv X pins σ (upd H2 s2.heap.objs.size (.ext (Qgn X.prog X.w s2.heap.objs.size [] (ledOf X.w)))) { s2 with heap:=s2.heap.push { cls:=.type "set",dict:=none,data:=.set #[] 0 (.fresh 0 0 (ledOf X.w)) } }:=Qpr I2;have lt2:∀b∈fp,b<s2.heap.objs.size:=λb hb=>by obtain⟨o,e,_⟩:=T.obj _ _ st2 b hb;exact Qp e
 have f3:∀b∈fp,FpOk X pins (upd H2 s2.heap.objs.size (.ext (Qgn X.prog X.w s2.heap.objs.size [] (ledOf X.w)))) b:=λb hb=>(f2 b hb).upd (QH (lt2 b hb))
 generalize hs3:({ s2 with heap:=s2.heap.push { cls:=.type "set",dict:=none,data:=.set #[] 0 (.fresh 0 0 (ledOf X.w)) } }:Shared)=s3 at I3;have e3:s3.heap=s2.heap.push { cls:=.type "set",dict:=none,data:=.set #[] 0 (.fresh 0 0 (ledOf X.w)) }:=by rw[<- hs3]
 have z3:s3.heap.objs.size=s2.heap.objs.size+1:=by rw[e3,ZK]
 have hk:∀b o,s3.heap.get? b=some o->h₁.get? b=some o:=λb o e=>hsb₁.extBut b o (by
  have:=Qp e;rw[e3] at this;exact QH this) (Qe _ (e3 ▸ e))
 have hn₁:h₁.Ns s3.heap.objs.size λ_=>none:=by rw[e3];exact hns₁
 have B:=Qdv (t4:=s3.toks+([]:List (Str×Value)).length) (fp:=fp) I3 c f3 (λb hb=>by rw[z3];exact YZ (lt2 b hb)) hn₁ hk;have st4:tn 0 h₁:=T.keep _ _ _ st2 λb hb o e=>hk b o (by rw[e3];exact Qe _ e)
 have fp4:∀b∈fp,FpOk (blk X M scope (QbU X.env scope.names []) fp s3 (upd H2 s2.heap.objs.size (.ext (Qgn X.prog X.w s2.heap.objs.size [] (ledOf X.w)))) s3.heap.objs.size) [] (upd H2 s2.heap.objs.size (.ext (Qgn X.prog X.w s2.heap.objs.size [] (ledOf X.w)))) b:=λb hb=>by
  refine⟨(f3 b hb).1,(B.ok.exf b hb).1,B.ok.exfs b hb,.inl hb,(B.ok.exf b hb).2,λp hp=>(nomatch hp)⟩
 obtain⟨hg,ht,he⟩:=hb (QbU X.env scope.names []) fp s3 (upd H2 s2.heap.objs.size (.ext (Qgn X.prog X.w s2.heap.objs.size [] (ledOf X.w)))) s3.heap.objs.size;have loop:codeAny (model X.prog X.w) X.A (.compLoop (.SetComp elt [⟨tg,iter,ifs,0⟩] scope pos) 0 (.ref it) (.ref s2.heap.objs.size) (compEnvC scope (QbU X.env scope.names []) s3.heap.objs.size X.env))
   (compPost (model X.prog X.w) X.A X.xe (some (assign (.Name y py) X.env)) (λ_ s'=>SP X pins D .next s') (.ref s2.heap.objs.size) s3.heap.objs.size) { s3 with heap:=h₁,toks:=s3.toks+([]:List (Str×Value)).length }:=by
  refine Qk9 (Y:=blk X M scope (QbU X.env scope.names []) fp s3 (upd H2 s2.heap.objs.size (.ext (Qgn X.prog X.w s2.heap.objs.size [] (ledOf X.w)))) s3.heap.objs.size) (gens:=[⟨tg,iter,ifs,0⟩]) (d:=0) hc T st4 fp4
   (λQ E s h=>Qmn Q E s h) (λx u r=>Qfi rfl hg ht (λσ4=>QoE rfl (show X.A.units+60<cLine from hu) he) x u r) B (hW _ (I2.hok.fresh (Qj _))) λs' H' I' q=>?_
  exact Qbd (Q:=λ_ s'=>SP X pins D .next s') I3 f3 I' hN hiy hly λs2' J2=>⟨_,H',J2,q⟩
 exact Qck loop (T.self _ 0 _ _ _ st4 loop)
end L2
namespace L2
open Zt _root_.Rd _root_.Rk Dl Rt
section
variable{X:Cx}
def Qxk(prog:QD)(w:Jl):List V->Hp->VK->Prop:=λxs H Q=>∃(a:Addr)(ps:List (List Int×Addr)),xs=[.ref a]/\ps.length<=1000/\H a=some (.ext (Qgn prog w a ps (ledOf w)))/\(∀p∈ps,H p.2=some (.tup (p.1.map V.int))) /\
 ∀(t:Addr)(ys:List V)(es:List Qa)(H2:Hp),Same H H2->H t=none->H2 t=some (.lst ys)->Dats H2 ys es->es.Perm (ps.map λp=>tN p.1)->es.Pairwise (λa b=>ltD b a=false)->(∀y∈ys,y∈ps.map λp=>V.ref p.2)->Q (.ref t) H2
theorem QlF(hc:X.calm=true)(hu:X.A.units+60<cLine):CallR X (.builtin "sorted") (Qxk X.prog X.w):=by
 intro pins s σ H xs us Q I r h;obtain⟨a,ps,rfl,h300,ha,hps,q⟩:=h;obtain⟨u,rfl,ru⟩:=vals1 r;cases ru;obtain⟨hS,_⟩:=I.hok a _ ha;refine QiQ (I.ok.hd hc) (by omega) (Qw8 hS) λh' tk ps' pp kp P E' hP=>?_
 have hps':∀p∈ps',H p.2=some (.tup (p.1.map V.int)):=λp hp=>hps p (pp.mem_iff.mp hp)
 refine Qms hu I (QhC ps') (by rw[Qg,pp.length_eq];exact Z5 (Rk.Qce (by omega))) (Qh4 hps') (by have:=Qgl (ps'.map (·.1));rw[QN] at this;exact this) (λt ys es H2 s2 n2 e2 dt pe pw hy=>?_) h' tk kp P E' hP;exact q t ys es H2 s2 n2 e2 dt (pe.trans (pp.map _)) pw λy hy'=>(pp.map _).mem_iff.mp (hy y hy')
end
end L2
namespace L2
section
variable{κ:Type}[DecidableEq κ]
end
section
variable{P:QD}{w:Jl}{H:Hp}{h:Heap}{a:Addr}
end
section
variable{X:Cx}{pins:List (Addr×Obj)}{σ:St}{H:Hp}{s:Shared}{a:Addr}{y v:V}{u r:Value}{o:Option V}{A:Je}{E:Value->Shared->Prop}
end
section
variable{X:Cx}{pins:List (Addr×Obj)}{σ:St}{H:Hp}{s:Shared}{a:Addr}{kvs:List (Key×V)}{k:Key}{u:Value}{A:Je}{E:Value->Shared->Prop}
end
section
variable{X:Cx}{o i e value:Q2}{pos pos' tpos:Pos}{td ty tv:TE}
end
section
variable{X:Cx}{pos:Pos}
end
section
variable{X:Cx}{pins:List (Addr×Obj)}{σ:St}{H:Hp}{s:Shared}{a:Addr}{y d:V}{u r:Value}{o:Option V}{A:Je}{E:Value->Shared->Prop}
end
section
variable{X:Cx}{o e f:Q2}{apos cpos:Pos}{td ty tx:TE}
end
section
variable{X:Cx}{pins:List (Addr×Obj)}{σ:St}{H:Hp}{s:Shared}{a:Addr}{kvs:List (Key×V)}{A:Je}{E:Value->Shared->Prop}
end
section
variable{X:Cx}{pins:List (Addr×Obj)}{σ:St}{H:Hp}{s:Shared}{a:Addr}{y:V}{u:Value}{A:Je}{E:Value->Shared->Prop}
end
end L2
namespace Dz
section
variable{prog:QD}{w:Jl}{A:Je}{E:Value->Shared->Prop}{s:Shared}
end
end Dz
namespace L2
open Dz
section
variable{X:Cx}
end
end L2
namespace Dz
section
variable{prog:QD}{w:Jl}{A:Je}{E:Value->Shared->Prop}{s:Shared}
end
end Dz
namespace L2
open Dz
section
variable{X:Cx}
end
section
variable{X:Cx}
end
end L2
namespace Rk
end Rk
namespace Rk
open L2 _root_.Rd Dl Rt
theorem QiM{α:Type}{F G:α->Int}:∀{l:List α},(∀x∈l,F x=G x)->sumZ F l=sumZ G l
 |[],_=>rfl
 |x::l,h=>by show F x+_=G x+_;rw[h x (.head _),QiM λy hy=>h y (.tail _ hy)]
section
variable(K:PySem.W.Frag)(P:QD)(W:Jl)(u:Nat)
end
def cIw(f:Nat->Nat->Bool)(h w:Nat):List Int:=(Qk (min h w+1)).map λk=>Wc (YS h w f) h h 0 k
theorem Qsv(C:List Nat)(p:Nat->Bool)(c:Nat):wo1 (C.filter p) c=(wo1 C c).filter p:=by
 unfold wo1;rw[YC,YC];exact Qb3 λd _=>QjD _ _
theorem QkO(f:Nat->Nat->Bool)(p:Nat->Bool):∀(R C:List Nat)(k:Nat),(∀r∈R,∀c∈C,f r c=true->p c=true)->Pf f R (C.filter p) k=Pf f R C k
 |[],C,k,_=>rfl
 |r::R,C,k,h=>by
  show Pf f R (C.filter p) k+(if k=0 then 0 else sumZ (λc=>Pf f R (wo1 (C.filter p) c) (k - 1)) ((C.filter p).filter (f r)))=Pf f R C k+(if k=0 then 0 else sumZ (λc=>Pf f R (wo1 C c) (k - 1)) (C.filter (f r)));rw[QkO f p R C k λr' hr'=>h r' (.tail _ hr')]
  congr 1
  by_cases z:k=0
  ·rw[if_pos z,if_pos z]
  ·rw[if_neg z,if_neg z];have e:(C.filter p).filter (f r)=C.filter (f r):=by
    rw[YC];refine Qb3 λc hc=>?_
    cases q:f r c with
    |false=>rfl
    |true=>rw[h r (.head _) c hc q];rfl
   rw[e];refine QiM λc _=>?_
   rw[Qsv];exact QkO f p R (wo1 C c) (k - 1) λr' hr' c' hc'=>h r' (.tail _ hr') c' (Qnq.mp hc').1
theorem Qzn(f:Nat->Nat->Bool)(r:Nat)(R C:List Nat)(k:Nat)(nd:C.Nodup)(h:∀r'∈R,∀c∈C,f r' c=true->f r c=true):Pf f (r::R) C k=Pf f R C k+(if k=0 then 0 else(((C.filter (f r)).length:Int) - ((k - 1:Nat):Int))*Pf f R C (k - 1)):=by
 show Pf f R C k+(if k=0 then 0 else sumZ (λc=>Pf f R (wo1 C c) (k - 1)) (C.filter (f r)))=_
 congr 1
 by_cases z:k=0
 ·rw[if_pos z,if_pos z]
 ·rw[if_neg z,if_neg z,<- QkO f (f r) R C (k - 1) h,<- Qju f R (C.filter (f r)) (k - 1) (Yu _ nd)];refine QiM λc _=>?_
  rw[Qsv];exact(QkO f (f r) R (wo1 C c) (k - 1) λr' hr' c' hc'=>h r' hr' c' (Qnq.mp hc').1).symm
def ccI(t:List Int)(n:Int):List Int:=(Qk (t.length+1)).map λk=>t.getD k 0+(if k=0 then 0 else t.getD (k - 1) 0*(n - ((k - 1:Nat):Int)))
def hcI(ns:List Int):List Int:=ns.foldl ccI [1]
theorem Qd7(t:List Int)(n:Int):(ccI t n).length=t.length+1:=by unfold ccI;rw[Qg,Qz]
theorem QkK(t:List Int)(n:Int)(k:Nat):(ccI t n).getD k 0=t.getD k 0+(if k=0 then 0 else t.getD (k - 1) 0*(n - ((k - 1:Nat):Int))):=by
 by_cases h:k<t.length+1
 ·rw[Qh];unfold ccI;rw[Qq,Ju h];rfl
 ·have a:(ccI t n).getD k 0=0:=by rw[Qh,Q1 (by rw[Qd7];omega)];rfl
  have b:t.getD k 0=0:=by rw[Qh,Q1 (by omega)];rfl
  have c:t.getD (k - 1) 0=0:=by rw[Qh,Q1 (by omega)];rfl
  rw[a,b,c,Qdc,Qfw];split<;>rfl
def szR(ns:List Int)(r:Nat):Int:=((Qk ns.length).filter (stF ns r)).length
def Qy7(ns:List Int)(h:Nat):Nat->List Int
 |0=>[]
 |i+1=>Qy7 ns h i++[szR ns (h - 1 - i)]
theorem Qjv{ns:List Int}(h:Nat):∀(i k:Nat),i<=h->Pf (stF ns) (QhA h i) (Qk ns.length) k=(hcI (Qy7 ns h i)).getD k 0
 |0,k,_=>by
  show(if k=0 then(1:Int) else 0)=([1]:List Int).getD k 0;cases k with
  |zero=>rfl
  |succ k=>rfl
 |i+1,k,hi=>by
  show Pf (stF ns) ((h - 1 - i)::QhA h i) _ k=((Qy7 ns h i++[szR ns (h - 1 - i)]).foldl ccI [1]).getD k 0;rw[Qb1];show _=(ccI (hcI (Qy7 ns h i)) (szR ns (h - 1 - i))).getD k 0;rw[QkK,Qzn _ _ _ _ _ Qag,Qjv h i k (by omega),Qjv h i (k - 1) (by omega)]
  ·congr 1
   split
   ·rfl
   ·rw[Qdd];rfl
  ·intro r' hr' c hc q;have lt:∀i,i<=h->∀r'∈QhA h i,h - i<=r':=λi=>by
    induction i with
    |zero=>intro _ r' hr';cases hr'
    |succ i ih=>
     intro hi r' hr';rcases Qr.mp hr' with z | z
     ·omega
     ·have:=ih (by omega) r' z;omega
   have:=lt i (by omega) r' hr';have q:=of_decide_eq_true (show decide ((r':Int)<ns.getD c 0)=true from q);exact decide_eq_true (by omega)
def QBF:List Int:=[0,1,2,3,4,5,6]
def QtL:Nat->List (List Int)
 |0=>[[]]
 |n+1=>QBF.flatMap λa=>((QtL n).filter λs=>match s with | []=>true | b::_=>decide (a<=b)).map (a::·)
theorem QhU:∀{ns:List Int},(∀i∈ns,0<=i/\i<=6)->nfI ns=true->ns∈QtL ns.length
 |[],_,_=>.head _
 |a::ns,hb,hn=>by
  have h7:a∈QBF:=by
   have:=hb a (.head _);have:a=0∨a=1∨a=2∨a=3∨a=4∨a=5∨a=6:=by omega
   rcases this with rfl | rfl | rfl | rfl | rfl | rfl | rfl<;>decide
  refine Z1.mpr ⟨a,h7,Qx.mpr ⟨ns,JB.mpr ⟨QhU (λi hi=>hb i (.tail _ hi)) (Qu9 hn),?_⟩,rfl⟩⟩;cases ns with
  |nil=>rfl
  |cons b r=>exact(Qy.mp (show(decide (a<=b)&&nfI (b::r))=true from hn)).1
def QCM(ns:List Int):Bool:=decide ((Qk (min (sH ns) ns.length+1)).map (λk=>(hcI (Qy7 ns (sH ns) (sH ns))).getD k 0)++QP (ns.length+1 - (min (sH ns) ns.length+1)) 0=hcI ns)
theorem QyK:∀n:Fin 7,∀ns∈QtL n,0<ns.length->QCM ns=true:=by decide +kernel
theorem QnK{ns:List Int}(hs:ZZ ns):cIw (stF ns) (sH ns) ns.length++QP (ns.length+1 - (min (sH ns) ns.length+1)) 0=hcI ns:=by
 have l6:=hs.l6;have:=QyK ⟨ns.length,by omega⟩ ns (QhU hs.bd hs.nf) hs.l1;rw[<- of_decide_eq_true this]
 congr 1
 unfold cIw;refine Q8 λk _=>?_
 rw[Qwd,Qjv (sH ns) (sH ns) k (Qj _)]
theorem QgK:∀(ns t:List Int),(ns.foldl ccI t).length=ns.length+t.length
 |[],t=>by show t.length=0+t.length;omega
 |n::ns,t=>by show(ns.foldl ccI (ccI t n)).length=_;rw[QgK ns,Qd7,Qv];omega
def prI(x:Int):List Int->Int
 |[]=>1
 |h::hs=>(x+h)*prI x hs
def faI(x:Int):Nat->Int
 |0=>1
 |n+1=>faI x n*(x - (n:Int))
theorem Qi0(x:Int):∀a b:List Int,prI x (a++b)=prI x a*prI x b
 |[],b=>by show _=1*_;rw[Int.one_mul];rfl
 |h::a,b=>by show(x+h)*prI x (a++b)=(x+h)*prI x a*prI x b;rw[Qi0 x a b,Qa9]
theorem Qj2(x:Int){a b:List Int}(p:a.Perm b):prI x a=prI x b:=by
 induction p with
 |nil=>rfl
 |cons h _ ih=>show(x+h)*_=(x+h)*_;rw[ih]
 |swap h k l=>show(x+k)*((x+h)*prI x l)=(x+h)*((x+k)*prI x l);rw[<- Qa9,<- Qa9,Qdd (x+k)]
 |trans _ _ h1 h2=>rw[h1,h2]
theorem QrI(ns:List Int)(b:Int):hdL (ns++[b])=hdL ns++[b - (ns.length:Int)]:=by
 unfold hdL;rw[Qs];show(Qk (ns.length+1)).map _=_;rw[ZN,JF]
 congr 1
 ·refine Q8 λi hi=>?_
  have hi:=QF.mp hi;rw[Qh,Qh,Zd hi]
 ·show[(ns++[b]).getD ns.length 0 - (ns.length:Int)]=_;rw[Qh,Jg (Qj _),Qdb];rfl
def Qwu(x:Int)(t:List Int)(n:Nat):Int:=Qdh (n+1) λk=>t.getD k 0*faI x (n - k)
theorem Qpl(f:Nat->Int)(n:Nat):Qdh (n+1) f=Qdh n f+f n:=rfl
theorem QnR(x b:Int)(t:List Int)(n:Nat)(hl:t.length=n+1):Qwu x (ccI t b) (n+1)=Qwu x t n*(x+b - (n:Int)):=by
 unfold Qwu;have z:t.getD (n+1) 0=0:=by rw[Qh,Q1 (by omega)];rfl
 have e1:Qdh (n+1+1) (λk=>(ccI t b).getD k 0*faI x (n+1 - k))=Qdh (n+1+1) (λk=>t.getD k 0*faI x (n+1 - k)+(if k=0 then 0 else t.getD (k - 1) 0*(b - ((k - 1:Nat):Int)))*faI x (n+1 - k)):=QfA λk _=>by rw[QkK,Int.add_mul]
 rw[e1,QeO,Qpl (λk=>t.getD k 0*faI x (n+1 - k)),z,Qdc,QaQ,Qfz (λk=>(if k=0 then 0 else t.getD (k - 1) 0*(b - ((k - 1:Nat):Int)))*faI x (n+1 - k))];show Qdh (n+1) (λk=>t.getD k 0*faI x (n+1 - k))+(0*faI x (n+1 - 0)+Qdh (n+1) λk=>(if k+1=0 then 0 else t.getD (k+1 - 1) 0*(b - ((k+1 - 1:Nat):Int)))*faI x (n+1 - (k+1)))=_;rw[Qdc,Qfw,<- QeO];rw[Qdd (Qdh _ _),<- Qml];refine QfA λk hk=>?_
 rw[if_neg (by omega),show k+1 - 1=k by omega,show n+1 - (k+1)=n - k by omega,show n+1 - k=(n - k)+1 by omega];show t.getD k 0*(faI x (n - k)*(x - ((n - k:Nat):Int)))+_=_;have en:((n - k:Nat):Int)=(n:Int) - (k:Int):=by omega
 rw[en];generalize t.getD k 0=a;generalize faI x (n - k)=c;rw[show a*(c*(x - ((n:Int) - (k:Int))))=(a*c)*(x - ((n:Int) - (k:Int))) by rw[Qa9],show a*(b - (k:Int))*c=(a*c)*(b - (k:Int)) by rw[Qa9,Qdd (b - (k:Int)),<- Qa9],<- Qhl,Qdd]
 congr 1
 omega
theorem QrP(x:Int)(ns:List Int):Qwu x (hcI ns) ns.length=prI x (hdL ns):=by
 have key:∀m:Nat,∀ns:List Int,ns.length=m->Qwu x (hcI ns) ns.length=prI x (hdL ns):=λm=>by
  induction m with
  |zero=>
   intro ns h;obtain rfl:=Qau.mp h;rfl
  |succ m ih=>
   intro ns h;obtain⟨ms,b,rfl⟩:∃ms b,ns=ms++[b]:=⟨ns.dropLast,ns.getLast (by intro z;rw[z] at h;cases h),(Qa3 _).symm⟩
   have hm:ms.length=m:=by rw[Qs] at h;exact Qtm h
   have e:hcI (ms++[b])=ccI (hcI ms) b:=by unfold hcI;rw[Qb1];rfl
   rw[e,QrI,Qi0,<- ih ms hm,Qs];show Qwu x (ccI (hcI ms) b) (ms.length+1)=_*((x+(b - (ms.length:Int)))*1);rw[QnR x b (hcI ms) ms.length (QgK ms [1]),Qpa,show x+(b - (ms.length:Int))=x+b - (ms.length:Int) by omega]
 exact key _ ns rfl
theorem QjM(g:Nat->Int):∀n,((Qk n).map g).sum=Qdh n g
 |0=>rfl
 |n+1=>by rw[ZN,JF,List.sum_append,QjM g n];show _+(g n+0)=_+g n;rw[QaQ]
theorem QBp{t:List Int}{b:Int}{M:Nat}(h0:0<=b)(h6:b<=6)(hl:t.length<=7)(h:∀k,(t.getD k 0).natAbs<=M):∀k,((ccI t b).getD k 0).natAbs<=13*M:=λk=>by
 rw[QkK];by_cases z:k=0
 ·rw[if_pos z,QaQ];have:=h k;omega
 ·rw[if_neg z];have a:=h k;by_cases y:k - 1<t.length
  ·have c:=h (k - 1);have d:(t.getD (k - 1) 0*(b - ((k - 1:Nat):Int))).natAbs<=M*12:=by
    rw[Int.natAbs_mul];exact Qzw c (by omega)
   omega
  ·have:t.getD (k - 1) 0=0:=by rw[Qh,Q1 (by omega)];rfl
   rw[this,Qdc,QaQ];omega
theorem QBf{ns:List Int}(hb:∀i∈ns,0<=i/\i<=6)(hl:ns.length<=6):∀k,((hcI ns).getD k 0).natAbs<=13^ns.length:=by
 have key:∀m:Nat,∀ns:List Int,ns.length=m->m<=6->(∀i∈ns,0<=i/\i<=6)->∀k,((hcI ns).getD k 0).natAbs<=13^m:=λm=>by
  induction m with
  |zero=>
   intro ns h _ _ k;obtain rfl:=Qau.mp h;show(([1]:List Int).getD k 0).natAbs<=1;cases k with
   |zero=>decide
   |succ k=>show(0:Int).natAbs<=1;decide
  |succ m ih=>
   intro ns h hm hb k;obtain⟨ms,b,rfl⟩:∃ms b,ns=ms++[b]:=⟨ns.dropLast,ns.getLast (by intro z;rw[z] at h;cases h),(Qa3 _).symm⟩
   have hl:ms.length=m:=by rw[Qs] at h;exact Qtm h
   have e:hcI (ms++[b])=ccI (hcI ms) b:=by unfold hcI;rw[Qb1];rfl
   have hbb:=hb b (QV _ (.head _));have lc:(hcI ms).length=ms.length+1:=QgK ms [1];rw[e,QlZ,Ql0];exact QBp hbb.1 hbb.2 (by omega) (ih ms hl (by omega) λi hi=>hb i (Yb _ hi)) k
 exact key _ ns rfl hl hb
end Rk
namespace L2
section
variable{X:Cx}{pins:List (Addr×Obj)}{σ:St}{H H3:Hp}{s3:Shared}{M:List Str}{scope:Y8}{cap:List (Option Nat)}{fp:List Addr}{h4:Heap}{t4:Nat}
end
section
variable{X:Cx}{pins:List (Addr×Obj)}{σ:St}{H:Hp}
end
end L2
namespace Rk
open L2 _root_.Rd Dl
end Rk
namespace Dl
open L2
section
variable{X:Cx}{E:XK}
end
end Dl
namespace Rk
open L2 _root_.Rd
def top(i:Nat):Y7:=PySem.Challenge.pw_rooklands_k66_whole_stairs.main.body.getD i (.Pass ⟨0,0,0,0⟩)
abbrev QfF:Y7:=top 6
abbrev QdQ:Y7:=top 7
abbrev QfI:Y7:=top 8
abbrev Qlh:Y7:=top 11
abbrev sOth:Y7:=top 12
abbrev QdR:Y7:=top 14
abbrev Qlc:Y7:=top 15
abbrev QdS:Y7:=top 16
abbrev sSOf:Y7:=top 17
abbrev QfJ:Y7:=top 20
abbrev Qlf:Y7:=top 21
abbrev Qlg:Y7:=top 22
abbrev Qld:Y7:=top 23
abbrev QfG:Y7:=top 24
abbrev QiT:Y7:=top 25
abbrev sNBy:Y7:=top 26
abbrev QfH:Y7:=top 27
abbrev sIsR:Y7:=top 28
abbrev sCnt:Y7:=top 30
abbrev Qle:Y7:=top 31
abbrev Qlb:Y7:=top 32
abbrev sRow:Y7:=top 33
abbrev Qd3:Y7:=top 35
abbrev lPot:Y7:=top 36
abbrev Qly:Y7:=top 37
abbrev Qd2:Y7:=top 38
abbrev Qlz:Y7:=top 39
abbrev sLaw:Y7:=top 40
section
variable{P:QD}{w:Jl}{K:PySem.W.Frag}{mg:Str->Option Value}{base:Heap}
theorem Qpw:JZ ["_law_script", "_law_k"] ["_law_script", "_law_k"] (QJ Qd3):=⟨rfl,rfl,rfl,by decide +kernel,rfl,by decide +kernel,by decide +kernel⟩
theorem Qna{f:Addr}{fd:Jc}(F:Fun K "_law_cell_at" "_law_cell_at" Qd3 f fd)(T:GlbA mg):FnOk P w K mg base CX0 1 f fd ["_law_script", "_law_k"] (Qdj K):=by
 refine F.ok Qpw (λvs H Q E h=>?_) (λcdv A outer s H vs Q E hr h=>?_)
 ·obtain⟨a,ns,k,rfl,_⟩:=h;rfl
 ·obtain⟨a,ns,n,rfl,hs,hl,h0,k⟩:=h;refine⟨_,Qaj (Quc (Qgy QuR (pv 1) (Qcu Qa8 (by rfl) T.len Qdu (QaC (pv 0) Yk)) (Yv _)) (Qcc (Qdo (QmT QgG (pv 0) (pv 1) (λ_ _=>rfl)))) QiZ) (Qcc (Qdo YI)),?_⟩;refine⟨_,rfl,_,rfl,a,_,rfl,.inl hs,_,_,rfl,rfl,_,rfl,?_⟩;refine QBX (λhlt=>?_) (λ_=>k 0);have hlt':n<(ns.map V.int).length:=of_decide_eq_true hlt;rw[Qg] at hlt';obtain⟨j,rfl⟩:=Int.eq_ofNat_of_zero_le h0;have hj:j<ns.length:=by omega
  refine⟨_,rfl,_,rfl,a,_,_,.int ns[j],rfl,rfl,hs,Qam ?_,k _⟩;rw[Qq,Qf hj];rfl
theorem Qla:JZ ["_law_cell", "_law_number", "_law_j", "_law_more"] ["_law_cell"] (QJ lPot):=⟨rfl,rfl,rfl,by decide +kernel,rfl,by decide +kernel,by decide +kernel⟩
theorem Qyf{f:Addr}{fd:Jc}(F:Fun K "_law_pot" "_law_pot" lPot f fd)(T:GlbA mg):FnOk P w K mg base CX0 1 f fd ["_law_cell"] Qw3:=by
 refine F.ok Qla (λvs H Q E h=>?_) (λcdv A outer s H vs Q E hr h=>?_)
 ·obtain⟨c,rfl,_⟩:=h;rfl
 ·obtain⟨c,rfl,k⟩:=h;refine⟨_,Qaj (Quc (Qgy Qx7 (pv 0) (QbE Qm3 YI YI) (Yv _)) (Qcc (Qdo (QsP (QaC (QbE QhN (pv 0) (QbE Qm3 YI YI)) Yk)))) QiZ)
   (Qaj (Qdn (i:=1) Qla.nd rfl (Jn rfl) YI)
   (Qaj (QsM Zj rfl (QhJ (by rfl) T.range (QaC YI Yk)) (QeX (i:=2) Qla.nd rfl (Jn rfl))
    (Qaj (Qdn (i:=3) Qla.nd rfl (Jn rfl) (QbE Qj7 (QbE QfM (QbE QfO (QbE QfO (QbE Qj7 (pv 0) YI) (QbE QfM YI (pv 2))) YI) YI) YI))
    (Qaj (Qdn (i:=3) Qla.nd rfl (Jn rfl) (QbE Qj7 (QbE QfO (QbE QfO (QbE QfM (pv 3) (pv 3)) (QbE QfM YI (pv 2))) YI) YI))
    (Qcc (Qdn (i:=1) Qla.nd rfl (Jn rfl) (QbE QfO (QbE QfM (pv 1) YI) (pv 3)))))))
   (Qcc (Qdo (QsP (QaC (pv 1) Yk)))))),?_⟩
  refine⟨_,rfl,_,_,rfl,rfl,⟨by decide,by decide,by decide⟩,_,_,rfl,rfl,_,rfl,?_⟩;refine QBX (λ_=>?_) (λ_=>?_)
  ·exact⟨_,rfl,_,_,rfl,rfl,⟨by decide,by decide,by decide⟩,_,_,rfl,rfl,by show 1<=sizeLine;decide,λp hp=>k p _ hp⟩
  ·refine⟨64,rfl,by decide,by decide,QnV (n:=64) (λi σ H2=>∃n v u,σ=[some (.int c),some (.int n),v,u]/\H2=H) ⟨0,none,none,rfl,rfl⟩ ?_ ?_⟩
   ·rintro i σ H2 hi ⟨n,v,u,rfl,rfl⟩;have b1:=Qku ((c % 2147483629+7919*(0+(i:Int))+1)*48271) (m:=2147483647) (by decide);refine⟨_,rfl,_,_,rfl,rfl,by show(0:Int)<2147483629;decide,_,rfl,_,_,rfl,rfl,.inl ⟨by decide,by decide⟩,_,_,rfl,rfl,_,_,rfl,rfl,_,_,rfl,rfl,.inr ⟨by decide,by decide⟩,_,_,rfl,rfl,by show(0:Int)<2147483647;decide,?_⟩;refine⟨_,rfl,_,rfl,_,_,rfl,rfl,.inl ⟨by omega,by omega⟩,_,rfl,_,_,rfl,rfl,.inl ⟨by decide,by decide⟩,_,_,rfl,rfl,_,_,rfl,rfl,_,_,rfl,rfl,by show(0:Int)<2147483587;decide,?_⟩;exact⟨_,rfl,_,_,rfl,rfl,.inr ⟨by decide,by decide⟩,_,rfl,_,_,rfl,rfl,_,_,_,rfl,rfl⟩
   ·rintro σ H2 ⟨n,v,u,rfl,rfl⟩;exact⟨_,rfl,by show 1<=sizeLine;decide,λp hp=>k p _ hp⟩
theorem QsE:JZ ["_law_pot_here", "_law_far", "_law_found"] ["_law_pot_here", "_law_far"] (QJ Qly):=⟨rfl,rfl,rfl,by decide +kernel,rfl,by decide +kernel,by decide +kernel⟩
theorem QuW{f:Addr}{fd:Jc}(F:Fun K "_law_take" "_law_take" Qly f fd)(T:GlbA mg):FnOk P w K mg base CX0 1 f fd ["_law_pot_here", "_law_far"] QjQ:=by
 refine F.ok QsE (λvs H Q E h=>?_) (λcdv A outer s H vs Q E hr h=>?_)
 ·obtain⟨p,n,m,rfl,_⟩:=h;rfl
 ·obtain⟨p,n,m,rfl,hp,h0,h1,k⟩:=h;refine⟨_,Qaj (Qdn (i:=2) QsE.nd rfl (Jn rfl) (QbE Qj7 (QmT QgG (pv 0) YI (λ_ _=>rfl)) (pv 1)))
   (Qaj (QsN (QbE Qrj (QmT QgG (pv 0) YI (λ_ _=>rfl)) (pv 1)) (QxH (pv 0) YI QjR))
   (Qcc (Qdo (pv 2)))),?_⟩
  have b:=Qku n h0;exact⟨_,rfl,p,_,_,_,rfl,rfl,SqL.of hp,rfl,_,rfl,_,_,rfl,rfl,h0,_,rfl,p,_,_,_,rfl,rfl,SqL.of hp,rfl,_,rfl,_,_,rfl,rfl,⟨h0,h1⟩,_,rfl,p,_,_,_,rfl,rfl,hp,rfl,_,rfl,k _ _ b.1 b.2⟩
end
end Rk
namespace Rk
open L2 _root_.Rd
open Dl
open Rt
def QgE:DF:=λargs R _=>∃n:Int,args=[.pot,.v (.int n),.v (.int 6)]/\1<=n/\n<=6/\∀ns,ZZ ns->(ns.length:Int)=n->R (tI ns)
def QfU:DF:=λargs R _=>∃ns,args=[.v (tI ns)]/\ZZ ns/\∀ms:List Int,ms.Perm (hdL ns)->ms.Pairwise (·<=·)->R (.list (ms.map Qc))
def QzL:DF:=λargs R _=>∃(hs:List Int)(o:List Nat),args=[.v (.list (hs.map Qc)),.v (tNn o)]/\o.length<=6/\(∀x∈o,x<hs.length)/\R (tI (nbI hs o))
def Qv3:DF:=λargs R _=>∃(t:List Int)(n:Int),args=[.v (.list (t.map Qc)),.v (.int n)]/\t.length<=10/\0<=n/\n<=6/\R (.list ((ccI t n).map Qc))
def QBe:DF:=λargs R _=>∃ns,args=[.v (tI ns)]/\ZZ ns/\R (.list ((hcI ns).map Qc))
def Quf:DF:=λargs R _=>∃(ns:List Int)(x:Int),args=[.v (tI ns),.v (.int x)]/\ZZ ns/\0<=x/\x<=1000000000/\R (.int (prI x (hdL ns)))
def QvD:DF:=λargs R _=>∃(x:Int)(n:Nat),args=[.v (.int x),.v (.int n)]/\n<=6/\0<=x/\x<=1000000000/\R (.int (faI x n))
theorem QlC(ns:List Int):QyN (.list (ns.map Qc))=true:=Zg.mpr λd hd=>by
 obtain⟨i,_,rfl⟩:=Qx.mp hd;rfl
theorem QvG(ns:List Int):(QbZ (ns.map Qc)).map (λd=>match d with | .tuple [.int p,.int n]=>Qc (n - p) | _=>.none)=(hdL ns).map Qc:=by
 unfold QbZ hdL;rw[QN,QN,Qg];refine Q8 λi hi=>?_
 have hi:=QF.mp hi;have e:(ns.map Qc).getD i .none=.int (ns.getD i 0):=by
  rw[Qh,Qq,Qf hi,Qh,Qf hi];rfl
 show(match J4 [.int i,(ns.map Qc).getD i .none] with | .tuple [.int p,.int n]=>Qc (n - p) | _=>.none)=_;rw[e];rfl
theorem QsZ:∀(ns t:List Int),(ns.foldl ccI t).length=ns.length+t.length
 |[],t=>by show t.length=0+t.length;omega
 |n::ns,t=>by show(ns.foldl ccI (ccI t n)).length=_;rw[QsZ ns,Qd7,Qv];omega
def wrI(t:List Int)(n:Int):List Int:=(Qk t.length).map λi=>t.getD i 0*(n - (i:Int))
theorem Ql8(t:List Int)(n:Int):(wrI t n).length=t.length:=by unfold wrI;rw[Qg,Qz]
theorem QvE(t:List Int)(n:Int):(QbZ (t.map Qc)).map (λd=>match d with | .tuple [.int s,.int m]=>Qc (m*(n - s)) | _=>.none)=(wrI t n).map Qc:=by
 unfold QbZ wrI;rw[QN,QN,Qg];refine Q8 λi hi=>?_
 have hi:=QF.mp hi;have e:(t.map Qc).getD i .none=.int (t.getD i 0):=by
  rw[Qh,Qq,Qf hi,Qh,Qf hi];rfl
 show(match J4 [.int i,(t.map Qc).getD i .none] with | .tuple [.int s,.int m]=>Qc (m*(n - s)) | _=>.none)=_;rw[e];rfl
theorem QwP(t:List Int)(n:Int):(Qhe (t.map Qc++[.int 0]) ([.int 0]++(wrI t n).map Qc)).map (λd=>match d with | .tuple [.int a,.int b]=>Qc (a+b) | _=>.none)=(ccI t n).map Qc:=by
 have e1:t.map Qc++[.int 0]=(t++[0]).map Qc:=by rw[JF];rfl
 have e2:[Qc 0]++(wrI t n).map Qc=(0::wrI t n).map Qc:=rfl;rw[e1,e2];unfold Qhe;rw[List.zipWith_map,Qtp];have e3:Qc0 (λ(a b:Int)=>(match J4 [.int a,.int b] with | .tuple [.int a,.int b]=>Qc (a+b) | _=>.none)) (t++[0]) (0::wrI t n)=(Qc0 (λa b=>a+b) (t++[0]) (0::wrI t n)).map Qc:=by rw[Qtp]
 rw[e3]
 congr 1
 refine QcH (by rw[Qea,Qd7,Qs];show min (t.length+1) ((wrI t n).length+1)=_;rw[Ql8];exact Ql1 _) λk h1 h2=>?_
 rw[Qd7] at h2;have a:=QkK t n k;rw[Qh,Qf (by rw[Qd7];exact h2)] at a;have a:(ccI t n)[k]=_:=a;rw[a,List.getElem_zipWith];have b1:(t++[0])[k]'(by rw[Qs];exact h2)=t.getD k 0:=by
  by_cases z:k<t.length
  ·rw[List.getElem_append_left z,Qh,Qf z];rfl
  ·have:k=t.length:=by omega
   subst this;rw[List.getElem_append_right (Qj _),Qh,Q1 (Qj _)];simp
 rw[b1]
 congr 1
 cases k with
 |zero=>rfl
 |succ k=>
  rw[if_neg (by omega)];show(wrI t n)[k]'_=t.getD k 0*(n - (k:Int));unfold wrI;rw[QcG,Qo8]
theorem int_at{ms:List Int}{i:Nat}{d:Qa}(h:(ms.map Qc)[i]? = some d):∃m,ms[i]? = some m/\d=.int m:=by
 rw[Qq] at h;cases z:ms[i]? with
 |none=>rw[z] at h;cases h
 |some r=>rw[z] at h;cases h;exact⟨r,rfl,rfl⟩
theorem QBc{ns:List Int}(hs:ZZ ns){m:Int}(h:m∈hdL ns) : -6<=m/\m<=6:=by
 unfold hdL at h;obtain⟨i,hi,rfl⟩:=Qx.mp h;have hi:=QF.mp hi;have:=hs.bd _ (getD_mem hi);have:=hs.l6;omega
theorem QvH(c:List Int)(x:Int)(N:Nat):(QbZ (c.map Qc)).map (λd=>match d with | .tuple [.int s,.int m]=>Qc (m*faI x (N - s.toNat)) | _=>.none)=((Qk c.length).map λk=>c.getD k 0*faI x (N - k)).map Qc:=by
 unfold QbZ;rw[QN,QN,Qg];refine Q8 λi hi=>?_
 have hi:=QF.mp hi;have e:(c.map Qc).getD i .none=.int (c.getD i 0):=by
  rw[Qh,Qq,Qf hi,Qh,Qf hi];rfl
 show(match J4 [.int i,(c.map Qc).getD i .none] with | .tuple [.int s,.int m]=>Qc (m*faI x (N - s.toNat)) | _=>.none)=_;rw[e];rfl
theorem QjJ(o:List Nat):(Qcg o).map (λe=>(toI e).toNat)=o:=by
 unfold Qcg;rw[QN]
 conv=>rhs;rw[<- QaE o]
 exact Q8 λx _=>by show((x:Int)).toNat=x;omega
theorem QvF(hs:List Int)(o:List Nat):(QbZ (Qcg o)).map (λd=>match d with | .tuple [.int p,.int a]=>Qc (hs.getD a.toNat 0+p) | _=>.none)=(nbI hs o).map Qc:=by
 unfold QbZ nbI Qcg;rw[QN,QN,Qg];refine Q8 λi hi=>?_
 have hi:=QF.mp hi;have e:(o.map λ(c:Nat)=>Qc (c:Int)).getD i .none=.int ((o.getD i 0:Nat):Int):=by
  rw[Qh,Qq,Qf hi,Qh,Qf hi];rfl
 show(match J4 [.int i,(o.map λ(c:Nat)=>Qc (c:Int)).getD i .none] with | .tuple [.int p,.int a]=>Qc (hs.getD a.toNat 0+p) | _=>.none)=_;rw[e];show Qc (hs.getD ((o.getD i 0:Nat):Int).toNat 0+(i:Int))=_;rw[Q4];rfl
section
variable{P:QD}{w:Jl}{K:PySem.W.Frag}{mg:Str->Option Value}{base:Heap}
theorem Qps:JZ ["thing"] ["thing"] (QJ QfF):=⟨rfl,rfl,rfl,by decide +kernel,rfl,by decide +kernel,by decide +kernel⟩
theorem Qrk{f   : Addr}{fd  : Jc}(F:Fun K "is_whole" "is_whole" QfF f fd)(T:GlbA mg) :
  FnOk P w K mg base CX0 1 f fd ["thing"] (Zu false Ql9):=by
 refine okQ false F Qps (λargs R EX h=>?_) (λcdv A outer s H E hr=>?_)
 ·obtain⟨d,rfl,_⟩:=h;rfl
 ·have hU:=Room.u60 hr;have hI:=Room.i60 hr;refine⟨_,JE (QaH (Qub (Js (QmL .int (by rfl) T.isinstance (qp 0) (by rfl) T.int Qtb)) (QmK (QAD (Js (QmL .bool (by rfl) T.isinstance (qp 0) (by rfl) T.bool Qv7)))))),λargs R EX h=>?_⟩;obtain⟨d,rfl,hR⟩:=h;cases d<;>exact hR
theorem Qmy:JZ ["thing", "least", "most"] ["thing", "least", "most"] (QJ QdQ):=⟨rfl,rfl,rfl,by decide +kernel,rfl,by decide +kernel,by decide +kernel⟩
theorem Qm7{f f1  : Addr}{fd fd1:Jc}(F:Fun K "is_whole_within" "is_whole_within" QdQ f fd)(T:GlbA mg)
  (m1:mg "is_whole" = some (.ref f1))(G1:FnOk P w K mg base CX0 1 f1 fd1 ["thing"] (Zu false Ql9))(b1:Binds K fd1 ["thing"] [])(k1:PySem.W.keepIn K (.ref f1)=true) :
  FnOk P w K mg base CX0 2 f fd ["thing", "least", "most"] (Zu false Qge):=by
 refine okQ false F Qmy (λargs R EX h=>?_) (λcdv A outer s H E hr=>?_)
 ·obtain⟨d,a,b,rfl,_⟩:=h;rfl
 ·have hU:=Room.u60 hr;have hI:=Room.i60 hr;refine⟨_,JE (QaH (Qub (Zc (Z7 G1 (hr.mono (by decide)) (by rfl) m1 k1 b1 ZE (Qae (qv 0) JU))) (QmK (Z2 (QCD Qm6 Qm6 (qp 1) (qp 0) (qp 2)))))),λargs R EX h=>?_⟩;obtain⟨d,a,b,rfl,hR⟩:=h;refine⟨d,rfl,?_⟩;cases d with
  |int i=>exact QrE (Qzj hR)
  |_=>exact hR
theorem QhS:(["one", "other"]:List Str).Nodup:=by decide +kernel
theorem Qpu:JZ ["things"] ["things"] (QJ QfI):=⟨rfl,rfl,rfl,by decide +kernel,rfl,by decide +kernel,by decide +kernel⟩
theorem Qrm{f   : Addr}{fd  : Jc}(F:Fun K "is_never_falling" "is_never_falling" QfI f fd)(T:GlbA mg) :
  FnOk P w K mg base CX0 1 f fd ["things"] (Zu false QhR):=by
 refine okQ false F Qpu (λargs R EX h=>?_) (λcdv A outer s H E hr=>?_)
 ·obtain⟨ns,rfl,_⟩:=h;rfl
 ·have hU:=Room.u60 hr;have hI:=Room.i60 hr;refine⟨_,JE (Qbf (Ym QgZ (Qos rfl) (by rfl) T.all Qoz (Qc6 (Js (Qbr ["one", "other"] [none,none] (QmJ (by rfl) T.zip (qp 0) (Js (Qcb (qp 0) (Qb9 (Zc ZD)) Qca))) (λcl ex s3 H3 C=>⟨(QbR rfl (ZA 0 (ZA 1 QbS QhS rfl (Jn rfl) (Jm rfl)) QhS rfl (Jn rfl) (Jm rfl))),Y2,(Z2 (Qlk Qm6 Qj9 (qp 0) (qp 1) (Yv _)))⟩))) Zk))),λargs R EX h=>?_⟩;obtain⟨ns,rfl,hR⟩:=h;refine QbT (λd=>.bool (QzM d)) (λd hd k2 hk=>?_) (Qjs (items:=Qhe (ns.map Qc) (Dl.cutD (ns.map Qc) (some 1) none)) rfl (by rw[Qsu];exact hR));obtain⟨i,hi⟩:=Q0.mp hd;obtain⟨a,b,ha,hb,rfl⟩:=Dl.zip_get hi;obtain⟨x,_,rfl⟩:=Qx.mp (QK ha);obtain⟨y,_,rfl⟩:=Qx.mp (QeF (QK hb));exact⟨rfl,hk⟩
theorem Qlr:(["part"]:List Str).Nodup:=by decide +kernel
theorem Qmz:JZ ["thing"] ["thing"] (QJ QdR):=⟨rfl,rfl,rfl,by decide +kernel,rfl,by decide +kernel,by decide +kernel⟩
theorem Qm8{f f1 f2  : Addr}{fd fd1 fd2:Jc}(hA:∃t,mg "MOST_LINES" = some (.int 6 t))(F:Fun K "is_stairs" "is_stairs" QdR f fd)(T:GlbA mg)
  (m1:mg "is_whole_within" = some (.ref f1))(G1:FnOk P w K mg base CX0 2 f1 fd1 ["thing", "least", "most"] (Zu false Qge))(b1:Binds K fd1 ["thing", "least", "most"] [])(k1:PySem.W.keepIn K (.ref f1)=true)
  (m2:mg "is_never_falling" = some (.ref f2))(G2:FnOk P w K mg base CX0 1 f2 fd2 ["things"] (Zu false QhR))(b2:Binds K fd2 ["things"] [])(k2:PySem.W.keepIn K (.ref f2)=true) :
  FnOk P w K mg base CX0 3 f fd ["thing"] (Zu false QeQ):=by
 refine okQ false F Qmz (λargs R EX h=>?_) (λcdv A outer s H E hr=>?_)
 ·obtain⟨d,rfl,_⟩:=h;rfl
 ·obtain⟨tA,mA⟩:=hA;have hU:=Room.u60 hr;have hI:=Room.i60 hr;refine⟨_,Jd (Qeq (Qws (QhF (QfK (QeU (Js (QmL .tuple (by rfl) T.isinstance (qp 0) (by rfl) T.tuple QeH)))) (QhE (QfK (QAC Qm6 Qm6 (Zc ZD) (Js (Ym Qbu Qf0 (by rfl) T.len Qdu (Qc6 (qp 0) Zk))) (Zc (QmM 6 (by rfl) mA ⟨_,rfl⟩))))))) (JE (QaH Qua)) QaB)
   (JE (QaH (Qub (Js (Ym QgZ (Qos rfl) (by rfl) T.all Qoz (Qc6 (Js (Qbr ["part"] [none] (QjY (qp 0)) (λcl ex s3 H3 C=>⟨(Yd 0 Qlr rfl (Jn rfl) (Jm rfl)),Y2,(Z7 G1 (hr.mono (by decide)) (by rfl) m1 k1 b1 ZE (Qae (qv 0) (Qae ZD (Qae (QmM 6 (by rfl) mA ⟨_,rfl⟩) JU))))⟩))) Zk))) (QmK (Z7 G2 (hr.mono (by decide)) (by rfl) m2 k2 b2 ZE (Qae (qv 0) JU)))))),λargs R EX h=>?_⟩
  obtain⟨d,rfl,hR⟩:=h;cases d with
  |tuple ds=>
   have hR:R (.bool ((decide ((1:Int)<=ds.length)&&decide ((ds.length:Int)<=6))&&(ds.all (λd=>inW d 0 6)&&nfI (ds.map toI)))):=hR;refine ifC (λz1=>?_) λz1=>?_
   ·rw[show decide ((1:Int)<=ds.length)=true from z1,Qcp] at hR;show if(!decide ((ds.length:Int)<=6))=true then _ else _
    cases z2:decide ((ds.length:Int)<=6) with
    |false=>rw[z2] at hR;exact hR
    |true=>
     rw[z2,Qcp] at hR;refine QbT (λd=>.bool (inW d 0 6)) (λd hd k2 hk=>⟨_,_,_,rfl,hk⟩) (Qjs (items:=ds) rfl ?_);refine Qwa hR λha hR=>⟨ds.map toI,?_,hR⟩
     rw[tI,<- (Qkm ha).1]
   ·rw[show decide ((1:Int)<=ds.length)=false from z1] at hR;exact hR
  |_=>exact hR
theorem Qpt:JZ ["stairs"] ["stairs"] (QJ Qlc):=⟨rfl,rfl,rfl,by decide +kernel,rfl,by decide +kernel,by decide +kernel⟩
theorem Qrl{f f1  : Addr}{fd fd1:Jc}(F:Fun K "refuse_no_stairs" "refuse_no_stairs" Qlc f fd)(T:GlbA mg)
  (m1:mg "is_stairs" = some (.ref f1))(G1:FnOk P w K mg base CX0 3 f1 fd1 ["thing"] (Zu false QeQ))(b1:Binds K fd1 ["thing"] [])(k1:PySem.W.keepIn K (.ref f1)=true) :
  FnOk P w K mg base CX0 4 f fd ["stairs"] (Zu false QiX):=by
 refine okQ false F Qpt (λargs R EX h=>?_) (λcdv A outer s H E hr=>?_)
 ·obtain⟨ns,rfl,_⟩:=h;rfl
 ·have hU:=Room.u60 hr;have hI:=Room.i60 hr;refine⟨_,JE (Qeq (QfK (QeU (Zc (Z7 G1 (hr.mono (by decide)) (by rfl) m1 k1 b1 ZE (Qae (qv 0) JU))))) QeV QaB),λargs R EX h=>?_⟩;obtain⟨ns,rfl,hs,hR⟩:=h;refine⟨_,rfl,?_⟩;rw[Qgj hs];exact hR
theorem Qd0:(["row", "column", "many", "stairs"]:List Str).Nodup:=by decide +kernel
theorem QeS:JZ ["stairs", "high", "cells"] ["stairs"] (QJ QdS):=⟨rfl,rfl,rfl,by decide +kernel,rfl,by decide +kernel,by decide +kernel⟩
theorem Qm9{f f1  : Addr}{fd fd1:Jc}(F:Fun K "stair_board" "stair_board" QdS f fd)(T:GlbA mg)
  (m1:mg "refuse_no_stairs" = some (.ref f1))(G1:FnOk P w K mg base CX0 4 f1 fd1 ["stairs"] (Zu false QiX))(b1:Binds K fd1 ["stairs"] [])(k1:PySem.W.keepIn K (.ref f1)=true) :
  FnOk P w K mg base CX0 5 f fd ["stairs"] (Zu false QzE):=by
 refine okQ false F QeS (λargs R EX h=>?_) (λcdv A outer s H E hr=>?_)
 ·obtain⟨ns,rfl,_⟩:=h;rfl
 ·have hU:=Room.u60 hr;have hI:=Room.i60 hr;refine⟨_,Jd (QdX (Zc (Z7 G1 (hr.mono (by decide)) (by rfl) m1 k1 b1 ZE (Qae (qv 0) JU))))
   (Jd (Qah 1 (Z2 (Ym (Qia rfl) Qr3 (by rfl) T.max Qta (Qc6 (Zc (Qlj Qbs QdZ (qp 0) (Js (Qt8 (Zc ZD))) (λ_ _=>rfl))) (Qc6 (Zc ZD) Zk)))) QeS.nd)
   (Jd (QpH ["row", "column", "many", "stairs"] [none,none,none,some 0] 2 QeS.nd (Qkp 0) (QbD (by rfl) T.range (qp 1)) (λcl ex s3 H3 C=>⟨(Yd 0 Qd0 rfl (Jn rfl) (Jm rfl)),Y2,(Qgw (by rfl) T.enumerate (qv 3)),(QbR rfl (ZA 1 (ZA 2 QbS Qd0 rfl (Jn rfl) (Jm rfl)) Qd0 rfl (Jn rfl) (Jm rfl))),(QeT (Qay QuR Qj9 (qp 0) (qp 2) (Yv _))),(Z2 (Qli (Qhf (qv 0) (Qhf (qv 1) Zk))))⟩))
   (JE (Qbf (Qli (Qhf (qv 1) (Qhf (Z2 (Ym Qbu Qf0 (by rfl) T.len Qdu (Qc6 (qp 0) Zk))) (Qhf (Z2 (Qdl Qbi QgU (by rfl) T.tuple QeH (Qc6 (qp 2) Zk))) Zk)))))))),λargs R EX h=>?_⟩
  obtain⟨ns,rfl,hs,hR⟩:=h;have hh:=QtV hs;have h6:=hs.l6;refine⟨_,rfl,hs,_,Qvo hs.l1,Qvh QAv ⟨⟨by omega,by omega⟩,Qom (QtW ns) 36 ?_ (λd hd acc N hb hN=>?_) ?_⟩⟩
  ·rw[QjV,Qg];exact Qmp hs
  ·obtain⟨i,hi⟩:=Q0.mp hd;obtain⟨hi,rfl⟩:=QdU hi;have er:QtW ns (.int (0+(i:Int)))=(QbZ (ns.map Qc)).filterMap (QzF (i:Int)):=by
    rw[QrS];show(QiU (0+(i:Int)).toNat ns.length (stF ns)).map pairD=_;rw[show(0+(i:Int)).toNat=i by omega]
   refine QyG (QzF (i:Int)) ?_ (λd hd k1 k2 h1 h2=>?_) (by rw[<- er];exact hN)
   ·rw[Qcz,Qg];exact YG (show acc.length+ns.length<=42 by omega) (by decide)
   ·obtain⟨c,hc⟩:=Q0.mp hd;obtain⟨e,he,rfl⟩:=Qa6 hc;obtain⟨m,_,rfl⟩:=Qx.mp (QK he);have h1:(if(i:Int)<m then some (pairD ((i:Int),(c:Int))) else none)=none->k1:=h1;have h2:∀e,(if(i:Int)<m then some (pairD ((i:Int),(c:Int))) else none)=some e->k2 e:=h2
    refine⟨rfl,?_⟩;show if decide (0+(i:Int)<m)=true then k2 (.tuple [.int (0+(i:Int)),.int (c:Int)]) else k1
    rw[show(0:Int)+(i:Int)=(i:Int) by omega];by_cases z:(i:Int)<m
    ·rw[if_pos (decide_eq_true z)];exact h2 _ (if_pos z)
    ·rw[if_neg (by simpa using z)];exact h1 (if_neg z)
  ·rw[QjV,Q4];have hR:R (.tuple [.int (sH ns),.int ns.length,.tuple ((stC ns).map pairD)]):=hR;rw[<- Qg (f:=Qc)] at hR;exact hR
theorem Y3:JZ ["_law_pot_here", "_law_columns", "_law_most", "_law_found", "_law_least", "_law_column", "_law_step"] ["_law_pot_here", "_law_columns", "_law_most"] (QJ Qd2):=⟨rfl,rfl,rfl,by decide +kernel,rfl,by decide +kernel,by decide +kernel⟩
theorem Qlp{f f1  : Addr}{fd fd1:Jc}(F:Fun K "_law_stairs" "_law_stairs" Qd2 f fd)(T:GlbA mg)
  (m1:mg "_law_take" = some (.ref f1))(G1:FnOk P w K mg base CX0 1 f1 fd1 ["_law_pot_here", "_law_far"] (Zu true Qpi))(b1:Binds K fd1 ["_law_pot_here", "_law_far"] [])(k1:PySem.W.keepIn K (.ref f1)=true) :
  FnOk P w K mg base CX0 2 f fd ["_law_pot_here", "_law_columns", "_law_most"] (Zu false QgE):=by
 refine okQ false F Y3 (λargs R EX h=>?_) (λcdv A outer s H E hr=>?_)
 ·obtain⟨n,rfl,_⟩:=h;rfl
 ·have hU:=Room.u60 hr;have hI:=Room.i60 hr;refine⟨_,Jd (Qah 3 (Z2 (Qli Zk)) Y3.nd)
   (Jd (Qah 4 ZD Y3.nd)
   (Jd (QcL Zj rfl (QbD (by rfl) T.range (qp 1)) (Yd 5 Y3.nd rfl (by first | exact Jn rfl | exact Jm rfl))
    (Jd (Qah 6 (Z2 (ZX G1 (hr.mono (by decide)) (by rfl) m1 k1 b1 ZE (Qei 0 (Qae ZD JU)))) Y3.nd)
   (Jd (Qeq (Qay QfN (Qlq hU) (Js (ZX G1 (hr.mono (by decide)) (by rfl) m1 k1 b1 ZE (Qei 0 (Qae ZD JU)))) (Zc ZD) (Yv _)) (JE (Qah 6 (Z2 (ZX G1 (hr.mono (by decide)) (by rfl) m1 k1 b1 ZE (Qei 0 (Qae (Z2 (Qai Qak Qa5 (qp 2) (Zc ZD))) JU)))) Y3.nd)) QaB)
   (Jd (Qah 4 (Z2 (Ym (Qfh rfl) QkJ (by rfl) T.min Qoy (Qc6 (qp 2) (Qc6 (Js (Qai Qak Qa5 (qp 4) (Js (Qai QeZ QhO (qp 6) (Js (Qdl Qou Qze (by rfl) T.int Qtb (Qc6 (Zc (QBT (Js (Qlk QAX Qj9 (qp 5) (Zc ZD) (Yv _))) (QmK (Z2 (Qlk QfN (Qlq hU) (Js (ZX G1 (hr.mono (by decide)) (by rfl) m1 k1 b1 ZE (Qei 0 (Qae ZD JU)))) (Zc ZD) (Yv _)))))) Zk))))))) Zk)))) Y3.nd)
   (JE (Qah 3 (Z2 (Qai Qak Qa5 (qp 3) (Js (Qli (Qhf (qv 4) Zk))))) Y3.nd))))))
   (JE (QaH (qv 3))))),λargs R EX h=>?_⟩
  obtain⟨n,rfl,n1,n6,hR⟩:=h;refine⟨⟨by omega,by omega⟩,QgL (λi δ=>∃ns x4 x5 x6,δ=[.pot,.v (.int n),.v (.int 6),.v (tI ns),.v (.int x4),x5,x6]/\ns.length=i/\(∀j∈ns,0<=j/\j<=6)/\nfI ns=true/\0<=x4/\x4<=6/\∀b,ns.getLast? = some b->b<=x4) ⟨[],0,_,_,rfl,rfl,λj hj=>(nomatch hj),rfl,by decide,by decide,λb hb=>(nomatch hb)⟩ ?_ ?_⟩
  ·rintro i δ hi ⟨ns,x4,x5,x6,rfl,hl,hb,hn,h0,h6,hlast⟩;refine⟨_,rfl,by decide,by decide,λr1 r10 r11=>⟨_,rfl,by decide,by decide,λr2 r20 r21=>?_⟩⟩;refine ifC (λzz=>?_) λzz=>?_
   ·refine⟨_,rfl,by decide,by decide,λr3 r30 r31=>?_⟩;have fin:∀v:Int,x4<=v->v<=6->∃ns' x4' x5' x6',[Sl.pot,.v (.int n),.v (.int 6),.v (.tuple (ns.map Qc++[.int v])),.v (.int v),.v (.int (0+(i:Int))),.v (.int r3)]=[.pot,.v (.int n),.v (.int 6),.v (tI ns'),.v (.int x4'),x5',x6']/\ns'.length=i+1/\(∀j∈ns',0<=j/\j<=6)/\nfI ns'=true/\0<=x4'/\x4'<=6/\∀b,ns'.getLast? = some b->b<=x4':=λv v0 v6=>by
     refine⟨ns++[v],v,_,_,by rw[tI,JF];rfl,by rw[Qs,hl];rfl,λj hj=>?_,Qi7 hn λb hb'=>QbO (hlast b hb') v0,by omega,v6,λb hb'=>?_⟩
     ·rcases Jr.mp hj with z | z
      ·exact hb j z
      ·rw[Jf.mp z];omega
     ·rw[Ql3] at hb';have:v=b:=by simpa using hb'
      omega
    have fin2:∀t:Int,0<=t->∃v,(if x4+t<6 then x4+t else 6)=v/\x4<=v/\v<=6:=λt t0=>⟨_,rfl,by split<;>omega,by split<;>omega⟩
    refine ifC (λz=>?_) λz=>?_
    ·refine⟨.inl (.inr (by decide)),?_⟩;obtain⟨v,ev,v0,v6⟩:=fin2 (r3*1) (by omega);refine Qe2 ev ⟨by rw[Qg];show _+1<=_;omega,fin v v0 v6⟩
    ·refine⟨_,rfl,by decide,by decide,λrb rb0 rb1=>?_⟩;refine⟨.inl (.inr (by show -(2^64:Int)<(if decide (rb=0)=true then 1 else 0)/\(if decide (rb=0)=true then(1:Int) else 0)<2^64;split<;>decide)),?_⟩;obtain⟨v,ev,v0,v6⟩:=fin2 (r3*(if decide (rb=0)=true then 1 else 0)) (by split<;>omega);refine Qe2 ev ⟨by rw[Qg];show _+1<=_;omega,fin v v0 v6⟩
   ·skip
    have fin:∀v:Int,x4<=v->v<=6->∃ns' x4' x5' x6',[Sl.pot,.v (.int n),.v (.int 6),.v (.tuple (ns.map Qc++[.int v])),.v (.int v),.v (.int (0+(i:Int))),.v (.int r1)]=[.pot,.v (.int n),.v (.int 6),.v (tI ns'),.v (.int x4'),x5',x6']/\ns'.length=i+1/\(∀j∈ns',0<=j/\j<=6)/\nfI ns'=true/\0<=x4'/\x4'<=6/\∀b,ns'.getLast? = some b->b<=x4':=λv v0 v6=>by
     refine⟨ns++[v],v,_,_,by rw[tI,JF];rfl,by rw[Qs,hl];rfl,λj hj=>?_,Qi7 hn λb hb'=>QbO (hlast b hb') v0,by omega,v6,λb hb'=>?_⟩
     ·rcases Jr.mp hj with z | z
      ·exact hb j z
      ·rw[Jf.mp z];omega
     ·rw[Ql3] at hb';have:v=b:=by simpa using hb'
      omega
    have fin2:∀t:Int,0<=t->∃v,(if x4+t<6 then x4+t else 6)=v/\x4<=v/\v<=6:=λt t0=>⟨_,rfl,by split<;>omega,by split<;>omega⟩
    refine ifC (λz=>?_) λz=>?_
    ·refine⟨.inl (.inr (by decide)),?_⟩;obtain⟨v,ev,v0,v6⟩:=fin2 (r1*1) (by omega);refine Qe2 ev ⟨by rw[Qg];show _+1<=_;omega,fin v v0 v6⟩
    ·refine⟨_,rfl,by decide,by decide,λrb rb0 rb1=>?_⟩;refine⟨.inl (.inr (by show -(2^64:Int)<(if decide (rb=0)=true then 1 else 0)/\(if decide (rb=0)=true then(1:Int) else 0)<2^64;split<;>decide)),?_⟩;obtain⟨v,ev,v0,v6⟩:=fin2 (r1*(if decide (rb=0)=true then 1 else 0)) (by split<;>omega);refine Qe2 ev ⟨by rw[Qg];show _+1<=_;omega,fin v v0 v6⟩
  ·rintro δ ⟨ns,x4,x5,x6,rfl,hl,hb,hn,h0,h6,hlast⟩;exact hR ns ⟨by omega,by omega,hb,hn⟩ (by omega)
theorem QhT:(["place", "number"]:List Str).Nodup:=by decide +kernel
theorem Qpv:JZ ["stairs"] ["stairs"] (QJ QfJ):=⟨rfl,rfl,rfl,by decide +kernel,rfl,by decide +kernel,by decide +kernel⟩
theorem Qrn{f f1  : Addr}{fd fd1:Jc}(F:Fun K "heads" "heads" QfJ f fd)(T:GlbA mg)
  (m1:mg "refuse_no_stairs" = some (.ref f1))(G1:FnOk P w K mg base CX0 4 f1 fd1 ["stairs"] (Zu false QiX))(b1:Binds K fd1 ["stairs"] [])(k1:PySem.W.keepIn K (.ref f1)=true) :
  FnOk P w K mg base CX0 5 f fd ["stairs"] (Zu true QfU):=by
 refine okQ true F Qpv (λargs R EX h=>?_) (λcdv A outer s H E hr=>?_)
 ·obtain⟨ns,rfl,_⟩:=h;rfl
 ·have hU:=Room.u60 hr;have hI:=Room.i60 hr;refine⟨_,Jd (QdX (Zc (Z7 G1 (hr.mono (by decide)) (by rfl) m1 k1 b1 ZE (Qae (qv 0) JU))))
   (JE (Qbf (Ym QlH Qv1 (by rfl) T.sorted Qox (Qc6 (Js (Qbr ["place", "number"] [none,none] (Qgw (by rfl) T.enumerate (qp 0)) (λcl ex s3 H3 C=>⟨(QbR rfl (ZA 0 (ZA 1 QbS QhT rfl (Jn rfl) (Jm rfl)) QhT rfl (Jn rfl) (Jm rfl))),Y2,(Z2 (Qai QhN QfP (qp 1) (qp 0)))⟩))) Zk)))),λargs R EX h=>?_⟩
  obtain⟨ns,rfl,hs,hR⟩:=h;refine⟨ns,rfl,hs,?_⟩;refine QbT (λd=>match d with | .tuple [.int p,.int n]=>.int (n - p) | _=>.none) (λd hd k2 hk=>?_) ?_
  ·obtain⟨i,hi⟩:=Q0.mp hd;obtain⟨e,he,rfl⟩:=Qa6 hi;obtain⟨m,_,rfl⟩:=Qx.mp (QK he);exact⟨rfl,hk⟩
  ·rw[QvG];have l6:=hs.l6;exact(QtN (ds:=(hdL ns).map Qc) (ns:=hdL ns) (QlL _) (by unfold hdL;rw[Qg,Qz];omega) λms pm pw=>hR ms pm pw).1
theorem Qvd:(["number", "numbers"]:List Str).Nodup:=by decide +kernel
theorem Qxb:JZ ["many", "numbers"] ["many", "numbers"] (QJ sOth):=⟨rfl,rfl,rfl,by decide +kernel,rfl,by decide +kernel,by decide +kernel⟩
theorem Qyg{f   : Addr}{fd  : Jc}(F:Fun K "others" "others" sOth f fd)(T:GlbA mg) :
  FnOk P w K mg base CX0 1 f fd ["many", "numbers"] (Zu false QAT):=by
 refine okQ false F Qxb (λargs R EX h=>?_) (λcdv A outer s H E hr=>?_)
 ·obtain⟨n,o,rfl,_⟩:=h;rfl
 ·have hU:=Room.u60 hr;have hI:=Room.i60 hr;refine⟨_,JE (Qbf (Qbr ["number", "numbers"] [none,some 1] (QbD (by rfl) T.range (qp 0)) (λcl ex s3 H3 C=>⟨(Yd 0 Qvd rfl (Jn rfl) (Jm rfl)),(QeT (Qay QeY (Qu6 hI) (qp 0) (qp 1) (by rfl))),(qv 0)⟩))),λargs R EX h=>?_⟩;obtain⟨n,o,rfl,n6,hR⟩:=h;refine⟨⟨by omega,by omega⟩,Qr2 (λd=>match d with | .int x=>if(!decide (x.toNat∈o))=true then some d else none | _=>none) (λd hd k1 k2 h1 h2=>?_) ?_⟩
  ·obtain⟨x,hx⟩:=Q0.mp hd;obtain⟨hx,rfl⟩:=QdU hx;have h1:(if(!decide ((0+(x:Int)).toNat∈o))=true then some (Qc (0+(x:Int))) else none)=none->k1:=h1;have h2:∀e,(if(!decide ((0+(x:Int)).toNat∈o))=true then some (Qc (0+(x:Int))) else none)=some e->k2 e:=h2
   rw[show(0+(x:Int)).toNat=x by omega] at h1 h2;have ei:Qcg o=(o.map λ(y:Nat)=>(y:Int)).map Qc:=by unfold Qcg;rw[QN];rfl
   refine⟨⟨by rw[ei];exact QbF _,rfl,by show QaD (.int _)<=50;unfold QaD;decide⟩,?_⟩;show if(!(Qcg o).any λe=>QL e (.int (0+(x:Int))))=true then _ else k1
   rw[ei,Qv9];have em:decide (0+(x:Int)∈o.map λ(y:Nat)=>(y:Int))=decide (x∈o):=decide_eq_decide.mpr (by
    rw[Qx];constructor
    ·rintro⟨y,hy,e⟩;have e:(y:Int)=0+(x:Int):=e;rw[show x=y by omega];exact hy
    ·intro hx;exact⟨x,hx,by show(x:Int)=0+x;omega⟩)
   rw[em];by_cases z:(!decide (x∈o))=true
   ·rw[if_pos z];exact h2 _ (if_pos z)
   ·rw[if_neg z];exact h1 (if_neg z)
  ·have er:(Qit 0 ((n:Nat):Int).toNat).filterMap (λd=>match d with | .int x=>if(!decide (x.toNat∈o))=true then some d else none | _=>none)=Qcg (oth n o):=by
    unfold Qit Qcg oth;rw[Q4,Qax];refine QrR (p:=λx => !decide (x∈o)) λx _=>?_
    show(if(!decide ((0+(x:Int)).toNat∈o))=true then some (Qc (0+(x:Int))) else none)=if(!decide (x∈o))=true then some (Qc (x:Int)) else none
    rw[show(0+(x:Int)).toNat=x by omega,show(0:Int)+(x:Int)=(x:Int) by omega]
   rw[er];exact hR
theorem Qkg:(["order", "number", "many"]:List Str).Nodup:=by decide +kernel
theorem Qgs:JZ ["many", "orders", "step"] ["many"] (QJ Qlh):=⟨rfl,rfl,rfl,by decide +kernel,rfl,by decide +kernel,by decide +kernel⟩
theorem Qu2{f f1  : Addr}{fd fd1:Jc}(F:Fun K "all_orders" "all_orders" Qlh f fd)(T:GlbA mg)
  (m1:mg "others" = some (.ref f1))(G1:FnOk P w K mg base CX0 1 f1 fd1 ["many", "numbers"] (Zu false QAT))(b1:Binds K fd1 ["many", "numbers"] [])(k1:PySem.W.keepIn K (.ref f1)=true) :
  FnOk P w K mg base CX0 2 f fd ["many"] (Zu true QuP):=by
 refine okQ true F Qgs (λargs R EX h=>?_) (λcdv A outer s H E hr=>?_)
 ·obtain⟨n,rfl,_⟩:=h;rfl
 ·have hU:=Room.u60 hr;have hI:=Room.i60 hr;refine⟨_,Jd (QeW 1 (QhG (Qhf (Z2 (Qli Zk)) Zk)) Qgs.nd)
   (Jd (QcL Zj rfl (QbD (by rfl) T.range (qp 0)) (Yd 2 Qgs.nd rfl (by first | exact Jn rfl | exact Jm rfl))
    (JE (QmI ["order", "number", "many"] [none,none,some 0] 1 Qgs.nd (Qkp 0) (QcR (qp 1)) (λcl ex s3 H3 C=>⟨(Yd 0 Qkg rfl (Jn rfl) (Jm rfl)),Y2,(QcR (Z7 G1 (hr.mono (by decide)) (by rfl) m1 k1 b1 ZE (Qae (qv 2) (Qae (qv 0) JU)))),(Yd 1 Qkg rfl (Jn rfl) (Jm rfl)),Y2,(Z2 (Qai Qak Qa5 (qp 0) (Js (Qli (Qhf (qv 1) Zk)))))⟩))))
   (JE (Qgv 1))),λargs R EX h=>?_⟩
  obtain⟨n,rfl,n6,hR⟩:=h;have eG:∀i,((ordsN n i).map tNn).flatMap (λd=>match d with | .tuple ds=>(oth n (ds.map λe=>(toI e).toNat)).map λx=>J4 (ds++[.int (x:Nat)]) | _=>[])=(ordsN n (i+1)).map tNn:=λi=>by
   show _=((ordsN n i).flatMap λo=>(oth n o).map λx=>o++[x]).map tNn;rw[Qts,Qtr];refine QfV λo _=>?_
   show(oth n ((Qcg o).map λe=>(toI e).toNat)).map (λx=>J4 (Qcg o++[.int (x:Nat)]))=((oth n o).map λx=>o++[x]).map tNn;rw[QjJ,QN];refine Q8 λx _=>?_
   show _=J4 (Qcg (o++[x]));unfold Qcg;rw[JF];rfl
  refine⟨⟨by omega,by omega⟩,QgL (λi δ=>∃ds x2,δ=[.v (.int n),.own ds,x2]/\ds=(ordsN n i).map tNn) ⟨_,_,rfl,rfl⟩ ?_ ?_⟩
  ·rintro i δ hi ⟨ds,x2,rfl,rfl⟩;rw[Q4] at hi;refine Qom (λd=>match d with | .tuple ds=>(oth n (ds.map λe=>(toI e).toNat)).map λx=>J4 (ds++[.int (x:Nat)]) | _=>[]) 50000 (by rw[eG,Qg];exact Qrg n6 (i+1) (by omega)) (λd hd acc N hb hN=>?_) ?_
   ·obtain⟨o,ho,rfl⟩:=Qx.mp hd;have lo:=Qdp ho;have hb:acc.length+((oth n ((Qcg o).map λe=>(toI e).toNat)).map λx=>J4 (Qcg o++[.int (x:Nat)])).length<=50000:=hb;have hN:N (acc++(oth n ((Qcg o).map λe=>(toI e).toNat)).map λx=>J4 (Qcg o++[.int (x:Nat)])):=hN;rw[QjJ] at hb hN;rw[Qg] at hb;have l1:(Qcg o).length=o.length:=by unfold Qcg;exact Qg _
    have l2:(Qcg (oth n o)).length=(oth n o).length:=by unfold Qcg;exact Qg _
    refine⟨_,_,rfl,n6,QyF (λd=>.tuple (Qcg o++[d])) (by rw[l2];exact YG hb (by decide)) (λd hd k2 hk=>?_) ?_⟩
    ·exact⟨by rw[l1];show _+1<=_;omega,hk⟩
    ·have e:(Qcg (oth n o)).map (λd=>J4 (Qcg o++[d]))=(oth n o).map λx=>J4 (Qcg o++[.int (x:Nat)]):=by
      conv=>lhs;unfold Qcg
      rw[QN];rfl
     rw[e];exact hN
   ·rw[eG];exact⟨_,_,rfl,rfl⟩
  ·rintro δ ⟨ds,x2,rfl,rfl⟩;rw[Q4];exact hR
theorem Qnk:(["place", "at", "put"]:List Str).Nodup:=by decide +kernel
theorem Qxc:JZ ["put", "order"] ["put", "order"] (QJ sNBy):=⟨rfl,rfl,rfl,by decide +kernel,rfl,by decide +kernel,by decide +kernel⟩
theorem Qyh{f   : Addr}{fd  : Jc}(F:Fun K "numbers_by" "numbers_by" sNBy f fd)(T:GlbA mg) :
  FnOk P w K mg base CX0 1 f fd ["put", "order"] (Zu false QzL):=by
 refine okQ false F Qxc (λargs R EX h=>?_) (λcdv A outer s H E hr=>?_)
 ·obtain⟨hs,o,rfl,_⟩:=h;rfl
 ·have hU:=Room.u60 hr;have hI:=Room.i60 hr;refine⟨_,JE (Qbf (Qdl Qbi QgU (by rfl) T.tuple QeH (Qc6 (Js (Qbr ["place", "at", "put"] [none,none,some 0] (Qgw (by rfl) T.enumerate (qp 1)) (λcl ex s3 H3 C=>⟨(QbR rfl (ZA 0 (ZA 1 QbS Qnk rfl (Jn rfl) (Jm rfl)) Qnk rfl (Jn rfl) (Jm rfl))),Y2,(Z2 (Qai Qak Qa5 (Zc (Qlj Qbs QdZ (qp 2) (qp 1) (λ_ _=>rfl))) (qp 0)))⟩))) Zk))),λargs R EX h=>?_⟩;obtain⟨hs,o,rfl,o6,hb,hR⟩:=h;refine QbT (λd=>match d with | .tuple [.int p,.int a]=>.int (hs.getD a.toNat 0+p) | _=>.none) (λd hd k2 hk=>?_) ?_
  ·obtain⟨i,hi⟩:=Q0.mp hd;obtain⟨e,he,rfl⟩:=Qa6 hi;obtain⟨x,hx,rfl⟩:=Qx.mp (QK he);have hx:=hb x hx;refine⟨rfl,.int (hs.getD x 0),Qam (j:=x) ?_,hk⟩;rw[Qq,Qf hx,Qh,Qf hx];rfl
  ·rw[QvF];exact hR
theorem Qkf:(["size", "many", "number"]:List Str).Nodup:=by decide +kernel
theorem Qke:(["many", "more"]:List Str).Nodup:=by decide +kernel
theorem QmB:JZ ["told", "number", "with_rook"] ["told", "number"] (QJ Qlg):=⟨rfl,rfl,rfl,by decide +kernel,rfl,by decide +kernel,by decide +kernel⟩
theorem Qu1{f   : Addr}{fd  : Jc}(F:Fun K "counts_with_column" "counts_with_column" Qlg f fd)(T:GlbA mg) :
  FnOk P w K mg base CX0 1 f fd ["told", "number"] (Zu true Qv3):=by
 refine okQ true F QmB (λargs R EX h=>?_) (λcdv A outer s H E hr=>?_)
 ·obtain⟨t,n,rfl,_⟩:=h;rfl
 ·have hU:=Room.u60 hr;have hI:=Room.i60 hr;refine⟨_,Jd (QiY ["size", "many", "number"] [none,none,some 1] 2 QmB.nd (Qgx (by rfl) T.enumerate (qp 0)) (λcl ex s3 H3 C=>⟨(QbR rfl (ZA 0 (ZA 1 QbS Qkf rfl (Jn rfl) (Jm rfl)) Qkf rfl (Jn rfl) (Jm rfl))),Y2,(Z2 (Qai QeZ QhO (qp 1) (Js (Qai QhN QfP (qp 2) (qp 0)))))⟩))
   (JE (Qbf (Qbr ["many", "more"] [none,none] (Qt6 (by rfl) T.zip (Js (Qai Qak Qa5 (qp 0) (Js (QhG (Qhf ZD Zk))))) (Js (Qai Qak Qa5 (Js (QhG (Qhf ZD Zk))) (qp 2)))) (λcl ex s3 H3 C=>⟨(QbR rfl (ZA 0 (ZA 1 QbS Qke rfl (Jn rfl) (Jm rfl)) Qke rfl (Jn rfl) (Jm rfl))),Y2,(Z2 (Qai Qak Qa5 (qp 0) (qp 1)))⟩)))),λargs R EX h=>?_⟩
  obtain⟨t,n,rfl,hl,n0,n6,hR⟩:=h;have lt:(t.map Qc).length=t.length:=Qg _;refine QbT (λd=>match d with | .tuple [.int s,.int m]=>.int (m*(n - s)) | _=>.none) (λd hd k2 hk=>?_) ?_
  ·obtain⟨i,hi⟩:=Q0.mp hd;obtain⟨e,he,rfl⟩:=Qa6 hi;have hil:=(QR.mp he).1;obtain⟨m,_,rfl⟩:=Qx.mp (QK he);exact⟨rfl,.inl (.inr (by show -(2^64:Int)<n - (i:Int)/\n - (i:Int)<2^64;omega)),hk⟩
  ·rw[QvE];refine⟨by rw[lt];show _+1<=_;omega,by rw[Qg,Ql8];show 1+_<=_;omega,QbT (λd=>match d with | .tuple [.int a,.int b]=>.int (a+b) | _=>.none) (λd hd k2 hk=>?_) ?_⟩
   ·obtain⟨i,hi⟩:=Q0.mp hd;obtain⟨a,b,ha,hb,rfl⟩:=Dl.zip_get hi;have ia:∃x,a=.int x:=by
     rcases Jr.mp (QK ha) with z | z
     ·obtain⟨x,_,rfl⟩:=Qx.mp z;exact⟨x,rfl⟩
     ·exact⟨0,Jf.mp z⟩
    have ib:∃x,b=.int x:=by
     rcases Jr.mp (QK hb) with z | z
     ·exact⟨0,Jf.mp z⟩
     ·obtain⟨x,_,rfl⟩:=Qx.mp z;exact⟨x,rfl⟩
    obtain⟨x,rfl⟩:=ia;obtain⟨y,rfl⟩:=ib;exact⟨rfl,hk⟩
   ·rw[QwP];exact hR
theorem Qgp:JZ ["stairs", "told", "number"] ["stairs"] (QJ Qlf):=⟨rfl,rfl,rfl,by decide +kernel,rfl,by decide +kernel,by decide +kernel⟩
theorem QuZ{f f1 f2  : Addr}{fd fd1 fd2:Jc}(F:Fun K "head_counts" "head_counts" Qlf f fd)(T:GlbA mg)
  (m1:mg "refuse_no_stairs" = some (.ref f1))(G1:FnOk P w K mg base CX0 4 f1 fd1 ["stairs"] (Zu false QiX))(b1:Binds K fd1 ["stairs"] [])(k1:PySem.W.keepIn K (.ref f1)=true)
  (m2:mg "counts_with_column" = some (.ref f2))(G2:FnOk P w K mg base CX0 1 f2 fd2 ["told", "number"] (Zu true Qv3))(b2:Binds K fd2 ["told", "number"] [])(k2:PySem.W.keepIn K (.ref f2)=true) :
  FnOk P w K mg base CX0 5 f fd ["stairs"] (Zu true QBe):=by
 refine okQ true F Qgp (λargs R EX h=>?_) (λcdv A outer s H E hr=>?_)
 ·obtain⟨ns,rfl,_⟩:=h;rfl
 ·have hU:=Room.u60 hr;have hI:=Room.i60 hr;refine⟨_,Jd (QdX (Zc (Z7 G1 (hr.mono (by decide)) (by rfl) m1 k1 b1 ZE (Qae (qv 0) JU))))
   (Jd (QeW 1 (QhG (Qhf ZD Zk)) Qgp.nd)
   (Jd (QcL Zj rfl (QjY (qv 0)) (Yd 2 Qgp.nd rfl (by first | exact Jn rfl | exact Jm rfl))
    (JE (QeW 1 (Qt9 G2 (hr.mono (by decide)) (by rfl) m2 k2 b2 ZE (Qc6 (qp 1) (Qc6 (qp 2) Zk))) Qgp.nd)))
   (JE (Qgv 1)))),λargs R EX h=>?_⟩
  obtain⟨ns,rfl,hs,hR⟩:=h;have l6:=hs.l6;refine⟨ns,rfl,hs,?_⟩;refine Qbt (λi δ=>∃x2,δ=[.v (tI ns),.own (((ns.take i).foldl ccI [1]).map Qc),x2]) ⟨_,rfl⟩ ?_ ?_
  ·rintro i d δ hd ⟨x2,rfl⟩;rw[Qq] at hd;obtain⟨m,hm,rfl⟩:∃m,ns[i]? = some m/\d=.int m:=by
    cases z:ns[i]? with
    |none=>rw[z] at hd;cases hd
    |some r=>rw[z] at hd;cases hd;exact⟨r,rfl,rfl⟩
   have hb:=hs.bd m (QK hm);have hl:=QsZ (ns.take i) [1];have ht:(ns.take i).length<=ns.length:=by rw[Jo];omega
   have hl:((ns.take i).foldl ccI [1]).length=(ns.take i).length+1:=by rw[hl];rfl
   refine⟨_,m,rfl,by omega,hb.1,hb.2,QlC _,⟨.v (.int m),?_⟩⟩;rw[Zv,hm,Qb1];rfl
  ·rintro δ ⟨x2,rfl⟩;rw[Qg,Zf];exact hR
theorem Qgo:JZ ["stairs", "number", "told", "head"] ["stairs", "number"] (QJ Qld):=⟨rfl,rfl,rfl,by decide +kernel,rfl,by decide +kernel,by decide +kernel⟩
theorem QuX{f f1 f2 f3  : Addr}{fd fd1 fd2 fd3:Jc}(hB:∃t,mg "MOST_TAKEN" = some (.int 1000000000 t))(F:Fun K "product_at" "product_at" Qld f fd)(T:GlbA mg)
  (m1:mg "refuse_no_stairs" = some (.ref f1))(G1:FnOk P w K mg base CX0 4 f1 fd1 ["stairs"] (Zu false QiX))(b1:Binds K fd1 ["stairs"] [])(k1:PySem.W.keepIn K (.ref f1)=true)
  (m2:mg "is_whole_within" = some (.ref f2))(G2:FnOk P w K mg base CX0 2 f2 fd2 ["thing", "least", "most"] (Zu false Qge))(b2:Binds K fd2 ["thing", "least", "most"] [])(k2:PySem.W.keepIn K (.ref f2)=true)
  (m3:mg "heads" = some (.ref f3))(G3:FnOk P w K mg base CX0 5 f3 fd3 ["stairs"] (Zu true QfU))(b3:Binds K fd3 ["stairs"] [])(k3:PySem.W.keepIn K (.ref f3)=true) :
  FnOk P w K mg base CX0 6 f fd ["stairs", "number"] (Zu false Quf):=by
 refine okQ false F Qgo (λargs R EX h=>?_) (λcdv A outer s H E hr=>?_)
 ·obtain⟨ns,x,rfl,_⟩:=h;rfl
 ·obtain⟨tB,mB⟩:=hB;have hU:=Room.u60 hr;have hI:=Room.i60 hr;refine⟨_,Jd (QdX (Zc (Z7 G1 (hr.mono (by decide)) (by rfl) m1 k1 b1 ZE (Qae (qv 0) JU))))
   (Jd (Qeq (QfK (QeU (Zc (Z7 G2 (hr.mono (by decide)) (by rfl) m2 k2 b2 ZE (Qae (qv 1) (Qae ZD (Qae (QmM 1000000000 (by rfl) mB ⟨_,rfl⟩) JU))))))) QeV QaB)
   (Jd (Qah 2 ZD Qgo.nd)
   (Jd (QcL Zj rfl (QcR (Z2 (ZX G3 (hr.mono (by decide)) (by rfl) m3 k3 b3 ZE (Qae (qv 0) JU)))) (Yd 3 Qgo.nd rfl (by first | exact Jn rfl | exact Jm rfl))
    (JE (Qxw 2 (QA6 Qvv) Qu4 (Js (Qai Qak Qa5 (qp 1) (qp 3))) Qgo.nd)))
   (JE (QaH (qv 2)))))),λargs R EX h=>?_⟩
  obtain⟨ns,x,rfl,hs,x0,x9,hR⟩:=h;refine⟨ns,rfl,hs,_,_,_,rfl,?_⟩;rw[show inW (.int x) 0 1000000000=true from QyH x0 x9];refine⟨ns,rfl,hs,λms pm pw=>?_⟩;refine Qbt (λi δ=>∃x3,δ=[.v (tI ns),.v (.int x),.v (.int (prI x (ms.take i))),x3]) ⟨_,rfl⟩ ?_ ?_
  ·rintro i d δ hd ⟨x3,rfl⟩;obtain⟨m,hm,rfl⟩:=int_at hd;have hb:=QBc hs (pm.mem_iff.mp (QK hm));refine⟨.inr ⟨by omega,by omega⟩,.v (.int m),?_⟩;rw[Zv,hm,Qi0];show _=[_,_,Sl.v (.int (prI x (ms.take i)*((x+m)*1))),_];rw[Qpa];rfl
  ·rintro δ ⟨x3,rfl⟩;rw[Qg,Zf,Qj2 x pm];exact hR
theorem Qgq:JZ ["_law_number", "_law_many", "_law_found", "_law_turn"] ["_law_number", "_law_many"] (QJ Qlz):=⟨rfl,rfl,rfl,by decide +kernel,rfl,by decide +kernel,by decide +kernel⟩
theorem Qu0{f   : Addr}{fd  : Jc}(F:Fun K "_law_falling" "_law_falling" Qlz f fd)(T:GlbA mg) :
  FnOk P w K mg base CX0 1 f fd ["_law_number", "_law_many"] (Zu false QvD):=by
 refine okQ false F Qgq (λargs R EX h=>?_) (λcdv A outer s H E hr=>?_)
 ·obtain⟨x,n,rfl,_⟩:=h;rfl
 ·have hU:=Room.u60 hr;have hI:=Room.i60 hr;refine⟨_,Jd (Qah 2 ZD Qgq.nd)
   (Jd (QcL Zj rfl (QbD (by rfl) T.range (qp 1)) (Yd 3 Qgq.nd rfl (by first | exact Jn rfl | exact Jm rfl))
    (JE (Qah 2 (Z2 (Qai QeZ QhO (qp 2) (Js (Qai QhN QfP (qp 0) (qp 3))))) Qgq.nd)))
   (JE (QaH (qv 2)))),λargs R EX h=>?_⟩
  obtain⟨x,n,rfl,n6,x0,x9,hR⟩:=h;refine⟨⟨by omega,by omega⟩,QgL (λi δ=>∃x3,δ=[.v (.int x),.v (.int n),.v (.int (faI x i)),x3]) ⟨_,rfl⟩ ?_ ?_⟩
  ·rintro i δ hi ⟨x3,rfl⟩;rw[Q4] at hi;refine⟨.inl (.inr ⟨by omega,by omega⟩),.v (.int (0+(i:Int))),?_⟩;rw[show(0:Int)+(i:Int)=(i:Int) by omega];rfl
  ·rintro δ ⟨x3,rfl⟩;rw[Q4];exact hR
end
end Rk
namespace Rk
open L2 _root_.Rd
open Rt Dl Zt
def QsC:Sp:=λvs H Q _=>∃(a:Addr)(ns hs:List Int),vs=[.ref a]/\H a=some (.tup (ns.map V.int))/\ZZ ns/\hs.Perm (hdL ns)/\hs.Pairwise (·<=·)/\∀(t:Addr)(ys:List V)(rows:List (List Int))(H':Hp),Same H H'->H t=none->H' t=some (.lst ys)->Dats H' ys (rows.map tI)->rows.Nodup->(∀x,x∈rows↔(∃o∈ordsN ns.length ns.length,nbI hs o=x)/\okR x=true)->(rows.map tI).Pairwise (λa b=>ltD b a=false)->Q (.ref t) H'
theorem Qrh:∀m:Fin 7,(ordsN m.val m.val).length<=720:=by decide +kernel
theorem QhM{m:Nat}(h:m<=6):(ordsN m m).length<=720:=Qrh ⟨m,by omega⟩
theorem QnQ{α:Type}{l:List α}{i:Nat}{d:α}(h:i<l.length):l.getD i d∈l:=by
 rw[Qh,Qf h];exact Yr h
def unT:Qa->List Int
 |.tuple ds=>ds.map toI
 |_=>[]
theorem QeN(x:List Int):unT (tI x)=x:=by
 show(x.map Qc).map toI=x;rw[QN]
 conv=>rhs;rw[<- QaE x]
 exact Q8 λ_ _=>rfl
theorem QtG{L:List (List Int)}{es:List Qa}(h:es.Perm (L.map tI)):∃rows:List (List Int),es=rows.map tI/\rows.Perm L:=by
 refine⟨es.map unT,?_,?_⟩
 ·rw[QN]
  conv=>lhs;rw[<- QaE es]
  refine Q8 λd hd=>?_
  obtain⟨x,_,rfl⟩:=Qx.mp (h.mem_iff.mp hd);exact(congrArg tI (QeN x)).symm
 ·have:=h.map unT;rw[QN] at this;rw[show L.map (unT∘tI)=L by
                   conv=>rhs;rw[<- QaE L]
                   exact Q8 λx _=>QeN x] at this
  exact this
theorem QkL{fr:Bool}{fD:DF}{vs:List V}{H:Hp}{Q:VK}{Ex:XK}(ds:List Qa)(R:Qa->Prop)(hv:DAs (λ_=>False) H vs ds)(hf:fD (ds.map Sl.v) R XF)(k:∀d,R d->∀v H',Same H H'->DA (λ_=>False) H' v d->(fr=true->FrV H H' v)->Q v H'):Zu fr fD vs H Q Ex:=by
 refine⟨λ_=>False,λ_=>False,ds.map Sl.v,R,XF,λ_ z=>z.elim,λ_ z=>z.elim,?_,hf,λd hd v H' kq da hfr=>k d hd v H' (λb o e=>kq.1 b o (λz=>z) e) da hfr,λC z=>z.elim⟩;clear hf k;induction vs generalizing ds with
 |nil=>cases hv;exact .nil
 |cons v vs ih=>cases hv with
  |cons q qs=>exact .cons q (ih _ qs)
theorem QyV{H:Hp}{a:Addr}{ns:List Int}(h:H a=some (.tup (ns.map V.int))):DA (λ_=>False) H (.ref a) (tI ns):=.tup (λz=>z) h (Qcx ns)
theorem daL{A:Addr->Prop}{H:Hp}{v:V}{ds:List Qa}(h:DA A H v (.list ds)):∃l xs,v=.ref l/\H l=some (.lst xs)/\DAs A H xs ds:=by
 cases h with
 |lst n e q=>exact⟨_,_,rfl,e,q⟩
theorem daT{A:Addr->Prop}{H:Hp}{v:V}{ds:List Qa}(h:DA A H v (.tuple ds)):∃l xs,v=.ref l/\H l=some (.tup xs)/\DAs A H xs ds:=by
 cases h with
 |tup n e q=>exact⟨_,_,rfl,e,q⟩
theorem Qpn{a b:List Int}(p:a.Perm b)(h1:a.Pairwise (·<=·))(h2:b.Pairwise (·<=·)):a=b:=Qbo (le:=λa b=>a<=b) (λa b _ _ h1 h2=>QwJ h1 h2) h1 h2 p
theorem Qn9{A:Addr->Prop}{H:Hp}:∀{xs:List V}{ds:List Qa},DAs A H xs ds->∀(i:Nat)(d:Qa),ds[i]? = some d->∃x,xs[i]? = some x/\DA A H x d
 |_,_,.nil,i,d,h=>by simp at h
 |_,_,.cons q qs,0,d,h=>by simp at h;subst h;exact⟨_,rfl,q⟩
 |_,_,.cons q qs,i+1,d,h=>by
  simp only[Zo] at h;obtain⟨x,e,q⟩:=Qn9 qs i d h;exact⟨x,by simpa using e,q⟩
structure Sg (P:QD) (W:Jl) (H0 H:Hp) (p:Addr) (M:List (List Int)) (ps:List (List Int×Addr)):Prop where
 at_:H p=some (.ext (Qgn P W p ps (ledOf W)))
 kp:∀b o,b≠p->H0 b=some o->H b=some o
 mem:∀q∈ps,H q.2=some (.tup (q.1.map V.int))
 nd:(ps.map (·.1)).Nodup
 iff_:∀x,x∈ps.map (·.1)↔x∈M
 len:ps.length<=M.length
theorem Sg.more{P:QD}{W:Jl}{H0 H H5:Hp}{p b:Addr}{M:List (List Int)}{ks:List Int}{ps:List (List Int×Addr)}(g:Sg P W H0 H p M ps)(s5:Same H H5)(eb:H5 b=some (.tup (ks.map V.int))):(ks∈ps.map (·.1)->Sg P W H0 (upd H5 p (.ext (Qgn P W p ps (ledOf W)))) p (M++[ks]) ps)/\(ks∉ps.map (·.1)->∀ps',ps'.Perm ((ks,b)::ps)->Sg P W H0 (upd H5 p (.ext (Qgn P W p ps' (ledOf W)))) p (M++[ks]) ps'):=by
 have np:∀(c:Addr)(xs:List V),H5 c=some (.tup xs)->c≠p:=λc xs e z=>by
  subst z;rw[s5 _ _ g.at_] at e;cases e
 refine⟨λhm=>{ at_:=JN,kp:=λc o nc ec=>by rw[JY nc];exact s5 _ _ (g.kp _ _ nc ec),mem:=λq hq=>?_,nd:=g.nd,iff_:=λx=>?_,len:=?_ },λhm ps' pp=>{ at_:=JN,kp:=λc o nc ec=>by rw[JY nc];exact s5 _ _ (g.kp _ _ nc ec),mem:=λq hq=>?_,nd:=?_,iff_:=λx=>?_,len:=?_ }⟩
 ·have e:=s5 _ _ (g.mem q hq);rw[JY (np _ _ e)];exact e
 ·rw[Jr,Jf,<- g.iff_];exact⟨.inl,λh=>h.elim id λe=>e ▸ hm⟩
 ·have:=g.len;rw[Qs];omega
 ·rcases Qr.mp (pp.mem_iff.mp hq) with z | z
  ·subst z;rw[JY (np _ _ eb)];exact eb
  ·have e:=s5 _ _ (g.mem q z);rw[JY (np _ _ e)];exact e
 ·exact((pp.map (·.1)).nodup_iff).mpr (ZO.mpr ⟨hm,g.nd⟩)
 ·rw[(pp.map (·.1)).mem_iff,Jh,Qr,Jr,Jf,<- g.iff_];exact⟨λh=>h.symm,λh=>h.symm⟩
 ·have:=g.len;rw[pp.length_eq,Qs,Qv];simp;omega
section
variable{P:QD}{w:Jl}{K:PySem.W.Frag}{mg:Str->Option Value}{base:Heap}
theorem Qno:(["order", "put"]:List Str).Nodup:=by decide +kernel
theorem Qnn:(["numbers"]:List Str).Nodup:=by decide +kernel
theorem Qgr:JZ ["stairs", "put", "found"] ["stairs"] (QJ QiT):=⟨rfl,rfl,rfl,by decide +kernel,rfl,by decide +kernel,by decide +kernel⟩
theorem Qro{f f1 f2 f3 f4  : Addr}{fd fd1 fd2 fd3 fd4:Jc}(F:Fun K "all_stairs" "all_stairs" QiT f fd)(T:GlbA mg)
  (m1:mg "heads" = some (.ref f1))(G1:FnOk P w K mg base CX0 5 f1 fd1 ["stairs"] (Dl.Zu true QfU))(b1:Binds K fd1 ["stairs"] [])(k1:PySem.W.keepIn K (.ref f1)=true)
  (m2:mg "numbers_by" = some (.ref f2))(G2:FnOk P w K mg base CX0 1 f2 fd2 ["put", "order"] (Dl.Zu false QzL))(b2:Binds K fd2 ["put", "order"] [])(k2:PySem.W.keepIn K (.ref f2)=true)
  (m3:mg "all_orders" = some (.ref f3))(G3:FnOk P w K mg base CX0 2 f3 fd3 ["many"] (Dl.Zu true QuP))(b3:Binds K fd3 ["many"] [])(k3:PySem.W.keepIn K (.ref f3)=true)
  (m4:mg "is_never_falling" = some (.ref f4))(G4:FnOk P w K mg base CX0 1 f4 fd4 ["things"] (Dl.Zu false QhR))(b4:Binds K fd4 ["things"] [])(k4:PySem.W.keepIn K (.ref f4)=true) :
  FnOk P w K mg base CX0 6 f fd ["stairs"] QsC:=by
 refine F.ok Qgr (λvs H Q E h=>?_) (λcdv A outer s H vs Q E hr h=>?_)
 ·obtain⟨a,ns,hs,rfl,_⟩:=h;rfl
 ·obtain⟨a,ns,hs,rfl,ha,hst,hp,hw,k⟩:=h;have un:=hr.units;have hU6:(A.deeper (envOfC "all_stairs" (QJ QiT) s.heap.objs.size f cdv)).units+60<cLine:=by omega
  refine⟨_,Qaj (Qdn (i:=1) Qgr.nd rfl (by first | exact Jn rfl | exact Jm rfl) (Qcd G1 (hr.mono (by decide)) (by rfl) m1 k1 b1 .nil Qre (QaC (pv 0) Yk)))
   (Qaj (QpK (i:=2) (M:=["order", "put"]) (cap:=[none,some 1]) (g:=(Qer 0)) (tc:=QiL) (te:=(Qmi (Dl.Zu false QzL) [] E0 (Qfr (QiK 1) (Qfr (QiK 0) Qwp)))) Qgr.nd rfl rfl hU6 rfl (by rfl) (Qi1 (Qcd G3 (hr.mono (by decide)) (by rfl) m3 k3 b3 .nil Qre (QaC (Qcu Qa8 (by rfl) T.len Qdu (QaC (pv 0) Yk)) Yk))) (λcl ex s3 H3 C=>⟨(QeX (i:=0) Qno rfl (Jn rfl) (Jm rfl)),QmP,(Qcd G2 (hr.mono (by decide)) (by rfl) m2 k2 b2 .nil Qre (QaC (pv 1) (QaC (pv 0) Yk)))⟩))
   (Qcc (Qdo (Qj4 (M:=["numbers"]) (cap:=[none]) (g:=(Qer 0)) (tc:=(QBD (QtI (tOp (rI0 λi j=>.bl (decide (j<=i))) (tOp (QAz K) (QiK 0) (tC (.int 0))) (tC (.int 0)))) (tB (Qmi (Dl.Zu false QhR) [] E0 (Qfr (QiK 0) Qwp))))) (te:=(QiK 0)) rfl (by rfl) (Qi1 (Qcu (QlF rfl hU6) (by rfl) T.sorted L2.boot_sorted (QaC (pv 2) Yk))) (λcl ex s3 H3 C=>⟨(QeX (i:=0) Qnn rfl (Jn rfl) (Jm rfl)),(QmO (PW.pt (QsK (Qgy Qx7 (QmT QsV (pv 0) YI (λ_ _=>rfl)) YI (Yv _)) (QmN (QsL (Qcd G4 (hr.mono (by decide)) (by rfl) m4 k4 b4 .nil Qre (QaC (pv 0) Yk))))))),(pv 0)⟩))))),?_⟩
  have l6:=hst.l6;have l1:=hst.l1;refine⟨_,rfl,QkL [tI ns] (λd=>d=.list (hs.map Qc)) (.cons (QyV ha) .nil) ⟨ns,rfl,hst,λms pm pw=>?_⟩ λd hd v H1 s1 da _=>?_⟩
  ·rw[Qpn (pm.trans hp.symm) pw hw]
  subst hd;obtain⟨p1,x1,rfl,e1,q1⟩:=daL da;rw[QbH q1] at e1;refine⟨_,rfl,a,_,rfl,.inr (SqT.of (s1 _ _ ha)),QkL [.int ns.length] (λd=>d=.list ((ordsN ns.length ns.length).map tNn)) (by rw[Qg];exact .cons (.int _) .nil) ⟨ns.length,rfl,l6,rfl⟩ λd hd v H2 s2 da2 _=>?_⟩;subst hd;obtain⟨p2,x2,rfl,e2,q2⟩:=daL da2;have lx:=q2.length;rw[Qg] at lx;have ln:hs.length=ns.length:=by rw[hp.length_eq];unfold hdL;rw[Qg,Qz]
  refine⟨p2,rfl,⟨_,SqL.of e2⟩,λp np=>?_⟩;have pp2:p2≠p:=Zl e2 np;have pp1:p1≠p:=Zl (s2 _ _ e1) np;have few:=QhM l6;refine Qd1 x2.length (λi H3=>∃ps,Sg P w H2 H3 p (((ordsN ns.length ns.length).take i).map (nbI hs)) ps) ⟨[],{ at_:=JN,kp:=λb o nb eb=>by rw[JY nb];exact eb,mem:=λq hq=>(nomatch hq),nd:=QwG,iff_:=λx=>by simp,len:=Qt _ }⟩ (λi H3 hi ⟨ps,g⟩=>?_) λH3 ⟨ps,g⟩=>⟨⟨x2,SqL.of (g.kp _ _ pp2 e2),Qj _⟩,?_⟩
  ·have e23:=g.kp _ _ pp2 e2;obtain⟨o,ho⟩:∃o,(ordsN ns.length ns.length)[i]? = some o:=⟨_,Qf (by omega)⟩
   obtain⟨x,hx,dx⟩:=Qn9 q2 i (tNn o) (by rw[Qq,ho];rfl);refine⟨⟨x2,x,SqL.of e23,hx⟩,λy H4 ⟨eH,ey⟩ kk hk=>?_⟩;subst eH;have ey:=ey x2 (SqL.of e23);rw[hx] at ey;cases ey;have om:=QK ho;have ol:=Qdp om;have dx3:DA (λ_=>False) H4 x (tNn o):=dx.mv (λb ob _ eb=>g.kp b ob (Zl eb np) eb) λb z=>z.elim
   have dp3:DA (λ_=>False) H4 (.ref p1) (.list (hs.map Qc)):=.lst (λz=>z) (g.kp _ _ pp1 (s2 _ _ e1)) (Qcx hs);have e:((ordsN ns.length ns.length).take (i+1)).map (nbI hs)=((ordsN ns.length ns.length).take i).map (nbI hs)++[nbI hs o]:=by rw[Zv,ho,JF];rfl
   refine⟨⟨rfl,trivial⟩,Qu8 ⟨_,rfl,_,rfl,QkL [.list (hs.map Qc),tNn o] (λd=>d=tI (nbI hs o)) (.cons dp3 (.cons dx3 .nil)) ⟨hs,o,rfl,by omega,λz hz=>by rw[ln];exact Qi3 om z hz,rfl⟩ λd hd v H5 s5 da5 _=>?_⟩⟩;subst hd;obtain⟨b,xb,rfl,eb,qb⟩:=daT da5;rw[QbH qb] at eb;have gl:=g.len;rw[Qg,Jo] at gl;obtain⟨ga,gb⟩:=g.more s5 eb;rw[<- e] at ga gb;exact⟨nbI hs o,b,ps,rfl,s5 _ _ g.at_,λq hq=>s5 _ _ (g.mem q hq),eb,by omega,λhm=>hk _ ⟨_,ga hm⟩,λhm ps' pp=>hk _ ⟨_,gb hm ps' pp⟩⟩
  ·have gl:=g.len;rw[Qg,Jo] at gl;refine⟨_,rfl,p,ps,rfl,by omega,g.at_,g.mem,λt ys es H4 s4 nt et dt pe pw _=>?_⟩;obtain⟨rw0,rfl,pr⟩:=QtG (L:=ps.map (·.1)) (es:=es) (by rw[QN];exact pe);have yl:ys.length=rw0.length:=by have:=dt.length;rwa [Qg] at this
   have rl:rw0.length=ps.length:=by rw[pr.length_eq,Qg]
   have memR:∀x,x∈rw0↔∃o∈ordsN ns.length ns.length,nbI hs o=x:=λx=>by rw[pr.mem_iff,g.iff_,lx,Zf,Qx]
   refine⟨t,rfl,⟨_,SqL.of et⟩,λpl npl=>?_⟩;refine QrX rw0.length (Qvl (by omega)) (λi=>if okR (rw0.getD i [])=true then some (Qh2 (rw0.getD i [])) else none) (λi _ d e=>?_) npl (λi H5 hi s5 _=>?_) (λH5 s5=>⟨ys,SqL.of (s5 _ _ et),by omega⟩) λH5 zs s5 ez dz=>?_
   ·split at e
    ·cases e;exact Qnd _
    ·cases e
   ·have hi':i<ys.length:=by omega
    refine⟨⟨ys,ys[i],SqL.of (s5 _ _ et),Qf hi'⟩,λz H6 ⟨eH,ev⟩ kn kv h1 h2=>?_⟩;subst eH;obtain⟨_,t',rfl,et'⟩:=QrD dt (ev ys (SqL.of (s5 _ _ et)));have et':=s5 _ _ et';obtain⟨c,cs,ec⟩:∃c cs,rw0.getD i []=c::cs:=by
     obtain⟨o,om,eo⟩:=(memR _).mp (QnQ (l:=rw0) (d:=[]) hi);have:=congrArg Qg9 eo;rw[Qi8,Qdp om] at this
     match rw0.getD i [],this with
     |[],h=>exact absurd (show ns.length=0 from h) (by omega)
     |c::cs,_=>exact⟨c,cs,rfl⟩
    have et2:=et';rw[ec] at et2;refine⟨trivial,_,rfl,t',_,0,.int c,rfl,rfl,SqT.of et2,Qam (j:=0) rfl,c,0,rfl,rfl,_,rfl,?_⟩;cases hc:decide (0<=c) with
    |false=>exact Qvt (h1 (if_neg (by rw[ec];show ¬(decide (0<=c)&&nfI (c::cs))=true;rw[hc];exact QC)) _ (Same.refl _))
    |true=>
     refine QrE ⟨_,rfl,QkL [tI (c::cs)] (λd=>d=.bool (nfI (c::cs))) (.cons (QyV et2) .nil) ⟨_,rfl,rfl⟩ λd hd v H7 s7 da7 _=>?_⟩;subst hd;cases da7;refine⟨_,rfl,?_⟩;cases hn:nfI (c::cs) with
     |false=>exact Qvt (h1 (if_neg (by rw[ec];show ¬(decide (0<=c)&&nfI (c::cs))=true;rw[hc,hn];decide)) _ s7)
     |true=>exact QrE ⟨_,rfl,h2 _ _ _ (if_pos (by rw[ec];show(decide (0<=c)&&nfI (c::cs))=true;rw[hc,hn];rfl)) s7 (QnD (s7 _ _ et'))⟩
   ·rw[QhD rw0 [] okR Qh2] at dz;have p24:∀(b:Addr)(o:HO),H b=some o->H4 b=some o:=λb o e=>s4 _ _ (g.kp _ _ (Zl (s2 _ _ (s1 _ _ e)) np) (s2 _ _ (s1 _ _ e)))
    have npl':H pl=none:=by
     cases e:H pl with
     |none=>rfl
     |some o=>have:=p24 _ _ e;rw[npl] at this;cases this
    refine k pl zs (rw0.filter okR) H5 (λb o e=>s5 _ _ (p24 _ _ e)) npl' ez dz (Yu _ (pr.nodup_iff.mpr g.nd)) (λx=>?_) (QAb (List.Sublist.map _ List.filter_sublist) pw);rw[JB,memR]
end
end Rk
namespace Rk
open L2 _root_.Rd
open Dl
open Rt
def QkM:DF:=λargs R _=>∃ns,args=[.v (tI ns)]/\ZZ ns/\∀rows,AllS ns rows->R (.list (rows.map tI))
def QA5:DF:=λargs R _=>∃x:List Int,args=[.v (tI x)]/\R (.bool (QiW x))
def QAw:DF:=λargs R _=>∃ns,args=[.v (tI ns)]/\ZZ ns/\∀x,QrF ns x->QiW x=true->R (tI x)
def QAt:DF:=λargs R _=>∃ns ms,args=[.v (tI ns),.v (tI ms)]/\ZZ ns/\ZZ ms/\ns.length=ms.length/\R (.bool (decide (srtS (hdL ns)=srtS (hdL ms))))
def QkD(w:Nat)(cs:List (Int×Int)):List Int:=(Qk w).map λ(c:Nat)=>(((cs.map (·.2)).count (c:Int):Nat):Int)
def Qw5(h w:Int)(cs:List (Int×Int)):Qa:=if(isStairs (tI (QkD w.toNat cs))&&QL (sBd (QkD w.toNat cs)) (bdD h w cs))=true then tI (QkD w.toNat cs) else .none
structure GdB (w:Int) (cs:List (Int×Int)):Prop where
 w0:0<=w
 w6:w<=6
 cl:cs.length<=100
 bd:∀p∈cs,0<=p.2/\p.2<w
def QAr:DF:=λargs R _=>∃(h w:Int)(cs:List (Int×Int)),args=[.v (bdD h w cs)]/\GdB w cs/\R (Qw5 h w cs)
theorem Qyn(h w:Int)(cs:List (Int×Int)):nd (bdD h w cs)=true:=by
 show(true&&(true&&(nds (cs.map pairD)&&true)))=true;rw[Qng];rfl
theorem QrU(h w:Int)(cs:List (Int×Int)):(bdD h w cs).depth<=50:=by
 show QX [.int h,.int w,.tuple (cs.map pairD)]+1<=50;have:=Yw (n:=2) (ds:=[.int h,.int w,.tuple (cs.map pairD)]) λd hd=>by
  rcases Qr.mp hd with z | z
  ·subst z;exact Qt _
  ·rcases Qr.mp z with z | z
   ·subst z;exact Qt _
   ·rw[Jf.mp z];exact Qjh cs
 omega
theorem Qkt:∀(ns ms:List Int),QL (.list (ns.map Qc)) (.list (ms.map Qc))=decide (ns=ms)
 |[],[]=>rfl
 |[],_::_=>rfl
 |_::_,[]=>rfl
 |n::ns,m::ms=>by
  show((n == m)&&QL (.list (ns.map Qc)) (.list (ms.map Qc)))=_;rw[Qkt ns ms,YN];simp
theorem Qkw(ns:List Int):(Yl (ns.map Qc)).depth<=50:=by
 show QX (ns.map Qc)+1<=50;have:=Yw (n:=0) (ds:=ns.map Qc) λd hd=>by obtain⟨p,_,rfl⟩:=Qx.mp hd;exact Qj _
 omega
theorem Qr1(ns:List Int)(c:Int):((ns.map Qc).countP λe=>QL e (.int c))=ns.count c:=by
 rw[Qhb];rfl
theorem Qr0(w:Nat)(cs:List (Int×Int)):(QkD w cs).length=w:=by unfold QkD;rw[Qg,Qz]
theorem QvV{w:Nat}{cs:List (Int×Int)}{c:Nat}(h:c<w):(QkD w cs)[c]? = some (((cs.map (·.2)).count (c:Int):Nat):Int):=by
 unfold QkD;rw[Qq,Ju h];rfl
theorem Qpz(i w:Nat)(f:Nat->Nat->Bool){c:Nat}(hc:c<w):((QiU i w f).map (·.2)).count (c:Int)=if f i c=true then 1 else 0:=by
 unfold QiU;rw[QN,List.count,Qhb];have e:((λx=>x == (c:Int))∘((λp:Int×Int=>p.2)∘λ(c:Nat)=>((i:Int),(c:Int))))=λx:Nat=>x == c:=by
  funext x
  show((x:Int) == (c:Int))=(x == c);rw[YN,beq_iff_eq,beq_iff_eq];omega
 rw[e];show List.count c _=_;by_cases z:f i c=true
 ·rw[List.count_filter z,if_pos z];rw[List.Nodup.count Qag,if_pos (QF.mpr hc)]
 ·rw[if_neg z];exact List.count_eq_zero.mpr λh=>z (JB.mp h).2
theorem QfZ(w:Nat)(f:Nat->Nat->Bool){c:Nat}(hc:c<w):∀h,((YS h w f).map (·.2)).count (c:Int)=(Qk h).countP λr=>f r c
 |0=>rfl
 |h+1=>by rw[QcV,JF,List.count_append,QfZ w f hc h,Qpz h w f hc,Qoj]
theorem QvU{ns:List Int}(hs:ZZ ns):QkD ns.length (stC ns)=ns:=by
 refine QcH (Qr0 _ _) λc h1 h2=>?_
 have a:=QvV (cs:=stC ns) h2;rw[Qf h1] at a;rw[Qu a];unfold stC;rw[QfZ _ _ h2];have e:ns.getD c 0=ns[c]:=by rw[Qh,Qf h2];rfl
 have m:ns[c]∈ns:=Yr h2;have:=Qs6 (ns.getD c 0) (by rw[e];exact(hs.bd _ m).1) (sH ns) (by
  rw[e];have:=Qne hs.nf _ m;unfold sH;omega)
 rw[<- e];exact this
theorem Qn0:∀cs:List (Int×Int),QL (.tuple (cs.map pairD)) (.tuple (cs.map pairD))=true
 |[]=>rfl
 |p::cs=>by
  show(((p.1 == p.1)&&((p.2 == p.2)&&true))&&QL (.tuple (cs.map pairD)) (.tuple (cs.map pairD)))=true;rw[Qn0 cs,beq_self_eq_true,beq_self_eq_true];rfl
theorem QyO(h w:Int)(cs:List (Int×Int)):QL (bdD h w cs) (bdD h w cs)=true:=by
 show((h == h)&&((w == w)&&(QL (.tuple (cs.map pairD)) (.tuple (cs.map pairD))&&true)))=true;rw[Qn0 cs,beq_self_eq_true,beq_self_eq_true];rfl
theorem Qw4{ns:List Int}(hs:ZZ ns):Qw5 (sH ns:Int) (ns.length:Int) (stC ns)=tI ns:=by
 unfold Qw5;rw[Q4,QvU hs,Qgj hs];rw[if_pos (by show(true&&QL (sBd ns) (sBd ns))=true;unfold sBd;rw[QyO];rfl)]
theorem QBg{ns:List Int}(hs:ZZ ns):GdB (ns.length:Int) (stC ns):=by
 have:=Qmp hs;have:=hs.l6;exact⟨by omega,by omega,by omega,λp hp=>(Qfe hp).2.2⟩
theorem QtO{h w:Int}{cs:List (Int×Int)}{R:Qa->Prop}(hR:R (Qw5 h w cs)):(isStairs (.tuple ((QkD w.toNat cs).map Qc))=false/\R .none)∨∃ns,ZZ ns/\QkD w.toNat cs=ns/\R (if QL (sBd ns) (bdD h w cs)=true then tI ns else .none):=by
 unfold Qw5 at hR;cases z:isStairs (tI (QkD w.toNat cs)) with
 |false=>rw[z] at hR;exact .inl ⟨z,hR⟩
 |true=>
  rw[z,Qcp] at hR;obtain⟨ns,e,hs⟩:=QjP z;have e2:(QkD w.toNat cs)=ns:=by
   have:=PyData.tuple.inj e;have:=congrArg (List.map toI) this
   rwa [Qgg,Qgg] at this
  rw[e2] at hR;exact .inr ⟨ns,hs,e2,hR⟩
theorem QvY{items:List Qa}{wg:DG}{we:DE}{δ:Sts}{Q:Qa->Prop}{L:List Qa}(G:Qa->Qa)(e:items.map G=L)
  (h:∀d∈items,∀(k2:Qa->Prop),k2 (G d)->wg d δ λδ4=>we δ4 k2 XF)(q:Q (.list L)):Qg4 items wg QvP we δ Q:=QbT G h (by rw[e];exact q)
theorem Qjg(p:List Int->Bool):∀rows:List (List Int),(rows.map tI).filterMap (λd=>if p (unT d)=true then some d else none)=(rows.filter p).map tI
 |[]=>rfl
 |x::r=>by
  rw[Jh,ZP,QeN,Qjg p r];cases h:p x with
  |true=>rw[Qav h];rfl
  |false=>rw[Qaw (by rw[h];exact QC)];rfl
theorem QjU{A:Addr->Prop}{H:Hp}(dm:∀a,A a->∃xs,H a=some (.lst xs)):∀(rows:List (List Int))(ys:List V),Dats H ys (rows.map tI)->DAs A H ys (rows.map tI)
 |[],_,.nil=>.nil
 |x::r,_,.cons q qs=>by
  refine .cons ?_ (QjU dm r _ qs)
  obtain⟨t,rfl,et⟩:=Qh5 (ns:=x) q;exact .tup (λz=>by obtain⟨xs,e'⟩:=dm _ z;rw[e'] at et;cases et) et (Qcx x)
theorem Qzk{vs:List V}{H:Hp}{Q:VK}{Ex:XK}(h:Zu true QkM vs H Q Ex):QsC vs H Q Ex:=by
 obtain⟨A,pt,args,R,EX,dm,hp,q,⟨ns,rfl,hs,hR⟩,k,_⟩:=h;cases q with
 |cons q1 q2=>
  cases q2;cases q1 with
  |@tup b xs ds nb e qq=>
   rw[QbH qq] at e;have ln:(srtS (hdL ns)).length=ns.length:=by rw[(Z6 _).length_eq,Qbg]
   refine⟨b,ns,srtS (hdL ns),rfl,e,hs,Z6 _,Qb8 _,λt ys rows H' s n e' dt nd im sr=>?_⟩;have al:AllS ns rows:=⟨nd,λx=>by
    rw[im x];have:=QsS (hs:=srtS (hdL ns)) (x:=x);rw[ln] at this;rw[this];exact⟨λz=>⟨z.1.trans (Z6 _),z.2⟩,λz=>⟨z.1.trans (Z6 _).symm,z.2⟩⟩,sr⟩
   have dm':∀a,A a->∃xs,H' a=some (.lst xs):=λa z=>by obtain⟨xs,e⟩:=dm a z;exact⟨xs,s _ _ e⟩
   refine k _ (hR rows al) _ H' ⟨λb o _ e=>s _ _ e,λp pp=>?_⟩ (.lst (λz=>by obtain⟨xs,e⟩:=dm _ z;rw[n] at e;cases e) e' (QjU dm' rows ys dt)) λ_=>Qbh n
   obtain⟨_,m,em⟩:=hp p pp;exact⟨m,s _ _ em⟩
def QpD:Qa->Bool
 |.tuple [.int a,.int b]=>decide (b=0)||decide (a<b)
 |_=>false
theorem Ql5:∀ns:List Int,(Qhe (ns.map Qc) (Dl.cutD (ns.map Qc) (some 1) none)).all QpD=QiW ns
 |[]=>by
  have h:(Qhe ([]:List Qa) (Dl.cutD [] (some 1) none))=[]:=by unfold Qhe;rfl
  rw[Qfo,h];rfl
 |[x]=>by rw[Jh,QrW];rfl
 |x::y::r=>by
  have ih:=Ql5 (y::r);rw[Jh,QrW] at ih ⊢;show(QpD (.tuple [.int x,.int y])&&(Qhe (Qc y::r.map Qc) (r.map Qc)).all QpD)=_;rw[ih];rfl
section
variable{P:QD}{w:Jl}{K:PySem.W.Frag}{mg:Str->Option Value}{base:Heap}
theorem Qnm:(["one", "other"]:List Str).Nodup:=by decide +kernel
theorem Qxd:JZ ["numbers"] ["numbers"] (QJ sIsR):=⟨rfl,rfl,rfl,by decide +kernel,rfl,by decide +kernel,by decide +kernel⟩
theorem Qyj{f   : Addr}{fd  : Jc}(F:Fun K "is_risen" "is_risen" sIsR f fd)(T:GlbA mg) :
  FnOk P w K mg base CX0 1 f fd ["numbers"] (Zu false QA5):=by
 refine okQ false F Qxd (λargs R EX h=>?_) (λcdv A outer s H E hr=>?_)
 ·obtain⟨x,rfl,_⟩:=h;rfl
 ·have hU:=Room.u60 hr;have hI:=Room.i60 hr;refine⟨_,JE (Qbf (Ym QgZ (Qos rfl) (by rfl) T.all Qoz (Qc6 (Js (Qbr ["one", "other"] [none,none] (QmJ (by rfl) T.zip (qp 0) (Js (Qcb (qp 0) (Qb9 (Zc ZD)) Qca))) (λcl ex s3 H3 C=>⟨(QbR rfl (ZA 0 (ZA 1 QbS Qnm rfl (Jn rfl) (Jm rfl)) Qnm rfl (Jn rfl) (Jm rfl))),Y2,(QBT (Js (Qlk QfN (Qlq hU) (qp 1) (Zc ZD) (Yv _))) (QmK (Z2 (Qlk QuR Qj9 (qp 0) (qp 1) (Yv _)))))⟩))) Zk))),λargs R EX h=>?_⟩;obtain⟨x,rfl,hR⟩:=h;refine QbT (λd=>.bool (QpD d)) (λd hd k2 hk=>?_) (Qjs (items:=Qhe (x.map Qc) (Dl.cutD (x.map Qc) (some 1) none)) rfl (by rw[Ql5];exact hR));obtain⟨i,hi⟩:=Q0.mp hd;obtain⟨a,b,ha,hb,rfl⟩:=Dl.zip_get hi;obtain⟨x,_,rfl⟩:=Qx.mp (QK ha);obtain⟨y,_,rfl⟩:=Qx.mp (QeF (QK hb));refine⟨rfl,?_⟩;have hk:k2 (.bool (decide (y=0)||decide (x<y))):=hk;show if decide (y=0)=true then k2 (.bool true) else k2 (.bool (decide (x<y)))
  cases z:decide (y=0) with
  |true=>rw[z] at hk;exact QrE hk
  |false=>rw[z] at hk;exact Qvt hk
theorem Qvc:(["numbers"]:List Str).Nodup:=by decide +kernel
theorem Qxa:JZ ["stairs"] ["stairs"] (QJ QfH):=⟨rfl,rfl,rfl,by decide +kernel,rfl,by decide +kernel,by decide +kernel⟩
theorem Qye{f f1 f2  : Addr}{fd fd1 fd2:Jc}(F:Fun K "risen" "risen" QfH f fd)(T:GlbA mg)
  (m1:mg "all_stairs" = some (.ref f1))(G1:FnOk P w K mg base CX0 6 f1 fd1 ["stairs"] (Zu true QkM))(b1:Binds K fd1 ["stairs"] [])(k1:PySem.W.keepIn K (.ref f1)=true)
  (m2:mg "is_risen" = some (.ref f2))(G2:FnOk P w K mg base CX0 1 f2 fd2 ["numbers"] (Zu false QA5))(b2:Binds K fd2 ["numbers"] [])(k2:PySem.W.keepIn K (.ref f2)=true) :
  FnOk P w K mg base CX0 7 f fd ["stairs"] (Zu false QAw):=by
 refine okQ false F Qxa (λargs R EX h=>?_) (λcdv A outer s H E hr=>?_)
 ·obtain⟨ns,rfl,_⟩:=h;rfl
 ·have hU:=Room.u60 hr;have hI:=Room.i60 hr;refine⟨_,JE (QaH (Qlj Qbs QdZ (Js (Qbr ["numbers"] [none] (QcR (Js (ZX G1 (hr.mono (by decide)) (by rfl) m1 k1 b1 ZE (Qae (qv 0) JU)))) (λcl ex s3 H3 C=>⟨(Yd 0 Qvc rfl (Jn rfl) (Jm rfl)),(QeT (QeU (Zc (Z7 G2 (hr.mono (by decide)) (by rfl) m2 k2 b2 ZE (Qae (qv 0) JU))))),(qv 0)⟩))) (Zc ZD) (λ_ _=>rfl))),λargs R EX h=>?_⟩;obtain⟨ns,rfl,hs,hR⟩:=h;refine⟨ns,rfl,hs,λrows ha=>?_⟩;obtain⟨x,ix,rx,ux⟩:=QmC hs;refine Qr2 (λd=>if QiW (unT d)=true then some d else none) (λd hd k1 k2 h1 h2=>?_) ?_
  ·obtain⟨y,_,rfl⟩:=Qx.mp hd;refine⟨y,rfl,?_⟩;rw[QeN] at h1 h2;show if QiW y=true then k2 (tI y) else k1
   cases r:QiW y with
   |true=>exact QrE (h2 _ (by rw[r];rfl))
   |false=>exact Qvt (h1 (by rw[r];rfl))
  ·rw[Qjg QiW,QvC ha.nd ((ha.iff_ x).mpr ix) rx λy hy ry=>ux y ((ha.iff_ y).mp hy) ry];exact⟨_,Qam (j:=0) rfl,hR x ix rx⟩
theorem Qw9:JZ ["one", "other"] ["one", "other"] (QJ QfG):=⟨rfl,rfl,rfl,by decide +kernel,rfl,by decide +kernel,by decide +kernel⟩
theorem Qyd{f f1 f2  : Addr}{fd fd1 fd2:Jc}(F:Fun K "same_counts" "same_counts" QfG f fd)(T:GlbA mg)
  (m1:mg "refuse_no_stairs" = some (.ref f1))(G1:FnOk P w K mg base CX0 4 f1 fd1 ["stairs"] (Zu false QiX))(b1:Binds K fd1 ["stairs"] [])(k1:PySem.W.keepIn K (.ref f1)=true)
  (m2:mg "heads" = some (.ref f2))(G2:FnOk P w K mg base CX0 5 f2 fd2 ["stairs"] (Zu true QfU))(b2:Binds K fd2 ["stairs"] [])(k2:PySem.W.keepIn K (.ref f2)=true) :
  FnOk P w K mg base CX0 6 f fd ["one", "other"] (Zu false QAt):=by
 refine okQ false F Qw9 (λargs R EX h=>?_) (λcdv A outer s H E hr=>?_)
 ·obtain⟨ns,ms,rfl,_⟩:=h;rfl
 ·have hU:=Room.u60 hr;have hI:=Room.i60 hr;refine⟨_,Jd (QdX (Zc (Z7 G1 (hr.mono (by decide)) (by rfl) m1 k1 b1 ZE (Qae (qv 0) JU))))
   (Jd (QdX (Zc (Z7 G1 (hr.mono (by decide)) (by rfl) m1 k1 b1 ZE (Qae (qv 1) JU))))
   (Jd (Qeq (Qay QcM (Qft hU) (Js (Ym Qbu Qf0 (by rfl) T.len Qdu (Qc6 (qp 0) Zk))) (Js (Ym Qbu Qf0 (by rfl) T.len Qdu (Qc6 (qp 1) Zk))) (Yv _)) QeV QaB)
   (JE (Qbf (Qlk QfN (Qlq hU) (Js (ZX G2 (hr.mono (by decide)) (by rfl) m2 k2 b2 ZE (Qae (qv 0) JU))) (Js (ZX G2 (hr.mono (by decide)) (by rfl) m2 k2 b2 ZE (Qae (qv 1) JU))) (Yv _)))))),λargs R EX h=>?_⟩
  obtain⟨ns,ms,rfl,hs,hm,el,hR⟩:=h;refine⟨ns,rfl,hs,⟨ms,rfl,hm,ifF ?_ ⟨ns,rfl,hs,λa pa wa=>⟨ms,rfl,hm,λb pb wb=>⟨⟨QbF _,QbF _,.inl (Qkw _)⟩,?_⟩⟩⟩⟩⟩
  ·show(!decide (((ns.map Qc).length:Int)=(ms.map Qc).length))=false;rw[Qg,Qg,decide_eq_true (by omega)];rfl
  ·rw[Qkt,QeR (pa.trans (Z6 _).symm) wa (Qb8 _),QeR (pb.trans (Z6 _).symm) wb (Qb8 _)];exact hR
theorem Qni:(["row", "column"]:List Str).Nodup:=by decide +kernel
theorem Qvb:(["column", "columns"]:List Str).Nodup:=by decide +kernel
theorem QmA:JZ ["board", "columns", "told"] ["board"] (QJ sSOf):=⟨rfl,rfl,rfl,by decide +kernel,rfl,by decide +kernel,by decide +kernel⟩
theorem Qyc{f f1 f2  : Addr}{fd fd1 fd2:Jc}(F:Fun K "stairs_of" "stairs_of" sSOf f fd)(T:GlbA mg)
  (m1:mg "is_stairs" = some (.ref f1))(G1:FnOk P w K mg base CX0 3 f1 fd1 ["thing"] (Zu false QeQ))(b1:Binds K fd1 ["thing"] [])(k1:PySem.W.keepIn K (.ref f1)=true)
  (m2:mg "stair_board" = some (.ref f2))(G2:FnOk P w K mg base CX0 5 f2 fd2 ["stairs"] (Zu false QzE))(b2:Binds K fd2 ["stairs"] [])(k2:PySem.W.keepIn K (.ref f2)=true) :
  FnOk P w K mg base CX0 6 f fd ["board"] (Zu false QAr):=by
 refine okQ false F QmA (λargs R EX h=>?_) (λcdv A outer s H E hr=>?_)
 ·obtain⟨h,w,cs,rfl,_⟩:=h;rfl
 ·have hU:=Room.u60 hr;have hI:=Room.i60 hr;refine⟨_,Jd (Qah 1 (Z2 (Qbr ["row", "column"] [none,none] (QjY (Zc (Qlj Qbs QdZ (qp 0) (Zc ZD) (λ_ _=>rfl)))) (λcl ex s3 H3 C=>⟨(QbR rfl (ZA 0 (ZA 1 QbS Qni rfl (Jn rfl) (Jm rfl)) Qni rfl (Jn rfl) (Jm rfl))),Y2,(qv 1)⟩))) QmA.nd)
   (Jd (Qah 2 (Z2 (Qdl Qbi QgU (by rfl) T.tuple QeH (Qc6 (Js (Qbr ["column", "columns"] [none,some 1] (QbD (by rfl) T.range (Zc (Qlj Qbs QdZ (qp 0) (Zc ZD) (λ_ _=>rfl)))) (λcl ex s3 H3 C=>⟨(Yd 0 Qvb rfl (Jn rfl) (Jm rfl)),Y2,(Z2 (QAF hI (qp 1) (qp 0)))⟩))) Zk))) QmA.nd)
   (Jd (Qeq (Qws (Qxs (QeU (Zc (Z7 G1 (hr.mono (by decide)) (by rfl) m1 k1 b1 ZE (Qae (qv 2) JU)))) (Qt3 (Qay QfN (Qlq hU) (Zc (Z7 G2 (hr.mono (by decide)) (by rfl) m2 k2 b2 ZE (Qae (qv 2) JU))) (qp 0) (Yv _))))) (JE (QaH (qv 2))) QaB)
   (JE (QaH QAE)))),λargs R EX h=>?_⟩
  obtain⟨h,w,cs,rfl,g,hR⟩:=h;have hw0:=g.w0;have hw6:=g.w6;refine⟨_,Qam (j:=2) rfl,QbT (λd=>.int (toP d).2) (λd hd k2 hk=>?_) ?_⟩
  ·obtain⟨q,_,rfl⟩:=Qx.mp hd;exact⟨rfl,hk⟩
  have e2:(cs.map pairD).map (λd=>Qc (toP d).2)=(cs.map (·.2)).map Qc:=by rw[QN,QN];rfl
  rw[e2];refine⟨_,Qam (j:=1) rfl,⟨by omega,by omega⟩,QbT (λd=>.int (((cs.map (·.2)).map Qc).countP λe=>QL e d:Nat)) (λd hd k2 hk=>?_) ?_⟩
  ·obtain⟨c,hc⟩:=Q0.mp hd;obtain⟨hc2,rfl⟩:=QdU hc;exact⟨⟨QbF _,rfl,Qt _⟩,hk⟩
  have e3:(Qit 0 w.toNat).map (λd=>Qc (((cs.map (·.2)).map Qc).countP λe=>QL e d:Nat))=(QkD w.toNat cs).map Qc:=by
   unfold Qit QkD;generalize cs.map (λp=>p.2)=js;rw[QN,QN];refine Q8 λc _=>?_
   show Qc ((js.map Qc).countP λe=>QL e (.int (0+(c:Int))):Nat)=_;rw[show(0:Int)+(c:Int)=(c:Int) by omega,Qr1];rfl
  rw[e3];refine⟨_,rfl,?_⟩;rcases QtO hR with⟨z,hR⟩ | ⟨ns,hs,ens,hR⟩
  ·rw[z];exact hR
  ·rw[ens,show isStairs (.tuple (ns.map Qc))=true from Qgj hs];refine⟨ns,rfl,hs,⟨Qyn _ _ _,Qyn _ _ _,.inl (QrU _ _ _)⟩,?_⟩;show if QL (sBd ns) (bdD h w cs)=true then R (tI ns) else R .none
   cases z:QL (sBd ns) (bdD h w cs) with
   |false=>rw[z] at hR;exact hR
   |true=>rw[z] at hR;exact hR
theorem QtU:JZ ["board"] ["board"] (QJ Qle):=⟨rfl,rfl,rfl,by decide +kernel,rfl,by decide +kernel,by decide +kernel⟩
theorem QuY{f   : Addr}{fd  : Jc}(F:Fun K "most_size" "most_size" Qle f fd)(T:GlbA mg) :
  FnOk P w K mg base CX0 1 f fd ["board"] (Zu false Qvf):=by
 refine okQ false F QtU (λargs R EX h=>?_) (λcdv A outer s H E hr=>?_)
 ·obtain⟨h,w,cs,rfl,_⟩:=h;rfl
 ·have hU:=Room.u60 hr;have hI:=Room.i60 hr;refine⟨_,JE (Qbf (Ym (Qfh rfl) QkJ (by rfl) T.min Qoy (Qc6 (Zc (Qlj Qbs QdZ (qp 0) (Zc ZD) (λ_ _=>rfl))) (Qc6 (Zc (Qlj Qbs QdZ (qp 0) (Zc ZD) (λ_ _=>rfl))) Zk)))),λargs R EX h=>?_⟩;obtain⟨h,w,cs,rfl,hR⟩:=h;exact⟨_,Qam (j:=0) rfl,_,Qam (j:=1) rfl,Qe2 (by split<;>omega) hR⟩
theorem QdP:JZ ["below", "columns", "taken", "ways", "column", "bit", "size", "many"] ["below", "columns", "taken"] (QJ sRow):=⟨rfl,rfl,rfl,by decide +kernel,rfl,by decide +kernel,by decide +kernel⟩
theorem QuU{f   : Addr}{fd  : Jc}(F:Fun K "ways_with_row" "ways_with_row" sRow f fd)(T:GlbA mg) :
  FnOk P w K mg base CX0 1 f fd ["below", "columns", "taken"] (Zu true Qtz):=by
 refine okQ true F QdP (λargs R EX h=>?_) (λcdv A outer s H E hr=>?_)
 ·obtain⟨h,w,B,cols,t,rfl,_⟩:=h;rfl
 ·have hU:=Room.u60 hr;have hI:=Room.i60 hr;refine⟨_,Jd (QeW 3 (Qdl QgY Qv2 (by rfl) T.list Qv6 (Qc6 (Zc (Qlj Qbs QdZ (qp 0) (qp 2) (λ_ _=>rfl))) Zk)) QdP.nd)
   (Jd (QcL Zj rfl (QcR (qv 1)) (Yd 4 QdP.nd rfl (by first | exact Jn rfl | exact Jm rfl))
    (Jd (Qah 5 (Z2 (Qai Qm2 Qrp (Zc ZD) (qp 4))) QdP.nd)
   (JE (Qeq (QfK (Qxt (Js (Qai Qyb QfP (qp 2) (qp 5))))) (JE (QcL Zj rfl (Qgx (by rfl) T.enumerate (Z2 (Qcb (Zc (Qlj Qbs QdZ (qp 0) (Js (Qai QAV QfP (qp 2) (qp 5))) (λ_ _=>rfl))) Qca (Qb9 (Js (Qt8 (Zc ZD))))))) (QbR rfl (ZA 6 (ZA 7 QbS QdP.nd rfl (by first | exact Jn rfl | exact Jm rfl)) QdP.nd rfl (by first | exact Jn rfl | exact Jm rfl)))
    (JE (Qt5 3 QyE Qu5 (Js (Qai Qak Qa5 (qp 6) (Zc ZD))) (qp 7))))) QaB))))
   (JE (Qgv 3))),λargs R EX h=>?_⟩
  obtain⟨h,w,B,cols,t,rfl,ht,hc,h6,w6,hR⟩:=h;refine⟨_,Qam (QiJ ht),?_⟩;refine Qbt (λj δ=>∃ds x4 x5 x6 x7,δ=[.v (.list (Qk7 h w B)),.v (.list (Qcg cols)),.v (.int t),.own ds,x4,x5,x6,x7]/\ds=Qez h (stepB B (cols.take j) t)) ⟨_,_,_,_,_,rfl,Qbq λk _=>?_⟩ ?_ ?_
  ·show B t k=B t k+if k=0 then 0 else 0
   split<;>omega
  ·rintro j d δ hd ⟨ds,x4,x5,x6,x7,rfl,rfl⟩;unfold Qcg at hd;rw[Qq] at hd;obtain⟨c,ec,rfl⟩:∃c:Nat,cols[j]? = some c/\d=.int (c:Int):=by
    cases e:cols[j]? with
    |none=>rw[e] at hd;cases hd
    |some p=>rw[e] at hd;cases hd;exact⟨p,rfl,rfl⟩
   have hcw:=hc c (QK ec);have et:cols.take (j+1)=cols.take j++[c]:=by rw[Zv,ec];rfl
   refine⟨⟨by omega,by omega,by decide⟩,trivial,?_⟩;show if(!tru (.int (Qc4 (t:Int) (1*2^((c:Nat):Int).toNat))))=true then _ else _
   rw[Qwb ht hcw w6];cases hb:t.testBit c with
   |true=>
    have np:(2:Int)^c≠0:=by
     have:(0:Int)<2^c:=Int.pow_pos (by decide);omega
    rw[if_pos rfl];refine ifF ?_ ⟨_,_,_,_,_,rfl,Qbq λk _=>?_⟩
    ·show(!((2:Int)^c != 0))=false;simp[np]
    ·unfold stepB;rw[et,QeP,if_pos hb,QaQ]
   |false=>
    refine ifT rfl ?_
    have olt:=QAU ht hcw;refine⟨.list (Qez h (B (t ||| 2^c))),?_,?_⟩
    ·show atI (Qk7 h w B) (QdL (t:Int) (1*2^((c:Nat):Int).toNat))=_;rw[Qx3 ht hcw w6];exact Qam (QiJ olt)
    ·show Qwe (QbZ (Dl.cutD (Qez h (B (t ||| 2^c))) none (some (-1)))) _ _ _ _;rw[QpC];refine Qbt (λi δ=>∃ds x6 x7,δ=[.v (.list (Qk7 h w B)),.v (.list (Qcg cols)),.v (.int t),.own ds,.v (.int c),.v (.int (1*2^((c:Nat):Int).toNat)),x6,x7]/\ds=Qez h (λk=>stepB B (cols.take j) t k+if 1<=k/\k<=i then B (t ||| 2^c) (k - 1) else 0)) ⟨_,_,_,rfl,Qbq λk _=>?_⟩ ?_ ?_
     ·rw[if_neg (by omega),QaQ]
     ·rintro i d δ hd ⟨ds,x6,x7,rfl,rfl⟩;obtain⟨e,he,rfl⟩:=Qa6 hd;rw[Qq] at he;have hi:i<h:=by
       by_cases z:i<h
       ·exact z
       ·rw[Q1 (by rw[Qz];omega)] at he;cases he
      rw[Ju hi] at he;cases he;refine⟨rfl,i+1,_,?_,QdT (by omega),_,_,_,rfl,?_⟩
      ·rw[Qct];exact Qvs (k:=i+1) (by omega)
      ·rw[QpA (by omega)];refine Qbq λk hk=>?_
       show(if k=i+1 then(stepB B (cols.take j) t (i+1)+if 1<=i+1/\i+1<=i then B (t ||| 2^c) (i+1 - 1) else 0)+B (t ||| 2^c) i else stepB B (cols.take j) t k+if 1<=k/\k<=i then B (t ||| 2^c) (k - 1) else 0)=stepB B (cols.take j) t k+if 1<=k/\k<=i+1 then B (t ||| 2^c) (k - 1) else 0
       by_cases z:k=i+1
       ·subst z;rw[if_pos rfl,if_neg (by omega),if_pos (by omega),QbN,QaQ]
       ·rw[if_neg z];by_cases z2:1<=k/\k<=i
        ·rw[if_pos z2,if_pos (by omega)]
        ·rw[if_neg z2,if_neg (by omega)]
     ·rintro δ ⟨ds,x6,x7,rfl,rfl⟩;rw[Qcz,Qg,Qz];refine⟨_,_,_,_,_,rfl,Qbq λk hk=>?_⟩;unfold stepB;rw[et];by_cases z:k=0
      ·subst z;rw[if_pos rfl,if_neg (by omega),if_pos rfl];omega
      ·rw[if_neg z,if_neg z,if_pos (by omega),QeP,if_neg (by rw[hb];decide)];omega
  ·rintro δ ⟨ds,x4,x5,x6,x7,rfl,rfl⟩;unfold Qcg;rw[Qg,Zf];exact hR
theorem Qrv:(["taken", "high"]:List Str).Nodup:=by decide +kernel
theorem Qkd:(["at", "column", "row"]:List Str).Nodup:=by decide +kernel
theorem Qru:(["taken", "columns", "table"]:List Str).Nodup:=by decide +kernel
theorem QcQ:JZ ["board", "high", "wide", "cells", "table", "row", "columns"] ["board"] (QJ Qlb):=⟨rfl,rfl,rfl,by decide +kernel,rfl,by decide +kernel,by decide +kernel⟩
theorem QuV{f f1  : Addr}{fd fd1:Jc}(F:Fun K "ways_to_go_on" "ways_to_go_on" Qlb f fd)(T:GlbA mg)
  (m1:mg "ways_with_row" = some (.ref f1))(G1:FnOk P w K mg base CX0 1 f1 fd1 ["below", "columns", "taken"] (Zu true Qtz))(b1:Binds K fd1 ["below", "columns", "taken"] [])(k1:PySem.W.keepIn K (.ref f1)=true) :
  FnOk P w K mg base CX0 2 f fd ["board"] (Zu true QtC):=by
 refine okQ true F QcQ (λargs R EX h=>?_) (λcdv A outer s H E hr=>?_)
 ·obtain⟨h,w,cs,rfl,_⟩:=h;rfl
 ·have hU:=Room.u60 hr;have hI:=Room.i60 hr;refine⟨_,Jd (Qxx (qv 0) (QbR rfl (ZA 1 (ZA 2 (ZA 3 QbS QcQ.nd rfl (by first | exact Jn rfl | exact Jm rfl)) QcQ.nd rfl (by first | exact Jn rfl | exact Jm rfl)) QcQ.nd rfl (by first | exact Jn rfl | exact Jm rfl))))
   (Jd (QeW 4 (QhG (Qhf (Z2 (Qbr ["taken", "high"] [none,some 1] (QbD (by rfl) T.range (Js (Qai Qm2 Qrp (Zc ZD) (qp 2)))) (λcl ex s3 H3 C=>⟨(Yd 0 Qrv rfl (Jn rfl) (Jm rfl)),Y2,(Z2 (Qai Qak Qa5 (Js (QhG (Qhf ZD Zk))) (Js (Qai QeZ QhO (Js (QhG (Qhf ZD Zk))) (qp 1)))))⟩))) Zk)) QcQ.nd)
   (Jd (QcL Zj rfl (Qt7 (by rfl) T.reversed (by rfl) T.range (qp 1)) (Yd 5 QcQ.nd rfl (by first | exact Jn rfl | exact Jm rfl))
    (Jd (Qah 6 (Z2 (Qbr ["at", "column", "row"] [none,none,some 5] (QjY (qp 3)) (λcl ex s3 H3 C=>⟨(QbR rfl (ZA 0 (ZA 1 QbS Qkd rfl (Jn rfl) (Jm rfl)) Qkd rfl (Jn rfl) (Jm rfl))),(QeT (Qay QfN (Qlq hU) (qp 0) (qp 2) (Yv _))),(qv 1)⟩))) QcQ.nd)
   (JE (Qxv 4 ZD (Z2 (Qbr ["taken", "columns", "table"] [none,some 6,some 4] (QbD (by rfl) T.range (Js (Qai Qm2 Qrp (Zc ZD) (qp 2)))) (λcl ex s3 H3 C=>⟨(Yd 0 Qru rfl (Jn rfl) (Jm rfl)),Y2,(Z2 (ZX G1 (hr.mono (by decide)) (by rfl) m1 k1 b1 ZE (Qae (Qlj Qbs QdZ (qp 2) (Zc ZD) (λ_ _=>rfl)) (Qae (qv 1) (Qae (qv 0) JU)))))⟩)))))))
   (JE (Qgv 4)))),λargs R EX h=>?_⟩
  obtain⟨h,w,cs,rfl,h6,w6,hb,hR⟩:=h;refine⟨rfl,⟨by omega,by omega,by decide⟩,?_,QbT (λ_=>.list (Qc 1::QP h (.int 0))) (λd hd k2 hk=>?_) ?_⟩
  ·exact QsO w6
  ·refine⟨⟨by omega,by omega,by rw[Q4];show 1*h<=_;omega⟩,?_⟩;rw[Q4,QtZ];refine⟨by rw[QaL];show 1+h<=_;omega,hk⟩
  ·have e0:(Qit 0 (1*2^((w:Nat):Int).toNat:Int).toNat).map (λ_=>Yl (Qc 1::QP h (.int 0)))=Qk7 h w (Wc cs h 0):=by
    rw[Qgz,Q4];unfold Qit Qk7;rw[QN];refine Q8 λt _=>?_
    show Yl _=Yl _;rw[QpB]
   rw[e0];refine⟨⟨by omega,by omega⟩,Qbt (λi δ=>∃ds x5 x6,δ=[.v (bdD h w cs),.v (.int h),.v (.int w),.v (.tuple (cs.map pairD)),.own ds,x5,x6]/\ds=Qsy cs h w i) ⟨_,_,_,rfl,rfl⟩ ?_ ?_⟩
   ·rintro i d δ hd ⟨ds,x5,x6,rfl,rfl⟩;obtain⟨hi,rfl⟩:=QjW hd;rw[Q4] at hi;have er:((((h:Nat):Int).toNat:Nat):Int) - 1 - (i:Int)=((h - 1 - i:Nat):Int):=by omega
    rw[er];refine Qr2 (λd=>if(toP d).1=((h - 1 - i:Nat):Int) then some (.int (toP d).2) else none) (λd hd k1 k2 h1 h2=>?_) ?_
    ·obtain⟨p,_,rfl⟩:=Qx.mp hd;have h1:(if p.1=((h - 1 - i:Nat):Int) then some (Qc p.2) else none)=none->k1:=h1;have h2:∀e,(if p.1=((h - 1 - i:Nat):Int) then some (Qc p.2) else none)=some e->k2 e:=h2
     refine⟨rfl,?_⟩;show if decide (p.1=((h - 1 - i:Nat):Int))=true then k2 (.int p.2) else k1
     by_cases z:p.1=((h - 1 - i:Nat):Int)
     ·rw[if_pos (decide_eq_true z)];exact h2 _ (if_pos z)
     ·rw[if_neg (by simpa using z)];exact h1 (if_neg z)
    ·rw[Qy8 cs (h - 1 - i) λp hp=>(hb p hp).1];refine⟨⟨by omega,by omega,by decide⟩,?_,QbT (λd=>match d with | .int t=>.list (Qez h (Wc cs h (i+1) t.toNat)) | _=>.none) (λd hd k2 hk=>?_) ?_⟩
     ·exact QsO w6
     ·obtain⟨t,ht⟩:=Q0.mp hd;obtain⟨htl,rfl⟩:=QdU ht;rw[Qgz,Q4] at htl;have hk:k2 (.list (Qez h (Wc cs h (i+1) (0+(t:Int)).toNat))):=hk;rw[show(0+(t:Int)).toNat=t by omega] at hk;refine⟨_,Qam (j:=0) (Qmg cs h w i),h,w,Wc cs h i,QrZ cs (h - 1 - i),t,by rw[show(0:Int)+(t:Int)=(t:Int) by omega],htl,λc hc=>QvT hb hc,h6,w6,hk⟩
     ·refine⟨by rw[QjK];omega,_,_,_,rfl,?_⟩;show Yl _::Qsy cs h w i=Yl (Qk7 h w (Wc cs h (i+1)))::Qsy cs h w i
      congr 2
      rw[Qgz,Q4];unfold Qit Qk7;rw[QN];refine Q8 λt _=>?_
      show Yl (Qez h (Wc cs h (i+1) (0+(t:Int)).toNat))=_;rw[show(0+(t:Int)).toNat=t by omega]
   ·rintro δ ⟨ds,x5,x6,rfl,rfl⟩;rw[Qgt,Q4];exact hR
theorem Qxe:JZ ["board"] ["board"] (QJ sCnt):=⟨rfl,rfl,rfl,by decide +kernel,rfl,by decide +kernel,by decide +kernel⟩
theorem Qyk{f f1 f2  : Addr}{fd fd1 fd2:Jc}(F:Fun K "counts" "counts" sCnt f fd)(T:GlbA mg)
  (m1:mg "ways_to_go_on" = some (.ref f1))(G1:FnOk P w K mg base CX0 2 f1 fd1 ["board"] (Zu true QtC))(b1:Binds K fd1 ["board"] [])(k1:PySem.W.keepIn K (.ref f1)=true)
  (m2:mg "most_size" = some (.ref f2))(G2:FnOk P w K mg base CX0 1 f2 fd2 ["board"] (Zu false Qvf))(b2:Binds K fd2 ["board"] [])(k2:PySem.W.keepIn K (.ref f2)=true) :
  FnOk P w K mg base CX0 3 f fd ["board"] (Zu true Qjj):=by
 refine okQ true F Qxe (λargs R EX h=>?_) (λcdv A outer s H E hr=>?_)
 ·obtain⟨h,w,cs,rfl,_⟩:=h;rfl
 ·have hU:=Room.u60 hr;have hI:=Room.i60 hr;refine⟨_,JE (Qbf (Qcb (Zc (Qlj Qbs QdZ (Zc (Qlj Qbs QdZ (Js (ZX G1 (hr.mono (by decide)) (by rfl) m1 k1 b1 ZE (Qae (qv 0) JU))) (Zc ZD) (λ_ _=>rfl))) (Zc ZD) (λ_ _=>rfl))) Qca (Qb9 (Js (Qai Qak Qa5 (Zc (Z7 G2 (hr.mono (by decide)) (by rfl) m2 k2 b2 ZE (Qae (qv 0) JU))) (Zc ZD)))))),λargs R EX h=>?_⟩;obtain⟨h,w,cs,rfl,h6,w6,hb,hR⟩:=h;refine⟨_,_,_,rfl,h6,w6,hb,_,Qam (j:=0) (Qmg cs h w h),_,Qam (j:=0) (QiJ (Nat.two_pow_pos w)),_,_,_,rfl,?_⟩;have e:Dl.cutD (Qez h (Wc cs h h 0)) none (some (((min h w:Nat):Int)+1))=Qwv cs h w:=by
   rw[QkA _ _ (by omega)];unfold Qez Qwv;rw[<- Qjz,Qwl,show min (((min h w:Nat):Int)+1).toNat (h+1)=min h w+1 by omega]
  have hR:R (.list (Qwv cs h w)):=hR;rw[<- e] at hR;exact hR
end
theorem Qmm{α:Type}[DecidableEq α]:∀{L ns:List α},L.Nodup->(∀x∈L,x∈ns)->L.length<=ns.length
 |[],_,_,_=>Qt _
 |x::L,ns,nd,h=>by
  obtain⟨n1,n2⟩:=ZO.mp nd;have hx:=h x (.head _);have:=Qmm (ns:=ns.erase x) n2 λy hy=>(Ql2 λ(e:y=x)=>n1 (by rw[<- e];exact hy)).mpr (h y (.tail _ hy))
  rw[QiA hx] at this;have:=QkZ hx;rw[Qv];omega
theorem AllS.len{ns:List Int}{rows:List (List Int)}(h:AllS ns rows)(hs:ZZ ns):rows.length<=720:=by
 have few:=QhM hs.l6;have:=Qmm (ns:=(ordsN ns.length ns.length).map (nbI (hdL ns))) h.nd λx hx=>by
  have e:=QsS (hs:=hdL ns) (x:=x);rw[Qbg] at e;exact Qx.mpr (e.mpr ((h.iff_ x).mp hx).1)
 rw[Qg] at this;omega
theorem Qzc{items:List Qa}{wg:DG}{wt:DT}{we:DE}{δ:Sts}{Q:Qa->Prop}{L:List Qa}(G:Qa->Option Qa)(e:items.filterMap G=L)
  (h:∀d∈items,∀(k1:Prop)(k2:Qa->Prop),(G d=none->k1)->(∀e,G d=some e->k2 e)->wg d δ λδ4=>wt δ4 (λb=>if b=true then we δ4 k2 XF else k1) XF)(q:Q (.list L)) :
  Qg4 items wg wt we δ Q:=Qr2 G h (by rw[e];exact q)
theorem Qnj:∀rows:List (List Int),nd (.list (rows.map tI))=true
 |[]=>rfl
 |x::r=>by
  show(nds (x.map Qc)&&nds (r.map tI))=true;rw[QbF,Qcp];exact Qnj r
theorem Qkv(ns:List Int):(tI ns).depth<=50:=by
 show QX (ns.map Qc)+1<=50;have:=Yw (n:=0) (ds:=ns.map Qc) λd hd=>by obtain⟨p,_,rfl⟩:=Qx.mp hd;exact Qj _
 omega
theorem QyR(rows:List (List Int)):(Yl (rows.map tI)).depth<=50:=by
 show QX (rows.map tI)+1<=50;have:=Yw (n:=1) (ds:=rows.map tI) λd hd=>by
  obtain⟨p,_,rfl⟩:=Qx.mp hd;show QX (p.map Qc)+1<=1;have:=Yw (n:=0) (ds:=p.map Qc) λd hd=>by obtain⟨p,_,rfl⟩:=Qx.mp hd;exact Qj _
  omega
 omega
theorem Qh3:∀ns:List Int,QL (tI ns) (tI ns)=true
 |[]=>rfl
 |n::ns=>by
  show((n == n)&&QL (tI ns) (tI ns))=true;rw[Qh3 ns,beq_self_eq_true];rfl
theorem Qks:∀rows:List (List Int),QL (.list (rows.map tI)) (.list (rows.map tI))=true
 |[]=>rfl
 |x::r=>by
  show(QL (tI x) (tI x)&&QL (.list (r.map tI)) (.list (r.map tI)))=true;rw[Qh3 x,Qks r];rfl
theorem any_rows{rows:List (List Int)}{x:List Int}(h:x∈rows):((rows.map tI).any λe=>QL e (tI x))=true:=Qtu.mpr ⟨tI x,List.mem_map_of_mem h,Qh3 x⟩
theorem Qkz{mine told:List Int}{k:Nat}(h:mine++QP k 0=told):Dl.cutD (told.map Qc) none (some ((mine.map Qc).length:Int))=mine.map Qc:=by
 rw[QkA _ _ (by omega),Q4,<- h,JF,List.take_left'];rfl
theorem Qof{mine told:List Int}{k:Nat}(h:mine++QP k 0=told):Dl.cutD (told.map Qc) (some ((mine.map Qc).length:Int)) none=(QP k 0).map Qc:=by
 rw[Qog,<- h,JF,List.drop_left'];rfl
theorem QjL:∀k:Nat,(QP k (0:Int)).sum=0
 |0=>rfl
 |k+1=>by rw[Zh,List.sum_cons,QjL k];rfl
theorem Qzd:∀n:Fin 7,((Qwq n.val 0).all λns=>n.val == 0||decide (hcI ns=hcI (candI (srtS (hdL ns)))))=true:=by decide +kernel
theorem QnL{ns:List Int}(hs:ZZ ns):hcI ns=hcI (candI (srtS (hdL ns))):=by
 have l1:=hs.l1;have l6:=hs.l6;have hm:ns∈Qwq ns.length 0:=QnF ns 0 hs.bd (by
  match ns,hs with
  |[],h=>exact absurd h.l1 (by decide)
  |a::r,h=>
   show(decide ((0:Int)<=a)&&nfI (a::r))=true;rw[decide_eq_true (h.bd a (.head _)).1,h.nf];rfl)
 have c1:=Zg.mp (Qzd ⟨ns.length,by omega⟩) ns hm;rcases Qbm.mp c1 with z | c1
 ·have:=eq_of_beq z;simp at this;rw[this] at l1;cases l1
 exact of_decide_eq_true c1
theorem Qvz{u ns:List Int}(su:ZZ u)(hs:ZZ ns)(e:srtS (hdL u)=srtS (hdL ns)):hcI u=hcI ns:=by
 rw[QnL su,QnL hs,e]
theorem AllS.of{ns u:List Int}{rows:List (List Int)}(h:AllS u rows)(iu:QrF ns u):AllS ns rows:=
 ⟨h.nd,λx=>(h.iff_ x).trans ⟨λz=>⟨z.1.trans iu.1,z.2⟩,λz=>⟨z.1.trans iu.1.symm,z.2⟩⟩,h.srt⟩
section
variable{P:QD}{w:Jl}{K:PySem.W.Frag}{mg:Str->Option Value}{base:Heap}
theorem Qnl:(["_law_size", "_law_many", "_law_columns", "_law_number"]:List Str).Nodup:=by decide +kernel
theorem Qve:(["_law_one"]:List Str).Nodup:=by decide +kernel
theorem QbQ:JZ ["_law_script", "_law_at", "_law_pot_here", "_law_columns", "_law_stairs_here", "_law_told", "_law_mine", "_law_number", "_law_some", "_law_every", "_law_tall", "_law_few", "_law_other"] ["_law_script"] (QJ sLaw):=⟨rfl,rfl,rfl,by decide +kernel,rfl,by decide +kernel,by decide +kernel⟩
theorem Qyi{f f1 f2 f3 f4 f5 f6 f7 f8 f9 f10 f11 f12 f13 f14 f15  : Addr}{fd fd1 fd2 fd3 fd4 fd5 fd6 fd7 fd8 fd9 fd10 fd11 fd12 fd13 fd14 fd15:Jc}(F:Fun K "law" "law" sLaw f fd)(T:GlbA mg)
  (m1:mg "_law_cell_at" = some (.ref f1))(G1:FnOk P w K mg base CX0 1 f1 fd1 ["_law_script", "_law_k"] (Qdj K))(b1:Binds K fd1 ["_law_script", "_law_k"] [])(k1:PySem.W.keepIn K (.ref f1)=true)
  (m2:mg "_law_pot" = some (.ref f2))(G2:FnOk P w K mg base CX0 1 f2 fd2 ["_law_cell"] (Zu true QAI))(b2:Binds K fd2 ["_law_cell"] [])(k2:PySem.W.keepIn K (.ref f2)=true)
  (m3:mg "_law_take" = some (.ref f3))(G3:FnOk P w K mg base CX0 1 f3 fd3 ["_law_pot_here", "_law_far"] (Zu true Qpi))(b3:Binds K fd3 ["_law_pot_here", "_law_far"] [])(k3:PySem.W.keepIn K (.ref f3)=true)
  (m4:mg "_law_stairs" = some (.ref f4))(G4:FnOk P w K mg base CX0 2 f4 fd4 ["_law_pot_here", "_law_columns", "_law_most"] (Zu false QgE))(b4:Binds K fd4 ["_law_pot_here", "_law_columns", "_law_most"] [])(k4:PySem.W.keepIn K (.ref f4)=true)
  (m5:mg "head_counts" = some (.ref f5))(G5:FnOk P w K mg base CX0 5 f5 fd5 ["stairs"] (Zu true QBe))(b5:Binds K fd5 ["stairs"] [])(k5:PySem.W.keepIn K (.ref f5)=true)
  (m6:mg "counts" = some (.ref f6))(G6:FnOk P w K mg base CX0 3 f6 fd6 ["board"] (Zu true Qjj))(b6:Binds K fd6 ["board"] [])(k6:PySem.W.keepIn K (.ref f6)=true)
  (m7:mg "stair_board" = some (.ref f7))(G7:FnOk P w K mg base CX0 5 f7 fd7 ["stairs"] (Zu false QzE))(b7:Binds K fd7 ["stairs"] [])(k7:PySem.W.keepIn K (.ref f7)=true)
  (m8:mg "stairs_of" = some (.ref f8))(G8:FnOk P w K mg base CX0 6 f8 fd8 ["board"] (Zu false QAr))(b8:Binds K fd8 ["board"] [])(k8:PySem.W.keepIn K (.ref f8)=true)
  (m9:mg "product_at" = some (.ref f9))(G9:FnOk P w K mg base CX0 6 f9 fd9 ["stairs", "number"] (Zu false Quf))(b9:Binds K fd9 ["stairs", "number"] [])(k9:PySem.W.keepIn K (.ref f9)=true)
  (m10:mg "_law_falling" = some (.ref f10))(G10:FnOk P w K mg base CX0 1 f10 fd10 ["_law_number", "_law_many"] (Zu false QvD))(b10:Binds K fd10 ["_law_number", "_law_many"] [])(k10:PySem.W.keepIn K (.ref f10)=true)
  (m11:mg "all_stairs" = some (.ref f11))(G11:FnOk P w K mg base CX0 6 f11 fd11 ["stairs"] (Zu true QkM))(b11:Binds K fd11 ["stairs"] [])(k11:PySem.W.keepIn K (.ref f11)=true)
  (m12:mg "risen" = some (.ref f12))(G12:FnOk P w K mg base CX0 7 f12 fd12 ["stairs"] (Zu false QAw))(b12:Binds K fd12 ["stairs"] [])(k12:PySem.W.keepIn K (.ref f12)=true)
  (m13:mg "is_stairs" = some (.ref f13))(G13:FnOk P w K mg base CX0 3 f13 fd13 ["thing"] (Zu false QeQ))(b13:Binds K fd13 ["thing"] [])(k13:PySem.W.keepIn K (.ref f13)=true)
  (m14:mg "same_counts" = some (.ref f14))(G14:FnOk P w K mg base CX0 6 f14 fd14 ["one", "other"] (Zu false QAt))(b14:Binds K fd14 ["one", "other"] [])(k14:PySem.W.keepIn K (.ref f14)=true)
  (m15:mg "heads" = some (.ref f15))(G15:FnOk P w K mg base CX0 5 f15 fd15 ["stairs"] (Zu true QfU))(b15:Binds K fd15 ["stairs"] [])(k15:PySem.W.keepIn K (.ref f15)=true) :
  FnOk P w K mg base CX0 8 f fd ["_law_script"] (QfD K):=by
 refine QCE F QbQ (λcdv A outer s H E hr=>?_);have hU:=Room.u60 hr;have hI:=Room.i60 hr;refine⟨_,Jd (QcL Zj rfl (QbD (by rfl) T.range (Js (Ym (Qia rfl) Qor (by rfl) T.max Qta (Qc6 (Zc ZD) (Qc6 (Js (Ym (Qfh rfl) Qoq (by rfl) T.min Qoy (Qc6 (Js (Qxy 0 (by rfl) T.len)) (Qc6 (Zc ZD) Zk)))) Zk))))) (Yd 1 QbQ.nd rfl (by first | exact Jn rfl | exact Jm rfl))
    (Jd (Qt4 2 (ZX G2 (hr.mono (by decide)) (by rfl) m2 k2 b2 ZE (Qae (Z2 (Qxz 0 G1 (hr.mono (by decide)) (by rfl) m1 k1 b1 (qp 1))) JU)) QbQ.nd)
   (Jd (Qah 3 (Z2 (Qai Qak Qa5 (Zc ZD) (Js (ZX G3 (hr.mono (by decide)) (by rfl) m3 k3 b3 ZE (Qei 2 (Qae ZD JU)))))) QbQ.nd)
   (Jd (Qah 4 (Z7 G4 (hr.mono (by decide)) (by rfl) m4 k4 b4 ZE (Qei 2 (Qae (qv 3) (Qae ZD JU)))) QbQ.nd)
   (Jd (Qah 5 (Z2 (ZX G5 (hr.mono (by decide)) (by rfl) m5 k5 b5 ZE (Qae (qv 4) JU))) QbQ.nd)
   (Jd (Qah 6 (Z2 (ZX G6 (hr.mono (by decide)) (by rfl) m6 k6 b6 ZE (Qae (Z7 G7 (hr.mono (by decide)) (by rfl) m7 k7 b7 ZE (Qae (qv 4) JU)) JU))) QbQ.nd)
   (Jd (Qeq (Qws (QhF (Qay QcM (Qft hU) (Js (Qcb (qp 5) Qca (Qb9 (Js (Ym Qbu Qf0 (by rfl) T.len Qdu (Qc6 (qp 6) Zk)))))) (qp 6) (Yv _)) (QhF (Qay QcM (Qft hU) (Js (Ym (Qfg rfl) Qop (by rfl) T.sum Qow (Qc6 (Js (Qcb (qp 5) (Qb9 (Js (Ym Qbu Qf0 (by rfl) T.len Qdu (Qc6 (qp 6) Zk)))) Qca)) Zk))) (Zc ZD) (Yv _)) (QhE (Qay QcM (Qft hU) (Zc (Z7 G8 (hr.mono (by decide)) (by rfl) m8 k8 b8 ZE (Qae (Z7 G7 (hr.mono (by decide)) (by rfl) m7 k7 b7 ZE (Qae (qv 4) JU)) JU))) (qp 4) (Yv _)))))) (JE (QaH Qua)) QaB)
   (Jd (Qah 7 (Z2 (ZX G3 (hr.mono (by decide)) (by rfl) m3 k3 b3 ZE (Qei 2 (Qae (Qlj Qbs QdZ (Js (QhG (Qhf ZD (Qhf (Z2 (Qai Qm3 Qrp (Zc ZD) (Zc ZD))) Zk)))) (Js (ZX G3 (hr.mono (by decide)) (by rfl) m3 k3 b3 ZE (Qei 2 (Qae ZD JU)))) (λ_ _=>rfl)) JU)))) QbQ.nd)
   (Jd (QiY ["_law_size", "_law_many", "_law_columns", "_law_number"] [none,none,some 3,some 7] 8 QbQ.nd (Qgx (by rfl) T.enumerate (qp 5)) (λcl ex s3 H3 C=>⟨(QbR rfl (ZA 0 (ZA 1 QbS Qnl rfl (Jn rfl) (Jm rfl)) Qnl rfl (Jn rfl) (Jm rfl))),Y2,(Z2 (Qai QeZ QhO (qp 1) (Zc (Z7 G10 (hr.mono (by decide)) (by rfl) m10 k10 b10 ZE (Qae (qv 3) (Qae (Z2 (Qai QhN QfP (qp 2) (qp 0))) JU))))))⟩))
   (Jd (Qeq (Qay QcM (Qft hU) (Zc (Z7 G9 (hr.mono (by decide)) (by rfl) m9 k9 b9 ZE (Qae (qv 4) (Qae (qv 7) JU)))) (Js (Ym (Qfg rfl) Qop (by rfl) T.sum Qow (Qc6 (qp 8) Zk))) (Yv _)) (JE (QaH Qua)) QaB)
   (Jd (Qxu 9 10 (Qhf (Z2 (ZX G11 (hr.mono (by decide)) (by rfl) m11 k11 b11 ZE (Qae (qv 4) JU))) (Qhf (Z7 G12 (hr.mono (by decide)) (by rfl) m12 k12 b12 ZE (Qae (qv 4) JU)) Zk)) QbQ.nd)
   (Jd (Qeq (Qws (QhF (Qay QeY (Qu6 hI) (qp 4) (qp 9) (by rfl)) (QhE (Qay QeY (Qu6 hI) (qp 10) (qp 9) (by rfl))))) (JE (QaH Qua)) QaB)
   (Jd (QiY ["_law_one"] [none] 11 QbQ.nd (QcR (qp 9)) (λcl ex s3 H3 C=>⟨(Yd 0 Qve rfl (Jn rfl) (Jm rfl)),(QeT (QeU (Zc (Z7 G13 (hr.mono (by decide)) (by rfl) m13 k13 b13 ZE (Qae (qv 0) JU))))),(qv 0)⟩))
   (JE (QcL Zj rfl (QcR (Z2 (Qai Qak Qa5 (Js (Qcb (qp 11) Qca (Qb9 (Zc ZD)))) (Js (Qcb (qp 11) (Qb9 (Js (Qt8 (Zc ZD)))) Qca))))) (Yd 12 QbQ.nd rfl (by first | exact Jn rfl | exact Jm rfl))
    (Jd (Qeq (Qws (QhF (QfK (QeU (Zc (Z7 G14 (hr.mono (by decide)) (by rfl) m14 k14 b14 ZE (Qae (qv 4) (Qae (qv 12) JU)))))) (QhF (Qay QcM (Qft hU) (Js (ZX G5 (hr.mono (by decide)) (by rfl) m5 k5 b5 ZE (Qae (qv 12) JU))) (qp 5) (Yv _)) (QhE (Qay QcM (Qft hU) (Js (ZX G15 (hr.mono (by decide)) (by rfl) m15 k15 b15 ZE (Qae (qv 12) JU))) (Js (ZX G15 (hr.mono (by decide)) (by rfl) m15 k15 b15 ZE (Qae (qv 4) JU))) (Yv _)))))) (JE (QaH Qua)) QaB)
   (JE (Qeq (Qws (QhF (Qay QcM (Qft hU) (Js (ZX G11 (hr.mono (by decide)) (by rfl) m11 k11 b11 ZE (Qae (qv 12) JU))) (qp 9) (Yv _)) (QhF (Qay QcM (Qft hU) (Zc (Z7 G12 (hr.mono (by decide)) (by rfl) m12 k12 b12 ZE (Qae (qv 12) JU))) (qp 10) (Yv _)) (QhE (Qay QcM (Qft hU) (Zc (Z7 G9 (hr.mono (by decide)) (by rfl) m9 k9 b9 ZE (Qae (qv 12) (Qae (qv 7) JU)))) (Js (Ym (Qfg rfl) Qop (by rfl) T.sum Qow (Qc6 (qp 8) Zk))) (Yv _)))))) (JE (QaH Qua)) QaB))))))))))))))))))
   (JE (QaH Qua)),?_⟩
 intro n0 n63;refine⟨⟨by split<;>split<;>omega,by split<;>split<;>omega⟩,QgL (λi δ=>∃x1 x2 x3 x4 x5 x6 x7 x8 x9 x10 x11 x12,δ=[.scr,x1,x2,x3,x4,x5,x6,x7,x8,x9,x10,x11,x12]) ⟨_,_,_,_,_,_,_,_,_,_,_,_,rfl⟩ ?_ ?_⟩
 ·rintro i δ hi ⟨x1,x2,x3,x4,x5,x6,x7,x8,x9,x10,x11,x12,rfl⟩;refine⟨by omega,λc=>⟨c,rfl,λn1=>?_⟩⟩;refine⟨_,rfl,by decide,by decide,λa a0 a1=>⟨1+a,rfl,by omega,by omega,λns hs hl=>?_⟩⟩;have l6:=hs.l6;have l1:=hs.l1;have hh:=QtV hs;refine⟨ns,rfl,hs,⟨ns,rfl,hs,⟨sH ns,ns.length,stC ns,rfl,hh.2,l6,λp hp=>(Qfe hp).2.2,?_⟩⟩⟩;rw[Qza];have hc:cI (stC ns) (sH ns) ns.length++QP (ns.length+1 - (min (sH ns) ns.length+1)) 0=hcI ns:=QnK hs;have lh:(hcI ns).length=ns.length+1:=QgK ns [1];generalize cI (stC ns) (sH ns) ns.length=mine at hc ⊢;generalize ns.length+1 - (min (sH ns) ns.length+1)=k at hc;have nl:∀ns:List Int,nd (.list (ns.map Qc))=true:=λns=>QbF ns
  have nt:∀ns:List Int,nd (tI ns)=true:=λns=>QbF ns
  refine⟨⟨?_,nl _,.inr (Qkw _)⟩,?_⟩
  ·rw[Qkz hc];exact nl _
  rw[Qkz hc,QgN];refine QiN (QP k 0) (congrArg (λl=>[Yl l]) (Qof hc)) ?_
  rw[QjL];refine⟨ns,rfl,hs,⟨(sH ns:Int),(ns.length:Int),stC ns,rfl,QBg hs,?_⟩⟩;rw[Qw4 hs];refine⟨⟨nt _,nt _,.inl (Qkv _)⟩,?_⟩;rw[Qh3];have cp:QBy 10 9:=⟨by decide,by decide,by decide⟩;refine⟨cp,_,rfl,by decide,by decide,λq2 q20 q21=>QA0 q20 q21 λfar hfar=>?_⟩;obtain⟨F,rfl,F1,F2⟩:=QoK (p:=λd=>∃F:Int,d=.int F/\1<=F/\F<=1000000000) ⟨10,rfl,by decide,by decide⟩ (QoK ⟨_,rfl,by decide,by decide⟩ Qzm) far hfar;refine⟨_,rfl,by omega,by omega,λx x0 x1=>?_⟩;have x9:x<=1000000000:=by omega
  refine QvY (λd=>match d with | .tuple [.int s,.int m]=>.int (m*faI x (ns.length - s.toNat)) | _=>.none) (QvH (hcI ns) x ns.length) (λd hd k2 hk=>?_) ?_
  ·obtain⟨j,hj⟩:=Q0.mp hd;obtain⟨e,he,rfl⟩:=Qa6 hj;obtain⟨m,hm,rfl⟩:=int_at he;have hkl:=(QR.mp hm).1;have bd:=QBf hs.bd l6 j;have p6:13^ns.length<=13^6:=Y9 (by decide) l6;have e6:(13:Nat)^6=4826809:=by decide
   have em:(hcI ns).getD j 0=m:=by rw[Qh,hm];rfl
   rw[em] at bd;refine⟨rfl,x,ns.length - j,?_,by omega,x0,x9,.inl (.inl ⟨by omega,by omega⟩),hk⟩;show[Sl.v (.int x),Sl.v (.int (1+a - (j:Int)))]=_;rw[show(1:Int)+a - (j:Int)=((ns.length - j:Nat):Int) by omega]
  have es:((Qk (hcI ns).length).map λk=>(hcI ns).getD k 0*faI x (ns.length - k)).sum=prI x (hdL ns):=by
   rw[QjM,lh,<- QrP];rfl
  generalize ((Qk (hcI ns).length).map λk=>(hcI ns).getD k 0*faI x (ns.length - k))=sm at es ⊢;refine⟨ns,x,rfl,hs,x0,x9,QiN sm rfl ?_⟩;rw[es];refine ifF (by show(!decide (prI x (hdL ns)=prI x (hdL ns)))=false;rw[decide_eq_true rfl];rfl) ?_
  refine⟨ns,rfl,hs,λev hev=>⟨ns,rfl,hs,λtl it rt=>?_⟩⟩;obtain⟨y,iy,ry,uy⟩:=QmC hs;obtain rfl:=uy tl it rt;have nr:=Qnj ev;refine⟨⟨nr,nt _,Qkv _⟩,?_⟩;rw[any_rows ((hev.iff_ ns).mpr (QnH hs))];refine⟨⟨nr,nt _,Qkv _⟩,?_⟩;rw[any_rows ((hev.iff_ tl).mpr it)];refine Qzc (λd=>if isStairs (tI (unT d))=true then some d else none) (Qjg (λz=>isStairs (tI z)) ev) (λd hd k1 k2 h1 h2=>?_) ?_
  ·obtain⟨z,_,rfl⟩:=Qx.mp hd;refine⟨_,rfl,?_⟩;rw[QeN] at h1 h2;show if isStairs (tI z)=true then k2 (tI z) else k1
   cases r:isStairs (tI z) with
   |true=>exact QrE (h2 _ (by rw[r];rfl))
   |false=>exact Qvt (h1 (by rw[r];rfl))
  have fw:∀d∈(ev.filter λz=>isStairs (tI z)).map tI,∃u,d=tI u/\ZZ u/\QrF ns u:=λd hd=>by
   obtain⟨z,hz,rfl⟩:=Qx.mp hd;obtain⟨hz1,hz2⟩:=JB.mp hz;obtain⟨u,e,su⟩:=QjP hz2;have:z=u:=by have:=congrArg unT e;rwa [QeN,QeN] at this
   subst this;exact⟨z,rfl,su,(hev.iff_ z).mp hz1⟩
  have fl:=Qc2 (λz=>isStairs (tI z)) ev;have el:=hev.len hs;have fL:((ev.filter λz=>isStairs (tI z)).map tI).length<=720:=by rw[Qg];omega
  generalize (ev.filter λz=>isStairs (tI z)).map tI=few at fw fL ⊢;refine⟨by
   have h1:=Dl.Qfd few none (some 3);have h2:=Dl.Qfd few (some (-2)) none;show(Dl.cutD few none (some 3)).length+(Dl.cutD few (some (-2)) none).length<=1000000;omega,?_⟩
  refine Qbt (λ_ δ=>∃x12,δ=[.scr,.v (.int (0+(i:Int))),.pot,.v (.int (1+a)),.v (tI ns),.v (.list ((hcI ns).map Qc)),.v (.list (mine.map Qc)),.v (.int x),.v (.list (sm.map Qc)),.v (.list (ev.map tI)),.v (tI tl),.v (.list few),x12]) ⟨_,rfl⟩ ?_ ?_
  ·rintro j d δ hd ⟨x12,rfl⟩;have hm:d∈few:=(Jr.mp (QK hd)).elim Dl.QeF Dl.QeF;obtain⟨u,rfl,su,iu⟩:=fw d hm;have lu:=Qko iu;have es2:srtS (hdL ns)=srtS (hdL u):=QeR ((Z6 _).trans (iu.1.symm.trans (Z6 _).symm)) (Qb8 _) (Qb8 _);refine⟨ns,u,rfl,hs,su,lu.symm,?_⟩;rw[decide_eq_true es2];refine⟨u,rfl,su,⟨⟨nl _,nl _,.inr (Qkw _)⟩,?_⟩⟩;rw[Qvz su hs es2.symm,QgN];refine⟨u,rfl,su,λb1 pb1 wb1=>⟨ns,rfl,hs,λb2 pb2 wb2=>?_⟩⟩;obtain rfl:b1=b2:=QeR (pb1.trans (iu.1.trans pb2.symm)) wb1 wb2;refine⟨⟨nl _,nl _,.inr (Qkw _)⟩,?_⟩;rw[QgN];refine⟨u,rfl,su,λr2 h2=>?_⟩;obtain rfl:=(h2.of iu).uniq hev;refine⟨⟨nr,nr,.inr (QyR _)⟩,?_⟩;rw[Qks];refine⟨u,rfl,su,λy2 iy2 ry2=>?_⟩;obtain rfl:=uy y2 ⟨iy2.1.trans iu.1,iy2.2⟩ ry2;refine⟨⟨nt _,nt _,.inr (Qkv _)⟩,?_⟩;rw[Qh3];refine⟨u,x,rfl,su,x0,x9,QiN sm rfl ?_⟩;rw[es,Qj2 x iu.1];refine ifF (by show(!decide (prI x (hdL ns)=prI x (hdL ns)))=false;rw[decide_eq_true rfl];rfl) ⟨_,rfl⟩
  ·rintro δ ⟨x12,rfl⟩;exact⟨_,_,_,_,_,_,_,_,_,_,_,_,rfl⟩
 ·rintro δ ⟨x1,x2,x3,x4,x5,x6,x7,x8,x9,x10,x11,x12,rfl⟩;rfl
end
end Rk
def PySem.W.Fast.tw16622125782467425032:Nat:=0
def PySem.W.Fast.tw6620549808369004708:Nat:=0
def PySem.W.Fast.tw15809168796686011981:Nat:=0
def PySem.W.Fast.tw11377394301333519339:Nat:=0
def PySem.W.Fast.tw952700818837965693:Nat:=0
def PySem.W.Fast.tw5923637678643793062:Nat:=0
def PySem.W.Fast.tw3245280862419149667:Nat:=0
def PySem.W.Fast.tw2073454883123801396:Nat:=0
def PySem.W.Fast.tw12417572537631001831:Nat:=0
def PySem.W.Fast.tw18444611347192947944:Nat:=0
def PySem.W.Fast.tw4355899344446239615:Nat:=0
def PySem.W.Fast.tw14410036441912167129:Nat:=0
def PySem.W.Fast.tw102806671934770362:Nat:=0
def PySem.W.Fast.tw7818965126934311511:Nat:=0
def PySem.W.Fast.tw4562107869502114214:Nat:=0
def PySem.W.Fast.tw8138618304875593474:Nat:=0
def PySem.W.Fast.tw6359448873879666341:Nat:=0
def PySem.W.Fast.tw10516991032837498443:Nat:=0
def PySem.W.Fast.tw7284987719320516510:Nat:=0
def PySem.W.Fast.tw12026077392324464458:Nat:=0
def PySem.W.Fast.tw4526089639360420400:Nat:=0
def PySem.W.Fast.tw18358507661678077428:Nat:=0
def PySem.W.Fast.tw2510988357032406645:Nat:=0
def PySem.W.Fast.tw2594272101815451895:Nat:=0
def PySem.W.Fast.tw4857008026717208549:Nat:=0
def PySem.W.Fast.tw5680972400296070458:Nat:=0
def PySem.W.Fast.tw16337510561099425423:Nat:=0
def PySem.W.Fast.tw581656991881823139:Nat:=0
def PySem.W.Fast.tw21365276336629088:Nat:=0
def PySem.W.Fast.tw10770549351864907293:Nat:=0
def PySem.W.Fast.tw8137485783536723300:Nat:=0
def PySem.W.Fast.tw5442811738924842497:Nat:=0
def PySem.W.Fast.tw6187933174826787672:Nat:=0
def PySem.W.Fast.tw6666580221895886753:Nat:=0
def PySem.W.Fast.tw2317727809933454784:Nat:=0
def PySem.W.Fast.tw910502004025241149:Nat:=0
def PySem.W.Fast.tw5942332427151928006:Nat:=0
def PySem.W.Fast.tw3395712394270951057:Nat:=0
def PySem.W.Fast.tw639468553149893553:Nat:=0
def PySem.W.Fast.tw15874368342324284301:Nat:=0
def PySem.W.Fast.tw17835902319243237657:Nat:=0
def PySem.W.Fast.tw2904758928766546222:Nat:=0
def PySem.W.Fast.tw2981551993237219271:Nat:=0
def PySem.W.Fast.tw6386126833490191285:Nat:=0
def PySem.W.Fast.tw13172857952591850897:Nat:=0
def PySem.W.Fast.tw14584758037028854827:Nat:=0
def PySem.W.Fast.tw12633918672136053897:Nat:=0
def PySem.W.Fast.tw11695811667723529237:Nat:=0
def PySem.W.Fast.tw12924123851314670763:Nat:=0
def PySem.W.Fast.tw17321638495360358288:Nat:=0
def PySem.W.Fast.tw16472871724729790612:Nat:=0
def PySem.W.Fast.tw13387477661957024582:Nat:=0
def PySem.W.Fast.tw14754812378313163878:Nat:=0
def PySem.W.Fast.tw11131249072191559980:Nat:=0
def PySem.W.Fast.tw852058739511211715:Nat:=0
def PySem.W.Fast.tw11191528563709394616:Nat:=0
def PySem.W.Fast.tw1188328716666474406:Nat:=0
def PySem.W.Fast.tw15052162854882658900:Nat:=0
def PySem.W.Fast.tw7374532298567245723:Nat:=0
def PySem.W.Fast.tw4420790926336622565:Nat:=0
def PySem.W.Fast.tw9505757436070796088:Nat:=0
def PySem.W.Fast.tw18159846448056526717:Nat:=0
def PySem.W.Fast.tw17720767785293858938:Nat:=0
def PySem.W.Fast.tw9768904106969140578:Nat:=0
def PySem.W.Fast.tw11988449071962378829:Nat:=0
def PySem.W.Fast.tw12935114461658278132:Nat:=0
def PySem.W.Fast.tw12071134880261963783:Nat:=0
def PySem.W.Fast.tw13712904352394729308:Nat:=0
def PySem.W.Fast.tw126710501213513770:Nat:=0
def PySem.W.Fast.tw16062206309284336283:Nat:=0
def PySem.W.Fast.tw9693542133750355184:Nat:=0
def PySem.W.Fast.tw9783355759891945412:Nat:=0
def PySem.W.Fast.tw14559853432074807343:Nat:=0
def PySem.W.Fast.tw7326283919484130101:Nat:=0
def PySem.W.Fast.tw11016350321008931292:Nat:=0
def PySem.W.Fast.tw16960739508476776824:Nat:=0
namespace Rk
open L2
theorem Qzl{l:PySem.W.OpenLaw}{w:Jl}{K:PySem.W.Frag}{h:Heap}{mg:Str->Option Value}{fa f1 f2 f3 f4 f5 f6 f7 f8 f9 f10 f11 f12 f13 f14 f15 f16 f17 f18 f19 f20 f21 f22 f23 f24 f25 f26 f27 f28:Addr}(X:K.In h)(G:h.Ns mainGlobals mg)(hfa:mg "law" = some (.ref fa))
  {od1 an1 od2 an2 od3 an3 od4 an4 od5 an5 od6 an6 od7 an7 od8 an8 od9 an9 od10 an10 od11 an11 od12 an12 od13 an13 od14 an14 od15 an15 od16 an16 od17 an17 od18 an18 od19 an19 od20 an20 od21 an21 od22 an22 od23 an23 od24 an24 od25 an25 od26 an26 od27 an27 od28 an28:Option Addr} {sl1 sl2 sl3 sl4 sl5 sl6 sl7 sl8 sl9 sl10 sl11 sl12 sl13 sl14 sl15 sl16 sl17 sl18 sl19 sl20 sl21 sl22 sl23 sl24 sl25 sl26 sl27 sl28:Array (Option Value)} {oc1 kV1 dc1 pm1 cd1 ct1 oc2 kV2 dc2 pm2 cd2 ct2 oc3 kV3 dc3 pm3 cd3 ct3 oc4 kV4 dc4 pm4 cd4 ct4 oc5 kV5 dc5 pm5 cd5 ct5 oc6 kV6 dc6 pm6 cd6 ct6 oc7 kV7 dc7 pm7 cd7 ct7 oc8 kV8 dc8 pm8 cd8 ct8 oc9 kV9 dc9 pm9 cd9 ct9 oc10 kV10 dc10 pm10 cd10 ct10 oc11 kV11 dc11 pm11 cd11 ct11 oc12 kV12 dc12 pm12 cd12 ct12 oc13 kV13 dc13 pm13 cd13 ct13 oc14 kV14 dc14 pm14 cd14 ct14 oc15 kV15 dc15 pm15 cd15 ct15 oc16 kV16 dc16 pm16 cd16 ct16 oc17 kV17 dc17 pm17 cd17 ct17 oc18 kV18 dc18 pm18 cd18 ct18 oc19 kV19 dc19 pm19 cd19 ct19 oc20 kV20 dc20 pm20 cd20 ct20 oc21 kV21 dc21 pm21 cd21 ct21 oc22 kV22 dc22 pm22 cd22 ct22 oc23 kV23 dc23 pm23 cd23 ct23 oc24 kV24 dc24 pm24 cd24 ct24 oc25 kV25 dc25 pm25 cd25 ct25 oc26 kV26 dc26 pm26 cd26 ct26 oc27 kV27 dc27 pm27 cd27 ct27 oc28 kV28 dc28 pm28 cd28 ct28:Value}
  (a1:PySem.W.nsIn K mainGlobals "is_whole" = some (some (.ref f1))) (l1:K.lookup f1=some ⟨oc1,od1,.func (PySem.W.fnOf "is_whole" "is_whole" (J6 QfF) (JQ QfF) (QJ QfF) .none kV1 dc1 pm1 an1 cd1 ct1),sl1⟩) (c1:PySem.W.codeIn K cd1 "is_whole" = true) (k1:PySem.W.keepIn K (.ref f1)=true)
  (a2:PySem.W.nsIn K mainGlobals "is_whole_within" = some (some (.ref f2)))(l2:K.lookup f2=some ⟨oc2,od2,.func (PySem.W.fnOf "is_whole_within" "is_whole_within" (J6 QdQ) (JQ QdQ) (QJ QdQ) .none kV2 dc2 pm2 an2 cd2 ct2),sl2⟩)(c2:PySem.W.codeIn K cd2 "is_whole_within" = true)(k2:PySem.W.keepIn K (.ref f2)=true)
  (a3:PySem.W.nsIn K mainGlobals "is_never_falling" = some (some (.ref f3)))(l3:K.lookup f3=some ⟨oc3,od3,.func (PySem.W.fnOf "is_never_falling" "is_never_falling" (J6 QfI) (JQ QfI) (QJ QfI) .none kV3 dc3 pm3 an3 cd3 ct3),sl3⟩)(c3:PySem.W.codeIn K cd3 "is_never_falling" = true)(k3:PySem.W.keepIn K (.ref f3)=true)
  (a4:PySem.W.nsIn K mainGlobals "all_orders" = some (some (.ref f4)))(l4:K.lookup f4=some ⟨oc4,od4,.func (PySem.W.fnOf "all_orders" "all_orders" (J6 Qlh) (JQ Qlh) (QJ Qlh) .none kV4 dc4 pm4 an4 cd4 ct4),sl4⟩)(c4:PySem.W.codeIn K cd4 "all_orders" = true)(k4:PySem.W.keepIn K (.ref f4)=true)
  (a5:PySem.W.nsIn K mainGlobals "others" = some (some (.ref f5)))(l5:K.lookup f5=some ⟨oc5,od5,.func (PySem.W.fnOf "others" "others" (J6 sOth) (JQ sOth) (QJ sOth) .none kV5 dc5 pm5 an5 cd5 ct5),sl5⟩)(c5:PySem.W.codeIn K cd5 "others" = true)(k5:PySem.W.keepIn K (.ref f5)=true)
  (a6:PySem.W.nsIn K mainGlobals "is_stairs" = some (some (.ref f6)))(l6:K.lookup f6=some ⟨oc6,od6,.func (PySem.W.fnOf "is_stairs" "is_stairs" (J6 QdR) (JQ QdR) (QJ QdR) .none kV6 dc6 pm6 an6 cd6 ct6),sl6⟩)(c6:PySem.W.codeIn K cd6 "is_stairs" = true)(k6:PySem.W.keepIn K (.ref f6)=true)
  (a7:PySem.W.nsIn K mainGlobals "refuse_no_stairs" = some (some (.ref f7)))(l7:K.lookup f7=some ⟨oc7,od7,.func (PySem.W.fnOf "refuse_no_stairs" "refuse_no_stairs" (J6 Qlc) (JQ Qlc) (QJ Qlc) .none kV7 dc7 pm7 an7 cd7 ct7),sl7⟩)(c7:PySem.W.codeIn K cd7 "refuse_no_stairs" = true)(k7:PySem.W.keepIn K (.ref f7)=true)
  (a8:PySem.W.nsIn K mainGlobals "stair_board" = some (some (.ref f8)))(l8:K.lookup f8=some ⟨oc8,od8,.func (PySem.W.fnOf "stair_board" "stair_board" (J6 QdS) (JQ QdS) (QJ QdS) .none kV8 dc8 pm8 an8 cd8 ct8),sl8⟩)(c8:PySem.W.codeIn K cd8 "stair_board" = true)(k8:PySem.W.keepIn K (.ref f8)=true)
  (a9:PySem.W.nsIn K mainGlobals "stairs_of" = some (some (.ref f9)))(l9:K.lookup f9=some ⟨oc9,od9,.func (PySem.W.fnOf "stairs_of" "stairs_of" (J6 sSOf) (JQ sSOf) (QJ sSOf) .none kV9 dc9 pm9 an9 cd9 ct9),sl9⟩)(c9:PySem.W.codeIn K cd9 "stairs_of" = true)(k9:PySem.W.keepIn K (.ref f9)=true)
  (a10:PySem.W.nsIn K mainGlobals "heads" = some (some (.ref f10)))(l10:K.lookup f10=some ⟨oc10,od10,.func (PySem.W.fnOf "heads" "heads" (J6 QfJ) (JQ QfJ) (QJ QfJ) .none kV10 dc10 pm10 an10 cd10 ct10),sl10⟩)(c10:PySem.W.codeIn K cd10 "heads" = true)(k10:PySem.W.keepIn K (.ref f10)=true)
  (a11:PySem.W.nsIn K mainGlobals "head_counts" = some (some (.ref f11)))(l11:K.lookup f11=some ⟨oc11,od11,.func (PySem.W.fnOf "head_counts" "head_counts" (J6 Qlf) (JQ Qlf) (QJ Qlf) .none kV11 dc11 pm11 an11 cd11 ct11),sl11⟩)(c11:PySem.W.codeIn K cd11 "head_counts" = true)(k11:PySem.W.keepIn K (.ref f11)=true)
  (a12:PySem.W.nsIn K mainGlobals "counts_with_column" = some (some (.ref f12)))(l12:K.lookup f12=some ⟨oc12,od12,.func (PySem.W.fnOf "counts_with_column" "counts_with_column" (J6 Qlg) (JQ Qlg) (QJ Qlg) .none kV12 dc12 pm12 an12 cd12 ct12),sl12⟩)(c12:PySem.W.codeIn K cd12 "counts_with_column" = true)(k12:PySem.W.keepIn K (.ref f12)=true)
  (a13:PySem.W.nsIn K mainGlobals "product_at" = some (some (.ref f13)))(l13:K.lookup f13=some ⟨oc13,od13,.func (PySem.W.fnOf "product_at" "product_at" (J6 Qld) (JQ Qld) (QJ Qld) .none kV13 dc13 pm13 an13 cd13 ct13),sl13⟩)(c13:PySem.W.codeIn K cd13 "product_at" = true)(k13:PySem.W.keepIn K (.ref f13)=true)
  (a14:PySem.W.nsIn K mainGlobals "same_counts" = some (some (.ref f14)))(l14:K.lookup f14=some ⟨oc14,od14,.func (PySem.W.fnOf "same_counts" "same_counts" (J6 QfG) (JQ QfG) (QJ QfG) .none kV14 dc14 pm14 an14 cd14 ct14),sl14⟩)(c14:PySem.W.codeIn K cd14 "same_counts" = true)(k14:PySem.W.keepIn K (.ref f14)=true)
  (a15:PySem.W.nsIn K mainGlobals "all_stairs" = some (some (.ref f15)))(l15:K.lookup f15=some ⟨oc15,od15,.func (PySem.W.fnOf "all_stairs" "all_stairs" (J6 QiT) (JQ QiT) (QJ QiT) .none kV15 dc15 pm15 an15 cd15 ct15),sl15⟩)(c15:PySem.W.codeIn K cd15 "all_stairs" = true)(k15:PySem.W.keepIn K (.ref f15)=true)
  (a16:PySem.W.nsIn K mainGlobals "numbers_by" = some (some (.ref f16)))(l16:K.lookup f16=some ⟨oc16,od16,.func (PySem.W.fnOf "numbers_by" "numbers_by" (J6 sNBy) (JQ sNBy) (QJ sNBy) .none kV16 dc16 pm16 an16 cd16 ct16),sl16⟩)(c16:PySem.W.codeIn K cd16 "numbers_by" = true)(k16:PySem.W.keepIn K (.ref f16)=true)
  (a17:PySem.W.nsIn K mainGlobals "risen" = some (some (.ref f17)))(l17:K.lookup f17=some ⟨oc17,od17,.func (PySem.W.fnOf "risen" "risen" (J6 QfH) (JQ QfH) (QJ QfH) .none kV17 dc17 pm17 an17 cd17 ct17),sl17⟩)(c17:PySem.W.codeIn K cd17 "risen" = true)(k17:PySem.W.keepIn K (.ref f17)=true)
  (a18:PySem.W.nsIn K mainGlobals "is_risen" = some (some (.ref f18)))(l18:K.lookup f18=some ⟨oc18,od18,.func (PySem.W.fnOf "is_risen" "is_risen" (J6 sIsR) (JQ sIsR) (QJ sIsR) .none kV18 dc18 pm18 an18 cd18 ct18),sl18⟩)(c18:PySem.W.codeIn K cd18 "is_risen" = true)(k18:PySem.W.keepIn K (.ref f18)=true)
  (a19:PySem.W.nsIn K mainGlobals "counts" = some (some (.ref f19)))(l19:K.lookup f19=some ⟨oc19,od19,.func (PySem.W.fnOf "counts" "counts" (J6 sCnt) (JQ sCnt) (QJ sCnt) .none kV19 dc19 pm19 an19 cd19 ct19),sl19⟩)(c19:PySem.W.codeIn K cd19 "counts" = true)(k19:PySem.W.keepIn K (.ref f19)=true)
  (a20:PySem.W.nsIn K mainGlobals "most_size" = some (some (.ref f20)))(l20:K.lookup f20=some ⟨oc20,od20,.func (PySem.W.fnOf "most_size" "most_size" (J6 Qle) (JQ Qle) (QJ Qle) .none kV20 dc20 pm20 an20 cd20 ct20),sl20⟩)(c20:PySem.W.codeIn K cd20 "most_size" = true)(k20:PySem.W.keepIn K (.ref f20)=true)
  (a21:PySem.W.nsIn K mainGlobals "ways_to_go_on" = some (some (.ref f21)))(l21:K.lookup f21=some ⟨oc21,od21,.func (PySem.W.fnOf "ways_to_go_on" "ways_to_go_on" (J6 Qlb) (JQ Qlb) (QJ Qlb) .none kV21 dc21 pm21 an21 cd21 ct21),sl21⟩)(c21:PySem.W.codeIn K cd21 "ways_to_go_on" = true)(k21:PySem.W.keepIn K (.ref f21)=true)
  (a22:PySem.W.nsIn K mainGlobals "ways_with_row" = some (some (.ref f22)))(l22:K.lookup f22=some ⟨oc22,od22,.func (PySem.W.fnOf "ways_with_row" "ways_with_row" (J6 sRow) (JQ sRow) (QJ sRow) .none kV22 dc22 pm22 an22 cd22 ct22),sl22⟩)(c22:PySem.W.codeIn K cd22 "ways_with_row" = true)(k22:PySem.W.keepIn K (.ref f22)=true)
  (a23:PySem.W.nsIn K mainGlobals "_law_cell_at" = some (some (.ref f23)))(l23:K.lookup f23=some ⟨oc23,od23,.func (PySem.W.fnOf "_law_cell_at" "_law_cell_at" (J6 Qd3) (JQ Qd3) (QJ Qd3) .none kV23 dc23 pm23 an23 cd23 ct23),sl23⟩)(c23:PySem.W.codeIn K cd23 "_law_cell_at" = true)(k23:PySem.W.keepIn K (.ref f23)=true)
  (a24:PySem.W.nsIn K mainGlobals "_law_pot" = some (some (.ref f24)))(l24:K.lookup f24=some ⟨oc24,od24,.func (PySem.W.fnOf "_law_pot" "_law_pot" (J6 lPot) (JQ lPot) (QJ lPot) .none kV24 dc24 pm24 an24 cd24 ct24),sl24⟩)(c24:PySem.W.codeIn K cd24 "_law_pot" = true)(k24:PySem.W.keepIn K (.ref f24)=true)
  (a25:PySem.W.nsIn K mainGlobals "_law_take" = some (some (.ref f25)))(l25:K.lookup f25=some ⟨oc25,od25,.func (PySem.W.fnOf "_law_take" "_law_take" (J6 Qly) (JQ Qly) (QJ Qly) .none kV25 dc25 pm25 an25 cd25 ct25),sl25⟩)(c25:PySem.W.codeIn K cd25 "_law_take" = true)(k25:PySem.W.keepIn K (.ref f25)=true)
  (a26:PySem.W.nsIn K mainGlobals "_law_stairs" = some (some (.ref f26)))(l26:K.lookup f26=some ⟨oc26,od26,.func (PySem.W.fnOf "_law_stairs" "_law_stairs" (J6 Qd2) (JQ Qd2) (QJ Qd2) .none kV26 dc26 pm26 an26 cd26 ct26),sl26⟩)(c26:PySem.W.codeIn K cd26 "_law_stairs" = true)(k26:PySem.W.keepIn K (.ref f26)=true)
  (a27:PySem.W.nsIn K mainGlobals "_law_falling" = some (some (.ref f27)))(l27:K.lookup f27=some ⟨oc27,od27,.func (PySem.W.fnOf "_law_falling" "_law_falling" (J6 Qlz) (JQ Qlz) (QJ Qlz) .none kV27 dc27 pm27 an27 cd27 ct27),sl27⟩)(c27:PySem.W.codeIn K cd27 "_law_falling" = true)(k27:PySem.W.keepIn K (.ref f27)=true)
  (a28:PySem.W.nsIn K mainGlobals "law" = some (some (.ref f28)))(l28:K.lookup f28=some ⟨oc28,od28,.func (PySem.W.fnOf "law" "law" (J6 sLaw) (JQ sLaw) (QJ sLaw) .none kV28 dc28 pm28 an28 cd28 ct28),sl28⟩)(c28:PySem.W.codeIn K cd28 "law" = true)(k28:PySem.W.keepIn K (.ref f28)=true)
  (z1:PySem.W.nsIn K mainGlobals "isinstance" = some none)
  (z2:PySem.W.nsIn K mainGlobals "int" = some none)
  (z3:PySem.W.nsIn K mainGlobals "bool" = some none)
  (z4:PySem.W.nsIn K mainGlobals "str" = some none)
  (z5:PySem.W.nsIn K mainGlobals "tuple" = some none)
  (z6:PySem.W.nsIn K mainGlobals "list" = some none)
  (z7:PySem.W.nsIn K mainGlobals "all" = some none)
  (z8:PySem.W.nsIn K mainGlobals "len" = some none)
  (z9:PySem.W.nsIn K mainGlobals "zip" = some none)
  (z10:PySem.W.nsIn K mainGlobals "enumerate" = some none)
  (z11:PySem.W.nsIn K mainGlobals "range" = some none)
  (z12:PySem.W.nsIn K mainGlobals "max" = some none)
  (z13:PySem.W.nsIn K mainGlobals "min" = some none)
  (z14:PySem.W.nsIn K mainGlobals "sorted" = some none)
  (z15:PySem.W.nsIn K mainGlobals "sum" = some none)
  (z16:PySem.W.nsIn K mainGlobals "set" = some none)
  (z17:PySem.W.nsIn K mainGlobals "any" = some none)
  (z18:PySem.W.nsIn K mainGlobals "reversed" = some none)
  (z19:PySem.W.nsIn K mainGlobals "divmod" = some none)
  {tA:_} (aA:PySem.W.nsIn K mainGlobals "MOST_LINES" = some (some (.int 6 tA)))
  {tB:_} (aB:PySem.W.nsIn K mainGlobals "MOST_TAKEN" = some (some (.int 1000000000 tB)))
  :
  ∃fd:Jc,(∀(s:Shared)(v:Value),Qpc s fd ⟨[v],[]⟩ [("_law_script",v)])/\∀base:Heap,K.In base->base.Ns mainGlobals mg->FnOk l.prog w K mg base CX0 8 fa fd ["_law_script"] (Dl.QfD K):=by
 have e:=hfa.symm.trans (PySem.W.mg_of X G a28);cases e;have T:=(⟨(PySem.W.mg_none_of X G z1),(PySem.W.mg_none_of X G z2),(PySem.W.mg_none_of X G z3),(PySem.W.mg_none_of X G z4),(PySem.W.mg_none_of X G z5),(PySem.W.mg_none_of X G z6),(PySem.W.mg_none_of X G z7),(PySem.W.mg_none_of X G z8),(PySem.W.mg_none_of X G z9),(PySem.W.mg_none_of X G z10),(PySem.W.mg_none_of X G z11),(PySem.W.mg_none_of X G z12),(PySem.W.mg_none_of X G z13),(PySem.W.mg_none_of X G z14),(PySem.W.mg_none_of X G z15),(PySem.W.mg_none_of X G z16),(PySem.W.mg_none_of X G z17),(PySem.W.mg_none_of X G z18),(PySem.W.mg_none_of X G z19)⟩:GlbA mg);have F1:=ZY (st:=QfF) l1 c1 k1;have b1:=F1.binds (ps:=["thing"]) λ_ _ _ _ _ _ us hl=>match us,hl with | [_],_=>rfl
 have m1:=PySem.W.mg_of X G a1;have F2:=ZY (st:=QdQ) l2 c2 k2;have b2:=F2.binds (ps:=["thing", "least", "most"]) λ_ _ _ _ _ _ us hl=>match us,hl with | [_,_,_],_=>rfl
 have m2:=PySem.W.mg_of X G a2;have F3:=ZY (st:=QfI) l3 c3 k3;have b3:=F3.binds (ps:=["things"]) λ_ _ _ _ _ _ us hl=>match us,hl with | [_],_=>rfl
 have m3:=PySem.W.mg_of X G a3;have F4:=ZY (st:=Qlh) l4 c4 k4;have b4:=F4.binds (ps:=["many"]) λ_ _ _ _ _ _ us hl=>match us,hl with | [_],_=>rfl
 have m4:=PySem.W.mg_of X G a4;have F5:=ZY (st:=sOth) l5 c5 k5;have b5:=F5.binds (ps:=["many", "numbers"]) λ_ _ _ _ _ _ us hl=>match us,hl with | [_,_],_=>rfl
 have m5:=PySem.W.mg_of X G a5;have F6:=ZY (st:=QdR) l6 c6 k6;have b6:=F6.binds (ps:=["thing"]) λ_ _ _ _ _ _ us hl=>match us,hl with | [_],_=>rfl
 have m6:=PySem.W.mg_of X G a6;have F7:=ZY (st:=Qlc) l7 c7 k7;have b7:=F7.binds (ps:=["stairs"]) λ_ _ _ _ _ _ us hl=>match us,hl with | [_],_=>rfl
 have m7:=PySem.W.mg_of X G a7;have F8:=ZY (st:=QdS) l8 c8 k8;have b8:=F8.binds (ps:=["stairs"]) λ_ _ _ _ _ _ us hl=>match us,hl with | [_],_=>rfl
 have m8:=PySem.W.mg_of X G a8;have F9:=ZY (st:=sSOf) l9 c9 k9;have b9:=F9.binds (ps:=["board"]) λ_ _ _ _ _ _ us hl=>match us,hl with | [_],_=>rfl
 have m9:=PySem.W.mg_of X G a9;have F10:=ZY (st:=QfJ) l10 c10 k10;have b10:=F10.binds (ps:=["stairs"]) λ_ _ _ _ _ _ us hl=>match us,hl with | [_],_=>rfl
 have m10:=PySem.W.mg_of X G a10;have F11:=ZY (st:=Qlf) l11 c11 k11;have b11:=F11.binds (ps:=["stairs"]) λ_ _ _ _ _ _ us hl=>match us,hl with | [_],_=>rfl
 have m11:=PySem.W.mg_of X G a11;have F12:=ZY (st:=Qlg) l12 c12 k12;have b12:=F12.binds (ps:=["told", "number"]) λ_ _ _ _ _ _ us hl=>match us,hl with | [_,_],_=>rfl
 have m12:=PySem.W.mg_of X G a12;have F13:=ZY (st:=Qld) l13 c13 k13;have b13:=F13.binds (ps:=["stairs", "number"]) λ_ _ _ _ _ _ us hl=>match us,hl with | [_,_],_=>rfl
 have m13:=PySem.W.mg_of X G a13;have F14:=ZY (st:=QfG) l14 c14 k14;have b14:=F14.binds (ps:=["one", "other"]) λ_ _ _ _ _ _ us hl=>match us,hl with | [_,_],_=>rfl
 have m14:=PySem.W.mg_of X G a14;have F15:=ZY (st:=QiT) l15 c15 k15;have b15:=F15.binds (ps:=["stairs"]) λ_ _ _ _ _ _ us hl=>match us,hl with | [_],_=>rfl
 have m15:=PySem.W.mg_of X G a15;have F16:=ZY (st:=sNBy) l16 c16 k16;have b16:=F16.binds (ps:=["put", "order"]) λ_ _ _ _ _ _ us hl=>match us,hl with | [_,_],_=>rfl
 have m16:=PySem.W.mg_of X G a16;have F17:=ZY (st:=QfH) l17 c17 k17;have b17:=F17.binds (ps:=["stairs"]) λ_ _ _ _ _ _ us hl=>match us,hl with | [_],_=>rfl
 have m17:=PySem.W.mg_of X G a17;have F18:=ZY (st:=sIsR) l18 c18 k18;have b18:=F18.binds (ps:=["numbers"]) λ_ _ _ _ _ _ us hl=>match us,hl with | [_],_=>rfl
 have m18:=PySem.W.mg_of X G a18;have F19:=ZY (st:=sCnt) l19 c19 k19;have b19:=F19.binds (ps:=["board"]) λ_ _ _ _ _ _ us hl=>match us,hl with | [_],_=>rfl
 have m19:=PySem.W.mg_of X G a19;have F20:=ZY (st:=Qle) l20 c20 k20;have b20:=F20.binds (ps:=["board"]) λ_ _ _ _ _ _ us hl=>match us,hl with | [_],_=>rfl
 have m20:=PySem.W.mg_of X G a20;have F21:=ZY (st:=Qlb) l21 c21 k21;have b21:=F21.binds (ps:=["board"]) λ_ _ _ _ _ _ us hl=>match us,hl with | [_],_=>rfl
 have m21:=PySem.W.mg_of X G a21;have F22:=ZY (st:=sRow) l22 c22 k22;have b22:=F22.binds (ps:=["below", "columns", "taken"]) λ_ _ _ _ _ _ us hl=>match us,hl with | [_,_,_],_=>rfl
 have m22:=PySem.W.mg_of X G a22;have F23:=ZY (st:=Qd3) l23 c23 k23;have b23:=F23.binds (ps:=["_law_script", "_law_k"]) λ_ _ _ _ _ _ us hl=>match us,hl with | [_,_],_=>rfl
 have m23:=PySem.W.mg_of X G a23;have F24:=ZY (st:=lPot) l24 c24 k24;have b24:=F24.binds (ps:=["_law_cell"]) λ_ _ _ _ _ _ us hl=>match us,hl with | [_],_=>rfl
 have m24:=PySem.W.mg_of X G a24;have F25:=ZY (st:=Qly) l25 c25 k25;have b25:=F25.binds (ps:=["_law_pot_here", "_law_far"]) λ_ _ _ _ _ _ us hl=>match us,hl with | [_,_],_=>rfl
 have m25:=PySem.W.mg_of X G a25;have F26:=ZY (st:=Qd2) l26 c26 k26;have b26:=F26.binds (ps:=["_law_pot_here", "_law_columns", "_law_most"]) λ_ _ _ _ _ _ us hl=>match us,hl with | [_,_,_],_=>rfl
 have m26:=PySem.W.mg_of X G a26;have F27:=ZY (st:=Qlz) l27 c27 k27;have b27:=F27.binds (ps:=["_law_number", "_law_many"]) λ_ _ _ _ _ _ us hl=>match us,hl with | [_,_],_=>rfl
 have m27:=PySem.W.mg_of X G a27;have F28:=ZY (st:=sLaw) l28 c28 k28;refine⟨PySem.W.fnOf "law" "law" (J6 sLaw) (JQ sLaw) (QJ sLaw) .none kV28 dc28 pm28 an28 cd28 ct28,λs v=>.of_eq rfl,λbase _ _=>?_⟩;have G1:FnOk l.prog w K mg base CX0 1 f1 _ ["thing"] (Dl.Zu false Dl.Ql9):=Qrk F1 T ;have G2:FnOk l.prog w K mg base CX0 2 f2 _ ["thing", "least", "most"] (Dl.Zu false Qge):=Qm7 F2 T m1 G1 b1 k1;have G3:FnOk l.prog w K mg base CX0 1 f3 _ ["things"] (Dl.Zu false QhR):=Qrm F3 T ;have G6:FnOk l.prog w K mg base CX0 3 f6 _ ["thing"] (Dl.Zu false QeQ):=Qm8 ⟨_,PySem.W.mg_of X G aA⟩ F6 T m2 G2 b2 k2 m3 G3 b3 k3;have G7:FnOk l.prog w K mg base CX0 4 f7 _ ["stairs"] (Dl.Zu false QiX):=Qrl F7 T m6 G6 b6 k6;have G10:FnOk l.prog w K mg base CX0 5 f10 _ ["stairs"] (Dl.Zu true QfU):=Qrn F10 T m7 G7 b7 k7;have G8:FnOk l.prog w K mg base CX0 5 f8 _ ["stairs"] (Dl.Zu false QzE):=Qm9 F8 T m7 G7 b7 k7;have G9:FnOk l.prog w K mg base CX0 6 f9 _ ["board"] (Dl.Zu false QAr):=Qyc F9 T m6 G6 b6 k6 m8 G8 b8 k8;have G12:FnOk l.prog w K mg base CX0 1 f12 _ ["told", "number"] (Dl.Zu true Qv3):=Qu1 F12 T ;have G11:FnOk l.prog w K mg base CX0 5 f11 _ ["stairs"] (Dl.Zu true QBe):=QuZ F11 T m7 G7 b7 k7 m12 G12 b12 k12;have G13:FnOk l.prog w K mg base CX0 6 f13 _ ["stairs", "number"] (Dl.Zu false Quf):=QuX ⟨_,PySem.W.mg_of X G aB⟩ F13 T m7 G7 b7 k7 m2 G2 b2 k2 m10 G10 b10 k10;have G5:FnOk l.prog w K mg base CX0 1 f5 _ ["many", "numbers"] (Dl.Zu false QAT):=Qyg F5 T ;have G4:FnOk l.prog w K mg base CX0 2 f4 _ ["many"] (Dl.Zu true QuP):=Qu2 F4 T m5 G5 b5 k5;have G16:FnOk l.prog w K mg base CX0 1 f16 _ ["put", "order"] (Dl.Zu false QzL):=Qyh F16 T ;have G15:FnOk l.prog w K mg base CX0 6 f15 _ ["stairs"] (Dl.Zu true QkM):=(Qro F15 T m10 G10 b10 k10 m16 G16 b16 k16 m4 G4 b4 k4 m3 G3 b3 k3).imp λ_ _ _ _ h=>Qzk h
 have G18:FnOk l.prog w K mg base CX0 1 f18 _ ["numbers"] (Dl.Zu false QA5):=Qyj F18 T ;have G17:FnOk l.prog w K mg base CX0 7 f17 _ ["stairs"] (Dl.Zu false QAw):=Qye F17 T m15 G15 b15 k15 m18 G18 b18 k18;have G14:FnOk l.prog w K mg base CX0 6 f14 _ ["one", "other"] (Dl.Zu false QAt):=Qyd F14 T m7 G7 b7 k7 m10 G10 b10 k10;have G20:FnOk l.prog w K mg base CX0 1 f20 _ ["board"] (Dl.Zu false Qvf):=QuY F20 T ;have G22:FnOk l.prog w K mg base CX0 1 f22 _ ["below", "columns", "taken"] (Dl.Zu true Qtz):=QuU F22 T ;have G21:FnOk l.prog w K mg base CX0 2 f21 _ ["board"] (Dl.Zu true QtC):=QuV F21 T m22 G22 b22 k22;have G19:FnOk l.prog w K mg base CX0 3 f19 _ ["board"] (Dl.Zu true Qjj):=Qyk F19 T m21 G21 b21 k21 m20 G20 b20 k20;have G23:FnOk l.prog w K mg base CX0 1 f23 _ ["_law_script", "_law_k"] (Qdj K):=Qna F23 T ;have G24:FnOk l.prog w K mg base CX0 1 f24 _ ["_law_cell"] (Dl.Zu true Dl.QAI):=(Qyf F24 T).imp λ_ _ _ _ h=>Dl.QAH h
 have G25:FnOk l.prog w K mg base CX0 1 f25 _ ["_law_pot_here", "_law_far"] (Dl.Zu true Dl.Qpi):=(QuW F25 T).imp λ_ _ _ _ h=>Dl.QwY h
 have G26:FnOk l.prog w K mg base CX0 2 f26 _ ["_law_pot_here", "_law_columns", "_law_most"] (Dl.Zu false QgE):=Qlp F26 T m25 G25 b25 k25;have G27:FnOk l.prog w K mg base CX0 1 f27 _ ["_law_number", "_law_many"] (Dl.Zu false QvD):=Qu0 F27 T ;exact Qyi F28 T m23 G23 b23 k23 m24 G24 b24 k24 m25 G25 b25 k25 m26 G26 b26 k26 m11 G11 b11 k11 m19 G19 b19 k19 m8 G8 b8 k8 m9 G9 b9 k9 m13 G13 b13 k13 m27 G27 b27 k27 m15 G15 b15 k15 m17 G17 b17 k17 m6 G6 b6 k6 m14 G14 b14 k14 m10 G10 b10 k10
theorem QCp{l:PySem.W.OpenLaw}{q:QD}{loose:List Str}{XP:(Str->Option Value)->Heap->Prop}{YP:Jl->Heap->Prop}{d:DefRec}{K:Params->PySem.W.Frag}(hn:l.most=some 63)(hdf:d.params.defaults=[])
  (hY:∀(w:Jl)(h:Heap),YP w h->(K w.params).In h)
  (F:∀(w:Jl)(mg:Str->Option Value)(fa:Addr)(h:Heap),(K w.params).In h->h.Ns mainGlobals mg->mg d.name=some (.ref fa) ->
   ∃fd:Jc,(∀(s:Shared)(u:Value),Qpc s fd ⟨[u],[]⟩ [("_law_script",u)])/\∀base:Heap,(K w.params).In base->base.Ns mainGlobals mg->FnOk l.prog w (K w.params) mg base CX0 8 fa fd ["_law_script"] (Dl.QfD (K w.params))) :
  PySem.W.WalkO q loose XP YP l.row.toRowW d [] (λf vs=>PySem.call f vs):=
 L2.QtF (n:=63) (k:=8) (x := "_law_script") (CX:=λ_=>CX0) (sp:=λw=>(Dl.QfD (K w.params))) hn (by decide) hdf ⟨rfl,by decide,by decide⟩ hY F (λ_ _ a ns hl _ hS=>⟨a,ns,rfl,hS,hl,λ_=>rfl⟩) λ_ _ _ _ _ z=>z
end Rk
open PySem.W
set_option maxRecDepth 100000 in
set_option maxHeartbeats 0 in
theorem PySem.Challenge.cw_rooklands_k66_whole_stairs_holds : PySem.Challenge.rw_rooklands_k66_whole_stairs.Holds := by
 w_on;o_law;k_head;(case hw=>w_witness2)
 k_fill
 refine Rk.QCp (l:=PySem.Challenge.rw_rooklands_k66_whole_stairs) rfl rfl (λw h Y=>PySem.W.kIn_of Y) ?F
 case F=>
  intro w mg fa h KX G hmg;refine' Rk.Qzl KX G hmg ?a1 ?l1 ?c1 ?k1 ?a2 ?l2 ?c2 ?k2 ?a3 ?l3 ?c3 ?k3 ?a4 ?l4 ?c4 ?k4 ?a5 ?l5 ?c5 ?k5 ?a6 ?l6 ?c6 ?k6 ?a7 ?l7 ?c7 ?k7 ?a8 ?l8 ?c8 ?k8 ?a9 ?l9 ?c9 ?k9 ?a10 ?l10 ?c10 ?k10 ?a11 ?l11 ?c11 ?k11 ?a12 ?l12 ?c12 ?k12 ?a13 ?l13 ?c13 ?k13 ?a14 ?l14 ?c14 ?k14 ?a15 ?l15 ?c15 ?k15 ?a16 ?l16 ?c16 ?k16 ?a17 ?l17 ?c17 ?k17 ?a18 ?l18 ?c18 ?k18 ?a19 ?l19 ?c19 ?k19 ?a20 ?l20 ?c20 ?k20 ?a21 ?l21 ?c21 ?k21 ?a22 ?l22 ?c22 ?k22 ?a23 ?l23 ?c23 ?k23 ?a24 ?l24 ?c24 ?k24 ?a25 ?l25 ?c25 ?k25 ?a26 ?l26 ?c26 ?k26 ?a27 ?l27 ?c27 ?k27 ?a28 ?l28 ?c28 ?k28 ?z1 ?z2 ?z3 ?z4 ?z5 ?z6 ?z7 ?z8 ?z9 ?z10 ?z11 ?z12 ?z13 ?z14 ?z15 ?z16 ?z17 ?z18 ?z19 ?aA ?aB
  (case a1=>k_is)
  (case l1=>k_is)
  (case c1=>k_is)
  (case k1=>k_is)
  (case a2=>k_is)
  (case l2=>k_is)
  (case c2=>k_is)
  (case k2=>k_is)
  (case a3=>k_is)
  (case l3=>k_is)
  (case c3=>k_is)
  (case k3=>k_is)
  (case a4=>k_is)
  (case l4=>k_is)
  (case c4=>k_is)
  (case k4=>k_is)
  (case a5=>k_is)
  (case l5=>k_is)
  (case c5=>k_is)
  (case k5=>k_is)
  (case a6=>k_is)
  (case l6=>k_is)
  (case c6=>k_is)
  (case k6=>k_is)
  (case a7=>k_is)
  (case l7=>k_is)
  (case c7=>k_is)
  (case k7=>k_is)
  (case a8=>k_is)
  (case l8=>k_is)
  (case c8=>k_is)
  (case k8=>k_is)
  (case a9=>k_is)
  (case l9=>k_is)
  (case c9=>k_is)
  (case k9=>k_is)
  (case a10=>k_is)
  (case l10=>k_is)
  (case c10=>k_is)
  (case k10=>k_is)
  (case a11=>k_is)
  (case l11=>k_is)
  (case c11=>k_is)
  (case k11=>k_is)
  (case a12=>k_is)
  (case l12=>k_is)
  (case c12=>k_is)
  (case k12=>k_is)
  (case a13=>k_is)
  (case l13=>k_is)
  (case c13=>k_is)
  (case k13=>k_is)
  (case a14=>k_is)
  (case l14=>k_is)
  (case c14=>k_is)
  (case k14=>k_is)
  (case a15=>k_is)
  (case l15=>k_is)
  (case c15=>k_is)
  (case k15=>k_is)
  (case a16=>k_is)
  (case l16=>k_is)
  (case c16=>k_is)
  (case k16=>k_is)
  (case a17=>k_is)
  (case l17=>k_is)
  (case c17=>k_is)
  (case k17=>k_is)
  (case a18=>k_is)
  (case l18=>k_is)
  (case c18=>k_is)
  (case k18=>k_is)
  (case a19=>k_is)
  (case l19=>k_is)
  (case c19=>k_is)
  (case k19=>k_is)
  (case a20=>k_is)
  (case l20=>k_is)
  (case c20=>k_is)
  (case k20=>k_is)
  (case a21=>k_is)
  (case l21=>k_is)
  (case c21=>k_is)
  (case k21=>k_is)
  (case a22=>k_is)
  (case l22=>k_is)
  (case c22=>k_is)
  (case k22=>k_is)
  (case a23=>k_is)
  (case l23=>k_is)
  (case c23=>k_is)
  (case k23=>k_is)
  (case a24=>k_is)
  (case l24=>k_is)
  (case c24=>k_is)
  (case k24=>k_is)
  (case a25=>k_is)
  (case l25=>k_is)
  (case c25=>k_is)
  (case k25=>k_is)
  (case a26=>k_is)
  (case l26=>k_is)
  (case c26=>k_is)
  (case k26=>k_is)
  (case a27=>k_is)
  (case l27=>k_is)
  (case c27=>k_is)
  (case k27=>k_is)
  (case a28=>k_is)
  (case l28=>k_is)
  (case c28=>k_is)
  (case k28=>k_is)
  (case z1=>k_is)
  (case z2=>k_is)
  (case z3=>k_is)
  (case z4=>k_is)
  (case z5=>k_is)
  (case z6=>k_is)
  (case z7=>k_is)
  (case z8=>k_is)
  (case z9=>k_is)
  (case z10=>k_is)
  (case z11=>k_is)
  (case z12=>k_is)
  (case z13=>k_is)
  (case z14=>k_is)
  (case z15=>k_is)
  (case z16=>k_is)
  (case z17=>k_is)
  (case z18=>k_is)
  (case z19=>k_is)
  (case aA=>k_is)
  (case aB=>k_is)
