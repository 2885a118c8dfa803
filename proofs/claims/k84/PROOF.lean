import PyProof.Rows.All
import Wide.All
import OpenK.AllK
import Wide.FinOn
import Lean
import PyProof.EqAt
import PyProof.EqKinds
import PyProof.TupleCall
import PyProof.Rows.SortRuns
import PyProof.Rows.SortShellK
import PyProof.P3Eq
import PyProof.Draws
import PyProof.EnumMake
import PyProof.NeData
import KE.LcSums
import PyProof.WalkInts
import PyProof.SeqI3
import KE.KSortTup
import KE.KRevIter
import PyProof.FactsAll.range_2
import PyProof.DictCompW
import PyProof.SetRoads
import PyProof.FactsAll.set_1
import PyProof.Rows.SetFrom
import PyProof.CollectWalk
import PyProof.Walks
import PyProof.TupleIter
import PyProof.TupleKey
import PySem.Challenge.RW_rooklands_k84_whole_partings
local macro_rules | `(tactic| omega) => `(tactic| first | lia | omega +splitDisjunctions)
open PySem renaming PyData->Qa,wpAny_pure->Qb,Program->QC,Expr->QU,FuncData->Q2,Around->Q5,World->Q9,wpAny_newObj_type->Jy,wpAny_call_entry->JF,wpAny_holding->J6,wpAny_seqItems->J9,wpAny_callSpecial?_slot->Zd,wpAny_field->Zg,wpAny_setState_of->Zo,wpAny_forIn_list->ZC,wpAny_truthy_bool->ZR,wpAny_specialOf->Ya,wpAny_of_eq->Yr,wpAny_comprehension_free->Yz,Scope->YC,ReadsAll->YL,Builtin->YO,wpAny_askSetting->YX,wpAny_setField_rec->Y9,Stmt->Qad,codeAny_builtin->Qal,Fin->Qam,mem_of_lookup->Qar,IsTupleKey->Qas,wpAny_newFunctionEnv->Qau,wpAny_isInstance->QaB,sizeLine_eq->QaJ,codeAny_compStart_list->Qa8,NameKind->Qbf,wpAny_typeOf->Qbn,Paired->Qbp,Reads->QbA,plainId_quiet->QbI,wpAny_passesOwn->Qb0,wpAny_Call_Name_kw->Qcp,codeAny_mono->Qcq,wpAny_setField->QcH,isSubtype_type->QcI,wpAny_attempt->Qdd,Comprehension->Qdg,wpAny_pyIter_zip->Qdx,wpAny_pyIter_rangeiter->QdF,isSubtype_tuple_tuple->Qeo,codeAny_of_tree->Qep,builtinLookup_eq_fast->Qeq,Builtin->Qet,wpAny_updateSeq_pair->QeT,wpAny_tupleItemsOf->Qgq,wpAny_pyIter_tuple->Qgr,wpAny_onRaise->Qgs,wpAny_newList->Qgt,rangeSize_one->Qgu,Operator->Qgy,wpAny_pyIter_list->QhG,call_meets->QhH,seqIndex_neg->QiM,IsPart->QiV,noFill_tuple_add->Qi0,wpAny_execs_nil->Qk8,typeLookup_type->Qk9,seqIndex_of->Qla,Keyword->Qlh,IsRangeIter->Qli,wpAny_letOwnedTupleGo_zip->Ql6,seq_tuple_add->QoW,call->QoY,BindsTo->Qo4,wpAny_pyNext_range_end->Qr8,wpAny_getItem_list_neg->Qr9,exec_Assign_Name_used->Qs6,concat_meets->Qs8,Result->Qtb,IsZip->Qth,CmpOp->Qtj,wpAny_setEntries_of->Qv6,wpAny_letGo->Qv7,IsRange->Qwk,tupleKind_room_in1->Qy0,ZipApart->Qy2,Within->Qy4,wpAny_storeSet_of->Qzp,wpAny_sequenceKey->Qzq,wpAny_pyIter_slot->Qzr,wpAny_pyIter_enum->Qzs,wpAny_collect_seq->Qzt,wpAny_assign_Name->Qzu,wpAny_Name->Qzv,typeIs_int->Qzw,slot_list_getitem->Qzx,Model->QzM
open PySem.W renaming Frag->Qc,keepIn->Qg,nsIn->Qy,codeIn->QL,fnOf->QN,mg_of->QP,mg_none_of->QZ,kia_one->Zm,methodObj->Qes,instObj->Qfx,OpenLaw->Qfy,lookIn->Qgw,kitOne->Qgx,cellsFrom_some->QiP,kitx_list->Ql9,kitx_dict->Qma,plainGet->QoQ,findIn->Qsc,WalkO->Qtc
open Array renaming length_toList->Qd,getElem?_toList->Q0,toList_append->JC,getElem_toList->Zb,getD->Zk,perm_iff_toList_perm->Zz,mem_toList_iff->ZU,getElem?_eq_none->Z6,getElem?_eq_some_iff->Z7,forIn_toList->Yb,mem_of_getElem?->YY,toList_extract->Qba,replicate->Qbr,getElem_setIfInBounds->Qbs,size_extract->QbH,getElem?_eq_getElem->QbM,toList_push->Qb6,toList_reverse->Qdh,size_map->QdD,all_eq_true_iff_forall_mem->QeB,toList_inj->QfC,getD_eq_getD_getElem?->QgD,toList_setIfInBounds->QhF,size_setIfInBounds->QiX,toList_filterMap->Qj4,foldl_toList->QoT,toList->Qzd
open PySem.Heap renaming get?_push_of_some->Qe,lt_size->Qm,get?_push_size->Qw,size_push->Zf,get?_update_self->ZQ,get?_update_other->YJ,SameBut->Y2,IsTuple->QzR
open List renaming length_map->Qf,mem_map->Ql,getElem?_eq_getElem->Qo,range->Qq,size_toArray->Qr,mem_cons->Qu,length_append->Qv,length_cons->Qx,getElem?_map->QB,mem_cons_of_mem->QH,append_assoc->QQ,mem_append_right->QR,length_range->QV,mem_singleton->Q6,mem_of_getElem?->Q7,map_map->Q8,mem_append->Jb,map_cons->Jc,pairwise_append->Jd,take_append_drop->Jg,not_mem_nil->Jh,mem_iff_getElem?->Ji,replicate->Jj,getElem?_append_right->Jk,mem_cons_self->Jm,pairwise_iff_getElem->Jo,mem_range->Jp,getElem?_eq_some_iff->Jq,map_append->Jr,getElem?_eq_none->Js,lookup_cons->Jw,getD_eq_getElem?_getD->Jx,length_take->JG,all_eq_true->JN,map_congr_left->JS,getElem?_range->JT,mem_filter->JW,append_nil->JX,flatMap_cons->Zl,pairwise_cons->Zp,take_length->Zv,replicate_succ->ZD,filterMap_cons->ZE,getElem?_append_left->ZH,drop_zero->ZI,mem_append_left->ZV,getElem?_cons_succ->ZY,take_add_one->Z0,ext_getElem?->Z1,perm_append_comm->Yc,mem_filterMap->Yd,filterMap_append->Ye,mapM_toArray->Yn,length_set->Yo,flatten_cons->Yp,find?_cons->Yq,toList_toArray->Yu,getElem?_replicate->Yv,flatMap_append->Yw,length_drop->YA,drop_of_length_le->YI,getElem?_drop->YM,range_succ->Y0,nodup_cons->Y1,pairwise_map->Qaa,nodup_append->Qab,extract_eq_take_drop->Qao,drop_eq_getElem_cons->Qap,pairwise_singleton->QaC,filterMap_map->QaD,take_of_length_le->QaP,length_replicate->QaY,mem_of_mem_drop->Qbb,dropLast_concat_getLast->Qbg,length_nil->Qbw,foldl_cons->Qbx,zip_cons_cons->QbK,map_id->Qcr,filter_cons_of_pos->Qcs,filter_cons_of_neg->Qct,any_cons->Qcu,mem_toArray->QcK,mem_flatMap->QcL,getElem_map->QcM,any_eq_true->QcN,pairwise_lt_range->QcQ,getElem?_set_self->QcR,nil_append->Qda,length_singleton->Qdb,isPerm_iff->Qdc,mem_of_mem_take->QdA,mem_iff_getElem->QdB,getElem?_set_ne->QdC,take_take->QdH,getElem?_take->Qey,find?_eq_none->Qez,take_sublist->Qfu,map_nil->QfA,zipIdx_cons->QfM,getElem_mem->QfN,of_mem_zip->QhA,lookup->QhB,length->QhC,forIn_cons->QhD,perm_ext_iff_of_nodup->QhM,getLast?_eq_some_iff->QiS,getLast?_eq_none_iff->QiT,drop_drop->QiU,getElem?_take_of_lt->Qi2,map_take->Qj0,getElem?_cons_zero->Qj1,zipWith->QlZ,pairwise_flatMap->Ql0,length_filter_le->Ql1,getElem?_toArray->Ql2,length_zipWith->QoS,map_filterMap->Qo2,reverse_cons->Qsd,getElem?_set->Qse,foldl->Qsf,perm_middle->Qte,nodup_range->Qtf,flatMap_map->Qtg,zipIdx_nil->QvV,take_range->QvW,find?_some->QvX,take_zero->Qwh,nodup_nil->Qwi,forIn_nil->Qwj,take_nil->Qy6,drop_nil->Qy7,Pairwise->Qy8,toArray->QzN,any_map->QzO,all_map->QzP
open Nat renaming le_refl->Qh,zero_le->Qs,ne_of_lt->Qz,lt_of_lt_of_le->QM,le_trans->Q1,zero_add->J7,lt_succ_of_lt->ZF,le_of_lt->ZZ,lt_of_le_of_lt->YV,not_lt_zero->Y4,min_eq_left->Y5,lt_trichotomy->Qaf,lt_irrefl->Qag,ne_of_gt->Qax,add_sub_cancel->QaK,succ_pos->QbU,add_zero->Qdf,mod_lt->Qdz,pow_le_pow_right->QdG,sub_self->QfL,min_le_right->Qgz,lt_succ_self->QgA,le_max_right->QgB,succ_add->Qmc,sub_zero->Qmd,le_succ->Qo1,le_of_lt_succ->Qtd,zero_lt_two->Qwf,min_le_left->Qwg
open PySem.PyData renaming int->Qi,depthAll->QF,eqv->QY,canLayAll0->Ja,depth->ZG,tuple->ZW,list->YT,bool->Qbe,eqvAll->Qd9,canLay0->Qhz
open PyProof.Rows renaming wpS_bind->Qj,wpS_pure->Qk,callWith_type1->JK,wpS_forRange->J3,SortSt->J4,slot_tuple_getitem->J5,SortKind->Yt,wpS_mono->YK,wpS_modify->QaO,wpS_get->QcG,step_dedup->QcY,oneTypeOnly'_eq->Qen,wpS_lift->Qex,AllBare->QfD,get?_update_seq->Qlb,entry_list_sort->Qlc,slot_list_sort->Ql7,args_list_sort->Ql8,listUpdate_at->QoX,subscriptTail_builtinR->Qsa,plain_sorted->Qs5,entry_sorted->Qs7,args_sorted1->Qs9,seqEpoch_at->Qv8,kind_sorted->Qv9,keyKind'_eq->Qwa,entry_tuple_getitem->Qwb,args_tuple_getitem->Qy1,boot_range->Qzy
open Bool renaming and_eq_true_iff->Qp,false_ne_true->QK,and_eq_true->JH,false_eq_true->JI,not_true->Yy,or_eq_true->QaF,eq_iff_iff->QaG,false_or->Qj2,and_true->Qj3,not_false->Qwn,true_and->Qzb,or_false->Qzc
open Option.some renaming inj->Qt
open PySem.Value renaming ref->QJ,none->Ze,type->Yj,int->Qb1,bool->Qb2,builtin->Qer,str->Qld,isStrOf->Qwc,isInt->QzB,float->QzC
open Int renaming toNat_natCast->QX,add_zero->Qme,natCast_nonneg->Qsg
open PySem.SetTable renaming bits->Je,runEnd->Jn,turns->JA,below->JM,Probe->Zc,insertAt->Zx,leap->Ym,advance->Qae,laid->QaX,fresh->Qbv,layClean->QbG,fits->QbT,slot->Qdy,toList_insertAt->Qgv,fill->Qhy,has->QiO,sizeAbove->Qlf
open PySem.NameKind renaming free->Jf,cell->YW
open Or renaming inr->Jl,inl->Ju
open PySem.SetTable.layClean renaming free->Jz
open PySem.SetTable.probe renaming go->JE
open PySem.Builtin.Range renaming rangeFitsLong->JJ,rangeSize->Zj,rangeFields->QzY
open PySem.Builtin.SmallTypes renaming nextOf->JP,ownedTupleIsFree->ZJ,ownedTupleHandOut->QbB
open ForInStep renaming yield->JY,done->Qbq
open Classical renaming byContradiction->Za
open PySem.Heap.SameBut renaming update->Zq
open PySem.Builtin.Tuple renaming tupleHashOf->Zr,tupleExact->Y3,tupleItemsOf->QaT,tupleIsExact->QzU,tupleCompareSizes->QzV
open PySem.Builtin.Int renaming intBits->Zs,intTooBig->QgC
open Option renaming map_eq_some_iff->Zy,isSome_iff_exists->QhL,isSome_map->QoR,getD_none->Qo0,none->Qy5
open PyProof.Rows.F renaming plain_set_update_loop->ZM,entry_set_update_loop->Qb5
open PySem.Obj renaming mapSeq->ZT,data_mapFields->YU,isFreed_of_fields->Qde,cls_mapFields->Qfz,putSet->QjZ,mapFields->Qlg
open PySem.Around renaming under_plainId->Yi
open PySem.SeqAt.Reads renaming unique->Ys
open PySem.Builtin renaming bitAnd->Yx,bitOr->QdL
open False renaming elim->YB
open PySem.PassesOwn renaming never->YD
open List.Perm renaming append_left->YE,refl->Y6,append_right->Qay,trans->Qa0,swap->QfB,eq_of_pairwise->QfO
open List.Pairwise renaming filter->YF,imp_of_mem->QeA,nil->QhN,imp->QhO,map->QzQ
open PySem.Builtin.Slice renaming slicePlaces->YN,sliceAdjust->Qa1,sliceApplied->Qea,slicePartIndex->QzW,sliceFields->QzX
open PySem.F renaming slot_tuple_hash->Qan,slot_tuple_iterator_next->Qaq,called_set->QaE,args_tuple_add_2->QbJ,entry_tuple_add->Qb4,slot_tuple_add->Qb9,slot_tuple_lt->QcJ,slot_zip_next->QdI,slot_tuple_eq->QdJ,slot_range_reversed->QdK,plainAttrs_list->QhJ,args_tuple_lt_2->QhK,entry_tuple_lt->QiQ,args_tuple_iterator_next_1->QiW,slot_set_iter->Qi1,entry_tuple_iterator_next->Qi3,plain_reversed_new->Qsh,plain_list_iadd->Qwl,args_zip_next_1->Qwm,entry_zip_next->Qza,slot_int_rmul->QzS,plain_set_new->QzT
open PySem.Str renaming ofString->Qaw
open PySem.Challenge renaming rw_rooklands_k84_whole_partings->QaS,pw_rooklands_k84_whole_partings->Qwd
open PySem.SetTable.below renaming go->Qa9
open PySem.Builtin.List renaming listTooLong->Qbh,listExtendWith->Qeb,listSameRef->QeU
open True renaming intro->Qbo
open PySem.Calls renaming call_function_entry->QbL,Name_function_global->QhE
open Sum renaming inl->Qb3,inr->QhI
open Ne renaming symm->QcP
open Array.Perm renaming refl->QeC
open PySem.SeqAt renaming eqAt_reads->Qfw
open PySem.Shared renaming TypeIs->QiN,heap->Qy3
open PySem.Paired renaming length->QiR
open Sum.inl renaming inj->Qle
open PySem.PyData.int renaming inj->Qmb
open String renaming splitOnAux->QoP,splitOn->Qta
open Prod renaming ext->QoZ
open List.cons renaming inj->Qo3
open PySem.pickOrder renaming go->Qsb
open PyProof.Rows.IsTup renaming new->Qti
open PySem.Builtin.Frozenset renaming updateFrom->Qtk,newClass->Qtl
open Prod.mk renaming inj->Qwe
open PySem.Heap.IsSliceOf renaming new->Qy9
open PySem.Walks renaming range->Qzz
open PySem.W.WShape renaming has->QzA
open PyProof.Rows.SortSt renaming mk'->QzD
open PySem.EqMixed renaming ne_str_int->QzE,ne_str_bool->QzF,ne_int_str->QzG,ne_bool_str->QzH,eq_str_int->QzI,eq_str_bool->QzJ,eq_int_str->QzK,eq_bool_str->QzL
open PySem PySem.Spec PyProof.Rows
set_option Elab.async false
set_option linter.all false
set_option maxRecDepth 100000
namespace L2
abbrev Key:=Sum Int Str
def QlJ:Key->Value->Bool
 |.inl k,v=>QzB k v
 |.inr x,v=>Qwc x v
def QCb(w:Q9):Key->Int
 |.inl k=>hashInt k
 |.inr x=>hashStr w x
theorem Yk:∀{k:Key}{v:Value},QlJ k v=true->(∃i t,k=Qb3 i/\v=Qb1 i t)∨(∃x t,k=QhI x/\v=Qld x t)
 |.inl i,v,h=>by
  obtain⟨t,e⟩:=Value.isInt_shape (k:=i) (v:=v) h;exact .inl ⟨i,t,rfl,e⟩
 |.inr x,v,h=>by
  obtain⟨t,e⟩:=Value.isStrOf_shape (x:=x) (v:=v) h;exact .inr ⟨x,t,rfl,e⟩
theorem QnN(i:Int)(t:Tok):QlJ (.inl i) (.int i t)=true:=by simp[QlJ,QzB]
theorem QnM(x:Str)(t:Tok):QlJ (.inr x) (.str x t)=true:=by simp[QlJ,Qwc]
theorem Qyg(a b:Int):decide ((Qb3 a:Key)=Qb3 b)=(a == b):=by
 by_cases e:a=b
 ·subst e;simp
 ·have h:¬(Qb3 a:Key)=Qb3 b:=λq=>e (Qle q)
  rw[decide_eq_false h];exact(beq_eq_false_iff_ne.mpr e).symm
theorem Qyc(a b:Str):decide ((QhI a:Key)=QhI b)=decide (a=b):=by
 by_cases e:a=b
 ·subst e;simp
 ·have h:¬(QhI a:Key)=QhI b:=λq=>e (Sum.inr.inj q)
  rw[decide_eq_false h,decide_eq_false e]
theorem Qyf(a:Int)(b:Str):decide ((Qb3 a:Key)=QhI b)=false:=decide_eq_false (λq=>nomatch q)
theorem Qyd(a:Str)(b:Int):decide ((QhI a:Key)=Qb3 b)=false:=decide_eq_false (λq=>nomatch q)
def mixKind(prog:QC)(w:Q9):PySem.KeyKind prog w Key where
 is:=QlJ
 hash:=QCb w
 inj:=λv a b ha hb=>by
  rcases Yk ha with⟨i,t,rfl,rfl⟩ | ⟨x,t,rfl,rfl⟩
  ·rcases Yk hb with⟨j,u,rfl,e⟩ | ⟨y,u,rfl,e⟩
   ·injection e with e1 _;rw[e1]
   ·exact nomatch e
  ·rcases Yk hb with⟨j,u,rfl,e⟩ | ⟨y,u,rfl,e⟩
   ·exact nomatch e
   ·injection e with e1 _;rw[e1]
 byValue:=λk v h=>by
  rcases Yk h with⟨i,t,rfl,rfl⟩ | ⟨x,t,rfl,rfl⟩<;>rfl
 pyHash:=λhv h=>by
  rcases Yk hv with⟨i,t,rfl,rfl⟩ | ⟨x,t,rfl,rfl⟩
  ·exact wpAny_pyHash_int h
  ·exact wpAny_pyHash_str h
 eqBool:=λhu hv h=>by
  rcases Yk hu with⟨i,t,rfl,rfl⟩ | ⟨x,t,rfl,rfl⟩
  ·rcases Yk hv with⟨j,u,rfl,rfl⟩ | ⟨y,u,rfl,rfl⟩
   ·rw[Qyg] at h;exact wpAny_eqBool_int h
   ·rw[Qyf] at h;exact SeqAt.EqAt.int_str i t y u _ _ _ _ h
  ·rcases Yk hv with⟨j,u,rfl,rfl⟩ | ⟨y,u,rfl,rfl⟩
   ·rw[Qyd] at h;exact SeqAt.EqAt.str_int x t j u _ _ _ _ h
   ·rw[Qyc] at h;exact wpAny_eqBool_str h
 «strs» := λk x t v h=>by
  rcases Yk h with⟨i,u,rfl,e⟩ | ⟨y,u,rfl,e⟩
  ·exact nomatch e
  ·injection e with e1 _
   subst e1;cases v<;>rfl
theorem Qjy(prog:QC)(w:Q9)(i:Int)(t:Tok):(mixKind prog w).is (.inl i) (.int i t)=true:=QnN i t
theorem Qjx(prog:QC)(w:Q9)(x:Str)(t:Tok):(mixKind prog w).is (.inr x) (.str x t)=true:=QnM x t
inductive V where
 |non | bl (b:Bool) | int (i:Int) | str (x:Str) | byt (b:Array UInt8) | flt (b:UInt64) | ref (a:Addr) | ty (n:String)
 deriving DecidableEq
def RelV:V->Value->Prop
 |.non,u=>u=Ze
 |.bl b,u=>u=Qb2 b
 |.int i,u=>∃t,u=Qb1 i t
 |.str x,u=>∃t,u=Qld x t
 |.byt b,u=>∃t,u=Value.bytes b t
 |.flt b,u=>∃t,u=QzC b t
 |.ref a,u=>u=QJ a
 |.ty n,u=>u=Yj n
abbrev Vals:List V->List Value->Prop:=Qbp RelV
theorem Vals.length{xs:List V}{us:List Value}(r:Vals xs us):xs.length=us.length:=QiR r
theorem Vals.get:∀{xs:List V}{us:List Value}{i:Nat}{x:V},Vals xs us->xs[i]? = some x->∃u,us[i]? = some u/\RelV x u
 |_,_,_,_,.nil,e=>by simp at e
 |_,_,0,_,.cons r _,e=>by simp at e;subst e;exact⟨_,rfl,r⟩
 |_,_,i+1,x,.cons _ t,e=>by
  obtain⟨u,h1,h2⟩:=Vals.get (i:=i) (x:=x) t (by simpa using e);exact⟨u,by simpa using h1,h2⟩
theorem Vals.set{x:V}{u:Value}(r:RelV x u):∀{xs:List V}{us:List Value}(i:Nat),Vals xs us->Vals (xs.set i x) (us.set i u)
 |_,_,_,.nil=>.nil
 |_,_,0,.cons _ t=>.cons r t
 |_,_,i+1,.cons q t=>.cons q (Vals.set r i t)
theorem Vals.append:∀{xs ys:List V}{us ws:List Value},Vals xs us->Vals ys ws->Vals (xs++ys) (us++ws)
 |_,_,_,_,.nil,s=>s
 |_,_,_,_,.cons r t,s=>.cons r (Vals.append t s)
theorem Vals.take:∀{xs:List V}{us:List Value}(n:Nat),Vals xs us->Vals (xs.take n) (us.take n)
 |_,_,0,_=>.nil
 |_,_,_+1,.nil=>.nil
 |_,_,n+1,.cons r t=>.cons r (Vals.take n t)
theorem Vals.drop:∀{xs:List V}{us:List Value}(n:Nat),Vals xs us->Vals (xs.drop n) (us.drop n)
 |_,_,0,r=>r
 |_,_,_+1,.nil=>.nil
 |_,_,n+1,.cons _ t=>Vals.drop n t
def RelO:Option V->Option Value->Prop
 |some v,some u=>RelV v u
 |none,none=>True
 |_,_=>False
def KV{κ:Type}:List (κ×V)->List (κ×Value)->Prop:=Qbp λ(p:κ×V)(q:κ×Value)=>p.1=q.1/\RelV p.2 q.2
def kV:Key->V
 |.inl i=>.int i
 |.inr x=>.str x
inductive HO where
 /-- a list -/
 |lst (xs:List V)
 /-- a tuple (never changes) -/
 |tup (xs:List V)
 /-- a dict whose keys are ints and texts;one whose keys are tuples of ints and texts (the empty one is both) -/
 |dK (kvs:List (Key×V)) | dT (kvs:List (List Key×V))
 /-- a set of ints: its members,its size -/
 |set (S:Int->Bool) (n:Nat)
 /-- an instance of the class at C,its dict at dx,its attributes -/
 |ins (C dx:Addr) (fs:List (Str×V))
 /-- the dict of the instance at x -/
 |own (x:Addr)
 /-- the dict of an exception -/
 |xd (fs:List (Str×V))
 /-- a bound method,f of x -/
 |met (f x:Addr)
 /-- a range object lo,lo+1,.. below hi -/
 |rng (lo hi:Int)
 /-- a thing that is known to the object (the script;a dict while a loop walks it): read,never written while it is so -/
 |frz (o:Obj) (u:HO)
 /-- a code object's table -/
 |tbl (ps:Array Value)
 /-- any other thing,by what is true of its one object (a def of one's own: SetO a S n:=HO.ext λh=>..) -/
 |ext (φ:Heap->Prop)
abbrev Hp:=Addr->Option HO
def upd(H:Hp)(a:Addr)(o:HO):Hp:=λb=>if b=a then some o else H b
theorem JQ{H:Hp}{a:Addr}{o:HO}:upd H a o a=some o:=by unfold upd;rw[if_pos rfl]
theorem Zu{H:Hp}{a b:Addr}{o:HO}(h:b≠a):upd H a o b=H b:=by unfold upd;rw[if_neg h]
theorem Yf{H:Hp}{a b:Addr}{o:HO}(h:H a=some o)(h':H b=none):a≠b:=by
 intro e;subst e;rw[h] at h';cases h'
section
variable(P:QC)(w:Q9)
def ObjOk(H:Hp)(h:Heap)(a:Addr):HO->Prop
 |.lst xs=>xs.length<=sizeLine/\∃(its:List Value)(n:Nat),Vals xs its/\h.get? a=some { cls:=.type "list",data:=.seq its.toArray n }
 |.tup xs=>xs.length<=sizeLine/\∃its:List Value,Vals xs its/\IsTup h a its.toArray
 |.dK kvs=>kvs.length<=sizeLine/\(a == sysModules)=false/\∃vs,KV kvs vs/\h.DictOf (mixKind P w) a vs
 |.dT kvs=>kvs.length<=sizeLine/\(a == sysModules)=false/\∃xs:List (List Key×Addr×Value),
   Qbp (λ(p:List Key×V)(q:List Key×Addr×Value)=>p.1=q.1/\H q.2.1=some (.tup (p.1.map kV))/\RelV p.2 q.2.2) kvs xs /\
   ∃o es ep,h.get? a=some o/\o.ExactDict/\o.data=.dict es ep/\es.toList=xs.map (entryOfKey (tupleKind (mixKind P w)))/\(xs.map (·.1)).Nodup
 |.set S n=>h.SetOf (intKind P w) a S n
 |.ins C dx fs=>H dx=some (.own a)/\fs.length<=1000/\dx≠a/\h.get? a=some (PySem.W.instObj C dx) /\
   ∃mA,h.Ns1 dx mA/\(∀f,RelO (fs.lookup f) (mA f))/\PySem.Within mA (fs.map (·.1))
 |.own _=>∃o,h.get? a=some o
 |.xd fs=>∃mA,h.Ns1 a mA/\∀f,RelO (fs.lookup f) (mA f)
 |.rng lo hi=>∃t u v,h.get? a=some { cls:=.type "range",data:=.fields #[.int lo t,.int hi u,.int 1 v] }
 |.frz o u=>h.get? a=some o/\ObjOk H h a u
 |.tbl ps=>h.get? a=some { cls:=.none,data:=.fields ps }
 |.met f x=>h.get? a=some (PySem.W.methodObj (.ref f) (.ref x))
 |.ext φ=>φ h/\(∃o,h.get? a=some o)/\∀h1 h2:Heap,φ h1->(∀o,h1.get? a=some o->h2.get? a=some o)->φ h2
def HOk(H:Hp)(h:Heap):Prop:=∀a o,H a=some o->ObjOk P w H h a o
end
section
variable{P:QC}{w:Q9}{H H':Hp}{h h':Heap}{a:Addr}{o:HO}
theorem ObjOk.lt(x:ObjOk P w H h a o):a<h.objs.size:=by
 cases o with
 |lst xs=>obtain⟨_,_,_,_,e⟩:=x;exact Qm e
 |tup xs=>obtain⟨_,_,_,p⟩:=x;exact p.lt
 |dK kvs=>obtain⟨_,_,_,_,o,_,_,e,_⟩:=x;exact Qm e
 |dT kvs=>obtain⟨_,_,_,_,o,_,_,e,_⟩:=x;exact Qm e
 |set S n=>obtain⟨o,_,_,_,e,_⟩:=x;exact Qm e
 |ins C dx fs=>obtain⟨_,_,_,e,_⟩:=x;exact Qm e
 |own y=>obtain⟨_,e⟩:=x;exact Qm e
 |xd fs=>obtain⟨_,⟨_,_,_,e,_⟩,_⟩:=x;exact Qm e
 |rng lo hi=>obtain⟨_,_,_,e⟩:=x;exact Qm e
 |frz ob u=>obtain⟨e,_⟩:=x;exact Qm e
 |tbl ps=>exact Qm (show h.get? a=some _ from x)
 |met f y=>exact Qm (show h.get? a=some _ from x)
 |ext φ=>obtain⟨_,⟨_,e⟩,_⟩:=x;exact Qm e
theorem Qbp.mapP{α β:Type}{F G:α->β->Prop}:∀{l₁:List α}{l₂:List β},Qbp F l₁ l₂->(∀a b,F a b->G a b)->Qbp G l₁ l₂
 |_,_,.nil,_=>.nil
 |_,_,.cons r t,f=>.cons (f _ _ r) (Qbp.mapP t f)
theorem ObjOk.stay(x:ObjOk P w H h a o)(k:∀b u,(b=a∨H b=some (.own a))->h.get? b=some u->h'.get? b=some u)
  (ho:∀b,H b=some (.own a)->H' b=some (.own a))(ht:∀b xs,H b=some (.tup xs)->H' b=some (.tup xs)):ObjOk P w H' h' a o:=by
 induction o with
 |lst xs=>obtain⟨z,its,n,r,e⟩:=x;exact⟨z,its,n,r,k _ _ (.inl rfl) e⟩
 |tup xs=>obtain⟨z,its,r,ob,e,c⟩:=x;exact⟨z,its,r,ob,k _ _ (.inl rfl) e,c⟩
 |dK kvs=>obtain⟨z,y,vs,r,ob,es,ep,e,c⟩:=x;exact⟨z,y,vs,r,ob,es,ep,k _ _ (.inl rfl) e,c⟩
 |dT kvs=>
  obtain⟨z,y,xs,r,ob,es,ep,e,c⟩:=x;exact⟨z,y,xs,Qbp.mapP r λp q z=>⟨z.1,ht _ _ z.2.1,z.2.2⟩,ob,es,ep,k _ _ (.inl rfl) e,c⟩
 |set S n=>obtain⟨ob,es,ep,t,e,c⟩:=x;exact⟨ob,es,ep,t,k _ _ (.inl rfl) e,c⟩
 |ins C dx fs=>
  obtain⟨d,z,ne,e,mA,⟨od,es,ep,e2,c⟩,r⟩:=x;exact⟨ho _ d,z,ne,k _ _ (.inl rfl) e,mA,⟨od,es,ep,k _ _ (.inr d) e2,c⟩,r⟩
 |own y=>obtain⟨ob,e⟩:=x;exact⟨ob,k _ _ (.inl rfl) e⟩
 |xd fs=>obtain⟨mA,⟨od,es,ep,e,c⟩,r⟩:=x;exact⟨mA,⟨od,es,ep,k _ _ (.inl rfl) e,c⟩,r⟩
 |rng lo hi=>obtain⟨t,u,v,e⟩:=x;exact⟨t,u,v,k _ _ (.inl rfl) e⟩
 |frz ob u ih=>obtain⟨e,q⟩:=x;exact⟨k _ _ (.inl rfl) e,ih q⟩
 |tbl ps=>
  have e:h.get? a=some { cls:=.none,data:=.fields ps }:=x;show h'.get? a=some { cls:=.none,data:=.fields ps };exact k a _ (.inl rfl) e
 |met f y=>
  have e:h.get? a=some (PySem.W.methodObj (.ref f) (.ref y)):=x;show h'.get? a=some (PySem.W.methodObj (.ref f) (.ref y));exact k a _ (.inl rfl) e
 |ext φ=>obtain⟨p,⟨o,e⟩,st⟩:=x;exact⟨st _ _ p λo q=>k _ _ (.inl rfl) q,⟨o,k _ _ (.inl rfl) e⟩,st⟩
theorem HOk.lt(x:HOk P w H h)(e:H a=some o):a<h.objs.size:=(x a o e).lt
theorem HOk.fresh(x:HOk P w H h)(e:h.objs.size<=a):H a=none:=by
 cases q:H a with
 |none=>rfl
 |some u=>exact absurd (QM (x.lt q) e) (Qag _)
theorem HOk.kept(x:HOk P w H h)(k:∀b u,h.get? b=some u->h'.get? b=some u):HOk P w H h':=λa o e=>
 (x a o e).stay (λb u _ q=>k b u q) (λ_ q=>q) λ_ _ q=>q
theorem HOk.laid(x:HOk P w H h)(k:∀b u,h.get? b=some u->h'.get? b=some u)(hp:h.objs.size<=a)(new:ObjOk P w (upd H a o) h' a o):HOk P w (upd H a o) h':=λb u e=>by
 have hn:=x.fresh hp;by_cases hb:b=a
 ·subst hb;rw[JQ] at e;cases e;exact new
 ·rw[Zu hb] at e;exact(x b u e).stay (λc v _ q=>k c v q) (λc q=>by rw[Zu (Yf q hn)];exact q) λc xs q=>by rw[Zu (Yf q hn)];exact q
end
def Rd(H:Hp)(a:Addr)(u:HO):Prop:=H a=some u∨∃o,H a=some (.frz o u)
theorem Rd.ok{P:QC}{w:Q9}{H:Hp}{h:Heap}{a:Addr}{u:HO}(r:Rd H a u)(x:HOk P w H h):ObjOk P w H h a u:=by
 rcases r with r | ⟨o,r⟩
 ·exact x a u r
 ·obtain⟨_,q⟩:=x a _ r;exact q
def Mut:Option HO->Prop
 |some (.lst _)=>True
 |some (.dK _)=>True
 |some (.dT _)=>True
 |some (.set _ _)=>True
 |some (.ins _ _ _)=>True
 |some (.ext _)=>True
 |_=>False
section
variable{P:QC}{w:Q9}{H:Hp}{h h':Heap}{x e:Addr}{o':HO}
theorem HOk.write(ok:HOk P w H h)(mu:Mut (H x))(he:e=x∨H e=some (.own x))(k:∀b u,b≠e->h.get? b=some u->h'.get? b=some u)(heo:∃u,h'.get? e=some u)
  (new:ObjOk P w (upd H x o') h' x o'):HOk P w (upd H x o') h':=λb u q=>by
 have nown:∀c y,H c=some (.own y)->c≠x:=λc y r z=>by subst z;rw[r] at mu;exact mu
 have ntup:∀c xs,H c=some (.tup xs)->c≠x:=λc xs r z=>by subst z;rw[r] at mu;exact mu
 by_cases hb:b=x
 ·subst hb;rw[JQ] at q;cases q;exact new
 ·rw[Zu hb] at q;by_cases hbe:b=e
  ·have q':H b=some (.own x):=by
    rcases he with z | z
    ·exact absurd (hbe.trans z) hb
    ·rw[hbe];exact z
   rw[q] at q';cases q';obtain⟨v,hv⟩:=heo;exact⟨v,by rw[hbe];exact hv⟩
  ·refine(ok b u q).stay (λc v hc r=>k c v ?_ r) (λc r=>by rw[Zu (nown c b r)];exact r) λc xs r=>by rw[Zu (ntup c xs r)];exact r
   rcases hc with rfl | hc
   ·exact hbe
   ·rintro rfl;rcases he with z | z
    ·exact nown c b hc z
    ·rw[hc] at z;cases z;exact hb rfl
end
structure Un (fs ex:List Addr) (H H':Hp) (h h':Heap):Prop where
 keep:∀b o,h.get? b=some o->H b=none->b∉fs->b∉ex->h'.get? b=some o
 slot:∀b o,h.get? b=some o->H b=none->b∈fs->b∉ex->∃sl,h'.get? b=some { o with slots:=sl }
 free:∀b o,h.get? b=some o->H b=none->b∉ex->H' b=none
 there:∀b o,h.get? b=some o->b∉ex->∃o',h'.get? b=some o'
 tups:∀b xs,H b=some (.tup xs)->H' b=some (.tup xs)
 frzs:∀b o u,H b=some (.frz o u)->H' b=some (.frz o u)
 tbls:∀b ps,H b=some (.tbl ps)->∃more,H' b=some (.tbl (ps++more))
section
variable{fs fs' ex ex':List Addr}{H H1 H2:Hp}{h h1 h2 h':Heap}{a x e:Addr}{o:HO}
theorem Un.any(u:Un fs ex H H1 h h1){b:Addr}{ob:Obj}(q:h.get? b=some ob)(n:H b=none)(hx:b∉ex):∃sl,h1.get? b=some { ob with slots:=sl }:=by
 by_cases hb:b∈fs
 ·exact u.slot b ob q n hb hx
 ·exact⟨ob.slots,u.keep b ob q n hb hx⟩
theorem Un.kept(k:∀b u,h.get? b=some u->h'.get? b=some u):Un fs ex H H h h':=
 ⟨λb ob q _ _ _=>k b ob q,λb ob q _ _ _=>⟨ob.slots,k b ob q⟩,λ_ _ _ n _=>n,λb ob q _=>⟨ob,k b ob q⟩,λ_ _ q=>q,λ_ _ _ q=>q,λ_ ps q=>⟨#[],by rw[q];simp⟩⟩
theorem Un.refl:Un fs ex H H h h:=Un.kept λ_ _ q=>q
theorem Un.laid(k:∀b u,h.get? b=some u->h'.get? b=some u)(hp:h.objs.size<=a)(hn:H a=none):Un fs ex H (upd H a o) h h' where
 keep:=λb u q _ _ _=>k b u q
 slot:=λb u q _ _ _=>⟨u.slots,k b u q⟩
 free:=λb u q n _=>by rw[Zu (Qz (QM (Qm q) hp))];exact n
 there:=λb u q _=>⟨u,k b u q⟩
 tups:=λb xs q=>by rw[Zu (Yf q hn)];exact q
 frzs:=λb u xs q=>by rw[Zu (Yf q hn)];exact q
 tbls:=λb ps q=>⟨#[],by rw[Zu (Yf q hn),q];simp⟩
theorem Un.write(mu:Mut (H x))(he:e=x∨H e=some (.own x))(k:∀b u,b≠e->h.get? b=some u->h'.get? b=some u)(heo:∃u,h'.get? e=some u):Un fs ex H (upd H x o) h h':=by
 have hx:∀b,H b=none->b≠x:=λb n z=>by subst z;rw[n] at mu;exact mu
 have hb:∀b,H b=none->b≠e:=λb n z=>by
  subst z;rcases he with r | r
  ·exact hx b n r
  ·rw[n] at r;cases r
 have hm:∀b u,H b=some u->¬Mut (some u)->b≠x:=λb u q nm z=>by subst z;rw[q] at mu;exact nm mu
 refine⟨λb u q n _ _=>k b u (hb b n) q,λb u q n _ _=>⟨u.slots,k b u (hb b n) q⟩,λb u q n _=>by rw[Zu (hx b n)];exact n,λb u q _=>?_,
  λb xs q=>by rw[Zu (hm b _ q λz=>z)];exact q,λb u xs q=>by rw[Zu (hm b _ q λz=>z)];exact q,λb ps q=>⟨#[],by rw[Zu (hm b _ q λz=>z),q];simp⟩⟩
 by_cases hbe:b=e
 ·subst hbe;exact heo
 ·exact⟨u,k b u hbe q⟩
end
def trk(h:Heap)(H:Hp):List Addr:=(Qq h.objs.size).filter λa=>(H a).isSome
def QrD(h:Heap)(H:Hp):Heap:=PySem.W.hideAll h (trk h H)
theorem QnV(h:Heap)(H:Hp):(QrD h H).objs.size=h.objs.size:=PySem.W.hideAll_size _ _
theorem QrC{h:Heap}{H:Hp}{b:Addr}{o:Obj}(e:h.get? b=some o)(n:H b=none):(QrD h H).get? b=some o:=
 PySem.W.hideAll_get _ e λhm=>by
  have q:(H b).isSome=true:=(JW.mp hm).2;rw[n] at q;simp at q
theorem QuR{h:Heap}{H:Hp}{b:Addr}{o:Obj}(e:(QrD h H).get? b=some o):h.get? b=some o/\H b=none:=by
 have e':h.get? b=some o:=PySem.W.of_hideAll (trk h H) e;refine⟨e',?_⟩;cases q:H b with
 |none=>rfl
 |some x=>
  have hm:b∈trk h H:=JW.mpr ⟨Jp.mpr (Qm e'),by simp[q]⟩;have z:(QrD h H).get? b=none:=PySem.W.hideAll_none (trk h H) hm;rw[z] at e;cases e
def QvT(g h:Heap)(L:Addr):List (Addr×Obj):=(Qq h.objs.size).filterMap λa=>if a=L∨(g.get? a).isSome=true then none else(h.get? a).map λo=>(a,o)
def rest(g h:Heap)(L d:Addr):List (Addr×Obj):=(QvT g h L).filter λp=>decide (p.1≠d)
structure Mod (K:PySem.W.Frag) (mg:Str->Option Value) (base:Heap):Prop where
 kin:K.In base
 glob:base.Ns mainGlobals mg
 blt:∃mb,base.Ns builtinsNs mb/\∀x:Str,x ≠ "__name__" -> mb x=bootBuiltins x
 nolimit:base.NoLimit
structure Cx where
 prog:QC
 w:Q9
 K:PySem.W.Frag
 mg:Str->Option Value
 base:Heap
 A:Q5
 N:List Str
 s₀:Shared
 H₀:Hp
 env:Env
 outer:List Env
 stack:List Env
 ex:List Addr
 fn:Str->Bool
 calm:Bool
 pn:List (Addr×Obj)
 xe:Value->Shared->Prop
def frs(l:List Env):List Addr:=l.filterMap (·.frame)
abbrev Cx.fs (X:Cx):List Addr:=frs X.outer
def Vis(sc:YC)(x:Str):Prop:=sc.names.lookup x=some .local∨sc.names.lookup x=some .cell∨sc.names.lookup x=some .free
def Loc(sc:YC)(x:Str):Prop:=sc.names.lookup x=some .local∨sc.names.lookup x=some .cell
def Look(env:Env)(h:Heap)(m:Str->Option Value)(x:Str)(u:Value):Prop:=
 (env.kindOf x=some .local/\m x=some u)∨((env.kindOf x=some .cell∨env.kindOf x=some .free)/\∃c,env.cells.lookup x=some c/\h.IsCell c (some u))
structure Cx.Ok (X:Cx):Prop where
 mod:Mod X.K X.mg X.base
 kind:X.env.scope.kind=.function
 glob:X.env.globals=mainGlobals
 blt:X.env.builtins=builtinsNs
 above:X.s₀.heap.objs.size<=X.env.locals
 inj:∀x y c,X.env.cells.lookup x=some c->X.env.cells.lookup y=some c->x=y
 has:∀x,(X.env.kindOf x=some .cell∨X.env.kindOf x=some .free)->∃c,X.env.cells.lookup x=some c
 cab:∀x c,X.fn x=true->X.env.cells.lookup x=some c->X.s₀.heap.objs.size<=c
 hd:X.calm=true->X.A.handled=none
 frames:X.A.frames=some X.stack
 stk:X.stack=X.outer∨(X.stack=X.env::X.outer/\X.env.frame=some X.env.locals)
 exf:∀b∈X.ex,b≠X.env.locals/\∀x c,X.env.cells.lookup x=some c->c≠b
 bs:∀b o,X.base.get? b=some o->X.s₀.heap.get? b=some o/\X.H₀ b=none
 bsz:X.base.objs.size<=X.s₀.heap.objs.size
 noex:∀b o,X.base.get? b=some o->b∉X.ex
 exfs:∀b∈X.ex,b∉X.fs
 funs:X.s₀.heap.FunFrames X.base X.outer
 frf:∀b∈X.fs,X.H₀ b=none
structure Inv (X:Cx) (pins:List (Addr×Obj)) (σ:List (Option V)) (H:Hp) (s:Shared):Prop where
 ok:X.Ok
 os:s.os=X.s₀.os
 bare:QfD s.gens
 base:Un X.fs X.ex X.H₀ H X.s₀.heap s.heap
 loc:∃m,s.heap.Ns X.env.locals m/\∀(i:Nat)(x:Str)(v:V),X.N[i]? = some x->σ[i]? = some (some v)->Vis X.env.scope x->∃u,RelV v u/\Look X.env s.heap m x u
 cell:∀x c,X.env.cells.lookup x=some c->∃v,s.heap.IsCell c v
 free:H X.env.locals=none
 freeC:∀x c,X.env.cells.lookup x=some c->H c=none
 pin:∀p∈X.pn++pins,s.heap.get? p.1=some p.2/\H p.1=none/\p.1≠X.env.locals/\p.1∉X.fs/\∀v,p.2.data≠.cell v
 hok:HOk X.prog X.w H s.heap
 len:σ.length=X.N.length
section
variable{X:Cx}{pins:List (Addr×Obj)}{σ:List (Option V)}{H H':Hp}{s:Shared}{h':Heap}
theorem Cx.Ok.nofr(ok:X.Ok){b:Addr}{o:Obj}(e:X.base.get? b=some o):b∉X.fs:=λhb=>by
 have:=(ok.funs.mem hb).1;rw[e] at this;cases this
theorem Inv.bs(I:Inv X pins σ H s):∀b o,X.base.get? b=some o->s.heap.get? b=some o/\H b=none:=λb o e=>
 ⟨I.base.keep b o (I.ok.bs b o e).1 (I.ok.bs b o e).2 (I.ok.nofr e) (I.ok.noex b o e),I.base.free b o (I.ok.bs b o e).1 (I.ok.bs b o e).2 (I.ok.noex b o e)⟩
theorem Inv.bk(I:Inv X pins σ H s):∀b o,X.base.get? b=some o->s.heap.get? b=some o:=λb o e=>(I.bs b o e).1
theorem Inv.mod(I:Inv X pins σ H s):Mod X.K X.mg X.base:=I.ok.mod
theorem Inv.kIn(I:Inv X pins σ H s):X.K.In s.heap:=I.ok.mod.kin.keeps I.bk
theorem Inv.fr(I:Inv X pins σ H s):∃m,Fr X.base X.env.locals s.heap m:=
 let ⟨m,hn,_⟩:=I.loc
 ⟨m,hn,I.bk,Q1 I.ok.bsz I.ok.above⟩
theorem Inv.lt(I:Inv X pins σ H s):X.env.locals<s.heap.objs.size:=let ⟨_,hn,_⟩:=I.loc;hn.lt
theorem Inv.sz(I:Inv X pins σ H s):X.s₀.heap.objs.size<=s.heap.objs.size:=Q1 I.ok.above (ZZ I.lt)
theorem Inv.nofs(I:Inv X pins σ H s){a:Addr}(h:s.heap.objs.size<=a):a∉X.fs:=λhb=>by
 obtain⟨_,o,ho,_⟩:=I.ok.funs.mem hb;exact absurd (QM (Qm ho) (Q1 I.sz h)) (Qag _)
theorem Inv.cne(I:Inv X pins σ H s):∀x c,X.env.cells.lookup x=some c->c≠X.env.locals:=λx c e z=>by
 obtain⟨v,o,ho,hd⟩:=I.cell x c e;obtain⟨m,⟨o',es,ep,ho',hd',_⟩,_⟩:=I.loc;rw[z,ho'] at ho;cases ho;rw[hd'] at hd;cases hd
theorem Inv.funs(I:Inv X pins σ H s):s.heap.FunFrames X.base X.outer:=by
 have all:∀(l:List Env),(∀b∈frs l,b∈X.fs)->X.s₀.heap.FunFrames X.base l->s.heap.FunFrames X.base l:=by
  intro l;induction l with
  |nil=>intro _ _;trivial
  |cons env r ih=>
   intro hs hl;obtain⟨hk,⟨L,o,hf,hn,ho,hd⟩,hr⟩:=hl;have hL:L∈X.fs:=hs L (by unfold frs;rw[ZE,hf];exact Jm);obtain⟨sl,e⟩:=I.base.slot L o ho (I.ok.frf L hL) hL λz=>I.ok.exfs L z hL
   exact⟨hk,⟨L,_,hf,hn,e,hd⟩,ih (λb hb=>hs b (by unfold frs;rw[ZE,hf];exact QH _ hb)) hr⟩
 exact all X.outer (λ_ hb=>hb) I.ok.funs
theorem Inv.stack(I:Inv X pins σ H s):s.heap.FunFrames X.base X.stack:=by
 rcases I.ok.stk with e | ⟨e,hf⟩
 ·rw[e];exact I.funs
 ·rw[e];obtain⟨m,hn,_⟩:=I.loc;refine .cons (by rw[I.ok.kind];decide) hf hn ?_ I.funs
  exact Heap.get?_none_of_le (Q1 I.ok.bsz I.ok.above)
theorem Inv.stkSub(I:Inv X pins σ H s):∀b∈frs X.stack,b∈X.env.locals::X.fs:=λb hb=>by
 rcases I.ok.stk with e | ⟨e,hf⟩
 ·rw[e] at hb;exact QH _ hb
 ·rw[e] at hb;unfold frs at hb;rw[ZE,hf] at hb;exact hb
theorem Inv.stkFree(I:Inv X pins σ H s):∀b∈frs X.stack,H b=none:=λb hb=>by
 rcases Qu.mp (I.stkSub b hb) with e | hb
 ·rw[e];exact I.free
 ·obtain⟨_,o,ho,_⟩:=I.ok.funs.mem hb;exact I.base.free b o ho (I.ok.frf b hb) λz=>I.ok.exfs b z hb
theorem Inv.step{g':Array GenState}{t':Nat}{d':Drawn}{ch:List Addr}(I:Inv X pins σ H s)
  (hch:∀b∈ch,(b∈X.ex∨X.s₀.heap.objs.size<=b)/\b≠X.env.locals/\(∀x c,X.env.cells.lookup x=some c->c≠b)/\∀p∈X.pn++pins,p.1≠b)
  (keep:∀b o,b≠X.env.locals->b∉X.fs->b∉ch->s.heap.get? b=some o->H b=none->h'.get? b=some o)
  (slot:∀b o,b≠X.env.locals->b∈X.fs->b∉ch->s.heap.get? b=some o->H b=none->∃sl,h'.get? b=some { o with slots:=sl })(free:∀b o,b∉ch->s.heap.get? b=some o->H b=none->H' b=none)
  (there:∀b o,b∉ch->s.heap.get? b=some o->∃o',h'.get? b=some o')
  (tups:∀b xs,H b=some (.tup xs)->H' b=some (.tup xs))(frzs:∀b o u,H b=some (.frz o u)->H' b=some (.frz o u))(tbls:∀b ps,H b=some (.tbl ps)->∃more,H' b=some (.tbl (ps++more)))
  (ns:∀m,s.heap.Ns X.env.locals m->h'.Ns X.env.locals m)(hok:HOk X.prog X.w H' h')(hg:QfD g') :
  Inv X pins σ H' { s with heap:=h',gens:=g',drawn:=d',toks:=t' }:=by
 have neL:∀b o,X.s₀.heap.get? b=some o->b≠X.env.locals:=λb o e=>Qz (QM (Qm e) I.ok.above)
 have neC:∀b o,X.s₀.heap.get? b=some o->b∉X.ex->b∉ch:=λb o e hx hb=>by
  rcases(hch b hb).1 with z | z
  ·exact hx z
  ·exact absurd (QM (Qm e) z) (Qag _)
 have cellK:∀x c,X.env.cells.lookup x=some c->∀v,s.heap.IsCell c v->h'.IsCell c v:=λx c e v ⟨o,ho,hd⟩=>by
  have nch:c∉ch:=λz=>(hch c z).2.2.1 x c e rfl
  by_cases hc:c∈X.fs
  ·obtain⟨sl,q⟩:=slot c o (I.cne x c e) hc nch ho (I.freeC x c e);exact⟨_,q,hd⟩
  ·exact⟨o,keep c o (I.cne x c e) hc nch ho (I.freeC x c e),hd⟩
 refine⟨I.ok,I.os,hg,⟨λb o e n hb hx=>?_,λb o e n hb hx=>?_,λb o e n hx=>?_,λb o e hx=>?_,λb xs e=>tups b xs (I.base.tups b xs e),λb o xs e=>frzs b o xs (I.base.frzs b o xs e),λb ps e=>?_⟩,?_,λx c e=>?_,?_,λx c e=>?_,λp hp=>?_,hok,I.len⟩
 ·exact keep b o (neL b o e) hb (neC b o e hx) (I.base.keep b o e n hb hx) (I.base.free b o e n hx)
 ·obtain⟨sl,e1⟩:=I.base.slot b o e n hb hx;obtain⟨sl',e2⟩:=slot b _ (neL b o e) hb (neC b o e hx) e1 (I.base.free b o e n hx);exact⟨sl',e2⟩
 ·obtain⟨o',e1⟩:=I.base.there b o e hx;exact free b o' (neC b o e hx) e1 (I.base.free b o e n hx)
 ·obtain⟨o',e1⟩:=I.base.there b o e hx;exact there b o' (neC b o e hx) e1
 ·obtain⟨m1,e1⟩:=I.base.tbls b ps e;obtain⟨m2,e2⟩:=tbls b _ e1;exact⟨m1++m2,by rw[e2,Array.append_assoc]⟩
 ·obtain⟨m,hn,hl⟩:=I.loc;refine⟨m,ns m hn,λi x v e1 e2 e3=>?_⟩;obtain⟨u,r,l⟩:=hl i x v e1 e2 e3;refine⟨u,r,?_⟩;rcases l with l | ⟨k,c,e,z⟩
  ·exact .inl l
  ·exact .inr ⟨k,c,e,cellK x c e _ z⟩
 ·obtain⟨v,z⟩:=I.cell x c e;exact⟨v,cellK x c e v z⟩
 ·obtain⟨m,⟨o,_,_,ho,_⟩,_⟩:=I.loc;exact free _ o (λz=>(hch _ z).2.1 rfl) ho I.free
 ·obtain⟨v,o,ho,hd⟩:=I.cell x c e;exact free c o (λz=>(hch c z).2.2.1 x c e rfl) ho (I.freeC x c e)
 ·obtain⟨e,n,ne,nf,d⟩:=I.pin p hp;have nch:p.1∉ch:=λz=>(hch p.1 z).2.2.2 p hp rfl
  exact⟨keep p.1 p.2 ne nf nch e n,free p.1 p.2 nch e n,ne,nf,d⟩
theorem Inv.un{t':Nat}(I:Inv X pins σ H s)(u:Un X.fs [] H H' s.heap h')(hok:HOk X.prog X.w H' h'):Inv X pins σ H' { s with heap:=h',toks:=t' }:=by
 obtain⟨m,⟨o,es,ep,ho,r⟩,_⟩:=id I.loc;obtain⟨sl,hL⟩:=u.any ho I.free (by simp);exact I.step (g':=s.gens) (d':=s.drawn) (ch:=[]) (λ_ z=>nomatch z) (λb o _ hb _ e n=>u.keep b o e n hb (by simp)) (λb o _ hb _ e n=>u.slot b o e n hb (by simp)) (λb o _ e n=>u.free b o e n (by simp)) (λb o _ e=>u.there b o e (by simp)) u.tups u.frzs u.tbls (λm' hm=>by
  obtain⟨o',es',ep',ho',r'⟩:=hm;rw[ho] at ho';cases ho';exact⟨_,es',ep',hL,r'⟩) hok I.bare
theorem Inv.call{g':Array GenState}{t':Nat}{d':Drawn}{ch:List Addr}(I:Inv X pins σ H s)(u:Un (frs X.stack) ch H H' s.heap h')(hok:HOk X.prog X.w H' h')(hg:QfD g')
  (hch:∀b∈ch,(b∈X.ex∨X.s₀.heap.objs.size<=b)/\b≠X.env.locals/\(∀x c,X.env.cells.lookup x=some c->c≠b)/\∀p∈X.pn++pins,p.1≠b) :
  Inv X pins σ H' { s with heap:=h',gens:=g',drawn:=d',toks:=t' }:=by
 obtain⟨m,⟨o,es,ep,ho,r⟩,_⟩:=id I.loc;obtain⟨sl,hL⟩:=u.any ho I.free λz=>(hch _ z).2.1 rfl
 exact I.step (ch:=ch) hch (λb o hL hb hc e n=>u.keep b o e n (λz=>(Qu.mp (I.stkSub b z)).elim hL hb) hc) (λb o _ _ hc e n=>u.any e n hc) (λb o hc e n=>u.free b o e n hc) (λb o hc e=>u.there b o e hc) u.tups u.frzs u.tbls (λm' hm=>by
  obtain⟨o',es',ep',ho',r'⟩:=hm;rw[ho] at ho';cases ho';exact⟨_,es',ep',hL,r'⟩) hok hg
theorem Inv.turned{t':Nat}{it:Addr}(I:Inv X pins σ H s)(k:∀b o,b≠it->s.heap.get? b=some o->h'.get? b=some o)(hn:H it=none)(hL:it≠X.env.locals)
  (h1:it∈X.ex∨X.s₀.heap.objs.size<=it)(h2:∀x c,X.env.cells.lookup x=some c->c≠it)(h3:∀p∈X.pn++pins,p.1≠it):Inv X pins σ H { s with heap:=h',toks:=t' }:=by
 have nit:∀b u,H b=some u->b≠it:=λb u e z=>by rw[z,hn] at e;cases e
 refine I.step (g':=s.gens) (d':=s.drawn) (ch:=[it]) (λb hb=>?_) (λb o _ _ hc e _=>k b o (λz=>hc (by simp[z])) e) (λb o _ _ hc e _=>⟨o.slots,k b o (λz=>hc (by simp[z])) e⟩) (λ_ _ _ _ n=>n)
  (λb o hc e=>⟨o,k b o (λz=>hc (by simp[z])) e⟩) (λ_ _ e=>e) (λ_ _ _ e=>e) (λb ps e=>⟨#[],by rw[e];simp⟩) (λm hm=>?_) (λb u e=>?_) I.bare
 ·have e:b=it:=by simpa using hb
  subst e;exact⟨h1,hL,h2,h3⟩
 ·obtain⟨o,es,ep,ho,r⟩:=hm;exact⟨o,es,ep,k _ o (QcP hL) ho,r⟩
 ·refine(I.hok b u e).stay (λc v hc q=>k c v ?_ q) (λ_ q=>q) λ_ _ q=>q
  rcases hc with z | z
  ·rw[z];exact nit b u e
  ·exact nit c _ z
theorem Inv.tok(I:Inv X pins σ H s)(t:Nat):Inv X pins σ H { s with toks:=t }:=I.un (h':=s.heap) (t':=t) Un.refl I.hok
theorem Inv.kept{t':Nat}(I:Inv X pins σ H s)(k:∀b u,s.heap.get? b=some u->h'.get? b=some u):Inv X pins σ H { s with heap:=h',toks:=t' }:=I.un (Un.kept k) (I.hok.kept k)
theorem Inv.laid{a:Addr}{o:HO}{t':Nat}(I:Inv X pins σ H s)(k:∀b u,s.heap.get? b=some u->h'.get? b=some u)(hp:s.heap.objs.size<=a)(new:ObjOk X.prog X.w (upd H a o) h' a o) :
  Inv X pins σ (upd H a o) { s with heap:=h',toks:=t' }:=I.un (Un.laid k hp (I.hok.fresh hp)) (I.hok.laid k hp new)
theorem Inv.write{x e:Addr}{o:HO}{t':Nat}(I:Inv X pins σ H s)(mu:Mut (H x))(he:e=x∨H e=some (.own x))(k:∀b u,b≠e->s.heap.get? b=some u->h'.get? b=some u)(heo:∃u,h'.get? e=some u)
  (new:ObjOk X.prog X.w (upd H x o) h' x o):Inv X pins σ (upd H x o) { s with heap:=h',toks:=t' }:=I.un (Un.write mu he k heo) (I.hok.write mu he k heo new)
theorem Inv.weak{σ':List (Option V)}(I:Inv X pins σ H s)(hl:σ'.length=σ.length)(w:∀(i:Nat) v,σ'[i]? = some (some v)->σ[i]? = some (some v)):Inv X pins σ' H s:=
 ⟨I.ok,I.os,I.bare,I.base,let ⟨m,hn,hl'⟩:=I.loc;⟨m,hn,λi x v e1 e2 e3=>hl' i x v e1 (w i v e2) e3⟩,I.cell,I.free,I.freeC,I.pin,I.hok,hl.trans I.len⟩
theorem Inv.pins_of{pins':List (Addr×Obj)}(I:Inv X pins σ H s)(h:∀p∈pins',s.heap.get? p.1=some p.2/\H p.1=none/\p.1≠X.env.locals/\p.1∉X.fs/\∀v,p.2.data≠.cell v):Inv X pins' σ H s:=
 ⟨I.ok,I.os,I.bare,I.base,I.loc,I.cell,I.free,I.freeC,λp hp=>(Jb.mp hp).elim (λz=>I.pin p (ZV _ z)) (h p),I.hok,I.len⟩
theorem QkC{N:List Str}(hN:N.Nodup){i j:Nat}{x:Str}(a:N[i]? = some x)(b:N[j]? = some x):i=j:=by
 obtain⟨h1,e1⟩:=Jq.mp a;obtain⟨h2,e2⟩:=Jq.mp b;exact(List.getElem_inj hN).mp (e1.trans e2.symm)
theorem QhU{M:QzM}{A:Q5}{E:Value->Shared->Prop}{i:Nat}{x:Str}{v:V}{u:Value}{Q:Unit->Shared->Prop}(I:Inv X pins σ H s)(hN:X.N.Nodup)(hi:X.N[i]? = some x)(hx:Loc X.env.scope x)(r:RelV v u)
  (h:∀s',Inv X pins (σ.set i (some v)) H s'->(∃a,Y2 a s.heap s'.heap/\(a=X.env.locals∨X.env.cells.lookup x=some a))->Q () s')(hf:X.fn x=true∨X.env.scope.names.lookup x=some .local:=by first | exact .inl rfl | exact .inr rfl | assumption):wpAny M A (storeName X.env x u) Q E s:=by
 obtain⟨m,hn,hl⟩:=id I.loc;have hcls:(X.env.scope.kind == .class||(X.env.scope.kind == .module&&X.env.locals != X.env.globals))=false:=by rw[I.ok.kind];rfl
 have hiσ:i < σ.length:=by rw[I.len];exact(Jq.mp hi).1
 have cne:=I.cne;have tracked:∀{a:Addr}{h':Heap},(∃o,s.heap.get? a=some o/\H a=none)->Y2 a s.heap h'->HOk X.prog X.w H h':=λ{a h'} ha hs b ob e=>by
  obtain⟨_,_,hfree⟩:=ha;refine(I.hok b ob e).stay (λc w' hc q=>(hs.2 c ?_).trans q) (λ_ q=>q) λ_ _ q=>q
  rintro rfl;rcases hc with rfl | hc
  ·rw[hfree] at e;cases e
  ·rw[hfree] at hc;cases hc
 rcases hx with hk | hk
 ·refine wpAny_storeName_local hk hn (λh' hn' hs=>?_) hcls;obtain⟨oL,_,_,hoL,_⟩:=id hn;refine h _ ⟨I.ok,I.os,I.bare,⟨λb o e n hb hx=>?_,λb o e n hb hx=>?_,I.base.free,λb o e hx=>?_,I.base.tups,I.base.frzs,I.base.tbls⟩,⟨_,hn',λj y v' e1 e2 e3=>?_⟩,λy c e=>?_,I.free,I.freeC,λp hp=>?_,tracked ⟨oL,hoL,I.free⟩ hs,by simpa using I.len⟩ ⟨_,hs,.inl rfl⟩
  ·exact(hs.2 b (Qz (QM (Qm e) I.ok.above))).trans (I.base.keep b o e n hb hx)
  ·obtain⟨sl,e1⟩:=I.base.slot b o e n hb hx;exact⟨sl,(hs.2 b (Qz (QM (Qm e) I.ok.above))).trans e1⟩
  ·obtain⟨o',e1⟩:=I.base.there b o e hx;exact⟨o',(hs.2 b (Qz (QM (Qm e) I.ok.above))).trans e1⟩
  ·by_cases hj:j=i
   ·subst hj;rw[hi] at e1;cases e1;rw[QcR hiσ] at e2;cases e2;exact⟨u,r,.inl ⟨hk,by simp⟩⟩
   ·rw[QdC (QcP hj)] at e2;obtain⟨u',r',q⟩:=hl j y v' e1 e2 e3;refine⟨u',r',?_⟩;rcases q with⟨k,e⟩ | ⟨k,c,e,z⟩
    ·refine .inl ⟨k,?_⟩;have:y≠x:=λe=>hj (QkC hN e1 (e ▸ hi))
     simp[this,e]
    ·exact .inr ⟨k,c,e,z.sameBut hs (cne y c e)⟩
  ·obtain⟨w',z⟩:=I.cell y c e;exact⟨w',z.sameBut hs (cne y c e)⟩
  ·obtain⟨e,n,ne,nf,d⟩:=I.pin p hp;exact⟨(hs.2 p.1 ne).trans e,n,ne,nf,d⟩
 ·have hfn:X.fn x=true:=by
   rcases hf with z | z
   ·exact z
   ·rw[z] at hk;cases hk
  obtain⟨c,hc⟩:=I.ok.has x (.inl hk);obtain⟨w',z⟩:=I.cell x c hc;refine wpAny_storeName_cell I.ok.kind hk hc z (λh' hc' hs=>?_);obtain⟨oc,hoc,hocd⟩:=id z;refine h { s with heap:=h' } ⟨I.ok,I.os,I.bare,⟨λb o e n hb hx=>?_,λb o e n hb hx=>?_,I.base.free,λb o e hx=>?_,I.base.tups,I.base.frzs,I.base.tbls⟩,⟨m,hn.sameBut hs (QcP (cne x c hc)),λj y v' e1 e2 e3=>?_⟩,λy c' e=>?_,I.free,I.freeC,λp hp=>?_,tracked ⟨oc,hoc,I.freeC x c hc⟩ hs,by simpa using I.len⟩ ⟨c,hs,.inr hc⟩
  ·exact(hs.2 b (Qz (QM (Qm e) (I.ok.cab x c hfn hc)))).trans (I.base.keep b o e n hb hx)
  ·obtain⟨sl,e1⟩:=I.base.slot b o e n hb hx;exact⟨sl,(hs.2 b (Qz (QM (Qm e) (I.ok.cab x c hfn hc)))).trans e1⟩
  ·obtain⟨o',e1⟩:=I.base.there b o e hx;exact⟨o',(hs.2 b (Qz (QM (Qm e) (I.ok.cab x c hfn hc)))).trans e1⟩
  ·by_cases hj:j=i
   ·subst hj;rw[hi] at e1;cases e1;rw[QcR hiσ] at e2;cases e2;exact⟨u,r,.inr ⟨.inl hk,c,hc,hc'⟩⟩
   ·rw[QdC (QcP hj)] at e2;obtain⟨u',r',q⟩:=hl j y v' e1 e2 e3;refine⟨u',r',?_⟩;rcases q with q | ⟨k,c',e,z'⟩
    ·exact .inl q
    ·refine .inr ⟨k,c',e,z'.sameBut hs ?_⟩;rintro rfl;exact hj (QkC hN e1 (I.ok.inj _ _ _ e hc ▸ hi))
  ·by_cases hcc:c'=c
   ·subst hcc;exact⟨_,hc'⟩
   ·obtain⟨w2,z2⟩:=I.cell y c' e;exact⟨w2,z2.sameBut hs hcc⟩
  ·obtain⟨e,n,ne,nf,d⟩:=I.pin p hp;refine⟨(hs.2 p.1 ?_).trans e,n,ne,nf,d⟩;intro q;rw[q,hoc] at e;have q':oc=p.2:=Qt e;exact d w' (by rw[<- q'];exact hocd)
theorem Qkd{M:QzM}{A:Q5}{E:Value->Shared->Prop}{i:Nat}{x:Str}{v:V}{u:Value}{Q:Unit->Shared->Prop}(I:Inv X pins σ H s)(hN:X.N.Nodup)(hi:X.N[i]? = some x)(hx:Loc X.env.scope x)(r:RelV v u)
  (h:∀s',Inv X pins (σ.set i (some v)) H s'->Q () s')(hf:X.fn x=true∨X.env.scope.names.lookup x=some .local:=by first | exact .inl rfl | exact .inr rfl | assumption):wpAny M A (storeName X.env x u) Q E s:=
 QhU I hN hi hx r (λs' I' _=>h s' I') hf
theorem Inv.call'{s':Shared}{ch:List Addr}(I:Inv X pins σ H s)(ho:s'.os=s.os)(u:Un (frs X.stack) ch H H' s.heap s'.heap)(hok:HOk X.prog X.w H' s'.heap)(hg:QfD s'.gens)
  (hch:∀b∈ch,(b∈X.ex∨X.s₀.heap.objs.size<=b)/\b≠X.env.locals/\(∀x c,X.env.cells.lookup x=some c->c≠b)/\∀p∈X.pn++pins,p.1≠b):Inv X pins σ H' s':=by
 obtain⟨h',g',d',t',o'⟩:=s';have e:o'=s.os:=ho;subst e;exact I.call (g':=g') (t':=t') (d':=d') u hok hg hch
end
abbrev XK:=Value->Option Addr->Hp->Prop
abbrev St:=List (Option V)
abbrev VK:=V->Hp->Prop
abbrev TE:=St->Hp->VK->Prop
abbrev TT:=St->Hp->(Bool->Hp->Prop)->Prop
abbrev TA:=St->Hp->(List V->Hp->Prop)->Prop
structure Ends where
 nx:St->Hp->Prop
 rt:VK
 bk:St->Hp->Prop:=λ_ _=>False
 ct:St->Hp->Prop:=λ_ _=>False
abbrev TS:=Ends->St->Hp->Prop
def EP(X:Cx)(pins:List (Addr×Obj))(σ:St)(Q:VK)(u:Value)(s':Shared):Prop:=∃v H',Inv X pins σ H' s'/\RelV v u/\Q v H'
def TP(X:Cx)(pins:List (Addr×Obj))(σ:St)(Q:Bool->Hp->Prop)(b:Bool)(s':Shared):Prop:=∃H',Inv X pins σ H' s'/\Q b H'
def AP(X:Cx)(pins:List (Addr×Obj))(σ:St)(Q:List V->Hp->Prop)(us:List Value)(s':Shared):Prop:=∃vs H',Inv X pins σ H' s'/\Vals vs us/\Q vs H'
def SP(X:Cx)(pins:List (Addr×Obj))(D:Ends)(f:Flow)(s':Shared):Prop:=
 match f with
 |.next=>∃σ' H',Inv X pins σ' H' s'/\D.nx σ' H'
 |.brk=>∃σ' H',Inv X pins σ' H' s'/\D.bk σ' H'
 |.cont=>∃σ' H',Inv X pins σ' H' s'/\D.ct σ' H'
 |.ret u=>∃v σ' H',Inv X pins σ' H' s'/\RelV v u/\D.rt v H'
def PE(X:Cx)(e:QU)(t:TE):Prop:=
 ∀(pins:List (Addr×Obj))(s:Shared)(σ:St)(H:Hp)(Q:VK),Inv X pins σ H s->t σ H Q->wpAny (model X.prog X.w) X.A (eval e X.env) (EP X pins σ Q) X.xe s
def PT(X:Cx)(e:QU)(t:TT):Prop:=
 ∀(pins:List (Addr×Obj))(s:Shared)(σ:St)(H:Hp)(Q:Bool->Hp->Prop),Inv X pins σ H s->t σ H Q->wpAny (model X.prog X.w) X.A (isTrue e X.env (eval e X.env)) (TP X pins σ Q) X.xe s
def PW(X:Cx)(e:QU)(t:TT):Prop:=
 ∀(whole:Sem Value)(pins:List (Addr×Obj))(s:Shared)(σ:St)(H:Hp)(Q:Bool->Hp->Prop),Inv X pins σ H s->t σ H Q->wpAny (model X.prog X.w) X.A (isTrue e X.env whole) (TP X pins σ Q) X.xe s
theorem PW.pt{X:Cx}{e:QU}{t:TT}(h:PW X e t):PT X e t:=h _
def PA(X:Cx)(es:List QU)(t:TA):Prop:=
 ∀(pos:Pos)(pins:List (Addr×Obj))(s:Shared)(σ:St)(H:Hp)(Q:List V->Hp->Prop),Inv X pins σ H s->t σ H Q->wpAny (model X.prog X.w) X.A (spliced (backTo pos (starEach es X.env))) (AP X pins σ Q) X.xe s
def PS(X:Cx)(st:Qad)(t:TS):Prop:=
 ∀(pins:List (Addr×Obj))(s:Shared)(σ:St)(H:Hp)(D:Ends),Inv X pins σ H s->t D σ H->wpAny (model X.prog X.w) X.A (exec st X.env) (SP X pins D) X.xe s
def PSs(X:Cx)(st:List Qad)(t:TS):Prop:=
 ∀(pins:List (Addr×Obj))(s:Shared)(σ:St)(H:Hp)(D:Ends),Inv X pins σ H s->t D σ H->wpAny (model X.prog X.w) X.A (execs st X.env) (SP X pins D) X.xe s
theorem thn{α:Type}{t:Sem α}{Q Q':α->Shared->Prop}{M:QzM}{A:Q5}{E:Value->Shared->Prop}{s:Shared}(h:wpAny M A t Q E s)(hQ:∀a s,Q a s->Q' a s):wpAny M A t Q' E s:=wpAny_mono h hQ λ_ _ x=>x
section
variable{X:Cx}
def Qo9(i:Nat):TE:=λσ H Q=>∃v,σ[i]? = some (some v)/\Q v H
def tC(v:V):TE:=λ_ H Q=>Q v H
theorem Qxg{i:Nat}{x:Str}{pos:Pos}(hN:X.N[i]? = some x)(hv:Vis X.env.scope x)(hd:(x == ("__debug__" : Str))=false:=by decide)(hcd:(x == ("__classdict__" : Str))=false:=by decide):PE X (.Name x pos) (Qo9 i):=by
 intro pins s σ H Q I h;obtain⟨v,e,h⟩:=h;obtain⟨m,hn,hl⟩:=I.loc;obtain⟨u,r,l⟩:=hl i x v hN e hv;have fin:EP X pins σ Q u s:=⟨v,H,I,r,h⟩;rcases l with⟨hk,hm⟩ | ⟨hk,c,hc,hcell⟩
 ·exact Qzv (wpAny_loadName_local I.ok.kind hk hn hm fin) hd
 ·rcases hk with hk | hk
  ·exact Qzv (wpAny_loadName_cell I.ok.kind hk hc hcell fin) hd
  ·exact Qzv (wpAny_loadName_free I.ok.kind hk hc hcell fin hcd) hd
theorem QsA{i j pos}:PE X (.Constant (.int i) j pos) (tC (.int i)):=λ_ _ _ H _ I h=>wpAny_Constant_int ⟨.int i,H,I.tok _,⟨_,rfl⟩,h⟩
theorem QAp{b j pos}:PE X (.Constant (.bool b) j pos) (tC (.bl b)):=λ_ _ _ H _ I h=>Constant_bool ⟨.bl b,H,I,rfl,h⟩
def Gl(X:Cx)(x:Str):Prop:=X.env.kindOf x=some .globalImplicit
theorem QnH{E:Value->Shared->Prop}{pins:List (Addr×Obj)}{s:Shared}{σ:St}{H:Hp}{x:Str}{u:Value}{pos:Pos}{Q:Value->Shared->Prop}(I:Inv X pins σ H s)(hg:Gl X x)(hm:X.mg x=some u)(h:Q u s)
  (hd:(x == ("__debug__" : Str))=false:=by decide):wpAny (model X.prog X.w) X.A (eval (.Name x pos) X.env) Q E s:=
 QhE I.ok.kind hg (Calls.loadGlobal_global (by rw[I.ok.glob];exact I.mod.glob.keeps I.bk) hm h) hd
theorem QcV{E:Value->Shared->Prop}{pins:List (Addr×Obj)}{s:Shared}{σ:St}{H:Hp}{x:Str}{u:Value}{pos:Pos}{Q:Value->Shared->Prop}(I:Inv X pins σ H s)(hg:Gl X x)(hm:X.mg x=none)(hv:bootBuiltins x=some u)(h:Q u s)
  (hn:x ≠ "__name__" := by decide)(hd:(x == ("__debug__" : Str))=false:=by decide):wpAny (model X.prog X.w) X.A (eval (.Name x pos) X.env) Q E s:=by
 obtain⟨mb,h1,h2⟩:=I.mod.blt;exact QhE I.ok.kind hg (Calls.loadGlobal_builtin (by rw[I.ok.glob];exact I.mod.glob.keeps I.bk) hm (by rw[I.ok.blt];exact h1.keeps I.bk) ((h2 x hn).trans hv) h) hd
theorem Quf{x:Str}{v:V}{u:Value}{pos:Pos}(hg:Gl X x)(hm:X.mg x=some u)(r:RelV v u)(hd:(x == ("__debug__" : Str))=false:=by decide):PE X (.Name x pos) (tC v):=
 λ_ _ _ H _ I h=>QnH I hg hm ⟨v,H,I,r,h⟩ hd
theorem Quh{x:Str}{v:V}{u:Value}{pos:Pos}(hg:Gl X x)(hm:X.mg x=none)(hv:bootBuiltins x=some u)(r:RelV v u)(hn:x ≠ "__name__" := by decide)(hd:(x == ("__debug__" : Str))=false:=by decide):PE X (.Name x pos) (tC v):=
 λ_ _ _ H _ I h=>QcV I hg hm hv ⟨v,H,I,r,h⟩ hn hd
variable{a b:QU}{ta tb:TE}{pos:Pos}
def tB(t:TE):TT:=λσ H Q=>t σ H λx H1=>∃c,x=.bl c/\Q c H1
theorem Qw5{e:QU}{t:TE}(h:PE X e t)(he:∀whole,isTrue e X.env whole=(do let v <- whole;standAt e.pos;holding [v] (truthy v)):=by intro _;rfl):PT X e (tB t):=by
 intro pins s σ H Q I hw;refine isTrue_plain (thn (h pins s σ H _ I hw) λv s1 ⟨x,H1,I1,r1,q1⟩=>?_) (he _);obtain⟨d,rfl,q⟩:=q1;cases r1;exact ZR ⟨H1,I1,q⟩
variable{tA tB':TT}{rest:List QU}
def QB0(t u:TT):TT:=λσ H Q=>t σ H λc H1=>if c=true then u σ H1 Q else Q false H1
def tOr(t u:TT):TT:=λσ H Q=>t σ H λc H1=>if c=true then Q true H1 else u σ H1 Q
def QBY(t:TT):TT:=λσ H Q=>t σ H λc H1=>Q (!c) H1
theorem Qt0(ha:PT X a tA):PW X (.BoolOp .And [a] pos) tA:=by
 intro wh pins s σ H Q I h;refine isTrue_and (thn (ha pins s σ H Q I h) λc s1 e=>?_);cases c with
 |true=>exact isTrue_and_nil e
 |false=>exact e
theorem Qw3(ha:PT X a tA):PW X (.BoolOp .Or [a] pos) tA:=by
 intro wh pins s σ H Q I h;refine isTrue_or (thn (ha pins s σ H Q I h) λc s1 e=>?_);cases c with
 |false=>exact isTrue_or_nil e
 |true=>exact e
theorem Qw4(ha:PT X a tA)(hb:PW X (.BoolOp .And (b::rest) pos) tB'):PW X (.BoolOp .And (a::b::rest) pos) (QB0 tA tB'):=by
 intro wh pins s σ H Q I h;refine isTrue_and (thn (ha pins s σ H _ I h) λc s1 ⟨H1,I1,q1⟩=>?_);cases c with
 |true=>exact hb wh pins s1 σ H1 Q I1 q1
 |false=>exact⟨H1,I1,q1⟩
theorem QAm(ha:PT X a tA)(hb:PW X (.BoolOp .Or (b::rest) pos) tB'):PW X (.BoolOp .Or (a::b::rest) pos) (tOr tA tB'):=by
 intro wh pins s σ H Q I h;refine isTrue_or (thn (ha pins s σ H _ I h) λc s1 ⟨H1,I1,q1⟩=>?_);cases c with
 |true=>exact⟨H1,I1,q1⟩
 |false=>exact hb wh pins s1 σ H1 Q I1 q1
theorem Qw6(ha:PT X a tA):PT X (.UnaryOp .Not a pos) (QBY tA):=by
 intro pins s σ H Q I h;exact isTrue_not (ha pins s σ H (λc H1=>Q (!c) H1) I h)
def QAa(ta tb:TE):TE:=λσ H Q=>ta σ H λx H1=>∃c,x=.bl c/\if c=true then tb σ H1 Q else Q (.bl false) H1
def Qz6(ta:TE):TE:=λσ H Q=>ta σ H λx H1=>∃c,x=.bl c/\Q (.bl (!c)) H1
theorem Qxh{op}{t:TE}(h:PE X a t):PE X (.BoolOp op [a] pos) t:=λpins s σ H Q I hw=>BoolOp_one (h pins s σ H Q I hw)
theorem Qxl(ha:PE X a ta)(hb:PE X (.BoolOp .And (b::rest) pos) tb):PE X (.BoolOp .And (a::b::rest) pos) (QAa ta tb):=by
 intro pins s σ H Q I h;refine BoolOp_and (thn (ha pins s σ H _ I h) λv s1 ⟨x,H1,I1,r1,q1⟩=>?_);obtain⟨c,rfl,q1⟩:=q1;cases r1;refine ZR ?_
 cases c with
 |true=>exact hb pins s1 σ H1 Q I1 q1
 |false=>exact⟨.bl false,H1,I1,rfl,q1⟩
theorem Qxi(ha:PE X a ta):PE X (.UnaryOp .Not a pos) (Qz6 ta):=by
 intro pins s σ H Q I h;refine UnaryOp_ (thn (ha pins s σ H _ I h) λv s1 ⟨x,H1,I1,r1,q1⟩=>?_);obtain⟨c,rfl,q1⟩:=q1;cases r1;exact not_of (ZR ⟨.bl (!c),H1,I1,rfl,q1⟩)
def tIf(t:TT)(ta tb:TE):TE:=λσ H Q=>t σ H λc H1=>if c=true then ta σ H1 Q else tb σ H1 Q
theorem QpJ{c:QU}(hc:PT X c tA)(ha:PE X a ta)(hb:PE X b tb):PE X (.IfExp c a b pos) (tIf tA ta tb):=by
 intro pins s σ H Q I h;refine wpAny_IfExp (thn (hc pins s σ H _ I h) λd s1 ⟨H1,I1,q1⟩=>?_);cases d with
 |true=>exact ha pins s1 σ H1 Q I1 q1
 |false=>exact hb pins s1 σ H1 Q I1 q1
end
def SqL(K:PySem.W.Frag)(H:Hp)(a:Addr)(xs:List V):Prop:=
 Rd H a (.lst xs) ∨
  ∃(o:Obj)(its:Array Value)(n:Nat),K.lookup a=some o/\o.cls=.type "list" /\ o.dict=none/\o.data=.seq its n/\its.size<=sizeLine/\Vals xs its.toList
def SqT(K:PySem.W.Frag)(H:Hp)(a:Addr)(xs:List V):Prop:=
 Rd H a (.tup xs) ∨
  ∃(o:Obj)(its:Array Value)(n:Nat),K.lookup a=some o/\o.cls=.type "tuple" /\ o.data=.seq its n/\its.size<=sizeLine/\Vals xs its.toList
def QCp:Value->Option V
 |.none=>some .non
 |.bool b=>some (.bl b)
 |.int i _=>some (.int i)
 |.str x _=>some (.str x)
 |.bytes b _=>some (.byt b)
 |.float b _=>some (.flt b)
 |.ref a=>some (.ref a)
 |.type n=>some (.ty n)
 |_=>none
theorem RelV.abs{x:V}{u:Value}(r:RelV x u):QCp u=some x:=by
 cases x with
 |non=>cases r;rfl
 |bl _=>cases r;rfl
 |int _=>obtain⟨t,rfl⟩:=r;rfl
 |str _=>obtain⟨t,rfl⟩:=r;rfl
 |byt _=>obtain⟨t,rfl⟩:=r;rfl
 |flt _=>obtain⟨t,rfl⟩:=r;rfl
 |ref _=>cases r;rfl
 |ty _=>cases r;rfl
theorem RelV.inj{x y:V}{u:Value}(r:RelV x u)(q:RelV y u):x=y:=Qt (r.abs.symm.trans q.abs)
theorem Vals.inj:∀{xs ys:List V}{us:List Value},Vals xs us->Vals ys us->xs=ys
 |_,_,_,.nil,.nil=>rfl
 |_,_,_,.cons r t,.cons r' t'=>by rw[r.inj r',Vals.inj t t']
section
variable{X:Cx}{pins:List (Addr×Obj)}{σ:St}{H:Hp}{s:Shared}{a:Addr}{xs ys:List V}
theorem SqL.of{K:PySem.W.Frag}(h:H a=some (.lst xs)):SqL K H a xs:=.inl (.inl h)
theorem SqT.of{K:PySem.W.Frag}(h:H a=some (.tup xs)):SqT K H a xs:=.inl (.inl h)
theorem Inv.list(I:Inv X pins σ H s)(h:SqL X.K H a xs):∃its:List Value,Vals xs its/\PlainL s.heap a its.toArray/\xs.length<=sizeLine:=by
 rcases h with h | ⟨o,its,n,hk,hc,hd,hs,hz,r⟩
 ·obtain⟨z,its,n,r,e⟩:=h.ok I.hok;exact⟨its,r,⟨_,n,e,rfl,rfl,rfl⟩,z⟩
 ·refine⟨its.toList,r,⟨o,n,I.kIn a o hk,hc,hd,by simpa using hs⟩,?_⟩;have e:=r.length;simp only[Qd] at e;omega
theorem Inv.tuple(I:Inv X pins σ H s)(h:SqT X.K H a xs):∃its:List Value,Vals xs its/\IsTup s.heap a its.toArray/\xs.length<=sizeLine:=by
 rcases h with h | ⟨o,its,n,hk,hc,hs,hz,r⟩
 ·obtain⟨z,its,r,p⟩:=h.ok I.hok;exact⟨its,r,p,z⟩
 ·refine⟨its.toList,r,⟨o,I.kIn a o hk,hc,n,by simpa using hs⟩,?_⟩;have e:=r.length;simp only[Qd] at e;omega
theorem Inv.list_inj(I:Inv X pins σ H s)(h:SqL X.K H a xs)(h':SqL X.K H a ys):xs=ys:=by
 obtain⟨its,r,⟨o,n,e,_,_,d⟩,_⟩:=I.list h;obtain⟨its',r',⟨o',n',e',_,_,d'⟩,_⟩:=I.list h';rw[e] at e';cases e';rw[d] at d';injection d' with d1 _
 have:its=its':=by simpa using congrArg Qzd d1
 subst this;exact r.inj r'
theorem Inv.tuple_inj(I:Inv X pins σ H s)(h:SqT X.K H a xs)(h':SqT X.K H a ys):xs=ys:=by
 obtain⟨its,r,⟨o,e,_,n,d⟩,_⟩:=I.tuple h;obtain⟨its',r',⟨o',e',_,n',d'⟩,_⟩:=I.tuple h';rw[e] at e';cases e';rw[d] at d';injection d' with d1 _
 have:its=its':=by simpa using congrArg Qzd d1
 subst this;exact r.inj r'
end
abbrev Cx.wish (X:Cx) (E:Value->Shared->Prop):Cx:={ X with xe:=E }
abbrev Cx.nox (X:Cx):Cx:=X.wish λ_ _=>False
theorem Cx.Ok.wish{X:Cx}(ok:X.Ok)(E:Value->Shared->Prop):(X.wish E).Ok:=
 ⟨ok.mod,ok.kind,ok.glob,ok.blt,ok.above,ok.inj,ok.has,ok.cab,ok.hd,ok.frames,ok.stk,ok.exf,ok.bs,ok.bsz,ok.noex,ok.exfs,ok.funs,ok.frf⟩
theorem Cx.Ok.unwish{X:Cx}{E:Value->Shared->Prop}(ok:(X.wish E).Ok):X.Ok:=
 ⟨ok.mod,ok.kind,ok.glob,ok.blt,ok.above,ok.inj,ok.has,ok.cab,ok.hd,ok.frames,ok.stk,ok.exf,ok.bs,ok.bsz,ok.noex,ok.exfs,ok.funs,ok.frf⟩
section
variable{X:Cx}{pins:List (Addr×Obj)}{σ:St}{H:Hp}{s:Shared}{E:Value->Shared->Prop}
theorem Inv.wish(I:Inv X pins σ H s)(E:Value->Shared->Prop):Inv (X.wish E) pins σ H s:=⟨I.ok.wish E,I.os,I.bare,I.base,I.loc,I.cell,I.free,I.freeC,I.pin,I.hok,I.len⟩
theorem Inv.unwish(I:Inv (X.wish E) pins σ H s):Inv X pins σ H s:=⟨I.ok.unwish,I.os,I.bare,I.base,I.loc,I.cell,I.free,I.freeC,I.pin,I.hok,I.len⟩
theorem SP.unwish{D:Ends}{f:Flow}{s':Shared}(h:SP (X.wish E) pins D f s'):SP X pins D f s':=by
 cases f with
 |next=>obtain⟨σ',H',I,q⟩:=h;exact⟨σ',H',I.unwish,q⟩
 |brk=>obtain⟨σ',H',I,q⟩:=h;exact⟨σ',H',I.unwish,q⟩
 |cont=>obtain⟨σ',H',I,q⟩:=h;exact⟨σ',H',I.unwish,q⟩
 |ret u=>obtain⟨v,σ',H',I,r,q⟩:=h;exact⟨v,σ',H',I.unwish,r,q⟩
theorem PE.nox{e:QU}{t:TE}(h:PE X.nox e t):PE X e t:=λpins s σ H Q I hw=>
 wpAny_mono (h pins s σ H Q (I.wish _) hw) (λ_ _ ⟨v,H',I',r,q⟩=>⟨v,H',I'.unwish,r,q⟩) λ_ _ z=>YB z
theorem PT.nox{e:QU}{t:TT}(h:PT X.nox e t):PT X e t:=λpins s σ H Q I hw=>
 wpAny_mono (h pins s σ H Q (I.wish _) hw) (λ_ _ ⟨H',I',q⟩=>⟨H',I'.unwish,q⟩) λ_ _ z=>YB z
theorem PSs.nox{st:List Qad}{t:TS}(h:PSs X.nox st t):PSs X st t:=λpins s σ H D I hw=>
 wpAny_mono (h pins s σ H D (I.wish _) hw) (λ_ _ q=>q.unwish) λ_ _ z=>YB z
end
section
variable{X:Cx}{st:Qad}{rest:List Qad}{t u:TS}{e:QU}{te:TE}{pos:Pos}
def Qz8:TS:=λD σ H=>D.nx σ H
def QBW(t u:TS):TS:=λD σ H=>t { D with nx:=u D } σ H
theorem QmZ:PSs X [] Qz8:=λ_ _ σ H _ I h=>Qk8 ⟨σ,H,I,h⟩
theorem Qku(h1:PS X st t)(h2:PSs X rest u):PSs X (st::rest) (QBW t u):=by
 intro pins s σ H D I h;refine wpAny_execs_cons (thn (h1 pins s σ H { D with nx:=u D } I h) λf s1 q=>?_);cases f with
 |next=>
  obtain⟨σ',H',I',q⟩:=q;exact h2 pins s1 σ' H' D I' q
 |ret v=>exact q
 |brk=>exact q
 |cont=>exact q
theorem Qjm(h1:PS X st t):PSs X [st] t:=by
 intro pins s σ H D I h;refine wpAny_execs_cons (thn (h1 pins s σ H D I h) λf s1 q=>?_);cases f with
 |next=>exact Qk8 q
 |ret v=>exact q
 |brk=>exact q
 |cont=>exact q
theorem Inv.quiet{pins:List (Addr×Obj)}{σ:St}{H:Hp}{s:Shared}(I:Inv X pins σ H s):interactive X.env=false:=by simp[interactive,I.ok.kind]
def Qpa(te:TE):TS:=λD σ H=>te σ H λ_ H1=>D.nx σ H1
theorem Qjn(he:PE X e te)(hs:swapsWith e none pos.line X.env=pure false:=by rfl):PS X (.Expr e pos) (Qpa te):=by
 intro pins s σ H D I h;exact wpAny_Expr_any (thn (he pins s σ H _ I h) λv s1 ⟨x,H1,I1,r1,q1⟩=>⟨σ,H1,I1,q1⟩) I.quiet hs
def QBX(te:TE):TS:=λD σ H=>te σ H D.rt
theorem Qh6(he:PE X e te):PS X (.Return (some e) pos) (QBX te):=by
 intro pins s σ H D I h;exact wpAny_Return_some (thn (he pins s σ H _ I h) λv s1 ⟨x,H1,I1,r1,q1⟩=>⟨x,σ,H1,I1,r1,q1⟩)
def QBZ(c:TT)(t u:TS):TS:=λD σ H=>c σ H λb H1=>if b=true then t D σ H1 else u D σ H1
theorem Qw7{c:QU}{a b:List Qad}{tc:TT}(hc:PT X c tc)(ha:PSs X a t)(hb:PSs X b u):PS X (.If c a b pos) (QBZ tc t u):=by
 intro pins s σ H D I h;refine wpAny_If (thn (hc pins s σ H _ I h) λd s1 ⟨H1,I1,q1⟩=>?_);cases d with
 |true=>exact ha pins s1 σ H1 D I1 q1
 |false=>exact hb pins s1 σ H1 D I1 q1
end
abbrev TG:=V->St->Hp->(St->Hp->Prop)->Prop
abbrev TGs:=List V->St->Hp->(St->Hp->Prop)->Prop
def PG(X:Cx)(target:QU)(t:TG):Prop:=
 ∀(pins:List (Addr×Obj))(s:Shared)(σ:St)(H:Hp)(v:V)(u:Value)(Q:St->Hp->Prop),Inv X pins σ H s->RelV v u->t v σ H Q ->
  wpAny (model X.prog X.w) X.A (assign target X.env u) (λ_ s'=>∃σ' H',Inv X pins σ' H' s'/\Q σ' H') X.xe s
def PGs(X:Cx)(ts:List QU)(t:TGs):Prop:=
 ∀(pins:List (Addr×Obj))(s:Shared)(σ:St)(H:Hp)(vs:List V)(us:List Value)(Q:St->Hp->Prop),Inv X pins σ H s->Vals vs us->t vs σ H Q ->
  wpAny (model X.prog X.w) X.A (assignInOrder ((assignEach ts X.env).map (·.2)) us) (λ_ s'=>∃σ' H',Inv X pins σ' H' s'/\Q σ' H') X.xe s
abbrev TSet:=V->V->V->Hp->(Hp->Prop)->Prop
def QBQ(X:Cx)(t:TSet):Prop:=
 ∀(pins:List (Addr×Obj))(s:Shared)(σ:St)(H:Hp)(o i v:V)(ov iv u:Value)(Q:Hp->Prop),Inv X pins σ H s->RelV o ov->RelV i iv->RelV v u->t o i v H Q ->
  wpAny (model X.prog X.w) X.A (setItem ov iv u) (λ_ s'=>∃H',Inv X pins σ H' s'/\Q H') X.xe s
abbrev TIp:=V->V->Hp->VK->Prop
def PIp(X:Cx)(op:Qgy)(t:TIp):Prop:=
 ∀(pins:List (Addr×Obj))(s:Shared)(σ:St)(H:Hp)(x y:V)(v u:Value)(Q:VK),Inv X pins σ H s->RelV x v->RelV y u->t x y H Q ->
  wpAny (model X.prog X.w) X.A (inplaceOp op v u) (EP X pins σ Q) X.xe s
section
variable{X:Cx}{pos:Pos}
def Qir(i:Nat):TG:=λv σ H Q=>Q (σ.set i (some v)) H
theorem Qm7{i:Nat}{x:Str}(hN:X.N.Nodup)(hi:X.N[i]? = some x)(hx:Loc X.env.scope x)(hf:X.fn x=true∨X.env.scope.names.lookup x=some .local:=by first | exact .inl rfl | exact .inr rfl | assumption):PG X (.Name x pos) (Qir i):=by
 intro pins s σ H v u Q I r h;exact Qzu (Qkd I hN hi hx r (λs' I'=>⟨_,H,I',h⟩) hf)
def QBx:TGs:=λvs σ H Q=>vs=[]/\Q σ H
def Qyr(t:TG)(u:TGs):TGs:=λvs σ H Q=>∃v r,vs=v::r/\t v σ H λσ' H'=>u r σ' H' Q
theorem Quc:PGs X [] QBx:=by
 intro pins s σ H vs us Q I r h;obtain⟨e,h⟩:=h;subst e;cases r;exact assignInOrder_nil ⟨σ,H,I,h⟩
theorem QpG{e:QU}{es:List QU}{t:TG}{u:TGs}(h1:PG X e t)(h2:PGs X es u)
  (hs:(assignEach (e::es) X.env).map (·.2)=assign e X.env::(assignEach es X.env).map (·.2):=by rfl):PGs X (e::es) (Qyr t u):=by
 intro pins s σ H vs us Q I r h;obtain⟨v,vr,e1,h⟩:=h;subst e1;cases r with
 |cons r rr=>
  rw[hs];refine assignInOrder_cons (thn (h1 pins s σ H _ _ _ I r h) λ_ s1 ⟨σ1,H1,I1,q1⟩=>?_);exact h2 pins s1 σ1 H1 _ _ Q I1 rr q1
def QBw(K:PySem.W.Frag)(n:Nat)(t:TGs):TG:=λv σ H Q=>∃a xs,v=.ref a/\SqT K H a xs/\xs.length=n/\t xs σ H Q
theorem Qxf{es:List QU}{k:Nat}{t:TGs}{n:Nat}(hc:X.calm=true)(h:PGs X es t)
  (hn:(assignEach es X.env).length=n:=by rfl)(hst:(assignEach es X.env).findIdx? (·.1)=none:=by rfl):PG X (.Tuple es k pos) (QBw X.K n t):=by
 intro pins s σ H v u Q I r hw;obtain⟨a,xs,e1,hq,hl,hw⟩:=hw;subst e1;cases r;obtain⟨its,rv,ht,hz⟩:=I.tuple hq;refine assign_Tuple_tuple (I.ok.hd hc) ht (by simp[hn,<- hl,rv.length]) hst λh' hx=>?_
 have I1:Inv X pins σ H { s with heap:=h' }:=I.kept (t':=s.toks) λb o e=>hx b o (Qz (Qm e)) e
 exact h pins _ σ H xs _ Q I1 (by simpa using rv) hw
def Qtx(te:TE)(g:TG):TS:=λD σ H=>te σ H λx H1=>g x σ H1 D.nx
theorem Qw9{tg e:QU}{te:TE}{g:TG}(he:PE X e te)(hg:PG X tg g)(hs:swapsWithSole [tg] e pos.line X.env=pure false:=by rfl)(hw:swappedStores [tg] e X.env=pure none:=by rfl)
  (h1:(assignEach [tg] X.env).map (·.2)=[assign tg X.env]:=by rfl):PS X (.Assign [tg] e pos) (Qtx te g):=by
 intro pins s σ H D I h;refine wpAny_Assign_stores (thn (he pins s σ H _ I h) λv s1 ⟨x,H1,I1,r1,q1⟩=>?_) hs hw;rw[h1];exact thn (hg pins s1 σ H1 x v _ I1 r1 q1) λ_ s2 q=>q
theorem Qsy{i:Nat}{x:Str}{e:QU}{te:TE}{pos':Pos}(hN:X.N.Nodup)(hi:X.N[i]? = some x)(hx:Loc X.env.scope x)(he:PE X e te)(hs:swapsWith e (some (.Name x pos')) pos.line X.env=pure false:=by rfl)(hf:X.fn x=true∨X.env.scope.names.lookup x=some .local:=by first | exact .inl rfl | exact .inr rfl | assumption) :
  PS X (.Assign [.Name x pos'] e pos) (Qtx te (Qir i)):=by
 intro pins s σ H D I h;refine wpAny_Assign_Name (thn (he pins s σ H _ I h) λv s1 ⟨y,H1,I1,r1,q1⟩=>?_) hs;exact Qkd I1 hN hi hx r1 (λs2 I2=>⟨_,H1,I2,q1⟩) hf
def Qwy(to ti te:TE)(tget:V->V->Hp->VK->Prop)(tip:TIp)(tset:TSet):TS:=λD σ H=>to σ H λo H1=>ti σ H1 λi H2=>tget o i H2 λx H3=>te σ H3 λy H4=>tip x y H4 λz H5=>tset o i z H5 λH6=>D.nx σ H6
def QBR(X:Cx)(t:V->V->Hp->VK->Prop):Prop:=
 ∀(pins:List (Addr×Obj))(s:Shared)(σ:St)(H:Hp)(o i:V)(ov iv:Value)(Q:VK),Inv X pins σ H s->RelV o ov->RelV i iv->t o i H Q ->
  wpAny (model X.prog X.w) X.A (getItem ov iv) (EP X pins σ Q) X.xe s
theorem Qt3{o i e:QU}{to ti te:TE}{tget:V->V->Hp->VK->Prop}{tip:TIp}{tset:TSet}{op:Qgy}{tpos:Pos}(ho:PE X o to)(hi:PE X i ti)(hg:QBR X tget)(he:PE X e te)(hp:PIp X op tip)(hs:QBQ X tset)
  (ha:∀ov iv new,augStore i ov iv new=(do holding [new,ov,iv] (setItem ov iv new);release [new,ov,iv] [];pure .next):=by intros;rfl):PS X (.AugAssign (.Subscript o i tpos) op e pos) (Qwy to ti te tget tip tset):=by
 intro pins s σ H D I h;refine wpAny_AugAssign_SubscriptAny (thn (ho pins s σ H _ I h) λov s1 ⟨x1,H1,I1,r1,q1⟩=>?_) ha;refine thn (hi pins s1 σ H1 _ I1 q1) λiv s2 ⟨x2,H2,I2,r2,q2⟩=>?_
 refine thn (hg pins s2 σ H2 x1 x2 ov iv _ I2 r1 r2 q2) λold s3 ⟨x3,H3,I3,r3,q3⟩=>?_
 refine thn (he pins s3 σ H3 _ I3 q3) λv s4 ⟨x4,H4,I4,r4,q4⟩=>?_
 refine thn (hp pins s4 σ H4 x3 x4 old v _ I4 r3 r4 q4) λnew s5 ⟨x5,H5,I5,r5,q5⟩=>?_
 exact thn (hs pins s5 σ H5 x1 x2 x5 ov iv new _ I5 r1 r2 r5 q5) λ_ s6 ⟨H6,I6,q6⟩=>⟨σ,H6,I6,q6⟩
def ipI(f:Int->Int->Int):TIp:=λx y H Q=>∃i j,x=.int i/\y=.int j/\Q (.int (f i j)) H
theorem Qyn:PIp X .Add (ipI λi j=>i+j):=by
 intro pins s σ H x y v u Q I r1 r2 h;obtain⟨i,j,e1,e2,q⟩:=h;subst e1;subst e2;obtain⟨t,rfl⟩:=r1;obtain⟨t',rfl⟩:=r2;exact iadd_int ⟨.int _,H,I.tok _,⟨_,rfl⟩,q⟩
end
section
variable{X:Cx}{pos:Pos}
end
structure It where
 go:Nat->Hp->Prop
 yld:Nat->Hp->V->Hp->Prop
 stop:Nat->Hp->Prop
def FpOk(X:Cx)(pins:List (Addr×Obj))(H:Hp)(b:Addr):Prop:=
 H b=none/\b≠X.env.locals/\b∉X.fs/\(b∈X.ex∨X.s₀.heap.objs.size<=b)/\(∀x c,X.env.cells.lookup x=some c->c≠b)/\∀p∈X.pn++pins,p.1≠b
theorem Inv.fpOk{X:Cx}{pins:List (Addr×Obj)}{σ:St}{H H':Hp}{s:Shared}{b:Addr}(I:Inv X pins σ H s)(hb:s.heap.objs.size<=b)(hn:H' b=none):FpOk X pins H' b:=by
 refine⟨hn,Qax (QM I.lt hb),I.nofs hb,.inr (Q1 I.sz hb),λx c e z=>?_,λp hp z=>?_⟩
 ·obtain⟨v,q⟩:=I.cell x c e;exact absurd (QM q.lt (by rw[z];exact hb)) (Qag _)
 ·exact absurd (QM (Qm (I.pin p hp).1) (by rw[z];exact hb)) (Qag _)
structure Turn (P:QC) (w:Q9) (K:PySem.W.Frag) (tg:QU) (J:It) (fp:List Addr) (it:Addr) (tn:Nat->Heap->Prop):Prop where
 mem:it∈fp
 obj:∀i h,tn i h->∀b∈fp,∃o,h.get? b=some o/\∀v,o.data≠.cell v
 keep:∀i h h',tn i h->(∀b∈fp,∀o,h.get? b=some o->h'.get? b=some o)->tn i h'
 item:∀(X:Cx),X.prog=P->X.w=w->X.K=K->X.calm=true->∀(i:Nat)(pins:List (Addr×Obj))(s:Shared)(σ:St)(H:Hp)(E:Value->Shared->Prop),Inv X pins σ H s->(∀b∈fp,FpOk X pins H b)->tn i s.heap->J.go i H ->
  wpAny (model P w) X.A (pyNext (.ref it)) (λr s1=>∃u,r=some u /\
   wpAny (model P w) X.A (letOwnedTupleGo tg (.ref it) u) (λ_ s2=>∃x H',Inv X pins σ H' s2/\RelV x u/\J.yld i H x H'/\tn (i+1) s2.heap/\∀b∈fp,H' b=none) E s1) E s
 done:∀(X:Cx),X.prog=P->X.w=w->X.K=K->X.calm=true->∀(i:Nat)(pins:List (Addr×Obj))(s:Shared)(σ:St)(H:Hp)(E:Value->Shared->Prop),Inv X pins σ H s->(∀b∈fp,FpOk X pins H b)->tn i s.heap->J.stop i H ->
  wpAny (model P w) X.A (pyNext (.ref it)) (λr s1=>r=none/\Inv X pins σ H s1) E s
 self:∀(A:Q5)(i:Nat)(s:Shared)(Q:Value->Shared->Prop)(E:Value->Shared->Prop),tn i s.heap->Q (.ref it) s->wpAny (model P w) A (pyIter (.ref it)) Q E s
abbrev TI:=St->Hp->(It->Hp->Prop)->Prop
def PIE(X:Cx)(pins:List (Addr×Obj))(σ:St)(tg:QU)(R:It->Hp->Prop)(itv:Value)(s2:Shared):Prop:=
 ∃(it:Addr)(fp:List Addr)(tn:Nat->Heap->Prop)(J:It)(H':Hp),itv=.ref it/\Inv X pins σ H' s2/\Turn X.prog X.w X.K tg J fp it tn/\tn 0 s2.heap/\(∀b∈fp,FpOk X pins H' b)/\R J H'
def PI(X:Cx)(tg iter:QU)(wi:TI):Prop:=
 ∀(pins:List (Addr×Obj))(s:Shared)(σ:St)(H:Hp)(R:It->Hp->Prop),Inv X pins σ H s->wi σ H R ->
  wpAny (model X.prog X.w) X.A (eval iter X.env) (λv s1=>wpAny (model X.prog X.w) X.A (pyIter v) (PIE X pins σ tg R) X.xe s1) X.xe s
theorem QrH{M:QzM}{A:Q5}{E:Value->Shared->Prop}{s:Shared}{tg:QU}{it:Addr}{u:Value}{o:Obj}{n:String}{vs:Array Value}{Q:Unit->Shared->Prop}(ho:s.heap.get? it=some o)(hc:o.cls=.type n)(hd:o.data=.fields vs)
  (hn:["enumerate", "zip", "dict_itemiterator", "dict_reverseitemiterator", "odict_iterator", "itertools.zip_longest", "itertools.pairwise"].contains n=false)(hQ:Q () s):wpAny M A (letOwnedTupleGo tg (.ref it) u) Q E s:=by
 unfold letOwnedTupleGo;cases tg<;>first
  |exact Qb hQ
  |(cases u<;>first
    |exact Qb hQ
    |(refine wpAny_bind (wpAny_load ho ?_)
      rw[hc,hd];show wpAny M A (if(["enumerate", "zip", "dict_itemiterator", "dict_reverseitemiterator", "odict_iterator", "itertools.zip_longest", "itertools.pairwise"].contains n&&vs[0]? == some (rawInt _))=true then _ else _) Q E s;rw[if_neg (by intro h;rw[hn,Bool.false_and] at h;cases h)];exact Qb hQ))
def Itl(K:PySem.W.Frag)(a:Addr):It:=
 ⟨λi H=>∃xs x,SqL K H a xs/\xs[i]? = some x,λi H x H'=>H'=H/\∀xs,SqL K H a xs->xs[i]? = some x,λi H=>∃xs,SqL K H a xs/\xs.length<=i⟩
def Itt(K:PySem.W.Frag)(a:Addr):It:=
 ⟨λi H=>∃xs x,SqT K H a xs/\xs[i]? = some x,λi H x H'=>H'=H/\∀xs,SqT K H a xs->xs[i]? = some x,λi H=>∃xs,SqT K H a xs/\xs.length<=i⟩
def Itr(lo:Int)(n:Nat):It:=⟨λi _=>i<n,λi H x H'=>H'=H/\x=.int (lo+i),λi _=>n<=i⟩
theorem Qmm{P:QC}{w:Q9}{K:PySem.W.Frag}{tg:QU}(a it:Addr):Turn P w K tg (Itl K a) [it] it (λi h=>h.IsListIter it a i) where
 mem:=by simp
 obj:=λi h st b hb=>by
  have e:b=it:=by simpa using hb
  subst e;obtain⟨o,e,c,d⟩:=st;exact⟨o,e,λv z=>by rw[d] at z;cases z⟩
 keep:=λi h h' st k=>st.at λo e=>k it (by simp) o e
 item:=by
  intro X hP hw hK hc i pins s σ H E I hf st hg;subst hP hw hK;obtain⟨xs,x,hq,hx⟩:=hg;obtain⟨its,rv,p,hz⟩:=I.list hq;obtain⟨u,hu,ru⟩:=rv.get hx;obtain⟨f0,f1,f2,f3,f4,f5⟩:=hf it (by simp);refine wpAny_pyNext_list_item st p.isList (x:=u) (by simpa using hu) λh' st' sb=>?_
  have I1:Inv X pins σ H { s with heap:=h' }:=I.turned (t':=s.toks) (λb o hb e=>(sb.2 b hb).trans e) f0 f1 f3 f4 f5;obtain⟨o,e,c,d⟩:=id st';exact⟨u,rfl,QrH (s:={ s with heap:=h' }) e c d (by decide) ⟨x,H,I1,ru,⟨rfl,λys hy=>by rw[I.list_inj hy hq];exact hx⟩,st',λb hb=>(hf b hb).1⟩⟩
 done:=by
  intro X hP hw hK hc i pins s σ H E I hf st hg;subst hP hw hK;obtain⟨xs,hq,hx⟩:=hg;obtain⟨its,rv,p,hz⟩:=I.list hq;obtain⟨f0,f1,f2,f3,f4,f5⟩:=hf it (by simp);have hl:=rv.length;exact wpAny_pyNext_list_end (I.ok.hd hc) st p.isList (by simp;omega) λh' eb=>⟨rfl,I.turned (t':=s.toks) (λb o hb e=>eb b o hb e) f0 f1 f3 f4 f5⟩
 self:=λ_ _ _ _ _ st h=>wpAny_pyIter_listiter st h
theorem Qlk{P:QC}{w:Q9}{K:PySem.W.Frag}{tg:QU}(a it:Addr):Turn P w K tg (Itt K a) [it] it (λi h=>h.IsTupleIter it a i) where
 mem:=by simp
 obj:=λi h st b hb=>by
  have e:b=it:=by simpa using hb
  subst e;obtain⟨o,e,c,d⟩:=st;exact⟨o,e,λv z=>by rw[d] at z;cases z⟩
 keep:=λi h h' st k=>st.at λo e=>k it (by simp) o e
 item:=by
  intro X hP hw hK hc i pins s σ H E I hf st hg;subst hP hw hK;obtain⟨xs,x,hq,hx⟩:=hg;obtain⟨its,rv,p,hz⟩:=I.tuple hq;obtain⟨u,hu,ru⟩:=rv.get hx;obtain⟨f0,f1,f2,f3,f4,f5⟩:=hf it (by simp);refine wpAny_pyNext_tuple_item st (show s.heap.IsTuple a its.toArray from p) (x:=u) (by simpa using hu) λh' st' sb=>?_
  have I1:Inv X pins σ H { s with heap:=h' }:=I.turned (t':=s.toks) (λb o hb e=>(sb.2 b hb).trans e) f0 f1 f3 f4 f5;obtain⟨o,e,c,d⟩:=id st';exact⟨u,rfl,QrH (s:={ s with heap:=h' }) e c d (by decide) ⟨x,H,I1,ru,⟨rfl,λys hy=>by rw[I.tuple_inj hy hq];exact hx⟩,st',λb hb=>(hf b hb).1⟩⟩
 done:=by
  intro X hP hw hK hc i pins s σ H E I hf st hg;subst hP hw hK;obtain⟨xs,hq,hx⟩:=hg;obtain⟨its,rv,p,hz⟩:=I.tuple hq;obtain⟨f0,f1,f2,f3,f4,f5⟩:=hf it (by simp);have hl:=rv.length;exact wpAny_pyNext_tuple_end (I.ok.hd hc) st (show s.heap.IsTuple a its.toArray from p) (by simp;omega) λh' eb=>⟨rfl,I.turned (t':=s.toks) (λb o hb e=>eb b o hb e) f0 f1 f3 f4 f5⟩
 self:=λ_ _ _ _ _ st h=>wpAny_pyIter_tupleiter st h
theorem Qll{P:QC}{w:Q9}{K:PySem.W.Frag}{tg:QU}(it:Addr)(lo:Int)(n:Nat):Turn P w K tg (Itr lo n) [it] it (λi h=>Qli h it (lo+(i:Nat)*1) ((n:Int) - (i:Nat)) 1) where
 mem:=by simp
 obj:=λi h st b hb=>by
  have e:b=it:=by simpa using hb
  subst e;exact⟨_,st,λv z=>by
   have z':Data.fields _=Data.cell v:=z;cases z'⟩
 keep:=λi h h' st k=>k it (by simp) _ st
 item:=by
  intro X hP hw hK hc i pins s σ H E I hf st hg;subst hP hw hK;obtain⟨f0,f1,f2,f3,f4,f5⟩:=hf it (by simp);have W:=Qzz (prog:=X.prog) (w:=X.w) (I.ok.hd hc) it lo 1 n;refine W.item i s _ _ hg st λv h' tk hv st' kk=>?_
  obtain⟨t,rfl⟩:=hv;have I1:Inv X pins σ H { s with heap:=h',toks:=tk }:=I.turned (λb o hb e=>kk b o (by simpa using hb) e) f0 f1 f3 f4 f5;refine⟨_,rfl,QrH (s:={ s with heap:=h',toks:=tk }) (n := "range_iterator") st' rfl rfl (by decide) ⟨.int (lo+i),H,I1,⟨t,?_⟩,⟨rfl,rfl⟩,st',λb hb=>(hf b hb).1⟩⟩;rw[Int.mul_one]
 done:=by
  intro X hP hw hK hc i pins s σ H E I hf st hg;subst hP hw hK;obtain⟨f0,f1,f2,f3,f4,f5⟩:=hf it (by simp);exact Qr8 (I.ok.hd hc) st (by have:n<=i:=hg;omega) λh' eb=>⟨rfl,I.turned (t':=s.toks) (λb o hb e=>eb b o hb e) f0 f1 f3 f4 f5⟩
 self:=λ_ _ _ _ _ st h=>QdF st h
section
variable{X:Cx}{tg:QU}
def QAS(K:PySem.W.Frag)(tl:TE):TI:=λσ H R=>tl σ H λx H1=>∃a,x=.ref a/\(∃xs,SqL K H1 a xs)/\R (Itl K a) H1
def QCh(K:PySem.W.Frag)(tl:TE):TI:=λσ H R=>tl σ H λx H1=>∃a,x=.ref a/\(∃xs,SqT K H1 a xs)/\R (Itt K a) H1
theorem Qt9{l:QU}{tl:TE}(hl:PE X l tl):PI X tg l (QAS X.K tl):=by
 intro pins s σ H R I h;refine thn (hl pins s σ H _ I h) λv s1 ⟨x,H1,I1,r1,q1⟩=>?_
 obtain⟨a,e,⟨xs,hq⟩,q⟩:=q1;subst e;cases r1;obtain⟨its,rv,p,hz⟩:=I1.list hq;refine QhG p.isList ?_
 refine⟨s1.heap.objs.size,[s1.heap.objs.size],_,_,H1,rfl,I1.kept (t':=s1.toks) λb o e=>Qe _ e,Qmm a _,⟨_,Qw _ rfl,rfl,rfl⟩,λb hb=>?_,q⟩;have e:b=s1.heap.objs.size:=by simpa using hb
 subst e;exact I1.fpOk (Qh _) (I1.hok.fresh (Qh _))
theorem Qxe{l:QU}{tl:TE}(hl:PE X l tl):PI X tg l (QCh X.K tl):=by
 intro pins s σ H R I h;refine thn (hl pins s σ H _ I h) λv s1 ⟨x,H1,I1,r1,q1⟩=>?_
 obtain⟨a,e,⟨xs,hq⟩,q⟩:=q1;subst e;cases r1;obtain⟨its,rv,p,hz⟩:=I1.tuple hq;refine Qgr (show s1.heap.IsTuple a its.toArray from p) ?_
 refine⟨s1.heap.objs.size,[s1.heap.objs.size],_,_,H1,rfl,I1.kept (t':=s1.toks) λb o e=>Qe _ e,Qlk a _,⟨_,Qw _ rfl,rfl,rfl⟩,λb hb=>?_,q⟩;have e:b=s1.heap.objs.size:=by simpa using hb
 subst e;exact I1.fpOk (Qh _) (I1.hok.fresh (Qh _))
theorem Qkl{pins:List (Addr×Obj)}{σ:St}{H:Hp}{s:Shared}{R:It->Hp->Prop}{E:Value->Shared->Prop}{lo hi:Int}{t u v:Tok}{tk:Nat}(I:Inv X pins σ H s)(h1 : -(2^62)<=lo)(h2:lo<2^62)(h3 : -(2^62)<=hi)(h4:hi<2^62)
  (q:R (Itr lo (hi - lo).toNat) H):wpAny (model X.prog X.w) X.A (pyIter (.ref s.heap.objs.size)) (PIE X pins σ tg R) E { s with heap:=s.heap.push { cls:=.type "range",data:=.fields #[.int lo t,.int hi u,.int 1 v] },toks:=tk }:=by
 refine wpAny_pyIter_range (IsRange.new ..) (small_one h1 h2 h3 h4) ?_
 have I1:Inv X pins σ H { s with heap:=s.heap.push { cls:=.type "range",data:=.fields #[.int lo t,.int hi u,.int 1 v] },toks:=tk }:=I.kept λb o e=>Qe _ e
 refine⟨(s.heap.push { cls:=.type "range",data:=.fields #[.int lo t,.int hi u,.int 1 v] }).objs.size,[(s.heap.push { cls:=.type "range",data:=.fields #[.int lo t,.int hi u,.int 1 v] }).objs.size],_,_,H,rfl,
  I1.kept (t':=tk) λb o e=>Qe _ e,Qll _ lo (hi - lo).toNat,?_,λb hb=>?_,q⟩
 ·have e1:lo+((0:Nat):Int)*1=lo:=by simp
  have e2:(((hi - lo).toNat:Nat):Int) - ((0:Nat):Int)=Zj lo hi 1:=by rw[Qgu];split<;>omega
  show Qli _ _ (lo+((0:Nat):Int)*1) ((((hi - lo).toNat:Nat):Int) - ((0:Nat):Int)) 1;rw[e1,e2];exact Qw _ rfl
 ·have e:b=(s.heap.push { cls:=.type "range",data:=.fields #[.int lo t,.int hi u,.int 1 v] }).objs.size:=by simpa using hb
  subst e;exact I1.fpOk (Qh _) (I1.hok.fresh (Qh _))
def QAR(ta:TA):TI:=λσ H R=>ta σ H λvs H1=>∃j:Int,vs=[.int j] /\ -(2^62)<=j/\j<2^62/\R (Itr 0 j.toNat) H1
def QAQ(ta:TA):TI:=λσ H R=>ta σ H λvs H1=>∃i j:Int,vs=[.int i,.int j]/\(-(2^62)<=i/\i<2^62 /\ -(2^62)<=j/\j<2^62)/\R (Itr i (j - i).toNat) H1
theorem Qm6{a:QU}{ta:TA}{p pos:Pos}(hg:Gl X "range")(hm:X.mg "range" = none)(ha:PA X [a] ta)(hs:starEach [a] X.env=[(false,eval a X.env)]:=by rfl):PI X tg (.Call (.Name "range" p) [a] [] pos) (QAR ta):=by
 intro pins s σ H R I h;refine Call_ (QcV I hg hm Qzy (JK (thn (ha pos pins s σ H _ I h) λus s1 ⟨vs,H1,I1,r1,q1⟩=>?_) hs rfl));obtain⟨j,e,q1,q2,q⟩:=q1;subst e;cases r1 with
 |cons r rr=>
  cases rr;obtain⟨t,rfl⟩:=r;exact call_range_1 (Qkl I1 (by omega) (by omega) q1 q2 (by simpa using q))
theorem Qm5{a b:QU}{ta:TA}{p pos:Pos}(hg:Gl X "range")(hm:X.mg "range" = none)(ha:PA X [a,b] ta)(hs:starEach [a,b] X.env=[(false,eval a X.env),(false,eval b X.env)]:=by rfl)(hs2:starEach [b] X.env=[(false,eval b X.env)]:=by rfl) :
  PI X tg (.Call (.Name "range" p) [a,b] [] pos) (QAQ ta):=by
 intro pins s σ H R I h;refine Call_ (QcV I hg hm Qzy (JK (thn (ha pos pins s σ H _ I h) λus s1 ⟨vs,H1,I1,r1,q1⟩=>?_) (by rw[hs,hs2]) (by rw[hs2];rfl)));obtain⟨i,j,e,⟨q1,q2,q3,q4⟩,q⟩:=q1;subst e;cases r1 with
 |cons r rr=>
  cases rr with
  |cons r' rr=>
   cases rr;obtain⟨t,rfl⟩:=r;obtain⟨t',rfl⟩:=r';exact call_range_2 (Qkl I1 q1 q2 q3 q4 q)
def tFor(wi:TI)(g:TG)(tb:TS):TS:=λD σ H=>wi σ H λJ H1=>∃W:Nat->Nat->St->Hp->Prop,(∃m,W 0 m σ H1)/\∀i m σ H,W i m σ H ->
 (J.stop i H/\D.nx σ H)∨(J.go i H/\∃N:St->Hp->Prop,(∀σ' H',N σ' H'->∃m',m'<m/\W (i+1) m' σ' H')/\∀x H',J.yld i H x H'->g x σ H' λσ2 H2=>tb { D with nx:=N,ct:=N,bk:=D.nx } σ2 H2)
def Qkw(fp:List Addr)(h:Heap):List (Addr×Obj):=fp.filterMap λb=>(h.get? b).map λo=>(b,o)
theorem QaZ{fp:List Addr}{h:Heap}{b:Addr}{o:Obj}(hb:b∈fp)(e:h.get? b=some o):(b,o)∈Qkw fp h:=Yd.mpr ⟨b,hb,by rw[e];rfl⟩
theorem Qnu{fp:List Addr}{h:Heap}{p:Addr×Obj}(hp:p∈Qkw fp h):p.1∈fp/\h.get? p.1=some p.2:=by
 obtain⟨b,hb,e⟩:=Yd.mp hp;cases q:h.get? b with
 |none=>rw[q] at e;cases e
 |some o=>
  rw[q] at e;have e':(b,o)=p:=Qt e;subst e';exact⟨hb,q⟩
theorem Inv.pinned{pins:List (Addr×Obj)}{σ:St}{H:Hp}{s:Shared}{fp:List Addr}(I:Inv X pins σ H s)(hf:∀b∈fp,FpOk X pins H b)(ho:∀b∈fp,∃o,s.heap.get? b=some o/\∀v,o.data≠.cell v):Inv X (pins++Qkw fp s.heap) σ H s:=
 I.pins_of λp hp=>(Jb.mp hp).elim (λz=>I.pin p (QR _ z)) λz=>by
  obtain⟨hb,e⟩:=Qnu z;obtain⟨f0,f1,f2,_⟩:=hf p.1 hb;obtain⟨o,e',d⟩:=ho p.1 hb;rw[e] at e';cases e';exact⟨e,f0,f1,f2,d⟩
theorem Inv.unpinned{pins pl:List (Addr×Obj)}{σ:St}{H:Hp}{s:Shared}(I:Inv X (pins++pl) σ H s):Inv X pins σ H s:=I.pins_of λp hp=>I.pin p (QR _ (ZV _ hp))
theorem Qw8{iter:QU}{body:List Qad}{wi:TI}{g:TG}{tb:TS}{pos:Pos}(hp:PassesOwn (model X.prog X.w) X.A X.env X.xe)(hc:X.calm=true)(hi:PI X tg iter wi)(hg:PG X tg g)(hb:PSs X body tb)
  (hs:∀x,foldedSetIterable iter X.env x=pure x:=by intro _;rfl):PS X (.For tg iter body [] pos) (tFor wi g tb):=by
 intro pins s σ H D I h;refine wpAny_For (thn (hi pins s σ H _ I h) λv s1 h1=>thn h1 λitv s2 h2=>?_) hs;obtain⟨it,fp,tn,J,H2,e,I2,T,st2,f2,W,⟨m0,w0⟩,turn⟩:=h2;subst e;have stat:∀{H':Hp},(∀b∈fp,H' b=none)->∀b∈fp,FpOk X pins H' b:=λhn b hb=>⟨hn b hb,(f2 b hb).2⟩
 refine codeAny_forLoop_any (λn s'=>∃i σ' H',Inv X pins σ' H' s'/\tn i s'.heap/\(∀b∈fp,H' b=none)/\W i n σ' H') ?_ m0 ⟨0,σ,H2,I2,st2,λb hb=>(f2 b hb).1,w0⟩
 rintro n s3 ⟨i,σ3,H3,I3,st3,fr3,w3⟩;rcases turn i n σ3 H3 w3 with⟨stop,qn⟩ | ⟨go,N,hN,step⟩
 ·refine Qb0 hp (thn (T.done X rfl rfl rfl hc i pins s3 σ3 H3 X.xe I3 (stat fr3) st3 stop) λr s4 ⟨hr,I4⟩=>?_);subst hr;exact Qk8 ⟨σ3,H3,I4,qn⟩
 ·refine Qb0 hp (thn (T.item X rfl rfl rfl hc i pins s3 σ3 H3 X.xe I3 (stat fr3) st3 go) λr s4 ⟨u,hr,h4⟩=>?_);subst hr;refine Qb0 hp (thn h4 λ_ s5 ⟨x,H5,I5,r5,y5,st5,fr5⟩=>?_);have I5':=I5.pinned (stat fr5) (T.obj _ _ st5);refine Qb0 hp (thn (hg _ s5 σ3 H5 x u _ I5' r5 (step x H5 y5)) λ_ s6 ⟨σ6,H6,I6,q6⟩=>?_);refine Qb0 hp (thn (hb _ s6 σ6 H6 _ I6 q6) λf s7 q7=>?_);have again:∀{σ7:St}{H7:Hp},Inv X (pins++Qkw fp s5.heap) σ7 H7 s7->N σ7 H7->∃m,m<n/\∃i σ' H',Inv X pins σ' H' s7/\tn i s7.heap/\(∀b∈fp,H' b=none)/\W i m σ' H':=λ{σ7 H7} I7 n7=>by
   obtain⟨m',hm,w7⟩:=hN σ7 H7 n7;refine⟨m',hm,i+1,σ7,H7,I7.unpinned,T.keep _ _ _ st5 λb hb o e=>(I7.pin (b,o) (QR _ (QR _ (QaZ hb e)))).1,λb hb=>?_,w7⟩;obtain⟨o,e,d⟩:=T.obj _ _ st5 b hb;exact(I7.pin (b,o) (QR _ (QR _ (QaZ hb e)))).2.1
  cases f with
  |next=>obtain⟨σ7,H7,I7,n7⟩:=q7;exact again I7 n7
  |cont=>obtain⟨σ7,H7,I7,n7⟩:=q7;exact again I7 n7
  |brk=>obtain⟨σ7,H7,I7,q7⟩:=q7;exact⟨σ7,H7,I7.unpinned,q7⟩
  |ret v=>obtain⟨x7,σ7,H7,I7,r7,q7⟩:=q7;exact⟨x7,σ7,H7,I7.unpinned,r7,q7⟩
end
abbrev R2:=V->V->Hp->VK->Prop
def OpR(X:Cx)(f:Value->Value->Sem Value)(r:R2):Prop:=
 ∀(pins:List (Addr×Obj))(s:Shared)(σ:St)(H:Hp)(x y:V)(v u:Value)(Q:VK),Inv X pins σ H s->RelV x v->RelV y u->r x y H Q ->
  wpAny (model X.prog X.w) X.A (f v u) (EP X pins σ Q) X.xe s
def UnR(X:Cx)(f:Value->Sem Value)(r:V->Hp->VK->Prop):Prop:=
 ∀(pins:List (Addr×Obj))(s:Shared)(σ:St)(H:Hp)(x:V)(v:Value)(Q:VK),Inv X pins σ H s->RelV x v->r x H Q ->
  wpAny (model X.prog X.w) X.A (f v) (EP X pins σ Q) X.xe s
def CallR(X:Cx)(f:Value)(r:List V->Hp->VK->Prop):Prop:=
 ∀(pins:List (Addr×Obj))(s:Shared)(σ:St)(H:Hp)(xs:List V)(us:List Value)(Q:VK),Inv X pins σ H s->Vals xs us->r xs H Q ->
  wpAny (model X.prog X.w) X.A (call f us) (EP X pins σ Q) X.xe s
def QCq(X:Cx)(r:V->Hp->(Bool->Hp->Prop)->Prop):Prop:=
 ∀(pins:List (Addr×Obj))(s:Shared)(σ:St)(H:Hp)(x:V)(v:Value)(Q:Bool->Hp->Prop),Inv X pins σ H s->RelV x v->r x H Q ->
  wpAny (model X.prog X.w) X.A (truthy v) (TP X pins σ Q) X.xe s
def tOp(r:R2)(ta tb:TE):TE:=λσ H Q=>ta σ H λx H1=>tb σ H1 λy H2=>r x y H2 Q
def tUn(r:V->Hp->VK->Prop)(ta:TE):TE:=λσ H Q=>ta σ H λx H1=>r x H1 Q
def rI(C:Int->Int->Prop)(g:Int->Int->V):R2:=λx y H Q=>∃i j,x=.int i/\y=.int j/\C i j/\Q (g i j) H
def rI0(g:Int->Int->V):R2:=λx y H Q=>∃i j,x=.int i/\y=.int j/\Q (g i j) H
def rU(g:Int->V):V->Hp->VK->Prop:=λx H Q=>∃i,x=.int i/\Q (g i) H
section
variable{X:Cx}{a b c:QU}{ta tb tc:TE}{pos:Pos}
theorem QA6(ha:PE X a ta)(hb:PE X b tb){pins:List (Addr×Obj)}{s:Shared}{σ:St}{H:Hp}{R:V->V->Hp->Prop}(I:Inv X pins σ H s)
  (h:ta σ H λx H1=>tb σ H1 λy H2=>R x y H2){Q:Value->Shared->Prop}{f:Value->Value->Sem Value}
  (hf:∀v u s2 x y H2,Inv X pins σ H2 s2->RelV x v->RelV y u->R x y H2->wpAny (model X.prog X.w) X.A (f v u) Q X.xe s2) :
  wpAny (model X.prog X.w) X.A (eval a X.env) (λv s₁=>wpAny (model X.prog X.w) X.A (eval b X.env) (λu s₂=>wpAny (model X.prog X.w) X.A (f v u) Q X.xe s₂) X.xe s₁) X.xe s:=by
 refine thn (ha pins s σ H _ I h) λv s1 ⟨x,H1,I1,r1,q1⟩=>?_
 refine thn (hb pins s1 σ H1 _ I1 q1) λu s2 ⟨y,H2,I2,r2,q2⟩=>?_
 exact hf v u s2 x y H2 I2 r1 r2 q2
theorem QAo{op:Qgy}{r:R2}(ho:OpR X (binaryOp op) r)(ha:PE X a ta)(hb:PE X b tb):PE X (.BinOp a op b pos) (tOp r ta tb):=by
 intro pins s σ H Q I h;exact wpAny_BinOp (QA6 ha hb I h λv u s2 x y H2 I2 rx ry q=>ho pins s2 σ H2 x y v u Q I2 rx ry q)
theorem QAn{op:UnaryOp}{r:V->Hp->VK->Prop}(ho:UnR X (unaryOp op) r)(ha:PE X a ta):PE X (.UnaryOp op a pos) (tUn r ta):=by
 intro pins s σ H Q I h;exact UnaryOp_ (thn (ha pins s σ H _ I h) λv s1 ⟨x,H1,I1,r1,q1⟩=>ho pins s1 σ H1 x v Q I1 r1 q1)
theorem opI{f:Value->Value->Sem Value}{C:Int->Int->Prop}{g:Int->Int->Int}
  (rule:∀(i j:Int)(t u:Tok)(s:Shared)(Q:Value->Shared->Prop)(E:Value->Shared->Prop),C i j->Q (.int (g i j) s.toks) { s with toks:=s.toks+1 }->wpAny (model X.prog X.w) X.A (f (.int i t) (.int j u)) Q E s) :
  OpR X f (rI C λi j=>.int (g i j)):=by
 intro pins s σ H x y v u Q I rx ry h;obtain⟨i,j,rfl,rfl,hc,q⟩:=h;obtain⟨t,rfl⟩:=rx;obtain⟨t',rfl⟩:=ry;exact rule i j t t' s _ _ hc ⟨.int (g i j),H,I.tok _,⟨_,rfl⟩,q⟩
theorem Qzj{f:Value->Value->Sem Value}{g:Int->Int->Int}
  (rule:∀(i j:Int)(t u:Tok)(s:Shared)(Q:Value->Shared->Prop)(E:Value->Shared->Prop),Q (.int (g i j) s.toks) { s with toks:=s.toks+1 }->wpAny (model X.prog X.w) X.A (f (.int i t) (.int j u)) Q E s) :
  OpR X f (rI0 λi j=>.int (g i j)):=by
 intro pins s σ H x y v u Q I rx ry h;obtain⟨i,j,rfl,rfl,q⟩:=h;obtain⟨t,rfl⟩:=rx;obtain⟨t',rfl⟩:=ry;exact rule i j t t' s _ _ ⟨.int (g i j),H,I.tok _,⟨_,rfl⟩,q⟩
theorem Qzk{f:Value->Value->Sem Value}{g:Int->Int->Bool}
  (rule:∀(i j:Int)(t u:Tok)(s:Shared)(Q:Value->Shared->Prop)(E:Value->Shared->Prop),Q (.bool (g i j)) s->wpAny (model X.prog X.w) X.A (f (.int i t) (.int j u)) Q E s) :
  OpR X f (rI0 λi j=>.bl (g i j)):=by
 intro pins s σ H x y v u Q I rx ry h;obtain⟨i,j,rfl,rfl,q⟩:=h;obtain⟨t,rfl⟩:=rx;obtain⟨t',rfl⟩:=ry;exact rule i j t t' s _ _ ⟨.bl (g i j),H,I,rfl,q⟩
def QCr(i j:Int):Prop:=0<=j/\j<=1000000/\i.natAbs<2^64
def CMul(i j:Int):Prop:=(-(2^64)<i/\i<2^64)∨(-(2^64)<j/\j<2^64)
theorem CMul.ok{i j:Int}(h:CMul i j):IntMulOk i j:=by
 rcases h with⟨h1,h2⟩ | ⟨h1,h2⟩
 ·exact .of_left (intBits_le_64 h1 h2)
 ·exact .of_right (intBits_le_64 h1 h2)
theorem QxS:OpR X (binaryOp .Add) (rI0 λi j=>.int (i+j)):=Qzj λ_ _ _ _ _ _ _ q=>add_int q
theorem QbY:OpR X (binaryOp .Sub) (rI0 λi j=>.int (i - j)):=Qzj λ_ _ _ _ _ _ _ q=>sub_int q
theorem QxG:OpR X (binaryOp .Mult) (rI CMul λi j=>.int (i*j)):=opI λ_ _ _ _ _ _ _ hc q=>mul_int q hc.ok
theorem QxH:OpR X (binaryOp .Mod) (rI (λ_ j=>0<j) λi j=>.int (i % j)):=opI λi j _ _ _ _ _ hc q=>by
 have h1:(0:Int)<j:=hc;exact mod_int' (by omega) (by rw[Int.fmod_eq_emod_of_nonneg i (by omega)];exact q)
theorem Qnj:OpR X (binaryOp .LShift) (rI QCr λi j=>.int (i*2^j.toNat)):=opI λ_ _ _ _ _ _ _ hc q=>lshift_int_small hc.1 hc.2.1 hc.2.2 q
theorem QxR:OpR X (binaryOp .BitAnd) (rI0 λi j=>.int (Yx i j)):=Qzj λ_ _ _ _ _ _ _ q=>and_int q
theorem QAz:OpR X (binaryOp .BitOr) (rI0 λi j=>.int (QdL i j)):=Qzj λ_ _ _ _ _ _ _ q=>or_int q
theorem unI{f:Value->Sem Value}{g:Int->Int}
  (rule:∀(i:Int)(t:Tok)(s:Shared)(Q:Value->Shared->Prop)(E:Value->Shared->Prop),Q (.int (g i) s.toks) { s with toks:=s.toks+1 }->wpAny (model X.prog X.w) X.A (f (.int i t)) Q E s) :
  UnR X f (rU λi=>.int (g i)):=by
 intro pins s σ H x v Q I rx h;obtain⟨i,rfl,q⟩:=h;obtain⟨t,rfl⟩:=rx;exact rule i t s _ _ ⟨.int (g i),H,I.tok _,⟨_,rfl⟩,q⟩
theorem Qwo:UnR X (unaryOp .USub) (rU λi=>.int (-i)):=unI λ_ _ _ _ _ q=>neg_int q
end
def QBe:V->V->Bool
 |.non,.non=>true | .non,.int _=>true | .int _,.non=>true | .non,.bl _=>true | .bl _,.non=>true | .non,.str _=>true | .str _,.non=>true
 |.int _,.int _=>true | .bl _,.bl _=>true | .str _,.str _=>true | .byt _,.byt _=>true
 |.int _,.str _=>true | .str _,.int _=>true | .bl _,.str _=>true | .str _,.bl _=>true
 |_,_=>false
def rEq:R2:=λx y H Q=>QBe x y=true/\Q (.bl (decide (x=y))) H
def rNe:R2:=λx y H Q=>QBe x y=true/\Q (.bl (!decide (x=y))) H
theorem Qof{i j:Int}:decide (V.int i=V.int j)=(i == j):=by
 rw[QaG];simp
theorem QsV{i j:Bool}:decide (V.bl i=V.bl j)=(i == j):=by
 rw[QaG];simp
theorem Qoe{i j:Str}:decide (V.str i=V.str j)=(i == j):=by
 rw[QaG];simp
theorem Qog{i j:Array UInt8}:decide (V.byt i=V.byt j)=(i.toList == j.toList):=by
 rw[QaG];cases i;cases j;simp
section
variable{X:Cx}{a b c:QU}{ta tb tc:TE}{pos:Pos}
theorem Z3{pins:List (Addr×Obj)}{σ:St}{H:Hp}{s:Shared}{Q:VK}{k k':Bool}(I:Inv X pins σ H s)(q:Q (.bl k) H)(e:k=k'):EP X pins σ Q (.bool k') s:=by
 subst e;exact⟨.bl k,H,I,rfl,q⟩
theorem QAD:OpR X (compareOp .Eq) rEq:=by
 intro pins s σ H x y v u Q I rx ry h;obtain⟨hs,q⟩:=h;cases x with
 |non=>
  cases rx;cases y with
  |non=>cases ry;exact PySem.EqNone.eq_none_none (Z3 I q (by simp))
  |bl j=>cases ry;exact PySem.EqNone.eq_none_bool (Z3 I q (by simp))
  |int j=>obtain⟨t',rfl⟩:=ry;exact PySem.EqNone.eq_none_int (Z3 I q (by simp))
  |str j=>obtain⟨t',rfl⟩:=ry;exact PySem.EqNone.eq_none_str (Z3 I q (by simp))
  |_=>exact absurd (show false=true from hs) QK
 |bl i=>
  cases rx;cases y with
  |non=>cases ry;exact PySem.EqNone.eq_bool_none (Z3 I q (by simp))
  |bl j=>cases ry;exact eq_bool (Z3 I q QsV)
  |str j=>obtain⟨t',rfl⟩:=ry;exact PySem.EqMixed.eq_bool_str (Z3 I q (by simp))
  |_=>exact absurd (show false=true from hs) QK
 |int i=>
  obtain⟨t,rfl⟩:=rx;cases y with
  |non=>cases ry;exact PySem.EqNone.eq_int_none (Z3 I q (by simp))
  |int j=>obtain⟨t',rfl⟩:=ry;exact eq_int (Z3 I q Qof)
  |str j=>obtain⟨t',rfl⟩:=ry;exact PySem.EqMixed.eq_int_str (Z3 I q (by simp))
  |_=>exact absurd (show false=true from hs) QK
 |str i=>
  obtain⟨t,rfl⟩:=rx;cases y with
  |non=>cases ry;exact PySem.EqNone.eq_str_none (Z3 I q (by simp))
  |bl j=>cases ry;exact PySem.EqMixed.eq_str_bool (Z3 I q (by simp))
  |int j=>obtain⟨t',rfl⟩:=ry;exact PySem.EqMixed.eq_str_int (Z3 I q (by simp))
  |str j=>obtain⟨t',rfl⟩:=ry;exact eq_str (Z3 I q Qoe)
  |_=>exact absurd (show false=true from hs) QK
 |byt i=>
  obtain⟨t,rfl⟩:=rx;cases y with
  |byt j=>obtain⟨t',rfl⟩:=ry;exact PySem.W.eq_bytes (Z3 I q Qog)
  |_=>exact absurd (show false=true from hs) QK
 |_=>cases y<;>exact absurd (show false=true from hs) QK
theorem QAA:OpR X (compareOp .NotEq) rNe:=by
 intro pins s σ H x y v u Q I rx ry h;obtain⟨hs,q⟩:=h;cases x with
 |non=>
  cases rx;cases y with
  |non=>cases ry;exact PySem.EqNone.ne_none_none (Z3 I q (by simp))
  |bl j=>cases ry;exact PySem.EqNone.ne_none_bool (Z3 I q (by simp))
  |int j=>obtain⟨t',rfl⟩:=ry;exact PySem.EqNone.ne_none_int (Z3 I q (by simp))
  |str j=>obtain⟨t',rfl⟩:=ry;exact PySem.EqNone.ne_none_str (Z3 I q (by simp))
  |_=>exact absurd (show false=true from hs) QK
 |bl i=>
  cases rx;cases y with
  |non=>cases ry;exact PySem.EqNone.ne_bool_none (Z3 I q (by simp))
  |bl j=>cases ry;exact ne_bool (Z3 I q (congrArg not QsV))
  |str j=>obtain⟨t',rfl⟩:=ry;exact PySem.EqMixed.ne_bool_str (Z3 I q (by simp))
  |_=>exact absurd (show false=true from hs) QK
 |int i=>
  obtain⟨t,rfl⟩:=rx;cases y with
  |non=>cases ry;exact PySem.EqNone.ne_int_none (Z3 I q (by simp))
  |int j=>obtain⟨t',rfl⟩:=ry;exact ne_int (Z3 I q (congrArg not Qof))
  |str j=>obtain⟨t',rfl⟩:=ry;exact PySem.EqMixed.ne_int_str (Z3 I q (by simp))
  |_=>exact absurd (show false=true from hs) QK
 |str i=>
  obtain⟨t,rfl⟩:=rx;cases y with
  |non=>cases ry;exact PySem.EqNone.ne_str_none (Z3 I q (by simp))
  |bl j=>cases ry;exact PySem.EqMixed.ne_str_bool (Z3 I q (by simp))
  |int j=>obtain⟨t',rfl⟩:=ry;exact PySem.EqMixed.ne_str_int (Z3 I q (by simp))
  |str j=>obtain⟨t',rfl⟩:=ry;exact ne_str (Z3 I q (congrArg not Qoe))
  |_=>exact absurd (show false=true from hs) QK
 |byt i=>
  obtain⟨t,rfl⟩:=rx;cases y with
  |byt j=>obtain⟨t',rfl⟩:=ry;exact PySem.W.ne_bytes (Z3 I q (congrArg not Qog))
  |_=>exact absurd (show false=true from hs) QK
 |_=>cases y<;>exact absurd (show false=true from hs) QK
theorem QAB:OpR X (compareOp .Lt) (rI0 λi j=>.bl (decide (i<j))):=Qzk λ_ _ _ _ _ _ _ q=>lt_int q
theorem QxJ:OpR X (compareOp .LtE) (rI0 λi j=>.bl (decide (i<=j))):=Qzk λ_ _ _ _ _ _ _ q=>le_int q
theorem QxN:OpR X (compareOp .Gt) (rI0 λi j=>.bl (decide (j<i))):=Qzk λ_ _ _ _ _ _ _ q=>gt_int q
theorem QAC:OpR X (compareOp .GtE) (rI0 λi j=>.bl (decide (j<=i))):=Qzk λ_ _ _ _ _ _ _ q=>ge_int q
theorem OpR.or{f:Value->Value->Sem Value}{r r':R2}(h:OpR X f r)(h':OpR X f r'):OpR X f (λx y H Q=>r x y H Q∨r' x y H Q):=by
 intro pins s σ H x y v u Q I rx ry q;rcases q with q | q
 ·exact h pins s σ H x y v u Q I rx ry q
 ·exact h' pins s σ H x y v u Q I rx ry q
theorem YH(b:QU){op:Qtj}(h:op≠.In:=by decide)(h2:op≠.NotIn:=by decide):behindInMarks op b=false:=by
 have e1:(op == CmpOp.In)=false:=by cases op<;>first | rfl | exact absurd rfl h
 have e2:(op == CmpOp.NotIn)=false:=by cases op<;>first | rfl | exact absurd rfl h2
 cases b<;>simp[behindInMarks,e1,e2]
theorem Qug{op:Qtj}{r:R2}(ho:OpR X (compareOp op) r)(ha:PE X a ta)(hb:PE X b tb)(hm:behindInMarks op b=false):PE X (.Compare a [op] [b] pos) (tOp r ta tb):=by
 intro pins s σ H Q I h;exact wpAny_Compare1 (QA6 ha hb I h λv u s2 x y H2 I2 rx ry q=>ho pins s2 σ H2 x y v u Q I2 rx ry q) hm
def Qz4(t:TE):TT:=λσ H Q=>t σ H λx H'=>∃k,x=.bl k/\Q k H'
theorem QmX{op:Qtj}{r:R2}(ho:OpR X (compareOp op) r)(ha:PE X a ta)(hb:PE X b tb)(hm:behindInMarks op b=false):PT X (.Compare a [op] [b] pos) (Qz4 (tOp r ta tb)):=by
 intro pins s σ H Q I h;refine wpAny_isTrue_Compare1 (thn (ha pins s σ H _ I h) λv s1 ⟨x,H1,I1,r1,q1⟩=>thn (hb pins s1 σ H1 _ I1 q1) λu s2 ⟨y,H2,I2,r2,q2⟩=>
  thn (ho pins s2 σ H2 x y v u _ I2 r1 r2 q2) λc s3 ⟨z,H3,I3,r3,k,e,q3⟩=>?_) hm
 subst e;cases r3;exact ZR ⟨H3,I3,q3⟩
def Qsk(r r':R2)(ta tb tc:TE):TE:=λσ H Q=>ta σ H λx H1=>tb σ H1 λy H2=>r x y H2 λz H3=>∃k,z=.bl k /\
 (if k=true then tc σ H3 λw' H4=>r' y w' H4 Q else Q (.bl false) H3)
theorem QpL{op op':Qtj}{r r':R2}(ho:OpR X (compareOp op) r)(ho':OpR X (compareOp op') r')(ha:PE X a ta)(hb:PE X b tb)(hc:PE X c tc)
  (hm:lastMarks [op,op'] [b,c]=false:=by with_unfolding_all rfl):PE X (.Compare a [op,op'] [b,c] pos) (Qsk r r' ta tb tc):=by
 intro pins s σ H Q I h;refine Compare_chain (thn (ha pins s σ H _ I h) λv s1 ⟨x,H1,I1,r1,q1⟩=>chain_link (thn (hb pins s1 σ H1 _ I1 q1) λu s2 ⟨y,H2,I2,r2,q2⟩=>
  thn (ho pins s2 σ H2 x y v u _ I2 r1 r2 q2) λd s3 ⟨z,H3,I3,r3,k,e,q3⟩=>?_)) hm
 subst e;cases r3;refine ZR ?_
 cases k with
 |false=>exact ite_ff ⟨.bl false,H3,I3,rfl,q3⟩
 |true=>exact ite_tt (chain_last (thn (hc pins s3 σ H3 _ I3 q3) λw' s4 ⟨z',H4,I4,r4,q4⟩=>ho' pins s4 σ H4 y z' u w' Q I4 r2 r4 q4))
def QA9(K:PySem.W.Frag)(x:V)(H:Hp)(k:Bool):Prop:=
 match x with
 |.non=>k=false
 |.bl b=>k=b
 |.int i=>k=(i != 0)
 |.str y=>y.length<=sizeLine/\k=((y.length:Int) != 0)
 |.byt y=>y.size<=sizeLine/\k=((y.size:Int) != 0)
 |.ref p=>(∃xs,SqL K H p xs/\k = !xs.isEmpty)∨(∃xs,SqT K H p xs/\k = !xs.isEmpty)∨∃kvs,H p=some (.dK kvs)/\k = !kvs.isEmpty
 |_=>False
theorem QlL{κ:Type}{kvs:List (κ×V)}{vs:List (κ×Value)}(r:KV kvs vs):(!vs.isEmpty) = !kvs.isEmpty:=by
 cases r<;>rfl
theorem Qgi{xs:List V}{its:List Value}(r:Vals xs its):(!its.toArray.isEmpty) = !xs.isEmpty:=by
 cases r<;>simp
theorem Qge:(sizeLine:Nat)<2^63:=by rw[QaJ];decide
theorem Qwt:QCq X (λx H Q=>∃k,QA9 X.K x H k/\Q k H):=by
 intro pins s σ H x v Q I rx h;obtain⟨k,e,q⟩:=h;have hl:=Qge;have hs:sizeLine=16777216:=QaJ;cases x with
 |non=>
  cases rx;have e':k=false:=e;subst e';exact truthy_none ⟨H,I,q⟩
 |bl b=>
  cases rx;have e':k=b:=e;subst e';exact ZR ⟨H,I,q⟩
 |int i=>
  obtain⟨t,rfl⟩:=rx;have e':k=(i != 0):=e;subst e';exact PySem.P.truthy_int ⟨H,I,q⟩
 |str y=>
  obtain⟨t,rfl⟩:=rx;obtain⟨hy,e'⟩:y.length<=sizeLine/\k=((y.length:Int) != 0):=e;subst e';exact PySem.P.truthy_str (by omega) ⟨H,I.tok _,q⟩
 |byt y=>
  obtain⟨t,rfl⟩:=rx;obtain⟨hy,e'⟩:y.size<=sizeLine/\k=((y.size:Int) != 0):=e;subst e';exact PySem.W.truthy_bytes (by omega) ⟨H,I.tok _,q⟩
 |ref p=>
  cases rx;have e':(∃xs,SqL X.K H p xs/\k = !xs.isEmpty)∨(∃xs,SqT X.K H p xs/\k = !xs.isEmpty)∨∃kvs,H p=some (.dK kvs)/\k = !kvs.isEmpty:=e
  rcases e' with⟨xs,hx,e'⟩ | ⟨xs,hx,e'⟩ | ⟨kvs,hx,e'⟩
  ·subst e';obtain⟨its,r,pl,hz⟩:=I.list hx;have hlen:=r.length;exact wpAny_truthy_list pl.isList (by simp only[Qr];omega) ⟨H,I.tok _,by rw[Qgi r];exact q⟩
  ·subst e';obtain⟨its,r,pl,hz⟩:=I.tuple hx;have hlen:=r.length;exact truthy_tuple pl (by simp only[Qr];omega) ⟨H,I.tok _,by rw[Qgi r];exact q⟩
  ·subst e';obtain⟨hz,hS,vs,r,m⟩:kvs.length<=sizeLine/\(p == sysModules)=false/\∃vs,KV kvs vs/\s.heap.DictOf (mixKind X.prog X.w) p vs:=I.hok p _ hx
   have hlen:kvs.length=vs.length:=QiR r;exact wpAny_truthy_dict hS m (by omega) ⟨H,I.tok _,by rw[QlL r];exact q⟩
 |_=>exact(show False from e).elim
theorem QpC(ha:PE X a ta)(he:∀whole,isTrue a X.env whole=(do let v <- whole;standAt a.pos;holding [v] (truthy v))) :
  PT X a (λσ H Q=>ta σ H λx H'=>∃k,QA9 X.K x H' k/\Q k H'):=by
 intro pins s σ H Q I h;exact isTrue_plain (thn (ha pins s σ H _ I h) λv s1 ⟨x,H1,I1,r1,q1⟩=>Qwt pins s1 σ H1 x v Q I1 r1 q1) (he _)
theorem vals1{x:V}{us:List Value}(r:Vals [x] us):∃u,us=[u]/\RelV x u:=by
 cases r with
 |cons r1 r2=>cases r2;exact⟨_,rfl,r1⟩
theorem vals2{x y:V}{us:List Value}(r:Vals [x,y] us):∃u w',us=[u,w']/\RelV x u/\RelV y w':=by
 cases r with
 |cons r1 r2=>
  cases r2 with
  |cons r3 r4=>cases r4;exact⟨_,_,rfl,r1,r3⟩
theorem Qow(hc:X.calm=true):CallR X (.builtin "min") (λxs H Q=>∃i j,xs=[.int i,.int j]/\Q (.int (if j<i then j else i)) H):=by
 intro pins s σ H xs us Q I r h;obtain⟨i,j,rfl,q⟩:=h;obtain⟨u,w',rfl,⟨t,rfl⟩,⟨t',rfl⟩⟩:=vals2 r;refine min_two_ints (I.ok.hd hc) λh' tk k=>⟨_,H,I.kept k,?_,q⟩
 by_cases hj:j<i
 ·rw[if_pos hj,if_pos hj];exact⟨_,rfl⟩
 ·rw[if_neg hj,if_neg hj];exact⟨_,rfl⟩
end
structure ObjM (h:Heap) (x dx C:Addr) (mA:Str->Option Value):Prop where
 obj:h.get? x=some (PySem.W.instObj C dx)
 ns:h.Ns1 dx mA
 ne:dx≠x
theorem QnD{h:Heap}{dx:Addr}{mA:Str->Option Value}(n:h.Ns1 dx mA):∃od,h.get? dx=some od/\∀name,PySem.W.lookIn name od=some (mA name):=by
 obtain⟨o,es,ep,ho,hd,hk,_,hm⟩:=n;refine⟨o,ho,λname=>?_⟩;have e:=hm name;unfold nsFind findBy at e;rw[<- Array.find?_toList] at e;unfold PySem.W.lookIn;rw[hd]
 dsimp only
 split
 ·rename_i y q
  rw[q] at e;exact congrArg some e
 ·rename_i q
  rw[q] at e;have a:es.toList.any (·.refKey)=false:=by
   rw[List.any_eq_false];intro y hy;obtain⟨z,t,hkey⟩:=hk y (ZU.mp hy);simp[DictEntry.refKey,hkey]
  have a':¬es.toList.any (·.refKey)=true:=by rw[a];exact QK
  rw[if_neg a'];exact congrArg some e
theorem ObjM.look{h:Heap}{x dx C:Addr}{mA:Str->Option Value}(I:ObjM h x dx C mA):∃od,PySem.W.InstAt h x (PySem.W.instObj C dx) C (some od)/\∀name,PySem.W.lookIn name od=some (mA name):=
 let ⟨od,ho,hl⟩:=QnD I.ns
 ⟨od,⟨I.obj,rfl,rfl,ho⟩,hl⟩
section
variable{prog:QC}{w:Q9}{A:Q5}{E:Value->Shared->Prop}{s:Shared}{K:PySem.W.Frag}{x dx C f:Addr}{mA:Str->Option Value}{name:Str}{v:Value}
end
theorem RelO.some_of{v:V}{o:Option Value}(r:RelO (some v) o):∃u,o=some u/\RelV v u:=by
 cases o with
 |none=>exact(show False from r).elim
 |some u=>exact⟨u,rfl,r⟩
section
variable{P:QC}{w:Q9}{H H':Hp}{h h':Heap}{a C dx:Addr}{fs fs':List (Str×V)}
theorem ins_get(hok:HOk P w H h)(e:H a=some (.ins C dx fs)):∃mA,ObjM h a dx C mA/\(∀f,RelO (fs.lookup f) (mA f))/\PySem.Within mA (fs.map (·.1))/\fs.length<=1000/\H dx=some (.own a):=by
 obtain⟨d,z,ne,ob,mA,n,r,q⟩:=(show ObjOk P w H h a (.ins C dx fs) from hok a _ e);exact⟨mA,⟨ob,n,ne⟩,r,q,z,d⟩
end
structure Cls (K:PySem.W.Frag) (C:Addr):Prop where
 pg:PySem.W.plainGet K C Str.empty=true
 hd:PySem.W.hasDictIn K C=true
 po:PySem.W.plainOver K C=true
 sa:PySem.W.findIn K (.ref C) "__setattr__" = some (some (.builtin "object.__setattr__"))
theorem Cls.get{K:PySem.W.Frag}{C:Addr}(c:Cls K C)(f:Str):PySem.W.plainGet K C f=true:=c.pg
section
variable{X:Cx}{pins:List (Addr×Obj)}{σ:St}{H:Hp}{s:Shared}{a C dx:Addr}{fs:List (Str×V)}{f:Str}{v:V}{A:Q5}{E:Value->Shared->Prop}
end
section
variable{X:Cx}{o e value:QU}{f:Str}{pos pos' tpos:Pos}{ta tv:TE}
def rAdd:V->V->Hp->VK->Prop:=λx y H Q=>∃i j,x=.int i/\y=.int j/\Q (.int (i+j)) H
end
section
variable{X:Cx}{pins:List (Addr×Obj)}{σ:St}{H:Hp}{s:Shared}{A:Q5}{E:Value->Shared->Prop}{Q:Value->Shared->Prop}{c:Value}{b:Bool}
inductive TyOf (K:PySem.W.Frag) (H:Hp):V->Value->Prop where
 |non:TyOf K H .non (.type "NoneType")
 |bl (x:Bool):TyOf K H (.bl x) (.type "bool")
 |int (i:Int):TyOf K H (.int i) (.type "int")
 |str (x:Str):TyOf K H (.str x) (.type "str")
 |flt (x:UInt64):TyOf K H (.flt x) (.type "float")
 |lst {a:Addr} {xs:List V} (e:H a=some (.lst xs)):TyOf K H (.ref a) (.type "list")
 |frz {a:Addr} {o:Obj} {xs:List V} (e:H a=some (.frz o (.lst xs))):TyOf K H (.ref a) (.type "list")
 |tup {a:Addr} {xs:List V} (e:H a=some (.tup xs)):TyOf K H (.ref a) (.type "tuple")
 |dK {a:Addr} {kvs:List (Key×V)} (e:H a=some (.dK kvs)):TyOf K H (.ref a) (.type "dict")
 |dT {a:Addr} {kvs:List (List Key×V)} (e:H a=some (.dT kvs)):TyOf K H (.ref a) (.type "dict")
 |ins {a C dx:Addr} {fs:List (Str×V)} (e:H a=some (.ins C dx fs)) (cl:Cls K C) (ha:PySem.W.findIn K (.ref C) "__class__" = some (some (.builtin "object.__class__")))
   (hn:PySem.W.specialIn K (.builtin "object.__class__") "__get__" = some (some (.builtin "getset_descriptor.__get__"))) (htk:PySem.W.takesIn K (.builtin "object.__class__")=some true)
   (hm:PySem.W.mroIn K C (.type "object")=some true):TyOf K H (.ref a) (.ref C)
theorem QnQ{x:V}{u t:Value}(I:Inv X pins σ H s)(rx:RelV x u)(ty:TyOf X.K H x t)(e:PySem.W.kitOne X.K t c=some b)(h:∀tk,Q (.bool b) { s with toks:=tk }) :
  wpAny (model X.prog X.w) A (call (.builtin "isinstance") [u,c]) Q E s:=by
 cases ty with
 |non=>cases(show u=Ze from rx);exact PySem.W.kia_one PySem.W.kitx_none I.kIn Qbo e (λz=>nomatch z) h
 |bl y=>cases(show u=Qb2 y from rx);exact PySem.W.kia_one PySem.W.kitx_bool I.kIn Qbo e (λz=>nomatch z) h
 |int i=>obtain⟨t,q⟩:=(show ∃t,u=Qb1 i t from rx);cases q;exact PySem.W.kia_one PySem.W.kitx_int I.kIn Qbo e (λz=>nomatch z) h
 |str y=>obtain⟨t,q⟩:=(show ∃t,u=Qld y t from rx);cases q;exact PySem.W.kia_one PySem.W.kitx_str I.kIn Qbo e (λz=>nomatch z) h
 |flt y=>obtain⟨t,q⟩:=(show ∃t,u=QzC y t from rx);cases q;exact PySem.W.kia_one PySem.W.kitx_float I.kIn Qbo e (λz=>nomatch z) h
 |@lst a xs ea=>
  cases(show u=QJ a from rx);obtain⟨_,_,n,_,h1⟩:=(show ObjOk X.prog X.w H s.heap a (.lst xs) from I.hok a _ ea);exact PySem.W.kia_one PySem.W.kitx_list I.kIn ⟨_,h1,rfl⟩ e (λz=>nomatch z) h
 |@frz a ob xs ea=>
  cases(show u=QJ a from rx);obtain⟨_,_,_,n,_,h1⟩:=(show ObjOk X.prog X.w H s.heap a (.frz ob (.lst xs)) from I.hok a _ ea);exact PySem.W.kia_one PySem.W.kitx_list I.kIn ⟨_,h1,rfl⟩ e (λz=>nomatch z) h
 |@tup a xs ea=>
  cases(show u=QJ a from rx);obtain⟨_,_,_,p⟩:=(show ObjOk X.prog X.w H s.heap a (.tup xs) from I.hok a _ ea);obtain⟨o,h1,h2,_⟩:=p;exact PySem.W.kia_one PySem.W.kitx_tuple I.kIn ⟨o,h1,h2⟩ e (λz=>nomatch z) h
 |@dK a kvs ea=>
  cases(show u=QJ a from rx);obtain⟨_,_,vs,_,p⟩:=(show ObjOk X.prog X.w H s.heap a (.dK kvs) from I.hok a _ ea);obtain⟨o,es,ep,h1,h2,_⟩:=p;exact PySem.W.kia_one PySem.W.kitx_dict I.kIn ⟨o,h1,h2.1⟩ e (λz=>nomatch z) h
 |@dT a kvs ea=>
  cases(show u=QJ a from rx);obtain⟨_,_,xs,_,o,es,ep,h1,h2,_⟩:=(show ObjOk X.prog X.w H s.heap a (.dT kvs) from I.hok a _ ea);exact PySem.W.kia_one PySem.W.kitx_dict I.kIn ⟨o,h1,h2.1⟩ e (λz=>nomatch z) h
 |@ins a C dx fs ea cl ha hn htk hm=>
  cases(show u=QJ a from rx);obtain⟨mA,O,_⟩:=ins_get I.hok ea;obtain⟨od,J,_⟩:=O.look;exact PySem.W.kia_one (PySem.W.kitx_own (cl.get _) cl.hd ha hn htk hm) I.kIn J e (λz=>nomatch z) h
end
structure Room (k:Nat) (A:Q5):Prop where
 hd:A.handled=none
 dp:A.depth+3*k+5<recursionLimit
 un:A.units+16*k+200<cLine
theorem Room.mono{j k:Nat}{A:Q5}(r:Room k A)(h:j<=k):Room j A:=⟨r.hd,by have:=r.dp;omega,by have:=r.un;omega⟩
theorem Room.deeper{k:Nat}{A:Q5}(r:Room (k+1) A)(env:Env):Room k (A.deeper env):=
 ⟨r.hd,by have:=r.dp;show A.depth+1+3*k+5<_;omega,by have:=r.un;show A.units+3+16*k+200<_;omega⟩
theorem Room.depth{k:Nat}{A:Q5}(r:Room k A):A.depth<recursionLimit:=by have:=r.dp;omega
def Qz7:TA:=λ_ H Q=>Q [] H
def Qlo(ta:TE)(tr:TA):TA:=λσ H Q=>ta σ H λx H1=>tr σ H1 λxs H2=>Q (x::xs) H2
section
variable{X:Cx}{e:QU}{es:List QU}{te:TE}{t:TA}{pos:Pos}
theorem Qaj:PA X [] Qz7:=λ_ _ _ _ H Q I h=>Calls.spliced_nil ⟨[],H,I,.nil,h⟩
theorem Qnh(ha:PE X e te)(hr:PA X es t)(hs:starEach (e::es) X.env=(false,eval e X.env)::starEach es X.env:=by rfl):PA X (e::es) (Qlo te t):=by
 intro pos pins s σ H Q I h;rw[hs];show wpAny _ _ (spliced ((false,eval e X.env)::backTo pos (starEach es X.env))) _ _ s;refine Calls.spliced_cons (thn (ha pins s σ H _ I h) λu s1 ⟨x,H1,I1,r1,q1⟩=>?_);exact thn (hr pos pins s1 σ H1 _ I1 q1) λus s2 ⟨xs,H2,I2,r2,q2⟩=>⟨x::xs,H2,I2,.cons r1 r2,q2⟩
end
abbrev Sp:=List V->Hp->VK->XK->Prop
abbrev CXT:=List Env->Hp->Shared->XK->Value->Shared->Prop
structure Env0 (P:QC) (w:Q9) (K:PySem.W.Frag) (mg:Str->Option Value) (base:Heap) (A:Q5) (outer:List Env) (s:Shared) (H:Hp):Prop where
 frames:A.frames=some outer
 mod:Mod K mg base
 bs:∀b o,base.get? b=some o->s.heap.get? b=some o/\H b=none
 bsz:base.objs.size<=s.heap.objs.size
 funs:s.heap.FunFrames base outer
 frf:∀b∈frs outer,H b=none
 hok:HOk P w H s.heap
 bare:QfD s.gens
def CE(outer:List Env)(P:QC)(w:Q9)(H:Hp)(s:Shared)(Q:VK)(u:Value)(s':Shared):Prop:=
 ∃v H',s'.os=s.os/\QfD s'.gens/\Un (frs outer) [] H H' s.heap s'.heap/\HOk P w H' s'.heap/\RelV v u/\Q v H'
def CR(CX:CXT)(outer:List Env)(P:QC)(w:Q9)(H:Hp)(s:Shared)(Q:VK)(E:XK)(r:Qtb)(s':Shared):Prop:=
 match r with
 |.ok (.ret u)=>CE outer P w H s Q u s'
 |.ok _=>False
 |.error e=>CX outer H s E e s'
structure FnOk (P:QC) (w:Q9) (K:PySem.W.Frag) (mg:Str->Option Value) (base:Heap) (CX:CXT) (k:Nat) (f:Addr) (fd:Q2) (ps:List Str) (sp:Sp):Prop where
 len:∀vs H Q E,sp vs H Q E->vs.length=ps.length
 run:∀(A:Q5)(outer:List Env)(s:Shared)(H:Hp)(args:Args)(us:List Value)(vs:List V)(Q:VK)(E:XK),Room k A->Env0 P w K mg base A outer s H->Qo4 s fd args (ps.zip us)->Vals vs us->sp vs H Q E ->
  codeAny (model P w) A (.call (.ref f) args) (CR CX outer P w H s Q E) s
theorem FnOk.imp{P:QC}{w:Q9}{K:PySem.W.Frag}{mg:Str->Option Value}{base:Heap}{CX:CXT}{k:Nat}{f:Addr}{fd:Q2}{ps:List Str}{sp sp':Sp}(F:FnOk P w K mg base CX k f fd ps sp)
  (h:∀vs H Q E,sp' vs H Q E->sp vs H Q E):FnOk P w K mg base CX k f fd ps sp':=
 ⟨λvs H Q E q=>F.len vs H Q E (h _ _ _ _ q),λA outer s H args us vs Q E hr he hb hv hs=>F.run A outer s H args us vs Q E hr he hb hv (h _ _ _ _ hs)⟩
section
variable{X:Cx}{pins:List (Addr×Obj)}{σ:St}{H:Hp}{s s':Shared}
theorem Inv.env0(I:Inv X pins σ H s):Env0 X.prog X.w X.K X.mg X.base X.A X.stack s H:=
 ⟨I.ok.frames,I.ok.mod,I.bs,Q1 I.ok.bsz I.sz,I.stack,I.stkFree,I.hok,I.bare⟩
theorem Inv.after{Q:VK}{u:Value}(I:Inv X pins σ H s)(h:CE X.stack X.prog X.w H s Q u s'):EP X pins σ Q u s':=by
 obtain⟨v,H',os,bare,un,hok,r,q⟩:=h;obtain⟨hh,g,d,t,os'⟩:=s';obtain rfl:os'=s.os:=os;exact⟨v,H',I.call (h':=hh) (g':=g) (d':=d) (t':=t) (ch:=[]) un hok bare (λb z=>absurd z (by simp)),r,q⟩
end
def Qwx(sp:Sp)(dvs:List V)(E:XK)(t:TA):TE:=λσ H Q=>t σ H λvs H1=>sp (vs++dvs) H1 Q E
def Binds(K:PySem.W.Frag)(fd:Q2)(ps:List Str)(ds:List Value):Prop:=
 ∀(s:Shared)(us:List Value),K.In s.heap->(us++ds).length=ps.length->Qo4 s fd ⟨us,[]⟩ (ps.zip (us++ds))
theorem Binds.all{K:PySem.W.Frag}{fd:Q2}{ps:List Str}(h:∀us:List Value,us.length=ps.length->bindArgs fd ⟨us,[]⟩=pure (ps.zip us)):Binds K fd ps []:=λs us _ hl=>by
 rw[JX] at hl ⊢;exact .of_eq (h us hl)
def Qfs(CX:CXT)(X:Cx)(E:XK):Prop:=∀(pins:List (Addr×Obj))(σ:St)(H:Hp)(s:Shared)(e:Value)(s':Shared),Inv X pins σ H s->CX X.stack H s E e s'->X.xe e s'
section
variable{X:Cx}{CX:CXT}{k:Nat}{f C:Addr}{fd:Q2}{ps:List Str}{sp:Sp}{dvs:List V}{ds:List Value}{E:XK}{x m:Str}{p pos apos:Pos}{e o:QU}{es:List QU}{ta:TE}{t:TA}
theorem QwN{pins:List (Addr×Obj)}{σ:St}{H:Hp}{s:Shared}{Q:VK}{us:List Value}{vs:List V}(F:FnOk X.prog X.w X.K X.mg X.base CX k f fd ps sp)(hr:Room k X.A)(hb:Binds X.K fd ps ds)(hd:Vals dvs ds)(hx:Qfs CX X E)
  (I:Inv X pins σ H s)(r:Vals vs us)(h:sp (vs++dvs) H Q E):wpAny (model X.prog X.w) X.A (call (.ref f) us) (EP X pins σ Q) X.xe s:=by
 have r2:Vals (vs++dvs) (us++ds):=r.append hd;have hl:(us++ds).length=ps.length:=by rw[<- r2.length];exact F.len _ _ _ _ h
 refine wpAny_call (Qcq (F.run X.A X.stack s H ⟨us,[]⟩ (us++ds) (vs++dvs) Q E hr I.env0 (hb s us I.kIn hl) r2 h) λr s' hq=>?_);cases r with
 |error e=>exact hx pins σ H s e s' I hq
 |ok fl=>
  cases fl with
  |ret u=>exact I.after hq
  |next=>exact YB hq
  |brk=>exact YB hq
  |cont=>exact YB hq
theorem Qjo(F:FnOk X.prog X.w X.K X.mg X.base CX k f fd ps sp)(hr:Room k X.A)(hg:Gl X x)(hm:X.mg x=some (.ref f))(hk:PySem.W.keepIn X.K (.ref f)=true)(hb:Binds X.K fd ps ds)(hd:Vals dvs ds)(hx:Qfs CX X E)
  (ha:PA X (e::es) t)(hdb:(x == ("__debug__" : Str))=false:=by decide)(he:starEach (e::es) X.env=(false,eval e X.env)::starEach es X.env:=by rfl)(hpl:(backTo pos (starEach es X.env)).any (·.1)=false:=by rfl) :
  PE X (.Call (.Name x p) (e::es) [] pos) (Qwx sp dvs E t):=by
 intro pins s σ H Q I h;refine Qcp (QnH I hg hm ?_ hdb);refine PySem.W.callWith_K (h₀:=X.base) I.ok.mod.kin hk (thn (ha pos pins s σ H _ I h) λus s1 ⟨vs,H1,I1,r,q⟩=>⟨I1.kIn,?_⟩) he hpl;exact QwN F hr hb hd hx I1 r q
end
section
variable{X:Cx}{CX:CXT}{k:Nat}{f C:Addr}{fd:Q2}{ps ks:List Str}{sp:Sp}{E:XK}{x m:Str}{p pos apos kpos:Pos}{e o:QU}{es:List QU}{kws:List Qlh}{te ta:TE}{t tk:TA}{nm:Option Str}
variable{g:List Value->List Value->List Value}{gV:List V->List V->List V}
end
structure JV (N P:List Str) (sc:YC):Prop where
 kind:sc.kind=.function
 co:sc.isCoroutine=false
 gen:sc.isGenerator=false
 nd:N.Nodup
 pre:N.take P.length=P
 par:∀x∈P,sc.names.lookup x=some .local∨sc.names.lookup x=some .cell
 nofree:∀y∈sc.names,y.2≠.free
theorem QiG{kindOf:Str->Option Qbf}{x:Str}:∀{binds:List (Str×Value)}{m:Str->Option Value},(∀v,(x,v)∉binds)->bindL kindOf binds m x=m x
 |[],_,_=>rfl
 |(n,v)::r,m,h=>by
  unfold bindL;rw[QiG λw hw=>h w (QH _ hw)];split
  ·have:x≠n:=by rintro rfl;exact h v Jm
   simp[this]
  ·rfl
theorem QiI{kindOf:Str->Option Qbf}{x:Str}:∀{binds:List (Str×Value)}{m:Str->Option Value},(∀v,(x,v)∉binds)->bindC kindOf binds m x=m x
 |[],_,_=>rfl
 |(n,v)::r,m,h=>by
  unfold bindC;rw[QiI λw hw=>h w (QH _ hw)];split
  ·rfl
  ·have:x≠n:=by rintro rfl;exact h v Jm
   simp[this]
theorem QiH{kindOf:Str->Option Qbf}{x:Str}{v:Value}:∀{P:List Str}{vs:List Value}{i:Nat}{m:Str->Option Value},P.Nodup->P[i]? = some x->vs[i]? = some v->kindOf x=some .local ->
  bindL kindOf (P.zip vs) m x=some v
 |[],_,_,_,_,h,_,_=>by simp at h
 |_::_,[],_,_,_,_,h,_=>by simp at h
 |p::P,w::vs,0,m,nd,h1,h2,hk=>by
  simp at h1 h2;subst h1;subst h2;show bindL kindOf ((p,w)::P.zip vs) m p=_;unfold bindL;rw[QiG λv hv=>(Y1.mp nd).1 (QhA hv).1,if_pos hk];simp
 |p::P,w::vs,i+1,m,nd,h1,h2,hk=>by
  show bindL kindOf ((p,w)::P.zip vs) m x=_;unfold bindL;exact QiH (i:=i) (Y1.mp nd).2 (by simpa using h1) (by simpa using h2) hk
theorem QiJ{kindOf:Str->Option Qbf}{x:Str}{v:Value}:∀{P:List Str}{vs:List Value}{i:Nat}{m:Str->Option Value},P.Nodup->P[i]? = some x->vs[i]? = some v->kindOf x≠some .local ->
  bindC kindOf (P.zip vs) m x=some v
 |[],_,_,_,_,h,_,_=>by simp at h
 |_::_,[],_,_,_,_,h,_=>by simp at h
 |p::P,w::vs,0,m,nd,h1,h2,hk=>by
  simp at h1 h2;subst h1;subst h2;show bindC kindOf ((p,w)::P.zip vs) m p=_;unfold bindC;rw[QiI λv hv=>(Y1.mp nd).1 (QhA hv).1,if_neg hk];simp
 |p::P,w::vs,i+1,m,nd,h1,h2,hk=>by
  show bindC kindOf ((p,w)::P.zip vs) m x=_;unfold bindC;exact QiJ (i:=i) (Y1.mp nd).2 (by simpa using h1) (by simpa using h2) hk
def start(N:List Str)(vs:List V):St:=vs.map some++Jj (N.length - vs.length) none
def QoV(CX:CXT)(P:QC)(w:Q9)(K:PySem.W.Frag)(mg:Str->Option Value)(base:Heap)(N:List Str)(qual:Str)(scope:YC)(f:Addr)(cd:Value)(A:Q5)(outer:List Env)(s:Shared)(H:Hp)(E:XK):Cx where
 prog:=P
 w:=w
 K:=K
 mg:=mg
 base:=base
 A:=A.deeper (envOfC qual scope s.heap.objs.size f cd)
 N:=N
 s₀:=s
 H₀:=H
 env:=envOfC qual scope s.heap.objs.size f cd
 outer:=outer
 stack:=envOfC qual scope s.heap.objs.size f cd::outer
 ex:=[]
 calm:=true
 fn:=λ_=>true
 pn:=[]
 xe:=λe s'=>wpAny (model P w) (A.deeper (envOfC qual scope s.heap.objs.size f cd)) (leaving (envOfC qual scope s.heap.objs.size f cd) e) (λ_ s''=>CX outer H s E e s'') (λe' s''=>CX outer H s E e' s'') s'
theorem Qk5{sc:YC}{n:Nat}{x:Str}(h:sc.names.lookup x=some .cell):∃c,(cellsFrom n sc.names []).lookup x=some c:=by
 have q:=PySem.W.cellsFrom_some sc.names n [] (.inl h);exact QhL.mp q
theorem QnR{CX:CXT}{P:QC}{w:Q9}{K:PySem.W.Frag}{mg:Str->Option Value}{base:Heap}{N ps:List Str}{qual:Str}{scope:YC}{f:Addr}{cd:Value}{A:Q5}{outer:List Env}{s s1:Shared}{H:Hp}{E:XK}{us:List Value}{vs:List V}
  (S:JV N ps scope)(hd:A.handled=none)(e0:Env0 P w K mg base A outer s H)(hl:vs.length=ps.length)(r:Vals vs us)
  (x:InCallC s s.heap.objs.size (bindL (envOfC qual scope s.heap.objs.size f cd).kindOf (ps.zip us) λ_=>none) (cellsFrom (s.heap.objs.size+1) scope.names []) (bindC (envOfC qual scope s.heap.objs.size f cd).kindOf (ps.zip us) λ_=>none) s1) :
  Inv (QoV CX P w K mg base N qual scope f cd A outer s H E) [] (start N vs) H s1:=by
 have hpl:ps.length<=N.length:=by have:=congrArg QhC S.pre;rw[JG] at this;omega
 obtain⟨h1,tk,rfl,hk⟩:=x.done;have noA:∀b:Addr,b∉(QoV CX P w K mg base N qual scope f cd A outer s H E).ex:=λb z=>absurd (show b∈([]:List Addr) from z) (by simp)
 refine⟨⟨e0.mod,S.kind,rfl,rfl,Qh _,λy z c h1 h2=>?_,λy hy=>?_,λy c _ h=>?_,λ_=>hd,Around.frames_deeper e0.frames,.inr ⟨rfl,rfl⟩,λb z=>absurd z (noA b),e0.bs,e0.bsz,λb _ _=>noA b,λb z=>absurd z (noA b),e0.funs,e0.frf⟩,
  rfl,e0.bare,Un.kept hk,⟨_,x.toInCall.ns,λi y v h1 h2 h3=>?_⟩,λy c h=>⟨_,x.cell y c h⟩,e0.hok.fresh (Qh _),λy c h=>?_,λp hp=>absurd (show p∈([]:List (Addr×Obj)) from hp) (by simp),e0.hok.kept hk,?_⟩
 ·exact name_of_addr x.apart (PySem.mem_of_lookup h1) (PySem.mem_of_lookup h2)
 ·have hy:scope.names.lookup y=some .cell∨scope.names.lookup y=some .free:=hy;rcases hy with hy | hy
  ·exact Qk5 hy
  ·exact absurd rfl (S.nofree _ (PySem.mem_of_lookup hy))
 ·exact ZZ (x.above y c (PySem.mem_of_lookup h))
 ·have hi:i<vs.length:=by
   unfold start at h2;by_cases hi:i<vs.length
   ·exact hi
   ·rw[Jk (by simpa using hi)] at h2;rw[Yv] at h2;split at h2<;>cases h2
  have ha:vs[i]? = some v:=by
   unfold start at h2;rw[ZH (by simpa using hi),QB] at h2;cases e:vs[i]? with
   |none=>rw[e] at h2;cases h2
   |some a=>rw[e] at h2;cases h2;rfl
  obtain⟨u,hu,rv⟩:=r.get ha;have hp:ps[i]? = some y:=by
   rw[<- S.pre,Qi2 (by omega)];exact h1
  have ndP:ps.Nodup:=by rw[<- S.pre];exact S.nd.sublist (Qfu _ _)
  refine⟨u,rv,?_⟩;rcases S.par y (Q7 hp) with k | k
  ·exact .inl ⟨k,QiH ndP hp hu k⟩
  ·obtain⟨c,e⟩:=Qk5 (n:=s.heap.objs.size+1) k;refine .inr ⟨.inl k,c,e,?_⟩;have q:=x.cell y c e;rw[QiJ ndP hp hu (by show scope.names.lookup y≠_;rw[k];decide)] at q;exact q
 ·exact e0.hok.fresh (ZZ (x.above y c (PySem.mem_of_lookup h)))
 ·unfold start;show _=N.length;rw[Qv,Qf,QaY];omega
theorem QAW{CX:CXT}{P:QC}{w:Q9}{K:PySem.W.Frag}{mg:Str->Option Value}{base:Heap}{k:Nat}{f:Addr}{name qual:Str}{params:Arguments}{body:List Qad}{scope:YC}{dV kV doc pm cdv ct oc:Value}{an od:Option Addr}
  {osl:Array (Option Value)} {N ps:List Str} {sp:Sp} (lk:K.lookup f=some ⟨oc,od,.func (PySem.W.fnOf name qual params body scope dV kV doc pm an cdv ct),osl⟩) (hcd:PySem.W.codeIn K cdv qual=true) (S:JV N ps scope)
  (len:∀vs H Q E,sp vs H Q E->vs.length=ps.length)
  (hbody:∀(A:Q5)(outer:List Env)(s:Shared)(H:Hp)(vs:List V)(Q:VK)(E:XK),Room k (A.deeper (envOfC qual scope s.heap.objs.size f cdv))->sp vs H Q E ->
   ∃t,PSs (QoV CX P w K mg base N qual scope f cdv A outer s H E) body t/\t { nx:=λ_ H'=>Q .non H',rt:=Q } (start N vs) H) :
  FnOk P w K mg base CX (k+1) f (PySem.W.fnOf name qual params body scope dV kV doc pm an cdv ct) ps sp:=by
 refine⟨len,λA outer s H args us vs Q E hr e0 hb r hsp=>?_⟩;have hl:=len _ _ _ _ hsp;have KX:K.In s.heap:=e0.mod.kin.keeps λb o e=>(e0.bs b o e).1
 have lim:s.heap.NoLimit:=e0.mod.nolimit.keeps λb o e=>(e0.bs b o e).1
 have hkind:∀y∈ps.zip us,scope.names.lookup y.1=some .local∨(scope.names.lookup y.1=some .cell/\((cellsFrom (s.heap.objs.size+1) scope.names []).lookup y.1).isSome=true):=λ⟨n,v⟩ hy=>by
  rcases S.par n (QhA hy).1 with q | q
  ·exact .inl q
  ·exact .inr ⟨q,PySem.W.cellsFrom_some _ _ _ (.inl q)⟩
 refine codeAny_call_function hr.depth (KX _ _ lk) rfl S.co S.gen rfl (PySem.W.codeRec_of KX hcd) (hb _ _ _ _ ?_);refine wpAny_newFunctionEnv_cells S.kind hkind λenv he s1 x=>?_
 subst he;refine⟨lim.keeps x.toInCall.keep,codeAny_func ?_⟩;obtain⟨t,ht,hq⟩:=hbody A outer s H vs Q E (hr.deeper _) hsp;have I:Inv (QoV CX P w K mg base N qual scope f cdv A outer s H E) [] (start N vs) H s1:=QnR S hr.hd e0 hl r x;refine wpAny_mono (ht [] s1 (start N vs) H _ I hq) (λfl s' hs=>?_) λe s' hs=>hs
 have fin:∀{σ':St}{H':Hp}{v:V}{u:Value},Inv (QoV CX P w K mg base N qual scope f cdv A outer s H E) [] σ' H' s'->RelV v u->Q v H'->CE outer P w H s Q u s':=
  λ{σ' H' v u} J rv q=>⟨v,H',J.os,J.bare,J.base,J.hok,rv,q⟩
 cases fl with
 |ret u=>
  obtain⟨v,σ',H',J,rv,q⟩:=hs;exact fin J rv q
 |next=>
  obtain⟨σ',H',J,q⟩:=hs;exact fin (v:=V.non) (u:=Ze) J rfl q
 |brk=>
  obtain⟨_,_,_,q⟩:=hs;exact YB q
 |cont=>
  obtain⟨_,_,_,q⟩:=hs;exact YB q
section
variable{X:Cx}{x:Str}{p pos:Pos}{e:QU}{es:List QU}{t:TA}{id T:String}{r:List V->Hp->VK->Prop}
def tCB(r:List V->Hp->VK->Prop)(t:TA):TE:=λσ H Q=>t σ H λvs H1=>r vs H1 Q
theorem Qdn(hc:CallR X (.builtin id) r)(hg:Gl X x)(hm:X.mg x=none)(hv:bootBuiltins x=some (.builtin id))(ha:PA X (e::es) t)(hn:x ≠ "__name__" := by decide)(hdb:(x == ("__debug__" : Str))=false:=by decide)
  (he:starEach (e::es) X.env=(false,eval e X.env)::starEach es X.env:=by rfl)(hpl:(backTo pos (starEach es X.env)).any (·.1)=false:=by rfl):PE X (.Call (.Name x p) (e::es) [] pos) (tCB r t):=by
 intro pins s σ H Q I h;refine Qcp (QcV I hg hm hv ?_ hn hdb);exact PyProof.Rows.callWith_builtin1 (thn (ha pos pins s σ H _ I h) λus s1 ⟨vs,H1,I1,r1,q1⟩=>hc pins s1 σ H1 vs us Q I1 r1 q1) he hpl
theorem Qdm(hc:CallR X (.type T) r)(hg:Gl X x)(hm:X.mg x=none)(hv:bootBuiltins x=some (.type T))(ha:PA X (e::es) t)(hn:x ≠ "__name__" := by decide)(hdb:(x == ("__debug__" : Str))=false:=by decide)
  (he:starEach (e::es) X.env=(false,eval e X.env)::starEach es X.env:=by rfl)(hpl:(backTo pos (starEach es X.env)).any (·.1)=false:=by rfl):PE X (.Call (.Name x p) (e::es) [] pos) (tCB r t):=by
 intro pins s σ H Q I h;refine Qcp (QcV I hg hm hv ?_ hn hdb);exact JK (thn (ha pos pins s σ H _ I h) λus s1 ⟨vs,H1,I1,r1,q1⟩=>hc pins s1 σ H1 vs us Q I1 r1 q1) he hpl
end
end L2
namespace HT
theorem Qpw(A:Q5)(s:Shared)(a:Int)(t:Tok)(c:Int)(u:Tok)(prog:QC)(w:Q9)(E:Value->Shared->Prop)(Q:Value->Shared->Prop)(h:Q (.bool (decide (a<c))) s) :
  wpAny (model prog w) A (richCompare .Lt (.int a t) (.int c u)) Q E s:=
 (PyProof.Rows.lt_int h:wpAny (model prog w) A (compareOp .Lt (.int a t) (.int c u)) Q E s)
section
open PySem.SeqAt
open PySem.AutoSeq1 (wpAny_loadPart')
open PySem.MeetsSeq PySem.MeetsSeq2 PySem.MeetsSeq3
end
section
variable{prog:QC}{w:Q9}{A:Q5}{E:Value->Shared->Prop}{s:Shared}
theorem QvN{t b:Addr}{vs ws:List Value}{Q:Value->Shared->Prop}(ht:IsTup s.heap t vs.toArray)(hb:IsTup s.heap b ws.toArray)(hv:vs≠[])
  (h1:ws=[]->Q (.ref t) s)(h2:ws≠[]->Q (.ref s.heap.objs.size) { s with heap:=s.heap.push { cls:=.type "tuple",data:=.seq (vs++ws).toArray } })
  (hsz:vs.length+ws.length<=sizeLine):wpAny (model prog w) A (binaryOp .Add (.ref t) (.ref b)) Q E s:=by
 obtain⟨⟨cls,dd,data,sl⟩,ho,hc,n,hd⟩:=id ht;obtain⟨⟨cls2,dd2,data2,sl2⟩,ho2,hc2,n2,hd2⟩:=id hb;simp only at hc hd hc2 hd2;subst hc hd hc2 hd2;have e:vs.toArray++ws.toArray=(vs++ws).toArray:=by simp
 by_cases hw:ws=[]
 ·exact Qs8 ⟨_,ho,rfl⟩ ⟨_,ho2,rfl⟩ Qi0 QoW PySem.F.slot_tuple_add PySem.F.entry_tuple_add (PySem.F.args_tuple_add_2 _ _)
   (tuple_addW1 t b vs.toArray ws.toArray n n2 dd dd2 sl sl2 (by simpa using hv) (by simp[hw])) ⟨ho,ho2,h1 hw⟩
 ·refine Qs8 ⟨_,ho,rfl⟩ ⟨_,ho2,rfl⟩ Qi0 QoW PySem.F.slot_tuple_add PySem.F.entry_tuple_add (PySem.F.args_tuple_add_2 _ _)
   (tuple_addW2 t b vs.toArray ws.toArray n n2 dd dd2 sl sl2 (by simpa using hv) (by simpa using hw) (by rw[Qr,Qr];exact hsz)) ⟨ho,ho2,?_⟩
  rw[e];exact h2 hw
def sIx(n d:Nat):Option Int->Nat
 |none=>d
 |some v=>if v<0 then(v+(n:Int)).toNat else min v.toNat n
theorem QgS(n d:Nat):sIx n d none=d:=rfl
theorem QmH(n d k:Nat):sIx n d (some (k:Int))=min k n:=by
 show(if(k:Int)<0 then((k:Int)+(n:Int)).toNat else min (k:Int).toNat n)=min k n;rw[if_neg (by omega),QX]
theorem QwL(n d:Nat)(hd:d<=n)(o:Option Int):sIx n d o<=n:=by
 cases o with
 |none=>exact hd
 |some v=>
  show(if v<0 then(v+(n:Int)).toNat else min v.toNat n)<=n;by_cases hv:v<0
  ·rw[if_pos hv];omega
  ·rw[if_neg hv];exact Qgz _ _
theorem Qoo(v:Int)(n d:Nat):(if v<0 then max (v+(n:Int)) 0 else min v (n:Int))=((sIx n d (some v):Nat):Int):=by
 show(if v<0 then max (v+(n:Int)) 0 else min v (n:Int))=(((if v<0 then(v+(n:Int)).toNat else min v.toNat n):Nat):Int);by_cases hv:v<0
 ·simp only[if_pos hv];omega
 ·simp only[if_neg hv];omega
theorem QlW(lo hi:Option Int)(n:Nat):Qa1 lo hi 1 (n:Int)=(((sIx n 0 lo:Nat):Int),((sIx n n hi:Nat):Int)):=by
 have h1:¬((1:Int)<0):=by omega
 unfold Qa1;simp only[h1,if_false];refine QoZ ?_ ?_
 ·cases lo with
  |none=>rfl
  |some v=>exact Qoo v n 0
 ·cases hi with
  |none=>rfl
  |some v=>exact Qoo v n n
theorem Qlz(i j:Nat):YN (i:Int) (j:Int) 1=j - i:=by
 unfold YN;have h1:(1:Int) > 0:=by omega
 simp only[h1,if_true,Int.ediv_one];split<;>omega
theorem QfU{v:Value}{o:Option Int}{Q:Option Int->Shared->Prop}(p:QiV v o)(h:Q o s):wpAny (model prog w) A (QzW v) Q E s:=by
 cases p with
 |none=>exact slicePart_none h
 |int i t=>exact slicePart_int h
theorem QbV{sl:Addr}{vl vu:Value}{lo hi:Option Int}{n:Nat}{Q:Int×Int×Nat->Shared->Prop}(hs:s.heap.IsSliceOf sl vl vu .none)(pl:QiV vl lo)(pu:QiV vu hi)
  (h:Q (((sIx n 0 lo:Nat):Int),1,sIx n n hi - sIx n 0 lo) s):wpAny (model prog w) A (Qea (.ref sl) (pure (n:Int))) Q E s:=by
 obtain⟨os,hos,hcs,hds⟩:=id hs;unfold Qea QzX;refine wpAny_bind (wpAny_bind (Zg hos hds (x:=vl) rfl (wpAny_bind (Zg hos hds (x:=vu) rfl (wpAny_bind (Zg hos hds (x:=.none) rfl (Qb ?_)))))));refine wpAny_bind (slicePart_none ?_);show wpAny _ _ (if((1:Int) == 0)=true then _ else _) _ _ s;rw[if_neg (by decide)];refine wpAny_bind (QfU pl (wpAny_bind (QfU pu (wpAny_bind (Qb ?_)))));show wpAny _ _ (match Qa1 lo hi 1 (n:Int) with | (lo,hi)=>pure (lo,(1:Int),YN lo hi 1)) _ _ s;rw[QlW lo hi n];show wpAny _ _ (pure (((sIx n 0 lo:Nat):Int),(1:Int),YN ((sIx n 0 lo:Nat):Int) ((sIx n n hi:Nat):Int) 1)) _ _ s;rw[Qlz];exact Qb h
theorem QpF(xs:Array Value)(i k:Nat):((Qq k).filterMap λ(m:Nat)=>xs[((i:Int)+(m:Int)*1).toNat]?).toArray=((xs.toList.drop i).take k).toArray:=by
 have e:(λ(m:Nat)=>xs[((i:Int)+(m:Int)*1).toNat]?)=λm=>xs[i+m]? := by
  funext m
  have:((i:Int)+(m:Int)*1).toNat=i+m:=by omega
  rw[this]
 rw[e];have:=pick_run xs i k;rw[QaD] at this;have e2:((λx=>xs[x]?)∘λx=>i+x)=λm=>xs[i+m]? := rfl
 rw[e2] at this;rw[this]
theorem Qd1{t sl:Addr}{items:Array Value}{vl vu:Value}{lo hi:Option Int}{Q:Value->Shared->Prop}(ht:IsTup s.heap t items)(hs:s.heap.IsSliceOf sl vl vu .none)(pl:QiV vl lo)(pu:QiV vu hi)
  (hw:¬(sIx items.size 0 lo=0/\sIx items.size items.size hi=items.size))
  (h:Q (.ref s.heap.objs.size) { s with heap:=s.heap.push { cls:=.type "tuple",data:=.seq ((items.toList.drop (sIx items.size 0 lo)).take (sIx items.size items.size hi - sIx items.size 0 lo)).toArray } })
  (hsz:items.size<=sizeLine):wpAny (model prog w) A (getItem (.ref t) (.ref sl)) Q E s:=by
 have htake:sizeOk (.seq ((items.toList.drop (sIx items.size 0 lo)).take (sIx items.size items.size hi - sIx items.size 0 lo)).toArray):=by
  show((items.toList.drop (sIx items.size 0 lo)).take (sIx items.size items.size hi - sIx items.size 0 lo)).toArray.size<=sizeLine;rw[Qr,JG,YA,Qd];omega
 have hj:sIx items.size items.size hi<=items.size:=QwL _ _ (Qh _) hi;obtain⟨os,hos,hcs,hds⟩:=id hs;have hTs:s.TypeIs (.ref sl) "slice" := ⟨os,hos,hcs⟩;unfold getItem
 try with_reducible refine J6 ?_
 first | refine wpAny_bind (Qb ?_) | skip
 refine wpAny_bind (Qzq ht.typeIs (by decide) ?_);refine wpAny_bind (Zd (name:=Qaw "__getitem__") ht.typeIs J5
  (JF J5 ht.typeIs Qwb ?_ (Qy1 _ _)))
 show wpAny _ _ (QaT (.ref t) >>= _) _ _ s;refine wpAny_bind (tupleItemsOf_ ht ?_);refine wpAny_bind (Qbn hTs ?_);rw[if_pos (by decide)];refine wpAny_bind (QbV hs pl pu ?_);have hno:¬((((sIx items.size 0 lo:Nat):Int) == 0&&(1:Int) == 1&&(sIx items.size items.size hi - sIx items.size 0 lo) == items.size)=true):=by
  intro q;rw[JH,JH] at q;have q1:((sIx items.size 0 lo:Nat):Int)=0:=eq_of_beq q.1.1;have q2:sIx items.size items.size hi - sIx items.size 0 lo=items.size:=eq_of_beq q.2;exact hw ⟨by omega,by omega⟩
 show wpAny _ _ (if(((sIx items.size 0 lo:Nat):Int) == 0&&(1:Int) == 1&&(sIx items.size items.size hi - sIx items.size 0 lo) == items.size)=true then _ else _) _ _ s;rw[if_neg hno,QpF]
 first
  |exact wpAny_bind (m:=Y3 _) (Jy (Qb ⟨_,rfl,Qb h⟩) htake)
  |exact wpAny_bind (m:=Y3 _) (Jy (wpAny_bind (Qb (Qb ⟨_,rfl,Qb h⟩))) htake)
  |exact wpAny_bind (wpAny_bind (m:=Y3 _) (Jy (Qb (Qb ⟨_,rfl,Qb h⟩)) htake))
  |exact wpAny_bind (wpAny_bind (m:=Y3 _) (Jy (Qb ⟨_,rfl,Qb h⟩) htake))
end
end HT
namespace L2
abbrev TO:=St->Hp->(Option Int->Hp->Prop)->Prop
def PO(X:Cx)(e:Option QU)(t:TO):Prop:=
 ∀(pins:List (Addr×Obj))(s:Shared)(σ:St)(H:Hp)(Q:Option Int->Hp->Prop),Inv X pins σ H s->t σ H Q ->
  wpAny (model X.prog X.w) X.A (evalPart e X.env) (λu s'=>∃o H',Inv X pins σ H' s'/\QiV u o/\Q o H') X.xe s
def Qtw:TO:=λ_ H Q=>Q none H
def Qz5(t:TE):TO:=λσ H Q=>t σ H λx H1=>∃i,x=.int i/\Q (some i) H1
theorem intsAre_of{ns:List Int}:∀{us:List Value},Vals (ns.map V.int) us->IntsAre us ns:=by
 induction ns with
 |nil=>intro us r;rw[QfA] at r;cases r;exact .nil
 |cons n ns ih=>
  intro us r;rw[Jc] at r;cases r with
  |cons r1 r2=>
   obtain⟨t,e⟩:=r1;subst e;exact .cons n t (ih r2)
section
variable{X:Cx}{e:QU}{te:TE}{lo hi:Option QU}{tl th:TO}{pos p2:Pos}
theorem Qt6:PO X none Qtw:=by
 intro pins s σ H Q I h;rw[evalPart_none];exact Qb ⟨none,H,I,.none,h⟩
theorem Qt5(h:PE X e te):PO X (some e) (Qz5 te):=by
 intro pins s σ H Q I hw;rw[evalPart_some];refine thn (h pins s σ H _ I hw) λu s1 ⟨x,H1,I1,r1,q1⟩=>?_
 obtain⟨i,rfl,q⟩:=q1;obtain⟨t,rfl⟩:=r1;exact⟨some i,H1,I1,.int i t,q⟩
def SlR(X:Cx)(r:V->Option Int->Option Int->Hp->VK->Prop):Prop:=
 ∀(pins:List (Addr×Obj))(s:Shared)(σ:St)(H:Hp)(x:V)(v vl vu:Value)(lo hi:Option Int)(sl:Addr)(Q:VK),Inv X pins σ H s->RelV x v->s.heap.IsSliceOf sl vl vu .none->QiV vl lo->QiV vu hi->r x lo hi H Q ->
  ∃T id,typeLookup (.type T) "__getitem__" = pure (some (.builtin id))/\s.TypeIs v T/\wpAny (model X.prog X.w) X.A (getItem v (.ref sl)) (EP X pins σ Q) X.xe s
def tSl(r:V->Option Int->Option Int->Hp->VK->Prop)(te:TE)(tl th:TO):TE:=λσ H Q=>te σ H λx H1=>tl σ H1 λl H2=>th σ H2 λu H3=>r x l u H3 Q
theorem QpH{r:V->Option Int->Option Int->Hp->VK->Prop}(hr:SlR X r)(he:PE X e te)(hl:PO X lo tl)(hu:PO X hi th):PE X (.Subscript e (.Slice lo hi none p2) pos) (tSl r te tl th):=by
 intro pins s σ H Q I h;refine Subscript_ (thn (he pins s σ H _ I h) λv s1 ⟨x,H1,I1,r1,q1⟩=>?_);refine wpAny_Slice (thn (hl pins s1 σ H1 _ I1 q1) λvl s2 ⟨l,H2,I2,pl,q2⟩=>thn (hu pins s2 σ H2 _ I2 q2) λvu s3 ⟨u,H3,I3,pu,q3⟩=>?_);rw[evalPart_none];refine Qb ?_
 have I4:Inv X pins σ H3 { s3 with heap:=s3.heap.push { cls:=.type "slice",data:=.fields #[vl,vu,.none] } }:=I3.kept (t':=s3.toks) λb ob q=>Qe _ q
 obtain⟨T,id,hT,ht,hg⟩:=hr pins { s3 with heap:=s3.heap.push { cls:=.type "slice",data:=.fields #[vl,vu,.none] } } σ H3 x v vl vu l u s3.heap.objs.size Q I4 r1 (Qy9 ..) pl pu q3;show wpAny (model X.prog X.w) X.A (subscriptTail e (.Slice lo hi none p2) v (.ref s3.heap.objs.size)) (EP X pins σ Q) X.xe { s3 with heap:=s3.heap.push { cls:=.type "slice",data:=.fields #[vl,vu,.none] } };exact tail_any (ops:=[.ref s3.heap.objs.size,v]) ht hT hg (by with_unfolding_all rfl)
def Qk0(xs:List V)(lo hi:Option Int):List V:=(xs.drop (HT.sIx xs.length 0 lo)).take (HT.sIx xs.length xs.length hi - HT.sIx xs.length 0 lo)
theorem Qfn(xs:List V)(lo hi:Option Int):(Qk0 xs lo hi).length<=xs.length:=by
 unfold Qk0;rw[JG,YA];omega
def QB1(K:PySem.W.Frag):V->Option Int->Option Int->Hp->VK->Prop:=λx lo hi H Q=>∃a xs,x=.ref a/\SqT K H a xs /\
 ¬(HT.sIx xs.length 0 lo=0/\HT.sIx xs.length xs.length hi=xs.length)/\∀p,H p=none->Q (.ref p) (upd H p (.tup (Qk0 xs lo hi)))
theorem QwF:SlR X (QB1 X.K):=by
 intro pins s σ H x v vl vu lo hi sl Q I rx hs pl pu h;obtain⟨a,xs,rfl,hx,hw,q⟩:=h;cases rx;obtain⟨its,r,ht,hz⟩:=I.tuple hx;have hlen:its.toArray.size=xs.length:=by rw[Qr];exact r.length.symm
 refine⟨"tuple",_,J5.lookup,ht.typeIs,?_⟩;refine HT.Qd1 ht hs pl pu (by rw[hlen];exact hw) ?_ (by rw[hlen];exact hz)
 rw[hlen];refine⟨.ref s.heap.objs.size,_,I.laid (t':=s.toks) (o:=.tup (Qk0 xs lo hi)) (λb ob q=>Qe _ q) (Qh _) ?_,rfl,q _ (I.hok.fresh (Qh _))⟩;exact⟨Q1 (Qfn xs lo hi) hz,_,(r.drop (HT.sIx xs.length 0 lo)).take (HT.sIx xs.length xs.length hi - HT.sIx xs.length 0 lo),Qti _ _⟩
def QAj(K:PySem.W.Frag):R2:=λx y H Q=>∃a b xs ys,x=.ref a/\y=.ref b/\SqT K H a xs/\SqT K H b ys/\xs≠[]/\xs.length+ys.length<=sizeLine /\
 (ys=[]->Q (.ref a) H)/\(ys≠[]->∀p,H p=none->Q (.ref p) (upd H p (.tup (xs++ys))))
theorem Vals.nil_iff{xs:List V}{us:List Value}(r:Vals xs us):us=[]↔xs=[]:=by
 cases r with
 |nil=>simp
 |cons _ _=>simp
theorem QuG:OpR X (binaryOp .Add) (QAj X.K):=by
 intro pins s σ H x y v u Q I rx ry h;obtain⟨a,b,xs,ys,rfl,rfl,ha,hb,hx,hz,q1,q2⟩:=h;cases rx;cases ry;obtain⟨its,r1,p1,_⟩:=I.tuple ha;obtain⟨its2,r2,p2,_⟩:=I.tuple hb;refine HT.QvN p1 p2 (λz=>hx (r1.nil_iff.mp z)) (λz=>⟨.ref a,H,I,rfl,q1 (r2.nil_iff.mp z)⟩) (λz=>?_) (by rw[<- r1.length,<- r2.length];exact hz);refine⟨.ref s.heap.objs.size,_,I.laid (t':=s.toks) (o:=.tup (xs++ys)) (λb ob q=>Qe _ q) (Qh _) ?_,rfl,q2 (λw=>z (r2.nil_iff.mpr w)) _ (I.hok.fresh (Qh _))⟩;exact⟨by rw[Qv];exact hz,_,r1.append r2,Qti _ _⟩
end
def ixN(n:Nat)(i:Int):Option Nat:=if 0<=i then(if i<n then some i.toNat else none) else if -(n:Int)<=i then some (i+n).toNat else none
def atI{α:Type}(xs:List α)(i:Int):Option α:=(ixN xs.length i).bind λj=>xs[j]?
theorem QnP{n:Nat}{i:Int}{j:Nat}(h:ixN n i=some j):seqIndex? i n=some j/\j<n /\ -(n:Int)<=i/\i<n:=by
 unfold ixN at h;by_cases h0:0<=i
 ·rw[if_pos h0] at h;by_cases h1:i<n
  ·rw[if_pos h1] at h;have e:i.toNat=j:=Qt h;exact⟨by rw[Qla h0 h1,e],by omega,by omega,h1⟩
  ·rw[if_neg h1] at h;cases h
 ·rw[if_neg h0] at h;by_cases h1 : -(n:Int)<=i
  ·rw[if_pos h1] at h;have e:(i+n).toNat=j:=Qt h;exact⟨by rw[QiM (by omega) h1,e],by omega,h1,by omega⟩
  ·rw[if_neg h1] at h;cases h
theorem QjW{α:Type}{xs:List α}{i:Int}{v:α}(h:atI xs i=some v):∃j,seqIndex? i xs.length=some j/\xs[j]? = some v/\j<xs.length /\ -(xs.length:Int)<=i/\i<xs.length:=by
 unfold atI at h;cases e:ixN xs.length i with
 |none=>rw[e] at h;cases h
 |some j=>
  rw[e] at h;obtain⟨h1,h2,h3,h4⟩:=QnP e;exact⟨j,h1,h,h2,h3,h4⟩
theorem ZP{α:Type}{xs:List α}{j:Nat}{v:α}(h:xs[j]? = some v):atI xs (j:Int)=some v:=by
 have hj:j<xs.length:=(Jq.mp h).1;have e:ixN xs.length (j:Int)=some j:=by
  unfold ixN;rw[if_pos (by omega),if_pos (by omega)];simp
 unfold atI;rw[e];exact h
theorem Qk6{α:Type}(xs:List α)(v:α):atI (xs++[v]) (-1)=some v:=by
 have hl:(xs++[v]).length=xs.length+1:=by simp
 have e:ixN (xs++[v]).length (-1)=some xs.length:=by
  unfold ixN;rw[hl,if_neg (by decide),if_pos (by omega)]
  congr 1
  omega
 unfold atI;rw[e];show(xs++[v])[xs.length]? = some v;simp
def QjX(b:QU):Prop:=∀o i,subscripted b false o i=operate [o,i] (getItem o i)
def IxR(X:Cx)(r:R2):Prop:=
 ∀(value slice:QU)(pins:List (Addr×Obj))(s:Shared)(σ:St)(H:Hp)(x y:V)(v u:Value)(Q:VK),Inv X pins σ H s->RelV x v->RelV y u->r x y H Q ->
  subscripted slice false v u=operate [v,u] (getItem v u)->wpAny (model X.prog X.w) X.A (subscriptTail value slice v u) (EP X pins σ Q) X.xe s
def MtR(X:Cx)(id:String)(r:V->List V->Hp->VK->Prop):Prop:=
 ∀(pins:List (Addr×Obj))(s:Shared)(σ:St)(H:Hp)(x:V)(xs:List V)(v:Value)(us:List Value)(Q:VK),Inv X pins σ H s->RelV x v->Vals xs us->r x xs H Q ->
  wpAny (model X.prog X.w) X.A (call (.builtin id) (v::us)) (EP X pins σ Q) X.xe s
section
variable{X:Cx}{a b:QU}{ta tb:TE}{pos:Pos}
theorem Qxj{r:R2}(hr:IxR X r)(ha:PE X a ta)(hb:PE X b tb)(hs:QjX b):PE X (.Subscript a b pos) (tOp r ta tb):=by
 intro pins s σ H Q I h;exact Subscript_ (QA6 ha hb I h λv u s2 x y H2 I2 rx ry q=>hr a b pins s2 σ H2 x y v u Q I2 rx ry q (hs _ _))
def Qzh(K:PySem.W.Frag):R2:=λx y H Q=>∃p xs i v,x=.ref p/\y=.int i/\SqL K H p xs/\atI xs i=some v/\Q v H
def QBl(K:PySem.W.Frag):R2:=λx y H Q=>∃p xs i v,x=.ref p/\y=.int i/\SqT K H p xs/\atI xs i=some v/\Q v H
theorem QnO:IxR X (Qzh X.K):=by
 intro value slice pins s σ H x y v u Q I rx ry h hs;obtain⟨p,xs,i,z,rfl,rfl,hq,he,q⟩:=h;cases rx;obtain⟨t,rfl⟩:=ry;obtain⟨its,r,pl,hz⟩:=I.list hq;obtain⟨j,h1,h2,h3,h4,h5⟩:=QjW he;obtain⟨w,ew,rw'⟩:=r.get h2;have hl:=r.length;have hn:=Qge;have fin:EP X pins σ Q w s:=⟨z,H,I,rw',q⟩;by_cases h0:0<=i
 ·have hj:i.toNat=j:=by
   rw[Qla h0 h5] at h1;exact Qt h1
  exact item_listR pl.isList h0 (by omega) (by rw[hj];simpa using ew) fin hs
 ·have hj:(i+(its.toArray.size:Int)).toNat=j:=by
   rw[QiM (by omega) h4] at h1;rw[Qr,<- hl];exact Qt h1
  exact Qsa (x:=w) pl.isList.typeIs Qzx.lookup
   (Qr9 (Q:=λr s'=>r=w/\EP X pins σ Q r s') pl.isList (by omega) (by rw[Qr]<;>omega) (by omega) (by rw[hj];simpa using ew) ⟨rfl,fin⟩) hs
theorem Qyh:IxR X (QBl X.K):=by
 intro value slice pins s σ H x y v u Q I rx ry h hs;obtain⟨p,xs,i,z,rfl,rfl,hq,he,q⟩:=h;cases rx;obtain⟨t,rfl⟩:=ry;obtain⟨its,r,pl,hz⟩:=I.tuple hq;obtain⟨j,h1,h2,h3,h4,h5⟩:=QjW he;obtain⟨w,ew,rw'⟩:=r.get h2;have hl:=r.length;have hn:=Qge;have fin:EP X pins σ Q w s:=⟨z,H,I,rw',q⟩;exact Qsa (x:=w) pl.typeIs slot_tuple_getitem.lookup
  (getItem_tuple (j:=j) (Q:=λr s'=>r=w/\EP X pins σ Q r s') pl (by omega) (by omega) (by rw[Qr,<- hl];exact h1) (by simpa using ew) ⟨rfl,fin⟩) hs
theorem QlG(its:List Value)(n j:Nat)(u:Value):ZT (·.setIfInBounds j u) { cls:=.type "list",data:=.seq its.toArray n }={ cls:=.type "list",data:=.seq (its.set j u).toArray n }:=by
 simp[ZT]
theorem Inv.lst{pins:List (Addr×Obj)}{σ:St}{H:Hp}{s:Shared}{p:Addr}{xs:List V}(I:Inv X pins σ H s)(h:H p=some (.lst xs)) :
  ∃(its:List Value)(n:Nat),Vals xs its/\s.heap.get? p=some { cls:=.type "list",data:=.seq its.toArray n }/\xs.length<=sizeLine:=by
 obtain⟨z,its,n,r,e⟩:=I.hok p _ h;exact⟨its,n,r,e,z⟩
theorem Inv.lstUpd{pins:List (Addr×Obj)}{σ:St}{H:Hp}{s:Shared}{p:Addr}{xs ys:List V}{its its':List Value}{n n':Nat}{f:Obj->Obj}(I:Inv X pins σ H s)(h:H p=some (.lst xs))
  (ho:s.heap.get? p=some { cls:=.type "list",data:=.seq its.toArray n })(hf:f { cls:=.type "list",data:=.seq its.toArray n }={ cls:=.type "list",data:=.seq its'.toArray n' })(r:Vals ys its')(hz:ys.length<=sizeLine)(t:Nat) :
  Inv X pins σ (upd H p (.lst ys)) { s with heap:=s.heap.update p f,toks:=t }:=by
 have e:(s.heap.update p f).get? p=some { cls:=.type "list",data:=.seq its'.toArray n' }:=by
  rw[ZQ f ho (by rw[hf]<;>rfl),hf]
 refine I.write (x:=p) (e:=p) (by rw[h];trivial) (.inl rfl) (λb u hb q=>(YJ _ _ (QcP hb)).trans q) ⟨_,e⟩ ?_
 exact⟨hz,its',n',r,e⟩
def QwT:V->V->V->Hp->(Hp->Prop)->Prop:=λo i v H Q=>∃p xs k j,o=.ref p/\i=.int k/\H p=some (.lst xs)/\ixN xs.length k=some j/\Q (upd H p (.lst (xs.set j v)))
theorem Qpf:QBQ X QwT:=by
 intro pins s σ H o i v ov iv u Q I ro ri rv h;obtain⟨p,xs,k,j,rfl,rfl,hp,hj,q⟩:=h;cases ro;obtain⟨t,rfl⟩:=ri;obtain⟨its,n,r,ho,hz⟩:=I.lst hp;obtain⟨h1,h2,h3,h4⟩:=QnP hj;have hl:=r.length;have hn:=Qge;have I':Inv X pins σ (upd H p (.lst (xs.set j v))) { s with heap:=s.heap.update p (ZT (·.setIfInBounds j u)) }:=
  I.lstUpd hp ho (QlG its n j u) (r.set rv j) (by rw[Yo];exact hz) s.toks
 by_cases h0:0<=k
 ·have hk:k.toNat=j:=by
   rw[Qla h0 h4] at h1;exact Qt h1
  exact PySem.W.ki_setAt ho h0 (by omega) (by rw[Qr,<- hl];exact h4) (by rw[hk];exact⟨_,I',q⟩)
 ·have hk:(k+(its.toArray.size:Int)).toNat=j:=by
   rw[QiM (by omega) h3] at h1;rw[Qr,<- hl];exact Qt h1
  exact PySem.W.ki_setBack ho (by omega) (by rw[Qr,<- hl];exact h3) (by omega) (by rw[hk];exact⟨_,I',q⟩)
theorem QhY(lo hi:Option Int)(n:Nat):(sliceBounds lo hi none n).1=((HT.sIx n 0 lo:Nat):Int)/\(sliceBounds lo hi none n).2.1=((HT.sIx n n hi:Nat):Int)/\(sliceBounds lo hi none n).2.2=1:=by
 refine⟨?_,?_,rfl⟩
 ·cases lo with
  |none=>simp[sliceBounds,HT.sIx]
  |some i=>
   simp only[sliceBounds,HT.sIx,Qo0,show(1:Int) > 0 by decide,if_true];by_cases h:i<0
   ·simp only[h,if_true]<;>omega
   ·simp only[h,if_false]<;>omega
 ·cases hi with
  |none=>simp[sliceBounds,HT.sIx]
  |some i=>
   simp only[sliceBounds,HT.sIx,Qo0,show(1:Int) > 0 by decide,if_true];by_cases h:i<0
   ·simp only[h,if_true]<;>omega
   ·simp only[h,if_false]<;>omega
theorem QgQ(its:List Value)(lo hi:Option Int):slicePick its.toArray lo hi none=((its.drop (HT.sIx its.length 0 lo)).take (HT.sIx its.length its.length hi - HT.sIx its.length 0 lo)).toArray:=by
 obtain⟨h1,h2,h3⟩:=QhY lo hi its.toArray.size;unfold slicePick;rw[h1,h2,h3];simp only[sliceRange_one,pick_run,Qr]<;>rfl
def QB2(K:PySem.W.Frag):V->Option Int->Option Int->Hp->VK->Prop:=λx lo hi H Q=>∃a xs,x=.ref a/\SqL K H a xs/\∀p,H p=none->Q (.ref p) (upd H p (.lst (Qk0 xs lo hi)))
theorem QtC:SlR X (QB2 X.K):=by
 intro pins s σ H x v vl vu lo hi sl Q I rx hs pl pu h;obtain⟨a,xs,rfl,hx,q⟩:=h;cases rx;obtain⟨its,r,ht,hz⟩:=I.list hx;have hlen:=r.length;refine⟨"list",_,Qzx.lookup,ht.isList.typeIs,?_⟩;refine wpAny_getItem_list_slice ht.isList hs pl pu .none (by simp) ?_ (by rw[Qr]<;>omega)
 rw[QgQ,<- hlen];refine⟨.ref s.heap.objs.size,_,I.laid (t':=s.toks) (o:=.lst (Qk0 xs lo hi)) (λb ob q=>Qe _ q) (Qh _) ?_,rfl,q _ (I.hok.fresh (Qh _))⟩;exact⟨Q1 (Qfn xs lo hi) hz,_,0,(r.drop (HT.sIx xs.length 0 lo)).take (HT.sIx xs.length xs.length hi - HT.sIx xs.length 0 lo),Qw _ rfl⟩
theorem Qem:CallR X (.builtin "len") (λxs H Q=>∃p ys,xs=[.ref p]/\(SqL X.K H p ys∨SqT X.K H p ys)/\Q (.int ys.length) H):=by
 intro pins s σ H xs us Q I r h;obtain⟨p,ys,rfl,hq,q⟩:=h;obtain⟨u,rfl,rx⟩:=vals1 r;cases rx;have hn:=Qge;rcases hq with hq | hq
 ·obtain⟨its,r',pl,hz⟩:=I.list hq;have hlen:=r'.length;exact Calls.call_len_list pl.isList (by simp only[Qr]<;>omega) ⟨.int ys.length,H,I.tok _,⟨s.toks+1,by rw[Qr,hlen]⟩,q⟩
 ·obtain⟨its,r',pl,hz⟩:=I.tuple hq;have hlen:=r'.length;exact len_tuple pl (by simp only[Qr]<;>omega) ⟨.int ys.length,H,I.tok _,⟨s.toks+1,by rw[Qr,hlen]⟩,q⟩
theorem QiD:CallR X (.type "list") (λxs H Q=>∃p ys,xs=[.ref p]/\(SqL X.K H p ys∨SqT X.K H p ys)/\∀l,H l=none->Q (.ref l) (upd H l (.lst ys))):=by
 intro pins s σ H xs us Q I r h;obtain⟨p,ys,rfl,hq,q⟩:=h;obtain⟨u,rfl,rx⟩:=vals1 r;cases rx;have fin:∀(its:List Value),Vals ys its->ys.length<=sizeLine->∀(h':Heap)(c':Nat),(∀b o',s.heap.get? b=some o'->h'.get? b=some o') ->
   h'.get? s.heap.objs.size=some { cls:=.type "list",dict:=none,data:=.seq its.toArray c',slots:=#[] }->EP X pins σ Q (.ref s.heap.objs.size) { s with heap:=h' }:=λits r' hz h' c' kp e=>
  ⟨.ref s.heap.objs.size,_,I.laid (t':=s.toks) kp (Qh _) (show ObjOk X.prog X.w _ h' _ (.lst ys) from⟨hz,its,c',r',e⟩),rfl,q _ (I.hok.fresh (Qh _))⟩
 rcases hq with hq | hq
 ·obtain⟨its,r',pl,hz⟩:=I.list hq;have hlen:=r'.length;obtain⟨o,ho,hc,n,hd⟩:=pl.isList;exact call_list_seq p (.inl rfl) ho hc hd (λh' c' kp e=>fin its r' hz h' c' kp e) (by simp only[Qr]<;>omega)
 ·obtain⟨its,r',pl,hz⟩:=I.tuple hq;have hlen:=r'.length;obtain⟨o,ho,hc,n,hd⟩:=pl;exact call_list_seq p (.inr rfl) ho hc hd (λh' c' kp e=>fin its r' hz h' c' kp e) (by simp only[Qr]<;>omega)
theorem Qhr:CallR X (.type "tuple") (λxs H Q=>∃p ys,xs=[.ref p]/\((SqL X.K H p ys/\∀l,H l=none->Q (.ref l) (upd H l (.tup ys)))∨(SqT X.K H p ys/\Q (.ref p) H))):=by
 intro pins s σ H xs us Q I r h;obtain⟨p,ys,rfl,h⟩:=h;obtain⟨u,rfl,rx⟩:=vals1 r;cases rx;rcases h with⟨hq,q⟩ | ⟨hq,q⟩
 ·obtain⟨its,r',pl,hz⟩:=I.list hq;have hlen:=r'.length;refine call_tuple_list pl.isList (λh' kp=>?_) (by simp only[Qr]<;>omega);have I1:Inv X pins σ H { s with heap:=h' }:=I.kept (t':=s.toks) kp;have I2:Inv X pins σ (upd H h'.objs.size (.tup ys)) { s with heap:=h'.push { cls:=.type "tuple",data:=.seq its.toArray } }:=
   I1.laid (t':=s.toks) (λb o e=>Qe _ e) (Qh _) (show ObjOk X.prog X.w _ _ _ (.tup ys) from⟨hz,its,r',Qti _ _⟩)
  exact⟨.ref h'.objs.size,_,I2,rfl,q _ (I1.hok.fresh (Qh _))⟩
 ·obtain⟨its,r',pl,hz⟩:=I.tuple hq;exact call_tuple_same pl ⟨.ref p,H,I,rfl,q⟩
def tyV(K:PySem.W.Frag)(T:String)(x:V)(H:Hp):Prop:=match x with
 |.str _=>T = "str"
 |.int _=>T = "int"
 |.ref p=>(T = "list" /\ ∃xs,SqL K H p xs)∨(T = "tuple" /\ ∃o,K.lookup p=some o/\o.cls=.type "tuple" /\ o.dict=none) ∨
   (T = "dict" /\ ((∃kvs,H p=some (.dK kvs))∨∃kvs,H p=some (.dT kvs)))∨(T = "set" /\ ∃S n,H p=some (.set S n))
 |_=>False
theorem Qwp{pins:List (Addr×Obj)}{σ:St}{H:Hp}{s:Shared}{T:String}{x:V}{v:Value}(I:Inv X pins σ H s)(r:RelV x v)(ty:tyV X.K T x H) :
  s.TypeIs v T/\∀a,v=.ref a->∃ob,s.heap.get? a=some ob/\ob.dict=none:=by
 cases x with
 |str z=>
  obtain⟨t,rfl⟩:=r;cases(show T = "str" from ty);exact⟨typeIs_str s z t,λ_ e=>nomatch e⟩
 |int i=>
  obtain⟨t,rfl⟩:=r;cases(show T = "int" from ty);exact⟨Qzw s i t,λ_ e=>nomatch e⟩
 |ref p=>
  cases r;rcases ty with⟨rfl,xs,hq⟩ | ⟨rfl,o,hk,hc,hd⟩ | ⟨rfl,hk⟩ | ⟨rfl,S,n,hk⟩
  ·obtain⟨its,_,pl,_⟩:=I.list hq;refine⟨pl.isList.typeIs,λa e=>?_⟩;cases e;obtain⟨o,n,e,c,hd,_⟩:=pl;exact⟨o,e,hd⟩
  ·refine⟨⟨o,I.kIn p o hk,hc⟩,λa e=>?_⟩;cases e;exact⟨o,I.kIn _ o hk,hd⟩
  ·have z:∃o,s.heap.get? p=some o/\o.ExactDict:=by
    rcases hk with⟨kvs,hk⟩ | ⟨kvs,hk⟩
    ·obtain⟨_,_,_,_,o,_,_,e,ex,_⟩:=I.hok p _ hk;exact⟨o,e,ex⟩
    ·obtain⟨_,_,_,_,o,_,_,e,ex,_⟩:=I.hok p _ hk;exact⟨o,e,ex⟩
   obtain⟨o,e,ex⟩:=z;refine⟨⟨o,e,ex.1⟩,λa e2=>?_⟩;cases e2;exact⟨o,e,ex.2.1⟩
  ·obtain⟨o,_,_,_,e,ex,_⟩:=I.hok p _ hk;refine⟨⟨o,e,ex.1⟩,λa e2=>?_⟩;cases e2;exact⟨o,e,ex.2.1⟩
 |_=>exact YB ty
def tBM(K:PySem.W.Frag)(T:String)(r:V->List V->Hp->VK->Prop)(to:TE)(t:TA):TE:=λσ H Q=>to σ H λx H1=>tyV K T x H1/\t σ H1 λxs H2=>r x xs H2 Q
variable{o e:QU}{es:List QU}{to:TE}{t:TA}{name:Str}{apos cpos:Pos}{T id:String}{r:V->List V->Hp->VK->Prop}
theorem Qxk(pa:PlainAttrs T)(slot:Slot T name id)(hty:typeOf (.builtin id)=pure (.type "method_descriptor"))(hm:MtR X id r)(ho:PE X o to)(ha:PA X (e::es) t)
  (hbase:attributeBase o name X.env (eval o X.env)=eval o X.env:=by rfl)
  (hfew:((backTo cpos (starEach (e::es) X.env)).all (λx => !x.1)&&(backToKw cpos (keywordEach [] X.env)).all (λx=>x.1.isSome)
   && decide ((e::es).length+([]:List Qlh).length+(if([]:List Qlh).isEmpty then 0 else 1)<30))=true:=by rfl)
  (hline:(apos.endLine == cpos.line)=true:=by rfl) (hs:starEach (e::es) X.env=(false,eval e X.env)::starEach es X.env:=by rfl) (hplain:(backTo cpos (starEach es X.env)).any (·.1)=false:=by rfl) :
  PE X (.Call (.Attribute o name apos) (e::es) [] cpos) (tBM X.K T r to t):=by
 intro pins s σ H Q I h;refine wpAny_Call_method_late hbase hfew hline rfl (thn (ho pins s σ H _ I h) λv s1 ⟨x,H1,I1,r1,ty,q1⟩=>?_);obtain⟨h1,h2⟩:=Qwp I1 r1 ty;refine⟨T,id,pa,slot,hty,h1,h2,?_⟩;have hA:=ha cpos pins s1 σ H1 _ I1 q1;rw[hs] at hA ⊢;refine Calls.callWith_builtin (by show(false||(backTo cpos (starEach es X.env)).any (·.1))=false;rw[hplain]<;>rfl) (Calls.evalArgs_plain ?_);exact thn hA λus s2 ⟨vs,H2,I2,r2,q2⟩=>hm pins s2 σ H2 x vs v us Q I2 r1 r2 q2
end
def MtM(X:Cx)(id:String)(r:V->List V->Hp->VK->Prop):Prop:=
 ∀(pins:List (Addr×Obj))(s:Shared)(σ:St)(H:Hp)(x:V)(xs:List V)(v:Value)(us:List Value)(Q:VK),Inv X pins σ H s->RelV x v->Vals xs us->r x xs H Q ->
  wpAny (model X.prog X.w) X.A (call (.builtin id) (v::us)) (EP X pins σ Q) X.xe s
theorem Vals.one:∀{x:V}{us:List Value},Vals [x] us->∃u,us=[u]/\RelV x u
 |_,_,.cons r .nil=>⟨_,rfl,r⟩
theorem Vals.zero:∀{us:List Value},Vals [] us->us=[]
 |_,.nil=>rfl
theorem Vals.reverse{xs:List V}{us:List Value}(h:Vals xs us):Vals xs.reverse us.reverse:=by
 induction h with
 |nil=>exact .nil
 |cons r t ih=>rw[Qsd,Qsd];exact Vals.append ih (.cons r .nil)
theorem Vals.rep{xs:List V}{us:List Value}(h:Vals xs us):∀k:Nat,Vals (Jj k xs).flatten (Jj k us).flatten
 |0=>.nil
 |k+1=>by
  rw[ZD,ZD,Yp,Yp];exact Vals.append h (Vals.rep h k)
theorem foldl_rep(its:List Value):∀(k:Nat)(acc:List Value),
  Qsf (λx1 x2=>x1++x2) acc.toArray (Jj k its.toArray)=(acc++(Jj k its).flatten).toArray
 |0,acc=>by simp
 |k+1,acc=>by
  have e:acc.toArray++its.toArray=(acc++its).toArray:=by simp
  have e2:(acc++its)++(Jj k its).flatten=acc++(Jj (k+1) its).flatten:=by
   rw[ZD,Yp,QQ]
  rw[<- e2,<- foldl_rep its k (acc++its),<- e,ZD,Qbx]
section
variable{X:Cx}{pins:List (Addr×Obj)}{σ:St}{H:Hp}{s:Shared}{l b:Addr}{xs ys zs:List V}
theorem Inv.lset{its its':List Value}{n:Nat}{f:Array Value->Array Value}{t':Nat}(I:Inv X pins σ H s)(hH:H l=some (.lst xs))
  (e:s.heap.get? l=some { cls:=.type "list",data:=.seq its.toArray n })(hf:f its.toArray=its'.toArray)(hv:Vals ys its')(hz:ys.length<=sizeLine) :
  Inv X pins σ (upd H l (.lst ys)) { s with heap:=s.heap.update l (ZT f),toks:=t' }:=by
 have q:=PySem.IsL.update e f;rw[hf] at q;refine I.write (x:=l) (e:=l) (by rw[hH];exact trivial) (.inl rfl) (λb' u hb hu=>(YJ s.heap (ZT f) (QcP hb)).trans hu) ⟨_,q⟩ ?_
 exact⟨hz,its',_,hv,q⟩
theorem Inv.lnew{its:List Value}{t':Nat}(I:Inv X pins σ H s)(hv:Vals ys its)(hz:ys.length<=sizeLine) :
  Inv X pins σ (upd H s.heap.objs.size (.lst ys)) { s with heap:=s.heap.push { cls:=.type "list",data:=.seq its.toArray },toks:=t' }:=
 I.laid (λ_ _ q=>Qe _ q) (Qh _) ⟨hz,its,0,hv,Qw _ rfl⟩
theorem Inv.fresh(I:Inv X pins σ H s):H s.heap.objs.size=none:=I.hok.fresh (Qh _)
theorem Inv.lstM(I:Inv X pins σ H s)(hH:H l=some (.lst xs)):xs.length<=sizeLine/\∃(its:List Value)(n:Nat),Vals xs its/\xs.length=its.length/\s.heap.get? l=some { cls:=.type "list",data:=.seq its.toArray n }:=by
 obtain⟨z,its,n,r,e⟩:=I.hok l _ hH;exact⟨z,its,n,r,r.length,e⟩
theorem Qrm{n:Nat}(h:n<=sizeLine):Qbh n=false:=by
 unfold Qbh;exact decide_eq_false (by omega)
end
section
variable{X:Cx}
def QmP:V->List V->Hp->VK->Prop:=λx vs H Q=>∃l xs y,x=.ref l/\vs=[y]/\H l=some (.lst xs)/\xs.length<sizeLine/\Q .non (upd H l (.lst (xs++[y])))
theorem Qii:MtM X "list.append" QmP:=by
 intro pins s σ H x vs v us Q I rx rv h;obtain⟨l,xs,y,rfl,rfl,hH,hz,q⟩:=h;cases rx;obtain⟨u,rfl,ru⟩:=rv.one;obtain⟨z,its,n,r,hl,e⟩:=I.lstM hH;refine QhH F.slot_list_append ⟨_,e,rfl⟩ F.entry_list_append (F.args_list_append_2 _ _) (PySem.list_append l its.toArray n u (by rw[Qr];omega)) ⟨e,?_⟩;refine⟨.non,_,I.lset (its':=its++[u]) hH e (by simp) (r.append (.cons ru .nil)) ?_,rfl,q⟩;rw[Qv,Qdb];omega
def QBs:R2:=λx y H Q=>∃l b xs zs,x=.ref l/\y=.ref b/\H l=some (.lst xs)/\H b=some (.lst zs)/\xs.length+zs.length<=sizeLine/\∀p,H p=none->Q (.ref p) (upd H p (.lst (xs++zs)))
theorem QxQ:OpR X (binaryOp .Add) QBs:=by
 intro pins s σ H x y v u Q I rx ry h;obtain⟨l,b,xs,zs,rfl,rfl,hH,hB,hz,q⟩:=h;cases rx;cases ry;obtain⟨z,its,n,r,hl,e⟩:=I.lstM hH;obtain⟨z2,its2,n2,r2,hl2,e2⟩:=I.lstM hB;refine PySem.P.add_list e e2 ?_ (by rw[Qr,Qr];omega)
 have ea:its.toArray++its2.toArray=(its++its2).toArray:=by simp
 rw[ea];exact⟨.ref _,_,I.lnew (t':=s.toks) (r.append r2) (by rw[Qv];omega),rfl,q _ I.fresh⟩
def QBh:R2:=λx y H Q=>∃l k xs,x=.ref l/\y=.int k/\H l=some (.lst xs) /\ -(2^63)<=k/\k<2^63/\xs.length*k.toNat<=sizeLine /\
 ∀p,H p=none->Q (.ref p) (upd H p (.lst (Jj k.toNat xs).flatten))
theorem Qu6{α:Type}(xs:List α)(k:Nat):(Jj k xs).flatten.length=k*xs.length:=by
 induction k with
 |zero=>simp
 |succ k ih=>rw[ZD,Yp,Qv,ih,Nat.succ_mul,Nat.add_comm]
theorem QxD:OpR X (binaryOp .Mult) QBh:=by
 intro pins s σ H x y v u Q I rx ry h;obtain⟨l,k,xs,rfl,rfl,hH,h1,h2,hz,q⟩:=h;cases rx;obtain⟨t,rfl⟩:=ry;obtain⟨z,its,n,r,hl,e⟩:=I.lstM hH;have hlen:its.toArray.size*k.toNat<=sizeLine:=by rw[Qr,<- hl];exact hz
 have hcap:¬its.toArray.size*k.toNat > (2^63 - 1) / 8:=by
  have:(sizeLine:Nat)<=(2^63 - 1) / 8:=by decide
  omega
 have hfit:¬(!Builtin.List.listFitsIndex k)=true:=by
  rw[fitsIndex_both h1 h2];exact QK
 have hlong:¬Qbh (its.toArray.size*k.toNat)=true:=by
  rw[Qrm hlen];exact QK
 have hnew:Qsf (λx1 x2=>x1++x2) #[] (Jj (if its.toArray.isEmpty=true then 0 else k.toNat) its.toArray)=(Jj k.toNat its).flatten.toArray:=by
  have f0:∀m:Nat,Qsf (λx1 x2=>x1++x2) #[] (Jj m its.toArray)=(Jj m its).flatten.toArray:=λm=>by
   have:=foldl_rep its m [];rw[Qda] at this;exact this
  rw[f0];cases its with
  |nil=>simp
  |cons a r'=>rw[if_neg (by simp)]
 refine wpAny_binaryOp_repeat_ref (T := "list") (U := "int") (by decide) ⟨_,e,rfl⟩ (λs'=>Qzw s' k t) noFill_list_mul F.fills_int_mul QzS repeat_list F.slot_int_index.lookup
  (QhH QzS (Qzw s k t) F.entry_int_rmul (F.args_int_rmul_2 _ _) (int___rmul___int_list k t l its.toArray n)
   ⟨e,rfl,⟨_,e,rfl⟩,QhH F.slot_list_mul ⟨_,e,rfl⟩ F.entry_list_mul (F.args_list_mul_2 _ _) (AutoListH.list___mul___list_int_3 l its.toArray n k t hfit hcap hlong) ⟨e,?_⟩⟩)
 rw[hnew];exact⟨.ref _,_,I.lnew (t':=s.toks) (r.rep k.toNat) (by rw[Qu6,Nat.mul_comm];exact hz),rfl,q _ I.fresh⟩
end
section
variable{prog:QC}{w:Q9}{A:Q5}{E:Value->Shared->Prop}{s:Shared}
end
section
variable{X:Cx}
end
end L2
namespace Att
open PySem.W PySem.Calls
theorem Qfg{P:Params}{h:Heap}:∀(ns:List Int)(vs:List Value),WellAll P h vs (ns.map WData.int)->IntsAre vs ns:=by
 intro ns;induction ns with
 |nil=>
  intro vs w;rw[QfA] at w;cases w;exact .nil
 |cons n ns ih=>
  intro vs w;rw[Jc] at w;cases w with
  |cons a b=>
   cases a;exact .cons _ _ (ih _ b)
theorem QmB{l:OpenLaw}{n:Nat}(hn:l.most=some n){P:Params}{h:Heap}{args:List WData}{vals:List Value}
  (hpre:l.row.toRowW.claim.pre args=true)(hwl:WellAll P h vals args) :
  ∃a vs ns,vals=[QJ a]/\args=[WData.list (ns.map WData.int)]/\h.get? a=some { cls:=.type "list",data:=.seq vs.toArray }/\IntsAre vs ns/\ns.length<=n:=by
 have hsh:WShape.hasAll [] args [.list .int]=true:=(pre_splitW hpre).1;have hc:l.pre.holds [] { args:=args }=true:=(pre_splitW hpre).2;obtain⟨d,r,rfl,h1,h2⟩:=hasAllW_cons hsh;obtain rfl:=hasAllW_nil h2;obtain⟨xs,rfl,h3⟩:=hasW_list h1;obtain⟨ns,rfl⟩:=items_int h3;have hlen:ns.length<=n:=by
  unfold OpenLaw.pre at hc;have h4:(WTm.not (.lt (.lit (.int (n:Int))) (.len (.arg 0)))).holds [] { args:=[.list (ns.map .int)] }=true:=by
   have h4:=(holds_andW hc).1;rw[hn] at h4;exact h4
  have h5:=condW_of h4 (w_not (w_lt w_lit (w_len_list (w_arg rfl))));rw[Qf] at h5;refine Nat.le_of_not_lt λq=>?_
  have q':(n:Int)<((ns.length:Nat):Int):=by omega
  first
   |(rw[decide_eq_true q'] at h5;exact absurd h5 (by decide))
   |(simp at h5;omega)
 cases hwl with
 |cons w1 w2=>
  cases w2;cases w1 with
  |list ho hall=>exact⟨_,_,ns,rfl,rfl,ho,Qfg ns _ hall,hlen⟩
theorem Qm1(l:OpenLaw)(args:List WData):l.row.toRowW.claim.post args (.bool true) args=true:=
 postW_of (r:=l.row.toRowW) (X:=(true == true))
  (show QzA [] (.bool true) .bool=true by first | rfl | decide | simp[QzA,WShape.arms,WShape.armsAll])
  (show(WTm.eq .res (.lit (.bool true))).value [] { args:=args,res:=some (.bool true),after:=args }=some (.bool (true == true)) from w_eq_bool (w_res rfl) w_lit) rfl
theorem QjV{l:OpenLaw}{n:Nat}{q:QC}{loose:List Str}{XP:(Str->Option Value)->Heap->Prop}{YP:Q9->Heap->Prop}{d:DefRec}
  (hn:l.most=some n)(hdf:d.params.defaults=[])
  (call:∀(w:Q9)(s₀ s₁:Shared)(mg mb:Str->Option Value)(fa:Addr)(o:Obj)(pm cd doc:Value)(a:Addr)(vs:List Value)(ns:List Int),
   Ground q loose [] XP w s₀ mg mb s₁.heap->YP w s₁.heap ->
   s₁.heap.get? fa=some o->o.data=.func (docDef d.name d.params d.body d.scope pm cd doc)->s₁.heap.CodeRec cd d.name->mg d.name=some (.ref fa) ->
   s₁.heap.get? a=some { cls:=.type "list",data:=.seq vs.toArray }->IntsAre vs ns->ns.length<=n->s₁.gens=#[] ->
   codeAny (model l.prog w) callerA (.call (.ref fa) ⟨[.ref a],[]⟩) (λr s'=>r=.ok (.ret (.bool true))/\OldK s₁.heap s'.heap/\s'.os=s₁.os/\QfD s'.gens) s₁) :
  WalkO q loose XP YP l.row.toRowW d [] (λf vs=>PySem.call f vs):=by
 intro w s₀ s₁ mg mb G Y fa o pm cd doc dV kV ho hd hcd hD hmg hg args vals as hpre hlay hrd hwl hlo;obtain rfl:dV=.none:=Dflts.none hD hdf;obtain rfl:kV=.none:=Dflts.noKw hD;obtain⟨a,vs,ns,rfl,rfl,hobj,hints,hlen⟩:=QmB hn hpre hwl;refine enter_call (Qcq (call w s₀ s₁ mg mb fa o pm cd doc a vs ns G Y ho (fd_plain hd) hcd hmg hobj hints hlen hg) λr s' hq=>?_);obtain⟨rfl,h2,h3,h4⟩:=hq;exact⟨.inl ⟨.bool true,.bool true,[],rfl,λ_=>rfl,.bool true,Qm1 l _,λ_=>⟨QhN,λ_ hm=>(nomatch hm)⟩⟩,h2,h3,h4⟩
section
variable{prog:QC}{w:Q9}{A:Q5}{E:Value->Shared->Prop}{s:Shared}{K:Frag}
end
end Att
namespace L2
theorem QhQ:∀{vs:List Value}{ns:List Int},IntsAre vs ns->Vals (ns.map V.int) vs
 |_,_,.nil=>.nil
 |_,_,.cons n t h=>.cons ⟨t,rfl⟩ (QhQ h)
def QBa(H:Hp):Prop:=∀b,H b=none∨∃o xs,H b=some (.frz o (.lst xs))
theorem Qry{P:QC}{w:Q9}{K:PySem.W.Frag}{mg mb:Str->Option Value}{CX:CXT}{k:Nat}{fa a:Addr}{fd:Q2}{x:Str}{sp:Sp}{s₁:Shared}{vs:List Value}{ns:List Int}
  (KX:K.In s₁.heap)(hns:s₁.heap.Ns mainGlobals mg)(hb:s₁.heap.Ns builtinsNs mb)(hbb:∀x:Str,x ≠ "__name__" -> mb x=bootBuiltins x)(hlim:s₁.heap.NoLimit)(hg:s₁.gens=#[])
  (ha:s₁.heap.get? a=some { cls:=.type "list",data:=.seq vs.toArray })(hi:IntsAre vs ns)(hl:ns.length<=sizeLine)(hr:Room k callerA)
  (F:∀base:Heap,K.In base->base.Ns mainGlobals mg->FnOk P w K mg base CX k fa fd [x] sp)(hbind:∀(s:Shared)(u:Value),Qo4 s fd ⟨[u],[]⟩ [(x,u)])
  (hsp:∀H:Hp,QBa H->SqL K H a (ns.map V.int)->sp [.ref a] H (λv _=>v=.bl true) λ_ _ _=>False)
  (hCX:∀H e s',CX [] H s₁ (λ_ _ _=>False) e s'->False) :
  codeAny (model P w) callerA (.call (.ref fa) ⟨[.ref a],[]⟩) (λr s'=>r=.ok (.ret (.bool true))/\OldK s₁.heap s'.heap/\s'.os=s₁.os/\QfD s'.gens) s₁:=by
 have rv:=QhQ hi;have lenV:=hi.length;have core:∀H:Hp,QBa H->SqL K H a (ns.map V.int)->HOk P w H s₁.heap->(∀b,H b≠none->b=a)->(H a≠none->K.lookup a=none) ->
   codeAny (model P w) callerA (.call (.ref fa) ⟨[.ref a],[]⟩) (λr s'=>r=.ok (.ret (.bool true))/\OldK s₁.heap s'.heap/\s'.os=s₁.os/\QfD s'.gens) s₁:=by
  intro H hO hS hok hA hK;have base_of:∀{b:Addr}{o:Obj},s₁.heap.get? b=some o->H b=none->(QrD s₁.heap H).get? b=some o:=λe n=>QrC e n
  have noA:∀{b:Addr}{o:Obj}{es:Array DictEntry}{ep:Nat},s₁.heap.get? b=some o->o.data=.dict es ep->H b=none:=λ{b o es ep} e d=>by
   cases q:H b with
   |none=>rfl
   |some u=>
    have e':b=a:=hA b (by rw[q];simp);subst e';rw[ha] at e;cases e;have d':Data.seq vs.toArray _=Data.dict es ep:=d;cases d'
  have nsK:∀{b:Addr}{m:Str->Option Value},s₁.heap.Ns b m->(QrD s₁.heap H).Ns b m:=λ{b m} ⟨o,es,ep,e,d,r⟩=>⟨o,es,ep,base_of e (noA e d),d,r⟩
  have hKb:K.In (QrD s₁.heap H):=λb o e=>base_of (KX b o e) (by
   cases q:H b with
   |none=>rfl
   |some u=>
    have e':b=a:=hA b (by rw[q];simp);subst e';rw[hK (by rw[q];simp)] at e;cases e)
  have hM:Mod K mg (QrD s₁.heap H):=⟨hKb,nsK hns,⟨mb,nsK hb,hbb⟩,let ⟨mc,h1,h2⟩:=hlim;⟨mc,nsK h1,h2⟩⟩;have e0:Env0 P w K mg (QrD s₁.heap H) callerA [] s₁ H:=⟨rfl,hM,λb o e=>QuR e,Nat.le_of_eq (QnV _ _),trivial,λb hb=>absurd (show b∈([]:List Addr) from hb) (by simp),hok,.of_eq hg⟩;refine Qcq ((F _ hKb (nsK hns)).run callerA [] s₁ H ⟨[.ref a],[]⟩ [.ref a] [.ref a] _ _ hr e0 (hbind s₁ (.ref a)) (.cons rfl .nil) (hsp H hO hS)) λr s' h=>?_
  cases r with
  |error e=>exact(hCX H e s' h).elim
  |ok fl=>
   cases fl with
   |next=>exact YB h
   |brk=>exact YB h
   |cont=>exact YB h
   |ret u=>
    obtain⟨v,H',os,bare,un,hok',r',q⟩:=h;have q':v=.bl true:=q;subst q';obtain rfl:u=Qb2 true:=r';refine⟨rfl,OldK.of_keep λb o e=>?_,os,bare⟩;cases q:H b with
    |none=>exact un.keep b o e q (by intro z;exact absurd (show b∈([]:List Addr) from z) (by simp)) (by simp)
    |some u=>
     rcases hO b with z | ⟨ob,xs,z⟩
     ·rw[q] at z;cases z
     ·have z2:=un.frzs b ob _ z;obtain⟨e1,_⟩:=hok b _ z;obtain⟨e2,_⟩:=hok' b _ z2;rw[e] at e1;cases e1;exact e2
 cases hk:K.lookup a with
 |some o=>
  have e:=KX a o hk;rw[ha] at e;cases e;refine core (λ_=>none) (λ_=>.inl rfl) (.inr ⟨_,vs.toArray,_,hk,rfl,rfl,rfl,by rw[Qr,lenV];exact hl,by simpa using rv⟩) (λb u z=>by have z':(none:Option HO)=some u:=z;cases z') (λb z=>absurd rfl z) λz=>absurd rfl z
 |none=>
  refine core (λb=>if b=a then some (.frz { cls:=.type "list",data:=.seq vs.toArray } (.lst (ns.map V.int))) else none) (λb=>?_) (.inl (.inr ⟨{ cls:=.type "list",data:=.seq vs.toArray },if_pos rfl⟩)) (λb u z=>?_) (λb z=>?_) λ_=>hk
  ·by_cases hb:b=a
   ·exact .inr ⟨_,_,if_pos hb⟩
   ·exact .inl (if_neg hb)
  ·by_cases hb:b=a
   ·have z':=(if_pos hb).symm.trans z;cases z';subst hb;exact⟨ha,by rw[Qf];exact hl,vs,_,rv,ha⟩
   ·have z':=(if_neg hb).symm.trans z;cases z'
  ·by_cases hb:b=a
   ·exact hb
   ·exact absurd (if_neg hb) z
theorem Qts{l:PySem.W.OpenLaw}{n k:Nat}{q:QC}{loose:List Str}{XP:(Str->Option Value)->Heap->Prop}{YP:Q9->Heap->Prop}{d:DefRec}{K:Params->PySem.W.Frag}{CX:Q9->CXT}{sp:Q9->Sp}{x:Str}
  (hn:l.most=some n)(hn2:n<=sizeLine)(hdf:d.params.defaults=[])(hr:Room k callerA)
  (hY:∀(w:Q9)(h:Heap),YP w h->(K w.params).In h)
  (F:∀(w:Q9)(mg:Str->Option Value)(fa:Addr)(h:Heap),(K w.params).In h->h.Ns mainGlobals mg->mg d.name=some (.ref fa) ->
   ∃fd:Q2,(∀(s:Shared)(u:Value),Qo4 s fd ⟨[u],[]⟩ [(x,u)]) /\
    ∀base:Heap,(K w.params).In base->base.Ns mainGlobals mg->FnOk l.prog w (K w.params) mg base (CX w) k fa fd [x] (sp w))
  (hsp:∀(w:Q9)(H:Hp)(a:Addr)(ns:List Int),ns.length<=n->QBa H->SqL (K w.params) H a (ns.map V.int)->sp w [.ref a] H (λv _=>v=.bl true) λ_ _ _=>False)
  (hCX:∀(w:Q9)(H:Hp)(s:Shared)(e:Value)(s':Shared),CX w [] H s (λ_ _ _=>False) e s'->False) :
  PySem.W.WalkO q loose XP YP l.row.toRowW d [] (λf vs=>PySem.call f vs):=by
 refine Att.QjV hn hdf λw s₀ s₁ mg mb fa o pm cd doc a vs ns G Y ho hd hcd hmg hobj hints hlen hg=>?_
 have KX:=hY w _ Y;obtain⟨fd,hb,hF⟩:=F w mg fa _ KX G.T.g hmg;exact Qry KX G.T.g G.T.b G.T.builtins G.T.nolimit hg hobj hints (Q1 hlen hn2) hr hF hb (λH hO hS=>hsp w H a ns hlen hO hS) λH e s'=>hCX w H s₁ e s'
def J1(s:Qad):Arguments:=match s with
 |.FunctionDef _ a _ _ _ _ _ _ _ _=>a
 |_=>{ posonlyargs:=[],args:=[],vararg:=none,kwonlyargs:=[],kw_defaults:=[],kwarg:=none,defaults:=[] }
def JO(s:Qad):List Qad:=match s with
 |.FunctionDef _ _ b _ _ _ _ _ _ _=>b
 |_=>[]
def QD(s:Qad):YC:=match s with
 |.FunctionDef _ _ _ _ _ _ sc _ _ _=>sc
 |_=>{ kind:=.function,names:=[],isGenerator:=false,isCoroutine:=false }
abbrev CX0:CXT:=λ_ _ _ _ _ _=>False
abbrev E0:XK:=λ_ _ _=>False
structure Fun (K:PySem.W.Frag) (x qual:Str) (st:Qad) (f:Addr) (fd:Q2):Prop where
 ex:∃(oc:Value)(od:Option Addr)(kV doc pm:Value)(an:Option Addr)(cdv ct:Value)(osl:Array (Option Value)),
  fd=PySem.W.fnOf x qual (J1 st) (JO st) (QD st) .none kV doc pm an cdv ct/\K.lookup f=some ⟨oc,od,.func fd,osl⟩/\PySem.W.codeIn K cdv qual=true
 kp:PySem.W.keepIn K (.ref f)=true
section
variable{P:QC}{w:Q9}{K:PySem.W.Frag}{mg:Str->Option Value}{base:Heap}
theorem Fun.ok{x qual:Str}{st:Qad}{f:Addr}{fd:Q2}{N ps:List Str}{k:Nat}{sp:Sp}(F:Fun K x qual st f fd)(S:JV N ps (QD st))(len:∀vs H Q E,sp vs H Q E->vs.length=ps.length)
  (hbody:∀(cdv:Value)(A:Q5)(outer:List Env)(s:Shared)(H:Hp)(vs:List V)(Q:VK)(E:XK),Room k (A.deeper (envOfC qual (QD st) s.heap.objs.size f cdv))->sp vs H Q E ->
   ∃t,PSs (QoV CX0 P w K mg base N qual (QD st) f cdv A outer s H E).nox (JO st) t/\t { nx:=λ_ H'=>Q .non H',rt:=Q } (start N vs) H):FnOk P w K mg base CX0 (k+1) f fd ps sp:=by
 obtain⟨oc,od,kV,doc,pm,an,cdv,ct,osl,rfl,lk,hcd⟩:=F.ex;refine QAW lk hcd S len λA outer s H vs Q E hr hsp=>?_
 obtain⟨t,h,q⟩:=hbody cdv A outer s H vs Q E hr hsp;exact⟨t,h.nox,q⟩
theorem Fun.binds{x qual:Str}{st:Qad}{f:Addr}{fd:Q2}{ps:List Str}(F:Fun K x qual st f fd)
  (h:∀(kV doc pm:Value)(an:Option Addr)(cdv ct:Value)(us:List Value),us.length=ps.length->bindArgs (PySem.W.fnOf x qual (J1 st) (JO st) (QD st) .none kV doc pm an cdv ct) ⟨us,[]⟩=pure (ps.zip us)):Binds K fd ps []:=by
 obtain⟨oc,od,kV,doc,pm,an,cdv,ct,osl,rfl,lk,hcd⟩:=F.ex;exact .all (h kV doc pm an cdv ct)
theorem Z2{x qual:Str}{st:Qad}{f:Addr}{oc:Value}{od an:Option Addr}{osl:Array (Option Value)}{kV doc pm cdv ct:Value}(l:K.lookup f=some ⟨oc,od,.func (PySem.W.fnOf x qual (J1 st) (JO st) (QD st) .none kV doc pm an cdv ct),osl⟩)
  (c:PySem.W.codeIn K cdv qual=true)(k:PySem.W.keepIn K (.ref f)=true):Fun K x qual st f (PySem.W.fnOf x qual (J1 st) (JO st) (QD st) .none kV doc pm an cdv ct):=⟨⟨oc,od,kV,doc,pm,an,cdv,ct,osl,rfl,l,c⟩,k⟩
end
section
variable{X:Cx}
theorem pv(i:Nat){x:Str}{pos:Pos}(hN:X.N[i]? = some x:=by rfl)(hv:Vis X.env.scope x:=by first | exact Ju rfl | exact Jl (Ju rfl) | exact Jl (Jl rfl))(hd:(x == ("__debug__" : Str))=false:=by decide)
  (hcd:(x == ("__classdict__" : Str))=false:=by decide):PE X (.Name x pos) (Qo9 i):=Qxg hN hv hd hcd
end
theorem QAN{A B:Prop}(h:B):if false=true then A else B:=by
 rw[if_neg QK];exact h
theorem Qzl{A B:Prop}(h:A):if true=true then A else B:=by
 rw[if_pos rfl];exact h
theorem QCc{c A B:Prop}[Decidable c](h1:c->A)(h2:¬c->B):if c then A else B:=by
 by_cases h:c
 ·rw[if_pos h];exact h1 h
 ·rw[if_neg h];exact h2 h
def Same(H H':Hp):Prop:=∀b o,H b=some o->H' b=some o
theorem Same.refl(H:Hp):Same H H:=λ_ _ h=>h
theorem Same.trans{H H1 H2:Hp}(a:Same H H1)(b:Same H1 H2):Same H H2:=λc o h=>b c o (a c o h)
theorem Same.free{H H':Hp}(e:Same H H'){l:Addr}(h:H' l=Qy5):H l=Qy5:=by
 cases q:H l with
 |none=>rfl
 |some o=>
  rw[e l o q] at h;cases h
theorem Same.seq{K:PySem.W.Frag}{H H':Hp}{a:Addr}{xs:List V}(e:Same H H')(h:SqL K H a xs):SqL K H' a xs:=by
 rcases h with(h | ⟨o,h⟩) | h
 ·exact .inl (.inl (e _ _ h))
 ·exact .inl (.inr ⟨o,e _ _ h⟩)
 ·exact .inr h
end L2
set_option maxHeartbeats 4000000
namespace Rt
def Qcg:Bool->Keyed->Array Keyed->Nat->Nat->Nat->StateT J4 Sem (Option Nat):=sortPriv% PySem.Builtin.gallop
theorem QlN(lf:Bool)(kk:Keyed)(xs:Array Keyed)(b n h:Nat):Qcg lf kk xs b n h=(do
 let bey (z:Nat):StateT J4 Sem (Option Bool):=do
  let x <- elem' xs (b+z)
  if lf then lt' x kk else return (<- lt' kk x).map (!·)
 let mut l0:=0
 let mut o0:=1
 let mut u:=0
 let mut v:=0
 let some r0 <- bey h | return none
 if r0 then
  let mo:=n - h
  for _ in [0:n] do
   if o0≥mo then break
   let some r1 <- bey (h+o0) | return none
   if !r1 then break
   l0:=o0
   o0:=2*o0+1
  u:=h+l0+1
  v:=h+min o0 mo
 else
  let mo:=h+1
  for _ in [0:n] do
   if o0≥mo then break
   let some r1 <- bey (h - o0) | return none
   if r1 then break
   l0:=o0
   o0:=2*o0+1
  u:=h+1 - min o0 mo
  v:=h - l0
 for _ in [0:n] do
  if u≥v then break
  let m:=u+(v - u) / 2
  let some r1 <- bey m | return none
  if r1 then u:=m+1 else v:=m
 return some v):=rfl
structure Ord (c:Keyed->Keyed->Bool):Prop where
 asym:∀x y,c x y=true->c y x=false
 trans:∀x y z,c y x=false->c z y=false->c z x=false
abbrev le (c:Keyed->Keyed->Bool) (x y:Keyed):Prop:=c y x=false
section
variable{c:Keyed->Keyed->Bool}
theorem Ord.irr(o:Ord c)(x:Keyed):c x x=false:=by
 cases h:c x x with
 |false=>rfl
 |true=>rw[o.asym x x h] at h;cases h
theorem Ord.tr(o:Ord c){x y z:Keyed}(a:le c x y)(b:le c y z):le c x z:=o.trans x y z a b
theorem Ord.lt_le(o:Ord c){x y:Keyed}(a:c x y=true):le c x y:=o.asym x y a
theorem Ord.tr_lt(o:Ord c){x y z:Keyed}(a:le c x y)(b:c y z=true):c x z=true:=by
 cases h:c x z with
 |true=>rfl
 |false=>rw[show c y z=false from o.trans z x y h a] at b;cases b
end
def kx(xs:Array Keyed)(i:Nat):Keyed:=(xs[i]?).getD (Ze,Ze)
theorem Qvd{xs:Array Keyed}{i:Nat}(h:i<xs.size):xs[i]? = some (kx xs i):=by
 unfold kx;rw[getElem?_pos xs i h];rfl
theorem QjF{xs ys:Array Keyed}{i j:Nat}(h:xs[i]? = ys[j]?):kx xs i=kx ys j:=by unfold kx;rw[h]
def Sg(c:Keyed->Keyed->Bool)(xs:Array Keyed)(lo hi:Nat):Prop:=∀i j,lo<=i->i<=j->j<hi->le c (kx xs i) (kx xs j)
structure Asks (prog:QC) (w:Q9) (A:Q5) (s:Shared) (κ:Yt) (a₀:Array Keyed) (c:Keyed->Keyed->Bool):Prop where
 ord:Ord c
 lt:∀x y,x∈a₀.toList->y∈a₀.toList->∀(C:Bool->Shared->Prop)(E':Value->Shared->Prop),C (c x y) s->wpAny (model prog w) A (keyLt' κ x.1 y.1) C E' s
structure SB (κ:Yt) (a₀:Array Keyed) (st:J4):Prop where
 perm:(arrOf st).Perm a₀
 kind:kindOf st=κ
 failed:failedOf st=none
theorem SB.size{κ:Yt}{a₀:Array Keyed}{st:J4}(h:SB κ a₀ st):(arrOf st).size=a₀.size:=h.perm.size_eq
theorem SB.mem{κ:Yt}{a₀:Array Keyed}{st:J4}(h:SB κ a₀ st){p:Keyed}(e:p∈(arrOf st).toList):p∈a₀.toList:=(Zz.mp h.perm).mem_iff.mp e
theorem QeK{xs:Array Keyed}{i:Nat}(h:i<xs.size):kx xs i∈xs.toList:=ZU.mpr (YY (Qvd h))
section
variable{prog:QC}{w:Q9}{A:Q5}{E:Value->Shared->Prop}{s:Shared}{a₀:Array Keyed}{κ:Yt}{c:Keyed->Keyed->Bool}
theorem QhP{st:J4}{x y:Keyed}{Q:Option Bool->J4->Prop}(hA:Asks prog w A s κ a₀ c)(hk:kindOf st=κ)(hx:x∈a₀.toList)(hy:y∈a₀.toList)(h:Q (some (c x y)) st):wpS (model prog w) A E s (lt' x y) Q st:=by
 rw[lt'_eq];refine Qj (QcG ?_);rw[hk];refine Qj (Qex (Qdd (hA.lt x y hx hy _ _ ⟨rfl,?_⟩)));exact Qk h
theorem Q3{st:J4}{arr:Array Keyed}{i:Nat}{Q:Keyed->J4->Prop}(hi:i<arr.size)(h:Q (kx arr i) st):wpS (model prog w) A E s (elem' arr i) Q st:=by
 rw[elem'_eq,Qvd hi];exact Qk h
theorem QeW{st:J4}{i j:Nat}{Q:Option Bool->J4->Prop}(hA:Asks prog w A s κ a₀ c)(hB:SB κ a₀ st)(hi:i<a₀.size)(hj:j<a₀.size)(h:Q (some (c (kx (arrOf st) i) (kx (arrOf st) j))) st):wpS (model prog w) A E s (ltAt' i j) Q st:=by
 have h1:i<(arrOf st).size:=by rw[hB.size];exact hi
 have h2:j<(arrOf st).size:=by rw[hB.size];exact hj
 rw[ltAt'_eq];refine Qj (QcG ?_);refine Qj (Q3 h1 ?_);refine Qj (Q3 h2 ?_);exact QhP hA hB.kind (hB.mem (QeK h1)) (hB.mem (QeK h2)) h
def Qc8(c:Keyed->Keyed->Bool)(lf:Bool)(kk:Keyed)(xs:Array Keyed)(i:Nat):Bool:=if lf then c (kx xs i) kk else !c kk (kx xs i)
theorem Qr4(o:Ord c){lf:Bool}{kk:Keyed}{xs:Array Keyed}{b n:Nat}(sg:Sg c xs b (b+n)){i j:Nat}(hij:i<=j)(hj:j<n)(h:Qc8 c lf kk xs (b+j)=true):Qc8 c lf kk xs (b+i)=true:=by
 have l:=sg (b+i) (b+j) (by omega) (by omega) (by omega);unfold Qc8 at h ⊢;cases lf with
 |true=>exact o.tr_lt l h
 |false=>
  simp only[JI,if_false,Bool.not_eq_true'] at h ⊢;exact o.tr l h
theorem ZK{st:J4}{lf:Bool}{kk:Keyed}{xs:Array Keyed}{b n hint:Nat}{Q:Option Nat->J4->Prop}(hA:Asks prog w A s κ a₀ c)(hk:kindOf st=κ)(hkey:kk∈a₀.toList)(harr:∀p∈xs.toList,p∈a₀.toList)(hb:b+n<=xs.size)(hh:hint<n)(sg:Sg c xs b (b+n))
  (h:∀k,k<=n->(∀i,i<k->Qc8 c lf kk xs (b+i)=true)->(∀i,k<=i->i<n->Qc8 c lf kk xs (b+i)=false)->Q (some k) st):wpS (model prog w) A E s (Qcg lf kk xs b n hint) Q st:=by
 have bey:∀(i:Nat)(Q':Option Bool->J4->Prop),i<n->Q' (some (Qc8 c lf kk xs (b+i))) st->wpS (model prog w) A E s (do
   let x <- elem' xs (b+i)
   if lf then lt' x kk else return (<- lt' kk x).map (!·)) Q' st:=λi Q' hi hq=>by
  have hs:b+i<xs.size:=by omega
  refine Qj (Q3 hs ?_);have pm:=harr _ (QeK hs);unfold Qc8 at hq;cases lf with
  |true=>exact QhP hA hk pm hkey hq
  |false=>exact Qj (QhP hA hk hkey pm (Qk hq))
 have mono:∀{i j:Nat},i<=j->j<n->Qc8 c lf kk xs (b+j)=true->Qc8 c lf kk xs (b+i)=true:=λhij hj h=>Qr4 hA.ord sg hij hj h
 have monoF:∀{i j:Nat},i<=j->j<n->Qc8 c lf kk xs (b+i)=false->Qc8 c lf kk xs (b+j)=false:=λ{i j} hij hj h=>by
  cases e:Qc8 c lf kk xs (b+j) with
  |false=>rfl
  |true=>rw[mono hij hj e] at h;cases h
 rw[QlN]
 dsimp only
 refine Qj (bey hint _ hh ?_);cases hr:Qc8 c lf kk xs (b+hint) with
 |true=>
  dsimp only
  rw[if_pos rfl];refine Qj (YK (J3 (I:=λx z st'=>st'=st/\∃l o,z=(none,l,o)/\l<o/\x+1<=o/\hint+l<n/\Qc8 c lf kk xs (b+(hint+l))=true)
   (Q:=λz st'=>st'=st/\∃l o,z=(none,l,o)/\l<o/\hint+l<n/\Qc8 c lf kk xs (b+(hint+l))=true/\(hint+o<n->Qc8 c lf kk xs (b+(hint+o))=false)) ?step ?fin ⟨rfl,0,1,rfl,by omega,by omega,by omega,hr⟩) ?post)
  case fin=>
   rintro z st' ⟨rfl,l,o,rfl,h1,h2,h3,h4⟩;exact⟨rfl,l,o,rfl,h1,h3,h4,λh5=>by omega⟩
  case step=>
   rintro x z st' _ hx ⟨rfl,l,o,rfl,h1,h2,h3,h4⟩
   dsimp only
   by_cases g:o≥n - hint
   ·rw[if_pos g];exact Qk ⟨rfl,l,o,rfl,h1,h3,h4,λh5=>by omega⟩
   ·rw[if_neg g];refine Qj (bey (hint+o) _ (by omega) ?_);cases e:Qc8 c lf kk xs (b+(hint+o)) with
    |true=>exact Qk ⟨rfl,o,2*o+1,rfl,by omega,by omega,by omega,e⟩
    |false=>exact Qk ⟨rfl,l,o,rfl,h1,h3,h4,λ_=>e⟩
  case post=>
   rintro z st' ⟨rfl,l,o,rfl,h1,h3,h4,h5⟩
   dsimp only
   refine Qj (YK (J3 (I:=λx z st''=>st''=st'/\∃u v,z=(none,u,v)/\v<=n/\u<=v/\v - u<=n - x/\(∀i,i<u->Qc8 c lf kk xs (b+i)=true)/\(∀i,v<=i->i<n->Qc8 c lf kk xs (b+i)=false))
    (Q:=λz st''=>st''=st'/\∃v,z=(none,v,v)/\v<=n/\(∀i,i<v->Qc8 c lf kk xs (b+i)=true)/\(∀i,v<=i->i<n->Qc8 c lf kk xs (b+i)=false)) ?step2 ?fin2 ?init2) ?post2)
   case init2=>
    refine⟨rfl,_,_,rfl,by omega,by omega,by omega,λi hi=>mono (by omega) h3 h4,λi hi hn=>?_⟩;exact monoF (i:=hint+o) (by omega) hn (h5 (by omega))
   case fin2=>
    rintro z st'' ⟨rfl,u,v,rfl,g1,g2,g3,g4,g5⟩;have:u=v:=by omega
    subst this;exact⟨rfl,u,rfl,g1,g4,g5⟩
   case step2=>
    rintro x z st'' _ hx ⟨rfl,u,v,rfl,g1,g2,g3,g4,g5⟩
    dsimp only
    by_cases g:u≥v
    ·rw[if_pos g];have:u=v:=by omega
     subst this;exact Qk ⟨rfl,u,rfl,g1,g4,g5⟩
    ·rw[if_neg g];refine Qj (bey (u+(v - u) / 2) _ (by omega) ?_);cases e:Qc8 c lf kk xs (b+(u+(v - u) / 2)) with
     |true=>exact Qk ⟨rfl,_,_,rfl,g1,by omega,by omega,λi hi=>mono (by omega) (by omega) e,g5⟩
     |false=>exact Qk ⟨rfl,_,_,rfl,by omega,by omega,by omega,g4,λi hi hn=>monoF hi hn e⟩
   case post2=>
    rintro z st'' ⟨rfl,v,rfl,g1,g4,g5⟩;exact Qk (h v g1 g4 g5)
 |false=>
  dsimp only
  rw[if_neg (by decide)];refine Qj (YK (J3 (I:=λx z st'=>st'=st/\∃l o,z=(none,l,o)/\l<o/\x+1<=o/\l<=hint/\Qc8 c lf kk xs (b+(hint - l))=false)
   (Q:=λz st'=>st'=st/\∃l o,z=(none,l,o)/\l<o/\l<=hint/\Qc8 c lf kk xs (b+(hint - l))=false/\(o<=hint->Qc8 c lf kk xs (b+(hint - o))=true)) ?step ?fin ⟨rfl,0,1,rfl,by omega,by omega,by omega,hr⟩) ?post)
  case fin=>
   rintro z st' ⟨rfl,l,o,rfl,h1,h2,h3,h4⟩;exact⟨rfl,l,o,rfl,h1,h3,h4,λh5=>by omega⟩
  case step=>
   rintro x z st' _ hx ⟨rfl,l,o,rfl,h1,h2,h3,h4⟩
   dsimp only
   by_cases g:o≥hint+1
   ·rw[if_pos g];exact Qk ⟨rfl,l,o,rfl,h1,h3,h4,λh5=>by omega⟩
   ·rw[if_neg g];refine Qj (bey (hint - o) _ (by omega) ?_);cases e:Qc8 c lf kk xs (b+(hint - o)) with
    |false=>exact Qk ⟨rfl,o,2*o+1,rfl,by omega,by omega,by omega,e⟩
    |true=>exact Qk ⟨rfl,l,o,rfl,h1,h3,h4,λ_=>e⟩
  case post=>
   rintro z st' ⟨rfl,l,o,rfl,h1,h3,h4,h5⟩
   dsimp only
   refine Qj (YK (J3 (I:=λx z st''=>st''=st'/\∃u v,z=(none,u,v)/\v<=n/\u<=v/\v - u<=n - x/\(∀i,i<u->Qc8 c lf kk xs (b+i)=true)/\(∀i,v<=i->i<n->Qc8 c lf kk xs (b+i)=false))
    (Q:=λz st''=>st''=st'/\∃v,z=(none,v,v)/\v<=n/\(∀i,i<v->Qc8 c lf kk xs (b+i)=true)/\(∀i,v<=i->i<n->Qc8 c lf kk xs (b+i)=false)) ?step2 ?fin2 ?init2) ?post2)
   case init2=>
    refine⟨rfl,_,_,rfl,by omega,by omega,by omega,λi hi=>?_,λi hi hn=>monoF hi hn h4⟩;exact mono (j:=hint - o) (by omega) (by omega) (h5 (by omega))
   case fin2=>
    rintro z st'' ⟨rfl,u,v,rfl,g1,g2,g3,g4,g5⟩;have:u=v:=by omega
    subst this;exact⟨rfl,u,rfl,g1,g4,g5⟩
   case step2=>
    rintro x z st'' _ hx ⟨rfl,u,v,rfl,g1,g2,g3,g4,g5⟩
    dsimp only
    by_cases g:u≥v
    ·rw[if_pos g];have:u=v:=by omega
     subst this;exact Qk ⟨rfl,u,rfl,g1,g4,g5⟩
    ·rw[if_neg g];refine Qj (bey (u+(v - u) / 2) _ (by omega) ?_);cases e:Qc8 c lf kk xs (b+(u+(v - u) / 2)) with
     |true=>exact Qk ⟨rfl,_,_,rfl,g1,by omega,by omega,λi hi=>mono (by omega) (by omega) e,g5⟩
     |false=>exact Qk ⟨rfl,_,_,rfl,by omega,by omega,by omega,g4,λi hi hn=>monoF hi hn e⟩
   case post2=>
    rintro z st'' ⟨rfl,v,rfl,g1,g4,g5⟩;exact Qk (h v g1 g4 g5)
structure Fb (κ:Yt) (a₀:Array Keyed) (lo:Nat) (st st':J4):Prop where
 sb:SB κ a₀ st'
 pend:pendingOf st'=pendingOf st
 low:∀k,k<lo->kx (arrOf st') k=kx (arrOf st) k
theorem Fb.refl{st:J4}{lo:Nat}(h:SB κ a₀ st):Fb κ a₀ lo st st:=⟨h,rfl,λ_ _=>rfl⟩
theorem QnK{xs:Array Keyed}{i j:Nat}(hj:j<=xs.size)(k:Nat):kx (mirror xs i j ((j - i) / 2)) k=if i<=k/\k<j then kx xs (i+j - 1 - k) else kx xs k:=by
 have e:=getElem?_mirror_all (i:=i) hj k
 by_cases h1:i<=k/\k<j
 ·rw[if_pos h1] at e ⊢;exact QjF e
 ·rw[if_neg h1] at e ⊢;exact QjF e
theorem Qca{st:J4}{i j lo:Nat}{st0:J4}{Q:Unit->J4->Prop}(fb:Fb κ a₀ lo st0 st)(hi:lo<=i)(hj:j<=a₀.size)
  (h:∀st',Fb κ a₀ lo st0 st'->(∀k,kx (arrOf st') k=if i<=k/\k<j then kx (arrOf st) (i+j - 1 - k) else kx (arrOf st) k)->Q () st'):wpS (model prog w) A E s (reverseSlice' i j) Q st:=by
 rw[reverseSlice'_eq];have km:∀k,kx (mirror (arrOf st) i j ((j - i) / 2)) k=if i<=k/\k<j then kx (arrOf st) (i+j - 1 - k) else kx (arrOf st) k:=λk=>QnK (by rw[fb.sb.size];exact hj) k
 refine QaO (h _ ⟨⟨(mirror_perm _ _ _ _).trans fb.sb.perm,fb.sb.kind,fb.sb.failed⟩,fb.pend,λk hk=>?_⟩ km);show kx (mirror (arrOf st) i j ((j - i) / 2)) k=_;rw[km,if_neg (by omega)];exact fb.low k hk
def QBN(lo a nr:Nat):StateT J4 Sem (Option (Option Nat)×Nat):=
 forIn [a:nr] ((none,a):Option (Option Nat)×Nat) λ_ z=>do
  let r <- ltAt' (lo+z.2) (lo+z.2 - 1)
  match r with
  |some b=>if b=true then pure (Qbq (none,z.2)) else pure (JY (none,z.2+1))
  |_=>pure (Qbq (some none,z.2))
theorem QeY{st:J4}{lo a nr:Nat}{Q:Option (Option Nat)×Nat->J4->Prop}(hA:Asks prog w A s κ a₀ c)(hn:lo+nr<=a₀.size)(h1:1<=a)(han:a<=nr)(hB:SB κ a₀ st)(sg:Sg c (arrOf st) lo (lo+a))
  (h:∀n,a<=n->n<=nr->Sg c (arrOf st) lo (lo+n)->(n=nr∨c (kx (arrOf st) (lo+n)) (kx (arrOf st) (lo+n - 1))=true)->Q (none,n) st):wpS (model prog w) A E s (QBN lo a nr) Q st:=by
 unfold QBN;refine J3 (I:=λx z st'=>st'=st/\z=(none,x)/\Sg c (arrOf st) lo (lo+x)) ?step ?fin ⟨rfl,rfl,sg⟩
 case fin=>
  rintro z st' ⟨rfl,rfl,hs⟩;rw[show max a nr=nr by omega] at hs ⊢;exact h nr han (Qh _) hs (.inl rfl)
 case step=>
  rintro x z st' hax hxn ⟨rfl,rfl,hs⟩
  dsimp only
  refine Qj (QeW hA hB (by omega) (by omega) ?_);cases e:c (kx (arrOf st') (lo+x)) (kx (arrOf st') (lo+x - 1)) with
  |true=>exact Qk (h x hax (by omega) hs (.inr e))
  |false=>
   refine Qk ⟨rfl,rfl,λi j hi hij hj=>?_⟩;by_cases z:j<lo+x
   ·exact hs i j hi hij z
   ·have zj:j=lo+x:=by omega
    subst zj;by_cases zi:i=lo+x
    ·subst zi;exact hA.ord.irr _
    ·exact hA.ord.tr (hs i (lo+x - 1) hi (by omega) (by omega)) e
def Ng(c:Keyed->Keyed->Bool)(xs:Array Keyed)(lo hi:Nat):Prop:=∀i j,lo<=i->i<=j->j<hi->le c (kx xs j) (kx xs i)
def Eqv(c:Keyed->Keyed->Bool)(x y:Keyed):Prop:=le c x y/\le c y x
theorem Eqv.ng(o:Ord c){xs ys:Array Keyed}{lo hi:Nat}(h:∀k,lo<=k->k<hi->Eqv c (kx ys k) (kx xs k))(n:Ng c xs lo hi):Ng c ys lo hi:=λi j hi' hij hj=>
 o.tr (h j (by omega) hj).1 (o.tr (n i j hi' hij hj) (h i hi' (by omega)).2)
theorem QgW(o:Ord c){xs ys:Array Keyed}{u v:Nat}(h:∀k,kx ys k=if u<=k/\k<v then kx xs (u+v - 1 - k) else kx xs k)(q:∀k,u<=k->k<v->Eqv c (kx xs k) (kx xs (v - 1)))(k:Nat):Eqv c (kx ys k) (kx xs k):=by
 rw[h k];split
 ·rename_i z
  have a:=q (u+v - 1 - k) (by omega) (by omega);have b:=q k z.1 z.2;exact⟨o.tr a.1 b.2,o.tr b.1 a.2⟩
 ·exact⟨o.irr _,o.irr _⟩
def Qyw(lo n nr:Nat):StateT J4 Sem (Option (Option Nat)×Nat×Nat):=
 forIn [n:nr] ((none,n,0):Option (Option Nat)×Nat×Nat) λ_ z=>do
  let r <- ltAt' (lo+z.2.1) (lo+z.2.1 - 1)
  match r with
  |some b=>
   if b=true then
    if z.2.2 > 0 then do
     reverseSlice' (lo+z.2.1 - (z.2.2+1)) (lo+z.2.1)
     pure (JY (none,z.2.1+1,0))
    else pure (JY (none,z.2.1+1,0))
   else do
    let r <- ltAt' (lo+z.2.1 - 1) (lo+z.2.1)
    match r with
    |some b=>
     if b=true then pure (Qbq (none,z.2.1,z.2.2))
     else pure (JY (none,z.2.1+1,z.2.2+1))
    |_=>pure (Qbq (some none,z.2.1,z.2.2))
  |_=>pure (Qbq (some none,z.2.1,z.2.2))
theorem Qe9(o:Ord c){xs:Array Keyed}{lo n:Nat}(h:Ng c xs lo (lo+n))(h1:1<=n)(l:le c (kx xs (lo+n)) (kx xs (lo+n - 1))):Ng c xs lo (lo+(n+1)):=λi j hi hij hj=>by
 by_cases z:j<lo+n
 ·exact h i j hi hij z
 ·have zj:j=lo+n:=by omega
  subst zj;by_cases zi:i=lo+n
  ·subst zi;exact o.irr _
  ·exact o.tr l (h i (lo+n - 1) hi (by omega) (by omega))
theorem Qj6{st st0:J4}{lo n nr:Nat}{Q:Option (Option Nat)×Nat×Nat->J4->Prop}(hA:Asks prog w A s κ a₀ c)(hn:lo+nr<=a₀.size)(h1:1<=n)(han:n<=nr)(fb:Fb κ a₀ lo st0 st)(ng:Ng c (arrOf st) lo (lo+n))
  (h:∀m q st',n<=m->m<=nr->Fb κ a₀ lo st0 st'->Ng c (arrOf st') lo (lo+m)->q+1<=m->(∀k,lo+m - (q+1)<=k->k<lo+m->Eqv c (kx (arrOf st') k) (kx (arrOf st') (lo+m - 1)))->Q (none,m,q) st'):wpS (model prog w) A E s (Qyw lo n nr) Q st:=by
 unfold Qyw;have ir:∀x,Eqv c x x:=λx=>⟨hA.ord.irr x,hA.ord.irr x⟩
 refine J3 (I:=λx z st'=>∃q,z=(none,x,q)/\Fb κ a₀ lo st0 st'/\Ng c (arrOf st') lo (lo+x)/\q+1<=x/\(∀k,lo+x - (q+1)<=k->k<lo+x->Eqv c (kx (arrOf st') k) (kx (arrOf st') (lo+x - 1)))) ?step ?fin
  ⟨0,rfl,fb,ng,h1,λk k1 k2=>by rw[show k=lo+n - 1 by omega];exact ir _⟩
 case fin=>
  rintro z st' ⟨q,rfl,f,g,g1,g2⟩;rw[show max n nr=nr by omega] at g g1 g2 ⊢;exact h nr q st' han (Qh _) f g g1 g2
 case step=>
  rintro x z st' hax hxn ⟨q,rfl,f,g,g1,g2⟩
  dsimp only
  refine Qj (QeW hA f.sb (by omega) (by omega) ?_);cases e:c (kx (arrOf st') (lo+x)) (kx (arrOf st') (lo+x - 1)) with
  |true=>
   dsimp only
   rw[if_pos rfl];by_cases zq:q > 0
   ·rw[if_pos zq];refine Qj (Qca f (by omega) (by omega) λst2 f2 km=>Qk ⟨0,rfl,f2,?_,by omega,λk k1 k2=>by rw[show k=lo+(x+1) - 1 by omega];exact ir _⟩);refine Eqv.ng hA.ord (xs:=arrOf st') (λk _ _=>QgW hA.ord km g2 k) (Qe9 hA.ord g (by omega) (hA.ord.lt_le e))
   ·rw[if_neg zq];exact Qk ⟨0,rfl,f,Qe9 hA.ord g (by omega) (hA.ord.lt_le e),by omega,λk k1 k2=>by rw[show k=lo+(x+1) - 1 by omega];exact ir _⟩
  |false=>
   dsimp only
   rw[if_neg (by decide)];refine Qj (QeW hA f.sb (by omega) (by omega) ?_);cases e2:c (kx (arrOf st') (lo+x - 1)) (kx (arrOf st') (lo+x)) with
   |true=>exact Qk (h x q st' hax (by omega) f g g1 g2)
   |false=>
    refine Qk ⟨q+1,rfl,f,Qe9 hA.ord g (by omega) e2,by omega,λk k1 k2=>?_⟩;rw[show lo+(x+1) - 1=lo+x by omega];by_cases zk:k=lo+x
    ·subst zk;exact ir _
    ·have a:=g2 k (by omega) (by omega);exact⟨hA.ord.tr a.1 e,hA.ord.tr e2 a.2⟩
theorem Qrn{xs ys:Array Keyed}{lo hi:Nat}(h:∀k,kx ys k=if lo<=k/\k<hi then kx xs (lo+hi - 1 - k) else kx xs k)(n:Ng c xs lo hi):Sg c ys lo hi:=λi j hi' hij hj=>by
 rw[h i,h j,if_pos (by omega),if_pos (by omega)];exact n _ _ (by omega) (by omega) (by omega)
theorem QgG{st:J4}{lo nr:Nat}{Q:Option Nat->J4->Prop}(hA:Asks prog w A s κ a₀ c)(hn:lo+nr<=a₀.size)(h1:1<=nr)(hB:SB κ a₀ st)
  (h:∀m st',Fb κ a₀ lo st st'->1<=m->m<=nr->Sg c (arrOf st') lo (lo+m)->Q (some m) st'):wpS (model prog w) A E s (countRun' lo nr) Q st:=by
 rw[countRun'_eq]
 dsimp only
 refine Qj (QeY (lo:=lo) (a:=1) (nr:=nr) hA hn (Qh _) h1 hB (λi j hi hij hj=>by rw[show i=j by omega];exact hA.ord.irr _) λn n1 n2 sg hor=>?_)
 dsimp only
 by_cases zn:n=nr
 ·rw[if_pos (by simpa using zn)];exact Qk (h n st (Fb.refl hB) n1 n2 sg)
 ·rw[if_neg (by simpa using zn)];have hlt:=hor.resolve_left zn;by_cases zg:n > 1
  ·rw[if_pos zg];refine Qj (QeW hA hB (by omega) (by omega) ?_);cases e:c (kx (arrOf st) lo) (kx (arrOf st) (lo+n - 1)) with
   |true=>exact Qk (h n st (Fb.refl hB) n1 n2 sg)
   |false=>
    have all:∀k,lo<=k->k<lo+n->Eqv c (kx (arrOf st) k) (kx (arrOf st) (lo+n - 1)):=λk k1 k2=>
     ⟨sg k (lo+n - 1) k1 (by omega) (by omega),hA.ord.tr e (sg lo k (Qh _) k1 k2)⟩
    dsimp only
    rw[if_neg (by decide)];refine Qj (Qca (Fb.refl hB) (Qh _) (by omega) λst2 f2 km=>?_);have ng2:Ng c (arrOf st2) lo (lo+(n+1)):=by
     refine Eqv.ng hA.ord (xs:=arrOf st) (λk k1 k2=>QgW hA.ord km all k) (Qe9 hA.ord (λi j i1 ij j1=>?_) n1 (hA.ord.lt_le hlt));have a:=all i i1 (by omega);have b:=all j (by omega) j1;exact hA.ord.tr b.1 a.2
    refine Qj (Qex (wpAny_rule ⟨rfl,?_⟩));refine Qj (Qj6 (lo:=lo) (n:=n+1) (nr:=nr) hA hn (by omega) (by omega) f2 (ng2) λm q st' m1 m2 f5 g g1 g2=>?_)
    dsimp only
    by_cases zq:q > 0
    ·rw[if_pos zq];refine Qj (Qca f5 (by omega) (by omega) λst3 f3 km3=>?_);refine Qj (Qca f3 (Qh _) (by omega) λst4 f4 km4=>?_);refine Qj (QeY (lo:=lo) (a:=m) (nr:=nr) hA hn (by omega) m2 f4.sb (Qrn km4 (Eqv.ng hA.ord (xs:=arrOf st') (λk _ _=>QgW hA.ord km3 g2 k) g)) λk k1 k2 sg4 _=>Qk (h k st4 f4 (by omega) k2 sg4))
    ·rw[if_neg zq];refine Qj (Qca f5 (Qh _) (by omega) λst4 f4 km4=>?_);refine Qj (QeY (lo:=lo) (a:=m) (nr:=nr) hA hn (by omega) m2 f4.sb (Qrn km4 (g)) λk k1 k2 sg4 _=>Qk (h k st4 f4 (by omega) k2 sg4))
  ·rw[if_neg zg];have z1:n=1:=by omega
   subst z1;refine Qj (Qex (wpAny_rule ⟨rfl,?_⟩));refine Qj (Qj6 (lo:=lo) (n:=1+1) (nr:=nr) hA hn (by omega) (by omega) (Fb.refl hB) (Qe9 hA.ord (λi j i1 ij j1=>by rw[show i=j by omega];exact hA.ord.irr _) n1 (hA.ord.lt_le hlt)) λm q st' m1 m2 f5 g g1 g2=>?_)
   dsimp only
   by_cases zq:q > 0
   ·rw[if_pos zq];refine Qj (Qca f5 (by omega) (by omega) λst3 f3 km3=>?_);refine Qj (Qca f3 (Qh _) (by omega) λst4 f4 km4=>?_);refine Qj (QeY (lo:=lo) (a:=m) (nr:=nr) hA hn (by omega) m2 f4.sb (Qrn km4 (Eqv.ng hA.ord (xs:=arrOf st') (λk _ _=>QgW hA.ord km3 g2 k) g)) λk k1 k2 sg4 _=>Qk (h k st4 f4 (by omega) k2 sg4))
   ·rw[if_neg zq];refine Qj (Qca f5 (Qh _) (by omega) λst4 f4 km4=>?_);refine Qj (QeY (lo:=lo) (a:=m) (nr:=nr) hA hn (by omega) m2 f4.sb (Qrn km4 (g)) λk k1 k2 sg4 _=>Qk (h k st4 f4 (by omega) k2 sg4))
theorem QnL{xs:Array Keyed}{src d:Nat}(hs:src<xs.size)(hd:d<=src)(k:Nat):kx (bubble xs src d) k=if k=src - d then kx xs src else if src - d<k/\k<=src then kx xs (k - 1) else kx xs k:=by
 have e:=getElem?_bubble hs d hd k
 by_cases h1:k=src - d
 ·rw[if_pos h1] at e ⊢;exact QjF e
 ·rw[if_neg h1] at e ⊢;by_cases h2:src - d<k/\k<=src
  ·rw[if_pos h2] at e ⊢;exact QjF e
  ·rw[if_neg h2] at e ⊢;exact QjF e
theorem QeX{st:J4}{lo n ok:Nat}{Q:Bool->J4->Prop}(hA:Asks prog w A s κ a₀ c)(hn:lo+n<=a₀.size)(h1:1<=ok)(hok:ok<=n)(hB:SB κ a₀ st)(sg:Sg c (arrOf st) lo (lo+ok))
  (h:∀st',Fb κ a₀ lo st st'->Sg c (arrOf st') lo (lo+n)->Q true st'):wpS (model prog w) A E s (binarySort' lo n ok) Q st:=by
 rw[binarySort'_eq];refine Qj (YK (J3 (I:=λk z st'=>z=(none,())/\Fb κ a₀ lo st st'/\Sg c (arrOf st') lo (lo+min k n)) (Q:=λz st'=>z=(none,())/\Fb κ a₀ lo st st'/\Sg c (arrOf st') lo (lo+n)) ?step ?fin ⟨rfl,Fb.refl hB,by rw[show min (max ok 1) n=ok by omega];exact sg⟩) ?post)
 case post=>
  rintro z st' ⟨rfl,f,g⟩;exact Qk (h st' f g)
 case fin=>
  rintro z st' ⟨rfl,f,g⟩;rw[show min (max (max ok 1) n) n=n by omega] at g;exact⟨rfl,f,g⟩
 case step=>
  rintro k z st' hak hkn ⟨rfl,f,g⟩;rw[show min k n=k by omega] at g;refine Qj (YK (J3 (I:=λx z st''=>st''=st'/\∃l r,z=(none,l,r)/\l<=r/\r<=k/\r - l<=k - x/\(∀i,i<l->le c (kx (arrOf st') (lo+i)) (kx (arrOf st') (lo+k)))/\(∀i,r<=i->i<k->le c (kx (arrOf st') (lo+k)) (kx (arrOf st') (lo+i))))
   (Q:=λz st''=>st''=st'/\∃l r,z=(none,l,r)/\l<=k/\(∀i,i<l->le c (kx (arrOf st') (lo+i)) (kx (arrOf st') (lo+k)))/\(∀i,l<=i->i<k->le c (kx (arrOf st') (lo+k)) (kx (arrOf st') (lo+i)))) ?istep ?ifin ⟨rfl,0,k,rfl,by omega,by omega,by omega,λi hi=>by omega,λi a b=>by omega⟩) ?ipost)
  case ifin=>
   rintro z st'' ⟨rfl,l,r,rfl,h1,h2,h3,h4,h5⟩;have:l=r:=by omega
   subst this;exact⟨rfl,l,l,rfl,h2,h4,h5⟩
  case istep=>
   rintro x z st'' _ hx ⟨rfl,l,r,rfl,h1,h2,h3,h4,h5⟩
   dsimp only
   by_cases zz:l≥r
   ·rw[if_pos zz];have:l=r:=by omega
    subst this;exact Qk ⟨rfl,l,l,rfl,h2,h4,h5⟩
   ·rw[if_neg zz];refine Qj (QeW hA f.sb (by omega) (by omega) ?_);cases e:c (kx (arrOf st'') (lo+k)) (kx (arrOf st'') (lo+(l+r) / 2)) with
    |true=>exact Qk ⟨rfl,_,_,rfl,by omega,by omega,by omega,h4,λi a b=>hA.ord.tr (hA.ord.lt_le e) (g _ _ (by omega) (by omega) (by omega))⟩
    |false=>exact Qk ⟨rfl,_,_,rfl,by omega,by omega,by omega,λi a=>hA.ord.tr (g (lo+i) (lo+(l+r) / 2) (by omega) (by omega) (by omega)) e,h5⟩
  case ipost=>
   rintro z st'' ⟨rfl,l,r,rfl,h2,h4,h5⟩
   dsimp only
   rw[moveDown'_eq];have hs:lo+k<(arrOf st'').size:=by rw[f.sb.size];omega
   have kb:∀j,kx (bubble (arrOf st'') (lo+k) (lo+k - (lo+l))) j=if j=lo+l then kx (arrOf st'') (lo+k) else if lo+l<j/\j<=lo+k then kx (arrOf st'') (j - 1) else kx (arrOf st'') j:=λj=>by
    rw[QnL hs (by omega),show lo+k - (lo+k - (lo+l))=lo+l by omega]
   refine Qj (QaO (Qk ⟨rfl,⟨⟨(bubble_perm _ _ _).trans f.sb.perm,f.sb.kind,f.sb.failed⟩,f.pend,λj hj=>?_⟩,λi j hi hij hj=>?_⟩))
   ·show kx (bubble (arrOf st'') (lo+k) (lo+k - (lo+l))) j=_;rw[kb,if_neg (by omega),if_neg (by omega)];exact f.low j hj
   ·show le c (kx (bubble (arrOf st'') (lo+k) (lo+k - (lo+l))) i) (kx (bubble (arrOf st'') (lo+k) (lo+k - (lo+l))) j);rw[kb,kb];have low:∀i,lo<=i->i<lo+l->le c (kx (arrOf st'') i) (kx (arrOf st'') (lo+k)):=λi a b=>by have:=h4 (i - lo) (by omega);rwa [show lo+(i - lo)=i by omega] at this
    have high:∀i,lo+l<=i->i<lo+k->le c (kx (arrOf st'') (lo+k)) (kx (arrOf st'') i):=λi a b=>by have:=h5 (i - lo) (by omega) (by omega);rwa [show lo+(i - lo)=i by omega] at this
    repeat' split
    all_goals first
     |(exfalso;omega)
     |exact hA.ord.irr _
     |exact low _ (by omega) (by omega)
     |exact high _ (by omega) (by omega)
     |exact g _ _ (by omega) (by omega) (by omega)
end
def YQ:Nat->StateT J4 Sem Unit:=sortPriv% PySem.Builtin.setMinGallop
theorem Qeu(g:Nat):YQ g=modify λz=>QzD (kindOf z) (arrOf z) (pendingOf z) g (failedOf z):=rfl
def Qg7:Array Keyed->Array Keyed->StateT J4 Sem (Array Keyed):=sortPriv% PySem.Builtin.mergeLo
def Qg8:Array Keyed->Array Keyed->StateT J4 Sem (Array Keyed):=sortPriv% PySem.Builtin.mergeHi
theorem Qjz(a b:Array Keyed):Qg7 a b=(do
 rule "list.sort.merge-lo"
 let tot:=a.size+b.size
 let dn (r:Array Keyed) (i j:Nat):=r++a.extract i a.size++b.extract j b.size
 let la (r:Array Keyed) (i j:Nat):=r++b.extract j b.size++a.extract i a.size
 let mut r:Array Keyed:=#[<- elem' b 0]
 let mut i:=0
 let mut j:=1
 if j == b.size then return dn r i j
 if i+1 == a.size then return la r i j
 let mut mg:=gallopOf (<- get)
 for _ in [0:tot] do
  let mut p:=0
  let mut q:=0
  for _ in [0:tot] do
   let some t <- lt' (<- elem' b j) (<- elem' a i) | return dn r i j
   if t then
    r:=r.push (<- elem' b j);j:=j+1;q:=q+1;p:=0
    if j == b.size then return dn r i j
    if q≥mg then break
   else
    r:=r.push (<- elem' a i);i:=i+1;p:=p+1;q:=0
    if i+1 == a.size then return la r i j
    if p≥mg then break
  rule "list.sort.gallop"
  mg:=mg+1
  for _ in [0:tot] do
   if mg > 1 then mg:=mg - 1
   YQ mg
   let some k <- Qcg false (<- elem' b j) a i (a.size - i) 0 | return dn r i j
   p:=k
   if k > 0 then
    r:=r++a.extract i (i+k);i:=i+k
    if i+1 == a.size then return la r i j
    if i == a.size then return dn r i j
   r:=r.push (<- elem' b j);j:=j+1
   if j == b.size then return dn r i j
   let some k <- Qcg true (<- elem' a i) b j (b.size - j) 0 | return dn r i j
   q:=k
   if k > 0 then
    r:=r++b.extract j (j+k);j:=j+k
    if j == b.size then return dn r i j
   r:=r.push (<- elem' a i);i:=i+1
   if i+1 == a.size then return la r i j
   if p<7&&q<7 then break
  mg:=mg+1
  YQ mg
 unsupported "internal:list.sort.merge-bound"):=rfl
section
variable{c:Keyed->Keyed->Bool}
abbrev Pw (c:Keyed->Keyed->Bool) (l:List Keyed):Prop:=l.Pairwise (le c)
theorem QsZ{r ch x y:List Keyed}(h1:Pw c (r++(ch++x)))(h2:Pw c (r++y))(h:∀u∈ch,∀v∈y,le c u v):Pw c ((r++ch)++x)/\Pw c ((r++ch)++y):=by
 have h1':Pw c ((r++ch)++x):=by rw[QQ];exact h1
 refine⟨h1',?_⟩;have g:=Jd.mp h1';have g2:=Jd.mp h2;refine Jd.mpr ⟨g.1,g2.2.1,λu hu v hv=>?_⟩;rcases Jb.mp hu with z | z
 ·exact g2.2.2 u z v hv
 ·exact h u z v hv
theorem QaQ{xs:Array Keyed}{i:Nat}(h:i<xs.size):xs.toList[i]? = some (kx xs i):=by rw[Q0];exact Qvd h
theorem Qoa{xs:Array Keyed}{i:Nat}(h:i<xs.size):xs.toList.drop i=kx xs i::xs.toList.drop (i+1):=by
 have hl:i<xs.toList.length:=by rw[Qd];exact h
 rw[Qap hl];have:=QaQ h;rw[Qo hl] at this;rw[Qt this]
theorem QbP{xs:Array Keyed}{i:Nat}{p:Keyed}(h:p∈xs.toList.drop i):∃k,i<=k/\k<xs.size/\p=kx xs k:=by
 obtain⟨n,hn⟩:=Ji.mp h;rw[YM] at hn;have hl:=(Jq.mp hn).1;rw[Qd] at hl;rw[QaQ hl] at hn;exact⟨i+n,by omega,hl,(Qt hn).symm⟩
theorem QeN(xs:Array Keyed)(i k:Nat):(xs.extract i (i+k)).toList=(xs.toList.drop i).take k:=by
 rw[Qba,Qao,Nat.add_sub_cancel_left]
theorem Qd2(xs:Array Keyed)(i:Nat):(xs.extract i xs.size).toList=xs.toList.drop i:=by
 rw[Qba,Qao,QaP (by rw[YA,Qd];exact Qh _)]
theorem Qfa{xs:Array Keyed}{i k:Nat}{p:Keyed}(h:p∈(xs.toList.drop i).take k):∃t,t<k/\i+t<xs.size/\p=kx xs (i+t):=by
 obtain⟨n,hn⟩:=Ji.mp h;rw[Qey] at hn;split at hn
 ·rename_i z
  rw[YM] at hn;have hl:=(Jq.mp hn).1;rw[Qd] at hl;rw[QaQ hl] at hn;exact⟨n,z,hl,(Qt hn).symm⟩
 ·cases hn
structure MI (c:Keyed->Keyed->Bool) (a b r:Array Keyed) (i j:Nat):Prop where
 ha:Pw c (r.toList++a.toList.drop i)
 hb:Pw c (r.toList++b.toList.drop j)
 pm:(r.toList++(a.toList.drop i++b.toList.drop j)).Perm (a.toList++b.toList)
def Out(c:Keyed->Keyed->Bool)(a b z:Array Keyed):Prop:=Pw c z.toList/\z.toList.Perm (a.toList++b.toList)
variable{a b r:Array Keyed}{i j k:Nat}
theorem MI.chA(m:MI c a b r i j)(h:∀t,t<k->i+t<a.size->∀n,j<=n->n<b.size->le c (kx a (i+t)) (kx b n)):MI c a b (r++a.extract i (i+k)) (i+k) j:=by
 have e:a.toList.drop i=(a.toList.drop i).take k++a.toList.drop (i+k):=by rw[<- QiU,Jg]
 have e2:(r++a.extract i (i+k)).toList=r.toList++(a.toList.drop i).take k:=by rw[JC,QeN]
 have h1:=m.ha;have pm:=m.pm;rw[e] at h1 pm;obtain⟨g1,g2⟩:=QsZ h1 m.hb λu hu v hv=>by
  obtain⟨t,t1,t2,rfl⟩:=Qfa hu;obtain⟨n,n1,n2,rfl⟩:=QbP hv;exact h t t1 t2 n n1 n2
 refine⟨by rw[e2];exact g1,by rw[e2];exact g2,?_⟩;rw[e2,QQ,<- QQ ((a.toList.drop i).take k)];exact pm
theorem MI.chB(m:MI c a b r i j)(h:∀t,t<k->j+t<b.size->∀n,i<=n->n<a.size->le c (kx b (j+t)) (kx a n)):MI c a b (r++b.extract j (j+k)) i (j+k):=by
 have e:b.toList.drop j=(b.toList.drop j).take k++b.toList.drop (j+k):=by rw[<- QiU,Jg]
 have e2:(r++b.extract j (j+k)).toList=r.toList++(b.toList.drop j).take k:=by rw[JC,QeN]
 have h1:=m.hb;have pm:=m.pm;rw[e] at h1 pm;obtain⟨g1,g2⟩:=QsZ h1 m.ha λu hu v hv=>by
  obtain⟨t,t1,t2,rfl⟩:=Qfa hu;obtain⟨n,n1,n2,rfl⟩:=QbP hv;exact h t t1 t2 n n1 n2
 refine⟨by rw[e2];exact g2,by rw[e2];exact g1,?_⟩;rw[e2,QQ];refine Qa0 (YE _ ?_) pm;rw[<- QQ,<- QQ];exact Qay _ Yc
theorem Qkt{xs:Array Keyed}{i:Nat}(h:i<xs.size):r.push (kx xs i)=r++xs.extract i (i+1):=by
 apply QfC.mp
 rw[Qb6,JC,QeN,Qoa h];rfl
theorem MI.puA(m:MI c a b r i j)(hi:i<a.size)(h:∀n,j<=n->n<b.size->le c (kx a i) (kx b n)):MI c a b (r.push (kx a i)) (i+1) j:=by
 rw[Qkt hi];refine m.chA λt t1 t2=>?_
 have:t=0:=by omega
 subst this;exact h
theorem MI.puB(m:MI c a b r i j)(hj:j<b.size)(h:∀n,i<=n->n<a.size->le c (kx b j) (kx a n)):MI c a b (r.push (kx b j)) i (j+1):=by
 rw[Qkt hj];refine m.chB λt t1 t2=>?_
 have:t=0:=by omega
 subst this;exact h
theorem MI.dnB(m:MI c a b r i j)(hj:j=b.size):Out c a b (r++a.extract i a.size++b.extract j b.size):=by
 have e:b.toList.drop j=[]:=YI (by rw[Qd];omega);have e2:(r++a.extract i a.size++b.extract j b.size).toList=r.toList++a.toList.drop i:=by rw[JC,JC,Qd2,Qd2,e,JX]
 have pm:=m.pm;rw[e,JX] at pm;exact⟨by rw[e2];exact m.ha,by rw[e2];exact pm⟩
theorem MI.dnA(m:MI c a b r i j)(hi:i=a.size):Out c a b (r++a.extract i a.size++b.extract j b.size):=by
 have e:a.toList.drop i=[]:=YI (by rw[Qd];omega);have e2:(r++a.extract i a.size++b.extract j b.size).toList=r.toList++b.toList.drop j:=by rw[JC,JC,Qd2,Qd2,e,JX]
 have pm:=m.pm;rw[e,Qda] at pm;exact⟨by rw[e2];exact m.hb,by rw[e2];exact pm⟩
theorem MI.last(m:MI c a b r i j)(hi:i+1=a.size)(p2:∀k,k<b.size->le c (kx b k) (kx a (a.size - 1))):Out c a b (r++b.extract j b.size++a.extract i a.size):=by
 have e2:(r++b.extract j b.size++a.extract i a.size).toList=(r.toList++b.toList.drop j)++a.toList.drop i:=by rw[JC,JC,Qd2,Qd2]
 have g:=Jd.mp m.ha;refine⟨by
  rw[e2];refine Jd.mpr ⟨m.hb,g.2.1,λu hu v hv=>?_⟩;rcases Jb.mp hu with z | z
  ·exact g.2.2 u z v hv
  ·obtain⟨n,n1,n2,rfl⟩:=QbP hv;obtain⟨n',n3,n4,rfl⟩:=QbP z;rw[show n=a.size - 1 by omega];exact p2 n' n4,?_⟩
 rw[e2,QQ];exact Qa0 (YE _ Yc) m.pm
end
structure Sm (st st':J4):Prop where
 kind:kindOf st'=kindOf st
 arr:arrOf st'=arrOf st
 pend:pendingOf st'=pendingOf st
 failed:failedOf st'=failedOf st
theorem Sm.refl(st:J4):Sm st st:=⟨rfl,rfl,rfl,rfl⟩
section
variable{prog:QC}{w:Q9}{A:Q5}{E:Value->Shared->Prop}{s:Shared}{a₀:Array Keyed}{κ:Yt}{c:Keyed->Keyed->Bool}
theorem QfP{st st0:J4}{g:Nat}{Q:Unit->J4->Prop}(m:Sm st0 st)(h:∀st',Sm st0 st'->Q () st'):wpS (model prog w) A E s (YQ g) Q st:=by
 rw[Qeu];exact QaO (h _ ⟨m.kind,m.arr,m.pend,m.failed⟩)
theorem JR{x y:Nat}(h:x≠y):¬((x == y)=true):=λz=>h (beq_iff_eq.mp z)
theorem Qi5{st:J4}{a b:Array Keyed}{Q:Array Keyed->J4->Prop}(hA:Asks prog w A s κ a₀ c)(hk:kindOf st=κ)(ma:∀p∈a.toList,p∈a₀.toList)(mb:∀p∈b.toList,p∈a₀.toList)(na:1<=a.size)(nb:1<=b.size)
  (sa:Sg c a 0 a.size)(sb:Sg c b 0 b.size)(p1:∀k,k<a.size->le c (kx b 0) (kx a k))(p2:∀k,k<b.size->le c (kx b k) (kx a (a.size - 1)))(h:∀z st',Sm st st'->Out c a b z->Q z st'):wpS (model prog w) A E s (Qg7 a b) Q st:=by
 have pwl:∀{xs:Array Keyed},Sg c xs 0 xs.size->Pw c xs.toList:=λ{xs} sg=>Jo.mpr λx y hx hy hxy=>by
  rw[Qd] at hx hy;have e1:=QaQ hx;have e2:=QaQ hy;rw[Qo (by rw[Qd];exact hx)] at e1;rw[Qo (by rw[Qd];exact hy)] at e2;rw[Qt e1,Qt e2];exact sg x y (Qs _) (by omega) hy
 rw[Qjz]
 dsimp only
 refine Qj (Qex (wpAny_rule ⟨rfl,?_⟩));refine Qj (Q3 (by omega) ?_);have m0:MI c a b #[] 0 0:=⟨by rw[ZI];exact pwl sa,by rw[ZI];exact pwl sb,by rw[ZI,ZI];exact Y6 _⟩;have m1:MI c a b #[kx b 0] 0 1:=MI.puB m0 (by omega) λn _ hn=>p1 n hn
 by_cases z1:1=b.size
 ·rw[if_pos (beq_iff_eq.mpr z1)];exact Qk (h _ _ (Sm.refl st) (m1.dnB z1))
 ·rw[if_neg (JR z1)];by_cases z2:0+1=a.size
  ·rw[if_pos (beq_iff_eq.mpr z2)];exact Qk (h _ _ (Sm.refl st) (m1.last z2 p2))
  ·rw[if_neg (JR z2)];refine Qj (QcG ?_);refine Qj (YK (J3 (I:=λx z st'=>∃r i j mg,z=(none,r,i,j,mg)/\MI c a b r i j/\i+1<a.size/\j<b.size/\x+1<=i+j/\Sm st st')
    (Q:=λz st'=>∃o y,z=(some o,y)/\Out c a b o/\Sm st st') ?step ?fin ⟨_,0,1,_,rfl,m1,by omega,by omega,by omega,Sm.refl st⟩) ?post)
   case post=>
    rintro z st' ⟨o,y,rfl,ho,sm⟩;exact Qk (h o st' sm ho)
   case fin=>
    rintro z st' ⟨r,i,j,mg,rfl,m,i1,j1,x1,sm⟩;exfalso
    omega
   case step=>
    rintro x z st' _ hx ⟨r,i,j,mg,rfl,m,i1,j1,x1,sm⟩
    dsimp only
    refine Qj (YK (J3 (I:=λy z st2=>∃r i j p q,z=(none,r,i,j,p,q)/\MI c a b r i j/\i+1<a.size/\j<b.size/\x+1+y<=i+j/\Sm st st2)
     (Q:=λz st2=>(∃o y,z=(some o,y)/\Out c a b o/\Sm st st2)∨∃r i j p q,z=(none,r,i,j,p,q)/\MI c a b r i j/\i+1<a.size/\j<b.size/\x+2<=i+j/\Sm st st2) ?step1 ?fin1 ⟨r,i,j,0,0,rfl,m,i1,j1,by omega,sm⟩) ?post1)
    case fin1=>
     rintro z st2 ⟨r,i,j,p,q,rfl,m,i1,j1,x1,sm⟩;exact .inr ⟨r,i,j,p,q,rfl,m,i1,j1,by omega,sm⟩
    case step1=>
     rintro y z st2 _ hy ⟨r,i,j,p,q,rfl,m,i1,j1,x1,sm⟩
     dsimp only
     refine Qj (Q3 j1 ?_);refine Qj (Q3 (by omega) ?_);refine Qj (QhP hA (sm.kind.trans hk) (mb _ (QeK j1)) (ma _ (QeK (by omega))) ?_);cases e:c (kx b j) (kx a i) with
     |true=>
      dsimp only
      rw[if_pos rfl];refine Qj (Q3 j1 ?_);have m2:=MI.puB m j1 λn n1 n2=>hA.ord.tr (hA.ord.lt_le e) (sa i n (Qs _) n1 n2)
      by_cases z3:j+1=b.size
      ·rw[if_pos (beq_iff_eq.mpr z3)];exact Qk (.inl ⟨_,_,rfl,m2.dnB z3,sm⟩)
      ·rw[if_neg (JR z3)];split
       ·exact Qk (.inr ⟨_,_,_,_,_,rfl,m2,by omega,by omega,by omega,sm⟩)
       ·exact Qk ⟨_,_,_,_,_,rfl,m2,by omega,by omega,by omega,sm⟩
     |false=>
      dsimp only
      rw[if_neg (by decide)];refine Qj (Q3 (by omega) ?_);have m2:=MI.puA m (by omega) λn n1 n2=>hA.ord.tr e (sb j n (Qs _) n1 n2)
      by_cases z3:i+1+1=a.size
      ·rw[if_pos (beq_iff_eq.mpr z3)];exact Qk (.inl ⟨_,_,rfl,m2.last z3 p2,sm⟩)
      ·rw[if_neg (JR z3)];split
       ·exact Qk (.inr ⟨_,_,_,_,_,rfl,m2,by omega,by omega,by omega,sm⟩)
       ·exact Qk ⟨_,_,_,_,_,rfl,m2,by omega,by omega,by omega,sm⟩
    case post1=>
     rintro z st2 (⟨o,y,rfl,ho,sm⟩ | ⟨r,i,j,p,q,rfl,m,i1,j1,x1,sm⟩)
     ·exact Qk ⟨o,_,rfl,ho,sm⟩
     ·dsimp only
      refine Qj (Qex (wpAny_rule ⟨rfl,?_⟩));refine Qj (YK (J3 (I:=λy z st3=>∃r i j mg p q,z=(none,r,i,j,mg,p,q)/\MI c a b r i j/\i+1<a.size/\j<b.size/\x+2<=i+j/\Sm st st3)
       (Q:=λz st3=>(∃o y,z=(some o,y)/\Out c a b o/\Sm st st3)∨∃r i j mg p q,z=(none,r,i,j,mg,p,q)/\MI c a b r i j/\i+1<a.size/\j<b.size/\x+2<=i+j/\Sm st st3) ?step2 ?fin2 ⟨r,i,j,_,p,q,rfl,m,i1,j1,by omega,sm⟩) ?post2)
      case fin2=>
       rintro z st3 ⟨r,i,j,mg,p,q,rfl,m,i1,j1,x1,sm⟩;exact .inr ⟨r,i,j,mg,p,q,rfl,m,i1,j1,by omega,sm⟩
      case post2=>
       rintro z st3 (⟨o,y,rfl,ho,sm⟩ | ⟨r,i,j,mg,p,q,rfl,m,i1,j1,x1,sm⟩)
       ·exact Qk ⟨o,_,rfl,ho,sm⟩
       ·dsimp only
        exact Qj (QfP sm λst4 sm4=>Qk ⟨_,_,_,_,rfl,m,i1,j1,by omega,sm4⟩)
      case step2=>
       rintro y z st3 _ hy ⟨r,i,j,mg,p,q,rfl,m,i1,j1,x1,sm⟩
       dsimp only
       by_cases z0:mg > 1
       ·rw[if_pos z0];refine Qj (QfP sm λst4 sm4=>?_);refine Qj (Q3 (by omega) ?_);refine Qj (ZK hA (sm4.kind.trans hk) (mb _ (QeK (by omega))) ma (by omega) (by omega) (λx y x1 xy y1=>sa x y (Qs _) xy (by omega)) λk kn b1 b2=>?_);have b1:∀t,t<k->(!c (kx b j) (kx a (i+t)))=true:=λt ht=>b1 t ht
        have b2:∀t,k<=t->t<a.size - i->(!c (kx b j) (kx a (i+t)))=false:=λt h1 h2=>b2 t h1 h2
        dsimp only
        have hB1:∀n,i+k<=n->n<a.size->le c (kx b j) (kx a n):=λn n1 n2=>by
         have:=b2 (n - i) (by omega) (by omega);rw[show i+(n - i)=n by omega] at this;exact hA.ord.lt_le (by simpa using this)
        by_cases zk:k > 0
        ·rw[if_pos zk];have m2:=MI.chA (k:=k) m λt t1 t2 n n1 n2=>by
          have:=b1 t t1;exact hA.ord.tr (show le c (kx a (i+t)) (kx b j) by simpa using this) (sb j n (Qs _) n1 n2)
         by_cases z2:i+k+1=a.size
         ·rw[if_pos (beq_iff_eq.mpr z2)];exact Qk (.inl ⟨_,_,rfl,m2.last z2 p2,sm4⟩)
         ·rw[if_neg (JR z2)];by_cases z3:i+k=a.size
          ·rw[if_pos (beq_iff_eq.mpr z3)];exact Qk (.inl ⟨_,_,rfl,m2.dnA z3,sm4⟩)
          ·rw[if_neg (JR z3)];refine Qj (Q3 (by omega) ?_);have m5:=MI.puB m2 (by omega) hB1;by_cases z5:j+1=b.size
           ·rw[if_pos (beq_iff_eq.mpr z5)];exact Qk (.inl ⟨_,_,rfl,m5.dnB z5,sm4⟩)
           ·rw[if_neg (JR z5)];refine Qj (Q3 (by omega) ?_);refine Qj (ZK hA (sm4.kind.trans hk) (ma _ (QeK (by omega))) mb (by omega) (by omega) (λx y x1 xy y1=>sb x y (Qs _) xy (by omega)) λk2 k2n b1 b2=>?_);have b1:∀t,t<k2->c (kx b (j+1+t)) (kx a (i+k))=true:=λt ht=>b1 t ht
            have b2:∀t,k2<=t->t<b.size - (j+1)->c (kx b (j+1+t)) (kx a (i+k))=false:=λt h1 h2=>b2 t h1 h2
            dsimp only
            have gA:∀n,j+1+k2<=n->n<b.size->le c (kx a (i+k)) (kx b n):=λn n1 n2=>by have:=b2 (n - (j+1)) (by omega) (by omega);rwa [show j+1+(n - (j+1))=n by omega] at this
            by_cases zk2:k2 > 0
            ·rw[if_pos zk2];have m6:=MI.chB (k:=k2) m5 λt t1 t2 n n1 n2=>hA.ord.tr (hA.ord.lt_le (b1 t t1)) (sa (i+k) n (Qs _) n1 n2)
             by_cases z6:j+1+k2=b.size
             ·rw[if_pos (beq_iff_eq.mpr z6)];exact Qk (.inl ⟨_,_,rfl,m6.dnB z6,sm4⟩)
             ·rw[if_neg (JR z6)];refine Qj (Q3 (by omega) ?_);have m9:=MI.puA m6 (by omega) gA;by_cases z9:i+k+1+1=a.size
              ·rw[if_pos (beq_iff_eq.mpr z9)];exact Qk (.inl ⟨_,_,rfl,m9.last z9 p2,sm4⟩)
              ·rw[if_neg (JR z9)];split
               ·exact Qk (.inr ⟨_,_,_,_,_,_,rfl,m9,by omega,by omega,by omega,sm4⟩)
               ·exact Qk ⟨_,_,_,_,_,_,rfl,m9,by omega,by omega,by omega,sm4⟩
            ·rw[if_neg zk2];have zk2:k2=0:=by omega
             subst zk2;refine Qj (Q3 (by omega) ?_);have m9:=MI.puA m5 (by omega) gA;by_cases z9:i+k+1+1=a.size
             ·rw[if_pos (beq_iff_eq.mpr z9)];exact Qk (.inl ⟨_,_,rfl,m9.last z9 p2,sm4⟩)
             ·rw[if_neg (JR z9)];split
              ·exact Qk (.inr ⟨_,_,_,_,_,_,rfl,m9,by omega,by omega,by omega,sm4⟩)
              ·exact Qk ⟨_,_,_,_,_,_,rfl,m9,by omega,by omega,by omega,sm4⟩
        ·rw[if_neg zk];have zk:k=0:=by omega
         subst zk;refine Qj (Q3 (by omega) ?_);have m5:=MI.puB m (by omega) hB1;by_cases z5:j+1=b.size
         ·rw[if_pos (beq_iff_eq.mpr z5)];exact Qk (.inl ⟨_,_,rfl,m5.dnB z5,sm4⟩)
         ·rw[if_neg (JR z5)];refine Qj (Q3 (by omega) ?_);refine Qj (ZK hA (sm4.kind.trans hk) (ma _ (QeK (by omega))) mb (by omega) (by omega) (λx y x1 xy y1=>sb x y (Qs _) xy (by omega)) λk2 k2n b1 b2=>?_);have b1:∀t,t<k2->c (kx b (j+1+t)) (kx a (i))=true:=λt ht=>b1 t ht
          have b2:∀t,k2<=t->t<b.size - (j+1)->c (kx b (j+1+t)) (kx a (i))=false:=λt h1 h2=>b2 t h1 h2
          dsimp only
          have gA:∀n,j+1+k2<=n->n<b.size->le c (kx a (i)) (kx b n):=λn n1 n2=>by have:=b2 (n - (j+1)) (by omega) (by omega);rwa [show j+1+(n - (j+1))=n by omega] at this
          by_cases zk2:k2 > 0
          ·rw[if_pos zk2];have m6:=MI.chB (k:=k2) m5 λt t1 t2 n n1 n2=>hA.ord.tr (hA.ord.lt_le (b1 t t1)) (sa (i) n (Qs _) n1 n2)
           by_cases z6:j+1+k2=b.size
           ·rw[if_pos (beq_iff_eq.mpr z6)];exact Qk (.inl ⟨_,_,rfl,m6.dnB z6,sm4⟩)
           ·rw[if_neg (JR z6)];refine Qj (Q3 (by omega) ?_);have m9:=MI.puA m6 (by omega) gA;by_cases z9:i+1+1=a.size
            ·rw[if_pos (beq_iff_eq.mpr z9)];exact Qk (.inl ⟨_,_,rfl,m9.last z9 p2,sm4⟩)
            ·rw[if_neg (JR z9)];split
             ·exact Qk (.inr ⟨_,_,_,_,_,_,rfl,m9,by omega,by omega,by omega,sm4⟩)
             ·exact Qk ⟨_,_,_,_,_,_,rfl,m9,by omega,by omega,by omega,sm4⟩
          ·rw[if_neg zk2];have zk2:k2=0:=by omega
           subst zk2;refine Qj (Q3 (by omega) ?_);have m9:=MI.puA m5 (by omega) gA;by_cases z9:i+1+1=a.size
           ·rw[if_pos (beq_iff_eq.mpr z9)];exact Qk (.inl ⟨_,_,rfl,m9.last z9 p2,sm4⟩)
           ·rw[if_neg (JR z9)];split
            ·exact Qk (.inr ⟨_,_,_,_,_,_,rfl,m9,by omega,by omega,by omega,sm4⟩)
            ·exact Qk ⟨_,_,_,_,_,_,rfl,m9,by omega,by omega,by omega,sm4⟩
       ·rw[if_neg z0];refine Qj (QfP sm λst4 sm4=>?_);refine Qj (Q3 (by omega) ?_);refine Qj (ZK hA (sm4.kind.trans hk) (mb _ (QeK (by omega))) ma (by omega) (by omega) (λx y x1 xy y1=>sa x y (Qs _) xy (by omega)) λk kn b1 b2=>?_);have b1:∀t,t<k->(!c (kx b j) (kx a (i+t)))=true:=λt ht=>b1 t ht
        have b2:∀t,k<=t->t<a.size - i->(!c (kx b j) (kx a (i+t)))=false:=λt h1 h2=>b2 t h1 h2
        dsimp only
        have hB1:∀n,i+k<=n->n<a.size->le c (kx b j) (kx a n):=λn n1 n2=>by
         have:=b2 (n - i) (by omega) (by omega);rw[show i+(n - i)=n by omega] at this;exact hA.ord.lt_le (by simpa using this)
        by_cases zk:k > 0
        ·rw[if_pos zk];have m2:=MI.chA (k:=k) m λt t1 t2 n n1 n2=>by
          have:=b1 t t1;exact hA.ord.tr (show le c (kx a (i+t)) (kx b j) by simpa using this) (sb j n (Qs _) n1 n2)
         by_cases z2:i+k+1=a.size
         ·rw[if_pos (beq_iff_eq.mpr z2)];exact Qk (.inl ⟨_,_,rfl,m2.last z2 p2,sm4⟩)
         ·rw[if_neg (JR z2)];by_cases z3:i+k=a.size
          ·rw[if_pos (beq_iff_eq.mpr z3)];exact Qk (.inl ⟨_,_,rfl,m2.dnA z3,sm4⟩)
          ·rw[if_neg (JR z3)];refine Qj (Q3 (by omega) ?_);have m5:=MI.puB m2 (by omega) hB1;by_cases z5:j+1=b.size
           ·rw[if_pos (beq_iff_eq.mpr z5)];exact Qk (.inl ⟨_,_,rfl,m5.dnB z5,sm4⟩)
           ·rw[if_neg (JR z5)];refine Qj (Q3 (by omega) ?_);refine Qj (ZK hA (sm4.kind.trans hk) (ma _ (QeK (by omega))) mb (by omega) (by omega) (λx y x1 xy y1=>sb x y (Qs _) xy (by omega)) λk2 k2n b1 b2=>?_);have b1:∀t,t<k2->c (kx b (j+1+t)) (kx a (i+k))=true:=λt ht=>b1 t ht
            have b2:∀t,k2<=t->t<b.size - (j+1)->c (kx b (j+1+t)) (kx a (i+k))=false:=λt h1 h2=>b2 t h1 h2
            dsimp only
            have gA:∀n,j+1+k2<=n->n<b.size->le c (kx a (i+k)) (kx b n):=λn n1 n2=>by have:=b2 (n - (j+1)) (by omega) (by omega);rwa [show j+1+(n - (j+1))=n by omega] at this
            by_cases zk2:k2 > 0
            ·rw[if_pos zk2];have m6:=MI.chB (k:=k2) m5 λt t1 t2 n n1 n2=>hA.ord.tr (hA.ord.lt_le (b1 t t1)) (sa (i+k) n (Qs _) n1 n2)
             by_cases z6:j+1+k2=b.size
             ·rw[if_pos (beq_iff_eq.mpr z6)];exact Qk (.inl ⟨_,_,rfl,m6.dnB z6,sm4⟩)
             ·rw[if_neg (JR z6)];refine Qj (Q3 (by omega) ?_);have m9:=MI.puA m6 (by omega) gA;by_cases z9:i+k+1+1=a.size
              ·rw[if_pos (beq_iff_eq.mpr z9)];exact Qk (.inl ⟨_,_,rfl,m9.last z9 p2,sm4⟩)
              ·rw[if_neg (JR z9)];split
               ·exact Qk (.inr ⟨_,_,_,_,_,_,rfl,m9,by omega,by omega,by omega,sm4⟩)
               ·exact Qk ⟨_,_,_,_,_,_,rfl,m9,by omega,by omega,by omega,sm4⟩
            ·rw[if_neg zk2];have zk2:k2=0:=by omega
             subst zk2;refine Qj (Q3 (by omega) ?_);have m9:=MI.puA m5 (by omega) gA;by_cases z9:i+k+1+1=a.size
             ·rw[if_pos (beq_iff_eq.mpr z9)];exact Qk (.inl ⟨_,_,rfl,m9.last z9 p2,sm4⟩)
             ·rw[if_neg (JR z9)];split
              ·exact Qk (.inr ⟨_,_,_,_,_,_,rfl,m9,by omega,by omega,by omega,sm4⟩)
              ·exact Qk ⟨_,_,_,_,_,_,rfl,m9,by omega,by omega,by omega,sm4⟩
        ·rw[if_neg zk];have zk:k=0:=by omega
         subst zk;refine Qj (Q3 (by omega) ?_);have m5:=MI.puB m (by omega) hB1;by_cases z5:j+1=b.size
         ·rw[if_pos (beq_iff_eq.mpr z5)];exact Qk (.inl ⟨_,_,rfl,m5.dnB z5,sm4⟩)
         ·rw[if_neg (JR z5)];refine Qj (Q3 (by omega) ?_);refine Qj (ZK hA (sm4.kind.trans hk) (ma _ (QeK (by omega))) mb (by omega) (by omega) (λx y x1 xy y1=>sb x y (Qs _) xy (by omega)) λk2 k2n b1 b2=>?_);have b1:∀t,t<k2->c (kx b (j+1+t)) (kx a (i))=true:=λt ht=>b1 t ht
          have b2:∀t,k2<=t->t<b.size - (j+1)->c (kx b (j+1+t)) (kx a (i))=false:=λt h1 h2=>b2 t h1 h2
          dsimp only
          have gA:∀n,j+1+k2<=n->n<b.size->le c (kx a (i)) (kx b n):=λn n1 n2=>by have:=b2 (n - (j+1)) (by omega) (by omega);rwa [show j+1+(n - (j+1))=n by omega] at this
          by_cases zk2:k2 > 0
          ·rw[if_pos zk2];have m6:=MI.chB (k:=k2) m5 λt t1 t2 n n1 n2=>hA.ord.tr (hA.ord.lt_le (b1 t t1)) (sa (i) n (Qs _) n1 n2)
           by_cases z6:j+1+k2=b.size
           ·rw[if_pos (beq_iff_eq.mpr z6)];exact Qk (.inl ⟨_,_,rfl,m6.dnB z6,sm4⟩)
           ·rw[if_neg (JR z6)];refine Qj (Q3 (by omega) ?_);have m9:=MI.puA m6 (by omega) gA;by_cases z9:i+1+1=a.size
            ·rw[if_pos (beq_iff_eq.mpr z9)];exact Qk (.inl ⟨_,_,rfl,m9.last z9 p2,sm4⟩)
            ·rw[if_neg (JR z9)];split
             ·exact Qk (.inr ⟨_,_,_,_,_,_,rfl,m9,by omega,by omega,by omega,sm4⟩)
             ·exact Qk ⟨_,_,_,_,_,_,rfl,m9,by omega,by omega,by omega,sm4⟩
          ·rw[if_neg zk2];have zk2:k2=0:=by omega
           subst zk2;refine Qj (Q3 (by omega) ?_);have m9:=MI.puA m5 (by omega) gA;by_cases z9:i+1+1=a.size
           ·rw[if_pos (beq_iff_eq.mpr z9)];exact Qk (.inl ⟨_,_,rfl,m9.last z9 p2,sm4⟩)
           ·rw[if_neg (JR z9)];split
            ·exact Qk (.inr ⟨_,_,_,_,_,_,rfl,m9,by omega,by omega,by omega,sm4⟩)
            ·exact Qk ⟨_,_,_,_,_,_,rfl,m9,by omega,by omega,by omega,sm4⟩
end
theorem QjA(a b:Array Keyed):Qg8 a b=(do
 rule "list.sort.merge-hi"
 let tot:=a.size+b.size
 let dn (r:Array Keyed) (i j:Nat):=a.extract 0 i++b.extract 0 j++r.reverse
 let fb (r:Array Keyed) (i j:Nat):=b.extract 0 j++a.extract 0 i++r.reverse
 let mut i:=a.size - 1
 let mut j:=b.size
 let mut r:Array Keyed:=#[<- elem' a i]
 if i == 0 then return dn r i j
 if j == 1 then return fb r i j
 let mut mg:=gallopOf (<- get)
 for _ in [0:tot] do
  let mut p:=0
  let mut q:=0
  for _ in [0:tot] do
   let some t <- lt' (<- elem' b (j - 1)) (<- elem' a (i - 1)) | return dn r i j
   if t then
    i:=i - 1;r:=r.push (<- elem' a i);p:=p+1;q:=0
    if i == 0 then return dn r i j
    if p≥mg then break
   else
    j:=j - 1;r:=r.push (<- elem' b j);q:=q+1;p:=0
    if j == 1 then return fb r i j
    if q≥mg then break
  rule "list.sort.gallop"
  mg:=mg+1
  for _ in [0:tot] do
   if mg > 1 then mg:=mg - 1
   YQ mg
   let some t <- Qcg false (<- elem' b (j - 1)) a 0 i (i - 1) | return dn r i j
   let k:=i - t
   p:=k
   if k > 0 then
    r:=r++(a.extract t i).reverse;i:=t
    if i == 0 then return dn r i j
   j:=j - 1;r:=r.push (<- elem' b j)
   if j == 1 then return fb r i j
   let some t <- Qcg true (<- elem' a (i - 1)) b 0 j (j - 1) | return dn r i j
   let k:=j - t
   q:=k
   if k > 0 then
    r:=r++(b.extract t j).reverse;j:=t
    if j == 1 then return fb r i j
    if j == 0 then return dn r i j
   i:=i - 1;r:=r.push (<- elem' a i)
   if i == 0 then return dn r i j
   if p<7&&q<7 then break
  mg:=mg+1
  YQ mg
 unsupported "internal:list.sort.merge-bound"):=rfl
section
variable{c:Keyed->Keyed->Bool}
theorem QsY{r ch x y:List Keyed}(h1:Pw c ((x++ch)++r))(h2:Pw c (y++r))(h:∀u∈y,∀v∈ch,le c u v):Pw c (x++(ch++r))/\Pw c (y++(ch++r)):=by
 have h1':Pw c (x++(ch++r)):=by rw[<- QQ];exact h1
 refine⟨h1',?_⟩;have g:=Jd.mp h1';have g2:=Jd.mp h2;refine Jd.mpr ⟨g2.1,g.2.1,λu hu v hv=>?_⟩;rcases Jb.mp hv with z | z
 ·exact h u hu v z
 ·exact g2.2.2 u hu v z
theorem QkV(xs:Array Keyed)(i:Nat):(xs.extract 0 i).toList=xs.toList.take i:=by
 rw[Qba,Qao,Qmd,ZI]
theorem Qa7(xs:Array Keyed)(t i:Nat):(xs.extract t i).toList=(xs.toList.take i).drop t:=by
 rw[Qba,Qao,List.take_drop];by_cases z:t<=i
 ·rw[show t+(i - t)=i by omega]
 ·rw[show i - t=0 by omega,Qdf,YI (by rw[JG];omega),YI (by rw[JG];omega)]
theorem Qak{xs:Array Keyed}{t i:Nat}{p:Keyed}(h:p∈(xs.toList.take i).drop t):∃n,t<=n/\n<i/\n<xs.size/\p=kx xs n:=by
 obtain⟨n,hn⟩:=Ji.mp h;rw[YM,Qey] at hn;split at hn
 ·rename_i z
  have hl:=(Jq.mp hn).1;rw[Qd] at hl;rw[QaQ hl] at hn;exact⟨t+n,by omega,z,hl,(Qt hn).symm⟩
 ·cases hn
structure MH (c:Keyed->Keyed->Bool) (a b r:Array Keyed) (i j:Nat):Prop where
 ha:Pw c (a.toList.take i++r.toList.reverse)
 hb:Pw c (b.toList.take j++r.toList.reverse)
 pm:((a.toList.take i++b.toList.take j)++r.toList.reverse).Perm (a.toList++b.toList)
variable{a b r:Array Keyed}{i j t:Nat}
theorem QdU(r x:Array Keyed):(r++x.reverse).toList.reverse=x.toList++r.toList.reverse:=by
 rw[JC,Qdh,List.reverse_append,List.reverse_reverse]
theorem MH.chA(m:MH c a b r i j)(ht:t<=i)(h:∀n,t<=n->n<i->n<a.size->∀k,k<j->k<b.size->le c (kx b k) (kx a n)):MH c a b (r++(a.extract t i).reverse) t j:=by
 have e:a.toList.take i=a.toList.take t++(a.toList.take i).drop t:=by
  have:=(Jg t (a.toList.take i)).symm
  rwa [QdH,Y5 ht] at this
 have h1:=m.ha;have pm:=m.pm;rw[e] at h1 pm;obtain⟨g1,g2⟩:=QsY h1 m.hb λu hu v hv=>by
  obtain⟨n,n1,n2,n3,rfl⟩:=Qak hv;obtain⟨k,_,k2,k3,rfl⟩:=Qak (t:=0) (by rw[ZI];exact hu);exact h n n1 n2 n3 k k2 k3
 refine⟨by rw[QdU,Qa7];exact g1,by rw[QdU,Qa7];exact g2,?_⟩;rw[QdU,Qa7];refine Qa0 ?_ pm
 rw[<- QQ];refine Qay _ ?_
 rw[QQ,QQ];exact YE _ Yc
theorem MH.chB(m:MH c a b r i j)(ht:t<=j)(h:∀n,t<=n->n<j->n<b.size->∀k,k<i->k<a.size->le c (kx a k) (kx b n)):MH c a b (r++(b.extract t j).reverse) i t:=by
 have e:b.toList.take j=b.toList.take t++(b.toList.take j).drop t:=by
  have:=(Jg t (b.toList.take j)).symm
  rwa [QdH,Y5 ht] at this
 have h1:=m.hb;have pm:=m.pm;rw[e] at h1 pm;obtain⟨g1,g2⟩:=QsY h1 m.ha λu hu v hv=>by
  obtain⟨n,n1,n2,n3,rfl⟩:=Qak hv;obtain⟨k,_,k2,k3,rfl⟩:=Qak (t:=0) (by rw[ZI];exact hu);exact h n n1 n2 n3 k k2 k3
 refine⟨by rw[QdU,Qa7];exact g2,by rw[QdU,Qa7];exact g1,?_⟩;rw[QdU,Qa7];refine Qa0 ?_ pm
 rw[<- QQ,QQ (a.toList.take i)]
theorem Qks{xs:Array Keyed}{i:Nat}(h1:1<=i)(h:i<=xs.size):r.push (kx xs (i - 1))=r++(xs.extract (i - 1) i).reverse:=by
 apply QfC.mp
 have e:=QeN xs (i - 1) 1;rw[show i - 1+1=i by omega] at e;rw[Qb6,JC,Qdh,e,Qoa (by omega)];rfl
theorem MH.puA(m:MH c a b r i j)(h1:1<=i)(hi:i<=a.size)(h:∀k,k<j->k<b.size->le c (kx b k) (kx a (i - 1))):MH c a b (r.push (kx a (i - 1))) (i - 1) j:=by
 rw[Qks h1 hi];refine m.chA (by omega) λn n1 n2 _=>?_
 rw[show n=i - 1 by omega];exact h
theorem MH.puB(m:MH c a b r i j)(h1:1<=j)(hj:j<=b.size)(h:∀k,k<i->k<a.size->le c (kx a k) (kx b (j - 1))):MH c a b (r.push (kx b (j - 1))) i (j - 1):=by
 rw[Qks h1 hj];refine m.chB (by omega) λn n1 n2 _=>?_
 rw[show n=j - 1 by omega];exact h
theorem QcA(x y r:Array Keyed)(i j:Nat):(x.extract 0 i++y.extract 0 j++r.reverse).toList=(x.toList.take i++y.toList.take j)++r.toList.reverse:=by
 rw[JC,JC,QkV,QkV,Qdh]
theorem MH.dnA(m:MH c a b r i j)(hi:i=0):Out c a b (a.extract 0 i++b.extract 0 j++r.reverse):=by
 have pm:=m.pm;subst hi;refine⟨?_,by rw[QcA];exact pm⟩;rw[QcA,Qwh,Qda];exact m.hb
theorem MH.dnB(m:MH c a b r i j)(hj:j=0):Out c a b (a.extract 0 i++b.extract 0 j++r.reverse):=by
 have pm:=m.pm;subst hj;refine⟨?_,by rw[QcA];exact pm⟩;rw[QcA,Qwh,JX];exact m.ha
theorem MH.fb(m:MH c a b r i j)(hj:j=1)(p1:∀k,k<a.size->le c (kx b 0) (kx a k)):Out c a b (b.extract 0 j++a.extract 0 i++r.reverse):=by
 refine⟨?_,?_⟩
 ·rw[QcA];have g:=Jd.mp m.hb;rw[QQ];refine Jd.mpr ⟨g.1,m.ha,λu hu v hv=>?_⟩;rcases Jb.mp hv with z | z
  ·obtain⟨k,_,k2,k3,rfl⟩:=Qak (t:=0) (by rw[ZI];exact hu);obtain⟨n,_,n2,n3,rfl⟩:=Qak (t:=0) (by rw[ZI];exact z);rw[show k=0 by omega];exact p1 n n3
  ·exact g.2.2 u hu v z
 ·rw[QcA];exact Qa0 (Qay _ Yc) m.pm
end
section
variable{prog:QC}{w:Q9}{A:Q5}{E:Value->Shared->Prop}{s:Shared}{a₀:Array Keyed}{κ:Yt}{c:Keyed->Keyed->Bool}
theorem Qkr{xs:Array Keyed}(sg:Sg c xs 0 xs.size):Pw c xs.toList:=Jo.mpr λx y hx hy hxy=>by
 rw[Qd] at hx hy;have e1:=QaQ hx;have e2:=QaQ hy;rw[Qo (by rw[Qd];exact hx)] at e1;rw[Qo (by rw[Qd];exact hy)] at e2;rw[Qt e1,Qt e2];exact sg x y (Qs _) (by omega) hy
theorem Qi6{st:J4}{a b:Array Keyed}{Q:Array Keyed->J4->Prop}(hA:Asks prog w A s κ a₀ c)(hk:kindOf st=κ)(ma:∀p∈a.toList,p∈a₀.toList)(mb:∀p∈b.toList,p∈a₀.toList)(na:1<=a.size)(nb:1<=b.size)
  (sa:Sg c a 0 a.size)(sb:Sg c b 0 b.size)(p1:∀k,k<a.size->le c (kx b 0) (kx a k))(p2:∀k,k<b.size->le c (kx b k) (kx a (a.size - 1)))(h:∀z st',Sm st st'->Out c a b z->Q z st'):wpS (model prog w) A E s (Qg8 a b) Q st:=by
 rw[QjA]
 dsimp only
 refine Qj (Qex (wpAny_rule ⟨rfl,?_⟩));refine Qj (Q3 (by omega) ?_);have tk:∀xs:Array Keyed,xs.toList.take xs.size=xs.toList:=λxs=>QaP (by rw[Qd];exact Qh _)
 have m0:MH c a b #[] a.size b.size:=⟨by rw[tk];show Pw c (a.toList++[]);rw[JX];exact Qkr sa,by rw[tk];show Pw c (b.toList++[]);rw[JX];exact Qkr sb,by rw[tk,tk];show((a.toList++b.toList)++[]).Perm _;rw[JX]⟩;have m1:MH c a b #[kx a (a.size - 1)] (a.size - 1) b.size:=MH.puA m0 na (Qh _) λk _ hk=>p2 k hk
 by_cases z1:a.size - 1=0
 ·rw[if_pos (beq_iff_eq.mpr z1)];exact Qk (h _ _ (Sm.refl st) (m1.dnA z1))
 ·rw[if_neg (JR z1)];by_cases z2:b.size=1
  ·rw[if_pos (beq_iff_eq.mpr z2)];exact Qk (h _ _ (Sm.refl st) (m1.fb z2 p1))
  ·rw[if_neg (JR z2)];refine Qj (QcG ?_);refine Qj (YK (J3 (I:=λx z st'=>∃r i j mg,z=(none,i,j,r,mg)/\MH c a b r i j/\1<=i/\i<=a.size/\2<=j/\j<=b.size/\x+1+i+j<=a.size+b.size/\Sm st st')
    (Q:=λz st'=>∃o y,z=(some o,y)/\Out c a b o/\Sm st st') ?step ?fin ⟨_,_,_,_,rfl,m1,by omega,by omega,by omega,by omega,by omega,Sm.refl st⟩) ?post)
   case post=>
    rintro z st' ⟨o,y,rfl,ho,sm⟩;exact Qk (h o st' sm ho)
   case fin=>
    rintro z st' ⟨r,i,j,mg,rfl,m,i1,i2,j1,j2,x1,sm⟩;exfalso
    omega
   case step=>
    rintro x z st' _ hx ⟨r,i,j,mg,rfl,m,i1,i2,j1,j2,x1,sm⟩
    dsimp only
    refine Qj (YK (J3 (I:=λy z st2=>∃r i j p q,z=(none,i,j,r,p,q)/\MH c a b r i j/\1<=i/\i<=a.size/\2<=j/\j<=b.size/\x+1+y+i+j<=a.size+b.size/\Sm st st2)
     (Q:=λz st2=>(∃o y,z=(some o,y)/\Out c a b o/\Sm st st2)∨∃r i j p q,z=(none,i,j,r,p,q)/\MH c a b r i j/\1<=i/\i<=a.size/\2<=j/\j<=b.size/\x+2+i+j<=a.size+b.size/\Sm st st2) ?step1 ?fin1 ⟨r,i,j,0,0,rfl,m,i1,i2,j1,j2,by omega,sm⟩) ?post1)
    case fin1=>
     rintro z st2 ⟨r,i,j,p,q,rfl,m,i1,i2,j1,j2,x1,sm⟩;exact .inr ⟨r,i,j,p,q,rfl,m,i1,i2,j1,j2,by omega,sm⟩
    case step1=>
     rintro y z st2 _ hy ⟨r,i,j,p,q,rfl,m,i1,i2,j1,j2,x1,sm⟩
     dsimp only
     refine Qj (Q3 (by omega) ?_);refine Qj (Q3 (by omega) ?_);refine Qj (QhP hA (sm.kind.trans hk) (mb _ (QeK (by omega))) (ma _ (QeK (by omega))) ?_);cases e:c (kx b (j - 1)) (kx a (i - 1)) with
     |true=>
      dsimp only
      rw[if_pos rfl];refine Qj (Q3 (by omega) ?_);have m2:=MH.puA m i1 i2 λk k1 k2=>hA.ord.tr (sb k (j - 1) (Qs _) (by omega) (by omega)) (hA.ord.lt_le e)
      by_cases z3:i - 1=0
      ·rw[if_pos (beq_iff_eq.mpr z3)];exact Qk (.inl ⟨_,_,rfl,m2.dnA z3,sm⟩)
      ·rw[if_neg (JR z3)];split
       ·exact Qk (.inr ⟨_,_,_,_,_,rfl,m2,by omega,by omega,by omega,by omega,by omega,sm⟩)
       ·exact Qk ⟨_,_,_,_,_,rfl,m2,by omega,by omega,by omega,by omega,by omega,sm⟩
     |false=>
      dsimp only
      rw[if_neg (by decide)];refine Qj (Q3 (by omega) ?_);have m2:=MH.puB m (by omega) j2 λk k1 k2=>hA.ord.tr (sa k (i - 1) (Qs _) (by omega) (by omega)) e
      by_cases z3:j - 1=1
      ·rw[if_pos (beq_iff_eq.mpr z3)];exact Qk (.inl ⟨_,_,rfl,m2.fb z3 p1,sm⟩)
      ·rw[if_neg (JR z3)];split
       ·exact Qk (.inr ⟨_,_,_,_,_,rfl,m2,by omega,by omega,by omega,by omega,by omega,sm⟩)
       ·exact Qk ⟨_,_,_,_,_,rfl,m2,by omega,by omega,by omega,by omega,by omega,sm⟩
    case post1=>
     rintro z st2 (⟨o,y,rfl,ho,sm⟩ | ⟨r,i,j,p,q,rfl,m,i1,i2,j1,j2,x1,sm⟩)
     ·exact Qk ⟨o,_,rfl,ho,sm⟩
     ·dsimp only
      refine Qj (Qex (wpAny_rule ⟨rfl,?_⟩));refine Qj (YK (J3 (I:=λy z st3=>∃r i j mg p q,z=(none,i,j,r,mg,p,q)/\MH c a b r i j/\1<=i/\i<=a.size/\2<=j/\j<=b.size/\x+2+i+j<=a.size+b.size/\Sm st st3)
       (Q:=λz st3=>(∃o y,z=(some o,y)/\Out c a b o/\Sm st st3)∨∃r i j mg p q,z=(none,i,j,r,mg,p,q)/\MH c a b r i j/\1<=i/\i<=a.size/\2<=j/\j<=b.size/\x+2+i+j<=a.size+b.size/\Sm st st3) ?step2 ?fin2 ⟨r,i,j,_,p,q,rfl,m,i1,i2,j1,j2,by omega,sm⟩) ?post2)
      case fin2=>
       rintro z st3 ⟨r,i,j,mg,p,q,rfl,m,i1,i2,j1,j2,x1,sm⟩;exact .inr ⟨r,i,j,mg,p,q,rfl,m,i1,i2,j1,j2,by omega,sm⟩
      case post2=>
       rintro z st3 (⟨o,y,rfl,ho,sm⟩ | ⟨r,i,j,mg,p,q,rfl,m,i1,i2,j1,j2,x1,sm⟩)
       ·exact Qk ⟨o,_,rfl,ho,sm⟩
       ·dsimp only
        exact Qj (QfP sm λst4 sm4=>Qk ⟨_,_,_,_,rfl,m,i1,i2,j1,j2,by omega,sm4⟩)
      case step2=>
       rintro y z st3 _ hy ⟨r,i,j,mg,p,q,rfl,m,i1,i2,j1,j2,x1,sm⟩
       dsimp only
       by_cases z0:mg > 1
       ·rw[if_pos z0];refine Qj (QfP sm λst4 sm4=>?_);refine Qj (Q3 (by omega) ?_);refine Qj (ZK hA (sm4.kind.trans hk) (mb _ (QeK (by omega))) ma (by omega) (by omega) (λx y x1 xy y1=>sa x y (Qs _) xy (by omega)) λt tn b1 b2=>?_);have lowA:∀n,n<t->le c (kx a n) (kx b (j - 1)):=λn hn=>by
         have:(!c (kx b (j - 1)) (kx a (0+n)))=true:=b1 n hn;rw[J7] at this
         simpa using this
        have b2:∀n,t<=n->n<i->c (kx b (j - 1)) (kx a n)=true:=λn h1 h2=>by
         have:(!c (kx b (j - 1)) (kx a (0+n)))=false:=b2 n h1 h2;rw[J7] at this
         simpa using this
        dsimp only
        by_cases zk:i - t > 0
        ·rw[if_pos zk];have m2:=MH.chA (t:=t) m tn λn n1 n2 _ k k1 k2=>hA.ord.tr (sb k (j - 1) (Qs _) (by omega) (by omega)) (hA.ord.lt_le (b2 n n1 n2))
         by_cases z2:t=0
         ·rw[if_pos (beq_iff_eq.mpr z2)];exact Qk (.inl ⟨_,_,rfl,m2.dnA z2,sm4⟩)
         ·rw[if_neg (JR z2)];refine Qj (Q3 (by omega) ?_);have m5:=MH.puB m2 (by omega) (by omega) λk k1 k2=>lowA k k1
          by_cases z5:j - 1=1
          ·rw[if_pos (beq_iff_eq.mpr z5)];exact Qk (.inl ⟨_,_,rfl,m5.fb z5 p1,sm4⟩)
          ·rw[if_neg (JR z5)];refine Qj (Q3 (by omega) ?_);refine Qj (ZK hA (sm4.kind.trans hk) (ma _ (QeK (by omega))) mb (by omega) (by omega) (λx y x1 xy y1=>sb x y (Qs _) xy (by omega)) λt2 t2n b1 b2=>?_);have b1:∀n,n<t2->c (kx b n) (kx a (t - 1))=true:=λn hn=>by have:=b1 n hn;rwa [J7] at this
           have b2:∀n,t2<=n->n<j - 1->c (kx b n) (kx a (t - 1))=false:=λn h1 h2=>by have:=b2 n h1 h2;rwa [J7] at this
           dsimp only
           by_cases zk2:j - 1 - t2 > 0
           ·rw[if_pos zk2];have m6:=MH.chB (t:=t2) m5 t2n λn n1 n2 _ k k1 k2=>hA.ord.tr (sa k (t - 1) (Qs _) (by omega) (by omega)) (b2 n n1 n2)
            by_cases z6:t2=1
            ·rw[if_pos (beq_iff_eq.mpr z6)];exact Qk (.inl ⟨_,_,rfl,m6.fb z6 p1,sm4⟩)
            ·rw[if_neg (JR z6)];by_cases z7:t2=0
             ·rw[if_pos (beq_iff_eq.mpr z7)];exact Qk (.inl ⟨_,_,rfl,m6.dnB z7,sm4⟩)
             ·rw[if_neg (JR z7)];refine Qj (Q3 (by omega) ?_);have m9:=MH.puA m6 (by omega) (by omega) λk k1 k2=>hA.ord.lt_le (b1 k k1)
              by_cases z9:t - 1=0
              ·rw[if_pos (beq_iff_eq.mpr z9)];exact Qk (.inl ⟨_,_,rfl,m9.dnA z9,sm4⟩)
              ·rw[if_neg (JR z9)];split
               ·exact Qk (.inr ⟨_,_,_,_,_,_,rfl,m9,by omega,by omega,by omega,by omega,by omega,sm4⟩)
               ·exact Qk ⟨_,_,_,_,_,_,rfl,m9,by omega,by omega,by omega,by omega,by omega,sm4⟩
           ·rw[if_neg zk2];have zt:t2=j - 1:=by omega
            refine Qj (Q3 (by omega) ?_);have m9:=MH.puA m5 (by omega) (by omega) λk k1 k2=>hA.ord.lt_le (b1 k (by omega))
            by_cases z9:t - 1=0
            ·rw[if_pos (beq_iff_eq.mpr z9)];exact Qk (.inl ⟨_,_,rfl,m9.dnA z9,sm4⟩)
            ·rw[if_neg (JR z9)];split
             ·exact Qk (.inr ⟨_,_,_,_,_,_,rfl,m9,by omega,by omega,by omega,by omega,by omega,sm4⟩)
             ·exact Qk ⟨_,_,_,_,_,_,rfl,m9,by omega,by omega,by omega,by omega,by omega,sm4⟩
        ·rw[if_neg zk];have zt:t=i:=by omega
         subst zt;refine Qj (Q3 (by omega) ?_);have m5:=MH.puB m (by omega) (by omega) λk k1 k2=>lowA k k1
         by_cases z5:j - 1=1
         ·rw[if_pos (beq_iff_eq.mpr z5)];exact Qk (.inl ⟨_,_,rfl,m5.fb z5 p1,sm4⟩)
         ·rw[if_neg (JR z5)];refine Qj (Q3 (by omega) ?_);refine Qj (ZK hA (sm4.kind.trans hk) (ma _ (QeK (by omega))) mb (by omega) (by omega) (λx y x1 xy y1=>sb x y (Qs _) xy (by omega)) λt2 t2n b1 b2=>?_);have b1:∀n,n<t2->c (kx b n) (kx a (t - 1))=true:=λn hn=>by have:=b1 n hn;rwa [J7] at this
          have b2:∀n,t2<=n->n<j - 1->c (kx b n) (kx a (t - 1))=false:=λn h1 h2=>by have:=b2 n h1 h2;rwa [J7] at this
          dsimp only
          by_cases zk2:j - 1 - t2 > 0
          ·rw[if_pos zk2];have m6:=MH.chB (t:=t2) m5 t2n λn n1 n2 _ k k1 k2=>hA.ord.tr (sa k (t - 1) (Qs _) (by omega) (by omega)) (b2 n n1 n2)
           by_cases z6:t2=1
           ·rw[if_pos (beq_iff_eq.mpr z6)];exact Qk (.inl ⟨_,_,rfl,m6.fb z6 p1,sm4⟩)
           ·rw[if_neg (JR z6)];by_cases z7:t2=0
            ·rw[if_pos (beq_iff_eq.mpr z7)];exact Qk (.inl ⟨_,_,rfl,m6.dnB z7,sm4⟩)
            ·rw[if_neg (JR z7)];refine Qj (Q3 (by omega) ?_);have m9:=MH.puA m6 (by omega) (by omega) λk k1 k2=>hA.ord.lt_le (b1 k k1)
             by_cases z9:t - 1=0
             ·rw[if_pos (beq_iff_eq.mpr z9)];exact Qk (.inl ⟨_,_,rfl,m9.dnA z9,sm4⟩)
             ·rw[if_neg (JR z9)];split
              ·exact Qk (.inr ⟨_,_,_,_,_,_,rfl,m9,by omega,by omega,by omega,by omega,by omega,sm4⟩)
              ·exact Qk ⟨_,_,_,_,_,_,rfl,m9,by omega,by omega,by omega,by omega,by omega,sm4⟩
          ·rw[if_neg zk2];have zt:t2=j - 1:=by omega
           refine Qj (Q3 (by omega) ?_);have m9:=MH.puA m5 (by omega) (by omega) λk k1 k2=>hA.ord.lt_le (b1 k (by omega))
           by_cases z9:t - 1=0
           ·rw[if_pos (beq_iff_eq.mpr z9)];exact Qk (.inl ⟨_,_,rfl,m9.dnA z9,sm4⟩)
           ·rw[if_neg (JR z9)];split
            ·exact Qk (.inr ⟨_,_,_,_,_,_,rfl,m9,by omega,by omega,by omega,by omega,by omega,sm4⟩)
            ·exact Qk ⟨_,_,_,_,_,_,rfl,m9,by omega,by omega,by omega,by omega,by omega,sm4⟩
       ·rw[if_neg z0];refine Qj (QfP sm λst4 sm4=>?_);refine Qj (Q3 (by omega) ?_);refine Qj (ZK hA (sm4.kind.trans hk) (mb _ (QeK (by omega))) ma (by omega) (by omega) (λx y x1 xy y1=>sa x y (Qs _) xy (by omega)) λt tn b1 b2=>?_);have lowA:∀n,n<t->le c (kx a n) (kx b (j - 1)):=λn hn=>by
         have:(!c (kx b (j - 1)) (kx a (0+n)))=true:=b1 n hn;rw[J7] at this
         simpa using this
        have b2:∀n,t<=n->n<i->c (kx b (j - 1)) (kx a n)=true:=λn h1 h2=>by
         have:(!c (kx b (j - 1)) (kx a (0+n)))=false:=b2 n h1 h2;rw[J7] at this
         simpa using this
        dsimp only
        by_cases zk:i - t > 0
        ·rw[if_pos zk];have m2:=MH.chA (t:=t) m tn λn n1 n2 _ k k1 k2=>hA.ord.tr (sb k (j - 1) (Qs _) (by omega) (by omega)) (hA.ord.lt_le (b2 n n1 n2))
         by_cases z2:t=0
         ·rw[if_pos (beq_iff_eq.mpr z2)];exact Qk (.inl ⟨_,_,rfl,m2.dnA z2,sm4⟩)
         ·rw[if_neg (JR z2)];refine Qj (Q3 (by omega) ?_);have m5:=MH.puB m2 (by omega) (by omega) λk k1 k2=>lowA k k1
          by_cases z5:j - 1=1
          ·rw[if_pos (beq_iff_eq.mpr z5)];exact Qk (.inl ⟨_,_,rfl,m5.fb z5 p1,sm4⟩)
          ·rw[if_neg (JR z5)];refine Qj (Q3 (by omega) ?_);refine Qj (ZK hA (sm4.kind.trans hk) (ma _ (QeK (by omega))) mb (by omega) (by omega) (λx y x1 xy y1=>sb x y (Qs _) xy (by omega)) λt2 t2n b1 b2=>?_);have b1:∀n,n<t2->c (kx b n) (kx a (t - 1))=true:=λn hn=>by have:=b1 n hn;rwa [J7] at this
           have b2:∀n,t2<=n->n<j - 1->c (kx b n) (kx a (t - 1))=false:=λn h1 h2=>by have:=b2 n h1 h2;rwa [J7] at this
           dsimp only
           by_cases zk2:j - 1 - t2 > 0
           ·rw[if_pos zk2];have m6:=MH.chB (t:=t2) m5 t2n λn n1 n2 _ k k1 k2=>hA.ord.tr (sa k (t - 1) (Qs _) (by omega) (by omega)) (b2 n n1 n2)
            by_cases z6:t2=1
            ·rw[if_pos (beq_iff_eq.mpr z6)];exact Qk (.inl ⟨_,_,rfl,m6.fb z6 p1,sm4⟩)
            ·rw[if_neg (JR z6)];by_cases z7:t2=0
             ·rw[if_pos (beq_iff_eq.mpr z7)];exact Qk (.inl ⟨_,_,rfl,m6.dnB z7,sm4⟩)
             ·rw[if_neg (JR z7)];refine Qj (Q3 (by omega) ?_);have m9:=MH.puA m6 (by omega) (by omega) λk k1 k2=>hA.ord.lt_le (b1 k k1)
              by_cases z9:t - 1=0
              ·rw[if_pos (beq_iff_eq.mpr z9)];exact Qk (.inl ⟨_,_,rfl,m9.dnA z9,sm4⟩)
              ·rw[if_neg (JR z9)];split
               ·exact Qk (.inr ⟨_,_,_,_,_,_,rfl,m9,by omega,by omega,by omega,by omega,by omega,sm4⟩)
               ·exact Qk ⟨_,_,_,_,_,_,rfl,m9,by omega,by omega,by omega,by omega,by omega,sm4⟩
           ·rw[if_neg zk2];have zt:t2=j - 1:=by omega
            refine Qj (Q3 (by omega) ?_);have m9:=MH.puA m5 (by omega) (by omega) λk k1 k2=>hA.ord.lt_le (b1 k (by omega))
            by_cases z9:t - 1=0
            ·rw[if_pos (beq_iff_eq.mpr z9)];exact Qk (.inl ⟨_,_,rfl,m9.dnA z9,sm4⟩)
            ·rw[if_neg (JR z9)];split
             ·exact Qk (.inr ⟨_,_,_,_,_,_,rfl,m9,by omega,by omega,by omega,by omega,by omega,sm4⟩)
             ·exact Qk ⟨_,_,_,_,_,_,rfl,m9,by omega,by omega,by omega,by omega,by omega,sm4⟩
        ·rw[if_neg zk];have zt:t=i:=by omega
         subst zt;refine Qj (Q3 (by omega) ?_);have m5:=MH.puB m (by omega) (by omega) λk k1 k2=>lowA k k1
         by_cases z5:j - 1=1
         ·rw[if_pos (beq_iff_eq.mpr z5)];exact Qk (.inl ⟨_,_,rfl,m5.fb z5 p1,sm4⟩)
         ·rw[if_neg (JR z5)];refine Qj (Q3 (by omega) ?_);refine Qj (ZK hA (sm4.kind.trans hk) (ma _ (QeK (by omega))) mb (by omega) (by omega) (λx y x1 xy y1=>sb x y (Qs _) xy (by omega)) λt2 t2n b1 b2=>?_);have b1:∀n,n<t2->c (kx b n) (kx a (t - 1))=true:=λn hn=>by have:=b1 n hn;rwa [J7] at this
          have b2:∀n,t2<=n->n<j - 1->c (kx b n) (kx a (t - 1))=false:=λn h1 h2=>by have:=b2 n h1 h2;rwa [J7] at this
          dsimp only
          by_cases zk2:j - 1 - t2 > 0
          ·rw[if_pos zk2];have m6:=MH.chB (t:=t2) m5 t2n λn n1 n2 _ k k1 k2=>hA.ord.tr (sa k (t - 1) (Qs _) (by omega) (by omega)) (b2 n n1 n2)
           by_cases z6:t2=1
           ·rw[if_pos (beq_iff_eq.mpr z6)];exact Qk (.inl ⟨_,_,rfl,m6.fb z6 p1,sm4⟩)
           ·rw[if_neg (JR z6)];by_cases z7:t2=0
            ·rw[if_pos (beq_iff_eq.mpr z7)];exact Qk (.inl ⟨_,_,rfl,m6.dnB z7,sm4⟩)
            ·rw[if_neg (JR z7)];refine Qj (Q3 (by omega) ?_);have m9:=MH.puA m6 (by omega) (by omega) λk k1 k2=>hA.ord.lt_le (b1 k k1)
             by_cases z9:t - 1=0
             ·rw[if_pos (beq_iff_eq.mpr z9)];exact Qk (.inl ⟨_,_,rfl,m9.dnA z9,sm4⟩)
             ·rw[if_neg (JR z9)];split
              ·exact Qk (.inr ⟨_,_,_,_,_,_,rfl,m9,by omega,by omega,by omega,by omega,by omega,sm4⟩)
              ·exact Qk ⟨_,_,_,_,_,_,rfl,m9,by omega,by omega,by omega,by omega,by omega,sm4⟩
          ·rw[if_neg zk2];have zt:t2=j - 1:=by omega
           refine Qj (Q3 (by omega) ?_);have m9:=MH.puA m5 (by omega) (by omega) λk k1 k2=>hA.ord.lt_le (b1 k (by omega))
           by_cases z9:t - 1=0
           ·rw[if_pos (beq_iff_eq.mpr z9)];exact Qk (.inl ⟨_,_,rfl,m9.dnA z9,sm4⟩)
           ·rw[if_neg (JR z9)];split
            ·exact Qk (.inr ⟨_,_,_,_,_,_,rfl,m9,by omega,by omega,by omega,by omega,by omega,sm4⟩)
            ·exact Qk ⟨_,_,_,_,_,_,rfl,m9,by omega,by omega,by omega,by omega,by omega,sm4⟩
end
theorem QjB(i:Nat):mergeAt' i=(do
 let z <- get
 let (some (u,n,pw),some (v,m,_)):=((pendingOf z)[i]?,(pendingOf z)[i+1]?) | unsupported "internal:list.sort.pending"
 set (setPending z (((pendingOf z).setIfInBounds i (u,n+m,pw)).eraseIdxIfInBounds (i+1)))
 let some k <- Qcg false (<- elem' (arrOf z) v) (arrOf z) u n 0 | return false
 let (u,n):=(u+k,n - k)
 if n == 0 then return true
 let some m <- Qcg true (<- elem' (arrOf z) (u+n - 1)) (arrOf z) v m (m - 1) | return false
 if m == 0 then return true
 let x:=(arrOf z).extract u v
 let y:=(arrOf z).extract v (v+m)
 let mm <- if n<=m then Qg7 x y else Qg8 x y
 modify λz=>setArr z (mm.toList.zipIdx.foldl (λa (p,j)=>a.setIfInBounds (u+j) p) (arrOf z))
 return (failedOf (<- get)).isNone):=rfl
theorem Qto{σ:Type}{M:QzM}{A:Q5}{E:Value->Shared->Prop}{s:Shared}{Q:PUnit->σ->Prop}{st st':σ}(h:Q ⟨⟩ st'):wpS M A E s (set st':StateT σ Sem PUnit) Q st:=by
 unfold wpS;rw[StateT.run_set];exact Qb ⟨rfl,h⟩
theorem QkO(u:Nat):∀(z:List Keyed)(m:Nat)(xs:Array Keyed),u+m+z.length<=xs.size->((z.zipIdx m).foldl (λa (p:Keyed×Nat)=>a.setIfInBounds (u+p.2) p.1) xs).toList=xs.toList.take (u+m)++z++xs.toList.drop (u+m+z.length)
 |[],m,xs,_=>by
  show xs.toList=_;rw[JX,Qbw,Qdf,Jg]
 |p::z,m,xs,h=>by
  rw[Qx] at h;rw[QfM,Qbx];have ih:=QkO u z (m+1) (xs.setIfInBounds (u+m) p) (by rw[QiX];omega);rw[ih,QhF,List.set_eq_take_append_cons_drop,if_pos (by rw[Qd];omega)];have lt:(xs.toList.take (u+m)).length=u+m:=by rw[JG,Qd];omega
  have e1:(xs.toList.take (u+m)++p::xs.toList.drop (u+m+1)).take (u+(m+1))=xs.toList.take (u+m)++[p]:=by
   rw[List.take_append,lt,QaP (by omega),show u+(m+1) - (u+m)=1 by omega];rfl
  have e2:(xs.toList.take (u+m)++p::xs.toList.drop (u+m+1)).drop (u+(m+1)+z.length)=xs.toList.drop (u+m+(p::z).length):=by
   rw[List.drop_append,lt,YI (by omega),Qda,show u+(m+1)+z.length - (u+m)=z.length+1 by omega,List.drop_succ_cons,QiU,Qx]
   congr 1
   omega
  rw[e1,e2,QQ,QQ,QQ];rfl
theorem Qin{xs ys:Array Keyed}{i j:Nat}(h:xs.toList[i]? = ys.toList[j]?):kx xs i=kx ys j:=by
 rw[Q0,Q0] at h;exact QjF h
theorem QsM{xs:Array Keyed}{u v t:Nat}(h:u+t<v)(hv:v<=xs.size):kx (xs.extract u v) t=kx xs (u+t):=by
 refine QjF ?_
 rw[Array.getElem?_extract,if_pos (by omega)]
section
variable{c:Keyed->Keyed->Bool}
structure Laid (c:Keyed->Keyed->Bool) (xs ws z:Array Keyed) (lo hi:Nat):Prop where
 size:ws.size=xs.size
 perm:ws.Perm xs
 out:∀n,n<lo∨hi<=n->kx ws n=kx xs n
 mid:∀n,lo<=n->n<hi->kx ws n=kx z (n - lo)
 zs:z.size=hi - lo
 of_:∀n,lo<=n->n<hi->∃m,lo<=m/\m<hi/\kx ws n=kx xs m
theorem Qvc{xs z:Array Keyed}{lo v hi:Nat}(h1:lo<=v)(h2:v<=hi)(h3:hi<=xs.size)(o:Out c (xs.extract lo v) (xs.extract v hi) z):Laid c xs (z.toList.zipIdx.foldl (λa (p:Keyed×Nat)=>a.setIfInBounds (lo+p.2) p.1) xs) z lo hi:=by
 have ln:z.toList.length=hi - lo:=by
  rw[o.2.length_eq,Qv,Qd,Qd,QbH,QbH];omega
 have zs:z.size=hi - lo:=by rw[<- ln,Qd]
 have lb:=QkO lo z.toList 0 xs (by omega);rw[Qdf,ln,show lo+(hi - lo)=hi by omega] at lb;generalize hw:z.toList.zipIdx.foldl (λa (p:Keyed×Nat)=>a.setIfInBounds (lo+p.2) p.1) xs=ws;rw[show z.toList.zipIdx 0=z.toList.zipIdx from rfl,hw] at lb;have lt:(xs.toList.take lo).length=lo:=by rw[JG,Qd];omega
 have mid0:xs.toList=xs.toList.take lo++((xs.extract lo v).toList++(xs.extract v hi).toList)++xs.toList.drop hi:=by
  rw[Qa7,Qa7];have e1:xs.toList.take hi=xs.toList.take v++(xs.toList.take hi).drop v:=by
   have:=(Jg v (xs.toList.take hi)).symm
   rwa [QdH,Y5 h2] at this
  have e2:xs.toList.take v=xs.toList.take lo++(xs.toList.take v).drop lo:=by
   have:=(Jg lo (xs.toList.take v)).symm
   rwa [QdH,Y5 h1] at this
  rw[<- QQ,<- e2,<- e1,Jg]
 have szl:ws.toList.length=xs.toList.length:=by
  rw[lb,Qv,Qv,lt,ln,YA,Qd];omega
 have md:∀n,lo<=n->n<hi->kx ws n=kx z (n - lo):=λn n1 n2=>by
  refine Qin ?_
  rw[lb,ZH (by rw[Qv,lt,ln];omega),Jk (by rw[lt];exact n1),lt]
 refine⟨by rw[<- Qd,szl,Qd],?_,λn hn=>?_,md,zs,λn n1 n2=>?_⟩
 ·refine Zz.mpr ?_
  rw[lb]
  conv=>rhs;rw[mid0]
  exact Qay _ (YE _ o.2)
 ·refine Qin ?_
  rw[lb];rcases hn with hn | hn
  ·rw[QQ,ZH (by rw[lt];exact hn),Qey,if_pos hn]
  ·rw[Jk (by rw[Qv,lt,ln];omega),Qv,lt,ln,YM]
   congr 1
   omega
 ·have hz:n - lo<z.size:=by omega
  have hm:=o.2.mem_iff.mp (QeK hz);rw[md n n1 n2];rcases Jb.mp hm with q | q
  ·rw[Qa7] at q;obtain⟨m,m1,m2,_,e⟩:=Qak q;exact⟨m,m1,by omega,e⟩
  ·rw[Qa7] at q;obtain⟨m,m1,m2,_,e⟩:=Qak q;exact⟨m,by omega,m2,e⟩
end
section
variable{prog:QC}{w:Q9}{A:Q5}{E:Value->Shared->Prop}{s:Shared}{a₀:Array Keyed}{κ:Yt}{c:Keyed->Keyed->Bool}
structure Mg (κ:Yt) (a₀:Array Keyed) (c:Keyed->Keyed->Bool) (st st':J4) (i u v hi pn pw:Nat):Prop where
 sb:SB κ a₀ st'
 pend:pendingOf st'=((pendingOf st).setIfInBounds i (u,pn,pw)).eraseIdxIfInBounds (i+1)
 out:∀n,n<u∨hi<=n->kx (arrOf st') n=kx (arrOf st) n
 sg:Sg c (arrOf st') u hi
theorem Qi7{st:J4}{i u n pw m pw2:Nat}{Q:Bool->J4->Prop}(hA:Asks prog w A s κ a₀ c)(hB:SB κ a₀ st)(e1:(pendingOf st)[i]? = some (u,n,pw))(e2:(pendingOf st)[i+1]? = some (u+n,m,pw2))(n1:1<=n)(m1:1<=m)(hz:u+n+m<=a₀.size)
  (s1:Sg c (arrOf st) u (u+n))(s2:Sg c (arrOf st) (u+n) (u+n+m))(h:∀st',Mg κ a₀ c st st' i u (u+n) (u+n+m) (n+m) pw->Q true st'):wpS (model prog w) A E s (mergeAt' i) Q st:=by
 have sz:=hB.size;have mem:∀p∈(arrOf st).toList,p∈a₀.toList:=λp hp=>hB.mem hp
 have memE:∀{x y:Nat}{p:Keyed},p∈((arrOf st).extract x y).toList->p∈a₀.toList:=λ{x y p} hp=>mem p (by rw[Qa7] at hp;exact QdA (Qbb hp))
 rw[QjB];refine Qj (QcG ?_);rw[e1,e2]
 dsimp only
 refine Qj (Qto ?_);refine Qj (Q3 (by omega) ?_);refine Qj (ZK hA hB.kind (mem _ (QeK (by omega))) mem (by omega) (by omega) s1 λk kn b1 b2=>?_);have b1:∀t,t<k->le c (kx (arrOf st) (u+t)) (kx (arrOf st) (u+n)):=λt ht=>by
  have:(!c (kx (arrOf st) (u+n)) (kx (arrOf st) (u+t)))=true:=b1 t ht
  simpa using this
 have b2:∀t,k<=t->t<n->c (kx (arrOf st) (u+n)) (kx (arrOf st) (u+t))=true:=λt h1 h2=>by
  have:(!c (kx (arrOf st) (u+n)) (kx (arrOf st) (u+t)))=false:=b2 t h1 h2
  simpa using this
 dsimp only
 by_cases z1:n - k=0
 ·rw[if_pos (beq_iff_eq.mpr z1)];refine Qk (h _ ⟨⟨hB.perm,hB.kind,hB.failed⟩,rfl,λ_ _=>rfl,λx y x1 xy y1=>?_⟩);show le c (kx (arrOf st) x) (kx (arrOf st) y);by_cases zx:x<u+n
  ·by_cases zy:y<u+n
   ·exact s1 x y x1 xy zy
   ·have:=b1 (x - u) (by omega);rw[show u+(x - u)=x by omega] at this;exact hA.ord.tr this (s2 (u+n) y (Qh _) (by omega) y1)
  ·exact s2 x y (by omega) xy y1
 ·rw[if_neg (JR z1)];have hl:u+k+(n - k) - 1=u+n - 1:=by omega
  rw[hl];refine Qj (Q3 (by omega) ?_);refine Qj (ZK hA hB.kind (mem _ (QeK (by omega))) mem (by omega) (by omega) s2 λm2 mn d1 d2=>?_);have d1:∀t,t<m2->c (kx (arrOf st) (u+n+t)) (kx (arrOf st) (u+n - 1))=true:=λt ht=>d1 t ht
  have d2:∀t,m2<=t->t<m->le c (kx (arrOf st) (u+n - 1)) (kx (arrOf st) (u+n+t)):=λt h1 h2=>d2 t h1 h2
  dsimp only
  by_cases z2:m2=0
  ·rw[if_pos (beq_iff_eq.mpr z2)];refine Qk (h _ ⟨⟨hB.perm,hB.kind,hB.failed⟩,rfl,λ_ _=>rfl,λx y x1 xy y1=>?_⟩);show le c (kx (arrOf st) x) (kx (arrOf st) y);by_cases zx:x<u+n
   ·by_cases zy:y<u+n
    ·exact s1 x y x1 xy zy
    ·have:=d2 (y - (u+n)) (by omega) (by omega);rw[show u+n+(y - (u+n))=y by omega] at this;exact hA.ord.tr (s1 x (u+n - 1) x1 (by omega) (by omega)) this
   ·exact s2 x y (by omega) xy y1
  ·rw[if_neg (JR z2)];have ex:∀t,t<n - k->kx ((arrOf st).extract (u+k) (u+n)) t=kx (arrOf st) (u+k+t):=λt ht=>QsM (by omega) (by omega)
   have ey:∀t,t<m2->kx ((arrOf st).extract (u+n) (u+n+m2)) t=kx (arrOf st) (u+n+t):=λt ht=>QsM (by omega) (by omega)
   have sx:((arrOf st).extract (u+k) (u+n)).size=n - k:=by rw[QbH];omega
   have sy:((arrOf st).extract (u+n) (u+n+m2)).size=m2:=by rw[QbH];omega
   have fin:∀(z:Array Keyed)(st':J4),Sm (setPending st (((pendingOf st).setIfInBounds i (u,n+m,pw)).eraseIdxIfInBounds (i+1))) st'->Out c ((arrOf st).extract (u+k) (u+n)) ((arrOf st).extract (u+n) (u+n+m2)) z ->
     wpS (model prog w) A E s (do
      modify λx=>setArr x (z.toList.zipIdx.foldl (λa (p,j)=>a.setIfInBounds (u+k+j) p) (arrOf x))
      return (failedOf (<- get)).isNone) Q st':=λz st' sm o=>by
    refine Qj (QaO (Qj (QcG ?_)));have fe:failedOf st'=none:=sm.failed.trans hB.failed;have ae:arrOf st'=arrOf st:=sm.arr;have L:=Qvc (c:=c) (xs:=arrOf st) (z:=z) (lo:=u+k) (v:=u+n) (hi:=u+n+m2) (by omega) (by omega) (by omega) o;refine Qk ?_
    show Q ((failedOf st').isNone) _;rw[fe,ae];refine h _ ⟨⟨L.perm.trans hB.perm,sm.kind.trans hB.kind,fe⟩,sm.pend,λx hx=>L.out x (by omega),λx y x1 xy y1=>?_⟩;generalize z.toList.zipIdx.foldl (λa (p:Keyed×Nat)=>a.setIfInBounds (u+k+p.2) p.1) (arrOf st)=ws at L;show le c (kx ws x) (kx ws y);have a0:∀x,u<=x->x<u+k->le c (kx (arrOf st) x) (kx (arrOf st) (u+n)):=λx g1 g2=>by have:=b1 (x - u) (by omega);rwa [show u+(x - u)=x by omega] at this
    have b9:∀y,u+n+m2<=y->y<u+n+m->le c (kx (arrOf st) (u+n - 1)) (kx (arrOf st) y):=λy g1 g2=>by have:=d2 (y - (u+n)) (by omega) (by omega);rwa [show u+n+(y - (u+n))=y by omega] at this
    by_cases zx:x<u+k
    ·rw[L.out x (.inl zx)];by_cases zy:y<u+k
     ·rw[L.out y (.inl zy)];exact s1 x y x1 xy (by omega)
     ·by_cases zy2:y<u+n+m2
      ·obtain⟨q,q1,q2,qe⟩:=L.of_ y (by omega) zy2;rw[qe];by_cases zq:q<u+n
       ·exact s1 x q x1 (by omega) zq
       ·exact hA.ord.tr (a0 x x1 zx) (s2 (u+n) q (Qh _) (by omega) (by omega))
      ·rw[L.out y (.inr (by omega))];exact hA.ord.tr (a0 x x1 zx) (s2 (u+n) y (Qh _) (by omega) y1)
    ·by_cases zx2:x<u+n+m2
     ·by_cases zy2:y<u+n+m2
      ·rw[L.mid x (by omega) zx2,L.mid y (by omega) zy2];by_cases xe:x=y
       ·subst xe;exact hA.ord.irr _
       ·have g:=Jo.mp o.1 (x - (u+k)) (y - (u+k)) (by rw[Qd,L.zs];omega) (by rw[Qd,L.zs];omega) (by omega);have k1:=QaQ (xs:=z) (i:=x - (u+k)) (by rw[L.zs];omega);have k2:=QaQ (xs:=z) (i:=y - (u+k)) (by rw[L.zs];omega);rw[Qo (by rw[Qd,L.zs];omega)] at k1 k2;rw[Qt k1,Qt k2] at g;exact g
      ·rw[L.out y (.inr (by omega))];obtain⟨q,q1,q2,qe⟩:=L.of_ x (by omega) zx2;rw[qe];by_cases zq:q<u+n
       ·exact hA.ord.tr (s1 q (u+n - 1) (by omega) (by omega) (by omega)) (b9 y (by omega) y1)
       ·exact s2 q y (by omega) (by omega) y1
     ·rw[L.out x (.inr (by omega)),L.out y (.inr (by omega))];exact s2 x y (by omega) xy y1
   have hsx:Sg c ((arrOf st).extract (u+k) (u+n)) 0 ((arrOf st).extract (u+k) (u+n)).size:=λx y _ xy y1=>by
    rw[sx] at y1;rw[ex x (by omega),ex y y1];exact s1 _ _ (by omega) (by omega) (by omega)
   have hsy:Sg c ((arrOf st).extract (u+n) (u+n+m2)) 0 ((arrOf st).extract (u+n) (u+n+m2)).size:=λx y _ xy y1=>by
    rw[sy] at y1;rw[ey x (by omega),ey y y1];exact s2 _ _ (by omega) (by omega) (by omega)
   have hp1:∀t,t<((arrOf st).extract (u+k) (u+n)).size->le c (kx ((arrOf st).extract (u+n) (u+n+m2)) 0) (kx ((arrOf st).extract (u+k) (u+n)) t):=λt ht=>by
    rw[sx] at ht;rw[ey 0 (by omega),ex t ht,Qdf];have:=b2 (k+t) (by omega) (by omega);rw[show u+(k+t)=u+k+t by omega] at this;exact hA.ord.lt_le this
   have hp2:∀t,t<((arrOf st).extract (u+n) (u+n+m2)).size->le c (kx ((arrOf st).extract (u+n) (u+n+m2)) t) (kx ((arrOf st).extract (u+k) (u+n)) (((arrOf st).extract (u+k) (u+n)).size - 1)):=λt ht=>by
    rw[sy] at ht;rw[sx,ey t ht,ex (n - k - 1) (by omega),show u+k+(n - k - 1)=u+n - 1 by omega];exact hA.ord.lt_le (d1 t ht)
   split
   ·exact Qj (Qi5 hA hB.kind (λp hp=>memE hp) (λp hp=>memE hp) (by rw[sx];omega) (by rw[sy];omega) hsx hsy hp1 hp2 λz st' sm o=>fin z st' sm o)
   ·exact Qj (Qi6 hA hB.kind (λp hp=>memE hp) (λp hp=>memE hp) (by rw[sx];omega) (by rw[sy];omega) hsx hsy hp1 hp2 λz st' sm o=>fin z st' sm o)
end
def RunsOk:List (Nat×Nat)->Nat->Nat->Prop
 |[],s,e=>s=e
 |(s',n)::r,s,e=>s'=s/\1<=n/\RunsOk r (s+n) e
theorem RunsOk.app:∀{l1 l2:List (Nat×Nat)}{s e:Nat},RunsOk (l1++l2) s e↔∃m,RunsOk l1 s m/\RunsOk l2 m e
 |[],l2,s,e=>⟨λh=>⟨s,rfl,h⟩,λ⟨m,h1,h2⟩=>by cases(show s=m from h1);exact h2⟩
 |(s',n)::l1,l2,s,e=>by
  constructor
  ·rintro⟨h1,h2,h3⟩;obtain⟨m,a,b⟩:=RunsOk.app.mp h3;exact⟨m,⟨h1,h2,a⟩,b⟩
  ·rintro⟨m,⟨h1,h2,a⟩,b⟩;exact⟨h1,h2,RunsOk.app.mpr ⟨m,a,b⟩⟩
theorem RunsOk.le:∀{l:List (Nat×Nat)}{s e:Nat},RunsOk l s e->s+l.length<=e
 |[],s,e,h=>by cases(show s=e from h);exact Qh _
 |(s',n)::l,s,e,⟨_,h2,h3⟩=>by
  have:=RunsOk.le h3;rw[Qx];omega
theorem RunsOk.mem:∀{l:List (Nat×Nat)}{s e:Nat},RunsOk l s e->∀p∈l,s<=p.1/\p.1+p.2<=e
 |(s',n)::l,s,e,⟨h1,h2,h3⟩,p,hp=>by
  have hl:=RunsOk.le h3;rcases Qu.mp hp with z | z
  ·subst z;show s<=s'/\s'+n<=e;omega
  ·have:=RunsOk.mem h3 p z;omega
def sn(p:Nat×Nat×Nat):Nat×Nat:=(p.1,p.2.1)
def Qah(st:J4):List (Nat×Nat):=(pendingOf st).toList.map sn
section
variable{prog:QC}{w:Q9}{A:Q5}{E:Value->Shared->Prop}{s:Shared}{a₀:Array Keyed}{κ:Yt}{c:Keyed->Keyed->Bool}
structure RI (κ:Yt) (a₀:Array Keyed) (c:Keyed->Keyed->Bool) (lo:Nat) (st:J4):Prop where
 sb:SB κ a₀ st
 runs:RunsOk (Qah st) 0 lo
 srt:∀p∈Qah st,Sg c (arrOf st) p.1 (p.1+p.2)
 le:lo<=a₀.size
theorem Sg.same{xs ys:Array Keyed}{u v:Nat}(h:Sg c xs u v)(k:∀n,u<=n->n<v->kx ys n=kx xs n):Sg c ys u v:=λi j hi hij hj=>by
 rw[k i hi (by omega),k j (by omega) hj];exact h i j hi hij hj
theorem Qwq{l:List (Nat×Nat×Nat)}{i:Nat}(h:i+1<l.length):∃l1 x y l2,l=l1++x::y::l2/\l1.length=i:=by
 refine⟨l.take i,l[i],l[i+1],l.drop (i+2),?_,by rw[JG];omega⟩;rw[<- Qap,<- Qap,Jg]
theorem QdM{st:J4}{lo i hi:Nat}{Q:Bool->J4->Prop}(hA:Asks prog w A s κ a₀ c)(ri:RI κ a₀ c lo st)(hi':i+1<(pendingOf st).size)
  (h:∀st',RI κ a₀ c lo st'->(pendingOf st').size+1=(pendingOf st).size->(∀n,lo<=n->kx (arrOf st') n=kx (arrOf st) n)->Q true st'):wpS (model prog w) A E s (mergeAt' i) Q st:=by
 obtain⟨l1,⟨u,n,pw⟩,⟨v,m,pw2⟩,l2,el,ll⟩:=Qwq (l:=(pendingOf st).toList) (i:=i) (by rw[Qd];exact hi');have er:Qah st=l1.map sn++(u,n)::(v,m)::l2.map sn:=by unfold Qah;rw[el,Jr];rfl
 have r0:=ri.runs;rw[er] at r0;obtain⟨q,ra,rb⟩:=RunsOk.app.mp r0;obtain⟨g1,g2,g3,g4,g5⟩:=rb;subst g1;subst g3;have e1:(pendingOf st)[i]? = some (u,n,pw):=by
  rw[<- Q0,el,Jk (by omega),ll,QfL];rfl
 have e2:(pendingOf st)[i+1]? = some (u+n,m,pw2):=by
  rw[<- Q0,el,Jk (by omega),ll,show i+1 - i=1 by omega];rfl
 have le5:=RunsOk.le g5;have le1:=ri.le;refine Qi7 hA ri.sb e1 e2 g2 g4 (by omega) (ri.srt (u,n) (by rw[er];simp)) (ri.srt (u+n,m) (by rw[er];simp)) λst' mg=>?_
 have ep:(pendingOf st').toList=l1++(u,n+m,pw)::l2:=by
  rw[mg.pend,Array.toList_eraseIdxIfInBounds,QhF,el,List.set_append_right _ _ (by omega),ll,QfL,List.set_cons_zero,List.eraseIdx_append_of_length_le (by omega),ll,show i+1 - i=1 by omega];rfl
 have er':Qah st'=l1.map sn++(u,n+m)::l2.map sn:=by unfold Qah;rw[ep,Jr];rfl
 refine h st' ⟨mg.sb,?_,λp hp=>?_,ri.le⟩ ?_ λk hk=>mg.out k (.inr (by omega))
 ·rw[er'];exact RunsOk.app.mpr ⟨u,ra,rfl,by omega,by rw[show u+(n+m)=u+n+m by omega];exact g5⟩
 ·rw[er'] at hp;rcases Jb.mp hp with z | z
  ·have b:=RunsOk.mem ra p z;exact(ri.srt p (by rw[er];exact ZV _ z)).same λk k1 k2=>mg.out k (.inl (by omega))
  ·rcases Qu.mp z with z | z
   ·subst z;show Sg c (arrOf st') u (u+(n+m));rw[show u+(n+m)=u+n+m by omega];exact mg.sg
   ·have b:=RunsOk.mem g5 p z;exact(ri.srt p (by rw[er];exact QR _ (QH _ (QH _ z)))).same λk k1 k2=>mg.out k (.inr (by omega))
 ·rw[<- Qd,<- Qd,ep,el,Qv,Qv,Qx,Qx,Qx];omega
theorem RI.pow{st:J4}{lo:Nat}(r:RI κ a₀ c lo st)(i pw:Nat):RI κ a₀ c lo (setPending st ((pendingOf st).modify i λx=>(x.1,x.2.1,pw))):=by
 have er:Qah (setPending st ((pendingOf st).modify i λx=>(x.1,x.2.1,pw)))=Qah st:=by
  show((pendingOf st).modify i λx=>(x.1,x.2.1,pw)).toList.map sn=(pendingOf st).toList.map sn;rw[Array.toList_modify];apply Z1
  intro j;rw[QB,QB,List.getElem?_modify];cases(pendingOf st).toList[j]? with
  |none=>rfl
  |some p=>
   show some (sn (if i=j then _ else p))=some (sn p);split<;>rfl
 exact⟨⟨r.sb.perm,r.sb.kind,r.sb.failed⟩,by rw[er];exact r.runs,by rw[er];exact r.srt,r.le⟩
theorem Qi4{st:J4}{Q:Unit->J4->Prop}(hA:Asks prog w A s κ a₀ c)(hB:SB κ a₀ st)(hp:pendingOf st=#[])
  (h:∀st',SB κ a₀ st'->Sg c (arrOf st') 0 a₀.size->Q () st'):wpS (model prog w) A E s sortRuns' Q st:=by
 rw[sortRuns'_eq];refine Qj (QcG ?_)
 dsimp only
 rw[hB.size];have ri0:RI κ a₀ c 0 st:=⟨hB,by unfold Qah;rw[hp];rfl,λp h=>by unfold Qah at h;rw[hp] at h;simp at h,Qs _⟩;refine Qj (YK (J3 (I:=λx z st'=>∃lo,z=(none,lo)/\RI κ a₀ c lo st'/\(x<=lo∨lo=a₀.size)) (Q:=λz st'=>z=(none,a₀.size)/\RI κ a₀ c a₀.size st') ?step ?fin ⟨0,rfl,ri0,.inl (Qh _)⟩) ?post)
 case fin=>
  rintro z st' ⟨lo,rfl,ri,hx⟩;have:=ri.le;have e:lo=a₀.size:=by omega
  subst e;exact⟨rfl,ri⟩
 case step=>
  rintro x z st' _ hx ⟨lo,rfl,ri,hxl⟩
  dsimp only
  have hle:=ri.le;by_cases z0:lo≥a₀.size
  ·rw[if_pos z0];have e:lo=a₀.size:=by omega
   subst e;exact Qk ⟨rfl,ri⟩
  ·rw[if_neg z0];refine Qj (QgG hA (by omega) (by omega) ri.sb λm st1 f1 m1 m2 sg1=>?_)
   dsimp only
   have ri1:RI κ a₀ c lo st1:=⟨f1.sb,by unfold Qah;rw[f1.pend];exact ri.runs,λp hp=>by
    unfold Qah at hp;rw[f1.pend] at hp;have b:=RunsOk.mem ri.runs p hp;exact(ri.srt p hp).same λk k1 k2=>f1.low k (by omega),hle⟩
   have push:∀(n:Nat)(st2:J4),RI κ a₀ c lo st2->1<=n->lo+n<=a₀.size->Sg c (arrOf st2) lo (lo+n)->RI κ a₀ c (lo+n) (setPending st2 ((pendingOf st2).push (lo,n,0))):=λn st2 r2 n1 n2 sg=>by
    have er:Qah (setPending st2 ((pendingOf st2).push (lo,n,0)))=Qah st2++[(lo,n)]:=by
     show((pendingOf st2).push (lo,n,0)).toList.map sn=_;rw[Qb6,Jr];rfl
    refine⟨⟨r2.sb.perm,r2.sb.kind,r2.sb.failed⟩,by rw[er];exact RunsOk.app.mpr ⟨lo,r2.runs,rfl,n1,rfl⟩,λp hp=>?_,n2⟩;rw[er] at hp;rcases Jb.mp hp with z | z
    ·exact r2.srt p z
    ·rw[Q6.mp z];exact sg
   by_cases zm:m<minRun' a₀.size a₀.size 0
   ·rw[if_pos zm];refine Qj (Qex (wpAny_rule ⟨rfl,?_⟩));refine Qj (QeX hA (by omega) m1 (by omega) f1.sb sg1 λst2 f2 sg2=>?_);simp only[Yy,JI,if_false];have ri2:RI κ a₀ c lo st2:=⟨f2.sb,by unfold Qah;rw[f2.pend];exact ri1.runs,λp hp=>by
     unfold Qah at hp;rw[f2.pend] at hp;have b:=RunsOk.mem ri1.runs p hp;exact(ri1.srt p hp).same λk k1 k2=>f2.low k (by omega),hle⟩
    refine Qj (QcG ?_);cases hb:(pendingOf st2).back? with
    |none=>
     dsimp only
     exact Qj (QaO (Qk ⟨_,rfl,push _ st2 ri2 (by omega) (by omega) sg2,by omega⟩))
    |some bb=>
     obtain⟨s1,s2,s3⟩:=bb
     dsimp only
     refine Qj (YK (J3 (I:=λ_ z st3=>z=(none,())/\RI κ a₀ c lo st3/\Sg c (arrOf st3) lo (lo+min (a₀.size - lo) (minRun' a₀.size a₀.size 0))) (Q:=λz st3=>z=(none,())/\RI κ a₀ c lo st3/\Sg c (arrOf st3) lo (lo+min (a₀.size - lo) (minRun' a₀.size a₀.size 0))) ?stepA (λ_ _ q=>q) ⟨rfl,ri2,sg2⟩) ?postA)
     case stepA=>
      rintro y z st3 _ hy ⟨rfl,r3,g3⟩;refine Qj (QcG ?_);by_cases z5:(pendingOf st3).size > 1
      ·rw[if_pos z5,getElem?_pos (pendingOf st3) ((pendingOf st3).size - 2) (by omega)];generalize (pendingOf st3)[(pendingOf st3).size - 2]'(by omega)=pp;obtain⟨q1,q2,q3⟩:=pp
       dsimp only
       split
       ·exact Qk ⟨rfl,r3,g3⟩
       ·refine Qj (QdM (hi:=0) hA r3 (by omega) λst4 r4 sz k4=>?_);exact Qk ⟨rfl,r4,g3.same λk k1 _=>k4 k k1⟩
      ·rw[if_neg z5];exact Qk ⟨rfl,r3,g3⟩
     case postA=>
      rintro z st3 ⟨rfl,r3,g3⟩
      dsimp only
      refine Qj (QaO (Qj (QaO (Qk ⟨_,rfl,push _ _ (r3.pow _ _) (by omega) (by omega) g3,by omega⟩))))
   ·rw[if_neg zm];refine Qj (QcG ?_);cases hb:(pendingOf st1).back? with
    |none=>
     dsimp only
     exact Qj (QaO (Qk ⟨_,rfl,push _ st1 ri1 m1 (by omega) sg1,by omega⟩))
    |some bb=>
     obtain⟨s1,s2,s3⟩:=bb
     dsimp only
     refine Qj (YK (J3 (I:=λ_ z st3=>z=(none,())/\RI κ a₀ c lo st3/\Sg c (arrOf st3) lo (lo+m)) (Q:=λz st3=>z=(none,())/\RI κ a₀ c lo st3/\Sg c (arrOf st3) lo (lo+m)) ?stepA (λ_ _ q=>q) ⟨rfl,ri1,sg1⟩) ?postA)
     case stepA=>
      rintro y z st3 _ hy ⟨rfl,r3,g3⟩;refine Qj (QcG ?_);by_cases z5:(pendingOf st3).size > 1
      ·rw[if_pos z5,getElem?_pos (pendingOf st3) ((pendingOf st3).size - 2) (by omega)];generalize (pendingOf st3)[(pendingOf st3).size - 2]'(by omega)=pp;obtain⟨q1,q2,q3⟩:=pp
       dsimp only
       split
       ·exact Qk ⟨rfl,r3,g3⟩
       ·refine Qj (QdM (hi:=0) hA r3 (by omega) λst4 r4 sz k4=>?_);exact Qk ⟨rfl,r4,g3.same λk k1 _=>k4 k k1⟩
      ·rw[if_neg z5];exact Qk ⟨rfl,r3,g3⟩
     case postA=>
      rintro z st3 ⟨rfl,r3,g3⟩
      dsimp only
      refine Qj (QaO (Qj (QaO (Qk ⟨_,rfl,push _ _ (r3.pow _ _) m1 (by omega) g3,by omega⟩))))
 case post=>
  rintro z st' ⟨rfl,ri⟩
  dsimp only
  refine Qj (YK (J3 (I:=λx z st3=>z=(none,())/\RI κ a₀ c a₀.size st3/\((pendingOf st3).size+x<=a₀.size∨(pendingOf st3).size<=1)) (Q:=λz st3=>z=(none,())/\RI κ a₀ c a₀.size st3/\(pendingOf st3).size<=1) ?stepB ?finB ⟨rfl,ri,.inl ?initB⟩) ?postB)
  case initB=>
   have:=RunsOk.le ri.runs;unfold Qah at this;rw[Qf,Qd] at this;omega
  case finB=>
   rintro z st3 ⟨rfl,r3,hx⟩;exact⟨rfl,r3,by omega⟩
  case stepB=>
   rintro x z st3 _ hx ⟨rfl,r3,hs⟩;refine Qj (QcG ?_);by_cases z5:(pendingOf st3).size<=1
   ·rw[if_pos z5];exact Qk ⟨rfl,r3,z5⟩
   ·rw[if_neg z5];have key:∀i,i+1<(pendingOf st3).size->wpS (model prog w) A E s (mergeAt' i) (λb st4=>b=true/\RI κ a₀ c a₀.size st4/\(pendingOf st4).size+1=(pendingOf st3).size) st3:=λi hi=>QdM (hi:=0) hA r3 hi λst4 r4 sz _=>⟨rfl,r4,sz⟩
    refine Qj (YK (key _ ?_) ?_)
    ·have ii:∀{p:Prop}[Decidable p],(if p then(pendingOf st3).size - 2 - 1 else(pendingOf st3).size - 2)+1<(pendingOf st3).size:=by intro p _;split<;>omega
     exact ii
    ·rintro bb st4 ⟨rfl,r4,sz⟩;exact Qk ⟨rfl,r4,by omega⟩
  case postB=>
   rintro z st3 ⟨rfl,r3,hs⟩;refine Qk (h st3 r3.sb ?_);have rr:=r3.runs;have hl:(Qah st3).length<=1:=by unfold Qah;rw[Qf,Qd];exact hs
   have hsr:=r3.srt;cases er:Qah st3 with
   |nil=>
    rw[er] at rr;rw[<- (show 0=a₀.size from rr)];exact λi j hi hij hj=>by omega
   |cons p l=>
    rw[er] at rr hl hsr;cases l with
    |cons p' l'=>simp at hl
    |nil=>
     obtain⟨g1,g2,g3⟩:=rr;have:=hsr p (Q6.mpr rfl);rw[g1,(show 0+p.2=a₀.size from g3)] at this;exact this
end
end Rt
namespace L2
def blk(X:Cx)(M:List Str)(scope:YC)(cl:List (Str×Addr))(ex:List Addr)(s3:Shared)(H3:Hp)(C:Addr):Cx where
 prog:=X.prog
 w:=X.w
 K:=X.K
 mg:=X.mg
 base:=X.base
 A:=X.A
 N:=M
 s₀:=s3
 H₀:=H3
 env:=compEnvC scope cl C X.env
 outer:=X.stack
 stack:=X.stack
 ex:=ex
 fn:=λ_=>false
 calm:=X.calm
 pn:=[]
 xe:=λ_ _=>False
def Qbz(env:Env):List (Str×Qbf)->List (Str×Addr)->List (Str×Addr)
 |[],acc=>acc
 |(n,k)::r,acc=>Qbz env r (if k=.free then(n,(env.cells.lookup n).getD 0)::acc else acc)
theorem QjN{env:Env}:∀(l:List (Str×Qbf))(acc:List (Str×Addr)),(∀x∈l,x.2=.free->∃c,env.cells.lookup x.1=some c) ->
  (forIn (m:=Sem) l acc λx cs=>(if(x.2 == Jf)=true then do let a <- cellOf env x.1;pure (JY ((x.1,a)::cs)) else pure (JY cs)))=pure (Qbz env l acc)
 |[],acc,_=>rfl
 |(n,k)::r,acc,h=>by
  rw[QhD];by_cases hk:k=.free
  ·subst hk;obtain⟨c,hc⟩:=h (n,.free) Jm rfl;have e1:cellOf env n=pure c:=by unfold cellOf;rw[hc]
   have e2:Qbz env ((n,.free)::r) acc=Qbz env r ((n,c)::acc):=by
    show Qbz env r (if Jf=.free then(n,(env.cells.lookup n).getD 0)::acc else acc)=_;rw[if_pos rfl,hc];rfl
   rw[e2];show((if(Jf == Jf)=true then do let a <- cellOf env n;pure (JY ((n,a)::acc)) else pure (JY acc)) >>= _)=_;rw[if_pos (show(Jf == Jf)=true by decide),e1];exact QjN r _ λx hx=>h x (QH _ hx)
  ·have hb:(k == Jf)=false:=by simpa using hk
   have e2:Qbz env ((n,k)::r) acc=Qbz env r acc:=by
    show Qbz env r (if k=.free then(n,(env.cells.lookup n).getD 0)::acc else acc)=_;rw[if_neg hk]
   rw[e2];show((if(k == Jf)=true then _ else pure (JY acc)) >>= _)=_;rw[hb,if_neg QK];exact QjN r _ λx hx=>h x (QH _ hx)
theorem Qfo{scope:YC}{env:Env}(h:∀x∈scope.names,x.2=.free->∃c,env.cells.lookup x.1=some c):closureFor scope env=pure (Qbz env scope.names []):=by
 have e:=QjN (env:=env) scope.names [] h;unfold closureFor;show(forIn scope.names [] _ >>= _)=_;have e':(forIn (m:=Sem) scope.names ([]:List (Str×Addr)) λx cs=>match x with | (name,kind)=>(if(kind == Jf)=true then do let a <- cellOf env name;pure (JY ((name,a)::cs)) else pure (JY cs)))=pure (Qbz env scope.names []):=e
 first
  |(rw[e'];rfl)
  |(refine Eq.trans (congrArg (λt=>t >>= _) e') ?_;rfl)
theorem QjO{env:Env}:∀(l:List (Str×Qbf))(acc:List (Str×Addr)),(∀x∈l,x.2=.free->∃c,env.cells.lookup x.1=some c)->(∀x c,acc.lookup x=some c->env.cells.lookup x=some c) ->
  (∀x c,(Qbz env l acc).lookup x=some c->env.cells.lookup x=some c)/\(∀x c,acc.lookup x=some c->(Qbz env l acc).lookup x=some c)/\∀x,(x,Jf)∈l->∃c,(Qbz env l acc).lookup x=some c
 |[],acc,_,ha=>⟨ha,λ_ _ h=>h,λ_ h=>nomatch h⟩
 |(n,k)::r,acc,h,ha=>by
  have hr:∀x∈r,x.2=.free->∃c,env.cells.lookup x.1=some c:=λx hx=>h x (QH _ hx)
  by_cases hk:k=.free
  ·subst hk;obtain⟨c,hc⟩:=h (n,.free) Jm rfl;have e2:Qbz env ((n,.free)::r) acc=Qbz env r ((n,c)::acc):=by
    show Qbz env r (if Jf=.free then(n,(env.cells.lookup n).getD 0)::acc else acc)=_;rw[if_pos rfl,hc];rfl
   rw[e2];have ha':∀x c',((n,c)::acc).lookup x=some c'->env.cells.lookup x=some c':=λx c' q=>by
    rw[Jw] at q;cases hx:x == n with
    |true=>
     rw[hx] at q;have z:c=c':=Qt q;have y:x=n:=by simpa using hx
     rw[y,<- z];exact hc
    |false=>rw[hx] at q;exact ha x c' q
   obtain⟨i1,i2,i3⟩:=QjO r ((n,c)::acc) hr ha';refine⟨i1,λx c' q=>?_,λx hx=>?_⟩
   ·refine i2 x c' ?_
    rw[Jw];cases hx:x == n with
    |true=>
     have y:x=n:=by simpa using hx
     have:=ha x c' q;rw[y,hc] at this;exact this
    |false=>exact q
   ·rcases Qu.mp hx with z | z
    ·cases z;exact⟨c,i2 n c (by rw[Jw,beq_self_eq_true])⟩
    ·exact i3 x z
  ·have e2:Qbz env ((n,k)::r) acc=Qbz env r acc:=by
    show Qbz env r (if k=.free then(n,(env.cells.lookup n).getD 0)::acc else acc)=_;rw[if_neg hk]
   rw[e2];obtain⟨i1,i2,i3⟩:=QjO r acc hr ha;refine⟨i1,i2,λx hx=>?_⟩;rcases Qu.mp hx with z | z
   ·cases z;exact absurd rfl hk
   ·exact i3 x z
theorem QcC{l:List (Str×Qbf)}{x:Str}{k:Qbf}(h:l.lookup x=some k):(x,k)∈l:=by
 induction l with
 |nil=>cases h
 |cons p r ih=>
  obtain⟨n,q⟩:=p;rw[Jw] at h;cases hx:x == n with
  |true=>
   rw[hx] at h;have y:x=n:=by simpa using hx
   have z:q=k:=Qt h;subst y z;exact Jm
  |false=>rw[hx] at h;exact QH _ (ih h)
theorem Qbt{env:Env}:∀{names:List (Str×Qbf)}{x:Str}{k:Qbf},(names.map λ(n,k)=>if(k == Jf&&env.scope.kind == .function&&env.kindOf n == some .cell) then(n,YW) else(n,k)).lookup x=some k ->
  names.lookup x=some k∨(k=.cell/\names.lookup x=some .free)
 |[],x,k,h=>by cases h
 |(n,q)::r,x,k,h=>by
  have ih:=@Qbt env r x k;rw[Jc] at h;have h':QhB x ((if(q == Jf&&env.scope.kind == .function&&env.kindOf n == some .cell)=true then(n,YW) else(n,q))::_)=some k:=h;cases hx:x == n with
  |true=>
   by_cases hc:(q == Jf&&env.scope.kind == .function&&env.kindOf n == some .cell)=true
   ·rw[if_pos hc,Jw,hx] at h';have z:YW=k:=Qt h';have y:q=.free:=by simp at hc;exact hc.1.1
    refine .inr ⟨z.symm,?_⟩;rw[Jw,hx,y]
   ·rw[if_neg hc,Jw,hx] at h';refine .inl ?_
    rw[Jw,hx];exact h'
  |false=>
   have h2:QhB x (r.map λ(n,k)=>if(k == Jf&&env.scope.kind == .function&&env.kindOf n == some .cell) then(n,YW) else(n,k))=some k:=by
    by_cases hc:(q == Jf&&env.scope.kind == .function&&env.kindOf n == some .cell)=true
    ·rw[if_pos hc,Jw,hx] at h';exact h'
    ·rw[if_neg hc,Jw,hx] at h';exact h'
   rw[Jw,hx];exact ih h2
theorem relabel_free{env:Env}:∀{names:List (Str×Qbf)}{x:Str},names.lookup x=some .free->(names.map λ(n,k)=>if(k == Jf&&env.scope.kind == .function&&env.kindOf n == some .cell) then(n,YW) else(n,k)).lookup x=some .cell ∨
   (names.map λ(n,k)=>if(k == Jf&&env.scope.kind == .function&&env.kindOf n == some .cell) then(n,YW) else(n,k)).lookup x=some .free
 |[],x,h=>by cases h
 |(n,q)::r,x,h=>by
  have ih:=@relabel_free env r x;rw[Jc];show QhB x ((if(q == Jf&&env.scope.kind == .function&&env.kindOf n == some .cell)=true then(n,YW) else(n,q))::_)=some .cell∨QhB x ((if(q == Jf&&env.scope.kind == .function&&env.kindOf n == some .cell)=true then(n,YW) else(n,q))::_)=some .free;cases hx:x == n with
  |true=>
   rw[Jw,hx] at h;have z:q=Jf:=Qt h;subst z;by_cases hc:(Jf == Jf&&env.scope.kind == .function&&env.kindOf n == some .cell)=true
   ·rw[if_pos hc,Jw,hx];exact .inl rfl
   ·rw[if_neg hc,Jw,hx];exact .inr rfl
  |false=>
   rw[Jw,hx] at h;by_cases hc:(q == Jf&&env.scope.kind == .function&&env.kindOf n == some .cell)=true
   ·rw[if_pos hc,Jw,hx];exact ih h
   ·rw[if_neg hc,Jw,hx];exact ih h
def QcO(N:List Str)(sc:YC)(M:List Str)(scope:YC)(cap:List (Option Nat)):Bool:=
 cap.length == M.length&&(M.zip cap).all (λ(x,o)=>match o with
  |none=>scope.names.lookup x == some .local
  |some j=>N[j]? == some x&&(scope.names.lookup x == some .free&&(sc.names.lookup x == some .cell||sc.names.lookup x == some .free))) &&
 (scope.kind == .function&&scope.names.all λy=>y.2 != .cell&&((y.2 != .free||(sc.names.lookup y.1 == some .cell||sc.names.lookup y.1 == some .free))&&(y.2 != .local||scope.names.lookup y.1 == some .local)))
def QdE(cap:List (Option Nat))(σ:St):St:=cap.map λo=>match o with
 |none=>none
 |some j=>(σ[j]?).getD none
structure CapOk (N:List Str) (sc:YC) (M:List Str) (scope:YC) (cap:List (Option Nat)):Prop where
 len:cap.length=M.length
 own:∀(i j:Nat)(x:Str),M[i]? = some x->cap[i]? = some (some j)->N[j]? = some x/\scope.names.lookup x=some .free/\(sc.names.lookup x=some .cell∨sc.names.lookup x=some .free)
 kind:scope.kind=.function
 cell:∀y∈scope.names,y.2≠.cell
 free:∀y∈scope.names,y.2=.free->sc.names.lookup y.1=some .cell∨sc.names.lookup y.1=some .free
 loc:∀y∈scope.names,y.2=.local->scope.names.lookup y.1=some .local
theorem CapOk.of{N:List Str}{sc:YC}{M:List Str}{scope:YC}{cap:List (Option Nat)}(h:QcO N sc M scope cap=true):CapOk N sc M scope cap:=by
 unfold QcO at h;simp only[JH,JN,beq_iff_eq] at h;obtain⟨⟨h1,h2⟩,h3,h4⟩:=h;refine⟨h1,λi j x e1 e2=>?_,h3,λy hy z=>?_,λy hy z=>?_,λy hy z=>?_⟩
 ·have hm:(x,some j)∈M.zip cap:=by
   have:(M.zip cap)[i]? = some (x,some j):=by rw[List.getElem?_zip_eq_some];exact⟨e1,e2⟩
   exact Q7 this
  have:=h2 _ hm;simp only[JH,beq_iff_eq,QaF] at this;exact this
 ·have:=(h4 y hy).1;simp[z] at this
 ·have:=(h4 y hy).2.1
  simpa [z] using this
 ·have:=(h4 y hy).2.2
  simpa [z] using this
section
variable{X:Cx}{pins:List (Addr×Obj)}{σ:St}{H H3:Hp}{s3:Shared}{M:List Str}{scope:YC}{cap:List (Option Nat)}{fp:List Addr}{h4:Heap}{t4:Nat}
theorem Cx.Ok.cells(ok:X.Ok){N:List Str}(c:CapOk N X.env.scope M scope cap):∀y∈scope.names,y.2=.free->∃d,X.env.cells.lookup y.1=some d:=λy hy z=>ok.has y.1 (c.free y hy z)
theorem Qcm(I:Inv X pins σ H3 s3)(c:CapOk X.N X.env.scope M scope cap)(hf:∀b∈fp,FpOk X pins H3 b)(hb:∀b∈fp,b<s3.heap.objs.size)
  (hn:h4.Ns s3.heap.objs.size λ_=>none)(hk:∀b o,s3.heap.get? b=some o->h4.get? b=some o) :
  Inv (blk X M scope (Qbz X.env scope.names []) fp s3 H3 s3.heap.objs.size) [] (QdE cap σ) H3 { s3 with heap:=h4,toks:=t4 }:=by
 obtain⟨c1,c2,c3⟩:=QjO scope.names [] (I.ok.cells c) (λx d q=>by cases q);refine⟨⟨I.ok.mod,c.kind,I.ok.glob,I.ok.blt,Qh _,λx y d e1 e2=>I.ok.inj x y d (c1 x d e1) (c1 y d e2),λx hx=>?_,(λx d z=>nomatch z),I.ok.hd,I.ok.frames,.inl rfl,λb hb'=>?_,I.bs,
  Q1 I.ok.bsz I.sz,λb o e z=>?_,λb hb' z=>?_,I.stack,I.stkFree⟩,rfl,I.bare,Un.kept hk,⟨_,hn,λi x v e1 e2 e3=>?_⟩,λx d e=>?_,I.hok.fresh (Qh _),λx d e=>I.freeC x d (c1 x d e),λp hp=>(nomatch hp),I.hok.kept hk,?_⟩
 ·have hx':(relabel scope X.env).names.lookup x=some .cell∨(relabel scope X.env).names.lookup x=some .free:=hx;rcases hx' with q | q
  ·rcases Qbt q with z | ⟨_,z⟩
   ·exact absurd rfl (c.cell _ (QcC z))
   ·exact c3 x (QcC z)
  ·rcases Qbt q with z | ⟨z,_⟩
   ·exact c3 x (QcC z)
   ·cases z
 ·obtain⟨f0,f1,f2,f3,f4,f5⟩:=hf b hb';exact⟨Qz (hb b hb'),λx d e=>f4 x d (c1 x d e)⟩
 ·obtain⟨f0,f1,f2,f3,f4,f5⟩:=hf b z;rcases f3 with q | q
  ·exact I.ok.noex b o e q
  ·exact absurd (QM (Qm e) (Q1 I.ok.bsz q)) (Qag _)
 ·obtain⟨f0,f1,f2,f3,f4,f5⟩:=hf b hb';rcases Qu.mp (I.stkSub b z) with q | q
  ·exact f1 q
  ·exact f2 q
 ·have e2':(cap.map λo=>match o with | none=>none | some j=>(σ[j]?).getD none)[i]? = some (some v):=e2;rw[QB] at e2';cases q:cap[i]? with
  |none=>rw[q] at e2';cases e2'
  |some o=>
   rw[q] at e2';cases o with
   |none=>cases e2'
   |some j=>
    have e4:(σ[j]?).getD none=some v:=Qt e2';have e5:σ[j]? = some (some v):=by
     cases r:σ[j]? with
     |none=>rw[r] at e4;cases e4
     |some o=>rw[r] at e4;exact congrArg some e4
    obtain⟨n1,n2,n3⟩:=c.own i j x e1 q;obtain⟨m,hm,hl⟩:=I.loc;obtain⟨u,ru,lk⟩:=hl j x v n1 e5 (n3.elim (λz=>.inr (.inl z)) λz=>.inr (.inr z));refine⟨u,ru,.inr ?_⟩;rcases lk with⟨k1,_⟩ | ⟨_,d,k2,k3⟩
    ·have k1':X.env.scope.names.lookup x=some .local:=k1;rcases n3 with z | z<;>(rw[z] at k1';cases k1')
    ·obtain⟨d',hd'⟩:=c3 x (QcC n2);have ed:d'=d:=by
      have:=c1 x d' hd';rw[k2] at this;exact(Qt this).symm
     subst ed;exact⟨(relabel_free n2:(relabel scope X.env).names.lookup x=some .cell∨(relabel scope X.env).names.lookup x=some .free),d',hd',k3.keeps hk⟩
 ·obtain⟨v,q⟩:=I.cell x d (c1 x d e);exact⟨v,q.keeps hk⟩
 ·show(cap.map _).length=M.length;rw[Qf];exact c.len
theorem Qhv{σ':St}{s':Shared}{h':Heap}(I:Inv X pins σ H3 s3)(hf:∀b∈fp,FpOk X pins H3 b)(J:Inv (blk X M scope (Qbz X.env scope.names []) fp s3 H3 s3.heap.objs.size) [] σ' H s')(hs:Y2 s3.heap.objs.size s'.heap h') :
  Inv X pins σ H { s' with heap:=h' }:=by
 have u:Un (frs X.stack) fp H3 H s3.heap s'.heap:=J.base;have ne:∀b o,s3.heap.get? b=some o->b≠s3.heap.objs.size:=λb o e=>Qz (Qm e)
 have hC:H s3.heap.objs.size=none:=J.free;refine I.call' (ch:=fp) (s':={ s' with heap:=h' }) J.os ⟨λb o e n hb hx=>(hs.2 b (ne b o e)).trans (u.keep b o e n hb hx),λb o e n hb hx=>?_,u.free,λb o e hx=>?_,u.tups,u.frzs,u.tbls⟩ (λb o e=>?_) J.bare λb hb=>?_
 ·obtain⟨sl,q⟩:=u.slot b o e n hb hx;exact⟨sl,(hs.2 b (ne b o e)).trans q⟩
 ·obtain⟨o',q⟩:=u.there b o e hx;exact⟨o',(hs.2 b (ne b o e)).trans q⟩
 ·refine(J.hok b o e).stay (λc v hc q=>(hs.2 c ?_).trans q) (λ_ q=>q) λ_ _ q=>q
  rintro rfl;rcases hc with z | z
  ·rw[<- z,hC] at e;cases e
  ·rw[hC] at z;cases z
 ·obtain⟨f0,f1,f2,f3,f4,f5⟩:=hf b hb;exact⟨f3,f1,f4,f5⟩
end
def Wk:St->St->Prop
 |[],[]=>True
 |none::a,_::b=>Wk a b
 |some v::a,some u::b=>v=u/\Wk a b
 |_,_=>False
theorem Wk.len:∀{a b:St},Wk a b->a.length=b.length
 |[],[],_=>rfl
 |none::a,_::b,h=>congrArg (·+1) (Wk.len (a:=a) (b:=b) h)
 |some v::a,some u::b,h=>congrArg (·+1) (Wk.len (a:=a) (b:=b) h.2)
 |[],_::_,h=>h.elim
 |some _::_,[],h=>h.elim
 |none::_,[],h=>h.elim
 |some _::_,none::_,h=>h.elim
theorem Wk.get:∀{a b:St},Wk a b->∀(i:Nat) v,a[i]? = some (some v)->b[i]? = some (some v)
 |[],[],_,i,v,h=>by simp at h
 |none::a,x::b,h,0,v,e=>by simp at e
 |none::a,x::b,h,i+1,v,e=>by
  simp only[ZY] at e ⊢;exact Wk.get (a:=a) (b:=b) h i v e
 |some q::a,some u::b,h,0,v,e=>by
  simp only[Qj1] at e ⊢;rw[<- h.1];exact e
 |some q::a,some u::b,h,i+1,v,e=>by
  simp only[ZY] at e ⊢;exact Wk.get (a:=a) (b:=b) h.2 i v e
 |[],_::_,h,_,_,_=>h.elim
 |some _::_,[],h,_,_,_=>h.elim
 |none::_,[],h,_,_,_=>h.elim
 |some _::_,none::_,h,_,_,_=>h.elim
theorem Inv.wk{X:Cx}{pins:List (Addr×Obj)}{σ σ':St}{H:Hp}{s:Shared}(I:Inv X pins σ H s)(h:Wk σ' σ):Inv X pins σ' H s:=I.weak h.len h.get
def Qjb(J:It)(body:V->Hp->(Hp->Prop)->Prop)(Qn:Hp->Prop)(H:Hp):Prop:=
 ∃W:Nat->Nat->Hp->Prop,(∃m,W 0 m H)/\∀i m H2,W i m H2->(J.stop i H2/\Qn H2)∨(J.go i H2/\∀x H3,J.yld i H2 x H3->body x H3 λH6=>∃m',m'<m/\W (i+1) m' H6)
abbrev Act:=(Shared->Prop)->Shared->Prop
def BodyOk(Y:Cx)(σ:St)(act:Act)(b:Hp->(Hp->Prop)->Prop):Prop:=
 ∀(pins:List (Addr×Obj))(s:Shared)(H:Hp)(k:Hp->Prop)(Q:Shared->Prop),Inv Y pins σ H s->b H k->(∀s' H',Inv Y pins σ H' s'->k H'->Q s')->act Q s
theorem Qch{Y:Cx}{σ:St}{tg:QU}{elt:QU}{gens:List Qdg}{scope:YC}{cpos:Pos}{d:Nat}{it D:Addr}{fp:List Addr}{tn:Nat->Heap->Prop}{J:It}{pins:List (Addr×Obj)}{s:Shared}{H:Hp}{body:V->Hp->(Hp->Prop)->Prop}{Qn:Hp->Prop}{R:Qtb->Shared->Prop}{act:Value->Act}
  (hc:Y.calm=true)(T:Turn Y.prog Y.w Y.K tg J fp it tn)(st:tn 0 s.heap)(hf:∀b∈fp,FpOk Y pins H b)
  (hturn:∀(Q:PySem.Fin->Shared->Prop)(E:Value->Shared->Prop)(s:Shared),wpAny (model Y.prog Y.w) Y.A (pyNext (.ref it)) (λr s1=>match r with
   |none=>Q (.done .next) s1
   |some v=>wpAny (model Y.prog Y.w) Y.A (letOwnedTupleGo tg (.ref it) v) (λ_ s2=>act v (λs3=>Q (.again (.compLoop (.ListComp elt gens scope cpos) d (.ref it) (.ref D) Y.env)) s3) s2) E s1) E s ->
   wpAny (model Y.prog Y.w) Y.A (compTurn (.ListComp elt gens scope cpos) d (.ref it) (.ref D) Y.env) Q E s)
  (hact:∀(x:V)(u:Value),RelV x u->BodyOk Y σ (act u) (body x))
  (I:Inv Y pins σ H s)(h:Qjb J body Qn H)(hR:∀s' H',Inv Y pins σ H' s'->Qn H'->R (.ok .next) s') :
  codeAny (model Y.prog Y.w) Y.A (.compLoop (.ListComp elt gens scope cpos) d (.ref it) (.ref D) Y.env) R s:=by
 obtain⟨W,⟨m0,w0⟩,turn⟩:=h;have stat:∀{H':Hp},(∀b∈fp,H' b=none)->∀b∈fp,FpOk Y pins H' b:=λhn b hb=>⟨hn b hb,(hf b hb).2⟩
 refine codeAny_loop rfl (λn s'=>∃i H',Inv Y pins σ H' s'/\tn i s'.heap/\(∀b∈fp,H' b=none)/\W i n H') (λn s3 hI=>?_) m0 ⟨0,H,I,st,λb hb=>(hf b hb).1,w0⟩;show wpAny _ Y.A ((compTurn (.ListComp elt gens scope cpos) d (.ref it) (.ref D) Y.env).onRaise (λx=>do noteFrame x Y.env;theTreesLotGoes x)) _ _ s3;refine wpAny_noted (hturn _ _ _ ?_);obtain⟨i,H3,I3,st3,fr3,w3⟩:=hI;rcases turn i n H3 w3 with⟨stop,qn⟩ | ⟨go,step⟩
 ·refine thn (T.done Y rfl rfl rfl hc i pins s3 σ H3 _ I3 (stat fr3) st3 stop) λr s4 ⟨hr,I4⟩=>?_
  subst hr;exact hR s4 H3 I4 qn
 ·refine thn (T.item Y rfl rfl rfl hc i pins s3 σ H3 _ I3 (stat fr3) st3 go) λr s4 ⟨u,hr,h4⟩=>?_
  subst hr;refine thn h4 λ_ s5 ⟨x,H5,I5,r5,y5,st5,fr5⟩=>?_
  have I5':=I5.pinned (stat fr5) (T.obj _ _ st5);refine hact x u r5 _ s5 H5 _ _ I5' (step x H5 y5) λs7 H7 I7 ⟨m',hm,w7⟩=>?_
  refine⟨rfl,m',hm,i+1,H7,I7.unpinned,T.keep _ _ _ st5 λb hb o e=>(I7.pin (b,o) (QR _ (QR _ (QaZ hb e)))).1,λb hb=>?_,w7⟩;obtain⟨o,e,dd⟩:=T.obj _ _ st5 b hb;exact(I7.pin (b,o) (QR _ (QR _ (QaZ hb e)))).2.1
abbrev Qi9 (ifs:List QU) (env:Env):Sem Bool:=forIn ifs true λc r=>if r=true then do let ok <- isTrue c env (eval c env);pure (JY ok) else pure (JY r)
def PTs(Y:Cx)(ifs:List QU)(t:TT):Prop:=
 ∀(pins:List (Addr×Obj))(s:Shared)(σ:St)(H:Hp)(Q:Bool->Hp->Prop),Inv Y pins σ H s->t σ H Q->wpAny (model Y.prog Y.w) Y.A (Qi9 ifs Y.env) (TP Y pins σ Q) Y.xe s
def Qtv:TT:=λ_ H Q=>Q true H
theorem Qt2{Y:Cx}:PTs Y [] Qtv:=λpins s σ H Q I h=>wpAny_tests_nil ⟨H,I,h⟩
theorem Qt1{Y:Cx}{c:QU}{t:TT}(h:PT Y c t):PTs Y [c] t:=λpins s σ H Q I q=>wpAny_tests_one (h pins s σ H Q I q)
def QoJ(Y:Cx)(tg:QU)(ifs:List QU)(inner:Act):Value->Act:=λu Q s=>
 wpAny (model Y.prog Y.w) Y.A (assign tg Y.env u) (λ_ s4=>wpAny (model Y.prog Y.w) Y.A (Qi9 ifs Y.env) (λok s5=>if ok=true then inner Q s5 else Q s5) (λ_ _=>False) s4) (λ_ _=>False) s
def bOf(σ:St)(g:TG)(tc:TT)(inner:St->Hp->(Hp->Prop)->Prop):V->Hp->(Hp->Prop)->Prop:=λx H k=>g x σ H λσ4 H4=>Wk σ σ4/\tc σ4 H4 λb H5=>
 if b=true then inner σ4 H5 k else k H5
theorem Qd5{Y:Cx}{σ:St}{tg:QU}{ifs:List QU}{g:TG}{tc:TT}{inner:Act}{ri:St->Hp->(Hp->Prop)->Prop}(hx:Y.xe=λ_ _=>False)(hg:PG Y tg g)(ht:PTs Y ifs tc)(he:∀σ4,BodyOk Y σ4 inner (ri σ4))(x:V)(u:Value)(r:RelV x u) :
  BodyOk Y σ (QoJ Y tg ifs inner u) (bOf σ g tc ri x):=by
 intro pins s H k Q I h hQ;have hx':∀(v:Value)(s':Shared),Y.xe v s'->False:=λv s' z=>by rw[hx] at z;exact z
 refine wpAny_mono (hg pins s σ H x u _ I r h) (λ_ s4 ⟨σ4,H4,I4,wk,q4⟩=>?_) hx';refine wpAny_mono (ht pins s4 σ4 H4 _ I4 q4) (λb s5 ⟨H5,I5,q5⟩=>?_) hx';cases b with
 |false=>
  rw[if_neg QK] at q5;rw[if_neg QK];exact hQ s5 H5 (I5.wk wk) q5
 |true=>
  rw[if_pos rfl] at q5;rw[if_pos rfl];exact he σ4 pins s5 H5 k Q I5 q5 λs' H' I' k'=>hQ s' H' (I'.wk wk) k'
def QoM(Y:Cx)(elt:QU)(D:Addr):Act:=λQ s=>wpAny (model Y.prog Y.w) Y.A (eval elt Y.env) (λv s6=>wpAny (model Y.prog Y.w) Y.A (call (.builtin "list.append") [.ref D,v]) (λ_ s7=>Q s7) (λ_ _=>False) s6) (λ_ _=>False) s
def QyV(p:Addr)(te:TE):St->Hp->(Hp->Prop)->Prop:=λσ H k=>te σ H λv H6=>∃ys,H6 p=some (.lst ys)/\ys.length<sizeLine/\k (upd H6 p (.lst (ys++[v])))
theorem Qhu{Y:Cx}{σ:St}{elt:QU}{te:TE}{D:Addr}(hx:Y.xe=λ_ _=>False)(he:PE Y elt te):BodyOk Y σ (QoM Y elt D) (QyV D te σ):=by
 intro pins s H k Q I h hQ;have hx':∀(v:Value)(s':Shared),Y.xe v s'->False:=λv s' z=>by rw[hx] at z;exact z
 refine wpAny_mono (he pins s σ H _ I h) (λv s6 ⟨y,H6,I6,r6,ys,e,hz,q⟩=>?_) hx';exact wpAny_mono (Qii (X:=Y) pins s6 σ H6 (.ref D) [y] (.ref D) [v] (λ_ H'=>k H') I6 rfl (.cons r6 .nil) ⟨D,ys,y,rfl,rfl,e,hz,q⟩) (λ_ s7 ⟨_,H7,I7,_,q7⟩=>hQ s7 H7 I7 q7) hx'
theorem Qj8{Y:Cx}{elt tg iter:QU}{ifs:List QU}{scope:YC}{cpos:Pos}{it D:Addr}(Q:PySem.Fin->Shared->Prop)(E:Value->Shared->Prop)(s:Shared)
  (h:wpAny (model Y.prog Y.w) Y.A (pyNext (.ref it)) (λr s1=>match r with
   |none=>Q (.done .next) s1
   |some v=>wpAny (model Y.prog Y.w) Y.A (letOwnedTupleGo tg (.ref it) v) (λ_ s2=>QoJ Y tg ifs (QoM Y elt D) v (λs3=>Q (.again (.compLoop (.ListComp elt [⟨tg,iter,ifs,0⟩] scope cpos) 0 (.ref it) (.ref D) Y.env)) s3) s2) E s1) E s) :
  wpAny (model Y.prog Y.w) Y.A (compTurn (.ListComp elt [⟨tg,iter,ifs,0⟩] scope cpos) 0 (.ref it) (.ref D) Y.env) Q E s:=by
 rw[compTurn_list];refine wpAny_bind (wpAny_standAt (wpAny_bind (thn h λr s1 h1=>?_)));cases r with
 |none=>exact Qb h1
 |some v=>
  refine wpAny_bind (thn h1 λ_ s2 h2=>?_);refine wpAny_bind (wpAny_mono h2 (λ_ s4 h4=>wpAny_bind (wpAny_mono h4 (λok s5 h5=>?_) λ_ _ f=>f.elim)) λ_ _ f=>f.elim);cases ok with
  |false=>exact Qb h5
  |true=>exact wpAny_bind (wpAny_bind (wpAny_mono h5 (λx s6 h6=>wpAny_bind (wpAny_mono h6 (λ_ s7 h7=>Qb (Qb h7)) λ_ _ f=>f.elim)) λ_ _ f=>f.elim))
def tComp(cap:List (Option Nat))(wi:TI)(g:TG)(tc:TT)(te:TE):TE:=λσ H Q=>wi σ H λJ H1=>∀p,H1 p=none->Qjb J (bOf (QdE cap σ) g tc (QyV p te)) (Q (.ref p)) (upd H1 p (.lst []))
theorem FpOk.upd{X:Cx}{pins:List (Addr×Obj)}{H:Hp}{b a:Addr}{o:HO}(h:FpOk X pins H b)(hne:b≠a):FpOk X pins (upd H a o) b:=⟨by rw[Zu hne];exact h.1,h.2⟩
theorem QpI{X:Cx}{M:List Str}{cap:List (Option Nat)}{elt tg iter:QU}{ifs:List QU}{scope:YC}{pos:Pos}{wi:TI}{g:TG}{tc:TT}{te:TE}(hc:X.calm=true)(ok:QcO X.N X.env.scope M scope cap=true)
  (hi:PI X tg iter wi)(hb:∀cl ex s3 H3 C,PG (blk X M scope cl ex s3 H3 C) tg g/\PTs (blk X M scope cl ex s3 H3 C) ifs tc/\PE (blk X M scope cl ex s3 H3 C) elt te)
  (hs:∀x,foldedSetIterable iter X.env x=pure x:=by intro _;rfl):PE X (.ListComp elt [⟨tg,iter,ifs,0⟩] scope pos) (tComp cap wi g tc te):=by
 intro pins s σ H Q I h;have c:=CapOk.of ok;rw[eval_ListComp];refine Yz (use:=none) rfl hs (Qfo (I.ok.cells c)) c.kind c.loc ?_
 refine thn (hi pins s σ H _ I h) λv s1 h1=>thn h1 λitv s2 h2=>?_
 obtain⟨it,fp,tn,J,H2,e,I2,T,st2,f2,hW⟩:=h2;subst e;refine Jy (Qau c.cell (by intro y hy;simp at hy) (λh₁ hns₁ hsb₁=>?_) c.kind);have I3:Inv X pins σ (upd H2 s2.heap.objs.size (.lst [])) { s2 with heap:=s2.heap.push { cls:=.type "list",data:=.seq ([]:List Value).toArray } }:=I2.lnew (t':=s2.toks) (ys:=[]) .nil (Qs _);have lt2:∀b∈fp,b<s2.heap.objs.size:=λb hb=>by obtain⟨o,e,_⟩:=T.obj _ _ st2 b hb;exact Qm e
 have f3:∀b∈fp,FpOk X pins (upd H2 s2.heap.objs.size (.lst [])) b:=λb hb=>(f2 b hb).upd (Qz (lt2 b hb))
 generalize hs3:({ s2 with heap:=s2.heap.push { cls:=.type "list",data:=.seq ([]:List Value).toArray } }:Shared)=s3 at I3;have e3:s3.heap=s2.heap.push { cls:=.type "list",data:=.seq ([]:List Value).toArray }:=by rw[<- hs3]
 have z3:s3.heap.objs.size=s2.heap.objs.size+1:=by rw[e3,Zf]
 have hk:∀b o,s3.heap.get? b=some o->h₁.get? b=some o:=λb o e=>hsb₁.extBut b o (by
  have:=Qm e;rw[e3] at this;exact Qz this) (Qe _ (e3 ▸ e))
 have hn₁:h₁.Ns s3.heap.objs.size λ_=>none:=by rw[e3];exact hns₁
 have B:=Qcm (t4:=s3.toks+([]:List (Str×Value)).length) (fp:=fp) I3 c f3 (λb hb=>by rw[z3];exact ZF (lt2 b hb)) hn₁ hk;have st4:tn 0 h₁:=T.keep _ _ _ st2 λb hb o e=>hk b o (by rw[e3];exact Qe _ e)
 have fp4:∀b∈fp,FpOk (blk X M scope (Qbz X.env scope.names []) fp s3 (upd H2 s2.heap.objs.size (.lst [])) s3.heap.objs.size) [] (upd H2 s2.heap.objs.size (.lst [])) b:=λb hb=>by
  refine⟨(f3 b hb).1,(B.ok.exf b hb).1,B.ok.exfs b hb,.inl hb,(B.ok.exf b hb).2,λp hp=>(nomatch hp)⟩
 obtain⟨hg,ht,he⟩:=hb (Qbz X.env scope.names []) fp s3 (upd H2 s2.heap.objs.size (.lst [])) s3.heap.objs.size;have loop:codeAny (model X.prog X.w) X.A (.compLoop (.ListComp elt [⟨tg,iter,ifs,0⟩] scope pos) 0 (.ref it) (.ref s2.heap.objs.size) (compEnvC scope (Qbz X.env scope.names []) s3.heap.objs.size X.env))
   (compPost (model X.prog X.w) X.A X.xe none (EP X pins σ Q) (.ref s2.heap.objs.size) s3.heap.objs.size) { s3 with heap:=h₁,toks:=s3.toks+([]:List (Str×Value)).length }:=by
  refine Qch (Y:=blk X M scope (Qbz X.env scope.names []) fp s3 (upd H2 s2.heap.objs.size (.lst [])) s3.heap.objs.size) (gens:=[⟨tg,iter,ifs,0⟩]) (d:=0) hc T st4 fp4
   (λQ E s h=>Qj8 Q E s h) (λx u r=>Qd5 rfl hg ht (λσ4=>Qhu rfl he) x u r) B (hW _ (I2.hok.fresh (Qh _))) λs' H' I' q=>?_
  obtain⟨m,hn,_⟩:=I'.loc;exact⟨m,hn,λh' hs'=>⟨.ref s2.heap.objs.size,H',Qhv I3 f3 I' hs',rfl,q⟩⟩
 exact Qa8 loop (T.self _ 0 _ _ _ st4 loop)
section
variable{X:Cx}
theorem QjT:CallR X (.builtin "isinstance") (λxs H Q=>∃x t T b,xs=[x,.ty T]/\TyOf X.K H x t/\PySem.W.kitOne X.K t (.type T)=some b/\Q (.bl b) H):=by
 intro pins s σ H xs us Q I r h;obtain⟨x,t,T,b,rfl,ty,e,q⟩:=h;obtain⟨u,v,rfl,ru,rv⟩:=vals2 r;cases(show v=Yj T from rv);exact QnQ I ru ty e λtk=>⟨.bl b,H,I.tok tk,rfl,q⟩
theorem Qr3{bs:List Bool}:∀{us:List Value},Vals (bs.map V.bl) us->LSm.BoolsAre us bs:=by
 induction bs with
 |nil=>intro us r;cases r;exact .nil
 |cons b bs ih=>
  intro us r;cases r with
  |cons r t=>
   cases(show _=Qb2 b from r);exact .cons b (ih t)
theorem QcE:CallR X (.builtin "all") (λxs H Q=>∃(p:Addr)(bs:List Bool),xs=[.ref p]/\SqL X.K H p (bs.map V.bl)/\X.calm=true/\Q (.bl (bs.all id)) H):=by
 intro pins s σ H xs us Q I r h;obtain⟨p,bs,rfl,hp,hc,q⟩:=h;obtain⟨u,rfl,ru⟩:=vals1 r;cases ru;obtain⟨its,rv,pl,hz⟩:=I.list hp;have hl:=pl.isList;have hb:=Qr3 rv;have hlt:p<s.heap.objs.size:=by obtain⟨_,e,_⟩:=hl;exact Qm e
 refine call_all_walk (QhG hl ?_);refine⟨s.heap.objs.size,[s.heap.objs.size,p],[s.heap.objs.size],its.toArray.size,_,_,λi=>(bs[i]?).getD true,rfl,Walks.list (A:=X.A.in1) (I.ok.hd hc) _ p (Qz hlt) its.toArray,
  ⟨⟨_,Qw _ rfl,rfl,rfl⟩,hl.push _⟩,λi v s' Q' E' hP hQ=>?_,λh' tk hk=>?_⟩
 ·obtain⟨b,e,rfl⟩:=hb.get i v (by simpa using hP);simp only[e,Option.getD_some] at hQ;exact ZR hQ
 ·have e:((Qq its.toArray.size).all λi=>(bs[i]?).getD true)=bs.all id:=by
   rw[Qr,hb.length];exact LSm.range_all bs
  rw[e];exact⟨.bl _,H,I.kept (LSm.kept_iter hk),rfl,q⟩
def QBg:V->Option Int->Option Int->Hp->VK->Prop:=λx lo hi H Q=>∃a xs,x=.ref a/\H a=some (.tup xs)/\∀p H',Same H H'->H' p=some (.tup (Qk0 xs lo hi))->Q (.ref p) H'
theorem JL{H:Hp}{p:Addr}{o:HO}(h:H p=none):Same H (upd H p o):=λb u e=>by rw[Zu (Yf e h)];exact e
theorem Qc5{prog:QC}{w:Q9}{A:Q5}{E:Value->Shared->Prop}{s:Shared}{t sl:Addr}{items:Array Value}{vl vu:Value}{lo hi:Option Int}{Q:Value->Shared->Prop}(ht:IsTup s.heap t items)(hs:s.heap.IsSliceOf sl vl vu .none)(pl:QiV vl lo)(pu:QiV vu hi)
  (h1:HT.sIx items.size 0 lo=0)(h2:HT.sIx items.size items.size hi=items.size)(h:Q (.ref t) s):wpAny (model prog w) A (getItem (.ref t) (.ref sl)) Q E s:=by
 obtain⟨os,hos,hcs,hds⟩:=id hs;have hTs:s.TypeIs (.ref sl) "slice" := ⟨os,hos,hcs⟩;unfold getItem
 try with_reducible refine J6 ?_
 first | refine wpAny_bind (Qb ?_) | skip
 refine wpAny_bind (Qzq ht.typeIs (by decide) ?_);refine wpAny_bind (Zd (name:=Qaw "__getitem__") ht.typeIs J5
  (JF J5 ht.typeIs Qwb ?_ (Qy1 _ _)))
 show wpAny _ _ (QaT (.ref t) >>= _) _ _ s;refine wpAny_bind (tupleItemsOf_ ht ?_);refine wpAny_bind (Qbn hTs ?_);rw[if_pos (by decide)];refine wpAny_bind (HT.QbV hs pl pu ?_);show wpAny _ _ (if(((HT.sIx items.size 0 lo:Nat):Int) == 0&&(1:Int) == 1&&(HT.sIx items.size items.size hi - HT.sIx items.size 0 lo) == items.size)=true then _ else _) _ _ s;rw[if_pos (by rw[h1,h2];simp)];refine wpAny_bind (m:=QzU _) (wpAny_bind (Qbn ht.typeIs (Qb ?_)));rw[if_pos (by decide)];exact wpAny_bind (wpAny_rule (Qb ⟨_,rfl,Qb h⟩))
theorem QwG:SlR X QBg:=by
 intro pins s σ H x v vl vu lo hi sl Q I rx hs pl pu h;obtain⟨a,xs,rfl,hx,q⟩:=h;by_cases hw:HT.sIx xs.length 0 lo=0/\HT.sIx xs.length xs.length hi=xs.length
 ·cases rx;obtain⟨its,r,ht,hz⟩:=I.tuple (SqT.of hx);have hlen:its.toArray.size=xs.length:=by rw[Qr];exact r.length.symm
  refine⟨"tuple",_,J5.lookup,ht.typeIs,?_⟩;refine Qc5 ht hs pl pu (by rw[hlen];exact hw.1) (by rw[hlen];exact hw.2) ?_
  refine⟨.ref a,H,I,rfl,q a H (Same.refl H) ?_⟩;have e:Qk0 xs lo hi=xs:=by
   unfold Qk0;rw[hw.1,hw.2];simp
  rw[e];exact hx
 ·exact QwF pins s σ H (.ref a) v vl vu lo hi sl Q I rx hs pl pu ⟨a,xs,rfl,SqT.of hx,hw,λp hp=>q p _ (JL hp) JQ⟩
def QwW:R2:=λx y H Q=>∃a b xs ys,x=.ref a/\y=.ref b/\H a=some (.tup xs)/\H b=some (.tup ys)/\xs.length+ys.length<=sizeLine/\∀p H',Same H H'->H' p=some (.tup (xs++ys))->Q (.ref p) H'
theorem QuH:OpR X (binaryOp .Add) QwW:=by
 intro pins s σ H x y v u Q I rx ry h;obtain⟨a,b,xs,ys,rfl,rfl,ha,hb,hz,q⟩:=h;by_cases hx:xs=[]
 ·subst hx;cases rx;cases ry;obtain⟨its,r1,p1,_⟩:=I.tuple (SqT.of ha);obtain⟨its2,r2,p2,_⟩:=I.tuple (SqT.of hb);cases r1;obtain⟨⟨cls,dd,data,sl⟩,ho,hc,n,hd⟩:=id p1;obtain⟨⟨cls2,dd2,data2,sl2⟩,ho2,hc2,n2,hd2⟩:=id p2;simp only at hc hd hc2 hd2;subst hc hd hc2 hd2;exact Qs8 ⟨_,ho,rfl⟩ ⟨_,ho2,rfl⟩ Qi0 QoW PySem.F.slot_tuple_add PySem.F.entry_tuple_add (PySem.F.args_tuple_add_2 _ _)
   (tuple_addW0 a b #[] its2.toArray n n2 dd dd2 sl sl2 rfl) ⟨ho,ho2,⟨.ref b,H,I,rfl,q b H (Same.refl H) hb⟩⟩
 ·exact QuG pins s σ H _ _ v u Q I rx ry ⟨a,b,xs,ys,rfl,rfl,SqT.of ha,SqT.of hb,hx,hz,λe=>q a H (Same.refl H) (by rw[e,JX];exact ha),λ_ p hp=>q p _ (JL hp) JQ⟩
end
end L2
namespace Rz
open Sem (wp)
section
variable{prog:QC}{w:Q9}{A:Q5}{E:Value->Shared->Prop}{s:Shared}
theorem Qg6{it t:Addr}{i:Nat}{items:Array Value}{x:Value}{Q:Value->Shared->Prop}(hit:s.heap.IsTupleIter it t i)(ht:s.heap.IsTuple t items)(hx:items[i]? = some x)
  (hQ:∀h',h'.IsTupleIter it t (i+1)->Y2 it s.heap h'->Q x { s with heap:=h' }):wpAny (model prog w) A (JP (.ref it)) Q E s:=by
 obtain⟨o,ho,hc,hd⟩:=id hit;obtain⟨ol,hol,_,nl,hdl⟩:=ht;unfold JP;refine wpAny_bind (Zd (name:=Qaw "__next__") hit.typeIs Qaq
  (JF Qaq hit.typeIs Qi3 ?_ (QiW _)))
 show wpAny _ _ (field (.ref it) 0 >>= _) _ _ s;refine wpAny_bind (Zg ho hd (x:=.ref t) rfl ?_);show wpAny _ _ (if(QJ t == Ze)=true then _ else _) _ _ s;rw[if_neg (show ¬((QJ t == Ze)=true) from QK)];show wpAny _ _ (field (.ref it) 1 >>= _) _ _ s;refine wpAny_bind (Zg ho hd (x:=.int i 0) rfl ?_);show wpAny _ _ (seqItems? (.ref t) >>= _) _ _ s;refine wpAny_bind (J9 hol hdl ?_);simp only[QX,hx];refine wpAny_bind (QcH ho hd (by simp) (Qb ⟨x,rfl,Qb (hQ _ ?_ (Zq ..))⟩));exact⟨_,ZQ _ ho (Qde (YU hd _)),(Qfz ..).trans hc,by
  rw[YU hd];simp[rawInt]⟩
theorem Qnw{it t:Addr}{i:Nat}{items:Array Value}{Q:Value->Shared->Prop}(hh:A.handled=none)(hit:s.heap.IsTupleIter it t i)(ht:s.heap.IsTuple t items)(hx:items[i]? = none)
  (hE:∀h' e,Heap.ExtBut it s.heap h'->(∃o,h'.get? e=some o/\o.cls=.type "StopIteration")->E (.ref e) { s with heap:=h' }):wpAny (model prog w) A (JP (.ref it)) Q E s:=by
 obtain⟨o,ho,hc,hd⟩:=id hit;obtain⟨ol,hol,_,nl,hdl⟩:=ht;unfold JP;refine wpAny_bind (Zd (name:=Qaw "__next__") hit.typeIs Qaq
  (JF Qaq hit.typeIs Qi3 ?_ (QiW _)))
 show wpAny _ _ (field (.ref it) 0 >>= _) _ _ s;refine wpAny_bind (Zg ho hd (x:=.ref t) rfl ?_);show wpAny _ _ (if(QJ t == Ze)=true then _ else _) _ _ s;rw[if_neg (show ¬((QJ t == Ze)=true) from QK)];show wpAny _ _ (field (.ref it) 1 >>= _) _ _ s;refine wpAny_bind (Zg ho hd (x:=.int i 0) rfl ?_);show wpAny _ _ (seqItems? (.ref t) >>= _) _ _ s;refine wpAny_bind (J9 hol hdl ?_);simp only[QX,hx];refine wpAny_bind (wpAny_rule (wpAny_bind (QcH ho hd (by simp) ?_)));show wpAny _ _ (newExc (.type "StopIteration") [] >>= _) _ _ _;refine wpAny_bind ?_
 simp only[newExc,newTuple];refine wpAny_bind (Jy ?_ (by size_fits));refine wpAny_bind (m:=firstArgMember _ _) (Yr (a:=Ze) (by first | rfl | (simp only[firstArgMember];rfl)) ?_);refine Jy ?_ (by size_fits)
 simp only[raiseNew];refine wpAny_bind (wpAny_handled ?_)
 first | rw[show A.in1.handled=none from hh] | rw[hh]
 refine wpAny_bind (Qb (wpAny_throw ?_));exact hE _ _ (((Zq ..).extBut.push _).push _) ⟨_,Qw _ rfl,rfl⟩
structure Apart (z TI TO i1 i2 t1 t2:Addr):Prop where
 a1:TI≠z
 a2:TO≠z
 a3:i1≠z
 a4:i2≠z
 a5:TI≠TO
 a6:TI≠i1
 a7:TI≠i2
 a8:TO≠i1
 a9:TO≠i2
 b1:i1≠i2
 b2:t1≠z/\t1≠TO/\t1≠i1/\t1≠i2
 b3:t2≠z/\t2≠TO/\t2≠i1/\t2≠i2
structure QoN (h:Heap) (z TI TO i1 i2 t1 t2:Addr) (f:Value) (k:Nat):Prop where
 zp:Qth h z TI TO f
 ti:IsPair h TI (.ref i1) (.ref i2)
 to:∃a b,IsPair h TO a b
 i1:h.IsTupleIter i1 t1 k
 i2:h.IsTupleIter i2 t2 k
theorem Qnx{z TI TO i1 i2 t1 t2:Addr}{k:Nat}{xs ys:Array Value}{x y:Value}{Q:Option Value->Shared->Prop}(D:Apart z TI TO i1 i2 t1 t2)(Z:QoN s.heap z TI TO i1 i2 t1 t2 .none k)
  (hl1:s.heap.IsTuple t1 xs)(hl2:s.heap.IsTuple t2 ys)(hx:xs[k]? = some x)(hy:ys[k]? = some y)
  (hQ:∀h',QoN h' z TI TO i1 i2 t1 t2 (rawInt s.heap.objs.size) (k+1)->IsPair h' s.heap.objs.size x y->(∀c o,c≠z->c≠TO->c≠i1->c≠i2->s.heap.get? c=some o->h'.get? c=some o)->Q (some (.ref s.heap.objs.size)) { s with heap:=h' }) :
  wpAny (model prog w) A (pyNext (.ref z)) Q E s:=by
 obtain⟨hz,hTI,⟨a,b,hTO⟩,h1,h2⟩:=Z;have hT:s.TypeIs (.ref z) "zip" := ⟨_,hz,rfl⟩;unfold pyNext;refine wpAny_bind (Qdd (Zd (name:=Qaw "__next__") hT QdI (JF QdI hT Qza ?_ (Qwm _))));show wpAny _ _ (field (.ref z) 2 >>= _) _ _ _;refine wpAny_bind (Zg hz rfl (x:=.bool false) rfl ?_);show wpAny _ _ (field (.ref z) 3 >>= _) _ _ _;refine wpAny_bind (Zg hz rfl (x:=.ref TI) rfl (wpAny_bind (J9 hTI rfl ?_)));show wpAny _ _ (ZJ (.ref z) >>= _) _ _ _;refine wpAny_bind ?_
 unfold ZJ;refine wpAny_bind (Zg hz rfl (x:=.none) rfl (Qb ?_));simp only[if_true];refine wpAny_bind (wpAny_rule (wpAny_bind (Zg hz rfl (x:=.ref TO) rfl (wpAny_bind (Y9 hz (by simp) λg1 z1 s1=>?_)))))
 replace z1:Qth g1 z TI TO .ellipsis:=z1
 refine wpAny_bind ?_
 simp only[QfM,QvV,QhD,Qwj];refine wpAny_bind (wpAny_bind (Qgs ?_));show wpAny _ _ (JP (.ref i1) >>= _) _ _ _;refine wpAny_bind (Qg6 (h1.extBut s1.extBut D.a3) (hl1.extBut s1.extBut D.b2.1) hx λg2 p2 s2=>Qb ?_);have o2:IsPair g2 TO a b:=s2.extBut _ _ D.a8 (s1.extBut _ _ D.a2 hTO);refine wpAny_bind (J9 o2 rfl (wpAny_bind (QeT o2 λg3 o3 s3=>wpAny_bind (Qv7 (Qb ?_)))))
 replace o3:IsPair g3 TO x b:=o3
 refine wpAny_bind (wpAny_bind (Qgs ?_));show wpAny _ _ (JP (.ref i2) >>= _) _ _ _;refine wpAny_bind (Qg6 (((h2.extBut s1.extBut D.a4).extBut s2.extBut D.b1.symm).extBut s3.extBut D.a9.symm)
  (((hl2.extBut s1.extBut D.b3.1).extBut s2.extBut D.b3.2.2.1).extBut s3.extBut D.b3.2.1) hy λg4 p4 s4=>Qb ?_)
 have o4:IsPair g4 TO x b:=s4.extBut _ _ D.a9 o3;refine wpAny_bind (J9 o4 rfl (wpAny_bind (QeT o4 λg5 o5 s5=>wpAny_bind (Qv7 (Qb (Qb ?_))))))
 replace o5:IsPair g5 TO x y:=o5
 refine wpAny_bind (J9 o5 rfl (wpAny_bind (wpAny_newTuple ?_)));have sz:g5.objs.size=s.heap.objs.size:=by rw[s5.1,s4.1,s3.1,s2.1,s1.1]
 have kp:∀c o,c≠z->c≠TO->c≠i1->c≠i2->s.heap.get? c=some o->g5.get? c=some o:=λc o c1 c2 c3 c4 e=>
  s5.extBut _ _ c2 (s4.extBut _ _ c4 (s3.extBut _ _ c2 (s2.extBut _ _ c3 (s1.extBut _ _ c1 e))))
 have z5:Qth g5 z TI TO .ellipsis:=s5.extBut _ _ D.a2.symm (s4.extBut _ _ D.a4.symm (s3.extBut _ _ D.a2.symm (s2.extBut _ _ D.a3.symm z1)));have q1:g5.IsTupleIter i1 t1 (k+1):=((p2.extBut s3.extBut D.a8.symm).extBut s4.extBut D.b1).extBut s5.extBut D.a8.symm;have q2:g5.IsTupleIter i2 t2 (k+1):=p4.extBut s5.extBut D.a9.symm;show wpAny _ _ (QbB (.ref z) (.ref g5.objs.size) >>= _) _ _ _;refine wpAny_bind ?_
 unfold QbB;have z6:Qth (g5.push { cls:=.type "tuple",data:=.seq #[x,y] }) z TI TO .ellipsis:=Qe _ z5;refine wpAny_bind (Y9 z6 (by simp) λg7 z7 s7=>?_)
 replace z7:Qth g7 z TI TO (rawInt g5.objs.size):=z7
 refine Y9 z7 (by simp) λg8 z8 s8=>?_
 replace z8:Qth g8 z TI TO (rawInt g5.objs.size):=z8
 have up:∀c o,c≠z->g5.get? c=some o->g8.get? c=some o:=λc o c1 e=>s8.extBut _ _ c1 (s7.extBut _ _ c1 (Qe _ e))
 have ne:g5.objs.size≠z:=Qax (Qm z5);have t8:IsPair g8 g5.objs.size x y:=s8.extBut _ _ ne (s7.extBut _ _ ne (Qw _ rfl));rw[sz] at z8 t8;refine Qb ⟨_,rfl,Qb ?_⟩;show Q (some (.ref g5.objs.size)) _;rw[sz];exact hQ g8 ⟨z8,up _ _ D.a1 (kp _ _ D.a1 D.a5 D.a6 D.a7 hTI),⟨x,y,up _ _ D.a2 o5⟩,q1.at λo e=>up _ o D.a3 e,q2.at λo e=>up _ o D.a4 e⟩ t8 λc o c1 c2 c3 c4 e=>up c o c1 (kp c o c1 c2 c3 c4 e)
theorem Qro{z TI TO i1 i2 t1 t2:Addr}{k:Nat}{xs ys:Array Value}{Q:Option Value->Shared->Prop}(hh:A.handled=none)(D:Apart z TI TO i1 i2 t1 t2)(Z:QoN s.heap z TI TO i1 i2 t1 t2 .none k)
  (hl1:s.heap.IsTuple t1 xs)(hl2:s.heap.IsTuple t2 ys)(hend:xs[k]? = none∨ys[k]? = none)
  (hQ:∀h',(∀c o,c≠z->c≠TO->c≠i1->c≠i2->s.heap.get? c=some o->h'.get? c=some o)->Q none { s with heap:=h' }):wpAny (model prog w) A (pyNext (.ref z)) Q E s:=by
 obtain⟨hz,hTI,⟨a,b,hTO⟩,h1,h2⟩:=Z;have hT:s.TypeIs (.ref z) "zip" := ⟨_,hz,rfl⟩;have fin:∀(h':Heap)(e:Addr),(∀c o,c≠z->c≠TO->c≠i1->c≠i2->s.heap.get? c=some o->h'.get? c=some o)->(∃o,h'.get? e=some o/\o.cls=.type "StopIteration") ->
   wpAny (model prog w) A (isInstance (.ref e) (.type "StopIteration") >>= λx=>if x=true then pure none else throw (.ref e)) Q E { s with heap:=h' }:=λh' e hk he=>by
  obtain⟨o,ho,hc⟩:=he;refine wpAny_bind (QaB (T := "StopIteration") (b:=true) ⟨o,ho,hc⟩ isSubtype_stop ?_);exact Qb (hQ _ hk)
 unfold pyNext;refine wpAny_bind (Qdd (Zd (name:=Qaw "__next__") hT QdI (JF QdI hT Qza ?_ (Qwm _))));show wpAny _ _ (field (.ref z) 2 >>= _) _ _ _;refine wpAny_bind (Zg hz rfl (x:=.bool false) rfl ?_);show wpAny _ _ (field (.ref z) 3 >>= _) _ _ _;refine wpAny_bind (Zg hz rfl (x:=.ref TI) rfl (wpAny_bind (J9 hTI rfl ?_)));show wpAny _ _ (ZJ (.ref z) >>= _) _ _ _;refine wpAny_bind ?_
 unfold ZJ;refine wpAny_bind (Zg hz rfl (x:=.none) rfl (Qb ?_));simp only[if_true];refine wpAny_bind (wpAny_rule (wpAny_bind (Zg hz rfl (x:=.ref TO) rfl (wpAny_bind (Y9 hz (by simp) λg1 z1 s1=>?_)))))
 replace z1:Qth g1 z TI TO .ellipsis:=z1
 refine wpAny_bind ?_
 simp only[QfM,QvV,QhD,Qwj];refine wpAny_bind (wpAny_bind (Qgs ?_));show wpAny _ _ (JP (.ref i1) >>= _) _ _ _;cases hx:xs[k]? with
 |none=>
  refine wpAny_bind (Qnw hh (h1.extBut s1.extBut D.a3) (hl1.extBut s1.extBut D.b2.1) hx λg2 e s2 he=>?_);obtain⟨oe,hoe,hce⟩:=he;have z2:Qth g2 z TI TO .ellipsis:=s2 _ _ D.a3.symm z1;have hez:e≠z:=λq=>by subst q;rw[z2] at hoe;cases hoe;simp at hce
  refine Y9 z2 (by simp) λg3 _ s3=>?_
  exact fin g3 e (λc o c1 _ c3 _ q=>s3.extBut _ _ c1 (s2 _ _ c3 (s1.extBut _ _ c1 q))) ⟨oe,s3.extBut _ _ hez hoe,hce⟩
 |some x=>
  have hy:ys[k]? = none:=by
   rcases hend with q | q
   ·rw[hx] at q;cases q
   ·exact q
  refine wpAny_bind (Qg6 (h1.extBut s1.extBut D.a3) (hl1.extBut s1.extBut D.b2.1) hx λg2 p2 s2=>Qb ?_);have o2:IsPair g2 TO a b:=s2.extBut _ _ D.a8 (s1.extBut _ _ D.a2 hTO);refine wpAny_bind (J9 o2 rfl (wpAny_bind (QeT o2 λg3 o3 s3=>wpAny_bind (Qv7 (Qb ?_)))));refine wpAny_bind (wpAny_bind (Qgs ?_));show wpAny _ _ (JP (.ref i2) >>= _) _ _ _;refine wpAny_bind (Qnw hh (((h2.extBut s1.extBut D.a4).extBut s2.extBut D.b1.symm).extBut s3.extBut D.a9.symm)
   (((hl2.extBut s1.extBut D.b3.1).extBut s2.extBut D.b3.2.2.1).extBut s3.extBut D.b3.2.1) hy λg4 e s4 he=>?_)
  obtain⟨oe,hoe,hce⟩:=he;have z4:Qth g4 z TI TO .ellipsis:=s4 _ _ D.a4.symm (s3.extBut _ _ D.a2.symm (s2.extBut _ _ D.a3.symm z1));have hez:e≠z:=λq=>by subst q;rw[z4] at hoe;cases hoe;simp at hce
  refine Y9 z4 (by simp) λg5 _ s5=>?_
  exact fin g5 e (λc o c1 c2 c3 c4 q=>s5.extBut _ _ c1 (s4 _ _ c4 (s3.extBut _ _ c2 (s2.extBut _ _ c3 (s1.extBut _ _ c1 q))))) ⟨oe,s5.extBut _ _ hez hoe,hce⟩
end
abbrev zh1 (h:Heap) (t1:Addr):Heap:=h.push { cls:=.type "tuple_iterator",data:=.fields #[.ref t1,.int 0 0] }
abbrev zh2 (h:Heap) (t1 t2:Addr):Heap:=(zh1 h t1).push { cls:=.type "tuple_iterator",data:=.fields #[.ref t2,.int 0 0] }
abbrev zh3 (h:Heap) (t1 t2:Addr):Heap:=(zh2 h t1 t2).push { cls:=.type "tuple",data:=.seq #[.ref h.objs.size,.ref (zh1 h t1).objs.size] }
abbrev zh4 (h:Heap) (t1 t2:Addr):Heap:=(zh3 h t1 t2).push { cls:=.type "tuple",data:=.seq #[.none,.none] }
abbrev zh5 (h:Heap) (t1 t2:Addr):Heap:=(zh4 h t1 t2).push { cls:=.type "zip",data:=.fields #[.none,.bool false,.bool false,.ref (zh2 h t1 t2).objs.size,.ref (zh3 h t1 t2).objs.size] }
theorem made(t1 t2:Addr)(xs ys:Array Value) :
  Meets (YO.«zip.__new__» ⟨[.type "zip",.ref t1,.ref t2],[]⟩) (λ_ R s=>s.heap.IsTuple t1 xs/\s.heap.IsTuple t2 ys/\R (.ok (.ret (.ref (zh4 s.heap t1 t2).objs.size))) { s with heap:=zh5 s.heap t1 t2 }):=
 .of_wp λprog w A R s h=>by
  obtain⟨hp,g,d,tk,os⟩:=s;obtain⟨hl1,hl2,h⟩:=h;have hsub:=sub_zip;have k1:QzR (Qy3 ⟨hp,g,d,tk,os⟩) t1 xs:=hl1;have k2:QzR (Qy3 ⟨hp.push { cls:=.type "tuple_iterator",data:=.fields #[.ref t1,.int 0 0] },g,d,tk,os⟩) t2 ys:=hl2.at λo e=>Qe _ e
  wp_walk using Qgr k1,Qgr k2
  exact⟨_,rfl,h⟩
section
variable{prog:QC}{w:Q9}{A:Q5}{E:Value->Shared->Prop}{s:Shared}
theorem Qr2{t1 t2:Addr}{xs ys:Array Value}{Q:Value->Shared->Prop}(hl1:s.heap.IsTuple t1 xs)(hl2:s.heap.IsTuple t2 ys)
  (h:∀h',QoN h' (s.heap.objs.size+4) (s.heap.objs.size+2) (s.heap.objs.size+3) s.heap.objs.size (s.heap.objs.size+1) t1 t2 .none 0->(∀c o,s.heap.get? c=some o->h'.get? c=some o)->Q (.ref (s.heap.objs.size+4)) { s with heap:=h' }) :
  wpAny (model prog w) A (call (.type "zip") [.ref t1,.ref t2]) Q E s:=by
 refine callType_new F.called_zip (by decide) (F.typeCall_zip_2 _ _) (F.newCall_zip_2 _ _) (λobj=>F.args_object_init_3 obj _ _) F.entry_zip_new (made t1 t2 xs ys) ⟨hl1,hl2,?_⟩;have z1:(zh1 s.heap t1).objs.size=s.heap.objs.size+1:=Zf ..;have z2:(zh2 s.heap t1 t2).objs.size=s.heap.objs.size+2:=by rw[Zf,z1]
 have z3:(zh3 s.heap t1 t2).objs.size=s.heap.objs.size+3:=by rw[Zf,z2]
 have z4:(zh4 s.heap t1 t2).objs.size=s.heap.objs.size+4:=by rw[Zf,z3]
 have g5:(zh5 s.heap t1 t2).get? (zh4 s.heap t1 t2).objs.size=some _:=Qw _ rfl;have g4:(zh5 s.heap t1 t2).get? (zh3 s.heap t1 t2).objs.size=some _:=Qe _ (Qw _ rfl);have g3:(zh5 s.heap t1 t2).get? (zh2 s.heap t1 t2).objs.size=some _:=Qe _ (Qe _ (Qw _ rfl));have g2:(zh5 s.heap t1 t2).get? (zh1 s.heap t1).objs.size=some _:=Qe _ (Qe _ (Qe _ (Qw _ rfl)));have g1:(zh5 s.heap t1 t2).get? s.heap.objs.size=some _:=Qe _ (Qe _ (Qe _ (Qe _ (Qw _ rfl))));show _/\_;rw[z2,z3,z4] at g5;rw[z1,z2] at g3;rw[z3] at g4;rw[z1] at g2;rw[z4];exact⟨⟨_,g5,rfl⟩,h _ ⟨g5,g3,⟨_,_,g4⟩,⟨_,g1,rfl,rfl⟩,⟨_,g2,rfl,rfl⟩⟩ λc o x=>Qe _ (Qe _ (Qe _ (Qe _ (Qe _ x))))⟩
end
end Rz
namespace L2
section
variable{X:Cx}{pins:List (Addr×Obj)}{σ:St}{H:Hp}{s:Shared}{h':Heap}
theorem Inv.turnedNew{t':Nat}{ch:List Addr}{a:Addr}{o:HO}(I:Inv X pins σ H s)(hch:∀b∈ch,FpOk X pins H b)(k:∀b u,b∉ch->s.heap.get? b=some u->h'.get? b=some u)(hp:s.heap.objs.size<=a)
  (new:ObjOk X.prog X.w (upd H a o) h' a o):Inv X pins σ (upd H a o) { s with heap:=h',toks:=t' }:=by
 have hn:H a=none:=I.hok.fresh hp;have nch:∀b u,H b=some u->b∉ch:=λb u e z=>by rw[(hch b z).1] at e;cases e
 refine I.step (g':=s.gens) (d':=s.drawn) (ch:=ch) (λb hb=>?_) (λb u _ _ hc e _=>k b u hc e) (λb u _ _ hc e _=>⟨u.slots,k b u hc e⟩) (λb u hc e n=>?_) (λb u hc e=>⟨u,k b u hc e⟩)
  (λb xs e=>by rw[Zu (Yf e hn)];exact e) (λb u v e=>by rw[Zu (Yf e hn)];exact e) (λb ps e=>⟨#[],by rw[Zu (Yf e hn),e];simp⟩) (λm hm=>?_) (λb u e=>?_) I.bare
 ·obtain⟨f0,f1,f2,f3,f4,f5⟩:=hch b hb;exact⟨f3,f1,f4,f5⟩
 ·rw[Zu (Qz (QM (Qm e) hp))];exact n
 ·obtain⟨u,es,ep,ho,r⟩:=hm;exact⟨u,es,ep,k _ u (λz=>(hch _ z).2.1 rfl) ho,r⟩
 ·by_cases hb:b=a
  ·subst hb;rw[JQ] at e;cases e;exact new
  ·rw[Zu hb] at e;refine(I.hok b u e).stay (λc v hc q=>k c v ?_ q) (λc q=>by rw[Zu (Yf q hn)];exact q) λc xs q=>by rw[Zu (Yf q hn)];exact q
   rcases hc with z | z
   ·rw[z];exact nch b u e
   ·exact nch c _ z
theorem Inv.turnedAll{t':Nat}{ch:List Addr}(I:Inv X pins σ H s)(hch:∀b∈ch,FpOk X pins H b)(k:∀b u,b∉ch->s.heap.get? b=some u->h'.get? b=some u):Inv X pins σ H { s with heap:=h',toks:=t' }:=by
 have nch:∀b u,H b=some u->b∉ch:=λb u e z=>by rw[(hch b z).1] at e;cases e
 refine I.step (g':=s.gens) (d':=s.drawn) (ch:=ch) (λb hb=>?_) (λb u _ _ hc e _=>k b u hc e) (λb u _ _ hc e _=>⟨u.slots,k b u hc e⟩) (λb u hc e n=>n) (λb u hc e=>⟨u,k b u hc e⟩)
  (λb xs e=>e) (λb u v e=>e) (λb ps e=>⟨#[],by rw[e];simp⟩) (λm hm=>?_) (λb u e=>?_) I.bare
 ·obtain⟨f0,f1,f2,f3,f4,f5⟩:=hch b hb;exact⟨f3,f1,f4,f5⟩
 ·obtain⟨u,es,ep,ho,r⟩:=hm;exact⟨u,es,ep,k _ u (λz=>(hch _ z).2.1 rfl) ho,r⟩
 ·refine(I.hok b u e).stay (λc v hc q=>k c v ?_ q) (λc q=>q) λc xs q=>q
  rcases hc with z | z
  ·rw[z];exact nch b u e
  ·exact nch c _ z
end
def Itz(t1 t2:Addr):It:=
 ⟨λi H=>∃xs ys x y,H t1=some (.tup xs)/\H t2=some (.tup ys)/\xs[i]? = some x/\ys[i]? = some y,
  λi H v H'=>∃p x y,H p=none/\(∀xs,H t1=some (.tup xs)->xs[i]? = some x)/\(∀ys,H t2=some (.tup ys)->ys[i]? = some y)/\v=.ref p/\H'=upd H p (.tup [x,y]),
  λi H=>∃xs ys,H t1=some (.tup xs)/\H t2=some (.tup ys)/\(xs.length<=i∨ys.length<=i)⟩
theorem Qo7{P:QC}{w:Q9}{K:PySem.W.Frag}{elts:List QU}{x1}{tpos:Pos}{z TI TO i1 i2 t1 t2:Addr}(D:Rz.Apart z TI TO i1 i2 t1 t2) :
  Turn P w K (.Tuple elts x1 tpos) (Itz t1 t2) [z,TI,TO,i1,i2] z (λi h=>Rz.QoN h z TI TO i1 i2 t1 t2 .none i) where
 mem:=by simp
 obj:=λi h st b hb=>by
  obtain⟨a1,a2,⟨_,_,a3⟩,⟨o4,a4,_,d4⟩,⟨o5,a5,_,d5⟩⟩:=st;simp only[Qu,Jh,or_false] at hb;rcases hb with rfl | rfl | rfl | rfl | rfl
  ·exact⟨_,a1,λv q=>nomatch q⟩
  ·exact⟨_,a2,λv q=>nomatch q⟩
  ·exact⟨_,a3,λv q=>nomatch q⟩
  ·exact⟨_,a4,λv q=>by rw[d4] at q;cases q⟩
  ·exact⟨_,a5,λv q=>by rw[d5] at q;cases q⟩
 keep:=λi h h' st k=>by
  obtain⟨a1,a2,⟨a,b,a3⟩,a4,a5⟩:=st;exact⟨k z (by simp) _ a1,k TI (by simp) _ a2,⟨a,b,k TO (by simp) _ a3⟩,a4.at λo e=>k i1 (by simp) o e,a5.at λo e=>k i2 (by simp) o e⟩
 item:=by
  intro X hP hw hK hc i pins s σ H E I hf st hg;subst hP hw hK;obtain⟨xs,ys,x,y,h1,h2,hx,hy⟩:=hg;obtain⟨its1,r1,p1,_⟩:=I.tuple (SqT.of h1);obtain⟨its2,r2,p2,_⟩:=I.tuple (SqT.of h2);obtain⟨u1,hu1,ru1⟩:=r1.get hx;obtain⟨u2,hu2,ru2⟩:=r2.get hy;refine Rz.Qnx D st (show s.heap.IsTuple t1 its1.toArray from p1) (show s.heap.IsTuple t2 its2.toArray from p2) (by simpa using hu1) (by simpa using hu2) λh' st' tp kp=>?_
  have hlt:∀b∈[z,TI,TO,i1,i2],b≠s.heap.objs.size:=λb hb=>by
   obtain⟨a1,a2,⟨_,_,a3⟩,⟨o4,a4,_,d4⟩,⟨o5,a5,_,d5⟩⟩:=st;simp only[Qu,Jh,or_false] at hb;rcases hb with rfl | rfl | rfl | rfl | rfl
   ·exact Qz (Qm a1)
   ·exact Qz (Qm a2)
   ·exact Qz (Qm a3)
   ·exact Qz (Qm a4)
   ·exact Qz (Qm a5)
  have fr:H s.heap.objs.size=none:=I.hok.fresh (Qh _);refine⟨_,rfl,Ql6 st'.zp λh2' z2 s2=>?_⟩;have I1:Inv X pins σ (upd H s.heap.objs.size (.tup [x,y])) { s with heap:=h2',toks:=s.toks }:=by
   refine I.turnedNew (ch:=[z,TI,TO,i1,i2]) hf (λb u hb e=>?_) (Qh _) ⟨by show 2<=sizeLine;decide,[u1,u2],.cons ru1 (.cons ru2 .nil),?_⟩
   ·simp only[Qu,Jh,or_false,not_or] at hb;exact s2.extBut _ _ hb.1 (kp b u hb.1 hb.2.2.1 hb.2.2.2.1 hb.2.2.2.2 e)
   ·exact⟨_,s2.extBut _ _ (hlt z (by simp)).symm tp,rfl,0,rfl⟩
  refine⟨.ref s.heap.objs.size,_,I1,rfl,⟨_,x,y,fr,λxs' e=>?_,λys' e=>?_,rfl,rfl⟩,?_,λb hb=>?_⟩
  ·rw[h1] at e;cases e;exact hx
  ·rw[h2] at e;cases e;exact hy
  ·obtain⟨a1,a2,⟨a,b,a3⟩,a4,a5⟩:=st';exact⟨z2,s2.extBut _ _ D.a1 a2,⟨a,b,s2.extBut _ _ D.a2 a3⟩,a4.extBut s2.extBut D.a3,a5.extBut s2.extBut D.a4⟩
  ·rw[Zu (hlt b hb)];exact(hf b hb).1
 done:=by
  intro X hP hw hK hc i pins s σ H E I hf st hg;subst hP hw hK;obtain⟨xs,ys,h1,h2,he⟩:=hg;obtain⟨its1,r1,p1,_⟩:=I.tuple (SqT.of h1);obtain⟨its2,r2,p2,_⟩:=I.tuple (SqT.of h2);have l1:=r1.length;have l2:=r2.length;refine Rz.Qro (I.ok.hd hc) D st (show s.heap.IsTuple t1 its1.toArray from p1) (show s.heap.IsTuple t2 its2.toArray from p2) ?_ λh' kp=>⟨rfl,I.turnedAll (t':=s.toks) (ch:=[z,TI,TO,i1,i2]) hf λb u hb e=>?_⟩
  ·rcases he with q | q
   ·exact .inl (by simp;omega)
   ·exact .inr (by simp;omega)
  ·simp only[Qu,Jh,or_false,not_or] at hb;exact kp b u hb.1 hb.2.2.1 hb.2.2.2.1 hb.2.2.2.2 e
 self:=λ_ _ _ _ _ st h=>Qdx st.zp h
section
variable{X:Cx}
theorem apart_new(n t1 t2:Nat)(h1:t1<n)(h2:t2<n):Rz.Apart (n+4) (n+2) (n+3) n (n+1) t1 t2 where
 a1:=by show ¬(n+2=n+4);omega
 a2:=by show ¬(n+3=n+4);omega
 a3:=by show ¬(n=n+4);omega
 a4:=by show ¬(n+1=n+4);omega
 a5:=by show ¬(n+2=n+3);omega
 a6:=by show ¬(n+2=n);omega
 a7:=by show ¬(n+2=n+1);omega
 a8:=by show ¬(n+3=n);omega
 a9:=by show ¬(n+3=n+1);omega
 b1:=by show ¬(n=n+1);omega
 b2:=⟨by show ¬(t1=n+4);omega,by show ¬(t1=n+3);omega,by show ¬(t1=n);omega,by show ¬(t1=n+1);omega⟩
 b3:=⟨by show ¬(t2=n+4);omega,by show ¬(t2=n+3);omega,by show ¬(t2=n);omega,by show ¬(t2=n+1);omega⟩
def QCg(ta:TA):TI:=λσ H R=>ta σ H λvs H1=>∃t1 t2 xs ys,vs=[.ref t1,.ref t2]/\H1 t1=some (.tup xs)/\H1 t2=some (.tup ys)/\R (Itz t1 t2) H1
theorem QoA:bootBuiltins "zip" = some (.type "zip"):=by decide +kernel
theorem Qxd{a b:QU}{elts:List QU}{x1}{tpos:Pos}{ta:TA}{p pos:Pos}(hg:Gl X "zip")(hm:X.mg "zip" = none)(ha:PA X [a,b] ta)(hs:starEach [a,b] X.env=[(false,eval a X.env),(false,eval b X.env)]:=by rfl)(hs2:starEach [b] X.env=[(false,eval b X.env)]:=by rfl) :
  PI X (.Tuple elts x1 tpos) (.Call (.Name "zip" p) [a,b] [] pos) (QCg ta):=by
 intro pins s σ H R I h;refine Call_ (QcV I hg hm QoA (JK (thn (ha pos pins s σ H _ I h) λus s1 ⟨vs,H1,I1,r1,q1⟩=>?_) (by rw[hs,hs2]) (by rw[hs2];rfl)));obtain⟨t1,t2,xs,ys,e,h1,h2,q⟩:=q1;subst e;obtain⟨u,v,rfl,ru,rv⟩:=vals2 r1;cases(show u=QJ t1 from ru);cases(show v=QJ t2 from rv);obtain⟨its1,w1,p1,_⟩:=I1.tuple (SqT.of h1);obtain⟨its2,w2,p2,_⟩:=I1.tuple (SqT.of h2);have n1:t1<s1.heap.objs.size:=I1.hok.lt h1;have n2:t2<s1.heap.objs.size:=I1.hok.lt h2;refine Rz.Qr2 (show s1.heap.IsTuple t1 its1.toArray from p1) (show s1.heap.IsTuple t2 its2.toArray from p2) λh' st kp=>?_
 refine Qdx (s:={ s1 with heap:=h' }) st.zp ?_
 have D:=apart_new s1.heap.objs.size t1 t2 n1 n2;refine⟨s1.heap.objs.size+4,_,_,_,H1,rfl,I1.kept (t':=s1.toks) kp,Qo7 D,st,λb hb=>?_,q⟩;have hb':s1.heap.objs.size<=b:=by
  simp only[Qu,Jh,or_false] at hb;rcases hb with rfl | rfl | rfl | rfl | rfl<;>omega
 exact I1.fpOk hb' (I1.hok.fresh hb')
end
end L2
namespace Rk
open L2
def QBb:Option HO->Option (List V)
 |some (.tup xs)=>some xs
 |_=>none
def QgL(H:Hp):V->Option (List V)
 |.ref a=>QBb (H a)
 |_=>none
theorem Qka(H:Hp)(a:Addr):QgL H (.ref a)=QBb (H a):=rfl
def isT(H:Hp)(x:V):Bool:=(QgL H x).isSome
def Kn(p:Addr)(H:Hp):V->Prop
 |.non=>True
 |.bl _=>True
 |.int _=>True
 |.str _=>True
 |.ref a=>a≠p/\((∃xs,H a=some (.tup xs))∨(∃xs,H a=some (.lst xs))∨∃kvs,H a=some (.dK kvs))
 |_=>False
def KnD(p:Addr):Nat->Hp->V->Prop
 |0,H,x=>Kn p H x
 |n+1,H,x=>Kn p H x/\∀xs,QgL H x=some xs->∀y∈xs,KnD p n H y
def KX(p:Addr)(H H':Hp):Prop:=∀b o,b≠p->H b=some o->H' b=some o
theorem KX.refl(p:Addr)(H:Hp):KX p H H:=λ_ _ _ e=>e
theorem KX.of{p:Addr}{H H':Hp}(h:Same H H'):KX p H H':=λb o _ e=>h b o e
theorem KX.new{p q:Addr}{H:Hp}{o:HO}(h:H q=none):KX p H (L2.upd H q o):=KX.of (JL h)
theorem KnD.kn{p:Addr}{H:Hp}{x:V}:∀{n:Nat},KnD p n H x->Kn p H x
 |0,h=>h
 |_+1,h=>h.1
theorem KnD.low{p:Addr}{H:Hp}:∀{n:Nat}{x:V},KnD p (n+1) H x->KnD p n H x
 |0,x,h=>h.1
 |n+1,x,h=>⟨h.1,λxs e y hy=>KnD.low (h.2 xs e y hy)⟩
theorem KnD.tup{p:Addr}{H:Hp}{n:Nat}{a:Addr}{xs:List V}(hp:a≠p)(e:H a=some (.tup xs))(h:∀y∈xs,KnD p n H y):KnD p (n+1) H (.ref a):=
 ⟨⟨hp,.inl ⟨xs,e⟩⟩,λys z y hy=>h y (by
  have z':some xs=some ys:=by rw[<- z,Qka,e];rfl
  cases z';exact hy)⟩
theorem KnD.int{p:Addr}{H:Hp}(i:Int):∀(n:Nat),KnD p n H (.int i)
 |0=>trivial
 |n+1=>⟨trivial,λ_ e=>nomatch e⟩
theorem QhS{H:Hp}{a:Addr}{xs:List V}(e:H a=some (.tup xs)):QgL H (.ref a)=some xs:=by rw[Qka,e];rfl
def QsP(H:Hp)(x:V):List Int:=((QgL H x).getD []).map λy=>match y with
 |.int i=>i
 |_=>0
def IntsT(H:Hp)(x:V)(ns:List Int):Prop:=∃a,x=.ref a/\H a=some (.tup (ns.map V.int))
theorem IntsT.eq{H:Hp}{x:V}{ns:List Int}(h:IntsT H x ns):QsP H x=ns:=by
 obtain⟨a,rfl,e⟩:=h;unfold QsP;rw[QhS e];show(ns.map V.int).map _=ns;rw[Q8];exact Qcr _
theorem Qht:bootBuiltins "isinstance" = some (.builtin "isinstance"):=by decide +kernel
theorem QyR:bootBuiltins "int" = some (.type "int"):=by decide +kernel
theorem QvP:bootBuiltins "bool" = some (.type "bool"):=by decide +kernel
theorem QaW:bootBuiltins "tuple" = some (.type "tuple"):=by decide +kernel
theorem Qoy:bootBuiltins "list" = some (.type "list"):=by decide +kernel
theorem Qgp:bootBuiltins "all" = some (.builtin "all"):=by decide +kernel
theorem QbZ:bootBuiltins "len" = some (.builtin "len"):=by decide +kernel
theorem QyQ:bootBuiltins "min" = some (.builtin "min"):=by decide +kernel
end Rk
namespace L2
theorem Qc3{J:It}{body:V->Hp->(Hp->Prop)->Prop}{Qn:Hp->Prop}{H:Hp}(n:Nat)(Pv:Nat->Hp->Prop)(h0:Pv 0 H)
  (hs:∀i H2,i<n->Pv i H2->J.go i H2/\∀x H3,J.yld i H2 x H3->∀k:Hp->Prop,(∀H6,Pv (i+1) H6->k H6)->body x H3 k)(hd:∀H2,Pv n H2->J.stop n H2/\Qn H2):Qjb J body Qn H:=by
 refine⟨λi m H=>m=n - i/\i<=n/\Pv i H,⟨n,by simp,Qs _,h0⟩,?_⟩;rintro i m H2 ⟨rfl,hi,p⟩;by_cases hlt:i<n
 ·obtain⟨go,st⟩:=hs i H2 hlt p;exact .inr ⟨go,λx H3 y=>st x H3 y _ λH6 p6=>⟨n - (i+1),by omega,rfl,hlt,p6⟩⟩
 ·have e:i=n:=by omega
  subst e;exact .inl (hd H2 p)
end L2
namespace Rk
open L2
theorem range_getD{α:Type}(L:List α)(d:α):(Qq L.length).map (λi=>L.getD i d)=L:=by
 refine Z1 λi=>?_
 rw[QB];by_cases hi:i<L.length
 ·rw[JT hi];show some (L.getD i d)=L[i]?;rw[Jx,Qo hi];rfl
 ·have h1:(Qq L.length)[i]? = none:=Js (by rw[QV];omega);have h2:L[i]? = none:=Js (by omega);rw[h1,h2];rfl
def Qdj(K:PySem.W.Frag):Sp:=λvs H Q _=>∃a ns k,vs=[.ref a,.int k]/\SqL K H a ((ns:List Int).map V.int)/\ns.length<2^20/\0<=k/\∀c,Q (.int c) H
def Cs(p:Addr)(H:Hp):List V->List (Int×Int)->Prop:=Qbp λx ij=>∃d,d≠p/\x=.ref d/\H d=some (.tup [.int ij.1,.int ij.2])
theorem Cs.mem{p:Addr}{H:Hp}:∀{ps:List V}{L:List (Int×Int)},Cs p H ps L->∀x∈ps,∃ij∈L,∃d,d≠p/\x=.ref d/\H d=some (.tup [.int ij.1,.int ij.2])
 |_,_,.nil,x,h=>nomatch h
 |_,_,.cons r t,x,h=>by
  rcases Qu.mp h with e | e
  ·subst e;exact⟨_,Jm,r⟩
  ·obtain⟨ij,m,q⟩:=Cs.mem t x e;exact⟨ij,QH _ m,q⟩
def QyZ(a b:Int×Int):Prop:=a.1<b.1∨(a.1=b.1/\a.2<b.2)
structure Good (h w:Int) (L:List (Int×Int)):Prop where
 asc:L.Pairwise QyZ
 ins:∀x∈L,0<=x.1/\x.1<h/\0<=x.2/\x.2<w
 len:L.length<=36
def notStar:QU->Bool
 |.Starred _ _=>false
 |_=>true
theorem ZX{e:QU}{es:List QU}{env:Env}(h:notStar e=true):starEach (e::es) env=(false,eval e env)::starEach es env:=by
 cases e<;>first | rfl | cases h
section
variable{X:Cx}
theorem Qeg{e:QU}{es:List QU}{te:TE}{t:TA}(ha:PE X e te)(hr:PA X es t)(hs:notStar e=true:=by rfl):PA X (e::es) (Qlo te t):=Qnh ha hr (ZX hs)
end
def Sm(H:Hp)(x:V):Prop:=∀ps,QgL H x=some ps->ps.length<sizeLine
def Part(p:Addr)(H:Hp)(x:V):Prop:=KnD p 2 H x/\Sm H x
def Thing(p:Addr)(H:Hp)(x:V):Prop:=KnD p 3 H x/\Sm H x/\∀xs,QgL H x=some xs->∀y∈xs,Sm H y
theorem Qws{H:Hp}{a:Addr}{xs ys:List V}(e:H a=some (.tup xs))(z:QgL H (.ref a)=some ys):ys=xs:=by
 rw[QhS e] at z;cases z;rfl
theorem Part.tup{p:Addr}{H:Hp}{a:Addr}{xs:List V}(hp:a≠p)(e:H a=some (.tup xs))(hl:xs.length<sizeLine)(h:∀y∈xs,KnD p 1 H y):Part p H (.ref a):=
 ⟨KnD.tup hp e h,λps z=>by rw[Qws e z];exact hl⟩
theorem Thing.part{p:Addr}{H:Hp}{x:V}(h:Thing p H x):Part p H x:=⟨h.1.low,h.2.1⟩
theorem Qys{P:V->Prop}:∀y∈([]:List V),P y:=λ_ h=>nomatch h
theorem Qn2{P:V->Prop}{a:V}{l:List V}(h:P a)(k:∀y∈l,P y):∀y∈a::l,P y:=λy hy=>by
 rcases Qu.mp hy with e | e
 ·subst e;exact h
 ·exact k y e
theorem Cs.kn{p:Addr}{H:Hp}{ps:List V}{L:List (Int×Int)}(h:Cs p H ps L):∀x∈ps,KnD p 1 H x:=λx hx=>by
 obtain⟨ij,_,d,n,rfl,e⟩:=h.mem x hx;exact KnD.tup n e (Qn2 (KnD.int _ 0) (Qn2 (KnD.int _ 0) Qys))
theorem Cs.part{p:Addr}{H:Hp}{c:Addr}{ps:List V}{L:List (Int×Int)}(n:c≠p)(e:H c=some (.tup ps))(hl:ps.length<sizeLine)(h:Cs p H ps L):Part p H (.ref c):=Part.tup n e hl h.kn
theorem QbQ{n:Nat}(h:n<=1000):n<sizeLine:=YV h (by decide)
def Fine(p:Addr):Nat->Hp->V->Prop
 |0,H,x=>Kn p H x/\Sm H x
 |n+1,H,x=>Kn p H x/\Sm H x/\∀xs,QgL H x=some xs->∀y∈xs,Fine p n H y
theorem Fine.kn{p:Addr}{H:Hp}{x:V}:∀{n:Nat},Fine p n H x->Kn p H x
 |0,h=>h.1
 |_+1,h=>h.1
theorem Fine.sm{p:Addr}{H:Hp}{x:V}:∀{n:Nat},Fine p n H x->Sm H x
 |0,h=>h.2
 |_+1,h=>h.2.1
theorem Fine.knd{p:Addr}{H:Hp}:∀{n:Nat}{x:V},Fine p n H x->KnD p n H x
 |0,_,h=>h.1
 |_+1,_,h=>⟨h.1,λxs e y hy=>(h.2.2 xs e y hy).knd⟩
theorem Fine.thing{p:Addr}{H:Hp}{x:V}(h:∀n,Fine p n H x):Thing p H x:=⟨(h 3).knd,(h 0).2,λxs e y hy=>((h 1).2.2 xs e y hy).2⟩
section
variable{X:Cx}
end
def Qz3(t:TA):TE:=λσ H Q=>t σ H λxs H1=>xs.length<=1000/\∀a H2,Same H1 H2->H1 a=none->H2 a=some (.tup xs)->Q (.ref a) H2
def Qz9(t:TA):TE:=λσ H Q=>t σ H λxs H1=>xs.length<=1000/\∀a H2,Same H1 H2->H1 a=none->H2 a=some (.lst xs)->Q (.ref a) H2
section
variable{X:Cx}
theorem Qud{es:List QU}{t:TA}{x1}{pos:Pos}(h:PA X es t):PE X (.Tuple es x1 pos) (Qz3 t):=by
 intro pins s σ H Q I hq;refine wpAny_Tuple_spliced (thn (h pos pins s σ H _ I hq) λus s1 ⟨xs,H1,I1,r,z,q⟩=>⟨by rw[<- r.length];exact ZZ (QbQ z),?_⟩);have hf:H1 s1.heap.objs.size=none:=I1.hok.fresh (Qh _);refine⟨.ref s1.heap.objs.size,upd H1 s1.heap.objs.size (.tup xs),I1.laid (t':=s1.toks) (λb u e=>Qe _ e) (Qh _) ?_,rfl,q _ _ (JL hf) hf JQ⟩;exact⟨ZZ (QbQ z),us,r,⟨_,Qw _ rfl,rfl,_,rfl⟩⟩
theorem Que{es:List QU}{t:TA}{pos:Pos}(h:PA X es t):PE X (.List es pos) (Qz9 t):=by
 intro pins s σ H Q I hq;refine wpAny_List_spliced (thn (h pos pins s σ H _ I hq) λus s1 ⟨xs,H1,I1,r,z,q⟩=>⟨by rw[<- r.length];exact ZZ (QbQ z),?_⟩);have hf:H1 s1.heap.objs.size=none:=I1.hok.fresh (Qh _);refine⟨.ref s1.heap.objs.size,upd H1 s1.heap.objs.size (.lst xs),I1.laid (t':=s1.toks) (λb u e=>Qe _ e) (Qh _) ?_,rfl,q _ _ (JL hf) hf JQ⟩;exact⟨ZZ (QbQ z),us,0,r,Qw _ rfl⟩
end
def FineA(p:Addr)(H:Hp)(x:V):Prop:=∀n,Fine p n H x
theorem FineA.thing{p:Addr}{H:Hp}{x:V}(h:FineA p H x):Thing p H x:=Fine.thing h
theorem FineA.part{p:Addr}{H:Hp}{x:V}(h:FineA p H x):Part p H x:=(Fine.thing h).part
end Rk
namespace Rx
open PySem.Calls L2 PySem.W Builtin Builtin.ObjectAttr Builtin.Getset_descriptor
def ExAt(a C:Addr)(h:Heap):Prop:=∃o vs,h.get? a=some o/\o.cls=.ref C/\o.data=.fields vs
theorem ExAt.ty{M:QzM}{h:Heap}{a C:Addr}(x:ExAt a C h):Looks M h (typeOf (.ref a)) (.ref C):=by
 obtain⟨o,vs,e,c,_⟩:=x;exact c ▸ (Looks.ld e).andThen .now
section
variable{prog:QC}{w:Q9}{A:Q5}{E:Value->Shared->Prop}{s:Shared}{K:PySem.W.Frag}{a C:Addr}
end
end Rx
namespace Rx
open PySem.Calls L2
section
variable{X:Cx}{E:XK}{C:Addr}{x:Str}{e0:QU}{te:TE}{np cpos pos:Pos}
end
section
variable{X:Cx}{pins:List (Addr×Obj)}{σ:L2.St}{H:Hp}{s:Shared}
end
def XP(X:Cx)(pins:List (Addr×Obj))(Ex:L2.St->Addr->Hp->Prop)(e:Value)(s1:Shared):Prop:=
 ∃(σ:L2.St)(C:Addr)(H':Hp)(a t:Addr)(B:Heap),e=.ref a/\Heap.FlyingW B X.stack a (.ref C) (.ref t) s1.heap/\H' a=none/\X.s₀.heap.get? a=none/\(∀p∈X.pn++pins,p.1≠a) /\
  (∀(h2:Heap)(tk:Nat),B.StaysIn h2->s1.heap.UpToSlots h2->Inv X pins σ H' { s1 with heap:=h2,toks:=tk })/\Ex σ C H'
section
variable{X:Cx}{k:Nat}{f:Addr}{fd:Q2}{ps:List Str}{sp:Sp}{x:Str}{p pos:Pos}{e:QU}{es:List QU}{t:TA}
end
section
variable{X:Cx}{R:Addr}{i:Nat}{n r:Str}{call hx:QU}{tc:TX}{th:TE}{rp np hp hpos pos:Pos}
end
section
variable{P:QC}{w:Q9}{K:PySem.W.Frag}{mg:Str->Option Value}{base:Heap}
end
section
variable{X:Cx}{k:Nat}{f:Addr}{fd:Q2}{ps:List Str}{sp:Sp}{x:Str}{p pos:Pos}{e:QU}{es:List QU}{t:TA}
end
section
variable{X:Cx}
theorem bools_eq{bs:List Bool}{us:List Value}(r:Vals (bs.map V.bl) us):us=bs.map Qb2:=by
 induction bs generalizing us with
 |nil=>cases r;rfl
 |cons b bs ih=>
  cases r with
  |cons r t=>
   cases(show _=Qb2 b from r);rw[ih t];rfl
end
end Rx
namespace Rd
open L2
mutual
inductive Dat (H:Hp):V->Qa->Prop
 |non:Dat H .non .none
 |bl (b:Bool):Dat H (.bl b) (.bool b)
 |int (i:Int):Dat H (.int i) (.int i)
 |str (x:Str):Qhz (.str x)=true->Dat H (.str x) (.str x)
 |tup {a:Addr} {xs:List V} {ds:List Qa}:H a=some (.tup xs)->Dats H xs ds->Dat H (.ref a) (.tuple ds)
 |lst {a:Addr} {xs:List V} {ds:List Qa}:H a=some (.lst xs)->Dats H xs ds->Dat H (.ref a) (.list ds)
inductive Dats (H:Hp):List V->List Qa->Prop
 |nil:Dats H [] []
 |cons {x:V} {xs:List V} {d:Qa} {ds:List Qa}:Dat H x d->Dats H xs ds->Dats H (x::xs) (d::ds)
end
mutual
theorem Yg{P:QC}{w:Q9}{H:Hp}{h:Heap}(ok:HOk P w H h):∀(d:Qa)(x:V)(v:Value),Dat H x d->RelV x v->(∃as,QbA h v d as)/\d.canLay0=true
 |.none,_,v,.non,r=>by cases r;exact⟨⟨_,.none⟩,rfl⟩
 |.bool b,_,v,.bl _,r=>by cases r;exact⟨⟨_,.bool b⟩,rfl⟩
 |.int i,_,v,.int _,r=>by obtain⟨t,rfl⟩:=r;exact⟨⟨_,.int i t⟩,rfl⟩
 |.str z,_,v,.str _ c,r=>by obtain⟨t,rfl⟩:=r;exact⟨⟨_,.str z t⟩,c⟩
 |.tuple ds,_,v,.tup (a:=a) (xs:=xs) e q,r=>by
  cases r;obtain⟨_,its,rv,o,ho,hc,n,hd⟩:=ok a _ e;obtain⟨⟨as,ra⟩,cl⟩:=YS ok ds xs its q rv;exact⟨⟨as,.tuple ho hc hd ra⟩,cl⟩
 |.list ds,_,v,.lst (a:=a) (xs:=xs) e q,r=>by
  cases r;obtain⟨_,its,n,rv,ho⟩:=ok a _ e;obtain⟨⟨as,ra⟩,cl⟩:=YS ok ds xs its q rv;exact⟨⟨a::as,.list ho rfl rfl ra⟩,cl⟩
 |.dict _,_,_,q,_=>nomatch q
theorem YS{P:QC}{w:Q9}{H:Hp}{h:Heap}(ok:HOk P w H h):∀(ds:List Qa)(xs:List V)(vs:List Value),Dats H xs ds->Vals xs vs->(∃as,YL h vs ds as)/\Ja ds=true
 |[],_,vs,.nil,r=>by cases r;exact⟨⟨_,.nil⟩,rfl⟩
 |d::ds,_,vs,.cons (x:=x) (xs:=xs) q qs,r=>by
  cases r with
  |cons r rs=>
   obtain⟨⟨a1,r1⟩,c1⟩:=Yg ok d x _ q r;obtain⟨⟨a2,r2⟩,c2⟩:=YS ok ds xs _ qs rs;exact⟨⟨_,.cons r1 r2⟩,by simp[Ja,c1,c2]⟩
end
mutual
theorem QkY{H H':Hp}(s:Same H H'):∀(d:Qa)(x:V),Dat H x d->Dat H' x d
 |.none,_,.non=>.non
 |.bool _,_,.bl _=>.bl _
 |.int _,_,.int _=>.int _
 |.str _,_,.str _ c=>.str _ c
 |.tuple ds,_,.tup (xs:=xs) e q=>.tup (s _ _ e) (Qdv s ds xs q)
 |.list ds,_,.lst (xs:=xs) e q=>.lst (s _ _ e) (Qdv s ds xs q)
 |.dict _,_,q=>nomatch q
theorem Qdv{H H':Hp}(s:Same H H'):∀(ds:List Qa)(xs:List V),Dats H xs ds->Dats H' xs ds
 |[],_,.nil=>.nil
 |d::ds,_,.cons (x:=x) (xs:=xs) q qs=>.cons (QkY s d x q) (Qdv s ds xs qs)
end
theorem Dat.same{H H':Hp}{x:V}{d:Qa}(q:Dat H x d)(s:Same H H'):Dat H' x d:=QkY s d x q
theorem Dats.same{H H':Hp}{xs:List V}{ds:List Qa}(q:Dats H xs ds)(s:Same H H'):Dats H' xs ds:=Qdv s ds xs q
section
variable{X:Cx}
def QB4(X:Cx):R2:=λx y H Q=>∃dx dy,Dat H x dx/\Dat H y dy/\X.A.units+min dx.depth dy.depth<cLine/\Q (.bl (QY dx dy)) H
theorem QxP:OpR X (compareOp .Eq) (QB4 X):=by
 intro pins s σ H x y v u Q I rx ry h;obtain⟨dx,dy,qx,qy,hu,q⟩:=h;obtain⟨⟨as,ra⟩,ca⟩:=Yg I.hok dx x v qx rx;obtain⟨⟨bs,rb⟩,cb⟩:=Yg I.hok dy y u qy ry;exact SeqAt.compareEq_reads ra rb ca cb hu ⟨.bl _,H,I,rfl,q⟩
open Classical in
noncomputable def eqH (h:Heap) (d:Qa) (y:Value):Bool:=decide (∃e as,QbA h y e as/\e.canLay0=true/\QY e d=true)
open Classical in
theorem QAX{h:Heap}{d:Qa}{y:Value}(q:∃e as,QbA h y e as/\e.canLay0=true/\QY e d=true):eqH h d y=true:=by
 unfold eqH;exact decide_eq_true q
open Classical in
theorem QAY{h:Heap}{d:Qa}{y:Value}(q:¬ ∃e as,QbA h y e as/\e.canLay0=true/\QY e d=true):eqH h d y=false:=by
 unfold eqH;exact decide_eq_false q
theorem QsT{h:Heap}{d e:Qa}{y:Value}{as:List Addr}(r:QbA h y e as)(c:e.canLay0=true):eqH h d y=QY e d:=by
 cases q:QY e d with
 |true=>exact QAX ⟨e,as,r,c,q⟩
 |false=>
  refine QAY λ⟨e',as',r',c',q'⟩=>?_
  rw[<- Ys e e' y as as' c r r',q] at q';cases q'
theorem Qfr{h:Heap}{d:Qa}:∀{vs:List Value}{ds:List Qa}{as:List Addr},YL h vs ds as->Ja ds=true->vs.any (eqH h d)=ds.any λe=>QY e d
 |_,_,_,.nil,_=>rfl
 |_,_,_,.cons r rs,c=>by
  simp only[Ja,JH] at c;rw[Qcu,Qcu,QsT r c.1,Qfr rs c.2]
theorem Qfc{A:Q5}{s:Shared}{d:Qa}{v:Value}{bs:List Addr}(rv:QbA s.heap v d bs)(cv:d.canLay0=true):∀{vs:List Value}{ds:List Qa}{as:List Addr},YL s.heap vs ds as->Ja ds=true->A.units+d.depth<cLine ->
  ∀u∈vs,SeqAt.EqAt A s u v (eqH s.heap d u)
 |_,_,_,.nil,_,_=>λu hu=>nomatch hu
 |_,_,_,.cons (d:=e) r rs,c,hu=>λu hm=>by
  simp only[Ja,JH] at c;rcases Qu.mp hm with z | z
  ·subst z;rw[QsT r c.1];exact Qfw e d A s _ v _ bs r rv c.1 cv (YV (Nat.add_le_add_left (Qgz _ _) _) hu)
  ·exact Qfc rv cv rs c.2 hu u z
def QBp(X:Cx)(neg:Bool):R2:=λx y H Q=>∃c ps ds d,y=.ref c/\H c=some (.tup ps)/\Dats H ps ds/\Dat H x d/\X.A.in1.units+d.depth<cLine/\Q (.bl (if neg then !(ds.any λe=>QY e d) else ds.any λe=>QY e d)) H
theorem QxM:OpR X (compareOp .In) (QBp X false):=by
 intro pins s σ H x y v u Q I rx ry h;obtain⟨c,ps,ds,d,rfl,hc,qs,qx,hu,q⟩:=h;cases ry;obtain⟨⟨as,ra⟩,ca⟩:=Yg I.hok d x v qx rx;obtain⟨_,its,rv,tp⟩:=I.hok c _ hc;obtain⟨⟨bs,rb⟩,cb⟩:=YS I.hok ds ps its qs rv;refine SeqAt.in_tupleAt (eqH s.heap d) tp (λw hw=>Qfc ra ca rb cb hu w (QcK.mp hw)) ⟨.bl _,H,I,rfl,?_⟩;rw[show its.toArray.any (eqH s.heap d)=its.any (eqH s.heap d) by simp,Qfr rb cb];exact q
theorem Qnl:OpR X (compareOp .NotIn) (QBp X true):=by
 intro pins s σ H x y v u Q I rx ry h;obtain⟨c,ps,ds,d,rfl,hc,qs,qx,hu,q⟩:=h;cases ry;obtain⟨⟨as,ra⟩,ca⟩:=Yg I.hok d x v qx rx;obtain⟨_,its,rv,tp⟩:=I.hok c _ hc;obtain⟨⟨bs,rb⟩,cb⟩:=YS I.hok ds ps its qs rv;refine SeqAt.notIn_tupleAt (eqH s.heap d) tp (λw hw=>Qfc ra ca rb cb hu w (QcK.mp hw)) ⟨.bl _,H,I,rfl,?_⟩;rw[show its.toArray.any (eqH s.heap d)=its.any (eqH s.heap d) by simp,Qfr rb cb];exact q
end
section
variable{X:Cx}
end
end Rd
namespace L2
def Ite(l:Addr):It:=
 ⟨λi H=>∃xs x,H l=some (.lst xs)/\xs[i]? = some x,
  λi H v H'=>∃p x,H p=none/\(∀xs,H l=some (.lst xs)->xs[i]? = some x)/\v=.ref p/\H'=upd H p (.tup [.int (i:Nat),x]),
  λi H=>∃xs,H l=some (.lst xs)/\xs.length<=i⟩
theorem Qmo{P:QC}{w:Q9}{K:PySem.W.Frag}{elts:List QU}{x1}{tpos:Pos}{e it l:Addr}(hne:e≠it) :
  Turn P w K (.Tuple elts x1 tpos) (Ite l) [e,it] e (λi h=>(∃old,IsEnum h e it (i:Nat) old)/\h.IsListIter it l i) where
 mem:=by simp
 obj:=λi h st b hb=>by
  obtain⟨⟨old,a1⟩,⟨o2,a2,_,d2⟩⟩:=st;simp only[Qu,Jh,or_false] at hb;rcases hb with rfl | rfl
  ·exact⟨_,a1,λv q=>nomatch q⟩
  ·exact⟨_,a2,λv q=>by rw[d2] at q;cases q⟩
 keep:=λi h h' st k=>by
  obtain⟨⟨old,a1⟩,⟨o2,a2,c2⟩⟩:=st;exact⟨⟨old,k e (by simp) _ a1⟩,o2,k it (by simp) _ a2,c2⟩
 item:=by
  intro X hP hw hK hc i pins s σ H E I hf st hg;subst hP hw hK;obtain⟨xs,x,h1,hx⟩:=hg;obtain⟨⟨old,a1⟩,a2⟩:=st;obtain⟨its,r1,p1,_⟩:=I.list (SqL.of h1);obtain⟨u,hu,ru⟩:=r1.get hx;refine wpAny_pyNext_enum_item a1 a2 p1.isList (x:=u) (by simpa using hu) hne λh' o' l' tp sz kp=>?_
  have fr:H s.heap.objs.size=none:=I.hok.fresh (Qh _);have n1:e≠s.heap.objs.size:=Qz (Qm a1);have n2:it≠s.heap.objs.size:=by
   obtain⟨o2,a2,_⟩:=a2;exact Qz (Qm a2)
  refine⟨_,rfl,wpAny_letOwnedTupleGo_enum o' λh2 e2 s2=>?_⟩;have I1:Inv X pins σ (upd H s.heap.objs.size (.tup [.int (i:Nat),x])) { s with heap:=h2,toks:=s.toks+1 }:=by
   refine I.turnedNew (ch:=[e,it]) hf (λb v hb q=>?_) (Qh _) ⟨by show 2<=sizeLine;decide,[.int (i:Nat) s.toks,u],.cons ⟨_,rfl⟩ (.cons ru .nil),?_⟩
   ·simp only[Qu,Jh,or_false,not_or] at hb;exact s2.extBut _ _ hb.1 (kp b v hb.1 hb.2 q)
   ·exact⟨_,s2.extBut _ _ n1.symm tp,rfl,0,rfl⟩
  refine⟨.ref s.heap.objs.size,_,I1,rfl,⟨_,x,fr,λxs' q=>?_,rfl,rfl⟩,⟨⟨u,e2⟩,?_⟩,λb hb=>?_⟩
  ·rw[h1] at q;cases q;exact hx
  ·exact l'.extBut s2.extBut hne.symm
  ·simp only[Qu,Jh,or_false] at hb;rcases hb with rfl | rfl
   ·rw[Zu n1];exact(hf _ (by simp)).1
   ·rw[Zu n2];exact(hf _ (by simp)).1
 done:=by
  intro X hP hw hK hc i pins s σ H E I hf st hg;subst hP hw hK;obtain⟨xs,h1,he⟩:=hg;obtain⟨⟨old,a1⟩,a2⟩:=st;obtain⟨its,r1,p1,_⟩:=I.list (SqL.of h1);have l1:=r1.length;refine wpAny_pyNext_enum_end (I.ok.hd hc) a1 a2 p1.isList (by simp;omega) λh' kp=>⟨rfl,I.turnedAll (t':=s.toks) (ch:=[e,it]) hf λb v hb q=>?_⟩
  simp only[Qu,Jh,or_false,not_or] at hb;exact kp b v hb.2 q
 self:=λ_ _ _ _ _ st h=>by
  obtain⟨⟨old,a1⟩,_⟩:=st;exact Qzs a1 h
def QAT(ta:TA):TI:=λσ H R=>ta σ H λvs H1=>∃l xs,vs=[.ref l]/\H1 l=some (.lst xs)/\R (Ite l) H1
theorem QoB:bootBuiltins "enumerate" = some (.type "enumerate"):=by decide +kernel
section
variable{X:Cx}
theorem Qua{a:QU}{elts:List QU}{x1}{tpos:Pos}{ta:TA}{p pos:Pos}(hg:Gl X "enumerate")(hm:X.mg "enumerate" = none)(ha:PA X [a] ta)(hs:starEach [a] X.env=[(false,eval a X.env)]:=by rfl) :
  PI X (.Tuple elts x1 tpos) (.Call (.Name "enumerate" p) [a] [] pos) (QAT ta):=by
 intro pins s σ H R I h;refine Call_ (QcV I hg hm QoB (JK (thn (ha pos pins s σ H _ I h) λus s1 ⟨vs,H1,I1,r1,q1⟩=>?_) hs rfl));obtain⟨l,xs,e,h1,q⟩:=q1;subst e;obtain⟨u,rfl,ru⟩:=vals1 r1;cases(show u=QJ l from ru);obtain⟨its,w1,p1,_⟩:=I1.list (SqL.of h1);refine call_enumerate_list p1.isList λh' e1 i1 sz kp=>?_
 refine Qzs (s:={ s1 with heap:=h' }) e1 ?_
 refine⟨s1.heap.objs.size+1,_,_,_,H1,rfl,I1.kept (t':=s1.toks) kp,Qmo (by show ¬(s1.heap.objs.size+1=s1.heap.objs.size);omega),⟨⟨_,e1⟩,i1⟩,λb hb=>?_,q⟩;have hb':s1.heap.objs.size<=b:=by
  simp only[Qu,Jh,or_false] at hb;rcases hb with rfl | rfl<;>omega
 exact I1.fpOk hb' (I1.hok.fresh hb')
end
section
variable{prog:QC}{w:Q9}{A:Q5}{R:Qtb->Shared->Prop}{s:Shared}
theorem QhV{elt tg iter:QU}{ifs:List QU}{g0:Qdg}{scope:YC}{pos:Pos}{it acc:Value}{env:Env}
  (h0:codeAny (model prog w) A (.compLoop (.ListComp elt [g0,⟨tg,iter,ifs,0⟩] scope pos) 1 it acc env) R s)
  (h:wpAny (model prog w) A (pyIter it) (λit' s'=>codeAny (model prog w) A (.compLoop (.ListComp elt [g0,⟨tg,iter,ifs,0⟩] scope pos) 1 it' acc env) R s') (notedBy (model prog w) A env λx s'=>R (.error x) s') s) :
  codeAny (model prog w) A (.compStart (.ListComp elt [g0,⟨tg,iter,ifs,0⟩] scope pos) 1 it acc env) R s:=by
 refine Qep ?_
 show wpAny _ _ ((compStart (.ListComp elt [g0,⟨tg,iter,ifs,0⟩] scope pos) 1 it acc env).onRaise (λx=>do noteFrame x env;standAt theWindowsPlace)) _ _ s;refine wpAny_notedAt ?_
 unfold compStart;show wpAny _ _ (ask >>= _) _ _ s;refine wpAny_bind (YX (wpAny_ite ?_));split
 ·first
   |exact wpAny_bind (Qb (Qb ⟨rfl,h0⟩))
   |exact Qb ⟨rfl,h0⟩
 ·first
   |exact wpAny_bind (wpAny_rule (wpAny_bind (wpAny_standAt (wpAny_bind (wpAny_mono h (λit' s' h'=>Qb ⟨rfl,h'⟩) λ_ _ x=>x)))))
   |exact wpAny_bind (wpAny_rule (wpAny_bind (wpAny_standAt (wpAny_bind (wpAny_mono h (λit' s' h'=>Qb (Qb ⟨rfl,h'⟩)) λ_ _ x=>x)))))
end
theorem Qmn{Y:Cx}{elt tg iter:QU}{ifs:List QU}{g0:Qdg}{scope:YC}{cpos:Pos}{it D:Addr}(Q:PySem.Fin->Shared->Prop)(E:Value->Shared->Prop)(s:Shared)
  (h:wpAny (model Y.prog Y.w) Y.A (pyNext (.ref it)) (λr s1=>match r with
   |none=>Q (.done .next) s1
   |some v=>wpAny (model Y.prog Y.w) Y.A (letOwnedTupleGo tg (.ref it) v) (λ_ s2=>QoJ Y tg ifs (QoM Y elt D) v (λs3=>Q (.again (.compLoop (.ListComp elt [g0,⟨tg,iter,ifs,0⟩] scope cpos) 1 (.ref it) (.ref D) Y.env)) s3) s2) E s1) E s) :
  wpAny (model Y.prog Y.w) Y.A (compTurn (.ListComp elt [g0,⟨tg,iter,ifs,0⟩] scope cpos) 1 (.ref it) (.ref D) Y.env) Q E s:=by
 have e:compTurn (.ListComp elt [g0,⟨tg,iter,ifs,0⟩] scope cpos) 1 (.ref it) (.ref D) Y.env=(do
   standAt iter.pos
   match <- pyNext (.ref it) with
   |none=>pure (.done .next)
   |some v=>
    letOwnedTupleGo tg (.ref it) v
    assign tg Y.env v
    let mut ok:=true
    for c in ifs do
     if ok then ok <- isTrue c Y.env (eval c Y.env)
    if ok then
     (do let _ <- call (.builtin "list.append") [.ref D,<- eval elt Y.env])
    again (.compLoop (.ListComp elt [g0,⟨tg,iter,ifs,0⟩] scope cpos) 1 (.ref it) (.ref D) Y.env)):=by rfl
 rw[e];refine wpAny_bind (wpAny_standAt (wpAny_bind (thn h λr s1 h1=>?_)));cases r with
 |none=>exact Qb h1
 |some v=>
  refine wpAny_bind (thn h1 λ_ s2 h2=>?_);refine wpAny_bind (wpAny_mono h2 (λ_ s4 h4=>wpAny_bind (wpAny_mono h4 (λok s5 h5=>?_) λ_ _ f=>f.elim)) λ_ _ f=>f.elim);cases ok with
  |false=>exact Qb h5
  |true=>exact wpAny_bind (wpAny_bind (wpAny_mono h5 (λx s6 h6=>wpAny_bind (wpAny_mono h6 (λ_ s7 h7=>Qb (Qb h7)) λ_ _ f=>f.elim)) λ_ _ f=>f.elim))
def QoK(Y:Cx)(e:QU)(iter:QU)(D:Addr):Act:=λQ s=>wpAny (model Y.prog Y.w) Y.A (eval iter Y.env) (λx s1=>wpAny (model Y.prog Y.w) Y.A (pyIter x)
 (λitv s2=>codeAny (model Y.prog Y.w) Y.A (.compStart e 1 itv (.ref D) Y.env) (λr s3=>match r with | .ok _=>Q s3 | .error _=>False) s2) (λ_ _=>False) s1) (λ_ _=>False) s
def QyT(wi:TI)(g:TG)(tc:TT)(p:Addr)(te:TE):St->Hp->(Hp->Prop)->Prop:=λσ H k=>wi σ H λJ H1=>Qjb J (bOf σ g tc (QyV p te)) k H1
theorem QiE{Y:Cx}{σ:St}{elt tg iter:QU}{ifs:List QU}{g0:Qdg}{scope:YC}{cpos:Pos}{D:Addr}{wi:TI}{g:TG}{tc:TT}{te:TE}(hx:Y.xe=λ_ _=>False)(hc:Y.calm=true)
  (hi:PI Y tg iter wi)(hg:PG Y tg g)(ht:PTs Y ifs tc)(he:PE Y elt te):BodyOk Y σ (QoK Y (.ListComp elt [g0,⟨tg,iter,ifs,0⟩] scope cpos) iter D) (QyT wi g tc D te σ):=by
 intro pins s H k Q I h hQ;have hx':∀(v:Value)(s':Shared),Y.xe v s'->False:=λv s' z=>by rw[hx] at z;exact z
 refine wpAny_mono (hi pins s σ H _ I h) (λv s1 h1=>wpAny_mono h1 (λitv s2 h2=>?_) hx') hx';obtain⟨it,fp,tn,J,H2,e,I2,T,st2,f2,hW⟩:=h2;subst e;have loop:codeAny (model Y.prog Y.w) Y.A (.compLoop (.ListComp elt [g0,⟨tg,iter,ifs,0⟩] scope cpos) 1 (.ref it) (.ref D) Y.env) (λr s3=>match r with | .ok _=>Q s3 | .error _=>False) s2:=
  Qch (Y:=Y) (gens:=[g0,⟨tg,iter,ifs,0⟩]) (d:=1) hc T st2 f2 (λQ E s h=>Qmn Q E s h) (λx u r=>Qd5 hx hg ht (λσ4=>Qhu hx he) x u r) I2 hW λs' H' I' q=>hQ s' H' I' q
 exact QhV loop (T.self _ 0 _ _ _ st2 loop)
theorem QfQ{Y:Cx}{elt tg iter tg2 iter2:QU}{ifs ifs2:List QU}{scope:YC}{cpos:Pos}{it D:Addr}(hs:∀x,foldedSetIterable iter2 Y.env x=pure x)(Q:PySem.Fin->Shared->Prop)(E:Value->Shared->Prop)(s:Shared)
  (h:wpAny (model Y.prog Y.w) Y.A (pyNext (.ref it)) (λr s1=>match r with
   |none=>Q (.done .next) s1
   |some v=>wpAny (model Y.prog Y.w) Y.A (letOwnedTupleGo tg (.ref it) v) (λ_ s2=>QoJ Y tg ifs (QoK Y (.ListComp elt [⟨tg,iter,ifs,0⟩,⟨tg2,iter2,ifs2,0⟩] scope cpos) iter2 D) v (λs3=>Q (.again (.compLoop (.ListComp elt [⟨tg,iter,ifs,0⟩,⟨tg2,iter2,ifs2,0⟩] scope cpos) 0 (.ref it) (.ref D) Y.env)) s3) s2) E s1) E s) :
  wpAny (model Y.prog Y.w) Y.A (compTurn (.ListComp elt [⟨tg,iter,ifs,0⟩,⟨tg2,iter2,ifs2,0⟩] scope cpos) 0 (.ref it) (.ref D) Y.env) Q E s:=by
 have e:compTurn (.ListComp elt [⟨tg,iter,ifs,0⟩,⟨tg2,iter2,ifs2,0⟩] scope cpos) 0 (.ref it) (.ref D) Y.env=(do
   standAt iter.pos
   match <- pyNext (.ref it) with
   |none=>pure (.done .next)
   |some v=>
    letOwnedTupleGo tg (.ref it) v
    assign tg Y.env v
    let mut ok:=true
    for c in ifs do
     if ok then ok <- isTrue c Y.env (eval c Y.env)
    if ok then
     let x <- eval iter2 Y.env
     standAt iter2.pos
     let x <- foldedSetIterable iter2 Y.env x
     let _ <- runOwn (.compStart (.ListComp elt [⟨tg,iter,ifs,0⟩,⟨tg2,iter2,ifs2,0⟩] scope cpos) 1 (<- holding [x] (pyIter x)) (.ref D) Y.env) Y.env
    again (.compLoop (.ListComp elt [⟨tg,iter,ifs,0⟩,⟨tg2,iter2,ifs2,0⟩] scope cpos) 0 (.ref it) (.ref D) Y.env)):=by rfl
 rw[e];refine wpAny_bind (wpAny_standAt (wpAny_bind (thn h λr s1 h1=>?_)));cases r with
 |none=>exact Qb h1
 |some v=>
  refine wpAny_bind (thn h1 λ_ s2 h2=>?_);refine wpAny_bind (wpAny_mono h2 (λ_ s4 h4=>wpAny_bind (wpAny_mono h4 (λok s5 h5=>?_) λ_ _ f=>f.elim)) λ_ _ f=>f.elim);cases ok with
  |false=>exact Qb h5
  |true=>
   refine wpAny_bind (wpAny_mono h5 (λx s6 h6=>wpAny_bind (wpAny_standAt ?_)) λ_ _ f=>f.elim);rw[hs x];refine wpAny_bind (Qb (wpAny_bind (J6 (wpAny_mono h6 (λitv s7 h7=>?_) λ_ _ f=>f.elim))));refine wpAny_bind (wpAny_runOwn (h:=none) (Qcq h7 λr s8 h8=>?_));cases r with
   |error z=>exact h8.elim
   |ok fl=>exact Qb h8
def Qms(cap:List (Option Nat))(wi:TI)(g:TG)(tc:TT)(wi2:TI)(g2:TG)(tc2:TT)(te:TE):TE:=λσ H Q=>wi σ H λJ H1=>∀p,H1 p=none->Qjb J (bOf (QdE cap σ) g tc (QyT wi2 g2 tc2 p te)) (Q (.ref p)) (upd H1 p (.lst []))
theorem Qm8{X:Cx}{M:List Str}{cap:List (Option Nat)}{elt tg iter tg2 iter2:QU}{ifs ifs2:List QU}{scope:YC}{pos:Pos}{wi wi2:TI}{g g2:TG}{tc tc2:TT}{te:TE}(hc:X.calm=true)(ok:QcO X.N X.env.scope M scope cap=true)
  (hi:PI X tg iter wi)(hb:∀cl ex s3 H3 C,PG (blk X M scope cl ex s3 H3 C) tg g/\PTs (blk X M scope cl ex s3 H3 C) ifs tc/\PI (blk X M scope cl ex s3 H3 C) tg2 iter2 wi2/\PG (blk X M scope cl ex s3 H3 C) tg2 g2/\PTs (blk X M scope cl ex s3 H3 C) ifs2 tc2/\PE (blk X M scope cl ex s3 H3 C) elt te)
  (hs:∀x,foldedSetIterable iter X.env x=pure x:=by intro _;rfl)(hs2:∀env x,foldedSetIterable iter2 env x=pure x:=by intro _ _;rfl):PE X (.ListComp elt [⟨tg,iter,ifs,0⟩,⟨tg2,iter2,ifs2,0⟩] scope pos) (Qms cap wi g tc wi2 g2 tc2 te):=by
 intro pins s σ H Q I h;have c:=CapOk.of ok;rw[eval_ListComp];refine Yz (use:=none) rfl hs (Qfo (I.ok.cells c)) c.kind c.loc ?_
 refine thn (hi pins s σ H _ I h) λv s1 h1=>thn h1 λitv s2 h2=>?_
 obtain⟨it,fp,tn,J,H2,e,I2,T,st2,f2,hW⟩:=h2;subst e;refine Jy (Qau c.cell (by intro y hy;simp at hy) (λh₁ hns₁ hsb₁=>?_) c.kind);have I3:Inv X pins σ (upd H2 s2.heap.objs.size (.lst [])) { s2 with heap:=s2.heap.push { cls:=.type "list",data:=.seq ([]:List Value).toArray } }:=I2.lnew (t':=s2.toks) (ys:=[]) .nil (Qs _);have lt2:∀b∈fp,b<s2.heap.objs.size:=λb hb=>by obtain⟨o,e,_⟩:=T.obj _ _ st2 b hb;exact Qm e
 have f3:∀b∈fp,FpOk X pins (upd H2 s2.heap.objs.size (.lst [])) b:=λb hb=>(f2 b hb).upd (Qz (lt2 b hb))
 generalize hs3:({ s2 with heap:=s2.heap.push { cls:=.type "list",data:=.seq ([]:List Value).toArray } }:Shared)=s3 at I3;have e3:s3.heap=s2.heap.push { cls:=.type "list",data:=.seq ([]:List Value).toArray }:=by rw[<- hs3]
 have z3:s3.heap.objs.size=s2.heap.objs.size+1:=by rw[e3,Zf]
 have hk:∀b o,s3.heap.get? b=some o->h₁.get? b=some o:=λb o e=>hsb₁.extBut b o (by
  have:=Qm e;rw[e3] at this;exact Qz this) (Qe _ (e3 ▸ e))
 have hn₁:h₁.Ns s3.heap.objs.size λ_=>none:=by rw[e3];exact hns₁
 have B:=Qcm (t4:=s3.toks+([]:List (Str×Value)).length) (fp:=fp) I3 c f3 (λb hb=>by rw[z3];exact ZF (lt2 b hb)) hn₁ hk;have st4:tn 0 h₁:=T.keep _ _ _ st2 λb hb o e=>hk b o (by rw[e3];exact Qe _ e)
 have fp4:∀b∈fp,FpOk (blk X M scope (Qbz X.env scope.names []) fp s3 (upd H2 s2.heap.objs.size (.lst [])) s3.heap.objs.size) [] (upd H2 s2.heap.objs.size (.lst [])) b:=λb hb=>by
  refine⟨(f3 b hb).1,(B.ok.exf b hb).1,B.ok.exfs b hb,.inl hb,(B.ok.exf b hb).2,λp hp=>(nomatch hp)⟩
 obtain⟨hg,ht,hi2,hg2,ht2,he⟩:=hb (Qbz X.env scope.names []) fp s3 (upd H2 s2.heap.objs.size (.lst [])) s3.heap.objs.size;have loop:codeAny (model X.prog X.w) X.A (.compLoop (.ListComp elt [⟨tg,iter,ifs,0⟩,⟨tg2,iter2,ifs2,0⟩] scope pos) 0 (.ref it) (.ref s2.heap.objs.size) (compEnvC scope (Qbz X.env scope.names []) s3.heap.objs.size X.env))
   (compPost (model X.prog X.w) X.A X.xe none (EP X pins σ Q) (.ref s2.heap.objs.size) s3.heap.objs.size) { s3 with heap:=h₁,toks:=s3.toks+([]:List (Str×Value)).length }:=by
  refine Qch (Y:=blk X M scope (Qbz X.env scope.names []) fp s3 (upd H2 s2.heap.objs.size (.lst [])) s3.heap.objs.size) (gens:=[⟨tg,iter,ifs,0⟩,⟨tg2,iter2,ifs2,0⟩]) (d:=0) hc T st4 fp4
   (λQ E s h=>QfQ (hs2 _) Q E s h) (λx u r=>Qd5 rfl hg ht (λσ4=>QiE rfl hc hi2 hg2 ht2 he) x u r) B (hW _ (I2.hok.fresh (Qh _))) λs' H' I' q=>?_
  obtain⟨m,hn,_⟩:=I'.loc;exact⟨m,hn,λh' hs'=>⟨.ref s2.heap.objs.size,H',Qhv I3 f3 I' hs',rfl,q⟩⟩
 exact Qa8 loop (T.self _ 0 _ _ _ st4 loop)
end L2
namespace Rk
open L2 Rd
def pairD(ij:Int×Int):Qa:=.tuple [.int ij.1,.int ij.2]
theorem QlO(b:Int×Int):ZG (pairD b)=1:=by
 unfold pairD;simp[ZG,QF]
end Rk
namespace Rr
section
variable{prog:QC}{w:Q9}{A:Q5}{E:Value->Shared->Prop}{s:Shared}
end
end Rr
namespace L2
def Qww(ta:TA):TE:=λσ H Q=>ta σ H λvs H1=>∃j,vs=[.int j]/\∀r H2,Same H1 H2->H1 r=none->H2 r=some (.rng 0 j)->Q (.ref r) H2
section
variable{X:Cx}
theorem Qkx{a:QU}{ta:TA}{p pos:Pos}(hg:Gl X "range")(hm:X.mg "range" = none)(ha:PA X [a] ta)(hs:starEach [a] X.env=[(false,eval a X.env)]:=by rfl):PE X (.Call (.Name "range" p) [a] [] pos) (Qww ta):=by
 intro pins s σ H Q I h;refine Qcp (QcV I hg hm Qzy ?_);refine JK (thn (ha pos pins s σ H _ I h) λus s1 ⟨vs,H1,I1,r1,q1⟩=>?_) hs rfl;obtain⟨j,e,q⟩:=q1;subst e;obtain⟨u,rfl,ru⟩:=vals1 r1;obtain⟨t,rfl⟩:=ru;refine call_range_1 ?_
 have hf:H1 s1.heap.objs.size=none:=I1.hok.fresh (Qh _);refine⟨.ref s1.heap.objs.size,upd H1 s1.heap.objs.size (.rng 0 j),I1.laid (t':=s1.toks+1+1) (λb u e=>Qe _ e) (Qh _) ⟨_,_,_,Qw _ rfl⟩,rfl,q _ _ (JL hf) hf JQ⟩
theorem QlK{acc:Array Value}{n:Nat}(h:ItemsOf (λi v=>∃t,v=Qb1 ((0:Int)+i*1) t) acc n):Vals ((Qq n).map λi=>V.int (i:Nat)) acc.toList:=by
 obtain⟨hs,hi⟩:=h;have key:∀(m:Nat)(l:List Value)(o:Nat),l.length=m->(∀i v,l[i]? = some v->∃t,v=Qb1 ((0:Int)+((o+i:Nat):Int)*1) t)->Vals ((List.range' o m).map λi=>V.int (i:Nat)) l:=by
  intro m;induction m with
  |zero=>intro l o hl _;cases l with
   |nil=>exact .nil
   |cons a b=>cases hl
  |succ m ih=>
   intro l o hl hv;cases l with
   |nil=>cases hl
   |cons a b=>
    rw[List.range'_succ,Jc];refine .cons ?_ (ih b (o+1) (by simpa using hl) λi v e=>?_)
    ·obtain⟨t,rfl⟩:=hv 0 a rfl;exact⟨t,by simp⟩
    ·obtain⟨t,rfl⟩:=hv (i+1) v (by simpa using e);exact⟨t,by congr 3;omega⟩
 rw[List.range_eq_range'];refine key n acc.toList 0 (by simpa using hs) λi v e=>?_
 have:=hi i v (by simpa using e)
 simpa using this
end
end L2
namespace Rs
open PySem.W
def sp{α:Type}(n:Nat)(c:Nat->Nat->Bool):KasT α->(α->Prop)->Prop
 |.ret a,Q=>Q a
 |.ask i j f,Q=>i<n/\j<n/\sp n c (f (c i j)) Q
section
variable{n:Nat}{K:Nat->Int}
structure Good (n:Nat) (p:Array Nat):Prop where
 perm:p.toList.Perm (Qq n)
theorem Good.size{p:Array Nat}(g:Good n p):p.size=n:=by
 have:=g.perm.length_eq;rw[QV,Qd] at this;exact this
def at_(p:Array Nat)(i:Nat):Nat:=p.getD i 0
theorem QoF{p:Array Nat}{i:Nat}(h:i<p.size):p[i]? = some (at_ p i):=by
 unfold at_;rw[QgD,QbM h];rfl
theorem Good.lt{p:Array Nat}(g:Good n p)(h0:0<n)(i:Nat):at_ p i<n:=by
 by_cases h:i<p.size
 ·have e:=QoF h;have m:at_ p i∈p.toList:=by
   have:=YY e;exact ZU.mpr this
  exact Jp.mp (g.perm.mem_iff.mp m)
 ·unfold at_;rw[QgD,Z6 (by omega)];exact h0
theorem Good.inj{p:Array Nat}(g:Good n p){i j:Nat}(hi:i<n)(hj:j<n)(e:at_ p i=at_ p j):i=j:=by
 have nd:p.toList.Nodup:=g.perm.nodup_iff.mpr Qtf;have hs:=g.size;have hi':i<p.toList.length:=by rw[Qd];omega
 have hj':j<p.toList.length:=by rw[Qd];omega
 have ei:p.toList[i]=at_ p i:=by
  have:=QoF (p:=p) (i:=i) (by omega);rw[QbM (by omega)] at this;rw[Zb];exact Qt this
 have ej:p.toList[j]=at_ p j:=by
  have:=QoF (p:=p) (i:=j) (by omega);rw[QbM (by omega)] at this;rw[Zb];exact Qt this
 have pw:=Jo.mp nd;rcases Qaf i j with h | h | h
 ·exact absurd (ei.trans (e.trans ej.symm)) (pw i j hi' hj' h)
 ·exact h
 ·exact absurd (ej.trans (e.symm.trans ei.symm)) (pw j i hj' hi' h)
def kk(K:Nat->Int)(p:Array Nat)(i:Nat):Int:=K (at_ p i)
end
end Rs
namespace Rs
open PySem.W PySem.Calls
section
variable{prog:QC}{w:Q9}{A:Q5}{E:Value->Shared->Prop}{s:Shared}
def Kept(a:Addr)(h h':Heap):Prop:=∀b x,b≠a->h.get? b=some x->h'.get? b=some x
theorem QgJ{h:Heap}{a:Addr}(f:Obj->Obj):Kept a h (h.update a f):=λb x hb e=>(Heap.get?_update_ne _ _ _ _ hb).trans e
theorem Qh5{h:Heap}{a:Addr}(o:Obj):Kept a h (h.push o):=λb x _ e=>Qe _ e
theorem Kept.trans{a:Addr}{h h1 h2:Heap}(k:Kept a h h1)(k':Kept a h1 h2):Kept a h h2:=λb x hb e=>k' b x hb (k b x hb e)
theorem Qed{Q:Value->Shared->Prop}{l:Addr}{T:String}{o:Obj}{vs:List Value}{n:Nat}(hT:T = "list" ∨ T = "tuple")(ho:s.heap.get? l=some o)(hc:o.cls=.type T)(hd:o.data=.seq vs.toArray n)(h64:vs.length<64)
  (h:∀h':Heap,(∀b x,s.heap.get? b=some x->h'.get? b=some x)->∀(P:PySem.Fin->Shared->Prop)(E':Value->Shared->Prop),(∀s2,Q (.ref h'.objs.size) s2->P (.done (.ret .none)) s2) ->
   wpAny (model prog w) A.in1.in1 (YO.«list.sort» ⟨[.ref h'.objs.size],[]⟩) P E' { s with heap:=h'.push (seqObj "list" vs.toArray 0) }) :
  wpAny (model prog w) A (call (.builtin "sorted") [.ref l]) Q E s:=by
 refine QbL Qv9 Qs5 Qs7 (Qs9 _) ?_
 unfold YO.«sorted»;refine wpAny_bind (m:=checkCount "sorted" 1 1 _) (Qb ?_);refine wpAny_bind (Qzt (items:=vs.toArray) l hT ho hc hd (λh' kp=>?_) (by rw[Qr,QaJ];omega));refine wpAny_bind (Qgt ?_ (by rw[Yu,QaJ];omega));have hoL:(h'.push (seqObj "list" vs.toArray 0)).get? h'.objs.size=some (seqObj "list" vs.toArray 0):=Qw _ rfl;show wpAny _ _ _ _ _ { s with heap:=h'.push (seqObj "list" vs.toArray 0) };refine wpAny_bind (J6 (JF Ql7 ⟨_,hoL,rfl⟩ Qlc ?body (Ql8 _)));exact h h' kp _ _ λs2 hq=>⟨_,rfl,Qb ⟨_,rfl,hq⟩⟩
end
structure QyY (h:Heap) (v:Value) (ij:Int×Int):Prop where
 it:∃(a:Addr)(o:Obj)(n:Nat)(t u:Tok),v=.ref a/\h.get? a=some o/\o.cls=.type "tuple" /\ o.data=.seq #[.int ij.1 t,.int ij.2 u] n
inductive PairsV (h:Heap):List Value->List (Int×Int)->Prop
 |nil:PairsV h [] []
 |cons {v:Value} {vs:List Value} {ij:Int×Int} {L:List (Int×Int)}:QyY h v ij->PairsV h vs L->PairsV h (v::vs) (ij::L)
theorem PairsV.at_{h:Heap}:∀{vs:List Value}{L:List (Int×Int)},PairsV h vs L->∀i,i<vs.length->QyY h (vs.getD i Ze) (L.getD i (0,0))
 |_,_,.nil,i,hi=>by simp at hi
 |_,_,.cons q r,0,hi=>q
 |_,_,.cons q r,i+1,hi=>by
  have:=r.at_ i (by simpa using hi)
  simpa using this
def code(ij:Int×Int):Int:=64*ij.1+ij.2
section
variable{prog:QC}{w:Q9}{A:Q5}{E:Value->Shared->Prop}{s:Shared}
end
end Rs
namespace L2
open _root_.Rd _root_.Rk _root_.Rs
section
variable{X:Cx}
theorem Qhe:∀{ns:List Int}{vs:List Value},Vals (ns.map V.int) vs->IntsAre vs ns
 |[],_,.nil=>.nil
 |i::ns,_,.cons ⟨t,e⟩ r=>by subst e;exact .cons _ _ (Qhe r)
theorem Qhw:∀{ns:List Int}{vs:List Value},IntsAre vs ns->Vals (ns.map V.int) vs
 |_,_,.nil=>.nil
 |_,_,.cons n t r=>.cons ⟨t,rfl⟩ (Qhw r)
def Qst(K:PySem.W.Frag):List V->Hp->VK->Prop:=λxs H Q=>∃l ns,xs=[.ref l]/\SqT K H l ((ns:List Int).map V.int)/\ns.length<64 /\
 ∀t ms H2,Same H H2->H t=none->H2 t=some (.lst ((ms:List Int).map V.int))->ms.Perm ns->ms.Pairwise (·<=·)->Q (.ref t) H2
theorem QlS:CallR X (.builtin "sorted") (Qst X.K):=by
 intro pins s σ H xs us Q I r h;obtain⟨l,ns,rfl,hl,h64,q⟩:=h;obtain⟨u,rfl,ru⟩:=vals1 r;cases ru;obtain⟨its,rv,tp,hz⟩:=I.tuple hl;obtain⟨o,ho,hc,n,hd⟩:=tp;have li:=rv.length;rw[Qf] at li;refine Qed (.inr rfl) ho hc hd (by omega) λh' kp P E' hP=>?_
 have hn:(h'.push (seqObj "list" its.toArray 0)).get? h'.objs.size=some (seqObj "list" its.toArray 0):=Qw _ rfl;refine list_sort_tree (s:={ s with heap:=h'.push (seqObj "list" its.toArray 0) }) hn (Qhe rv) (by omega) λout ns' ia pm pw=>hP _ ?_
 have I1:Inv X pins σ H { s with heap:=h' }:=I.kept (t':=s.toks) kp;have hf:H h'.objs.size=none:=I1.hok.fresh (Qh _);obtain⟨e,he⟩:∃e,(sortedHeap (h'.push (seqObj "list" its.toArray 0)) h'.objs.size its out).get? h'.objs.size=some (seqObj "list" out e):=sortedHeap_at hn
 have rv':=Qhw ia;have lp:=pm.length_eq;have I2:Inv X pins σ (upd H h'.objs.size (.lst (ns'.map V.int))) { s with heap:=sortedHeap (h'.push (seqObj "list" its.toArray 0)) h'.objs.size its out }:=
  I1.laid (t':=s.toks) (λb x e'=>(sortedHeap_old (Qz (Qm e')) (QM (Qm e') (by rw[size_push'];exact Qo1 _))).trans (Qe _ e')) (Qh _) (show ObjOk X.prog X.w _ _ _ (.lst _) from⟨by rw[Qf];exact ZZ (Rk.QbQ (by omega)),out.toList,e,rv',by rw[he]⟩)
 exact⟨.ref h'.objs.size,_,I2,rfl,q _ ns' _ (JL hf) hf JQ pm pw⟩
end
end L2
namespace Re
open AutoSeq1 (wpAny_loadPart')
end Re
namespace L2
section
variable{X:Cx}
def QtQ:List V->Hp->VK->Prop:=λxs H Q=>∃r j,xs=[.ref r]/\H r=some (.rng 0 j) /\ -1000<=j/\j<=1000/\∀t H2,Same H H2->H t=none->H2 t=some (.lst ((Qq j.toNat).map λi=>V.int (i:Nat)))->Q (.ref t) H2
theorem QjR(hc:X.calm=true):CallR X (.type "list") QtQ:=by
 intro pins s σ H xs us Q I r h;obtain⟨a,j,rfl,ha,h1,h2,q⟩:=h;obtain⟨u,rfl,ru⟩:=vals1 r;cases(show u=QJ a from ru);obtain⟨t1,t2,t3,e⟩:=I.hok a _ ha;have hn:Zj 0 j 1=((j.toNat:Nat):Int):=by rw[Qgu];split<;>omega
 refine call_list_range (n:=j.toNat) (I.ok.hd hc) (show Qwk s.heap a 0 j 1 t1 t2 t3 from e) (small_one (by omega) (by omega) (by omega) (by omega)) hn (Q1 (show j.toNat<=1000 by omega) (by decide)) λh' tk acc c' kp hS hacc=>?_
 have hz:acc.size=j.toNat:=hacc.1;have rv:=QlK hacc;have hf:H s.heap.objs.size=none:=I.hok.fresh (Qh _);refine⟨.ref s.heap.objs.size,upd H s.heap.objs.size (.lst ((Qq j.toNat).map λi=>V.int (i:Nat))),I.laid (t':=tk) kp (Qh _) ⟨?_,acc.toList,c',rv,by rw[hS]⟩,rfl,q _ _ (JL hf) hf JQ⟩;rw[Qf,QV];exact ZZ (Rk.QbQ (by omega))
end
end L2
namespace Rk
open L2
theorem Qlx{L:List (Int×Int)}(h:L.Pairwise λa b=>Rs.code a<Rs.code b):L.Nodup:=QhO (λ{a b} q z=>by subst z;omega) h
theorem QjU{h w:Int}{L:List (Int×Int)}(g:Good h w L)(hw:w<=64):L.Pairwise λa b=>Rs.code a<Rs.code b:=by
 refine QeA (λ{a b} ha hb q=>?_) g.asc;have:=g.ins a ha;have:=g.ins b hb;unfold Rs.code;rcases q with z | z<;>omega
end Rk
namespace L2
section
variable{X:Cx}{pins:List (Addr×Obj)}{σ:St}{H:Hp}
theorem QcS{M:List Str}{scope:YC}{fp:List Addr}{σ':St}{H3:Hp}{s3 s':Shared}{D:Addr}{i:Nat}{y:Str}{py:Pos}{Mo:QzM}{A:Q5}{E:Value->Shared->Prop}{Q:Value->Shared->Prop}
  (I3:Inv X pins σ H3 s3)(f3:∀b∈fp,FpOk X pins H3 b)(J:Inv (blk X M scope (Qbz X.env scope.names []) fp s3 H3 s3.heap.objs.size) [] σ' H s')
  (hN:X.N.Nodup)(hi:X.N[i]? = some y)(hl:X.env.scope.names.lookup y=some .local)(hq:∀s2,Inv X pins (σ.set i (some (.ref D))) H s2->Q .none s2) :
  wpAny Mo A (assign (.Name y py) X.env (.ref D)) (λ_ s2=>∃m,s2.heap.Ns s3.heap.objs.size m/\∀h',Y2 s3.heap.objs.size s2.heap h'->Q .none { s2 with heap:=h' }) E s':=by
 have J0:Inv X pins σ H s':=Qhv I3 f3 J (Heap.SameBut.refl ..);obtain⟨m,hn,_⟩:=J.loc;have hC:H s3.heap.objs.size=none:=J.free;have lt:X.env.locals<s3.heap.objs.size:=I3.lt;refine Qzu (QhU J0 hN hi (Ju hl) (show RelV (.ref D) (.ref D) from rfl) (λs2 J2 ⟨a,sb,ha⟩=>?_) (.inr hl));have ea:a=X.env.locals∨X.env.cells.lookup y=some a:=ha;have na:s3.heap.objs.size≠a:=by
  rcases ea with z | z
  ·rw[z];exact Qax lt
  ·obtain⟨v,o,ho,_⟩:=I3.cell y a z;exact Qax (Qm ho)
 refine⟨m,hn.sameBut sb na,λh' hs=>hq _ ?_⟩;refine J2.turned (t':=s2.toks) (it:=s3.heap.objs.size) (λb o hb e=>hs.extBut b o hb e) hC (Qax lt) (.inr I3.sz) (λx c e z=>?_) λp hp z=>?_
 ·obtain⟨v,o,ho,_⟩:=I3.cell x c e;exact absurd (z ▸ Qm ho) (Qag _)
 ·have e:=(I3.pin p hp).1;exact absurd (z ▸ Qm e) (Qag _)
end
theorem Qkv{X:Cx}{M:List Str}{cap:List (Option Nat)}{elt tg iter:QU}{ifs:List QU}{scope:YC}{pos:Pos}{wi:TI}{g:TG}{tc:TT}{te:TE}{i:Nat}{y:Str}{py spos:Pos}(hN:X.N.Nodup)(hiy:X.N[i]? = some y)(hly:X.env.scope.names.lookup y=some .local)(hc:X.calm=true)(ok:QcO X.N X.env.scope M scope cap=true)
  (hi:PI X tg iter wi)(hb:∀cl ex s3 H3 C,PG (blk X M scope cl ex s3 H3 C) tg g/\PTs (blk X M scope cl ex s3 H3 C) ifs tc/\PE (blk X M scope cl ex s3 H3 C) elt te)
  (hs:∀x,foldedSetIterable iter X.env x=pure x:=by intro _;rfl)(hsw:swapsWith (.ListComp elt [⟨tg,iter,ifs,0⟩] scope pos) (some (.Name y py)) spos.line X.env=pure true:=by rfl):PS X (.Assign [.Name y py] (.ListComp elt [⟨tg,iter,ifs,0⟩] scope pos) spos) (Qtx (tComp cap wi g tc te) (Qir i)):=by
 intro pins s σ H D I h;have c:=CapOk.of ok;rw[Qs6 _ _ _ _ hsw];refine wpAny_bind (wpAny_standAt (wpAny_bind ?_));show wpAny _ X.A (do let _ <- comprehension (.ListComp elt [⟨tg,iter,ifs,0⟩] scope pos) scope X.env _ (newList []) false (eval iter X.env) (some (assign (.Name y py) X.env))) _ _ s;refine wpAny_bind (wpAny_mono (Yz (use:=some (assign (.Name y py) X.env)) (Q:=λ_ s'=>SP X pins D .next s') rfl hs (Qfo (I.ok.cells c)) c.kind c.loc ?_) (λ_ s' hq=>Qb (Qb hq)) λ_ _ e=>e);refine thn (hi pins s σ H _ I h) λv s1 h1=>thn h1 λitv s2 h2=>?_
 obtain⟨it,fp,tn,J,H2,e,I2,T,st2,f2,hW⟩:=h2;subst e;refine Jy (Qau c.cell (by intro y hy;simp at hy) (λh₁ hns₁ hsb₁=>?_) c.kind);have I3:Inv X pins σ (upd H2 s2.heap.objs.size (.lst [])) { s2 with heap:=s2.heap.push { cls:=.type "list",data:=.seq ([]:List Value).toArray } }:=I2.lnew (t':=s2.toks) (ys:=[]) .nil (Qs _);have lt2:∀b∈fp,b<s2.heap.objs.size:=λb hb=>by obtain⟨o,e,_⟩:=T.obj _ _ st2 b hb;exact Qm e
 have f3:∀b∈fp,FpOk X pins (upd H2 s2.heap.objs.size (.lst [])) b:=λb hb=>(f2 b hb).upd (Qz (lt2 b hb))
 generalize hs3:({ s2 with heap:=s2.heap.push { cls:=.type "list",data:=.seq ([]:List Value).toArray } }:Shared)=s3 at I3;have e3:s3.heap=s2.heap.push { cls:=.type "list",data:=.seq ([]:List Value).toArray }:=by rw[<- hs3]
 have z3:s3.heap.objs.size=s2.heap.objs.size+1:=by rw[e3,Zf]
 have hk:∀b o,s3.heap.get? b=some o->h₁.get? b=some o:=λb o e=>hsb₁.extBut b o (by
  have:=Qm e;rw[e3] at this;exact Qz this) (Qe _ (e3 ▸ e))
 have hn₁:h₁.Ns s3.heap.objs.size λ_=>none:=by rw[e3];exact hns₁
 have B:=Qcm (t4:=s3.toks+([]:List (Str×Value)).length) (fp:=fp) I3 c f3 (λb hb=>by rw[z3];exact ZF (lt2 b hb)) hn₁ hk;have st4:tn 0 h₁:=T.keep _ _ _ st2 λb hb o e=>hk b o (by rw[e3];exact Qe _ e)
 have fp4:∀b∈fp,FpOk (blk X M scope (Qbz X.env scope.names []) fp s3 (upd H2 s2.heap.objs.size (.lst [])) s3.heap.objs.size) [] (upd H2 s2.heap.objs.size (.lst [])) b:=λb hb=>by
  refine⟨(f3 b hb).1,(B.ok.exf b hb).1,B.ok.exfs b hb,.inl hb,(B.ok.exf b hb).2,λp hp=>(nomatch hp)⟩
 obtain⟨hg,ht,he⟩:=hb (Qbz X.env scope.names []) fp s3 (upd H2 s2.heap.objs.size (.lst [])) s3.heap.objs.size;have loop:codeAny (model X.prog X.w) X.A (.compLoop (.ListComp elt [⟨tg,iter,ifs,0⟩] scope pos) 0 (.ref it) (.ref s2.heap.objs.size) (compEnvC scope (Qbz X.env scope.names []) s3.heap.objs.size X.env))
   (compPost (model X.prog X.w) X.A X.xe (some (assign (.Name y py) X.env)) (λ_ s'=>SP X pins D .next s') (.ref s2.heap.objs.size) s3.heap.objs.size) { s3 with heap:=h₁,toks:=s3.toks+([]:List (Str×Value)).length }:=by
  refine Qch (Y:=blk X M scope (Qbz X.env scope.names []) fp s3 (upd H2 s2.heap.objs.size (.lst [])) s3.heap.objs.size) (gens:=[⟨tg,iter,ifs,0⟩]) (d:=0) hc T st4 fp4
   (λQ E s h=>Qj8 Q E s h) (λx u r=>Qd5 rfl hg ht (λσ4=>Qhu rfl he) x u r) B (hW _ (I2.hok.fresh (Qh _))) λs' H' I' q=>?_
  exact QcS (Q:=λ_ s'=>SP X pins D .next s') I3 f3 I' hN hiy hly λs2' J2=>⟨_,H',J2,q⟩
 exact Qa8 loop (T.self _ 0 _ _ _ st4 loop)
theorem Qh7{X:Cx}{M:List Str}{cap:List (Option Nat)}{elt tg iter tg2 iter2:QU}{ifs ifs2:List QU}{scope:YC}{pos:Pos}{wi wi2:TI}{g g2:TG}{tc tc2:TT}{te:TE}{i:Nat}{y:Str}{py spos:Pos}(hN:X.N.Nodup)(hiy:X.N[i]? = some y)(hly:X.env.scope.names.lookup y=some .local)(hc:X.calm=true)(ok:QcO X.N X.env.scope M scope cap=true)
  (hi:PI X tg iter wi)(hb:∀cl ex s3 H3 C,PG (blk X M scope cl ex s3 H3 C) tg g/\PTs (blk X M scope cl ex s3 H3 C) ifs tc/\PI (blk X M scope cl ex s3 H3 C) tg2 iter2 wi2/\PG (blk X M scope cl ex s3 H3 C) tg2 g2/\PTs (blk X M scope cl ex s3 H3 C) ifs2 tc2/\PE (blk X M scope cl ex s3 H3 C) elt te)
  (hs:∀x,foldedSetIterable iter X.env x=pure x:=by intro _;rfl)(hs2:∀env x,foldedSetIterable iter2 env x=pure x:=by intro _ _;rfl)(hsw:swapsWith (.ListComp elt [⟨tg,iter,ifs,0⟩,⟨tg2,iter2,ifs2,0⟩] scope pos) (some (.Name y py)) spos.line X.env=pure true:=by rfl):PS X (.Assign [.Name y py] (.ListComp elt [⟨tg,iter,ifs,0⟩,⟨tg2,iter2,ifs2,0⟩] scope pos) spos) (Qtx (Qms cap wi g tc wi2 g2 tc2 te) (Qir i)):=by
 intro pins s σ H D I h;have c:=CapOk.of ok;rw[Qs6 _ _ _ _ hsw];refine wpAny_bind (wpAny_standAt (wpAny_bind ?_));show wpAny _ X.A (do let _ <- comprehension (.ListComp elt [⟨tg,iter,ifs,0⟩,⟨tg2,iter2,ifs2,0⟩] scope pos) scope X.env _ (newList []) false (eval iter X.env) (some (assign (.Name y py) X.env))) _ _ s;refine wpAny_bind (wpAny_mono (Yz (use:=some (assign (.Name y py) X.env)) (Q:=λ_ s'=>SP X pins D .next s') rfl hs (Qfo (I.ok.cells c)) c.kind c.loc ?_) (λ_ s' hq=>Qb (Qb hq)) λ_ _ e=>e);refine thn (hi pins s σ H _ I h) λv s1 h1=>thn h1 λitv s2 h2=>?_
 obtain⟨it,fp,tn,J,H2,e,I2,T,st2,f2,hW⟩:=h2;subst e;refine Jy (Qau c.cell (by intro y hy;simp at hy) (λh₁ hns₁ hsb₁=>?_) c.kind);have I3:Inv X pins σ (upd H2 s2.heap.objs.size (.lst [])) { s2 with heap:=s2.heap.push { cls:=.type "list",data:=.seq ([]:List Value).toArray } }:=I2.lnew (t':=s2.toks) (ys:=[]) .nil (Qs _);have lt2:∀b∈fp,b<s2.heap.objs.size:=λb hb=>by obtain⟨o,e,_⟩:=T.obj _ _ st2 b hb;exact Qm e
 have f3:∀b∈fp,FpOk X pins (upd H2 s2.heap.objs.size (.lst [])) b:=λb hb=>(f2 b hb).upd (Qz (lt2 b hb))
 generalize hs3:({ s2 with heap:=s2.heap.push { cls:=.type "list",data:=.seq ([]:List Value).toArray } }:Shared)=s3 at I3;have e3:s3.heap=s2.heap.push { cls:=.type "list",data:=.seq ([]:List Value).toArray }:=by rw[<- hs3]
 have z3:s3.heap.objs.size=s2.heap.objs.size+1:=by rw[e3,Zf]
 have hk:∀b o,s3.heap.get? b=some o->h₁.get? b=some o:=λb o e=>hsb₁.extBut b o (by
  have:=Qm e;rw[e3] at this;exact Qz this) (Qe _ (e3 ▸ e))
 have hn₁:h₁.Ns s3.heap.objs.size λ_=>none:=by rw[e3];exact hns₁
 have B:=Qcm (t4:=s3.toks+([]:List (Str×Value)).length) (fp:=fp) I3 c f3 (λb hb=>by rw[z3];exact ZF (lt2 b hb)) hn₁ hk;have st4:tn 0 h₁:=T.keep _ _ _ st2 λb hb o e=>hk b o (by rw[e3];exact Qe _ e)
 have fp4:∀b∈fp,FpOk (blk X M scope (Qbz X.env scope.names []) fp s3 (upd H2 s2.heap.objs.size (.lst [])) s3.heap.objs.size) [] (upd H2 s2.heap.objs.size (.lst [])) b:=λb hb=>by
  refine⟨(f3 b hb).1,(B.ok.exf b hb).1,B.ok.exfs b hb,.inl hb,(B.ok.exf b hb).2,λp hp=>(nomatch hp)⟩
 obtain⟨hg,ht,hi2,hg2,ht2,he⟩:=hb (Qbz X.env scope.names []) fp s3 (upd H2 s2.heap.objs.size (.lst [])) s3.heap.objs.size;have loop:codeAny (model X.prog X.w) X.A (.compLoop (.ListComp elt [⟨tg,iter,ifs,0⟩,⟨tg2,iter2,ifs2,0⟩] scope pos) 0 (.ref it) (.ref s2.heap.objs.size) (compEnvC scope (Qbz X.env scope.names []) s3.heap.objs.size X.env))
   (compPost (model X.prog X.w) X.A X.xe (some (assign (.Name y py) X.env)) (λ_ s'=>SP X pins D .next s') (.ref s2.heap.objs.size) s3.heap.objs.size) { s3 with heap:=h₁,toks:=s3.toks+([]:List (Str×Value)).length }:=by
  refine Qch (Y:=blk X M scope (Qbz X.env scope.names []) fp s3 (upd H2 s2.heap.objs.size (.lst [])) s3.heap.objs.size) (gens:=[⟨tg,iter,ifs,0⟩,⟨tg2,iter2,ifs2,0⟩]) (d:=0) hc T st4 fp4
   (λQ E s h=>QfQ (hs2 _) Q E s h) (λx u r=>Qd5 rfl hg ht (λσ4=>QiE rfl hc hi2 hg2 ht2 he) x u r) B (hW _ (I2.hok.fresh (Qh _))) λs' H' I' q=>?_
  exact QcS (Q:=λ_ s'=>SP X pins D .next s') I3 f3 I' hN hiy hly λs2' J2=>⟨_,H',J2,q⟩
 exact Qa8 loop (T.self _ 0 _ _ _ st4 loop)
end L2
namespace Rk
open L2 _root_.Rd
theorem Good.nodup{h w:Int}{L:List (Int×Int)}(g:Good h w L)(hw:w<=64):L.Nodup:=Qlx (QjU g hw)
section
variable{X:Cx}
def QB3(X:Cx):R2:=λx y H Q=>∃dx dy,Dat H x dx/\Dat H y dy/\X.A.units+min dx.depth dy.depth<cLine/\Q (.bl (!QY dx dy)) H
theorem QxF:OpR X (compareOp .NotEq) (QB3 X):=by
 intro pins s σ H x y v u Q I rx ry h;obtain⟨dx,dy,qx,qy,hu,q⟩:=h;obtain⟨⟨as,ra⟩,ca⟩:=Yg I.hok dx x v qx rx;obtain⟨⟨bs,rb⟩,cb⟩:=Yg I.hok dy y u qy ry;exact SeqAt.compareNe_reads ra rb ca cb hu ⟨.bl _,H,I,rfl,q⟩
end
theorem Cs.re{p p':Addr}{H:Hp}{zs:List V}(e:H p'=some (.lst zs)):∀{ps:List V}{L:List (Int×Int)},Cs p H ps L->Cs p' H ps L
 |_,_,.nil=>.nil
 |_,_,.cons ⟨d,_,ev,h⟩ t=>.cons ⟨d,(λz=>by rw[z,e] at h;cases h),ev,h⟩ (Cs.re e t)
end Rk
namespace Rk
open L2
end Rk
namespace Rx
open PySem.Calls L2
section
variable{X:Cx}{E:XK}
end
section
variable{X:Cx}{tf:TE}{fe:QU}{pos:Pos}{e:QU}{es:List QU}{t:TA}{M:Addr->Sp->Prop}
end
end Rx
namespace Rk
open L2 _root_.Rd
structure GlbA (mg:Str->Option Value):Prop where
 isinstance:mg "isinstance" = none
 int:mg "int" = none
 bool:mg "bool" = none
 str:mg "str" = none
 tuple:mg "tuple" = none
 list:mg "list" = none
 all:mg "all" = none
 len:mg "len" = none
 zip:mg "zip" = none
 enumerate:mg "enumerate" = none
 range:mg "range" = none
 max:mg "max" = none
 min:mg "min" = none
 sorted:mg "sorted" = none
 sum:mg "sum" = none
 set:mg "set" = none
 any:mg "any" = none
 reversed:mg "reversed" = none
 divmod:mg "divmod" = none
def QAh(u:Nat)(neg:Bool):R2:=λx y H Q=>∃c ps ds d,y=.ref c/\H c=some (.tup ps)/\Dats H ps ds/\Dat H x d/\u+d.depth<cLine/\Q (.bl (if neg then !(ds.any λe=>QY e d) else ds.any λe=>QY e d)) H
theorem QxK{X:Cx}:OpR X (compareOp .In) (QAh X.A.in1.units false):=QxM
end Rk
namespace Rx
open PySem.Calls L2
section
variable{P:QC}{w:Q9}{K:PySem.W.Frag}{mg:Str->Option Value}{base:Heap}
end
end Rx
namespace Rk
open L2 _root_.Rd
section
variable{X:Cx}{is js:List Nat}
end
end Rk
namespace L2
theorem Qai{h:Heap}{a:Addr}{its:Array Value}(p:PlainL h a its):h.IsList a its:=by
 obtain⟨o,n,h1,h2,_,h3⟩:=p;exact⟨o,h1,h2,n,h3⟩
structure QiL (h:Heap) (z TI TO i1 i2 t1 t2:Addr) (f:Value) (k:Nat):Prop where
 zp:Qth h z TI TO f
 ti:IsPair h TI (.ref i1) (.ref i2)
 to:∃a b,IsPair h TO a b
 i1:h.IsListIter i1 t1 k
 i2:h.IsListIter i2 t2 k
section
variable{prog:QC}{w:Q9}{A:Q5}{E:Value->Shared->Prop}{s:Shared}
theorem Qmf{z TI TO i1 i2 t1 t2:Addr}{k:Nat}{xs ys:Array Value}{x y:Value}{Q:Option Value->Shared->Prop}(D:Qy2 z TI TO i1 i2 t1 t2)(Z:QiL s.heap z TI TO i1 i2 t1 t2 .none k)
  (hl1:s.heap.IsList t1 xs)(hl2:s.heap.IsList t2 ys)(hx:xs[k]? = some x)(hy:ys[k]? = some y)
  (hQ:∀h',QiL h' z TI TO i1 i2 t1 t2 (rawInt s.heap.objs.size) (k+1)->IsPair h' s.heap.objs.size x y->(∀c o,c≠z->c≠TO->c≠i1->c≠i2->s.heap.get? c=some o->h'.get? c=some o)->Q (some (.ref s.heap.objs.size)) { s with heap:=h' }) :
  wpAny (model prog w) A (pyNext (.ref z)) Q E s:=by
 obtain⟨hz,hTI,⟨a,b,hTO⟩,h1,h2⟩:=Z;exact wpAny_pyNext_zip_item D hz hTI hTO h1 h2 hl1 hl2 hx hy λh' a1 a2 a3 a4 a5 a6 a7=>hQ h' ⟨a1,a7 _ _ D.TIz D.TITO D.TIi1 D.TIi2 hTI,⟨x,y,a2⟩,a3,a4⟩ a5 a7
theorem Qo5{z TI TO i1 i2 t1 t2:Addr}{k:Nat}{xs ys:Array Value}{Q:Option Value->Shared->Prop}(hh:A.handled=none)(D:Qy2 z TI TO i1 i2 t1 t2)(Z:QiL s.heap z TI TO i1 i2 t1 t2 .none k)
  (hl1:s.heap.IsList t1 xs)(hl2:s.heap.IsList t2 ys)(hend:xs[k]? = none∨ys[k]? = none)
  (hQ:∀h',(∀c o,c≠z->c≠TO->c≠i1->c≠i2->s.heap.get? c=some o->h'.get? c=some o)->Q none { s with heap:=h' }):wpAny (model prog w) A (pyNext (.ref z)) Q E s:=by
 obtain⟨hz,hTI,⟨a,b,hTO⟩,h1,h2⟩:=Z;exact wpAny_pyNext_zip_end hh D hz hTI hTO h1 h2 hl1 hl2 hend hQ
theorem Qmg{t1 t2:Addr}{xs ys:Array Value}{Q:Value->Shared->Prop}(hl1:s.heap.IsList t1 xs)(hl2:s.heap.IsList t2 ys)
  (h:∀h',QiL h' (s.heap.objs.size+4) (s.heap.objs.size+2) (s.heap.objs.size+3) s.heap.objs.size (s.heap.objs.size+1) t1 t2 .none 0->(∀c o,s.heap.get? c=some o->h'.get? c=some o)->Q (.ref (s.heap.objs.size+4)) { s with heap:=h' }) :
  wpAny (model prog w) A (call (.type "zip") [.ref t1,.ref t2]) Q E s:=
 call_zip_2 hl1 hl2 λh' a1 a2 a3 a4 a5 a6 a7=>h h' ⟨a1,a2,⟨_,_,a3⟩,a4,a5⟩ a7
end
def QBT(t1 t2:Addr):It:=
 ⟨λi H=>∃xs ys x y,H t1=some (.lst xs)/\H t2=some (.lst ys)/\xs[i]? = some x/\ys[i]? = some y,
  λi H v H'=>∃p x y,H p=none/\(∀xs,H t1=some (.lst xs)->xs[i]? = some x)/\(∀ys,H t2=some (.lst ys)->ys[i]? = some y)/\v=.ref p/\H'=upd H p (.tup [x,y]),
  λi H=>∃xs ys,H t1=some (.lst xs)/\H t2=some (.lst ys)/\(xs.length<=i∨ys.length<=i)⟩
theorem Qml{P:QC}{w:Q9}{K:PySem.W.Frag}{elts:List QU}{x1}{tpos:Pos}{z TI TO i1 i2 t1 t2:Addr}(D:Qy2 z TI TO i1 i2 t1 t2) :
  Turn P w K (.Tuple elts x1 tpos) (QBT t1 t2) [z,TI,TO,i1,i2] z (λi h=>QiL h z TI TO i1 i2 t1 t2 .none i) where
 mem:=by simp
 obj:=λi h st b hb=>by
  obtain⟨a1,a2,⟨_,_,a3⟩,⟨o4,a4,_,d4⟩,⟨o5,a5,_,d5⟩⟩:=st;simp only[Qu,Jh,or_false] at hb;rcases hb with rfl | rfl | rfl | rfl | rfl
  ·exact⟨_,a1,λv q=>nomatch q⟩
  ·exact⟨_,a2,λv q=>nomatch q⟩
  ·exact⟨_,a3,λv q=>nomatch q⟩
  ·exact⟨_,a4,λv q=>by rw[d4] at q;cases q⟩
  ·exact⟨_,a5,λv q=>by rw[d5] at q;cases q⟩
 keep:=λi h h' st k=>by
  obtain⟨a1,a2,⟨a,b,a3⟩,a4,a5⟩:=st;exact⟨k z (by simp) _ a1,k TI (by simp) _ a2,⟨a,b,k TO (by simp) _ a3⟩,a4.at λo e=>k i1 (by simp) o e,a5.at λo e=>k i2 (by simp) o e⟩
 item:=by
  intro X hP hw hK hc i pins s σ H E I hf st hg;subst hP hw hK;obtain⟨xs,ys,x,y,h1,h2,hx,hy⟩:=hg;obtain⟨its1,r1,p1,_⟩:=I.list (SqL.of h1);obtain⟨its2,r2,p2,_⟩:=I.list (SqL.of h2);obtain⟨u1,hu1,ru1⟩:=r1.get hx;obtain⟨u2,hu2,ru2⟩:=r2.get hy;refine Qmf D st (Qai p1) (Qai p2) (by simpa using hu1) (by simpa using hu2) λh' st' tp kp=>?_
  have hlt:∀b∈[z,TI,TO,i1,i2],b≠s.heap.objs.size:=λb hb=>by
   obtain⟨a1,a2,⟨_,_,a3⟩,⟨o4,a4,_,d4⟩,⟨o5,a5,_,d5⟩⟩:=st;simp only[Qu,Jh,or_false] at hb;rcases hb with rfl | rfl | rfl | rfl | rfl
   ·exact Qz (Qm a1)
   ·exact Qz (Qm a2)
   ·exact Qz (Qm a3)
   ·exact Qz (Qm a4)
   ·exact Qz (Qm a5)
  have fr:H s.heap.objs.size=none:=I.hok.fresh (Qh _);refine⟨_,rfl,Ql6 st'.zp λh2' z2 s2=>?_⟩;have I1:Inv X pins σ (upd H s.heap.objs.size (.tup [x,y])) { s with heap:=h2',toks:=s.toks }:=by
   refine I.turnedNew (ch:=[z,TI,TO,i1,i2]) hf (λb u hb e=>?_) (Qh _) ⟨by show 2<=sizeLine;decide,[u1,u2],.cons ru1 (.cons ru2 .nil),?_⟩
   ·simp only[Qu,Jh,or_false,not_or] at hb;exact s2.extBut _ _ hb.1 (kp b u hb.1 hb.2.2.1 hb.2.2.2.1 hb.2.2.2.2 e)
   ·exact⟨_,s2.extBut _ _ (hlt z (by simp)).symm tp,rfl,0,rfl⟩
  refine⟨.ref s.heap.objs.size,_,I1,rfl,⟨_,x,y,fr,λxs' e=>?_,λys' e=>?_,rfl,rfl⟩,?_,λb hb=>?_⟩
  ·rw[h1] at e;cases e;exact hx
  ·rw[h2] at e;cases e;exact hy
  ·obtain⟨a1,a2,⟨a,b,a3⟩,a4,a5⟩:=st';exact⟨z2,s2.extBut _ _ D.TIz a2,⟨a,b,s2.extBut _ _ D.TOz a3⟩,a4.extBut s2.extBut D.i1z,a5.extBut s2.extBut D.i2z⟩
  ·rw[Zu (hlt b hb)];exact(hf b hb).1
 done:=by
  intro X hP hw hK hc i pins s σ H E I hf st hg;subst hP hw hK;obtain⟨xs,ys,h1,h2,he⟩:=hg;obtain⟨its1,r1,p1,_⟩:=I.list (SqL.of h1);obtain⟨its2,r2,p2,_⟩:=I.list (SqL.of h2);have l1:=r1.length;have l2:=r2.length;refine Qo5 (I.ok.hd hc) D st (Qai p1) (Qai p2) ?_ λh' kp=>⟨rfl,I.turnedAll (t':=s.toks) (ch:=[z,TI,TO,i1,i2]) hf λb u hb e=>?_⟩
  ·rcases he with q | q
   ·exact .inl (by simp;omega)
   ·exact .inr (by simp;omega)
  ·simp only[Qu,Jh,or_false,not_or] at hb;exact kp b u hb.1 hb.2.2.1 hb.2.2.2.1 hb.2.2.2.2 e
 self:=λ_ _ _ _ _ st h=>Qdx st.zp h
section
variable{X:Cx}
theorem QlV(n t1 t2:Nat)(h1:t1<n)(h2:t2<n):Qy2 (n+4) (n+2) (n+3) n (n+1) t1 t2 where
 TIz:=by show ¬(n+2=n+4);omega
 TOz:=by show ¬(n+3=n+4);omega
 i1z:=by show ¬(n=n+4);omega
 i2z:=by show ¬(n+1=n+4);omega
 TITO:=by show ¬(n+2=n+3);omega
 TIi1:=by show ¬(n+2=n);omega
 TIi2:=by show ¬(n+2=n+1);omega
 TOi1:=by show ¬(n+3=n);omega
 TOi2:=by show ¬(n+3=n+1);omega
 i12:=by show ¬(n=n+1);omega
 l1z:=by show ¬(t1=n+4);omega
 l1TO:=by show ¬(t1=n+3);omega
 l1i1:=by show ¬(t1=n);omega
 l1i2:=by show ¬(t1=n+1);omega
 l2z:=by show ¬(t2=n+4);omega
 l2TO:=by show ¬(t2=n+3);omega
 l2i1:=by show ¬(t2=n);omega
 l2i2:=by show ¬(t2=n+1);omega
def QAP(ta:TA):TI:=λσ H R=>ta σ H λvs H1=>∃t1 t2 xs ys,vs=[.ref t1,.ref t2]/\H1 t1=some (.lst xs)/\H1 t2=some (.lst ys)/\R (QBT t1 t2) H1
theorem Qoz:bootBuiltins "zip" = some (.type "zip"):=by decide +kernel
theorem Qt8{a b:QU}{elts:List QU}{x1}{tpos:Pos}{ta:TA}{p pos:Pos}(hg:Gl X "zip")(hm:X.mg "zip" = none)(ha:PA X [a,b] ta)(hs:starEach [a,b] X.env=[(false,eval a X.env),(false,eval b X.env)]:=by rfl)(hs2:starEach [b] X.env=[(false,eval b X.env)]:=by rfl) :
  PI X (.Tuple elts x1 tpos) (.Call (.Name "zip" p) [a,b] [] pos) (QAP ta):=by
 intro pins s σ H R I h;refine Call_ (QcV I hg hm Qoz (JK (thn (ha pos pins s σ H _ I h) λus s1 ⟨vs,H1,I1,r1,q1⟩=>?_) (by rw[hs,hs2]) (by rw[hs2];rfl)));obtain⟨t1,t2,xs,ys,e,h1,h2,q⟩:=q1;subst e;obtain⟨u,v,rfl,ru,rv⟩:=vals2 r1;cases(show u=QJ t1 from ru);cases(show v=QJ t2 from rv);obtain⟨its1,w1,p1,_⟩:=I1.list (SqL.of h1);obtain⟨its2,w2,p2,_⟩:=I1.list (SqL.of h2);have n1:t1<s1.heap.objs.size:=I1.hok.lt h1;have n2:t2<s1.heap.objs.size:=I1.hok.lt h2;refine Qmg (Qai p1) (Qai p2) λh' st kp=>?_
 refine Qdx (s:={ s1 with heap:=h' }) st.zp ?_
 have D:=QlV s1.heap.objs.size t1 t2 n1 n2;refine⟨s1.heap.objs.size+4,_,_,_,H1,rfl,I1.kept (t':=s1.toks) kp,Qml D,st,λb hb=>?_,q⟩;have hb':s1.heap.objs.size<=b:=by
  simp only[Qu,Jh,or_false] at hb;rcases hb with rfl | rfl | rfl | rfl | rfl<;>omega
 exact I1.fpOk hb' (I1.hok.fresh hb')
end
def QwV(K:PySem.W.Frag):List V->Hp->VK->Prop:=λxs H Q=>∃p ys,xs=[.ref p]/\(SqL K H p ys∨SqT K H p ys)/\Q (.int ys.length) H
theorem bt_set:bootBuiltins "set" = some (.type "set"):=by decide +kernel
theorem Qcl:bootBuiltins "sorted" = some (.builtin "sorted"):=by decide +kernel
def CMulB(i j:Int):Prop:=∃k:Nat,k<=1000000/\i.natAbs<2^k/\j.natAbs<2^k
theorem QoE{i:Int}{k:Nat}(h:i.natAbs<2^k):Zs i<=k:=by
 unfold Zs;split
 ·exact Qs _
 ·rename_i z
  have hz:i.natAbs≠0:=by
   intro q;apply z
   have:i=0:=by omega
   subst this;rfl
  have:=(Nat.log2_lt hz).mpr h;omega
theorem CMulB.ok{i j:Int}(h:CMulB i j):IntMulOk i j:=by
 obtain⟨k,hk,h1,h2⟩:=h;have a:=QoE h1;have b:=QoE h2;unfold IntMulOk;have c:QgC (Zs i+Zs j:Nat)=false:=by
  unfold QgC;rw[decide_eq_false];have:bitsLine=134217728:=by decide +kernel
  rw[this];omega
 intro z;rw[JH] at z;have z2:=z.2;have e:((Zs i+Zs j:Nat):Int)=(Zs i:Int)+(Zs j:Int):=by omega
 rw[e] at c;rw[c] at z2;cases z2
section
variable{X:Cx}
theorem QuE:OpR X (binaryOp .Mult) (rI CMulB λi j=>.int (i*j)):=opI λ_ _ _ _ _ _ _ hc q=>mul_int q hc.ok
theorem QrJ:QBR X (Qzh X.K):=by
 intro pins s σ H o i ov iv Q I ro ri h;obtain⟨p,xs,k,z,rfl,rfl,hq,he,q⟩:=h;cases ro;obtain⟨t,rfl⟩:=ri;obtain⟨its,r,pl,hz⟩:=I.list hq;obtain⟨j,h1,h2,h3,h4,h5⟩:=QjW he;obtain⟨w,ew,rw'⟩:=r.get h2;have hl:=r.length;have hn:=Qge;have fin:EP X pins σ Q w s:=⟨z,H,I,rw',q⟩;by_cases h0:0<=k
 ·have hj:k.toNat=j:=by
   rw[Qla h0 h5] at h1;exact Qt h1
  exact wpAny_getItem_list pl.isList h0 (by omega) (by rw[hj];simpa using ew) fin
 ·have hj:(k+(its.toArray.size:Int)).toNat=j:=by
   rw[QiM (by omega) h4] at h1;rw[Qr,<- hl];exact Qt h1
  exact Qr9 pl.isList (by omega) (by rw[Qr]<;>omega) (by omega) (by rw[hj];simpa using ew) fin
end
end L2
namespace Rk
open L2 _root_.Rd
def QBi(u:Nat):R2:=λx y H Q=>∃dx dy,Dat H x dx/\Dat H y dy/\u+min dx.depth dy.depth<cLine/\Q (.bl (!QY dx dy)) H
theorem QxE{X:Cx}:OpR X (compareOp .NotEq) (QBi X.A.units):=QxF
def QBq(u:Nat):R2:=λx y H Q=>∃dx dy,Dat H x dx/\Dat H y dy/\u+min dx.depth dy.depth<cLine/\Q (.bl (QY dx dy)) H
theorem QxO{X:Cx}:OpR X (compareOp .Eq) (QBq X.A.units):=QxP
theorem Qnk{X:Cx}:OpR X (compareOp .NotIn) (QAh X.A.in1.units true):=Qnl
end Rk
namespace Rx
open PySem.Calls L2
end Rx
namespace Rk
open L2 _root_.Rd
theorem Qvf{n k:Nat}(h:k<n):ixN n (k:Nat)=some k:=by
 unfold ixN;rw[if_pos (by omega),if_pos (by omega)];simp
end Rk
namespace HT
section
open PySem.SeqAt
open PySem.AutoSeq1 (wpAny_loadPart')
open PySem.MeetsSeq PySem.MeetsSeq2 PySem.MeetsSeq3
end
section
variable{prog:QC}{w:Q9}{A:Q5}{E:Value->Shared->Prop}{s:Shared}
end
end HT
namespace L2
def QwR(K:PySem.W.Frag):V->Option Int->Option Int->Hp->VK->Prop:=λx lo hi H Q=>∃a xs,x=.ref a/\SqL K H a xs/\∀p H',Same H H'->H p=none->H' p=some (.lst (Qk0 xs lo hi))->Q (.ref p) H'
theorem Qpe{X:Cx}:SlR X (QwR X.K):=by
 intro pins s σ H x v vl vu lo hi sl Q I rx hs pl pu h;obtain⟨a,xs,e,hx,q⟩:=h;exact QtC pins s σ H x v vl vu lo hi sl Q I rx hs pl pu ⟨a,xs,e,hx,λp hp=>q p _ (JL hp) hp JQ⟩
theorem cut_last(xs:List V):(Qk0 xs (some (-1)) none).length<=1:=by
 unfold Qk0;rw[JG,YA];have h2:xs.length - 1<=HT.sIx xs.length 0 (some (-1)):=by
  show xs.length - 1<=(if(-1:Int)<0 then((-1:Int)+(xs.length:Int)).toNat else min (-1:Int).toNat xs.length);rw[if_pos (by decide)];omega
 omega
end L2
namespace Rk
open L2 _root_.Rd
end Rk
namespace L2
section
variable{X:Cx}
def QmL(K:PySem.W.Frag):List V->Hp->VK->Prop:=λxs H Q=>∃p ys,xs=[.ref p]/\((SqL K H p ys/\∀l H',Same H H'->H l=none->H' l=some (.tup ys)->Q (.ref l) H')∨(SqT K H p ys/\Q (.ref p) H))
theorem QaH:CallR X (.type "tuple") (QmL X.K):=by
 intro pins s σ H xs us Q I r h;obtain⟨p,ys,e,h⟩:=h;refine Qhr pins s σ H xs us Q I r ⟨p,ys,e,?_⟩;rcases h with⟨h1,h2⟩ | h
 ·exact .inl ⟨h1,λl hl=>h2 l _ (JL hl) hl JQ⟩
 ·exact .inr h
def QmO(K:PySem.W.Frag):List V->Hp->VK->Prop:=λxs H Q=>∃p ys,xs=[.ref p]/\(SqL K H p ys∨SqT K H p ys)/\∀l H',Same H H'->H l=none->H' l=some (.lst ys)->Q (.ref l) H'
theorem Qhs:CallR X (.type "list") (QmO X.K):=by
 intro pins s σ H xs us Q I r h;obtain⟨p,ys,e,h1,h2⟩:=h;exact QiD pins s σ H xs us Q I r ⟨p,ys,e,h1,λl hl=>h2 l _ (JL hl) hl JQ⟩
end
end L2
namespace Rk
open L2 _root_.Rd
end Rk
namespace L2
section
variable{X:Cx}
end
section
variable{X:Cx}
end
end L2
namespace Rk
open L2 _root_.Rd
end Rk
namespace Rx
open PySem.Calls L2
section
variable{X:Cx}{e:QU}{st:Qad}{pos:Pos}{te:TX}{t u:TSX}{tc:TT}{c:QU}{a b:List Qad}
end
section
variable{X:Cx}{R:Addr}{i:Nat}{n r:Str}{body:List Qad}{hx:QU}{tb:TSX}{th:TE}{np hp hpos pos:Pos}
end
end Rx
namespace L2
section
variable{X:Cx}
end
end L2
namespace Rk
open L2 _root_.Rd
end Rk
namespace Dl
open L2 _root_.Rd Rk
def dkV(kvs:List (Int×Int)):List (Key×V):=kvs.map λp=>(Qb3 p.1,V.int p.2)
def dkD(kvs:List (Int×Int)):List (Qa×Qa):=kvs.map λp=>(Qi p.1,Qi p.2)
mutual
inductive DA (A:Addr->Prop) (H:Hp):V->Qa->Prop
 |non:DA A H .non .none
 |bl (b:Bool):DA A H (.bl b) (.bool b)
 |int (i:Int):DA A H (.int i) (.int i)
 |str (x:Str):Qhz (.str x)=true->DA A H (.str x) (.str x)
 |tup {a:Addr} {xs:List V} {ds:List Qa}:¬A a->H a=some (.tup xs)->DAs A H xs ds->DA A H (.ref a) (.tuple ds)
 |lst {a:Addr} {xs:List V} {ds:List Qa}:¬A a->H a=some (.lst xs)->DAs A H xs ds->DA A H (.ref a) (.list ds)
 |dct {a:Addr} {kvs:List (Int×Int)} {ds:List (Qa×Qa)}:¬A a->H a=some (.dK (dkV kvs))->ds=dkD kvs->DA A H (.ref a) (.dict ds)
inductive DAs (A:Addr->Prop) (H:Hp):List V->List Qa->Prop
 |nil:DAs A H [] []
 |cons {x:V} {xs:List V} {d:Qa} {ds:List Qa}:DA A H x d->DAs A H xs ds->DAs A H (x::xs) (d::ds)
end
mutual
theorem QyC{A A':Addr->Prop}{H H':Hp}(k:∀a o,¬A a->H a=some o->H' a=some o)(m:∀a,A' a->A a∨H a=none):∀(d:Qa)(x:V),DA A H x d->DA A' H' x d
 |.none,_,.non=>.non
 |.bool _,_,.bl _=>.bl _
 |.int _,_,.int _=>.int _
 |.str _,_,.str _ c=>.str _ c
 |.tuple ds,_,.tup (xs:=xs) n e q=>.tup (λz=>(m _ z).elim n λz=>by rw[z] at e;cases e) (k _ _ n e) (QkZ k m ds xs q)
 |.list ds,_,.lst (xs:=xs) n e q=>.lst (λz=>(m _ z).elim n λz=>by rw[z] at e;cases e) (k _ _ n e) (QkZ k m ds xs q)
 |.dict _,_,.dct n e q=>.dct (λz=>(m _ z).elim n λz=>by rw[z] at e;cases e) (k _ _ n e) q
theorem QkZ{A A':Addr->Prop}{H H':Hp}(k:∀a o,¬A a->H a=some o->H' a=some o)(m:∀a,A' a->A a∨H a=none):∀(ds:List Qa)(xs:List V),DAs A H xs ds->DAs A' H' xs ds
 |[],_,.nil=>.nil
 |d::ds,_,.cons (x:=x) (xs:=xs) q qs=>.cons (QyC k m d x q) (QkZ k m ds xs qs)
end
theorem DA.mv{A A':Addr->Prop}{H H':Hp}{x:V}{d:Qa}(q:DA A H x d)(k:∀a o,¬A a->H a=some o->H' a=some o)(m:∀a,A' a->A a∨H a=none):DA A' H' x d:=QyC k m d x q
theorem DAs.mv{A A':Addr->Prop}{H H':Hp}{x:List V}{d:List Qa}(q:DAs A H x d)(k:∀a o,¬A a->H a=some o->H' a=some o)(m:∀a,A' a->A a∨H a=none):DAs A' H' x d:=QkZ k m d x q
theorem DA.same{A:Addr->Prop}{H H':Hp}{x:V}{d:Qa}(q:DA A H x d)(s:Same H H'):DA A H' x d:=q.mv (λa o _ e=>s a o e) λa z=>.inl z
theorem DAs.same{A:Addr->Prop}{H H':Hp}{x:List V}{d:List Qa}(q:DAs A H x d)(s:Same H H'):DAs A H' x d:=q.mv (λa o _ e=>s a o e) λa z=>.inl z
theorem DAs.length{A:Addr->Prop}{H:Hp}:∀{xs:List V}{ds:List Qa},DAs A H xs ds->xs.length=ds.length
 |_,_,.nil=>rfl
 |_,_,.cons _ q=>by rw[Qx,Qx,q.length]
theorem DAs.get{A:Addr->Prop}{H:Hp}:∀{xs:List V}{ds:List Qa},DAs A H xs ds->∀(i:Nat)(d:Qa),ds[i]? = some d->∃x,xs[i]? = some x/\DA A H x d
 |_,_,.nil,i,x,e=>by simp at e
 |_,_,.cons q qs,0,x,e=>by simp at e;subst e;exact⟨_,rfl,q⟩
 |_,_,.cons q qs,i+1,x,e=>qs.get i x (by simpa using e)
theorem DAs.getV{A:Addr->Prop}{H:Hp}:∀{xs:List V}{ds:List Qa},DAs A H xs ds->∀(i:Nat)(x:V),xs[i]? = some x->∃d,ds[i]? = some d/\DA A H x d
 |_,_,.nil,i,x,e=>by simp at e
 |_,_,.cons q qs,0,x,e=>by simp at e;subst e;exact⟨_,rfl,q⟩
 |_,_,.cons q qs,i+1,x,e=>qs.getV i x (by simpa using e)
theorem DAs.app{A:Addr->Prop}{H:Hp}:∀{xs ys:List V}{ds es:List Qa},DAs A H xs ds->DAs A H ys es->DAs A H (xs++ys) (ds++es)
 |_,_,_,_,.nil,q=>q
 |_,_,_,_,.cons a b,q=>.cons a (b.app q)
theorem DAs.take{A:Addr->Prop}{H:Hp}:∀{xs:List V}{ds:List Qa},DAs A H xs ds->∀n:Nat,DAs A H (xs.take n) (ds.take n)
 |_,_,.nil,n=>by rw[Qy6,Qy6];exact .nil
 |_,_,.cons a b,0=>.nil
 |_,_,.cons a b,n+1=>.cons a (b.take n)
theorem DAs.drop{A:Addr->Prop}{H:Hp}:∀{xs:List V}{ds:List Qa},DAs A H xs ds->∀n:Nat,DAs A H (xs.drop n) (ds.drop n)
 |_,_,.nil,n=>by rw[Qy7,Qy7];exact .nil
 |_,_,.cons a b,0=>.cons a b
 |_,_,.cons a b,n+1=>b.drop n
theorem DAs.set{A:Addr->Prop}{H:Hp}{x:V}{d:Qa}(q:DA A H x d):∀{xs:List V}{ds:List Qa},DAs A H xs ds->∀n:Nat,DAs A H (xs.set n x) (ds.set n d)
 |_,_,.nil,n=>.nil
 |_,_,.cons a b,0=>.cons q b
 |_,_,.cons a b,n+1=>.cons a (b.set q n)
mutual
def nd:Qa->Bool
 |.dict _=>false
 |.tuple ds=>nds ds
 |.list ds=>nds ds
 |_=>true
def nds:List Qa->Bool
 |[]=>true
 |d::ds=>nd d&&nds ds
end
mutual
theorem Qix{A:Addr->Prop}{H:Hp}:∀(d:Qa)(x:V),nd d=true->DA A H x d->Dat H x d
 |.none,_,_,.non=>.non
 |.bool _,_,_,.bl _=>.bl _
 |.int _,_,_,.int _=>.int _
 |.str _,_,_,.str _ c=>.str _ c
 |.tuple ds,_,n,.tup (xs:=xs) _ e q=>.tup e (QbR ds xs n q)
 |.list ds,_,n,.lst (xs:=xs) _ e q=>.lst e (QbR ds xs n q)
theorem QbR{A:Addr->Prop}{H:Hp}:∀(ds:List Qa)(xs:List V),nds ds=true->DAs A H xs ds->Dats H xs ds
 |[],_,_,.nil=>.nil
 |d::ds,_,n,.cons (x:=x) (xs:=xs) q qs=>by
  have n':=Qp.mp (show(nd d&&nds ds)=true from n);exact .cons (Qix d x n'.1 q) (QbR ds xs n'.2 qs)
end
theorem Qc2{ds:List Qa}:nds ds=true↔∀d∈ds,nd d=true:=by
 induction ds with
 |nil=>exact⟨(λ_ _ h=>nomatch h),λ_=>rfl⟩
 |cons d ds ih=>
  rw[show nds (d::ds)=(nd d&&nds ds) from rfl,Qp,ih];constructor
  ·rintro⟨a,b⟩ e he;rcases Qu.mp he with z | z
   ·rw[z];exact a
   ·exact b e z
  ·intro h;exact⟨h d (by simp),λe he=>h e (by simp[he])⟩
def DP(A P:Addr->Prop)(H:Hp)(v:V)(d:Qa):Prop:=DA A H v d∨∃l xs ds,v=.ref l/\d=.list ds/\¬P l/\H l=some (.lst xs)/\DAs A H xs ds
theorem DP.dat{A P:Addr->Prop}{H:Hp}{v:V}{d:Qa}(h:DP A P H v d)(n:nd d=true):Dat H v d:=by
 rcases h with h | ⟨l,xs,ds,rfl,rfl,_,e,q⟩
 ·exact Qix d v n h
 ·exact .lst e (QbR ds xs n q)
theorem DP.list{A P:Addr->Prop}{H:Hp}{v:V}{ds:List Qa}(h:DP A P H v (.list ds)):∃l xs,v=.ref l/\H l=some (.lst xs)/\DAs A H xs ds:=by
 rcases h with h | ⟨l,xs,ds',rfl,e,_,h2,q⟩
 ·cases h with | lst n e q=>exact⟨_,_,rfl,e,q⟩
 ·cases e;exact⟨l,xs,rfl,h2,q⟩
theorem DP.tuple{A P:Addr->Prop}{H:Hp}{v:V}{ds:List Qa}(h:DP A P H v (.tuple ds)):∃l xs,v=.ref l/\H l=some (.tup xs)/\DAs A H xs ds:=by
 rcases h with h | ⟨l,xs,ds',rfl,e,_⟩
 ·cases h with | tup n e q=>exact⟨_,_,rfl,e,q⟩
 ·cases e
theorem DP.int{A P:Addr->Prop}{H:Hp}{v:V}{i:Int}(h:DP A P H v (.int i)):v=.int i:=by
 rcases h with h | ⟨l,xs,ds',rfl,e,_⟩
 ·cases h;rfl
 ·cases e
theorem DP.bool{A P:Addr->Prop}{H:Hp}{v:V}{i:Bool}(h:DP A P H v (.bool i)):v=.bl i:=by
 rcases h with h | ⟨l,xs,ds',rfl,e,_⟩
 ·cases h;rfl
 ·cases e
theorem DP.none{A P:Addr->Prop}{H:Hp}{v:V}(h:DP A P H v .none):v=.non:=by
 rcases h with h | ⟨l,xs,ds',rfl,e,_⟩
 ·cases h;rfl
 ·cases e
theorem DP.str{A P:Addr->Prop}{H:Hp}{v:V}{x:Str}(h:DP A P H v (.str x)):v=.str x/\Qhz (.str x)=true:=by
 rcases h with h | ⟨l,xs,ds',rfl,e,_⟩
 ·cases h with | str _ c=>exact⟨rfl,c⟩
 ·cases e
inductive Sl where
 |no | pot | scr
 |v (d:Qa)
 |own (ds:List Qa)
 |pk (ds:List Qa)
abbrev Sts:=List Sl
structure Fm where
 H0:Hp
 A0:Addr->Prop
 pt:Addr->Prop
def QBS(σ:L2.St)(δ:Sts)(i:Nat)(a:Addr):Prop:=σ[i]? = some (some (.ref a))/\(δ[i]? = some .pot∨∃ds,δ[i]? = some (.own ds))
def Av(F:Fm)(σ:L2.St)(δ:Sts)(a:Addr):Prop:=F.A0 a∨∃i,QBS σ δ i a
def Yh(σ:L2.St)(δ:Sts)(a:Addr):Prop:=∃i:Nat,σ[i]? = some (some (.ref a))/\δ[i]? = some .pot
def QBP(K:PySem.W.Frag)(F:Fm)(H:Hp)(A:Addr->Prop)(o:Option V):Sl->Prop
 |.no=>True
 |.v d=>∃v,o=some v/\DA A H v d
 |.own ds=>∃l xs,o=some (.ref l)/\H l=some (.lst xs)/\DAs A H xs ds/\F.H0 l=none
 |.pk ds=>∃l xs,o=some (.ref l)/\H l=some (.lst xs)/\DAs A H xs ds/\∃ys,F.H0 l=some (.lst ys)/\¬F.pt l
 |.pot=>∃p n,o=some (.ref p)/\H p=some (.lst [.int n])/\(F.pt p∨F.H0 p=none)
 |.scr=>∃a ns,o=some (.ref a)/\SqL K F.H0 a ((ns:List Int).map V.int)/\¬F.pt a/\ns.length<=63
structure Rel (K:PySem.W.Frag) (F:Fm) (σ:L2.St) (H:Hp) (δ:Sts):Prop where
 len:σ.length=δ.length
 dom:∀a,F.A0 a->∃xs,H a=some (.lst xs)
 dom0:∀a,F.A0 a->∃xs,F.H0 a=some (.lst xs)
 pt0:∀p,F.pt p->F.A0 p/\∃n,H p=some (.lst [.int n])
 kx:∀b o,¬F.pt b->F.H0 b=some o->H b=some o
 sl:∀(i:Nat) o x,σ[i]? = some o->δ[i]? = some x->QBP K F H (Av F σ δ) o x
 inj:∀(i j:Nat) a ds,δ[i]? = some (.own ds)->σ[i]? = some (some (.ref a))->QBS σ δ j a->i=j
def Kp(σ:L2.St)(δ:Sts)(H H':Hp):Prop:=(∀b o,¬Yh σ δ b->H b=some o->H' b=some o)/\∀b,Yh σ δ b->∃n,H' b=some (.lst [.int n])
def Stp(F:Fm)(σ:L2.St)(H:Hp)(δ:Sts)(σ':L2.St)(H':Hp)(δ':Sts):Prop:=(∀b o,¬Av F σ δ b->H b=some o->H' b=some o)/\∀b,Av F σ' δ' b->Av F σ δ b∨H b=none
def Ke(F:Fm)(H':Hp):Prop:=(∀b o,¬F.pt b->F.H0 b=some o->H' b=some o)/\∀p,F.pt p->∃n,H' p=some (.lst [.int n])
theorem Y7{F:Fm}{σ:L2.St}{δ:Sts}{a:Addr}(h:Yh σ δ a):Av F σ δ a:=let ⟨i,h1,h2⟩:=h;.inr ⟨i,h1,.inl h2⟩
theorem Rel.ke{K:PySem.W.Frag}{F:Fm}{σ:L2.St}{H:Hp}{δ:Sts}(r:Rel K F σ H δ):Ke F H:=⟨r.kx,λp hp=>(r.pt0 p hp).2⟩
theorem Rel.isl{K:PySem.W.Frag}{F:Fm}{σ:L2.St}{H:Hp}{δ:Sts}(r:Rel K F σ H δ){a:Addr}(h:Av F σ δ a):∃xs,H a=some (.lst xs):=by
 rcases h with h | ⟨i,h1,h2⟩
 ·exact r.dom a h
 ·rcases h2 with h2 | ⟨ds,h2⟩
  ·obtain⟨p,n,e,h,_⟩:=r.sl i _ _ h1 h2;cases e;exact⟨_,h⟩
  ·obtain⟨l,xs,e,h,_⟩:=r.sl i _ _ h1 h2;cases e;exact⟨_,h⟩
theorem Kp.refl{K:PySem.W.Frag}{F:Fm}{σ:L2.St}{H:Hp}{δ:Sts}(r:Rel K F σ H δ):Kp σ δ H H:=⟨λ_ _ _ e=>e,λb ⟨i,h1,h2⟩=>by
 obtain⟨p,n,e,h,_⟩:=r.sl i _ _ h1 h2;cases e;exact⟨n,h⟩⟩
theorem Kp.trans{σ:L2.St}{δ:Sts}{H H1 H2:Hp}(a:Kp σ δ H H1)(b:Kp σ δ H1 H2):Kp σ δ H H2:=⟨λc o n e=>b.1 c o n (a.1 c o n e),b.2⟩
theorem Kp.same{K:PySem.W.Frag}{F:Fm}{σ:L2.St}{H H':Hp}{δ:Sts}(r:Rel K F σ H δ)(s:Same H H'):Kp σ δ H H':=⟨λb o _ e=>s b o e,λb hb=>let ⟨n,h⟩:=(Kp.refl r).2 b hb;⟨n,s _ _ h⟩⟩
theorem Kp.da{F:Fm}{σ:L2.St}{H H':Hp}{δ:Sts}{v:V}{d:Qa}(k:Kp σ δ H H')(h:DA (Av F σ δ) H v d):DA (Av F σ δ) H' v d:=h.mv (λa o n e=>k.1 a o (λz=>n (Y7 z)) e) λa z=>.inl z
theorem Kp.das{F:Fm}{σ:L2.St}{H H':Hp}{δ:Sts}{v:List V}{d:List Qa}(k:Kp σ δ H H')(h:DAs (Av F σ δ) H v d):DAs (Av F σ δ) H' v d:=h.mv (λa o n e=>k.1 a o (λz=>n (Y7 z)) e) λa z=>.inl z
theorem Kp.dp{F:Fm}{σ:L2.St}{H H':Hp}{δ:Sts}{v:V}{d:Qa}(k:Kp σ δ H H')(h:DP (Av F σ δ) (Yh σ δ) H v d):DP (Av F σ δ) (Yh σ δ) H' v d:=by
 rcases h with h | ⟨l,xs,ds,e1,e2,n,e,q⟩
 ·exact .inl (k.da h)
 ·exact .inr ⟨l,xs,ds,e1,e2,n,k.1 _ _ n e,k.das q⟩
theorem Rel.own_pot{K:PySem.W.Frag}{F:Fm}{σ:L2.St}{H:Hp}{δ:Sts}(r:Rel K F σ H δ){i:Nat}{ds:List Qa}{l:Addr}(h:δ[i]? = some (.own ds))(e:σ[i]? = some (some (.ref l))):¬Yh σ δ l:=by
 rintro⟨j,h1,h2⟩;have:=r.inj i j l _ h e ⟨h1,.inl h2⟩;subst this;rw[h] at h2;cases h2
theorem Rel.pt_pot{K:PySem.W.Frag}{F:Fm}{σ:L2.St}{H H':Hp}{δ:Sts}(r:Rel K F σ H δ)(k:Kp σ δ H H'){p:Addr}(hp:F.pt p):∃n,H' p=some (.lst [.int n]):=by
 by_cases z:Yh σ δ p
 ·exact k.2 p z
 ·obtain⟨n,e⟩:=(r.pt0 p hp).2;exact⟨n,k.1 _ _ z e⟩
theorem Rel.kp{K:PySem.W.Frag}{F:Fm}{σ:L2.St}{H H':Hp}{δ:Sts}(r:Rel K F σ H δ)(k:Kp σ δ H H'):Rel K F σ H' δ where
 len:=r.len
 dom:=λa ha=>by
  by_cases z:Yh σ δ a
  ·exact⟨_,(k.2 a z).choose_spec⟩
  ·obtain⟨xs,e⟩:=r.dom a ha;exact⟨xs,k.1 _ _ z e⟩
 dom0:=r.dom0
 pt0:=λp hp=>⟨(r.pt0 p hp).1,r.pt_pot k hp⟩
 kx:=λb o n e=>by
  by_cases z:Yh σ δ b
  ·obtain⟨i,h1,h2⟩:=z;obtain⟨p,m,e1,h,q⟩:=r.sl i _ _ h1 h2;cases e1;rcases q with q | q
   ·exact absurd q n
   ·rw[q] at e;cases e
  ·exact k.1 _ _ z (r.kx b o n e)
 sl:=λi o x h1 h2=>by
  have h:=r.sl i o x h1 h2;cases x with
  |no=>trivial
  |v d=>obtain⟨v,e,q⟩:=h;exact⟨v,e,k.da q⟩
  |own ds=>obtain⟨l,xs,rfl,e,q,f⟩:=h;exact⟨l,xs,rfl,k.1 _ _ (r.own_pot h2 h1) e,k.das q,f⟩
  |pk ds=>
   obtain⟨l,xs,rfl,e,q,ys,f,f2⟩:=h;refine⟨l,xs,rfl,k.1 _ _ ?_ e,k.das q,ys,f,f2⟩;rintro⟨j,j1,j2⟩;obtain⟨p,m,e1,_,w⟩:=r.sl j _ _ j1 j2;cases e1;rcases w with w | w
   ·exact f2 w
   ·rw[w] at f;cases f
  |pot=>
   obtain⟨p,n,rfl,e,q⟩:=h;obtain⟨m,e'⟩:=k.2 p ⟨i,h1,h2⟩;exact⟨p,m,rfl,e',q⟩
  |scr=>exact h
 inj:=r.inj
theorem Rel.same{K:PySem.W.Frag}{F:Fm}{σ:L2.St}{H H':Hp}{δ:Sts}(r:Rel K F σ H δ)(s:Same H H'):Rel K F σ H' δ:=r.kp (Kp.same r s)
theorem Stp.refl{F:Fm}{σ:L2.St}{H:Hp}{δ:Sts}:Stp F σ H δ σ H δ:=⟨λ_ _ _ e=>e,λ_ z=>.inl z⟩
theorem Stp.trans{F:Fm}{σ σ1 σ2:L2.St}{H H1 H2:Hp}{δ δ1 δ2:Sts}(a:Stp F σ H δ σ1 H1 δ1)(b:Stp F σ1 H1 δ1 σ2 H2 δ2):Stp F σ H δ σ2 H2 δ2:=by
 refine⟨λc o n e=>?_,λc z=>?_⟩
 ·refine b.1 c o (λz=>?_) (a.1 c o n e);rcases a.2 c z with q | q
  ·exact n q
  ·rw[q] at e;cases e
 ·rcases b.2 c z with q | q
  ·exact a.2 c q
  ·by_cases y:Av F σ δ c
   ·exact .inl y
   ·right
    cases e:H c with
    |none=>rfl
    |some o=>rw[a.1 c o y e] at q;cases q
theorem Stp.kp{F:Fm}{σ:L2.St}{H H':Hp}{δ:Sts}(k:Kp σ δ H H'):Stp F σ H δ σ H' δ:=⟨λb o n e=>k.1 b o (λz=>n (Y7 z)) e,λ_ z=>.inl z⟩
theorem Stp.da{F:Fm}{σ σ':L2.St}{H H':Hp}{δ δ':Sts}{v:V}{d:Qa}(k:Stp F σ H δ σ' H' δ')(h:DA (Av F σ δ) H v d):DA (Av F σ' δ') H' v d:=h.mv k.1 k.2
abbrev XP:=Addr->Prop
abbrev DE:=Sts->(Qa->Prop)->XP->Prop
abbrev DT:=Sts->(Bool->Prop)->XP->Prop
abbrev DAr:=Sts->(List Qa->Prop)->XP->Prop
abbrev DSl:=Sts->(List Sl->Prop)->XP->Prop
inductive Md where | D | P | F
def FrV(H H':Hp)(v:V):Prop:=∀l,v=.ref l->(∃xs,H' l=some (.lst xs))->H l=none
def Vok(m:Md)(F:Fm)(σ:L2.St)(δ:Sts)(H H':Hp)(v:V)(d:Qa):Prop:=
 match m with
 |.D=>DA (Av F σ δ) H' v d
 |.P=>DP (Av F σ δ) (Yh σ δ) H' v d
 |.F=>DA (Av F σ δ) H' v d/\FrV H H' v
def Out(F:Fm)(E:XK)(EX:XP):Prop:=∀C,EX C->∀H',Ke F H'->E (.ref C) none H'
def tX(m:Md)(K:PySem.W.Frag)(E:XK)(w:DE):TE:=λσ H Q=>∃(F:Fm)(δ:Sts)(R:Qa->Prop)(EX:XP),Rel K F σ H δ/\w δ R EX/\(∀d,R d->∀v H',Rel K F σ H' δ->Kp σ δ H H'->Vok m F σ δ H H' v d->Q v H')/\Out F E EX
def tT(K:PySem.W.Frag)(E:XK)(w:DT):TT:=λσ H Q=>∃(F:Fm)(δ:Sts)(R:Bool->Prop)(EX:XP),Rel K F σ H δ/\w δ R EX/\(∀b,R b->∀H',Rel K F σ H' δ->Kp σ δ H H'->Q b H')/\Out F E EX
def VD(m:Md)(A P:Addr->Prop)(H:Hp)(v:V)(d:Qa):Prop:=
 match m with
 |.P=>DP A P H v d
 |_=>DA A H v d
def tAr(n:Nat)(m:Md)(K:PySem.W.Frag)(E:XK)(w:DAr):TA:=λσ H Q=>∃(F:Fm)(δ:Sts)(R:List Qa->Prop)(EX:XP),Rel K F σ H δ/\w δ R EX/\(∀ds,R ds->ds.length=n->∀vs H',Rel K F σ H' δ->Kp σ δ H H'->Qbp (VD m (Av F σ δ) (Yh σ δ) H') vs ds->Q vs H')/\Out F E EX
def QlY(A pt:Addr->Prop)(H:Hp)(v:V):Sl->Prop
 |.v d=>DA A H v d
 |.pot=>∃p,v=.ref p/\pt p
 |_=>False
def tAs(K:PySem.W.Frag)(E:XK)(w:DSl):TA:=λσ H Q=>∃(F:Fm)(δ:Sts)(R:List Sl->Prop)(EX:XP),Rel K F σ H δ/\w δ R EX/\(∀ds,R ds->∀vs H',Rel K F σ H' δ->Kp σ δ H H'->Qbp (QlY (Av F σ δ) (Yh σ δ) H') vs ds->Q vs H')/\Out F E EX
theorem Kp.vd{m:Md}{F:Fm}{σ:L2.St}{H H':Hp}{δ:Sts}{v:V}{d:Qa}(k:Kp σ δ H H')(h:VD m (Av F σ δ) (Yh σ δ) H v d):VD m (Av F σ δ) (Yh σ δ) H' v d:=by
 cases m
 ·exact k.da h
 ·exact k.dp h
 ·exact k.da h
theorem Kp.arg{F:Fm}{σ:L2.St}{H H':Hp}{δ:Sts}{v:V}{d:Sl}(k:Kp σ δ H H')(h:QlY (Av F σ δ) (Yh σ δ) H v d):QlY (Av F σ δ) (Yh σ δ) H' v d:=by
 cases d with
 |v d=>exact k.da h
 |pot=>exact h
 |_=>exact h.elim
def Qdw(H:Hp):Prop:=∀a xs,H a=some (.lst xs)∨H a=some (.tup xs)->xs.length<=sizeLine
section
variable{X:Cx}{E:XK}
theorem Inv.lens{pins:List (Addr×Obj)}{σ:L2.St}{H:Hp}{s:Shared}(I:Inv X pins σ H s):Qdw H:=λa xs h=>by
 rcases h with h | h
 ·exact(I.hok a _ h).1
 ·exact(I.hok a _ h).1
theorem PE.imp{e:QU}{t t':TE}(h:PE X e t)(i:∀σ H Q,t' σ H Q->t σ H Q):PE X e t':=λpins s σ H Q I q=>h pins s σ H Q I (i σ H Q q)
theorem PT.imp{e:QU}{t t':TT}(h:PT X e t)(i:∀σ H Q,t' σ H Q->t σ H Q):PT X e t':=λpins s σ H Q I q=>h pins s σ H Q I (i σ H Q q)
theorem PW.imp{e:QU}{t t':TT}(h:PW X e t)(i:∀σ H Q,t' σ H Q->t σ H Q):PW X e t':=λwh pins s σ H Q I q=>h wh pins s σ H Q I (i σ H Q q)
theorem PA.imp{e:List QU}{t t':TA}(h:PA X e t)(i:∀σ H Q,t' σ H Q->t σ H Q):PA X e t':=λpos pins s σ H Q I q=>h pos pins s σ H Q I (i σ H Q q)
theorem OpR.len{f:Value->Value->Sem Value}{r:R2}(h:OpR X f r):OpR X f (λx y H Q=>Qdw H->r x y H Q):=λpins s σ H x y v u Q I rx ry q=>h pins s σ H x y v u Q I rx ry (q (Inv.lens I))
theorem CallR.len{f:Value}{r:List V->Hp->VK->Prop}(h:CallR X f r):CallR X f (λxs H Q=>Qdw H->r xs H Q):=λpins s σ H xs us Q I rx q=>h pins s σ H xs us Q I rx (q (Inv.lens I))
theorem IxR.len{r:R2}(h:IxR X r):IxR X (λx y H Q=>Qdw H->r x y H Q):=λa b pins s σ H x y v u Q I rx ry q hs=>h a b pins s σ H x y v u Q I rx ry (q (Inv.lens I)) hs
theorem OpR.or2{f:Value->Value->Sem Value}{r r':R2}(h:OpR X f r)(h':OpR X f r'):OpR X f (λx y H Q=>r x y H Q∨r' x y H Q):=OpR.or h h'
theorem IxR.or2{r r':R2}(h:IxR X r)(h':IxR X r'):IxR X (λx y H Q=>r x y H Q∨r' x y H Q):=λa b pins s σ H x y v u Q I rx ry q hs=>q.elim (λq=>h a b pins s σ H x y v u Q I rx ry q hs) λq=>h' a b pins s σ H x y v u Q I rx ry q hs
theorem SlR.or2{r r':V->Option Int->Option Int->Hp->VK->Prop}(h:SlR X r)(h':SlR X r'):SlR X (λx a b H Q=>r x a b H Q∨r' x a b H Q):=λpins s σ H x v vl vu lo hi sl Q I rx hs pl pu q=>q.elim (h pins s σ H x v vl vu lo hi sl Q I rx hs pl pu) (h' pins s σ H x v vl vu lo hi sl Q I rx hs pl pu)
theorem toD{e:QU}{w:DE}(h:PE X e (tX .F X.K E w)):PE X e (tX .D X.K E w):=PE.imp h λσ H Q ⟨F,δ,R,EX,r,hw,k,o⟩=>⟨F,δ,R,EX,r,hw,λd hd v H' r' kp vk=>k d hd v H' r' kp vk.1,o⟩
theorem toP{e:QU}{w:DE}(h:PE X e (tX .D X.K E w)):PE X e (tX .P X.K E w):=PE.imp h λσ H Q ⟨F,δ,R,EX,r,hw,k,o⟩=>⟨F,δ,R,EX,r,hw,λd hd v H' r' kp vk=>k d hd v H' r' kp (.inl vk),o⟩
theorem QBV{e:QU}{w:DE}(h:PE X e (tX .F X.K E w)):PE X e (tX .P X.K E w):=toP (toD h)
def QA2(i:Nat):DE:=λδ Q _=>match δ[i]? with
 |some (.v d)=>Q d
 |_=>False
def dPk(i:Nat):DE:=λδ Q _=>match δ[i]? with
 |some (.v d)=>Q d
 |some (.own ds)=>Q (.list ds)
 |some (.pk ds)=>Q (.list ds)
 |_=>False
def dC(d:Qa):DE:=λ_ Q _=>Q d
theorem Rel.lt{K:PySem.W.Frag}{F:Fm}{σ:L2.St}{H:Hp}{δ:Sts}(r:Rel K F σ H δ){i:Nat}{x:Sl}(h:δ[i]? = some x):∃o,σ[i]? = some o:=by
 have:=(Jq.mp h).1;exact⟨σ[i]'(by rw[r.len];exact this),Qo _⟩
theorem Qxo{e:QU}{i:Nat}(h:PE X e (Qo9 i)):PE X e (tX .D X.K E (QA2 i)):=PE.imp h λσ H Q ⟨F,δ,R,EX,r,hw,k,o⟩=>by
 unfold QA2 at hw;split at hw
 ·rename_i d hd
  obtain⟨x,hx⟩:=r.lt hd;obtain⟨v,rfl,q⟩:=r.sl i _ _ hx hd;exact⟨v,hx,k d hw v H r (Kp.refl r) q⟩
 ·exact hw.elim
theorem QAr{e:QU}{i:Nat}(h:PE X e (Qo9 i)):PE X e (tX .P X.K E (dPk i)):=PE.imp h λσ H Q ⟨F,δ,R,EX,r,hw,k,o⟩=>by
 unfold dPk at hw;split at hw
 ·rename_i d hd
  obtain⟨x,hx⟩:=r.lt hd;obtain⟨v,rfl,q⟩:=r.sl i _ _ hx hd;exact⟨v,hx,k d hw v H r (Kp.refl r) (.inl q)⟩
 ·rename_i d hd
  obtain⟨x,hx⟩:=r.lt hd;obtain⟨l,xs,rfl,e,q,_⟩:=r.sl i _ _ hx hd;exact⟨_,hx,k _ hw _ H r (Kp.refl r) (.inr ⟨l,xs,d,rfl,rfl,r.own_pot hd hx,e,q⟩)⟩
 ·rename_i d hd
  obtain⟨x,hx⟩:=r.lt hd;obtain⟨l,xs,rfl,e,q,ys,f,f2⟩:=r.sl i _ _ hx hd;refine⟨_,hx,k _ hw _ H r (Kp.refl r) (.inr ⟨l,xs,d,rfl,rfl,?_,e,q⟩)⟩;rintro⟨j,j1,j2⟩;obtain⟨p,m,e1,_,w⟩:=r.sl j _ _ j1 j2;cases e1;rcases w with w | w
  ·exact f2 w
  ·rw[w] at f;cases f
 ·exact hw.elim
theorem QAv{e:QU}{v:V}{d:Qa}(h:PE X e (tC v))(q:∀(A:Addr->Prop)(H:Hp),DA A H v d):PE X e (tX .D X.K E (dC d)):=PE.imp h λσ H Q ⟨F,δ,R,EX,r,hw,k,o⟩=>k d hw v H r (Kp.refl r) (q _ _)
theorem Qxu{i:Int}{j pos}:PE X (.Constant (.int i) j pos) (tX .D X.K E (dC (.int i))):=QAv QsA λ_ _=>.int i
theorem QAw{b:Bool}{j pos}:PE X (.Constant (.bool b) j pos) (tX .D X.K E (dC (.bool b))):=QAv QAp λ_ _=>.bl b
def OpD(r:R2)(rD:Qa->Qa->(Qa->Prop)->Prop):Prop:=∀(A P:Addr->Prop)(H:Hp)(x y:V)(d1 d2:Qa)(R:Qa->Prop)(Q:VK),Qdw H->(∀a,A a->∃xs,H a=some (.lst xs))->DP A P H x d1->DP A P H y d2->rD d1 d2 R ->
 (∀d,R d->∀v H',Same H H'->DA A H' v d->FrV H H' v->Q v H')->r x y H Q
def Qs4(r:R2)(rD:Qa->Qa->(Qa->Prop)->Prop):Prop:=∀(A P:Addr->Prop)(H:Hp)(x y:V)(d1 d2:Qa)(R:Qa->Prop)(Q:VK),Qdw H->(∀a,A a->∃xs,H a=some (.lst xs))->DP A P H x d1->DP A P H y d2->rD d1 d2 R ->
 (∀d,R d->∀v H',Same H H'->DA A H' v d->Q v H')->r x y H Q
def dOp(rD:Qa->Qa->(Qa->Prop)->Prop)(wa wb:DE):DE:=λδ Q EX=>wa δ (λd1=>wb δ (λd2=>rD d1 d2 Q) EX) EX
theorem Qju{K:PySem.W.Frag}{r:R2}{rD:Qa->Qa->(Qa->Prop)->Prop}{wa wb:DE}(hd:OpD r rD)(σ:L2.St)(H:Hp)(Q:VK)(h:tX .F K E (dOp rD wa wb) σ H Q) :
  tOp (λx y H Q=>Qdw H->r x y H Q) (tX .P K E wa) (tX .P K E wb) σ H Q:=by
 obtain⟨F,δ,R,EX,rel,hw,k,o⟩:=h;refine⟨F,δ,_,EX,rel,hw,λd1 h1 x H1 rel1 kp1 x1=>⟨F,δ,_,EX,rel1,h1,λd2 h2 y H2 rel2 kp2 y2=>λln=>?_,o⟩,o⟩;refine hd (Av F σ δ) (Yh σ δ) H2 x y d1 d2 R Q ln (λa ha=>rel2.isl ha) (kp2.dp x1) y2 h2 λd hR v H' s q f=>?_
 refine k d hR v H' (rel2.same s) ((kp1.trans kp2).trans (Kp.same rel2 s)) ⟨q,λl e1 e2=>?_⟩;have f2:=f l e1 e2;cases e:H l with
 |none=>rfl
 |some ob=>
  by_cases z:Yh σ δ l
  ·obtain⟨n,en⟩:=kp2.2 l z;rw[en] at f2;cases f2
  ·rw[(kp1.trans kp2).1 _ _ z e] at f2;cases f2
theorem Qp9{K:PySem.W.Frag}{r:R2}{rD:Qa->Qa->(Qa->Prop)->Prop}{wa wb:DE}(hd:Qs4 r rD)(σ:L2.St)(H:Hp)(Q:VK)(h:tX .D K E (dOp rD wa wb) σ H Q) :
  tOp (λx y H Q=>Qdw H->r x y H Q) (tX .P K E wa) (tX .P K E wb) σ H Q:=by
 obtain⟨F,δ,R,EX,rel,hw,k,o⟩:=h;refine⟨F,δ,_,EX,rel,hw,λd1 h1 x H1 rel1 kp1 x1=>⟨F,δ,_,EX,rel1,h1,λd2 h2 y H2 rel2 kp2 y2=>λln=>?_,o⟩,o⟩;refine hd (Av F σ δ) (Yh σ δ) H2 x y d1 d2 R Q ln (λa ha=>rel2.isl ha) (kp2.dp x1) y2 h2 λd hR v H' s q=>?_
 exact k d hR v H' (rel2.same s) ((kp1.trans kp2).trans (Kp.same rel2 s)) q
variable{a b:QU}{wa wb:DE}{pos:Pos}{r:R2}{rD:Qa->Qa->(Qa->Prop)->Prop}
theorem Qxx{op:Qgy}(ho:OpR X (binaryOp op) r)(hd:OpD r rD)(ha:PE X a (tX .P X.K E wa))(hb:PE X b (tX .P X.K E wb)):PE X (.BinOp a op b pos) (tX .F X.K E (dOp rD wa wb)):=PE.imp (QAo (OpR.len ho) ha hb) (Qju hd)
theorem Qxw{op:Qtj}(ho:OpR X (compareOp op) r)(hd:OpD r rD)(ha:PE X a (tX .P X.K E wa))(hb:PE X b (tX .P X.K E wb))(hm:behindInMarks op b=false):PE X (.Compare a [op] [b] pos) (tX .F X.K E (dOp rD wa wb)):=PE.imp (Qug (OpR.len ho) ha hb hm) (Qju hd)
theorem QAt{r:R2}{rD:Qa->Qa->(Qa->Prop)->Prop}(ho:IxR X r)(hd:Qs4 r rD)(ha:PE X a (tX .P X.K E wa))(hb:PE X b (tX .P X.K E wb))(hs:QjX b):PE X (.Subscript a b pos) (tX .D X.K E (dOp rD wa wb)):=PE.imp (Qxj (IxR.len ho) ha hb hs) (Qp9 hd)
def dTst(w:DE):DT:=λδ Q EX=>w δ (λd=>match d with
 |.bool k=>Q k
 |_=>False) EX
theorem Qun{op:Qtj}(ho:OpR X (compareOp op) r)(hd:OpD r rD)(ha:PE X a (tX .P X.K E wa))(hb:PE X b (tX .P X.K E wb))(hm:behindInMarks op b=false):PT X (.Compare a [op] [b] pos) (tT X.K E (dTst (dOp rD wa wb))):=by
 refine PT.imp (QmX (OpR.len ho) ha hb hm) λσ H Q ⟨F,δ,R,EX,rel,hw,k,o⟩=>?_
 refine Qju hd σ H (λx H'=>∃k,x=.bl k/\Q k H') ⟨F,δ,_,EX,rel,hw,λd hd2 v H' rel' kp vk=>?_,o⟩;split at hd2
 ·rename_i b
  have:v=.bl b:=by cases vk.1;rfl
  exact⟨b,this,k b hd2 H' rel' kp⟩
 ·exact hd2.elim
def tru:Qa->Bool
 |.none=>false
 |.bool b=>b
 |.int i=>i != 0
 |.str y=>(y.length:Int) != 0
 |.list ds => !ds.isEmpty
 |.tuple ds => !ds.isEmpty
 |.dict ds => !ds.isEmpty
def strOk:Qa->Prop
 |.str y=>y.length<=sizeLine
 |_=>True
def dTru(w:DE):DT:=λδ Q EX=>w δ (λd=>strOk d/\Q (tru d)) EX
theorem Qwu{K:PySem.W.Frag}{A P:Addr->Prop}{H:Hp}{v:V}{d:Qa}(h:DP A P H v d)(hs:strOk d):QA9 K v H (tru d):=by
 have sq:∀{xs:List V}{ds:List Qa},DAs A H xs ds->(!ds.isEmpty) = !xs.isEmpty:=λq=>by cases q<;>rfl
 rcases h with h | ⟨l,xs,ds,rfl,rfl,_,e,q⟩
 ·cases h with
  |non=>rfl
  |bl b=>rfl
  |int i=>rfl
  |str x c=>exact⟨hs,rfl⟩
  |@tup a xs ds n e q=>exact .inr (.inl ⟨xs,SqT.of e,sq q⟩)
  |@lst a xs ds n e q=>exact .inl ⟨xs,SqL.of e,sq q⟩
  |@dct a kvs ds n e q=>subst q;exact .inr (.inr ⟨dkV kvs,e,by cases kvs<;>rfl⟩)
 ·exact .inl ⟨xs,SqL.of e,sq q⟩
theorem Qul{e:QU}{w:DE}(h:PE X e (tX .P X.K E w))(he:∀whole,isTrue e X.env whole=(do let v <- whole;standAt e.pos;holding [v] (truthy v))):PT X e (tT X.K E (dTru w)):=by
 refine PT.imp (QpC h he) λσ H Q ⟨F,δ,R,EX,rel,hw,k,o⟩=>?_
 exact⟨F,δ,_,EX,rel,hw,λd ⟨hs,hq⟩ v H' rel' kp vk=>⟨tru d,Qwu vk hs,k _ hq H' rel' kp⟩,o⟩
theorem Quk{e:QU}{w:DE}(h:PE X e (tX .P X.K E w))(he:∀whole,isTrue e X.env whole=(do let v <- whole;standAt e.pos;holding [v] (truthy v)):=by intro _;rfl):PT X e (tT X.K E (dTst w)):=by
 refine PT.imp (Qw5 h he) λσ H Q ⟨F,δ,R,EX,rel,hw,k,o⟩=>?_
 refine⟨F,δ,_,EX,rel,hw,λd hd v H' rel' kp vk=>?_,o⟩;split at hd
 ·exact⟨_,DP.bool vk,k _ hd H' rel' kp⟩
 ·exact hd.elim
def QBM(wa wb:DT):DT:=λδ Q EX=>wa δ (λc=>if c=true then wb δ Q EX else Q false) EX
def dOr(wa wb:DT):DT:=λδ Q EX=>wa δ (λc=>if c=true then Q true else wb δ Q EX) EX
def QBE(wa:DT):DT:=λδ Q EX=>wa δ (λc=>Q (!c)) EX
theorem QcW{c:Prop}[Decidable c]{p q p' q':Prop}(h:if c then p else q)(h1:p->p')(h2:q->q'):if c then p' else q':=by
 split at h
 ·rw[if_pos (by assumption)];exact h1 h
 ·rw[if_neg (by assumption)];exact h2 h
variable{rest:List QU}{ta tb:DT}
theorem QpM(ha:PT X a (tT X.K E ta)):PW X (.BoolOp .And [a] pos) (tT X.K E ta):=Qt0 ha
theorem Qui(ha:PT X a (tT X.K E ta)):PW X (.BoolOp .Or [a] pos) (tT X.K E ta):=Qw3 ha
theorem Quj(ha:PT X a (tT X.K E ta))(hb:PW X (.BoolOp .And (b::rest) pos) (tT X.K E tb)):PW X (.BoolOp .And (a::b::rest) pos) (tT X.K E (QBM ta tb)):=by
 refine PW.imp (Qw4 ha hb) λσ H Q ⟨F,δ,R,EX,rel,hw,k,o⟩=>?_
 refine⟨F,δ,_,EX,rel,hw,λc hc H' rel' kp=>?_,o⟩;exact QcW hc (λz=>⟨F,δ,R,EX,rel',z,λc hc H2 rel2 kp2=>k c hc H2 rel2 (kp.trans kp2),o⟩) λz=>k _ z H' rel' kp
theorem Qxm(ha:PT X a (tT X.K E ta))(hb:PW X (.BoolOp .Or (b::rest) pos) (tT X.K E tb)):PW X (.BoolOp .Or (a::b::rest) pos) (tT X.K E (dOr ta tb)):=by
 refine PW.imp (QAm ha hb) λσ H Q ⟨F,δ,R,EX,rel,hw,k,o⟩=>?_
 refine⟨F,δ,_,EX,rel,hw,λc hc H' rel' kp=>?_,o⟩;exact QcW hc (λz=>k _ z H' rel' kp) (λz=>⟨F,δ,R,EX,rel',z,λc hc H2 rel2 kp2=>k c hc H2 rel2 (kp.trans kp2),o⟩)
theorem Qum(ha:PT X a (tT X.K E ta)):PT X (.UnaryOp .Not a pos) (tT X.K E (QBE ta)):=by
 refine PT.imp (Qw6 ha) λσ H Q ⟨F,δ,R,EX,rel,hw,k,o⟩=>?_
 exact⟨F,δ,_,EX,rel,hw,λc hc H' rel' kp=>k _ hc H' rel' kp,o⟩
def QyL(wa wb:DE):DE:=λδ Q EX=>wa δ (λd=>match d with
 |.bool c=>if c=true then wb δ Q EX else Q (.bool false)
 |_=>False) EX
def QyH(wa:DE):DE:=λδ Q EX=>wa δ (λd=>match d with
 |.bool c=>Q (.bool (!c))
 |_=>False) EX
theorem Qxq{op}{w:DE}(h:PE X a (tX .D X.K E w)):PE X (.BoolOp op [a] pos) (tX .D X.K E w):=Qxh h
theorem Qxy(ha:PE X a (tX .P X.K E wa))(hb:PE X (.BoolOp .And (b::rest) pos) (tX .D X.K E wb)):PE X (.BoolOp .And (a::b::rest) pos) (tX .D X.K E (QyL wa wb)):=by
 refine PE.imp (Qxl ha hb) λσ H Q ⟨F,δ,R,EX,rel,hw,k,o⟩=>?_
 refine⟨F,δ,_,EX,rel,hw,λd hd v H' rel' kp vk=>?_,o⟩;split at hd
 ·exact⟨_,DP.bool vk,QcW hd (λz=>⟨F,δ,R,EX,rel',z,λd hd v H2 rel2 kp2=>k d hd v H2 rel2 (kp.trans kp2),o⟩) λz=>k _ z _ H' rel' kp (.bl _)⟩
 ·exact hd.elim
theorem Qxr(ha:PE X a (tX .P X.K E wa)):PE X (.UnaryOp .Not a pos) (tX .D X.K E (QyH wa)):=by
 refine PE.imp (Qxi ha) λσ H Q ⟨F,δ,R,EX,rel,hw,k,o⟩=>?_
 refine⟨F,δ,_,EX,rel,hw,λd hd v H' rel' kp vk=>?_,o⟩;split at hd
 ·exact⟨_,DP.bool vk,k _ hd _ H' rel' kp (.bl _)⟩
 ·exact hd.elim
def QBJ(t:DT)(wa wb:DE):DE:=λδ Q EX=>t δ (λc=>if c=true then wa δ Q EX else wb δ Q EX) EX
theorem Qxv{c:QU}(hc:PT X c (tT X.K E ta))(ha:PE X a (tX .D X.K E wa))(hb:PE X b (tX .D X.K E wb)):PE X (.IfExp c a b pos) (tX .D X.K E (QBJ ta wa wb)):=by
 refine PE.imp (QpJ hc ha hb) λσ H Q ⟨F,δ,R,EX,rel,hw,k,o⟩=>?_
 refine⟨F,δ,_,EX,rel,hw,λd hd H' rel' kp=>?_,o⟩;exact QcW hd (λz=>⟨F,δ,R,EX,rel',z,λd hd v H2 rel2 kp2=>k d hd v H2 rel2 (kp.trans kp2),o⟩) (λz=>⟨F,δ,R,EX,rel',z,λd hd v H2 rel2 kp2=>k d hd v H2 rel2 (kp.trans kp2),o⟩)
end
theorem Qdo{A:Addr->Prop}{H H':Hp}{l:Addr}{xs:List V}{ds:List Qa}(dm:∀a,A a->∃xs,H a=some (.lst xs))(s:Same H H')(n:H l=none)(e:H' l=some (.lst xs))(q:DAs A H xs ds):DA A H' (.ref l) (.list ds):=
 .lst (λz=>by obtain⟨ys,e'⟩:=dm l z;rw[n] at e';cases e') e (q.same s)
theorem QhR{A:Addr->Prop}{H H':Hp}{l:Addr}{xs:List V}{ds:List Qa}(dm:∀a,A a->∃xs,H a=some (.lst xs))(s:Same H H')(e:H' l=some (.tup xs))(q:DAs A H xs ds):DA A H' (.ref l) (.tuple ds):=
 .tup (λz=>by obtain⟨ys,e'⟩:=dm l z;rw[s _ _ e'] at e;cases e) e (q.same s)
theorem Qa5{H H':Hp}{l:Addr}(n:H l=none):FrV H H' (.ref l):=λl' e _=>by cases e;exact n
theorem Qfi{H H':Hp}{l:Addr}{xs:List V}(e:H' l=some (.tup xs)):FrV H H' (.ref l):=λl' e1 ⟨ys,e2⟩=>by cases e1;rw[e] at e2;cases e2
theorem Qa6{H H':Hp}{i:Int}:FrV H H' (.int i):=λl' e _=>by cases e
theorem QaN{H H':Hp}{i:Bool}:FrV H H' (.bl i):=λl' e _=>by cases e
theorem Qvm{H H':Hp}:FrV H H' .non:=λl' e _=>by cases e
theorem DAs.rep{A:Addr->Prop}{H:Hp}{xs:List V}{ds:List Qa}(q:DAs A H xs ds):∀k:Nat,DAs A H (Jj k xs).flatten (Jj k ds).flatten
 |0=>.nil
 |k+1=>by rw[ZD,ZD,Yp,Yp];exact q.app (DAs.rep q k)
def QBO:Qa->Qa->(Qa->Prop)->Prop
 |.int i,.int j,Q=>Q (.int (i+j))
 |.tuple a,.tuple b,Q=>a.length+b.length<=1000000/\Q (.tuple (a++b))
 |.list a,.list b,Q=>a.length+b.length<=1000000/\Q (.list (a++b))
 |_,_,_=>False
def iiD(C:Int->Int->Prop)(f:Int->Int->Qa):Qa->Qa->(Qa->Prop)->Prop
 |.int i,.int j,Q=>C i j/\Q (f i j)
 |_,_,_=>False
def ii0(f:Int->Int->Qa):Qa->Qa->(Qa->Prop)->Prop
 |.int i,.int j,Q=>Q (f i j)
 |_,_,_=>False
def QB9:Qa->Qa->(Qa->Prop)->Prop
 |.int i,.int j,Q=>(CMul i j∨CMulB i j)/\Q (.int (i*j))
 |.list a,.int k,Q=>(k<1000000 /\ -1000000<k/\a.length*k.toNat<=1000000)/\Q (.list (Jj k.toNat a).flatten)
 |_,_,_=>False
theorem Qij:1000000<=sizeLine:=by show 1000000<=2^24;decide
section
variable{X:Cx}{E:XK}
theorem Qrk{C:Int->Int->Prop}{g:Int->Int->Int}:OpD (rI C λi j=>.int (g i j)) (iiD C λi j=>.int (g i j)):=λA P H x y d1 d2 R Q ln dm hx hy h k=>by
 cases d1<;>cases d2<;>first | exact h.elim | skip
 rw[hx.int,hy.int];exact⟨_,_,rfl,rfl,h.1,k _ h.2 _ H (Same.refl H) (.int _) Qa6⟩
theorem Qbl{g:Int->Int->Int}:OpD (rI0 λi j=>.int (g i j)) (ii0 λi j=>.int (g i j)):=λA P H x y d1 d2 R Q ln dm hx hy h k=>by
 cases d1<;>cases d2<;>first | exact h.elim | skip
 rw[hx.int,hy.int];exact⟨_,_,rfl,rfl,k _ h _ H (Same.refl H) (.int _) Qa6⟩
theorem Qnv{g:Int->Int->Bool}:OpD (rI0 λi j=>.bl (g i j)) (ii0 λi j=>.bool (g i j)):=λA P H x y d1 d2 R Q ln dm hx hy h k=>by
 cases d1<;>cases d2<;>first | exact h.elim | skip
 rw[hx.int,hy.int];exact⟨_,_,rfl,rfl,k _ h _ H (Same.refl H) (.bl _) QaN⟩
def rAdd:R2:=λx y H Q=>(rI0 (λi j=>.int (i+j)) x y H Q∨QwW x y H Q)∨QBs x y H Q
theorem Qce:OpR X (binaryOp .Add) rAdd:=OpR.or2 (OpR.or2 QxS QuH) QxQ
theorem Qei:OpD rAdd QBO:=λA P H x y d1 d2 R Q ln dm hx hy h k=>by
 cases d1<;>cases d2<;>first | exact h.elim | skip
 ·rw[hx.int,hy.int];exact .inl (.inl ⟨_,_,rfl,rfl,k _ h _ H (Same.refl H) (.int _) Qa6⟩)
 ·obtain⟨l1,xs,rfl,e1,q1⟩:=hx.list;obtain⟨l2,ys,rfl,e2,q2⟩:=hy.list;refine .inr ⟨l1,l2,xs,ys,rfl,rfl,e1,e2,Q1 (by rw[q1.length,q2.length];exact h.1) Qij,λp hp=>?_⟩;exact k _ h.2 _ _ (JL hp) (Qdo dm (JL hp) hp JQ (q1.app q2)) (Qa5 hp)
 ·obtain⟨l1,xs,rfl,e1,q1⟩:=hx.tuple;obtain⟨l2,ys,rfl,e2,q2⟩:=hy.tuple;refine .inl (.inr ⟨l1,l2,xs,ys,rfl,rfl,e1,e2,Q1 (by rw[q1.length,q2.length];exact h.1) Qij,λp H' s e=>?_⟩);exact k _ h.2 _ _ s (QhR dm s e (q1.app q2)) (Qfi e)
def QwU:R2:=λx y H Q=>(rI CMul (λi j=>.int (i*j)) x y H Q∨rI CMulB (λi j=>.int (i*j)) x y H Q)∨QBh x y H Q
theorem Qnm:OpR X (binaryOp .Mult) QwU:=OpR.or2 (OpR.or2 QxG QuE) QxD
theorem QsF:OpD QwU QB9:=λA P H x y d1 d2 R Q ln dm hx hy h k=>by
 cases d1<;>cases d2<;>first | exact h.elim | skip
 ·rw[hx.int,hy.int];rcases h.1 with c | c
  ·exact .inl (.inl ⟨_,_,rfl,rfl,c,k _ h.2 _ H (Same.refl H) (.int _) Qa6⟩)
  ·exact .inl (.inr ⟨_,_,rfl,rfl,c,k _ h.2 _ H (Same.refl H) (.int _) Qa6⟩)
 ·obtain⟨l1,xs,rfl,e1,q1⟩:=hx.list;rw[hy.int];obtain⟨⟨h1,h2,h3⟩,h4⟩:=h;refine .inr ⟨l1,_,xs,rfl,rfl,e1,by omega,by omega,Q1 (by rw[q1.length];exact h3) Qij,λp hp=>?_⟩;exact k _ h4 _ _ (JL hp) (Qdo dm (JL hp) hp JQ (q1.rep _)) (Qa5 hp)
def eqD:Qa->Qa->(Qa->Prop)->Prop
 |.int i,.int j,Q=>Q (.bool (decide (i=j)))
 |.bool i,.bool j,Q=>Q (.bool (decide (i=j)))
 |.str i,.str j,Q=>Q (.bool (decide (i=j)))
 |a,b,Q=>(nd a=true/\nd b=true/\(a.depth<=50∨b.depth<=50))/\Q (.bool (QY a b))
def neD:Qa->Qa->(Qa->Prop)->Prop
 |.int i,.int j,Q=>Q (.bool (!decide (i=j)))
 |.bool i,.bool j,Q=>Q (.bool (!decide (i=j)))
 |.str i,.str j,Q=>Q (.bool (!decide (i=j)))
 |a,b,Q=>(nd a=true/\nd b=true/\(a.depth<=50∨b.depth<=50))/\Q (.bool (!QY a b))
theorem Qx5{a b:Qa}(h:a.depth<=50∨b.depth<=50):min a.depth b.depth<=50:=by rcases h with h | h<;>omega
def QBr(u:Nat):R2:=λx y H Q=>rEq x y H Q∨QBq u x y H Q
def QBj(u:Nat):R2:=λx y H Q=>rNe x y H Q∨QBi u x y H Q
theorem Qeh:OpR X (compareOp .Eq) (QBr X.A.units):=OpR.or2 QAD QxO
theorem QcU:OpR X (compareOp .NotEq) (QBj X.A.units):=OpR.or2 QAA QxE
theorem Qyz{i j:Int}:decide (V.int i=V.int j)=decide (i=j):=by
 by_cases h:i=j
 ·subst h;simp
 ·rw[decide_eq_false h,decide_eq_false (λz=>h (V.int.inj z))]
theorem QyA{i j:Bool}:decide (V.bl i=V.bl j)=decide (i=j):=by
 by_cases h:i=j
 ·subst h;simp
 ·rw[decide_eq_false h,decide_eq_false (λz=>h (V.bl.inj z))]
theorem Qyy{i j:Str}:decide (V.str i=V.str j)=decide (i=j):=by
 by_cases h:i=j
 ·subst h;simp
 ·rw[decide_eq_false h,decide_eq_false (λz=>h (V.str.inj z))]
theorem Qid{u:Nat}(hu:u+60<cLine):OpD (QBr u) eqD:=λA P H x y d1 d2 R Q ln dm hx hy h k=>by
 unfold eqD at h;split at h
 ·rw[hx.int,hy.int];exact .inl ⟨rfl,k (.bool (decide (V.int _=V.int _))) (by rw[Qyz];exact h) _ H (Same.refl H) (.bl _) QaN⟩
 ·rw[hx.bool,hy.bool];exact .inl ⟨rfl,k (.bool (decide (V.bl _=V.bl _))) (by rw[QyA];exact h) _ H (Same.refl H) (.bl _) QaN⟩
 ·rw[hx.str.1,hy.str.1];exact .inl ⟨rfl,k (.bool (decide (V.str _=V.str _))) (by rw[Qyy];exact h) _ H (Same.refl H) (.bl _) QaN⟩
 ·obtain⟨⟨n1,n2,dp⟩,hR⟩:=h;have:=Qx5 dp;exact .inr ⟨_,_,hx.dat n1,hy.dat n2,by omega,k _ hR _ H (Same.refl H) (.bl _) QaN⟩
theorem QfI{u:Nat}(hu:u+60<cLine):OpD (QBj u) neD:=λA P H x y d1 d2 R Q ln dm hx hy h k=>by
 unfold neD at h;split at h
 ·rw[hx.int,hy.int];exact .inl ⟨rfl,k (.bool (!decide (V.int _=V.int _))) (by rw[Qyz];exact h) _ H (Same.refl H) (.bl _) QaN⟩
 ·rw[hx.bool,hy.bool];exact .inl ⟨rfl,k (.bool (!decide (V.bl _=V.bl _))) (by rw[QyA];exact h) _ H (Same.refl H) (.bl _) QaN⟩
 ·rw[hx.str.1,hy.str.1];exact .inl ⟨rfl,k (.bool (!decide (V.str _=V.str _))) (by rw[Qyy];exact h) _ H (Same.refl H) (.bl _) QaN⟩
 ·obtain⟨⟨n1,n2,dp⟩,hR⟩:=h;have:=Qx5 dp;exact .inr ⟨_,_,hx.dat n1,hy.dat n2,by omega,k _ hR _ H (Same.refl H) (.bl _) QaN⟩
def QtS(u:Nat)(neg:Bool):R2:=λx y H Q=>∃c ps ds d,y=.ref c/\H c=some (.lst ps)/\Dats H ps ds/\Dat H x d/\u+d.depth<cLine/\Q (.bl (if neg then !(ds.any λe=>QY e d) else ds.any λe=>QY e d)) H
theorem QuF:OpR X (compareOp .In) (QtS X.A.in1.units false):=by
 intro pins s σ H x y v u Q I rx ry h;obtain⟨c,ps,ds,d,rfl,hc,qs,qx,hu,q⟩:=h;cases ry;obtain⟨⟨as,ra⟩,ca⟩:=Yg I.hok d x v qx rx;obtain⟨its,rv,pl,hz⟩:=I.list (SqL.of hc);obtain⟨⟨bs,rb⟩,cb⟩:=YS I.hok ds ps its qs rv;refine SeqAt.in_listAt (eqH s.heap d) pl.isList (λw hw=>Qfc ra ca rb cb hu w (QcK.mp hw)) ⟨.bl _,H,I,rfl,?_⟩;rw[show its.toArray.any (eqH s.heap d)=its.any (eqH s.heap d) by simp,Qfr rb cb];exact q
theorem QlD:OpR X (compareOp .NotIn) (QtS X.A.in1.units true):=by
 intro pins s σ H x y v u Q I rx ry h;obtain⟨c,ps,ds,d,rfl,hc,qs,qx,hu,q⟩:=h;cases ry;obtain⟨⟨as,ra⟩,ca⟩:=Yg I.hok d x v qx rx;obtain⟨its,rv,pl,hz⟩:=I.list (SqL.of hc);obtain⟨⟨bs,rb⟩,cb⟩:=YS I.hok ds ps its qs rv;refine SeqAt.notIn_listAt (eqH s.heap d) pl.isList (λw hw=>Qfc ra ca rb cb hu w (QcK.mp hw)) ⟨.bl _,H,I,rfl,?_⟩;rw[show its.toArray.any (eqH s.heap d)=its.any (eqH s.heap d) by simp,Qfr rb cb];exact q
def inD(neg:Bool)(d:Qa):Qa->(Qa->Prop)->Prop
 |.list ds,Q=>(nds ds=true/\nd d=true/\d.depth<=50)/\Q (.bool (if neg then !(ds.any λe=>QY e d) else ds.any λe=>QY e d))
 |.tuple ds,Q=>(nds ds=true/\nd d=true/\d.depth<=50)/\Q (.bool (if neg then !(ds.any λe=>QY e d) else ds.any λe=>QY e d))
 |_,_=>False
def QAi(u:Nat)(neg:Bool):R2:=λx y H Q=>QAh u neg x y H Q∨QtS u neg x y H Q
theorem QsB:OpR X (compareOp .In) (QAi X.A.in1.units false):=OpR.or2 QxK QuF
theorem Qh9:OpR X (compareOp .NotIn) (QAi X.A.in1.units true):=OpR.or2 Qnk QlD
theorem Qrj{u:Nat}{neg:Bool}(hu:u+60<cLine):OpD (QAi u neg) (inD neg):=λA P H x y d1 d2 R Q ln dm hx hy h k=>by
 cases d2<;>first | exact h.elim | skip
 ·obtain⟨l,xs,rfl,e,q⟩:=hy.list;obtain⟨⟨n1,n2,n3⟩,hR⟩:=h;exact .inr ⟨l,xs,_,d1,rfl,e,QbR _ _ n1 q,hx.dat n2,by omega,k _ hR _ H (Same.refl H) (.bl _) QaN⟩
 ·obtain⟨l,xs,rfl,e,q⟩:=hy.tuple;obtain⟨⟨n1,n2,n3⟩,hR⟩:=h;exact .inl ⟨l,xs,_,d1,rfl,e,QbR _ _ n1 q,hx.dat n2,by omega,k _ hR _ H (Same.refl H) (.bl _) QaN⟩
def ixD:Qa->Qa->(Qa->Prop)->Prop
 |.list ds,.int i,Q=>∃d,atI ds i=some d/\Q d
 |.tuple ds,.int i,Q=>∃d,atI ds i=some d/\Q d
 |_,_,_=>False
theorem Qs2{A:Addr->Prop}{H:Hp}{xs:List V}{ds:List Qa}{i:Int}{d:Qa}(q:DAs A H xs ds)(h:atI ds i=some d):∃v,atI xs i=some v/\DA A H v d:=by
 unfold atI at h ⊢;rw[q.length];cases e:ixN ds.length i with
 |none=>rw[e] at h;cases h
 |some j=>
  rw[e] at h;exact q.get j d h
def QBn(K:PySem.W.Frag):R2:=λx y H Q=>Qzh K x y H Q∨QBl K x y H Q
theorem ZS:IxR X (QBn X.K):=IxR.or2 QnO Qyh
theorem YZ{K:PySem.W.Frag}:Qs4 (QBn K) ixD:=λA P H x y d1 d2 R Q ln dm hx hy h k=>by
 cases d1<;>cases d2<;>first | exact h.elim | skip
 ·obtain⟨l,xs,rfl,e,q⟩:=hx.list;obtain⟨d,hd,hR⟩:=h;obtain⟨v,hv,dv⟩:=Qs2 q hd;rw[hy.int];exact .inl ⟨l,xs,_,v,rfl,rfl,SqL.of e,hv,k d hR v H (Same.refl H) dv⟩
 ·obtain⟨l,xs,rfl,e,q⟩:=hx.tuple;obtain⟨d,hd,hR⟩:=h;obtain⟨v,hv,dv⟩:=Qs2 q hd;rw[hy.int];exact .inr ⟨l,xs,_,v,rfl,rfl,SqT.of e,hv,k d hR v H (Same.refl H) dv⟩
def dUn(rD:Qa->(Qa->Prop)->Prop)(wa:DE):DE:=λδ Q EX=>wa δ (λd=>rD d Q) EX
def QBt:Qa->(Qa->Prop)->Prop
 |.int i,Q=>Q (.int (-i))
 |_,_=>False
variable{a b c:QU}{wa wb wc:DE}{pos:Pos}
theorem Qxs(ha:PE X a (tX .P X.K E wa)):PE X (.UnaryOp .USub a pos) (tX .F X.K E (dUn QBt wa)):=by
 refine PE.imp (QAn Qwo ha) λσ H Q ⟨F,δ,R,EX,rel,hw,k,o⟩=>?_
 refine⟨F,δ,_,EX,rel,hw,λd hd v H' rel' kp vk=>?_,o⟩;cases d<;>first | exact(show False from hd).elim | skip
 exact⟨_,DP.int vk,k _ hd _ H' rel' kp ⟨.int _,Qa6⟩⟩
def dCh(p q:Int->Int->Bool)(wa wb wc:DE):DE:=λδ Q EX=>wa δ (λx=>wb δ (λy=>match x,y with
 |.int i,.int j=>if p i j=true then wc δ (λz=>match z with
  |.int k=>Q (.bool (q j k))
  |_=>False) EX else Q (.bool false)
 |_,_=>False) EX) EX
theorem QvJ{K:PySem.W.Frag}{p q:Int->Int->Bool}(σ:L2.St)(H:Hp)(Q:VK)(h:tX .F K E (dCh p q wa wb wc) σ H Q) :
  Qsk (rI0 λi j=>.bl (p i j)) (rI0 λi j=>.bl (q i j)) (tX .P K E wa) (tX .P K E wb) (tX .P K E wc) σ H Q:=by
 obtain⟨F,δ,R,EX,rel,hw,k,o⟩:=h;refine⟨F,δ,_,EX,rel,hw,λd1 h1 x H1 rel1 kp1 x1=>⟨F,δ,_,EX,rel1,h1,λd2 h2 y H2 rel2 kp2 y2=>?_,o⟩,o⟩;cases d1<;>cases d2<;>first | exact(show False from h2).elim | skip
 rw[DP.int x1,DP.int y2];refine⟨_,_,rfl,rfl,_,rfl,QcW h2 (λz=>⟨F,δ,_,EX,rel2,z,λd3 h3 v H3 rel3 kp3 v3=>?_,o⟩) λz=>k _ z _ H2 rel2 (kp1.trans kp2) ⟨.bl _,QaN⟩⟩;cases d3<;>first | exact(show False from h3).elim | skip
 rw[DP.int v3];exact⟨_,_,rfl,rfl,k _ h3 _ H3 rel3 ((kp1.trans kp2).trans kp3) ⟨.bl _,QaN⟩⟩
theorem QAu{op op':Qtj}{p q:Int->Int->Bool}(ho:OpR X (compareOp op) (rI0 λi j=>.bl (p i j)))(ho':OpR X (compareOp op') (rI0 λi j=>.bl (q i j)))(ha:PE X a (tX .P X.K E wa))(hb:PE X b (tX .P X.K E wb))(hc:PE X c (tX .P X.K E wc))(hm:lastMarks [op,op'] [b,c]=false:=by with_unfolding_all rfl) :
  PE X (.Compare a [op,op'] [b,c] pos) (tX .F X.K E (dCh p q wa wb wc)):=PE.imp (QpL ho ho' ha hb hc (hm:=hm)) QvJ
def QBF:DAr:=λ_ Q _=>Q []
def Qok(we:DE)(wr:DAr):DAr:=λδ Q EX=>we δ (λd=>wr δ (λds=>Q (d::ds)) EX) EX
theorem Qux{m:Md}:PA X [] (tAr 0 m X.K E QBF):=PA.imp Qaj λσ H Q ⟨F,δ,R,EX,rel,hw,k,o⟩=>k [] hw rfl [] H rel (Kp.refl rel) .nil
theorem QoG{n:Nat}{m:Md}{K:PySem.W.Frag}{we:DE}{wr:DAr}(hm:∀{F:Fm}{σ:L2.St}{δ:Sts}{H H':Hp}{v:V}{d:Qa},Vok m F σ δ H H' v d->VD m (Av F σ δ) (Yh σ δ) H' v d)(σ:L2.St)(H:Hp)(Q:List V->Hp->Prop)(h:tAr (n+1) m K E (Qok we wr) σ H Q):Qlo (tX m K E we) (tAr n m K E wr) σ H Q:=by
 obtain⟨F,δ,R,EX,rel,hw,k,o⟩:=h;refine⟨F,δ,_,EX,rel,hw,λd hd v H' rel' kp vk=>⟨F,δ,_,EX,rel',hd,λds hds hl vs H2 rel2 kp2 vks=>?_,o⟩,o⟩;exact k _ hds (by rw[Qx,hl]) (v::vs) H2 rel2 (kp.trans kp2) (.cons (kp2.vd (hm vk)) vks)
theorem Qnc{n:Nat}{e:QU}{es:List QU}{we:DE}{wr:DAr}(he:PE X e (tX .D X.K E we))(hr:PA X es (tAr n .D X.K E wr))(hs:notStar e=true:=by rfl):PA X (e::es) (tAr (n+1) .D X.K E (Qok we wr)):=PA.imp (Qeg he hr hs) (QoG λh=>h)
theorem Qnb{n:Nat}{e:QU}{es:List QU}{we:DE}{wr:DAr}(he:PE X e (tX .P X.K E we))(hr:PA X es (tAr n .P X.K E wr))(hs:notStar e=true:=by rfl):PA X (e::es) (tAr (n+1) .P X.K E (Qok we wr)):=PA.imp (Qeg he hr hs) (QoG λh=>h)
theorem QdY{A P:Addr->Prop}{H:Hp}:∀{vs:List V}{ds:List Qa},Qbp (VD .D A P H) vs ds->DAs A H vs ds
 |_,_,.nil=>.nil
 |_,_,.cons a b=>.cons a (QdY b)
def QBB(w:DAr):DE:=λδ Q EX=>w δ (λds=>Q (.tuple ds)) EX
def QBG(w:DAr):DE:=λδ Q EX=>w δ (λds=>Q (.list ds)) EX
theorem Qxp{n:Nat}{es:List QU}{w:DAr}{x1}(h:PA X es (tAr n .D X.K E w))(hn:n<=1000:=by decide):PE X (.Tuple es x1 pos) (tX .F X.K E (QBB w)):=by
 refine PE.imp (Qud h) λσ H Q ⟨F,δ,R,EX,rel,hw,k,o⟩=>?_
 refine⟨F,δ,_,EX,rel,hw,λds hds hl vs H' rel' kp q=>?_,o⟩;have q':=QdY q;refine⟨by rw[q'.length,hl];exact hn,λa H2 s n e=>k _ hds _ H2 (rel'.same s) (kp.trans (Kp.same rel' s)) ⟨QhR (λa ha=>rel'.isl ha) s e q',Qfi e⟩⟩
theorem Qbu{σ:L2.St}{δ:Sts}{H H':Hp}{l:Addr}(k:Kp σ δ H H')(n:H' l=none):H l=none:=by
 cases e:H l with
 |none=>rfl
 |some ob=>
  by_cases z:Yh σ δ l
  ·obtain⟨m,em⟩:=k.2 l z;rw[em] at n;cases n
  ·rw[k.1 _ _ z e] at n;cases n
theorem Qxt{n:Nat}{es:List QU}{w:DAr}(h:PA X es (tAr n .D X.K E w))(hn:n<=1000:=by decide):PE X (.List es pos) (tX .F X.K E (QBG w)):=by
 refine PE.imp (Que h) λσ H Q ⟨F,δ,R,EX,rel,hw,k,o⟩=>?_
 refine⟨F,δ,_,EX,rel,hw,λds hds hl vs H' rel' kp q=>?_,o⟩;have q':=QdY q;refine⟨by rw[q'.length,hl];exact hn,λa H2 s n e=>k _ hds _ H2 (rel'.same s) (kp.trans (Kp.same rel' s)) ⟨Qdo (λa ha=>rel'.isl ha) s n e q',Qa5 (Qbu kp n)⟩⟩
def Qd8(r:List V->Hp->VK->Prop)(rD:List Qa->(Qa->Prop)->Prop):Prop:=∀(A P:Addr->Prop)(H:Hp)(vs:List V)(ds:List Qa)(R:Qa->Prop)(Q:VK),Qdw H->(∀a,A a->∃xs,H a=some (.lst xs))->Qbp (DP A P H) vs ds->rD ds R ->
 (∀d,R d->∀v H',Same H H'->DA A H' v d->FrV H H' v->Q v H')->r vs H Q
def dCB(rD:List Qa->(Qa->Prop)->Prop)(wa:DAr):DE:=λδ Q EX=>wa δ (λds=>rD ds Q) EX
theorem Qos{n:Nat}{K:PySem.W.Frag}{r:List V->Hp->VK->Prop}{rD:List Qa->(Qa->Prop)->Prop}{wa:DAr}(hd:Qd8 r rD)(σ:L2.St)(H:Hp)(Q:VK)(h:tX .F K E (dCB rD wa) σ H Q) :
  tCB (λxs H Q=>Qdw H->r xs H Q) (tAr n .P K E wa) σ H Q:=by
 obtain⟨F,δ,R,EX,rel,hw,k,o⟩:=h;refine⟨F,δ,_,EX,rel,hw,λds hds hl vs H' rel' kp q ln=>?_,o⟩;refine hd (Av F σ δ) (Yh σ δ) H' vs ds R Q ln (λa ha=>rel'.isl ha) q hds λd hR v H2 s dv fr=>?_
 exact k d hR v H2 (rel'.same s) (kp.trans (Kp.same rel' s)) ⟨dv,λl e1 e2=>Qbu kp (fr l e1 e2)⟩
variable{x:Str}{bid T:String}{p:Pos}{e:QU}{es:List QU}{n:Nat}{wr:DAr}{r:List V->Hp->VK->Prop}{rD:List Qa->(Qa->Prop)->Prop}
theorem Qp6(hc:CallR X (.builtin bid) r)(hd:Qd8 r rD)(hg:Gl X x)(hm:X.mg x=none)(hv:bootBuiltins x=some (.builtin bid))(ha:PA X (e::es) (tAr n .P X.K E wr))(hn:x ≠ "__name__" := by decide)(hdb:(x == ("__debug__" : Str))=false:=by decide)
  (he:starEach (e::es) X.env=(false,eval e X.env)::starEach es X.env:=by rfl)(hpl:(backTo pos (starEach es X.env)).any (·.1)=false:=by rfl):PE X (.Call (.Name x p) (e::es) [] pos) (tX .F X.K E (dCB rD wr)):=
 PE.imp (Qdn (CallR.len hc) hg hm hv ha hn hdb he hpl) (Qos hd)
theorem Qnf(hc:CallR X (.type T) r)(hd:Qd8 r rD)(hg:Gl X x)(hm:X.mg x=none)(hv:bootBuiltins x=some (.type T))(ha:PA X (e::es) (tAr n .P X.K E wr))(hn:x ≠ "__name__" := by decide)(hdb:(x == ("__debug__" : Str))=false:=by decide)
  (he:starEach (e::es) X.env=(false,eval e X.env)::starEach es X.env:=by rfl)(hpl:(backTo pos (starEach es X.env)).any (·.1)=false:=by rfl):PE X (.Call (.Name x p) (e::es) [] pos) (tX .F X.K E (dCB rD wr)):=
 PE.imp (Qdm (CallR.len hc) hg hm hv ha hn hdb he hpl) (Qos hd)
theorem pd1{A P:Addr->Prop}{H:Hp}{vs:List V}{d:Qa}(q:Qbp (DP A P H) vs [d]):∃v,vs=[v]/\DP A P H v d:=by
 cases q with
 |cons a b=>cases b;exact⟨_,rfl,a⟩
theorem pd2{A P:Addr->Prop}{H:Hp}{vs:List V}{d d':Qa}(q:Qbp (DP A P H) vs [d,d']):∃v v',vs=[v,v']/\DP A P H v d/\DP A P H v' d':=by
 cases q with
 |cons a b=>cases b with | cons b c=>cases c;exact⟨_,_,rfl,a,b⟩
def QBu:List Qa->(Qa->Prop)->Prop
 |[.list ds],Q=>Q (.int ds.length)
 |[.tuple ds],Q=>Q (.int ds.length)
 |_,_=>False
theorem QcX{K:PySem.W.Frag}:Qd8 (QwV K) QBu:=λA P H vs ds R Q ln dm q h k=>by
 unfold QBu at h;split at h
 ·obtain⟨v,rfl,hv⟩:=pd1 q;obtain⟨l,xs,rfl,e,qq⟩:=hv.list;exact⟨l,xs,rfl,.inl (SqL.of e),by rw[qq.length];exact k _ h _ H (Same.refl H) (.int _) Qa6⟩
 ·obtain⟨v,rfl,hv⟩:=pd1 q;obtain⟨l,xs,rfl,e,qq⟩:=hv.tuple;exact⟨l,xs,rfl,.inr (SqT.of e),by rw[qq.length];exact k _ h _ H (Same.refl H) (.int _) Qa6⟩
 ·exact h.elim
theorem Y8:CallR X (.builtin "len") (QwV X.K):=Qem
def Qu2:List Qa->(Qa->Prop)->Prop
 |[.int i,.int j],Q=>Q (.int (if j<i then j else i))
 |_,_=>False
theorem QvL:Qd8 (λxs H Q=>∃i j,xs=[.int i,.int j]/\Q (.int (if j<i then j else i)) H) Qu2:=λA P H vs ds R Q ln dm q h k=>by
 unfold Qu2 at h;split at h
 ·obtain⟨v,v',rfl,h1,h2⟩:=pd2 q;rw[h1.int,h2.int];exact⟨_,_,rfl,k _ h _ H (Same.refl H) (.int _) Qa6⟩
 ·exact h.elim
def Qco:List Qa->Option (List Bool)
 |[]=>some []
 |.bool b::ds=>(Qco ds).map (b::·)
 |_::_=>none
def Qcn:List Qa->Option (List Int)
 |[]=>some []
 |.int b::ds=>(Qcn ds).map (b::·)
 |_::_=>none
theorem QoC(bs:List Bool):Qco (bs.map Qbe)=some bs:=by
 induction bs with
 |nil=>rfl
 |cons b bs ih=>rw[Jc,Qco,ih];rfl
theorem ints_map(bs:List Int):Qcn (bs.map Qi)=some bs:=by
 induction bs with
 |nil=>rfl
 |cons b bs ih=>rw[Jc,Qcn,ih];rfl
theorem bools_eq:∀{ds:List Qa}{bs:List Bool},Qco ds=some bs->ds=bs.map Qbe
 |[],bs,h=>by cases h;rfl
 |d::ds,bs,h=>by
  cases d<;>first | (unfold Qco at h;cases h;done) | skip
  rw[Qco] at h;obtain⟨cs,h1,rfl⟩:=Zy.mp h;rw[bools_eq h1];rfl
theorem Qhc:∀{ds:List Qa}{bs:List Int},Qcn ds=some bs->ds=bs.map Qi
 |[],bs,h=>by cases h;rfl
 |d::ds,bs,h=>by
  cases d<;>first | (unfold Qcn at h;cases h;done) | skip
  rw[Qcn] at h;obtain⟨cs,h1,rfl⟩:=Zy.mp h;rw[Qhc h1];rfl
theorem Qiw{A:Addr->Prop}{H:Hp}:∀{bs:List Bool}{xs:List V},DAs A H xs (bs.map Qbe)->xs=bs.map V.bl
 |[],_,.nil=>rfl
 |b::bs,_,.cons (.bl _) r=>by rw[Qiw r];rfl
theorem QeQ{A:Addr->Prop}{H:Hp}:∀{bs:List Int}{xs:List V},DAs A H xs (bs.map Qi)->xs=bs.map V.int
 |[],_,.nil=>rfl
 |b::bs,_,.cons (.int _) r=>by rw[QeQ r];rfl
@[irreducible] def Qzn:List Qa->(Qa->Prop)->Prop
 |[.list ds],Q=>∃bs,Qco ds=some bs/\Q (.bool (bs.all id))
 |_,_=>False
theorem Qgo{K:PySem.W.Frag}{cm:Bool}(hc:cm=true):Qd8 (λxs H Q=>∃(p:Addr)(bs:List Bool),xs=[.ref p]/\SqL K H p (bs.map V.bl)/\cm=true/\Q (.bl (bs.all id)) H) Qzn:=λA P H vs ds R Q ln dm q h k=>by
 unfold Qzn at h;split at h
 ·obtain⟨v,rfl,hv⟩:=pd1 q;obtain⟨bs,hb,hR⟩:=h;rw[bools_eq hb] at hv;obtain⟨l,xs,rfl,e,qq⟩:=hv.list;rw[Qiw qq] at e;exact⟨l,bs,rfl,SqL.of e,hc,k _ hR _ H (Same.refl H) (.bl _) QaN⟩
 ·exact h.elim
def Qsi:List Qa->(Qa->Prop)->Prop
 |[.list ds],Q=>Q (.tuple ds)
 |[.tuple ds],Q=>Q (.tuple ds)
 |_,_=>False
def Qx7:List Qa->(Qa->Prop)->Prop
 |[.list ds],Q=>Q (.list ds)
 |[.tuple ds],Q=>Q (.list ds)
 |_,_=>False
theorem QeR{K:PySem.W.Frag}:Qd8 (QmL K) Qsi:=λA P H vs ds R Q ln dm q h k=>by
 unfold Qsi at h;split at h
 ·obtain⟨v,rfl,hv⟩:=pd1 q;obtain⟨l,xs,rfl,e,qq⟩:=hv.list;exact⟨l,xs,rfl,.inl ⟨SqL.of e,λl' H' s n e'=>k _ h _ H' s (QhR dm s e' qq) (Qfi e')⟩⟩
 ·obtain⟨v,rfl,hv⟩:=pd1 q;obtain⟨l,xs,rfl,e,qq⟩:=hv.tuple;exact⟨l,xs,rfl,.inr ⟨SqT.of e,k _ h _ H (Same.refl H) (QhR dm (Same.refl H) e qq) (Qfi e)⟩⟩
 ·exact h.elim
theorem QvM{K:PySem.W.Frag}:Qd8 (QmO K) Qx7:=λA P H vs ds R Q ln dm q h k=>by
 unfold Qx7 at h;split at h
 ·obtain⟨v,rfl,hv⟩:=pd1 q;obtain⟨l,xs,rfl,e,qq⟩:=hv.list;exact⟨l,xs,rfl,.inl (SqL.of e),λl' H' s n e'=>k _ h _ H' s (Qdo dm s n e' qq) (Qa5 n)⟩
 ·obtain⟨v,rfl,hv⟩:=pd1 q;obtain⟨l,xs,rfl,e,qq⟩:=hv.tuple;exact⟨l,xs,rfl,.inr (SqT.of e),λl' H' s n e'=>k _ h _ H' s (Qdo dm s n e' qq) (Qa5 n)⟩
 ·exact h.elim
end
section
variable{X:Cx}{E:XK}
inductive Tn where | int | bool | str | tuple | list
def Tn.s:Tn->String
 |.int => "int"
 |.bool => "bool"
 |.str => "str"
 |.tuple => "tuple"
 |.list => "list"
def isT:Tn->Qa->Bool
 |.int,.int _=>true
 |.int,.bool _=>true
 |.bool,.bool _=>true
 |.str,.str _=>true
 |.tuple,.tuple _=>true
 |.list,.list _=>true
 |_,_=>false
theorem Qvi{K:PySem.W.Frag}{A P:Addr->Prop}{H:Hp}{v:V}{d:Qa}(tn:Tn)(h:DP A P H v d):∃t,TyOf K H v t/\PySem.W.kitOne K t (.type tn.s)=some (isT tn d):=by
 rcases h with h | ⟨l,xs,ds,rfl,rfl,_,e,q⟩
 ·cases h with
  |non=>exact⟨_,.non,by cases tn<;>rfl⟩
  |bl b=>exact⟨_,.bl _,by cases tn<;>rfl⟩
  |int i=>exact⟨_,.int _,by cases tn<;>rfl⟩
  |str x c=>exact⟨_,.str _,by cases tn<;>rfl⟩
  |tup n e q=>exact⟨_,.tup e,by cases tn<;>rfl⟩
  |lst n e q=>exact⟨_,.lst e,by cases tn<;>rfl⟩
  |dct n e q=>exact⟨_,.dK e,by cases tn<;>rfl⟩
 ·exact⟨_,.lst e,by cases tn<;>rfl⟩
def QyJ(tn:Tn)(we:DE):DE:=λδ Q EX=>we δ (λd=>Q (.bool (isT tn d))) EX
theorem Quy{e f:QU}{we:DE}{p pos:Pos}(tn:Tn)(hg:Gl X "isinstance")(hm:X.mg "isinstance" = none)(he:PE X e (tX .P X.K E we))(hf:PE X f (tC (.ty tn.s)))(h1:notStar e=true:=by rfl)(h2:notStar f=true:=by rfl) :
  PE X (.Call (.Name "isinstance" p) [e,f] [] pos) (tX .F X.K E (QyJ tn we)):=by
 refine PE.imp (Qdn QjT hg hm Qht (Qeg he (Qeg hf Qaj h2) h1) (he:=ZX h1) (hpl:=by rw[ZX h2];rfl)) λσ H Q ⟨F,δ,R,EX,rel,hw,k,o⟩=>?_
 refine⟨F,δ,_,EX,rel,hw,λd hd v H' rel' kp vk=>?_,o⟩;obtain⟨t,ty,et⟩:=Qvi (K:=X.K) tn vk;exact⟨v,t,tn.s,_,rfl,ty,et,k _ hd _ H' rel' kp ⟨.bl _,QaN⟩⟩
theorem QAx{x:Str}{pos:Pos}(tn:Tn)(hg:Gl X x)(hm:X.mg x=none)(hv:bootBuiltins x=some (.type tn.s))(hn:x ≠ "__name__" := by decide)(hd:(x == ("__debug__" : Str))=false:=by decide):PE X (.Name x pos) (tC (.ty tn.s)):=Quh (v:=.ty tn.s) hg hm hv rfl hn hd
abbrev DO:=Sts->(Option Int->Prop)->XP->Prop
def tO(K:PySem.W.Frag)(E:XK)(w:DO):TO:=λσ H Q=>∃(F:Fm)(δ:Sts)(R:Option Int->Prop)(EX:XP),Rel K F σ H δ/\w δ R EX/\(∀d,R d->∀H',Rel K F σ H' δ->Kp σ δ H H'->Q d H')/\Out F E EX
def dNo:DO:=λ_ Q _=>Q none
def dSo(we:DE):DO:=λδ Q EX=>we δ (λd=>match d with
 |.int i=>Q (some i)
 |_=>False) EX
theorem PO.imp{e:Option QU}{t t':TO}(h:PO X e t)(i:∀σ H Q,t' σ H Q->t σ H Q):PO X e t':=λpins s σ H Q I q=>h pins s σ H Q I (i σ H Q q)
theorem QpW:PO X none (tO X.K E dNo):=PO.imp Qt6 λσ H Q ⟨F,δ,R,EX,rel,hw,k,o⟩=>k _ hw H rel (Kp.refl rel)
theorem QpV{e:QU}{we:DE}(he:PE X e (tX .P X.K E we)):PO X (some e) (tO X.K E (dSo we)):=by
 refine PO.imp (Qt5 he) λσ H Q ⟨F,δ,R,EX,rel,hw,k,o⟩=>?_
 refine⟨F,δ,_,EX,rel,hw,λd hd v H' rel' kp vk=>?_,o⟩;cases d<;>first | exact(show False from hd).elim | skip
 exact⟨_,DP.int vk,k _ hd H' rel' kp⟩
def cutD(xs:List Qa)(lo hi:Option Int):List Qa:=(xs.drop (HT.sIx xs.length 0 lo)).take (HT.sIx xs.length xs.length hi - HT.sIx xs.length 0 lo)
theorem Qom{A:Addr->Prop}{H:Hp}{xs:List V}{ds:List Qa}(q:DAs A H xs ds)(lo hi:Option Int):DAs A H (Qk0 xs lo hi) (cutD ds lo hi):=by
 unfold Qk0 cutD;rw[q.length];exact(q.drop _).take _
def slD(d:Qa)(lo hi:Option Int)(Q:Qa->Prop):Prop:=
 match d with
 |.list ds=>Q (.list (cutD ds lo hi))
 |.tuple ds=>Q (.tuple (cutD ds lo hi))
 |_=>False
def dSl(we:DE)(wl wh:DO):DE:=λδ Q EX=>we δ (λd=>wl δ (λlo=>wh δ (λhi=>slD d lo hi Q) EX) EX) EX
def QwS(K:PySem.W.Frag):V->Option Int->Option Int->Hp->VK->Prop:=λx a b H Q=>QBg x a b H Q∨QwR K x a b H Q
theorem Qp3{e:QU}{lo hi:Option QU}{we:DE}{wl wh:DO}{p2 pos:Pos}(he:PE X e (tX .P X.K E we))(hl:PO X lo (tO X.K E wl))(hh:PO X hi (tO X.K E wh)):PE X (.Subscript e (.Slice lo hi none p2) pos) (tX .F X.K E (dSl we wl wh)):=by
 refine PE.imp (QpH (r:=QwS X.K) (SlR.or2 QwG Qpe) he hl hh) λσ H Q ⟨F,δ,R,EX,rel,hw,k,o⟩=>?_
 refine⟨F,δ,_,EX,rel,hw,λd hd v H1 rel1 kp1 vk=>⟨F,δ,_,EX,rel1,hd,λa ha H2 rel2 kp2=>⟨F,δ,_,EX,rel2,ha,λb hb H3 rel3 kp3=>?_,o⟩,o⟩,o⟩;have v3:=kp3.dp (kp2.dp vk);have K3:=(kp1.trans kp2).trans kp3;cases d<;>first | exact(show False from hb).elim | skip
 ·obtain⟨l,xs,rfl,e,q⟩:=DP.list v3;exact .inr ⟨l,xs,rfl,SqL.of e,λp H' s n e'=>k _ hb _ H' (rel3.same s) (K3.trans (Kp.same rel3 s)) ⟨Qdo (λa ha=>rel3.isl ha) s n e' (Qom q _ _),Qa5 (Qbu K3 n)⟩⟩
 ·obtain⟨l,xs,rfl,e,q⟩:=DP.tuple v3;exact .inl ⟨l,xs,rfl,e,λp H' s e'=>k _ hb _ H' (rel3.same s) (K3.trans (Kp.same rel3 s)) ⟨QhR (λa ha=>rel3.isl ha) s e' (Qom q _ _),Qfi e'⟩⟩
abbrev DF:=List Sl->(Qa->Prop)->XP->Prop
def Kq(pt:Addr->Prop)(H H':Hp):Prop:=(∀b o,¬pt b->H b=some o->H' b=some o)/\∀p,pt p->∃n,H' p=some (.lst [.int n])
def Zw(fr:Bool)(f:DF):Sp:=λvs H Q Ex=>∃(A pt:Addr->Prop)(args:List Sl)(R:Qa->Prop)(EX:XP),(∀a,A a->∃xs,H a=some (.lst xs))/\(∀p,pt p->A p/\∃n,H p=some (.lst [.int n]))/\Qbp (QlY A pt H) vs args/\f args R EX /\
 (∀d,R d->∀v H',Kq pt H H'->DA A H' v d->(fr=true->FrV H H' v)->Q v H')/\∀C,EX C->∀H',Kq pt H H'->Ex (.ref C) none H'
def QBf:DSl:=λ_ Q _=>Q []
def sV(we:DE)(wr:DSl):DSl:=λδ Q EX=>we δ (λd=>wr δ (λds=>Q (.v d::ds)) EX) EX
theorem Quq:PA X [] (tAs X.K E QBf):=PA.imp Qaj λσ H Q ⟨F,δ,R,EX,rel,hw,k,o⟩=>k [] hw [] H rel (Kp.refl rel) .nil
theorem QAq{e:QU}{es:List QU}{we:DE}{wr:DSl}(he:PE X e (tX .D X.K E we))(hr:PA X es (tAs X.K E wr))(hs:notStar e=true:=by rfl):PA X (e::es) (tAs X.K E (sV we wr)):=by
 refine PA.imp (Qeg he hr hs) λσ H Q ⟨F,δ,R,EX,rel,hw,k,o⟩=>?_
 refine⟨F,δ,_,EX,rel,hw,λd hd v H' rel' kp vk=>⟨F,δ,_,EX,rel',hd,λds hds vs H2 rel2 kp2 vks=>?_,o⟩,o⟩;exact k _ hds (v::vs) H2 rel2 (kp.trans kp2) (.cons (kp2.da vk) vks)
def Qol(f:DF)(wa:DSl):DE:=λδ Q EX=>wa δ (λargs=>f args Q EX) EX
theorem Kq.kp{K:PySem.W.Frag}{F:Fm}{σ:L2.St}{δ:Sts}{H H':Hp}(k:Kq (Yh σ δ) H H'):Kp σ δ H H':=k
theorem QiC{m:Md}{fr:Bool}{K:PySem.W.Frag}{f:DF}{wa:DSl}(hm:∀{F:Fm}{σ:L2.St}{δ:Sts}{H H':Hp}{v:V}{d:Qa},DA (Av F σ δ) H' v d->(fr=true->FrV H H' v)->Vok m F σ δ H H' v d)(σ:L2.St)(H:Hp)(Q:VK)(h:tX m K E (Qol f wa) σ H Q):Qwx (Zw fr f) [] E (tAs K E wa) σ H Q:=by
 obtain⟨F,δ,R,EX,rel,hw,k,o⟩:=h;refine⟨F,δ,_,EX,rel,hw,λargs ha vs H1 rel1 kp1 q=>?_,o⟩;show Zw fr f (vs++[]) H1 Q E;rw[JX];refine⟨Av F σ δ,Yh σ δ,args,R,EX,λa ha=>rel1.isl ha,λp hp=>⟨Y7 hp,(Kp.refl rel1).2 p hp⟩,q,ha,λd hd v H' kq dv fr=>?_,λC hC H' kq=>o C hC H' (rel1.kp kq).ke⟩;exact k d hd v H' (rel1.kp kq) (kp1.trans kq) (hm dv λz l e1 e2=>Qbu kp1 (fr z l e1 e2))
variable{CX:CXT}{k:Nat}{f:Addr}{fd:Q2}{ps:List Str}{x:Str}{p pos:Pos}{e:QU}{es:List QU}{fD:DF}{wa:DSl}
theorem QuB(G:FnOk X.prog X.w X.K X.mg X.base CX k f fd ps (Zw false fD))(hr:Room k X.A)(hg:Gl X x)(hm:X.mg x=some (.ref f))(hk:PySem.W.keepIn X.K (.ref f)=true)(hb:Binds X.K fd ps [])(hx:Qfs CX X E)
  (ha:PA X (e::es) (tAs X.K E wa))(hdb:(x == ("__debug__" : Str))=false:=by decide)(he:starEach (e::es) X.env=(false,eval e X.env)::starEach es X.env:=by rfl)(hpl:(backTo pos (starEach es X.env)).any (·.1)=false:=by rfl) :
  PE X (.Call (.Name x p) (e::es) [] pos) (tX .D X.K E (Qol fD wa)):=PE.imp (Qjo G hr hg hm hk hb .nil hx ha hdb he hpl) (QiC λh _=>h)
theorem Qp5(G:FnOk X.prog X.w X.K X.mg X.base CX k f fd ps (Zw true fD))(hr:Room k X.A)(hg:Gl X x)(hm:X.mg x=some (.ref f))(hk:PySem.W.keepIn X.K (.ref f)=true)(hb:Binds X.K fd ps [])(hx:Qfs CX X E)
  (ha:PA X (e::es) (tAs X.K E wa))(hdb:(x == ("__debug__" : Str))=false:=by decide)(he:starEach (e::es) X.env=(false,eval e X.env)::starEach es X.env:=by rfl)(hpl:(backTo pos (starEach es X.env)).any (·.1)=false:=by rfl) :
  PE X (.Call (.Name x p) (e::es) [] pos) (tX .F X.K E (Qol fD wa)):=PE.imp (Qjo G hr hg hm hk hb .nil hx ha hdb he hpl) (QiC λh z=>⟨h,z rfl⟩)
end
abbrev DG:=Qa->Sts->(Sts->Prop)->Prop
def tG(ix:List Nat)(K:PySem.W.Frag)(w:DG):TG:=λv σ H Q=>∃(F:Fm)(δ:Sts)(d:Qa)(R:Sts->Prop),Rel K F σ H δ/\DA (Av F σ δ) H v d/\w d δ R /\
 ∀δ',R δ'->∀σ',Rel K F σ' H δ'->Stp F σ H δ σ' H δ'->σ'.length=σ.length->(∀j,j∉ix->σ'[j]? = σ[j]?)->Q σ' H
theorem QaL{α:Type}{l:List α}{i j:Nat}{x:α}(h:j≠i):(l.set i x)[j]? = l[j]? := QdC (QcP h)
theorem set_eq{α:Type}{l:List α}{i:Nat}{x y:α}(h:(l.set i x)[i]? = some y):y=x:=by
 rw[Qse] at h;simp only[if_true] at h;split at h
 ·exact(Qt h).symm
 ·cases h
theorem Qfp{F:Fm}{σ:L2.St}{δ:Sts}{i:Nat}{o:Option V}{d:Qa}{a:Addr}(h:Av F (σ.set i o) (δ.set i (.v d)) a):Av F σ δ a:=by
 rcases h with h | ⟨j,h1,h2⟩
 ·exact .inl h
 ·by_cases z:j=i
  ·subst z;rcases h2 with h2 | ⟨ds,h2⟩<;>cases set_eq h2
  ·rw[QaL z] at h1 h2;exact .inr ⟨j,h1,h2⟩
theorem Rel.setv{K:PySem.W.Frag}{F:Fm}{σ:L2.St}{H:Hp}{δ:Sts}(r:Rel K F σ H δ){i:Nat}{v:V}{d:Qa}(q:DA (Av F σ δ) H v d):Rel K F (σ.set i (some v)) H (δ.set i (.v d)) where
 len:=by rw[Yo,Yo];exact r.len
 dom:=r.dom
 dom0:=r.dom0
 pt0:=r.pt0
 kx:=r.kx
 sl:=λj o x h1 h2=>by
  have wk:∀{v:V}{d':Qa},DA (Av F σ δ) H v d'->DA (Av F (σ.set i (some v)) (δ.set i (.v d))) H v d':=λh=>h.mv (λ_ _ _ e=>e) λa z=>.inl (Qfp z)
  by_cases z:j=i
  ·subst z;cases set_eq h1;cases set_eq h2;exact⟨v,rfl,q.mv (λ_ _ _ e=>e) λa z=>.inl (Qfp z)⟩
  ·rw[QaL z] at h1 h2;have h:=r.sl j o x h1 h2;cases x with
   |no=>trivial
   |v d=>obtain⟨v',e,q'⟩:=h;exact⟨v',e,q'.mv (λ_ _ _ e=>e) λa z=>.inl (Qfp z)⟩
   |own ds=>obtain⟨l,xs,e,e2,q',f⟩:=h;exact⟨l,xs,e,e2,q'.mv (λ_ _ _ e=>e) λa z=>.inl (Qfp z),f⟩
   |pk ds=>obtain⟨l,xs,e,e2,q',f⟩:=h;exact⟨l,xs,e,e2,q'.mv (λ_ _ _ e=>e) λa z=>.inl (Qfp z),f⟩
   |pot=>exact h
   |scr=>exact h
 inj:=λj k a ds h1 h2 ⟨h3,h4⟩=>by
  by_cases z:j=i
  ·subst z;cases set_eq h1
  ·rw[QaL z] at h1 h2;by_cases z2:k=i
   ·subst z2;rcases h4 with h4 | ⟨ds,h4⟩<;>cases set_eq h4
   ·rw[QaL z2] at h3 h4;exact r.inj j k a ds h1 h2 ⟨h3,h4⟩
theorem Stp.setv{F:Fm}{σ:L2.St}{H:Hp}{δ:Sts}{i:Nat}{o:Option V}{d:Qa}:Stp F σ H δ (σ.set i o) H (δ.set i (.v d)):=⟨λ_ _ _ e=>e,λa z=>.inl (Qfp z)⟩
def gN(i:Nat):DG:=λd δ Q=>Q (δ.set i (.v d))
def Qe2:Sts->List Nat->List Qa->Sts
 |δ,i::is,d::ds=>Qe2 (δ.set i (.v d)) is ds
 |δ,_,_=>δ
def gTN(is:List Nat):DG:=λd δ Q=>match d with
 |.tuple ds=>ds.length=is.length/\Q (Qe2 δ is ds)
 |_=>False
section
variable{X:Cx}{E:XK}
theorem PG.imp{e:QU}{t t':TG}(h:PG X e t)(i:∀v σ H Q,t' v σ H Q->t v σ H Q):PG X e t':=λpins s σ H v u Q I r q=>h pins s σ H v u Q I r (i v σ H Q q)
theorem Qp2{e:QU}{i:Nat}(h:PG X e (Qir i)):PG X e (tG [i] X.K (gN i)):=PG.imp h λv σ H Q ⟨F,δ,d,R,rel,dv,hw,k⟩=>
 k _ hw _ (rel.setv dv) Stp.setv (Yo ..) λj hj=>QaL λz=>hj (by rw[z];exact Q6.mpr rfl)
def gNs:List Nat->TGs
 |[]=>QBx
 |i::is=>Qyr (Qir i) (gNs is)
theorem QkU{K:PySem.W.Frag}{F:Fm}{H:Hp}{Q:L2.St->Hp->Prop}:∀(is:List Nat)(vs:List V)(ds:List Qa)(σ:L2.St)(δ:Sts),ds.length=is.length->Rel K F σ H δ->DAs (Av F σ δ) H vs ds ->
  (∀σ',Rel K F σ' H (Qe2 δ is ds)->Stp F σ H δ σ' H (Qe2 δ is ds)->σ'.length=σ.length->(∀j,j∉is->σ'[j]? = σ[j]?)->Q σ' H)->gNs is vs σ H Q
 |[],vs,ds,σ,δ,hl,rel,q,k=>by
  cases ds with
  |nil=>cases q;exact⟨rfl,k σ rel Stp.refl rfl λ_ _=>rfl⟩
  |cons d ds=>cases hl
 |i::is,vs,ds,σ,δ,hl,rel,q,k=>by
  cases ds with
  |nil=>cases hl
  |cons d ds=>
   cases q with
   |@cons v vs _ _ q qs=>
    refine⟨v,vs,rfl,?_⟩;refine QkU is vs ds _ _ (by simpa using hl) (rel.setv q) (qs.mv (λ_ _ _ e=>e) λa z=>.inl (Qfp z)) λσ' r' st hl' hj=>?_
    refine k σ' r' (Stp.setv.trans st) (by rw[hl',Yo]) λj hn=>?_
    rw[hj j (λz=>hn (QH _ z)),QaL (λz=>hn (by rw[z];exact Jm))]
theorem Quw{e:QU}{n:Nat}{is:List Nat}(h:PG X e (QBw X.K n (gNs is)))(hn:is.length=n:=by rfl):PG X e (tG is X.K (gTN is)):=PG.imp h λv σ H Q ⟨F,δ,d,R,rel,dv,hw,k⟩=>by
 unfold gTN at hw;split at hw
 ·obtain⟨hl,hR⟩:=hw;cases dv with
  |@tup a xs ds na e q=>
   exact⟨a,xs,rfl,SqT.of e,by rw[q.length,hl,hn],QkU is xs _ σ δ hl rel q λσ' r' st hl' hj=>k _ hR σ' r' st hl' hj⟩
 ·exact hw.elim
def ItD(A S:Addr->Prop)(J:It)(items:List Qa)(H1:Hp):Prop:=items.length<=sizeLine/\∀(H2:Hp)(A':Addr->Prop),(∀b o,S b->H1 b=some o->H2 b=some o)->(∀b,A' b->A b∨H1 b=none)->(∀a,A' a->∃xs,H2 a=some (.lst xs)) ->
 (∀(i:Nat) d,items[i]? = some d->J.go i H2/\∀x H3,J.yld i H2 x H3->Same H2 H3/\DA A' H3 x d)/\J.stop items.length H2
def Sx(m:Md)(F:Fm)(σ:L2.St)(δ:Sts)(b:Addr):Prop:=
 match m with
 |.P=>¬Yh σ δ b
 |_=>¬Av F σ δ b
abbrev DI:=Sts->(List Qa->Prop)->XP->Prop
def tI(m:Md)(K:PySem.W.Frag)(E:XK)(w:DI):TI:=λσ H R=>∃(F:Fm)(δ:Sts)(R':List Qa->Prop)(EX:XP),Rel K F σ H δ/\w δ R' EX/\(∀items,R' items->∀J H',Rel K F σ H' δ->Kp σ δ H H'->ItD (Av F σ δ) (Sx m F σ δ) J items H'->R J H')/\Out F E EX
theorem PI.imp{tg e:QU}{t t':TI}(h:PI X tg e t)(i:∀σ H R,Qdw H->t' σ H R->t σ H R):PI X tg e t':=λpins s σ H R I q=>h pins s σ H R I (i σ H R (Inv.lens I) q)
theorem PI.len{tg e:QU}{t:TI}(h:PI X tg e t):PI X tg e (λσ H R=>t σ H λJ H1=>Qdw H1->R J H1):=λpins s σ H R I q=>by
 refine thn (h pins s σ H _ I q) λv s1 h1=>thn h1 λitv s2 h2=>?_
 obtain⟨it,fp,tn,J,H',e,I',T,t0,fo,hR⟩:=h2;exact⟨it,fp,tn,J,H',e,I',T,t0,fo,hR (Inv.lens I')⟩
def QBI(w:DE):DI:=λδ Q EX=>w δ (λd=>match d with
 |.list ds=>Q ds
 |_=>False) EX
def QBH(w:DE):DI:=λδ Q EX=>w δ (λd=>match d with
 |.tuple ds=>Q ds
 |_=>False) EX
theorem QbN{A S:Addr->Prop}{H H2:Hp}{A':Addr->Prop}{xs:List V}{ds:List Qa}(sA:∀b,¬A b->S b)(k:∀b o,S b->H b=some o->H2 b=some o)(m:∀b,A' b->A b∨H b=none)(q:DAs A H xs ds):DAs A' H2 xs ds:=q.mv (λa o n e=>k a o (sA a n) e) m
theorem QAM{K:PySem.W.Frag}{A S:Addr->Prop}{H:Hp}{l:Addr}{xs:List V}{ds:List Qa}(sA:∀b,¬A b->S b)(sl:S l)(e:H l=some (.lst xs))(q:DAs A H xs ds)(ln:xs.length<=sizeLine):ItD A S (Itl K l) ds H:=by
 refine⟨by rw[<- q.length];exact ln,λH2 A' k m dm=>⟨λi d hd=>?_,xs,SqL.of (k _ _ sl e),by rw[q.length];exact Qh _⟩⟩;obtain⟨x,hx,dx⟩:=(QbN sA k m q).get i d hd;refine⟨⟨xs,x,SqL.of (k _ _ sl e),hx⟩,λy H3 ⟨e3,hy⟩=>?_⟩;subst e3;have:=hy xs (SqL.of (k _ _ sl e));rw[hx] at this;cases this;exact⟨Same.refl _,dx⟩
theorem QAL{K:PySem.W.Frag}{A S:Addr->Prop}{H:Hp}{l:Addr}{xs:List V}{ds:List Qa}(sA:∀b,¬A b->S b)(sl:S l)(e:H l=some (.tup xs))(q:DAs A H xs ds)(ln:xs.length<=sizeLine):ItD A S (Itt K l) ds H:=by
 refine⟨by rw[<- q.length];exact ln,λH2 A' k m dm=>⟨λi d hd=>?_,xs,SqT.of (k _ _ sl e),by rw[q.length];exact Qh _⟩⟩;obtain⟨x,hx,dx⟩:=(QbN sA k m q).get i d hd;refine⟨⟨xs,x,SqT.of (k _ _ sl e),hx⟩,λy H3 ⟨e3,hy⟩=>?_⟩;subst e3;have:=hy xs (SqT.of (k _ _ sl e));rw[hx] at this;cases this;exact⟨Same.refl _,dx⟩
theorem QgM{m:Md}{F:Fm}{σ:L2.St}{δ:Sts}{b:Addr}(h:¬Av F σ δ b):Sx m F σ δ b:=by
 cases m
 ·exact h
 ·exact λz=>h (Y7 z)
 ·exact h
theorem stL{m:Md}{F:Fm}{σ:L2.St}{δ:Sts}{H H':Hp}{v:V}{ds:List Qa}(h:VD m (Av F σ δ) (Yh σ δ) H v (.list ds)):∃l xs,v=.ref l/\Sx m F σ δ l/\H l=some (.lst xs)/\DAs (Av F σ δ) H xs ds:=by
 cases m
 ·cases h with | @lst a xs _ n e q=>exact⟨a,xs,rfl,n,e,q⟩
 ·rcases h with h | ⟨l,xs,ds',rfl,e,n,e2,q⟩
  ·cases h with | @lst a xs _ n e q=>exact⟨a,xs,rfl,QgM n,e,q⟩
  ·cases e;exact⟨l,xs,rfl,n,e2,q⟩
 ·cases h with | @lst a xs _ n e q=>exact⟨a,xs,rfl,n,e,q⟩
theorem stT{m:Md}{F:Fm}{σ:L2.St}{δ:Sts}{H H':Hp}{v:V}{ds:List Qa}(h:VD m (Av F σ δ) (Yh σ δ) H v (.tuple ds)):∃l xs,v=.ref l/\Sx m F σ δ l/\H l=some (.tup xs)/\DAs (Av F σ δ) H xs ds:=by
 cases m
 ·cases h with | @tup a xs _ n e q=>exact⟨a,xs,rfl,n,e,q⟩
 ·rcases h with h | ⟨l,xs,ds',rfl,e,n,e2,q⟩
  ·cases h with | @tup a xs _ n e q=>exact⟨a,xs,rfl,QgM n,e,q⟩
  ·cases e
 ·cases h with | @tup a xs _ n e q=>exact⟨a,xs,rfl,n,e,q⟩
theorem QeZ{m:Md}{F:Fm}{σ:L2.St}{δ:Sts}{H H':Hp}{v:V}{d:Qa}(h:Vok m F σ δ H H' v d):VD m (Av F σ δ) (Yh σ δ) H' v d:=by
 cases m
 ·exact h
 ·exact h
 ·exact h.1
variable{m:Md}{tg e e':QU}{w w':DE}{p pos tpos:Pos}
theorem Qp1(h:PE X e (tX m X.K E w)):PI X tg e (tI m X.K E (QBI w)):=by
 refine PI.imp (PI.len (Qt9 h)) λσ H R _ ⟨F,δ,R',EX,rel,hw,k,o⟩=>?_
 refine⟨F,δ,_,EX,rel,hw,λd hd v H' rel' kp vk=>?_,o⟩;cases d<;>first | exact(show False from hd).elim | skip
 obtain⟨l,xs,rfl,sl,e,q⟩:=stL (H':=H') (QeZ vk);exact⟨l,rfl,⟨xs,SqL.of e⟩,λln=>k _ hd _ H' rel' kp (QAM (λb=>QgM) sl e q (ln _ _ (.inl e)))⟩
theorem Quv(h:PE X e (tX m X.K E w)):PI X tg e (tI m X.K E (QBH w)):=by
 refine PI.imp (PI.len (Qxe h)) λσ H R _ ⟨F,δ,R',EX,rel,hw,k,o⟩=>?_
 refine⟨F,δ,_,EX,rel,hw,λd hd v H' rel' kp vk=>?_,o⟩;cases d<;>first | exact(show False from hd).elim | skip
 obtain⟨l,xs,rfl,sl,e,q⟩:=stT (H':=H') (QeZ vk);exact⟨l,rfl,⟨xs,SqT.of e⟩,λln=>k _ hd _ H' rel' kp (QAL (λb=>QgM) sl e q (ln _ _ (.inr e)))⟩
def Qjh(lo:Int)(n:Nat):List Qa:=(Qq n).map λ(i:Nat)=>.int (lo+i)
theorem Qc1{lo:Int}{n i:Nat}{d:Qa}(h:(Qjh lo n)[i]? = some d):i<n/\d=.int (lo+i):=by
 unfold Qjh at h;rw[QB] at h;by_cases z:i<n
 ·rw[JT z] at h;exact⟨z,(Qt h).symm⟩
 ·rw[Js (by rw[QV];omega)] at h;cases h
theorem Qjg{lo:Int}{n:Nat}:(Qjh lo n).length=n:=by unfold Qjh;rw[Qf,QV]
theorem Qyi{A S:Addr->Prop}{H:Hp}{lo:Int}{n:Nat}(hn:n<=1000000):ItD A S (Itr lo n) (Qjh lo n) H:=by
 refine⟨by rw[Qjg];exact Q1 hn Qij,λH2 A' k m dm=>⟨λi d hd=>?_,by rw[Qjg];exact Qh _⟩⟩;obtain⟨hi,rfl⟩:=Qc1 hd;exact⟨hi,λx H3 ⟨e1,e2⟩=>by subst e1 e2;exact⟨Same.refl _,.int _⟩⟩
def QyF(w:DE):DI:=λδ Q EX=>w δ (λd=>match d with
 |.int j=>(-1000000<=j/\j<=1000000)/\Q (Qjh 0 j.toNat)
 |_=>False) EX
def QyE(w w':DE):DI:=λδ Q EX=>w δ (λd=>w' δ (λd'=>match d,d' with
 |.int i,.int j=>(-1000000<=i/\i<=1000000 /\ -1000000<=j/\j<=1000000/\j - i<=1000000)/\Q (Qjh i (j - i).toNat)
 |_,_=>False) EX) EX
theorem Qp0(hg:Gl X "range")(hm:X.mg "range" = none)(h:PE X e (tX .P X.K E w))(hs:notStar e=true:=by rfl):PI X tg (.Call (.Name "range" p) [e] [] pos) (tI m X.K E (QyF w)):=by
 refine PI.imp (Qm6 hg hm (Qeg h Qaj hs) (by rw[ZX hs];rfl)) λσ H R _ ⟨F,δ,R',EX,rel,hw,k,o⟩=>?_
 refine⟨F,δ,_,EX,rel,hw,λd hd v H' rel' kp vk=>?_,o⟩;cases d<;>first | exact(show False from hd).elim | skip
 obtain⟨⟨h1,h2⟩,hR⟩:=hd;rw[DP.int vk];exact⟨_,rfl,by omega,by omega,k _ hR _ H' rel' kp (Qyi (by omega))⟩
theorem QpZ(hg:Gl X "range")(hm:X.mg "range" = none)(h:PE X e (tX .P X.K E w))(h':PE X e' (tX .P X.K E w'))(hs:notStar e=true:=by rfl)(hs':notStar e'=true:=by rfl):PI X tg (.Call (.Name "range" p) [e,e'] [] pos) (tI m X.K E (QyE w w')):=by
 refine PI.imp (Qm5 hg hm (Qeg h (Qeg h' Qaj hs') hs) (by rw[ZX hs,ZX hs'];rfl) (hs2:=by rw[ZX hs'];rfl)) λσ H R _ ⟨F,δ,R',EX,rel,hw,k,o⟩=>?_
 refine⟨F,δ,_,EX,rel,hw,λd hd v H1 rel1 kp1 vk=>⟨F,δ,_,EX,rel1,hd,λd2 hd2 v2 H2 rel2 kp2 vk2=>?_,o⟩,o⟩;cases d<;>cases d2<;>first | exact(show False from hd2).elim | skip
 obtain⟨⟨h1,h2,h3,h4,h5⟩,hR⟩:=hd2;rw[DP.int vk,DP.int vk2];exact⟨_,_,rfl,⟨by omega,by omega,by omega,by omega⟩,k _ hR _ H2 rel2 (kp1.trans kp2) (Qyi (by omega))⟩
theorem Qjt{A':Addr->Prop}{H2:Hp}{r:Addr}{x y:V}{d d':Qa}(dm:∀a,A' a->∃xs,H2 a=some (.lst xs))(n:H2 r=none)(q:DA A' H2 x d)(q':DA A' H2 y d'):DA A' (upd H2 r (.tup [x,y])) (.ref r) (.tuple [d,d']):=
 .tup (λz=>by obtain⟨xs,e⟩:=dm r z;rw[n] at e;cases e) JQ (.cons (q.same (JL n)) (.cons (q'.same (JL n)) .nil))
def QfJ(ds:List Qa):List Qa:=(Qq ds.length).map λ(i:Nat)=>.tuple [.int i,ds.getD i .none]
theorem QeP{ds:List Qa}{i:Nat}{d:Qa}(h:(QfJ ds)[i]? = some d):∃e,ds[i]? = some e/\d=.tuple [.int i,e]:=by
 unfold QfJ at h;rw[QB] at h;by_cases z:i<ds.length
 ·rw[JT z] at h;refine⟨ds[i],Qo z,?_⟩;rw[<- Qt h];show ZW [.int i,ds.getD i .none]=_;rw[Jx,Qo z];rfl
 ·rw[Js (by rw[QV];omega)] at h;cases h
theorem QeO{ds:List Qa}:(QfJ ds).length=ds.length:=by unfold QfJ;rw[Qf,QV]
def QBK(w:DE):DI:=λδ Q EX=>w δ (λd=>match d with
 |.list ds=>Q (QfJ ds)
 |_=>False) EX
variable{elts:List QU}
theorem Qna{x1}(hg:Gl X "enumerate")(hm:X.mg "enumerate" = none)(h:PE X e (tX m X.K E w))(hs:notStar e=true:=by rfl):PI X (.Tuple elts x1 tpos) (.Call (.Name "enumerate" p) [e] [] pos) (tI m X.K E (QBK w)):=by
 refine PI.imp (PI.len (Qua hg hm (Qeg h Qaj hs) (by rw[ZX hs];rfl))) λσ H R _ ⟨F,δ,R',EX,rel,hw,k,o⟩=>?_
 refine⟨F,δ,_,EX,rel,hw,λd hd v H' rel' kp vk=>?_,o⟩;cases d<;>first | exact(show False from hd).elim | skip
 obtain⟨l,xs,rfl,sl,e,q⟩:=stL (H':=H') (QeZ vk);refine⟨l,xs,rfl,e,λln=>k _ hd _ H' rel' kp ⟨by rw[QeO,<- q.length];exact ln _ _ (.inl e),λH2 A' kk mm dm=>⟨λi d hd'=>?_,xs,kk _ _ sl e,by rw[QeO,q.length];exact Qh _⟩⟩⟩;obtain⟨d',hd2,rfl⟩:=QeP hd';obtain⟨x,hx,dx⟩:=(QbN (S:=Sx m F σ δ) (λb=>QgM) kk mm q).get i d' hd2;refine⟨⟨xs,x,kk _ _ sl e,hx⟩,λy H3 ⟨r,x',nr,hx',e1,e2⟩=>?_⟩;subst e1 e2;have:=hx' xs (kk _ _ sl e);rw[hx] at this;cases this;exact⟨JL nr,Qjt dm nr (.int _) dx⟩
def QgF(ds es:List Qa):List Qa:=QlZ (λd e=>.tuple [d,e]) ds es
theorem zip_get{ds es:List Qa}{i:Nat}{d:Qa}(h:(QgF ds es)[i]? = some d):∃a b,ds[i]? = some a/\es[i]? = some b/\d=.tuple [a,b]:=by
 unfold QgF at h;rw[List.getElem?_zipWith] at h;cases h1:ds[i]? with
 |none=>rw[h1] at h;cases h
 |some a=>
  cases h2:es[i]? with
  |none=>rw[h1,h2] at h;cases h
  |some b=>rw[h1,h2] at h;exact⟨a,b,rfl,rfl,(Qt h).symm⟩
theorem QgE{ds es:List Qa}:(QgF ds es).length=min ds.length es.length:=by unfold QgF;rw[QoS]
def QBA(w w':DE):DI:=λδ Q EX=>w δ (λd=>w' δ (λd'=>match d,d' with
 |.list ds,.list es=>Q (QgF ds es)
 |_,_=>False) EX) EX
def QBz(w w':DE):DI:=λδ Q EX=>w δ (λd=>w' δ (λd'=>match d,d' with
 |.tuple ds,.tuple es=>Q (QgF ds es)
 |_,_=>False) EX) EX
theorem QpY{x1}(hg:Gl X "zip")(hm:X.mg "zip" = none)(h:PE X e (tX m X.K E w))(h':PE X e' (tX m X.K E w'))(hs:notStar e=true:=by rfl)(hs':notStar e'=true:=by rfl):PI X (.Tuple elts x1 tpos) (.Call (.Name "zip" p) [e,e'] [] pos) (tI m X.K E (QBA w w')):=by
 refine PI.imp (PI.len (Qt8 hg hm (Qeg h (Qeg h' Qaj hs') hs) (by rw[ZX hs,ZX hs'];rfl) (hs2:=by rw[ZX hs'];rfl))) λσ H R _ ⟨F,δ,R',EX,rel,hw,k,o⟩=>?_
 refine⟨F,δ,_,EX,rel,hw,λd hd v H1 rel1 kp1 vk=>⟨F,δ,_,EX,rel1,hd,λd2 hd2 v2 H2 rel2 kp2 vk2=>?_,o⟩,o⟩;cases d<;>cases d2<;>first | exact(show False from hd2).elim | skip
 obtain⟨l,xs,rfl,sl,e,q⟩:=stL (H':=H2) (kp2.vd (QeZ vk));obtain⟨l2,ys,rfl,sl2,e2,q2⟩:=stL (H':=H2) (QeZ vk2);refine⟨l,l2,xs,ys,rfl,e,e2,λln=>k _ hd2 _ H2 rel2 (kp1.trans kp2) ⟨?_,λH3 A' kk mm dm=>⟨λi d hd'=>?_,xs,ys,kk _ _ sl e,kk _ _ sl2 e2,by rw[QgE,q.length,q2.length];omega⟩⟩⟩
 ·rw[QgE,<- q.length];exact Q1 (Qwg _ _) (ln _ _ (.inl e))
 obtain⟨a,b,ha,hb,rfl⟩:=zip_get hd';obtain⟨x,hx,dx⟩:=(QbN (S:=Sx m F σ δ) (λb=>QgM) kk mm q).get i a ha;obtain⟨y,hy,dy⟩:=(QbN (S:=Sx m F σ δ) (λb=>QgM) kk mm q2).get i b hb;refine⟨⟨xs,ys,x,y,kk _ _ sl e,kk _ _ sl2 e2,hx,hy⟩,λz H4 ⟨r,x',y',nr,hx',hy',e1,e3⟩=>?_⟩;subst e1 e3;have h1:=hx' xs (kk _ _ sl e);have h2:=hy' ys (kk _ _ sl2 e2);rw[hx] at h1;rw[hy] at h2;cases h1;cases h2;exact⟨JL nr,Qjt dm nr dx dy⟩
theorem QpX{x1}(hg:Gl X "zip")(hm:X.mg "zip" = none)(h:PE X e (tX m X.K E w))(h':PE X e' (tX m X.K E w'))(hs:notStar e=true:=by rfl)(hs':notStar e'=true:=by rfl):PI X (.Tuple elts x1 tpos) (.Call (.Name "zip" p) [e,e'] [] pos) (tI m X.K E (QBz w w')):=by
 refine PI.imp (PI.len (Qxd hg hm (Qeg h (Qeg h' Qaj hs') hs) (by rw[ZX hs,ZX hs'];rfl) (hs2:=by rw[ZX hs'];rfl))) λσ H R _ ⟨F,δ,R',EX,rel,hw,k,o⟩=>?_
 refine⟨F,δ,_,EX,rel,hw,λd hd v H1 rel1 kp1 vk=>⟨F,δ,_,EX,rel1,hd,λd2 hd2 v2 H2 rel2 kp2 vk2=>?_,o⟩,o⟩;cases d<;>cases d2<;>first | exact(show False from hd2).elim | skip
 obtain⟨l,xs,rfl,sl,e,q⟩:=stT (H':=H2) (kp2.vd (QeZ vk));obtain⟨l2,ys,rfl,sl2,e2,q2⟩:=stT (H':=H2) (QeZ vk2);refine⟨l,l2,xs,ys,rfl,e,e2,λln=>k _ hd2 _ H2 rel2 (kp1.trans kp2) ⟨?_,λH3 A' kk mm dm=>⟨λi d hd'=>?_,xs,ys,kk _ _ sl e,kk _ _ sl2 e2,by rw[QgE,q.length,q2.length];omega⟩⟩⟩
 ·rw[QgE,<- q.length];exact Q1 (Qwg _ _) (ln _ _ (.inr e))
 obtain⟨a,b,ha,hb,rfl⟩:=zip_get hd';obtain⟨x,hx,dx⟩:=(QbN (S:=Sx m F σ δ) (λb=>QgM) kk mm q).get i a ha;obtain⟨y,hy,dy⟩:=(QbN (S:=Sx m F σ δ) (λb=>QgM) kk mm q2).get i b hb;refine⟨⟨xs,ys,x,y,kk _ _ sl e,kk _ _ sl2 e2,hx,hy⟩,λz H4 ⟨r,x',y',nr,hx',hy',e1,e3⟩=>?_⟩;subst e1 e3;have h1:=hx' xs (kk _ _ sl e);have h2:=hy' ys (kk _ _ sl2 e2);rw[hx] at h1;rw[hy] at h2;cases h1;cases h2;exact⟨JL nr,Qjt dm nr dx dy⟩
end
def QvO:Option Sl->Sl
 |some (.v d)=>.v d
 |some (.own ds)=>.pk ds
 |some (.pk ds)=>.pk ds
 |some .pot=>.pot
 |_=>.no
def Qew(cap:List (Option Nat))(δ:Sts):Sts:=cap.map λo=>match o with
 |none=>.no
 |some j=>QvO δ[j]?
theorem QeS{cap:List (Option Nat)}{σ:L2.St}{i:Nat}{o:Option V}(h:(QdE cap σ)[i]? = some o):(cap[i]? = some none/\o=none)∨∃j,cap[i]? = some (some j)/\o=(σ[j]?).getD none:=by
 unfold QdE at h;rw[QB] at h;obtain⟨c,hc,rfl⟩:=Zy.mp h;cases c with
 |none=>exact .inl ⟨hc,rfl⟩
 |some j=>exact .inr ⟨j,hc,rfl⟩
theorem Qhq{cap:List (Option Nat)}{δ:Sts}{i:Nat}{x:Sl}(h:(Qew cap δ)[i]? = some x):(cap[i]? = some none/\x=.no)∨∃j,cap[i]? = some (some j)/\x=QvO δ[j]? := by
 unfold Qew at h;rw[QB] at h;obtain⟨c,hc,rfl⟩:=Zy.mp h;cases c with
 |none=>exact .inl ⟨hc,rfl⟩
 |some j=>exact .inr ⟨j,hc,rfl⟩
theorem Qbm{cap:List (Option Nat)}{σ:L2.St}{δ:Sts}{i:Nat}{o:Option V}{x:Sl}(h1:(QdE cap σ)[i]? = some o)(h2:(Qew cap δ)[i]? = some x)(hx:x≠.no):∃(j:Nat)(y:Sl),δ[j]? = some y/\x=QvO (some y)/\o=(σ[j]?).getD none:=by
 rcases Qhq h2 with⟨_,e⟩ | ⟨j,hj,e⟩
 ·exact absurd e hx
 ·rcases QeS h1 with⟨z,_⟩ | ⟨j',hj',e'⟩
  ·rw[hj] at z;cases z
  ·rw[hj] at hj';cases hj';cases e2:δ[j]? with
   |none=>rw[e2] at e;exact absurd e hx
   |some y=>exact⟨j,y,e2,by rw[e,e2],e'⟩
theorem Qck{cap:List (Option Nat)}{σ:L2.St}{δ:Sts}{a:Addr}(h:Yh (QdE cap σ) (Qew cap δ) a):Yh σ δ a:=by
 obtain⟨i,h1,h2⟩:=h;obtain⟨j,y,hy,e,eo⟩:=Qbm h1 h2 (λz=>by cases z);cases y<;>first | (cases e;done) | skip
 refine⟨j,?_,hy⟩;cases e2:σ[j]? with
 |none=>rw[e2] at eo;cases eo
 |some o'=>rw[e2] at eo;exact congrArg some eo.symm
def inF(A1:Addr->Prop)(cap:List (Option Nat))(σ:L2.St)(δ:Sts)(H:Hp):Fm:=⟨H,A1,Yh (QdE cap σ) (Qew cap δ)⟩
theorem QkT{A1:Addr->Prop}{cap:List (Option Nat)}{σ:L2.St}{δ:Sts}{H:Hp}(h:∀a,Yh σ δ a->A1 a){a:Addr}:Av (inF A1 cap σ δ H) (QdE cap σ) (Qew cap δ) a↔A1 a:=by
 constructor
 ·rintro(z | ⟨i,h1,h2⟩)
  ·exact z
  ·rcases h2 with h2 | ⟨ds,h2⟩
   ·exact h a (Qck ⟨i,h1,h2⟩)
   ·obtain⟨j,y,hy,e,eo⟩:=Qbm h1 h2 (λz=>by cases z);cases y<;>cases e
 ·exact .inl
theorem QkR{K:PySem.W.Frag}{F:Fm}{σ:L2.St}{δ:Sts}{H1 H3:Hp}{A1:Addr->Prop}{cap:List (Option Nat)}(rel:Rel K F σ H1 δ)(hA:∀a,Av F σ δ a->A1 a)(hN:∀a,A1 a->Av F σ δ a∨H1 a=none)
  (dm:∀a,A1 a->∃xs,H3 a=some (.lst xs))(kp:Kp σ δ H1 H3):Rel K (inF A1 cap σ δ H3) (QdE cap σ) H3 (Qew cap δ) where
 len:=by unfold QdE Qew;rw[Qf,Qf]
 dom:=dm
 dom0:=dm
 pt0:=λp hp=>⟨hA p (Y7 (Qck hp)),kp.2 p (Qck hp)⟩
 kx:=λb o _ e=>e
 sl:=λi o x h1 h2=>by
  have iv:∀{a:Addr},Av (inF A1 cap σ δ H3) (QdE cap σ) (Qew cap δ) a->A1 a:=λ{a}=>(QkT λa z=>hA a (Y7 z)).mp
  have mv:∀{v:V}{d:Qa},DA (Av F σ δ) H1 v d->DA (Av (inF A1 cap σ δ H3) (QdE cap σ) (Qew cap δ)) H3 v d:=λq=>q.mv (λa o n e=>kp.1 a o (λz=>n (Y7 z)) e) λa z=>hN a (iv z)
  have mvs:∀{v:List V}{d:List Qa},DAs (Av F σ δ) H1 v d->DAs (Av (inF A1 cap σ δ H3) (QdE cap σ) (Qew cap δ)) H3 v d:=λq=>q.mv (λa o n e=>kp.1 a o (λz=>n (Y7 z)) e) λa z=>hN a (iv z)
  cases x with
  |no=>trivial
  |own ds=>
   obtain⟨j,y,hy,e,eo⟩:=Qbm h1 h2 (λz=>by cases z);cases y<;>cases e
  |scr=>
   obtain⟨j,y,hy,e,eo⟩:=Qbm h1 h2 (λz=>by cases z);cases y<;>cases e
  |v d=>
   obtain⟨j,y,hy,e,eo⟩:=Qbm h1 h2 (λz=>by cases z);cases y<;>first | (cases e;done) | skip
   cases e;obtain⟨x,hx⟩:=rel.lt hy;obtain⟨v,rfl,q⟩:=rel.sl j _ _ hx hy;rw[hx] at eo;exact⟨v,eo,mv q⟩
  |pk ds=>
   obtain⟨j,y,hy,e,eo⟩:=Qbm h1 h2 (λz=>by cases z);cases y<;>first | (cases e;done) | skip
   ·cases e;obtain⟨x,hx⟩:=rel.lt hy;obtain⟨l,xs,rfl,e,q,f⟩:=rel.sl j _ _ hx hy;rw[hx] at eo;have np:=rel.own_pot hy hx;exact⟨l,xs,eo,kp.1 _ _ np e,mvs q,xs,kp.1 _ _ np e,λz=>np (Qck z)⟩
   ·cases e;obtain⟨x,hx⟩:=rel.lt hy;obtain⟨l,xs,rfl,e,q,ys,f,f2⟩:=rel.sl j _ _ hx hy;rw[hx] at eo;have np:¬Yh σ δ l:=by
     rintro⟨j,j1,j2⟩;obtain⟨p,m,e1,_,w⟩:=rel.sl j _ _ j1 j2;cases e1;rcases w with w | w
     ·exact f2 w
     ·rw[w] at f;cases f
    exact⟨l,xs,eo,kp.1 _ _ np e,mvs q,xs,kp.1 _ _ np e,λz=>np (Qck z)⟩
  |pot=>
   obtain⟨j,y,hy,e,eo⟩:=Qbm h1 h2 (λz=>by cases z);cases y<;>first | (cases e;done) | skip
   obtain⟨x,hx⟩:=rel.lt hy;obtain⟨p,n,rfl,e,q⟩:=rel.sl j _ _ hx hy;rw[hx] at eo;obtain⟨m,em⟩:=kp.2 p ⟨j,hx,hy⟩;have eo':o=some (.ref p):=eo;subst eo';exact⟨p,m,rfl,em,.inl ⟨i,h1,h2⟩⟩
 inj:=λi j a ds h1 h2 _=>by
  obtain⟨j,y,hy,e,eo⟩:=Qbm h2 h1 (λz=>by cases z);cases y<;>cases e
theorem Qmh:∀{σ σ':L2.St},σ'.length=σ.length->(∀(i:Nat) v,σ[i]? = some (some v)->σ'[i]? = some (some v))->Wk σ σ'
 |[],[],_,_=>trivial
 |[],_::_,h,_=>by cases h
 |_::_,[],h,_=>by cases h
 |none::a,x::b,h,g=>Qmh (σ:=a) (σ':=b) (by simpa using h) λi v e=>by simpa using g (i+1) v (by simpa using e)
 |some u::a,x::b,h,g=>by
  have h0:=g 0 u rfl;simp only[Qj1,Option.some.injEq] at h0;subst h0;exact⟨rfl,Qmh (σ:=a) (σ':=b) (by simpa using h) λi v e=>by simpa using g (i+1) v (by simpa using e)⟩
def QaU(cap:List (Option Nat))(ix:List Nat):Bool:=ix.all λi=>match cap[i]? with
 |some none=>true
 |_=>false
theorem Qs0{cap:List (Option Nat)}{ix:List Nat}(hf:QaU cap ix=true){σ σ4:L2.St}(hl:σ4.length=(QdE cap σ).length)(hj:∀j,j∉ix->σ4[j]? = (QdE cap σ)[j]?):Wk (QdE cap σ) σ4:=by
 refine Qmh hl λi v e=>?_
 by_cases z:i∈ix
 ·have:=JN.mp hf i z;rcases QeS e with⟨_,e2⟩ | ⟨j,hj2,_⟩
  ·cases e2
  ·rw[hj2] at this;cases this
 ·rw[hj i z];exact e
def XF:XP:=λ_=>False
@[irreducible] def QjY(items:List Qa)(wg:DG)(wt:DT)(we:DE)(δ:Sts)(Q:Qa->Prop):Prop:=∃Iv:Nat->List Qa->Prop,Iv 0 [] /\
 (∀(i:Nat) acc d,items[i]? = some d->Iv i acc->wg d δ λδ4=>wt δ4 (λb=>if b=true then we δ4 (λe=>Iv (i+1) (acc++[e])) XF else Iv (i+1) acc) XF)/\∀acc,Iv items.length acc->Q (.list acc)
def dComp(cap:List (Option Nat))(wi:DI)(wg:DG)(wt:DT)(we:DE):DE:=λδ Q EX=>wi δ (λitems=>QjY items wg wt we (Qew cap δ) Q) EX
def QsX:DT:=λ_ Q _=>Q true
section
variable{X:Cx}{E:XK}
theorem Ql4{F:Fm}{E:XK}:Out F E XF:=λ_ z=>z.elim
theorem PTs.imp{es:List QU}{t t':TT}(h:PTs X es t)(i:∀σ H Q,t' σ H Q->t σ H Q):PTs X es t':=λpins s σ H Q I q=>h pins s σ H Q I (i σ H Q q)
theorem QpO:PTs X [] (tT X.K E QsX):=PTs.imp Qt2 λσ H Q ⟨F,δ,R,EX,rel,hw,k,o⟩=>k _ hw H rel (Kp.refl rel)
theorem QpN{c:QU}{t:DT}(h:PT X c (tT X.K E t)):PTs X [c] (tT X.K E t):=Qt1 h
theorem Qhf{K:PySem.W.Frag}{A1:Addr->Prop}{cap:List (Option Nat)}{σ σ4:L2.St}{δ δ4:Sts}{H3 H4:Hp}(r:Rel K (inF A1 cap σ δ H3) σ4 H4 δ4)(hk:∀b o,¬Yh σ δ b->H4 b=some o->H3 b=none->False){b:Addr}(h:Yh σ4 δ4 b):Yh σ δ b:=by
 obtain⟨i,h1,h2⟩:=h;obtain⟨p,n,e,hp,w⟩:=r.sl i _ _ h1 h2;cases e;rcases w with w | w
 ·exact Qck w
 ·by_cases z:Yh σ δ b
  ·exact z
  ·exact(hk b _ z hp w).elim
theorem Qi8{K:PySem.W.Frag}{F:Fm}{σ:L2.St}{δ:Sts}{H1 H3:Hp}{cap:List (Option Nat)}{ix:List Nat}{wg:DG}{wt:DT}{A1:Addr->Prop}{x:V}{d:Qa}{inner:L2.St->Hp->(Hp->Prop)->Prop}{kk:Hp->Prop}{T:Sts->Prop}{N:Prop}
  (hf:QaU cap ix=true)(rel:Rel K F σ H1 δ)(hA:∀a,Av F σ δ a->A1 a)(hN:∀a,A1 a->Av F σ δ a∨H1 a=none)(dm:∀a,A1 a->∃xs,H3 a=some (.lst xs))(kp:Kp σ δ H1 H3)(dx:DA A1 H3 x d)
  (h:wg d (Qew cap δ) λδ4=>wt δ4 (λb=>if b=true then T δ4 else N) XF)
  (hT:∀σ4 δ4 H5,T δ4->Rel K (inF A1 cap σ δ H3) σ4 H5 δ4->Kp σ δ H3 H5->(∀b,Yh σ4 δ4 b->Yh σ δ b)->inner σ4 H5 kk)(hF:N->∀H5,Kp σ δ H3 H5->kk H5) :
  bOf (QdE cap σ) (tG ix K wg) (tT K E0 wt) inner x H3 kk:=by
 have ri:=QkR (cap:=cap) rel hA hN dm kp;have iv:∀{a:Addr},Av (inF A1 cap σ δ H3) (QdE cap σ) (Qew cap δ) a->A1 a:=λ{a}=>(QkT λa z=>hA a (Y7 z)).mp
 refine⟨inF A1 cap σ δ H3,Qew cap δ,d,_,ri,dx.mv (λ_ _ _ e=>e) λa z=>.inl (iv z),h,λδ4 h4 σ4 r4 st4 l4 j4=>⟨Qs0 hf l4 j4,inF A1 cap σ δ H3,δ4,_,XF,r4,h4,λb hb H5 r5 kp5=>?_,Ql4⟩⟩;have pots:∀{b:Addr},Yh σ4 δ4 b->Yh σ δ b:=λz=>Qhf r4 (λb o _ e1 e2=>by rw[e2] at e1;cases e1) z
 have K5:Kp σ δ H3 H5:=by
  refine⟨λb o n e=>kp5.1 b o (λz=>n (pots z)) e,λb hb=>?_⟩;by_cases z:Yh σ4 δ4 b
  ·exact kp5.2 b z
  ·obtain⟨n,e⟩:=kp.2 b hb;exact⟨n,kp5.1 _ _ z e⟩
 exact QcW hb (λz=>hT σ4 δ4 H5 z r5 K5 λb=>pots) λz=>hF z H5 K5
structure Lp (σ:L2.St) (δ:Sts) (A1:Addr->Prop) (p:Addr) (H1 H2:Hp) (acc:List Qa):Prop where
 kp:Kp σ δ H1 H2
 at_:∃ys,H2 p=some (.lst ys)/\DAs A1 H2 ys acc
theorem Lp.step{σ:L2.St}{δ:Sts}{A1:Addr->Prop}{p:Addr}{H1 H2 H3:Hp}{acc:List Qa}(hpA:∀a,Yh σ δ a->A1 a)(hpn:¬Yh σ δ p)(h:Lp σ δ A1 p H1 H2 acc)(k:Kp σ δ H2 H3):Lp σ δ A1 p H1 H3 acc:=by
 obtain⟨ys,e,q⟩:=h.at_;exact⟨h.kp.trans k,ys,k.1 _ _ hpn e,q.mv (λa o n e=>k.1 a o (λz=>n (hpA a z)) e) λa z=>.inl z⟩
theorem QsU{K:PySem.W.Frag}{σ σ4:L2.St}{δ δ4:Sts}{H1 H3 H5:Hp}{cap:List (Option Nat)}{we:DE}{A1:Addr->Prop}{p:Addr}{acc:List Qa}{kk:Hp->Prop}{G:Qa->Prop}
  (hpA:A1 p)(hP:∀a,Yh σ δ a->A1 a)(hp1:H1 p=none)(hpn:¬Yh σ δ p)(lp:Lp σ δ A1 p H1 H5 acc)(hl:acc.length<sizeLine)(r5:Rel K (inF A1 cap σ δ H3) σ4 H5 δ4)(pots:∀b,Yh σ4 δ4 b->Yh σ δ b)
  (h:we δ4 G XF)(hk:∀e,G e->∀H',Lp σ δ A1 p H1 H' (acc++[e])->kk H'):QyV p (tX .D K E0 we) σ4 H5 kk:=by
 refine⟨inF A1 cap σ δ H3,δ4,G,XF,r5,h,λe he v H6 r6 kp6 dv=>?_,Ql4⟩;have k56:Kp σ δ H5 H6:=by
  refine⟨λb o n e=>kp6.1 b o (λz=>n (pots b z)) e,λb hb=>?_⟩;by_cases z:Yh σ4 δ4 b
  ·exact kp6.2 b z
  ·obtain⟨n,e⟩:=lp.kp.2 b hb;exact⟨n,kp6.1 _ _ z e⟩
 obtain⟨k6,ys,e6,q6⟩:=lp.step hP hpn k56;have up:∀{b:Addr}{o:HO},¬A1 b->H6 b=some o->upd H6 p (.lst (ys++[v])) b=some o:=λ{b o} n e=>by rw[Zu (λz=>n (by rw[z];exact hpA))];exact e
 refine⟨ys,e6,by rw[q6.length];exact hl,hk e he _ ⟨⟨λb o n e=>?_,λb hb=>?_⟩,ys++[v],JQ,DAs.app (q6.mv (λ_ _=>up) λa z=>.inl z) (.cons (DA.mv dv (λa o n e=>up (λz=>n (.inl z)) e) λa z=>.inl (.inl z)) .nil)⟩⟩
 ·rw[Zu (λz=>by rw[z,hp1] at e;cases e)];exact k6.1 b o n e
 ·rw[Zu (λz=>hpn (by rw[<- z];exact hb))];exact k6.2 b hb
theorem Quz{M:List Str}{cap:List (Option Nat)}{elt tg iter:QU}{ifs:List QU}{scope:YC}{pos:Pos}{ix:List Nat}{wi:DI}{wg:DG}{wt:DT}{we:DE}(hc:X.calm=true)(ok:QcO X.N X.env.scope M scope cap=true)(hf:QaU cap ix=true)
  (hi:PI X tg iter (tI .P X.K E wi))(hb:∀cl ex s3 H3 C,PG (blk X M scope cl ex s3 H3 C) tg (tG ix X.K wg)/\PTs (blk X M scope cl ex s3 H3 C) ifs (tT X.K E0 wt)/\PE (blk X M scope cl ex s3 H3 C) elt (tX .D X.K E0 we))
  (hs:∀x,foldedSetIterable iter X.env x=pure x:=by intro _;rfl):PE X (.ListComp elt [⟨tg,iter,ifs,0⟩] scope pos) (tX .F X.K E (dComp cap wi wg wt we)):=by
 refine PE.imp (QpI hc ok hi hb hs) λσ H Q ⟨F,δ,R,EX,rel,hw,k,o⟩=>?_
 refine⟨F,δ,_,EX,rel,hw,λitems hC J H1 rel1 kp1 ⟨ln,it⟩ p hp=>?_,o⟩;unfold QjY at hC;obtain⟨Iv,i0,step,fin⟩:=hC;have hpn:¬Yh σ δ p:=λz=>by obtain⟨xs,e⟩:=rel1.isl (Y7 (F:=F) z);rw[hp] at e;cases e
 let A1:Addr->Prop:=λa=>Av F σ δ a∨a=p
 have hP:∀a,Yh σ δ a->A1 a:=λa z=>.inl (Y7 z)
 have hN:∀a,A1 a->Av F σ δ a∨H1 a=none:=λa z=>z.elim .inl λz=>.inr (by rw[z];exact hp)
 have dmK:∀{H2:Hp},Kp σ δ H1 H2->(∃ys,H2 p=some (.lst ys))->∀a,A1 a->∃xs,H2 a=some (.lst xs):=λ{H2} k2 e2 a z=>by
  rcases z with z | z
  ·exact(rel1.kp k2).isl z
  ·rw[z];exact e2
 refine Qc3 items.length (λi H2=>i<=items.length/\∃acc,Iv i acc/\acc.length<=i/\Lp σ δ A1 p H1 H2 acc) ⟨Qs _,[],i0,Qh _,Kp.same rel1 (JL hp),[],JQ,.nil⟩ (λi H2 hi ⟨_,acc,iv,hl,lp⟩=>?_) λH2 ⟨_,acc,iv,hl,lp⟩=>?_
 ·obtain⟨k2,ys,e2,q2⟩:=lp;obtain⟨go,_⟩:=it H2 A1 (λb o n e=>k2.1 b o n e) hN (dmK k2 ⟨ys,e2⟩);have hd:items[i]? = some items[i]:=Qo hi;obtain⟨g1,g2⟩:=go i _ hd;refine⟨g1,λx H3 y kk hk=>?_⟩;obtain⟨s3,dx⟩:=g2 x H3 y;have k23:=Kp.same (rel1.kp k2) s3;have lp3:Lp σ δ A1 p H1 H3 acc:=Lp.step hP hpn ⟨k2,ys,e2,q2⟩ k23;refine Qi8 hf rel1 (λa z=>.inl z) hN (dmK lp3.kp ⟨ys,s3 _ _ e2⟩) lp3.kp dx (step i acc _ hd iv) (λσ4 δ4 H5 h5 r5 k5 pots=>?_) λh5 H5 k5=>hk _ ⟨hi,acc,h5,by omega,lp3.step hP hpn k5⟩
  exact QsU (.inr rfl) hP hp hpn (lp3.step hP hpn k5) (by omega) r5 pots h5 λe he H' lp'=>hk _ ⟨hi,acc++[e],he,by rw[Qv];show _+1<=_;omega,lp'⟩
 ·obtain⟨k2,ys,e2,q2⟩:=lp;obtain⟨_,st⟩:=it H2 A1 (λb o n e=>k2.1 b o n e) hN (dmK k2 ⟨ys,e2⟩);refine⟨st,k _ (fin acc iv) (.ref p) H2 (rel1.kp k2) (kp1.trans k2) ⟨.lst (λz=>?_) e2 (q2.mv (λ_ _ _ e=>e) λa z=>.inl (.inl z)),λl e1 _=>?_⟩⟩
  ·obtain⟨xs,e⟩:=rel1.isl z;rw[hp] at e;cases e
  ·cases e1;exact Qbu kp1 hp
theorem QvG{items:List Qa}{wg:DG}{wt:DT}{we:DE}{δ:Sts}{Q:Qa->Prop}(G:Qa->Option Qa)
  (h:∀d∈items,∀(k1:Prop)(k2:Qa->Prop),(G d=none->k1)->(∀e,G d=some e->k2 e)->wg d δ λδ4=>wt δ4 (λb=>if b=true then we δ4 k2 XF else k1) XF)(q:Q (.list (items.filterMap G))) :
  QjY items wg wt we δ Q:=by
 unfold QjY;refine⟨λi acc=>acc=(items.take i).filterMap G,by simp,λi acc d hd e=>?_,λacc e=>by rw[e,Zv];exact q⟩;have hs:(items.take (i+1)).filterMap G=(items.take i).filterMap G++(G d).toList:=by
  rw[Z0,hd,Ye];cases e2:G d<;>simp[e2]
 have e:acc=(items.take i).filterMap G:=e;refine h d (Q7 hd) _ _ (λe2=>?_) λe' e2=>?_
 ·show acc=(items.take (i+1)).filterMap G;rw[hs,e2,e];simp
 ·show acc++[e']=(items.take (i+1)).filterMap G;rw[hs,e2,e];rfl
theorem QaR{items:List Qa}{wg:DG}{we:DE}{δ:Sts}{Q:Qa->Prop}(G:Qa->Qa)
  (h:∀d∈items,∀(k2:Qa->Prop),k2 (G d)->wg d δ λδ4=>we δ4 k2 XF)(q:Q (.list (items.map G))) :
  QjY items wg QsX we δ Q:=by
 unfold QjY;refine⟨λi acc=>acc=(items.take i).map G,by simp,λi acc d hd e=>?_,λacc e=>by rw[e,Zv];exact q⟩;have hs:(items.take (i+1)).map G=(items.take i).map G++[G d]:=by
  rw[Z0,hd,Jr];simp
 have e:acc=(items.take i).map G:=e;have hh:=h d (Q7 hd) (λe=>acc++[e]=(items.take (i+1)).map G) (by show acc++[G d]=_;rw[hs,e]);simp only[QsX,if_true];exact hh
end
theorem Qob:∀{a b:List (Int×Int)},dkV a=dkV b->a=b
 |[],[],_=>rfl
 |[],_::_,h=>by cases h
 |_::_,[],h=>by cases h
 |p::a,q::b,h=>by
  have h:=Qo3 (show(Qb3 p.1,V.int p.2)::dkV a=(Qb3 q.1,V.int q.2)::dkV b from h);have h1:=Qwe h.1;rw[Qob h.2,QoZ (Qle h1.1) (V.int.inj h1.2)]
mutual
theorem Qoh{A B:Addr->Prop}{H:Hp}:∀(d d':Qa)(x:V),DA A H x d->DA B H x d'->d=d'
 |.none,d',_,.non,h=>by cases h;rfl
 |.bool _,d',_,.bl _,h=>by cases h;rfl
 |.int _,d',_,.int _,h=>by cases h;rfl
 |.str _,d',_,.str _ _,h=>by cases h;rfl
 |.tuple ds,d',_,.tup (xs:=xs) n e q,h=>by
  cases h with
  |@tup a ys es n' e' q'=>
   rw[e] at e';cases e';rw[Qhj ds es xs q q']
  |@lst a ys es n' e' q'=>rw[e] at e';cases e'
  |@dct a kvs' ds' n' e' q'=>rw[e] at e';cases e'
 |.list ds,d',_,.lst (xs:=xs) n e q,h=>by
  cases h with
  |@tup a ys es n' e' q'=>rw[e] at e';cases e'
  |@lst a ys es n' e' q'=>
   rw[e] at e';cases e';rw[Qhj ds es xs q q']
  |@dct a kvs' ds' n' e' q'=>rw[e] at e';cases e'
 |.dict _,d',_,.dct (kvs:=kvs) n e q,h=>by
  cases h with
  |@tup a ys es n' e' q'=>rw[e] at e';cases e'
  |@lst a ys es n' e' q'=>rw[e] at e';cases e'
  |@dct a kvs' ds' n' e' q'=>
   rw[e] at e';rw[q,q',Qob (HO.dK.inj (Qt e'))]
theorem Qhj{A B:Addr->Prop}{H:Hp}:∀(ds es:List Qa)(xs:List V),DAs A H xs ds->DAs B H xs es->ds=es
 |[],es,_,.nil,h=>by cases h;rfl
 |d::ds,es,_,.cons q qs,h=>by
  cases h with
  |@cons x xs e es q' qs'=>rw[Qoh d e _ q q',Qhj ds es _ qs qs']
end
mutual
theorem QyB{A:Addr->Prop}{H:Hp}{l:Addr}{rs:List Qa}(root:DA A H (.ref l) (.list rs)):∀(d:Qa)(x:V),sizeOf d<sizeOf (YT rs)->DA A H x d->DA (λa=>A a∨a=l) H x d
 |.none,_,_,.non=>.non
 |.bool _,_,_,.bl _=>.bl _
 |.int _,_,_,.int _=>.int _
 |.str _,_,_,.str _ c=>.str _ c
 |.tuple ds,_,hs,.tup (a:=a) (xs:=xs) n e q=>.tup (λz=>z.elim n λz=>by subst z;cases root with | @lst _ ys _ n' e' q'=>(rw[e] at e';cases e')) e (Qhk root ds xs (by simp at hs ⊢;omega) q)
 |.list ds,_,hs,.lst (a:=a) (xs:=xs) n e q=>.lst (λz=>z.elim n λz=>by
   subst z;have:=Qoh _ _ _ root (.lst n e q);rw[this] at hs;omega) e (Qhk root ds xs (by simp at hs ⊢;omega) q)
 |.dict _,_,hs,.dct (a:=a) n e q=>.dct (λz=>z.elim n λz=>by subst z;cases root with | @lst _ ys _ n' e' q'=>(rw[e] at e';cases e')) e q
theorem Qhk{A:Addr->Prop}{H:Hp}{l:Addr}{rs:List Qa}(root:DA A H (.ref l) (.list rs)):∀(ds:List Qa)(xs:List V),sizeOf ds<sizeOf (YT rs)->DAs A H xs ds->DAs (λa=>A a∨a=l) H xs ds
 |[],_,_,.nil=>.nil
 |d::ds,_,hs,.cons q qs=>.cons (QyB root d _ (by simp at hs ⊢;omega) q) (Qhk root ds _ (by simp at hs ⊢;omega) qs)
end
theorem DA.items{A:Addr->Prop}{H:Hp}{l:Addr}{ds:List Qa}(root:DA A H (.ref l) (.list ds)):∃xs,H l=some (.lst xs)/\DAs (λa=>A a∨a=l) H xs ds:=by
 have root':=root;cases root with
 |@lst _ xs _ n e q=>exact⟨xs,e,Qhk root' ds xs (by simp) q⟩
structure Qhx where
 nx:Sts->Prop
 rt:Qa->Prop
 rtF:Qa->Prop
 bk:Sts->Prop
 ct:Sts->Prop
 ex:XP
abbrev DS:=Qhx->Sts->Prop
structure Nx (K:PySem.W.Frag) (F:Fm) (σ:L2.St) (H:Hp) (δ:Sts) (R:Sts->Prop) (T:L2.St->Hp->Prop):Prop where
 go:∀δ',R δ'->∀σ' H',Rel K F σ' H' δ'->Stp F σ H δ σ' H' δ'->T σ' H'
structure Ends1 (K:PySem.W.Frag) (E:XK) (F:Fm) (σ:L2.St) (H:Hp) (δ:Sts) (DD:Qhx) (D:Ends):Prop where
 nx:Nx K F σ H δ DD.nx D.nx
 rt:∀d,DD.rt d->∀v H',Ke F H'->DA F.A0 H' v d->D.rt v H'
 rtF:∀d,DD.rtF d->∀v H',Ke F H'->DA F.A0 H' v d->FrV F.H0 H' v->D.rt v H'
 bk:Nx K F σ H δ DD.bk D.bk
 ct:Nx K F σ H δ DD.ct D.ct
 ex:Out F E DD.ex
def tS(K:PySem.W.Frag)(E:XK)(w:DS):TS:=λD σ H=>∃(F:Fm)(δ:Sts)(DD:Qhx),Rel K F σ H δ/\w DD δ/\Ends1 K E F σ H δ DD D
theorem Nx.step{K:PySem.W.Frag}{F:Fm}{σ σ1:L2.St}{H H1:Hp}{δ δ1:Sts}{R:Sts->Prop}{T:L2.St->Hp->Prop}(h:Nx K F σ H δ R T)(s:Stp F σ H δ σ1 H1 δ1):Nx K F σ1 H1 δ1 R T:=⟨λδ' hR σ' H' r st=>h.go δ' hR σ' H' r (s.trans st)⟩
theorem Ends1.step{K:PySem.W.Frag}{E:XK}{F:Fm}{σ σ1:L2.St}{H H1:Hp}{δ δ1:Sts}{DD:Qhx}{D:Ends}(h:Ends1 K E F σ H δ DD D)(s:Stp F σ H δ σ1 H1 δ1):Ends1 K E F σ1 H1 δ1 DD D:=⟨h.nx.step s,h.rt,h.rtF,h.bk.step s,h.ct.step s,h.ex⟩
section
variable{X:Cx}{E:XK}
theorem PS.imp{e:Qad}{t t':TS}(h:PS X e t)(i:∀D σ H,t' D σ H->t D σ H):PS X e t':=λpins s σ H D I q=>h pins s σ H D I (i D σ H q)
theorem PSs.imp{e:List Qad}{t t':TS}(h:PSs X e t)(i:∀D σ H,t' D σ H->t D σ H):PSs X e t':=λpins s σ H D I q=>h pins s σ H D I (i D σ H q)
def QBC(a b:DS):DS:=λD δ=>a { D with nx:=b D } δ
def QyD:DS:=λD δ=>D.nx δ
theorem QpP:PSs X [] (tS X.K E QyD):=PSs.imp QmZ λD σ H ⟨F,δ,DD,rel,hw,en⟩=>en.nx.go δ hw σ H rel Stp.refl
theorem Qup{st:Qad}{w:DS}(h:PS X st (tS X.K E w)):PSs X [st] (tS X.K E w):=Qjm h
theorem QpT{st:Qad}{rest:List Qad}{w w':DS}(h:PS X st (tS X.K E w))(h':PSs X rest (tS X.K E w')):PSs X (st::rest) (tS X.K E (QBC w w')):=by
 refine PSs.imp (Qku h h') λD σ H ⟨F,δ,DD,rel,hw,en⟩=>?_
 exact⟨F,δ,_,rel,hw,⟨λδ' h' σ' H' r st=>⟨F,δ',DD,r,h',en.step st⟩⟩,en.rt,en.rtF,en.bk,en.ct,en.ex⟩
def Qzm(i:Nat)(we:DE):DS:=λD δ=>we δ (λd=>D.nx (δ.set i (.v d))) D.ex
def QrS(i:Nat)(we:DE):DS:=λD δ=>we δ (λd=>match d with
 |.list ds=>D.nx (δ.set i (.own ds))
 |_=>False) D.ex
def QCk(i:Nat)(we:DE):DS:=λD δ=>we δ (λd=>match d with
 |.list [.int _]=>D.nx (δ.set i .pot)
 |_=>False) D.ex
variable{i:Nat}{e:QU}{st:Qad}{we wi:DE}
theorem Qjp(h:PS X st (Qtx (tX .D X.K E we) (Qir i))):PS X st (tS X.K E (Qzm i we)):=by
 refine PS.imp h λD σ H ⟨F,δ,DD,rel,hw,en⟩=>?_
 refine⟨F,δ,_,DD.ex,rel,hw,λd hd v H' rel' kp vk=>?_,en.ex⟩;exact en.nx.go _ hd _ H' (rel'.setv vk) ((Stp.kp kp).trans Stp.setv)
theorem Qs1{F:Fm}{σ:L2.St}{δ:Sts}{i:Nat}{l:Addr}{x:Sl}{a:Addr}(h:Av F (σ.set i (some (.ref l))) (δ.set i x) a):Av F σ δ a∨a=l:=by
 rcases h with h | ⟨j,h1,h2⟩
 ·exact .inl (.inl h)
 ·by_cases z:j=i
  ·subst z;cases set_eq h1;exact .inr rfl
  ·rw[QaL z] at h1 h2;exact .inl (.inr ⟨j,h1,h2⟩)
theorem Rel.seto{K:PySem.W.Frag}{F:Fm}{σ:L2.St}{H H':Hp}{δ:Sts}{l:Addr}{x:Sl}(r:Rel K F σ H δ)(r':Rel K F σ H' δ)(kp:Kp σ δ H H')(n:H l=none)(hx:∀A:Addr->Prop,(∀a,A a->Av F σ δ a∨H a=none)->(∀a,A a->Av F σ δ a∨a=l)->QBP K F H' A (some (.ref l)) x) :
  Rel K F (σ.set i (some (.ref l))) H' (δ.set i x)/\Stp F σ H δ (σ.set i (some (.ref l))) H' (δ.set i x):=by
 have nA:∀a,Av F (σ.set i (some (.ref l))) (δ.set i x) a->Av F σ δ a∨H a=none:=λa z=>(Qs1 z).elim .inl λz=>.inr (by rw[z];exact n)
 have kk:∀a o,¬Av F σ δ a->H a=some o->H' a=some o:=λa o m e=>kp.1 a o (λz=>m (Y7 z)) e
 refine⟨?_,⟨kk,nA⟩⟩;exact{
  len:=by rw[Yo,Yo];exact r.len
  dom:=r'.dom
  dom0:=r'.dom0
  pt0:=r'.pt0
  kx:=r'.kx
  sl:=λj o y h1 h2=>by
   by_cases z:j=i
   ·subst z;cases set_eq h1;cases set_eq h2;exact hx _ nA λa z=>Qs1 z
   ·rw[QaL z] at h1 h2;have h:=r.sl j o y h1 h2;have h':=r'.sl j o y h1 h2;cases y with
    |no=>trivial
    |v d=>obtain⟨v',e,q'⟩:=h;exact⟨v',e,q'.mv kk nA⟩
    |own ds=>obtain⟨l',xs,rfl,e2,q',f⟩:=h;exact⟨l',xs,rfl,kp.1 _ _ (r.own_pot h2 h1) e2,q'.mv kk nA,f⟩
    |pk ds=>
     obtain⟨l',xs,rfl,e2,q',ys,f,f2⟩:=h;refine⟨l',xs,rfl,kp.1 _ _ ?_ e2,q'.mv kk nA,ys,f,f2⟩;rintro⟨j,j1,j2⟩;obtain⟨p,m,e1,_,w⟩:=r.sl j _ _ j1 j2;cases e1;rcases w with w | w
     ·exact f2 w
     ·rw[w] at f;cases f
    |pot=>exact h'
    |scr=>exact h'
  inj:=λj k a ds h1 h2 ⟨h3,h4⟩=>by
   have ne:∀(k:Nat),k≠i->σ[k]? = some (some (.ref l))->(δ[k]? = some .pot∨∃ds,δ[k]? = some (.own ds))->False:=λk _ h3 h4=>by
    obtain⟨xs,e⟩:=r.isl (a:=l) (.inr ⟨k,h3,h4⟩);rw[n] at e;cases e
   by_cases z:j=i
   ·subst z;cases set_eq h2;by_cases z2:k=j
    ·exact z2.symm
    ·rw[QaL z2] at h3 h4;exact(ne k z2 h3 h4).elim
   ·rw[QaL z] at h1 h2;by_cases z2:k=i
    ·subst z2;cases set_eq h3;exact(ne j z h2 (.inr ⟨ds,h1⟩)).elim
    ·rw[QaL z2] at h3 h4;exact r.inj j k a ds h1 h2 ⟨h3,h4⟩ }
theorem QsR{K:PySem.W.Frag}{F:Fm}{σ:L2.St}{H:Hp}{δ:Sts}(r:Rel K F σ H δ){l:Addr}(n:H l=none):F.H0 l=none:=by
 cases e:F.H0 l with
 |none=>rfl
 |some o=>
  by_cases z:F.pt l
  ·obtain⟨_,m,e'⟩:=r.pt0 l z;rw[n] at e';cases e'
  ·rw[r.kx l o z e] at n;cases n
theorem Qg3(h:PS X st (Qtx (tX .F X.K E we) (Qir i))):PS X st (tS X.K E (QrS i we)):=by
 refine PS.imp h λD σ H ⟨F,δ,DD,rel,hw,en⟩=>?_
 refine⟨F,δ,_,DD.ex,rel,hw,λd hd v H' rel' kp ⟨vk,fr⟩=>?_,en.ex⟩;obtain⟨ds,rfl⟩:∃ds,d=.list ds:=by cases d<;>first | exact⟨_,rfl⟩ | exact(show False from hd).elim
 obtain⟨l,rfl⟩:∃l,v=.ref l:=by cases vk;exact⟨_,rfl⟩
 obtain⟨xs,e,q⟩:=DA.items vk;have n:=fr l rfl ⟨xs,e⟩;obtain⟨r2,st⟩:=rel.seto (i:=i) (x:=.own ds) rel' kp n λA hA hB=>⟨l,xs,rfl,e,q.mv (λ_ _ _ e=>e) λa z=>.inl (hB a z),QsR rel n⟩
 exact en.nx.go _ hd _ H' r2 st
def QBL(we:DE)(wg:DG):DS:=λD δ=>we δ (λd=>wg d δ D.nx) D.ex
theorem Qut{ix:List Nat}{wg:DG}(h:PS X st (Qtx (tX .D X.K E we) (tG ix X.K wg))):PS X st (tS X.K E (QBL we wg)):=by
 refine PS.imp h λD σ H ⟨F,δ,DD,rel,hw,en⟩=>?_
 refine⟨F,δ,_,DD.ex,rel,hw,λd hd v H' rel' kp vk=>?_,en.ex⟩;exact⟨F,δ,d,_,rel',vk,hd,λδ' h' σ' r' st' _ _=>en.nx.go _ h' _ H' r' ((Stp.kp kp).trans st')⟩
def QBD(we:DE):DS:=λD δ=>we δ D.rt D.ex
def QyG(we:DE):DS:=λD δ=>we δ D.rtF D.ex
theorem Qvy{F:Fm}{σ:L2.St}{δ:Sts}{H:Hp}{v:V}{d:Qa}(h:DA (Av F σ δ) H v d):DA F.A0 H v d:=h.mv (λ_ _ _ e=>e) λa z=>.inl (.inl z)
theorem Quo{e:QU}{pos:Pos}(h:PE X e (tX .D X.K E we)):PS X (.Return (some e) pos) (tS X.K E (QBD we)):=by
 refine PS.imp (Qh6 h) λD σ H ⟨F,δ,DD,rel,hw,en⟩=>?_
 exact⟨F,δ,_,DD.ex,rel,hw,λd hd v H' rel' kp vk=>en.rt d hd v H' rel'.ke (Qvy vk),en.ex⟩
theorem QpR{e:QU}{pos:Pos}(h:PE X e (tX .F X.K E we)):PS X (.Return (some e) pos) (tS X.K E (QyG we)):=by
 refine PS.imp (Qh6 h) λD σ H ⟨F,δ,DD,rel,hw,en⟩=>?_
 exact⟨F,δ,_,DD.ex,rel,hw,λd hd v H' rel' kp vk=>en.rtF d hd v H' rel'.ke (Qvy vk.1) λl e1 e2=>QsR rel (vk.2 l e1 e2),en.ex⟩
def QvA(i:Nat):DS:=λD δ=>match δ[i]? with
 |some (.own ds)=>D.rtF (.list ds)
 |some (.v d)=>D.rt d
 |_=>False
theorem QpQ{e:QU}{pos:Pos}(h:PE X e (Qo9 i)):PS X (.Return (some e) pos) (tS X.K E (QvA i)):=by
 refine PS.imp (Qh6 h) λD σ H ⟨F,δ,DD,rel,hw,en⟩=>?_
 unfold QvA at hw;split at hw
 ·rename_i ds hd
  obtain⟨x,hx⟩:=rel.lt hd;obtain⟨l,xs,rfl,e,q,f⟩:=rel.sl i _ _ hx hd;refine⟨_,hx,en.rtF _ hw _ H rel.ke (.lst (λz=>?_) e (q.mv (λ_ _ _ e=>e) λa z=>.inl (.inl z))) λl' e1 _=>by cases e1;exact f⟩;obtain⟨ys,e'⟩:=rel.dom0 l z;rw[f] at e';cases e'
 ·rename_i d hd
  obtain⟨x,hx⟩:=rel.lt hd;obtain⟨v,rfl,q⟩:=rel.sl i _ _ hx hd;exact⟨v,hx,en.rt _ hw _ H rel.ke (Qvy q)⟩
 ·exact hw.elim
def dIf(t:DT)(a b:DS):DS:=λD δ=>t δ (λc=>if c=true then a D δ else b D δ) D.ex
theorem Qxn{c:QU}{a b:List Qad}{pos:Pos}{t:DT}{w w':DS}(hc:PT X c (tT X.K E t))(ha:PSs X a (tS X.K E w))(hb:PSs X b (tS X.K E w')):PS X (.If c a b pos) (tS X.K E (dIf t w w')):=by
 refine PS.imp (Qw7 hc ha hb) λD σ H ⟨F,δ,DD,rel,hw,en⟩=>?_
 exact⟨F,δ,_,DD.ex,rel,hw,λb hb H' rel' kp=>QcW hb (λz=>⟨F,δ,DD,rel',z,en.step (Stp.kp kp)⟩) λz=>⟨F,δ,DD,rel',z,en.step (Stp.kp kp)⟩,en.ex⟩
theorem Qm9{sts:List Qad}:PSs X sts (tS X.K E λ_ _=>False):=λpins s σ H D I ⟨F,δ,DD,rel,hw,en⟩=>hw.elim
theorem QuS{g:Int->Int->Int}:Qs4 (ipI g) (ii0 λi j=>.int (g i j)):=λA P H x y d1 d2 R Q ln dm hx hy h k=>by
 cases d1<;>cases d2<;>first | exact h.elim | skip
 rw[hx.int,hy.int];exact⟨_,_,rfl,rfl,k _ h _ H (Same.refl H) (.int _)⟩
theorem PIp.len{op:Qgy}{t:TIp}(h:PIp X op t):PIp X op (λx y H Q=>Qdw H->t x y H Q):=λpins s σ H x y v u Q I rx ry q=>h pins s σ H x y v u Q I rx ry (q (Inv.lens I))
theorem Rel.mut{K:PySem.W.Frag}{F:Fm}{σ:L2.St}{H:Hp}{δ:Sts}(r:Rel K F σ H δ){l:Addr}{ds ds':List Qa}{ys:List V}(h:δ[i]? = some (.own ds))(hx:σ[i]? = some (some (.ref l)))(q:DAs (Av F σ δ) H ys ds') :
  Rel K F σ (upd H l (.lst ys)) (δ.set i (.own ds'))/\Stp F σ H δ σ (upd H l (.lst ys)) (δ.set i (.own ds')):=by
 have hl:Av F σ δ l:=.inr ⟨i,hx,.inr ⟨ds,h⟩⟩;obtain⟨l',xs0,e0,el,_,f⟩:=r.sl i _ _ hx h;cases e0;have lt:i < δ.length:=(Jq.mp h).1;have ge:(δ.set i (.own ds'))[i]? = some (.own ds'):=by rw[QcR lt]
 have kk:∀a o,¬Av F σ δ a->H a=some o->upd H l (.lst ys) a=some o:=λa o n e=>by rw[Zu (λz=>n (by rw[z];exact hl))];exact e
 have av:∀a,Av F σ (δ.set i (.own ds')) a->Av F σ δ a:=λa z=>by
  rcases z with z | ⟨j,h1,h2⟩
  ·exact .inl z
  ·by_cases z:j=i
   ·subst z;exact .inr ⟨j,h1,.inr ⟨ds,h⟩⟩
   ·rw[QaL z] at h2;exact .inr ⟨j,h1,h2⟩
 have up:∀{b:Addr}{o:HO},b≠l->H b=some o->upd H l (.lst ys) b=some o:=λn e=>by rw[Zu n];exact e
 refine⟨?_,⟨kk,λa z=>.inl (av a z)⟩⟩;exact{
  len:=by rw[Yo];exact r.len
  dom:=λa ha=>by
   by_cases z:a=l
   ·rw[z];exact⟨_,JQ⟩
   ·obtain⟨xs,e⟩:=r.dom a ha;exact⟨xs,up z e⟩
  dom0:=r.dom0
  pt0:=λp hp=>by
   obtain⟨h1,n,e⟩:=r.pt0 p hp;refine⟨h1,n,up (λz=>?_) e⟩;obtain⟨xs,e'⟩:=r.dom0 p h1;rw[z,f] at e';cases e'
  kx:=λb o n e=>up (λz=>by rw[z,f] at e;cases e) (r.kx b o n e)
  sl:=λj o y h1 h2=>by
   by_cases z:j=i
   ·subst z;rw[ge] at h2;cases h2;rw[hx] at h1;cases h1;exact⟨l,ys,rfl,JQ,q.mv kk λa z=>.inl (av a z),f⟩
   ·rw[QaL z] at h2;have hh:=r.sl j o y h1 h2;cases y with
    |no=>trivial
    |v d=>obtain⟨v',e,q'⟩:=hh;exact⟨v',e,q'.mv kk λa z=>.inl (av a z)⟩
    |own es=>
     obtain⟨l',xs,rfl,e2,q',f'⟩:=hh;exact⟨l',xs,rfl,up (λz2=>z (r.inj j i l' es h2 h1 ⟨by rw[z2];exact hx,.inr ⟨ds,h⟩⟩)) e2,q'.mv kk λa z=>.inl (av a z),f'⟩
    |pk es=>
     obtain⟨l',xs,rfl,e2,q',ys',f',f2⟩:=hh;exact⟨l',xs,rfl,up (λz2=>by rw[z2,f] at f';cases f') e2,q'.mv kk λa z=>.inl (av a z),ys',f',f2⟩
    |pot=>
     obtain⟨p,n,rfl,e2,w⟩:=hh;refine⟨p,n,rfl,up (λz2=>?_) e2,w⟩;subst z2;exact r.own_pot h hx ⟨j,h1,h2⟩
    |scr=>exact hh
  inj:=λj k a es h1 h2 ⟨h3,h4⟩=>by
   have h4':δ[k]? = some .pot∨∃ds,δ[k]? = some (.own ds):=by
    by_cases z:k=i
    ·subst z;exact .inr ⟨ds,h⟩
    ·rw[QaL z] at h4;exact h4
   by_cases z:j=i
   ·subst z;exact r.inj j k a ds h h2 ⟨h3,h4'⟩
   ·rw[QaL z] at h1;exact r.inj j k a es h1 h2 ⟨h3,h4'⟩ }
def QA5(i:Nat)(we:DE):DS:=λD δ=>match δ[i]? with
 |some (.own ds)=>we δ (λd=>ds.length<1000000/\D.nx (δ.set i (.own (ds++[d])))) D.ex
 |_=>False
theorem Quu(h:PS X st (Qpa (tBM X.K "list" QmP (Qo9 i) (Qlo (tX .D X.K E we) Qz7)))):PS X st (tS X.K E (QA5 i we)):=by
 refine PS.imp h λD σ H ⟨F,δ,DD,rel,hw,en⟩=>?_
 unfold QA5 at hw;split at hw
 ·rename_i ds hd
  obtain⟨x,hx⟩:=rel.lt hd;obtain⟨l,xs,rfl,e,q,f⟩:=rel.sl i _ _ hx hd;have np:=rel.own_pot hd hx;refine⟨.ref l,hx,.inl ⟨rfl,_,SqL.of e⟩,F,δ,_,DD.ex,rel,hw,λd ⟨hl,hn⟩ v H' rel' kp vk=>?_,en.ex⟩;have q':=kp.das q;refine⟨l,xs,v,rfl,rfl,kp.1 _ _ np e,QM (by rw[q.length];exact hl) Qij,?_⟩;obtain⟨r2,st⟩:=rel'.mut hd hx (q'.app (.cons vk .nil));exact en.nx.go _ hn _ _ r2 ((Stp.kp kp).trans st)
 ·exact hw.elim
def QvC(i:Nat)(rD:Qa->Qa->(Qa->Prop)->Prop)(wi we:DE):DS:=λD δ=>match δ[i]? with
 |some (.own ds)=>wi δ (λz=>match z with
  |.int k=>∃j a,ixN ds.length k=some j/\ds[j]? = some a/\we δ (λe=>rD a e λb=>D.nx (δ.set i (.own (ds.set j b)))) D.ex
  |_=>False) D.ex
 |_=>False
theorem QpU{r:TIp}{rD:Qa->Qa->(Qa->Prop)->Prop}(hd:Qs4 r rD)(h:PS X st (Qwy (Qo9 i) (tX .P X.K E wi) (tX .P X.K E we) (Qzh X.K) (λx y H Q=>Qdw H->r x y H Q) QwT)):PS X st (tS X.K E (QvC i rD wi we)):=by
 refine PS.imp h λD σ H ⟨F,δ,DD,rel,hw,en⟩=>?_
 unfold QvC at hw;split at hw
 ·rename_i ds hds
  obtain⟨x,hx⟩:=rel.lt hds;obtain⟨l,xs,rfl,e,q,f⟩:=rel.sl i _ _ hx hds;have np:=rel.own_pot hds hx;refine⟨.ref l,hx,F,δ,_,DD.ex,rel,hw,λz hz y H1 rel1 kp1 yk=>?_,en.ex⟩;cases z<;>first | exact(show False from hz).elim | skip
  obtain⟨j,a,hj,ha,hn⟩:=hz;have q1:=kp1.das q;obtain⟨va,hva,da⟩:=q1.get j a ha;rw[DP.int yk];refine⟨l,xs,_,va,rfl,rfl,SqL.of (kp1.1 _ _ np e),by unfold atI;rw[q.length,hj];exact hva,F,δ,_,DD.ex,rel1,hn,λb hb u H2 rel2 kp2 uk ln=>?_,en.ex⟩;refine hd (Av F σ δ) (Yh σ δ) H2 va u a b _ _ ln (λa ha=>rel2.isl ha) (.inl (kp2.da da)) uk hb λc hc w H3 s dw=>?_
  have r3:=rel2.same s;have k3:=kp2.trans (Kp.same rel2 s);refine⟨l,xs,_,j,rfl,rfl,k3.1 _ _ np (kp1.1 _ _ np e),by rw[q.length];exact hj,?_⟩;obtain⟨r4,st⟩:=r3.mut hds hx ((k3.das q1).set dw j);exact en.nx.go _ hc _ _ r4 (((Stp.kp kp1).trans (Stp.kp k3)).trans st)
 ·exact hw.elim
@[irreducible] def QvU(items:List Qa)(wg:DG)(wb:DS)(D:Qhx)(δ:Sts):Prop:=∃Iv:Nat->Sts->Prop,Iv 0 δ/\(∀(i:Nat) d δ,items[i]? = some d->Iv i δ->wg d δ λδ2=>wb { D with nx:=Iv (i+1),ct:=Iv (i+1),bk:=D.nx } δ2)/\∀δ,Iv items.length δ->D.nx δ
def dFor(wi:DI)(wg:DG)(wb:DS):DS:=λD δ=>wi δ (λitems=>QvU items wg wb D δ) D.ex
theorem Qus{tg iter:QU}{body:List Qad}{pos:Pos}{ix:List Nat}{wi:DI}{wg:DG}{wb:DS}(hp:PassesOwn (model X.prog X.w) X.A X.env X.xe)(hc:X.calm=true)(hi:PI X tg iter (tI .D X.K E wi))(hg:PG X tg (tG ix X.K wg))(hb:PSs X body (tS X.K E wb))
  (hs:∀x,foldedSetIterable iter X.env x=pure x:=by intro _;rfl):PS X (.For tg iter body [] pos) (tS X.K E (dFor wi wg wb)):=by
 refine PS.imp (Qw8 hp hc hi hg hb hs) λD σ H ⟨F,δ,DD,rel,hw,en⟩=>?_
 refine⟨F,δ,_,DD.ex,rel,hw,λitems hC J H1 rel1 kp1 ⟨ln,it⟩=>?_,en.ex⟩;unfold QvU at hC;obtain⟨Iv,i0,step,fin⟩:=hC;have en1:=en.step (Stp.kp (F:=F) kp1);refine⟨λi m σ' H'=>m=items.length - i/\i<=items.length/\∃δ',Iv i δ'/\Rel X.K F σ' H' δ'/\Stp F σ H1 δ σ' H' δ',⟨_,rfl,Qs _,δ,i0,rel1,Stp.refl⟩,?_⟩;rintro i m σ' H' ⟨rfl,hi',δ',iv,r',st'⟩;obtain⟨go,stop⟩:=it H' (Av F σ' δ') st'.1 st'.2 λa ha=>r'.isl ha
 by_cases hlt:i<items.length
 ·have hd:items[i]? = some items[i]:=Qo hlt;obtain⟨g1,g2⟩:=go i _ hd;refine .inr ⟨g1,λσ2 H2=>∃δ2,Iv (i+1) δ2/\Rel X.K F σ2 H2 δ2/\Stp F σ H1 δ σ2 H2 δ2,λσ2 H2 ⟨δ2,h2,r2,s2⟩=>⟨_,by omega,rfl,hlt,δ2,h2,r2,s2⟩,λx H3 y=>?_⟩;obtain⟨s3,dx⟩:=g2 x H3 y;have r3:=r'.same s3;have st3:Stp F σ H1 δ σ' H3 δ':=st'.trans (Stp.kp (Kp.same r' s3));refine⟨F,δ',_,_,r3,dx,step i _ δ' hd iv,λδ4 h4 σ4 r4 st4 _ _=>⟨F,δ4,_,r4,h4,?_⟩⟩;have st5:=st3.trans st4;exact⟨⟨λδ6 h6 σ6 H6 r6 s6=>⟨δ6,h6,r6,st5.trans s6⟩⟩,en.rt,en.rtF,(en1.step st5).nx,⟨λδ6 h6 σ6 H6 r6 s6=>⟨δ6,h6,r6,st5.trans s6⟩⟩,en.ex⟩
 ·have e:i=items.length:=by omega
  subst e;exact .inl ⟨stop,(en1.step st').nx.go δ' (fin δ' iv) σ' H' r' Stp.refl⟩
theorem QjI{lo:Int}{n:Nat}{wg:DG}{wb:DS}{D:Qhx}{δ:Sts}(Iv:Nat->Sts->Prop)(h0:Iv 0 δ)
  (hs:∀(i:Nat) δ,i<n->Iv i δ->wg (.int (lo+i)) δ λδ2=>wb { D with nx:=Iv (i+1),ct:=Iv (i+1),bk:=D.nx } δ2)(hd:∀δ,Iv n δ->D.nx δ):QvU (Qjh lo n) wg wb D δ:=by
 unfold QvU;exact⟨Iv,h0,λi d δ hd iv=>by obtain⟨hi,rfl⟩:=Qc1 hd;exact hs i δ hi iv,λδ iv=>hd δ (by rw[Qjg] at iv;exact iv)⟩
theorem Qdu{items:List Qa}{wg:DG}{wb:DS}{D:Qhx}{δ:Sts}(Iv:Nat->Sts->Prop)(h0:Iv 0 δ)
  (hs:∀(i:Nat) d δ,items[i]? = some d->Iv i δ->wg d δ λδ2=>wb { D with nx:=Iv (i+1),ct:=Iv (i+1),bk:=D.nx } δ2)(hd:∀δ,Iv items.length δ->D.nx δ):QvU items wg wb D δ:=by
 unfold QvU;exact⟨Iv,h0,hs,hd⟩
def QyK(we:DE):DS:=λD δ=>we δ (λ_=>D.nx δ) D.ex
theorem QpS(h:PS X st (Qpa (tX .P X.K E we))):PS X st (tS X.K E (QyK we)):=by
 refine PS.imp h λD σ H ⟨F,δ,DD,rel,hw,en⟩=>?_
 exact⟨F,δ,_,DD.ex,rel,hw,λd hd v H' rel' kp vk=>en.nx.go δ hd σ H' rel' (Stp.kp kp),en.ex⟩
end
def stD(N:List Str)(args:List Sl):Sts:=args++Jj (N.length - args.length) .no
theorem Qf8{α β:Type}{R:α->β->Prop}:∀{xs:List α}{ys:List β},Qbp R xs ys->∀(i:Nat) x y,xs[i]? = some x->ys[i]? = some y->R x y
 |_,_,.nil,i,x,y,h,_=>by simp at h
 |_,_,.cons a b,0,x,y,h,h'=>by simp at h h';subst h h';exact a
 |_,_,.cons a b,i+1,x,y,h,h'=>Qf8 b i x y (by simpa using h) (by simpa using h')
theorem Qmv{K:PySem.W.Frag}{N:List Str}{A pt:Addr->Prop}{H:Hp}{vs:List V}{args:List Sl}(dm:∀a,A a->∃xs,H a=some (.lst xs))(hp:∀p,pt p->A p/\∃n,H p=some (.lst [.int n]))(q:Qbp (QlY A pt H) vs args):Rel K ⟨H,A,pt⟩ (L2.start N vs) H (stD N args):=by
 have hl:vs.length=args.length:=q.length;have no:∀(i:Nat) x,(stD N args)[i]? = some x->(i<args.length/\args[i]? = some x)∨x=.no:=λi x h=>by
  unfold stD at h;by_cases z:i<args.length
  ·rw[ZH z] at h;exact .inl ⟨z,h⟩
  ·rw[Jk (by omega),Yv] at h;split at h
   ·exact .inr (Qt h).symm
   ·cases h
 have arg:∀(i:Nat) o x,(L2.start N vs)[i]? = some o->(stD N args)[i]? = some x->x≠.no->∃v,o=some v/\QlY A pt H v x:=λi o x h1 h2 hx=>by
  rcases no i x h2 with⟨z,e⟩ | e
  ·unfold L2.start at h1;rw[ZH (by rw[Qf];omega),QB] at h1;obtain⟨v,hv,rfl⟩:=Zy.mp h1;exact⟨v,rfl,Qf8 q i v x hv e⟩
  ·exact absurd e hx
 have av:∀a,Av ⟨H,A,pt⟩ (L2.start N vs) (stD N args) a->A a:=λa z=>by
  rcases z with z | ⟨i,h1,h2⟩
  ·exact z
  ·rcases h2 with h2 | ⟨ds,h2⟩
   ·obtain⟨v,e,p,rfl,hp'⟩:=arg i _ _ h1 h2 (λz=>by cases z);cases e;exact(hp _ hp').1
   ·obtain⟨v,e,hh⟩:=arg i _ _ h1 h2 (λz=>by cases z);exact hh.elim
 exact{
  len:=by unfold L2.start stD;rw[Qv,Qv,Qf,QaY,QaY,hl]
  dom:=dm
  dom0:=dm
  pt0:=hp
  kx:=λ_ _ _ e=>e
  sl:=λi o x h1 h2=>by
   cases x with
   |no=>trivial
   |v d=>
    obtain⟨v,e,hh⟩:=arg i _ _ h1 h2 (λz=>by cases z);exact⟨v,e,DA.mv hh (λ_ _ _ e=>e) λa z=>.inl (av a z)⟩
   |pot=>
    obtain⟨v,e,p,rfl,hp'⟩:=arg i _ _ h1 h2 (λz=>by cases z);obtain⟨_,n,en⟩:=hp p hp';exact⟨p,n,e,en,.inl hp'⟩
   |own ds=>obtain⟨v,e,hh⟩:=arg i _ _ h1 h2 (λz=>by cases z);exact hh.elim
   |pk ds=>obtain⟨v,e,hh⟩:=arg i _ _ h1 h2 (λz=>by cases z);exact hh.elim
   |scr=>obtain⟨v,e,hh⟩:=arg i _ _ h1 h2 (λz=>by cases z);exact hh.elim
  inj:=λi j a ds h1 h2 _=>by
   obtain⟨v,e,hh⟩:=arg i _ _ h2 h1 (λz=>by cases z);exact hh.elim }
def QB8:Qa->Bool
 |.list _=>false
 |_=>true
def rtD:Bool->(Qa->Prop)->Qa->Prop
 |true,R,d=>QB8 d=true/\R d
 |false,R,d=>R d
def Qvr(fr:Bool)(R:Qa->Prop)(EX:XP):Qhx:=⟨λ_=>R .none,rtD fr R,R,λ_=>False,λ_=>False,EX⟩
theorem Qvq{K:PySem.W.Frag}{E Ex:XK}{fr:Bool}{A pt:Addr->Prop}{H:Hp}{R:Qa->Prop}{EX EX':XP}{Q:VK}{σ:L2.St}{δ:Sts}(k:∀d,R d->∀v H',Kq pt H H'->DA A H' v d->(fr=true->FrV H H' v)->Q v H')(o:Out ⟨H,A,pt⟩ E EX') :
  Ends1 K E ⟨H,A,pt⟩ σ H δ (Qvr fr R EX') { nx:=λ_ H'=>Q .non H',rt:=Q } where
 nx:=⟨λδ' hR σ' H' r st=>k _ hR _ H' r.ke .non λ_=>Qvm⟩
 rt:=λd h v H' ke dv=>by
  cases fr with
  |false=>exact k d h v H' ke dv λz=>by cases z
  |true=>
   obtain⟨h1,h2⟩:=h;refine k d h2 v H' ke dv λz l e1 ⟨xs,e2⟩=>?_
   subst e1;cases dv with
   |@tup a ys ds n e q=>rw[e] at e2;cases e2
   |@lst a ys ds n e q=>cases h1
   |@dct a kvs ds n e q=>rw[e] at e2;cases e2
 rtF:=λd h v H' ke dv fr'=>k d h v H' ke dv λ_=>fr'
 bk:=⟨λ_ h=>h.elim⟩
 ct:=⟨λ_ h=>h.elim⟩
 ex:=o
section
variable{P:QC}{w:Q9}{K:PySem.W.Frag}{mg:Str->Option Value}{base:Heap}
theorem okD{x qual:Str}{st:Qad}{f:Addr}{fd:Q2}{N ps:List Str}{k:Nat}{fD:DF}(fr:Bool)(F:Fun K x qual st f fd)(S:JV N ps (QD st))(len:∀args R EX,fD args R EX->args.length=ps.length)
  (hbody:∀(cdv:Value)(A:Q5)(outer:List Env)(s:Shared)(H:Hp)(E:XK),Room k (A.deeper (envOfC qual (QD st) s.heap.objs.size f cdv)) ->
   ∃wd,PSs (QoV CX0 P w K mg base N qual (QD st) f cdv A outer s H E).nox (JO st) (tS K E0 wd)/\∀args R EX,fD args R EX->wd (Qvr fr R XF) (stD N args)):FnOk P w K mg base CX0 (k+1) f fd ps (Zw fr fD):=by
 refine F.ok S (λvs H Q E h=>?_) λcdv A outer s H vs Q E hr h=>?_
 ·obtain⟨A,pt,args,R,EX,_,_,q,h,_⟩:=h;rw[q.length];exact len _ _ _ h
 ·obtain⟨wd,hp,hw⟩:=hbody cdv A outer s H E hr;obtain⟨A',pt,args,R,EX,dm,hpt,q,h,k,_⟩:=h;exact⟨_,hp,⟨H,A',pt⟩,_,_,Qmv dm hpt q,hw args R EX h,Qvq (Ex:=E) (EX:=EX) k Ql4⟩
end
end Dl
namespace L2
end L2
namespace Rk
open L2 _root_.Rd
end Rk
namespace Dl
open L2 _root_.Rd Rk
theorem ZO{X:Cx}{E:XK}:Qfs CX0 X E:=λ_ _ _ _ _ _ _ h=>h.elim
theorem Room.u60{k:Nat}{A:Q5}(r:Room k A):A.units+60<cLine:=by have:=r.un;omega
theorem Room.i60{k:Nat}{A:Q5}(r:Room k A):A.in1.units+60<cLine:=by
 have:=r.un;show A.units+1+60<cLine;omega
section
variable{X:Cx}{E:XK}{CX:CXT}{k:Nat}{f:Addr}{fd:Q2}{ps:List Str}{x:Str}{p pos:Pos}{e:QU}{es:List QU}{fD:DF}
def isW:Qa->Bool
 |.int _=>true
 |_=>false
def Qmi:DF:=λargs R _=>∃d,args=[.v d]/\R (.bool (isW d))
theorem QtF{K:PySem.W.Frag}{F:Fm}{σ:L2.St}{H:Hp}{δ:Sts}(r:Rel K F σ H δ){a:Addr}{xs:List V}(h:SqL K F.H0 a xs)(n:¬F.pt a):SqL K H a xs:=by
 rcases h with h | h
 ·rcases h with h | ⟨o,h⟩
  ·exact .inl (.inl (r.kx _ _ n h))
  ·exact .inl (.inr ⟨o,r.kx _ _ n h⟩)
 ·exact .inr h
def QCn(i:Nat):DE:=λδ Q _=>match δ[i]? with
 |some .scr=>∀n:Nat,n<=63->Q (.int n)
 |_=>False
def QvB(i:Nat)(wb:DE):DE:=λδ Q EX=>match δ[i]? with
 |some .scr=>wb δ (λd=>match d with
  |.int k=>0<=k/\∀c,Q (.int c)
  |_=>False) EX
 |_=>False
theorem QuA{i:Nat}{a b:QU}{wb:DE}(G:FnOk X.prog X.w X.K X.mg X.base CX0 k f fd ps (Qdj X.K))(hr:Room k X.A)(hg:Gl X x)(hm:X.mg x=some (.ref f))(hk:PySem.W.keepIn X.K (.ref f)=true)(hb:Binds X.K fd ps [])
  (ha:PE X a (Qo9 i))(h:PE X b (tX .P X.K E wb))(h1:notStar a=true:=by rfl)(h2:notStar b=true:=by rfl)(hdb:(x == ("__debug__" : Str))=false:=by decide) :
  PE X (.Call (.Name x p) [a,b] [] pos) (tX .F X.K E (QvB i wb)):=by
 refine PE.imp (Qjo (E:=E) G hr hg hm hk hb .nil ZO (Qeg ha (Qeg h Qaj h2) h1) hdb (ZX h1) (by rw[ZX h2];rfl)) λσ H Q ⟨F,δ,R,EX,rel,hw,k,o⟩=>?_
 unfold QvB at hw;split at hw
 ·rename_i hd
  obtain⟨x,hx⟩:=rel.lt hd;obtain⟨l,ns,rfl,sq,np,n63⟩:=rel.sl i _ _ hx hd;refine⟨_,hx,F,δ,_,EX,rel,hw,λd hd2 v H' rel' kp vk=>?_,o⟩;cases d<;>first | exact(show False from hd2).elim | skip
  rw[DP.int vk];exact⟨l,ns,_,rfl,QtF rel' sq np,YV n63 (by decide),hd2.1,λc=>k _ (hd2.2 c) _ H' rel' kp ⟨.int _,Qa6⟩⟩
 ·exact hw.elim
end
section
variable{P:QC}{w:Q9}{K:PySem.W.Frag}{mg:Str->Option Value}{base:Heap}
def QfT(K:PySem.W.Frag):Sp:=λvs H Q _=>∃(a:Addr)(ns:List Int),vs=[.ref a]/\SqL K H a (ns.map V.int)/\ns.length<=63/\∀H',Q (.bl true) H'
def Qyu:Qhx:=⟨λ_=>False,λd=>d=.bool true,λd=>d=.bool true,λ_=>False,λ_=>False,XF⟩
theorem QAI{x qual:Str}{st:Qad}{f:Addr}{fd:Q2}{N:List Str}{p:Str}{k:Nat}(F:Fun K x qual st f fd)(S:JV N [p] (QD st))
  (hbody:∀(cdv:Value)(A:Q5)(outer:List Env)(s:Shared)(H:Hp)(E:XK),Room k (A.deeper (envOfC qual (QD st) s.heap.objs.size f cdv)) ->
   ∃wd,PSs (QoV CX0 P w K mg base N qual (QD st) f cdv A outer s H E).nox (JO st) (tS K E0 wd)/\wd Qyu (stD N [.scr])):FnOk P w K mg base CX0 (k+1) f fd [p] (QfT K):=by
 refine F.ok S (λvs H Q E h=>?_) λcdv A outer s H vs Q E hr h=>?_
 ·obtain⟨a,ns,rfl,_⟩:=h;rfl
 ·obtain⟨wd,hp,hw⟩:=hbody cdv A outer s H E hr;obtain⟨a,ns,rfl,sq,n63,k⟩:=h;have get0:∀(i:Nat) o y,(L2.start N [V.ref a])[i]? = some o->(stD N [.scr])[i]? = some y->y≠.no->o=some (.ref a)/\y=.scr:=λi o y h1 h2 hy=>by
   cases i with
   |zero=>cases h1;cases h2;exact⟨rfl,rfl⟩
   |succ i=>
    unfold stD at h2;rw[Jk (by simp),Yv] at h2;split at h2
    ·exact absurd (Qt h2).symm hy
    ·cases h2
  have noav:∀b,¬Av (⟨H,λ_=>False,λ_=>False⟩:Fm) (L2.start N [V.ref a]) (stD N [.scr]) b:=λb z=>by
   rcases z with z | ⟨i,h1,h2⟩
   ·exact z
   ·rcases h2 with h2 | ⟨ds,h2⟩
    ·cases(get0 i _ _ h1 h2 (λz=>by cases z)).2
    ·cases(get0 i _ _ h1 h2 (λz=>by cases z)).2
  refine⟨_,hp,⟨H,λ_=>False,λ_=>False⟩,_,_,?_,hw,?_⟩
  ·exact{
    len:=by unfold L2.start stD;simp
    dom:=λ_ h=>h.elim
    dom0:=λ_ h=>h.elim
    pt0:=λ_ h=>h.elim
    kx:=λ_ _ _ e=>e
    sl:=λi o y h1 h2=>by
     cases y with
     |no=>trivial
     |scr=>
      obtain⟨rfl,_⟩:=get0 i _ _ h1 h2 (λz=>by cases z);exact⟨a,ns,rfl,sq,λz=>z,n63⟩
     |v d=>cases(get0 i _ _ h1 h2 (λz=>by cases z)).2
     |own d=>cases(get0 i _ _ h1 h2 (λz=>by cases z)).2
     |pk d=>cases(get0 i _ _ h1 h2 (λz=>by cases z)).2
     |pot=>cases(get0 i _ _ h1 h2 (λz=>by cases z)).2
    inj:=λi j b ds h1 h2 _=>by cases(get0 i _ _ h2 h1 (λz=>by cases z)).2 }
  ·exact{
    nx:=⟨λ_ h=>h.elim⟩
    rt:=λd h v H' ke dv=>by cases(show d=.bool true from h);cases dv;exact k H'
    rtF:=λd h v H' ke dv _=>by cases(show d=.bool true from h);cases dv;exact k H'
    bk:=⟨λ_ h=>h.elim⟩
    ct:=⟨λ_ h=>h.elim⟩
    ex:=Ql4 }
end
theorem Qs3{b c:Bool}{R:Qa->Prop}(h:R (.bool (b&&c))):if b=true then R (.bool c) else R (.bool false):=by
 cases b
 ·exact QAN h
 ·exact Qzl h
theorem Qd7{b c:Bool}{R:Qa->Prop}{Pk:Prop}(h:R (.bool (b&&c)))(k:b=true->R (.bool c)->Pk):if b=true then Pk else R (.bool false):=by
 cases b
 ·exact QAN h
 ·exact Qzl (k rfl h)
theorem ifF{c:Bool}{A B:Prop}(h:c=false)(k:B):if c=true then A else B:=by subst h;exact k
theorem ifT{c:Bool}{A B:Prop}(h:c=true)(k:A):if c=true then A else B:=by subst h;exact k
theorem ifC{c:Bool}{A B:Prop}(t:c=true->A)(f:c=false->B):if c=true then A else B:=by
 cases c
 ·exact f rfl
 ·exact t rfl
theorem all_map{α:Type}(l:List α)(g:α->Bool):(l.map g).all id=l.all g:=by
 rw[QzP];rfl
theorem Qc9{ds:List Qa}{Q:Qa->Prop}{g:Qa->Bool}{items:List Qa}(h:ds=[.list (items.map λd=>.bool (g d))])(q:Q (.bool (items.all g))):Qzn ds Q:=by
 subst h;unfold Qzn;refine⟨items.map g,?_,by rw[all_map];exact q⟩;rw[show items.map (λd=>Qbe (g d))=(items.map g).map Qbe by rw[Q8];rfl,QoC]
end Dl
namespace L2
section
variable{X:Cx}
end
end L2
namespace Dl
open L2 _root_.Rd Rk
section
variable{X:Cx}{E:XK}
def QAd(d:Qa)(Q:Qa->Prop):Prop:=
 match d with
 |.list ds=>Q (.list ds.reverse)
 |_=>False
def QCl(we ws:DE):DE:=λδ Q EX=>we δ (λd=>ws δ (λs=>(match s with | .int i=>i = -1 | _=>False)/\QAd d Q) EX) EX
def QyI(w:DE):DE:=λδ Q EX=>w δ (λd=>match d with
 |.int j=>(-1000<=j/\j<=1000)/\Q (.list ((Qq j.toNat).map λ(i:Nat)=>.int i))
 |_=>False) EX
theorem Qvx{A:Addr->Prop}{H:Hp}(l:List Nat):DAs A H (l.map λ(i:Nat)=>V.int (i:Nat)) (l.map λ(i:Nat)=>Qi (i:Nat)):=by
 induction l with
 |nil=>exact .nil
 |cons i l ih=>exact .cons (.int _) ih
variable{e:QU}{w:DE}{p p2 pos pos2:Pos}
theorem Qnd(hg:Gl X "list")(hm:X.mg "list" = none)(hg2:Gl X "range")(hm2:X.mg "range" = none)(h:PE X e (tX .P X.K E w))(hc:X.calm=true:=by rfl)(hs:notStar e=true:=by rfl):PE X (.Call (.Name "list" p) [.Call (.Name "range" p2) [e] [] pos2] [] pos) (tX .F X.K E (QyI w)):=by
 refine PE.imp (Qdm (QjR hc) hg hm Qoy (Qeg (Qkx hg2 hm2 (Qeg h Qaj hs) (by rw[ZX hs];rfl)) Qaj)) λσ H Q ⟨F,δ,R,EX,rel,hw,k,o⟩=>?_
 refine⟨F,δ,_,EX,rel,hw,λd hd v H1 rel1 kp1 vk=>?_,o⟩;cases d<;>first | exact(show False from hd).elim | skip
 obtain⟨⟨h1,h2⟩,hR⟩:=hd;rw[DP.int vk];refine⟨_,rfl,λr H2 s2 n2 e2=>⟨r,_,rfl,e2,h1,h2,λt H3 s3 n3 e3=>?_⟩⟩;have r2:=rel1.same s2;have K2:=kp1.trans (Kp.same rel1 s2);exact k _ hR _ H3 (r2.same s3) (K2.trans (Kp.same r2 s3)) ⟨Qdo (λa ha=>r2.isl ha) s3 n3 e3 (Qvx _),Qa5 (Qbu K2 n3)⟩
end
theorem QrU{xs:List Qa}{lo hi:Option Int}{d:Qa}(h:d∈cutD xs lo hi):d∈xs:=Qbb (QdA h)
structure QE (m:Md) (X:Cx) (E:XK) (e:QU) (w:DE):Prop where h:PE X e (tX m X.K E w)
structure QT (X:Cx) (E:XK) (e:QU) (w:DT):Prop where h:PT X e (tT X.K E w)
structure QW (X:Cx) (E:XK) (e:QU) (w:DT):Prop where h:PW X e (tT X.K E w)
structure QTs (X:Cx) (E:XK) (es:List QU) (w:DT):Prop where h:PTs X es (tT X.K E w)
structure QA (n:Nat) (m:Md) (X:Cx) (E:XK) (es:List QU) (w:DAr):Prop where h:PA X es (tAr n m X.K E w)
structure QAs (X:Cx) (E:XK) (es:List QU) (w:DSl):Prop where h:PA X es (tAs X.K E w)
structure QO (X:Cx) (E:XK) (o:Option QU) (w:DO):Prop where h:PO X o (tO X.K E w)
structure QG (ix:List Nat) (X:Cx) (tg:QU) (w:DG):Prop where h:PG X tg (tG ix X.K w)
structure QI (m:Md) (X:Cx) (E:XK) (tg it:QU) (w:DI):Prop where h:PI X tg it (tI m X.K E w)
structure QS (X:Cx) (E:XK) (st:Qad) (w:DS):Prop where h:PS X st (tS X.K E w)
structure QSs (X:Cx) (E:XK) (sts:List Qad) (w:DS):Prop where h:PSs X sts (tS X.K E w)
section
variable{X:Cx}{E:XK}
theorem Z5{e:QU}{w:DE}(h:QE .F X E e w):QE .D X E e w:=⟨toD h.h⟩
theorem JD{e:QU}{w:DE}(h:QE .D X E e w):QE .P X E e w:=⟨toP h.h⟩
theorem JB{e:QU}{w:DE}(h:QE .F X E e w):QE .P X E e w:=⟨QBV h.h⟩
theorem qv(i:Nat){x:Str}{pos:Pos}(hN:X.N[i]? = some x:=by rfl)(hv:Vis X.env.scope x:=by first | exact Ju rfl | exact Jl (Ju rfl) | exact Jl (Jl rfl))(hd:(x == ("__debug__" : Str))=false:=by decide)(hcd:(x == ("__classdict__" : Str))=false:=by decide):QE .D X E (.Name x pos) (QA2 i):=⟨Qxo (pv i hN hv hd hcd)⟩
theorem qp(i:Nat){x:Str}{pos:Pos}(hN:X.N[i]? = some x:=by rfl)(hv:Vis X.env.scope x:=by first | exact Ju rfl | exact Jl (Ju rfl) | exact Jl (Jl rfl))(hd:(x == ("__debug__" : Str))=false:=by decide)(hcd:(x == ("__classdict__" : Str))=false:=by decide):QE .P X E (.Name x pos) (dPk i):=⟨QAr (pv i hN hv hd hcd)⟩
theorem Zh{i:Int}{j pos}:QE .D X E (.Constant (.int i) j pos) (dC (.int i)):=⟨Qxu⟩
theorem QmV{b:Bool}{j pos}:QE .D X E (.Constant (.bool b) j pos) (dC (.bool b)):=⟨QAw⟩
theorem Qsw{x:Str}(i:Int){u:Value}{pos:Pos}(hg:Gl X x)(hm:X.mg x=some u)(r:RelV (.int i) u)(hd:(x == ("__debug__" : Str))=false:=by decide):QE .D X E (.Name x pos) (dC (.int i)):=⟨QAv (Quf hg hm r hd) λ_ _=>.int i⟩
theorem Qav{a b:QU}{wa wb:DE}{pos:Pos}{r:R2}{rD:Qa->Qa->(Qa->Prop)->Prop}{op:Qgy}(ho:OpR X (binaryOp op) r)(hd:OpD r rD)(ha:QE .P X E a wa)(hb:QE .P X E b wb):QE .F X E (.BinOp a op b pos) (dOp rD wa wb):=⟨Qxx ho hd ha.h hb.h⟩
theorem Qh3{a b:QU}{wa wb:DE}{pos:Pos}{r:R2}{rD:Qa->Qa->(Qa->Prop)->Prop}{op:Qtj}(ho:OpR X (compareOp op) r)(hd:OpD r rD)(ha:QE .P X E a wa)(hb:QE .P X E b wb)(hm:behindInMarks op b=false):QE .F X E (.Compare a [op] [b] pos) (dOp rD wa wb):=⟨Qxw ho hd ha.h hb.h hm⟩
theorem Qat{a b:QU}{wa wb:DE}{pos:Pos}{r:R2}{rD:Qa->Qa->(Qa->Prop)->Prop}{op:Qtj}(ho:OpR X (compareOp op) r)(hd:OpD r rD)(ha:QE .P X E a wa)(hb:QE .P X E b wb)(hm:behindInMarks op b=false):QT X E (.Compare a [op] [b] pos) (dTst (dOp rD wa wb)):=⟨Qun ho hd ha.h hb.h hm⟩
theorem Qcy{a b:QU}{wa wb:DE}{pos:Pos}{r:R2}{rD:Qa->Qa->(Qa->Prop)->Prop}(ho:IxR X r)(hd:Qs4 r rD)(ha:QE .P X E a wa)(hb:QE .P X E b wb)(hs:QjX b):QE .D X E (.Subscript a b pos) (dOp rD wa wb):=⟨QAt ho hd ha.h hb.h hs⟩
theorem QtX{a:QU}{wa:DE}{pos:Pos}(ha:QE .P X E a wa):QE .F X E (.UnaryOp .USub a pos) (dUn QBt wa):=⟨Qxs ha.h⟩
theorem QB5{a b c:QU}{wa wb wc:DE}{pos:Pos}{op op':Qtj}{p q:Int->Int->Bool}(ho:OpR X (compareOp op) (rI0 λi j=>.bl (p i j)))(ho':OpR X (compareOp op') (rI0 λi j=>.bl (q i j)))(ha:QE .P X E a wa)(hb:QE .P X E b wb)(hc:QE .P X E c wc)(hm:lastMarks [op,op'] [b,c]=false:=by with_unfolding_all rfl):QE .F X E (.Compare a [op,op'] [b,c] pos) (dCh p q wa wb wc):=⟨QAu ho ho' ha.h hb.h hc.h hm⟩
theorem Qko{e:QU}{w:DE}(h:QE .P X E e w)(he:∀whole,isTrue e X.env whole=(do let v <- whole;standAt e.pos;holding [v] (truthy v)):=by intro _;rfl):QT X E e (dTru w):=⟨Qul h.h he⟩
theorem Qa2{e:QU}{w:DE}(h:QE .P X E e w)(he:∀whole,isTrue e X.env whole=(do let v <- whole;standAt e.pos;holding [v] (truthy v)):=by intro _;rfl):QT X E e (dTst w):=⟨Quk h.h he⟩
theorem QtT{a:QU}{pos:Pos}{ta:DT}(ha:QT X E a ta):QW X E (.BoolOp .And [a] pos) ta:=⟨QpM ha.h⟩
theorem QwX{a b:QU}{rest:List QU}{pos:Pos}{ta tb:DT}(ha:QT X E a ta)(hb:QW X E (.BoolOp .And (b::rest) pos) tb):QW X E (.BoolOp .And (a::b::rest) pos) (QBM ta tb):=⟨Quj ha.h hb.h⟩
theorem QfH{a b:QU}{rest:List QU}{pos:Pos}{wa wb:DE}(ha:QE .P X E a wa)(hb:QE .D X E (.BoolOp .And (b::rest) pos) wb):QE .D X E (.BoolOp .And (a::b::rest) pos) (QyL wa wb):=⟨Qxy ha.h hb.h⟩
theorem Qef{a:QU}{pos:Pos}{ta:DT}(ha:QT X E a ta):QW X E (.BoolOp .Or [a] pos) ta:=⟨Qui ha.h⟩
theorem QgX{a b:QU}{rest:List QU}{pos:Pos}{ta tb:DT}(ha:QT X E a ta)(hb:QW X E (.BoolOp .Or (b::rest) pos) tb):QW X E (.BoolOp .Or (a::b::rest) pos) (dOr ta tb):=⟨Qxm ha.h hb.h⟩
theorem Qpy{e:QU}{t:DT}(h:QW X E e t):QT X E e t:=⟨PW.pt h.h⟩
theorem Qaz{a:QU}{pos:Pos}{ta:DT}(ha:QT X E a ta):QT X E (.UnaryOp .Not a pos) (QBE ta):=⟨Qum ha.h⟩
theorem QfG{op}{a:QU}{pos:Pos}{w:DE}(h:QE .D X E a w):QE .D X E (.BoolOp op [a] pos) w:=⟨Qxq h.h⟩
theorem QAl{a:QU}{pos:Pos}{wa:DE}(ha:QE .P X E a wa):QE .D X E (.UnaryOp .Not a pos) (QyH wa):=⟨Qxr ha.h⟩
theorem Qw1{c a b:QU}{pos:Pos}{ta:DT}{wa wb:DE}(hc:QT X E c ta)(ha:QE .D X E a wa)(hb:QE .D X E b wb):QE .D X E (.IfExp c a b pos) (QBJ ta wa wb):=⟨Qxv hc.h ha.h hb.h⟩
theorem J8{m:Md}:QA 0 m X E [] QBF:=⟨Qux⟩
theorem Qev{n:Nat}{e:QU}{es:List QU}{we:DE}{wr:DAr}(he:QE .D X E e we)(hr:QA n .D X E es wr)(hs:notStar e=true:=by rfl):QA (n+1) .D X E (e::es) (Qok we wr):=⟨Qnc he.h hr.h hs⟩
theorem QdW{n:Nat}{e:QU}{es:List QU}{we:DE}{wr:DAr}(he:QE .P X E e we)(hr:QA n .P X E es wr)(hs:notStar e=true:=by rfl):QA (n+1) .P X E (e::es) (Qok we wr):=⟨Qnb he.h hr.h hs⟩
theorem QdX{n:Nat}{es:List QU}{w:DAr}{x1}{pos:Pos}(h:QA n .D X E es w)(hn:n<=1000:=by decide):QE .F X E (.Tuple es x1 pos) (QBB w):=⟨Qxp h.h hn⟩
theorem QmT{n:Nat}{es:List QU}{w:DAr}{pos:Pos}(h:QA n .D X E es w)(hn:n<=1000:=by decide):QE .F X E (.List es pos) (QBG w):=⟨Qxt h.h hn⟩
theorem Z9{x:Str}{bid:String}{p pos:Pos}{e:QU}{es:List QU}{n:Nat}{wr:DAr}{r:List V->Hp->VK->Prop}{rD:List Qa->(Qa->Prop)->Prop}(hc:CallR X (.builtin bid) r)(hd:Qd8 r rD)(hg:Gl X x)(hm:X.mg x=none)(hv:bootBuiltins x=some (.builtin bid))(ha:QA n .P X E (e::es) wr)(hn:x ≠ "__name__" := by decide)(hdb:(x == ("__debug__" : Str))=false:=by decide)(he:starEach (e::es) X.env=(false,eval e X.env)::starEach es X.env:=by rfl)(hpl:(backTo pos (starEach es X.env)).any (·.1)=false:=by rfl):QE .F X E (.Call (.Name x p) (e::es) [] pos) (dCB rD wr):=⟨Qp6 hc hd hg hm hv ha.h hn hdb he hpl⟩
theorem Qdl{x:Str}{T:String}{p pos:Pos}{e:QU}{es:List QU}{n:Nat}{wr:DAr}{r:List V->Hp->VK->Prop}{rD:List Qa->(Qa->Prop)->Prop}(hc:CallR X (.type T) r)(hd:Qd8 r rD)(hg:Gl X x)(hm:X.mg x=none)(hv:bootBuiltins x=some (.type T))(ha:QA n .P X E (e::es) wr)(hn:x ≠ "__name__" := by decide)(hdb:(x == ("__debug__" : Str))=false:=by decide)(he:starEach (e::es) X.env=(false,eval e X.env)::starEach es X.env:=by rfl)(hpl:(backTo pos (starEach es X.env)).any (·.1)=false:=by rfl):QE .F X E (.Call (.Name x p) (e::es) [] pos) (dCB rD wr):=⟨Qnf hc hd hg hm hv ha.h hn hdb he hpl⟩
theorem Qe8{e:QU}{we:DE}{p pos pos2:Pos}{x:Str}(tn:Tn)(hg:Gl X "isinstance")(hm:X.mg "isinstance" = none)(he:QE .P X E e we)(hg2:Gl X x)(hm2:X.mg x=none)(hv:bootBuiltins x=some (.type tn.s))(hn:x ≠ "__name__" := by decide)(hd:(x == ("__debug__" : Str))=false:=by decide)(h1:notStar e=true:=by rfl):QE .F X E (.Call (.Name "isinstance" p) [e,.Name x pos2] [] pos) (QyJ tn we):=⟨Quy tn hg hm he.h (QAx tn hg2 hm2 hv hn hd) h1 rfl⟩
theorem Qe6  : QO X E none dNo:=⟨QpW⟩
theorem Qe5{e:QU}{we:DE}(he:QE .P X E e we):QO X E (some e) (dSo we):=⟨QpV he.h⟩
theorem Qe7{e:QU}{lo hi:Option QU}{we:DE}{wl wh:DO}{p2 pos:Pos}(he:QE .P X E e we)(hl:QO X E lo wl)(hh:QO X E hi wh):QE .F X E (.Subscript e (.Slice lo hi none p2) pos) (dSl we wl wh):=⟨Qp3 he.h hl.h hh.h⟩
theorem Qpz{e:QU}{w:DE}{p p2 pos pos2:Pos}(hg:Gl X "list")(hm:X.mg "list" = none)(hg2:Gl X "range")(hm2:X.mg "range" = none)(h:QE .P X E e w)(hc:X.calm=true:=by rfl)(hs:notStar e=true:=by rfl):QE .F X E (.Call (.Name "list" p) [.Call (.Name "range" p2) [e] [] pos2] [] pos) (QyI w):=⟨Qnd hg hm hg2 hm2 h.h hc hs⟩
theorem JU  : QAs X E [] QBf:=⟨Quq⟩
theorem Z4{e:QU}{es:List QU}{we:DE}{wr:DSl}(he:QE .D X E e we)(hr:QAs X E es wr)(hs:notStar e=true:=by rfl):QAs X E (e::es) (sV we wr):=⟨QAq he.h hr.h hs⟩
theorem Zi{CX:CXT}{k:Nat}{f:Addr}{fd:Q2}{ps:List Str}{x:Str}{p pos:Pos}{e:QU}{es:List QU}{fD:DF}{wa:DSl}(G:FnOk X.prog X.w X.K X.mg X.base CX k f fd ps (Zw false fD))(hr:Room k X.A)(hg:Gl X x)(hm:X.mg x=some (.ref f))(hk:PySem.W.keepIn X.K (.ref f)=true)(hb:Binds X.K fd ps [])(hx:Qfs CX X E)(ha:QAs X E (e::es) wa)(hdb:(x == ("__debug__" : Str))=false:=by decide)(he:starEach (e::es) X.env=(false,eval e X.env)::starEach es X.env:=by rfl)(hpl:(backTo pos (starEach es X.env)).any (·.1)=false:=by rfl):QE .D X E (.Call (.Name x p) (e::es) [] pos) (Qol fD wa):=⟨QuB G hr hg hm hk hb hx ha.h hdb he hpl⟩
theorem QbO{CX:CXT}{k:Nat}{f:Addr}{fd:Q2}{ps:List Str}{x:Str}{p pos:Pos}{e:QU}{es:List QU}{fD:DF}{wa:DSl}(G:FnOk X.prog X.w X.K X.mg X.base CX k f fd ps (Zw true fD))(hr:Room k X.A)(hg:Gl X x)(hm:X.mg x=some (.ref f))(hk:PySem.W.keepIn X.K (.ref f)=true)(hb:Binds X.K fd ps [])(hx:Qfs CX X E)(ha:QAs X E (e::es) wa)(hdb:(x == ("__debug__" : Str))=false:=by decide)(he:starEach (e::es) X.env=(false,eval e X.env)::starEach es X.env:=by rfl)(hpl:(backTo pos (starEach es X.env)).any (·.1)=false:=by rfl):QE .F X E (.Call (.Name x p) (e::es) [] pos) (Qol fD wa):=⟨Qp5 G hr hg hm hk hb hx ha.h hdb he hpl⟩
theorem Qw2{k:Nat}{f:Addr}{fd:Q2}{ps:List Str}{x y:Str}{p pos pos2:Pos}{b:QU}{wb:DE}(i:Nat)(G:FnOk X.prog X.w X.K X.mg X.base CX0 k f fd ps (Qdj X.K))(hr:Room k X.A)(hg:Gl X x)(hm:X.mg x=some (.ref f))(hk:PySem.W.keepIn X.K (.ref f)=true)(hb:Binds X.K fd ps [])(h:QE .P X E b wb)(hN:X.N[i]? = some y:=by rfl)(hv:Vis X.env.scope y:=by first | exact Ju rfl | exact Jl (Ju rfl) | exact Jl (Jl rfl))(hd:(y == ("__debug__" : Str))=false:=by decide)(hcd:(y == ("__classdict__" : Str))=false:=by decide)(h2:notStar b=true:=by rfl)(hdb:(x == ("__debug__" : Str))=false:=by decide):QE .F X E (.Call (.Name x p) [.Name y pos2,b] [] pos) (QvB i wb):=⟨QuA G hr hg hm hk hb (pv i hN hv hd hcd) h.h rfl h2 hdb⟩
theorem ZA(i:Nat){x:Str}{pos:Pos}(hN:X.N.Nodup)(hi:X.N[i]? = some x)(hx:Loc X.env.scope x)(hf:X.fn x=true∨X.env.scope.names.lookup x=some .local:=by first | exact .inl rfl | exact .inr rfl | assumption):QG [i] X (.Name x pos) (gN i):=⟨Qp2 (Qm7 hN hi hx hf)⟩
structure QGs (X:Cx) (es:List QU) (is:List Nat):Prop where h:PGs X es (gNs is)
theorem QbX  : QGs X [] []:=⟨Quc⟩
theorem ZB(i:Nat){is:List Nat}{x:Str}{pos:Pos}{es:List QU}(h:QGs X es is)(hN:X.N.Nodup)(hi:X.N[i]? = some x)(hx:Loc X.env.scope x)(hf:X.fn x=true∨X.env.scope.names.lookup x=some .local:=by first | exact .inl rfl | exact .inr rfl | assumption)(hs:(assignEach (.Name x pos::es) X.env).map (·.2)=assign (.Name x pos) X.env::(assignEach es X.env).map (·.2):=by rfl):QGs X (.Name x pos::es) (i::is):=⟨QpG (Qm7 hN hi hx hf) h.h hs⟩
theorem QbW{es:List QU}{k:Nat}{pos:Pos}{is:List Nat}(hc:X.calm=true)(h:QGs X es is)(hn:(assignEach es X.env).length=is.length:=by rfl)(hst:(assignEach es X.env).findIdx? (·.1)=none:=by rfl):QG is X (.Tuple es k pos) (gTN is):=⟨Quw (Qxf hc h.h hn hst) rfl⟩
theorem QdV{m:Md}{tg e:QU}{w:DE}(h:QE m X E e w):QI m X E tg e (QBI w):=⟨Qp1 h.h⟩
theorem Qbj{m:Md}{tg e:QU}{w:DE}(h:QE m X E e w):QI m X E tg e (QBH w):=⟨Quv h.h⟩
theorem Qcc{m:Md}{tg e:QU}{w:DE}{p pos:Pos}(hg:Gl X "range")(hm:X.mg "range" = none)(h:QE .P X E e w)(hs:notStar e=true:=by rfl):QI m X E tg (.Call (.Name "range" p) [e] [] pos) (QyF w):=⟨Qp0 hg hm h.h hs⟩
theorem QtV{m:Md}{tg e e':QU}{w w':DE}{p pos:Pos}(hg:Gl X "range")(hm:X.mg "range" = none)(h:QE .P X E e w)(h':QE .P X E e' w')(hs:notStar e=true:=by rfl)(hs':notStar e'=true:=by rfl):QI m X E tg (.Call (.Name "range" p) [e,e'] [] pos) (QyE w w'):=⟨QpZ hg hm h.h h'.h hs hs'⟩
theorem Qg0{m:Md}{e:QU}{w:DE}{p pos tpos:Pos}{elts:List QU}{x1}(hg:Gl X "enumerate")(hm:X.mg "enumerate" = none)(h:QE m X E e w)(hs:notStar e=true:=by rfl):QI m X E (.Tuple elts x1 tpos) (.Call (.Name "enumerate" p) [e] [] pos) (QBK w):=⟨Qna hg hm h.h hs⟩
theorem QmS{m:Md}{e e':QU}{w w':DE}{p pos tpos:Pos}{elts:List QU}{x1}(hg:Gl X "zip")(hm:X.mg "zip" = none)(h:QE m X E e w)(h':QE m X E e' w')(hs:notStar e=true:=by rfl)(hs':notStar e'=true:=by rfl):QI m X E (.Tuple elts x1 tpos) (.Call (.Name "zip" p) [e,e'] [] pos) (QBA w w'):=⟨QpY hg hm h.h h'.h hs hs'⟩
theorem QmR{m:Md}{e e':QU}{w w':DE}{p pos tpos:Pos}{elts:List QU}{x1}(hg:Gl X "zip")(hm:X.mg "zip" = none)(h:QE m X E e w)(h':QE m X E e' w')(hs:notStar e=true:=by rfl)(hs':notStar e'=true:=by rfl):QI m X E (.Tuple elts x1 tpos) (.Call (.Name "zip" p) [e,e'] [] pos) (QBz w w'):=⟨QpX hg hm h.h h'.h hs hs'⟩
theorem ZN  : QTs X E [] QsX:=⟨QpO⟩
theorem QgY{c:QU}{t:DT}(h:QT X E c t):QTs X E [c] t:=⟨QpN h.h⟩
theorem Qbk(M:List Str)(cap:List (Option Nat)){elt tg iter:QU}{ifs:List QU}{scope:YC}{pos:Pos}{ix:List Nat}{wi:DI}{wg:DG}{wt:DT}{we:DE}(hi:QI .P X E tg iter wi)(hb:∀cl ex s3 H3 C,QG ix (blk X M scope cl ex s3 H3 C) tg wg/\QTs (blk X M scope cl ex s3 H3 C) E0 ifs wt/\QE .D (blk X M scope cl ex s3 H3 C) E0 elt we)(hc:X.calm=true:=by rfl)(ok:QcO X.N X.env.scope M scope cap=true:=by rfl)(hf:QaU cap ix=true:=by rfl)(hs:∀x,foldedSetIterable iter X.env x=pure x:=by intro _;rfl):QE .F X E (.ListComp elt [⟨tg,iter,ifs,0⟩] scope pos) (dComp cap wi wg wt we):=⟨Quz hc ok hf hi.h (λcl ex s3 H3 C=>⟨(hb cl ex s3 H3 C).1.h,(hb cl ex s3 H3 C).2.1.h,(hb cl ex s3 H3 C).2.2.h⟩) hs⟩
theorem Z8  : QSs X E [] QyD:=⟨QpP⟩
theorem Jt{st:Qad}{w:DS}(h:QS X E st w):QSs X E [st] w:=⟨Qup h.h⟩
theorem Q4{st:Qad}{rest:List Qad}{w w':DS}(h:QS X E st w)(h':QSs X E rest w'):QSs X E (st::rest) (QBC w w'):=⟨QpT h.h h'.h⟩
theorem QaM{sts:List Qad}:QSs X E sts (λ_ _=>False):=⟨Qm9⟩
theorem Qa3(i:Nat){x:Str}{e:QU}{pos pos':Pos}{we:DE}(he:QE .D X E e we)(hN:X.N.Nodup)(hi:X.N[i]? = some x:=by rfl)(hx:Loc X.env.scope x:=by first | exact Ju rfl | exact Jl rfl)(hs:swapsWith e (some (.Name x pos')) pos.line X.env=pure false:=by rfl)(hf:X.fn x=true∨X.env.scope.names.lookup x=some .local:=by first | exact .inl rfl | exact .inr rfl | assumption):QS X E (.Assign [.Name x pos'] e pos) (Qzm i we):=⟨Qjp (Qsy hN hi hx he.h hs hf)⟩
theorem QgZ(i:Nat){x:Str}{e:QU}{pos pos':Pos}{we:DE}(he:QE .F X E e we)(hN:X.N.Nodup)(hi:X.N[i]? = some x:=by rfl)(hx:Loc X.env.scope x:=by first | exact Ju rfl | exact Jl rfl)(hs:swapsWith e (some (.Name x pos')) pos.line X.env=pure false:=by rfl)(hf:X.fn x=true∨X.env.scope.names.lookup x=some .local:=by first | exact .inl rfl | exact .inr rfl | assumption):QS X E (.Assign [.Name x pos'] e pos) (QrS i we):=⟨Qg3 (Qsy hN hi hx he.h hs hf)⟩
theorem Qsv{tg e:QU}{pos:Pos}{ix:List Nat}{we:DE}{wg:DG}(he:QE .D X E e we)(hg:QG ix X tg wg)(hs:swapsWithSole [tg] e pos.line X.env=pure false:=by rfl)(hw:swappedStores [tg] e X.env=pure none:=by rfl)(h1:(assignEach [tg] X.env).map (·.2)=[assign tg X.env]:=by rfl):QS X E (.Assign [tg] e pos) (QBL we wg):=⟨Qut (Qw9 he.h hg.h hs hw h1)⟩
theorem YG{e:QU}{pos:Pos}{we:DE}(h:QE .D X E e we):QS X E (.Return (some e) pos) (QBD we):=⟨Quo h.h⟩
theorem QaA{e:QU}{pos:Pos}{we:DE}(h:QE .F X E e we):QS X E (.Return (some e) pos) (QyG we):=⟨QpR h.h⟩
theorem Qjj(i:Nat){x:Str}{pos pos2:Pos}(hN:X.N[i]? = some x:=by rfl)(hv:Vis X.env.scope x:=by first | exact Ju rfl | exact Jl (Ju rfl) | exact Jl (Jl rfl))(hd:(x == ("__debug__" : Str))=false:=by decide)(hcd:(x == ("__classdict__" : Str))=false:=by decide):QS X E (.Return (some (.Name x pos)) pos2) (QvA i):=⟨QpQ (pv i hN hv hd hcd)⟩
theorem Qbc{c:QU}{a b:List Qad}{pos:Pos}{t:DT}{w w':DS}(hc:QT X E c t)(ha:QSs X E a w)(hb:QSs X E b w'):QS X E (.If c a b pos) (dIf t w w'):=⟨Qxn hc.h ha.h hb.h⟩
theorem Qw0{y:Str}{e:QU}{we:DE}{apos cpos pos npos:Pos}(i:Nat)(he:QE .D X E e we)(hN:X.N[i]? = some y:=by rfl)(hv:Vis X.env.scope y:=by first | exact Ju rfl | exact Jl (Ju rfl) | exact Jl (Jl rfl))(hd:(y == ("__debug__" : Str))=false:=by decide)(hcd:(y == ("__classdict__" : Str))=false:=by decide)(hst:notStar e=true:=by rfl)(hbase:attributeBase (.Name y npos) "append" X.env (eval (.Name y npos) X.env)=eval (.Name y npos) X.env:=by rfl)(hfew:((backTo cpos (starEach [e] X.env)).all (λx => !x.1)&&(backToKw cpos (keywordEach [] X.env)).all (λx=>x.1.isSome)&&decide ([e].length+([]:List Qlh).length+(if([]:List Qlh).isEmpty then 0 else 1)<30))=true:=by rfl)(hline:(apos.endLine == cpos.line)=true:=by rfl)(hsw:swapsWith (.Call (.Attribute (.Name y npos) "append" apos) [e] [] cpos) none pos.line X.env=pure false:=by rfl):QS X E (.Expr (.Call (.Attribute (.Name y npos) "append" apos) [e] [] cpos) pos) (QA5 i we):=⟨Quu (Qjn (Qxk PySem.F.plainAttrs_list PySem.F.slot_list_append PySem.F.type_list_append Qii (pv i hN hv hd hcd) (Qeg he.h Qaj hst) hbase hfew hline (ZX hst) rfl) hsw)⟩
theorem QtU{y:Str}{e k:QU}{we wk:DE}{op:Qgy}{ti:TIp}{rD:Qa->Qa->(Qa->Prop)->Prop}{pos tpos npos:Pos}(i:Nat)(ho:PIp X op ti)(hd:Qs4 ti rD)(hk:QE .P X E k wk)(he:QE .P X E e we)(hN:X.N[i]? = some y:=by rfl)(hv:Vis X.env.scope y:=by first | exact Ju rfl | exact Jl (Ju rfl) | exact Jl (Jl rfl))(hdd:(y == ("__debug__" : Str))=false:=by decide)(hcd:(y == ("__classdict__" : Str))=false:=by decide)(ha:∀ov iv new,augStore k ov iv new=(do holding [new,ov,iv] (setItem ov iv new);release [new,ov,iv] [];pure .next):=by intros;rfl):QS X E (.AugAssign (.Subscript (.Name y npos) k tpos) op e pos) (QvC i rD wk we):=⟨QpU hd (Qt3 (pv i hN hv hdd hcd) hk.h QrJ he.h (PIp.len ho) Qpf ha)⟩
theorem Qe4{tg iter:QU}{body:List Qad}{pos:Pos}{ix:List Nat}{wi:DI}{wg:DG}{wb:DS}(hp:PassesOwn (model X.prog X.w) X.A X.env X.xe)(hc:X.calm=true)(hi:QI .D X E tg iter wi)(hg:QG ix X tg wg)(hb:QSs X E body wb)(hs:∀x,foldedSetIterable iter X.env x=pure x:=by intro _;rfl):QS X E (.For tg iter body [] pos) (dFor wi wg wb):=⟨Qus hp hc hi.h hg.h hb.h hs⟩
theorem Qjk{e:QU}{we:DE}{pos:Pos}(he:QE .P X E e we)(hs:swapsWith e none pos.line X.env=pure false:=by rfl):QS X E (.Expr e pos) (QyK we):=⟨QpS (Qjn he.h hs)⟩
end
section
variable{P:QC}{w:Q9}{K:PySem.W.Frag}{mg:Str->Option Value}{base:Heap}
theorem okQ{x qual:Str}{st:Qad}{f:Addr}{fd:Q2}{N ps:List Str}{k:Nat}{fD:DF}(fr:Bool)(F:Fun K x qual st f fd)(S:JV N ps (QD st))(len:∀args R EX,fD args R EX->args.length=ps.length)
  (hbody:∀(cdv:Value)(A:Q5)(outer:List Env)(s:Shared)(H:Hp)(E:XK),Room k (A.deeper (envOfC qual (QD st) s.heap.objs.size f cdv)) ->
   ∃wd,QSs (QoV CX0 P w K mg base N qual (QD st) f cdv A outer s H E).nox E0 (JO st) wd/\∀args R EX,fD args R EX->wd (Qvr fr R XF) (stD N args)):FnOk P w K mg base CX0 (k+1) f fd ps (Zw fr fD):=
 okD fr F S len λcdv A outer s H E hr=>let ⟨wd,h,q⟩:=hbody cdv A outer s H E hr;⟨wd,h.h,q⟩
theorem QB6{x qual:Str}{st:Qad}{f:Addr}{fd:Q2}{N:List Str}{p:Str}{k:Nat}(F:Fun K x qual st f fd)(S:JV N [p] (QD st))
  (hbody:∀(cdv:Value)(A:Q5)(outer:List Env)(s:Shared)(H:Hp)(E:XK),Room k (A.deeper (envOfC qual (QD st) s.heap.objs.size f cdv)) ->
   ∃wd,QSs (QoV CX0 P w K mg base N qual (QD st) f cdv A outer s H E).nox E0 (JO st) wd/\wd Qyu (stD N [.scr])):FnOk P w K mg base CX0 (k+1) f fd [p] (QfT K):=
 QAI F S λcdv A outer s H E hr=>let ⟨wd,h,q⟩:=hbody cdv A outer s H E hr;⟨wd,h.h,q⟩
end
structure GOk (wg:DG):Prop where h:∀d δ Q,wg d δ Q->wg d δ λδ'=>(∀(j:Nat) x,δ'[j]? = some x->(∃e,x=.v e)∨δ[j]? = some x)/\Q δ'
theorem QeM(i:Nat):GOk (gN i):=⟨λd δ Q h=>⟨λj x e=>by
 by_cases z:j=i
 ·subst z;exact .inl ⟨d,set_eq e⟩
 ·rw[QaL z] at e;exact .inr e,h⟩⟩
theorem Qee:∀(is:List Nat)(ds:List Qa)(δ:Sts)(j:Nat)(x:Sl),(Qe2 δ is ds)[j]? = some x->(∃e,x=.v e)∨δ[j]? = some x
 |[],_,δ,j,x,h=>.inr (by simpa [Qe2] using h)
 |_::_,[],δ,j,x,h=>.inr (by simpa [Qe2] using h)
 |i::is,d::ds,δ,j,x,h=>by
  rcases Qee is ds _ j x h with z | z
  ·exact .inl z
  ·by_cases y:j=i
   ·subst y;exact .inl ⟨d,set_eq z⟩
   ·rw[QaL y] at z;exact .inr z
theorem Qvl(is:List Nat):GOk (gTN is):=⟨λd δ Q h=>by
 unfold gTN at h ⊢;split at h
 ·exact⟨h.1,Qee is _ δ,h.2⟩
 ·exact h.elim⟩
theorem QjH{cap:List (Option Nat)}{ix:List Nat}(hf:QaU cap ix=true){i:Nat}(hi:i∈ix):cap[i]? = some none:=by
 have:=JN.mp hf i hi;split at this
 ·assumption
 ·cases this
theorem Qdt{cap:List (Option Nat)}{ix:List Nat}(hf:QaU cap ix=true){δ:Sts}{i:Nat}{x:Sl}(h:(Qew cap δ)[i]? = some x)(hx:x≠.no):i∉ix:=λz=>by
 rcases Qhq h with⟨_,e⟩ | ⟨j,hj,_⟩
 ·exact hx e
 ·rw[QjH hf z] at hj;cases hj
section
variable{K:PySem.W.Frag}{σ σ4:L2.St}{δ δ4:Sts}{cap:List (Option Nat)}{ix:List Nat}{A1:Addr->Prop}{H3 H5 H6:Hp}
theorem QnU(hP:∀a,Yh σ δ a->A1 a)(hf:QaU cap ix=true)(j4:∀j,j∉ix->σ4[j]? = (QdE cap σ)[j]?)(gk:∀(j:Nat) x,δ4[j]? = some x->(∃e,x=.v e)∨(Qew cap δ)[j]? = some x){a:Addr}(h:Av (inF A1 cap σ δ H3) σ4 δ4 a):A1 a:=by
 rcases h with z | ⟨i,h1,h2⟩
 ·exact z
 ·refine(QkT (cap:=cap) (H:=H3) hP).mp ?_
  rcases h2 with h2 | ⟨ds,h2⟩
  ·rcases gk i _ h2 with⟨e,z⟩ | z
   ·cases z
   ·exact .inr ⟨i,by rw[<- j4 i (Qdt hf z (λz=>by cases z))];exact h1,.inl z⟩
  ·rcases gk i _ h2 with⟨e,z⟩ | z
   ·cases z
   ·exact .inr ⟨i,by rw[<- j4 i (Qdt hf z (λz=>by cases z))];exact h1,.inr ⟨ds,z⟩⟩
theorem QnT(hP:∀a,Yh σ δ a->A1 a)(hf:QaU cap ix=true)(j4:∀j,j∉ix->σ4[j]? = (QdE cap σ)[j]?)(gk:∀(j:Nat) x,δ4[j]? = some x->(∃e,x=.v e)∨(Qew cap δ)[j]? = some x)
  (ri:Rel K (inF A1 cap σ δ H6) (QdE cap σ) H6 (Qew cap δ))(r5:Rel K (inF A1 cap σ δ H3) σ4 H5 δ4)(kk:∀a o,¬A1 a->H5 a=some o->H6 a=some o):Rel K (inF A1 cap σ δ H6) σ4 H6 δ4 where
 len:=r5.len
 dom:=ri.dom
 dom0:=ri.dom0
 pt0:=ri.pt0
 kx:=ri.kx
 sl:=λi o x h1 h2=>by
  have iv:∀{a:Addr},Av (inF A1 cap σ δ H6) σ4 δ4 a->A1 a:=λ{a} z=>QnU hP hf j4 gk z
  rcases gk i x h2 with⟨d,rfl⟩ | hx
  ·obtain⟨v,e,q⟩:=r5.sl i o _ h1 h2;exact⟨v,e,q.mv (λa o n e=>kk a o (λz=>n (.inl z)) e) λa z=>.inl (.inl (iv z))⟩
  ·by_cases hn:x=.no
   ·subst hn;trivial
   ·have h1':(QdE cap σ)[i]? = some o:=by rw[<- j4 i (Qdt hf hx hn)];exact h1
    have h:=ri.sl i o x h1' hx;cases x with
    |no=>trivial
    |v d=>obtain⟨v',e,q'⟩:=h;exact⟨v',e,q'.mv (λ_ _ _ e=>e) λa z=>.inl (.inl (iv z))⟩
    |own ds=>obtain⟨l,xs,e,e2,q',f⟩:=h;exact⟨l,xs,e,e2,q'.mv (λ_ _ _ e=>e) λa z=>.inl (.inl (iv z)),f⟩
    |pk ds=>obtain⟨l,xs,e,e2,q',f⟩:=h;exact⟨l,xs,e,e2,q'.mv (λ_ _ _ e=>e) λa z=>.inl (.inl (iv z)),f⟩
    |pot=>exact h
    |scr=>exact h
 inj:=λi j a ds h1 h2 _=>by
  rcases gk i _ h1 with⟨e,z⟩ | z
  ·cases z
  ·rcases Qhq z with⟨_,e⟩ | ⟨j,hj,e⟩
   ·cases e
   ·exfalso
    cases e2:δ[j]? with
    |none=>rw[e2] at e;cases e
    |some y=>rw[e2] at e;cases y<;>cases e
end
theorem Qj9{K:PySem.W.Frag}{F:Fm}{σ:L2.St}{δ:Sts}{H1 H3:Hp}{cap:List (Option Nat)}{ix:List Nat}{wg:DG}{wt:DT}{A1:Addr->Prop}{x:V}{d:Qa}{inner:L2.St->Hp->(Hp->Prop)->Prop}{kk:Hp->Prop}{T:Sts->Prop}{N:Prop}(gok:GOk wg)
  (hf:QaU cap ix=true)(rel:Rel K F σ H1 δ)(hA:∀a,Av F σ δ a->A1 a)(hN:∀a,A1 a->Av F σ δ a∨H1 a=none)(dm:∀a,A1 a->∃xs,H3 a=some (.lst xs))(kp:Kp σ δ H1 H3)(dx:DA A1 H3 x d)
  (h:wg d (Qew cap δ) λδ4=>wt δ4 (λb=>if b=true then T δ4 else N) XF)
  (hT:∀σ4 δ4 H5,T δ4->Rel K (inF A1 cap σ δ H3) σ4 H5 δ4->Kp σ δ H3 H5->(∀j,j∉ix->σ4[j]? = (QdE cap σ)[j]?)->σ4.length=(QdE cap σ).length->(∀(j:Nat) x,δ4[j]? = some x->(∃e,x=.v e)∨(Qew cap δ)[j]? = some x)->inner σ4 H5 kk)(hF:N->∀H5,Kp σ δ H3 H5->kk H5) :
  bOf (QdE cap σ) (tG ix K wg) (tT K E0 wt) inner x H3 kk:=by
 have ri:=QkR (cap:=cap) rel hA hN dm kp;have iv:∀{a:Addr},Av (inF A1 cap σ δ H3) (QdE cap σ) (Qew cap δ) a->A1 a:=λ{a}=>(QkT λa z=>hA a (Y7 z)).mp
 refine⟨inF A1 cap σ δ H3,Qew cap δ,d,_,ri,dx.mv (λ_ _ _ e=>e) λa z=>.inl (iv z),gok.h _ _ _ h,λδ4 ⟨g4,h4⟩ σ4 r4 st4 l4 j4=>⟨Qs0 hf l4 j4,inF A1 cap σ δ H3,δ4,_,XF,r4,h4,λb hb H5 r5 kp5=>?_,Ql4⟩⟩;have pots:∀{b:Addr},Yh σ4 δ4 b->Yh σ δ b:=λz=>Qhf r4 (λb o _ e1 e2=>by rw[e2] at e1;cases e1) z
 have K5:Kp σ δ H3 H5:=by
  refine⟨λb o n e=>kp5.1 b o (λz=>n (pots z)) e,λb hb=>?_⟩;by_cases z:Yh σ4 δ4 b
  ·exact kp5.2 b z
  ·obtain⟨n,e⟩:=kp.2 b hb;exact⟨n,kp5.1 _ _ z e⟩
 exact QcW hb (λz=>hT σ4 δ4 H5 z r5 K5 j4 l4 g4) λz=>hF z H5 K5
theorem Qn8{K:PySem.W.Frag}{σ σ4:L2.St}{δ δ4:Sts}{H1 H3 H5:Hp}{cap:List (Option Nat)}{we:DE}{A1:Addr->Prop}{p:Addr}{acc:List Qa}{kk:Hp->Prop}{G:Qa->Prop}
  (hpA:A1 p)(hP:∀a,Yh σ δ a->A1 a)(hp1:H1 p=none)(hpn:¬Yh σ δ p)(lp:Lp σ δ A1 p H1 H5 acc)(hl:acc.length<sizeLine)(r5:Rel K (inF A1 cap σ δ H3) σ4 H5 δ4)(pots:∀b,Yh σ4 δ4 b->Yh σ δ b)
  (h:we δ4 G XF)(hk:∀e,G e->∀H',Lp σ δ A1 p H1 H' (acc++[e])->(∀b o,¬A1 b->H5 b=some o->H' b=some o)->kk H'):QyV p (tX .D K E0 we) σ4 H5 kk:=by
 refine⟨inF A1 cap σ δ H3,δ4,G,XF,r5,h,λe he v H6 r6 kp6 dv=>?_,Ql4⟩;have k56:Kp σ δ H5 H6:=by
  refine⟨λb o n e=>kp6.1 b o (λz=>n (pots b z)) e,λb hb=>?_⟩;by_cases z:Yh σ4 δ4 b
  ·exact kp6.2 b z
  ·obtain⟨n,e⟩:=lp.kp.2 b hb;exact⟨n,kp6.1 _ _ z e⟩
 obtain⟨k6,ys,e6,q6⟩:=lp.step hP hpn k56;have up:∀{b:Addr}{o:HO},¬A1 b->H6 b=some o->upd H6 p (.lst (ys++[v])) b=some o:=λ{b o} n e=>by rw[Zu (λz=>n (by rw[z];exact hpA))];exact e
 refine⟨ys,e6,by rw[q6.length];exact hl,hk e he _ ⟨⟨λb o n e=>?_,λb hb=>?_⟩,ys++[v],JQ,DAs.app (q6.mv (λ_ _=>up) λa z=>.inl z) (.cons (DA.mv dv (λa o n e=>up (λz=>n (.inl z)) e) λa z=>.inl (.inl z)) .nil)⟩ λb o n e=>up n (kp6.1 b o (λz=>n (hP b (pots b z))) e)⟩
 ·rw[Zu (λz=>by rw[z,hp1] at e;cases e)];exact k6.1 b o n e
 ·rw[Zu (λz=>hpn (by rw[<- z];exact hb))];exact k6.2 b hb
def QjD:Nat:=1000000
@[irreducible] def InR(items2:List Qa)(wg2:DG)(wt2:DT)(we:DE)(δ4:Sts)(acc:List Qa)(N:List Qa->Prop):Prop:=∃Jv:Nat->List Qa->Prop,Jv 0 acc /\
 (∀(j:Nat) acc2 d2,items2[j]? = some d2->Jv j acc2->acc2.length<QjD/\wg2 d2 δ4 λδ5=>wt2 δ5 (λb=>if b=true then we δ5 (λe=>Jv (j+1) (acc2++[e])) XF else Jv (j+1) acc2) XF)/\∀acc2,Jv items2.length acc2->N acc2
@[irreducible] def Qft(items:List Qa)(wg:DG)(wt:DT)(wi2:DI)(wg2:DG)(wt2:DT)(we:DE)(δ:Sts)(Q:Qa->Prop):Prop:=∃Iv:Nat->List Qa->Prop,Iv 0 [] /\
 (∀(i:Nat) acc d,items[i]? = some d->Iv i acc->wg d δ λδ4=>wt δ4 (λb=>if b=true then wi2 δ4 (λitems2=>InR items2 wg2 wt2 we δ4 acc (Iv (i+1))) XF else Iv (i+1) acc) XF)/\∀acc,Iv items.length acc->Q (.list acc)
def Qiz(cap:List (Option Nat))(wi:DI)(wg:DG)(wt:DT)(wi2:DI)(wg2:DG)(wt2:DT)(we:DE):DE:=λδ Q EX=>wi δ (λitems=>Qft items wg wt wi2 wg2 wt2 we (Qew cap δ) Q) EX
section
variable{X:Cx}{E:XK}
theorem QkJ:QjD<=sizeLine:=Q1 (by decide) Qij
theorem Qp4{M:List Str}{cap:List (Option Nat)}{elt tg iter tg2 iter2:QU}{ifs ifs2:List QU}{scope:YC}{pos:Pos}{ix ix2:List Nat}{wi wi2:DI}{wg wg2:DG}{wt wt2:DT}{we:DE}(gok:GOk wg)(hc:X.calm=true)(ok:QcO X.N X.env.scope M scope cap=true)(hf:QaU cap ix=true)(hf2:QaU cap ix2=true)(hd:ix2.all (λi => !ix.contains i)=true)
  (hi:PI X tg iter (tI .P X.K E wi))(hb:∀cl ex s3 H3 C,PG (blk X M scope cl ex s3 H3 C) tg (tG ix X.K wg)/\PTs (blk X M scope cl ex s3 H3 C) ifs (tT X.K E0 wt)/\PI (blk X M scope cl ex s3 H3 C) tg2 iter2 (tI .D X.K E0 wi2)/\PG (blk X M scope cl ex s3 H3 C) tg2 (tG ix2 X.K wg2)/\PTs (blk X M scope cl ex s3 H3 C) ifs2 (tT X.K E0 wt2)/\PE (blk X M scope cl ex s3 H3 C) elt (tX .D X.K E0 we))
  (hs:∀x,foldedSetIterable iter X.env x=pure x:=by intro _;rfl)(hs2:∀env x,foldedSetIterable iter2 env x=pure x:=by intro _ _;rfl):PE X (.ListComp elt [⟨tg,iter,ifs,0⟩,⟨tg2,iter2,ifs2,0⟩] scope pos) (tX .F X.K E (Qiz cap wi wg wt wi2 wg2 wt2 we)):=by
 refine PE.imp (Qm8 hc ok hi hb hs hs2) λσ H Q ⟨F,δ,R,EX,rel,hw,k,o⟩=>?_
 refine⟨F,δ,_,EX,rel,hw,λitems hC J H1 rel1 kp1 ⟨ln,it⟩ p hp=>?_,o⟩;unfold Qft at hC;obtain⟨Iv,i0,step,fin⟩:=hC;have hpn:¬Yh σ δ p:=λz=>by obtain⟨xs,e⟩:=rel1.isl (Y7 (F:=F) z);rw[hp] at e;cases e
 let A1:Addr->Prop:=λa=>Av F σ δ a∨a=p
 have hP:∀a,Yh σ δ a->A1 a:=λa z=>.inl (Y7 z)
 have hN:∀a,A1 a->Av F σ δ a∨H1 a=none:=λa z=>z.elim .inl λz=>.inr (by rw[z];exact hp)
 have dmK:∀{H2:Hp},Kp σ δ H1 H2->(∃ys,H2 p=some (.lst ys))->∀a,A1 a->∃xs,H2 a=some (.lst xs):=λ{H2} k2 e2 a z=>by
  rcases z with z | z
  ·exact(rel1.kp k2).isl z
  ·rw[z];exact e2
 refine Qc3 items.length (λi H2=>i<=items.length/\∃acc,Iv i acc/\Lp σ δ A1 p H1 H2 acc) ⟨Qs _,[],i0,Kp.same rel1 (JL hp),[],JQ,.nil⟩ (λi H2 hi ⟨_,acc,iv,lp⟩=>?_) λH2 ⟨_,acc,iv,lp⟩=>?_
 ·obtain⟨k2,ys,e2,q2⟩:=lp;obtain⟨go,_⟩:=it H2 A1 (λb o n e=>k2.1 b o n e) hN (dmK k2 ⟨ys,e2⟩);have hd':items[i]? = some items[i]:=Qo hi;obtain⟨g1,g2⟩:=go i _ hd';refine⟨g1,λx H3 y kk hk=>?_⟩;obtain⟨s3,dx⟩:=g2 x H3 y;have k23:=Kp.same (rel1.kp k2) s3;have lp3:Lp σ δ A1 p H1 H3 acc:=Lp.step hP hpn ⟨k2,ys,e2,q2⟩ k23;refine Qj9 gok hf rel1 (λa z=>.inl z) hN (dmK lp3.kp ⟨ys,s3 _ _ e2⟩) lp3.kp dx (step i acc _ hd' iv) (λσ4 δ4 H5 h5 r5 k5 j4 l4 g4=>?_) λh5 H5 k5=>hk _ ⟨hi,acc,h5,lp3.step hP hpn k5⟩
  have av4:∀{H:Hp}{a:Addr},Av (inF A1 cap σ δ H) σ4 δ4 a->A1 a:=λ{H a} z=>QnU hP hf j4 g4 z
  refine⟨inF A1 cap σ δ H3,δ4,_,XF,r5,h5,λitems2 hJ J2 H7 rel7 kp7 ⟨ln2,it2⟩=>?_,Ql4⟩;unfold InR at hJ;obtain⟨Jv,z0,step2,fin2⟩:=hJ;have pots4:∀{b:Addr},Yh σ4 δ4 b->Yh σ δ b:=λ{b} z=>by
   obtain⟨j,z1,z2⟩:=z;rcases g4 j _ z2 with⟨e,z⟩ | z
   ·cases z
   ·exact Qck ⟨j,by rw[<- j4 j (Qdt hf z (λz=>by cases z))];exact z1,z⟩
  have k57:Kp σ δ H5 H7:=by
   refine⟨λb o n e=>kp7.1 b o (λz=>n (pots4 z)) e,λb hb=>?_⟩;by_cases z:Yh σ4 δ4 b
   ·exact kp7.2 b z
   ·obtain⟨n,e⟩:=k5.2 b hb;exact⟨n,kp7.1 _ _ z e⟩
  refine Qc3 items2.length (λj H8=>j<=items2.length/\∃acc2,Jv j acc2/\Lp σ δ A1 p H1 H8 acc2/\∀b o,¬A1 b->H7 b=some o->H8 b=some o) ⟨Qs _,acc,z0,(lp3.step hP hpn k5).step hP hpn k57,λ_ _ _ e=>e⟩ (λj H8 hj ⟨_,acc2,jv,lp8,s78⟩=>?_) λH8 ⟨_,acc2,jv,lp8,s78⟩=>?_
  ·obtain⟨ys8,e8,q8⟩:=lp8.at_;obtain⟨go2,_⟩:=it2 H8 A1 (λb o n e=>s78 b o (λz=>n (.inl z)) e) (λb z=>.inl (.inl z)) (dmK lp8.kp ⟨ys8,e8⟩);have hd2:items2[j]? = some items2[j]:=Qo hj;obtain⟨g3,g5⟩:=go2 j _ hd2;refine⟨g3,λx2 H9 y2 kk2 hk2=>?_⟩;obtain⟨s9,dx2⟩:=g5 x2 H9 y2;have k89:=Kp.same (rel1.kp lp8.kp) s9;have lp9:Lp σ δ A1 p H1 H9 acc2:=lp8.step hP hpn k89;have ri:=QkR (cap:=cap) rel1 (λa z=>.inl z) hN (dmK lp9.kp ⟨ys8,s9 _ _ e8⟩) lp9.kp;have r9:=QnT hP hf j4 g4 ri r5 λa o n e=>s9 _ _ (s78 a o n (k57.1 a o (λz=>n (hP a z)) e))
   obtain⟨hl2,hw2⟩:=step2 j acc2 _ hd2 jv;refine⟨inF A1 cap σ δ H9,δ4,_,_,r9,dx2.mv (λ_ _ _ e=>e) λa z=>.inl (av4 z),hw2,λδ5 h6 σ5 r10 st5 l5 j5=>⟨Qmh l5 λi v e=>?_,inF A1 cap σ δ H9,δ5,_,XF,r10,h6,λb hb H10 r11 kp11=>?_,Ql4⟩⟩
   ·by_cases z:i∈ix2
    ·have n1:i∉ix:=λz2=>by
      have:=JN.mp hd i z;simp[z2] at this
     rw[j4 i n1] at e;rcases QeS e with⟨_,e2⟩ | ⟨j,hj2,_⟩
     ·cases e2
     ·rw[QjH hf2 z] at hj2;cases hj2
    ·rw[j5 i z];exact e
   ·have pots:∀{b:Addr},Yh σ5 δ5 b->Yh σ δ b:=λz=>Qhf r10 (λb o _ e1 e2=>by rw[e2] at e1;cases e1) z
    have K10:Kp σ δ H9 H10:=by
     refine⟨λb o n e=>kp11.1 b o (λz=>n (pots z)) e,λb hb=>?_⟩;by_cases z:Yh σ5 δ5 b
     ·exact kp11.2 b z
     ·obtain⟨n,e⟩:=lp9.kp.2 b hb;exact⟨n,kp11.1 _ _ z e⟩
    have s710:∀b o,¬A1 b->H7 b=some o->H10 b=some o:=λb o n e=>K10.1 b o (λz=>n (hP b z)) (s9 _ _ (s78 b o n e))
    refine QcW hb (λz=>?_) λz=>hk2 _ ⟨hj,acc2,z,lp9.step hP hpn K10,s710⟩
    exact Qn8 (.inr rfl) hP hp hpn (lp9.step hP hpn K10) (QM hl2 QkJ) r11 (λb=>pots) z λe he H' lp' kk'=>hk2 _ ⟨hj,acc2++[e],he,lp',λb o n e=>kk' b o n (s710 b o n e)⟩
  ·obtain⟨ys8,e8,q8⟩:=lp8.at_;obtain⟨_,st2⟩:=it2 H8 A1 (λb o n e=>s78 b o (λz=>n (.inl z)) e) (λb z=>.inl (.inl z)) (dmK lp8.kp ⟨ys8,e8⟩);exact⟨st2,hk _ ⟨hi,acc2,fin2 acc2 jv,lp8⟩⟩
 ·obtain⟨k2,ys,e2,q2⟩:=lp;obtain⟨_,st⟩:=it H2 A1 (λb o n e=>k2.1 b o n e) hN (dmK k2 ⟨ys,e2⟩);refine⟨st,k _ (fin acc iv) (.ref p) H2 (rel1.kp k2) (kp1.trans k2) ⟨.lst (λz=>?_) e2 (q2.mv (λ_ _ _ e=>e) λa z=>.inl (.inl z)),λl e1 _=>?_⟩⟩
  ·obtain⟨xs,e⟩:=rel1.isl z;rw[hp] at e;cases e
  ·cases e1;exact Qbu kp1 hp
end
section
variable{X:Cx}{E:XK}
theorem QmU(M:List Str)(cap:List (Option Nat)){elt tg iter tg2 iter2:QU}{ifs ifs2:List QU}{scope:YC}{pos:Pos}{ix ix2:List Nat}{wi wi2:DI}{wg wg2:DG}{wt wt2:DT}{we:DE}(gok:GOk wg)(hi:QI .P X E tg iter wi)(hb:∀cl ex s3 H3 C,QG ix (blk X M scope cl ex s3 H3 C) tg wg/\QTs (blk X M scope cl ex s3 H3 C) E0 ifs wt/\QI .D (blk X M scope cl ex s3 H3 C) E0 tg2 iter2 wi2/\QG ix2 (blk X M scope cl ex s3 H3 C) tg2 wg2/\QTs (blk X M scope cl ex s3 H3 C) E0 ifs2 wt2/\QE .D (blk X M scope cl ex s3 H3 C) E0 elt we)(hc:X.calm=true:=by rfl)(ok:QcO X.N X.env.scope M scope cap=true:=by rfl)(hf:QaU cap ix=true:=by rfl)(hf2:QaU cap ix2=true:=by rfl)(hd:ix2.all (λi => !ix.contains i)=true:=by rfl)(hs:∀x,foldedSetIterable iter X.env x=pure x:=by intro _;rfl)(hs2:∀env x,foldedSetIterable iter2 env x=pure x:=by intro _ _;rfl) :
  QE .F X E (.ListComp elt [⟨tg,iter,ifs,0⟩,⟨tg2,iter2,ifs2,0⟩] scope pos) (Qiz cap wi wg wt wi2 wg2 wt2 we):=⟨Qp4 gok hc ok hf hf2 hd hi.h (λcl ex s3 H3 C=>⟨(hb cl ex s3 H3 C).1.h,(hb cl ex s3 H3 C).2.1.h,(hb cl ex s3 H3 C).2.2.1.h,(hb cl ex s3 H3 C).2.2.2.1.h,(hb cl ex s3 H3 C).2.2.2.2.1.h,(hb cl ex s3 H3 C).2.2.2.2.2.h⟩) hs hs2⟩
end
theorem QyP{items:List Qa}{wg wg2:DG}{wt wt2:DT}{wi2:DI}{we:DE}{δ:Sts}{Q:Qa->Prop}(G:Qa->List Qa)(hl:(items.flatMap G).length<QjD)
  (h:∀d∈items,∀(acc:List Qa)(N:List Qa->Prop),acc.length+(G d).length<QjD->N (acc++G d)->wg d δ λδ4=>wt δ4 (λb=>if b=true then wi2 δ4 (λitems2=>InR items2 wg2 wt2 we δ4 acc N) XF else N acc) XF)(q:Q (.list (items.flatMap G))) :
  Qft items wg wt wi2 wg2 wt2 we δ Q:=by
 unfold Qft;refine⟨λi acc=>acc=(items.take i).flatMap G,by simp,λi acc d hd e=>?_,λacc e=>by rw[e,Zv];exact q⟩;have e:acc=(items.take i).flatMap G:=e;have hs:(items.take (i+1)).flatMap G=(items.take i).flatMap G++G d:=by
  rw[Z0,hd,Yw];simp
 refine h d (Q7 hd) acc _ ?_ (by show acc++G d=_;rw[hs,e])
 have h1:(items.flatMap G).length=((items.take (i+1)).flatMap G).length+((items.drop (i+1)).flatMap G).length:=by
  rw[<- Qv,<- Yw,Jg]
 rw[hs,<- e,Qv] at h1;omega
theorem Qyo{items2:List Qa}{wg2:DG}{wt2:DT}{we:DE}{δ4:Sts}{acc:List Qa}{N:List Qa->Prop}(G:Qa->Option Qa)(hl:acc.length+items2.length<QjD)
  (h:∀d∈items2,∀(k1:Prop)(k2:Qa->Prop),(G d=none->k1)->(∀e,G d=some e->k2 e)->wg2 d δ4 λδ5=>wt2 δ5 (λb=>if b=true then we δ5 k2 XF else k1) XF)(q:N (acc++items2.filterMap G)) :
  InR items2 wg2 wt2 we δ4 acc N:=by
 unfold InR;refine⟨λi acc2=>acc2=acc++(items2.take i).filterMap G,by simp,λi acc2 d hd e=>?_,λacc2 e=>by rw[e,Zv];exact q⟩;have e:acc2=acc++(items2.take i).filterMap G:=e;have hs:(items2.take (i+1)).filterMap G=(items2.take i).filterMap G++(G d).toList:=by
  rw[Z0,hd,Ye];cases e2:G d<;>simp[e2]
 refine⟨?_,h d (Q7 hd) _ _ (λe2=>?_) λe' e2=>?_⟩
 ·have:=List.length_filterMap_le G (items2.take i);have h2:(items2.take i).length<=items2.length:=by rw[JG];exact Qgz _ _
  rw[e,Qv];omega
 ·show acc2=acc++(items2.take (i+1)).filterMap G;rw[hs,e2,e];simp
 ·show acc2++[e']=acc++(items2.take (i+1)).filterMap G;rw[hs,e2,e];simp
theorem QkS{items2:List Qa}{wg2:DG}{we:DE}{δ4:Sts}{acc:List Qa}{N:List Qa->Prop}(G:Qa->Qa)(hl:acc.length+items2.length<QjD)
  (h:∀d∈items2,∀(k2:Qa->Prop),k2 (G d)->wg2 d δ4 λδ5=>we δ5 k2 XF)(q:N (acc++items2.map G)):InR items2 wg2 QsX we δ4 acc N:=by
 refine Qyo (λd=>some (G d)) hl (λd hd k1 k2 _ h2=>?_) (by rw[show items2.filterMap (λd=>some (G d))=items2.map G from by rw[<- List.filterMap_eq_map];rfl];exact q);have hh:=h d hd k2 (h2 _ rfl);simp only[QsX,if_true];exact hh
def QmM:List V->Hp->VK->Prop:=λxs H Q=>∃l ns,xs=[.ref l]/\H l=some (.lst ((ns:List Int).map V.int))/\ns.length<64 /\
 ∀t ms H2,Same H H2->H t=none->H2 t=some (.lst ((ms:List Int).map V.int))->ms.Perm ns->ms.Pairwise (·<=·)->Q (.ref t) H2
section
open Rs PySem.W PySem.Calls
variable{X:Cx}
theorem QjQ:CallR X (.builtin "sorted") QmM:=by
 intro pins s σ H xs us Q I r h;obtain⟨l,ns,rfl,hl,h64,q⟩:=h;obtain⟨u,rfl,ru⟩:=vals1 r;cases ru;obtain⟨hz,its,n,rv,ho⟩:=I.hok l _ hl;have li:=rv.length;rw[Qf] at li;refine Qed (.inl rfl) ho rfl rfl (by omega) λh' kp P E' hP=>?_
 have hn:(h'.push (seqObj "list" its.toArray 0)).get? h'.objs.size=some (seqObj "list" its.toArray 0):=Qw _ rfl;refine list_sort_tree (s:={ s with heap:=h'.push (seqObj "list" its.toArray 0) }) hn (Qhe rv) (by omega) λout ns' ia pm pw=>hP _ ?_
 have I1:Inv X pins σ H { s with heap:=h' }:=I.kept (t':=s.toks) kp;have hf:H h'.objs.size=none:=I1.hok.fresh (Qh _);obtain⟨e,he⟩:∃e,(sortedHeap (h'.push (seqObj "list" its.toArray 0)) h'.objs.size its out).get? h'.objs.size=some (seqObj "list" out e):=sortedHeap_at hn
 have rv':=Qhw ia;have lp:=pm.length_eq;have I2:Inv X pins σ (upd H h'.objs.size (.lst (ns'.map V.int))) { s with heap:=sortedHeap (h'.push (seqObj "list" its.toArray 0)) h'.objs.size its out }:=
  I1.laid (t':=s.toks) (λb x e'=>(sortedHeap_old (Qz (Qm e')) (QM (Qm e') (by rw[size_push'];exact Qo1 _))).trans (Qe _ e')) (Qh _) (show ObjOk X.prog X.w _ _ _ (.lst _) from⟨by rw[Qf];exact ZZ (Rk.QbQ (by omega)),out.toList,e,rv',by rw[he]⟩)
 exact⟨.ref h'.objs.size,_,I2,rfl,q _ ns' _ (JL hf) hf JQ pm pw⟩
def Qsu(K:PySem.W.Frag):List V->Hp->VK->Prop:=λxs H Q=>Qst K xs H Q∨QmM xs H Q
theorem QlT:CallR X (.builtin "sorted") (Qsu X.K):=by
 intro pins s σ H xs us Q I r h;rcases h with h | h
 ·exact QlS pins s σ H xs us Q I r h
 ·exact QjQ pins s σ H xs us Q I r h
end
@[irreducible] def Qmy:List Qa->(Qa->Prop)->Prop
 |[.list ds],Q=>∃ns,Qcn ds=some ns/\ns.length<64/\∀ms:List Int,ms.Perm ns->ms.Pairwise (·<=·)->Q (.list (ms.map .int))
 |[.tuple ds],Q=>∃ns,Qcn ds=some ns/\ns.length<64/\∀ms:List Int,ms.Perm ns->ms.Pairwise (·<=·)->Q (.list (ms.map .int))
 |_,_=>False
theorem Qhd{A:Addr->Prop}{H:Hp}:∀ms:List Int,DAs A H (ms.map V.int) (ms.map .int)
 |[]=>.nil
 |m::ms=>.cons (.int m) (Qhd ms)
theorem QvK{K:PySem.W.Frag}:Qd8 (Qsu K) Qmy:=λA P H vs ds R Q ln dm q h k=>by
 unfold Qmy at h;split at h
 ·obtain⟨v,rfl,hv⟩:=pd1 q;obtain⟨bs,hb,h64,hR⟩:=h;rw[Qhc hb] at hv;obtain⟨l,xs,rfl,e,qq⟩:=hv.list;rw[QeQ qq] at e;exact .inr ⟨l,bs,rfl,e,h64,λt ms H2 s n e2 pm pw=>k _ (hR ms pm pw) _ H2 s (Qdo dm s n e2 (Qhd ms)) (Qa5 n)⟩
 ·obtain⟨v,rfl,hv⟩:=pd1 q;obtain⟨bs,hb,h64,hR⟩:=h;rw[Qhc hb] at hv;obtain⟨l,xs,rfl,e,qq⟩:=hv.tuple;rw[QeQ qq] at e;exact .inl ⟨l,bs,rfl,SqT.of e,h64,λt ms H2 s n e2 pm pw=>k _ (hR ms pm pw) _ H2 s (Qdo dm s n e2 (Qhd ms)) (Qa5 n)⟩
 ·exact h.elim
theorem QtA{ds:List Qa}{Q:Qa->Prop}{ns:List Int}(h:Qcn ds=some ns)(h64:ns.length<64)(k:∀ms:List Int,ms.Perm ns->ms.Pairwise (·<=·)->Q (.list (ms.map .int))):Qmy [.list ds] Q/\Qmy [.tuple ds] Q:=by
 unfold Qmy;exact⟨⟨ns,h,h64,k⟩,ns,h,h64,k⟩
def QCm(a b:DI):DI:=λδ R EX=>a δ R EX∨b δ R EX
theorem QAk{X:Cx}{E:XK}{m:Md}{tg e:QU}{a b:DI}(h:QI m X E tg e a)(h':QI m X E tg e b):QI m X E tg e (QCm a b):=⟨λpins s σ H R I ⟨F,δ,R',EX,rel,hw,k,o⟩=>by
 rcases hw with hw | hw
 ·exact h.h pins s σ H R I ⟨F,δ,R',EX,rel,hw,k,o⟩
 ·exact h'.h pins s σ H R I ⟨F,δ,R',EX,rel,hw,k,o⟩⟩
end Dl
namespace PySem
namespace AutoSeq1
open PyProof
end AutoSeq1
end PySem
namespace L2
end L2
namespace Dl
open L2 _root_.Rd Rk
section
variable{X:Cx}{E:XK}
end
theorem QiA{K:PySem.W.Frag}{E:XK}{cap:List (Option Nat)}{ix:List Nat}{wi:DI}{wg:DG}{wt:DT}{we:DE}(hf:QaU cap ix=true)(σ:L2.St)(H:Hp)(Q:VK)(h:tX .F K E (dComp cap wi wg wt we) σ H Q) :
  tComp cap (tI .P K E wi) (tG ix K wg) (tT K E0 wt) (tX .D K E0 we) σ H Q:=by
 obtain⟨F,δ,R,EX,rel,hw,k,o⟩:=h;refine⟨F,δ,_,EX,rel,hw,λitems hC J H1 rel1 kp1 ⟨ln,it⟩ p hp=>?_,o⟩;unfold QjY at hC;obtain⟨Iv,i0,step,fin⟩:=hC;have hpn:¬Yh σ δ p:=λz=>by obtain⟨xs,e⟩:=rel1.isl (Y7 (F:=F) z);rw[hp] at e;cases e
 let A1:Addr->Prop:=λa=>Av F σ δ a∨a=p
 have hP:∀a,Yh σ δ a->A1 a:=λa z=>.inl (Y7 z)
 have hN:∀a,A1 a->Av F σ δ a∨H1 a=none:=λa z=>z.elim .inl λz=>.inr (by rw[z];exact hp)
 have dmK:∀{H2:Hp},Kp σ δ H1 H2->(∃ys,H2 p=some (.lst ys))->∀a,A1 a->∃xs,H2 a=some (.lst xs):=λ{H2} k2 e2 a z=>by
  rcases z with z | z
  ·exact(rel1.kp k2).isl z
  ·rw[z];exact e2
 refine Qc3 items.length (λi H2=>i<=items.length/\∃acc,Iv i acc/\acc.length<=i/\Lp σ δ A1 p H1 H2 acc) ⟨Qs _,[],i0,Qh _,Kp.same rel1 (JL hp),[],JQ,.nil⟩ (λi H2 hi ⟨_,acc,iv,hl,lp⟩=>?_) λH2 ⟨_,acc,iv,hl,lp⟩=>?_
 ·obtain⟨k2,ys,e2,q2⟩:=lp;obtain⟨go,_⟩:=it H2 A1 (λb o n e=>k2.1 b o n e) hN (dmK k2 ⟨ys,e2⟩);have hd:items[i]? = some items[i]:=Qo hi;obtain⟨g1,g2⟩:=go i _ hd;refine⟨g1,λx H3 y kk hk=>?_⟩;obtain⟨s3,dx⟩:=g2 x H3 y;have k23:=Kp.same (rel1.kp k2) s3;have lp3:Lp σ δ A1 p H1 H3 acc:=Lp.step hP hpn ⟨k2,ys,e2,q2⟩ k23;refine Qi8 hf rel1 (λa z=>.inl z) hN (dmK lp3.kp ⟨ys,s3 _ _ e2⟩) lp3.kp dx (step i acc _ hd iv) (λσ4 δ4 H5 h5 r5 k5 pots=>?_) λh5 H5 k5=>hk _ ⟨hi,acc,h5,by omega,lp3.step hP hpn k5⟩
  exact QsU (.inr rfl) hP hp hpn (lp3.step hP hpn k5) (by omega) r5 pots h5 λe he H' lp'=>hk _ ⟨hi,acc++[e],he,by rw[Qv];show _+1<=_;omega,lp'⟩
 ·obtain⟨k2,ys,e2,q2⟩:=lp;obtain⟨_,st⟩:=it H2 A1 (λb o n e=>k2.1 b o n e) hN (dmK k2 ⟨ys,e2⟩);refine⟨st,k _ (fin acc iv) (.ref p) H2 (rel1.kp k2) (kp1.trans k2) ⟨.lst (λz=>?_) e2 (q2.mv (λ_ _ _ e=>e) λa z=>.inl (.inl z)),λl e1 _=>?_⟩⟩
  ·obtain⟨xs,e⟩:=rel1.isl z;rw[hp] at e;cases e
  ·cases e1;exact Qbu kp1 hp
theorem QBy{K:PySem.W.Frag}{E:XK}{w:DE}(σ:L2.St)(H:Hp)(Q:VK)(h:tX .D K E w σ H Q):tX .F K E w σ H Q:=by
 obtain⟨F,δ,R,EX,rel,hw,k,o⟩:=h;exact⟨F,δ,R,EX,rel,hw,λd hd v H' r kp vk=>k d hd v H' r kp vk.1,o⟩
section
variable{X:Cx}{E:XK}
theorem Qpx(M:List Str)(cap:List (Option Nat))(i:Nat){elt tg iter:QU}{ifs:List QU}{scope:YC}{pos py spos:Pos}{y:Str}{ix:List Nat}{wi:DI}{wg:DG}{wt:DT}{we:DE}(hN:X.N.Nodup)(hi:QI .P X E tg iter wi)(hb:∀cl ex s3 H3 C,QG ix (blk X M scope cl ex s3 H3 C) tg wg/\QTs (blk X M scope cl ex s3 H3 C) E0 ifs wt/\QE .D (blk X M scope cl ex s3 H3 C) E0 elt we)(hiy:X.N[i]? = some y:=by rfl)(hly:X.env.scope.names.lookup y=some .local:=by rfl)(hc:X.calm=true:=by rfl)(ok:QcO X.N X.env.scope M scope cap=true:=by rfl)(hf:QaU cap ix=true:=by rfl)(hs:∀x,foldedSetIterable iter X.env x=pure x:=by intro _;rfl)(hsw:swapsWith (.ListComp elt [⟨tg,iter,ifs,0⟩] scope pos) (some (.Name y py)) spos.line X.env=pure true:=by rfl):QS X E (.Assign [.Name y py] (.ListComp elt [⟨tg,iter,ifs,0⟩] scope pos) spos) (QrS i (dComp cap wi wg wt we)):=
 ⟨Qg3 (PS.imp (Qkv hN hiy hly hc ok hi.h (λcl ex s3 H3 C=>⟨(hb cl ex s3 H3 C).1.h,(hb cl ex s3 H3 C).2.1.h,(hb cl ex s3 H3 C).2.2.h⟩) hs hsw) λD σ H q=>QiA (E:=E) hf σ H _ q)⟩
theorem Qjl(M:List Str)(cap:List (Option Nat))(i:Nat){elt tg iter:QU}{ifs:List QU}{scope:YC}{pos py spos:Pos}{y:Str}{ix:List Nat}{wi:DI}{wg:DG}{wt:DT}{we:DE}(hN:X.N.Nodup)(hi:QI .P X E tg iter wi)(hb:∀cl ex s3 H3 C,QG ix (blk X M scope cl ex s3 H3 C) tg wg/\QTs (blk X M scope cl ex s3 H3 C) E0 ifs wt/\QE .D (blk X M scope cl ex s3 H3 C) E0 elt we)(hiy:X.N[i]? = some y:=by rfl)(hly:X.env.scope.names.lookup y=some .local:=by rfl)(hc:X.calm=true:=by rfl)(ok:QcO X.N X.env.scope M scope cap=true:=by rfl)(hf:QaU cap ix=true:=by rfl)(hs:∀x,foldedSetIterable iter X.env x=pure x:=by intro _;rfl)(hsw:swapsWith (.ListComp elt [⟨tg,iter,ifs,0⟩] scope pos) (some (.Name y py)) spos.line X.env=pure true:=by rfl):QS X E (.Assign [.Name y py] (.ListComp elt [⟨tg,iter,ifs,0⟩] scope pos) spos) (Qzm i (dComp cap wi wg wt we)):=
 ⟨Qjp (PS.imp (PS.imp (Qkv hN hiy hly hc ok hi.h (λcl ex s3 H3 C=>⟨(hb cl ex s3 H3 C).1.h,(hb cl ex s3 H3 C).2.1.h,(hb cl ex s3 H3 C).2.2.h⟩) hs hsw) λD σ H q=>QiA (E:=E) hf σ H _ q) λD σ H q=>QBy σ H _ q)⟩
end
theorem Qgl{K:PySem.W.Frag}{E:XK}{cap:List (Option Nat)}{ix ix2:List Nat}{wi wi2:DI}{wg wg2:DG}{wt wt2:DT}{we:DE}(gok:GOk wg)(hf:QaU cap ix=true)(hf2:QaU cap ix2=true)(hd:ix2.all (λi => !ix.contains i)=true)(σ:L2.St)(H:Hp)(Q:VK)(h:tX .F K E (Qiz cap wi wg wt wi2 wg2 wt2 we) σ H Q) :
  Qms cap (tI .P K E wi) (tG ix K wg) (tT K E0 wt) (tI .D K E0 wi2) (tG ix2 K wg2) (tT K E0 wt2) (tX .D K E0 we) σ H Q:=by
 obtain⟨F,δ,R,EX,rel,hw,k,o⟩:=h;refine⟨F,δ,_,EX,rel,hw,λitems hC J H1 rel1 kp1 ⟨ln,it⟩ p hp=>?_,o⟩;unfold Qft at hC;obtain⟨Iv,i0,step,fin⟩:=hC;have hpn:¬Yh σ δ p:=λz=>by obtain⟨xs,e⟩:=rel1.isl (Y7 (F:=F) z);rw[hp] at e;cases e
 let A1:Addr->Prop:=λa=>Av F σ δ a∨a=p
 have hP:∀a,Yh σ δ a->A1 a:=λa z=>.inl (Y7 z)
 have hN:∀a,A1 a->Av F σ δ a∨H1 a=none:=λa z=>z.elim .inl λz=>.inr (by rw[z];exact hp)
 have dmK:∀{H2:Hp},Kp σ δ H1 H2->(∃ys,H2 p=some (.lst ys))->∀a,A1 a->∃xs,H2 a=some (.lst xs):=λ{H2} k2 e2 a z=>by
  rcases z with z | z
  ·exact(rel1.kp k2).isl z
  ·rw[z];exact e2
 refine Qc3 items.length (λi H2=>i<=items.length/\∃acc,Iv i acc/\Lp σ δ A1 p H1 H2 acc) ⟨Qs _,[],i0,Kp.same rel1 (JL hp),[],JQ,.nil⟩ (λi H2 hi ⟨_,acc,iv,lp⟩=>?_) λH2 ⟨_,acc,iv,lp⟩=>?_
 ·obtain⟨k2,ys,e2,q2⟩:=lp;obtain⟨go,_⟩:=it H2 A1 (λb o n e=>k2.1 b o n e) hN (dmK k2 ⟨ys,e2⟩);have hd':items[i]? = some items[i]:=Qo hi;obtain⟨g1,g2⟩:=go i _ hd';refine⟨g1,λx H3 y kk hk=>?_⟩;obtain⟨s3,dx⟩:=g2 x H3 y;have k23:=Kp.same (rel1.kp k2) s3;have lp3:Lp σ δ A1 p H1 H3 acc:=Lp.step hP hpn ⟨k2,ys,e2,q2⟩ k23;refine Qj9 gok hf rel1 (λa z=>.inl z) hN (dmK lp3.kp ⟨ys,s3 _ _ e2⟩) lp3.kp dx (step i acc _ hd' iv) (λσ4 δ4 H5 h5 r5 k5 j4 l4 g4=>?_) λh5 H5 k5=>hk _ ⟨hi,acc,h5,lp3.step hP hpn k5⟩
  have av4:∀{H:Hp}{a:Addr},Av (inF A1 cap σ δ H) σ4 δ4 a->A1 a:=λ{H a} z=>QnU hP hf j4 g4 z
  refine⟨inF A1 cap σ δ H3,δ4,_,XF,r5,h5,λitems2 hJ J2 H7 rel7 kp7 ⟨ln2,it2⟩=>?_,Ql4⟩;unfold InR at hJ;obtain⟨Jv,z0,step2,fin2⟩:=hJ;have pots4:∀{b:Addr},Yh σ4 δ4 b->Yh σ δ b:=λ{b} z=>by
   obtain⟨j,z1,z2⟩:=z;rcases g4 j _ z2 with⟨e,z⟩ | z
   ·cases z
   ·exact Qck ⟨j,by rw[<- j4 j (Qdt hf z (λz=>by cases z))];exact z1,z⟩
  have k57:Kp σ δ H5 H7:=by
   refine⟨λb o n e=>kp7.1 b o (λz=>n (pots4 z)) e,λb hb=>?_⟩;by_cases z:Yh σ4 δ4 b
   ·exact kp7.2 b z
   ·obtain⟨n,e⟩:=k5.2 b hb;exact⟨n,kp7.1 _ _ z e⟩
  refine Qc3 items2.length (λj H8=>j<=items2.length/\∃acc2,Jv j acc2/\Lp σ δ A1 p H1 H8 acc2/\∀b o,¬A1 b->H7 b=some o->H8 b=some o) ⟨Qs _,acc,z0,(lp3.step hP hpn k5).step hP hpn k57,λ_ _ _ e=>e⟩ (λj H8 hj ⟨_,acc2,jv,lp8,s78⟩=>?_) λH8 ⟨_,acc2,jv,lp8,s78⟩=>?_
  ·obtain⟨ys8,e8,q8⟩:=lp8.at_;obtain⟨go2,_⟩:=it2 H8 A1 (λb o n e=>s78 b o (λz=>n (.inl z)) e) (λb z=>.inl (.inl z)) (dmK lp8.kp ⟨ys8,e8⟩);have hd2:items2[j]? = some items2[j]:=Qo hj;obtain⟨g3,g5⟩:=go2 j _ hd2;refine⟨g3,λx2 H9 y2 kk2 hk2=>?_⟩;obtain⟨s9,dx2⟩:=g5 x2 H9 y2;have k89:=Kp.same (rel1.kp lp8.kp) s9;have lp9:Lp σ δ A1 p H1 H9 acc2:=lp8.step hP hpn k89;have ri:=QkR (cap:=cap) rel1 (λa z=>.inl z) hN (dmK lp9.kp ⟨ys8,s9 _ _ e8⟩) lp9.kp;have r9:=QnT hP hf j4 g4 ri r5 λa o n e=>s9 _ _ (s78 a o n (k57.1 a o (λz=>n (hP a z)) e))
   obtain⟨hl2,hw2⟩:=step2 j acc2 _ hd2 jv;refine⟨inF A1 cap σ δ H9,δ4,_,_,r9,dx2.mv (λ_ _ _ e=>e) λa z=>.inl (av4 z),hw2,λδ5 h6 σ5 r10 st5 l5 j5=>⟨Qmh l5 λi v e=>?_,inF A1 cap σ δ H9,δ5,_,XF,r10,h6,λb hb H10 r11 kp11=>?_,Ql4⟩⟩
   ·by_cases z:i∈ix2
    ·have n1:i∉ix:=λz2=>by
      have:=JN.mp hd i z;simp[z2] at this
     rw[j4 i n1] at e;rcases QeS e with⟨_,e2⟩ | ⟨j,hj2,_⟩
     ·cases e2
     ·rw[QjH hf2 z] at hj2;cases hj2
    ·rw[j5 i z];exact e
   ·have pots:∀{b:Addr},Yh σ5 δ5 b->Yh σ δ b:=λz=>Qhf r10 (λb o _ e1 e2=>by rw[e2] at e1;cases e1) z
    have K10:Kp σ δ H9 H10:=by
     refine⟨λb o n e=>kp11.1 b o (λz=>n (pots z)) e,λb hb=>?_⟩;by_cases z:Yh σ5 δ5 b
     ·exact kp11.2 b z
     ·obtain⟨n,e⟩:=lp9.kp.2 b hb;exact⟨n,kp11.1 _ _ z e⟩
    have s710:∀b o,¬A1 b->H7 b=some o->H10 b=some o:=λb o n e=>K10.1 b o (λz=>n (hP b z)) (s9 _ _ (s78 b o n e))
    refine QcW hb (λz=>?_) λz=>hk2 _ ⟨hj,acc2,z,lp9.step hP hpn K10,s710⟩
    exact Qn8 (.inr rfl) hP hp hpn (lp9.step hP hpn K10) (QM hl2 QkJ) r11 (λb=>pots) z λe he H' lp' kk'=>hk2 _ ⟨hj,acc2++[e],he,lp',λb o n e=>kk' b o n (s710 b o n e)⟩
  ·obtain⟨ys8,e8,q8⟩:=lp8.at_;obtain⟨_,st2⟩:=it2 H8 A1 (λb o n e=>s78 b o (λz=>n (.inl z)) e) (λb z=>.inl (.inl z)) (dmK lp8.kp ⟨ys8,e8⟩);exact⟨st2,hk _ ⟨hi,acc2,fin2 acc2 jv,lp8⟩⟩
 ·obtain⟨k2,ys,e2,q2⟩:=lp;obtain⟨_,st⟩:=it H2 A1 (λb o n e=>k2.1 b o n e) hN (dmK k2 ⟨ys,e2⟩);refine⟨st,k _ (fin acc iv) (.ref p) H2 (rel1.kp k2) (kp1.trans k2) ⟨.lst (λz=>?_) e2 (q2.mv (λ_ _ _ e=>e) λa z=>.inl (.inl z)),λl e1 _=>?_⟩⟩
  ·obtain⟨xs,e⟩:=rel1.isl z;rw[hp] at e;cases e
  ·cases e1;exact Qbu kp1 hp
section
variable{X:Cx}{E:XK}
theorem QmQ(M:List Str)(cap:List (Option Nat))(i:Nat){elt tg iter tg2 iter2:QU}{ifs ifs2:List QU}{scope:YC}{pos py spos:Pos}{y:Str}{ix ix2:List Nat}{wi wi2:DI}{wg wg2:DG}{wt wt2:DT}{we:DE}(hN:X.N.Nodup)(gok:GOk wg)(hi:QI .P X E tg iter wi)(hb:∀cl ex s3 H3 C,QG ix (blk X M scope cl ex s3 H3 C) tg wg/\QTs (blk X M scope cl ex s3 H3 C) E0 ifs wt/\QI .D (blk X M scope cl ex s3 H3 C) E0 tg2 iter2 wi2/\QG ix2 (blk X M scope cl ex s3 H3 C) tg2 wg2/\QTs (blk X M scope cl ex s3 H3 C) E0 ifs2 wt2/\QE .D (blk X M scope cl ex s3 H3 C) E0 elt we)(hiy:X.N[i]? = some y:=by rfl)(hly:X.env.scope.names.lookup y=some .local:=by rfl)(hc:X.calm=true:=by rfl)(ok:QcO X.N X.env.scope M scope cap=true:=by rfl)(hf:QaU cap ix=true:=by rfl)(hf2:QaU cap ix2=true:=by rfl)(hd:ix2.all (λi => !ix.contains i)=true:=by rfl)(hs:∀x,foldedSetIterable iter X.env x=pure x:=by intro _;rfl)(hs2:∀env x,foldedSetIterable iter2 env x=pure x:=by intro _ _;rfl)(hsw:swapsWith (.ListComp elt [⟨tg,iter,ifs,0⟩,⟨tg2,iter2,ifs2,0⟩] scope pos) (some (.Name y py)) spos.line X.env=pure true:=by rfl):QS X E (.Assign [.Name y py] (.ListComp elt [⟨tg,iter,ifs,0⟩,⟨tg2,iter2,ifs2,0⟩] scope pos) spos) (QrS i (Qiz cap wi wg wt wi2 wg2 wt2 we)):=
 ⟨Qg3 (PS.imp (Qh7 hN hiy hly hc ok hi.h (λcl ex s3 H3 C=>⟨(hb cl ex s3 H3 C).1.h,(hb cl ex s3 H3 C).2.1.h,(hb cl ex s3 H3 C).2.2.1.h,(hb cl ex s3 H3 C).2.2.2.1.h,(hb cl ex s3 H3 C).2.2.2.2.1.h,(hb cl ex s3 H3 C).2.2.2.2.2.h⟩) hs hs2 hsw) λD σ H q=>Qgl (E:=E) gok hf hf2 hd σ H _ q)⟩
theorem Qkp(M:List Str)(cap:List (Option Nat))(i:Nat){elt tg iter tg2 iter2:QU}{ifs ifs2:List QU}{scope:YC}{pos py spos:Pos}{y:Str}{ix ix2:List Nat}{wi wi2:DI}{wg wg2:DG}{wt wt2:DT}{we:DE}(hN:X.N.Nodup)(gok:GOk wg)(hi:QI .P X E tg iter wi)(hb:∀cl ex s3 H3 C,QG ix (blk X M scope cl ex s3 H3 C) tg wg/\QTs (blk X M scope cl ex s3 H3 C) E0 ifs wt/\QI .D (blk X M scope cl ex s3 H3 C) E0 tg2 iter2 wi2/\QG ix2 (blk X M scope cl ex s3 H3 C) tg2 wg2/\QTs (blk X M scope cl ex s3 H3 C) E0 ifs2 wt2/\QE .D (blk X M scope cl ex s3 H3 C) E0 elt we)(hiy:X.N[i]? = some y:=by rfl)(hly:X.env.scope.names.lookup y=some .local:=by rfl)(hc:X.calm=true:=by rfl)(ok:QcO X.N X.env.scope M scope cap=true:=by rfl)(hf:QaU cap ix=true:=by rfl)(hf2:QaU cap ix2=true:=by rfl)(hd:ix2.all (λi => !ix.contains i)=true:=by rfl)(hs:∀x,foldedSetIterable iter X.env x=pure x:=by intro _;rfl)(hs2:∀env x,foldedSetIterable iter2 env x=pure x:=by intro _ _;rfl)(hsw:swapsWith (.ListComp elt [⟨tg,iter,ifs,0⟩,⟨tg2,iter2,ifs2,0⟩] scope pos) (some (.Name y py)) spos.line X.env=pure true:=by rfl):QS X E (.Assign [.Name y py] (.ListComp elt [⟨tg,iter,ifs,0⟩,⟨tg2,iter2,ifs2,0⟩] scope pos) spos) (Qzm i (Qiz cap wi wg wt wi2 wg2 wt2 we)):=
 ⟨Qjp (PS.imp (PS.imp (Qh7 hN hiy hly hc ok hi.h (λcl ex s3 H3 C=>⟨(hb cl ex s3 H3 C).1.h,(hb cl ex s3 H3 C).2.1.h,(hb cl ex s3 H3 C).2.2.1.h,(hb cl ex s3 H3 C).2.2.2.1.h,(hb cl ex s3 H3 C).2.2.2.2.1.h,(hb cl ex s3 H3 C).2.2.2.2.2.h⟩) hs hs2 hsw) λD σ H q=>Qgl (E:=E) gok hf hf2 hd σ H _ q) λD σ H q=>QBy σ H _ q)⟩
end
theorem Qdp(L:List (Int×Int)):nds (L.map Rk.pairD)=true:=Qc2.mpr λd hd=>by
 obtain⟨i,_,rfl⟩:=Ql.mp hd;rfl
def rkD:Qa->Nat
 |.int _=>0
 |.tuple _=>1
 |_=>2
def Qfv(i j:Int):Ordering:=if i<j then .lt else if i=j then .eq else .gt
def QCo(i j:Nat):Ordering:=if i<j then .lt else if i=j then .eq else .gt
def thn(o:Ordering)(p:Ordering):Ordering:=match o with
 |.eq=>p
 |o=>o
mutual
def Qci:Qa->Qa->Ordering
 |.int i,.int j=>Qfv i j
 |.tuple a,.tuple b=>QbS a b
 |x,y=>QCo (rkD x) (rkD y)
def QbS:List Qa->List Qa->Ordering
 |[],[]=>.eq
 |[],_::_=>.lt
 |_::_,[]=>.gt
 |x::xs,y::ys=>thn (Qci x y) (QbS xs ys)
end
def isL:Ordering->Bool
 |.lt=>true
 |_=>false
def ltD(x y:Qa):Bool:=isL (Qci x y)
def Qu3(x y:List Qa):Bool:=isL (QbS x y)
def sw:Ordering->Ordering
 |.lt=>.gt
 |.gt=>.lt
 |.eq=>.eq
def Qgh:Ordering->Bool
 |.gt=>false
 |_=>true
theorem Qwv(a b:Ordering):sw (thn a b)=thn (sw a) (sw b):=by cases a<;>rfl
theorem QvE(i j:Int):Qfv j i=sw (Qfv i j):=by
 unfold Qfv;by_cases h:i<j
 ·rw[if_neg (by omega),if_neg (by omega),if_pos h];rfl
 ·by_cases h2:i=j
  ·rw[if_neg (by omega),if_pos h2.symm,if_neg h,if_pos h2];rfl
  ·rw[if_pos (by omega),if_neg h,if_neg h2];rfl
theorem QvF(i j:Int):Qgh (Qfv i j)=decide (i<=j):=by
 unfold Qfv;by_cases h:i<j
 ·rw[if_pos h];exact(decide_eq_true (by omega)).symm
 ·by_cases h2:i=j
  ·rw[if_neg h,if_pos h2];exact(decide_eq_true (by omega)).symm
  ·rw[if_neg h,if_neg h2];exact(decide_eq_false (by omega)).symm
mutual
theorem Qd3:∀(x y:Qa),Qci y x=sw (Qci x y)
 |.int i,.int j=>QvE i j
 |.tuple a,.tuple b=>Qk4 a b
 |.int _,.tuple _=>rfl
 |.tuple _,.int _=>rfl
 |.int _,.none=>rfl
 |.int _,.bool _=>rfl
 |.int _,.str _=>rfl
 |.int _,.list _=>rfl
 |.int _,.dict _=>rfl
 |.tuple _,.none=>rfl
 |.tuple _,.bool _=>rfl
 |.tuple _,.str _=>rfl
 |.tuple _,.list _=>rfl
 |.tuple _,.dict _=>rfl
 |.none,y=>by cases y<;>rfl
 |.bool _,y=>by cases y<;>rfl
 |.str _,y=>by cases y<;>rfl
 |.list _,y=>by cases y<;>rfl
 |.dict _,y=>by cases y<;>rfl
theorem Qk4:∀(xs ys:List Qa),QbS ys xs=sw (QbS xs ys)
 |[],[]=>rfl
 |[],_::_=>rfl
 |_::_,[]=>rfl
 |x::xs,y::ys=>by
  show thn (Qci y x) (QbS ys xs)=sw (thn (Qci x y) (QbS xs ys));rw[Qd3 x y,Qk4 xs ys,Qwv]
end
theorem Qyb{a c:Ordering}(hab:Qgh a=true)(h:Qgh (sw c)=true->Qgh (sw a)=true)(ha:a=.lt):c=.lt:=by
 subst ha;cases c with
 |lt=>rfl
 |eq=>cases h rfl
 |gt=>cases h rfl
mutual
theorem Qhn:∀(x y z:Qa),Qgh (Qci x y)=true->Qgh (Qci y z)=true->Qgh (Qci x z)=true
 |.int i,.int j,.int k,h1,h2=>by
  have h1:Qgh (Qfv i j)=true:=h1;have h2:Qgh (Qfv j k)=true:=h2;show Qgh (Qfv i k)=true;rw[QvF] at h1 h2 ⊢;have a:=of_decide_eq_true h1;have b:=of_decide_eq_true h2;exact decide_eq_true (by omega)
 |.tuple a,.tuple b,.tuple c,h1,h2=>Qk3 a b c h1 h2
 |.int _,y,.tuple _,h1,h2=>rfl
 |.int _,.tuple _,.int _,h1,h2=>by cases h2
 |.tuple _,.int _,z,h1,h2=>by cases h1
 |.tuple _,.tuple _,.int _,h1,h2=>by cases h2
 |.int _,y,.none,_,_=>rfl
 |.int _,y,.bool _,_,_=>rfl
 |.int _,y,.str _,_,_=>rfl
 |.int _,y,.list _,_,_=>rfl
 |.int _,y,.dict _,_,_=>rfl
 |.tuple _,y,.none,_,_=>rfl
 |.tuple _,y,.bool _,_,_=>rfl
 |.tuple _,y,.str _,_,_=>rfl
 |.tuple _,y,.list _,_,_=>rfl
 |.tuple _,y,.dict _,_,_=>rfl
 |.int _,.none,.int _,h1,h2=>by cases h2
 |.int _,.bool _,.int _,h1,h2=>by cases h2
 |.int _,.str _,.int _,h1,h2=>by cases h2
 |.int _,.list _,.int _,h1,h2=>by cases h2
 |.int _,.dict _,.int _,h1,h2=>by cases h2
 |.tuple _,.none,.int _,h1,h2=>by cases h2
 |.tuple _,.bool _,.int _,h1,h2=>by cases h2
 |.tuple _,.str _,.int _,h1,h2=>by cases h2
 |.tuple _,.list _,.int _,h1,h2=>by cases h2
 |.tuple _,.dict _,.int _,h1,h2=>by cases h2
 |.tuple _,.none,.tuple _,h1,h2=>by cases h2
 |.tuple _,.bool _,.tuple _,h1,h2=>by cases h2
 |.tuple _,.str _,.tuple _,h1,h2=>by cases h2
 |.tuple _,.list _,.tuple _,h1,h2=>by cases h2
 |.tuple _,.dict _,.tuple _,h1,h2=>by cases h2
 |.none,y,z,h1,h2=>by cases y<;>cases z<;>first | rfl | (cases h1;done) | (cases h2;done)
 |.bool _,y,z,h1,h2=>by cases y<;>cases z<;>first | rfl | (cases h1;done) | (cases h2;done)
 |.str _,y,z,h1,h2=>by cases y<;>cases z<;>first | rfl | (cases h1;done) | (cases h2;done)
 |.list _,y,z,h1,h2=>by cases y<;>cases z<;>first | rfl | (cases h1;done) | (cases h2;done)
 |.dict _,y,z,h1,h2=>by cases y<;>cases z<;>first | rfl | (cases h1;done) | (cases h2;done)
 termination_by x y z=>sizeOf x+sizeOf y+sizeOf z
theorem Qk3:∀(xs ys zs:List Qa),Qgh (QbS xs ys)=true->Qgh (QbS ys zs)=true->Qgh (QbS xs zs)=true
 |[],_,[],_,_=>rfl
 |[],_,_::_,_,_=>rfl
 |_::_,[],_,h1,_=>by cases h1
 |_::_,_::_,[],_,h2=>by cases h2
 |x::xs,y::ys,z::zs,h1,h2=>by
  have h1:Qgh (thn (Qci x y) (QbS xs ys))=true:=h1;have h2:Qgh (thn (Qci y z) (QbS ys zs))=true:=h2;show Qgh (thn (Qci x z) (QbS xs zs))=true;have a1:Qgh (Qci x y)=true:=by cases e:Qci x y<;>rw[e] at h1<;>first | rfl | cases h1
  have a2:Qgh (Qci y z)=true:=by cases e:Qci y z<;>rw[e] at h2<;>first | rfl | cases h2
  have a3:=Qhn x y z a1 a2;cases e1:Qci x y with
  |gt=>rw[e1] at a1;cases a1
  |lt=>
   have:Qci x z=.lt:=Qyb (a:=Qci x y) a1 (λq=>by
    rw[<- Qd3 x z] at q;rw[<- Qd3 x y];exact Qhn y z x a2 q) e1
   rw[this];rfl
  |eq=>
   cases e2:Qci y z with
   |gt=>rw[e2] at a2;cases a2
   |lt=>
    have:Qci x z=.lt:=Qyb (a:=Qci y z) a2 (λq=>by
     rw[<- Qd3 x z] at q;rw[<- Qd3 y z];exact Qhn z x y q a1) e2
    rw[this];rfl
   |eq=>
    rw[e1] at h1;rw[e2] at h2;cases e3:Qci x z with
    |gt=>rw[e3] at a3;cases a3
    |lt=>rfl
    |eq=>exact Qk3 xs ys zs h1 h2
 termination_by x y z=>sizeOf x+sizeOf y+sizeOf z
end
theorem Qym(o:Ordering):isL (sw o) = !Qgh o:=by cases o<;>rfl
theorem QnC(x y:Qa):ltD y x = !Qgh (Qci x y):=by unfold ltD;rw[Qd3 x y,Qym]
theorem Qha(x y:Qa)(h:ltD x y=true):ltD y x=false:=by
 rw[QnC];unfold ltD at h;cases e:Qci x y<;>rw[e] at h<;>first | rfl | cases h
theorem QkH(x y z:Qa)(h1:ltD y x=false)(h2:ltD z y=false):ltD z x=false:=by
 rw[QnC] at h1 h2 ⊢;rw[Qhn x y z (by simpa using h1) (by simpa using h2)];rfl
mutual
def QiZ:Qa->Qa->Bool
 |.int _,.int _=>true
 |.tuple a,.tuple b=>QaV a b
 |_,_=>false
def QaV:List Qa->List Qa->Bool
 |x::xs,y::ys=>QiZ x y&&QaV xs ys
 |_,_=>true
end
def isE:Ordering->Bool
 |.eq=>true
 |_=>false
theorem Qvg(a b:Ordering):isE (thn a b)=(isE a&&isE b):=by cases a<;>rfl
mutual
theorem Qn6:∀(x y:Qa),QiZ x y=true->QY x y=isE (Qci x y)
 |.int i,.int j,_=>by
  show(i == j)=isE (Qfv i j);unfold Qfv;by_cases h:i=j
  ·subst h;simp[isE]
  ·rw[beq_eq_false_iff_ne.mpr h];split
   ·rfl
   ·rfl
 |.tuple a,.tuple b,h=>Qn4 a b h
 |.int _,.tuple _,h=>by cases h
 |.tuple _,.int _,h=>by cases h
 |.int _,.none,h=>by cases h
 |.int _,.bool _,h=>by cases h
 |.int _,.str _,h=>by cases h
 |.int _,.list _,h=>by cases h
 |.int _,.dict _,h=>by cases h
 |.tuple _,.none,h=>by cases h
 |.tuple _,.bool _,h=>by cases h
 |.tuple _,.str _,h=>by cases h
 |.tuple _,.list _,h=>by cases h
 |.tuple _,.dict _,h=>by cases h
 |.none,y,h=>by cases y<;>cases h
 |.bool _,y,h=>by cases y<;>cases h
 |.str _,y,h=>by cases y<;>cases h
 |.list _,y,h=>by cases y<;>cases h
 |.dict _,y,h=>by cases y<;>cases h
theorem Qn4:∀(xs ys:List Qa),QaV xs ys=true->Qd9 xs ys=isE (QbS xs ys)
 |[],[],_=>rfl
 |[],_::_,_=>rfl
 |_::_,[],_=>rfl
 |x::xs,y::ys,h=>by
  have h:=Qp.mp (show(QiZ x y&&QaV xs ys)=true from h);show(QY x y&&Qd9 xs ys)=isE (thn (Qci x y) (QbS xs ys));rw[Qn6 x y h.1,Qn4 xs ys h.2,Qvg]
end
end Dl
namespace Rt
open PySem.Calls Dl
theorem Qfk:∀{ds:List Qa}{d:Qa},d∈ds->d.depth<=QF ds
 |x::ds,d,h=>by
  show d.depth<=max x.depth (QF ds);rcases Qu.mp h with z | z
  ·subst z;exact Nat.le_max_left _ _
  ·exact Q1 (Qfk z) (QgB _ _)
theorem readsAll_len{h:Heap}:∀{vs:List Value}{ds:List Qa}{as:List Addr},YL h vs ds as->vs.length=ds.length
 |_,_,_,.nil=>rfl
 |_,_,_,.cons _ r=>by rw[Qx,Qx,readsAll_len r]
section
open PySem.SeqAt
open PySem.AutoSeq1 (wpAny_loadPart')
open PySem.MeetsSeq PySem.MeetsSeq2 PySem.MeetsSeq3
theorem Qec{l b:Addr}{items items2:Array Value}{n n2:Nat}{dd dd2:Option Addr}{sl sl2:Array (Option Value)}{ds es:List Qa}{as bs:List Addr}{N:Nat}(hk:QaV ds es=true)(hc1:Ja ds=true)(hc2:Ja es=true)(hd:QF ds<=N)
  (ih:∀(x y:Qa)(A:Q5)(s:Shared)(v u:Value)(p q:List Addr),QbA s.heap v x p->QbA s.heap u y q->x.canLay0=true->y.canLay0=true->QiZ x y=true->x.depth<=N->A.units+2*N+2<cLine->∀(prog:QC)(w:Q9)(E Q:Value->Shared->Prop),Q (.bool (ltD x y)) s->wpAny (model prog w) A (richCompare .Lt v u) Q E s) :
  Meets (YO.«tuple.__lt__» ⟨[.ref l,.ref b],[]⟩)
   (λA R s=>s.heap.get? l=some { cls:=.type "tuple",dict:=dd,data:=.seq items n,slots:=sl }/\s.heap.get? b=some { cls:=.type "tuple",dict:=dd2,data:=.seq items2 n2,slots:=sl2 }/\YL s.heap items.toList ds as/\YL s.heap items2.toList es bs/\A.units+2*N+4<cLine /\
    R (.ok (.ret (.bool (Qu3 ds es)))) s):=
 .of_wp λprog w A R s h=>by
  obtain⟨hp,g,d,tk,os⟩:=s;obtain⟨hl,hb,hr1,hr2,hu,h⟩:=h;have f2:=AutoSeq1.sub_tuple_tuple;have hu1:A.in1.units+2*N+2<cLine:=by show A.units+1+2*N+2<cLine;omega
  have z1:items.size=ds.length:=by rw[<- readsAll_len hr1];simp
  have z2:items2.size=es.length:=by rw[<- readsAll_len hr2];simp
  wp_walk using wpAny_loadPart' hl,wpAny_loadPart' hb,ZC _ (λrest b s'=>b.1=none/\s'=⟨hp,g,d,tk,os⟩/\∃(vs ws:List Value)(xs ys:List Qa)(p q:List Addr),rest=vs.zip ws /\
   YL hp vs xs p/\YL hp ws ys q/\QaV xs ys=true/\Ja xs=true/\Ja ys=true/\QF xs<=N/\xs.length+items2.size=ys.length+items.size/\R (.ok (.ret (.bool (Qu3 xs ys)))) ⟨hp,g,d,tk,os⟩) _
  case turn=>
   rintro⟨y,x⟩ rest b s' ⟨hb',rfl,vs,ws,xs,ys,p,q,hz,hvi,hwi,hkk,c1,c2,hdd,hlen,hR⟩;cases hvi with
   |nil=>rw[List.zip_nil_left] at hz;cases hz
   |@cons v0 vs0 d1 ds1 as1 as2 r1 hvi'=>
    cases hwi with
    |nil=>rw[List.zip_nil_right] at hz;cases hz
    |@cons u0 us0 d2 ds2 bs1 bs2 r2 hwi'=>
     rw[QbK] at hz;injection hz with hyx hrest
     injection hyx with hy hx
     subst hy hx;have hkk:=Qp.mp (show(QiZ d1 d2&&QaV ds1 ds2)=true from hkk);simp only[Ja,JH] at c1 c2;have dm1:d1.depth<=N:=Q1 (Qfk (ds:=d1::ds1) (.head _)) hdd;have dm2:QF ds1<=N:=Q1 (show QF ds1<=max d1.depth (QF ds1) from QgB _ _) hdd;simp only[Qx] at hlen;have he:=Qfw d1 d2 A.in1 ⟨hp,g,d,tk,os⟩ y x _ _ r1 r2 c1.1 c2.1 (by omega);have hR:R (.ok (.ret (.bool (isL (thn (Qci d1 d2) (QbS ds1 ds2)))))) ⟨hp,g,d,tk,os⟩:=hR;rw[Qn6 d1 d2 hkk.1] at he;have hri:=λE Q=>ih d1 d2 A.in1 ⟨hp,g,d,tk,os⟩ y x _ _ r1 r2 c1.1 c2.1 hkk.1 dm1 hu1 prog w E Q
     unfold ltD at hri;cases e1:Qci d1 d2 with
     |lt=>
      rw[e1] at he hR hri;refine wpAny_bind (he prog w _ _ ?_)
      wp_walk using hri
      exact⟨_,rfl,hR⟩
     |gt=>
      rw[e1] at he hR hri;refine wpAny_bind (he prog w _ _ ?_)
      wp_walk using hri
      exact⟨_,rfl,hR⟩
     |eq=>
      rw[e1] at he hR;refine wpAny_bind (he prog w _ _ ?_)
      wp_walk
      exact⟨rfl,rfl,_,_,_,_,_,_,hrest,hvi',hwi',hkk.2,c1.2,c2.2,dm2,by omega,hR⟩
  case fin=>
   rintro⟨b1,b2⟩ s' ⟨hb',rfl,vs,ws,xs,ys,p,q,hz,hvi,hwi,hkk,c1,c2,hdd,hlen,hR⟩;simp only at hb';subst hb';have hv:Qu3 xs ys=decide (items.size<items2.size):=by
    cases hvi with
    |nil=>
     cases hwi with
     |nil=>
      simp only[Qbw] at hlen;exact(decide_eq_false (by omega)).symm
     |cons r2 hw=>
      simp only[Qbw,Qx] at hlen;exact(decide_eq_true (by omega)).symm
    |cons r1 hv=>
     cases hwi with
     |nil=>
      simp only[Qbw,Qx] at hlen;exact(decide_eq_false (by omega)).symm
     |cons r2 hw=>
      rw[QbK] at hz;cases hz
   rw[hv] at hR
   wp_walk
   exact⟨_,rfl,by simpa [QzV] using hR⟩
  case h=>
   exact⟨rfl,rfl,items.toList,items2.toList,ds,es,as,bs,rfl,hr1,hr2,hk,hc1,hc2,hd,by omega,h⟩
end
end Rt
namespace Rt
open PySem.Calls PySem.W Dl
mutual
def okK:Qa->Bool
 |.int _=>true
 |.tuple ds=>Qb8 ds
 |_=>false
def Qb8:List Qa->Bool
 |[]=>true
 |d::ds=>okK d&&Qb8 ds
end
mutual
theorem QbE{h h':Heap}(k:∀b o,h.get? b=some o->h'.get? b=some o):∀(d:Qa)(v:Value)(as:List Addr),okK d=true->QbA h v d as->QbA h' v d as
 |.int _,_,_,_,.int i t=>.int i t
 |.tuple ds,_,_,hk,.tuple (vs:=vs) e c d r=>.tuple (k _ _ e) c d (YR k ds _ _ hk r)
 |.none,_,_,hk,_=>by cases hk
 |.bool _,_,_,hk,_=>by cases hk
 |.str _,_,_,hk,_=>by cases hk
 |.list _,_,_,hk,_=>by cases hk
 |.dict _,_,_,hk,_=>by cases hk
theorem YR{h h':Heap}(k:∀b o,h.get? b=some o->h'.get? b=some o):∀(ds:List Qa)(vs:List Value)(as:List Addr),Qb8 ds=true->YL h vs ds as->YL h' vs ds as
 |[],_,_,_,.nil=>.nil
 |d::ds,_,_,hk,.cons r rs=>by
  have hk:=Qp.mp (show(okK d&&Qb8 ds)=true from hk);exact .cons (QbE k d _ _ hk.1 r) (YR k ds _ _ hk.2 rs)
end
theorem QtP:∀(N:Nat)(x y:Qa)(A:Q5)(s:Shared)(v u:Value)(p q:List Addr),QbA s.heap v x p->QbA s.heap u y q->x.canLay0=true->y.canLay0=true->QiZ x y=true->x.depth<=N->A.units+2*N+2<cLine->∀(prog:QC)(w:Q9)(E Q:Value->Shared->Prop),Q (.bool (ltD x y)) s->wpAny (model prog w) A (richCompare .Lt v u) Q E s:=by
 intro N;have intz:∀(i j:Int)(A:Q5)(s:Shared)(v u:Value)(p q:List Addr),QbA s.heap v (.int i) p->QbA s.heap u (.int j) q->∀(prog:QC)(w:Q9)(E Q:Value->Shared->Prop),Q (.bool (ltD (.int i) (.int j))) s->wpAny (model prog w) A (richCompare .Lt v u) Q E s:=by
  intro i j A s v u p q r1 r2 prog w E Q h;cases r1;cases r2;refine HT.Qpw A s i _ j _ prog w E Q ?_
  have e:ltD (.int i) (.int j)=decide (i<j):=by
   show isL (Qfv i j)=_;unfold Qfv;by_cases z:i<j
   ·rw[if_pos z,decide_eq_true z];rfl
   ·rw[if_neg z,decide_eq_false z];split<;>rfl
  rw[e] at h;exact h
 induction N with
 |zero=>
  intro x y A s v u p q r1 r2 c1 c2 hk hd hu prog w E Q h;cases x<;>cases y<;>first | (cases hk;done) | skip
  ·exact intz _ _ A s v u p q r1 r2 prog w E Q h
  ·unfold ZG at hd;omega
 |succ N ih=>
  intro x y A s v u p q r1 r2 c1 c2 hk hd hu prog w E Q h;cases x<;>cases y<;>first | (cases hk;done) | skip
  ·exact intz _ _ A s v u p q r1 r2 prog w E Q h
  ·rename_i ds es
   cases r1 with
   |@tuple a o vs n _ _ ho hc hd' ra=>
    cases r2 with
    |@tuple b o2 vs2 n2 _ _ ho2 hc2 hd2 rb=>
     obtain⟨cls,dd,data,sl⟩:=o;obtain⟨cls2,dd2,data2,sl2⟩:=o2;simp only at hc hd' hc2 hd2;subst hc hd' hc2 hd2;have dd3:QF ds<=N:=by unfold ZG at hd;omega
     exact richCompare_meets_room (op:=.Lt) ⟨_,ho,rfl⟩ ⟨_,ho2,rfl⟩ PySem.F.slot_tuple_lt PySem.F.entry_tuple_lt (PySem.F.args_tuple_lt_2 _ _) (Qec (N:=N) hk c1 c2 dd3 ih)
      ⟨ho,ho2,ra,rb,by omega,show Qb2 (Qu3 ds es)≠Value.notImplemented/\Q (.bool (Qu3 ds es)) s from⟨(λx=>nomatch x),h⟩⟩ (by omega)
theorem QlE{N:Nat}{ds es:List Qa}{A:Q5}{s:Shared}{v u:Value}{p q:List Addr}(r1:QbA s.heap v (.tuple ds) p)(r2:QbA s.heap u (.tuple es) q)(c1:Ja ds=true)(c2:Ja es=true)(hk:QaV ds es=true)(hd:QF ds<=N)(hu:A.units+2*N+4<cLine){prog:QC}{w:Q9}{E:Value->Shared->Prop}{C:Bool->Shared->Prop}(h:C (Qu3 ds es) s):wpAny (model prog w) A (oneLt' true v u) C E s:=by
 cases r1 with
 |@tuple a o vs n _ _ ho hc hd' ra=>
  cases r2 with
  |@tuple b o2 vs2 n2 _ _ ho2 hc2 hd2 rb=>
   obtain⟨cls,dd,data,sl⟩:=o;obtain⟨cls2,dd2,data2,sl2⟩:=o2;simp only at hc hd' hc2 hd2;subst hc hd' hc2 hd2;rw[oneLt'_eq];simp only[if_true];refine wpAny_bind (wpAny_cRoomFor (by omega) ?_);refine wpAny_bind (wpAny_callSpecialIfBound?_slot ⟨_,ho,rfl⟩ PySem.F.slot_tuple_lt (QhH PySem.F.slot_tuple_lt ⟨_,ho,rfl⟩ PySem.F.entry_tuple_lt (PySem.F.args_tuple_lt_2 _ _) (Qec (N:=N) hk c1 c2 hd λx y=>QtP N x y) ⟨ho,ho2,ra,rb,hu,?_⟩));exact ZR h
section
variable{prog:QC}{w:Q9}{A:Q5}{E:Value->Shared->Prop}{s:Shared}
theorem QsC{N:Nat}{x y:Qa}{v u:Value}{p q:List Addr}(r1:QbA s.heap v x p)(r2:QbA s.heap u y q)(c1:x.canLay0=true)(c2:y.canLay0=true)(hk:QiZ x y=true)(hd:x.depth<=N)(hu:A.units+2*N+2<cLine){C:Bool->Shared->Prop}(h:C (ltD x y) s):wpAny (model prog w) A (oneLt' false v u) C E s:=by
 refine kat_one v u ?_
 exact QtP N x y A s v u p q r1 r2 c1 c2 hk hd hu prog w E _ h
theorem ltD_int(i j:Int):ltD (.int i) (.int j)=decide (i<j):=by
 show isL (Qfv i j)=_;unfold Qfv;by_cases z:i<j
 ·rw[if_pos z,decide_eq_true z];rfl
 ·rw[if_neg z,decide_eq_false z];split<;>rfl
def Qvj:List Qa->Prop
 |.int _::_=>True
 |_=>False
theorem QsO{b:Bool}{n1 n2 N:Nat}{C:Bool->Shared->Prop}(hu:A.units+2*N+2<cLine):∀(vs us:List Value)(xs ys:List Qa)(p q:List Addr)(i:Nat),YL s.heap vs xs p->YL s.heap us ys q->Ja xs=true->Ja ys=true->QaV xs ys=true->QF xs<=N->(b=true->i=0->Qvj xs)->xs.length+n2=ys.length+n1 ->
  C (Qu3 xs ys) s->KatLex prog w A b (decide (n1<n2)) C (vs.zip us) i s
 |[],us,xs,ys,p,q,i,r1,r2,c1,c2,hk,hd,hb,hl,h=>by
  cases r1;refine kat_nil ?_
  cases r2 with
  |nil=>rw[show decide (n1<n2)=false from decide_eq_false (by simp at hl;omega)];exact h
  |cons r rs=>rw[show decide (n1<n2)=true from decide_eq_true (by simp at hl;omega)];exact h
 |v::vs,[],xs,ys,p,q,i,r1,r2,c1,c2,hk,hd,hb,hl,h=>by
  cases r2;cases r1;refine kat_nil ?_
  rw[show decide (n1<n2)=false from decide_eq_false (by simp at hl;omega)];exact h
 |v::vs,u::us,xs,ys,p,q,i,r1,r2,c1,c2,hk,hd,hb,hl,h=>by
  cases r1 with
  |@cons _ _ d1 ds1 as1 as2 r1 rs1=>
   cases r2 with
   |@cons _ _ d2 ds2 bs1 bs2 r2 rs2=>
    have hk:=Qp.mp (show(QiZ d1 d2&&QaV ds1 ds2)=true from hk);simp only[Ja,JH] at c1 c2;have dm1:d1.depth<=N:=Q1 (Qfk (ds:=d1::ds1) (.head _)) hd;have dm2:QF ds1<=N:=Q1 (show QF ds1<=max d1.depth (QF ds1) from QgB _ _) hd;have h:C (isL (thn (Qci d1 d2) (QbS ds1 ds2))) s:=h;have one:C (ltD d1 d2) s->wpAny (model prog w) A (oneLt' (b&&i == 0) v u) C (λ_ _=>False) s:=λhc=>by
     cases e:(b&&i == 0) with
     |false=>exact QsC (N:=N) r1 r2 c1.1 c2.1 hk.1 dm1 hu hc
     |true=>
      have e:=Qp.mp e;have hh:=hb e.1 (beq_iff_eq.mp e.2);cases d1<;>first | exact hh.elim | skip
      cases d2<;>first | (cases hk.1;done) | skip
      cases r1;cases r2;rw[ltD_int] at hc;exact oneLt_int hc
    refine kat_cons (Qfw d1 d2 A s v u _ _ r1 r2 c1.1 c2.1 (by omega) prog w _ _ ?_);rw[Qn6 d1 d2 hk.1];cases e1:Qci d1 d2 with
    |lt=>rw[e1] at h;exact kat_no (one (by unfold ltD;rw[e1];exact h))
    |gt=>rw[e1] at h;exact kat_no (one (by unfold ltD;rw[e1];exact h))
    |eq=>
     rw[e1] at h;refine kat_yes (QsO hu vs us ds1 ds2 _ _ (i+1) rs1 rs2 c1.2 c2.2 hk.2 dm2 (λ_ z=>by omega) (by simp only[Qx] at hl;omega) h)
def QlX(ds:List Qa)(κ:Yt):Prop:=κ=general'∨κ=oneType'∨κ=tuples' false∨(κ=tuples' true/\∀d∈ds,∃es,d=.tuple es/\Qvj es)
theorem QsN{N:Nat}{ds:List Qa}{κ:Yt}{x y:Qa}{v u:Value}{p q:List Addr}(su:QlX ds κ)(hx:x∈ds)(r1:QbA s.heap v x p)(r2:QbA s.heap u y q)(c1:x.canLay0=true)(c2:y.canLay0=true)(hk:QiZ x y=true)(tb:∀b,κ=tuples' b->∃es,x=.tuple es)(hd:x.depth<=N)(hu:A.units+2*N+4<cLine){C:Bool->Shared->Prop}(h:C (ltD x y) s) :
  wpAny (model prog w) A (keyLt' κ v u) C E s:=by
 have tup:∀b,κ=tuples' b->(b=true->∃es,x=.tuple es/\Qvj es)->wpAny (model prog w) A (keyLt' κ v u) C E s:=λb hb hh=>by
  subst hb;obtain⟨es,rfl⟩:=tb b rfl;cases y<;>first | (cases hk;done) | skip
  rename_i fs
  cases r1 with
  |@tuple a o vs n _ _ ho hc hd' ra=>
   cases r2 with
   |@tuple b2 o2 vs2 n2 _ _ ho2 hc2 hd2 rb=>
    have dd3:QF es<=N:=by unfold ZG at hd;omega
    refine kat_lt ho hd' ho2 hd2 (QsO (N:=N) (by omega) _ _ es fs _ _ 0 ra rb c1 c2 hk dd3 (λe _=>?_) ?_ h)
    ·obtain⟨es',e',hh⟩:=hh e;cases e';exact hh
    ·have e1:=readsAll_len ra;have e2:=readsAll_len rb;rw[Qd] at e1 e2;omega
 rcases su with rfl | rfl | rfl | ⟨rfl,hall⟩
 ·exact QsC (N:=N) r1 r2 c1 c2 hk hd (by omega) h
 ·cases x<;>cases y<;>first | (cases hk;done) | skip
  ·cases r1;cases r2;rw[ltD_int] at h;exact oneLt_int h
  ·have dd3:∀{es:List Qa},(ZW es).depth<=N->QF es<=N:=λ{es} h=>by unfold ZG at h;omega
   exact QlE (N:=N) r1 r2 c1 c2 hk (dd3 hd) hu h
 ·exact tup false rfl λe=>by cases e
 ·exact tup true rfl λ_=>hall x hx
end
section
variable{M:QzM}{A:Q5}{E:Value->Shared->Prop}{s:Shared}
theorem Qej{α β:Type}{f:α->Sem β}{g:α->β}:∀(l:List α){Q:List β->Shared->Prop},(∀v∈l,∀(Q':β->Shared->Prop),Q' (g v) s->wpAny M A (f v) Q' E s)->Q (l.map g) s->wpAny M A (l.mapM f) Q E s
 |[],_,_,h=>by rw[List.mapM_nil];exact Qb h
 |x::l,Q,hf,h=>by
  rw[List.mapM_cons];exact wpAny_bind (hf x (.head _) _ (wpAny_bind (Qej l (Q:=λbs s'=>wpAny M A (pure (g x::bs)) Q E s') (λv hv=>hf v (.tail _ hv)) (Qb h))))
end
def QiY(h:Heap)(v:Value):Option Value:=match v with
 |.ref a=>(match h.get? a with
  |some o=>(match o.data with
   |.seq xs _=>xs[0]?
   |_=>none)
  |none=>none)
 |_=>none
def tyV(h:Heap)(v:Value):Value:=match v with
 |.int _ _=>.type "int"
 |.ref a=>(match h.get? a with
  |some o=>o.cls
  |none=>.none)
 |_=>.none
theorem ZL:∀{ds:List Qa},Qb8 ds=true->∀d∈ds,okK d=true
 |x::ds,h,d,hd=>by
  have h:=Qp.mp (show(okK x&&Qb8 ds)=true from h);rcases Qu.mp hd with z | z
  ·rw[z];exact h.1
  ·exact ZL h.2 d z
theorem Qg4:∀{ds:List Qa},(∀d∈ds,okK d=true)->Qb8 ds=true
 |[],_=>rfl
 |x::ds,h=>by
  show(okK x&&Qb8 ds)=true;rw[h x (.head _),Qg4 λd hd=>h d (.tail _ hd)];rfl
theorem JZ{h:Heap}:∀{vs:List Value}{ds:List Qa}{as:List Addr},YL h vs ds as->∀v∈vs,∃d∈ds,∃bs,QbA h v d bs
 |_,_,_,.cons (d:=d) r rs,v,hv=>by
  rcases Qu.mp hv with z | z
  ·rw[z];exact⟨d,.head _,_,r⟩
  ·obtain⟨d',hd,bs,r'⟩:=JZ rs v z;exact⟨d',.tail _ hd,bs,r'⟩
theorem Qdk{h:Heap}:∀{vs:List Value}{ds:List Qa}{as:List Addr},YL h vs ds as->∀d∈ds,∃v∈vs,∃bs,QbA h v d bs
 |_,_,_,.cons (d:=d) (v:=v) r rs,d',hd=>by
  rcases Qu.mp hd with z | z
  ·rw[z];exact⟨v,.head _,_,r⟩
  ·obtain⟨v',hv,bs,r'⟩:=Qdk rs d' z;exact⟨v',.tail _ hv,bs,r'⟩
section
variable{prog:QC}{w:Q9}{A:Q5}{E:Value->Shared->Prop}{s:Shared}
theorem QgK{v:Value}{d:Qa}{bs:List Addr}(r:QbA s.heap v d bs)(hk:okK d=true){Q:Value->Shared->Prop}(q:Q (tyV s.heap v) s):wpAny (model prog w) A (typeOf v) Q E s:=by
 cases r<;>first | (cases hk;done) | skip
 ·exact Qb q
 ·rename_i a o vs n xs ho hc hd ra
  refine wpAny_typeOf_ref ho ?_
  have e:tyV s.heap (.ref a)=o.cls:=by unfold tyV;simp only[ho]
  rw[e] at q;exact q
theorem QeL{vs:List Value}{ds:List Qa}{as:List Addr}{Q:Yt->Shared->Prop}(ra:YL s.heap vs ds as)(hk:Qb8 ds=true)(ht:∀d∈ds,∃es,d=.tuple es)(h:∀κ,QlX ds κ->Q κ s):wpAny (model prog w) A (keyKind' vs.toArray) Q E s:=by
 have rd:=JZ ra;have fs:∀v∈vs,∀(Q':Option Value->Shared->Prop),Q' (QiY s.heap v) s->wpAny (model prog w) A (firstOfTuple' v) Q' E s:=λv hv Q' q=>by
  obtain⟨d,hd,bs,r⟩:=rd v hv;obtain⟨es,rfl⟩:=ht d hd;cases r with
  |@tuple a o xs n _ _ ho hc hd' r'=>
   rw[kas_first_eq];refine wpAny_bind (wpAny_typeOf_ref ho ?_);rw[hc];rw[if_neg (by decide)];refine wpAny_bind (listItems_at ho hd' (Qb ?_));have e:QiY s.heap (.ref a)=xs[0]? := by unfold QiY;simp only[ho,hd']
   rw[<- e];exact q
 rw[Qwa,Yn,map_eq_pure_bind];refine wpAny_bind (wpAny_bind (Qej (g:=QiY s.heap) vs fs (Qb ?_)));by_cases z:((vs.map (QiY s.heap)).toArray.all λx=>x.isSome)=true
 ·rw[if_pos z];refine wpAny_bind (wpAny_rule ?_);have hfm:((vs.map (QiY s.heap)).toArray.filterMap id)=(vs.filterMap (QiY s.heap)).toArray:=by simp[QaD]
  have heads:∀u∈vs.filterMap (QiY s.heap),∃d bs,QbA s.heap u d bs/\okK d=true:=λu hu=>by
   obtain⟨v,hv,e⟩:=Yd.mp hu;obtain⟨d,hd,bs,r⟩:=rd v hv;obtain⟨es,rfl⟩:=ht d hd;have ko:=ZL hk _ hd;cases r with
   |@tuple a o xs n _ _ ho hc hd' r'=>
    have e2:QiY s.heap (.ref a)=xs[0]? := by unfold QiY;simp only[ho,hd']
    rw[e2] at e;have hm:u∈xs.toList:=by rw[<- Q0] at e;exact Q7 e
    obtain⟨d2,hd2,bs2,r2⟩:=JZ r' u hm;exact⟨d2,bs2,r2,ZL ko _ hd2⟩
  rw[hfm,Qen,Yn,map_eq_pure_bind];refine wpAny_bind (wpAny_bind (wpAny_bind (Qej (g:=tyV s.heap) _ (λu hu Q' q=>?_) (Qb ?_))))
  ·obtain⟨d,bs,r,ko⟩:=heads u hu;exact QgK r ko q
  ·have fin:∀o:Option Value,(o.any (· != Yj "tuple")=true->∀u∈vs.filterMap (QiY s.heap),tyV s.heap u≠Yj "tuple")->Q (tuples' (o.any (· != Yj "tuple"))) s:=λo ho=>by
    cases e:o.any (· != Yj "tuple") with
    |false=>exact h _ (.inr (.inr (.inl rfl)))
    |true=>
     refine h _ (.inr (.inr (.inr ⟨rfl,λd hd=>?_⟩)));obtain⟨es,rfl⟩:=ht d hd;obtain⟨v,hv,bs,r⟩:=Qdk ra _ hd;refine⟨es,rfl,?_⟩;have ko:=ZL hk _ hd;cases r with
     |@tuple a oo xs n _ _ ho' hc hd' r'=>
      have e2:QiY s.heap (.ref a)=xs[0]? := by unfold QiY;simp only[ho',hd']
      have some1:(QiY s.heap (.ref a)).isSome=true:=by
       have z':=QeB.mp z (QiY s.heap (QJ a)) (by simp;exact⟨_,hv,rfl⟩);exact z'
      rw[e2] at some1;obtain⟨u,hu⟩:=QhL.mp some1;have hl:=(Z7.mp hu).1;have nt:=ho e u (Yd.mpr ⟨_,hv,by rw[e2];exact hu⟩);have hu':xs.toList[0]? = some u:=by rw[Q0];exact hu
      cases hx:xs.toList with
      |nil=>rw[hx] at hu';cases hu'
      |cons u0 us=>
       rw[hx] at hu' r';have e0:u0=u:=by simpa using hu'
       subst e0;cases r' with
       |@cons _ _ d1 ds1 as1 as2 r1 rs1=>
        have ko1:=(Qp.mp (show(okK d1&&Qb8 ds1)=true from ko)).1;cases r1<;>first | (cases ko1;done) | skip
        ·trivial
        ·rename_i a2 o2 vs2 n2 xs2 ho2 hc2 hd2 ra2
         exfalso
         apply nt
         unfold tyV;simp only[ho2];exact hc2
   cases hg:((vs.filterMap (QiY s.heap)).map (tyV s.heap)).toArray[0]? with
   |none=>exact Qb (Qb (fin none λe=>by cases e))
   |some t=>
    dsimp only
    refine Qb (Qb (fin _ λe u hu=>?_));split at e
    ·rename_i hall
     have ne:(t != Yj "tuple")=true:=e;have te:(tyV s.heap u == t)=true:=by
      have:=QeB.mp hall (tyV s.heap u) (by simp;exact⟨u,by simpa using Yd.mp hu,rfl⟩);exact this
     rw[eq_of_beq te]
     simpa using ne
    ·cases e
 ·rw[if_neg z];split
  ·exact Qb (h _ (.inl rfl))
  ·rw[Qen,Yn,map_eq_pure_bind];refine wpAny_bind (wpAny_bind (wpAny_bind (Qej (g:=tyV s.heap) _ (λv hv Q' q=>?_) (Qb ?_))))
   ·obtain⟨d,hd,bs,r⟩:=rd v hv;exact QgK r (ZL hk _ hd) q
   ·have fin:∀b:Bool,wpAny (model prog w) A (pure (if b=true then oneType' else general')) Q E s:=λb=>by
     cases b
     ·exact Qb (h _ (.inl rfl))
     ·exact Qb (h _ (.inr (.inl rfl)))
    split
    ·exact Qb (fin _)
    ·exact Qb (fin _)
end
end Rt
namespace Rt
open PySem.Calls PySem.W Dl Rs
section
variable{prog:QC}{w:Q9}{A:Q5}{E:Value->Shared->Prop}{s:Shared}
def prs(vs:List Value):Array Keyed:=vs.toArray.zip vs.toArray
theorem Qcz(vs:List Value):(prs vs).toList=vs.zip vs:=by unfold prs;rw[Array.toList_zip]
theorem Qm0(vs:List Value):(prs vs).toList.map (·.2)=vs:=by rw[Qcz];exact List.map_snd_zip (Qh _)
theorem Qbi:∀{vs:List Value}{p:Keyed},p∈vs.zip vs->p.1=p.2/\p.2∈vs
 |v::vs,p,h=>by
  rw[QbK] at h;rcases Qu.mp h with z | z
  ·rw[z];exact⟨rfl,.head _⟩
  ·exact⟨(Qbi z).1,.tail _ (Qbi z).2⟩
theorem Qds{a:Addr}{vs:List Value}{n:Nat}{P:PySem.Fin->Shared->Prop}(ho:s.heap.get? a=some (seqObj "list" vs.toArray n))(hz:vs.length<=sizeLine){c:Keyed->Keyed->Bool}(oc:Ord c)
  (hkind:∀h':Heap,Kept a s.heap h'->∀(Q':Yt->Shared->Prop)(E':Value->Shared->Prop),(∀κ,Asks prog w A { s with heap:=h' } κ (prs vs) c->Q' κ { s with heap:=h' })->wpAny (model prog w) A (keyKind' vs.toArray) Q' E' { s with heap:=h' })
  (h:∀arr:Array Keyed,arr.Perm (prs vs)->Sg c arr 0 arr.size->∀(h':Heap)(e:Nat),Kept a s.heap h'->h'.get? a=some (seqObj "list" (arr.toList.map (·.2)).toArray e)->P (.done (.ret .none)) { s with heap:=h' }) :
  wpAny (model prog w) A (YO.«list.sort» ⟨[.ref a],[]⟩) P E s:=by
 have ha:a<s.heap.objs.size:=Qm ho;obtain⟨e1,ho1⟩:∃e1,(s.heap.update a (ZT λ_=>(#[]:Array Value))).get? a=some (seqObj "list" #[] e1):=⟨_,Qlb ho λ_=>#[]⟩
 have K3:Kept a s.heap (((s.heap.update a (ZT λ_=>(#[]:Array Value))).push (seqObj "tuple" vs.toArray 0)).push (seqObj "list" #[] 0)):=(QgJ _).trans ((Qh5 _).trans (Qh5 _));have ho6:(((s.heap.update a (ZT λ_=>(#[]:Array Value))).push (seqObj "tuple" vs.toArray 0)).push (seqObj "list" #[] 0)).get? a=some (seqObj "list" #[] e1):=Qe _ (Qe _ ho1);rw[list_sort_plain];refine wpAny_bind (listItems_at ho rfl ?_);refine wpAny_bind (QoX ho rfl ?_ (by rw[Qr];exact hz) (Qs _));refine wpAny_bind (Qv8 ho1 rfl ?_);refine wpAny_bind (wpAny_newTuple ?_ (by show vs.length<=_;exact hz));refine wpAny_bind (Qgt ?_ (Qs _));refine J6 ?_
 show wpAny (model prog w) A _ P E { s with heap:=((s.heap.update a (ZT λ_=>(#[]:Array Value))).push (seqObj "tuple" vs.toArray 0)).push (seqObj "list" #[] 0) }
 dsimp only
 generalize (((s.heap.update a (ZT λ_=>(#[]:Array Value))).push (seqObj "tuple" vs.toArray 0)).push (seqObj "list" #[] 0))=h3 at K3 ho6 ⊢;have out:∀arr:Array Keyed,arr.map (·.2)=(arr.toList.map (·.2)).toArray:=λarr=>by
  apply QfC.mp
  rw[Array.toList_map]
 have psz:(prs vs).size=vs.length:=by rw[<- Qd,Qcz,List.length_zip,Nat.min_self]
 by_cases h2:vs.toArray.size<2
 ·rw[if_pos h2,if_pos h2];refine wpAny_bind (Qb ?_);rw[StateT.run_pure];refine wpAny_bind (Qb ?_)
  dsimp only
  have f:Sg c (prs vs) 0 (prs vs).size:=λi j _ hij hj=>by
   rw[psz] at hj;rw[Qr] at h2;rw[show i=j by omega];exact oc.irr _
  refine wpAny_bind (Qv8 ho6 rfl ?_);refine wpAny_bind (QoX ho6 rfl ?_ (Qs _) (by rw[QdD];show(prs vs).size<=_;rw[(QeC (prs vs)).size_eq,psz];omega));simp only[bne_self_eq_false,JI,if_false];show wpAny _ _ (ret Ze) _ _ { s with heap:=h3.update a (ZT λ_=>Array.map (λx=>x.snd) (prs vs)) };rw[out];exact Qb (h (prs vs) (QeC (prs vs)) (f) _ _ (K3.trans (QgJ _)) (Qlb ho6 λ_=>_))
 ·rw[if_neg h2,if_neg h2];refine wpAny_bind (hkind h3 K3 _ _ λκ hA=>?_);refine wpAny_bind (wpAny_mono (Qi4 (a₀:=prs vs) (κ:=κ) (st:=QzD κ (prs vs) #[] 7 none) (Q:=λ_ st'=>SB κ (prs vs) st'/\Sg c (arrOf st') 0 (prs vs).size) hA ⟨QeC _,rfl,rfl⟩ rfl λst' b g=>⟨b,g⟩) ?_ λ_ _ e=>e);rintro⟨⟨⟩,st'⟩ s' ⟨rfl,b,g⟩
  dsimp only
  rw[b.failed];have g2:Sg c (arrOf st') 0 (arrOf st').size:=by rw[b.size];exact g
  refine wpAny_bind (Qv8 ho6 rfl ?_);refine wpAny_bind (QoX ho6 rfl ?_ (Qs _) (by rw[QdD];show(arrOf st').size<=_;rw[(b.perm).size_eq,psz];omega));simp only[bne_self_eq_false,JI,if_false];show wpAny _ _ (ret Ze) _ _ { s with heap:=h3.update a (ZT λ_=>Array.map (λx=>x.snd) (arrOf st')) };rw[out];exact Qb (h (arrOf st') (b.perm) (g2) _ _ (K3.trans (QgJ _)) (Qlb ho6 λ_=>_))
theorem QgO{Q:Value->Shared->Prop}{l:Addr}{T:String}{o:Obj}{vs:List Value}{n:Nat}(hT:T = "list" ∨ T = "tuple")(ho:s.heap.get? l=some o)(hc:o.cls=.type T)(hd:o.data=.seq vs.toArray n)(hz:vs.length<=sizeLine)
  (h:∀h':Heap,(∀b x,s.heap.get? b=some x->h'.get? b=some x)->∀(P:PySem.Fin->Shared->Prop)(E':Value->Shared->Prop),(∀s2,Q (.ref h'.objs.size) s2->P (.done (.ret .none)) s2) ->
   wpAny (model prog w) A.in1.in1 (YO.«list.sort» ⟨[.ref h'.objs.size],[]⟩) P E' { s with heap:=h'.push (seqObj "list" vs.toArray 0) }) :
  wpAny (model prog w) A (call (.builtin "sorted") [.ref l]) Q E s:=by
 refine QbL Qv9 Qs5 Qs7 (Qs9 _) ?_
 unfold YO.«sorted»;refine wpAny_bind (m:=checkCount "sorted" 1 1 _) (Qb ?_);refine wpAny_bind (Qzt (items:=vs.toArray) l hT ho hc hd (λh' kp=>?_) (by rw[Qr];exact hz));refine wpAny_bind (Qgt ?_ (by rw[Yu];exact hz));have hoL:(h'.push (seqObj "list" vs.toArray 0)).get? h'.objs.size=some (seqObj "list" vs.toArray 0):=Qw _ rfl;show wpAny _ _ _ _ _ { s with heap:=h'.push (seqObj "list" vs.toArray 0) };refine wpAny_bind (J6 (JF Ql7 ⟨_,hoL,rfl⟩ Qlc ?body (Ql8 _)));exact h h' kp _ _ λs2 hq=>⟨_,rfl,Qb ⟨_,rfl,hq⟩⟩
open Classical in
noncomputable def rdV (h:Heap) (v:Value):Qa:=if q:∃d as,QbA h v d as/\d.canLay0=true then q.choose else .none
theorem Qf6{h:Heap}{v:Value}{d:Qa}{as:List Addr}(r:QbA h v d as)(c:d.canLay0=true):rdV h v=d:=by
 unfold rdV;have q:∃d as,QbA h v d as/\d.canLay0=true:=⟨d,as,r,c⟩
 rw[dif_pos q];obtain⟨as',r',c'⟩:=q.choose_spec;exact(Ys d _ v as as' c r r').symm
theorem Qcd{α β:Type}(f:α->β){l m:List β}(p:l.Perm m):∀{T:List α},m=T.map f->∃T':List α,T'.Perm T/\l=T'.map f:=by
 induction p with
 |nil=>intro T e;exact⟨T,Y6 _,e⟩
 |@cons x l1 l2 _ ih=>
  intro T e;cases T with
  |nil=>cases e
  |cons t T=>
   rw[Jc] at e;injection e with e1 e2
   obtain⟨T',p',e'⟩:=ih e2;exact⟨t::T',p'.cons t,by rw[Jc,<- e1,<- e']⟩
 |@swap x y l=>
  intro T e;cases T with
  |nil=>cases e
  |cons t T=>
   cases T with
   |nil=>rw[Jc] at e;injection e with e1 e2;cases e2
   |cons t2 T=>
    rw[Jc,Jc] at e;injection e with e1 e2
    injection e2 with e3 e4
    exact⟨t2::t::T,QfB t t2 T,by rw[Jc,Jc,<- e1,<- e3,<- e4]⟩
 |@trans l1 l2 l3 _ _ ih1 ih2=>
  intro T e;obtain⟨T2,p2,e2⟩:=ih2 e;obtain⟨T1,p1,e1⟩:=ih1 e2;exact⟨T1,p1.trans p2,e1⟩
end
mutual
theorem Qhm:∀(d:Qa),QiZ d d=true->okK d=true
 |.int _,_=>rfl
 |.tuple ds,h=>Qk2 ds h
 |.none,h=>by cases h
 |.bool _,h=>by cases h
 |.str _,h=>by cases h
 |.list _,h=>by cases h
 |.dict _,h=>by cases h
theorem Qk2:∀(ds:List Qa),QaV ds ds=true->Qb8 ds=true
 |[],_=>rfl
 |d::ds,h=>by
  have h:=Qp.mp (show(QiZ d d&&QaV ds ds)=true from h);show(okK d&&Qb8 ds)=true;rw[Qhm d h.1,Qk2 ds h.2];rfl
end
mutual
theorem Qa4:∀(d:Qa),okK d=true->d.canLay0=true
 |.int _,_=>rfl
 |.tuple ds,h=>QkA ds h
 |.none,h=>by cases h
 |.bool _,h=>by cases h
 |.str _,h=>by cases h
 |.list _,h=>by cases h
 |.dict _,h=>by cases h
theorem QkA:∀(ds:List Qa),Qb8 ds=true->Ja ds=true
 |[],_=>rfl
 |d::ds,h=>by
  have h:=Qp.mp (show(okK d&&Qb8 ds)=true from h);simp only[Ja,Qa4 d h.1,QkA ds h.2,Bool.and_self]
end
structure QaI (ds:List Qa):Prop where
 cmp:∀x∈ds,∀y∈ds,QiZ x y=true
 dep:∀x∈ds,x.depth<=20
end Rt
namespace L2
open PySem.Calls _root_.Rd _root_.Rk _root_.Rs Rt Dl
structure Trp where
 x:V
 v:Value
 d:Qa
theorem Qtt{H:Hp}:∀{xs:List V}{ds:List Qa}{vs:List Value},Dats H xs ds->Vals xs vs->∃T:List Trp,xs=T.map (·.x)/\vs=T.map (·.v)/\ds=T.map (·.d)/\∀t∈T,Dat H t.x t.d/\RelV t.x t.v
 |_,_,_,.nil,.nil=>⟨[],rfl,rfl,rfl,λ_ h=>nomatch h⟩
 |_,_,_,.cons q qs,.cons r rs=>by
  obtain⟨T,e1,e2,e3,h⟩:=Qtt qs rs;refine⟨⟨_,_,_⟩::T,by rw[e1];rfl,by rw[e2];rfl,by rw[e3];rfl,λt ht=>?_⟩;rcases Qu.mp ht with z | z
  ·rw[z];exact⟨q,r⟩
  ·exact h t z
theorem Qmk{H:Hp}:∀{T:List Trp},(∀t∈T,Dat H t.x t.d/\RelV t.x t.v)->Dats H (T.map (·.x)) (T.map (·.d))/\Vals (T.map (·.x)) (T.map (·.v))
 |[],_=>⟨.nil,.nil⟩
 |t::T,h=>by
  obtain⟨a,b⟩:=Qmk (T:=T) λt ht=>h t (.tail _ ht)
  exact⟨.cons (h t (.head _)).1 a,.cons (h t (.head _)).2 b⟩
def QmN:List V->Hp->VK->Prop:=λxs H Q=>∃(l:Addr)(vs:List V)(ds:List Qa),xs=[.ref l]/\(H l=some (.lst vs)∨H l=some (.tup vs))/\Dats H vs ds/\QaI ds /\
 ∀(t:Addr)(ys:List V)(es:List Qa)(H2:Hp),Same H H2->H t=none->H2 t=some (.lst ys)->Dats H2 ys es->es.Perm ds->es.Pairwise (λa b=>ltD b a=false)->(∀y∈ys,y∈vs)->Q (.ref t) H2
section
variable{X:Cx}
theorem Qd4(hu:X.A.units+60<cLine):CallR X (.builtin "sorted") QmN:=by
 intro pins s σ H xs us Q I r h;obtain⟨l,vs,ds,rfl,hl,dts,so,q⟩:=h;obtain⟨u,rfl,ru⟩:=vals1 r;cases ru;have hu2:X.A.in1.in1.units+2*20+4<cLine:=by show X.A.units+1+1+2*20+4<cLine;omega
 obtain⟨T,o,its,n,hT,ho,hc,hd,rv,hz⟩:∃(T:String)(o:Obj)(its:List Value)(n:Nat),(T = "list" ∨ T = "tuple")/\s.heap.get? l=some o/\o.cls=.type T/\o.data=.seq its.toArray n/\Vals vs its/\vs.length<=sizeLine:=by
  rcases hl with hl | hl
  ·obtain⟨hz,its,n,rv,ho⟩:=I.hok l _ hl;exact⟨"list",_,its,n,.inl rfl,ho,rfl,rfl,rv,hz⟩
  ·obtain⟨hz,its,rv,o,ho,hc,n,hd⟩:=I.hok l _ hl;exact⟨"tuple",o,its,n,.inr rfl,ho,hc,hd,rv,hz⟩
 have li:=rv.length;obtain⟨⟨as,ra⟩,cl⟩:=YS I.hok ds vs its dts rv;have okds:Qb8 ds=true:=Qg4 λd hd=>Qhm d (so.cmp d hd d hd)
 refine QgO hT ho hc hd (by omega) λh' kp P E' hP=>?_
 have ra':=YR kp ds its as okds ra
 let c:Keyed->Keyed->Bool:=λx y=>ltD (rdV h' x.1) (rdV h' y.1)
 have oc:Ord c:=⟨λx y=>Qha _ _,λx y z=>QkH _ _ _⟩;refine Qds (s:={ s with heap:=h'.push (seqObj "list" its.toArray 0) }) (c:=c) (Qw _ rfl) (by omega) oc (λh2 k2 Q' E' hq=>?_) λarr pm sg h2 e k2 e2=>hP _ ?_
 ·have kk:∀b x,h'.get? b=some x->h2.get? b=some x:=λb x e=>k2 b x (Qz (Qm e)) (Qe _ e)
  have ra2:=YR kk ds its as okds ra';have asks:∀κ,QlX ds κ->(∀b,κ=tuples' b->∀d∈ds,∃es,d=.tuple es)->Asks X.prog X.w X.A.in1.in1 { s with heap:=h2 } κ (prs its) c:=λκ su tb=>by
   refine⟨oc,λx y hx hy C E'' hC=>?_⟩;rw[Qcz] at hx hy;obtain⟨ex,hx⟩:=Qbi hx;obtain⟨ey,hy⟩:=Qbi hy;obtain⟨d1,m1,b1,r1⟩:=JZ ra2 x.2 hx;obtain⟨d2,m2,b2,r2⟩:=JZ ra2 y.2 hy;obtain⟨d1',m1',b1',r1'⟩:=JZ ra' x.2 hx;obtain⟨d2',m2',b2',r2'⟩:=JZ ra' y.2 hy;have k1:=ZL okds d1 m1;have k2:=ZL okds d2 m2;have c1:=Qa4 d1 k1;have c2:=Qa4 d2 k2;have c1':=Qa4 d1' (ZL okds d1' m1');have c2':=Qa4 d2' (ZL okds d2' m2');have q1:d1'=d1:=Ys d1' d1 x.2 _ _ c1' (QbE kk d1' _ _ (ZL okds d1' m1') r1') r1;have q2:d2'=d2:=Ys d2' d2 y.2 _ _ c2' (QbE kk d2' _ _ (ZL okds d2' m2') r2') r2;subst q1 q2;have hC:C (ltD (rdV h' x.1) (rdV h' y.1)) { s with heap:=h2 }:=hC;rw[ex,ey,Qf6 r1' c1',Qf6 r2' c2'] at hC;rw[ex,ey];exact QsN (N:=20) su m1 r1 r2 c1 c2 (so.cmp _ m1 _ m2) (λb e=>tb b e _ m1) (so.dep _ m1) hu2 hC
  cases ds with
  |nil=>
   cases ra2;exact QeL (s:={ s with heap:=h2 }) .nil rfl (λd hd=>nomatch hd) λκ su=>hq κ (asks κ su λb _ d hd=>nomatch hd)
  |cons d0 ds0=>
   have sh:(∀d∈d0::ds0,∃es,d=.tuple es)∨∀d∈d0::ds0,∃i,d=.int i:=by
    cases d0 with
    |int i=>exact .inr λd hd=>by have:=so.cmp _ (.head _) d hd;cases d<;>first | exact⟨_,rfl⟩ | (cases this;done)
    |tuple es=>exact .inl λd hd=>by have:=so.cmp _ (.head _) d hd;cases d<;>first | exact⟨_,rfl⟩ | (cases this;done)
    |_=>have:=so.cmp _ (.head _) _ (.head _);cases this
   rcases sh with sh | sh
   ·exact QeL (s:={ s with heap:=h2 }) ra2 okds sh λκ su=>hq κ (asks κ su λb _=>sh)
   ·have one:QlX (d0::ds0) oneType':=.inr (.inl rfl);by_cases l2:its.length<2
    ·have hk1:∀v∈its,∀(Q'':Option Value->Shared->Prop),Q'' none { s with heap:=h2 }->wpAny (model X.prog X.w) X.A.in1.in1 (firstOfTuple' v) Q'' E' { s with heap:=h2 }:=λv hv Q'' q''=>by
      obtain⟨d,hd,bs,r⟩:=JZ ra2 v hv;obtain⟨i,rfl⟩:=sh d hd;cases r;exact Qb q''
     have hk2:∀v∈its,∀(Q'':Value->Shared->Prop),Q'' (Rt.tyV h2 v) { s with heap:=h2 }->wpAny (model X.prog X.w) X.A.in1.in1 (typeOf v) Q'' E' { s with heap:=h2 }:=λv hv Q'' q''=>by
      obtain⟨d,hd,bs,r⟩:=JZ ra2 v hv;exact QgK (s:={ s with heap:=h2 }) r (ZL okds d hd) q''
     rw[Qwa,Yn,map_eq_pure_bind];refine wpAny_bind (wpAny_bind (Qej (g:=λ_=>(none:Option Value)) its hk1 (Qb ?_)));cases its with
     |nil=>cases ra2
     |cons v0 vs0=>
      rw[if_neg (by simp)];rw[if_neg (by simp)];rw[Qen,Yn,map_eq_pure_bind];refine wpAny_bind (wpAny_bind (wpAny_bind (Qej (g:=Rt.tyV h2) _ hk2 (Qb ?_))));have fin:∀b:Bool,wpAny (model X.prog X.w) X.A.in1.in1 (pure (if b=true then oneType' else general')) Q' E' { s with heap:=h2 }:=λb=>by
       have ni:∀{κ:Yt},(∀b',κ≠tuples' b')->∀b',κ=tuples' b'->∀d∈d0::ds0,∃es,d=ZW es:=λh b' e=>(h b' e).elim
       cases b
       ·exact Qb (hq _ (asks _ (.inl rfl) (ni λb' e=>by cases e)))
       ·exact Qb (hq _ (asks _ (.inr (.inl rfl)) (ni λb' e=>by cases e)))
      split
      ·exact Qb (fin _)
      ·exact Qb (fin _)
    ·have ia:∀{vs:List Value}{ds:List Qa}{as:List Addr},YL h2 vs ds as->(∀d∈ds,∃i,d=Qi i)->∃ns,IntsAre vs ns:=by
      intro vs ds as ra hs;induction vs generalizing ds as with
      |nil=>exact⟨[],.nil⟩
      |cons v vs ih=>
       cases ra with
       |cons r rs=>
        obtain⟨i,rfl⟩:=hs _ (.head _);obtain⟨ns,hn⟩:=ih rs λd hd=>hs d (.tail _ hd)
        cases r;exact⟨i::ns,.cons _ _ hn⟩
     obtain⟨ns,hn⟩:=ia ra2 sh
     match its,hn,l2 with
     |v1::v2::vs',hn,_=>
      rw[keyKind_ints hn];exact Qb (hq _ (asks _ one λb e=>by cases e))
     |[_],_,l2=>exact absurd (QgA 1) l2
     |[],_,l2=>exact absurd (Qwf) l2
 ·have I1:Inv X pins σ H { s with heap:=h' }:=I.kept (t':=s.toks) kp;have hf:H h'.objs.size=none:=I1.hok.fresh (Qh _);have pv:(arr.toList.map (·.2)).Perm its:=by
   have:=(Zz.mp pm).map (·.2)
   rwa [Qm0] at this
  obtain⟨Tr,t1,t2,t3,th⟩:=Qtt dts rv;obtain⟨Tr',p',e'⟩:=Qcd Trp.v (l:=arr.toList.map (·.2)) (by rw[<- t2];exact pv) (T:=Tr) rfl;have th':∀t∈Tr',Dat H t.x t.d/\RelV t.x t.v:=λt ht=>th t (p'.mem_iff.mp ht)
  obtain⟨dts',rv'⟩:=Qmk th';have ll:(Tr'.map (·.x)).length<=sizeLine:=by
   have:=p'.length_eq;rw[Qf,this,<- Qf (f:=Trp.x),<- t1];exact hz
  have I2:Inv X pins σ (upd H h'.objs.size (.lst (Tr'.map (·.x)))) { s with heap:=h2 }:=
   I1.laid (t':=s.toks) (λb x e'=>k2 b x (Qz (Qm e')) (Qe _ e')) (Qh _) (show ObjOk X.prog X.w _ _ _ (.lst _) from⟨ll,_,e,by rw[e'];exact rv',e2⟩)
  refine⟨.ref h'.objs.size,_,I2,rfl,q _ _ (Tr'.map (·.d)) _ (JL hf) hf JQ (dts'.same (JL hf)) (by rw[t3];exact p'.map _) ?_ λy hy=>?_⟩
  ·-- in order
   have len:arr.toList.length=Tr'.length:=by have:=congrArg QhC e';rwa [Qf,Qf] at this
   rw[Jo];intro i j hi hj hij;rw[Qf] at hi hj;rw[QcM,QcM];have ka:∀(k:Nat)(hk:k<Tr'.length),rdV h' (kx arr k).1=Tr'[k].d:=λk hk=>by
    have hk':k<arr.size:=by rw[<- Qd,len];exact hk
    have m:=QeK hk';have m2:=(Zz.mp pm).mem_iff.mp m;rw[Qcz] at m2;have e3:=(Qbi m2).1;have e4:(kx arr k).2=Tr'[k].v:=by
     have h5:(arr.toList.map (·.2))[k]? = some (kx arr k).2:=by rw[QB,QaQ hk'];rfl
     rw[e',QB,Qo hk] at h5;exact(Qt h5).symm
    rw[e3,e4];obtain⟨dt,rv0⟩:=th' _ (QfN hk);obtain⟨⟨bs,rr⟩,cc⟩:=Yg I1.hok _ _ _ dt rv0;exact Qf6 rr cc
   have g:ltD (rdV h' (kx arr j).1) (rdV h' (kx arr i).1)=false:=sg i j (Qs _) (by omega) (by rw[<- Qd,len];exact hj);rw[ka i hi,ka j hj] at g;exact g
  ·obtain⟨t,ht,rfl⟩:=Ql.mp hy;rw[t1];exact Ql.mpr ⟨t,p'.mem_iff.mp ht,rfl⟩
end
end L2
namespace Dl
open L2 _root_.Rd Rk Rt
theorem QsW{A:Addr->Prop}{H:Hp}{xs:List V}{ds:List Qa}(q:DAs A H xs ds){v:V}(hv:v∈xs):∃d∈ds,DA A H v d:=by
 obtain⟨i,hi⟩:=Ji.mp hv;obtain⟨d,hd,h⟩:=q.getV i v hi;exact⟨d,Q7 hd,h⟩
theorem Qfm{A:Addr->Prop}{H:Hp}:∀{ys:List V}{es:List Qa},Dats H ys es->(∀y∈ys,∃d,DA A H y d/\nd d=true/\d.canLay0=true/\Dat H y d)->(∀y d e,y∈ys->Dat H y d->Dat H y e->d=e)->DAs A H ys es
 |_,_,.nil,_,_=>.nil
 |_,_,.cons (x:=x) (d:=d) q qs,h,u=>by
  obtain⟨d',h1,_,_,h4⟩:=h x (.head _);have:d=d':=u x d d' (.head _) q h4;subst this;exact .cons h1 (Qfm qs (λy hy=>h y (.tail _ hy)) λy d e hy=>u y d e (.tail _ hy))
mutual
theorem Qhi{H:Hp}:∀(d e:Qa)(x:V),Dat H x d->Dat H x e->d=e
 |.none,e,_,.non,h=>by cases h;rfl
 |.bool _,e,_,.bl _,h=>by cases h;rfl
 |.int _,e,_,.int _,h=>by cases h;rfl
 |.str _,e,_,.str _ _,h=>by cases h;rfl
 |.tuple ds,e,_,.tup (xs:=xs) e1 q,h=>by
  cases h with
  |@tup a ys es e2 q'=>
   rw[e1] at e2;cases e2;rw[Qfl ds es xs q q']
  |@lst a ys es e2 q'=>rw[e1] at e2;cases e2
 |.list ds,e,_,.lst (xs:=xs) e1 q,h=>by
  cases h with
  |@tup a ys es e2 q'=>rw[e1] at e2;cases e2
  |@lst a ys es e2 q'=>
   rw[e1] at e2;cases e2;rw[Qfl ds es xs q q']
 |.dict _,_,_,q,_=>nomatch q
theorem Qfl{H:Hp}:∀(ds es:List Qa)(xs:List V),Dats H xs ds->Dats H xs es->ds=es
 |[],es,_,.nil,h=>by cases h;rfl
 |d::ds,es,_,.cons q qs,h=>by
  cases h with
  |@cons x xs e es q' qs'=>rw[Qhi d e _ q q',Qfl ds es _ qs qs']
end
mutual
theorem Qic:∀(d:Qa),okK d=true->nd d=true
 |.int _,_=>rfl
 |.tuple ds,h=>Qjv ds h
 |.none,h=>by cases h
 |.bool _,h=>by cases h
 |.str _,h=>by cases h
 |.list _,h=>by cases h
 |.dict _,h=>by cases h
theorem Qjv:∀(ds:List Qa),Qb8 ds=true->nds ds=true
 |[],_=>rfl
 |d::ds,h=>by
  have h:=Qp.mp (show(okK d&&Qb8 ds)=true from h);show(nd d&&nds ds)=true;rw[Qic d h.1,Qjv ds h.2];rfl
end
@[irreducible] def QhX:List Qa->(Qa->Prop)->Prop
 |[.list ds],Q=>QaI ds/\∀es:List Qa,es.Perm ds->es.Pairwise (λa b=>ltD b a=false)->Q (.list es)
 |[.tuple ds],Q=>QaI ds/\∀es:List Qa,es.Perm ds->es.Pairwise (λa b=>ltD b a=false)->Q (.list es)
 |_,_=>False
theorem QgP{ds:List Qa}{Q:Qa->Prop}(h:QaI ds)(k:∀es:List Qa,es.Perm ds->es.Pairwise (λa b=>ltD b a=false)->Q (.list es)):QhX [.list ds] Q/\QhX [.tuple ds] Q:=by
 unfold QhX;exact⟨⟨h,k⟩,h,k⟩
theorem Qhp:Qd8 QmN QhX:=λA P H vs ds R Q ln dm q h k=>by
 have go:∀(l:Addr)(xs:List V)(ds:List Qa),(H l=some (.lst xs)∨H l=some (.tup xs))->DAs A H xs ds->QaI ds->(∀es:List Qa,es.Perm ds->es.Pairwise (λa b=>ltD b a=false)->R (.list es))->QmN [.ref l] H Q:=λl xs ds hl qq so hR=>by
  have okds:Qb8 ds=true:=Qg4 λd hd=>Qhm d (so.cmp d hd d hd)
  refine⟨l,xs,ds,rfl,hl,QbR _ _ (Qjv ds okds) qq,so,λt ys es H2 s n e2 dts pm pw sub=>?_⟩;have dm2:∀a,A a->∃xs,H2 a=some (.lst xs):=λa z=>by obtain⟨xs,e⟩:=dm a z;exact⟨xs,s _ _ e⟩
  refine k _ (hR es pm pw) _ H2 s (.lst (λz=>?_) e2 (Qfm dts (λy hy=>?_) λy d e _=>Qhi d e y)) (Qa5 n)
  ·obtain⟨xs,e⟩:=dm t z;rw[n] at e;cases e
  ·obtain⟨d,hd,da⟩:=QsW qq (sub y hy);have ok:=ZL okds d hd;exact⟨d,da.same s,Qic d ok,Qa4 d ok,Qix d y (Qic d ok) (da.same s)⟩
 unfold QhX at h;split at h
 ·obtain⟨v,rfl,hv⟩:=pd1 q;obtain⟨l,xs,rfl,e,qq⟩:=hv.list;exact go l xs _ (.inl e) qq h.1 h.2
 ·obtain⟨v,rfl,hv⟩:=pd1 q;obtain⟨l,xs,rfl,e,qq⟩:=hv.tuple;exact go l xs _ (.inr e) qq h.1 h.2
 ·exact h.elim
end Dl
namespace L2
open PySem.Calls _root_.Rd _root_.Rk Rt
section
variable{X:Cx}
def ddI(ns:List Int):List Int:=ns.foldl QcY []
theorem QrM(ns:List Int):firstMet (λi=>ns.getD i 0) ns.length=ddI ns:=by
 unfold firstMet ddI
 congr 1
 apply Z1
 intro i;rw[QB];by_cases h:i<ns.length
 ·rw[JT h,Qo h];show some (ns.getD i 0)=_;rw[Jx,Qo h];rfl
 ·rw[Js (by simpa using h),Js (by omega)];rfl
def QAg(K:PySem.W.Frag):List V->Hp->VK->Prop:=λxs H Q=>∃(l:Addr)(ns:List Int),xs=[.ref l]/\SqL K H l (ns.map V.int)/\ns.length<=4000 /\
 ∀(t:Addr)(H2:Hp),Same H H2->H t=none->H2 t=some (.set (λk=>(ddI ns).any (· == k)) (ddI ns).length)->Q (.ref t) H2
theorem Qov(hc:X.calm=true):CallR X (.type "set") (QAg X.K):=by
 intro pins s σ H xs us Q I r h;obtain⟨p,ns,rfl,hp,hn,q⟩:=h;obtain⟨u,rfl,ru⟩:=vals1 r;cases ru;obtain⟨its,rv,pl,hz⟩:=I.list hp;have hi:IntsAre its ns:=intsAre_of rv;have hl:=hi.length;refine PySem.call_set_list (items:=its.toArray) (ns:=ns) (I.ok.hd hc) pl.isList (by simpa using hi) (by rw[Qr,hl];unfold scanBound;omega) λh' tk hS hk=>?_
 have ez:its.toArray.size=ns.length:=by rw[Qr];exact hl
 rw[ez,QrM] at hS;have hf:H s.heap.objs.size=none:=I.hok.fresh (Qh _);refine⟨.ref s.heap.objs.size,upd H s.heap.objs.size (.set (λk=>(ddI ns).any (· == k)) (ddI ns).length),I.laid (t':=tk) (λb x e=>hk b x (Qm e) e) (Qh _) hS,rfl,q _ _ (JL hf) hf JQ⟩
def QtR:List V->Hp->VK->Prop:=λxs H Q=>∃(a:Addr)(S:Int->Bool)(n:Nat),xs=[.ref a]/\H a=some (.set S n)/\n<=4000/\Q (.int n) H
theorem QjS:CallR X (.builtin "len") QtR:=by
 intro pins s σ H xs us Q I r h;obtain⟨a,S,n,rfl,ha,hn,q⟩:=h;obtain⟨u,rfl,ru⟩:=vals1 r;cases ru;obtain⟨o,es,ep,t,ho,hex,hd,hel,hmem,hb,hf,hz⟩:=I.hok a _ ha;have hz:es.size=n:=hz;refine PySem.call_len_set ho hex hd hf (by
                       rw[hz];have:(4000:Int)<2^63:=by decide
                       omega) ?_
 rw[hz];exact⟨.int n,H,I.tok _,⟨_,rfl⟩,q⟩
theorem QkX:∀(ns σ:List Int),(ns.foldl QcY σ).length<=σ.length+ns.length/\(σ.Nodup->((ns.foldl QcY σ).length=σ.length+ns.length↔(σ++ns).Nodup))
 |[],σ=>⟨Qh _,λh=>by simp[h]⟩
 |n::ns,σ=>by
  rw[Qbx,Qx];by_cases z:σ.any (· == n)=true
  ·have e:QcY σ n=σ:=by unfold QcY;rw[if_pos z]
   rw[e];obtain⟨a,b⟩:=QkX ns σ;refine⟨by omega,λhs=>⟨λq=>by omega,λq=>?_⟩⟩;obtain⟨x,hx,hn⟩:=QcN.mp z;have hn:=beq_iff_eq.mp hn;subst hn;exact absurd rfl ((Qab.mp q).2.2 x hx x (.head _))
  ·have e:QcY σ n=σ++[n]:=by unfold QcY;rw[if_neg z]
   rw[e];obtain⟨a,b⟩:=QkX ns (σ++[n]);rw[Qv] at a b;have nm:n∉σ:=λhx=>z (QcN.mpr ⟨n,hx,by simp⟩)
   refine⟨by simp only[Qdb] at a;omega,λhs=>?_⟩;have hs2:(σ++[n]).Nodup:=Qab.mpr ⟨hs,by simp,λx hx y hy=>by rw[Q6.mp hy];exact λe=>nm (e ▸ hx)⟩;have:=b hs2;rw[QQ] at this;have e3:σ++n::ns=σ++([n]++ns):=rfl;rw[e3,<- this];simp only[Qdb];omega
theorem QA1(ns:List Int):(ddI ns).length<=ns.length:=by have:=(QkX ns []).1;unfold ddI;simpa using this
theorem QkW(ns:List Int):(ddI ns).length=ns.length↔ns.Nodup:=by have:=(QkX ns []).2 (by simp);unfold ddI;simpa using this
def QBk:R2:=λx y H Q=>∃d e,Dat H x d/\Dat H y e/\Dl.QiZ d e=true/\d.depth<=20/\Q (.bl (Dl.ltD d e)) H
theorem QxI(hu:X.A.units+60<cLine):OpR X (compareOp .Lt) QBk:=by
 intro pins s σ H x y v u Q I rx ry h;obtain⟨d,e,qx,qy,hk,hd,q⟩:=h;obtain⟨⟨as,ra⟩,ca⟩:=Yg I.hok d x v qx rx;obtain⟨⟨bs,rb⟩,cb⟩:=Yg I.hok e y u qy ry;exact QtP 20 d e X.A s v u as bs ra rb ca cb hk hd (by omega) _ _ _ _ ⟨.bl _,H,I,rfl,q⟩
end
end L2
namespace Dl
open L2 _root_.Rd Rk Rt
@[irreducible] def anyD:List Qa->(Qa->Prop)->Prop
 |[.list ds],Q=>∃bs,Qco ds=some bs/\Q (.bool (bs.any id))
 |_,_=>False
def QCa:Qa->Qa->(Qa->Prop)->Prop:=λd e Q=>(okK d=true/\okK e=true/\QiZ d e=true/\d.depth<=20)/\Q (.bool (ltD d e))
theorem Qx1:OpD QBk QCa:=λA P H x y d1 d2 R Q ln dm hx hy h k=>by
 obtain⟨⟨h1,h2,h3,h4⟩,hR⟩:=h;exact⟨d1,d2,hx.dat (Qic d1 h1),hy.dat (Qic d2 h2),h3,h4,k _ hR _ H (Same.refl H) (.bl _) QaN⟩
section
variable{X:Cx}{E:XK}
def Qoj(w:DE):DE:=λδ Q EX=>w δ (λd=>match d with
 |.list ds=>∃ns,Qcn ds=some ns/\ns.length<=4000/\Q (.int (ddI ns).length)
 |_=>False) EX
theorem bt_set:bootBuiltins "set" = some (.type "set"):=by decide +kernel
theorem Qne{e:QU}{w:DE}{p p2 pos pos2:Pos}(hg:Gl X "len")(hm:X.mg "len" = none)(hg2:Gl X "set")(hm2:X.mg "set" = none)(h:PE X e (tX .P X.K E w))(hc:X.calm=true)(hs:notStar e=true):PE X (.Call (.Name "len" p) [.Call (.Name "set" p2) [e] [] pos2] [] pos) (tX .F X.K E (Qoj w)):=by
 refine PE.imp (Qdn QjS hg hm QbZ (Qeg (Qdm (Qov hc) hg2 hm2 bt_set (Qeg h Qaj hs) (he:=ZX hs)) Qaj)) λσ H Q ⟨F,δ,R,EX,rel,hw,k,o⟩=>?_
 refine⟨F,δ,_,EX,rel,hw,λd hd v H1 rel1 kp1 vk=>?_,o⟩;cases d<;>first | exact(show False from hd).elim | skip
 obtain⟨ns,hn,hl,hR⟩:=hd;rw[Qhc hn] at vk;obtain⟨l,xs,rfl,e,q⟩:=DP.list vk;rw[QeQ q] at e;refine⟨l,ns,rfl,SqL.of e,hl,λt H2 s2 n2 e2=>⟨t,_,_,rfl,e2,?_,?_⟩⟩
 ·have:=QA1 ns;omega
 ·exact k _ hR _ H2 (rel1.same s2) (kp1.trans (Kp.same rel1 s2)) ⟨.int _,Qa6⟩
theorem Qkq{e:QU}{w:DE}{p p2 pos pos2:Pos}(hg:Gl X "len")(hm:X.mg "len" = none)(hg2:Gl X "set")(hm2:X.mg "set" = none)(h:QE .P X E e w)(hc:X.calm=true:=by rfl)(hs:notStar e=true:=by rfl):QE .F X E (.Call (.Name "len" p) [.Call (.Name "set" p2) [e] [] pos2] [] pos) (Qoj w):=⟨Qne hg hm hg2 hm2 h.h hc hs⟩
end
end Dl
namespace Rk
open L2 _root_.Rd Dl
def inW(d:Qa)(a b:Int):Bool:=match d with
 |.int i=>decide (a<=i)&&decide (i<=b)
 |_=>false
theorem QlM{i a b:Int}(h1:a<=i)(h2:i<=b):inW (.int i) a b=true:=by
 show(decide (a<=i)&&decide (i<=b))=true;rw[decide_eq_true h1,decide_eq_true h2];rfl
theorem QrB{d:Qa}{a b:Int}(h:inW d a b=true):∃i,d=.int i/\a<=i/\i<=b:=by
 cases d<;>first | (cases h;done) | skip
 rename_i i
 have h:=Qp.mp (show(decide (a<=i)&&decide (i<=b))=true from h);exact⟨i,rfl,of_decide_eq_true h.1,of_decide_eq_true h.2⟩
def QcZ:DF:=λargs R _=>∃d a b,args=[.v d,.v (.int a),.v (.int b)]/\R (.bool (inW d a b))
theorem QeJ(ns:List Int):nds (ns.map Qi)=true:=Qc2.mpr λd hd=>by
 obtain⟨i,_,rfl⟩:=Ql.mp hd;rfl
theorem QrT(xs:List Qa)(k:Int)(h:0<=k):Dl.cutD xs none (some k)=xs.take k.toNat:=by
 unfold Dl.cutD;obtain⟨j,rfl⟩:∃j:Nat,k=j:=⟨k.toNat,by omega⟩
 rw[HT.QgS,HT.QmH,ZI,Qmd,QX];by_cases z:j<=xs.length
 ·rw[Y5 z]
 ·rw[Nat.min_eq_right (by omega),Zv,QaP (by omega)]
end Rk
namespace Rx
open PySem.Calls L2
section
variable{X:Cx}{e:QU}{st:Qad}{rest:List Qad}{pos:Pos}{te:TX}{t u:TSX}
end
end Rx
namespace L2
open Dl
end L2
namespace Dl
open L2 _root_.Rd Rk
section
variable{X:Cx}
variable{k:Nat}{f:Addr}{fd:Q2}{ps:List Str}{x:Str}{p pos:Pos}{e:QU}{es:List QU}{fD:DF}{wa:DSl}
end
end Dl
namespace Rk
open L2 _root_.Rd Dl Rt
def Qb7:List Qa->Bool
 |x::y::r=>ltD x y&&Qb7 (y::r)
 |_=>true
def Qx6:Qa->Bool
 |.tuple [a,b]=>ltD a b
 |_=>false
theorem QrV(d:Qa)(ds:List Qa):Dl.cutD (d::ds) (some 1) none=ds:=by
 unfold Dl.cutD;rw[HT.QgS,show(1:Int)=((1:Nat):Int) from rfl,HT.QmH];rw[Y5 (by rw[Qx];omega),List.drop_one,List.tail_cons,Qx,QaK,Zv]
theorem QeV:∀ds:List Qa,(QgF ds (Dl.cutD ds (some 1) none)).all Qx6=Qb7 ds
 |[]=>by
  have h:(QgF ([]:List Qa) (Dl.cutD [] (some 1) none))=[]:=by unfold QgF;rfl
  rw[h];rfl
 |[x]=>by rw[QrV];rfl
 |x::y::r=>by
  have ih:=QeV (y::r);rw[QrV] at ih ⊢;show(Qx6 (.tuple [x,y])&&(QgF (y::r) r).all Qx6)=_;rw[ih];rfl
def QoO(ds:List Qa):Prop:=∀x∈ds,okK x=true/\x.depth<=20/\∀y∈ds,QiZ x y=true
def QgU:DF:=λargs R _=>∃ds:List Qa,(args=[.v (.tuple ds)]∨args=[.v (.list ds)])/\QoO ds/\R (.bool (Qb7 ds))
def QjG(h w:Int):Qa->Bool
 |.tuple [a,b]=>inW a 0 (h - 1)&&inW b 0 (w - 1)
 |_=>false
theorem Qyl{h w:Int}{d:Qa}(q:QjG h w d=true):∃p:Int×Int,d=pairD p/\0<=p.1/\p.1<h/\0<=p.2/\p.2<w:=by
 cases d<;>first | (cases q;done) | skip
 rename_i ds
 match ds,q with
 |[a,b],q=>
  have q:=Qp.mp (show(inW a 0 (h - 1)&&inW b 0 (w - 1))=true from q);obtain⟨i,rfl,i1,i2⟩:=QrB q.1;obtain⟨j,rfl,j1,j2⟩:=QrB q.2;exact⟨(i,j),rfl,i1,by show i<h;omega,j1,by show j<w;omega⟩
 |[],q=>cases q
 |[_],q=>cases q
 |_::_::_::_,q=>cases q
theorem Qyk{h w:Int}{p:Int×Int}(h1:0<=p.1)(h2:p.1<h)(h3:0<=p.2)(h4:p.2<w):QjG h w (pairD p)=true:=by
 show(inW (.int p.1) 0 (h - 1)&&inW (.int p.2) 0 (w - 1))=true;rw[QlM h1 (by omega),QlM h3 (by omega)];rfl
def toP:Qa->Int×Int
 |.tuple [.int a,.int b]=>(a,b)
 |_=>(0,0)
theorem Qg2{h w:Int}{ds:List Qa}(q:ds.all (QjG h w)=true):∃L:List (Int×Int),ds=L.map pairD/\∀p∈L,0<=p.1/\p.1<h/\0<=p.2/\p.2<w:=by
 induction ds with
 |nil=>exact⟨[],rfl,λ_ h=>nomatch h⟩
 |cons d ds ih=>
  rw[List.all_cons,JH] at q;obtain⟨p,rfl,hp⟩:=Qyl q.1;obtain⟨L,rfl,hL⟩:=ih q.2;refine⟨p::L,rfl,λx hx=>?_⟩;rcases Qu.mp hx with z | z
  ·rw[z];exact hp
  ·exact hL x z
theorem QbF(L:List (Int×Int)):(L.map pairD).map toP=L:=by
 rw[Q8]
 conv=>rhs;rw[<- Qcr L]
 rfl
theorem Qc7(p:Int×Int):(pairD p).depth<=1:=by
 show QF [.int p.1,.int p.2]+1<=1;simp[QF,ZG]
theorem Yl{n:Nat}:∀{ds:List Qa},(∀d∈ds,d.depth<=n)->QF ds<=n
 |[],_=>Qs _
 |d::ds,h=>by
  show max d.depth (QF ds)<=n;exact Nat.max_le.mpr ⟨h d (.head _),Yl λd hd=>h d (.tail _ hd)⟩
theorem Qcj(L:List (Int×Int)):QoO (L.map pairD):=λx hx=>by
 obtain⟨p,_,rfl⟩:=Ql.mp hx;refine⟨rfl,Q1 (Qc7 p) (by decide),λy hy=>?_⟩;obtain⟨q,_,rfl⟩:=Ql.mp hy;rfl
theorem Qc6(L:List (Int×Int)):(ZW (L.map pairD)).depth<=2:=by
 show QF (L.map pairD)+1<=2;have:=Yl (n:=1) (ds:=L.map pairD) λd hd=>by obtain⟨p,_,rfl⟩:=Ql.mp hd;exact Qc7 p
 omega
theorem QfF(L:List (Int×Int)):QaI (L.map pairD):=⟨λx hx y hy=>(Qcj L x hx).2.2 y hy,λx hx=>(Qcj L x hx).2.1⟩
def stT(L:List (Int×Int)):Qa:=.tuple (L.map pairD)
def plt(p q:Int×Int):Prop:=p.1<q.1∨(p.1=q.1/\p.2<q.2)
instance plt_dec (p q:Int×Int):Decidable (plt p q):=by unfold plt;exact inferInstance
theorem QkG(p q:Int×Int):ltD (pairD p) (pairD q)=decide (plt p q):=by
 show isL (thn (Qfv p.1 q.1) (thn (Qfv p.2 q.2) .eq))=_;unfold Qfv plt;by_cases h1:p.1<q.1
 ·rw[if_pos h1];exact(decide_eq_true (.inl h1)).symm
 ·rw[if_neg h1];by_cases h2:p.1=q.1
  ·rw[if_pos h2];by_cases h3:p.2<q.2
   ·rw[if_pos h3];exact(decide_eq_true (.inr ⟨h2,h3⟩)).symm
   ·rw[if_neg h3];have:decide (p.1<q.1∨p.1=q.1/\p.2<q.2)=false:=decide_eq_false (by omega);rw[this];split<;>rfl
  ·rw[if_neg h2];exact(decide_eq_false (by omega)).symm
theorem Qit(p q:Int×Int):QY (pairD p) (pairD q)=decide (p=q):=by
 show((p.1 == q.1)&&((p.2 == q.2)&&true))=_;obtain⟨a,b⟩:=p;obtain⟨c,d⟩:=q;by_cases h1:a=c
 ·by_cases h2:b=d
  ·subst h1 h2;simp
  ·simp[h1,h2]
 ·simp[h1]
theorem Qfq(cs:List (Int×Int))(p:Int×Int):((cs.map pairD).any λc=>QY c (pairD p))=decide (p∈cs):=by
 rw[QzO,QaG,QcN,decide_eq_true_iff];constructor
 ·rintro⟨c,hc,h⟩;have:c=p:=of_decide_eq_true (by rw[<- Qit];exact h);rw[<- this];exact hc
 ·intro h;refine⟨p,h,?_⟩;show QY (pairD p) (pairD p)=true;rw[Qit];simp
def QCe(h w:Int):Qa->Bool
 |.tuple ds=>ds.all (QjG h w)&&Qb7 ds
 |_=>false
def apB(L:List (Int×Int)):Bool:=decide (L.map (·.1)).Nodup&&decide (L.map (·.2)).Nodup
def bdD(h w:Int)(cs:List (Int×Int)):Qa:=.tuple [.int h,.int w,.tuple (cs.map pairD)]
def inC(cs:List (Int×Int))(e:Qa):Bool:=(cs.map pairD).any λc=>QY c e
def Ql5(h w:Int)(cs:List (Int×Int)):Qa->Bool
 |.tuple ds=>(ds.all (QjG h w)&&Qb7 ds)&&(ds.all (inC cs)&&apB (ds.map toP))
 |_=>false
def Qm2:DF:=λargs R _=>∃(h w:Int)(d:Qa),args=[.v (.int h),.v (.int w),.v d]/\R (.bool (QjG h w d))
def Qoq:DF:=λargs R _=>∃(h w:Int)(d:Qa),args=[.v (.int h),.v (.int w),.v d]/\R (.bool (QCe h w d))
def QoI:DF:=λargs R _=>∃L:List (Int×Int),args=[.v (.tuple (L.map pairD))]/\L.length<=4000/\R (.bool (apB L))
def QwH(d:Qa):Prop:=∀ds,d=.tuple ds->ds.length<=1000
def Qke:DF:=λargs R _=>∃(h w:Int)(cs:List (Int×Int))(d:Qa),args=[.v (bdD h w cs),.v d]/\QwH d/\R (.bool (Ql5 h w cs d))
theorem Qd6(ns:List Int):Qcn (ns.map Qi)=some ns:=Dl.ints_map ns
def Qv1(r n:Nat)(f:Nat->Nat->Bool):List (Int×Int):=((Qq n).filter (f r)).map λ(c:Nat)=>((r:Int),(c:Int))
def Qel(h w:Nat)(f:Nat->Nat->Bool):List (Int×Int):=(Qq h).flatMap λr=>Qv1 r w f
theorem QjP(h w:Nat)(f:Nat->Nat->Bool):Qel (h+1) w f=Qel h w f++Qv1 h w f:=by
 unfold Qel;rw[Y0,Yw];simp
theorem Qg9{r n:Nat}{f:Nat->Nat->Bool}{p:Int×Int}:p∈Qv1 r n f↔∃c:Nat,c<n/\f r c=true/\p=((r:Int),(c:Int)):=by
 unfold Qv1;rw[Ql];constructor
 ·rintro⟨c,hc,rfl⟩;have hc:=JW.mp hc;exact⟨c,Jp.mp hc.1,hc.2,rfl⟩
 ·rintro⟨c,hc,hf,rfl⟩;exact⟨c,JW.mpr ⟨Jp.mpr hc,hf⟩,rfl⟩
theorem Qgc{h w:Nat}{f:Nat->Nat->Bool}{p:Int×Int}:p∈Qel h w f↔∃r c:Nat,r<h/\c<w/\f r c=true/\p=((r:Int),(c:Int)):=by
 unfold Qel;rw[QcL];constructor
 ·rintro⟨r,hr,hp⟩;obtain⟨c,hc,hf,rfl⟩:=Qg9.mp hp;exact⟨r,c,Jp.mp hr,hc,hf,rfl⟩
 ·rintro⟨r,c,hr,hc,hf,rfl⟩;exact⟨r,Jp.mpr hr,Qg9.mpr ⟨c,hc,hf,rfl⟩⟩
theorem Qop{h w:Nat}{f:Nat->Nat->Bool}{p:Int×Int}(q:p∈Qel h w f):0<=p.1/\p.1<h/\0<=p.2/\p.2<w:=by
 obtain⟨r,c,hr,hc,_,rfl⟩:=Qgc.mp q;exact⟨Qsg _,by show(r:Int)<h;omega,Qsg _,by show(c:Int)<w;omega⟩
theorem QtZ(r n:Nat)(f:Nat->Nat->Bool):(Qv1 r n f).Pairwise plt:=by
 unfold Qv1;refine QzQ (R:=λa b=>a<b) _ (λa b hab=>.inr ⟨rfl,by show(a:Int)<b;omega⟩) ?_
 exact YF _ QcQ
theorem Qh4(w:Nat)(f:Nat->Nat->Bool):∀h,(Qel h w f).Pairwise plt
 |0=>.nil
 |h+1=>by
  rw[QjP];refine Jd.mpr ⟨Qh4 w f h,QtZ h w f,λp hp q hq=>?_⟩;obtain⟨r,c,hr,_,_,rfl⟩:=Qgc.mp hp;obtain⟨c',_,_,rfl⟩:=Qg9.mp hq;exact .inl (by show(r:Int)<h;omega)
theorem Qxc{p q:Int×Int}(h:plt p q):p≠q:=λe=>by subst e;rcases h with z | z<;>omega
def Qv2(cs:List (Int×Int))(r:Int):List (Int×Int):=cs.filter λp=>decide (p.1=r)
def Qv4(cells L:List (Int×Int)):List (List (Int×Int)):=(cells.filter λc => !decide (c.2∈L.map (·.2))).map λc=>L++[c]
def Ql3(cs:List (Int×Int)):Nat->List (List (Int×Int))
 |0=>[[]]
 |i+1=>Ql3 cs i++(Ql3 cs i).flatMap (Qv4 (Qv2 cs i))
theorem Qdq{cells L M:List (Int×Int)}:M∈Qv4 cells L↔∃c∈cells,c.2∉L.map (·.2)/\M=L++[c]:=by
 unfold Qv4;rw[Ql];constructor
 ·rintro⟨c,hc,rfl⟩;have hc:=JW.mp hc;exact⟨c,hc.1,by simpa using hc.2,rfl⟩
 ·rintro⟨c,hc,hn,rfl⟩;exact⟨c,JW.mpr ⟨hc,by simpa using hn⟩,rfl⟩
theorem Qmt(cs:List (Int×Int)):∀i,[]∈Ql3 cs i
 |0=>.head _
 |i+1=>Jb.mpr (.inl (Qmt cs i))
theorem QvR(ns:List Int)(i:Int):((ns.map Qi).any λe=>QY e (.int i))=decide (i∈ns):=by
 rw[QzO,QaG,QcN,decide_eq_true_iff];constructor
 ·rintro⟨c,hc,h⟩;have:c=i:=by simpa [QY] using h
  rw[<- this];exact hc
 ·intro h;refine⟨i,h,?_⟩;show(i == i)=true;simp
def toI:Qa->Int
 |.int i=>i
 |_=>0
theorem QkQ{ds:List Qa}{a b:Int}(h:ds.all (λd=>inW d a b)=true):ds=(ds.map toI).map Qi/\∀i∈ds.map toI,a<=i/\i<=b:=by
 constructor
 ·rw[Q8]
  conv=>lhs;rw[<- Qcr ds]
  refine JS λd hd=>?_
  obtain⟨i,rfl,_⟩:=QrB (JN.mp h d hd);rfl
 ·intro i hi;obtain⟨d,hd,rfl⟩:=Ql.mp hi;obtain⟨i,rfl,h1,h2⟩:=QrB (JN.mp h d hd);exact⟨h1,h2⟩
theorem Qo8(ns:List Int):(ns.map Qi).map toI=ns:=by
 rw[Q8]
 conv=>rhs;rw[<- Qcr ns]
 rfl
def tI(ns:List Int):Qa:=.tuple (ns.map Qi)
def QCd(L:List (Int×Int))(p:Int×Int):Bool := !(L.any λq=>(decide (q.2=p.2)&&decide (q.1≥p.1))||(decide (q.1=p.1)&&decide (q.2<p.2)))
theorem Qpb{h w:Int}{cs:List (Int×Int)}{d:Qa}(q:Ql5 h w cs d=true):∃L,d=stT L/\∀p∈L,0<=p.1/\p.1<h/\0<=p.2/\p.2<w:=by
 cases d<;>first | (cases q;done) | skip
 rename_i ds
 have q:=Qp.mp (show((ds.all (QjG h w)&&Qb7 ds)&&(ds.all (inC cs)&&apB (ds.map toP)))=true from q);obtain⟨L,rfl,hL⟩:=Qg2 (Qp.mp q.1).1;exact⟨L,rfl,hL⟩
theorem QmJ:∀{L:List (Int×Int)},L.Pairwise plt->Qb7 (L.map pairD)=true
 |[],_=>rfl
 |[_],_=>rfl
 |p::q::L,h=>by
  have h:=Zp.mp h;show(ltD (pairD p) (pairD q)&&Qb7 ((q::L).map pairD))=true;rw[QkG,decide_eq_true (h.1 q (.head _)),QmJ h.2];rfl
theorem Qtz{h w:Int}{cs L:List (Int×Int)}(hb:∀p∈cs,0<=p.1/\p.1<h/\0<=p.2/\p.2<w)(hin:∀p∈L,p∈cs)(ha:apB L=true)(hp:L.Pairwise plt):Ql5 h w cs (stT L)=true:=by
 show(((L.map pairD).all (QjG h w)&&Qb7 (L.map pairD))&&((L.map pairD).all (inC cs)&&apB ((L.map pairD).map toP)))=true;have e1:(L.map pairD).all (QjG h w)=true:=JN.mpr λd hd=>by
  obtain⟨p,hp,rfl⟩:=Ql.mp hd;have:=hb p (hin p hp);exact Qyk this.1 this.2.1 this.2.2.1 this.2.2.2
 have e2:(L.map pairD).all (inC cs)=true:=JN.mpr λd hd=>by
  obtain⟨p,hp,rfl⟩:=Ql.mp hd;unfold inC;rw[Qfq];exact decide_eq_true (hin p hp)
 rw[QbF,ha,QmJ hp,e1,e2];rfl
theorem Qvn{α β:Type}{g:α->Option β}{p:α->Bool}{k:α->β}:∀{xs:List α},(∀x∈xs,g x=if p x=true then some (k x) else none)->xs.filterMap g=(xs.filter p).map k
 |[],_=>rfl
 |x::xs,h=>by
  have ih:=Qvn (xs:=xs) λy hy=>h y (.tail _ hy)
  by_cases z:p x=true
  ·rw[List.filterMap_cons_some (by rw[h x (.head _),if_pos z]),ih,Qcs z];rfl
  ·rw[List.filterMap_cons_none (by rw[h x (.head _),if_neg z]),ih,Qct z]
theorem Qva{ns:List Int}(h:1<=ns.length):atI (ns.map Qi) (-1)=some (.int (ns.getLastD 0)):=by
 cases e:ns.getLast? with
 |none=>rw[QiT] at e;subst e;exact absurd h (by decide)
 |some b=>
  obtain⟨xs,rfl⟩:=QiS.mp e;rw[Jr,List.getLastD_eq_getLast?,e];exact Qk6 _ _
@[irreducible] def Qrv:List Qa->(Qa->Prop)->Prop:=Qu2
theorem Qr1:Qd8 (λxs H Q=>∃i j,xs=[.int i,.int j]/\Q (.int (if j<i then j else i)) H) Qrv:=by unfold Qrv;exact QvL
theorem Qu1{i j k:Int}{Q:Qa->Prop}(e:(if j<i then j else i)=k)(h:Q (.int k)):Qrv [.int i,.int j] Q:=by
 unfold Qrv;show Q (.int (if j<i then j else i));rw[e];exact h
theorem QrL(g:Int×Int->Bool)(cs:List (Int×Int)):(cs.map pairD).filterMap (λd=>if g (toP d)=true then some d else none)=(cs.filter g).map pairD:=by
 rw[QaD];exact Qvn (p:=g) (k:=pairD) λp _=>rfl
theorem Qho{items:List Qa}{wg wg2:DG}{wt wt2:DT}{wi2:DI}{we:DE}{δ:Sts}{Q:Qa->Prop}(G:Qa->List Qa)(k:Nat)(hl:(items.flatMap G).length<=k)
  (h:∀d∈items,∀(acc:List Qa)(N:List Qa->Prop),acc.length+(G d).length<=k->N (acc++G d)->wg d δ λδ4=>wt δ4 (λb=>if b=true then wi2 δ4 (λitems2=>InR items2 wg2 wt2 we δ4 acc N) XF else N acc) XF)(q:Q (.list (items.flatMap G))) :
  Qft items wg wt wi2 wg2 wt2 we δ Q:=by
 unfold Qft;refine⟨λi acc=>acc=(items.take i).flatMap G,by simp,λi acc d hd e=>?_,λacc e=>by rw[e,Zv];exact q⟩;have e:acc=(items.take i).flatMap G:=e;have hs:(items.take (i+1)).flatMap G=(items.take i).flatMap G++G d:=by
  rw[Z0,hd,Yw];simp
 refine h d (Q7 hd) acc _ ?_ (by show acc++G d=_;rw[hs,e])
 have h1:(items.flatMap G).length=((items.take (i+1)).flatMap G).length+((items.drop (i+1)).flatMap G).length:=by
  rw[<- Qv,<- Yw,Jg]
 rw[hs,<- e,Qv] at h1;omega
end Rk
namespace Rv
theorem Qwz:isSubtype (.type "range_iterator") (.type "reversed")=pure false:=by rw[QcI];kernel_rfl
section
variable{prog:QC}{w:Q9}{A:Q5}{E:Value->Shared->Prop}{s:Shared}
def Qh2(a b:Int):Obj:={ cls:=.type "range_iterator",data:=.fields #[rawInt (a+(Zj a b 1 - 1)*1),rawInt (Zj a b 1),rawInt (-1)] }
theorem QlU{r:Addr}{j:Int}{t u v:Tok}{Q:Value->Shared->Prop}(hr:Qwk s.heap r 0 j 1 t u v)(h0 : -1000<=j)(h1:j<=1000)
  (h:Q (.ref s.heap.objs.size) { s with heap:=s.heap.push (Qh2 0 j) }):wpAny (model prog w) A (call (.builtin "range.__reversed__") [.ref r]) Q E s:=by
 refine JF QdK ⟨_,hr,rfl⟩ F.entry_range_reversed ?_ (F.args_range_reversed_1 _)
 unfold YO.«range.__reversed__»;refine wpAny_bind (Yr (a:=QJ r) rfl ?_);refine wpAny_bind ?_
 unfold QzY;refine wpAny_bind (Zg hr rfl (x:=.int 0 t) rfl ?_);refine wpAny_bind (Yr (a:=some 0) rfl ?_);refine wpAny_bind (Zg hr rfl (x:=.int j u) rfl ?_);refine wpAny_bind (Yr (a:=some j) rfl ?_);refine wpAny_bind (Zg hr rfl (x:=.int 1 v) rfl ?_);refine wpAny_bind (Yr (a:=some 1) rfl ?_);refine Qb ?_
 dsimp only
 have hz:Zj 0 j 1=if 0<j then j else 0:=by rw[Qgu];split<;>omega
 have fit:∀x:Int,-2000<=x->x<=2000->JJ x=true:=λx a b=>by
  unfold JJ;simp only[JH,decide_eq_true_eq];omega
 have hs:(JJ 0&&JJ j&&JJ 1&&JJ (-1)&&JJ (0 - 1)&&JJ (Zj 0 j 1))=true:=by
  rw[fit 0 (by decide) (by decide),fit j (by omega) (by omega),fit 1 (by decide) (by decide),fit (-1) (by decide) (by decide),fit (0 - 1) (by decide) (by decide),fit _ (by rw[hz];split<;>omega) (by rw[hz];split<;>omega)];rfl
 rw[hs,if_neg (by decide),if_pos rfl];exact wpAny_bind (Jy (Qb ⟨_,rfl,h⟩))
theorem Qr6{r:Addr}{j:Int}{t u v:Tok}{Q:Value->Shared->Prop}(hr:Qwk s.heap r 0 j 1 t u v)(h0 : -1000<=j)(h1:j<=1000)
  (h:Q (.ref s.heap.objs.size) { s with heap:=s.heap.push (Qh2 0 j) }):codeAny (model prog w) A (.call (.builtin "reversed.__new__") ⟨[.type "reversed",.ref r],[]⟩) (wants Q E) s:=by
 have hT:s.TypeIs (.ref r) "range" := ⟨_,hr,rfl⟩;refine Qep ?_
 show wpAny _ A.in1 (do checkBuiltinCall "reversed.__new__" ⟨[.type "reversed",.ref r],[]⟩;again (.builtin "reversed.__new__" ⟨[.type "reversed",.ref r],[]⟩)) _ _ s;refine wpAny_bind (Yr (F.newCall_reversed_1 _) (Qb ⟨QbI Qsh _,Qal F.entry_reversed_new ?_⟩));rw[Yi Qsh _];unfold YO.«reversed.__new__»;refine wpAny_bind (Yr (newClass_reversed _) ?_)
 dsimp only
 refine wpAny_bind (Yr (a:=()) (by first | rfl | kernel_rfl) ?_);refine wpAny_bind (Yr (a:=()) (by first | rfl | kernel_rfl) ?_)
 try dsimp only
 refine wpAny_bind (Ya hT QdK.lookup ?_)
 try dsimp only
 refine wpAny_bind (Yr (QdK.bind _) ?_)
 try dsimp only
 first
 |rw[if_neg (show ¬((Qer "range.__reversed__" == Ze)=true) from QK)]
 |(show wpAny _ _ (if(Qer "range.__reversed__" == Ze)=true then _ else _) _ _ _;rw[if_neg (show ¬((Qer "range.__reversed__" == Ze)=true) from QK)])
 refine wpAny_bind (wpAny_rule ?_);refine wpAny_bind (m:=runValue (.call (.builtin "range.__reversed__") ⟨[.ref r],[]⟩)) (show wpAny _ _ (call (.builtin "range.__reversed__") [.ref r]) _ _ _ from QlU hr h0 h1 ?_)
 first
 |exact Qb h
 |exact wpAny_bind (Qb (Qb h))
theorem Qox{r:Addr}{j:Int}{t u v:Tok}{Q:Value->Shared->Prop}(hr:Qwk s.heap r 0 j 1 t u v)(h0 : -1000<=j)(h1:j<=1000)
  (h:Q (.ref s.heap.objs.size) { s with heap:=s.heap.push (Qh2 0 j) }):wpAny (model prog w) A (call (.type "reversed") [.ref r]) Q E s:=by
 refine callType_other (U := "range_iterator") (Q₁:=λobj s₁=>obj=.ref s.heap.objs.size/\s₁={ s with heap:=s.heap.push (Qh2 0 j) }) (by decide +kernel) F.create_reversed ⟨_,_,F.mro_reversed⟩ F.made_reversed Qwz (F.typeCall_reversed_1 _) (Qr6 hr h0 h1 ⟨rfl,rfl⟩) ?_
 rintro obj s₁ ⟨rfl,rfl⟩;exact⟨⟨_,Qw _ rfl,rfl⟩,h⟩
end
end Rv
namespace L2
def Itv(n:Nat):It:=⟨λi _=>i<n,λi H x H'=>H'=H/\x=.int ((n:Int) - 1 - i),λi _=>n<=i⟩
theorem Qmp{P:QC}{w:Q9}{K:PySem.W.Frag}{tg:QU}(it:Addr)(n:Nat):Turn P w K tg (Itv n) [it] it (λi h=>Qli h it ((n:Int) - 1+(i:Nat)*(-1)) ((n:Int) - (i:Nat)) (-1)) where
 mem:=by simp
 obj:=λi h st b hb=>by
  have e:b=it:=by simpa using hb
  subst e;exact⟨_,st,λv z=>by
   have z':Data.fields _=Data.cell v:=z;cases z'⟩
 keep:=λi h h' st k=>k it (by simp) _ st
 item:=by
  intro X hP hw hK hc i pins s σ H E I hf st hg;subst hP hw hK;obtain⟨f0,f1,f2,f3,f4,f5⟩:=hf it (by simp);have W:=Qzz (prog:=X.prog) (w:=X.w) (I.ok.hd hc) it ((n:Int) - 1) (-1) n;refine W.item i s _ _ hg st λv h' tk hv st' kk=>?_
  obtain⟨t,rfl⟩:=hv;have I1:Inv X pins σ H { s with heap:=h',toks:=tk }:=I.turned (λb o hb e=>kk b o (by simpa using hb) e) f0 f1 f3 f4 f5;refine⟨_,rfl,QrH (s:={ s with heap:=h',toks:=tk }) (n := "range_iterator") st' rfl rfl (by decide) ⟨.int ((n:Int) - 1 - i),H,I1,⟨t,?_⟩,⟨rfl,rfl⟩,st',λb hb=>(hf b hb).1⟩⟩;rw[show(n:Int) - 1+(i:Int)*(-1)=(n:Int) - 1 - i by omega]
 done:=by
  intro X hP hw hK hc i pins s σ H E I hf st hg;subst hP hw hK;obtain⟨f0,f1,f2,f3,f4,f5⟩:=hf it (by simp);exact Qr8 (I.ok.hd hc) st (by have:n<=i:=hg;omega) λh' eb=>⟨rfl,I.turned (t':=s.toks) (λb o hb e=>eb b o hb e) f0 f1 f3 f4 f5⟩
 self:=λ_ _ _ _ _ st h=>QdF st h
def QAU(ta:TA):TI:=λσ H R=>ta σ H λvs H1=>∃(r:Addr)(j:Int),vs=[.ref r]/\H1 r=some (.rng 0 j) /\ -1000<=j/\j<=1000/\R (Itv j.toNat) H1
section
variable{X:Cx}{tg:QU}
theorem Qub{a:QU}{ta:TA}{p pos:Pos}(hg:Gl X "reversed")(hm:X.mg "reversed" = none)(ha:PA X [a] ta)(hs:starEach [a] X.env=[(false,eval a X.env)]:=by rfl):PI X tg (.Call (.Name "reversed" p) [a] [] pos) (QAU ta):=by
 intro pins s σ H R I h;refine Call_ (QcV I hg hm boot_reversed (JK (thn (ha pos pins s σ H _ I h) λus s1 ⟨vs,H1,I1,r1,q1⟩=>?_) hs rfl));obtain⟨r,j,e,hr,q1,q2,q⟩:=q1;subst e;obtain⟨u,rfl,ru⟩:=vals1 r1;cases(show u=QJ r from ru);obtain⟨t1,t2,t3,e⟩:=I1.hok r _ hr;refine Rv.Qox (show Qwk s1.heap r 0 j 1 t1 t2 t3 from e) q1 q2 ?_
 have hz:Zj 0 j 1=((j.toNat:Nat):Int):=by rw[Qgu];split<;>omega
 have it0:Qli (s1.heap.push (Rv.Qh2 0 j)) s1.heap.objs.size (((j.toNat:Nat):Int) - 1+((0:Nat):Int)*(-1)) (((j.toNat:Nat):Int) - ((0:Nat):Int)) (-1):=by
  have:=Qw (h:=s1.heap) (o:=Rv.Qh2 0 j) rfl;unfold Rv.Qh2 at this;rw[hz,show(0:Int)+(((j.toNat:Nat):Int) - 1)*1=((j.toNat:Nat):Int) - 1+((0:Nat):Int)*(-1) by omega] at this;rw[show((j.toNat:Nat):Int) - ((0:Nat):Int)=((j.toNat:Nat):Int) by omega];unfold Rv.Qh2;rw[hz,show(0:Int)+(((j.toNat:Nat):Int) - 1)*1=((j.toNat:Nat):Int) - 1+((0:Nat):Int)*(-1) by omega];exact this
 refine QdF it0 ?_
 refine⟨s1.heap.objs.size,[s1.heap.objs.size],_,_,H1,rfl,I1.kept (t':=s1.toks) λb o e=>Qe _ e,Qmp _ j.toNat,it0,λb hb=>?_,q⟩;have e:b=s1.heap.objs.size:=by simpa using hb
 subst e;exact I1.fpOk (Qh _) (I1.hok.fresh (Qh _))
end
section
variable{X:Cx}
def Qkm:V->List V->Hp->VK->Prop:=λx vs H Q=>∃l xs y,x=.ref l/\vs=[.int 0,y]/\H l=some (.lst xs)/\xs.length<sizeLine/\Q .non (upd H l (.lst (y::xs)))
theorem QlF:MtM X "list.insert" Qkm:=by
 intro pins s σ H x vs v us Q I rx rv h;obtain⟨l,xs,y,rfl,rfl,hH,hz,q⟩:=h;cases rx;cases rv with
 |cons r0 rv=>
  obtain⟨u,rfl,ru⟩:=Vals.one rv;obtain⟨t,rfl⟩:=r0;obtain⟨z,its,n,r,hl,e⟩:=I.lstM hH;refine QhH F.slot_list_insert ⟨_,e,rfl⟩ F.entry_list_insert (F.args_list_insert_3 _ _ _) (AutoSeq1.list_insert_list_int_val_1 l its.toArray n 0 t u (by decide) (by rw[Qr];omega)) ⟨e,?_⟩;refine⟨.non,_,I.lset (its':=u::its) hH e (by simp) (.cons ru r) ?_,rfl,q⟩;rw[Qx];omega
end
end L2
namespace Dl
open L2 _root_.Rd Rk
section
variable{X:Cx}{E:XK}{st:Qad}{i:Nat}{we:DE}
def QtN(n:Nat):List Qa:=(Qq n).map λ(i:Nat)=>.int ((n:Int) - 1 - i)
theorem QgT(n:Nat):(QtN n).length=n:=by unfold QtN;rw[Qf,QV]
theorem Qki{n i:Nat}{d:Qa}(h:(QtN n)[i]? = some d):i<n/\d=.int ((n:Int) - 1 - i):=by
 unfold QtN at h;rw[QB] at h;by_cases z:i<n
 ·rw[JT z] at h;exact⟨z,(Qt h).symm⟩
 ·rw[Js (by rw[QV];omega)] at h;cases h
def QA4(w:DE):DI:=λδ Q EX=>w δ (λd=>match d with
 |.int j=>(-1000<=j/\j<=1000)/\Q (QtN j.toNat)
 |_=>False) EX
theorem QAO{A S:Addr->Prop}{n:Nat}{H1:Hp}(h:n<=sizeLine):ItD A S (Itv n) (QtN n) H1:=by
 refine⟨by rw[QgT];exact h,λH2 A' _ _ _=>⟨λi d hd=>?_,?_⟩⟩
 ·obtain⟨hi,rfl⟩:=Qki hd;refine⟨hi,λx H3 hy=>?_⟩;obtain⟨rfl,rfl⟩:=hy;exact⟨Same.refl _,.int _⟩
 ·show n<=(QtN n).length;rw[QgT];exact Qh _
theorem QtW{m:Md}{tg e:QU}{w:DE}{p p2 pos pos2:Pos}(hg:Gl X "reversed")(hm:X.mg "reversed" = none)(hg2:Gl X "range")(hm2:X.mg "range" = none)(h:QE .P X E e w)(hs:notStar e=true:=by rfl):QI m X E tg (.Call (.Name "reversed" p) [.Call (.Name "range" p2) [e] [] pos2] [] pos) (QA4 w):=⟨by
 refine PI.imp (Qub hg hm (Qeg (Qkx hg2 hm2 (Qeg h.h Qaj hs) (by rw[ZX hs];rfl)) Qaj)) λσ H R _ ⟨F,δ,R',EX,rel,hw,k,o⟩=>?_
 refine⟨F,δ,_,EX,rel,hw,λd hd v H' rel' kp vk=>?_,o⟩;cases d<;>first | exact(show False from hd).elim | skip
 obtain⟨⟨h1,h2⟩,hR⟩:=hd;rw[DP.int vk];exact⟨_,rfl,λr H2 s2 n2 e2=>⟨r,_,rfl,e2,h1,h2,k _ hR _ H2 (rel'.same s2) (kp.trans (Kp.same rel' s2)) (QAO (ZZ (Rk.QbQ (by omega))))⟩⟩⟩
def QA3(i:Nat)(we:DE):DS:=λD δ=>match δ[i]? with
 |some (.own ds)=>we δ (λd=>ds.length<1000000/\D.nx (δ.set i (.own (d::ds)))) D.ex
 |_=>False
theorem Qur(h:PS X st (Qpa (tBM X.K "list" Qkm (Qo9 i) (Qlo (tX .D X.K E (dC (.int 0))) (Qlo (tX .D X.K E we) Qz7))))):PS X st (tS X.K E (QA3 i we)):=by
 refine PS.imp h λD σ H ⟨F,δ,DD,rel,hw,en⟩=>?_
 unfold QA3 at hw;split at hw
 ·rename_i ds hd
  obtain⟨x,hx⟩:=rel.lt hd;obtain⟨l,xs,rfl,e,q,f⟩:=rel.sl i _ _ hx hd;have np:=rel.own_pot hd hx;refine⟨.ref l,hx,.inl ⟨rfl,_,SqL.of e⟩,F,δ,(λd=>d=.int 0),DD.ex,rel,rfl,λd hd0 v0 H0 rel0 kp0 vk0=>?_,en.ex⟩;subst hd0;cases vk0;refine⟨F,δ,_,DD.ex,rel0,hw,λd ⟨hl,hn⟩ v H' rel' kp vk=>?_,en.ex⟩;have kk:=kp0.trans kp;have q':=kk.das q;refine⟨l,xs,v,rfl,rfl,kk.1 _ _ np e,QM (by rw[q.length];exact hl) Qij,?_⟩;obtain⟨r2,st⟩:=rel'.mut hd hx (.cons vk q');exact en.nx.go _ hn _ _ r2 ((Stp.kp kk).trans st)
 ·exact hw.elim
theorem QwZ{y:Str}{e e0:QU}{we:DE}{apos cpos pos npos:Pos}(i:Nat)(h0:QE .D X E e0 (dC (.int 0)))(he:QE .D X E e we)(hN:X.N[i]? = some y:=by rfl)(hv:Vis X.env.scope y:=by first | exact Ju rfl | exact Jl (Ju rfl) | exact Jl (Jl rfl))(hd:(y == ("__debug__" : Str))=false:=by decide)(hcd:(y == ("__classdict__" : Str))=false:=by decide)(hs0:notStar e0=true:=by rfl)(hst:notStar e=true:=by rfl)(hbase:attributeBase (.Name y npos) "insert" X.env (eval (.Name y npos) X.env)=eval (.Name y npos) X.env:=by rfl)(hfew:((backTo cpos (starEach [e0,e] X.env)).all (λx => !x.1)&&(backToKw cpos (keywordEach [] X.env)).all (λx=>x.1.isSome)&&decide ([e0,e].length+([]:List Qlh).length+(if([]:List Qlh).isEmpty then 0 else 1)<30))=true:=by rfl)(hline:(apos.endLine == cpos.line)=true:=by rfl)(hsw:swapsWith (.Call (.Attribute (.Name y npos) "insert" apos) [e0,e] [] cpos) none pos.line X.env=pure false:=by rfl):QS X E (.Expr (.Call (.Attribute (.Name y npos) "insert" apos) [e0,e] [] cpos) pos) (QA3 i we):=⟨Qur (Qjn (Qxk PySem.F.plainAttrs_list PySem.F.slot_list_insert PySem.F.type_list_insert QlF (pv i hN hv hd hcd) (Qeg h0.h (Qeg he.h Qaj hst) hs0) hbase hfew hline (ZX hs0) (by rw[ZX hst];rfl)) hsw)⟩
end
end Dl
namespace Rk
open L2 _root_.Rd Dl Rt
def QvZ(B:Nat->Nat->Int)(t:Nat):List Nat->Nat->Int
 |[],_=>0
 |c::cs,k=>(if t.testBit c=true then 0 else B (t ||| 2^c) k)+QvZ B t cs k
theorem Qe0(B:Nat->Nat->Int)(t c k:Nat):∀cs:List Nat,QvZ B t (cs++[c]) k=QvZ B t cs k+(if t.testBit c=true then 0 else B (t ||| 2^c) k)
 |[]=>by show _+0=0+_;omega
 |d::cs=>by
  show _+QvZ B t (cs++[c]) k=_+QvZ B t cs k+_;rw[Qe0 B t c k cs];omega
def QeH(h:Nat)(F:Nat->Int):List Qa:=(Qq (h+1)).map λ(k:Nat)=>.int (F k)
def Qln(h w:Nat)(B:Nat->Nat->Int):List Qa:=(Qq (2^w)).map λ(t:Nat)=>.list (QeH h (B t))
def stepB(B:Nat->Nat->Int)(cols:List Nat)(t k:Nat):Int:=B t k+if k=0 then 0 else QvZ B t cols (k - 1)
def Qv5(cs:List (Int×Int))(r:Nat):List Nat:=(Qv2 cs r).map λp=>p.2.toNat
def Wc(cs:List (Int×Int))(h:Nat):Nat->Nat->Nat->Int
 |0,_,k=>if k=0 then 1 else 0
 |i+1,t,k=>stepB (Wc cs h i) (Qv5 cs (h - 1 - i)) t k
def Qsj(cs:List (Int×Int))(h w:Nat):Nat->List Qa
 |0=>[.list (Qln h w (Wc cs h 0))]
 |i+1=>.list (Qln h w (Wc cs h (i+1)))::Qsj cs h w i
def Qvh(ns:List Nat):List Qa:=ns.map λ(c:Nat)=>.int (c:Int)
def QrW(cs:List (Int×Int))(h w:Nat):List Qa:=(Qq (min h w+1)).map λ(k:Nat)=>.int (Wc cs h h 0 k)
def Qru:DF:=λargs R _=>∃(h w:Nat)(cs:List (Int×Int)),args=[.v (bdD h w cs)]/\R (.int ((min h w:Nat):Int))
def Qtn:DF:=λargs R _=>∃(h w:Nat)(B:Nat->Nat->Int)(cols:List Nat)(t:Nat),args=[.v (.list (Qln h w B)),.v (.list (Qvh cols)),.v (.int t)]/\t<2^w/\(∀c∈cols,c<w)/\h<=6/\w<=6/\R (.list (QeH h (stepB B cols t)))
def Qtp:DF:=λargs R _=>∃(h w:Nat)(cs:List (Int×Int)),args=[.v (bdD h w cs)]/\h<=6/\w<=6/\(∀p∈cs,0<=p.2/\p.2<w)/\R (.list (Qsj cs h w h))
def Qhl:DF:=λargs R _=>∃(h w:Nat)(cs:List (Int×Int)),args=[.v (bdD h w cs)]/\h<=6/\w<=6/\(∀p∈cs,0<=p.2/\p.2<w)/\R (.list (QrW cs h w))
theorem QdT{h k:Nat}{F:Nat->Int}(hk:k<=h):(QeH h F)[k]? = some (.int (F k)):=by
 unfold QeH;rw[QB,JT (by omega)];rfl
theorem Qcx(h:Nat)(F:Nat->Int):(QeH h F).length=h+1:=by unfold QeH;rw[Qf,QV]
theorem Qja{h w t:Nat}{B:Nat->Nat->Int}(ht:t<2^w):(Qln h w B)[t]? = some (.list (QeH h (B t))):=by
 unfold Qln;rw[QB,JT ht];rfl
theorem QbD{h:Nat}{F G:Nat->Int}(e:∀k,k<=h->F k=G k):QeH h F=QeH h G:=by
 unfold QeH;refine JS λk hk=>?_
 rw[e k (by have:=Jp.mp hk;omega)]
theorem Qps{h j:Nat}{F:Nat->Int}{v:Int}(hj:j<=h):(QeH h F).set j (.int v)=QeH h (λk=>if k=j then v else F k):=by
 apply Z1
 intro k;rw[Qse];by_cases z:j=k
 ·subst z;rw[if_pos rfl,if_pos (by rw[Qcx];omega),QdT hj,if_pos rfl]
 ·rw[if_neg z];by_cases z2:k<=h
  ·rw[QdT z2,QdT z2,if_neg (λe=>z e.symm)]
  ·rw[Js (by rw[Qcx];omega),Js (by rw[Qcx];omega)]
theorem cut_last(xs:List Qa):Dl.cutD xs none (some (-1))=xs.take (xs.length - 1):=by
 unfold Dl.cutD;rw[HT.QgS,ZI,Qmd]
 congr 1
 have e:HT.sIx xs.length xs.length (some (-1))=((-1:Int)+(xs.length:Int)).toNat:=by unfold HT.sIx;dsimp only;rw[if_pos (by decide)]
 rw[e];omega
theorem QvQ:∀t:Fin 64,∀c:Fin 6,Yx ((t:Nat):Int) (1*2^((c:Nat):Int).toNat)=if(t:Nat).testBit c=true then 2^(c:Nat) else 0:=by decide +kernel
theorem QyS:∀t:Fin 64,∀c:Fin 6,QdL ((t:Nat):Int) (1*2^((c:Nat):Int).toNat)=(((t:Nat) ||| 2^(c:Nat):Nat):Int):=by decide +kernel
theorem QAy{t c w:Nat}(ht:t<2^w)(hc:c<w):t ||| 2^c<2^w:=Nat.or_lt_two_pow ht (Nat.pow_lt_pow_right (by decide) hc)
theorem Qpu(h:Nat)(F:Nat->Int):Dl.cutD (QeH h F) none (some (-1))=(Qq h).map λ(k:Nat)=>Qi (F k):=by
 rw[cut_last,Qcx];unfold QeH;rw[<- Qj0,QaK,QvW,Y5 (Qo1 h)]
theorem QvS{t c w:Nat}(ht:t<2^w)(hc:c<w)(w6:w<=6):Yx (t:Int) (1*2^((c:Nat):Int).toNat)=if t.testBit c=true then 2^c else 0:=by
 have h64:2^w<=2^6:=QdG (by decide) w6;exact QvQ ⟨t,by have e:2^6=64:=rfl;omega⟩ ⟨c,by omega⟩
theorem QxC{t c w:Nat}(ht:t<2^w)(hc:c<w)(w6:w<=6):QdL (t:Int) (1*2^((c:Nat):Int).toNat)=((t ||| 2^c:Nat):Int):=by
 have h64:2^w<=2^6:=QdG (by decide) w6;exact QyS ⟨t,by have e:2^6=64:=rfl;omega⟩ ⟨c,by omega⟩
theorem Qg1(w:Nat):(1*2^((w:Nat):Int).toNat:Int)=((2^w:Nat):Int):=by
 rw[Int.one_mul,QX];simp
theorem QyN(cs:List (Int×Int))(r:Nat)(hb:∀p∈cs,0<=p.2):(cs.map pairD).filterMap (λd=>if(toP d).1=(r:Int) then some (.int (toP d).2) else none)=Qvh (Qv5 cs r):=by
 unfold Qvh Qv5 Qv2;rw[QaD,Q8];refine Qvn (p:=λp:Int×Int=>decide (p.1=(r:Int))) λp hp=>?_
 show(if p.1=(r:Int) then some (Qi p.2) else none)=if decide (p.1=(r:Int))=true then some (Qi ((p.2.toNat:Nat):Int)) else none
 rw[show((p.2.toNat:Nat):Int)=p.2 by have:=hb p hp;omega];by_cases z:p.1=(r:Int)
 ·rw[if_pos z,if_pos (decide_eq_true z)]
 ·rw[if_neg z,if_neg (by simpa using z)]
theorem QvD{cs:List (Int×Int)}{w r c:Nat}(hb:∀p∈cs,0<=p.2/\p.2<w)(h:c∈Qv5 cs r):c<w:=by
 unfold Qv5 Qv2 at h;obtain⟨p,hp,rfl⟩:=Ql.mp h;have:=hb p (JW.mp hp).1;omega
theorem Qkb(cs:List (Int×Int))(h w:Nat):∀i,(Qsj cs h w i).length=i+1
 |0=>rfl
 |i+1=>by show(Qsj cs h w i).length+1=_;rw[Qkb cs h w i]
theorem Qmr(cs:List (Int×Int))(h w:Nat):∀i,(Qsj cs h w i)[0]? = some (.list (Qln h w (Wc cs h i)))
 |0=>rfl
 |_+1=>rfl
theorem Qpt(cs:List (Int×Int))(h t:Nat):QeH h (Wc cs h 0 t)=Qi 1::Jj h (.int 0):=by
 apply Z1
 intro k;cases k with
 |zero=>rw[QdT (Qs _)];rfl
 |succ k=>
  by_cases z:k+1<=h
  ·rw[QdT z,ZY,Yv,if_pos (by omega)];rfl
  ·rw[Js (by rw[Qcx];omega),ZY,Yv,if_neg (by omega)]
theorem QtO(h:Nat):(Jj h [Qi 0]).flatten=Jj h (.int 0):=by
 induction h with
 |zero=>rfl
 |succ h ih=>rw[ZD,Yp,ih];rfl
theorem Qsz{w:Nat}(h:w<=6) : -1000000<=(1*2^((w:Nat):Int).toNat:Int)/\(1*2^((w:Nat):Int).toNat:Int)<=1000000:=by
 have p64:2^w<=64:=QdG (n:=2) (by decide) h;rw[Qg1];generalize 2^w=x at p64;omega
theorem QyX{i j k:Int}{Q:Qa->Prop}(e:i+j=k)(h:Q (.int k)):QBO (.int i) (.int j) Q:=by
 show Q (.int (i+j));rw[e];exact h
end Rk
namespace L2
section
variable{X:Cx}
end
end L2
namespace Dl
open L2 _root_.Rd Rk
end Dl
namespace Rk
open L2 _root_.Rd Dl Rt
theorem Qgj{α β:Type}{f g:α->List β}:∀{xs:List α},(∀x∈xs,f x=g x)->xs.flatMap f=xs.flatMap g
 |[],_=>rfl
 |x::xs,h=>by rw[Zl,Zl,h x (.head _),Qgj λy hy=>h y (.tail _ hy)]
def Bds(h w:Nat)(cs:List (Int×Int)):Prop:=h<=6/\w<=6/\∀p∈cs,0<=p.1/\p.1<h/\0<=p.2/\p.2<w
theorem Bds.col{h w:Nat}{cs:List (Int×Int)}(b:Bds h w cs):∀p∈cs,0<=p.2/\p.2<(w:Int):=λp hp=>(b.2.2 p hp).2.2
theorem Bds.nn{h w:Nat}{cs:List (Int×Int)}(b:Bds h w cs):∀p∈cs,0<=p.2:=λp hp=>(b.2.2 p hp).2.2.1
def QsK:List (Int×Int)->List (Int×Int)->Prop
 |[],[]=>False
 |[],_::_=>True
 |_::_,[]=>False
 |p::L,q::M=>plt p q∨(p=q/\QsK L M)
theorem QnE:∀L:List (Int×Int),¬QsK L L
 |[],h=>h
 |p::L,h=>by
  rcases h with z | z
  ·rcases z with z | z<;>omega
  ·exact QnE L z.2
theorem QnF:∀{S T:List (Int×Int)}(c d:Int×Int),S.length=T.length->QsK S T->QsK (S++[c]) (T++[d])
 |[],[],_,_,_,h=>h.elim
 |[],_::_,_,_,e,_=>by cases e
 |_::_,[],_,_,e,_=>by cases e
 |p::S,q::T,c,d,e,h=>by
  rcases h with z | z
  ·exact .inl z
  ·exact .inr ⟨z.1,QnF c d (by simpa using e) z.2⟩
theorem QkK:∀(S:List (Int×Int)){c d:Int×Int},plt c d->QsK (S++[c]) (S++[d])
 |[],c,d,h=>.inl h
 |p::S,c,d,h=>.inr ⟨rfl,QkK S h⟩
def rbI(S:List (Int×Int)):Int:=match S.getLast? with
 |some c=>c.1+1
 |none=>0
def fol(cs S:List (Int×Int)):List (Int×Int):=cs.filter λc=>decide (rbI S<=c.1) && !decide (c.2∈S.map (·.2))
def evS(cs:List (Int×Int)):Nat->List (List (Int×Int))
 |0=>[[]]
 |k+1=>(evS cs k).flatMap λS=>(fol cs S).map λc=>S++[c]
structure Std (cs L:List (Int×Int)):Prop where
 sub:∀p∈L,p∈cs
 rows:L.Pairwise λp q=>p.1<q.1
 cols:(L.map (·.2)).Nodup
theorem Std.nil{cs:List (Int×Int)}:Std cs []:=⟨λp hp=>(nomatch hp),.nil,.nil⟩
theorem Std.init{cs S:List (Int×Int)}{c:Int×Int}(h:Std cs (S++[c])):Std cs S/\c∈cs/\(∀p∈S,p.1<c.1)/\c.2∉S.map (·.2):=by
 have r:=Jd.mp h.rows;have k:=h.cols;rw[Jr] at k;have k:=Qab.mp k;refine⟨⟨λp hp=>h.sub p (ZV _ hp),r.1,k.1⟩,h.sub c (by simp),λp hp=>r.2.2 p hp c (by simp),λz=>?_⟩;exact k.2.2 c.2 z c.2 (by simp) rfl
theorem Std.snoc{cs S:List (Int×Int)}{c:Int×Int}(h:Std cs S)(h1:c∈cs)(h2:∀p∈S,p.1<c.1)(h3:c.2∉S.map (·.2)):Std cs (S++[c]):=by
 refine⟨λp hp=>?_,Jd.mpr ⟨h.rows,by simp,λp hp q hq=>?_⟩,?_⟩
 ·rcases Jb.mp hp with z | z
  ·exact h.sub p z
  ·rw[Q6.mp z];exact h1
 ·rw[Q6.mp hq];exact h2 p hp
 ·rw[Jr];refine Qab.mpr ⟨h.cols,by simp,λa ha b hb e=>?_⟩;have hb:b=c.2:=by simpa using hb
  rw[e,hb] at ha;exact h3 ha
theorem Qrz{S:List (Int×Int)}(h:S.Pairwise λp q=>p.1<q.1){c:Int×Int}:(∀p∈S,p.1<c.1)∨¬rbI S<=c.1∨(S=[] ):=by
 by_cases z:S=[]
 ·exact .inr (.inr z)
 ·by_cases y:rbI S<=c.1
  ·refine .inl λp hp=>?_
   obtain⟨T,d,rfl⟩:∃T d,S=T++[d]:=⟨S.dropLast,S.getLast z,(Qbg z).symm⟩
   have y:d.1+1<=c.1:=by unfold rbI at y;rw[List.getLast?_append] at y;simpa using y
   rcases Jb.mp hp with q | q
   ·have:=(Jd.mp h).2.2 p q d (by simp);omega
   ·rw[Q6.mp q];omega
  ·exact .inr (.inl y)
theorem QAe{S:List (Int×Int)}{c:Int×Int}(h:∀p∈S,p.1<c.1)(h0:0<=c.1):rbI S<=c.1:=by
 unfold rbI;cases e:S.getLast? with
 |none=>exact h0
 |some d=>
  have:=h d (List.mem_of_getLast? e);show d.1+1<=c.1;omega
theorem Qfb{cs:List (Int×Int)}(h0:∀p∈cs,0<=p.1):∀(k:Nat)(L:List (Int×Int)),L∈evS cs k↔Std cs L/\L.length=k
 |0,L=>by
  constructor
  ·intro h;rw[Q6.mp h];exact⟨.nil,rfl⟩
  ·rintro⟨_,h⟩;cases L with
   |nil=>exact .head _
   |cons a b=>cases h
 |k+1,L=>by
  show L∈(evS cs k).flatMap (λS=>(fol cs S).map λc=>S++[c])↔_;rw[QcL];constructor
  ·rintro⟨S,hS,hL⟩;obtain⟨c,hc,rfl⟩:=Ql.mp hL;obtain⟨st,hl⟩:=(Qfb h0 k S).mp hS;have hc:=JW.mp hc;have hc2:=Qp.mp hc.2;refine⟨st.snoc hc.1 ?_ (by simpa using hc2.2),by rw[Qv,hl];rfl⟩;rcases Qrz st.rows (c:=c) with z | z | z
   ·exact z
   ·exact absurd (of_decide_eq_true hc2.1) z
   ·rw[z];exact λp hp=>(nomatch hp)
  ·rintro⟨st,hl⟩;have hne:L≠[]:=λe=>by rw[e] at hl;cases hl
   obtain⟨S,c,rfl⟩:∃T d,L=T++[d]:=⟨L.dropLast,L.getLast hne,(Qbg hne).symm⟩
   obtain⟨s1,s2,s3,s4⟩:=st.init;refine⟨S,(Qfb h0 k S).mpr ⟨s1,by rw[Qv] at hl;exact Nat.succ.inj hl⟩,Ql.mpr ⟨c,JW.mpr ⟨s2,?_⟩,rfl⟩⟩;rw[JH];exact⟨decide_eq_true (QAe s3 (h0 c s2)),by simpa using s4⟩
theorem Qis{cs:List (Int×Int)}(hp:cs.Pairwise plt)(h0:∀p∈cs,0<=p.1):∀k,(evS cs k).Pairwise QsK
 |0=>QaC _ _
 |k+1=>by
  show((evS cs k).flatMap λS=>(fol cs S).map λc=>S++[c]).Pairwise QsK;rw[Ql0];refine⟨λS _=>?_,?_⟩
  ·exact Qaa.mpr ((YF _ hp).imp λh=>QkK S h)
  ·refine QeA (λ{S T} hS hT h=>?_) (Qis hp h0 k);intro x hx y hy;obtain⟨c,_,rfl⟩:=Ql.mp hx;obtain⟨d,_,rfl⟩:=Ql.mp hy;exact QnF c d (by rw[((Qfb h0 k S).mp hS).2,((Qfb h0 k T).mp hT).2]) h
theorem QdZ{cs:List (Int×Int)}(h0:∀p∈cs,0<=p.1):∀(i:Nat)(L:List (Int×Int)),L∈Ql3 cs i↔Std cs L/\∀p∈L,p.1<(i:Int)
 |0,L=>by
  constructor
  ·intro h;rw[Q6.mp h];exact⟨.nil,λp hp=>(nomatch hp)⟩
  ·rintro⟨s,h⟩;cases L with
   |nil=>exact .head _
   |cons a b=>
    have h1:=h a (.head _);have h2:=h0 a (s.sub a (.head _));exact absurd h1 (by show ¬a.1<0;omega)
 |i+1,L=>by
  show L∈Ql3 cs i++(Ql3 cs i).flatMap (Qv4 (Qv2 cs i))↔_;rw[Jb,QcL];constructor
  ·rintro(h | ⟨S,hS,hL⟩)
   ·obtain⟨a,b⟩:=(QdZ h0 i L).mp h;exact⟨a,λp hp=>by have:=b p hp;omega⟩
   ·obtain⟨c,hc,hn,rfl⟩:=Qdq.mp hL;obtain⟨a,b⟩:=(QdZ h0 i S).mp hS;have hc:=JW.mp hc;have hr:c.1=(i:Int):=of_decide_eq_true hc.2;refine⟨a.snoc hc.1 (λp hp=>by rw[hr];exact b p hp) hn,λp hp=>?_⟩;rcases Jb.mp hp with z | z
    ·have:=b p z;omega
    ·rw[Q6.mp z,hr];omega
  ·rintro⟨s,h⟩;by_cases z:L=[]
   ·left
    rw[z];exact Qmt cs i
   ·obtain⟨S,c,rfl⟩:∃T d,L=T++[d]:=⟨L.dropLast,L.getLast z,(Qbg z).symm⟩
    obtain⟨s1,s2,s3,s4⟩:=s.init;have hc:=h c (by simp);by_cases y:c.1=(i:Int)
    ·right
     exact⟨S,(QdZ h0 i S).mpr ⟨s1,λp hp=>by have:=s3 p hp;omega⟩,Qdq.mpr ⟨c,JW.mpr ⟨s2,decide_eq_true y⟩,s4,rfl⟩⟩
    ·left
     refine(QdZ h0 i _).mpr ⟨s,λp hp=>?_⟩;rcases Jb.mp hp with q | q
     ·have:=s3 p q;omega
     ·rw[Q6.mp q];omega
theorem Qsl{cs:List (Int×Int)}(nd:cs.Nodup)(h0:∀p∈cs,0<=p.1):∀i,(Ql3 cs i).Nodup
 |0=>by show[([]:List (Int×Int))].Nodup;simp
 |i+1=>by
  have ih:=Qsl nd h0 i;show(Ql3 cs i++(Ql3 cs i).flatMap (Qv4 (Qv2 cs i))).Nodup;refine Qab.mpr ⟨ih,?_,λL hL M hM e=>?_⟩
  ·show Qy8 _ _;rw[Ql0];refine⟨λS _=>?_,ih.imp λ{S T} hne x hx y hy e=>?_⟩
   ·unfold Qv4;refine Qaa.mpr ((YF _ (YF _ nd)).imp λ{c d} hne e=>hne ?_);have:=List.append_inj_right' e rfl
    simpa using this
   ·obtain⟨c,_,_,rfl⟩:=Qdq.mp hx;obtain⟨d,_,_,rfl⟩:=Qdq.mp hy;exact hne (List.append_inj_left' e rfl)
  ·obtain⟨S,hS,hM⟩:=QcL.mp hM;obtain⟨c,hc,_,rfl⟩:=Qdq.mp hM;have hr:c.1=(i:Int):=of_decide_eq_true (JW.mp hc).2;have:=((QdZ h0 i L).mp hL).2 c (by rw[e];simp);omega
end Rk
namespace Dl
open L2 _root_.Rd Rk
section
variable{X:Cx}{E:XK}{st:Qad}{we:DE}
end
end Dl
namespace Rk
open L2 _root_.Rd Dl Rt
structure GB (h w:Nat) (cs:List (Int×Int)):Prop where
 bds:Bds h w cs
 srt:cs.Pairwise plt
 few:(Ql3 cs h).length<=200000
theorem GB.r0{h w:Nat}{cs:List (Int×Int)}(g:GB h w cs):∀p∈cs,0<=p.1:=λp hp=>(g.bds.2.2 p hp).1
theorem GB.rh{h w:Nat}{cs:List (Int×Int)}(g:GB h w cs):∀p∈cs,p.1<(h:Int):=λp hp=>(g.bds.2.2 p hp).2.1
theorem Qvo{h w:Nat}{cs:List (Int×Int)}(g:GB h w cs)(k:Nat):(evS cs k).Perm ((Ql3 cs h).filter λL=>L.length == k):=by
 have nd:=Qsl (g.srt.imp Qxc) g.r0 h;have s2:=Qis g.srt g.r0 k;have n2:(evS cs k).Nodup:=QhO (R:=QsK) (S:=λa b=>a≠b) (λ{S T} z (e:S=T)=>QnE S (by rw[<- e] at z;exact z)) s2;refine(QhM n2 (YF _ nd)).mpr λL=>?_
 rw[JW,Qfb g.r0,QdZ g.r0];constructor
 ·rintro⟨a,b⟩;exact⟨⟨a,λp hp=>g.rh p (a.sub p hp)⟩,by simpa using b⟩
 ·rintro⟨⟨a,_⟩,b⟩;exact⟨a,by simpa using b⟩
theorem Qyt{h w:Nat}{cs:List (Int×Int)}(g:GB h w cs)(k:Nat):(evS cs k).length<=200000:=by
 rw[(Qvo g k).length_eq];exact Q1 (Ql1 _ _) g.few
def stL:Qa->List (Int×Int)
 |.tuple ds=>ds.map toP
 |_=>[]
theorem Qlq(L:List (Int×Int)):stL (stT L)=L:=QbF L
def QtL:DF:=λargs R _=>∃S:List (Int×Int),args=[.v (stT S)]/\R (.int (rbI S))
def QAV:DF:=λargs R _=>∃(h w:Nat)(cs S:List (Int×Int)),args=[.v (bdD h w cs),.v (stT S)]/\R (.list ((fol cs S).map pairD))
def evD:DF:=λargs R _=>∃(h w:Nat)(cs:List (Int×Int))(k:Nat),args=[.v (bdD h w cs),.v (.int k)]/\GB h w cs/\k<=6/\R (.list ((evS cs k).map stT))
theorem Qu8{S:List (Int×Int)}{c:Int×Int}(h:S.getLast? = some c):atI (S.map pairD) (-1)=some (pairD c):=by
 obtain⟨xs,rfl⟩:=QiS.mp h;rw[Jr];exact Qk6 _ _
def evG(cs:List (Int×Int))(d:Qa):List Qa:=(fol cs (stL d)).map λc=>stT (stL d++[c])
theorem Qn3(cs:List (Int×Int))(k:Nat):((evS cs k).map stT).flatMap (evG cs)=(evS cs (k+1)).map stT:=by
 show _=((evS cs k).flatMap λS=>(fol cs S).map λc=>S++[c]).map stT;rw[Qtg,List.map_flatMap];refine Qgj λS _=>?_
 unfold evG;rw[Qlq,Q8];rfl
end Rk
namespace L2
section
variable{X:Cx}
end
end L2
namespace Dl
open L2 _root_.Rd Rk Rt
end Dl
namespace Rk
open L2 _root_.Rd Dl Rt
def wt(cs L:List (Int×Int)):Nat:=(cs.filter (QCd L)).length
end Rk
namespace L2
open _root_.Rd
section
variable{X:Cx}
end
end L2
namespace Dl
open L2 _root_.Rd Rk Rt
section
variable{X:Cx}{E:XK}
end
end Dl
namespace Rk
open L2 _root_.Rd Dl Rt
theorem Qxb{p q r:Int×Int}(h1:plt p q)(h2:plt q r):plt p r:=by
 rcases h1 with a | a<;>rcases h2 with b | b
 ·exact .inl (by omega)
 ·exact .inl (by omega)
 ·exact .inl (by omega)
 ·exact .inr (by omega)
theorem Qkk:∀{L:List (Int×Int)},Qb7 (L.map pairD)=true->L.Pairwise plt
 |[],_=>.nil
 |[p],_=>QaC _ _
 |p::q::L,h=>by
  have h:=Qp.mp (show(ltD (pairD p) (pairD q)&&Qb7 ((q::L).map pairD))=true from h);have ih:=Qkk (L:=q::L) h.2;have h1:plt p q:=by have:=h.1;rw[QkG] at this;exact of_decide_eq_true this
  refine Zp.mpr ⟨λr hr=>?_,ih⟩;rcases Qu.mp hr with z | z
  ·rw[z];exact h1
  ·exact Qxb h1 ((Zp.mp ih).1 r z)
theorem QwC{h w:Nat}{cs:List (Int×Int)}{d:Qa}(q:Ql5 h w cs d=true):∃L,d=stT L/\Std cs L:=by
 obtain⟨L,rfl,hL⟩:=Qpb q;refine⟨L,rfl,?_⟩;have q:=Qp.mp (show(((L.map pairD).all (QjG h w)&&Qb7 (L.map pairD))&&((L.map pairD).all (inC cs)&&apB ((L.map pairD).map toP)))=true from q);have q1:=Qp.mp q.1;have q2:=Qp.mp q.2;have pw:=Qkk q1.2;have ap:=q2.2;rw[QbF] at ap;have ap:=Qp.mp (show(decide (L.map (·.1)).Nodup&&decide (L.map (·.2)).Nodup)=true from ap);refine⟨λp hp=>?_,?_,of_decide_eq_true ap.2⟩
 ·have:=JN.mp q2.1 (pairD p) (Ql.mpr ⟨p,hp,rfl⟩);unfold inC at this;rw[Qfq] at this;exact of_decide_eq_true this
 ·have nd1:L.Pairwise λp q=>p.1≠q.1:=Qaa.mp (of_decide_eq_true ap.1)
  refine(List.pairwise_and_iff.mpr ⟨nd1,pw⟩).imp λ{a b} z=>?_
  rcases z.2 with y | y
  ·exact y
  ·exact absurd y.1 z.1
theorem QwB{h w:Nat}{cs L:List (Int×Int)}(g:GB h w cs)(st:Std cs L):Ql5 h w cs (stT L)=true:=by
 refine Qtz (λp hp=>g.bds.2.2 p hp) st.sub ?_ (st.rows.imp λz=>.inl z)
 show(decide (L.map (·.1)).Nodup&&decide (L.map (·.2)).Nodup)=true;rw[decide_eq_true st.cols,Qj3];exact decide_eq_true (Qaa.mpr (st.rows.imp λ{a b}(z:a.1<b.1)=>by show a.1≠b.1;omega))
end Rk
namespace L2
section
variable{κ:Type}[DecidableEq κ]
def QgI(kvs:List (κ×V))(k:κ):Option V:=(kvs.find? λkv=>decide (kv.1=k)).map (·.2)
def QpB(kvs:List (κ×V))(k:κ)(v:V):List (κ×V):=
 if(kvs.any λkv=>decide (kv.1=k))=true then kvs.map (λkv=>if kv.1=k then(kv.1,v) else kv) else kvs++[(k,v)]
theorem QeD{p:κ×V}{r:List (κ×V)}{k:κ}(e:p.1=k):QgI (p::r) k=some p.2:=by simp[QgI,Yq,e]
theorem QeE{p:κ×V}{r:List (κ×V)}{k:κ}(e:¬p.1=k):QgI (p::r) k=QgI r k:=by simp[QgI,Yq,e]
theorem Qj7(k:κ):∀kvs:List (κ×V),(kvs.any λkv=>decide (kv.1=k))=(QgI kvs k).isSome
 |[]=>rfl
 |p::r=>by
  rw[Qcu];by_cases e:p.1=k
  ·simp only[QeD e,decide_eq_true e,Bool.true_or,Option.isSome_some]
  ·rw[QeE e,decide_eq_false e,Qj2];exact Qj7 k r
theorem QjE(kvs:List (κ×V))(k:κ)(v:V):(QpB kvs k v).length<=kvs.length+1:=by
 unfold QpB;split
 ·rw[Qf];omega
 ·rw[Qv,Qx,Qbw];omega
theorem QpA{kvs:List (κ×V)}{k:κ}(v:V)(h:QgI kvs k=none):QpB kvs k v=kvs++[(k,v)]:=by
 unfold QpB;rw[Qj7,h];exact if_neg (by decide)
theorem RelO.isSome_eq{o:Option V}{u:Option Value}(r:RelO o u):o.isSome=u.isSome:=by
 cases o with
 |none=>cases u with
  |none=>rfl
  |some _=>exact(show False from r).elim
 |some _=>cases u with
  |none=>exact(show False from r).elim
  |some _=>rfl
theorem KV.val{kvs:List (κ×V)}{vs:List (κ×Value)}(r:KV kvs vs)(k:κ):RelO (QgI kvs k) (valueAt vs k):=by
 unfold KV at r;induction r with
 |nil=>exact Qbo
 |@cons p q ps qs h t ih=>
  obtain⟨h1,h2⟩:=h;by_cases e:p.1=k
  ·have e':q.1=k:=h1.symm.trans e;have b:valueAt (q::qs) k=some q.2:=by simp[valueAt,Yq,e']
   rw[QeD e,b];exact h2
  ·have e':¬q.1=k:=λz=>e (h1.trans z)
   have b:valueAt (q::qs) k=valueAt qs k:=by simp[valueAt,Yq,e']
   rw[QeE e,b];exact ih
theorem KV.any{kvs:List (κ×V)}{vs:List (κ×Value)}(r:KV kvs vs)(k:κ):(kvs.any λkv=>decide (kv.1=k))=vs.any λkv=>decide (kv.1=k):=by
 unfold KV at r;induction r with
 |nil=>rfl
 |cons h t ih=>rw[Qcu,Qcu,ih,h.1]
theorem KV.repl{kvs:List (κ×V)}{vs:List (κ×Value)}(r:KV kvs vs)(k:κ){y:V}{u:Value}(ry:RelV y u) :
  KV (kvs.map λkv=>if kv.1=k then(kv.1,y) else kv) (vs.map λkv=>if kv.1=k then(kv.1,u) else kv):=by
 unfold KV at r ⊢;induction r with
 |nil=>exact .nil
 |@cons p q ps qs h t ih=>
  rw[Jc,Jc];refine .cons ?_ ih
  obtain⟨h1,h2⟩:=h;by_cases e:p.1=k
  ·rw[if_pos e,if_pos (h1.symm.trans e)];exact⟨h1,ry⟩
  ·rw[if_neg e,if_neg (λz=>e (h1.trans z))];exact⟨h1,h2⟩
theorem KV.put{kvs:List (κ×V)}{vs:List (κ×Value)}(r:KV kvs vs)(k:κ){y:V}{u:Value}(ry:RelV y u):KV (QpB kvs k y) (stored vs k u):=by
 unfold QpB stored;rw[r.any k];by_cases e:(vs.any λkv=>decide (kv.1=k))=true
 ·rw[if_pos e,if_pos e];exact r.repl k ry
 ·rw[if_neg e,if_neg e];exact Paired.snoc r ⟨rfl,ry⟩
theorem KV.length{kvs:List (κ×V)}{vs:List (κ×Value)}(r:KV kvs vs):kvs.length=vs.length:=QiR r
end
theorem QrA{P:QC}{w:Q9}{k:Key}{u:Value}(r:RelV (kV k) u):(mixKind P w).is k u=true:=by
 cases k with
 |inl i=>obtain⟨t,e⟩:=(show ∃t,u=Qb1 i t from r);subst e;exact Qjy P w i t
 |inr x=>obtain⟨t,e⟩:=(show ∃t,u=Qld x t from r);subst e;exact Qjx P w x t
theorem Qio{P:QC}{w:Q9}:∀{ks:List Key}{us:List Value},Vals (ks.map kV) us->ItemsAre (mixKind P w) ks us
 |[],_,r=>by rw[QfA] at r;cases r;exact .nil
 |k::ks,_,r=>by
  rw[Jc] at r;cases r with
  |cons h t=>exact .cons (QrA h) (Qio t)
abbrev KT (H:Hp):List (List Key×V)->List (List Key×Addr×Value)->Prop:=Qbp λp q=>p.1=q.1/\H q.2.1=some (.tup (p.1.map kV))/\RelV p.2 q.2.2
theorem KT.val{H:Hp}{kvs:List (List Key×V)}{xs:List (List Key×Addr×Value)}(r:KT H kvs xs)(k:List Key):RelO (QgI kvs k) ((atKey xs k).map (·.2)):=by
 induction r with
 |nil=>exact Qbo
 |@cons p q ps qs h t ih=>
  obtain⟨h1,_,h2⟩:=h;by_cases e:p.1=k
  ·have e':q.1=k:=h1.symm.trans e;have b:atKey (q::qs) k=some q.2:=by simp[atKey,Yq,e']
   rw[QeD e,b];exact h2
  ·have e':¬q.1=k:=λz=>e (h1.trans z)
   have b:atKey (q::qs) k=atKey qs k:=by simp[atKey,Yq,e']
   rw[QeE e,b];exact ih
section
variable{P:QC}{w:Q9}{H:Hp}{h:Heap}{a:Addr}
theorem QwP{u:HO}(ok:HOk P w H h)(e:Rd H a u):ObjOk P w H h a u:=e.ok ok
theorem QrO{kvs:List (Key×V)}(ok:HOk P w H h)(e:Rd H a (.dK kvs)):kvs.length<=sizeLine/\(a == sysModules)=false/\∃vs,KV kvs vs/\h.DictOf (mixKind P w) a vs:=
 show ObjOk P w H h a (.dK kvs) from QwP ok e
theorem QA0{kvs:List (Key×V)}(ok:HOk P w H h)(e:H a=some (.dK kvs)):kvs.length<=sizeLine/\(a == sysModules)=false/\∃vs,KV kvs vs/\h.DictOf (mixKind P w) a vs:=QrO ok (.inl e)
theorem QjK{ks:List Key}(ok:HOk P w H h)(e:H a=some (.tup (ks.map kV))):(tupleKind (mixKind P w)).is h ks a:=by
 obtain⟨_,its,r,o,h1,h2,n,h3⟩:=(show ObjOk P w H h a (.tup (ks.map kV)) from ok a _ e);exact⟨o,its.toArray,n,h1,h2,h3,by simpa using Qio r⟩
theorem Qvt{kvs:List (List Key×V)}(ok:HOk P w H h)(e:Rd H a (.dT kvs)):kvs.length<=sizeLine/\(a == sysModules)=false /\
  ∃xs,KT H kvs xs/\h.DictOfH (tupleKind (mixKind P w)) a xs:=by
 obtain⟨z,y,xs,r,o,es,ep,h1,h2,h3,h4,h5⟩:=(show ObjOk P w H h a (.dT kvs) from QwP ok e);refine⟨z,y,xs,r,o,es,ep,h1,h2,h3,h4,λx hx=>?_,h5⟩;have all:∀{l:List (List Key×V)}{m:List (List Key×Addr×Value)},KT H l m->∀x∈m,(tupleKind (mixKind P w)).is h x.1 x.2.1:=by
  intro l m q;induction q with
  |nil=>intro x hx;exact nomatch hx
  |@cons p q ps qs hq t ih=>
   intro x hx;rcases Qu.mp hx with e | hx
   ·subst e;exact QjK ok (by rw[<- hq.1];exact hq.2.1)
   ·exact ih x hx
 exact all r x hx
end
def DGet(H:Hp)(a:Addr)(y:V)(r:Option V):Prop:=
 (∃kvs k,Rd H a (.dK kvs)/\y=kV k/\r=QgI kvs k)∨∃kvs k b,Rd H a (.dT kvs)/\y=.ref b/\H b=some (.tup (k.map kV))/\r=QgI kvs k
theorem DGet.k{H:Hp}{a:Addr}{kvs:List (Key×V)}{k:Key}(e:H a=some (.dK kvs)):DGet H a (kV k) (QgI kvs k):=.inl ⟨kvs,k,.inl e,rfl,rfl⟩
section
variable{X:Cx}{pins:List (Addr×Obj)}{σ:St}{H:Hp}{s:Shared}{a:Addr}{y v:V}{u r:Value}{o:Option V}{A:Q5}{E:Value->Shared->Prop}
theorem Inv.big(I:Inv X pins σ H s):sysModules<s.heap.objs.size:=by
 have h:mainGlobals<s.heap.objs.size:=(I.mod.glob.keeps I.bk).lt;exact Nat.lt_trans (by decide) h
theorem Qoi{Q:Value->Shared->Prop}(hu:A.units+1<cLine)(I:Inv X pins σ H s)(g:DGet H a y (some v))(ry:RelV y u)(h:∀w' s',Inv X pins σ H s'->RelV v w'->Q w' s') :
  wpAny (model X.prog X.w) A (getItem (.ref a) u) Q E s:=by
 rcases g with⟨kvs,k,e,ey,l⟩ | ⟨kvs,k,b,e,ey,eb,l⟩
 ·subst ey;obtain⟨z,hd,vs,rel,dd⟩:=QrO I.hok e;obtain⟨w',hw,rw'⟩:=RelO.some_of (v:=v) (o:=valueAt vs k) (by rw[l];exact rel.val k);exact wpAny_getItem_of (QrA ry) dd.mapOf hw (h w' _ (I.tok _) rw')
 ·subst ey;cases(show u=QJ b from ry);obtain⟨z,hd,xs,rel,dd⟩:=Qvt I.hok e;obtain⟨w',hw,rw'⟩:=RelO.some_of (v:=v) (o:=(atKey xs k).map (·.2)) (by rw[l];exact rel.val k);obtain⟨p,hp,hp2⟩:=Zy.mp hw;refine wpAny_getItem_heap (Qy0 hu) (QjK I.hok eb) dd hp ?_
  rw[hp2];exact h w' _ (I.tok _) rw'
theorem QCj{Q:Value->Shared->Prop}(hu:A.units+1<cLine)(I:Inv X pins σ H s)(g:DGet H a y o)(ry:RelV y u)(h:∀s',Inv X pins σ H s'->Q (.bool o.isSome) s') :
  wpAny (model X.prog X.w) A (compareOp .In u (.ref a)) Q E s:=by
 rcases g with⟨kvs,k,e,ey,l⟩ | ⟨kvs,k,b,e,ey,eb,l⟩
 ·subst ey;obtain⟨z,hd,vs,rel,dd⟩:=QrO I.hok e;refine wpAny_in_of (QrA ry) hd dd.mapOf ?_
  rw[<- (rel.val k).isSome_eq,<- l];exact h _ (I.tok _)
 ·subst ey;cases(show u=QJ b from ry);obtain⟨z,hd,xs,rel,dd⟩:=Qvt I.hok e;refine wpAny_in_heap (Qy0 hu) (QjK I.hok eb) hd dd ?_
  have q:=(rel.val k).isSome_eq;rw[QoR] at q;rw[<- q,<- l];exact h _ (I.tok _)
theorem Qvz{h':Heap}{t':Nat}{ob:HO}(I:Inv X pins σ H s)(mu:Mut (H a))(hs:Y2 a s.heap h')(he:∃q,h'.get? a=some q)(new:ObjOk X.prog X.w (upd H a ob) h' a ob) :
  Inv X pins σ (upd H a ob) { s with heap:=h',toks:=t' }:=
 I.write (x:=a) (e:=a) mu (.inl rfl) (λb q hb z=>(hs.2 b hb).trans z) he new
theorem Qyv{P:QC}{w:Q9}{H':Hp}{h':Heap}{kvs:List (Key×V)}{vs:List (Key×Value)}(z:kvs.length<=sizeLine)(hd:(a == sysModules)=false)(rel:KV kvs vs)(dd:h'.DictOf (mixKind P w) a vs) :
  ObjOk P w H' h' a (.dK kvs):=⟨z,hd,vs,rel,dd⟩
end
section
variable{X:Cx}{pins:List (Addr×Obj)}{σ:St}{H:Hp}{s:Shared}{a:Addr}{kvs:List (Key×V)}{k:Key}{u:Value}{A:Q5}{E:Value->Shared->Prop}
end
theorem QjL{X:Cx}{pins:List (Addr×Obj)}{σ:St}{H:Hp}{s:Shared}{a:Addr}{y:V}{o:Option V}(I:Inv X pins σ H s)(g:DGet H a y o):s.TypeIs (.ref a) "dict" := by
 rcases g with⟨kvs,k,e,_,_⟩ | ⟨kvs,k,b,e,_,_,_⟩
 ·obtain⟨_,_,vs,_,dd⟩:=QrO I.hok e;exact dd.typeIs
 ·obtain⟨_,_,xs,_,dd⟩:=Qvt I.hok e;exact dd.typeIs
section
variable{X:Cx}{o i e value:QU}{pos pos' tpos:Pos}{td ty tv:TE}
end
theorem QrP{P:QC}{w:Q9}{H:Hp}(h:Heap)(hb:sysModules<h.objs.size):ObjOk P w H (h.push { cls:=.type "dict",data:=.dict #[] }) h.objs.size (.dK []):=
 ⟨Qs _,beq_eq_false_iff_ne.mpr (QcP (Qz hb)),[],.nil,Heap.DictOf.new h⟩
section
variable{X:Cx}{pos:Pos}
end
section
variable{X:Cx}{pins:List (Addr×Obj)}{σ:St}{H:Hp}{s:Shared}{a:Addr}{y d:V}{u r:Value}{o:Option V}{A:Q5}{E:Value->Shared->Prop}
end
section
variable{X:Cx}{o e f:QU}{apos cpos:Pos}{td ty tx:TE}
end
section
variable{X:Cx}{pins:List (Addr×Obj)}{σ:St}{H:Hp}{s:Shared}{a:Addr}{kvs:List (Key×V)}{A:Q5}{E:Value->Shared->Prop}
end
section
variable{X:Cx}{pins:List (Addr×Obj)}{σ:St}{H:Hp}{s:Shared}{a:Addr}{y:V}{u:Value}{A:Q5}{E:Value->Shared->Prop}
end
theorem QfK(kx vx target iter:QU)(ifs:List QU)(scope:YC)(pos:Pos)(it:Value)(D:Addr)(env:Env) :
  compTurn (.DictComp kx vx [⟨target,iter,ifs,0⟩] scope pos) 0 it (.ref D) env=(do
   standAt iter.pos
   let r <- pyNext it
   match r with
   |none=>pure (.done .next)
   |some v=>
    letOwnedTupleGo target it v
    assign target env v
    let ok <- Qi9 ifs env
    if ok then
     (do let kv <- eval kx env;let vv <- holding [kv] (eval vx env);standAt { kx.pos with endLine:=vx.pos.endLine,endCol:=vx.pos.endCol };holding [kv,vv] (dictSet D kv vv))
    again (.compLoop (.DictComp kx vx [⟨target,iter,ifs,0⟩] scope pos) 0 it (.ref D) env)):=by rfl
def QoL(Y:Cx)(elt elv:QU)(D:Addr):Act:=λQ s=>wpAny (model Y.prog Y.w) Y.A (eval elt Y.env) (λk s6=>wpAny (model Y.prog Y.w) Y.A (eval elv Y.env) (λv s7=>wpAny (model Y.prog Y.w) Y.A (dictSet D k v) (λ_ s8=>Q s8) (λ_ _=>False) s7) (λ_ _=>False) s6) (λ_ _=>False) s
def QyU(p:Addr)(te tv:TE):St->Hp->(Hp->Prop)->Prop:=λσ H k=>te σ H λx H5=>tv σ H5 λv H6=>∃kvs ky,x=kV ky/\H6 p=some (.dK kvs)/\kvs.length<sizeLine/\k (upd H6 p (.dK (QpB kvs ky v)))
theorem QoD{Y:Cx}{σ:St}{elt elv:QU}{te tv:TE}{D:Addr}(hx:Y.xe=λ_ _=>False)(he:PE Y elt te)(hv:PE Y elv tv):BodyOk Y σ (QoL Y elt elv D) (QyU D te tv σ):=by
 intro pins s H k Q I h hQ;have hx':∀(v:Value)(s':Shared),Y.xe v s'->False:=λv s' z=>by rw[hx] at z;exact z
 refine wpAny_mono (he pins s σ H _ I h) (λu s5 ⟨x,H5,I5,r5,q5⟩=>?_) hx';refine wpAny_mono (hv pins s5 σ H5 _ I5 q5) (λr s6 ⟨v,H6,I6,r6,kvs,ky,ex,eD,hl,q⟩=>?_) hx';subst ex;obtain⟨z,hd,vs,rel,dd⟩:=QA0 I6.hok eD;have hz:vs.length<=sizeLine:=by rw[<- rel.length];exact z
 have hl:(QpB kvs ky v).length<=sizeLine:=by have:=QjE kvs ky v;omega
 refine wpAny_dictSet_pairs (hsz:=hz) (QrA r5) dd λh' dd' hs=>hQ _ _ ?_ q
 have hq:∃q,h'.get? D=some q:=let ⟨q,_,_,hq,_⟩:=dd';⟨q,hq⟩
 exact Qvz I6 (by rw[eD];exact Qbo) hs hq (Qyv hl hd (rel.put ky r6) dd')
def tCompD(cap:List (Option Nat))(wi:TI)(g:TG)(tc:TT)(te tv:TE):TE:=λσ H Q=>wi σ H λJ H1=>∀p,H1 p=none->Qjb J (bOf (QdE cap σ) g tc (QyU p te tv)) (Q (.ref p)) (upd H1 p (.dK []))
theorem QlQ{Y:Cx}{σ:St}{tg:QU}{elt elv:QU}{gens:List Qdg}{scope:YC}{cpos:Pos}{d:Nat}{it D:Addr}{fp:List Addr}{tn:Nat->Heap->Prop}{J:It}{pins:List (Addr×Obj)}{s:Shared}{H:Hp}{body:V->Hp->(Hp->Prop)->Prop}{Qn:Hp->Prop}{R:Qtb->Shared->Prop}{act:Value->Act}
  (hc:Y.calm=true)(T:Turn Y.prog Y.w Y.K tg J fp it tn)(st:tn 0 s.heap)(hf:∀b∈fp,FpOk Y pins H b)
  (hturn:∀(Q:PySem.Fin->Shared->Prop)(E:Value->Shared->Prop)(s:Shared),wpAny (model Y.prog Y.w) Y.A (pyNext (.ref it)) (λr s1=>match r with
   |none=>Q (.done .next) s1
   |some v=>wpAny (model Y.prog Y.w) Y.A (letOwnedTupleGo tg (.ref it) v) (λ_ s2=>act v (λs3=>Q (.again (.compLoop (.DictComp elt elv gens scope cpos) d (.ref it) (.ref D) Y.env)) s3) s2) E s1) E s ->
   wpAny (model Y.prog Y.w) Y.A (compTurn (.DictComp elt elv gens scope cpos) d (.ref it) (.ref D) Y.env) Q E s)
  (hact:∀(x:V)(u:Value),RelV x u->BodyOk Y σ (act u) (body x))
  (I:Inv Y pins σ H s)(h:Qjb J body Qn H)(hR:∀s' H',Inv Y pins σ H' s'->Qn H'->R (.ok .next) s') :
  codeAny (model Y.prog Y.w) Y.A (.compLoop (.DictComp elt elv gens scope cpos) d (.ref it) (.ref D) Y.env) R s:=by
 obtain⟨W,⟨m0,w0⟩,turn⟩:=h;have stat:∀{H':Hp},(∀b∈fp,H' b=none)->∀b∈fp,FpOk Y pins H' b:=λhn b hb=>⟨hn b hb,(hf b hb).2⟩
 refine codeAny_loop rfl (λn s'=>∃i H',Inv Y pins σ H' s'/\tn i s'.heap/\(∀b∈fp,H' b=none)/\W i n H') (λn s3 hI=>?_) m0 ⟨0,H,I,st,λb hb=>(hf b hb).1,w0⟩;show wpAny _ Y.A ((compTurn (.DictComp elt elv gens scope cpos) d (.ref it) (.ref D) Y.env).onRaise (λx=>do noteFrame x Y.env;theTreesLotGoes x)) _ _ s3;refine wpAny_noted (hturn _ _ _ ?_);obtain⟨i,H3,I3,st3,fr3,w3⟩:=hI;rcases turn i n H3 w3 with⟨stop,qn⟩ | ⟨go,step⟩
 ·refine thn (T.done Y rfl rfl rfl hc i pins s3 σ H3 _ I3 (stat fr3) st3 stop) λr s4 ⟨hr,I4⟩=>?_
  subst hr;exact hR s4 H3 I4 qn
 ·refine thn (T.item Y rfl rfl rfl hc i pins s3 σ H3 _ I3 (stat fr3) st3 go) λr s4 ⟨u,hr,h4⟩=>?_
  subst hr;refine thn h4 λ_ s5 ⟨x,H5,I5,r5,y5,st5,fr5⟩=>?_
  have I5':=I5.pinned (stat fr5) (T.obj _ _ st5);refine hact x u r5 _ s5 H5 _ _ I5' (step x H5 y5) λs7 H7 I7 ⟨m',hm,w7⟩=>?_
  refine⟨rfl,m',hm,i+1,H7,I7.unpinned,T.keep _ _ _ st5 λb hb o e=>(I7.pin (b,o) (QR _ (QR _ (QaZ hb e)))).1,λb hb=>?_,w7⟩;obtain⟨o,e,dd⟩:=T.obj _ _ st5 b hb;exact(I7.pin (b,o) (QR _ (QR _ (QaZ hb e)))).2.1
theorem Qn9{Y:Cx}{elt elv tg iter:QU}{ifs:List QU}{scope:YC}{cpos:Pos}{it D:Addr}(Q:PySem.Fin->Shared->Prop)(E:Value->Shared->Prop)(s:Shared)
  (h:wpAny (model Y.prog Y.w) Y.A (pyNext (.ref it)) (λr s1=>match r with
   |none=>Q (.done .next) s1
   |some v=>wpAny (model Y.prog Y.w) Y.A (letOwnedTupleGo tg (.ref it) v) (λ_ s2=>QoJ Y tg ifs (QoL Y elt elv D) v (λs3=>Q (.again (.compLoop (.DictComp elt elv [⟨tg,iter,ifs,0⟩] scope cpos) 0 (.ref it) (.ref D) Y.env)) s3) s2) E s1) E s) :
  wpAny (model Y.prog Y.w) Y.A (compTurn (.DictComp elt elv [⟨tg,iter,ifs,0⟩] scope cpos) 0 (.ref it) (.ref D) Y.env) Q E s:=by
 rw[QfK];refine wpAny_bind (wpAny_standAt (wpAny_bind (thn h λr s1 h1=>?_)));cases r with
 |none=>exact Qb h1
 |some v=>
  refine wpAny_bind (thn h1 λ_ s2 h2=>?_);refine wpAny_bind (wpAny_mono h2 (λ_ s4 h4=>wpAny_bind (wpAny_mono h4 (λok s5 h5=>?_) λ_ _ f=>f.elim)) λ_ _ f=>f.elim);cases ok with
  |false=>exact Qb h5
  |true=>exact wpAny_bind (wpAny_bind (wpAny_mono h5 (λx s6 h6=>wpAny_bind (J6 (wpAny_mono h6 (λy s7 h7=>wpAny_bind (wpAny_standAt (J6 (wpAny_mono h7 (λ_ s8 h8=>Qb h8) λ_ _ f=>f.elim)))) λ_ _ f=>f.elim))) λ_ _ f=>f.elim))
theorem QpK{X:Cx}{M:List Str}{cap:List (Option Nat)}{elt elv tg iter:QU}{ifs:List QU}{scope:YC}{pos:Pos}{wi:TI}{g:TG}{tc:TT}{te tv:TE}(hc:X.calm=true)(ok:QcO X.N X.env.scope M scope cap=true)
  (hi:PI X tg iter wi)(hb:∀cl ex s3 H3 C,PG (blk X M scope cl ex s3 H3 C) tg g/\PTs (blk X M scope cl ex s3 H3 C) ifs tc/\PE (blk X M scope cl ex s3 H3 C) elt te/\PE (blk X M scope cl ex s3 H3 C) elv tv)
  (hs:∀x,foldedSetIterable iter X.env x=pure x:=by intro _;rfl):PE X (.DictComp elt elv [⟨tg,iter,ifs,0⟩] scope pos) (tCompD cap wi g tc te tv):=by
 intro pins s σ H Q I h;have c:=CapOk.of ok;show wpAny _ X.A (comprehension (.DictComp elt elv [⟨tg,iter,ifs,0⟩] scope pos) scope X.env _ newDict false (eval iter X.env)) _ _ s;refine Yz (use:=none) rfl hs (Qfo (I.ok.cells c)) c.kind c.loc ?_
 refine thn (hi pins s σ H _ I h) λv s1 h1=>thn h1 λitv s2 h2=>?_
 obtain⟨it,fp,tn,J,H2,e,I2,T,st2,f2,hW⟩:=h2;subst e;refine Jy (Qau c.cell (by intro y hy;simp at hy) (λh₁ hns₁ hsb₁=>?_) c.kind);have I3:Inv X pins σ (upd H2 s2.heap.objs.size (.dK [])) { s2 with heap:=s2.heap.push { cls:=.type "dict",data:=.dict #[] } }:=I2.laid (t':=s2.toks) (λb x e=>Qe _ e) (Qh _) (QrP s2.heap I2.big);have lt2:∀b∈fp,b<s2.heap.objs.size:=λb hb=>by obtain⟨o,e,_⟩:=T.obj _ _ st2 b hb;exact Qm e
 have f3:∀b∈fp,FpOk X pins (upd H2 s2.heap.objs.size (.dK [])) b:=λb hb=>(f2 b hb).upd (Qz (lt2 b hb))
 generalize hs3:({ s2 with heap:=s2.heap.push { cls:=.type "dict",data:=.dict #[] } }:Shared)=s3 at I3;have e3:s3.heap=s2.heap.push { cls:=.type "dict",data:=.dict #[] }:=by rw[<- hs3]
 have z3:s3.heap.objs.size=s2.heap.objs.size+1:=by rw[e3,Zf]
 have hk:∀b o,s3.heap.get? b=some o->h₁.get? b=some o:=λb o e=>hsb₁.extBut b o (by
  have:=Qm e;rw[e3] at this;exact Qz this) (Qe _ (e3 ▸ e))
 have hn₁:h₁.Ns s3.heap.objs.size λ_=>none:=by rw[e3];exact hns₁
 have B:=Qcm (t4:=s3.toks+([]:List (Str×Value)).length) (fp:=fp) I3 c f3 (λb hb=>by rw[z3];exact ZF (lt2 b hb)) hn₁ hk;have st4:tn 0 h₁:=T.keep _ _ _ st2 λb hb o e=>hk b o (by rw[e3];exact Qe _ e)
 have fp4:∀b∈fp,FpOk (blk X M scope (Qbz X.env scope.names []) fp s3 (upd H2 s2.heap.objs.size (.dK [])) s3.heap.objs.size) [] (upd H2 s2.heap.objs.size (.dK [])) b:=λb hb=>by
  refine⟨(f3 b hb).1,(B.ok.exf b hb).1,B.ok.exfs b hb,.inl hb,(B.ok.exf b hb).2,λp hp=>(nomatch hp)⟩
 obtain⟨hg,ht,he,hv⟩:=hb (Qbz X.env scope.names []) fp s3 (upd H2 s2.heap.objs.size (.dK [])) s3.heap.objs.size;have loop:codeAny (model X.prog X.w) X.A (.compLoop (.DictComp elt elv [⟨tg,iter,ifs,0⟩] scope pos) 0 (.ref it) (.ref s2.heap.objs.size) (compEnvC scope (Qbz X.env scope.names []) s3.heap.objs.size X.env))
   (compPost (model X.prog X.w) X.A X.xe none (EP X pins σ Q) (.ref s2.heap.objs.size) s3.heap.objs.size) { s3 with heap:=h₁,toks:=s3.toks+([]:List (Str×Value)).length }:=by
  refine QlQ (Y:=blk X M scope (Qbz X.env scope.names []) fp s3 (upd H2 s2.heap.objs.size (.dK [])) s3.heap.objs.size) (gens:=[⟨tg,iter,ifs,0⟩]) (d:=0) hc T st4 fp4
   (λQ E s h=>Qn9 Q E s h) (λx u r=>Qd5 rfl hg ht (λσ4=>QoD rfl he hv) x u r) B (hW _ (I2.hok.fresh (Qh _))) λs' H' I' q=>?_
  obtain⟨m,hn,_⟩:=I'.loc;exact⟨m,hn,λh' hs'=>⟨.ref s2.heap.objs.size,H',Qhv I3 f3 I' hs',rfl,q⟩⟩
 exact codeAny_compStart_dict loop (T.self _ 0 _ _ _ st4 loop)
end L2
namespace Dl
open L2 _root_.Rd Rk
theorem QgH(i:Int):∀kvs:List (Int×Int),QgI (dkV kvs) (.inl i)=((kvs.find? λp=>decide (p.1=i)).map λp=>V.int p.2)
 |[]=>rfl
 |p::kvs=>by
  have ih:=QgH i kvs;by_cases z:p.1=i
  ·rw[show QgI (dkV (p::kvs)) (.inl i)=some (V.int p.2) from QeD (p:=(Qb3 p.1,V.int p.2)) (by rw[z])];simp[Yq,z]
  ·rw[show QgI (dkV (p::kvs)) (.inl i)=QgI (dkV kvs) (.inl i) from QeE (p:=(Qb3 p.1,V.int p.2)) (λe=>z (Qle e)),ih];simp[Yq,z]
theorem Qvu{kvs:List (Int×Int)}{a b:Int}(h:∀p∈kvs,p.1≠a):QpB (dkV kvs) (.inl a) (.int b)=dkV (kvs++[(a,b)]):=by
 rw[QpA,dkV,dkV,Jr]
 ·rfl
 ·rw[QgH,Qez.mpr λp hp=>by simpa using h p hp];rfl
@[irreducible] def Qk7(items:List Qa)(wg:DG)(wt:DT)(wk wv:DE)(δ:Sts)(Q:Qa->Prop):Prop:=∃Iv:Nat->List (Int×Int)->Prop,Iv 0 [] /\
 (∀(i:Nat) acc d,items[i]? = some d->Iv i acc->wg d δ λδ4=>wt δ4 (λb=>if b=true then wk δ4 (λk=>∃a,k=.int a/\wv δ4 (λv=>∃b,v=.int b/\acc.length<1000000/\(∀p∈acc,p.1≠a)/\Iv (i+1) (acc++[(a,b)])) XF) XF else Iv (i+1) acc) XF)/\∀acc,Iv items.length acc->Q (.dict (dkD acc))
def dCompD(cap:List (Option Nat))(wi:DI)(wg:DG)(wt:DT)(wk wv:DE):DE:=λδ Q EX=>wi δ (λitems=>Qk7 items wg wt wk wv (Qew cap δ) Q) EX
theorem QlP{K:PySem.W.Frag}{E:XK}{cap:List (Option Nat)}{ix:List Nat}{wi:DI}{wg:DG}{wt:DT}{wk wv:DE}(hf:QaU cap ix=true)(σ:L2.St)(H:Hp)(Q:VK)(h:tX .D K E (dCompD cap wi wg wt wk wv) σ H Q) :
  tCompD cap (tI .P K E wi) (tG ix K wg) (tT K E0 wt) (tX .D K E0 wk) (tX .D K E0 wv) σ H Q:=by
 obtain⟨F,δ,R,EX,rel,hw,k,o⟩:=h;refine⟨F,δ,_,EX,rel,hw,λitems hC J H1 rel1 kp1 ⟨ln,it⟩ p hp=>?_,o⟩;unfold Qk7 at hC;obtain⟨Iv,i0,step,fin⟩:=hC;have hpn:¬Yh σ δ p:=λz=>by obtain⟨xs,e⟩:=rel1.isl (Y7 (F:=F) z);rw[hp] at e;cases e
 have hpa:¬Av F σ δ p:=λz=>by obtain⟨xs,e⟩:=rel1.isl z;rw[hp] at e;cases e
 refine Qc3 items.length (λi H2=>i<=items.length/\∃acc,Iv i acc/\Kp σ δ H1 H2/\H2 p=some (.dK (dkV acc))) ⟨Qs _,[],i0,Kp.same rel1 (JL hp),JQ⟩ (λi H2 hi ⟨_,acc,iv,k2,e2⟩=>?_) λH2 ⟨_,acc,iv,k2,e2⟩=>?_
 ·obtain⟨go,_⟩:=it H2 (Av F σ δ) (λb o n e=>k2.1 b o n e) (λa z=>.inl z) (λa z=>(rel1.kp k2).isl z);have hd:items[i]? = some items[i]:=Qo hi;obtain⟨g1,g2⟩:=go i _ hd;refine⟨g1,λx H3 y kk hk=>?_⟩;obtain⟨s3,dx⟩:=g2 x H3 y;have k3:Kp σ δ H1 H3:=k2.trans (Kp.same (rel1.kp k2) s3);have e3:=s3 _ _ e2;refine Qi8 (A1:=Av F σ δ) hf rel1 (λa z=>z) (λa z=>.inl z) (λa z=>(rel1.kp k3).isl z) k3 dx (step i acc _ hd iv) (λσ4 δ4 H5 h5 r5 k5 pots=>?_) λh5 H5 k5=>hk _ ⟨hi,acc,h5,k3.trans k5,k5.1 _ _ hpn e3⟩
  have lift:∀{Ha Hb:Hp},Kp σ δ H1 Ha->Kp σ4 δ4 Ha Hb->Kp σ δ Ha Hb:=λ{Ha Hb} ka kb=>by
   refine⟨λb o n e=>kb.1 b o (λz=>n (pots b z)) e,λb hb=>?_⟩;by_cases z:Yh σ4 δ4 b
   ·exact kb.2 b z
   ·obtain⟨n,e⟩:=ka.2 b hb;exact⟨n,kb.1 _ _ z e⟩
  have k15:=k3.trans k5;refine⟨inF (Av F σ δ) cap σ δ H3,δ4,_,XF,r5,h5,λd he v H6 r6 kp6 dv=>?_,Ql4⟩;obtain⟨a,rfl,h6⟩:=he;cases(show DA _ H6 v (.int a) from dv);have k56:=lift k15 kp6;refine⟨inF (Av F σ δ) cap σ δ H3,δ4,_,XF,r6,h6,λd he v H7 r7 kp7 dv=>?_,Ql4⟩;obtain⟨b,rfl,hl,ne,h7⟩:=he;cases(show DA _ H7 v (.int b) from dv);have k67:=lift (k15.trans k56) kp7;have e7:H7 p=some (.dK (dkV acc)):=k67.1 _ _ hpn (k56.1 _ _ hpn (k5.1 _ _ hpn e3));have k17:Kp σ δ H1 H7:=(k15.trans k56).trans k67;refine⟨dkV acc,.inl a,rfl,e7,QM (by rw[dkV,Qf];exact hl) Qij,hk _ ⟨hi,acc++[(a,b)],h7,⟨λc o n e=>?_,λc hc=>?_⟩,by rw[Qvu ne];exact JQ⟩⟩
  ·rw[Zu (λz=>by rw[z,hp] at e;cases e)];exact k17.1 c o n e
  ·rw[Zu (λz=>hpn (by rw[<- z];exact hc))];exact k17.2 c hc
 ·obtain⟨_,st⟩:=it H2 (Av F σ δ) (λb o n e=>k2.1 b o n e) (λa z=>.inl z) (λa z=>(rel1.kp k2).isl z);exact⟨st,k _ (fin acc iv) (.ref p) H2 (rel1.kp k2) (kp1.trans k2) (.dct hpa e2 rfl)⟩
theorem Qz2{n:Nat}(h:n+60<cLine):n+1<cLine:=by omega
theorem Qz1{n:Nat}(h:n+60<cLine):n+2<cLine:=by omega
section
variable{X:Cx}{E:XK}
theorem QtY(M:List Str)(cap:List (Option Nat)){elt elv tg iter:QU}{ifs:List QU}{scope:YC}{pos:Pos}{ix:List Nat}{wi:DI}{wg:DG}{wt:DT}{wk wv:DE}(hi:QI .P X E tg iter wi)(hb:∀cl ex s3 H3 C,QG ix (blk X M scope cl ex s3 H3 C) tg wg/\QTs (blk X M scope cl ex s3 H3 C) E0 ifs wt/\QE .D (blk X M scope cl ex s3 H3 C) E0 elt wk/\QE .D (blk X M scope cl ex s3 H3 C) E0 elv wv)(hc:X.calm=true:=by rfl)(ok:QcO X.N X.env.scope M scope cap=true:=by rfl)(hf:QaU cap ix=true:=by rfl)(hs:∀x,foldedSetIterable iter X.env x=pure x:=by intro _;rfl):QE .D X E (.DictComp elt elv [⟨tg,iter,ifs,0⟩] scope pos) (dCompD cap wi wg wt wk wv):=
 ⟨PE.imp (QpK hc ok hi.h (λcl ex s3 H3 C=>⟨(hb cl ex s3 H3 C).1.h,(hb cl ex s3 H3 C).2.1.h,(hb cl ex s3 H3 C).2.2.1.h,(hb cl ex s3 H3 C).2.2.2.h⟩) hs) λσ H Q q=>QlP (E:=E) hf σ H Q q⟩
def QBo:R2:=λx y H Q=>∃a i kvs,x=.int i/\y=.ref a/\H a=some (.dK kvs)/\Q (.bl (QgI kvs (.inl i)).isSome) H
theorem QxL(hu:X.A.units+1<cLine):OpR X (compareOp .In) QBo:=by
 intro pins s σ H x y v u Q I rx ry h;obtain⟨a,i,kvs,rfl,rfl,e,q⟩:=h;cases ry;exact QCj hu I (DGet.k (k:=.inl i) e) rx λs' I'=>⟨.bl (QgI kvs (.inl i)).isSome,H,I',rfl,q⟩
def QCf:Qa->Qa->(Qa->Prop)->Prop
 |.int i,.dict ds,Q=>∃kvs,ds=dkD kvs/\Q (.bool (kvs.find? λp=>decide (p.1=i)).isSome)
 |_,_,_=>False
theorem Qoc:∀{a b:List (Int×Int)},dkD a=dkD b->a=b
 |[],[],_=>rfl
 |[],_::_,h=>by cases h
 |_::_,[],h=>by cases h
 |p::a,q::b,h=>by
  have h:=Qo3 (show(Qi p.1,Qi p.2)::dkD a=(Qi q.1,Qi q.2)::dkD b from h);have h1:=Qwe h.1;rw[Qoc h.2,QoZ (Qmb h1.1) (Qmb h1.2)]
theorem DP.dict{A P:Addr->Prop}{H:Hp}{v:V}{kvs:List (Int×Int)}(h:DP A P H v (.dict (dkD kvs))):∃l,v=.ref l/\H l=some (.dK (dkV kvs)):=by
 rcases h with h | ⟨l,xs,ds',rfl,e,_⟩
 ·cases h with
  |dct n e q=>rw[Qoc q];exact⟨_,rfl,e⟩
 ·cases e
theorem Qx3:OpD QBo QCf:=λA P H x y d1 d2 R Q ln dm hx hy h k=>by
 cases d1<;>cases d2<;>first | exact h.elim | skip
 obtain⟨kvs,rfl,hR⟩:=h;rw[hx.int];obtain⟨l,rfl,e⟩:=hy.dict;refine⟨l,_,_,rfl,rfl,e,k _ hR _ H (Same.refl H) ?_ QaN⟩;rw[QgH,QoR];exact .bl _
def QBm:R2:=λx y H Q=>∃a i kvs v,x=.ref a/\y=.int i/\H a=some (.dK kvs)/\QgI kvs (.inl i)=some v/\Q v H
theorem QAK(hu:X.A.units+2<cLine):IxR X QBm:=by
 intro value slice pins s σ H x y v u Q I rx ry h hs;obtain⟨a,i,kvs,z,rfl,rfl,e,hv,q⟩:=h;cases rx;have g:DGet H a (.int i) (some z):=by rw[<- hv];exact DGet.k (k:=.inl i) e
 have hT:=QjL I g;have h₂:wpAny (model X.prog X.w) X.A (getItem (.ref a) u) (EP X pins σ Q) X.xe s:=Qoi (by omega) I g ry λw' s3 I3 rw'=>⟨z,H,I3,rw',q⟩
 unfold subscriptTail;refine wpAny_bind ?_
 rw[getitemInPython_of_ne hT.not_modules];refine wpAny_bind (Ya hT PySem.F.slot_dict_getitem.lookup ?_);have fin:wpAny (model X.prog X.w) X.A (subscripted slice false (.ref a) u) (λr s₃=>wpAny (model X.prog X.w) X.A (letTemporaryGo value (.ref a) r >>= λ_=>pure r) (EP X pins σ Q) X.xe s₃) X.xe s:=by
  rw[hs];exact wpAny_operating (wpAny_mono h₂ (λr s₃ h₃=>wpAny_bind (wpAny_letTemporaryGo (Qb h₃))) λ_ _ x=>x)
 first
  |exact Qb (wpAny_bind fin)
  |exact wpAny_bind (Qb (wpAny_bind fin))
  |exact wpAny_bind fin
def ixKD:Qa->Qa->(Qa->Prop)->Prop
 |.dict ds,.int i,Q=>∃kvs b,ds=dkD kvs/\((kvs.find? λp=>decide (p.1=i)).map (·.2))=some b/\Q (.int b)
 |_,_,_=>False
theorem Qx2:Qs4 QBm ixKD:=λA P H x y d1 d2 R Q ln dm hx hy h k=>by
 cases d1<;>cases d2<;>first | exact h.elim | skip
 obtain⟨kvs,b,rfl,hf,hR⟩:=h;rw[hy.int];obtain⟨l,rfl,e⟩:=hx.dict;refine⟨l,_,_,.int b,rfl,rfl,e,?_,k _ hR _ H (Same.refl H) (.int _)⟩;rw[QgH];obtain⟨p,hp,hb⟩:=Zy.mp hf;rw[hp,<- hb];rfl
end
end Dl
namespace Rk
open L2 _root_.Rd Dl Rt
def oth(n:Nat)(o:List Nat):List Nat:=(Qq n).filter λx => !decide (x∈o)
end Rk
namespace HT
section
open PySem.SeqAt
open PySem.AutoSeq1 (wpAny_loadPart')
open PySem.MeetsSeq PySem.MeetsSeq2 PySem.MeetsSeq3
end
section
variable{prog:QC}{w:Q9}{A:Q5}{E:Value->Shared->Prop}{s:Shared}
end
end HT
namespace L2
end L2
namespace Rk
open L2 _root_.Rd Dl Rt
end Rk
namespace Dl
open L2 _root_.Rd Rk Rt
end Dl
namespace Rk
open L2 _root_.Rd Dl Rt
end Rk
namespace Zt
def f5(M x:Nat):Nat:=(x*5+1) % M
def it5(M:Nat):Nat->Nat->Nat
 |0,x=>x
 |n+1,x=>it5 M n (f5 M x)
theorem Qhb(M:Nat):∀(m n x:Nat),it5 M (m+n) x=it5 M n (it5 M m x)
 |0,n,x=>by rw[J7];rfl
 |m+1,n,x=>by rw[Qmc];exact Qhb M m n (f5 M x)
def QyM(M:Nat):Nat->Nat->Nat->Nat
 |0,_,acc=>acc
 |n+1,x,acc=>QyM M n (f5 M x) (acc ||| 2^x)
theorem Qk1(M j:Nat):∀(n x acc:Nat),(QyM M n x acc).testBit j=true->acc.testBit j=true∨∃b,b<n/\it5 M b x=j
 |0,_,_,h=>.inl h
 |n+1,x,acc,h=>by
  rcases Qk1 M j n (f5 M x) (acc ||| 2^x) h with z | ⟨b,hb,e⟩
  ·rw[Nat.testBit_or,QaF,Nat.testBit_two_pow] at z;rcases z with z | z
   ·exact .inl z
   ·exact .inr ⟨0,by omega,by show x=j;simpa using z⟩
  ·exact .inr ⟨b+1,by omega,e⟩
def Qcf(M:Nat):Bool:=decide (QyM M M 0 0=2^M - 1)&&decide (it5 M M 0=0)
theorem QsQ:Qcf 8=true:=by decide +kernel
theorem Qvk:Qcf 32=true:=by decide +kernel
theorem QrG:Qcf 128=true:=by decide +kernel
theorem QrF:Qcf 512=true:=by decide +kernel
theorem QnY:Qcf 2048=true:=by decide +kernel
theorem QrE{M:Nat}(h:Qcf M=true){i j:Nat}(hi:i<M)(hj:j<M):∃n,n<M/\it5 M n i=j:=by
 have h:=Qp.mp h;have h1:QyM M M 0 0=2^M - 1:=of_decide_eq_true h.1;have h2:it5 M M 0=0:=of_decide_eq_true h.2;have all:∀k,k<M->∃b,b<M/\it5 M b 0=k:=λk hk=>by
  have:(QyM M M 0 0).testBit k=true:=by rw[h1,Nat.testBit_two_pow_sub_one];exact decide_eq_true hk
  rcases Qk1 M k M 0 0 this with z | z
  ·simp at z
  ·exact z
 obtain⟨a,ha,rfl⟩:=all i hi;obtain⟨b,hb,rfl⟩:=all j hj;by_cases z:a<=b
 ·exact⟨b - a,by omega,by rw[<- Qhb,show a+(b - a)=b by omega]⟩
 ·refine⟨M - a+b,by omega,?_⟩;rw[<- Qhb,show a+(M - a+b)=M+b by omega,Qhb,h2]
def Qc4(mask:Nat):Nat->Nat×Nat->Nat×Nat
 |0,p=>p
 |n+1,p=>Qc4 mask n (Ym mask p.1 p.2)
theorem Qim(mask:Nat):∀(m n:Nat)(p:Nat×Nat),Qc4 mask (m+n) p=Qc4 mask n (Qc4 mask m p)
 |0,n,p=>by rw[J7];rfl
 |m+1,n,p=>by rw[Qmc];exact Qim mask m n _
theorem Qik(mask:Nat):∀(n:Nat)(p:Nat×Nat),(Qc4 mask n p).2=p.2 / 32^n
 |0,p=>by show p.2=p.2 / 1;omega
 |n+1,p=>by
  show(Qc4 mask n (Ym mask p.1 p.2)).2=_;rw[Qik mask n];show p.2 / 32 / 32^n=_;rw[Nat.div_div_eq_div_mul,Nat.pow_succ,Nat.mul_comm]
theorem Qil(mask:Nat):∀(n i:Nat),Qc4 mask n (i,0)=(it5 (mask+1) n i,0)
 |0,i=>rfl
 |n+1,i=>by
  show Qc4 mask n (Ym mask i 0)=_;have:Ym mask i 0=(f5 (mask+1) i,0):=by
   show((i*5+1+0 / 32) % (mask+1),0 / 32)=_;simp[f5]
  rw[this,Qil mask n];rfl
theorem QkM{mask:Nat}:∀(n:Nat)(p:Nat×Nat),p.1<mask+1->(Qc4 mask n p).1<mask+1
 |0,_,h=>h
 |n+1,p,_=>QkM n _ (Qdz _ (QbU _))
theorem Qgf{mask:Nat}(hg:Qcf (mask+1)=true){i perturb j:Nat}(hi:i<mask+1)(hp:perturb<2^64)(hj:j<mask+1):∃n,n<mask+14/\(Qc4 mask n (i,perturb)).1=j:=by
 have h13:=Qik mask 13 (i,perturb);have:perturb / 32^13=0:=Nat.div_eq_of_lt (QM hp (by decide));rw[show(i,perturb).2=perturb from rfl,this] at h13;have hl:=QkM 13 (i,perturb) hi;obtain⟨n,hn,e⟩:=QrE hg hl hj;refine⟨13+n,by omega,?_⟩;rw[Qim,show Qc4 mask 13 (i,perturb)=((Qc4 mask 13 (i,perturb)).1,0) from QoZ rfl h13,Qil];exact e
def stps(t:SetTable):Nat->Zc->Zc
 |0,p=>p
 |n+1,p=>stps t n (t.advance p)
theorem Qac(t:SetTable):∀(m n:Nat)(p:Zc),stps t (m+n) p=stps t n (stps t m p)
 |0,n,p=>by rw[J7];rfl
 |m+1,n,p=>by rw[Qmc];exact Qac t m n _
def Qpr(t:SetTable)(i perturb:Nat)(d:Option Nat):Zc:={ j:=i,more:=Jn t.mask i - i,i:=i,perturb:=perturb,dummy:=d }
theorem QhT(t:SetTable):∀(m j i perturb:Nat)(d:Option Nat),stps t m { j:=j,more:=m,i:=i,perturb:=perturb,dummy:=d }={ j:=j+m,more:=0,i:=i,perturb:=perturb,dummy:=d }
 |0,_,_,_,_=>rfl
 |m+1,j,i,perturb,d=>by
  show stps t m (t.advance _)=_;have:t.advance { j:=j,more:=m+1,i:=i,perturb:=perturb,dummy:=d }={ j:=j+1,more:=m,i:=i,perturb:=perturb,dummy:=d }:=by
   unfold Qae;rw[if_pos (by show m+1 > 0;omega)];rfl
  rw[this,QhT t m,show j+1+m=j+(m+1) by omega]
theorem QwM(mask i:Nat):Jn mask i - i<=9:=by unfold Jn;split<;>omega
theorem QgN(t:SetTable)(i perturb:Nat)(d:Option Nat):stps t (Jn t.mask i - i+1) (Qpr t i perturb d)=Qpr t (Ym t.mask i perturb).1 (Ym t.mask i perturb).2 d:=by
 rw[Qac];unfold Qpr;rw[QhT];simp only[stps];unfold Qae;rw[if_neg (by show ¬(0:Nat) > 0;omega)]
theorem QfR(t:SetTable)(d:Option Nat):∀(n i perturb:Nat),∃m,m<=10*n/\stps t m (Qpr t i perturb d)=Qpr t (Qc4 t.mask n (i,perturb)).1 (Qc4 t.mask n (i,perturb)).2 d
 |0,i,perturb=>⟨0,by omega,rfl⟩
 |n+1,i,perturb=>by
  obtain⟨m,hm,e⟩:=QfR t d n (Ym t.mask i perturb).1 (Ym t.mask i perturb).2;have:=QwM t.mask i;refine⟨Jn t.mask i - i+1+m,by omega,?_⟩;rw[Qac,QgN,e];rfl
theorem QiF(h:Int):Je h<2^64:=by
 unfold Je;have:=Int.emod_lt_of_pos h (show(0:Int)<2^64 by decide);have:=Int.emod_nonneg h (show(2^64:Int)≠0 by decide);omega
theorem Qlp(t:SetTable)(hg:Qcf (t.mask+1)=true)(h:Int){j:Nat}(hj:j<t.mask+1):∃m,m<10*JA t.mask/\(stps t m (t.probeStart h)).j=j:=by
 obtain⟨n,hn,e⟩:=Qgf (mask:=t.mask) hg (i:=Je h % (t.mask+1)) (Qdz _ (QbU _)) (QiF h) hj;obtain⟨m,hm,e2⟩:=QfR t none n (Je h % (t.mask+1)) (Je h);refine⟨m,by unfold JA;omega,?_⟩;have:t.probeStart h=Qpr t (Je h % (t.mask+1)) (Je h) none:=rfl;rw[this,e2];exact e
theorem Qkc:∀{P Q:List Nat},P.Nodup->(∀p∈P,p∈Q)->P.length<=Q.length
 |[],_,_,_=>Qs _
 |p::P,Q,nd,h=>by
  have nd:=Y1.mp nd;have hp:=h p (.head _);have:=Qkc (P:=P) (Q:=Q.erase p) nd.2 λx hx=>(List.mem_erase_of_ne (show x≠p from λe=>nd.1 (e ▸ hx))).mpr (h x (.tail _ hx))
  rw[List.length_erase_of_mem hp] at this;have:=List.length_pos_of_mem hp;rw[Qx];omega
theorem Qr5{xs:Array Nat}{j:Nat}(pw:xs.toList.Pairwise (· < ·)):∀(fuel lo hi:Nat),hi - lo<=fuel->lo<=hi->hi<=xs.size->(∀k (hk:k<xs.size),k<lo->xs[k]<j)->(∀k (hk:k<xs.size),hi<=k->j<=xs[k]) ->
  Qa9 xs j fuel lo hi<=xs.size/\(∀k (hk:k<xs.size),k<Qa9 xs j fuel lo hi->xs[k]<j)/\∀k (hk:k<xs.size),Qa9 xs j fuel lo hi<=k->j<=xs[k]:=by
 have mono:∀a b (ha:a<xs.size) (hb:b<xs.size),a<=b->xs[a]<=xs[b]:=λa b ha hb h=>by
  by_cases e:a=b
  ·subst e;exact Qh _
  ·have:=Jo.mp pw a b (by simpa using ha) (by simpa using hb) (by omega);simp only[Zb] at this;omega
 intro fuel;induction fuel with
 |zero=>
  intro lo hi h1 h2 h3 h4 h5;have:lo=hi:=by omega
  subst this;exact⟨h3,h4,h5⟩
 |succ fuel ih=>
  intro lo hi h1 h2 h3 h4 h5;unfold Qa9;by_cases z:lo<hi
  ·rw[if_pos z]
   dsimp only
   have hm:(lo+hi) / 2<xs.size:=by omega
   have eg:xs.getD ((lo+hi) / 2) j=xs[(lo+hi) / 2]:=by simp[Zk,hm]
   rw[eg];by_cases y:xs[(lo+hi) / 2]<j
   ·rw[if_pos y];refine ih _ _ (by omega) (by omega) h3 (λk hk hlt=>?_) h5;have:=mono k ((lo+hi) / 2) hk hm (by omega);omega
   ·rw[if_neg y];refine ih _ _ (by omega) (by omega) (by omega) h4 λk hk hle=>?_
    have:=mono ((lo+hi) / 2) k hm hk hle;omega
  ·rw[if_neg z];have:lo=hi:=by omega
   subst this;exact⟨h3,h4,h5⟩
theorem QcF{xs:Array Nat}(pw:xs.toList.Pairwise (· < ·))(j:Nat):JM xs j<=xs.size/\(∀k (hk:k<xs.size),k<JM xs j->xs[k]<j)/\∀k (hk:k<xs.size),JM xs j<=k->j<=xs[k]:=
 Qr5 pw _ 0 xs.size (by omega) (Qs _) (Qh _) (λk hk h=>by omega) λk hk h=>by omega
structure Tab (t:SetTable):Prop where
 pw:t.place.toList.Pairwise (· < ·)
 le:∀x∈t.place.toList,x<=t.mask
 dm:t.dummies=#[]
 gd:Qcf (t.mask+1)=true
 pl:t.plain=true
 od:t.mask % 2=1
theorem Tab.slot_no{t:SetTable}(x:Tab t){j:Nat}(h:j∉t.place.toList):t.slot j=.empty:=by
 unfold Qdy
 dsimp only
 rw[if_neg,x.dm]
 ·rfl
 ·intro z;have z:=eq_of_beq z;exact h (ZU.mpr (YY z))
theorem Tab.slot_dm{t:SetTable}(x:Tab t)(j:Nat):t.slot j≠.dummy:=by
 unfold Qdy
 dsimp only
 split
 ·exact λe=>by cases e
 ·rw[x.dm,if_neg (by simp[QiO])];exact λe=>by cases e
theorem Tab.slot_e{t:SetTable}(x:Tab t){j:Nat}(h:t.slot j=.empty):j∉t.place.toList:=λhj=>by
 obtain⟨i,hi,e⟩:=QdB.mp hj;have hi':i<t.place.size:=by simpa using hi
 have e':t.place[i]=j:=by simpa using e
 obtain⟨b1,b2,b3⟩:=QcF x.pw j;have hb:JM t.place j=i:=by
  rcases Qaf (JM t.place j) i with z | z | z
  ·have hb':JM t.place j<t.place.size:=by omega
   have h1:=b3 _ hb' (Qh _);have:=Jo.mp x.pw (JM t.place j) i (by simpa using hb') hi z;simp only[Zb] at this;omega
  ·exact z
  ·have:=b2 i hi' z;omega
 unfold Qdy at h
 dsimp only at h
 rw[hb,if_pos (by simp[hi',e'])] at h;cases h
theorem Tab.room{t:SetTable}(x:Tab t)(hs:t.place.size<=t.mask):∃j,j<t.mask+1/\j∉t.place.toList:=by
 apply Za
 intro hn;have:∀p∈Qq (t.mask+1),p∈t.place.toList:=λp hp=>by
  apply Za
  intro h;exact hn ⟨p,Jp.mp hp,h⟩
 have:=Qkc Qtf this;rw[QV,Qd] at this;omega
theorem QiK(t:SetTable)(p:Zc):(t.advance p).dummy=p.dummy:=by
 unfold Qae;split<;>rfl
theorem Tab.put{t:SetTable}(x:Tab t){j:Nat}(hj:j∉t.place.toList)(hm:j<=t.mask):Tab (t.put j).1/\(t.put j).1.place.toList=t.place.toList.take (t.put j).2++j::t.place.toList.drop (t.put j).2/\(t.put j).1.mask=t.mask/\(t.put j).1.led=t.led/\(t.put j).1.moves=t.moves/\(t.put j).1.dummies=#[]:=by
 obtain⟨b1,b2,b3⟩:=QcF x.pw j;have hp:(t.put j).2=JM t.place j:=rfl;have hl:(t.put j).1.place.toList=t.place.toList.take (t.put j).2++j::t.place.toList.drop (t.put j).2:=Qgv _ _ _;have hd:(t.put j).1.dummies=#[]:=by
  show(if QiO t.dummies j=true then _ else t.dummies)=#[];rw[x.dm,if_neg (by simp[QiO])]
 have lo:∀a∈t.place.toList.take (JM t.place j),a<j:=λa ha=>by
  obtain⟨k,hk,e⟩:=QdB.mp ha;rw[JG] at hk;rw[List.getElem_take] at e;have hk2:k<t.place.size:=by rw[Qd] at hk;omega
  have:=b2 k hk2 (by omega);rw[Zb] at e;omega
 have hi:∀a∈t.place.toList.drop (JM t.place j),j<a:=λa ha=>by
  have hne:a≠j:=λe=>hj (e ▸ Qbb ha)
  obtain⟨k,hk,e⟩:=QdB.mp ha;rw[YA,Qd] at hk;rw[List.getElem_drop,Zb] at e;have:=b3 (JM t.place j+k) (by omega) (by omega);omega
 refine⟨⟨?_,?_,hd,x.gd,x.pl,x.od⟩,hl,rfl,rfl,rfl,hd⟩
 ·rw[hl,hp,Jd,Zp];refine⟨x.pw.sublist (Qfu _ _),⟨hi,x.pw.sublist (List.drop_sublist _ _)⟩,λa ha b hb=>?_⟩;rcases Qu.mp hb with z | z
  ·subst z;exact lo a ha
  ·have:=lo a ha;have:=hi b z;omega
 ·intro a ha;rw[hl] at ha;rcases Jb.mp ha with z | z
  ·exact x.le a (QdA z)
  ·rcases Qu.mp z with z | z
   ·subst z;exact hm
   ·exact x.le a (Qbb z)
theorem Qn0{mask:Nat}{owner:Array (Option Nat)}:∀(n fuel i perturb:Nat),n<fuel->owner.getD (Qc4 mask n (i,perturb)).1 (some 0)=none->∃j,Jz mask owner fuel i perturb=some j/\owner.getD j (some 0)=none:=by
 intro n;induction n with
 |zero=>
  intro fuel i perturb hf he;obtain⟨fuel,rfl⟩:∃m,fuel=m+1:=⟨fuel - 1,by omega⟩
  unfold Jz;cases hfd:(Qq (Jn mask i+1 - i)).find? λk=>(owner.getD (i+k) (some 0)).isNone with
  |some k=>
   have:=QvX hfd;exact⟨i+k,rfl,by simpa using this⟩
  |none=>
   have:=Qez.mp hfd 0 (Jp.mpr (by unfold Jn;split<;>omega));rw[Qdf,show owner.getD i (some 0)=none from he] at this;exact absurd rfl this
 |succ n ih=>
  intro fuel i perturb hf he;obtain⟨fuel,rfl⟩:∃m,fuel=m+1:=⟨fuel - 1,by omega⟩
  unfold Jz;cases hfd:(Qq (Jn mask i+1 - i)).find? λk=>(owner.getD (i+k) (some 0)).isNone with
  |some k=>
   have:=QvX hfd;exact⟨i+k,rfl,by simpa using this⟩
  |none=>exact ih fuel _ _ (by omega) he
theorem QcD{f g:Nat->Option Nat}:∀{l:List Nat},(∀x∈l,f x=g x)->l.filterMap f=l.filterMap g
 |[],_=>rfl
 |x::l,h=>by
  rw[ZE,ZE,h x (.head _),QcD λy hy=>h y (.tail _ hy)]
theorem QsS(f:Nat->Option Nat)(j k:Nat)(hf:f j=none):∀M,j<M->((Qq M).filterMap λx=>if x=j then some k else f x).Perm (k::(Qq M).filterMap f)
 |0,h=>absurd h (Y4 _)
 |M+1,h=>by
  rw[Y0,Ye,Ye];by_cases z:M=j
  ·subst z;have e:((Qq M).filterMap λx=>if x=M then some k else f x)=(Qq M).filterMap f:=QcD λx hx=>if_neg (by have:=Jp.mp hx;omega)
   rw[e];have e2:([M].filterMap λx=>if x=M then some k else f x)=[k]:=by simp
   have e3:[M].filterMap f=[]:=by simp[hf]
   rw[e2,e3,JX];exact Yc
  ·have ih:=QsS f j k hf M (by omega);have e2:([M].filterMap λx=>if x=j then some k else f x)=[M].filterMap f:=QcD λx hx=>by
    rw[Q6.mp hx,if_neg z]
   rw[e2];exact ih.append_right _
def Lv(mask:Nat)(owner:Array (Option Nat)):List Nat:=(Qq (mask+1)).filterMap λj=>owner.getD j none
theorem Qn1{f:Nat->Option Nat}:∀{M:Nat},(∀j,j<M->f j≠none)->((Qq M).filterMap f).length=M
 |0,_=>rfl
 |M+1,h=>by
  rw[Y0,Ye,Qv,Qn1 λj hj=>h j (by omega)];cases e:f M with
  |none=>exact absurd e (h M (by omega))
  |some y=>simp[e]
structure Own (mask:Nat) (owner:Array (Option Nat)) (k:Nat):Prop where
 sz:owner.size=mask+1
 pm:(Lv mask owner).Perm (Qq k)
theorem QkN{mask:Nat}(hg:Qcf (mask+1)=true){owner:Array (Option Nat)}{k:Nat}(x:Own mask owner k)(hk:k<=mask)(h:Int):∃j,Jz mask owner (JA mask) (Je h % (mask+1)) (Je h)=some j/\Own mask (owner.setIfInBounds j (some k)) (k+1):=by
 obtain⟨e,he,hn⟩:∃e,e<mask+1/\owner.getD e none=none:=by
  apply Za
  intro hno;have:=Qn1 (f:=λj=>owner.getD j none) (M:=mask+1) λj hj z=>hno ⟨j,hj,z⟩
  have h2:=x.pm.length_eq;rw[QV] at h2;unfold Lv at h2;omega
 have gd:∀j,j<mask+1->owner.getD j (some 0)=owner.getD j none:=λj hj=>by
  have:j<owner.size:=by rw[x.sz];exact hj
  simp[Zk,this]
 obtain⟨n,hn',e2⟩:=Qgf hg (i:=Je h % (mask+1)) (perturb:=Je h) (Qdz _ (QbU _)) (QiF h) he;obtain⟨j,hj,hj0⟩:=Qn0 (mask:=mask) (owner:=owner) n (JA mask) (Je h % (mask+1)) (Je h) (by unfold JA;omega) (by rw[e2,gd e he];exact hn);have hjs:j<owner.size:=by
  apply Za
  intro z;simp[Zk,z] at hj0
 refine⟨j,hj,by rw[QiX];exact x.sz,?_⟩;have e3:Lv mask (owner.setIfInBounds j (some k))=(Qq (mask+1)).filterMap λy=>if y=j then some k else owner.getD y none:=QcD λy hy=>by
  have hy:=Jp.mp hy;have hys:y<owner.size:=by rw[x.sz];exact hy
  by_cases z:y=j
  ·subst z;simp[Zk,hys]
  ·rw[if_neg z];simp[Zk,hys,Qbs,QcP z]
 rw[e3];refine(QsS _ j k (by rw[<- gd j (by rw[<- x.sz];exact hjs)];exact hj0) _ (by rw[<- x.sz];exact hjs)).trans ?_
 refine(show(k::(Qq (mask+1)).filterMap λy=>owner.getD y none).Perm (k::Qq k) from x.pm.cons k).trans ?_
 rw[show Qq (k+1)=Qq k++[k] from Y0];exact Yc (l₁:=[k])
theorem QnJ{mask:Nat}(hg:Qcf (mask+1)=true):∀(hs:List Int)(owner:Array (Option Nat))(k:Nat),Own mask owner k->k+hs.length<=mask+1->∃owner',hs.foldl (λacc h=>do
  let (owner,k) <- acc
  let j <- Jz mask owner (JA mask) (Je h % (mask+1)) (Je h)
  pure (owner.setIfInBounds j (some k),k+1)) (some (owner,k))=some (owner',k+hs.length)/\Own mask owner' (k+hs.length)
 |[],owner,k,x,_=>⟨owner,rfl,x⟩
 |h::hs,owner,k,x,hl=>by
  rw[Qx] at hl;obtain⟨j,hj,y⟩:=QkN hg x (by omega) h;obtain⟨o',e,z⟩:=QnJ hg hs _ (k+1) y (by omega);refine⟨o',?_,by rw[Qx,show k+(hs.length+1)=k+1+hs.length by omega];exact z⟩;rw[Qbx,Qx,show k+(hs.length+1)=k+1+hs.length by omega,<- e]
  congr 1
  show(Jz mask owner (JA mask) (Je h % (mask+1)) (Je h)).bind _=_;rw[hj];rfl
theorem Qni(mask:Nat):Own mask (Qbr (mask+1) none) 0:=by
 refine⟨by simp,?_⟩;have:Lv mask (Qbr (mask+1) none)=[]:=by
  unfold Lv;rw[List.filterMap_eq_nil_iff];intro j hj;have:=Jp.mp hj;simp[Zk,this]
 rw[this];exact Y6 _
theorem Qvb{mask finger moves:Nat}{led:Bool}(hg:Qcf (mask+1)=true)(ho:mask % 2=1)(hashes:Array Int)(hl:hashes.size<=mask) :
  ∃t order,QaX mask finger moves led true hashes=some (t,order)/\Tab t/\t.mask=mask/\t.led=led/\t.place.size=hashes.size/\order.toList.Perm (Qq hashes.size):=by
 obtain⟨owner,e,x⟩:=QnJ hg hashes.toList (Qbr (mask+1) none) 0 (Qni mask) (by rw[Qd];omega);rw[J7,Qd] at e x;have ec:QbG mask hashes=some owner:=by
  unfold QbG;rw[<- QoT];exact congrArg (λz=>z.map (·.1)) e
 have el:QaX mask finger moves led true hashes=some ({ mask:=mask,place:=(((Qq (mask+1)).filterMap λj=>(owner.getD j none).map (j,·)).map (·.1)).toArray,dummies:=#[],finger:=finger,led:=led,moves:=moves,plain:=true },(((Qq (mask+1)).filterMap λj=>(owner.getD j none).map (j,·)).map (·.2)).toArray):=by
  unfold QaX;rw[ec];rfl
 have e2:((Qq (mask+1)).filterMap λj=>(owner.getD j none).map (j,·)).map (·.2)=Lv mask owner:=by
  unfold Lv;rw[Qo2];exact QcD λy _=>by cases owner.getD y none<;>rfl
 have e1:((Qq (mask+1)).filterMap λj=>(owner.getD j none).map (j,·)).map (·.1)=(Qq (mask+1)).filterMap λj=>(owner.getD j none).map λ_=>j:=by
  rw[Qo2];exact QcD λy _=>by cases owner.getD y none<;>rfl
 have len:(((Qq (mask+1)).filterMap λj=>(owner.getD j none).map (j,·)).map (·.1)).length=hashes.size:=by
  rw[Qf];have h1:=congrArg QhC e2;rw[Qf,x.pm.length_eq,QV] at h1;exact h1
 refine⟨_,_,el,⟨?_,?_,rfl,hg,rfl,ho⟩,rfl,rfl,by rw[Qr];exact len,by rw[Yu,e2];exact x.pm⟩
 ·show Qy8 (· < ·) (QzN _).toList;rw[Yu,e1,List.pairwise_filterMap];refine QcQ.imp λ{a b} h=>?_
  intro c hc d hd;cases hoa:owner.getD a none with
  |none=>rw[hoa] at hc;cases hc
  |some _=>
   cases hob:owner.getD b none with
   |none=>rw[hob] at hd;cases hd
   |some _=>rw[hoa] at hc;rw[hob] at hd;cases hc;cases hd;exact h
 ·intro y hy;have hy:y∈(((Qq (mask+1)).filterMap λj=>(owner.getD j none).map (j,·)).map (·.1)).toArray.toList:=hy;rw[Yu,e1] at hy;obtain⟨a,ha,e⟩:=Yd.mp hy;have:=Jp.mp ha;cases hoa:owner.getD a none with
  |none=>rw[hoa] at e;cases e
  |some _=>
   rw[hoa] at e;cases e;show a<=mask;omega
theorem QlC{α:Type}{es:Array α}{order:Array Nat}(h:order.toList.Perm (Qq es.size)):(order.filterMap (es[·]?)).toList.Perm es.toList:=by
 rw[Qj4];refine(h.filterMap _).trans ?_
 have:(Qq es.size).filterMap (es[·]?)=es.toList:=by
  apply Z1
  intro i;have key:∀n,n<=es.size->(Qq n).filterMap (es[·]?)=es.toList.take n:=λn=>by
   induction n with
   |zero=>intro _;rfl
   |succ n ih=>
    intro hn;rw[Y0,Ye,ih (by omega),Z0];have:es[n]? = some es[n]:=by simp[show n<es.size by omega]
    simp[this]
  rw[key _ (Qh _),<- Qd,Zv]
 rw[this]
theorem Qr7{t t':SetTable}(h:t'.mask=t.mask)(p:Zc):t'.advance p=t.advance p:=by
 unfold Qae;rw[h]
theorem Qcb{t t':SetTable}(h:t'.mask=t.mask):∀(n:Nat)(p:Zc),stps t' n p=stps t n p
 |0,_=>rfl
 |n+1,p=>by
  show stps t' n (t'.advance p)=stps t n (t.advance p);rw[Qr7 h,Qcb h n]
theorem Qcv{t t':SetTable}(h:t'.mask=t.mask)(x:Int):t'.probeStart x=t.probeStart x:=by
 unfold SetTable.probeStart;rw[h]
structure PIn (t:SetTable) (p:Zc):Prop where
 a:p.j+p.more<=t.mask
 b:p.i<=t.mask
theorem Qh1{mask i:Nat}(h:i<=mask):i+(Jn mask i - i)<=mask:=by unfold Jn;split<;>omega
theorem PIn.adv{t:SetTable}{p:Zc}(x:PIn t p):PIn t (t.advance p):=by
 unfold Qae;split
 ·exact⟨by show p.j+1+(p.more - 1)<=_;have:=x.a;omega,x.b⟩
 ·have:(Ym t.mask p.i p.perturb).1<=t.mask:=Qtd (Qdz _ (QbU _));exact⟨Qh1 this,this⟩
theorem PIn.stps{t:SetTable}:∀(n:Nat){p:Zc},PIn t p->PIn t (stps t n p)
 |0,_,x=>x
 |n+1,_,x=>PIn.stps n x.adv
theorem PIn.start(t:SetTable)(h:Int):PIn t (t.probeStart h):=by
 have:Je h % (t.mask+1)<=t.mask:=Qtd (Qdz _ (QbU _));exact⟨Qh1 this,this⟩
theorem Qjc(t:SetTable)(h:Int)(n:Nat):(stps t n (t.probeStart h)).j<=t.mask:=by
 have:=(PIn.stps n (PIn.start t h)).a;omega
def Rch(t:SetTable)(j:Nat)(h:Int):Prop:=∃n,(stps t n (t.probeStart h)).j=j/\∀m,m<n->(stps t m (t.probeStart h)).j∈t.place.toList
theorem Rch.mono{t t':SetTable}{j:Nat}{h:Int}(x:Rch t j h)(hm:t'.mask=t.mask)(hs:∀y∈t.place.toList,y∈t'.place.toList):Rch t' j h:=by
 obtain⟨n,e,k⟩:=x;refine⟨n,by rw[Qcv hm,Qcb hm];exact e,λm hlt=>?_⟩;rw[Qcv hm,Qcb hm];exact hs _ (k m hlt)
theorem Tab.slot_l{t:SetTable}{j i:Nat}(h:t.slot j=.live i):t.place[i]? = some j:=by
 unfold Qdy at h
 dsimp only at h
 split at h
 ·rename_i e
  cases h;exact eq_of_beq e
 ·split at h<;>cases h
theorem Tab.slot_at{t:SetTable}(x:Tab t){i:Nat}{j:Nat}(h:t.place[i]? = some j):t.slot j=.live i:=by
 have hj:j∈t.place.toList:=ZU.mpr (YY h);cases hs:t.slot j with
 |empty=>exact absurd hj (x.slot_e hs)
 |dummy=>exact absurd hs (x.slot_dm j)
 |live i'=>
  have h':=Tab.slot_l hs;obtain⟨h1,e1⟩:=Z7.mp h;obtain⟨h2,e2⟩:=Z7.mp h'
  congr 1
  rcases Qaf i' i with z | z | z
  ·have:=Jo.mp x.pw i' i (by simpa using h2) (by simpa using h1) z;simp only[Zb] at this;omega
  ·exact z
  ·have:=Jo.mp x.pw i i' (by simpa using h1) (by simpa using h2) z;simp only[Zb] at this;omega
theorem QrI{t:SetTable}(x:Tab t)(hashAt:Nat->Int)(h:Int):∀(n fuel:Nat)(p:Zc),n<fuel->t.slot (stps t n p).j=.empty->p.dummy=none ->
  ∃k,k<=n/\(∀m,m<k->∃i,t.slot (stps t m p).j=.live i/\hashAt i≠h)/\((JE t hashAt h fuel p=some (.empty (stps t k p).j none)/\t.slot (stps t k p).j=.empty)∨(k<n/\∃i,JE t hashAt h fuel p=some (.candidate (stps t k p).j i (stps t (k+1) p))/\t.slot (stps t k p).j=.live i/\hashAt i=h)):=by
 intro n;induction n with
 |zero=>
  intro fuel p hf he hd;obtain⟨fuel,rfl⟩:∃m,fuel=m+1:=⟨fuel - 1,by omega⟩
  refine⟨0,Qh _,λm hm=>absurd hm (Y4 _),.inl ⟨?_,he⟩⟩;unfold JE;rw[show t.slot p.j=.empty from he]
  dsimp only
  rw[hd];rfl
 |succ n ih=>
  intro fuel p hf he hd;obtain⟨fuel,rfl⟩:∃m,fuel=m+1:=⟨fuel - 1,by omega⟩
  cases hs:t.slot p.j with
  |empty=>
   refine⟨0,Qs _,λm hm=>absurd hm (Y4 _),.inl ⟨?_,hs⟩⟩;unfold JE;rw[hs]
   dsimp only
   rw[hd];rfl
  |dummy=>exact absurd hs (x.slot_dm _)
  |live i=>
   by_cases z:hashAt i=h
   ·refine⟨0,Qs _,λm hm=>absurd hm (Y4 _),.inr ⟨QbU _,i,?_,hs,z⟩⟩;unfold JE;rw[hs]
    dsimp only
    rw[if_pos (by simp[z])];rfl
   ·obtain⟨k,hk,ps,q⟩:=ih fuel (t.advance p) (by omega) he (by rw[QiK];exact hd);have eg:JE t hashAt h (fuel+1) p=JE t hashAt h fuel (t.advance p):=by
     conv=>lhs;unfold JE
     rw[hs]
     dsimp only
     rw[if_neg (by simp[z])]
    have ps':∀m,m<k+1->∃i,t.slot (stps t m p).j=.live i/\hashAt i≠h:=λm hm=>by
     cases m with
     |zero=>exact⟨i,hs,z⟩
     |succ m=>exact ps m (by omega)
    rcases q with⟨q1,q2⟩ | ⟨q0,i',q1,q2,q3⟩
    ·exact⟨k+1,by omega,ps',.inl ⟨by rw[eg];exact q1,q2⟩⟩
    ·exact⟨k+1,by omega,ps',.inr ⟨by omega,i',by rw[eg];exact q1,q2,q3⟩⟩
theorem Qsm(t:SetTable):∀(k m j i perturb:Nat)(d:Option Nat),k<=m->(stps t k { j:=j,more:=m,i:=i,perturb:=perturb,dummy:=d }).j=j+k
 |0,_,_,_,_,_,_=>rfl
 |k+1,m,j,i,perturb,d,h=>by
  obtain⟨m,rfl⟩:∃m',m=m'+1:=⟨m - 1,by omega⟩
  show(stps t k (t.advance _)).j=_;have:t.advance { j:=j,more:=m+1,i:=i,perturb:=perturb,dummy:=d }={ j:=j+1,more:=m,i:=i,perturb:=perturb,dummy:=d }:=by
   unfold Qae;rw[if_pos (by show m+1 > 0;omega)];rfl
  rw[this,Qsm t k m _ _ _ _ (by omega)];omega
theorem QrK{t:SetTable}{owner:Array (Option Nat)}:∀(fuel i perturb j:Nat),Jz t.mask owner fuel i perturb=some j->∃n,(stps t n (Qpr t i perturb none)).j=j/\∀m,m<n->owner.getD (stps t m (Qpr t i perturb none)).j (some 0)≠none:=by
 intro fuel;induction fuel with
 |zero=>intro i perturb j h;cases h
 |succ fuel ih=>
  intro i perturb j h;unfold Jz at h;have jr:∀k,k<=Jn t.mask i - i->(stps t k (Qpr t i perturb none)).j=i+k:=λk hk=>Qsm t k _ _ _ _ _ hk
  have re:Jn t.mask i+1 - i=Jn t.mask i - i+1:=by unfold Jn;split<;>omega
  cases hfd:(Qq (Jn t.mask i+1 - i)).find? λk=>(owner.getD (i+k) (some 0)).isNone with
  |some k=>
   rw[hfd] at h;cases h;obtain⟨_,hk,hb⟩:=List.find?_range_eq_some.mp hfd
   have hk:=Jp.mp hk;rw[re] at hk;refine⟨k,jr k (by omega),λm hm=>?_⟩;rw[jr m (by omega)];have:=hb m hm;intro z;rw[z] at this;cases this
  |none=>
   rw[hfd] at h;obtain⟨n,e,w⟩:=ih _ _ _ h;have all:=Qez.mp hfd;refine⟨Jn t.mask i - i+1+n,by rw[Qac,QgN];exact e,λm hm=>?_⟩;by_cases z:m<Jn t.mask i - i+1
   ·rw[jr m (by omega)];have:=all m (Jp.mpr (by omega));intro y;rw[y] at this;exact this rfl
   ·obtain⟨m',rfl⟩:∃m',m=Jn t.mask i - i+1+m':=⟨m - (Jn t.mask i - i+1),by omega⟩
    rw[Qac,QgN];exact w m' (by omega)
def tM(mask:Nat):SetTable:={ mask:=mask,place:=#[],dummies:=#[],finger:=0,led:=true,moves:=0,plain:=true }
def Qzo(mask:Nat)(owner:Array (Option Nat))(H:Nat->Int):Prop:=∀j k,owner.getD j none=some k->∃n,(stps (tM mask) n ((tM mask).probeStart (H k))).j=j/\∀m,m<n->owner.getD (stps (tM mask) m ((tM mask).probeStart (H k))).j none≠none
theorem QnI{mask:Nat}(hg:Qcf (mask+1)=true){owner:Array (Option Nat)}{k:Nat}{H:Nat->Int}(x:Own mask owner k)(w:Qzo mask owner H)(hk:k<=mask):∃j,Jz mask owner (JA mask) (Je (H k) % (mask+1)) (Je (H k))=some j/\Own mask (owner.setIfInBounds j (some k)) (k+1)/\Qzo mask (owner.setIfInBounds j (some k)) H:=by
 obtain⟨j,hj,y⟩:=QkN hg x hk (H k);refine⟨j,hj,y,?_⟩;have gr:∀z,owner.getD z none≠none->(owner.setIfInBounds j (some k)).getD z none≠none:=λz hz=>by
  have hs:z<owner.size:=by
   apply Za
   intro c;exact hz (by simp[Zk,c])
  by_cases e:j=z
  ·subst e;simp[Zk,hs]
  ·have:(owner.setIfInBounds j (some k)).getD z none=owner.getD z none:=by simp[Zk,hs,Qbs,e]
   rw[this];exact hz
 obtain⟨n,e,way⟩:=QrK (t:=tM mask) _ _ _ _ hj;intro j' k' h';by_cases z:j=j'
 ·subst z;have hs:j<owner.size:=by
   apply Za
   intro c;simp[Zk,c] at h'
  have ek:k'=k:=by
   simp[Zk,hs] at h';exact h'.symm
  subst ek;refine⟨n,e,λm hm=>gr _ ?_⟩;have h1:=way m hm;have h2:(stps (tM mask) m ((tM mask).probeStart (H k'))).j<=mask:=Qjc (tM mask) (H k') m;have h3:(stps (tM mask) m ((tM mask).probeStart (H k'))).j<owner.size:=by rw[x.sz];omega
  have h1:owner.getD (stps (tM mask) m ((tM mask).probeStart (H k'))).j (some 0)≠none:=h1
  simpa [Zk,h3] using h1
 ·have h2:owner.getD j' none=some k':=by
   have hs:j'<owner.size:=by
    apply Za
    intro c;simp[Zk,c] at h'
   rw[<- h'];simp[Zk,hs,Qbs,z]
  obtain⟨n',e',way'⟩:=w j' k' h2;exact⟨n',e',λm hm=>gr _ (way' m hm)⟩
theorem QkP{mask:Nat}(hg:Qcf (mask+1)=true)(H:Nat->Int):∀(hs:List Int)(owner:Array (Option Nat))(k:Nat),Own mask owner k->Qzo mask owner H->(∀i (hi:i<hs.length),H (k+i)=hs[i])->k+hs.length<=mask+1->∃owner',hs.foldl (λacc h=>do
  let (owner,k) <- acc
  let j <- Jz mask owner (JA mask) (Je h % (mask+1)) (Je h)
  pure (owner.setIfInBounds j (some k),k+1)) (some (owner,k))=some (owner',k+hs.length)/\Own mask owner' (k+hs.length)/\Qzo mask owner' H
 |[],owner,k,x,w,_,_=>⟨owner,rfl,x,w⟩
 |h::hs,owner,k,x,w,hH,hl=>by
  rw[Qx] at hl;have e0:H k=h:=hH 0 (by simp);obtain⟨j,hj,y,y2⟩:=QnI hg x w (by omega);rw[e0] at hj;obtain⟨o',e,z,z2⟩:=QkP hg H hs _ (k+1) y y2 (λi hi=>by
   have:=hH (i+1) (by rw[Qx];omega);rw[show k+1+i=k+(i+1) by omega,this];rfl) (by omega)
  refine⟨o',?_,by rw[Qx,show k+(hs.length+1)=k+1+hs.length by omega];exact z,z2⟩;rw[Qbx,Qx,show k+(hs.length+1)=k+1+hs.length by omega,<- e]
  congr 1
  show(Jz mask owner (JA mask) (Je h % (mask+1)) (Je h)).bind _=_;rw[hj];rfl
theorem QlI{mask finger moves:Nat}{led:Bool}(hg:Qcf (mask+1)=true)(ho:mask % 2=1)(hashes:Array Int)(hl:hashes.size<=mask) :
  ∃t order,QaX mask finger moves led true hashes=some (t,order)/\Tab t/\t.mask=mask/\t.led=led/\t.place.size=hashes.size/\order.toList.Perm (Qq hashes.size)/\∀(i j k:Nat),t.place[i]? = some j->order[i]? = some k->Rch t j (hashes.getD k 0):=by
 obtain⟨owner,e,x,w⟩:=QkP hg (λk=>hashes.getD k 0) hashes.toList (Qbr (mask+1) none) 0 (Qni mask) (λj k h=>by
   have:(Qbr (mask+1) (none:Option Nat)).getD j none=none:=by
    by_cases c:j<mask+1<;>simp[Zk,c]
   rw[this] at h;cases h) (λi hi=>by
   have hi':i<hashes.size:=by simpa using hi
   simp[Zk,hi']) (by rw[Qd];omega)
 rw[J7,Qd] at e x;have ec:QbG mask hashes=some owner:=by
  unfold QbG;rw[<- QoT];exact congrArg (λz=>z.map (·.1)) e
 have el:QaX mask finger moves led true hashes=some ({ mask:=mask,place:=(((Qq (mask+1)).filterMap λj=>(owner.getD j none).map (j,·)).map (·.1)).toArray,dummies:=#[],finger:=finger,led:=led,moves:=moves,plain:=true },(((Qq (mask+1)).filterMap λj=>(owner.getD j none).map (j,·)).map (·.2)).toArray):=by
  unfold QaX;rw[ec];rfl
 obtain⟨t,order,e2,T,m1,m2,m3,m4⟩:=Qvb (finger:=finger) (moves:=moves) (led:=led) hg ho hashes hl;rw[el] at e2;have e2:=Qt e2;have et:_=t:=congrArg Prod.fst e2;have eo:_=order:=congrArg Prod.snd e2;refine⟨t,order,by rw[el,e2],T,m1,m2,m3,m4,λi j k hj hk=>?_⟩;have live:∀y z,(y,z)∈((Qq (mask+1)).filterMap λj=>(owner.getD j none).map (j,·))↔y<=mask/\owner.getD y none=some z:=λy z=>by
  rw[Yd];constructor
  ·rintro⟨a,ha,e⟩;have:=Jp.mp ha;cases hoa:owner.getD a none with
   |none=>rw[hoa] at e;cases e
   |some b=>rw[hoa] at e;cases e;exact⟨by omega,hoa⟩
  ·rintro⟨h1,h2⟩;exact⟨y,Jp.mpr (by omega),by rw[h2];rfl⟩
 have pl:∀y,owner.getD y none≠none->y<=mask->y∈t.place.toList:=λy hy hm=>by
  rw[<- et];show y∈(QzN _).toList;rw[Yu,Ql];cases hoy:owner.getD y none with
  |none=>exact absurd hoy hy
  |some z=>exact⟨(y,z),(live y z).mpr ⟨hm,hoy⟩,rfl⟩
 have hjk:(j,k)∈((Qq (mask+1)).filterMap λj=>(owner.getD j none).map (j,·)):=by
  rw[<- et] at hj;rw[<- eo] at hk;have hj:(((Qq (mask+1)).filterMap λj=>(owner.getD j none).map (j,·)).map (·.1)).toArray[i]? = some j:=hj;have hk:(((Qq (mask+1)).filterMap λj=>(owner.getD j none).map (j,·)).map (·.2)).toArray[i]? = some k:=hk;rw[Ql2,QB] at hj hk;cases hz:((Qq (mask+1)).filterMap λj=>(owner.getD j none).map (j,·))[i]? with
  |none=>rw[hz] at hj;cases hj
  |some q=>
   rw[hz] at hj hk;have h1:q.1=j:=Qt hj;have h2:q.2=k:=Qt hk;rw[<- h1,<- h2];exact Q7 hz
 obtain⟨hjm,hjo⟩:=(live j k).mp hjk;obtain⟨n,e3,way⟩:=w j k hjo;have hm:t.mask=(tM mask).mask:=m1;refine⟨n,by rw[Qcv hm,Qcb hm];exact e3,λm hlt=>?_⟩;rw[Qcv hm,Qcb hm];exact pl _ (way m hlt) (Qjc (tM mask) _ m)
theorem QdN:Slot "set_iterator" "__next__" "set_iterator.__next__" :=
 .of (owner := "set_iterator") (n := "__next__") (by rw[Qk9,Qeq];kernel_rfl) (by decide +kernel) (by decide +kernel) (by decide +kernel) (by first | exact .inl (by decide +kernel) | exact .inr (by decide +kernel)) (by rw[QcI];kernel_rfl)
theorem Qn7:entryFor table "set_iterator.__next__" = some YO.«set_iterator.__next__» := entryFor_of_fast (by kernel_rfl)
theorem QxA:Manifest.owners.lookup (String.ofList ['r', 'o', 't', 'a', 'r', 'e', 't', 'i', '_', 't', 'e', 's'].reverse)=some Manifest.sig_set_iterator:=by kernel_rfl
theorem QoH(a:Value):argsOk "set_iterator.__next__" ⟨[a],[]⟩:=by
 unfold argsOk;rw[signature?_of (id := "set_iterator.__next__") (n:=['_', '_', 't', 'x', 'e', 'n', '_', '_']) (o:=['r', 'o', 't', 'a', 'r', 'e', 't', 'i', '_', 't', 'e', 's']) (by kernel_rfl) QxA];kernel_rfl
theorem Qvs:entryFor table "set.__iter__" = some YO.«frozenset.__iter__» := entryFor_alias (id' := "frozenset.__iter__") (by kernel_rfl) (by first | rfl | decide +kernel | (unfold Qta;simp +decide [QoP])) (by decide +kernel) (by kernel_rfl)
def IsSI(h:Heap)(I:Addr)(first:Value)(i a n ep:Nat):Prop:=∃o,h.get? I=some o/\o.cls=.type "set_iterator" /\ o.data=.fields #[first,.int i 0,.ref a,.int n 0,.int ep 0]
theorem IsSI.typeIs{s:Shared}{I:Addr}{first:Value}{i a n ep:Nat}(x:IsSI s.heap I first i a n ep):s.TypeIs (.ref I) "set_iterator" := let ⟨o,h,c,_⟩:=x;⟨o,h,c⟩
structure SetAt (h:Heap) (a:Addr) (es:Array (Int×Value)) (ep:Nat) (t:SetTable):Prop where
 at_:∃o,h.get? a=some o/\o.ExactSet/\o.data=.set es ep t
 ft:t.fits es.size=true
section
variable{prog:QC}{w:Q9}{A:Q5}{E:Value->Shared->Prop}{s:Shared}
theorem QuT{I a:Addr}{i ep slot nx:Nat}{es:Array (Int×Value)}{t:SetTable}{x:Value}{Q:Option Value->Shared->Prop}(hit:IsSI s.heap I (.int slot 0) i a es.size ep)(ha:SetAt s.heap a es ep t)
  (hN:∀(A:Q5)(E:Value->Shared->Prop)(Q':Option (Value×Nat)->Shared->Prop),Q' (some (x,nx)) s->wpAny (model prog w) A (setNext a slot i ep) Q' E s)
  (hQ:∀h',IsSI h' I (.int nx 0) (i+1) a es.size ep->Y2 I s.heap h'->Q (some x) { s with heap:=h' }):wpAny (model prog w) A (pyNext (.ref I)) Q E s:=by
 obtain⟨o,ho,hc,hd⟩:=id hit;obtain⟨os,hos,hex,hds⟩:=ha.at_;unfold pyNext;refine wpAny_bind (Qdd (Zd (name:=Qaw "__next__") hit.typeIs QdN (JF QdN hit.typeIs Qn7 ?_ (QoH _))));unfold YO.«set_iterator.__next__»
 wp_walk
 rw[hd];refine Qb ?_
 dsimp only
 refine wpAny_bind (Qv6 hos hds ha.ft ?_);rw[if_neg (by simp)];refine wpAny_bind ?_
 refine hN _ _ _ ?_
 dsimp only
 refine wpAny_bind (QcH ho hd (by simp) ?_);have g1:(s.heap.update I (Qlg λx=>x.setIfInBounds 0 (rawInt ↑nx))).get? I=some (Qlg (λx=>x.setIfInBounds 0 (rawInt ↑nx)) o):=ZQ _ ho (Qde (YU hd _));have d1:(Qlg (λx=>x.setIfInBounds 0 (rawInt ↑nx)) o).data=.fields #[.int nx 0,.int i 0,.ref a,.int es.size 0,.int ep 0]:=by rw[YU hd];simp[rawInt]
 refine wpAny_bind (QcH g1 d1 (by simp) (Qb ⟨x,rfl,Qb (hQ _ ?_ ((Zq ..).trans (Zq ..)))⟩));exact⟨_,ZQ _ g1 (Qde (YU d1 _)),(Qfz ..).trans ((Qfz ..).trans hc),by rw[YU d1];simp[rawInt]⟩
theorem Qx4{I a:Addr}{i ep slot:Nat}{es:Array (Int×Value)}{t:SetTable}{Q:Option Value->Shared->Prop}(hh:A.handled=none)(hit:IsSI s.heap I (.int slot 0) i a es.size ep)(ha:SetAt s.heap a es ep t)
  (hN:∀(A:Q5)(E:Value->Shared->Prop)(Q':Option (Value×Nat)->Shared->Prop),Q' none s->wpAny (model prog w) A (setNext a slot i ep) Q' E s)
  (hQ:∀h',Heap.ExtBut I s.heap h'->Q none { s with heap:=h' }):wpAny (model prog w) A (pyNext (.ref I)) Q E s:=by
 obtain⟨o,ho,hc,hd⟩:=id hit;obtain⟨os,hos,hex,hds⟩:=ha.at_;unfold pyNext;refine wpAny_bind (Qdd (Zd (name:=Qaw "__next__") hit.typeIs QdN (JF QdN hit.typeIs Qn7 ?_ (QoH _))));unfold YO.«set_iterator.__next__»
 wp_walk
 rw[hd];refine Qb ?_
 dsimp only
 refine wpAny_bind (Qv6 hos hds ha.ft ?_);rw[if_neg (by simp)];refine wpAny_bind ?_
 refine hN _ _ _ ?_
 dsimp only
 refine wpAny_bind (QcH ho hd (by simp) ?_);refine wpAny_bind ?_
 simp only[newExc,newTuple];refine wpAny_bind (Jy ?_ (by size_fits));refine wpAny_bind (m:=firstArgMember _ _) (Yr (a:=Ze) (by first | rfl | (simp only[firstArgMember];rfl)) ?_);refine Jy ?_ (by size_fits)
 simp only[raiseNew];refine wpAny_bind (wpAny_handled ?_)
 first | rw[show A.in1.handled=none from hh] | rw[hh]
 refine wpAny_bind (Qb (wpAny_throw ?_));refine wpAny_bind (QaB (T := "StopIteration") (b:=true) ⟨_,Qw _ rfl,rfl⟩ (by rw[QcI];kernel_rfl) ?_);exact Qb (hQ _ (((Zq ..).extBut.push _).push _))
theorem Qsq{a:Addr}{ep slot given:Nat}{es:Array (Int×Value)}{t:SetTable}{Q:Option (Value×Nat)->Shared->Prop}(hb:w.params.followText "set-order" = false)(ha:SetAt s.heap a es ep t)(hp:t.plain=true)(hl:t.led=true)
  (h:Q (match es[JM t.place slot]?,t.place[JM t.place slot]? with | some (_,x),some j=>some (x,j+1) | _,_=>none) s):wpAny (model prog w) A (setNext a slot given ep) Q E s:=by
 obtain⟨os,hos,hex,hds⟩:=ha.at_;unfold setNext;refine wpAny_bind (Zo hos hds ha.ft ?_)
 dsimp only
 unfold setsByText;refine wpAny_bind (wpAny_bind (YX (Qb ?_)));rw[show(model prog w).w.params.followText "set-order" = false from hb,if_neg QK];split
 ·rename_i hdr
  exact absurd (show(!t.plain&&decide (es.size > 1))=true from hdr) (by rw[hp];simp)
 ·refine wpAny_bind ?_
  show wpAny (model prog w) A (if(!t.led && !es.isEmpty)=true then unsupported "set:maker-not-led" else pure ()) _ E s;rw[if_neg (by rw[hl];simp)];exact Qb (Qb h)
theorem Qmz{a:Addr}{ep slot given:Nat}{es:Array (Int×Value)}{t:SetTable}{Q:Option (Value×Nat)->Shared->Prop}(hb:w.params.followText "set-order" = true)(ha:SetAt s.heap a es ep t)
  (h:Q (((pickOrder (w.params.setOrder a ep) es)[given]?).map λe=>(e.2,slot)) s):wpAny (model prog w) A (setNext a slot given ep) Q E s:=by
 obtain⟨os,hos,hex,hds⟩:=ha.at_;unfold setNext;refine wpAny_bind (Zo hos hds ha.ft ?_)
 dsimp only
 unfold setsByText;refine wpAny_bind (wpAny_bind (YX (Qb ?_)));rw[show(model prog w).w.params.followText "set-order" = true from hb,if_pos rfl,if_neg (by simp)];refine wpAny_bind ?_
 unfold setWalk;refine wpAny_bind (Zo hos hds ha.ft ?_)
 dsimp only
 unfold setsByText;refine wpAny_bind (wpAny_bind (YX (Qb ?_)));rw[show(model prog w).w.params.followText "set-order" = true from hb,if_pos rfl];refine wpAny_bind (YX (Qb ?_));exact Qb h
theorem Qh8{α:Type}(next:Nat->Nat)(xs:Array α):(pickOrder next xs).toList.Perm xs.toList:=by
 unfold pickOrder;have go:∀(n k:Nat)(left:List α)(out:Array α),left.length=n->(Qsb next n k left out).toList.Perm (out.toList++left):=λn=>by
  induction n with
  |zero=>
   intro k left out hl;rw[List.length_eq_zero_iff.mp hl,JX];exact Y6 _
  |succ n ih=>
   intro k left out hl;have hi:next k % left.length<left.length:=Qdz _ (by omega)
   unfold Qsb;rw[Qo hi]
   dsimp only
   refine(ih (k+1) _ _ (by rw[List.length_eraseIdx,if_pos hi];omega)).trans ?_
   rw[Qb6,QQ];refine YE _ ?_
   have sp:left=left.take (next k % left.length)++left[next k % left.length]::left.drop (next k % left.length+1):=by rw[<- Qap hi,Jg]
   have pm:=(Qte (a:=left[next k % left.length]) (l₁:=left.take (next k % left.length)) (l₂:=left.drop (next k % left.length+1))).symm;rw[<- sp,<- List.eraseIdx_eq_take_drop_succ] at pm;exact pm
 have:=go xs.size 0 xs.toList #[] (by simp)
 simpa using this
theorem Qyj{a:Addr}{ep:Nat}{es:Array (Int×Value)}{t:SetTable}{Q:Value->Shared->Prop}(ha:SetAt s.heap a es ep t)(hp:t.plain=true)
  (hQ:Q (.ref s.heap.objs.size) { s with heap:=s.heap.push { cls:=.type "set_iterator",data:=.fields #[.int 0 0,.int 0 0,.ref a,.int es.size 0,.int ep 0] } }):wpAny (model prog w) A (pyIter (.ref a)) Q E s:=by
 obtain⟨os,hos,hex,hds⟩:=ha.at_;have hT:s.TypeIs (.ref a) "set" := ⟨os,hos,hex.1⟩;refine Qzr hT PySem.F.slot_set_iter (JF PySem.F.slot_set_iter hT Qvs ?_ (PySem.F.args_set_iter_1 _));unfold YO.«frozenset.__iter__»
 wp_walk
 have nf:¬(t.place.size != es.size||decide (t.fill > t.mask))=true:=by
  have hf:=ha.ft;simp only[QbT,JH,beq_iff_eq,decide_eq_true_eq] at hf;simp[hf.1,Nat.not_lt.mpr hf.2]
 rw[hds]
 dsimp only
 rw[if_neg nf];refine Qb (Qb (Qb ?_));refine wpAny_bind ?_
 unfold setDrawn;refine wpAny_bind (Zo hos hds ha.ft ?_)
 dsimp only
 unfold setsByText;refine wpAny_bind (wpAny_bind (YX (Qb ?_)));refine Qb ?_
 split
 ·rename_i hdr
  have hdr:(!(w.params.followText "set-order")&&(!t.plain&&decide (es.size > 1)))=true:=hdr;rw[hp] at hdr;simp at hdr
 ·refine wpAny_bind (Qb ?_);refine wpAny_bind (wpAny_setEpoch_of hos hds ha.ft ?_);exact wpAny_bind (Jy (Qb ⟨_,rfl, "set_iterator",_,⟨_,Qw _ rfl,rfl⟩,QdN.lookup,hQ⟩))
theorem SetAt.at'{h h':Heap}{a:Addr}{es:Array (Int×Value)}{ep:Nat}{t:SetTable}(x:SetAt h a es ep t)(k:∀o,h.get? a=some o->h'.get? a=some o):SetAt h' a es ep t:=let ⟨o,h1,h2⟩:=x.at_;⟨⟨o,k o h1,h2⟩,x.ft⟩
theorem IsSI.at'{h h':Heap}{I:Addr}{first:Value}{i a n ep:Nat}(x:IsSI h I first i a n ep)(k:∀o,h.get? I=some o->h'.get? I=some o):IsSI h' I first i a n ep:=let ⟨o,h1,h2⟩:=x;⟨o,k o h1,h2⟩
end
structure Way (prog:QC) (w:Q9) (a:Addr) (es:Array (Int×Value)) (ep:Nat) (t:SetTable) (so:Nat->Nat) (vs:Array (Int×Value)):Prop where
 pm:vs.toList.Perm es.toList
 s0:so 0=0
 item:∀(s:Shared)(A:Q5)(E:Value->Shared->Prop)(Q:Option (Value×Nat)->Shared->Prop)(i:Nat)(e:Int×Value),SetAt s.heap a es ep t->vs[i]? = some e->Q (some (e.2,so (i+1))) s->wpAny (model prog w) A (setNext a (so i) i ep) Q E s
 fin:∀(s:Shared)(A:Q5)(E:Value->Shared->Prop)(Q:Option (Value×Nat)->Shared->Prop),SetAt s.heap a es ep t->Q none s->wpAny (model prog w) A (setNext a (so es.size) es.size ep) Q E s
theorem Way.walks{prog:QC}{w:Q9}{A:Q5}(hh:A.handled=none){a:Addr}{es:Array (Int×Value)}{ep:Nat}{t:SetTable}{so:Nat->Nat}{vs:Array (Int×Value)}(W:Way prog w a es ep t so vs)(I:Addr)(hne:a≠I)(self:∀(s:Shared)(Q:Value->Shared->Prop)(E:Value->Shared->Prop)(i:Nat),IsSI s.heap I (.int (so i) 0) i a es.size ep->Q (.ref I) s->wpAny (model prog w) A (pyIter (.ref I)) Q E s) :
  Walks prog w A I [I,a] [I] es.size (λi v=>(vs[i]?).map (·.2)=some v) (λi h=>IsSI h I (.int (so i) 0) i a es.size ep/\SetAt h a es ep t) where
 sub:=λb hb=>by simp at hb;simp[hb]
 frame:=λ_ _ _ st hk=>⟨st.1.at' λo e=>hk I (by simp) o e,st.2.at' λo e=>hk a (by simp) o e⟩
 item:=λi s Q E hi st hQ=>by
  have hl:vs.size=es.size:=by rw[<- Qd,W.pm.length_eq,Qd]
  have hv:vs[i]? = some vs[i]:=by simp[hl,hi]
  refine QuT st.1 st.2 (x:=vs[i].2) (nx:=so (i+1)) (λA E Q' q=>W.item s A E Q' i _ st.2 hv q) λh' hit' hs'=>?_
  refine hQ _ h' s.toks (by rw[hv];rfl) ⟨hit',st.2.at' λo e=>hs'.extBut a o (λz=>hne z) e⟩ λb o hb e=>hs'.extBut b o (λz=>hb (by simp[z])) e
 done:=λs Q E st hQ=>Qx4 hh st.1 st.2 (λA E Q' q=>W.fin s A E Q' st.2 q) λh' he'=>hQ h' s.toks λb o hb e=>he' b o (λz=>hb (by simp[z])) e
 self:=λi s Q E st hQ=>self s Q E i st.1 hQ
theorem Qo6{prog:QC}{w:Q9}(hb:w.params.followText "set-order" = true)(a:Addr)(es:Array (Int×Value))(ep:Nat)(t:SetTable):Way prog w a es ep t (λ_=>0) (pickOrder (w.params.setOrder a ep) es) where
 pm:=Qh8 _ _
 s0:=rfl
 item:=λs A E Q i e ha hv q=>Qmz hb ha (by rw[hv];exact q)
 fin:=λs A E Q ha q=>Qmz hb ha (by
  have hl:(pickOrder (w.params.setOrder a ep) es).size=es.size:=by rw[<- Qd,(Qh8 _ _).length_eq,Qd]
  rw[Z6 (by omega)];exact q)
theorem Qtr{prog:QC}{w:Q9}(hb:w.params.followText "set-order" = false)(a:Addr)(es:Array (Int×Value))(ep:Nat)(t:SetTable)(hp:t.plain=true)(hl:t.led=true)(hz:t.place.size=es.size)(so:Nat->Nat)(s0:so 0=0)(hs:∀i,i<t.place.size->so (i+1)=t.place.getD i 0+1)(hbel:∀i,i<=t.place.size->JM t.place (so i)=i):Way prog w a es ep t so es where
 pm:=Y6 _
 s0:=s0
 item:=λs A E Q i e ha hv q=>Qsq hb ha hp hl (by
  have hi:i<es.size:=by
   by_cases z:i<es.size
   ·exact z
   ·rw[Z6 (by omega)] at hv;cases hv
  rw[hbel i (by omega),hv,show t.place[i]? = some (t.place.getD i 0) by simp[Zk,show i<t.place.size by omega]]
  dsimp only
  rw[<- hs i (by omega)];exact q)
 fin:=λs A E Q ha q=>Qsq hb ha hp hl (by
  rw[hbel es.size (by omega),Z6 (Qh _)];exact q)
section
variable{prog:QC}{w:Q9}{A:Q5}{E:Value->Shared->Prop}{s:Shared}
theorem QnW(n:Nat){k:Int}{v:Value}(h:(intKind prog w).is k v=true):hashByValue n v=pure true/\∀d,ofAClassStatement d v=pure false:=by
 cases v<;>first | (cases h;done) | skip
 all_goals first | exact⟨by cases n<;>rfl,λd=>by cases d<;>rfl⟩ | (simp[intKind] at h)
theorem Qip{ks:List Int}{vs:List Value}(h:ItemsAre (intKind prog w) ks vs):∀v∈vs,∃k,(intKind prog w).is k v=true:=by
 induction h with
 |nil=>intro v hv;cases hv
 |cons h1 _ ih=>
  intro v hv;rcases Qu.mp hv with z | z
  ·subst z;exact⟨_,h1⟩
  ·exact ih v z
end
theorem QfS(t:SetTable):∀(n:Nat)(p:Zc),(stps t n p).dummy=p.dummy
 |0,_=>rfl
 |n+1,p=>by
  show(stps t n (t.advance p)).dummy=_;rw[QfS t n,QiK]
section
variable{prog:QC}{w:Q9}{A:Q5}{E:Value->Shared->Prop}{s:Shared}
structure TS (prog:QC) (w:Q9) (h:Heap) (a:Addr) (es:Array (Int×Value)) (ep:Nat) (t:SetTable) (ps:List (List Int×Addr)):Prop where
 at_:SetAt h a es ep t
 tab:Tab t
 ent:es.toList=ps.map λp=>(tupleKeyHash (intKind prog w) p.1,QJ p.2)
 key:∀p∈ps,Qas (intKind prog w) h p.1 p.2
 nd:(ps.map (·.1)).Nodup
 rch:∀(i j:Nat)(e:Int×Value),t.place[i]? = some j->es[i]? = some e->Rch t j e.1
 mks:t.mask=7∨t.mask=31∨t.mask=127∨t.mask=511∨t.mask=2047
 few:t.place.size*5<t.mask*3
variable{a:Addr}{es:Array (Int×Value)}{ep:Nat}{t:SetTable}{ps:List (List Int×Addr)}
theorem TS.size(x:TS prog w s.heap a es ep t ps):es.size=ps.length:=by rw[<- Qd,x.ent,Qf]
end
def Sm(m:Nat):List Nat:=(Qq 6).filter m.testBit
def tb(m:Nat)(led:Bool):SetTable:={ mask:=if 5<=(Sm m).length then 31 else 7,place:=(Sm m).toArray,dummies:=#[],finger:=0,led:=led,moves:=if 5<=(Sm m).length then 1 else 0,plain:=true }
def so(m i:Nat):Nat:=match i with
 |0=>0
 |i+1=>(Sm m).toArray.getD i 0+1
def EsOk(es:Array (Int×Value))(S:List Nat):Prop:=∃tks:List Tok,tks.length=S.length/\es.toList=QlZ (λ(v:Nat)(tk:Tok)=>((v:Int),Qb1 (v:Int) tk)) S tks
theorem EsOk.size{es:Array (Int×Value)}{S:List Nat}(h:EsOk es S):es.size=S.length:=by
 obtain⟨tks,hl,e⟩:=h;rw[<- Qd,e,QoS,hl,Nat.min_self]
theorem Qtm{S:List Nat}{e:Int×Value}:∀{tks:List Tok},e∈QlZ (λ(v:Nat)(tk:Tok)=>((v:Int),Qb1 (v:Int) tk)) S tks->∃v∈S,∃tk,e=((v:Int),.int v tk):=by
 induction S with
 |nil=>intro tks h;cases tks<;>cases h
 |cons x S ih=>
  intro tks h;cases tks with
  |nil=>cases h
  |cons t tks=>
   rcases Qu.mp h with z | z
   ·exact⟨x,.head _,t,z⟩
   ·obtain⟨v,hv,r⟩:=ih z;exact⟨v,.tail _ hv,r⟩
theorem EsOk.mem{es:Array (Int×Value)}{S:List Nat}(h:EsOk es S){e:Int×Value}(he:e∈es.toList):∃v∈S,∃tk,e=((v:Int),.int v tk):=by
 obtain⟨tks,hl,e'⟩:=h;rw[e'] at he;exact Qtm he
theorem SetAt.store{h:Heap}{a:Addr}{es es':Array (Int×Value)}{ep:Nat}{t t':SetTable}(x:SetAt h a es ep t)(hf:t'.fits es'.size=true):SetAt (h.update a (QjZ es' t')) a es' (ep+1) t':=by
 obtain⟨o,ho,hex,hd⟩:=x.at_;have hg:=ZQ (QjZ es' t') ho (by rw[putSet_of es' t' hd];rfl);rw[putSet_of es' t' hd] at hg;exact⟨⟨_,hg,hex,rfl⟩,hf⟩
section
variable{prog:QC}{w:Q9}{A:Q5}{E:Value->Shared->Prop}{s:Shared}
end
def bits(val:Nat->Nat):Nat->Nat
 |0=>0
 |i+1=>bits val i ||| 2^val i
section
variable{prog:QC}{w:Q9}{A:Q5}{R:Qtb->Shared->Prop}{I:Addr}{fp wr:List Addr}{n:Nat}{P:Nat->Value->Prop}{St:Nat->Heap->Prop}
end
theorem ins_get{α β:Type}{l1:List α}{l2:List β}(hl:l1.length=l2.length){p:Nat}(hp:p<=l1.length){x:α}{y:β}{i:Nat}{u:α}{v:β}(h1:(l1.take p++x::l1.drop p)[i]? = some u)(h2:(l2.take p++y::l2.drop p)[i]? = some v):(u=x/\v=y)∨∃k:Nat,l1[k]? = some u/\l2[k]? = some v:=by
 have t1:(l1.take p).length=p:=by rw[JG];omega
 have t2:(l2.take p).length=p:=by rw[JG];omega
 rcases Qaf i p with z | z | z
 ·rw[ZH (by omega),Qi2 z] at h1 h2;exact .inr ⟨i,h1,h2⟩
 ·subst z;rw[Jk (by omega),t1,QfL] at h1;rw[Jk (by omega),t2,QfL] at h2;exact .inl ⟨(Qt h1).symm,(Qt h2).symm⟩
 ·rw[Jk (by omega),t1,show i - p=(i - p - 1)+1 by omega,ZY,YM] at h1;rw[Jk (by omega),t2,show i - p=(i - p - 1)+1 by omega,ZY,YM] at h2;exact .inr ⟨_,h1,h2⟩
section
variable{prog:QC}{w:Q9}{A:Q5}{E:Value->Shared->Prop}{s:Shared}{a:Addr}{es:Array (Int×Value)}{ep:Nat}{t:SetTable}{ps:List (List Int×Addr)}
theorem TS.other(x:TS prog w s.heap a es ep t ps){ks:List Int}{b:Addr}(hk:Qas (intKind prog w) s.heap ks b):b≠a:=λe=>by
 subst e;obtain⟨o,ho,hex,hd⟩:=x.at_.at_;obtain⟨o',it,n,ho',hc,_⟩:=hk;rw[ho] at ho';cases ho';rw[hex.1] at hc;exact absurd hc (by decide)
end
theorem QnX{t:SetTable}(h:t.mask=7∨t.mask=31∨t.mask=127∨t.mask=511∨t.mask=2047):Qcf (t.mask+1)=true:=by
 rcases h with h | h | h | h | h<;>rw[h]
 ·exact QsQ
 ·exact Qvk
 ·exact QrG
 ·exact QrF
 ·exact QnY
section
variable{prog:QC}{w:Q9}{A:Q5}{E:Value->Shared->Prop}{s:Shared}{a:Addr}{es:Array (Int×Value)}{ep:Nat}{t:SetTable}{ps:List (List Int×Addr)}
end
section
variable{prog:QC}{w:Q9}{A:Q5}{E:Value->Shared->Prop}{s:Shared}
def Qbd(w:Q9):Bool := !w.params.followText "set-order"
theorem QtE(a:Value){Q:Value->Shared->Prop}(h:Q (.ref s.heap.objs.size) { s with heap:=s.heap.push { cls:=.type "set",dict:=none,data:=.set #[] 0 (.fresh 0 0 (Qbd w)) } }):codeAny (model prog w) A (.call (.builtin "set.__new__") ⟨[.type "set",a],[]⟩) (wants Q E) s:=by
 refine Qep (by
  show wpAny _ A.in1 (do checkBuiltinCall "set.__new__" ⟨[.type "set",a],[]⟩;again (.builtin "set.__new__" ⟨[.type "set",a],[]⟩)) _ _ s;refine wpAny_bind (Yr (PySem.F.newCall_set_1 a) (Qb ⟨QbI QzT _,Qal F.entry_set_new ?_⟩));rw[Yi QzT _];unfold YO.«set.__new__» Qtl;have hsub:=sub_set_self;obtain⟨hp,g,d,tk,os⟩:=s
  dsimp only;wp_walk
  refine YX (Qb ?_);dsimp only;simp only[newObj];refine wpAny_bind (wpAny_alloc (Qb ?_));exact Qb h)
end
section
variable{prog:QC}{w:Q9}{s:Shared}{a:Addr}{es:Array (Int×Value)}{ep:Nat}{t:SetTable}{ps:List (List Int×Addr)}
theorem Qtu(led:Bool):Tab (Qbv 0 0 led):=⟨by simp[Qbv],by simp[Qbv],rfl,QsQ,rfl,by show 7 % 2=1;decide⟩
variable{A:Q5}{R:Qtb->Shared->Prop}{I:Addr}{fp wr:List Addr}{n:Nat}{P:Nat->Value->Prop}{St:Nat->Heap->Prop}
end
section
variable{prog:QC}{w:Q9}{A:Q5}{E:Value->Shared->Prop}{s:Shared}
end
theorem QmA:Slot "set_iterator" "__iter__" "set_iterator.__iter__" :=
 .of (owner := "set_iterator") (n := "__iter__") (by rw[Qk9,Qeq];kernel_rfl) (by decide +kernel) (by decide +kernel) (by decide +kernel) (by first | exact .inl (by decide +kernel) | exact .inr (by decide +kernel)) (by rw[QcI];kernel_rfl)
theorem QAZ:entryFor table "set_iterator.__iter__" = some YO.«dict_keyiterator.__iter__» := entryFor_alias (id' := "dict_keyiterator.__iter__") (by kernel_rfl) (by first | rfl | decide +kernel | (unfold Qta;simp +decide [QoP])) (by decide +kernel) (by kernel_rfl)
theorem QA7(a:Value):argsOk "set_iterator.__iter__" ⟨[a],[]⟩:=by
 unfold argsOk;rw[signature?_of (id := "set_iterator.__iter__") (n:=['_', '_', 'r', 'e', 't', 'i', '_', '_']) (o:=['r', 'o', 't', 'a', 'r', 'e', 't', 'i', '_', 't', 'e', 's']) (by kernel_rfl) QxA];kernel_rfl
theorem Qu5:typeLookup (.type "set") "__len__" = pure (some (.builtin "set.__len__")):=by rw[Qk9,Qeq];kernel_rfl
section
variable{prog:QC}{w:Q9}{A:Q5}{E:Value->Shared->Prop}{s:Shared}
theorem QtD{I a:Addr}{first:Value}{i n ep:Nat}{Q:Value->Shared->Prop}(hit:IsSI s.heap I first i a n ep)(h:Q (.ref I) s):wpAny (model prog w) A (pyIter (.ref I)) Q E s:=by
 refine Qzr hit.typeIs QmA (JF QmA hit.typeIs QAZ ?_ (QA7 _));show wpAny _ _ (ret (.ref I)) _ _ s;exact Qb ⟨_,rfl, "set_iterator",_,hit.typeIs,QdN.lookup,h⟩
theorem QjM{a:Addr}{es vs:Array (Int×Value)}{ep:Nat}{t:SetTable}{so:Nat->Nat}{Q:List Value->Shared->Prop}(hh:A.handled=none)(W:Way prog w a es ep t so vs)(ha:SetAt s.heap a es ep t)(hp:t.plain=true)(hn:es.size<=sizeLine)
  (hQ:∀(h':Heap)(tk:Nat),(∀b o,s.heap.get? b=some o->h'.get? b=some o)->Q (vs.toList.map (·.2)) { s with heap:=h',toks:=tk }):wpAny (model prog w) A (collect (.ref a)) Q E s:=by
 have hlt:a<s.heap.objs.size:=let ⟨o,ho,_⟩:=ha.at_;Qm ho
 unfold collect;refine wpAny_bind (wpAny_runValue (Qal F.entry_proto_collect ?_));rw[Yi F.plain_proto_collect _];show wpAny _ A.in1 (newList [] >>= λl=>again (.builtin "list.__iadd__" ⟨[l,.ref a],[]⟩)) _ _ s;refine wpAny_bind (Jy (Qb ⟨QbI Qwl _,Qal F.entry_list_iadd ?_⟩));rw[Yi Qwl _];generalize hH:s.heap.push { cls:=.type "list",data:=.seq ([]:List Value).toArray }=H;have hHs:H.objs.size=s.heap.objs.size+1:=by rw[<- hH,Zf]
 have keep:∀b o,s.heap.get? b=some o->H.get? b=some o:=λb o e=>hH ▸ Qe _ e
 have hS:H.get? s.heap.objs.size=some { cls:=.type "list",data:=.seq ([]:List Value).toArray }:=hH ▸ Qw _ rfl;have ha1:SetAt H a es ep t:=ha.at' λo e=>keep a o e
 have hT:QiN { s with heap:=H } (.ref a) "set" := let ⟨o,ho,hx,_⟩:=ha1.at_;⟨o,ho,hx.1⟩
 show wpAny _ A.in1 (Qeb (.ref s.heap.objs.size) (.ref a) (.ref s.heap.objs.size)) _ _ { s with heap:=H };unfold Qeb;refine wpAny_bind (Qbn hT ?_);have h1:QeU (.ref s.heap.objs.size) (.ref a)=false:=by simp[QeU,Qax hlt]
 have h2:(Yj "set" == Yj "list")=false:=by decide
 have h3:(Yj "set" == Yj "tuple")=false:=by decide
 simp only[h1,h2,h3,Qzc,JI,if_false];refine wpAny_bind (Qyj ha1 hp ?_);generalize hH2:Heap.push H { cls:=.type "set_iterator",data:=.fields #[.int 0 0,.int 0 0,.ref a,.int es.size 0,.int ep 0] }=H2;have keep2:∀b o,H.get? b=some o->H2.get? b=some o:=λb o e=>hH2 ▸ Qe _ e
 have hT2:QiN { s with heap:=H2 } (.ref a) "set" := let ⟨o,ho,hc⟩:=hT;⟨o,keep2 a o ho,hc⟩
 have hI:IsSI H2 H.objs.size (.int (so 0) 0) 0 a es.size ep:=⟨_,hH2 ▸ Qw _ rfl,rfl,by rw[W.s0];rfl⟩;refine wpAny_bind (J6 ?_);show wpAny _ A.in1 _ _ _ { s with heap:=H2 };unfold Builtin.List.listLengthHint;refine wpAny_bind (Ya hT2 Qu5 ?_)
 wp_delta
 refine wpAny_bind (QaB (b:=true) hT2 (by rw[QcI];kernel_rfl) ?_);show wpAny _ A.in1 (typeOf (QJ a) >>= _) _ _ _;refine wpAny_bind (Qbn hT2 (Qb ?_));show wpAny _ A.in1 (rule "list.extend.makes-room" >>= λ_=>Builtin.List.listTouch (.ref s.heap.objs.size) >>= λ_=>again (.builtin "list.extend.loop" ⟨[.ref s.heap.objs.size,.ref H.objs.size,.ref s.heap.objs.size],[]⟩)) _ _ _;refine wpAny_bind (wpAny_rule (wpAny_bind ?_));show wpAny _ A.in1 (updateSeq s.heap.objs.size (·.push .none) >>= λ_=>updateSeq s.heap.objs.size (·.pop)) _ _ _;have hS1:=keep2 _ _ hS;refine wpAny_bind (wpAny_updateSeq hS1 rfl ?_);have hS2:=ZQ (ZT (·.push Ze)) hS1 rfl;refine wpAny_updateSeq hS2 rfl ?_
 have hS3:=ZQ (ZT (·.pop)) hS2 rfl;generalize hH3:(H2.update s.heap.objs.size (ZT (·.push Ze))).update s.heap.objs.size (ZT (·.pop))=H3 at hS3 ⊢;have oth:∀b o,b≠s.heap.objs.size->H2.get? b=some o->H3.get? b=some o:=λb o hb e=>hH3 ▸ (YJ _ _ (QcP hb)).trans ((YJ _ _ (QcP hb)).trans e)
 have hIS:H.objs.size≠s.heap.objs.size:=by omega
 have hne:a≠H.objs.size:=by rw[hHs];exact Qz (ZF hlt)
 have hSf:s.heap.objs.size∉[H.objs.size,a]:=by simp only[Qu,Jh,or_false,not_or];exact⟨by omega,Qax hlt⟩
 have WW:=(Way.walks (A:=A.in1) hh W H.objs.size hne λs Q E i st q=>QtD st q).toS;refine Qb ⟨QbI F.plain_extend_loop _,codeAny_extend_loopS WW hn _ hSf _ es.size 0 { s with heap:=H3 } _ _ rfl (Qs _) ⟨hI.at' λo e=>oth _ o hIS e,ha1.at' λo e=>oth a o (Qz hlt) (keep2 a o e)⟩ hS3 (ItemsOf.nil _) λs' acc' c' hm hS' hacc=>?_⟩;show wpAny _ A (load s.heap.objs.size >>= _) _ _ s';refine wpAny_bind (wpAny_load hS' (Qb ?_));have hl:vs.size=es.size:=by rw[<- Qd,W.pm.length_eq,Qd]
 have he:acc'.toList=vs.toList.map (·.2):=by
  apply Z1
  intro j;rw[QB,Q0,Q0];by_cases z:j<acc'.size
  ·have:=hacc.2 j acc'[j] (by simp[z]);rw[this];simp[z]
  ·rw[Z6 (by omega),Z6 (by have:=hacc.1;omega)];rfl
 show Q acc'.toList s';rw[he];have es':s'={ s with heap:=s'.heap,toks:=s'.toks }:=by
  obtain⟨hp',g',d',tk',os'⟩:=s';have e1:=hm.gens;have e2:=hm.drawn;have e3:=hm.os;simp only at e1 e2 e3;rw[e1,e2,e3]
 rw[es'];refine hQ _ _ λb o e=>?_
 have hb:=Qm e;refine hm.heap b o ?_ (oth b o (Qz hb) (keep2 b o (keep b o e)))
 simp only[Qu,Jh,or_false,not_or];exact⟨Qz hb,by rw[hHs];exact Qz (ZF hb)⟩
end
end Zt
namespace Zt
open PySem.W PySem.Calls Rs
section
variable{prog:QC}{w:Q9}{A:Q5}{E:Value->Shared->Prop}{s:Shared}
end
end Zt
namespace L2
open Zt
section
variable{X:Cx}
end
end L2
namespace Dl
open L2 _root_.Rd Rk Zt
section
variable{X:Cx}{E:XK}
end
end Dl
namespace L2
open PySem.Calls _root_.Rd _root_.Rk _root_.Rs Rt Dl
section
variable{X:Cx}
theorem Qmw(hu:X.A.units+60<cLine){pins:List (Addr×Obj)}{s:Shared}{σ:L2.St}{H:Hp}(I:Inv X pins σ H s){vs:List V}{ds:List Qa}{its:List Value}(rv:Vals vs its)(hz:vs.length<=sizeLine)(dts:Dats H vs ds)(so:QaI ds){Q:VK}
  (q:∀(t:Addr)(ys:List V)(es:List Qa)(H2:Hp),Same H H2->H t=none->H2 t=some (.lst ys)->Dats H2 ys es->es.Perm ds->es.Pairwise (λa b=>ltD b a=false)->(∀y∈ys,y∈vs)->Q (.ref t) H2)(h':Heap)(tk:Nat)(kp:∀b x,s.heap.get? b=some x->h'.get? b=some x)(P:PySem.Fin->Shared->Prop)(E':Value->Shared->Prop)
  (hP:∀s2,(∃v H',Inv X pins σ H' s2/\RelV v (.ref h'.objs.size)/\Q v H')->P (.done (.ret .none)) s2) :
  wpAny (model X.prog X.w) X.A.in1.in1 (YO.«list.sort» ⟨[.ref h'.objs.size],[]⟩) P E' { s with heap:=h'.push (seqObj "list" its.toArray 0),toks:=tk }:=by
 have hu2:X.A.in1.in1.units+2*20+4<cLine:=by show X.A.units+1+1+2*20+4<cLine;omega
 have li:=rv.length;obtain⟨⟨as,ra⟩,cl⟩:=YS I.hok ds vs its dts rv;have okds:Qb8 ds=true:=Qg4 λd hd=>Qhm d (so.cmp d hd d hd)
 have ra':=YR kp ds its as okds ra
 let c:Keyed->Keyed->Bool:=λx y=>ltD (rdV h' x.1) (rdV h' y.1)
 have oc:Ord c:=⟨λx y=>Qha _ _,λx y z=>QkH _ _ _⟩;refine Qds (s:={ s with heap:=h'.push (seqObj "list" its.toArray 0),toks:=tk }) (c:=c) (Qw _ rfl) (by omega) oc (λh2 k2 Q' E' hq=>?_) λarr pm sg h2 e k2 e2=>hP _ ?_
 ·have kk:∀b x,h'.get? b=some x->h2.get? b=some x:=λb x e=>k2 b x (Qz (Qm e)) (Qe _ e)
  have ra2:=YR kk ds its as okds ra';have asks:∀κ,QlX ds κ->(∀b,κ=tuples' b->∀d∈ds,∃es,d=.tuple es)->Asks X.prog X.w X.A.in1.in1 { s with heap:=h2,toks:=tk } κ (prs its) c:=λκ su tb=>by
   refine⟨oc,λx y hx hy C E'' hC=>?_⟩;rw[Qcz] at hx hy;obtain⟨ex,hx⟩:=Qbi hx;obtain⟨ey,hy⟩:=Qbi hy;obtain⟨d1,m1,b1,r1⟩:=JZ ra2 x.2 hx;obtain⟨d2,m2,b2,r2⟩:=JZ ra2 y.2 hy;obtain⟨d1',m1',b1',r1'⟩:=JZ ra' x.2 hx;obtain⟨d2',m2',b2',r2'⟩:=JZ ra' y.2 hy;have k1:=ZL okds d1 m1;have k2:=ZL okds d2 m2;have c1:=Qa4 d1 k1;have c2:=Qa4 d2 k2;have c1':=Qa4 d1' (ZL okds d1' m1');have c2':=Qa4 d2' (ZL okds d2' m2');have q1:d1'=d1:=Ys d1' d1 x.2 _ _ c1' (QbE kk d1' _ _ (ZL okds d1' m1') r1') r1;have q2:d2'=d2:=Ys d2' d2 y.2 _ _ c2' (QbE kk d2' _ _ (ZL okds d2' m2') r2') r2;subst q1 q2;have hC:C (ltD (rdV h' x.1) (rdV h' y.1)) { s with heap:=h2,toks:=tk }:=hC;rw[ex,ey,Qf6 r1' c1',Qf6 r2' c2'] at hC;rw[ex,ey];exact QsN (N:=20) su m1 r1 r2 c1 c2 (so.cmp _ m1 _ m2) (λb e=>tb b e _ m1) (so.dep _ m1) hu2 hC
  cases ds with
  |nil=>
   cases ra2;exact QeL (s:={ s with heap:=h2,toks:=tk }) .nil rfl (λd hd=>nomatch hd) λκ su=>hq κ (asks κ su λb _ d hd=>nomatch hd)
  |cons d0 ds0=>
   have sh:(∀d∈d0::ds0,∃es,d=.tuple es)∨∀d∈d0::ds0,∃i,d=.int i:=by
    cases d0 with
    |int i=>exact .inr λd hd=>by have:=so.cmp _ (.head _) d hd;cases d<;>first | exact⟨_,rfl⟩ | (cases this;done)
    |tuple es=>exact .inl λd hd=>by have:=so.cmp _ (.head _) d hd;cases d<;>first | exact⟨_,rfl⟩ | (cases this;done)
    |_=>have:=so.cmp _ (.head _) _ (.head _);cases this
   rcases sh with sh | sh
   ·exact QeL (s:={ s with heap:=h2,toks:=tk }) ra2 okds sh λκ su=>hq κ (asks κ su λb _=>sh)
   ·have one:QlX (d0::ds0) oneType':=.inr (.inl rfl);by_cases l2:its.length<2
    ·have hk1:∀v∈its,∀(Q'':Option Value->Shared->Prop),Q'' none { s with heap:=h2,toks:=tk }->wpAny (model X.prog X.w) X.A.in1.in1 (firstOfTuple' v) Q'' E' { s with heap:=h2,toks:=tk }:=λv hv Q'' q''=>by
      obtain⟨d,hd,bs,r⟩:=JZ ra2 v hv;obtain⟨i,rfl⟩:=sh d hd;cases r;exact Qb q''
     have hk2:∀v∈its,∀(Q'':Value->Shared->Prop),Q'' (Rt.tyV h2 v) { s with heap:=h2,toks:=tk }->wpAny (model X.prog X.w) X.A.in1.in1 (typeOf v) Q'' E' { s with heap:=h2,toks:=tk }:=λv hv Q'' q''=>by
      obtain⟨d,hd,bs,r⟩:=JZ ra2 v hv;exact QgK (s:={ s with heap:=h2,toks:=tk }) r (ZL okds d hd) q''
     rw[Qwa,Yn,map_eq_pure_bind];refine wpAny_bind (wpAny_bind (Qej (g:=λ_=>(none:Option Value)) its hk1 (Qb ?_)));cases its with
     |nil=>cases ra2
     |cons v0 vs0=>
      rw[if_neg (by simp)];rw[if_neg (by simp)];rw[Qen,Yn,map_eq_pure_bind];refine wpAny_bind (wpAny_bind (wpAny_bind (Qej (g:=Rt.tyV h2) _ hk2 (Qb ?_))));have fin:∀b:Bool,wpAny (model X.prog X.w) X.A.in1.in1 (pure (if b=true then oneType' else general')) Q' E' { s with heap:=h2,toks:=tk }:=λb=>by
       have ni:∀{κ:Yt},(∀b',κ≠tuples' b')->∀b',κ=tuples' b'->∀d∈d0::ds0,∃es,d=ZW es:=λh b' e=>(h b' e).elim
       cases b
       ·exact Qb (hq _ (asks _ (.inl rfl) (ni λb' e=>by cases e)))
       ·exact Qb (hq _ (asks _ (.inr (.inl rfl)) (ni λb' e=>by cases e)))
      split
      ·exact Qb (fin _)
      ·exact Qb (fin _)
    ·have ia:∀{vs:List Value}{ds:List Qa}{as:List Addr},YL h2 vs ds as->(∀d∈ds,∃i,d=Qi i)->∃ns,IntsAre vs ns:=by
      intro vs ds as ra hs;induction vs generalizing ds as with
      |nil=>exact⟨[],.nil⟩
      |cons v vs ih=>
       cases ra with
       |cons r rs=>
        obtain⟨i,rfl⟩:=hs _ (.head _);obtain⟨ns,hn⟩:=ih rs λd hd=>hs d (.tail _ hd)
        cases r;exact⟨i::ns,.cons _ _ hn⟩
     obtain⟨ns,hn⟩:=ia ra2 sh
     match its,hn,l2 with
     |v1::v2::vs',hn,_=>
      rw[keyKind_ints hn];exact Qb (hq _ (asks _ one λb e=>by cases e))
     |[_],_,l2=>exact absurd (QgA 1) l2
     |[],_,l2=>exact absurd (Qwf) l2
 ·have I1:Inv X pins σ H { s with heap:=h',toks:=tk }:=I.kept (t':=tk) kp;have hf:H h'.objs.size=none:=I1.hok.fresh (Qh _);have pv:(arr.toList.map (·.2)).Perm its:=by
   have:=(Zz.mp pm).map (·.2)
   rwa [Qm0] at this
  obtain⟨Tr,t1,t2,t3,th⟩:=Qtt dts rv;obtain⟨Tr',p',e'⟩:=Qcd Trp.v (l:=arr.toList.map (·.2)) (by rw[<- t2];exact pv) (T:=Tr) rfl;have th':∀t∈Tr',Dat H t.x t.d/\RelV t.x t.v:=λt ht=>th t (p'.mem_iff.mp ht)
  obtain⟨dts',rv'⟩:=Qmk th';have ll:(Tr'.map (·.x)).length<=sizeLine:=by
   have:=p'.length_eq;rw[Qf,this,<- Qf (f:=Trp.x),<- t1];exact hz
  have I2:Inv X pins σ (upd H h'.objs.size (.lst (Tr'.map (·.x)))) { s with heap:=h2,toks:=tk }:=
   I1.laid (t':=tk) (λb x e'=>k2 b x (Qz (Qm e')) (Qe _ e')) (Qh _) (show ObjOk X.prog X.w _ _ _ (.lst _) from⟨ll,_,e,by rw[e'];exact rv',e2⟩)
  refine⟨.ref h'.objs.size,_,I2,rfl,q _ _ (Tr'.map (·.d)) _ (JL hf) hf JQ (dts'.same (JL hf)) (by rw[t3];exact p'.map _) ?_ λy hy=>?_⟩
  ·-- in order
   have len:arr.toList.length=Tr'.length:=by have:=congrArg QhC e';rwa [Qf,Qf] at this
   rw[Jo];intro i j hi hj hij;rw[Qf] at hi hj;rw[QcM,QcM];have ka:∀(k:Nat)(hk:k<Tr'.length),rdV h' (kx arr k).1=Tr'[k].d:=λk hk=>by
    have hk':k<arr.size:=by rw[<- Qd,len];exact hk
    have m:=QeK hk';have m2:=(Zz.mp pm).mem_iff.mp m;rw[Qcz] at m2;have e3:=(Qbi m2).1;have e4:(kx arr k).2=Tr'[k].v:=by
     have h5:(arr.toList.map (·.2))[k]? = some (kx arr k).2:=by rw[QB,QaQ hk'];rfl
     rw[e',QB,Qo hk] at h5;exact(Qt h5).symm
    rw[e3,e4];obtain⟨dt,rv0⟩:=th' _ (QfN hk);obtain⟨⟨bs,rr⟩,cc⟩:=Yg I1.hok _ _ _ dt rv0;exact Qf6 rr cc
   have g:ltD (rdV h' (kx arr j).1) (rdV h' (kx arr i).1)=false:=sg i j (Qs _) (by omega) (by rw[<- Qd,len];exact hj);rw[ka i hi,ka j hj] at g;exact g
  ·obtain⟨t,ht,rfl⟩:=Ql.mp hy;rw[t1];exact Ql.mpr ⟨t,p'.mem_iff.mp ht,rfl⟩
end
end L2
namespace Zt
section
variable{prog:QC}{w:Q9}{A:Q5}{E:Value->Shared->Prop}{s:Shared}
theorem Qtq{a:Addr}{es:Array (Int×Value)}{ep:Nat}{t:SetTable}(hs:SetAt s.heap a es ep t)(T:Tab t)(hl:t.led=Qbd w):∃so vs,Way prog w a es ep t so vs:=by
 have hz:t.place.size=es.size:=by
  have:=hs.ft;unfold QbT at this;exact eq_of_beq (Qp.mp this).1
 cases hb:w.params.followText "set-order" with
 |true=>exact⟨_,_,Qo6 hb a es ep _⟩
 |false=>
  have hl:t.led=true:=by rw[hl];unfold Qbd;rw[hb];rfl
  let so:Nat->Nat:=λi=>match i with
   |0=>0
   |i+1=>t.place.getD i 0+1
  refine⟨so,es,Qtr hb a es ep t T.pl hl hz so rfl (λi hi=>rfl) (λi hi=>?_)⟩;obtain⟨b1,b2,b3⟩:=QcF T.pw (so i);cases i with
  |zero=>
   cases hB:JM t.place (so 0) with
   |zero=>rfl
   |succ k=>
    have:=b2 0 (by omega) (by omega);exact absurd this (Y4 _)
  |succ i=>
   have e:so (i+1)=t.place[i]+1:=by show t.place.getD i 0+1=_;simp[Zk,show i<t.place.size by omega]
   rcases Qaf (JM t.place (so (i+1))) (i+1) with z | z | z
   ·have h1:=b3 i (by omega) (by omega);omega
   ·exact z
   ·have hi2:i+1<t.place.size:=by omega
    have h1:=b2 (i+1) hi2 z;have:=Jo.mp T.pw i (i+1) (by simp;omega) (by simp;omega) (by omega);simp only[Zb] at this;omega
end
end Zt
namespace Rk
open L2 _root_.Rd Dl Rt
def tN(ns:List Int):Qa:=.tuple (ns.map Qi)
theorem QrQ(ns:List Int):(tN ns).depth<=1:=by
 show QF (ns.map Qi)+1<=1;have:=Yl (n:=0) (ds:=ns.map Qi) λd hd=>by obtain⟨p,_,rfl⟩:=Ql.mp hd;exact Qh _
 omega
theorem Qgn:∀(L M:List Int),QaV (L.map Qi) (M.map Qi)=true
 |[],[]=>rfl
 |[],_::_=>rfl
 |_::_,[]=>rfl
 |_::L,_::M=>by show(true&&QaV (L.map Qi) (M.map Qi))=true;rw[Qgn L M];rfl
end Rk
namespace L2
open Zt _root_.Rd _root_.Rk Dl Rt
section
variable{X:Cx}
theorem Qfd{prog:QC}{w:Q9}:∀{r:List Int}{its:List Value},IntsAre its r->ItemsAre (intKind prog w) r its
 |_,_,.nil=>.nil
 |_,_,.cons n t h=>.cons (intKind_is _ _ _ _) (Qfd h)
theorem Qye{pins:List (Addr×Obj)}{s:Shared}{σ:L2.St}{H:Hp}(I:Inv X pins σ H s){r:List Int}{b:Addr}(h:H b=some (.tup (r.map V.int))):Qas (intKind X.prog X.w) s.heap r b:=by
 obtain⟨hz,its,rv,o,ho,hc,n,hd⟩:=I.hok b _ h;exact⟨o,its.toArray,n,ho,hc,hd,by simpa using Qfd (intsAre_of rv)⟩
theorem range_getD{α:Type}(L:List α)(d:α):(Qq L.length).map (λi=>L.getD i d)=L:=by
 apply Z1
 intro i;rw[QB];by_cases h:i<L.length
 ·rw[JT h,Qo h];show some (L.getD i d)=_;rw[Jx,Qo h];rfl
 ·rw[Js (by simpa using h),Js (by omega)];rfl
end
end L2
namespace Dl
open L2 _root_.Rd Rk Zt Rt
section
variable{X:Cx}{E:XK}
theorem Qf9:∀L:List Int,Qb8 (L.map Qi)=true
 |[]=>rfl
 |_::L=>by show(true&&Qb8 (L.map Qi))=true;rw[Qf9 L];rfl
end
end Dl
namespace Rk
open L2 _root_.Rd Dl Rt
mutual
theorem QxZ:∀(x y:Qa),okK x=true->okK y=true->Qci x y=.eq->x=y
 |.int i,.int j,_,_,h=>by
  have h:Qfv i j=.eq:=h;unfold Qfv at h;by_cases z:i<j
  ·rw[if_pos z] at h;cases h
  ·rw[if_neg z] at h;by_cases y:i=j
   ·rw[y]
   ·rw[if_neg y] at h;cases h
 |.int _,.tuple _,_,_,h=>by cases h
 |.tuple _,.int _,_,_,h=>by cases h
 |.tuple a,.tuple b,h1,h2,h=>by rw[QsD a b h1 h2 h]
 |.none,_,h,_,_=>by cases h
 |.bool _,_,h,_,_=>by cases h
 |.str _,_,h,_,_=>by cases h
 |.list _,_,h,_,_=>by cases h
 |.dict _,_,h,_,_=>by cases h
 |.int _,.none,_,h,_=>by cases h
 |.int _,.bool _,_,h,_=>by cases h
 |.int _,.str _,_,h,_=>by cases h
 |.int _,.list _,_,h,_=>by cases h
 |.int _,.dict _,_,h,_=>by cases h
 |.tuple _,.none,_,h,_=>by cases h
 |.tuple _,.bool _,_,h,_=>by cases h
 |.tuple _,.str _,_,h,_=>by cases h
 |.tuple _,.list _,_,h,_=>by cases h
 |.tuple _,.dict _,_,h,_=>by cases h
theorem QsD:∀(xs ys:List Qa),Qb8 xs=true->Qb8 ys=true->QbS xs ys=.eq->xs=ys
 |[],[],_,_,_=>rfl
 |[],_::_,_,_,h=>by cases h
 |_::_,[],_,_,h=>by cases h
 |x::xs,y::ys,h1,h2,h=>by
  have h1:=Qp.mp (show(okK x&&Qb8 xs)=true from h1);have h2:=Qp.mp (show(okK y&&Qb8 ys)=true from h2);have h:thn (Qci x y) (QbS xs ys)=.eq:=h;cases e:Qci x y with
  |eq=>rw[e] at h;rw[QxZ x y h1.1 h2.1 e,QsD xs ys h1.2 h2.2 h]
  |lt=>rw[e] at h;cases h
  |gt=>rw[e] at h;cases h
end
theorem QuP{x y:Qa}(h1:okK x=true)(h2:okK y=true)(a:ltD y x=false)(b:ltD x y=false):x=y:=by
 refine QxZ x y h1 h2 ?_
 rw[QnC] at a;unfold ltD at b;cases e:Qci x y with
 |eq=>rfl
 |lt=>rw[e] at b;cases b
 |gt=>rw[e] at a;cases a
theorem Qdi{es fs:List Qa}(p:es.Perm fs)(hk:∀d∈fs,okK d=true)(h1:es.Pairwise λa b=>ltD b a=false)(h2:fs.Pairwise λa b=>ltD b a=false):es=fs:=
 QfO (le:=λa b=>ltD b a=false) (λa b ha hb x y=>QuP (hk a (p.mem_iff.mp ha)) (hk b hb) x y) h1 h2 p
def QwD:List Qa->Bool
 |x::y::r => !ltD y x&&QwD (y::r)
 |_=>true
theorem Qje:∀{l:List Qa},QwD l=true->l.Pairwise λa b=>ltD b a=false
 |[],_=>.nil
 |[x],_=>QaC _ _
 |x::y::r,h=>by
  have h:=Qp.mp (show(!ltD y x&&QwD (y::r))=true from h);have ih:=Qje h.2;have hx:ltD y x=false:=by simpa using h.1
  refine Zp.mpr ⟨λz hz=>?_,ih⟩;rcases Qu.mp hz with rfl | hz
  ·exact hx
  ·exact QkH x y z hx ((Zp.mp ih).1 z hz)
def stpC(n:Nat):List (Int×Int):=Qel n n λr c=>decide (c<r)
def Qmu(n:Nat):Qa:=bdD n n (stpC n)
def Qby(l:List Int):Qa:=.tuple (l.map Qi)
def pPar(L:List (List Int)):Qa:=.tuple (L.map Qby)
def QoU(L:List (Int×Int))(lots:List (List Int))(t:Int):List (List Int):=
 match L.find? λp=>decide (p.1=t) with
 |some p=>lots.map λl=>if l.getLast? = some p.2 then l++[t] else l
 |none=>lots++[[t]]
def ptN(L:List (Int×Int)):Nat->List (List Int)
 |0=>[]
 |k+1=>QoU L (ptN L k) k
theorem Qsx(L:List (Int×Int)):∀k,∀l∈ptN L k,l≠[]
 |0,l,h=>nomatch h
 |k+1,l,h=>by
  have ih:=Qsx L k;have h:l∈QoU L (ptN L k) k:=h;unfold QoU at h;split at h
  ·obtain⟨m,hm,rfl⟩:=Ql.mp h;split
   ·simp
   ·exact ih m hm
  ·rcases Jb.mp h with h | h
   ·exact ih l h
   ·rw[Q6.mp h];simp
theorem QmY(L:List (Int×Int)):∀k,(ptN L k).length<=k/\∀l∈ptN L k,l.length<=k
 |0=>⟨Qh _,λl h=>nomatch h⟩
 |k+1=>by
  obtain⟨ih1,ih2⟩:=QmY L k;show(QoU L (ptN L k) k).length<=k+1/\∀l∈QoU L (ptN L k) k,l.length<=k+1
  unfold QoU;split
  ·refine⟨by rw[Qf];omega,λl h=>?_⟩;obtain⟨m,hm,rfl⟩:=Ql.mp h;have:=ih2 m hm;split
   ·rw[Qv];show _+1<=_;omega
   ·omega
  ·refine⟨by rw[Qv];show _+1<=_;omega,λl h=>?_⟩;rcases Jb.mp h with h | h
   ·have:=ih2 l h;omega
   ·rw[Q6.mp h];show 1<=_;omega
theorem Qib:∀l:List Int,Qb8 (l.map Qi)=true
 |[]=>rfl
 |x::l=>by show(true&&Qb8 (l.map Qi))=true;rw[Qib l];rfl
def Qor:List Int->List (Int×Int)
 |x::y::r=>(y,x)::Qor (y::r)
 |_=>[]
def cellP(L:List (List Int)):List (Int×Int):=L.flatMap Qor
theorem QiB:∀l:List Int,(Qor l).length<=l.length
 |[]=>Qh _
 |[_]=>Qs _
 |x::y::r=>by
  have:=QiB (y::r);show(Qor (y::r)).length+1<=(y::r).length+1;omega
def QvY:Qa->Qa
 |.tuple [a,b]=>.tuple [b,a]
 |_=>.none
theorem Qj5:∀l:List Int,(QgF (l.map Qi) (Dl.cutD (l.map Qi) (some 1) none)).map QvY=(Qor l).map pairD
 |[]=>by
  have h:(QgF ([]:List Qa) (Dl.cutD [] (some 1) none))=[]:=by unfold QgF;rfl
  rw[QfA,h];rfl
 |[x]=>by rw[Jc,QrV];rfl
 |x::y::r=>by
  have ih:=Qj5 (y::r);rw[Jc,QrV] at ih ⊢;show QvY (.tuple [.int x,.int y])::(QgF (Qi y::r.map Qi) (r.map Qi)).map QvY=_;rw[ih];rfl
def Qv3(x:List (List Int)):List (List (List Int))->List (List (List Int))
 |[]=>[x]
 |y::r=>if ltD (pPar y) (pPar x)=true then y::Qv3 x r else x::y::r
def Qv0:List (List (List Int))->List (List (List Int))
 |[]=>[]
 |x::r=>Qv3 x (Qv0 r)
theorem Qfh(x:List (List Int)):∀l,(Qv3 x l).Perm (x::l)
 |[]=>.refl _
 |y::r=>by
  show(if ltD (pPar y) (pPar x)=true then y::Qv3 x r else x::y::r).Perm _;split
  ·exact((Qfh x r).cons y).trans (.swap x y r)
  ·exact .refl _
theorem QhW:∀l,(Qv0 l).Perm l
 |[]=>.refl _
 |x::r=>(Qfh x (Qv0 r)).trans ((QhW r).cons x)
theorem QnS(x:List (List Int)):∀l,((l.map pPar).Pairwise λa b=>ltD b a=false)->((Qv3 x l).map pPar).Pairwise λa b=>ltD b a=false
 |[],_=>QaC _ _
 |y::r,h=>by
  have h':=Zp.mp (show(pPar y::r.map pPar).Pairwise _ from h);show((if ltD (pPar y) (pPar x)=true then y::Qv3 x r else x::y::r).map pPar).Pairwise _;by_cases z:ltD (pPar y) (pPar x)=true
  ·rw[if_pos z];refine Zp.mpr ⟨λd hd=>?_,QnS x r h'.2⟩;have hd:=((Qfh x r).map pPar).mem_iff.mp hd;rcases Qu.mp (show d∈pPar x::r.map pPar from hd) with e | e
   ·rw[e];exact Qha _ _ z
   ·exact h'.1 d e
  ·rw[if_neg z];refine Zp.mpr ⟨λd hd=>?_,h⟩;have z:ltD (pPar y) (pPar x)=false:=by simpa using z
   rcases Qu.mp (show d∈pPar y::r.map pPar from hd) with e | e
   ·rw[e];exact z
   ·exact QkH _ _ _ z (h'.1 d e)
theorem Qjd:∀l,((Qv0 l).map pPar).Pairwise λa b=>ltD b a=false
 |[]=>.nil
 |x::r=>QnS x _ (Qjd r)
def Qzg(r:List Int)(bits:Nat)(b:Int):List Int:=(Qq r.length).filterMap λk=>if Yx ((bits:Int) / 2^k) 1=b then some (r.getD k 0) else none
def QuC(t:Int)(r:List Int)(go:List Int->List (List (List Int)))(bits:Nat):List (List (List Int)):=(go (Qzg r bits 0)).map λmore=>(t::Qzg r bits 1)::more
def parted:Nat->List Int->List (List (List Int))
 |0,[]=>[[]]
 |_+1,[]=>[]
 |0,_::_=>[]
 |m+1,t::r=>Qv0 ((Qq (2^r.length)).flatMap (QuC t r (parted m)))
def Qzf(l bits:Nat)(b:Int):Nat:=((Qq l).filter λk=>decide (Yx ((bits:Int) / 2^k) 1=b)).length
def Qzi:Nat->Nat->Nat
 |0,0=>1
 |_+1,0=>0
 |0,_+1=>0
 |m+1,l+1=>((Qq (2^l)).map λbits=>Qzi m (Qzf l bits 0)).sum
theorem QjJ{α β:Type}(p:α->Bool)(f:α->β):∀l:List α,(l.filterMap λk=>if p k=true then some (f k) else none).length=(l.filter p).length
 |[]=>rfl
 |x::l=>by
  rw[ZE];cases h:p x with
  |true=>rw[Qcs h];simp[QjJ p f l]
  |false=>rw[Qct (by rw[h];decide)];simp[QjJ p f l]
theorem Qpg(r:List Int)(bits:Nat)(b:Int):(Qzg r bits b).length=Qzf r.length bits b:=by
 unfold Qzg Qzf;rw[<- QjJ (λk=>decide (Yx ((bits:Int) / 2^k) 1=b)) (λk=>r.getD k 0)]
 congr 1
 refine congrArg (λf=>List.filterMap f _) (funext λk=>?_);by_cases z:Yx ((bits:Int) / 2^k) 1=b
 ·rw[if_pos z,if_pos (decide_eq_true z)]
 ·rw[if_neg z,if_neg (by simpa using z)]
theorem Qf7:∀(m:Nat)(ts:List Int),(parted m ts).length=Qzi m ts.length
 |0,[]=>rfl
 |_+1,[]=>rfl
 |0,_::_=>rfl
 |m+1,t::r=>by
  show(Qv0 ((Qq (2^r.length)).flatMap (QuC t r (parted m)))).length=((Qq (2^r.length)).map λbits=>Qzi m (Qzf r.length bits 0)).sum;rw[(QhW _).length_eq,List.length_flatMap]
  congr 1
  refine JS λbits _=>?_
  unfold QuC;rw[Qf,Qf7 m,Qpg]
theorem Qp7:∀m l:Fin 7,Qzi m.val l.val<=100:=by decide +kernel
theorem QlB{m:Nat}{ts:List Int}(hm:m<=6)(ht:ts.length<=6):(parted m ts).length<=100:=by
 rw[Qf7];exact Qp7 ⟨m,by omega⟩ ⟨ts.length,by omega⟩
def rngI(n:Nat):List Int:=(Qq n).map λ(i:Nat)=>(i:Int)
def Qxa(n k:Nat):List (List (List Int)):=(evS (stpC n) k).map λL=>ptN L n
theorem QrX:∀n m:Fin 7,(m.val == 0||decide (n.val<m.val)||((parted m.val (rngI n.val)).isPerm (Qxa n.val (n.val - m.val))))=true:=by decide +kernel
theorem Qg5(L:List (List Int)):okK (pPar L)=true:=by
 show Qb8 (L.map Qby)=true;induction L with
 |nil=>rfl
 |cons l L ih=>show(Qb8 (l.map Qi)&&Qb8 (L.map Qby))=true;rw[Qib,ih];rfl
theorem Qp8{n m:Nat}{es:List Qa}(hn:n<=6)(m1:1<=m)(hm:m<=n)(p:es.Perm ((Qxa n (n - m)).map pPar))(pw:es.Pairwise λa b=>ltD b a=false):es=(parted m (rngI n)).map pPar:=by
 have c:=QrX ⟨n,by omega⟩ ⟨m,by omega⟩;have c:(m == 0||decide (n<m)||((parted m (rngI n)).isPerm (Qxa n (n - m))))=true:=c;rw[show(m == 0)=false from by simp;omega,decide_eq_false (by omega),Qj2,Qj2] at c;refine Qdi (p.trans ((Qdc.mp c).symm.map pPar)) (λd hd=>?_) pw ?_
 ·obtain⟨L,_,rfl⟩:=Ql.mp hd;exact Qg5 L
 ·cases m with
  |zero=>omega
  |succ m=>
   cases e:rngI n with
   |nil=>exact .nil
   |cons t r=>exact Qjd _
theorem QwA:∀n:Fin 7,decide ((Ql3 (stpC n.val) n.val).length<=200000)=true:=by decide +kernel
theorem Qsn:∀n k:Fin 7,decide (Wc (stpC n.val) n.val n.val 0 k.val<=300)=true:=by decide +kernel
end Rk
namespace Zn
open Zt
inductive InRows (prog:QC) (w:Q9) (h:Heap):List (List Int)->List Value->Prop
 |nil:InRows prog w h [] []
 |cons {k:List Int} {b:Addr} {ks:List (List Int)} {vs:List Value}:Qas (intKind prog w) h k b->InRows prog w h ks vs->InRows prog w h (k::ks) (.ref b::vs)
def IsTT(prog:QC)(w:Q9)(h:Heap)(ks:List (List Int))(a:Addr):Prop:=∃o items n,h.get? a=some o/\o.cls=.type "tuple" /\ o.data=.seq items n/\InRows prog w h ks items.toList
def ttHash(prog:QC)(w:Q9)(ks:List (List Int)):Int:=reduceHash (Zr (ks.map (tupleKeyHash (intKind prog w))))
def TK(h h':Heap):Prop:=∀c o,h.get? c=some o->o.cls=.type "tuple" -> h'.get? c=some o
section
variable{prog:QC}{w:Q9}{A:Q5}{E:Value->Shared->Prop}{s:Shared}
theorem InRows.all{h:Heap}{ks:List (List Int)}{vs:List Value}(x:InRows prog w h ks vs):∀v∈vs,∃k b,v=.ref b/\Qas (intKind prog w) h k b:=by
 induction x with
 |nil=>intro v hv;cases hv
 |cons h1 _ ih=>
  intro v hv;rcases Qu.mp hv with z | z
  ·subst z;exact⟨_,_,rfl,h1⟩
  ·exact ih v z
theorem InRows.inj{h:Heap}{x y:List (List Int)}{vs:List Value}(hx:InRows prog w h x vs)(hy:InRows prog w h y vs):x=y:=by
 induction hx generalizing y with
 |nil=>cases hy;rfl
 |cons h1 _ ih=>
  cases hy with
  |cons h2 t2=>rw[h1.inj h2,ih t2]
theorem InRows.keep{h h':Heap}(k:TK h h'){ks:List (List Int)}{vs:List Value}(x:InRows prog w h ks vs):InRows prog w h' ks vs:=by
 induction x with
 |nil=>exact .nil
 |cons h1 _ ih=>
  obtain⟨o,it,n,ho,hc,r⟩:=h1;exact .cons ⟨o,it,n,k _ _ ho hc,hc,r⟩ ih
theorem IsTT.keep{h h':Heap}(k:TK h h'){ks:List (List Int)}{a:Addr}(x:IsTT prog w h ks a):IsTT prog w h' ks a:=by
 obtain⟨o,it,n,ho,hc,hd,r⟩:=x;exact⟨o,it,n,k _ _ ho hc,hc,hd,r.keep k⟩
theorem IsTT.typeIs{ks:List (List Int)}{a:Addr}(x:IsTT prog w s.heap ks a):s.TypeIs (.ref a) "tuple" := let ⟨o,_,_,ho,hc,_⟩:=x;⟨o,ho,hc⟩
theorem IsTT.inj{h:Heap}{a:Addr}{x y:List (List Int)}(hx:IsTT prog w h x a)(hy:IsTT prog w h y a):x=y:=by
 obtain⟨o,items,n,ho,_,hd,hi⟩:=hx;obtain⟨o',items',n',ho',_,hd',hi'⟩:=hy;cases ho.symm.trans ho';rw[hd] at hd';injection hd' with h1 _
 subst h1;exact hi.inj hi'
theorem QmW{ks:List (List Int)}{a:Addr}{Q:Int->Shared->Prop}(hu:A.units+4<cLine)(hk:IsTT prog w s.heap ks a)(h:∀tk,Q (ttHash prog w ks) { s with toks:=tk }):wpAny (model prog w) A (pyHash (.ref a)) Q E s:=by
 have hT:=hk.typeIs;obtain⟨o,items,n,ho,_,hd,hi⟩:=hk;unfold pyHash
 first | unfold pyHashByItsType | skip
 first | refine wpAny_bind (wpAny_cRoomFor_or (.inr (by omega)) ?_) | skip
 refine wpAny_bind (Ya hT Qan.lookup ?_);show wpAny _ _ (if(some (Qer "tuple.__hash__") == some Ze)=true then _ else _) Q E s;rw[if_neg (by rw[beq_builtin_none];exact QK)];refine wpAny_bind (Ya hT Qan.lookup ?_);show wpAny _ _ (callSpecialIfBoundUnlessNone? (.ref a) "__hash__" _ >>= _) Q E s;refine wpAny_bind (wpAny_callSpecialIfBoundUnlessNone?_slot hT Qan (JF Qan hT F.entry_tuple_hash ?_ (F.args_tuple_hash_1 _)));show wpAny _ _ (QaT (.ref a) >>= _) _ _ s;refine wpAny_bind (Qgq ho hd ?_);refine wpAny_bind ?_
 rw[<- Yb];refine ZC _
  (λrest (b:Array Int) s'=>∃done left tk,ks=done++left/\InRows prog w s.heap left rest/\b.toList=done.map (tupleKeyHash (intKind prog w))/\s'={ s with toks:=tk })
  _ ?_ ?_ _ _ ⟨[],ks,s.toks,rfl,hi,rfl,rfl⟩
 ·rintro x rest b s' ⟨done,left,tk,rfl,hl,hb,rfl⟩;cases hl with
  |@cons k c ks' _ h1 hl'=>
   refine wpAny_bind (wpAny_pyHash_tuple (s:={ s with toks:=tk }) (by show A.units+1<cLine;omega) h1 ?_)
   first
    |exact Qb ⟨done++[k],ks',_,by simp,hl',by simp[hb],rfl⟩
    |exact wpAny_bind (Qb (Qb ⟨done++[k],ks',_,by simp,hl',by simp[hb],rfl⟩))
 ·rintro b s' ⟨done,left,tk,rfl,hl,hb,rfl⟩;cases hl;rw[JX] at h;show wpAny _ _ (retInt (Zr b.toList)) _ _ _;rw[hb];refine wpAny_ret_mkInt ?_
  show wpAny _ _ (if(decide (-(2:Int)^63<=Zr (done.map (tupleKeyHash (intKind prog w))))&&decide (Zr (done.map (tupleKeyHash (intKind prog w)))<2^63))=true then _ else _) Q E _;unfold ttHash reduceHash at h;by_cases hr:(decide (-(2:Int)^63<=Zr (done.map (tupleKeyHash (intKind prog w))))&&decide (Zr (done.map (tupleKeyHash (intKind prog w)))<2^63))=true
  ·rw[if_pos hr];rw[if_pos hr] at h;exact Qb (h _)
  ·rw[if_neg hr];rw[if_neg hr] at h;exact wpAny_bind (wpAny_rule (Qb (h _)))
theorem Qlm{x y:List (List Int)}{a b:Addr}{P:PySem.Fin->Shared->Prop}(hu:A.units<cLine)(hx:IsTT prog w s.heap x a)(hy:IsTT prog w s.heap y b)(h:P (.done (.ret (.bool (decide (x=y))))) s) :
  wpAny (model prog w) A (YO.«tuple.__eq__» ⟨[.ref a,.ref b],[]⟩) P E s:=by
 have hTb:=hy.typeIs;obtain⟨oa,xs,na,hoa,_,hda,hia⟩:=hx;obtain⟨ob,ys,nb,hob,_,hdb,hib⟩:=hy;show wpAny _ _ (isInstance (.ref b) (.type "tuple") >>= _) _ _ s;refine wpAny_bind (QaB hTb Qeo ?_);simp only[Yy,JI,if_false];refine wpAny_bind (Qgq hoa hda ?_);refine wpAny_bind (Qgq hob hdb ?_);refine wpAny_bind ?_
 refine ZC _
  (λrest r s'=>r.1=none/\s'=s/\∃x' y' xs' ys',rest=List.zip xs' ys'/\InRows prog w s.heap x' xs'/\InRows prog w s.heap y' ys'/\decide (x'=y')=decide (x=y)/\(xs'.length == ys'.length)=(xs.size == ys.size))
  _ ?_ ?_ _ _ ⟨rfl,rfl,x,y,xs.toList,ys.toList,rfl,hia,hib,rfl,by simp⟩
 ·rintro⟨u,v⟩ rest r s' ⟨hr,rfl,x',y',xs',ys',hz,hx',hy',hdec,hlen⟩;cases hx' with
  |nil=>simp at hz
  |@cons k1 u' x'' xs'' h1 hx''=>
   cases hy' with
   |nil=>simp at hz
   |@cons k2 v' y'' ys'' h2 hy''=>
    simp only[QbK,List.cons.injEq,Prod.mk.injEq] at hz;obtain⟨⟨rfl,rfl⟩,rfl⟩:=hz;refine wpAny_bind (wpAny_eqBool_tuple hu h1 h2 ?_);by_cases hk:k1=k2
    ·subst hk;rw[decide_eq_true rfl];simp only[Yy,JI,if_false];refine Qb ⟨rfl,rfl,x'',y'',xs'',ys'',rfl,hx'',hy'',?_,by simpa using hlen⟩;rw[<- hdec];by_cases hxy:x''=y''
     ·simp[hxy]
     ·simp[hxy]
    ·rw[decide_eq_false hk];simp only[Qwn,if_true];have hf:decide (x=y)=false:=by rw[<- hdec];simp[hk]
     rw[hf] at h;exact wpAny_bind (Qb (Qb (Qb h)))
 ·rintro⟨r1,r2⟩ s' ⟨hr,rfl,x',y',xs',ys',hz,hx',hy',hdec,hlen⟩;simp only at hr;subst hr;refine Qb ?_
  have hfin:(xs.size == ys.size)=decide (x=y):=by
   rw[<- hdec,<- hlen];cases hx' with
   |nil=>
    cases hy' with
    |nil=>simp
    |cons _ _=>simp
   |cons _ _=>
    cases hy' with
    |nil=>simp
    |cons _ _=>simp at hz
  show P (.done (.ret (.bool (xs.size == ys.size)))) s';rw[hfin];exact h
theorem Qiu{x y:List (List Int)}{a b:Addr}{Q:Bool->Shared->Prop}(hu:A.units+4<cLine)(hx:IsTT prog w s.heap x a)(hy:IsTT prog w s.heap y b)(h:Q (decide (x=y)) s):wpAny (model prog w) A (eqBool (.ref a) (.ref b)) Q E s:=by
 unfold eqBool
 try with_reducible refine J6 ?_
 show wpAny _ _ (if(QJ a == QJ b)=true then _ else _) Q E s;by_cases hab:(QJ a == QJ b)=true
 ·rw[if_pos hab];have e:a=b:=by have:=eq_of_beq hab;injection this
  subst e;obtain rfl:=hx.inj hy;exact wpAny_bind (wpAny_rule (Qb (by simpa using h)))
 ·rw[if_neg hab];exact wpAny_bind (wpAny_richCompare_same_room (op:=.Eq) hx.typeIs hy.typeIs QdJ
   (JF QdJ hx.typeIs F.entry_tuple_eq (Qlm (by show A.units+1<cLine;omega) hx hy ⟨_,rfl,(λe=>nomatch e),ZR h⟩) (F.args_tuple_eq_2 _ _)) (by omega))
theorem QwY{n:Nat}{ks:List Int}{a:Addr}{Q:Bool->Shared->Prop}(hk:Qas (intKind prog w) s.heap ks a)(h:Q true s):wpAny (model prog w) A (eqIsQuiet (n+1) (.ref a)) Q E s:=by
 have hT:=hk.typeIs;obtain⟨o,items,m,ho,_,hd,hi⟩:=hk;unfold eqIsQuiet;refine wpAny_bind (Ya hT QdJ.lookup ?_);show wpAny _ _ (isInstance (.ref a) (.type "tuple") >>= _) _ _ s;refine wpAny_bind (QaB hT Qeo ?_);simp only[Yy,JI,if_false];refine wpAny_bind (J9 ho hd ?_);refine wpAny_bind ?_
 show wpAny _ _ (forIn items _ _) _ _ s;rw[<- Yb];refine ZC _ (λrest r s'=>r.1=none/\s'=s/\∀v∈rest,carriedByValue v=true) _ ?_ ?_ _ _ ⟨rfl,rfl,hi.byValue⟩
 ·rintro v rest r s' ⟨hr,rfl,hall⟩;rw[eqIsQuiet_byValue _ (hall v Jm)];refine wpAny_bind (Qb ?_);simp only[Yy,JI,if_false];exact Qb ⟨rfl,rfl,λu hu'=>hall u (QH _ hu')⟩
 ·rintro⟨r1,r2⟩ s' ⟨hr,rfl,_⟩;simp only at hr;subst hr;exact Qb h
theorem Qkn{ks:List (List Int)}{a:Addr}{Q:Bool->Shared->Prop}(hk:IsTT prog w s.heap ks a)(h:Q true s):wpAny (model prog w) A (eqIsQuiet 8 (.ref a)) Q E s:=by
 have hT:=hk.typeIs;obtain⟨o,items,m,ho,_,hd,hi⟩:=hk;unfold eqIsQuiet;refine wpAny_bind (Ya hT QdJ.lookup ?_);show wpAny _ _ (isInstance (.ref a) (.type "tuple") >>= _) _ _ s;refine wpAny_bind (QaB hT Qeo ?_);simp only[Yy,JI,if_false];refine wpAny_bind (J9 ho hd ?_);refine wpAny_bind ?_
 show wpAny _ _ (forIn items _ _) _ _ s;rw[<- Yb];refine ZC _ (λrest r s'=>r.1=none/\s'=s/\∀v∈rest,∃k b,v=.ref b/\Qas (intKind prog w) s.heap k b) _ ?_ ?_ _ _ ⟨rfl,rfl,hi.all⟩
 ·rintro v rest r s' ⟨hr,rfl,hall⟩;obtain⟨k,b,rfl,hb⟩:=hall v Jm;refine wpAny_bind (QwY hb ?_);simp only[Yy,JI,if_false];exact Qb ⟨rfl,rfl,λu hu'=>hall u (QH _ hu')⟩
 ·rintro⟨r1,r2⟩ s' ⟨hr,rfl,_⟩;simp only at hr;subst hr;exact Qb h
theorem QCi{n:Nat}{ks:List Int}{a:Addr}{Q:Bool->Shared->Prop}(hk:Qas (intKind prog w) s.heap ks a)(h:Q true s):wpAny (model prog w) A (hashByValue (n+1) (.ref a)) Q E s:=by
 have hT:=hk.typeIs;obtain⟨o,items,m,ho,_,hd,hi⟩:=hk;have ha:=Qip hi;unfold hashByValue;refine wpAny_bind (Ya hT Qan.lookup ?_)
 dsimp only
 refine wpAny_bind (J9 ho hd ?_);refine wpAny_bind ?_
 show wpAny _ _ (forIn items _ _) _ _ s;rw[<- Yb];refine ZC _ (λrest r s'=>r.1=none/\s'=s/\∀v∈rest,∃k,(intKind prog w).is k v=true) _ ?_ ?_ _ _ ⟨rfl,rfl,ha⟩
 ·rintro v rest r s' ⟨hr,rfl,hall⟩;obtain⟨k,hk⟩:=hall v Jm;rw[(QnW _ hk).1];refine wpAny_bind (Qb ?_);simp only[Yy,JI,if_false];exact Qb ⟨rfl,rfl,λu hu'=>hall u (QH _ hu')⟩
 ·rintro⟨r1,r2⟩ s' ⟨hr,rfl,_⟩;simp only at hr;subst hr;exact Qb h
theorem Qyq{ks:List (List Int)}{a:Addr}{Q:Bool->Shared->Prop}(hk:IsTT prog w s.heap ks a)(h:Q true s):wpAny (model prog w) A (hashByValue 8 (.ref a)) Q E s:=by
 have hT:=hk.typeIs;obtain⟨o,items,m,ho,_,hd,hi⟩:=hk;unfold hashByValue;refine wpAny_bind (Ya hT Qan.lookup ?_)
 dsimp only
 refine wpAny_bind (J9 ho hd ?_);refine wpAny_bind ?_
 show wpAny _ _ (forIn items _ _) _ _ s;rw[<- Yb];refine ZC _ (λrest r s'=>r.1=none/\s'=s/\∀v∈rest,∃k b,v=.ref b/\Qas (intKind prog w) s.heap k b) _ ?_ ?_ _ _ ⟨rfl,rfl,hi.all⟩
 ·rintro v rest r s' ⟨hr,rfl,hall⟩;obtain⟨k,b,rfl,hb⟩:=hall v Jm;refine wpAny_bind (QCi hb ?_);simp only[Yy,JI,if_false];exact Qb ⟨rfl,rfl,λu hu'=>hall u (QH _ hu')⟩
 ·rintro⟨r1,r2⟩ s' ⟨hr,rfl,_⟩;simp only at hr;subst hr;exact Qb h
theorem QB7{n:Nat}{ks:List Int}{a:Addr}{Q:Bool->Shared->Prop}(hk:Qas (intKind prog w) s.heap ks a)(h:Q false s):wpAny (model prog w) A (ofAClassStatement (n+1) (.ref a)) Q E s:=by
 have hT:=hk.typeIs;obtain⟨o,items,m,ho,_,hd,hi⟩:=hk;have ha:=Qip hi;unfold ofAClassStatement;refine wpAny_bind (Qbn hT ?_)
 dsimp only
 rw[if_pos (by decide)];refine wpAny_bind (Qb ?_);rw[if_neg (by decide)];refine wpAny_bind (J9 ho hd ?_)
 dsimp only
 refine wpAny_bind ?_
 show wpAny _ _ (forIn items _ _) _ _ s;rw[<- Yb];refine ZC _ (λrest r s'=>r.1=none/\s'=s/\∀v∈rest,∃k,(intKind prog w).is k v=true) _ ?_ ?_ _ _ ⟨rfl,rfl,ha⟩
 ·rintro v rest r s' ⟨hr,rfl,hall⟩;obtain⟨k,hk⟩:=hall v Jm;rw[(QnW 0 hk).2];refine wpAny_bind (Qb ?_);rw[if_neg (by decide)];exact Qb ⟨rfl,rfl,λu hu'=>hall u (QH _ hu')⟩
 ·rintro⟨r1,r2⟩ s' ⟨hr,rfl,_⟩;simp only at hr;subst hr;exact Qb h
theorem QsG{ks:List (List Int)}{a:Addr}{Q:Bool->Shared->Prop}(hk:IsTT prog w s.heap ks a)(h:Q false s):wpAny (model prog w) A (ofAClassStatement 8 (.ref a)) Q E s:=by
 have hT:=hk.typeIs;obtain⟨o,items,m,ho,_,hd,hi⟩:=hk;unfold ofAClassStatement;refine wpAny_bind (Qbn hT ?_)
 dsimp only
 rw[if_pos (by decide)];refine wpAny_bind (Qb ?_);rw[if_neg (by decide)];refine wpAny_bind (J9 ho hd ?_)
 dsimp only
 refine wpAny_bind ?_
 show wpAny _ _ (forIn items _ _) _ _ s;rw[<- Yb];refine ZC _ (λrest r s'=>r.1=none/\s'=s/\∀v∈rest,∃k b,v=.ref b/\Qas (intKind prog w) s.heap k b) _ ?_ ?_ _ _ ⟨rfl,rfl,hi.all⟩
 ·rintro v rest r s' ⟨hr,rfl,hall⟩;obtain⟨k,b,rfl,hb⟩:=hall v Jm;refine wpAny_bind (QB7 hb ?_);rw[if_neg (by decide)];exact Qb ⟨rfl,rfl,λu hu'=>hall u (QH _ hu')⟩
 ·rintro⟨r1,r2⟩ s' ⟨hr,rfl,_⟩;simp only at hr;subst hr;exact Qb h
theorem Qph{ks:List (List Int)}{a:Addr}{stored:List Value}{Q:Bool->Shared->Prop}(hk:IsTT prog w s.heap ks a)(hs:∀v∈stored,∃ks' b,v=.ref b/\IsTT prog w s.heap ks' b)(h:Q false s):wpAny (model prog w) A (searchCouldBeSeen (.ref a) stored) Q E s:=by
 unfold searchCouldBeSeen;refine wpAny_bind ?_
 refine ZC _ (λrest r s'=>r.1=none/\s'=s/\∀v∈rest,∃ks' b,v=.ref b/\IsTT prog w s.heap ks' b) _ ?_ ?_ _ _ ⟨rfl,rfl,hs⟩
 ·rintro v rest r s' ⟨hr,rfl,hall⟩;obtain⟨ks',b,rfl,hb⟩:=hall v Jm
  dsimp only
  split
  ·exact Qb ⟨rfl,rfl,λu hu'=>hall u (QH _ hu')⟩
  ·refine wpAny_bind (Qkn hk ?_);rw[if_neg (by decide)];refine wpAny_bind (Qkn hb ?_);rw[if_neg (by decide)];refine wpAny_bind (QsG hk ?_);rw[if_neg (by decide)];refine wpAny_bind (QsG hb ?_);rw[if_neg (by decide)];exact Qb ⟨rfl,rfl,λu hu'=>hall u (QH _ hu')⟩
 ·rintro⟨r1,r2⟩ s' ⟨hr,rfl,_⟩;simp only at hr;subst hr;exact Qb h
end
section
variable{prog:QC}{w:Q9}{A:Q5}{E:Value->Shared->Prop}{s:Shared}
structure TZ (prog:QC) (w:Q9) (h:Heap) (a:Addr) (es:Array (Int×Value)) (ep:Nat) (t:SetTable) (ps:List (List (List Int)×Addr)):Prop where
 at_:SetAt h a es ep t
 tab:Tab t
 ent:es.toList=ps.map λp=>(ttHash prog w p.1,QJ p.2)
 key:∀p∈ps,IsTT prog w h p.1 p.2
 nd:(ps.map (·.1)).Nodup
 rch:∀(i j:Nat)(e:Int×Value),t.place[i]? = some j->es[i]? = some e->Rch t j e.1
 mks:t.mask=7∨t.mask=31∨t.mask=127∨t.mask=511∨t.mask=2047
 few:t.place.size*5<t.mask*3
variable{a:Addr}{es:Array (Int×Value)}{ep:Nat}{t:SetTable}{ps:List (List (List Int)×Addr)}
theorem TZ.esatZ(x:TZ prog w s.heap a es ep t ps)(i:Nat):es[i]? = (ps[i]?).map λp=>(ttHash prog w p.1,QJ p.2):=by
 rw[<- Q0,x.ent,QB]
theorem TZ.szZ(x:TZ prog w s.heap a es ep t ps):es.size=ps.length:=by rw[<- Qd,x.ent,Qf]
theorem TZ.pszZ(x:TZ prog w s.heap a es ep t ps):t.place.size=ps.length:=by
 have:=x.at_.ft;unfold QbT at this;have:=(Qp.mp this).1;rw[<- x.szZ];exact eq_of_beq this
theorem QAb(x:TZ prog w s.heap a es ep t ps)(hu:A.units+4<cLine){ks:List (List Int)}{b:Addr}(hk:IsTT prog w s.heap ks b){n:Nat}(hn:n<10*JA t.mask)(he:t.slot (stps t n (t.probeStart (ttHash prog w ks))).j=.empty){Q:SetFound->Shared->Prop}
  (hThere:ks∈ps.map (·.1)->Q (.there none) s)(hFree:ks∉ps.map (·.1)->∀j,j∉t.place.toList->j<=t.mask->Rch t j (ttHash prog w ks)->Q (.free j false) s) :
  ∀(fuel k0:Nat)(stand:Option Zc),k0<=n->n - k0<fuel->stand.getD (t.probeStart (ttHash prog w ks))=stps t k0 (t.probeStart (ttHash prog w ks))->(∀m,m<k0->∃i,t.slot (stps t m (t.probeStart (ttHash prog w ks))).j=.live i/\∀p,ps[i]? = some p->p.1≠ks) ->
   wpAny (model prog w) A (setSearchFrom a (.ref b) (ttHash prog w ks) true fuel stand) Q E s:=by
 obtain⟨o,ho,hex,hd⟩:=x.at_.at_;have hf:=x.at_.ft;intro fuel;induction fuel with
 |zero=>intro k0 stand _ h;exact absurd h (Y4 _)
 |succ fuel ih=>
  intro k0 stand h1 h2 h3 h4;generalize hH:ttHash prog w ks=H at *;unfold setSearchFrom;refine wpAny_bind (Zo ho hd hf ?_)
  dsimp only
  rw[if_neg (by unfold SetTable.gaveWay;rw[x.tab.od];decide)];obtain⟨k,hkn,pass,met⟩:=QrI x.tab (λi=>(es[i]?.map (·.1)).getD 0) H (n - k0) (10*JA t.mask) (stps t k0 (t.probeStart H)) (by omega) (by rw[<- Qac,show k0+(n - k0)=n by omega];exact he) (by rw[QfS];rfl);have eh:∀(i:Nat)(p:List (List Int)×Addr),ps[i]? = some p->(es[i]?.map (·.1)).getD 0=ttHash prog w p.1:=λi p hp=>by rw[x.esatZ,hp];rfl
  have pass':∀m,m<k0+k->∃i,t.slot (stps t m (t.probeStart H)).j=.live i/\∀p,ps[i]? = some p->p.1≠ks:=λm hm=>by
   by_cases z:m<k0
   ·exact h4 m z
   ·obtain⟨i,hi,hne⟩:=pass (m - k0) (by omega);rw[<- Qac,show k0+(m - k0)=m by omega] at hi;refine⟨i,hi,λp hp e=>hne ?_⟩;rw[eh i p hp,e];exact hH
  rcases met with⟨m1,m2⟩ | ⟨m0,i,m1,m2,m3⟩
  ·split
   ·rename_i mt hpb
    rw[h3] at hpb;have hpb:JE t (λi=>(es[i]?.map (·.1)).getD 0) H (10*JA t.mask) (stps t k0 (t.probeStart H))=some mt:=hpb;rw[m1] at hpb;cases hpb
    dsimp only
    rw[<- Qac] at m2 ⊢;have nin:=x.tab.slot_e m2;refine Qb (hFree (λhin=>?_) _ nin (Qjc t H _) ⟨k0+k,rfl,λm hm=>?_⟩)
    ·obtain⟨p,hp,rfl⟩:=Ql.mp hin;obtain⟨ix,hix⟩:=Ji.mp hp;have hlt:ix<t.place.size:=by rw[x.pszZ];exact(Jq.mp hix).1
     have hpl:t.place[ix]? = some t.place[ix]:=by simp[hlt]
     obtain⟨nn,e1,e2⟩:=x.rch ix _ _ hpl (by rw[x.esatZ,hix];rfl)
     dsimp only at e1 e2
     rw[hH] at e1 e2;have hlive:=x.tab.slot_at hpl;rw[<- e1] at hlive;rcases Qaf nn (k0+k) with z | z | z
     ·obtain⟨i',hi',hne⟩:=pass' nn z;rw[hlive] at hi';cases hi';exact hne p hix rfl
     ·rw[z,m2] at hlive;cases hlive
     ·exact nin (e2 _ z)
    ·obtain⟨i',hi',_⟩:=pass' m hm;have:=Tab.slot_l hi';exact ZU.mpr (YY this)
   ·rename_i hpb
    rw[h3] at hpb;exact absurd (show JE t (λi=>(es[i]?.map (·.1)).getD 0) H (10*JA t.mask) (stps t k0 (t.probeStart H))=none from by
     cases hz:JE t (λi=>(es[i]?.map (·.1)).getD 0) H (10*JA t.mask) (stps t k0 (t.probeStart H)) with
     |none=>rfl
     |some q=>exact absurd hz (hpb q)) (by rw[m1];exact λe=>by cases e)
  ·split
   ·rename_i mt hpb
    rw[h3] at hpb;have hpb:JE t (λi=>(es[i]?.map (·.1)).getD 0) H (10*JA t.mask) (stps t k0 (t.probeStart H))=some mt:=hpb;rw[m1] at hpb;cases hpb
    dsimp only
    have hpi:=Tab.slot_l m2;have hlt:i<ps.length:=by rw[<- x.pszZ];exact(Z7.mp hpi).1
    obtain⟨p,hp⟩:∃p,ps[i]? = some p:=⟨ps[i],by simp[hlt]⟩
    have hpm:=Q7 hp;have hei:es[i]? = some (ttHash prog w p.1,QJ p.2):=by rw[x.esatZ,hp];rfl
    have hst:∀v∈(List.map (λx=>x.2) (Array.filter (λx=>x.1 == H) es).toList),∃ks' b,v=QJ b/\IsTT prog w s.heap ks' b:=λv hv=>by
     obtain⟨e,he',rfl⟩:=Ql.mp hv;have he':e∈es.toList:=by
      rw[Array.toList_filter] at he';exact(JW.mp he').1
     rw[x.ent] at he';obtain⟨q,hq,rfl⟩:=Ql.mp he';exact⟨q.1,q.2,rfl,x.key q hq⟩
    have sm:t.sameMemory t.moves t.mask=some true:=by unfold SetTable.sameMemory;rw[if_pos (by simp)]
    split
    ·refine wpAny_bind (Qph hk hst ?_);rw[if_neg (by decide)];rw[hei]
     dsimp only
     refine wpAny_bind (J6 (Qiu hu (x.key p hpm) hk ?_));refine wpAny_bind (Zo ho hd hf ?_)
     dsimp only
     by_cases z:p.1=ks
     ·rw[if_pos (by simp[z])];exact Qb (hThere (Ql.mpr ⟨p,hpm,z⟩))
     ·rw[if_neg (by simp[z]),sm]
      dsimp only
      rw[if_pos rfl,m2]
      dsimp only
      rw[hei]
      dsimp only
      refine wpAny_bind ?_
      unfold isSame
      dsimp only
      rw[if_pos (by simp)];refine Qb (wpAny_bind (Qb ?_));rw[if_pos rfl]
      dsimp only
      rw[if_neg (by simp[z])];refine ih (k0+k+1) _ (by omega) (by omega) (by rw[<- Qac];rfl) λm hm=>?_
      by_cases y:m<k0+k
      ·exact pass' m y
      ·obtain rfl:m=k0+k:=by omega
       refine⟨i,by rw[Qac];exact m2,λq hq=>?_⟩;rw[hp] at hq;cases hq;exact z
    ·rw[hei]
     dsimp only
     refine wpAny_bind (J6 (Qiu hu (x.key p hpm) hk ?_));refine wpAny_bind (Zo ho hd hf ?_)
     dsimp only
     by_cases z:p.1=ks
     ·rw[if_pos (by simp[z])];exact Qb (hThere (Ql.mpr ⟨p,hpm,z⟩))
     ·rw[if_neg (by simp[z]),sm]
      dsimp only
      rw[if_pos rfl,m2]
      dsimp only
      rw[hei]
      dsimp only
      refine wpAny_bind ?_
      unfold isSame
      dsimp only
      rw[if_pos (by simp)];refine Qb (wpAny_bind (Qb ?_));rw[if_pos rfl]
      dsimp only
      rw[if_neg (by simp[z])];refine ih (k0+k+1) _ (by omega) (by omega) (by rw[<- Qac];rfl) λm hm=>?_
      by_cases y:m<k0+k
      ·exact pass' m y
      ·obtain rfl:m=k0+k:=by omega
       refine⟨i,by rw[Qac];exact m2,λq hq=>?_⟩;rw[hp] at hq;cases hq;exact z
   ·rename_i hpb
    rw[h3] at hpb;exact absurd (show JE t (λi=>(es[i]?.map (·.1)).getD 0) H (10*JA t.mask) (stps t k0 (t.probeStart H))=none from by
     cases hz:JE t (λi=>(es[i]?.map (·.1)).getD 0) H (10*JA t.mask) (stps t k0 (t.probeStart H)) with
     |none=>rfl
     |some q=>exact absurd hz (hpb q)) (by rw[m1];exact λe=>by cases e)
end
section
variable{prog:QC}{w:Q9}{A:Q5}{E:Value->Shared->Prop}{s:Shared}{a:Addr}{es:Array (Int×Value)}{ep:Nat}{t:SetTable}{ps:List (List (List Int)×Addr)}
theorem TZ.othZ(x:TZ prog w s.heap a es ep t ps){ks:List (List Int)}{b:Addr}(hk:IsTT prog w s.heap ks b):b≠a:=λe=>by
 subst e;obtain⟨o,ho,hex,hd⟩:=x.at_.at_;obtain⟨o',it,n,ho',hc,_⟩:=hk;rw[ho] at ho';cases ho';rw[hex.1] at hc;exact absurd hc (by decide)
theorem Qmq{h:Heap}{f:Obj->Obj}(x:SetAt h a es ep t):TK h (h.update a f):=λc o ho hc=>(YJ _ _ (λe:a=c=>by
 subst e;obtain⟨o',ho',hex,hd⟩:=x.at_;rw[ho] at ho';cases ho';rw[hex.1] at hc;exact absurd hc (by decide))).trans ho
theorem TZ.putZ(x:TZ prog w s.heap a es ep t ps){ks:List (List Int)}{b:Addr}(hk:IsTT prog w s.heap ks b)(hnew:ks∉ps.map (·.1)){j:Nat}(hj:j∉t.place.toList)(hm:j<=t.mask)(hr:Rch t j (ttHash prog w ks)) :
  SetAt (s.heap.update a (QjZ (Zx es (t.put j).2 (ttHash prog w ks,QJ b)) (t.put j).1)) a (Zx es (t.put j).2 (ttHash prog w ks,QJ b)) (ep+1) (t.put j).1 /\
  Tab (t.put j).1/\(Zx es (t.put j).2 (ttHash prog w ks,QJ b)).toList=(ps.take (t.put j).2++(ks,b)::ps.drop (t.put j).2).map (λp=>(ttHash prog w p.1,QJ p.2)) /\
  (∀p∈ps.take (t.put j).2++(ks,b)::ps.drop (t.put j).2,IsTT prog w (s.heap.update a (QjZ (Zx es (t.put j).2 (ttHash prog w ks,QJ b)) (t.put j).1)) p.1 p.2) /\
  (ps.take (t.put j).2++(ks,b)::ps.drop (t.put j).2).Perm ((ks,b)::ps) /\
  (∀(i j':Nat)(e:Int×Value),(t.put j).1.place[i]? = some j'->(Zx es (t.put j).2 (ttHash prog w ks,QJ b))[i]? = some e->Rch (t.put j).1 j' e.1) /\
  (t.put j).1.place.size=ps.length+1:=by
 obtain⟨T,pl,m1,m2,m3,m4⟩:=x.tab.put hj hm;have hle:(t.put j).2<=t.place.toList.length:=by
  rw[Qd];exact(QcF x.tab.pw j).1
 have hsz:(t.put j).1.place.size=ps.length+1:=by
  rw[<- Qd,pl,<- x.pszZ,<- Qd,Qv,Qx,JG,YA];omega
 have hes:(Zx es (t.put j).2 (ttHash prog w ks,QJ b)).toList=es.toList.take (t.put j).2++(ttHash prog w ks,QJ b)::es.toList.drop (t.put j).2:=Qgv _ _ _;have hent:(Zx es (t.put j).2 (ttHash prog w ks,QJ b)).toList=(ps.take (t.put j).2++(ks,b)::ps.drop (t.put j).2).map (λp=>(ttHash prog w p.1,QJ p.2)):=by
  rw[hes,x.ent,Jr,Jc,Qj0,List.map_drop]
 have hpm:(ps.take (t.put j).2++(ks,b)::ps.drop (t.put j).2).Perm ((ks,b)::ps):=by
  refine Qte.trans ?_
  rw[Jg]
 have hs1:(Zx es (t.put j).2 (ttHash prog w ks,QJ b)).size=ps.length+1:=by
  rw[<- Qd,hent,Qf,hpm.length_eq,Qx]
 have hfew:(t.put j).1.place.size<=(t.put j).1.mask:=by
  rw[hsz,m1,<- x.pszZ];have:=x.few;have:=x.mks;omega
 refine⟨x.at_.store ?_,T,hent,λp hp=>?_,hpm,λi j' e h1 h2=>?_,hsz⟩
 ·unfold QbT Qhy;rw[m4,hsz,hs1];rw[hsz] at hfew;simp[hfew]
 ·rcases Qu.mp (hpm.mem_iff.mp hp) with z | z
  ·subst z;exact hk.keep (Qmq x.at_)
  ·exact(x.key p z).keep (Qmq x.at_)
 ·rw[<- Q0,pl] at h1;rw[<- Q0,hes] at h2;have hl:t.place.toList.length=es.toList.length:=by rw[Qd,Qd,x.pszZ,x.szZ]
  have grow:∀y∈t.place.toList,y∈(t.put j).1.place.toList:=λy hy=>by
   rw[pl];rw[<- Jg (t.put j).2 t.place.toList] at hy;rcases Jb.mp hy with z | z
   ·exact ZV _ z
   ·exact QR _ (.tail _ z)
  rcases ins_get hl hle h1 h2 with⟨rfl,rfl⟩ | ⟨k,q1,q2⟩
  ·exact hr.mono m1 grow
  ·exact(x.rch k j' e (by rw[<- Q0];exact q1) (by rw[<- Q0];exact q2)).mono m1 grow
end
section
variable{prog:QC}{w:Q9}{A:Q5}{E:Value->Shared->Prop}{s:Shared}{a:Addr}{es:Array (Int×Value)}{ep:Nat}{t:SetTable}{ps:List (List (List Int)×Addr)}
theorem QwO{m wanted:Nat}{ps:List (List (List Int)×Addr)}(hA:SetAt s.heap a es ep t)(hpl:t.plain=true)(hent:es.toList=ps.map λp=>(ttHash prog w p.1,QJ p.2))(hkey:∀p∈ps,IsTT prog w s.heap p.1 p.2)(hoth:∀p∈ps,p.2≠a)(hnd:(ps.map (·.1)).Nodup)
  (hw:Qlf wanted=m+1)(hm:m=7∨m=31∨m=127∨m=511∨m=2047)(hf:ps.length*5<m*3){Q:Unit->Shared->Prop}
  (h:∀h' es' t' ps',TZ prog w h' a es' (ep+1) t' ps'->ps'.Perm ps->t'.led=t.led->Y2 a s.heap h'->Q () { s with heap:=h' }):wpAny (model prog w) A (setRelay a wanted) Q E s:=by
 obtain⟨o,ho,hex,hd⟩:=hA.at_;have hsz:es.size=ps.length:=by rw[<- Qd,hent,Qf]
 have hg:Qcf (m+1)=true:=QnX (t:=tM m) hm;obtain⟨t2,order,el,T,m1,m2,m3,m4,m5⟩:=QlI (finger:=t.finger) (moves:=t.movedTo m) (led:=t.led) hg (by omega) (es.map (·.1)) (by rw[QdD,hsz];omega);rw[QdD] at m3 m4;have pe:=QlC (es:=es) m4;have sz2:(order.filterMap (es[·]?)).size=es.size:=by rw[<- Qd,pe.length_eq,Qd]
 unfold setRelay;refine wpAny_bind (Zo ho hd hA.ft ?_)
 dsimp only
 rw[if_neg (by rw[hw,QaJ];omega)];refine wpAny_bind ?_
 have erl:t.relaid (es.map (·.1)) wanted=some (t2,order):=by
  unfold SetTable.relaid;rw[hw,QaK,hpl];exact el
 rw[erl];show wpAny (model prog w) A (if((order.filterMap (es[·]?)).size != es.size)=true then _ else _) _ E s;rw[if_neg (by rw[sz2];simp)];refine Qb ?_
 dsimp only
 have fit:t2.fits (order.filterMap (es[·]?)).size=true:=by
  unfold QbT Qhy;rw[T.dm,m3,sz2,hsz,m1];simp;omega
 refine Qzp ho hd ?_ (by rw[sz2,hsz,QaJ];omega)
 obtain⟨ps',pp,ep'⟩:∃ps':List (List (List Int)×Addr),ps'.Perm ps/\(order.filterMap (es[·]?)).toList=ps'.map λp=>(ttHash prog w p.1,QJ p.2):=by
  rw[hent] at pe;have key:∀{l k:List (Int×Value)},l.Perm k->∀{T:List (List (List Int)×Addr)},k=T.map (λp=>(ttHash prog w p.1,QJ p.2))->∃T':List (List (List Int)×Addr),T'.Perm T/\l=T'.map λp=>(ttHash prog w p.1,QJ p.2):=by
   intro l k p;induction p with
   |nil=>intro T e;exact⟨T,Y6 _,e⟩
   |@cons x l1 l2 _ ih=>
    intro T e;cases T with
    |nil=>cases e
    |cons y T=>
     injection e with e1 e2
     obtain⟨T',p',e'⟩:=ih e2;exact⟨y::T',p'.cons y,by rw[e1,e'];rfl⟩
   |swap x y l=>
    intro T e
    match T,e with
    |u::v::T,e=>
     injection e with e1 e2
     injection e2 with e2 e3
     exact⟨v::u::T,QfB _ _ _,by rw[e1,e2,e3];rfl⟩
   |trans _ _ ih1 ih2=>
    intro T e;obtain⟨T1,p1,e1⟩:=ih2 e;obtain⟨T2,p2,e2⟩:=ih1 e1;exact⟨T2,p2.trans p1,e2⟩
  exact key pe rfl
 refine h _ _ t2 ps' ⟨hA.store fit,T,ep',λp hp=>(hkey p (pp.mem_iff.mp hp)).keep (Qmq hA),(pp.map (·.1)).nodup_iff.mpr hnd,λi j e h1 h2=>?_,by rw[m1];exact hm,by rw[m3,hsz,m1];exact hf⟩ pp m2 (Zq ..);have hlt:i<order.size:=by
  have:order.size=es.size:=by
   have:=m4.length_eq;rw[Qd,QV] at this;exact this
  rw[this,<- m3];exact(Z7.mp h1).1
 have hok:order[i]? = some order[i]:=by simp[hlt]
 have hr:=m5 i j order[i] h1 hok;have hin:order[i]<es.size:=Jp.mp (m4.mem_iff.mp (ZU.mpr (Array.getElem_mem hlt)));have e2:e=es[order[i]]:=by
  have key:∀(l:List Nat),(∀x∈l,x<es.size)->∀i:Nat,(l.filterMap (es[·]?))[i]? = (l[i]?).bind (es[·]?):=λl=>by
   induction l with
   |nil=>intro _ i;rfl
   |cons x l ih=>
    intro hx i;have hx1:x<es.size:=hx x (.head _);have hx0:es[x]? = some es[x]:=by simp[hx1]
    rw[ZE,hx0];cases i with
    |zero=>simp[hx0]
    |succ i=>exact ih (λy hy=>hx y (.tail _ hy)) i
  rw[<- Q0,Qj4,key order.toList λy hy=>Jp.mp (m4.mem_iff.mp hy)] at h2;rw[Q0,hok] at h2;simp[hin] at h2;exact h2.symm
 have e3:(es.map (·.1)).getD order[i] 0=e.1:=by rw[e2];simp[Zk,hin]
 rw[e3] at hr;exact hr
theorem QA8(x:TZ prog w s.heap a es ep t ps)(hu:A.units+4<cLine){ks:List (List Int)}{b:Addr}(hk:IsTT prog w s.heap ks b)(h300:ps.length<1200){Q:Bool->Shared->Prop}
  (h1:ks∈ps.map (·.1)->∀tk,Q false { s with toks:=tk })
  (h2:ks∉ps.map (·.1)->∀h' es' ep' t' ps' tk,TZ prog w h' a es' ep' t' ps'->ps'.Perm ((ks,b)::ps)->t'.led=t.led->Y2 a s.heap h'->Q true { s with heap:=h',toks:=tk }):wpAny (model prog w) A (setAdd a (.ref b)) Q E s:=by
 obtain⟨o,ho,hex,hd⟩:=x.at_.at_;unfold setAdd;refine J6 (wpAny_bind (QmW hu hk λtk0=>?_));unfold setAddHashed;refine J6 ?_
 unfold setAddHashedIn;refine wpAny_bind (Zo (s:={ s with toks:=tk0 }) ho hd x.at_.ft ?_)
 dsimp only
 rw[if_neg (by unfold byScan Value.scannable;simp)];have hsm:t.place.size<=t.mask:=by
  have:=x.few;omega
 obtain⟨j0,hj0,hj1⟩:=x.tab.room hsm;obtain⟨n,hn,en⟩:=Qlp t (QnX x.mks) (ttHash prog w ks) hj0;have x':TZ prog w ({ s with toks:=tk0 }:Shared).heap a es ep t ps:=x;have hn2:n<100000:=by
  have:=x.mks;unfold JA at hn;omega
 refine wpAny_bind (QAb (s:={ s with toks:=tk0 }) x' hu hk hn (by rw[en];exact x.tab.slot_no hj1) (λhin=>?_) (λhnot j hj hjm hr=>?_) 100000 0 none (Qs _) (by omega) rfl λm hm=>absurd hm (Y4 _))
 ·exact Qb (h1 hin _)
 ·dsimp only
  refine wpAny_bind (Zo (s:={ s with toks:=tk0 }) ho hd x.at_.ft ?_)
  dsimp only
  obtain⟨q1,q2,q3,q4,q5,q6,q7⟩:=TZ.putZ (s:={ s with toks:=tk0 }) x' hk hnot hj hjm hr;obtain⟨T,pl,m1,m2,m3,m4⟩:=x.tab.put hj hjm;generalize hpt:t.put j=pt at *;obtain⟨t1,p1⟩:=pt
  dsimp only at *
  have hsz1:(Zx es p1 (ttHash prog w ks,QJ b)).size=ps.length+1:=by rw[<- Qd,q3,Qf,q5.length_eq,Qx]
  have hfill:t1.fill=ps.length+1:=by unfold Qhy;rw[m4,q7];rfl
  have hfew:=x.few;have hmk:=x.mks;have hps:=x.pszZ;have hes:=x.szZ;have hoth:∀p∈ps.take p1++(ks,b)::ps.drop p1,p.2≠a:=λp hp=>by
   rcases Qu.mp (q5.mem_iff.mp hp) with z | z
   ·subst z;exact x.othZ hk
   ·exact x.othZ (x.key p z)
  have hnd:((ps.take p1++(ks,b)::ps.drop p1).map (·.1)).Nodup:=(q5.map (·.1)).nodup_iff.mpr (by rw[Jc];exact Y1.mpr ⟨hnot,x.nd⟩);rw[if_pos q2.pl];refine wpAny_bind (Qyq hk ?_);simp only[↓reduceIte,Qwn,Qzb];refine wpAny_bind (Qzp (s:={ s with toks:=tk0 }) ho hd ?_ (by rw[hsz1,QaJ];omega));by_cases z:t1.tooFull=true
  ·rw[if_pos z];have z':t1.fill*5≥t1.mask*3:=of_decide_eq_true z;rw[hfill,m1] at z';obtain⟨m,hw,hm,hf⟩:∃m,Qlf (SetTable.grown (es.size+1))=m+1/\(m=7∨m=31∨m=127∨m=511∨m=2047)/\(ps.length+1)*5<m*3:=by
    rw[hes];rcases hmk with e | e | e | e | e
    ·have:ps.length=4:=by omega
     rw[this];exact⟨31,by decide,by decide,by decide⟩
    ·have:ps.length=18:=by omega
     rw[this];exact⟨127,by decide,by decide,by decide⟩
    ·have:ps.length=76:=by omega
     rw[this];exact⟨511,by decide,by decide,by decide⟩
    ·have:ps.length=306:=by omega
     rw[this];exact⟨2047,by decide,by decide,by decide⟩
    ·omega
   refine wpAny_bind (QwO q1 q2.pl q3 q4 hoth hnd hw hm (by rw[q5.length_eq,Qx];exact hf) λh' es' t' ps' ts pp led sb=>Qb (h2 hnot h' es' _ t' ps' _ ts (pp.trans q5) (led.trans m2) ((Zq ..).trans sb)))
  ·rw[if_neg z];have z':¬t1.fill*5≥t1.mask*3:=λc=>z (decide_eq_true c)
   rw[hfill] at z';exact Qb (h2 hnot _ _ _ _ _ _ ⟨q1,q2,q3,q4,hnd,q6,by rw[m1];exact hmk,by rw[q7];omega⟩ q5 m2 (Zq ..))
end
section
variable{prog:QC}{w:Q9}{s:Shared}{a:Addr}{es:Array (Int×Value)}{ep:Nat}{t:SetTable}{ps:List (List (List Int)×Addr)}
theorem TZ.atZ{h h':Heap}(x:TZ prog w h a es ep t ps)(k:∀o,h.get? a=some o->h'.get? a=some o)(k2:TK h h'):TZ prog w h' a es ep t ps:=
 ⟨x.at_.at' k,x.tab,x.ent,λp hp=>(x.key p hp).keep k2,x.nd,x.rch,x.mks,x.few⟩
theorem QwI{h:Heap}(x:SetAt h a es ep t){c:Addr}{o:Obj}(z:c=a)(ho:h.get? c=some o)(hc:o.cls=.type "tuple"):False:=by
 subst z;obtain⟨o',ho',hex,hd⟩:=x.at_;rw[ho] at ho';cases ho';rw[hex.1] at hc;exact absurd hc (by decide)
structure TZt (prog:QC) (w:Q9) (h:Heap) (a:Addr) (ys:List (List (List Int)×Addr)) (led:Bool):Prop where
 ex:∃es ep t ps,TZ prog w h a es ep t ps/\t.led=led/\ps.length<=ys.length/\(∀p∈ps,p∈ys)/\∀y∈ys,y.1∈ps.map (·.1)
variable{A:Q5}{R:Qtb->Shared->Prop}{I:Addr}{fp wr:List Addr}{n:Nat}{P:Nat->Value->Prop}{St:Nat->Heap->Prop}
theorem Qmj(W:Walks prog w A.in1 I fp wr n P St)(S:Addr)(hSf:S∉fp){led:Bool}(hu:A.in1.units+4<cLine)(f:Nat->List (List Int)×Addr)(hval:∀i v,P i v->v=.ref (f i).2)(hwt:∀i h,St i h->∀c∈wr,∀o,h.get? c=some o->o.cls≠.type "tuple")(h300:n<=1000) :
  ∀(k i:Nat)(s:Shared),n - i=k->i<=n->St i s.heap->(∀j,j<n->IsTT prog w s.heap (f j).1 (f j).2)->TZt prog w s.heap S ((Qq i).map f) led ->
   (∀h' tk,(∀b o,b∉S::wr->s.heap.get? b=some o->h'.get? b=some o)->TZt prog w h' S ((Qq n).map f) led->R (.ok (.ret .none)) { s with heap:=h',toks:=tk }) ->
   codeAny (model prog w) A (.builtin "set.update.loop" ⟨[.ref S,.ref I],[]⟩) R s:=by
 have hSw:S∉wr:=λz=>hSf (W.sub _ z)
 intro k;induction k with
 |zero=>
  intro i s hk hi hst hK hS hR;obtain rfl:i=n:=by omega
  refine Qal Qb5 ?_
  rw[Yi ZM _];show wpAny _ A.in1 (pyNext (.ref I) >>= _) _ _ s;refine wpAny_bind (W.done s _ _ hst λh' tk hk'=>Qb (hR h' tk (λb o hb e=>hk' b o (λz=>hb (QH _ z)) e) ?_));obtain⟨es,ep,t,ps,x,hl,hn,hsub,hall⟩:=hS.ex;exact⟨es,ep,t,ps,x.atZ (λo e=>hk' S o hSw e) (λc o ho hc=>hk' c o (λz=>hwt _ _ hst c z o ho hc) ho),hl,hn,hsub,hall⟩
 |succ k ih=>
  intro i s hk hi hst hK hS hR;have hlt:i<n:=by omega
  refine Qal Qb5 ?_
  rw[Yi ZM _];show wpAny _ A.in1 (pyNext (.ref I) >>= _) _ _ s;refine wpAny_bind (W.item i s _ _ hlt hst λv h' tk hP hst' hk'=>?_);obtain rfl:=hval i v hP;obtain⟨es,ep,t,ps,x,hl,hn,hsub,hall⟩:=hS.ex;have tk1:TK s.heap h':=λc o ho hc=>hk' c o (λz=>hwt _ _ hst c z o ho hc) ho
  have x':TZ prog w h' S es ep t ps:=x.atZ (λo e=>hk' S o hSw e) tk1;have hK':∀j,j<n->IsTT prog w h' (f j).1 (f j).2:=λj hj=>(hK j hj).keep tk1
  rw[Qf,QV] at hn;have er:(Qq (i+1)).map f=(Qq i).map f++[f i]:=by rw[Y0,Jr];rfl
  show wpAny _ A.in1 (holding [_] (setAdd S _) >>= _) _ _ _;refine wpAny_bind (J6 (QA8 (s:={ s with heap:=h',toks:=tk }) x' hu (hK' i hlt) (by omega) (λhin tk'=>?_) λhnot h2 es2 ep2 t2 ps2 tk' x2 pp hl2 sb=>?_))
  ·refine Qb ⟨QbI ZM _,ih (i+1) _ (by omega) hlt hst' hK' ⟨es,ep,t,ps,x',hl,by rw[Qf,QV];omega,λp hp=>?_,λy hy=>?_⟩ λh3 tk3 hk3 hS3=>hR h3 tk3 (λb o hb e=>?_) hS3⟩
   ·rw[er];exact ZV _ (hsub p hp)
   ·rw[er] at hy;rcases Jb.mp hy with z | z
    ·exact hall y z
    ·rw[Q6.mp z];exact hin
   ·exact hk3 b o hb (hk' b o (λz=>hb (QH _ z)) e)
  ·have oth:∀b o,b≠S->h'.get? b=some o->h2.get? b=some o:=λb o hb e=>by
    rw[sb.2 b hb];exact e
   refine Qb ⟨QbI ZM _,ih (i+1) _ (by omega) hlt (W.frame _ h' _ hst' λb hb o e=>oth b o (λz:b=S=>hSf (by rw[<- z];exact hb)) e) (λj hj=>(hK' j hj).keep λc o ho hc=>oth c o (λz=>QwI (x'.at_) z ho hc) ho) ⟨es2,ep2,t2,ps2,x2,hl2.trans hl,by rw[pp.length_eq,Qx,Qf,QV];omega,λp hp=>?_,λy hy=>?_⟩ λh3 tk3 hk3 hS3=>hR h3 tk3 (λb o hb e=>?_) hS3⟩
   ·rw[er];rcases Qu.mp (pp.mem_iff.mp hp) with z | z
    ·rw[z];exact QR _ (.head _)
    ·exact ZV _ (hsub p z)
   ·have pm:=pp.map (·.1);rw[er] at hy;rcases Jb.mp hy with z | z
    ·exact pm.mem_iff.mpr (.tail _ (hall y z))
    ·rw[Q6.mp z];exact pm.mem_iff.mpr (.head _)
   ·exact hk3 b o hb (oth b o (λz:b=S=>hb (by rw[z];exact Jm)) (hk' b o (λz=>hb (QH _ z)) e))
end
section
variable{prog:QC}{w:Q9}{A:Q5}{E:Value->Shared->Prop}{s:Shared}
theorem Qot{l:Addr}{items:Array Value}{n:Nat}{f:Nat->List (List Int)×Addr}{Q:Value->Shared->Prop}(hh:A.handled=none)(hu:A.units+60<cLine)(hl:s.heap.IsList l items)(hn:items.size=n)(h300:n<=1000)(hval:∀(i:Nat)(v:Value),items[i]? = some v->v=QJ (f i).2)(hK:∀j,j<n->IsTT prog w s.heap (f j).1 (f j).2)
  (h:∀(h':Heap)(tk:Nat),TZt prog w h' s.heap.objs.size ((Qq n).map f) (Qbd w)->(∀b o,b<s.heap.objs.size->s.heap.get? b=some o->h'.get? b=some o)->Q (.ref s.heap.objs.size) { s with heap:=h',toks:=tk }):wpAny (model prog w) A (call (.type "set") [.ref l]) Q E s:=by
 obtain⟨c,tl,hmro⟩:=QaE.mro;have hmade:=QaE.made;have hsub:=QaE.sub;refine wpAny_call (Qep (by
  show wpAny _ _ (callAny (.type "set") _) _ _ _;refine Qb ⟨Code.quiet_builtin _ (by decide +kernel),Qal F.entry_type_call ?_⟩;rw[Around.under_plain (weight_type_call_type "set" [.ref l] []) rfl];have h1:=QaE.notType;have h2:=QaE.canCreate;have hct:=F.typeCall_set_1 (.ref l)
  repeat (any_goals (first | assumption | wp_step))
  refine Qcq (QtE (.ref l) (E:=E) (Q:=λobj s₁=>obj=.ref s.heap.objs.size/\s₁={ s with heap:=s.heap.push { cls:=.type "set",dict:=none,data:=.set #[] 0 (.fresh 0 0 (Qbd w)) } }) ⟨rfl,rfl⟩) λr s₁ hr=>?_
  cases r with
  |error e=>exact hr
  |ok fl=>
   cases fl with
   |ret obj=>
    obtain⟨rfl,rfl⟩:=hr;have hS:(s.heap.push { cls:=.type "set",dict:=none,data:=.set #[] 0 (.fresh 0 0 (Qbd w)) }).get? s.heap.objs.size=some { cls:=.type "set",dict:=none,data:=.set #[] 0 (.fresh 0 0 (Qbd w)) }:=Qw _ rfl;have hT:QiN { s with heap:=s.heap.push { cls:=.type "set",dict:=none,data:=.set #[] 0 (.fresh 0 0 (Qbd w)) } } (.ref s.heap.objs.size) "set" := ⟨_,hS,rfl⟩;have hli:=QaE.init.lookup;have hbi:=QaE.init.bind (.ref s.heap.objs.size)
    repeat (any_goals (first | assumption | wp_step))
    refine Qcq (codeAny_call_builtin (R:=wants (λr s₂=>r=.none/\∃h' tk,s₂={ s with heap:=h',toks:=tk }/\TZt prog w h' s.heap.objs.size ((Qq n).map f) (Qbd w)/\(∀b o,b<s.heap.objs.size->s.heap.get? b=some o->h'.get? b=some o)) E) QaE.init.plain F.entry_set_init (check_set_init_1 hT ?_)) λr₂ s₂ hr₂=>?_
    ·obtain⟨⟨ocls,odict,odata,oslots⟩,hol,hcl,nl,hdl⟩:=hl;simp only at hcl hdl;subst hcl hdl;have hol':(s.heap.push { cls:=.type "set",dict:=none,data:=.set #[] 0 (.fresh 0 0 (Qbd w)) }).get? l=some { cls:=.type "list",dict:=odict,data:=.seq items nl,slots:=oslots }:=Qe _ hol;have hsls:=F.sub_list_set;have hslf:=F.sub_list_frozenset;have hne:(Yj "list" == Yj "dict")=false:=by decide
     have hl1:(s.heap.push { cls:=.type "set",dict:=none,data:=.set #[] 0 (.fresh 0 0 (Qbd w)) }).IsList l items:=⟨_,hol',rfl,nl,rfl⟩;unfold YO.«set.__init__» noKeywords Qtk;generalize hPI:pyIter=PI;wp_walk;subst hPI;refine QhG hl1 (wpAny_bind (wpAny_runValue ?_));have hlS:l<s.heap.objs.size:=Qm hol;have hneI:l≠(s.heap.push { cls:=.type "set",dict:=none,data:=.set #[] 0 (.fresh 0 0 (Qbd w)) }).objs.size:=by rw[Zf];exact Qz (ZF hlS)
     have hSf:s.heap.objs.size∉[(s.heap.push { cls:=.type "set",dict:=none,data:=.set #[] 0 (.fresh 0 0 (Qbd w)) }).objs.size,l]:=by
      rw[Zf];simp only[Qu,Jh,or_false,not_or];exact⟨Qz (QgA _),Qax hlS⟩
     have w0:=Walks.list (prog:=prog) (w:=w) (A:=A.in1.in1.in1) (by simp[hh]) (s.heap.push { cls:=.type "set",dict:=none,data:=.set #[] 0 (.fresh 0 0 (Qbd w)) }).objs.size l hneI items;rw[hn] at w0;refine Qmj (led:=Qbd w) w0 s.heap.objs.size hSf (by show A.units+1+1+1+4<cLine;omega) f (λi v hv=>hval i v hv) ?hW h300 n 0 _ (by omega) (Qs _) ⟨⟨_,Qw _ rfl,rfl,rfl⟩,hl1.push _⟩ (λj hj=>(hK j hj).keep λc o e _=>Qe _ (Qe _ e)) ?hS0 ?hR
     case hW=>
      intro i h hst c hm o ho hcl;obtain rfl:=Q6.mp hm;obtain⟨⟨o',ho',hc',_⟩,_⟩:=hst;rw[ho] at ho';cases ho';rw[hc'] at hcl;exact absurd hcl (by decide)
     case hS0=>
      refine⟨#[],0,Qbv 0 0 (Qbd w),[],⟨⟨⟨_,Qe _ hS,⟨rfl,rfl,rfl⟩,rfl⟩,by cases Qbd w<;>rfl⟩,Qtu _,rfl,(λp hp=>nomatch hp),Qwi,(λi j e h1=>by simp[Qbv] at h1),.inl rfl,by show 0*5<7*3;decide⟩,rfl,Qs _,(λp hp=>nomatch hp),(λy hy=>nomatch hy)⟩
     case hR=>
      intro h' tk hk hS';refine Qb ?_
      refine Qb ⟨rfl,h',tk,rfl,hS',λb o hb e=>?_⟩;have hb2:b≠(s.heap.push { cls:=.type "set",dict:=none,data:=.set #[] 0 (.fresh 0 0 (Qbd w)) }).objs.size:=by rw[Zf];exact Qz (ZF hb)
      exact hk b o (by simp only[Qu,Jh,or_false,not_or];exact⟨Qz hb,hb2⟩) (Qe _ (Qe _ e))
    ·cases r₂ with
     |error e=>exact hr₂
     |ok fl₂=>
      cases fl₂ with
      |ret r=>
       obtain⟨rfl,h',tk,rfl,hS',hk'⟩:=hr₂
       repeat (any_goals (first | assumption | wp_step))
       exact h _ _ hS' hk'
      |_=>exact hr₂
   |_=>exact hr))
end
def Qze(prog:QC)(w:Q9)(a:Addr)(ps:List (List (List Int)×Addr))(led:Bool)(h:Heap):Prop:=∃es ep t,SetAt h a es ep t/\Tab t/\t.led=led/\es.toList=ps.map λp=>(ttHash prog w p.1,QJ p.2)
section
variable{prog:QC}{w:Q9}{A:Q5}{E:Value->Shared->Prop}{s:Shared}
theorem QlA{ps:List (List (List Int)×Addr)}:∀{l k:List (Int×Value)},l.Perm k->∀{T:List (List (List Int)×Addr)},k=T.map (λp=>(ttHash prog w p.1,QJ p.2))->∃T':List (List (List Int)×Addr),T'.Perm T/\l=T'.map λp=>(ttHash prog w p.1,QJ p.2):=by
 intro l k p;induction p with
 |nil=>intro T e;exact⟨T,Y6 _,e⟩
 |@cons x l1 l2 _ ih=>
  intro T e;cases T with
  |nil=>cases e
  |cons y T=>
   injection e with e1 e2
   obtain⟨T',p',e'⟩:=ih e2;exact⟨y::T',p'.cons y,by rw[e1,e'];rfl⟩
 |swap x y l=>
  intro T e
  match T,e with
  |u::v::T,e=>
   injection e with e1 e2
   injection e2 with e2 e3
   exact⟨v::u::T,QfB _ _ _,by rw[e1,e2,e3];rfl⟩
 |trans _ _ ih1 ih2=>
  intro T e;obtain⟨T1,p1,e1⟩:=ih2 e;obtain⟨T2,p2,e2⟩:=ih1 e1;exact⟨T2,p2.trans p1,e2⟩
open PyProof.Rows PySem.W PySem.Calls Rs in
theorem Qjf{Q:Value->Shared->Prop}{a:Addr}{ps:List (List (List Int)×Addr)}(hh:A.handled=none)(hl:ps.length<=1000)(x:Qze prog w a ps (Qbd w) s.heap)
  (h:∀(h':Heap)(tk:Nat)(ps':List (List (List Int)×Addr)),ps'.Perm ps->(∀b x,s.heap.get? b=some x->h'.get? b=some x)->∀(P:PySem.Fin->Shared->Prop)(E':Value->Shared->Prop),(∀s2,Q (.ref h'.objs.size) s2->P (.done (.ret .none)) s2) ->
   wpAny (model prog w) A.in1.in1 (YO.«list.sort» ⟨[.ref h'.objs.size],[]⟩) P E' { s with heap:=h'.push (seqObj "list" (ps'.map λp=>QJ p.2).toArray 0),toks:=tk }) :
  wpAny (model prog w) A (call (.builtin "sorted") [.ref a]) Q E s:=by
 obtain⟨es,ep,t,sa,T,led,ent⟩:=x;have hsz:es.size=ps.length:=by rw[<- Qd,ent,Qf]
 obtain⟨so,vs,W⟩:=Qtq (prog:=prog) (w:=w) sa T led;obtain⟨ps',pp,e'⟩:=QlA (prog:=prog) (w:=w) (ps:=ps) W.pm ent;refine QbL Qv9 Qs5 Qs7 (Qs9 _) ?_
 unfold YO.«sorted»;refine wpAny_bind (m:=checkCount "sorted" 1 1 _) (Qb ?_);refine wpAny_bind (QjM (A:=A.in1) hh W sa T.pl (by rw[hsz,QaJ];omega) λh' tk kp=>?_);have ev:vs.toList.map (·.2)=ps'.map λp=>QJ p.2:=by rw[e',Q8];rfl
 rw[ev];refine wpAny_bind (Qgt ?_ (by rw[QaJ,Qf,pp.length_eq];omega));have hoL:(h'.push (seqObj "list" (ps'.map λp=>QJ p.2).toArray 0)).get? h'.objs.size=some (seqObj "list" (ps'.map λp=>QJ p.2).toArray 0):=Qw _ rfl;show wpAny _ _ _ _ _ { s with heap:=h'.push (seqObj "list" (ps'.map λp=>QJ p.2).toArray 0),toks:=tk };refine wpAny_bind (J6 (JF Ql7 ⟨_,hoL,rfl⟩ Qlc ?body (Ql8 _)));exact h h' tk ps' pp kp _ _ λs2 hq=>⟨_,rfl,Qb ⟨_,rfl,hq⟩⟩
end
end Zn
namespace Rk
def ttN(ns:List (List Int)):Qa:=.tuple (ns.map tN)
end Rk
namespace L2
open Zt _root_.Rd _root_.Rk Dl Rt
section
variable{X:Cx}
theorem Qlj{L:List (List (List Int)×Addr)}:∀{its:List Value},Vals (L.map λp=>V.ref p.2) its->its=L.map λp=>QJ p.2:=by
 induction L with
 |nil=>intro its r;cases r;rfl
 |cons p L ih=>intro its r;cases r with | cons r rs=>cases r;rw[ih rs];rfl
theorem Qf5:∀(L:List (List (List Int)×Addr)),Vals (L.map λp=>V.ref p.2) (L.map λp=>QJ p.2)
 |[]=>.nil
 |p::L=>.cons rfl (Qf5 L)
theorem Qek{H:Hp}:∀{bs:List Int}{xs:List V},Dats H xs (bs.map Qi)->xs=bs.map V.int
 |[],_,.nil=>rfl
 |b::bs,_,.cons q qs=>by
  cases q;rw[Qek qs];rfl
theorem Qiq{pins:List (Addr×Obj)}{s:Shared}{σ:L2.St}{H:Hp}(I:Inv X pins σ H s):∀(ks:List (List Int))(xs:List V)(its:List Value),Dats H xs (ks.map tN)->Vals xs its->Zn.InRows X.prog X.w s.heap ks its
 |[],_,_,.nil,.nil=>.nil
 |k::ks,_,_,.cons q qs,.cons r rs=>by
  have q:Dat H _ (.tuple (k.map Qi)):=q;cases q with
  |tup e dd=>
   cases r;rw[Qek dd] at e;exact .cons (Qye I e) (Qiq I ks _ _ qs rs)
theorem Qve{pins:List (Addr×Obj)}{s:Shared}{σ:L2.St}{H:Hp}(I:Inv X pins σ H s){r:List (List Int)}{b:Addr}(h:Dat H (.ref b) (ttN r)):Zn.IsTT X.prog X.w s.heap r b:=by
 have h:Dat H _ (.tuple (r.map tN)):=h;cases h with
 |tup e dd=>
  obtain⟨hz,its,rv,o,ho,hc,n,hd⟩:=I.hok b _ e;exact⟨o,its.toArray,n,ho,hc,hd,by simpa using Qiq I r _ _ dd rv⟩
def QAf(prog:QC)(w:Q9)(K:PySem.W.Frag):List V->Hp->VK->Prop:=λxs H Q=>∃(l:Addr)(L:List (List (List Int)×Addr)),xs=[.ref l]/\SqL K H l (L.map λp=>V.ref p.2)/\(∀p∈L,Dat H (.ref p.2) (ttN p.1))/\L.length<=1000 /\
 ∀(t:Addr)(H2:Hp)(ps:List (List (List Int)×Addr)),(ps.map (·.1)).Nodup->ps.length<=L.length->(∀p∈ps,p∈L)->(∀p∈L,p.1∈ps.map (·.1))->Same H H2->H t=none->H2 t=some (.ext (Zn.Qze prog w t ps (Qbd w)))->Q (.ref t) H2
theorem Qou(hc:X.calm=true)(hu:X.A.units+60<cLine):CallR X (.type "set") (QAf X.prog X.w X.K):=by
 intro pins s σ H xs us Q I r h;obtain⟨p,L,rfl,hp,hL,h300,q⟩:=h;obtain⟨u,rfl,ru⟩:=vals1 r;cases ru;obtain⟨its,rv,pl,hz⟩:=I.list hp;obtain rfl:=Qlj rv;have hget:∀i,i<L.length->L.getD i ([],0)∈L:=λi hi=>by
  rw[Jx,Qo hi];exact QfN hi
 refine Zn.Qot (items:=(L.map λp=>QJ p.2).toArray) (n:=L.length) (f:=λi=>L.getD i ([],0)) (I.ok.hd hc) hu pl.isList (by rw[Qr,Qf]) h300 (λi v hv=>?_) (λj hj=>Qve I (hL _ (hget j hj))) λh' tk hS hk=>?_
 ·rw[Ql2,QB] at hv;cases e:L[i]? with
  |none=>rw[e] at hv;cases hv
  |some y=>
   rw[e] at hv;cases hv;show _=QJ (L.getD i ([],0)).2;rw[Jx,e];rfl
 ·rw[range_getD] at hS;obtain⟨es,ep,t,ps,x,hl,hn,hsub,hall⟩:=hS.ex;have hf:H s.heap.objs.size=none:=I.hok.fresh (Qh _);refine⟨.ref s.heap.objs.size,upd H s.heap.objs.size (.ext (Zn.Qze X.prog X.w s.heap.objs.size ps (Qbd X.w))),I.laid (t':=tk) (λb x e=>hk b x (Qm e) e) (Qh _) ⟨⟨es,ep,t,x.at_,x.tab,hl,x.ent⟩,?_,λh1 h2 a b=>?_⟩,rfl,q _ _ ps x.nd hn hsub hall (JL hf) hf JQ⟩
  ·obtain⟨o,ho,_⟩:=x.at_.at_;exact⟨o,ho⟩
  ·obtain⟨es,ep,t,sa,r⟩:=a;exact⟨es,ep,t,sa.at' b,r⟩
def QwQ(prog:QC)(w:Q9):List V->Hp->VK->Prop:=λxs H Q=>∃(a:Addr)(ps:List (List (List Int)×Addr)),xs=[.ref a]/\ps.length<=1000/\H a=some (.ext (Zn.Qze prog w a ps (Qbd w)))/\(∀p∈ps,Dat H (.ref p.2) (ttN p.1)) /\
 ∀(t:Addr)(ys:List V)(es:List Qa)(H2:Hp),Same H H2->H t=none->H2 t=some (.lst ys)->Dats H2 ys es->es.Perm (ps.map λp=>ttN p.1)->es.Pairwise (λa b=>ltD b a=false)->(∀y∈ys,y∈ps.map λp=>V.ref p.2)->Q (.ref t) H2
theorem Qgk{H:Hp}:∀{ps:List (List (List Int)×Addr)},(∀p∈ps,Dat H (.ref p.2) (ttN p.1))->Dats H (ps.map λp=>V.ref p.2) (ps.map λp=>ttN p.1)
 |[],_=>.nil
 |p::ps,h=>.cons (h p (.head _)) (Qgk λq hq=>h q (.tail _ hq))
theorem Qgm:∀(L M:List (List Int)),QaV (L.map tN) (M.map tN)=true
 |[],[]=>rfl
 |[],_::_=>rfl
 |_::_,[]=>rfl
 |a::L,b::M=>by show(QaV (a.map Qi) (b.map Qi)&&QaV (L.map tN) (M.map tN))=true;rw[Qgm L M,Qgn];rfl
theorem Qfj(ns:List (List Int)):(ttN ns).depth<=2:=by
 show QF (ns.map tN)+1<=2;have:=Yl (n:=1) (ds:=ns.map tN) λd hd=>by obtain⟨p,_,rfl⟩:=Ql.mp hd;exact QrQ _
 omega
theorem QfE(rs:List (List (List Int))):QaI (rs.map ttN):=⟨λx hx y hy=>by
 obtain⟨s,_,rfl⟩:=Ql.mp hx;obtain⟨t,_,rfl⟩:=Ql.mp hy;exact Qgm s t,λx hx=>by
 obtain⟨s,_,rfl⟩:=Ql.mp hx;exact Q1 (Qfj s) (by decide)⟩
theorem QlR(hc:X.calm=true)(hu:X.A.units+60<cLine):CallR X (.builtin "sorted") (QwQ X.prog X.w):=by
 intro pins s σ H xs us Q I r h;obtain⟨a,ps,rfl,h300,ha,hps,q⟩:=h;obtain⟨u,rfl,ru⟩:=vals1 r;cases ru;obtain⟨hS,_⟩:=I.hok a _ ha;refine Zn.Qjf (I.ok.hd hc) (by omega) hS λh' tk ps' pp kp P E' hP=>?_
 have hps':∀p∈ps',Dat H (.ref p.2) (ttN p.1):=λp hp=>hps p (pp.mem_iff.mp hp)
 refine Qmw hu I (Qf5 ps') (by rw[Qf,pp.length_eq];exact ZZ (Rk.QbQ (by omega))) (Qgk hps') (by have:=QfE (ps'.map (·.1));rw[Q8] at this;exact this) (λt ys es H2 s2 n2 e2 dt pe pw hy=>?_) h' tk kp P E' hP;exact q t ys es H2 s2 n2 e2 dt (pe.trans (pp.map _)) pw λy hy'=>(pp.map _).mem_iff.mp (hy y hy')
end
end L2
namespace Dl
open L2 _root_.Rd Rk Zt Rt
section
variable{X:Cx}{E:XK}
@[irreducible] def Qh0:Qa->(Qa->Prop)->Prop
 |.list ds,Q=>∃rows:List (List (List Int)),ds=rows.map ttN/\rows.length<=1000/\∀ms:List (List (List Int)),ms.Nodup->(∀x,x∈ms↔x∈rows)->(ms.map ttN).Pairwise (λa b=>ltD b a=false)->Q (.list (ms.map ttN))
 |_,_=>False
theorem Qpq{Q:Qa->Prop}(rows:List (List (List Int)))(hl:rows.length<=1000)(h:∀ms:List (List (List Int)),ms.Nodup->(∀x,x∈ms↔x∈rows)->(ms.map ttN).Pairwise (λa b=>ltD b a=false)->Q (.list (ms.map ttN))):Qh0 (.list (rows.map ttN)) Q:=by
 unfold Qh0;exact⟨rows,rfl,hl,h⟩
def Qiy(w:DE):DE:=λδ Q EX=>w δ (λd=>Qh0 d Q) EX
theorem Qnt:∀L:List (List Int),Qb8 (L.map tN)=true
 |[]=>rfl
 |a::L=>by show(Qb8 (a.map Qi)&&Qb8 (L.map tN))=true;rw[Qnt L,Qf9];rfl
theorem Qga(L:List (List Int)):nd (ttN L)=true:=Qc2.mpr λd hd=>by
 obtain⟨p,_,rfl⟩:=Ql.mp hd;exact QeJ p
theorem Qiv{A:Addr->Prop}{H:Hp}:∀{rows:List (List (List Int))}{xs:List V},DAs A H xs (rows.map ttN)->∃L:List (List (List Int)×Addr),xs=L.map (λp=>V.ref p.2)/\rows=L.map (·.1)/\∀p∈L,Dat H (.ref p.2) (ttN p.1)
 |[],_,.nil=>⟨[],rfl,rfl,λ_ h=>nomatch h⟩
 |r::rows,_,.cons q qs=>by
  obtain⟨L,rfl,rfl,hL⟩:=Qiv qs;have q:DA A H _ (.tuple (r.map tN)):=q;have dd:=Qix _ _ (Qga r) q;cases q with
  |@tup l ys _ na e qq=>
   refine⟨(r,l)::L,rfl,rfl,λp hp=>?_⟩;rcases Qu.mp hp with z | z
   ·rw[z];exact dd
   ·exact hL p z
theorem Qjq{e:QU}{w:DE}{p p2 pos pos2:Pos}(hu:X.A.units+60<cLine)(hg:Gl X "sorted")(hm:X.mg "sorted" = none)(hg2:Gl X "set")(hm2:X.mg "set" = none)(h:PE X e (tX .P X.K E w))(hc:X.calm=true)(hs:notStar e=true):PE X (.Call (.Name "sorted" p) [.Call (.Name "set" p2) [e] [] pos2] [] pos) (tX .F X.K E (Qiy w)):=by
 refine PE.imp (Qdn (L2.QlR hc hu) hg hm Qcl (Qeg (Qdm (L2.Qou hc hu) hg2 hm2 bt_set (Qeg h Qaj hs) (he:=ZX hs)) Qaj)) λσ H Q ⟨F,δ,R,EX,rel,hw,k,o⟩=>?_
 refine⟨F,δ,_,EX,rel,hw,λd hd v H1 rel1 kp1 vk=>?_,o⟩;have hd:Qh0 d _:=hd;unfold Qh0 at hd;split at hd
 ·obtain⟨rows,rfl,h300,hR⟩:=hd;obtain⟨l,xs,rfl,e,q⟩:=DP.list vk;obtain⟨L,rfl,rfl,hL⟩:=Qiv q;rw[Qf] at h300;refine⟨l,L,rfl,SqL.of e,hL,h300,λt H2 ps nd hn hsub hall s2 n2 e2=>⟨t,ps,rfl,by omega,e2,λp hp=>(hL p (hsub p hp)).same s2,λt3 ys es H3 s3 n3 e3 dt pe pw hy=>?_⟩⟩;have s13:=s2.trans s3;have n13:H1 t3=none:=by
   cases z:H1 t3 with
   |none=>rfl
   |some o=>rw[s2 _ _ z] at n3;cases n3
  obtain⟨Ms,pM,rfl⟩:=Qcd ttN (T:=ps.map (·.1)) pe (by rw[Q8];rfl);refine k _ (hR Ms (pM.nodup_iff.mpr nd) (λx=>?_) pw) _ H3 (rel1.same s13) (kp1.trans (Kp.same rel1 s13)) ?_
  ·rw[pM.mem_iff];constructor
   ·intro hx;obtain⟨p,hp,rfl⟩:=Ql.mp hx;exact Ql.mpr ⟨p,hsub p hp,rfl⟩
   ·intro hx;obtain⟨p,hp,rfl⟩:=Ql.mp hx;exact hall p hp
  ·refine⟨.lst (λz=>by obtain⟨xs,e⟩:=rel1.isl z;rw[n13] at e;cases e) e3 (Qfm dt (λy hy'=>?_) λy d e _=>Qhi d e y),Qa5 (Qbu kp1 n13)⟩;obtain⟨p,hp,rfl⟩:=Ql.mp (hy y hy');have hp1:=hL p (hsub p hp);obtain⟨d,hd,da⟩:=QsW q (Ql.mpr ⟨p,hsub p hp,rfl⟩);obtain⟨r,_,rfl⟩:=Ql.mp hd;exact⟨ttN r,da.same s13,Qga r,Qa4 _ (Qnt r),Qix _ _ (Qga r) (da.same s13)⟩
 ·exact hd.elim
theorem Qly{e:QU}{w:DE}{p p2 pos pos2:Pos}(hu:X.A.units+60<cLine)(hg:Gl X "sorted")(hm:X.mg "sorted" = none)(hg2:Gl X "set")(hm2:X.mg "set" = none)(h:QE .P X E e w)(hc:X.calm=true:=by rfl)(hs:notStar e=true:=by rfl):QE .F X E (.Call (.Name "sorted" p) [.Call (.Name "set" p2) [e] [] pos2] [] pos) (Qiy w):=⟨Qjq hu hg hm hg2 hm2 h.h hc hs⟩
end
end Dl
namespace L2
section
variable{X:Cx}{pins:List (Addr×Obj)}{σ:St}{H H3:Hp}{s3:Shared}{M:List Str}{scope:YC}{cap:List (Option Nat)}{fp:List Addr}{h4:Heap}{t4:Nat}
end
section
variable{X:Cx}{pins:List (Addr×Obj)}{σ:St}{H:Hp}
end
end L2
namespace Rk
open L2 _root_.Rd Dl
end Rk
namespace Dl
open L2
section
variable{X:Cx}{E:XK}
end
end Dl
namespace Rk
open L2 _root_.Rd
def top(i:Nat):Qad:=PySem.Challenge.pw_rooklands_k84_whole_partings.main.body.getD i (.Pass ⟨0,0,0,0⟩)
abbrev QfV:Qad:=top 10
abbrev QdP:Qad:=top 11
abbrev QdQ:Qad:=top 12
abbrev Qf3:Qad:=top 15
abbrev QfZ:Qad:=top 16
abbrev QdR:Qad:=top 17
abbrev Qf1:Qad:=top 18
abbrev Qlv:Qad:=top 19
abbrev Qcw:Qad:=top 20
abbrev sOth:Qad:=top 21
abbrev QfX:Qad:=top 24
abbrev Qf4:Qad:=top 25
abbrev QdS:Qad:=top 26
abbrev Qlw:Qad:=top 27
abbrev QbC:Qad:=top 28
abbrev Qf2:Qad:=top 29
abbrev QfY:Qad:=top 30
abbrev sFol:Qad:=top 31
abbrev Qls:Qad:=top 32
abbrev Qlr:Qad:=top 33
abbrev sRow:Qad:=top 34
abbrev Qlu:Qad:=top 36
abbrev sLot:Qad:=top 37
abbrev Qlt:Qad:=top 38
abbrev QfW:Qad:=top 39
abbrev sPOf:Qad:=top 40
abbrev sSOf:Qad:=top 41
abbrev Qf0:Qad:=top 42
abbrev Qd0:Qad:=top 44
abbrev sLaw:Qad:=top 45
section
variable{P:QC}{w:Q9}{K:PySem.W.Frag}{mg:Str->Option Value}{base:Heap}
theorem Qpp:JV ["_law_script", "_law_k"] ["_law_script", "_law_k"] (QD Qd0):=⟨rfl,rfl,rfl,by decide +kernel,rfl,by decide +kernel,by decide +kernel⟩
theorem Qns{f:Addr}{fd:Q2}(F:Fun K "_law_cell_at" "_law_cell_at" Qd0 f fd)(T:GlbA mg):FnOk P w K mg base CX0 1 f fd ["_law_script", "_law_k"] (Qdj K):=by
 refine F.ok Qpp (λvs H Q E h=>?_) (λcdv A outer s H vs Q E hr h=>?_)
 ·obtain⟨a,ns,k,rfl,_⟩:=h;rfl
 ·obtain⟨a,ns,n,rfl,hs,hl,h0,k⟩:=h;refine⟨_,Qku (Qw7 (QmX QAB (pv 1) (Qdn Qem (by rfl) T.len QbZ (Qnh (pv 0) Qaj)) (YH _)) (Qjm (Qh6 (Qxj QnO (pv 0) (pv 1) (λ_ _=>rfl)))) QmZ) (Qjm (Qh6 QsA)),?_⟩;refine⟨_,rfl,_,rfl,a,_,rfl,.inl hs,_,_,rfl,rfl,_,rfl,?_⟩;refine QCc (λhlt=>?_) (λ_=>k 0);have hlt':n<(ns.map V.int).length:=of_decide_eq_true hlt;rw[Qf] at hlt';obtain⟨j,rfl⟩:=Int.eq_ofNat_of_zero_le h0;have hj:j<ns.length:=by omega
  refine⟨_,rfl,_,rfl,a,_,_,.int ns[j],rfl,rfl,hs,ZP ?_,k _⟩;rw[QB,Qo hj];rfl
end
end Rk
namespace Rk
open L2 _root_.Rd
open Dl
open Rt
def Qji:List Int->Bool
 |x::y::r=>decide (x<y)&&Qji (y::r)
 |_=>true
def QgV:DF:=λargs R _=>∃ns:List Int,(args=[.v (.tuple (ns.map Qi))]∨args=[.v (.list (ns.map Qi))])/\R (.bool (Qji ns))
def Qgg(n:Int):Qa->Bool
 |.tuple ds=>ds.all (λd=>inW d 0 (n - 1))&&Qji (ds.map toI)
 |_=>false
def Qrl:DF:=λargs R _=>∃(n:Int)(d:Qa),args=[.v (.int n),.v d]/\R (.bool (Qgg n d))
def Qff(n:Int):Qa->Bool
 |.tuple ds=>Qgg n (.tuple ds)&&decide ((ds.length:Int) > 0)
 |_=>false
def QAJ:DF:=λargs R _=>∃(n:Int)(d:Qa),args=[.v (.int n),.v d]/\R (.bool (Qff n d))
def Qgd:Qa->List Int
 |.tuple ds=>ds.map toI
 |_=>[]
def QlH:Qa->List Qa
 |.tuple ds=>ds
 |_=>[]
def hdI:Qa->Int
 |.tuple (d::_)=>toI d
 |_=>0
def srt(ns:List Int):List Int:=ns.mergeSort λa b=>decide (a<=b)
theorem Qsp{ms ns:List Int}(p:ms.Perm ns)(s:ms.Pairwise (·<=·)):ms=srt ns:=by
 have h1:(srt ns).Perm ns:=List.mergeSort_perm ns _;have h2:(srt ns).Pairwise (λa b=>decide (a<=b)=true):=List.pairwise_mergeSort (λa b c h1 h2=>by simp at *;omega) (λa b=>by simp;omega) ns;refine QfO (le:=λa b=>a<=b) (λa b _ _ h1 h2=>Int.le_antisymm h1 h2) s (h2.imp λh=>of_decide_eq_true h) (p.trans h1.symm)
def Qfe(n:Int):Qa->Bool
 |.tuple ls=>ls.all (Qff n)&&(QY (.list ((srt (ls.flatMap Qgd)).map Qi)) (.list ((Qq n.toNat).map λ(i:Nat)=>Qi i))&&Qji (ls.map hdI))
 |_=>false
def Qpd(d:Qa):Prop:=∀ls,d=.tuple ls->ls.length<=9/\nds ls=true/\∀ds,.tuple ds∈ls->ds.length<=20
theorem Qkj:∀(ns:List Int)(a b:Int),(∀i∈ns,a<=i/\i<=b)->Qji ns=true->a<=b+1->(ns.length:Int)<=b+1 - a
 |[],a,b,_,_,h=>by show(0:Int)<=_;omega
 |[x],a,b,h,_,_=>by have:=h x (.head _);show(1:Int)<=_;omega
 |x::y::r,a,b,h,hr,_=>by
  have hr:=Qp.mp (show(decide (x<y)&&Qji (y::r))=true from hr);have h1:=h x (.head _);have h3:=of_decide_eq_true hr.1;have h2:=h y (.tail _ (.head _));have:=Qkj (y::r) (x+1) b (λi hi=>⟨rise_lb hr.1 hr.2 i hi,(h i (.tail _ hi)).2⟩) hr.2 (by omega);rw[Qx];omega
where
 rise_lb:∀{x y:Int}{r:List Int},decide (x<y)=true->Qji (y::r)=true->∀i∈y::r,x+1<=i
  |x,y,r,h,hr,i,hi=>by
   have h:=of_decide_eq_true h;cases hi with
   |head=>omega
   |tail _ hi=>
    cases r with
    |nil=>cases hi
    |cons z r=>
     have hr:=Qp.mp (show(decide (y<z)&&Qji (z::r))=true from hr);have:=rise_lb hr.1 hr.2 i hi;omega
theorem Qrw{n:Int}{d:Qa}(h:Qff n d=true)(hn:0<=n):∃(i:Int)(ns:List Int),d=.tuple ((i::ns).map Qi)/\((i::ns).length:Int)<=n/\Qgd d=i::ns/\hdI d=i/\(∀j∈i::ns,0<=j/\j<=n - 1)/\Qji (i::ns)=true:=by
 cases d<;>first | (cases h;done) | skip
 rename_i ds
 have h:=Qp.mp (show(Qgg n (.tuple ds)&&decide ((ds.length:Int) > 0))=true from h);have h2:=Qp.mp (show(ds.all (λd=>inW d 0 (n - 1))&&Qji (ds.map toI))=true from h.1);obtain⟨e,b⟩:=QkQ h2.1;have hl:=Qkj (ds.map toI) 0 (n - 1) b h2.2 (by omega);have h0:=of_decide_eq_true h.2;cases hm:ds.map toI with
 |nil=>rw[List.map_eq_nil_iff] at hm;rw[hm] at h0;exact absurd h0 (by decide)
 |cons i ns=>
  rw[hm] at e hl b;refine⟨i,ns,by rw[<- e],by omega,hm,?_,b,by rw[<- hm];exact h2.2⟩;rw[e];rfl
theorem QkI{n:Int}(hn:0<=n):∀{ls:List Qa},(∀d∈ls,Qff n d=true)->((ls.flatMap Qgd).length:Int)<=ls.length*n
 |[],_=>by show(0:Int)<=0*n;omega
 |d::ls,h=>by
  obtain⟨i,ns,_,hl,e,_⟩:=Qrw (h d (.head _)) hn;have ih:=QkI hn (ls:=ls) λd hd=>h d (.tail _ hd)
  rw[Zl,Qv,Qx,e]
  push_cast
  rw[Int.add_mul,Int.one_mul];omega
theorem QuU(m:Nat):nds ((Qq m).map λ(i:Nat)=>Qi i)=true:=Qc2.mpr λd hd=>by
 obtain⟨i,_,rfl⟩:=Ql.mp hd;rfl
theorem Qod:∀ns:List Int,QF (ns.map Qi)<=1
 |[]=>by show QF []<=1;unfold QF;decide
 |n::ns=>by
  have ih:=Qod ns;rw[Jc];unfold QF;have:ZG (.int n)<=1:=by unfold ZG;decide
  omega
theorem Qyx(ns:List Int):ZG (.list (ns.map Qi))<=50:=by
 have:=Qod ns;unfold ZG;omega
theorem Qhg{n:Int}(hn:0<=n):∀{ls:List Qa},(∀d∈ls,Qff n d=true)->ls.flatMap QlH=(ls.flatMap Qgd).map Qi
 |[],_=>rfl
 |d::ls,h=>by
  obtain⟨i,ns,e,hl,e2,_⟩:=Qrw (h d (.head _)) hn;rw[Zl,Zl,Jr,Qhg hn λd hd=>h d (.tail _ hd),e2,e];rfl
def Qpv:DF:=λargs R _=>∃n:Int,args=[.v (.int n)]/\1<=n/\n<=6/\R .none
def Qky:DF:=λargs R _=>∃(n:Int)(d:Qa),args=[.v (.int n),.v d]/\Qpd d/\1<=n/\n<=6/\R (.bool (Qfe n d))
theorem QkB{n:Nat}(h:1<=n):Qgg n (.tuple [.int ((n:Int) - 1)])=true:=by
 show((inW (.int ((n:Int) - 1)) 0 ((n:Int) - 1)&&true)&&true)=true;rw[QlM (by omega) (by omega)];rfl
def QjC:DF:=λargs R _=>∃(n:Nat),args=[.v (Qmu n),.v (.tuple [Qby [(n:Int) - 1],Qby [(n:Int) - 1]])]/\1<=n/\R (.bool true)
def QuD:DF:=λargs R _=>∃(n:Nat),args=[.v (.int n),.v (Qby [(n:Int) - 1])]/\1<=n/\n<=6/\R (.list ((rngI (n - 1)).map Qi))
section
variable{P:QC}{w:Q9}{K:PySem.W.Frag}{mg:Str->Option Value}{base:Heap}
theorem Qpi:JV ["thing"] ["thing"] (QD QfV):=⟨rfl,rfl,rfl,by decide +kernel,rfl,by decide +kernel,by decide +kernel⟩
theorem Qra{f   : Addr}{fd  : Q2}(F:Fun K "is_whole" "is_whole" QfV f fd)(T:GlbA mg) :
  FnOk P w K mg base CX0 1 f fd ["thing"] (Zw false Qmi):=by
 refine okQ false F Qpi (λargs R EX h=>?_) (λcdv A outer s H E hr=>?_)
 ·obtain⟨d,rfl,_⟩:=h;rfl
 ·have hU:=Room.u60 hr;have hI:=Room.i60 hr;refine⟨_,Jt (YG (QfH (JB (Qe8 .int (by rfl) T.isinstance (qp 0) (by rfl) T.int QyR)) (QfG (QAl (JB (Qe8 .bool (by rfl) T.isinstance (qp 0) (by rfl) T.bool QvP)))))),λargs R EX h=>?_⟩;obtain⟨d,rfl,hR⟩:=h;cases d<;>exact hR
theorem QmC:JV ["thing", "least", "most"] ["thing", "least", "most"] (QD QdP):=⟨rfl,rfl,rfl,by decide +kernel,rfl,by decide +kernel,by decide +kernel⟩
theorem Qnn{f f1  : Addr}{fd fd1:Q2}(F:Fun K "is_whole_within" "is_whole_within" QdP f fd)(T:GlbA mg)
  (m1:mg "is_whole" = some (.ref f1))(G1:FnOk P w K mg base CX0 1 f1 fd1 ["thing"] (Zw false Qmi))(b1:Binds K fd1 ["thing"] [])(k1:PySem.W.keepIn K (.ref f1)=true) :
  FnOk P w K mg base CX0 2 f fd ["thing", "least", "most"] (Zw false QcZ):=by
 refine okQ false F QmC (λargs R EX h=>?_) (λcdv A outer s H E hr=>?_)
 ·obtain⟨d,a,b,rfl,_⟩:=h;rfl
 ·have hU:=Room.u60 hr;have hI:=Room.i60 hr;refine⟨_,Jt (YG (QfH (JD (Zi G1 (hr.mono (by decide)) (by rfl) m1 k1 b1 ZO (Z4 (qv 0) JU))) (QfG (Z5 (QB5 QxJ QxJ (qp 1) (qp 0) (qp 2)))))),λargs R EX h=>?_⟩;obtain⟨d,a,b,rfl,hR⟩:=h;refine⟨d,rfl,?_⟩;cases d with
  |int i=>exact Qzl (Qs3 hR)
  |_=>exact hR
theorem Qgb:(["one", "other"]:List Str).Nodup:=by decide +kernel
theorem QmD:JV ["things"] ["things"] (QD QdQ):=⟨rfl,rfl,rfl,by decide +kernel,rfl,by decide +kernel,by decide +kernel⟩
theorem Qnp{f   : Addr}{fd  : Q2}(F:Fun K "is_rising" "is_rising" QdQ f fd)(T:GlbA mg) :
  FnOk P w K mg base CX0 1 f fd ["things"] (Zw false QgU):=by
 refine okQ false F QmD (λargs R EX h=>?_) (λcdv A outer s H E hr=>?_)
 ·obtain⟨ds,rfl | rfl,_⟩:=h<;>rfl
 ·have hU:=Room.u60 hr;have hI:=Room.i60 hr;refine⟨_,Jt (QaA (Z9 QcE (Qgo rfl) (by rfl) T.all Qgp (QdW (JB (Qbk ["one", "other"] [none,none] (QAk (QmR (by rfl) T.zip (qp 0) (JB (Qe7 (qp 0) (Qe5 (JD Zh)) Qe6))) (QmS (by rfl) T.zip (qp 0) (JB (Qe7 (qp 0) (Qe5 (JD Zh)) Qe6)))) (λcl ex s3 H3 C=>⟨(QbW rfl (ZB 0 (ZB 1 QbX Qgb rfl (Ju rfl) (Jl rfl)) Qgb rfl (Ju rfl) (Jl rfl))),ZN,(Z5 (Qh3 (QxI hU) Qx1 (qp 0) (qp 1) (YH _)))⟩))) J8))),λargs R EX h=>?_⟩;obtain⟨ds,h,hc,hR⟩:=h;have go:∀d∈QgF ds (Dl.cutD ds (some 1) none),∃a b,d=.tuple [a,b]/\(okK a=true/\okK b=true/\QiZ a b=true/\a.depth<=20):=λd hd=>by
   obtain⟨i,hi⟩:=Ji.mp hd;obtain⟨a,b,ha,hb,rfl⟩:=Dl.zip_get hi;have ma:=Q7 ha;have mb:=QrU (Q7 hb);exact⟨a,b,rfl,(hc a ma).1,(hc b mb).1,(hc a ma).2.2 b mb,(hc a ma).2.1⟩
  rcases h with rfl | rfl
  ·refine .inl (QaR (λd=>.bool (Qx6 d)) (λd hd k2 hk=>?_) (Qc9 (items:=QgF ds (Dl.cutD ds (some 1) none)) rfl (by rw[QeV];exact hR)));obtain⟨a,b,rfl,q⟩:=go d hd;exact⟨rfl,q,hk⟩
  ·refine .inr (QaR (λd=>.bool (Qx6 d)) (λd hd k2 hk=>?_) (Qc9 (items:=QgF ds (Dl.cutD ds (some 1) none)) rfl (by rw[QeV];exact hR)));obtain⟨a,b,rfl,q⟩:=go d hd;exact⟨rfl,q,hk⟩
theorem Qpl:JV ["high", "wide", "thing"] ["high", "wide", "thing"] (QD QfZ):=⟨rfl,rfl,rfl,by decide +kernel,rfl,by decide +kernel,by decide +kernel⟩
theorem Qre{f f1  : Addr}{fd fd1:Q2}(F:Fun K "is_place" "is_place" QfZ f fd)(T:GlbA mg)
  (m1:mg "is_whole_within" = some (.ref f1))(G1:FnOk P w K mg base CX0 2 f1 fd1 ["thing", "least", "most"] (Zw false QcZ))(b1:Binds K fd1 ["thing", "least", "most"] [])(k1:PySem.W.keepIn K (.ref f1)=true) :
  FnOk P w K mg base CX0 3 f fd ["high", "wide", "thing"] (Zw false Qm2):=by
 refine okQ false F Qpl (λargs R EX h=>?_) (λcdv A outer s H E hr=>?_)
 ·obtain⟨h,w,d,rfl,_⟩:=h;rfl
 ·have hU:=Room.u60 hr;have hI:=Room.i60 hr;refine⟨_,Q4 (Qbc (Qpy (QgX (Qaz (Qa2 (JB (Qe8 .tuple (by rfl) T.isinstance (qp 2) (by rfl) T.tuple QaW)))) (Qef (Qat QcU (QfI hU) (JB (Z9 Y8 QcX (by rfl) T.len QbZ (QdW (qp 2) J8))) (JD Zh) (YH _))))) (Jt (YG QmV)) Z8)
   (Jt (YG (QfH (JD (Zi G1 (hr.mono (by decide)) (by rfl) m1 k1 b1 ZO (Z4 (Qcy ZS YZ (qp 2) (JD Zh) (λ_ _=>rfl)) (Z4 Zh (Z4 (Z5 (Qav QbY Qbl (qp 0) (JD Zh))) JU))))) (QfG (Zi G1 (hr.mono (by decide)) (by rfl) m1 k1 b1 ZO (Z4 (Qcy ZS YZ (qp 2) (JD Zh) (λ_ _=>rfl)) (Z4 Zh (Z4 (Z5 (Qav QbY Qbl (qp 1) (JD Zh))) JU)))))))),λargs R EX h=>?_⟩
  obtain⟨h,w,d,rfl,hR⟩:=h;cases d with
  |tuple ds=>
   match ds,hR with
   |[a,b],hR=>
    refine⟨a,rfl,_,_,_,rfl,?_⟩;refine Qd7 hR λ_ hR=>?_
    exact⟨b,rfl,_,_,_,rfl,hR⟩
   |[],hR=>exact hR
   |[_],hR=>exact hR
   |a::b::c::r,hR=>
    exact hR
  |_=>exact hR
theorem QnB:(["part", "high", "wide"]:List Str).Nodup:=by decide +kernel
theorem Qpo:JV ["high", "wide", "thing"] ["high", "wide", "thing"] (QD Qf3):=⟨rfl,rfl,rfl,by decide +kernel,rfl,by decide +kernel,by decide +kernel⟩
theorem Qrh{f f1 f2  : Addr}{fd fd1 fd2:Q2}(F:Fun K "is_cells" "is_cells" Qf3 f fd)(T:GlbA mg)
  (m1:mg "is_place" = some (.ref f1))(G1:FnOk P w K mg base CX0 3 f1 fd1 ["high", "wide", "thing"] (Zw false Qm2))(b1:Binds K fd1 ["high", "wide", "thing"] [])(k1:PySem.W.keepIn K (.ref f1)=true)
  (m2:mg "is_rising" = some (.ref f2))(G2:FnOk P w K mg base CX0 1 f2 fd2 ["things"] (Zw false QgU))(b2:Binds K fd2 ["things"] [])(k2:PySem.W.keepIn K (.ref f2)=true) :
  FnOk P w K mg base CX0 4 f fd ["high", "wide", "thing"] (Zw false Qoq):=by
 refine okQ false F Qpo (λargs R EX h=>?_) (λcdv A outer s H E hr=>?_)
 ·obtain⟨h,w,d,rfl,_⟩:=h;rfl
 ·have hU:=Room.u60 hr;have hI:=Room.i60 hr;refine⟨_,Q4 (Qbc (Qaz (Qa2 (JB (Qe8 .tuple (by rfl) T.isinstance (qp 2) (by rfl) T.tuple QaW)))) (Jt (YG QmV)) Z8)
   (Jt (YG (QfH (JB (Z9 QcE (Qgo rfl) (by rfl) T.all Qgp (QdW (JB (Qbk ["part", "high", "wide"] [none,some 0,some 1] (Qbj (qp 2)) (λcl ex s3 H3 C=>⟨(ZA 0 QnB rfl (Ju rfl) (Jl rfl)),ZN,(Zi G1 (hr.mono (by decide)) (by rfl) m1 k1 b1 ZO (Z4 (qv 1) (Z4 (qv 2) (Z4 (qv 0) JU))))⟩))) J8))) (QfG (Zi G2 (hr.mono (by decide)) (by rfl) m2 k2 b2 ZO (Z4 (qv 2) JU)))))),λargs R EX h=>?_⟩
  obtain⟨h,w,d,rfl,hR⟩:=h;cases d with
  |tuple ds=>
   refine QaR (λd=>.bool (QjG h w d)) (λd hd k2 hk=>⟨_,_,_,rfl,hk⟩) (Qc9 (items:=ds) rfl ?_);refine Qd7 hR λha hR=>?_
   obtain⟨L,rfl,_⟩:=Qg2 ha;exact⟨_,.inl rfl,Qcj L,hR⟩
  |_=>exact hR
theorem Qih:(["row", "column"]:List Str).Nodup:=by decide +kernel
theorem Qig:(["row", "column"]:List Str).Nodup:=by decide +kernel
theorem QgR:JV ["cells", "rows", "columns"] ["cells"] (QD Qf4):=⟨rfl,rfl,rfl,by decide +kernel,rfl,by decide +kernel,by decide +kernel⟩
theorem Qri{f   : Addr}{fd  : Q2}(F:Fun K "are_apart" "are_apart" Qf4 f fd)(T:GlbA mg) :
  FnOk P w K mg base CX0 1 f fd ["cells"] (Zw false QoI):=by
 refine okQ false F QgR (λargs R EX h=>?_) (λcdv A outer s H E hr=>?_)
 ·obtain⟨L,rfl,_⟩:=h;rfl
 ·have hU:=Room.u60 hr;have hI:=Room.i60 hr;refine⟨_,Q4 (Qjl ["row", "column"] [none,none] 1 QgR.nd (Qbj (qp 0)) (λcl ex s3 H3 C=>⟨(QbW rfl (ZB 0 (ZB 1 QbX Qih rfl (Ju rfl) (Jl rfl)) Qih rfl (Ju rfl) (Jl rfl))),ZN,(qv 0)⟩))
   (Q4 (Qjl ["row", "column"] [none,none] 2 QgR.nd (Qbj (qp 0)) (λcl ex s3 H3 C=>⟨(QbW rfl (ZB 0 (ZB 1 QbX Qig rfl (Ju rfl) (Jl rfl)) Qig rfl (Ju rfl) (Jl rfl))),ZN,(qv 1)⟩))
   (Jt (YG (QfH (JB (Qh3 Qeh (Qid hU) (JB (Qkq (by rfl) T.len (by rfl) T.set (qp 1))) (JB (Z9 Y8 QcX (by rfl) T.len QbZ (QdW (qp 1) J8))) (YH _))) (QfG (Z5 (Qh3 Qeh (Qid hU) (JB (Qkq (by rfl) T.len (by rfl) T.set (qp 2))) (JB (Z9 Y8 QcX (by rfl) T.len QbZ (QdW (qp 2) J8))) (YH _)))))))),λargs R EX h=>?_⟩
  obtain⟨L,rfl,hl,hR⟩:=h;have e1:(L.map pairD).map (λd=>Qi (toP d).1)=(L.map (λp=>p.1)).map Qi:=by rw[Q8,Q8];rfl
  have e2:(L.map pairD).map (λd=>Qi (toP d).2)=(L.map (λp=>p.2)).map Qi:=by rw[Q8,Q8];rfl
  refine QaR (λd=>.int (toP d).1) (λd hd k2 hk=>?_) ?_
  ·obtain⟨p,_,rfl⟩:=Ql.mp hd;exact⟨rfl,hk⟩
  ·refine QaR (λd=>.int (toP d).2) (λd hd k2 hk=>?_) ?_
   ·obtain⟨p,_,rfl⟩:=Ql.mp hd;exact⟨rfl,hk⟩
   ·rw[e1,e2];refine⟨_,Qd6 _,by rw[Qf];exact hl,?_⟩;have c1:∀ns:List Int,decide (((ddI ns).length:Int)=(((ns.map Qi).length:Nat):Int))=decide ns.Nodup:=λns=>by
     rw[Qf];refine decide_eq_decide.mpr ⟨λz=>(QkW ns).mp (by omega),λz=>by have:=(QkW ns).mpr z;omega⟩
    show if decide _=true then _ else _
    rw[c1];refine Qd7 hR λ_ hR=>?_
    refine⟨_,Qd6 _,by rw[Qf];exact hl,?_⟩;show R (.bool (decide _));rw[c1];exact hR
theorem Qny:(["cell", "cells"]:List Str).Nodup:=by decide +kernel
theorem QeG:JV ["board", "thing", "high", "wide", "cells"] ["board", "thing"] (QD QfX):=⟨rfl,rfl,rfl,by decide +kernel,rfl,by decide +kernel,by decide +kernel⟩
theorem Qrc{f f1 f2  : Addr}{fd fd1 fd2:Q2}(F:Fun K "is_stand" "is_stand" QfX f fd)(T:GlbA mg)
  (m1:mg "is_cells" = some (.ref f1))(G1:FnOk P w K mg base CX0 4 f1 fd1 ["high", "wide", "thing"] (Zw false Qoq))(b1:Binds K fd1 ["high", "wide", "thing"] [])(k1:PySem.W.keepIn K (.ref f1)=true)
  (m2:mg "are_apart" = some (.ref f2))(G2:FnOk P w K mg base CX0 1 f2 fd2 ["cells"] (Zw false QoI))(b2:Binds K fd2 ["cells"] [])(k2:PySem.W.keepIn K (.ref f2)=true) :
  FnOk P w K mg base CX0 5 f fd ["board", "thing"] (Zw false Qke):=by
 refine okQ false F QeG (λargs R EX h=>?_) (λcdv A outer s H E hr=>?_)
 ·obtain⟨h,w,cs,d,rfl,_⟩:=h;rfl
 ·have hU:=Room.u60 hr;have hI:=Room.i60 hr;refine⟨_,Q4 (Qsv (qv 0) (QbW rfl (ZB 2 (ZB 3 (ZB 4 QbX QeG.nd rfl (by first | exact Ju rfl | exact Jl rfl)) QeG.nd rfl (by first | exact Ju rfl | exact Jl rfl)) QeG.nd rfl (by first | exact Ju rfl | exact Jl rfl))))
   (Q4 (Qbc (Qaz (Qa2 (JD (Zi G1 (hr.mono (by decide)) (by rfl) m1 k1 b1 ZO (Z4 (qv 2) (Z4 (qv 3) (Z4 (qv 1) JU))))))) (Jt (YG QmV)) Z8)
   (Jt (YG (QfH (JB (Z9 QcE (Qgo rfl) (by rfl) T.all Qgp (QdW (JB (Qbk ["cell", "cells"] [none,some 4] (Qbj (qp 1)) (λcl ex s3 H3 C=>⟨(ZA 0 Qny rfl (Ju rfl) (Jl rfl)),ZN,(Z5 (Qh3 QsB (Qrj hI) (qp 0) (qp 1) (by rfl)))⟩))) J8))) (QfG (Zi G2 (hr.mono (by decide)) (by rfl) m2 k2 b2 ZO (Z4 (qv 1) JU))))))),λargs R EX h=>?_⟩
  obtain⟨h,w,cs,d,rfl,hs,hR⟩:=h;refine⟨rfl,_,_,_,rfl,?_⟩;cases d with
  |tuple ds=>
   show if(!(ds.all (QjG h w)&&Qb7 ds))=true then _ else _
   cases hc:(ds.all (QjG h w)&&Qb7 ds) with
   |false=>
    rw[show Ql5 h w cs (.tuple ds)=false by show((ds.all (QjG h w)&&Qb7 ds)&&_)=false;rw[hc];rfl] at hR;exact hR
   |true=>
    rw[show Ql5 h w cs (.tuple ds)=(ds.all (inC cs)&&apB (ds.map toP)) by show((ds.all (QjG h w)&&Qb7 ds)&&_)=_;rw[hc];rfl] at hR;obtain⟨L,rfl,hL⟩:=Qg2 (Qp.mp hc).1;have hl:=hs _ rfl;rw[Qf] at hl;refine QaR (λd=>.bool (inC cs d)) (λd hd k2 hk=>?_) (Qc9 (items:=L.map pairD) rfl ?_)
    ·obtain⟨p,_,rfl⟩:=Ql.mp hd;exact⟨⟨Qdp cs,rfl,by have:=QlO p;omega⟩,hk⟩
    ·rw[QbF] at hR;refine Qd7 hR λ_ hR=>⟨L,rfl,by omega,hR⟩
  |_=>exact hR
theorem Qrt:(["part", "many"]:List Str).Nodup:=by decide +kernel
theorem QtJ:JV ["many", "thing"] ["many", "thing"] (QD Qlv):=⟨rfl,rfl,rfl,by decide +kernel,rfl,by decide +kernel,by decide +kernel⟩
theorem QuN{f f1 f2  : Addr}{fd fd1 fd2:Q2}(F:Fun K "is_numbers_rising" "is_numbers_rising" Qlv f fd)(T:GlbA mg)
  (m1:mg "is_whole_within" = some (.ref f1))(G1:FnOk P w K mg base CX0 2 f1 fd1 ["thing", "least", "most"] (Zw false QcZ))(b1:Binds K fd1 ["thing", "least", "most"] [])(k1:PySem.W.keepIn K (.ref f1)=true)
  (m2:mg "is_rising" = some (.ref f2))(G2:FnOk P w K mg base CX0 1 f2 fd2 ["things"] (Zw false QgV))(b2:Binds K fd2 ["things"] [])(k2:PySem.W.keepIn K (.ref f2)=true) :
  FnOk P w K mg base CX0 3 f fd ["many", "thing"] (Zw false Qrl):=by
 refine okQ false F QtJ (λargs R EX h=>?_) (λcdv A outer s H E hr=>?_)
 ·obtain⟨n,d,rfl,_⟩:=h;rfl
 ·have hU:=Room.u60 hr;have hI:=Room.i60 hr;refine⟨_,Q4 (Qbc (Qaz (Qa2 (JB (Qe8 .tuple (by rfl) T.isinstance (qp 1) (by rfl) T.tuple QaW)))) (Jt (YG QmV)) Z8)
   (Jt (YG (QfH (JB (Z9 QcE (Qgo rfl) (by rfl) T.all Qgp (QdW (JB (Qbk ["part", "many"] [none,some 0] (Qbj (qp 1)) (λcl ex s3 H3 C=>⟨(ZA 0 Qrt rfl (Ju rfl) (Jl rfl)),ZN,(Zi G1 (hr.mono (by decide)) (by rfl) m1 k1 b1 ZO (Z4 (qv 0) (Z4 Zh (Z4 (Z5 (Qav QbY Qbl (qp 1) (JD Zh))) JU))))⟩))) J8))) (QfG (Zi G2 (hr.mono (by decide)) (by rfl) m2 k2 b2 ZO (Z4 (qv 1) JU)))))),λargs R EX h=>?_⟩
  obtain⟨n,d,rfl,hR⟩:=h;cases d with
  |tuple ds=>
   refine QaR (λd=>.bool (inW d 0 (n - 1))) (λd hd k2 hk=>⟨_,_,_,rfl,hk⟩) (Qc9 (items:=ds) rfl ?_);refine Qd7 hR λha hR=>?_
   obtain⟨e,_⟩:=QkQ ha;refine⟨ds.map toI,.inl (by rw[<- e]),hR⟩
  |_=>exact hR
theorem QwK:JV ["n", "thing"] ["n", "thing"] (QD sLot):=⟨rfl,rfl,rfl,by decide +kernel,rfl,by decide +kernel,by decide +kernel⟩
theorem QxW{f f1  : Addr}{fd fd1:Q2}(F:Fun K "is_lot" "is_lot" sLot f fd)(T:GlbA mg)
  (m1:mg "is_numbers_rising" = some (.ref f1))(G1:FnOk P w K mg base CX0 3 f1 fd1 ["many", "thing"] (Zw false Qrl))(b1:Binds K fd1 ["many", "thing"] [])(k1:PySem.W.keepIn K (.ref f1)=true) :
  FnOk P w K mg base CX0 4 f fd ["n", "thing"] (Zw false QAJ):=by
 refine okQ false F QwK (λargs R EX h=>?_) (λcdv A outer s H E hr=>?_)
 ·obtain⟨n,d,rfl,_⟩:=h;rfl
 ·have hU:=Room.u60 hr;have hI:=Room.i60 hr;refine⟨_,Jt (YG (QfH (JD (Zi G1 (hr.mono (by decide)) (by rfl) m1 k1 b1 ZO (Z4 (qv 0) (Z4 (qv 1) JU)))) (QfG (Z5 (Qh3 QxN Qnv (JB (Z9 Y8 QcX (by rfl) T.len QbZ (QdW (qp 1) J8))) (JD Zh) (YH _)))))),λargs R EX h=>?_⟩;obtain⟨n,d,rfl,hR⟩:=h;refine⟨_,_,rfl,?_⟩;cases d with
  |tuple ds=>exact Qs3 hR
  |_=>exact hR
theorem QtI:JV ["n"] ["n"] (QD Qlt):=⟨rfl,rfl,rfl,by decide +kernel,rfl,by decide +kernel,by decide +kernel⟩
theorem QuL{f f1  : Addr}{fd fd1:Q2}(hA:∃t,mg "MOST_LINES" = some (.int 6 t))(F:Fun K "refuse_no_number" "refuse_no_number" Qlt f fd)(T:GlbA mg)
  (m1:mg "is_whole_within" = some (.ref f1))(G1:FnOk P w K mg base CX0 2 f1 fd1 ["thing", "least", "most"] (Zw false QcZ))(b1:Binds K fd1 ["thing", "least", "most"] [])(k1:PySem.W.keepIn K (.ref f1)=true) :
  FnOk P w K mg base CX0 3 f fd ["n"] (Zw false Qpv):=by
 refine okQ false F QtI (λargs R EX h=>?_) (λcdv A outer s H E hr=>?_)
 ·obtain⟨n,rfl,_⟩:=h;rfl
 ·obtain⟨tA,mA⟩:=hA;have hU:=Room.u60 hr;have hI:=Room.i60 hr;refine⟨_,Jt (Qbc (Qaz (Qa2 (JD (Zi G1 (hr.mono (by decide)) (by rfl) m1 k1 b1 ZO (Z4 (qv 0) (Z4 Zh (Z4 (Qsw 6 (by rfl) mA ⟨_,rfl⟩) JU))))))) QaM Z8),λargs R EX h=>?_⟩;obtain⟨n,rfl,n1,n6,hR⟩:=h;refine⟨_,_,_,rfl,?_⟩;show if(!inW (.int n) 1 6)=true then _ else _
  rw[QlM n1 n6];exact hR
theorem Qrs:(["part", "n"]:List Str).Nodup:=by decide +kernel
theorem QkF:(["lot", "number"]:List Str).Nodup:=by decide +kernel
theorem Qrr:(["lot"]:List Str).Nodup:=by decide +kernel
theorem QmE:JV ["n", "thing", "parted"] ["n", "thing"] (QD Qlu):=⟨rfl,rfl,rfl,by decide +kernel,rfl,by decide +kernel,by decide +kernel⟩
theorem QuM{f f1 f2 f3  : Addr}{fd fd1 fd2 fd3:Q2}(F:Fun K "is_parting" "is_parting" Qlu f fd)(T:GlbA mg)
  (m1:mg "refuse_no_number" = some (.ref f1))(G1:FnOk P w K mg base CX0 3 f1 fd1 ["n"] (Zw false Qpv))(b1:Binds K fd1 ["n"] [])(k1:PySem.W.keepIn K (.ref f1)=true)
  (m2:mg "is_lot" = some (.ref f2))(G2:FnOk P w K mg base CX0 4 f2 fd2 ["n", "thing"] (Zw false QAJ))(b2:Binds K fd2 ["n", "thing"] [])(k2:PySem.W.keepIn K (.ref f2)=true)
  (m3:mg "is_rising" = some (.ref f3))(G3:FnOk P w K mg base CX0 1 f3 fd3 ["things"] (Zw false QgV))(b3:Binds K fd3 ["things"] [])(k3:PySem.W.keepIn K (.ref f3)=true) :
  FnOk P w K mg base CX0 5 f fd ["n", "thing"] (Zw false Qky):=by
 refine okQ false F QmE (λargs R EX h=>?_) (λcdv A outer s H E hr=>?_)
 ·obtain⟨n,d,rfl,_⟩:=h;rfl
 ·have hU:=Room.u60 hr;have hI:=Room.i60 hr;refine⟨_,Q4 (Qjk (JD (Zi G1 (hr.mono (by decide)) (by rfl) m1 k1 b1 ZO (Z4 (qv 0) JU))))
   (Q4 (Qbc (Qpy (QgX (Qaz (Qa2 (JB (Qe8 .tuple (by rfl) T.isinstance (qp 1) (by rfl) T.tuple QaW)))) (Qef (Qaz (Qa2 (JB (Z9 QcE (Qgo rfl) (by rfl) T.all Qgp (QdW (JB (Qbk ["part", "n"] [none,some 0] (Qbj (qp 1)) (λcl ex s3 H3 C=>⟨(ZA 0 Qrs rfl (Ju rfl) (Jl rfl)),ZN,(Zi G2 (hr.mono (by decide)) (by rfl) m2 k2 b2 ZO (Z4 (qv 1) (Z4 (qv 0) JU)))⟩))) J8)))))))) (Jt (YG QmV)) Z8)
   (Q4 (Qa3 2 (Z5 (Z9 QlT QvK (by rfl) T.sorted Qcl (QdW (JB (QmU ["lot", "number"] [none,none] (QeM 0) (Qbj (qp 1)) (λcl ex s3 H3 C=>⟨(ZA 0 QkF rfl (Ju rfl) (Jl rfl)),ZN,(Qbj (qv 0)),(ZA 1 QkF rfl (Ju rfl) (Jl rfl)),ZN,(qv 1)⟩))) J8))) QmE.nd)
   (Jt (YG (QfH (JB (Qh3 Qeh (Qid hU) (qp 2) (JB (Qpz (by rfl) T.list (by rfl) T.range (qp 0))) (YH _))) (QfG (Zi G3 (hr.mono (by decide)) (by rfl) m3 k3 b3 ZO (Z4 (Z5 (Qbk ["lot"] [none] (Qbj (qp 1)) (λcl ex s3 H3 C=>⟨(ZA 0 Qrr rfl (Ju rfl) (Jl rfl)),ZN,(Qcy ZS YZ (qp 0) (JD Zh) (λ_ _=>rfl))⟩))) JU)))))))),λargs R EX h=>?_⟩
  obtain⟨n,d,rfl,hs,n1,n6,hR⟩:=h;refine⟨_,rfl,n1,n6,?_⟩;cases d with
  |tuple ls=>
   have hs:=(hs ls rfl).1;refine QaR (λd=>.bool (Qff n d)) (λd hd k2 hk=>⟨_,_,rfl,hk⟩) (Qc9 (items:=ls) rfl ?_);cases ha:ls.all (Qff n) with
   |false=>
    rw[show Qfe n (.tuple ls)=false by show(ls.all (Qff n)&&_)=false;rw[ha];rfl] at hR;exact hR
   |true=>
    rw[show Qfe n (.tuple ls)=(QY (.list ((srt (ls.flatMap Qgd)).map Qi)) (.list ((Qq n.toNat).map λ(i:Nat)=>Qi i))&&Qji (ls.map hdI)) by show(ls.all (Qff n)&&_)=_;rw[ha];rfl] at hR;have hl:=λd hd=>JN.mp ha d hd
    have l1:=QkI (by omega) hl;have l2:(ls.flatMap Qgd).length<64:=by
     have:(ls.length:Int)*n<=9*6:=Int.mul_le_mul (by omega) n6 (by omega) (by decide);omega
    refine QyP QlH (by rw[Qhg (by omega) hl,Qf];exact Nat.lt_trans l2 (by decide)) (λd hd acc N hb hN=>?_) ?_
    ·obtain⟨i,ns,rfl,_⟩:=Qrw (hl d hd) (by omega);refine QkS id hb (λd hd k2 hk=>hk) ?_
     rw[Qcr];exact hN
    ·refine(QtA (by rw[Qhg (by omega) hl];exact Qd6 _) l2 λms pm pw=>?_).1;rw[Qsp pm pw];refine⟨by omega,⟨QeJ _,QuU _,.inl (Qyx _)⟩,?_⟩;refine Qd7 hR λ_ hR=>?_
     refine QaR (λd=>.int (hdI d)) (λd hd k2 hk=>?_) ⟨ls.map hdI,.inr (by rw[Q8];rfl),hR⟩;obtain⟨i,ns,rfl,_⟩:=Qrw (hl d hd) (by omega);exact⟨_,ZP (j:=0) rfl,hk⟩
  |_=>exact hR
end
def QBc:Qa->List Qa
 |.int r=>(Qjh 0 r.toNat).map λd=>match d with | .int c=>pairD (r,c) | _=>.none
 |_=>[]
theorem Qso:∀n:Nat,n<=6->(Qjh 0 n).flatMap QBc=(stpC n).map pairD
 |0,_=>rfl
 |1,_=>rfl
 |2,_=>rfl
 |3,_=>rfl
 |4,_=>rfl
 |5,_=>rfl
 |6,_=>rfl
theorem Qty:∀n:Fin 7,(stpC n.val).length<=15:=by decide +kernel
theorem QyO{items:List Qa}{wg:DG}{wk wv:DE}{δ:Sts}{Q:Qa->Prop}(G:Qa->Int×Int)(h:∀d∈items,∀(k:Int×Int->Prop),k (G d)->wg d δ λδ4=>wk δ4 (λx=>∃a,x=.int a/\wv δ4 (λv=>∃b,v=.int b/\k (a,b)) XF) XF)(nd:((items.map G).map (·.1)).Nodup)(hl:items.length<1000000)(q:Q (.dict (dkD (items.map G)))):Qk7 items wg QsX wk wv δ Q:=by
 unfold Qk7;refine⟨λi acc=>acc=(items.take i).map G,by simp,λi acc d hd e=>?_,λacc e=>by rw[e,Zv];exact q⟩;have hs:(items.take (i+1)).map G=(items.take i).map G++[G d]:=by rw[Z0,hd,Jr];simp
 have e:acc=(items.take i).map G:=e;have hi:=(Jq.mp hd).1;simp only[QsX,if_true];have hh:=h d (Q7 hd) (λp=>acc.length<1000000/\(∀q∈acc,q.1≠p.1)/\acc++[p]=(items.take (i+1)).map G) ⟨by rw[e,Qf,JG];omega,λq hq z=>?_,by rw[hs,e]⟩
 ·exact hh
 ·have ht:((items.take (i+1)).map G).Sublist (items.map G):=(Qfu _ _).map G;have nd2:=(ht.map (·.1)).nodup nd;rw[hs,Jr,Qab] at nd2;rw[e] at hq;exact nd2.2.2 q.1 (List.mem_map_of_mem hq) (G d).1 (by simp) z
theorem Qdr(l:List Int):Qgd (Qby l)=l:=Qo8 l
theorem QsL{l:List Int}{b:Int}(h:l≠[]):(l.getLast? = some b)↔l.getLastD 0=b:=by
 cases l with
 |nil=>exact absurd rfl h
 |cons x r=>rw[List.getLast?_cons,List.getLastD_cons];simp
theorem QpD{L:List (Int×Int)}{lots:List (List Int)}{t:Int}{p:Int×Int}(h:(L.find? λp=>decide (p.1=t))=some p):(lots.map Qby).map (λd=>if(Qgd d).getLast? = some p.2 then Qby (Qgd d++[t]) else d)=(QoU L lots t).map Qby:=by
 unfold QoU;rw[h,Q8,Q8];refine JS λl _=>?_
 show(if(Qgd (Qby l)).getLast? = some p.2 then Qby (Qgd (Qby l)++[t]) else Qby l)=Qby (if l.getLast? = some p.2 then l++[t] else l);rw[Qdr];split<;>rfl
def Qe1:DF:=λargs R _=>∃n:Nat,args=[.v (.int n)]/\1<=n/\n<=6/\R (Qmu n)
def QpE:DF:=λargs R _=>∃(n:Nat)(L:List (Int×Int)),args=[.v (.int n),.v (stT L)]/\L.length<=6/\1<=n/\n<=6/\Ql5 n n (stpC n) (stT L)=true/\R (pPar (ptN L n))
section
variable{P:QC}{w:Q9}{K:PySem.W.Frag}{mg:Str->Option Value}{base:Heap}
theorem Qie:(["row", "column"]:List Str).Nodup:=by decide +kernel
theorem Qpj:JV ["n"] ["n"] (QD QfW):=⟨rfl,rfl,rfl,by decide +kernel,rfl,by decide +kernel,by decide +kernel⟩
theorem Qrb{f f1  : Addr}{fd fd1:Q2}(F:Fun K "steps" "steps" QfW f fd)(T:GlbA mg)
  (m1:mg "refuse_no_number" = some (.ref f1))(G1:FnOk P w K mg base CX0 3 f1 fd1 ["n"] (Zw false Qpv))(b1:Binds K fd1 ["n"] [])(k1:PySem.W.keepIn K (.ref f1)=true) :
  FnOk P w K mg base CX0 4 f fd ["n"] (Zw false Qe1):=by
 refine okQ false F Qpj (λargs R EX h=>?_) (λcdv A outer s H E hr=>?_)
 ·obtain⟨n,rfl,_⟩:=h;rfl
 ·have hU:=Room.u60 hr;have hI:=Room.i60 hr;refine⟨_,Q4 (Qjk (JD (Zi G1 (hr.mono (by decide)) (by rfl) m1 k1 b1 ZO (Z4 (qv 0) JU))))
   (Jt (QaA (QdX (Qev (qv 0) (Qev (qv 0) (Qev (Z5 (Qdl QaH QeR (by rfl) T.tuple QaW (QdW (JB (QmU ["row", "column"] [none,none] (QeM 0) (Qcc (by rfl) T.range (qp 0)) (λcl ex s3 H3 C=>⟨(ZA 0 Qie rfl (Ju rfl) (Jl rfl)),ZN,(Qcc (by rfl) T.range (qp 0)),(ZA 1 Qie rfl (Ju rfl) (Jl rfl)),ZN,(Z5 (QdX (Qev (qv 0) (Qev (qv 1) J8))))⟩))) J8))) J8)))))),λargs R EX h=>?_⟩
  obtain⟨n,rfl,n1,n6,hR⟩:=h;refine⟨_,rfl,by omega,by omega,?_⟩;have hl:=Qty ⟨n,by omega⟩;refine⟨⟨by omega,by omega⟩,Qho QBc 15 (by rw[QX,Qso n (by omega),Qf];exact hl) (λd hd acc N hb hN=>?_) ?_⟩
  ·obtain⟨i,hi⟩:=Ji.mp hd;obtain⟨hi,rfl⟩:=Qc1 hi;refine⟨⟨by omega,by omega⟩,QkS (λd=>match d with | .int c=>pairD (0+(i:Int),c) | _=>.none) ?_ (λd hd k2 hk=>?_) hN⟩
   ·have hb:acc.length+((Qjh 0 (0+(i:Int)).toNat).map λd=>match d with | .int c=>pairD (0+(i:Int),c) | _=>.none).length<=15:=hb;rw[Qf] at hb;exact YV hb (by decide)
   ·obtain⟨c,hc⟩:=Ji.mp hd;obtain⟨hc,rfl⟩:=Qc1 hc;exact hk
  ·rw[QX,Qso n (by omega)];exact hR
theorem Qnz:(["row", "column"]:List Str).Nodup:=by decide +kernel
theorem QuV:(["lot", "ahead", "thing"]:List Str).Nodup:=by decide +kernel
theorem QhZ:JV ["n", "stand", "ahead", "lots", "thing"] ["n", "stand"] (QD sPOf):=⟨rfl,rfl,rfl,by decide +kernel,rfl,by decide +kernel,by decide +kernel⟩
theorem QxU{f f1 f2  : Addr}{fd fd1 fd2:Q2}(F:Fun K "parting_of" "parting_of" sPOf f fd)(T:GlbA mg)
  (m1:mg "steps" = some (.ref f1))(G1:FnOk P w K mg base CX0 4 f1 fd1 ["n"] (Zw false Qe1))(b1:Binds K fd1 ["n"] [])(k1:PySem.W.keepIn K (.ref f1)=true)
  (m2:mg "is_stand" = some (.ref f2))(G2:FnOk P w K mg base CX0 5 f2 fd2 ["board", "thing"] (Zw false Qke))(b2:Binds K fd2 ["board", "thing"] [])(k2:PySem.W.keepIn K (.ref f2)=true) :
  FnOk P w K mg base CX0 6 f fd ["n", "stand"] (Zw false QpE):=by
 refine okQ false F QhZ (λargs R EX h=>?_) (λcdv A outer s H E hr=>?_)
 ·obtain⟨n,L0,rfl,_⟩:=h;rfl
 ·have hU:=Room.u60 hr;have hI:=Room.i60 hr;refine⟨_,Q4 (Qbc (Qaz (Qa2 (JD (Zi G2 (hr.mono (by decide)) (by rfl) m2 k2 b2 ZO (Z4 (Zi G1 (hr.mono (by decide)) (by rfl) m1 k1 b1 ZO (Z4 (qv 0) JU)) (Z4 (qv 1) JU)))))) QaM Z8)
   (Q4 (Qa3 2 (QtY ["row", "column"] [none,none] (Qbj (qp 1)) (λcl ex s3 H3 C=>⟨(QbW rfl (ZB 0 (ZB 1 QbX Qnz rfl (Ju rfl) (Jl rfl)) Qnz rfl (Ju rfl) (Jl rfl))),ZN,(qv 0),(qv 1)⟩)) QhZ.nd)
   (Q4 (QgZ 3 (QmT J8) QhZ.nd)
   (Q4 (Qe4 YD rfl (Qcc (by rfl) T.range (qp 0)) (ZA 4 QhZ.nd rfl (by first | exact Ju rfl | exact Jl rfl))
    (Jt (Qbc (Qat (QxL (Qz2 hU)) Qx3 (qp 4) (qp 2) (by rfl)) (Jt (Qpx ["lot", "ahead", "thing"] [none,some 2,some 4] 3 QhZ.nd (QdV (qp 3)) (λcl ex s3 H3 C=>⟨(ZA 0 QuV rfl (Ju rfl) (Jl rfl)),ZN,(Qw1 (Qat Qeh (Qid hU) (JD (Qcy ZS YZ (qp 0) (JB (QtX (JD Zh))) (λ_ _=>rfl))) (JD (Qcy (QAK (Qz1 hU)) Qx2 (qp 1) (qp 2) (λ_ _=>rfl))) (YH _)) (Z5 (Qav Qce Qei (qp 0) (JB (QdX (Qev (qv 2) J8))))) (qv 0))⟩))) (Jt (Qw0 3 (Z5 (QdX (Qev (qv 4) J8))))))))
   (Jt (QaA (Qdl QaH QeR (by rfl) T.tuple QaW (QdW (qp 3) J8))))))),λargs R EX h=>?_⟩
  obtain⟨n,L0,rfl,hs,n1,n6,hb,hR⟩:=h;refine⟨_,rfl,n1,n6,?_⟩;refine⟨_,_,_,_,rfl,(λds e=>by cases e;rw[Qf];omega),?_⟩;show if(!Ql5 n n (stpC n) (stT L0))=true then _ else _
  rw[hb];refine ifF rfl ?_
  obtain⟨L,eL,hL⟩:=QwC hb;obtain rfl:L=L0:=by have:=congrArg stL eL;rw[Qlq,Qlq] at this;exact this.symm
  clear eL
  ·skip
   refine QyO toP (λd hd k hk=>?_) ?_ ?_ ?_
   ·obtain⟨p,_,rfl⟩:=Ql.mp hd;exact⟨rfl,_,rfl,_,rfl,hk⟩
   ·rw[QbF];exact Qaa.mpr (hL.rows.imp λ{a b}(z:a.1<b.1)=>by show a.1≠b.1;omega)
   ·rw[Qf];omega
   rw[QbF];refine⟨⟨by omega,by omega⟩,QjI (λi δ=>∃x4,δ=[.v (.int n),.v (stT L),.v (.dict (dkD L)),.own ((ptN L i).map Qby),x4]) ⟨_,rfl⟩ ?_ ?_⟩
   ·rintro i δ hi ⟨x4,rfl⟩;rw[QX] at hi;obtain⟨pl1,pl2⟩:=QmY L i;have ne:=Qsx L i;refine⟨L,rfl,?_⟩;show if(L.find? λp=>decide (p.1=0+(i:Int))).isSome=true then _ else _
    rw[show(0:Int)+(i:Int)=(i:Int) by omega];cases hf:L.find? λp=>decide (p.1=(i:Int)) with
    |some p=>
     refine Qzl (QaR (λd=>if(Qgd d).getLast? = some p.2 then Qby (Qgd d++[(i:Int)]) else d) (λd hd k2 hk=>?_) ⟨.v (.int (i:Int)),?_⟩)
     ·obtain⟨l,hl,rfl⟩:=Ql.mp hd;have l1:=pl2 l hl;have hk:k2 (if(Qgd (Qby l)).getLast? = some p.2 then Qby (Qgd (Qby l)++[(i:Int)]) else Qby l):=hk;rw[Qdr] at hk;refine⟨_,Qva (List.length_pos_iff.mpr (ne l hl)),L,p.2,rfl,by rw[hf];rfl,?_⟩;show if decide (l.getLastD 0=p.2)=true then _ else _
      by_cases z:l.getLastD 0=p.2
      ·rw[if_pos ((QsL (ne l hl)).mpr z)] at hk;rw[if_pos (decide_eq_true z)];refine⟨by rw[Qf];show _+1<=_;omega,?_⟩;rw[show l.map Qi++[Qi (i:Int)]=(l++[(i:Int)]).map Qi by rw[Jr];rfl];exact hk
      ·rw[if_neg (λe=>z ((QsL (ne l hl)).mp e))] at hk;rw[if_neg (by simpa using z)];exact hk
     ·rw[QpD hf];rfl
    |none=>
     refine QAN ⟨by rw[Qf];omega,.v (.int (i:Int)),?_⟩;have e:ptN L (i+1)=ptN L i++[[(i:Int)]]:=by
      show QoU L (ptN L i) i=_;unfold QoU;rw[hf]
     rw[e,Jr];rfl
   ·rintro δ ⟨x4,rfl⟩;rw[QX];exact hR
theorem QtK:JV ["board"] ["board"] (QD Qlw):=⟨rfl,rfl,rfl,by decide +kernel,rfl,by decide +kernel,by decide +kernel⟩
theorem QuO{f   : Addr}{fd  : Q2}(F:Fun K "most_size" "most_size" Qlw f fd)(T:GlbA mg) :
  FnOk P w K mg base CX0 1 f fd ["board"] (Zw false Qru):=by
 refine okQ false F QtK (λargs R EX h=>?_) (λcdv A outer s H E hr=>?_)
 ·obtain⟨h,w,cs,rfl,_⟩:=h;rfl
 ·have hU:=Room.u60 hr;have hI:=Room.i60 hr;refine⟨_,Jt (QaA (Z9 (Qow rfl) Qr1 (by rfl) T.min QyQ (QdW (JD (Qcy ZS YZ (qp 0) (JD Zh) (λ_ _=>rfl))) (QdW (JD (Qcy ZS YZ (qp 0) (JD Zh) (λ_ _=>rfl))) J8)))),λargs R EX h=>?_⟩;obtain⟨h,w,cs,rfl,hR⟩:=h;exact⟨_,ZP (j:=0) rfl,_,ZP (j:=1) rfl,Qu1 (by split<;>omega) hR⟩
theorem QdO:JV ["below", "columns", "taken", "ways", "column", "bit", "size", "many"] ["below", "columns", "taken"] (QD sRow):=⟨rfl,rfl,rfl,by decide +kernel,rfl,by decide +kernel,by decide +kernel⟩
theorem QuI{f   : Addr}{fd  : Q2}(F:Fun K "ways_with_row" "ways_with_row" sRow f fd)(T:GlbA mg) :
  FnOk P w K mg base CX0 1 f fd ["below", "columns", "taken"] (Zw true Qtn):=by
 refine okQ true F QdO (λargs R EX h=>?_) (λcdv A outer s H E hr=>?_)
 ·obtain⟨h,w,B,cols,t,rfl,_⟩:=h;rfl
 ·have hU:=Room.u60 hr;have hI:=Room.i60 hr;refine⟨_,Q4 (QgZ 3 (Qdl Qhs QvM (by rfl) T.list Qoy (QdW (JD (Qcy ZS YZ (qp 0) (qp 2) (λ_ _=>rfl))) J8)) QdO.nd)
   (Q4 (Qe4 YD rfl (QdV (qv 1)) (ZA 4 QdO.nd rfl (by first | exact Ju rfl | exact Jl rfl))
    (Q4 (Qa3 5 (Z5 (Qav Qnj Qrk (JD Zh) (qp 4))) QdO.nd)
   (Jt (Qbc (Qaz (Qko (JB (Qav QxR Qbl (qp 2) (qp 5))))) (Jt (Qe4 YD rfl (Qg0 (by rfl) T.enumerate (Z5 (Qe7 (JD (Qcy ZS YZ (qp 0) (JB (Qav QAz Qbl (qp 2) (qp 5))) (λ_ _=>rfl))) Qe6 (Qe5 (JB (QtX (JD Zh))))))) (QbW rfl (ZB 6 (ZB 7 QbX QdO.nd rfl (by first | exact Ju rfl | exact Jl rfl)) QdO.nd rfl (by first | exact Ju rfl | exact Jl rfl)))
    (Jt (QtU 3 Qyn QuS (JB (Qav Qce Qei (qp 6) (JD Zh))) (qp 7))))) Z8))))
   (Jt (Qjj 3))),λargs R EX h=>?_⟩
  obtain⟨h,w,B,cols,t,rfl,ht,hc,h6,w6,hR⟩:=h;refine⟨_,ZP (Qja ht),?_⟩;refine Qdu (λj δ=>∃ds x4 x5 x6 x7,δ=[.v (.list (Qln h w B)),.v (.list (Qvh cols)),.v (.int t),.own ds,x4,x5,x6,x7]/\ds=QeH h (stepB B (cols.take j) t)) ⟨_,_,_,_,_,rfl,QbD λk _=>?_⟩ ?_ ?_
  ·show B t k=B t k+if k=0 then 0 else 0
   split<;>omega
  ·rintro j d δ hd ⟨ds,x4,x5,x6,x7,rfl,rfl⟩;unfold Qvh at hd;rw[QB] at hd;obtain⟨c,ec,rfl⟩:∃c:Nat,cols[j]? = some c/\d=.int (c:Int):=by
    cases e:cols[j]? with
    |none=>rw[e] at hd;cases hd
    |some p=>rw[e] at hd;cases hd;exact⟨p,rfl,rfl⟩
   have hcw:=hc c (Q7 ec);have et:cols.take (j+1)=cols.take j++[c]:=by rw[Z0,ec];rfl
   refine⟨⟨by omega,by omega,by decide⟩,trivial,?_⟩;show if(!tru (.int (Yx (t:Int) (1*2^((c:Nat):Int).toNat))))=true then _ else _
   rw[QvS ht hcw w6];cases hb:t.testBit c with
   |true=>
    have np:(2:Int)^c≠0:=by
     have:(0:Int)<2^c:=Int.pow_pos (by decide);omega
    rw[if_pos rfl];refine ifF ?_ ⟨_,_,_,_,_,rfl,QbD λk _=>?_⟩
    ·show(!((2:Int)^c != 0))=false;simp[np]
    ·unfold stepB;rw[et,Qe0,if_pos hb,Qme]
   |false=>
    refine ifT rfl ?_
    have olt:=QAy ht hcw;refine⟨.list (QeH h (B (t ||| 2^c))),?_,?_⟩
    ·show atI (Qln h w B) (QdL (t:Int) (1*2^((c:Nat):Int).toNat))=_;rw[QxC ht hcw w6];exact ZP (Qja olt)
    ·show QvU (QfJ (Dl.cutD (QeH h (B (t ||| 2^c))) none (some (-1)))) _ _ _ _;rw[Qpu];refine Qdu (λi δ=>∃ds x6 x7,δ=[.v (.list (Qln h w B)),.v (.list (Qvh cols)),.v (.int t),.own ds,.v (.int c),.v (.int (1*2^((c:Nat):Int).toNat)),x6,x7]/\ds=QeH h (λk=>stepB B (cols.take j) t k+if 1<=k/\k<=i then B (t ||| 2^c) (k - 1) else 0)) ⟨_,_,_,rfl,QbD λk _=>?_⟩ ?_ ?_
     ·rw[if_neg (by omega),Qme]
     ·rintro i d δ hd ⟨ds,x6,x7,rfl,rfl⟩;obtain⟨e,he,rfl⟩:=QeP hd;rw[QB] at he;have hi:i<h:=by
       by_cases z:i<h
       ·exact z
       ·rw[Js (by rw[QV];omega)] at he;cases he
      rw[JT hi] at he;cases he;refine⟨rfl,i+1,_,?_,QdT (by omega),_,_,_,rfl,?_⟩
      ·rw[Qcx];exact Qvf (k:=i+1) (by omega)
      ·rw[Qps (by omega)];refine QbD λk hk=>?_
       show(if k=i+1 then(stepB B (cols.take j) t (i+1)+if 1<=i+1/\i+1<=i then B (t ||| 2^c) (i+1 - 1) else 0)+B (t ||| 2^c) i else stepB B (cols.take j) t k+if 1<=k/\k<=i then B (t ||| 2^c) (k - 1) else 0)=stepB B (cols.take j) t k+if 1<=k/\k<=i+1 then B (t ||| 2^c) (k - 1) else 0
       by_cases z:k=i+1
       ·subst z;rw[if_pos rfl,if_neg (by omega),if_pos (by omega),QaK,Qme]
       ·rw[if_neg z];by_cases z2:1<=k/\k<=i
        ·rw[if_pos z2,if_pos (by omega)]
        ·rw[if_neg z2,if_neg (by omega)]
     ·rintro δ ⟨ds,x6,x7,rfl,rfl⟩;rw[QeO,Qf,QV];refine⟨_,_,_,_,_,rfl,QbD λk hk=>?_⟩;unfold stepB;rw[et];by_cases z:k=0
      ·subst z;rw[if_pos rfl,if_neg (by omega),if_pos rfl];omega
      ·rw[if_neg z,if_neg z,if_pos (by omega),Qe0,if_neg (by rw[hb];decide)];omega
  ·rintro δ ⟨ds,x4,x5,x6,x7,rfl,rfl⟩;unfold Qvh;rw[Qf,Zv];exact hR
theorem Qrq:(["taken", "high"]:List Str).Nodup:=by decide +kernel
theorem QkD:(["at", "column", "row"]:List Str).Nodup:=by decide +kernel
theorem Qrp:(["taken", "columns", "table"]:List Str).Nodup:=by decide +kernel
theorem Qc0:JV ["board", "high", "wide", "cells", "table", "row", "columns"] ["board"] (QD Qlr):=⟨rfl,rfl,rfl,by decide +kernel,rfl,by decide +kernel,by decide +kernel⟩
theorem QuJ{f f1  : Addr}{fd fd1:Q2}(F:Fun K "ways_to_go_on" "ways_to_go_on" Qlr f fd)(T:GlbA mg)
  (m1:mg "ways_with_row" = some (.ref f1))(G1:FnOk P w K mg base CX0 1 f1 fd1 ["below", "columns", "taken"] (Zw true Qtn))(b1:Binds K fd1 ["below", "columns", "taken"] [])(k1:PySem.W.keepIn K (.ref f1)=true) :
  FnOk P w K mg base CX0 2 f fd ["board"] (Zw true Qtp):=by
 refine okQ true F Qc0 (λargs R EX h=>?_) (λcdv A outer s H E hr=>?_)
 ·obtain⟨h,w,cs,rfl,_⟩:=h;rfl
 ·have hU:=Room.u60 hr;have hI:=Room.i60 hr;refine⟨_,Q4 (Qsv (qv 0) (QbW rfl (ZB 1 (ZB 2 (ZB 3 QbX Qc0.nd rfl (by first | exact Ju rfl | exact Jl rfl)) Qc0.nd rfl (by first | exact Ju rfl | exact Jl rfl)) Qc0.nd rfl (by first | exact Ju rfl | exact Jl rfl))))
   (Q4 (QgZ 4 (QmT (Qev (Z5 (Qbk ["taken", "high"] [none,some 1] (Qcc (by rfl) T.range (JB (Qav Qnj Qrk (JD Zh) (qp 2)))) (λcl ex s3 H3 C=>⟨(ZA 0 Qrq rfl (Ju rfl) (Jl rfl)),ZN,(Z5 (Qav Qce Qei (JB (QmT (Qev Zh J8))) (JB (Qav Qnm QsF (JB (QmT (Qev Zh J8))) (qp 1)))))⟩))) J8)) Qc0.nd)
   (Q4 (Qe4 YD rfl (QtW (by rfl) T.reversed (by rfl) T.range (qp 1)) (ZA 5 Qc0.nd rfl (by first | exact Ju rfl | exact Jl rfl))
    (Q4 (Qa3 6 (Z5 (Qbk ["at", "column", "row"] [none,none,some 5] (Qbj (qp 3)) (λcl ex s3 H3 C=>⟨(QbW rfl (ZB 0 (ZB 1 QbX QkD rfl (Ju rfl) (Jl rfl)) QkD rfl (Ju rfl) (Jl rfl))),(QgY (Qat Qeh (Qid hU) (qp 0) (qp 2) (YH _))),(qv 1)⟩))) Qc0.nd)
   (Jt (QwZ 4 Zh (Z5 (Qbk ["taken", "columns", "table"] [none,some 6,some 4] (Qcc (by rfl) T.range (JB (Qav Qnj Qrk (JD Zh) (qp 2)))) (λcl ex s3 H3 C=>⟨(ZA 0 Qrp rfl (Ju rfl) (Jl rfl)),ZN,(Z5 (QbO G1 (hr.mono (by decide)) (by rfl) m1 k1 b1 ZO (Z4 (Qcy ZS YZ (qp 2) (JD Zh) (λ_ _=>rfl)) (Z4 (qv 1) (Z4 (qv 0) JU)))))⟩)))))))
   (Jt (Qjj 4)))),λargs R EX h=>?_⟩
  obtain⟨h,w,cs,rfl,h6,w6,hb,hR⟩:=h;refine⟨rfl,⟨by omega,by omega,by decide⟩,?_,QaR (λ_=>.list (Qi 1::Jj h (.int 0))) (λd hd k2 hk=>?_) ?_⟩
  ·exact Qsz w6
  ·refine⟨⟨by omega,by omega,by rw[QX];show 1*h<=_;omega⟩,?_⟩;rw[QX,QtO];refine⟨by rw[QaY];show 1+h<=_;omega,hk⟩
  ·have e0:(Qjh 0 (1*2^((w:Nat):Int).toNat:Int).toNat).map (λ_=>YT (Qi 1::Jj h (.int 0)))=Qln h w (Wc cs h 0):=by
    rw[Qg1,QX];unfold Qjh Qln;rw[Q8];refine JS λt _=>?_
    show YT _=YT _;rw[Qpt]
   rw[e0];refine⟨⟨by omega,by omega⟩,Qdu (λi δ=>∃ds x5 x6,δ=[.v (bdD h w cs),.v (.int h),.v (.int w),.v (.tuple (cs.map pairD)),.own ds,x5,x6]/\ds=Qsj cs h w i) ⟨_,_,_,rfl,rfl⟩ ?_ ?_⟩
   ·rintro i d δ hd ⟨ds,x5,x6,rfl,rfl⟩;obtain⟨hi,rfl⟩:=Qki hd;rw[QX] at hi;have er:((((h:Nat):Int).toNat:Nat):Int) - 1 - (i:Int)=((h - 1 - i:Nat):Int):=by omega
    rw[er];refine QvG (λd=>if(toP d).1=((h - 1 - i:Nat):Int) then some (.int (toP d).2) else none) (λd hd k1 k2 h1 h2=>?_) ?_
    ·obtain⟨p,_,rfl⟩:=Ql.mp hd;have h1:(if p.1=((h - 1 - i:Nat):Int) then some (Qi p.2) else none)=none->k1:=h1;have h2:∀e,(if p.1=((h - 1 - i:Nat):Int) then some (Qi p.2) else none)=some e->k2 e:=h2
     refine⟨rfl,?_⟩;show if decide (p.1=((h - 1 - i:Nat):Int))=true then k2 (.int p.2) else k1
     by_cases z:p.1=((h - 1 - i:Nat):Int)
     ·rw[if_pos (decide_eq_true z)];exact h2 _ (if_pos z)
     ·rw[if_neg (by simpa using z)];exact h1 (if_neg z)
    ·rw[QyN cs (h - 1 - i) λp hp=>(hb p hp).1];refine⟨⟨by omega,by omega,by decide⟩,?_,QaR (λd=>match d with | .int t=>.list (QeH h (Wc cs h (i+1) t.toNat)) | _=>.none) (λd hd k2 hk=>?_) ?_⟩
     ·exact Qsz w6
     ·obtain⟨t,ht⟩:=Ji.mp hd;obtain⟨htl,rfl⟩:=Qc1 ht;rw[Qg1,QX] at htl;have hk:k2 (.list (QeH h (Wc cs h (i+1) (0+(t:Int)).toNat))):=hk;rw[show(0+(t:Int)).toNat=t by omega] at hk;refine⟨_,ZP (j:=0) (Qmr cs h w i),h,w,Wc cs h i,Qv5 cs (h - 1 - i),t,by rw[show(0:Int)+(t:Int)=(t:Int) by omega],htl,λc hc=>QvD hb hc,h6,w6,hk⟩
     ·refine⟨by rw[Qkb];omega,_,_,_,rfl,?_⟩;show YT _::Qsj cs h w i=YT (Qln h w (Wc cs h (i+1)))::Qsj cs h w i
      congr 2
      rw[Qg1,QX];unfold Qjh Qln;rw[Q8];refine JS λt _=>?_
      show YT (QeH h (Wc cs h (i+1) (0+(t:Int)).toNat))=_;rw[show(0+(t:Int)).toNat=t by omega]
   ·rintro δ ⟨ds,x5,x6,rfl,rfl⟩;rw[QgT,QX];exact hR
theorem QmG:JV ["board"] ["board"] (QD QdS):=⟨rfl,rfl,rfl,by decide +kernel,rfl,by decide +kernel,by decide +kernel⟩
theorem Qnr{f f1 f2  : Addr}{fd fd1 fd2:Q2}(F:Fun K "counts" "counts" QdS f fd)(T:GlbA mg)
  (m1:mg "ways_to_go_on" = some (.ref f1))(G1:FnOk P w K mg base CX0 2 f1 fd1 ["board"] (Zw true Qtp))(b1:Binds K fd1 ["board"] [])(k1:PySem.W.keepIn K (.ref f1)=true)
  (m2:mg "most_size" = some (.ref f2))(G2:FnOk P w K mg base CX0 1 f2 fd2 ["board"] (Zw false Qru))(b2:Binds K fd2 ["board"] [])(k2:PySem.W.keepIn K (.ref f2)=true) :
  FnOk P w K mg base CX0 3 f fd ["board"] (Zw true Qhl):=by
 refine okQ true F QmG (λargs R EX h=>?_) (λcdv A outer s H E hr=>?_)
 ·obtain⟨h,w,cs,rfl,_⟩:=h;rfl
 ·have hU:=Room.u60 hr;have hI:=Room.i60 hr;refine⟨_,Jt (QaA (Qe7 (JD (Qcy ZS YZ (JD (Qcy ZS YZ (JB (QbO G1 (hr.mono (by decide)) (by rfl) m1 k1 b1 ZO (Z4 (qv 0) JU))) (JD Zh) (λ_ _=>rfl))) (JD Zh) (λ_ _=>rfl))) Qe6 (Qe5 (JB (Qav Qce Qei (JD (Zi G2 (hr.mono (by decide)) (by rfl) m2 k2 b2 ZO (Z4 (qv 0) JU))) (JD Zh)))))),λargs R EX h=>?_⟩;obtain⟨h,w,cs,rfl,h6,w6,hb,hR⟩:=h;refine⟨_,_,_,rfl,h6,w6,hb,_,ZP (j:=0) (Qmr cs h w h),_,ZP (j:=0) (Qja (Nat.two_pow_pos w)),_,_,_,rfl,?_⟩;have e:Dl.cutD (QeH h (Wc cs h h 0)) none (some (((min h w:Nat):Int)+1))=QrW cs h w:=by
   rw[QrT _ _ (by omega)];unfold QeH QrW;rw[<- Qj0,QvW,show min (((min h w:Nat):Int)+1).toNat (h+1)=min h w+1 by omega]
  have hR:R (.list (QrW cs h w)):=hR;rw[<- e] at hR;exact hR
theorem QtH:JV ["start"] ["start"] (QD Qls):=⟨rfl,rfl,rfl,by decide +kernel,rfl,by decide +kernel,by decide +kernel⟩
theorem QuK{f   : Addr}{fd  : Q2}(F:Fun K "row_behind" "row_behind" Qls f fd)(T:GlbA mg) :
  FnOk P w K mg base CX0 1 f fd ["start"] (Zw false QtL):=by
 refine okQ false F QtH (λargs R EX h=>?_) (λcdv A outer s H E hr=>?_)
 ·obtain⟨S,rfl,_⟩:=h;rfl
 ·have hU:=Room.u60 hr;have hI:=Room.i60 hr;refine⟨_,Jt (YG (Qw1 (Qko (qp 0)) (Z5 (Qav Qce Qei (JD (Qcy ZS YZ (JD (Qcy ZS YZ (qp 0) (JB (QtX (JD Zh))) (λ_ _=>rfl))) (JD Zh) (λ_ _=>rfl))) (JD Zh))) Zh)),λargs R EX h=>?_⟩;obtain⟨S,rfl,hR⟩:=h;refine⟨trivial,?_⟩;unfold rbI at hR;cases e:S.getLast? with
  |none=>
   rw[e] at hR;rw[QiT] at e;subst e;exact hR
  |some c=>
   rw[e] at hR;refine ifT ?_ ⟨_,Qu8 e,_,ZP (j:=0) rfl,hR⟩
   cases S with
   |nil=>cases e
   |cons a b=>rfl
theorem Qu0:(["cell"]:List Str).Nodup:=by decide +kernel
theorem QuZ:(["cell", "row", "taken"]:List Str).Nodup:=by decide +kernel
theorem QmF:JV ["board", "start", "row", "taken"] ["board", "start"] (QD sFol):=⟨rfl,rfl,rfl,by decide +kernel,rfl,by decide +kernel,by decide +kernel⟩
theorem QxY{f f1  : Addr}{fd fd1:Q2}(F:Fun K "followers" "followers" sFol f fd)(T:GlbA mg)
  (m1:mg "row_behind" = some (.ref f1))(G1:FnOk P w K mg base CX0 1 f1 fd1 ["start"] (Zw false QtL))(b1:Binds K fd1 ["start"] [])(k1:PySem.W.keepIn K (.ref f1)=true) :
  FnOk P w K mg base CX0 2 f fd ["board", "start"] (Zw false QAV):=by
 refine okQ false F QmF (λargs R EX h=>?_) (λcdv A outer s H E hr=>?_)
 ·obtain⟨h,w,cs,S,rfl,_⟩:=h;rfl
 ·have hU:=Room.u60 hr;have hI:=Room.i60 hr;refine⟨_,Q4 (Qa3 2 (Zi G1 (hr.mono (by decide)) (by rfl) m1 k1 b1 ZO (Z4 (qv 1) JU)) QmF.nd)
   (Q4 (Qa3 3 (Z5 (Qbk ["cell"] [none] (Qbj (qp 1)) (λcl ex s3 H3 C=>⟨(ZA 0 Qu0 rfl (Ju rfl) (Jl rfl)),ZN,(Qcy ZS YZ (qp 0) (JD Zh) (λ_ _=>rfl))⟩))) QmF.nd)
   (Jt (QaA (Qbk ["cell", "row", "taken"] [none,some 2,some 3] (Qbj (JD (Qcy ZS YZ (qp 0) (JD Zh) (λ_ _=>rfl)))) (λcl ex s3 H3 C=>⟨(ZA 0 QuZ rfl (Ju rfl) (Jl rfl)),(QgY (Qpy (QwX (Qat QAC Qnv (JD (Qcy ZS YZ (qp 0) (JD Zh) (λ_ _=>rfl))) (qp 1) (YH _)) (QtT (Qat Qh9 (Qrj hI) (JD (Qcy ZS YZ (qp 0) (JD Zh) (λ_ _=>rfl))) (qp 2) (by rfl)))))),(qv 0)⟩))))),λargs R EX h=>?_⟩
  obtain⟨h,w,cs,S,rfl,hR⟩:=h;refine⟨_,rfl,QaR (λd=>.int (toP d).2) (λd hd k2 hk=>?_) ?_⟩
  ·obtain⟨p,_,rfl⟩:=Ql.mp hd;exact⟨_,ZP (j:=1) rfl,hk⟩
  ·rw[show(S.map pairD).map (λd=>Qi (toP d).2)=(S.map (·.2)).map Qi by rw[Q8,Q8];rfl];refine⟨_,ZP (j:=2) rfl,QvG (λd=>if(λc:Int×Int=>decide (rbI S<=c.1) && !decide (c.2∈S.map (·.2))) (toP d)=true then some d else none) (λd hd k1 k2 h1 h2=>?_) ?_⟩
   ·obtain⟨c,_,rfl⟩:=Ql.mp hd;have h1:(if(decide (rbI S<=c.1) && !decide (c.2∈S.map (·.2)))=true then some (pairD c) else none)=none->k1:=h1;have h2:∀e,(if(decide (rbI S<=c.1) && !decide (c.2∈S.map (·.2)))=true then some (pairD c) else none)=some e->k2 e:=h2
    refine⟨_,ZP (j:=0) rfl,?_⟩;refine ifC (λz1=>?_) λz1=>?_
    ·have z1:decide (rbI S<=c.1)=true:=z1;rw[z1,Qzb] at h1 h2;refine⟨_,ZP (j:=1) rfl,⟨QeJ _,rfl,by show ZG (.int _)<=50;unfold ZG;decide⟩,?_⟩;show if(!((S.map (·.2)).map Qi).any λe=>QY e (.int c.2))=true then _ else k1
     rw[QvR];by_cases z:(!decide (c.2∈S.map (·.2)))=true
     ·rw[if_pos z];exact h2 _ (if_pos z)
     ·rw[if_neg z];exact h1 (if_neg z)
    ·have z1:decide (rbI S<=c.1)=false:=z1;rw[z1] at h1;exact h1 rfl
   ·rw[QrL (λc:Int×Int=>decide (rbI S<=c.1) && !decide (c.2∈S.map (·.2)))];exact hR
theorem QsI:(["stand", "cell", "board"]:List Str).Nodup:=by decide +kernel
theorem Qpn:JV ["board", "size", "stands", "step"] ["board", "size"] (QD Qf2):=⟨rfl,rfl,rfl,by decide +kernel,rfl,by decide +kernel,by decide +kernel⟩
theorem QAH{f f1  : Addr}{fd fd1:Q2}(F:Fun K "every_stand" "every_stand" Qf2 f fd)(T:GlbA mg)
  (m1:mg "followers" = some (.ref f1))(G1:FnOk P w K mg base CX0 2 f1 fd1 ["board", "start"] (Zw false QAV))(b1:Binds K fd1 ["board", "start"] [])(k1:PySem.W.keepIn K (.ref f1)=true) :
  FnOk P w K mg base CX0 3 f fd ["board", "size"] (Zw true evD):=by
 refine okQ true F Qpn (λargs R EX h=>?_) (λcdv A outer s H E hr=>?_)
 ·obtain⟨h,w,cs,k,rfl,_⟩:=h;rfl
 ·have hU:=Room.u60 hr;have hI:=Room.i60 hr;refine⟨_,Q4 (QgZ 2 (QmT (Qev (Z5 (QdX J8)) J8)) Qpn.nd)
   (Q4 (Qe4 YD rfl (Qcc (by rfl) T.range (qp 1)) (ZA 3 Qpn.nd rfl (by first | exact Ju rfl | exact Jl rfl))
    (Jt (QmQ ["stand", "cell", "board"] [none,none,some 0] 2 Qpn.nd (QeM 0) (QdV (qp 2)) (λcl ex s3 H3 C=>⟨(ZA 0 QsI rfl (Ju rfl) (Jl rfl)),ZN,(QdV (Zi G1 (hr.mono (by decide)) (by rfl) m1 k1 b1 ZO (Z4 (qv 2) (Z4 (qv 0) JU)))),(ZA 1 QsI rfl (Ju rfl) (Jl rfl)),ZN,(Z5 (Qav Qce Qei (qp 0) (JB (QdX (Qev (qv 1) J8)))))⟩))))
   (Jt (Qjj 2))),λargs R EX h=>?_⟩
  obtain⟨h,w,cs,k,rfl,g,k6,hR⟩:=h;refine⟨⟨by omega,by omega⟩,QjI (λi δ=>∃ds x3,δ=[.v (bdD h w cs),.v (.int k),.own ds,x3]/\ds=(evS cs i).map stT) ⟨_,_,rfl,rfl⟩ ?_ ?_⟩
  ·rintro i δ hi ⟨ds,x3,rfl,rfl⟩;rw[QX] at hi;refine Qho (evG cs) 200000 (by rw[Qn3,Qf];exact Qyt g (i+1)) (λd hd acc N hb hN=>?_) ?_
   ·obtain⟨S,hS,rfl⟩:=Ql.mp hd;have lS:=((Qfb g.r0 i S).mp hS).2;unfold evG at hb hN;rw[Qlq] at hb hN;rw[Qf] at hb;refine⟨_,_,_,_,rfl,QkS (λd=>.tuple (S.map pairD++[d])) (by rw[Qf];exact YV hb (by decide)) (λd hd k2 hk=>?_) ?_⟩
    ·exact⟨by rw[Qf];show _+1<=_;omega,hk⟩
    ·rw[Q8];have e:(fol cs S).map ((λd=>ZW (S.map pairD++[d]))∘pairD)=(fol cs S).map λc=>stT (S++[c]):=JS λc _=>by
      show ZW (S.map pairD++[pairD c])=ZW ((S++[c]).map pairD);rw[Jr];rfl
     rw[e];exact hN
   ·rw[Qn3];exact⟨_,_,rfl,rfl⟩
  ·rintro δ ⟨ds,x3,rfl,rfl⟩;rw[QX];exact hR
end
def QtB:DF:=λargs R _=>∃(n:Int)(L:List (List Int)),args=[.v (.int n),.v (pPar L)]/\Qpd (pPar L)/\1<=n/\n<=6/\Qfe n (pPar L)=true/\L.length<=9/\(∀l∈L,l.length<=20)/\∀es:List Qa,es.Perm ((cellP L).map pairD)->es.Pairwise (λa b=>ltD b a=false)->R (.tuple es)
theorem Qr0{L:List (List Int)}(h9:L.length<=9)(h:∀l∈L,l.length<=20):(cellP L).length<=180:=by
 have:∀M:List (List Int),(∀l∈M,l.length<=20)->(cellP M).length<=20*M.length:=by
  intro M;induction M with
  |nil=>intro _;exact Qh _
  |cons l M ih=>
   intro h;have h1:=h l (.head _);have h2:=ih λl hl=>h l (.tail _ hl)
   have h3:=QiB l;unfold cellP at h2 ⊢;rw[Zl,Qv,Qx];omega
 have:=this L h;omega
def QBd(d:Qa):List Qa:=(QgF (QlH d) (Dl.cutD (QlH d) (some 1) none)).map QvY
theorem Qkf(L:List (List Int)):(L.map Qby).flatMap QBd=(cellP L).map pairD:=by
 unfold cellP;induction L with
 |nil=>rfl
 |cons l L ih=>
  rw[Jc,Zl,ih,Zl,Jr]
  congr 1
  exact Qj5 l
def QmK:DF:=λargs R _=>∃(h w:Nat)(cs:List (Int×Int))(k:Nat),args=[.v (bdD h w cs),.v (.int k)]/\k<=min h w/\R .none
def QeF:DF:=λargs R _=>∃(h w:Nat)(cs:List (Int×Int))(k:Nat),args=[.v (bdD h w cs),.v (.int k)]/\GB h w cs/\k<=min h w/\Wc cs h h 0 k<=300/\R (.list ((evS cs k).map stT))
def Qjr:DF:=λargs R _=>∃(n m:Nat),args=[.v (.int n),.v (.int m)]/\1<=n/\n<=6/\1<=m/\m<=n/\R (.list ((parted m (rngI n)).map pPar))
theorem QnZ{n:Nat}(n6:n<=6):GB n n (stpC n):=⟨⟨n6,n6,λp hp=>Qop hp⟩,Qh4 _ _ _,of_decide_eq_true (QwA ⟨n,by omega⟩)⟩
theorem Qmx(L:List (List (List Int))):QaI (L.map pPar):=⟨λx hx y hy=>by
  obtain⟨a,_,rfl⟩:=Ql.mp hx;obtain⟨b,_,rfl⟩:=Ql.mp hy;exact cl a b,λx hx=>by
  obtain⟨a,_,rfl⟩:=Ql.mp hx;show QF (a.map Qby)+1<=20;have:=Yl (n:=1) (ds:=a.map Qby) λd hd=>by
   obtain⟨l,_,rfl⟩:=Ql.mp hd;show QF (l.map Qi)+1<=1;have:=Yl (n:=0) (ds:=l.map Qi) λd hd=>by obtain⟨p,_,rfl⟩:=Ql.mp hd;exact Qh _
   omega
  omega⟩
where
 ci:∀a b:List Int,QaV (a.map Qi) (b.map Qi)=true
  |[],[]=>rfl
  |[],_::_=>rfl
  |_::_,[]=>rfl
  |x::a,y::b=>by show(true&&QaV (a.map Qi) (b.map Qi))=true;rw[ci a b];rfl
 cl:∀a b:List (List Int),QaV (a.map Qby) (b.map Qby)=true
  |[],[]=>rfl
  |[],_::_=>rfl
  |_::_,[]=>rfl
  |x::a,y::b=>by show(QaV (x.map Qi) (y.map Qi)&&QaV (a.map Qby) (b.map Qby))=true;rw[ci x y,cl a b];rfl
theorem Qt4(n k:Nat):((evS (stpC n) k).map stT).map (λd=>pPar (ptN (stL d) n))=(Qxa n k).map pPar:=by
 unfold Qxa;rw[Q8,Q8];refine JS λL _=>?_
 show pPar (ptN (stL (stT L)) n)=_;rw[Qlq];rfl
section
variable{P:QC}{w:Q9}{K:PySem.W.Frag}{mg:Str->Option Value}{base:Heap}
theorem Qjw:(["lot", "ahead", "thing"]:List Str).Nodup:=by decide +kernel
theorem Qsr:JV ["n", "parting", "cells"] ["n", "parting"] (QD sSOf):=⟨rfl,rfl,rfl,by decide +kernel,rfl,by decide +kernel,by decide +kernel⟩
theorem QxT{f f1  : Addr}{fd fd1:Q2}(F:Fun K "stand_of" "stand_of" sSOf f fd)(T:GlbA mg)
  (m1:mg "is_parting" = some (.ref f1))(G1:FnOk P w K mg base CX0 5 f1 fd1 ["n", "thing"] (Zw false Qky))(b1:Binds K fd1 ["n", "thing"] [])(k1:PySem.W.keepIn K (.ref f1)=true) :
  FnOk P w K mg base CX0 6 f fd ["n", "parting"] (Zw false QtB):=by
 refine okQ false F Qsr (λargs R EX h=>?_) (λcdv A outer s H E hr=>?_)
 ·obtain⟨n,L,rfl,_⟩:=h;rfl
 ·have hU:=Room.u60 hr;have hI:=Room.i60 hr;refine⟨_,Q4 (Qbc (Qaz (Qa2 (JD (Zi G1 (hr.mono (by decide)) (by rfl) m1 k1 b1 ZO (Z4 (qv 0) (Z4 (qv 1) JU)))))) QaM Z8)
   (Q4 (Qkp ["lot", "ahead", "thing"] [none,none,none] 2 Qsr.nd (QeM 0) (Qbj (qp 1)) (λcl ex s3 H3 C=>⟨(ZA 0 Qjw rfl (Ju rfl) (Jl rfl)),ZN,(QmR (by rfl) T.zip (qv 0) (Z5 (Qe7 (qp 0) (Qe5 (JD Zh)) Qe6))),(QbW rfl (ZB 1 (ZB 2 QbX Qjw rfl (Ju rfl) (Jl rfl)) Qjw rfl (Ju rfl) (Jl rfl))),ZN,(Z5 (QdX (Qev (qv 2) (Qev (qv 1) J8))))⟩))
   (Jt (QaA (Qdl QaH QeR (by rfl) T.tuple QaW (QdW (JB (Z9 (Qd4 hU) Qhp (by rfl) T.sorted Qcl (QdW (qp 2) J8))) J8))))),λargs R EX h=>?_⟩
  obtain⟨n,L,rfl,hs,n1,n6,hb,h9,h20,hR⟩:=h;refine⟨_,_,rfl,hs,n1,n6,?_⟩;show if(!Qfe n (pPar L))=true then _ else _
  rw[hb];refine ifF rfl ?_
  ·have hc:=Qr0 h9 h20;refine Qho QBd 180 (by rw[Qkf,Qf];exact hc) (λd hd acc N hb hN=>?_) ?_
   ·obtain⟨l,hl,rfl⟩:=Ql.mp hd;refine QkS QvY ?_ (λd hd k2 hk=>?_) hN
    ·have hb:acc.length+((QgF (QlH (Qby l)) (Dl.cutD (QlH (Qby l)) (some 1) none)).map QvY).length<=180:=hb;rw[Qf] at hb;exact YV hb (by decide)
    ·obtain⟨i,hi⟩:=Ji.mp hd;obtain⟨a,b,ha,hb,rfl⟩:=Dl.zip_get hi;exact⟨rfl,hk⟩
   ·rw[Qkf];exact(QgP (QfF _) λes pm pw=>hR es pm pw).1
theorem Qpk:JV ["board", "size"] ["board", "size"] (QD QfY):=⟨rfl,rfl,rfl,by decide +kernel,rfl,by decide +kernel,by decide +kernel⟩
theorem Qrd{f f1 f2  : Addr}{fd fd1 fd2:Q2}(F:Fun K "refuse_no_size" "refuse_no_size" QfY f fd)(T:GlbA mg)
  (m1:mg "is_whole_within" = some (.ref f1))(G1:FnOk P w K mg base CX0 2 f1 fd1 ["thing", "least", "most"] (Zw false QcZ))(b1:Binds K fd1 ["thing", "least", "most"] [])(k1:PySem.W.keepIn K (.ref f1)=true)
  (m2:mg "most_size" = some (.ref f2))(G2:FnOk P w K mg base CX0 1 f2 fd2 ["board"] (Zw false Qru))(b2:Binds K fd2 ["board"] [])(k2:PySem.W.keepIn K (.ref f2)=true) :
  FnOk P w K mg base CX0 3 f fd ["board", "size"] (Zw false QmK):=by
 refine okQ false F Qpk (λargs R EX h=>?_) (λcdv A outer s H E hr=>?_)
 ·obtain⟨h,w,cs,k,rfl,_⟩:=h;rfl
 ·have hU:=Room.u60 hr;have hI:=Room.i60 hr;refine⟨_,Jt (Qbc (Qaz (Qa2 (JD (Zi G1 (hr.mono (by decide)) (by rfl) m1 k1 b1 ZO (Z4 (qv 1) (Z4 Zh (Z4 (Zi G2 (hr.mono (by decide)) (by rfl) m2 k2 b2 ZO (Z4 (qv 0) JU)) JU))))))) QaM Z8),λargs R EX h=>?_⟩;obtain⟨h,w,cs,k,rfl,hk,hR⟩:=h;refine⟨_,_,_,rfl,_,_,_,rfl,?_⟩;show if(!inW (.int k) 0 ((min h w:Nat):Int))=true then _ else _
  rw[QlM (by omega) (by omega)];exact hR
theorem QAc:JV ["board", "size"] ["board", "size"] (QD QbC):=⟨rfl,rfl,rfl,by decide +kernel,rfl,by decide +kernel,by decide +kernel⟩
theorem QAF{f f1 f2 f3  : Addr}{fd fd1 fd2 fd3:Q2}(hB:∃t,mg "MOST_TOLD" = some (.int 300 t))(F:Fun K "stands_of" "stands_of" QbC f fd)(T:GlbA mg)
  (m1:mg "refuse_no_size" = some (.ref f1))(G1:FnOk P w K mg base CX0 3 f1 fd1 ["board", "size"] (Zw false QmK))(b1:Binds K fd1 ["board", "size"] [])(k1:PySem.W.keepIn K (.ref f1)=true)
  (m2:mg "counts" = some (.ref f2))(G2:FnOk P w K mg base CX0 3 f2 fd2 ["board"] (Zw true Qhl))(b2:Binds K fd2 ["board"] [])(k2:PySem.W.keepIn K (.ref f2)=true)
  (m3:mg "every_stand" = some (.ref f3))(G3:FnOk P w K mg base CX0 3 f3 fd3 ["board", "size"] (Zw true evD))(b3:Binds K fd3 ["board", "size"] [])(k3:PySem.W.keepIn K (.ref f3)=true) :
  FnOk P w K mg base CX0 4 f fd ["board", "size"] (Zw true QeF):=by
 refine okQ true F QAc (λargs R EX h=>?_) (λcdv A outer s H E hr=>?_)
 ·obtain⟨h,w,cs,k,rfl,_⟩:=h;rfl
 ·obtain⟨tB,mB⟩:=hB;have hU:=Room.u60 hr;have hI:=Room.i60 hr;refine⟨_,Q4 (Qjk (JD (Zi G1 (hr.mono (by decide)) (by rfl) m1 k1 b1 ZO (Z4 (qv 0) (Z4 (qv 1) JU)))))
   (Q4 (Qbc (Qat QxN Qnv (JD (Qcy ZS YZ (JB (QbO G2 (hr.mono (by decide)) (by rfl) m2 k2 b2 ZO (Z4 (qv 0) JU))) (qp 1) (λ_ _=>rfl))) (JD (Qsw 300 (by rfl) mB ⟨_,rfl⟩)) (YH _)) QaM Z8)
   (Jt (QaA (QbO G3 (hr.mono (by decide)) (by rfl) m3 k3 b3 ZO (Z4 (qv 0) (Z4 (qv 1) JU)))))),λargs R EX h=>?_⟩
  obtain⟨h,w,cs,k,rfl,g,hk,hm,hR⟩:=h;refine⟨_,_,_,_,rfl,hk,?_⟩;have h6:=g.bds.1;refine⟨_,_,_,rfl,g.bds.1,g.bds.2.1,g.bds.col,.int (Wc cs h h 0 k),?_,?_⟩
  ·exact ZP (by unfold QrW;rw[QB,JT (by omega)];rfl)
  ·refine ifC (λz=>?_) λz=>?_
   ·have z:=of_decide_eq_true z;omega
   ·exact⟨_,_,_,_,rfl,g,by omega,hR⟩
theorem QnA:(["stand", "n"]:List Str).Nodup:=by decide +kernel
theorem Qkg:JV ["n", "many", "board"] ["n", "many"] (QD Qf0):=⟨rfl,rfl,rfl,by decide +kernel,rfl,by decide +kernel,by decide +kernel⟩
theorem Qrf{f f1 f2 f3 f4  : Addr}{fd fd1 fd2 fd3 fd4:Q2}(F:Fun K "partings" "partings" Qf0 f fd)(T:GlbA mg)
  (m1:mg "steps" = some (.ref f1))(G1:FnOk P w K mg base CX0 4 f1 fd1 ["n"] (Zw false Qe1))(b1:Binds K fd1 ["n"] [])(k1:PySem.W.keepIn K (.ref f1)=true)
  (m2:mg "is_whole_within" = some (.ref f2))(G2:FnOk P w K mg base CX0 2 f2 fd2 ["thing", "least", "most"] (Zw false QcZ))(b2:Binds K fd2 ["thing", "least", "most"] [])(k2:PySem.W.keepIn K (.ref f2)=true)
  (m3:mg "parting_of" = some (.ref f3))(G3:FnOk P w K mg base CX0 6 f3 fd3 ["n", "stand"] (Zw false QpE))(b3:Binds K fd3 ["n", "stand"] [])(k3:PySem.W.keepIn K (.ref f3)=true)
  (m4:mg "stands_of" = some (.ref f4))(G4:FnOk P w K mg base CX0 4 f4 fd4 ["board", "size"] (Zw true QeF))(b4:Binds K fd4 ["board", "size"] [])(k4:PySem.W.keepIn K (.ref f4)=true) :
  FnOk P w K mg base CX0 7 f fd ["n", "many"] (Zw true Qjr):=by
 refine okQ true F Qkg (λargs R EX h=>?_) (λcdv A outer s H E hr=>?_)
 ·obtain⟨n,m,rfl,_⟩:=h;rfl
 ·have hU:=Room.u60 hr;have hI:=Room.i60 hr;refine⟨_,Q4 (Qa3 2 (Zi G1 (hr.mono (by decide)) (by rfl) m1 k1 b1 ZO (Z4 (qv 0) JU)) Qkg.nd)
   (Q4 (Qbc (Qaz (Qa2 (JD (Zi G2 (hr.mono (by decide)) (by rfl) m2 k2 b2 ZO (Z4 (qv 1) (Z4 Zh (Z4 (qv 0) JU))))))) QaM Z8)
   (Jt (QaA (Z9 (Qd4 hU) Qhp (by rfl) T.sorted Qcl (QdW (JB (Qbk ["stand", "n"] [none,some 0] (QdV (JB (QbO G4 (hr.mono (by decide)) (by rfl) m4 k4 b4 ZO (Z4 (qv 2) (Z4 (Z5 (Qav QbY Qbl (qp 0) (qp 1))) JU))))) (λcl ex s3 H3 C=>⟨(ZA 0 QnA rfl (Ju rfl) (Jl rfl)),ZN,(Zi G3 (hr.mono (by decide)) (by rfl) m3 k3 b3 ZO (Z4 (qv 1) (Z4 (qv 0) JU)))⟩))) J8))))),λargs R EX h=>?_⟩
  obtain⟨n,m,rfl,n1,n6,m1,mn,hR⟩:=h;refine⟨_,rfl,n1,n6,?_⟩;refine⟨_,_,_,rfl,?_⟩;show if(!inW (.int m) 1 n)=true then _ else _
  rw[QlM (by omega) (by omega)];refine ifF rfl ?_
  ·have g:=QnZ n6;have wc:Wc (stpC n) n n 0 (n - m)<=300:=of_decide_eq_true (Qsn ⟨n,by omega⟩ ⟨n - m,by omega⟩);have e:(n:Int) - (m:Int)=((n - m:Nat):Int):=by omega
   refine⟨n,n,stpC n,n - m,by rw[<- e];rfl,g,by omega,wc,?_⟩
   ·refine QaR (λd=>pPar (ptN (stL d) n)) (λd hd k2 hk=>?_) ?_
    ·obtain⟨L,hL,rfl⟩:=Ql.mp hd;have hk:k2 (pPar (ptN (stL (stT L)) n)):=hk;rw[Qlq] at hk;obtain⟨st,ln⟩:=(Qfb g.r0 _ L).mp hL;have is:=QwB g st;exact⟨_,_,rfl,by omega,n1,n6,is,hk⟩
    ·rw[Qt4];refine(QgP (Qmx _) λes pm pw=>?_).1;rw[Qp8 n6 (by omega) (by omega) pm pw];exact hR
end
def QnG(cs:List (Int×Int))(cols:List Int)(r:Nat)(row:Int):List (Int×Int):=((Qq cols.length).filter λc=>decide ((row,cols.getD c 0)∈cs)).map λ(c:Nat)=>((r:Int),(c:Int))
def Qx9(cs:List (Int×Int))(rows cols:List Int):List (Int×Int):=(Qq rows.length).flatMap λr=>QnG cs cols r (rows.getD r 0)
def Qya(cs:List (Int×Int))(r:Int)(i:Nat):Qa->Option Qa
 |.tuple [.int c,.int col]=>if(r,col)∈cs then some (pairD ((i:Int),c)) else none
 |_=>none
theorem Qx8(cs:List (Int×Int))(cols:List Int)(i:Nat)(r:Int):(QfJ (cols.map Qi)).filterMap (Qya cs r i)=(QnG cs cols i r).map pairD:=by
 unfold QfJ QnG;rw[QaD,Qf,Q8];have key:∀l:List Nat,(∀j∈l,j<cols.length)->l.filterMap (Qya cs r i∘λ(j:Nat)=>ZW [Qi j,(cols.map Qi).getD j .none])=(l.filter λc=>decide ((r,cols.getD c 0)∈cs)).map (pairD∘λ(c:Nat)=>((i:Int),(c:Int))):=λl=>by
  induction l with
  |nil=>intro _;rfl
  |cons j l ih=>
   intro hl;have hj:=hl j (.head _);have e:(cols.map Qi).getD j .none=Qi (cols.getD j 0):=by
    rw[Jx,QB,Jx,Qo hj];rfl
   have e2:(Qya cs r i∘λ(j:Nat)=>ZW [Qi j,(cols.map Qi).getD j .none]) j=if(r,cols.getD j 0)∈cs then some (pairD ((i:Int),(j:Int))) else none:=by
    show Qya cs r i (ZW [Qi j,(cols.map Qi).getD j .none])=_;rw[e];rfl
   rw[ZE,e2];by_cases z:(r,cols.getD j 0)∈cs
   ·rw[if_pos z,Qcs (by simpa using z),Jc,ih λk hk=>hl k (.tail _ hk)];rfl
   ·rw[if_neg z,Qct (by simpa using z),ih λk hk=>hl k (.tail _ hk)]
 exact key _ λj hj=>Jp.mp hj
theorem Qrx(cs:List (Int×Int))(cols:List Int)(i:Nat)(r:Int):(QnG cs cols i r).length<=cols.length:=by
 unfold QnG;rw[Qf];have:=Ql1 (λc=>decide ((r,cols.getD c 0)∈cs)) (Qq cols.length);rw[QV] at this;exact this
theorem QkL(cs:List (Int×Int))(cols:List Int)(g:Nat->Int):∀n,((Qq n).flatMap λr=>QnG cs cols r (g r)).length<=n*cols.length
 |0=>by simp
 |n+1=>by
  rw[Y0,Yw,Qv];have h1:=QkL cs cols g n;have h2:=Qrx cs cols n (g n);have h3:([n].flatMap λr=>QnG cs cols r (g r)).length=(QnG cs cols n (g n)).length:=by simp
  rw[h3,Nat.add_mul];omega
def Qt7(cs:List (Int×Int))(cols:List Int):Qa->List Qa
 |.tuple [.int i,.int r]=>(QnG cs cols i.toNat r).map pairD
 |_=>[]
theorem Qm3(cs:List (Int×Int))(rows cols:List Int):(QfJ (rows.map Qi)).flatMap (Qt7 cs cols)=(Qx9 cs rows cols).map pairD:=by
 unfold QfJ Qx9;rw[Qf];have key:∀l:List Nat,(∀j∈l,j<rows.length)->(l.map λ(i:Nat)=>ZW [Qi i,(rows.map Qi).getD i .none]).flatMap (Qt7 cs cols)=(l.flatMap λr=>QnG cs cols r (rows.getD r 0)).map pairD:=λl=>by
  induction l with
  |nil=>intro _;rfl
  |cons j l ih=>
   intro hl;have hj:=hl j (.head _);have e:(rows.map Qi).getD j .none=Qi (rows.getD j 0):=by
    rw[Jx,QB,Jx,Qo hj];rfl
   rw[Jc,Zl,ih λk hk=>hl k (.tail _ hk),e,Zl,Jr];rfl
 exact key _ λj hj=>Jp.mp hj
def Qm4:DF:=λargs R _=>∃(h w:Int)(cs:List (Int×Int))(rows cols:List Int),args=[.v (bdD h w cs),.v (.list (rows.map Qi)),.v (.list (cols.map Qi))]/\rows.length<=60/\cols.length<=60/\R (bdD (rows.length:Int) (cols.length:Int) (Qx9 cs rows cols))
def QzZ:DF:=λargs R _=>∃(n:Nat),args=[.v (Qmu n),.v (.tuple [Qby [(n:Int) - 1],Qby [(n:Int) - 1]])]/\2<=n/\n<=6/\R (Qmu (n - 1))
theorem QxB:∀n:Fin 7,(Qjh 0 n.val).filterMap (λd=>if QY d (.int ((n.val:Int) - 1))=true then none else some d)=(rngI (n.val - 1)).map Qi
 |⟨0,_⟩=>rfl
 |⟨1,_⟩=>rfl
 |⟨2,_⟩=>rfl
 |⟨3,_⟩=>rfl
 |⟨4,_⟩=>rfl
 |⟨5,_⟩=>rfl
 |⟨6,_⟩=>rfl
theorem Qu7:∀n:Fin 7,Qx9 (stpC n.val) (rngI (n.val - 1)) (rngI (n.val - 1))=stpC (n.val - 1):=by decide +kernel
theorem Qkh(n:Nat):(rngI n).length=n:=by unfold rngI;rw[Qf,QV]
section
variable{P:QC}{w:Q9}{K:PySem.W.Frag}{mg:Str->Option Value}{base:Heap}
theorem QuW:(["number", "numbers"]:List Str).Nodup:=by decide +kernel
theorem QwJ:JV ["many", "numbers"] ["many", "numbers"] (QD sOth):=⟨rfl,rfl,rfl,by decide +kernel,rfl,by decide +kernel,by decide +kernel⟩
theorem QxV{f   : Addr}{fd  : Q2}(F:Fun K "others" "others" sOth f fd)(T:GlbA mg) :
  FnOk P w K mg base CX0 1 f fd ["many", "numbers"] (Zw false QuD):=by
 refine okQ false F QwJ (λargs R EX h=>?_) (λcdv A outer s H E hr=>?_)
 ·obtain⟨n,rfl,_⟩:=h;rfl
 ·have hU:=Room.u60 hr;have hI:=Room.i60 hr;refine⟨_,Jt (QaA (Qbk ["number", "numbers"] [none,some 1] (Qcc (by rfl) T.range (qp 0)) (λcl ex s3 H3 C=>⟨(ZA 0 QuW rfl (Ju rfl) (Jl rfl)),(QgY (Qat Qh9 (Qrj hI) (qp 0) (qp 1) (by rfl))),(qv 0)⟩))),λargs R EX h=>?_⟩;obtain⟨n,rfl,n1,n6,hR⟩:=h;refine⟨⟨by omega,by omega⟩,QvG (λd=>if QY d (.int ((n:Int) - 1))=true then none else some d) (λd hd k1 k2 h1 h2=>?_) ?_⟩
  ·obtain⟨i,hi⟩:=Ji.mp hd;obtain⟨hi,rfl⟩:=Qc1 hi;refine⟨⟨rfl,rfl,Qs 50⟩,?_⟩;show if(!((QY (.int ((n:Int) - 1)) (.int (0+(i:Int))))||false))=true then _ else k1
   have h1:(if decide ((0+(i:Int))=(n:Int) - 1)=true then(none:Option Qa) else some (.int (0+(i:Int))))=none->k1:=h1;have h2:∀e,(if decide ((0+(i:Int))=(n:Int) - 1)=true then(none:Option Qa) else some (.int (0+(i:Int))))=some e->k2 e:=h2
   rw[Qzc];show if(!(decide ((n:Int) - 1=0+(i:Int))))=true then _ else k1
   by_cases z:(n:Int) - 1=0+(i:Int)
   ·rw[decide_eq_true z];rw[if_pos (decide_eq_true z.symm)] at h1;exact h1 rfl
   ·rw[decide_eq_false z];rw[if_neg (λe=>z (of_decide_eq_true e).symm)] at h2;exact h2 _ rfl
  ·have:=QxB ⟨n,by omega⟩;rw[QX]
   dsimp only at this
   rw[this];exact hR
theorem Qpm:JV ["board", "thing"] ["board", "thing"] (QD Qf1):=⟨rfl,rfl,rfl,by decide +kernel,rfl,by decide +kernel,by decide +kernel⟩
theorem Qrg{f f1  : Addr}{fd fd1:Q2}(F:Fun K "is_lines" "is_lines" Qf1 f fd)(T:GlbA mg)
  (m1:mg "is_numbers_rising" = some (.ref f1))(G1:FnOk P w K mg base CX0 3 f1 fd1 ["many", "thing"] (Zw false Qrl))(b1:Binds K fd1 ["many", "thing"] [])(k1:PySem.W.keepIn K (.ref f1)=true) :
  FnOk P w K mg base CX0 4 f fd ["board", "thing"] (Zw false QjC):=by
 refine okQ false F Qpm (λargs R EX h=>?_) (λcdv A outer s H E hr=>?_)
 ·obtain⟨n,rfl,_⟩:=h;rfl
 ·have hU:=Room.u60 hr;have hI:=Room.i60 hr;refine⟨_,Q4 (Qbc (Qpy (QgX (Qaz (Qa2 (JB (Qe8 .tuple (by rfl) T.isinstance (qp 1) (by rfl) T.tuple QaW)))) (Qef (Qat QcU (QfI hU) (JB (Z9 Y8 QcX (by rfl) T.len QbZ (QdW (qp 1) J8))) (JD Zh) (YH _))))) (Jt (YG QmV)) Z8)
   (Jt (YG (QfH (JD (Zi G1 (hr.mono (by decide)) (by rfl) m1 k1 b1 ZO (Z4 (Qcy ZS YZ (qp 0) (JD Zh) (λ_ _=>rfl)) (Z4 (Qcy ZS YZ (qp 1) (JD Zh) (λ_ _=>rfl)) JU)))) (QfG (Zi G1 (hr.mono (by decide)) (by rfl) m1 k1 b1 ZO (Z4 (Qcy ZS YZ (qp 0) (JD Zh) (λ_ _=>rfl)) (Z4 (Qcy ZS YZ (qp 1) (JD Zh) (λ_ _=>rfl)) JU))))))),λargs R EX h=>?_⟩
  obtain⟨n,rfl,n1,hR⟩:=h;refine⟨_,ZP (j:=0) rfl,_,ZP (j:=0) rfl,_,_,rfl,?_⟩;show if Qgg n (.tuple [.int ((n:Int) - 1)])=true then _ else _
  rw[QkB n1];refine⟨_,ZP (j:=1) rfl,_,ZP (j:=1) rfl,_,_,rfl,?_⟩;show R (.bool (Qgg n (.tuple [.int ((n:Int) - 1)])));rw[QkB n1];exact hR
theorem QcB:(["new_row", "row", "new_column", "column", "cells", "columns"]:List Str).Nodup:=by decide +kernel
theorem Qe3:JV ["board", "rows", "columns", "cells", "kept"] ["board", "rows", "columns"] (QD QdR):=⟨rfl,rfl,rfl,by decide +kernel,rfl,by decide +kernel,by decide +kernel⟩
theorem Qnq{f   : Addr}{fd  : Q2}(F:Fun K "picked" "picked" QdR f fd)(T:GlbA mg) :
  FnOk P w K mg base CX0 1 f fd ["board", "rows", "columns"] (Zw false Qm4):=by
 refine okQ false F Qe3 (λargs R EX h=>?_) (λcdv A outer s H E hr=>?_)
 ·obtain⟨h,w,cs,rows,cols,rfl,_⟩:=h;rfl
 ·have hU:=Room.u60 hr;have hI:=Room.i60 hr;refine⟨_,Q4 (Qa3 3 (Qcy ZS YZ (qp 0) (JD Zh) (λ_ _=>rfl)) Qe3.nd)
   (Q4 (Qkp ["new_row", "row", "new_column", "column", "cells", "columns"] [none,none,none,none,some 3,some 2] 4 Qe3.nd (Qvl [0,1]) (Qg0 (by rfl) T.enumerate (qp 1)) (λcl ex s3 H3 C=>⟨(QbW rfl (ZB 0 (ZB 1 QbX QcB rfl (Ju rfl) (Jl rfl)) QcB rfl (Ju rfl) (Jl rfl))),ZN,(Qg0 (by rfl) T.enumerate (qv 5)),(QbW rfl (ZB 2 (ZB 3 QbX QcB rfl (Ju rfl) (Jl rfl)) QcB rfl (Ju rfl) (Jl rfl))),(QgY (Qat QsB (Qrj hI) (JB (QdX (Qev (qv 1) (Qev (qv 3) J8)))) (qp 4) (by rfl))),(Z5 (QdX (Qev (qv 0) (Qev (qv 2) J8))))⟩))
   (Jt (QaA (QdX (Qev (Z5 (Z9 Y8 QcX (by rfl) T.len QbZ (QdW (qp 1) J8))) (Qev (Z5 (Z9 Y8 QcX (by rfl) T.len QbZ (QdW (qp 2) J8))) (Qev (Z5 (Qdl QaH QeR (by rfl) T.tuple QaW (QdW (qp 4) J8))) J8))))))),λargs R EX h=>?_⟩
  obtain⟨h,w,cs,rows,cols,rfl,hr,hc,hR⟩:=h;refine⟨_,ZP (j:=2) rfl,?_⟩;have lN:=QkL cs cols (λr=>rows.getD r 0) rows.length;have l36:rows.length*cols.length<=60*60:=Nat.mul_le_mul hr hc;refine Qho (Qt7 cs cols) 3600 (by rw[Qm3,Qf];exact Q1 lN l36) (λd hd acc N hb hN=>?_) ?_
  ·obtain⟨i,hi⟩:=Ji.mp hd;obtain⟨e,he,rfl⟩:=QeP hi;rw[QB] at he;obtain⟨r,er,rfl⟩:∃r,rows[i]? = some r/\e=.int r:=by
    cases z:rows[i]? with
    |none=>rw[z] at he;cases he
    |some r=>rw[z] at he;cases he;exact⟨r,rfl,rfl⟩
   have hN:N (acc++(QnG cs cols ((i:Int)).toNat r).map pairD):=hN;rw[QX,<- Qx8] at hN;have la:acc.length<=3600:=by omega
   refine⟨rfl,Qyo (Qya cs r i) (by rw[QeO,Qf];unfold QjD;omega) (λd hd k1 k2 h1 h2=>?_) hN⟩;obtain⟨j,hj⟩:=Ji.mp hd;obtain⟨e2,he2,rfl⟩:=QeP hj;rw[QB] at he2;obtain⟨c,ec,rfl⟩:∃c,cols[j]? = some c/\e2=.int c:=by
    cases z:cols[j]? with
    |none=>rw[z] at he2;cases he2
    |some r=>rw[z] at he2;cases he2;exact⟨r,rfl,rfl⟩
   refine⟨rfl,⟨Qdp cs,rfl,Q1 (Qc7 (r,c)) (by decide)⟩,?_⟩;show if((cs.map pairD).any λe=>QY e (pairD (r,c)))=true then k2 (pairD ((i:Int),(j:Int))) else k1
   rw[Qfq];have h1:(if(r,c)∈cs then some (pairD ((i:Int),(j:Int))) else none)=none->k1:=h1;have h2:∀e,(if(r,c)∈cs then some (pairD ((i:Int),(j:Int))) else none)=some e->k2 e:=h2
   by_cases z:(r,c)∈cs
   ·rw[if_pos (decide_eq_true z)];exact h2 _ (if_pos z)
   ·rw[if_neg (by simpa using z)];exact h1 (if_neg z)
  ·rw[Qm3];have hR:R (.tuple [.int ((rows.map Qi).length:Int),.int ((cols.map Qi).length:Int),.tuple ((Qx9 cs rows cols).map pairD)]):=by
    rw[Qf,Qf];exact hR
   exact hR
theorem QtG:JV ["board", "lines", "rows", "columns"] ["board", "lines"] (QD Qcw):=⟨rfl,rfl,rfl,by decide +kernel,rfl,by decide +kernel,by decide +kernel⟩
theorem QAE{f f1 f2 f3  : Addr}{fd fd1 fd2 fd3:Q2}(F:Fun K "without_lines" "without_lines" Qcw f fd)(T:GlbA mg)
  (m1:mg "is_lines" = some (.ref f1))(G1:FnOk P w K mg base CX0 4 f1 fd1 ["board", "thing"] (Zw false QjC))(b1:Binds K fd1 ["board", "thing"] [])(k1:PySem.W.keepIn K (.ref f1)=true)
  (m2:mg "others" = some (.ref f2))(G2:FnOk P w K mg base CX0 1 f2 fd2 ["many", "numbers"] (Zw false QuD))(b2:Binds K fd2 ["many", "numbers"] [])(k2:PySem.W.keepIn K (.ref f2)=true)
  (m3:mg "picked" = some (.ref f3))(G3:FnOk P w K mg base CX0 1 f3 fd3 ["board", "rows", "columns"] (Zw false Qm4))(b3:Binds K fd3 ["board", "rows", "columns"] [])(k3:PySem.W.keepIn K (.ref f3)=true) :
  FnOk P w K mg base CX0 5 f fd ["board", "lines"] (Zw false QzZ):=by
 refine okQ false F QtG (λargs R EX h=>?_) (λcdv A outer s H E hr=>?_)
 ·obtain⟨n,rfl,_⟩:=h;rfl
 ·have hU:=Room.u60 hr;have hI:=Room.i60 hr;refine⟨_,Q4 (Qbc (Qaz (Qa2 (JD (Zi G1 (hr.mono (by decide)) (by rfl) m1 k1 b1 ZO (Z4 (qv 0) (Z4 (qv 1) JU)))))) QaM Z8)
   (Q4 (Qa3 2 (Zi G2 (hr.mono (by decide)) (by rfl) m2 k2 b2 ZO (Z4 (Qcy ZS YZ (qp 0) (JD Zh) (λ_ _=>rfl)) (Z4 (Qcy ZS YZ (qp 1) (JD Zh) (λ_ _=>rfl)) JU))) QtG.nd)
   (Q4 (Qa3 3 (Zi G2 (hr.mono (by decide)) (by rfl) m2 k2 b2 ZO (Z4 (Qcy ZS YZ (qp 0) (JD Zh) (λ_ _=>rfl)) (Z4 (Qcy ZS YZ (qp 1) (JD Zh) (λ_ _=>rfl)) JU))) QtG.nd)
   (Q4 (Qbc (Qpy (QgX (Qaz (Qko (qp 2))) (Qef (Qaz (Qko (qp 3)))))) QaM Z8)
   (Jt (YG (Zi G3 (hr.mono (by decide)) (by rfl) m3 k3 b3 ZO (Z4 (qv 0) (Z4 (qv 2) (Z4 (qv 3) JU))))))))),λargs R EX h=>?_⟩
  obtain⟨n,rfl,n1,n6,hR⟩:=h;refine⟨_,rfl,by omega,?_⟩;refine ifF rfl ?_
  refine⟨_,ZP (j:=0) rfl,_,ZP (j:=0) rfl,_,rfl,by omega,n6,?_⟩;refine⟨_,ZP (j:=1) rfl,_,ZP (j:=1) rfl,_,rfl,by omega,n6,?_⟩;have l1:=Qkh (n - 1);have e2:=Qu7 ⟨n,by omega⟩
  dsimp only at e2
  obtain⟨x,r,e⟩:∃x r,rngI (n - 1)=x::r:=by
   cases z:rngI (n - 1) with
   |nil=>rw[z] at l1;have:0=n - 1:=l1;omega
   |cons x r=>exact⟨x,r,rfl⟩
  rw[e] at l1 e2 ⊢;refine⟨trivial,?_⟩;refine ifF rfl ?_
  refine⟨trivial,?_⟩;refine ifF rfl ?_
  refine⟨_,_,_,_,_,rfl,by omega,by omega,?_⟩;rw[e2,l1];exact hR
end
def Qxz:Qa->List (List Int)
 |.tuple ls=>ls.map Qgd
 |_=>[]
theorem Qkz(L:List (List Int)):Qxz (pPar L)=L:=by
 show(L.map Qby).map Qgd=L;rw[Q8]
 conv=>rhs;rw[<- Qcr L]
 exact JS λl _=>Qdr l
def ltC(a b:Int×Int):Bool:=decide (a.1<b.1)||(decide (a.1=b.1)&&decide (a.2<b.2))
def QBv(x:Int×Int):List (Int×Int)->List (Int×Int)
 |[]=>[x]
 |y::r=>if ltC y x=true then y::QBv x r else x::y::r
def srtC:List (Int×Int)->List (Int×Int)
 |[]=>[]
 |x::r=>QBv x (srtC r)
def ndB:List (List (List Int))->Bool
 |[]=>true
 |x::r => !(r.contains x)&&ndB r
theorem QsJ:∀{L:List (List (List Int))},ndB L=true->L.Nodup
 |[],_=>Qwi
 |x::r,h=>by
  have h:=Qp.mp (show(!(r.contains x)&&ndB r)=true from h);refine Y1.mpr ⟨λz=>?_,QsJ h.2⟩;have:=h.1;rw[List.contains_iff_mem.mpr z] at this;cases this
def okP(n m:Nat)(L:List (List Int)):Bool:=L.all (λl=>Qff n (Qby l))&&(L.flatten.isPerm (rngI n)&&(Qji (L.map λl=>l.headD 0)&&(decide (L.length=m)&&(L.all (λl=>decide (l.length<=6))&&((srtC (cellP L)).isPerm (cellP L)&&(QwD ((srtC (cellP L)).map pairD)&&(decide ((srtC (cellP L)).length=n - m)&&(Ql5 n n (stpC n) (stT (srtC (cellP L)))&&decide (ptN (srtC (cellP L)) n=L)))))))))
theorem QvI:∀n m:Fin 7,(m.val == 0||decide (n.val<m.val)||(parted m.val (rngI n.val)).all (okP n.val m.val))=true:=by decide +kernel
theorem QvH:∀n m:Fin 7,(m.val == 0||decide (n.val<m.val)||(decide (((parted m.val (rngI n.val)).length:Int)=Wc (stpC n.val) n.val n.val 0 (n.val - m.val))&&(ndB (parted m.val (rngI n.val))&&(((parted m.val (rngI n.val)).map λL=>srtC (cellP L)).isPerm (evS (stpC n.val) (n.val - m.val))&&QwD ((evS (stpC n.val) (n.val - m.val)).map stT)))))=true:=by decide +kernel
theorem QrZ:∀n:Fin 7,(n.val == 0||decide (Wc (stpC n.val) n.val n.val 0 n.val=0))=true:=by decide +kernel
theorem QrY:∀n k:Fin 7,(n.val == 0||k.val == 0||decide (n.val<=k.val)||decide (Wc (stpC n.val) n.val n.val 0 k.val=Wc (stpC (n.val - 1)) (n.val - 1) (n.val - 1) 0 k.val+((n.val:Int) - (k.val:Int))*Wc (stpC (n.val - 1)) (n.val - 1) (n.val - 1) 0 (k.val - 1)))=true:=by decide +kernel
theorem Qz0:∀n k:Fin 7,0<=Wc (stpC n.val) n.val n.val 0 k.val/\Wc (stpC n.val) n.val n.val 0 k.val<=300:=by decide +kernel
theorem Qvp:∀n:Fin 7,QY (.list ((rngI n.val).map Qi)) (.list ((Qq (n.val:Int).toNat).map λ(i:Nat)=>Qi i))=true:=by decide +kernel
theorem Qyp(l:List Int):hdI (Qby l)=l.headD 0:=by cases l<;>rfl
theorem QtM(n:Nat):(rngI n).Pairwise (·<=·):=by
 unfold rngI;exact Qaa.mpr ((QcQ (n:=n)).imp λ{a b} h=>by omega)
structure OkP (n m:Nat) (L:List (List Int)):Prop where
 part:Qfe n (pPar L)=true
 len:L.length=m
 lots:∀l∈L,l.length<=6
 pm:(srtC (cellP L)).Perm (cellP L)
 srt:((srtC (cellP L)).map pairD).Pairwise λa b=>ltD b a=false
 sl:(srtC (cellP L)).length=n - m
 st:Ql5 n n (stpC n) (stT (srtC (cellP L)))=true
 pt:ptN (srtC (cellP L)) n=L
theorem Qx0{n m:Nat}{L:List (List Int)}(n6:n<=6)(h:okP n m L=true):OkP n m L:=by
 unfold okP at h;simp only[JH] at h;obtain⟨h1,h2,h3,h4,h5,h6,h7,h8,h9,h10⟩:=h;refine⟨?_,of_decide_eq_true h4,λl hl=>of_decide_eq_true (JN.mp h5 l hl),Qdc.mp h6,Qje h7,of_decide_eq_true h8,h9,of_decide_eq_true h10⟩;have f:(L.map Qby).flatMap Qgd=L.flatten:=by
  rw[Qtg];have:(λl=>Qgd (Qby l))=(id:List Int->List Int):=funext λl=>Qdr l
  rw[this,List.flatMap_id]
 have hd:(L.map Qby).map hdI=L.map λl=>l.headD 0:=by
  rw[Q8];exact JS λl _=>Qyp l
 show((L.map Qby).all (Qff n)&&(QY (.list ((srt ((L.map Qby).flatMap Qgd)).map Qi)) (.list ((Qq (n:Int).toNat).map λ(i:Nat)=>Qi i))&&Qji ((L.map Qby).map hdI)))=true;rw[f,hd,h3,Qj3,QzP];rw[<- Qsp (Qdc.mp h2).symm (QtM n),Qvp ⟨n,by omega⟩,Qj3];exact h1
theorem QAG{n m:Nat}(m1:1<=m)(mn:m<=n)(n6:n<=6){L:List (List Int)}(h:L∈parted m (rngI n)):OkP n m L:=by
 have:=QvI ⟨n,by omega⟩ ⟨m,by omega⟩;simp only[QaF,beq_iff_eq,decide_eq_true_eq] at this;rcases this with(z | z) | z
 ·omega
 ·omega
 ·exact Qx0 n6 (JN.mp z L h)
theorem Qwr{n m:Nat}(m1:1<=m)(mn:m<=n)(n6:n<=6):((parted m (rngI n)).length:Int)=Wc (stpC n) n n 0 (n - m)/\(parted m (rngI n)).Nodup/\((parted m (rngI n)).map λL=>srtC (cellP L)).Perm (evS (stpC n) (n - m))/\((evS (stpC n) (n - m)).map stT).Pairwise λa b=>ltD b a=false:=by
 have:=QvH ⟨n,by omega⟩ ⟨m,by omega⟩;simp only[QaF,beq_iff_eq,decide_eq_true_eq,JH] at this;rcases this with(z | z) | ⟨a,b,c,d⟩
 ·omega
 ·omega
 ·exact⟨a,QsJ b,Qdc.mp c,Qje d⟩
theorem Qu9{n:Nat}(n1:1<=n)(n6:n<=6):Wc (stpC n) n n 0 n=0:=by
 have:=QrZ ⟨n,by omega⟩;simp only[QaF,beq_iff_eq,decide_eq_true_eq] at this;rcases this with z | z
 ·omega
 ·exact z
theorem Qu4{n k:Nat}(k1:1<=k)(kn:k<n)(n6:n<=6):Wc (stpC n) n n 0 k=Wc (stpC (n - 1)) (n - 1) (n - 1) 0 k+((n:Int) - (k:Int))*Wc (stpC (n - 1)) (n - 1) (n - 1) 0 (k - 1):=by
 have:=QrY ⟨n,by omega⟩ ⟨k,by omega⟩;simp only[QaF,beq_iff_eq,decide_eq_true_eq] at this;rcases this with((z | z) | z) | z
 ·omega
 ·omega
 ·omega
 ·exact z
theorem Qia{S:List (Int×Int)}:∀d∈S.map pairD,okK d=true:=λd hd=>by obtain⟨p,_,rfl⟩:=Ql.mp hd;rfl
theorem Qjs{L:List (List Int)}(h:L.length<=6)(hl:∀l∈L,l.length<=6):Qpd (pPar L):=λls e=>by
 cases e;refine⟨by rw[Qf];omega,Qc2.mpr λd hd=>?_,λds hd=>?_⟩
 ·obtain⟨l,_,rfl⟩:=Ql.mp hd;exact QeJ l
 ·obtain⟨l,hl',e⟩:=Ql.mp hd;cases e;rw[Qf];have:=hl l hl';omega
theorem Qif(Ls:List (List (List Int))):nd (.list (Ls.map pPar))=true:=Qc2.mpr λd hd=>by
 obtain⟨L,_,rfl⟩:=Ql.mp hd;exact Qga L
theorem QrR(Ls:List (List (List Int))):(YT (Ls.map pPar)).depth<=50:=by
 show QF (Ls.map pPar)+1<=50;have:=Yl (n:=2) (ds:=Ls.map pPar) λd hd=>by obtain⟨p,_,rfl⟩:=Ql.mp hd;exact Qfj p
 omega
theorem Qng(m:Nat)(ts:List Int)(h:1<=m):((parted m ts).map pPar).Pairwise λa b=>ltD b a=false:=by
 cases m with
 |zero=>omega
 |succ m=>
  cases ts with
  |nil=>exact QhN
  |cons t r=>exact Qjd _
mutual
theorem Qn5:∀(d:Qa),okK d=true->QY d d=true
 |.int i,_=>by show(i == i)=true;simp
 |.tuple ds,h=>Qhh ds h
theorem Qhh:∀(ds:List Qa),Qb8 ds=true->Qd9 ds ds=true
 |[],_=>rfl
 |d::ds,h=>by
  have h:=Qp.mp (show(okK d&&Qb8 ds)=true from h);show(QY d d&&Qd9 ds ds)=true;rw[Qn5 d h.1,Qhh ds h.2];rfl
end
theorem QeI:∀{ds:List Qa},(∀d∈ds,okK d=true)->Qb8 ds=true
 |[],_=>rfl
 |d::ds,h=>by
  show(okK d&&Qb8 ds)=true;rw[h d (.head _),QeI λx hx=>h x (.tail _ hx)];rfl
theorem QrN(Ls:List (List (List Int))):QY (.list (Ls.map pPar)) (.list (Ls.map pPar))=true:=Qhh _ (QeI λd hd=>by obtain⟨L,_,rfl⟩:=Ql.mp hd;exact Qg5 L)
theorem Qpc(L:List (List (Int×Int))):QaI (L.map stT):=⟨λx hx y hy=>by
  obtain⟨a,_,rfl⟩:=Ql.mp hx;obtain⟨b,_,rfl⟩:=Ql.mp hy;exact cs a b,λx hx=>by
  obtain⟨a,_,rfl⟩:=Ql.mp hx;exact Q1 (Qc6 a) (by decide)⟩
where
 cs:∀a b:List (Int×Int),QaV (a.map pairD) (b.map pairD)=true
  |[],[]=>rfl
  |[],_::_=>rfl
  |_::_,[]=>rfl
  |x::a,y::b=>by show(true&&QaV (a.map pairD) (b.map pairD))=true;rw[cs a b];rfl
theorem Qno(S:List (Int×Int)):okK (stT S)=true:=QeI λd hd=>Qia d hd
theorem QsE{L:List (List (Int×Int))}:∀d∈L.map stT,okK d=true:=λd hd=>by obtain⟨a,_,rfl⟩:=Ql.mp hd;exact Qno a
theorem QsH(L:List (List (Int×Int))):nd (.list (L.map stT))=true:=Qc2.mpr λd hd=>by
 obtain⟨a,_,rfl⟩:=Ql.mp hd;exact Qdp a
theorem Qvv(L:List (List (Int×Int))):(YT (L.map stT)).depth<=50:=by
 show QF (L.map stT)+1<=50;have:=Yl (n:=2) (ds:=L.map stT) λd hd=>by obtain⟨p,_,rfl⟩:=Ql.mp hd;exact Qc6 p
 omega
theorem QuQ(n:Nat):okK (Qmu n)=true:=by
 show(true&&(true&&(okK (stT (stpC n))&&true)))=true;rw[Qno];rfl
theorem QkE(n:Nat):nd (Qmu n)=true:=by
 show(true&&(true&&(nd (stT (stpC n))&&true)))=true;rw[show nd (stT (stpC n))=true from Qdp _];rfl
theorem Qvw(n:Nat):(Qmu n).depth<=50:=by
 show QF [.int n,.int n,stT (stpC n)]+1<=50;have:=Yl (n:=2) (ds:=[.int n,.int n,stT (stpC n)]) λd hd=>by
  rcases Qu.mp hd with z | z
  ·subst z;exact Qs _
  ·rcases Qu.mp z with z | z
   ·subst z;exact Qs _
   ·rw[Q6.mp z];exact Qc6 _
 omega
section
variable{P:QC}{w:Q9}{K:PySem.W.Frag}{mg:Str->Option Value}{base:Heap}
theorem QuY:(["_law_parting", "_law_n"]:List Str).Nodup:=by decide +kernel
theorem QuX:(["_law_size", "_law_less", "_law_many", "_law_n"]:List Str).Nodup:=by decide +kernel
theorem QcT:JV ["_law_script", "_law_n", "_law_board", "_law_many", "_law_size", "_law_some", "_law_stands", "_law_parting", "_law_stand", "_law_less"] ["_law_script"] (QD sLaw):=⟨rfl,rfl,rfl,by decide +kernel,rfl,by decide +kernel,by decide +kernel⟩
theorem QxX{f f1 f2 f3 f4 f5 f6 f7 f8 f9 f10  : Addr}{fd fd1 fd2 fd3 fd4 fd5 fd6 fd7 fd8 fd9 fd10:Q2}(F:Fun K "law" "law" sLaw f fd)(T:GlbA mg)
  (m1:mg "_law_cell_at" = some (.ref f1))(G1:FnOk P w K mg base CX0 1 f1 fd1 ["_law_script", "_law_k"] (Qdj K))(b1:Binds K fd1 ["_law_script", "_law_k"] [])(k1:PySem.W.keepIn K (.ref f1)=true)
  (m2:mg "steps" = some (.ref f2))(G2:FnOk P w K mg base CX0 4 f2 fd2 ["n"] (Zw false Qe1))(b2:Binds K fd2 ["n"] [])(k2:PySem.W.keepIn K (.ref f2)=true)
  (m3:mg "counts" = some (.ref f3))(G3:FnOk P w K mg base CX0 3 f3 fd3 ["board"] (Zw true Qhl))(b3:Binds K fd3 ["board"] [])(k3:PySem.W.keepIn K (.ref f3)=true)
  (m4:mg "partings" = some (.ref f4))(G4:FnOk P w K mg base CX0 7 f4 fd4 ["n", "many"] (Zw true Qjr))(b4:Binds K fd4 ["n", "many"] [])(k4:PySem.W.keepIn K (.ref f4)=true)
  (m5:mg "stand_of" = some (.ref f5))(G5:FnOk P w K mg base CX0 6 f5 fd5 ["n", "parting"] (Zw false QtB))(b5:Binds K fd5 ["n", "parting"] [])(k5:PySem.W.keepIn K (.ref f5)=true)
  (m6:mg "is_parting" = some (.ref f6))(G6:FnOk P w K mg base CX0 5 f6 fd6 ["n", "thing"] (Zw false Qky))(b6:Binds K fd6 ["n", "thing"] [])(k6:PySem.W.keepIn K (.ref f6)=true)
  (m7:mg "is_stand" = some (.ref f7))(G7:FnOk P w K mg base CX0 5 f7 fd7 ["board", "thing"] (Zw false Qke))(b7:Binds K fd7 ["board", "thing"] [])(k7:PySem.W.keepIn K (.ref f7)=true)
  (m8:mg "parting_of" = some (.ref f8))(G8:FnOk P w K mg base CX0 6 f8 fd8 ["n", "stand"] (Zw false QpE))(b8:Binds K fd8 ["n", "stand"] [])(k8:PySem.W.keepIn K (.ref f8)=true)
  (m9:mg "stands_of" = some (.ref f9))(G9:FnOk P w K mg base CX0 4 f9 fd9 ["board", "size"] (Zw true QeF))(b9:Binds K fd9 ["board", "size"] [])(k9:PySem.W.keepIn K (.ref f9)=true)
  (m10:mg "without_lines" = some (.ref f10))(G10:FnOk P w K mg base CX0 5 f10 fd10 ["board", "lines"] (Zw false QzZ))(b10:Binds K fd10 ["board", "lines"] [])(k10:PySem.W.keepIn K (.ref f10)=true) :
  FnOk P w K mg base CX0 8 f fd ["_law_script"] (QfT K):=by
 refine QB6 F QcT (λcdv A outer s H E hr=>?_);have hU:=Room.u60 hr;have hI:=Room.i60 hr;refine⟨_,Q4 (Qa3 1 (Z5 (Qav Qce Qei (JD Zh) (JB (Qav QxH Qrk (JB (Qw2 0 G1 (hr.mono (by decide)) (by rfl) m1 k1 b1 (JD Zh))) (JD Zh))))) QcT.nd)
   (Q4 (Qa3 2 (Zi G2 (hr.mono (by decide)) (by rfl) m2 k2 b2 ZO (Z4 (qv 1) JU)) QcT.nd)
   (Q4 (Qa3 3 (Z5 (QbO G3 (hr.mono (by decide)) (by rfl) m3 k3 b3 ZO (Z4 (qv 2) JU))) QcT.nd)
   (Q4 (Qe4 YD rfl (Qcc (by rfl) T.range (qp 1)) (ZA 4 QcT.nd rfl (by first | exact Ju rfl | exact Jl rfl))
    (Q4 (Qa3 5 (Z5 (QbO G4 (hr.mono (by decide)) (by rfl) m4 k4 b4 ZO (Z4 (qv 1) (Z4 (Z5 (Qav QbY Qbl (qp 1) (qp 4))) JU)))) QcT.nd)
   (Q4 (Qjl ["_law_parting", "_law_n"] [none,some 1] 6 QcT.nd (QdV (qp 5)) (λcl ex s3 H3 C=>⟨(ZA 0 QuY rfl (Ju rfl) (Jl rfl)),ZN,(Zi G5 (hr.mono (by decide)) (by rfl) m5 k5 b5 ZO (Z4 (qv 1) (Z4 (qv 0) JU)))⟩))
   (Q4 (Qbc (Qpy (QgX (Qat QcU (QfI hU) (JB (Z9 Y8 QcX (by rfl) T.len QbZ (QdW (qp 5) J8))) (JD (Qcy ZS YZ (qp 3) (qp 4) (λ_ _=>rfl))) (YH _)) (Qef (Qat QcU (QfI hU) (qp 5) (JB (Qly hU (by rfl) T.sorted (by rfl) T.set (qp 5))) (YH _))))) (Jt (YG QmV)) Z8)
   (Q4 (Qe4 YD rfl (QmS (by rfl) T.zip (qv 5) (qv 6)) (QbW rfl (ZB 7 (ZB 8 QbX QcT.nd rfl (by first | exact Ju rfl | exact Jl rfl)) QcT.nd rfl (by first | exact Ju rfl | exact Jl rfl)))
    (Q4 (Qbc (Qpy (QgX (Qaz (Qa2 (JD (Zi G6 (hr.mono (by decide)) (by rfl) m6 k6 b6 ZO (Z4 (qv 1) (Z4 (qv 7) JU)))))) (QgX (Qat QcU (QfI hU) (JB (Z9 Y8 QcX (by rfl) T.len QbZ (QdW (qp 7) J8))) (JB (Qav QbY Qbl (qp 1) (qp 4))) (YH _)) (Qef (Qat QcU (QfI hU) (JB (Z9 Y8 QcX (by rfl) T.len QbZ (QdW (qp 8) J8))) (qp 4) (YH _)))))) (Jt (YG QmV)) Z8)
   (Jt (Qbc (Qpy (QgX (Qaz (Qa2 (JD (Zi G7 (hr.mono (by decide)) (by rfl) m7 k7 b7 ZO (Z4 (qv 2) (Z4 (qv 8) JU)))))) (Qef (Qat QcU (QfI hU) (JD (Zi G8 (hr.mono (by decide)) (by rfl) m8 k8 b8 ZO (Z4 (qv 1) (Z4 (qv 8) JU)))) (qp 7) (YH _))))) (Jt (YG QmV)) Z8))))
   (Jt (Qbc (Qat QcU (QfI hU) (JB (Z9 (Qd4 hU) Qhp (by rfl) T.sorted Qcl (QdW (qp 6) J8))) (JB (QbO G9 (hr.mono (by decide)) (by rfl) m9 k9 b9 ZO (Z4 (qv 2) (Z4 (qv 4) JU)))) (YH _)) (Jt (YG QmV)) Z8)))))))
   (Q4 (Qbc (Qpy (QgX (Qat QcU (QfI hU) (JD (Qcy ZS YZ (qp 3) (qp 1) (λ_ _=>rfl))) (JD Zh) (YH _)) (Qef (Qat Qeh (Qid hU) (qp 1) (JD Zh) (YH _))))) (Jt (QaA (Qh3 Qeh (Qid hU) (JD (Qcy ZS YZ (qp 3) (qp 1) (λ_ _=>rfl))) (JD Zh) (YH _)))) Z8)
   (Q4 (Qbc (Qat QcU (QfI hU) (JD (Zi G10 (hr.mono (by decide)) (by rfl) m10 k10 b10 ZO (Z4 (qv 2) (Z4 (Z5 (QdX (Qev (Z5 (QdX (Qev (Z5 (Qav QbY Qbl (qp 1) (JD Zh))) J8))) (Qev (Z5 (QdX (Qev (Z5 (Qav QbY Qbl (qp 1) (JD Zh))) J8))) J8)))) JU)))) (JD (Zi G2 (hr.mono (by decide)) (by rfl) m2 k2 b2 ZO (Z4 (Z5 (Qav QbY Qbl (qp 1) (JD Zh))) JU))) (YH _)) (Jt (YG QmV)) Z8)
   (Q4 (Qa3 9 (Z5 (QbO G3 (hr.mono (by decide)) (by rfl) m3 k3 b3 ZO (Z4 (Zi G2 (hr.mono (by decide)) (by rfl) m2 k2 b2 ZO (Z4 (Z5 (Qav QbY Qbl (qp 1) (JD Zh))) JU)) JU))) QcT.nd)
   (Jt (QaA (Z9 QcE (Qgo rfl) (by rfl) T.all Qgp (QdW (JB (Qbk ["_law_size", "_law_less", "_law_many", "_law_n"] [none,some 9,some 3,some 1] (QtV (by rfl) T.range (JD Zh) (qp 1)) (λcl ex s3 H3 C=>⟨(ZA 0 QuX rfl (Ju rfl) (Jl rfl)),ZN,(Z5 (Qh3 Qeh (Qid hU) (JD (Qcy ZS YZ (qp 2) (qp 0) (λ_ _=>rfl))) (JB (Qav Qce Qei (JD (Qcy ZS YZ (qp 1) (qp 0) (λ_ _=>rfl))) (JB (Qav Qnm QsF (JB (Qav QbY Qbl (qp 3) (qp 0))) (JD (Qcy ZS YZ (qp 1) (JB (Qav QbY Qbl (qp 0) (JD Zh))) (λ_ _=>rfl))))))) (YH _)))⟩))) J8)))))))))),?_⟩
 refine⟨by decide,λc=>⟨by show(0:Int)<6;decide,?_⟩⟩;obtain⟨n,hn⟩:∃n:Nat,1+c % 6=(n:Int):=⟨(1+c % 6).toNat,by omega⟩
 have n1:1<=n:=by omega
 have n6:n<=6:=by omega
 have g:=QnZ n6;have h6:=g.bds.1;refine QyX (k:=(n:Int)) hn ?_
 refine⟨n,rfl,n1,n6,?_⟩;refine⟨n,n,stpC n,rfl,n6,n6,g.bds.col,?_⟩;have cw:∀(m k:Nat)(i:Int),k<=m->i=(k:Int)->atI (QrW (stpC m) m m) i=some (.int (Wc (stpC m) m m 0 k)):=λm k i hk e=>by
  rw[e];exact ZP (by unfold QrW;rw[QB,JT (by omega)];rfl)
 refine⟨⟨by omega,by omega⟩,QjI (λi δ=>∃x4 x5 x6 x7 x8 x9,δ=[.scr,.v (.int n),.v (Qmu n),.v (.list (QrW (stpC n) n n)),x4,x5,x6,x7,x8,x9]) ⟨_,_,_,_,_,_,rfl⟩ ?_ ?_⟩
 ·rintro i δ hi ⟨x4,x5,x6,x7,x8,x9,rfl⟩;rw[QX] at hi;have e:(n:Int) - (0+(i:Int))=((n - i:Nat):Int):=by omega
  have ei:n - (n - i)=i:=by omega
  obtain⟨t1,t2,t3,t4⟩:=Qwr (n:=n) (m:=n - i) (by omega) (by omega) n6;rw[ei] at t1 t3 t4;have okL:=λL (hL:L∈parted (n - i) (rngI n))=>QAG (n:=n) (m:=n - i) (by omega) (by omega) n6 hL
  have srtd:=Qng (n - i) (rngI n) (by omega);have few:=QlB (m:=n - i) (ts:=rngI n) (by omega) (by rw[Qkh];exact n6);refine⟨n,n - i,by rw[<- e],n1,n6,by omega,by omega,?_⟩;generalize parted (n - i) (rngI n)=Ls at t1 t2 t3 okL srtd few ⊢;have sm:∀L∈Ls,Qpd (pPar L):=λL hL=>Qjs (by have:=(okL L hL).len;omega) (okL L hL).lots
  refine QaR (λd=>stT (srtC (cellP (Qxz d)))) (λd hd k2 hk=>?_) ?_
  ·obtain⟨L,hL,rfl⟩:=Ql.mp hd;have hk:k2 (stT (srtC (cellP (Qxz (pPar L))))):=hk;rw[Qkz] at hk;have o:=okL L hL;refine⟨_,L,rfl,sm L hL,by omega,by omega,o.part,by have:=o.len;omega,λl hl=>by have:=o.lots l hl;omega,λes pm pw=>?_⟩;rw[Qdi (pm.trans (o.pm.map pairD).symm) Qia pw o.srt];exact hk
  have eS:(Ls.map pPar).map (λd=>stT (srtC (cellP (Qxz d))))=Ls.map λL=>stT (srtC (cellP L)):=by
   rw[Q8];exact JS λL _=>by show stT (srtC (cellP (Qxz (pPar L))))=_;rw[Qkz]
  rw[eS];refine⟨_,cw n i _ (by omega) (by omega),?_⟩;refine ifF ?_ ?_
  ·show(!decide (((Ls.map pPar).length:Int)=Wc (stpC n) n n 0 i))=false;rw[Qf,decide_eq_true t1];rfl
  refine Qpq Ls (by omega) λms nd mem pw=>?_
  have em:ms.map ttN=Ls.map pPar:=Qdi (((QhM nd t2).mpr mem).map ttN) (λd hd=>by obtain⟨L,_,rfl⟩:=Ql.mp hd;exact Qg5 L) pw srtd;rw[em];refine⟨⟨Qif _,Qif _,.inl (QrR _)⟩,?_⟩;refine ifF ?_ ?_
  ·show(!QY (.list (Ls.map pPar)) (.list (Ls.map pPar)))=false;rw[QrN];rfl
  refine Qdu (λ_ δ=>∃x7 x8,δ=[.scr,.v (.int n),.v (Qmu n),.v (.list (QrW (stpC n) n n)),.v (.int (0+(i:Int))),.v (.list (Ls.map pPar)),.v (.list (Ls.map λL=>stT (srtC (cellP L)))),x7,x8,x9]) ⟨_,_,rfl⟩ ?_ ?_
  ·rintro j d δ hd ⟨x7,x8,rfl⟩;obtain⟨a,b,ha,hb,rfl⟩:=Dl.zip_get hd;rw[QB] at ha hb;obtain⟨L,hL,rfl,rfl⟩:∃L,L∈Ls/\a=pPar L/\b=stT (srtC (cellP L)):=by
    cases z:Ls[j]? with
    |none=>rw[z] at ha;cases ha
    |some L=>rw[z] at ha hb;cases ha;cases hb;exact⟨L,Q7 z,rfl,rfl⟩
   have o:=okL L hL;refine⟨rfl,_,_,rfl,sm L hL,by omega,by omega,?_⟩;show if(!Qfe n (pPar L))=true then _ else _
   rw[o.part];refine ifF rfl ?_
   refine ifF ?_ ?_
   ·show(!decide (((L.map Qby).length:Int)=(n:Int) - (0+(i:Int))))=false;rw[Qf,decide_eq_true (by have:=o.len;omega)];rfl
   refine ifF ?_ ?_
   ·show(!decide ((((srtC (cellP L)).map pairD).length:Int)=0+(i:Int)))=false;rw[Qf,decide_eq_true (by have:=o.sl;omega)];rfl
   refine⟨_,_,_,_,rfl,(λds e=>by cases e;rw[Qf];have:=o.sl;omega),?_⟩;show if(!Ql5 n n (stpC n) (stT (srtC (cellP L))))=true then _ else _
   rw[o.st];refine ifF rfl ?_
   refine⟨_,_,rfl,by have:=o.sl;omega,n1,n6,o.st,?_⟩;rw[o.pt];refine⟨⟨Qga L,Qga L,.inl (Q1 (Qfj L) (by decide))⟩,ifF ?_ ⟨_,_,rfl⟩⟩;show(!QY (pPar L) (pPar L))=false;rw[Qn5 _ (Qg5 L)];rfl
  ·rintro δ ⟨x7,x8,rfl⟩;have e3:((Ls.map λL=>srtC (cellP L)).map stT)=Ls.map λL=>stT (srtC (cellP L)):=by rw[Q8];rfl
   have so:=Qpc (Ls.map λL=>srtC (cellP L));rw[e3] at so;refine(QgP so λes pm pw=>?_).1;have wc:Wc (stpC n) n n 0 i<=300:=of_decide_eq_true (Qsn ⟨n,by omega⟩ ⟨i,by omega⟩);refine⟨n,n,stpC n,i,by rw[show(0:Int)+(i:Int)=(i:Int) by omega];rfl,g,by omega,wc,?_⟩;rw[<- e3] at pm;rw[Qdi (pm.trans (t3.map stT)) QsE pw t4];refine⟨⟨QsH _,QsH _,.inl (Qvv _)⟩,ifF ?_ ⟨_,_,_,_,_,_,rfl⟩⟩;show(!QY (.list ((evS (stpC n) i).map stT)) (.list ((evS (stpC n) i).map stT)))=false;rw[show QY (.list ((evS (stpC n) i).map stT)) (.list ((evS (stpC n) i).map stT))=true from Qhh _ (QeI QsE)];rfl
 ·rintro δ ⟨x4,x5,x6,x7,x8,x9,rfl⟩;have lst:=Qu9 n1 n6;refine⟨_,cw n n _ (Qh n) rfl,?_⟩;refine ifF ?_ ?_
  ·show(!decide (Wc (stpC n) n n 0 n=0))=false;rw[decide_eq_true lst];rfl
  show if decide ((n:Int)=1)=true then _ else _
  by_cases z:(n:Int)=1
  ·rw[if_pos (decide_eq_true z)];refine⟨_,cw n n _ (Qh n) rfl,?_⟩;show Qbe (decide (Wc (stpC n) n n 0 n=0))=.bool true;rw[decide_eq_true lst]
  ·rw[if_neg (by simpa using z)];have e1:(n:Int) - 1=((n - 1:Nat):Int):=by omega
   refine⟨n,rfl,by omega,n6,?_⟩;refine⟨n - 1,by rw[<- e1],by omega,by omega,?_⟩;refine⟨⟨QkE _,QkE _,.inl (Qvw _)⟩,ifF ?_ ?_⟩
   ·show(!QY (Qmu (n - 1)) (Qmu (n - 1)))=false;rw[Qn5 _ (QuQ _)];rfl
   refine⟨n - 1,by rw[<- e1],by omega,by omega,?_⟩;have g1:=QnZ (n:=n - 1) (by omega);refine⟨n - 1,n - 1,stpC (n - 1),rfl,by omega,by omega,g1.bds.col,?_⟩;refine⟨⟨by omega,by omega⟩,QaR (λ_=>.bool true) (λd hd k2 hk=>?_) (Qc9 (g:=λ_=>true) rfl ?_)⟩
   ·obtain⟨k,hk'⟩:=Ji.mp hd;obtain⟨hlt,rfl⟩:=Qc1 hk';have hlt:k+1<n:=by omega
    have le:=Qu4 (n:=n) (k:=k+1) (by omega) hlt n6;have w1:=Qz0 ⟨n - 1,by omega⟩ ⟨k,by omega⟩
    dsimp only at w1
    refine⟨_,cw n (k+1) _ (by omega) (by omega),_,cw (n - 1) (k+1) _ (by omega) (by omega),_,cw (n - 1) k _ (by omega) (by omega),?_⟩;refine⟨.inl (.inl ⟨by omega,by omega⟩),?_⟩;have hk:k2 (.bool true):=hk;show k2 (.bool (decide (Wc (stpC n) n n 0 (k+1)=Wc (stpC (n - 1)) (n - 1) (n - 1) 0 (k+1)+((n:Int) - (1+(k:Int)))*Wc (stpC (n - 1)) (n - 1) (n - 1) 0 k)));rw[decide_eq_true]
    ·exact hk
    ·rw[le,show((k+1:Nat):Int)=1+(k:Int) by omega,QaK]
   ·show Qbe (List.all _ λ_=>true)=.bool true;rw[JN.mpr λ_ _=>rfl]
end
theorem QwE{fr:Bool}{fD gD:DF}{vs:List V}{H:Hp}{Q:VK}{Ex:XK}(h:∀args R EX,fD args R EX->gD args R EX)(q:Zw fr fD vs H Q Ex):Zw fr gD vs H Q Ex:=by
 obtain⟨A,pt,args,R,EX,dm,hp,qa,hh,k,kx⟩:=q;exact⟨A,pt,args,R,EX,dm,hp,qa,h _ _ _ hh,k,kx⟩
theorem Qon(ns:List Int):QoO (ns.map Qi):=λx hx=>by
 obtain⟨p,_,rfl⟩:=Ql.mp hx;refine⟨rfl,Qs _,λy hy=>?_⟩;obtain⟨q,_,rfl⟩:=Ql.mp hy;rfl
theorem ltD_int(i j:Int):ltD (.int i) (.int j)=decide (i<j):=by
 show isL (Qfv i j)=_;unfold Qfv;by_cases z:i<j
 ·rw[if_pos z,decide_eq_true z];rfl
 ·rw[if_neg z,decide_eq_false z];split<;>rfl
theorem Qss:∀ns:List Int,Qb7 (ns.map Qi)=Qji ns
 |[]=>rfl
 |[_]=>rfl
 |x::y::r=>by
  show(ltD (.int x) (.int y)&&Qb7 ((y::r).map Qi))=(decide (x<y)&&Qji (y::r));rw[ltD_int,Qss (y::r)]
theorem QmI(args:List Sl)(R:Qa->Prop)(EX:XP)(h:QgV args R EX):QgU args R EX:=by
 obtain⟨ns,h,hR⟩:=h;exact⟨ns.map Qi,h,Qon ns,by rw[Qss];exact hR⟩
end Rk
def PySem.W.Fast.tw18423452777368792347:Nat:=0
def PySem.W.Fast.tw1652618290809904972:Nat:=0
def PySem.W.Fast.tw7792685682301351396:Nat:=0
def PySem.W.Fast.tw7836642497837281073:Nat:=0
def PySem.W.Fast.tw9461123998187873729:Nat:=0
def PySem.W.Fast.tw14581967589911189491:Nat:=0
def PySem.W.Fast.tw8534271450741418277:Nat:=0
def PySem.W.Fast.tw18400170252653094658:Nat:=0
def PySem.W.Fast.tw12198153757620252162:Nat:=0
def PySem.W.Fast.tw10588695551199845416:Nat:=0
def PySem.W.Fast.tw4496270880885852487:Nat:=0
def PySem.W.Fast.tw9318657238144137555:Nat:=0
def PySem.W.Fast.tw2737183843223877554:Nat:=0
def PySem.W.Fast.tw9159914105861318119:Nat:=0
def PySem.W.Fast.tw18148381814469773293:Nat:=0
def PySem.W.Fast.tw10371328590569220384:Nat:=0
def PySem.W.Fast.tw15501446153401985492:Nat:=0
def PySem.W.Fast.tw11254179248409315903:Nat:=0
def PySem.W.Fast.tw10633279438401070985:Nat:=0
def PySem.W.Fast.tw1758170035305099418:Nat:=0
def PySem.W.Fast.tw9923052101185545458:Nat:=0
def PySem.W.Fast.tw15451059089487928456:Nat:=0
def PySem.W.Fast.tw12837784628182519644:Nat:=0
def PySem.W.Fast.tw3573615641454328890:Nat:=0
def PySem.W.Fast.tw4168690369755949070:Nat:=0
def PySem.W.Fast.tw8893994951303489379:Nat:=0
def PySem.W.Fast.tw3200906570494134360:Nat:=0
def PySem.W.Fast.tw1220913237606567303:Nat:=0
def PySem.W.Fast.tw18353089716510207372:Nat:=0
def PySem.W.Fast.tw9153568846851409101:Nat:=0
def PySem.W.Fast.tw8707533092065009603:Nat:=0
def PySem.W.Fast.tw12501240517402542998:Nat:=0
def PySem.W.Fast.tw15178477574521590472:Nat:=0
def PySem.W.Fast.tw13349818216626144795:Nat:=0
def PySem.W.Fast.tw13711444138918622690:Nat:=0
def PySem.W.Fast.tw4980107155279776550:Nat:=0
def PySem.W.Fast.tw11993967508402938398:Nat:=0
def PySem.W.Fast.tw8558082103690248571:Nat:=0
def PySem.W.Fast.tw3088389251827191006:Nat:=0
def PySem.W.Fast.tw14948948404619575537:Nat:=0
def PySem.W.Fast.tw15362324038268975034:Nat:=0
def PySem.W.Fast.tw13642085743838196747:Nat:=0
def PySem.W.Fast.tw11046302662165773742:Nat:=0
def PySem.W.Fast.tw12186738517357231851:Nat:=0
def PySem.W.Fast.tw17033800374160889697:Nat:=0
def PySem.W.Fast.tw13892487366962252854:Nat:=0
def PySem.W.Fast.tw11527343024269484134:Nat:=0
def PySem.W.Fast.tw15775322613604845545:Nat:=0
def PySem.W.Fast.tw1048620795090668744:Nat:=0
def PySem.W.Fast.tw6597676573041483652:Nat:=0
def PySem.W.Fast.tw15796804049447878211:Nat:=0
def PySem.W.Fast.tw5657088511414930945:Nat:=0
def PySem.W.Fast.tw6263900761131369235:Nat:=0
def PySem.W.Fast.tw3620123196260811213:Nat:=0
def PySem.W.Fast.tw9015066854739049336:Nat:=0
def PySem.W.Fast.tw8590250169245968131:Nat:=0
def PySem.W.Fast.tw1475866500887856569:Nat:=0
def PySem.W.Fast.tw9524920369980956372:Nat:=0
def PySem.W.Fast.tw17276889098570075950:Nat:=0
def PySem.W.Fast.tw11047482283074764711:Nat:=0
def PySem.W.Fast.tw10772732248293699789:Nat:=0
def PySem.W.Fast.tw11223754497033768428:Nat:=0
def PySem.W.Fast.tw10454570546419199664:Nat:=0
def PySem.W.Fast.tw9740766263849774887:Nat:=0
def PySem.W.Fast.tw417499241521292192:Nat:=0
def PySem.W.Fast.tw6413898547717659420:Nat:=0
def PySem.W.Fast.tw17102950822322852136:Nat:=0
def PySem.W.Fast.tw10522272217021394882:Nat:=0
def PySem.W.Fast.tw17741632104553833580:Nat:=0
def PySem.W.Fast.tw15696281727935504979:Nat:=0
def PySem.W.Fast.tw172256772558075:Nat:=0
def PySem.W.Fast.tw15315135910857880510:Nat:=0
def PySem.W.Fast.tw17947478700535603183:Nat:=0
def PySem.W.Fast.tw8752885151322556359:Nat:=0
def PySem.W.Fast.tw17869016706713341264:Nat:=0
def PySem.W.Fast.tw12561871663482857182:Nat:=0
def PySem.W.Fast.tw17706782520332036318:Nat:=0
def PySem.W.Fast.tw17524633962404263393:Nat:=0
def PySem.W.Fast.tw10254673320530332619:Nat:=0
def PySem.W.Fast.tw3906581008963806143:Nat:=0
def PySem.W.Fast.tw437508343288295744:Nat:=0
def PySem.W.Fast.tw8391234909523149074:Nat:=0
def PySem.W.Fast.tw10017643189350927172:Nat:=0
def PySem.W.Fast.tw8740839222311559417:Nat:=0
def PySem.W.Fast.tw15562041289029612617:Nat:=0
def PySem.W.Fast.tw15049299129087380552:Nat:=0
def PySem.W.Fast.tw3756501763562211448:Nat:=0
def PySem.W.Fast.tw8499737904368514404:Nat:=0
def PySem.W.Fast.tw16820853259505504476:Nat:=0
def PySem.W.Fast.tw3143053076750851059:Nat:=0
def PySem.W.Fast.tw11467235790855581751:Nat:=0
namespace Rk
open L2
theorem QyW{l:PySem.W.OpenLaw}{w:Q9}{K:PySem.W.Frag}{h:Heap}{mg:Str->Option Value}{fa f1 f2 f3 f4 f5 f6 f7 f8 f9 f10 f11 f12 f13 f14 f15 f16 f17 f18 f19 f20 f21 f22 f23 f24 f25 f26 f27 f28 f29 f30:Addr}(X:K.In h)(G:h.Ns mainGlobals mg)(hfa:mg "law" = some (.ref fa))
  {od1 an1 od2 an2 od3 an3 od4 an4 od5 an5 od6 an6 od7 an7 od8 an8 od9 an9 od10 an10 od11 an11 od12 an12 od13 an13 od14 an14 od15 an15 od16 an16 od17 an17 od18 an18 od19 an19 od20 an20 od21 an21 od22 an22 od23 an23 od24 an24 od25 an25 od26 an26 od27 an27 od28 an28 od29 an29 od30 an30:Option Addr} {sl1 sl2 sl3 sl4 sl5 sl6 sl7 sl8 sl9 sl10 sl11 sl12 sl13 sl14 sl15 sl16 sl17 sl18 sl19 sl20 sl21 sl22 sl23 sl24 sl25 sl26 sl27 sl28 sl29 sl30:Array (Option Value)} {oc1 kV1 dc1 pm1 cd1 ct1 oc2 kV2 dc2 pm2 cd2 ct2 oc3 kV3 dc3 pm3 cd3 ct3 oc4 kV4 dc4 pm4 cd4 ct4 oc5 kV5 dc5 pm5 cd5 ct5 oc6 kV6 dc6 pm6 cd6 ct6 oc7 kV7 dc7 pm7 cd7 ct7 oc8 kV8 dc8 pm8 cd8 ct8 oc9 kV9 dc9 pm9 cd9 ct9 oc10 kV10 dc10 pm10 cd10 ct10 oc11 kV11 dc11 pm11 cd11 ct11 oc12 kV12 dc12 pm12 cd12 ct12 oc13 kV13 dc13 pm13 cd13 ct13 oc14 kV14 dc14 pm14 cd14 ct14 oc15 kV15 dc15 pm15 cd15 ct15 oc16 kV16 dc16 pm16 cd16 ct16 oc17 kV17 dc17 pm17 cd17 ct17 oc18 kV18 dc18 pm18 cd18 ct18 oc19 kV19 dc19 pm19 cd19 ct19 oc20 kV20 dc20 pm20 cd20 ct20 oc21 kV21 dc21 pm21 cd21 ct21 oc22 kV22 dc22 pm22 cd22 ct22 oc23 kV23 dc23 pm23 cd23 ct23 oc24 kV24 dc24 pm24 cd24 ct24 oc25 kV25 dc25 pm25 cd25 ct25 oc26 kV26 dc26 pm26 cd26 ct26 oc27 kV27 dc27 pm27 cd27 ct27 oc28 kV28 dc28 pm28 cd28 ct28 oc29 kV29 dc29 pm29 cd29 ct29 oc30 kV30 dc30 pm30 cd30 ct30:Value}
  (a1:PySem.W.nsIn K mainGlobals "is_whole" = some (some (.ref f1))) (l1:K.lookup f1=some ⟨oc1,od1,.func (PySem.W.fnOf "is_whole" "is_whole" (J1 QfV) (JO QfV) (QD QfV) .none kV1 dc1 pm1 an1 cd1 ct1),sl1⟩) (c1:PySem.W.codeIn K cd1 "is_whole" = true) (k1:PySem.W.keepIn K (.ref f1)=true)
  (a2:PySem.W.nsIn K mainGlobals "is_whole_within" = some (some (.ref f2)))(l2:K.lookup f2=some ⟨oc2,od2,.func (PySem.W.fnOf "is_whole_within" "is_whole_within" (J1 QdP) (JO QdP) (QD QdP) .none kV2 dc2 pm2 an2 cd2 ct2),sl2⟩)(c2:PySem.W.codeIn K cd2 "is_whole_within" = true)(k2:PySem.W.keepIn K (.ref f2)=true)
  (a3:PySem.W.nsIn K mainGlobals "is_rising" = some (some (.ref f3)))(l3:K.lookup f3=some ⟨oc3,od3,.func (PySem.W.fnOf "is_rising" "is_rising" (J1 QdQ) (JO QdQ) (QD QdQ) .none kV3 dc3 pm3 an3 cd3 ct3),sl3⟩)(c3:PySem.W.codeIn K cd3 "is_rising" = true)(k3:PySem.W.keepIn K (.ref f3)=true)
  (a4:PySem.W.nsIn K mainGlobals "is_cells" = some (some (.ref f4)))(l4:K.lookup f4=some ⟨oc4,od4,.func (PySem.W.fnOf "is_cells" "is_cells" (J1 Qf3) (JO Qf3) (QD Qf3) .none kV4 dc4 pm4 an4 cd4 ct4),sl4⟩)(c4:PySem.W.codeIn K cd4 "is_cells" = true)(k4:PySem.W.keepIn K (.ref f4)=true)
  (a5:PySem.W.nsIn K mainGlobals "is_place" = some (some (.ref f5)))(l5:K.lookup f5=some ⟨oc5,od5,.func (PySem.W.fnOf "is_place" "is_place" (J1 QfZ) (JO QfZ) (QD QfZ) .none kV5 dc5 pm5 an5 cd5 ct5),sl5⟩)(c5:PySem.W.codeIn K cd5 "is_place" = true)(k5:PySem.W.keepIn K (.ref f5)=true)
  (a6:PySem.W.nsIn K mainGlobals "picked" = some (some (.ref f6)))(l6:K.lookup f6=some ⟨oc6,od6,.func (PySem.W.fnOf "picked" "picked" (J1 QdR) (JO QdR) (QD QdR) .none kV6 dc6 pm6 an6 cd6 ct6),sl6⟩)(c6:PySem.W.codeIn K cd6 "picked" = true)(k6:PySem.W.keepIn K (.ref f6)=true)
  (a7:PySem.W.nsIn K mainGlobals "is_lines" = some (some (.ref f7)))(l7:K.lookup f7=some ⟨oc7,od7,.func (PySem.W.fnOf "is_lines" "is_lines" (J1 Qf1) (JO Qf1) (QD Qf1) .none kV7 dc7 pm7 an7 cd7 ct7),sl7⟩)(c7:PySem.W.codeIn K cd7 "is_lines" = true)(k7:PySem.W.keepIn K (.ref f7)=true)
  (a8:PySem.W.nsIn K mainGlobals "is_numbers_rising" = some (some (.ref f8)))(l8:K.lookup f8=some ⟨oc8,od8,.func (PySem.W.fnOf "is_numbers_rising" "is_numbers_rising" (J1 Qlv) (JO Qlv) (QD Qlv) .none kV8 dc8 pm8 an8 cd8 ct8),sl8⟩)(c8:PySem.W.codeIn K cd8 "is_numbers_rising" = true)(k8:PySem.W.keepIn K (.ref f8)=true)
  (a9:PySem.W.nsIn K mainGlobals "without_lines" = some (some (.ref f9)))(l9:K.lookup f9=some ⟨oc9,od9,.func (PySem.W.fnOf "without_lines" "without_lines" (J1 Qcw) (JO Qcw) (QD Qcw) .none kV9 dc9 pm9 an9 cd9 ct9),sl9⟩)(c9:PySem.W.codeIn K cd9 "without_lines" = true)(k9:PySem.W.keepIn K (.ref f9)=true)
  (a10:PySem.W.nsIn K mainGlobals "others" = some (some (.ref f10)))(l10:K.lookup f10=some ⟨oc10,od10,.func (PySem.W.fnOf "others" "others" (J1 sOth) (JO sOth) (QD sOth) .none kV10 dc10 pm10 an10 cd10 ct10),sl10⟩)(c10:PySem.W.codeIn K cd10 "others" = true)(k10:PySem.W.keepIn K (.ref f10)=true)
  (a11:PySem.W.nsIn K mainGlobals "is_stand" = some (some (.ref f11)))(l11:K.lookup f11=some ⟨oc11,od11,.func (PySem.W.fnOf "is_stand" "is_stand" (J1 QfX) (JO QfX) (QD QfX) .none kV11 dc11 pm11 an11 cd11 ct11),sl11⟩)(c11:PySem.W.codeIn K cd11 "is_stand" = true)(k11:PySem.W.keepIn K (.ref f11)=true)
  (a12:PySem.W.nsIn K mainGlobals "are_apart" = some (some (.ref f12)))(l12:K.lookup f12=some ⟨oc12,od12,.func (PySem.W.fnOf "are_apart" "are_apart" (J1 Qf4) (JO Qf4) (QD Qf4) .none kV12 dc12 pm12 an12 cd12 ct12),sl12⟩)(c12:PySem.W.codeIn K cd12 "are_apart" = true)(k12:PySem.W.keepIn K (.ref f12)=true)
  (a13:PySem.W.nsIn K mainGlobals "counts" = some (some (.ref f13)))(l13:K.lookup f13=some ⟨oc13,od13,.func (PySem.W.fnOf "counts" "counts" (J1 QdS) (JO QdS) (QD QdS) .none kV13 dc13 pm13 an13 cd13 ct13),sl13⟩)(c13:PySem.W.codeIn K cd13 "counts" = true)(k13:PySem.W.keepIn K (.ref f13)=true)
  (a14:PySem.W.nsIn K mainGlobals "most_size" = some (some (.ref f14)))(l14:K.lookup f14=some ⟨oc14,od14,.func (PySem.W.fnOf "most_size" "most_size" (J1 Qlw) (JO Qlw) (QD Qlw) .none kV14 dc14 pm14 an14 cd14 ct14),sl14⟩)(c14:PySem.W.codeIn K cd14 "most_size" = true)(k14:PySem.W.keepIn K (.ref f14)=true)
  (a15:PySem.W.nsIn K mainGlobals "stands_of" = some (some (.ref f15)))(l15:K.lookup f15=some ⟨oc15,od15,.func (PySem.W.fnOf "stands_of" "stands_of" (J1 QbC) (JO QbC) (QD QbC) .none kV15 dc15 pm15 an15 cd15 ct15),sl15⟩)(c15:PySem.W.codeIn K cd15 "stands_of" = true)(k15:PySem.W.keepIn K (.ref f15)=true)
  (a16:PySem.W.nsIn K mainGlobals "every_stand" = some (some (.ref f16)))(l16:K.lookup f16=some ⟨oc16,od16,.func (PySem.W.fnOf "every_stand" "every_stand" (J1 Qf2) (JO Qf2) (QD Qf2) .none kV16 dc16 pm16 an16 cd16 ct16),sl16⟩)(c16:PySem.W.codeIn K cd16 "every_stand" = true)(k16:PySem.W.keepIn K (.ref f16)=true)
  (a17:PySem.W.nsIn K mainGlobals "refuse_no_size" = some (some (.ref f17)))(l17:K.lookup f17=some ⟨oc17,od17,.func (PySem.W.fnOf "refuse_no_size" "refuse_no_size" (J1 QfY) (JO QfY) (QD QfY) .none kV17 dc17 pm17 an17 cd17 ct17),sl17⟩)(c17:PySem.W.codeIn K cd17 "refuse_no_size" = true)(k17:PySem.W.keepIn K (.ref f17)=true)
  (a18:PySem.W.nsIn K mainGlobals "followers" = some (some (.ref f18)))(l18:K.lookup f18=some ⟨oc18,od18,.func (PySem.W.fnOf "followers" "followers" (J1 sFol) (JO sFol) (QD sFol) .none kV18 dc18 pm18 an18 cd18 ct18),sl18⟩)(c18:PySem.W.codeIn K cd18 "followers" = true)(k18:PySem.W.keepIn K (.ref f18)=true)
  (a19:PySem.W.nsIn K mainGlobals "row_behind" = some (some (.ref f19)))(l19:K.lookup f19=some ⟨oc19,od19,.func (PySem.W.fnOf "row_behind" "row_behind" (J1 Qls) (JO Qls) (QD Qls) .none kV19 dc19 pm19 an19 cd19 ct19),sl19⟩)(c19:PySem.W.codeIn K cd19 "row_behind" = true)(k19:PySem.W.keepIn K (.ref f19)=true)
  (a20:PySem.W.nsIn K mainGlobals "ways_to_go_on" = some (some (.ref f20)))(l20:K.lookup f20=some ⟨oc20,od20,.func (PySem.W.fnOf "ways_to_go_on" "ways_to_go_on" (J1 Qlr) (JO Qlr) (QD Qlr) .none kV20 dc20 pm20 an20 cd20 ct20),sl20⟩)(c20:PySem.W.codeIn K cd20 "ways_to_go_on" = true)(k20:PySem.W.keepIn K (.ref f20)=true)
  (a21:PySem.W.nsIn K mainGlobals "ways_with_row" = some (some (.ref f21)))(l21:K.lookup f21=some ⟨oc21,od21,.func (PySem.W.fnOf "ways_with_row" "ways_with_row" (J1 sRow) (JO sRow) (QD sRow) .none kV21 dc21 pm21 an21 cd21 ct21),sl21⟩)(c21:PySem.W.codeIn K cd21 "ways_with_row" = true)(k21:PySem.W.keepIn K (.ref f21)=true)
  (a22:PySem.W.nsIn K mainGlobals "is_parting" = some (some (.ref f22)))(l22:K.lookup f22=some ⟨oc22,od22,.func (PySem.W.fnOf "is_parting" "is_parting" (J1 Qlu) (JO Qlu) (QD Qlu) .none kV22 dc22 pm22 an22 cd22 ct22),sl22⟩)(c22:PySem.W.codeIn K cd22 "is_parting" = true)(k22:PySem.W.keepIn K (.ref f22)=true)
  (a23:PySem.W.nsIn K mainGlobals "is_lot" = some (some (.ref f23)))(l23:K.lookup f23=some ⟨oc23,od23,.func (PySem.W.fnOf "is_lot" "is_lot" (J1 sLot) (JO sLot) (QD sLot) .none kV23 dc23 pm23 an23 cd23 ct23),sl23⟩)(c23:PySem.W.codeIn K cd23 "is_lot" = true)(k23:PySem.W.keepIn K (.ref f23)=true)
  (a24:PySem.W.nsIn K mainGlobals "refuse_no_number" = some (some (.ref f24)))(l24:K.lookup f24=some ⟨oc24,od24,.func (PySem.W.fnOf "refuse_no_number" "refuse_no_number" (J1 Qlt) (JO Qlt) (QD Qlt) .none kV24 dc24 pm24 an24 cd24 ct24),sl24⟩)(c24:PySem.W.codeIn K cd24 "refuse_no_number" = true)(k24:PySem.W.keepIn K (.ref f24)=true)
  (a25:PySem.W.nsIn K mainGlobals "steps" = some (some (.ref f25)))(l25:K.lookup f25=some ⟨oc25,od25,.func (PySem.W.fnOf "steps" "steps" (J1 QfW) (JO QfW) (QD QfW) .none kV25 dc25 pm25 an25 cd25 ct25),sl25⟩)(c25:PySem.W.codeIn K cd25 "steps" = true)(k25:PySem.W.keepIn K (.ref f25)=true)
  (a26:PySem.W.nsIn K mainGlobals "parting_of" = some (some (.ref f26)))(l26:K.lookup f26=some ⟨oc26,od26,.func (PySem.W.fnOf "parting_of" "parting_of" (J1 sPOf) (JO sPOf) (QD sPOf) .none kV26 dc26 pm26 an26 cd26 ct26),sl26⟩)(c26:PySem.W.codeIn K cd26 "parting_of" = true)(k26:PySem.W.keepIn K (.ref f26)=true)
  (a27:PySem.W.nsIn K mainGlobals "stand_of" = some (some (.ref f27)))(l27:K.lookup f27=some ⟨oc27,od27,.func (PySem.W.fnOf "stand_of" "stand_of" (J1 sSOf) (JO sSOf) (QD sSOf) .none kV27 dc27 pm27 an27 cd27 ct27),sl27⟩)(c27:PySem.W.codeIn K cd27 "stand_of" = true)(k27:PySem.W.keepIn K (.ref f27)=true)
  (a28:PySem.W.nsIn K mainGlobals "partings" = some (some (.ref f28)))(l28:K.lookup f28=some ⟨oc28,od28,.func (PySem.W.fnOf "partings" "partings" (J1 Qf0) (JO Qf0) (QD Qf0) .none kV28 dc28 pm28 an28 cd28 ct28),sl28⟩)(c28:PySem.W.codeIn K cd28 "partings" = true)(k28:PySem.W.keepIn K (.ref f28)=true)
  (a29:PySem.W.nsIn K mainGlobals "_law_cell_at" = some (some (.ref f29)))(l29:K.lookup f29=some ⟨oc29,od29,.func (PySem.W.fnOf "_law_cell_at" "_law_cell_at" (J1 Qd0) (JO Qd0) (QD Qd0) .none kV29 dc29 pm29 an29 cd29 ct29),sl29⟩)(c29:PySem.W.codeIn K cd29 "_law_cell_at" = true)(k29:PySem.W.keepIn K (.ref f29)=true)
  (a30:PySem.W.nsIn K mainGlobals "law" = some (some (.ref f30)))(l30:K.lookup f30=some ⟨oc30,od30,.func (PySem.W.fnOf "law" "law" (J1 sLaw) (JO sLaw) (QD sLaw) .none kV30 dc30 pm30 an30 cd30 ct30),sl30⟩)(c30:PySem.W.codeIn K cd30 "law" = true)(k30:PySem.W.keepIn K (.ref f30)=true)
  (z1:PySem.W.nsIn K mainGlobals "isinstance" = some none)
  (z2:PySem.W.nsIn K mainGlobals "int" = some none)
  (z3:PySem.W.nsIn K mainGlobals "bool" = some none)
  (z4:PySem.W.nsIn K mainGlobals "str" = some none)
  (z5:PySem.W.nsIn K mainGlobals "tuple" = some none)
  (z6:PySem.W.nsIn K mainGlobals "list" = some none)
  (z7:PySem.W.nsIn K mainGlobals "all" = some none)
  (z8:PySem.W.nsIn K mainGlobals "len" = some none)
  (z9:PySem.W.nsIn K mainGlobals "zip" = some none)
  (z10:PySem.W.nsIn K mainGlobals "enumerate" = some none)
  (z11:PySem.W.nsIn K mainGlobals "range" = some none)
  (z12:PySem.W.nsIn K mainGlobals "max" = some none)
  (z13:PySem.W.nsIn K mainGlobals "min" = some none)
  (z14:PySem.W.nsIn K mainGlobals "sorted" = some none)
  (z15:PySem.W.nsIn K mainGlobals "sum" = some none)
  (z16:PySem.W.nsIn K mainGlobals "set" = some none)
  (z17:PySem.W.nsIn K mainGlobals "any" = some none)
  (z18:PySem.W.nsIn K mainGlobals "reversed" = some none)
  (z19:PySem.W.nsIn K mainGlobals "divmod" = some none)
  {tA:_} (aA:PySem.W.nsIn K mainGlobals "MOST_LINES" = some (some (.int 6 tA)))
  {tB:_} (aB:PySem.W.nsIn K mainGlobals "MOST_TOLD" = some (some (.int 300 tB)))
  :
  ∃fd:Q2,(∀(s:Shared)(v:Value),Qo4 s fd ⟨[v],[]⟩ [("_law_script",v)])/\∀base:Heap,K.In base->base.Ns mainGlobals mg->FnOk l.prog w K mg base CX0 8 fa fd ["_law_script"] (Dl.QfT K):=by
 have e:=hfa.symm.trans (PySem.W.mg_of X G a30);cases e;have T:=(⟨(PySem.W.mg_none_of X G z1),(PySem.W.mg_none_of X G z2),(PySem.W.mg_none_of X G z3),(PySem.W.mg_none_of X G z4),(PySem.W.mg_none_of X G z5),(PySem.W.mg_none_of X G z6),(PySem.W.mg_none_of X G z7),(PySem.W.mg_none_of X G z8),(PySem.W.mg_none_of X G z9),(PySem.W.mg_none_of X G z10),(PySem.W.mg_none_of X G z11),(PySem.W.mg_none_of X G z12),(PySem.W.mg_none_of X G z13),(PySem.W.mg_none_of X G z14),(PySem.W.mg_none_of X G z15),(PySem.W.mg_none_of X G z16),(PySem.W.mg_none_of X G z17),(PySem.W.mg_none_of X G z18),(PySem.W.mg_none_of X G z19)⟩:GlbA mg);have F1:=Z2 (st:=QfV) l1 c1 k1;have b1:=F1.binds (ps:=["thing"]) λ_ _ _ _ _ _ us hl=>match us,hl with | [_],_=>rfl
 have m1:=PySem.W.mg_of X G a1;have F2:=Z2 (st:=QdP) l2 c2 k2;have b2:=F2.binds (ps:=["thing", "least", "most"]) λ_ _ _ _ _ _ us hl=>match us,hl with | [_,_,_],_=>rfl
 have m2:=PySem.W.mg_of X G a2;have F3:=Z2 (st:=QdQ) l3 c3 k3;have b3:=F3.binds (ps:=["things"]) λ_ _ _ _ _ _ us hl=>match us,hl with | [_],_=>rfl
 have m3:=PySem.W.mg_of X G a3;have F4:=Z2 (st:=Qf3) l4 c4 k4;have b4:=F4.binds (ps:=["high", "wide", "thing"]) λ_ _ _ _ _ _ us hl=>match us,hl with | [_,_,_],_=>rfl
 have m4:=PySem.W.mg_of X G a4;have F5:=Z2 (st:=QfZ) l5 c5 k5;have b5:=F5.binds (ps:=["high", "wide", "thing"]) λ_ _ _ _ _ _ us hl=>match us,hl with | [_,_,_],_=>rfl
 have m5:=PySem.W.mg_of X G a5;have F6:=Z2 (st:=QdR) l6 c6 k6;have b6:=F6.binds (ps:=["board", "rows", "columns"]) λ_ _ _ _ _ _ us hl=>match us,hl with | [_,_,_],_=>rfl
 have m6:=PySem.W.mg_of X G a6;have F7:=Z2 (st:=Qf1) l7 c7 k7;have b7:=F7.binds (ps:=["board", "thing"]) λ_ _ _ _ _ _ us hl=>match us,hl with | [_,_],_=>rfl
 have m7:=PySem.W.mg_of X G a7;have F8:=Z2 (st:=Qlv) l8 c8 k8;have b8:=F8.binds (ps:=["many", "thing"]) λ_ _ _ _ _ _ us hl=>match us,hl with | [_,_],_=>rfl
 have m8:=PySem.W.mg_of X G a8;have F9:=Z2 (st:=Qcw) l9 c9 k9;have b9:=F9.binds (ps:=["board", "lines"]) λ_ _ _ _ _ _ us hl=>match us,hl with | [_,_],_=>rfl
 have m9:=PySem.W.mg_of X G a9;have F10:=Z2 (st:=sOth) l10 c10 k10;have b10:=F10.binds (ps:=["many", "numbers"]) λ_ _ _ _ _ _ us hl=>match us,hl with | [_,_],_=>rfl
 have m10:=PySem.W.mg_of X G a10;have F11:=Z2 (st:=QfX) l11 c11 k11;have b11:=F11.binds (ps:=["board", "thing"]) λ_ _ _ _ _ _ us hl=>match us,hl with | [_,_],_=>rfl
 have m11:=PySem.W.mg_of X G a11;have F12:=Z2 (st:=Qf4) l12 c12 k12;have b12:=F12.binds (ps:=["cells"]) λ_ _ _ _ _ _ us hl=>match us,hl with | [_],_=>rfl
 have m12:=PySem.W.mg_of X G a12;have F13:=Z2 (st:=QdS) l13 c13 k13;have b13:=F13.binds (ps:=["board"]) λ_ _ _ _ _ _ us hl=>match us,hl with | [_],_=>rfl
 have m13:=PySem.W.mg_of X G a13;have F14:=Z2 (st:=Qlw) l14 c14 k14;have b14:=F14.binds (ps:=["board"]) λ_ _ _ _ _ _ us hl=>match us,hl with | [_],_=>rfl
 have m14:=PySem.W.mg_of X G a14;have F15:=Z2 (st:=QbC) l15 c15 k15;have b15:=F15.binds (ps:=["board", "size"]) λ_ _ _ _ _ _ us hl=>match us,hl with | [_,_],_=>rfl
 have m15:=PySem.W.mg_of X G a15;have F16:=Z2 (st:=Qf2) l16 c16 k16;have b16:=F16.binds (ps:=["board", "size"]) λ_ _ _ _ _ _ us hl=>match us,hl with | [_,_],_=>rfl
 have m16:=PySem.W.mg_of X G a16;have F17:=Z2 (st:=QfY) l17 c17 k17;have b17:=F17.binds (ps:=["board", "size"]) λ_ _ _ _ _ _ us hl=>match us,hl with | [_,_],_=>rfl
 have m17:=PySem.W.mg_of X G a17;have F18:=Z2 (st:=sFol) l18 c18 k18;have b18:=F18.binds (ps:=["board", "start"]) λ_ _ _ _ _ _ us hl=>match us,hl with | [_,_],_=>rfl
 have m18:=PySem.W.mg_of X G a18;have F19:=Z2 (st:=Qls) l19 c19 k19;have b19:=F19.binds (ps:=["start"]) λ_ _ _ _ _ _ us hl=>match us,hl with | [_],_=>rfl
 have m19:=PySem.W.mg_of X G a19;have F20:=Z2 (st:=Qlr) l20 c20 k20;have b20:=F20.binds (ps:=["board"]) λ_ _ _ _ _ _ us hl=>match us,hl with | [_],_=>rfl
 have m20:=PySem.W.mg_of X G a20;have F21:=Z2 (st:=sRow) l21 c21 k21;have b21:=F21.binds (ps:=["below", "columns", "taken"]) λ_ _ _ _ _ _ us hl=>match us,hl with | [_,_,_],_=>rfl
 have m21:=PySem.W.mg_of X G a21;have F22:=Z2 (st:=Qlu) l22 c22 k22;have b22:=F22.binds (ps:=["n", "thing"]) λ_ _ _ _ _ _ us hl=>match us,hl with | [_,_],_=>rfl
 have m22:=PySem.W.mg_of X G a22;have F23:=Z2 (st:=sLot) l23 c23 k23;have b23:=F23.binds (ps:=["n", "thing"]) λ_ _ _ _ _ _ us hl=>match us,hl with | [_,_],_=>rfl
 have m23:=PySem.W.mg_of X G a23;have F24:=Z2 (st:=Qlt) l24 c24 k24;have b24:=F24.binds (ps:=["n"]) λ_ _ _ _ _ _ us hl=>match us,hl with | [_],_=>rfl
 have m24:=PySem.W.mg_of X G a24;have F25:=Z2 (st:=QfW) l25 c25 k25;have b25:=F25.binds (ps:=["n"]) λ_ _ _ _ _ _ us hl=>match us,hl with | [_],_=>rfl
 have m25:=PySem.W.mg_of X G a25;have F26:=Z2 (st:=sPOf) l26 c26 k26;have b26:=F26.binds (ps:=["n", "stand"]) λ_ _ _ _ _ _ us hl=>match us,hl with | [_,_],_=>rfl
 have m26:=PySem.W.mg_of X G a26;have F27:=Z2 (st:=sSOf) l27 c27 k27;have b27:=F27.binds (ps:=["n", "parting"]) λ_ _ _ _ _ _ us hl=>match us,hl with | [_,_],_=>rfl
 have m27:=PySem.W.mg_of X G a27;have F28:=Z2 (st:=Qf0) l28 c28 k28;have b28:=F28.binds (ps:=["n", "many"]) λ_ _ _ _ _ _ us hl=>match us,hl with | [_,_],_=>rfl
 have m28:=PySem.W.mg_of X G a28;have F29:=Z2 (st:=Qd0) l29 c29 k29;have b29:=F29.binds (ps:=["_law_script", "_law_k"]) λ_ _ _ _ _ _ us hl=>match us,hl with | [_,_],_=>rfl
 have m29:=PySem.W.mg_of X G a29;have F30:=Z2 (st:=sLaw) l30 c30 k30;refine⟨PySem.W.fnOf "law" "law" (J1 sLaw) (JO sLaw) (QD sLaw) .none kV30 dc30 pm30 an30 cd30 ct30,λs v=>.of_eq rfl,λbase _ _=>?_⟩;have G1:FnOk l.prog w K mg base CX0 1 f1 _ ["thing"] (Dl.Zw false Dl.Qmi):=Qra F1 T ;have G2:FnOk l.prog w K mg base CX0 2 f2 _ ["thing", "least", "most"] (Dl.Zw false QcZ):=Qnn F2 T m1 G1 b1 k1;have G3:FnOk l.prog w K mg base CX0 1 f3 _ ["things"] (Dl.Zw false QgU):=Qnp F3 T ;have F31:=F3;have m31:=m3;have b31:=b3;have k31:=k3;have G31:FnOk l.prog w K mg base CX0 1 f3 _ ["things"] (Dl.Zw false QgV):=(G3).imp λ_ _ _ _ h=>QwE QmI h
 have G5:FnOk l.prog w K mg base CX0 3 f5 _ ["high", "wide", "thing"] (Dl.Zw false Qm2):=Qre F5 T m2 G2 b2 k2;have G4:FnOk l.prog w K mg base CX0 4 f4 _ ["high", "wide", "thing"] (Dl.Zw false Qoq):=Qrh F4 T m5 G5 b5 k5 m3 G3 b3 k3;have G12:FnOk l.prog w K mg base CX0 1 f12 _ ["cells"] (Dl.Zw false QoI):=Qri F12 T ;have G11:FnOk l.prog w K mg base CX0 5 f11 _ ["board", "thing"] (Dl.Zw false Qke):=Qrc F11 T m4 G4 b4 k4 m12 G12 b12 k12;have G8:FnOk l.prog w K mg base CX0 3 f8 _ ["many", "thing"] (Dl.Zw false Qrl):=QuN F8 T m2 G2 b2 k2 m31 G31 b31 k31;have G23:FnOk l.prog w K mg base CX0 4 f23 _ ["n", "thing"] (Dl.Zw false QAJ):=QxW F23 T m8 G8 b8 k8;have G24:FnOk l.prog w K mg base CX0 3 f24 _ ["n"] (Dl.Zw false Qpv):=QuL ⟨_,PySem.W.mg_of X G aA⟩ F24 T m2 G2 b2 k2;have G22:FnOk l.prog w K mg base CX0 5 f22 _ ["n", "thing"] (Dl.Zw false Qky):=QuM F22 T m24 G24 b24 k24 m23 G23 b23 k23 m31 G31 b31 k31;have G25:FnOk l.prog w K mg base CX0 4 f25 _ ["n"] (Dl.Zw false Qe1):=Qrb F25 T m24 G24 b24 k24;have G26:FnOk l.prog w K mg base CX0 6 f26 _ ["n", "stand"] (Dl.Zw false QpE):=QxU F26 T m25 G25 b25 k25 m11 G11 b11 k11;have G14:FnOk l.prog w K mg base CX0 1 f14 _ ["board"] (Dl.Zw false Qru):=QuO F14 T ;have G21:FnOk l.prog w K mg base CX0 1 f21 _ ["below", "columns", "taken"] (Dl.Zw true Qtn):=QuI F21 T ;have G20:FnOk l.prog w K mg base CX0 2 f20 _ ["board"] (Dl.Zw true Qtp):=QuJ F20 T m21 G21 b21 k21;have G13:FnOk l.prog w K mg base CX0 3 f13 _ ["board"] (Dl.Zw true Qhl):=Qnr F13 T m20 G20 b20 k20 m14 G14 b14 k14;have G19:FnOk l.prog w K mg base CX0 1 f19 _ ["start"] (Dl.Zw false QtL):=QuK F19 T ;have G18:FnOk l.prog w K mg base CX0 2 f18 _ ["board", "start"] (Dl.Zw false QAV):=QxY F18 T m19 G19 b19 k19;have G16:FnOk l.prog w K mg base CX0 3 f16 _ ["board", "size"] (Dl.Zw true evD):=QAH F16 T m18 G18 b18 k18;have G27:FnOk l.prog w K mg base CX0 6 f27 _ ["n", "parting"] (Dl.Zw false QtB):=QxT F27 T m22 G22 b22 k22;have G17:FnOk l.prog w K mg base CX0 3 f17 _ ["board", "size"] (Dl.Zw false QmK):=Qrd F17 T m2 G2 b2 k2 m14 G14 b14 k14;have G15:FnOk l.prog w K mg base CX0 4 f15 _ ["board", "size"] (Dl.Zw true QeF):=QAF ⟨_,PySem.W.mg_of X G aB⟩ F15 T m17 G17 b17 k17 m13 G13 b13 k13 m16 G16 b16 k16;have G28:FnOk l.prog w K mg base CX0 7 f28 _ ["n", "many"] (Dl.Zw true Qjr):=Qrf F28 T m25 G25 b25 k25 m2 G2 b2 k2 m26 G26 b26 k26 m15 G15 b15 k15;have G10:FnOk l.prog w K mg base CX0 1 f10 _ ["many", "numbers"] (Dl.Zw false QuD):=QxV F10 T ;have G7:FnOk l.prog w K mg base CX0 4 f7 _ ["board", "thing"] (Dl.Zw false QjC):=Qrg F7 T m8 G8 b8 k8;have G6:FnOk l.prog w K mg base CX0 1 f6 _ ["board", "rows", "columns"] (Dl.Zw false Qm4):=Qnq F6 T ;have G9:FnOk l.prog w K mg base CX0 5 f9 _ ["board", "lines"] (Dl.Zw false QzZ):=QAE F9 T m7 G7 b7 k7 m10 G10 b10 k10 m6 G6 b6 k6;have G29:FnOk l.prog w K mg base CX0 1 f29 _ ["_law_script", "_law_k"] (Qdj K):=Qns F29 T ;exact QxX F30 T m29 G29 b29 k29 m25 G25 b25 k25 m13 G13 b13 k13 m28 G28 b28 k28 m27 G27 b27 k27 m22 G22 b22 k22 m11 G11 b11 k11 m26 G26 b26 k26 m15 G15 b15 k15 m9 G9 b9 k9
theorem QBU{l:PySem.W.OpenLaw}{q:QC}{loose:List Str}{XP:(Str->Option Value)->Heap->Prop}{YP:Q9->Heap->Prop}{d:DefRec}{K:Params->PySem.W.Frag}(hn:l.most=some 63)(hdf:d.params.defaults=[])
  (hY:∀(w:Q9)(h:Heap),YP w h->(K w.params).In h)
  (F:∀(w:Q9)(mg:Str->Option Value)(fa:Addr)(h:Heap),(K w.params).In h->h.Ns mainGlobals mg->mg d.name=some (.ref fa) ->
   ∃fd:Q2,(∀(s:Shared)(u:Value),Qo4 s fd ⟨[u],[]⟩ [("_law_script",u)])/\∀base:Heap,(K w.params).In base->base.Ns mainGlobals mg->FnOk l.prog w (K w.params) mg base CX0 8 fa fd ["_law_script"] (Dl.QfT (K w.params))) :
  PySem.W.WalkO q loose XP YP l.row.toRowW d [] (λf vs=>PySem.call f vs):=
 L2.Qts (n:=63) (k:=8) (x := "_law_script") (CX:=λ_=>CX0) (sp:=λw=>(Dl.QfT (K w.params))) hn (by decide) hdf ⟨rfl,by decide,by decide⟩ hY F (λ_ _ a ns hl _ hS=>⟨a,ns,rfl,hS,hl,λ_=>rfl⟩) λ_ _ _ _ _ z=>z
end Rk
open PySem.W
set_option maxRecDepth 100000 in
set_option maxHeartbeats 0 in
theorem PySem.Challenge.cw_rooklands_k84_whole_partings_holds : PySem.Challenge.rw_rooklands_k84_whole_partings.Holds := by
 w_on;o_law;k_head;(case hw=>w_witness2)
 k_fill
 refine Rk.QBU (l:=PySem.Challenge.rw_rooklands_k84_whole_partings) rfl rfl (λw h Y=>PySem.W.kIn_of Y) ?F
 case F=>
  intro w mg fa h KX G hmg;refine' Rk.QyW KX G hmg ?a1 ?l1 ?c1 ?k1 ?a2 ?l2 ?c2 ?k2 ?a3 ?l3 ?c3 ?k3 ?a4 ?l4 ?c4 ?k4 ?a5 ?l5 ?c5 ?k5 ?a6 ?l6 ?c6 ?k6 ?a7 ?l7 ?c7 ?k7 ?a8 ?l8 ?c8 ?k8 ?a9 ?l9 ?c9 ?k9 ?a10 ?l10 ?c10 ?k10 ?a11 ?l11 ?c11 ?k11 ?a12 ?l12 ?c12 ?k12 ?a13 ?l13 ?c13 ?k13 ?a14 ?l14 ?c14 ?k14 ?a15 ?l15 ?c15 ?k15 ?a16 ?l16 ?c16 ?k16 ?a17 ?l17 ?c17 ?k17 ?a18 ?l18 ?c18 ?k18 ?a19 ?l19 ?c19 ?k19 ?a20 ?l20 ?c20 ?k20 ?a21 ?l21 ?c21 ?k21 ?a22 ?l22 ?c22 ?k22 ?a23 ?l23 ?c23 ?k23 ?a24 ?l24 ?c24 ?k24 ?a25 ?l25 ?c25 ?k25 ?a26 ?l26 ?c26 ?k26 ?a27 ?l27 ?c27 ?k27 ?a28 ?l28 ?c28 ?k28 ?a29 ?l29 ?c29 ?k29 ?a30 ?l30 ?c30 ?k30 ?z1 ?z2 ?z3 ?z4 ?z5 ?z6 ?z7 ?z8 ?z9 ?z10 ?z11 ?z12 ?z13 ?z14 ?z15 ?z16 ?z17 ?z18 ?z19 ?aA ?aB
  (case a1=>k_is)
  (case l1=>k_is)
  (case c1=>k_is)
  (case k1=>k_is)
  (case a2=>k_is)
  (case l2=>k_is)
  (case c2=>k_is)
  (case k2=>k_is)
  (case a3=>k_is)
  (case l3=>k_is)
  (case c3=>k_is)
  (case k3=>k_is)
  (case a4=>k_is)
  (case l4=>k_is)
  (case c4=>k_is)
  (case k4=>k_is)
  (case a5=>k_is)
  (case l5=>k_is)
  (case c5=>k_is)
  (case k5=>k_is)
  (case a6=>k_is)
  (case l6=>k_is)
  (case c6=>k_is)
  (case k6=>k_is)
  (case a7=>k_is)
  (case l7=>k_is)
  (case c7=>k_is)
  (case k7=>k_is)
  (case a8=>k_is)
  (case l8=>k_is)
  (case c8=>k_is)
  (case k8=>k_is)
  (case a9=>k_is)
  (case l9=>k_is)
  (case c9=>k_is)
  (case k9=>k_is)
  (case a10=>k_is)
  (case l10=>k_is)
  (case c10=>k_is)
  (case k10=>k_is)
  (case a11=>k_is)
  (case l11=>k_is)
  (case c11=>k_is)
  (case k11=>k_is)
  (case a12=>k_is)
  (case l12=>k_is)
  (case c12=>k_is)
  (case k12=>k_is)
  (case a13=>k_is)
  (case l13=>k_is)
  (case c13=>k_is)
  (case k13=>k_is)
  (case a14=>k_is)
  (case l14=>k_is)
  (case c14=>k_is)
  (case k14=>k_is)
  (case a15=>k_is)
  (case l15=>k_is)
  (case c15=>k_is)
  (case k15=>k_is)
  (case a16=>k_is)
  (case l16=>k_is)
  (case c16=>k_is)
  (case k16=>k_is)
  (case a17=>k_is)
  (case l17=>k_is)
  (case c17=>k_is)
  (case k17=>k_is)
  (case a18=>k_is)
  (case l18=>k_is)
  (case c18=>k_is)
  (case k18=>k_is)
  (case a19=>k_is)
  (case l19=>k_is)
  (case c19=>k_is)
  (case k19=>k_is)
  (case a20=>k_is)
  (case l20=>k_is)
  (case c20=>k_is)
  (case k20=>k_is)
  (case a21=>k_is)
  (case l21=>k_is)
  (case c21=>k_is)
  (case k21=>k_is)
  (case a22=>k_is)
  (case l22=>k_is)
  (case c22=>k_is)
  (case k22=>k_is)
  (case a23=>k_is)
  (case l23=>k_is)
  (case c23=>k_is)
  (case k23=>k_is)
  (case a24=>k_is)
  (case l24=>k_is)
  (case c24=>k_is)
  (case k24=>k_is)
  (case a25=>k_is)
  (case l25=>k_is)
  (case c25=>k_is)
  (case k25=>k_is)
  (case a26=>k_is)
  (case l26=>k_is)
  (case c26=>k_is)
  (case k26=>k_is)
  (case a27=>k_is)
  (case l27=>k_is)
  (case c27=>k_is)
  (case k27=>k_is)
  (case a28=>k_is)
  (case l28=>k_is)
  (case c28=>k_is)
  (case k28=>k_is)
  (case a29=>k_is)
  (case l29=>k_is)
  (case c29=>k_is)
  (case k29=>k_is)
  (case a30=>k_is)
  (case l30=>k_is)
  (case c30=>k_is)
  (case k30=>k_is)
  (case z1=>k_is)
  (case z2=>k_is)
  (case z3=>k_is)
  (case z4=>k_is)
  (case z5=>k_is)
  (case z6=>k_is)
  (case z7=>k_is)
  (case z8=>k_is)
  (case z9=>k_is)
  (case z10=>k_is)
  (case z11=>k_is)
  (case z12=>k_is)
  (case z13=>k_is)
  (case z14=>k_is)
  (case z15=>k_is)
  (case z16=>k_is)
  (case z17=>k_is)
  (case z18=>k_is)
  (case z19=>k_is)
  (case aA=>k_is)
  (case aB=>k_is)
