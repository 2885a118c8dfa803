import PyProof.Rows.All
import Wide.All
import OpenK.AllK
import Wide.FinOn
import Lean
import PyProof.EqAt
import PyProof.EqKinds
import PyProof.TupleCall
import PyProof.Rows.SortRuns
import PyProof.Rows.SortShellK
import PyProof.P3Eq
import PyProof.Draws
import PyProof.EnumMake
import PyProof.NeData
import KE.LcSums
import PyProof.WalkInts
import PyProof.SeqI3
import KE.KSortTup
import KE.KRevIter
import PyProof.FactsAll.range_2
import PyProof.SetRoads
import PyProof.FactsAll.set_1
import PyProof.Rows.SetFrom
import PyProof.CollectWalk
import PyProof.Walks
import PyProof.TupleIter
import PyProof.TupleKey
import PyProof.WalksMore
import KE.KDictOf
import PyProof.Rows.TupDisplay
import PySem.Challenge.RW_rooklands_k86_boards_alike_or_not
local macro_rules | `(tactic| omega) => `(tactic| first | lia | omega +splitDisjunctions)
open List renaming length_map->Qa,getElem?_eq_getElem->Qe,range->Qf,getD_eq_getElem?_getD->Qi,size_toArray->Qj,getElem?_map->Qo,length_range->Qr,mem_map->Qs,mem_cons->Qu,length_append->Qw,mem_range->Qz,length_cons->QC,map_map->QH,mem_of_getElem?->QJ,replicate->QL,getElem?_eq_none->QN,not_mem_nil->QQ,getElem?_eq_some_iff->QU,mem_cons_of_mem->QX,map_append->Q3,mem_singleton->Q5,map_congr_left->Q9,getElem?_range->Ja,nodup_cons->Jd,lookup_cons->Jk,map_cons->Js,pairwise_iff_getElem->Jt,mem_append_right->Ju,mem_filter->JB,mem_cons_self->JC,range_succ->JL,mem_append->JM,mem_iff_getElem?->JR,getElem?_append_right->JS,take_length->JW,take_add_one->JY,replicate_succ->J5,ext_getElem?->J7,length_take->Zh,all_eq_true->Zi,length_set->Zq,getElem?_cons_succ->Zr,getElem?_set_self->Zz,eraseIdx_eq_take_drop_succ->ZB,getElem?_replicate->ZW,toArray->ZX,flatten_cons->ZY,toList_toArray->Z2,flatMap_append->Z3,filterMap_cons->Z4,append_nil->Z5,perm_ext_iff_of_nodup->Yb,length_drop->Yg,getElem_mem->Yh,take_append_drop->Yi,find?_eq_none->Yj,filterMap_map->Yk,filterMap_append->Yl,getElem?_append_left->Yn,nodup_range->YC,idxOf_lt_length_of_mem->YN,any_cons->YZ,mem_append_left->Y6,mem_toArray->Qaf,find?_cons->Qao,filter_cons_of_pos->Qap,filter_cons_of_neg->Qaq,find?_cons_of_pos->QaD,nodup_nil->QaO,length_replicate->QaS,map_take->Qa5,filter_eq_self->Qbm,mem_filterMap->QbA,filter_append->QbB,nodup_append->QbW,filter_congr->QbX,mem_flatMap->Qct,any_eq_true->Qcu,length_filter_le->QcS,forIn_cons->QcT,mem_of_mem_drop->Qde,mem_iff_getElem->Qdf,getElem?_set_ne->Qdg,sum_cons->QdW,map_drop->QdX,lookup_append->QdY,getElem?_set->QeO,flatMap_cons->QeP,eraseIdxIfInBounds_toArray->QeQ,append_assoc->QeR,any_map->QeW,range'->QgF,of_mem_zip->QgG,nil_append->QgH,map_id->QgI,lookup->QgJ,length->QgK,foldl_cons->QgL,findSome?_eq_none_iff->QgX,getElem?_zip_eq_some->Qh5,forIn_nil->Qh6,drop_eq_getElem_cons->Qh7,length_erase_of_mem->Qih,getElem?_take_of_lt->Qii,take_nil->Qi9,length_eq_zero_iff->Qja,getElem?_cons_zero->Qjb,take_of_length_le->Qkk,range_succ_eq_map->Qkl,pairwise_lt_range->Qkm,length_pos_of_mem->Qkn,flatMap_singleton->Qko,find?_cons_of_neg->Qkp,filter_eq_nil_iff->Qkq,perm_append_comm->Qlj,map_nil->Qlk,getElem?_toArray->Qll,pairwise_append->QlB,mem_of_mem_take->QlC,mem_erase_of_ne->QlD,map_filterMap->Qoy,getElem_idxOf->Qoz,getElem?_drop->QoA,filter_filter->QoB,take_sublist->Qrw,reverse_cons->Qrx,pairwise_map->Qry,foldl->Qrz,find?_append->QrA,any_eq_false->QrB,zipIdx_cons->QsO,range'_succ->QsP,perm_middle->QsQ,getElem_map->QsR,filter_cons->QsS,zipIdx_nil->Qvv,take_range->Qvw,sum_append->Qvx,find?_some->Qvy,filter_nil->Qvz,range_add->QvO,drop_zero->QvP,drop_nil->Qym,all_cons->Qyn,zipWith->QyY
open PySem.W renaming Frag->Qb,keepIn->Qh,nsIn->QB,codeIn->QM,fnOf->QR,mg_none_of->Q1,mg_of->Q2,kia_one->Zm,kitOne->Yf,methodObj->QdR,instObj->QeU,OpenLaw->QeV,lookIn->QfG,cellsFrom_some->Qh3,kitx_list->Qlv,kitx_dict->Qlw,plainGet->Qoj,findIn->Qrv,WalkO->QsM
open PySem.Heap renaming get?_push_of_some->Qc,lt_size->Qk,get?_push_size->Qm,size_push->JG,get?_update_self->J6,SameBut->ZH,get?_update_other->YG,IsTuple->Qlm,ExtBut->Qol
open PySem renaming wpAny_pure->Qd,Program->Qy,Expr->Q0,wpAny_newObj_type->Q4,FuncData->Q6,Around->Jb,World->Jc,wpAny_call_entry->Jy,wpAny_callSpecial?_slot->JH,wpAny_holding->J3,IsTupleKey->Zb,wpAny_field->Zf,wpAny_setState_of->Zn,sizeLine_eq->ZI,wpAny_seqItems->Z9,wpAny_of_eq->Yd,codeAny_builtin->Ye,wpAny_pyIter_tuple->Yp,Builtin->Yw,Scope->YA,wpAny_typeNameOfWhole_keyiter->YK,wpAny_askSetting->YL,wpAny_setField_rec->YW,Paired->YY,Stmt->Y2,wpAny_truthy_bool->Qab,wpAny_dictEntries->Qac,mem_of_lookup->Qad,NameKind->Qae,wpAny_setField->Qaj,Keyword->Qat,wpAny_typeOf->Qay,wpAny_typeNameOf_keyiter->Qaz,wpAny_comprehension_free->QaA,wpAny_specialOf->QaL,plainId_quiet->QaM,codeAny_compStart_list->QaZ,Fin->Qbd,wpAny_isInstance->Qbn,wpAny_forIn_list->Qbo,wpAny_attempt->Qby,call_meets->QbI,wpAny_passesOwn->QbQ,wpAny_loadPart'->QbR,wpAny_Call_Name_kw->Qcf,codeAny_mono->Qcg,isSubtype_type->Qcq,wpAny_pyIter_enum->QcF,rangeSize_one->QcV,wpAny_pyIter_zip->Qdb,wpAny_pyIter_rangeiter->Qdi,wpAny_isOneOf_keyiter->QdO,codeAny_of_tree->QdP,builtinLookup_eq_fast->QdQ,wpAny_updateSeq_pair->Qef,wpAny_newFunctionEnv->Qeg,wpAny_fieldsOf->QeN,seqIndex_of->QeT,IsRange->QeY,wpAny_onRaise->QfC,tupleKind_room_in1->QfD,Operator->QfH,Comprehension->QfK,wpAny_pyIter_slot->QgQ,seqIndex_neg->Qh0,IsPart->Qh8,wpAny_eqBool_int->Qib,noFill_tuple_add->Qic,wpAny_execs_nil->Qke,wpAny_dictEpoch->Qkf,typeLookup_type->Qkg,IsRangeIter->Qkr,wpAny_letOwnedTupleGo_enum->Qlh,wpAny_runValue->Qls,wpAny_letOwnedTupleGo_zip->Qlt,wpAny_newList->Qoq,wpAny_handled->Qor,seq_tuple_add->Qos,call->Qov,BindsTo->QoH,wpAny_pyNext_range_end->Qrq,wpAny_getItem_list_neg->Qrr,wpAny_Call_method_late->Qrs,wpAny_notOrdered_dict->QsG,wpAny_eqIsQuiet_tuple->QsH,exec_Assign_Name_used->QsI,concat_meets->QsJ,callType_new->QsK,IsZip->QsT,wpAny_throw->QvG,wpAny_setEntries_of->QvH,wpAny_letGo->QvI,Model->QvN,wpAny_eqBool_tuple->Qyf,wpAny_List_spliced->Qyg,ZipApart->Qyi,Within->Qyj,wpAny_storeSet_of->QyC,wpAny_sequenceKey->QyD,wpAny_pyIter_list->QyE,wpAny_load->QyF,wpAny_assign_Name->QyG,wpAny_Name->QyH,typeIs_int->QyI,slot_list_getitem->QyJ
open Nat renaming le_refl->Qg,ne_of_lt->Qv,lt_of_lt_of_le->QK,le_trans->QY,zero_le->Q7,lt_irrefl->Zu,lt_trichotomy->ZC,le_of_lt->ZJ,lt_succ_of_lt->Z0,not_lt_zero->Yv,lt_of_le_of_lt->YJ,ne_of_gt->YQ,le_of_succ_le->QaN,pow_le_pow_right->Qa4,zero_add->QbK,succ_pos->QbL,mul_le_mul->QbU,min_le_right->QcB,min_self->QcX,mod_lt->Qdd,add_sub_cancel->Qeh,lt_succ_self->QfI,le_add_right->QfJ,min_eq_left->QgV,le_succ->QgW,succ_mul->Qly,succ_add->Qlz,sub_self->QlA,add_le_add_left->Qox,le_of_lt_succ->QsN,succ_le_succ->Qvt,min_eq_right->Qvu
open Array renaming length_toList->Ql,getElem?_toList->JA,getElem_toList->JI,getElem?_eq_getElem->JX,getElem?_eq_none->Zd,getD->Zj,mem_toList_iff->ZO,getD_eq_getD_getElem?->YM,getElem?_eq_some_iff->Y0,mem_of_getElem?->QaP,replicate->Qbe,getElem_setIfInBounds->Qbf,forIn_toList->QdT,getElem_mem->Qej,perm_iff_toList_perm->QgP,toList_filterMap->Qjd,toList_filter->QlH,foldl_toList->Qom,size_map->QvA,toList->Qys
open PySem.PyData renaming int->Qp,eqv->Jf,bool->Ji,tuple->Jz,depth->J8,canLayAll0->ZV,list->YI,canLay0->QaC,depthAll->Qa3,str->QdV
open Int renaming toNat_natCast->Qq,zero_add->Zk,add_zero->YR,toNat_of_nonneg->Qbq,toNat->QgZ,eq_ofNat_of_zero_le->Qks,mul_zero->QlE,le_trans->QlF,le_of_lt->QlG,one_mul->QoC,le_refl->QoD,natCast_nonneg->QrC,emod_lt_of_pos->QrD,emod_nonneg->QvQ,add_assoc->Qy0
open Bool renaming false_ne_true->Qt,and_eq_true->JK,and_eq_true_iff->JZ,eq_iff_iff->Ze,false_eq_true->ZK,eq_false_iff->QbY,not_false->Qdn,or_eq_true->QgO,true_and->Qjc,false_and->QvT,and_false->QvU,not_true->Qyq,false_or->Qyr
open Option.some renaming inj->Qx
open PySem.Value renaming ref->QF,none->Jo,type->YO,int->Qbc,bool->QcR,builtin->Qid,str->Qkh,isStrOf->QvL,isInt->QyN,float->QyO
open Or renaming inr->QV,inl->QZ
open PySem.PassesOwn renaming never->Je
open PySem.SetTable renaming bits->Jh,runEnd->Jm,turns->Jr,below->JJ,Probe->Za,insertAt->Zx,leap->Ys,advance->Y3,laid->QaR,fresh->Qbl,layClean->Qbx,fits->QbJ,slot->Qdc,toList_insertAt->QfF,fill->QgE,has->Qh2,sizeAbove->Qkj
open PySem.NameKind renaming free->Jj,cell->ZM
open PySem.Builtin.Range renaming rangeSize->Jp,rangeFitsLong->JD,small->Qb1,rangeFields->Qy7
open PySem.SetTable.layClean renaming free->Jq
open PySem.SetTable.probe renaming go->Jx
open PyProof.Rows renaming callWith_type1->JF,slot_tuple_getitem->J1,Keyed->QaV,IntsAre->Qbp,SortKind->Qch,AllBare->Qe0,assignInOrder_cons->QfE,listUpdate_at->Qot,subscriptTail_builtinR->Qrt,seqEpoch_at->QvJ,entry_tuple_getitem->QvK,args_tuple_getitem->Qyh,assignInOrder_nil->QyK,Subscript_->QyP
open PySem.Heap.SameBut renaming update->JN
open PySem.Builtin.SmallTypes renaming nextOf->JO,ownedTupleIsFree->ZD,ownedTupleHandOut->Qbr
open Classical renaming byContradiction->J9
open Sum renaming inl->Zg,inr->QgR
open PySem.Around renaming under_plainId->Zo
open PySem.Builtin.Int renaming intBits->Zv,intTooBig->QfL
open List.Perm renaming refl->Zy,eq_of_pairwise->Y7,swap->QeX
open PySem.Builtin.Tuple renaming tupleExact->ZA,tupleItemsOf->QdE,tupleIsExact->Qy3,tupleHashOf->Qy4
open PyProof.Rows.F renaming plain_set_update_loop->ZE,entry_set_update_loop->QbT
open PySem.Obj renaming data_mapFields->ZL,mapSeq->ZZ,isFreed_of_fields->QaU,cls_mapFields->Qb0,mapFields->Qcs,putSet->Qi8,data_mapDictKeys->Qok
open ForInStep renaming yield->ZQ
open PySem.F renaming slot_dict_keyiterator_next->Z1,plainAttrs_list->Yu,slot_tuple_iterator_next->Qaa,called_set->Qar,args_tuple_add_2->Qbz,entry_tuple_add->QbS,slot_tuple_add->QbZ,slot_dict_get->Qcr,plain_list_iadd->Qcv,slot_zip_next->Qdj,slot_range_reversed->Qdk,args_dict_keyiterator_next_1->QgM,args_dict_get_3->QgT,slot_dict_iter->Qg0,entry_dict_keyiterator_next->Qg1,entry_dict_get->Qh4,args_tuple_iterator_next_1->Qh9,slot_set_iter->Qig,entry_tuple_iterator_next->Qij,plain_proto_collect->QoE,entry_proto_collect->QoF,plain_reversed_new->QrE,args_object_init_2->QrF,entry_list_iadd->QvR,args_zip_next_1->QvS,entry_zip_next->Qyp,slot_int_rmul->Qy1,plain_set_new->Qy2
open PySem.Str renaming ofString->Yy
open False renaming elim->YD
open PySem.Builtin.Slice renaming slicePlaces->YH,sliceAdjust->QaW,sliceApplied->QdF,slicePartIndex->Qy5,sliceFields->Qy6
open PySem.Builtin.List renaming listTooLong->YS,listExtendWith->QaI,listSameRef->Qei
open True renaming intro->YX
open PySem.Challenge renaming rw_rooklands_k86_boards_alike_or_not->Qan,pw_rooklands_k86_boards_alike_or_not->QvM
open Option renaming map_eq_some_iff->Qas,isSome_iff_exists->QgU,isSome_some->Qlx,getD_none->Qow,none->Qyl
open Ne renaming symm->QaB
open PySem.SetTable.below renaming go->Qa0
open Prod.mk renaming inj->Qa1
open PySem.Builtin.Dict renaming showsAll->QbM,entriesForEmpty->Qdm,dictSlotNone->Qd0,updateFrom->QeS,mergeDict->QeZ,quietEq->QfM
open PySem.Calls renaming callWith_builtin->Qcw,evalArgs_plain->QcY,spliced_cons->QdS,Name_function_global->QgN,call_function_entry->Qg2,spliced_nil->QoG
open PySem.Builtin.Dict_items renaming ownsTuple->Qcx
open PySem.Builtin renaming bitAnd->QcU,bitOr->Qdl
open Prod renaming ext->QcW
open PySem.Paired renaming length->QdD,snoc->Qyk
open List.Pairwise renaming imp_of_mem->QdZ,filter->Qe4,nil->QgY,map->QyZ
open PySem.SeqAt renaming eqv_refl->QgS,notIn_tupleAt->Qlu,notIn_listAt->Qoi,EqAt->Qou
open PySem.Shared renaming TypeIs->Qh1,heap->Qli
open PySem.SeqAt.EqAt renaming str_int->Qie,int_str->Qif
open Sum.inl renaming inj->Qki
open String renaming splitOnAux->Qoh,splitOn->QsL
open PySem.pickOrder renaming go->Qru
open PySem.Builtin.Frozenset renaming updateFrom->QsU,newClass->QsV
open Std.Legacy.Range renaming forIn_eq_forIn_range'->Qvs
open PySem.Heap.IsSliceOf renaming new->Qyo
open PySem.Walks renaming range->QyL
open PySem.W.WShape renaming has->QyM
open PySem.EqMixed renaming ne_str_int->QyQ,ne_str_bool->QyR,ne_int_str->QyS,ne_bool_str->QyT,eq_str_int->QyU,eq_str_bool->QyV,eq_int_str->QyW,eq_bool_str->QyX
open PySem PySem.Spec PyProof.Rows
set_option Elab.async false
set_option linter.all false
set_option maxRecDepth 100000
namespace L2
abbrev Key:=Sum Int Str
def Qk2:Key->Value->Bool
 |.inl k,v=>QyN k v
 |.inr x,v=>QvL x v
def QBq(w:Jc):Key->Int
 |.inl k=>hashInt k
 |.inr x=>hashStr w x
theorem Yr:∀{k:Key}{v:Value},Qk2 k v=true->(∃i t,k=Zg i/\v=Qbc i t)∨(∃x t,k=QgR x/\v=Qkh x t)
 |.inl i,v,h=>by
  obtain⟨t,e⟩:=Value.isInt_shape (k:=i) (v:=v) h;exact .inl ⟨i,t,rfl,e⟩
 |.inr x,v,h=>by
  obtain⟨t,e⟩:=Value.isStrOf_shape (x:=x) (v:=v) h;exact .inr ⟨x,t,rfl,e⟩
theorem Qnl(i:Int)(t:Tok):Qk2 (.inl i) (.int i t)=true:=by simp[Qk2,QyN]
theorem Qnk(x:Str)(t:Tok):Qk2 (.inr x) (.str x t)=true:=by simp[Qk2,QvL]
theorem Qxu(a b:Int):decide ((Zg a:Key)=Zg b)=(a == b):=by
 by_cases e:a=b
 ·subst e;simp
 ·have h:¬(Zg a:Key)=Zg b:=λq=>e (Qki q)
  rw[decide_eq_false h];exact(beq_eq_false_iff_ne.mpr e).symm
theorem Qxq(a b:Str):decide ((QgR a:Key)=QgR b)=decide (a=b):=by
 by_cases e:a=b
 ·subst e;simp
 ·have h:¬(QgR a:Key)=QgR b:=λq=>e (Sum.inr.inj q)
  rw[decide_eq_false h,decide_eq_false e]
theorem Qxt(a:Int)(b:Str):decide ((Zg a:Key)=QgR b)=false:=decide_eq_false (λq=>nomatch q)
theorem Qxr(a:Str)(b:Int):decide ((QgR a:Key)=Zg b)=false:=decide_eq_false (λq=>nomatch q)
def mixKind(prog:Qy)(w:Jc):PySem.KeyKind prog w Key where
 is:=Qk2
 hash:=QBq w
 inj:=λv a b ha hb=>by
  rcases Yr ha with⟨i,t,rfl,rfl⟩ | ⟨x,t,rfl,rfl⟩
  ·rcases Yr hb with⟨j,u,rfl,e⟩ | ⟨y,u,rfl,e⟩
   ·injection e with e1 _;rw[e1]
   ·exact nomatch e
  ·rcases Yr hb with⟨j,u,rfl,e⟩ | ⟨y,u,rfl,e⟩
   ·exact nomatch e
   ·injection e with e1 _;rw[e1]
 byValue:=λk v h=>by
  rcases Yr h with⟨i,t,rfl,rfl⟩ | ⟨x,t,rfl,rfl⟩<;>rfl
 pyHash:=λhv h=>by
  rcases Yr hv with⟨i,t,rfl,rfl⟩ | ⟨x,t,rfl,rfl⟩
  ·exact wpAny_pyHash_int h
  ·exact wpAny_pyHash_str h
 eqBool:=λhu hv h=>by
  rcases Yr hu with⟨i,t,rfl,rfl⟩ | ⟨x,t,rfl,rfl⟩
  ·rcases Yr hv with⟨j,u,rfl,rfl⟩ | ⟨y,u,rfl,rfl⟩
   ·rw[Qxu] at h;exact Qib h
   ·rw[Qxt] at h;exact Qif i t y u _ _ _ _ h
  ·rcases Yr hv with⟨j,u,rfl,rfl⟩ | ⟨y,u,rfl,rfl⟩
   ·rw[Qxr] at h;exact Qie x t j u _ _ _ _ h
   ·rw[Qxq] at h;exact wpAny_eqBool_str h
 «strs» := λk x t v h=>by
  rcases Yr h with⟨i,u,rfl,e⟩ | ⟨y,u,rfl,e⟩
  ·exact nomatch e
  ·injection e with e1 _
   subst e1;cases v<;>rfl
theorem QiH(prog:Qy)(w:Jc)(i:Int)(t:Tok):(mixKind prog w).is (.inl i) (.int i t)=true:=Qnl i t
theorem QiG(prog:Qy)(w:Jc)(x:Str)(t:Tok):(mixKind prog w).is (.inr x) (.str x t)=true:=Qnk x t
inductive V where
 |non | bl (b:Bool) | int (i:Int) | str (x:Str) | byt (b:Array UInt8) | flt (b:UInt64) | ref (a:Addr) | ty (n:String)
 deriving DecidableEq
def RelV:V->Value->Prop
 |.non,u=>u=Jo
 |.bl b,u=>u=QcR b
 |.int i,u=>∃t,u=Qbc i t
 |.str x,u=>∃t,u=Qkh x t
 |.byt b,u=>∃t,u=Value.bytes b t
 |.flt b,u=>∃t,u=QyO b t
 |.ref a,u=>u=QF a
 |.ty n,u=>u=YO n
abbrev Vals:List V->List Value->Prop:=YY RelV
theorem Vals.length{xs:List V}{us:List Value}(r:Vals xs us):xs.length=us.length:=QdD r
theorem Vals.get:∀{xs:List V}{us:List Value}{i:Nat}{x:V},Vals xs us->xs[i]? = some x->∃u,us[i]? = some u/\RelV x u
 |_,_,_,_,.nil,e=>by simp at e
 |_,_,0,_,.cons r _,e=>by simp at e;subst e;exact⟨_,rfl,r⟩
 |_,_,i+1,x,.cons _ t,e=>by
  obtain⟨u,h1,h2⟩:=Vals.get (i:=i) (x:=x) t (by simpa using e);exact⟨u,by simpa using h1,h2⟩
theorem Vals.set{x:V}{u:Value}(r:RelV x u):∀{xs:List V}{us:List Value}(i:Nat),Vals xs us->Vals (xs.set i x) (us.set i u)
 |_,_,_,.nil=>.nil
 |_,_,0,.cons _ t=>.cons r t
 |_,_,i+1,.cons q t=>.cons q (Vals.set r i t)
theorem Vals.append:∀{xs ys:List V}{us ws:List Value},Vals xs us->Vals ys ws->Vals (xs++ys) (us++ws)
 |_,_,_,_,.nil,s=>s
 |_,_,_,_,.cons r t,s=>.cons r (Vals.append t s)
theorem Vals.take:∀{xs:List V}{us:List Value}(n:Nat),Vals xs us->Vals (xs.take n) (us.take n)
 |_,_,0,_=>.nil
 |_,_,_+1,.nil=>.nil
 |_,_,n+1,.cons r t=>.cons r (Vals.take n t)
theorem Vals.drop:∀{xs:List V}{us:List Value}(n:Nat),Vals xs us->Vals (xs.drop n) (us.drop n)
 |_,_,0,r=>r
 |_,_,_+1,.nil=>.nil
 |_,_,n+1,.cons _ t=>Vals.drop n t
def RelO:Option V->Option Value->Prop
 |some v,some u=>RelV v u
 |none,none=>True
 |_,_=>False
def KV{κ:Type}:List (κ×V)->List (κ×Value)->Prop:=YY λ(p:κ×V)(q:κ×Value)=>p.1=q.1/\RelV p.2 q.2
def kV:Key->V
 |.inl i=>.int i
 |.inr x=>.str x
inductive HO where
 /-- a list -/
 |lst (xs:List V)
 /-- a tuple (never changes) -/
 |tup (xs:List V)
 /-- a dict whose keys are ints and texts;one whose keys are tuples of ints and texts (the empty one is both) -/
 |dK (kvs:List (Key×V)) | dT (kvs:List (List Key×V))
 /-- a set of ints: its members,its size -/
 |set (S:Int->Bool) (n:Nat)
 /-- an instance of the class at C,its dict at dx,its attributes -/
 |ins (C dx:Addr) (fs:List (Str×V))
 /-- the dict of the instance at x -/
 |own (x:Addr)
 /-- the dict of an exception -/
 |xd (fs:List (Str×V))
 /-- a bound method,f of x -/
 |met (f x:Addr)
 /-- a range object lo,lo+1,.. below hi -/
 |rng (lo hi:Int)
 /-- a thing that is known to the object (the script;a dict while a loop walks it): read,never written while it is so -/
 |frz (o:Obj) (u:HO)
 /-- a code object's table -/
 |tbl (ps:Array Value)
 /-- any other thing,by what is true of its one object (a def of one's own: SetO a S n:=HO.ext λh=>..) -/
 |ext (φ:Heap->Prop)
abbrev Hp:=Addr->Option HO
def upd(H:Hp)(a:Addr)(o:HO):Hp:=λb=>if b=a then some o else H b
theorem Jg{H:Hp}{a:Addr}{o:HO}:upd H a o a=some o:=by unfold upd;rw[if_pos rfl]
theorem Jw{H:Hp}{a b:Addr}{o:HO}(h:b≠a):upd H a o b=H b:=by unfold upd;rw[if_neg h]
theorem QiC{H:Hp}{a b:Addr}{o u:HO}(h:H a=some o)(h':H b=some u)(d:o≠u):a≠b:=by
 intro e;subst e;rw[h] at h';exact d (Qx h')
theorem Zl{H:Hp}{a b:Addr}{o:HO}(h:H a=some o)(h':H b=none):a≠b:=by
 intro e;subst e;rw[h] at h';cases h'
def TupN(h:Heap)(a:Addr)(items:Array Value):Prop:=∃o,h.get? a=some o/\o.cls=.type "tuple" /\ o.dict=none/\∃n,o.data=.seq items n
theorem TupN.tup{h:Heap}{a:Addr}{items:Array Value}(x:TupN h a items):IsTup h a items:=let ⟨o,e,c,_,d⟩:=x;⟨o,e,c,d⟩
theorem TupN.lt{h:Heap}{a:Addr}{items:Array Value}(x:TupN h a items):a<h.objs.size:=let ⟨_,e,_⟩:=x;Qk e
theorem TupN.new(h:Heap)(items:Array Value):TupN (h.push { cls:=.type "tuple",data:=.seq items }) h.objs.size items:=⟨_,Qm _ rfl,rfl,rfl,_,rfl⟩
section
variable(P:Qy)(w:Jc)
def ObjOk(H:Hp)(h:Heap)(a:Addr):HO->Prop
 |.lst xs=>xs.length<=sizeLine/\∃(its:List Value)(n:Nat),Vals xs its/\h.get? a=some { cls:=.type "list",data:=.seq its.toArray n }
 |.tup xs=>xs.length<=sizeLine/\∃its:List Value,Vals xs its/\TupN h a its.toArray
 |.dK kvs=>kvs.length<=sizeLine/\(a == sysModules)=false/\∃vs,KV kvs vs/\h.DictOf (mixKind P w) a vs
 |.dT kvs=>kvs.length<=sizeLine/\(a == sysModules)=false/\∃xs:List (List Key×Addr×Value),
   YY (λ(p:List Key×V)(q:List Key×Addr×Value)=>p.1=q.1/\H q.2.1=some (.tup (p.1.map kV))/\RelV p.2 q.2.2) kvs xs /\
   ∃o es ep,h.get? a=some o/\o.ExactDict/\o.data=.dict es ep/\es.toList=xs.map (entryOfKey (tupleKind (mixKind P w)))/\(xs.map (·.1)).Nodup
 |.set S n=>h.SetOf (intKind P w) a S n
 |.ins C dx fs=>H dx=some (.own a)/\fs.length<=1000/\dx≠a/\h.get? a=some (PySem.W.instObj C dx) /\
   ∃mA,h.Ns1 dx mA/\(∀f,RelO (fs.lookup f) (mA f))/\PySem.Within mA (fs.map (·.1))
 |.own _=>∃o,h.get? a=some o
 |.xd fs=>∃mA,h.Ns1 a mA/\∀f,RelO (fs.lookup f) (mA f)
 |.rng lo hi=>∃t u v,h.get? a=some { cls:=.type "range",data:=.fields #[.int lo t,.int hi u,.int 1 v] }
 |.frz o u=>h.get? a=some o/\ObjOk H h a u
 |.tbl ps=>h.get? a=some { cls:=.none,data:=.fields ps }
 |.met f x=>h.get? a=some (PySem.W.methodObj (.ref f) (.ref x))
 |.ext φ=>φ h/\(∃o,h.get? a=some o)/\∀h1 h2:Heap,φ h1->(∀o,h1.get? a=some o->h2.get? a=some o)->φ h2
def HOk(H:Hp)(h:Heap):Prop:=∀a o,H a=some o->ObjOk P w H h a o
end
section
variable{P:Qy}{w:Jc}{H H':Hp}{h h':Heap}{a:Addr}{o:HO}
theorem ObjOk.lt(x:ObjOk P w H h a o):a<h.objs.size:=by
 cases o with
 |lst xs=>obtain⟨_,_,_,_,e⟩:=x;exact Qk e
 |tup xs=>obtain⟨_,_,_,p⟩:=x;exact p.lt
 |dK kvs=>obtain⟨_,_,_,_,o,_,_,e,_⟩:=x;exact Qk e
 |dT kvs=>obtain⟨_,_,_,_,o,_,_,e,_⟩:=x;exact Qk e
 |set S n=>obtain⟨o,_,_,_,e,_⟩:=x;exact Qk e
 |ins C dx fs=>obtain⟨_,_,_,e,_⟩:=x;exact Qk e
 |own y=>obtain⟨_,e⟩:=x;exact Qk e
 |xd fs=>obtain⟨_,⟨_,_,_,e,_⟩,_⟩:=x;exact Qk e
 |rng lo hi=>obtain⟨_,_,_,e⟩:=x;exact Qk e
 |frz ob u=>obtain⟨e,_⟩:=x;exact Qk e
 |tbl ps=>exact Qk (show h.get? a=some _ from x)
 |met f y=>exact Qk (show h.get? a=some _ from x)
 |ext φ=>obtain⟨_,⟨_,e⟩,_⟩:=x;exact Qk e
theorem YY.mapP{α β:Type}{F G:α->β->Prop}:∀{l₁:List α}{l₂:List β},YY F l₁ l₂->(∀a b,F a b->G a b)->YY G l₁ l₂
 |_,_,.nil,_=>.nil
 |_,_,.cons r t,f=>.cons (f _ _ r) (YY.mapP t f)
theorem ObjOk.stay(x:ObjOk P w H h a o)(k:∀b u,(b=a∨H b=some (.own a))->h.get? b=some u->h'.get? b=some u)
  (ho:∀b,H b=some (.own a)->H' b=some (.own a))(ht:∀b xs,H b=some (.tup xs)->H' b=some (.tup xs)):ObjOk P w H' h' a o:=by
 induction o with
 |lst xs=>obtain⟨z,its,n,r,e⟩:=x;exact⟨z,its,n,r,k _ _ (.inl rfl) e⟩
 |tup xs=>obtain⟨z,its,r,ob,e,c⟩:=x;exact⟨z,its,r,ob,k _ _ (.inl rfl) e,c⟩
 |dK kvs=>obtain⟨z,y,vs,r,ob,es,ep,e,c⟩:=x;exact⟨z,y,vs,r,ob,es,ep,k _ _ (.inl rfl) e,c⟩
 |dT kvs=>
  obtain⟨z,y,xs,r,ob,es,ep,e,c⟩:=x;exact⟨z,y,xs,YY.mapP r λp q z=>⟨z.1,ht _ _ z.2.1,z.2.2⟩,ob,es,ep,k _ _ (.inl rfl) e,c⟩
 |set S n=>obtain⟨ob,es,ep,t,e,c⟩:=x;exact⟨ob,es,ep,t,k _ _ (.inl rfl) e,c⟩
 |ins C dx fs=>
  obtain⟨d,z,ne,e,mA,⟨od,es,ep,e2,c⟩,r⟩:=x;exact⟨ho _ d,z,ne,k _ _ (.inl rfl) e,mA,⟨od,es,ep,k _ _ (.inr d) e2,c⟩,r⟩
 |own y=>obtain⟨ob,e⟩:=x;exact⟨ob,k _ _ (.inl rfl) e⟩
 |xd fs=>obtain⟨mA,⟨od,es,ep,e,c⟩,r⟩:=x;exact⟨mA,⟨od,es,ep,k _ _ (.inl rfl) e,c⟩,r⟩
 |rng lo hi=>obtain⟨t,u,v,e⟩:=x;exact⟨t,u,v,k _ _ (.inl rfl) e⟩
 |frz ob u ih=>obtain⟨e,q⟩:=x;exact⟨k _ _ (.inl rfl) e,ih q⟩
 |tbl ps=>
  have e:h.get? a=some { cls:=.none,data:=.fields ps }:=x;show h'.get? a=some { cls:=.none,data:=.fields ps };exact k a _ (.inl rfl) e
 |met f y=>
  have e:h.get? a=some (PySem.W.methodObj (.ref f) (.ref y)):=x;show h'.get? a=some (PySem.W.methodObj (.ref f) (.ref y));exact k a _ (.inl rfl) e
 |ext φ=>obtain⟨p,⟨o,e⟩,st⟩:=x;exact⟨st _ _ p λo q=>k _ _ (.inl rfl) q,⟨o,k _ _ (.inl rfl) e⟩,st⟩
theorem HOk.lt(x:HOk P w H h)(e:H a=some o):a<h.objs.size:=(x a o e).lt
theorem HOk.fresh(x:HOk P w H h)(e:h.objs.size<=a):H a=none:=by
 cases q:H a with
 |none=>rfl
 |some u=>exact absurd (QK (x.lt q) e) (Zu _)
theorem HOk.kept(x:HOk P w H h)(k:∀b u,h.get? b=some u->h'.get? b=some u):HOk P w H h':=λa o e=>
 (x a o e).stay (λb u _ q=>k b u q) (λ_ q=>q) λ_ _ q=>q
theorem HOk.laid(x:HOk P w H h)(k:∀b u,h.get? b=some u->h'.get? b=some u)(hp:h.objs.size<=a)(new:ObjOk P w (upd H a o) h' a o):HOk P w (upd H a o) h':=λb u e=>by
 have hn:=x.fresh hp;by_cases hb:b=a
 ·subst hb;rw[Jg] at e;cases e;exact new
 ·rw[Jw hb] at e;exact(x b u e).stay (λc v _ q=>k c v q) (λc q=>by rw[Jw (Zl q hn)];exact q) λc xs q=>by rw[Jw (Zl q hn)];exact q
end
def Rd(H:Hp)(a:Addr)(u:HO):Prop:=H a=some u∨∃o,H a=some (.frz o u)
theorem Rd.ok{P:Qy}{w:Jc}{H:Hp}{h:Heap}{a:Addr}{u:HO}(r:Rd H a u)(x:HOk P w H h):ObjOk P w H h a u:=by
 rcases r with r | ⟨o,r⟩
 ·exact x a u r
 ·obtain⟨_,q⟩:=x a _ r;exact q
def Mut:Option HO->Prop
 |some (.lst _)=>True
 |some (.dK _)=>True
 |some (.dT _)=>True
 |some (.set _ _)=>True
 |some (.ins _ _ _)=>True
 |some (.ext _)=>True
 |_=>False
section
variable{P:Qy}{w:Jc}{H:Hp}{h h':Heap}{x e:Addr}{o':HO}
theorem HOk.write(ok:HOk P w H h)(mu:Mut (H x))(he:e=x∨H e=some (.own x))(k:∀b u,b≠e->h.get? b=some u->h'.get? b=some u)(heo:∃u,h'.get? e=some u)
  (new:ObjOk P w (upd H x o') h' x o'):HOk P w (upd H x o') h':=λb u q=>by
 have nown:∀c y,H c=some (.own y)->c≠x:=λc y r z=>by subst z;rw[r] at mu;exact mu
 have ntup:∀c xs,H c=some (.tup xs)->c≠x:=λc xs r z=>by subst z;rw[r] at mu;exact mu
 by_cases hb:b=x
 ·subst hb;rw[Jg] at q;cases q;exact new
 ·rw[Jw hb] at q;by_cases hbe:b=e
  ·have q':H b=some (.own x):=by
    rcases he with z | z
    ·exact absurd (hbe.trans z) hb
    ·rw[hbe];exact z
   rw[q] at q';cases q';obtain⟨v,hv⟩:=heo;exact⟨v,by rw[hbe];exact hv⟩
  ·refine(ok b u q).stay (λc v hc r=>k c v ?_ r) (λc r=>by rw[Jw (nown c b r)];exact r) λc xs r=>by rw[Jw (ntup c xs r)];exact r
   rcases hc with rfl | hc
   ·exact hbe
   ·rintro rfl;rcases he with z | z
    ·exact nown c b hc z
    ·rw[hc] at z;cases z;exact hb rfl
end
structure Un (fs ex:List Addr) (H H':Hp) (h h':Heap):Prop where
 keep:∀b o,h.get? b=some o->H b=none->b∉fs->b∉ex->h'.get? b=some o
 slot:∀b o,h.get? b=some o->H b=none->b∈fs->b∉ex->∃sl,h'.get? b=some { o with slots:=sl }
 free:∀b o,h.get? b=some o->H b=none->b∉ex->H' b=none
 there:∀b o,h.get? b=some o->b∉ex->∃o',h'.get? b=some o'
 tups:∀b xs,H b=some (.tup xs)->H' b=some (.tup xs)
 frzs:∀b o u,H b=some (.frz o u)->H' b=some (.frz o u)
 tbls:∀b ps,H b=some (.tbl ps)->∃more,H' b=some (.tbl (ps++more))
section
variable{fs fs' ex ex':List Addr}{H H1 H2:Hp}{h h1 h2 h':Heap}{a x e:Addr}{o:HO}
theorem Un.any(u:Un fs ex H H1 h h1){b:Addr}{ob:Obj}(q:h.get? b=some ob)(n:H b=none)(hx:b∉ex):∃sl,h1.get? b=some { ob with slots:=sl }:=by
 by_cases hb:b∈fs
 ·exact u.slot b ob q n hb hx
 ·exact⟨ob.slots,u.keep b ob q n hb hx⟩
theorem Un.kept(k:∀b u,h.get? b=some u->h'.get? b=some u):Un fs ex H H h h':=
 ⟨λb ob q _ _ _=>k b ob q,λb ob q _ _ _=>⟨ob.slots,k b ob q⟩,λ_ _ _ n _=>n,λb ob q _=>⟨ob,k b ob q⟩,λ_ _ q=>q,λ_ _ _ q=>q,λ_ ps q=>⟨#[],by rw[q];simp⟩⟩
theorem Un.refl:Un fs ex H H h h:=Un.kept λ_ _ q=>q
theorem Un.laid(k:∀b u,h.get? b=some u->h'.get? b=some u)(hp:h.objs.size<=a)(hn:H a=none):Un fs ex H (upd H a o) h h' where
 keep:=λb u q _ _ _=>k b u q
 slot:=λb u q _ _ _=>⟨u.slots,k b u q⟩
 free:=λb u q n _=>by rw[Jw (Qv (QK (Qk q) hp))];exact n
 there:=λb u q _=>⟨u,k b u q⟩
 tups:=λb xs q=>by rw[Jw (Zl q hn)];exact q
 frzs:=λb u xs q=>by rw[Jw (Zl q hn)];exact q
 tbls:=λb ps q=>⟨#[],by rw[Jw (Zl q hn),q];simp⟩
theorem Un.write(mu:Mut (H x))(he:e=x∨H e=some (.own x))(k:∀b u,b≠e->h.get? b=some u->h'.get? b=some u)(heo:∃u,h'.get? e=some u):Un fs ex H (upd H x o) h h':=by
 have hx:∀b,H b=none->b≠x:=λb n z=>by subst z;rw[n] at mu;exact mu
 have hb:∀b,H b=none->b≠e:=λb n z=>by
  subst z;rcases he with r | r
  ·exact hx b n r
  ·rw[n] at r;cases r
 have hm:∀b u,H b=some u->¬Mut (some u)->b≠x:=λb u q nm z=>by subst z;rw[q] at mu;exact nm mu
 refine⟨λb u q n _ _=>k b u (hb b n) q,λb u q n _ _=>⟨u.slots,k b u (hb b n) q⟩,λb u q n _=>by rw[Jw (hx b n)];exact n,λb u q _=>?_,
  λb xs q=>by rw[Jw (hm b _ q λz=>z)];exact q,λb u xs q=>by rw[Jw (hm b _ q λz=>z)];exact q,λb ps q=>⟨#[],by rw[Jw (hm b _ q λz=>z),q];simp⟩⟩
 by_cases hbe:b=e
 ·subst hbe;exact heo
 ·exact⟨u,k b u hbe q⟩
end
def trk(h:Heap)(H:Hp):List Addr:=(Qf h.objs.size).filter λa=>(H a).isSome
def Qp0(h:Heap)(H:Hp):Heap:=PySem.W.hideAll h (trk h H)
theorem Qns(h:Heap)(H:Hp):(Qp0 h H).objs.size=h.objs.size:=PySem.W.hideAll_size _ _
theorem QpZ{h:Heap}{H:Hp}{b:Addr}{o:Obj}(e:h.get? b=some o)(n:H b=none):(Qp0 h H).get? b=some o:=
 PySem.W.hideAll_get _ e λhm=>by
  have q:(H b).isSome=true:=(JB.mp hm).2;rw[n] at q;simp at q
theorem Quv{h:Heap}{H:Hp}{b:Addr}{o:Obj}(e:(Qp0 h H).get? b=some o):h.get? b=some o/\H b=none:=by
 have e':h.get? b=some o:=PySem.W.of_hideAll (trk h H) e;refine⟨e',?_⟩;cases q:H b with
 |none=>rfl
 |some x=>
  have hm:b∈trk h H:=JB.mpr ⟨Qz.mpr (Qk e'),by simp[q]⟩;have z:(Qp0 h H).get? b=none:=PySem.W.hideAll_none (trk h H) hm;rw[z] at e;cases e
def Qvo(g h:Heap)(L:Addr):List (Addr×Obj):=(Qf h.objs.size).filterMap λa=>if a=L∨(g.get? a).isSome=true then none else(h.get? a).map λo=>(a,o)
def rest(g h:Heap)(L d:Addr):List (Addr×Obj):=(Qvo g h L).filter λp=>decide (p.1≠d)
structure Mod (K:PySem.W.Frag) (mg:Str->Option Value) (base:Heap):Prop where
 kin:K.In base
 glob:base.Ns mainGlobals mg
 blt:∃mb,base.Ns builtinsNs mb/\∀x:Str,x ≠ "__name__" -> mb x=bootBuiltins x
 nolimit:base.NoLimit
structure Cx where
 prog:Qy
 w:Jc
 K:PySem.W.Frag
 mg:Str->Option Value
 base:Heap
 A:Jb
 N:List Str
 s₀:Shared
 H₀:Hp
 env:Env
 outer:List Env
 stack:List Env
 ex:List Addr
 fn:Str->Bool
 calm:Bool
 pn:List (Addr×Obj)
 xe:Value->Shared->Prop
def frs(l:List Env):List Addr:=l.filterMap (·.frame)
abbrev Cx.fs (X:Cx):List Addr:=frs X.outer
def Vis(sc:YA)(x:Str):Prop:=sc.names.lookup x=some .local∨sc.names.lookup x=some .cell∨sc.names.lookup x=some .free
def Loc(sc:YA)(x:Str):Prop:=sc.names.lookup x=some .local∨sc.names.lookup x=some .cell
def Look(env:Env)(h:Heap)(m:Str->Option Value)(x:Str)(u:Value):Prop:=
 (env.kindOf x=some .local/\m x=some u)∨((env.kindOf x=some .cell∨env.kindOf x=some .free)/\∃c,env.cells.lookup x=some c/\h.IsCell c (some u))
structure Cx.Ok (X:Cx):Prop where
 mod:Mod X.K X.mg X.base
 kind:X.env.scope.kind=.function
 glob:X.env.globals=mainGlobals
 blt:X.env.builtins=builtinsNs
 above:X.s₀.heap.objs.size<=X.env.locals
 inj:∀x y c,X.env.cells.lookup x=some c->X.env.cells.lookup y=some c->x=y
 has:∀x,(X.env.kindOf x=some .cell∨X.env.kindOf x=some .free)->∃c,X.env.cells.lookup x=some c
 cab:∀x c,X.fn x=true->X.env.cells.lookup x=some c->X.s₀.heap.objs.size<=c
 hd:X.calm=true->X.A.handled=none
 frames:X.A.frames=some X.stack
 stk:X.stack=X.outer∨(X.stack=X.env::X.outer/\X.env.frame=some X.env.locals)
 exf:∀b∈X.ex,b≠X.env.locals/\∀x c,X.env.cells.lookup x=some c->c≠b
 bs:∀b o,X.base.get? b=some o->X.s₀.heap.get? b=some o/\X.H₀ b=none
 bsz:X.base.objs.size<=X.s₀.heap.objs.size
 noex:∀b o,X.base.get? b=some o->b∉X.ex
 exfs:∀b∈X.ex,b∉X.fs
 funs:X.s₀.heap.FunFrames X.base X.outer
 frf:∀b∈X.fs,X.H₀ b=none
structure Inv (X:Cx) (pins:List (Addr×Obj)) (σ:List (Option V)) (H:Hp) (s:Shared):Prop where
 ok:X.Ok
 os:s.os=X.s₀.os
 bare:Qe0 s.gens
 base:Un X.fs X.ex X.H₀ H X.s₀.heap s.heap
 loc:∃m,s.heap.Ns X.env.locals m/\∀(i:Nat)(x:Str)(v:V),X.N[i]? = some x->σ[i]? = some (some v)->Vis X.env.scope x->∃u,RelV v u/\Look X.env s.heap m x u
 cell:∀x c,X.env.cells.lookup x=some c->∃v,s.heap.IsCell c v
 free:H X.env.locals=none
 freeC:∀x c,X.env.cells.lookup x=some c->H c=none
 pin:∀p∈X.pn++pins,s.heap.get? p.1=some p.2/\H p.1=none/\p.1≠X.env.locals/\p.1∉X.fs/\∀v,p.2.data≠.cell v
 hok:HOk X.prog X.w H s.heap
 len:σ.length=X.N.length
section
variable{X:Cx}{pins:List (Addr×Obj)}{σ:List (Option V)}{H H':Hp}{s:Shared}{h':Heap}
theorem Cx.Ok.nofr(ok:X.Ok){b:Addr}{o:Obj}(e:X.base.get? b=some o):b∉X.fs:=λhb=>by
 have:=(ok.funs.mem hb).1;rw[e] at this;cases this
theorem Inv.bs(I:Inv X pins σ H s):∀b o,X.base.get? b=some o->s.heap.get? b=some o/\H b=none:=λb o e=>
 ⟨I.base.keep b o (I.ok.bs b o e).1 (I.ok.bs b o e).2 (I.ok.nofr e) (I.ok.noex b o e),I.base.free b o (I.ok.bs b o e).1 (I.ok.bs b o e).2 (I.ok.noex b o e)⟩
theorem Inv.bk(I:Inv X pins σ H s):∀b o,X.base.get? b=some o->s.heap.get? b=some o:=λb o e=>(I.bs b o e).1
theorem Inv.mod(I:Inv X pins σ H s):Mod X.K X.mg X.base:=I.ok.mod
theorem Inv.kIn(I:Inv X pins σ H s):X.K.In s.heap:=I.ok.mod.kin.keeps I.bk
theorem Inv.fr(I:Inv X pins σ H s):∃m,Fr X.base X.env.locals s.heap m:=
 let ⟨m,hn,_⟩:=I.loc
 ⟨m,hn,I.bk,QY I.ok.bsz I.ok.above⟩
theorem Inv.lt(I:Inv X pins σ H s):X.env.locals<s.heap.objs.size:=let ⟨_,hn,_⟩:=I.loc;hn.lt
theorem Inv.sz(I:Inv X pins σ H s):X.s₀.heap.objs.size<=s.heap.objs.size:=QY I.ok.above (ZJ I.lt)
theorem Inv.nofs(I:Inv X pins σ H s){a:Addr}(h:s.heap.objs.size<=a):a∉X.fs:=λhb=>by
 obtain⟨_,o,ho,_⟩:=I.ok.funs.mem hb;exact absurd (QK (Qk ho) (QY I.sz h)) (Zu _)
theorem Inv.cne(I:Inv X pins σ H s):∀x c,X.env.cells.lookup x=some c->c≠X.env.locals:=λx c e z=>by
 obtain⟨v,o,ho,hd⟩:=I.cell x c e;obtain⟨m,⟨o',es,ep,ho',hd',_⟩,_⟩:=I.loc;rw[z,ho'] at ho;cases ho;rw[hd'] at hd;cases hd
theorem Inv.funs(I:Inv X pins σ H s):s.heap.FunFrames X.base X.outer:=by
 have all:∀(l:List Env),(∀b∈frs l,b∈X.fs)->X.s₀.heap.FunFrames X.base l->s.heap.FunFrames X.base l:=by
  intro l;induction l with
  |nil=>intro _ _;trivial
  |cons env r ih=>
   intro hs hl;obtain⟨hk,⟨L,o,hf,hn,ho,hd⟩,hr⟩:=hl;have hL:L∈X.fs:=hs L (by unfold frs;rw[Z4,hf];exact JC);obtain⟨sl,e⟩:=I.base.slot L o ho (I.ok.frf L hL) hL λz=>I.ok.exfs L z hL
   exact⟨hk,⟨L,_,hf,hn,e,hd⟩,ih (λb hb=>hs b (by unfold frs;rw[Z4,hf];exact QX _ hb)) hr⟩
 exact all X.outer (λ_ hb=>hb) I.ok.funs
theorem Inv.stack(I:Inv X pins σ H s):s.heap.FunFrames X.base X.stack:=by
 rcases I.ok.stk with e | ⟨e,hf⟩
 ·rw[e];exact I.funs
 ·rw[e];obtain⟨m,hn,_⟩:=I.loc;refine .cons (by rw[I.ok.kind];decide) hf hn ?_ I.funs
  exact Heap.get?_none_of_le (QY I.ok.bsz I.ok.above)
theorem Inv.stkSub(I:Inv X pins σ H s):∀b∈frs X.stack,b∈X.env.locals::X.fs:=λb hb=>by
 rcases I.ok.stk with e | ⟨e,hf⟩
 ·rw[e] at hb;exact QX _ hb
 ·rw[e] at hb;unfold frs at hb;rw[Z4,hf] at hb;exact hb
theorem Inv.stkFree(I:Inv X pins σ H s):∀b∈frs X.stack,H b=none:=λb hb=>by
 rcases Qu.mp (I.stkSub b hb) with e | hb
 ·rw[e];exact I.free
 ·obtain⟨_,o,ho,_⟩:=I.ok.funs.mem hb;exact I.base.free b o ho (I.ok.frf b hb) λz=>I.ok.exfs b z hb
theorem Inv.step{g':Array GenState}{t':Nat}{d':Drawn}{ch:List Addr}(I:Inv X pins σ H s)
  (hch:∀b∈ch,(b∈X.ex∨X.s₀.heap.objs.size<=b)/\b≠X.env.locals/\(∀x c,X.env.cells.lookup x=some c->c≠b)/\∀p∈X.pn++pins,p.1≠b)
  (keep:∀b o,b≠X.env.locals->b∉X.fs->b∉ch->s.heap.get? b=some o->H b=none->h'.get? b=some o)
  (slot:∀b o,b≠X.env.locals->b∈X.fs->b∉ch->s.heap.get? b=some o->H b=none->∃sl,h'.get? b=some { o with slots:=sl })(free:∀b o,b∉ch->s.heap.get? b=some o->H b=none->H' b=none)
  (there:∀b o,b∉ch->s.heap.get? b=some o->∃o',h'.get? b=some o')
  (tups:∀b xs,H b=some (.tup xs)->H' b=some (.tup xs))(frzs:∀b o u,H b=some (.frz o u)->H' b=some (.frz o u))(tbls:∀b ps,H b=some (.tbl ps)->∃more,H' b=some (.tbl (ps++more)))
  (ns:∀m,s.heap.Ns X.env.locals m->h'.Ns X.env.locals m)(hok:HOk X.prog X.w H' h')(hg:Qe0 g') :
  Inv X pins σ H' { s with heap:=h',gens:=g',drawn:=d',toks:=t' }:=by
 have neL:∀b o,X.s₀.heap.get? b=some o->b≠X.env.locals:=λb o e=>Qv (QK (Qk e) I.ok.above)
 have neC:∀b o,X.s₀.heap.get? b=some o->b∉X.ex->b∉ch:=λb o e hx hb=>by
  rcases(hch b hb).1 with z | z
  ·exact hx z
  ·exact absurd (QK (Qk e) z) (Zu _)
 have cellK:∀x c,X.env.cells.lookup x=some c->∀v,s.heap.IsCell c v->h'.IsCell c v:=λx c e v ⟨o,ho,hd⟩=>by
  have nch:c∉ch:=λz=>(hch c z).2.2.1 x c e rfl
  by_cases hc:c∈X.fs
  ·obtain⟨sl,q⟩:=slot c o (I.cne x c e) hc nch ho (I.freeC x c e);exact⟨_,q,hd⟩
  ·exact⟨o,keep c o (I.cne x c e) hc nch ho (I.freeC x c e),hd⟩
 refine⟨I.ok,I.os,hg,⟨λb o e n hb hx=>?_,λb o e n hb hx=>?_,λb o e n hx=>?_,λb o e hx=>?_,λb xs e=>tups b xs (I.base.tups b xs e),λb o xs e=>frzs b o xs (I.base.frzs b o xs e),λb ps e=>?_⟩,?_,λx c e=>?_,?_,λx c e=>?_,λp hp=>?_,hok,I.len⟩
 ·exact keep b o (neL b o e) hb (neC b o e hx) (I.base.keep b o e n hb hx) (I.base.free b o e n hx)
 ·obtain⟨sl,e1⟩:=I.base.slot b o e n hb hx;obtain⟨sl',e2⟩:=slot b _ (neL b o e) hb (neC b o e hx) e1 (I.base.free b o e n hx);exact⟨sl',e2⟩
 ·obtain⟨o',e1⟩:=I.base.there b o e hx;exact free b o' (neC b o e hx) e1 (I.base.free b o e n hx)
 ·obtain⟨o',e1⟩:=I.base.there b o e hx;exact there b o' (neC b o e hx) e1
 ·obtain⟨m1,e1⟩:=I.base.tbls b ps e;obtain⟨m2,e2⟩:=tbls b _ e1;exact⟨m1++m2,by rw[e2,Array.append_assoc]⟩
 ·obtain⟨m,hn,hl⟩:=I.loc;refine⟨m,ns m hn,λi x v e1 e2 e3=>?_⟩;obtain⟨u,r,l⟩:=hl i x v e1 e2 e3;refine⟨u,r,?_⟩;rcases l with l | ⟨k,c,e,z⟩
  ·exact .inl l
  ·exact .inr ⟨k,c,e,cellK x c e _ z⟩
 ·obtain⟨v,z⟩:=I.cell x c e;exact⟨v,cellK x c e v z⟩
 ·obtain⟨m,⟨o,_,_,ho,_⟩,_⟩:=I.loc;exact free _ o (λz=>(hch _ z).2.1 rfl) ho I.free
 ·obtain⟨v,o,ho,hd⟩:=I.cell x c e;exact free c o (λz=>(hch c z).2.2.1 x c e rfl) ho (I.freeC x c e)
 ·obtain⟨e,n,ne,nf,d⟩:=I.pin p hp;have nch:p.1∉ch:=λz=>(hch p.1 z).2.2.2 p hp rfl
  exact⟨keep p.1 p.2 ne nf nch e n,free p.1 p.2 nch e n,ne,nf,d⟩
theorem Inv.un{t':Nat}(I:Inv X pins σ H s)(u:Un X.fs [] H H' s.heap h')(hok:HOk X.prog X.w H' h'):Inv X pins σ H' { s with heap:=h',toks:=t' }:=by
 obtain⟨m,⟨o,es,ep,ho,r⟩,_⟩:=id I.loc;obtain⟨sl,hL⟩:=u.any ho I.free (by simp);exact I.step (g':=s.gens) (d':=s.drawn) (ch:=[]) (λ_ z=>nomatch z) (λb o _ hb _ e n=>u.keep b o e n hb (by simp)) (λb o _ hb _ e n=>u.slot b o e n hb (by simp)) (λb o _ e n=>u.free b o e n (by simp)) (λb o _ e=>u.there b o e (by simp)) u.tups u.frzs u.tbls (λm' hm=>by
  obtain⟨o',es',ep',ho',r'⟩:=hm;rw[ho] at ho';cases ho';exact⟨_,es',ep',hL,r'⟩) hok I.bare
theorem Inv.call{g':Array GenState}{t':Nat}{d':Drawn}{ch:List Addr}(I:Inv X pins σ H s)(u:Un (frs X.stack) ch H H' s.heap h')(hok:HOk X.prog X.w H' h')(hg:Qe0 g')
  (hch:∀b∈ch,(b∈X.ex∨X.s₀.heap.objs.size<=b)/\b≠X.env.locals/\(∀x c,X.env.cells.lookup x=some c->c≠b)/\∀p∈X.pn++pins,p.1≠b) :
  Inv X pins σ H' { s with heap:=h',gens:=g',drawn:=d',toks:=t' }:=by
 obtain⟨m,⟨o,es,ep,ho,r⟩,_⟩:=id I.loc;obtain⟨sl,hL⟩:=u.any ho I.free λz=>(hch _ z).2.1 rfl
 exact I.step (ch:=ch) hch (λb o hL hb hc e n=>u.keep b o e n (λz=>(Qu.mp (I.stkSub b z)).elim hL hb) hc) (λb o _ _ hc e n=>u.any e n hc) (λb o hc e n=>u.free b o e n hc) (λb o hc e=>u.there b o e hc) u.tups u.frzs u.tbls (λm' hm=>by
  obtain⟨o',es',ep',ho',r'⟩:=hm;rw[ho] at ho';cases ho';exact⟨_,es',ep',hL,r'⟩) hok hg
theorem Inv.turned{t':Nat}{it:Addr}(I:Inv X pins σ H s)(k:∀b o,b≠it->s.heap.get? b=some o->h'.get? b=some o)(hn:H it=none)(hL:it≠X.env.locals)
  (h1:it∈X.ex∨X.s₀.heap.objs.size<=it)(h2:∀x c,X.env.cells.lookup x=some c->c≠it)(h3:∀p∈X.pn++pins,p.1≠it):Inv X pins σ H { s with heap:=h',toks:=t' }:=by
 have nit:∀b u,H b=some u->b≠it:=λb u e z=>by rw[z,hn] at e;cases e
 refine I.step (g':=s.gens) (d':=s.drawn) (ch:=[it]) (λb hb=>?_) (λb o _ _ hc e _=>k b o (λz=>hc (by simp[z])) e) (λb o _ _ hc e _=>⟨o.slots,k b o (λz=>hc (by simp[z])) e⟩) (λ_ _ _ _ n=>n)
  (λb o hc e=>⟨o,k b o (λz=>hc (by simp[z])) e⟩) (λ_ _ e=>e) (λ_ _ _ e=>e) (λb ps e=>⟨#[],by rw[e];simp⟩) (λm hm=>?_) (λb u e=>?_) I.bare
 ·have e:b=it:=by simpa using hb
  subst e;exact⟨h1,hL,h2,h3⟩
 ·obtain⟨o,es,ep,ho,r⟩:=hm;exact⟨o,es,ep,k _ o (QaB hL) ho,r⟩
 ·refine(I.hok b u e).stay (λc v hc q=>k c v ?_ q) (λ_ q=>q) λ_ _ q=>q
  rcases hc with z | z
  ·rw[z];exact nit b u e
  ·exact nit c _ z
theorem Inv.tok(I:Inv X pins σ H s)(t:Nat):Inv X pins σ H { s with toks:=t }:=I.un (h':=s.heap) (t':=t) Un.refl I.hok
theorem Inv.kept{t':Nat}(I:Inv X pins σ H s)(k:∀b u,s.heap.get? b=some u->h'.get? b=some u):Inv X pins σ H { s with heap:=h',toks:=t' }:=I.un (Un.kept k) (I.hok.kept k)
theorem Inv.laid{a:Addr}{o:HO}{t':Nat}(I:Inv X pins σ H s)(k:∀b u,s.heap.get? b=some u->h'.get? b=some u)(hp:s.heap.objs.size<=a)(new:ObjOk X.prog X.w (upd H a o) h' a o) :
  Inv X pins σ (upd H a o) { s with heap:=h',toks:=t' }:=I.un (Un.laid k hp (I.hok.fresh hp)) (I.hok.laid k hp new)
theorem Inv.write{x e:Addr}{o:HO}{t':Nat}(I:Inv X pins σ H s)(mu:Mut (H x))(he:e=x∨H e=some (.own x))(k:∀b u,b≠e->s.heap.get? b=some u->h'.get? b=some u)(heo:∃u,h'.get? e=some u)
  (new:ObjOk X.prog X.w (upd H x o) h' x o):Inv X pins σ (upd H x o) { s with heap:=h',toks:=t' }:=I.un (Un.write mu he k heo) (I.hok.write mu he k heo new)
theorem Inv.weak{σ':List (Option V)}(I:Inv X pins σ H s)(hl:σ'.length=σ.length)(w:∀(i:Nat) v,σ'[i]? = some (some v)->σ[i]? = some (some v)):Inv X pins σ' H s:=
 ⟨I.ok,I.os,I.bare,I.base,let ⟨m,hn,hl'⟩:=I.loc;⟨m,hn,λi x v e1 e2 e3=>hl' i x v e1 (w i v e2) e3⟩,I.cell,I.free,I.freeC,I.pin,I.hok,hl.trans I.len⟩
theorem Inv.pins_of{pins':List (Addr×Obj)}(I:Inv X pins σ H s)(h:∀p∈pins',s.heap.get? p.1=some p.2/\H p.1=none/\p.1≠X.env.locals/\p.1∉X.fs/\∀v,p.2.data≠.cell v):Inv X pins' σ H s:=
 ⟨I.ok,I.os,I.bare,I.base,I.loc,I.cell,I.free,I.freeC,λp hp=>(JM.mp hp).elim (λz=>I.pin p (Y6 _ z)) (h p),I.hok,I.len⟩
theorem QjJ{N:List Str}(hN:N.Nodup){i j:Nat}{x:Str}(a:N[i]? = some x)(b:N[j]? = some x):i=j:=by
 obtain⟨h1,e1⟩:=QU.mp a;obtain⟨h2,e2⟩:=QU.mp b;exact(List.getElem_inj hN).mp (e1.trans e2.symm)
theorem Qg6{M:QvN}{A:Jb}{E:Value->Shared->Prop}{i:Nat}{x:Str}{v:V}{u:Value}{Q:Unit->Shared->Prop}(I:Inv X pins σ H s)(hN:X.N.Nodup)(hi:X.N[i]? = some x)(hx:Loc X.env.scope x)(r:RelV v u)
  (h:∀s',Inv X pins (σ.set i (some v)) H s'->(∃a,ZH a s.heap s'.heap/\(a=X.env.locals∨X.env.cells.lookup x=some a))->Q () s')(hf:X.fn x=true∨X.env.scope.names.lookup x=some .local:=by first | exact .inl rfl | exact .inr rfl | assumption):wpAny M A (storeName X.env x u) Q E s:=by
 obtain⟨m,hn,hl⟩:=id I.loc;have hcls:(X.env.scope.kind == .class||(X.env.scope.kind == .module&&X.env.locals != X.env.globals))=false:=by rw[I.ok.kind];rfl
 have hiσ:i < σ.length:=by rw[I.len];exact(QU.mp hi).1
 have cne:=I.cne;have tracked:∀{a:Addr}{h':Heap},(∃o,s.heap.get? a=some o/\H a=none)->ZH a s.heap h'->HOk X.prog X.w H h':=λ{a h'} ha hs b ob e=>by
  obtain⟨_,_,hfree⟩:=ha;refine(I.hok b ob e).stay (λc w' hc q=>(hs.2 c ?_).trans q) (λ_ q=>q) λ_ _ q=>q
  rintro rfl;rcases hc with rfl | hc
  ·rw[hfree] at e;cases e
  ·rw[hfree] at hc;cases hc
 rcases hx with hk | hk
 ·refine wpAny_storeName_local hk hn (λh' hn' hs=>?_) hcls;obtain⟨oL,_,_,hoL,_⟩:=id hn;refine h _ ⟨I.ok,I.os,I.bare,⟨λb o e n hb hx=>?_,λb o e n hb hx=>?_,I.base.free,λb o e hx=>?_,I.base.tups,I.base.frzs,I.base.tbls⟩,⟨_,hn',λj y v' e1 e2 e3=>?_⟩,λy c e=>?_,I.free,I.freeC,λp hp=>?_,tracked ⟨oL,hoL,I.free⟩ hs,by simpa using I.len⟩ ⟨_,hs,.inl rfl⟩
  ·exact(hs.2 b (Qv (QK (Qk e) I.ok.above))).trans (I.base.keep b o e n hb hx)
  ·obtain⟨sl,e1⟩:=I.base.slot b o e n hb hx;exact⟨sl,(hs.2 b (Qv (QK (Qk e) I.ok.above))).trans e1⟩
  ·obtain⟨o',e1⟩:=I.base.there b o e hx;exact⟨o',(hs.2 b (Qv (QK (Qk e) I.ok.above))).trans e1⟩
  ·by_cases hj:j=i
   ·subst hj;rw[hi] at e1;cases e1;rw[Zz hiσ] at e2;cases e2;exact⟨u,r,.inl ⟨hk,by simp⟩⟩
   ·rw[Qdg (QaB hj)] at e2;obtain⟨u',r',q⟩:=hl j y v' e1 e2 e3;refine⟨u',r',?_⟩;rcases q with⟨k,e⟩ | ⟨k,c,e,z⟩
    ·refine .inl ⟨k,?_⟩;have:y≠x:=λe=>hj (QjJ hN e1 (e ▸ hi))
     simp[this,e]
    ·exact .inr ⟨k,c,e,z.sameBut hs (cne y c e)⟩
  ·obtain⟨w',z⟩:=I.cell y c e;exact⟨w',z.sameBut hs (cne y c e)⟩
  ·obtain⟨e,n,ne,nf,d⟩:=I.pin p hp;exact⟨(hs.2 p.1 ne).trans e,n,ne,nf,d⟩
 ·have hfn:X.fn x=true:=by
   rcases hf with z | z
   ·exact z
   ·rw[z] at hk;cases hk
  obtain⟨c,hc⟩:=I.ok.has x (.inl hk);obtain⟨w',z⟩:=I.cell x c hc;refine wpAny_storeName_cell I.ok.kind hk hc z (λh' hc' hs=>?_);obtain⟨oc,hoc,hocd⟩:=id z;refine h { s with heap:=h' } ⟨I.ok,I.os,I.bare,⟨λb o e n hb hx=>?_,λb o e n hb hx=>?_,I.base.free,λb o e hx=>?_,I.base.tups,I.base.frzs,I.base.tbls⟩,⟨m,hn.sameBut hs (QaB (cne x c hc)),λj y v' e1 e2 e3=>?_⟩,λy c' e=>?_,I.free,I.freeC,λp hp=>?_,tracked ⟨oc,hoc,I.freeC x c hc⟩ hs,by simpa using I.len⟩ ⟨c,hs,.inr hc⟩
  ·exact(hs.2 b (Qv (QK (Qk e) (I.ok.cab x c hfn hc)))).trans (I.base.keep b o e n hb hx)
  ·obtain⟨sl,e1⟩:=I.base.slot b o e n hb hx;exact⟨sl,(hs.2 b (Qv (QK (Qk e) (I.ok.cab x c hfn hc)))).trans e1⟩
  ·obtain⟨o',e1⟩:=I.base.there b o e hx;exact⟨o',(hs.2 b (Qv (QK (Qk e) (I.ok.cab x c hfn hc)))).trans e1⟩
  ·by_cases hj:j=i
   ·subst hj;rw[hi] at e1;cases e1;rw[Zz hiσ] at e2;cases e2;exact⟨u,r,.inr ⟨.inl hk,c,hc,hc'⟩⟩
   ·rw[Qdg (QaB hj)] at e2;obtain⟨u',r',q⟩:=hl j y v' e1 e2 e3;refine⟨u',r',?_⟩;rcases q with q | ⟨k,c',e,z'⟩
    ·exact .inl q
    ·refine .inr ⟨k,c',e,z'.sameBut hs ?_⟩;rintro rfl;exact hj (QjJ hN e1 (I.ok.inj _ _ _ e hc ▸ hi))
  ·by_cases hcc:c'=c
   ·subst hcc;exact⟨_,hc'⟩
   ·obtain⟨w2,z2⟩:=I.cell y c' e;exact⟨w2,z2.sameBut hs hcc⟩
  ·obtain⟨e,n,ne,nf,d⟩:=I.pin p hp;refine⟨(hs.2 p.1 ?_).trans e,n,ne,nf,d⟩;intro q;rw[q,hoc] at e;have q':oc=p.2:=Qx e;exact d w' (by rw[<- q'];exact hocd)
theorem Qd3{M:QvN}{A:Jb}{E:Value->Shared->Prop}{i:Nat}{x:Str}{v:V}{u:Value}{Q:Unit->Shared->Prop}(I:Inv X pins σ H s)(hN:X.N.Nodup)(hi:X.N[i]? = some x)(hx:Loc X.env.scope x)(r:RelV v u)
  (h:∀s',Inv X pins (σ.set i (some v)) H s'->Q () s')(hf:X.fn x=true∨X.env.scope.names.lookup x=some .local:=by first | exact .inl rfl | exact .inr rfl | assumption):wpAny M A (storeName X.env x u) Q E s:=
 Qg6 I hN hi hx r (λs' I' _=>h s' I') hf
theorem Inv.call'{s':Shared}{ch:List Addr}(I:Inv X pins σ H s)(ho:s'.os=s.os)(u:Un (frs X.stack) ch H H' s.heap s'.heap)(hok:HOk X.prog X.w H' s'.heap)(hg:Qe0 s'.gens)
  (hch:∀b∈ch,(b∈X.ex∨X.s₀.heap.objs.size<=b)/\b≠X.env.locals/\(∀x c,X.env.cells.lookup x=some c->c≠b)/\∀p∈X.pn++pins,p.1≠b):Inv X pins σ H' s':=by
 obtain⟨h',g',d',t',o'⟩:=s';have e:o'=s.os:=ho;subst e;exact I.call (g':=g') (t':=t') (d':=d') u hok hg hch
end
abbrev XK:=Value->Option Addr->Hp->Prop
abbrev St:=List (Option V)
abbrev VK:=V->Hp->Prop
abbrev TE:=St->Hp->VK->Prop
abbrev TT:=St->Hp->(Bool->Hp->Prop)->Prop
abbrev TA:=St->Hp->(List V->Hp->Prop)->Prop
structure Ends where
 nx:St->Hp->Prop
 rt:VK
 bk:St->Hp->Prop:=λ_ _=>False
 ct:St->Hp->Prop:=λ_ _=>False
abbrev TS:=Ends->St->Hp->Prop
def EP(X:Cx)(pins:List (Addr×Obj))(σ:St)(Q:VK)(u:Value)(s':Shared):Prop:=∃v H',Inv X pins σ H' s'/\RelV v u/\Q v H'
def TP(X:Cx)(pins:List (Addr×Obj))(σ:St)(Q:Bool->Hp->Prop)(b:Bool)(s':Shared):Prop:=∃H',Inv X pins σ H' s'/\Q b H'
def AP(X:Cx)(pins:List (Addr×Obj))(σ:St)(Q:List V->Hp->Prop)(us:List Value)(s':Shared):Prop:=∃vs H',Inv X pins σ H' s'/\Vals vs us/\Q vs H'
def SP(X:Cx)(pins:List (Addr×Obj))(D:Ends)(f:Flow)(s':Shared):Prop:=
 match f with
 |.next=>∃σ' H',Inv X pins σ' H' s'/\D.nx σ' H'
 |.brk=>∃σ' H',Inv X pins σ' H' s'/\D.bk σ' H'
 |.cont=>∃σ' H',Inv X pins σ' H' s'/\D.ct σ' H'
 |.ret u=>∃v σ' H',Inv X pins σ' H' s'/\RelV v u/\D.rt v H'
def PE(X:Cx)(e:Q0)(t:TE):Prop:=
 ∀(pins:List (Addr×Obj))(s:Shared)(σ:St)(H:Hp)(Q:VK),Inv X pins σ H s->t σ H Q->wpAny (model X.prog X.w) X.A (eval e X.env) (EP X pins σ Q) X.xe s
def PT(X:Cx)(e:Q0)(t:TT):Prop:=
 ∀(pins:List (Addr×Obj))(s:Shared)(σ:St)(H:Hp)(Q:Bool->Hp->Prop),Inv X pins σ H s->t σ H Q->wpAny (model X.prog X.w) X.A (isTrue e X.env (eval e X.env)) (TP X pins σ Q) X.xe s
def PW(X:Cx)(e:Q0)(t:TT):Prop:=
 ∀(whole:Sem Value)(pins:List (Addr×Obj))(s:Shared)(σ:St)(H:Hp)(Q:Bool->Hp->Prop),Inv X pins σ H s->t σ H Q->wpAny (model X.prog X.w) X.A (isTrue e X.env whole) (TP X pins σ Q) X.xe s
theorem PW.pt{X:Cx}{e:Q0}{t:TT}(h:PW X e t):PT X e t:=h _
def PA(X:Cx)(es:List Q0)(t:TA):Prop:=
 ∀(pos:Pos)(pins:List (Addr×Obj))(s:Shared)(σ:St)(H:Hp)(Q:List V->Hp->Prop),Inv X pins σ H s->t σ H Q->wpAny (model X.prog X.w) X.A (spliced (backTo pos (starEach es X.env))) (AP X pins σ Q) X.xe s
def PS(X:Cx)(st:Y2)(t:TS):Prop:=
 ∀(pins:List (Addr×Obj))(s:Shared)(σ:St)(H:Hp)(D:Ends),Inv X pins σ H s->t D σ H->wpAny (model X.prog X.w) X.A (exec st X.env) (SP X pins D) X.xe s
def PSs(X:Cx)(st:List Y2)(t:TS):Prop:=
 ∀(pins:List (Addr×Obj))(s:Shared)(σ:St)(H:Hp)(D:Ends),Inv X pins σ H s->t D σ H->wpAny (model X.prog X.w) X.A (execs st X.env) (SP X pins D) X.xe s
theorem thn{α:Type}{t:Sem α}{Q Q':α->Shared->Prop}{M:QvN}{A:Jb}{E:Value->Shared->Prop}{s:Shared}(h:wpAny M A t Q E s)(hQ:∀a s,Q a s->Q' a s):wpAny M A t Q' E s:=wpAny_mono h hQ λ_ _ x=>x
section
variable{X:Cx}
def Qbs(i:Nat):TE:=λσ H Q=>∃v,σ[i]? = some (some v)/\Q v H
def tC(v:V):TE:=λ_ H Q=>Q v H
theorem QwJ{i:Nat}{x:Str}{pos:Pos}(hN:X.N[i]? = some x)(hv:Vis X.env.scope x)(hd:(x == ("__debug__" : Str))=false:=by decide)(hcd:(x == ("__classdict__" : Str))=false:=by decide):PE X (.Name x pos) (Qbs i):=by
 intro pins s σ H Q I h;obtain⟨v,e,h⟩:=h;obtain⟨m,hn,hl⟩:=I.loc;obtain⟨u,r,l⟩:=hl i x v hN e hv;have fin:EP X pins σ Q u s:=⟨v,H,I,r,h⟩;rcases l with⟨hk,hm⟩ | ⟨hk,c,hc,hcell⟩
 ·exact QyH (wpAny_loadName_local I.ok.kind hk hn hm fin) hd
 ·rcases hk with hk | hk
  ·exact QyH (wpAny_loadName_cell I.ok.kind hk hc hcell fin) hd
  ·exact QyH (wpAny_loadName_free I.ok.kind hk hc hcell fin hcd) hd
theorem pe_int{i j pos}:PE X (.Constant (.int i) j pos) (tC (.int i)):=λ_ _ _ H _ I h=>wpAny_Constant_int ⟨.int i,H,I.tok _,⟨_,rfl⟩,h⟩
theorem QwL{b j pos}:PE X (.Constant (.bool b) j pos) (tC (.bl b)):=λ_ _ _ H _ I h=>Constant_bool ⟨.bl b,H,I,rfl,h⟩
theorem Qmu{j pos}:PE X (.Constant .none j pos) (tC .non):=λ_ _ _ H _ I h=>Constant_none ⟨.non,H,I,rfl,h⟩
theorem QwK{x j pos}:PE X (.Constant (.str x) j pos) (tC (.str x)):=λ_ _ _ H _ I h=>Calls.Constant_str ⟨.str x,H,I.tok _,⟨_,rfl⟩,h⟩
def Gl(X:Cx)(x:Str):Prop:=X.env.kindOf x=some .globalImplicit
theorem QuJ{E:Value->Shared->Prop}{pins:List (Addr×Obj)}{s:Shared}{σ:St}{H:Hp}{x:Str}{u:Value}{pos:Pos}{Q:Value->Shared->Prop}(I:Inv X pins σ H s)(hg:Gl X x)(hm:X.mg x=some u)(h:Q u s)
  (hd:(x == ("__debug__" : Str))=false:=by decide):wpAny (model X.prog X.w) X.A (eval (.Name x pos) X.env) Q E s:=
 QgN I.ok.kind hg (Calls.loadGlobal_global (by rw[I.ok.glob];exact I.mod.glob.keeps I.bk) hm h) hd
theorem QcD{E:Value->Shared->Prop}{pins:List (Addr×Obj)}{s:Shared}{σ:St}{H:Hp}{x:Str}{u:Value}{pos:Pos}{Q:Value->Shared->Prop}(I:Inv X pins σ H s)(hg:Gl X x)(hm:X.mg x=none)(hv:bootBuiltins x=some u)(h:Q u s)
  (hn:x ≠ "__name__" := by decide)(hd:(x == ("__debug__" : Str))=false:=by decide):wpAny (model X.prog X.w) X.A (eval (.Name x pos) X.env) Q E s:=by
 obtain⟨mb,h1,h2⟩:=I.mod.blt;exact QgN I.ok.kind hg (Calls.loadGlobal_builtin (by rw[I.ok.glob];exact I.mod.glob.keeps I.bk) hm (by rw[I.ok.blt];exact h1.keeps I.bk) ((h2 x hn).trans hv) h) hd
theorem QaF{x:Str}{v:V}{u:Value}{pos:Pos}(hg:Gl X x)(hm:X.mg x=none)(hv:bootBuiltins x=some u)(r:RelV v u)(hn:x ≠ "__name__" := by decide)(hd:(x == ("__debug__" : Str))=false:=by decide):PE X (.Name x pos) (tC v):=
 λ_ _ _ H _ I h=>QcD I hg hm hv ⟨v,H,I,r,h⟩ hn hd
variable{a b:Q0}{ta tb:TE}{pos:Pos}
def tB(t:TE):TT:=λσ H Q=>t σ H λx H1=>∃c,x=.bl c/\Q c H1
theorem Qjy{e:Q0}{t:TE}(h:PE X e t)(he:∀whole,isTrue e X.env whole=(do let v <- whole;standAt e.pos;holding [v] (truthy v)):=by intro _;rfl):PT X e (tB t):=by
 intro pins s σ H Q I hw;refine isTrue_plain (thn (h pins s σ H _ I hw) λv s1 ⟨x,H1,I1,r1,q1⟩=>?_) (he _);obtain⟨d,rfl,q⟩:=q1;cases r1;exact Qab ⟨H1,I1,q⟩
variable{tA tB':TT}{rest:List Q0}
def QAr(t u:TT):TT:=λσ H Q=>t σ H λc H1=>if c=true then u σ H1 Q else Q false H1
def tOr(t u:TT):TT:=λσ H Q=>t σ H λc H1=>if c=true then Q true H1 else u σ H1 Q
def QBf(t:TT):TT:=λσ H Q=>t σ H λc H1=>Q (!c) H1
theorem Qmn(ha:PT X a tA):PW X (.BoolOp .And [a] pos) tA:=by
 intro wh pins s σ H Q I h;refine isTrue_and (thn (ha pins s σ H Q I h) λc s1 e=>?_);cases c with
 |true=>exact isTrue_and_nil e
 |false=>exact e
theorem Qr6(ha:PT X a tA):PW X (.BoolOp .Or [a] pos) tA:=by
 intro wh pins s σ H Q I h;refine isTrue_or (thn (ha pins s σ H Q I h) λc s1 e=>?_);cases c with
 |false=>exact isTrue_or_nil e
 |true=>exact e
theorem Qr7(ha:PT X a tA)(hb:PW X (.BoolOp .And (b::rest) pos) tB'):PW X (.BoolOp .And (a::b::rest) pos) (QAr tA tB'):=by
 intro wh pins s σ H Q I h;refine isTrue_and (thn (ha pins s σ H _ I h) λc s1 ⟨H1,I1,q1⟩=>?_);cases c with
 |true=>exact hb wh pins s1 σ H1 Q I1 q1
 |false=>exact⟨H1,I1,q1⟩
theorem QwC(ha:PT X a tA)(hb:PW X (.BoolOp .Or (b::rest) pos) tB'):PW X (.BoolOp .Or (a::b::rest) pos) (tOr tA tB'):=by
 intro wh pins s σ H Q I h;refine isTrue_or (thn (ha pins s σ H _ I h) λc s1 ⟨H1,I1,q1⟩=>?_);cases c with
 |true=>exact⟨H1,I1,q1⟩
 |false=>exact hb wh pins s1 σ H1 Q I1 q1
theorem QwF(ha:PT X a tA):PT X (.UnaryOp .Not a pos) (QBf tA):=by
 intro pins s σ H Q I h;exact isTrue_not (ha pins s σ H (λc H1=>Q (!c) H1) I h)
def Qzc(ta tb:TE):TE:=λσ H Q=>ta σ H λx H1=>∃c,x=.bl c/\if c=true then tb σ H1 Q else Q (.bl false) H1
def Qzb(ta:TE):TE:=λσ H Q=>ta σ H λx H1=>∃c,x=.bl c/\Q (.bl (!c)) H1
theorem Qfh{op}{t:TE}(h:PE X a t):PE X (.BoolOp op [a] pos) t:=λpins s σ H Q I hw=>BoolOp_one (h pins s σ H Q I hw)
theorem Qfi(ha:PE X a ta)(hb:PE X (.BoolOp .And (b::rest) pos) tb):PE X (.BoolOp .And (a::b::rest) pos) (Qzc ta tb):=by
 intro pins s σ H Q I h;refine BoolOp_and (thn (ha pins s σ H _ I h) λv s1 ⟨x,H1,I1,r1,q1⟩=>?_);obtain⟨c,rfl,q1⟩:=q1;cases r1;refine Qab ?_
 cases c with
 |true=>exact hb pins s1 σ H1 Q I1 q1
 |false=>exact⟨.bl false,H1,I1,rfl,q1⟩
theorem Qsb(ha:PE X a ta):PE X (.UnaryOp .Not a pos) (Qzb ta):=by
 intro pins s σ H Q I h;refine UnaryOp_ (thn (ha pins s σ H _ I h) λv s1 ⟨x,H1,I1,r1,q1⟩=>?_);obtain⟨c,rfl,q1⟩:=q1;cases r1;exact not_of (Qab ⟨.bl (!c),H1,I1,rfl,q1⟩)
def tIf(t:TT)(ta tb:TE):TE:=λσ H Q=>t σ H λc H1=>if c=true then ta σ H1 Q else tb σ H1 Q
theorem Qph{c:Q0}(hc:PT X c tA)(ha:PE X a ta)(hb:PE X b tb):PE X (.IfExp c a b pos) (tIf tA ta tb):=by
 intro pins s σ H Q I h;refine wpAny_IfExp (thn (hc pins s σ H _ I h) λd s1 ⟨H1,I1,q1⟩=>?_);cases d with
 |true=>exact ha pins s1 σ H1 Q I1 q1
 |false=>exact hb pins s1 σ H1 Q I1 q1
end
def SqL(K:PySem.W.Frag)(H:Hp)(a:Addr)(xs:List V):Prop:=
 Rd H a (.lst xs) ∨
  ∃(o:Obj)(its:Array Value)(n:Nat),K.lookup a=some o/\o.cls=.type "list" /\ o.dict=none/\o.data=.seq its n/\its.size<=sizeLine/\Vals xs its.toList
def SqT(K:PySem.W.Frag)(H:Hp)(a:Addr)(xs:List V):Prop:=
 Rd H a (.tup xs) ∨
  ∃(o:Obj)(its:Array Value)(n:Nat),K.lookup a=some o/\o.cls=.type "tuple" /\ o.data=.seq its n/\its.size<=sizeLine/\Vals xs its.toList
def QBG:Value->Option V
 |.none=>some .non
 |.bool b=>some (.bl b)
 |.int i _=>some (.int i)
 |.str x _=>some (.str x)
 |.bytes b _=>some (.byt b)
 |.float b _=>some (.flt b)
 |.ref a=>some (.ref a)
 |.type n=>some (.ty n)
 |_=>none
theorem RelV.abs{x:V}{u:Value}(r:RelV x u):QBG u=some x:=by
 cases x with
 |non=>cases r;rfl
 |bl _=>cases r;rfl
 |int _=>obtain⟨t,rfl⟩:=r;rfl
 |str _=>obtain⟨t,rfl⟩:=r;rfl
 |byt _=>obtain⟨t,rfl⟩:=r;rfl
 |flt _=>obtain⟨t,rfl⟩:=r;rfl
 |ref _=>cases r;rfl
 |ty _=>cases r;rfl
theorem RelV.inj{x y:V}{u:Value}(r:RelV x u)(q:RelV y u):x=y:=Qx (r.abs.symm.trans q.abs)
theorem Vals.inj:∀{xs ys:List V}{us:List Value},Vals xs us->Vals ys us->xs=ys
 |_,_,_,.nil,.nil=>rfl
 |_,_,_,.cons r t,.cons r' t'=>by rw[r.inj r',Vals.inj t t']
section
variable{X:Cx}{pins:List (Addr×Obj)}{σ:St}{H:Hp}{s:Shared}{a:Addr}{xs ys:List V}
theorem SqL.of{K:PySem.W.Frag}(h:H a=some (.lst xs)):SqL K H a xs:=.inl (.inl h)
theorem SqT.of{K:PySem.W.Frag}(h:H a=some (.tup xs)):SqT K H a xs:=.inl (.inl h)
theorem Inv.list(I:Inv X pins σ H s)(h:SqL X.K H a xs):∃its:List Value,Vals xs its/\PlainL s.heap a its.toArray/\xs.length<=sizeLine:=by
 rcases h with h | ⟨o,its,n,hk,hc,hd,hs,hz,r⟩
 ·obtain⟨z,its,n,r,e⟩:=h.ok I.hok;exact⟨its,r,⟨_,n,e,rfl,rfl,rfl⟩,z⟩
 ·refine⟨its.toList,r,⟨o,n,I.kIn a o hk,hc,hd,by simpa using hs⟩,?_⟩;have e:=r.length;simp only[Ql] at e;omega
theorem Inv.tuple(I:Inv X pins σ H s)(h:SqT X.K H a xs):∃its:List Value,Vals xs its/\IsTup s.heap a its.toArray/\xs.length<=sizeLine:=by
 rcases h with h | ⟨o,its,n,hk,hc,hs,hz,r⟩
 ·obtain⟨z,its,r,p⟩:=h.ok I.hok;exact⟨its,r,p.tup,z⟩
 ·refine⟨its.toList,r,⟨o,I.kIn a o hk,hc,n,by simpa using hs⟩,?_⟩;have e:=r.length;simp only[Ql] at e;omega
theorem Inv.list_inj(I:Inv X pins σ H s)(h:SqL X.K H a xs)(h':SqL X.K H a ys):xs=ys:=by
 obtain⟨its,r,⟨o,n,e,_,_,d⟩,_⟩:=I.list h;obtain⟨its',r',⟨o',n',e',_,_,d'⟩,_⟩:=I.list h';rw[e] at e';cases e';rw[d] at d';injection d' with d1 _
 have:its=its':=by simpa using congrArg Qys d1
 subst this;exact r.inj r'
theorem Inv.tuple_inj(I:Inv X pins σ H s)(h:SqT X.K H a xs)(h':SqT X.K H a ys):xs=ys:=by
 obtain⟨its,r,⟨o,e,_,n,d⟩,_⟩:=I.tuple h;obtain⟨its',r',⟨o',e',_,n',d'⟩,_⟩:=I.tuple h';rw[e] at e';cases e';rw[d] at d';injection d' with d1 _
 have:its=its':=by simpa using congrArg Qys d1
 subst this;exact r.inj r'
end
abbrev Cx.wish (X:Cx) (E:Value->Shared->Prop):Cx:={ X with xe:=E }
abbrev Cx.nox (X:Cx):Cx:=X.wish λ_ _=>False
theorem Cx.Ok.wish{X:Cx}(ok:X.Ok)(E:Value->Shared->Prop):(X.wish E).Ok:=
 ⟨ok.mod,ok.kind,ok.glob,ok.blt,ok.above,ok.inj,ok.has,ok.cab,ok.hd,ok.frames,ok.stk,ok.exf,ok.bs,ok.bsz,ok.noex,ok.exfs,ok.funs,ok.frf⟩
theorem Cx.Ok.unwish{X:Cx}{E:Value->Shared->Prop}(ok:(X.wish E).Ok):X.Ok:=
 ⟨ok.mod,ok.kind,ok.glob,ok.blt,ok.above,ok.inj,ok.has,ok.cab,ok.hd,ok.frames,ok.stk,ok.exf,ok.bs,ok.bsz,ok.noex,ok.exfs,ok.funs,ok.frf⟩
section
variable{X:Cx}{pins:List (Addr×Obj)}{σ:St}{H:Hp}{s:Shared}{E:Value->Shared->Prop}
theorem Inv.wish(I:Inv X pins σ H s)(E:Value->Shared->Prop):Inv (X.wish E) pins σ H s:=⟨I.ok.wish E,I.os,I.bare,I.base,I.loc,I.cell,I.free,I.freeC,I.pin,I.hok,I.len⟩
theorem Inv.unwish(I:Inv (X.wish E) pins σ H s):Inv X pins σ H s:=⟨I.ok.unwish,I.os,I.bare,I.base,I.loc,I.cell,I.free,I.freeC,I.pin,I.hok,I.len⟩
theorem SP.unwish{D:Ends}{f:Flow}{s':Shared}(h:SP (X.wish E) pins D f s'):SP X pins D f s':=by
 cases f with
 |next=>obtain⟨σ',H',I,q⟩:=h;exact⟨σ',H',I.unwish,q⟩
 |brk=>obtain⟨σ',H',I,q⟩:=h;exact⟨σ',H',I.unwish,q⟩
 |cont=>obtain⟨σ',H',I,q⟩:=h;exact⟨σ',H',I.unwish,q⟩
 |ret u=>obtain⟨v,σ',H',I,r,q⟩:=h;exact⟨v,σ',H',I.unwish,r,q⟩
theorem PE.nox{e:Q0}{t:TE}(h:PE X.nox e t):PE X e t:=λpins s σ H Q I hw=>
 wpAny_mono (h pins s σ H Q (I.wish _) hw) (λ_ _ ⟨v,H',I',r,q⟩=>⟨v,H',I'.unwish,r,q⟩) λ_ _ z=>YD z
theorem PT.nox{e:Q0}{t:TT}(h:PT X.nox e t):PT X e t:=λpins s σ H Q I hw=>
 wpAny_mono (h pins s σ H Q (I.wish _) hw) (λ_ _ ⟨H',I',q⟩=>⟨H',I'.unwish,q⟩) λ_ _ z=>YD z
theorem PSs.nox{st:List Y2}{t:TS}(h:PSs X.nox st t):PSs X st t:=λpins s σ H D I hw=>
 wpAny_mono (h pins s σ H D (I.wish _) hw) (λ_ _ q=>q.unwish) λ_ _ z=>YD z
end
section
variable{X:Cx}{st:Y2}{rest:List Y2}{t u:TS}{e:Q0}{te:TE}{pos:Pos}
def Qv3:TS:=λD σ H=>D.nx σ H
def QrJ(t u:TS):TS:=λD σ H=>t { D with nx:=u D } σ H
theorem QbD:PSs X [] Qv3:=λ_ _ σ H _ I h=>Qke ⟨σ,H,I,h⟩
theorem Zs(h1:PS X st t)(h2:PSs X rest u):PSs X (st::rest) (QrJ t u):=by
 intro pins s σ H D I h;refine wpAny_execs_cons (thn (h1 pins s σ H { D with nx:=u D } I h) λf s1 q=>?_);cases f with
 |next=>
  obtain⟨σ',H',I',q⟩:=q;exact h2 pins s1 σ' H' D I' q
 |ret v=>exact q
 |brk=>exact q
 |cont=>exact q
theorem Ya(h1:PS X st t):PSs X [st] t:=by
 intro pins s σ H D I h;refine wpAny_execs_cons (thn (h1 pins s σ H D I h) λf s1 q=>?_);cases f with
 |next=>exact Qke q
 |ret v=>exact q
 |brk=>exact q
 |cont=>exact q
theorem Inv.quiet{pins:List (Addr×Obj)}{σ:St}{H:Hp}{s:Shared}(I:Inv X pins σ H s):interactive X.env=false:=by simp[interactive,I.ok.kind]
def QlX(te:TE):TS:=λD σ H=>te σ H λ_ H1=>D.nx σ H1
theorem Qgc(he:PE X e te)(hs:swapsWith e none pos.line X.env=pure false:=by rfl):PS X (.Expr e pos) (QlX te):=by
 intro pins s σ H D I h;exact wpAny_Expr_any (thn (he pins s σ H _ I h) λv s1 ⟨x,H1,I1,r1,q1⟩=>⟨σ,H1,I1,q1⟩) I.quiet hs
def QAo(te:TE):TS:=λD σ H=>te σ H D.rt
theorem Qaw(he:PE X e te):PS X (.Return (some e) pos) (QAo te):=by
 intro pins s σ H D I h;exact wpAny_Return_some (thn (he pins s σ H _ I h) λv s1 ⟨x,H1,I1,r1,q1⟩=>⟨x,σ,H1,I1,r1,q1⟩)
def QAq(c:TT)(t u:TS):TS:=λD σ H=>c σ H λb H1=>if b=true then t D σ H1 else u D σ H1
theorem Qgb{c:Q0}{a b:List Y2}{tc:TT}(hc:PT X c tc)(ha:PSs X a t)(hb:PSs X b u):PS X (.If c a b pos) (QAq tc t u):=by
 intro pins s σ H D I h;refine wpAny_If (thn (hc pins s σ H _ I h) λd s1 ⟨H1,I1,q1⟩=>?_);cases d with
 |true=>exact ha pins s1 σ H1 D I1 q1
 |false=>exact hb pins s1 σ H1 D I1 q1
end
abbrev TG:=V->St->Hp->(St->Hp->Prop)->Prop
abbrev TGs:=List V->St->Hp->(St->Hp->Prop)->Prop
def PG(X:Cx)(target:Q0)(t:TG):Prop:=
 ∀(pins:List (Addr×Obj))(s:Shared)(σ:St)(H:Hp)(v:V)(u:Value)(Q:St->Hp->Prop),Inv X pins σ H s->RelV v u->t v σ H Q ->
  wpAny (model X.prog X.w) X.A (assign target X.env u) (λ_ s'=>∃σ' H',Inv X pins σ' H' s'/\Q σ' H') X.xe s
def PGs(X:Cx)(ts:List Q0)(t:TGs):Prop:=
 ∀(pins:List (Addr×Obj))(s:Shared)(σ:St)(H:Hp)(vs:List V)(us:List Value)(Q:St->Hp->Prop),Inv X pins σ H s->Vals vs us->t vs σ H Q ->
  wpAny (model X.prog X.w) X.A (assignInOrder ((assignEach ts X.env).map (·.2)) us) (λ_ s'=>∃σ' H',Inv X pins σ' H' s'/\Q σ' H') X.xe s
abbrev TSet:=V->V->V->Hp->(Hp->Prop)->Prop
def QAk(X:Cx)(t:TSet):Prop:=
 ∀(pins:List (Addr×Obj))(s:Shared)(σ:St)(H:Hp)(o i v:V)(ov iv u:Value)(Q:Hp->Prop),Inv X pins σ H s->RelV o ov->RelV i iv->RelV v u->t o i v H Q ->
  wpAny (model X.prog X.w) X.A (setItem ov iv u) (λ_ s'=>∃H',Inv X pins σ H' s'/\Q H') X.xe s
abbrev TIp:=V->V->Hp->VK->Prop
def PIp(X:Cx)(op:QfH)(t:TIp):Prop:=
 ∀(pins:List (Addr×Obj))(s:Shared)(σ:St)(H:Hp)(x y:V)(v u:Value)(Q:VK),Inv X pins σ H s->RelV x v->RelV y u->t x y H Q ->
  wpAny (model X.prog X.w) X.A (inplaceOp op v u) (EP X pins σ Q) X.xe s
section
variable{X:Cx}{pos:Pos}
def Qbk(i:Nat):TG:=λv σ H Q=>Q (σ.set i (some v)) H
theorem Qbj{i:Nat}{x:Str}(hN:X.N.Nodup)(hi:X.N[i]? = some x)(hx:Loc X.env.scope x)(hf:X.fn x=true∨X.env.scope.names.lookup x=some .local:=by first | exact .inl rfl | exact .inr rfl | assumption):PG X (.Name x pos) (Qbk i):=by
 intro pins s σ H v u Q I r h;exact QyG (Qd3 I hN hi hx r (λs' I'=>⟨_,H,I',h⟩) hf)
def QzX:TGs:=λvs σ H Q=>vs=[]/\Q σ H
def Qp8(t:TG)(u:TGs):TGs:=λvs σ H Q=>∃v r,vs=v::r/\t v σ H λσ' H'=>u r σ' H' Q
theorem Qms:PGs X [] QzX:=by
 intro pins s σ H vs us Q I r h;obtain⟨e,h⟩:=h;subst e;cases r;exact QyK ⟨σ,H,I,h⟩
theorem Qge{e:Q0}{es:List Q0}{t:TG}{u:TGs}(h1:PG X e t)(h2:PGs X es u)
  (hs:(assignEach (e::es) X.env).map (·.2)=assign e X.env::(assignEach es X.env).map (·.2):=by rfl):PGs X (e::es) (Qp8 t u):=by
 intro pins s σ H vs us Q I r h;obtain⟨v,vr,e1,h⟩:=h;subst e1;cases r with
 |cons r rr=>
  rw[hs];refine QfE (thn (h1 pins s σ H _ _ _ I r h) λ_ s1 ⟨σ1,H1,I1,q1⟩=>?_);exact h2 pins s1 σ1 H1 _ _ Q I1 rr q1
def QzW(K:PySem.W.Frag)(n:Nat)(t:TGs):TG:=λv σ H Q=>∃a xs,v=.ref a/\SqT K H a xs/\xs.length=n/\t xs σ H Q
theorem Qr9{es:List Q0}{k:Nat}{t:TGs}{n:Nat}(hc:X.calm=true)(h:PGs X es t)
  (hn:(assignEach es X.env).length=n:=by rfl)(hst:(assignEach es X.env).findIdx? (·.1)=none:=by rfl):PG X (.Tuple es k pos) (QzW X.K n t):=by
 intro pins s σ H v u Q I r hw;obtain⟨a,xs,e1,hq,hl,hw⟩:=hw;subst e1;cases r;obtain⟨its,rv,ht,hz⟩:=I.tuple hq;refine assign_Tuple_tuple (I.ok.hd hc) ht (by simp[hn,<- hl,rv.length]) hst λh' hx=>?_
 have I1:Inv X pins σ H { s with heap:=h' }:=I.kept (t':=s.toks) λb o e=>hx b o (Qv (Qk e)) e
 exact h pins _ σ H xs _ Q I1 (by simpa using rv) hw
def gSub(to ti:TE)(t:TSet):TG:=λv σ H Q=>to σ H λo H1=>ti σ H1 λi H2=>t o i v H2 λH3=>Q σ H3
theorem Qsa{o i:Q0}{to ti:TE}{t:TSet}(ho:PE X o to)(hi:PE X i ti)(hs:QAk X t)
  (ha:∀v,assign (.Subscript o i pos) X.env v=(do
   let ov <- holding [v] (eval o X.env)
   let iv <- holding [v,ov] (eval i X.env)
   standAt pos
   holding [v,ov,iv] (setItem ov iv v)
   release [v,ov,iv] []):=by intro _;rfl):PG X (.Subscript o i pos) (gSub to ti t):=by
 intro pins s σ H v u Q I r h;rw[ha];refine wpAny_bind (J3 (thn (ho pins s σ H _ I h) λov s1 ⟨x,H1,I1,r1,q1⟩=>?_));refine wpAny_bind (J3 (thn (hi pins s1 σ H1 _ I1 q1) λiv s2 ⟨y,H2,I2,r2,q2⟩=>?_));refine wpAny_bind (wpAny_standAt (wpAny_bind (J3 (thn (hs pins s2 σ H2 x y v ov iv u _ I2 r1 r2 r q2) λ_ s3 ⟨H3,I3,q3⟩=>?_))));exact wpAny_release ⟨σ,H3,I3,q3⟩
def Qjl(te:TE)(g:TG):TS:=λD σ H=>te σ H λx H1=>g x σ H1 D.nx
theorem Qmp{tg e:Q0}{te:TE}{g:TG}(he:PE X e te)(hg:PG X tg g)(hs:swapsWithSole [tg] e pos.line X.env=pure false:=by rfl)(hw:swappedStores [tg] e X.env=pure none:=by rfl)
  (h1:(assignEach [tg] X.env).map (·.2)=[assign tg X.env]:=by rfl):PS X (.Assign [tg] e pos) (Qjl te g):=by
 intro pins s σ H D I h;refine wpAny_Assign_stores (thn (he pins s σ H _ I h) λv s1 ⟨x,H1,I1,r1,q1⟩=>?_) hs hw;rw[h1];exact thn (hg pins s1 σ H1 x v _ I1 r1 q1) λ_ s2 q=>q
theorem Qa7{i:Nat}{x:Str}{e:Q0}{te:TE}{pos':Pos}(hN:X.N.Nodup)(hi:X.N[i]? = some x)(hx:Loc X.env.scope x)(he:PE X e te)(hs:swapsWith e (some (.Name x pos')) pos.line X.env=pure false:=by rfl)(hf:X.fn x=true∨X.env.scope.names.lookup x=some .local:=by first | exact .inl rfl | exact .inr rfl | assumption) :
  PS X (.Assign [.Name x pos'] e pos) (Qjl te (Qbk i)):=by
 intro pins s σ H D I h;refine wpAny_Assign_Name (thn (he pins s σ H _ I h) λv s1 ⟨y,H1,I1,r1,q1⟩=>?_) hs;exact Qd3 I1 hN hi hx r1 (λs2 I2=>⟨_,H1,I2,q1⟩) hf
def QAp(i j:Nat)(ta:TA):TS:=λD σ H=>ta σ H λvs H1=>∃v w,vs=[v,w]/\D.nx ((σ.set i (some v)).set j (some w)) H1
theorem QwG{i j:Nat}{x y:Str}{a b:Q0}{ta:TA}{px py pt:Pos}{kt k2 pt2}(hc:X.calm=true)(hN:X.N.Nodup)(hi:X.N[i]? = some x)(hj:X.N[j]? = some y)(hij:i≠j)
  (hx:X.env.scope.names.lookup x=some .local)(hy:X.env.scope.names.lookup y=some .local)(ha:PA X [a,b] ta)
  (hw:swappedStores [.Tuple [.Name x px,.Name y py] kt pt] (.Tuple [a,b] k2 pt2) X.env=pure (some [x,y]))
  (hs:swapsWithSole [.Tuple [.Name x px,.Name y py] kt pt] (.Tuple [a,b] k2 pt2) pos.line X.env=pure false:=by rfl) :
  PS X (.Assign [.Tuple [.Name x px,.Name y py] kt pt] (.Tuple [a,b] k2 pt2) pos) (QAp i j ta):=by
 intro pins s σ H D I h;rw[exec_Assign_arm];refine wpAny_bind (wpAny_standAt ?_);rw[hs];refine wpAny_bind (Qd ?_);rw[if_neg (by decide)];refine wpAny_bind (Tuple_ (thn (ha _ pins s σ H _ I h) λus s1 ⟨vs,H1,I1,r1,q1⟩=>?_));obtain⟨v,w,e1,q1⟩:=q1;subst e1;obtain⟨u1,u2,rfl,rv,rw'⟩:∃u1 u2,us=[u1,u2]/\RelV v u1/\RelV w u2:=by
  cases r1 with
  |cons p q=>
   cases q with
   |cons p' q'=>
    cases q';exact⟨_,_,rfl,p,p'⟩
 refine Q4 ?_ (by show 2<=sizeLine;decide)
 have I2:Inv X pins σ H1 { s1 with heap:=s1.heap.push { cls:=.type "tuple",data:=.seq [u1,u2].toArray } }:=I1.kept (t':=s1.toks) λb o e=>Qc _ e
 rw[hw];refine wpAny_bind (Qd ?_);show wpAny (model X.prog X.w) X.A (do rule "assign.swapped-stores";let items <- unpackItems (.ref s1.heap.objs.size) 2 none;assignInOrder [λv=>bindName X.env y v,λv=>bindName X.env x v] items.reverse;pure Flow.next) _ _ _;refine wpAny_bind (wpAny_rule (wpAny_bind (unpackItems_tuple (items:=#[u1,u2]) (I.ok.hd hc) (IsTup.new s1.heap _) λh' hx'=>?_)));have I3:=I2.kept (h':=h') (t':=s1.toks) λb o e=>hx' b o (Qv (Qk e)) e
 show wpAny _ _ (assignInOrder [λv=>bindName X.env y v,λv=>bindName X.env x v] [u2,u1] >>= λ_=>pure Flow.next) _ _ _;refine wpAny_bind (QfE (wpAny_bindName (Qd3 I3 hN hj (.inl hy) rw' (λs2 I4=>?_) (.inr hy))));refine QfE (wpAny_bindName (Qd3 I4 hN hi (.inl hx) rv (λs3 I5=>QyK (Qd ?_)) (.inr hx)));rw[List.set_comm _ _ (QaB hij)] at I5;exact⟨_,H1,I5,q1⟩
def Qv5(to ti te:TE)(tget:V->V->Hp->VK->Prop)(tip:TIp)(tset:TSet):TS:=λD σ H=>to σ H λo H1=>ti σ H1 λi H2=>tget o i H2 λx H3=>te σ H3 λy H4=>tip x y H4 λz H5=>tset o i z H5 λH6=>D.nx σ H6
def QA7(X:Cx)(t:V->V->Hp->VK->Prop):Prop:=
 ∀(pins:List (Addr×Obj))(s:Shared)(σ:St)(H:Hp)(o i:V)(ov iv:Value)(Q:VK),Inv X pins σ H s->RelV o ov->RelV i iv->t o i H Q ->
  wpAny (model X.prog X.w) X.A (getItem ov iv) (EP X pins σ Q) X.xe s
theorem QtB{o i e:Q0}{to ti te:TE}{tget:V->V->Hp->VK->Prop}{tip:TIp}{tset:TSet}{op:QfH}{tpos:Pos}(ho:PE X o to)(hi:PE X i ti)(hg:QA7 X tget)(he:PE X e te)(hp:PIp X op tip)(hs:QAk X tset)
  (ha:∀ov iv new,augStore i ov iv new=(do holding [new,ov,iv] (setItem ov iv new);release [new,ov,iv] [];pure .next):=by intros;rfl):PS X (.AugAssign (.Subscript o i tpos) op e pos) (Qv5 to ti te tget tip tset):=by
 intro pins s σ H D I h;refine wpAny_AugAssign_SubscriptAny (thn (ho pins s σ H _ I h) λov s1 ⟨x1,H1,I1,r1,q1⟩=>?_) ha;refine thn (hi pins s1 σ H1 _ I1 q1) λiv s2 ⟨x2,H2,I2,r2,q2⟩=>?_
 refine thn (hg pins s2 σ H2 x1 x2 ov iv _ I2 r1 r2 q2) λold s3 ⟨x3,H3,I3,r3,q3⟩=>?_
 refine thn (he pins s3 σ H3 _ I3 q3) λv s4 ⟨x4,H4,I4,r4,q4⟩=>?_
 refine thn (hp pins s4 σ H4 x3 x4 old v _ I4 r3 r4 q4) λnew s5 ⟨x5,H5,I5,r5,q5⟩=>?_
 exact thn (hs pins s5 σ H5 x1 x2 x5 ov iv new _ I5 r1 r2 r5 q5) λ_ s6 ⟨H6,I6,q6⟩=>⟨σ,H6,I6,q6⟩
def ipI(f:Int->Int->Int):TIp:=λx y H Q=>∃i j,x=.int i/\y=.int j/\Q (.int (f i j)) H
theorem Qsl:PIp X .Add (ipI λi j=>i+j):=by
 intro pins s σ H x y v u Q I r1 r2 h;obtain⟨i,j,e1,e2,q⟩:=h;subst e1;subst e2;obtain⟨t,rfl⟩:=r1;obtain⟨t',rfl⟩:=r2;exact iadd_int ⟨.int _,H,I.tok _,⟨_,rfl⟩,q⟩
end
section
variable{X:Cx}{pos:Pos}
end
structure It where
 go:Nat->Hp->Prop
 yld:Nat->Hp->V->Hp->Prop
 stop:Nat->Hp->Prop
def FpOk(X:Cx)(pins:List (Addr×Obj))(H:Hp)(b:Addr):Prop:=
 H b=none/\b≠X.env.locals/\b∉X.fs/\(b∈X.ex∨X.s₀.heap.objs.size<=b)/\(∀x c,X.env.cells.lookup x=some c->c≠b)/\∀p∈X.pn++pins,p.1≠b
theorem Inv.fpOk{X:Cx}{pins:List (Addr×Obj)}{σ:St}{H H':Hp}{s:Shared}{b:Addr}(I:Inv X pins σ H s)(hb:s.heap.objs.size<=b)(hn:H' b=none):FpOk X pins H' b:=by
 refine⟨hn,YQ (QK I.lt hb),I.nofs hb,.inr (QY I.sz hb),λx c e z=>?_,λp hp z=>?_⟩
 ·obtain⟨v,q⟩:=I.cell x c e;exact absurd (QK q.lt (by rw[z];exact hb)) (Zu _)
 ·exact absurd (QK (Qk (I.pin p hp).1) (by rw[z];exact hb)) (Zu _)
structure Turn (P:Qy) (w:Jc) (K:PySem.W.Frag) (tg:Q0) (J:It) (fp:List Addr) (it:Addr) (tn:Nat->Heap->Prop):Prop where
 mem:it∈fp
 obj:∀i h,tn i h->∀b∈fp,∃o,h.get? b=some o/\∀v,o.data≠.cell v
 keep:∀i h h',tn i h->(∀b∈fp,∀o,h.get? b=some o->h'.get? b=some o)->tn i h'
 item:∀(X:Cx),X.prog=P->X.w=w->X.K=K->X.calm=true->∀(i:Nat)(pins:List (Addr×Obj))(s:Shared)(σ:St)(H:Hp)(E:Value->Shared->Prop),Inv X pins σ H s->(∀b∈fp,FpOk X pins H b)->tn i s.heap->J.go i H ->
  wpAny (model P w) X.A (pyNext (.ref it)) (λr s1=>∃u,r=some u /\
   wpAny (model P w) X.A (letOwnedTupleGo tg (.ref it) u) (λ_ s2=>∃x H',Inv X pins σ H' s2/\RelV x u/\J.yld i H x H'/\tn (i+1) s2.heap/\∀b∈fp,H' b=none) E s1) E s
 done:∀(X:Cx),X.prog=P->X.w=w->X.K=K->X.calm=true->∀(i:Nat)(pins:List (Addr×Obj))(s:Shared)(σ:St)(H:Hp)(E:Value->Shared->Prop),Inv X pins σ H s->(∀b∈fp,FpOk X pins H b)->tn i s.heap->J.stop i H ->
  wpAny (model P w) X.A (pyNext (.ref it)) (λr s1=>r=none/\Inv X pins σ H s1) E s
 self:∀(A:Jb)(i:Nat)(s:Shared)(Q:Value->Shared->Prop)(E:Value->Shared->Prop),tn i s.heap->Q (.ref it) s->wpAny (model P w) A (pyIter (.ref it)) Q E s
abbrev TI:=St->Hp->(It->Hp->Prop)->Prop
def PIE(X:Cx)(pins:List (Addr×Obj))(σ:St)(tg:Q0)(R:It->Hp->Prop)(itv:Value)(s2:Shared):Prop:=
 ∃(it:Addr)(fp:List Addr)(tn:Nat->Heap->Prop)(J:It)(H':Hp),itv=.ref it/\Inv X pins σ H' s2/\Turn X.prog X.w X.K tg J fp it tn/\tn 0 s2.heap/\(∀b∈fp,FpOk X pins H' b)/\R J H'
def PI(X:Cx)(tg iter:Q0)(wi:TI):Prop:=
 ∀(pins:List (Addr×Obj))(s:Shared)(σ:St)(H:Hp)(R:It->Hp->Prop),Inv X pins σ H s->wi σ H R ->
  wpAny (model X.prog X.w) X.A (eval iter X.env) (λv s1=>wpAny (model X.prog X.w) X.A (pyIter v) (PIE X pins σ tg R) X.xe s1) X.xe s
theorem Qnx{M:QvN}{A:Jb}{E:Value->Shared->Prop}{s:Shared}{tg:Q0}{it:Addr}{u:Value}{o:Obj}{n:String}{vs:Array Value}{Q:Unit->Shared->Prop}(ho:s.heap.get? it=some o)(hc:o.cls=.type n)(hd:o.data=.fields vs)
  (hn:["enumerate", "zip", "dict_itemiterator", "dict_reverseitemiterator", "odict_iterator", "itertools.zip_longest", "itertools.pairwise"].contains n=false)(hQ:Q () s):wpAny M A (letOwnedTupleGo tg (.ref it) u) Q E s:=by
 unfold letOwnedTupleGo;cases tg<;>first
  |exact Qd hQ
  |(cases u<;>first
    |exact Qd hQ
    |(refine wpAny_bind (QyF ho ?_)
      rw[hc,hd];show wpAny M A (if(["enumerate", "zip", "dict_itemiterator", "dict_reverseitemiterator", "odict_iterator", "itertools.zip_longest", "itertools.pairwise"].contains n&&vs[0]? == some (rawInt _))=true then _ else _) Q E s;rw[if_neg (by intro h;rw[hn,QvT] at h;cases h)];exact Qd hQ))
def Itl(K:PySem.W.Frag)(a:Addr):It:=
 ⟨λi H=>∃xs x,SqL K H a xs/\xs[i]? = some x,λi H x H'=>H'=H/\∀xs,SqL K H a xs->xs[i]? = some x,λi H=>∃xs,SqL K H a xs/\xs.length<=i⟩
def Itt(K:PySem.W.Frag)(a:Addr):It:=
 ⟨λi H=>∃xs x,SqT K H a xs/\xs[i]? = some x,λi H x H'=>H'=H/\∀xs,SqT K H a xs->xs[i]? = some x,λi H=>∃xs,SqT K H a xs/\xs.length<=i⟩
def Itr(lo:Int)(n:Nat):It:=⟨λi _=>i<n,λi H x H'=>H'=H/\x=.int (lo+i),λi _=>n<=i⟩
theorem QlM{P:Qy}{w:Jc}{K:PySem.W.Frag}{tg:Q0}(a it:Addr):Turn P w K tg (Itl K a) [it] it (λi h=>h.IsListIter it a i) where
 mem:=by simp
 obj:=λi h st b hb=>by
  have e:b=it:=by simpa using hb
  subst e;obtain⟨o,e,c,d⟩:=st;exact⟨o,e,λv z=>by rw[d] at z;cases z⟩
 keep:=λi h h' st k=>st.at λo e=>k it (by simp) o e
 item:=by
  intro X hP hw hK hc i pins s σ H E I hf st hg;subst hP hw hK;obtain⟨xs,x,hq,hx⟩:=hg;obtain⟨its,rv,p,hz⟩:=I.list hq;obtain⟨u,hu,ru⟩:=rv.get hx;obtain⟨f0,f1,f2,f3,f4,f5⟩:=hf it (by simp);refine wpAny_pyNext_list_item st p.isList (x:=u) (by simpa using hu) λh' st' sb=>?_
  have I1:Inv X pins σ H { s with heap:=h' }:=I.turned (t':=s.toks) (λb o hb e=>(sb.2 b hb).trans e) f0 f1 f3 f4 f5;obtain⟨o,e,c,d⟩:=id st';exact⟨u,rfl,Qnx (s:={ s with heap:=h' }) e c d (by decide) ⟨x,H,I1,ru,⟨rfl,λys hy=>by rw[I.list_inj hy hq];exact hx⟩,st',λb hb=>(hf b hb).1⟩⟩
 done:=by
  intro X hP hw hK hc i pins s σ H E I hf st hg;subst hP hw hK;obtain⟨xs,hq,hx⟩:=hg;obtain⟨its,rv,p,hz⟩:=I.list hq;obtain⟨f0,f1,f2,f3,f4,f5⟩:=hf it (by simp);have hl:=rv.length;exact wpAny_pyNext_list_end (I.ok.hd hc) st p.isList (by simp;omega) λh' eb=>⟨rfl,I.turned (t':=s.toks) (λb o hb e=>eb b o hb e) f0 f1 f3 f4 f5⟩
 self:=λ_ _ _ _ _ st h=>wpAny_pyIter_listiter st h
theorem Qku{P:Qy}{w:Jc}{K:PySem.W.Frag}{tg:Q0}(a it:Addr):Turn P w K tg (Itt K a) [it] it (λi h=>h.IsTupleIter it a i) where
 mem:=by simp
 obj:=λi h st b hb=>by
  have e:b=it:=by simpa using hb
  subst e;obtain⟨o,e,c,d⟩:=st;exact⟨o,e,λv z=>by rw[d] at z;cases z⟩
 keep:=λi h h' st k=>st.at λo e=>k it (by simp) o e
 item:=by
  intro X hP hw hK hc i pins s σ H E I hf st hg;subst hP hw hK;obtain⟨xs,x,hq,hx⟩:=hg;obtain⟨its,rv,p,hz⟩:=I.tuple hq;obtain⟨u,hu,ru⟩:=rv.get hx;obtain⟨f0,f1,f2,f3,f4,f5⟩:=hf it (by simp);refine wpAny_pyNext_tuple_item st (show s.heap.IsTuple a its.toArray from p) (x:=u) (by simpa using hu) λh' st' sb=>?_
  have I1:Inv X pins σ H { s with heap:=h' }:=I.turned (t':=s.toks) (λb o hb e=>(sb.2 b hb).trans e) f0 f1 f3 f4 f5;obtain⟨o,e,c,d⟩:=id st';exact⟨u,rfl,Qnx (s:={ s with heap:=h' }) e c d (by decide) ⟨x,H,I1,ru,⟨rfl,λys hy=>by rw[I.tuple_inj hy hq];exact hx⟩,st',λb hb=>(hf b hb).1⟩⟩
 done:=by
  intro X hP hw hK hc i pins s σ H E I hf st hg;subst hP hw hK;obtain⟨xs,hq,hx⟩:=hg;obtain⟨its,rv,p,hz⟩:=I.tuple hq;obtain⟨f0,f1,f2,f3,f4,f5⟩:=hf it (by simp);have hl:=rv.length;exact wpAny_pyNext_tuple_end (I.ok.hd hc) st (show s.heap.IsTuple a its.toArray from p) (by simp;omega) λh' eb=>⟨rfl,I.turned (t':=s.toks) (λb o hb e=>eb b o hb e) f0 f1 f3 f4 f5⟩
 self:=λ_ _ _ _ _ st h=>wpAny_pyIter_tupleiter st h
theorem Qkv{P:Qy}{w:Jc}{K:PySem.W.Frag}{tg:Q0}(it:Addr)(lo:Int)(n:Nat):Turn P w K tg (Itr lo n) [it] it (λi h=>Qkr h it (lo+(i:Nat)*1) ((n:Int) - (i:Nat)) 1) where
 mem:=by simp
 obj:=λi h st b hb=>by
  have e:b=it:=by simpa using hb
  subst e;exact⟨_,st,λv z=>by
   have z':Data.fields _=Data.cell v:=z;cases z'⟩
 keep:=λi h h' st k=>k it (by simp) _ st
 item:=by
  intro X hP hw hK hc i pins s σ H E I hf st hg;subst hP hw hK;obtain⟨f0,f1,f2,f3,f4,f5⟩:=hf it (by simp);have W:=QyL (prog:=X.prog) (w:=X.w) (I.ok.hd hc) it lo 1 n;refine W.item i s _ _ hg st λv h' tk hv st' kk=>?_
  obtain⟨t,rfl⟩:=hv;have I1:Inv X pins σ H { s with heap:=h',toks:=tk }:=I.turned (λb o hb e=>kk b o (by simpa using hb) e) f0 f1 f3 f4 f5;refine⟨_,rfl,Qnx (s:={ s with heap:=h',toks:=tk }) (n := "range_iterator") st' rfl rfl (by decide) ⟨.int (lo+i),H,I1,⟨t,?_⟩,⟨rfl,rfl⟩,st',λb hb=>(hf b hb).1⟩⟩;rw[Int.mul_one]
 done:=by
  intro X hP hw hK hc i pins s σ H E I hf st hg;subst hP hw hK;obtain⟨f0,f1,f2,f3,f4,f5⟩:=hf it (by simp);exact Qrq (I.ok.hd hc) st (by have:n<=i:=hg;omega) λh' eb=>⟨rfl,I.turned (t':=s.toks) (λb o hb e=>eb b o hb e) f0 f1 f3 f4 f5⟩
 self:=λ_ _ _ _ _ st h=>Qdi st h
section
variable{X:Cx}{tg:Q0}
def QzT(K:PySem.W.Frag)(tl:TE):TI:=λσ H R=>tl σ H λx H1=>∃a,x=.ref a/\(∃xs,SqL K H1 a xs)/\R (Itl K a) H1
def QBx(K:PySem.W.Frag)(tl:TE):TI:=λσ H R=>tl σ H λx H1=>∃a,x=.ref a/\(∃xs,SqT K H1 a xs)/\R (Itt K a) H1
theorem QtG{l:Q0}{tl:TE}(hl:PE X l tl):PI X tg l (QzT X.K tl):=by
 intro pins s σ H R I h;refine thn (hl pins s σ H _ I h) λv s1 ⟨x,H1,I1,r1,q1⟩=>?_
 obtain⟨a,e,⟨xs,hq⟩,q⟩:=q1;subst e;cases r1;obtain⟨its,rv,p,hz⟩:=I1.list hq;refine QyE p.isList ?_
 refine⟨s1.heap.objs.size,[s1.heap.objs.size],_,_,H1,rfl,I1.kept (t':=s1.toks) λb o e=>Qc _ e,QlM a _,⟨_,Qm _ rfl,rfl,rfl⟩,λb hb=>?_,q⟩;have e:b=s1.heap.objs.size:=by simpa using hb
 subst e;exact I1.fpOk (Qg _) (I1.hok.fresh (Qg _))
theorem QwI{l:Q0}{tl:TE}(hl:PE X l tl):PI X tg l (QBx X.K tl):=by
 intro pins s σ H R I h;refine thn (hl pins s σ H _ I h) λv s1 ⟨x,H1,I1,r1,q1⟩=>?_
 obtain⟨a,e,⟨xs,hq⟩,q⟩:=q1;subst e;cases r1;obtain⟨its,rv,p,hz⟩:=I1.tuple hq;refine Yp (show s1.heap.IsTuple a its.toArray from p) ?_
 refine⟨s1.heap.objs.size,[s1.heap.objs.size],_,_,H1,rfl,I1.kept (t':=s1.toks) λb o e=>Qc _ e,Qku a _,⟨_,Qm _ rfl,rfl,rfl⟩,λb hb=>?_,q⟩;have e:b=s1.heap.objs.size:=by simpa using hb
 subst e;exact I1.fpOk (Qg _) (I1.hok.fresh (Qg _))
theorem Qo6{pins:List (Addr×Obj)}{σ:St}{H:Hp}{s:Shared}{R:It->Hp->Prop}{E:Value->Shared->Prop}{lo hi:Int}{t u v:Tok}{tk:Nat}(I:Inv X pins σ H s)(h1 : -(2^62)<=lo)(h2:lo<2^62)(h3 : -(2^62)<=hi)(h4:hi<2^62)
  (q:R (Itr lo (hi - lo).toNat) H):wpAny (model X.prog X.w) X.A (pyIter (.ref s.heap.objs.size)) (PIE X pins σ tg R) E { s with heap:=s.heap.push { cls:=.type "range",data:=.fields #[.int lo t,.int hi u,.int 1 v] },toks:=tk }:=by
 refine wpAny_pyIter_range (IsRange.new ..) (small_one h1 h2 h3 h4) ?_
 have I1:Inv X pins σ H { s with heap:=s.heap.push { cls:=.type "range",data:=.fields #[.int lo t,.int hi u,.int 1 v] },toks:=tk }:=I.kept λb o e=>Qc _ e
 refine⟨(s.heap.push { cls:=.type "range",data:=.fields #[.int lo t,.int hi u,.int 1 v] }).objs.size,[(s.heap.push { cls:=.type "range",data:=.fields #[.int lo t,.int hi u,.int 1 v] }).objs.size],_,_,H,rfl,
  I1.kept (t':=tk) λb o e=>Qc _ e,Qkv _ lo (hi - lo).toNat,?_,λb hb=>?_,q⟩
 ·have e1:lo+((0:Nat):Int)*1=lo:=by simp
  have e2:(((hi - lo).toNat:Nat):Int) - ((0:Nat):Int)=Jp lo hi 1:=by rw[QcV];split<;>omega
  show Qkr _ _ (lo+((0:Nat):Int)*1) ((((hi - lo).toNat:Nat):Int) - ((0:Nat):Int)) 1;rw[e1,e2];exact Qm _ rfl
 ·have e:b=(s.heap.push { cls:=.type "range",data:=.fields #[.int lo t,.int hi u,.int 1 v] }).objs.size:=by simpa using hb
  subst e;exact I1.fpOk (Qg _) (I1.hok.fresh (Qg _))
def QuR(ta:TA):TI:=λσ H R=>ta σ H λvs H1=>∃j:Int,vs=[.int j] /\ -(2^62)<=j/\j<2^62/\R (Itr 0 j.toNat) H1
theorem Qb9{a:Q0}{ta:TA}{p pos:Pos}(hg:Gl X "range")(hm:X.mg "range" = none)(ha:PA X [a] ta)(hs:starEach [a] X.env=[(false,eval a X.env)]:=by rfl):PI X tg (.Call (.Name "range" p) [a] [] pos) (QuR ta):=by
 intro pins s σ H R I h;refine Call_ (QcD I hg hm boot_range (JF (thn (ha pos pins s σ H _ I h) λus s1 ⟨vs,H1,I1,r1,q1⟩=>?_) hs rfl));obtain⟨j,e,q1,q2,q⟩:=q1;subst e;cases r1 with
 |cons r rr=>
  cases rr;obtain⟨t,rfl⟩:=r;exact call_range_1 (Qo6 I1 (by omega) (by omega) q1 q2 (by simpa using q))
def tFor(wi:TI)(g:TG)(tb:TS):TS:=λD σ H=>wi σ H λJ H1=>∃W:Nat->Nat->St->Hp->Prop,(∃m,W 0 m σ H1)/\∀i m σ H,W i m σ H ->
 (J.stop i H/\D.nx σ H)∨(J.go i H/\∃N:St->Hp->Prop,(∀σ' H',N σ' H'->∃m',m'<m/\W (i+1) m' σ' H')/\∀x H',J.yld i H x H'->g x σ H' λσ2 H2=>tb { D with nx:=N,ct:=N,bk:=D.nx } σ2 H2)
def Qjz(fp:List Addr)(h:Heap):List (Addr×Obj):=fp.filterMap λb=>(h.get? b).map λo=>(b,o)
theorem Qcl{fp:List Addr}{h:Heap}{b:Addr}{o:Obj}(hb:b∈fp)(e:h.get? b=some o):(b,o)∈Qjz fp h:=QbA.mpr ⟨b,hb,by rw[e];rfl⟩
theorem QmZ{fp:List Addr}{h:Heap}{p:Addr×Obj}(hp:p∈Qjz fp h):p.1∈fp/\h.get? p.1=some p.2:=by
 obtain⟨b,hb,e⟩:=QbA.mp hp;cases q:h.get? b with
 |none=>rw[q] at e;cases e
 |some o=>
  rw[q] at e;have e':(b,o)=p:=Qx e;subst e';exact⟨hb,q⟩
theorem Inv.pinned{pins:List (Addr×Obj)}{σ:St}{H:Hp}{s:Shared}{fp:List Addr}(I:Inv X pins σ H s)(hf:∀b∈fp,FpOk X pins H b)(ho:∀b∈fp,∃o,s.heap.get? b=some o/\∀v,o.data≠.cell v):Inv X (pins++Qjz fp s.heap) σ H s:=
 I.pins_of λp hp=>(JM.mp hp).elim (λz=>I.pin p (Ju _ z)) λz=>by
  obtain⟨hb,e⟩:=QmZ z;obtain⟨f0,f1,f2,_⟩:=hf p.1 hb;obtain⟨o,e',d⟩:=ho p.1 hb;rw[e] at e';cases e';exact⟨e,f0,f1,f2,d⟩
theorem Inv.unpinned{pins pl:List (Addr×Obj)}{σ:St}{H:Hp}{s:Shared}(I:Inv X (pins++pl) σ H s):Inv X pins σ H s:=I.pins_of λp hp=>I.pin p (Ju _ (Y6 _ hp))
theorem Qfg{iter:Q0}{body:List Y2}{wi:TI}{g:TG}{tb:TS}{pos:Pos}(hp:PassesOwn (model X.prog X.w) X.A X.env X.xe)(hc:X.calm=true)(hi:PI X tg iter wi)(hg:PG X tg g)(hb:PSs X body tb)
  (hs:∀x,foldedSetIterable iter X.env x=pure x:=by intro _;rfl):PS X (.For tg iter body [] pos) (tFor wi g tb):=by
 intro pins s σ H D I h;refine wpAny_For (thn (hi pins s σ H _ I h) λv s1 h1=>thn h1 λitv s2 h2=>?_) hs;obtain⟨it,fp,tn,J,H2,e,I2,T,st2,f2,W,⟨m0,w0⟩,turn⟩:=h2;subst e;have stat:∀{H':Hp},(∀b∈fp,H' b=none)->∀b∈fp,FpOk X pins H' b:=λhn b hb=>⟨hn b hb,(f2 b hb).2⟩
 refine codeAny_forLoop_any (λn s'=>∃i σ' H',Inv X pins σ' H' s'/\tn i s'.heap/\(∀b∈fp,H' b=none)/\W i n σ' H') ?_ m0 ⟨0,σ,H2,I2,st2,λb hb=>(f2 b hb).1,w0⟩
 rintro n s3 ⟨i,σ3,H3,I3,st3,fr3,w3⟩;rcases turn i n σ3 H3 w3 with⟨stop,qn⟩ | ⟨go,N,hN,step⟩
 ·refine QbQ hp (thn (T.done X rfl rfl rfl hc i pins s3 σ3 H3 X.xe I3 (stat fr3) st3 stop) λr s4 ⟨hr,I4⟩=>?_);subst hr;exact Qke ⟨σ3,H3,I4,qn⟩
 ·refine QbQ hp (thn (T.item X rfl rfl rfl hc i pins s3 σ3 H3 X.xe I3 (stat fr3) st3 go) λr s4 ⟨u,hr,h4⟩=>?_);subst hr;refine QbQ hp (thn h4 λ_ s5 ⟨x,H5,I5,r5,y5,st5,fr5⟩=>?_);have I5':=I5.pinned (stat fr5) (T.obj _ _ st5);refine QbQ hp (thn (hg _ s5 σ3 H5 x u _ I5' r5 (step x H5 y5)) λ_ s6 ⟨σ6,H6,I6,q6⟩=>?_);refine QbQ hp (thn (hb _ s6 σ6 H6 _ I6 q6) λf s7 q7=>?_);have again:∀{σ7:St}{H7:Hp},Inv X (pins++Qjz fp s5.heap) σ7 H7 s7->N σ7 H7->∃m,m<n/\∃i σ' H',Inv X pins σ' H' s7/\tn i s7.heap/\(∀b∈fp,H' b=none)/\W i m σ' H':=λ{σ7 H7} I7 n7=>by
   obtain⟨m',hm,w7⟩:=hN σ7 H7 n7;refine⟨m',hm,i+1,σ7,H7,I7.unpinned,T.keep _ _ _ st5 λb hb o e=>(I7.pin (b,o) (Ju _ (Ju _ (Qcl hb e)))).1,λb hb=>?_,w7⟩;obtain⟨o,e,d⟩:=T.obj _ _ st5 b hb;exact(I7.pin (b,o) (Ju _ (Ju _ (Qcl hb e)))).2.1
  cases f with
  |next=>obtain⟨σ7,H7,I7,n7⟩:=q7;exact again I7 n7
  |cont=>obtain⟨σ7,H7,I7,n7⟩:=q7;exact again I7 n7
  |brk=>obtain⟨σ7,H7,I7,q7⟩:=q7;exact⟨σ7,H7,I7.unpinned,q7⟩
  |ret v=>obtain⟨x7,σ7,H7,I7,r7,q7⟩:=q7;exact⟨x7,σ7,H7,I7.unpinned,r7,q7⟩
end
theorem QeB{lo:Int}{n:Nat}{g:TG}{tb:TS}{D:Ends}{σ:St}{H:Hp}(Pv:Nat->St->Hp->Prop)(h0:Pv 0 σ H)
  (hs:∀i σ H,i<n->Pv i σ H->g (.int (lo+i)) σ H λσ2 H2=>tb { D with nx:=Pv (i+1),ct:=Pv (i+1),bk:=D.nx } σ2 H2)(hd:∀σ H,Pv n σ H->D.nx σ H) :
  ∃W:Nat->Nat->St->Hp->Prop,(∃m,W 0 m σ H)/\∀i m σ H,W i m σ H ->
   ((Itr lo n).stop i H/\D.nx σ H)∨((Itr lo n).go i H/\∃N:St->Hp->Prop,(∀σ' H',N σ' H'->∃m',m'<m/\W (i+1) m' σ' H')/\∀x H',(Itr lo n).yld i H x H'->g x σ H' λσ2 H2=>tb { D with nx:=N,ct:=N,bk:=D.nx } σ2 H2):=by
 refine⟨λi m σ H=>m=n - i/\i<=n/\Pv i σ H,⟨n,by simp,Q7 _,h0⟩,?_⟩;rintro i m σ H ⟨rfl,hi,p⟩;by_cases hlt:i<n
 ·refine .inr ⟨hlt,Pv (i+1),λσ' H' p'=>⟨n - (i+1),by omega,rfl,hlt,p'⟩,λx H' y=>?_⟩;obtain⟨e,y⟩:=y;subst e y;exact hs i σ _ hlt p
 ·have e:i=n:=by omega
  subst e;exact .inl ⟨Qg _,hd σ H p⟩
abbrev R2:=V->V->Hp->VK->Prop
def OpR(X:Cx)(f:Value->Value->Sem Value)(r:R2):Prop:=
 ∀(pins:List (Addr×Obj))(s:Shared)(σ:St)(H:Hp)(x y:V)(v u:Value)(Q:VK),Inv X pins σ H s->RelV x v->RelV y u->r x y H Q ->
  wpAny (model X.prog X.w) X.A (f v u) (EP X pins σ Q) X.xe s
def UnR(X:Cx)(f:Value->Sem Value)(r:V->Hp->VK->Prop):Prop:=
 ∀(pins:List (Addr×Obj))(s:Shared)(σ:St)(H:Hp)(x:V)(v:Value)(Q:VK),Inv X pins σ H s->RelV x v->r x H Q ->
  wpAny (model X.prog X.w) X.A (f v) (EP X pins σ Q) X.xe s
def CallR(X:Cx)(f:Value)(r:List V->Hp->VK->Prop):Prop:=
 ∀(pins:List (Addr×Obj))(s:Shared)(σ:St)(H:Hp)(xs:List V)(us:List Value)(Q:VK),Inv X pins σ H s->Vals xs us->r xs H Q ->
  wpAny (model X.prog X.w) X.A (call f us) (EP X pins σ Q) X.xe s
def QBH(X:Cx)(r:V->Hp->(Bool->Hp->Prop)->Prop):Prop:=
 ∀(pins:List (Addr×Obj))(s:Shared)(σ:St)(H:Hp)(x:V)(v:Value)(Q:Bool->Hp->Prop),Inv X pins σ H s->RelV x v->r x H Q ->
  wpAny (model X.prog X.w) X.A (truthy v) (TP X pins σ Q) X.xe s
def tOp(r:R2)(ta tb:TE):TE:=λσ H Q=>ta σ H λx H1=>tb σ H1 λy H2=>r x y H2 Q
def tUn(r:V->Hp->VK->Prop)(ta:TE):TE:=λσ H Q=>ta σ H λx H1=>r x H1 Q
def rI(C:Int->Int->Prop)(g:Int->Int->V):R2:=λx y H Q=>∃i j,x=.int i/\y=.int j/\C i j/\Q (g i j) H
def rI0(g:Int->Int->V):R2:=λx y H Q=>∃i j,x=.int i/\y=.int j/\Q (g i j) H
def rU(g:Int->V):V->Hp->VK->Prop:=λx H Q=>∃i,x=.int i/\Q (g i) H
section
variable{X:Cx}{a b c:Q0}{ta tb tc:TE}{pos:Pos}
theorem QAf(ha:PE X a ta)(hb:PE X b tb){pins:List (Addr×Obj)}{s:Shared}{σ:St}{H:Hp}{R:V->V->Hp->Prop}(I:Inv X pins σ H s)
  (h:ta σ H λx H1=>tb σ H1 λy H2=>R x y H2){Q:Value->Shared->Prop}{f:Value->Value->Sem Value}
  (hf:∀v u s2 x y H2,Inv X pins σ H2 s2->RelV x v->RelV y u->R x y H2->wpAny (model X.prog X.w) X.A (f v u) Q X.xe s2) :
  wpAny (model X.prog X.w) X.A (eval a X.env) (λv s₁=>wpAny (model X.prog X.w) X.A (eval b X.env) (λu s₂=>wpAny (model X.prog X.w) X.A (f v u) Q X.xe s₂) X.xe s₁) X.xe s:=by
 refine thn (ha pins s σ H _ I h) λv s1 ⟨x,H1,I1,r1,q1⟩=>?_
 refine thn (hb pins s1 σ H1 _ I1 q1) λu s2 ⟨y,H2,I2,r2,q2⟩=>?_
 exact hf v u s2 x y H2 I2 r1 r2 q2
theorem pe_op{op:QfH}{r:R2}(ho:OpR X (binaryOp op) r)(ha:PE X a ta)(hb:PE X b tb):PE X (.BinOp a op b pos) (tOp r ta tb):=by
 intro pins s σ H Q I h;exact wpAny_BinOp (QAf ha hb I h λv u s2 x y H2 I2 rx ry q=>ho pins s2 σ H2 x y v u Q I2 rx ry q)
theorem Qzw{op:UnaryOp}{r:V->Hp->VK->Prop}(ho:UnR X (unaryOp op) r)(ha:PE X a ta):PE X (.UnaryOp op a pos) (tUn r ta):=by
 intro pins s σ H Q I h;exact UnaryOp_ (thn (ha pins s σ H _ I h) λv s1 ⟨x,H1,I1,r1,q1⟩=>ho pins s1 σ H1 x v Q I1 r1 q1)
theorem opI{f:Value->Value->Sem Value}{C:Int->Int->Prop}{g:Int->Int->Int}
  (rule:∀(i j:Int)(t u:Tok)(s:Shared)(Q:Value->Shared->Prop)(E:Value->Shared->Prop),C i j->Q (.int (g i j) s.toks) { s with toks:=s.toks+1 }->wpAny (model X.prog X.w) X.A (f (.int i t) (.int j u)) Q E s) :
  OpR X f (rI C λi j=>.int (g i j)):=by
 intro pins s σ H x y v u Q I rx ry h;obtain⟨i,j,rfl,rfl,hc,q⟩:=h;obtain⟨t,rfl⟩:=rx;obtain⟨t',rfl⟩:=ry;exact rule i j t t' s _ _ hc ⟨.int (g i j),H,I.tok _,⟨_,rfl⟩,q⟩
theorem Qyx{f:Value->Value->Sem Value}{g:Int->Int->Int}
  (rule:∀(i j:Int)(t u:Tok)(s:Shared)(Q:Value->Shared->Prop)(E:Value->Shared->Prop),Q (.int (g i j) s.toks) { s with toks:=s.toks+1 }->wpAny (model X.prog X.w) X.A (f (.int i t) (.int j u)) Q E s) :
  OpR X f (rI0 λi j=>.int (g i j)):=by
 intro pins s σ H x y v u Q I rx ry h;obtain⟨i,j,rfl,rfl,q⟩:=h;obtain⟨t,rfl⟩:=rx;obtain⟨t',rfl⟩:=ry;exact rule i j t t' s _ _ ⟨.int (g i j),H,I.tok _,⟨_,rfl⟩,q⟩
theorem QAF{f:Value->Value->Sem Value}{g:Int->Int->Bool}
  (rule:∀(i j:Int)(t u:Tok)(s:Shared)(Q:Value->Shared->Prop)(E:Value->Shared->Prop),Q (.bool (g i j)) s->wpAny (model X.prog X.w) X.A (f (.int i t) (.int j u)) Q E s) :
  OpR X f (rI0 λi j=>.bl (g i j)):=by
 intro pins s σ H x y v u Q I rx ry h;obtain⟨i,j,rfl,rfl,q⟩:=h;obtain⟨t,rfl⟩:=rx;obtain⟨t',rfl⟩:=ry;exact rule i j t t' s _ _ ⟨.bl (g i j),H,I,rfl,q⟩
def QBc(i j:Int):Prop:=0<=j/\j<=1000000/\i.natAbs<2^64
def CMul(i j:Int):Prop:=(-(2^64)<i/\i<2^64)∨(-(2^64)<j/\j<2^64)
theorem CMul.ok{i j:Int}(h:CMul i j):IntMulOk i j:=by
 rcases h with⟨h1,h2⟩ | ⟨h1,h2⟩
 ·exact .of_left (intBits_le_64 h1 h2)
 ·exact .of_right (intBits_le_64 h1 h2)
theorem op_add:OpR X (binaryOp .Add) (rI0 λi j=>.int (i+j)):=Qyx λ_ _ _ _ _ _ _ q=>add_int q
theorem QmM:OpR X (binaryOp .Sub) (rI0 λi j=>.int (i - j)):=Qyx λ_ _ _ _ _ _ _ q=>sub_int q
theorem Qfl:OpR X (binaryOp .Mult) (rI CMul λi j=>.int (i*j)):=opI λ_ _ _ _ _ _ _ hc q=>mul_int q hc.ok
theorem QjD:OpR X (binaryOp .Mod) (rI (λ_ j=>0<j) λi j=>.int (i % j)):=opI λi j _ _ _ _ _ hc q=>by
 have h1:(0:Int)<j:=hc;exact mod_int' (by omega) (by rw[Int.fmod_eq_emod_of_nonneg i (by omega)];exact q)
theorem Qsf:OpR X (binaryOp .Pow) (rI QBc λi j=>.int (i^j.toNat)):=opI λ_ _ _ _ _ _ _ hc q=>pow_int_small hc.1 hc.2.1 hc.2.2 q
theorem QjC:OpR X (binaryOp .LShift) (rI QBc λi j=>.int (i*2^j.toNat)):=opI λ_ _ _ _ _ _ _ hc q=>lshift_int_small hc.1 hc.2.1 hc.2.2 q
theorem Qw9:OpR X (binaryOp .BitAnd) (rI0 λi j=>.int (QcU i j)):=Qyx λ_ _ _ _ _ _ _ q=>and_int q
theorem QzF:OpR X (binaryOp .BitOr) (rI0 λi j=>.int (Qdl i j)):=Qyx λ_ _ _ _ _ _ _ q=>or_int q
theorem unI{f:Value->Sem Value}{g:Int->Int}
  (rule:∀(i:Int)(t:Tok)(s:Shared)(Q:Value->Shared->Prop)(E:Value->Shared->Prop),Q (.int (g i) s.toks) { s with toks:=s.toks+1 }->wpAny (model X.prog X.w) X.A (f (.int i t)) Q E s) :
  UnR X f (rU λi=>.int (g i)):=by
 intro pins s σ H x v Q I rx h;obtain⟨i,rfl,q⟩:=h;obtain⟨t,rfl⟩:=rx;exact rule i t s _ _ ⟨.int (g i),H,I.tok _,⟨_,rfl⟩,q⟩
theorem QvW:UnR X (unaryOp .USub) (rU λi=>.int (-i)):=unI λ_ _ _ _ _ q=>neg_int q
end
def scal:V->V->Bool
 |.non,.non=>true | .non,.int _=>true | .int _,.non=>true | .non,.bl _=>true | .bl _,.non=>true | .non,.str _=>true | .str _,.non=>true
 |.int _,.int _=>true | .bl _,.bl _=>true | .str _,.str _=>true | .byt _,.byt _=>true
 |.int _,.str _=>true | .str _,.int _=>true | .bl _,.str _=>true | .str _,.bl _=>true
 |_,_=>false
def rEq:R2:=λx y H Q=>scal x y=true/\Q (.bl (decide (x=y))) H
def rNe:R2:=λx y H Q=>scal x y=true/\Q (.bl (!decide (x=y))) H
theorem QnO{i j:Int}:decide (V.int i=V.int j)=(i == j):=by
 rw[Ze];simp
theorem Qsx{i j:Bool}:decide (V.bl i=V.bl j)=(i == j):=by
 rw[Ze];simp
theorem QnM{i j:Str}:decide (V.str i=V.str j)=(i == j):=by
 rw[Ze];simp
theorem QnP{i j:Array UInt8}:decide (V.byt i=V.byt j)=(i.toList == j.toList):=by
 rw[Ze];cases i;cases j;simp
section
variable{X:Cx}{a b c:Q0}{ta tb tc:TE}{pos:Pos}
theorem ZN{pins:List (Addr×Obj)}{σ:St}{H:Hp}{s:Shared}{Q:VK}{k k':Bool}(I:Inv X pins σ H s)(q:Q (.bl k) H)(e:k=k'):EP X pins σ Q (.bool k') s:=by
 subst e;exact⟨.bl k,H,I,rfl,q⟩
theorem Qw7:OpR X (compareOp .Eq) rEq:=by
 intro pins s σ H x y v u Q I rx ry h;obtain⟨hs,q⟩:=h;cases x with
 |non=>
  cases rx;cases y with
  |non=>cases ry;exact PySem.EqNone.eq_none_none (ZN I q (by simp))
  |bl j=>cases ry;exact PySem.EqNone.eq_none_bool (ZN I q (by simp))
  |int j=>obtain⟨t',rfl⟩:=ry;exact PySem.EqNone.eq_none_int (ZN I q (by simp))
  |str j=>obtain⟨t',rfl⟩:=ry;exact PySem.EqNone.eq_none_str (ZN I q (by simp))
  |_=>exact absurd (show false=true from hs) Qt
 |bl i=>
  cases rx;cases y with
  |non=>cases ry;exact PySem.EqNone.eq_bool_none (ZN I q (by simp))
  |bl j=>cases ry;exact eq_bool (ZN I q Qsx)
  |str j=>obtain⟨t',rfl⟩:=ry;exact PySem.EqMixed.eq_bool_str (ZN I q (by simp))
  |_=>exact absurd (show false=true from hs) Qt
 |int i=>
  obtain⟨t,rfl⟩:=rx;cases y with
  |non=>cases ry;exact PySem.EqNone.eq_int_none (ZN I q (by simp))
  |int j=>obtain⟨t',rfl⟩:=ry;exact eq_int (ZN I q QnO)
  |str j=>obtain⟨t',rfl⟩:=ry;exact PySem.EqMixed.eq_int_str (ZN I q (by simp))
  |_=>exact absurd (show false=true from hs) Qt
 |str i=>
  obtain⟨t,rfl⟩:=rx;cases y with
  |non=>cases ry;exact PySem.EqNone.eq_str_none (ZN I q (by simp))
  |bl j=>cases ry;exact PySem.EqMixed.eq_str_bool (ZN I q (by simp))
  |int j=>obtain⟨t',rfl⟩:=ry;exact PySem.EqMixed.eq_str_int (ZN I q (by simp))
  |str j=>obtain⟨t',rfl⟩:=ry;exact eq_str (ZN I q QnM)
  |_=>exact absurd (show false=true from hs) Qt
 |byt i=>
  obtain⟨t,rfl⟩:=rx;cases y with
  |byt j=>obtain⟨t',rfl⟩:=ry;exact PySem.W.eq_bytes (ZN I q QnP)
  |_=>exact absurd (show false=true from hs) Qt
 |_=>cases y<;>exact absurd (show false=true from hs) Qt
theorem Quh:OpR X (compareOp .NotEq) rNe:=by
 intro pins s σ H x y v u Q I rx ry h;obtain⟨hs,q⟩:=h;cases x with
 |non=>
  cases rx;cases y with
  |non=>cases ry;exact PySem.EqNone.ne_none_none (ZN I q (by simp))
  |bl j=>cases ry;exact PySem.EqNone.ne_none_bool (ZN I q (by simp))
  |int j=>obtain⟨t',rfl⟩:=ry;exact PySem.EqNone.ne_none_int (ZN I q (by simp))
  |str j=>obtain⟨t',rfl⟩:=ry;exact PySem.EqNone.ne_none_str (ZN I q (by simp))
  |_=>exact absurd (show false=true from hs) Qt
 |bl i=>
  cases rx;cases y with
  |non=>cases ry;exact PySem.EqNone.ne_bool_none (ZN I q (by simp))
  |bl j=>cases ry;exact ne_bool (ZN I q (congrArg not Qsx))
  |str j=>obtain⟨t',rfl⟩:=ry;exact PySem.EqMixed.ne_bool_str (ZN I q (by simp))
  |_=>exact absurd (show false=true from hs) Qt
 |int i=>
  obtain⟨t,rfl⟩:=rx;cases y with
  |non=>cases ry;exact PySem.EqNone.ne_int_none (ZN I q (by simp))
  |int j=>obtain⟨t',rfl⟩:=ry;exact ne_int (ZN I q (congrArg not QnO))
  |str j=>obtain⟨t',rfl⟩:=ry;exact PySem.EqMixed.ne_int_str (ZN I q (by simp))
  |_=>exact absurd (show false=true from hs) Qt
 |str i=>
  obtain⟨t,rfl⟩:=rx;cases y with
  |non=>cases ry;exact PySem.EqNone.ne_str_none (ZN I q (by simp))
  |bl j=>cases ry;exact PySem.EqMixed.ne_str_bool (ZN I q (by simp))
  |int j=>obtain⟨t',rfl⟩:=ry;exact PySem.EqMixed.ne_str_int (ZN I q (by simp))
  |str j=>obtain⟨t',rfl⟩:=ry;exact ne_str (ZN I q (congrArg not QnM))
  |_=>exact absurd (show false=true from hs) Qt
 |byt i=>
  obtain⟨t,rfl⟩:=rx;cases y with
  |byt j=>obtain⟨t',rfl⟩:=ry;exact PySem.W.ne_bytes (ZN I q (congrArg not QnP))
  |_=>exact absurd (show false=true from hs) Qt
 |_=>cases y<;>exact absurd (show false=true from hs) Qt
theorem Quj:OpR X (compareOp .Lt) (rI0 λi j=>.bl (decide (i<j))):=QAF λ_ _ _ _ _ _ _ q=>lt_int q
theorem QzG:OpR X (compareOp .GtE) (rI0 λi j=>.bl (decide (j<=i))):=QAF λ_ _ _ _ _ _ _ q=>ge_int q
theorem Qsg:OpR X (compareOp .Is) (λx y H Q=>y=.non/\Q (.bl (decide (x=.non))) H):=by
 intro pins s σ H x y v u Q I rx ry h;obtain⟨rfl,q⟩:=h;cases ry;refine is_none_gen (ZN I q ?_);cases x<;>first
  |(cases rx;rfl)
  |(obtain⟨t,rfl⟩:=rx;rfl)
theorem Qug:OpR X (compareOp .IsNot) (λx y H Q=>y=.non/\Q (.bl (!decide (x=.non))) H):=by
 intro pins s σ H x y v u Q I rx ry h;obtain⟨rfl,q⟩:=h;cases ry;refine isnot_none_gen (ZN I q ?_);cases x<;>first
  |(cases rx;rfl)
  |(obtain⟨t,rfl⟩:=rx;rfl)
theorem OpR.or{f:Value->Value->Sem Value}{r r':R2}(h:OpR X f r)(h':OpR X f r'):OpR X f (λx y H Q=>r x y H Q∨r' x y H Q):=by
 intro pins s σ H x y v u Q I rx ry q;rcases q with q | q
 ·exact h pins s σ H x y v u Q I rx ry q
 ·exact h' pins s σ H x y v u Q I rx ry q
theorem ZT(b:Q0){op:CmpOp}(h:op≠.In:=by decide)(h2:op≠.NotIn:=by decide):behindInMarks op b=false:=by
 have e1:(op == CmpOp.In)=false:=by cases op<;>first | rfl | exact absurd rfl h
 have e2:(op == CmpOp.NotIn)=false:=by cases op<;>first | rfl | exact absurd rfl h2
 cases b<;>simp[behindInMarks,e1,e2]
theorem Qdu{op:CmpOp}{r:R2}(ho:OpR X (compareOp op) r)(ha:PE X a ta)(hb:PE X b tb)(hm:behindInMarks op b=false):PE X (.Compare a [op] [b] pos) (tOp r ta tb):=by
 intro pins s σ H Q I h;exact wpAny_Compare1 (QAf ha hb I h λv u s2 x y H2 I2 rx ry q=>ho pins s2 σ H2 x y v u Q I2 rx ry q) hm
def Qs3(t:TE):TT:=λσ H Q=>t σ H λx H'=>∃k,x=.bl k/\Q k H'
theorem Qb8{op:CmpOp}{r:R2}(ho:OpR X (compareOp op) r)(ha:PE X a ta)(hb:PE X b tb)(hm:behindInMarks op b=false):PT X (.Compare a [op] [b] pos) (Qs3 (tOp r ta tb)):=by
 intro pins s σ H Q I h;refine wpAny_isTrue_Compare1 (thn (ha pins s σ H _ I h) λv s1 ⟨x,H1,I1,r1,q1⟩=>thn (hb pins s1 σ H1 _ I1 q1) λu s2 ⟨y,H2,I2,r2,q2⟩=>
  thn (ho pins s2 σ H2 x y v u _ I2 r1 r2 q2) λc s3 ⟨z,H3,I3,r3,k,e,q3⟩=>?_) hm
 subst e;cases r3;exact Qab ⟨H3,I3,q3⟩
def QAj(K:PySem.W.Frag)(x:V)(H:Hp)(k:Bool):Prop:=
 match x with
 |.non=>k=false
 |.bl b=>k=b
 |.int i=>k=(i != 0)
 |.str y=>y.length<=sizeLine/\k=((y.length:Int) != 0)
 |.byt y=>y.size<=sizeLine/\k=((y.size:Int) != 0)
 |.ref p=>(∃xs,SqL K H p xs/\k = !xs.isEmpty)∨(∃xs,SqT K H p xs/\k = !xs.isEmpty)∨∃kvs,H p=some (.dK kvs)/\k = !kvs.isEmpty
 |_=>False
theorem Qk3{κ:Type}{kvs:List (κ×V)}{vs:List (κ×Value)}(r:KV kvs vs):(!vs.isEmpty) = !kvs.isEmpty:=by
 cases r<;>rfl
theorem Qfu{xs:List V}{its:List Value}(r:Vals xs its):(!its.toArray.isEmpty) = !xs.isEmpty:=by
 cases r<;>simp
theorem Qfn:(sizeLine:Nat)<2^63:=by rw[ZI];decide
theorem QvZ:QBH X (λx H Q=>∃k,QAj X.K x H k/\Q k H):=by
 intro pins s σ H x v Q I rx h;obtain⟨k,e,q⟩:=h;have hl:=Qfn;have hs:sizeLine=16777216:=ZI;cases x with
 |non=>
  cases rx;have e':k=false:=e;subst e';exact truthy_none ⟨H,I,q⟩
 |bl b=>
  cases rx;have e':k=b:=e;subst e';exact Qab ⟨H,I,q⟩
 |int i=>
  obtain⟨t,rfl⟩:=rx;have e':k=(i != 0):=e;subst e';exact PySem.P.truthy_int ⟨H,I,q⟩
 |str y=>
  obtain⟨t,rfl⟩:=rx;obtain⟨hy,e'⟩:y.length<=sizeLine/\k=((y.length:Int) != 0):=e;subst e';exact PySem.P.truthy_str (by omega) ⟨H,I.tok _,q⟩
 |byt y=>
  obtain⟨t,rfl⟩:=rx;obtain⟨hy,e'⟩:y.size<=sizeLine/\k=((y.size:Int) != 0):=e;subst e';exact PySem.W.truthy_bytes (by omega) ⟨H,I.tok _,q⟩
 |ref p=>
  cases rx;have e':(∃xs,SqL X.K H p xs/\k = !xs.isEmpty)∨(∃xs,SqT X.K H p xs/\k = !xs.isEmpty)∨∃kvs,H p=some (.dK kvs)/\k = !kvs.isEmpty:=e
  rcases e' with⟨xs,hx,e'⟩ | ⟨xs,hx,e'⟩ | ⟨kvs,hx,e'⟩
  ·subst e';obtain⟨its,r,pl,hz⟩:=I.list hx;have hlen:=r.length;exact wpAny_truthy_list pl.isList (by simp only[Qj];omega) ⟨H,I.tok _,by rw[Qfu r];exact q⟩
  ·subst e';obtain⟨its,r,pl,hz⟩:=I.tuple hx;have hlen:=r.length;exact truthy_tuple pl (by simp only[Qj];omega) ⟨H,I.tok _,by rw[Qfu r];exact q⟩
  ·subst e';obtain⟨hz,hS,vs,r,m⟩:kvs.length<=sizeLine/\(p == sysModules)=false/\∃vs,KV kvs vs/\s.heap.DictOf (mixKind X.prog X.w) p vs:=I.hok p _ hx
   have hlen:kvs.length=vs.length:=QdD r;exact wpAny_truthy_dict hS m (by omega) ⟨H,I.tok _,by rw[Qk3 r];exact q⟩
 |_=>exact(show False from e).elim
theorem Qpa(ha:PE X a ta)(he:∀whole,isTrue a X.env whole=(do let v <- whole;standAt a.pos;holding [v] (truthy v))) :
  PT X a (λσ H Q=>ta σ H λx H'=>∃k,QAj X.K x H' k/\Q k H'):=by
 intro pins s σ H Q I h;exact isTrue_plain (thn (ha pins s σ H _ I h) λv s1 ⟨x,H1,I1,r1,q1⟩=>QvZ pins s1 σ H1 x v Q I1 r1 q1) (he _)
theorem vals1{x:V}{us:List Value}(r:Vals [x] us):∃u,us=[u]/\RelV x u:=by
 cases r with
 |cons r1 r2=>cases r2;exact⟨_,rfl,r1⟩
theorem vals2{x y:V}{us:List Value}(r:Vals [x,y] us):∃u w',us=[u,w']/\RelV x u/\RelV y w':=by
 cases r with
 |cons r1 r2=>
  cases r2 with
  |cons r3 r4=>cases r4;exact⟨_,_,rfl,r1,r3⟩
theorem QhO(hc:X.calm=true):CallR X (.builtin "max") (λxs H Q=>∃i j,xs=[.int i,.int j]/\Q (.int (if j > i then j else i)) H):=by
 intro pins s σ H xs us Q I r h;obtain⟨i,j,rfl,q⟩:=h;obtain⟨u,w',rfl,⟨t,rfl⟩,⟨t',rfl⟩⟩:=vals2 r;refine max_two_ints (I.ok.hd hc) λh' tk k=>⟨_,H,I.kept k,?_,q⟩
 by_cases hj:j > i
 ·rw[if_pos hj,if_pos hj];exact⟨_,rfl⟩
 ·rw[if_neg hj,if_neg hj];exact⟨_,rfl⟩
theorem call_min2(hc:X.calm=true):CallR X (.builtin "min") (λxs H Q=>∃i j,xs=[.int i,.int j]/\Q (.int (if j<i then j else i)) H):=by
 intro pins s σ H xs us Q I r h;obtain⟨i,j,rfl,q⟩:=h;obtain⟨u,w',rfl,⟨t,rfl⟩,⟨t',rfl⟩⟩:=vals2 r;refine min_two_ints (I.ok.hd hc) λh' tk k=>⟨_,H,I.kept k,?_,q⟩
 by_cases hj:j<i
 ·rw[if_pos hj,if_pos hj];exact⟨_,rfl⟩
 ·rw[if_neg hj,if_neg hj];exact⟨_,rfl⟩
end
structure ObjM (h:Heap) (x dx C:Addr) (mA:Str->Option Value):Prop where
 obj:h.get? x=some (PySem.W.instObj C dx)
 ns:h.Ns1 dx mA
 ne:dx≠x
theorem Qng{h:Heap}{dx:Addr}{mA:Str->Option Value}(n:h.Ns1 dx mA):∃od,h.get? dx=some od/\∀name,PySem.W.lookIn name od=some (mA name):=by
 obtain⟨o,es,ep,ho,hd,hk,_,hm⟩:=n;refine⟨o,ho,λname=>?_⟩;have e:=hm name;unfold nsFind findBy at e;rw[<- Array.find?_toList] at e;unfold PySem.W.lookIn;rw[hd]
 dsimp only
 split
 ·rename_i y q
  rw[q] at e;exact congrArg some e
 ·rename_i q
  rw[q] at e;have a:es.toList.any (·.refKey)=false:=by
   rw[QrB];intro y hy;obtain⟨z,t,hkey⟩:=hk y (ZO.mp hy);simp[DictEntry.refKey,hkey]
  have a':¬es.toList.any (·.refKey)=true:=by rw[a];exact Qt
  rw[if_neg a'];exact congrArg some e
theorem ObjM.look{h:Heap}{x dx C:Addr}{mA:Str->Option Value}(I:ObjM h x dx C mA):∃od,PySem.W.InstAt h x (PySem.W.instObj C dx) C (some od)/\∀name,PySem.W.lookIn name od=some (mA name):=
 let ⟨od,ho,hl⟩:=Qng I.ns
 ⟨od,⟨I.obj,rfl,rfl,ho⟩,hl⟩
section
variable{prog:Qy}{w:Jc}{A:Jb}{E:Value->Shared->Prop}{s:Shared}{K:PySem.W.Frag}{x dx C f:Addr}{mA:Str->Option Value}{name:Str}{v:Value}
end
theorem RelO.some_of{v:V}{o:Option Value}(r:RelO (some v) o):∃u,o=some u/\RelV v u:=by
 cases o with
 |none=>exact(show False from r).elim
 |some u=>exact⟨u,rfl,r⟩
section
variable{P:Qy}{w:Jc}{H H':Hp}{h h':Heap}{a C dx:Addr}{fs fs':List (Str×V)}
theorem ins_get(hok:HOk P w H h)(e:H a=some (.ins C dx fs)):∃mA,ObjM h a dx C mA/\(∀f,RelO (fs.lookup f) (mA f))/\PySem.Within mA (fs.map (·.1))/\fs.length<=1000/\H dx=some (.own a):=by
 obtain⟨d,z,ne,ob,mA,n,r,q⟩:=(show ObjOk P w H h a (.ins C dx fs) from hok a _ e);exact⟨mA,⟨ob,n,ne⟩,r,q,z,d⟩
end
structure Cls (K:PySem.W.Frag) (C:Addr):Prop where
 pg:PySem.W.plainGet K C Str.empty=true
 hd:PySem.W.hasDictIn K C=true
 po:PySem.W.plainOver K C=true
 sa:PySem.W.findIn K (.ref C) "__setattr__" = some (some (.builtin "object.__setattr__"))
theorem Cls.get{K:PySem.W.Frag}{C:Addr}(c:Cls K C)(f:Str):PySem.W.plainGet K C f=true:=c.pg
section
variable{X:Cx}{pins:List (Addr×Obj)}{σ:St}{H:Hp}{s:Shared}{a C dx:Addr}{fs:List (Str×V)}{f:Str}{v:V}{A:Jb}{E:Value->Shared->Prop}
end
section
variable{X:Cx}{o e value:Q0}{f:Str}{pos pos' tpos:Pos}{ta tv:TE}
def rAdd:V->V->Hp->VK->Prop:=λx y H Q=>∃i j,x=.int i/\y=.int j/\Q (.int (i+j)) H
end
section
variable{X:Cx}{pins:List (Addr×Obj)}{σ:St}{H:Hp}{s:Shared}{A:Jb}{E:Value->Shared->Prop}{Q:Value->Shared->Prop}{c:Value}{b:Bool}
inductive TyOf (K:PySem.W.Frag) (H:Hp):V->Value->Prop where
 |non:TyOf K H .non (.type "NoneType")
 |bl (x:Bool):TyOf K H (.bl x) (.type "bool")
 |int (i:Int):TyOf K H (.int i) (.type "int")
 |str (x:Str):TyOf K H (.str x) (.type "str")
 |flt (x:UInt64):TyOf K H (.flt x) (.type "float")
 |lst {a:Addr} {xs:List V} (e:H a=some (.lst xs)):TyOf K H (.ref a) (.type "list")
 |frz {a:Addr} {o:Obj} {xs:List V} (e:H a=some (.frz o (.lst xs))):TyOf K H (.ref a) (.type "list")
 |tup {a:Addr} {xs:List V} (e:H a=some (.tup xs)):TyOf K H (.ref a) (.type "tuple")
 |dK {a:Addr} {kvs:List (Key×V)} (e:H a=some (.dK kvs)):TyOf K H (.ref a) (.type "dict")
 |dT {a:Addr} {kvs:List (List Key×V)} (e:H a=some (.dT kvs)):TyOf K H (.ref a) (.type "dict")
 |ins {a C dx:Addr} {fs:List (Str×V)} (e:H a=some (.ins C dx fs)) (cl:Cls K C) (ha:PySem.W.findIn K (.ref C) "__class__" = some (some (.builtin "object.__class__")))
   (hn:PySem.W.specialIn K (.builtin "object.__class__") "__get__" = some (some (.builtin "getset_descriptor.__get__"))) (htk:PySem.W.takesIn K (.builtin "object.__class__")=some true)
   (hm:PySem.W.mroIn K C (.type "object")=some true):TyOf K H (.ref a) (.ref C)
theorem Qnn{x:V}{u t:Value}(I:Inv X pins σ H s)(rx:RelV x u)(ty:TyOf X.K H x t)(e:PySem.W.kitOne X.K t c=some b)(h:∀tk,Q (.bool b) { s with toks:=tk }) :
  wpAny (model X.prog X.w) A (call (.builtin "isinstance") [u,c]) Q E s:=by
 cases ty with
 |non=>cases(show u=Jo from rx);exact PySem.W.kia_one PySem.W.kitx_none I.kIn YX e (λz=>nomatch z) h
 |bl y=>cases(show u=QcR y from rx);exact PySem.W.kia_one PySem.W.kitx_bool I.kIn YX e (λz=>nomatch z) h
 |int i=>obtain⟨t,q⟩:=(show ∃t,u=Qbc i t from rx);cases q;exact PySem.W.kia_one PySem.W.kitx_int I.kIn YX e (λz=>nomatch z) h
 |str y=>obtain⟨t,q⟩:=(show ∃t,u=Qkh y t from rx);cases q;exact PySem.W.kia_one PySem.W.kitx_str I.kIn YX e (λz=>nomatch z) h
 |flt y=>obtain⟨t,q⟩:=(show ∃t,u=QyO y t from rx);cases q;exact PySem.W.kia_one PySem.W.kitx_float I.kIn YX e (λz=>nomatch z) h
 |@lst a xs ea=>
  cases(show u=QF a from rx);obtain⟨_,_,n,_,h1⟩:=(show ObjOk X.prog X.w H s.heap a (.lst xs) from I.hok a _ ea);exact PySem.W.kia_one PySem.W.kitx_list I.kIn ⟨_,h1,rfl⟩ e (λz=>nomatch z) h
 |@frz a ob xs ea=>
  cases(show u=QF a from rx);obtain⟨_,_,_,n,_,h1⟩:=(show ObjOk X.prog X.w H s.heap a (.frz ob (.lst xs)) from I.hok a _ ea);exact PySem.W.kia_one PySem.W.kitx_list I.kIn ⟨_,h1,rfl⟩ e (λz=>nomatch z) h
 |@tup a xs ea=>
  cases(show u=QF a from rx);obtain⟨_,_,_,p⟩:=(show ObjOk X.prog X.w H s.heap a (.tup xs) from I.hok a _ ea);obtain⟨o,h1,h2,_⟩:=p;exact PySem.W.kia_one PySem.W.kitx_tuple I.kIn ⟨o,h1,h2⟩ e (λz=>nomatch z) h
 |@dK a kvs ea=>
  cases(show u=QF a from rx);obtain⟨_,_,vs,_,p⟩:=(show ObjOk X.prog X.w H s.heap a (.dK kvs) from I.hok a _ ea);obtain⟨o,es,ep,h1,h2,_⟩:=p;exact PySem.W.kia_one PySem.W.kitx_dict I.kIn ⟨o,h1,h2.1⟩ e (λz=>nomatch z) h
 |@dT a kvs ea=>
  cases(show u=QF a from rx);obtain⟨_,_,xs,_,o,es,ep,h1,h2,_⟩:=(show ObjOk X.prog X.w H s.heap a (.dT kvs) from I.hok a _ ea);exact PySem.W.kia_one PySem.W.kitx_dict I.kIn ⟨o,h1,h2.1⟩ e (λz=>nomatch z) h
 |@ins a C dx fs ea cl ha hn htk hm=>
  cases(show u=QF a from rx);obtain⟨mA,O,_⟩:=ins_get I.hok ea;obtain⟨od,J,_⟩:=O.look;exact PySem.W.kia_one (PySem.W.kitx_own (cl.get _) cl.hd ha hn htk hm) I.kIn J e (λz=>nomatch z) h
end
structure Room (k:Nat) (A:Jb):Prop where
 hd:A.handled=none
 dp:A.depth+3*k+5<recursionLimit
 un:A.units+16*k+200<cLine
theorem Room.mono{j k:Nat}{A:Jb}(r:Room k A)(h:j<=k):Room j A:=⟨r.hd,by have:=r.dp;omega,by have:=r.un;omega⟩
theorem Room.deeper{k:Nat}{A:Jb}(r:Room (k+1) A)(env:Env):Room k (A.deeper env):=
 ⟨r.hd,by have:=r.dp;show A.depth+1+3*k+5<_;omega,by have:=r.un;show A.units+3+16*k+200<_;omega⟩
theorem Room.depth{k:Nat}{A:Jb}(r:Room k A):A.depth<recursionLimit:=by have:=r.dp;omega
theorem Room.units{k:Nat}{A:Jb}(r:Room k A):A.units+64<cLine:=by have:=r.un;omega
theorem Room.units0{k:Nat}{A:Jb}(r:Room k A):A.units<cLine:=by have:=r.un;omega
def Qe1:TA:=λ_ H Q=>Q [] H
def Qak(ta:TE)(tr:TA):TA:=λσ H Q=>ta σ H λx H1=>tr σ H1 λxs H2=>Q (x::xs) H2
section
variable{X:Cx}{e:Q0}{es:List Q0}{te:TE}{t:TA}{pos:Pos}
theorem pa_nil:PA X [] Qe1:=λ_ _ _ _ H Q I h=>QoG ⟨[],H,I,.nil,h⟩
theorem pa_cons(ha:PE X e te)(hr:PA X es t)(hs:starEach (e::es) X.env=(false,eval e X.env)::starEach es X.env:=by rfl):PA X (e::es) (Qak te t):=by
 intro pos pins s σ H Q I h;rw[hs];show wpAny _ _ (spliced ((false,eval e X.env)::backTo pos (starEach es X.env))) _ _ s;refine QdS (thn (ha pins s σ H _ I h) λu s1 ⟨x,H1,I1,r1,q1⟩=>?_);exact thn (hr pos pins s1 σ H1 _ I1 q1) λus s2 ⟨xs,H2,I2,r2,q2⟩=>⟨x::xs,H2,I2,.cons r1 r2,q2⟩
def QBg(t:TA):TE:=λσ H Q=>t σ H λxs H1=>xs.length<=sizeLine/\∀p,H1 p=none->Q (.ref p) (upd H1 p (.lst xs))
theorem Qsc(h:PA X es t):PE X (.List es pos) (QBg t):=by
 intro pins s σ H Q I hq;refine Qyg (thn (h pos pins s σ H _ I hq) λus s1 ⟨xs,H1,I1,r,z,q⟩=>⟨by rw[<- r.length];exact z,?_⟩);have hf:H1 s1.heap.objs.size=none:=I1.hok.fresh (Qg _);refine⟨.ref s1.heap.objs.size,upd H1 s1.heap.objs.size (.lst xs),I1.laid (t':=s1.toks) (λb u e=>Qc _ e) (Qg _) ?_,rfl,q _ hf⟩;exact⟨z,us,0,r,Qm _ rfl⟩
end
abbrev Sp:=List V->Hp->VK->XK->Prop
abbrev CXT:=List Env->Hp->Shared->XK->Value->Shared->Prop
structure Env0 (P:Qy) (w:Jc) (K:PySem.W.Frag) (mg:Str->Option Value) (base:Heap) (A:Jb) (outer:List Env) (s:Shared) (H:Hp):Prop where
 frames:A.frames=some outer
 mod:Mod K mg base
 bs:∀b o,base.get? b=some o->s.heap.get? b=some o/\H b=none
 bsz:base.objs.size<=s.heap.objs.size
 funs:s.heap.FunFrames base outer
 frf:∀b∈frs outer,H b=none
 hok:HOk P w H s.heap
 bare:Qe0 s.gens
def CE(outer:List Env)(P:Qy)(w:Jc)(H:Hp)(s:Shared)(Q:VK)(u:Value)(s':Shared):Prop:=
 ∃v H',s'.os=s.os/\Qe0 s'.gens/\Un (frs outer) [] H H' s.heap s'.heap/\HOk P w H' s'.heap/\RelV v u/\Q v H'
def CR(CX:CXT)(outer:List Env)(P:Qy)(w:Jc)(H:Hp)(s:Shared)(Q:VK)(E:XK)(r:Result)(s':Shared):Prop:=
 match r with
 |.ok (.ret u)=>CE outer P w H s Q u s'
 |.ok _=>False
 |.error e=>CX outer H s E e s'
structure FnOk (P:Qy) (w:Jc) (K:PySem.W.Frag) (mg:Str->Option Value) (base:Heap) (CX:CXT) (k:Nat) (f:Addr) (fd:Q6) (ps:List Str) (sp:Sp):Prop where
 len:∀vs H Q E,sp vs H Q E->vs.length=ps.length
 run:∀(A:Jb)(outer:List Env)(s:Shared)(H:Hp)(args:Args)(us:List Value)(vs:List V)(Q:VK)(E:XK),Room k A->Env0 P w K mg base A outer s H->QoH s fd args (ps.zip us)->Vals vs us->sp vs H Q E ->
  codeAny (model P w) A (.call (.ref f) args) (CR CX outer P w H s Q E) s
theorem FnOk.imp{P:Qy}{w:Jc}{K:PySem.W.Frag}{mg:Str->Option Value}{base:Heap}{CX:CXT}{k:Nat}{f:Addr}{fd:Q6}{ps:List Str}{sp sp':Sp}(F:FnOk P w K mg base CX k f fd ps sp)
  (h:∀vs H Q E,sp' vs H Q E->sp vs H Q E):FnOk P w K mg base CX k f fd ps sp':=
 ⟨λvs H Q E q=>F.len vs H Q E (h _ _ _ _ q),λA outer s H args us vs Q E hr he hb hv hs=>F.run A outer s H args us vs Q E hr he hb hv (h _ _ _ _ hs)⟩
section
variable{X:Cx}{pins:List (Addr×Obj)}{σ:St}{H:Hp}{s s':Shared}
theorem Inv.env0(I:Inv X pins σ H s):Env0 X.prog X.w X.K X.mg X.base X.A X.stack s H:=
 ⟨I.ok.frames,I.ok.mod,I.bs,QY I.ok.bsz I.sz,I.stack,I.stkFree,I.hok,I.bare⟩
theorem Inv.after{Q:VK}{u:Value}(I:Inv X pins σ H s)(h:CE X.stack X.prog X.w H s Q u s'):EP X pins σ Q u s':=by
 obtain⟨v,H',os,bare,un,hok,r,q⟩:=h;obtain⟨hh,g,d,t,os'⟩:=s';obtain rfl:os'=s.os:=os;exact⟨v,H',I.call (h':=hh) (g':=g) (d':=d) (t':=t) (ch:=[]) un hok bare (λb z=>absurd z (by simp)),r,q⟩
end
def QlY(sp:Sp)(dvs:List V)(E:XK)(t:TA):TE:=λσ H Q=>t σ H λvs H1=>sp (vs++dvs) H1 Q E
def Binds(K:PySem.W.Frag)(fd:Q6)(ps:List Str)(ds:List Value):Prop:=
 ∀(s:Shared)(us:List Value),K.In s.heap->(us++ds).length=ps.length->QoH s fd ⟨us,[]⟩ (ps.zip (us++ds))
theorem Binds.all{K:PySem.W.Frag}{fd:Q6}{ps:List Str}(h:∀us:List Value,us.length=ps.length->bindArgs fd ⟨us,[]⟩=pure (ps.zip us)):Binds K fd ps []:=λs us _ hl=>by
 rw[Z5] at hl ⊢;exact .of_eq (h us hl)
def QcE(CX:CXT)(X:Cx)(E:XK):Prop:=∀(pins:List (Addr×Obj))(σ:St)(H:Hp)(s:Shared)(e:Value)(s':Shared),Inv X pins σ H s->CX X.stack H s E e s'->X.xe e s'
section
variable{X:Cx}{CX:CXT}{k:Nat}{f C:Addr}{fd:Q6}{ps:List Str}{sp:Sp}{dvs:List V}{ds:List Value}{E:XK}{x m:Str}{p pos apos:Pos}{e o:Q0}{es:List Q0}{ta:TE}{t:TA}
theorem Qwi{pins:List (Addr×Obj)}{σ:St}{H:Hp}{s:Shared}{Q:VK}{us:List Value}{vs:List V}(F:FnOk X.prog X.w X.K X.mg X.base CX k f fd ps sp)(hr:Room k X.A)(hb:Binds X.K fd ps ds)(hd:Vals dvs ds)(hx:QcE CX X E)
  (I:Inv X pins σ H s)(r:Vals vs us)(h:sp (vs++dvs) H Q E):wpAny (model X.prog X.w) X.A (call (.ref f) us) (EP X pins σ Q) X.xe s:=by
 have r2:Vals (vs++dvs) (us++ds):=r.append hd;have hl:(us++ds).length=ps.length:=by rw[<- r2.length];exact F.len _ _ _ _ h
 refine wpAny_call (Qcg (F.run X.A X.stack s H ⟨us,[]⟩ (us++ds) (vs++dvs) Q E hr I.env0 (hb s us I.kIn hl) r2 h) λr s' hq=>?_);cases r with
 |error e=>exact hx pins σ H s e s' I hq
 |ok fl=>
  cases fl with
  |ret u=>exact I.after hq
  |next=>exact YD hq
  |brk=>exact YD hq
  |cont=>exact YD hq
theorem QcL(F:FnOk X.prog X.w X.K X.mg X.base CX k f fd ps sp)(hr:Room k X.A)(hg:Gl X x)(hm:X.mg x=some (.ref f))(hk:PySem.W.keepIn X.K (.ref f)=true)(hb:Binds X.K fd ps ds)(hd:Vals dvs ds)(hx:QcE CX X E)
  (ha:PA X (e::es) t)(hdb:(x == ("__debug__" : Str))=false:=by decide)(he:starEach (e::es) X.env=(false,eval e X.env)::starEach es X.env:=by rfl)(hpl:(backTo pos (starEach es X.env)).any (·.1)=false:=by rfl) :
  PE X (.Call (.Name x p) (e::es) [] pos) (QlY sp dvs E t):=by
 intro pins s σ H Q I h;refine Qcf (QuJ I hg hm ?_ hdb);refine PySem.W.callWith_K (h₀:=X.base) I.ok.mod.kin hk (thn (ha pos pins s σ H _ I h) λus s1 ⟨vs,H1,I1,r,q⟩=>⟨I1.kIn,?_⟩) he hpl;exact Qwi F hr hb hd hx I1 r q
end
section
variable{X:Cx}{CX:CXT}{k:Nat}{f C:Addr}{fd:Q6}{ps ks:List Str}{sp:Sp}{E:XK}{x m:Str}{p pos apos kpos:Pos}{e o:Q0}{es:List Q0}{kws:List Qat}{te ta:TE}{t tk:TA}{nm:Option Str}
variable{g:List Value->List Value->List Value}{gV:List V->List V->List V}
end
structure JV (N P:List Str) (sc:YA):Prop where
 kind:sc.kind=.function
 co:sc.isCoroutine=false
 gen:sc.isGenerator=false
 nd:N.Nodup
 pre:N.take P.length=P
 par:∀x∈P,sc.names.lookup x=some .local∨sc.names.lookup x=some .cell
 nofree:∀y∈sc.names,y.2≠.free
theorem QhS{kindOf:Str->Option Qae}{x:Str}:∀{binds:List (Str×Value)}{m:Str->Option Value},(∀v,(x,v)∉binds)->bindL kindOf binds m x=m x
 |[],_,_=>rfl
 |(n,v)::r,m,h=>by
  unfold bindL;rw[QhS λw hw=>h w (QX _ hw)];split
  ·have:x≠n:=by rintro rfl;exact h v JC
   simp[this]
  ·rfl
theorem QhU{kindOf:Str->Option Qae}{x:Str}:∀{binds:List (Str×Value)}{m:Str->Option Value},(∀v,(x,v)∉binds)->bindC kindOf binds m x=m x
 |[],_,_=>rfl
 |(n,v)::r,m,h=>by
  unfold bindC;rw[QhU λw hw=>h w (QX _ hw)];split
  ·rfl
  ·have:x≠n:=by rintro rfl;exact h v JC
   simp[this]
theorem QhT{kindOf:Str->Option Qae}{x:Str}{v:Value}:∀{P:List Str}{vs:List Value}{i:Nat}{m:Str->Option Value},P.Nodup->P[i]? = some x->vs[i]? = some v->kindOf x=some .local ->
  bindL kindOf (P.zip vs) m x=some v
 |[],_,_,_,_,h,_,_=>by simp at h
 |_::_,[],_,_,_,_,h,_=>by simp at h
 |p::P,w::vs,0,m,nd,h1,h2,hk=>by
  simp at h1 h2;subst h1;subst h2;show bindL kindOf ((p,w)::P.zip vs) m p=_;unfold bindL;rw[QhS λv hv=>(Jd.mp nd).1 (QgG hv).1,if_pos hk];simp
 |p::P,w::vs,i+1,m,nd,h1,h2,hk=>by
  show bindL kindOf ((p,w)::P.zip vs) m x=_;unfold bindL;exact QhT (i:=i) (Jd.mp nd).2 (by simpa using h1) (by simpa using h2) hk
theorem QhV{kindOf:Str->Option Qae}{x:Str}{v:Value}:∀{P:List Str}{vs:List Value}{i:Nat}{m:Str->Option Value},P.Nodup->P[i]? = some x->vs[i]? = some v->kindOf x≠some .local ->
  bindC kindOf (P.zip vs) m x=some v
 |[],_,_,_,_,h,_,_=>by simp at h
 |_::_,[],_,_,_,_,h,_=>by simp at h
 |p::P,w::vs,0,m,nd,h1,h2,hk=>by
  simp at h1 h2;subst h1;subst h2;show bindC kindOf ((p,w)::P.zip vs) m p=_;unfold bindC;rw[QhU λv hv=>(Jd.mp nd).1 (QgG hv).1,if_neg hk];simp
 |p::P,w::vs,i+1,m,nd,h1,h2,hk=>by
  show bindC kindOf ((p,w)::P.zip vs) m x=_;unfold bindC;exact QhV (i:=i) (Jd.mp nd).2 (by simpa using h1) (by simpa using h2) hk
def start(N:List Str)(vs:List V):St:=vs.map some++QL (N.length - vs.length) none
def Qoo(CX:CXT)(P:Qy)(w:Jc)(K:PySem.W.Frag)(mg:Str->Option Value)(base:Heap)(N:List Str)(qual:Str)(scope:YA)(f:Addr)(cd:Value)(A:Jb)(outer:List Env)(s:Shared)(H:Hp)(E:XK):Cx where
 prog:=P
 w:=w
 K:=K
 mg:=mg
 base:=base
 A:=A.deeper (envOfC qual scope s.heap.objs.size f cd)
 N:=N
 s₀:=s
 H₀:=H
 env:=envOfC qual scope s.heap.objs.size f cd
 outer:=outer
 stack:=envOfC qual scope s.heap.objs.size f cd::outer
 ex:=[]
 calm:=true
 fn:=λ_=>true
 pn:=[]
 xe:=λe s'=>wpAny (model P w) (A.deeper (envOfC qual scope s.heap.objs.size f cd)) (leaving (envOfC qual scope s.heap.objs.size f cd) e) (λ_ s''=>CX outer H s E e s'') (λe' s''=>CX outer H s E e' s'') s'
theorem Qj9{sc:YA}{n:Nat}{x:Str}(h:sc.names.lookup x=some .cell):∃c,(cellsFrom n sc.names []).lookup x=some c:=by
 have q:=PySem.W.cellsFrom_some sc.names n [] (.inl h);exact QgU.mp q
theorem Qno{CX:CXT}{P:Qy}{w:Jc}{K:PySem.W.Frag}{mg:Str->Option Value}{base:Heap}{N ps:List Str}{qual:Str}{scope:YA}{f:Addr}{cd:Value}{A:Jb}{outer:List Env}{s s1:Shared}{H:Hp}{E:XK}{us:List Value}{vs:List V}
  (S:JV N ps scope)(hd:A.handled=none)(e0:Env0 P w K mg base A outer s H)(hl:vs.length=ps.length)(r:Vals vs us)
  (x:InCallC s s.heap.objs.size (bindL (envOfC qual scope s.heap.objs.size f cd).kindOf (ps.zip us) λ_=>none) (cellsFrom (s.heap.objs.size+1) scope.names []) (bindC (envOfC qual scope s.heap.objs.size f cd).kindOf (ps.zip us) λ_=>none) s1) :
  Inv (Qoo CX P w K mg base N qual scope f cd A outer s H E) [] (start N vs) H s1:=by
 have hpl:ps.length<=N.length:=by have:=congrArg QgK S.pre;rw[Zh] at this;omega
 obtain⟨h1,tk,rfl,hk⟩:=x.done;have noA:∀b:Addr,b∉(Qoo CX P w K mg base N qual scope f cd A outer s H E).ex:=λb z=>absurd (show b∈([]:List Addr) from z) (by simp)
 refine⟨⟨e0.mod,S.kind,rfl,rfl,Qg _,λy z c h1 h2=>?_,λy hy=>?_,λy c _ h=>?_,λ_=>hd,Around.frames_deeper e0.frames,.inr ⟨rfl,rfl⟩,λb z=>absurd z (noA b),e0.bs,e0.bsz,λb _ _=>noA b,λb z=>absurd z (noA b),e0.funs,e0.frf⟩,
  rfl,e0.bare,Un.kept hk,⟨_,x.toInCall.ns,λi y v h1 h2 h3=>?_⟩,λy c h=>⟨_,x.cell y c h⟩,e0.hok.fresh (Qg _),λy c h=>?_,λp hp=>absurd (show p∈([]:List (Addr×Obj)) from hp) (by simp),e0.hok.kept hk,?_⟩
 ·exact name_of_addr x.apart (PySem.mem_of_lookup h1) (PySem.mem_of_lookup h2)
 ·have hy:scope.names.lookup y=some .cell∨scope.names.lookup y=some .free:=hy;rcases hy with hy | hy
  ·exact Qj9 hy
  ·exact absurd rfl (S.nofree _ (PySem.mem_of_lookup hy))
 ·exact ZJ (x.above y c (PySem.mem_of_lookup h))
 ·have hi:i<vs.length:=by
   unfold start at h2;by_cases hi:i<vs.length
   ·exact hi
   ·rw[JS (by simpa using hi)] at h2;rw[ZW] at h2;split at h2<;>cases h2
  have ha:vs[i]? = some v:=by
   unfold start at h2;rw[Yn (by simpa using hi),Qo] at h2;cases e:vs[i]? with
   |none=>rw[e] at h2;cases h2
   |some a=>rw[e] at h2;cases h2;rfl
  obtain⟨u,hu,rv⟩:=r.get ha;have hp:ps[i]? = some y:=by
   rw[<- S.pre,Qii (by omega)];exact h1
  have ndP:ps.Nodup:=by rw[<- S.pre];exact S.nd.sublist (Qrw _ _)
  refine⟨u,rv,?_⟩;rcases S.par y (QJ hp) with k | k
  ·exact .inl ⟨k,QhT ndP hp hu k⟩
  ·obtain⟨c,e⟩:=Qj9 (n:=s.heap.objs.size+1) k;refine .inr ⟨.inl k,c,e,?_⟩;have q:=x.cell y c e;rw[QhV ndP hp hu (by show scope.names.lookup y≠_;rw[k];decide)] at q;exact q
 ·exact e0.hok.fresh (ZJ (x.above y c (PySem.mem_of_lookup h)))
 ·unfold start;show _=N.length;rw[Qw,Qa,QaS];omega
theorem QzY{CX:CXT}{P:Qy}{w:Jc}{K:PySem.W.Frag}{mg:Str->Option Value}{base:Heap}{k:Nat}{f:Addr}{name qual:Str}{params:Arguments}{body:List Y2}{scope:YA}{dV kV doc pm cdv ct oc:Value}{an od:Option Addr}
  {osl:Array (Option Value)} {N ps:List Str} {sp:Sp} (lk:K.lookup f=some ⟨oc,od,.func (PySem.W.fnOf name qual params body scope dV kV doc pm an cdv ct),osl⟩) (hcd:PySem.W.codeIn K cdv qual=true) (S:JV N ps scope)
  (len:∀vs H Q E,sp vs H Q E->vs.length=ps.length)
  (hbody:∀(A:Jb)(outer:List Env)(s:Shared)(H:Hp)(vs:List V)(Q:VK)(E:XK),Room k (A.deeper (envOfC qual scope s.heap.objs.size f cdv))->sp vs H Q E ->
   ∃t,PSs (Qoo CX P w K mg base N qual scope f cdv A outer s H E) body t/\t { nx:=λ_ H'=>Q .non H',rt:=Q } (start N vs) H) :
  FnOk P w K mg base CX (k+1) f (PySem.W.fnOf name qual params body scope dV kV doc pm an cdv ct) ps sp:=by
 refine⟨len,λA outer s H args us vs Q E hr e0 hb r hsp=>?_⟩;have hl:=len _ _ _ _ hsp;have KX:K.In s.heap:=e0.mod.kin.keeps λb o e=>(e0.bs b o e).1
 have lim:s.heap.NoLimit:=e0.mod.nolimit.keeps λb o e=>(e0.bs b o e).1
 have hkind:∀y∈ps.zip us,scope.names.lookup y.1=some .local∨(scope.names.lookup y.1=some .cell/\((cellsFrom (s.heap.objs.size+1) scope.names []).lookup y.1).isSome=true):=λ⟨n,v⟩ hy=>by
  rcases S.par n (QgG hy).1 with q | q
  ·exact .inl q
  ·exact .inr ⟨q,PySem.W.cellsFrom_some _ _ _ (.inl q)⟩
 refine codeAny_call_function hr.depth (KX _ _ lk) rfl S.co S.gen rfl (PySem.W.codeRec_of KX hcd) (hb _ _ _ _ ?_);refine wpAny_newFunctionEnv_cells S.kind hkind λenv he s1 x=>?_
 subst he;refine⟨lim.keeps x.toInCall.keep,codeAny_func ?_⟩;obtain⟨t,ht,hq⟩:=hbody A outer s H vs Q E (hr.deeper _) hsp;have I:Inv (Qoo CX P w K mg base N qual scope f cdv A outer s H E) [] (start N vs) H s1:=Qno S hr.hd e0 hl r x;refine wpAny_mono (ht [] s1 (start N vs) H _ I hq) (λfl s' hs=>?_) λe s' hs=>hs
 have fin:∀{σ':St}{H':Hp}{v:V}{u:Value},Inv (Qoo CX P w K mg base N qual scope f cdv A outer s H E) [] σ' H' s'->RelV v u->Q v H'->CE outer P w H s Q u s':=
  λ{σ' H' v u} J rv q=>⟨v,H',J.os,J.bare,J.base,J.hok,rv,q⟩
 cases fl with
 |ret u=>
  obtain⟨v,σ',H',J,rv,q⟩:=hs;exact fin J rv q
 |next=>
  obtain⟨σ',H',J,q⟩:=hs;exact fin (v:=V.non) (u:=Jo) J rfl q
 |brk=>
  obtain⟨_,_,_,q⟩:=hs;exact YD q
 |cont=>
  obtain⟨_,_,_,q⟩:=hs;exact YD q
section
variable{X:Cx}{x:Str}{p pos:Pos}{e:Q0}{es:List Q0}{t:TA}{id T:String}{r:List V->Hp->VK->Prop}
def tCB(r:List V->Hp->VK->Prop)(t:TA):TE:=λσ H Q=>t σ H λvs H1=>r vs H1 Q
theorem pe_callB(hc:CallR X (.builtin id) r)(hg:Gl X x)(hm:X.mg x=none)(hv:bootBuiltins x=some (.builtin id))(ha:PA X (e::es) t)(hn:x ≠ "__name__" := by decide)(hdb:(x == ("__debug__" : Str))=false:=by decide)
  (he:starEach (e::es) X.env=(false,eval e X.env)::starEach es X.env:=by rfl)(hpl:(backTo pos (starEach es X.env)).any (·.1)=false:=by rfl):PE X (.Call (.Name x p) (e::es) [] pos) (tCB r t):=by
 intro pins s σ H Q I h;refine Qcf (QcD I hg hm hv ?_ hn hdb);exact PyProof.Rows.callWith_builtin1 (thn (ha pos pins s σ H _ I h) λus s1 ⟨vs,H1,I1,r1,q1⟩=>hc pins s1 σ H1 vs us Q I1 r1 q1) he hpl
theorem Qax(hc:CallR X (.type T) r)(hg:Gl X x)(hm:X.mg x=none)(hv:bootBuiltins x=some (.type T))(ha:PA X (e::es) t)(hn:x ≠ "__name__" := by decide)(hdb:(x == ("__debug__" : Str))=false:=by decide)
  (he:starEach (e::es) X.env=(false,eval e X.env)::starEach es X.env:=by rfl)(hpl:(backTo pos (starEach es X.env)).any (·.1)=false:=by rfl):PE X (.Call (.Name x p) (e::es) [] pos) (tCB r t):=by
 intro pins s σ H Q I h;refine Qcf (QcD I hg hm hv ?_ hn hdb);exact JF (thn (ha pos pins s σ H _ I h) λus s1 ⟨vs,H1,I1,r1,q1⟩=>hc pins s1 σ H1 vs us Q I1 r1 q1) he hpl
end
end L2
namespace HT
section
open PySem.SeqAt
open PySem.AutoSeq1 (wpAny_loadPart')
open PySem.MeetsSeq PySem.MeetsSeq2 PySem.MeetsSeq3
end
section
variable{prog:Qy}{w:Jc}{A:Jb}{E:Value->Shared->Prop}{s:Shared}
theorem Qve{t b:Addr}{vs ws:List Value}{Q:Value->Shared->Prop}(ht:IsTup s.heap t vs.toArray)(hb:IsTup s.heap b ws.toArray)(hv:vs≠[])
  (h1:ws=[]->Q (.ref t) s)(h2:ws≠[]->Q (.ref s.heap.objs.size) { s with heap:=s.heap.push { cls:=.type "tuple",data:=.seq (vs++ws).toArray } })
  (hsz:vs.length+ws.length<=sizeLine):wpAny (model prog w) A (binaryOp .Add (.ref t) (.ref b)) Q E s:=by
 obtain⟨⟨cls,dd,data,sl⟩,ho,hc,n,hd⟩:=id ht;obtain⟨⟨cls2,dd2,data2,sl2⟩,ho2,hc2,n2,hd2⟩:=id hb;simp only at hc hd hc2 hd2;subst hc hd hc2 hd2;have e:vs.toArray++ws.toArray=(vs++ws).toArray:=by simp
 by_cases hw:ws=[]
 ·exact QsJ ⟨_,ho,rfl⟩ ⟨_,ho2,rfl⟩ Qic Qos PySem.F.slot_tuple_add PySem.F.entry_tuple_add (PySem.F.args_tuple_add_2 _ _)
   (tuple_addW1 t b vs.toArray ws.toArray n n2 dd dd2 sl sl2 (by simpa using hv) (by simp[hw])) ⟨ho,ho2,h1 hw⟩
 ·refine QsJ ⟨_,ho,rfl⟩ ⟨_,ho2,rfl⟩ Qic Qos PySem.F.slot_tuple_add PySem.F.entry_tuple_add (PySem.F.args_tuple_add_2 _ _)
   (tuple_addW2 t b vs.toArray ws.toArray n n2 dd dd2 sl sl2 (by simpa using hv) (by simpa using hw) (by rw[Qj,Qj];exact hsz)) ⟨ho,ho2,?_⟩
  rw[e];exact h2 hw
def sIx(n d:Nat):Option Int->Nat
 |none=>d
 |some v=>if v<0 then(v+(n:Int)).toNat else min v.toNat n
theorem Qf4(n d:Nat):sIx n d none=d:=rfl
theorem Qma(n d k:Nat):sIx n d (some (k:Int))=min k n:=by
 show(if(k:Int)<0 then((k:Int)+(n:Int)).toNat else min (k:Int).toNat n)=min k n;rw[if_neg (by omega),Qq]
theorem Qwf(n d:Nat)(hd:d<=n)(o:Option Int):sIx n d o<=n:=by
 cases o with
 |none=>exact hd
 |some v=>
  show(if v<0 then(v+(n:Int)).toNat else min v.toNat n)<=n;by_cases hv:v<0
  ·rw[if_pos hv];omega
  ·rw[if_neg hv];exact QcB _ _
theorem QnY(v:Int)(n d:Nat):(if v<0 then max (v+(n:Int)) 0 else min v (n:Int))=((sIx n d (some v):Nat):Int):=by
 show(if v<0 then max (v+(n:Int)) 0 else min v (n:Int))=(((if v<0 then(v+(n:Int)).toNat else min v.toNat n):Nat):Int);by_cases hv:v<0
 ·simp only[if_pos hv];omega
 ·simp only[if_neg hv];omega
theorem Qlg(lo hi:Option Int)(n:Nat):QaW lo hi 1 (n:Int)=(((sIx n 0 lo:Nat):Int),((sIx n n hi:Nat):Int)):=by
 have h1:¬((1:Int)<0):=by omega
 unfold QaW;simp only[h1,if_false];refine QcW ?_ ?_
 ·cases lo with
  |none=>rfl
  |some v=>exact QnY v n 0
 ·cases hi with
  |none=>rfl
  |some v=>exact QnY v n n
theorem QkK(i j:Nat):YH (i:Int) (j:Int) 1=j - i:=by
 unfold YH;have h1:(1:Int) > 0:=by omega
 simp only[h1,if_true,Int.ediv_one];split<;>omega
theorem Qe9{v:Value}{o:Option Int}{Q:Option Int->Shared->Prop}(p:Qh8 v o)(h:Q o s):wpAny (model prog w) A (Qy5 v) Q E s:=by
 cases p with
 |none=>exact slicePart_none h
 |int i t=>exact slicePart_int h
theorem QbN{sl:Addr}{vl vu:Value}{lo hi:Option Int}{n:Nat}{Q:Int×Int×Nat->Shared->Prop}(hs:s.heap.IsSliceOf sl vl vu .none)(pl:Qh8 vl lo)(pu:Qh8 vu hi)
  (h:Q (((sIx n 0 lo:Nat):Int),1,sIx n n hi - sIx n 0 lo) s):wpAny (model prog w) A (QdF (.ref sl) (pure (n:Int))) Q E s:=by
 obtain⟨os,hos,hcs,hds⟩:=id hs;unfold QdF Qy6;refine wpAny_bind (wpAny_bind (Zf hos hds (x:=vl) rfl (wpAny_bind (Zf hos hds (x:=vu) rfl (wpAny_bind (Zf hos hds (x:=.none) rfl (Qd ?_)))))));refine wpAny_bind (slicePart_none ?_);show wpAny _ _ (if((1:Int) == 0)=true then _ else _) _ _ s;rw[if_neg (by decide)];refine wpAny_bind (Qe9 pl (wpAny_bind (Qe9 pu (wpAny_bind (Qd ?_)))));show wpAny _ _ (match QaW lo hi 1 (n:Int) with | (lo,hi)=>pure (lo,(1:Int),YH lo hi 1)) _ _ s;rw[Qlg lo hi n];show wpAny _ _ (pure (((sIx n 0 lo:Nat):Int),(1:Int),YH ((sIx n 0 lo:Nat):Int) ((sIx n n hi:Nat):Int) 1)) _ _ s;rw[QkK];exact Qd h
theorem Qpe(xs:Array Value)(i k:Nat):((Qf k).filterMap λ(m:Nat)=>xs[((i:Int)+(m:Int)*1).toNat]?).toArray=((xs.toList.drop i).take k).toArray:=by
 have e:(λ(m:Nat)=>xs[((i:Int)+(m:Int)*1).toNat]?)=λm=>xs[i+m]? := by
  funext m
  have:((i:Int)+(m:Int)*1).toNat=i+m:=by omega
  rw[this]
 rw[e];have:=pick_run xs i k;rw[Yk] at this;have e2:((λx=>xs[x]?)∘λx=>i+x)=λm=>xs[i+m]? := rfl
 rw[e2] at this;rw[this]
theorem Qdz{t sl:Addr}{items:Array Value}{vl vu:Value}{lo hi:Option Int}{Q:Value->Shared->Prop}(ht:IsTup s.heap t items)(hs:s.heap.IsSliceOf sl vl vu .none)(pl:Qh8 vl lo)(pu:Qh8 vu hi)
  (hw:¬(sIx items.size 0 lo=0/\sIx items.size items.size hi=items.size))
  (h:Q (.ref s.heap.objs.size) { s with heap:=s.heap.push { cls:=.type "tuple",data:=.seq ((items.toList.drop (sIx items.size 0 lo)).take (sIx items.size items.size hi - sIx items.size 0 lo)).toArray } })
  (hsz:items.size<=sizeLine):wpAny (model prog w) A (getItem (.ref t) (.ref sl)) Q E s:=by
 have htake:sizeOk (.seq ((items.toList.drop (sIx items.size 0 lo)).take (sIx items.size items.size hi - sIx items.size 0 lo)).toArray):=by
  show((items.toList.drop (sIx items.size 0 lo)).take (sIx items.size items.size hi - sIx items.size 0 lo)).toArray.size<=sizeLine;rw[Qj,Zh,Yg,Ql];omega
 have hj:sIx items.size items.size hi<=items.size:=Qwf _ _ (Qg _) hi;obtain⟨os,hos,hcs,hds⟩:=id hs;have hTs:s.TypeIs (.ref sl) "slice" := ⟨os,hos,hcs⟩;unfold getItem
 try with_reducible refine J3 ?_
 first | refine wpAny_bind (Qd ?_) | skip
 refine wpAny_bind (QyD ht.typeIs (by decide) ?_);refine wpAny_bind (JH (name:=Yy "__getitem__") ht.typeIs J1
  (Jy J1 ht.typeIs QvK ?_ (Qyh _ _)))
 show wpAny _ _ (QdE (.ref t) >>= _) _ _ s;refine wpAny_bind (tupleItemsOf_ ht ?_);refine wpAny_bind (Qay hTs ?_);rw[if_pos (by decide)];refine wpAny_bind (QbN hs pl pu ?_);have hno:¬((((sIx items.size 0 lo:Nat):Int) == 0&&(1:Int) == 1&&(sIx items.size items.size hi - sIx items.size 0 lo) == items.size)=true):=by
  intro q;rw[JK,JK] at q;have q1:((sIx items.size 0 lo:Nat):Int)=0:=eq_of_beq q.1.1;have q2:sIx items.size items.size hi - sIx items.size 0 lo=items.size:=eq_of_beq q.2;exact hw ⟨by omega,by omega⟩
 show wpAny _ _ (if(((sIx items.size 0 lo:Nat):Int) == 0&&(1:Int) == 1&&(sIx items.size items.size hi - sIx items.size 0 lo) == items.size)=true then _ else _) _ _ s;rw[if_neg hno,Qpe]
 first
  |exact wpAny_bind (m:=ZA _) (Q4 (Qd ⟨_,rfl,Qd h⟩) htake)
  |exact wpAny_bind (m:=ZA _) (Q4 (wpAny_bind (Qd (Qd ⟨_,rfl,Qd h⟩))) htake)
  |exact wpAny_bind (wpAny_bind (m:=ZA _) (Q4 (Qd (Qd ⟨_,rfl,Qd h⟩)) htake))
  |exact wpAny_bind (wpAny_bind (m:=ZA _) (Q4 (Qd ⟨_,rfl,Qd h⟩) htake))
end
end HT
namespace L2
abbrev TO:=St->Hp->(Option Int->Hp->Prop)->Prop
def PO(X:Cx)(e:Option Q0)(t:TO):Prop:=
 ∀(pins:List (Addr×Obj))(s:Shared)(σ:St)(H:Hp)(Q:Option Int->Hp->Prop),Inv X pins σ H s->t σ H Q ->
  wpAny (model X.prog X.w) X.A (evalPart e X.env) (λu s'=>∃o H',Inv X pins σ H' s'/\Qh8 u o/\Q o H') X.xe s
def Qs4:TO:=λ_ H Q=>Q none H
def Qza(t:TE):TO:=λσ H Q=>t σ H λx H1=>∃i,x=.int i/\Q (some i) H1
theorem intsAre_of{ns:List Int}:∀{us:List Value},Vals (ns.map V.int) us->Qbp us ns:=by
 induction ns with
 |nil=>intro us r;rw[Qlk] at r;cases r;exact .nil
 |cons n ns ih=>
  intro us r;rw[Js] at r;cases r with
  |cons r1 r2=>
   obtain⟨t,e⟩:=r1;subst e;exact .cons n t (ih r2)
section
variable{X:Cx}{e:Q0}{te:TE}{lo hi:Option Q0}{tl th:TO}{pos p2:Pos}
theorem QtE:PO X none Qs4:=by
 intro pins s σ H Q I h;rw[evalPart_none];exact Qd ⟨none,H,I,.none,h⟩
theorem QtD(h:PE X e te):PO X (some e) (Qza te):=by
 intro pins s σ H Q I hw;rw[evalPart_some];refine thn (h pins s σ H _ I hw) λu s1 ⟨x,H1,I1,r1,q1⟩=>?_
 obtain⟨i,rfl,q⟩:=q1;obtain⟨t,rfl⟩:=r1;exact⟨some i,H1,I1,.int i t,q⟩
def SlR(X:Cx)(r:V->Option Int->Option Int->Hp->VK->Prop):Prop:=
 ∀(pins:List (Addr×Obj))(s:Shared)(σ:St)(H:Hp)(x:V)(v vl vu:Value)(lo hi:Option Int)(sl:Addr)(Q:VK),Inv X pins σ H s->RelV x v->s.heap.IsSliceOf sl vl vu .none->Qh8 vl lo->Qh8 vu hi->r x lo hi H Q ->
  ∃T id,typeLookup (.type T) "__getitem__" = pure (some (.builtin id))/\s.TypeIs v T/\wpAny (model X.prog X.w) X.A (getItem v (.ref sl)) (EP X pins σ Q) X.xe s
def tSl(r:V->Option Int->Option Int->Hp->VK->Prop)(te:TE)(tl th:TO):TE:=λσ H Q=>te σ H λx H1=>tl σ H1 λl H2=>th σ H2 λu H3=>r x l u H3 Q
theorem Qpg{r:V->Option Int->Option Int->Hp->VK->Prop}(hr:SlR X r)(he:PE X e te)(hl:PO X lo tl)(hu:PO X hi th):PE X (.Subscript e (.Slice lo hi none p2) pos) (tSl r te tl th):=by
 intro pins s σ H Q I h;refine QyP (thn (he pins s σ H _ I h) λv s1 ⟨x,H1,I1,r1,q1⟩=>?_);refine wpAny_Slice (thn (hl pins s1 σ H1 _ I1 q1) λvl s2 ⟨l,H2,I2,pl,q2⟩=>thn (hu pins s2 σ H2 _ I2 q2) λvu s3 ⟨u,H3,I3,pu,q3⟩=>?_);rw[evalPart_none];refine Qd ?_
 have I4:Inv X pins σ H3 { s3 with heap:=s3.heap.push { cls:=.type "slice",data:=.fields #[vl,vu,.none] } }:=I3.kept (t':=s3.toks) λb ob q=>Qc _ q
 obtain⟨T,id,hT,ht,hg⟩:=hr pins { s3 with heap:=s3.heap.push { cls:=.type "slice",data:=.fields #[vl,vu,.none] } } σ H3 x v vl vu l u s3.heap.objs.size Q I4 r1 (Qyo ..) pl pu q3;show wpAny (model X.prog X.w) X.A (subscriptTail e (.Slice lo hi none p2) v (.ref s3.heap.objs.size)) (EP X pins σ Q) X.xe { s3 with heap:=s3.heap.push { cls:=.type "slice",data:=.fields #[vl,vu,.none] } };exact tail_any (ops:=[.ref s3.heap.objs.size,v]) ht hT hg (by with_unfolding_all rfl)
def Qj7(xs:List V)(lo hi:Option Int):List V:=(xs.drop (HT.sIx xs.length 0 lo)).take (HT.sIx xs.length xs.length hi - HT.sIx xs.length 0 lo)
theorem QeF(xs:List V)(lo hi:Option Int):(Qj7 xs lo hi).length<=xs.length:=by
 unfold Qj7;rw[Zh,Yg];omega
def QBi(K:PySem.W.Frag):V->Option Int->Option Int->Hp->VK->Prop:=λx lo hi H Q=>∃a xs,x=.ref a/\SqT K H a xs /\
 ¬(HT.sIx xs.length 0 lo=0/\HT.sIx xs.length xs.length hi=xs.length)/\∀p,H p=none->Q (.ref p) (upd H p (.tup (Qj7 xs lo hi)))
theorem Qv9:SlR X (QBi X.K):=by
 intro pins s σ H x v vl vu lo hi sl Q I rx hs pl pu h;obtain⟨a,xs,rfl,hx,hw,q⟩:=h;cases rx;obtain⟨its,r,ht,hz⟩:=I.tuple hx;have hlen:its.toArray.size=xs.length:=by rw[Qj];exact r.length.symm
 refine⟨"tuple",_,J1.lookup,ht.typeIs,?_⟩;refine HT.Qdz ht hs pl pu (by rw[hlen];exact hw) ?_ (by rw[hlen];exact hz)
 rw[hlen];refine⟨.ref s.heap.objs.size,_,I.laid (t':=s.toks) (o:=.tup (Qj7 xs lo hi)) (λb ob q=>Qc _ q) (Qg _) ?_,rfl,q _ (I.hok.fresh (Qg _))⟩;exact⟨QY (QeF xs lo hi) hz,_,(r.drop (HT.sIx xs.length 0 lo)).take (HT.sIx xs.length xs.length hi - HT.sIx xs.length 0 lo),TupN.new _ _⟩
def Qzn(K:PySem.W.Frag):R2:=λx y H Q=>∃a b xs ys,x=.ref a/\y=.ref b/\SqT K H a xs/\SqT K H b ys/\xs≠[]/\xs.length+ys.length<=sizeLine /\
 (ys=[]->Q (.ref a) H)/\(ys≠[]->∀p,H p=none->Q (.ref p) (upd H p (.tup (xs++ys))))
theorem Vals.nil_iff{xs:List V}{us:List Value}(r:Vals xs us):us=[]↔xs=[]:=by
 cases r with
 |nil=>simp
 |cons _ _=>simp
theorem Qul:OpR X (binaryOp .Add) (Qzn X.K):=by
 intro pins s σ H x y v u Q I rx ry h;obtain⟨a,b,xs,ys,rfl,rfl,ha,hb,hx,hz,q1,q2⟩:=h;cases rx;cases ry;obtain⟨its,r1,p1,_⟩:=I.tuple ha;obtain⟨its2,r2,p2,_⟩:=I.tuple hb;refine HT.Qve p1 p2 (λz=>hx (r1.nil_iff.mp z)) (λz=>⟨.ref a,H,I,rfl,q1 (r2.nil_iff.mp z)⟩) (λz=>?_) (by rw[<- r1.length,<- r2.length];exact hz);refine⟨.ref s.heap.objs.size,_,I.laid (t':=s.toks) (o:=.tup (xs++ys)) (λb ob q=>Qc _ q) (Qg _) ?_,rfl,q2 (λw=>z (r2.nil_iff.mpr w)) _ (I.hok.fresh (Qg _))⟩;exact⟨by rw[Qw];exact hz,_,r1.append r2,TupN.new _ _⟩
end
def ixN(n:Nat)(i:Int):Option Nat:=if 0<=i then(if i<n then some i.toNat else none) else if -(n:Int)<=i then some (i+n).toNat else none
def atI{α:Type}(xs:List α)(i:Int):Option α:=(ixN xs.length i).bind λj=>xs[j]?
theorem Qnm{n:Nat}{i:Int}{j:Nat}(h:ixN n i=some j):seqIndex? i n=some j/\j<n /\ -(n:Int)<=i/\i<n:=by
 unfold ixN at h;by_cases h0:0<=i
 ·rw[if_pos h0] at h;by_cases h1:i<n
  ·rw[if_pos h1] at h;have e:i.toNat=j:=Qx h;exact⟨by rw[QeT h0 h1,e],by omega,by omega,h1⟩
  ·rw[if_neg h1] at h;cases h
 ·rw[if_neg h0] at h;by_cases h1 : -(n:Int)<=i
  ·rw[if_pos h1] at h;have e:(i+n).toNat=j:=Qx h;exact⟨by rw[Qh0 (by omega) h1,e],by omega,h1,by omega⟩
  ·rw[if_neg h1] at h;cases h
theorem Qi3{α:Type}{xs:List α}{i:Int}{v:α}(h:atI xs i=some v):∃j,seqIndex? i xs.length=some j/\xs[j]? = some v/\j<xs.length /\ -(xs.length:Int)<=i/\i<xs.length:=by
 unfold atI at h;cases e:ixN xs.length i with
 |none=>rw[e] at h;cases h
 |some j=>
  rw[e] at h;obtain⟨h1,h2,h3,h4⟩:=Qnm e;exact⟨j,h1,h,h2,h3,h4⟩
theorem JU{α:Type}{xs:List α}{j:Nat}{v:α}(h:xs[j]? = some v):atI xs (j:Int)=some v:=by
 have hj:j<xs.length:=(QU.mp h).1;have e:ixN xs.length (j:Int)=some j:=by
  unfold ixN;rw[if_pos (by omega),if_pos (by omega)];simp
 unfold atI;rw[e];exact h
def Qi6(b:Q0):Prop:=∀o i,subscripted b false o i=operate [o,i] (getItem o i)
def IxR(X:Cx)(r:R2):Prop:=
 ∀(value slice:Q0)(pins:List (Addr×Obj))(s:Shared)(σ:St)(H:Hp)(x y:V)(v u:Value)(Q:VK),Inv X pins σ H s->RelV x v->RelV y u->r x y H Q ->
  subscripted slice false v u=operate [v,u] (getItem v u)->wpAny (model X.prog X.w) X.A (subscriptTail value slice v u) (EP X pins σ Q) X.xe s
def MtR(X:Cx)(id:String)(r:V->List V->Hp->VK->Prop):Prop:=
 ∀(pins:List (Addr×Obj))(s:Shared)(σ:St)(H:Hp)(x:V)(xs:List V)(v:Value)(us:List Value)(Q:VK),Inv X pins σ H s->RelV x v->Vals xs us->r x xs H Q ->
  wpAny (model X.prog X.w) X.A (call (.builtin id) (v::us)) (EP X pins σ Q) X.xe s
section
variable{X:Cx}{a b:Q0}{ta tb:TE}{pos:Pos}
theorem pe_ix{r:R2}(hr:IxR X r)(ha:PE X a ta)(hb:PE X b tb)(hs:Qi6 b):PE X (.Subscript a b pos) (tOp r ta tb):=by
 intro pins s σ H Q I h;exact QyP (QAf ha hb I h λv u s2 x y H2 I2 rx ry q=>hr a b pins s2 σ H2 x y v u Q I2 rx ry q (hs _ _))
def Qwp(K:PySem.W.Frag):R2:=λx y H Q=>∃p xs i v,x=.ref p/\y=.int i/\SqL K H p xs/\atI xs i=some v/\Q v H
def Qzl(K:PySem.W.Frag):R2:=λx y H Q=>∃p xs i v,x=.ref p/\y=.int i/\SqT K H p xs/\atI xs i=some v/\Q v H
theorem Qev:IxR X (Qwp X.K):=by
 intro value slice pins s σ H x y v u Q I rx ry h hs;obtain⟨p,xs,i,z,rfl,rfl,hq,he,q⟩:=h;cases rx;obtain⟨t,rfl⟩:=ry;obtain⟨its,r,pl,hz⟩:=I.list hq;obtain⟨j,h1,h2,h3,h4,h5⟩:=Qi3 he;obtain⟨w,ew,rw'⟩:=r.get h2;have hl:=r.length;have hn:=Qfn;have fin:EP X pins σ Q w s:=⟨z,H,I,rw',q⟩;by_cases h0:0<=i
 ·have hj:i.toNat=j:=by
   rw[QeT h0 h5] at h1;exact Qx h1
  exact item_listR pl.isList h0 (by omega) (by rw[hj];simpa using ew) fin hs
 ·have hj:(i+(its.toArray.size:Int)).toNat=j:=by
   rw[Qh0 (by omega) h4] at h1;rw[Qj,<- hl];exact Qx h1
  exact Qrt (x:=w) pl.isList.typeIs QyJ.lookup
   (Qrr (Q:=λr s'=>r=w/\EP X pins σ Q r s') pl.isList (by omega) (by rw[Qj]<;>omega) (by omega) (by rw[hj];simpa using ew) ⟨rfl,fin⟩) hs
theorem ix_tup:IxR X (Qzl X.K):=by
 intro value slice pins s σ H x y v u Q I rx ry h hs;obtain⟨p,xs,i,z,rfl,rfl,hq,he,q⟩:=h;cases rx;obtain⟨t,rfl⟩:=ry;obtain⟨its,r,pl,hz⟩:=I.tuple hq;obtain⟨j,h1,h2,h3,h4,h5⟩:=Qi3 he;obtain⟨w,ew,rw'⟩:=r.get h2;have hl:=r.length;have hn:=Qfn;have fin:EP X pins σ Q w s:=⟨z,H,I,rw',q⟩;exact Qrt (x:=w) pl.typeIs slot_tuple_getitem.lookup
  (getItem_tuple (j:=j) (Q:=λr s'=>r=w/\EP X pins σ Q r s') pl (by omega) (by omega) (by rw[Qj,<- hl];exact h1) (by simpa using ew) ⟨rfl,fin⟩) hs
theorem QkV(its:List Value)(n j:Nat)(u:Value):ZZ (·.setIfInBounds j u) { cls:=.type "list",data:=.seq its.toArray n }={ cls:=.type "list",data:=.seq (its.set j u).toArray n }:=by
 simp[ZZ]
theorem Inv.lst{pins:List (Addr×Obj)}{σ:St}{H:Hp}{s:Shared}{p:Addr}{xs:List V}(I:Inv X pins σ H s)(h:H p=some (.lst xs)) :
  ∃(its:List Value)(n:Nat),Vals xs its/\s.heap.get? p=some { cls:=.type "list",data:=.seq its.toArray n }/\xs.length<=sizeLine:=by
 obtain⟨z,its,n,r,e⟩:=I.hok p _ h;exact⟨its,n,r,e,z⟩
theorem Inv.lstUpd{pins:List (Addr×Obj)}{σ:St}{H:Hp}{s:Shared}{p:Addr}{xs ys:List V}{its its':List Value}{n n':Nat}{f:Obj->Obj}(I:Inv X pins σ H s)(h:H p=some (.lst xs))
  (ho:s.heap.get? p=some { cls:=.type "list",data:=.seq its.toArray n })(hf:f { cls:=.type "list",data:=.seq its.toArray n }={ cls:=.type "list",data:=.seq its'.toArray n' })(r:Vals ys its')(hz:ys.length<=sizeLine)(t:Nat) :
  Inv X pins σ (upd H p (.lst ys)) { s with heap:=s.heap.update p f,toks:=t }:=by
 have e:(s.heap.update p f).get? p=some { cls:=.type "list",data:=.seq its'.toArray n' }:=by
  rw[J6 f ho (by rw[hf]<;>rfl),hf]
 refine I.write (x:=p) (e:=p) (by rw[h];trivial) (.inl rfl) (λb u hb q=>(YG _ _ (QaB hb)).trans q) ⟨_,e⟩ ?_
 exact⟨hz,its',n',r,e⟩
def Qto:V->V->V->Hp->(Hp->Prop)->Prop:=λo i v H Q=>∃p xs k j,o=.ref p/\i=.int k/\H p=some (.lst xs)/\ixN xs.length k=some j/\Q (upd H p (.lst (xs.set j v)))
theorem QfY:QAk X Qto:=by
 intro pins s σ H o i v ov iv u Q I ro ri rv h;obtain⟨p,xs,k,j,rfl,rfl,hp,hj,q⟩:=h;cases ro;obtain⟨t,rfl⟩:=ri;obtain⟨its,n,r,ho,hz⟩:=I.lst hp;obtain⟨h1,h2,h3,h4⟩:=Qnm hj;have hl:=r.length;have hn:=Qfn;have I':Inv X pins σ (upd H p (.lst (xs.set j v))) { s with heap:=s.heap.update p (ZZ (·.setIfInBounds j u)) }:=
  I.lstUpd hp ho (QkV its n j u) (r.set rv j) (by rw[Zq];exact hz) s.toks
 by_cases h0:0<=k
 ·have hk:k.toNat=j:=by
   rw[QeT h0 h4] at h1;exact Qx h1
  exact PySem.W.ki_setAt ho h0 (by omega) (by rw[Qj,<- hl];exact h4) (by rw[hk];exact⟨_,I',q⟩)
 ·have hk:(k+(its.toArray.size:Int)).toNat=j:=by
   rw[Qh0 (by omega) h3] at h1;rw[Qj,<- hl];exact Qx h1
  exact PySem.W.ki_setBack ho (by omega) (by rw[Qj,<- hl];exact h3) (by omega) (by rw[hk];exact⟨_,I',q⟩)
theorem Qg8(lo hi:Option Int)(n:Nat):(sliceBounds lo hi none n).1=((HT.sIx n 0 lo:Nat):Int)/\(sliceBounds lo hi none n).2.1=((HT.sIx n n hi:Nat):Int)/\(sliceBounds lo hi none n).2.2=1:=by
 refine⟨?_,?_,rfl⟩
 ·cases lo with
  |none=>simp[sliceBounds,HT.sIx]
  |some i=>
   simp only[sliceBounds,HT.sIx,Qow,show(1:Int) > 0 by decide,if_true];by_cases h:i<0
   ·simp only[h,if_true]<;>omega
   ·simp only[h,if_false]<;>omega
 ·cases hi with
  |none=>simp[sliceBounds,HT.sIx]
  |some i=>
   simp only[sliceBounds,HT.sIx,Qow,show(1:Int) > 0 by decide,if_true];by_cases h:i<0
   ·simp only[h,if_true]<;>omega
   ·simp only[h,if_false]<;>omega
theorem QfX(its:List Value)(lo hi:Option Int):slicePick its.toArray lo hi none=((its.drop (HT.sIx its.length 0 lo)).take (HT.sIx its.length its.length hi - HT.sIx its.length 0 lo)).toArray:=by
 obtain⟨h1,h2,h3⟩:=Qg8 lo hi its.toArray.size;unfold slicePick;rw[h1,h2,h3];simp only[sliceRange_one,pick_run,Qj]<;>rfl
def QBj(K:PySem.W.Frag):V->Option Int->Option Int->Hp->VK->Prop:=λx lo hi H Q=>∃a xs,x=.ref a/\SqL K H a xs/\∀p,H p=none->Q (.ref p) (upd H p (.lst (Qj7 xs lo hi)))
theorem Qtb:SlR X (QBj X.K):=by
 intro pins s σ H x v vl vu lo hi sl Q I rx hs pl pu h;obtain⟨a,xs,rfl,hx,q⟩:=h;cases rx;obtain⟨its,r,ht,hz⟩:=I.list hx;have hlen:=r.length;refine⟨"list",_,QyJ.lookup,ht.isList.typeIs,?_⟩;refine wpAny_getItem_list_slice ht.isList hs pl pu .none (by simp) ?_ (by rw[Qj]<;>omega)
 rw[QfX,<- hlen];refine⟨.ref s.heap.objs.size,_,I.laid (t':=s.toks) (o:=.lst (Qj7 xs lo hi)) (λb ob q=>Qc _ q) (Qg _) ?_,rfl,q _ (I.hok.fresh (Qg _))⟩;exact⟨QY (QeF xs lo hi) hz,_,0,(r.drop (HT.sIx xs.length 0 lo)).take (HT.sIx xs.length xs.length hi - HT.sIx xs.length 0 lo),Qm _ rfl⟩
def QhA:V->Bool
 |.non=>true
 |.bl _=>true
 |.int _=>true
 |.str _=>true
 |_=>false
def eqV:V->V->Bool
 |.non,.non=>true
 |.bl a,.bl b=>a == b
 |.bl a,.int b=>(if a then 1 else 0) == b
 |.int a,.bl b=>a == (if b then 1 else 0)
 |.int a,.int b=>a == b
 |.str a,.str b=>a == b
 |_,_=>false
theorem QxD{A:Jb}{s:Shared}{y x:V}{u v:Value}(ry:RelV y u)(rx:RelV x v)(fy:QhA y=true)(fx:QhA x=true):Qou A s u v (eqV y x):=by
 cases y with
 |non=>
  cases ry;cases x with
  |non=>cases rx;exact SeqAt.EqAt.same _
  |bl b=>cases rx;exact SeqAt.EqAt.none_bool b
  |int b=>obtain⟨t,rfl⟩:=rx;exact SeqAt.EqAt.none_int b t
  |str b=>obtain⟨t,rfl⟩:=rx;exact SeqAt.EqAt.none_str b t
  |_=>exact absurd (show false=true from fx) Qt
 |bl a=>
  cases ry;cases x with
  |non=>cases rx;exact SeqAt.EqAt.bool_none a
  |bl b=>cases rx;exact SeqAt.EqAt.bool_bool a b
  |int b=>obtain⟨t,rfl⟩:=rx;exact SeqAt.EqAt.bool_int a b t
  |str b=>obtain⟨t,rfl⟩:=rx;exact SeqAt.EqAt.bool_str a b t
  |_=>exact absurd (show false=true from fx) Qt
 |int a=>
  obtain⟨t',rfl⟩:=ry;cases x with
  |non=>cases rx;exact SeqAt.EqAt.int_none a t'
  |bl b=>cases rx;exact SeqAt.EqAt.int_bool a t' b
  |int b=>obtain⟨t,rfl⟩:=rx;exact SeqAt.EqAt.int_int a t' b t
  |str b=>obtain⟨t,rfl⟩:=rx;exact Qif a t' b t
  |_=>exact absurd (show false=true from fx) Qt
 |str a=>
  obtain⟨t',rfl⟩:=ry;cases x with
  |non=>cases rx;exact SeqAt.EqAt.str_none a t'
  |bl b=>cases rx;exact SeqAt.EqAt.str_bool a t' b
  |int b=>obtain⟨t,rfl⟩:=rx;exact Qie a t' b t
  |str b=>obtain⟨t,rfl⟩:=rx;exact SeqAt.EqAt.str_str a t' b t
  |_=>exact absurd (show false=true from fx) Qt
 |_=>exact absurd (show false=true from fy) Qt
def eqU(x:V)(u:Value):Bool:=match u with
 |.none=>eqV .non x
 |.bool b=>eqV (.bl b) x
 |.int i _=>eqV (.int i) x
 |.str z _=>eqV (.str z) x
 |_=>false
theorem Qss{x y:V}{u:Value}(r:RelV y u)(f:QhA y=true):eqU x u=eqV y x:=by
 cases y with
 |non=>cases r;rfl
 |bl b=>cases r;rfl
 |int i=>obtain⟨t,rfl⟩:=r;rfl
 |str z=>obtain⟨t,rfl⟩:=r;rfl
 |_=>exact absurd (show false=true from f) Qt
theorem Qi4{x:V}:∀{xs:List V}{us:List Value},Vals xs us->xs.all QhA=true->us.any (eqU x)=xs.any λy=>eqV y x
 |_,_,.nil,_=>rfl
 |y::xs,u::us,.cons r t,f=>by
  rw[Qyn,JK] at f;rw[YZ,YZ,Qss r f.1,Qi4 t f.2]
theorem Qgk{A:Jb}{s:Shared}{x:V}{v:Value}(rx:RelV x v)(fx:QhA x=true):∀{xs:List V}{us:List Value},Vals xs us->xs.all QhA=true->∀u∈us,Qou A s u v (eqU x u)
 |_,_,.nil,_=>λu hu=>by cases hu
 |y::xs,u::us,.cons r t,f=>λu' hu=>by
  rw[Qyn,JK] at f;rcases Qu.mp hu with rfl | hu
  ·rw[Qss r f.1];exact QxD r rx f.1 fx
  ·exact Qgk rx fx t f.2 u' hu
def inV(x:V)(xs:List V):Bool:=xs.any λy=>eqV y x
def rIn(K:PySem.W.Frag)(neg:Bool):R2:=λx y H Q=>∃p xs,y=.ref p/\(SqL K H p xs∨SqT K H p xs)/\QhA x=true/\xs.all QhA=true/\Q (.bl (if neg then !inV x xs else inV x xs)) H
theorem Qhh:OpR X (compareOp .NotIn) (rIn X.K true):=by
 intro pins s σ H x y v u Q I rx ry h;obtain⟨p,xs,rfl,hq,fx,fs,q⟩:=h;cases ry;rcases hq with hq | hq
 ·obtain⟨its,r,pl,hz⟩:=I.list hq;refine Qoi (eqU x) pl.isList (λw hw=>Qgk rx fx r fs w (by simpa using hw)) ⟨.bl _,H,I,rfl,?_⟩;rw[show its.toArray.any (eqU x)=its.any (eqU x) by simp,Qi4 r fs];exact q
 ·obtain⟨its,r,pl,hz⟩:=I.tuple hq;refine Qlu (eqU x) pl (λw hw=>Qgk rx fx r fs w (by simpa using hw)) ⟨.bl _,H,I,rfl,?_⟩;rw[show its.toArray.any (eqU x)=its.any (eqU x) by simp,Qi4 r fs];exact q
theorem Yo:CallR X (.builtin "len") (λxs H Q=>∃p ys,xs=[.ref p]/\(SqL X.K H p ys∨SqT X.K H p ys)/\Q (.int ys.length) H):=by
 intro pins s σ H xs us Q I r h;obtain⟨p,ys,rfl,hq,q⟩:=h;obtain⟨u,rfl,rx⟩:=vals1 r;cases rx;have hn:=Qfn;rcases hq with hq | hq
 ·obtain⟨its,r',pl,hz⟩:=I.list hq;have hlen:=r'.length;exact Calls.call_len_list pl.isList (by simp only[Qj]<;>omega) ⟨.int ys.length,H,I.tok _,⟨s.toks+1,by rw[Qj,hlen]⟩,q⟩
 ·obtain⟨its,r',pl,hz⟩:=I.tuple hq;have hlen:=r'.length;exact len_tuple pl (by simp only[Qj]<;>omega) ⟨.int ys.length,H,I.tok _,⟨s.toks+1,by rw[Qj,hlen]⟩,q⟩
theorem QhP:CallR X (.type "list") (λxs H Q=>∃p ys,xs=[.ref p]/\(SqL X.K H p ys∨SqT X.K H p ys)/\∀l,H l=none->Q (.ref l) (upd H l (.lst ys))):=by
 intro pins s σ H xs us Q I r h;obtain⟨p,ys,rfl,hq,q⟩:=h;obtain⟨u,rfl,rx⟩:=vals1 r;cases rx;have fin:∀(its:List Value),Vals ys its->ys.length<=sizeLine->∀(h':Heap)(c':Nat),(∀b o',s.heap.get? b=some o'->h'.get? b=some o') ->
   h'.get? s.heap.objs.size=some { cls:=.type "list",dict:=none,data:=.seq its.toArray c',slots:=#[] }->EP X pins σ Q (.ref s.heap.objs.size) { s with heap:=h' }:=λits r' hz h' c' kp e=>
  ⟨.ref s.heap.objs.size,_,I.laid (t':=s.toks) kp (Qg _) (show ObjOk X.prog X.w _ h' _ (.lst ys) from⟨hz,its,c',r',e⟩),rfl,q _ (I.hok.fresh (Qg _))⟩
 rcases hq with hq | hq
 ·obtain⟨its,r',pl,hz⟩:=I.list hq;have hlen:=r'.length;obtain⟨o,ho,hc,n,hd⟩:=pl.isList;exact call_list_seq p (.inl rfl) ho hc hd (λh' c' kp e=>fin its r' hz h' c' kp e) (by simp only[Qj]<;>omega)
 ·obtain⟨its,r',pl,hz⟩:=I.tuple hq;have hlen:=r'.length;obtain⟨o,ho,hc,n,hd⟩:=pl;exact call_list_seq p (.inr rfl) ho hc hd (λh' c' kp e=>fin its r' hz h' c' kp e) (by simp only[Qj]<;>omega)
theorem Qc8:CallR X (.type "tuple") (λxs H Q=>∃p ys,xs=[.ref p]/\((SqL X.K H p ys/\∀l,H l=none->Q (.ref l) (upd H l (.tup ys)))∨(SqT X.K H p ys/\Q (.ref p) H))):=by
 intro pins s σ H xs us Q I r h;obtain⟨p,ys,rfl,h⟩:=h;obtain⟨u,rfl,rx⟩:=vals1 r;cases rx;rcases h with⟨hq,q⟩ | ⟨hq,q⟩
 ·obtain⟨its,r',pl,hz⟩:=I.list hq;have hlen:=r'.length;refine call_tuple_list pl.isList (λh' kp=>?_) (by simp only[Qj]<;>omega);have I1:Inv X pins σ H { s with heap:=h' }:=I.kept (t':=s.toks) kp;have I2:Inv X pins σ (upd H h'.objs.size (.tup ys)) { s with heap:=h'.push { cls:=.type "tuple",data:=.seq its.toArray } }:=
   I1.laid (t':=s.toks) (λb o e=>Qc _ e) (Qg _) (show ObjOk X.prog X.w _ _ _ (.tup ys) from⟨hz,its,r',TupN.new _ _⟩)
  exact⟨.ref h'.objs.size,_,I2,rfl,q _ (I1.hok.fresh (Qg _))⟩
 ·obtain⟨its,r',pl,hz⟩:=I.tuple hq;exact call_tuple_same pl ⟨.ref p,H,I,rfl,q⟩
def tyV(K:PySem.W.Frag)(T:String)(x:V)(H:Hp):Prop:=match x with
 |.str _=>T = "str"
 |.int _=>T = "int"
 |.ref p=>(T = "list" /\ ∃xs,SqL K H p xs)∨(T = "tuple" /\ ∃o,K.lookup p=some o/\o.cls=.type "tuple" /\ o.dict=none) ∨
   (T = "dict" /\ ((∃kvs,H p=some (.dK kvs))∨∃kvs,H p=some (.dT kvs)))∨(T = "set" /\ ∃S n,H p=some (.set S n))
 |_=>False
theorem QvY{pins:List (Addr×Obj)}{σ:St}{H:Hp}{s:Shared}{T:String}{x:V}{v:Value}(I:Inv X pins σ H s)(r:RelV x v)(ty:tyV X.K T x H) :
  s.TypeIs v T/\∀a,v=.ref a->∃ob,s.heap.get? a=some ob/\ob.dict=none:=by
 cases x with
 |str z=>
  obtain⟨t,rfl⟩:=r;cases(show T = "str" from ty);exact⟨typeIs_str s z t,λ_ e=>nomatch e⟩
 |int i=>
  obtain⟨t,rfl⟩:=r;cases(show T = "int" from ty);exact⟨QyI s i t,λ_ e=>nomatch e⟩
 |ref p=>
  cases r;rcases ty with⟨rfl,xs,hq⟩ | ⟨rfl,o,hk,hc,hd⟩ | ⟨rfl,hk⟩ | ⟨rfl,S,n,hk⟩
  ·obtain⟨its,_,pl,_⟩:=I.list hq;refine⟨pl.isList.typeIs,λa e=>?_⟩;cases e;obtain⟨o,n,e,c,hd,_⟩:=pl;exact⟨o,e,hd⟩
  ·refine⟨⟨o,I.kIn p o hk,hc⟩,λa e=>?_⟩;cases e;exact⟨o,I.kIn _ o hk,hd⟩
  ·have z:∃o,s.heap.get? p=some o/\o.ExactDict:=by
    rcases hk with⟨kvs,hk⟩ | ⟨kvs,hk⟩
    ·obtain⟨_,_,_,_,o,_,_,e,ex,_⟩:=I.hok p _ hk;exact⟨o,e,ex⟩
    ·obtain⟨_,_,_,_,o,_,_,e,ex,_⟩:=I.hok p _ hk;exact⟨o,e,ex⟩
   obtain⟨o,e,ex⟩:=z;refine⟨⟨o,e,ex.1⟩,λa e2=>?_⟩;cases e2;exact⟨o,e,ex.2.1⟩
  ·obtain⟨o,_,_,_,e,ex,_⟩:=I.hok p _ hk;refine⟨⟨o,e,ex.1⟩,λa e2=>?_⟩;cases e2;exact⟨o,e,ex.2.1⟩
 |_=>exact YD ty
def tBM(K:PySem.W.Frag)(T:String)(r:V->List V->Hp->VK->Prop)(to:TE)(t:TA):TE:=λσ H Q=>to σ H λx H1=>tyV K T x H1/\t σ H1 λxs H2=>r x xs H2 Q
variable{o e:Q0}{es:List Q0}{to:TE}{t:TA}{name:Str}{apos cpos:Pos}{T id:String}{r:V->List V->Hp->VK->Prop}
theorem Qmx(pa:PlainAttrs T)(slot:Slot T name id)(hty:typeOf (.builtin id)=pure (.type "method_descriptor"))(hm:MtR X id r)(ho:PE X o to)(ha:PA X (e::es) t)
  (hbase:attributeBase o name X.env (eval o X.env)=eval o X.env:=by rfl)
  (hfew:((backTo cpos (starEach (e::es) X.env)).all (λx => !x.1)&&(backToKw cpos (keywordEach [] X.env)).all (λx=>x.1.isSome)
   && decide ((e::es).length+([]:List Qat).length+(if([]:List Qat).isEmpty then 0 else 1)<30))=true:=by rfl)
  (hline:(apos.endLine == cpos.line)=true:=by rfl) (hs:starEach (e::es) X.env=(false,eval e X.env)::starEach es X.env:=by rfl) (hplain:(backTo cpos (starEach es X.env)).any (·.1)=false:=by rfl) :
  PE X (.Call (.Attribute o name apos) (e::es) [] cpos) (tBM X.K T r to t):=by
 intro pins s σ H Q I h;refine Qrs hbase hfew hline rfl (thn (ho pins s σ H _ I h) λv s1 ⟨x,H1,I1,r1,ty,q1⟩=>?_);obtain⟨h1,h2⟩:=QvY I1 r1 ty;refine⟨T,id,pa,slot,hty,h1,h2,?_⟩;have hA:=ha cpos pins s1 σ H1 _ I1 q1;rw[hs] at hA ⊢;refine Qcw (by show(false||(backTo cpos (starEach es X.env)).any (·.1))=false;rw[hplain]<;>rfl) (QcY ?_);exact thn hA λus s2 ⟨vs,H2,I2,r2,q2⟩=>hm pins s2 σ H2 x vs v us Q I2 r1 r2 q2
end
def MtM(X:Cx)(id:String)(r:V->List V->Hp->VK->Prop):Prop:=
 ∀(pins:List (Addr×Obj))(s:Shared)(σ:St)(H:Hp)(x:V)(xs:List V)(v:Value)(us:List Value)(Q:VK),Inv X pins σ H s->RelV x v->Vals xs us->r x xs H Q ->
  wpAny (model X.prog X.w) X.A (call (.builtin id) (v::us)) (EP X pins σ Q) X.xe s
theorem Vals.one:∀{x:V}{us:List Value},Vals [x] us->∃u,us=[u]/\RelV x u
 |_,_,.cons r .nil=>⟨_,rfl,r⟩
theorem Vals.two:∀{x y:V}{us:List Value},Vals [x,y] us->∃u v,us=[u,v]/\RelV x u/\RelV y v
 |_,_,_,.cons r (.cons q .nil)=>⟨_,_,rfl,r,q⟩
theorem Vals.zero:∀{us:List Value},Vals [] us->us=[]
 |_,.nil=>rfl
theorem Vals.eraseIdx:∀{xs:List V}{us:List Value}(i:Nat),Vals xs us->Vals (xs.eraseIdx i) (us.eraseIdx i)
 |_,_,_,.nil=>.nil
 |_,_,0,.cons _ t=>t
 |_,_,i+1,.cons r t=>.cons r (Vals.eraseIdx i t)
theorem Vals.reverse{xs:List V}{us:List Value}(h:Vals xs us):Vals xs.reverse us.reverse:=by
 induction h with
 |nil=>exact .nil
 |cons r t ih=>rw[Qrx,Qrx];exact Vals.append ih (.cons r .nil)
theorem Vals.rep{xs:List V}{us:List Value}(h:Vals xs us):∀k:Nat,Vals (QL k xs).flatten (QL k us).flatten
 |0=>.nil
 |k+1=>by
  rw[J5,J5,ZY,ZY];exact Vals.append h (Vals.rep h k)
theorem Qeu{α:Type}:∀(l:List α)(i:Nat),(l.eraseIdx i).length<=l.length
 |[],_=>Qg _
 |_::_,0=>QgW _
 |_::r,i+1=>Qvt (Qeu r i)
theorem foldl_rep(its:List Value):∀(k:Nat)(acc:List Value),
  Qrz (λx1 x2=>x1++x2) acc.toArray (QL k its.toArray)=(acc++(QL k its).flatten).toArray
 |0,acc=>by simp
 |k+1,acc=>by
  have e:acc.toArray++its.toArray=(acc++its).toArray:=by simp
  have e2:(acc++its)++(QL k its).flatten=acc++(QL (k+1) its).flatten:=by
   rw[J5,ZY,QeR]
  rw[<- e2,<- foldl_rep its k (acc++its),<- e,J5,QgL]
section
variable{X:Cx}{pins:List (Addr×Obj)}{σ:St}{H:Hp}{s:Shared}{l b:Addr}{xs ys zs:List V}
theorem Inv.lset{its its':List Value}{n:Nat}{f:Array Value->Array Value}{t':Nat}(I:Inv X pins σ H s)(hH:H l=some (.lst xs))
  (e:s.heap.get? l=some { cls:=.type "list",data:=.seq its.toArray n })(hf:f its.toArray=its'.toArray)(hv:Vals ys its')(hz:ys.length<=sizeLine) :
  Inv X pins σ (upd H l (.lst ys)) { s with heap:=s.heap.update l (ZZ f),toks:=t' }:=by
 have q:=PySem.IsL.update e f;rw[hf] at q;refine I.write (x:=l) (e:=l) (by rw[hH];exact trivial) (.inl rfl) (λb' u hb hu=>(YG s.heap (ZZ f) (QaB hb)).trans hu) ⟨_,q⟩ ?_
 exact⟨hz,its',_,hv,q⟩
theorem Inv.lnew{its:List Value}{t':Nat}(I:Inv X pins σ H s)(hv:Vals ys its)(hz:ys.length<=sizeLine) :
  Inv X pins σ (upd H s.heap.objs.size (.lst ys)) { s with heap:=s.heap.push { cls:=.type "list",data:=.seq its.toArray },toks:=t' }:=
 I.laid (λ_ _ q=>Qc _ q) (Qg _) ⟨hz,its,0,hv,Qm _ rfl⟩
theorem Inv.fresh(I:Inv X pins σ H s):H s.heap.objs.size=none:=I.hok.fresh (Qg _)
theorem Inv.lstM(I:Inv X pins σ H s)(hH:H l=some (.lst xs)):xs.length<=sizeLine/\∃(its:List Value)(n:Nat),Vals xs its/\xs.length=its.length/\s.heap.get? l=some { cls:=.type "list",data:=.seq its.toArray n }:=by
 obtain⟨z,its,n,r,e⟩:=I.hok l _ hH;exact⟨z,its,n,r,r.length,e⟩
theorem QjI{n:Nat}(h:n<=sizeLine):YS n=false:=by
 unfold YS;exact decide_eq_false (by omega)
end
section
variable{X:Cx}
def Qmg:V->List V->Hp->VK->Prop:=λx vs H Q=>∃l xs y,x=.ref l/\vs=[y]/\H l=some (.lst xs)/\xs.length<sizeLine/\Q .non (upd H l (.lst (xs++[y])))
theorem Qhq:MtM X "list.append" Qmg:=by
 intro pins s σ H x vs v us Q I rx rv h;obtain⟨l,xs,y,rfl,rfl,hH,hz,q⟩:=h;cases rx;obtain⟨u,rfl,ru⟩:=rv.one;obtain⟨z,its,n,r,hl,e⟩:=I.lstM hH;refine QbI F.slot_list_append ⟨_,e,rfl⟩ F.entry_list_append (F.args_list_append_2 _ _) (PySem.list_append l its.toArray n u (by rw[Qj];omega)) ⟨e,?_⟩;refine⟨.non,_,I.lset (its':=its++[u]) hH e (by simp) (r.append (.cons ru .nil)) ?_,rfl,q⟩;rw[Qw,List.length_singleton];omega
def Qmf:V->List V->Hp->VK->Prop:=λx vs H Q=>∃l b xs zs,x=.ref l/\vs=[.ref b]/\H l=some (.lst xs)/\H b=some (.lst zs)/\xs.length+zs.length<=sizeLine/\Q .non (upd H l (.lst (xs++zs)))
theorem Qna:MtM X "list.extend" Qmf:=by
 intro pins s σ H x vs v us Q I rx rv h;obtain⟨l,b,xs,zs,rfl,rfl,hH,hB,hz,q⟩:=h;cases rx;obtain⟨u,rfl,ru⟩:=rv.one;cases ru;obtain⟨z,its,n,r,hl,e⟩:=I.lstM hH;obtain⟨z2,its2,n2,r2,hl2,e2⟩:=I.lstM hB;have hsz:its.toArray.size+its2.toArray.size<=sizeLine:=by rw[Qj,Qj];omega
 have hlong:¬(!its.toArray.isEmpty&&YS (its.toArray.size+its2.toArray.size))=true:=by
  rw[QjI hsz,QvU];exact Qt
 refine QbI F.slot_list_extend ⟨_,e,rfl⟩ F.entry_list_extend (F.args_list_extend_2 _ _)
  (AutoSeq1.list_extend_list_list_0 l its.toArray n b its2.toArray n2 hlong (by rw[Qj];omega) (by omega)) ⟨e,e2,?_⟩
 refine⟨.non,_,I.lset (its':=its++its2) hH e (by simp) (r.append r2) ?_,rfl,q⟩;rw[Qw];omega
def QrZ:V->List V->Hp->VK->Prop:=λx vs H Q=>∃l xs i k y,x=.ref l/\vs=[.int i]/\H l=some (.lst xs) /\ -(2^63)<=i/\i<2^63/\seqIndex? i xs.length=some k/\xs[k]? = some y/\Q y (upd H l (.lst (xs.eraseIdx k)))
theorem QpO:MtM X "list.pop" QrZ:=by
 intro pins s σ H x vs v us Q I rx rv h;obtain⟨l,xs,i,k,y,rfl,rfl,hH,h1,h2,hk,hy,q⟩:=h;cases rx;obtain⟨u,rfl,ru⟩:=rv.one;obtain⟨t,rfl⟩:=ru;obtain⟨z,its,n,r,hl,e⟩:=I.lstM hH;obtain⟨w,hw,rw'⟩:=r.get hy;refine QbI F.slot_list_pop ⟨_,e,rfl⟩ F.entry_list_pop (F.args_list_pop_2 _ _)
  (MeetsSeq.list_pop_at l its.toArray n i t k w (fitsIndex_both h1 h2) (by rw[Qj,<- hl];exact hk) (by rw[<- JA];exact hw) (by rw[Qj];omega)) ⟨e,?_⟩
 refine⟨y,_,I.lset (its':=its.eraseIdx k) hH e ?_ (r.eraseIdx k) ?_,rw',q⟩
 ·show its.toArray.eraseIdxIfInBounds k=(its.eraseIdx k).toArray;rw[QeQ]
 ·have:=Qeu xs k;omega
def QAE:R2:=λx y H Q=>∃l b xs zs,x=.ref l/\y=.ref b/\H l=some (.lst xs)/\H b=some (.lst zs)/\xs.length+zs.length<=sizeLine/\∀p,H p=none->Q (.ref p) (upd H p (.lst (xs++zs)))
theorem Qw8:OpR X (binaryOp .Add) QAE:=by
 intro pins s σ H x y v u Q I rx ry h;obtain⟨l,b,xs,zs,rfl,rfl,hH,hB,hz,q⟩:=h;cases rx;cases ry;obtain⟨z,its,n,r,hl,e⟩:=I.lstM hH;obtain⟨z2,its2,n2,r2,hl2,e2⟩:=I.lstM hB;refine PySem.P.add_list e e2 ?_ (by rw[Qj,Qj];omega)
 have ea:its.toArray++its2.toArray=(its++its2).toArray:=by simp
 rw[ea];exact⟨.ref _,_,I.lnew (t':=s.toks) (r.append r2) (by rw[Qw];omega),rfl,q _ I.fresh⟩
def QAw:R2:=λx y H Q=>∃l k xs,x=.ref l/\y=.int k/\H l=some (.lst xs) /\ -(2^63)<=k/\k<2^63/\xs.length*k.toNat<=sizeLine /\
 ∀p,H p=none->Q (.ref p) (upd H p (.lst (QL k.toNat xs).flatten))
theorem QuI{α:Type}(xs:List α)(k:Nat):(QL k xs).flatten.length=k*xs.length:=by
 induction k with
 |zero=>simp
 |succ k ih=>rw[J5,ZY,Qw,ih,Qly,Nat.add_comm]
theorem Qse:OpR X (binaryOp .Mult) QAw:=by
 intro pins s σ H x y v u Q I rx ry h;obtain⟨l,k,xs,rfl,rfl,hH,h1,h2,hz,q⟩:=h;cases rx;obtain⟨t,rfl⟩:=ry;obtain⟨z,its,n,r,hl,e⟩:=I.lstM hH;have hlen:its.toArray.size*k.toNat<=sizeLine:=by rw[Qj,<- hl];exact hz
 have hcap:¬its.toArray.size*k.toNat > (2^63 - 1) / 8:=by
  have:(sizeLine:Nat)<=(2^63 - 1) / 8:=by decide
  omega
 have hfit:¬(!Builtin.List.listFitsIndex k)=true:=by
  rw[fitsIndex_both h1 h2];exact Qt
 have hlong:¬YS (its.toArray.size*k.toNat)=true:=by
  rw[QjI hlen];exact Qt
 have hnew:Qrz (λx1 x2=>x1++x2) #[] (QL (if its.toArray.isEmpty=true then 0 else k.toNat) its.toArray)=(QL k.toNat its).flatten.toArray:=by
  have f0:∀m:Nat,Qrz (λx1 x2=>x1++x2) #[] (QL m its.toArray)=(QL m its).flatten.toArray:=λm=>by
   have:=foldl_rep its m [];rw[QgH] at this;exact this
  rw[f0];cases its with
  |nil=>simp
  |cons a r'=>rw[if_neg (by simp)]
 refine wpAny_binaryOp_repeat_ref (T := "list") (U := "int") (by decide) ⟨_,e,rfl⟩ (λs'=>QyI s' k t) noFill_list_mul F.fills_int_mul Qy1 repeat_list F.slot_int_index.lookup
  (QbI Qy1 (QyI s k t) F.entry_int_rmul (F.args_int_rmul_2 _ _) (int___rmul___int_list k t l its.toArray n)
   ⟨e,rfl,⟨_,e,rfl⟩,QbI F.slot_list_mul ⟨_,e,rfl⟩ F.entry_list_mul (F.args_list_mul_2 _ _) (AutoListH.list___mul___list_int_3 l its.toArray n k t hfit hcap hlong) ⟨e,?_⟩⟩)
 rw[hnew];exact⟨.ref _,_,I.lnew (t':=s.toks) (r.rep k.toNat) (by rw[QuI,Nat.mul_comm];exact hz),rfl,q _ I.fresh⟩
end
section
variable{prog:Qy}{w:Jc}{A:Jb}{E:Value->Shared->Prop}{s:Shared}
end
section
variable{X:Cx}
end
end L2
namespace Att
open PySem.W PySem.Calls
theorem Qex{P:Params}{h:Heap}:∀(ns:List Int)(vs:List Value),WellAll P h vs (ns.map WData.int)->Qbp vs ns:=by
 intro ns;induction ns with
 |nil=>
  intro vs w;rw[Qlk] at w;cases w;exact .nil
 |cons n ns ih=>
  intro vs w;rw[Js] at w;cases w with
  |cons a b=>
   cases a;exact .cons _ _ (ih _ b)
theorem Ql7{l:OpenLaw}{n:Nat}(hn:l.most=some n){P:Params}{h:Heap}{args:List WData}{vals:List Value}
  (hpre:l.row.toRowW.claim.pre args=true)(hwl:WellAll P h vals args) :
  ∃a vs ns,vals=[QF a]/\args=[WData.list (ns.map WData.int)]/\h.get? a=some { cls:=.type "list",data:=.seq vs.toArray }/\Qbp vs ns/\ns.length<=n:=by
 have hsh:WShape.hasAll [] args [.list .int]=true:=(pre_splitW hpre).1;have hc:l.pre.holds [] { args:=args }=true:=(pre_splitW hpre).2;obtain⟨d,r,rfl,h1,h2⟩:=hasAllW_cons hsh;obtain rfl:=hasAllW_nil h2;obtain⟨xs,rfl,h3⟩:=hasW_list h1;obtain⟨ns,rfl⟩:=items_int h3;have hlen:ns.length<=n:=by
  unfold OpenLaw.pre at hc;have h4:(WTm.not (.lt (.lit (.int (n:Int))) (.len (.arg 0)))).holds [] { args:=[.list (ns.map .int)] }=true:=by
   have h4:=(holds_andW hc).1;rw[hn] at h4;exact h4
  have h5:=condW_of h4 (w_not (w_lt w_lit (w_len_list (w_arg rfl))));rw[Qa] at h5;refine Nat.le_of_not_lt λq=>?_
  have q':(n:Int)<((ns.length:Nat):Int):=by omega
  first
   |(rw[decide_eq_true q'] at h5;exact absurd h5 (by decide))
   |(simp at h5;omega)
 cases hwl with
 |cons w1 w2=>
  cases w2;cases w1 with
  |list ho hall=>exact⟨_,_,ns,rfl,rfl,ho,Qex ns _ hall,hlen⟩
theorem Qmq(l:OpenLaw)(args:List WData):l.row.toRowW.claim.post args (.bool true) args=true:=
 postW_of (r:=l.row.toRowW) (X:=(true == true))
  (show QyM [] (.bool true) .bool=true by first | rfl | decide | simp[QyM,WShape.arms,WShape.armsAll])
  (show(WTm.eq .res (.lit (.bool true))).value [] { args:=args,res:=some (.bool true),after:=args }=some (.bool (true == true)) from w_eq_bool (w_res rfl) w_lit) rfl
theorem Qi2{l:OpenLaw}{n:Nat}{q:Qy}{loose:List Str}{XP:(Str->Option Value)->Heap->Prop}{YP:Jc->Heap->Prop}{d:DefRec}
  (hn:l.most=some n)(hdf:d.params.defaults=[])
  (call:∀(w:Jc)(s₀ s₁:Shared)(mg mb:Str->Option Value)(fa:Addr)(o:Obj)(pm cd doc:Value)(a:Addr)(vs:List Value)(ns:List Int),
   Ground q loose [] XP w s₀ mg mb s₁.heap->YP w s₁.heap ->
   s₁.heap.get? fa=some o->o.data=.func (docDef d.name d.params d.body d.scope pm cd doc)->s₁.heap.CodeRec cd d.name->mg d.name=some (.ref fa) ->
   s₁.heap.get? a=some { cls:=.type "list",data:=.seq vs.toArray }->Qbp vs ns->ns.length<=n->s₁.gens=#[] ->
   codeAny (model l.prog w) callerA (.call (.ref fa) ⟨[.ref a],[]⟩) (λr s'=>r=.ok (.ret (.bool true))/\OldK s₁.heap s'.heap/\s'.os=s₁.os/\Qe0 s'.gens) s₁) :
  WalkO q loose XP YP l.row.toRowW d [] (λf vs=>PySem.call f vs):=by
 intro w s₀ s₁ mg mb G Y fa o pm cd doc dV kV ho hd hcd hD hmg hg args vals as hpre hlay hrd hwl hlo;obtain rfl:dV=.none:=Dflts.none hD hdf;obtain rfl:kV=.none:=Dflts.noKw hD;obtain⟨a,vs,ns,rfl,rfl,hobj,hints,hlen⟩:=Ql7 hn hpre hwl;refine enter_call (Qcg (call w s₀ s₁ mg mb fa o pm cd doc a vs ns G Y ho (fd_plain hd) hcd hmg hobj hints hlen hg) λr s' hq=>?_);obtain⟨rfl,h2,h3,h4⟩:=hq;exact⟨.inl ⟨.bool true,.bool true,[],rfl,λ_=>rfl,.bool true,Qmq l _,λ_=>⟨QgY,λ_ hm=>(nomatch hm)⟩⟩,h2,h3,h4⟩
section
variable{prog:Qy}{w:Jc}{A:Jb}{E:Value->Shared->Prop}{s:Shared}{K:Frag}
end
end Att
namespace L2
theorem Qg4:∀{vs:List Value}{ns:List Int},Qbp vs ns->Vals (ns.map V.int) vs
 |_,_,.nil=>.nil
 |_,_,.cons n t h=>.cons ⟨t,rfl⟩ (Qg4 h)
def QAl(H:Hp):Prop:=∀b,H b=none∨∃o xs,H b=some (.frz o (.lst xs))
theorem QpU{P:Qy}{w:Jc}{K:PySem.W.Frag}{mg mb:Str->Option Value}{CX:CXT}{k:Nat}{fa a:Addr}{fd:Q6}{x:Str}{sp:Sp}{s₁:Shared}{vs:List Value}{ns:List Int}
  (KX:K.In s₁.heap)(hns:s₁.heap.Ns mainGlobals mg)(hb:s₁.heap.Ns builtinsNs mb)(hbb:∀x:Str,x ≠ "__name__" -> mb x=bootBuiltins x)(hlim:s₁.heap.NoLimit)(hg:s₁.gens=#[])
  (ha:s₁.heap.get? a=some { cls:=.type "list",data:=.seq vs.toArray })(hi:Qbp vs ns)(hl:ns.length<=sizeLine)(hr:Room k callerA)
  (F:∀base:Heap,K.In base->base.Ns mainGlobals mg->FnOk P w K mg base CX k fa fd [x] sp)(hbind:∀(s:Shared)(u:Value),QoH s fd ⟨[u],[]⟩ [(x,u)])
  (hsp:∀H:Hp,QAl H->SqL K H a (ns.map V.int)->sp [.ref a] H (λv _=>v=.bl true) λ_ _ _=>False)
  (hCX:∀H e s',CX [] H s₁ (λ_ _ _=>False) e s'->False) :
  codeAny (model P w) callerA (.call (.ref fa) ⟨[.ref a],[]⟩) (λr s'=>r=.ok (.ret (.bool true))/\OldK s₁.heap s'.heap/\s'.os=s₁.os/\Qe0 s'.gens) s₁:=by
 have rv:=Qg4 hi;have lenV:=hi.length;have core:∀H:Hp,QAl H->SqL K H a (ns.map V.int)->HOk P w H s₁.heap->(∀b,H b≠none->b=a)->(H a≠none->K.lookup a=none) ->
   codeAny (model P w) callerA (.call (.ref fa) ⟨[.ref a],[]⟩) (λr s'=>r=.ok (.ret (.bool true))/\OldK s₁.heap s'.heap/\s'.os=s₁.os/\Qe0 s'.gens) s₁:=by
  intro H hO hS hok hA hK;have base_of:∀{b:Addr}{o:Obj},s₁.heap.get? b=some o->H b=none->(Qp0 s₁.heap H).get? b=some o:=λe n=>QpZ e n
  have noA:∀{b:Addr}{o:Obj}{es:Array DictEntry}{ep:Nat},s₁.heap.get? b=some o->o.data=.dict es ep->H b=none:=λ{b o es ep} e d=>by
   cases q:H b with
   |none=>rfl
   |some u=>
    have e':b=a:=hA b (by rw[q];simp);subst e';rw[ha] at e;cases e;have d':Data.seq vs.toArray _=Data.dict es ep:=d;cases d'
  have nsK:∀{b:Addr}{m:Str->Option Value},s₁.heap.Ns b m->(Qp0 s₁.heap H).Ns b m:=λ{b m} ⟨o,es,ep,e,d,r⟩=>⟨o,es,ep,base_of e (noA e d),d,r⟩
  have hKb:K.In (Qp0 s₁.heap H):=λb o e=>base_of (KX b o e) (by
   cases q:H b with
   |none=>rfl
   |some u=>
    have e':b=a:=hA b (by rw[q];simp);subst e';rw[hK (by rw[q];simp)] at e;cases e)
  have hM:Mod K mg (Qp0 s₁.heap H):=⟨hKb,nsK hns,⟨mb,nsK hb,hbb⟩,let ⟨mc,h1,h2⟩:=hlim;⟨mc,nsK h1,h2⟩⟩;have e0:Env0 P w K mg (Qp0 s₁.heap H) callerA [] s₁ H:=⟨rfl,hM,λb o e=>Quv e,Nat.le_of_eq (Qns _ _),trivial,λb hb=>absurd (show b∈([]:List Addr) from hb) (by simp),hok,.of_eq hg⟩;refine Qcg ((F _ hKb (nsK hns)).run callerA [] s₁ H ⟨[.ref a],[]⟩ [.ref a] [.ref a] _ _ hr e0 (hbind s₁ (.ref a)) (.cons rfl .nil) (hsp H hO hS)) λr s' h=>?_
  cases r with
  |error e=>exact(hCX H e s' h).elim
  |ok fl=>
   cases fl with
   |next=>exact YD h
   |brk=>exact YD h
   |cont=>exact YD h
   |ret u=>
    obtain⟨v,H',os,bare,un,hok',r',q⟩:=h;have q':v=.bl true:=q;subst q';obtain rfl:u=QcR true:=r';refine⟨rfl,OldK.of_keep λb o e=>?_,os,bare⟩;cases q:H b with
    |none=>exact un.keep b o e q (by intro z;exact absurd (show b∈([]:List Addr) from z) (by simp)) (by simp)
    |some u=>
     rcases hO b with z | ⟨ob,xs,z⟩
     ·rw[q] at z;cases z
     ·have z2:=un.frzs b ob _ z;obtain⟨e1,_⟩:=hok b _ z;obtain⟨e2,_⟩:=hok' b _ z2;rw[e] at e1;cases e1;exact e2
 cases hk:K.lookup a with
 |some o=>
  have e:=KX a o hk;rw[ha] at e;cases e;refine core (λ_=>none) (λ_=>.inl rfl) (.inr ⟨_,vs.toArray,_,hk,rfl,rfl,rfl,by rw[Qj,lenV];exact hl,by simpa using rv⟩) (λb u z=>by have z':(none:Option HO)=some u:=z;cases z') (λb z=>absurd rfl z) λz=>absurd rfl z
 |none=>
  refine core (λb=>if b=a then some (.frz { cls:=.type "list",data:=.seq vs.toArray } (.lst (ns.map V.int))) else none) (λb=>?_) (.inl (.inr ⟨{ cls:=.type "list",data:=.seq vs.toArray },if_pos rfl⟩)) (λb u z=>?_) (λb z=>?_) λ_=>hk
  ·by_cases hb:b=a
   ·exact .inr ⟨_,_,if_pos hb⟩
   ·exact .inl (if_neg hb)
  ·by_cases hb:b=a
   ·have z':=(if_pos hb).symm.trans z;cases z';subst hb;exact⟨ha,by rw[Qa];exact hl,vs,_,rv,ha⟩
   ·have z':=(if_neg hb).symm.trans z;cases z'
  ·by_cases hb:b=a
   ·exact hb
   ·exact absurd (if_neg hb) z
theorem Qs0{l:PySem.W.OpenLaw}{n k:Nat}{q:Qy}{loose:List Str}{XP:(Str->Option Value)->Heap->Prop}{YP:Jc->Heap->Prop}{d:DefRec}{K:Params->PySem.W.Frag}{CX:Jc->CXT}{sp:Jc->Sp}{x:Str}
  (hn:l.most=some n)(hn2:n<=sizeLine)(hdf:d.params.defaults=[])(hr:Room k callerA)
  (hY:∀(w:Jc)(h:Heap),YP w h->(K w.params).In h)
  (F:∀(w:Jc)(mg:Str->Option Value)(fa:Addr)(h:Heap),(K w.params).In h->h.Ns mainGlobals mg->mg d.name=some (.ref fa) ->
   ∃fd:Q6,(∀(s:Shared)(u:Value),QoH s fd ⟨[u],[]⟩ [(x,u)]) /\
    ∀base:Heap,(K w.params).In base->base.Ns mainGlobals mg->FnOk l.prog w (K w.params) mg base (CX w) k fa fd [x] (sp w))
  (hsp:∀(w:Jc)(H:Hp)(a:Addr)(ns:List Int),ns.length<=n->QAl H->SqL (K w.params) H a (ns.map V.int)->sp w [.ref a] H (λv _=>v=.bl true) λ_ _ _=>False)
  (hCX:∀(w:Jc)(H:Hp)(s:Shared)(e:Value)(s':Shared),CX w [] H s (λ_ _ _=>False) e s'->False) :
  PySem.W.WalkO q loose XP YP l.row.toRowW d [] (λf vs=>PySem.call f vs):=by
 refine Att.Qi2 hn hdf λw s₀ s₁ mg mb fa o pm cd doc a vs ns G Y ho hd hcd hmg hobj hints hlen hg=>?_
 have KX:=hY w _ Y;obtain⟨fd,hb,hF⟩:=F w mg fa _ KX G.T.g hmg;exact QpU KX G.T.g G.T.b G.T.builtins G.T.nolimit hg hobj hints (QY hlen hn2) hr hF hb (λH hO hS=>hsp w H a ns hlen hO hS) λH e s'=>hCX w H s₁ e s'
def J4(s:Y2):Arguments:=match s with
 |.FunctionDef _ a _ _ _ _ _ _ _ _=>a
 |_=>{ posonlyargs:=[],args:=[],vararg:=none,kwonlyargs:=[],kw_defaults:=[],kwarg:=none,defaults:=[] }
def JP(s:Y2):List Y2:=match s with
 |.FunctionDef _ _ b _ _ _ _ _ _ _=>b
 |_=>[]
def QD(s:Y2):YA:=match s with
 |.FunctionDef _ _ _ _ _ _ sc _ _ _=>sc
 |_=>{ kind:=.function,names:=[],isGenerator:=false,isCoroutine:=false }
abbrev CX0:CXT:=λ_ _ _ _ _ _=>False
abbrev E0:XK:=λ_ _ _=>False
theorem Qt9{X:Cx}:QcE CX0 X E0:=λ_ _ _ _ _ _ _ h=>h.elim
structure Fun (K:PySem.W.Frag) (x qual:Str) (st:Y2) (f:Addr) (fd:Q6):Prop where
 ex:∃(oc:Value)(od:Option Addr)(kV doc pm:Value)(an:Option Addr)(cdv ct:Value)(osl:Array (Option Value)),
  fd=PySem.W.fnOf x qual (J4 st) (JP st) (QD st) .none kV doc pm an cdv ct/\K.lookup f=some ⟨oc,od,.func fd,osl⟩/\PySem.W.codeIn K cdv qual=true
 kp:PySem.W.keepIn K (.ref f)=true
section
variable{P:Qy}{w:Jc}{K:PySem.W.Frag}{mg:Str->Option Value}{base:Heap}
theorem Fun.ok{x qual:Str}{st:Y2}{f:Addr}{fd:Q6}{N ps:List Str}{k:Nat}{sp:Sp}(F:Fun K x qual st f fd)(S:JV N ps (QD st))(len:∀vs H Q E,sp vs H Q E->vs.length=ps.length)
  (hbody:∀(cdv:Value)(A:Jb)(outer:List Env)(s:Shared)(H:Hp)(vs:List V)(Q:VK)(E:XK),Room k (A.deeper (envOfC qual (QD st) s.heap.objs.size f cdv))->sp vs H Q E ->
   ∃t,PSs (Qoo CX0 P w K mg base N qual (QD st) f cdv A outer s H E).nox (JP st) t/\t { nx:=λ_ H'=>Q .non H',rt:=Q } (start N vs) H):FnOk P w K mg base CX0 (k+1) f fd ps sp:=by
 obtain⟨oc,od,kV,doc,pm,an,cdv,ct,osl,rfl,lk,hcd⟩:=F.ex;refine QzY lk hcd S len λA outer s H vs Q E hr hsp=>?_
 obtain⟨t,h,q⟩:=hbody cdv A outer s H vs Q E hr hsp;exact⟨t,h.nox,q⟩
theorem Fun.binds{x qual:Str}{st:Y2}{f:Addr}{fd:Q6}{ps:List Str}(F:Fun K x qual st f fd)
  (h:∀(kV doc pm:Value)(an:Option Addr)(cdv ct:Value)(us:List Value),us.length=ps.length->bindArgs (PySem.W.fnOf x qual (J4 st) (JP st) (QD st) .none kV doc pm an cdv ct) ⟨us,[]⟩=pure (ps.zip us)):Binds K fd ps []:=by
 obtain⟨oc,od,kV,doc,pm,an,cdv,ct,osl,rfl,lk,hcd⟩:=F.ex;exact .all (h kV doc pm an cdv ct)
theorem Z8{x qual:Str}{st:Y2}{f:Addr}{oc:Value}{od an:Option Addr}{osl:Array (Option Value)}{kV doc pm cdv ct:Value}(l:K.lookup f=some ⟨oc,od,.func (PySem.W.fnOf x qual (J4 st) (JP st) (QD st) .none kV doc pm an cdv ct),osl⟩)
  (c:PySem.W.codeIn K cdv qual=true)(k:PySem.W.keepIn K (.ref f)=true):Fun K x qual st f (PySem.W.fnOf x qual (J4 st) (JP st) (QD st) .none kV doc pm an cdv ct):=⟨⟨oc,od,kV,doc,pm,an,cdv,ct,osl,rfl,l,c⟩,k⟩
end
theorem Qnr{A:Jb}{k:Nat}(hr:Room k A):A.units+1<cLine:=YJ (Qox (by decide:1<=64) _) hr.units
section
variable{X:Cx}
theorem pv(i:Nat){x:Str}{pos:Pos}(hN:X.N[i]? = some x:=by rfl)(hv:Vis X.env.scope x:=by first | exact QZ rfl | exact QV (QZ rfl) | exact QV (QV rfl))(hd:(x == ("__debug__" : Str))=false:=by decide)
  (hcd:(x == ("__classdict__" : Str))=false:=by decide):PE X (.Name x pos) (Qbs i):=QwJ hN hv hd hcd
end
theorem Qia{A B:Prop}(h:B):if false=true then A else B:=by
 rw[if_neg Qt];exact h
theorem Qlr{A B:Prop}(h:A):if true=true then A else B:=by
 rw[if_pos rfl];exact h
theorem QAK{c A B:Prop}[Decidable c](h1:c->A)(h2:¬c->B):if c then A else B:=by
 by_cases h:c
 ·rw[if_pos h];exact h1 h
 ·rw[if_neg h];exact h2 h
theorem QpX{c A B:Prop}[Decidable c](hc:c)(h:B):if(!decide c)=true then A else B:=by
 rw[decide_eq_true hc];exact Qia h
def Same(H H':Hp):Prop:=∀b o,H b=some o->H' b=some o
theorem Same.refl(H:Hp):Same H H:=λ_ _ h=>h
theorem Same.trans{H H1 H2:Hp}(a:Same H H1)(b:Same H1 H2):Same H H2:=λc o h=>b c o (a c o h)
theorem Same.free{H H':Hp}(e:Same H H'){l:Addr}(h:H' l=Qyl):H l=Qyl:=by
 cases q:H l with
 |none=>rfl
 |some o=>
  rw[e l o q] at h;cases h
theorem Same.seq{K:PySem.W.Frag}{H H':Hp}{a:Addr}{xs:List V}(e:Same H H')(h:SqL K H a xs):SqL K H' a xs:=by
 rcases h with(h | ⟨o,h⟩) | h
 ·exact .inl (.inl (e _ _ h))
 ·exact .inl (.inr ⟨o,e _ _ h⟩)
 ·exact .inr h
end L2
set_option maxHeartbeats 4000000
namespace Rt
abbrev le (c:QaV->QaV->Bool) (x y:QaV):Prop:=c y x=false
section
variable{c:QaV->QaV->Bool}
end
structure SB (κ:Qch) (a₀:Array QaV) (st:SortSt):Prop where
 perm:(arrOf st).Perm a₀
 kind:kindOf st=κ
 failed:failedOf st=none
theorem SB.size{κ:Qch}{a₀:Array QaV}{st:SortSt}(h:SB κ a₀ st):(arrOf st).size=a₀.size:=h.perm.size_eq
section
variable{prog:Qy}{w:Jc}{A:Jb}{E:Value->Shared->Prop}{s:Shared}{a₀:Array QaV}{κ:Qch}{c:QaV->QaV->Bool}
end
section
variable{c:QaV->QaV->Bool}
variable{a b r:Array QaV}{i j k:Nat}
end
structure Sm (st st':SortSt):Prop where
 kind:kindOf st'=kindOf st
 arr:arrOf st'=arrOf st
 pend:pendingOf st'=pendingOf st
 failed:failedOf st'=failedOf st
section
variable{prog:Qy}{w:Jc}{A:Jb}{E:Value->Shared->Prop}{s:Shared}{a₀:Array QaV}{κ:Qch}{c:QaV->QaV->Bool}
end
section
variable{c:QaV->QaV->Bool}
variable{a b r:Array QaV}{i j t:Nat}
end
section
variable{prog:Qy}{w:Jc}{A:Jb}{E:Value->Shared->Prop}{s:Shared}{a₀:Array QaV}{κ:Qch}{c:QaV->QaV->Bool}
end
section
variable{c:QaV->QaV->Bool}
end
section
variable{prog:Qy}{w:Jc}{A:Jb}{E:Value->Shared->Prop}{s:Shared}{a₀:Array QaV}{κ:Qch}{c:QaV->QaV->Bool}
end
def RunsOk:List (Nat×Nat)->Nat->Nat->Prop
 |[],s,e=>s=e
 |(s',n)::r,s,e=>s'=s/\1<=n/\RunsOk r (s+n) e
theorem RunsOk.le:∀{l:List (Nat×Nat)}{s e:Nat},RunsOk l s e->s+l.length<=e
 |[],s,e,h=>by cases(show s=e from h);exact Qg _
 |(s',n)::l,s,e,⟨_,h2,h3⟩=>by
  have:=RunsOk.le h3;rw[QC];omega
section
variable{prog:Qy}{w:Jc}{A:Jb}{E:Value->Shared->Prop}{s:Shared}{a₀:Array QaV}{κ:Qch}{c:QaV->QaV->Bool}
end
end Rt
namespace L2
def blk(X:Cx)(M:List Str)(scope:YA)(cl:List (Str×Addr))(ex:List Addr)(s3:Shared)(H3:Hp)(C:Addr):Cx where
 prog:=X.prog
 w:=X.w
 K:=X.K
 mg:=X.mg
 base:=X.base
 A:=X.A
 N:=M
 s₀:=s3
 H₀:=H3
 env:=compEnvC scope cl C X.env
 outer:=X.stack
 stack:=X.stack
 ex:=ex
 fn:=λ_=>false
 calm:=X.calm
 pn:=[]
 xe:=λ_ _=>False
def QbV(env:Env):List (Str×Qae)->List (Str×Addr)->List (Str×Addr)
 |[],acc=>acc
 |(n,k)::r,acc=>QbV env r (if k=.free then(n,(env.cells.lookup n).getD 0)::acc else acc)
theorem QiX{env:Env}:∀(l:List (Str×Qae))(acc:List (Str×Addr)),(∀x∈l,x.2=.free->∃c,env.cells.lookup x.1=some c) ->
  (forIn (m:=Sem) l acc λx cs=>(if(x.2 == Jj)=true then do let a <- cellOf env x.1;pure (ZQ ((x.1,a)::cs)) else pure (ZQ cs)))=pure (QbV env l acc)
 |[],acc,_=>rfl
 |(n,k)::r,acc,h=>by
  rw[QcT];by_cases hk:k=.free
  ·subst hk;obtain⟨c,hc⟩:=h (n,.free) JC rfl;have e1:cellOf env n=pure c:=by unfold cellOf;rw[hc]
   have e2:QbV env ((n,.free)::r) acc=QbV env r ((n,c)::acc):=by
    show QbV env r (if Jj=.free then(n,(env.cells.lookup n).getD 0)::acc else acc)=_;rw[if_pos rfl,hc];rfl
   rw[e2];show((if(Jj == Jj)=true then do let a <- cellOf env n;pure (ZQ ((n,a)::acc)) else pure (ZQ acc)) >>= _)=_;rw[if_pos (show(Jj == Jj)=true by decide),e1];exact QiX r _ λx hx=>h x (QX _ hx)
  ·have hb:(k == Jj)=false:=by simpa using hk
   have e2:QbV env ((n,k)::r) acc=QbV env r acc:=by
    show QbV env r (if k=.free then(n,(env.cells.lookup n).getD 0)::acc else acc)=_;rw[if_neg hk]
   rw[e2];show((if(k == Jj)=true then _ else pure (ZQ acc)) >>= _)=_;rw[hb,if_neg Qt];exact QiX r _ λx hx=>h x (QX _ hx)
theorem Qgt{scope:YA}{env:Env}(h:∀x∈scope.names,x.2=.free->∃c,env.cells.lookup x.1=some c):closureFor scope env=pure (QbV env scope.names []):=by
 have e:=QiX (env:=env) scope.names [] h;unfold closureFor;show(forIn scope.names [] _ >>= _)=_;have e':(forIn (m:=Sem) scope.names ([]:List (Str×Addr)) λx cs=>match x with | (name,kind)=>(if(kind == Jj)=true then do let a <- cellOf env name;pure (ZQ ((name,a)::cs)) else pure (ZQ cs)))=pure (QbV env scope.names []):=e
 first
  |(rw[e'];rfl)
  |(refine Eq.trans (congrArg (λt=>t >>= _) e') ?_;rfl)
theorem Qgu{env:Env}:∀(l:List (Str×Qae))(acc:List (Str×Addr)),(∀x∈l,x.2=.free->∃c,env.cells.lookup x.1=some c)->(∀x c,acc.lookup x=some c->env.cells.lookup x=some c) ->
  (∀x c,(QbV env l acc).lookup x=some c->env.cells.lookup x=some c)/\(∀x c,acc.lookup x=some c->(QbV env l acc).lookup x=some c)/\∀x,(x,Jj)∈l->∃c,(QbV env l acc).lookup x=some c
 |[],acc,_,ha=>⟨ha,λ_ _ h=>h,λ_ h=>nomatch h⟩
 |(n,k)::r,acc,h,ha=>by
  have hr:∀x∈r,x.2=.free->∃c,env.cells.lookup x.1=some c:=λx hx=>h x (QX _ hx)
  by_cases hk:k=.free
  ·subst hk;obtain⟨c,hc⟩:=h (n,.free) JC rfl;have e2:QbV env ((n,.free)::r) acc=QbV env r ((n,c)::acc):=by
    show QbV env r (if Jj=.free then(n,(env.cells.lookup n).getD 0)::acc else acc)=_;rw[if_pos rfl,hc];rfl
   rw[e2];have ha':∀x c',((n,c)::acc).lookup x=some c'->env.cells.lookup x=some c':=λx c' q=>by
    rw[Jk] at q;cases hx:x == n with
    |true=>
     rw[hx] at q;have z:c=c':=Qx q;have y:x=n:=by simpa using hx
     rw[y,<- z];exact hc
    |false=>rw[hx] at q;exact ha x c' q
   obtain⟨i1,i2,i3⟩:=Qgu r ((n,c)::acc) hr ha';refine⟨i1,λx c' q=>?_,λx hx=>?_⟩
   ·refine i2 x c' ?_
    rw[Jk];cases hx:x == n with
    |true=>
     have y:x=n:=by simpa using hx
     have:=ha x c' q;rw[y,hc] at this;exact this
    |false=>exact q
   ·rcases Qu.mp hx with z | z
    ·cases z;exact⟨c,i2 n c (by rw[Jk,beq_self_eq_true])⟩
    ·exact i3 x z
  ·have e2:QbV env ((n,k)::r) acc=QbV env r acc:=by
    show QbV env r (if k=.free then(n,(env.cells.lookup n).getD 0)::acc else acc)=_;rw[if_neg hk]
   rw[e2];obtain⟨i1,i2,i3⟩:=Qgu r acc hr ha;refine⟨i1,i2,λx hx=>?_⟩;rcases Qu.mp hx with z | z
   ·cases z;exact absurd rfl hk
   ·exact i3 x z
theorem Y9{l:List (Str×Qae)}{x:Str}{k:Qae}(h:l.lookup x=some k):(x,k)∈l:=by
 induction l with
 |nil=>cases h
 |cons p r ih=>
  obtain⟨n,q⟩:=p;rw[Jk] at h;cases hx:x == n with
  |true=>
   rw[hx] at h;have y:x=n:=by simpa using hx
   have z:q=k:=Qx h;subst y z;exact JC
  |false=>rw[hx] at h;exact QX _ (ih h)
theorem YU{env:Env}:∀{names:List (Str×Qae)}{x:Str}{k:Qae},(names.map λ(n,k)=>if(k == Jj&&env.scope.kind == .function&&env.kindOf n == some .cell) then(n,ZM) else(n,k)).lookup x=some k ->
  names.lookup x=some k∨(k=.cell/\names.lookup x=some .free)
 |[],x,k,h=>by cases h
 |(n,q)::r,x,k,h=>by
  have ih:=@YU env r x k;rw[Js] at h;have h':QgJ x ((if(q == Jj&&env.scope.kind == .function&&env.kindOf n == some .cell)=true then(n,ZM) else(n,q))::_)=some k:=h;cases hx:x == n with
  |true=>
   by_cases hc:(q == Jj&&env.scope.kind == .function&&env.kindOf n == some .cell)=true
   ·rw[if_pos hc,Jk,hx] at h';have z:ZM=k:=Qx h';have y:q=.free:=by simp at hc;exact hc.1.1
    refine .inr ⟨z.symm,?_⟩;rw[Jk,hx,y]
   ·rw[if_neg hc,Jk,hx] at h';refine .inl ?_
    rw[Jk,hx];exact h'
  |false=>
   have h2:QgJ x (r.map λ(n,k)=>if(k == Jj&&env.scope.kind == .function&&env.kindOf n == some .cell) then(n,ZM) else(n,k))=some k:=by
    by_cases hc:(q == Jj&&env.scope.kind == .function&&env.kindOf n == some .cell)=true
    ·rw[if_pos hc,Jk,hx] at h';exact h'
    ·rw[if_neg hc,Jk,hx] at h';exact h'
   rw[Jk,hx];exact ih h2
theorem relabel_free{env:Env}:∀{names:List (Str×Qae)}{x:Str},names.lookup x=some .free->(names.map λ(n,k)=>if(k == Jj&&env.scope.kind == .function&&env.kindOf n == some .cell) then(n,ZM) else(n,k)).lookup x=some .cell ∨
   (names.map λ(n,k)=>if(k == Jj&&env.scope.kind == .function&&env.kindOf n == some .cell) then(n,ZM) else(n,k)).lookup x=some .free
 |[],x,h=>by cases h
 |(n,q)::r,x,h=>by
  have ih:=@relabel_free env r x;rw[Js];show QgJ x ((if(q == Jj&&env.scope.kind == .function&&env.kindOf n == some .cell)=true then(n,ZM) else(n,q))::_)=some .cell∨QgJ x ((if(q == Jj&&env.scope.kind == .function&&env.kindOf n == some .cell)=true then(n,ZM) else(n,q))::_)=some .free;cases hx:x == n with
  |true=>
   rw[Jk,hx] at h;have z:q=Jj:=Qx h;subst z;by_cases hc:(Jj == Jj&&env.scope.kind == .function&&env.kindOf n == some .cell)=true
   ·rw[if_pos hc,Jk,hx];exact .inl rfl
   ·rw[if_neg hc,Jk,hx];exact .inr rfl
  |false=>
   rw[Jk,hx] at h;by_cases hc:(q == Jj&&env.scope.kind == .function&&env.kindOf n == some .cell)=true
   ·rw[if_pos hc,Jk,hx];exact ih h
   ·rw[if_neg hc,Jk,hx];exact ih h
def Qgw(N:List Str)(sc:YA)(M:List Str)(scope:YA)(cap:List (Option Nat)):Bool:=
 cap.length == M.length&&(M.zip cap).all (λ(x,o)=>match o with
  |none=>scope.names.lookup x == some .local
  |some j=>N[j]? == some x&&(scope.names.lookup x == some .free&&(sc.names.lookup x == some .cell||sc.names.lookup x == some .free))) &&
 (scope.kind == .function&&scope.names.all λy=>y.2 != .cell&&((y.2 != .free||(sc.names.lookup y.1 == some .cell||sc.names.lookup y.1 == some .free))&&(y.2 != .local||scope.names.lookup y.1 == some .local)))
def Qdh(cap:List (Option Nat))(σ:St):St:=cap.map λo=>match o with
 |none=>none
 |some j=>(σ[j]?).getD none
structure CapOk (N:List Str) (sc:YA) (M:List Str) (scope:YA) (cap:List (Option Nat)):Prop where
 len:cap.length=M.length
 own:∀(i j:Nat)(x:Str),M[i]? = some x->cap[i]? = some (some j)->N[j]? = some x/\scope.names.lookup x=some .free/\(sc.names.lookup x=some .cell∨sc.names.lookup x=some .free)
 kind:scope.kind=.function
 cell:∀y∈scope.names,y.2≠.cell
 free:∀y∈scope.names,y.2=.free->sc.names.lookup y.1=some .cell∨sc.names.lookup y.1=some .free
 loc:∀y∈scope.names,y.2=.local->scope.names.lookup y.1=some .local
theorem CapOk.of{N:List Str}{sc:YA}{M:List Str}{scope:YA}{cap:List (Option Nat)}(h:Qgw N sc M scope cap=true):CapOk N sc M scope cap:=by
 unfold Qgw at h;simp only[JK,Zi,beq_iff_eq] at h;obtain⟨⟨h1,h2⟩,h3,h4⟩:=h;refine⟨h1,λi j x e1 e2=>?_,h3,λy hy z=>?_,λy hy z=>?_,λy hy z=>?_⟩
 ·have hm:(x,some j)∈M.zip cap:=by
   have:(M.zip cap)[i]? = some (x,some j):=by rw[Qh5];exact⟨e1,e2⟩
   exact QJ this
  have:=h2 _ hm;simp only[JK,beq_iff_eq,QgO] at this;exact this
 ·have:=(h4 y hy).1;simp[z] at this
 ·have:=(h4 y hy).2.1
  simpa [z] using this
 ·have:=(h4 y hy).2.2
  simpa [z] using this
section
variable{X:Cx}{pins:List (Addr×Obj)}{σ:St}{H H3:Hp}{s3:Shared}{M:List Str}{scope:YA}{cap:List (Option Nat)}{fp:List Addr}{h4:Heap}{t4:Nat}
theorem Cx.Ok.cells(ok:X.Ok){N:List Str}(c:CapOk N X.env.scope M scope cap):∀y∈scope.names,y.2=.free->∃d,X.env.cells.lookup y.1=some d:=λy hy z=>ok.has y.1 (c.free y hy z)
theorem QeK(I:Inv X pins σ H3 s3)(c:CapOk X.N X.env.scope M scope cap)(hf:∀b∈fp,FpOk X pins H3 b)(hb:∀b∈fp,b<s3.heap.objs.size)
  (hn:h4.Ns s3.heap.objs.size λ_=>none)(hk:∀b o,s3.heap.get? b=some o->h4.get? b=some o) :
  Inv (blk X M scope (QbV X.env scope.names []) fp s3 H3 s3.heap.objs.size) [] (Qdh cap σ) H3 { s3 with heap:=h4,toks:=t4 }:=by
 obtain⟨c1,c2,c3⟩:=Qgu scope.names [] (I.ok.cells c) (λx d q=>by cases q);refine⟨⟨I.ok.mod,c.kind,I.ok.glob,I.ok.blt,Qg _,λx y d e1 e2=>I.ok.inj x y d (c1 x d e1) (c1 y d e2),λx hx=>?_,(λx d z=>nomatch z),I.ok.hd,I.ok.frames,.inl rfl,λb hb'=>?_,I.bs,
  QY I.ok.bsz I.sz,λb o e z=>?_,λb hb' z=>?_,I.stack,I.stkFree⟩,rfl,I.bare,Un.kept hk,⟨_,hn,λi x v e1 e2 e3=>?_⟩,λx d e=>?_,I.hok.fresh (Qg _),λx d e=>I.freeC x d (c1 x d e),λp hp=>(nomatch hp),I.hok.kept hk,?_⟩
 ·have hx':(relabel scope X.env).names.lookup x=some .cell∨(relabel scope X.env).names.lookup x=some .free:=hx;rcases hx' with q | q
  ·rcases YU q with z | ⟨_,z⟩
   ·exact absurd rfl (c.cell _ (Y9 z))
   ·exact c3 x (Y9 z)
  ·rcases YU q with z | ⟨z,_⟩
   ·exact c3 x (Y9 z)
   ·cases z
 ·obtain⟨f0,f1,f2,f3,f4,f5⟩:=hf b hb';exact⟨Qv (hb b hb'),λx d e=>f4 x d (c1 x d e)⟩
 ·obtain⟨f0,f1,f2,f3,f4,f5⟩:=hf b z;rcases f3 with q | q
  ·exact I.ok.noex b o e q
  ·exact absurd (QK (Qk e) (QY I.ok.bsz q)) (Zu _)
 ·obtain⟨f0,f1,f2,f3,f4,f5⟩:=hf b hb';rcases Qu.mp (I.stkSub b z) with q | q
  ·exact f1 q
  ·exact f2 q
 ·have e2':(cap.map λo=>match o with | none=>none | some j=>(σ[j]?).getD none)[i]? = some (some v):=e2;rw[Qo] at e2';cases q:cap[i]? with
  |none=>rw[q] at e2';cases e2'
  |some o=>
   rw[q] at e2';cases o with
   |none=>cases e2'
   |some j=>
    have e4:(σ[j]?).getD none=some v:=Qx e2';have e5:σ[j]? = some (some v):=by
     cases r:σ[j]? with
     |none=>rw[r] at e4;cases e4
     |some o=>rw[r] at e4;exact congrArg some e4
    obtain⟨n1,n2,n3⟩:=c.own i j x e1 q;obtain⟨m,hm,hl⟩:=I.loc;obtain⟨u,ru,lk⟩:=hl j x v n1 e5 (n3.elim (λz=>.inr (.inl z)) λz=>.inr (.inr z));refine⟨u,ru,.inr ?_⟩;rcases lk with⟨k1,_⟩ | ⟨_,d,k2,k3⟩
    ·have k1':X.env.scope.names.lookup x=some .local:=k1;rcases n3 with z | z<;>(rw[z] at k1';cases k1')
    ·obtain⟨d',hd'⟩:=c3 x (Y9 n2);have ed:d'=d:=by
      have:=c1 x d' hd';rw[k2] at this;exact(Qx this).symm
     subst ed;exact⟨(relabel_free n2:(relabel scope X.env).names.lookup x=some .cell∨(relabel scope X.env).names.lookup x=some .free),d',hd',k3.keeps hk⟩
 ·obtain⟨v,q⟩:=I.cell x d (c1 x d e);exact⟨v,q.keeps hk⟩
 ·show(cap.map _).length=M.length;rw[Qa];exact c.len
theorem Qn7{σ':St}{s':Shared}{h':Heap}(I:Inv X pins σ H3 s3)(hf:∀b∈fp,FpOk X pins H3 b)(J:Inv (blk X M scope (QbV X.env scope.names []) fp s3 H3 s3.heap.objs.size) [] σ' H s')(hs:ZH s3.heap.objs.size s'.heap h') :
  Inv X pins σ H { s' with heap:=h' }:=by
 have u:Un (frs X.stack) fp H3 H s3.heap s'.heap:=J.base;have ne:∀b o,s3.heap.get? b=some o->b≠s3.heap.objs.size:=λb o e=>Qv (Qk e)
 have hC:H s3.heap.objs.size=none:=J.free;refine I.call' (ch:=fp) (s':={ s' with heap:=h' }) J.os ⟨λb o e n hb hx=>(hs.2 b (ne b o e)).trans (u.keep b o e n hb hx),λb o e n hb hx=>?_,u.free,λb o e hx=>?_,u.tups,u.frzs,u.tbls⟩ (λb o e=>?_) J.bare λb hb=>?_
 ·obtain⟨sl,q⟩:=u.slot b o e n hb hx;exact⟨sl,(hs.2 b (ne b o e)).trans q⟩
 ·obtain⟨o',q⟩:=u.there b o e hx;exact⟨o',(hs.2 b (ne b o e)).trans q⟩
 ·refine(J.hok b o e).stay (λc v hc q=>(hs.2 c ?_).trans q) (λ_ q=>q) λ_ _ q=>q
  rintro rfl;rcases hc with z | z
  ·rw[<- z,hC] at e;cases e
  ·rw[hC] at z;cases z
 ·obtain⟨f0,f1,f2,f3,f4,f5⟩:=hf b hb;exact⟨f3,f1,f4,f5⟩
end
def Wk:St->St->Prop
 |[],[]=>True
 |none::a,_::b=>Wk a b
 |some v::a,some u::b=>v=u/\Wk a b
 |_,_=>False
theorem Wk.len:∀{a b:St},Wk a b->a.length=b.length
 |[],[],_=>rfl
 |none::a,_::b,h=>congrArg (·+1) (Wk.len (a:=a) (b:=b) h)
 |some v::a,some u::b,h=>congrArg (·+1) (Wk.len (a:=a) (b:=b) h.2)
 |[],_::_,h=>h.elim
 |some _::_,[],h=>h.elim
 |none::_,[],h=>h.elim
 |some _::_,none::_,h=>h.elim
theorem Wk.get:∀{a b:St},Wk a b->∀(i:Nat) v,a[i]? = some (some v)->b[i]? = some (some v)
 |[],[],_,i,v,h=>by simp at h
 |none::a,x::b,h,0,v,e=>by simp at e
 |none::a,x::b,h,i+1,v,e=>by
  simp only[Zr] at e ⊢;exact Wk.get (a:=a) (b:=b) h i v e
 |some q::a,some u::b,h,0,v,e=>by
  simp only[Qjb] at e ⊢;rw[<- h.1];exact e
 |some q::a,some u::b,h,i+1,v,e=>by
  simp only[Zr] at e ⊢;exact Wk.get (a:=a) (b:=b) h.2 i v e
 |[],_::_,h,_,_,_=>h.elim
 |some _::_,[],h,_,_,_=>h.elim
 |none::_,[],h,_,_,_=>h.elim
 |some _::_,none::_,h,_,_,_=>h.elim
theorem Inv.wk{X:Cx}{pins:List (Addr×Obj)}{σ σ':St}{H:Hp}{s:Shared}(I:Inv X pins σ H s)(h:Wk σ' σ):Inv X pins σ' H s:=I.weak h.len h.get
def Qkz(J:It)(body:V->Hp->(Hp->Prop)->Prop)(Qn:Hp->Prop)(H:Hp):Prop:=
 ∃W:Nat->Nat->Hp->Prop,(∃m,W 0 m H)/\∀i m H2,W i m H2->(J.stop i H2/\Qn H2)∨(J.go i H2/\∀x H3,J.yld i H2 x H3->body x H3 λH6=>∃m',m'<m/\W (i+1) m' H6)
abbrev Act:=(Shared->Prop)->Shared->Prop
def BodyOk(Y:Cx)(σ:St)(act:Act)(b:Hp->(Hp->Prop)->Prop):Prop:=
 ∀(pins:List (Addr×Obj))(s:Shared)(H:Hp)(k:Hp->Prop)(Q:Shared->Prop),Inv Y pins σ H s->b H k->(∀s' H',Inv Y pins σ H' s'->k H'->Q s')->act Q s
theorem Qcd{Y:Cx}{σ:St}{tg:Q0}{elt:Q0}{gens:List QfK}{scope:YA}{cpos:Pos}{d:Nat}{it D:Addr}{fp:List Addr}{tn:Nat->Heap->Prop}{J:It}{pins:List (Addr×Obj)}{s:Shared}{H:Hp}{body:V->Hp->(Hp->Prop)->Prop}{Qn:Hp->Prop}{R:Result->Shared->Prop}{act:Value->Act}
  (hc:Y.calm=true)(T:Turn Y.prog Y.w Y.K tg J fp it tn)(st:tn 0 s.heap)(hf:∀b∈fp,FpOk Y pins H b)
  (hturn:∀(Q:PySem.Fin->Shared->Prop)(E:Value->Shared->Prop)(s:Shared),wpAny (model Y.prog Y.w) Y.A (pyNext (.ref it)) (λr s1=>match r with
   |none=>Q (.done .next) s1
   |some v=>wpAny (model Y.prog Y.w) Y.A (letOwnedTupleGo tg (.ref it) v) (λ_ s2=>act v (λs3=>Q (.again (.compLoop (.ListComp elt gens scope cpos) d (.ref it) (.ref D) Y.env)) s3) s2) E s1) E s ->
   wpAny (model Y.prog Y.w) Y.A (compTurn (.ListComp elt gens scope cpos) d (.ref it) (.ref D) Y.env) Q E s)
  (hact:∀(x:V)(u:Value),RelV x u->BodyOk Y σ (act u) (body x))
  (I:Inv Y pins σ H s)(h:Qkz J body Qn H)(hR:∀s' H',Inv Y pins σ H' s'->Qn H'->R (.ok .next) s') :
  codeAny (model Y.prog Y.w) Y.A (.compLoop (.ListComp elt gens scope cpos) d (.ref it) (.ref D) Y.env) R s:=by
 obtain⟨W,⟨m0,w0⟩,turn⟩:=h;have stat:∀{H':Hp},(∀b∈fp,H' b=none)->∀b∈fp,FpOk Y pins H' b:=λhn b hb=>⟨hn b hb,(hf b hb).2⟩
 refine codeAny_loop rfl (λn s'=>∃i H',Inv Y pins σ H' s'/\tn i s'.heap/\(∀b∈fp,H' b=none)/\W i n H') (λn s3 hI=>?_) m0 ⟨0,H,I,st,λb hb=>(hf b hb).1,w0⟩;show wpAny _ Y.A ((compTurn (.ListComp elt gens scope cpos) d (.ref it) (.ref D) Y.env).onRaise (λx=>do noteFrame x Y.env;theTreesLotGoes x)) _ _ s3;refine wpAny_noted (hturn _ _ _ ?_);obtain⟨i,H3,I3,st3,fr3,w3⟩:=hI;rcases turn i n H3 w3 with⟨stop,qn⟩ | ⟨go,step⟩
 ·refine thn (T.done Y rfl rfl rfl hc i pins s3 σ H3 _ I3 (stat fr3) st3 stop) λr s4 ⟨hr,I4⟩=>?_
  subst hr;exact hR s4 H3 I4 qn
 ·refine thn (T.item Y rfl rfl rfl hc i pins s3 σ H3 _ I3 (stat fr3) st3 go) λr s4 ⟨u,hr,h4⟩=>?_
  subst hr;refine thn h4 λ_ s5 ⟨x,H5,I5,r5,y5,st5,fr5⟩=>?_
  have I5':=I5.pinned (stat fr5) (T.obj _ _ st5);refine hact x u r5 _ s5 H5 _ _ I5' (step x H5 y5) λs7 H7 I7 ⟨m',hm,w7⟩=>?_
  refine⟨rfl,m',hm,i+1,H7,I7.unpinned,T.keep _ _ _ st5 λb hb o e=>(I7.pin (b,o) (Ju _ (Ju _ (Qcl hb e)))).1,λb hb=>?_,w7⟩;obtain⟨o,e,dd⟩:=T.obj _ _ st5 b hb;exact(I7.pin (b,o) (Ju _ (Ju _ (Qcl hb e)))).2.1
abbrev QlT (ifs:List Q0) (env:Env):Sem Bool:=forIn ifs true λc r=>if r=true then do let ok <- isTrue c env (eval c env);pure (ZQ ok) else pure (ZQ r)
def PTs(Y:Cx)(ifs:List Q0)(t:TT):Prop:=
 ∀(pins:List (Addr×Obj))(s:Shared)(σ:St)(H:Hp)(Q:Bool->Hp->Prop),Inv Y pins σ H s->t σ H Q->wpAny (model Y.prog Y.w) Y.A (QlT ifs Y.env) (TP Y pins σ Q) Y.xe s
def Qek:TT:=λ_ H Q=>Q true H
theorem Qiw{Y:Cx}:PTs Y [] Qek:=λpins s σ H Q I h=>wpAny_tests_nil ⟨H,I,h⟩
theorem Qtz{Y:Cx}{c:Q0}{t:TT}(h:PT Y c t):PTs Y [c] t:=λpins s σ H Q I q=>wpAny_tests_one (h pins s σ H Q I q)
def Qrp(Y:Cx)(tg:Q0)(ifs:List Q0)(inner:Act):Value->Act:=λu Q s=>
 wpAny (model Y.prog Y.w) Y.A (assign tg Y.env u) (λ_ s4=>wpAny (model Y.prog Y.w) Y.A (QlT ifs Y.env) (λok s5=>if ok=true then inner Q s5 else Q s5) (λ_ _=>False) s4) (λ_ _=>False) s
def bOf(σ:St)(g:TG)(tc:TT)(inner:St->Hp->(Hp->Prop)->Prop):V->Hp->(Hp->Prop)->Prop:=λx H k=>g x σ H λσ4 H4=>Wk σ σ4/\tc σ4 H4 λb H5=>
 if b=true then inner σ4 H5 k else k H5
theorem QeJ{Y:Cx}{σ:St}{tg:Q0}{ifs:List Q0}{g:TG}{tc:TT}{inner:Act}{ri:St->Hp->(Hp->Prop)->Prop}(hx:Y.xe=λ_ _=>False)(hg:PG Y tg g)(ht:PTs Y ifs tc)(he:∀σ4,BodyOk Y σ4 inner (ri σ4))(x:V)(u:Value)(r:RelV x u) :
  BodyOk Y σ (Qrp Y tg ifs inner u) (bOf σ g tc ri x):=by
 intro pins s H k Q I h hQ;have hx':∀(v:Value)(s':Shared),Y.xe v s'->False:=λv s' z=>by rw[hx] at z;exact z
 refine wpAny_mono (hg pins s σ H x u _ I r h) (λ_ s4 ⟨σ4,H4,I4,wk,q4⟩=>?_) hx';refine wpAny_mono (ht pins s4 σ4 H4 _ I4 q4) (λb s5 ⟨H5,I5,q5⟩=>?_) hx';cases b with
 |false=>
  rw[if_neg Qt] at q5;rw[if_neg Qt];exact hQ s5 H5 (I5.wk wk) q5
 |true=>
  rw[if_pos rfl] at q5;rw[if_pos rfl];exact he σ4 pins s5 H5 k Q I5 q5 λs' H' I' k'=>hQ s' H' (I'.wk wk) k'
def Qof(Y:Cx)(elt:Q0)(D:Addr):Act:=λQ s=>wpAny (model Y.prog Y.w) Y.A (eval elt Y.env) (λv s6=>wpAny (model Y.prog Y.w) Y.A (call (.builtin "list.append") [.ref D,v]) (λ_ s7=>Q s7) (λ_ _=>False) s6) (λ_ _=>False) s
def QvF(p:Addr)(te:TE):St->Hp->(Hp->Prop)->Prop:=λσ H k=>te σ H λv H6=>∃ys,H6 p=some (.lst ys)/\ys.length<sizeLine/\k (upd H6 p (.lst (ys++[v])))
theorem Qee{Y:Cx}{σ:St}{elt:Q0}{te:TE}{D:Addr}(hx:Y.xe=λ_ _=>False)(he:PE Y elt te):BodyOk Y σ (Qof Y elt D) (QvF D te σ):=by
 intro pins s H k Q I h hQ;have hx':∀(v:Value)(s':Shared),Y.xe v s'->False:=λv s' z=>by rw[hx] at z;exact z
 refine wpAny_mono (he pins s σ H _ I h) (λv s6 ⟨y,H6,I6,r6,ys,e,hz,q⟩=>?_) hx';exact wpAny_mono (Qhq (X:=Y) pins s6 σ H6 (.ref D) [y] (.ref D) [v] (λ_ H'=>k H') I6 rfl (.cons r6 .nil) ⟨D,ys,y,rfl,rfl,e,hz,q⟩) (λ_ s7 ⟨_,H7,I7,_,q7⟩=>hQ s7 H7 I7 q7) hx'
theorem QfR{Y:Cx}{elt tg iter:Q0}{ifs:List Q0}{scope:YA}{cpos:Pos}{it D:Addr}(Q:PySem.Fin->Shared->Prop)(E:Value->Shared->Prop)(s:Shared)
  (h:wpAny (model Y.prog Y.w) Y.A (pyNext (.ref it)) (λr s1=>match r with
   |none=>Q (.done .next) s1
   |some v=>wpAny (model Y.prog Y.w) Y.A (letOwnedTupleGo tg (.ref it) v) (λ_ s2=>Qrp Y tg ifs (Qof Y elt D) v (λs3=>Q (.again (.compLoop (.ListComp elt [⟨tg,iter,ifs,0⟩] scope cpos) 0 (.ref it) (.ref D) Y.env)) s3) s2) E s1) E s) :
  wpAny (model Y.prog Y.w) Y.A (compTurn (.ListComp elt [⟨tg,iter,ifs,0⟩] scope cpos) 0 (.ref it) (.ref D) Y.env) Q E s:=by
 rw[compTurn_list];refine wpAny_bind (wpAny_standAt (wpAny_bind (thn h λr s1 h1=>?_)));cases r with
 |none=>exact Qd h1
 |some v=>
  refine wpAny_bind (thn h1 λ_ s2 h2=>?_);refine wpAny_bind (wpAny_mono h2 (λ_ s4 h4=>wpAny_bind (wpAny_mono h4 (λok s5 h5=>?_) λ_ _ f=>f.elim)) λ_ _ f=>f.elim);cases ok with
  |false=>exact Qd h5
  |true=>exact wpAny_bind (wpAny_bind (wpAny_mono h5 (λx s6 h6=>wpAny_bind (wpAny_mono h6 (λ_ s7 h7=>Qd (Qd h7)) λ_ _ f=>f.elim)) λ_ _ f=>f.elim))
def tComp(cap:List (Option Nat))(wi:TI)(g:TG)(tc:TT)(te:TE):TE:=λσ H Q=>wi σ H λJ H1=>∀p,H1 p=none->Qkz J (bOf (Qdh cap σ) g tc (QvF p te)) (Q (.ref p)) (upd H1 p (.lst []))
theorem FpOk.upd{X:Cx}{pins:List (Addr×Obj)}{H:Hp}{b a:Addr}{o:HO}(h:FpOk X pins H b)(hne:b≠a):FpOk X pins (upd H a o) b:=⟨by rw[Jw hne];exact h.1,h.2⟩
theorem Qgg{X:Cx}{M:List Str}{cap:List (Option Nat)}{elt tg iter:Q0}{ifs:List Q0}{scope:YA}{pos:Pos}{wi:TI}{g:TG}{tc:TT}{te:TE}(hc:X.calm=true)(ok:Qgw X.N X.env.scope M scope cap=true)
  (hi:PI X tg iter wi)(hb:∀cl ex s3 H3 C,PG (blk X M scope cl ex s3 H3 C) tg g/\PTs (blk X M scope cl ex s3 H3 C) ifs tc/\PE (blk X M scope cl ex s3 H3 C) elt te)
  (hs:∀x,foldedSetIterable iter X.env x=pure x:=by intro _;rfl):PE X (.ListComp elt [⟨tg,iter,ifs,0⟩] scope pos) (tComp cap wi g tc te):=by
 intro pins s σ H Q I h;have c:=CapOk.of ok;rw[eval_ListComp];refine QaA (use:=none) rfl hs (Qgt (I.ok.cells c)) c.kind c.loc ?_
 refine thn (hi pins s σ H _ I h) λv s1 h1=>thn h1 λitv s2 h2=>?_
 obtain⟨it,fp,tn,J,H2,e,I2,T,st2,f2,hW⟩:=h2;subst e;refine Q4 (Qeg c.cell (by intro y hy;simp at hy) (λh₁ hns₁ hsb₁=>?_) c.kind);have I3:Inv X pins σ (upd H2 s2.heap.objs.size (.lst [])) { s2 with heap:=s2.heap.push { cls:=.type "list",data:=.seq ([]:List Value).toArray } }:=I2.lnew (t':=s2.toks) (ys:=[]) .nil (Q7 _);have lt2:∀b∈fp,b<s2.heap.objs.size:=λb hb=>by obtain⟨o,e,_⟩:=T.obj _ _ st2 b hb;exact Qk e
 have f3:∀b∈fp,FpOk X pins (upd H2 s2.heap.objs.size (.lst [])) b:=λb hb=>(f2 b hb).upd (Qv (lt2 b hb))
 generalize hs3:({ s2 with heap:=s2.heap.push { cls:=.type "list",data:=.seq ([]:List Value).toArray } }:Shared)=s3 at I3;have e3:s3.heap=s2.heap.push { cls:=.type "list",data:=.seq ([]:List Value).toArray }:=by rw[<- hs3]
 have z3:s3.heap.objs.size=s2.heap.objs.size+1:=by rw[e3,JG]
 have hk:∀b o,s3.heap.get? b=some o->h₁.get? b=some o:=λb o e=>hsb₁.extBut b o (by
  have:=Qk e;rw[e3] at this;exact Qv this) (Qc _ (e3 ▸ e))
 have hn₁:h₁.Ns s3.heap.objs.size λ_=>none:=by rw[e3];exact hns₁
 have B:=QeK (t4:=s3.toks+([]:List (Str×Value)).length) (fp:=fp) I3 c f3 (λb hb=>by rw[z3];exact Z0 (lt2 b hb)) hn₁ hk;have st4:tn 0 h₁:=T.keep _ _ _ st2 λb hb o e=>hk b o (by rw[e3];exact Qc _ e)
 have fp4:∀b∈fp,FpOk (blk X M scope (QbV X.env scope.names []) fp s3 (upd H2 s2.heap.objs.size (.lst [])) s3.heap.objs.size) [] (upd H2 s2.heap.objs.size (.lst [])) b:=λb hb=>by
  refine⟨(f3 b hb).1,(B.ok.exf b hb).1,B.ok.exfs b hb,.inl hb,(B.ok.exf b hb).2,λp hp=>(nomatch hp)⟩
 obtain⟨hg,ht,he⟩:=hb (QbV X.env scope.names []) fp s3 (upd H2 s2.heap.objs.size (.lst [])) s3.heap.objs.size;have loop:codeAny (model X.prog X.w) X.A (.compLoop (.ListComp elt [⟨tg,iter,ifs,0⟩] scope pos) 0 (.ref it) (.ref s2.heap.objs.size) (compEnvC scope (QbV X.env scope.names []) s3.heap.objs.size X.env))
   (compPost (model X.prog X.w) X.A X.xe none (EP X pins σ Q) (.ref s2.heap.objs.size) s3.heap.objs.size) { s3 with heap:=h₁,toks:=s3.toks+([]:List (Str×Value)).length }:=by
  refine Qcd (Y:=blk X M scope (QbV X.env scope.names []) fp s3 (upd H2 s2.heap.objs.size (.lst [])) s3.heap.objs.size) (gens:=[⟨tg,iter,ifs,0⟩]) (d:=0) hc T st4 fp4
   (λQ E s h=>QfR Q E s h) (λx u r=>QeJ rfl hg ht (λσ4=>Qee rfl he) x u r) B (hW _ (I2.hok.fresh (Qg _))) λs' H' I' q=>?_
  obtain⟨m,hn,_⟩:=I'.loc;exact⟨m,hn,λh' hs'=>⟨.ref s2.heap.objs.size,H',Qn7 I3 f3 I' hs',rfl,q⟩⟩
 exact QaZ loop (T.self _ 0 _ _ _ st4 loop)
section
variable{X:Cx}
theorem ZG:CallR X (.builtin "isinstance") (λxs H Q=>∃x t T b,xs=[x,.ty T]/\TyOf X.K H x t/\PySem.W.kitOne X.K t (.type T)=some b/\Q (.bl b) H):=by
 intro pins s σ H xs us Q I r h;obtain⟨x,t,T,b,rfl,ty,e,q⟩:=h;obtain⟨u,v,rfl,ru,rv⟩:=vals2 r;cases(show v=YO T from rv);exact Qnn I ru ty e λtk=>⟨.bl b,H,I.tok tk,rfl,q⟩
theorem Qrj{bs:List Bool}:∀{us:List Value},Vals (bs.map V.bl) us->LSm.BoolsAre us bs:=by
 induction bs with
 |nil=>intro us r;cases r;exact .nil
 |cons b bs ih=>
  intro us r;cases r with
  |cons r t=>
   cases(show _=QcR b from r);exact .cons b (ih t)
theorem Qri:CallR X (.builtin "all") (λxs H Q=>∃(p:Addr)(bs:List Bool),xs=[.ref p]/\SqL X.K H p (bs.map V.bl)/\X.calm=true/\Q (.bl (bs.all id)) H):=by
 intro pins s σ H xs us Q I r h;obtain⟨p,bs,rfl,hp,hc,q⟩:=h;obtain⟨u,rfl,ru⟩:=vals1 r;cases ru;obtain⟨its,rv,pl,hz⟩:=I.list hp;have hl:=pl.isList;have hb:=Qrj rv;have hlt:p<s.heap.objs.size:=by obtain⟨_,e,_⟩:=hl;exact Qk e
 refine call_all_walk (QyE hl ?_);refine⟨s.heap.objs.size,[s.heap.objs.size,p],[s.heap.objs.size],its.toArray.size,_,_,λi=>(bs[i]?).getD true,rfl,Walks.list (A:=X.A.in1) (I.ok.hd hc) _ p (Qv hlt) its.toArray,
  ⟨⟨_,Qm _ rfl,rfl,rfl⟩,hl.push _⟩,λi v s' Q' E' hP hQ=>?_,λh' tk hk=>?_⟩
 ·obtain⟨b,e,rfl⟩:=hb.get i v (by simpa using hP);simp only[e,Option.getD_some] at hQ;exact Qab hQ
 ·have e:((Qf its.toArray.size).all λi=>(bs[i]?).getD true)=bs.all id:=by
   rw[Qj,hb.length];exact LSm.range_all bs
  rw[e];exact⟨.bl _,H,I.kept (LSm.kept_iter hk),rfl,q⟩
def QAv:V->Option Int->Option Int->Hp->VK->Prop:=λx lo hi H Q=>∃a xs,x=.ref a/\H a=some (.tup xs)/\∀p H',Same H H'->H' p=some (.tup (Qj7 xs lo hi))->Q (.ref p) H'
theorem Jn{H:Hp}{p:Addr}{o:HO}(h:H p=none):Same H (upd H p o):=λb u e=>by rw[Jw (Zl e h)];exact e
theorem QcN{prog:Qy}{w:Jc}{A:Jb}{E:Value->Shared->Prop}{s:Shared}{t sl:Addr}{items:Array Value}{vl vu:Value}{lo hi:Option Int}{Q:Value->Shared->Prop}(ht:IsTup s.heap t items)(hs:s.heap.IsSliceOf sl vl vu .none)(pl:Qh8 vl lo)(pu:Qh8 vu hi)
  (h1:HT.sIx items.size 0 lo=0)(h2:HT.sIx items.size items.size hi=items.size)(h:Q (.ref t) s):wpAny (model prog w) A (getItem (.ref t) (.ref sl)) Q E s:=by
 obtain⟨os,hos,hcs,hds⟩:=id hs;have hTs:s.TypeIs (.ref sl) "slice" := ⟨os,hos,hcs⟩;unfold getItem
 try with_reducible refine J3 ?_
 first | refine wpAny_bind (Qd ?_) | skip
 refine wpAny_bind (QyD ht.typeIs (by decide) ?_);refine wpAny_bind (JH (name:=Yy "__getitem__") ht.typeIs J1
  (Jy J1 ht.typeIs QvK ?_ (Qyh _ _)))
 show wpAny _ _ (QdE (.ref t) >>= _) _ _ s;refine wpAny_bind (tupleItemsOf_ ht ?_);refine wpAny_bind (Qay hTs ?_);rw[if_pos (by decide)];refine wpAny_bind (HT.QbN hs pl pu ?_);show wpAny _ _ (if(((HT.sIx items.size 0 lo:Nat):Int) == 0&&(1:Int) == 1&&(HT.sIx items.size items.size hi - HT.sIx items.size 0 lo) == items.size)=true then _ else _) _ _ s;rw[if_pos (by rw[h1,h2];simp)];refine wpAny_bind (m:=Qy3 _) (wpAny_bind (Qay ht.typeIs (Qd ?_)));rw[if_pos (by decide)];exact wpAny_bind (wpAny_rule (Qd ⟨_,rfl,Qd h⟩))
theorem Qwa:SlR X QAv:=by
 intro pins s σ H x v vl vu lo hi sl Q I rx hs pl pu h;obtain⟨a,xs,rfl,hx,q⟩:=h;by_cases hw:HT.sIx xs.length 0 lo=0/\HT.sIx xs.length xs.length hi=xs.length
 ·cases rx;obtain⟨its,r,ht,hz⟩:=I.tuple (SqT.of hx);have hlen:its.toArray.size=xs.length:=by rw[Qj];exact r.length.symm
  refine⟨"tuple",_,J1.lookup,ht.typeIs,?_⟩;refine QcN ht hs pl pu (by rw[hlen];exact hw.1) (by rw[hlen];exact hw.2) ?_
  refine⟨.ref a,H,I,rfl,q a H (Same.refl H) ?_⟩;have e:Qj7 xs lo hi=xs:=by
   unfold Qj7;rw[hw.1,hw.2];simp
  rw[e];exact hx
 ·exact Qv9 pins s σ H (.ref a) v vl vu lo hi sl Q I rx hs pl pu ⟨a,xs,rfl,SqT.of hx,hw,λp hp=>q p _ (Jn hp) Jg⟩
def Qts:R2:=λx y H Q=>∃a b xs ys,x=.ref a/\y=.ref b/\H a=some (.tup xs)/\H b=some (.tup ys)/\xs.length+ys.length<=sizeLine/\∀p H',Same H H'->H' p=some (.tup (xs++ys))->Q (.ref p) H'
theorem QmP:OpR X (binaryOp .Add) Qts:=by
 intro pins s σ H x y v u Q I rx ry h;obtain⟨a,b,xs,ys,rfl,rfl,ha,hb,hz,q⟩:=h;by_cases hx:xs=[]
 ·subst hx;cases rx;cases ry;obtain⟨its,r1,p1,_⟩:=I.tuple (SqT.of ha);obtain⟨its2,r2,p2,_⟩:=I.tuple (SqT.of hb);cases r1;obtain⟨⟨cls,dd,data,sl⟩,ho,hc,n,hd⟩:=id p1;obtain⟨⟨cls2,dd2,data2,sl2⟩,ho2,hc2,n2,hd2⟩:=id p2;simp only at hc hd hc2 hd2;subst hc hd hc2 hd2;exact QsJ ⟨_,ho,rfl⟩ ⟨_,ho2,rfl⟩ Qic Qos PySem.F.slot_tuple_add PySem.F.entry_tuple_add (PySem.F.args_tuple_add_2 _ _)
   (tuple_addW0 a b #[] its2.toArray n n2 dd dd2 sl sl2 rfl) ⟨ho,ho2,⟨.ref b,H,I,rfl,q b H (Same.refl H) hb⟩⟩
 ·exact Qul pins s σ H _ _ v u Q I rx ry ⟨a,b,xs,ys,rfl,rfl,SqT.of ha,SqT.of hb,hx,hz,λe=>q a H (Same.refl H) (by rw[e,Z5];exact ha),λ_ p hp=>q p _ (Jn hp) Jg⟩
end
end L2
namespace Rz
open Sem (wp)
section
variable{prog:Qy}{w:Jc}{A:Jb}{E:Value->Shared->Prop}{s:Shared}
theorem Qd7{it t:Addr}{i:Nat}{items:Array Value}{x:Value}{Q:Value->Shared->Prop}(hit:s.heap.IsTupleIter it t i)(ht:s.heap.IsTuple t items)(hx:items[i]? = some x)
  (hQ:∀h',h'.IsTupleIter it t (i+1)->ZH it s.heap h'->Q x { s with heap:=h' }):wpAny (model prog w) A (JO (.ref it)) Q E s:=by
 obtain⟨o,ho,hc,hd⟩:=id hit;obtain⟨ol,hol,_,nl,hdl⟩:=ht;unfold JO;refine wpAny_bind (JH (name:=Yy "__next__") hit.typeIs Qaa
  (Jy Qaa hit.typeIs Qij ?_ (Qh9 _)))
 show wpAny _ _ (field (.ref it) 0 >>= _) _ _ s;refine wpAny_bind (Zf ho hd (x:=.ref t) rfl ?_);show wpAny _ _ (if(QF t == Jo)=true then _ else _) _ _ s;rw[if_neg (show ¬((QF t == Jo)=true) from Qt)];show wpAny _ _ (field (.ref it) 1 >>= _) _ _ s;refine wpAny_bind (Zf ho hd (x:=.int i 0) rfl ?_);show wpAny _ _ (seqItems? (.ref t) >>= _) _ _ s;refine wpAny_bind (Z9 hol hdl ?_);simp only[Qq,hx];refine wpAny_bind (Qaj ho hd (by simp) (Qd ⟨x,rfl,Qd (hQ _ ?_ (JN ..))⟩));exact⟨_,J6 _ ho (QaU (ZL hd _)),(Qb0 ..).trans hc,by
  rw[ZL hd];simp[rawInt]⟩
theorem QiB{it t:Addr}{i:Nat}{items:Array Value}{Q:Value->Shared->Prop}(hh:A.handled=none)(hit:s.heap.IsTupleIter it t i)(ht:s.heap.IsTuple t items)(hx:items[i]? = none)
  (hE:∀h' e,Qol it s.heap h'->(∃o,h'.get? e=some o/\o.cls=.type "StopIteration")->E (.ref e) { s with heap:=h' }):wpAny (model prog w) A (JO (.ref it)) Q E s:=by
 obtain⟨o,ho,hc,hd⟩:=id hit;obtain⟨ol,hol,_,nl,hdl⟩:=ht;unfold JO;refine wpAny_bind (JH (name:=Yy "__next__") hit.typeIs Qaa
  (Jy Qaa hit.typeIs Qij ?_ (Qh9 _)))
 show wpAny _ _ (field (.ref it) 0 >>= _) _ _ s;refine wpAny_bind (Zf ho hd (x:=.ref t) rfl ?_);show wpAny _ _ (if(QF t == Jo)=true then _ else _) _ _ s;rw[if_neg (show ¬((QF t == Jo)=true) from Qt)];show wpAny _ _ (field (.ref it) 1 >>= _) _ _ s;refine wpAny_bind (Zf ho hd (x:=.int i 0) rfl ?_);show wpAny _ _ (seqItems? (.ref t) >>= _) _ _ s;refine wpAny_bind (Z9 hol hdl ?_);simp only[Qq,hx];refine wpAny_bind (wpAny_rule (wpAny_bind (Qaj ho hd (by simp) ?_)));show wpAny _ _ (newExc (.type "StopIteration") [] >>= _) _ _ _;refine wpAny_bind ?_
 simp only[newExc,newTuple];refine wpAny_bind (Q4 ?_ (by size_fits));refine wpAny_bind (m:=firstArgMember _ _) (Yd (a:=Jo) (by first | rfl | (simp only[firstArgMember];rfl)) ?_);refine Q4 ?_ (by size_fits)
 simp only[raiseNew];refine wpAny_bind (Qor ?_)
 first | rw[show A.in1.handled=none from hh] | rw[hh]
 refine wpAny_bind (Qd (QvG ?_));exact hE _ _ (((JN ..).extBut.push _).push _) ⟨_,Qm _ rfl,rfl⟩
structure Apart (z TI TO i1 i2 t1 t2:Addr):Prop where
 a1:TI≠z
 a2:TO≠z
 a3:i1≠z
 a4:i2≠z
 a5:TI≠TO
 a6:TI≠i1
 a7:TI≠i2
 a8:TO≠i1
 a9:TO≠i2
 b1:i1≠i2
 b2:t1≠z/\t1≠TO/\t1≠i1/\t1≠i2
 b3:t2≠z/\t2≠TO/\t2≠i1/\t2≠i2
structure Qog (h:Heap) (z TI TO i1 i2 t1 t2:Addr) (f:Value) (k:Nat):Prop where
 zp:QsT h z TI TO f
 ti:IsPair h TI (.ref i1) (.ref i2)
 to:∃a b,IsPair h TO a b
 i1:h.IsTupleIter i1 t1 k
 i2:h.IsTupleIter i2 t2 k
theorem Qm3{z TI TO i1 i2 t1 t2:Addr}{k:Nat}{xs ys:Array Value}{x y:Value}{Q:Option Value->Shared->Prop}(D:Apart z TI TO i1 i2 t1 t2)(Z:Qog s.heap z TI TO i1 i2 t1 t2 .none k)
  (hl1:s.heap.IsTuple t1 xs)(hl2:s.heap.IsTuple t2 ys)(hx:xs[k]? = some x)(hy:ys[k]? = some y)
  (hQ:∀h',Qog h' z TI TO i1 i2 t1 t2 (rawInt s.heap.objs.size) (k+1)->IsPair h' s.heap.objs.size x y->(∀c o,c≠z->c≠TO->c≠i1->c≠i2->s.heap.get? c=some o->h'.get? c=some o)->Q (some (.ref s.heap.objs.size)) { s with heap:=h' }) :
  wpAny (model prog w) A (pyNext (.ref z)) Q E s:=by
 obtain⟨hz,hTI,⟨a,b,hTO⟩,h1,h2⟩:=Z;have hT:s.TypeIs (.ref z) "zip" := ⟨_,hz,rfl⟩;unfold pyNext;refine wpAny_bind (Qby (JH (name:=Yy "__next__") hT Qdj (Jy Qdj hT Qyp ?_ (QvS _))));show wpAny _ _ (field (.ref z) 2 >>= _) _ _ _;refine wpAny_bind (Zf hz rfl (x:=.bool false) rfl ?_);show wpAny _ _ (field (.ref z) 3 >>= _) _ _ _;refine wpAny_bind (Zf hz rfl (x:=.ref TI) rfl (wpAny_bind (Z9 hTI rfl ?_)));show wpAny _ _ (ZD (.ref z) >>= _) _ _ _;refine wpAny_bind ?_
 unfold ZD;refine wpAny_bind (Zf hz rfl (x:=.none) rfl (Qd ?_));simp only[if_true];refine wpAny_bind (wpAny_rule (wpAny_bind (Zf hz rfl (x:=.ref TO) rfl (wpAny_bind (YW hz (by simp) λg1 z1 s1=>?_)))))
 replace z1:QsT g1 z TI TO .ellipsis:=z1
 refine wpAny_bind ?_
 simp only[QsO,Qvv,QcT,Qh6];refine wpAny_bind (wpAny_bind (QfC ?_));show wpAny _ _ (JO (.ref i1) >>= _) _ _ _;refine wpAny_bind (Qd7 (h1.extBut s1.extBut D.a3) (hl1.extBut s1.extBut D.b2.1) hx λg2 p2 s2=>Qd ?_);have o2:IsPair g2 TO a b:=s2.extBut _ _ D.a8 (s1.extBut _ _ D.a2 hTO);refine wpAny_bind (Z9 o2 rfl (wpAny_bind (Qef o2 λg3 o3 s3=>wpAny_bind (QvI (Qd ?_)))))
 replace o3:IsPair g3 TO x b:=o3
 refine wpAny_bind (wpAny_bind (QfC ?_));show wpAny _ _ (JO (.ref i2) >>= _) _ _ _;refine wpAny_bind (Qd7 (((h2.extBut s1.extBut D.a4).extBut s2.extBut D.b1.symm).extBut s3.extBut D.a9.symm)
  (((hl2.extBut s1.extBut D.b3.1).extBut s2.extBut D.b3.2.2.1).extBut s3.extBut D.b3.2.1) hy λg4 p4 s4=>Qd ?_)
 have o4:IsPair g4 TO x b:=s4.extBut _ _ D.a9 o3;refine wpAny_bind (Z9 o4 rfl (wpAny_bind (Qef o4 λg5 o5 s5=>wpAny_bind (QvI (Qd (Qd ?_))))))
 replace o5:IsPair g5 TO x y:=o5
 refine wpAny_bind (Z9 o5 rfl (wpAny_bind (wpAny_newTuple ?_)));have sz:g5.objs.size=s.heap.objs.size:=by rw[s5.1,s4.1,s3.1,s2.1,s1.1]
 have kp:∀c o,c≠z->c≠TO->c≠i1->c≠i2->s.heap.get? c=some o->g5.get? c=some o:=λc o c1 c2 c3 c4 e=>
  s5.extBut _ _ c2 (s4.extBut _ _ c4 (s3.extBut _ _ c2 (s2.extBut _ _ c3 (s1.extBut _ _ c1 e))))
 have z5:QsT g5 z TI TO .ellipsis:=s5.extBut _ _ D.a2.symm (s4.extBut _ _ D.a4.symm (s3.extBut _ _ D.a2.symm (s2.extBut _ _ D.a3.symm z1)));have q1:g5.IsTupleIter i1 t1 (k+1):=((p2.extBut s3.extBut D.a8.symm).extBut s4.extBut D.b1).extBut s5.extBut D.a8.symm;have q2:g5.IsTupleIter i2 t2 (k+1):=p4.extBut s5.extBut D.a9.symm;show wpAny _ _ (Qbr (.ref z) (.ref g5.objs.size) >>= _) _ _ _;refine wpAny_bind ?_
 unfold Qbr;have z6:QsT (g5.push { cls:=.type "tuple",data:=.seq #[x,y] }) z TI TO .ellipsis:=Qc _ z5;refine wpAny_bind (YW z6 (by simp) λg7 z7 s7=>?_)
 replace z7:QsT g7 z TI TO (rawInt g5.objs.size):=z7
 refine YW z7 (by simp) λg8 z8 s8=>?_
 replace z8:QsT g8 z TI TO (rawInt g5.objs.size):=z8
 have up:∀c o,c≠z->g5.get? c=some o->g8.get? c=some o:=λc o c1 e=>s8.extBut _ _ c1 (s7.extBut _ _ c1 (Qc _ e))
 have ne:g5.objs.size≠z:=YQ (Qk z5);have t8:IsPair g8 g5.objs.size x y:=s8.extBut _ _ ne (s7.extBut _ _ ne (Qm _ rfl));rw[sz] at z8 t8;refine Qd ⟨_,rfl,Qd ?_⟩;show Q (some (.ref g5.objs.size)) _;rw[sz];exact hQ g8 ⟨z8,up _ _ D.a1 (kp _ _ D.a1 D.a5 D.a6 D.a7 hTI),⟨x,y,up _ _ D.a2 o5⟩,q1.at λo e=>up _ o D.a3 e,q2.at λo e=>up _ o D.a4 e⟩ t8 λc o c1 c2 c3 c4 e=>up c o c1 (kp c o c1 c2 c3 c4 e)
theorem QpK{z TI TO i1 i2 t1 t2:Addr}{k:Nat}{xs ys:Array Value}{Q:Option Value->Shared->Prop}(hh:A.handled=none)(D:Apart z TI TO i1 i2 t1 t2)(Z:Qog s.heap z TI TO i1 i2 t1 t2 .none k)
  (hl1:s.heap.IsTuple t1 xs)(hl2:s.heap.IsTuple t2 ys)(hend:xs[k]? = none∨ys[k]? = none)
  (hQ:∀h',(∀c o,c≠z->c≠TO->c≠i1->c≠i2->s.heap.get? c=some o->h'.get? c=some o)->Q none { s with heap:=h' }):wpAny (model prog w) A (pyNext (.ref z)) Q E s:=by
 obtain⟨hz,hTI,⟨a,b,hTO⟩,h1,h2⟩:=Z;have hT:s.TypeIs (.ref z) "zip" := ⟨_,hz,rfl⟩;have fin:∀(h':Heap)(e:Addr),(∀c o,c≠z->c≠TO->c≠i1->c≠i2->s.heap.get? c=some o->h'.get? c=some o)->(∃o,h'.get? e=some o/\o.cls=.type "StopIteration") ->
   wpAny (model prog w) A (isInstance (.ref e) (.type "StopIteration") >>= λx=>if x=true then pure none else throw (.ref e)) Q E { s with heap:=h' }:=λh' e hk he=>by
  obtain⟨o,ho,hc⟩:=he;refine wpAny_bind (Qbn (T := "StopIteration") (b:=true) ⟨o,ho,hc⟩ isSubtype_stop ?_);exact Qd (hQ _ hk)
 unfold pyNext;refine wpAny_bind (Qby (JH (name:=Yy "__next__") hT Qdj (Jy Qdj hT Qyp ?_ (QvS _))));show wpAny _ _ (field (.ref z) 2 >>= _) _ _ _;refine wpAny_bind (Zf hz rfl (x:=.bool false) rfl ?_);show wpAny _ _ (field (.ref z) 3 >>= _) _ _ _;refine wpAny_bind (Zf hz rfl (x:=.ref TI) rfl (wpAny_bind (Z9 hTI rfl ?_)));show wpAny _ _ (ZD (.ref z) >>= _) _ _ _;refine wpAny_bind ?_
 unfold ZD;refine wpAny_bind (Zf hz rfl (x:=.none) rfl (Qd ?_));simp only[if_true];refine wpAny_bind (wpAny_rule (wpAny_bind (Zf hz rfl (x:=.ref TO) rfl (wpAny_bind (YW hz (by simp) λg1 z1 s1=>?_)))))
 replace z1:QsT g1 z TI TO .ellipsis:=z1
 refine wpAny_bind ?_
 simp only[QsO,Qvv,QcT,Qh6];refine wpAny_bind (wpAny_bind (QfC ?_));show wpAny _ _ (JO (.ref i1) >>= _) _ _ _;cases hx:xs[k]? with
 |none=>
  refine wpAny_bind (QiB hh (h1.extBut s1.extBut D.a3) (hl1.extBut s1.extBut D.b2.1) hx λg2 e s2 he=>?_);obtain⟨oe,hoe,hce⟩:=he;have z2:QsT g2 z TI TO .ellipsis:=s2 _ _ D.a3.symm z1;have hez:e≠z:=λq=>by subst q;rw[z2] at hoe;cases hoe;simp at hce
  refine YW z2 (by simp) λg3 _ s3=>?_
  exact fin g3 e (λc o c1 _ c3 _ q=>s3.extBut _ _ c1 (s2 _ _ c3 (s1.extBut _ _ c1 q))) ⟨oe,s3.extBut _ _ hez hoe,hce⟩
 |some x=>
  have hy:ys[k]? = none:=by
   rcases hend with q | q
   ·rw[hx] at q;cases q
   ·exact q
  refine wpAny_bind (Qd7 (h1.extBut s1.extBut D.a3) (hl1.extBut s1.extBut D.b2.1) hx λg2 p2 s2=>Qd ?_);have o2:IsPair g2 TO a b:=s2.extBut _ _ D.a8 (s1.extBut _ _ D.a2 hTO);refine wpAny_bind (Z9 o2 rfl (wpAny_bind (Qef o2 λg3 o3 s3=>wpAny_bind (QvI (Qd ?_)))));refine wpAny_bind (wpAny_bind (QfC ?_));show wpAny _ _ (JO (.ref i2) >>= _) _ _ _;refine wpAny_bind (QiB hh (((h2.extBut s1.extBut D.a4).extBut s2.extBut D.b1.symm).extBut s3.extBut D.a9.symm)
   (((hl2.extBut s1.extBut D.b3.1).extBut s2.extBut D.b3.2.2.1).extBut s3.extBut D.b3.2.1) hy λg4 e s4 he=>?_)
  obtain⟨oe,hoe,hce⟩:=he;have z4:QsT g4 z TI TO .ellipsis:=s4 _ _ D.a4.symm (s3.extBut _ _ D.a2.symm (s2.extBut _ _ D.a3.symm z1));have hez:e≠z:=λq=>by subst q;rw[z4] at hoe;cases hoe;simp at hce
  refine YW z4 (by simp) λg5 _ s5=>?_
  exact fin g5 e (λc o c1 c2 c3 c4 q=>s5.extBut _ _ c1 (s4 _ _ c4 (s3.extBut _ _ c2 (s2.extBut _ _ c3 (s1.extBut _ _ c1 q))))) ⟨oe,s5.extBut _ _ hez hoe,hce⟩
end
abbrev zh1 (h:Heap) (t1:Addr):Heap:=h.push { cls:=.type "tuple_iterator",data:=.fields #[.ref t1,.int 0 0] }
abbrev zh2 (h:Heap) (t1 t2:Addr):Heap:=(zh1 h t1).push { cls:=.type "tuple_iterator",data:=.fields #[.ref t2,.int 0 0] }
abbrev zh3 (h:Heap) (t1 t2:Addr):Heap:=(zh2 h t1 t2).push { cls:=.type "tuple",data:=.seq #[.ref h.objs.size,.ref (zh1 h t1).objs.size] }
abbrev zh4 (h:Heap) (t1 t2:Addr):Heap:=(zh3 h t1 t2).push { cls:=.type "tuple",data:=.seq #[.none,.none] }
abbrev zh5 (h:Heap) (t1 t2:Addr):Heap:=(zh4 h t1 t2).push { cls:=.type "zip",data:=.fields #[.none,.bool false,.bool false,.ref (zh2 h t1 t2).objs.size,.ref (zh3 h t1 t2).objs.size] }
theorem made(t1 t2:Addr)(xs ys:Array Value) :
  Meets (Yw.«zip.__new__» ⟨[.type "zip",.ref t1,.ref t2],[]⟩) (λ_ R s=>s.heap.IsTuple t1 xs/\s.heap.IsTuple t2 ys/\R (.ok (.ret (.ref (zh4 s.heap t1 t2).objs.size))) { s with heap:=zh5 s.heap t1 t2 }):=
 .of_wp λprog w A R s h=>by
  obtain⟨hp,g,d,tk,os⟩:=s;obtain⟨hl1,hl2,h⟩:=h;have hsub:=sub_zip;have k1:Qlm (Qli ⟨hp,g,d,tk,os⟩) t1 xs:=hl1;have k2:Qlm (Qli ⟨hp.push { cls:=.type "tuple_iterator",data:=.fields #[.ref t1,.int 0 0] },g,d,tk,os⟩) t2 ys:=hl2.at λo e=>Qc _ e
  wp_walk using Yp k1,Yp k2
  exact⟨_,rfl,h⟩
section
variable{prog:Qy}{w:Jc}{A:Jb}{E:Value->Shared->Prop}{s:Shared}
theorem Qrh{t1 t2:Addr}{xs ys:Array Value}{Q:Value->Shared->Prop}(hl1:s.heap.IsTuple t1 xs)(hl2:s.heap.IsTuple t2 ys)
  (h:∀h',Qog h' (s.heap.objs.size+4) (s.heap.objs.size+2) (s.heap.objs.size+3) s.heap.objs.size (s.heap.objs.size+1) t1 t2 .none 0->(∀c o,s.heap.get? c=some o->h'.get? c=some o)->Q (.ref (s.heap.objs.size+4)) { s with heap:=h' }) :
  wpAny (model prog w) A (call (.type "zip") [.ref t1,.ref t2]) Q E s:=by
 refine QsK F.called_zip (by decide) (F.typeCall_zip_2 _ _) (F.newCall_zip_2 _ _) (λobj=>F.args_object_init_3 obj _ _) F.entry_zip_new (made t1 t2 xs ys) ⟨hl1,hl2,?_⟩;have z1:(zh1 s.heap t1).objs.size=s.heap.objs.size+1:=JG ..;have z2:(zh2 s.heap t1 t2).objs.size=s.heap.objs.size+2:=by rw[JG,z1]
 have z3:(zh3 s.heap t1 t2).objs.size=s.heap.objs.size+3:=by rw[JG,z2]
 have z4:(zh4 s.heap t1 t2).objs.size=s.heap.objs.size+4:=by rw[JG,z3]
 have g5:(zh5 s.heap t1 t2).get? (zh4 s.heap t1 t2).objs.size=some _:=Qm _ rfl;have g4:(zh5 s.heap t1 t2).get? (zh3 s.heap t1 t2).objs.size=some _:=Qc _ (Qm _ rfl);have g3:(zh5 s.heap t1 t2).get? (zh2 s.heap t1 t2).objs.size=some _:=Qc _ (Qc _ (Qm _ rfl));have g2:(zh5 s.heap t1 t2).get? (zh1 s.heap t1).objs.size=some _:=Qc _ (Qc _ (Qc _ (Qm _ rfl)));have g1:(zh5 s.heap t1 t2).get? s.heap.objs.size=some _:=Qc _ (Qc _ (Qc _ (Qc _ (Qm _ rfl))));show _/\_;rw[z2,z3,z4] at g5;rw[z1,z2] at g3;rw[z3] at g4;rw[z1] at g2;rw[z4];exact⟨⟨_,g5,rfl⟩,h _ ⟨g5,g3,⟨_,_,g4⟩,⟨_,g1,rfl,rfl⟩,⟨_,g2,rfl,rfl⟩⟩ λc o x=>Qc _ (Qc _ (Qc _ (Qc _ (Qc _ x))))⟩
end
end Rz
namespace L2
section
variable{X:Cx}{pins:List (Addr×Obj)}{σ:St}{H:Hp}{s:Shared}{h':Heap}
theorem Inv.turnedNew{t':Nat}{ch:List Addr}{a:Addr}{o:HO}(I:Inv X pins σ H s)(hch:∀b∈ch,FpOk X pins H b)(k:∀b u,b∉ch->s.heap.get? b=some u->h'.get? b=some u)(hp:s.heap.objs.size<=a)
  (new:ObjOk X.prog X.w (upd H a o) h' a o):Inv X pins σ (upd H a o) { s with heap:=h',toks:=t' }:=by
 have hn:H a=none:=I.hok.fresh hp;have nch:∀b u,H b=some u->b∉ch:=λb u e z=>by rw[(hch b z).1] at e;cases e
 refine I.step (g':=s.gens) (d':=s.drawn) (ch:=ch) (λb hb=>?_) (λb u _ _ hc e _=>k b u hc e) (λb u _ _ hc e _=>⟨u.slots,k b u hc e⟩) (λb u hc e n=>?_) (λb u hc e=>⟨u,k b u hc e⟩)
  (λb xs e=>by rw[Jw (Zl e hn)];exact e) (λb u v e=>by rw[Jw (Zl e hn)];exact e) (λb ps e=>⟨#[],by rw[Jw (Zl e hn),e];simp⟩) (λm hm=>?_) (λb u e=>?_) I.bare
 ·obtain⟨f0,f1,f2,f3,f4,f5⟩:=hch b hb;exact⟨f3,f1,f4,f5⟩
 ·rw[Jw (Qv (QK (Qk e) hp))];exact n
 ·obtain⟨u,es,ep,ho,r⟩:=hm;exact⟨u,es,ep,k _ u (λz=>(hch _ z).2.1 rfl) ho,r⟩
 ·by_cases hb:b=a
  ·subst hb;rw[Jg] at e;cases e;exact new
  ·rw[Jw hb] at e;refine(I.hok b u e).stay (λc v hc q=>k c v ?_ q) (λc q=>by rw[Jw (Zl q hn)];exact q) λc xs q=>by rw[Jw (Zl q hn)];exact q
   rcases hc with z | z
   ·rw[z];exact nch b u e
   ·exact nch c _ z
theorem Inv.turnedAll{t':Nat}{ch:List Addr}(I:Inv X pins σ H s)(hch:∀b∈ch,FpOk X pins H b)(k:∀b u,b∉ch->s.heap.get? b=some u->h'.get? b=some u):Inv X pins σ H { s with heap:=h',toks:=t' }:=by
 have nch:∀b u,H b=some u->b∉ch:=λb u e z=>by rw[(hch b z).1] at e;cases e
 refine I.step (g':=s.gens) (d':=s.drawn) (ch:=ch) (λb hb=>?_) (λb u _ _ hc e _=>k b u hc e) (λb u _ _ hc e _=>⟨u.slots,k b u hc e⟩) (λb u hc e n=>n) (λb u hc e=>⟨u,k b u hc e⟩)
  (λb xs e=>e) (λb u v e=>e) (λb ps e=>⟨#[],by rw[e];simp⟩) (λm hm=>?_) (λb u e=>?_) I.bare
 ·obtain⟨f0,f1,f2,f3,f4,f5⟩:=hch b hb;exact⟨f3,f1,f4,f5⟩
 ·obtain⟨u,es,ep,ho,r⟩:=hm;exact⟨u,es,ep,k _ u (λz=>(hch _ z).2.1 rfl) ho,r⟩
 ·refine(I.hok b u e).stay (λc v hc q=>k c v ?_ q) (λc q=>q) λc xs q=>q
  rcases hc with z | z
  ·rw[z];exact nch b u e
  ·exact nch c _ z
end
def Itz(t1 t2:Addr):It:=
 ⟨λi H=>∃xs ys x y,H t1=some (.tup xs)/\H t2=some (.tup ys)/\xs[i]? = some x/\ys[i]? = some y,
  λi H v H'=>∃p x y,H p=none/\(∀xs,H t1=some (.tup xs)->xs[i]? = some x)/\(∀ys,H t2=some (.tup ys)->ys[i]? = some y)/\v=.ref p/\H'=upd H p (.tup [x,y]),
  λi H=>∃xs ys,H t1=some (.tup xs)/\H t2=some (.tup ys)/\(xs.length<=i∨ys.length<=i)⟩
theorem QoL{P:Qy}{w:Jc}{K:PySem.W.Frag}{elts:List Q0}{x1}{tpos:Pos}{z TI TO i1 i2 t1 t2:Addr}(D:Rz.Apart z TI TO i1 i2 t1 t2) :
  Turn P w K (.Tuple elts x1 tpos) (Itz t1 t2) [z,TI,TO,i1,i2] z (λi h=>Rz.Qog h z TI TO i1 i2 t1 t2 .none i) where
 mem:=by simp
 obj:=λi h st b hb=>by
  obtain⟨a1,a2,⟨_,_,a3⟩,⟨o4,a4,_,d4⟩,⟨o5,a5,_,d5⟩⟩:=st;simp only[Qu,QQ,or_false] at hb;rcases hb with rfl | rfl | rfl | rfl | rfl
  ·exact⟨_,a1,λv q=>nomatch q⟩
  ·exact⟨_,a2,λv q=>nomatch q⟩
  ·exact⟨_,a3,λv q=>nomatch q⟩
  ·exact⟨_,a4,λv q=>by rw[d4] at q;cases q⟩
  ·exact⟨_,a5,λv q=>by rw[d5] at q;cases q⟩
 keep:=λi h h' st k=>by
  obtain⟨a1,a2,⟨a,b,a3⟩,a4,a5⟩:=st;exact⟨k z (by simp) _ a1,k TI (by simp) _ a2,⟨a,b,k TO (by simp) _ a3⟩,a4.at λo e=>k i1 (by simp) o e,a5.at λo e=>k i2 (by simp) o e⟩
 item:=by
  intro X hP hw hK hc i pins s σ H E I hf st hg;subst hP hw hK;obtain⟨xs,ys,x,y,h1,h2,hx,hy⟩:=hg;obtain⟨its1,r1,p1,_⟩:=I.tuple (SqT.of h1);obtain⟨its2,r2,p2,_⟩:=I.tuple (SqT.of h2);obtain⟨u1,hu1,ru1⟩:=r1.get hx;obtain⟨u2,hu2,ru2⟩:=r2.get hy;refine Rz.Qm3 D st (show s.heap.IsTuple t1 its1.toArray from p1) (show s.heap.IsTuple t2 its2.toArray from p2) (by simpa using hu1) (by simpa using hu2) λh' st' tp kp=>?_
  have hlt:∀b∈[z,TI,TO,i1,i2],b≠s.heap.objs.size:=λb hb=>by
   obtain⟨a1,a2,⟨_,_,a3⟩,⟨o4,a4,_,d4⟩,⟨o5,a5,_,d5⟩⟩:=st;simp only[Qu,QQ,or_false] at hb;rcases hb with rfl | rfl | rfl | rfl | rfl
   ·exact Qv (Qk a1)
   ·exact Qv (Qk a2)
   ·exact Qv (Qk a3)
   ·exact Qv (Qk a4)
   ·exact Qv (Qk a5)
  have fr:H s.heap.objs.size=none:=I.hok.fresh (Qg _);refine⟨_,rfl,Qlt st'.zp λh2' z2 s2=>?_⟩;have I1:Inv X pins σ (upd H s.heap.objs.size (.tup [x,y])) { s with heap:=h2',toks:=s.toks }:=by
   refine I.turnedNew (ch:=[z,TI,TO,i1,i2]) hf (λb u hb e=>?_) (Qg _) ⟨by show 2<=sizeLine;decide,[u1,u2],.cons ru1 (.cons ru2 .nil),?_⟩
   ·simp only[Qu,QQ,or_false,not_or] at hb;exact s2.extBut _ _ hb.1 (kp b u hb.1 hb.2.2.1 hb.2.2.2.1 hb.2.2.2.2 e)
   ·exact⟨_,s2.extBut _ _ (hlt z (by simp)).symm tp,rfl,rfl,0,rfl⟩
  refine⟨.ref s.heap.objs.size,_,I1,rfl,⟨_,x,y,fr,λxs' e=>?_,λys' e=>?_,rfl,rfl⟩,?_,λb hb=>?_⟩
  ·rw[h1] at e;cases e;exact hx
  ·rw[h2] at e;cases e;exact hy
  ·obtain⟨a1,a2,⟨a,b,a3⟩,a4,a5⟩:=st';exact⟨z2,s2.extBut _ _ D.a1 a2,⟨a,b,s2.extBut _ _ D.a2 a3⟩,a4.extBut s2.extBut D.a3,a5.extBut s2.extBut D.a4⟩
  ·rw[Jw (hlt b hb)];exact(hf b hb).1
 done:=by
  intro X hP hw hK hc i pins s σ H E I hf st hg;subst hP hw hK;obtain⟨xs,ys,h1,h2,he⟩:=hg;obtain⟨its1,r1,p1,_⟩:=I.tuple (SqT.of h1);obtain⟨its2,r2,p2,_⟩:=I.tuple (SqT.of h2);have l1:=r1.length;have l2:=r2.length;refine Rz.QpK (I.ok.hd hc) D st (show s.heap.IsTuple t1 its1.toArray from p1) (show s.heap.IsTuple t2 its2.toArray from p2) ?_ λh' kp=>⟨rfl,I.turnedAll (t':=s.toks) (ch:=[z,TI,TO,i1,i2]) hf λb u hb e=>?_⟩
  ·rcases he with q | q
   ·exact .inl (by simp;omega)
   ·exact .inr (by simp;omega)
  ·simp only[Qu,QQ,or_false,not_or] at hb;exact kp b u hb.1 hb.2.2.1 hb.2.2.2.1 hb.2.2.2.2 e
 self:=λ_ _ _ _ _ st h=>Qdb st.zp h
section
variable{X:Cx}
theorem apart_new(n t1 t2:Nat)(h1:t1<n)(h2:t2<n):Rz.Apart (n+4) (n+2) (n+3) n (n+1) t1 t2 where
 a1:=by show ¬(n+2=n+4);omega
 a2:=by show ¬(n+3=n+4);omega
 a3:=by show ¬(n=n+4);omega
 a4:=by show ¬(n+1=n+4);omega
 a5:=by show ¬(n+2=n+3);omega
 a6:=by show ¬(n+2=n);omega
 a7:=by show ¬(n+2=n+1);omega
 a8:=by show ¬(n+3=n);omega
 a9:=by show ¬(n+3=n+1);omega
 b1:=by show ¬(n=n+1);omega
 b2:=⟨by show ¬(t1=n+4);omega,by show ¬(t1=n+3);omega,by show ¬(t1=n);omega,by show ¬(t1=n+1);omega⟩
 b3:=⟨by show ¬(t2=n+4);omega,by show ¬(t2=n+3);omega,by show ¬(t2=n);omega,by show ¬(t2=n+1);omega⟩
def QBw(ta:TA):TI:=λσ H R=>ta σ H λvs H1=>∃t1 t2 xs ys,vs=[.ref t1,.ref t2]/\H1 t1=some (.tup xs)/\H1 t2=some (.tup ys)/\R (Itz t1 t2) H1
theorem Qn5:bootBuiltins "zip" = some (.type "zip"):=by decide +kernel
theorem QwH{a b:Q0}{elts:List Q0}{x1}{tpos:Pos}{ta:TA}{p pos:Pos}(hg:Gl X "zip")(hm:X.mg "zip" = none)(ha:PA X [a,b] ta)(hs:starEach [a,b] X.env=[(false,eval a X.env),(false,eval b X.env)]:=by rfl)(hs2:starEach [b] X.env=[(false,eval b X.env)]:=by rfl) :
  PI X (.Tuple elts x1 tpos) (.Call (.Name "zip" p) [a,b] [] pos) (QBw ta):=by
 intro pins s σ H R I h;refine Call_ (QcD I hg hm Qn5 (JF (thn (ha pos pins s σ H _ I h) λus s1 ⟨vs,H1,I1,r1,q1⟩=>?_) (by rw[hs,hs2]) (by rw[hs2];rfl)));obtain⟨t1,t2,xs,ys,e,h1,h2,q⟩:=q1;subst e;obtain⟨u,v,rfl,ru,rv⟩:=vals2 r1;cases(show u=QF t1 from ru);cases(show v=QF t2 from rv);obtain⟨its1,w1,p1,_⟩:=I1.tuple (SqT.of h1);obtain⟨its2,w2,p2,_⟩:=I1.tuple (SqT.of h2);have n1:t1<s1.heap.objs.size:=I1.hok.lt h1;have n2:t2<s1.heap.objs.size:=I1.hok.lt h2;refine Rz.Qrh (show s1.heap.IsTuple t1 its1.toArray from p1) (show s1.heap.IsTuple t2 its2.toArray from p2) λh' st kp=>?_
 refine Qdb (s:={ s1 with heap:=h' }) st.zp ?_
 have D:=apart_new s1.heap.objs.size t1 t2 n1 n2;refine⟨s1.heap.objs.size+4,_,_,_,H1,rfl,I1.kept (t':=s1.toks) kp,QoL D,st,λb hb=>?_,q⟩;have hb':s1.heap.objs.size<=b:=by
  simp only[Qu,QQ,or_false] at hb;rcases hb with rfl | rfl | rfl | rfl | rfl<;>omega
 exact I1.fpOk hb' (I1.hok.fresh hb')
end
end L2
namespace Rk
open L2
def QAn:Option HO->Option (List V)
 |some (.tup xs)=>some xs
 |_=>none
def Qim(H:Hp):V->Option (List V)
 |.ref a=>QAn (H a)
 |_=>none
theorem Qji(H:Hp)(a:Addr):Qim H (.ref a)=QAn (H a):=rfl
def isT(H:Hp)(x:V):Bool:=(Qim H x).isSome
def isI:V->Bool
 |.int _=>true
 |_=>false
def isB:V->Bool
 |.bl _=>true
 |_=>false
def Kn(p:Addr)(H:Hp):V->Prop
 |.non=>True
 |.bl _=>True
 |.int _=>True
 |.str _=>True
 |.ref a=>a≠p/\((∃xs,H a=some (.tup xs))∨(∃xs,H a=some (.lst xs))∨∃kvs,H a=some (.dK kvs))
 |_=>False
def KnD(p:Addr):Nat->Hp->V->Prop
 |0,H,x=>Kn p H x
 |n+1,H,x=>Kn p H x/\∀xs,Qim H x=some xs->∀y∈xs,KnD p n H y
def KX(p:Addr)(H H':Hp):Prop:=∀b o,b≠p->H b=some o->H' b=some o
theorem KX.trans{p:Addr}{H H1 H2:Hp}(a:KX p H H1)(b:KX p H1 H2):KX p H H2:=λc o h e=>b c o h (a c o h e)
theorem KX.of{p:Addr}{H H':Hp}(h:Same H H'):KX p H H':=λb o _ e=>h b o e
theorem KX.upd{p:Addr}{H:Hp}{o:HO}:KX p H (upd H p o):=λb u n e=>by rw[Jw n];exact e
theorem KX.new{p q:Addr}{H:Hp}{o:HO}(h:H q=none):KX p H (L2.upd H q o):=KX.of (Jn h)
theorem KnD.tup{p:Addr}{H:Hp}{n:Nat}{a:Addr}{xs:List V}(hp:a≠p)(e:H a=some (.tup xs))(h:∀y∈xs,KnD p n H y):KnD p (n+1) H (.ref a):=
 ⟨⟨hp,.inl ⟨xs,e⟩⟩,λys z y hy=>h y (by
  have z':some xs=some ys:=by rw[<- z,Qji,e];rfl
  cases z';exact hy)⟩
theorem KnD.int{p:Addr}{H:Hp}(i:Int):∀(n:Nat),KnD p n H (.int i)
 |0=>trivial
 |n+1=>⟨trivial,λ_ e=>nomatch e⟩
theorem QlS{H:Hp}{a:Addr}{xs:List V}(e:H a=some (.tup xs)):Qim H (.ref a)=some xs:=by rw[Qji,e];rfl
theorem QjW{K:PySem.W.Frag}{p:Addr}{H:Hp}:∀{x:V},Kn p H x->∃t,TyOf K H x t/\PySem.W.kitOne K t (.type "int")=some (isI x||isB x)
 |.non,h=>⟨_,.non,rfl⟩
 |.bl _,h=>⟨_,.bl _,rfl⟩
 |.int _,h=>⟨_,.int _,rfl⟩
 |.str _,h=>⟨_,.str _,rfl⟩
 |.ref a,⟨_,h⟩=>by
  rcases h with⟨xs,e⟩ | ⟨xs,e⟩ | ⟨xs,e⟩
  ·exact⟨_,.tup e,rfl⟩
  ·exact⟨_,.lst e,rfl⟩
  ·exact⟨_,.dK e,rfl⟩
 |.byt _,h=>h.elim
 |.flt _,h=>h.elim
 |.ty _,h=>h.elim
theorem Qnp{K:PySem.W.Frag}{p:Addr}{H:Hp}:∀{x:V},Kn p H x->∃t,TyOf K H x t/\PySem.W.kitOne K t (.type "bool")=some (isB x)
 |.non,h=>⟨_,.non,rfl⟩
 |.bl _,h=>⟨_,.bl _,rfl⟩
 |.int _,h=>⟨_,.int _,rfl⟩
 |.str _,h=>⟨_,.str _,rfl⟩
 |.ref a,⟨_,h⟩=>by
  rcases h with⟨xs,e⟩ | ⟨xs,e⟩ | ⟨xs,e⟩
  ·exact⟨_,.tup e,rfl⟩
  ·exact⟨_,.lst e,rfl⟩
  ·exact⟨_,.dK e,rfl⟩
 |.byt _,h=>h.elim
 |.flt _,h=>h.elim
 |.ty _,h=>h.elim
def Qsm(H:Hp)(x:V):List Int:=((Qim H x).getD []).map λy=>match y with
 |.int i=>i
 |_=>0
def IntsT(H:Hp)(x:V)(ns:List Int):Prop:=∃a,x=.ref a/\H a=some (.tup (ns.map V.int))
theorem IntsT.eq{H:Hp}{x:V}{ns:List Int}(h:IntsT H x ns):Qsm H x=ns:=by
 obtain⟨a,rfl,e⟩:=h;unfold Qsm;rw[QlS e];show(ns.map V.int).map _=ns;rw[QH];exact QgI _
theorem Zc:bootBuiltins "isinstance" = some (.builtin "isinstance"):=by decide +kernel
theorem Qn3:bootBuiltins "int" = some (.type "int"):=by decide +kernel
theorem QgA:bootBuiltins "bool" = some (.type "bool"):=by decide +kernel
theorem bt_tuple:bootBuiltins "tuple" = some (.type "tuple"):=by decide +kernel
theorem QeI:bootBuiltins "list" = some (.type "list"):=by decide +kernel
theorem QsA:bootBuiltins "str" = some (.type "str"):=by decide +kernel
theorem Qx6:bootBuiltins "all" = some (.builtin "all"):=by decide +kernel
theorem Qce:bootBuiltins "len" = some (.builtin "len"):=by decide +kernel
theorem QsB:bootBuiltins "max" = some (.builtin "max"):=by decide +kernel
theorem bt_min:bootBuiltins "min" = some (.builtin "min"):=by decide +kernel
end Rk
namespace L2
theorem Qdw{J:It}{body:V->Hp->(Hp->Prop)->Prop}{Qn:Hp->Prop}{H:Hp}(n:Nat)(Pv:Nat->Hp->Prop)(h0:Pv 0 H)
  (hs:∀i H2,i<n->Pv i H2->J.go i H2/\∀x H3,J.yld i H2 x H3->∀k:Hp->Prop,(∀H6,Pv (i+1) H6->k H6)->body x H3 k)(hd:∀H2,Pv n H2->J.stop n H2/\Qn H2):Qkz J body Qn H:=by
 refine⟨λi m H=>m=n - i/\i<=n/\Pv i H,⟨n,by simp,Q7 _,h0⟩,?_⟩;rintro i m H2 ⟨rfl,hi,p⟩;by_cases hlt:i<n
 ·obtain⟨go,st⟩:=hs i H2 hlt p;exact .inr ⟨go,λx H3 y=>st x H3 y _ λH6 p6=>⟨n - (i+1),by omega,rfl,hlt,p6⟩⟩
 ·have e:i=n:=by omega
  subst e;exact .inl (hd H2 p)
theorem Qfz{J:It}{σ:St}{g:TG}{te:TE}{p:Addr}{H1:Hp}{Qn:Hp->Prop}(n:Nat)(hn:n<sizeLine)(F:Nat->Bool)(hp:H1 p=none)
  (hs:∀i H2,i<n->Same H1 H2->J.go i H2/\∀x H3,J.yld i H2 x H3->∀k:VK,(∀H6,Same H2 H6->k (.bl (F i)) H6)->g x σ H3 λσ4 H4=>Wk σ σ4/\te σ4 H4 k)
  (hst:∀H2,Same H1 H2->J.stop n H2)(hq:∀H2,Same H1 H2->H2 p=some (.lst (((Qf n).map F).map V.bl))->Qn H2) :
  Qkz J (bOf σ g Qek (QvF p te)) Qn (upd H1 p (.lst [])):=by
 refine Qdw n (λi H2=>Same H1 H2/\H2 p=some (.lst (((Qf i).map F).map V.bl))) ⟨Jn hp,Jg⟩ (λi H2 hi ⟨s2,e2⟩=>?_) λH2 ⟨s2,e2⟩=>⟨hst H2 s2,hq H2 s2 e2⟩
 obtain⟨go,st⟩:=hs i H2 hi s2;refine⟨go,λx H3 y k hk=>?_⟩;refine st x H3 y (λv H6=>∃ys,H6 p=some (.lst ys)/\ys.length<sizeLine/\k (upd H6 p (.lst (ys++[v])))) λH6 s6=>?_
 have e6:=s6 p _ e2;refine⟨_,e6,?_,hk _ ⟨λb o e=>?_,?_⟩⟩
 ·rw[Qa,Qa,Qr];omega
 ·have hb:b≠p:=Zl e hp;rw[Jw hb];exact s6 b o (s2 b o e)
 ·rw[Jg,JL,Q3,Q3];rfl
end L2
namespace Rk
open L2
theorem range_getD{α:Type}(L:List α)(d:α):(Qf L.length).map (λi=>L.getD i d)=L:=by
 refine J7 λi=>?_
 rw[Qo];by_cases hi:i<L.length
 ·rw[Ja hi];show some (L.getD i d)=L[i]?;rw[Qi,Qe hi];rfl
 ·have h1:(Qf L.length)[i]? = none:=QN (by rw[Qr];omega);have h2:L[i]? = none:=QN (by omega);rw[h1,h2];rfl
def Qc0(K:PySem.W.Frag):Sp:=λvs H Q _=>∃a ns k,vs=[.ref a,.int k]/\SqL K H a ((ns:List Int).map V.int)/\ns.length<2^20/\0<=k/\∀c,Q (.int c) H
def Qv8:Sp:=λvs H Q _=>∃c,vs=[.int c]/\∀p n,H p=none->Q (.ref p) (upd H p (.lst [.int n]))
def Cs(p:Addr)(H:Hp):List V->List (Int×Int)->Prop:=YY λx ij=>∃d,d≠p/\x=.ref d/\H d=some (.tup [.int ij.1,.int ij.2])
def Qye(a b:Int×Int):Prop:=a.1<b.1∨(a.1=b.1/\a.2<b.2)
structure Good (h w:Int) (L:List (Int×Int)):Prop where
 asc:L.Pairwise Qye
 ins:∀x∈L,0<=x.1/\x.1<h/\0<=x.2/\x.2<w
 len:L.length<=36
theorem Qj1(x:Int){m:Int}(h:0<m):0<=x % m/\x % m<m:=⟨QvQ _ (by omega),QrD _ h⟩
def notStar:Q0->Bool
 |.Starred _ _=>false
 |_=>true
theorem Yq{e:Q0}{es:List Q0}{env:Env}(h:notStar e=true):starEach (e::es) env=(false,eval e env)::starEach es env:=by
 cases e<;>first | rfl | cases h
section
variable{X:Cx}
theorem pa_c{e:Q0}{es:List Q0}{te:TE}{t:TA}(ha:PE X e te)(hr:PA X es t)(hs:notStar e=true:=by rfl):PA X (e::es) (Qak te t):=pa_cons ha hr (Yq hs)
inductive PEs (X:Cx):List Q0->List TE->Prop
 |nil:PEs X [] []
 |cons {e es te ts}:PE X e te->notStar e=true->PEs X es ts->PEs X (e::es) (te::ts)
def QAt:List TE->TA
 |[]=>Qe1
 |t::ts=>Qak t (QAt ts)
theorem PEs.pa{es:List Q0}{ts:List TE}(h:PEs X es ts):PA X es (QAt ts):=by
 induction h with
 |nil=>exact pa_nil
 |cons a s _ ih=>exact pa_c a ih s
end
def Sm(H:Hp)(x:V):Prop:=∀ps,Qim H x=some ps->ps.length<sizeLine
theorem QAM{P:V->Prop}:∀y∈([]:List V),P y:=λ_ h=>nomatch h
theorem QzZ{P:V->Prop}{a:V}{l:List V}(h:P a)(k:∀y∈l,P y):∀y∈a::l,P y:=λy hy=>by
 rcases Qu.mp hy with e | e
 ·subst e;exact h
 ·exact k y e
theorem QpN{H:Hp}{p q:Addr}{o:HO}(e:H p=some o)(h:H q=none):q≠p:=λz=>by rw[z,e] at h;cases h
theorem QaG{n:Nat}(h:n<=1000):n<sizeLine:=YJ h (by decide)
def Fine(p:Addr):Nat->Hp->V->Prop
 |0,H,x=>Kn p H x/\Sm H x
 |n+1,H,x=>Kn p H x/\Sm H x/\∀xs,Qim H x=some xs->∀y∈xs,Fine p n H y
theorem Fine.sm{p:Addr}{H:Hp}{x:V}:∀{n:Nat},Fine p n H x->Sm H x
 |0,h=>h.2
 |_+1,h=>h.2.1
theorem Fine.knd{p:Addr}{H:Hp}:∀{n:Nat}{x:V},Fine p n H x->KnD p n H x
 |0,_,h=>h.1
 |_+1,_,h=>⟨h.1,λxs e y hy=>(h.2.2 xs e y hy).knd⟩
section
variable{X:Cx}
end
def Qiq:Sp:=λvs H Q _=>∃p n f,vs=[.ref p,.int f]/\H p=some (.lst [.int n])/\0<f/\f<1073741824/\∀r H' m,KX p H H'->H' p=some (.lst [.int m])->0<=r->r<f->Q (.int r) H'
def QoN(t:TA):TE:=λσ H Q=>t σ H λxs H1=>xs.length<=1000/\∀a H2,Same H1 H2->H1 a=none->H2 a=some (.tup xs)->Q (.ref a) H2
def Qv4(t:TA):TE:=λσ H Q=>t σ H λxs H1=>xs.length<=1000/\∀a H2,Same H1 H2->H1 a=none->H2 a=some (.lst xs)->Q (.ref a) H2
section
variable{X:Cx}
theorem Qgf{es:List Q0}{t:TA}{x1}{pos:Pos}(h:PA X es t):PE X (.Tuple es x1 pos) (QoN t):=by
 intro pins s σ H Q I hq;refine wpAny_Tuple_spliced (thn (h pos pins s σ H _ I hq) λus s1 ⟨xs,H1,I1,r,z,q⟩=>⟨by rw[<- r.length];exact ZJ (QaG z),?_⟩);have hf:H1 s1.heap.objs.size=none:=I1.hok.fresh (Qg _);refine⟨.ref s1.heap.objs.size,upd H1 s1.heap.objs.size (.tup xs),I1.laid (t':=s1.toks) (λb u e=>Qc _ e) (Qg _) ?_,rfl,q _ _ (Jn hf) hf Jg⟩;exact⟨ZJ (QaG z),us,r,⟨_,Qm _ rfl,rfl,rfl,_,rfl⟩⟩
theorem pe_lstW{es:List Q0}{t:TA}{pos:Pos}(h:PA X es t):PE X (.List es pos) (Qv4 t):=by
 intro pins s σ H Q I hq;refine Qyg (thn (h pos pins s σ H _ I hq) λus s1 ⟨xs,H1,I1,r,z,q⟩=>⟨by rw[<- r.length];exact ZJ (QaG z),?_⟩);have hf:H1 s1.heap.objs.size=none:=I1.hok.fresh (Qg _);refine⟨.ref s1.heap.objs.size,upd H1 s1.heap.objs.size (.lst xs),I1.laid (t':=s1.toks) (λb u e=>Qc _ e) (Qg _) ?_,rfl,q _ _ (Jn hf) hf Jg⟩;exact⟨ZJ (QaG z),us,0,r,Qm _ rfl⟩
end
end Rk
namespace Rx
open PySem.Calls L2 PySem.W Builtin Builtin.ObjectAttr Builtin.Getset_descriptor
def ExAt(a C:Addr)(h:Heap):Prop:=∃o vs,h.get? a=some o/\o.cls=.ref C/\o.data=.fields vs
theorem ExAt.ty{M:QvN}{h:Heap}{a C:Addr}(x:ExAt a C h):Looks M h (typeOf (.ref a)) (.ref C):=by
 obtain⟨o,vs,e,c,_⟩:=x;exact c ▸ (Looks.ld e).andThen .now
section
variable{prog:Qy}{w:Jc}{A:Jb}{E:Value->Shared->Prop}{s:Shared}{K:PySem.W.Frag}{a C:Addr}
end
end Rx
namespace Rx
open PySem.Calls L2
section
variable{X:Cx}{E:XK}{C:Addr}{x:Str}{e0:Q0}{te:TE}{np cpos pos:Pos}
end
section
variable{X:Cx}{pins:List (Addr×Obj)}{σ:L2.St}{H:Hp}{s:Shared}
end
def XP(X:Cx)(pins:List (Addr×Obj))(Ex:L2.St->Addr->Hp->Prop)(e:Value)(s1:Shared):Prop:=
 ∃(σ:L2.St)(C:Addr)(H':Hp)(a t:Addr)(B:Heap),e=.ref a/\Heap.FlyingW B X.stack a (.ref C) (.ref t) s1.heap/\H' a=none/\X.s₀.heap.get? a=none/\(∀p∈X.pn++pins,p.1≠a) /\
  (∀(h2:Heap)(tk:Nat),B.StaysIn h2->s1.heap.UpToSlots h2->Inv X pins σ H' { s1 with heap:=h2,toks:=tk })/\Ex σ C H'
section
variable{X:Cx}{k:Nat}{f:Addr}{fd:Q6}{ps:List Str}{sp:Sp}{x:Str}{p pos:Pos}{e:Q0}{es:List Q0}{t:TA}
end
section
variable{X:Cx}{R:Addr}{i:Nat}{n r:Str}{call hx:Q0}{tc:TX}{th:TE}{rp np hp hpos pos:Pos}
end
section
variable{P:Qy}{w:Jc}{K:PySem.W.Frag}{mg:Str->Option Value}{base:Heap}
end
section
variable{X:Cx}{k:Nat}{f:Addr}{fd:Q6}{ps:List Str}{sp:Sp}{x:Str}{p pos:Pos}{e:Q0}{es:List Q0}{t:TA}
end
section
variable{X:Cx}
end
end Rx
namespace Rd
open L2
mutual
inductive Dat (H:Hp):V->PyData->Prop
 |non:Dat H .non .none
 |bl (b:Bool):Dat H (.bl b) (.bool b)
 |int (i:Int):Dat H (.int i) (.int i)
 |str (x:Str):QaC (.str x)=true->Dat H (.str x) (.str x)
 |tup {a:Addr} {xs:List V} {ds:List PyData}:H a=some (.tup xs)->Dats H xs ds->Dat H (.ref a) (.tuple ds)
 |lst {a:Addr} {xs:List V} {ds:List PyData}:H a=some (.lst xs)->Dats H xs ds->Dat H (.ref a) (.list ds)
inductive Dats (H:Hp):List V->List PyData->Prop
 |nil:Dats H [] []
 |cons {x:V} {xs:List V} {d:PyData} {ds:List PyData}:Dat H x d->Dats H xs ds->Dats H (x::xs) (d::ds)
end
mutual
theorem Qah{P:Qy}{w:Jc}{H:Hp}{h:Heap}(ok:HOk P w H h):∀(d:PyData)(x:V)(v:Value),Dat H x d->RelV x v->(∃as,Reads h v d as)/\d.canLay0=true
 |.none,_,v,.non,r=>by cases r;exact⟨⟨_,.none⟩,rfl⟩
 |.bool b,_,v,.bl _,r=>by cases r;exact⟨⟨_,.bool b⟩,rfl⟩
 |.int i,_,v,.int _,r=>by obtain⟨t,rfl⟩:=r;exact⟨⟨_,.int i t⟩,rfl⟩
 |.str z,_,v,.str _ c,r=>by obtain⟨t,rfl⟩:=r;exact⟨⟨_,.str z t⟩,c⟩
 |.tuple ds,_,v,.tup (a:=a) (xs:=xs) e q,r=>by
  cases r;obtain⟨_,its,rv,o,ho,hc,_,n,hd⟩:=ok a _ e;obtain⟨⟨as,ra⟩,cl⟩:=Qam ok ds xs its q rv;exact⟨⟨as,.tuple ho hc hd ra⟩,cl⟩
 |.list ds,_,v,.lst (a:=a) (xs:=xs) e q,r=>by
  cases r;obtain⟨_,its,n,rv,ho⟩:=ok a _ e;obtain⟨⟨as,ra⟩,cl⟩:=Qam ok ds xs its q rv;exact⟨⟨a::as,.list ho rfl rfl ra⟩,cl⟩
 |.dict _,_,_,q,_=>nomatch q
theorem Qam{P:Qy}{w:Jc}{H:Hp}{h:Heap}(ok:HOk P w H h):∀(ds:List PyData)(xs:List V)(vs:List Value),Dats H xs ds->Vals xs vs->(∃as,ReadsAll h vs ds as)/\ZV ds=true
 |[],_,vs,.nil,r=>by cases r;exact⟨⟨_,.nil⟩,rfl⟩
 |d::ds,_,vs,.cons (x:=x) (xs:=xs) q qs,r=>by
  cases r with
  |cons r rs=>
   obtain⟨⟨a1,r1⟩,c1⟩:=Qah ok d x _ q r;obtain⟨⟨a2,r2⟩,c2⟩:=Qam ok ds xs _ qs rs;exact⟨⟨_,.cons r1 r2⟩,by simp[ZV,c1,c2]⟩
end
mutual
theorem Qj3{H H':Hp}(s:Same H H'):∀(d:PyData)(x:V),Dat H x d->Dat H' x d
 |.none,_,.non=>.non
 |.bool _,_,.bl _=>.bl _
 |.int _,_,.int _=>.int _
 |.str _,_,.str _ c=>.str _ c
 |.tuple ds,_,.tup (xs:=xs) e q=>.tup (s _ _ e) (Qc7 s ds xs q)
 |.list ds,_,.lst (xs:=xs) e q=>.lst (s _ _ e) (Qc7 s ds xs q)
 |.dict _,_,q=>nomatch q
theorem Qc7{H H':Hp}(s:Same H H'):∀(ds:List PyData)(xs:List V),Dats H xs ds->Dats H' xs ds
 |[],_,.nil=>.nil
 |d::ds,_,.cons (x:=x) (xs:=xs) q qs=>.cons (Qj3 s d x q) (Qc7 s ds xs qs)
end
theorem Dat.same{H H':Hp}{x:V}{d:PyData}(q:Dat H x d)(s:Same H H'):Dat H' x d:=Qj3 s d x q
theorem Dats.same{H H':Hp}{xs:List V}{ds:List PyData}(q:Dats H xs ds)(s:Same H H'):Dats H' xs ds:=Qc7 s ds xs q
theorem Dats.length{H:Hp}:∀{xs:List V}{ds:List PyData},Dats H xs ds->xs.length=ds.length
 |_,_,.nil=>rfl
 |_,_,.cons _ q=>by rw[QC,QC,q.length]
theorem Dats.get{H:Hp}:∀{xs:List V}{ds:List PyData},Dats H xs ds->∀(i:Nat)(x:V),xs[i]? = some x->∃d,ds[i]? = some d/\Dat H x d
 |_,_,.nil,i,x,e=>by simp at e
 |_,_,.cons q qs,0,x,e=>by simp at e;subst e;exact⟨_,rfl,q⟩
 |_,_,.cons q qs,i+1,x,e=>qs.get i x (by simpa using e)
section
variable{X:Cx}
def QBl(X:Cx):R2:=λx y H Q=>∃dx dy,Dat H x dx/\Dat H y dy/\X.A.units+min dx.depth dy.depth<cLine/\Q (.bl (Jf dx dy)) H
theorem Qw6:OpR X (compareOp .Eq) (QBl X):=by
 intro pins s σ H x y v u Q I rx ry h;obtain⟨dx,dy,qx,qy,hu,q⟩:=h;obtain⟨⟨as,ra⟩,ca⟩:=Qah I.hok dx x v qx rx;obtain⟨⟨bs,rb⟩,cb⟩:=Qah I.hok dy y u qy ry;exact SeqAt.compareEq_reads ra rb ca cb hu ⟨.bl _,H,I,rfl,q⟩
open Classical in
noncomputable def eqH (h:Heap) (d:PyData) (y:Value):Bool:=decide (∃e as,Reads h y e as/\e.canLay0=true/\Jf e d=true)
open Classical in
theorem Qz0{h:Heap}{d:PyData}{y:Value}(q:∃e as,Reads h y e as/\e.canLay0=true/\Jf e d=true):eqH h d y=true:=by
 unfold eqH;exact decide_eq_true q
open Classical in
theorem Qz1{h:Heap}{d:PyData}{y:Value}(q:¬ ∃e as,Reads h y e as/\e.canLay0=true/\Jf e d=true):eqH h d y=false:=by
 unfold eqH;exact decide_eq_false q
theorem Qst{h:Heap}{d e:PyData}{y:Value}{as:List Addr}(r:Reads h y e as)(c:e.canLay0=true):eqH h d y=Jf e d:=by
 cases q:Jf e d with
 |true=>exact Qz0 ⟨e,as,r,c,q⟩
 |false=>
  refine Qz1 λ⟨e',as',r',c',q'⟩=>?_
  rw[<- SeqAt.Reads.unique e e' y as as' c r r',q] at q';cases q'
theorem QeM{h:Heap}{d:PyData}:∀{vs:List Value}{ds:List PyData}{as:List Addr},ReadsAll h vs ds as->ZV ds=true->vs.any (eqH h d)=ds.any λe=>Jf e d
 |_,_,_,.nil,_=>rfl
 |_,_,_,.cons r rs,c=>by
  simp only[ZV,JK] at c;rw[YZ,YZ,Qst r c.1,QeM rs c.2]
theorem Qes{A:Jb}{s:Shared}{d:PyData}{v:Value}{bs:List Addr}(rv:Reads s.heap v d bs)(cv:d.canLay0=true):∀{vs:List Value}{ds:List PyData}{as:List Addr},ReadsAll s.heap vs ds as->ZV ds=true->A.units+d.depth<cLine ->
  ∀u∈vs,Qou A s u v (eqH s.heap d u)
 |_,_,_,.nil,_,_=>λu hu=>nomatch hu
 |_,_,_,.cons (d:=e) r rs,c,hu=>λu hm=>by
  simp only[ZV,JK] at c;rcases Qu.mp hm with z | z
  ·subst z;rw[Qst r c.1];exact SeqAt.eqAt_reads e d A s _ v _ bs r rv c.1 cv (YJ (Qox (QcB _ _) _) hu)
  ·exact Qes rv cv rs c.2 hu u z
def QAB(X:Cx)(neg:Bool):R2:=λx y H Q=>∃c ps ds d,y=.ref c/\H c=some (.tup ps)/\Dats H ps ds/\Dat H x d/\X.A.in1.units+d.depth<cLine/\Q (.bl (if neg then !(ds.any λe=>Jf e d) else ds.any λe=>Jf e d)) H
theorem Qw5:OpR X (compareOp .In) (QAB X false):=by
 intro pins s σ H x y v u Q I rx ry h;obtain⟨c,ps,ds,d,rfl,hc,qs,qx,hu,q⟩:=h;cases ry;obtain⟨⟨as,ra⟩,ca⟩:=Qah I.hok d x v qx rx;obtain⟨_,its,rv,tp⟩:=I.hok c _ hc;have tp:=TupN.tup tp;obtain⟨⟨bs,rb⟩,cb⟩:=Qam I.hok ds ps its qs rv;refine SeqAt.in_tupleAt (eqH s.heap d) tp (λw hw=>Qes ra ca rb cb hu w (Qaf.mp hw)) ⟨.bl _,H,I,rfl,?_⟩;rw[show its.toArray.any (eqH s.heap d)=its.any (eqH s.heap d) by simp,QeM rb cb];exact q
theorem QmO:OpR X (compareOp .NotIn) (QAB X true):=by
 intro pins s σ H x y v u Q I rx ry h;obtain⟨c,ps,ds,d,rfl,hc,qs,qx,hu,q⟩:=h;cases ry;obtain⟨⟨as,ra⟩,ca⟩:=Qah I.hok d x v qx rx;obtain⟨_,its,rv,tp⟩:=I.hok c _ hc;have tp:=TupN.tup tp;obtain⟨⟨bs,rb⟩,cb⟩:=Qam I.hok ds ps its qs rv;refine Qlu (eqH s.heap d) tp (λw hw=>Qes ra ca rb cb hu w (Qaf.mp hw)) ⟨.bl _,H,I,rfl,?_⟩;rw[show its.toArray.any (eqH s.heap d)=its.any (eqH s.heap d) by simp,QeM rb cb];exact q
end
section
variable{X:Cx}
end
end Rd
namespace L2
def Ite(l:Addr):It:=
 ⟨λi H=>∃xs x,H l=some (.lst xs)/\xs[i]? = some x,
  λi H v H'=>∃p x,H p=none/\(∀xs,H l=some (.lst xs)->xs[i]? = some x)/\v=.ref p/\H'=upd H p (.tup [.int (i:Nat),x]),
  λi H=>∃xs,H l=some (.lst xs)/\xs.length<=i⟩
theorem QlP{P:Qy}{w:Jc}{K:PySem.W.Frag}{elts:List Q0}{x1}{tpos:Pos}{e it l:Addr}(hne:e≠it) :
  Turn P w K (.Tuple elts x1 tpos) (Ite l) [e,it] e (λi h=>(∃old,IsEnum h e it (i:Nat) old)/\h.IsListIter it l i) where
 mem:=by simp
 obj:=λi h st b hb=>by
  obtain⟨⟨old,a1⟩,⟨o2,a2,_,d2⟩⟩:=st;simp only[Qu,QQ,or_false] at hb;rcases hb with rfl | rfl
  ·exact⟨_,a1,λv q=>nomatch q⟩
  ·exact⟨_,a2,λv q=>by rw[d2] at q;cases q⟩
 keep:=λi h h' st k=>by
  obtain⟨⟨old,a1⟩,⟨o2,a2,c2⟩⟩:=st;exact⟨⟨old,k e (by simp) _ a1⟩,o2,k it (by simp) _ a2,c2⟩
 item:=by
  intro X hP hw hK hc i pins s σ H E I hf st hg;subst hP hw hK;obtain⟨xs,x,h1,hx⟩:=hg;obtain⟨⟨old,a1⟩,a2⟩:=st;obtain⟨its,r1,p1,_⟩:=I.list (SqL.of h1);obtain⟨u,hu,ru⟩:=r1.get hx;refine wpAny_pyNext_enum_item a1 a2 p1.isList (x:=u) (by simpa using hu) hne λh' o' l' tp sz kp=>?_
  have fr:H s.heap.objs.size=none:=I.hok.fresh (Qg _);have n1:e≠s.heap.objs.size:=Qv (Qk a1);have n2:it≠s.heap.objs.size:=by
   obtain⟨o2,a2,_⟩:=a2;exact Qv (Qk a2)
  refine⟨_,rfl,Qlh o' λh2 e2 s2=>?_⟩;have I1:Inv X pins σ (upd H s.heap.objs.size (.tup [.int (i:Nat),x])) { s with heap:=h2,toks:=s.toks+1 }:=by
   refine I.turnedNew (ch:=[e,it]) hf (λb v hb q=>?_) (Qg _) ⟨by show 2<=sizeLine;decide,[.int (i:Nat) s.toks,u],.cons ⟨_,rfl⟩ (.cons ru .nil),?_⟩
   ·simp only[Qu,QQ,or_false,not_or] at hb;exact s2.extBut _ _ hb.1 (kp b v hb.1 hb.2 q)
   ·exact⟨_,s2.extBut _ _ n1.symm tp,rfl,rfl,0,rfl⟩
  refine⟨.ref s.heap.objs.size,_,I1,rfl,⟨_,x,fr,λxs' q=>?_,rfl,rfl⟩,⟨⟨u,e2⟩,?_⟩,λb hb=>?_⟩
  ·rw[h1] at q;cases q;exact hx
  ·exact l'.extBut s2.extBut hne.symm
  ·simp only[Qu,QQ,or_false] at hb;rcases hb with rfl | rfl
   ·rw[Jw n1];exact(hf _ (by simp)).1
   ·rw[Jw n2];exact(hf _ (by simp)).1
 done:=by
  intro X hP hw hK hc i pins s σ H E I hf st hg;subst hP hw hK;obtain⟨xs,h1,he⟩:=hg;obtain⟨⟨old,a1⟩,a2⟩:=st;obtain⟨its,r1,p1,_⟩:=I.list (SqL.of h1);have l1:=r1.length;refine wpAny_pyNext_enum_end (I.ok.hd hc) a1 a2 p1.isList (by simp;omega) λh' kp=>⟨rfl,I.turnedAll (t':=s.toks) (ch:=[e,it]) hf λb v hb q=>?_⟩
  simp only[Qu,QQ,or_false,not_or] at hb;exact kp b v hb.2 q
 self:=λ_ _ _ _ _ st h=>by
  obtain⟨⟨old,a1⟩,_⟩:=st;exact QcF a1 h
def QzU(ta:TA):TI:=λσ H R=>ta σ H λvs H1=>∃l xs,vs=[.ref l]/\H1 l=some (.lst xs)/\R (Ite l) H1
theorem QhQ:bootBuiltins "enumerate" = some (.type "enumerate"):=by decide +kernel
section
variable{X:Cx}
theorem QtH{a:Q0}{elts:List Q0}{x1}{tpos:Pos}{ta:TA}{p pos:Pos}(hg:Gl X "enumerate")(hm:X.mg "enumerate" = none)(ha:PA X [a] ta)(hs:starEach [a] X.env=[(false,eval a X.env)]:=by rfl) :
  PI X (.Tuple elts x1 tpos) (.Call (.Name "enumerate" p) [a] [] pos) (QzU ta):=by
 intro pins s σ H R I h;refine Call_ (QcD I hg hm QhQ (JF (thn (ha pos pins s σ H _ I h) λus s1 ⟨vs,H1,I1,r1,q1⟩=>?_) hs rfl));obtain⟨l,xs,e,h1,q⟩:=q1;subst e;obtain⟨u,rfl,ru⟩:=vals1 r1;cases(show u=QF l from ru);obtain⟨its,w1,p1,_⟩:=I1.list (SqL.of h1);refine call_enumerate_list p1.isList λh' e1 i1 sz kp=>?_
 refine QcF (s:={ s1 with heap:=h' }) e1 ?_
 refine⟨s1.heap.objs.size+1,_,_,_,H1,rfl,I1.kept (t':=s1.toks) kp,QlP (by show ¬(s1.heap.objs.size+1=s1.heap.objs.size);omega),⟨⟨_,e1⟩,i1⟩,λb hb=>?_,q⟩;have hb':s1.heap.objs.size<=b:=by
  simp only[Qu,QQ,or_false] at hb;rcases hb with rfl | rfl<;>omega
 exact I1.fpOk hb' (I1.hok.fresh hb')
end
section
variable{prog:Qy}{w:Jc}{A:Jb}{R:Result->Shared->Prop}{s:Shared}
theorem Qg7{elt tg iter:Q0}{ifs:List Q0}{g0:QfK}{scope:YA}{pos:Pos}{it acc:Value}{env:Env}
  (h0:codeAny (model prog w) A (.compLoop (.ListComp elt [g0,⟨tg,iter,ifs,0⟩] scope pos) 1 it acc env) R s)
  (h:wpAny (model prog w) A (pyIter it) (λit' s'=>codeAny (model prog w) A (.compLoop (.ListComp elt [g0,⟨tg,iter,ifs,0⟩] scope pos) 1 it' acc env) R s') (notedBy (model prog w) A env λx s'=>R (.error x) s') s) :
  codeAny (model prog w) A (.compStart (.ListComp elt [g0,⟨tg,iter,ifs,0⟩] scope pos) 1 it acc env) R s:=by
 refine QdP ?_
 show wpAny _ _ ((compStart (.ListComp elt [g0,⟨tg,iter,ifs,0⟩] scope pos) 1 it acc env).onRaise (λx=>do noteFrame x env;standAt theWindowsPlace)) _ _ s;refine wpAny_notedAt ?_
 unfold compStart;show wpAny _ _ (ask >>= _) _ _ s;refine wpAny_bind (YL (wpAny_ite ?_));split
 ·first
   |exact wpAny_bind (Qd (Qd ⟨rfl,h0⟩))
   |exact Qd ⟨rfl,h0⟩
 ·first
   |exact wpAny_bind (wpAny_rule (wpAny_bind (wpAny_standAt (wpAny_bind (wpAny_mono h (λit' s' h'=>Qd ⟨rfl,h'⟩) λ_ _ x=>x)))))
   |exact wpAny_bind (wpAny_rule (wpAny_bind (wpAny_standAt (wpAny_bind (wpAny_mono h (λit' s' h'=>Qd (Qd ⟨rfl,h'⟩)) λ_ _ x=>x)))))
end
theorem QlN{Y:Cx}{elt tg iter:Q0}{ifs:List Q0}{g0:QfK}{scope:YA}{cpos:Pos}{it D:Addr}(Q:PySem.Fin->Shared->Prop)(E:Value->Shared->Prop)(s:Shared)
  (h:wpAny (model Y.prog Y.w) Y.A (pyNext (.ref it)) (λr s1=>match r with
   |none=>Q (.done .next) s1
   |some v=>wpAny (model Y.prog Y.w) Y.A (letOwnedTupleGo tg (.ref it) v) (λ_ s2=>Qrp Y tg ifs (Qof Y elt D) v (λs3=>Q (.again (.compLoop (.ListComp elt [g0,⟨tg,iter,ifs,0⟩] scope cpos) 1 (.ref it) (.ref D) Y.env)) s3) s2) E s1) E s) :
  wpAny (model Y.prog Y.w) Y.A (compTurn (.ListComp elt [g0,⟨tg,iter,ifs,0⟩] scope cpos) 1 (.ref it) (.ref D) Y.env) Q E s:=by
 have e:compTurn (.ListComp elt [g0,⟨tg,iter,ifs,0⟩] scope cpos) 1 (.ref it) (.ref D) Y.env=(do
   standAt iter.pos
   match <- pyNext (.ref it) with
   |none=>pure (.done .next)
   |some v=>
    letOwnedTupleGo tg (.ref it) v
    assign tg Y.env v
    let mut ok:=true
    for c in ifs do
     if ok then ok <- isTrue c Y.env (eval c Y.env)
    if ok then
     (do let _ <- call (.builtin "list.append") [.ref D,<- eval elt Y.env])
    again (.compLoop (.ListComp elt [g0,⟨tg,iter,ifs,0⟩] scope cpos) 1 (.ref it) (.ref D) Y.env)):=by rfl
 rw[e];refine wpAny_bind (wpAny_standAt (wpAny_bind (thn h λr s1 h1=>?_)));cases r with
 |none=>exact Qd h1
 |some v=>
  refine wpAny_bind (thn h1 λ_ s2 h2=>?_);refine wpAny_bind (wpAny_mono h2 (λ_ s4 h4=>wpAny_bind (wpAny_mono h4 (λok s5 h5=>?_) λ_ _ f=>f.elim)) λ_ _ f=>f.elim);cases ok with
  |false=>exact Qd h5
  |true=>exact wpAny_bind (wpAny_bind (wpAny_mono h5 (λx s6 h6=>wpAny_bind (wpAny_mono h6 (λ_ s7 h7=>Qd (Qd h7)) λ_ _ f=>f.elim)) λ_ _ f=>f.elim))
def Qoe(Y:Cx)(e:Q0)(iter:Q0)(D:Addr):Act:=λQ s=>wpAny (model Y.prog Y.w) Y.A (eval iter Y.env) (λx s1=>wpAny (model Y.prog Y.w) Y.A (pyIter x)
 (λitv s2=>codeAny (model Y.prog Y.w) Y.A (.compStart e 1 itv (.ref D) Y.env) (λr s3=>match r with | .ok _=>Q s3 | .error _=>False) s2) (λ_ _=>False) s1) (λ_ _=>False) s
def Qx8(wi:TI)(g:TG)(tc:TT)(p:Addr)(te:TE):St->Hp->(Hp->Prop)->Prop:=λσ H k=>wi σ H λJ H1=>Qkz J (bOf σ g tc (QvF p te)) k H1
theorem Qn6{Y:Cx}{σ:St}{elt tg iter:Q0}{ifs:List Q0}{g0:QfK}{scope:YA}{cpos:Pos}{D:Addr}{wi:TI}{g:TG}{tc:TT}{te:TE}(hx:Y.xe=λ_ _=>False)(hc:Y.calm=true)
  (hi:PI Y tg iter wi)(hg:PG Y tg g)(ht:PTs Y ifs tc)(he:PE Y elt te):BodyOk Y σ (Qoe Y (.ListComp elt [g0,⟨tg,iter,ifs,0⟩] scope cpos) iter D) (Qx8 wi g tc D te σ):=by
 intro pins s H k Q I h hQ;have hx':∀(v:Value)(s':Shared),Y.xe v s'->False:=λv s' z=>by rw[hx] at z;exact z
 refine wpAny_mono (hi pins s σ H _ I h) (λv s1 h1=>wpAny_mono h1 (λitv s2 h2=>?_) hx') hx';obtain⟨it,fp,tn,J,H2,e,I2,T,st2,f2,hW⟩:=h2;subst e;have loop:codeAny (model Y.prog Y.w) Y.A (.compLoop (.ListComp elt [g0,⟨tg,iter,ifs,0⟩] scope cpos) 1 (.ref it) (.ref D) Y.env) (λr s3=>match r with | .ok _=>Q s3 | .error _=>False) s2:=
  Qcd (Y:=Y) (gens:=[g0,⟨tg,iter,ifs,0⟩]) (d:=1) hc T st2 f2 (λQ E s h=>QlN Q E s h) (λx u r=>QeJ hx hg ht (λσ4=>Qee hx he) x u r) I2 hW λs' H' I' q=>hQ s' H' I' q
 exact Qg7 loop (T.self _ 0 _ _ _ st2 loop)
theorem Qkw{Y:Cx}{elt tg iter tg2 iter2:Q0}{ifs ifs2:List Q0}{scope:YA}{cpos:Pos}{it D:Addr}(hs:∀x,foldedSetIterable iter2 Y.env x=pure x)(Q:PySem.Fin->Shared->Prop)(E:Value->Shared->Prop)(s:Shared)
  (h:wpAny (model Y.prog Y.w) Y.A (pyNext (.ref it)) (λr s1=>match r with
   |none=>Q (.done .next) s1
   |some v=>wpAny (model Y.prog Y.w) Y.A (letOwnedTupleGo tg (.ref it) v) (λ_ s2=>Qrp Y tg ifs (Qoe Y (.ListComp elt [⟨tg,iter,ifs,0⟩,⟨tg2,iter2,ifs2,0⟩] scope cpos) iter2 D) v (λs3=>Q (.again (.compLoop (.ListComp elt [⟨tg,iter,ifs,0⟩,⟨tg2,iter2,ifs2,0⟩] scope cpos) 0 (.ref it) (.ref D) Y.env)) s3) s2) E s1) E s) :
  wpAny (model Y.prog Y.w) Y.A (compTurn (.ListComp elt [⟨tg,iter,ifs,0⟩,⟨tg2,iter2,ifs2,0⟩] scope cpos) 0 (.ref it) (.ref D) Y.env) Q E s:=by
 have e:compTurn (.ListComp elt [⟨tg,iter,ifs,0⟩,⟨tg2,iter2,ifs2,0⟩] scope cpos) 0 (.ref it) (.ref D) Y.env=(do
   standAt iter.pos
   match <- pyNext (.ref it) with
   |none=>pure (.done .next)
   |some v=>
    letOwnedTupleGo tg (.ref it) v
    assign tg Y.env v
    let mut ok:=true
    for c in ifs do
     if ok then ok <- isTrue c Y.env (eval c Y.env)
    if ok then
     let x <- eval iter2 Y.env
     standAt iter2.pos
     let x <- foldedSetIterable iter2 Y.env x
     let _ <- runOwn (.compStart (.ListComp elt [⟨tg,iter,ifs,0⟩,⟨tg2,iter2,ifs2,0⟩] scope cpos) 1 (<- holding [x] (pyIter x)) (.ref D) Y.env) Y.env
    again (.compLoop (.ListComp elt [⟨tg,iter,ifs,0⟩,⟨tg2,iter2,ifs2,0⟩] scope cpos) 0 (.ref it) (.ref D) Y.env)):=by rfl
 rw[e];refine wpAny_bind (wpAny_standAt (wpAny_bind (thn h λr s1 h1=>?_)));cases r with
 |none=>exact Qd h1
 |some v=>
  refine wpAny_bind (thn h1 λ_ s2 h2=>?_);refine wpAny_bind (wpAny_mono h2 (λ_ s4 h4=>wpAny_bind (wpAny_mono h4 (λok s5 h5=>?_) λ_ _ f=>f.elim)) λ_ _ f=>f.elim);cases ok with
  |false=>exact Qd h5
  |true=>
   refine wpAny_bind (wpAny_mono h5 (λx s6 h6=>wpAny_bind (wpAny_standAt ?_)) λ_ _ f=>f.elim);rw[hs x];refine wpAny_bind (Qd (wpAny_bind (J3 (wpAny_mono h6 (λitv s7 h7=>?_) λ_ _ f=>f.elim))));refine wpAny_bind (wpAny_runOwn (h:=none) (Qcg h7 λr s8 h8=>?_));cases r with
   |error z=>exact h8.elim
   |ok fl=>exact Qd h8
def QrM(cap:List (Option Nat))(wi:TI)(g:TG)(tc:TT)(wi2:TI)(g2:TG)(tc2:TT)(te:TE):TE:=λσ H Q=>wi σ H λJ H1=>∀p,H1 p=none->Qkz J (bOf (Qdh cap σ) g tc (Qx8 wi2 g2 tc2 p te)) (Q (.ref p)) (upd H1 p (.lst []))
end L2
namespace Rk
open L2 Rd
def pairD(ij:Int×Int):PyData:=.tuple [.int ij.1,.int ij.2]
end Rk
namespace Rr
section
variable{prog:Qy}{w:Jc}{A:Jb}{E:Value->Shared->Prop}{s:Shared}
theorem QxA{Q:List Value->Shared->Prop}{r:Addr}{a b:Int}{t u v:Tok}{n:Nat}(hh:A.handled=none)(hr:QeY s.heap r a b 1 t u v)(hsm:Qb1 a b 1=true)(hn:Jp a b 1=n)(hl:n<=2^24)
  (hQ:∀(h':Heap)(tk:Nat)(acc:Array Value),(∀c o,s.heap.get? c=some o->h'.get? c=some o)->ItemsOf (λi v=>∃t,v=.int (a+i*1) t) acc n->Q acc.toList { s with heap:=h',toks:=tk }) :
  wpAny (model prog w) A (collect (.ref r)) Q E s:=by
 unfold collect;refine wpAny_bind (Qls (Ye QoF ?_));rw[Zo QoE _];show wpAny _ A.in1 (newList [] >>= λl=>again (.builtin "list.__iadd__" ⟨[l,.ref r],[]⟩)) _ _ s;refine wpAny_bind (Q4 (Qd ⟨QaM Qcv _,Ye QvR ?_⟩));rw[Zo Qcv _];have hS:(s.heap.push { cls:=.type "list",data:=.seq ([]:List Value).toArray }).get? s.heap.objs.size=some { cls:=.type "list",data:=.seq #[] }:=Qm _ rfl;show wpAny _ A.in1 (QaI (.ref s.heap.objs.size) (.ref r) (.ref s.heap.objs.size)) _ _ _;refine wpAny_extend_range (A:=A) (R:=λrr s'=>match rr with
  |.ok (.ret v)=>wpAny (model prog w) A (match v with
   |.ref a=>do
    let o <- load a
    match o.data with
    |.seq xs _=>pure xs.toList
    |_=>unsupported "internal:collect"
   |_=>unsupported "internal:collect") Q E s'
  |.ok _=>False
  |.error e=>E e s') (s:={ s with heap:=s.heap.push { cls:=.type "list",data:=.seq ([]:List Value).toArray } }) hh (Qc _ hr) hsm hn hl s.heap.objs.size (.ref s.heap.objs.size) 0 hS λh' tk acc' c' kp hS' hacc=>?_
 show wpAny _ A (load s.heap.objs.size >>= _) _ _ _;refine wpAny_bind (QyF hS' (Qd (hQ h' tk acc' (λc o e=>kp c o (Qv (Qk e)) (Qc _ e)) hacc)))
theorem Qxj(r:Addr)(a b:Int)(t u v:Tok)(n:Nat)(hsm:Qb1 a b 1=true)(hn:Jp a b 1=n)(hl:n<=1000) :
  Meets (Yw.«tuple.__new__» ⟨[.type "tuple",.ref r],[]⟩) (λA R s=>A.handled=none/\QeY s.heap r a b 1 t u v/\∀(h':Heap)(tk:Nat)(acc:Array Value),(∀c o,s.heap.get? c=some o->h'.get? c=some o)->ItemsOf (λi v=>∃t,v=.int (a+i*1) t) acc n ->
    R (.ok (.ret (.ref h'.objs.size))) { s with heap:=h'.push { cls:=.type "tuple",data:=.seq acc },toks:=tk }):=
 .of_wp λprog w A R s h=>by
  obtain⟨hh,hr,h⟩:=h;have hsub:=sub_tuple_self;have hinit:=init_tuple_lookup;have hmh:=madeHere_tuple;have hT:s.TypeIs (.ref r) "range" := ⟨_,hr,rfl⟩;have hh1:A.in1.handled=none:=hh
  wp_walk using Qay hT,QxA hh1 hr hsm hn (QY hl (by decide))
  intro h' tk acc kp hacc;have hz:acc.size=n:=hacc.1;show wpAny _ _ (ZA acc.toList.toArray >>= λv=>ret v) _ _ _;unfold ZA;have e:acc.toList.toArray=acc:=by simp
  rw[e];refine wpAny_bind (Q4 ?_ (by show acc.size<=sizeLine;rw[hz];exact QY hl (by decide)));exact Qd ⟨_,rfl,h h' tk acc kp hacc⟩
theorem Qvg{Q:Value->Shared->Prop}{r:Addr}{a b:Int}{t u v:Tok}{n:Nat}(hh:A.handled=none)(hr:QeY s.heap r a b 1 t u v)(hsm:Qb1 a b 1=true)(hn:Jp a b 1=n)(hl:n<=1000)
  (hQ:∀(h':Heap)(tk:Nat)(acc:Array Value),(∀c o,s.heap.get? c=some o->h'.get? c=some o)->ItemsOf (λi v=>∃t,v=.int (a+i*1) t) acc n->Q (.ref h'.objs.size) { s with heap:=h'.push { cls:=.type "tuple",data:=.seq acc },toks:=tk }) :
  wpAny (model prog w) A (call (.type "tuple") [.ref r]) Q E s:=
 QsK F.called_tuple (by decide) (F.typeCall_tuple_1 _) (F.newCall_tuple_1 _) (λobj=>QrF obj _) F.entry_tuple_new (Qxj r a b t u v n hsm hn hl)
  ⟨hh,hr,λh' tk acc kp hacc=>⟨⟨_,Qm _ rfl,rfl⟩,hQ h' tk acc kp hacc⟩⟩
end
end Rr
namespace L2
def Qv2(ta:TA):TE:=λσ H Q=>ta σ H λvs H1=>∃j,vs=[.int j]/\∀r H2,Same H1 H2->H1 r=none->H2 r=some (.rng 0 j)->Q (.ref r) H2
section
variable{X:Cx}
theorem Qd6{a:Q0}{ta:TA}{p pos:Pos}(hg:Gl X "range")(hm:X.mg "range" = none)(ha:PA X [a] ta)(hs:starEach [a] X.env=[(false,eval a X.env)]:=by rfl):PE X (.Call (.Name "range" p) [a] [] pos) (Qv2 ta):=by
 intro pins s σ H Q I h;refine Qcf (QcD I hg hm boot_range ?_);refine JF (thn (ha pos pins s σ H _ I h) λus s1 ⟨vs,H1,I1,r1,q1⟩=>?_) hs rfl;obtain⟨j,e,q⟩:=q1;subst e;obtain⟨u,rfl,ru⟩:=vals1 r1;obtain⟨t,rfl⟩:=ru;refine call_range_1 ?_
 have hf:H1 s1.heap.objs.size=none:=I1.hok.fresh (Qg _);refine⟨.ref s1.heap.objs.size,upd H1 s1.heap.objs.size (.rng 0 j),I1.laid (t':=s1.toks+1+1) (λb u e=>Qc _ e) (Qg _) ⟨_,_,_,Qm _ rfl⟩,rfl,q _ _ (Jn hf) hf Jg⟩
theorem Qft{acc:Array Value}{n:Nat}(h:ItemsOf (λi v=>∃t,v=Qbc ((0:Int)+i*1) t) acc n):Vals ((Qf n).map λi=>V.int (i:Nat)) acc.toList:=by
 obtain⟨hs,hi⟩:=h;have key:∀(m:Nat)(l:List Value)(o:Nat),l.length=m->(∀i v,l[i]? = some v->∃t,v=Qbc ((0:Int)+((o+i:Nat):Int)*1) t)->Vals ((QgF o m).map λi=>V.int (i:Nat)) l:=by
  intro m;induction m with
  |zero=>intro l o hl _;cases l with
   |nil=>exact .nil
   |cons a b=>cases hl
  |succ m ih=>
   intro l o hl hv;cases l with
   |nil=>cases hl
   |cons a b=>
    rw[QsP,Js];refine .cons ?_ (ih b (o+1) (by simpa using hl) λi v e=>?_)
    ·obtain⟨t,rfl⟩:=hv 0 a rfl;exact⟨t,by simp⟩
    ·obtain⟨t,rfl⟩:=hv (i+1) v (by simpa using e);exact⟨t,by congr 3;omega⟩
 rw[List.range_eq_range'];refine key n acc.toList 0 (by simpa using hs) λi v e=>?_
 have:=hi i v (by simpa using e)
 simpa using this
def Qtn:List V->Hp->VK->Prop:=λxs H Q=>∃r j,xs=[.ref r]/\H r=some (.rng 0 j) /\ -1000<=j/\j<=1000/\∀t H2,Same H H2->H t=none->H2 t=some (.tup ((Qf j.toNat).map λi=>V.int (i:Nat)))->Q (.ref t) H2
theorem QiY(hc:X.calm=true):CallR X (.type "tuple") Qtn:=by
 intro pins s σ H xs us Q I r h;obtain⟨a,j,rfl,ha,h1,h2,q⟩:=h;obtain⟨u,rfl,ru⟩:=vals1 r;cases(show u=QF a from ru);obtain⟨t1,t2,t3,e⟩:=I.hok a _ ha;have hn:Jp 0 j 1=((j.toNat:Nat):Int):=by rw[QcV];split<;>omega
 refine Rr.Qvg (n:=j.toNat) (I.ok.hd hc) (show QeY s.heap a 0 j 1 t1 t2 t3 from e) (small_one (by omega) (by omega) (by omega) (by omega)) hn (by omega) λh' tk acc kp hacc=>?_
 have hz:acc.size=j.toNat:=hacc.1;have rv:=Qft hacc;have I1:Inv X pins σ H { s with heap:=h',toks:=tk }:=I.kept kp;have hf:H h'.objs.size=none:=I1.hok.fresh (Qg _);refine⟨.ref h'.objs.size,upd H h'.objs.size (.tup ((Qf j.toNat).map λi=>V.int (i:Nat))),I1.laid (t':=tk) (λb u e=>Qc _ e) (Qg _) ⟨?_,acc.toList,rv,⟨_,Qm _ rfl,rfl,rfl,0,by simp⟩⟩,rfl,q _ _ (Jn hf) hf Jg⟩;rw[Qa,Qr];exact ZJ (Rk.QaG (by omega))
end
end L2
namespace Rs
open PySem.W
def sp{α:Type}(n:Nat)(c:Nat->Nat->Bool):KasT α->(α->Prop)->Prop
 |.ret a,Q=>Q a
 |.ask i j f,Q=>i<n/\j<n/\sp n c (f (c i j)) Q
theorem QaX{α:Type}{n:Nat}{c:Nat->Nat->Bool}{Q Q':α->Prop}(h:∀a,Q a->Q' a):∀{t:KasT α},sp n c t Q->sp n c t Q'
 |.ret a,q=>h a q
 |.ask i j f,q=>⟨q.1,q.2.1,QaX h (t:=f (c i j)) q.2.2⟩
theorem Qdp{α β:Type}{n:Nat}{c:Nat->Nat->Bool}{f:α->KasT β}{Q:β->Prop}:∀{t:KasT α},sp n c t (λa=>sp n c (f a) Q)->sp n c (t.bind f) Q
 |.ret a,q=>q
 |.ask i j g,q=>⟨q.1,q.2.1,Qdp (t:=g (c i j)) q.2.2⟩
theorem Qje{α:Type}{n:Nat}{c:Nat->Nat->Bool}{cmp:Nat->Nat->(Bool->Shared->Prop)->Shared->Prop}{s:Shared}{Q:α->Shared->Prop}(hc:∀i j (C:Bool->Shared->Prop),i<n->j<n->C (c i j) s->cmp i j C s) :
  ∀{t:KasT α},sp n c t (λa=>Q a s)->t.kasWp cmp Q s
 |.ret a,q=>q
 |.ask i j f,q=>hc i j _ q.1 q.2.1 (Qje hc (t:=f (c i j)) q.2.2)
section
variable{n:Nat}{K:Nat->Int}
abbrev cK (K:Nat->Int) (i j:Nat):Bool:=decide (K i<K j)
structure Good (n:Nat) (p:Array Nat):Prop where
 perm:p.toList.Perm (Qf n)
theorem Good.size{p:Array Nat}(g:Good n p):p.size=n:=by
 have:=g.perm.length_eq;rw[Qr,Ql] at this;exact this
def at_(p:Array Nat)(i:Nat):Nat:=p.getD i 0
theorem QhX{p:Array Nat}{i:Nat}(h:i<p.size):p[i]? = some (at_ p i):=by
 unfold at_;rw[YM,JX h];rfl
theorem Qrn{p q:Array Nat}{i j:Nat}(h:p[i]? = q[j]?):at_ p i=at_ q j:=by
 unfold at_;rw[YM,YM,h]
theorem Good.lt{p:Array Nat}(g:Good n p)(h0:0<n)(i:Nat):at_ p i<n:=by
 by_cases h:i<p.size
 ·have e:=QhX h;have m:at_ p i∈p.toList:=by
   have:=QaP e;exact ZO.mpr this
  exact Qz.mp (g.perm.mem_iff.mp m)
 ·unfold at_;rw[YM,Zd (by omega)];exact h0
theorem Good.inj{p:Array Nat}(g:Good n p){i j:Nat}(hi:i<n)(hj:j<n)(e:at_ p i=at_ p j):i=j:=by
 have nd:p.toList.Nodup:=g.perm.nodup_iff.mpr YC;have hs:=g.size;have hi':i<p.toList.length:=by rw[Ql];omega
 have hj':j<p.toList.length:=by rw[Ql];omega
 have ei:p.toList[i]=at_ p i:=by
  have:=QhX (p:=p) (i:=i) (by omega);rw[JX (by omega)] at this;rw[JI];exact Qx this
 have ej:p.toList[j]=at_ p j:=by
  have:=QhX (p:=p) (i:=j) (by omega);rw[JX (by omega)] at this;rw[JI];exact Qx this
 have pw:=Jt.mp nd;rcases ZC i j with h | h | h
 ·exact absurd (ei.trans (e.trans ej.symm)) (pw i j hi' hj' h)
 ·exact h
 ·exact absurd (ej.trans (e.symm.trans ei.symm)) (pw j i hj' hi' h)
def kk(K:Nat->Int)(p:Array Nat)(i:Nat):Int:=K (at_ p i)
def Adj(K:Nat->Int)(p:Array Nat)(m:Nat):Prop:=∀i,i+1<m->kk K p i<=kk K p (i+1)
def Dsc(K:Nat->Int)(p:Array Nat)(m:Nat):Prop:=∀i,i+1<m->kk K p (i+1)<kk K p i
theorem Adj.le{p:Array Nat}{m:Nat}(h:Adj K p m){i:Nat}:∀{j:Nat},i<=j->j<m->kk K p i<=kk K p j
 |0,hij,_=>by cases Nat.le_zero.mp hij;exact QoD _
 |j+1,hij,hj=>by
  by_cases e:i=j+1
  ·rw[e];exact QoD _
  ·exact QlF (h.le (i:=i) (j:=j) (by omega) (by omega)) (h j hj)
theorem Qo5{p:Array Nat}(g:Good n p)(i j:Nat):Good n (kas_rev p i j):=⟨(QgP.mp (mirror_perm p i j _)).trans g.perm⟩
theorem QrW{p:Array Nat}{m k:Nat}(hm:m<=p.size)(hk:k<m):at_ (kas_rev p 0 m) k=at_ p (m - 1 - k):=by
 refine Qrn ?_
 have:=getElem?_mirror_all (xs:=p) (i:=0) (j:=m) hm k
 rw[if_pos ⟨Q7 _,hk⟩,QbK] at this;exact this
theorem Qtl{p:Array Nat}{m:Nat}(hm:m<=p.size)(d:Dsc K p m):Adj K (kas_rev p 0 m) m:=by
 intro i hi;unfold kk;rw[QrW hm (by omega),QrW hm hi];have:=d (m - 1 - (i+1)) (by omega);have e:m - 1 - (i+1)+1=m - 1 - i:=by omega
 rw[e] at this;exact QlG this
theorem Ql2{p:Array Nat}(g:Good n p)(h0:0<n):∀(f a:Nat),1<=a->Adj K p a ->
  sp n (cK K) (kas_asc p f a) (λm=>a<=m/\m<=a+f/\Adj K p m/\(m=a+f∨kk K p m<kk K p (m - 1)))
 |0,a,_,h=>⟨Qg _,Qg _,h,.inl rfl⟩
 |f+1,a,ha,h=>by
  refine⟨g.lt h0 a,g.lt h0 (a - 1),?_⟩;show sp n (cK K) (if decide (kk K p a<kk K p (a - 1))=true then .ret a else kas_asc p f (a+1)) _;by_cases e:kk K p a<kk K p (a - 1)
  ·rw[decide_eq_true e,if_pos rfl];exact⟨Qg _,QfJ _ _,h,.inr e⟩
  ·rw[decide_eq_false e,if_neg (by simp)];refine QaX ?_ (Ql2 g h0 f (a+1) (by omega) ?_)
   ·rintro m ⟨h1,h2,h3,h4⟩;exact⟨by omega,by omega,h3,h4.imp (λq=>by omega) id⟩
   ·intro i hi;by_cases q:i+1<a
    ·exact h i q
    ·have e1:i=a - 1:=by omega
     have e2:i+1=a:=by omega
     rw[e2,e1];exact Int.not_lt.mp e
theorem QuO(inj:∀i j,i<n->j<n->K i=K j->i=j){p:Array Nat}(g:Good n p){i j:Nat}(hi:i<n)(hj:j<n)(h:i≠j):kk K p i≠kk K p j:=
 λe=>h (g.inj hi hj (inj _ _ (g.lt (by omega) i) (g.lt (by omega) j) e))
theorem Ql1(inj:∀i j,i<n->j<n->K i=K j->i=j){p:Array Nat}(g:Good n p)(h0:0<n):∀(f a:Nat),1<=a->a+f<=n->Dsc K p a ->
  sp n (cK K) (kas_desc f p a 0) (λr=>r.1=p/\r.2.2=0/\a<=r.2.1/\r.2.1<=a+f/\Dsc K p r.2.1)
 |0,a,_,_,h=>⟨rfl,rfl,Qg _,Qg _,h⟩
 |f+1,a,ha,haf,h=>by
  refine⟨g.lt h0 a,g.lt h0 (a - 1),?_⟩;show sp n (cK K) (if decide (kk K p a<kk K p (a - 1))=true then(if 0 > 0 then kas_desc f (kas_rev p (a - (0+1)) a) (a+1) 0 else kas_desc f p (a+1) 0) else _) _;by_cases e:kk K p a<kk K p (a - 1)
  ·rw[decide_eq_true e,if_pos rfl,if_neg (by omega)];refine QaX ?_ (Ql1 inj g h0 f (a+1) (by omega) (by omega) ?_)
   ·rintro r ⟨h1,h2,h3,h4,h5⟩;exact⟨h1,h2,by omega,by omega,h5⟩
   ·intro i hi;by_cases q:i+1<a
    ·exact h i q
    ·have e1:i=a - 1:=by omega
     have e2:i+1=a:=by omega
     rw[e2,e1];exact e
  ·rw[decide_eq_false e,if_neg (by simp)];refine⟨g.lt h0 (a - 1),g.lt h0 a,?_⟩;show sp n (cK K) (if decide (kk K p (a - 1)<kk K p a)=true then .ret (p,a,0) else _) _;have ne:=QuO (K:=K) inj g (i:=a - 1) (j:=a) (by omega) (by omega) (by omega);rw[decide_eq_true (by omega),if_pos rfl];exact⟨rfl,rfl,Qg _,QfJ _ _,h⟩
def Run(K:Nat->Int)(n:Nat)(r:Nat×Array Nat):Prop:=Good n r.2/\1<=r.1/\r.1<=n/\Adj K r.2 r.1
theorem QoQ{p:Array Nat}(g:Good n p){m:Nat}(h1:1<=m)(hm:m<=n)(d:Dsc K p m):sp n (cK K) (kas_tail3 m n p) (Run K n):=by
 refine Qdp ?_
 have hs:=g.size;have g':=Qo5 g 0 m;refine QaX ?_ (Ql2 g' (by omega) (n - m) m h1 (Qtl (by omega) d))
 rintro k ⟨a,b,c,_⟩;exact⟨g',by omega,by omega,c⟩
theorem Qip(inj:∀i j,i<n->j<n->K i=K j->i=j){p:Array Nat}(g:Good n p){m:Nat}(hm:m+1<=n)(d:Dsc K p (m+1)):sp n (cK K) (kas_descPart m n p) (Run K n):=by
 refine Qdp ?_
 refine QaX ?_ (Ql1 inj g (by omega) (n - (m+1)) (m+1) (by omega) (by omega) d)
 rintro⟨p',k,q⟩ ⟨e1,e2,h3,h4,h5⟩;have e1:p'=p:=e1;have e2:q=0:=e2;subst e1 e2;show sp n (cK K) (if 0 > 0 then _ else kas_tail3 k n p') _;rw[if_neg (by omega)];have h3:m+1<=k:=h3;have h4:k<=m+1+(n - (m+1)):=h4;exact QoQ g (by omega) (by omega) h5
theorem QoR(inj:∀i j,i<n->j<n->K i=K j->i=j){p:Array Nat}(g:Good n p)(h0:0<n):sp n (cK K) (kas_count n p) (Run K n):=by
 refine Qdp ?_
 refine QaX ?_ (Ql2 g h0 (n - 1) 1 (Qg _) (λi hi=>by omega))
 rintro m ⟨h1,h2,h3,h4⟩;show sp n (cK K) (if(m == n)=true then .ret (m,p) else if m > 1 then _ else kas_descPart m n p) _;by_cases e:m=n
 ·rw[if_pos (beq_iff_eq.mpr e)];exact⟨g,h1,by omega,h3⟩
 ·rw[if_neg (λq=>e (beq_iff_eq.mp q))];by_cases e2:m > 1
  ·rw[if_pos e2];refine⟨g.lt h0 0,g.lt h0 (m - 1),?_⟩;show sp n (cK K) (if decide (kk K p 0<kk K p (m - 1))=true then .ret (m,p) else _) _;have le:=h3.le (i:=0) (j:=m - 1) (by omega) (by omega);have ne:=QuO (K:=K) inj g (i:=0) (j:=m - 1) (by omega) (by omega) (by omega);rw[decide_eq_true (by omega),if_pos rfl];exact⟨g,h1,by omega,h3⟩
  ·rw[if_neg e2];have em:m=1:=by omega
   subst em;refine Qip inj g (by omega) λi hi=>?_
   have ei:i=0:=by omega
   subst ei;rcases h4 with q | q
   ·omega
   ·exact q
theorem QfV{p:Array Nat}(g:Good n p)(h0:0<n){k:Nat}(A:Adj K p k):∀(f l r:Nat),l<=r->r<=k->r - l<=f->(∀i,i<l->kk K p i<=kk K p k)->(∀i,r<=i->i<k->kk K p k<kk K p i) ->
  sp n (cK K) (kas_place p k f l r) (λm=>m<=k/\(∀i,i<m->kk K p i<=kk K p k)/\∀i,m<=i->i<k->kk K p k<kk K p i)
 |0,l,r,h1,h2,h3,a,b=>⟨by omega,a,λi hi hk=>b i (by omega) hk⟩
 |f+1,l,r,h1,h2,h3,a,b=>by
  show sp n (cK K) (if l≥r then .ret l else _) _;by_cases e:l≥r
  ·rw[if_pos e];exact⟨by omega,a,λi hi hk=>b i (by omega) hk⟩
  ·rw[if_neg e];refine⟨g.lt h0 k,g.lt h0 ((l+r) / 2),?_⟩;show sp n (cK K) (if decide (kk K p k<kk K p ((l+r) / 2))=true then kas_place p k f l ((l+r) / 2) else kas_place p k f ((l+r) / 2+1) r) _;by_cases q:kk K p k<kk K p ((l+r) / 2)
   ·rw[decide_eq_true q,if_pos rfl];refine QfV g h0 A f l ((l+r) / 2) (by omega) (by omega) (by omega) a λi hi hk=>?_
    exact Int.lt_of_lt_of_le q (A.le hi hk)
   ·rw[decide_eq_false q,if_neg (by simp)];refine QfV g h0 A f ((l+r) / 2+1) r (by omega) h2 (by omega) (λi hi=>?_) b;exact QlF (A.le (i:=i) (j:=(l+r) / 2) (by omega) (by omega)) (Int.not_lt.mp q)
theorem QrQ(h0:0<n):∀(f k:Nat){p:Array Nat},Good n p->k+f<=n->Adj K p k->sp n (cK K) (kas_bin f p k) (λp'=>Good n p'/\Adj K p' (k+f))
 |0,k,p,g,_,A=>⟨g,A⟩
 |f+1,k,p,g,hk,A=>by
  refine Qdp ?_
  refine QaX ?_ (QfV g h0 A k 0 k (Q7 _) (Qg _) (by omega) (λi hi=>by omega) (λi hi hk=>by omega))
  rintro l ⟨hl,lo,hi⟩;have hs:=g.size;have bb:∀j,at_ (bubble p k (k - l)) j=if j=l then at_ p k else if l<j/\j<=k then at_ p (j - 1) else at_ p j:=by
   intro j;have:=getElem?_bubble (xs:=p) (src:=k) (by omega) (k - l) (by omega) j
   have e:k - (k - l)=l:=by omega
   rw[e] at this;split
   ·rename_i q;rw[if_pos q] at this;exact Qrn this
   ·rename_i q
    rw[if_neg q] at this;split
    ·rename_i q2;rw[if_pos q2] at this;exact Qrn this
    ·rename_i q2;rw[if_neg q2] at this;exact Qrn this
  refine QaX ?_ (QrQ h0 f (k+1) (p:=bubble p k (k - l)) ⟨(QgP.mp (bubble_perm p k (k - l))).trans g.perm⟩ (by omega) ?_)
  ·rintro p' ⟨a,b⟩;exact⟨a,by rw[show k+(f+1)=k+1+f by omega];exact b⟩
  ·intro i hik;unfold kk;rw[bb,bb];by_cases c1:i+1<l
   ·rw[if_neg (by omega),if_neg (by omega),if_neg (by omega),if_neg (by omega)];exact A i (by omega)
   ·by_cases c2:i+1=l
    ·rw[if_neg (by omega),if_neg (by omega),if_pos c2];exact lo i (by omega)
    ·by_cases c3:i=l
     ·rw[if_pos c3,if_neg (by omega),if_pos ⟨by omega,by omega⟩];exact QlG (hi (i+1 - 1) (by omega) (by omega))
     ·rw[if_neg c3,if_pos ⟨by omega,by omega⟩,if_neg (by omega),if_pos ⟨by omega,by omega⟩];have:=A (i - 1) (by omega);rw[show i - 1+1=i+1 - 1 by omega] at this;exact this
theorem Qta(inj:∀i j,i<n->j<n->K i=K j->i=j)(h0:0<n):sp n (cK K) (kas_sort n) (λp=>Good n p/\Adj K p n):=by
 have g:Good n (ZX (Qf n)):=⟨Zy _⟩;refine Qdp ?_
 refine QaX ?_ (QoR inj g h0)
 rintro⟨m,p⟩ ⟨g',h1,h2,A⟩;show sp n (cK K) (if m<n then kas_bin (n - max m 1) p (max m 1) else .ret p) _;have e:max m 1=m:=by have:1<=m:=h1;omega
 rw[e];by_cases q:m<n
 ·rw[if_pos q];refine QaX ?_ (QrQ h0 (n - m) m g' (by omega) A)
  rintro p' ⟨a,b⟩;exact⟨a,by rw[show m+(n - m)=n by omega] at b;exact b⟩
 ·rw[if_neg q];have h2:m<=n:=h2;have e2:m=n:=by omega
  subst e2;exact⟨g',A⟩
end
end Rs
namespace Rs
open PySem.W PySem.Calls
section
variable{prog:Qy}{w:Jc}{A:Jb}{E:Value->Shared->Prop}{s:Shared}
def Kept(a:Addr)(h h':Heap):Prop:=∀b x,b≠a->h.get? b=some x->h'.get? b=some x
theorem QfQ{h:Heap}{a:Addr}(f:Obj->Obj):Kept a h (h.update a f):=λb x hb e=>(Heap.get?_update_ne _ _ _ _ hb).trans e
theorem Qhe{h:Heap}{a:Addr}(o:Obj):Kept a h (h.push o):=λb x _ e=>Qc _ e
theorem Kept.trans{a:Addr}{h h1 h2:Heap}(k:Kept a h h1)(k':Kept a h1 h2):Kept a h h2:=λb x hb e=>k' b x hb (k b x hb e)
theorem Qmc(vs:List Value):(Qf vs.length).map (λi=>vs.getD i Jo)=vs:=by
 apply J7
 intro i;rw[Qo];by_cases h:i<vs.length
 ·rw[Ja h,Qe h];show some (vs.getD i Jo)=_;rw[Qi,Qe h];rfl
 ·rw[QN (by simpa using h),QN (by omega)];rfl
theorem Qe3{a:Addr}{vs:List Value}{n:Nat}{P:PySem.Fin->Shared->Prop}(ho:s.heap.get? a=some (seqObj "list" vs.toArray n))(h64:vs.length<64)(K:Nat->Int)(κ:Qch)
  (inj:∀i j,i<vs.length->j<vs.length->K i=K j->i=j)
  (hkind:2<=vs.length->∀h':Heap,Kept a s.heap h'->∀(Q':Qch->Shared->Prop)(E':Value->Shared->Prop),Q' κ { s with heap:=h' }->wpAny (model prog w) A (keyKind' vs.toArray) Q' E' { s with heap:=h' })
  (hcmp:∀h':Heap,Kept a s.heap h'->∀(i j:Nat)(C:Bool->Shared->Prop),i<vs.length->j<vs.length->C (decide (K i<K j)) { s with heap:=h' }->wpAny (model prog w) A (keyLt' κ (vs.getD i Jo) (vs.getD j Jo)) C (λ_ _=>False) { s with heap:=h' })
  (h:∀p:Array Nat,Good vs.length p->Adj K p vs.length->∀(h':Heap)(e:Nat),Kept a s.heap h'->h'.get? a=some (seqObj "list" (ZX (p.toList.map λi=>vs.getD i Jo)) e)->P (.done (.ret .none)) { s with heap:=h' }) :
  wpAny (model prog w) A (Yw.«list.sort» ⟨[.ref a],[]⟩) P E s:=by
 have ha:a<s.heap.objs.size:=Qk ho;obtain⟨e1,ho1⟩:∃e1,(s.heap.update a (ZZ λ_=>(#[]:Array Value))).get? a=some (seqObj "list" #[] e1):=⟨_,get?_update_seq ho λ_=>#[]⟩
 have K3:Kept a s.heap (((s.heap.update a (ZZ λ_=>(#[]:Array Value))).push (seqObj "tuple" vs.toArray 0)).push (seqObj "list" #[] 0)):=(QfQ _).trans ((Qhe _).trans (Qhe _));have ho6:(((s.heap.update a (ZZ λ_=>(#[]:Array Value))).push (seqObj "tuple" vs.toArray 0)).push (seqObj "list" #[] 0)).get? a=some (seqObj "list" #[] e1):=Qc _ (Qc _ ho1);rw[list_sort_plain];refine wpAny_bind (listItems_at ho rfl ?_);refine wpAny_bind (Qot ho rfl ?_ (by rw[Qj,ZI];omega) (Q7 _));refine wpAny_bind (QvJ ho1 rfl ?_);refine wpAny_bind (wpAny_newTuple ?_ (by show vs.length<=_;rw[ZI];omega));refine wpAny_bind (Qoq ?_ (Q7 _));refine J3 ?_
 show wpAny (model prog w) A _ P E { s with heap:=((s.heap.update a (ZZ λ_=>(#[]:Array Value))).push (seqObj "tuple" vs.toArray 0)).push (seqObj "list" #[] 0) }
 dsimp only
 generalize (((s.heap.update a (ZZ λ_=>(#[]:Array Value))).push (seqObj "tuple" vs.toArray 0)).push (seqObj "list" #[] 0))=h3 at K3 ho6 ⊢;have fin:∀p:Array Nat,Good vs.length p->Adj K p vs.length->∀st':SortSt,(arrOf st').map (·.2)=ZX (p.toList.map λi=>vs.getD i Jo)->failedOf st'=none ->
   ∃e2,(h3.update a (ZZ λ_=>ZX (p.toList.map λi=>vs.getD i Jo))).get? a=some (seqObj "list" (ZX (p.toList.map λi=>vs.getD i Jo)) e2):=λp _ _ _ _ _=>⟨_,get?_update_seq ho6 λ_=>_⟩
 by_cases h2:vs.toArray.size<2
 ·rw[if_pos h2,if_pos h2];refine wpAny_bind (Qd ?_);rw[StateT.run_pure];refine wpAny_bind (Qd ?_)
  dsimp only
  have gg:Good vs.length (ZX (Qf vs.length)):=⟨Zy _⟩;have aa:Adj K (ZX (Qf vs.length)) vs.length:=λi hi=>by rw[Qj] at h2;omega
  have out:(arrOf (SortSt.mk' general' (vs.toArray.zip vs.toArray) #[] 7 none)).map (·.2)=ZX ((ZX (Qf vs.length)).toList.map λi=>vs.getD i Jo):=by
   show(vs.toArray.zip vs.toArray).map (·.2)=_;rw[Z2,Qmc];apply Array.toList_inj.mp
   rw[Array.toList_map,Array.toList_zip];show(vs.zip vs).map (·.2)=vs;exact List.map_snd_zip (Qg _)
  obtain⟨e2,he2⟩:=fin _ gg aa _ out rfl;rw[out];refine wpAny_bind (QvJ ho6 rfl ?_);refine wpAny_bind (Qot ho6 rfl ?_ (Q7 _) (by rw[Qj,Qa,Z2,Qr,ZI];omega));simp only[bne_self_eq_false,ZK,if_false];exact Qd (h _ gg aa _ e2 (K3.trans (QfQ _)) he2)
 ·rw[if_neg h2,if_neg h2];have h2':2<=vs.length:=by rw[Qj] at h2;omega
  refine wpAny_bind (hkind h2' h3 K3 _ _ ?_);refine wpAny_bind (wpAny_mono (kat_run (Q:=λst' s'=>∃p:Array Nat,Good vs.length p/\Adj K p vs.length/\arrOf st'=p.map (kas_item (vs.toArray.zip vs.toArray))/\failedOf st'=none/\s'={ s with heap:=h3 })
   (G:=λp s'=>Good vs.length p/\Adj K p vs.length/\s'={ s with heap:=h3 }) rfl h2' h64 (λp' st' s' a1 a2 a3 a4=>⟨p',a4.1,a4.2.1,a2,a3,a4.2.2⟩)
   (Qje (c:=cK K) (λi j C hi hj hC=>hcmp h3 K3 i j C hi hj hC) (QaX (λp q=>⟨q.1,q.2,rfl⟩) (Qta inj (by omega))))) ?_ λ_ _ e=>e)
  rintro⟨⟨⟩,st'⟩ s' ⟨p,gg,aa,har,hf,rfl⟩
  dsimp only
  have out:=kat_snds (ks:=vs) rfl har;obtain⟨e2,he2⟩:=fin p gg aa st' out hf;rw[out];refine wpAny_bind (QvJ ho6 rfl ?_);refine wpAny_bind (Qot ho6 rfl ?_ (Q7 _) (by rw[Qj,Qa,Ql,gg.size,ZI];omega));rw[hf];simp only[bne_self_eq_false,ZK,if_false];exact Qd (h p gg aa _ e2 (K3.trans (QfQ _)) he2)
theorem QdG{Q:Value->Shared->Prop}{l:Addr}{T:String}{o:Obj}{vs:List Value}{n:Nat}(hT:T = "list" ∨ T = "tuple")(ho:s.heap.get? l=some o)(hc:o.cls=.type T)(hd:o.data=.seq vs.toArray n)(h64:vs.length<64)
  (h:∀h':Heap,(∀b x,s.heap.get? b=some x->h'.get? b=some x)->∀(P:PySem.Fin->Shared->Prop)(E':Value->Shared->Prop),(∀s2,Q (.ref h'.objs.size) s2->P (.done (.ret .none)) s2) ->
   wpAny (model prog w) A.in1.in1 (Yw.«list.sort» ⟨[.ref h'.objs.size],[]⟩) P E' { s with heap:=h'.push (seqObj "list" vs.toArray 0) }) :
  wpAny (model prog w) A (call (.builtin "sorted") [.ref l]) Q E s:=by
 refine Qg2 kind_sorted plain_sorted entry_sorted (args_sorted1 _) ?_
 unfold Yw.«sorted»;refine wpAny_bind (m:=checkCount "sorted" 1 1 _) (Qd ?_);refine wpAny_bind (wpAny_collect_seq (items:=vs.toArray) l hT ho hc hd (λh' kp=>?_) (by rw[Qj,ZI];omega));refine wpAny_bind (Qoq ?_ (by rw[Z2,ZI];omega));have hoL:(h'.push (seqObj "list" vs.toArray 0)).get? h'.objs.size=some (seqObj "list" vs.toArray 0):=Qm _ rfl;show wpAny _ _ _ _ _ { s with heap:=h'.push (seqObj "list" vs.toArray 0) };refine wpAny_bind (J3 (Jy slot_list_sort ⟨_,hoL,rfl⟩ entry_list_sort ?body (args_list_sort _)));exact h h' kp _ _ λs2 hq=>⟨_,rfl,Qd ⟨_,rfl,hq⟩⟩
end
structure PairV (h:Heap) (v:Value) (ij:Int×Int):Prop where
 it:∃(a:Addr)(o:Obj)(n:Nat)(t u:Tok),v=.ref a/\h.get? a=some o/\o.cls=.type "tuple" /\ o.data=.seq #[.int ij.1 t,.int ij.2 u] n
theorem PairV.keep{h h':Heap}{v:Value}{ij:Int×Int}(q:PairV h v ij)(k:∀b x,h.get? b=some x->h'.get? b=some x):PairV h' v ij:=by
 obtain⟨a,o,n,t,u,e,g,c,d⟩:=q.it;exact⟨a,o,n,t,u,e,k _ _ g,c,d⟩
inductive PairsV (h:Heap):List Value->List (Int×Int)->Prop
 |nil:PairsV h [] []
 |cons {v:Value} {vs:List Value} {ij:Int×Int} {L:List (Int×Int)}:PairV h v ij->PairsV h vs L->PairsV h (v::vs) (ij::L)
theorem PairsV.keep{h h':Heap}(k:∀b x,h.get? b=some x->h'.get? b=some x):∀{vs:List Value}{L:List (Int×Int)},PairsV h vs L->PairsV h' vs L
 |_,_,.nil=>.nil
 |_,_,.cons q r=>.cons (q.keep k) (r.keep k)
theorem PairsV.len{h:Heap}:∀{vs:List Value}{L:List (Int×Int)},PairsV h vs L->vs.length=L.length
 |_,_,.nil=>rfl
 |_,_,.cons _ r=>by rw[QC,QC,r.len]
theorem PairsV.at_{h:Heap}:∀{vs:List Value}{L:List (Int×Int)},PairsV h vs L->∀i,i<vs.length->PairV h (vs.getD i Jo) (L.getD i (0,0))
 |_,_,.nil,i,hi=>by simp at hi
 |_,_,.cons q r,0,hi=>q
 |_,_,.cons q r,i+1,hi=>by
  have:=r.at_ i (by simpa using hi)
  simpa using this
theorem PairsV.firsts{h:Heap}:∀{vs:List Value}{L:List (Int×Int)},PairsV h vs L->∃fs,KatTups h vs fs/\fs.length=vs.length/\∀v∈fs,∃i t,v=Qbc i t
 |_,_,.nil=>⟨[],.nil,rfl,λv hv=>nomatch hv⟩
 |_,_,.cons q r=>by
  obtain⟨fs,k,l,f⟩:=r.firsts;obtain⟨a,o,n,t,u,e,g,c,d⟩:=q.it;subst e;refine⟨_::fs,KatTups.cons g c d rfl k,by rw[QC,QC,l],λv hv=>?_⟩;rcases Qu.mp hv with z | z
  ·exact⟨_,_,z⟩
  ·exact f v z
def code(ij:Int×Int):Int:=64*ij.1+ij.2
section
variable{prog:Qy}{w:Jc}{A:Jb}{E:Value->Shared->Prop}{s:Shared}
theorem Qva{a b:Int×Int}(ha:0<=a.2/\a.2<64)(hb:0<=b.2/\b.2<64):decide (code a<code b)=if a.1=b.1 then(if a.2=b.2 then false else decide (a.2<b.2)) else decide (a.1<b.1):=by
 unfold code;split
 ·split
  ·exact decide_eq_false (by omega)
  ·by_cases q:a.2<b.2
   ·rw[decide_eq_true q];exact decide_eq_true (by omega)
   ·rw[decide_eq_false q];exact decide_eq_false (by omega)
 ·by_cases q:a.1<b.1
  ·rw[decide_eq_true q];exact decide_eq_true (by omega)
  ·rw[decide_eq_false q];exact decide_eq_false (by omega)
theorem Qua{v v':Value}{a b:Int×Int}{C:Bool->Shared->Prop}(pa:PairV s.heap v a)(pb:PairV s.heap v' b)(ha:0<=a.2/\a.2<64)(hb:0<=b.2/\b.2<64)(h:C (decide (code a<code b)) s) :
  wpAny (model prog w) A (keyLt' (tuples' true) v v') C E s:=by
 obtain⟨x,ox,n,t,u,rfl,gx,cx,dx⟩:=pa.it;obtain⟨y,oy,m,t',u',rfl,gy,cy,dy⟩:=pb.it;rw[Qva ha hb] at h;refine kat_lt gx dx gy dy ?_
 show KatLex prog w A true false C [(.int a.1 t,.int b.1 t'),(.int a.2 u,.int b.2 u')] 0 s;refine kat_cons (Qib ?_);by_cases e:a.1=b.1
 ·rw[if_pos e] at h;rw[show(a.1 == b.1)=true from beq_iff_eq.mpr e];refine kat_yes (kat_cons (Qib ?_));by_cases e2:a.2=b.2
  ·rw[if_pos e2] at h;rw[show(a.2 == b.2)=true from beq_iff_eq.mpr e2];exact kat_yes (kat_nil h)
  ·rw[if_neg e2] at h;rw[show(a.2 == b.2)=false from beq_eq_false_iff_ne.mpr e2];exact kat_no (kat_one _ _ (lt_int h))
 ·rw[if_neg e] at h;rw[show(a.1 == b.1)=false from beq_eq_false_iff_ne.mpr e];exact kat_no (oneLt_int h)
theorem QmH{vs:List Value}{L:List (Int×Int)}{Q:Qch->Shared->Prop}(r:PairsV s.heap vs L)(h2:2<=vs.length)(h:Q (tuples' true) s):wpAny (model prog w) A (keyKind' vs.toArray) Q E s:=by
 obtain⟨fs,k,l,f⟩:=r.firsts;refine kat_kind (T:=.type "int") k (by omega) (λv hv=>?_) (by decide +kernel) ?_
 ·obtain⟨i,t,rfl⟩:=f v hv;exact Looks.of_pure rfl
 ·rw[show(YO "int" != YO "tuple")=true by decide +kernel];exact h
theorem Qca{a:Addr}{vs:List Value}{L:List (Int×Int)}{n:Nat}{P:PySem.Fin->Shared->Prop}(ho:s.heap.get? a=some (seqObj "list" vs.toArray n))(h64:vs.length<64)(r:∀h',Kept a s.heap h'->PairsV h' vs L)(nd:L.Nodup)(hb:∀ij∈L,0<=ij.2/\ij.2<64)
  (h:∀p:Array Nat,Good vs.length p->Adj (λi=>code (L.getD i (0,0))) p vs.length->∀(h':Heap)(e:Nat),Kept a s.heap h'->h'.get? a=some (seqObj "list" (ZX (p.toList.map λi=>vs.getD i Jo)) e)->P (.done (.ret .none)) { s with heap:=h' }) :
  wpAny (model prog w) A (Yw.«list.sort» ⟨[.ref a],[]⟩) P E s:=by
 have hl:vs.length=L.length:=(r s.heap (λb x _ e=>e)).len;have hb':∀i,i<vs.length->0<=(L.getD i (0,0)).2/\(L.getD i (0,0)).2<64:=λi hi=>by
  rw[Qi,Qe (by omega)];exact hb _ (Yh _)
 refine Qe3 ho h64 (λi=>code (L.getD i (0,0))) (tuples' true) (λi j hi hj e=>?_) (λh2 h' k Q' E' q=>QmH (s:={ s with heap:=h' }) (r h' k) h2 q) (λh' k i j C hi hj q=>Qua (s:={ s with heap:=h' }) ((r h' k).at_ i hi) ((r h' k).at_ j hj) (hb' i hi) (hb' j hj) q) h;have bi:=hb' i hi;have bj:=hb' j hj;have e:code (L.getD i (0,0))=code (L.getD j (0,0)):=e;unfold code at e;have e':L.getD i (0,0)=L.getD j (0,0):=QcW (by omega) (by omega);rw[Qi,Qi,Qe (by omega),Qe (by omega)] at e';have pw:=Jt.mp nd;rcases ZC i j with q | q | q
 ·exact absurd e' (pw i j (by omega) (by omega) q)
 ·exact q
 ·exact absurd e'.symm (pw j i (by omega) (by omega) q)
end
theorem Qhz{α:Type}{L:List α}{d:α}{p:Array Nat}(g:Good L.length p):(p.toList.map λi=>L.getD i d).Perm L:=by
 have e:(Qf L.length).map (λi=>L.getD i d)=L:=by
  apply J7
  intro i;rw[Qo];by_cases h:i<L.length
  ·rw[Ja h,Qe h];show some (L.getD i d)=_;rw[Qi,Qe h];rfl
  ·rw[QN (by simpa using h),QN (by omega)];rfl
 have:=g.perm.map λi=>L.getD i d
 rwa [e] at this
theorem Qhy{L:List (Int×Int)}{p:Array Nat}(g:Good L.length p)(ad:Adj (λi=>code (L.getD i (0,0))) p L.length)(inj:∀i j,i<L.length->j<L.length->code (L.getD i (0,0))=code (L.getD j (0,0))->i=j) :
  (p.toList.map λi=>L.getD i (0,0)).Pairwise λa b=>code a<code b:=by
 rw[Jt];intro i j hi hj hij;rw[Qa,Ql] at hi hj;have hs:=g.size;rw[QsR,QsR,JI,JI];have ei:p[i]=at_ p i:=by have:=QhX (p:=p) (i:=i) (by omega);rw[JX (by omega)] at this;exact Qx this
 have ej:p[j]=at_ p j:=by have:=QhX (p:=p) (i:=j) (by omega);rw[JX (by omega)] at this;exact Qx this
 rw[ei,ej];have le:=ad.le (i:=i) (j:=j) (by omega) (by omega);have ne:=QuO (K:=λi=>code (L.getD i (0,0))) inj g (i:=i) (j:=j) (by omega) (by omega) (by omega);have le:code (L.getD (at_ p i) (0,0))<=code (L.getD (at_ p j) (0,0)):=le;have ne:code (L.getD (at_ p i) (0,0))≠code (L.getD (at_ p j) (0,0)):=ne;omega
end Rs
namespace L2
open _root_.Rd _root_.Rk _root_.Rs
theorem boot_sorted:bootBuiltins "sorted" = some (.builtin "sorted"):=by decide +kernel
section
variable{X:Cx}
theorem Qep{P:Qy}{w:Jc}{H:Hp}{h:Heap}(ok:HOk P w H h):∀{xs:List V}{L:List (Int×Int)}{vs:List Value},Dats H xs (L.map Rk.pairD)->Vals xs vs->PairsV h vs L
 |_,[],vs,.nil,r=>by cases r;exact .nil
 |_,ij::L,vs,.cons (x:=x) (xs:=xs) q qs,r=>by
  cases r with
  |cons r rs=>
   refine .cons ?_ (Qep ok qs rs)
   cases q with
   |@tup a ys ds e q2=>
    cases r;obtain⟨_,its,rv,o,ho,hc,_,n,hd⟩:=ok a _ e;cases q2 with
    |cons q3 q4=>
     cases q4 with
     |cons q5 q6=>
      cases q6;cases q3;cases q5;cases rv with
      |cons r1 r2=>
       cases r2 with
       |cons r3 r4=>
        cases r4;obtain⟨t,rfl⟩:=r1;obtain⟨u,rfl⟩:=r3;exact⟨_,o,n,t,u,rfl,ho,hc,hd⟩
theorem QiS{H:Hp}:∀{xs:List V}{L:List (Int×Int)},Dats H xs (L.map Rk.pairD)->∀i,i<xs.length->Dat H (xs.getD i .non) (Rk.pairD (L.getD i (0,0)))
 |_,[],.nil,i,hi=>by simp at hi
 |_,ij::L,.cons q qs,0,hi=>q
 |_,ij::L,.cons q qs,i+1,hi=>by
  have:=QiS (L:=L) qs i (by simpa using hi)
  simpa using this
theorem Qik:∀{xs:List V}{vs:List Value},Vals xs vs->∀i,i<xs.length->RelV (xs.getD i .non) (vs.getD i Jo)
 |_,_,.nil,i,hi=>by simp at hi
 |_,_,.cons q qs,0,hi=>q
 |_,_,.cons q qs,i+1,hi=>by
  have:=Qik qs i (by simpa using hi)
  simpa using this
theorem Qgq{H:Hp}{f:Nat->V}{g:Nat->Int×Int}:∀{is:List Nat},(∀i∈is,Dat H (f i) (Rk.pairD (g i)))->Dats H (is.map f) ((is.map g).map Rk.pairD)
 |[],_=>.nil
 |i::is,h=>.cons (h i (.head _)) (Qgq λj hj=>h j (.tail _ hj))
theorem QfO{f:Nat->V}{g:Nat->Value}:∀{is:List Nat},(∀i∈is,RelV (f i) (g i))->Vals (is.map f) (is.map g)
 |[],_=>.nil
 |i::is,h=>.cons (h i (.head _)) (QfO λj hj=>h j (.tail _ hj))
def Qmd:List V->Hp->VK->Prop:=λxs H Q=>∃(l:Addr)(vs:List V)(L:List (Int×Int)),xs=[.ref l]/\H l=some (.lst vs)/\Dats H vs (L.map Rk.pairD)/\L.Nodup/\L.length<64/\(∀ij∈L,0<=ij.2/\ij.2<64) /\
 ∀(t:Addr)(ys:List V)(M:List (Int×Int))(H2:Hp),Same H H2->H t=none->H2 t=some (.lst ys)->Dats H2 ys (M.map Rk.pairD)->M.Perm L->M.Pairwise (λa b=>Rs.code a<Rs.code b)->Q (.ref t) H2
theorem QfB:CallR X (.builtin "sorted") Qmd:=by
 intro pins s σ H xs us Q I r h;obtain⟨l,vs,L,rfl,hl,ds,nd,h64,hb,q⟩:=h;obtain⟨u,rfl,ru⟩:=vals1 r;cases ru;obtain⟨hz,its,n,rv,ho⟩:=I.hok l _ hl;have pv:=Qep I.hok ds rv;have lv:=ds.length;rw[Qa] at lv;have li:=rv.length;have lp:=pv.len;refine QdG (.inl rfl) ho rfl rfl (by omega) λh' kp P E' hP=>?_
 refine Qca (s:={ s with heap:=h'.push (seqObj "list" its.toArray 0) }) (vs:=its) (L:=L) (Qm _ rfl) (by omega) (λh2 k2=>?_) nd hb λp g ad h2 e k2 e2=>hP _ ?_
 ·exact(pv.keep kp).keep λb x e=>k2 b x (Qv (Qk e)) (Qc _ e)
 ·have I1:Inv X pins σ H { s with heap:=h' }:=I.kept (t':=s.toks) kp;have hf:H h'.objs.size=none:=I1.hok.fresh (Qg _);have hp:∀i∈p.toList,i<vs.length:=λi hi=>by have:=Qz.mp (g.perm.mem_iff.mp hi);omega
  have I2:Inv X pins σ (upd H h'.objs.size (.lst (p.toList.map λi=>vs.getD i .non))) { s with heap:=h2 }:=
   I1.laid (t':=s.toks) (λb x e'=>k2 b x (Qv (Qk e')) (Qc _ e')) (Qg _) (show ObjOk X.prog X.w _ _ _ (.lst _) from⟨by rw[Qa,Ql,g.size];exact ZJ (Rk.QaG (by omega)),_,e,QfO λi hi=>Qik rv i (hp i hi),e2⟩)
  have g':Good L.length p:=by rw[<- lp];exact g
  have ad':Adj (λi=>Rs.code (L.getD i (0,0))) p L.length:=by rw[<- lp];exact ad
  refine⟨.ref h'.objs.size,_,I2,rfl,q _ _ (p.toList.map λi=>L.getD i (0,0)) _ (Jn hf) hf Jg (Qgq λi hi=>(QiS ds i (hp i hi)).same (Jn hf)) (Qhz g') (Qhy g' ad' λi j hi hj e=>?_)⟩;have bi:0<=(L.getD i (0,0)).2/\(L.getD i (0,0)).2<64:=by rw[Qi,Qe hi];exact hb _ (Yh _)
  have bj:0<=(L.getD j (0,0)).2/\(L.getD j (0,0)).2<64:=by rw[Qi,Qe hj];exact hb _ (Yh _)
  unfold Rs.code at e;have e':L.getD i (0,0)=L.getD j (0,0):=QcW (by omega) (by omega);rw[Qi,Qi,Qe hi,Qe hj] at e';have pw:=Jt.mp nd;rcases ZC i j with z | z | z
  ·exact absurd e' (pw i j hi hj z)
  ·exact z
  ·exact absurd e'.symm (pw j i hj hi z)
theorem QjV:∀{ns:List Int}{vs:List Value},Vals (ns.map V.int) vs->Qbp vs ns
 |[],_,.nil=>.nil
 |i::ns,_,.cons ⟨t,e⟩ r=>by subst e;exact .cons _ _ (QjV r)
theorem Qkc:∀{ns:List Int}{vs:List Value},Qbp vs ns->Vals (ns.map V.int) vs
 |_,_,.nil=>.nil
 |_,_,.cons n t r=>.cons ⟨t,rfl⟩ (Qkc r)
def QrY(K:PySem.W.Frag):List V->Hp->VK->Prop:=λxs H Q=>∃l ns,xs=[.ref l]/\SqT K H l ((ns:List Int).map V.int)/\ns.length<64 /\
 ∀t ms H2,Same H H2->H t=none->H2 t=some (.lst ((ms:List Int).map V.int))->ms.Perm ns->ms.Pairwise (·<=·)->Q (.ref t) H2
theorem Qla:CallR X (.builtin "sorted") (QrY X.K):=by
 intro pins s σ H xs us Q I r h;obtain⟨l,ns,rfl,hl,h64,q⟩:=h;obtain⟨u,rfl,ru⟩:=vals1 r;cases ru;obtain⟨its,rv,tp,hz⟩:=I.tuple hl;obtain⟨o,ho,hc,n,hd⟩:=tp;have li:=rv.length;rw[Qa] at li;refine QdG (.inr rfl) ho hc hd (by omega) λh' kp P E' hP=>?_
 have hn:(h'.push (seqObj "list" its.toArray 0)).get? h'.objs.size=some (seqObj "list" its.toArray 0):=Qm _ rfl;refine list_sort_tree (s:={ s with heap:=h'.push (seqObj "list" its.toArray 0) }) hn (QjV rv) (by omega) λout ns' ia pm pw=>hP _ ?_
 have I1:Inv X pins σ H { s with heap:=h' }:=I.kept (t':=s.toks) kp;have hf:H h'.objs.size=none:=I1.hok.fresh (Qg _);obtain⟨e,he⟩:∃e,(sortedHeap (h'.push (seqObj "list" its.toArray 0)) h'.objs.size its out).get? h'.objs.size=some (seqObj "list" out e):=sortedHeap_at hn
 have rv':=Qkc ia;have lp:=pm.length_eq;have I2:Inv X pins σ (upd H h'.objs.size (.lst (ns'.map V.int))) { s with heap:=sortedHeap (h'.push (seqObj "list" its.toArray 0)) h'.objs.size its out }:=
  I1.laid (t':=s.toks) (λb x e'=>(sortedHeap_old (Qv (Qk e')) (QK (Qk e') (by rw[size_push'];exact QgW _))).trans (Qc _ e')) (Qg _) (show ObjOk X.prog X.w _ _ _ (.lst _) from⟨by rw[Qa];exact ZJ (Rk.QaG (by omega)),out.toList,e,rv',by rw[he]⟩)
 exact⟨.ref h'.objs.size,_,I2,rfl,q _ ns' _ (Jn hf) hf Jg pm pw⟩
end
end L2
namespace Re
open AutoSeq1 (wpAny_loadPart')
theorem Qsw{prog:Qy}{w:Jc}{A:Jb}{it t:Addr}{items:Array Value}(hh:A.handled=none)(hti:t≠it) :
  Draws prog w A it [it,t] items.size (λi x=>items[i]? = some x) (λi h=>h.IsTupleIter it t i/\h.IsTuple t items) where
 live:=λi h st=>by
  obtain⟨⟨o,ho,_⟩,_⟩:=st;exact⟨o,ho⟩
 frame:=λi h h' st k=>by
  obtain⟨⟨o,ho,c⟩,⟨o2,h2,c2⟩⟩:=st;exact⟨⟨o,k it (by simp) _ ho,c⟩,⟨o2,k t (by simp) _ h2,c2⟩⟩
 item:=λi s Q E hi st hQ=>by
  refine Rz.Qd7 st.1 st.2 (x:=items[i]) (by simp[hi]) λh' hit' hs'=>?_
  refine hQ _ h' s.toks (by simp[hi]) ⟨hit',?_⟩ hs';obtain⟨o2,h2,c2⟩:=st.2;exact⟨o2,(hs'.2 t hti).trans h2,c2⟩
 done:=λs Q E st hE=>Rz.QiB hh st.1 st.2 (by simp) hE
theorem QkU(l:Addr)(items:Array Value)(n:Nat)(dct:Option Addr)(sl:Array (Option Value)) :
  Meets (Yw.«enumerate.__new__» ⟨[.type "enumerate",.ref l],[]⟩) (λ_ R s=>s.heap.get? l=some { cls:=.type "tuple",dict:=dct,data:=.seq items n,slots:=sl } /\
   R (.ok (.ret (.ref (s.heap.push { cls:=.type "tuple_iterator",data:=.fields #[.ref l,.int 0 0] }).objs.size)))
    { s with heap:=(s.heap.push { cls:=.type "tuple_iterator",data:=.fields #[.ref l,.int 0 0] }).push { cls:=.type "enumerate",data:=.fields #[.none,.bool false,.ref s.heap.objs.size,rawInt 0,.none,.none] } }):=
 .of_wp λprog w A R s h=>by
  obtain⟨hp,g,d,tk,os⟩:=s;obtain⟨hl,h⟩:=h;have hsub:=sub_enumerate;have hL:Qlm (Qli ⟨hp,g,d,tk,os⟩) l items:=⟨_,hl,rfl,n,rfl⟩
  wp_walk using QbR hl
  refine wpAny_stack_any λst=>Qd ?_
  split
  ·rename_i c _ _ _ _ _
   cases(c == YO "enumerate")
   ·wp_walk using QbR hl,Yp hL
    exact⟨_,rfl,h⟩
   ·wp_walk using QbR hl,Yp hL
    exact⟨_,rfl,h⟩
  ·wp_walk using QbR hl,Yp hL
   exact⟨_,rfl,h⟩
theorem Qlb{prog:Qy}{w:Jc}{A:Jb}{E:Value->Shared->Prop}{s:Shared}{l:Addr}{items:Array Value}{Q:Value->Shared->Prop}(hL:s.heap.IsTuple l items)
  (h:∀h',IsEnum h' (s.heap.objs.size+1) s.heap.objs.size 0 .none->h'.IsTupleIter s.heap.objs.size l 0->(∀b o,s.heap.get? b=some o->h'.get? b=some o)->Q (.ref (s.heap.objs.size+1)) { s with heap:=h' }) :
  wpAny (model prog w) A (call (.type "enumerate") [.ref l]) Q E s:=by
 obtain⟨⟨c,dct,dt,sl⟩,hl,hc,n,hd⟩:=hL
 replace hc:c=.type "tuple" := hc
 replace hd:dt=.seq items n:=hd
 subst hc hd;refine QsK F.called_enumerate (by decide) (F.typeCall_enumerate_1 _) (F.newCall_enumerate_1 _) (λobj=>QrF obj _) F.entry_enumerate_new (QkU l items n dct sl) ⟨hl,?_⟩;have hz:(s.heap.push { cls:=.type "tuple_iterator",data:=.fields #[.ref l,.int 0 0] }).objs.size=s.heap.objs.size+1:=JG ..;show _/\_;rw[hz];have he:=Qm (s.heap.push { cls:=.type "tuple_iterator",data:=.fields #[.ref l,.int 0 0] }) (o:={ cls:=.type "enumerate",data:=.fields #[.none,.bool false,.ref s.heap.objs.size,rawInt 0,.none,.none] }) rfl;rw[hz] at he;exact⟨⟨_,he,rfl⟩,h _ he ⟨_,Qc _ (Qm _ rfl),rfl,rfl⟩ λb o x=>Qc _ (Qc _ x)⟩
end Re
namespace L2
def Iet(l:Addr):It:=
 ⟨λi H=>∃xs x,H l=some (.tup xs)/\xs[i]? = some x,
  λi H v H'=>∃p x,H p=none/\(∀xs,H l=some (.tup xs)->xs[i]? = some x)/\v=.ref p/\H'=upd H p (.tup [.int (i:Nat),x]),
  λi H=>∃xs,H l=some (.tup xs)/\xs.length=i⟩
theorem Qkx{P:Qy}{w:Jc}{K:PySem.W.Frag}{elts:List Q0}{x1}{tpos:Pos}{e it l:Addr}(hne:e≠it) :
  Turn P w K (.Tuple elts x1 tpos) (Iet l) [e,it] e (λi h=>(∃old,IsEnum h e it (i:Nat) old)/\h.IsTupleIter it l i) where
 mem:=by simp
 obj:=λi h st b hb=>by
  obtain⟨⟨old,a1⟩,⟨o2,a2,_,d2⟩⟩:=st;simp only[Qu,QQ,or_false] at hb;rcases hb with rfl | rfl
  ·exact⟨_,a1,λv q=>nomatch q⟩
  ·exact⟨_,a2,λv q=>by rw[d2] at q;cases q⟩
 keep:=λi h h' st k=>by
  obtain⟨⟨old,a1⟩,⟨o2,a2,c2⟩⟩:=st;exact⟨⟨old,k e (by simp) _ a1⟩,o2,k it (by simp) _ a2,c2⟩
 item:=by
  intro X hP hw hK hc i pins s σ H E I hf st hg;subst hP hw hK;obtain⟨xs,x,h1,hx⟩:=hg;obtain⟨⟨old,a1⟩,a2⟩:=st;obtain⟨its,r1,p1,_⟩:=I.tuple (SqT.of h1);obtain⟨u,hu,ru⟩:=r1.get hx;have nel:e≠l:=λz=>by have q:=(hf e (by simp)).1;rw[z,h1] at q;cases q
  have nil:l≠it:=λz=>by have q:=(hf it (by simp)).1;rw[<- z,h1] at q;cases q
  have hi:i<its.toArray.size:=by
   have:=(QU.mp hu).1
   simpa using this
  refine wpAny_pyNext_enum_itemD (Re.Qsw (A:=X.A.in1) (t:=l) (I.ok.hd hc) nil) a1 ⟨a2,p1⟩ hi hne (by simp[hne,nel]) λy h' tk hy o' l' tp sz kp=>?_
  have ey:y=u:=by
   have e1:its.toArray[i]? = some u:=by simpa using hu
   rw[e1] at hy;exact(Qx hy).symm
  subst ey;obtain⟨l',tq⟩:=l';have fr:H s.heap.objs.size=none:=I.hok.fresh (Qg _);have n1:e≠s.heap.objs.size:=Qv (Qk a1);have n2:it≠s.heap.objs.size:=by
   obtain⟨o2,a2,_⟩:=a2;exact Qv (Qk a2)
  refine⟨_,rfl,Qlh o' λh2 e2 s2=>?_⟩;have I1:Inv X pins σ (upd H s.heap.objs.size (.tup [.int (i:Nat),x])) { s with heap:=h2,toks:=tk+1 }:=by
   refine I.turnedNew (ch:=[e,it]) hf (λb v hb q=>?_) (Qg _) ⟨by show 2<=sizeLine;decide,[.int (i:Nat) tk,y],.cons ⟨_,rfl⟩ (.cons ru .nil),?_⟩
   ·simp only[Qu,QQ,or_false,not_or] at hb;exact s2.extBut _ _ hb.1 (kp b v hb.1 hb.2 q)
   ·exact⟨_,s2.extBut _ _ n1.symm tp,rfl,rfl,0,rfl⟩
  refine⟨.ref s.heap.objs.size,_,I1,rfl,⟨_,x,fr,λxs' q=>?_,rfl,rfl⟩,⟨⟨y,e2⟩,?_⟩,λb hb=>?_⟩
  ·rw[h1] at q;cases q;exact hx
  ·exact l'.extBut s2.extBut hne.symm
  ·simp only[Qu,QQ,or_false] at hb;rcases hb with rfl | rfl
   ·rw[Jw n1];exact(hf _ (by simp)).1
   ·rw[Jw n2];exact(hf _ (by simp)).1
 done:=by
  intro X hP hw hK hc i pins s σ H E I hf st hg;subst hP hw hK;obtain⟨xs,h1,he⟩:=hg;obtain⟨⟨old,a1⟩,a2⟩:=st;obtain⟨its,r1,p1,_⟩:=I.tuple (SqT.of h1);have l1:=r1.length;have nel:e≠l:=λz=>by have q:=(hf e (by simp)).1;rw[z,h1] at q;cases q
  have nil:l≠it:=λz=>by have q:=(hf it (by simp)).1;rw[<- z,h1] at q;cases q
  have e0:its.toArray.size=i:=by rw[Qj];omega
  have D:=Re.Qsw (prog:=X.prog) (w:=X.w) (A:=X.A.in1) (t:=l) (items:=its.toArray) (I.ok.hd hc) nil;rw[e0] at D;refine wpAny_pyNext_enum_endD D a1 ⟨a2,p1⟩ λh' kp=>⟨rfl,I.turnedAll (t':=s.toks) (ch:=[e,it]) hf λb v hb q=>?_⟩
  simp only[Qu,QQ,or_false,not_or] at hb;exact kp b v hb.2 q
 self:=λ_ _ _ _ _ st h=>by
  obtain⟨⟨old,a1⟩,_⟩:=st;exact QcF a1 h
def Qxz(ta:TA):TI:=λσ H R=>ta σ H λvs H1=>∃l xs,vs=[.ref l]/\H1 l=some (.tup xs)/\R (Iet l) H1
section
variable{X:Cx}
theorem Qpf{a:Q0}{elts:List Q0}{x1}{tpos:Pos}{ta:TA}{p pos:Pos}(hg:Gl X "enumerate")(hm:X.mg "enumerate" = none)(ha:PA X [a] ta)(hs:starEach [a] X.env=[(false,eval a X.env)]:=by rfl) :
  PI X (.Tuple elts x1 tpos) (.Call (.Name "enumerate" p) [a] [] pos) (Qxz ta):=by
 intro pins s σ H R I h;refine Call_ (QcD I hg hm QhQ (JF (thn (ha pos pins s σ H _ I h) λus s1 ⟨vs,H1,I1,r1,q1⟩=>?_) hs rfl));obtain⟨l,xs,e,h1,q⟩:=q1;subst e;obtain⟨u,rfl,ru⟩:=vals1 r1;cases(show u=QF l from ru);obtain⟨its,w1,p1,_⟩:=I1.tuple (SqT.of h1);refine Re.Qlb p1 λh' e1 i1 kp=>?_
 refine QcF (s:={ s1 with heap:=h' }) e1 ?_
 refine⟨s1.heap.objs.size+1,_,_,_,H1,rfl,I1.kept (t':=s1.toks) kp,Qkx (by show ¬(s1.heap.objs.size+1=s1.heap.objs.size);omega),⟨⟨_,e1⟩,i1⟩,λb hb=>?_,q⟩;have hb':s1.heap.objs.size<=b:=by
  simp only[Qu,QQ,or_false] at hb;rcases hb with rfl | rfl<;>omega
 exact I1.fpOk hb' (I1.hok.fresh hb')
def Qtp:List V->Hp->VK->Prop:=λxs H Q=>∃r j,xs=[.ref r]/\H r=some (.rng 0 j) /\ -1000<=j/\j<=1000/\∀t H2,Same H H2->H t=none->H2 t=some (.lst ((Qf j.toNat).map λi=>V.int (i:Nat)))->Q (.ref t) H2
theorem QeG(hc:X.calm=true):CallR X (.type "list") Qtp:=by
 intro pins s σ H xs us Q I r h;obtain⟨a,j,rfl,ha,h1,h2,q⟩:=h;obtain⟨u,rfl,ru⟩:=vals1 r;cases(show u=QF a from ru);obtain⟨t1,t2,t3,e⟩:=I.hok a _ ha;have hn:Jp 0 j 1=((j.toNat:Nat):Int):=by rw[QcV];split<;>omega
 refine call_list_range (n:=j.toNat) (I.ok.hd hc) (show QeY s.heap a 0 j 1 t1 t2 t3 from e) (small_one (by omega) (by omega) (by omega) (by omega)) hn (QY (show j.toNat<=1000 by omega) (by decide)) λh' tk acc c' kp hS hacc=>?_
 have hz:acc.size=j.toNat:=hacc.1;have rv:=Qft hacc;have hf:H s.heap.objs.size=none:=I.hok.fresh (Qg _);refine⟨.ref s.heap.objs.size,upd H s.heap.objs.size (.lst ((Qf j.toNat).map λi=>V.int (i:Nat))),I.laid (t':=tk) kp (Qg _) ⟨?_,acc.toList,c',rv,by rw[hS]⟩,rfl,q _ _ (Jn hf) hf Jg⟩;rw[Qa,Qr];exact ZJ (Rk.QaG (by omega))
end
end L2
namespace Rk
open L2
def QdH(m:Nat):List Int:=(Qf m).map λ(i:Nat)=>(i:Int)
theorem Qdt(m:Nat):(QdH m).length=m:=by
 unfold QdH;rw[Qa,Qr]
end Rk
namespace L2
section
variable{X:Cx}{pins:List (Addr×Obj)}{σ:St}{H:Hp}
theorem QcC{M:List Str}{scope:YA}{fp:List Addr}{σ':St}{H3:Hp}{s3 s':Shared}{D:Addr}{i:Nat}{y:Str}{py:Pos}{Mo:QvN}{A:Jb}{E:Value->Shared->Prop}{Q:Value->Shared->Prop}
  (I3:Inv X pins σ H3 s3)(f3:∀b∈fp,FpOk X pins H3 b)(J:Inv (blk X M scope (QbV X.env scope.names []) fp s3 H3 s3.heap.objs.size) [] σ' H s')
  (hN:X.N.Nodup)(hi:X.N[i]? = some y)(hl:X.env.scope.names.lookup y=some .local)(hq:∀s2,Inv X pins (σ.set i (some (.ref D))) H s2->Q .none s2) :
  wpAny Mo A (assign (.Name y py) X.env (.ref D)) (λ_ s2=>∃m,s2.heap.Ns s3.heap.objs.size m/\∀h',ZH s3.heap.objs.size s2.heap h'->Q .none { s2 with heap:=h' }) E s':=by
 have J0:Inv X pins σ H s':=Qn7 I3 f3 J (Heap.SameBut.refl ..);obtain⟨m,hn,_⟩:=J.loc;have hC:H s3.heap.objs.size=none:=J.free;have lt:X.env.locals<s3.heap.objs.size:=I3.lt;refine QyG (Qg6 J0 hN hi (QZ hl) (show RelV (.ref D) (.ref D) from rfl) (λs2 J2 ⟨a,sb,ha⟩=>?_) (.inr hl));have ea:a=X.env.locals∨X.env.cells.lookup y=some a:=ha;have na:s3.heap.objs.size≠a:=by
  rcases ea with z | z
  ·rw[z];exact YQ lt
  ·obtain⟨v,o,ho,_⟩:=I3.cell y a z;exact YQ (Qk ho)
 refine⟨m,hn.sameBut sb na,λh' hs=>hq _ ?_⟩;refine J2.turned (t':=s2.toks) (it:=s3.heap.objs.size) (λb o hb e=>hs.extBut b o hb e) hC (YQ lt) (.inr I3.sz) (λx c e z=>?_) λp hp z=>?_
 ·obtain⟨v,o,ho,_⟩:=I3.cell x c e;exact absurd (z ▸ Qk ho) (Zu _)
 ·have e:=(I3.pin p hp).1;exact absurd (z ▸ Qk e) (Zu _)
end
theorem Qpb{X:Cx}{M:List Str}{cap:List (Option Nat)}{elt tg iter:Q0}{ifs:List Q0}{scope:YA}{pos:Pos}{wi:TI}{g:TG}{tc:TT}{te:TE}{i:Nat}{y:Str}{py spos:Pos}(hN:X.N.Nodup)(hiy:X.N[i]? = some y)(hly:X.env.scope.names.lookup y=some .local)(hc:X.calm=true)(ok:Qgw X.N X.env.scope M scope cap=true)
  (hi:PI X tg iter wi)(hb:∀cl ex s3 H3 C,PG (blk X M scope cl ex s3 H3 C) tg g/\PTs (blk X M scope cl ex s3 H3 C) ifs tc/\PE (blk X M scope cl ex s3 H3 C) elt te)
  (hs:∀x,foldedSetIterable iter X.env x=pure x:=by intro _;rfl)(hsw:swapsWith (.ListComp elt [⟨tg,iter,ifs,0⟩] scope pos) (some (.Name y py)) spos.line X.env=pure true:=by rfl):PS X (.Assign [.Name y py] (.ListComp elt [⟨tg,iter,ifs,0⟩] scope pos) spos) (Qjl (tComp cap wi g tc te) (Qbk i)):=by
 intro pins s σ H D I h;have c:=CapOk.of ok;rw[QsI _ _ _ _ hsw];refine wpAny_bind (wpAny_standAt (wpAny_bind ?_));show wpAny _ X.A (do let _ <- comprehension (.ListComp elt [⟨tg,iter,ifs,0⟩] scope pos) scope X.env _ (newList []) false (eval iter X.env) (some (assign (.Name y py) X.env))) _ _ s;refine wpAny_bind (wpAny_mono (QaA (use:=some (assign (.Name y py) X.env)) (Q:=λ_ s'=>SP X pins D .next s') rfl hs (Qgt (I.ok.cells c)) c.kind c.loc ?_) (λ_ s' hq=>Qd (Qd hq)) λ_ _ e=>e);refine thn (hi pins s σ H _ I h) λv s1 h1=>thn h1 λitv s2 h2=>?_
 obtain⟨it,fp,tn,J,H2,e,I2,T,st2,f2,hW⟩:=h2;subst e;refine Q4 (Qeg c.cell (by intro y hy;simp at hy) (λh₁ hns₁ hsb₁=>?_) c.kind);have I3:Inv X pins σ (upd H2 s2.heap.objs.size (.lst [])) { s2 with heap:=s2.heap.push { cls:=.type "list",data:=.seq ([]:List Value).toArray } }:=I2.lnew (t':=s2.toks) (ys:=[]) .nil (Q7 _);have lt2:∀b∈fp,b<s2.heap.objs.size:=λb hb=>by obtain⟨o,e,_⟩:=T.obj _ _ st2 b hb;exact Qk e
 have f3:∀b∈fp,FpOk X pins (upd H2 s2.heap.objs.size (.lst [])) b:=λb hb=>(f2 b hb).upd (Qv (lt2 b hb))
 generalize hs3:({ s2 with heap:=s2.heap.push { cls:=.type "list",data:=.seq ([]:List Value).toArray } }:Shared)=s3 at I3;have e3:s3.heap=s2.heap.push { cls:=.type "list",data:=.seq ([]:List Value).toArray }:=by rw[<- hs3]
 have z3:s3.heap.objs.size=s2.heap.objs.size+1:=by rw[e3,JG]
 have hk:∀b o,s3.heap.get? b=some o->h₁.get? b=some o:=λb o e=>hsb₁.extBut b o (by
  have:=Qk e;rw[e3] at this;exact Qv this) (Qc _ (e3 ▸ e))
 have hn₁:h₁.Ns s3.heap.objs.size λ_=>none:=by rw[e3];exact hns₁
 have B:=QeK (t4:=s3.toks+([]:List (Str×Value)).length) (fp:=fp) I3 c f3 (λb hb=>by rw[z3];exact Z0 (lt2 b hb)) hn₁ hk;have st4:tn 0 h₁:=T.keep _ _ _ st2 λb hb o e=>hk b o (by rw[e3];exact Qc _ e)
 have fp4:∀b∈fp,FpOk (blk X M scope (QbV X.env scope.names []) fp s3 (upd H2 s2.heap.objs.size (.lst [])) s3.heap.objs.size) [] (upd H2 s2.heap.objs.size (.lst [])) b:=λb hb=>by
  refine⟨(f3 b hb).1,(B.ok.exf b hb).1,B.ok.exfs b hb,.inl hb,(B.ok.exf b hb).2,λp hp=>(nomatch hp)⟩
 obtain⟨hg,ht,he⟩:=hb (QbV X.env scope.names []) fp s3 (upd H2 s2.heap.objs.size (.lst [])) s3.heap.objs.size;have loop:codeAny (model X.prog X.w) X.A (.compLoop (.ListComp elt [⟨tg,iter,ifs,0⟩] scope pos) 0 (.ref it) (.ref s2.heap.objs.size) (compEnvC scope (QbV X.env scope.names []) s3.heap.objs.size X.env))
   (compPost (model X.prog X.w) X.A X.xe (some (assign (.Name y py) X.env)) (λ_ s'=>SP X pins D .next s') (.ref s2.heap.objs.size) s3.heap.objs.size) { s3 with heap:=h₁,toks:=s3.toks+([]:List (Str×Value)).length }:=by
  refine Qcd (Y:=blk X M scope (QbV X.env scope.names []) fp s3 (upd H2 s2.heap.objs.size (.lst [])) s3.heap.objs.size) (gens:=[⟨tg,iter,ifs,0⟩]) (d:=0) hc T st4 fp4
   (λQ E s h=>QfR Q E s h) (λx u r=>QeJ rfl hg ht (λσ4=>Qee rfl he) x u r) B (hW _ (I2.hok.fresh (Qg _))) λs' H' I' q=>?_
  exact QcC (Q:=λ_ s'=>SP X pins D .next s') I3 f3 I' hN hiy hly λs2' J2=>⟨_,H',J2,q⟩
 exact QaZ loop (T.self _ 0 _ _ _ st4 loop)
theorem Qmo{X:Cx}{M:List Str}{cap:List (Option Nat)}{elt tg iter tg2 iter2:Q0}{ifs ifs2:List Q0}{scope:YA}{pos:Pos}{wi wi2:TI}{g g2:TG}{tc tc2:TT}{te:TE}{i:Nat}{y:Str}{py spos:Pos}(hN:X.N.Nodup)(hiy:X.N[i]? = some y)(hly:X.env.scope.names.lookup y=some .local)(hc:X.calm=true)(ok:Qgw X.N X.env.scope M scope cap=true)
  (hi:PI X tg iter wi)(hb:∀cl ex s3 H3 C,PG (blk X M scope cl ex s3 H3 C) tg g/\PTs (blk X M scope cl ex s3 H3 C) ifs tc/\PI (blk X M scope cl ex s3 H3 C) tg2 iter2 wi2/\PG (blk X M scope cl ex s3 H3 C) tg2 g2/\PTs (blk X M scope cl ex s3 H3 C) ifs2 tc2/\PE (blk X M scope cl ex s3 H3 C) elt te)
  (hs:∀x,foldedSetIterable iter X.env x=pure x:=by intro _;rfl)(hs2:∀env x,foldedSetIterable iter2 env x=pure x:=by intro _ _;rfl)(hsw:swapsWith (.ListComp elt [⟨tg,iter,ifs,0⟩,⟨tg2,iter2,ifs2,0⟩] scope pos) (some (.Name y py)) spos.line X.env=pure true:=by rfl):PS X (.Assign [.Name y py] (.ListComp elt [⟨tg,iter,ifs,0⟩,⟨tg2,iter2,ifs2,0⟩] scope pos) spos) (Qjl (QrM cap wi g tc wi2 g2 tc2 te) (Qbk i)):=by
 intro pins s σ H D I h;have c:=CapOk.of ok;rw[QsI _ _ _ _ hsw];refine wpAny_bind (wpAny_standAt (wpAny_bind ?_));show wpAny _ X.A (do let _ <- comprehension (.ListComp elt [⟨tg,iter,ifs,0⟩,⟨tg2,iter2,ifs2,0⟩] scope pos) scope X.env _ (newList []) false (eval iter X.env) (some (assign (.Name y py) X.env))) _ _ s;refine wpAny_bind (wpAny_mono (QaA (use:=some (assign (.Name y py) X.env)) (Q:=λ_ s'=>SP X pins D .next s') rfl hs (Qgt (I.ok.cells c)) c.kind c.loc ?_) (λ_ s' hq=>Qd (Qd hq)) λ_ _ e=>e);refine thn (hi pins s σ H _ I h) λv s1 h1=>thn h1 λitv s2 h2=>?_
 obtain⟨it,fp,tn,J,H2,e,I2,T,st2,f2,hW⟩:=h2;subst e;refine Q4 (Qeg c.cell (by intro y hy;simp at hy) (λh₁ hns₁ hsb₁=>?_) c.kind);have I3:Inv X pins σ (upd H2 s2.heap.objs.size (.lst [])) { s2 with heap:=s2.heap.push { cls:=.type "list",data:=.seq ([]:List Value).toArray } }:=I2.lnew (t':=s2.toks) (ys:=[]) .nil (Q7 _);have lt2:∀b∈fp,b<s2.heap.objs.size:=λb hb=>by obtain⟨o,e,_⟩:=T.obj _ _ st2 b hb;exact Qk e
 have f3:∀b∈fp,FpOk X pins (upd H2 s2.heap.objs.size (.lst [])) b:=λb hb=>(f2 b hb).upd (Qv (lt2 b hb))
 generalize hs3:({ s2 with heap:=s2.heap.push { cls:=.type "list",data:=.seq ([]:List Value).toArray } }:Shared)=s3 at I3;have e3:s3.heap=s2.heap.push { cls:=.type "list",data:=.seq ([]:List Value).toArray }:=by rw[<- hs3]
 have z3:s3.heap.objs.size=s2.heap.objs.size+1:=by rw[e3,JG]
 have hk:∀b o,s3.heap.get? b=some o->h₁.get? b=some o:=λb o e=>hsb₁.extBut b o (by
  have:=Qk e;rw[e3] at this;exact Qv this) (Qc _ (e3 ▸ e))
 have hn₁:h₁.Ns s3.heap.objs.size λ_=>none:=by rw[e3];exact hns₁
 have B:=QeK (t4:=s3.toks+([]:List (Str×Value)).length) (fp:=fp) I3 c f3 (λb hb=>by rw[z3];exact Z0 (lt2 b hb)) hn₁ hk;have st4:tn 0 h₁:=T.keep _ _ _ st2 λb hb o e=>hk b o (by rw[e3];exact Qc _ e)
 have fp4:∀b∈fp,FpOk (blk X M scope (QbV X.env scope.names []) fp s3 (upd H2 s2.heap.objs.size (.lst [])) s3.heap.objs.size) [] (upd H2 s2.heap.objs.size (.lst [])) b:=λb hb=>by
  refine⟨(f3 b hb).1,(B.ok.exf b hb).1,B.ok.exfs b hb,.inl hb,(B.ok.exf b hb).2,λp hp=>(nomatch hp)⟩
 obtain⟨hg,ht,hi2,hg2,ht2,he⟩:=hb (QbV X.env scope.names []) fp s3 (upd H2 s2.heap.objs.size (.lst [])) s3.heap.objs.size;have loop:codeAny (model X.prog X.w) X.A (.compLoop (.ListComp elt [⟨tg,iter,ifs,0⟩,⟨tg2,iter2,ifs2,0⟩] scope pos) 0 (.ref it) (.ref s2.heap.objs.size) (compEnvC scope (QbV X.env scope.names []) s3.heap.objs.size X.env))
   (compPost (model X.prog X.w) X.A X.xe (some (assign (.Name y py) X.env)) (λ_ s'=>SP X pins D .next s') (.ref s2.heap.objs.size) s3.heap.objs.size) { s3 with heap:=h₁,toks:=s3.toks+([]:List (Str×Value)).length }:=by
  refine Qcd (Y:=blk X M scope (QbV X.env scope.names []) fp s3 (upd H2 s2.heap.objs.size (.lst [])) s3.heap.objs.size) (gens:=[⟨tg,iter,ifs,0⟩,⟨tg2,iter2,ifs2,0⟩]) (d:=0) hc T st4 fp4
   (λQ E s h=>Qkw (hs2 _) Q E s h) (λx u r=>QeJ rfl hg ht (λσ4=>Qn6 rfl hc hi2 hg2 ht2 he) x u r) B (hW _ (I2.hok.fresh (Qg _))) λs' H' I' q=>?_
  exact QcC (Q:=λ_ s'=>SP X pins D .next s') I3 f3 I' hN hiy hly λs2' J2=>⟨_,H',J2,q⟩
 exact QaZ loop (T.self _ 0 _ _ _ st4 loop)
end L2
namespace Rk
open L2 _root_.Rd
section
variable{X:Cx}
def QBk(X:Cx):R2:=λx y H Q=>∃dx dy,Dat H x dx/\Dat H y dy/\X.A.units+min dx.depth dy.depth<cLine/\Q (.bl (!Jf dx dy)) H
theorem Qw4:OpR X (compareOp .NotEq) (QBk X):=by
 intro pins s σ H x y v u Q I rx ry h;obtain⟨dx,dy,qx,qy,hu,q⟩:=h;obtain⟨⟨as,ra⟩,ca⟩:=Qah I.hok dx x v qx rx;obtain⟨⟨bs,rb⟩,cb⟩:=Qah I.hok dy y u qy ry;exact SeqAt.compareNe_reads ra rb ca cb hu ⟨.bl _,H,I,rfl,q⟩
end
theorem Cs.re{p p':Addr}{H:Hp}{zs:List V}(e:H p'=some (.lst zs)):∀{ps:List V}{L:List (Int×Int)},Cs p H ps L->Cs p' H ps L
 |_,_,.nil=>.nil
 |_,_,.cons ⟨d,_,ev,h⟩ t=>.cons ⟨d,(λz=>by rw[z,e] at h;cases h),ev,h⟩ (Cs.re e t)
end Rk
namespace Rk
open L2
end Rk
namespace Rx
open PySem.Calls L2
section
variable{X:Cx}{E:XK}
end
section
variable{X:Cx}{tf:TE}{fe:Q0}{pos:Pos}{e:Q0}{es:List Q0}{t:TA}{M:Addr->Sp->Prop}
end
end Rx
namespace Rk
open L2 _root_.Rd
structure GlbA (mg:Str->Option Value):Prop where
 isinstance:mg "isinstance" = none
 int:mg "int" = none
 bool:mg "bool" = none
 str:mg "str" = none
 tuple:mg "tuple" = none
 list:mg "list" = none
 all:mg "all" = none
 len:mg "len" = none
 zip:mg "zip" = none
 enumerate:mg "enumerate" = none
 range:mg "range" = none
 max:mg "max" = none
 min:mg "min" = none
 sorted:mg "sorted" = none
 sum:mg "sum" = none
 set:mg "set" = none
 any:mg "any" = none
 reversed:mg "reversed" = none
 divmod:mg "divmod" = none
def Qyv(u:Nat)(neg:Bool):R2:=λx y H Q=>∃c ps ds d,y=.ref c/\H c=some (.tup ps)/\Dats H ps ds/\Dat H x d/\u+d.depth<cLine/\Q (.bl (if neg then !(ds.any λe=>Jf e d) else ds.any λe=>Jf e d)) H
theorem Qsh{X:Cx}:OpR X (compareOp .In) (Qyv X.A.in1.units false):=Qw5
end Rk
namespace Rx
open PySem.Calls L2
section
variable{P:Qy}{w:Jc}{K:PySem.W.Frag}{mg:Str->Option Value}{base:Heap}
end
end Rx
namespace Rk
open L2 _root_.Rd
section
variable{X:Cx}{is js:List Nat}
end
end Rk
namespace L2
theorem Y8{h:Heap}{a:Addr}{its:Array Value}(p:PlainL h a its):h.IsList a its:=by
 obtain⟨o,n,h1,h2,_,h3⟩:=p;exact⟨o,h1,h2,n,h3⟩
structure QhZ (h:Heap) (z TI TO i1 i2 t1 t2:Addr) (f:Value) (k:Nat):Prop where
 zp:QsT h z TI TO f
 ti:IsPair h TI (.ref i1) (.ref i2)
 to:∃a b,IsPair h TO a b
 i1:h.IsListIter i1 t1 k
 i2:h.IsListIter i2 t2 k
section
variable{prog:Qy}{w:Jc}{A:Jb}{E:Value->Shared->Prop}{s:Shared}
theorem QlI{z TI TO i1 i2 t1 t2:Addr}{k:Nat}{xs ys:Array Value}{x y:Value}{Q:Option Value->Shared->Prop}(D:Qyi z TI TO i1 i2 t1 t2)(Z:QhZ s.heap z TI TO i1 i2 t1 t2 .none k)
  (hl1:s.heap.IsList t1 xs)(hl2:s.heap.IsList t2 ys)(hx:xs[k]? = some x)(hy:ys[k]? = some y)
  (hQ:∀h',QhZ h' z TI TO i1 i2 t1 t2 (rawInt s.heap.objs.size) (k+1)->IsPair h' s.heap.objs.size x y->(∀c o,c≠z->c≠TO->c≠i1->c≠i2->s.heap.get? c=some o->h'.get? c=some o)->Q (some (.ref s.heap.objs.size)) { s with heap:=h' }) :
  wpAny (model prog w) A (pyNext (.ref z)) Q E s:=by
 obtain⟨hz,hTI,⟨a,b,hTO⟩,h1,h2⟩:=Z;exact wpAny_pyNext_zip_item D hz hTI hTO h1 h2 hl1 hl2 hx hy λh' a1 a2 a3 a4 a5 a6 a7=>hQ h' ⟨a1,a7 _ _ D.TIz D.TITO D.TIi1 D.TIi2 hTI,⟨x,y,a2⟩,a3,a4⟩ a5 a7
theorem QoI{z TI TO i1 i2 t1 t2:Addr}{k:Nat}{xs ys:Array Value}{Q:Option Value->Shared->Prop}(hh:A.handled=none)(D:Qyi z TI TO i1 i2 t1 t2)(Z:QhZ s.heap z TI TO i1 i2 t1 t2 .none k)
  (hl1:s.heap.IsList t1 xs)(hl2:s.heap.IsList t2 ys)(hend:xs[k]? = none∨ys[k]? = none)
  (hQ:∀h',(∀c o,c≠z->c≠TO->c≠i1->c≠i2->s.heap.get? c=some o->h'.get? c=some o)->Q none { s with heap:=h' }):wpAny (model prog w) A (pyNext (.ref z)) Q E s:=by
 obtain⟨hz,hTI,⟨a,b,hTO⟩,h1,h2⟩:=Z;exact wpAny_pyNext_zip_end hh D hz hTI hTO h1 h2 hl1 hl2 hend hQ
theorem QlJ{t1 t2:Addr}{xs ys:Array Value}{Q:Value->Shared->Prop}(hl1:s.heap.IsList t1 xs)(hl2:s.heap.IsList t2 ys)
  (h:∀h',QhZ h' (s.heap.objs.size+4) (s.heap.objs.size+2) (s.heap.objs.size+3) s.heap.objs.size (s.heap.objs.size+1) t1 t2 .none 0->(∀c o,s.heap.get? c=some o->h'.get? c=some o)->Q (.ref (s.heap.objs.size+4)) { s with heap:=h' }) :
  wpAny (model prog w) A (call (.type "zip") [.ref t1,.ref t2]) Q E s:=
 call_zip_2 hl1 hl2 λh' a1 a2 a3 a4 a5 a6 a7=>h h' ⟨a1,a2,⟨_,_,a3⟩,a4,a5⟩ a7
end
def QBb(t1 t2:Addr):It:=
 ⟨λi H=>∃xs ys x y,H t1=some (.lst xs)/\H t2=some (.lst ys)/\xs[i]? = some x/\ys[i]? = some y,
  λi H v H'=>∃p x y,H p=none/\(∀xs,H t1=some (.lst xs)->xs[i]? = some x)/\(∀ys,H t2=some (.lst ys)->ys[i]? = some y)/\v=.ref p/\H'=upd H p (.tup [x,y]),
  λi H=>∃xs ys,H t1=some (.lst xs)/\H t2=some (.lst ys)/\(xs.length<=i∨ys.length<=i)⟩
theorem QlL{P:Qy}{w:Jc}{K:PySem.W.Frag}{elts:List Q0}{x1}{tpos:Pos}{z TI TO i1 i2 t1 t2:Addr}(D:Qyi z TI TO i1 i2 t1 t2) :
  Turn P w K (.Tuple elts x1 tpos) (QBb t1 t2) [z,TI,TO,i1,i2] z (λi h=>QhZ h z TI TO i1 i2 t1 t2 .none i) where
 mem:=by simp
 obj:=λi h st b hb=>by
  obtain⟨a1,a2,⟨_,_,a3⟩,⟨o4,a4,_,d4⟩,⟨o5,a5,_,d5⟩⟩:=st;simp only[Qu,QQ,or_false] at hb;rcases hb with rfl | rfl | rfl | rfl | rfl
  ·exact⟨_,a1,λv q=>nomatch q⟩
  ·exact⟨_,a2,λv q=>nomatch q⟩
  ·exact⟨_,a3,λv q=>nomatch q⟩
  ·exact⟨_,a4,λv q=>by rw[d4] at q;cases q⟩
  ·exact⟨_,a5,λv q=>by rw[d5] at q;cases q⟩
 keep:=λi h h' st k=>by
  obtain⟨a1,a2,⟨a,b,a3⟩,a4,a5⟩:=st;exact⟨k z (by simp) _ a1,k TI (by simp) _ a2,⟨a,b,k TO (by simp) _ a3⟩,a4.at λo e=>k i1 (by simp) o e,a5.at λo e=>k i2 (by simp) o e⟩
 item:=by
  intro X hP hw hK hc i pins s σ H E I hf st hg;subst hP hw hK;obtain⟨xs,ys,x,y,h1,h2,hx,hy⟩:=hg;obtain⟨its1,r1,p1,_⟩:=I.list (SqL.of h1);obtain⟨its2,r2,p2,_⟩:=I.list (SqL.of h2);obtain⟨u1,hu1,ru1⟩:=r1.get hx;obtain⟨u2,hu2,ru2⟩:=r2.get hy;refine QlI D st (Y8 p1) (Y8 p2) (by simpa using hu1) (by simpa using hu2) λh' st' tp kp=>?_
  have hlt:∀b∈[z,TI,TO,i1,i2],b≠s.heap.objs.size:=λb hb=>by
   obtain⟨a1,a2,⟨_,_,a3⟩,⟨o4,a4,_,d4⟩,⟨o5,a5,_,d5⟩⟩:=st;simp only[Qu,QQ,or_false] at hb;rcases hb with rfl | rfl | rfl | rfl | rfl
   ·exact Qv (Qk a1)
   ·exact Qv (Qk a2)
   ·exact Qv (Qk a3)
   ·exact Qv (Qk a4)
   ·exact Qv (Qk a5)
  have fr:H s.heap.objs.size=none:=I.hok.fresh (Qg _);refine⟨_,rfl,Qlt st'.zp λh2' z2 s2=>?_⟩;have I1:Inv X pins σ (upd H s.heap.objs.size (.tup [x,y])) { s with heap:=h2',toks:=s.toks }:=by
   refine I.turnedNew (ch:=[z,TI,TO,i1,i2]) hf (λb u hb e=>?_) (Qg _) ⟨by show 2<=sizeLine;decide,[u1,u2],.cons ru1 (.cons ru2 .nil),?_⟩
   ·simp only[Qu,QQ,or_false,not_or] at hb;exact s2.extBut _ _ hb.1 (kp b u hb.1 hb.2.2.1 hb.2.2.2.1 hb.2.2.2.2 e)
   ·exact⟨_,s2.extBut _ _ (hlt z (by simp)).symm tp,rfl,rfl,0,rfl⟩
  refine⟨.ref s.heap.objs.size,_,I1,rfl,⟨_,x,y,fr,λxs' e=>?_,λys' e=>?_,rfl,rfl⟩,?_,λb hb=>?_⟩
  ·rw[h1] at e;cases e;exact hx
  ·rw[h2] at e;cases e;exact hy
  ·obtain⟨a1,a2,⟨a,b,a3⟩,a4,a5⟩:=st';exact⟨z2,s2.extBut _ _ D.TIz a2,⟨a,b,s2.extBut _ _ D.TOz a3⟩,a4.extBut s2.extBut D.i1z,a5.extBut s2.extBut D.i2z⟩
  ·rw[Jw (hlt b hb)];exact(hf b hb).1
 done:=by
  intro X hP hw hK hc i pins s σ H E I hf st hg;subst hP hw hK;obtain⟨xs,ys,h1,h2,he⟩:=hg;obtain⟨its1,r1,p1,_⟩:=I.list (SqL.of h1);obtain⟨its2,r2,p2,_⟩:=I.list (SqL.of h2);have l1:=r1.length;have l2:=r2.length;refine QoI (I.ok.hd hc) D st (Y8 p1) (Y8 p2) ?_ λh' kp=>⟨rfl,I.turnedAll (t':=s.toks) (ch:=[z,TI,TO,i1,i2]) hf λb u hb e=>?_⟩
  ·rcases he with q | q
   ·exact .inl (by simp;omega)
   ·exact .inr (by simp;omega)
  ·simp only[Qu,QQ,or_false,not_or] at hb;exact kp b u hb.1 hb.2.2.1 hb.2.2.2.1 hb.2.2.2.2 e
 self:=λ_ _ _ _ _ st h=>Qdb st.zp h
section
variable{X:Cx}
theorem Qlf(n t1 t2:Nat)(h1:t1<n)(h2:t2<n):Qyi (n+4) (n+2) (n+3) n (n+1) t1 t2 where
 TIz:=by show ¬(n+2=n+4);omega
 TOz:=by show ¬(n+3=n+4);omega
 i1z:=by show ¬(n=n+4);omega
 i2z:=by show ¬(n+1=n+4);omega
 TITO:=by show ¬(n+2=n+3);omega
 TIi1:=by show ¬(n+2=n);omega
 TIi2:=by show ¬(n+2=n+1);omega
 TOi1:=by show ¬(n+3=n);omega
 TOi2:=by show ¬(n+3=n+1);omega
 i12:=by show ¬(n=n+1);omega
 l1z:=by show ¬(t1=n+4);omega
 l1TO:=by show ¬(t1=n+3);omega
 l1i1:=by show ¬(t1=n);omega
 l1i2:=by show ¬(t1=n+1);omega
 l2z:=by show ¬(t2=n+4);omega
 l2TO:=by show ¬(t2=n+3);omega
 l2i1:=by show ¬(t2=n);omega
 l2i2:=by show ¬(t2=n+1);omega
def QzS(ta:TA):TI:=λσ H R=>ta σ H λvs H1=>∃t1 t2 xs ys,vs=[.ref t1,.ref t2]/\H1 t1=some (.lst xs)/\H1 t2=some (.lst ys)/\R (QBb t1 t2) H1
theorem Qn4:bootBuiltins "zip" = some (.type "zip"):=by decide +kernel
theorem QtF{a b:Q0}{elts:List Q0}{x1}{tpos:Pos}{ta:TA}{p pos:Pos}(hg:Gl X "zip")(hm:X.mg "zip" = none)(ha:PA X [a,b] ta)(hs:starEach [a,b] X.env=[(false,eval a X.env),(false,eval b X.env)]:=by rfl)(hs2:starEach [b] X.env=[(false,eval b X.env)]:=by rfl) :
  PI X (.Tuple elts x1 tpos) (.Call (.Name "zip" p) [a,b] [] pos) (QzS ta):=by
 intro pins s σ H R I h;refine Call_ (QcD I hg hm Qn4 (JF (thn (ha pos pins s σ H _ I h) λus s1 ⟨vs,H1,I1,r1,q1⟩=>?_) (by rw[hs,hs2]) (by rw[hs2];rfl)));obtain⟨t1,t2,xs,ys,e,h1,h2,q⟩:=q1;subst e;obtain⟨u,v,rfl,ru,rv⟩:=vals2 r1;cases(show u=QF t1 from ru);cases(show v=QF t2 from rv);obtain⟨its1,w1,p1,_⟩:=I1.list (SqL.of h1);obtain⟨its2,w2,p2,_⟩:=I1.list (SqL.of h2);have n1:t1<s1.heap.objs.size:=I1.hok.lt h1;have n2:t2<s1.heap.objs.size:=I1.hok.lt h2;refine QlJ (Y8 p1) (Y8 p2) λh' st kp=>?_
 refine Qdb (s:={ s1 with heap:=h' }) st.zp ?_
 have D:=Qlf s1.heap.objs.size t1 t2 n1 n2;refine⟨s1.heap.objs.size+4,_,_,_,H1,rfl,I1.kept (t':=s1.toks) kp,QlL D,st,λb hb=>?_,q⟩;have hb':s1.heap.objs.size<=b:=by
  simp only[Qu,QQ,or_false] at hb;rcases hb with rfl | rfl | rfl | rfl | rfl<;>omega
 exact I1.fpOk hb' (I1.hok.fresh hb')
end
def Qtq(K:PySem.W.Frag):List V->Hp->VK->Prop:=λxs H Q=>∃p ys,xs=[.ref p]/\(SqL K H p ys∨SqT K H p ys)/\Q (.int ys.length) H
theorem bt_set:bootBuiltins "set" = some (.type "set"):=by decide +kernel
theorem QeH:bootBuiltins "sorted" = some (.builtin "sorted"):=by decide +kernel
def CMulB(i j:Int):Prop:=∃k:Nat,k<=1000000/\i.natAbs<2^k/\j.natAbs<2^k
theorem Qn8{i:Int}{k:Nat}(h:i.natAbs<2^k):Zv i<=k:=by
 unfold Zv;split
 ·exact Q7 _
 ·rename_i z
  have hz:i.natAbs≠0:=by
   intro q;apply z
   have:i=0:=by omega
   subst this;rfl
  have:=(Nat.log2_lt hz).mpr h;omega
theorem CMulB.ok{i j:Int}(h:CMulB i j):IntMulOk i j:=by
 obtain⟨k,hk,h1,h2⟩:=h;have a:=Qn8 h1;have b:=Qn8 h2;unfold IntMulOk;have c:QfL (Zv i+Zv j:Nat)=false:=by
  unfold QfL;rw[decide_eq_false];have:bitsLine=134217728:=by decide +kernel
  rw[this];omega
 intro z;rw[JK] at z;have z2:=z.2;have e:((Zv i+Zv j:Nat):Int)=(Zv i:Int)+(Zv j:Int):=by omega
 rw[e] at c;rw[c] at z2;cases z2
section
variable{X:Cx}
theorem Qui:OpR X (binaryOp .Mult) (rI CMulB λi j=>.int (i*j)):=opI λ_ _ _ _ _ _ _ hc q=>mul_int q hc.ok
theorem Qp7:QA7 X (Qwp X.K):=by
 intro pins s σ H o i ov iv Q I ro ri h;obtain⟨p,xs,k,z,rfl,rfl,hq,he,q⟩:=h;cases ro;obtain⟨t,rfl⟩:=ri;obtain⟨its,r,pl,hz⟩:=I.list hq;obtain⟨j,h1,h2,h3,h4,h5⟩:=Qi3 he;obtain⟨w,ew,rw'⟩:=r.get h2;have hl:=r.length;have hn:=Qfn;have fin:EP X pins σ Q w s:=⟨z,H,I,rw',q⟩;by_cases h0:0<=k
 ·have hj:k.toNat=j:=by
   rw[QeT h0 h5] at h1;exact Qx h1
  exact wpAny_getItem_list pl.isList h0 (by omega) (by rw[hj];simpa using ew) fin
 ·have hj:(k+(its.toArray.size:Int)).toNat=j:=by
   rw[Qh0 (by omega) h4] at h1;rw[Qj,<- hl];exact Qx h1
  exact Qrr pl.isList (by omega) (by rw[Qj]<;>omega) (by omega) (by rw[hj];simpa using ew) fin
def iOr(a b:TI):TI:=λσ H R=>a σ H R∨b σ H R
theorem Qzv{tg e:Q0}{a b:TI}(h1:PI X tg e a)(h2:PI X tg e b):PI X tg e (iOr a b):=by
 intro pins s σ H R I h;rcases h with h | h
 ·exact h1 pins s σ H R I h
 ·exact h2 pins s σ H R I h
end
end L2
namespace Rk
open L2 _root_.Rd
def QAy(u:Nat):R2:=λx y H Q=>∃dx dy,Dat H x dx/\Dat H y dy/\u+min dx.depth dy.depth<cLine/\Q (.bl (!Jf dx dy)) H
theorem Qw3{X:Cx}:OpR X (compareOp .NotEq) (QAy X.A.units):=Qw4
def QAC(u:Nat):R2:=λx y H Q=>∃dx dy,Dat H x dx/\Dat H y dy/\u+min dx.depth dy.depth<cLine/\Q (.bl (Jf dx dy)) H
theorem QjE{X:Cx}:OpR X (compareOp .Eq) (QAC X.A.units):=Qw6
theorem QmN{X:Cx}:OpR X (compareOp .NotIn) (Qyv X.A.in1.units true):=QmO
def QcO:Nat->PyData->Bool
 |_,.none=>true
 |_,.bool _=>true
 |_,.int _=>true
 |_,.str _=>true
 |n+1,.tuple ds=>decide (ds.length<=1000)&&ds.all (QcO n)
 |n+1,.list ds=>decide (ds.length<=1000)&&ds.all (QcO n)
 |_,_=>false
def Qir:Nat->Sp
 |0=>λ_ _ _ _=>False
 |n+1=>λvs H Q _=>∃x y d,vs=[x,y]/\Dat H x d/\Dat H y d/\QcO n d=true/\∀H',Same H H'->Q (.bl true) H'
theorem Qux{σ:L2.St}{H:Hp}{A B:Hp->Prop}(h:A H):Qek σ H λb H5=>if b=true then A H5 else B H5:=by
 show(if true=true then A H else B H);exact Qlr h
theorem QhH{H:Hp}:∀(ns:List Int),Dats H (ns.map V.int) (ns.map Qp)
 |[]=>.nil
 |n::ns=>.cons (.int n) (QhH ns)
end Rk
namespace Rx
open PySem.Calls L2
end Rx
namespace Rk
open L2 _root_.Rd
theorem QuG{n:Nat}(h:n<=1000000):n<sizeLine:=YJ h (by decide)
theorem QiL{n k:Nat}(h:k<n):ixN n (k:Nat)=some k:=by
 unfold ixN;rw[if_pos (by omega),if_pos (by omega)];simp
end Rk
namespace HT
section
open PySem.SeqAt
open PySem.AutoSeq1 (wpAny_loadPart')
open PySem.MeetsSeq PySem.MeetsSeq2 PySem.MeetsSeq3
end
section
variable{prog:Qy}{w:Jc}{A:Jb}{E:Value->Shared->Prop}{s:Shared}
end
end HT
namespace L2
def Qwl(K:PySem.W.Frag):V->Option Int->Option Int->Hp->VK->Prop:=λx lo hi H Q=>∃a xs,x=.ref a/\SqL K H a xs/\∀p H',Same H H'->H p=none->H' p=some (.lst (Qj7 xs lo hi))->Q (.ref p) H'
theorem QoT{X:Cx}:SlR X (Qwl X.K):=by
 intro pins s σ H x v vl vu lo hi sl Q I rx hs pl pu h;obtain⟨a,xs,e,hx,q⟩:=h;exact Qtb pins s σ H x v vl vu lo hi sl Q I rx hs pl pu ⟨a,xs,e,hx,λp hp=>q p _ (Jn hp) hp Jg⟩
theorem cut_last(xs:List V):(Qj7 xs (some (-1)) none).length<=1:=by
 unfold Qj7;rw[Zh,Yg];have h2:xs.length - 1<=HT.sIx xs.length 0 (some (-1)):=by
  show xs.length - 1<=(if(-1:Int)<0 then((-1:Int)+(xs.length:Int)).toNat else min (-1:Int).toNat xs.length);rw[if_pos (by decide)];omega
 omega
end L2
namespace Rk
open L2 _root_.Rd
end Rk
namespace L2
section
variable{X:Cx}
def Qiv(K:PySem.W.Frag):List V->Hp->VK->Prop:=λxs H Q=>∃p ys,xs=[.ref p]/\((SqL K H p ys/\∀l H',Same H H'->H l=none->H' l=some (.tup ys)->Q (.ref l) H')∨(SqT K H p ys/\Q (.ref p) H))
theorem call_tuple_ofW:CallR X (.type "tuple") (Qiv X.K):=by
 intro pins s σ H xs us Q I r h;obtain⟨p,ys,e,h⟩:=h;refine Qc8 pins s σ H xs us Q I r ⟨p,ys,e,?_⟩;rcases h with⟨h1,h2⟩ | h
 ·exact .inl ⟨h1,λl hl=>h2 l _ (Jn hl) hl Jg⟩
 ·exact .inr h
def Qme(K:PySem.W.Frag):List V->Hp->VK->Prop:=λxs H Q=>∃p ys,xs=[.ref p]/\(SqL K H p ys∨SqT K H p ys)/\∀l H',Same H H'->H l=none->H' l=some (.lst ys)->Q (.ref l) H'
theorem Qgy:CallR X (.type "list") (Qme X.K):=by
 intro pins s σ H xs us Q I r h;obtain⟨p,ys,e,h1,h2⟩:=h;exact QhP pins s σ H xs us Q I r ⟨p,ys,e,h1,λl hl=>h2 l _ (Jn hl) hl Jg⟩
def Qwn:R2:=λx y H Q=>∃l k xs,x=.ref l/\y=.int k/\H l=some (.lst xs) /\ -(2^63)<=k/\k<2^63/\xs.length*k.toNat<=1000000/\∀p H',Same H H'->H p=none->H' p=some (.lst (QL k.toNat xs).flatten)->Q (.ref p) H'
theorem op_repW:OpR X (binaryOp .Mult) Qwn:=by
 intro pins s σ H x y v u Q I rx ry h;obtain⟨l,k,xs,e1,e2,h1,h2,h3,h4,q⟩:=h;exact Qse pins s σ H x y v u Q I rx ry ⟨l,k,xs,e1,e2,h1,h2,h3,QY h4 (by decide),λp hp=>q p _ (Jn hp) hp Jg⟩
end
end L2
namespace Rk
open L2 _root_.Rd
end Rk
namespace L2
section
variable{X:Cx}
end
section
variable{X:Cx}
end
end L2
namespace Rk
open L2 _root_.Rd
end Rk
namespace Rx
open PySem.Calls L2
section
variable{X:Cx}{e:Q0}{st:Y2}{pos:Pos}{te:TX}{t u:TSX}{tc:TT}{c:Q0}{a b:List Y2}
end
section
variable{X:Cx}{R:Addr}{i:Nat}{n r:Str}{body:List Y2}{hx:Q0}{tb:TSX}{th:TE}{np hp hpos pos:Pos}
end
end Rx
namespace L2
section
variable{X:Cx}
end
end L2
namespace Rk
open L2 _root_.Rd
end Rk
namespace Dl
open L2 _root_.Rd Rk
def dkV(kvs:List (Int×Int)):List (Key×V):=kvs.map λp=>(Zg p.1,V.int p.2)
def dkD(kvs:List (Int×Int)):List (PyData×PyData):=kvs.map λp=>(Qp p.1,Qp p.2)
mutual
inductive DA (A:Addr->Prop) (H:Hp):V->PyData->Prop
 |non:DA A H .non .none
 |bl (b:Bool):DA A H (.bl b) (.bool b)
 |int (i:Int):DA A H (.int i) (.int i)
 |str (x:Str):QaC (.str x)=true->DA A H (.str x) (.str x)
 |tup {a:Addr} {xs:List V} {ds:List PyData}:¬A a->H a=some (.tup xs)->DAs A H xs ds->DA A H (.ref a) (.tuple ds)
 |lst {a:Addr} {xs:List V} {ds:List PyData}:¬A a->H a=some (.lst xs)->DAs A H xs ds->DA A H (.ref a) (.list ds)
 |dct {a:Addr} {kvs:List (Int×Int)} {ds:List (PyData×PyData)}:¬A a->H a=some (.dK (dkV kvs))->ds=dkD kvs->DA A H (.ref a) (.dict ds)
inductive DAs (A:Addr->Prop) (H:Hp):List V->List PyData->Prop
 |nil:DAs A H [] []
 |cons {x:V} {xs:List V} {d:PyData} {ds:List PyData}:DA A H x d->DAs A H xs ds->DAs A H (x::xs) (d::ds)
end
mutual
theorem QxN{A A':Addr->Prop}{H H':Hp}(k:∀a o,¬A a->H a=some o->H' a=some o)(m:∀a,A' a->A a∨H a=none):∀(d:PyData)(x:V),DA A H x d->DA A' H' x d
 |.none,_,.non=>.non
 |.bool _,_,.bl _=>.bl _
 |.int _,_,.int _=>.int _
 |.str _,_,.str _ c=>.str _ c
 |.tuple ds,_,.tup (xs:=xs) n e q=>.tup (λz=>(m _ z).elim n λz=>by rw[z] at e;cases e) (k _ _ n e) (Qj5 k m ds xs q)
 |.list ds,_,.lst (xs:=xs) n e q=>.lst (λz=>(m _ z).elim n λz=>by rw[z] at e;cases e) (k _ _ n e) (Qj5 k m ds xs q)
 |.dict _,_,.dct n e q=>.dct (λz=>(m _ z).elim n λz=>by rw[z] at e;cases e) (k _ _ n e) q
theorem Qj5{A A':Addr->Prop}{H H':Hp}(k:∀a o,¬A a->H a=some o->H' a=some o)(m:∀a,A' a->A a∨H a=none):∀(ds:List PyData)(xs:List V),DAs A H xs ds->DAs A' H' xs ds
 |[],_,.nil=>.nil
 |d::ds,_,.cons (x:=x) (xs:=xs) q qs=>.cons (QxN k m d x q) (Qj5 k m ds xs qs)
end
theorem DA.mv{A A':Addr->Prop}{H H':Hp}{x:V}{d:PyData}(q:DA A H x d)(k:∀a o,¬A a->H a=some o->H' a=some o)(m:∀a,A' a->A a∨H a=none):DA A' H' x d:=QxN k m d x q
theorem DAs.mv{A A':Addr->Prop}{H H':Hp}{x:List V}{d:List PyData}(q:DAs A H x d)(k:∀a o,¬A a->H a=some o->H' a=some o)(m:∀a,A' a->A a∨H a=none):DAs A' H' x d:=Qj5 k m d x q
theorem DA.same{A:Addr->Prop}{H H':Hp}{x:V}{d:PyData}(q:DA A H x d)(s:Same H H'):DA A H' x d:=q.mv (λa o _ e=>s a o e) λa z=>.inl z
theorem DAs.same{A:Addr->Prop}{H H':Hp}{x:List V}{d:List PyData}(q:DAs A H x d)(s:Same H H'):DAs A H' x d:=q.mv (λa o _ e=>s a o e) λa z=>.inl z
theorem DAs.length{A:Addr->Prop}{H:Hp}:∀{xs:List V}{ds:List PyData},DAs A H xs ds->xs.length=ds.length
 |_,_,.nil=>rfl
 |_,_,.cons _ q=>by rw[QC,QC,q.length]
theorem DAs.get{A:Addr->Prop}{H:Hp}:∀{xs:List V}{ds:List PyData},DAs A H xs ds->∀(i:Nat)(d:PyData),ds[i]? = some d->∃x,xs[i]? = some x/\DA A H x d
 |_,_,.nil,i,x,e=>by simp at e
 |_,_,.cons q qs,0,x,e=>by simp at e;subst e;exact⟨_,rfl,q⟩
 |_,_,.cons q qs,i+1,x,e=>qs.get i x (by simpa using e)
theorem DAs.getV{A:Addr->Prop}{H:Hp}:∀{xs:List V}{ds:List PyData},DAs A H xs ds->∀(i:Nat)(x:V),xs[i]? = some x->∃d,ds[i]? = some d/\DA A H x d
 |_,_,.nil,i,x,e=>by simp at e
 |_,_,.cons q qs,0,x,e=>by simp at e;subst e;exact⟨_,rfl,q⟩
 |_,_,.cons q qs,i+1,x,e=>qs.getV i x (by simpa using e)
theorem DAs.app{A:Addr->Prop}{H:Hp}:∀{xs ys:List V}{ds es:List PyData},DAs A H xs ds->DAs A H ys es->DAs A H (xs++ys) (ds++es)
 |_,_,_,_,.nil,q=>q
 |_,_,_,_,.cons a b,q=>.cons a (b.app q)
theorem DAs.take{A:Addr->Prop}{H:Hp}:∀{xs:List V}{ds:List PyData},DAs A H xs ds->∀n:Nat,DAs A H (xs.take n) (ds.take n)
 |_,_,.nil,n=>by rw[Qi9,Qi9];exact .nil
 |_,_,.cons a b,0=>.nil
 |_,_,.cons a b,n+1=>.cons a (b.take n)
theorem DAs.drop{A:Addr->Prop}{H:Hp}:∀{xs:List V}{ds:List PyData},DAs A H xs ds->∀n:Nat,DAs A H (xs.drop n) (ds.drop n)
 |_,_,.nil,n=>by rw[Qym,Qym];exact .nil
 |_,_,.cons a b,0=>.cons a b
 |_,_,.cons a b,n+1=>b.drop n
theorem DAs.set{A:Addr->Prop}{H:Hp}{x:V}{d:PyData}(q:DA A H x d):∀{xs:List V}{ds:List PyData},DAs A H xs ds->∀n:Nat,DAs A H (xs.set n x) (ds.set n d)
 |_,_,.nil,n=>.nil
 |_,_,.cons a b,0=>.cons q b
 |_,_,.cons a b,n+1=>.cons a (b.set q n)
mutual
def nd:PyData->Bool
 |.dict _=>false
 |.tuple ds=>nds ds
 |.list ds=>nds ds
 |_=>true
def nds:List PyData->Bool
 |[]=>true
 |d::ds=>nd d&&nds ds
end
mutual
theorem Qfy{A:Addr->Prop}{H:Hp}:∀(d:PyData)(x:V),nd d=true->DA A H x d->Dat H x d
 |.none,_,_,.non=>.non
 |.bool _,_,_,.bl _=>.bl _
 |.int _,_,_,.int _=>.int _
 |.str _,_,_,.str _ c=>.str _ c
 |.tuple ds,_,n,.tup (xs:=xs) _ e q=>.tup e (Qba ds xs n q)
 |.list ds,_,n,.lst (xs:=xs) _ e q=>.lst e (Qba ds xs n q)
theorem Qba{A:Addr->Prop}{H:Hp}:∀(ds:List PyData)(xs:List V),nds ds=true->DAs A H xs ds->Dats H xs ds
 |[],_,_,.nil=>.nil
 |d::ds,_,n,.cons (x:=x) (xs:=xs) q qs=>by
  have n':=JZ.mp (show(nd d&&nds ds)=true from n);exact .cons (Qfy d x n'.1 q) (Qba ds xs n'.2 qs)
end
theorem QiD{ds:List PyData}:nds ds=true↔∀d∈ds,nd d=true:=by
 induction ds with
 |nil=>exact⟨(λ_ _ h=>nomatch h),λ_=>rfl⟩
 |cons d ds ih=>
  rw[show nds (d::ds)=(nd d&&nds ds) from rfl,JZ,ih];constructor
  ·rintro⟨a,b⟩ e he;rcases Qu.mp he with z | z
   ·rw[z];exact a
   ·exact b e z
  ·intro h;exact⟨h d (by simp),λe he=>h e (by simp[he])⟩
def DP(A P:Addr->Prop)(H:Hp)(v:V)(d:PyData):Prop:=DA A H v d∨∃l xs ds,v=.ref l/\d=.list ds/\¬P l/\H l=some (.lst xs)/\DAs A H xs ds
theorem DP.dat{A P:Addr->Prop}{H:Hp}{v:V}{d:PyData}(h:DP A P H v d)(n:nd d=true):Dat H v d:=by
 rcases h with h | ⟨l,xs,ds,rfl,rfl,_,e,q⟩
 ·exact Qfy d v n h
 ·exact .lst e (Qba ds xs n q)
theorem DP.list{A P:Addr->Prop}{H:Hp}{v:V}{ds:List PyData}(h:DP A P H v (.list ds)):∃l xs,v=.ref l/\H l=some (.lst xs)/\DAs A H xs ds:=by
 rcases h with h | ⟨l,xs,ds',rfl,e,_,h2,q⟩
 ·cases h with | lst n e q=>exact⟨_,_,rfl,e,q⟩
 ·cases e;exact⟨l,xs,rfl,h2,q⟩
theorem DP.tuple{A P:Addr->Prop}{H:Hp}{v:V}{ds:List PyData}(h:DP A P H v (.tuple ds)):∃l xs,v=.ref l/\H l=some (.tup xs)/\DAs A H xs ds:=by
 rcases h with h | ⟨l,xs,ds',rfl,e,_⟩
 ·cases h with | tup n e q=>exact⟨_,_,rfl,e,q⟩
 ·cases e
theorem DP.int{A P:Addr->Prop}{H:Hp}{v:V}{i:Int}(h:DP A P H v (.int i)):v=.int i:=by
 rcases h with h | ⟨l,xs,ds',rfl,e,_⟩
 ·cases h;rfl
 ·cases e
theorem DP.bool{A P:Addr->Prop}{H:Hp}{v:V}{i:Bool}(h:DP A P H v (.bool i)):v=.bl i:=by
 rcases h with h | ⟨l,xs,ds',rfl,e,_⟩
 ·cases h;rfl
 ·cases e
theorem DP.none{A P:Addr->Prop}{H:Hp}{v:V}(h:DP A P H v .none):v=.non:=by
 rcases h with h | ⟨l,xs,ds',rfl,e,_⟩
 ·cases h;rfl
 ·cases e
theorem DP.str{A P:Addr->Prop}{H:Hp}{v:V}{x:Str}(h:DP A P H v (.str x)):v=.str x/\QaC (.str x)=true:=by
 rcases h with h | ⟨l,xs,ds',rfl,e,_⟩
 ·cases h with | str _ c=>exact⟨rfl,c⟩
 ·cases e
inductive Sl where
 |no | pot | scr
 |v (d:PyData)
 |own (ds:List PyData)
 |pk (ds:List PyData)
abbrev Sts:=List Sl
structure Fm where
 H0:Hp
 A0:Addr->Prop
 pt:Addr->Prop
def QA8(σ:L2.St)(δ:Sts)(i:Nat)(a:Addr):Prop:=σ[i]? = some (some (.ref a))/\(δ[i]? = some .pot∨∃ds,δ[i]? = some (.own ds))
def Av(F:Fm)(σ:L2.St)(δ:Sts)(a:Addr):Prop:=F.A0 a∨∃i,QA8 σ δ i a
def YB(σ:L2.St)(δ:Sts)(a:Addr):Prop:=∃i:Nat,σ[i]? = some (some (.ref a))/\δ[i]? = some .pot
def QA6(K:PySem.W.Frag)(F:Fm)(H:Hp)(A:Addr->Prop)(o:Option V):Sl->Prop
 |.no=>True
 |.v d=>∃v,o=some v/\DA A H v d
 |.own ds=>∃l xs,o=some (.ref l)/\H l=some (.lst xs)/\DAs A H xs ds/\F.H0 l=none
 |.pk ds=>∃l xs,o=some (.ref l)/\H l=some (.lst xs)/\DAs A H xs ds/\∃ys,F.H0 l=some (.lst ys)/\¬F.pt l
 |.pot=>∃p n,o=some (.ref p)/\H p=some (.lst [.int n])/\(F.pt p∨F.H0 p=none)
 |.scr=>∃a ns,o=some (.ref a)/\SqL K F.H0 a ((ns:List Int).map V.int)/\¬F.pt a/\ns.length<=63
structure Rel (K:PySem.W.Frag) (F:Fm) (σ:L2.St) (H:Hp) (δ:Sts):Prop where
 len:σ.length=δ.length
 dom:∀a,F.A0 a->∃xs,H a=some (.lst xs)
 dom0:∀a,F.A0 a->∃xs,F.H0 a=some (.lst xs)
 pt0:∀p,F.pt p->F.A0 p/\∃n,H p=some (.lst [.int n])
 kx:∀b o,¬F.pt b->F.H0 b=some o->H b=some o
 sl:∀(i:Nat) o x,σ[i]? = some o->δ[i]? = some x->QA6 K F H (Av F σ δ) o x
 inj:∀(i j:Nat) a ds,δ[i]? = some (.own ds)->σ[i]? = some (some (.ref a))->QA8 σ δ j a->i=j
def Kp(σ:L2.St)(δ:Sts)(H H':Hp):Prop:=(∀b o,¬YB σ δ b->H b=some o->H' b=some o)/\∀b,YB σ δ b->∃n,H' b=some (.lst [.int n])
def Stp(F:Fm)(σ:L2.St)(H:Hp)(δ:Sts)(σ':L2.St)(H':Hp)(δ':Sts):Prop:=(∀b o,¬Av F σ δ b->H b=some o->H' b=some o)/\∀b,Av F σ' δ' b->Av F σ δ b∨H b=none
def Ke(F:Fm)(H':Hp):Prop:=(∀b o,¬F.pt b->F.H0 b=some o->H' b=some o)/\∀p,F.pt p->∃n,H' p=some (.lst [.int n])
theorem Qai{F:Fm}{σ:L2.St}{δ:Sts}{a:Addr}(h:YB σ δ a):Av F σ δ a:=let ⟨i,h1,h2⟩:=h;.inr ⟨i,h1,.inl h2⟩
theorem Rel.ke{K:PySem.W.Frag}{F:Fm}{σ:L2.St}{H:Hp}{δ:Sts}(r:Rel K F σ H δ):Ke F H:=⟨r.kx,λp hp=>(r.pt0 p hp).2⟩
theorem Rel.isl{K:PySem.W.Frag}{F:Fm}{σ:L2.St}{H:Hp}{δ:Sts}(r:Rel K F σ H δ){a:Addr}(h:Av F σ δ a):∃xs,H a=some (.lst xs):=by
 rcases h with h | ⟨i,h1,h2⟩
 ·exact r.dom a h
 ·rcases h2 with h2 | ⟨ds,h2⟩
  ·obtain⟨p,n,e,h,_⟩:=r.sl i _ _ h1 h2;cases e;exact⟨_,h⟩
  ·obtain⟨l,xs,e,h,_⟩:=r.sl i _ _ h1 h2;cases e;exact⟨_,h⟩
theorem Kp.refl{K:PySem.W.Frag}{F:Fm}{σ:L2.St}{H:Hp}{δ:Sts}(r:Rel K F σ H δ):Kp σ δ H H:=⟨λ_ _ _ e=>e,λb ⟨i,h1,h2⟩=>by
 obtain⟨p,n,e,h,_⟩:=r.sl i _ _ h1 h2;cases e;exact⟨n,h⟩⟩
theorem Kp.trans{σ:L2.St}{δ:Sts}{H H1 H2:Hp}(a:Kp σ δ H H1)(b:Kp σ δ H1 H2):Kp σ δ H H2:=⟨λc o n e=>b.1 c o n (a.1 c o n e),b.2⟩
theorem Kp.same{K:PySem.W.Frag}{F:Fm}{σ:L2.St}{H H':Hp}{δ:Sts}(r:Rel K F σ H δ)(s:Same H H'):Kp σ δ H H':=⟨λb o _ e=>s b o e,λb hb=>let ⟨n,h⟩:=(Kp.refl r).2 b hb;⟨n,s _ _ h⟩⟩
theorem Kp.da{F:Fm}{σ:L2.St}{H H':Hp}{δ:Sts}{v:V}{d:PyData}(k:Kp σ δ H H')(h:DA (Av F σ δ) H v d):DA (Av F σ δ) H' v d:=h.mv (λa o n e=>k.1 a o (λz=>n (Qai z)) e) λa z=>.inl z
theorem Kp.das{F:Fm}{σ:L2.St}{H H':Hp}{δ:Sts}{v:List V}{d:List PyData}(k:Kp σ δ H H')(h:DAs (Av F σ δ) H v d):DAs (Av F σ δ) H' v d:=h.mv (λa o n e=>k.1 a o (λz=>n (Qai z)) e) λa z=>.inl z
theorem Kp.dp{F:Fm}{σ:L2.St}{H H':Hp}{δ:Sts}{v:V}{d:PyData}(k:Kp σ δ H H')(h:DP (Av F σ δ) (YB σ δ) H v d):DP (Av F σ δ) (YB σ δ) H' v d:=by
 rcases h with h | ⟨l,xs,ds,e1,e2,n,e,q⟩
 ·exact .inl (k.da h)
 ·exact .inr ⟨l,xs,ds,e1,e2,n,k.1 _ _ n e,k.das q⟩
theorem Rel.own_pot{K:PySem.W.Frag}{F:Fm}{σ:L2.St}{H:Hp}{δ:Sts}(r:Rel K F σ H δ){i:Nat}{ds:List PyData}{l:Addr}(h:δ[i]? = some (.own ds))(e:σ[i]? = some (some (.ref l))):¬YB σ δ l:=by
 rintro⟨j,h1,h2⟩;have:=r.inj i j l _ h e ⟨h1,.inl h2⟩;subst this;rw[h] at h2;cases h2
theorem Rel.pt_pot{K:PySem.W.Frag}{F:Fm}{σ:L2.St}{H H':Hp}{δ:Sts}(r:Rel K F σ H δ)(k:Kp σ δ H H'){p:Addr}(hp:F.pt p):∃n,H' p=some (.lst [.int n]):=by
 by_cases z:YB σ δ p
 ·exact k.2 p z
 ·obtain⟨n,e⟩:=(r.pt0 p hp).2;exact⟨n,k.1 _ _ z e⟩
theorem Rel.kp{K:PySem.W.Frag}{F:Fm}{σ:L2.St}{H H':Hp}{δ:Sts}(r:Rel K F σ H δ)(k:Kp σ δ H H'):Rel K F σ H' δ where
 len:=r.len
 dom:=λa ha=>by
  by_cases z:YB σ δ a
  ·exact⟨_,(k.2 a z).choose_spec⟩
  ·obtain⟨xs,e⟩:=r.dom a ha;exact⟨xs,k.1 _ _ z e⟩
 dom0:=r.dom0
 pt0:=λp hp=>⟨(r.pt0 p hp).1,r.pt_pot k hp⟩
 kx:=λb o n e=>by
  by_cases z:YB σ δ b
  ·obtain⟨i,h1,h2⟩:=z;obtain⟨p,m,e1,h,q⟩:=r.sl i _ _ h1 h2;cases e1;rcases q with q | q
   ·exact absurd q n
   ·rw[q] at e;cases e
  ·exact k.1 _ _ z (r.kx b o n e)
 sl:=λi o x h1 h2=>by
  have h:=r.sl i o x h1 h2;cases x with
  |no=>trivial
  |v d=>obtain⟨v,e,q⟩:=h;exact⟨v,e,k.da q⟩
  |own ds=>obtain⟨l,xs,rfl,e,q,f⟩:=h;exact⟨l,xs,rfl,k.1 _ _ (r.own_pot h2 h1) e,k.das q,f⟩
  |pk ds=>
   obtain⟨l,xs,rfl,e,q,ys,f,f2⟩:=h;refine⟨l,xs,rfl,k.1 _ _ ?_ e,k.das q,ys,f,f2⟩;rintro⟨j,j1,j2⟩;obtain⟨p,m,e1,_,w⟩:=r.sl j _ _ j1 j2;cases e1;rcases w with w | w
   ·exact f2 w
   ·rw[w] at f;cases f
  |pot=>
   obtain⟨p,n,rfl,e,q⟩:=h;obtain⟨m,e'⟩:=k.2 p ⟨i,h1,h2⟩;exact⟨p,m,rfl,e',q⟩
  |scr=>exact h
 inj:=r.inj
theorem Rel.same{K:PySem.W.Frag}{F:Fm}{σ:L2.St}{H H':Hp}{δ:Sts}(r:Rel K F σ H δ)(s:Same H H'):Rel K F σ H' δ:=r.kp (Kp.same r s)
theorem Stp.refl{F:Fm}{σ:L2.St}{H:Hp}{δ:Sts}:Stp F σ H δ σ H δ:=⟨λ_ _ _ e=>e,λ_ z=>.inl z⟩
theorem Stp.trans{F:Fm}{σ σ1 σ2:L2.St}{H H1 H2:Hp}{δ δ1 δ2:Sts}(a:Stp F σ H δ σ1 H1 δ1)(b:Stp F σ1 H1 δ1 σ2 H2 δ2):Stp F σ H δ σ2 H2 δ2:=by
 refine⟨λc o n e=>?_,λc z=>?_⟩
 ·refine b.1 c o (λz=>?_) (a.1 c o n e);rcases a.2 c z with q | q
  ·exact n q
  ·rw[q] at e;cases e
 ·rcases b.2 c z with q | q
  ·exact a.2 c q
  ·by_cases y:Av F σ δ c
   ·exact .inl y
   ·right
    cases e:H c with
    |none=>rfl
    |some o=>rw[a.1 c o y e] at q;cases q
theorem Stp.kp{F:Fm}{σ:L2.St}{H H':Hp}{δ:Sts}(k:Kp σ δ H H'):Stp F σ H δ σ H' δ:=⟨λb o n e=>k.1 b o (λz=>n (Qai z)) e,λ_ z=>.inl z⟩
theorem Stp.da{F:Fm}{σ σ':L2.St}{H H':Hp}{δ δ':Sts}{v:V}{d:PyData}(k:Stp F σ H δ σ' H' δ')(h:DA (Av F σ δ) H v d):DA (Av F σ' δ') H' v d:=h.mv k.1 k.2
abbrev XP:=Addr->Prop
abbrev DE:=Sts->(PyData->Prop)->XP->Prop
abbrev DT:=Sts->(Bool->Prop)->XP->Prop
abbrev DAr:=Sts->(List PyData->Prop)->XP->Prop
abbrev DSl:=Sts->(List Sl->Prop)->XP->Prop
inductive Md where | D | P | F
def FrV(H H':Hp)(v:V):Prop:=∀l,v=.ref l->(∃xs,H' l=some (.lst xs))->H l=none
def Vok(m:Md)(F:Fm)(σ:L2.St)(δ:Sts)(H H':Hp)(v:V)(d:PyData):Prop:=
 match m with
 |.D=>DA (Av F σ δ) H' v d
 |.P=>DP (Av F σ δ) (YB σ δ) H' v d
 |.F=>DA (Av F σ δ) H' v d/\FrV H H' v
def Out(F:Fm)(E:XK)(EX:XP):Prop:=∀C,EX C->∀H',Ke F H'->E (.ref C) none H'
def tX(m:Md)(K:PySem.W.Frag)(E:XK)(w:DE):TE:=λσ H Q=>∃(F:Fm)(δ:Sts)(R:PyData->Prop)(EX:XP),Rel K F σ H δ/\w δ R EX/\(∀d,R d->∀v H',Rel K F σ H' δ->Kp σ δ H H'->Vok m F σ δ H H' v d->Q v H')/\Out F E EX
def tT(K:PySem.W.Frag)(E:XK)(w:DT):TT:=λσ H Q=>∃(F:Fm)(δ:Sts)(R:Bool->Prop)(EX:XP),Rel K F σ H δ/\w δ R EX/\(∀b,R b->∀H',Rel K F σ H' δ->Kp σ δ H H'->Q b H')/\Out F E EX
def VD(m:Md)(A P:Addr->Prop)(H:Hp)(v:V)(d:PyData):Prop:=
 match m with
 |.P=>DP A P H v d
 |_=>DA A H v d
def tAr(n:Nat)(m:Md)(K:PySem.W.Frag)(E:XK)(w:DAr):TA:=λσ H Q=>∃(F:Fm)(δ:Sts)(R:List PyData->Prop)(EX:XP),Rel K F σ H δ/\w δ R EX/\(∀ds,R ds->ds.length=n->∀vs H',Rel K F σ H' δ->Kp σ δ H H'->YY (VD m (Av F σ δ) (YB σ δ) H') vs ds->Q vs H')/\Out F E EX
def Qi7(A pt:Addr->Prop)(H:Hp)(v:V):Sl->Prop
 |.v d=>DA A H v d
 |.pot=>∃p,v=.ref p/\pt p
 |_=>False
def tAs(K:PySem.W.Frag)(E:XK)(w:DSl):TA:=λσ H Q=>∃(F:Fm)(δ:Sts)(R:List Sl->Prop)(EX:XP),Rel K F σ H δ/\w δ R EX/\(∀ds,R ds->∀vs H',Rel K F σ H' δ->Kp σ δ H H'->YY (Qi7 (Av F σ δ) (YB σ δ) H') vs ds->Q vs H')/\Out F E EX
theorem Kp.vd{m:Md}{F:Fm}{σ:L2.St}{H H':Hp}{δ:Sts}{v:V}{d:PyData}(k:Kp σ δ H H')(h:VD m (Av F σ δ) (YB σ δ) H v d):VD m (Av F σ δ) (YB σ δ) H' v d:=by
 cases m
 ·exact k.da h
 ·exact k.dp h
 ·exact k.da h
theorem Kp.arg{F:Fm}{σ:L2.St}{H H':Hp}{δ:Sts}{v:V}{d:Sl}(k:Kp σ δ H H')(h:Qi7 (Av F σ δ) (YB σ δ) H v d):Qi7 (Av F σ δ) (YB σ δ) H' v d:=by
 cases d with
 |v d=>exact k.da h
 |pot=>exact h
 |_=>exact h.elim
def Qda(H:Hp):Prop:=∀a xs,H a=some (.lst xs)∨H a=some (.tup xs)->xs.length<=sizeLine
section
variable{X:Cx}{E:XK}
theorem Inv.lens{pins:List (Addr×Obj)}{σ:L2.St}{H:Hp}{s:Shared}(I:Inv X pins σ H s):Qda H:=λa xs h=>by
 rcases h with h | h
 ·exact(I.hok a _ h).1
 ·exact(I.hok a _ h).1
theorem PE.imp{e:Q0}{t t':TE}(h:PE X e t)(i:∀σ H Q,t' σ H Q->t σ H Q):PE X e t':=λpins s σ H Q I q=>h pins s σ H Q I (i σ H Q q)
theorem PT.imp{e:Q0}{t t':TT}(h:PT X e t)(i:∀σ H Q,t' σ H Q->t σ H Q):PT X e t':=λpins s σ H Q I q=>h pins s σ H Q I (i σ H Q q)
theorem PW.imp{e:Q0}{t t':TT}(h:PW X e t)(i:∀σ H Q,t' σ H Q->t σ H Q):PW X e t':=λwh pins s σ H Q I q=>h wh pins s σ H Q I (i σ H Q q)
theorem PA.imp{e:List Q0}{t t':TA}(h:PA X e t)(i:∀σ H Q,t' σ H Q->t σ H Q):PA X e t':=λpos pins s σ H Q I q=>h pos pins s σ H Q I (i σ H Q q)
theorem OpR.len{f:Value->Value->Sem Value}{r:R2}(h:OpR X f r):OpR X f (λx y H Q=>Qda H->r x y H Q):=λpins s σ H x y v u Q I rx ry q=>h pins s σ H x y v u Q I rx ry (q (Inv.lens I))
theorem CallR.len{f:Value}{r:List V->Hp->VK->Prop}(h:CallR X f r):CallR X f (λxs H Q=>Qda H->r xs H Q):=λpins s σ H xs us Q I rx q=>h pins s σ H xs us Q I rx (q (Inv.lens I))
theorem IxR.len{r:R2}(h:IxR X r):IxR X (λx y H Q=>Qda H->r x y H Q):=λa b pins s σ H x y v u Q I rx ry q hs=>h a b pins s σ H x y v u Q I rx ry (q (Inv.lens I)) hs
theorem OpR.or2{f:Value->Value->Sem Value}{r r':R2}(h:OpR X f r)(h':OpR X f r'):OpR X f (λx y H Q=>r x y H Q∨r' x y H Q):=OpR.or h h'
theorem IxR.or2{r r':R2}(h:IxR X r)(h':IxR X r'):IxR X (λx y H Q=>r x y H Q∨r' x y H Q):=λa b pins s σ H x y v u Q I rx ry q hs=>q.elim (λq=>h a b pins s σ H x y v u Q I rx ry q hs) λq=>h' a b pins s σ H x y v u Q I rx ry q hs
theorem SlR.or2{r r':V->Option Int->Option Int->Hp->VK->Prop}(h:SlR X r)(h':SlR X r'):SlR X (λx a b H Q=>r x a b H Q∨r' x a b H Q):=λpins s σ H x v vl vu lo hi sl Q I rx hs pl pu q=>q.elim (h pins s σ H x v vl vu lo hi sl Q I rx hs pl pu) (h' pins s σ H x v vl vu lo hi sl Q I rx hs pl pu)
theorem toD{e:Q0}{w:DE}(h:PE X e (tX .F X.K E w)):PE X e (tX .D X.K E w):=PE.imp h λσ H Q ⟨F,δ,R,EX,r,hw,k,o⟩=>⟨F,δ,R,EX,r,hw,λd hd v H' r' kp vk=>k d hd v H' r' kp vk.1,o⟩
theorem toP{e:Q0}{w:DE}(h:PE X e (tX .D X.K E w)):PE X e (tX .P X.K E w):=PE.imp h λσ H Q ⟨F,δ,R,EX,r,hw,k,o⟩=>⟨F,δ,R,EX,r,hw,λd hd v H' r' kp vk=>k d hd v H' r' kp (.inl vk),o⟩
theorem QBe{e:Q0}{w:DE}(h:PE X e (tX .F X.K E w)):PE X e (tX .P X.K E w):=toP (toD h)
def Qz4(i:Nat):DE:=λδ Q _=>match δ[i]? with
 |some (.v d)=>Q d
 |_=>False
def dPk(i:Nat):DE:=λδ Q _=>match δ[i]? with
 |some (.v d)=>Q d
 |some (.own ds)=>Q (.list ds)
 |some (.pk ds)=>Q (.list ds)
 |_=>False
def dC(d:PyData):DE:=λ_ Q _=>Q d
theorem Rel.lt{K:PySem.W.Frag}{F:Fm}{σ:L2.St}{H:Hp}{δ:Sts}(r:Rel K F σ H δ){i:Nat}{x:Sl}(h:δ[i]? = some x):∃o,σ[i]? = some o:=by
 have:=(QU.mp h).1;exact⟨σ[i]'(by rw[r.len];exact this),Qe _⟩
theorem QwO{e:Q0}{i:Nat}(h:PE X e (Qbs i)):PE X e (tX .D X.K E (Qz4 i)):=PE.imp h λσ H Q ⟨F,δ,R,EX,r,hw,k,o⟩=>by
 unfold Qz4 at hw;split at hw
 ·rename_i d hd
  obtain⟨x,hx⟩:=r.lt hd;obtain⟨v,rfl,q⟩:=r.sl i _ _ hx hd;exact⟨v,hx,k d hw v H r (Kp.refl r) q⟩
 ·exact hw.elim
theorem Qzz{e:Q0}{i:Nat}(h:PE X e (Qbs i)):PE X e (tX .P X.K E (dPk i)):=PE.imp h λσ H Q ⟨F,δ,R,EX,r,hw,k,o⟩=>by
 unfold dPk at hw;split at hw
 ·rename_i d hd
  obtain⟨x,hx⟩:=r.lt hd;obtain⟨v,rfl,q⟩:=r.sl i _ _ hx hd;exact⟨v,hx,k d hw v H r (Kp.refl r) (.inl q)⟩
 ·rename_i d hd
  obtain⟨x,hx⟩:=r.lt hd;obtain⟨l,xs,rfl,e,q,_⟩:=r.sl i _ _ hx hd;exact⟨_,hx,k _ hw _ H r (Kp.refl r) (.inr ⟨l,xs,d,rfl,rfl,r.own_pot hd hx,e,q⟩)⟩
 ·rename_i d hd
  obtain⟨x,hx⟩:=r.lt hd;obtain⟨l,xs,rfl,e,q,ys,f,f2⟩:=r.sl i _ _ hx hd;refine⟨_,hx,k _ hw _ H r (Kp.refl r) (.inr ⟨l,xs,d,rfl,rfl,?_,e,q⟩)⟩;rintro⟨j,j1,j2⟩;obtain⟨p,m,e1,_,w⟩:=r.sl j _ _ j1 j2;cases e1;rcases w with w | w
  ·exact f2 w
  ·rw[w] at f;cases f
 ·exact hw.elim
theorem Qyw{e:Q0}{v:V}{d:PyData}(h:PE X e (tC v))(q:∀(A:Addr->Prop)(H:Hp),DA A H v d):PE X e (tX .D X.K E (dC d)):=PE.imp h λσ H Q ⟨F,δ,R,EX,r,hw,k,o⟩=>k d hw v H r (Kp.refl r) (q _ _)
theorem QwW{i:Int}{j pos}:PE X (.Constant (.int i) j pos) (tX .D X.K E (dC (.int i))):=Qyw pe_int λ_ _=>.int i
theorem QzB{b:Bool}{j pos}:PE X (.Constant (.bool b) j pos) (tX .D X.K E (dC (.bool b))):=Qyw QwL λ_ _=>.bl b
theorem QwT{j pos}:PE X (.Constant .none j pos) (tX .D X.K E (dC .none)):=Qyw Qmu λ_ _=>.non
theorem QwQ{x:Str}{j pos}(h:QaC (.str x)=true:=by decide +kernel):PE X (.Constant (.str x) j pos) (tX .D X.K E (dC (.str x))):=Qyw QwK λ_ _=>.str x h
def OpD(r:R2)(rD:PyData->PyData->(PyData->Prop)->Prop):Prop:=∀(A P:Addr->Prop)(H:Hp)(x y:V)(d1 d2:PyData)(R:PyData->Prop)(Q:VK),Qda H->(∀a,A a->∃xs,H a=some (.lst xs))->DP A P H x d1->DP A P H y d2->rD d1 d2 R ->
 (∀d,R d->∀v H',Same H H'->DA A H' v d->FrV H H' v->Q v H')->r x y H Q
def Qvq(r:R2)(rD:PyData->PyData->(PyData->Prop)->Prop):Prop:=∀(A P:Addr->Prop)(H:Hp)(x y:V)(d1 d2:PyData)(R:PyData->Prop)(Q:VK),Qda H->(∀a,A a->∃xs,H a=some (.lst xs))->DP A P H x d1->DP A P H y d2->rD d1 d2 R ->
 (∀d,R d->∀v H',Same H H'->DA A H' v d->Q v H')->r x y H Q
def dOp(rD:PyData->PyData->(PyData->Prop)->Prop)(wa wb:DE):DE:=λδ Q EX=>wa δ (λd1=>wb δ (λd2=>rD d1 d2 Q) EX) EX
theorem Qiz{K:PySem.W.Frag}{r:R2}{rD:PyData->PyData->(PyData->Prop)->Prop}{wa wb:DE}(hd:OpD r rD)(σ:L2.St)(H:Hp)(Q:VK)(h:tX .F K E (dOp rD wa wb) σ H Q) :
  tOp (λx y H Q=>Qda H->r x y H Q) (tX .P K E wa) (tX .P K E wb) σ H Q:=by
 obtain⟨F,δ,R,EX,rel,hw,k,o⟩:=h;refine⟨F,δ,_,EX,rel,hw,λd1 h1 x H1 rel1 kp1 x1=>⟨F,δ,_,EX,rel1,h1,λd2 h2 y H2 rel2 kp2 y2=>λln=>?_,o⟩,o⟩;refine hd (Av F σ δ) (YB σ δ) H2 x y d1 d2 R Q ln (λa ha=>rel2.isl ha) (kp2.dp x1) y2 h2 λd hR v H' s q f=>?_
 refine k d hR v H' (rel2.same s) ((kp1.trans kp2).trans (Kp.same rel2 s)) ⟨q,λl e1 e2=>?_⟩;have f2:=f l e1 e2;cases e:H l with
 |none=>rfl
 |some ob=>
  by_cases z:YB σ δ l
  ·obtain⟨n,en⟩:=kp2.2 l z;rw[en] at f2;cases f2
  ·rw[(kp1.trans kp2).1 _ _ z e] at f2;cases f2
theorem QpB{K:PySem.W.Frag}{r:R2}{rD:PyData->PyData->(PyData->Prop)->Prop}{wa wb:DE}(hd:Qvq r rD)(σ:L2.St)(H:Hp)(Q:VK)(h:tX .D K E (dOp rD wa wb) σ H Q) :
  tOp (λx y H Q=>Qda H->r x y H Q) (tX .P K E wa) (tX .P K E wb) σ H Q:=by
 obtain⟨F,δ,R,EX,rel,hw,k,o⟩:=h;refine⟨F,δ,_,EX,rel,hw,λd1 h1 x H1 rel1 kp1 x1=>⟨F,δ,_,EX,rel1,h1,λd2 h2 y H2 rel2 kp2 y2=>λln=>?_,o⟩,o⟩;refine hd (Av F σ δ) (YB σ δ) H2 x y d1 d2 R Q ln (λa ha=>rel2.isl ha) (kp2.dp x1) y2 h2 λd hR v H' s q=>?_
 exact k d hR v H' (rel2.same s) ((kp1.trans kp2).trans (Kp.same rel2 s)) q
variable{a b:Q0}{wa wb:DE}{pos:Pos}{r:R2}{rD:PyData->PyData->(PyData->Prop)->Prop}
theorem QwZ{op:QfH}(ho:OpR X (binaryOp op) r)(hd:OpD r rD)(ha:PE X a (tX .P X.K E wa))(hb:PE X b (tX .P X.K E wb)):PE X (.BinOp a op b pos) (tX .F X.K E (dOp rD wa wb)):=PE.imp (pe_op (OpR.len ho) ha hb) (Qiz hd)
theorem QwY{op:CmpOp}(ho:OpR X (compareOp op) r)(hd:OpD r rD)(ha:PE X a (tX .P X.K E wa))(hb:PE X b (tX .P X.K E wb))(hm:behindInMarks op b=false):PE X (.Compare a [op] [b] pos) (tX .F X.K E (dOp rD wa wb)):=PE.imp (Qdu (OpR.len ho) ha hb hm) (Qiz hd)
theorem QzA{r:R2}{rD:PyData->PyData->(PyData->Prop)->Prop}(ho:IxR X r)(hd:Qvq r rD)(ha:PE X a (tX .P X.K E wa))(hb:PE X b (tX .P X.K E wb))(hs:Qi6 b):PE X (.Subscript a b pos) (tX .D X.K E (dOp rD wa wb)):=PE.imp (pe_ix (IxR.len ho) ha hb hs) (QpB hd)
def dTst(w:DE):DT:=λδ Q EX=>w δ (λd=>match d with
 |.bool k=>Q k
 |_=>False) EX
theorem QtO{op:CmpOp}(ho:OpR X (compareOp op) r)(hd:OpD r rD)(ha:PE X a (tX .P X.K E wa))(hb:PE X b (tX .P X.K E wb))(hm:behindInMarks op b=false):PT X (.Compare a [op] [b] pos) (tT X.K E (dTst (dOp rD wa wb))):=by
 refine PT.imp (Qb8 (OpR.len ho) ha hb hm) λσ H Q ⟨F,δ,R,EX,rel,hw,k,o⟩=>?_
 refine Qiz hd σ H (λx H'=>∃k,x=.bl k/\Q k H') ⟨F,δ,_,EX,rel,hw,λd hd2 v H' rel' kp vk=>?_,o⟩;split at hd2
 ·rename_i b
  have:v=.bl b:=by cases vk.1;rfl
  exact⟨b,this,k b hd2 H' rel' kp⟩
 ·exact hd2.elim
def tru:PyData->Bool
 |.none=>false
 |.bool b=>b
 |.int i=>i != 0
 |.str y=>(y.length:Int) != 0
 |.list ds => !ds.isEmpty
 |.tuple ds => !ds.isEmpty
 |.dict ds => !ds.isEmpty
def strOk:PyData->Prop
 |.str y=>y.length<=sizeLine
 |_=>True
def dTru(w:DE):DT:=λδ Q EX=>w δ (λd=>strOk d/\Q (tru d)) EX
theorem Qv0{K:PySem.W.Frag}{A P:Addr->Prop}{H:Hp}{v:V}{d:PyData}(h:DP A P H v d)(hs:strOk d):QAj K v H (tru d):=by
 have sq:∀{xs:List V}{ds:List PyData},DAs A H xs ds->(!ds.isEmpty) = !xs.isEmpty:=λq=>by cases q<;>rfl
 rcases h with h | ⟨l,xs,ds,rfl,rfl,_,e,q⟩
 ·cases h with
  |non=>rfl
  |bl b=>rfl
  |int i=>rfl
  |str x c=>exact⟨hs,rfl⟩
  |@tup a xs ds n e q=>exact .inr (.inl ⟨xs,SqT.of e,sq q⟩)
  |@lst a xs ds n e q=>exact .inl ⟨xs,SqL.of e,sq q⟩
  |@dct a kvs ds n e q=>subst q;exact .inr (.inr ⟨dkV kvs,e,by cases kvs<;>rfl⟩)
 ·exact .inl ⟨xs,SqL.of e,sq q⟩
theorem QtM{e:Q0}{w:DE}(h:PE X e (tX .P X.K E w))(he:∀whole,isTrue e X.env whole=(do let v <- whole;standAt e.pos;holding [v] (truthy v))):PT X e (tT X.K E (dTru w)):=by
 refine PT.imp (Qpa h he) λσ H Q ⟨F,δ,R,EX,rel,hw,k,o⟩=>?_
 exact⟨F,δ,_,EX,rel,hw,λd ⟨hs,hq⟩ v H' rel' kp vk=>⟨tru d,Qv0 vk hs,k _ hq H' rel' kp⟩,o⟩
theorem QtL{e:Q0}{w:DE}(h:PE X e (tX .P X.K E w))(he:∀whole,isTrue e X.env whole=(do let v <- whole;standAt e.pos;holding [v] (truthy v)):=by intro _;rfl):PT X e (tT X.K E (dTst w)):=by
 refine PT.imp (Qjy h he) λσ H Q ⟨F,δ,R,EX,rel,hw,k,o⟩=>?_
 refine⟨F,δ,_,EX,rel,hw,λd hd v H' rel' kp vk=>?_,o⟩;split at hd
 ·exact⟨_,DP.bool vk,k _ hd H' rel' kp⟩
 ·exact hd.elim
def QA0(wa wb:DT):DT:=λδ Q EX=>wa δ (λc=>if c=true then wb δ Q EX else Q false) EX
def dOr(wa wb:DT):DT:=λδ Q EX=>wa δ (λc=>if c=true then Q true else wb δ Q EX) EX
def QAR(wa:DT):DT:=λδ Q EX=>wa δ (λc=>Q (!c)) EX
theorem QdL{c:Prop}[Decidable c]{p q p' q':Prop}(h:if c then p else q)(h1:p->p')(h2:q->q'):if c then p' else q':=by
 split at h
 ·rw[if_pos (by assumption)];exact h1 h
 ·rw[if_neg (by assumption)];exact h2 h
variable{rest:List Q0}{ta tb:DT}
theorem Qpk(ha:PT X a (tT X.K E ta)):PW X (.BoolOp .And [a] pos) (tT X.K E ta):=Qmn ha
theorem QtJ(ha:PT X a (tT X.K E ta)):PW X (.BoolOp .Or [a] pos) (tT X.K E ta):=Qr6 ha
theorem QtK(ha:PT X a (tT X.K E ta))(hb:PW X (.BoolOp .And (b::rest) pos) (tT X.K E tb)):PW X (.BoolOp .And (a::b::rest) pos) (tT X.K E (QA0 ta tb)):=by
 refine PW.imp (Qr7 ha hb) λσ H Q ⟨F,δ,R,EX,rel,hw,k,o⟩=>?_
 refine⟨F,δ,_,EX,rel,hw,λc hc H' rel' kp=>?_,o⟩;exact QdL hc (λz=>⟨F,δ,R,EX,rel',z,λc hc H2 rel2 kp2=>k c hc H2 rel2 (kp.trans kp2),o⟩) λz=>k _ z H' rel' kp
theorem QwM(ha:PT X a (tT X.K E ta))(hb:PW X (.BoolOp .Or (b::rest) pos) (tT X.K E tb)):PW X (.BoolOp .Or (a::b::rest) pos) (tT X.K E (dOr ta tb)):=by
 refine PW.imp (QwC ha hb) λσ H Q ⟨F,δ,R,EX,rel,hw,k,o⟩=>?_
 refine⟨F,δ,_,EX,rel,hw,λc hc H' rel' kp=>?_,o⟩;exact QdL hc (λz=>k _ z H' rel' kp) (λz=>⟨F,δ,R,EX,rel',z,λc hc H2 rel2 kp2=>k c hc H2 rel2 (kp.trans kp2),o⟩)
theorem QtN(ha:PT X a (tT X.K E ta)):PT X (.UnaryOp .Not a pos) (tT X.K E (QAR ta)):=by
 refine PT.imp (QwF ha) λσ H Q ⟨F,δ,R,EX,rel,hw,k,o⟩=>?_
 exact⟨F,δ,_,EX,rel,hw,λc hc H' rel' kp=>k _ hc H' rel' kp,o⟩
def QxX(wa wb:DE):DE:=λδ Q EX=>wa δ (λd=>match d with
 |.bool c=>if c=true then wb δ Q EX else Q (.bool false)
 |_=>False) EX
def QxU(wa:DE):DE:=λδ Q EX=>wa δ (λd=>match d with
 |.bool c=>Q (.bool (!c))
 |_=>False) EX
theorem QwR{op}{w:DE}(h:PE X a (tX .D X.K E w)):PE X (.BoolOp op [a] pos) (tX .D X.K E w):=Qfh h
theorem Qw0(ha:PE X a (tX .P X.K E wa))(hb:PE X (.BoolOp .And (b::rest) pos) (tX .D X.K E wb)):PE X (.BoolOp .And (a::b::rest) pos) (tX .D X.K E (QxX wa wb)):=by
 refine PE.imp (Qfi ha hb) λσ H Q ⟨F,δ,R,EX,rel,hw,k,o⟩=>?_
 refine⟨F,δ,_,EX,rel,hw,λd hd v H' rel' kp vk=>?_,o⟩;split at hd
 ·exact⟨_,DP.bool vk,QdL hd (λz=>⟨F,δ,R,EX,rel',z,λd hd v H2 rel2 kp2=>k d hd v H2 rel2 (kp.trans kp2),o⟩) λz=>k _ z _ H' rel' kp (.bl _)⟩
 ·exact hd.elim
theorem QwS(ha:PE X a (tX .P X.K E wa)):PE X (.UnaryOp .Not a pos) (tX .D X.K E (QxU wa)):=by
 refine PE.imp (Qsb ha) λσ H Q ⟨F,δ,R,EX,rel,hw,k,o⟩=>?_
 refine⟨F,δ,_,EX,rel,hw,λd hd v H' rel' kp vk=>?_,o⟩;split at hd
 ·exact⟨_,DP.bool vk,k _ hd _ H' rel' kp (.bl _)⟩
 ·exact hd.elim
def QAW(t:DT)(wa wb:DE):DE:=λδ Q EX=>t δ (λc=>if c=true then wa δ Q EX else wb δ Q EX) EX
theorem QwX{c:Q0}(hc:PT X c (tT X.K E ta))(ha:PE X a (tX .D X.K E wa))(hb:PE X b (tX .D X.K E wb)):PE X (.IfExp c a b pos) (tX .D X.K E (QAW ta wa wb)):=by
 refine PE.imp (Qph hc ha hb) λσ H Q ⟨F,δ,R,EX,rel,hw,k,o⟩=>?_
 refine⟨F,δ,_,EX,rel,hw,λd hd H' rel' kp=>?_,o⟩;exact QdL hd (λz=>⟨F,δ,R,EX,rel',z,λd hd v H2 rel2 kp2=>k d hd v H2 rel2 (kp.trans kp2),o⟩) (λz=>⟨F,δ,R,EX,rel',z,λd hd v H2 rel2 kp2=>k d hd v H2 rel2 (kp.trans kp2),o⟩)
end
theorem QdJ{A:Addr->Prop}{H H':Hp}{l:Addr}{xs:List V}{ds:List PyData}(dm:∀a,A a->∃xs,H a=some (.lst xs))(s:Same H H')(n:H l=none)(e:H' l=some (.lst xs))(q:DAs A H xs ds):DA A H' (.ref l) (.list ds):=
 .lst (λz=>by obtain⟨ys,e'⟩:=dm l z;rw[n] at e';cases e') e (q.same s)
theorem Qe5{A:Addr->Prop}{H H':Hp}{l:Addr}{xs:List V}{ds:List PyData}(dm:∀a,A a->∃xs,H a=some (.lst xs))(s:Same H H')(e:H' l=some (.tup xs))(q:DAs A H xs ds):DA A H' (.ref l) (.tuple ds):=
 .tup (λz=>by obtain⟨ys,e'⟩:=dm l z;rw[s _ _ e'] at e;cases e) e (q.same s)
theorem QaH{H H':Hp}{l:Addr}(n:H l=none):FrV H H' (.ref l):=λl' e _=>by cases e;exact n
theorem QdA{H H':Hp}{l:Addr}{xs:List V}(e:H' l=some (.tup xs)):FrV H H' (.ref l):=λl' e1 ⟨ys,e2⟩=>by cases e1;rw[e] at e2;cases e2
theorem Qal{H H':Hp}{i:Int}:FrV H H' (.int i):=λl' e _=>by cases e
theorem Qa9{H H':Hp}{i:Bool}:FrV H H' (.bl i):=λl' e _=>by cases e
theorem QuU{H H':Hp}:FrV H H' .non:=λl' e _=>by cases e
theorem DAs.rep{A:Addr->Prop}{H:Hp}{xs:List V}{ds:List PyData}(q:DAs A H xs ds):∀k:Nat,DAs A H (QL k xs).flatten (QL k ds).flatten
 |0=>.nil
 |k+1=>by rw[J5,J5,ZY,ZY];exact q.app (DAs.rep q k)
def QBF:PyData->PyData->(PyData->Prop)->Prop
 |.int i,.int j,Q=>Q (.int (i+j))
 |.tuple a,.tuple b,Q=>a.length+b.length<=1000000/\Q (.tuple (a++b))
 |.list a,.list b,Q=>a.length+b.length<=1000000/\Q (.list (a++b))
 |_,_,_=>False
def iiD(C:Int->Int->Prop)(f:Int->Int->PyData):PyData->PyData->(PyData->Prop)->Prop
 |.int i,.int j,Q=>C i j/\Q (f i j)
 |_,_,_=>False
def ii0(f:Int->Int->PyData):PyData->PyData->(PyData->Prop)->Prop
 |.int i,.int j,Q=>Q (f i j)
 |_,_,_=>False
def QBp:PyData->PyData->(PyData->Prop)->Prop
 |.int i,.int j,Q=>(CMul i j∨CMulB i j)/\Q (.int (i*j))
 |.list a,.int k,Q=>(k<1000000 /\ -1000000<k/\a.length*k.toNat<=1000000)/\Q (.list (QL k.toNat a).flatten)
 |_,_,_=>False
theorem Qhr:1000000<=sizeLine:=by show 1000000<=2^24;decide
section
variable{X:Cx}{E:XK}
theorem QpI{C:Int->Int->Prop}{g:Int->Int->Int}:OpD (rI C λi j=>.int (g i j)) (iiD C λi j=>.int (g i j)):=λA P H x y d1 d2 R Q ln dm hx hy h k=>by
 cases d1<;>cases d2<;>first | exact h.elim | skip
 rw[hx.int,hy.int];exact⟨_,_,rfl,rfl,h.1,k _ h.2 _ H (Same.refl H) (.int _) Qal⟩
theorem QjH{g:Int->Int->Int}:OpD (rI0 λi j=>.int (g i j)) (ii0 λi j=>.int (g i j)):=λA P H x y d1 d2 R Q ln dm hx hy h k=>by
 cases d1<;>cases d2<;>first | exact h.elim | skip
 rw[hx.int,hy.int];exact⟨_,_,rfl,rfl,k _ h _ H (Same.refl H) (.int _) Qal⟩
theorem Qsj{g:Int->Int->Bool}:OpD (rI0 λi j=>.bl (g i j)) (ii0 λi j=>.bool (g i j)):=λA P H x y d1 d2 R Q ln dm hx hy h k=>by
 cases d1<;>cases d2<;>first | exact h.elim | skip
 rw[hx.int,hy.int];exact⟨_,_,rfl,rfl,k _ h _ H (Same.refl H) (.bl _) Qa9⟩
def rAdd:R2:=λx y H Q=>(rI0 (λi j=>.int (i+j)) x y H Q∨Qts x y H Q)∨QAE x y H Q
theorem Qag:OpR X (binaryOp .Add) rAdd:=OpR.or2 (OpR.or2 op_add QmP) Qw8
theorem Qa8:OpD rAdd QBF:=λA P H x y d1 d2 R Q ln dm hx hy h k=>by
 cases d1<;>cases d2<;>first | exact h.elim | skip
 ·rw[hx.int,hy.int];exact .inl (.inl ⟨_,_,rfl,rfl,k _ h _ H (Same.refl H) (.int _) Qal⟩)
 ·obtain⟨l1,xs,rfl,e1,q1⟩:=hx.list;obtain⟨l2,ys,rfl,e2,q2⟩:=hy.list;refine .inr ⟨l1,l2,xs,ys,rfl,rfl,e1,e2,QY (by rw[q1.length,q2.length];exact h.1) Qhr,λp hp=>?_⟩;exact k _ h.2 _ _ (Jn hp) (QdJ dm (Jn hp) hp Jg (q1.app q2)) (QaH hp)
 ·obtain⟨l1,xs,rfl,e1,q1⟩:=hx.tuple;obtain⟨l2,ys,rfl,e2,q2⟩:=hy.tuple;refine .inl (.inr ⟨l1,l2,xs,ys,rfl,rfl,e1,e2,QY (by rw[q1.length,q2.length];exact h.1) Qhr,λp H' s e=>?_⟩);exact k _ h.2 _ _ s (Qe5 dm s e (q1.app q2)) (QdA e)
def Qwo:R2:=λx y H Q=>(rI CMul (λi j=>.int (i*j)) x y H Q∨rI CMulB (λi j=>.int (i*j)) x y H Q)∨QAw x y H Q
theorem Qgh:OpR X (binaryOp .Mult) Qwo:=OpR.or2 (OpR.or2 Qfl Qui) Qse
theorem QjG:OpD Qwo QBp:=λA P H x y d1 d2 R Q ln dm hx hy h k=>by
 cases d1<;>cases d2<;>first | exact h.elim | skip
 ·rw[hx.int,hy.int];rcases h.1 with c | c
  ·exact .inl (.inl ⟨_,_,rfl,rfl,c,k _ h.2 _ H (Same.refl H) (.int _) Qal⟩)
  ·exact .inl (.inr ⟨_,_,rfl,rfl,c,k _ h.2 _ H (Same.refl H) (.int _) Qal⟩)
 ·obtain⟨l1,xs,rfl,e1,q1⟩:=hx.list;rw[hy.int];obtain⟨⟨h1,h2,h3⟩,h4⟩:=h;refine .inr ⟨l1,_,xs,rfl,rfl,e1,by omega,by omega,QY (by rw[q1.length];exact h3) Qhr,λp hp=>?_⟩;exact k _ h4 _ _ (Jn hp) (QdJ dm (Jn hp) hp Jg (q1.rep _)) (QaH hp)
def eqD:PyData->PyData->(PyData->Prop)->Prop
 |.int i,.int j,Q=>Q (.bool (decide (i=j)))
 |.bool i,.bool j,Q=>Q (.bool (decide (i=j)))
 |.str i,.str j,Q=>Q (.bool (decide (i=j)))
 |a,b,Q=>(nd a=true/\nd b=true/\(a.depth<=50∨b.depth<=50))/\Q (.bool (Jf a b))
def neD:PyData->PyData->(PyData->Prop)->Prop
 |.int i,.int j,Q=>Q (.bool (!decide (i=j)))
 |.bool i,.bool j,Q=>Q (.bool (!decide (i=j)))
 |.str i,.str j,Q=>Q (.bool (!decide (i=j)))
 |a,b,Q=>(nd a=true/\nd b=true/\(a.depth<=50∨b.depth<=50))/\Q (.bool (!Jf a b))
theorem Qxk{a b:PyData}(h:a.depth<=50∨b.depth<=50):min a.depth b.depth<=50:=by rcases h with h | h<;>omega
def QAD(u:Nat):R2:=λx y H Q=>rEq x y H Q∨QAC u x y H Q
def QAz(u:Nat):R2:=λx y H Q=>rNe x y H Q∨QAy u x y H Q
theorem QdI:OpR X (compareOp .Eq) (QAD X.A.units):=OpR.or2 Qw7 QjE
theorem Qfk:OpR X (compareOp .NotEq) (QAz X.A.units):=OpR.or2 Quh Qw3
theorem QxJ{i j:Int}:decide (V.int i=V.int j)=decide (i=j):=by
 by_cases h:i=j
 ·subst h;simp
 ·rw[decide_eq_false h,decide_eq_false (λz=>h (V.int.inj z))]
theorem QxK{i j:Bool}:decide (V.bl i=V.bl j)=decide (i=j):=by
 by_cases h:i=j
 ·subst h;simp
 ·rw[decide_eq_false h,decide_eq_false (λz=>h (V.bl.inj z))]
theorem QxI{i j:Str}:decide (V.str i=V.str j)=decide (i=j):=by
 by_cases h:i=j
 ·subst h;simp
 ·rw[decide_eq_false h,decide_eq_false (λz=>h (V.str.inj z))]
theorem Qhj{u:Nat}(hu:u+60<cLine):OpD (QAD u) eqD:=λA P H x y d1 d2 R Q ln dm hx hy h k=>by
 unfold eqD at h;split at h
 ·rw[hx.int,hy.int];exact .inl ⟨rfl,k (.bool (decide (V.int _=V.int _))) (by rw[QxJ];exact h) _ H (Same.refl H) (.bl _) Qa9⟩
 ·rw[hx.bool,hy.bool];exact .inl ⟨rfl,k (.bool (decide (V.bl _=V.bl _))) (by rw[QxK];exact h) _ H (Same.refl H) (.bl _) Qa9⟩
 ·rw[hx.str.1,hy.str.1];exact .inl ⟨rfl,k (.bool (decide (V.str _=V.str _))) (by rw[QxI];exact h) _ H (Same.refl H) (.bl _) Qa9⟩
 ·obtain⟨⟨n1,n2,dp⟩,hR⟩:=h;have:=Qxk dp;exact .inr ⟨_,_,hx.dat n1,hy.dat n2,by omega,k _ hR _ H (Same.refl H) (.bl _) Qa9⟩
theorem QkO{u:Nat}(hu:u+60<cLine):OpD (QAz u) neD:=λA P H x y d1 d2 R Q ln dm hx hy h k=>by
 unfold neD at h;split at h
 ·rw[hx.int,hy.int];exact .inl ⟨rfl,k (.bool (!decide (V.int _=V.int _))) (by rw[QxJ];exact h) _ H (Same.refl H) (.bl _) Qa9⟩
 ·rw[hx.bool,hy.bool];exact .inl ⟨rfl,k (.bool (!decide (V.bl _=V.bl _))) (by rw[QxK];exact h) _ H (Same.refl H) (.bl _) Qa9⟩
 ·rw[hx.str.1,hy.str.1];exact .inl ⟨rfl,k (.bool (!decide (V.str _=V.str _))) (by rw[QxI];exact h) _ H (Same.refl H) (.bl _) Qa9⟩
 ·obtain⟨⟨n1,n2,dp⟩,hR⟩:=h;have:=Qxk dp;exact .inr ⟨_,_,hx.dat n1,hy.dat n2,by omega,k _ hR _ H (Same.refl H) (.bl _) Qa9⟩
def Qtr(u:Nat)(neg:Bool):R2:=λx y H Q=>∃c ps ds d,y=.ref c/\H c=some (.lst ps)/\Dats H ps ds/\Dat H x d/\u+d.depth<cLine/\Q (.bl (if neg then !(ds.any λe=>Jf e d) else ds.any λe=>Jf e d)) H
theorem Quk:OpR X (compareOp .In) (Qtr X.A.in1.units false):=by
 intro pins s σ H x y v u Q I rx ry h;obtain⟨c,ps,ds,d,rfl,hc,qs,qx,hu,q⟩:=h;cases ry;obtain⟨⟨as,ra⟩,ca⟩:=Qah I.hok d x v qx rx;obtain⟨its,rv,pl,hz⟩:=I.list (SqL.of hc);obtain⟨⟨bs,rb⟩,cb⟩:=Qam I.hok ds ps its qs rv;refine SeqAt.in_listAt (eqH s.heap d) pl.isList (λw hw=>Qes ra ca rb cb hu w (Qaf.mp hw)) ⟨.bl _,H,I,rfl,?_⟩;rw[show its.toArray.any (eqH s.heap d)=its.any (eqH s.heap d) by simp,QeM rb cb];exact q
theorem QkN:OpR X (compareOp .NotIn) (Qtr X.A.in1.units true):=by
 intro pins s σ H x y v u Q I rx ry h;obtain⟨c,ps,ds,d,rfl,hc,qs,qx,hu,q⟩:=h;cases ry;obtain⟨⟨as,ra⟩,ca⟩:=Qah I.hok d x v qx rx;obtain⟨its,rv,pl,hz⟩:=I.list (SqL.of hc);obtain⟨⟨bs,rb⟩,cb⟩:=Qam I.hok ds ps its qs rv;refine Qoi (eqH s.heap d) pl.isList (λw hw=>Qes ra ca rb cb hu w (Qaf.mp hw)) ⟨.bl _,H,I,rfl,?_⟩;rw[show its.toArray.any (eqH s.heap d)=its.any (eqH s.heap d) by simp,QeM rb cb];exact q
def inD(neg:Bool)(d:PyData):PyData->(PyData->Prop)->Prop
 |.list ds,Q=>(nds ds=true/\nd d=true/\d.depth<=50)/\Q (.bool (if neg then !(ds.any λe=>Jf e d) else ds.any λe=>Jf e d))
 |.tuple ds,Q=>(nds ds=true/\nd d=true/\d.depth<=50)/\Q (.bool (if neg then !(ds.any λe=>Jf e d) else ds.any λe=>Jf e d))
 |_,_=>False
def Qzm(u:Nat)(neg:Bool):R2:=λx y H Q=>Qyv u neg x y H Q∨Qtr u neg x y H Q
theorem Qsi:OpR X (compareOp .In) (Qzm X.A.in1.units false):=OpR.or2 Qsh Quk
theorem Qeq:OpR X (compareOp .NotIn) (Qzm X.A.in1.units true):=OpR.or2 QmN QkN
theorem Qm1{u:Nat}{neg:Bool}(hu:u+60<cLine):OpD (Qzm u neg) (inD neg):=λA P H x y d1 d2 R Q ln dm hx hy h k=>by
 cases d2<;>first | exact h.elim | skip
 ·obtain⟨l,xs,rfl,e,q⟩:=hy.list;obtain⟨⟨n1,n2,n3⟩,hR⟩:=h;exact .inr ⟨l,xs,_,d1,rfl,e,Qba _ _ n1 q,hx.dat n2,by omega,k _ hR _ H (Same.refl H) (.bl _) Qa9⟩
 ·obtain⟨l,xs,rfl,e,q⟩:=hy.tuple;obtain⟨⟨n1,n2,n3⟩,hR⟩:=h;exact .inl ⟨l,xs,_,d1,rfl,e,Qba _ _ n1 q,hx.dat n2,by omega,k _ hR _ H (Same.refl H) (.bl _) Qa9⟩
def QzQ:PyData->Bool
 |.none=>true
 |_=>false
def isD:PyData->PyData->(PyData->Prop)->Prop
 |.bool a,.bool b,Q=>Q (.bool (a == b))
 |a,.none,Q=>Q (.bool (QzQ a))
 |_,_,_=>False
def QAL:PyData->PyData->(PyData->Prop)->Prop
 |.bool a,.bool b,Q=>Q (.bool (a != b))
 |a,.none,Q=>Q (.bool (!QzQ a))
 |_,_,_=>False
theorem QiA:OpR X (compareOp .IsNot) (λx y H Q=>∃a b,x=.bl a/\y=.bl b/\Q (.bl (a != b)) H):=by
 intro pins s σ H x y v u Q I rx ry h;obtain⟨a,b,rfl,rfl,q⟩:=h;cases(show v=QcR a from rx);cases(show u=QcR b from ry);refine isnot_bool ?_
 exact⟨.bl _,H,I,rfl,q⟩
def Qwq:R2:=λx y H Q=>(∃a b,x=.bl a/\y=.bl b/\Q (.bl (a != b)) H)∨(y=.non/\Q (.bl (!decide (x=.non))) H)
theorem Qer:OpR X (compareOp .IsNot) Qwq:=OpR.or2 QiA Qug
theorem QxG{A P:Addr->Prop}{H:Hp}{v:V}{d:PyData}(h:DP A P H v d):decide (v=.non)=QzQ d:=by
 rcases h with h | ⟨l,xs,ds',rfl,rfl,_⟩
 ·cases h<;>first | rfl | exact decide_eq_false (λz=>by cases z)
 ·exact decide_eq_false (λz=>by cases z)
theorem Qhi:OpD Qwq QAL:=λA P H x y d1 d2 R Q ln dm hx hy h k=>by
 unfold QAL at h;split at h
 ·rw[hx.bool,hy.bool];exact .inl ⟨_,_,rfl,rfl,k _ h _ H (Same.refl H) (.bl _) Qa9⟩
 ·refine .inr ⟨hy.none,?_⟩;rw[QxG hx];exact k _ h _ H (Same.refl H) (.bl _) Qa9
 ·exact h.elim
def ixD:PyData->PyData->(PyData->Prop)->Prop
 |.list ds,.int i,Q=>∃d,atI ds i=some d/\Q d
 |.tuple ds,.int i,Q=>∃d,atI ds i=some d/\Q d
 |_,_,_=>False
theorem QsD{A:Addr->Prop}{H:Hp}{xs:List V}{ds:List PyData}{i:Int}{d:PyData}(q:DAs A H xs ds)(h:atI ds i=some d):∃v,atI xs i=some v/\DA A H v d:=by
 unfold atI at h ⊢;rw[q.length];cases e:ixN ds.length i with
 |none=>rw[e] at h;cases h
 |some j=>
  rw[e] at h;exact q.get j d h
def QAA(K:PySem.W.Frag):R2:=λx y H Q=>Qwp K x y H Q∨Qzl K x y H Q
theorem ZU:IxR X (QAA X.K):=IxR.or2 Qev ix_tup
theorem Y4{K:PySem.W.Frag}:Qvq (QAA K) ixD:=λA P H x y d1 d2 R Q ln dm hx hy h k=>by
 cases d1<;>cases d2<;>first | exact h.elim | skip
 ·obtain⟨l,xs,rfl,e,q⟩:=hx.list;obtain⟨d,hd,hR⟩:=h;obtain⟨v,hv,dv⟩:=QsD q hd;rw[hy.int];exact .inl ⟨l,xs,_,v,rfl,rfl,SqL.of e,hv,k d hR v H (Same.refl H) dv⟩
 ·obtain⟨l,xs,rfl,e,q⟩:=hx.tuple;obtain⟨d,hd,hR⟩:=h;obtain⟨v,hv,dv⟩:=QsD q hd;rw[hy.int];exact .inr ⟨l,xs,_,v,rfl,rfl,SqT.of e,hv,k d hR v H (Same.refl H) dv⟩
def dUn(rD:PyData->(PyData->Prop)->Prop)(wa:DE):DE:=λδ Q EX=>wa δ (λd=>rD d Q) EX
def QAG:PyData->(PyData->Prop)->Prop
 |.int i,Q=>Q (.int (-i))
 |_,_=>False
variable{a b c:Q0}{wa wb wc:DE}{pos:Pos}
theorem QwU(ha:PE X a (tX .P X.K E wa)):PE X (.UnaryOp .USub a pos) (tX .F X.K E (dUn QAG wa)):=by
 refine PE.imp (Qzw QvW ha) λσ H Q ⟨F,δ,R,EX,rel,hw,k,o⟩=>?_
 refine⟨F,δ,_,EX,rel,hw,λd hd v H' rel' kp vk=>?_,o⟩;cases d<;>first | exact(show False from hd).elim | skip
 exact⟨_,DP.int vk,k _ hd _ H' rel' kp ⟨.int _,Qal⟩⟩
def QAS:DAr:=λ_ Q _=>Q []
def QnU(we:DE)(wr:DAr):DAr:=λδ Q EX=>we δ (λd=>wr δ (λds=>Q (d::ds)) EX) EX
theorem Qt3{m:Md}:PA X [] (tAr 0 m X.K E QAS):=PA.imp pa_nil λσ H Q ⟨F,δ,R,EX,rel,hw,k,o⟩=>k [] hw rfl [] H rel (Kp.refl rel) .nil
theorem Qoa{n:Nat}{m:Md}{K:PySem.W.Frag}{we:DE}{wr:DAr}(hm:∀{F:Fm}{σ:L2.St}{δ:Sts}{H H':Hp}{v:V}{d:PyData},Vok m F σ δ H H' v d->VD m (Av F σ δ) (YB σ δ) H' v d)(σ:L2.St)(H:Hp)(Q:List V->Hp->Prop)(h:tAr (n+1) m K E (QnU we wr) σ H Q):Qak (tX m K E we) (tAr n m K E wr) σ H Q:=by
 obtain⟨F,δ,R,EX,rel,hw,k,o⟩:=h;refine⟨F,δ,_,EX,rel,hw,λd hd v H' rel' kp vk=>⟨F,δ,_,EX,rel',hd,λds hds hl vs H2 rel2 kp2 vks=>?_,o⟩,o⟩;exact k _ hds (by rw[QC,hl]) (v::vs) H2 rel2 (kp.trans kp2) (.cons (kp2.vd (hm vk)) vks)
theorem QmC{n:Nat}{e:Q0}{es:List Q0}{we:DE}{wr:DAr}(he:PE X e (tX .D X.K E we))(hr:PA X es (tAr n .D X.K E wr))(hs:notStar e=true:=by rfl):PA X (e::es) (tAr (n+1) .D X.K E (QnU we wr)):=PA.imp (pa_c he hr hs) (Qoa λh=>h)
theorem QmB{n:Nat}{e:Q0}{es:List Q0}{we:DE}{wr:DAr}(he:PE X e (tX .P X.K E we))(hr:PA X es (tAr n .P X.K E wr))(hs:notStar e=true:=by rfl):PA X (e::es) (tAr (n+1) .P X.K E (QnU we wr)):=PA.imp (pa_c he hr hs) (Qoa λh=>h)
theorem Qdv{A P:Addr->Prop}{H:Hp}:∀{vs:List V}{ds:List PyData},YY (VD .D A P H) vs ds->DAs A H vs ds
 |_,_,.nil=>.nil
 |_,_,.cons a b=>.cons a (Qdv b)
def QAN(w:DAr):DE:=λδ Q EX=>w δ (λds=>Q (.tuple ds)) EX
def QAT(w:DAr):DE:=λδ Q EX=>w δ (λds=>Q (.list ds)) EX
theorem QwP{n:Nat}{es:List Q0}{w:DAr}{x1}(h:PA X es (tAr n .D X.K E w))(hn:n<=1000:=by decide):PE X (.Tuple es x1 pos) (tX .F X.K E (QAN w)):=by
 refine PE.imp (Qgf h) λσ H Q ⟨F,δ,R,EX,rel,hw,k,o⟩=>?_
 refine⟨F,δ,_,EX,rel,hw,λds hds hl vs H' rel' kp q=>?_,o⟩;have q':=Qdv q;refine⟨by rw[q'.length,hl];exact hn,λa H2 s n e=>k _ hds _ H2 (rel'.same s) (kp.trans (Kp.same rel' s)) ⟨Qe5 (λa ha=>rel'.isl ha) s e q',QdA e⟩⟩
theorem QbF{σ:L2.St}{δ:Sts}{H H':Hp}{l:Addr}(k:Kp σ δ H H')(n:H' l=none):H l=none:=by
 cases e:H l with
 |none=>rfl
 |some ob=>
  by_cases z:YB σ δ l
  ·obtain⟨m,em⟩:=k.2 l z;rw[em] at n;cases n
  ·rw[k.1 _ _ z e] at n;cases n
theorem QwV{n:Nat}{es:List Q0}{w:DAr}(h:PA X es (tAr n .D X.K E w))(hn:n<=1000:=by decide):PE X (.List es pos) (tX .F X.K E (QAT w)):=by
 refine PE.imp (pe_lstW h) λσ H Q ⟨F,δ,R,EX,rel,hw,k,o⟩=>?_
 refine⟨F,δ,_,EX,rel,hw,λds hds hl vs H' rel' kp q=>?_,o⟩;have q':=Qdv q;refine⟨by rw[q'.length,hl];exact hn,λa H2 s n e=>k _ hds _ H2 (rel'.same s) (kp.trans (Kp.same rel' s)) ⟨QdJ (λa ha=>rel'.isl ha) s n e q',QaH (QbF kp n)⟩⟩
def QdC(r:List V->Hp->VK->Prop)(rD:List PyData->(PyData->Prop)->Prop):Prop:=∀(A P:Addr->Prop)(H:Hp)(vs:List V)(ds:List PyData)(R:PyData->Prop)(Q:VK),Qda H->(∀a,A a->∃xs,H a=some (.lst xs))->YY (DP A P H) vs ds->rD ds R ->
 (∀d,R d->∀v H',Same H H'->DA A H' v d->FrV H H' v->Q v H')->r vs H Q
def dCB(rD:List PyData->(PyData->Prop)->Prop)(wa:DAr):DE:=λδ Q EX=>wa δ (λds=>rD ds Q) EX
theorem Qn1{n:Nat}{K:PySem.W.Frag}{r:List V->Hp->VK->Prop}{rD:List PyData->(PyData->Prop)->Prop}{wa:DAr}(hd:QdC r rD)(σ:L2.St)(H:Hp)(Q:VK)(h:tX .F K E (dCB rD wa) σ H Q) :
  tCB (λxs H Q=>Qda H->r xs H Q) (tAr n .P K E wa) σ H Q:=by
 obtain⟨F,δ,R,EX,rel,hw,k,o⟩:=h;refine⟨F,δ,_,EX,rel,hw,λds hds hl vs H' rel' kp q ln=>?_,o⟩;refine hd (Av F σ δ) (YB σ δ) H' vs ds R Q ln (λa ha=>rel'.isl ha) q hds λd hR v H2 s dv fr=>?_
 exact k d hR v H2 (rel'.same s) (kp.trans (Kp.same rel' s)) ⟨dv,λl e1 e2=>QbF kp (fr l e1 e2)⟩
variable{x:Str}{bid T:String}{p:Pos}{e:Q0}{es:List Q0}{n:Nat}{wr:DAr}{r:List V->Hp->VK->Prop}{rD:List PyData->(PyData->Prop)->Prop}
theorem QpA(hc:CallR X (.builtin bid) r)(hd:QdC r rD)(hg:Gl X x)(hm:X.mg x=none)(hv:bootBuiltins x=some (.builtin bid))(ha:PA X (e::es) (tAr n .P X.K E wr))(hn:x ≠ "__name__" := by decide)(hdb:(x == ("__debug__" : Str))=false:=by decide)
  (he:starEach (e::es) X.env=(false,eval e X.env)::starEach es X.env:=by rfl)(hpl:(backTo pos (starEach es X.env)).any (·.1)=false:=by rfl):PE X (.Call (.Name x p) (e::es) [] pos) (tX .F X.K E (dCB rD wr)):=
 PE.imp (pe_callB (CallR.len hc) hg hm hv ha hn hdb he hpl) (Qn1 hd)
theorem QmF(hc:CallR X (.type T) r)(hd:QdC r rD)(hg:Gl X x)(hm:X.mg x=none)(hv:bootBuiltins x=some (.type T))(ha:PA X (e::es) (tAr n .P X.K E wr))(hn:x ≠ "__name__" := by decide)(hdb:(x == ("__debug__" : Str))=false:=by decide)
  (he:starEach (e::es) X.env=(false,eval e X.env)::starEach es X.env:=by rfl)(hpl:(backTo pos (starEach es X.env)).any (·.1)=false:=by rfl):PE X (.Call (.Name x p) (e::es) [] pos) (tX .F X.K E (dCB rD wr)):=
 PE.imp (Qax (CallR.len hc) hg hm hv ha hn hdb he hpl) (Qn1 hd)
theorem pd1{A P:Addr->Prop}{H:Hp}{vs:List V}{d:PyData}(q:YY (DP A P H) vs [d]):∃v,vs=[v]/\DP A P H v d:=by
 cases q with
 |cons a b=>cases b;exact⟨_,rfl,a⟩
theorem pd2{A P:Addr->Prop}{H:Hp}{vs:List V}{d d':PyData}(q:YY (DP A P H) vs [d,d']):∃v v',vs=[v,v']/\DP A P H v d/\DP A P H v' d':=by
 cases q with
 |cons a b=>cases b with | cons b c=>cases c;exact⟨_,_,rfl,a,b⟩
def QAI:List PyData->(PyData->Prop)->Prop
 |[.list ds],Q=>Q (.int ds.length)
 |[.tuple ds],Q=>Q (.int ds.length)
 |_,_=>False
theorem Qka{K:PySem.W.Frag}:QdC (Qtq K) QAI:=λA P H vs ds R Q ln dm q h k=>by
 unfold QAI at h;split at h
 ·obtain⟨v,rfl,hv⟩:=pd1 q;obtain⟨l,xs,rfl,e,qq⟩:=hv.list;exact⟨l,xs,rfl,.inl (SqL.of e),by rw[qq.length];exact k _ h _ H (Same.refl H) (.int _) Qal⟩
 ·obtain⟨v,rfl,hv⟩:=pd1 q;obtain⟨l,xs,rfl,e,qq⟩:=hv.tuple;exact⟨l,xs,rfl,.inr (SqT.of e),by rw[qq.length];exact k _ h _ H (Same.refl H) (.int _) Qal⟩
 ·exact h.elim
theorem Qc9:CallR X (.builtin "len") (Qtq X.K):=Yo
def QuD:List PyData->(PyData->Prop)->Prop
 |[.int i,.int j],Q=>Q (.int (if j<i then j else i))
 |_,_=>False
def Qxl:List PyData->(PyData->Prop)->Prop
 |[.int i,.int j],Q=>Q (.int (if j > i then j else i))
 |_,_=>False
theorem QnZ:QdC (λxs H Q=>∃i j,xs=[.int i,.int j]/\Q (.int (if j<i then j else i)) H) QuD:=λA P H vs ds R Q ln dm q h k=>by
 unfold QuD at h;split at h
 ·obtain⟨v,v',rfl,h1,h2⟩:=pd2 q;rw[h1.int,h2.int];exact⟨_,_,rfl,k _ h _ H (Same.refl H) (.int _) Qal⟩
 ·exact h.elim
theorem Qn0:QdC (λxs H Q=>∃i j,xs=[.int i,.int j]/\Q (.int (if j > i then j else i)) H) Qxl:=λA P H vs ds R Q ln dm q h k=>by
 unfold Qxl at h;split at h
 ·obtain⟨v,v',rfl,h1,h2⟩:=pd2 q;rw[h1.int,h2.int];exact⟨_,_,rfl,k _ h _ H (Same.refl H) (.int _) Qal⟩
 ·exact h.elim
theorem Qec{A:Addr->Prop}{H:Hp}:∀{bs:List Int}{xs:List V},DAs A H xs (bs.map Qp)->xs=bs.map V.int
 |[],_,.nil=>rfl
 |b::bs,_,.cons (.int _) r=>by rw[Qec r];rfl
def QrH:List PyData->(PyData->Prop)->Prop
 |[.list ds],Q=>Q (.tuple ds)
 |[.tuple ds],Q=>Q (.tuple ds)
 |_,_=>False
def Qxm:List PyData->(PyData->Prop)->Prop
 |[.list ds],Q=>Q (.list ds)
 |[.tuple ds],Q=>Q (.list ds)
 |_,_=>False
theorem cd_tuple{K:PySem.W.Frag}:QdC (Qiv K) QrH:=λA P H vs ds R Q ln dm q h k=>by
 unfold QrH at h;split at h
 ·obtain⟨v,rfl,hv⟩:=pd1 q;obtain⟨l,xs,rfl,e,qq⟩:=hv.list;exact⟨l,xs,rfl,.inl ⟨SqL.of e,λl' H' s n e'=>k _ h _ H' s (Qe5 dm s e' qq) (QdA e')⟩⟩
 ·obtain⟨v,rfl,hv⟩:=pd1 q;obtain⟨l,xs,rfl,e,qq⟩:=hv.tuple;exact⟨l,xs,rfl,.inr ⟨SqT.of e,k _ h _ H (Same.refl H) (Qe5 dm (Same.refl H) e qq) (QdA e)⟩⟩
 ·exact h.elim
theorem Qvd{K:PySem.W.Frag}:QdC (Qme K) Qxm:=λA P H vs ds R Q ln dm q h k=>by
 unfold Qxm at h;split at h
 ·obtain⟨v,rfl,hv⟩:=pd1 q;obtain⟨l,xs,rfl,e,qq⟩:=hv.list;exact⟨l,xs,rfl,.inl (SqL.of e),λl' H' s n e'=>k _ h _ H' s (QdJ dm s n e' qq) (QaH n)⟩
 ·obtain⟨v,rfl,hv⟩:=pd1 q;obtain⟨l,xs,rfl,e,qq⟩:=hv.tuple;exact⟨l,xs,rfl,.inr (SqT.of e),λl' H' s n e'=>k _ h _ H' s (QdJ dm s n e' qq) (QaH n)⟩
 ·exact h.elim
end
section
variable{X:Cx}{E:XK}
inductive Tn where | int | bool | str | tuple | list
def Tn.s:Tn->String
 |.int => "int"
 |.bool => "bool"
 |.str => "str"
 |.tuple => "tuple"
 |.list => "list"
def isT:Tn->PyData->Bool
 |.int,.int _=>true
 |.int,.bool _=>true
 |.bool,.bool _=>true
 |.str,.str _=>true
 |.tuple,.tuple _=>true
 |.list,.list _=>true
 |_,_=>false
theorem QuP{K:PySem.W.Frag}{A P:Addr->Prop}{H:Hp}{v:V}{d:PyData}(tn:Tn)(h:DP A P H v d):∃t,TyOf K H v t/\PySem.W.kitOne K t (.type tn.s)=some (isT tn d):=by
 rcases h with h | ⟨l,xs,ds,rfl,rfl,_,e,q⟩
 ·cases h with
  |non=>exact⟨_,.non,by cases tn<;>rfl⟩
  |bl b=>exact⟨_,.bl _,by cases tn<;>rfl⟩
  |int i=>exact⟨_,.int _,by cases tn<;>rfl⟩
  |str x c=>exact⟨_,.str _,by cases tn<;>rfl⟩
  |tup n e q=>exact⟨_,.tup e,by cases tn<;>rfl⟩
  |lst n e q=>exact⟨_,.lst e,by cases tn<;>rfl⟩
  |dct n e q=>exact⟨_,.dK e,by cases tn<;>rfl⟩
 ·exact⟨_,.lst e,by cases tn<;>rfl⟩
def QxW(tn:Tn)(we:DE):DE:=λδ Q EX=>we δ (λd=>Q (.bool (isT tn d))) EX
theorem Qt5{e f:Q0}{we:DE}{p pos:Pos}(tn:Tn)(hg:Gl X "isinstance")(hm:X.mg "isinstance" = none)(he:PE X e (tX .P X.K E we))(hf:PE X f (tC (.ty tn.s)))(h1:notStar e=true:=by rfl)(h2:notStar f=true:=by rfl) :
  PE X (.Call (.Name "isinstance" p) [e,f] [] pos) (tX .F X.K E (QxW tn we)):=by
 refine PE.imp (pe_callB ZG hg hm Zc (pa_c he (pa_c hf pa_nil h2) h1) (he:=Yq h1) (hpl:=by rw[Yq h2];rfl)) λσ H Q ⟨F,δ,R,EX,rel,hw,k,o⟩=>?_
 refine⟨F,δ,_,EX,rel,hw,λd hd v H' rel' kp vk=>?_,o⟩;obtain⟨t,ty,et⟩:=QuP (K:=X.K) tn vk;exact⟨v,t,tn.s,_,rfl,ty,et,k _ hd _ H' rel' kp ⟨.bl _,Qa9⟩⟩
theorem QzC{x:Str}{pos:Pos}(tn:Tn)(hg:Gl X x)(hm:X.mg x=none)(hv:bootBuiltins x=some (.type tn.s))(hn:x ≠ "__name__" := by decide)(hd:(x == ("__debug__" : Str))=false:=by decide):PE X (.Name x pos) (tC (.ty tn.s)):=QaF (v:=.ty tn.s) hg hm hv rfl hn hd
abbrev DO:=Sts->(Option Int->Prop)->XP->Prop
def tO(K:PySem.W.Frag)(E:XK)(w:DO):TO:=λσ H Q=>∃(F:Fm)(δ:Sts)(R:Option Int->Prop)(EX:XP),Rel K F σ H δ/\w δ R EX/\(∀d,R d->∀H',Rel K F σ H' δ->Kp σ δ H H'->Q d H')/\Out F E EX
def dNo:DO:=λ_ Q _=>Q none
def dSo(we:DE):DO:=λδ Q EX=>we δ (λd=>match d with
 |.int i=>Q (some i)
 |_=>False) EX
theorem PO.imp{e:Option Q0}{t t':TO}(h:PO X e t)(i:∀σ H Q,t' σ H Q->t σ H Q):PO X e t':=λpins s σ H Q I q=>h pins s σ H Q I (i σ H Q q)
theorem Qpu:PO X none (tO X.K E dNo):=PO.imp QtE λσ H Q ⟨F,δ,R,EX,rel,hw,k,o⟩=>k _ hw H rel (Kp.refl rel)
theorem Qpt{e:Q0}{we:DE}(he:PE X e (tX .P X.K E we)):PO X (some e) (tO X.K E (dSo we)):=by
 refine PO.imp (QtD he) λσ H Q ⟨F,δ,R,EX,rel,hw,k,o⟩=>?_
 refine⟨F,δ,_,EX,rel,hw,λd hd v H' rel' kp vk=>?_,o⟩;cases d<;>first | exact(show False from hd).elim | skip
 exact⟨_,DP.int vk,k _ hd H' rel' kp⟩
def cutD(xs:List PyData)(lo hi:Option Int):List PyData:=(xs.drop (HT.sIx xs.length 0 lo)).take (HT.sIx xs.length xs.length hi - HT.sIx xs.length 0 lo)
theorem QnX{A:Addr->Prop}{H:Hp}{xs:List V}{ds:List PyData}(q:DAs A H xs ds)(lo hi:Option Int):DAs A H (Qj7 xs lo hi) (cutD ds lo hi):=by
 unfold Qj7 cutD;rw[q.length];exact(q.drop _).take _
def slD(d:PyData)(lo hi:Option Int)(Q:PyData->Prop):Prop:=
 match d with
 |.list ds=>Q (.list (cutD ds lo hi))
 |.tuple ds=>Q (.tuple (cutD ds lo hi))
 |_=>False
def dSl(we:DE)(wl wh:DO):DE:=λδ Q EX=>we δ (λd=>wl δ (λlo=>wh δ (λhi=>slD d lo hi Q) EX) EX) EX
def Qwm(K:PySem.W.Frag):V->Option Int->Option Int->Hp->VK->Prop:=λx a b H Q=>QAv x a b H Q∨Qwl K x a b H Q
theorem Qpy{e:Q0}{lo hi:Option Q0}{we:DE}{wl wh:DO}{p2 pos:Pos}(he:PE X e (tX .P X.K E we))(hl:PO X lo (tO X.K E wl))(hh:PO X hi (tO X.K E wh)):PE X (.Subscript e (.Slice lo hi none p2) pos) (tX .F X.K E (dSl we wl wh)):=by
 refine PE.imp (Qpg (r:=Qwm X.K) (SlR.or2 Qwa QoT) he hl hh) λσ H Q ⟨F,δ,R,EX,rel,hw,k,o⟩=>?_
 refine⟨F,δ,_,EX,rel,hw,λd hd v H1 rel1 kp1 vk=>⟨F,δ,_,EX,rel1,hd,λa ha H2 rel2 kp2=>⟨F,δ,_,EX,rel2,ha,λb hb H3 rel3 kp3=>?_,o⟩,o⟩,o⟩;have v3:=kp3.dp (kp2.dp vk);have K3:=(kp1.trans kp2).trans kp3;cases d<;>first | exact(show False from hb).elim | skip
 ·obtain⟨l,xs,rfl,e,q⟩:=DP.list v3;exact .inr ⟨l,xs,rfl,SqL.of e,λp H' s n e'=>k _ hb _ H' (rel3.same s) (K3.trans (Kp.same rel3 s)) ⟨QdJ (λa ha=>rel3.isl ha) s n e' (QnX q _ _),QaH (QbF K3 n)⟩⟩
 ·obtain⟨l,xs,rfl,e,q⟩:=DP.tuple v3;exact .inl ⟨l,xs,rfl,e,λp H' s e'=>k _ hb _ H' (rel3.same s) (K3.trans (Kp.same rel3 s)) ⟨Qe5 (λa ha=>rel3.isl ha) s e' (QnX q _ _),QdA e'⟩⟩
abbrev DF:=List Sl->(PyData->Prop)->XP->Prop
def Kq(pt:Addr->Prop)(H H':Hp):Prop:=(∀b o,¬pt b->H b=some o->H' b=some o)/\∀p,pt p->∃n,H' p=some (.lst [.int n])
def ZP(fr:Bool)(f:DF):Sp:=λvs H Q Ex=>∃(A pt:Addr->Prop)(args:List Sl)(R:PyData->Prop)(EX:XP),(∀a,A a->∃xs,H a=some (.lst xs))/\(∀p,pt p->A p/\∃n,H p=some (.lst [.int n]))/\YY (Qi7 A pt H) vs args/\f args R EX /\
 (∀d,R d->∀v H',Kq pt H H'->DA A H' v d->(fr=true->FrV H H' v)->Q v H')/\∀C,EX C->∀H',Kq pt H H'->Ex (.ref C) none H'
def QAu:DSl:=λ_ Q _=>Q []
def sV(we:DE)(wr:DSl):DSl:=λδ Q EX=>we δ (λd=>wr δ (λds=>Q (.v d::ds)) EX) EX
def Qze(i:Nat)(wr:DSl):DSl:=λδ Q EX=>match δ[i]? with
 |some .pot=>wr δ (λds=>Q (.pot::ds)) EX
 |_=>False
theorem QtU:PA X [] (tAs X.K E QAu):=PA.imp pa_nil λσ H Q ⟨F,δ,R,EX,rel,hw,k,o⟩=>k [] hw [] H rel (Kp.refl rel) .nil
theorem Qzy{e:Q0}{es:List Q0}{we:DE}{wr:DSl}(he:PE X e (tX .D X.K E we))(hr:PA X es (tAs X.K E wr))(hs:notStar e=true:=by rfl):PA X (e::es) (tAs X.K E (sV we wr)):=by
 refine PA.imp (pa_c he hr hs) λσ H Q ⟨F,δ,R,EX,rel,hw,k,o⟩=>?_
 refine⟨F,δ,_,EX,rel,hw,λd hd v H' rel' kp vk=>⟨F,δ,_,EX,rel',hd,λds hds vs H2 rel2 kp2 vks=>?_,o⟩,o⟩;exact k _ hds (v::vs) H2 rel2 (kp.trans kp2) (.cons (kp2.da vk) vks)
theorem QtR{e:Q0}{es:List Q0}{i:Nat}{wr:DSl}(he:PE X e (Qbs i))(hr:PA X es (tAs X.K E wr))(hs:notStar e=true:=by rfl):PA X (e::es) (tAs X.K E (Qze i wr)):=by
 refine PA.imp (pa_c he hr hs) λσ H Q ⟨F,δ,R,EX,rel,hw,k,o⟩=>?_
 unfold Qze at hw;split at hw
 ·rename_i hd
  obtain⟨x,hx⟩:=rel.lt hd;obtain⟨p,n,rfl,e,q⟩:=rel.sl i _ _ hx hd;refine⟨.ref p,hx,F,δ,_,EX,rel,hw,λds hds vs H2 rel2 kp2 vks=>?_,o⟩;exact k _ hds (.ref p::vs) H2 rel2 kp2 (.cons ⟨p,rfl,i,hx,hd⟩ vks)
 ·exact hw.elim
def QnV(f:DF)(wa:DSl):DE:=λδ Q EX=>wa δ (λargs=>f args Q EX) EX
theorem Kq.kp{K:PySem.W.Frag}{F:Fm}{σ:L2.St}{δ:Sts}{H H':Hp}(k:Kq (YB σ δ) H H'):Kp σ δ H H':=k
theorem QhN{m:Md}{fr:Bool}{K:PySem.W.Frag}{f:DF}{wa:DSl}(hm:∀{F:Fm}{σ:L2.St}{δ:Sts}{H H':Hp}{v:V}{d:PyData},DA (Av F σ δ) H' v d->(fr=true->FrV H H' v)->Vok m F σ δ H H' v d)(σ:L2.St)(H:Hp)(Q:VK)(h:tX m K E (QnV f wa) σ H Q):QlY (ZP fr f) [] E (tAs K E wa) σ H Q:=by
 obtain⟨F,δ,R,EX,rel,hw,k,o⟩:=h;refine⟨F,δ,_,EX,rel,hw,λargs ha vs H1 rel1 kp1 q=>?_,o⟩;show ZP fr f (vs++[]) H1 Q E;rw[Z5];refine⟨Av F σ δ,YB σ δ,args,R,EX,λa ha=>rel1.isl ha,λp hp=>⟨Qai hp,(Kp.refl rel1).2 p hp⟩,q,ha,λd hd v H' kq dv fr=>?_,λC hC H' kq=>o C hC H' (rel1.kp kq).ke⟩;exact k d hd v H' (rel1.kp kq) (kp1.trans kq) (hm dv λz l e1 e2=>QbF kp1 (fr z l e1 e2))
variable{CX:CXT}{k:Nat}{f:Addr}{fd:Q6}{ps:List Str}{x:Str}{p pos:Pos}{e:Q0}{es:List Q0}{fD:DF}{wa:DSl}
theorem Qt8(G:FnOk X.prog X.w X.K X.mg X.base CX k f fd ps (ZP false fD))(hr:Room k X.A)(hg:Gl X x)(hm:X.mg x=some (.ref f))(hk:PySem.W.keepIn X.K (.ref f)=true)(hb:Binds X.K fd ps [])(hx:QcE CX X E)
  (ha:PA X (e::es) (tAs X.K E wa))(hdb:(x == ("__debug__" : Str))=false:=by decide)(he:starEach (e::es) X.env=(false,eval e X.env)::starEach es X.env:=by rfl)(hpl:(backTo pos (starEach es X.env)).any (·.1)=false:=by rfl) :
  PE X (.Call (.Name x p) (e::es) [] pos) (tX .D X.K E (QnV fD wa)):=PE.imp (QcL G hr hg hm hk hb .nil hx ha hdb he hpl) (QhN λh _=>h)
theorem Qpz(G:FnOk X.prog X.w X.K X.mg X.base CX k f fd ps (ZP true fD))(hr:Room k X.A)(hg:Gl X x)(hm:X.mg x=some (.ref f))(hk:PySem.W.keepIn X.K (.ref f)=true)(hb:Binds X.K fd ps [])(hx:QcE CX X E)
  (ha:PA X (e::es) (tAs X.K E wa))(hdb:(x == ("__debug__" : Str))=false:=by decide)(he:starEach (e::es) X.env=(false,eval e X.env)::starEach es X.env:=by rfl)(hpl:(backTo pos (starEach es X.env)).any (·.1)=false:=by rfl) :
  PE X (.Call (.Name x p) (e::es) [] pos) (tX .F X.K E (QnV fD wa)):=PE.imp (QcL G hr hg hm hk hb .nil hx ha hdb he hpl) (QhN λh z=>⟨h,z rfl⟩)
def scal:PyData->Bool
 |.list _=>false
 |.tuple _=>false
 |.dict _=>false
 |_=>true
theorem Qtf{A A':Addr->Prop}{H:Hp}{v:V}{d:PyData}(h:DA A H v d)(s:scal d=true):DA A' H v d:=by
 cases h with
 |non=>exact .non
 |bl b=>exact .bl b
 |int i=>exact .int i
 |str x c=>exact .str x c
 |tup _ _ _=>cases s
 |lst _ _ _=>cases s
 |dct _ _ _=>cases s
def QBa(P:Addr->Prop)(H:Hp)(vs:List V)(a:Addr):Prop:=V.ref a∈vs/\¬P a
theorem Qhs{A P:Addr->Prop}{H:Hp}(ws:List V):∀{vs:List V}{ds:List PyData},(∀v∈vs,v∈ws)->YY (VD .P A P H) vs ds->YY (Qi7 (λa=>A a/\¬QBa P H ws a) (λ_=>False) H) vs (ds.map Sl.v)
 |_,_,_,.nil=>.nil
 |v::vs,d::ds,m,.cons a b=>by
  refine .cons ?_ (Qhs ws (λv hv=>m v (QX _ hv)) b)
  rcases a with a | ⟨l,xs,ds,rfl,rfl,n,e,q⟩
  ·exact a.mv (λ_ _ _ e=>e) λa z=>.inl z.1
  ·exact .lst (λz=>z.2 ⟨m _ JC,n⟩) e (q.mv (λ_ _ _ e=>e) λa z=>.inl z.1)
end
abbrev DG:=PyData->Sts->(Sts->Prop)->Prop
def tG(ix:List Nat)(K:PySem.W.Frag)(w:DG):TG:=λv σ H Q=>∃(F:Fm)(δ:Sts)(d:PyData)(R:Sts->Prop),Rel K F σ H δ/\DA (Av F σ δ) H v d/\w d δ R /\
 ∀δ',R δ'->∀σ',Rel K F σ' H δ'->Stp F σ H δ σ' H δ'->σ'.length=σ.length->(∀j,j∉ix->σ'[j]? = σ[j]?)->Q σ' H
theorem YT{α:Type}{l:List α}{i j:Nat}{x:α}(h:j≠i):(l.set i x)[j]? = l[j]? := Qdg (QaB h)
theorem set_eq{α:Type}{l:List α}{i:Nat}{x y:α}(h:(l.set i x)[i]? = some y):y=x:=by
 rw[QeO] at h;simp only[if_true] at h;split at h
 ·exact(Qx h).symm
 ·cases h
theorem QdN{F:Fm}{σ:L2.St}{δ:Sts}{i:Nat}{o:Option V}{d:PyData}{a:Addr}(h:Av F (σ.set i o) (δ.set i (.v d)) a):Av F σ δ a:=by
 rcases h with h | ⟨j,h1,h2⟩
 ·exact .inl h
 ·by_cases z:j=i
  ·subst z;rcases h2 with h2 | ⟨ds,h2⟩<;>cases set_eq h2
  ·rw[YT z] at h1 h2;exact .inr ⟨j,h1,h2⟩
theorem Rel.setv{K:PySem.W.Frag}{F:Fm}{σ:L2.St}{H:Hp}{δ:Sts}(r:Rel K F σ H δ){i:Nat}{v:V}{d:PyData}(q:DA (Av F σ δ) H v d):Rel K F (σ.set i (some v)) H (δ.set i (.v d)) where
 len:=by rw[Zq,Zq];exact r.len
 dom:=r.dom
 dom0:=r.dom0
 pt0:=r.pt0
 kx:=r.kx
 sl:=λj o x h1 h2=>by
  have wk:∀{v:V}{d':PyData},DA (Av F σ δ) H v d'->DA (Av F (σ.set i (some v)) (δ.set i (.v d))) H v d':=λh=>h.mv (λ_ _ _ e=>e) λa z=>.inl (QdN z)
  by_cases z:j=i
  ·subst z;cases set_eq h1;cases set_eq h2;exact⟨v,rfl,q.mv (λ_ _ _ e=>e) λa z=>.inl (QdN z)⟩
  ·rw[YT z] at h1 h2;have h:=r.sl j o x h1 h2;cases x with
   |no=>trivial
   |v d=>obtain⟨v',e,q'⟩:=h;exact⟨v',e,q'.mv (λ_ _ _ e=>e) λa z=>.inl (QdN z)⟩
   |own ds=>obtain⟨l,xs,e,e2,q',f⟩:=h;exact⟨l,xs,e,e2,q'.mv (λ_ _ _ e=>e) λa z=>.inl (QdN z),f⟩
   |pk ds=>obtain⟨l,xs,e,e2,q',f⟩:=h;exact⟨l,xs,e,e2,q'.mv (λ_ _ _ e=>e) λa z=>.inl (QdN z),f⟩
   |pot=>exact h
   |scr=>exact h
 inj:=λj k a ds h1 h2 ⟨h3,h4⟩=>by
  by_cases z:j=i
  ·subst z;cases set_eq h1
  ·rw[YT z] at h1 h2;by_cases z2:k=i
   ·subst z2;rcases h4 with h4 | ⟨ds,h4⟩<;>cases set_eq h4
   ·rw[YT z2] at h3 h4;exact r.inj j k a ds h1 h2 ⟨h3,h4⟩
theorem Stp.setv{F:Fm}{σ:L2.St}{H:Hp}{δ:Sts}{i:Nat}{o:Option V}{d:PyData}:Stp F σ H δ (σ.set i o) H (δ.set i (.v d)):=⟨λ_ _ _ e=>e,λa z=>.inl (QdN z)⟩
def gN(i:Nat):DG:=λd δ Q=>Q (δ.set i (.v d))
def Qjo:Sts->List Nat->List PyData->Sts
 |δ,i::is,d::ds=>Qjo (δ.set i (.v d)) is ds
 |δ,_,_=>δ
def gTN(is:List Nat):DG:=λd δ Q=>match d with
 |.tuple ds=>ds.length=is.length/\Q (Qjo δ is ds)
 |_=>False
section
variable{X:Cx}{E:XK}
theorem PG.imp{e:Q0}{t t':TG}(h:PG X e t)(i:∀v σ H Q,t' v σ H Q->t v σ H Q):PG X e t':=λpins s σ H v u Q I r q=>h pins s σ H v u Q I r (i v σ H Q q)
theorem Qpx{e:Q0}{i:Nat}(h:PG X e (Qbk i)):PG X e (tG [i] X.K (gN i)):=PG.imp h λv σ H Q ⟨F,δ,d,R,rel,dv,hw,k⟩=>
 k _ hw _ (rel.setv dv) Stp.setv (Zq ..) λj hj=>YT λz=>hj (by rw[z];exact Q5.mpr rfl)
def gNs:List Nat->TGs
 |[]=>QzX
 |i::is=>Qp8 (Qbk i) (gNs is)
theorem QjZ{K:PySem.W.Frag}{F:Fm}{H:Hp}{Q:L2.St->Hp->Prop}:∀(is:List Nat)(vs:List V)(ds:List PyData)(σ:L2.St)(δ:Sts),ds.length=is.length->Rel K F σ H δ->DAs (Av F σ δ) H vs ds ->
  (∀σ',Rel K F σ' H (Qjo δ is ds)->Stp F σ H δ σ' H (Qjo δ is ds)->σ'.length=σ.length->(∀j,j∉is->σ'[j]? = σ[j]?)->Q σ' H)->gNs is vs σ H Q
 |[],vs,ds,σ,δ,hl,rel,q,k=>by
  cases ds with
  |nil=>cases q;exact⟨rfl,k σ rel Stp.refl rfl λ_ _=>rfl⟩
  |cons d ds=>cases hl
 |i::is,vs,ds,σ,δ,hl,rel,q,k=>by
  cases ds with
  |nil=>cases hl
  |cons d ds=>
   cases q with
   |@cons v vs _ _ q qs=>
    refine⟨v,vs,rfl,?_⟩;refine QjZ is vs ds _ _ (by simpa using hl) (rel.setv q) (qs.mv (λ_ _ _ e=>e) λa z=>.inl (QdN z)) λσ' r' st hl' hj=>?_
    refine k σ' r' (Stp.setv.trans st) (by rw[hl',Zq]) λj hn=>?_
    rw[hj j (λz=>hn (QX _ z)),YT (λz=>hn (by rw[z];exact JC))]
theorem Qt2{e:Q0}{n:Nat}{is:List Nat}(h:PG X e (QzW X.K n (gNs is)))(hn:is.length=n:=by rfl):PG X e (tG is X.K (gTN is)):=PG.imp h λv σ H Q ⟨F,δ,d,R,rel,dv,hw,k⟩=>by
 unfold gTN at hw;split at hw
 ·obtain⟨hl,hR⟩:=hw;cases dv with
  |@tup a xs ds na e q=>
   exact⟨a,xs,rfl,SqT.of e,by rw[q.length,hl,hn],QjZ is xs _ σ δ hl rel q λσ' r' st hl' hj=>k _ hR σ' r' st hl' hj⟩
 ·exact hw.elim
def ItD(A S:Addr->Prop)(J:It)(items:List PyData)(H1:Hp):Prop:=items.length<=sizeLine/\∀(H2:Hp)(A':Addr->Prop),(∀b o,S b->H1 b=some o->H2 b=some o)->(∀b,A' b->A b∨H1 b=none)->(∀a,A' a->∃xs,H2 a=some (.lst xs)) ->
 (∀(i:Nat) d,items[i]? = some d->J.go i H2/\∀x H3,J.yld i H2 x H3->Same H2 H3/\DA A' H3 x d)/\J.stop items.length H2
def Sx(m:Md)(F:Fm)(σ:L2.St)(δ:Sts)(b:Addr):Prop:=
 match m with
 |.P=>¬YB σ δ b
 |_=>¬Av F σ δ b
abbrev DI:=Sts->(List PyData->Prop)->XP->Prop
def tI(m:Md)(K:PySem.W.Frag)(E:XK)(w:DI):TI:=λσ H R=>∃(F:Fm)(δ:Sts)(R':List PyData->Prop)(EX:XP),Rel K F σ H δ/\w δ R' EX/\(∀items,R' items->∀J H',Rel K F σ H' δ->Kp σ δ H H'->ItD (Av F σ δ) (Sx m F σ δ) J items H'->R J H')/\Out F E EX
theorem PI.imp{tg e:Q0}{t t':TI}(h:PI X tg e t)(i:∀σ H R,Qda H->t' σ H R->t σ H R):PI X tg e t':=λpins s σ H R I q=>h pins s σ H R I (i σ H R (Inv.lens I) q)
theorem PI.len{tg e:Q0}{t:TI}(h:PI X tg e t):PI X tg e (λσ H R=>t σ H λJ H1=>Qda H1->R J H1):=λpins s σ H R I q=>by
 refine thn (h pins s σ H _ I q) λv s1 h1=>thn h1 λitv s2 h2=>?_
 obtain⟨it,fp,tn,J,H',e,I',T,t0,fo,hR⟩:=h2;exact⟨it,fp,tn,J,H',e,I',T,t0,fo,hR (Inv.lens I')⟩
def QAV(w:DE):DI:=λδ Q EX=>w δ (λd=>match d with
 |.list ds=>Q ds
 |_=>False) EX
def QAU(w:DE):DI:=λδ Q EX=>w δ (λd=>match d with
 |.tuple ds=>Q ds
 |_=>False) EX
theorem Qd4{A S:Addr->Prop}{H H2:Hp}{A':Addr->Prop}{xs:List V}{ds:List PyData}(sA:∀b,¬A b->S b)(k:∀b o,S b->H b=some o->H2 b=some o)(m:∀b,A' b->A b∨H b=none)(q:DAs A H xs ds):DAs A' H2 xs ds:=q.mv (λa o n e=>k a o (sA a n) e) m
theorem QzO{K:PySem.W.Frag}{A S:Addr->Prop}{H:Hp}{l:Addr}{xs:List V}{ds:List PyData}(sA:∀b,¬A b->S b)(sl:S l)(e:H l=some (.lst xs))(q:DAs A H xs ds)(ln:xs.length<=sizeLine):ItD A S (Itl K l) ds H:=by
 refine⟨by rw[<- q.length];exact ln,λH2 A' k m dm=>⟨λi d hd=>?_,xs,SqL.of (k _ _ sl e),by rw[q.length];exact Qg _⟩⟩;obtain⟨x,hx,dx⟩:=(Qd4 sA k m q).get i d hd;refine⟨⟨xs,x,SqL.of (k _ _ sl e),hx⟩,λy H3 ⟨e3,hy⟩=>?_⟩;subst e3;have:=hy xs (SqL.of (k _ _ sl e));rw[hx] at this;cases this;exact⟨Same.refl _,dx⟩
theorem QzM{K:PySem.W.Frag}{A S:Addr->Prop}{H:Hp}{l:Addr}{xs:List V}{ds:List PyData}(sA:∀b,¬A b->S b)(sl:S l)(e:H l=some (.tup xs))(q:DAs A H xs ds)(ln:xs.length<=sizeLine):ItD A S (Itt K l) ds H:=by
 refine⟨by rw[<- q.length];exact ln,λH2 A' k m dm=>⟨λi d hd=>?_,xs,SqT.of (k _ _ sl e),by rw[q.length];exact Qg _⟩⟩;obtain⟨x,hx,dx⟩:=(Qd4 sA k m q).get i d hd;refine⟨⟨xs,x,SqT.of (k _ _ sl e),hx⟩,λy H3 ⟨e3,hy⟩=>?_⟩;subst e3;have:=hy xs (SqT.of (k _ _ sl e));rw[hx] at this;cases this;exact⟨Same.refl _,dx⟩
theorem QkA{m:Md}{F:Fm}{σ:L2.St}{δ:Sts}{b:Addr}(h:¬Av F σ δ b):Sx m F σ δ b:=by
 cases m
 ·exact h
 ·exact λz=>h (Qai z)
 ·exact h
theorem stL{m:Md}{F:Fm}{σ:L2.St}{δ:Sts}{H H':Hp}{v:V}{ds:List PyData}(h:VD m (Av F σ δ) (YB σ δ) H v (.list ds)):∃l xs,v=.ref l/\Sx m F σ δ l/\H l=some (.lst xs)/\DAs (Av F σ δ) H xs ds:=by
 cases m
 ·cases h with | @lst a xs _ n e q=>exact⟨a,xs,rfl,n,e,q⟩
 ·rcases h with h | ⟨l,xs,ds',rfl,e,n,e2,q⟩
  ·cases h with | @lst a xs _ n e q=>exact⟨a,xs,rfl,QkA n,e,q⟩
  ·cases e;exact⟨l,xs,rfl,n,e2,q⟩
 ·cases h with | @lst a xs _ n e q=>exact⟨a,xs,rfl,n,e,q⟩
theorem stT{m:Md}{F:Fm}{σ:L2.St}{δ:Sts}{H H':Hp}{v:V}{ds:List PyData}(h:VD m (Av F σ δ) (YB σ δ) H v (.tuple ds)):∃l xs,v=.ref l/\Sx m F σ δ l/\H l=some (.tup xs)/\DAs (Av F σ δ) H xs ds:=by
 cases m
 ·cases h with | @tup a xs _ n e q=>exact⟨a,xs,rfl,n,e,q⟩
 ·rcases h with h | ⟨l,xs,ds',rfl,e,n,e2,q⟩
  ·cases h with | @tup a xs _ n e q=>exact⟨a,xs,rfl,QkA n,e,q⟩
  ·cases e
 ·cases h with | @tup a xs _ n e q=>exact⟨a,xs,rfl,n,e,q⟩
theorem Qjg{m:Md}{F:Fm}{σ:L2.St}{δ:Sts}{H H':Hp}{v:V}{d:PyData}(h:Vok m F σ δ H H' v d):VD m (Av F σ δ) (YB σ δ) H' v d:=by
 cases m
 ·exact h
 ·exact h
 ·exact h.1
variable{m:Md}{tg e e':Q0}{w w':DE}{p pos tpos:Pos}
theorem Qpw(h:PE X e (tX m X.K E w)):PI X tg e (tI m X.K E (QAV w)):=by
 refine PI.imp (PI.len (QtG h)) λσ H R _ ⟨F,δ,R',EX,rel,hw,k,o⟩=>?_
 refine⟨F,δ,_,EX,rel,hw,λd hd v H' rel' kp vk=>?_,o⟩;cases d<;>first | exact(show False from hd).elim | skip
 obtain⟨l,xs,rfl,sl,e,q⟩:=stL (H':=H') (Qjg vk);exact⟨l,rfl,⟨xs,SqL.of e⟩,λln=>k _ hd _ H' rel' kp (QzO (λb=>QkA) sl e q (ln _ _ (.inl e)))⟩
theorem Qt1(h:PE X e (tX m X.K E w)):PI X tg e (tI m X.K E (QAU w)):=by
 refine PI.imp (PI.len (QwI h)) λσ H R _ ⟨F,δ,R',EX,rel,hw,k,o⟩=>?_
 refine⟨F,δ,_,EX,rel,hw,λd hd v H' rel' kp vk=>?_,o⟩;cases d<;>first | exact(show False from hd).elim | skip
 obtain⟨l,xs,rfl,sl,e,q⟩:=stT (H':=H') (Qjg vk);exact⟨l,rfl,⟨xs,SqT.of e⟩,λln=>k _ hd _ H' rel' kp (QzM (λb=>QkA) sl e q (ln _ _ (.inr e)))⟩
def Qff(lo:Int)(n:Nat):List PyData:=(Qf n).map λ(i:Nat)=>.int (lo+i)
theorem QcI{lo:Int}{n i:Nat}{d:PyData}(h:(Qff lo n)[i]? = some d):i<n/\d=.int (lo+i):=by
 unfold Qff at h;rw[Qo] at h;by_cases z:i<n
 ·rw[Ja z] at h;exact⟨z,(Qx h).symm⟩
 ·rw[QN (by rw[Qr];omega)] at h;cases h
theorem Qf6{lo:Int}{n:Nat}:(Qff lo n).length=n:=by unfold Qff;rw[Qa,Qr]
theorem QzN{A S:Addr->Prop}{H:Hp}{lo:Int}{n:Nat}(hn:n<=1000000):ItD A S (Itr lo n) (Qff lo n) H:=by
 refine⟨by rw[Qf6];exact QY hn Qhr,λH2 A' k m dm=>⟨λi d hd=>?_,by rw[Qf6];exact Qg _⟩⟩;obtain⟨hi,rfl⟩:=QcI hd;exact⟨hi,λx H3 ⟨e1,e2⟩=>by subst e1 e2;exact⟨Same.refl _,.int _⟩⟩
def QxS(w:DE):DI:=λδ Q EX=>w δ (λd=>match d with
 |.int j=>(-1000000<=j/\j<=1000000)/\Q (Qff 0 j.toNat)
 |_=>False) EX
theorem Qpv(hg:Gl X "range")(hm:X.mg "range" = none)(h:PE X e (tX .P X.K E w))(hs:notStar e=true:=by rfl):PI X tg (.Call (.Name "range" p) [e] [] pos) (tI m X.K E (QxS w)):=by
 refine PI.imp (Qb9 hg hm (pa_c h pa_nil hs) (by rw[Yq hs];rfl)) λσ H R _ ⟨F,δ,R',EX,rel,hw,k,o⟩=>?_
 refine⟨F,δ,_,EX,rel,hw,λd hd v H' rel' kp vk=>?_,o⟩;cases d<;>first | exact(show False from hd).elim | skip
 obtain⟨⟨h1,h2⟩,hR⟩:=hd;rw[DP.int vk];exact⟨_,rfl,by omega,by omega,k _ hR _ H' rel' kp (QzN (by omega))⟩
theorem QmI{A':Addr->Prop}{H2:Hp}{r:Addr}{x y:V}{d d':PyData}(dm:∀a,A' a->∃xs,H2 a=some (.lst xs))(n:H2 r=none)(q:DA A' H2 x d)(q':DA A' H2 y d'):DA A' (upd H2 r (.tup [x,y])) (.ref r) (.tuple [d,d']):=
 .tup (λz=>by obtain⟨xs,e⟩:=dm r z;rw[n] at e;cases e) Jg (.cons (q.same (Jn n)) (.cons (q'.same (Jn n)) .nil))
def QdU(ds:List PyData):List PyData:=(Qf ds.length).map λ(i:Nat)=>.tuple [.int i,ds.getD i .none]
theorem Qco{ds:List PyData}{i:Nat}{d:PyData}(h:(QdU ds)[i]? = some d):∃e,ds[i]? = some e/\d=.tuple [.int i,e]:=by
 unfold QdU at h;rw[Qo] at h;by_cases z:i<ds.length
 ·rw[Ja z] at h;refine⟨ds[i],Qe z,?_⟩;rw[<- Qx h];show Jz [.int i,ds.getD i .none]=_;rw[Qi,Qe z];rfl
 ·rw[QN (by rw[Qr];omega)] at h;cases h
theorem Qcn{ds:List PyData}:(QdU ds).length=ds.length:=by unfold QdU;rw[Qa,Qr]
def QAY(w:DE):DI:=λδ Q EX=>w δ (λd=>match d with
 |.list ds=>Q (QdU ds)
 |_=>False) EX
def QAX(w:DE):DI:=λδ Q EX=>w δ (λd=>match d with
 |.tuple ds=>Q (QdU ds)
 |_=>False) EX
variable{elts:List Q0}
theorem QmA{x1}(hg:Gl X "enumerate")(hm:X.mg "enumerate" = none)(h:PE X e (tX m X.K E w))(hs:notStar e=true:=by rfl):PI X (.Tuple elts x1 tpos) (.Call (.Name "enumerate" p) [e] [] pos) (tI m X.K E (QAY w)):=by
 refine PI.imp (PI.len (QtH hg hm (pa_c h pa_nil hs) (by rw[Yq hs];rfl))) λσ H R _ ⟨F,δ,R',EX,rel,hw,k,o⟩=>?_
 refine⟨F,δ,_,EX,rel,hw,λd hd v H' rel' kp vk=>?_,o⟩;cases d<;>first | exact(show False from hd).elim | skip
 obtain⟨l,xs,rfl,sl,e,q⟩:=stL (H':=H') (Qjg vk);refine⟨l,xs,rfl,e,λln=>k _ hd _ H' rel' kp ⟨by rw[Qcn,<- q.length];exact ln _ _ (.inl e),λH2 A' kk mm dm=>⟨λi d hd'=>?_,xs,kk _ _ sl e,by rw[Qcn,q.length];exact Qg _⟩⟩⟩;obtain⟨d',hd2,rfl⟩:=Qco hd';obtain⟨x,hx,dx⟩:=(Qd4 (S:=Sx m F σ δ) (λb=>QkA) kk mm q).get i d' hd2;refine⟨⟨xs,x,kk _ _ sl e,hx⟩,λy H3 ⟨r,x',nr,hx',e1,e2⟩=>?_⟩;subst e1 e2;have:=hx' xs (kk _ _ sl e);rw[hx] at this;cases this;exact⟨Jn nr,QmI dm nr (.int _) dx⟩
theorem Qmz{x1}(hg:Gl X "enumerate")(hm:X.mg "enumerate" = none)(h:PE X e (tX m X.K E w))(hs:notStar e=true:=by rfl):PI X (.Tuple elts x1 tpos) (.Call (.Name "enumerate" p) [e] [] pos) (tI m X.K E (QAX w)):=by
 refine PI.imp (PI.len (Qpf hg hm (pa_c h pa_nil hs) (by rw[Yq hs];rfl))) λσ H R _ ⟨F,δ,R',EX,rel,hw,k,o⟩=>?_
 refine⟨F,δ,_,EX,rel,hw,λd hd v H' rel' kp vk=>?_,o⟩;cases d<;>first | exact(show False from hd).elim | skip
 obtain⟨l,xs,rfl,sl,e,q⟩:=stT (H':=H') (Qjg vk);refine⟨l,xs,rfl,e,λln=>k _ hd _ H' rel' kp ⟨by rw[Qcn,<- q.length];exact ln _ _ (.inr e),λH2 A' kk mm dm=>⟨λi d hd'=>?_,xs,kk _ _ sl e,by rw[Qcn,q.length]⟩⟩⟩;obtain⟨d',hd2,rfl⟩:=Qco hd';obtain⟨x,hx,dx⟩:=(Qd4 (S:=Sx m F σ δ) (λb=>QkA) kk mm q).get i d' hd2;refine⟨⟨xs,x,kk _ _ sl e,hx⟩,λy H3 ⟨r,x',nr,hx',e1,e2⟩=>?_⟩;subst e1 e2;have:=hx' xs (kk _ _ sl e);rw[hx] at this;cases this;exact⟨Jn nr,QmI dm nr (.int _) dx⟩
end
def Qvf:Option Sl->Sl
 |some (.v d)=>.v d
 |some (.own ds)=>.pk ds
 |some (.pk ds)=>.pk ds
 |some .pot=>.pot
 |_=>.no
def Qed(cap:List (Option Nat))(δ:Sts):Sts:=cap.map λo=>match o with
 |none=>.no
 |some j=>Qvf δ[j]?
theorem Qgv{cap:List (Option Nat)}{σ:L2.St}{i:Nat}{o:Option V}(h:(Qdh cap σ)[i]? = some o):(cap[i]? = some none/\o=none)∨∃j,cap[i]? = some (some j)/\o=(σ[j]?).getD none:=by
 unfold Qdh at h;rw[Qo] at h;obtain⟨c,hc,rfl⟩:=Qas.mp h;cases c with
 |none=>exact .inl ⟨hc,rfl⟩
 |some j=>exact .inr ⟨j,hc,rfl⟩
theorem Qgx{cap:List (Option Nat)}{δ:Sts}{i:Nat}{x:Sl}(h:(Qed cap δ)[i]? = some x):(cap[i]? = some none/\x=.no)∨∃j,cap[i]? = some (some j)/\x=Qvf δ[j]? := by
 unfold Qed at h;rw[Qo] at h;obtain⟨c,hc,rfl⟩:=Qas.mp h;cases c with
 |none=>exact .inl ⟨hc,rfl⟩
 |some j=>exact .inr ⟨j,hc,rfl⟩
theorem Qbb{cap:List (Option Nat)}{σ:L2.St}{δ:Sts}{i:Nat}{o:Option V}{x:Sl}(h1:(Qdh cap σ)[i]? = some o)(h2:(Qed cap δ)[i]? = some x)(hx:x≠.no):∃(j:Nat)(y:Sl),δ[j]? = some y/\x=Qvf (some y)/\o=(σ[j]?).getD none:=by
 rcases Qgx h2 with⟨_,e⟩ | ⟨j,hj,e⟩
 ·exact absurd e hx
 ·rcases Qgv h1 with⟨z,_⟩ | ⟨j',hj',e'⟩
  ·rw[hj] at z;cases z
  ·rw[hj] at hj';cases hj';cases e2:δ[j]? with
   |none=>rw[e2] at e;exact absurd e hx
   |some y=>exact⟨j,y,e2,by rw[e,e2],e'⟩
theorem QcQ{cap:List (Option Nat)}{σ:L2.St}{δ:Sts}{a:Addr}(h:YB (Qdh cap σ) (Qed cap δ) a):YB σ δ a:=by
 obtain⟨i,h1,h2⟩:=h;obtain⟨j,y,hy,e,eo⟩:=Qbb h1 h2 (λz=>by cases z);cases y<;>first | (cases e;done) | skip
 refine⟨j,?_,hy⟩;cases e2:σ[j]? with
 |none=>rw[e2] at eo;cases eo
 |some o'=>rw[e2] at eo;exact congrArg some eo.symm
def inF(A1:Addr->Prop)(cap:List (Option Nat))(σ:L2.St)(δ:Sts)(H:Hp):Fm:=⟨H,A1,YB (Qdh cap σ) (Qed cap δ)⟩
theorem QjX{A1:Addr->Prop}{cap:List (Option Nat)}{σ:L2.St}{δ:Sts}{H:Hp}(h:∀a,YB σ δ a->A1 a){a:Addr}:Av (inF A1 cap σ δ H) (Qdh cap σ) (Qed cap δ) a↔A1 a:=by
 constructor
 ·rintro(z | ⟨i,h1,h2⟩)
  ·exact z
  ·rcases h2 with h2 | ⟨ds,h2⟩
   ·exact h a (QcQ ⟨i,h1,h2⟩)
   ·obtain⟨j,y,hy,e,eo⟩:=Qbb h1 h2 (λz=>by cases z);cases y<;>cases e
 ·exact .inl
theorem Qnq{K:PySem.W.Frag}{F:Fm}{σ:L2.St}{δ:Sts}{H1 H3:Hp}{A1:Addr->Prop}{cap:List (Option Nat)}(rel:Rel K F σ H1 δ)(hA:∀a,Av F σ δ a->A1 a)(hN:∀a,A1 a->Av F σ δ a∨H1 a=none)
  (dm:∀a,A1 a->∃xs,H3 a=some (.lst xs))(kp:Kp σ δ H1 H3):Rel K (inF A1 cap σ δ H3) (Qdh cap σ) H3 (Qed cap δ) where
 len:=by unfold Qdh Qed;rw[Qa,Qa]
 dom:=dm
 dom0:=dm
 pt0:=λp hp=>⟨hA p (Qai (QcQ hp)),kp.2 p (QcQ hp)⟩
 kx:=λb o _ e=>e
 sl:=λi o x h1 h2=>by
  have iv:∀{a:Addr},Av (inF A1 cap σ δ H3) (Qdh cap σ) (Qed cap δ) a->A1 a:=λ{a}=>(QjX λa z=>hA a (Qai z)).mp
  have mv:∀{v:V}{d:PyData},DA (Av F σ δ) H1 v d->DA (Av (inF A1 cap σ δ H3) (Qdh cap σ) (Qed cap δ)) H3 v d:=λq=>q.mv (λa o n e=>kp.1 a o (λz=>n (Qai z)) e) λa z=>hN a (iv z)
  have mvs:∀{v:List V}{d:List PyData},DAs (Av F σ δ) H1 v d->DAs (Av (inF A1 cap σ δ H3) (Qdh cap σ) (Qed cap δ)) H3 v d:=λq=>q.mv (λa o n e=>kp.1 a o (λz=>n (Qai z)) e) λa z=>hN a (iv z)
  cases x with
  |no=>trivial
  |own ds=>
   obtain⟨j,y,hy,e,eo⟩:=Qbb h1 h2 (λz=>by cases z);cases y<;>cases e
  |scr=>
   obtain⟨j,y,hy,e,eo⟩:=Qbb h1 h2 (λz=>by cases z);cases y<;>cases e
  |v d=>
   obtain⟨j,y,hy,e,eo⟩:=Qbb h1 h2 (λz=>by cases z);cases y<;>first | (cases e;done) | skip
   cases e;obtain⟨x,hx⟩:=rel.lt hy;obtain⟨v,rfl,q⟩:=rel.sl j _ _ hx hy;rw[hx] at eo;exact⟨v,eo,mv q⟩
  |pk ds=>
   obtain⟨j,y,hy,e,eo⟩:=Qbb h1 h2 (λz=>by cases z);cases y<;>first | (cases e;done) | skip
   ·cases e;obtain⟨x,hx⟩:=rel.lt hy;obtain⟨l,xs,rfl,e,q,f⟩:=rel.sl j _ _ hx hy;rw[hx] at eo;have np:=rel.own_pot hy hx;exact⟨l,xs,eo,kp.1 _ _ np e,mvs q,xs,kp.1 _ _ np e,λz=>np (QcQ z)⟩
   ·cases e;obtain⟨x,hx⟩:=rel.lt hy;obtain⟨l,xs,rfl,e,q,ys,f,f2⟩:=rel.sl j _ _ hx hy;rw[hx] at eo;have np:¬YB σ δ l:=by
     rintro⟨j,j1,j2⟩;obtain⟨p,m,e1,_,w⟩:=rel.sl j _ _ j1 j2;cases e1;rcases w with w | w
     ·exact f2 w
     ·rw[w] at f;cases f
    exact⟨l,xs,eo,kp.1 _ _ np e,mvs q,xs,kp.1 _ _ np e,λz=>np (QcQ z)⟩
  |pot=>
   obtain⟨j,y,hy,e,eo⟩:=Qbb h1 h2 (λz=>by cases z);cases y<;>first | (cases e;done) | skip
   obtain⟨x,hx⟩:=rel.lt hy;obtain⟨p,n,rfl,e,q⟩:=rel.sl j _ _ hx hy;rw[hx] at eo;obtain⟨m,em⟩:=kp.2 p ⟨j,hx,hy⟩;have eo':o=some (.ref p):=eo;subst eo';exact⟨p,m,rfl,em,.inl ⟨i,h1,h2⟩⟩
 inj:=λi j a ds h1 h2 _=>by
  obtain⟨j,y,hy,e,eo⟩:=Qbb h2 h1 (λz=>by cases z);cases y<;>cases e
theorem QoJ:∀{σ σ':L2.St},σ'.length=σ.length->(∀(i:Nat) v,σ[i]? = some (some v)->σ'[i]? = some (some v))->Wk σ σ'
 |[],[],_,_=>trivial
 |[],_::_,h,_=>by cases h
 |_::_,[],h,_=>by cases h
 |none::a,x::b,h,g=>QoJ (σ:=a) (σ':=b) (by simpa using h) λi v e=>by simpa using g (i+1) v (by simpa using e)
 |some u::a,x::b,h,g=>by
  have h0:=g 0 u rfl;simp only[Qjb,Option.some.injEq] at h0;subst h0;exact⟨rfl,QoJ (σ:=a) (σ':=b) (by simpa using h) λi v e=>by simpa using g (i+1) v (by simpa using e)⟩
def Qcz(cap:List (Option Nat))(ix:List Nat):Bool:=ix.all λi=>match cap[i]? with
 |some none=>true
 |_=>false
theorem Qsz{cap:List (Option Nat)}{ix:List Nat}(hf:Qcz cap ix=true){σ σ4:L2.St}(hl:σ4.length=(Qdh cap σ).length)(hj:∀j,j∉ix->σ4[j]? = (Qdh cap σ)[j]?):Wk (Qdh cap σ) σ4:=by
 refine QoJ hl λi v e=>?_
 by_cases z:i∈ix
 ·have:=Zi.mp hf i z;rcases Qgv e with⟨_,e2⟩ | ⟨j,hj2,_⟩
  ·cases e2
  ·rw[hj2] at this;cases this
 ·rw[hj i z];exact e
def XF:XP:=λ_=>False
@[irreducible] def QgD(items:List PyData)(wg:DG)(wt:DT)(we:DE)(δ:Sts)(Q:PyData->Prop):Prop:=∃Iv:Nat->List PyData->Prop,Iv 0 [] /\
 (∀(i:Nat) acc d,items[i]? = some d->Iv i acc->wg d δ λδ4=>wt δ4 (λb=>if b=true then we δ4 (λe=>Iv (i+1) (acc++[e])) XF else Iv (i+1) acc) XF)/\∀acc,Iv items.length acc->Q (.list acc)
def dComp(cap:List (Option Nat))(wi:DI)(wg:DG)(wt:DT)(we:DE):DE:=λδ Q EX=>wi δ (λitems=>QgD items wg wt we (Qed cap δ) Q) EX
def QvE:DT:=λ_ Q _=>Q true
section
variable{X:Cx}{E:XK}
theorem Qsd{F:Fm}{E:XK}:Out F E XF:=λ_ z=>z.elim
theorem PTs.imp{es:List Q0}{t t':TT}(h:PTs X es t)(i:∀σ H Q,t' σ H Q->t σ H Q):PTs X es t':=λpins s σ H Q I q=>h pins s σ H Q I (i σ H Q q)
theorem Qpm:PTs X [] (tT X.K E QvE):=PTs.imp Qiw λσ H Q ⟨F,δ,R,EX,rel,hw,k,o⟩=>k _ hw H rel (Kp.refl rel)
theorem Qpl{c:Q0}{t:DT}(h:PT X c (tT X.K E t)):PTs X [c] (tT X.K E t):=Qtz h
theorem QiM{K:PySem.W.Frag}{A1:Addr->Prop}{cap:List (Option Nat)}{σ σ4:L2.St}{δ δ4:Sts}{H3 H4:Hp}(r:Rel K (inF A1 cap σ δ H3) σ4 H4 δ4)(hk:∀b o,¬YB σ δ b->H4 b=some o->H3 b=none->False){b:Addr}(h:YB σ4 δ4 b):YB σ δ b:=by
 obtain⟨i,h1,h2⟩:=h;obtain⟨p,n,e,hp,w⟩:=r.sl i _ _ h1 h2;cases e;rcases w with w | w
 ·exact QcQ w
 ·by_cases z:YB σ δ b
  ·exact z
  ·exact(hk b _ z hp w).elim
theorem QlO{K:PySem.W.Frag}{F:Fm}{σ:L2.St}{δ:Sts}{H1 H3:Hp}{cap:List (Option Nat)}{ix:List Nat}{wg:DG}{wt:DT}{A1:Addr->Prop}{x:V}{d:PyData}{inner:L2.St->Hp->(Hp->Prop)->Prop}{kk:Hp->Prop}{T:Sts->Prop}{N:Prop}
  (hf:Qcz cap ix=true)(rel:Rel K F σ H1 δ)(hA:∀a,Av F σ δ a->A1 a)(hN:∀a,A1 a->Av F σ δ a∨H1 a=none)(dm:∀a,A1 a->∃xs,H3 a=some (.lst xs))(kp:Kp σ δ H1 H3)(dx:DA A1 H3 x d)
  (h:wg d (Qed cap δ) λδ4=>wt δ4 (λb=>if b=true then T δ4 else N) XF)
  (hT:∀σ4 δ4 H5,T δ4->Rel K (inF A1 cap σ δ H3) σ4 H5 δ4->Kp σ δ H3 H5->(∀b,YB σ4 δ4 b->YB σ δ b)->inner σ4 H5 kk)(hF:N->∀H5,Kp σ δ H3 H5->kk H5) :
  bOf (Qdh cap σ) (tG ix K wg) (tT K E0 wt) inner x H3 kk:=by
 have ri:=Qnq (cap:=cap) rel hA hN dm kp;have iv:∀{a:Addr},Av (inF A1 cap σ δ H3) (Qdh cap σ) (Qed cap δ) a->A1 a:=λ{a}=>(QjX λa z=>hA a (Qai z)).mp
 refine⟨inF A1 cap σ δ H3,Qed cap δ,d,_,ri,dx.mv (λ_ _ _ e=>e) λa z=>.inl (iv z),h,λδ4 h4 σ4 r4 st4 l4 j4=>⟨Qsz hf l4 j4,inF A1 cap σ δ H3,δ4,_,XF,r4,h4,λb hb H5 r5 kp5=>?_,Qsd⟩⟩;have pots:∀{b:Addr},YB σ4 δ4 b->YB σ δ b:=λz=>QiM r4 (λb o _ e1 e2=>by rw[e2] at e1;cases e1) z
 have K5:Kp σ δ H3 H5:=by
  refine⟨λb o n e=>kp5.1 b o (λz=>n (pots z)) e,λb hb=>?_⟩;by_cases z:YB σ4 δ4 b
  ·exact kp5.2 b z
  ·obtain⟨n,e⟩:=kp.2 b hb;exact⟨n,kp5.1 _ _ z e⟩
 exact QdL hb (λz=>hT σ4 δ4 H5 z r5 K5 λb=>pots) λz=>hF z H5 K5
structure Lp (σ:L2.St) (δ:Sts) (A1:Addr->Prop) (p:Addr) (H1 H2:Hp) (acc:List PyData):Prop where
 kp:Kp σ δ H1 H2
 at_:∃ys,H2 p=some (.lst ys)/\DAs A1 H2 ys acc
theorem Lp.step{σ:L2.St}{δ:Sts}{A1:Addr->Prop}{p:Addr}{H1 H2 H3:Hp}{acc:List PyData}(hpA:∀a,YB σ δ a->A1 a)(hpn:¬YB σ δ p)(h:Lp σ δ A1 p H1 H2 acc)(k:Kp σ δ H2 H3):Lp σ δ A1 p H1 H3 acc:=by
 obtain⟨ys,e,q⟩:=h.at_;exact⟨h.kp.trans k,ys,k.1 _ _ hpn e,q.mv (λa o n e=>k.1 a o (λz=>n (hpA a z)) e) λa z=>.inl z⟩
theorem Qsv{K:PySem.W.Frag}{σ σ4:L2.St}{δ δ4:Sts}{H1 H3 H5:Hp}{cap:List (Option Nat)}{we:DE}{A1:Addr->Prop}{p:Addr}{acc:List PyData}{kk:Hp->Prop}{G:PyData->Prop}
  (hpA:A1 p)(hP:∀a,YB σ δ a->A1 a)(hp1:H1 p=none)(hpn:¬YB σ δ p)(lp:Lp σ δ A1 p H1 H5 acc)(hl:acc.length<sizeLine)(r5:Rel K (inF A1 cap σ δ H3) σ4 H5 δ4)(pots:∀b,YB σ4 δ4 b->YB σ δ b)
  (h:we δ4 G XF)(hk:∀e,G e->∀H',Lp σ δ A1 p H1 H' (acc++[e])->kk H'):QvF p (tX .D K E0 we) σ4 H5 kk:=by
 refine⟨inF A1 cap σ δ H3,δ4,G,XF,r5,h,λe he v H6 r6 kp6 dv=>?_,Qsd⟩;have k56:Kp σ δ H5 H6:=by
  refine⟨λb o n e=>kp6.1 b o (λz=>n (pots b z)) e,λb hb=>?_⟩;by_cases z:YB σ4 δ4 b
  ·exact kp6.2 b z
  ·obtain⟨n,e⟩:=lp.kp.2 b hb;exact⟨n,kp6.1 _ _ z e⟩
 obtain⟨k6,ys,e6,q6⟩:=lp.step hP hpn k56;have up:∀{b:Addr}{o:HO},¬A1 b->H6 b=some o->upd H6 p (.lst (ys++[v])) b=some o:=λ{b o} n e=>by rw[Jw (λz=>n (by rw[z];exact hpA))];exact e
 refine⟨ys,e6,by rw[q6.length];exact hl,hk e he _ ⟨⟨λb o n e=>?_,λb hb=>?_⟩,ys++[v],Jg,DAs.app (q6.mv (λ_ _=>up) λa z=>.inl z) (.cons (DA.mv dv (λa o n e=>up (λz=>n (.inl z)) e) λa z=>.inl (.inl z)) .nil)⟩⟩
 ·rw[Jw (λz=>by rw[z,hp1] at e;cases e)];exact k6.1 b o n e
 ·rw[Jw (λz=>hpn (by rw[<- z];exact hb))];exact k6.2 b hb
theorem Qt6{M:List Str}{cap:List (Option Nat)}{elt tg iter:Q0}{ifs:List Q0}{scope:YA}{pos:Pos}{ix:List Nat}{wi:DI}{wg:DG}{wt:DT}{we:DE}(hc:X.calm=true)(ok:Qgw X.N X.env.scope M scope cap=true)(hf:Qcz cap ix=true)
  (hi:PI X tg iter (tI .P X.K E wi))(hb:∀cl ex s3 H3 C,PG (blk X M scope cl ex s3 H3 C) tg (tG ix X.K wg)/\PTs (blk X M scope cl ex s3 H3 C) ifs (tT X.K E0 wt)/\PE (blk X M scope cl ex s3 H3 C) elt (tX .D X.K E0 we))
  (hs:∀x,foldedSetIterable iter X.env x=pure x:=by intro _;rfl):PE X (.ListComp elt [⟨tg,iter,ifs,0⟩] scope pos) (tX .F X.K E (dComp cap wi wg wt we)):=by
 refine PE.imp (Qgg hc ok hi hb hs) λσ H Q ⟨F,δ,R,EX,rel,hw,k,o⟩=>?_
 refine⟨F,δ,_,EX,rel,hw,λitems hC J H1 rel1 kp1 ⟨ln,it⟩ p hp=>?_,o⟩;unfold QgD at hC;obtain⟨Iv,i0,step,fin⟩:=hC;have hpn:¬YB σ δ p:=λz=>by obtain⟨xs,e⟩:=rel1.isl (Qai (F:=F) z);rw[hp] at e;cases e
 let A1:Addr->Prop:=λa=>Av F σ δ a∨a=p
 have hP:∀a,YB σ δ a->A1 a:=λa z=>.inl (Qai z)
 have hN:∀a,A1 a->Av F σ δ a∨H1 a=none:=λa z=>z.elim .inl λz=>.inr (by rw[z];exact hp)
 have dmK:∀{H2:Hp},Kp σ δ H1 H2->(∃ys,H2 p=some (.lst ys))->∀a,A1 a->∃xs,H2 a=some (.lst xs):=λ{H2} k2 e2 a z=>by
  rcases z with z | z
  ·exact(rel1.kp k2).isl z
  ·rw[z];exact e2
 refine Qdw items.length (λi H2=>i<=items.length/\∃acc,Iv i acc/\acc.length<=i/\Lp σ δ A1 p H1 H2 acc) ⟨Q7 _,[],i0,Qg _,Kp.same rel1 (Jn hp),[],Jg,.nil⟩ (λi H2 hi ⟨_,acc,iv,hl,lp⟩=>?_) λH2 ⟨_,acc,iv,hl,lp⟩=>?_
 ·obtain⟨k2,ys,e2,q2⟩:=lp;obtain⟨go,_⟩:=it H2 A1 (λb o n e=>k2.1 b o n e) hN (dmK k2 ⟨ys,e2⟩);have hd:items[i]? = some items[i]:=Qe hi;obtain⟨g1,g2⟩:=go i _ hd;refine⟨g1,λx H3 y kk hk=>?_⟩;obtain⟨s3,dx⟩:=g2 x H3 y;have k23:=Kp.same (rel1.kp k2) s3;have lp3:Lp σ δ A1 p H1 H3 acc:=Lp.step hP hpn ⟨k2,ys,e2,q2⟩ k23;refine QlO hf rel1 (λa z=>.inl z) hN (dmK lp3.kp ⟨ys,s3 _ _ e2⟩) lp3.kp dx (step i acc _ hd iv) (λσ4 δ4 H5 h5 r5 k5 pots=>?_) λh5 H5 k5=>hk _ ⟨hi,acc,h5,by omega,lp3.step hP hpn k5⟩
  exact Qsv (.inr rfl) hP hp hpn (lp3.step hP hpn k5) (by omega) r5 pots h5 λe he H' lp'=>hk _ ⟨hi,acc++[e],he,by rw[Qw];show _+1<=_;omega,lp'⟩
 ·obtain⟨k2,ys,e2,q2⟩:=lp;obtain⟨_,st⟩:=it H2 A1 (λb o n e=>k2.1 b o n e) hN (dmK k2 ⟨ys,e2⟩);refine⟨st,k _ (fin acc iv) (.ref p) H2 (rel1.kp k2) (kp1.trans k2) ⟨.lst (λz=>?_) e2 (q2.mv (λ_ _ _ e=>e) λa z=>.inl (.inl z)),λl e1 _=>?_⟩⟩
  ·obtain⟨xs,e⟩:=rel1.isl z;rw[hp] at e;cases e
  ·cases e1;exact QbF kp1 hp
theorem Qk8{items:List PyData}{wg:DG}{wt:DT}{we:DE}{δ:Sts}{Q:PyData->Prop}(G:PyData->Option PyData)
  (h:∀d∈items,∀(k1:Prop)(k2:PyData->Prop),(G d=none->k1)->(∀e,G d=some e->k2 e)->wg d δ λδ4=>wt δ4 (λb=>if b=true then we δ4 k2 XF else k1) XF)(q:Q (.list (items.filterMap G))) :
  QgD items wg wt we δ Q:=by
 unfold QgD;refine⟨λi acc=>acc=(items.take i).filterMap G,by simp,λi acc d hd e=>?_,λacc e=>by rw[e,JW];exact q⟩;have hs:(items.take (i+1)).filterMap G=(items.take i).filterMap G++(G d).toList:=by
  rw[JY,hd,Yl];cases e2:G d<;>simp[e2]
 have e:acc=(items.take i).filterMap G:=e;refine h d (QJ hd) _ _ (λe2=>?_) λe' e2=>?_
 ·show acc=(items.take (i+1)).filterMap G;rw[hs,e2,e];simp
 ·show acc++[e']=(items.take (i+1)).filterMap G;rw[hs,e2,e];rfl
theorem QfA{items:List PyData}{wg:DG}{we:DE}{δ:Sts}{Q:PyData->Prop}(G:PyData->PyData)
  (h:∀d∈items,∀(k2:PyData->Prop),k2 (G d)->wg d δ λδ4=>we δ4 k2 XF)(q:Q (.list (items.map G))) :
  QgD items wg QvE we δ Q:=by
 unfold QgD;refine⟨λi acc=>acc=(items.take i).map G,by simp,λi acc d hd e=>?_,λacc e=>by rw[e,JW];exact q⟩;have hs:(items.take (i+1)).map G=(items.take i).map G++[G d]:=by
  rw[JY,hd,Q3];simp
 have e:acc=(items.take i).map G:=e;have hh:=h d (QJ hd) (λe=>acc++[e]=(items.take (i+1)).map G) (by show acc++[G d]=_;rw[hs,e]);simp only[QvE,if_true];exact hh
end
theorem QnL:∀{a b:List (Int×Int)},dkV a=dkV b->a=b
 |[],[],_=>rfl
 |[],_::_,h=>by cases h
 |_::_,[],h=>by cases h
 |p::a,q::b,h=>by
  have h:=List.cons.inj (show(Zg p.1,V.int p.2)::dkV a=(Zg q.1,V.int q.2)::dkV b from h);have h1:=Qa1 h.1;rw[QnL h.2,QcW (Qki h1.1) (V.int.inj h1.2)]
mutual
theorem QnR{A B:Addr->Prop}{H:Hp}:∀(d d':PyData)(x:V),DA A H x d->DA B H x d'->d=d'
 |.none,d',_,.non,h=>by cases h;rfl
 |.bool _,d',_,.bl _,h=>by cases h;rfl
 |.int _,d',_,.int _,h=>by cases h;rfl
 |.str _,d',_,.str _ _,h=>by cases h;rfl
 |.tuple ds,d',_,.tup (xs:=xs) n e q,h=>by
  cases h with
  |@tup a ys es n' e' q'=>
   rw[e] at e';cases e';rw[Qgr ds es xs q q']
  |@lst a ys es n' e' q'=>rw[e] at e';cases e'
  |@dct a kvs' ds' n' e' q'=>rw[e] at e';cases e'
 |.list ds,d',_,.lst (xs:=xs) n e q,h=>by
  cases h with
  |@tup a ys es n' e' q'=>rw[e] at e';cases e'
  |@lst a ys es n' e' q'=>
   rw[e] at e';cases e';rw[Qgr ds es xs q q']
  |@dct a kvs' ds' n' e' q'=>rw[e] at e';cases e'
 |.dict _,d',_,.dct (kvs:=kvs) n e q,h=>by
  cases h with
  |@tup a ys es n' e' q'=>rw[e] at e';cases e'
  |@lst a ys es n' e' q'=>rw[e] at e';cases e'
  |@dct a kvs' ds' n' e' q'=>
   rw[e] at e';rw[q,q',QnL (HO.dK.inj (Qx e'))]
theorem Qgr{A B:Addr->Prop}{H:Hp}:∀(ds es:List PyData)(xs:List V),DAs A H xs ds->DAs B H xs es->ds=es
 |[],es,_,.nil,h=>by cases h;rfl
 |d::ds,es,_,.cons q qs,h=>by
  cases h with
  |@cons x xs e es q' qs'=>rw[QnR d e _ q q',Qgr ds es _ qs qs']
end
mutual
theorem QxM{A:Addr->Prop}{H:Hp}{l:Addr}{rs:List PyData}(root:DA A H (.ref l) (.list rs)):∀(d:PyData)(x:V),sizeOf d<sizeOf (YI rs)->DA A H x d->DA (λa=>A a∨a=l) H x d
 |.none,_,_,.non=>.non
 |.bool _,_,_,.bl _=>.bl _
 |.int _,_,_,.int _=>.int _
 |.str _,_,_,.str _ c=>.str _ c
 |.tuple ds,_,hs,.tup (a:=a) (xs:=xs) n e q=>.tup (λz=>z.elim n λz=>by subst z;cases root with | @lst _ ys _ n' e' q'=>(rw[e] at e';cases e')) e (Qgs root ds xs (by simp at hs ⊢;omega) q)
 |.list ds,_,hs,.lst (a:=a) (xs:=xs) n e q=>.lst (λz=>z.elim n λz=>by
   subst z;have:=QnR _ _ _ root (.lst n e q);rw[this] at hs;omega) e (Qgs root ds xs (by simp at hs ⊢;omega) q)
 |.dict _,_,hs,.dct (a:=a) n e q=>.dct (λz=>z.elim n λz=>by subst z;cases root with | @lst _ ys _ n' e' q'=>(rw[e] at e';cases e')) e q
theorem Qgs{A:Addr->Prop}{H:Hp}{l:Addr}{rs:List PyData}(root:DA A H (.ref l) (.list rs)):∀(ds:List PyData)(xs:List V),sizeOf ds<sizeOf (YI rs)->DAs A H xs ds->DAs (λa=>A a∨a=l) H xs ds
 |[],_,_,.nil=>.nil
 |d::ds,_,hs,.cons q qs=>.cons (QxM root d _ (by simp at hs ⊢;omega) q) (Qgs root ds _ (by simp at hs ⊢;omega) qs)
end
theorem DA.items{A:Addr->Prop}{H:Hp}{l:Addr}{ds:List PyData}(root:DA A H (.ref l) (.list ds)):∃xs,H l=some (.lst xs)/\DAs (λa=>A a∨a=l) H xs ds:=by
 have root':=root;cases root with
 |@lst _ xs _ n e q=>exact⟨xs,e,Qgs root' ds xs (by simp) q⟩
structure QgC where
 nx:Sts->Prop
 rt:PyData->Prop
 rtF:PyData->Prop
 bk:Sts->Prop
 ct:Sts->Prop
 ex:XP
abbrev DS:=QgC->Sts->Prop
structure Nx (K:PySem.W.Frag) (F:Fm) (σ:L2.St) (H:Hp) (δ:Sts) (R:Sts->Prop) (T:L2.St->Hp->Prop):Prop where
 go:∀δ',R δ'->∀σ' H',Rel K F σ' H' δ'->Stp F σ H δ σ' H' δ'->T σ' H'
structure Ends1 (K:PySem.W.Frag) (E:XK) (F:Fm) (σ:L2.St) (H:Hp) (δ:Sts) (DD:QgC) (D:Ends):Prop where
 nx:Nx K F σ H δ DD.nx D.nx
 rt:∀d,DD.rt d->∀v H',Ke F H'->DA F.A0 H' v d->D.rt v H'
 rtF:∀d,DD.rtF d->∀v H',Ke F H'->DA F.A0 H' v d->FrV F.H0 H' v->D.rt v H'
 bk:Nx K F σ H δ DD.bk D.bk
 ct:Nx K F σ H δ DD.ct D.ct
 ex:Out F E DD.ex
def tS(K:PySem.W.Frag)(E:XK)(w:DS):TS:=λD σ H=>∃(F:Fm)(δ:Sts)(DD:QgC),Rel K F σ H δ/\w DD δ/\Ends1 K E F σ H δ DD D
theorem Nx.step{K:PySem.W.Frag}{F:Fm}{σ σ1:L2.St}{H H1:Hp}{δ δ1:Sts}{R:Sts->Prop}{T:L2.St->Hp->Prop}(h:Nx K F σ H δ R T)(s:Stp F σ H δ σ1 H1 δ1):Nx K F σ1 H1 δ1 R T:=⟨λδ' hR σ' H' r st=>h.go δ' hR σ' H' r (s.trans st)⟩
theorem Ends1.step{K:PySem.W.Frag}{E:XK}{F:Fm}{σ σ1:L2.St}{H H1:Hp}{δ δ1:Sts}{DD:QgC}{D:Ends}(h:Ends1 K E F σ H δ DD D)(s:Stp F σ H δ σ1 H1 δ1):Ends1 K E F σ1 H1 δ1 DD D:=⟨h.nx.step s,h.rt,h.rtF,h.bk.step s,h.ct.step s,h.ex⟩
section
variable{X:Cx}{E:XK}
theorem PS.imp{e:Y2}{t t':TS}(h:PS X e t)(i:∀D σ H,t' D σ H->t D σ H):PS X e t':=λpins s σ H D I q=>h pins s σ H D I (i D σ H q)
theorem PSs.imp{e:List Y2}{t t':TS}(h:PSs X e t)(i:∀D σ H,t' D σ H->t D σ H):PSs X e t':=λpins s σ H D I q=>h pins s σ H D I (i D σ H q)
def QAO(a b:DS):DS:=λD δ=>a { D with nx:=b D } δ
def QxQ:DS:=λD δ=>D.nx δ
theorem Qpn:PSs X [] (tS X.K E QxQ):=PSs.imp QbD λD σ H ⟨F,δ,DD,rel,hw,en⟩=>en.nx.go δ hw σ H rel Stp.refl
theorem QtT{st:Y2}{w:DS}(h:PS X st (tS X.K E w)):PSs X [st] (tS X.K E w):=Ya h
theorem Qpr{st:Y2}{rest:List Y2}{w w':DS}(h:PS X st (tS X.K E w))(h':PSs X rest (tS X.K E w')):PSs X (st::rest) (tS X.K E (QAO w w')):=by
 refine PSs.imp (Zs h h') λD σ H ⟨F,δ,DD,rel,hw,en⟩=>?_
 exact⟨F,δ,_,rel,hw,⟨λδ' h' σ' H' r st=>⟨F,δ',DD,r,h',en.step st⟩⟩,en.rt,en.rtF,en.bk,en.ct,en.ex⟩
def Qz6(i:Nat)(we:DE):DS:=λD δ=>we δ (λd=>D.nx (δ.set i (.v d))) D.ex
def Qu3(i:Nat)(we:DE):DS:=λD δ=>we δ (λd=>match d with
 |.list ds=>D.nx (δ.set i (.own ds))
 |_=>False) D.ex
def QxR(i:Nat)(we:DE):DS:=λD δ=>we δ (λd=>match d with
 |.list [.int _]=>D.nx (δ.set i .pot)
 |_=>False) D.ex
variable{i:Nat}{e:Q0}{st:Y2}{we wi:DE}
theorem Qmy(h:PS X st (Qjl (tX .D X.K E we) (Qbk i))):PS X st (tS X.K E (Qz6 i we)):=by
 refine PS.imp h λD σ H ⟨F,δ,DD,rel,hw,en⟩=>?_
 refine⟨F,δ,_,DD.ex,rel,hw,λd hd v H' rel' kp vk=>?_,en.ex⟩;exact en.nx.go _ hd _ H' (rel'.setv vk) ((Stp.kp kp).trans Stp.setv)
theorem QsC{F:Fm}{σ:L2.St}{δ:Sts}{i:Nat}{l:Addr}{x:Sl}{a:Addr}(h:Av F (σ.set i (some (.ref l))) (δ.set i x) a):Av F σ δ a∨a=l:=by
 rcases h with h | ⟨j,h1,h2⟩
 ·exact .inl (.inl h)
 ·by_cases z:j=i
  ·subst z;cases set_eq h1;exact .inr rfl
  ·rw[YT z] at h1 h2;exact .inl (.inr ⟨j,h1,h2⟩)
theorem Rel.seto{K:PySem.W.Frag}{F:Fm}{σ:L2.St}{H H':Hp}{δ:Sts}{l:Addr}{x:Sl}(r:Rel K F σ H δ)(r':Rel K F σ H' δ)(kp:Kp σ δ H H')(n:H l=none)(hx:∀A:Addr->Prop,(∀a,A a->Av F σ δ a∨H a=none)->(∀a,A a->Av F σ δ a∨a=l)->QA6 K F H' A (some (.ref l)) x) :
  Rel K F (σ.set i (some (.ref l))) H' (δ.set i x)/\Stp F σ H δ (σ.set i (some (.ref l))) H' (δ.set i x):=by
 have nA:∀a,Av F (σ.set i (some (.ref l))) (δ.set i x) a->Av F σ δ a∨H a=none:=λa z=>(QsC z).elim .inl λz=>.inr (by rw[z];exact n)
 have kk:∀a o,¬Av F σ δ a->H a=some o->H' a=some o:=λa o m e=>kp.1 a o (λz=>m (Qai z)) e
 refine⟨?_,⟨kk,nA⟩⟩;exact{
  len:=by rw[Zq,Zq];exact r.len
  dom:=r'.dom
  dom0:=r'.dom0
  pt0:=r'.pt0
  kx:=r'.kx
  sl:=λj o y h1 h2=>by
   by_cases z:j=i
   ·subst z;cases set_eq h1;cases set_eq h2;exact hx _ nA λa z=>QsC z
   ·rw[YT z] at h1 h2;have h:=r.sl j o y h1 h2;have h':=r'.sl j o y h1 h2;cases y with
    |no=>trivial
    |v d=>obtain⟨v',e,q'⟩:=h;exact⟨v',e,q'.mv kk nA⟩
    |own ds=>obtain⟨l',xs,rfl,e2,q',f⟩:=h;exact⟨l',xs,rfl,kp.1 _ _ (r.own_pot h2 h1) e2,q'.mv kk nA,f⟩
    |pk ds=>
     obtain⟨l',xs,rfl,e2,q',ys,f,f2⟩:=h;refine⟨l',xs,rfl,kp.1 _ _ ?_ e2,q'.mv kk nA,ys,f,f2⟩;rintro⟨j,j1,j2⟩;obtain⟨p,m,e1,_,w⟩:=r.sl j _ _ j1 j2;cases e1;rcases w with w | w
     ·exact f2 w
     ·rw[w] at f;cases f
    |pot=>exact h'
    |scr=>exact h'
  inj:=λj k a ds h1 h2 ⟨h3,h4⟩=>by
   have ne:∀(k:Nat),k≠i->σ[k]? = some (some (.ref l))->(δ[k]? = some .pot∨∃ds,δ[k]? = some (.own ds))->False:=λk _ h3 h4=>by
    obtain⟨xs,e⟩:=r.isl (a:=l) (.inr ⟨k,h3,h4⟩);rw[n] at e;cases e
   by_cases z:j=i
   ·subst z;cases set_eq h2;by_cases z2:k=j
    ·exact z2.symm
    ·rw[YT z2] at h3 h4;exact(ne k z2 h3 h4).elim
   ·rw[YT z] at h1 h2;by_cases z2:k=i
    ·subst z2;cases set_eq h3;exact(ne j z h2 (.inr ⟨ds,h1⟩)).elim
    ·rw[YT z2] at h3 h4;exact r.inj j k a ds h1 h2 ⟨h3,h4⟩ }
theorem QnC{K:PySem.W.Frag}{F:Fm}{σ:L2.St}{H:Hp}{δ:Sts}(r:Rel K F σ H δ){l:Addr}(n:H l=none):F.H0 l=none:=by
 cases e:F.H0 l with
 |none=>rfl
 |some o=>
  by_cases z:F.pt l
  ·obtain⟨_,m,e'⟩:=r.pt0 l z;rw[n] at e';cases e'
  ·rw[r.kx l o z e] at n;cases n
theorem QjA(h:PS X st (Qjl (tX .F X.K E we) (Qbk i))):PS X st (tS X.K E (Qu3 i we)):=by
 refine PS.imp h λD σ H ⟨F,δ,DD,rel,hw,en⟩=>?_
 refine⟨F,δ,_,DD.ex,rel,hw,λd hd v H' rel' kp ⟨vk,fr⟩=>?_,en.ex⟩;obtain⟨ds,rfl⟩:∃ds,d=.list ds:=by cases d<;>first | exact⟨_,rfl⟩ | exact(show False from hd).elim
 obtain⟨l,rfl⟩:∃l,v=.ref l:=by cases vk;exact⟨_,rfl⟩
 obtain⟨xs,e,q⟩:=DA.items vk;have n:=fr l rfl ⟨xs,e⟩;obtain⟨r2,st⟩:=rel.seto (i:=i) (x:=.own ds) rel' kp n λA hA hB=>⟨l,xs,rfl,e,q.mv (λ_ _ _ e=>e) λa z=>.inl (hB a z),QnC rel n⟩
 exact en.nx.go _ hd _ H' r2 st
theorem Qpo(h:PS X st (Qjl (tX .F X.K E we) (Qbk i))):PS X st (tS X.K E (QxR i we)):=by
 refine PS.imp h λD σ H ⟨F,δ,DD,rel,hw,en⟩=>?_
 refine⟨F,δ,_,DD.ex,rel,hw,λd hd v H' rel' kp ⟨vk,fr⟩=>?_,en.ex⟩;split at hd
 ·cases vk with
  |@lst l xs ds na e q=>
   have n:=fr l rfl ⟨xs,e⟩;cases q with
   |cons q1 q2=>
    cases q1;cases q2;obtain⟨r2,st⟩:=rel.seto (i:=i) (x:=.pot) rel' kp n λA hA hB=>⟨l,_,rfl,e,.inr (QnC rel n)⟩
    exact en.nx.go _ hd _ H' r2 st
 ·exact hd.elim
def QAZ(we:DE)(wg:DG):DS:=λD δ=>we δ (λd=>wg d δ D.nx) D.ex
theorem QtZ{ix:List Nat}{wg:DG}(h:PS X st (Qjl (tX .D X.K E we) (tG ix X.K wg))):PS X st (tS X.K E (QAZ we wg)):=by
 refine PS.imp h λD σ H ⟨F,δ,DD,rel,hw,en⟩=>?_
 refine⟨F,δ,_,DD.ex,rel,hw,λd hd v H' rel' kp vk=>?_,en.ex⟩;exact⟨F,δ,d,_,rel',vk,hd,λδ' h' σ' r' st' _ _=>en.nx.go _ h' _ H' r' ((Stp.kp kp).trans st')⟩
def QAQ(i j:Nat)(wa:DAr):DS:=λD δ=>wa δ (λds=>match ds with
 |[a,b]=>D.nx ((δ.set i (.v a)).set j (.v b))
 |_=>False) D.ex
theorem QtS{n i j:Nat}{wa:DAr}(h:PS X st (QAp i j (tAr n .D X.K E wa))):PS X st (tS X.K E (QAQ i j wa)):=by
 refine PS.imp h λD σ H ⟨F,δ,DD,rel,hw,en⟩=>?_
 refine⟨F,δ,_,DD.ex,rel,hw,λds hds _ vs H' rel' kp q=>?_,en.ex⟩;split at hds
 ·cases q with
  |cons q1 q2=>cases q2 with
   |cons q2 q3=>
    cases q3;refine⟨_,_,rfl,en.nx.go _ hds _ H' ((rel'.setv q1).setv (DA.mv q2 (λ_ _ _ e=>e) λa z=>.inl (QdN z))) (((Stp.kp kp).trans Stp.setv).trans Stp.setv)⟩
 ·exact hds.elim
def QAP(we:DE):DS:=λD δ=>we δ D.rt D.ex
def QxT(we:DE):DS:=λD δ=>we δ D.rtF D.ex
theorem Qu2{F:Fm}{σ:L2.St}{δ:Sts}{H:Hp}{v:V}{d:PyData}(h:DA (Av F σ δ) H v d):DA F.A0 H v d:=h.mv (λ_ _ _ e=>e) λa z=>.inl (.inl z)
theorem QtP{e:Q0}{pos:Pos}(h:PE X e (tX .D X.K E we)):PS X (.Return (some e) pos) (tS X.K E (QAP we)):=by
 refine PS.imp (Qaw h) λD σ H ⟨F,δ,DD,rel,hw,en⟩=>?_
 exact⟨F,δ,_,DD.ex,rel,hw,λd hd v H' rel' kp vk=>en.rt d hd v H' rel'.ke (Qu2 vk),en.ex⟩
theorem Qpq{e:Q0}{pos:Pos}(h:PE X e (tX .F X.K E we)):PS X (.Return (some e) pos) (tS X.K E (QxT we)):=by
 refine PS.imp (Qaw h) λD σ H ⟨F,δ,DD,rel,hw,en⟩=>?_
 exact⟨F,δ,_,DD.ex,rel,hw,λd hd v H' rel' kp vk=>en.rtF d hd v H' rel'.ke (Qu2 vk.1) λl e1 e2=>QnC rel (vk.2 l e1 e2),en.ex⟩
def Qu4(i:Nat):DS:=λD δ=>match δ[i]? with
 |some (.own ds)=>D.rtF (.list ds)
 |some (.v d)=>D.rt d
 |_=>False
theorem Qpp{e:Q0}{pos:Pos}(h:PE X e (Qbs i)):PS X (.Return (some e) pos) (tS X.K E (Qu4 i)):=by
 refine PS.imp (Qaw h) λD σ H ⟨F,δ,DD,rel,hw,en⟩=>?_
 unfold Qu4 at hw;split at hw
 ·rename_i ds hd
  obtain⟨x,hx⟩:=rel.lt hd;obtain⟨l,xs,rfl,e,q,f⟩:=rel.sl i _ _ hx hd;refine⟨_,hx,en.rtF _ hw _ H rel.ke (.lst (λz=>?_) e (q.mv (λ_ _ _ e=>e) λa z=>.inl (.inl z))) λl' e1 _=>by cases e1;exact f⟩;obtain⟨ys,e'⟩:=rel.dom0 l z;rw[f] at e';cases e'
 ·rename_i d hd
  obtain⟨x,hx⟩:=rel.lt hd;obtain⟨v,rfl,q⟩:=rel.sl i _ _ hx hd;exact⟨v,hx,en.rt _ hw _ H rel.ke (Qu2 q)⟩
 ·exact hw.elim
def dIf(t:DT)(a b:DS):DS:=λD δ=>t δ (λc=>if c=true then a D δ else b D δ) D.ex
theorem QwN{c:Q0}{a b:List Y2}{pos:Pos}{t:DT}{w w':DS}(hc:PT X c (tT X.K E t))(ha:PSs X a (tS X.K E w))(hb:PSs X b (tS X.K E w')):PS X (.If c a b pos) (tS X.K E (dIf t w w')):=by
 refine PS.imp (Qgb hc ha hb) λD σ H ⟨F,δ,DD,rel,hw,en⟩=>?_
 exact⟨F,δ,_,DD.ex,rel,hw,λb hb H' rel' kp=>QdL hb (λz=>⟨F,δ,DD,rel',z,en.step (Stp.kp kp)⟩) λz=>⟨F,δ,DD,rel',z,en.step (Stp.kp kp)⟩,en.ex⟩
theorem Qm0{g:Int->Int->Int}:Qvq (ipI g) (ii0 λi j=>.int (g i j)):=λA P H x y d1 d2 R Q ln dm hx hy h k=>by
 cases d1<;>cases d2<;>first | exact h.elim | skip
 rw[hx.int,hy.int];exact⟨_,_,rfl,rfl,k _ h _ H (Same.refl H) (.int _)⟩
theorem PIp.len{op:QfH}{t:TIp}(h:PIp X op t):PIp X op (λx y H Q=>Qda H->t x y H Q):=λpins s σ H x y v u Q I rx ry q=>h pins s σ H x y v u Q I rx ry (q (Inv.lens I))
theorem Rel.mut{K:PySem.W.Frag}{F:Fm}{σ:L2.St}{H:Hp}{δ:Sts}(r:Rel K F σ H δ){l:Addr}{ds ds':List PyData}{ys:List V}(h:δ[i]? = some (.own ds))(hx:σ[i]? = some (some (.ref l)))(q:DAs (Av F σ δ) H ys ds') :
  Rel K F σ (upd H l (.lst ys)) (δ.set i (.own ds'))/\Stp F σ H δ σ (upd H l (.lst ys)) (δ.set i (.own ds')):=by
 have hl:Av F σ δ l:=.inr ⟨i,hx,.inr ⟨ds,h⟩⟩;obtain⟨l',xs0,e0,el,_,f⟩:=r.sl i _ _ hx h;cases e0;have lt:i < δ.length:=(QU.mp h).1;have ge:(δ.set i (.own ds'))[i]? = some (.own ds'):=by rw[Zz lt]
 have kk:∀a o,¬Av F σ δ a->H a=some o->upd H l (.lst ys) a=some o:=λa o n e=>by rw[Jw (λz=>n (by rw[z];exact hl))];exact e
 have av:∀a,Av F σ (δ.set i (.own ds')) a->Av F σ δ a:=λa z=>by
  rcases z with z | ⟨j,h1,h2⟩
  ·exact .inl z
  ·by_cases z:j=i
   ·subst z;exact .inr ⟨j,h1,.inr ⟨ds,h⟩⟩
   ·rw[YT z] at h2;exact .inr ⟨j,h1,h2⟩
 have up:∀{b:Addr}{o:HO},b≠l->H b=some o->upd H l (.lst ys) b=some o:=λn e=>by rw[Jw n];exact e
 refine⟨?_,⟨kk,λa z=>.inl (av a z)⟩⟩;exact{
  len:=by rw[Zq];exact r.len
  dom:=λa ha=>by
   by_cases z:a=l
   ·rw[z];exact⟨_,Jg⟩
   ·obtain⟨xs,e⟩:=r.dom a ha;exact⟨xs,up z e⟩
  dom0:=r.dom0
  pt0:=λp hp=>by
   obtain⟨h1,n,e⟩:=r.pt0 p hp;refine⟨h1,n,up (λz=>?_) e⟩;obtain⟨xs,e'⟩:=r.dom0 p h1;rw[z,f] at e';cases e'
  kx:=λb o n e=>up (λz=>by rw[z,f] at e;cases e) (r.kx b o n e)
  sl:=λj o y h1 h2=>by
   by_cases z:j=i
   ·subst z;rw[ge] at h2;cases h2;rw[hx] at h1;cases h1;exact⟨l,ys,rfl,Jg,q.mv kk λa z=>.inl (av a z),f⟩
   ·rw[YT z] at h2;have hh:=r.sl j o y h1 h2;cases y with
    |no=>trivial
    |v d=>obtain⟨v',e,q'⟩:=hh;exact⟨v',e,q'.mv kk λa z=>.inl (av a z)⟩
    |own es=>
     obtain⟨l',xs,rfl,e2,q',f'⟩:=hh;exact⟨l',xs,rfl,up (λz2=>z (r.inj j i l' es h2 h1 ⟨by rw[z2];exact hx,.inr ⟨ds,h⟩⟩)) e2,q'.mv kk λa z=>.inl (av a z),f'⟩
    |pk es=>
     obtain⟨l',xs,rfl,e2,q',ys',f',f2⟩:=hh;exact⟨l',xs,rfl,up (λz2=>by rw[z2,f] at f';cases f') e2,q'.mv kk λa z=>.inl (av a z),ys',f',f2⟩
    |pot=>
     obtain⟨p,n,rfl,e2,w⟩:=hh;refine⟨p,n,rfl,up (λz2=>?_) e2,w⟩;subst z2;exact r.own_pot h hx ⟨j,h1,h2⟩
    |scr=>exact hh
  inj:=λj k a es h1 h2 ⟨h3,h4⟩=>by
   have h4':δ[k]? = some .pot∨∃ds,δ[k]? = some (.own ds):=by
    by_cases z:k=i
    ·subst z;exact .inr ⟨ds,h⟩
    ·rw[YT z] at h4;exact h4
   by_cases z:j=i
   ·subst z;exact r.inj j k a ds h h2 ⟨h3,h4'⟩
   ·rw[YT z] at h1;exact r.inj j k a es h1 h2 ⟨h3,h4'⟩ }
def QAb(i:Nat)(we:DE):DS:=λD δ=>match δ[i]? with
 |some (.own ds)=>we δ (λd=>ds.length<1000000/\D.nx (δ.set i (.own (ds++[d])))) D.ex
 |_=>False
theorem Qt0(h:PS X st (QlX (tBM X.K "list" Qmg (Qbs i) (Qak (tX .D X.K E we) Qe1)))):PS X st (tS X.K E (QAb i we)):=by
 refine PS.imp h λD σ H ⟨F,δ,DD,rel,hw,en⟩=>?_
 unfold QAb at hw;split at hw
 ·rename_i ds hd
  obtain⟨x,hx⟩:=rel.lt hd;obtain⟨l,xs,rfl,e,q,f⟩:=rel.sl i _ _ hx hd;have np:=rel.own_pot hd hx;refine⟨.ref l,hx,.inl ⟨rfl,_,SqL.of e⟩,F,δ,_,DD.ex,rel,hw,λd ⟨hl,hn⟩ v H' rel' kp vk=>?_,en.ex⟩;have q':=kp.das q;refine⟨l,xs,v,rfl,rfl,kp.1 _ _ np e,QK (by rw[q.length];exact hl) Qhr,?_⟩;obtain⟨r2,st⟩:=rel'.mut hd hx (q'.app (.cons vk .nil));exact en.nx.go _ hn _ _ r2 ((Stp.kp kp).trans st)
 ·exact hw.elim
def Qz9(i:Nat)(we:DE):DS:=λD δ=>match δ[i]? with
 |some (.own ds)=>we δ (λd=>match d with
  |.list es=>ds.length+es.length<=1000000/\D.nx (δ.set i (.own (ds++es)))
  |_=>False) D.ex
 |_=>False
theorem QtX(h:PS X st (QlX (tBM X.K "list" Qmf (Qbs i) (Qak (tX .P X.K E we) Qe1)))):PS X st (tS X.K E (Qz9 i we)):=by
 refine PS.imp h λD σ H ⟨F,δ,DD,rel,hw,en⟩=>?_
 unfold Qz9 at hw;split at hw
 ·rename_i ds hd
  obtain⟨x,hx⟩:=rel.lt hd;obtain⟨l,xs,rfl,e,q,f⟩:=rel.sl i _ _ hx hd;have np:=rel.own_pot hd hx;refine⟨.ref l,hx,.inl ⟨rfl,_,SqL.of e⟩,F,δ,_,DD.ex,rel,hw,λd hd2 v H' rel' kp vk=>?_,en.ex⟩;cases d<;>first | exact(show False from hd2).elim | skip
  obtain⟨hl,hn⟩:=hd2;obtain⟨l2,ys,rfl,e2,q2⟩:=DP.list vk;have q':=kp.das q;refine⟨l,l2,xs,ys,rfl,rfl,kp.1 _ _ np e,e2,QY (by rw[q.length,q2.length];exact hl) Qhr,?_⟩;obtain⟨r2,st⟩:=rel'.mut hd hx (q'.app q2);exact en.nx.go _ hn _ _ r2 ((Stp.kp kp).trans st)
 ·exact hw.elim
def Qu7(i:Nat)(rD:PyData->PyData->(PyData->Prop)->Prop)(wi we:DE):DS:=λD δ=>match δ[i]? with
 |some (.own ds)=>wi δ (λz=>match z with
  |.int k=>∃j a,ixN ds.length k=some j/\ds[j]? = some a/\we δ (λe=>rD a e λb=>D.nx (δ.set i (.own (ds.set j b)))) D.ex
  |_=>False) D.ex
 |_=>False
theorem Qps{r:TIp}{rD:PyData->PyData->(PyData->Prop)->Prop}(hd:Qvq r rD)(h:PS X st (Qv5 (Qbs i) (tX .P X.K E wi) (tX .P X.K E we) (Qwp X.K) (λx y H Q=>Qda H->r x y H Q) Qto)):PS X st (tS X.K E (Qu7 i rD wi we)):=by
 refine PS.imp h λD σ H ⟨F,δ,DD,rel,hw,en⟩=>?_
 unfold Qu7 at hw;split at hw
 ·rename_i ds hds
  obtain⟨x,hx⟩:=rel.lt hds;obtain⟨l,xs,rfl,e,q,f⟩:=rel.sl i _ _ hx hds;have np:=rel.own_pot hds hx;refine⟨.ref l,hx,F,δ,_,DD.ex,rel,hw,λz hz y H1 rel1 kp1 yk=>?_,en.ex⟩;cases z<;>first | exact(show False from hz).elim | skip
  obtain⟨j,a,hj,ha,hn⟩:=hz;have q1:=kp1.das q;obtain⟨va,hva,da⟩:=q1.get j a ha;rw[DP.int yk];refine⟨l,xs,_,va,rfl,rfl,SqL.of (kp1.1 _ _ np e),by unfold atI;rw[q.length,hj];exact hva,F,δ,_,DD.ex,rel1,hn,λb hb u H2 rel2 kp2 uk ln=>?_,en.ex⟩;refine hd (Av F σ δ) (YB σ δ) H2 va u a b _ _ ln (λa ha=>rel2.isl ha) (.inl (kp2.da da)) uk hb λc hc w H3 s dw=>?_
  have r3:=rel2.same s;have k3:=kp2.trans (Kp.same rel2 s);refine⟨l,xs,_,j,rfl,rfl,k3.1 _ _ np (kp1.1 _ _ np e),by rw[q.length];exact hj,?_⟩;obtain⟨r4,st⟩:=r3.mut hds hx ((k3.das q1).set dw j);exact en.nx.go _ hc _ _ r4 (((Stp.kp kp1).trans (Stp.kp k3)).trans st)
 ·exact hw.elim
def QyA(δ:Sts)(i:Nat):Sts:=match δ[i]? with
 |some (.own ds)=>δ.set i (.v (.list ds))
 |_=>δ
def QvD(is:List Nat)(δ:Sts):Sts:=is.foldl QyA δ
theorem Qu1{K:PySem.W.Frag}{F:Fm}{σ:L2.St}{H:Hp}{δ:Sts}(r:Rel K F σ H δ){i:Nat}{ds:List PyData}(h:δ[i]? = some (.own ds)):Rel K F σ H (δ.set i (.v (.list ds)))/\Stp F σ H δ σ H (δ.set i (.v (.list ds))):=by
 obtain⟨x,hx⟩:=r.lt h;obtain⟨l,xs,rfl,e,q,f⟩:=r.sl i _ _ hx h;have hs:σ.set i (some (.ref l))=σ:=by
  refine J7 λj=>?_
  by_cases z:j=i
  ·subst z;rw[hx,Zz (QU.mp hx).1]
  ·rw[YT z]
 have lt:i < δ.length:=(QU.mp h).1;have avn:∀a,Av F σ (δ.set i (.v (.list ds))) a->Av F σ δ a/\a≠l:=λa z=>by
  rcases z with z | ⟨j,h1,h2⟩
  ·refine⟨.inl z,λe'=>?_⟩;obtain⟨ys,e2⟩:=r.dom0 a z;rw[e',f] at e2;cases e2
  ·by_cases z:j=i
   ·subst z;rw[Zz lt] at h2;rcases h2 with h2 | ⟨_,h2⟩<;>cases h2
   ·rw[YT z] at h2;refine⟨.inr ⟨j,h1,h2⟩,λe'=>?_⟩;subst e';exact z (r.inj i j a ds h hx ⟨h1,h2⟩).symm
 have wk:∀{v:V}{d:PyData},DA (Av F σ δ) H v d->DA (Av F σ (δ.set i (.v (.list ds)))) H v d:=λq=>q.mv (λ_ _ _ e=>e) λa z=>.inl (avn a z).1
 have wks:∀{v:List V}{d:List PyData},DAs (Av F σ δ) H v d->DAs (Av F σ (δ.set i (.v (.list ds)))) H v d:=λq=>q.mv (λ_ _ _ e=>e) λa z=>.inl (avn a z).1
 refine⟨?_,⟨λ_ _ _ e=>e,λa z=>.inl (avn a z).1⟩⟩;exact{
  len:=by rw[Zq];exact r.len
  dom:=r.dom
  dom0:=r.dom0
  pt0:=r.pt0
  kx:=r.kx
  sl:=λj o y h1 h2=>by
   by_cases z:j=i
   ·subst z;rw[Zz lt] at h2;cases h2;rw[hx] at h1;cases h1;exact⟨_,rfl,.lst (λz=>(avn l z).2 rfl) e (wks q)⟩
   ·rw[YT z] at h2;have hh:=r.sl j o y h1 h2;cases y with
    |no=>trivial
    |v d=>obtain⟨v',e,q'⟩:=hh;exact⟨v',e,wk q'⟩
    |own es=>obtain⟨l',xs,e1,e2,q',f'⟩:=hh;exact⟨l',xs,e1,e2,wks q',f'⟩
    |pk es=>obtain⟨l',xs,e1,e2,q',f'⟩:=hh;exact⟨l',xs,e1,e2,wks q',f'⟩
    |pot=>exact hh
    |scr=>exact hh
  inj:=λj k a es h1 h2 ⟨h3,h4⟩=>by
   have h4':δ[k]? = some .pot∨∃ds,δ[k]? = some (.own ds):=by
    by_cases z:k=i
    ·subst z;exact .inr ⟨ds,h⟩
    ·rw[YT z] at h4;exact h4
   by_cases z:j=i
   ·subst z;rw[Zz lt] at h1;cases h1
   ·rw[YT z] at h1;exact r.inj j k a es h1 h2 ⟨h3,h4'⟩ }
theorem QiR{K:PySem.W.Frag}{F:Fm}{σ:L2.St}{H:Hp}:∀(is:List Nat){δ:Sts},Rel K F σ H δ->Rel K F σ H (QvD is δ)/\Stp F σ H δ σ H (QvD is δ)
 |[],δ,r=>⟨r,Stp.refl⟩
 |i::is,δ,r=>by
  show Rel K F σ H (QvD is (QyA δ i))/\Stp F σ H δ σ H (QvD is (QyA δ i));unfold QyA;split
  ·rename_i ds hd
   obtain⟨r1,s1⟩:=Qu1 r hd;obtain⟨r2,s2⟩:=QiR is r1;exact⟨r2,s1.trans s2⟩
  ·exact QiR is r
theorem QtY{w:DS}(is:List Nat)(h:PS X st (tS X.K E w)):PS X st (tS X.K E λD δ=>w D (QvD is δ)):=by
 refine PS.imp h λD σ H ⟨F,δ,DD,rel,hw,en⟩=>?_
 obtain⟨r,s⟩:=QiR is rel;exact⟨F,_,DD,r,hw,en.step s⟩
@[irreducible] def Qvr(items:List PyData)(wg:DG)(wb:DS)(D:QgC)(δ:Sts):Prop:=∃Iv:Nat->Sts->Prop,Iv 0 δ/\(∀(i:Nat) d δ,items[i]? = some d->Iv i δ->wg d δ λδ2=>wb { D with nx:=Iv (i+1),ct:=Iv (i+1),bk:=D.nx } δ2)/\∀δ,Iv items.length δ->D.nx δ
def dFor(wi:DI)(wg:DG)(wb:DS):DS:=λD δ=>wi δ (λitems=>Qvr items wg wb D δ) D.ex
theorem QtW{tg iter:Q0}{body:List Y2}{pos:Pos}{ix:List Nat}{wi:DI}{wg:DG}{wb:DS}(hp:PassesOwn (model X.prog X.w) X.A X.env X.xe)(hc:X.calm=true)(hi:PI X tg iter (tI .D X.K E wi))(hg:PG X tg (tG ix X.K wg))(hb:PSs X body (tS X.K E wb))
  (hs:∀x,foldedSetIterable iter X.env x=pure x:=by intro _;rfl):PS X (.For tg iter body [] pos) (tS X.K E (dFor wi wg wb)):=by
 refine PS.imp (Qfg hp hc hi hg hb hs) λD σ H ⟨F,δ,DD,rel,hw,en⟩=>?_
 refine⟨F,δ,_,DD.ex,rel,hw,λitems hC J H1 rel1 kp1 ⟨ln,it⟩=>?_,en.ex⟩;unfold Qvr at hC;obtain⟨Iv,i0,step,fin⟩:=hC;have en1:=en.step (Stp.kp (F:=F) kp1);refine⟨λi m σ' H'=>m=items.length - i/\i<=items.length/\∃δ',Iv i δ'/\Rel X.K F σ' H' δ'/\Stp F σ H1 δ σ' H' δ',⟨_,rfl,Q7 _,δ,i0,rel1,Stp.refl⟩,?_⟩;rintro i m σ' H' ⟨rfl,hi',δ',iv,r',st'⟩;obtain⟨go,stop⟩:=it H' (Av F σ' δ') st'.1 st'.2 λa ha=>r'.isl ha
 by_cases hlt:i<items.length
 ·have hd:items[i]? = some items[i]:=Qe hlt;obtain⟨g1,g2⟩:=go i _ hd;refine .inr ⟨g1,λσ2 H2=>∃δ2,Iv (i+1) δ2/\Rel X.K F σ2 H2 δ2/\Stp F σ H1 δ σ2 H2 δ2,λσ2 H2 ⟨δ2,h2,r2,s2⟩=>⟨_,by omega,rfl,hlt,δ2,h2,r2,s2⟩,λx H3 y=>?_⟩;obtain⟨s3,dx⟩:=g2 x H3 y;have r3:=r'.same s3;have st3:Stp F σ H1 δ σ' H3 δ':=st'.trans (Stp.kp (Kp.same r' s3));refine⟨F,δ',_,_,r3,dx,step i _ δ' hd iv,λδ4 h4 σ4 r4 st4 _ _=>⟨F,δ4,_,r4,h4,?_⟩⟩;have st5:=st3.trans st4;exact⟨⟨λδ6 h6 σ6 H6 r6 s6=>⟨δ6,h6,r6,st5.trans s6⟩⟩,en.rt,en.rtF,(en1.step st5).nx,⟨λδ6 h6 σ6 H6 r6 s6=>⟨δ6,h6,r6,st5.trans s6⟩⟩,en.ex⟩
 ·have e:i=items.length:=by omega
  subst e;exact .inl ⟨stop,(en1.step st').nx.go δ' (fin δ' iv) σ' H' r' Stp.refl⟩
theorem QdB{lo:Int}{n:Nat}{wg:DG}{wb:DS}{D:QgC}{δ:Sts}(Iv:Nat->Sts->Prop)(h0:Iv 0 δ)
  (hs:∀(i:Nat) δ,i<n->Iv i δ->wg (.int (lo+i)) δ λδ2=>wb { D with nx:=Iv (i+1),ct:=Iv (i+1),bk:=D.nx } δ2)(hd:∀δ,Iv n δ->D.nx δ):Qvr (Qff lo n) wg wb D δ:=by
 unfold Qvr;exact⟨Iv,h0,λi d δ hd iv=>by obtain⟨hi,rfl⟩:=QcI hd;exact hs i δ hi iv,λδ iv=>hd δ (by rw[Qf6] at iv;exact iv)⟩
theorem YV{items:List PyData}{wg:DG}{wb:DS}{D:QgC}{δ:Sts}(Iv:Nat->Sts->Prop)(h0:Iv 0 δ)
  (hs:∀(i:Nat) d δ,items[i]? = some d->Iv i δ->wg d δ λδ2=>wb { D with nx:=Iv (i+1),ct:=Iv (i+1),bk:=D.nx } δ2)(hd:∀δ,Iv items.length δ->D.nx δ):Qvr items wg wb D δ:=by
 unfold Qvr;exact⟨Iv,h0,hs,hd⟩
end
def stD(N:List Str)(args:List Sl):Sts:=args++QL (N.length - args.length) .no
theorem paired_get{α β:Type}{R:α->β->Prop}:∀{xs:List α}{ys:List β},YY R xs ys->∀(i:Nat) x y,xs[i]? = some x->ys[i]? = some y->R x y
 |_,_,.nil,i,x,y,h,_=>by simp at h
 |_,_,.cons a b,0,x,y,h,h'=>by simp at h h';subst h h';exact a
 |_,_,.cons a b,i+1,x,y,h,h'=>paired_get b i x y (by simpa using h) (by simpa using h')
theorem QlZ{K:PySem.W.Frag}{N:List Str}{A pt:Addr->Prop}{H:Hp}{vs:List V}{args:List Sl}(dm:∀a,A a->∃xs,H a=some (.lst xs))(hp:∀p,pt p->A p/\∃n,H p=some (.lst [.int n]))(q:YY (Qi7 A pt H) vs args):Rel K ⟨H,A,pt⟩ (L2.start N vs) H (stD N args):=by
 have hl:vs.length=args.length:=q.length;have no:∀(i:Nat) x,(stD N args)[i]? = some x->(i<args.length/\args[i]? = some x)∨x=.no:=λi x h=>by
  unfold stD at h;by_cases z:i<args.length
  ·rw[Yn z] at h;exact .inl ⟨z,h⟩
  ·rw[JS (by omega),ZW] at h;split at h
   ·exact .inr (Qx h).symm
   ·cases h
 have arg:∀(i:Nat) o x,(L2.start N vs)[i]? = some o->(stD N args)[i]? = some x->x≠.no->∃v,o=some v/\Qi7 A pt H v x:=λi o x h1 h2 hx=>by
  rcases no i x h2 with⟨z,e⟩ | e
  ·unfold L2.start at h1;rw[Yn (by rw[Qa];omega),Qo] at h1;obtain⟨v,hv,rfl⟩:=Qas.mp h1;exact⟨v,rfl,paired_get q i v x hv e⟩
  ·exact absurd e hx
 have av:∀a,Av ⟨H,A,pt⟩ (L2.start N vs) (stD N args) a->A a:=λa z=>by
  rcases z with z | ⟨i,h1,h2⟩
  ·exact z
  ·rcases h2 with h2 | ⟨ds,h2⟩
   ·obtain⟨v,e,p,rfl,hp'⟩:=arg i _ _ h1 h2 (λz=>by cases z);cases e;exact(hp _ hp').1
   ·obtain⟨v,e,hh⟩:=arg i _ _ h1 h2 (λz=>by cases z);exact hh.elim
 exact{
  len:=by unfold L2.start stD;rw[Qw,Qw,Qa,QaS,QaS,hl]
  dom:=dm
  dom0:=dm
  pt0:=hp
  kx:=λ_ _ _ e=>e
  sl:=λi o x h1 h2=>by
   cases x with
   |no=>trivial
   |v d=>
    obtain⟨v,e,hh⟩:=arg i _ _ h1 h2 (λz=>by cases z);exact⟨v,e,DA.mv hh (λ_ _ _ e=>e) λa z=>.inl (av a z)⟩
   |pot=>
    obtain⟨v,e,p,rfl,hp'⟩:=arg i _ _ h1 h2 (λz=>by cases z);obtain⟨_,n,en⟩:=hp p hp';exact⟨p,n,e,en,.inl hp'⟩
   |own ds=>obtain⟨v,e,hh⟩:=arg i _ _ h1 h2 (λz=>by cases z);exact hh.elim
   |pk ds=>obtain⟨v,e,hh⟩:=arg i _ _ h1 h2 (λz=>by cases z);exact hh.elim
   |scr=>obtain⟨v,e,hh⟩:=arg i _ _ h1 h2 (λz=>by cases z);exact hh.elim
  inj:=λi j a ds h1 h2 _=>by
   obtain⟨v,e,hh⟩:=arg i _ _ h2 h1 (λz=>by cases z);exact hh.elim }
def QBo:PyData->Bool
 |.list _=>false
 |_=>true
def rtD:Bool->(PyData->Prop)->PyData->Prop
 |true,R,d=>QBo d=true/\R d
 |false,R,d=>R d
def QuY(fr:Bool)(R:PyData->Prop)(EX:XP):QgC:=⟨λ_=>R .none,rtD fr R,R,λ_=>False,λ_=>False,EX⟩
theorem QuX{K:PySem.W.Frag}{E Ex:XK}{fr:Bool}{A pt:Addr->Prop}{H:Hp}{R:PyData->Prop}{EX EX':XP}{Q:VK}{σ:L2.St}{δ:Sts}(k:∀d,R d->∀v H',Kq pt H H'->DA A H' v d->(fr=true->FrV H H' v)->Q v H')(o:Out ⟨H,A,pt⟩ E EX') :
  Ends1 K E ⟨H,A,pt⟩ σ H δ (QuY fr R EX') { nx:=λ_ H'=>Q .non H',rt:=Q } where
 nx:=⟨λδ' hR σ' H' r st=>k _ hR _ H' r.ke .non λ_=>QuU⟩
 rt:=λd h v H' ke dv=>by
  cases fr with
  |false=>exact k d h v H' ke dv λz=>by cases z
  |true=>
   obtain⟨h1,h2⟩:=h;refine k d h2 v H' ke dv λz l e1 ⟨xs,e2⟩=>?_
   subst e1;cases dv with
   |@tup a ys ds n e q=>rw[e] at e2;cases e2
   |@lst a ys ds n e q=>cases h1
   |@dct a kvs ds n e q=>rw[e] at e2;cases e2
 rtF:=λd h v H' ke dv fr'=>k d h v H' ke dv λ_=>fr'
 bk:=⟨λ_ h=>h.elim⟩
 ct:=⟨λ_ h=>h.elim⟩
 ex:=o
section
variable{P:Qy}{w:Jc}{K:PySem.W.Frag}{mg:Str->Option Value}{base:Heap}
theorem okD{x qual:Str}{st:Y2}{f:Addr}{fd:Q6}{N ps:List Str}{k:Nat}{fD:DF}(fr:Bool)(F:Fun K x qual st f fd)(S:JV N ps (QD st))(len:∀args R EX,fD args R EX->args.length=ps.length)
  (hbody:∀(cdv:Value)(A:Jb)(outer:List Env)(s:Shared)(H:Hp)(E:XK),Room k (A.deeper (envOfC qual (QD st) s.heap.objs.size f cdv)) ->
   ∃wd,PSs (Qoo CX0 P w K mg base N qual (QD st) f cdv A outer s H E).nox (JP st) (tS K E0 wd)/\∀args R EX,fD args R EX->wd (QuY fr R XF) (stD N args)):FnOk P w K mg base CX0 (k+1) f fd ps (ZP fr fD):=by
 refine F.ok S (λvs H Q E h=>?_) λcdv A outer s H vs Q E hr h=>?_
 ·obtain⟨A,pt,args,R,EX,_,_,q,h,_⟩:=h;rw[q.length];exact len _ _ _ h
 ·obtain⟨wd,hp,hw⟩:=hbody cdv A outer s H E hr;obtain⟨A',pt,args,R,EX,dm,hpt,q,h,k,_⟩:=h;exact⟨_,hp,⟨H,A',pt⟩,_,_,QlZ dm hpt q,hw args R EX h,QuX (Ex:=E) (EX:=EX) k Qsd⟩
end
end Dl
namespace L2
def QAm(i j:Int):Prop:=0<j/\j<=10^40
theorem QpC{X:Cx}:OpR X (binaryOp .FloorDiv) (rI QAm λi j=>.int (i / j)):=opI λi j _ _ _ _ _ hc q=>by
 have h1:(0:Int)<j:=hc.1;have h2:j<=10^40:=hc.2;refine floordiv_int (by omega) (by rw[Int.fdiv_eq_ediv_of_nonneg i (by omega)];exact q) (.inl (PyProof.noPylong_of_log2 ?_));have h3:j.natAbs<2^200:=by
  have:(10:Int)^40<2^200:=by decide
  omega
 have:=(Nat.log2_lt (by omega:j.natAbs≠0)).mpr h3;omega
end L2
namespace Rk
open L2 _root_.Rd
def QfW:Sp:=λvs H Q _=>∃p n f,vs=[.ref p,.int f]/\H p=some (.lst [.int n])/\0<f/\f<=10^40/\∀r m,0<=r->r<f->Q (.int r) (upd H p (.lst [.int m]))
end Rk
namespace Dl
open L2 _root_.Rd Rk
theorem Zw{X:Cx}{E:XK}:QcE CX0 X E:=λ_ _ _ _ _ _ _ h=>h.elim
theorem Room.u60{k:Nat}{A:Jb}(r:Room k A):A.units+60<cLine:=by have:=r.un;omega
theorem Room.i60{k:Nat}{A:Jb}(r:Room k A):A.in1.units+60<cLine:=by
 have:=r.un;show A.units+1+60<cLine;omega
section
variable{X:Cx}{E:XK}{CX:CXT}{k:Nat}{f:Addr}{fd:Q6}{ps:List Str}{x:Str}{p pos:Pos}{e:Q0}{es:List Q0}{fD:DF}
def QiU(f:DF)(wa:DAr):DE:=λδ Q EX=>wa δ (λds=>f (ds.map Sl.v) (λd=>scal d=true/\Q d) EX) EX
theorem QiZ{n:Nat}{fr:Bool}{K:PySem.W.Frag}{f:DF}{wa:DAr}(σ:L2.St)(H:Hp)(Q:VK)(h:tX .F K E (QiU f wa) σ H Q):QlY (ZP fr f) [] E (tAr n .P K E wa) σ H Q:=by
 obtain⟨F,δ,R,EX,rel,hw,k,o⟩:=h;refine⟨F,δ,_,EX,rel,hw,λargs ha _ vs H1 rel1 kp1 q=>?_,o⟩;show ZP fr f (vs++[]) H1 Q E;rw[Z5];refine⟨λa=>Av F σ δ a/\¬QBa (YB σ δ) H1 vs a,λ_=>False,args.map Sl.v,_,EX,λa ha=>rel1.isl ha.1,λp hp=>hp.elim,Qhs vs (λ_ h=>h) q,ha,λd hd v H' kq dv fr=>?_,λC hC H' kq=>o C hC H' (rel1.same λb o e=>kq.1 b o (λz=>z) e).ke⟩;have s:Same H1 H':=λb o e=>kq.1 b o (λz=>z) e
 refine k d hd.2 v H' (rel1.same s) (kp1.trans (Kp.same rel1 s)) ⟨Qtf dv hd.1,λl e1 e2=>?_⟩;subst e1;have hf:=hd.1;cases dv<;>cases hf
theorem QmG{n:Nat}{fr:Bool}{wr:DAr}(G:FnOk X.prog X.w X.K X.mg X.base CX k f fd ps (ZP fr fD))(hr:Room k X.A)(hg:Gl X x)(hm:X.mg x=some (.ref f))(hk:PySem.W.keepIn X.K (.ref f)=true)(hb:Binds X.K fd ps [])(hx:QcE CX X E)
  (ha:PA X (e::es) (tAr n .P X.K E wr))(hdb:(x == ("__debug__" : Str))=false:=by decide)(he:starEach (e::es) X.env=(false,eval e X.env)::starEach es X.env:=by rfl)(hpl:(backTo pos (starEach es X.env)).any (·.1)=false:=by rfl) :
  PE X (.Call (.Name x p) (e::es) [] pos) (tX .F X.K E (QiU fD wr)):=PE.imp (QcL G hr hg hm hk hb .nil hx ha hdb he hpl) QiZ
def QlU:DF:=λargs R _=>∃f,args=[.pot,.v (.int f)]/\0<f/\f<=10^40/\∀r,0<=r->r<f->R (.int r)
theorem Qv1{vs:List V}{H:Hp}{Q:VK}{Ex:XK}(h:ZP true QlU vs H Q Ex):QfW vs H Q Ex:=by
 obtain⟨A,pt,args,R,EX,dm,hp,q,⟨f,rfl,f0,f1,hR⟩,k,_⟩:=h;cases q with
 |cons q1 q2=>cases q2 with
  |cons q2 q3=>
   cases q3;obtain⟨p,rfl,pp⟩:=q1;cases q2;obtain⟨_,n,e⟩:=hp p pp;refine⟨p,n,f,rfl,e,f0,f1,λr m r0 r1=>k _ (hR r r0 r1) _ _ ⟨λb o nb eb=>?_,λz hz=>?_⟩ (.int _) λ_=>Qal⟩
   ·rw[Jw (λz=>nb (by rw[z];exact pp))];exact eb
   ·by_cases y:z=p
    ·rw[y];exact⟨m,Jg⟩
    ·obtain⟨_,n',e'⟩:=hp z hz;exact⟨n',by rw[Jw y];exact e'⟩
def Qzu:DF:=λargs R _=>∃c,args=[.v (.int c)]/\∀n,R (.list [.int n])
theorem Qzt{vs:List V}{H:Hp}{Q:VK}{Ex:XK}(h:ZP true Qzu vs H Q Ex):Qv8 vs H Q Ex:=by
 obtain⟨A,pt,args,R,EX,dm,hp,q,⟨c,rfl,hR⟩,k,_⟩:=h;cases q with
 |cons q1 q2=>
  cases q2;cases q1;refine⟨c,rfl,λp n hn=>k _ (hR n) _ _ ⟨λb o _ eb=>Jn hn b o eb,λz hz=>?_⟩ (.lst (λz=>?_) Jg (.cons (.int _) .nil)) λ_=>QaH hn⟩
  ·obtain⟨_,n',e'⟩:=hp z hz;exact⟨n',Jn hn _ _ e'⟩
  ·obtain⟨xs,e⟩:=dm p z;rw[hn] at e;cases e
def isW:PyData->Bool
 |.int _=>true
 |_=>false
def QrG:DF:=λargs R _=>∃d,args=[.v d]/\R (.bool (isW d))
def Qti(n:Nat):DF:=λargs R _=>∃d,args=[.v d,.v d]/\nd d=true/\QcO n d=true/\R (.bool true)
theorem Qwe{n:Nat}{vs:List V}{H:Hp}{Q:VK}{Ex:XK}(h:ZP false (Qti n) vs H Q Ex):Qir (n+1) vs H Q Ex:=by
 obtain⟨A,pt,args,R,EX,dm,hp,q,⟨d,rfl,hn,hf,hR⟩,k,_⟩:=h;cases q with
 |cons q1 q2=>cases q2 with
  |cons q2 q3=>
   cases q3;exact⟨_,_,d,rfl,Qfy d _ hn q1,Qfy d _ hn q2,hf,λH' s=>k _ hR _ H' ⟨λb o _ e=>s b o e,λp hp'=>let ⟨_,n,e⟩:=hp p hp';⟨n,s _ _ e⟩⟩ (.bl _) λz=>by cases z⟩
theorem Ql8{K:PySem.W.Frag}{F:Fm}{σ:L2.St}{H:Hp}{δ:Sts}(r:Rel K F σ H δ){a:Addr}{xs:List V}(h:SqL K F.H0 a xs)(n:¬F.pt a):SqL K H a xs:=by
 rcases h with h | h
 ·rcases h with h | ⟨o,h⟩
  ·exact .inl (.inl (r.kx _ _ n h))
  ·exact .inl (.inr ⟨o,r.kx _ _ n h⟩)
 ·exact .inr h
def Qu5(i:Nat):DE:=λδ Q _=>match δ[i]? with
 |some .scr=>∀n:Nat,n<=63->Q (.int n)
 |_=>False
theorem Qt4{i:Nat}{a:Q0}(hg:Gl X "len")(hm:X.mg "len" = none)(h:PE X a (Qbs i))(hs:notStar a=true:=by rfl):PE X (.Call (.Name "len" p) [a] [] pos) (tX .F X.K E (Qu5 i)):=by
 refine PE.imp (pe_callB Yo hg hm Qce (pa_c h pa_nil hs) (he:=by rw[Yq hs])) λσ H Q ⟨F,δ,R,EX,rel,hw,k,o⟩=>?_
 unfold Qu5 at hw;split at hw
 ·rename_i hd
  obtain⟨x,hx⟩:=rel.lt hd;obtain⟨l,ns,rfl,sq,np,n63⟩:=rel.sl i _ _ hx hd;refine⟨_,hx,l,_,rfl,.inl (Ql8 rel sq np),?_⟩;rw[Qa];exact k _ (hw _ n63) _ H rel (Kp.refl rel) ⟨.int _,Qal⟩
 ·exact hw.elim
def Qu6(i:Nat)(wb:DE):DE:=λδ Q EX=>match δ[i]? with
 |some .scr=>wb δ (λd=>match d with
  |.int k=>0<=k/\∀c,Q (.int c)
  |_=>False) EX
 |_=>False
theorem Qt7{i:Nat}{a b:Q0}{wb:DE}(G:FnOk X.prog X.w X.K X.mg X.base CX0 k f fd ps (Qc0 X.K))(hr:Room k X.A)(hg:Gl X x)(hm:X.mg x=some (.ref f))(hk:PySem.W.keepIn X.K (.ref f)=true)(hb:Binds X.K fd ps [])
  (ha:PE X a (Qbs i))(h:PE X b (tX .P X.K E wb))(h1:notStar a=true:=by rfl)(h2:notStar b=true:=by rfl)(hdb:(x == ("__debug__" : Str))=false:=by decide) :
  PE X (.Call (.Name x p) [a,b] [] pos) (tX .F X.K E (Qu6 i wb)):=by
 refine PE.imp (QcL (E:=E) G hr hg hm hk hb .nil Zw (pa_c ha (pa_c h pa_nil h2) h1) hdb (Yq h1) (by rw[Yq h2];rfl)) λσ H Q ⟨F,δ,R,EX,rel,hw,k,o⟩=>?_
 unfold Qu6 at hw;split at hw
 ·rename_i hd
  obtain⟨x,hx⟩:=rel.lt hd;obtain⟨l,ns,rfl,sq,np,n63⟩:=rel.sl i _ _ hx hd;refine⟨_,hx,F,δ,_,EX,rel,hw,λd hd2 v H' rel' kp vk=>?_,o⟩;cases d<;>first | exact(show False from hd2).elim | skip
  rw[DP.int vk];exact⟨l,ns,_,rfl,Ql8 rel' sq np,YJ n63 (by decide),hd2.1,λc=>k _ (hd2.2 c) _ H' rel' kp ⟨.int _,Qal⟩⟩
 ·exact hw.elim
end
section
variable{P:Qy}{w:Jc}{K:PySem.W.Frag}{mg:Str->Option Value}{base:Heap}
def Qe8(K:PySem.W.Frag):Sp:=λvs H Q _=>∃(a:Addr)(ns:List Int),vs=[.ref a]/\SqL K H a (ns.map V.int)/\ns.length<=63/\∀H',Q (.bl true) H'
def QxE:QgC:=⟨λ_=>False,λd=>d=.bool true,λd=>d=.bool true,λ_=>False,λ_=>False,XF⟩
theorem QzH{x qual:Str}{st:Y2}{f:Addr}{fd:Q6}{N:List Str}{p:Str}{k:Nat}(F:Fun K x qual st f fd)(S:JV N [p] (QD st))
  (hbody:∀(cdv:Value)(A:Jb)(outer:List Env)(s:Shared)(H:Hp)(E:XK),Room k (A.deeper (envOfC qual (QD st) s.heap.objs.size f cdv)) ->
   ∃wd,PSs (Qoo CX0 P w K mg base N qual (QD st) f cdv A outer s H E).nox (JP st) (tS K E0 wd)/\wd QxE (stD N [.scr])):FnOk P w K mg base CX0 (k+1) f fd [p] (Qe8 K):=by
 refine F.ok S (λvs H Q E h=>?_) λcdv A outer s H vs Q E hr h=>?_
 ·obtain⟨a,ns,rfl,_⟩:=h;rfl
 ·obtain⟨wd,hp,hw⟩:=hbody cdv A outer s H E hr;obtain⟨a,ns,rfl,sq,n63,k⟩:=h;have get0:∀(i:Nat) o y,(L2.start N [V.ref a])[i]? = some o->(stD N [.scr])[i]? = some y->y≠.no->o=some (.ref a)/\y=.scr:=λi o y h1 h2 hy=>by
   cases i with
   |zero=>cases h1;cases h2;exact⟨rfl,rfl⟩
   |succ i=>
    unfold stD at h2;rw[JS (by simp),ZW] at h2;split at h2
    ·exact absurd (Qx h2).symm hy
    ·cases h2
  have noav:∀b,¬Av (⟨H,λ_=>False,λ_=>False⟩:Fm) (L2.start N [V.ref a]) (stD N [.scr]) b:=λb z=>by
   rcases z with z | ⟨i,h1,h2⟩
   ·exact z
   ·rcases h2 with h2 | ⟨ds,h2⟩
    ·cases(get0 i _ _ h1 h2 (λz=>by cases z)).2
    ·cases(get0 i _ _ h1 h2 (λz=>by cases z)).2
  refine⟨_,hp,⟨H,λ_=>False,λ_=>False⟩,_,_,?_,hw,?_⟩
  ·exact{
    len:=by unfold L2.start stD;simp
    dom:=λ_ h=>h.elim
    dom0:=λ_ h=>h.elim
    pt0:=λ_ h=>h.elim
    kx:=λ_ _ _ e=>e
    sl:=λi o y h1 h2=>by
     cases y with
     |no=>trivial
     |scr=>
      obtain⟨rfl,_⟩:=get0 i _ _ h1 h2 (λz=>by cases z);exact⟨a,ns,rfl,sq,λz=>z,n63⟩
     |v d=>cases(get0 i _ _ h1 h2 (λz=>by cases z)).2
     |own d=>cases(get0 i _ _ h1 h2 (λz=>by cases z)).2
     |pk d=>cases(get0 i _ _ h1 h2 (λz=>by cases z)).2
     |pot=>cases(get0 i _ _ h1 h2 (λz=>by cases z)).2
    inj:=λi j b ds h1 h2 _=>by cases(get0 i _ _ h2 h1 (λz=>by cases z)).2 }
  ·exact{
    nx:=⟨λ_ h=>h.elim⟩
    rt:=λd h v H' ke dv=>by cases(show d=.bool true from h);cases dv;exact k H'
    rtF:=λd h v H' ke dv _=>by cases(show d=.bool true from h);cases dv;exact k H'
    bk:=⟨λ_ h=>h.elim⟩
    ct:=⟨λ_ h=>h.elim⟩
    ex:=Qsd }
end
theorem Qyc{α:Type}{p:α->Prop}:∀x∈([]:List α),p x:=λ_ h=>nomatch h
theorem Qi5{α:Type}{p:α->Prop}{a:α}{l:List α}(h:p a)(t:∀x∈l,p x):∀x∈a::l,p x:=λx hx=>by
 rcases Qu.mp hx with z | z
 ·rw[z];exact h
 ·exact t x z
theorem ifF{c:Bool}{A B:Prop}(h:c=false)(k:B):if c=true then A else B:=by subst h;exact k
theorem ifT{c:Bool}{A B:Prop}(h:c=true)(k:A):if c=true then A else B:=by subst h;exact k
theorem ifC{c:Bool}{A B:Prop}(t:c=true->A)(f:c=false->B):if c=true then A else B:=by
 cases c
 ·exact f rfl
 ·exact t rfl
theorem Qm2{p:Prop}[Decidable p](h:(!decide p)=true):¬p:=by simpa using h
theorem QnN{p:Prop}[Decidable p](h:(!decide p)=false):p:=by simpa using h
end Dl
namespace L2
section
variable{X:Cx}
end
end L2
namespace Dl
open L2 _root_.Rd Rk
section
variable{X:Cx}{E:XK}
def Qzg(d:PyData)(Q:PyData->Prop):Prop:=
 match d with
 |.list ds=>Q (.list ds.reverse)
 |_=>False
def QBB(we ws:DE):DE:=λδ Q EX=>we δ (λd=>ws δ (λs=>(match s with | .int i=>i = -1 | _=>False)/\Qzg d Q) EX) EX
def QxP(w:DE):DE:=λδ Q EX=>w δ (λd=>match d with
 |.int j=>(-1000<=j/\j<=1000)/\Q (.tuple ((Qf j.toNat).map λ(i:Nat)=>.int i))
 |_=>False) EX
def QxV(w:DE):DE:=λδ Q EX=>w δ (λd=>match d with
 |.int j=>(-1000<=j/\j<=1000)/\Q (.list ((Qf j.toNat).map λ(i:Nat)=>.int i))
 |_=>False) EX
theorem QnQ{A:Addr->Prop}{H:Hp}(l:List Nat):DAs A H (l.map λ(i:Nat)=>V.int (i:Nat)) (l.map λ(i:Nat)=>Qp (i:Nat)):=by
 induction l with
 |nil=>exact .nil
 |cons i l ih=>exact .cons (.int _) ih
variable{e:Q0}{w:DE}{p p2 pos pos2:Pos}
theorem QmD(hg:Gl X "tuple")(hm:X.mg "tuple" = none)(hg2:Gl X "range")(hm2:X.mg "range" = none)(h:PE X e (tX .P X.K E w))(hc:X.calm=true:=by rfl)(hs:notStar e=true:=by rfl):PE X (.Call (.Name "tuple" p) [.Call (.Name "range" p2) [e] [] pos2] [] pos) (tX .F X.K E (QxP w)):=by
 refine PE.imp (Qax (QiY hc) hg hm bt_tuple (pa_c (Qd6 hg2 hm2 (pa_c h pa_nil hs) (by rw[Yq hs];rfl)) pa_nil)) λσ H Q ⟨F,δ,R,EX,rel,hw,k,o⟩=>?_
 refine⟨F,δ,_,EX,rel,hw,λd hd v H1 rel1 kp1 vk=>?_,o⟩;cases d<;>first | exact(show False from hd).elim | skip
 obtain⟨⟨h1,h2⟩,hR⟩:=hd;rw[DP.int vk];refine⟨_,rfl,λr H2 s2 n2 e2=>⟨r,_,rfl,e2,h1,h2,λt H3 s3 n3 e3=>?_⟩⟩;have r2:=rel1.same s2;have K3:=(kp1.trans (Kp.same rel1 s2)).trans (Kp.same r2 s3);exact k _ hR _ H3 (r2.same s3) K3 ⟨Qe5 (λa ha=>r2.isl ha) s3 e3 (QnQ _),QdA e3⟩
theorem QmE(hg:Gl X "list")(hm:X.mg "list" = none)(hg2:Gl X "range")(hm2:X.mg "range" = none)(h:PE X e (tX .P X.K E w))(hc:X.calm=true:=by rfl)(hs:notStar e=true:=by rfl):PE X (.Call (.Name "list" p) [.Call (.Name "range" p2) [e] [] pos2] [] pos) (tX .F X.K E (QxV w)):=by
 refine PE.imp (Qax (QeG hc) hg hm QeI (pa_c (Qd6 hg2 hm2 (pa_c h pa_nil hs) (by rw[Yq hs];rfl)) pa_nil)) λσ H Q ⟨F,δ,R,EX,rel,hw,k,o⟩=>?_
 refine⟨F,δ,_,EX,rel,hw,λd hd v H1 rel1 kp1 vk=>?_,o⟩;cases d<;>first | exact(show False from hd).elim | skip
 obtain⟨⟨h1,h2⟩,hR⟩:=hd;rw[DP.int vk];refine⟨_,rfl,λr H2 s2 n2 e2=>⟨r,_,rfl,e2,h1,h2,λt H3 s3 n3 e3=>?_⟩⟩;have r2:=rel1.same s2;have K2:=kp1.trans (Kp.same rel1 s2);exact k _ hR _ H3 (r2.same s3) (K2.trans (Kp.same r2 s3)) ⟨QdJ (λa ha=>r2.isl ha) s3 n3 e3 (QnQ _),QaH (QbF K2 n3)⟩
end
theorem Qx9{ds:List PyData}{i:Int}(h0:0<=i)(h1:i<ds.length):∃d,d∈ds/\atI ds i=some d:=by
 obtain⟨j,rfl⟩:∃j:Nat,i=j:=⟨i.toNat,by omega⟩
 have hj:j<ds.length:=by omega
 exact⟨ds[j],Yh hj,JU (Qe hj)⟩
theorem QzL{ds:List PyData}{i:Int}{Q:PyData->Prop}(h0:0<=i)(h1:i<ds.length)(q:∀d∈ds,Q d):∃d,atI ds i=some d/\Q d:=by
 obtain⟨d,hd,e⟩:=Qx9 h0 h1;exact⟨d,e,q d hd⟩
structure QE (m:Md) (X:Cx) (E:XK) (e:Q0) (w:DE):Prop where h:PE X e (tX m X.K E w)
structure QT (X:Cx) (E:XK) (e:Q0) (w:DT):Prop where h:PT X e (tT X.K E w)
structure QW (X:Cx) (E:XK) (e:Q0) (w:DT):Prop where h:PW X e (tT X.K E w)
structure QTs (X:Cx) (E:XK) (es:List Q0) (w:DT):Prop where h:PTs X es (tT X.K E w)
structure QA (n:Nat) (m:Md) (X:Cx) (E:XK) (es:List Q0) (w:DAr):Prop where h:PA X es (tAr n m X.K E w)
structure QAs (X:Cx) (E:XK) (es:List Q0) (w:DSl):Prop where h:PA X es (tAs X.K E w)
structure QO (X:Cx) (E:XK) (o:Option Q0) (w:DO):Prop where h:PO X o (tO X.K E w)
structure QG (ix:List Nat) (X:Cx) (tg:Q0) (w:DG):Prop where h:PG X tg (tG ix X.K w)
structure QI (m:Md) (X:Cx) (E:XK) (tg it:Q0) (w:DI):Prop where h:PI X tg it (tI m X.K E w)
structure QS (X:Cx) (E:XK) (st:Y2) (w:DS):Prop where h:PS X st (tS X.K E w)
structure QSs (X:Cx) (E:XK) (sts:List Y2) (w:DS):Prop where h:PSs X sts (tS X.K E w)
section
variable{X:Cx}{E:XK}
theorem q_toD{e:Q0}{w:DE}(h:QE .F X E e w):QE .D X E e w:=⟨toD h.h⟩
theorem JQ{e:Q0}{w:DE}(h:QE .D X E e w):QE .P X E e w:=⟨toP h.h⟩
theorem q_toPF{e:Q0}{w:DE}(h:QE .F X E e w):QE .P X E e w:=⟨QBe h.h⟩
theorem qv(i:Nat){x:Str}{pos:Pos}(hN:X.N[i]? = some x:=by rfl)(hv:Vis X.env.scope x:=by first | exact QZ rfl | exact QV (QZ rfl) | exact QV (QV rfl))(hd:(x == ("__debug__" : Str))=false:=by decide)(hcd:(x == ("__classdict__" : Str))=false:=by decide):QE .D X E (.Name x pos) (Qz4 i):=⟨QwO (pv i hN hv hd hcd)⟩
theorem qp(i:Nat){x:Str}{pos:Pos}(hN:X.N[i]? = some x:=by rfl)(hv:Vis X.env.scope x:=by first | exact QZ rfl | exact QV (QZ rfl) | exact QV (QV rfl))(hd:(x == ("__debug__" : Str))=false:=by decide)(hcd:(x == ("__classdict__" : Str))=false:=by decide):QE .P X E (.Name x pos) (dPk i):=⟨Qzz (pv i hN hv hd hcd)⟩
theorem JE{i:Int}{j pos}:QE .D X E (.Constant (.int i) j pos) (dC (.int i)):=⟨QwW⟩
theorem QBm{b:Bool}{j pos}:QE .D X E (.Constant (.bool b) j pos) (dC (.bool b)):=⟨QzB⟩
theorem Qe2{j pos}:QE .D X E (.Constant .none j pos) (dC .none):=⟨QwT⟩
theorem Qf9{x:Str}{j pos}(h:QaC (.str x)=true:=by decide +kernel):QE .D X E (.Constant (.str x) j pos) (dC (.str x)):=⟨QwQ h⟩
theorem Qav{a b:Q0}{wa wb:DE}{pos:Pos}{r:R2}{rD:PyData->PyData->(PyData->Prop)->Prop}{op:QfH}(ho:OpR X (binaryOp op) r)(hd:OpD r rD)(ha:QE .P X E a wa)(hb:QE .P X E b wb):QE .F X E (.BinOp a op b pos) (dOp rD wa wb):=⟨QwZ ho hd ha.h hb.h⟩
theorem Qwz{a b:Q0}{wa wb:DE}{pos:Pos}{r:R2}{rD:PyData->PyData->(PyData->Prop)->Prop}{op:CmpOp}(ho:OpR X (compareOp op) r)(hd:OpD r rD)(ha:QE .P X E a wa)(hb:QE .P X E b wb)(hm:behindInMarks op b=false):QE .F X E (.Compare a [op] [b] pos) (dOp rD wa wb):=⟨QwY ho hd ha.h hb.h hm⟩
theorem Yz{a b:Q0}{wa wb:DE}{pos:Pos}{r:R2}{rD:PyData->PyData->(PyData->Prop)->Prop}{op:CmpOp}(ho:OpR X (compareOp op) r)(hd:OpD r rD)(ha:QE .P X E a wa)(hb:QE .P X E b wb)(hm:behindInMarks op b=false):QT X E (.Compare a [op] [b] pos) (dTst (dOp rD wa wb)):=⟨QtO ho hd ha.h hb.h hm⟩
theorem QcK{a b:Q0}{wa wb:DE}{pos:Pos}{r:R2}{rD:PyData->PyData->(PyData->Prop)->Prop}(ho:IxR X r)(hd:Qvq r rD)(ha:QE .P X E a wa)(hb:QE .P X E b wb)(hs:Qi6 b):QE .D X E (.Subscript a b pos) (dOp rD wa wb):=⟨QzA ho hd ha.h hb.h hs⟩
theorem Qzr{a:Q0}{wa:DE}{pos:Pos}(ha:QE .P X E a wa):QE .F X E (.UnaryOp .USub a pos) (dUn QAG wa):=⟨QwU ha.h⟩
theorem Qr3{e:Q0}{w:DE}(h:QE .P X E e w)(he:∀whole,isTrue e X.env whole=(do let v <- whole;standAt e.pos;holding [v] (truthy v)):=by intro _;rfl):QT X E e (dTru w):=⟨QtM h.h he⟩
theorem Qr2{e:Q0}{w:DE}(h:QE .P X E e w)(he:∀whole,isTrue e X.env whole=(do let v <- whole;standAt e.pos;holding [v] (truthy v)):=by intro _;rfl):QT X E e (dTst w):=⟨QtL h.h he⟩
theorem Qmh{a:Q0}{pos:Pos}{ta:DT}(ha:QT X E a ta):QW X E (.BoolOp .And [a] pos) ta:=⟨Qpk ha.h⟩
theorem Qr1{a b:Q0}{rest:List Q0}{pos:Pos}{ta tb:DT}(ha:QT X E a ta)(hb:QW X E (.BoolOp .And (b::rest) pos) tb):QW X E (.BoolOp .And (a::b::rest) pos) (QA0 ta tb):=⟨QtK ha.h hb.h⟩
theorem QwB{a b:Q0}{rest:List Q0}{pos:Pos}{wa wb:DE}(ha:QE .P X E a wa)(hb:QE .D X E (.BoolOp .And (b::rest) pos) wb):QE .D X E (.BoolOp .And (a::b::rest) pos) (QxX wa wb):=⟨Qw0 ha.h hb.h⟩
theorem Qwr{a:Q0}{pos:Pos}{ta:DT}(ha:QT X E a ta):QW X E (.BoolOp .Or [a] pos) ta:=⟨QtJ ha.h⟩
theorem Qzo{a b:Q0}{rest:List Q0}{pos:Pos}{ta tb:DT}(ha:QT X E a ta)(hb:QW X E (.BoolOp .Or (b::rest) pos) tb):QW X E (.BoolOp .Or (a::b::rest) pos) (dOr ta tb):=⟨QwM ha.h hb.h⟩
theorem Qzp{e:Q0}{t:DT}(h:QW X E e t):QT X E e t:=⟨PW.pt h.h⟩
theorem Qjt{a:Q0}{pos:Pos}{ta:DT}(ha:QT X E a ta):QT X E (.UnaryOp .Not a pos) (QAR ta):=⟨QtN ha.h⟩
theorem Qwx{op}{a:Q0}{pos:Pos}{w:DE}(h:QE .D X E a w):QE .D X E (.BoolOp op [a] pos) w:=⟨QwR h.h⟩
theorem Qzq{a:Q0}{pos:Pos}{wa:DE}(ha:QE .P X E a wa):QE .D X E (.UnaryOp .Not a pos) (QxU wa):=⟨QwS ha.h⟩
theorem Qzs{c a b:Q0}{pos:Pos}{ta:DT}{wa wb:DE}(hc:QT X E c ta)(ha:QE .D X E a wa)(hb:QE .D X E b wb):QE .D X E (.IfExp c a b pos) (QAW ta wa wb):=⟨QwX hc.h ha.h hb.h⟩
theorem Q8{m:Md}:QA 0 m X E [] QAS:=⟨Qt3⟩
theorem ZF{n:Nat}{e:Q0}{es:List Q0}{we:DE}{wr:DAr}(he:QE .D X E e we)(hr:QA n .D X E es wr)(hs:notStar e=true:=by rfl):QA (n+1) .D X E (e::es) (QnU we wr):=⟨QmC he.h hr.h hs⟩
theorem qa_P{n:Nat}{e:Q0}{es:List Q0}{we:DE}{wr:DAr}(he:QE .P X E e we)(hr:QA n .P X E es wr)(hs:notStar e=true:=by rfl):QA (n+1) .P X E (e::es) (QnU we wr):=⟨QmB he.h hr.h hs⟩
theorem Z7{n:Nat}{es:List Q0}{w:DAr}{x1}{pos:Pos}(h:QA n .D X E es w)(hn:n<=1000:=by decide):QE .F X E (.Tuple es x1 pos) (QAN w):=⟨QwP h.h hn⟩
theorem Qcy{n:Nat}{es:List Q0}{w:DAr}{pos:Pos}(h:QA n .D X E es w)(hn:n<=1000:=by decide):QE .F X E (.List es pos) (QAT w):=⟨QwV h.h hn⟩
theorem Qbi{x:Str}{bid:String}{p pos:Pos}{e:Q0}{es:List Q0}{n:Nat}{wr:DAr}{r:List V->Hp->VK->Prop}{rD:List PyData->(PyData->Prop)->Prop}(hc:CallR X (.builtin bid) r)(hd:QdC r rD)(hg:Gl X x)(hm:X.mg x=none)(hv:bootBuiltins x=some (.builtin bid))(ha:QA n .P X E (e::es) wr)(hn:x ≠ "__name__" := by decide)(hdb:(x == ("__debug__" : Str))=false:=by decide)(he:starEach (e::es) X.env=(false,eval e X.env)::starEach es X.env:=by rfl)(hpl:(backTo pos (starEach es X.env)).any (·.1)=false:=by rfl):QE .F X E (.Call (.Name x p) (e::es) [] pos) (dCB rD wr):=⟨QpA hc hd hg hm hv ha.h hn hdb he hpl⟩
theorem q_callTy{x:Str}{T:String}{p pos:Pos}{e:Q0}{es:List Q0}{n:Nat}{wr:DAr}{r:List V->Hp->VK->Prop}{rD:List PyData->(PyData->Prop)->Prop}(hc:CallR X (.type T) r)(hd:QdC r rD)(hg:Gl X x)(hm:X.mg x=none)(hv:bootBuiltins x=some (.type T))(ha:QA n .P X E (e::es) wr)(hn:x ≠ "__name__" := by decide)(hdb:(x == ("__debug__" : Str))=false:=by decide)(he:starEach (e::es) X.env=(false,eval e X.env)::starEach es X.env:=by rfl)(hpl:(backTo pos (starEach es X.env)).any (·.1)=false:=by rfl):QE .F X E (.Call (.Name x p) (e::es) [] pos) (dCB rD wr):=⟨QmF hc hd hg hm hv ha.h hn hdb he hpl⟩
theorem Qr5{e:Q0}{we:DE}{p pos pos2:Pos}{x:Str}(tn:Tn)(hg:Gl X "isinstance")(hm:X.mg "isinstance" = none)(he:QE .P X E e we)(hg2:Gl X x)(hm2:X.mg x=none)(hv:bootBuiltins x=some (.type tn.s))(hn:x ≠ "__name__" := by decide)(hd:(x == ("__debug__" : Str))=false:=by decide)(h1:notStar e=true:=by rfl):QE .F X E (.Call (.Name "isinstance" p) [e,.Name x pos2] [] pos) (QxW tn we):=⟨Qt5 tn hg hm he.h (QzC tn hg2 hm2 hv hn hd) h1 rfl⟩
theorem Qb6  : QO X E none dNo:=⟨Qpu⟩
theorem Qb5{e:Q0}{we:DE}(he:QE .P X E e we):QO X E (some e) (dSo we):=⟨Qpt he.h⟩
theorem Qb7{e:Q0}{lo hi:Option Q0}{we:DE}{wl wh:DO}{p2 pos:Pos}(he:QE .P X E e we)(hl:QO X E lo wl)(hh:QO X E hi wh):QE .F X E (.Subscript e (.Slice lo hi none p2) pos) (dSl we wl wh):=⟨Qpy he.h hl.h hh.h⟩
theorem Qjx{e:Q0}{w:DE}{p p2 pos pos2:Pos}(hg:Gl X "tuple")(hm:X.mg "tuple" = none)(hg2:Gl X "range")(hm2:X.mg "range" = none)(h:QE .P X E e w)(hc:X.calm=true:=by rfl)(hs:notStar e=true:=by rfl):QE .F X E (.Call (.Name "tuple" p) [.Call (.Name "range" p2) [e] [] pos2] [] pos) (QxP w):=⟨QmD hg hm hg2 hm2 h.h hc hs⟩
theorem Qo7{e:Q0}{w:DE}{p p2 pos pos2:Pos}(hg:Gl X "list")(hm:X.mg "list" = none)(hg2:Gl X "range")(hm2:X.mg "range" = none)(h:QE .P X E e w)(hc:X.calm=true:=by rfl)(hs:notStar e=true:=by rfl):QE .F X E (.Call (.Name "list" p) [.Call (.Name "range" p2) [e] [] pos2] [] pos) (QxV w):=⟨QmE hg hm hg2 hm2 h.h hc hs⟩
theorem JT  : QAs X E [] QAu:=⟨QtU⟩
theorem Yt{e:Q0}{es:List Q0}{we:DE}{wr:DSl}(he:QE .D X E e we)(hr:QAs X E es wr)(hs:notStar e=true:=by rfl):QAs X E (e::es) (sV we wr):=⟨Qzy he.h hr.h hs⟩
theorem QaJ(i:Nat){x:Str}{pos:Pos}{es:List Q0}{wr:DSl}(hr:QAs X E es wr)(hN:X.N[i]? = some x:=by rfl)(hv:Vis X.env.scope x:=by first | exact QZ rfl | exact QV (QZ rfl) | exact QV (QV rfl))(hd:(x == ("__debug__" : Str))=false:=by decide)(hcd:(x == ("__classdict__" : Str))=false:=by decide):QAs X E (.Name x pos::es) (Qze i wr):=⟨QtR (pv i hN hv hd hcd) hr.h rfl⟩
theorem Yc{CX:CXT}{k:Nat}{f:Addr}{fd:Q6}{ps:List Str}{x:Str}{p pos:Pos}{e:Q0}{es:List Q0}{fD:DF}{wa:DSl}(G:FnOk X.prog X.w X.K X.mg X.base CX k f fd ps (ZP false fD))(hr:Room k X.A)(hg:Gl X x)(hm:X.mg x=some (.ref f))(hk:PySem.W.keepIn X.K (.ref f)=true)(hb:Binds X.K fd ps [])(hx:QcE CX X E)(ha:QAs X E (e::es) wa)(hdb:(x == ("__debug__" : Str))=false:=by decide)(he:starEach (e::es) X.env=(false,eval e X.env)::starEach es X.env:=by rfl)(hpl:(backTo pos (starEach es X.env)).any (·.1)=false:=by rfl):QE .D X E (.Call (.Name x p) (e::es) [] pos) (QnV fD wa):=⟨Qt8 G hr hg hm hk hb hx ha.h hdb he hpl⟩
theorem ZS{CX:CXT}{k:Nat}{f:Addr}{fd:Q6}{ps:List Str}{x:Str}{p pos:Pos}{e:Q0}{es:List Q0}{fD:DF}{wa:DSl}(G:FnOk X.prog X.w X.K X.mg X.base CX k f fd ps (ZP true fD))(hr:Room k X.A)(hg:Gl X x)(hm:X.mg x=some (.ref f))(hk:PySem.W.keepIn X.K (.ref f)=true)(hb:Binds X.K fd ps [])(hx:QcE CX X E)(ha:QAs X E (e::es) wa)(hdb:(x == ("__debug__" : Str))=false:=by decide)(he:starEach (e::es) X.env=(false,eval e X.env)::starEach es X.env:=by rfl)(hpl:(backTo pos (starEach es X.env)).any (·.1)=false:=by rfl):QE .F X E (.Call (.Name x p) (e::es) [] pos) (QnV fD wa):=⟨Qpz G hr hg hm hk hb hx ha.h hdb he hpl⟩
theorem Qga{CX:CXT}{k:Nat}{f:Addr}{fd:Q6}{ps:List Str}{x:Str}{p pos:Pos}{e:Q0}{es:List Q0}{fD:DF}{n:Nat}{fr:Bool}{wr:DAr}(G:FnOk X.prog X.w X.K X.mg X.base CX k f fd ps (ZP fr fD))(hr:Room k X.A)(hg:Gl X x)(hm:X.mg x=some (.ref f))(hk:PySem.W.keepIn X.K (.ref f)=true)(hb:Binds X.K fd ps [])(hx:QcE CX X E)(ha:QA n .P X E (e::es) wr)(hdb:(x == ("__debug__" : Str))=false:=by decide)(he:starEach (e::es) X.env=(false,eval e X.env)::starEach es X.env:=by rfl)(hpl:(backTo pos (starEach es X.env)).any (·.1)=false:=by rfl):QE .F X E (.Call (.Name x p) (e::es) [] pos) (QiU fD wr):=⟨QmG G hr hg hm hk hb hx ha.h hdb he hpl⟩
theorem QwA{k:Nat}{f:Addr}{fd:Q6}{ps:List Str}{x y:Str}{p pos pos2:Pos}{b:Q0}{wb:DE}(i:Nat)(G:FnOk X.prog X.w X.K X.mg X.base CX0 k f fd ps (Qc0 X.K))(hr:Room k X.A)(hg:Gl X x)(hm:X.mg x=some (.ref f))(hk:PySem.W.keepIn X.K (.ref f)=true)(hb:Binds X.K fd ps [])(h:QE .P X E b wb)(hN:X.N[i]? = some y:=by rfl)(hv:Vis X.env.scope y:=by first | exact QZ rfl | exact QV (QZ rfl) | exact QV (QV rfl))(hd:(y == ("__debug__" : Str))=false:=by decide)(hcd:(y == ("__classdict__" : Str))=false:=by decide)(h2:notStar b=true:=by rfl)(hdb:(x == ("__debug__" : Str))=false:=by decide):QE .F X E (.Call (.Name x p) [.Name y pos2,b] [] pos) (Qu6 i wb):=⟨Qt7 G hr hg hm hk hb (pv i hN hv hd hcd) h.h rfl h2 hdb⟩
theorem Qwy{y:Str}{p pos pos2:Pos}(i:Nat)(hg:Gl X "len")(hm:X.mg "len" = none)(hN:X.N[i]? = some y:=by rfl)(hv:Vis X.env.scope y:=by first | exact QZ rfl | exact QV (QZ rfl) | exact QV (QV rfl))(hd:(y == ("__debug__" : Str))=false:=by decide)(hcd:(y == ("__classdict__" : Str))=false:=by decide):QE .F X E (.Call (.Name "len" p) [.Name y pos2] [] pos) (Qu5 i):=⟨Qt4 hg hm (pv i hN hv hd hcd) rfl⟩
theorem ZR(i:Nat){x:Str}{pos:Pos}(hN:X.N.Nodup)(hi:X.N[i]? = some x)(hx:Loc X.env.scope x)(hf:X.fn x=true∨X.env.scope.names.lookup x=some .local:=by first | exact .inl rfl | exact .inr rfl | assumption):QG [i] X (.Name x pos) (gN i):=⟨Qpx (Qbj hN hi hx hf)⟩
structure QGs (X:Cx) (es:List Q0) (is:List Nat):Prop where h:PGs X es (gNs is)
theorem QbP  : QGs X [] []:=⟨Qms⟩
theorem Zp(i:Nat){is:List Nat}{x:Str}{pos:Pos}{es:List Q0}(h:QGs X es is)(hN:X.N.Nodup)(hi:X.N[i]? = some x)(hx:Loc X.env.scope x)(hf:X.fn x=true∨X.env.scope.names.lookup x=some .local:=by first | exact .inl rfl | exact .inr rfl | assumption)(hs:(assignEach (.Name x pos::es) X.env).map (·.2)=assign (.Name x pos) X.env::(assignEach es X.env).map (·.2):=by rfl):QGs X (.Name x pos::es) (i::is):=⟨Qge (Qbj hN hi hx hf) h.h hs⟩
theorem QbO{es:List Q0}{k:Nat}{pos:Pos}{is:List Nat}(hc:X.calm=true)(h:QGs X es is)(hn:(assignEach es X.env).length=is.length:=by rfl)(hst:(assignEach es X.env).findIdx? (·.1)=none:=by rfl):QG is X (.Tuple es k pos) (gTN is):=⟨Qt2 (Qr9 hc h.h hn hst) rfl⟩
theorem QbC{m:Md}{tg e:Q0}{w:DE}(h:QE m X E e w):QI m X E tg e (QAV w):=⟨Qpw h.h⟩
theorem qi_tup{m:Md}{tg e:Q0}{w:DE}(h:QE m X E e w):QI m X E tg e (QAU w):=⟨Qt1 h.h⟩
theorem QaE{m:Md}{tg e:Q0}{w:DE}{p pos:Pos}(hg:Gl X "range")(hm:X.mg "range" = none)(h:QE .P X E e w)(hs:notStar e=true:=by rfl):QI m X E tg (.Call (.Name "range" p) [e] [] pos) (QxS w):=⟨Qpv hg hm h.h hs⟩
theorem Qjw{m:Md}{e:Q0}{w:DE}{p pos tpos:Pos}{elts:List Q0}{x1}(hg:Gl X "enumerate")(hm:X.mg "enumerate" = none)(h:QE m X E e w)(hs:notStar e=true:=by rfl):QI m X E (.Tuple elts x1 tpos) (.Call (.Name "enumerate" p) [e] [] pos) (QAY w):=⟨QmA hg hm h.h hs⟩
theorem Qjv{m:Md}{e:Q0}{w:DE}{p pos tpos:Pos}{elts:List Q0}{x1}(hg:Gl X "enumerate")(hm:X.mg "enumerate" = none)(h:QE m X E e w)(hs:notStar e=true:=by rfl):QI m X E (.Tuple elts x1 tpos) (.Call (.Name "enumerate" p) [e] [] pos) (QAX w):=⟨Qmz hg hm h.h hs⟩
theorem qts_nil  : QTs X E [] QvE:=⟨Qpm⟩
theorem QcJ{c:Q0}{t:DT}(h:QT X E c t):QTs X E [c] t:=⟨Qpl h.h⟩
theorem q_comp(M:List Str)(cap:List (Option Nat)){elt tg iter:Q0}{ifs:List Q0}{scope:YA}{pos:Pos}{ix:List Nat}{wi:DI}{wg:DG}{wt:DT}{we:DE}(hi:QI .P X E tg iter wi)(hb:∀cl ex s3 H3 C,QG ix (blk X M scope cl ex s3 H3 C) tg wg/\QTs (blk X M scope cl ex s3 H3 C) E0 ifs wt/\QE .D (blk X M scope cl ex s3 H3 C) E0 elt we)(hc:X.calm=true:=by rfl)(ok:Qgw X.N X.env.scope M scope cap=true:=by rfl)(hf:Qcz cap ix=true:=by rfl)(hs:∀x,foldedSetIterable iter X.env x=pure x:=by intro _;rfl):QE .F X E (.ListComp elt [⟨tg,iter,ifs,0⟩] scope pos) (dComp cap wi wg wt we):=⟨Qt6 hc ok hf hi.h (λcl ex s3 H3 C=>⟨(hb cl ex s3 H3 C).1.h,(hb cl ex s3 H3 C).2.1.h,(hb cl ex s3 H3 C).2.2.h⟩) hs⟩
theorem YE  : QSs X E [] QxQ:=⟨Qpn⟩
theorem Jl{st:Y2}{w:DS}(h:QS X E st w):QSs X E [st] w:=⟨QtT h.h⟩
theorem QP{st:Y2}{rest:List Y2}{w w':DS}(h:QS X E st w)(h':QSs X E rest w'):QSs X E (st::rest) (QAO w w'):=⟨Qpr h.h h'.h⟩
theorem YF(i:Nat){x:Str}{e:Q0}{pos pos':Pos}{we:DE}(he:QE .D X E e we)(hN:X.N.Nodup)(hi:X.N[i]? = some x:=by rfl)(hx:Loc X.env.scope x:=by first | exact QZ rfl | exact QV rfl)(hs:swapsWith e (some (.Name x pos')) pos.line X.env=pure false:=by rfl)(hf:X.fn x=true∨X.env.scope.names.lookup x=some .local:=by first | exact .inl rfl | exact .inr rfl | assumption):QS X E (.Assign [.Name x pos'] e pos) (Qz6 i we):=⟨Qmy (Qa7 hN hi hx he.h hs hf)⟩
theorem Qbh(i:Nat){x:Str}{e:Q0}{pos pos':Pos}{we:DE}(he:QE .F X E e we)(hN:X.N.Nodup)(hi:X.N[i]? = some x:=by rfl)(hx:Loc X.env.scope x:=by first | exact QZ rfl | exact QV rfl)(hs:swapsWith e (some (.Name x pos')) pos.line X.env=pure false:=by rfl)(hf:X.fn x=true∨X.env.scope.names.lookup x=some .local:=by first | exact .inl rfl | exact .inr rfl | assumption):QS X E (.Assign [.Name x pos'] e pos) (Qu3 i we):=⟨QjA (Qa7 hN hi hx he.h hs hf)⟩
theorem Qtt(i:Nat){x:Str}{e:Q0}{pos pos':Pos}{we:DE}(he:QE .F X E e we)(hN:X.N.Nodup)(hi:X.N[i]? = some x:=by rfl)(hx:Loc X.env.scope x:=by first | exact QZ rfl | exact QV rfl)(hs:swapsWith e (some (.Name x pos')) pos.line X.env=pure false:=by rfl)(hf:X.fn x=true∨X.env.scope.names.lookup x=some .local:=by first | exact .inl rfl | exact .inr rfl | assumption):QS X E (.Assign [.Name x pos'] e pos) (QxR i we):=⟨Qpo (Qa7 hN hi hx he.h hs hf)⟩
theorem Qju{tg e:Q0}{pos:Pos}{ix:List Nat}{we:DE}{wg:DG}(he:QE .D X E e we)(hg:QG ix X tg wg)(hs:swapsWithSole [tg] e pos.line X.env=pure false:=by rfl)(hw:swappedStores [tg] e X.env=pure none:=by rfl)(h1:(assignEach [tg] X.env).map (·.2)=[assign tg X.env]:=by rfl):QS X E (.Assign [tg] e pos) (QAZ we wg):=⟨QtZ (Qmp he.h hg.h hs hw h1)⟩
theorem Qwt(i j:Nat){x y:Str}{a b:Q0}{n:Nat}{wa:DAr}{pos px py pt:Pos}{kt k2 pt2}(ha:QA n .D X E [a,b] wa)(hN:X.N.Nodup)(hc:X.calm=true:=by rfl)(hi:X.N[i]? = some x:=by rfl)(hj:X.N[j]? = some y:=by rfl)(hij:i≠j:=by decide)(hx:X.env.scope.names.lookup x=some .local:=by rfl)(hy:X.env.scope.names.lookup y=some .local:=by rfl)(hw:swappedStores [.Tuple [.Name x px,.Name y py] kt pt] (.Tuple [a,b] k2 pt2) X.env=pure (some [x,y]):=by rfl)(hs:swapsWithSole [.Tuple [.Name x px,.Name y py] kt pt] (.Tuple [a,b] k2 pt2) pos.line X.env=pure false:=by rfl):QS X E (.Assign [.Tuple [.Name x px,.Name y py] kt pt] (.Tuple [a,b] k2 pt2) pos) (QAQ i j wa):=⟨QtS (QwG hc hN hi hj hij hx hy ha.h hw hs)⟩
theorem Qa6{e:Q0}{pos:Pos}{we:DE}(h:QE .D X E e we):QS X E (.Return (some e) pos) (QAP we):=⟨QtP h.h⟩
theorem Ym{e:Q0}{pos:Pos}{we:DE}(h:QE .F X E e we):QS X E (.Return (some e) pos) (QxT we):=⟨Qpq h.h⟩
theorem Qf8(i:Nat){x:Str}{pos pos2:Pos}(hN:X.N[i]? = some x:=by rfl)(hv:Vis X.env.scope x:=by first | exact QZ rfl | exact QV (QZ rfl) | exact QV (QV rfl))(hd:(x == ("__debug__" : Str))=false:=by decide)(hcd:(x == ("__classdict__" : Str))=false:=by decide):QS X E (.Return (some (.Name x pos)) pos2) (Qu4 i):=⟨Qpp (pv i hN hv hd hcd)⟩
theorem Qb4{c:Q0}{a b:List Y2}{pos:Pos}{t:DT}{w w':DS}(hc:QT X E c t)(ha:QSs X E a w)(hb:QSs X E b w'):QS X E (.If c a b pos) (dIf t w w'):=⟨QwN hc.h ha.h hb.h⟩
theorem Qr4{y:Str}{e:Q0}{we:DE}{apos cpos pos npos:Pos}(i:Nat)(he:QE .D X E e we)(hN:X.N[i]? = some y:=by rfl)(hv:Vis X.env.scope y:=by first | exact QZ rfl | exact QV (QZ rfl) | exact QV (QV rfl))(hd:(y == ("__debug__" : Str))=false:=by decide)(hcd:(y == ("__classdict__" : Str))=false:=by decide)(hst:notStar e=true:=by rfl)(hbase:attributeBase (.Name y npos) "append" X.env (eval (.Name y npos) X.env)=eval (.Name y npos) X.env:=by rfl)(hfew:((backTo cpos (starEach [e] X.env)).all (λx => !x.1)&&(backToKw cpos (keywordEach [] X.env)).all (λx=>x.1.isSome)&&decide ([e].length+([]:List Qat).length+(if([]:List Qat).isEmpty then 0 else 1)<30))=true:=by rfl)(hline:(apos.endLine == cpos.line)=true:=by rfl)(hsw:swapsWith (.Call (.Attribute (.Name y npos) "append" apos) [e] [] cpos) none pos.line X.env=pure false:=by rfl):QS X E (.Expr (.Call (.Attribute (.Name y npos) "append" apos) [e] [] cpos) pos) (QAb i we):=⟨Qt0 (Qgc (Qmx PySem.F.plainAttrs_list PySem.F.slot_list_append PySem.F.type_list_append Qhq (pv i hN hv hd hcd) (pa_c he.h pa_nil hst) hbase hfew hline (Yq hst) rfl) hsw)⟩
theorem Qmj{y:Str}{e:Q0}{we:DE}{apos cpos pos npos:Pos}(i:Nat)(he:QE .P X E e we)(hN:X.N[i]? = some y:=by rfl)(hv:Vis X.env.scope y:=by first | exact QZ rfl | exact QV (QZ rfl) | exact QV (QV rfl))(hd:(y == ("__debug__" : Str))=false:=by decide)(hcd:(y == ("__classdict__" : Str))=false:=by decide)(hst:notStar e=true:=by rfl)(hbase:attributeBase (.Name y npos) "extend" X.env (eval (.Name y npos) X.env)=eval (.Name y npos) X.env:=by rfl)(hfew:((backTo cpos (starEach [e] X.env)).all (λx => !x.1)&&(backToKw cpos (keywordEach [] X.env)).all (λx=>x.1.isSome)&&decide ([e].length+([]:List Qat).length+(if([]:List Qat).isEmpty then 0 else 1)<30))=true:=by rfl)(hline:(apos.endLine == cpos.line)=true:=by rfl)(hsw:swapsWith (.Call (.Attribute (.Name y npos) "extend" apos) [e] [] cpos) none pos.line X.env=pure false:=by rfl):QS X E (.Expr (.Call (.Attribute (.Name y npos) "extend" apos) [e] [] cpos) pos) (Qz9 i we):=⟨QtX (Qgc (Qmx PySem.F.plainAttrs_list PySem.F.slot_list_extend PySem.F.type_list_extend Qna (pv i hN hv hd hcd) (pa_c he.h pa_nil hst) hbase hfew hline (Yq hst) rfl) hsw)⟩
theorem Qmm{y:Str}{e k:Q0}{we wk:DE}{op:QfH}{ti:TIp}{rD:PyData->PyData->(PyData->Prop)->Prop}{pos tpos npos:Pos}(i:Nat)(ho:PIp X op ti)(hd:Qvq ti rD)(hk:QE .P X E k wk)(he:QE .P X E e we)(hN:X.N[i]? = some y:=by rfl)(hv:Vis X.env.scope y:=by first | exact QZ rfl | exact QV (QZ rfl) | exact QV (QV rfl))(hdd:(y == ("__debug__" : Str))=false:=by decide)(hcd:(y == ("__classdict__" : Str))=false:=by decide)(ha:∀ov iv new,augStore k ov iv new=(do holding [new,ov,iv] (setItem ov iv new);release [new,ov,iv] [];pure .next):=by intros;rfl):QS X E (.AugAssign (.Subscript (.Name y npos) k tpos) op e pos) (Qu7 i rD wk we):=⟨Qps hd (QtB (pv i hN hv hdd hcd) hk.h Qp7 he.h (PIp.len ho) QfY ha)⟩
theorem Qwv{st:Y2}{w:DS}(is:List Nat)(h:QS X E st w):QS X E st (λD δ=>w D (QvD is δ)):=⟨QtY is h.h⟩
theorem QaK{tg iter:Q0}{body:List Y2}{pos:Pos}{ix:List Nat}{wi:DI}{wg:DG}{wb:DS}(hp:PassesOwn (model X.prog X.w) X.A X.env X.xe)(hc:X.calm=true)(hi:QI .D X E tg iter wi)(hg:QG ix X tg wg)(hb:QSs X E body wb)(hs:∀x,foldedSetIterable iter X.env x=pure x:=by intro _;rfl):QS X E (.For tg iter body [] pos) (dFor wi wg wb):=⟨QtW hp hc hi.h hg.h hb.h hs⟩
end
section
variable{P:Qy}{w:Jc}{K:PySem.W.Frag}{mg:Str->Option Value}{base:Heap}
theorem okQ{x qual:Str}{st:Y2}{f:Addr}{fd:Q6}{N ps:List Str}{k:Nat}{fD:DF}(fr:Bool)(F:Fun K x qual st f fd)(S:JV N ps (QD st))(len:∀args R EX,fD args R EX->args.length=ps.length)
  (hbody:∀(cdv:Value)(A:Jb)(outer:List Env)(s:Shared)(H:Hp)(E:XK),Room k (A.deeper (envOfC qual (QD st) s.heap.objs.size f cdv)) ->
   ∃wd,QSs (Qoo CX0 P w K mg base N qual (QD st) f cdv A outer s H E).nox E0 (JP st) wd/\∀args R EX,fD args R EX->wd (QuY fr R XF) (stD N args)):FnOk P w K mg base CX0 (k+1) f fd ps (ZP fr fD):=
 okD fr F S len λcdv A outer s H E hr=>let ⟨wd,h,q⟩:=hbody cdv A outer s H E hr;⟨wd,h.h,q⟩
theorem QBn{x qual:Str}{st:Y2}{f:Addr}{fd:Q6}{N:List Str}{p:Str}{k:Nat}(F:Fun K x qual st f fd)(S:JV N [p] (QD st))
  (hbody:∀(cdv:Value)(A:Jb)(outer:List Env)(s:Shared)(H:Hp)(E:XK),Room k (A.deeper (envOfC qual (QD st) s.heap.objs.size f cdv)) ->
   ∃wd,QSs (Qoo CX0 P w K mg base N qual (QD st) f cdv A outer s H E).nox E0 (JP st) wd/\wd QxE (stD N [.scr])):FnOk P w K mg base CX0 (k+1) f fd [p] (Qe8 K):=
 QzH F S λcdv A outer s H E hr=>let ⟨wd,h,q⟩:=hbody cdv A outer s H E hr;⟨wd,h.h,q⟩
end
structure GOk (wg:DG):Prop where h:∀d δ Q,wg d δ Q->wg d δ λδ'=>(∀(j:Nat) x,δ'[j]? = some x->(∃e,x=.v e)∨δ[j]? = some x)/\Q δ'
theorem Qp5(i:Nat):GOk (gN i):=⟨λd δ Q h=>⟨λj x e=>by
 by_cases z:j=i
 ·subst z;exact .inl ⟨d,set_eq e⟩
 ·rw[YT z] at e;exact .inr e,h⟩⟩
theorem QnE{cap:List (Option Nat)}{ix:List Nat}(hf:Qcz cap ix=true){i:Nat}(hi:i∈ix):cap[i]? = some none:=by
 have:=Zi.mp hf i hi;split at this
 ·assumption
 ·cases this
theorem Qea{cap:List (Option Nat)}{ix:List Nat}(hf:Qcz cap ix=true){δ:Sts}{i:Nat}{x:Sl}(h:(Qed cap δ)[i]? = some x)(hx:x≠.no):i∉ix:=λz=>by
 rcases Qgx h with⟨_,e⟩ | ⟨j,hj,_⟩
 ·exact hx e
 ·rw[QnE hf z] at hj;cases hj
section
variable{K:PySem.W.Frag}{σ σ4:L2.St}{δ δ4:Sts}{cap:List (Option Nat)}{ix:List Nat}{A1:Addr->Prop}{H3 H5 H6:Hp}
theorem Qsn(hP:∀a,YB σ δ a->A1 a)(hf:Qcz cap ix=true)(j4:∀j,j∉ix->σ4[j]? = (Qdh cap σ)[j]?)(gk:∀(j:Nat) x,δ4[j]? = some x->(∃e,x=.v e)∨(Qed cap δ)[j]? = some x){a:Addr}(h:Av (inF A1 cap σ δ H3) σ4 δ4 a):A1 a:=by
 rcases h with z | ⟨i,h1,h2⟩
 ·exact z
 ·refine(QjX (cap:=cap) (H:=H3) hP).mp ?_
  rcases h2 with h2 | ⟨ds,h2⟩
  ·rcases gk i _ h2 with⟨e,z⟩ | z
   ·cases z
   ·exact .inr ⟨i,by rw[<- j4 i (Qea hf z (λz=>by cases z))];exact h1,.inl z⟩
  ·rcases gk i _ h2 with⟨e,z⟩ | z
   ·cases z
   ·exact .inr ⟨i,by rw[<- j4 i (Qea hf z (λz=>by cases z))];exact h1,.inr ⟨ds,z⟩⟩
theorem QuQ(hP:∀a,YB σ δ a->A1 a)(hf:Qcz cap ix=true)(j4:∀j,j∉ix->σ4[j]? = (Qdh cap σ)[j]?)(gk:∀(j:Nat) x,δ4[j]? = some x->(∃e,x=.v e)∨(Qed cap δ)[j]? = some x)
  (ri:Rel K (inF A1 cap σ δ H6) (Qdh cap σ) H6 (Qed cap δ))(r5:Rel K (inF A1 cap σ δ H3) σ4 H5 δ4)(kk:∀a o,¬A1 a->H5 a=some o->H6 a=some o):Rel K (inF A1 cap σ δ H6) σ4 H6 δ4 where
 len:=r5.len
 dom:=ri.dom
 dom0:=ri.dom0
 pt0:=ri.pt0
 kx:=ri.kx
 sl:=λi o x h1 h2=>by
  have iv:∀{a:Addr},Av (inF A1 cap σ δ H6) σ4 δ4 a->A1 a:=λ{a} z=>Qsn hP hf j4 gk z
  rcases gk i x h2 with⟨d,rfl⟩ | hx
  ·obtain⟨v,e,q⟩:=r5.sl i o _ h1 h2;exact⟨v,e,q.mv (λa o n e=>kk a o (λz=>n (.inl z)) e) λa z=>.inl (.inl (iv z))⟩
  ·by_cases hn:x=.no
   ·subst hn;trivial
   ·have h1':(Qdh cap σ)[i]? = some o:=by rw[<- j4 i (Qea hf hx hn)];exact h1
    have h:=ri.sl i o x h1' hx;cases x with
    |no=>trivial
    |v d=>obtain⟨v',e,q'⟩:=h;exact⟨v',e,q'.mv (λ_ _ _ e=>e) λa z=>.inl (.inl (iv z))⟩
    |own ds=>obtain⟨l,xs,e,e2,q',f⟩:=h;exact⟨l,xs,e,e2,q'.mv (λ_ _ _ e=>e) λa z=>.inl (.inl (iv z)),f⟩
    |pk ds=>obtain⟨l,xs,e,e2,q',f⟩:=h;exact⟨l,xs,e,e2,q'.mv (λ_ _ _ e=>e) λa z=>.inl (.inl (iv z)),f⟩
    |pot=>exact h
    |scr=>exact h
 inj:=λi j a ds h1 h2 _=>by
  rcases gk i _ h1 with⟨e,z⟩ | z
  ·cases z
  ·rcases Qgx z with⟨_,e⟩ | ⟨j,hj,e⟩
   ·cases e
   ·exfalso
    cases e2:δ[j]? with
    |none=>rw[e2] at e;cases e
    |some y=>rw[e2] at e;cases y<;>cases e
end
theorem QoM{K:PySem.W.Frag}{F:Fm}{σ:L2.St}{δ:Sts}{H1 H3:Hp}{cap:List (Option Nat)}{ix:List Nat}{wg:DG}{wt:DT}{A1:Addr->Prop}{x:V}{d:PyData}{inner:L2.St->Hp->(Hp->Prop)->Prop}{kk:Hp->Prop}{T:Sts->Prop}{N:Prop}(gok:GOk wg)
  (hf:Qcz cap ix=true)(rel:Rel K F σ H1 δ)(hA:∀a,Av F σ δ a->A1 a)(hN:∀a,A1 a->Av F σ δ a∨H1 a=none)(dm:∀a,A1 a->∃xs,H3 a=some (.lst xs))(kp:Kp σ δ H1 H3)(dx:DA A1 H3 x d)
  (h:wg d (Qed cap δ) λδ4=>wt δ4 (λb=>if b=true then T δ4 else N) XF)
  (hT:∀σ4 δ4 H5,T δ4->Rel K (inF A1 cap σ δ H3) σ4 H5 δ4->Kp σ δ H3 H5->(∀j,j∉ix->σ4[j]? = (Qdh cap σ)[j]?)->σ4.length=(Qdh cap σ).length->(∀(j:Nat) x,δ4[j]? = some x->(∃e,x=.v e)∨(Qed cap δ)[j]? = some x)->inner σ4 H5 kk)(hF:N->∀H5,Kp σ δ H3 H5->kk H5) :
  bOf (Qdh cap σ) (tG ix K wg) (tT K E0 wt) inner x H3 kk:=by
 have ri:=Qnq (cap:=cap) rel hA hN dm kp;have iv:∀{a:Addr},Av (inF A1 cap σ δ H3) (Qdh cap σ) (Qed cap δ) a->A1 a:=λ{a}=>(QjX λa z=>hA a (Qai z)).mp
 refine⟨inF A1 cap σ δ H3,Qed cap δ,d,_,ri,dx.mv (λ_ _ _ e=>e) λa z=>.inl (iv z),gok.h _ _ _ h,λδ4 ⟨g4,h4⟩ σ4 r4 st4 l4 j4=>⟨Qsz hf l4 j4,inF A1 cap σ δ H3,δ4,_,XF,r4,h4,λb hb H5 r5 kp5=>?_,Qsd⟩⟩;have pots:∀{b:Addr},YB σ4 δ4 b->YB σ δ b:=λz=>QiM r4 (λb o _ e1 e2=>by rw[e2] at e1;cases e1) z
 have K5:Kp σ δ H3 H5:=by
  refine⟨λb o n e=>kp5.1 b o (λz=>n (pots z)) e,λb hb=>?_⟩;by_cases z:YB σ4 δ4 b
  ·exact kp5.2 b z
  ·obtain⟨n,e⟩:=kp.2 b hb;exact⟨n,kp5.1 _ _ z e⟩
 exact QdL hb (λz=>hT σ4 δ4 H5 z r5 K5 j4 l4 g4) λz=>hF z H5 K5
theorem Qu0{K:PySem.W.Frag}{σ σ4:L2.St}{δ δ4:Sts}{H1 H3 H5:Hp}{cap:List (Option Nat)}{we:DE}{A1:Addr->Prop}{p:Addr}{acc:List PyData}{kk:Hp->Prop}{G:PyData->Prop}
  (hpA:A1 p)(hP:∀a,YB σ δ a->A1 a)(hp1:H1 p=none)(hpn:¬YB σ δ p)(lp:Lp σ δ A1 p H1 H5 acc)(hl:acc.length<sizeLine)(r5:Rel K (inF A1 cap σ δ H3) σ4 H5 δ4)(pots:∀b,YB σ4 δ4 b->YB σ δ b)
  (h:we δ4 G XF)(hk:∀e,G e->∀H',Lp σ δ A1 p H1 H' (acc++[e])->(∀b o,¬A1 b->H5 b=some o->H' b=some o)->kk H'):QvF p (tX .D K E0 we) σ4 H5 kk:=by
 refine⟨inF A1 cap σ δ H3,δ4,G,XF,r5,h,λe he v H6 r6 kp6 dv=>?_,Qsd⟩;have k56:Kp σ δ H5 H6:=by
  refine⟨λb o n e=>kp6.1 b o (λz=>n (pots b z)) e,λb hb=>?_⟩;by_cases z:YB σ4 δ4 b
  ·exact kp6.2 b z
  ·obtain⟨n,e⟩:=lp.kp.2 b hb;exact⟨n,kp6.1 _ _ z e⟩
 obtain⟨k6,ys,e6,q6⟩:=lp.step hP hpn k56;have up:∀{b:Addr}{o:HO},¬A1 b->H6 b=some o->upd H6 p (.lst (ys++[v])) b=some o:=λ{b o} n e=>by rw[Jw (λz=>n (by rw[z];exact hpA))];exact e
 refine⟨ys,e6,by rw[q6.length];exact hl,hk e he _ ⟨⟨λb o n e=>?_,λb hb=>?_⟩,ys++[v],Jg,DAs.app (q6.mv (λ_ _=>up) λa z=>.inl z) (.cons (DA.mv dv (λa o n e=>up (λz=>n (.inl z)) e) λa z=>.inl (.inl z)) .nil)⟩ λb o n e=>up n (kp6.1 b o (λz=>n (hP b (pots b z))) e)⟩
 ·rw[Jw (λz=>by rw[z,hp1] at e;cases e)];exact k6.1 b o n e
 ·rw[Jw (λz=>hpn (by rw[<- z];exact hb))];exact k6.2 b hb
def QpS:Nat:=1000000
@[irreducible] def InR(items2:List PyData)(wg2:DG)(wt2:DT)(we:DE)(δ4:Sts)(acc:List PyData)(N:List PyData->Prop):Prop:=∃Jv:Nat->List PyData->Prop,Jv 0 acc /\
 (∀(j:Nat) acc2 d2,items2[j]? = some d2->Jv j acc2->acc2.length<QpS/\wg2 d2 δ4 λδ5=>wt2 δ5 (λb=>if b=true then we δ5 (λe=>Jv (j+1) (acc2++[e])) XF else Jv (j+1) acc2) XF)/\∀acc2,Jv items2.length acc2->N acc2
@[irreducible] def Qkd(items:List PyData)(wg:DG)(wt:DT)(wi2:DI)(wg2:DG)(wt2:DT)(we:DE)(δ:Sts)(Q:PyData->Prop):Prop:=∃Iv:Nat->List PyData->Prop,Iv 0 [] /\
 (∀(i:Nat) acc d,items[i]? = some d->Iv i acc->wg d δ λδ4=>wt δ4 (λb=>if b=true then wi2 δ4 (λitems2=>InR items2 wg2 wt2 we δ4 acc (Iv (i+1))) XF else Iv (i+1) acc) XF)/\∀acc,Iv items.length acc->Q (.list acc)
def Qsy(cap:List (Option Nat))(wi:DI)(wg:DG)(wt:DT)(wi2:DI)(wg2:DG)(wt2:DT)(we:DE):DE:=λδ Q EX=>wi δ (λitems=>Qkd items wg wt wi2 wg2 wt2 we (Qed cap δ) Q) EX
section
variable{X:Cx}{E:XK}
theorem QpR:QpS<=sizeLine:=QY (by decide) Qhr
end
section
variable{X:Cx}{E:XK}
end
theorem QzR{items2:List PyData}{wg2:DG}{wt2:DT}{we:DE}{δ4:Sts}{acc:List PyData}{N:List PyData->Prop}(G:PyData->Option PyData)(hl:acc.length+items2.length<QpS)
  (h:∀d∈items2,∀(k1:Prop)(k2:PyData->Prop),(G d=none->k1)->(∀e,G d=some e->k2 e)->wg2 d δ4 λδ5=>wt2 δ5 (λb=>if b=true then we δ5 k2 XF else k1) XF)(q:N (acc++items2.filterMap G)) :
  InR items2 wg2 wt2 we δ4 acc N:=by
 unfold InR;refine⟨λi acc2=>acc2=acc++(items2.take i).filterMap G,by simp,λi acc2 d hd e=>?_,λacc2 e=>by rw[e,JW];exact q⟩;have e:acc2=acc++(items2.take i).filterMap G:=e;have hs:(items2.take (i+1)).filterMap G=(items2.take i).filterMap G++(G d).toList:=by
  rw[JY,hd,Yl];cases e2:G d<;>simp[e2]
 refine⟨?_,h d (QJ hd) _ _ (λe2=>?_) λe' e2=>?_⟩
 ·have:=List.length_filterMap_le G (items2.take i);have h2:(items2.take i).length<=items2.length:=by rw[Zh];exact QcB _ _
  rw[e,Qw];omega
 ·show acc2=acc++(items2.take (i+1)).filterMap G;rw[hs,e2,e];simp
 ·show acc2++[e']=acc++(items2.take (i+1)).filterMap G;rw[hs,e2,e];simp
theorem Qxy{items2:List PyData}{wg2:DG}{we:DE}{δ4:Sts}{acc:List PyData}{N:List PyData->Prop}(G:PyData->PyData)(hl:acc.length+items2.length<QpS)
  (h:∀d∈items2,∀(k2:PyData->Prop),k2 (G d)->wg2 d δ4 λδ5=>we δ5 k2 XF)(q:N (acc++items2.map G)):InR items2 wg2 QvE we δ4 acc N:=by
 refine QzR (λd=>some (G d)) hl (λd hd k1 k2 _ h2=>?_) (by rw[show items2.filterMap (λd=>some (G d))=items2.map G from by rw[<- List.filterMap_eq_map];rfl];exact q);have hh:=h d hd k2 (h2 _ rfl);simp only[QvE,if_true];exact hh
section
open Rs PySem.W PySem.Calls
variable{X:Cx}
end
theorem Qd9{A:Addr->Prop}{H:Hp}:∀ms:List Int,DAs A H (ms.map V.int) (ms.map .int)
 |[]=>.nil
 |m::ms=>.cons (.int m) (Qd9 ms)
end Dl
namespace PySem
namespace AutoSeq1
open PyProof
end AutoSeq1
end PySem
namespace L2
end L2
namespace Dl
open L2 _root_.Rd Rk
section
variable{X:Cx}{E:XK}
end
theorem QhL{K:PySem.W.Frag}{E:XK}{cap:List (Option Nat)}{ix:List Nat}{wi:DI}{wg:DG}{wt:DT}{we:DE}(hf:Qcz cap ix=true)(σ:L2.St)(H:Hp)(Q:VK)(h:tX .F K E (dComp cap wi wg wt we) σ H Q) :
  tComp cap (tI .P K E wi) (tG ix K wg) (tT K E0 wt) (tX .D K E0 we) σ H Q:=by
 obtain⟨F,δ,R,EX,rel,hw,k,o⟩:=h;refine⟨F,δ,_,EX,rel,hw,λitems hC J H1 rel1 kp1 ⟨ln,it⟩ p hp=>?_,o⟩;unfold QgD at hC;obtain⟨Iv,i0,step,fin⟩:=hC;have hpn:¬YB σ δ p:=λz=>by obtain⟨xs,e⟩:=rel1.isl (Qai (F:=F) z);rw[hp] at e;cases e
 let A1:Addr->Prop:=λa=>Av F σ δ a∨a=p
 have hP:∀a,YB σ δ a->A1 a:=λa z=>.inl (Qai z)
 have hN:∀a,A1 a->Av F σ δ a∨H1 a=none:=λa z=>z.elim .inl λz=>.inr (by rw[z];exact hp)
 have dmK:∀{H2:Hp},Kp σ δ H1 H2->(∃ys,H2 p=some (.lst ys))->∀a,A1 a->∃xs,H2 a=some (.lst xs):=λ{H2} k2 e2 a z=>by
  rcases z with z | z
  ·exact(rel1.kp k2).isl z
  ·rw[z];exact e2
 refine Qdw items.length (λi H2=>i<=items.length/\∃acc,Iv i acc/\acc.length<=i/\Lp σ δ A1 p H1 H2 acc) ⟨Q7 _,[],i0,Qg _,Kp.same rel1 (Jn hp),[],Jg,.nil⟩ (λi H2 hi ⟨_,acc,iv,hl,lp⟩=>?_) λH2 ⟨_,acc,iv,hl,lp⟩=>?_
 ·obtain⟨k2,ys,e2,q2⟩:=lp;obtain⟨go,_⟩:=it H2 A1 (λb o n e=>k2.1 b o n e) hN (dmK k2 ⟨ys,e2⟩);have hd:items[i]? = some items[i]:=Qe hi;obtain⟨g1,g2⟩:=go i _ hd;refine⟨g1,λx H3 y kk hk=>?_⟩;obtain⟨s3,dx⟩:=g2 x H3 y;have k23:=Kp.same (rel1.kp k2) s3;have lp3:Lp σ δ A1 p H1 H3 acc:=Lp.step hP hpn ⟨k2,ys,e2,q2⟩ k23;refine QlO hf rel1 (λa z=>.inl z) hN (dmK lp3.kp ⟨ys,s3 _ _ e2⟩) lp3.kp dx (step i acc _ hd iv) (λσ4 δ4 H5 h5 r5 k5 pots=>?_) λh5 H5 k5=>hk _ ⟨hi,acc,h5,by omega,lp3.step hP hpn k5⟩
  exact Qsv (.inr rfl) hP hp hpn (lp3.step hP hpn k5) (by omega) r5 pots h5 λe he H' lp'=>hk _ ⟨hi,acc++[e],he,by rw[Qw];show _+1<=_;omega,lp'⟩
 ·obtain⟨k2,ys,e2,q2⟩:=lp;obtain⟨_,st⟩:=it H2 A1 (λb o n e=>k2.1 b o n e) hN (dmK k2 ⟨ys,e2⟩);refine⟨st,k _ (fin acc iv) (.ref p) H2 (rel1.kp k2) (kp1.trans k2) ⟨.lst (λz=>?_) e2 (q2.mv (λ_ _ _ e=>e) λa z=>.inl (.inl z)),λl e1 _=>?_⟩⟩
  ·obtain⟨xs,e⟩:=rel1.isl z;rw[hp] at e;cases e
  ·cases e1;exact QbF kp1 hp
theorem QBz{K:PySem.W.Frag}{E:XK}{w:DE}(σ:L2.St)(H:Hp)(Q:VK)(h:tX .D K E w σ H Q):tX .F K E w σ H Q:=by
 obtain⟨F,δ,R,EX,rel,hw,k,o⟩:=h;exact⟨F,δ,R,EX,rel,hw,λd hd v H' r kp vk=>k d hd v H' r kp vk.1,o⟩
section
variable{X:Cx}{E:XK}
theorem Qml(M:List Str)(cap:List (Option Nat))(i:Nat){elt tg iter:Q0}{ifs:List Q0}{scope:YA}{pos py spos:Pos}{y:Str}{ix:List Nat}{wi:DI}{wg:DG}{wt:DT}{we:DE}(hN:X.N.Nodup)(hi:QI .P X E tg iter wi)(hb:∀cl ex s3 H3 C,QG ix (blk X M scope cl ex s3 H3 C) tg wg/\QTs (blk X M scope cl ex s3 H3 C) E0 ifs wt/\QE .D (blk X M scope cl ex s3 H3 C) E0 elt we)(hiy:X.N[i]? = some y:=by rfl)(hly:X.env.scope.names.lookup y=some .local:=by rfl)(hc:X.calm=true:=by rfl)(ok:Qgw X.N X.env.scope M scope cap=true:=by rfl)(hf:Qcz cap ix=true:=by rfl)(hs:∀x,foldedSetIterable iter X.env x=pure x:=by intro _;rfl)(hsw:swapsWith (.ListComp elt [⟨tg,iter,ifs,0⟩] scope pos) (some (.Name y py)) spos.line X.env=pure true:=by rfl):QS X E (.Assign [.Name y py] (.ListComp elt [⟨tg,iter,ifs,0⟩] scope pos) spos) (Qz6 i (dComp cap wi wg wt we)):=
 ⟨Qmy (PS.imp (PS.imp (Qpb hN hiy hly hc ok hi.h (λcl ex s3 H3 C=>⟨(hb cl ex s3 H3 C).1.h,(hb cl ex s3 H3 C).2.1.h,(hb cl ex s3 H3 C).2.2.h⟩) hs hsw) λD σ H q=>QhL (E:=E) hf σ H _ q) λD σ H q=>QBz σ H _ q)⟩
end
theorem Qk7{K:PySem.W.Frag}{E:XK}{cap:List (Option Nat)}{ix ix2:List Nat}{wi wi2:DI}{wg wg2:DG}{wt wt2:DT}{we:DE}(gok:GOk wg)(hf:Qcz cap ix=true)(hf2:Qcz cap ix2=true)(hd:ix2.all (λi => !ix.contains i)=true)(σ:L2.St)(H:Hp)(Q:VK)(h:tX .F K E (Qsy cap wi wg wt wi2 wg2 wt2 we) σ H Q) :
  QrM cap (tI .P K E wi) (tG ix K wg) (tT K E0 wt) (tI .D K E0 wi2) (tG ix2 K wg2) (tT K E0 wt2) (tX .D K E0 we) σ H Q:=by
 obtain⟨F,δ,R,EX,rel,hw,k,o⟩:=h;refine⟨F,δ,_,EX,rel,hw,λitems hC J H1 rel1 kp1 ⟨ln,it⟩ p hp=>?_,o⟩;unfold Qkd at hC;obtain⟨Iv,i0,step,fin⟩:=hC;have hpn:¬YB σ δ p:=λz=>by obtain⟨xs,e⟩:=rel1.isl (Qai (F:=F) z);rw[hp] at e;cases e
 let A1:Addr->Prop:=λa=>Av F σ δ a∨a=p
 have hP:∀a,YB σ δ a->A1 a:=λa z=>.inl (Qai z)
 have hN:∀a,A1 a->Av F σ δ a∨H1 a=none:=λa z=>z.elim .inl λz=>.inr (by rw[z];exact hp)
 have dmK:∀{H2:Hp},Kp σ δ H1 H2->(∃ys,H2 p=some (.lst ys))->∀a,A1 a->∃xs,H2 a=some (.lst xs):=λ{H2} k2 e2 a z=>by
  rcases z with z | z
  ·exact(rel1.kp k2).isl z
  ·rw[z];exact e2
 refine Qdw items.length (λi H2=>i<=items.length/\∃acc,Iv i acc/\Lp σ δ A1 p H1 H2 acc) ⟨Q7 _,[],i0,Kp.same rel1 (Jn hp),[],Jg,.nil⟩ (λi H2 hi ⟨_,acc,iv,lp⟩=>?_) λH2 ⟨_,acc,iv,lp⟩=>?_
 ·obtain⟨k2,ys,e2,q2⟩:=lp;obtain⟨go,_⟩:=it H2 A1 (λb o n e=>k2.1 b o n e) hN (dmK k2 ⟨ys,e2⟩);have hd':items[i]? = some items[i]:=Qe hi;obtain⟨g1,g2⟩:=go i _ hd';refine⟨g1,λx H3 y kk hk=>?_⟩;obtain⟨s3,dx⟩:=g2 x H3 y;have k23:=Kp.same (rel1.kp k2) s3;have lp3:Lp σ δ A1 p H1 H3 acc:=Lp.step hP hpn ⟨k2,ys,e2,q2⟩ k23;refine QoM gok hf rel1 (λa z=>.inl z) hN (dmK lp3.kp ⟨ys,s3 _ _ e2⟩) lp3.kp dx (step i acc _ hd' iv) (λσ4 δ4 H5 h5 r5 k5 j4 l4 g4=>?_) λh5 H5 k5=>hk _ ⟨hi,acc,h5,lp3.step hP hpn k5⟩
  have av4:∀{H:Hp}{a:Addr},Av (inF A1 cap σ δ H) σ4 δ4 a->A1 a:=λ{H a} z=>Qsn hP hf j4 g4 z
  refine⟨inF A1 cap σ δ H3,δ4,_,XF,r5,h5,λitems2 hJ J2 H7 rel7 kp7 ⟨ln2,it2⟩=>?_,Qsd⟩;unfold InR at hJ;obtain⟨Jv,z0,step2,fin2⟩:=hJ;have pots4:∀{b:Addr},YB σ4 δ4 b->YB σ δ b:=λ{b} z=>by
   obtain⟨j,z1,z2⟩:=z;rcases g4 j _ z2 with⟨e,z⟩ | z
   ·cases z
   ·exact QcQ ⟨j,by rw[<- j4 j (Qea hf z (λz=>by cases z))];exact z1,z⟩
  have k57:Kp σ δ H5 H7:=by
   refine⟨λb o n e=>kp7.1 b o (λz=>n (pots4 z)) e,λb hb=>?_⟩;by_cases z:YB σ4 δ4 b
   ·exact kp7.2 b z
   ·obtain⟨n,e⟩:=k5.2 b hb;exact⟨n,kp7.1 _ _ z e⟩
  refine Qdw items2.length (λj H8=>j<=items2.length/\∃acc2,Jv j acc2/\Lp σ δ A1 p H1 H8 acc2/\∀b o,¬A1 b->H7 b=some o->H8 b=some o) ⟨Q7 _,acc,z0,(lp3.step hP hpn k5).step hP hpn k57,λ_ _ _ e=>e⟩ (λj H8 hj ⟨_,acc2,jv,lp8,s78⟩=>?_) λH8 ⟨_,acc2,jv,lp8,s78⟩=>?_
  ·obtain⟨ys8,e8,q8⟩:=lp8.at_;obtain⟨go2,_⟩:=it2 H8 A1 (λb o n e=>s78 b o (λz=>n (.inl z)) e) (λb z=>.inl (.inl z)) (dmK lp8.kp ⟨ys8,e8⟩);have hd2:items2[j]? = some items2[j]:=Qe hj;obtain⟨g3,g5⟩:=go2 j _ hd2;refine⟨g3,λx2 H9 y2 kk2 hk2=>?_⟩;obtain⟨s9,dx2⟩:=g5 x2 H9 y2;have k89:=Kp.same (rel1.kp lp8.kp) s9;have lp9:Lp σ δ A1 p H1 H9 acc2:=lp8.step hP hpn k89;have ri:=Qnq (cap:=cap) rel1 (λa z=>.inl z) hN (dmK lp9.kp ⟨ys8,s9 _ _ e8⟩) lp9.kp;have r9:=QuQ hP hf j4 g4 ri r5 λa o n e=>s9 _ _ (s78 a o n (k57.1 a o (λz=>n (hP a z)) e))
   obtain⟨hl2,hw2⟩:=step2 j acc2 _ hd2 jv;refine⟨inF A1 cap σ δ H9,δ4,_,_,r9,dx2.mv (λ_ _ _ e=>e) λa z=>.inl (av4 z),hw2,λδ5 h6 σ5 r10 st5 l5 j5=>⟨QoJ l5 λi v e=>?_,inF A1 cap σ δ H9,δ5,_,XF,r10,h6,λb hb H10 r11 kp11=>?_,Qsd⟩⟩
   ·by_cases z:i∈ix2
    ·have n1:i∉ix:=λz2=>by
      have:=Zi.mp hd i z;simp[z2] at this
     rw[j4 i n1] at e;rcases Qgv e with⟨_,e2⟩ | ⟨j,hj2,_⟩
     ·cases e2
     ·rw[QnE hf2 z] at hj2;cases hj2
    ·rw[j5 i z];exact e
   ·have pots:∀{b:Addr},YB σ5 δ5 b->YB σ δ b:=λz=>QiM r10 (λb o _ e1 e2=>by rw[e2] at e1;cases e1) z
    have K10:Kp σ δ H9 H10:=by
     refine⟨λb o n e=>kp11.1 b o (λz=>n (pots z)) e,λb hb=>?_⟩;by_cases z:YB σ5 δ5 b
     ·exact kp11.2 b z
     ·obtain⟨n,e⟩:=lp9.kp.2 b hb;exact⟨n,kp11.1 _ _ z e⟩
    have s710:∀b o,¬A1 b->H7 b=some o->H10 b=some o:=λb o n e=>K10.1 b o (λz=>n (hP b z)) (s9 _ _ (s78 b o n e))
    refine QdL hb (λz=>?_) λz=>hk2 _ ⟨hj,acc2,z,lp9.step hP hpn K10,s710⟩
    exact Qu0 (.inr rfl) hP hp hpn (lp9.step hP hpn K10) (QK hl2 QpR) r11 (λb=>pots) z λe he H' lp' kk'=>hk2 _ ⟨hj,acc2++[e],he,lp',λb o n e=>kk' b o n (s710 b o n e)⟩
  ·obtain⟨ys8,e8,q8⟩:=lp8.at_;obtain⟨_,st2⟩:=it2 H8 A1 (λb o n e=>s78 b o (λz=>n (.inl z)) e) (λb z=>.inl (.inl z)) (dmK lp8.kp ⟨ys8,e8⟩);exact⟨st2,hk _ ⟨hi,acc2,fin2 acc2 jv,lp8⟩⟩
 ·obtain⟨k2,ys,e2,q2⟩:=lp;obtain⟨_,st⟩:=it H2 A1 (λb o n e=>k2.1 b o n e) hN (dmK k2 ⟨ys,e2⟩);refine⟨st,k _ (fin acc iv) (.ref p) H2 (rel1.kp k2) (kp1.trans k2) ⟨.lst (λz=>?_) e2 (q2.mv (λ_ _ _ e=>e) λa z=>.inl (.inl z)),λl e1 _=>?_⟩⟩
  ·obtain⟨xs,e⟩:=rel1.isl z;rw[hp] at e;cases e
  ·cases e1;exact QbF kp1 hp
section
variable{X:Cx}{E:XK}
theorem Qmk(M:List Str)(cap:List (Option Nat))(i:Nat){elt tg iter tg2 iter2:Q0}{ifs ifs2:List Q0}{scope:YA}{pos py spos:Pos}{y:Str}{ix ix2:List Nat}{wi wi2:DI}{wg wg2:DG}{wt wt2:DT}{we:DE}(hN:X.N.Nodup)(gok:GOk wg)(hi:QI .P X E tg iter wi)(hb:∀cl ex s3 H3 C,QG ix (blk X M scope cl ex s3 H3 C) tg wg/\QTs (blk X M scope cl ex s3 H3 C) E0 ifs wt/\QI .D (blk X M scope cl ex s3 H3 C) E0 tg2 iter2 wi2/\QG ix2 (blk X M scope cl ex s3 H3 C) tg2 wg2/\QTs (blk X M scope cl ex s3 H3 C) E0 ifs2 wt2/\QE .D (blk X M scope cl ex s3 H3 C) E0 elt we)(hiy:X.N[i]? = some y:=by rfl)(hly:X.env.scope.names.lookup y=some .local:=by rfl)(hc:X.calm=true:=by rfl)(ok:Qgw X.N X.env.scope M scope cap=true:=by rfl)(hf:Qcz cap ix=true:=by rfl)(hf2:Qcz cap ix2=true:=by rfl)(hd:ix2.all (λi => !ix.contains i)=true:=by rfl)(hs:∀x,foldedSetIterable iter X.env x=pure x:=by intro _;rfl)(hs2:∀env x,foldedSetIterable iter2 env x=pure x:=by intro _ _;rfl)(hsw:swapsWith (.ListComp elt [⟨tg,iter,ifs,0⟩,⟨tg2,iter2,ifs2,0⟩] scope pos) (some (.Name y py)) spos.line X.env=pure true:=by rfl):QS X E (.Assign [.Name y py] (.ListComp elt [⟨tg,iter,ifs,0⟩,⟨tg2,iter2,ifs2,0⟩] scope pos) spos) (Qu3 i (Qsy cap wi wg wt wi2 wg2 wt2 we)):=
 ⟨QjA (PS.imp (Qmo hN hiy hly hc ok hi.h (λcl ex s3 H3 C=>⟨(hb cl ex s3 H3 C).1.h,(hb cl ex s3 H3 C).2.1.h,(hb cl ex s3 H3 C).2.2.1.h,(hb cl ex s3 H3 C).2.2.2.1.h,(hb cl ex s3 H3 C).2.2.2.2.1.h,(hb cl ex s3 H3 C).2.2.2.2.2.h⟩) hs hs2 hsw) λD σ H q=>Qk7 (E:=E) gok hf hf2 hd σ H _ q)⟩
end
theorem Qhg{A:Addr->Prop}{H:Hp}(dm:∀a,A a->∃xs,H a=some (.lst xs)):∀(M:List (Int×Int))(ys:List V),Dats H ys (M.map Rk.pairD)->DAs A H ys (M.map Rk.pairD)
 |[],ys,h=>by cases h;exact .nil
 |m::M,ys,h=>by
  cases h with
  |@cons x xs _ _ h1 h2=>
   refine .cons ?_ (Qhg dm M xs h2)
   cases h1 with
   |@tup a zs _ e q=>
    refine .tup (λz=>?_) e ?_
    ·obtain⟨xs,e'⟩:=dm a z;rw[e] at e';cases e'
    ·cases q with
     |cons a b=>
      cases a;cases b with
      |cons a b=>cases a;cases b;exact .cons (.int _) (.cons (.int _) .nil)
theorem Qbv(L:List (Int×Int)):nds (L.map Rk.pairD)=true:=QiD.mpr λd hd=>by
 obtain⟨i,_,rfl⟩:=Qs.mp hd;rfl
@[irreducible] def sortPD:List PyData->(PyData->Prop)->Prop
 |[.list ds],Q=>∃L:List (Int×Int),ds=L.map Rk.pairD/\L.Nodup/\L.length<64/\(∀ij∈L,0<=ij.2/\ij.2<64)/\∀M:List (Int×Int),M.Perm L->M.Pairwise (λa b=>Rs.code a<Rs.code b)->Q (.list (M.map Rk.pairD))
 |_,_=>False
theorem cd_sortP:QdC Qmd sortPD:=λA P H vs ds R Q ln dm q h k=>by
 unfold sortPD at h;split at h
 ·obtain⟨v,rfl,hv⟩:=pd1 q;obtain⟨L,rfl,nd',h64,hb,hR⟩:=h;obtain⟨l,xs,rfl,e,qq⟩:=hv.list;refine⟨l,xs,L,rfl,e,Qba _ _ (Qbv L) qq,nd',h64,hb,λt ys M H2 s n e2 dts pm pw=>?_⟩;have dm2:∀a,A a->∃xs,H2 a=some (.lst xs):=λa z=>by obtain⟨xs,e⟩:=dm a z;exact⟨xs,s _ _ e⟩
  refine k _ (hR M pm pw) _ H2 s (.lst (λz=>?_) e2 (Qhg dm2 M ys dts)) (QaH n);obtain⟨xs,e⟩:=dm t z;rw[n] at e;cases e
 ·exact h.elim
theorem sortP_of{L:List (Int×Int)}{Q:PyData->Prop}(h1:L.Nodup)(h2:L.length<64)(h3:∀ij∈L,0<=ij.2/\ij.2<64)(k:∀M:List (Int×Int),M.Perm L->M.Pairwise (λa b=>Rs.code a<Rs.code b)->Q (.list (M.map Rk.pairD))):sortPD [.list (L.map Rk.pairD)] Q:=by
 unfold sortPD;exact⟨L,rfl,h1,h2,h3,k⟩
def rkD:PyData->Nat
 |.int _=>0
 |.tuple _=>1
 |_=>2
def QBD(i j:Int):Ordering:=if i<j then .lt else if i=j then .eq else .gt
def QBC(i j:Nat):Ordering:=if i<j then .lt else if i=j then .eq else .gt
def thn(o:Ordering)(p:Ordering):Ordering:=match o with
 |.eq=>p
 |o=>o
mutual
def QA2:PyData->PyData->Ordering
 |.int i,.int j=>QBD i j
 |.tuple a,.tuple b=>Qx1 a b
 |x,y=>QBC (rkD x) (rkD y)
def Qx1:List PyData->List PyData->Ordering
 |[],[]=>.eq
 |[],_::_=>.lt
 |_::_,[]=>.gt
 |x::xs,y::ys=>thn (QA2 x y) (Qx1 xs ys)
end
def isL:Ordering->Bool
 |.lt=>true
 |_=>false
def ltD(x y:PyData):Bool:=isL (QA2 x y)
end Dl
namespace Rt
open PySem.Calls Dl
section
open PySem.SeqAt
open PySem.AutoSeq1 (wpAny_loadPart')
open PySem.MeetsSeq PySem.MeetsSeq2 PySem.MeetsSeq3
end
end Rt
namespace Rt
open PySem.Calls PySem.W Dl
mutual
def okK:PyData->Bool
 |.int _=>true
 |.tuple ds=>QvC ds
 |_=>false
def QvC:List PyData->Bool
 |[]=>true
 |d::ds=>okK d&&QvC ds
end
section
variable{prog:Qy}{w:Jc}{A:Jb}{E:Value->Shared->Prop}{s:Shared}
end
section
variable{M:QvN}{A:Jb}{E:Value->Shared->Prop}{s:Shared}
end
section
variable{prog:Qy}{w:Jc}{A:Jb}{E:Value->Shared->Prop}{s:Shared}
end
end Rt
namespace Rt
open PySem.Calls PySem.W Dl Rs
section
variable{prog:Qy}{w:Jc}{A:Jb}{E:Value->Shared->Prop}{s:Shared}
end
mutual
theorem QmY:∀(d:PyData),okK d=true->d.canLay0=true
 |.int _,_=>rfl
 |.tuple ds,h=>QjF ds h
 |.none,h=>by cases h
 |.bool _,h=>by cases h
 |.str _,h=>by cases h
 |.list _,h=>by cases h
 |.dict _,h=>by cases h
theorem QjF:∀(ds:List PyData),QvC ds=true->ZV ds=true
 |[],_=>rfl
 |d::ds,h=>by
  have h:=JZ.mp (show(okK d&&QvC ds)=true from h);simp only[ZV,QmY d h.1,QjF ds h.2,Bool.and_self]
end
end Rt
namespace L2
open PySem.Calls _root_.Rd _root_.Rk _root_.Rs Rt Dl
section
variable{X:Cx}
end
end L2
namespace Dl
open L2 _root_.Rd Rk Rt
theorem QxL{A:Addr->Prop}{H:Hp}{xs:List V}{ds:List PyData}(q:DAs A H xs ds){v:V}(hv:v∈xs):∃d∈ds,DA A H v d:=by
 obtain⟨i,hi⟩:=JR.mp hv;obtain⟨d,hd,h⟩:=q.getV i v hi;exact⟨d,QJ hd,h⟩
theorem QhJ{A:Addr->Prop}{H:Hp}:∀{ys:List V}{es:List PyData},Dats H ys es->(∀y∈ys,∃d,DA A H y d/\nd d=true/\d.canLay0=true/\Dat H y d)->(∀y d e,y∈ys->Dat H y d->Dat H y e->d=e)->DAs A H ys es
 |_,_,.nil,_,_=>.nil
 |_,_,.cons (x:=x) (d:=d) q qs,h,u=>by
  obtain⟨d',h1,_,_,h4⟩:=h x (.head _);have:d=d':=u x d d' (.head _) q h4;subst this;exact .cons h1 (QhJ qs (λy hy=>h y (.tail _ hy)) λy d e hy=>u y d e (.tail _ hy))
mutual
theorem Qj2{H:Hp}:∀(d e:PyData)(x:V),Dat H x d->Dat H x e->d=e
 |.none,e,_,.non,h=>by cases h;rfl
 |.bool _,e,_,.bl _,h=>by cases h;rfl
 |.int _,e,_,.int _,h=>by cases h;rfl
 |.str _,e,_,.str _ _,h=>by cases h;rfl
 |.tuple ds,e,_,.tup (xs:=xs) e1 q,h=>by
  cases h with
  |@tup a ys es e2 q'=>
   rw[e1] at e2;cases e2;rw[QeE ds es xs q q']
  |@lst a ys es e2 q'=>rw[e1] at e2;cases e2
 |.list ds,e,_,.lst (xs:=xs) e1 q,h=>by
  cases h with
  |@tup a ys es e2 q'=>rw[e1] at e2;cases e2
  |@lst a ys es e2 q'=>
   rw[e1] at e2;cases e2;rw[QeE ds es xs q q']
 |.dict _,_,_,q,_=>nomatch q
theorem QeE{H:Hp}:∀(ds es:List PyData)(xs:List V),Dats H xs ds->Dats H xs es->ds=es
 |[],es,_,.nil,h=>by cases h;rfl
 |d::ds,es,_,.cons q qs,h=>by
  cases h with
  |@cons x xs e es q' qs'=>rw[Qj2 d e _ q q',QeE ds es _ qs qs']
end
end Dl
namespace L2
open PySem.Calls _root_.Rd _root_.Rk Rt
section
variable{X:Cx}
end
end L2
namespace Dl
open L2 _root_.Rd Rk Rt
section
variable{X:Cx}{E:XK}
theorem bt_set:bootBuiltins "set" = some (.type "set"):=by decide +kernel
end
end Dl
namespace Rk
open L2 _root_.Rd Dl
theorem QAH(ns:List Int):(ns.map Qp).length=ns.length:=Qa _
theorem Qd8(ns:List Int):nds (ns.map Qp)=true:=QiD.mpr λd hd=>by
 obtain⟨i,_,rfl⟩:=Qs.mp hd;rfl
theorem Qj6(xs:List PyData)(k:Int)(h:0<=k):Dl.cutD xs none (some k)=xs.take k.toNat:=by
 unfold Dl.cutD;obtain⟨j,rfl⟩:∃j:Nat,k=j:=⟨k.toNat,by omega⟩
 rw[HT.Qf4,HT.Qma,QvP,Nat.sub_zero,Qq];by_cases z:j<=xs.length
 ·rw[QgV z]
 ·rw[Qvu (by omega),JW,Qkk (by omega)]
end Rk
namespace Rx
open PySem.Calls L2
section
variable{X:Cx}{e:Q0}{st:Y2}{rest:List Y2}{pos:Pos}{te:TX}{t u:TSX}
end
end Rx
namespace L2
open Dl
end L2
namespace Dl
open L2 _root_.Rd Rk
section
variable{X:Cx}
variable{k:Nat}{f:Addr}{fd:Q6}{ps:List Str}{x:Str}{p pos:Pos}{e:Q0}{es:List Q0}{fD:DF}{wa:DSl}
end
end Dl
namespace Rk
open L2 _root_.Rd Dl Rt
def Qzf:List PyData->Bool
 |x::y::r=>ltD x y&&Qzf (y::r)
 |_=>true
def ltP2:PyData->Bool
 |.tuple [a,b]=>ltD a b
 |_=>false
def toP:PyData->Int×Int
 |.tuple [.int a,.int b]=>(a,b)
 |_=>(0,0)
theorem QcP(p:Int×Int):(pairD p).depth<=1:=by
 show Qa3 [.int p.1,.int p.2]+1<=1;simp[Qa3,J8]
theorem QeD{n:Nat}:∀{ds:List PyData},(∀d∈ds,d.depth<=n)->Qa3 ds<=n
 |[],_=>Q7 _
 |d::ds,h=>by
  show max d.depth (Qa3 ds)<=n;exact Nat.max_le.mpr ⟨h d (.head _),QeD λd hd=>h d (.tail _ hd)⟩
def plt(p q:Int×Int):Prop:=p.1<q.1∨(p.1=q.1/\p.2<q.2)
theorem QhD(p q:Int×Int):Jf (pairD p) (pairD q)=decide (p=q):=by
 show((p.1 == q.1)&&((p.2 == q.2)&&true))=_;obtain⟨a,b⟩:=p;obtain⟨c,d⟩:=q;by_cases h1:a=c
 ·by_cases h2:b=d
  ·subst h1 h2;simp
  ·simp[h1,h2]
 ·simp[h1]
theorem QeL(cs:List (Int×Int))(p:Int×Int):((cs.map pairD).any λc=>Jf c (pairD p))=decide (p∈cs):=by
 rw[QeW,Ze,Qcu,decide_eq_true_iff];constructor
 ·rintro⟨c,hc,h⟩;have:c=p:=of_decide_eq_true (by rw[<- QhD];exact h);rw[<- this];exact hc
 ·intro h;refine⟨p,h,?_⟩;show Jf (pairD p) (pairD p)=true;rw[QhD];simp
def bdD(h w:Int)(cs:List (Int×Int)):PyData:=.tuple [.int h,.int w,.tuple (cs.map pairD)]
theorem QnW(xs:List PyData)(k:Nat):Dl.cutD xs (some (k:Int)) none=xs.drop k:=by
 unfold Dl.cutD;rw[HT.Qf4,HT.Qma];by_cases z:k<=xs.length
 ·rw[QgV z,Qkk (by rw[Yg];exact Qg _)]
 ·rw[Qvu (by omega),List.drop_length,List.drop_of_length_le (by omega),Qi9]
def Qf5(r n:Nat)(f:Nat->Nat->Bool):List (Int×Int):=((Qf n).filter (f r)).map λ(c:Nat)=>((r:Int),(c:Int))
def cellsF(h w:Nat)(f:Nat->Nat->Bool):List (Int×Int):=(Qf h).flatMap λr=>Qf5 r w f
theorem Y5(h w:Nat)(f:Nat->Nat->Bool):cellsF (h+1) w f=cellsF h w f++Qf5 h w f:=by
 unfold cellsF;rw[JL,Z3];simp
theorem Qmb(r n:Nat)(f:Nat->Nat->Bool):Qf5 r (n+1) f=Qf5 r n f++(if f r n=true then[((r:Int),(n:Int))] else[]):=by
 unfold Qf5;rw[JL,QbB,Q3]
 congr 1
 by_cases z:f r n=true
 ·rw[if_pos z];simp[z]
 ·rw[if_neg z];simp[z]
theorem Qfe{r n:Nat}{f g:Nat->Nat->Bool}(h:∀c,c<n->f r c=g r c):Qf5 r n f=Qf5 r n g:=by
 unfold Qf5
 congr 1
 exact QbX λc hc=>h c (Qz.mp hc)
theorem QhM{h w:Nat}{f g:Nat->Nat->Bool}(q:∀r c,r<h->c<w->f r c=g r c):cellsF h w f=cellsF h w g:=by
 induction h with
 |zero=>rfl
 |succ h ih=>rw[Y5,Y5,ih λr c hr=>q r c (by omega),Qfe λc hc=>q h c (by omega) hc]
theorem Qc5{r n:Nat}{f:Nat->Nat->Bool}{p:Int×Int}:p∈Qf5 r n f↔∃c:Nat,c<n/\f r c=true/\p=((r:Int),(c:Int)):=by
 unfold Qf5;rw[Qs];constructor
 ·rintro⟨c,hc,rfl⟩;have hc:=JB.mp hc;exact⟨c,Qz.mp hc.1,hc.2,rfl⟩
 ·rintro⟨c,hc,hf,rfl⟩;exact⟨c,JB.mpr ⟨Qz.mpr hc,hf⟩,rfl⟩
theorem Z6{h w:Nat}{f:Nat->Nat->Bool}{p:Int×Int}:p∈cellsF h w f↔∃r c:Nat,r<h/\c<w/\f r c=true/\p=((r:Int),(c:Int)):=by
 unfold cellsF;rw[Qct];constructor
 ·rintro⟨r,hr,hp⟩;obtain⟨c,hc,hf,rfl⟩:=Qc5.mp hp;exact⟨r,c,Qz.mp hr,hc,hf,rfl⟩
 ·rintro⟨r,c,hr,hc,hf,rfl⟩;exact⟨r,Qz.mpr hr,Qc5.mpr ⟨c,hc,hf,rfl⟩⟩
theorem QaY{h w:Nat}{f:Nat->Nat->Bool}{p:Int×Int}(q:p∈cellsF h w f):0<=p.1/\p.1<h/\0<=p.2/\p.2<w:=by
 obtain⟨r,c,hr,hc,_,rfl⟩:=Z6.mp q;exact⟨QrC _,by show(r:Int)<h;omega,QrC _,by show(c:Int)<w;omega⟩
theorem Qjq(r n:Nat)(f:Nat->Nat->Bool):(Qf5 r n f).length<=n:=by
 unfold Qf5;rw[Qa];exact QY (QcS _ _) (by rw[Qr];exact Qg _)
theorem Qbw(w:Nat)(f:Nat->Nat->Bool):∀h,(cellsF h w f).length<=h*w
 |0=>Q7 _
 |h+1=>by
  have:=Qbw w f h;have:=Qjq h w f;rw[Y5,Qw,Qly];omega
theorem Qtw(r n:Nat)(f:Nat->Nat->Bool):(Qf5 r n f).Pairwise plt:=by
 unfold Qf5;refine QyZ (R:=λa b=>a<b) _ (λa b hab=>.inr ⟨rfl,by show(a:Int)<b;omega⟩) ?_
 exact Qe4 _ Qkm
theorem pw_cellsF(w:Nat)(f:Nat->Nat->Bool):∀h,(cellsF h w f).Pairwise plt
 |0=>.nil
 |h+1=>by
  rw[Y5];refine QlB.mpr ⟨pw_cellsF w f h,Qtw h w f,λp hp q hq=>?_⟩;obtain⟨r,c,hr,_,_,rfl⟩:=Z6.mp hp;obtain⟨c',_,_,rfl⟩:=Qc5.mp hq;exact .inl (by show(r:Int)<h;omega)
theorem plt_ne{p q:Int×Int}(h:plt p q):p≠q:=λe=>by subst e;rcases h with z | z<;>omega
theorem nd_cellsF(h w:Nat)(f:Nat->Nat->Bool):(cellsF h w f).Nodup:=(pw_cellsF w f h).imp plt_ne
def Qtj(cs:List (Int×Int))(r:Int):List (Int×Int):=cs.filter λp=>decide (p.1=r)
def QBA(cells L:List (Int×Int)):List (List (Int×Int)):=(cells.filter λc => !decide (c.2∈L.map (·.2))).map λc=>L++[c]
def Qzd(cs:List (Int×Int)):Nat->List (List (Int×Int))
 |0=>[[]]
 |i+1=>Qzd cs i++(Qzd cs i).flatMap (QBA (Qtj cs i))
theorem Qoc(ns:List Int)(i:Int):((ns.map Qp).any λe=>Jf e (.int i))=decide (i∈ns):=by
 rw[QeW,Ze,Qcu,decide_eq_true_iff];constructor
 ·rintro⟨c,hc,h⟩;have:c=i:=by simpa [Jf] using h
  rw[<- this];exact hc
 ·intro h;refine⟨i,h,?_⟩;show(i == i)=true;simp
def toI:PyData->Int
 |.int i=>i
 |_=>0
def tI(ns:List Int):PyData:=.tuple (ns.map Qp)
def QBt(L:List (Int×Int))(p:Int×Int):Bool := !(L.any λq=>(decide (q.2=p.2)&&decide (q.1≥p.1))||(decide (q.1=p.1)&&decide (q.2<p.2)))
theorem Qk6{α β:Type}{g:α->Option β}{p:α->Bool}{k:α->β}:∀{xs:List α},(∀x∈xs,g x=if p x=true then some (k x) else none)->xs.filterMap g=(xs.filter p).map k
 |[],_=>rfl
 |x::xs,h=>by
  have ih:=Qk6 (xs:=xs) λy hy=>h y (.tail _ hy)
  by_cases z:p x=true
  ·rw[List.filterMap_cons_some (by rw[h x (.head _),if_pos z]),ih,Qap z];rfl
  ·rw[List.filterMap_cons_none (by rw[h x (.head _),if_neg z]),ih,Qaq z]
@[irreducible] def QpP:List PyData->(PyData->Prop)->Prop:=QuD
theorem Qrg:QdC (λxs H Q=>∃i j,xs=[.int i,.int j]/\Q (.int (if j<i then j else i)) H) QpP:=by unfold QpP;exact QnZ
theorem QuC{i j k:Int}{Q:PyData->Prop}(e:(if j<i then j else i)=k)(h:Q (.int k)):QpP [.int i,.int j] Q:=by
 unfold QpP;show Q (.int (if j<i then j else i));rw[e];exact h
theorem Qvc{items:List PyData}{wg wg2:DG}{wt wt2:DT}{wi2:DI}{we:DE}{δ:Sts}{Q:PyData->Prop}(G:PyData->List PyData)(k:Nat)(hl:(items.flatMap G).length<=k)
  (h:∀d∈items,∀(acc:List PyData)(N:List PyData->Prop),acc.length+(G d).length<=k->N (acc++G d)->wg d δ λδ4=>wt δ4 (λb=>if b=true then wi2 δ4 (λitems2=>InR items2 wg2 wt2 we δ4 acc N) XF else N acc) XF)(q:Q (.list (items.flatMap G))) :
  Qkd items wg wt wi2 wg2 wt2 we δ Q:=by
 unfold Qkd;refine⟨λi acc=>acc=(items.take i).flatMap G,by simp,λi acc d hd e=>?_,λacc e=>by rw[e,JW];exact q⟩;have e:acc=(items.take i).flatMap G:=e;have hs:(items.take (i+1)).flatMap G=(items.take i).flatMap G++G d:=by
  rw[JY,hd,Z3];simp
 refine h d (QJ hd) acc _ ?_ (by show acc++G d=_;rw[hs,e])
 have h1:(items.flatMap G).length=((items.take (i+1)).flatMap G).length+((items.drop (i+1)).flatMap G).length:=by
  rw[<- Qw,<- Z3,Yi]
 rw[hs,<- e,Qw] at h1;omega
end Rk
namespace Rv
theorem Qv6:isSubtype (.type "range_iterator") (.type "reversed")=pure false:=by rw[Qcq];kernel_rfl
section
variable{prog:Qy}{w:Jc}{A:Jb}{E:Value->Shared->Prop}{s:Shared}
def Qhb(a b:Int):Obj:={ cls:=.type "range_iterator",data:=.fields #[rawInt (a+(Jp a b 1 - 1)*1),rawInt (Jp a b 1),rawInt (-1)] }
theorem Qle{r:Addr}{j:Int}{t u v:Tok}{Q:Value->Shared->Prop}(hr:QeY s.heap r 0 j 1 t u v)(h0 : -1000<=j)(h1:j<=1000)
  (h:Q (.ref s.heap.objs.size) { s with heap:=s.heap.push (Qhb 0 j) }):wpAny (model prog w) A (call (.builtin "range.__reversed__") [.ref r]) Q E s:=by
 refine Jy Qdk ⟨_,hr,rfl⟩ F.entry_range_reversed ?_ (F.args_range_reversed_1 _)
 unfold Yw.«range.__reversed__»;refine wpAny_bind (Yd (a:=QF r) rfl ?_);refine wpAny_bind ?_
 unfold Qy7;refine wpAny_bind (Zf hr rfl (x:=.int 0 t) rfl ?_);refine wpAny_bind (Yd (a:=some 0) rfl ?_);refine wpAny_bind (Zf hr rfl (x:=.int j u) rfl ?_);refine wpAny_bind (Yd (a:=some j) rfl ?_);refine wpAny_bind (Zf hr rfl (x:=.int 1 v) rfl ?_);refine wpAny_bind (Yd (a:=some 1) rfl ?_);refine Qd ?_
 dsimp only
 have hz:Jp 0 j 1=if 0<j then j else 0:=by rw[QcV];split<;>omega
 have fit:∀x:Int,-2000<=x->x<=2000->JD x=true:=λx a b=>by
  unfold JD;simp only[JK,decide_eq_true_eq];omega
 have hs:(JD 0&&JD j&&JD 1&&JD (-1)&&JD (0 - 1)&&JD (Jp 0 j 1))=true:=by
  rw[fit 0 (by decide) (by decide),fit j (by omega) (by omega),fit 1 (by decide) (by decide),fit (-1) (by decide) (by decide),fit (0 - 1) (by decide) (by decide),fit _ (by rw[hz];split<;>omega) (by rw[hz];split<;>omega)];rfl
 rw[hs,if_neg (by decide),if_pos rfl];exact wpAny_bind (Q4 (Qd ⟨_,rfl,h⟩))
theorem Qrm{r:Addr}{j:Int}{t u v:Tok}{Q:Value->Shared->Prop}(hr:QeY s.heap r 0 j 1 t u v)(h0 : -1000<=j)(h1:j<=1000)
  (h:Q (.ref s.heap.objs.size) { s with heap:=s.heap.push (Qhb 0 j) }):codeAny (model prog w) A (.call (.builtin "reversed.__new__") ⟨[.type "reversed",.ref r],[]⟩) (wants Q E) s:=by
 have hT:s.TypeIs (.ref r) "range" := ⟨_,hr,rfl⟩;refine QdP ?_
 show wpAny _ A.in1 (do checkBuiltinCall "reversed.__new__" ⟨[.type "reversed",.ref r],[]⟩;again (.builtin "reversed.__new__" ⟨[.type "reversed",.ref r],[]⟩)) _ _ s;refine wpAny_bind (Yd (F.newCall_reversed_1 _) (Qd ⟨QaM QrE _,Ye F.entry_reversed_new ?_⟩));rw[Zo QrE _];unfold Yw.«reversed.__new__»;refine wpAny_bind (Yd (newClass_reversed _) ?_)
 dsimp only
 refine wpAny_bind (Yd (a:=()) (by first | rfl | kernel_rfl) ?_);refine wpAny_bind (Yd (a:=()) (by first | rfl | kernel_rfl) ?_)
 try dsimp only
 refine wpAny_bind (QaL hT Qdk.lookup ?_)
 try dsimp only
 refine wpAny_bind (Yd (Qdk.bind _) ?_)
 try dsimp only
 first
 |rw[if_neg (show ¬((Qid "range.__reversed__" == Jo)=true) from Qt)]
 |(show wpAny _ _ (if(Qid "range.__reversed__" == Jo)=true then _ else _) _ _ _;rw[if_neg (show ¬((Qid "range.__reversed__" == Jo)=true) from Qt)])
 refine wpAny_bind (wpAny_rule ?_);refine wpAny_bind (m:=runValue (.call (.builtin "range.__reversed__") ⟨[.ref r],[]⟩)) (show wpAny _ _ (call (.builtin "range.__reversed__") [.ref r]) _ _ _ from Qle hr h0 h1 ?_)
 first
 |exact Qd h
 |exact wpAny_bind (Qd (Qd h))
theorem Qn2{r:Addr}{j:Int}{t u v:Tok}{Q:Value->Shared->Prop}(hr:QeY s.heap r 0 j 1 t u v)(h0 : -1000<=j)(h1:j<=1000)
  (h:Q (.ref s.heap.objs.size) { s with heap:=s.heap.push (Qhb 0 j) }):wpAny (model prog w) A (call (.type "reversed") [.ref r]) Q E s:=by
 refine callType_other (U := "range_iterator") (Q₁:=λobj s₁=>obj=.ref s.heap.objs.size/\s₁={ s with heap:=s.heap.push (Qhb 0 j) }) (by decide +kernel) F.create_reversed ⟨_,_,F.mro_reversed⟩ F.made_reversed Qv6 (F.typeCall_reversed_1 _) (Qrm hr h0 h1 ⟨rfl,rfl⟩) ?_
 rintro obj s₁ ⟨rfl,rfl⟩;exact⟨⟨_,Qm _ rfl,rfl⟩,h⟩
end
end Rv
namespace L2
def Itv(n:Nat):It:=⟨λi _=>i<n,λi H x H'=>H'=H/\x=.int ((n:Int) - 1 - i),λi _=>n<=i⟩
theorem QlR{P:Qy}{w:Jc}{K:PySem.W.Frag}{tg:Q0}(it:Addr)(n:Nat):Turn P w K tg (Itv n) [it] it (λi h=>Qkr h it ((n:Int) - 1+(i:Nat)*(-1)) ((n:Int) - (i:Nat)) (-1)) where
 mem:=by simp
 obj:=λi h st b hb=>by
  have e:b=it:=by simpa using hb
  subst e;exact⟨_,st,λv z=>by
   have z':Data.fields _=Data.cell v:=z;cases z'⟩
 keep:=λi h h' st k=>k it (by simp) _ st
 item:=by
  intro X hP hw hK hc i pins s σ H E I hf st hg;subst hP hw hK;obtain⟨f0,f1,f2,f3,f4,f5⟩:=hf it (by simp);have W:=QyL (prog:=X.prog) (w:=X.w) (I.ok.hd hc) it ((n:Int) - 1) (-1) n;refine W.item i s _ _ hg st λv h' tk hv st' kk=>?_
  obtain⟨t,rfl⟩:=hv;have I1:Inv X pins σ H { s with heap:=h',toks:=tk }:=I.turned (λb o hb e=>kk b o (by simpa using hb) e) f0 f1 f3 f4 f5;refine⟨_,rfl,Qnx (s:={ s with heap:=h',toks:=tk }) (n := "range_iterator") st' rfl rfl (by decide) ⟨.int ((n:Int) - 1 - i),H,I1,⟨t,?_⟩,⟨rfl,rfl⟩,st',λb hb=>(hf b hb).1⟩⟩;rw[show(n:Int) - 1+(i:Int)*(-1)=(n:Int) - 1 - i by omega]
 done:=by
  intro X hP hw hK hc i pins s σ H E I hf st hg;subst hP hw hK;obtain⟨f0,f1,f2,f3,f4,f5⟩:=hf it (by simp);exact Qrq (I.ok.hd hc) st (by have:n<=i:=hg;omega) λh' eb=>⟨rfl,I.turned (t':=s.toks) (λb o hb e=>eb b o hb e) f0 f1 f3 f4 f5⟩
 self:=λ_ _ _ _ _ st h=>Qdi st h
def QzV(ta:TA):TI:=λσ H R=>ta σ H λvs H1=>∃(r:Addr)(j:Int),vs=[.ref r]/\H1 r=some (.rng 0 j) /\ -1000<=j/\j<=1000/\R (Itv j.toNat) H1
section
variable{X:Cx}{tg:Q0}
theorem QtI{a:Q0}{ta:TA}{p pos:Pos}(hg:Gl X "reversed")(hm:X.mg "reversed" = none)(ha:PA X [a] ta)(hs:starEach [a] X.env=[(false,eval a X.env)]:=by rfl):PI X tg (.Call (.Name "reversed" p) [a] [] pos) (QzV ta):=by
 intro pins s σ H R I h;refine Call_ (QcD I hg hm boot_reversed (JF (thn (ha pos pins s σ H _ I h) λus s1 ⟨vs,H1,I1,r1,q1⟩=>?_) hs rfl));obtain⟨r,j,e,hr,q1,q2,q⟩:=q1;subst e;obtain⟨u,rfl,ru⟩:=vals1 r1;cases(show u=QF r from ru);obtain⟨t1,t2,t3,e⟩:=I1.hok r _ hr;refine Rv.Qn2 (show QeY s1.heap r 0 j 1 t1 t2 t3 from e) q1 q2 ?_
 have hz:Jp 0 j 1=((j.toNat:Nat):Int):=by rw[QcV];split<;>omega
 have it0:Qkr (s1.heap.push (Rv.Qhb 0 j)) s1.heap.objs.size (((j.toNat:Nat):Int) - 1+((0:Nat):Int)*(-1)) (((j.toNat:Nat):Int) - ((0:Nat):Int)) (-1):=by
  have:=Qm (h:=s1.heap) (o:=Rv.Qhb 0 j) rfl;unfold Rv.Qhb at this;rw[hz,show(0:Int)+(((j.toNat:Nat):Int) - 1)*1=((j.toNat:Nat):Int) - 1+((0:Nat):Int)*(-1) by omega] at this;rw[show((j.toNat:Nat):Int) - ((0:Nat):Int)=((j.toNat:Nat):Int) by omega];unfold Rv.Qhb;rw[hz,show(0:Int)+(((j.toNat:Nat):Int) - 1)*1=((j.toNat:Nat):Int) - 1+((0:Nat):Int)*(-1) by omega];exact this
 refine Qdi it0 ?_
 refine⟨s1.heap.objs.size,[s1.heap.objs.size],_,_,H1,rfl,I1.kept (t':=s1.toks) λb o e=>Qc _ e,QlR _ j.toNat,it0,λb hb=>?_,q⟩;have e:b=s1.heap.objs.size:=by simpa using hb
 subst e;exact I1.fpOk (Qg _) (I1.hok.fresh (Qg _))
end
section
variable{X:Cx}
def Qjs:V->List V->Hp->VK->Prop:=λx vs H Q=>∃l xs y,x=.ref l/\vs=[.int 0,y]/\H l=some (.lst xs)/\xs.length<sizeLine/\Q .non (upd H l (.lst (y::xs)))
theorem QkT:MtM X "list.insert" Qjs:=by
 intro pins s σ H x vs v us Q I rx rv h;obtain⟨l,xs,y,rfl,rfl,hH,hz,q⟩:=h;cases rx;cases rv with
 |cons r0 rv=>
  obtain⟨u,rfl,ru⟩:=Vals.one rv;obtain⟨t,rfl⟩:=r0;obtain⟨z,its,n,r,hl,e⟩:=I.lstM hH;refine QbI F.slot_list_insert ⟨_,e,rfl⟩ F.entry_list_insert (F.args_list_insert_3 _ _ _) (AutoSeq1.list_insert_list_int_val_1 l its.toArray n 0 t u (by decide) (by rw[Qj];omega)) ⟨e,?_⟩;refine⟨.non,_,I.lset (its':=u::its) hH e (by simp) (.cons ru r) ?_,rfl,q⟩;rw[QC];omega
end
end L2
namespace Dl
open L2 _root_.Rd Rk
section
variable{X:Cx}{E:XK}{st:Y2}{i:Nat}{we:DE}
def Qtk(n:Nat):List PyData:=(Qf n).map λ(i:Nat)=>.int ((n:Int) - 1 - i)
theorem Qf7(n:Nat):(Qtk n).length=n:=by unfold Qtk;rw[Qa,Qr]
theorem Qjr{n i:Nat}{d:PyData}(h:(Qtk n)[i]? = some d):i<n/\d=.int ((n:Int) - 1 - i):=by
 unfold Qtk at h;rw[Qo] at h;by_cases z:i<n
 ·rw[Ja z] at h;exact⟨z,(Qx h).symm⟩
 ·rw[QN (by rw[Qr];omega)] at h;cases h
def QAa(w:DE):DI:=λδ Q EX=>w δ (λd=>match d with
 |.int j=>(-1000<=j/\j<=1000)/\Q (Qtk j.toNat)
 |_=>False) EX
theorem QzP{A S:Addr->Prop}{n:Nat}{H1:Hp}(h:n<=sizeLine):ItD A S (Itv n) (Qtk n) H1:=by
 refine⟨by rw[Qf7];exact h,λH2 A' _ _ _=>⟨λi d hd=>?_,?_⟩⟩
 ·obtain⟨hi,rfl⟩:=Qjr hd;refine⟨hi,λx H3 hy=>?_⟩;obtain⟨rfl,rfl⟩:=hy;exact⟨Same.refl _,.int _⟩
 ·show n<=(Qtk n).length;rw[Qf7];exact Qg _
theorem Qtu{m:Md}{tg e:Q0}{w:DE}{p p2 pos pos2:Pos}(hg:Gl X "reversed")(hm:X.mg "reversed" = none)(hg2:Gl X "range")(hm2:X.mg "range" = none)(h:QE .P X E e w)(hs:notStar e=true:=by rfl):QI m X E tg (.Call (.Name "reversed" p) [.Call (.Name "range" p2) [e] [] pos2] [] pos) (QAa w):=⟨by
 refine PI.imp (QtI hg hm (pa_c (Qd6 hg2 hm2 (pa_c h.h pa_nil hs) (by rw[Yq hs];rfl)) pa_nil)) λσ H R _ ⟨F,δ,R',EX,rel,hw,k,o⟩=>?_
 refine⟨F,δ,_,EX,rel,hw,λd hd v H' rel' kp vk=>?_,o⟩;cases d<;>first | exact(show False from hd).elim | skip
 obtain⟨⟨h1,h2⟩,hR⟩:=hd;rw[DP.int vk];exact⟨_,rfl,λr H2 s2 n2 e2=>⟨r,_,rfl,e2,h1,h2,k _ hR _ H2 (rel'.same s2) (kp.trans (Kp.same rel' s2)) (QzP (ZJ (Rk.QaG (by omega))))⟩⟩⟩
def Qz8(i:Nat)(we:DE):DS:=λD δ=>match δ[i]? with
 |some (.own ds)=>we δ (λd=>ds.length<1000000/\D.nx (δ.set i (.own (d::ds)))) D.ex
 |_=>False
theorem QtV(h:PS X st (QlX (tBM X.K "list" Qjs (Qbs i) (Qak (tX .D X.K E (dC (.int 0))) (Qak (tX .D X.K E we) Qe1))))):PS X st (tS X.K E (Qz8 i we)):=by
 refine PS.imp h λD σ H ⟨F,δ,DD,rel,hw,en⟩=>?_
 unfold Qz8 at hw;split at hw
 ·rename_i ds hd
  obtain⟨x,hx⟩:=rel.lt hd;obtain⟨l,xs,rfl,e,q,f⟩:=rel.sl i _ _ hx hd;have np:=rel.own_pot hd hx;refine⟨.ref l,hx,.inl ⟨rfl,_,SqL.of e⟩,F,δ,(λd=>d=.int 0),DD.ex,rel,rfl,λd hd0 v0 H0 rel0 kp0 vk0=>?_,en.ex⟩;subst hd0;cases vk0;refine⟨F,δ,_,DD.ex,rel0,hw,λd ⟨hl,hn⟩ v H' rel' kp vk=>?_,en.ex⟩;have kk:=kp0.trans kp;have q':=kk.das q;refine⟨l,xs,v,rfl,rfl,kk.1 _ _ np e,QK (by rw[q.length];exact hl) Qhr,?_⟩;obtain⟨r2,st⟩:=rel'.mut hd hx (.cons vk q');exact en.nx.go _ hn _ _ r2 ((Stp.kp kk).trans st)
 ·exact hw.elim
theorem Qwu{y:Str}{e e0:Q0}{we:DE}{apos cpos pos npos:Pos}(i:Nat)(h0:QE .D X E e0 (dC (.int 0)))(he:QE .D X E e we)(hN:X.N[i]? = some y:=by rfl)(hv:Vis X.env.scope y:=by first | exact QZ rfl | exact QV (QZ rfl) | exact QV (QV rfl))(hd:(y == ("__debug__" : Str))=false:=by decide)(hcd:(y == ("__classdict__" : Str))=false:=by decide)(hs0:notStar e0=true:=by rfl)(hst:notStar e=true:=by rfl)(hbase:attributeBase (.Name y npos) "insert" X.env (eval (.Name y npos) X.env)=eval (.Name y npos) X.env:=by rfl)(hfew:((backTo cpos (starEach [e0,e] X.env)).all (λx => !x.1)&&(backToKw cpos (keywordEach [] X.env)).all (λx=>x.1.isSome)&&decide ([e0,e].length+([]:List Qat).length+(if([]:List Qat).isEmpty then 0 else 1)<30))=true:=by rfl)(hline:(apos.endLine == cpos.line)=true:=by rfl)(hsw:swapsWith (.Call (.Attribute (.Name y npos) "insert" apos) [e0,e] [] cpos) none pos.line X.env=pure false:=by rfl):QS X E (.Expr (.Call (.Attribute (.Name y npos) "insert" apos) [e0,e] [] cpos) pos) (Qz8 i we):=⟨QtV (Qgc (Qmx PySem.F.plainAttrs_list PySem.F.slot_list_insert PySem.F.type_list_insert QkT (pv i hN hv hd hcd) (pa_c h0.h (pa_c he.h pa_nil hst) hs0) hbase hfew hline (Yq hs0) (by rw[Yq hst];rfl)) hsw)⟩
end
end Dl
namespace Rk
open L2 _root_.Rd Dl Rt
def QrO(B:Nat->Nat->Int)(t:Nat):List Nat->Nat->Int
 |[],_=>0
 |c::cs,k=>(if t.testBit c=true then 0 else B (t ||| 2^c) k)+QrO B t cs k
theorem Qel(B:Nat->Nat->Int)(t c k:Nat):∀cs:List Nat,QrO B t (cs++[c]) k=QrO B t cs k+(if t.testBit c=true then 0 else B (t ||| 2^c) k)
 |[]=>by show _+0=0+_;omega
 |d::cs=>by
  show _+QrO B t (cs++[c]) k=_+QrO B t cs k+_;rw[Qel B t c k cs];omega
def Qd5(h:Nat)(F:Nat->Int):List PyData:=(Qf (h+1)).map λ(k:Nat)=>.int (F k)
def Qky(h w:Nat)(B:Nat->Nat->Int):List PyData:=(Qf (2^w)).map λ(t:Nat)=>.list (Qd5 h (B t))
def Qem(B:Nat->Nat->Int)(cols:List Nat)(t k:Nat):Int:=B t k+if k=0 then 0 else QrO B t cols (k - 1)
def Qrf(cs:List (Int×Int))(r:Nat):List Nat:=(Qtj cs r).map λp=>p.2.toNat
def Wc(cs:List (Int×Int))(h:Nat):Nat->Nat->Nat->Int
 |0,_,k=>if k=0 then 1 else 0
 |i+1,t,k=>Qem (Wc cs h i) (Qrf cs (h - 1 - i)) t k
def QrI(cs:List (Int×Int))(h w:Nat):Nat->List PyData
 |0=>[.list (Qky h w (Wc cs h 0))]
 |i+1=>.list (Qky h w (Wc cs h (i+1)))::QrI cs h w i
def Yx(ns:List Nat):List PyData:=ns.map λ(c:Nat)=>.int (c:Int)
def Qvb(cs:List (Int×Int))(h w:Nat):List PyData:=(Qf (min h w+1)).map λ(k:Nat)=>.int (Wc cs h h 0 k)
def Quz:DF:=λargs R _=>∃(h w:Nat)(cs:List (Int×Int)),args=[.v (bdD h w cs)]/\R (.int ((min h w:Nat):Int))
def QsW:DF:=λargs R _=>∃(h w:Nat)(B:Nat->Nat->Int)(cols:List Nat)(t:Nat),args=[.v (.list (Qky h w B)),.v (.list (Yx cols)),.v (.int t)]/\t<2^w/\(∀c∈cols,c<w)/\h<=6/\w<=6/\R (.list (Qd5 h (Qem B cols t)))
def QsX:DF:=λargs R _=>∃(h w:Nat)(cs:List (Int×Int)),args=[.v (bdD h w cs)]/\h<=6/\w<=6/\(∀p∈cs,0<=p.2/\p.2<w)/\R (.list (QrI cs h w h))
def QiV:DF:=λargs R _=>∃(h w:Nat)(cs:List (Int×Int)),args=[.v (bdD h w cs)]/\h<=6/\w<=6/\(∀p∈cs,0<=p.2/\p.2<w)/\R (.list (Qvb cs h w))
theorem Qds{h k:Nat}{F:Nat->Int}(hk:k<=h):(Qd5 h F)[k]? = some (.int (F k)):=by
 unfold Qd5;rw[Qo,Ja (by omega)];rfl
theorem Qck(h:Nat)(F:Nat->Int):(Qd5 h F).length=h+1:=by unfold Qd5;rw[Qa,Qr]
theorem Qin{h w t:Nat}{B:Nat->Nat->Int}(ht:t<2^w):(Qky h w B)[t]? = some (.list (Qd5 h (B t))):=by
 unfold Qky;rw[Qo,Ja ht];rfl
theorem Qbt{h:Nat}{F G:Nat->Int}(e:∀k,k<=h->F k=G k):Qd5 h F=Qd5 h G:=by
 unfold Qd5;refine Q9 λk hk=>?_
 rw[e k (by have:=Qz.mp hk;omega)]
theorem Qo2{h j:Nat}{F:Nat->Int}{v:Int}(hj:j<=h):(Qd5 h F).set j (.int v)=Qd5 h (λk=>if k=j then v else F k):=by
 apply J7
 intro k;rw[QeO];by_cases z:j=k
 ·subst z;rw[if_pos rfl,if_pos (by rw[Qck];omega),Qds hj,if_pos rfl]
 ·rw[if_neg z];by_cases z2:k<=h
  ·rw[Qds z2,Qds z2,if_neg (λe=>z e.symm)]
  ·rw[QN (by rw[Qck];omega),QN (by rw[Qck];omega)]
theorem cut_last(xs:List PyData):Dl.cutD xs none (some (-1))=xs.take (xs.length - 1):=by
 unfold Dl.cutD;rw[HT.Qf4,QvP,Nat.sub_zero]
 congr 1
 have e:HT.sIx xs.length xs.length (some (-1))=((-1:Int)+(xs.length:Int)).toNat:=by unfold HT.sIx;dsimp only;rw[if_pos (by decide)]
 rw[e];omega
theorem Qvl:∀t:Fin 64,∀c:Fin 6,QcU ((t:Nat):Int) (1*2^((c:Nat):Int).toNat)=if(t:Nat).testBit c=true then 2^(c:Nat) else 0:=by decide +kernel
theorem Qx7:∀t:Fin 64,∀c:Fin 6,Qdl ((t:Nat):Int) (1*2^((c:Nat):Int).toNat)=(((t:Nat) ||| 2^(c:Nat):Nat):Int):=by decide +kernel
theorem QzE{t c w:Nat}(ht:t<2^w)(hc:c<w):t ||| 2^c<2^w:=Nat.or_lt_two_pow ht (Nat.pow_lt_pow_right (by decide) hc)
theorem Qo4(h:Nat)(F:Nat->Int):Dl.cutD (Qd5 h F) none (some (-1))=(Qf h).map λ(k:Nat)=>Qp (F k):=by
 rw[cut_last,Qck];unfold Qd5;rw[<- Qa5,Qeh,Qvw,QgV (QgW h)]
theorem Qvn{t c w:Nat}(ht:t<2^w)(hc:c<w)(w6:w<=6):QcU (t:Int) (1*2^((c:Nat):Int).toNat)=if t.testBit c=true then 2^c else 0:=by
 have h64:2^w<=2^6:=Qa4 (by decide) w6;exact Qvl ⟨t,by have e:2^6=64:=rfl;omega⟩ ⟨c,by omega⟩
theorem Qw2{t c w:Nat}(ht:t<2^w)(hc:c<w)(w6:w<=6):Qdl (t:Int) (1*2^((c:Nat):Int).toNat)=((t ||| 2^c:Nat):Int):=by
 have h64:2^w<=2^6:=Qa4 (by decide) w6;exact Qx7 ⟨t,by have e:2^6=64:=rfl;omega⟩ ⟨c,by omega⟩
theorem Qgd(w:Nat):(1*2^((w:Nat):Int).toNat:Int)=((2^w:Nat):Int):=by
 rw[QoC,Qq];simp
theorem QxZ(cs:List (Int×Int))(r:Nat)(hb:∀p∈cs,0<=p.2):(cs.map pairD).filterMap (λd=>if(toP d).1=(r:Int) then some (.int (toP d).2) else none)=Yx (Qrf cs r):=by
 unfold Yx Qrf Qtj;rw[Yk,QH];refine Qk6 (p:=λp:Int×Int=>decide (p.1=(r:Int))) λp hp=>?_
 show(if p.1=(r:Int) then some (Qp p.2) else none)=if decide (p.1=(r:Int))=true then some (Qp ((p.2.toNat:Nat):Int)) else none
 rw[show((p.2.toNat:Nat):Int)=p.2 by have:=hb p hp;omega];by_cases z:p.1=(r:Int)
 ·rw[if_pos z,if_pos (decide_eq_true z)]
 ·rw[if_neg z,if_neg (by simpa using z)]
theorem Qu9{cs:List (Int×Int)}{w r c:Nat}(hb:∀p∈cs,0<=p.2/\p.2<w)(h:c∈Qrf cs r):c<w:=by
 unfold Qrf Qtj at h;obtain⟨p,hp,rfl⟩:=Qs.mp h;have:=hb p (JB.mp hp).1;omega
theorem Qjk(cs:List (Int×Int))(h w:Nat):∀i,(QrI cs h w i).length=i+1
 |0=>rfl
 |i+1=>by show(QrI cs h w i).length+1=_;rw[Qjk cs h w i]
theorem QlV(cs:List (Int×Int))(h w:Nat):∀i,(QrI cs h w i)[0]? = some (.list (Qky h w (Wc cs h i)))
 |0=>rfl
 |_+1=>rfl
theorem Qo3(cs:List (Int×Int))(h t:Nat):Qd5 h (Wc cs h 0 t)=Qp 1::QL h (.int 0):=by
 apply J7
 intro k;cases k with
 |zero=>rw[Qds (Q7 _)];rfl
 |succ k=>
  by_cases z:k+1<=h
  ·rw[Qds z,Zr,ZW,if_pos (by omega)];rfl
  ·rw[QN (by rw[Qck];omega),Zr,ZW,if_neg (by omega)]
theorem Qtm(h:Nat):(QL h [Qp 0]).flatten=QL h (.int 0):=by
 induction h with
 |zero=>rfl
 |succ h ih=>rw[J5,ZY,ih];rfl
theorem Qr8{w:Nat}(h:w<=6) : -1000000<=(1*2^((w:Nat):Int).toNat:Int)/\(1*2^((w:Nat):Int).toNat:Int)<=1000000:=by
 have p64:2^w<=64:=Qa4 (n:=2) (by decide) h;rw[Qgd];generalize 2^w=x at p64;omega
def sumZ{α:Type}(f:α->Int):List α->Int
 |[]=>0
 |x::xs=>f x+sumZ f xs
theorem QcZ{α:Type}(f:α->Int):∀a b:List α,sumZ f (a++b)=sumZ f a+sumZ f b
 |[],b=>by show _=0+_;rw[Zk];rfl
 |x::a,b=>by show _+sumZ f (a++b)=_+sumZ f a+_;rw[QcZ f a b];omega
end Rk
namespace L2
section
variable{X:Cx}
end
end L2
namespace Dl
open L2 _root_.Rd Rk
end Dl
namespace Rk
open L2 _root_.Rd Dl Rt
def wo(cs:List (Int×Int))(c:Int×Int):List (Int×Int):=cs.filter λp => !decide (p=c)
theorem Qfv{α β:Type}{f g:α->List β}:∀{xs:List α},(∀x∈xs,f x=g x)->xs.flatMap f=xs.flatMap g
 |[],_=>rfl
 |x::xs,h=>by rw[QeP,QeP,h x (.head _),Qfv λy hy=>h y (.tail _ hy)]
def Bds(h w:Nat)(cs:List (Int×Int)):Prop:=h<=6/\w<=6/\∀p∈cs,0<=p.1/\p.1<h/\0<=p.2/\p.2<w
theorem Bds.wo{h w:Nat}{cs:List (Int×Int)}(b:Bds h w cs)(c:Int×Int):Bds h w (wo cs c):=⟨b.1,b.2.1,λp hp=>b.2.2 p (JB.mp hp).1⟩
theorem Bds.col{h w:Nat}{cs:List (Int×Int)}(b:Bds h w cs):∀p∈cs,0<=p.2/\p.2<(w:Int):=λp hp=>(b.2.2 p hp).2.2
theorem Bds.nn{h w:Nat}{cs:List (Int×Int)}(b:Bds h w cs):∀p∈cs,0<=p.2:=λp hp=>(b.2.2 p hp).2.2.1
end Rk
namespace Dl
open L2 _root_.Rd Rk
section
variable{X:Cx}{E:XK}{st:Y2}{we:DE}
end
end Dl
namespace Rk
open L2 _root_.Rd Dl Rt
structure GB (h w:Nat) (cs:List (Int×Int)):Prop where
 bds:Bds h w cs
 srt:cs.Pairwise plt
 few:(Qzd cs h).length<=200000
theorem GB.r0{h w:Nat}{cs:List (Int×Int)}(g:GB h w cs):∀p∈cs,0<=p.1:=λp hp=>(g.bds.2.2 p hp).1
end Rk
namespace L2
section
variable{X:Cx}
end
end L2
namespace Dl
open L2 _root_.Rd Rk Rt
end Dl
namespace Rk
open L2 _root_.Rd Dl Rt
def wt(cs L:List (Int×Int)):Nat:=(cs.filter (QBt L)).length
end Rk
namespace L2
open _root_.Rd
section
variable{X:Cx}
end
end L2
namespace Dl
open L2 _root_.Rd Rk Rt
section
variable{X:Cx}{E:XK}
end
end Dl
namespace Rk
open L2 _root_.Rd Dl Rt
theorem QrV(w:Nat)(f:Nat->Nat->Bool){r:Nat}:∀h,r<h->Qtj (cellsF h w f) r=Qf5 r w f
 |h+1,hr=>by
  unfold Qtj;rw[Y5,QbB];have no:∀(q:Nat)(L:List (Int×Int)),(∀p∈L,p.1≠(r:Int))->L.filter (λp=>decide (p.1=(r:Int)))=[]:=λq L hL=>by
   rw[Qkq];intro p hp;rw[decide_eq_false (hL p hp)];exact Qt
  by_cases z:r<h
  ·have ih:=QrV w f h z;unfold Qtj at ih;rw[ih,no 0 _ λp hp=>?_,Z5];obtain⟨c,_,_,rfl⟩:=Qc5.mp hp;show(h:Int)≠r;omega
  ·have e:r=h:=by omega
   subst e;rw[no 0 (cellsF r w f) λp hp=>?_,QgH,Qbm.mpr λp hp=>?_]
   ·obtain⟨c,_,_,rfl⟩:=Qc5.mp hp;exact decide_eq_true rfl
   ·have:=(QaY hp).2.1;omega
theorem Qx0{h w r:Nat}(f:Nat->Nat->Bool)(hr:r<h):Qrf (cellsF h w f) r=(Qf w).filter (f r):=by
 unfold Qrf;rw[QrV w f h hr];unfold Qf5;rw[QH]
 conv=>rhs;rw[<- QgI ((Qf w).filter (f r))]
 exact Q9 λc _=>by show((c:Int)).toNat=c;omega
def oth(n:Nat)(o:List Nat):List Nat:=(Qf n).filter λx => !decide (x∈o)
def ordsN(n:Nat):Nat->List (List Nat)
 |0=>[[]]
 |i+1=>(ordsN n i).flatMap λo=>(oth n o).map λx=>o++[x]
theorem QbE{n:Nat}:∀{i:Nat}{o:List Nat},o∈ordsN n i->o.length=i
 |0,o,h=>by rw[Q5.mp h];rfl
 |i+1,o,h=>by
  obtain⟨p,hp,ho⟩:=Qct.mp h;obtain⟨x,_,rfl⟩:=Qs.mp ho;rw[Qw,QbE hp];rfl
theorem Qud(n:Nat)(o:List Nat):(oth n o).length<=n:=by
 unfold oth;exact QY (QcS _ _) (by rw[Qr];exact Qg _)
theorem QnG{α β:Type}(g:α->List β)(n:Nat):∀xs:List α,(∀x∈xs,(g x).length<=n)->(xs.flatMap g).length<=xs.length*n
 |[],_=>by simp
 |x::xs,h=>by
  rw[QeP,Qw,QC,Qly];have:=QnG g n xs λy hy=>h y (.tail _ hy)
  have:=h x (.head _);omega
theorem QjB{n:Nat}(h6:n<=6):∀i,i<=6->(ordsN n i).length<=50000
 |i,hi=>by
  have q:∀i,(ordsN n i).length<=n^i:=λi=>by
   induction i with
   |zero=>exact Qg _
   |succ i ih=>
    refine QY (QnG _ n _ λo _=>by rw[Qa];exact Qud n o) ?_
    rw[Nat.pow_succ];exact Nat.mul_le_mul_right _ ih
  have a:=q i;have b:n^i<=6^i:=Nat.pow_le_pow_left h6 i;have c:6^i<=6^6:=Qa4 (by decide) hi;have e:(6:Nat)^6=46656:=rfl;omega
theorem Quc(n:Nat):oth n []=Qf n:=by
 unfold oth;rw[Qbm];intro x _;simp
def tNn(o:List Nat):PyData:=.tuple (Yx o)
def QzD:DF:=λargs R _=>∃(n:Nat)(o:List Nat),args=[.v (.int n),.v (tNn o)]/\n<=6/\R (.list (Yx (oth n o)))
def QkL:DF:=λargs R _=>∃n:Nat,args=[.v (.int n)]/\n<=6/\R (.list ((ordsN n n).map tNn))
def Qyy:DF:=λargs R _=>∃h w:Nat,args=[.pot,.v (.int h),.v (.int w)]/\h<=6/\w<=6/\∀f:Nat->Nat->Bool,R (bdD h w (cellsF h w f))
theorem Qiy{n:Nat}:∀{i:Nat}{o:List Nat},o∈ordsN n i->∀x∈o,x<n
 |0,o,h,x,hx=>by rw[Q5.mp h] at hx;cases hx
 |i+1,o,h,x,hx=>by
  obtain⟨p,hp,ho⟩:=Qct.mp h;obtain⟨y,hy,rfl⟩:=Qs.mp ho;rcases JM.mp hx with z | z
  ·exact Qiy hp x z
  ·rw[Q5.mp z];exact Qz.mp (JB.mp hy).1
end Rk
namespace HT
section
open PySem.SeqAt
open PySem.AutoSeq1 (wpAny_loadPart')
open PySem.MeetsSeq PySem.MeetsSeq2 PySem.MeetsSeq3
end
section
variable{prog:Qy}{w:Jc}{A:Jb}{E:Value->Shared->Prop}{s:Shared}
end
end HT
namespace L2
end L2
namespace Rk
open L2 _root_.Rd Dl Rt
theorem QhI{A:Addr->Prop}{H:Hp}(dm:∀a,A a->∃xs,H a=some (.lst xs)):∀{ys:List V}{M:List (Int×Int)},Dats H ys (M.map pairD)->DAs A H ys (M.map pairD)
 |[],[],_=>.nil
 |y::ys,p::M,.cons q qs=>by
  refine .cons ?_ (QhI dm qs)
  cases q with
  |tup e q2=>
   refine .tup (λz=>?_) e ?_
   ·obtain⟨xs,e2⟩:=dm _ z;rw[e] at e2;cases e2
   ·cases q2 with
    |cons a b=>
     cases b with
     |cons b c=>cases c;cases a;cases b;exact .cons (.int _) (.cons (.int _) .nil)
@[irreducible] def sortPD:List PyData->(PyData->Prop)->Prop:=λds Q=>∃L:List (Int×Int),ds=[.list (L.map pairD)]/\L.Nodup/\L.length<64/\(∀p∈L,0<=p.2/\p.2<64)/\∀M:List (Int×Int),M.Perm L->M.Pairwise plt->Q (.list (M.map pairD))
theorem sortP_of{L:List (Int×Int)}{Q:PyData->Prop}(h1:L.Nodup)(h2:L.length<64)(h3:∀p∈L,0<=p.2/\p.2<64)(k:∀M:List (Int×Int),M.Perm L->M.Pairwise plt->Q (.list (M.map pairD))):sortPD [.list (L.map pairD)] Q:=by
 unfold sortPD;exact⟨L,rfl,h1,h2,h3,k⟩
theorem cd_sortP:QdC Qmd sortPD:=λA P H vs ds R Q ln dm q h k=>by
 unfold sortPD at h;obtain⟨L,rfl,h1,h2,h3,hR⟩:=h;obtain⟨v,rfl,hv⟩:=pd1 q;obtain⟨l,xs,rfl,e,qq⟩:=hv.list;refine⟨l,xs,L,rfl,e,Qba _ _ (Qbv L) qq,h1,h2,h3,λt ys M H2 s n e2 dts pm pw=>?_⟩;have dm2:∀a,A a->∃xs,H2 a=some (.lst xs):=λa z=>by obtain⟨xs,e⟩:=dm a z;exact⟨xs,s _ _ e⟩
 have pl:M.Pairwise plt:=by
  have hb:∀p∈M,0<=p.2/\p.2<64:=λp hp=>h3 p (pm.mem_iff.mp hp)
  refine QdZ (λ{a b} ha hb' hc=>?_) pw;have:=hb a ha;have:=hb b hb';have hc:64*a.1+a.2<64*b.1+b.2:=hc;show a.1<b.1∨(a.1=b.1/\a.2<b.2);omega
 refine k _ (hR M pm pl) _ H2 s (.lst (λz=>?_) e2 (QhI dm2 dts)) (QaH n);obtain⟨xs,e⟩:=dm t z;rw[n] at e;cases e
end Rk
namespace Dl
open L2 _root_.Rd Rk Rt
end Dl
namespace Rk
open L2 _root_.Rd Dl Rt
def tF(f:Nat->Nat->Bool):Nat->Nat->Bool:=λr c=>f c r
theorem QmL{n:Nat}{o:List Nat}(h:o∈ordsN n n):o.Perm (Qf n):=by
 have nd:∀{i:Nat}{o:List Nat},o∈ordsN n i->o.Nodup:=λ{i}=>by
  induction i with
  |zero=>intro o h;rw[Q5.mp h];exact .nil
  |succ i ih=>
   intro o h;obtain⟨p,hp,ho⟩:=Qct.mp h;obtain⟨x,hx,rfl⟩:=Qs.mp ho;refine QbW.mpr ⟨ih hp,by simp,λa ha b hb e=>?_⟩;rw[Q5.mp hb] at e;have:=(JB.mp hx).2;rw[Bool.not_eq_true',decide_eq_false_iff_not] at this;exact this (by rw[<- e];exact ha)
 have p1:o.Perm ((Qf n).filter λx=>decide (x∈o)):=(Yb (nd h) (Qe4 _ YC)).mpr λx=>by
  rw[JB,Qz];exact⟨λhx=>⟨Qiy h x hx,decide_eq_true hx⟩,λhx=>of_decide_eq_true hx.2⟩
 have l1:=p1.length_eq;have l2:=List.length_eq_countP_add_countP (λx=>decide (x∈o)) (l:=Qf n);rw[Qr,List.countP_eq_length_filter,<- l1,QbE h] at l2;have l3:(Qf n).countP (λx=>decide (¬decide (x∈o)=true))=0:=by omega
 have al:(Qf n).filter (λx=>decide (x∈o))=Qf n:=Qbm.mpr λx hx=>by
  have:=List.countP_eq_zero.mp l3 x hx
  simpa using this
 rw[al] at p1;exact p1
end Rk
namespace Rm
open AutoSeq1 (wpAny_loadPart')
open MeetsSeq
theorem Qdo{M:QvN}{A:Jb}{E:Value->Shared->Prop}{s:Shared}{β:Type}(f:Nat->β->Sem (ForInStep β))(I:List Nat->β->Shared->Prop)(Q:β->Shared->Prop)
  (turn:∀x rest b s,I (x::rest) b s->wpAny M A (f x b) (λr s'=>match r with | .yield b'=>I rest b' s' | .done b'=>Q b' s') E s)
  (fin:∀b s,I [] b s->Q b s)(xs:Std.Legacy.Range)(b:β)(h:I (QgF xs.start xs.size xs.step) b s):wpAny M A (forIn xs b f) Q E s:=by
 rw[Qvs];exact Qbo f I Q turn fin _ b h
theorem QfS(l:Addr)(items:Array Value)(n:Nat)(dd:Option Addr)(sl:Array (Option Value))(x:Value)(e:Value->Bool)(he:∀y,y∈items->EqGives y x (e y))(j:Nat)(hj:j<items.size)
  (hit:e items[j]=true)(hno:∀m (hm:m<items.size),m<j->e items[m]=false) :
  Meets (Yw.«tuple.index» ⟨[.ref l,x],[]⟩)
   (λ_ R s=>s.heap.get? l=some { cls:=.type "tuple",dict:=dd,data:=.seq items n,slots:=sl }/\R (.ok (.ret (.int j s.toks))) { s with toks:=s.toks+1 }):=
 .of_wp λprog w A R s h=>by
  obtain⟨hp,g,d,tk,os⟩:=s;obtain⟨hl,h⟩:=h
  wp_walk using QbR hl,Qdo _ (λrest b s'=>b.1=none/\s'=⟨hp,g,d,tk,os⟩/\∃i,i<=j/\rest=QgF i (items.size - i)) _
  case turn=>
   rintro i rest b s' ⟨hb,rfl,i',hi,er⟩;obtain⟨k,hk⟩:∃k,items.size - i'=k+1:=⟨items.size - i' - 1,by omega⟩
   rw[hk,QsP] at er;injection er with e1 e2
   subst e1;have hlt:i<items.size:=by omega
   rw[show items[i]? = some items[i] from JX hlt];refine wpAny_bind (he _ (Qej hlt) prog w _ _ _ _ ?_);by_cases z:i=j
   ·subst z;rw[hit]
    wp_walk
    exact⟨_,rfl,h⟩
   ·rw[hno i hlt (by omega)]
    wp_walk
    exact⟨rfl,rfl,i+1,by omega,by rw[e2,show items.size - (i+1)=k by omega]⟩
  case fin=>
   rintro b s' ⟨hb,rfl,i',hi,er⟩;have:=congrArg QgK er;rw[List.length_range'] at this;simp at this;omega
  case h=>
   refine⟨rfl,rfl,0,Q7 _,?_⟩;show QgF 0 ((min items.size items.size - 0+1 - 1) / 1) 1=_;rw[QcX];simp
end Rm
namespace L2
open _root_.Rd
theorem Qez:∀{vs:List Value}{ns:List Int},Qbp vs ns->∀(m:Nat)(v:Value),vs[m]? = some v->∃n t,ns[m]? = some n/\v=.int n t
 |_,_,.nil,m,v,h=>by simp at h
 |_,_,.cons n t h,0,v,e=>by simp at e;subst e;exact⟨n,t,rfl,rfl⟩
 |_,_,.cons n t h,m+1,v,e=>Qez h m v (by simpa using e)
theorem Qc6{vs:List Value}{ns:List Int}{k:Int}(h:Qbp vs ns)(m:Nat)(hm:m<vs.length):isInt k vs[m]=decide (ns[m]? = some k):=by
 obtain⟨n,t,e1,e2⟩:=Qez h m vs[m] (Qe hm);rw[e2,e1];show(n == k)=_;rw[Ze];simp
theorem Qey{vs:List Value}{ns:List Int}(h:Qbp vs ns):vs.length=ns.length:=by
 induction h with
 |nil=>rfl
 |cons n t h ih=>rw[QC,QC,ih]
section
variable{X:Cx}
def tTM(r:V->List V->Hp->VK->Prop)(to:TE)(t:TA):TE:=λσ H Q=>to σ H λx H1=>(∃p xs,x=.ref p/\H1 p=some (.tup xs))/\t σ H1 λxs H2=>r x xs H2 Q
theorem Qzx{o e:Q0}{es:List Q0}{to:TE}{t:TA}{name:Str}{apos cpos:Pos}{id:String}{r:V->List V->Hp->VK->Prop}(slot:Slot "tuple" name id)(hty:typeOf (.builtin id)=pure (.type "method_descriptor"))(hm:MtR X id r)(ho:PE X o to)(ha:PA X (e::es) t)
  (hbase:attributeBase o name X.env (eval o X.env)=eval o X.env:=by rfl)
  (hfew:((backTo cpos (starEach (e::es) X.env)).all (λx => !x.1)&&(backToKw cpos (keywordEach [] X.env)).all (λx=>x.1.isSome)
   && decide ((e::es).length+([]:List Qat).length+(if([]:List Qat).isEmpty then 0 else 1)<30))=true:=by rfl)
  (hline:(apos.endLine == cpos.line)=true:=by rfl) (hs:starEach (e::es) X.env=(false,eval e X.env)::starEach es X.env:=by rfl) (hplain:(backTo cpos (starEach es X.env)).any (·.1)=false:=by rfl) :
  PE X (.Call (.Attribute o name apos) (e::es) [] cpos) (tTM r to t):=by
 intro pins s σ H Q I h;refine Qrs hbase hfew hline rfl (thn (ho pins s σ H _ I h) λv s1 ⟨x,H1,I1,r1,ty,q1⟩=>?_);obtain⟨p,xs,rfl,hp⟩:=ty;cases r1;obtain⟨_,its,rv,ob,e1,e2,e3,_⟩:=I1.hok p _ hp;refine⟨"tuple",id,PySem.F.plainAttrs_tuple,slot,hty,⟨ob,e1,e2⟩,λa ea=>?_,?_⟩
 ·cases ea;exact⟨ob,e1,e3⟩
 have hA:=ha cpos pins s1 σ H1 _ I1 q1;rw[hs] at hA ⊢;refine Qcw (by show(false||(backTo cpos (starEach es X.env)).any (·.1))=false;rw[hplain]<;>rfl) (QcY ?_);exact thn hA λus s2 ⟨vs,H2,I2,r2,q2⟩=>hm pins s2 σ H2 (.ref p) vs _ us Q I2 (show RelV (.ref p) (.ref p) from rfl) r2 q2
def Qzj:V->List V->Hp->VK->Prop:=λx vs H Q=>∃l ns k j,x=.ref l/\vs=[.int k]/\H l=some (.tup ((ns:List Int).map V.int))/\ns[j]? = some k/\(∀m,m<j->ns[m]? ≠ some k)/\Q (.int (j:Nat)) H
theorem Qm8:MtR X "tuple.index" Qzj:=by
 intro pins s σ H x vs v us Q I rx rv h;obtain⟨l,ns,k,j,rfl,rfl,hH,hj,hno,q⟩:=h;cases rx;obtain⟨u,rfl,ru⟩:=rv.one;obtain⟨t,rfl⟩:=ru;obtain⟨hz,its,r,⟨cls,dd,data,sl⟩,e,hc,_,n,hd⟩:=I.hok l _ hH;cases(show cls=.type "tuple" from hc);cases(show data=.seq its.toArray n from hd);have hi:Qbp its ns:=intsAre_of r;have li:=Qey hi;have hjl:j<its.length:=by rw[li];exact(QU.mp hj).1
 refine QbI F.slot_tuple_index ⟨_,e,rfl⟩ F.entry_tuple_index (F.args_tuple_index_2 _ _) (Rm.QfS l its.toArray n dd sl (.int k t) (isInt k) (λy hy=>eq_isInt k t hi y (Qaf.mp hy)) j (by rw[Qj];exact hjl) ?_ ?_) ⟨e,?_⟩
 ·show isInt k its[j]=true;rw[Qc6 hi j hjl,hj];simp
 ·intro m hm hlt;rw[Qj] at hm;show isInt k its[m]=false;rw[Qc6 hi m hm];exact decide_eq_false (hno m hlt)
 ·exact⟨.int _,H,I.kept λ_ _ e=>e,⟨_,rfl⟩,q⟩
def QAx:V->List V->Hp->VK->Prop:=λx vs H Q=>∃l ns k j,x=.ref l/\vs=[.int k]/\H l=some (.lst ((ns:List Int).map V.int))/\ns[j]? = some k/\(∀m,m<j->ns[m]? ≠ some k)/\Q .non (upd H l (.lst ((ns.map V.int).eraseIdx j)))
theorem Qm9:MtM X "list.remove" QAx:=by
 intro pins s σ H x vs v us Q I rx rv h;obtain⟨l,ns,k,j,rfl,rfl,hH,hj,hno,q⟩:=h;cases rx;obtain⟨u,rfl,ru⟩:=rv.one;obtain⟨t,rfl⟩:=ru;obtain⟨z,its,n,r,hl,e⟩:=I.lstM hH;have hi:Qbp its ns:=intsAre_of r;have li:=Qey hi;have hjl:j<its.length:=by rw[li];exact(QU.mp hj).1
 refine QbI F.slot_list_remove ⟨_,e,rfl⟩ F.entry_list_remove (F.args_list_remove_2 _ _) (MeetsSeq.list_remove l its.toArray n (.int k t) (isInt k) (λy hy=>eq_isInt k t hi y (Qaf.mp hy)) j (by rw[Qj];exact hjl) ?_ ?_ (by rw[Qj];omega)) ⟨e,?_⟩
 ·show isInt k its[j]=true;rw[Qc6 hi j hjl,hj];simp
 ·intro m hm hlt;rw[Qj] at hm;show isInt k its[m]=false;rw[Qc6 hi m hm];exact decide_eq_false (hno m hlt)
 ·refine⟨.non,_,I.lset (its':=its.eraseIdx j) hH e ?_ (r.eraseIdx j) ?_,rfl,q⟩
  ·show its.toArray.eraseIdxIfInBounds j=(its.eraseIdx j).toArray;rw[QeQ]
  ·have:=Qeu (ns.map V.int) j;omega
end
end L2
namespace Dl
open L2 _root_.Rd Rk Rt
section
variable{X:Cx}{E:XK}{st:Y2}{i:Nat}{we:DE}
def Qz5(wa wb:DE):DE:=λδ Q EX=>wa δ (λd1=>match d1 with
 |.tuple ds=>wb δ (λd2=>∃(ns:List Int)(k:Int)(j:Nat),ds=ns.map Qp/\d2=.int k/\ns[j]? = some k/\(∀m,m<j->ns[m]? ≠ some k)/\Q (.int (j:Nat))) EX
 |_=>False) EX
theorem Qww{o e:Q0}{wo we:DE}{apos cpos:Pos}(ho:QE .P X E o wo)(he:QE .P X E e we)(hst:notStar e=true:=by rfl)(hbase:attributeBase o "index" X.env (eval o X.env)=eval o X.env:=by rfl)(hfew:((backTo cpos (starEach [e] X.env)).all (λx => !x.1)&&(backToKw cpos (keywordEach [] X.env)).all (λx=>x.1.isSome)&&decide ([e].length+([]:List Qat).length+(if([]:List Qat).isEmpty then 0 else 1)<30))=true:=by rfl)(hline:(apos.endLine == cpos.line)=true:=by rfl):QE .F X E (.Call (.Attribute o "index" apos) [e] [] cpos) (Qz5 wo we):=
 ⟨PE.imp (Qzx PySem.F.slot_tuple_index PySem.F.type_tuple_index Qm8 ho.h (pa_c he.h pa_nil hst) hbase hfew hline (Yq hst) rfl) λσ H Q ⟨F,δ,R,EX,rel,hw,k,o⟩=>by
  refine⟨F,δ,_,EX,rel,hw,λd1 h1 x H1 rel1 kp1 x1=>?_,o⟩;cases d1<;>first | exact(show False from h1).elim | skip
  rename_i ds
  obtain⟨l,xs,rfl,e,q⟩:=DP.tuple x1;refine⟨⟨l,xs,rfl,e⟩,F,δ,_,EX,rel1,h1,λd2 h2 y H2 rel2 kp2 y2=>?_,o⟩;obtain⟨ns,kk,j,rfl,rfl,hj,hno,hR⟩:=h2;obtain⟨l',xs',e0,e',q'⟩:=DP.tuple (kp2.dp x1);cases e0;rw[Qec q'] at e';cases y2.int;exact⟨l,ns,kk,j,rfl,rfl,e',hj,hno,k _ hR _ H2 rel2 (kp1.trans kp2) ⟨.int _,λl e1 e2=>nomatch e1⟩⟩⟩
def Qz7(i:Nat)(we:DE):DS:=λD δ=>match δ[i]? with
 |some (.own ds)=>we δ (λd=>∃(ns:List Int)(k:Int)(j:Nat),ds=ns.map Qp/\d=.int k/\ns[j]? = some k/\(∀m,m<j->ns[m]? ≠ some k)/\D.nx (δ.set i (.own ((ns.eraseIdx j).map Qp)))) D.ex
 |_=>False
theorem QtQ(h:PS X st (QlX (tBM X.K "list" QAx (Qbs i) (Qak (tX .D X.K E we) Qe1)))):PS X st (tS X.K E (Qz7 i we)):=by
 refine PS.imp h λD σ H ⟨F,δ,DD,rel,hw,en⟩=>?_
 unfold Qz7 at hw;split at hw
 ·rename_i ds hd
  obtain⟨x,hx⟩:=rel.lt hd;obtain⟨l,xs,rfl,e,q,f⟩:=rel.sl i _ _ hx hd;have np:=rel.own_pot hd hx;refine⟨.ref l,hx,.inl ⟨rfl,_,SqL.of e⟩,F,δ,_,DD.ex,rel,hw,λd ⟨ns,k,j,e1,e2,hj,hno,hn⟩ v H' rel' kp vk=>?_,en.ex⟩;subst e1 e2;cases vk;have q':=kp.das q;have ex:=Qec q';refine⟨l,ns,k,j,rfl,rfl,by rw[<- ex];exact kp.1 _ _ np e,hj,hno,?_⟩;have dd:=Qd9 (A:=Av F σ δ) (H:=H') (ns.eraseIdx j);have ee:(ns.map V.int).eraseIdx j=(ns.eraseIdx j).map V.int:=by
   rw[ZB,ZB,Q3,Qa5,QdX]
  rw[ee];obtain⟨r2,st⟩:=rel'.mut hd hx dd;exact en.nx.go _ hn _ _ r2 ((Stp.kp kp).trans st)
 ·exact hw.elim
theorem Qws{y:Str}{e:Q0}{we:DE}{apos cpos pos npos:Pos}(i:Nat)(he:QE .D X E e we)(hN:X.N[i]? = some y:=by rfl)(hv:Vis X.env.scope y:=by first | exact QZ rfl | exact QV (QZ rfl) | exact QV (QV rfl))(hd:(y == ("__debug__" : Str))=false:=by decide)(hcd:(y == ("__classdict__" : Str))=false:=by decide)(hst:notStar e=true:=by rfl)(hbase:attributeBase (.Name y npos) "remove" X.env (eval (.Name y npos) X.env)=eval (.Name y npos) X.env:=by rfl)(hfew:((backTo cpos (starEach [e] X.env)).all (λx => !x.1)&&(backToKw cpos (keywordEach [] X.env)).all (λx=>x.1.isSome)&&decide ([e].length+([]:List Qat).length+(if([]:List Qat).isEmpty then 0 else 1)<30))=true:=by rfl)(hline:(apos.endLine == cpos.line)=true:=by rfl)(hsw:swapsWith (.Call (.Attribute (.Name y npos) "remove" apos) [e] [] cpos) none pos.line X.env=pure false:=by rfl):QS X E (.Expr (.Call (.Attribute (.Name y npos) "remove" apos) [e] [] cpos) pos) (Qz7 i we):=⟨QtQ (Qgc (Qmx PySem.F.plainAttrs_list PySem.F.slot_list_remove PySem.F.type_list_remove Qm9 (pv i hN hv hd hcd) (pa_c he.h pa_nil hst) hbase hfew hline (Yq hst) rfl) hsw)⟩
end
end Dl
namespace Rk
open L2 _root_.Rd Dl Rt
def QdM(f:Nat->Nat->Bool)(o:List Nat)(c:Nat):List Bool:=o.map λr=>f r c
def QhW:List Bool->Int
 |[]=>0
 |b::bs=>(if b=true then(2:Int)^bs.length else 0)+QhW bs
theorem Qpd(n:Nat):(0:Int)<2^n:=Int.pow_pos (by decide)
theorem Qi1:∀bs,0<=QhW bs/\QhW bs<2^bs.length
 |[]=>⟨QoD _,by decide⟩
 |b::bs=>by
  have h:=Qi1 bs;have p:=Qpd bs.length;have e:(2:Int)^(b::bs).length=2*2^bs.length:=by rw[QC,Int.pow_succ,Int.mul_comm]
  rw[e];show 0<=(if b=true then(2:Int)^bs.length else 0)+QhW bs/\(if b=true then(2:Int)^bs.length else 0)+QhW bs<2*2^bs.length;split<;>omega
theorem QgB:∀{as bs:List Bool},as.length=bs.length->QhW as=QhW bs->as=bs
 |[],[],_,_=>rfl
 |[],_::_,h,_=>by simp at h
 |_::_,[],h,_=>by simp at h
 |a::as,b::bs,h,e=>by
  have hl:as.length=bs.length:=by simpa using h
  have e:(if a=true then(2:Int)^as.length else 0)+QhW as=(if b=true then(2:Int)^bs.length else 0)+QhW bs:=e;have ha:=Qi1 as;have hb:=Qi1 bs;rw[hl] at e ha;cases a<;>cases b<;>simp only[ZK,if_false,if_true] at e
  ·rw[QgB hl (by omega)]
  ·omega
  ·omega
  ·rw[QgB hl (by omega)]
theorem Qvm{as bs:List Bool}(h:as.length=bs.length):decide (QhW as=QhW bs)=decide (as=bs):=decide_eq_decide.mpr ⟨QgB h,λe=>by rw[e]⟩
theorem QoO{α:Type}{F:α->Int}{l m:List α}(p:l.Perm m):(l.map F).sum=(m.map F).sum:=by
 induction p with
 |nil=>rfl
 |cons x _ ih=>rw[Js,Js,QdW,QdW,ih]
 |swap x y l=>simp only[Js,QdW];omega
 |trans _ _ h1 h2=>exact h1.trans h2
def mkS(o:List Nat)(N:Nat)(l:List (Int×Int))(c:Nat):Int:=(l.map λp=>if p.2=(c:Int) then(2:Int)^(N - 1 - o.idxOf p.1.toNat) else 0).sum
theorem QiF(o:List Nat)(N:Nat)(l m:List (Int×Int))(c:Nat):mkS o N (l++m) c=mkS o N l c+mkS o N m c:=by
 unfold mkS;rw[Q3,Qvx]
theorem Qnd(o:List Nat)(N r:Nat)(f:Nat->Nat->Bool)(c:Nat):∀w,mkS o N (Qf5 r w f) c=if c<w/\f r c=true then(2:Int)^(N - 1 - o.idxOf r) else 0
 |0=>by rw[if_neg (by omega)];rfl
 |w+1=>by
  rw[Qmb,QiF,Qnd o N r f c w];by_cases z:f r w=true
  ·rw[if_pos z];show _+((if((w:Nat):Int)=(c:Int) then(2:Int)^(N - 1 - o.idxOf ((r:Int)).toNat) else 0)+0)=_;rw[Qq];by_cases y:w=c
   ·subst y;rw[if_neg (by omega),if_pos rfl,if_pos ⟨by omega,z⟩];omega
   ·rw[if_neg (show ¬((w:Nat):Int)=(c:Int) by omega)];by_cases x:c<w/\f r c=true
    ·rw[if_pos x,if_pos ⟨by omega,x.2⟩];omega
    ·rw[if_neg x,if_neg λq=>x ⟨by omega,q.2⟩];omega
  ·rw[if_neg z];show _+0=_;by_cases x:c<w/\f r c=true
   ·rw[if_pos x,if_pos ⟨by omega,x.2⟩];omega
   ·rw[if_neg x,if_neg λq=>?_]
    ·omega
    ·by_cases y:c=w
     ·subst y;exact z q.2
     ·exact x ⟨by omega,q.2⟩
theorem Qne(o:List Nat)(N w:Nat)(f:Nat->Nat->Bool){c:Nat}(hc:c<w):∀h,mkS o N (cellsF h w f) c=((Qf h).map λr=>if f r c=true then(2:Int)^(N - 1 - o.idxOf r) else 0).sum
 |0=>rfl
 |h+1=>by
  rw[Y5,QiF,Qne o N w f hc h,Qnd,JL,Q3,Qvx]
  congr 1
  show _=(if f h c=true then(2:Int)^(N - 1 - o.idxOf h) else 0)+0;by_cases z:f h c=true
  ·rw[if_pos ⟨hc,z⟩,if_pos z];omega
  ·rw[if_neg λq=>z q.2,if_neg z];rfl
theorem Qn9(g:Nat->Bool):∀{o:List Nat},o.Nodup->QhW (o.map g)=(o.map λr=>if g r=true then(2:Int)^(o.length - 1 - o.idxOf r) else 0).sum
 |[],_=>rfl
 |x::xs,h=>by
  have hx:=(Jd.mp h).1;have ih:=Qn9 g (Jd.mp h).2;show(if g x=true then(2:Int)^(xs.map g).length else 0)+QhW (xs.map g)=_;rw[ih,Js,QdW,Qa,List.idxOf_cons_self,QC]
  congr 1
  congr 1
  refine Q9 λr hr=>?_
  have ne:¬(x == r)=true:=λe=>hx (by rw[eq_of_beq e];exact hr)
  have hi:xs.idxOf r<xs.length:=YN hr;rw[List.idxOf_cons,show(x == r)=false by simpa using ne,cond_false,show xs.length+1 - 1 - (xs.idxOf r+1)=xs.length - 1 - xs.idxOf r by omega]
theorem QpQ{h w:Nat}{f:Nat->Nat->Bool}{o:List Nat}{c:Nat}(ho:o.Perm (Qf h))(hc:c<w):mkS o h (cellsF h w f) c=QhW (QdM f o c):=by
 have nd:o.Nodup:=ho.nodup_iff.mpr YC;have ln:o.length=h:=by rw[ho.length_eq,Qr]
 unfold QdM;rw[Qne o h w f hc,Qn9 (λr=>f r c) nd,ln];exact(QoO ho).symm
def Qeb(mt:Nat->Nat->Bool)(w j:Nat)(t:List Nat):List Nat:=(Qf w).filter λc=>mt j c && !decide (c∈t)
def putN(mt:Nat->Nat->Bool)(w:Nat):Nat->Option (List Nat)
 |0=>some []
 |j+1=>(putN mt w j).bind λt=>(Qeb mt w j t).head?.map λc=>t++[c]
def lawN(mt:Nat->Nat->Bool)(w:Nat):Nat->List Nat
 |0=>[]
 |j+1=>match Qeb mt w j (lawN mt w j) with
  |[]=>lawN mt w j
  |c::_=>lawN mt w j++[c]
theorem Qhd{mt mt':Nat->Nat->Bool}{w:Nat}:∀{n:Nat},(∀j c,j<n->c<w->mt j c=mt' j c)->putN mt w n=putN mt' w n
 |0,_=>rfl
 |n+1,h=>by
  have e:∀t,Qeb mt w n t=Qeb mt' w n t:=λt=>QbX λc hc=>by rw[h n c (by omega) (Qz.mp hc)]
  show(putN mt w n).bind _=(putN mt' w n).bind _;rw[Qhd λj c hj hc=>h j c (by omega) hc]
  congr 1
  funext t
  rw[e]
theorem QiJ(mt:Nat->Nat->Bool)(w:Nat):∀j,(lawN mt w j).length<=j
 |0=>Qg _
 |j+1=>by
  have:=QiJ mt w j;show(match Qeb mt w j (lawN mt w j) with | []=>lawN mt w j | c::_=>lawN mt w j++[c]).length<=_;split
  ·omega
  ·rw[Qw];show _+1<=_;omega
theorem Qeo(mt:Nat->Nat->Bool)(w:Nat):∀j,(∀t,putN mt w j=some t->lawN mt w j=t/\t.length=j)/\(putN mt w j=none->(lawN mt w j).length<j)
 |0=>⟨λt h=>(by cases h;exact⟨rfl,rfl⟩),λh=>(nomatch h)⟩
 |j+1=>by
  have ih:=Qeo mt w j;have ll:=QiJ mt w j;have e1:putN mt w (j+1)=(putN mt w j).bind λt=>(Qeb mt w j t).head?.map λc=>t++[c]:=rfl
  have e2:lawN mt w (j+1)=match Qeb mt w j (lawN mt w j) with | []=>lawN mt w j | c::_=>lawN mt w j++[c]:=rfl
  cases p:putN mt w j with
  |none=>
   have:=ih.2 p;rw[e1,e2,p];refine⟨λt h=>(nomatch h),λ_=>?_⟩;split
   ·omega
   ·rw[Qw];show _+1<_;omega
  |some t0=>
   obtain⟨i1,i2⟩:=ih.1 t0 p;rw[e1,e2,p,i1];show(∀t,(Qeb mt w j t0).head?.map (λc=>t0++[c])=some t->_)/\((Qeb mt w j t0).head?.map (λc=>t0++[c])=none->_);cases q:Qeb mt w j t0 with
   |nil=>exact⟨λt h=>(nomatch h),λ_=>by show t0.length<_;omega⟩
   |cons c r=>exact⟨λt h=>(by cases h;exact⟨rfl,by rw[Qw,i2];rfl⟩),λh=>(nomatch h)⟩
theorem QnH{mt:Nat->Nat->Bool}{w j:Nat}{t:List Nat}{c:Nat}(h:c∈Qeb mt w j t):c<w/\c∉t/\mt j c=true:=by
 have h:=JB.mp h;have h2:=JZ.mp h.2;exact⟨Qz.mp h.1,by simpa using h2.2,h2.1⟩
theorem Qsk(mt:Nat->Nat->Bool)(w:Nat):∀j,(lawN mt w j).Nodup/\∀x∈lawN mt w j,x<w
 |0=>⟨QaO,(λ_ h=>nomatch h)⟩
 |j+1=>by
  have ih:=Qsk mt w j;have e2:lawN mt w (j+1)=match Qeb mt w j (lawN mt w j) with | []=>lawN mt w j | c::_=>lawN mt w j++[c]:=rfl
  rw[e2];split
  ·exact ih
  ·rename_i c r q
   have hc:=QnH (show c∈Qeb mt w j (lawN mt w j) by rw[q];exact .head _);refine⟨QbW.mpr ⟨ih.1,by simp,λa ha b hb e=>?_⟩,λx hx=>?_⟩
   ·rw[Q5.mp hb] at e;exact hc.2.1 (by rw[<- e];exact ha)
   ·rcases JM.mp hx with z | z
    ·exact ih.2 x z
    ·rw[Q5.mp z];exact hc.1
theorem Que{w:Nat}{t:List Nat}(nd:t.Nodup)(hb:∀x∈t,x<w):(oth w t).length+t.length=w:=by
 have p:(oth w t++t).Perm (Qf w):=by
  refine(Yb ?_ YC).mpr λx=>?_
  ·refine QbW.mpr ⟨YC.filter _,nd,λa ha b hb e=>?_⟩;have:=(JB.mp ha).2;rw[e] at this;simp at this;exact this hb
  ·rw[JM];unfold oth;rw[JB];constructor
   ·rintro(z | z)
    ·exact z.1
    ·exact Qz.mpr (hb x z)
   ·intro z;by_cases y:x∈t
    ·exact .inr y
    ·exact .inl ⟨z,by simpa using y⟩
 have:=p.length_eq;rw[Qw,Qr] at this;exact this
theorem QuM(mt:Nat->Nat->Bool)(w:Nat):(oth w (lawN mt w w)=[]↔(putN mt w w).isSome):=by
 have h:=Qsk mt w w;have c:=Que h.1 h.2;have pl:=Qeo mt w w;cases p:putN mt w w with
 |none=>
  have:=pl.2 p;refine⟨λe=>?_,λe=>by cases e⟩;rw[e] at c;simp at c;omega
 |some t=>
  obtain⟨h1,h2⟩:=pl.1 t p;refine⟨λ_=>rfl,λ_=>?_⟩;rw[h1] at c ⊢;exact List.eq_nil_of_length_eq_zero (by omega)
theorem QuV(mt:Nat->Nat->Bool)(w j:Nat)(t:List Nat):(oth w t).filter (λc=>mt j c)=Qeb mt w j t:=by
 unfold oth Qeb;rw[QoB]
theorem QhB{α:Type}[DecidableEq α]:∀{l:List α}{j:Nat}{c:α},l.Nodup->l[j]? = some c->l.eraseIdx j=l.filter λx => !decide (x=c)
 |[],_,_,_,h=>by simp at h
 |x::xs,0,c,nd,h=>by
  simp at h;subst h;have hx:=(Jd.mp nd).1;rw[Qaq (by simp)];show xs=_
  symm
  rw[Qbm];intro y hy;have:y≠x:=λe=>hx (by rw[<- e];exact hy)
  simpa using this
 |x::xs,j+1,c,nd,h=>by
  have hx:=(Jd.mp nd).1;have h':xs[j]? = some c:=by simpa using h
  have ne:x≠c:=λe=>hx (by rw[e];exact QJ h')
  rw[Qap (by simpa using ne)];show x::xs.eraseIdx j=_;rw[QhB (Jd.mp nd).2 h']
theorem Qub{w:Nat}{t:List Nat}{c:Nat}:oth w (t++[c])=(oth w t).filter λx => !decide (x=c):=by
 unfold oth;rw[QoB];refine QbX λx _=>?_
 rw[Ze];simp[not_or,and_comm]
def mtF(f f2:Nat->Nat->Bool)(h:Nat)(o:List Nat)(j c:Nat):Bool:=decide (QdM f o c=QdM f2 (Qf h) j)
def fwN(h w:Nat)(f f2:Nat->Nat->Bool):Option (List Nat×List Nat):=(ordsN h h).findSome? λo=>(putN (mtF f f2 h o) w w).map λt=>(o,t)
def fwV:Option (List Nat×List Nat)->PyData
 |some p=>.tuple [tNn p.1,tNn p.2]
 |none=>.none
def fwD(h w:Nat)(f:Nat->Nat->Bool)(h2 w2:Nat)(f2:Nat->Nat->Bool):Option (List Nat×List Nat):=if h=h2/\w=w2 then fwN h w f f2 else none
def Qkt(a b:List Int)(n:Nat):Option Nat:=(Qf n).find? λk => !decide (a.getD k 0=b.getD k 0)
def Qyt(a b:List Int):Option Nat->PyData
 |some k=>.tuple [.str "counts",.int k,.int (a.getD k 0),.int (b.getD k 0)]
 |none=>.tuple [.str "none"]
def cIs(f:Nat->Nat->Bool)(h w:Nat):List Int:=(Qf (min h w+1)).map λk=>Wc (cellsF h w f) h h 0 k
def alV(h w:Nat)(f:Nat->Nat->Bool)(h2 w2:Nat)(f2:Nat->Nat->Bool):PyData:=match fwD h w f h2 w2 f2 with
 |some p=>.tuple [.str "alike",.tuple [tNn p.1,tNn p.2]]
 |none=>match fwD w h (tF f) h2 w2 f2 with
  |some p=>.tuple [.str "turned",.tuple [tNn p.1,tNn p.2]]
  |none=>Qyt (cIs f h w) (cIs f2 h2 w2) (Qkt (cIs f h w) (cIs f2 h2 w2) 7)
theorem Qgn{a:List Int}{k:Nat}(h:a.length<=k):a.getD k 0=0:=by rw[Qi,QN h];rfl
theorem QhE:∀(as bs:List Bool),Jf (.tuple (as.map Ji)) (.tuple (bs.map Ji))=decide (as=bs)
 |[],[]=>rfl
 |[],_::_=>rfl
 |_::_,[]=>rfl
 |a::as,b::bs=>by
  show(Jf (.bool a) (.bool b)&&Jf (.tuple (as.map Ji)) (.tuple (bs.map Ji)))=_;rw[QhE as bs,show Jf (.bool a) (.bool b)=decide (a=b) by cases a<;>cases b<;>rfl,Ze];simp
theorem QnA{h w:Nat}{f f2:Nat->Nat->Bool}(h0:∀o∈ordsN h h,putN (mtF f f2 h o) w w=none):fwN h w f f2=none:=by
 unfold fwN;rw[QgX];intro o ho;rw[h0 o ho];rfl
theorem Qnz{h w:Nat}{f f2:Nat->Nat->Bool}{i:Nat}{o t:List Nat}(ho:(ordsN h h)[i]? = some o)(hno:∀p∈(ordsN h h).take i,putN (mtF f f2 h p) w w=none)(hp:putN (mtF f f2 h o) w w=some t):fwN h w f f2=some (o,t):=by
 obtain⟨hl,e⟩:=QU.mp ho;have sp:ordsN h h=(ordsN h h).take i++o::(ordsN h h).drop (i+1):=by rw[<- e,<- Qh7 hl,Yi]
 unfold fwN;rw[sp,List.findSome?_append,QgX.mpr λp hp=>by rw[hno p hp];rfl,List.findSome?_cons,hp];rfl
def optN:Option (List Nat)->PyData
 |some o=>tNn o
 |none=>.none
end Rk
namespace Dl
open L2 _root_.Rd Rk
section
variable{X:Cx}{E:XK}
end
end Dl
namespace L2
def Qop(X:Cx)(M:List Str)(scope:YA)(cl:List (Str×Addr))(ex:List Addr)(s3:Shared)(H3:Hp)(C:Addr):Cx where
 prog:=X.prog
 w:=X.w
 K:=X.K
 mg:=X.mg
 base:=X.base
 A:=X.A
 N:=M
 s₀:=s3
 H₀:=H3
 env:=compEnvC scope cl C X.env
 outer:=X.stack
 stack:=X.stack
 ex:=ex
 fn:=λx=>scope.names.lookup x == some .cell
 calm:=X.calm
 pn:=[]
 xe:=λ_ _=>False
def Qkb(N:List Str)(sc:YA)(M:List Str)(scope:YA)(cap:List (Option Nat)):Bool:=
 cap.length == M.length&&(M.zip cap).all (λ(x,o)=>match o with
  |none=>true
  |some j=>N[j]? == some x&&(scope.names.lookup x == some .free&&(sc.names.lookup x == some .cell||sc.names.lookup x == some .free))) &&
 (scope.kind == .function&&scope.names.all λy=>(y.2 != .cell||scope.names.lookup y.1 == some .cell)&&((y.2 != .free||(sc.names.lookup y.1 == some .cell||sc.names.lookup y.1 == some .free))&&(y.2 != .local||scope.names.lookup y.1 == some .local)))
structure CapOkC (N:List Str) (sc:YA) (M:List Str) (scope:YA) (cap:List (Option Nat)):Prop where
 len:cap.length=M.length
 own:∀(i j:Nat)(x:Str),M[i]? = some x->cap[i]? = some (some j)->N[j]? = some x/\scope.names.lookup x=some .free/\(sc.names.lookup x=some .cell∨sc.names.lookup x=some .free)
 kind:scope.kind=.function
 cell:∀y∈scope.names,y.2=.cell->scope.names.lookup y.1=some .cell
 free:∀y∈scope.names,y.2=.free->sc.names.lookup y.1=some .cell∨sc.names.lookup y.1=some .free
 loc:∀y∈scope.names,y.2=.local->scope.names.lookup y.1=some .local
theorem CapOkC.of{N:List Str}{sc:YA}{M:List Str}{scope:YA}{cap:List (Option Nat)}(h:Qkb N sc M scope cap=true):CapOkC N sc M scope cap:=by
 unfold Qkb at h;simp only[JK,Zi,beq_iff_eq] at h;obtain⟨⟨h1,h2⟩,h3,h4⟩:=h;refine⟨h1,λi j x e1 e2=>?_,h3,λy hy z=>?_,λy hy z=>?_,λy hy z=>?_⟩
 ·have hm:(x,some j)∈M.zip cap:=by
   have:(M.zip cap)[i]? = some (x,some j):=by rw[Qh5];exact⟨e1,e2⟩
   exact QJ this
  have:=h2 _ hm;simp only[JK,beq_iff_eq,QgO] at this;exact this
 ·have:=(h4 y hy).1
  simpa [z] using this
 ·have:=(h4 y hy).2.1
  simpa [z] using this
 ·have:=(h4 y hy).2.2
  simpa [z] using this
theorem QbH:∀(names:List (Str×Qae))(n:Nat)(a b:List (Str×Addr)),cellsFrom n names (a++b)=cellsFrom n names a++b
 |[],_,_,_=>rfl
 |(x,k)::r,n,a,b=>by
  unfold cellsFrom;split
  ·exact QbH r (n+1) ((x,n)::a) b
  ·exact QbH r n a b
theorem QbG:∀(names:List (Str×Qae))(n:Nat)(a:List (Str×Addr))(x:Str)(c:Addr),(x,c)∈cellsFrom n names a->(x,ZM)∈names∨(x,c)∈a
 |[],_,_,_,_,h=>.inr h
 |(y,k)::r,n,a,x,c,h=>by
  unfold cellsFrom at h;split at h
  ·rename_i hk
   have hk:k=.cell:=by simpa using hk
   rcases QbG r (n+1) ((y,n)::a) x c h with z | z
   ·exact .inl (QX _ z)
   ·rcases Qu.mp z with z | z
    ·cases z;subst hk;exact .inl JC
    ·exact .inr z
  ·rcases QbG r n a x c h with z | z
   ·exact .inl (QX _ z)
   ·exact .inr z
theorem QaQ:∀(names:List (Str×Qae))(n:Nat)(a:List (Str×Addr))(x:Str),((x,ZM)∈names∨(a.lookup x).isSome=true)->((cellsFrom n names a).lookup x).isSome=true
 |[],_,a,x,h=>by
  rcases h with z | z
  ·cases z
  ·exact z
 |(y,k)::r,n,a,x,h=>by
  unfold cellsFrom;split
  ·rename_i hk
   refine QaQ r (n+1) ((y,n)::a) x ?_
   by_cases e:x=y
   ·right;rw[e,Jk,beq_self_eq_true];rfl
   ·rcases h with z | z
    ·rcases Qu.mp z with z | z
     ·cases z;exact absurd rfl e
     ·exact .inl z
    ·right
     rw[Jk,show(x == y)=false by simpa using e];exact z
  ·rename_i hk
   refine QaQ r n a x ?_
   rcases h with z | z
   ·rcases Qu.mp z with z | z
    ·cases z;exact absurd (by simp) hk
    ·exact .inl z
   ·exact .inr z
theorem QaT{a b:List (Str×Addr)}{x:Str}{c:Addr}(h:(a++b).lookup x=some c):a.lookup x=some c∨(a.lookup x=none/\b.lookup x=some c):=by
 rw[QdY] at h;cases e:a.lookup x with
 |none=>rw[e] at h;exact .inr ⟨rfl,h⟩
 |some d=>rw[e] at h;exact .inl h
def clC(env:Env)(scope:YA)(C:Addr):List (Str×Addr):=cellsFrom (C+1) scope.names []++QbV env scope.names []
theorem QfN{M:QvN}{A:Jb}{E:Value->Shared->Prop}{s:Shared}{scope:YA}{globals:Addr}{cl:List (Str×Addr)}{qual:Str}{env:Env}{Q:Env->Shared->Prop}
  (hQ:∀h',h'=pushCells (s.heap.push { cls:=.type "dict",data:=.dict #[] }) scope.names->Q (newEnv scope s.heap.objs.size globals (cellsFrom (s.heap.objs.size+1) scope.names []++cl) qual none .none (some env) builtinsNs) { s with heap:=h' }) :
  wpAny M A (newFunctionEnv scope globals cl [] qual none .none (some env)) Q E s:=by
 simp only[newFunctionEnv,Qlx,if_true];refine wpAny_bind (wpAny_alloc ?_);refine wpAny_bind (wpAny_layCells _ (λname kind cells=>by cases hkc:kind == ZM<;>simp[hkc]) _ _ _ _ ?_);rw[show({ s with heap:=s.heap.push { cls:=.type "dict",data:=.dict #[] } }:Shared).heap.objs.size=s.heap.objs.size+1 from JG ..];have e:=QbH scope.names (s.heap.objs.size+1) [] cl;rw[QgH] at e;rw[e];refine wpAny_bind ?_
 rw[Qh6];exact Qd (Qd (hQ _ rfl))
section
variable{X:Cx}{pins:List (Addr×Obj)}{σ:St}{H H3:Hp}{s3:Shared}{M:List Str}{scope:YA}{cap:List (Option Nat)}{fp:List Addr}{h4:Heap}{t4:Nat}
theorem Cx.Ok.cellsC(ok:X.Ok){N:List Str}(c:CapOkC N X.env.scope M scope cap):∀y∈scope.names,y.2=.free->∃d,X.env.cells.lookup y.1=some d:=λy hy z=>ok.has y.1 (c.free y hy z)
theorem Qld(I:Inv X pins σ H3 s3)(c:CapOkC X.N X.env.scope M scope cap)(hf:∀b∈fp,FpOk X pins H3 b)(hb:∀b∈fp,b<s3.heap.objs.size)
  (hn:h4.Ns s3.heap.objs.size λ_=>none)(hk:∀b o,s3.heap.get? b=some o->h4.get? b=some o)(hce:CellsOk h4 (s3.heap.objs.size+1) (cellsFrom (s3.heap.objs.size+1) scope.names [])) :
  Inv (Qop X M scope (clC X.env scope s3.heap.objs.size) fp s3 H3 s3.heap.objs.size) [] (Qdh cap σ) H3 { s3 with heap:=h4,toks:=t4 }:=by
 obtain⟨c1,c2,c3⟩:=Qgu scope.names [] (I.ok.cellsC c) (λx d q=>by cases q);have old:∀x d,(QbV X.env scope.names []).lookup x=some d->d<s3.heap.objs.size:=λx d e=>by
  obtain⟨v,o,ho,_⟩:=I.cell x d (c1 x d e);exact Qk ho
 have new:∀x d,(cellsFrom (s3.heap.objs.size+1) scope.names []).lookup x=some d->h4.IsCell d none/\s3.heap.objs.size+1<=d:=λx d e=>hce.empty x d (mem_of_lookup e)
 have newn:∀x,scope.names.lookup x=some .free->(cellsFrom (s3.heap.objs.size+1) scope.names []).lookup x=none:=λx e=>by
  cases q:(cellsFrom (s3.heap.objs.size+1) scope.names []).lookup x with
  |none=>rfl
  |some d=>
   rcases QbG _ _ _ _ _ (mem_of_lookup q) with z | z
   ·have:=c.cell _ z rfl;rw[e] at this;cases this
   ·cases z
 refine⟨⟨I.ok.mod,c.kind,I.ok.glob,I.ok.blt,Qg _,λx y d e1 e2=>?_,λx hx=>?_,(λx d z e=>?_),I.ok.hd,I.ok.frames,.inl rfl,λb hb'=>?_,I.bs,
  QY I.ok.bsz I.sz,λb o e z=>?_,λb hb' z=>?_,I.stack,I.stkFree⟩,rfl,I.bare,Un.kept hk,⟨_,hn,λi x v e1 e2 e3=>?_⟩,λx d e=>?_,I.hok.fresh (Qg _),λx d e=>?_,λp hp=>(nomatch hp),I.hok.kept hk,?_⟩
 ·rcases QaT e1 with z1 | ⟨_,z1⟩<;>rcases QaT e2 with z2 | ⟨_,z2⟩
  ·exact name_of_addr hce.apart (mem_of_lookup z1) (mem_of_lookup z2)
  ·exact absurd (QK (old y d z2) (QaN (new x d z1).2)) (Zu _)
  ·exact absurd (QK (old x d z1) (QaN (new y d z2).2)) (Zu _)
  ·exact I.ok.inj x y d (c1 x d z1) (c1 y d z2)
 ·have fin:((cellsFrom (s3.heap.objs.size+1) scope.names []).lookup x).isSome=true∨((QbV X.env scope.names []).lookup x).isSome=true->∃d,(clC X.env scope s3.heap.objs.size).lookup x=some d:=λz=>by
   unfold clC;rw[QdY];cases q:(cellsFrom (s3.heap.objs.size+1) scope.names []).lookup x with
   |some d=>exact⟨d,rfl⟩
   |none=>
    rw[q] at z;rcases z with z | z
    ·cases z
    ·obtain⟨d,hd⟩:=QgU.mp z;exact⟨d,hd⟩
  have fr:scope.names.lookup x=some .free->∃d,(clC X.env scope s3.heap.objs.size).lookup x=some d:=λz=>fin (.inr (by obtain⟨d,hd⟩:=c3 x (Y9 z);rw[hd];rfl))
  have hx':(relabel scope X.env).names.lookup x=some .cell∨(relabel scope X.env).names.lookup x=some .free:=hx;rcases hx' with q | q
  ·rcases YU q with z | ⟨_,z⟩
   ·exact fin (.inl (QaQ _ _ _ _ (.inl (Y9 z))))
   ·exact fr z
  ·rcases YU q with z | ⟨z,_⟩
   ·exact fr z
   ·cases z
 ·have z:scope.names.lookup x=some .cell:=by simpa using (show(scope.names.lookup x == some .cell)=true from z)
  have hs:=QaQ scope.names (s3.heap.objs.size+1) [] x (.inl (Y9 z));rcases QaT e with q | ⟨q,_⟩
  ·exact QaN (new x d q).2
  ·rw[q] at hs;cases hs
 ·obtain⟨f0,f1,f2,f3,f4,f5⟩:=hf b hb';refine⟨Qv (hb b hb'),λx d e=>?_⟩;rcases QaT e with q | ⟨_,q⟩
  ·exact YQ (QK (hb b hb') (QaN (new x d q).2))
  ·exact f4 x d (c1 x d q)
 ·obtain⟨f0,f1,f2,f3,f4,f5⟩:=hf b z;rcases f3 with q | q
  ·exact I.ok.noex b o e q
  ·exact absurd (QK (Qk e) (QY I.ok.bsz q)) (Zu _)
 ·obtain⟨f0,f1,f2,f3,f4,f5⟩:=hf b hb';rcases Qu.mp (I.stkSub b z) with q | q
  ·exact f1 q
  ·exact f2 q
 ·have e2':(cap.map λo=>match o with | none=>none | some j=>(σ[j]?).getD none)[i]? = some (some v):=e2;rw[Qo] at e2';cases q:cap[i]? with
  |none=>rw[q] at e2';cases e2'
  |some o=>
   rw[q] at e2';cases o with
   |none=>cases e2'
   |some j=>
    have e4:(σ[j]?).getD none=some v:=Qx e2';have e5:σ[j]? = some (some v):=by
     cases r:σ[j]? with
     |none=>rw[r] at e4;cases e4
     |some o=>rw[r] at e4;exact congrArg some e4
    obtain⟨n1,n2,n3⟩:=c.own i j x e1 q;obtain⟨m,hm,hl⟩:=I.loc;obtain⟨u,ru,lk⟩:=hl j x v n1 e5 (n3.elim (λz=>.inr (.inl z)) λz=>.inr (.inr z));refine⟨u,ru,.inr ?_⟩;rcases lk with⟨k1,_⟩ | ⟨_,d,k2,k3⟩
    ·have k1':X.env.scope.names.lookup x=some .local:=k1;rcases n3 with z | z<;>(rw[z] at k1';cases k1')
    ·obtain⟨d',hd'⟩:=c3 x (Y9 n2);have ed:d'=d:=by
      have:=c1 x d' hd';rw[k2] at this;exact(Qx this).symm
     subst ed;refine⟨(relabel_free n2:(relabel scope X.env).names.lookup x=some .cell∨(relabel scope X.env).names.lookup x=some .free),d',?_,k3.keeps hk⟩;show(clC X.env scope s3.heap.objs.size).lookup x=some d';unfold clC;rw[QdY,newn x n2];exact hd'
 ·rcases QaT e with q | ⟨_,q⟩
  ·exact⟨none,(new x d q).1⟩
  ·obtain⟨v,q⟩:=I.cell x d (c1 x d q);exact⟨v,q.keeps hk⟩
 ·rcases QaT e with q | ⟨_,q⟩
  ·exact I.hok.fresh (QaN (new x d q).2)
  ·exact I.freeC x d (c1 x d q)
 ·show(cap.map _).length=M.length;rw[Qa];exact c.len
theorem Qrk{σ':St}{s':Shared}{h':Heap}(I:Inv X pins σ H3 s3)(hf:∀b∈fp,FpOk X pins H3 b)(J:Inv (Qop X M scope (clC X.env scope s3.heap.objs.size) fp s3 H3 s3.heap.objs.size) [] σ' H s')(hs:ZH s3.heap.objs.size s'.heap h') :
  Inv X pins σ H { s' with heap:=h' }:=by
 have u:Un (frs X.stack) fp H3 H s3.heap s'.heap:=J.base;have ne:∀b o,s3.heap.get? b=some o->b≠s3.heap.objs.size:=λb o e=>Qv (Qk e)
 have hC:H s3.heap.objs.size=none:=J.free;refine I.call' (ch:=fp) (s':={ s' with heap:=h' }) J.os ⟨λb o e n hb hx=>(hs.2 b (ne b o e)).trans (u.keep b o e n hb hx),λb o e n hb hx=>?_,u.free,λb o e hx=>?_,u.tups,u.frzs,u.tbls⟩ (λb o e=>?_) J.bare λb hb=>?_
 ·obtain⟨sl,q⟩:=u.slot b o e n hb hx;exact⟨sl,(hs.2 b (ne b o e)).trans q⟩
 ·obtain⟨o',q⟩:=u.there b o e hx;exact⟨o',(hs.2 b (ne b o e)).trans q⟩
 ·refine(J.hok b o e).stay (λc v hc q=>(hs.2 c ?_).trans q) (λ_ q=>q) λ_ _ q=>q
  rintro rfl;rcases hc with z | z
  ·rw[<- z,hC] at e;cases e
  ·rw[hC] at z;cases z
 ·obtain⟨f0,f1,f2,f3,f4,f5⟩:=hf b hb;exact⟨f3,f1,f4,f5⟩
end
theorem Qmv{X:Cx}{M:List Str}{cap:List (Option Nat)}{elt tg iter:Q0}{ifs:List Q0}{scope:YA}{pos:Pos}{wi:TI}{g:TG}{tc:TT}{te:TE}(hc:X.calm=true)(ok:Qkb X.N X.env.scope M scope cap=true)
  (hi:PI X tg iter wi)(hb:∀cl ex s3 H3 C,PG (Qop X M scope cl ex s3 H3 C) tg g/\PTs (Qop X M scope cl ex s3 H3 C) ifs tc/\PE (Qop X M scope cl ex s3 H3 C) elt te)
  (hs:∀x,foldedSetIterable iter X.env x=pure x:=by intro _;rfl):PE X (.ListComp elt [⟨tg,iter,ifs,0⟩] scope pos) (tComp cap wi g tc te):=by
 intro pins s σ H Q I h;have c:=CapOkC.of ok;rw[eval_ListComp];refine QaA (use:=none) rfl hs (Qgt (I.ok.cellsC c)) c.kind c.loc ?_
 refine thn (hi pins s σ H _ I h) λv s1 h1=>thn h1 λitv s2 h2=>?_
 obtain⟨it,fp,tn,J,H2,e,I2,T,st2,f2,hW⟩:=h2;subst e;refine Q4 (QfN (λh₁ hh₁=>?_));have I3:Inv X pins σ (upd H2 s2.heap.objs.size (.lst [])) { s2 with heap:=s2.heap.push { cls:=.type "list",data:=.seq ([]:List Value).toArray } }:=I2.lnew (t':=s2.toks) (ys:=[]) .nil (Q7 _);have lt2:∀b∈fp,b<s2.heap.objs.size:=λb hb=>by obtain⟨o,e,_⟩:=T.obj _ _ st2 b hb;exact Qk e
 have f3:∀b∈fp,FpOk X pins (upd H2 s2.heap.objs.size (.lst [])) b:=λb hb=>(f2 b hb).upd (Qv (lt2 b hb))
 generalize hs3:({ s2 with heap:=s2.heap.push { cls:=.type "list",data:=.seq ([]:List Value).toArray } }:Shared)=s3 at I3;have e3:s3.heap=s2.heap.push { cls:=.type "list",data:=.seq ([]:List Value).toArray }:=by rw[<- hs3]
 have z3:s3.heap.objs.size=s2.heap.objs.size+1:=by rw[e3,JG]
 have hh:h₁=pushCells (s3.heap.push { cls:=.type "dict",data:=.dict #[] }) scope.names:=by rw[e3];exact hh₁
 have hk:∀b o,s3.heap.get? b=some o->h₁.get? b=some o:=λb o e=>by rw[hh];exact pushCells_keeps _ _ b o (Qc _ e)
 have hn₁:h₁.Ns s3.heap.objs.size λ_=>none:=by rw[hh];exact(Heap.Ns.new s3.heap (.type "dict")).keeps (pushCells_keeps _ _)
 have hce:CellsOk h₁ (s3.heap.objs.size+1) (cellsFrom (s3.heap.objs.size+1) scope.names []):=by
  have:=cellsFrom_ok scope.names (s3.heap.push { cls:=.type "dict",data:=.dict #[] }) (s3.heap.objs.size+1) [] ⟨λ_ _ hm=>(nomatch hm),QgY⟩ (by rw[JG];exact Qg _);rw[JG] at this;rw[hh];exact this
 have B:=Qld (t4:=s3.toks) (fp:=fp) I3 c f3 (λb hb=>by rw[z3];exact Z0 (lt2 b hb)) hn₁ hk hce;have st4:tn 0 h₁:=T.keep _ _ _ st2 λb hb o e=>hk b o (by rw[e3];exact Qc _ e)
 have fp4:∀b∈fp,FpOk (Qop X M scope (clC X.env scope s3.heap.objs.size) fp s3 (upd H2 s2.heap.objs.size (.lst [])) s3.heap.objs.size) [] (upd H2 s2.heap.objs.size (.lst [])) b:=λb hb=>by
  refine⟨(f3 b hb).1,(B.ok.exf b hb).1,B.ok.exfs b hb,.inl hb,(B.ok.exf b hb).2,λp hp=>(nomatch hp)⟩
 obtain⟨hg,ht,he⟩:=hb (clC X.env scope s3.heap.objs.size) fp s3 (upd H2 s2.heap.objs.size (.lst [])) s3.heap.objs.size;have loop:codeAny (model X.prog X.w) X.A (.compLoop (.ListComp elt [⟨tg,iter,ifs,0⟩] scope pos) 0 (.ref it) (.ref s2.heap.objs.size) (compEnvC scope (clC X.env scope s3.heap.objs.size) s3.heap.objs.size X.env))
   (compPost (model X.prog X.w) X.A X.xe none (EP X pins σ Q) (.ref s2.heap.objs.size) s3.heap.objs.size) { s3 with heap:=h₁,toks:=s3.toks }:=by
  refine Qcd (Y:=Qop X M scope (clC X.env scope s3.heap.objs.size) fp s3 (upd H2 s2.heap.objs.size (.lst [])) s3.heap.objs.size) (gens:=[⟨tg,iter,ifs,0⟩]) (d:=0) hc T st4 fp4
   (λQ E s h=>QfR Q E s h) (λx u r=>QeJ rfl hg ht (λσ4=>Qee rfl he) x u r) B (hW _ (I2.hok.fresh (Qg _))) λs' H' I' q=>?_
  obtain⟨m,hn,_⟩:=I'.loc;exact⟨m,hn,λh' hs'=>⟨.ref s2.heap.objs.size,H',Qrk I3 f3 I' hs',rfl,q⟩⟩
 exact QaZ loop (T.self _ 0 _ _ _ st4 loop)
section
variable{X:Cx}{pins:List (Addr×Obj)}{σ:St}{H:Hp}
end
end L2
namespace Rk
open L2 _root_.Rd Dl
end Rk
namespace Dl
open L2
section
variable{X:Cx}{E:XK}
theorem Qtv(M:List Str)(cap:List (Option Nat)){elt tg iter:Q0}{ifs:List Q0}{scope:YA}{pos:Pos}{ix:List Nat}{wi:DI}{wg:DG}{wt:DT}{we:DE}(hi:QI .P X E tg iter wi)(hb:∀cl ex s3 H3 C,QG ix (Qop X M scope cl ex s3 H3 C) tg wg/\QTs (Qop X M scope cl ex s3 H3 C) E0 ifs wt/\QE .D (Qop X M scope cl ex s3 H3 C) E0 elt we)(hc:X.calm=true:=by rfl)(ok:Qkb X.N X.env.scope M scope cap=true:=by rfl)(hf:Qcz cap ix=true:=by rfl)(hs:∀x,foldedSetIterable iter X.env x=pure x:=by intro _;rfl):QE .F X E (.ListComp elt [⟨tg,iter,ifs,0⟩] scope pos) (dComp cap wi wg wt we):=
 ⟨PE.imp (Qmv hc ok hi.h (λcl ex s3 H3 C=>⟨(hb cl ex s3 H3 C).1.h,(hb cl ex s3 H3 C).2.1.h,(hb cl ex s3 H3 C).2.2.h⟩) hs) λσ H Q q=>QhL (E:=E) hf σ H _ q⟩
end
end Dl
namespace Zt
def f5(M x:Nat):Nat:=(x*5+1) % M
def it5(M:Nat):Nat->Nat->Nat
 |0,x=>x
 |n+1,x=>it5 M n (f5 M x)
theorem Qgl(M:Nat):∀(m n x:Nat),it5 M (m+n) x=it5 M n (it5 M m x)
 |0,n,x=>by rw[QbK];rfl
 |m+1,n,x=>by rw[Qlz];exact Qgl M m n (f5 M x)
def QxY(M:Nat):Nat->Nat->Nat->Nat
 |0,_,acc=>acc
 |n+1,x,acc=>QxY M n (f5 M x) (acc ||| 2^x)
theorem Qj8(M j:Nat):∀(n x acc:Nat),(QxY M n x acc).testBit j=true->acc.testBit j=true∨∃b,b<n/\it5 M b x=j
 |0,_,_,h=>.inl h
 |n+1,x,acc,h=>by
  rcases Qj8 M j n (f5 M x) (acc ||| 2^x) h with z | ⟨b,hb,e⟩
  ·rw[Nat.testBit_or,QgO,Nat.testBit_two_pow] at z;rcases z with z | z
   ·exact .inl z
   ·exact .inr ⟨0,by omega,by show x=j;simpa using z⟩
  ·exact .inr ⟨b+1,by omega,e⟩
def Qcc(M:Nat):Bool:=decide (QxY M M 0 0=2^M - 1)&&decide (it5 M M 0=0)
theorem Qso:Qcc 8=true:=by decide +kernel
theorem QuT:Qcc 32=true:=by decide +kernel
theorem Qp4:Qcc 128=true:=by decide +kernel
theorem Qp3:Qcc 512=true:=by decide +kernel
theorem Qnw:Qcc 2048=true:=by decide +kernel
theorem Qp2{M:Nat}(h:Qcc M=true){i j:Nat}(hi:i<M)(hj:j<M):∃n,n<M/\it5 M n i=j:=by
 have h:=JZ.mp h;have h1:QxY M M 0 0=2^M - 1:=of_decide_eq_true h.1;have h2:it5 M M 0=0:=of_decide_eq_true h.2;have all:∀k,k<M->∃b,b<M/\it5 M b 0=k:=λk hk=>by
  have:(QxY M M 0 0).testBit k=true:=by rw[h1,Nat.testBit_two_pow_sub_one];exact decide_eq_true hk
  rcases Qj8 M k M 0 0 this with z | z
  ·simp at z
  ·exact z
 obtain⟨a,ha,rfl⟩:=all i hi;obtain⟨b,hb,rfl⟩:=all j hj;by_cases z:a<=b
 ·exact⟨b - a,by omega,by rw[<- Qgl,show a+(b - a)=b by omega]⟩
 ·refine⟨M - a+b,by omega,?_⟩;rw[<- Qgl,show a+(M - a+b)=M+b by omega,Qgl,h2]
def QcM(mask:Nat):Nat->Nat×Nat->Nat×Nat
 |0,p=>p
 |n+1,p=>QcM mask n (Ys mask p.1 p.2)
theorem Qhv(mask:Nat):∀(m n:Nat)(p:Nat×Nat),QcM mask (m+n) p=QcM mask n (QcM mask m p)
 |0,n,p=>by rw[QbK];rfl
 |m+1,n,p=>by rw[Qlz];exact Qhv mask m n _
theorem Qht(mask:Nat):∀(n:Nat)(p:Nat×Nat),(QcM mask n p).2=p.2 / 32^n
 |0,p=>by show p.2=p.2 / 1;omega
 |n+1,p=>by
  show(QcM mask n (Ys mask p.1 p.2)).2=_;rw[Qht mask n];show p.2 / 32 / 32^n=_;rw[Nat.div_div_eq_div_mul,Nat.pow_succ,Nat.mul_comm]
theorem Qhu(mask:Nat):∀(n i:Nat),QcM mask n (i,0)=(it5 (mask+1) n i,0)
 |0,i=>rfl
 |n+1,i=>by
  show QcM mask n (Ys mask i 0)=_;have:Ys mask i 0=(f5 (mask+1) i,0):=by
   show((i*5+1+0 / 32) % (mask+1),0 / 32)=_;simp[f5]
  rw[this,Qhu mask n];rfl
theorem QjR{mask:Nat}:∀(n:Nat)(p:Nat×Nat),p.1<mask+1->(QcM mask n p).1<mask+1
 |0,_,h=>h
 |n+1,p,_=>QjR n _ (Qdd _ (QbL _))
theorem Qfo{mask:Nat}(hg:Qcc (mask+1)=true){i perturb j:Nat}(hi:i<mask+1)(hp:perturb<2^64)(hj:j<mask+1):∃n,n<mask+14/\(QcM mask n (i,perturb)).1=j:=by
 have h13:=Qht mask 13 (i,perturb);have:perturb / 32^13=0:=Nat.div_eq_of_lt (QK hp (by decide));rw[show(i,perturb).2=perturb from rfl,this] at h13;have hl:=QjR 13 (i,perturb) hi;obtain⟨n,hn,e⟩:=Qp2 hg hl hj;refine⟨13+n,by omega,?_⟩;rw[Qhv,show QcM mask 13 (i,perturb)=((QcM mask 13 (i,perturb)).1,0) from QcW rfl h13,Qhu];exact e
def stps(t:SetTable):Nat->Za->Za
 |0,p=>p
 |n+1,p=>stps t n (t.advance p)
theorem Y1(t:SetTable):∀(m n:Nat)(p:Za),stps t (m+n) p=stps t n (stps t m p)
 |0,n,p=>by rw[QbK];rfl
 |m+1,n,p=>by rw[Qlz];exact Y1 t m n _
def QoZ(t:SetTable)(i perturb:Nat)(d:Option Nat):Za:={ j:=i,more:=Jm t.mask i - i,i:=i,perturb:=perturb,dummy:=d }
theorem Qg5(t:SetTable):∀(m j i perturb:Nat)(d:Option Nat),stps t m { j:=j,more:=m,i:=i,perturb:=perturb,dummy:=d }={ j:=j+m,more:=0,i:=i,perturb:=perturb,dummy:=d }
 |0,_,_,_,_=>rfl
 |m+1,j,i,perturb,d=>by
  show stps t m (t.advance _)=_;have:t.advance { j:=j,more:=m+1,i:=i,perturb:=perturb,dummy:=d }={ j:=j+1,more:=m,i:=i,perturb:=perturb,dummy:=d }:=by
   unfold Y3;rw[if_pos (by show m+1 > 0;omega)];rfl
  rw[this,Qg5 t m,show j+1+m=j+(m+1) by omega]
theorem Qwh(mask i:Nat):Jm mask i - i<=9:=by unfold Jm;split<;>omega
theorem QfU(t:SetTable)(i perturb:Nat)(d:Option Nat):stps t (Jm t.mask i - i+1) (QoZ t i perturb d)=QoZ t (Ys t.mask i perturb).1 (Ys t.mask i perturb).2 d:=by
 rw[Y1];unfold QoZ;rw[Qg5];simp only[stps];unfold Y3;rw[if_neg (by show ¬(0:Nat) > 0;omega)]
theorem Qe6(t:SetTable)(d:Option Nat):∀(n i perturb:Nat),∃m,m<=10*n/\stps t m (QoZ t i perturb d)=QoZ t (QcM t.mask n (i,perturb)).1 (QcM t.mask n (i,perturb)).2 d
 |0,i,perturb=>⟨0,by omega,rfl⟩
 |n+1,i,perturb=>by
  obtain⟨m,hm,e⟩:=Qe6 t d n (Ys t.mask i perturb).1 (Ys t.mask i perturb).2;have:=Qwh t.mask i;refine⟨Jm t.mask i - i+1+m,by omega,?_⟩;rw[Y1,QfU,e];rfl
theorem QhR(h:Int):Jh h<2^64:=by
 unfold Jh;have:=QrD h (show(0:Int)<2^64 by decide);have:=QvQ h (show(2^64:Int)≠0 by decide);omega
theorem QkB(t:SetTable)(hg:Qcc (t.mask+1)=true)(h:Int){j:Nat}(hj:j<t.mask+1):∃m,m<10*Jr t.mask/\(stps t m (t.probeStart h)).j=j:=by
 obtain⟨n,hn,e⟩:=Qfo (mask:=t.mask) hg (i:=Jh h % (t.mask+1)) (Qdd _ (QbL _)) (QhR h) hj;obtain⟨m,hm,e2⟩:=Qe6 t none n (Jh h % (t.mask+1)) (Jh h);refine⟨m,by unfold Jr;omega,?_⟩;have:t.probeStart h=QoZ t (Jh h % (t.mask+1)) (Jh h) none:=rfl;rw[this,e2];exact e
theorem Qjm:∀{P Q:List Nat},P.Nodup->(∀p∈P,p∈Q)->P.length<=Q.length
 |[],_,_,_=>Q7 _
 |p::P,Q,nd,h=>by
  have nd:=Jd.mp nd;have hp:=h p (.head _);have:=Qjm (P:=P) (Q:=Q.erase p) nd.2 λx hx=>(QlD (show x≠p from λe=>nd.1 (e ▸ hx))).mpr (h x (.tail _ hx))
  rw[Qih hp] at this;have:=Qkn hp;rw[QC];omega
theorem Qrl{xs:Array Nat}{j:Nat}(pw:xs.toList.Pairwise (· < ·)):∀(fuel lo hi:Nat),hi - lo<=fuel->lo<=hi->hi<=xs.size->(∀k (hk:k<xs.size),k<lo->xs[k]<j)->(∀k (hk:k<xs.size),hi<=k->j<=xs[k]) ->
  Qa0 xs j fuel lo hi<=xs.size/\(∀k (hk:k<xs.size),k<Qa0 xs j fuel lo hi->xs[k]<j)/\∀k (hk:k<xs.size),Qa0 xs j fuel lo hi<=k->j<=xs[k]:=by
 have mono:∀a b (ha:a<xs.size) (hb:b<xs.size),a<=b->xs[a]<=xs[b]:=λa b ha hb h=>by
  by_cases e:a=b
  ·subst e;exact Qg _
  ·have:=Jt.mp pw a b (by simpa using ha) (by simpa using hb) (by omega);simp only[JI] at this;omega
 intro fuel;induction fuel with
 |zero=>
  intro lo hi h1 h2 h3 h4 h5;have:lo=hi:=by omega
  subst this;exact⟨h3,h4,h5⟩
 |succ fuel ih=>
  intro lo hi h1 h2 h3 h4 h5;unfold Qa0;by_cases z:lo<hi
  ·rw[if_pos z]
   dsimp only
   have hm:(lo+hi) / 2<xs.size:=by omega
   have eg:xs.getD ((lo+hi) / 2) j=xs[(lo+hi) / 2]:=by simp[Zj,hm]
   rw[eg];by_cases y:xs[(lo+hi) / 2]<j
   ·rw[if_pos y];refine ih _ _ (by omega) (by omega) h3 (λk hk hlt=>?_) h5;have:=mono k ((lo+hi) / 2) hk hm (by omega);omega
   ·rw[if_neg y];refine ih _ _ (by omega) (by omega) (by omega) h4 λk hk hle=>?_
    have:=mono ((lo+hi) / 2) k hm hk hle;omega
  ·rw[if_neg z];have:lo=hi:=by omega
   subst this;exact⟨h3,h4,h5⟩
theorem Qcp{xs:Array Nat}(pw:xs.toList.Pairwise (· < ·))(j:Nat):JJ xs j<=xs.size/\(∀k (hk:k<xs.size),k<JJ xs j->xs[k]<j)/\∀k (hk:k<xs.size),JJ xs j<=k->j<=xs[k]:=
 Qrl pw _ 0 xs.size (by omega) (Q7 _) (Qg _) (λk hk h=>by omega) λk hk h=>by omega
structure Tab (t:SetTable):Prop where
 pw:t.place.toList.Pairwise (· < ·)
 le:∀x∈t.place.toList,x<=t.mask
 dm:t.dummies=#[]
 gd:Qcc (t.mask+1)=true
 pl:t.plain=true
 od:t.mask % 2=1
theorem Tab.slot_no{t:SetTable}(x:Tab t){j:Nat}(h:j∉t.place.toList):t.slot j=.empty:=by
 unfold Qdc
 dsimp only
 rw[if_neg,x.dm]
 ·rfl
 ·intro z;have z:=eq_of_beq z;exact h (ZO.mpr (QaP z))
theorem Tab.slot_dm{t:SetTable}(x:Tab t)(j:Nat):t.slot j≠.dummy:=by
 unfold Qdc
 dsimp only
 split
 ·exact λe=>by cases e
 ·rw[x.dm,if_neg (by simp[Qh2])];exact λe=>by cases e
theorem Tab.slot_e{t:SetTable}(x:Tab t){j:Nat}(h:t.slot j=.empty):j∉t.place.toList:=λhj=>by
 obtain⟨i,hi,e⟩:=Qdf.mp hj;have hi':i<t.place.size:=by simpa using hi
 have e':t.place[i]=j:=by simpa using e
 obtain⟨b1,b2,b3⟩:=Qcp x.pw j;have hb:JJ t.place j=i:=by
  rcases ZC (JJ t.place j) i with z | z | z
  ·have hb':JJ t.place j<t.place.size:=by omega
   have h1:=b3 _ hb' (Qg _);have:=Jt.mp x.pw (JJ t.place j) i (by simpa using hb') hi z;simp only[JI] at this;omega
  ·exact z
  ·have:=b2 i hi' z;omega
 unfold Qdc at h
 dsimp only at h
 rw[hb,if_pos (by simp[hi',e'])] at h;cases h
theorem Tab.room{t:SetTable}(x:Tab t)(hs:t.place.size<=t.mask):∃j,j<t.mask+1/\j∉t.place.toList:=by
 apply J9
 intro hn;have:∀p∈Qf (t.mask+1),p∈t.place.toList:=λp hp=>by
  apply J9
  intro h;exact hn ⟨p,Qz.mp hp,h⟩
 have:=Qjm YC this;rw[Qr,Ql] at this;omega
theorem QhY(t:SetTable)(p:Za):(t.advance p).dummy=p.dummy:=by
 unfold Y3;split<;>rfl
theorem Tab.put{t:SetTable}(x:Tab t){j:Nat}(hj:j∉t.place.toList)(hm:j<=t.mask):Tab (t.put j).1/\(t.put j).1.place.toList=t.place.toList.take (t.put j).2++j::t.place.toList.drop (t.put j).2/\(t.put j).1.mask=t.mask/\(t.put j).1.led=t.led/\(t.put j).1.moves=t.moves/\(t.put j).1.dummies=#[]:=by
 obtain⟨b1,b2,b3⟩:=Qcp x.pw j;have hp:(t.put j).2=JJ t.place j:=rfl;have hl:(t.put j).1.place.toList=t.place.toList.take (t.put j).2++j::t.place.toList.drop (t.put j).2:=QfF _ _ _;have hd:(t.put j).1.dummies=#[]:=by
  show(if Qh2 t.dummies j=true then _ else t.dummies)=#[];rw[x.dm,if_neg (by simp[Qh2])]
 have lo:∀a∈t.place.toList.take (JJ t.place j),a<j:=λa ha=>by
  obtain⟨k,hk,e⟩:=Qdf.mp ha;rw[Zh] at hk;rw[List.getElem_take] at e;have hk2:k<t.place.size:=by rw[Ql] at hk;omega
  have:=b2 k hk2 (by omega);rw[JI] at e;omega
 have hi:∀a∈t.place.toList.drop (JJ t.place j),j<a:=λa ha=>by
  have hne:a≠j:=λe=>hj (e ▸ Qde ha)
  obtain⟨k,hk,e⟩:=Qdf.mp ha;rw[Yg,Ql] at hk;rw[List.getElem_drop,JI] at e;have:=b3 (JJ t.place j+k) (by omega) (by omega);omega
 refine⟨⟨?_,?_,hd,x.gd,x.pl,x.od⟩,hl,rfl,rfl,rfl,hd⟩
 ·rw[hl,hp,QlB,List.pairwise_cons];refine⟨x.pw.sublist (Qrw _ _),⟨hi,x.pw.sublist (List.drop_sublist _ _)⟩,λa ha b hb=>?_⟩;rcases Qu.mp hb with z | z
  ·subst z;exact lo a ha
  ·have:=lo a ha;have:=hi b z;omega
 ·intro a ha;rw[hl] at ha;rcases JM.mp ha with z | z
  ·exact x.le a (QlC z)
  ·rcases Qu.mp z with z | z
   ·subst z;exact hm
   ·exact x.le a (Qde z)
theorem QnD{mask:Nat}{owner:Array (Option Nat)}:∀(n fuel i perturb:Nat),n<fuel->owner.getD (QcM mask n (i,perturb)).1 (some 0)=none->∃j,Jq mask owner fuel i perturb=some j/\owner.getD j (some 0)=none:=by
 intro n;induction n with
 |zero=>
  intro fuel i perturb hf he;obtain⟨fuel,rfl⟩:∃m,fuel=m+1:=⟨fuel - 1,by omega⟩
  unfold Jq;cases hfd:(Qf (Jm mask i+1 - i)).find? λk=>(owner.getD (i+k) (some 0)).isNone with
  |some k=>
   have:=Qvy hfd;exact⟨i+k,rfl,by simpa using this⟩
  |none=>
   have:=Yj.mp hfd 0 (Qz.mpr (by unfold Jm;split<;>omega));rw[Nat.add_zero,show owner.getD i (some 0)=none from he] at this;exact absurd rfl this
 |succ n ih=>
  intro fuel i perturb hf he;obtain⟨fuel,rfl⟩:∃m,fuel=m+1:=⟨fuel - 1,by omega⟩
  unfold Jq;cases hfd:(Qf (Jm mask i+1 - i)).find? λk=>(owner.getD (i+k) (some 0)).isNone with
  |some k=>
   have:=Qvy hfd;exact⟨i+k,rfl,by simpa using this⟩
  |none=>exact ih fuel _ _ (by omega) he
theorem Qcm{f g:Nat->Option Nat}:∀{l:List Nat},(∀x∈l,f x=g x)->l.filterMap f=l.filterMap g
 |[],_=>rfl
 |x::l,h=>by
  rw[Z4,Z4,h x (.head _),Qcm λy hy=>h y (.tail _ hy)]
theorem Qsp(f:Nat->Option Nat)(j k:Nat)(hf:f j=none):∀M,j<M->((Qf M).filterMap λx=>if x=j then some k else f x).Perm (k::(Qf M).filterMap f)
 |0,h=>absurd h (Yv _)
 |M+1,h=>by
  rw[JL,Yl,Yl];by_cases z:M=j
  ·subst z;have e:((Qf M).filterMap λx=>if x=M then some k else f x)=(Qf M).filterMap f:=Qcm λx hx=>if_neg (by have:=Qz.mp hx;omega)
   rw[e];have e2:([M].filterMap λx=>if x=M then some k else f x)=[k]:=by simp
   have e3:[M].filterMap f=[]:=by simp[hf]
   rw[e2,e3,Z5];exact Qlj
  ·have ih:=Qsp f j k hf M (by omega);have e2:([M].filterMap λx=>if x=j then some k else f x)=[M].filterMap f:=Qcm λx hx=>by
    rw[Q5.mp hx,if_neg z]
   rw[e2];exact ih.append_right _
def Lv(mask:Nat)(owner:Array (Option Nat)):List Nat:=(Qf (mask+1)).filterMap λj=>owner.getD j none
theorem QnF{f:Nat->Option Nat}:∀{M:Nat},(∀j,j<M->f j≠none)->((Qf M).filterMap f).length=M
 |0,_=>rfl
 |M+1,h=>by
  rw[JL,Yl,Qw,QnF λj hj=>h j (by omega)];cases e:f M with
  |none=>exact absurd e (h M (by omega))
  |some y=>simp[e]
structure Own (mask:Nat) (owner:Array (Option Nat)) (k:Nat):Prop where
 sz:owner.size=mask+1
 pm:(Lv mask owner).Perm (Qf k)
theorem QjS{mask:Nat}(hg:Qcc (mask+1)=true){owner:Array (Option Nat)}{k:Nat}(x:Own mask owner k)(hk:k<=mask)(h:Int):∃j,Jq mask owner (Jr mask) (Jh h % (mask+1)) (Jh h)=some j/\Own mask (owner.setIfInBounds j (some k)) (k+1):=by
 obtain⟨e,he,hn⟩:∃e,e<mask+1/\owner.getD e none=none:=by
  apply J9
  intro hno;have:=QnF (f:=λj=>owner.getD j none) (M:=mask+1) λj hj z=>hno ⟨j,hj,z⟩
  have h2:=x.pm.length_eq;rw[Qr] at h2;unfold Lv at h2;omega
 have gd:∀j,j<mask+1->owner.getD j (some 0)=owner.getD j none:=λj hj=>by
  have:j<owner.size:=by rw[x.sz];exact hj
  simp[Zj,this]
 obtain⟨n,hn',e2⟩:=Qfo hg (i:=Jh h % (mask+1)) (perturb:=Jh h) (Qdd _ (QbL _)) (QhR h) he;obtain⟨j,hj,hj0⟩:=QnD (mask:=mask) (owner:=owner) n (Jr mask) (Jh h % (mask+1)) (Jh h) (by unfold Jr;omega) (by rw[e2,gd e he];exact hn);have hjs:j<owner.size:=by
  apply J9
  intro z;simp[Zj,z] at hj0
 refine⟨j,hj,by rw[Array.size_setIfInBounds];exact x.sz,?_⟩;have e3:Lv mask (owner.setIfInBounds j (some k))=(Qf (mask+1)).filterMap λy=>if y=j then some k else owner.getD y none:=Qcm λy hy=>by
  have hy:=Qz.mp hy;have hys:y<owner.size:=by rw[x.sz];exact hy
  by_cases z:y=j
  ·subst z;simp[Zj,hys]
  ·rw[if_neg z];simp[Zj,hys,Qbf,QaB z]
 rw[e3];refine(Qsp _ j k (by rw[<- gd j (by rw[<- x.sz];exact hjs)];exact hj0) _ (by rw[<- x.sz];exact hjs)).trans ?_
 refine(show(k::(Qf (mask+1)).filterMap λy=>owner.getD y none).Perm (k::Qf k) from x.pm.cons k).trans ?_
 rw[show Qf (k+1)=Qf k++[k] from JL];exact Qlj (l₁:=[k])
theorem Qnj{mask:Nat}(hg:Qcc (mask+1)=true):∀(hs:List Int)(owner:Array (Option Nat))(k:Nat),Own mask owner k->k+hs.length<=mask+1->∃owner',hs.foldl (λacc h=>do
  let (owner,k) <- acc
  let j <- Jq mask owner (Jr mask) (Jh h % (mask+1)) (Jh h)
  pure (owner.setIfInBounds j (some k),k+1)) (some (owner,k))=some (owner',k+hs.length)/\Own mask owner' (k+hs.length)
 |[],owner,k,x,_=>⟨owner,rfl,x⟩
 |h::hs,owner,k,x,hl=>by
  rw[QC] at hl;obtain⟨j,hj,y⟩:=QjS hg x (by omega) h;obtain⟨o',e,z⟩:=Qnj hg hs _ (k+1) y (by omega);refine⟨o',?_,by rw[QC,show k+(hs.length+1)=k+1+hs.length by omega];exact z⟩;rw[QgL,QC,show k+(hs.length+1)=k+1+hs.length by omega,<- e]
  congr 1
  show(Jq mask owner (Jr mask) (Jh h % (mask+1)) (Jh h)).bind _=_;rw[hj];rfl
theorem QmK(mask:Nat):Own mask (Qbe (mask+1) none) 0:=by
 refine⟨by simp,?_⟩;have:Lv mask (Qbe (mask+1) none)=[]:=by
  unfold Lv;rw[List.filterMap_eq_nil_iff];intro j hj;have:=Qz.mp hj;simp[Zj,this]
 rw[this];exact Zy _
theorem QuN{mask finger moves:Nat}{led:Bool}(hg:Qcc (mask+1)=true)(ho:mask % 2=1)(hashes:Array Int)(hl:hashes.size<=mask) :
  ∃t order,QaR mask finger moves led true hashes=some (t,order)/\Tab t/\t.mask=mask/\t.led=led/\t.place.size=hashes.size/\order.toList.Perm (Qf hashes.size):=by
 obtain⟨owner,e,x⟩:=Qnj hg hashes.toList (Qbe (mask+1) none) 0 (QmK mask) (by rw[Ql];omega);rw[QbK,Ql] at e x;have ec:Qbx mask hashes=some owner:=by
  unfold Qbx;rw[<- Qom];exact congrArg (λz=>z.map (·.1)) e
 have el:QaR mask finger moves led true hashes=some ({ mask:=mask,place:=(((Qf (mask+1)).filterMap λj=>(owner.getD j none).map (j,·)).map (·.1)).toArray,dummies:=#[],finger:=finger,led:=led,moves:=moves,plain:=true },(((Qf (mask+1)).filterMap λj=>(owner.getD j none).map (j,·)).map (·.2)).toArray):=by
  unfold QaR;rw[ec];rfl
 have e2:((Qf (mask+1)).filterMap λj=>(owner.getD j none).map (j,·)).map (·.2)=Lv mask owner:=by
  unfold Lv;rw[Qoy];exact Qcm λy _=>by cases owner.getD y none<;>rfl
 have e1:((Qf (mask+1)).filterMap λj=>(owner.getD j none).map (j,·)).map (·.1)=(Qf (mask+1)).filterMap λj=>(owner.getD j none).map λ_=>j:=by
  rw[Qoy];exact Qcm λy _=>by cases owner.getD y none<;>rfl
 have len:(((Qf (mask+1)).filterMap λj=>(owner.getD j none).map (j,·)).map (·.1)).length=hashes.size:=by
  rw[Qa];have h1:=congrArg QgK e2;rw[Qa,x.pm.length_eq,Qr] at h1;exact h1
 refine⟨_,_,el,⟨?_,?_,rfl,hg,rfl,ho⟩,rfl,rfl,by rw[Qj];exact len,by rw[Z2,e2];exact x.pm⟩
 ·show List.Pairwise (· < ·) (ZX _).toList;rw[Z2,e1,List.pairwise_filterMap];refine Qkm.imp λ{a b} h=>?_
  intro c hc d hd;cases hoa:owner.getD a none with
  |none=>rw[hoa] at hc;cases hc
  |some _=>
   cases hob:owner.getD b none with
   |none=>rw[hob] at hd;cases hd
   |some _=>rw[hoa] at hc;rw[hob] at hd;cases hc;cases hd;exact h
 ·intro y hy;have hy:y∈(((Qf (mask+1)).filterMap λj=>(owner.getD j none).map (j,·)).map (·.1)).toArray.toList:=hy;rw[Z2,e1] at hy;obtain⟨a,ha,e⟩:=QbA.mp hy;have:=Qz.mp ha;cases hoa:owner.getD a none with
  |none=>rw[hoa] at e;cases e
  |some _=>
   rw[hoa] at e;cases e;show a<=mask;omega
theorem QkM{α:Type}{es:Array α}{order:Array Nat}(h:order.toList.Perm (Qf es.size)):(order.filterMap (es[·]?)).toList.Perm es.toList:=by
 rw[Qjd];refine(h.filterMap _).trans ?_
 have:(Qf es.size).filterMap (es[·]?)=es.toList:=by
  apply J7
  intro i;have key:∀n,n<=es.size->(Qf n).filterMap (es[·]?)=es.toList.take n:=λn=>by
   induction n with
   |zero=>intro _;rfl
   |succ n ih=>
    intro hn;rw[JL,Yl,ih (by omega),JY];have:es[n]? = some es[n]:=by simp[show n<es.size by omega]
    simp[this]
  rw[key _ (Qg _),<- Ql,JW]
 rw[this]
theorem Qro{t t':SetTable}(h:t'.mask=t.mask)(p:Za):t'.advance p=t.advance p:=by
 unfold Y3;rw[h]
theorem Qb2{t t':SetTable}(h:t'.mask=t.mask):∀(n:Nat)(p:Za),stps t' n p=stps t n p
 |0,_=>rfl
 |n+1,p=>by
  show stps t' n (t'.advance p)=stps t n (t.advance p);rw[Qro h,Qb2 h n]
theorem Qci{t t':SetTable}(h:t'.mask=t.mask)(x:Int):t'.probeStart x=t.probeStart x:=by
 unfold SetTable.probeStart;rw[h]
structure PIn (t:SetTable) (p:Za):Prop where
 a:p.j+p.more<=t.mask
 b:p.i<=t.mask
theorem Qha{mask i:Nat}(h:i<=mask):i+(Jm mask i - i)<=mask:=by unfold Jm;split<;>omega
theorem PIn.adv{t:SetTable}{p:Za}(x:PIn t p):PIn t (t.advance p):=by
 unfold Y3;split
 ·exact⟨by show p.j+1+(p.more - 1)<=_;have:=x.a;omega,x.b⟩
 ·have:(Ys t.mask p.i p.perturb).1<=t.mask:=QsN (Qdd _ (QbL _));exact⟨Qha this,this⟩
theorem PIn.stps{t:SetTable}:∀(n:Nat){p:Za},PIn t p->PIn t (stps t n p)
 |0,_,x=>x
 |n+1,_,x=>PIn.stps n x.adv
theorem PIn.start(t:SetTable)(h:Int):PIn t (t.probeStart h):=by
 have:Jh h % (t.mask+1)<=t.mask:=QsN (Qdd _ (QbL _));exact⟨Qha this,this⟩
theorem Qio(t:SetTable)(h:Int)(n:Nat):(stps t n (t.probeStart h)).j<=t.mask:=by
 have:=(PIn.stps n (PIn.start t h)).a;omega
def Rch(t:SetTable)(j:Nat)(h:Int):Prop:=∃n,(stps t n (t.probeStart h)).j=j/\∀m,m<n->(stps t m (t.probeStart h)).j∈t.place.toList
theorem Rch.mono{t t':SetTable}{j:Nat}{h:Int}(x:Rch t j h)(hm:t'.mask=t.mask)(hs:∀y∈t.place.toList,y∈t'.place.toList):Rch t' j h:=by
 obtain⟨n,e,k⟩:=x;refine⟨n,by rw[Qci hm,Qb2 hm];exact e,λm hlt=>?_⟩;rw[Qci hm,Qb2 hm];exact hs _ (k m hlt)
theorem Tab.slot_l{t:SetTable}{j i:Nat}(h:t.slot j=.live i):t.place[i]? = some j:=by
 unfold Qdc at h
 dsimp only at h
 split at h
 ·rename_i e
  cases h;exact eq_of_beq e
 ·split at h<;>cases h
theorem Tab.slot_at{t:SetTable}(x:Tab t){i:Nat}{j:Nat}(h:t.place[i]? = some j):t.slot j=.live i:=by
 have hj:j∈t.place.toList:=ZO.mpr (QaP h);cases hs:t.slot j with
 |empty=>exact absurd hj (x.slot_e hs)
 |dummy=>exact absurd hs (x.slot_dm j)
 |live i'=>
  have h':=Tab.slot_l hs;obtain⟨h1,e1⟩:=Y0.mp h;obtain⟨h2,e2⟩:=Y0.mp h'
  congr 1
  rcases ZC i' i with z | z | z
  ·have:=Jt.mp x.pw i' i (by simpa using h2) (by simpa using h1) z;simp only[JI] at this;omega
  ·exact z
  ·have:=Jt.mp x.pw i i' (by simpa using h1) (by simpa using h2) z;simp only[JI] at this;omega
theorem Qp6{t:SetTable}(x:Tab t)(hashAt:Nat->Int)(h:Int):∀(n fuel:Nat)(p:Za),n<fuel->t.slot (stps t n p).j=.empty->p.dummy=none ->
  ∃k,k<=n/\(∀m,m<k->∃i,t.slot (stps t m p).j=.live i/\hashAt i≠h)/\((Jx t hashAt h fuel p=some (.empty (stps t k p).j none)/\t.slot (stps t k p).j=.empty)∨(k<n/\∃i,Jx t hashAt h fuel p=some (.candidate (stps t k p).j i (stps t (k+1) p))/\t.slot (stps t k p).j=.live i/\hashAt i=h)):=by
 intro n;induction n with
 |zero=>
  intro fuel p hf he hd;obtain⟨fuel,rfl⟩:∃m,fuel=m+1:=⟨fuel - 1,by omega⟩
  refine⟨0,Qg _,λm hm=>absurd hm (Yv _),.inl ⟨?_,he⟩⟩;unfold Jx;rw[show t.slot p.j=.empty from he]
  dsimp only
  rw[hd];rfl
 |succ n ih=>
  intro fuel p hf he hd;obtain⟨fuel,rfl⟩:∃m,fuel=m+1:=⟨fuel - 1,by omega⟩
  cases hs:t.slot p.j with
  |empty=>
   refine⟨0,Q7 _,λm hm=>absurd hm (Yv _),.inl ⟨?_,hs⟩⟩;unfold Jx;rw[hs]
   dsimp only
   rw[hd];rfl
  |dummy=>exact absurd hs (x.slot_dm _)
  |live i=>
   by_cases z:hashAt i=h
   ·refine⟨0,Q7 _,λm hm=>absurd hm (Yv _),.inr ⟨QbL _,i,?_,hs,z⟩⟩;unfold Jx;rw[hs]
    dsimp only
    rw[if_pos (by simp[z])];rfl
   ·obtain⟨k,hk,ps,q⟩:=ih fuel (t.advance p) (by omega) he (by rw[QhY];exact hd);have eg:Jx t hashAt h (fuel+1) p=Jx t hashAt h fuel (t.advance p):=by
     conv=>lhs;unfold Jx
     rw[hs]
     dsimp only
     rw[if_neg (by simp[z])]
    have ps':∀m,m<k+1->∃i,t.slot (stps t m p).j=.live i/\hashAt i≠h:=λm hm=>by
     cases m with
     |zero=>exact⟨i,hs,z⟩
     |succ m=>exact ps m (by omega)
    rcases q with⟨q1,q2⟩ | ⟨q0,i',q1,q2,q3⟩
    ·exact⟨k+1,by omega,ps',.inl ⟨by rw[eg];exact q1,q2⟩⟩
    ·exact⟨k+1,by omega,ps',.inr ⟨by omega,i',by rw[eg];exact q1,q2,q3⟩⟩
theorem QrP(t:SetTable):∀(k m j i perturb:Nat)(d:Option Nat),k<=m->(stps t k { j:=j,more:=m,i:=i,perturb:=perturb,dummy:=d }).j=j+k
 |0,_,_,_,_,_,_=>rfl
 |k+1,m,j,i,perturb,d,h=>by
  obtain⟨m,rfl⟩:∃m',m=m'+1:=⟨m - 1,by omega⟩
  show(stps t k (t.advance _)).j=_;have:t.advance { j:=j,more:=m+1,i:=i,perturb:=perturb,dummy:=d }={ j:=j+1,more:=m,i:=i,perturb:=perturb,dummy:=d }:=by
   unfold Y3;rw[if_pos (by show m+1 > 0;omega)];rfl
  rw[this,QrP t k m _ _ _ _ (by omega)];omega
theorem Qp9{t:SetTable}{owner:Array (Option Nat)}:∀(fuel i perturb j:Nat),Jq t.mask owner fuel i perturb=some j->∃n,(stps t n (QoZ t i perturb none)).j=j/\∀m,m<n->owner.getD (stps t m (QoZ t i perturb none)).j (some 0)≠none:=by
 intro fuel;induction fuel with
 |zero=>intro i perturb j h;cases h
 |succ fuel ih=>
  intro i perturb j h;unfold Jq at h;have jr:∀k,k<=Jm t.mask i - i->(stps t k (QoZ t i perturb none)).j=i+k:=λk hk=>QrP t k _ _ _ _ _ hk
  have re:Jm t.mask i+1 - i=Jm t.mask i - i+1:=by unfold Jm;split<;>omega
  cases hfd:(Qf (Jm t.mask i+1 - i)).find? λk=>(owner.getD (i+k) (some 0)).isNone with
  |some k=>
   rw[hfd] at h;cases h;obtain⟨_,hk,hb⟩:=List.find?_range_eq_some.mp hfd
   have hk:=Qz.mp hk;rw[re] at hk;refine⟨k,jr k (by omega),λm hm=>?_⟩;rw[jr m (by omega)];have:=hb m hm;intro z;rw[z] at this;cases this
  |none=>
   rw[hfd] at h;obtain⟨n,e,w⟩:=ih _ _ _ h;have all:=Yj.mp hfd;refine⟨Jm t.mask i - i+1+n,by rw[Y1,QfU];exact e,λm hm=>?_⟩;by_cases z:m<Jm t.mask i - i+1
   ·rw[jr m (by omega)];have:=all m (Qz.mpr (by omega));intro y;rw[y] at this;exact this rfl
   ·obtain⟨m',rfl⟩:∃m',m=Jm t.mask i - i+1+m':=⟨m - (Jm t.mask i - i+1),by omega⟩
    rw[Y1,QfU];exact w m' (by omega)
def tM(mask:Nat):SetTable:={ mask:=mask,place:=#[],dummies:=#[],finger:=0,led:=true,moves:=0,plain:=true }
def QyB(mask:Nat)(owner:Array (Option Nat))(H:Nat->Int):Prop:=∀j k,owner.getD j none=some k->∃n,(stps (tM mask) n ((tM mask).probeStart (H k))).j=j/\∀m,m<n->owner.getD (stps (tM mask) m ((tM mask).probeStart (H k))).j none≠none
theorem Qni{mask:Nat}(hg:Qcc (mask+1)=true){owner:Array (Option Nat)}{k:Nat}{H:Nat->Int}(x:Own mask owner k)(w:QyB mask owner H)(hk:k<=mask):∃j,Jq mask owner (Jr mask) (Jh (H k) % (mask+1)) (Jh (H k))=some j/\Own mask (owner.setIfInBounds j (some k)) (k+1)/\QyB mask (owner.setIfInBounds j (some k)) H:=by
 obtain⟨j,hj,y⟩:=QjS hg x hk (H k);refine⟨j,hj,y,?_⟩;have gr:∀z,owner.getD z none≠none->(owner.setIfInBounds j (some k)).getD z none≠none:=λz hz=>by
  have hs:z<owner.size:=by
   apply J9
   intro c;exact hz (by simp[Zj,c])
  by_cases e:j=z
  ·subst e;simp[Zj,hs]
  ·have:(owner.setIfInBounds j (some k)).getD z none=owner.getD z none:=by simp[Zj,hs,Qbf,e]
   rw[this];exact hz
 obtain⟨n,e,way⟩:=Qp9 (t:=tM mask) _ _ _ _ hj;intro j' k' h';by_cases z:j=j'
 ·subst z;have hs:j<owner.size:=by
   apply J9
   intro c;simp[Zj,c] at h'
  have ek:k'=k:=by
   simp[Zj,hs] at h';exact h'.symm
  subst ek;refine⟨n,e,λm hm=>gr _ ?_⟩;have h1:=way m hm;have h2:(stps (tM mask) m ((tM mask).probeStart (H k'))).j<=mask:=Qio (tM mask) (H k') m;have h3:(stps (tM mask) m ((tM mask).probeStart (H k'))).j<owner.size:=by rw[x.sz];omega
  have h1:owner.getD (stps (tM mask) m ((tM mask).probeStart (H k'))).j (some 0)≠none:=h1
  simpa [Zj,h3] using h1
 ·have h2:owner.getD j' none=some k':=by
   have hs:j'<owner.size:=by
    apply J9
    intro c;simp[Zj,c] at h'
   rw[<- h'];simp[Zj,hs,Qbf,z]
  obtain⟨n',e',way'⟩:=w j' k' h2;exact⟨n',e',λm hm=>gr _ (way' m hm)⟩
theorem QjT{mask:Nat}(hg:Qcc (mask+1)=true)(H:Nat->Int):∀(hs:List Int)(owner:Array (Option Nat))(k:Nat),Own mask owner k->QyB mask owner H->(∀i (hi:i<hs.length),H (k+i)=hs[i])->k+hs.length<=mask+1->∃owner',hs.foldl (λacc h=>do
  let (owner,k) <- acc
  let j <- Jq mask owner (Jr mask) (Jh h % (mask+1)) (Jh h)
  pure (owner.setIfInBounds j (some k),k+1)) (some (owner,k))=some (owner',k+hs.length)/\Own mask owner' (k+hs.length)/\QyB mask owner' H
 |[],owner,k,x,w,_,_=>⟨owner,rfl,x,w⟩
 |h::hs,owner,k,x,w,hH,hl=>by
  rw[QC] at hl;have e0:H k=h:=hH 0 (by simp);obtain⟨j,hj,y,y2⟩:=Qni hg x w (by omega);rw[e0] at hj;obtain⟨o',e,z,z2⟩:=QjT hg H hs _ (k+1) y y2 (λi hi=>by
   have:=hH (i+1) (by rw[QC];omega);rw[show k+1+i=k+(i+1) by omega,this];rfl) (by omega)
  refine⟨o',?_,by rw[QC,show k+(hs.length+1)=k+1+hs.length by omega];exact z,z2⟩;rw[QgL,QC,show k+(hs.length+1)=k+1+hs.length by omega,<- e]
  congr 1
  show(Jq mask owner (Jr mask) (Jh h % (mask+1)) (Jh h)).bind _=_;rw[hj];rfl
theorem QkW{mask finger moves:Nat}{led:Bool}(hg:Qcc (mask+1)=true)(ho:mask % 2=1)(hashes:Array Int)(hl:hashes.size<=mask) :
  ∃t order,QaR mask finger moves led true hashes=some (t,order)/\Tab t/\t.mask=mask/\t.led=led/\t.place.size=hashes.size/\order.toList.Perm (Qf hashes.size)/\∀(i j k:Nat),t.place[i]? = some j->order[i]? = some k->Rch t j (hashes.getD k 0):=by
 obtain⟨owner,e,x,w⟩:=QjT hg (λk=>hashes.getD k 0) hashes.toList (Qbe (mask+1) none) 0 (QmK mask) (λj k h=>by
   have:(Qbe (mask+1) (none:Option Nat)).getD j none=none:=by
    by_cases c:j<mask+1<;>simp[Zj,c]
   rw[this] at h;cases h) (λi hi=>by
   have hi':i<hashes.size:=by simpa using hi
   simp[Zj,hi']) (by rw[Ql];omega)
 rw[QbK,Ql] at e x;have ec:Qbx mask hashes=some owner:=by
  unfold Qbx;rw[<- Qom];exact congrArg (λz=>z.map (·.1)) e
 have el:QaR mask finger moves led true hashes=some ({ mask:=mask,place:=(((Qf (mask+1)).filterMap λj=>(owner.getD j none).map (j,·)).map (·.1)).toArray,dummies:=#[],finger:=finger,led:=led,moves:=moves,plain:=true },(((Qf (mask+1)).filterMap λj=>(owner.getD j none).map (j,·)).map (·.2)).toArray):=by
  unfold QaR;rw[ec];rfl
 obtain⟨t,order,e2,T,m1,m2,m3,m4⟩:=QuN (finger:=finger) (moves:=moves) (led:=led) hg ho hashes hl;rw[el] at e2;have e2:=Qx e2;have et:_=t:=congrArg Prod.fst e2;have eo:_=order:=congrArg Prod.snd e2;refine⟨t,order,by rw[el,e2],T,m1,m2,m3,m4,λi j k hj hk=>?_⟩;have live:∀y z,(y,z)∈((Qf (mask+1)).filterMap λj=>(owner.getD j none).map (j,·))↔y<=mask/\owner.getD y none=some z:=λy z=>by
  rw[QbA];constructor
  ·rintro⟨a,ha,e⟩;have:=Qz.mp ha;cases hoa:owner.getD a none with
   |none=>rw[hoa] at e;cases e
   |some b=>rw[hoa] at e;cases e;exact⟨by omega,hoa⟩
  ·rintro⟨h1,h2⟩;exact⟨y,Qz.mpr (by omega),by rw[h2];rfl⟩
 have pl:∀y,owner.getD y none≠none->y<=mask->y∈t.place.toList:=λy hy hm=>by
  rw[<- et];show y∈(ZX _).toList;rw[Z2,Qs];cases hoy:owner.getD y none with
  |none=>exact absurd hoy hy
  |some z=>exact⟨(y,z),(live y z).mpr ⟨hm,hoy⟩,rfl⟩
 have hjk:(j,k)∈((Qf (mask+1)).filterMap λj=>(owner.getD j none).map (j,·)):=by
  rw[<- et] at hj;rw[<- eo] at hk;have hj:(((Qf (mask+1)).filterMap λj=>(owner.getD j none).map (j,·)).map (·.1)).toArray[i]? = some j:=hj;have hk:(((Qf (mask+1)).filterMap λj=>(owner.getD j none).map (j,·)).map (·.2)).toArray[i]? = some k:=hk;rw[Qll,Qo] at hj hk;cases hz:((Qf (mask+1)).filterMap λj=>(owner.getD j none).map (j,·))[i]? with
  |none=>rw[hz] at hj;cases hj
  |some q=>
   rw[hz] at hj hk;have h1:q.1=j:=Qx hj;have h2:q.2=k:=Qx hk;rw[<- h1,<- h2];exact QJ hz
 obtain⟨hjm,hjo⟩:=(live j k).mp hjk;obtain⟨n,e3,way⟩:=w j k hjo;have hm:t.mask=(tM mask).mask:=m1;refine⟨n,by rw[Qci hm,Qb2 hm];exact e3,λm hlt=>?_⟩;rw[Qci hm,Qb2 hm];exact pl _ (way m hlt) (Qio (tM mask) _ m)
theorem Qdq:Slot "set_iterator" "__next__" "set_iterator.__next__" :=
 .of (owner := "set_iterator") (n := "__next__") (by rw[Qkg,QdQ];kernel_rfl) (by decide +kernel) (by decide +kernel) (by decide +kernel) (by first | exact .inl (by decide +kernel) | exact .inr (by decide +kernel)) (by rw[Qcq];kernel_rfl)
theorem QnI:entryFor table "set_iterator.__next__" = some Yw.«set_iterator.__next__» := entryFor_of_fast (by kernel_rfl)
theorem Qw1:Manifest.owners.lookup (String.ofList ['r', 'o', 't', 'a', 'r', 'e', 't', 'i', '_', 't', 'e', 's'].reverse)=some Manifest.sig_set_iterator:=by kernel_rfl
theorem Qob(a:Value):argsOk "set_iterator.__next__" ⟨[a],[]⟩:=by
 unfold argsOk;rw[signature?_of (id := "set_iterator.__next__") (n:=['_', '_', 't', 'x', 'e', 'n', '_', '_']) (o:=['r', 'o', 't', 'a', 'r', 'e', 't', 'i', '_', 't', 'e', 's']) (by kernel_rfl) Qw1];kernel_rfl
theorem QuZ:entryFor table "set.__iter__" = some Yw.«frozenset.__iter__» := entryFor_alias (id' := "frozenset.__iter__") (by kernel_rfl) (by first | rfl | decide +kernel | (unfold QsL;simp +decide [Qoh])) (by decide +kernel) (by kernel_rfl)
def IsSI(h:Heap)(I:Addr)(first:Value)(i a n ep:Nat):Prop:=∃o,h.get? I=some o/\o.cls=.type "set_iterator" /\ o.data=.fields #[first,.int i 0,.ref a,.int n 0,.int ep 0]
theorem IsSI.typeIs{s:Shared}{I:Addr}{first:Value}{i a n ep:Nat}(x:IsSI s.heap I first i a n ep):s.TypeIs (.ref I) "set_iterator" := let ⟨o,h,c,_⟩:=x;⟨o,h,c⟩
structure SetAt (h:Heap) (a:Addr) (es:Array (Int×Value)) (ep:Nat) (t:SetTable):Prop where
 at_:∃o,h.get? a=some o/\o.ExactSet/\o.data=.set es ep t
 ft:t.fits es.size=true
section
variable{prog:Qy}{w:Jc}{A:Jb}{E:Value->Shared->Prop}{s:Shared}
theorem Quw{I a:Addr}{i ep slot nx:Nat}{es:Array (Int×Value)}{t:SetTable}{x:Value}{Q:Option Value->Shared->Prop}(hit:IsSI s.heap I (.int slot 0) i a es.size ep)(ha:SetAt s.heap a es ep t)
  (hN:∀(A:Jb)(E:Value->Shared->Prop)(Q':Option (Value×Nat)->Shared->Prop),Q' (some (x,nx)) s->wpAny (model prog w) A (setNext a slot i ep) Q' E s)
  (hQ:∀h',IsSI h' I (.int nx 0) (i+1) a es.size ep->ZH I s.heap h'->Q (some x) { s with heap:=h' }):wpAny (model prog w) A (pyNext (.ref I)) Q E s:=by
 obtain⟨o,ho,hc,hd⟩:=id hit;obtain⟨os,hos,hex,hds⟩:=ha.at_;unfold pyNext;refine wpAny_bind (Qby (JH (name:=Yy "__next__") hit.typeIs Qdq (Jy Qdq hit.typeIs QnI ?_ (Qob _))));unfold Yw.«set_iterator.__next__»
 wp_walk
 rw[hd];refine Qd ?_
 dsimp only
 refine wpAny_bind (QvH hos hds ha.ft ?_);rw[if_neg (by simp)];refine wpAny_bind ?_
 refine hN _ _ _ ?_
 dsimp only
 refine wpAny_bind (Qaj ho hd (by simp) ?_);have g1:(s.heap.update I (Qcs λx=>x.setIfInBounds 0 (rawInt ↑nx))).get? I=some (Qcs (λx=>x.setIfInBounds 0 (rawInt ↑nx)) o):=J6 _ ho (QaU (ZL hd _));have d1:(Qcs (λx=>x.setIfInBounds 0 (rawInt ↑nx)) o).data=.fields #[.int nx 0,.int i 0,.ref a,.int es.size 0,.int ep 0]:=by rw[ZL hd];simp[rawInt]
 refine wpAny_bind (Qaj g1 d1 (by simp) (Qd ⟨x,rfl,Qd (hQ _ ?_ ((JN ..).trans (JN ..)))⟩));exact⟨_,J6 _ g1 (QaU (ZL d1 _)),(Qb0 ..).trans ((Qb0 ..).trans hc),by rw[ZL d1];simp[rawInt]⟩
theorem Qxi{I a:Addr}{i ep slot:Nat}{es:Array (Int×Value)}{t:SetTable}{Q:Option Value->Shared->Prop}(hh:A.handled=none)(hit:IsSI s.heap I (.int slot 0) i a es.size ep)(ha:SetAt s.heap a es ep t)
  (hN:∀(A:Jb)(E:Value->Shared->Prop)(Q':Option (Value×Nat)->Shared->Prop),Q' none s->wpAny (model prog w) A (setNext a slot i ep) Q' E s)
  (hQ:∀h',Qol I s.heap h'->Q none { s with heap:=h' }):wpAny (model prog w) A (pyNext (.ref I)) Q E s:=by
 obtain⟨o,ho,hc,hd⟩:=id hit;obtain⟨os,hos,hex,hds⟩:=ha.at_;unfold pyNext;refine wpAny_bind (Qby (JH (name:=Yy "__next__") hit.typeIs Qdq (Jy Qdq hit.typeIs QnI ?_ (Qob _))));unfold Yw.«set_iterator.__next__»
 wp_walk
 rw[hd];refine Qd ?_
 dsimp only
 refine wpAny_bind (QvH hos hds ha.ft ?_);rw[if_neg (by simp)];refine wpAny_bind ?_
 refine hN _ _ _ ?_
 dsimp only
 refine wpAny_bind (Qaj ho hd (by simp) ?_);refine wpAny_bind ?_
 simp only[newExc,newTuple];refine wpAny_bind (Q4 ?_ (by size_fits));refine wpAny_bind (m:=firstArgMember _ _) (Yd (a:=Jo) (by first | rfl | (simp only[firstArgMember];rfl)) ?_);refine Q4 ?_ (by size_fits)
 simp only[raiseNew];refine wpAny_bind (Qor ?_)
 first | rw[show A.in1.handled=none from hh] | rw[hh]
 refine wpAny_bind (Qd (QvG ?_));refine wpAny_bind (Qbn (T := "StopIteration") (b:=true) ⟨_,Qm _ rfl,rfl⟩ (by rw[Qcq];kernel_rfl) ?_);exact Qd (hQ _ (((JN ..).extBut.push _).push _))
theorem QrS{a:Addr}{ep slot given:Nat}{es:Array (Int×Value)}{t:SetTable}{Q:Option (Value×Nat)->Shared->Prop}(hb:w.params.followText "set-order" = false)(ha:SetAt s.heap a es ep t)(hp:t.plain=true)(hl:t.led=true)
  (h:Q (match es[JJ t.place slot]?,t.place[JJ t.place slot]? with | some (_,x),some j=>some (x,j+1) | _,_=>none) s):wpAny (model prog w) A (setNext a slot given ep) Q E s:=by
 obtain⟨os,hos,hex,hds⟩:=ha.at_;unfold setNext;refine wpAny_bind (Zn hos hds ha.ft ?_)
 dsimp only
 unfold setsByText;refine wpAny_bind (wpAny_bind (YL (Qd ?_)));rw[show(model prog w).w.params.followText "set-order" = false from hb,if_neg Qt];split
 ·rename_i hdr
  exact absurd (show(!t.plain&&decide (es.size > 1))=true from hdr) (by rw[hp];simp)
 ·refine wpAny_bind ?_
  show wpAny (model prog w) A (if(!t.led && !es.isEmpty)=true then unsupported "set:maker-not-led" else pure ()) _ E s;rw[if_neg (by rw[hl];simp)];exact Qd (Qd h)
theorem Ql4{a:Addr}{ep slot given:Nat}{es:Array (Int×Value)}{t:SetTable}{Q:Option (Value×Nat)->Shared->Prop}(hb:w.params.followText "set-order" = true)(ha:SetAt s.heap a es ep t)
  (h:Q (((pickOrder (w.params.setOrder a ep) es)[given]?).map λe=>(e.2,slot)) s):wpAny (model prog w) A (setNext a slot given ep) Q E s:=by
 obtain⟨os,hos,hex,hds⟩:=ha.at_;unfold setNext;refine wpAny_bind (Zn hos hds ha.ft ?_)
 dsimp only
 unfold setsByText;refine wpAny_bind (wpAny_bind (YL (Qd ?_)));rw[show(model prog w).w.params.followText "set-order" = true from hb,if_pos rfl,if_neg (by simp)];refine wpAny_bind ?_
 unfold setWalk;refine wpAny_bind (Zn hos hds ha.ft ?_)
 dsimp only
 unfold setsByText;refine wpAny_bind (wpAny_bind (YL (Qd ?_)));rw[show(model prog w).w.params.followText "set-order" = true from hb,if_pos rfl];refine wpAny_bind (YL (Qd ?_));exact Qd h
theorem Qhf{α:Type}(next:Nat->Nat)(xs:Array α):(pickOrder next xs).toList.Perm xs.toList:=by
 unfold pickOrder;have go:∀(n k:Nat)(left:List α)(out:Array α),left.length=n->(Qru next n k left out).toList.Perm (out.toList++left):=λn=>by
  induction n with
  |zero=>
   intro k left out hl;rw[Qja.mp hl,Z5];exact Zy _
  |succ n ih=>
   intro k left out hl;have hi:next k % left.length<left.length:=Qdd _ (by omega)
   unfold Qru;rw[Qe hi]
   dsimp only
   refine(ih (k+1) _ _ (by rw[List.length_eraseIdx,if_pos hi];omega)).trans ?_
   rw[Array.toList_push,QeR];refine List.Perm.append_left _ ?_
   have sp:left=left.take (next k % left.length)++left[next k % left.length]::left.drop (next k % left.length+1):=by rw[<- Qh7 hi,Yi]
   have pm:=(QsQ (a:=left[next k % left.length]) (l₁:=left.take (next k % left.length)) (l₂:=left.drop (next k % left.length+1))).symm;rw[<- sp,<- ZB] at pm;exact pm
 have:=go xs.size 0 xs.toList #[] (by simp)
 simpa using this
theorem Qxv{a:Addr}{ep:Nat}{es:Array (Int×Value)}{t:SetTable}{Q:Value->Shared->Prop}(ha:SetAt s.heap a es ep t)(hp:t.plain=true)
  (hQ:Q (.ref s.heap.objs.size) { s with heap:=s.heap.push { cls:=.type "set_iterator",data:=.fields #[.int 0 0,.int 0 0,.ref a,.int es.size 0,.int ep 0] } }):wpAny (model prog w) A (pyIter (.ref a)) Q E s:=by
 obtain⟨os,hos,hex,hds⟩:=ha.at_;have hT:s.TypeIs (.ref a) "set" := ⟨os,hos,hex.1⟩;refine QgQ hT PySem.F.slot_set_iter (Jy PySem.F.slot_set_iter hT QuZ ?_ (PySem.F.args_set_iter_1 _));unfold Yw.«frozenset.__iter__»
 wp_walk
 have nf:¬(t.place.size != es.size||decide (t.fill > t.mask))=true:=by
  have hf:=ha.ft;simp only[QbJ,JK,beq_iff_eq,decide_eq_true_eq] at hf;simp[hf.1,Nat.not_lt.mpr hf.2]
 rw[hds]
 dsimp only
 rw[if_neg nf];refine Qd (Qd (Qd ?_));refine wpAny_bind ?_
 unfold setDrawn;refine wpAny_bind (Zn hos hds ha.ft ?_)
 dsimp only
 unfold setsByText;refine wpAny_bind (wpAny_bind (YL (Qd ?_)));refine Qd ?_
 split
 ·rename_i hdr
  have hdr:(!(w.params.followText "set-order")&&(!t.plain&&decide (es.size > 1)))=true:=hdr;rw[hp] at hdr;simp at hdr
 ·refine wpAny_bind (Qd ?_);refine wpAny_bind (wpAny_setEpoch_of hos hds ha.ft ?_);exact wpAny_bind (Q4 (Qd ⟨_,rfl, "set_iterator",_,⟨_,Qm _ rfl,rfl⟩,Qdq.lookup,hQ⟩))
theorem SetAt.at'{h h':Heap}{a:Addr}{es:Array (Int×Value)}{ep:Nat}{t:SetTable}(x:SetAt h a es ep t)(k:∀o,h.get? a=some o->h'.get? a=some o):SetAt h' a es ep t:=let ⟨o,h1,h2⟩:=x.at_;⟨⟨o,k o h1,h2⟩,x.ft⟩
theorem IsSI.at'{h h':Heap}{I:Addr}{first:Value}{i a n ep:Nat}(x:IsSI h I first i a n ep)(k:∀o,h.get? I=some o->h'.get? I=some o):IsSI h' I first i a n ep:=let ⟨o,h1,h2⟩:=x;⟨o,k o h1,h2⟩
end
structure Way (prog:Qy) (w:Jc) (a:Addr) (es:Array (Int×Value)) (ep:Nat) (t:SetTable) (so:Nat->Nat) (vs:Array (Int×Value)):Prop where
 pm:vs.toList.Perm es.toList
 s0:so 0=0
 item:∀(s:Shared)(A:Jb)(E:Value->Shared->Prop)(Q:Option (Value×Nat)->Shared->Prop)(i:Nat)(e:Int×Value),SetAt s.heap a es ep t->vs[i]? = some e->Q (some (e.2,so (i+1))) s->wpAny (model prog w) A (setNext a (so i) i ep) Q E s
 fin:∀(s:Shared)(A:Jb)(E:Value->Shared->Prop)(Q:Option (Value×Nat)->Shared->Prop),SetAt s.heap a es ep t->Q none s->wpAny (model prog w) A (setNext a (so es.size) es.size ep) Q E s
theorem Way.walks{prog:Qy}{w:Jc}{A:Jb}(hh:A.handled=none){a:Addr}{es:Array (Int×Value)}{ep:Nat}{t:SetTable}{so:Nat->Nat}{vs:Array (Int×Value)}(W:Way prog w a es ep t so vs)(I:Addr)(hne:a≠I)(self:∀(s:Shared)(Q:Value->Shared->Prop)(E:Value->Shared->Prop)(i:Nat),IsSI s.heap I (.int (so i) 0) i a es.size ep->Q (.ref I) s->wpAny (model prog w) A (pyIter (.ref I)) Q E s) :
  Walks prog w A I [I,a] [I] es.size (λi v=>(vs[i]?).map (·.2)=some v) (λi h=>IsSI h I (.int (so i) 0) i a es.size ep/\SetAt h a es ep t) where
 sub:=λb hb=>by simp at hb;simp[hb]
 frame:=λ_ _ _ st hk=>⟨st.1.at' λo e=>hk I (by simp) o e,st.2.at' λo e=>hk a (by simp) o e⟩
 item:=λi s Q E hi st hQ=>by
  have hl:vs.size=es.size:=by rw[<- Ql,W.pm.length_eq,Ql]
  have hv:vs[i]? = some vs[i]:=by simp[hl,hi]
  refine Quw st.1 st.2 (x:=vs[i].2) (nx:=so (i+1)) (λA E Q' q=>W.item s A E Q' i _ st.2 hv q) λh' hit' hs'=>?_
  refine hQ _ h' s.toks (by rw[hv];rfl) ⟨hit',st.2.at' λo e=>hs'.extBut a o (λz=>hne z) e⟩ λb o hb e=>hs'.extBut b o (λz=>hb (by simp[z])) e
 done:=λs Q E st hQ=>Qxi hh st.1 st.2 (λA E Q' q=>W.fin s A E Q' st.2 q) λh' he'=>hQ h' s.toks λb o hb e=>he' b o (λz=>hb (by simp[z])) e
 self:=λi s Q E st hQ=>self s Q E i st.1 hQ
theorem QoK{prog:Qy}{w:Jc}(hb:w.params.followText "set-order" = true)(a:Addr)(es:Array (Int×Value))(ep:Nat)(t:SetTable):Way prog w a es ep t (λ_=>0) (pickOrder (w.params.setOrder a ep) es) where
 pm:=Qhf _ _
 s0:=rfl
 item:=λs A E Q i e ha hv q=>Ql4 hb ha (by rw[hv];exact q)
 fin:=λs A E Q ha q=>Ql4 hb ha (by
  have hl:(pickOrder (w.params.setOrder a ep) es).size=es.size:=by rw[<- Ql,(Qhf _ _).length_eq,Ql]
  rw[Zd (by omega)];exact q)
theorem QsZ{prog:Qy}{w:Jc}(hb:w.params.followText "set-order" = false)(a:Addr)(es:Array (Int×Value))(ep:Nat)(t:SetTable)(hp:t.plain=true)(hl:t.led=true)(hz:t.place.size=es.size)(so:Nat->Nat)(s0:so 0=0)(hs:∀i,i<t.place.size->so (i+1)=t.place.getD i 0+1)(hbel:∀i,i<=t.place.size->JJ t.place (so i)=i):Way prog w a es ep t so es where
 pm:=Zy _
 s0:=s0
 item:=λs A E Q i e ha hv q=>QrS hb ha hp hl (by
  have hi:i<es.size:=by
   by_cases z:i<es.size
   ·exact z
   ·rw[Zd (by omega)] at hv;cases hv
  rw[hbel i (by omega),hv,show t.place[i]? = some (t.place.getD i 0) by simp[Zj,show i<t.place.size by omega]]
  dsimp only
  rw[<- hs i (by omega)];exact q)
 fin:=λs A E Q ha q=>QrS hb ha hp hl (by
  rw[hbel es.size (by omega),Zd (Qg _)];exact q)
section
variable{prog:Qy}{w:Jc}{A:Jb}{E:Value->Shared->Prop}{s:Shared}
theorem Qnu(n:Nat){k:Int}{v:Value}(h:(intKind prog w).is k v=true):hashByValue n v=pure true/\∀d,ofAClassStatement d v=pure false:=by
 cases v<;>first | (cases h;done) | skip
 all_goals first | exact⟨by cases n<;>rfl,λd=>by cases d<;>rfl⟩ | (simp[intKind] at h)
theorem Qhx{ks:List Int}{vs:List Value}(h:ItemsAre (intKind prog w) ks vs):∀v∈vs,∃k,(intKind prog w).is k v=true:=by
 induction h with
 |nil=>intro v hv;cases hv
 |cons h1 _ ih=>
  intro v hv;rcases Qu.mp hv with z | z
  ·subst z;exact⟨_,h1⟩
  ·exact ih v z
theorem Qnt{ks:List Int}{a:Addr}{Q:Bool->Shared->Prop}(hk:Zb (intKind prog w) s.heap ks a)(h:Q true s):wpAny (model prog w) A (hashByValue 8 (.ref a)) Q E s:=by
 have hT:=hk.typeIs;obtain⟨o,items,n,ho,_,hd,hi⟩:=hk;have ha:=Qhx hi;unfold hashByValue;refine wpAny_bind (QaL hT F.slot_tuple_hash.lookup ?_)
 dsimp only
 refine wpAny_bind (Z9 ho hd ?_);refine wpAny_bind ?_
 show wpAny _ _ (forIn items _ _) _ _ s;rw[<- QdT];refine Qbo _ (λrest r s'=>r.1=none/\s'=s/\∀v∈rest,∃k,(intKind prog w).is k v=true) _ ?_ ?_ _ _ ⟨rfl,rfl,ha⟩
 ·rintro v rest r s' ⟨hr,rfl,hall⟩;obtain⟨k,hk⟩:=hall v JC;rw[(Qnu _ hk).1];refine wpAny_bind (Qd ?_);simp only[Qyq,ZK,if_false];exact Qd ⟨rfl,rfl,λu hu'=>hall u (QX _ hu')⟩
 ·rintro⟨r1,r2⟩ s' ⟨hr,rfl,_⟩;simp only at hr;subst hr;exact Qd h
theorem Qhk{ks:List Int}{a:Addr}{Q:Bool->Shared->Prop}(hk:Zb (intKind prog w) s.heap ks a)(h:Q false s):wpAny (model prog w) A (ofAClassStatement 8 (.ref a)) Q E s:=by
 have hT:=hk.typeIs;obtain⟨o,items,n,ho,_,hd,hi⟩:=hk;have ha:=Qhx hi;unfold ofAClassStatement;refine wpAny_bind (Qay hT ?_)
 dsimp only
 rw[if_pos (by decide)];refine wpAny_bind (Qd ?_);rw[if_neg (by decide)];refine wpAny_bind (Z9 ho hd ?_)
 dsimp only
 refine wpAny_bind ?_
 show wpAny _ _ (forIn items _ _) _ _ s;rw[<- QdT];refine Qbo _ (λrest r s'=>r.1=none/\s'=s/\∀v∈rest,∃k,(intKind prog w).is k v=true) _ ?_ ?_ _ _ ⟨rfl,rfl,ha⟩
 ·rintro v rest r s' ⟨hr,rfl,hall⟩;obtain⟨k,hk⟩:=hall v JC;rw[(Qnu 0 hk).2];refine wpAny_bind (Qd ?_);rw[if_neg (by decide)];exact Qd ⟨rfl,rfl,λu hu'=>hall u (QX _ hu')⟩
 ·rintro⟨r1,r2⟩ s' ⟨hr,rfl,_⟩;simp only at hr;subst hr;exact Qd h
theorem Qte{ks:List Int}{a:Addr}{stored:List Value}{Q:Bool->Shared->Prop}(hk:Zb (intKind prog w) s.heap ks a)(hs:∀v∈stored,∃ks' b,v=.ref b/\Zb (intKind prog w) s.heap ks' b)(h:Q false s):wpAny (model prog w) A (searchCouldBeSeen (.ref a) stored) Q E s:=by
 unfold searchCouldBeSeen;refine wpAny_bind ?_
 refine Qbo _ (λrest r s'=>r.1=none/\s'=s/\∀v∈rest,∃ks' b,v=.ref b/\Zb (intKind prog w) s.heap ks' b) _ ?_ ?_ _ _ ⟨rfl,rfl,hs⟩
 ·rintro v rest r s' ⟨hr,rfl,hall⟩;obtain⟨ks',b,rfl,hb⟩:=hall v JC
  dsimp only
  split
  ·exact Qd ⟨rfl,rfl,λu hu'=>hall u (QX _ hu')⟩
  ·refine wpAny_bind (QsH hk ?_);rw[if_neg (by decide)];refine wpAny_bind (QsH hb ?_);rw[if_neg (by decide)];refine wpAny_bind (Qhk hk ?_);rw[if_neg (by decide)];refine wpAny_bind (Qhk hb ?_);rw[if_neg (by decide)];exact Qd ⟨rfl,rfl,λu hu'=>hall u (QX _ hu')⟩
 ·rintro⟨r1,r2⟩ s' ⟨hr,rfl,_⟩;simp only at hr;subst hr;exact Qd h
end
theorem Qe7(t:SetTable):∀(n:Nat)(p:Za),(stps t n p).dummy=p.dummy
 |0,_=>rfl
 |n+1,p=>by
  show(stps t n (t.advance p)).dummy=_;rw[Qe7 t n,QhY]
section
variable{prog:Qy}{w:Jc}{A:Jb}{E:Value->Shared->Prop}{s:Shared}
structure TS (prog:Qy) (w:Jc) (h:Heap) (a:Addr) (es:Array (Int×Value)) (ep:Nat) (t:SetTable) (ps:List (List Int×Addr)):Prop where
 at_:SetAt h a es ep t
 tab:Tab t
 ent:es.toList=ps.map λp=>(tupleKeyHash (intKind prog w) p.1,QF p.2)
 key:∀p∈ps,Zb (intKind prog w) h p.1 p.2
 nd:(ps.map (·.1)).Nodup
 rch:∀(i j:Nat)(e:Int×Value),t.place[i]? = some j->es[i]? = some e->Rch t j e.1
 mks:t.mask=7∨t.mask=31∨t.mask=127∨t.mask=511∨t.mask=2047
 few:t.place.size*5<t.mask*3
variable{a:Addr}{es:Array (Int×Value)}{ep:Nat}{t:SetTable}{ps:List (List Int×Addr)}
theorem TS.es_at(x:TS prog w s.heap a es ep t ps)(i:Nat):es[i]? = (ps[i]?).map λp=>(tupleKeyHash (intKind prog w) p.1,QF p.2):=by
 rw[<- JA,x.ent,Qo]
theorem TS.size(x:TS prog w s.heap a es ep t ps):es.size=ps.length:=by rw[<- Ql,x.ent,Qa]
theorem TS.psize(x:TS prog w s.heap a es ep t ps):t.place.size=ps.length:=by
 have:=x.at_.ft;unfold QbJ at this;have:=(JZ.mp this).1;rw[<- x.size];exact eq_of_beq this
theorem QBh(x:TS prog w s.heap a es ep t ps)(hu:A.units<cLine){ks:List Int}{b:Addr}(hk:Zb (intKind prog w) s.heap ks b){n:Nat}(hn:n<10*Jr t.mask)(he:t.slot (stps t n (t.probeStart (tupleKeyHash (intKind prog w) ks))).j=.empty){Q:SetFound->Shared->Prop}
  (hThere:ks∈ps.map (·.1)->Q (.there none) s)(hFree:ks∉ps.map (·.1)->∀j,j∉t.place.toList->j<=t.mask->Rch t j (tupleKeyHash (intKind prog w) ks)->Q (.free j false) s) :
  ∀(fuel k0:Nat)(stand:Option Za),k0<=n->n - k0<fuel->stand.getD (t.probeStart (tupleKeyHash (intKind prog w) ks))=stps t k0 (t.probeStart (tupleKeyHash (intKind prog w) ks))->(∀m,m<k0->∃i,t.slot (stps t m (t.probeStart (tupleKeyHash (intKind prog w) ks))).j=.live i/\∀p,ps[i]? = some p->p.1≠ks) ->
   wpAny (model prog w) A (setSearchFrom a (.ref b) (tupleKeyHash (intKind prog w) ks) true fuel stand) Q E s:=by
 obtain⟨o,ho,hex,hd⟩:=x.at_.at_;have hf:=x.at_.ft;intro fuel;induction fuel with
 |zero=>intro k0 stand _ h;exact absurd h (Yv _)
 |succ fuel ih=>
  intro k0 stand h1 h2 h3 h4;generalize hH:tupleKeyHash (intKind prog w) ks=H at *;unfold setSearchFrom;refine wpAny_bind (Zn ho hd hf ?_)
  dsimp only
  rw[if_neg (by unfold SetTable.gaveWay;rw[x.tab.od];decide)];obtain⟨k,hkn,pass,met⟩:=Qp6 x.tab (λi=>(es[i]?.map (·.1)).getD 0) H (n - k0) (10*Jr t.mask) (stps t k0 (t.probeStart H)) (by omega) (by rw[<- Y1,show k0+(n - k0)=n by omega];exact he) (by rw[Qe7];rfl);have eh:∀(i:Nat)(p:List Int×Addr),ps[i]? = some p->(es[i]?.map (·.1)).getD 0=tupleKeyHash (intKind prog w) p.1:=λi p hp=>by rw[x.es_at,hp];rfl
  have pass':∀m,m<k0+k->∃i,t.slot (stps t m (t.probeStart H)).j=.live i/\∀p,ps[i]? = some p->p.1≠ks:=λm hm=>by
   by_cases z:m<k0
   ·exact h4 m z
   ·obtain⟨i,hi,hne⟩:=pass (m - k0) (by omega);rw[<- Y1,show k0+(m - k0)=m by omega] at hi;refine⟨i,hi,λp hp e=>hne ?_⟩;rw[eh i p hp,e];exact hH
  rcases met with⟨m1,m2⟩ | ⟨m0,i,m1,m2,m3⟩
  ·split
   ·rename_i mt hpb
    rw[h3] at hpb;have hpb:Jx t (λi=>(es[i]?.map (·.1)).getD 0) H (10*Jr t.mask) (stps t k0 (t.probeStart H))=some mt:=hpb;rw[m1] at hpb;cases hpb
    dsimp only
    rw[<- Y1] at m2 ⊢;have nin:=x.tab.slot_e m2;refine Qd (hFree (λhin=>?_) _ nin (Qio t H _) ⟨k0+k,rfl,λm hm=>?_⟩)
    ·obtain⟨p,hp,rfl⟩:=Qs.mp hin;obtain⟨ix,hix⟩:=JR.mp hp;have hlt:ix<t.place.size:=by rw[x.psize];exact(QU.mp hix).1
     have hpl:t.place[ix]? = some t.place[ix]:=by simp[hlt]
     obtain⟨nn,e1,e2⟩:=x.rch ix _ _ hpl (by rw[x.es_at,hix];rfl)
     dsimp only at e1 e2
     rw[hH] at e1 e2;have hlive:=x.tab.slot_at hpl;rw[<- e1] at hlive;rcases ZC nn (k0+k) with z | z | z
     ·obtain⟨i',hi',hne⟩:=pass' nn z;rw[hlive] at hi';cases hi';exact hne p hix rfl
     ·rw[z,m2] at hlive;cases hlive
     ·exact nin (e2 _ z)
    ·obtain⟨i',hi',_⟩:=pass' m hm;have:=Tab.slot_l hi';exact ZO.mpr (QaP this)
   ·rename_i hpb
    rw[h3] at hpb;exact absurd (show Jx t (λi=>(es[i]?.map (·.1)).getD 0) H (10*Jr t.mask) (stps t k0 (t.probeStart H))=none from by
     cases hz:Jx t (λi=>(es[i]?.map (·.1)).getD 0) H (10*Jr t.mask) (stps t k0 (t.probeStart H)) with
     |none=>rfl
     |some q=>exact absurd hz (hpb q)) (by rw[m1];exact λe=>by cases e)
  ·split
   ·rename_i mt hpb
    rw[h3] at hpb;have hpb:Jx t (λi=>(es[i]?.map (·.1)).getD 0) H (10*Jr t.mask) (stps t k0 (t.probeStart H))=some mt:=hpb;rw[m1] at hpb;cases hpb
    dsimp only
    have hpi:=Tab.slot_l m2;have hlt:i<ps.length:=by rw[<- x.psize];exact(Y0.mp hpi).1
    obtain⟨p,hp⟩:∃p,ps[i]? = some p:=⟨ps[i],by simp[hlt]⟩
    have hpm:=QJ hp;have hei:es[i]? = some (tupleKeyHash (intKind prog w) p.1,QF p.2):=by rw[x.es_at,hp];rfl
    have hst:∀v∈(List.map (λx=>x.2) (Array.filter (λx=>x.1 == H) es).toList),∃ks' b,v=QF b/\Zb (intKind prog w) s.heap ks' b:=λv hv=>by
     obtain⟨e,he',rfl⟩:=Qs.mp hv;have he':e∈es.toList:=by
      rw[QlH] at he';exact(JB.mp he').1
     rw[x.ent] at he';obtain⟨q,hq,rfl⟩:=Qs.mp he';exact⟨q.1,q.2,rfl,x.key q hq⟩
    have sm:t.sameMemory t.moves t.mask=some true:=by unfold SetTable.sameMemory;rw[if_pos (by simp)]
    split
    ·refine wpAny_bind (Qte hk hst ?_);rw[if_neg (by decide)];rw[hei]
     dsimp only
     refine wpAny_bind (J3 (Qyf hu (x.key p hpm) hk ?_));refine wpAny_bind (Zn ho hd hf ?_)
     dsimp only
     by_cases z:p.1=ks
     ·rw[if_pos (by simp[z])];exact Qd (hThere (Qs.mpr ⟨p,hpm,z⟩))
     ·rw[if_neg (by simp[z]),sm]
      dsimp only
      rw[if_pos rfl,m2]
      dsimp only
      rw[hei]
      dsimp only
      refine wpAny_bind ?_
      unfold isSame
      dsimp only
      rw[if_pos (by simp)];refine Qd (wpAny_bind (Qd ?_));rw[if_pos rfl]
      dsimp only
      rw[if_neg (by simp[z])];refine ih (k0+k+1) _ (by omega) (by omega) (by rw[<- Y1];rfl) λm hm=>?_
      by_cases y:m<k0+k
      ·exact pass' m y
      ·obtain rfl:m=k0+k:=by omega
       refine⟨i,by rw[Y1];exact m2,λq hq=>?_⟩;rw[hp] at hq;cases hq;exact z
    ·rw[hei]
     dsimp only
     refine wpAny_bind (J3 (Qyf hu (x.key p hpm) hk ?_));refine wpAny_bind (Zn ho hd hf ?_)
     dsimp only
     by_cases z:p.1=ks
     ·rw[if_pos (by simp[z])];exact Qd (hThere (Qs.mpr ⟨p,hpm,z⟩))
     ·rw[if_neg (by simp[z]),sm]
      dsimp only
      rw[if_pos rfl,m2]
      dsimp only
      rw[hei]
      dsimp only
      refine wpAny_bind ?_
      unfold isSame
      dsimp only
      rw[if_pos (by simp)];refine Qd (wpAny_bind (Qd ?_));rw[if_pos rfl]
      dsimp only
      rw[if_neg (by simp[z])];refine ih (k0+k+1) _ (by omega) (by omega) (by rw[<- Y1];rfl) λm hm=>?_
      by_cases y:m<k0+k
      ·exact pass' m y
      ·obtain rfl:m=k0+k:=by omega
       refine⟨i,by rw[Y1];exact m2,λq hq=>?_⟩;rw[hp] at hq;cases hq;exact z
   ·rename_i hpb
    rw[h3] at hpb;exact absurd (show Jx t (λi=>(es[i]?.map (·.1)).getD 0) H (10*Jr t.mask) (stps t k0 (t.probeStart H))=none from by
     cases hz:Jx t (λi=>(es[i]?.map (·.1)).getD 0) H (10*Jr t.mask) (stps t k0 (t.probeStart H)) with
     |none=>rfl
     |some q=>exact absurd hz (hpb q)) (by rw[m1];exact λe=>by cases e)
end
def Sm(m:Nat):List Nat:=(Qf 6).filter m.testBit
def tb(m:Nat)(led:Bool):SetTable:={ mask:=if 5<=(Sm m).length then 31 else 7,place:=(Sm m).toArray,dummies:=#[],finger:=0,led:=led,moves:=if 5<=(Sm m).length then 1 else 0,plain:=true }
def so(m i:Nat):Nat:=match i with
 |0=>0
 |i+1=>(Sm m).toArray.getD i 0+1
def EsOk(es:Array (Int×Value))(S:List Nat):Prop:=∃tks:List Tok,tks.length=S.length/\es.toList=QyY (λ(v:Nat)(tk:Tok)=>((v:Int),Qbc (v:Int) tk)) S tks
theorem EsOk.size{es:Array (Int×Value)}{S:List Nat}(h:EsOk es S):es.size=S.length:=by
 obtain⟨tks,hl,e⟩:=h;rw[<- Ql,e,List.length_zipWith,hl,QcX]
theorem Qy8{S:List Nat}{e:Int×Value}:∀{tks:List Tok},e∈QyY (λ(v:Nat)(tk:Tok)=>((v:Int),Qbc (v:Int) tk)) S tks->∃v∈S,∃tk,e=((v:Int),.int v tk):=by
 induction S with
 |nil=>intro tks h;cases tks<;>cases h
 |cons x S ih=>
  intro tks h;cases tks with
  |nil=>cases h
  |cons t tks=>
   rcases Qu.mp h with z | z
   ·exact⟨x,.head _,t,z⟩
   ·obtain⟨v,hv,r⟩:=ih z;exact⟨v,.tail _ hv,r⟩
theorem SetAt.store{h:Heap}{a:Addr}{es es':Array (Int×Value)}{ep:Nat}{t t':SetTable}(x:SetAt h a es ep t)(hf:t'.fits es'.size=true):SetAt (h.update a (Qi8 es' t')) a es' (ep+1) t':=by
 obtain⟨o,ho,hex,hd⟩:=x.at_;have hg:=J6 (Qi8 es' t') ho (by rw[putSet_of es' t' hd];rfl);rw[putSet_of es' t' hd] at hg;exact⟨⟨_,hg,hex,rfl⟩,hf⟩
section
variable{prog:Qy}{w:Jc}{A:Jb}{E:Value->Shared->Prop}{s:Shared}
end
section
variable{prog:Qy}{w:Jc}{A:Jb}{R:Result->Shared->Prop}{I:Addr}{fp wr:List Addr}{n:Nat}{P:Nat->Value->Prop}{St:Nat->Heap->Prop}
end
theorem ins_get{α β:Type}{l1:List α}{l2:List β}(hl:l1.length=l2.length){p:Nat}(hp:p<=l1.length){x:α}{y:β}{i:Nat}{u:α}{v:β}(h1:(l1.take p++x::l1.drop p)[i]? = some u)(h2:(l2.take p++y::l2.drop p)[i]? = some v):(u=x/\v=y)∨∃k:Nat,l1[k]? = some u/\l2[k]? = some v:=by
 have t1:(l1.take p).length=p:=by rw[Zh];omega
 have t2:(l2.take p).length=p:=by rw[Zh];omega
 rcases ZC i p with z | z | z
 ·rw[Yn (by omega),Qii z] at h1 h2;exact .inr ⟨i,h1,h2⟩
 ·subst z;rw[JS (by omega),t1,QlA] at h1;rw[JS (by omega),t2,QlA] at h2;exact .inl ⟨(Qx h1).symm,(Qx h2).symm⟩
 ·rw[JS (by omega),t1,show i - p=(i - p - 1)+1 by omega,Zr,QoA] at h1;rw[JS (by omega),t2,show i - p=(i - p - 1)+1 by omega,Zr,QoA] at h2;exact .inr ⟨_,h1,h2⟩
section
variable{prog:Qy}{w:Jc}{A:Jb}{E:Value->Shared->Prop}{s:Shared}{a:Addr}{es:Array (Int×Value)}{ep:Nat}{t:SetTable}{ps:List (List Int×Addr)}
theorem TS.other(x:TS prog w s.heap a es ep t ps){ks:List Int}{b:Addr}(hk:Zb (intKind prog w) s.heap ks b):b≠a:=λe=>by
 subst e;obtain⟨o,ho,hex,hd⟩:=x.at_.at_;obtain⟨o',it,n,ho',hc,_⟩:=hk;rw[ho] at ho';cases ho';rw[hex.1] at hc;exact absurd hc (by decide)
theorem QiK{h:Heap}{f:Obj->Obj}{ks:List Int}{b:Addr}(hk:Zb (intKind prog w) h ks b)(hne:b≠a):Zb (intKind prog w) (h.update a f) ks b:=by
 obtain⟨o',it,n,ho',r⟩:=hk;exact⟨o',it,n,(YG _ _ (QaB hne)).trans ho',r⟩
theorem TS.put(x:TS prog w s.heap a es ep t ps){ks:List Int}{b:Addr}(hk:Zb (intKind prog w) s.heap ks b)(hnew:ks∉ps.map (·.1)){j:Nat}(hj:j∉t.place.toList)(hm:j<=t.mask)(hr:Rch t j (tupleKeyHash (intKind prog w) ks)) :
  SetAt (s.heap.update a (Qi8 (Zx es (t.put j).2 (tupleKeyHash (intKind prog w) ks,QF b)) (t.put j).1)) a (Zx es (t.put j).2 (tupleKeyHash (intKind prog w) ks,QF b)) (ep+1) (t.put j).1 /\
  Tab (t.put j).1/\(Zx es (t.put j).2 (tupleKeyHash (intKind prog w) ks,QF b)).toList=(ps.take (t.put j).2++(ks,b)::ps.drop (t.put j).2).map (λp=>(tupleKeyHash (intKind prog w) p.1,QF p.2)) /\
  (∀p∈ps.take (t.put j).2++(ks,b)::ps.drop (t.put j).2,Zb (intKind prog w) (s.heap.update a (Qi8 (Zx es (t.put j).2 (tupleKeyHash (intKind prog w) ks,QF b)) (t.put j).1)) p.1 p.2) /\
  (ps.take (t.put j).2++(ks,b)::ps.drop (t.put j).2).Perm ((ks,b)::ps) /\
  (∀(i j':Nat)(e:Int×Value),(t.put j).1.place[i]? = some j'->(Zx es (t.put j).2 (tupleKeyHash (intKind prog w) ks,QF b))[i]? = some e->Rch (t.put j).1 j' e.1) /\
  (t.put j).1.place.size=ps.length+1:=by
 obtain⟨T,pl,m1,m2,m3,m4⟩:=x.tab.put hj hm;have hle:(t.put j).2<=t.place.toList.length:=by
  rw[Ql];exact(Qcp x.tab.pw j).1
 have hsz:(t.put j).1.place.size=ps.length+1:=by
  rw[<- Ql,pl,<- x.psize,<- Ql,Qw,QC,Zh,Yg];omega
 have hes:(Zx es (t.put j).2 (tupleKeyHash (intKind prog w) ks,QF b)).toList=es.toList.take (t.put j).2++(tupleKeyHash (intKind prog w) ks,QF b)::es.toList.drop (t.put j).2:=QfF _ _ _;have hent:(Zx es (t.put j).2 (tupleKeyHash (intKind prog w) ks,QF b)).toList=(ps.take (t.put j).2++(ks,b)::ps.drop (t.put j).2).map (λp=>(tupleKeyHash (intKind prog w) p.1,QF p.2)):=by
  rw[hes,x.ent,Q3,Js,Qa5,QdX]
 have hpm:(ps.take (t.put j).2++(ks,b)::ps.drop (t.put j).2).Perm ((ks,b)::ps):=by
  refine QsQ.trans ?_
  rw[Yi]
 have hs1:(Zx es (t.put j).2 (tupleKeyHash (intKind prog w) ks,QF b)).size=ps.length+1:=by
  rw[<- Ql,hent,Qa,hpm.length_eq,QC]
 have hfew:(t.put j).1.place.size<=(t.put j).1.mask:=by
  rw[hsz,m1,<- x.psize];have:=x.few;have:=x.mks;omega
 refine⟨x.at_.store ?_,T,hent,λp hp=>?_,hpm,λi j' e h1 h2=>?_,hsz⟩
 ·unfold QbJ QgE;rw[m4,hsz,hs1];rw[hsz] at hfew;simp[hfew]
 ·rcases Qu.mp (hpm.mem_iff.mp hp) with z | z
  ·subst z;exact QiK hk (x.other hk)
  ·exact QiK (x.key p z) (x.other (x.key p z))
 ·rw[<- JA,pl] at h1;rw[<- JA,hes] at h2;have hl:t.place.toList.length=es.toList.length:=by rw[Ql,Ql,x.psize,x.size]
  have grow:∀y∈t.place.toList,y∈(t.put j).1.place.toList:=λy hy=>by
   rw[pl];rw[<- Yi (t.put j).2 t.place.toList] at hy;rcases JM.mp hy with z | z
   ·exact Y6 _ z
   ·exact Ju _ (.tail _ z)
  rcases ins_get hl hle h1 h2 with⟨rfl,rfl⟩ | ⟨k,q1,q2⟩
  ·exact hr.mono m1 grow
  ·exact(x.rch k j' e (by rw[<- JA];exact q1) (by rw[<- JA];exact q2)).mono m1 grow
end
theorem Qnv{t:SetTable}(h:t.mask=7∨t.mask=31∨t.mask=127∨t.mask=511∨t.mask=2047):Qcc (t.mask+1)=true:=by
 rcases h with h | h | h | h | h<;>rw[h]
 ·exact Qso
 ·exact QuT
 ·exact Qp4
 ·exact Qp3
 ·exact Qnw
section
variable{prog:Qy}{w:Jc}{A:Jb}{E:Value->Shared->Prop}{s:Shared}{a:Addr}{es:Array (Int×Value)}{ep:Nat}{t:SetTable}{ps:List (List Int×Addr)}
theorem Qzi{m wanted:Nat}{ps:List (List Int×Addr)}(hA:SetAt s.heap a es ep t)(hpl:t.plain=true)(hent:es.toList=ps.map λp=>(tupleKeyHash (intKind prog w) p.1,QF p.2))(hkey:∀p∈ps,Zb (intKind prog w) s.heap p.1 p.2)(hoth:∀p∈ps,p.2≠a)(hnd:(ps.map (·.1)).Nodup)
  (hw:Qkj wanted=m+1)(hm:m=7∨m=31∨m=127∨m=511∨m=2047)(hf:ps.length*5<m*3){Q:Unit->Shared->Prop}
  (h:∀h' es' t' ps',TS prog w h' a es' (ep+1) t' ps'->ps'.Perm ps->t'.led=t.led->ZH a s.heap h'->Q () { s with heap:=h' }):wpAny (model prog w) A (setRelay a wanted) Q E s:=by
 obtain⟨o,ho,hex,hd⟩:=hA.at_;have hsz:es.size=ps.length:=by rw[<- Ql,hent,Qa]
 have hg:Qcc (m+1)=true:=Qnv (t:=tM m) hm;obtain⟨t2,order,el,T,m1,m2,m3,m4,m5⟩:=QkW (finger:=t.finger) (moves:=t.movedTo m) (led:=t.led) hg (by omega) (es.map (·.1)) (by rw[QvA,hsz];omega);rw[QvA] at m3 m4;have pe:=QkM (es:=es) m4;have sz2:(order.filterMap (es[·]?)).size=es.size:=by rw[<- Ql,pe.length_eq,Ql]
 unfold setRelay;refine wpAny_bind (Zn ho hd hA.ft ?_)
 dsimp only
 rw[if_neg (by rw[hw,ZI];omega)];refine wpAny_bind ?_
 have erl:t.relaid (es.map (·.1)) wanted=some (t2,order):=by
  unfold SetTable.relaid;rw[hw,Qeh,hpl];exact el
 rw[erl];show wpAny (model prog w) A (if((order.filterMap (es[·]?)).size != es.size)=true then _ else _) _ E s;rw[if_neg (by rw[sz2];simp)];refine Qd ?_
 dsimp only
 have fit:t2.fits (order.filterMap (es[·]?)).size=true:=by
  unfold QbJ QgE;rw[T.dm,m3,sz2,hsz,m1];simp;omega
 refine QyC ho hd ?_ (by rw[sz2,hsz,ZI];omega)
 obtain⟨ps',pp,ep'⟩:∃ps':List (List Int×Addr),ps'.Perm ps/\(order.filterMap (es[·]?)).toList=ps'.map λp=>(tupleKeyHash (intKind prog w) p.1,QF p.2):=by
  rw[hent] at pe;have key:∀{l k:List (Int×Value)},l.Perm k->∀{T:List (List Int×Addr)},k=T.map (λp=>(tupleKeyHash (intKind prog w) p.1,QF p.2))->∃T':List (List Int×Addr),T'.Perm T/\l=T'.map λp=>(tupleKeyHash (intKind prog w) p.1,QF p.2):=by
   intro l k p;induction p with
   |nil=>intro T e;exact⟨T,Zy _,e⟩
   |@cons x l1 l2 _ ih=>
    intro T e;cases T with
    |nil=>cases e
    |cons y T=>
     injection e with e1 e2
     obtain⟨T',p',e'⟩:=ih e2;exact⟨y::T',p'.cons y,by rw[e1,e'];rfl⟩
   |swap x y l=>
    intro T e
    match T,e with
    |u::v::T,e=>
     injection e with e1 e2
     injection e2 with e2 e3
     exact⟨v::u::T,QeX _ _ _,by rw[e1,e2,e3];rfl⟩
   |trans _ _ ih1 ih2=>
    intro T e;obtain⟨T1,p1,e1⟩:=ih2 e;obtain⟨T2,p2,e2⟩:=ih1 e1;exact⟨T2,p2.trans p1,e2⟩
  exact key pe rfl
 refine h _ _ t2 ps' ⟨hA.store fit,T,ep',λp hp=>QiK (hkey p (pp.mem_iff.mp hp)) (hoth p (pp.mem_iff.mp hp)),(pp.map (·.1)).nodup_iff.mpr hnd,λi j e h1 h2=>?_,by rw[m1];exact hm,by rw[m3,hsz,m1];exact hf⟩ pp m2 (JN ..);have hlt:i<order.size:=by
  have:order.size=es.size:=by
   have:=m4.length_eq;rw[Ql,Qr] at this;exact this
  rw[this,<- m3];exact(Y0.mp h1).1
 have hok:order[i]? = some order[i]:=by simp[hlt]
 have hr:=m5 i j order[i] h1 hok;have hin:order[i]<es.size:=Qz.mp (m4.mem_iff.mp (ZO.mpr (Qej hlt)));have e2:e=es[order[i]]:=by
  have key:∀(l:List Nat),(∀x∈l,x<es.size)->∀i:Nat,(l.filterMap (es[·]?))[i]? = (l[i]?).bind (es[·]?):=λl=>by
   induction l with
   |nil=>intro _ i;rfl
   |cons x l ih=>
    intro hx i;have hx1:x<es.size:=hx x (.head _);have hx0:es[x]? = some es[x]:=by simp[hx1]
    rw[Z4,hx0];cases i with
    |zero=>simp[hx0]
    |succ i=>exact ih (λy hy=>hx y (.tail _ hy)) i
  rw[<- JA,Qjd,key order.toList λy hy=>Qz.mp (m4.mem_iff.mp hy)] at h2;rw[JA,hok] at h2;simp[hin] at h2;exact h2.symm
 have e3:(es.map (·.1)).getD order[i] 0=e.1:=by rw[e2];simp[Zj,hin]
 rw[e3] at hr;exact hr
theorem QAh(x:TS prog w s.heap a es ep t ps)(hu:A.units<cLine){ks:List Int}{b:Addr}(hk:Zb (intKind prog w) s.heap ks b)(h300:ps.length<1200){Q:Bool->Shared->Prop}
  (h1:ks∈ps.map (·.1)->∀tk,Q false { s with toks:=tk })
  (h2:ks∉ps.map (·.1)->∀h' es' ep' t' ps' tk,TS prog w h' a es' ep' t' ps'->ps'.Perm ((ks,b)::ps)->t'.led=t.led->ZH a s.heap h'->Q true { s with heap:=h',toks:=tk }):wpAny (model prog w) A (setAdd a (.ref b)) Q E s:=by
 obtain⟨o,ho,hex,hd⟩:=x.at_.at_;unfold setAdd;refine J3 (wpAny_bind (wpAny_pyHash_tuple hu hk ?_));unfold setAddHashed;refine J3 ?_
 unfold setAddHashedIn;refine wpAny_bind (Zn (s:={ s with toks:=s.toks+(ks.length+1) }) ho hd x.at_.ft ?_)
 dsimp only
 rw[if_neg (by unfold byScan Value.scannable;simp)];have hsm:t.place.size<=t.mask:=by
  have:=x.few;omega
 obtain⟨j0,hj0,hj1⟩:=x.tab.room hsm;obtain⟨n,hn,en⟩:=QkB t (Qnv x.mks) (tupleKeyHash (intKind prog w) ks) hj0;have x':TS prog w ({ s with toks:=s.toks+(ks.length+1) }:Shared).heap a es ep t ps:=x;have hn2:n<100000:=by
  have:=x.mks;unfold Jr at hn;omega
 refine wpAny_bind (QBh (s:={ s with toks:=s.toks+(ks.length+1) }) x' hu hk hn (by rw[en];exact x.tab.slot_no hj1) (λhin=>?_) (λhnot j hj hjm hr=>?_) 100000 0 none (Q7 _) (by omega) rfl λm hm=>absurd hm (Yv _))
 ·exact Qd (h1 hin _)
 ·dsimp only
  refine wpAny_bind (Zn (s:={ s with toks:=s.toks+(ks.length+1) }) ho hd x.at_.ft ?_)
  dsimp only
  obtain⟨q1,q2,q3,q4,q5,q6,q7⟩:=TS.put (s:={ s with toks:=s.toks+(ks.length+1) }) x' hk hnot hj hjm hr;obtain⟨T,pl,m1,m2,m3,m4⟩:=x.tab.put hj hjm;generalize hpt:t.put j=pt at *;obtain⟨t1,p1⟩:=pt
  dsimp only at *
  have hsz1:(Zx es p1 (tupleKeyHash (intKind prog w) ks,QF b)).size=ps.length+1:=by rw[<- Ql,q3,Qa,q5.length_eq,QC]
  have hfill:t1.fill=ps.length+1:=by unfold QgE;rw[m4,q7];rfl
  have hfew:=x.few;have hmk:=x.mks;have hps:=x.psize;have hes:=x.size;have hoth:∀p∈ps.take p1++(ks,b)::ps.drop p1,p.2≠a:=λp hp=>by
   rcases Qu.mp (q5.mem_iff.mp hp) with z | z
   ·subst z;exact x.other hk
   ·exact x.other (x.key p z)
  have hnd:((ps.take p1++(ks,b)::ps.drop p1).map (·.1)).Nodup:=(q5.map (·.1)).nodup_iff.mpr (by rw[Js];exact Jd.mpr ⟨hnot,x.nd⟩);rw[if_pos q2.pl];refine wpAny_bind (Qnt hk ?_);simp only[↓reduceIte,Qdn,Qjc];refine wpAny_bind (QyC (s:={ s with toks:=s.toks+(ks.length+1) }) ho hd ?_ (by rw[hsz1,ZI];omega));by_cases z:t1.tooFull=true
  ·rw[if_pos z];have z':t1.fill*5≥t1.mask*3:=of_decide_eq_true z;rw[hfill,m1] at z';obtain⟨m,hw,hm,hf⟩:∃m,Qkj (SetTable.grown (es.size+1))=m+1/\(m=7∨m=31∨m=127∨m=511∨m=2047)/\(ps.length+1)*5<m*3:=by
    rw[hes];rcases hmk with e | e | e | e | e
    ·have:ps.length=4:=by omega
     rw[this];exact⟨31,by decide,by decide,by decide⟩
    ·have:ps.length=18:=by omega
     rw[this];exact⟨127,by decide,by decide,by decide⟩
    ·have:ps.length=76:=by omega
     rw[this];exact⟨511,by decide,by decide,by decide⟩
    ·have:ps.length=306:=by omega
     rw[this];exact⟨2047,by decide,by decide,by decide⟩
    ·omega
   refine wpAny_bind (Qzi q1 q2.pl q3 q4 hoth hnd hw hm (by rw[q5.length_eq,QC];exact hf) λh' es' t' ps' ts pp led sb=>Qd (h2 hnot h' es' _ t' ps' _ ts (pp.trans q5) (led.trans m2) ((JN ..).trans sb)))
  ·rw[if_neg z];have z':¬t1.fill*5≥t1.mask*3:=λc=>z (decide_eq_true c)
   rw[hfill] at z';exact Qd (h2 hnot _ _ _ _ _ _ ⟨q1,q2,q3,q4,hnd,q6,by rw[m1];exact hmk,by rw[q7];omega⟩ q5 m2 (JN ..))
end
section
variable{prog:Qy}{w:Jc}{A:Jb}{E:Value->Shared->Prop}{s:Shared}
def Qa2(w:Jc):Bool := !w.params.followText "set-order"
theorem Qtd(a:Value){Q:Value->Shared->Prop}(h:Q (.ref s.heap.objs.size) { s with heap:=s.heap.push { cls:=.type "set",dict:=none,data:=.set #[] 0 (.fresh 0 0 (Qa2 w)) } }):codeAny (model prog w) A (.call (.builtin "set.__new__") ⟨[.type "set",a],[]⟩) (wants Q E) s:=by
 refine QdP (by
  show wpAny _ A.in1 (do checkBuiltinCall "set.__new__" ⟨[.type "set",a],[]⟩;again (.builtin "set.__new__" ⟨[.type "set",a],[]⟩)) _ _ s;refine wpAny_bind (Yd (PySem.F.newCall_set_1 a) (Qd ⟨QaM Qy2 _,Ye F.entry_set_new ?_⟩));rw[Zo Qy2 _];unfold Yw.«set.__new__» QsV;have hsub:=sub_set_self;obtain⟨hp,g,d,tk,os⟩:=s
  dsimp only;wp_walk
  refine YL (Qd ?_);dsimp only;simp only[newObj];refine wpAny_bind (wpAny_alloc (Qd ?_));exact Qd h)
end
section
variable{prog:Qy}{w:Jc}{s:Shared}{a:Addr}{es:Array (Int×Value)}{ep:Nat}{t:SetTable}{ps:List (List Int×Addr)}
theorem QjU{h h':Heap}{ks:List Int}{b:Addr}(hk:Zb (intKind prog w) h ks b)(k:∀o,h.get? b=some o->h'.get? b=some o):Zb (intKind prog w) h' ks b:=by
 obtain⟨o',it,n,ho',r⟩:=hk;exact⟨o',it,n,k o' ho',r⟩
theorem TS.at'{h h':Heap}(x:TS prog w h a es ep t ps)(k:∀o,h.get? a=some o->h'.get? a=some o)(k2:∀p∈ps,∀o,h.get? p.2=some o->h'.get? p.2=some o):TS prog w h' a es ep t ps:=
 ⟨x.at_.at' k,x.tab,x.ent,λp hp=>QjU (x.key p hp) (k2 p hp),x.nd,x.rch,x.mks,x.few⟩
structure TSt (prog:Qy) (w:Jc) (h:Heap) (a:Addr) (ys:List (List Int×Addr)) (led:Bool):Prop where
 ex:∃es ep t ps,TS prog w h a es ep t ps/\t.led=led/\ps.length<=ys.length/\(∀p∈ps,p∈ys)/\∀y∈ys,y.1∈ps.map (·.1)
theorem Qs2(led:Bool):Tab (Qbl 0 0 led):=⟨by simp[Qbl],by simp[Qbl],rfl,Qso,rfl,by show 7 % 2=1;decide⟩
variable{A:Jb}{R:Result->Shared->Prop}{I:Addr}{fp wr:List Addr}{n:Nat}{P:Nat->Value->Prop}{St:Nat->Heap->Prop}
theorem QlK(W:Walks prog w A.in1 I fp wr n P St)(S:Addr)(hSf:S∉fp){led:Bool}(hu:A.in1.units<cLine)(f:Nat->List Int×Addr)(hval:∀i v,P i v->v=.ref (f i).2)(hwr:∀i,i<n->(f i).2∉wr)(h300:n<=1000) :
  ∀(k i:Nat)(s:Shared),n - i=k->i<=n->St i s.heap->(∀j,j<n->Zb (intKind prog w) s.heap (f j).1 (f j).2)->TSt prog w s.heap S ((Qf i).map f) led ->
   (∀h' tk,(∀b o,b∉S::wr->s.heap.get? b=some o->h'.get? b=some o)->TSt prog w h' S ((Qf n).map f) led->R (.ok (.ret .none)) { s with heap:=h',toks:=tk }) ->
   codeAny (model prog w) A (.builtin "set.update.loop" ⟨[.ref S,.ref I],[]⟩) R s:=by
 have hSw:S∉wr:=λz=>hSf (W.sub _ z)
 have adr:∀{i:Nat},i<=n->∀p∈(Qf i).map f,p.2∉wr:=λ{i} hi p hp=>by
  obtain⟨j,hj,rfl⟩:=Qs.mp hp;exact hwr j (by have:=Qz.mp hj;omega)
 intro k;induction k with
 |zero=>
  intro i s hk hi hst hK hS hR;obtain rfl:i=n:=by omega
  refine Ye QbT ?_
  rw[Zo ZE _];show wpAny _ A.in1 (pyNext (.ref I) >>= _) _ _ s;refine wpAny_bind (W.done s _ _ hst λh' tk hk'=>Qd (hR h' tk (λb o hb e=>hk' b o (λz=>hb (QX _ z)) e) ?_));obtain⟨es,ep,t,ps,x,hl,hn,hsub,hall⟩:=hS.ex;exact⟨es,ep,t,ps,x.at' (λo e=>hk' S o hSw e) (λp hp o e=>hk' _ o (adr (Qg _) p (hsub p hp)) e),hl,hn,hsub,hall⟩
 |succ k ih=>
  intro i s hk hi hst hK hS hR;have hlt:i<n:=by omega
  refine Ye QbT ?_
  rw[Zo ZE _];show wpAny _ A.in1 (pyNext (.ref I) >>= _) _ _ s;refine wpAny_bind (W.item i s _ _ hlt hst λv h' tk hP hst' hk'=>?_);obtain rfl:=hval i v hP;obtain⟨es,ep,t,ps,x,hl,hn,hsub,hall⟩:=hS.ex;have x':TS prog w h' S es ep t ps:=x.at' (λo e=>hk' S o hSw e) (λp hp o e=>hk' _ o (adr hi p (hsub p hp)) e);have hK':∀j,j<n->Zb (intKind prog w) h' (f j).1 (f j).2:=λj hj=>QjU (hK j hj) λo e=>hk' _ o (hwr j hj) e
  rw[Qa,Qr] at hn;have er:(Qf (i+1)).map f=(Qf i).map f++[f i]:=by rw[JL,Q3];rfl
  show wpAny _ A.in1 (holding [_] (setAdd S _) >>= _) _ _ _;refine wpAny_bind (J3 (QAh (s:={ s with heap:=h',toks:=tk }) x' hu (hK' i hlt) (by omega) (λhin tk'=>?_) λhnot h2 es2 ep2 t2 ps2 tk' x2 pp hl2 sb=>?_))
  ·refine Qd ⟨QaM ZE _,ih (i+1) _ (by omega) hlt hst' hK' ⟨es,ep,t,ps,x',hl,by rw[Qa,Qr];omega,λp hp=>?_,λy hy=>?_⟩ λh3 tk3 hk3 hS3=>hR h3 tk3 (λb o hb e=>?_) hS3⟩
   ·rw[er];exact Y6 _ (hsub p hp)
   ·rw[er] at hy;rcases JM.mp hy with z | z
    ·exact hall y z
    ·rw[Q5.mp z];exact hin
   ·exact hk3 b o hb (hk' b o (λz=>hb (QX _ z)) e)
  ·have oth:∀b o,b≠S->h'.get? b=some o->h2.get? b=some o:=λb o hb e=>by
    rw[sb.2 b hb];exact e
   refine Qd ⟨QaM ZE _,ih (i+1) _ (by omega) hlt (W.frame _ h' _ hst' λb hb o e=>oth b o (λz:b=S=>hSf (by rw[<- z];exact hb)) e) (λj hj=>QjU (hK' j hj) λo e=>oth _ o (x'.other (s:={ s with heap:=h' }) (hK' j hj)) e) ⟨es2,ep2,t2,ps2,x2,hl2.trans hl,by rw[pp.length_eq,QC,Qa,Qr];omega,λp hp=>?_,λy hy=>?_⟩ λh3 tk3 hk3 hS3=>hR h3 tk3 (λb o hb e=>?_) hS3⟩
   ·rw[er];rcases Qu.mp (pp.mem_iff.mp hp) with z | z
    ·rw[z];exact Ju _ (.head _)
    ·exact Y6 _ (hsub p z)
   ·have pm:=pp.map (·.1);rw[er] at hy;rcases JM.mp hy with z | z
    ·exact pm.mem_iff.mpr (.tail _ (hall y z))
    ·rw[Q5.mp z];exact pm.mem_iff.mpr (.head _)
   ·exact hk3 b o hb (oth b o (λz:b=S=>hb (by rw[z];exact JC)) (hk' b o (λz=>hb (QX _ z)) e))
end
section
variable{prog:Qy}{w:Jc}{A:Jb}{E:Value->Shared->Prop}{s:Shared}
end
theorem Ql5:Slot "set_iterator" "__iter__" "set_iterator.__iter__" :=
 .of (owner := "set_iterator") (n := "__iter__") (by rw[Qkg,QdQ];kernel_rfl) (by decide +kernel) (by decide +kernel) (by decide +kernel) (by first | exact .inl (by decide +kernel) | exact .inr (by decide +kernel)) (by rw[Qcq];kernel_rfl)
theorem Qz2:entryFor table "set_iterator.__iter__" = some Yw.«dict_keyiterator.__iter__» := entryFor_alias (id' := "dict_keyiterator.__iter__") (by kernel_rfl) (by first | rfl | decide +kernel | (unfold QsL;simp +decide [Qoh])) (by decide +kernel) (by kernel_rfl)
theorem QAg(a:Value):argsOk "set_iterator.__iter__" ⟨[a],[]⟩:=by
 unfold argsOk;rw[signature?_of (id := "set_iterator.__iter__") (n:=['_', '_', 'r', 'e', 't', 'i', '_', '_']) (o:=['r', 'o', 't', 'a', 'r', 'e', 't', 'i', '_', 't', 'e', 's']) (by kernel_rfl) Qw1];kernel_rfl
theorem QuH:typeLookup (.type "set") "__len__" = pure (some (.builtin "set.__len__")):=by rw[Qkg,QdQ];kernel_rfl
section
variable{prog:Qy}{w:Jc}{A:Jb}{E:Value->Shared->Prop}{s:Shared}
theorem Qtc{I a:Addr}{first:Value}{i n ep:Nat}{Q:Value->Shared->Prop}(hit:IsSI s.heap I first i a n ep)(h:Q (.ref I) s):wpAny (model prog w) A (pyIter (.ref I)) Q E s:=by
 refine QgQ hit.typeIs Ql5 (Jy Ql5 hit.typeIs Qz2 ?_ (QAg _));show wpAny _ _ (ret (.ref I)) _ _ s;exact Qd ⟨_,rfl, "set_iterator",_,hit.typeIs,Qdq.lookup,h⟩
theorem QiW{a:Addr}{es vs:Array (Int×Value)}{ep:Nat}{t:SetTable}{so:Nat->Nat}{Q:List Value->Shared->Prop}(hh:A.handled=none)(W:Way prog w a es ep t so vs)(ha:SetAt s.heap a es ep t)(hp:t.plain=true)(hn:es.size<=sizeLine)
  (hQ:∀(h':Heap)(tk:Nat),(∀b o,s.heap.get? b=some o->h'.get? b=some o)->Q (vs.toList.map (·.2)) { s with heap:=h',toks:=tk }):wpAny (model prog w) A (collect (.ref a)) Q E s:=by
 have hlt:a<s.heap.objs.size:=let ⟨o,ho,_⟩:=ha.at_;Qk ho
 unfold collect;refine wpAny_bind (Qls (Ye QoF ?_));rw[Zo QoE _];show wpAny _ A.in1 (newList [] >>= λl=>again (.builtin "list.__iadd__" ⟨[l,.ref a],[]⟩)) _ _ s;refine wpAny_bind (Q4 (Qd ⟨QaM Qcv _,Ye QvR ?_⟩));rw[Zo Qcv _];generalize hH:s.heap.push { cls:=.type "list",data:=.seq ([]:List Value).toArray }=H;have hHs:H.objs.size=s.heap.objs.size+1:=by rw[<- hH,JG]
 have keep:∀b o,s.heap.get? b=some o->H.get? b=some o:=λb o e=>hH ▸ Qc _ e
 have hS:H.get? s.heap.objs.size=some { cls:=.type "list",data:=.seq ([]:List Value).toArray }:=hH ▸ Qm _ rfl;have ha1:SetAt H a es ep t:=ha.at' λo e=>keep a o e
 have hT:Qh1 { s with heap:=H } (.ref a) "set" := let ⟨o,ho,hx,_⟩:=ha1.at_;⟨o,ho,hx.1⟩
 show wpAny _ A.in1 (QaI (.ref s.heap.objs.size) (.ref a) (.ref s.heap.objs.size)) _ _ { s with heap:=H };unfold QaI;refine wpAny_bind (Qay hT ?_);have h1:Qei (.ref s.heap.objs.size) (.ref a)=false:=by simp[Qei,YQ hlt]
 have h2:(YO "set" == YO "list")=false:=by decide
 have h3:(YO "set" == YO "tuple")=false:=by decide
 simp only[h1,h2,h3,Bool.or_false,ZK,if_false];refine wpAny_bind (Qxv ha1 hp ?_);generalize hH2:Heap.push H { cls:=.type "set_iterator",data:=.fields #[.int 0 0,.int 0 0,.ref a,.int es.size 0,.int ep 0] }=H2;have keep2:∀b o,H.get? b=some o->H2.get? b=some o:=λb o e=>hH2 ▸ Qc _ e
 have hT2:Qh1 { s with heap:=H2 } (.ref a) "set" := let ⟨o,ho,hc⟩:=hT;⟨o,keep2 a o ho,hc⟩
 have hI:IsSI H2 H.objs.size (.int (so 0) 0) 0 a es.size ep:=⟨_,hH2 ▸ Qm _ rfl,rfl,by rw[W.s0];rfl⟩;refine wpAny_bind (J3 ?_);show wpAny _ A.in1 _ _ _ { s with heap:=H2 };unfold Builtin.List.listLengthHint;refine wpAny_bind (QaL hT2 QuH ?_)
 wp_delta
 refine wpAny_bind (Qbn (b:=true) hT2 (by rw[Qcq];kernel_rfl) ?_);show wpAny _ A.in1 (typeOf (QF a) >>= _) _ _ _;refine wpAny_bind (Qay hT2 (Qd ?_));show wpAny _ A.in1 (rule "list.extend.makes-room" >>= λ_=>Builtin.List.listTouch (.ref s.heap.objs.size) >>= λ_=>again (.builtin "list.extend.loop" ⟨[.ref s.heap.objs.size,.ref H.objs.size,.ref s.heap.objs.size],[]⟩)) _ _ _;refine wpAny_bind (wpAny_rule (wpAny_bind ?_));show wpAny _ A.in1 (updateSeq s.heap.objs.size (·.push .none) >>= λ_=>updateSeq s.heap.objs.size (·.pop)) _ _ _;have hS1:=keep2 _ _ hS;refine wpAny_bind (wpAny_updateSeq hS1 rfl ?_);have hS2:=J6 (ZZ (·.push Jo)) hS1 rfl;refine wpAny_updateSeq hS2 rfl ?_
 have hS3:=J6 (ZZ (·.pop)) hS2 rfl;generalize hH3:(H2.update s.heap.objs.size (ZZ (·.push Jo))).update s.heap.objs.size (ZZ (·.pop))=H3 at hS3 ⊢;have oth:∀b o,b≠s.heap.objs.size->H2.get? b=some o->H3.get? b=some o:=λb o hb e=>hH3 ▸ (YG _ _ (QaB hb)).trans ((YG _ _ (QaB hb)).trans e)
 have hIS:H.objs.size≠s.heap.objs.size:=by omega
 have hne:a≠H.objs.size:=by rw[hHs];exact Qv (Z0 hlt)
 have hSf:s.heap.objs.size∉[H.objs.size,a]:=by simp only[Qu,QQ,or_false,not_or];exact⟨by omega,YQ hlt⟩
 have WW:=(Way.walks (A:=A.in1) hh W H.objs.size hne λs Q E i st q=>Qtc st q).toS;refine Qd ⟨QaM F.plain_extend_loop _,codeAny_extend_loopS WW hn _ hSf _ es.size 0 { s with heap:=H3 } _ _ rfl (Q7 _) ⟨hI.at' λo e=>oth _ o hIS e,ha1.at' λo e=>oth a o (Qv hlt) (keep2 a o e)⟩ hS3 (ItemsOf.nil _) λs' acc' c' hm hS' hacc=>?_⟩;show wpAny _ A (load s.heap.objs.size >>= _) _ _ s';refine wpAny_bind (QyF hS' (Qd ?_));have hl:vs.size=es.size:=by rw[<- Ql,W.pm.length_eq,Ql]
 have he:acc'.toList=vs.toList.map (·.2):=by
  apply J7
  intro j;rw[Qo,JA,JA];by_cases z:j<acc'.size
  ·have:=hacc.2 j acc'[j] (by simp[z]);rw[this];simp[z]
  ·rw[Zd (by omega),Zd (by have:=hacc.1;omega)];rfl
 show Q acc'.toList s';rw[he];have es':s'={ s with heap:=s'.heap,toks:=s'.toks }:=by
  obtain⟨hp',g',d',tk',os'⟩:=s';have e1:=hm.gens;have e2:=hm.drawn;have e3:=hm.os;simp only at e1 e2 e3;rw[e1,e2,e3]
 rw[es'];refine hQ _ _ λb o e=>?_
 have hb:=Qk e;refine hm.heap b o ?_ (oth b o (Qv hb) (keep2 b o (keep b o e)))
 simp only[Qu,QQ,or_false,not_or];exact⟨Qv hb,by rw[hHs];exact Qv (Z0 hb)⟩
end
end Zt
namespace Zt
open PySem.W PySem.Calls Rs
section
variable{prog:Qy}{w:Jc}{A:Jb}{E:Value->Shared->Prop}{s:Shared}
end
end Zt
namespace L2
open Zt
section
variable{X:Cx}
end
end L2
namespace Dl
open L2 _root_.Rd Rk Zt
section
variable{X:Cx}{E:XK}
end
end Dl
namespace L2
open PySem.Calls _root_.Rd _root_.Rk _root_.Rs Rt Dl
section
variable{X:Cx}
end
end L2
namespace Zt
def Qyu(prog:Qy)(w:Jc)(a:Addr)(ps:List (List Int×Addr))(led:Bool)(h:Heap):Prop:=∃es ep t,SetAt h a es ep t/\Tab t/\t.led=led/\es.toList=ps.map λp=>(tupleKeyHash (intKind prog w) p.1,QF p.2)
section
variable{prog:Qy}{w:Jc}{A:Jb}{E:Value->Shared->Prop}{s:Shared}
theorem QsY{a:Addr}{es:Array (Int×Value)}{ep:Nat}{t:SetTable}(hs:SetAt s.heap a es ep t)(T:Tab t)(hl:t.led=Qa2 w):∃so vs,Way prog w a es ep t so vs:=by
 have hz:t.place.size=es.size:=by
  have:=hs.ft;unfold QbJ at this;exact eq_of_beq (JZ.mp this).1
 cases hb:w.params.followText "set-order" with
 |true=>exact⟨_,_,QoK hb a es ep _⟩
 |false=>
  have hl:t.led=true:=by rw[hl];unfold Qa2;rw[hb];rfl
  let so:Nat->Nat:=λi=>match i with
   |0=>0
   |i+1=>t.place.getD i 0+1
  refine⟨so,es,QsZ hb a es ep t T.pl hl hz so rfl (λi hi=>rfl) (λi hi=>?_)⟩;obtain⟨b1,b2,b3⟩:=Qcp T.pw (so i);cases i with
  |zero=>
   cases hB:JJ t.place (so 0) with
   |zero=>rfl
   |succ k=>
    have:=b2 0 (by omega) (by omega);exact absurd this (Yv _)
  |succ i=>
   have e:so (i+1)=t.place[i]+1:=by show t.place.getD i 0+1=_;simp[Zj,show i<t.place.size by omega]
   rcases ZC (JJ t.place (so (i+1))) (i+1) with z | z | z
   ·have h1:=b3 i (by omega) (by omega);omega
   ·exact z
   ·have hi2:i+1<t.place.size:=by omega
    have h1:=b2 (i+1) hi2 z;have:=Jt.mp T.pw i (i+1) (by simp;omega) (by simp;omega) (by omega);simp only[JI] at this;omega
theorem Qmt{ps:List (List Int×Addr)}:∀{l k:List (Int×Value)},l.Perm k->∀{T:List (List Int×Addr)},k=T.map (λp=>(tupleKeyHash (intKind prog w) p.1,QF p.2))->∃T':List (List Int×Addr),T'.Perm T/\l=T'.map λp=>(tupleKeyHash (intKind prog w) p.1,QF p.2):=by
 intro l k p;induction p with
 |nil=>intro T e;exact⟨T,Zy _,e⟩
 |@cons x l1 l2 _ ih=>
  intro T e;cases T with
  |nil=>cases e
  |cons y T=>
   injection e with e1 e2
   obtain⟨T',p',e'⟩:=ih e2;exact⟨y::T',p'.cons y,by rw[e1,e'];rfl⟩
 |swap x y l=>
  intro T e
  match T,e with
  |u::v::T,e=>
   injection e with e1 e2
   injection e2 with e2 e3
   exact⟨v::u::T,QeX _ _ _,by rw[e1,e2,e3];rfl⟩
 |trans _ _ ih1 ih2=>
  intro T e;obtain⟨T1,p1,e1⟩:=ih2 e;obtain⟨T2,p2,e2⟩:=ih1 e1;exact⟨T2,p2.trans p1,e2⟩
open PyProof.Rows PySem.W PySem.Calls Rs in
theorem Qis{Q:Value->Shared->Prop}{a:Addr}{ps:List (List Int×Addr)}(hh:A.handled=none)(hl:ps.length<=1000)(x:Qyu prog w a ps (Qa2 w) s.heap)
  (h:∀(h':Heap)(tk:Nat)(ps':List (List Int×Addr)),ps'.Perm ps->(∀b x,s.heap.get? b=some x->h'.get? b=some x)->∀(P:PySem.Fin->Shared->Prop)(E':Value->Shared->Prop),(∀s2,Q (.ref h'.objs.size) s2->P (.done (.ret .none)) s2) ->
   wpAny (model prog w) A.in1.in1 (Yw.«list.sort» ⟨[.ref h'.objs.size],[]⟩) P E' { s with heap:=h'.push (seqObj "list" (ps'.map λp=>QF p.2).toArray 0),toks:=tk }) :
  wpAny (model prog w) A (call (.builtin "sorted") [.ref a]) Q E s:=by
 obtain⟨es,ep,t,sa,T,led,ent⟩:=x;have hsz:es.size=ps.length:=by rw[<- Ql,ent,Qa]
 obtain⟨so,vs,W⟩:=QsY (prog:=prog) (w:=w) sa T led;obtain⟨ps',pp,e'⟩:=Qmt (prog:=prog) (w:=w) (ps:=ps) W.pm ent;refine Qg2 kind_sorted plain_sorted entry_sorted (args_sorted1 _) ?_
 unfold Yw.«sorted»;refine wpAny_bind (m:=checkCount "sorted" 1 1 _) (Qd ?_);refine wpAny_bind (QiW (A:=A.in1) hh W sa T.pl (by rw[hsz,ZI];omega) λh' tk kp=>?_);have ev:vs.toList.map (·.2)=ps'.map λp=>QF p.2:=by rw[e',QH];rfl
 rw[ev];refine wpAny_bind (Qoq ?_ (by rw[ZI,Qa,pp.length_eq];omega));have hoL:(h'.push (seqObj "list" (ps'.map λp=>QF p.2).toArray 0)).get? h'.objs.size=some (seqObj "list" (ps'.map λp=>QF p.2).toArray 0):=Qm _ rfl;show wpAny _ _ _ _ _ { s with heap:=h'.push (seqObj "list" (ps'.map λp=>QF p.2).toArray 0),toks:=tk };refine wpAny_bind (J3 (Jy slot_list_sort ⟨_,hoL,rfl⟩ entry_list_sort ?body (args_list_sort _)));exact h h' tk ps' pp kp _ _ λs2 hq=>⟨_,rfl,Qd ⟨_,rfl,hq⟩⟩
end
end Zt
namespace Rk
open L2 _root_.Rd Dl Rt
theorem Qx2{items:List PyData}{wg:DG}{wt:DT}{we:DE}{δ:Sts}{Q:PyData->Prop}(G:PyData->PyData)
  (h:∀d∈items,∀(k1:Prop)(k2:PyData->Prop),k1->k2 (G d)->wg d δ λδ4=>wt δ4 (λb=>if b=true then we δ4 k2 XF else k1) XF)(q:∀p:Nat->Bool,Q (.list (((Qf items.length).filter p).map λi=>G (items.getD i .none)))):QgD items wg wt we δ Q:=by
 unfold QgD;refine⟨λi acc=>∃p:Nat->Bool,acc=((Qf i).filter p).map λi=>G (items.getD i .none),⟨λ_=>false,rfl⟩,λi acc d hd ⟨p,e⟩=>?_,λacc ⟨p,e⟩=>by rw[e];exact q p⟩;have ed:items.getD i .none=d:=by rw[Qi,hd];rfl
 have same:∀b,(Qf i).filter (λn=>if n=i then b else p n)=(Qf i).filter p:=λb=>QbX λn hn=>if_neg (by have:=Qz.mp hn;omega)
 refine h d (QJ hd) _ _ ⟨λn=>if n=i then false else p n,?_⟩ ⟨λn=>if n=i then true else p n,?_⟩
 ·rw[JL,QbB,same,Qaq (by simp),Qvz,Z5];exact e
 ·rw[JL,QbB,same,Qap (by simp),Qvz,Q3,<- e];show acc++[G d]=acc++[G (items.getD i .none)];rw[ed]
def tN(ns:List Int):PyData:=.tuple (ns.map Qp)
end Rk
namespace L2
open Zt _root_.Rd _root_.Rk Dl Rt
section
variable{X:Cx}
theorem Qg3:∀{L:List (List Int×Addr)}{its:List Value},Vals (L.map λp=>V.ref p.2) its->its=L.map λp=>QF p.2
 |[],_,.nil=>rfl
 |p::L,_,.cons r rs=>by
  cases r;rw[Qg3 rs];rfl
theorem Qhc:∀(L:List (List Int×Addr)),Vals (L.map λp=>V.ref p.2) (L.map λp=>QF p.2)
 |[]=>.nil
 |p::L=>.cons rfl (Qhc L)
theorem Qew{prog:Qy}{w:Jc}:∀{r:List Int}{its:List Value},Qbp its r->ItemsAre (intKind prog w) r its
 |_,_,.nil=>.nil
 |_,_,.cons n t h=>.cons (intKind_is _ _ _ _) (Qew h)
theorem Qxs{pins:List (Addr×Obj)}{s:Shared}{σ:L2.St}{H:Hp}(I:Inv X pins σ H s){r:List Int}{b:Addr}(h:H b=some (.tup (r.map V.int))):Zb (intKind X.prog X.w) s.heap r b:=by
 obtain⟨hz,its,rv,o,ho,hc,_,n,hd⟩:=I.hok b _ h;exact⟨o,its.toArray,n,ho,hc,hd,by simpa using Qew (intsAre_of rv)⟩
theorem range_getD{α:Type}(L:List α)(d:α):(Qf L.length).map (λi=>L.getD i d)=L:=by
 apply J7
 intro i;rw[Qo];by_cases h:i<L.length
 ·rw[Ja h,Qe h];show some (L.getD i d)=_;rw[Qi,Qe h];rfl
 ·rw[QN (by simpa using h),QN (by omega)];rfl
theorem QhG{H:Hp}:∀{ps:List (List Int×Addr)},(∀p∈ps,H p.2=some (.tup (p.1.map V.int)))->Dats H (ps.map λp=>V.ref p.2) (ps.map λp=>tN p.1)
 |[],_=>.nil
 |p::ps,h=>.cons (Dat.tup (h p (.head _)) (QhH p.1)) (QhG λq hq=>h q (.tail _ hq))
end
end L2
namespace Dl
open L2 _root_.Rd Rk Zt Rt
section
variable{X:Cx}{E:XK}
theorem Qfm:∀L:List Int,QvC (L.map Qp)=true
 |[]=>rfl
 |_::L=>by show(true&&QvC (L.map Qp))=true;rw[Qfm L];rfl
theorem Qj4{A:Addr->Prop}{H:Hp}:∀{rows:List (List Int)}{xs:List V},DAs A H xs (rows.map tN)->∃L:List (List Int×Addr),xs=L.map (λp=>V.ref p.2)/\rows=L.map (·.1)/\∀p∈L,H p.2=some (.tup (p.1.map V.int))
 |[],_,.nil=>⟨[],rfl,rfl,λ_ h=>nomatch h⟩
 |r::rows,_,.cons q qs=>by
  obtain⟨L,rfl,rfl,hL⟩:=Qj4 qs;have q:DA A H _ (.tuple (r.map Qp)):=q;cases q with
  |@tup l ys _ na e qq=>
   rw[Qec qq] at e;refine⟨(r,l)::L,rfl,rfl,λp hp=>?_⟩;rcases Qu.mp hp with z | z
   ·rw[z];exact e
   ·exact hL p z
end
end Dl
namespace Zt
section
variable{prog:Qy}{w:Jc}{A:Jb}{E:Value->Shared->Prop}{s:Shared}
theorem call_setU{l:Addr}{items:Array Value}{n:Nat}{f:Nat->List Int×Addr}{Q:Value->Shared->Prop}(hh:A.handled=none)(hu:A.units+60<cLine)(hl:s.heap.IsTuple l items)(hn:items.size=n)(h300:n<=1000)(hval:∀(i:Nat)(v:Value),items[i]? = some v->v=QF (f i).2)(hK:∀j,j<n->Zb (intKind prog w) s.heap (f j).1 (f j).2)
  (h:∀(h':Heap)(tk:Nat),TSt prog w h' s.heap.objs.size ((Qf n).map f) (Qa2 w)->(∀b o,b<s.heap.objs.size->s.heap.get? b=some o->h'.get? b=some o)->Q (.ref s.heap.objs.size) { s with heap:=h',toks:=tk }):wpAny (model prog w) A (call (.type "set") [.ref l]) Q E s:=by
 obtain⟨c,tl,hmro⟩:=Qar.mro;have hmade:=Qar.made;have hsub:=Qar.sub;refine wpAny_call (QdP (by
  show wpAny _ _ (callAny (.type "set") _) _ _ _;refine Qd ⟨Code.quiet_builtin _ (by decide +kernel),Ye F.entry_type_call ?_⟩;rw[Around.under_plain (weight_type_call_type "set" [.ref l] []) rfl];have h1:=Qar.notType;have h2:=Qar.canCreate;have hct:=F.typeCall_set_1 (.ref l)
  repeat (any_goals (first | assumption | wp_step))
  refine Qcg (Qtd (.ref l) (E:=E) (Q:=λobj s₁=>obj=.ref s.heap.objs.size/\s₁={ s with heap:=s.heap.push { cls:=.type "set",dict:=none,data:=.set #[] 0 (.fresh 0 0 (Qa2 w)) } }) ⟨rfl,rfl⟩) λr s₁ hr=>?_
  cases r with
  |error e=>exact hr
  |ok fl=>
   cases fl with
   |ret obj=>
    obtain⟨rfl,rfl⟩:=hr;have hS:(s.heap.push { cls:=.type "set",dict:=none,data:=.set #[] 0 (.fresh 0 0 (Qa2 w)) }).get? s.heap.objs.size=some { cls:=.type "set",dict:=none,data:=.set #[] 0 (.fresh 0 0 (Qa2 w)) }:=Qm _ rfl;have hT:Qh1 { s with heap:=s.heap.push { cls:=.type "set",dict:=none,data:=.set #[] 0 (.fresh 0 0 (Qa2 w)) } } (.ref s.heap.objs.size) "set" := ⟨_,hS,rfl⟩;have hli:=Qar.init.lookup;have hbi:=Qar.init.bind (.ref s.heap.objs.size)
    repeat (any_goals (first | assumption | wp_step))
    refine Qcg (codeAny_call_builtin (R:=wants (λr s₂=>r=.none/\∃h' tk,s₂={ s with heap:=h',toks:=tk }/\TSt prog w h' s.heap.objs.size ((Qf n).map f) (Qa2 w)/\(∀b o,b<s.heap.objs.size->s.heap.get? b=some o->h'.get? b=some o)) E) Qar.init.plain F.entry_set_init (check_set_init_1 hT ?_)) λr₂ s₂ hr₂=>?_
    ·obtain⟨⟨ocls,odict,odata,oslots⟩,hol,hcl,nl,hdl⟩:=hl;simp only at hcl hdl;subst hcl hdl;have hol':(s.heap.push { cls:=.type "set",dict:=none,data:=.set #[] 0 (.fresh 0 0 (Qa2 w)) }).get? l=some { cls:=.type "tuple",dict:=odict,data:=.seq items nl,slots:=oslots }:=Qc _ hol;have hsls:=F.sub_tuple_set;have hslf:=F.sub_tuple_frozenset;have hne:(YO "tuple" == YO "dict")=false:=by decide
     have hl1:(s.heap.push { cls:=.type "set",dict:=none,data:=.set #[] 0 (.fresh 0 0 (Qa2 w)) }).IsTuple l items:=⟨_,hol',rfl,nl,rfl⟩;unfold Yw.«set.__init__» noKeywords QsU;generalize hPI:pyIter=PI;wp_walk;subst hPI;refine Yp hl1 (wpAny_bind (Qls ?_));have hlS:l<s.heap.objs.size:=Qk hol;have hneI:l≠(s.heap.push { cls:=.type "set",dict:=none,data:=.set #[] 0 (.fresh 0 0 (Qa2 w)) }).objs.size:=by rw[JG];exact Qv (Z0 hlS)
     have hSf:s.heap.objs.size∉[(s.heap.push { cls:=.type "set",dict:=none,data:=.set #[] 0 (.fresh 0 0 (Qa2 w)) }).objs.size,l]:=by
      rw[JG];simp only[Qu,QQ,or_false,not_or];exact⟨Qv (QfI _),YQ hlS⟩
     have w0:=Walks.tuple (prog:=prog) (w:=w) (A:=A.in1.in1.in1) (by simp[hh]) (s.heap.push { cls:=.type "set",dict:=none,data:=.set #[] 0 (.fresh 0 0 (Qa2 w)) }).objs.size l hneI items;rw[hn] at w0;have klt:∀j,j<n->(f j).2<s.heap.objs.size:=λj hj=>by
      obtain⟨o',it,nn,ho',r⟩:=hK j hj;exact Qk ho'
     refine QlK (led:=Qa2 w) w0 s.heap.objs.size hSf (by show A.units+1+1+1<cLine;omega) f (λi v hv=>hval i v hv) (λi hi hm=>?hW) h300 n 0 _ (by omega) (Q7 _) ⟨⟨_,Qm _ rfl,rfl,rfl⟩,hl1.push _⟩ (λj hj=>QjU (hK j hj) λo e=>Qc _ (Qc _ e)) ?hS0 ?hR
     case hW=>
      have:=klt i hi;rw[Q5.mp hm,JG] at this;exact absurd this (Nat.not_lt.mpr (QgW _))
     case hS0=>
      refine⟨#[],0,Qbl 0 0 (Qa2 w),[],⟨⟨⟨_,Qc _ hS,⟨rfl,rfl,rfl⟩,rfl⟩,by cases Qa2 w<;>rfl⟩,Qs2 _,rfl,(λp hp=>nomatch hp),QaO,(λi j e h1=>by simp[Qbl] at h1),.inl rfl,by show 0*5<7*3;decide⟩,rfl,Q7 _,(λp hp=>nomatch hp),(λy hy=>nomatch hy)⟩
     case hR=>
      intro h' tk hk hS';refine Qd ?_
      refine Qd ⟨rfl,h',tk,rfl,hS',λb o hb e=>?_⟩;have hb2:b≠(s.heap.push { cls:=.type "set",dict:=none,data:=.set #[] 0 (.fresh 0 0 (Qa2 w)) }).objs.size:=by rw[JG];exact Qv (Z0 hb)
      exact hk b o (by simp only[Qu,QQ,or_false,not_or];exact⟨Qv hb,hb2⟩) (Qc _ (Qc _ e))
    ·cases r₂ with
     |error e=>exact hr₂
     |ok fl₂=>
      cases fl₂ with
      |ret r=>
       obtain⟨rfl,h',tk,rfl,hS',hk'⟩:=hr₂
       repeat (any_goals (first | assumption | wp_step))
       exact h _ _ hS' hk'
      |_=>exact hr₂
   |_=>exact hr))
end
end Zt
namespace L2
open Zt _root_.Rd _root_.Rk Dl Rt
section
variable{X:Cx}
def Qzk(prog:Qy)(w:Jc)(K:PySem.W.Frag):List V->Hp->VK->Prop:=λxs H Q=>∃(l:Addr)(L:List (List Int×Addr)),xs=[.ref l]/\SqT K H l (L.map λp=>V.ref p.2)/\(∀p∈L,H p.2=some (.tup (p.1.map V.int)))/\L.length<=1000 /\
 ∀(t:Addr)(H2:Hp)(ps:List (List Int×Addr)),(ps.map (·.1)).Nodup->ps.length<=L.length->(∀p∈ps,p∈L)->(∀p∈L,p.1∈ps.map (·.1))->Same H H2->H t=none->H2 t=some (.ext (Qyu prog w t ps (Qa2 w)))->Q (.ref t) H2
theorem call_setU(hc:X.calm=true)(hu:X.A.units+60<cLine):CallR X (.type "set") (Qzk X.prog X.w X.K):=by
 intro pins s σ H xs us Q I r h;obtain⟨p,L,rfl,hp,hL,h300,q⟩:=h;obtain⟨u,rfl,ru⟩:=vals1 r;cases ru;obtain⟨its,rv,pl,hz⟩:=I.tuple hp;obtain rfl:=Qg3 rv;have hget:∀i,i<L.length->L.getD i ([],0)∈L:=λi hi=>by
  rw[Qi,Qe hi];exact Yh hi
 refine Zt.call_setU (items:=(L.map λp=>QF p.2).toArray) (n:=L.length) (f:=λi=>L.getD i ([],0)) (I.ok.hd hc) hu (let ⟨o,h1,h2,n,h3⟩:=pl;⟨o,h1,h2,n,h3⟩) (by rw[Qj,Qa]) h300 (λi v hv=>?_) (λj hj=>Qxs I (hL _ (hget j hj))) λh' tk hS hk=>?_
 ·rw[Qll,Qo] at hv;cases e:L[i]? with
  |none=>rw[e] at hv;cases hv
  |some y=>
   rw[e] at hv;cases hv;show _=QF (L.getD i ([],0)).2;rw[Qi,e];rfl
 ·rw[range_getD] at hS;obtain⟨es,ep,t,ps,x,hl,hn,hsub,hall⟩:=hS.ex;have hf:H s.heap.objs.size=none:=I.hok.fresh (Qg _);refine⟨.ref s.heap.objs.size,upd H s.heap.objs.size (.ext (Qyu X.prog X.w s.heap.objs.size ps (Qa2 X.w))),I.laid (t':=tk) (λb x e=>hk b x (Qk e) e) (Qg _) ⟨⟨es,ep,t,x.at_,x.tab,hl,x.ent⟩,?_,λh1 h2 a b=>?_⟩,rfl,q _ _ ps x.nd hn hsub hall (Jn hf) hf Jg⟩
  ·obtain⟨o,ho,_⟩:=x.at_.at_;exact⟨o,ho⟩
  ·obtain⟨es,ep,t,sa,r⟩:=a;exact⟨es,ep,t,sa.at' b,r⟩
end
end L2
namespace Dl
open L2 _root_.Rd Rk Zt Rt
section
variable{X:Cx}{E:XK}
end
end Dl
namespace L2
open PySem.Calls Zt _root_.Rd _root_.Rk _root_.Rs Dl Rt
section
variable{X:Cx}
theorem QkC{pins:List (Addr×Obj)}{s:Shared}{σ:L2.St}{H:Hp}(I:Inv X pins σ H s){vs:List V}{L:List (Int×Int)}{its:List Value}(rv:Vals vs its)(ds:Dats H vs (L.map Rk.pairD))(nd:L.Nodup)(h64:L.length<64)(hb:∀ij∈L,0<=ij.2/\ij.2<64){Q:VK}
  (q:∀(t:Addr)(ys:List V)(M:List (Int×Int))(H2:Hp),Same H H2->H t=none->H2 t=some (.lst ys)->Dats H2 ys (M.map Rk.pairD)->M.Perm L->M.Pairwise (λa b=>Rs.code a<Rs.code b)->(∀y∈ys,y∈vs)->Q (.ref t) H2)(h':Heap)(tk:Nat)(kp:∀b x,s.heap.get? b=some x->h'.get? b=some x)(P:PySem.Fin->Shared->Prop)(E':Value->Shared->Prop)
  (hP:∀s2,(∃v H',Inv X pins σ H' s2/\RelV v (.ref h'.objs.size)/\Q v H')->P (.done (.ret .none)) s2) :
  wpAny (model X.prog X.w) X.A.in1.in1 (Yw.«list.sort» ⟨[.ref h'.objs.size],[]⟩) P E' { s with heap:=h'.push (seqObj "list" its.toArray 0),toks:=tk }:=by
 have pv:=Qep I.hok ds rv;have lv:=ds.length;rw[Qa] at lv;have li:=rv.length;have lp:=pv.len;refine Qca (s:={ s with heap:=h'.push (seqObj "list" its.toArray 0),toks:=tk }) (vs:=its) (L:=L) (Qm _ rfl) (by omega) (λh2 k2=>?_) nd hb λp g ad h2 e k2 e2=>hP _ ?_
 ·exact(pv.keep kp).keep λb x e=>k2 b x (Qv (Qk e)) (Qc _ e)
 ·have I1:Inv X pins σ H { s with heap:=h',toks:=tk }:=I.kept (t':=tk) kp;have hf:H h'.objs.size=none:=I1.hok.fresh (Qg _);have hp:∀i∈p.toList,i<vs.length:=λi hi=>by have:=Qz.mp (g.perm.mem_iff.mp hi);omega
  have I2:Inv X pins σ (upd H h'.objs.size (.lst (p.toList.map λi=>vs.getD i .non))) { s with heap:=h2,toks:=tk }:=
   I1.laid (t':=tk) (λb x e'=>k2 b x (Qv (Qk e')) (Qc _ e')) (Qg _) (show ObjOk X.prog X.w _ _ _ (.lst _) from⟨by rw[Qa,Ql,g.size];exact ZJ (Rk.QaG (by omega)),_,e,QfO λi hi=>Qik rv i (hp i hi),e2⟩)
  have g':Good L.length p:=by rw[<- lp];exact g
  have ad':Adj (λi=>Rs.code (L.getD i (0,0))) p L.length:=by rw[<- lp];exact ad
  refine⟨.ref h'.objs.size,_,I2,rfl,q _ _ (p.toList.map λi=>L.getD i (0,0)) _ (Jn hf) hf Jg (Qgq λi hi=>(QiS ds i (hp i hi)).same (Jn hf)) (Qhz g') (Qhy g' ad' λi j hi hj e=>?_) λy hy=>?_⟩
  ·have bi:0<=(L.getD i (0,0)).2/\(L.getD i (0,0)).2<64:=by rw[Qi,Qe hi];exact hb _ (Yh _)
   have bj:0<=(L.getD j (0,0)).2/\(L.getD j (0,0)).2<64:=by rw[Qi,Qe hj];exact hb _ (Yh _)
   unfold Rs.code at e;have e':L.getD i (0,0)=L.getD j (0,0):=QcW (by omega) (by omega);rw[Qi,Qi,Qe hi,Qe hj] at e';have pw:=Jt.mp nd;rcases ZC i j with z | z | z
   ·exact absurd e' (pw i j hi hj z)
   ·exact z
   ·exact absurd e'.symm (pw j i hj hi z)
  ·obtain⟨i,hi,rfl⟩:=Qs.mp hy;rw[Qi,Qe (hp i hi)];exact Yh _
def QvB(r:List Int):Int×Int:=(r.getD 0 0,r.getD 1 0)
def Qwk(prog:Qy)(w:Jc):List V->Hp->VK->Prop:=λxs H Q=>∃(a:Addr)(ps:List (List Int×Addr)),xs=[.ref a]/\ps.length<64/\H a=some (.ext (Qyu prog w a ps (Qa2 w)))/\(∀p∈ps,H p.2=some (.tup (p.1.map V.int)))/\(ps.map (·.1)).Nodup/\(∀p∈ps,∃i j:Int,p.1=[i,j]/\0<=j/\j<64) /\
 ∀(t:Addr)(ys:List V)(M:List (Int×Int))(H2:Hp),Same H H2->H t=none->H2 t=some (.lst ys)->Dats H2 ys (M.map Rk.pairD)->M.Perm (ps.map λp=>QvB p.1)->M.Pairwise (λa b=>Rs.code a<Rs.code b)->(∀y∈ys,y∈ps.map λp=>V.ref p.2)->Q (.ref t) H2
theorem Qhl:∀{ps:List (List Int×Addr)},(ps.map (·.1)).Nodup->(∀p∈ps,∃i j:Int,p.1=[i,j]/\0<=j/\j<64)->(ps.map λp=>QvB p.1).Nodup
 |[],_,_=>.nil
 |p::ps,nd,h=>by
  have nd:=Jd.mp nd;refine Jd.mpr ⟨λhm=>nd.1 ?_,Qhl nd.2 λq hq=>h q (.tail _ hq)⟩;obtain⟨q,hq,e⟩:=Qs.mp hm;obtain⟨i,j,e1,_⟩:=h p (.head _);obtain⟨i',j',e2,_⟩:=h q (.tail _ hq);refine Qs.mpr ⟨q,hq,?_⟩;have e:QvB q.1=QvB p.1:=e;rw[e1,e2] at e;injection e with a b
  have a:i'=i:=a;have b:j'=j:=b;show q.1=p.1;rw[e1,e2,a,b]
theorem Qk9(hc:X.calm=true):CallR X (.builtin "sorted") (Qwk X.prog X.w):=by
 intro pins s σ H xs us Q I r h;obtain⟨a,ps,rfl,h64,ha,hps,nd,hb,q⟩:=h;obtain⟨u,rfl,ru⟩:=vals1 r;cases ru;obtain⟨hS,_⟩:=I.hok a _ ha;refine Qis (I.ok.hd hc) (by omega) hS λh' tk ps' pp kp P E' hP=>?_
 have hps':∀p∈ps',H p.2=some (.tup (p.1.map V.int)):=λp hp=>hps p (pp.mem_iff.mp hp)
 have hb':∀p∈ps',∃i j:Int,p.1=[i,j]/\0<=j/\j<64:=λp hp=>hb p (pp.mem_iff.mp hp)
 have nd':(ps'.map (·.1)).Nodup:=(pp.map _).nodup_iff.mpr nd;have dr:=QhG hps';have er:(ps'.map λp=>tN p.1)=(ps'.map λp=>QvB p.1).map Rk.pairD:=by
  rw[QH];refine Q9 λp hp=>?_
  obtain⟨i,j,e,_⟩:=hb' p hp;show tN p.1=Rk.pairD (QvB p.1);rw[e];rfl
 rw[er] at dr;refine QkC I (Qhc ps') dr (Qhl nd' hb') (by rw[Qa,pp.length_eq];exact h64) (λij hij=>?_) (λt ys M H2 s2 n2 e2 dt pe pw hy=>?_) h' tk kp P E' hP
 ·obtain⟨p,hp,rfl⟩:=Qs.mp hij;obtain⟨i,j,e,h0,h1⟩:=hb' p hp;rw[e];exact⟨h0,h1⟩
 ·exact q t ys M H2 s2 n2 e2 dt (pe.trans (pp.map _)) pw λy hy'=>(pp.map _).mem_iff.mp (hy y hy')
end
end L2
namespace Dl
open L2 _root_.Rd Rk Zt Rt
section
variable{X:Cx}{E:XK}
@[irreducible] def Qfa:PyData->(PyData->Prop)->Prop
 |.tuple ds,Q=>∃L:List (Int×Int),ds=L.map Rk.pairD/\L.length<64/\(∀p∈L,0<=p.2/\p.2<64)/\∀M:List (Int×Int),M.length<=L.length->(∀x,x∈M↔x∈L)->M.Pairwise (λa b=>Rs.code a<Rs.code b)->Q (.list (M.map Rk.pairD))
 |_,_=>False
theorem QoY{Q:PyData->Prop}(L:List (Int×Int))(hl:L.length<64)(hb:∀p∈L,0<=p.2/\p.2<64)(h:∀M:List (Int×Int),M.length<=L.length->(∀x,x∈M↔x∈L)->M.Pairwise (λa b=>Rs.code a<Rs.code b)->Q (.list (M.map Rk.pairD))):Qfa (.tuple (L.map Rk.pairD)) Q:=by
 unfold Qfa;exact⟨L,rfl,hl,hb,h⟩
def QhK(w:DE):DE:=λδ Q EX=>w δ (λd=>Qfa d Q) EX
theorem Qix{e:Q0}{w:DE}{p p2 pos pos2:Pos}(hu:X.A.units+60<cLine)(hg:Gl X "sorted")(hm:X.mg "sorted" = none)(hg2:Gl X "set")(hm2:X.mg "set" = none)(h:PE X e (tX .P X.K E w))(hc:X.calm=true)(hs:notStar e=true):PE X (.Call (.Name "sorted" p) [.Call (.Name "set" p2) [e] [] pos2] [] pos) (tX .F X.K E (QhK w)):=by
 refine PE.imp (pe_callB (L2.Qk9 hc) hg hm QeH (pa_c (Qax (L2.call_setU hc hu) hg2 hm2 bt_set (pa_c h pa_nil hs) (he:=Yq hs)) pa_nil)) λσ H Q ⟨F,δ,R,EX,rel,hw,k,o⟩=>?_
 refine⟨F,δ,_,EX,rel,hw,λd hd v H1 rel1 kp1 vk=>?_,o⟩;have hd:Qfa d _:=hd;unfold Qfa at hd;split at hd
 ·obtain⟨C,rfl,h64,hb,hR⟩:=hd;obtain⟨l,xs,rfl,e,q⟩:=DP.tuple vk;have er:C.map Rk.pairD=(C.map λc=>[c.1,c.2]).map tN:=by rw[QH];rfl
  rw[er] at q;obtain⟨L,rfl,eC,hL⟩:=Qj4 q;have hC:C.length=L.length:=by have:=congrArg QgK eC;rwa [Qa,Qa] at this
  have two:∀p∈L,∃c∈C,p.1=[c.1,c.2]:=λp hp=>by
   have:p.1∈C.map λc=>[c.1,c.2]:=by rw[eC];exact Qs.mpr ⟨p,hp,rfl⟩
   obtain⟨c,hc,e⟩:=Qs.mp this;exact⟨c,hc,e.symm⟩
  refine⟨l,L,rfl,SqT.of e,hL,by omega,λt H2 ps nd hn hsub hall s2 n2 e2=>⟨t,ps,rfl,by omega,e2,λp hp=>s2 _ _ (hL p (hsub p hp)),nd,λp hp=>?_,λt3 ys M H3 s3 n3 e3 dt pe pw hy=>?_⟩⟩
  ·obtain⟨c,hc,e⟩:=two p (hsub p hp);exact⟨c.1,c.2,e,hb c hc⟩
  have s13:=s2.trans s3;have n13:H1 t3=none:=by
   cases z:H1 t3 with
   |none=>rfl
   |some o=>rw[s2 _ _ z] at n3;cases n3
  refine k _ (hR M ?_ (λx=>?_) pw) _ H3 (rel1.same s13) (kp1.trans (Kp.same rel1 s13)) ?_
  ·have:=pe.length_eq;rw[Qa] at this;omega
  ·rw[pe.mem_iff];constructor
   ·intro hx;obtain⟨p,hp,rfl⟩:=Qs.mp hx;obtain⟨c,hc,e⟩:=two p (hsub p hp);rw[e];exact hc
   ·intro hx;have:[x.1,x.2]∈L.map (·.1):=by rw[<- eC];exact Qs.mpr ⟨x,hx,rfl⟩
    obtain⟨p,hp,e⟩:=Qs.mp this;have e:p.1=[x.1,x.2]:=e;obtain⟨p',hp',e'⟩:=Qs.mp (hall p hp);refine Qs.mpr ⟨p',hp',?_⟩;have e':p'.1=p.1:=e';rw[e',e];rfl
  ·refine⟨.lst (λz=>by obtain⟨xs,e⟩:=rel1.isl z;rw[n13] at e;cases e) e3 (QhJ dt (λy hy'=>?_) λy d e _=>Qj2 d e y),QaH (QbF kp1 n13)⟩;obtain⟨p,hp,rfl⟩:=Qs.mp (hy y hy');have hp1:=hL p (hsub p hp);obtain⟨d,hd,da⟩:=QxL q (Qs.mpr ⟨p,hsub p hp,rfl⟩);obtain⟨r,_,rfl⟩:=Qs.mp hd;exact⟨tN r,da.same s13,Qd8 r,QmY _ (Qfm r),Qfy _ _ (Qd8 r) (da.same s13)⟩
 ·exact hd.elim
theorem QkI{e:Q0}{w:DE}{p p2 pos pos2:Pos}(hu:X.A.units+60<cLine)(hg:Gl X "sorted")(hm:X.mg "sorted" = none)(hg2:Gl X "set")(hm2:X.mg "set" = none)(h:QE .P X E e w)(hc:X.calm=true:=by rfl)(hs:notStar e=true:=by rfl):QE .F X E (.Call (.Name "sorted" p) [.Call (.Name "set" p2) [e] [] pos2] [] pos) (QhK w):=⟨Qix hu hg hm hg2 hm2 h.h hc hs⟩
end
end Dl
namespace Dl
open L2 _root_.Rd Rk
section
variable{X:Cx}{E:XK}{i:Nat}{st:Y2}{we wa wb:DE}
end
end Dl
namespace L2
section
variable{κ:Type}[DecidableEq κ]
def Qln(kvs:List (κ×V))(k:κ):Option V:=(kvs.find? λkv=>decide (kv.1=k)).map (·.2)
def QkJ(kvs:List (κ×V))(k:κ)(v:V):List (κ×V):=
 if(kvs.any λkv=>decide (kv.1=k))=true then kvs.map (λkv=>if kv.1=k then(kv.1,v) else kv) else kvs++[(k,v)]
theorem Qd1{p:κ×V}{r:List (κ×V)}{k:κ}(e:p.1=k):Qln (p::r) k=some p.2:=by simp[Qln,Qao,e]
theorem Qd2{p:κ×V}{r:List (κ×V)}{k:κ}(e:¬p.1=k):Qln (p::r) k=Qln r k:=by simp[Qln,Qao,e]
theorem Qjh(k:κ):∀kvs:List (κ×V),(kvs.any λkv=>decide (kv.1=k))=(Qln kvs k).isSome
 |[]=>rfl
 |p::r=>by
  rw[YZ];by_cases e:p.1=k
  ·simp only[Qd1 e,decide_eq_true e,Bool.true_or,Qlx]
  ·rw[Qd2 e,decide_eq_false e,Qyr];exact Qjh k r
theorem Qet(kvs:List (κ×V))(k:κ)(v:V):(QkJ kvs k v).length<=kvs.length+1:=by
 unfold QkJ;split
 ·rw[Qa];omega
 ·rw[Qw,QC,List.length_nil];omega
theorem RelO.isSome_eq{o:Option V}{u:Option Value}(r:RelO o u):o.isSome=u.isSome:=by
 cases o with
 |none=>cases u with
  |none=>rfl
  |some _=>exact(show False from r).elim
 |some _=>cases u with
  |none=>exact(show False from r).elim
  |some _=>rfl
theorem RelO.getD{o:Option V}{u:Option Value}{d:V}{d':Value}(r:RelO o u)(rd:RelV d d'):RelV (o.getD d) (u.getD d'):=by
 cases o with
 |none=>cases u with
  |none=>exact rd
  |some _=>exact(show False from r).elim
 |some _=>cases u with
  |none=>exact(show False from r).elim
  |some _=>exact r
theorem KV.val{kvs:List (κ×V)}{vs:List (κ×Value)}(r:KV kvs vs)(k:κ):RelO (Qln kvs k) (valueAt vs k):=by
 unfold KV at r;induction r with
 |nil=>exact YX
 |@cons p q ps qs h t ih=>
  obtain⟨h1,h2⟩:=h;by_cases e:p.1=k
  ·have e':q.1=k:=h1.symm.trans e;have b:valueAt (q::qs) k=some q.2:=by simp[valueAt,Qao,e']
   rw[Qd1 e,b];exact h2
  ·have e':¬q.1=k:=λz=>e (h1.trans z)
   have b:valueAt (q::qs) k=valueAt qs k:=by simp[valueAt,Qao,e']
   rw[Qd2 e,b];exact ih
theorem KV.any{kvs:List (κ×V)}{vs:List (κ×Value)}(r:KV kvs vs)(k:κ):(kvs.any λkv=>decide (kv.1=k))=vs.any λkv=>decide (kv.1=k):=by
 unfold KV at r;induction r with
 |nil=>rfl
 |cons h t ih=>rw[YZ,YZ,ih,h.1]
theorem KV.repl{kvs:List (κ×V)}{vs:List (κ×Value)}(r:KV kvs vs)(k:κ){y:V}{u:Value}(ry:RelV y u) :
  KV (kvs.map λkv=>if kv.1=k then(kv.1,y) else kv) (vs.map λkv=>if kv.1=k then(kv.1,u) else kv):=by
 unfold KV at r ⊢;induction r with
 |nil=>exact .nil
 |@cons p q ps qs h t ih=>
  rw[Js,Js];refine .cons ?_ ih
  obtain⟨h1,h2⟩:=h;by_cases e:p.1=k
  ·rw[if_pos e,if_pos (h1.symm.trans e)];exact⟨h1,ry⟩
  ·rw[if_neg e,if_neg (λz=>e (h1.trans z))];exact⟨h1,h2⟩
theorem KV.put{kvs:List (κ×V)}{vs:List (κ×Value)}(r:KV kvs vs)(k:κ){y:V}{u:Value}(ry:RelV y u):KV (QkJ kvs k y) (stored vs k u):=by
 unfold QkJ stored;rw[r.any k];by_cases e:(vs.any λkv=>decide (kv.1=k))=true
 ·rw[if_pos e,if_pos e];exact r.repl k ry
 ·rw[if_neg e,if_neg e];exact Qyk r ⟨rfl,ry⟩
theorem KV.length{kvs:List (κ×V)}{vs:List (κ×Value)}(r:KV kvs vs):kvs.length=vs.length:=QdD r
end
theorem QpV{P:Qy}{w:Jc}{k:Key}{u:Value}(r:RelV (kV k) u):(mixKind P w).is k u=true:=by
 cases k with
 |inl i=>obtain⟨t,e⟩:=(show ∃t,u=Qbc i t from r);subst e;exact QiH P w i t
 |inr x=>obtain⟨t,e⟩:=(show ∃t,u=Qkh x t from r);subst e;exact QiG P w x t
theorem Qhw{P:Qy}{w:Jc}:∀{ks:List Key}{us:List Value},Vals (ks.map kV) us->ItemsAre (mixKind P w) ks us
 |[],_,r=>by rw[Qlk] at r;cases r;exact .nil
 |k::ks,_,r=>by
  rw[Js] at r;cases r with
  |cons h t=>exact .cons (QpV h) (Qhw t)
abbrev KT (H:Hp):List (List Key×V)->List (List Key×Addr×Value)->Prop:=YY λp q=>p.1=q.1/\H q.2.1=some (.tup (p.1.map kV))/\RelV p.2 q.2.2
theorem KT.val{H:Hp}{kvs:List (List Key×V)}{xs:List (List Key×Addr×Value)}(r:KT H kvs xs)(k:List Key):RelO (Qln kvs k) ((atKey xs k).map (·.2)):=by
 induction r with
 |nil=>exact YX
 |@cons p q ps qs h t ih=>
  obtain⟨h1,_,h2⟩:=h;by_cases e:p.1=k
  ·have e':q.1=k:=h1.symm.trans e;have b:atKey (q::qs) k=some q.2:=by simp[atKey,Qao,e']
   rw[Qd1 e,b];exact h2
  ·have e':¬q.1=k:=λz=>e (h1.trans z)
   have b:atKey (q::qs) k=atKey qs k:=by simp[atKey,Qao,e']
   rw[Qd2 e,b];exact ih
theorem KT.repl{H:Hp}{kvs:List (List Key×V)}{xs:List (List Key×Addr×Value)}(r:KT H kvs xs)(k:List Key){y:V}{u:Value}(ry:RelV y u) :
  KT H (kvs.map λkv=>if kv.1=k then(kv.1,y) else kv) (xs.map (putAt k u)):=by
 induction r with
 |nil=>exact .nil
 |@cons p q ps qs h t ih=>
  rw[Js,Js];refine .cons ?_ ih
  obtain⟨h1,h2,h3⟩:=h;unfold putAt;by_cases e:p.1=k
  ·rw[if_pos e,if_pos (h1.symm.trans e)];exact⟨h1,h2,ry⟩
  ·rw[if_neg e,if_neg (λz=>e (h1.trans z))];exact⟨h1,h2,h3⟩
theorem KT.put{H:Hp}{kvs:List (List Key×V)}{xs:List (List Key×Addr×Value)}(r:KT H kvs xs)(k:List Key){b:Addr}{y:V}{u:Value}(hb:H b=some (.tup (k.map kV)))(ry:RelV y u) :
  KT H (QkJ kvs k y) (storedH xs k b u):=by
 have e:(kvs.any λkv=>decide (kv.1=k))=(atKey xs k).isSome:=by
  rw[Qjh,(r.val k).isSome_eq,Option.isSome_map]
 unfold QkJ storedH;rw[e];by_cases q:(atKey xs k).isSome=true
 ·rw[if_pos q,if_pos q];exact r.repl k ry
 ·rw[if_neg q,if_neg q];exact Qyk r ⟨rfl,hb,ry⟩
theorem KT.keeps{H H':Hp}{kvs:List (List Key×V)}{xs:List (List Key×Addr×Value)}(r:KT H kvs xs)(ht:∀b ys,H b=some (.tup ys)->H' b=some (.tup ys)):KT H' kvs xs:=
 YY.mapP r λ_ _ z=>⟨z.1,ht _ _ z.2.1,z.2.2⟩
section
variable{P:Qy}{w:Jc}{H:Hp}{h:Heap}{a:Addr}
theorem Qwj{u:HO}(ok:HOk P w H h)(e:Rd H a u):ObjOk P w H h a u:=e.ok ok
theorem QnK{kvs:List (Key×V)}(ok:HOk P w H h)(e:Rd H a (.dK kvs)):kvs.length<=sizeLine/\(a == sysModules)=false/\∃vs,KV kvs vs/\h.DictOf (mixKind P w) a vs:=
 show ObjOk P w H h a (.dK kvs) from Qwj ok e
theorem Qz3{kvs:List (Key×V)}(ok:HOk P w H h)(e:H a=some (.dK kvs)):kvs.length<=sizeLine/\(a == sysModules)=false/\∃vs,KV kvs vs/\h.DictOf (mixKind P w) a vs:=QnK ok (.inl e)
theorem QeC{ks:List Key}(ok:HOk P w H h)(e:H a=some (.tup (ks.map kV))):(tupleKind (mixKind P w)).is h ks a:=by
 obtain⟨_,its,r,o,h1,h2,_,n,h3⟩:=(show ObjOk P w H h a (.tup (ks.map kV)) from ok a _ e);exact⟨o,its.toArray,n,h1,h2,h3,by simpa using Qhw r⟩
theorem QnJ{kvs:List (List Key×V)}(ok:HOk P w H h)(e:Rd H a (.dT kvs)):kvs.length<=sizeLine/\(a == sysModules)=false /\
  ∃xs,KT H kvs xs/\h.DictOfH (tupleKind (mixKind P w)) a xs:=by
 obtain⟨z,y,xs,r,o,es,ep,h1,h2,h3,h4,h5⟩:=(show ObjOk P w H h a (.dT kvs) from Qwj ok e);refine⟨z,y,xs,r,o,es,ep,h1,h2,h3,h4,λx hx=>?_,h5⟩;have all:∀{l:List (List Key×V)}{m:List (List Key×Addr×Value)},KT H l m->∀x∈m,(tupleKind (mixKind P w)).is h x.1 x.2.1:=by
  intro l m q;induction q with
  |nil=>intro x hx;exact nomatch hx
  |@cons p q ps qs hq t ih=>
   intro x hx;rcases Qu.mp hx with e | hx
   ·subst e;exact QeC ok (by rw[<- hq.1];exact hq.2.1)
   ·exact ih x hx
 exact all r x hx
theorem QxF{kvs:List (List Key×V)}(ok:HOk P w H h)(e:H a=some (.dT kvs)):kvs.length<=sizeLine/\(a == sysModules)=false /\
  ∃xs,KT H kvs xs/\h.DictOfH (tupleKind (mixKind P w)) a xs:=QnJ ok (.inl e)
end
def DGet(H:Hp)(a:Addr)(y:V)(r:Option V):Prop:=
 (∃kvs k,Rd H a (.dK kvs)/\y=kV k/\r=Qln kvs k)∨∃kvs k b,Rd H a (.dT kvs)/\y=.ref b/\H b=some (.tup (k.map kV))/\r=Qln kvs k
def DPut(H:Hp)(a:Addr)(y v:V)(H':Hp):Prop:=
 (∃kvs k,H a=some (.dK kvs)/\y=kV k/\kvs.length<sizeLine/\H'=upd H a (.dK (QkJ kvs k v))) ∨
 ∃kvs k b,H a=some (.dT kvs)/\y=.ref b/\H b=some (.tup (k.map kV))/\kvs.length<sizeLine/\H'=upd H a (.dT (QkJ kvs k v))
theorem DGet.t{H:Hp}{a b:Addr}{kvs:List (List Key×V)}{k:List Key}(e:H a=some (.dT kvs))(eb:H b=some (.tup (k.map kV))):DGet H a (.ref b) (Qln kvs k):=.inr ⟨kvs,k,b,.inl e,rfl,eb,rfl⟩
theorem DPut.t{H:Hp}{a b:Addr}{kvs:List (List Key×V)}{k:List Key}{v:V}(e:H a=some (.dT kvs))(eb:H b=some (.tup (k.map kV)))(hl:kvs.length<sizeLine) :
  DPut H a (.ref b) v (upd H a (.dT (QkJ kvs k v))):=.inr ⟨kvs,k,b,e,rfl,eb,hl,rfl⟩
section
variable{X:Cx}{pins:List (Addr×Obj)}{σ:St}{H:Hp}{s:Shared}{a:Addr}{y v:V}{u r:Value}{o:Option V}{A:Jb}{E:Value->Shared->Prop}
theorem Inv.big(I:Inv X pins σ H s):sysModules<s.heap.objs.size:=by
 have h:mainGlobals<s.heap.objs.size:=(I.mod.glob.keeps I.bk).lt;exact Nat.lt_trans (by decide) h
theorem QnT{Q:Value->Shared->Prop}(hu:A.units+1<cLine)(I:Inv X pins σ H s)(g:DGet H a y (some v))(ry:RelV y u)(h:∀w' s',Inv X pins σ H s'->RelV v w'->Q w' s') :
  wpAny (model X.prog X.w) A (getItem (.ref a) u) Q E s:=by
 rcases g with⟨kvs,k,e,ey,l⟩ | ⟨kvs,k,b,e,ey,eb,l⟩
 ·subst ey;obtain⟨z,hd,vs,rel,dd⟩:=QnK I.hok e;obtain⟨w',hw,rw'⟩:=RelO.some_of (v:=v) (o:=valueAt vs k) (by rw[l];exact rel.val k);exact wpAny_getItem_of (QpV ry) dd.mapOf hw (h w' _ (I.tok _) rw')
 ·subst ey;cases(show u=QF b from ry);obtain⟨z,hd,xs,rel,dd⟩:=QnJ I.hok e;obtain⟨w',hw,rw'⟩:=RelO.some_of (v:=v) (o:=(atKey xs k).map (·.2)) (by rw[l];exact rel.val k);obtain⟨p,hp,hp2⟩:=Qas.mp hw;refine wpAny_getItem_heap (QfD hu) (QeC I.hok eb) dd hp ?_
  rw[hp2];exact h w' _ (I.tok _) rw'
theorem QiT{h':Heap}{t':Nat}{ob:HO}(I:Inv X pins σ H s)(mu:Mut (H a))(hs:ZH a s.heap h')(he:∃q,h'.get? a=some q)(new:ObjOk X.prog X.w (upd H a ob) h' a ob) :
  Inv X pins σ (upd H a ob) { s with heap:=h',toks:=t' }:=
 I.write (x:=a) (e:=a) mu (.inl rfl) (λb q hb z=>(hs.2 b hb).trans z) he new
theorem QxH{P:Qy}{w:Jc}{H':Hp}{h':Heap}{kvs:List (Key×V)}{vs:List (Key×Value)}(z:kvs.length<=sizeLine)(hd:(a == sysModules)=false)(rel:KV kvs vs)(dd:h'.DictOf (mixKind P w) a vs) :
  ObjOk P w H' h' a (.dK kvs):=⟨z,hd,vs,rel,dd⟩
theorem QnS{H':Hp}{Q:Unit->Shared->Prop}(hu:A.units+1<cLine)(I:Inv X pins σ H s)(g:DPut H a y v H')(ry:RelV y u)(rv:RelV v r)(h:∀s',Inv X pins σ H' s'->Q () s') :
  wpAny (model X.prog X.w) A (setItem (.ref a) u r) Q E s:=by
 rcases g with⟨kvs,k,e,ey,l,eH⟩ | ⟨kvs,k,b,e,ey,eb,l,eH⟩
 ·subst ey eH;obtain⟨z,hd,vs,rel,dd⟩:=Qz3 I.hok e;have hz:vs.length<=sizeLine:=by rw[<- rel.length];exact z
  have hl:(QkJ kvs k v).length<=sizeLine:=by have:=Qet kvs k v;omega
  refine wpAny_setItem_pairs (hsz:=hz) (QpV ry) dd λh' dd' hs=>h _ ?_
  have he:∃q,h'.get? a=some q:=let ⟨q,_,_,hq,_⟩:=dd';⟨q,hq⟩
  exact QiT I (by rw[e];exact YX) hs he (QxH hl hd (rel.put k rv) dd')
 ·subst ey eH;cases(show u=QF b from ry);obtain⟨z,hd,xs,rel,dd⟩:=QxF I.hok e;have hz:xs.length<=sizeLine:=by rw[<- QdD rel];exact z
  have hl:(QkJ kvs k v).length<=sizeLine:=by have:=Qet kvs k v;omega
  refine wpAny_setItem_heap (hsz:=hz) (QfD hu) (QeC I.hok eb) dd λh' dd' hs=>h _ ?_
  obtain⟨q,es,ep,hq,h2,h3,h4,_,h5⟩:=dd';refine QiT I (by rw[e];exact YX) hs ⟨q,hq⟩ ⟨hl,hd,_,(rel.put k eb rv).keeps λc ys ec=>?_,q,es,ep,hq,h2,h3,h4,h5⟩;rw[Jw (QiC ec e (λz=>nomatch z))];exact ec
end
section
variable{X:Cx}{pins:List (Addr×Obj)}{σ:St}{H:Hp}{s:Shared}{a:Addr}{kvs:List (Key×V)}{k:Key}{u:Value}{A:Jb}{E:Value->Shared->Prop}
end
def QA9(i:Q0):Prop:=∀ov iv,subscripted i false ov iv=operate [ov,iv] (getItem ov iv)
theorem Qs7{prog:Qy}{w:Jc}{A:Jb}{E:Value->Shared->Prop}{s:Shared}{env:Env}{value slice:Q0}{pos:Pos}{T id:String}{Q:Value->Shared->Prop}
  (hl:typeLookup (.type T) "__getitem__" = pure (some (.builtin id)))(hs:QA9 slice)
  (h:wpAny (model prog w) A (eval value env) (λo s₁=>wpAny (model prog w) A (eval slice env) (λi s₂=>s₂.TypeIs o T/\wpAny (model prog w) A (getItem o i) Q E s₂) E s₁) E s) :
  wpAny (model prog w) A (eval (.Subscript value slice pos) env) Q E s:=by
 refine QyP (wpAny_mono h (λo s₁ h₁=>wpAny_mono h₁ (λi s₂ h₂=>?_) λ_ _ x=>x) λ_ _ x=>x);obtain⟨hT,h₂⟩:=h₂;unfold subscriptTail;refine wpAny_bind ?_
 rw[getitemInPython_of_ne hT.not_modules];refine wpAny_bind (QaL hT hl ?_);have fin:wpAny (model prog w) A (subscripted slice false o i) (λr s₃=>wpAny (model prog w) A (letTemporaryGo value o r >>= λ_=>pure r) Q E s₃) E s₂:=by
  rw[hs o i];exact wpAny_operating (wpAny_mono h₂ (λr s₃ h₃=>wpAny_bind (wpAny_letTemporaryGo (Qd h₃))) λ_ _ x=>x)
 first
  |exact Qd (wpAny_bind fin)
  |exact wpAny_bind (Qd (wpAny_bind fin))
  |exact wpAny_bind fin
theorem QiP{X:Cx}{pins:List (Addr×Obj)}{σ:St}{H:Hp}{s:Shared}{a:Addr}{y:V}{o:Option V}(I:Inv X pins σ H s)(g:DGet H a y o):s.TypeIs (.ref a) "dict" := by
 rcases g with⟨kvs,k,e,_,_⟩ | ⟨kvs,k,b,e,_,_,_⟩
 ·obtain⟨_,_,vs,_,dd⟩:=QnK I.hok e;exact dd.typeIs
 ·obtain⟨_,_,xs,_,dd⟩:=QnJ I.hok e;exact dd.typeIs
def Qs5(td ty:TE):TE:=λσ H Q=>td σ H λx H1=>ty σ H1 λy H2=>∃a v,x=.ref a/\DGet H2 a y (some v)/\Q v H2
def Qwg(td ty tv:TE):TS:=λD σ H=>tv σ H λv H1=>td σ H1 λx H2=>ty σ H2 λy H3=>∃a H4,x=.ref a/\DPut H3 a y v H4/\D.nx σ H4
section
variable{X:Cx}{o i e value:Q0}{pos pos' tpos:Pos}{td ty tv:TE}
theorem Qmw(hu:X.A.units+1<cLine)(ho:PE X o td)(hi:PE X i ty)(hs:QA9 i):PE X (.Subscript o i pos) (Qs5 td ty):=by
 intro pins s σ H Q I h;refine Qs7 PySem.F.slot_dict_getitem.lookup hs (thn (ho pins s σ H _ I h) λu s1 ⟨x,H1,I1,rx,q1⟩=>thn (hi pins s1 σ H1 _ I1 q1) λiv s2 ⟨y,H2,I2,ry,a,v,ex,g,q2⟩=>?_);subst ex;obtain rfl:u=QF a:=rx;exact⟨QiP I2 g,QnT hu I2 g ry λw' s3 I3 rw'=>⟨v,H2,I3,rw',q2⟩⟩
theorem QtA(hu:X.A.units+1<cLine)(ho:PE X o td)(hi:PE X i ty)(hv:PE X value tv)(hs:swapsWith value (some (.Subscript o i pos')) pos.line X.env=pure false) :
  PS X (.Assign [.Subscript o i pos'] value pos) (Qwg td ty tv):=by
 intro pins s σ H D I h;refine wpAny_Assign_Subscript (thn (hv pins s σ H _ I h) λr s1 ⟨v,H1,I1,rv,q1⟩=>thn (ho pins s1 σ H1 _ I1 q1) λu s2 ⟨x,H2,I2,rx,q2⟩=>thn (hi pins s2 σ H2 _ I2 q2) λiv s3 ⟨y,H3,I3,ry,a,H4,ex,g,q3⟩=>?_) hs;subst ex;obtain rfl:u=QF a:=rx;exact QnS hu I3 g ry rv λs4 I4=>⟨σ,H4,I4,q3⟩
end
theorem Qre{P:Qy}{w:Jc}{H:Hp}(h:Heap)(hb:sysModules<h.objs.size):ObjOk P w H (h.push { cls:=.type "dict",data:=.dict #[] }) h.objs.size (.dT []):=
 ⟨Q7 _,beq_eq_false_iff_ne.mpr (QaB (Qv hb)),[],.nil,_,#[],0,Qm _ rfl,⟨rfl,rfl,rfl⟩,rfl,rfl,QaO⟩
section
variable{X:Cx}{pos:Pos}
end
def QlW:List (TE×TE)->St->Hp->(List (V×V)->Hp->Prop)->Prop
 |[],_,H,Q=>Q [] H
 |(tk,tv)::r,σ,H,Q=>tk σ H λx H1=>tv σ H1 λy H2=>QlW r σ H2 λps H3=>Q ((x,y)::ps) H3
abbrev VV:List (V×V)->List (Value×Value)->Prop:=YY λp q=>RelV p.1 q.1/\RelV p.2 q.2
def PPs(X:Cx)(pos:Pos)(keys:List (Option Q0))(values:List Q0)(trs:List (TE×TE)):Prop:=
 ∀(pins:List (Addr×Obj))(s:Shared)(σ:St)(H:Hp)(Q:List (V×V)->Hp->Prop),Inv X pins σ H s->QlW trs σ H Q ->
  wpAny (model X.prog X.w) X.A (evalPairs (pairTrees keys values X.env pos)) (λvs s'=>∃ps H',Inv X pins σ H' s'/\VV ps vs/\Q ps H') X.xe s
theorem QtC{X:Cx}{pos:Pos}:PPs X pos [] [] []:=λpins s σ H Q I h=>pairTrees_nil_walk ⟨[],H,I,.nil,h⟩
theorem Qpc{X:Cx}{pos:Pos}{k v:Q0}{ks:List (Option Q0)}{vs:List Q0}{tk tv:TE}{trs:List (TE×TE)}(hk:PE X k tk)(hv:PE X v tv)(hr:PPs X pos ks vs trs) :
  PPs X pos (some k::ks) (v::vs) ((tk,tv)::trs):=λpins s σ H Q I h=>
 pairTrees_cons_walk (thn (hk pins s σ H _ I h) λu s1 ⟨x,H1,I1,rx,q1⟩=>thn (hv pins s1 σ H1 _ I1 q1) λw2 s2 ⟨y,H2,I2,ry,q2⟩=>
  thn (hr pins s2 σ H2 _ I2 q2) λws s3 ⟨ps,H3,I3,rel,q3⟩=>⟨(x,y)::ps,H3,I3,.cons ⟨rx,ry⟩ rel,q3⟩)
structure M2 (X:Cx) (o:Q0) (m:Str) (apos:Pos) (e f:Q0) (cpos:Pos):Prop where
 base:attributeBase o m X.env (eval o X.env)=eval o X.env
 few:((backTo cpos (starEach [e,f] X.env)).all (λx => !x.1)&&(backToKw cpos (keywordEach [] X.env)).all (λx=>x.1.isSome)
  && decide (([e,f]:List Q0).length+([]:List Qat).length+(if([]:List Qat).isEmpty then 0 else 1)<30))=true
 line:(apos.endLine == cpos.line)=true
 trees:backTo cpos (starEach [e,f] X.env)=[(false,eval e X.env),(false,eval f X.env)]
def IsD(H:Hp)(a:Addr):Prop:=(∃kvs,Rd H a (.dK kvs))∨∃kvs,Rd H a (.dT kvs)
theorem Qxx{X:Cx}{pins:List (Addr×Obj)}{σ:St}{H:Hp}{s:Shared}{a:Addr}(I:Inv X pins σ H s)(d:IsD H a) :
  s.TypeIs (.ref a) "dict" /\ (∀b,QF a=.ref b->∃ob,s.heap.get? b=some ob/\ob.dict=none)/\(a == sysModules)=false:=by
 rcases d with⟨kvs,e⟩ | ⟨kvs,e⟩
 ·obtain⟨_,hd,vs,_,dd⟩:=QnK I.hok e;refine⟨dd.typeIs,λb q=>?_,hd⟩;cases q;obtain⟨ob,_,_,h1,h2,_⟩:=dd;exact⟨ob,h1,h2.2.1⟩
 ·obtain⟨_,hd,xs,_,dd⟩:=QnJ I.hok e;refine⟨dd.typeIs,λb q=>?_,hd⟩;cases q;obtain⟨ob,_,_,h1,h2,_⟩:=dd;exact⟨ob,h1,h2.2.1⟩
section
variable{X:Cx}{pins:List (Addr×Obj)}{σ:St}{H:Hp}{s:Shared}{a:Addr}{y d:V}{u r:Value}{o:Option V}{A:Jb}{E:Value->Shared->Prop}
theorem QxO{Q:Value->Shared->Prop}(hu:A.units+1<cLine)(I:Inv X pins σ H s)(g:DGet H a y o)(ry:RelV y u)(rd:RelV d r)(h:∀w' s',Inv X pins σ H s'->RelV (o.getD d) w'->Q w' s') :
  wpAny (model X.prog X.w) A (call (.builtin "dict.get") [.ref a,u,r]) Q E s:=by
 rcases g with⟨kvs,k,e,ey,l⟩ | ⟨kvs,k,b,e,ey,eb,l⟩
 ·subst ey;obtain⟨z,hd,vs,rel,dd⟩:=QnK I.hok e;refine call_meetsIn PySem.F.slot_dict_get dd.typeIs PySem.F.entry_dict_get (PySem.F.args_dict_get_3 _ _ _) (meets_dict_get_default (mixKind X.prog X.w) a (QpV ry) hd r) ⟨_,dd.mapOf,h _ _ (I.tok _) ?_⟩;rw[l];exact(rel.val k).getD rd
 ·subst ey;cases(show u=QF b from ry);obtain⟨z,hd,xs,rel,dd⟩:=QnJ I.hok e;refine call_meetsIn PySem.F.slot_dict_get dd.typeIs PySem.F.entry_dict_get (PySem.F.args_dict_get_3 _ _ _) (meetsH_dict_get_default (tupleKind (mixKind X.prog X.w)) a b hd r) ⟨QfD hu,k,xs,QeC I.hok eb,dd,h _ _ (I.tok _) ?_⟩;rw[l];exact(rel.val k).getD rd
end
def QrL(td ty tx:TE):TE:=λσ H Q=>td σ H λx H1=>∃a,x=.ref a/\IsD H1 a/\ty σ H1 λy H2=>tx σ H2 λz H3=>∃o,DGet H3 a y o/\Q (o.getD z) H3
section
variable{X:Cx}{o e f:Q0}{apos cpos:Pos}{td ty tx:TE}
theorem Qpj(hu:X.A.units+1<cLine)(ho:PE X o td)(he:PE X e ty)(hf:PE X f tx)(m:M2 X o "get" apos e f cpos):PE X (.Call (.Attribute o "get" apos) [e,f] [] cpos) (QrL td ty tx):=by
 intro pins s σ H Q I h;refine wpAny_Call_method m.base m.few m.line PySem.F.plainAttrs_dict PySem.F.slot_dict_get PySem.F.type_dict_get (thn (ho pins s σ H _ I h) λu s1 ⟨x,H1,I1,rx,a,ex,d,q1⟩=>?_);subst ex;obtain rfl:u=QF a:=rx;obtain⟨t1,t2,_⟩:=Qxx I1 d;refine⟨t1,t2,?_⟩;rw[m.trees];refine Qcw rfl (QcY (QdS (thn (he pins s1 σ H1 _ I1 q1) λiv s2 ⟨y,H2,I2,ry,q2⟩=>
  QdS (thn (hf pins s2 σ H2 _ I2 q2) λfv s3 ⟨z,H3,I3,rz,ov,g,q3⟩=>QoG ?_))))
 exact QxO hu I3 g ry rz λw' s4 I4 rw'=>⟨_,H3,I4,rw',q3⟩
end
section
variable{X:Cx}{pins:List (Addr×Obj)}{σ:St}{H:Hp}{s:Shared}{a:Addr}{kvs:List (Key×V)}{A:Jb}{E:Value->Shared->Prop}
end
section
variable{X:Cx}{pins:List (Addr×Obj)}{σ:St}{H:Hp}{s:Shared}{a:Addr}{y:V}{u:Value}{A:Jb}{E:Value->Shared->Prop}
end
end L2
namespace Dz
section
variable{prog:Qy}{w:Jc}{A:Jb}{E:Value->Shared->Prop}{s:Shared}
structure Raw (h:Heap) (d:Addr) (es:Array DictEntry) (ep:Nat):Prop where
 at_:∃o,h.get? d=some o/\o.ExactDict/\o.data=.dict es ep
theorem Raw.ty{d:Addr}{es:Array DictEntry}{ep:Nat}(x:Raw s.heap d es ep):s.TypeIs (.ref d) "dict" := by
 obtain⟨o,e,c,_⟩:=x.at_;exact⟨o,e,c.1⟩
theorem Raw.keep{h h':Heap}{d:Addr}{es:Array DictEntry}{ep:Nat}(x:Raw h d es ep)(k:∀o,h.get? d=some o->h'.get? d=some o):Raw h' d es ep:=by
 obtain⟨o,e,r⟩:=x.at_;exact⟨o,k o e,r⟩
theorem QpW{d:Addr}{es:Array DictEntry}{ep:Nat}{Q:Value->Shared->Prop}(hS:(d == sysModules)=false)(x:Raw s.heap d es ep)
  (q:Q (.ref s.heap.objs.size) { s with heap:=s.heap.push { cls:=.type "dict_keyiterator",data:=.fields #[.ref d,.int 0 0,.int es.size 0,.int ep 0] } }) :
  wpAny (model prog w) A (pyIter (.ref d)) Q E s:=by
 have ty:=x.ty;obtain⟨o,e,c,dt⟩:=x.at_;refine QgQ ty Qg0 (Jy Qg0 ty F.entry_dict_iter ?_ (F.args_dict_iter_1 _));have first:∀{Q':Value->Shared->Prop}{A':Jb}{E':Value->Shared->Prop},Q' (.ref d) s->wpAny (model prog w) A' (Qd0 "__iter__" ⟨[.ref d],[]⟩) Q' E' s:=λq'=>by
  unfold Qd0;exact wpAny_bind (QsG ty (Qd q'))
 unfold Yw.«dict.__iter__»;refine wpAny_bind (first ?_);show wpAny _ _ (QbM d >>= _) _ _ s;unfold QbM;rw[if_neg (by rw[hS];exact Qt)];refine wpAny_bind (Qd (wpAny_bind (Qac e dt (wpAny_bind (Qkf e dt ?_)))));refine wpAny_bind (Q4 (Qd ⟨_,rfl, "dict_keyiterator",_,⟨_,Qm _ rfl,rfl⟩,Z1.lookup,?_⟩))
 simpa [rawInt] using q
theorem QpJ{it d:Addr}{i ep:Nat}{es:Array DictEntry}{en:DictEntry}{Q:Option Value->Shared->Prop}(hi:s.heap.IsKeyIter it d i es.size ep)(x:Raw s.heap d es ep)(he:es[i]? = some en)
  (q:∀h',h'.IsKeyIter it d (i+1) es.size ep->ZH it s.heap h'->Q (some en.key) { s with heap:=h' }):wpAny (model prog w) A (pyNext (.ref it)) Q E s:=by
 have ty:=hi.typeIs;obtain⟨o,e,c,dt⟩:=id hi;obtain⟨od,eo,co,dd⟩:=x.at_;have own:Qcx "dict_keyiterator" = false:=by decide
 have lt:i<es.size:=by
  rcases Nat.lt_or_ge i es.size with z | z
  ·exact z
  ·rw[Zd z] at he;cases he
 have ek:es[i]=en:=by rw[JX lt] at he;exact Qx he
 unfold pyNext;refine wpAny_bind (Qby (JH (name:=Yy "__next__") ty Z1 (Jy Z1 ty Qg1 ?_ (QgM _))));refine wpAny_bind (Qd (wpAny_bind (wpAny_bind ?_)))
 first | refine wpAny_bind (YK ty (Qd (wpAny_bind (QeN e dt ?_)))) | refine wpAny_bind (Qaz ty (Qd (wpAny_bind (QeN e dt ?_))))
 simp only[own,ZK,if_false];show wpAny _ _ (if(QF d == Jo)=true then _ else _) _ _ s;rw[if_neg (λz:(QF d == Jo)=true=>Qt z)];refine wpAny_bind (Qd (wpAny_bind (Qac eo dd ?_)));rw[if_neg (by simp)];refine wpAny_bind (Qd (wpAny_bind (Qkf eo dd ?_)));rw[if_neg (by simp)];refine Qd ?_
 simp only[show ¬((i:Int)<0) by omega,if_false,Qq,JX lt];refine wpAny_bind ?_
 first | refine wpAny_bind (YK ty (Qd (wpAny_bind (QdO ty ?_)))) | refine wpAny_bind (Qaz ty (Qd (wpAny_bind (QdO ty ?_))))
 show wpAny _ _ (setField (.ref it) 1 (rawInt ((i:Int)+1)) >>= _) _ _ s;refine wpAny_bind (Qaj e dt (by simp) ?_);have hi':(s.heap.update it (Qcs (·.setIfInBounds 1 (rawInt ((i:Int)+1))))).IsKeyIter it d (i+1) es.size ep:=⟨_,J6 _ e (QaU (ZL dt _)),(Qb0 ..).trans c,by rw[ZL dt];simp[rawInt]⟩;refine wpAny_bind (J3 (wpAny_bind (QdO (s:={ s with heap:=s.heap.update it (Qcs (·.setIfInBounds 1 (rawInt ((i:Int)+1)))) }) hi'.typeIs ?_)));show wpAny _ _ (pure es[i].key) _ _ _;rw[ek];exact Qd (Qd ⟨_,rfl,Qd (q _ hi' (JN ..))⟩)
theorem QoP{it d:Addr}{i ep:Nat}{es:Array DictEntry}{Q:Option Value->Shared->Prop}(hh:A.handled=none)(hi:s.heap.IsKeyIter it d i es.size ep)(x:Raw s.heap d es ep)(ge:es.size<=i)
  (q:∀h',Qol it s.heap h'->Q none { s with heap:=h' }):wpAny (model prog w) A (pyNext (.ref it)) Q E s:=by
 have ty:=hi.typeIs;obtain⟨o,e,c,dt⟩:=id hi;obtain⟨od,eo,co,dd⟩:=x.at_;have own:Qcx "dict_keyiterator" = false:=by decide
 unfold pyNext;refine wpAny_bind (Qby (JH (name:=Yy "__next__") ty Z1 (Jy Z1 ty Qg1 ?_ (QgM _))));refine wpAny_bind (Qd (wpAny_bind (wpAny_bind ?_)))
 first | refine wpAny_bind (YK ty (Qd (wpAny_bind (QeN e dt ?_)))) | refine wpAny_bind (Qaz ty (Qd (wpAny_bind (QeN e dt ?_))))
 simp only[own,ZK,if_false];show wpAny _ _ (if(QF d == Jo)=true then _ else _) _ _ s;rw[if_neg (λz:(QF d == Jo)=true=>Qt z)];refine wpAny_bind (Qd (wpAny_bind (Qac eo dd ?_)));rw[if_neg (by simp)];refine wpAny_bind (Qd (wpAny_bind (Qkf eo dd ?_)));rw[if_neg (by simp)];refine Qd ?_
 simp only[show ¬((i:Int)<0) by omega,if_false,Qq,Zd ge];refine wpAny_bind ?_
 first | refine wpAny_bind (YK ty (Qd ?_)) | refine wpAny_bind (Qaz ty (Qd ?_))
 show wpAny _ _ (setField (.ref it) 0 .none >>= _) _ _ s;refine wpAny_bind (Qaj e dt (by simp) ?_);show wpAny _ _ (newExc (.type "StopIteration") [] >>= _) _ _ _;refine wpAny_bind ?_
 simp only[newExc,newTuple];refine wpAny_bind (Q4 ?_ (by size_fits));refine wpAny_bind (m:=firstArgMember _ _) (Yd (a:=Jo) (by first | rfl | (simp only[firstArgMember];rfl)) (Q4 ?_ (by size_fits)));simp only[raiseNew];refine wpAny_bind (Qor ?_);rw[show A.in1.handled=none from hh];refine wpAny_bind (Qd (QvG ?_));refine wpAny_bind (Qbn (b:=true) (T := "StopIteration") ⟨_,Qm _ rfl,rfl⟩ isSubtype_stop ?_);exact Qd (q _ (((JN ..).extBut.push _).push _))
end
end Dz
namespace L2
open Dz
section
variable{X:Cx}
def Itd(d:Addr)(o:Obj)(kvs:List (List Key×V)):It:=
 ⟨λi H=>H d=some (.frz o (.dT kvs))/\i<kvs.length,λi H x H'=>H'=H/\∃p b,kvs[i]? = some p/\x=.ref b/\H b=some (.tup (p.1.map kV)),λi H=>H d=some (.frz o (.dT kvs))/\kvs.length<=i⟩
theorem paired_get{α β:Type}{F:α->β->Prop}:∀{l:List α}{m:List β},YY F l m->∀(i:Nat)(b:β),m[i]? = some b->∃a,l[i]? = some a/\F a b
 |_,_,.nil,i,b,h=>by simp at h
 |_,_,.cons (a:=a) r t,0,b,h=>by simp at h;subst h;exact⟨_,rfl,r⟩
 |_,_,.cons r t,i+1,b,h=>by
  simp only[Zr] at h;obtain⟨a,e,q⟩:=paired_get t i b h;exact⟨a,by simpa using e,q⟩
theorem Qbu{α β:Type}{F:α->β->Prop}:∀{l:List α}{m:List β},YY F l m->l.length=m.length
 |_,_,.nil=>rfl
 |_,_,.cons r t=>by rw[QC,QC,Qbu t]
theorem QlQ{P:Qy}{w:Jc}{K:PySem.W.Frag}{tg:Q0}{d it:Addr}{o:Obj}{kvs:List (List Key×V)}{es:Array DictEntry}{ep:Nat}(hd:o.ExactDict/\o.data=.dict es ep):Turn P w K tg (Itd d o kvs) [it] it (λi h=>h.IsKeyIter it d i es.size ep) where
 mem:=by simp
 obj:=λi h st b hb=>by
  have e:b=it:=by simpa using hb
  subst e;obtain⟨q,e,c,dt⟩:=st;exact⟨q,e,λv z=>by rw[dt] at z;cases z⟩
 keep:=λi h h' st k=>st.at λq e=>k it (by simp) q e
 item:=by
  intro X hP hw hK hc i pins s σ H E I hf st hg;subst hP hw hK;obtain⟨hg,hlt⟩:=hg;obtain⟨ho,z,y,xs,r,o',es',ep',e1,e2,e3,e4,e5⟩:=I.hok d _ hg;rw[ho] at e1;cases e1;rw[hd.2] at e3;cases e3;have hl:es.size=kvs.length:=by rw[<- Ql,e4,Qa,Qbu r]
  have hlx:i<xs.length:=by rw[<- Qbu r];exact hlt
  obtain⟨p,ep1,h1,h2,h3⟩:=paired_get r i xs[i] (Qe hlx);obtain⟨f0,f1,f2,f3,f4,f5⟩:=hf it (by simp);have hen:es[i]? = some (entryOfKey (tupleKind (mixKind X.prog X.w)) xs[i]):=by
   rw[<- JA,e4,Qo,Qe hlx];rfl
  refine QpJ st ⟨o,ho,e2,hd.2⟩ hen λh' st' sb=>?_
  have I1:Inv X pins σ H { s with heap:=h' }:=I.turned (t':=s.toks) (λb q hb e=>(sb.2 b hb).trans e) f0 f1 f3 f4 f5;obtain⟨q,e,c,dt⟩:=id st';exact⟨_,rfl,Qnx (s:={ s with heap:=h' }) e c dt (by decide) ⟨.ref (xs[i]).2.1,H,I1,rfl,⟨rfl,p,_,ep1,rfl,h2⟩,st',λb hb=>(hf b hb).1⟩⟩
 done:=by
  intro X hP hw hK hc i pins s σ H E I hf st hg;subst hP hw hK;obtain⟨hg,hlt⟩:=hg;obtain⟨ho,z,y,xs,r,o',es',ep',e1,e2,e3,e4,e5⟩:=I.hok d _ hg;rw[ho] at e1;cases e1;rw[hd.2] at e3;cases e3;have hl:es.size=kvs.length:=by rw[<- Ql,e4,Qa,Qbu r]
  obtain⟨f0,f1,f2,f3,f4,f5⟩:=hf it (by simp);refine QoP (I.ok.hd hc) st ⟨o,ho,e2,hd.2⟩ (by omega) λh' sb=>⟨rfl,?_⟩
  exact I.turned (t':=s.toks) (λb q hb e=>sb b q hb e) f0 f1 f3 f4 f5
 self:=λA i s Q E st q=>wpAny_pyIter_keyiter st q
def QuS(td:TE):TI:=λσ H R=>td σ H λv H1=>∃d kvs,v=.ref d/\H1 d=some (.dT kvs)/\∀o,R (Itd d o kvs) (upd H1 d (.frz o (.dT kvs)))
theorem Qmr{tg l:Q0}{td:TE}(hl:PE X l td):PI X tg l (QuS td):=by
 intro pins s σ H R I h;refine thn (hl pins s σ H _ I h) λv s1 ⟨x,H1,I1,r1,q1⟩=>?_
 obtain⟨d,kvs,e,hq,q⟩:=q1;subst e;cases r1;obtain⟨z,y,xs,r,o,es,ep,e1,e2,e3,e4,e5⟩:=(show ObjOk X.prog X.w H1 s1.heap d (.dT kvs) from I1.hok d _ hq);refine QpW y ⟨o,e1,e2,e3⟩ ?_
 have I2:Inv X pins σ (upd H1 d (.frz o (.dT kvs))) { s1 with heap:=s1.heap,toks:=s1.toks }:=by
  refine I1.write (x:=d) (e:=d) (by rw[hq];exact YX) (.inl rfl) (λb q hb z=>z) ⟨o,e1⟩ ⟨e1,z,y,xs,KT.keeps r λc ys ec=>?_,o,es,ep,e1,e2,e3,e4,e5⟩;rw[Jw (QiC ec hq (λz=>nomatch z))];exact ec
 refine⟨s1.heap.objs.size,[s1.heap.objs.size],_,_,_,rfl,I2.kept (t':=s1.toks) λb q e=>Qc _ e,QlQ ⟨e2,e3⟩,⟨_,Qm _ rfl,rfl,rfl⟩,λb hb=>?_,q o⟩;have e:b=s1.heap.objs.size:=by simpa using hb
 subst e;exact I2.fpOk (Qg _) (I2.hok.fresh (Qg _))
end
end L2
namespace Dz
section
variable{prog:Qy}{w:Jc}{A:Jb}{E:Value->Shared->Prop}{s:Shared}
theorem Qmi{b:Addr}{Q:Bool->Shared->Prop}(ty:s.TypeIs (.ref b) "tuple")(q:Q false s):wpAny (model prog w) A (QfM (.ref b)) Q E s:=by
 unfold QfM;refine wpAny_bind (QaL ty F.slot_tuple_eq.lookup (Qd ?_));exact q
theorem QiO{id:String}{d:Addr}{es:Array DictEntry}{ep:Nat}{Q:Array DictEntry->Shared->Prop}(x:Raw s.heap d es ep)(hk:∀e∈es.toList,∃b,e.key=.ref b/\s.TypeIs (.ref b) "tuple")(hu:∀e∈es.toList,(es.filter (·.hash == e.hash)).size<=1)(q:Q es s) :
  wpAny (model prog w) A (Qdm id d) Q E s:=by
 obtain⟨o,eo,co,dd⟩:=x.at_;unfold Qdm;refine wpAny_bind (Qac eo dd (wpAny_bind ?_));rw[<- QdT];refine Qbo _ (λrest _ s'=>s'=s/\∀e∈rest,e∈es.toList) _ ?_ ?_ _ _ ⟨rfl,λe h=>h⟩
 ·rintro e rest r s' ⟨rfl,hr⟩;obtain⟨b,eb,ty⟩:=hk e (hr e (.head _));rw[eb];refine wpAny_bind (Qmi ty ?_);simp only[Qdn,if_true];rw[if_neg (by have:=hu e (hr e (.head _));omega)];exact Qd ⟨rfl,λy hy=>hr y (.tail _ hy)⟩
 ·rintro r s' ⟨rfl,_⟩;exact Qd q
theorem Qnf{id:String}{d o:Addr}{es:Array DictEntry}{ep ep0:Nat}{Q:Unit->Shared->Prop}(ne:d≠o)(hS:(o == sysModules)=false)(x0:Raw s.heap d #[] ep0)(x:Raw s.heap o es ep)(h0:0<es.size)(hz:es.size<=sizeLine)
  (hk:∀e∈es.toList,∃b,e.key=.ref b/\s.TypeIs (.ref b) "tuple")(hu:∀e∈es.toList,(es.filter (·.hash == e.hash)).size<=1)(q:∀h' ep',Raw h' d es ep'->ZH d s.heap h'->Q () { s with heap:=h' }) :
  wpAny (model prog w) A (QeZ id d o) Q E s:=by
 obtain⟨oo,eo,co,dd⟩:=x.at_;obtain⟨od,eo0,co0,dd0⟩:=x0.at_;have few:(decide (es.size<=8)&&es.all λe=>(keyPart e.key).isSome)=false:=by
  have:(es.all λe=>(keyPart e.key).isSome)=false:=by
   rw[QbY];intro z;have z:=Array.all_eq_true.mp z 0 h0;obtain⟨b,eb,_⟩:=hk es[0] (ZO.mpr (Qej h0));rw[eb] at z;cases z
  rw[this,QvU]
 unfold QeZ;rw[if_neg (by simpa using ne)];unfold QbM;rw[if_neg (by rw[hS];exact Qt)];refine wpAny_bind (Qd (wpAny_bind (Qac eo dd ?_)));simp only[few,Qdn,if_true];refine wpAny_bind (Qac eo0 dd0 ?_);rw[if_pos (by rfl)];refine wpAny_bind (QiO x hk hu ?_);have hem:es.isEmpty=false:=by
  rw[QbY];intro z;rw[Array.isEmpty_iff] at z;subst z;exact absurd h0 (Zu _)
 simp only[hem,Qdn,if_true];refine wpAny_bind (wpAny_updateDictKeysTo eo0 dd0 ?_ (by omega));refine Qd (q _ (ep0+1) ⟨_,J6 _ eo0 (Obj.isFreed_of_dict (Qok dd0 _)),co0.mapDictKeys _,Qok dd0 _⟩ (JN ..))
theorem Qgz{o:Addr}{es:Array DictEntry}{ep:Nat}{Q:Value->Shared->Prop}(hS:(o == sysModules)=false)(x:Raw s.heap o es ep)(h0:0<es.size)(hz:es.size<=sizeLine)
  (hk:∀e∈es.toList,∃b,e.key=.ref b/\s.TypeIs (.ref b) "tuple")(hu:∀e∈es.toList,(es.filter (·.hash == e.hash)).size<=1)
  (q:∀h' ep',Raw h' s.heap.objs.size es ep'->ZH s.heap.objs.size (s.heap.push { cls:=.type "dict",data:=.dict #[] }) h'->Q (.ref s.heap.objs.size) { s with heap:=h' }) :
  wpAny (model prog w) A (call (.type "dict") [.ref o]) Q E s:=by
 obtain⟨oo,eo,co,dd⟩:=x.at_;have ne:s.heap.objs.size≠o:=λz=>absurd (Qk eo) (by rw[z];exact Zu _)
 have kp:∀b u,s.heap.get? b=some u->(s.heap.push { cls:=.type "dict",data:=.dict #[] }).get? b=some u:=λb u e=>Qc _ e
 refine callType_codes (Q₁:=λobj s₁=>obj=.ref s.heap.objs.size/\s₁={ s with heap:=s.heap.push { cls:=.type "dict",data:=.dict #[] } }) F.kt_called_dict (F.kt_typeCall_dict_1 _) F.entry_dict_init (kt_code_dict_new _ ⟨rfl,rfl⟩) ?_
 rintro obj s₁ ⟨rfl,rfl⟩;have x0:Raw (s.heap.push { cls:=.type "dict",data:=.dict #[] }) s.heap.objs.size #[] 0:=⟨_,Qm _ rfl,⟨rfl,rfl,rfl⟩,rfl⟩;have x1:Raw (s.heap.push { cls:=.type "dict",data:=.dict #[] }) o es ep:=x.keep λu e=>kp _ _ e
 have t0:=Raw.ty (s:={ s with heap:=s.heap.push { cls:=.type "dict",data:=.dict #[] } }) x0;have t1:=Raw.ty (s:={ s with heap:=s.heap.push { cls:=.type "dict",data:=.dict #[] } }) x1;refine⟨t0,F.args_dict_init_2 _ _,?_⟩;unfold Yw.«dict.__init__»;refine wpAny_bind ?_
 unfold Builtin.Dict.selfAndRest;refine wpAny_bind (QsG t0 ?_);show wpAny _ _ (pure (s.heap.objs.size,[QF o])) _ _ _;refine Qd ?_
 show wpAny _ _ (QeS "dict.__init__" s.heap.objs.size (.ref o) [] .none) _ _ _;unfold QeS;refine wpAny_bind (Qay t1 ?_);rw[if_neg (by decide)];refine wpAny_bind ?_
 unfold Builtin.Dict.merge;refine wpAny_bind ?_;unfold Builtin.Dict.readDirectly
 refine wpAny_bind (Qbn t1 isSubtype_dict_dict ?_);simp only[Qyq,ZK,if_false];refine wpAny_bind (QaL t1 Qg0.lookup (Qd ?_));simp only[beq_self_eq_true,if_true];refine wpAny_bind (Qd (Qnf (s:={ s with heap:=s.heap.push { cls:=.type "dict",data:=.dict #[] } }) ne hS x0 x1 h0 hz (λe he=>?_) hu λh' ep' x' sb=>?_))
 ·obtain⟨b,eb,ob,e1,e2⟩:=hk e he;exact⟨b,eb,ob,kp _ _ e1,e2⟩
 ·show wpAny _ _ (Builtin.Dict.addKeywords s.heap.objs.size [] >>= _) _ _ _;exact wpAny_bind (Qd (Qd ⟨rfl,q h' ep' x' sb⟩))
end
end Dz
namespace L2
open Dz
section
variable{X:Cx}
def hashU(kvs:List (List Key×V))(P:Qy)(w:Jc):Prop:=(kvs.map λp=>tupleKeyHash (mixKind P w) p.1).Nodup
def Qr0(P:Qy)(w:Jc):List V->Hp->VK->Prop:=λxs H Q=>∃a kvs,xs=[.ref a]/\Rd H a (.dT kvs)/\0<kvs.length/\hashU kvs P w/\∀p,H p=none->Q (.ref p) (upd H p (.dT kvs))
theorem Qfw{α:Type}(f:α->Int):∀(l:List α),(l.map f).Nodup->∀e∈l,(l.filter λy=>f y == f e).length<=1
 |[],_,e,h=>nomatch h
 |x::l,nd,e,h=>by
  have nd:=Jd.mp nd;rw[QsS];by_cases z:f x=f e
  ·rw[if_pos (beq_iff_eq.mpr z)];have:(l.filter λy=>f y == f e)=[]:=Qkq.mpr λy hy q=>nd.1 (by rw[z,<- beq_iff_eq.mp q];exact Qs.mpr ⟨y,hy,rfl⟩)
   rw[this];exact Qg _
  ·rw[if_neg (λq=>z (beq_iff_eq.mp q))];rcases Qu.mp h with q | q
   ·subst q;exact absurd rfl z
   ·exact Qfw f l nd.2 e q
theorem Qfj{α β γ:Type}{F:α->β->Prop}{f:α->γ}{g:β->γ}:∀{l:List α}{m:List β},YY F l m->(∀a b,F a b->f a=g b)->m.map g=l.map f
 |_,_,.nil,_=>rfl
 |_,_,.cons r t,h=>by rw[Js,Js,Qfj t h,h _ _ r]
theorem Qlc:CallR X (.type "dict") (Qr0 X.prog X.w):=by
 intro pins s σ H xs us Q I r h;obtain⟨a,kvs,rfl,hR,h0,hu,q⟩:=h;obtain⟨u,rfl,ru⟩:=vals1 r;cases ru;obtain⟨z,y,xs,r,o,es,ep,e1,e2,e3,e4,e5⟩:=(show ObjOk X.prog X.w H s.heap a (.dT kvs) from hR.ok I.hok);have hl:=Qbu r;have hes:es.size=xs.length:=by rw[<- Ql,e4,Qa]
 have hh:(xs.map λp=>tupleKeyHash (mixKind X.prog X.w) p.1)=kvs.map λp=>tupleKeyHash (mixKind X.prog X.w) p.1:=by
  exact Qfj r λp q h=>by rw[h.1]
 refine Qgz y ⟨o,e1,e2,e3⟩ (by omega) (by omega) (λe he=>?_) (λe he=>?_) λh' ep' x' sb=>?_
 ·rw[e4] at he;obtain⟨p,hp,rfl⟩:=Qs.mp he;obtain⟨i,hi⟩:=JR.mp hp;obtain⟨kv,_,h1,h2,h3⟩:=paired_get r i p hi;obtain⟨_,its,_,ob,e6,e7,_⟩:=(show ObjOk X.prog X.w H s.heap _ (.tup _) from I.hok _ _ h2);exact⟨p.2.1,rfl,ob,e6,e7⟩
 ·rw[<- Ql,QlH,e4];rw[e4] at he;refine Qfw (λy:DictEntry=>y.hash) _ ?_ e he
  rw[QH];show(xs.map λp=>tupleKeyHash (mixKind X.prog X.w) p.1).Nodup;rw[hh];exact hu
 ·obtain⟨o',f1,f2,f3⟩:=x'.at_;have hf:H s.heap.objs.size=none:=I.hok.fresh (Qg _);refine⟨.ref s.heap.objs.size,_,I.laid (t':=s.toks) (a:=s.heap.objs.size) (o:=.dT kvs) (λb u hb=>(sb.2 b (Qv (Qk hb))).trans (Qc _ hb)) (Qg _) ⟨z,beq_eq_false_iff_ne.mpr (QaB (Qv I.big)),xs,KT.keeps r λc ys ec=>?_,o',es,ep',f1,f2,f3,e4,e5⟩,rfl,q _ hf⟩;rw[Jw (Zl ec hf)];exact ec
end
section
variable{X:Cx}
def QrK(tk tv:TE):TE:=λσ H Q=>∀p,H p=none->QlW [(tk,tv)] σ (upd H p (.dT [])) λps H2=>∃b k y,ps=[(.ref b,y)]/\H2 p=some (.dT [])/\H2 b=some (.tup (k.map kV))/\Q (.ref p) (upd H2 p (.dT [(k,y)]))
theorem Qpi{k v:Q0}{pos:Pos}{tk tv:TE}(hu:X.A.units+1<cLine)(hk:PE X k tk)(hv:PE X v tv):PE X (.Dict [some k] [v] pos) (QrK tk tv):=by
 intro pins s σ H Q I q;have hn:=I.hok.fresh (Qg s.heap.objs.size);have I1:=I.laid (a:=s.heap.objs.size) (o:=.dT []) (h':=s.heap.push { cls:=.type "dict",data:=.dict #[] }) (t':=s.toks) (λ_ _ q=>Qc _ q) (Qg _) (Qre s.heap I.big);have pp:PPs X pos [some k] [v] [(tk,tv)]:=Qpc hk hv QtC;refine wpAny_Dict_any rfl rfl (by simp) (by show 1<=15;decide) (thn (pp pins _ σ _ _ I1 (q _ hn)) λws s2 ⟨ps,H2,I2,rel,b,ks,y,e,e1,e2,q2⟩=>?_);subst e;cases rel with
 |@cons _ c _ _ r1 r2=>
  cases r2;obtain⟨u1,u2⟩:=c;obtain⟨ru,rv⟩:=r1;cases(show u1=QF b from ru);obtain⟨z,hd,xs,rl,dd⟩:=QxF I2.hok e1;cases rl;unfold storeAll;rw[QcT];refine wpAny_bind (wpAny_bind (wpAny_dictSet_heap (knd:=tupleKind (mixKind X.prog X.w)) ?_ (QeC I2.hok e2) dd (λh' dd' hs=>?_) (Q7 _)))
  ·show X.A.units<cLine;omega
  ·refine Qd (Qd ⟨.ref s.heap.objs.size,_,?_,rfl,q2⟩);obtain⟨o,es,ep,h1,h2,h3,h4,_,h5⟩:=dd';refine QiT I2 (by rw[e1];exact YX) hs ⟨o,h1⟩ ⟨by show 1<=sizeLine;decide,hd,_,.cons ⟨rfl,?_,rv⟩ .nil,o,es,ep,h1,h2,h3,h4,h5⟩;show upd H2 s.heap.objs.size (.dT [(ks,y)]) b=_;rw[Jw (QiC e2 e1 (λz=>nomatch z))];exact e2
end
end L2
namespace Rk
theorem Qvk:bootBuiltins "dict" = some (.type "dict"):=by decide +kernel
end Rk
namespace Rk
open L2 _root_.Rd Dl Rt
abbrev Tb:=List (List Int×Int)
def QcA(L:Tb):List (List Key×V):=L.map λp=>(p.1.map Zg,V.int p.2)
def getT(L:Tb)(ks:List Int):Option Int:=(L.find? λp=>decide (p.1=ks)).map (·.2)
def Qlo(L:Tb)(ks:List Int)(v:Int):Tb:=if(L.any λp=>decide (p.1=ks))=true then L.map (λp=>if p.1=ks then(p.1,v) else p) else L++[(ks,v)]
theorem Qgm{a b:List Int}:a.map (Zg:Int->Key)=b.map Zg↔a=b:=List.map_inj_right λ_ _ e=>Qki e
theorem QfP(ks:List Int):∀L:Tb,Qln (QcA L) (ks.map Zg)=(getT L ks).map V.int
 |[]=>rfl
 |p::L=>by
  have ih:=QfP ks L;by_cases e:p.1=ks
  ·rw[show QcA (p::L)=(p.1.map Zg,V.int p.2)::QcA L from rfl,Qd1 (by rw[e])];unfold getT;rw[QaD (by simpa using e)];rfl
  ·rw[show QcA (p::L)=(p.1.map Zg,V.int p.2)::QcA L from rfl,Qd2 (λz=>e (Qgm.mp z)),ih];unfold getT;rw[Qkp (by simpa using e)]
theorem Qty(L:Tb)(ks:List Int)(v:Int):QkJ (QcA L) (ks.map Zg) (.int v)=QcA (Qlo L ks v):=by
 have ea:((QcA L).any λkv=>decide (kv.1=ks.map Zg))=L.any λp=>decide (p.1=ks):=by
  unfold QcA;rw[QeW]
  congr 1
  funext p
  exact decide_eq_decide.mpr Qgm
 unfold QkJ Qlo;rw[ea];split
 ·unfold QcA;rw[QH,QH];refine Q9 λp _=>?_
  show(if p.1.map Zg=ks.map Zg then(p.1.map Zg,V.int v) else(p.1.map Zg,V.int p.2))=_;by_cases e:p.1=ks
  ·rw[if_pos (Qgm.mpr e)];show _=((if p.1=ks then(p.1,v) else p).1.map Zg,V.int (if p.1=ks then(p.1,v) else p).2);rw[if_pos e]
  ·rw[if_neg (λz=>e (Qgm.mp z))];show _=((if p.1=ks then(p.1,v) else p).1.map Zg,V.int (if p.1=ks then(p.1,v) else p).2);rw[if_neg e]
 ·unfold QcA;rw[Q3];rfl
def Tw(φ:List Int->Int)(L:Tb):Int:=sumZ (λp=>p.2*φ p.1) L
theorem QeA{L:Tb}{p:List Int×Int}(nd:(L.map (·.1)).Nodup)(h:p∈L):getT L p.1=some p.2:=by
 induction L with
 |nil=>cases h
 |cons q L ih=>
  have nd:=Jd.mp nd;unfold getT;by_cases e:q.1=p.1
  ·rw[QaD (by simpa using e)];rcases Qu.mp h with z | z
   ·rw[z];rfl
   ·exact absurd (by show q.1∈_;rw[e];exact Qs.mpr ⟨p,z,rfl⟩) nd.1
  ·rw[Qkp (by simpa using e)];rcases Qu.mp h with z | z
   ·exact absurd (by rw[z]) e
   ·exact ih nd.2 z
theorem Qny{L:Tb}{ks:List Int}(h:(L.any λp=>decide (p.1=ks))=false):getT L ks=none:=by
 unfold getT;rw[Yj.mpr λp hp z=>by
  rw[QrB] at h;exact h p hp z]
 rfl
theorem Qo9(L:Tb)(ks:List Int)(v:Int):∀p∈Qlo L ks v,p.1=ks∨p.1∈L.map (·.1):=λp hp=>by
 unfold Qlo at hp;split at hp
 ·obtain⟨q,hq,rfl⟩:=Qs.mp hp;right
  refine Qs.mpr ⟨q,hq,?_⟩;split<;>rfl
 ·rcases JM.mp hp with z | z
  ·exact .inr (Qs.mpr ⟨p,z,rfl⟩)
  ·rw[Q5.mp z];exact .inl rfl
theorem QwD{L:Tb}(nd:(L.map (·.1)).Nodup)(ks:List Int)(v:Int):((Qlo L ks v).map (·.1)).Nodup:=by
 unfold Qlo;split
 ·rw[QH];have:((λp:List Int×Int=>p.1)∘λp=>if p.1=ks then(p.1,v) else p)=λp=>p.1:=by
   funext p
   show(if p.1=ks then(p.1,v) else p).1=p.1;split<;>rfl
  rw[this];exact nd
 ·rename_i h
  rw[Q3];refine QbW.mpr ⟨nd,Jd.mpr ⟨QQ,QaO⟩,λa ha b hb e=>h ?_⟩;rw[Qcu];obtain⟨p,hp,rfl⟩:=Qs.mp ha;refine⟨p,hp,?_⟩;have hb:b=ks:=Q5.mp hb;rw[decide_eq_true_eq,<- hb];exact e
theorem Qtx(φ:List Int->Int)(ks:List Int)(n:Int):∀{L:Tb},(L.map (·.1)).Nodup->Tw φ (Qlo L ks ((getT L ks).getD 0+n))=Tw φ L+n*φ ks:=by
 intro L nd;by_cases z:(L.any λp=>decide (p.1=ks))=true
 ·unfold Qlo;rw[if_pos z];generalize hv:(getT L ks).getD 0+n=v;have key:∀M:Tb,(M.map (·.1)).Nodup->(∀p∈M,p.1=ks->p.2+n=v)->(M.any λp=>decide (p.1=ks))=true->Tw φ (M.map λp=>if p.1=ks then(p.1,v) else p)=Tw φ M+n*φ ks:=λM=>by
   induction M with
   |nil=>intro _ _ h;cases h
   |cons p M ih=>
    intro nd hm h;have nd:=Jd.mp nd;show(if p.1=ks then(p.1,v) else p).2*φ (if p.1=ks then(p.1,v) else p).1+Tw φ (M.map λp=>if p.1=ks then(p.1,v) else p)=p.2*φ p.1+Tw φ M+n*φ ks;by_cases e:p.1=ks
    ·rw[if_pos e];have:(M.map λp=>if p.1=ks then(p.1,v) else p)=M:=by
      conv=>rhs;rw[<- QgI M]
      refine Q9 λq hq=>if_neg λz=>nd.1 ?_
      show p.1∈_;rw[e,<- z];exact Qs.mpr ⟨q,hq,rfl⟩
     rw[this,<- hm p (.head _) e];show(p.2+n)*φ p.1+_=_;rw[e,Int.add_mul];omega
    ·rw[if_neg e,ih nd.2 (λq hq=>hm q (.tail _ hq)) (by
      rw[YZ,decide_eq_false e,Qyr] at h;exact h)]
     omega
  refine key L nd (λp hp e=>?_) z;have:=QeA nd hp;rw[e] at this;rw[this] at hv;exact hv
 ·have z:(L.any λp=>decide (p.1=ks))=false:=QbY.mpr z;rw[Qny z];unfold Qlo;rw[if_neg (by rw[z];exact Qt)];show sumZ _ (L++[(ks,0+n)])=_;rw[QcZ];show _+((0+n)*φ ks+0)=_;unfold Tw;rw[Zk];omega
def Qs6:List Int->List (List Int)
 |[]=>[[]]
 |x::xs=>(Qs6 xs).map (x::·)++Qs6 xs
def fam:List (List Int):=Qs6 [0,1,2,3,4,5]
def insI(c:Int):List Int->List Int
 |[]=>[c]
 |x::xs=>if c<=x then c::x::xs else x::insI c xs
def mkT(ks:List Int):Nat:=ks.foldr (λc t=>t ||| 2^c.toNat) 0
theorem insI_perm(c:Int):∀ks:List Int,(insI c ks).Perm (ks++[c])
 |[]=>Zy _
 |x::xs=>by
  unfold insI;split
  ·exact(List.perm_append_singleton c (x::xs)).symm
  ·exact(insI_perm c xs).cons x
theorem Qrc:∀ks∈fam,ks.Pairwise (·<=·):=by decide +kernel
theorem Qgo:∀ks∈fam,∀c∈([0,1,2,3,4,5]:List Int),c∉ks->insI c ks∈fam/\mkT (insI c ks)=mkT ks ||| 2^c.toNat/\(insI c ks).length=ks.length+1:=by decide +kernel
theorem QuW:∀ks∈fam,∀c∈([0,1,2,3,4,5]:List Int),(mkT ks).testBit c.toNat=decide (c∈ks):=by decide +kernel
theorem Qsr:∀ks∈fam,∀c∈ks,c∈([0,1,2,3,4,5]:List Int):=by decide +kernel
theorem QiN:∀w:Fin 7,∀ks∈fam,(∀c∈ks,c<(w:Nat))->ks.length<=w:=by decide +kernel
def Qk4(ks:List Int):Int:=reduceHash (Qy4 (ks.map hashInt))
theorem Qrd:(fam.map Qk4).Nodup:=by decide +kernel
theorem Qp1(P:Qy)(w:Jc)(ks:List Int):tupleKeyHash (mixKind P w) (ks.map Zg)=Qk4 ks:=by
 unfold tupleKeyHash Qk4;rw[QH];rfl
theorem Ql6{c:Int}(h0:0<=c)(h6:c<6):c∈([0,1,2,3,4,5]:List Int):=by
 have:c=0∨c=1∨c=2∨c=3∨c=4∨c=5:=by omega
 rcases this with rfl | rfl | rfl | rfl | rfl | rfl<;>decide
theorem QoS{ks ms:List Int}{c:Int}(hk:ks∈fam)(hc:c∈([0,1,2,3,4,5]:List Int))(hn:c∉ks)(p:ms.Perm (ks++[c]))(s:ms.Pairwise (·<=·)):ms=insI c ks:=
 Y7 (le:=λa b=>a<=b) (λa b _ _ h1 h2=>Int.le_antisymm h1 h2) s (Qrc _ (Qgo ks hk c hc hn).1) (p.trans (insI_perm c ks).symm)
structure TbOk (r w:Nat) (L:Tb):Prop where
 nd:(L.map (·.1)).Nodup
 mem:∀p∈L,p.1∈fam/\p.1.length<=r/\∀c∈p.1,c<(w:Int)
theorem Qhm{α β:Type}{f:α->β}{l:List α}(h:(l.map f).Nodup):∀{a b:α},a∈l->b∈l->f a=f b->a=b:=by
 induction l with
 |nil=>intro a b ha;cases ha
 |cons x l ih=>
  intro a b ha hb e;have h:=Jd.mp h;rcases Qu.mp ha with z | z
  ·rcases Qu.mp hb with y | y
   ·rw[z,y]
   ·exact absurd (by rw[<- z,e];exact Qs.mpr ⟨b,y,rfl⟩) h.1
  ·rcases Qu.mp hb with y | y
   ·exact absurd (by rw[<- y,<- e];exact Qs.mpr ⟨a,z,rfl⟩) h.1
   ·exact ih h.2 z y e
theorem Qhn{α β:Type}{f:α->β}:∀{l:List α},l.Nodup->(∀a∈l,∀b∈l,f a=f b->a=b)->(l.map f).Nodup
 |[],_,_=>QaO
 |x::l,h,q=>by
  have h:=Jd.mp h;refine Jd.mpr ⟨λz=>h.1 ?_,Qhn h.2 λa ha b hb=>q a (.tail _ ha) b (.tail _ hb)⟩;obtain⟨y,hy,e⟩:=Qs.mp z;rw[q x (.head _) y (.tail _ hy) e.symm];exact hy
theorem TbOk.hashU{r w:Nat}{L:Tb}(t:TbOk r w L)(P:Qy)(W:Jc):L2.hashU (QcA L) P W:=by
 unfold L2.hashU QcA;rw[QH];have e:((λp:List Key×V=>tupleKeyHash (mixKind P W) p.1)∘λp:List Int×Int=>(p.1.map Zg,V.int p.2))=λp=>Qk4 p.1:=by
  funext p
  exact Qp1 P W p.1
 rw[e];have e2:(L.map λp=>Qk4 p.1)=(L.map (·.1)).map Qk4:=by rw[QH];rfl
 rw[e2];refine Qhn t.nd λa ha b hb he=>?_
 obtain⟨p,hp,rfl⟩:=Qs.mp ha;obtain⟨q,hq,rfl⟩:=Qs.mp hb;exact Qhm Qrd (t.mem p hp).1 (t.mem q hq).1 he
theorem Qgp(L:Tb):(QcA L).length=L.length:=Qa _
theorem TbOk.len{r w:Nat}{L:Tb}(t:TbOk r w L):L.length<=64:=by
 have key:∀(M N:List (List Int)),M.Nodup->(∀x∈M,x∈N)->M.length<=N.length:=λM=>by
  induction M with
  |nil=>intro N _ _;exact Q7 _
  |cons x M ih=>
   intro N nd h;have nd:=Jd.mp nd;have:=ih (N.erase x) nd.2 λy hy=>(QlD (λe:y=x=>nd.1 (by rw[<- e];exact hy))).mpr (h y (.tail _ hy))
   have a:=Qih (h x (.head _));have b:0<N.length:=Qkn (h x (.head _));rw[QC];omega
 have:=key (L.map (·.1)) fam t.nd λx hx=>by
  obtain⟨p,hp,rfl⟩:=Qs.mp hx;exact(t.mem p hp).1
 rw[Qa] at this;exact this
theorem TbOk.put{r w:Nat}{L:Tb}(t:TbOk r w L){ks:List Int}(hk:ks∈fam/\ks.length<=r/\∀c∈ks,c<(w:Int))(v:Int):TbOk r w (Qlo L ks v):=by
 refine⟨QwD t.nd ks v,λp hp=>?_⟩;rcases Qo9 L ks v p hp with z | z
 ·rw[z];exact hk
 ·obtain⟨q,hq,e⟩:=Qs.mp z;rw[<- e];exact t.mem q hq
theorem TbOk.mono{r w:Nat}{L:Tb}(t:TbOk r w L):TbOk (r+1) w L:=⟨t.nd,λp hp=>⟨(t.mem p hp).1,Nat.le_succ_of_le (t.mem p hp).2.1,(t.mem p hp).2.2⟩⟩
def Nx(f:Nat->Nat->Bool)(r:Nat)(φ:List Int->Int)(ks:List Int)(w:Nat):Int:=sumZ (λc:Nat=>if(f r c && !decide ((c:Int)∈ks))=true then φ (insI c ks) else 0) (Qf w)
def Ph(f:Nat->Nat->Bool)(h w r k:Nat)(ks:List Int):Int:=if ks.length<=k then Wc (cellsF h w f) h (h - r) (mkT ks) (k - ks.length) else 0
theorem QfT{α:Type}(F:α->Int)(p:α->Bool):∀l:List α,sumZ F (l.filter p)=sumZ (λx=>if p x=true then F x else 0) l
 |[]=>rfl
 |x::l=>by
  rw[QsS];by_cases z:p x=true
  ·rw[if_pos z];show F x+_=(if p x=true then F x else 0)+_;rw[if_pos z,QfT F p l]
  ·rw[if_neg z];show _=(if p x=true then F x else 0)+_;rw[if_neg z,QfT F p l];omega
theorem QrN(B:Nat->Nat->Int)(t k:Nat):∀cs:List Nat,QrO B t cs k=sumZ (λc=>if t.testBit c=true then 0 else B (t ||| 2^c) k) cs
 |[]=>rfl
 |c::cs=>by show _+QrO B t cs k=_+_;rw[QrN B t k cs]
theorem QcG{α:Type}{F G:α->Int}:∀{l:List α},(∀x∈l,F x=G x)->sumZ F l=sumZ G l
 |[],_=>rfl
 |x::l,h=>by show F x+_=G x+_;rw[h x (.head _),QcG λy hy=>h y (.tail _ hy)]
theorem Qvp{f:Nat->Nat->Bool}{h w r k:Nat}(w6:w<=6)(hr:r<h){ks:List Int}(hk:ks∈fam):Ph f h w r k ks=Ph f h w (r+1) k ks+Nx f r (Ph f h w (r+1) k) ks w:=by
 have eh:h - r=(h - (r+1))+1:=by omega
 have er:h - 1 - (h - (r+1))=r:=by omega
 have go:∀c∈Qf w,(if(f r c && !decide ((c:Int)∈ks))=true then Ph f h w (r+1) k (insI c ks) else 0)=if f r c=true then(if(mkT ks).testBit c=true then 0 else if ks.length+1<=k then Wc (cellsF h w f) h (h - (r+1)) (mkT ks ||| 2^c) (k - (ks.length+1)) else 0) else 0:=λc hc=>by
  have hc:=Qz.mp hc;have h6:=Ql6 (c:=(c:Int)) (by omega) (by omega);have hb:=QuW ks hk c h6;rw[Qq] at hb;rw[hb];by_cases z:f r c=true
  ·rw[z,Qjc];by_cases y:(c:Int)∈ks
   ·rw[decide_eq_true y];rfl
   ·rw[decide_eq_false y];obtain⟨_,e1,e2⟩:=Qgo ks hk c h6 y;rw[Qq] at e1;show Ph f h w (r+1) k (insI c ks)=_;unfold Ph;rw[e1,e2];rfl
  ·have z:f r c=false:=QbY.mpr z;rw[z];rfl
 unfold Nx;rw[QcG go];unfold Ph;by_cases l:ks.length<=k
 ·rw[if_pos l,if_pos l,eh];show Qem (Wc (cellsF h w f) h (h - (r+1))) (Qrf (cellsF h w f) (h - 1 - (h - (r+1)))) (mkT ks) (k - ks.length)=_;unfold Qem;rw[er,Qx0 f hr,QrN,QfT]
  congr 1
  by_cases l2:k - ks.length=0
  ·rw[if_pos l2];have l3:¬ks.length+1<=k:=by omega
   symm
   have:∀c∈Qf w,(if f r c=true then(if(mkT ks).testBit c=true then 0 else if ks.length+1<=k then Wc (cellsF h w f) h (h - (r+1)) (mkT ks ||| 2^c) (k - (ks.length+1)) else 0) else 0)=(0:Int):=λc _=>by
    rw[if_neg l3];split
    ·split<;>rfl
    ·rfl
   rw[QcG this];generalize Qf w=l;induction l with
   |nil=>rfl
   |cons x l ih=>show(0:Int)+_=0;rw[ih];rfl
  ·rw[if_neg l2];refine QcG λc _=>?_
   rw[if_pos (by omega:ks.length+1<=k),show k - ks.length - 1=k - (ks.length+1) by omega]
 ·rw[if_neg l,if_neg l];have l3:¬ks.length+1<=k:=by omega
  have:∀c∈Qf w,(if f r c=true then(if(mkT ks).testBit c=true then 0 else if ks.length+1<=k then Wc (cellsF h w f) h (h - (r+1)) (mkT ks ||| 2^c) (k - (ks.length+1)) else 0) else 0)=(0:Int):=λc _=>by
   rw[if_neg l3];split
   ·split<;>rfl
   ·rfl
  rw[QcG this]
  symm
  rw[Zk];generalize Qf w=l;induction l with
  |nil=>rfl
  |cons x l ih=>show(0:Int)+_=0;rw[ih];rfl
theorem QAi{φ ψ:List Int->Int}{L:Tb}(h:∀p∈L,φ p.1=ψ p.1):Tw φ L=Tw ψ L:=QcG λp hp=>by rw[h p hp]
theorem QsE(φ ψ:List Int->Int):∀L:Tb,Tw (λks=>φ ks+ψ ks) L=Tw φ L+Tw ψ L
 |[]=>rfl
 |p::L=>by
  show p.2*(φ p.1+ψ p.1)+Tw (λks=>φ ks+ψ ks) L=p.2*φ p.1+Tw φ L+(p.2*ψ p.1+Tw ψ L);rw[QsE φ ψ L,Int.mul_add];omega
section
variable(K:PySem.W.Frag)(P:Qy)(W:Jc)(u:Nat)
def cIx(i:Int):TE:=tOp (Qzl K) (Qbs 0) (tC (.int i))
def cB2:TS:=QAq (QAr (Qs3 (tOp (Qyv u false) (QoN (Qak (Qbs 2) (Qak (Qbs 5) Qe1))) (cIx K 2))) (Qs3 (tOp (rIn K true) (Qbs 5) (Qbs 4))))
 (QrJ (Qjl (tCB (Qiv K) (Qak (tCB (QrY K) (Qak (tOp Qts (Qbs 4) (QoN (Qak (Qbs 5) Qe1))) Qe1)) Qe1)) (Qbk 6)) (Qwg (Qbs 3) (Qbs 6) (tOp (rI0 λi j=>V.int (i+j)) (QrL (Qbs 3) (Qbs 6) (tC (V.int 0))) (Qs5 (Qbs 1) (Qbs 4))))) Qv3
def cB1:TS:=tFor (QuR (Qak (cIx K 1) Qe1)) (Qbk 5) (cB2 K u)
def QA4:TS:=QrJ (Qjl (tCB (Qr0 P W) (Qak (Qbs 1) Qe1)) (Qbk 3)) (QrJ (tFor (QuS (Qbs 1)) (Qbk 4) (cB1 K u)) (Qjl (Qbs 3) (Qbk 1)))
def QA5:TE:=tCB (λxs H Q=>∃p ys,xs=[V.ref p]/\(SqL K H p ys∨SqT K H p ys)/\Q (V.int ys.length) H) (Qak (Qbs 4) Qe1)
def QA3:TS:=Qjl (tOp (rI0 λi j=>V.int (i+j)) (tOp (Qwp K) (Qbs 7) (QA5 K)) (Qs5 (Qbs 1) (Qbs 4))) (gSub (Qbs 7) (QA5 K) Qto)
def QBE:TS:=QrJ (Qjl (QrK (QoN Qe1) (tC (V.int 1))) (Qbk 1)) (QrJ (tFor (QuR (Qak (cIx K 0) Qe1)) (Qbk 2) (QA4 K P W u))
 (QrJ (Qjl (tOp Qwn (Qv4 (Qak (tC (V.int 0)) Qe1)) (tOp (rI0 λi j=>V.int (i+j)) (tCB (λxs H Q=>∃i j,xs=[V.int i,V.int j]/\Q (V.int (if j<i then j else i)) H) (Qak (cIx K 0) (Qak (cIx K 1) Qe1))) (tC (V.int 1)))) (Qbk 7))
  (QrJ (tFor (QuS (Qbs 1)) (Qbk 4) (QA3 K)) (QAo (Qbs 7)))))
end
def Kb(e:Addr)(H H':Hp):Prop:=∀a o,a≠e->H a=some o->H' a=some o
def stp(f:Nat->Nat->Bool)(r:Nat)(ks:List Int)(n:Int)(c:Nat)(L:Tb):Tb:=if(f r c && !decide ((c:Int)∈ks))=true then Qlo L (insI c ks) ((getT L (insI c ks)).getD 0+n) else L
structure Bf (H:Hp) (b:Addr) (h w:Nat) (f:Nat->Nat->Bool):Prop where
 at_:∃c ps,H b=some (.tup [.int h,.int w,.ref c])/\H c=some (.tup ps)/\Dats H ps ((cellsF h w f).map pairD)
theorem Bf.of{H:Hp}{b:Addr}{h w:Nat}{f:Nat->Nat->Bool}(q:Dat H (.ref b) (bdD h w (cellsF h w f))):Bf H b h w f:=by
 cases q with
 |tup e q=>cases q with
  |cons q1 q=>cases q with
   |cons q2 q=>cases q with
    |cons q3 q=>
     cases q;cases q1;cases q2;cases q3 with
     |tup e2 q2=>exact⟨_,_,e,e2,q2⟩
theorem Bf.same{H H':Hp}{b:Addr}{h w:Nat}{f:Nat->Nat->Bool}(x:Bf H b h w f)(s:Same H H'):Bf H' b h w f:=by
 obtain⟨c,ps,e1,e2,q⟩:=x.at_;exact⟨c,ps,s _ _ e1,s _ _ e2,q.same s⟩
theorem Qx3{K:PySem.W.Frag}{u:Nat}{b d e t:Addr}{h w r c:Nat}{f:Nat->Nat->Bool}{L L':Tb}{ks:List Int}{n:Int}{o:Obj}{x6 x7:Option V}{D:Ends}{H:Hp}(hu:u+60<cLine)(w6:w<=6)(hr:r<h)(hc:c<w)(B:Bf H b h w f)(hd:H d=some (.frz o (.dT (QcA L))))(he:H e=some (.dT (QcA L')))(ht:H t=some (.tup (ks.map V.int)))(hk:(ks,n)∈L)(t1:TbOk r w L)(t2:TbOk (r+1) w L')
  (hN:∀x6 H',Kb e H H'->H' e=some (.dT (QcA (stp f r ks n c L')))->D.nx [some (.ref b),some (.ref d),some (.int r),some (.ref e),some (.ref t),some (.int c),x6,x7] H') :
  cB2 K u D [some (.ref b),some (.ref d),some (.int r),some (.ref e),some (.ref t),some (.int c),x6,x7] H:=by
 obtain⟨cc,ps,e1,e2,q⟩:=B.at_;have ek:(ks.map (Zg:Int->Key)).map kV=ks.map V.int:=by rw[QH];rfl
 obtain⟨hf,_,_⟩:=t1.mem _ hk;have h6:=Ql6 (c:=(c:Int)) (by omega) (by omega);refine⟨_,rfl,_,rfl,by show 2<=1000;decide,λa H2 s2 n2 a2=>⟨_,rfl,b,_,_,_,rfl,rfl,SqT.of (s2 _ _ e1),JU (j:=2) rfl,?_⟩⟩;have dz:=QcP ((r:Int),(c:Int));refine⟨cc,ps,_,pairD ((r:Int),(c:Int)),rfl,s2 _ _ e2,q.same s2,.tup a2 (.cons (.int _) (.cons (.int _) .nil)),by omega,_,rfl,?_⟩;rw[QeL];have ec:decide (((r:Int),(c:Int))∈cellsF h w f)=f r c:=by
  rw[Ze,decide_eq_true_eq,Z6];constructor
  ·rintro⟨r',c',_,_,e,q⟩;injection q with q1 q2
   rw[show r=r' by omega,show c=c' by omega];exact e
  ·exact λe=>⟨r,c,hr,hc,e,rfl⟩
 rw[ec];cases z1:f r c with
 |false=>
  refine hN x6 H2 (λa o _ ea=>s2 _ _ ea) ?_
  rw[show stp f r ks n c L'=L' by unfold stp;rw[z1];rfl];exact s2 _ _ he
 |true=>
  have ei:inV (V.int c) (ks.map V.int)=decide ((c:Int)∈ks):=by
   unfold inV;rw[QeW,Ze,Qcu,decide_eq_true_eq];constructor
   ·rintro⟨x,hx,e⟩;have e:(x == (c:Int))=true:=e;rw[<- beq_iff_eq.mp e];exact hx
   ·intro hx;exact⟨c,hx,beq_self_eq_true (c:Int)⟩
  refine⟨_,rfl,_,rfl,t,_,rfl,.inr (SqT.of (s2 _ _ ht)),rfl,by rw[List.all_map];exact Zi.mpr λ_ _=>rfl,_,rfl,?_⟩;show if(!inV (V.int c) (ks.map V.int))=true then _ else _
  rw[ei];by_cases z2:(c:Int)∈ks
  ·rw[decide_eq_true z2];refine hN x6 H2 (λa o _ ea=>s2 _ _ ea) ?_
   rw[show stp f r ks n c L'=L' by unfold stp;rw[z1,decide_eq_true z2];rfl];exact s2 _ _ he
  ·rw[decide_eq_false z2];obtain⟨g1,g2,g3⟩:=Qgo ks hf c h6 z2;refine⟨_,rfl,_,rfl,by show 1<=1000;decide,λa3 H3 s3 n3 e3=>?_⟩;refine⟨t,a3,_,_,rfl,rfl,s3 _ _ (s2 _ _ ht),e3,?_,λa4 H4 s4 e4=>?_⟩
   ·rw[Qa];have:=(QiN ⟨6,by decide⟩ ks hf λc hc=>by have:=Qsr ks hf c hc;revert this;simp;omega);have:ks.length<=6:=this;show _+1<=sizeLine;rw[ZI];omega
   have ecat:ks.map V.int++[V.int c]=(ks++[(c:Int)]).map V.int:=by rw[Q3];rfl
   rw[ecat] at e4;refine⟨a4,ks++[(c:Int)],rfl,SqT.of e4,?_,λa5 ms H5 s5 n5 e5 pm pw=>?_⟩
   ·have:=(QiN ⟨6,by decide⟩ ks hf λc hc=>by have:=Qsr ks hf c hc;revert this;simp;omega);have:ks.length<=6:=this;rw[Qw];show _+1<64;omega
   obtain rfl:=QoS hf h6 z2 pm pw;refine⟨a5,_,rfl,.inl ⟨SqL.of e5,λa6 H6 s6 n6 e6=>?_⟩⟩;have s26:Same H H6:=((((s2.trans s3).trans s4).trans s5).trans s6);have he6:=s26 _ _ he;have hd6:=s26 _ _ hd;have ht6:=s26 _ _ ht;have ek6:H6 a6=some (.tup (((insI c ks).map (Zg:Int->Key)).map kV)):=by
    rw[QH];exact e6
   have gd:DGet H6 d (.ref t) (some (.int n)):=.inr ⟨QcA L,ks.map Zg,t,.inr ⟨o,hd6⟩,rfl,by rw[ek];exact ht6,by rw[QfP,QeA t1.nd hk];rfl⟩;refine⟨_,rfl,e,rfl,.inr ⟨_,.inl he6⟩,_,rfl,_,DGet.t he6 ek6,_,rfl,_,rfl,d,_,rfl,gd,(getT L' (insI c ks)).getD 0,n,?_,rfl,?_⟩
   ·rw[QfP];cases getT L' (insI c ks)<;>rfl
   ·refine⟨_,rfl,_,rfl,e,_,rfl,DPut.t he6 ek6 ?_,?_⟩
    ·rw[Qgp,ZI];have:=t2.len;omega
    ·refine hN _ _ (λa o ne ea=>?_) ?_
     ·rw[Jw ne];exact s26 _ _ ea
     ·rw[Jg,Qty];unfold stp;rw[z1,decide_eq_false z2];rfl
theorem Qv7{f:Nat->Nat->Bool}{r w c:Nat}{ks:List Int}{n:Int}{L L':Tb}(w6:w<=6)(hc:c<w)(t1:TbOk r w L)(hk:(ks,n)∈L)(t2:TbOk (r+1) w L'):TbOk (r+1) w (stp f r ks n c L'):=by
 unfold stp;split
 ·rename_i z
  have z:=JZ.mp z;have z2:(c:Int)∉ks:=by simpa using z.2
  obtain⟨hf,hl,hb⟩:=t1.mem _ hk;obtain⟨g1,g2,g3⟩:=Qgo ks hf c (Ql6 (by omega) (by omega)) z2;refine t2.put ⟨g1,by rw[g3];exact Qvt hl,λx hx=>?_⟩ _;rcases JM.mp ((insI_perm c ks).mem_iff.mp hx) with y | y
  ·exact hb x y
  ·rw[Q5.mp y];omega
 ·exact t2
theorem Qs8{f:Nat->Nat->Bool}{r w c:Nat}{ks:List Int}{n:Int}{L':Tb}(t2:TbOk (r+1) w L')(φ:List Int->Int):Tw φ (stp f r ks n c L')=Tw φ L'+n*(if(f r c && !decide ((c:Int)∈ks))=true then φ (insI c ks) else 0):=by
 unfold stp;split
 ·exact Qtx φ (insI c ks) n t2.nd
 ·rw[QlE];omega
theorem Qs9(f:Nat->Nat->Bool)(r:Nat)(ks:List Int)(n:Int)(c:Nat)(L:Tb):L.length<=(stp f r ks n c L).length:=by
 unfold stp Qlo;split
 ·split
  ·rw[Qa];exact Qg _
  ·rw[Qw];exact QfJ _ _
 ·exact Qg _
theorem Kb.trans{e:Addr}{H H1 H2:Hp}(a:Kb e H H1)(b:Kb e H1 H2):Kb e H H2:=λx o n h=>b x o n (a x o n h)
theorem Kb.base{e:Addr}{H0 H H':Hp}(s:Same H0 H)(n:H0 e=none)(k:Kb e H H'):Same H0 H':=λb o h=>k b o (λz=>by rw[z,n] at h;cases h) (s b o h)
def QA1(f:Nat->Nat->Bool)(r:Nat)(φ:List Int->Int)(ks:List Int)(j:Nat):Int:=sumZ (λc:Nat=>if(f r c && !decide ((c:Int)∈ks))=true then φ (insI c ks) else 0) (Qf j)
theorem Qx4{K:PySem.W.Frag}{u:Nat}{b d e t:Addr}{h w r:Nat}{f:Nat->Nat->Bool}{L L':Tb}{ks:List Int}{n:Int}{o:Obj}{x5 x6 x7:Option V}{D:Ends}{H0 H:Hp}(hu:u+60<cLine)(w6:w<=6)(hr:r<h)(B:Bf H0 b h w f)(s0:Same H0 H)(n0:H0 e=none)(hd:H d=some (.frz o (.dT (QcA L))))(he:H e=some (.dT (QcA L')))(ht:H t=some (.tup (ks.map V.int)))(hk:(ks,n)∈L)(t1:TbOk r w L)(t2:TbOk (r+1) w L')
  (hN:∀x5 x6 H' L'',Kb e H H'->H' e=some (.dT (QcA L''))->TbOk (r+1) w L''->L'.length<=L''.length->(∀φ,Tw φ L''=Tw φ L'+n*Nx f r φ ks w)->D.nx [some (.ref b),some (.ref d),some (.int r),some (.ref e),some (.ref t),x5,x6,x7] H') :
  cB1 K u D [some (.ref b),some (.ref d),some (.int r),some (.ref e),some (.ref t),x5,x6,x7] H:=by
 obtain⟨cc,ps,e1,e2,q⟩:=(B.same s0).at_;have de:d≠e:=QiC hd he (λz=>nomatch z);have te:t≠e:=QiC ht he (λz=>nomatch z);refine⟨_,rfl,b,_,_,_,rfl,rfl,SqT.of e1,JU (j:=1) rfl,w,rfl,by omega,by omega,?_⟩;rw[Qq];refine QeB (λj σ H'=>∃x5 x6 L'',σ=[some (.ref b),some (.ref d),some (.int r),some (.ref e),some (.ref t),x5,x6,x7]/\Kb e H H'/\H' e=some (.dT (QcA L''))/\TbOk (r+1) w L''/\L'.length<=L''.length/\∀φ,Tw φ L''=Tw φ L'+n*QA1 f r φ ks j) ⟨_,_,L',rfl,λ_ _ _ h=>h,he,t2,Qg _,λφ=>?_⟩ ?_ ?_
 ·show _=_+n*0;rw[QlE];omega
 ·rintro j σ H' hj ⟨x5,x6,L'',rfl,kb,he',t',ln,sm⟩;rw[show(0:Int)+(j:Int)=(j:Int) by omega];refine Qx3 hu w6 hr hj (B.same (Kb.base s0 n0 kb)) (kb _ _ de hd) he' (kb _ _ te ht) hk t1 t' λx6' H2 kb2 he2=>⟨_,_,_,rfl,kb.trans kb2,he2,Qv7 w6 hj t1 hk t',QY ln (Qs9 ..),λφ=>?_⟩
  rw[Qs8 t' φ,sm φ];unfold QA1;rw[JL,QcZ,Int.mul_add];show _=_+(_+n*((if(f r j && !decide ((j:Int)∈ks))=true then φ (insI j ks) else 0)+0));rw[YR,Qy0]
 ·rintro σ H' ⟨x5,x6,L'',rfl,kb,he',t',ln,sm⟩;exact hN x5 x6 H' L'' kb he' t' ln sm
theorem Qj0{d:Addr}{o:Obj}{kvs:List (List Key×V)}{g:TG}{tb:TS}{D:Ends}{σ:L2.St}{H:Hp}(Pv:Nat->L2.St->Hp->Prop)(h0:Pv 0 σ H)(hl:∀i σ H,Pv i σ H->H d=some (.frz o (.dT kvs)))
  (hs:∀i p b σ H,kvs[i]? = some p->H b=some (.tup (p.1.map kV))->Pv i σ H->g (.ref b) σ H λσ2 H2=>tb { D with nx:=Pv (i+1),ct:=Pv (i+1),bk:=D.nx } σ2 H2)(hd:∀σ H,Pv kvs.length σ H->D.nx σ H) :
  ∃W:Nat->Nat->L2.St->Hp->Prop,(∃m,W 0 m σ H)/\∀i m σ H,W i m σ H ->
   ((Itd d o kvs).stop i H/\D.nx σ H)∨((Itd d o kvs).go i H/\∃N:L2.St->Hp->Prop,(∀σ' H',N σ' H'->∃m',m'<m/\W (i+1) m' σ' H')/\∀x H',(Itd d o kvs).yld i H x H'->g x σ H' λσ2 H2=>tb { D with nx:=N,ct:=N,bk:=D.nx } σ2 H2):=by
 refine⟨λi m σ H=>m=kvs.length - i/\i<=kvs.length/\Pv i σ H,⟨kvs.length,by simp,Q7 _,h0⟩,?_⟩;rintro i m σ H ⟨rfl,hi,p⟩;have q:=hl i σ H p;by_cases lt:i<kvs.length
 ·refine .inr ⟨⟨q,lt⟩,Pv (i+1),λσ' H' p'=>⟨kvs.length - (i+1),by omega,rfl,lt,p'⟩,λx H' y=>?_⟩;obtain⟨rfl,kv,b,e1,rfl,e2⟩:=y;exact hs i kv b σ _ e1 e2 p
 ·obtain rfl:i=kvs.length:=by omega
  exact .inl ⟨⟨q,Qg _⟩,hd σ H p⟩
theorem Qsu{L:Tb}{i:Nat}{p:List Key×V}(h:(QcA L)[i]? = some p):∃ks n,L[i]? = some (ks,n)/\p=(ks.map Zg,V.int n):=by
 unfold QcA at h;rw[Qo] at h;cases z:L[i]? with
 |none=>rw[z] at h;cases h
 |some q=>rw[z] at h;cases h;exact⟨q.1,q.2,rfl,rfl⟩
theorem Qvi{K:PySem.W.Frag}{P:Qy}{W:Jc}{u:Nat}{b d:Addr}{h w r:Nat}{f:Nat->Nat->Bool}{L:Tb}{x3 x4 x5 x6 x7:Option V}{D:Ends}{H0 H:Hp}(hu:u+60<cLine)(w6:w<=6)(hr:r<h)(B:Bf H0 b h w f)(s0:Same H0 H)(nd0:H0 d=none)(hd:H d=some (.dT (QcA L)))(t1:TbOk r w L)(hl:0<L.length)
  (hN:∀e x3 x4 x5 x6 H' L',Same H0 H'->H0 e=none->H' e=some (.dT (QcA L'))->TbOk (r+1) w L'->0<L'.length->(∀φ,Tw φ L'=Tw (λks=>φ ks+Nx f r φ ks w) L)->D.nx [some (.ref b),some (.ref e),some (.int r),x3,x4,x5,x6,x7] H') :
  QA4 K P W u D [some (.ref b),some (.ref d),some (.int r),x3,x4,x5,x6,x7] H:=by
 refine⟨_,rfl,d,_,rfl,.inl hd,by rw[Qgp];exact hl,t1.hashU P W,λe ne=>?_⟩;have n0e:H0 e=none:=by
  cases z:H0 e with
  |none=>rfl
  |some o=>rw[s0 _ _ z] at ne;cases ne
 have de:d≠e:=Zl hd ne;refine⟨_,rfl,d,_,rfl,by rw[Jw de];exact hd,λo=>?_⟩;refine Qj0 (λi σ H'=>∃x4 x5 x6 L',σ=[some (.ref b),some (.ref d),some (.int r),some (.ref e),x4,x5,x6,x7]/\Same H0 H'/\H' d=some (.frz o (.dT (QcA L)))/\H' e=some (.dT (QcA L'))/\TbOk (r+1) w L'/\L.length<=L'.length/\∀φ,Tw φ L'=Tw φ L+sumZ (λp=>p.2*Nx f r φ p.1 w) (L.take i)) ⟨_,_,_,L,rfl,λa oo h0=>?_,Jg,?_,t1.mono,Qg _,λφ=>?_⟩ ?_ ?_ ?_
 ·rw[Jw (λz=>by rw[z,nd0] at h0;cases h0),Jw (λz=>by rw[z,n0e] at h0;cases h0)];exact s0 _ _ h0
 ·rw[Jw (QaB de),Jg]
 ·show _=_+0;omega
 ·rintro i σ H' ⟨x4,x5,x6,L',rfl,_,hd',_⟩;exact hd'
 ·rintro i p a σ H' hp ha ⟨x4,x5,x6,L',rfl,s',hd',he',t',ln,sm⟩;obtain⟨ks,n,hL,rfl⟩:=Qsu hp;have ha':H' a=some (.tup (ks.map V.int)):=by
   rw[show ks.map V.int=(ks.map (Zg:Int->Key)).map kV by rw[QH];rfl];exact ha
  refine Qx4 hu w6 hr B s' n0e hd' he' ha' (QJ hL) t1 t' λx5' x6' H2 L'' kb he2 t2 ln2 sm2=>⟨_,_,_,L'',rfl,Kb.base s' n0e kb,kb _ _ (QiC hd' he' (λz=>nomatch z)) hd',he2,t2,QY ln ln2,λφ=>?_⟩
  rw[sm2 φ,sm φ,JY,hL,QcZ];show _=_+(_+(n*Nx f r φ ks w+0));rw[YR,Qy0]
 ·rintro σ H' ⟨x4,x5,x6,L',rfl,s',hd',he',t',ln,sm⟩;refine⟨_,rfl,hN e _ _ _ _ H' L' s' n0e he' t' (by omega) λφ=>?_⟩;rw[sm φ,Qgp,JW,QsE];rfl
def cIw(f:Nat->Nat->Bool)(h w:Nat):List Int:=(Qf (min h w+1)).map λk=>Wc (cellsF h w f) h h 0 k
def byL(L:Tb)(k:Nat):Int:=sumZ (λp=>if p.1.length=k then p.2 else 0) L
def Qiu(m:Nat)(L:Tb):List Int:=(Qf (m+1)).map (byL L)
theorem Qyd(f:Nat->Nat->Bool)(h w k:Nat)(ks:List Int):Ph f h w h k ks=if ks.length=k then 1 else 0:=by
 unfold Ph;rw[QlA];by_cases z:ks.length<=k
 ·rw[if_pos z];show(if k - ks.length=0 then(1:Int) else 0)=_;by_cases y:ks.length=k
  ·rw[if_pos y,if_pos (by omega)]
  ·rw[if_neg y,if_neg (by omega)]
 ·rw[if_neg z,if_neg (by omega)]
theorem Qx5(f:Nat->Nat->Bool)(h w k:Nat)(L:Tb):Tw (Ph f h w h k) L=byL L k:=by
 unfold Tw byL;refine QcG λp _=>?_
 rw[Qyd];split
 ·rw[Int.mul_one]
 ·rw[QlE]
theorem Qit{m k:Nat}{L:Tb}(h:k<=m):(Qiu m L)[k]? = some (byL L k):=by
 unfold Qiu;rw[Qo,Ja (by omega)];rfl
theorem Qc4(m:Nat)(L:Tb):(Qiu m L).length=m+1:=by unfold Qiu;rw[Qa,Qr]
theorem Qo0{m:Nat}{L:Tb}{p:List Int×Int}:(Qiu m L).set p.1.length (byL L p.1.length+p.2)=Qiu m (L++[p]):=by
 refine List.ext_getElem (by rw[Zq,Qc4,Qc4]) λk h1 h2=>?_
 rw[Zq,Qc4] at h1;have a:(Qiu m (L++[p]))[k]? = some (byL (L++[p]) k):=Qit (by omega);have b:(Qiu m L)[k]? = some (byL L k):=Qit (by omega);have ea:byL (L++[p]) k=byL L k+(if p.1.length=k then p.2 else 0):=by
  unfold byL;rw[QcZ];show _+(_+0)=_;rw[YR]
 rw[Qe h2] at a;rw[Qx a,ea,List.getElem_set];rw[Qe (by rw[Qc4];omega)] at b;split
 ·rename_i z
  rw[<- z]
 ·rename_i z
  rw[Qx b,YR]
theorem Qvh{K:PySem.W.Frag}{b d t g:Addr}{m:Nat}{L M:Tb}{ks:List Int}{n:Int}{o:Obj}{x2 x3 x5 x6:Option V}{D:Ends}{H:Hp}(hd:H d=some (.frz o (.dT (QcA L))))(hg:H g=some (.lst ((Qiu m M).map V.int)))(ht:H t=some (.tup (ks.map V.int)))(hk:(ks,n)∈L)(nd:(L.map (·.1)).Nodup)(hm:ks.length<=m)
  (hN:D.nx [some (.ref b),some (.ref d),x2,x3,some (.ref t),x5,x6,some (.ref g)] (upd H g (.lst ((Qiu m (M++[(ks,n)])).map V.int)))) :
  QA3 K D [some (.ref b),some (.ref d),x2,x3,some (.ref t),x5,x6,some (.ref g)] H:=by
 have ek:(ks.map (Zg:Int->Key)).map kV=ks.map V.int:=by rw[QH];rfl
 have gd:DGet H d (.ref t) (some (.int n)):=.inr ⟨QcA L,ks.map Zg,t,.inr ⟨o,hd⟩,rfl,by rw[ek];exact ht,by rw[QfP,QeA nd hk];rfl⟩;have lm:(ks.map V.int).length=ks.length:=Qa _;refine⟨_,rfl,_,rfl,t,_,rfl,.inr (SqT.of ht),g,_,_,_,rfl,rfl,SqL.of hg,by rw[lm];exact JU (j:=ks.length) (by rw[Qo,Qit hm];rfl),_,rfl,_,rfl,d,_,rfl,gd,byL M ks.length,n,rfl,rfl,?_⟩;refine⟨_,rfl,_,rfl,t,_,rfl,.inr (SqT.of ht),g,_,_,ks.length,rfl,rfl,hg,by rw[lm];exact QiL (by rw[Qa,Qc4];omega),?_⟩;rw[<- List.map_set (f:=V.int),Qo0 (p:=(ks,n))];exact hN
theorem Qo1(m:Nat):(QL (m+1) [V.int 0]).flatten=(Qiu m []).map V.int:=by
 unfold Qiu;rw[QH];generalize m+1=n;induction n with
 |zero=>rfl
 |succ n ih=>rw[List.replicate_succ',List.flatten_append,ih,JL,Q3];rfl
theorem Qvj{K:PySem.W.Frag}{P:Qy}{W:Jc}{u:Nat}{b:Addr}{h w:Nat}{f:Nat->Nat->Bool}{D:Ends}{H:Hp}(hu:u+60<cLine)(h6:h<=6)(w6:w<=6)(B:Bf H b h w f)
  (hN:∀t H',Same H H'->H t=none->H' t=some (.lst ((cIw f h w).map V.int))->D.rt (.ref t) H') :
  QBE K P W u D [some (.ref b),none,none,none,none,none,none,none] H:=by
 refine λp np=>⟨by show 0<=1000;decide,λa H2 s2 n2 e2=>⟨a,[],_,rfl,s2 _ _ Jg,e2,?_⟩⟩
 have s1:Same H (upd H2 p (.dT (QcA [([],1)]))):=λx oo hx=>by
  have xp:x≠p:=λz=>by rw[z,np] at hx;cases hx
  rw[Jw xp];exact s2 _ _ (by rw[Jw xp];exact hx)
 obtain⟨cc,ps,e1,_,_⟩:=(B.same s1).at_;have t0:TbOk 0 w [([],1)]:=⟨Jd.mpr ⟨QQ,QaO⟩,λq hq=>by
  rw[Q5.mp hq];exact⟨by decide,Qg _,λc hc=>nomatch hc⟩⟩
 refine⟨_,rfl,b,_,_,_,rfl,rfl,SqT.of e1,JU (j:=0) rfl,h,rfl,by omega,by omega,?_⟩;rw[Qq];refine QeB (λr σ H'=>∃d x2 x3 x4 x5 x6 L,σ=[some (.ref b),some (.ref d),x2,x3,x4,x5,x6,none]/\Same H H'/\H d=none/\H' d=some (.dT (QcA L))/\TbOk r w L/\0<L.length/\∀k,Tw (Ph f h w r k) L=Wc (cellsF h w f) h h 0 k) ⟨p,_,_,_,_,_,[([],1)],rfl,s1,np,Jg,t0,Nat.one_pos,λk=>?_⟩ ?_ ?_
 ·show 1*Ph f h w 0 k []+0=_;rw[QoC,YR];rfl
 ·rintro r σ H' hr ⟨d,x2,x3,x4,x5,x6,L,rfl,s',nd,hd,t',l',sm⟩;rw[show(0:Int)+(r:Int)=(r:Int) by omega];refine Qvi hu w6 hr B s' nd hd t' l' λe x3 x4 x5 x6 H3 L3 s3 n3 e3 t3 l3 sm3=>⟨e,_,_,_,_,_,L3,rfl,s3,n3,e3,t3,l3,λk=>?_⟩
  rw[sm3,<- sm k];exact QAi λq hq=>(Qvp w6 hr (t'.mem q hq).1).symm
 ·rintro σ H' ⟨d,x2,x3,x4,x5,x6,L,rfl,s',nd,hd,t',l',sm⟩;obtain⟨cc,ps,e1,_,_⟩:=(B.same s').at_;refine⟨by show 1<=1000;decide,λa3 H3 s3 n3 e3=>?_⟩;refine⟨_,rfl,b,_,_,_,rfl,rfl,SqT.of (s3 _ _ e1),JU (j:=0) rfl,_,rfl,b,_,_,_,rfl,rfl,SqT.of (s3 _ _ e1),JU (j:=1) rfl,h,w,rfl,_,1,rfl,rfl,?_⟩;have em:((if(w:Int)<(h:Int) then(w:Int) else(h:Int))+1).toNat=min h w+1:=by split<;>omega
  refine⟨a3,_,_,rfl,rfl,e3,by split<;>omega,by split<;>omega,by rw[em];show 1*_<=_;omega,λg H4 s4 n4 e4=>?_⟩;rw[em,Qo1] at e4;have n4':H g=none:=by
   cases z:H g with
   |none=>rfl
   |some oo=>rw[s3 _ _ (s' _ _ z)] at n4;cases n4
  have dg:d≠g:=QiC (s4 _ _ (s3 _ _ hd)) e4 (λz=>nomatch z);refine⟨_,rfl,d,_,rfl,s4 _ _ (s3 _ _ hd),λo=>?_⟩;refine Qj0 (λi σ H'=>∃x4,σ=[some (.ref b),some (.ref d),x2,x3,x4,x5,x6,some (.ref g)]/\Same H H'/\H' d=some (.frz o (.dT (QcA L)))/\H' g=some (.lst ((Qiu (min h w) (L.take i)).map V.int))) ⟨_,rfl,λx oo hx=>?_,Jg,?_⟩ ?_ ?_ ?_
  ·rw[Jw (λz=>by rw[z,nd] at hx;cases hx)];exact s4 _ _ (s3 _ _ (s' _ _ hx))
  ·rw[Jw (QaB dg)];exact e4
  ·rintro i σ H5 ⟨x4,rfl,_,hd5,_⟩;exact hd5
  ·rintro i q a σ H5 hq ha ⟨x4,rfl,s5,hd5,hg5⟩;obtain⟨ks,n,hL,rfl⟩:=Qsu hq;have ha':H5 a=some (.tup (ks.map V.int)):=by
    rw[show ks.map V.int=(ks.map (Zg:Int->Key)).map kV by rw[QH];rfl];exact ha
   obtain⟨hf,hl,hb⟩:=t'.mem _ (QJ hL);have lw:ks.length<=w:=QiN ⟨w,by omega⟩ ks hf hb;have hl:ks.length<=h:=hl;refine Qvh hd5 hg5 ha' (QJ hL) t'.nd (by omega) ⟨_,rfl,λx oo hx=>?_,?_,?_⟩
   ·rw[Jw (λz=>by rw[z,n4'] at hx;cases hx)];exact s5 _ _ hx
   ·rw[Jw dg];exact hd5
   ·rw[Jg,JY,hL];rfl
  ·rintro σ H5 ⟨x4,rfl,s5,hd5,hg5⟩;rw[Qgp,JW] at hg5;refine⟨_,rfl,hN g H5 s5 n4' ?_⟩;have:Qiu (min h w) L=cIw f h w:=by
    unfold Qiu cIw;refine Q9 λk _=>?_
    rw[<- Qx5 f h w k L,sm k]
   rw[<- this];exact hg5
end Rk
namespace Rk
open L2 _root_.Rd
def top(i:Nat):Y2:=PySem.Challenge.pw_rooklands_k86_boards_alike_or_not.main.body.getD i (.Pass ⟨0,0,0,0⟩)
abbrev QkF:Y2:=top 1
abbrev QkH:Y2:=top 2
abbrev sOth:Y2:=top 3
abbrev sCnt:Y2:=top 5
abbrev QkG:Y2:=top 6
abbrev QkE:Y2:=top 7
abbrev sRow:Y2:=top 8
abbrev Qfd:Y2:=top 10
abbrev Qfc:Y2:=top 11
abbrev Qfb:Y2:=top 12
abbrev sPut:Y2:=top 13
abbrev sUnl:Y2:=top 14
abbrev sCAt:Y2:=top 15
abbrev Qdy:Y2:=top 17
abbrev lPot:Y2:=top 18
abbrev QkZ:Y2:=top 19
abbrev QdK:Y2:=top 20
abbrev Qk0:Y2:=top 21
abbrev Qfs:Y2:=top 22
abbrev Qfq:Y2:=top 23
abbrev Qdx:Y2:=top 24
abbrev Qcb:Y2:=top 25
abbrev lLed:Y2:=top 26
abbrev Qk1:Y2:=top 27
abbrev Qfr:Y2:=top 28
abbrev QkX:Y2:=top 29
abbrev QkY:Y2:=top 30
abbrev Qfp:Y2:=top 31
abbrev sLaw:Y2:=top 32
section
variable{P:Qy}{w:Jc}{K:PySem.W.Frag}{mg:Str->Option Value}{base:Heap}
theorem QoX:JV ["_law_script", "_law_k"] ["_law_script", "_law_k"] (QD Qdy):=⟨rfl,rfl,rfl,by decide +kernel,rfl,by decide +kernel,by decide +kernel⟩
theorem QmX{f:Addr}{fd:Q6}(F:Fun K "_law_cell_at" "_law_cell_at" Qdy f fd)(T:GlbA mg):FnOk P w K mg base CX0 1 f fd ["_law_script", "_law_k"] (Qc0 K):=by
 refine F.ok QoX (λvs H Q E h=>?_) (λcdv A outer s H vs Q E hr h=>?_)
 ·obtain⟨a,ns,k,rfl,_⟩:=h;rfl
 ·obtain⟨a,ns,n,rfl,hs,hl,h0,k⟩:=h;refine⟨_,Zs (Qgb (Qb8 Quj (pv 1) (pe_callB Yo (by rfl) T.len Qce (pa_cons (pv 0) pa_nil)) (ZT _)) (Ya (Qaw (pe_ix Qev (pv 0) (pv 1) (λ_ _=>rfl)))) QbD) (Ya (Qaw pe_int)),?_⟩;refine⟨_,rfl,_,rfl,a,_,rfl,.inl hs,_,_,rfl,rfl,_,rfl,?_⟩;refine QAK (λhlt=>?_) (λ_=>k 0);have hlt':n<(ns.map V.int).length:=of_decide_eq_true hlt;rw[Qa] at hlt';obtain⟨j,rfl⟩:=Qks h0;have hj:j<ns.length:=by omega
  refine⟨_,rfl,_,rfl,a,_,_,.int ns[j],rfl,rfl,hs,JU ?_,k _⟩;rw[Qo,Qe hj];rfl
theorem QkD:JV ["_law_cell", "_law_number", "_law_j", "_law_more"] ["_law_cell"] (QD lPot):=⟨rfl,rfl,rfl,by decide +kernel,rfl,by decide +kernel,by decide +kernel⟩
theorem Qxb{f:Addr}{fd:Q6}(F:Fun K "_law_pot" "_law_pot" lPot f fd)(T:GlbA mg):FnOk P w K mg base CX0 1 f fd ["_law_cell"] Qv8:=by
 refine F.ok QkD (λvs H Q E h=>?_) (λcdv A outer s H vs Q E hr h=>?_)
 ·obtain⟨c,rfl,_⟩:=h;rfl
 ·obtain⟨c,rfl,k⟩:=h;refine⟨_,Zs (Qgb (Qb8 QzG (pv 0) (pe_op Qsf pe_int pe_int) (ZT _)) (Ya (Qaw (Qsc (pa_cons (pe_op QmM (pv 0) (pe_op Qsf pe_int pe_int)) pa_nil)))) QbD)
   (Zs (Qa7 (i:=1) QkD.nd rfl (QZ rfl) pe_int)
   (Zs (Qfg Je rfl (Qb9 (by rfl) T.range (pa_cons pe_int pa_nil)) (Qbj (i:=2) QkD.nd rfl (QZ rfl))
    (Zs (Qa7 (i:=3) QkD.nd rfl (QZ rfl) (pe_op QjD (pe_op Qfl (pe_op op_add (pe_op op_add (pe_op QjD (pv 0) pe_int) (pe_op Qfl pe_int (pv 2))) pe_int) pe_int) pe_int))
    (Zs (Qa7 (i:=3) QkD.nd rfl (QZ rfl) (pe_op QjD (pe_op op_add (pe_op op_add (pe_op Qfl (pv 3) (pv 3)) (pe_op Qfl pe_int (pv 2))) pe_int) pe_int))
    (Ya (Qa7 (i:=1) QkD.nd rfl (QZ rfl) (pe_op op_add (pe_op Qfl (pv 1) pe_int) (pv 3)))))))
   (Ya (Qaw (Qsc (pa_cons (pv 1) pa_nil)))))),?_⟩
  refine⟨_,rfl,_,_,rfl,rfl,⟨by decide,by decide,by decide⟩,_,_,rfl,rfl,_,rfl,?_⟩;refine QAK (λ_=>?_) (λ_=>?_)
  ·exact⟨_,rfl,_,_,rfl,rfl,⟨by decide,by decide,by decide⟩,_,_,rfl,rfl,by show 1<=sizeLine;decide,λp hp=>k p _ hp⟩
  ·refine⟨64,rfl,by decide,by decide,QeB (n:=64) (λi σ H2=>∃n v u,σ=[some (.int c),some (.int n),v,u]/\H2=H) ⟨0,none,none,rfl,rfl⟩ ?_ ?_⟩
   ·rintro i σ H2 hi ⟨n,v,u,rfl,rfl⟩;have b1:=Qj1 ((c % 2147483629+7919*(0+(i:Int))+1)*48271) (m:=2147483647) (by decide);refine⟨_,rfl,_,_,rfl,rfl,by show(0:Int)<2147483629;decide,_,rfl,_,_,rfl,rfl,.inl ⟨by decide,by decide⟩,_,_,rfl,rfl,_,_,rfl,rfl,_,_,rfl,rfl,.inr ⟨by decide,by decide⟩,_,_,rfl,rfl,by show(0:Int)<2147483647;decide,?_⟩;refine⟨_,rfl,_,rfl,_,_,rfl,rfl,.inl ⟨by omega,by omega⟩,_,rfl,_,_,rfl,rfl,.inl ⟨by decide,by decide⟩,_,_,rfl,rfl,_,_,rfl,rfl,_,_,rfl,rfl,by show(0:Int)<2147483587;decide,?_⟩;exact⟨_,rfl,_,_,rfl,rfl,.inr ⟨by decide,by decide⟩,_,rfl,_,_,rfl,rfl,_,_,_,rfl,rfl⟩
   ·rintro σ H2 ⟨n,v,u,rfl,rfl⟩;exact⟨_,rfl,by show 1<=sizeLine;decide,λp hp=>k p _ hp⟩
theorem QrU:JV ["_law_pot_here", "_law_far", "_law_found"] ["_law_pot_here", "_law_far"] (QD QkZ):=⟨rfl,rfl,rfl,by decide +kernel,rfl,by decide +kernel,by decide +kernel⟩
theorem QmR{f:Addr}{fd:Q6}(F:Fun K "_law_take" "_law_take" QkZ f fd)(T:GlbA mg):FnOk P w K mg base CX0 1 f fd ["_law_pot_here", "_law_far"] QfW:=by
 refine F.ok QrU (λvs H Q E h=>?_) (λcdv A outer s H vs Q E hr h=>?_)
 ·obtain⟨p,n,m,rfl,_⟩:=h;rfl
 ·obtain⟨p,n,m,rfl,hp,h0,h1,k⟩:=h;refine⟨_,Zs (Qa7 (i:=2) QrU.nd rfl (QZ rfl) (pe_op QjD (pe_ix Qev (pv 0) pe_int (λ_ _=>rfl)) (pv 1)))
   (Zs (Qmp (pe_op QpC (pe_ix Qev (pv 0) pe_int (λ_ _=>rfl)) (pv 1)) (Qsa (pv 0) pe_int QfY))
   (Ya (Qaw (pv 2)))),?_⟩
  have b:=Qj1 n h0;exact⟨_,rfl,p,_,_,_,rfl,rfl,SqL.of hp,rfl,_,rfl,_,_,rfl,rfl,h0,_,rfl,p,_,_,_,rfl,rfl,SqL.of hp,rfl,_,rfl,_,_,rfl,rfl,⟨h0,h1⟩,_,rfl,p,_,_,_,rfl,rfl,hp,rfl,_,rfl,k _ _ b.1 b.2⟩
end
end Rk
namespace Rk
open L2 _root_.Rd
open Dl
open Rt
theorem Qjj(o:List Nat):(Yx o).map (λe=>(toI e).toNat)=o:=by
 unfold Yx;rw[QH]
 conv=>rhs;rw[<- QgI o]
 exact Q9 λx _=>by show((x:Int)).toNat=x;omega
def Qil:DF:=λargs R _=>∃(h w:Nat)(f:Nat->Nat->Bool),args=[.v (bdD h w (cellsF h w f))]/\h<=6/\w<=6/\R (bdD w h (cellsF w h (tF f)))
def Qlq(o:List Nat)(h w:Nat)(l:List (Int×Int)):List PyData:=(Qf w).map λc=>Qp (mkS o h l c)
def Qlp(f:Nat->Nat->Bool)(o:List Nat)(w:Nat):List Int:=(Qf w).map λc=>QhW (QdM f o c)
def QAd:DF:=λargs R _=>∃(h w:Nat)(f:Nat->Nat->Bool)(o:List Nat),args=[.v (bdD h w (cellsF h w f)),.v (tNn o)]/\h<=6/\w<=6/\o.Perm (Qf h)/\R (.list ((Qlp f o w).map Qp))
def Qu8:DF:=λargs R _=>∃ms ws:List Int,args=[.v (.list (ms.map Qp)),.v (.list (ws.map Qp))]/\ms.length<=6/\ws.length<=6/\R (optN (putN (λj c=>decide (ms.getD c 0=ws.getD j 0)) ms.length ws.length))
def Qk5:DF:=λargs R _=>∃(h w:Nat)(f:Nat->Nat->Bool)(h2 w2:Nat)(f2:Nat->Nat->Bool),args=[.v (bdD h w (cellsF h w f)),.v (bdD h2 w2 (cellsF h2 w2 f2))]/\h<=6/\w<=6/\h2<=6/\w2<=6/\R (fwV (fwD h w f h2 w2 f2))
def QAe:DF:=λargs R _=>∃(a:List Int)(k:Nat),args=[.v (.list (a.map Qp)),.v (.int k)]/\R (.int (a.getD k 0))
def Qy9:DF:=λargs R _=>∃a b:List Int,args=[.v (.list (a.map Qp)),.v (.list (b.map Qp))]/\a.length<=7/\b.length<=7/\R (Qyt a b (Qkt a b 7))
def alD:DF:=λargs R _=>∃(h w:Nat)(f:Nat->Nat->Bool)(h2 w2:Nat)(f2:Nat->Nat->Bool),args=[.v (bdD h w (cellsF h w f)),.v (bdD h2 w2 (cellsF h2 w2 f2))]/\h<=6/\w<=6/\h2<=6/\w2<=6/\R (alV h w f h2 w2 f2)
section
variable{P:Qy}{w:Jc}{K:PySem.W.Frag}{mg:Str->Option Value}{base:Heap}
theorem Ql9:JV ["_law_found"] ["_law_found"] (QD QdK):=⟨rfl,rfl,rfl,by decide +kernel,rfl,by decide +kernel,by decide +kernel⟩
theorem QmU{f   : Addr}{fd  : Q6}(F:Fun K "_law_whole" "_law_whole" QdK f fd)(T:GlbA mg) :
  FnOk P w K mg base CX0 1 f fd ["_law_found"] (ZP false QrG):=by
 refine okQ false F Ql9 (λargs R EX h=>?_) (λcdv A outer s H E hr=>?_)
 ·obtain⟨d,rfl,_⟩:=h;rfl
 ·have hU:=Room.u60 hr;have hI:=Room.i60 hr;refine⟨_,Jl (Qa6 (QwB (q_toPF (Qr5 .int (by rfl) T.isinstance (qp 0) (by rfl) T.int Qn3)) (Qwx (Qzq (q_toPF (Qr5 .bool (by rfl) T.isinstance (qp 0) (by rfl) T.bool QgA)))))),λargs R EX h=>?_⟩;obtain⟨d,rfl,hR⟩:=h;cases d<;>exact hR
theorem Qth:JV ["board"] ["board"] (QD QkG):=⟨rfl,rfl,rfl,by decide +kernel,rfl,by decide +kernel,by decide +kernel⟩
theorem Qup{f   : Addr}{fd  : Q6}(F:Fun K "most_size" "most_size" QkG f fd)(T:GlbA mg) :
  FnOk P w K mg base CX0 1 f fd ["board"] (ZP false Quz):=by
 refine okQ false F Qth (λargs R EX h=>?_) (λcdv A outer s H E hr=>?_)
 ·obtain⟨h,w,cs,rfl,_⟩:=h;rfl
 ·have hU:=Room.u60 hr;have hI:=Room.i60 hr;refine⟨_,Jl (Ym (Qbi (call_min2 rfl) Qrg (by rfl) T.min bt_min (qa_P (JQ (QcK ZU Y4 (qp 0) (JQ JE) (λ_ _=>rfl))) (qa_P (JQ (QcK ZU Y4 (qp 0) (JQ JE) (λ_ _=>rfl))) Q8)))),λargs R EX h=>?_⟩;obtain⟨h,w,cs,rfl,hR⟩:=h;exact⟨_,JU (j:=0) rfl,_,JU (j:=1) rfl,QuC (by split<;>omega) hR⟩
theorem Qdr:JV ["below", "columns", "taken", "ways", "column", "bit", "size", "many"] ["below", "columns", "taken"] (QD sRow):=⟨rfl,rfl,rfl,by decide +kernel,rfl,by decide +kernel,by decide +kernel⟩
theorem Qum{f   : Addr}{fd  : Q6}(F:Fun K "ways_with_row" "ways_with_row" sRow f fd)(T:GlbA mg) :
  FnOk P w K mg base CX0 1 f fd ["below", "columns", "taken"] (ZP true QsW):=by
 refine okQ true F Qdr (λargs R EX h=>?_) (λcdv A outer s H E hr=>?_)
 ·obtain⟨h,w,B,cols,t,rfl,_⟩:=h;rfl
 ·have hU:=Room.u60 hr;have hI:=Room.i60 hr;refine⟨_,QP (Qbh 3 (q_callTy Qgy Qvd (by rfl) T.list QeI (qa_P (JQ (QcK ZU Y4 (qp 0) (qp 2) (λ_ _=>rfl))) Q8)) Qdr.nd)
   (QP (QaK Je rfl (QbC (qv 1)) (ZR 4 Qdr.nd rfl (by first | exact QZ rfl | exact QV rfl))
    (QP (YF 5 (q_toD (Qav QjC QpI (JQ JE) (qp 4))) Qdr.nd)
   (Jl (Qb4 (Qjt (Qr3 (q_toPF (Qav Qw9 QjH (qp 2) (qp 5))))) (Jl (QaK Je rfl (Qjw (by rfl) T.enumerate (q_toD (Qb7 (JQ (QcK ZU Y4 (qp 0) (q_toPF (Qav QzF QjH (qp 2) (qp 5))) (λ_ _=>rfl))) Qb6 (Qb5 (q_toPF (Qzr (JQ JE))))))) (QbO rfl (Zp 6 (Zp 7 QbP Qdr.nd rfl (by first | exact QZ rfl | exact QV rfl)) Qdr.nd rfl (by first | exact QZ rfl | exact QV rfl)))
    (Jl (Qmm 3 Qsl Qm0 (q_toPF (Qav Qag Qa8 (qp 6) (JQ JE))) (qp 7))))) YE))))
   (Jl (Qf8 3))),λargs R EX h=>?_⟩
  obtain⟨h,w,B,cols,t,rfl,ht,hc,h6,w6,hR⟩:=h;refine⟨_,JU (Qin ht),?_⟩;refine YV (λj δ=>∃ds x4 x5 x6 x7,δ=[.v (.list (Qky h w B)),.v (.list (Yx cols)),.v (.int t),.own ds,x4,x5,x6,x7]/\ds=Qd5 h (Qem B (cols.take j) t)) ⟨_,_,_,_,_,rfl,Qbt λk _=>?_⟩ ?_ ?_
  ·show B t k=B t k+if k=0 then 0 else 0
   split<;>omega
  ·rintro j d δ hd ⟨ds,x4,x5,x6,x7,rfl,rfl⟩;unfold Yx at hd;rw[Qo] at hd;obtain⟨c,ec,rfl⟩:∃c:Nat,cols[j]? = some c/\d=.int (c:Int):=by
    cases e:cols[j]? with
    |none=>rw[e] at hd;cases hd
    |some p=>rw[e] at hd;cases hd;exact⟨p,rfl,rfl⟩
   have hcw:=hc c (QJ ec);have et:cols.take (j+1)=cols.take j++[c]:=by rw[JY,ec];rfl
   refine⟨⟨by omega,by omega,by decide⟩,trivial,?_⟩;show if(!tru (.int (QcU (t:Int) (1*2^((c:Nat):Int).toNat))))=true then _ else _
   rw[Qvn ht hcw w6];cases hb:t.testBit c with
   |true=>
    have np:(2:Int)^c≠0:=by
     have:(0:Int)<2^c:=Int.pow_pos (by decide);omega
    rw[if_pos rfl];refine ifF ?_ ⟨_,_,_,_,_,rfl,Qbt λk _=>?_⟩
    ·show(!((2:Int)^c != 0))=false;simp[np]
    ·unfold Qem;rw[et,Qel,if_pos hb,YR]
   |false=>
    refine ifT rfl ?_
    have olt:=QzE ht hcw;refine⟨.list (Qd5 h (B (t ||| 2^c))),?_,?_⟩
    ·show atI (Qky h w B) (Qdl (t:Int) (1*2^((c:Nat):Int).toNat))=_;rw[Qw2 ht hcw w6];exact JU (Qin olt)
    ·show Qvr (QdU (Dl.cutD (Qd5 h (B (t ||| 2^c))) none (some (-1)))) _ _ _ _;rw[Qo4];refine YV (λi δ=>∃ds x6 x7,δ=[.v (.list (Qky h w B)),.v (.list (Yx cols)),.v (.int t),.own ds,.v (.int c),.v (.int (1*2^((c:Nat):Int).toNat)),x6,x7]/\ds=Qd5 h (λk=>Qem B (cols.take j) t k+if 1<=k/\k<=i then B (t ||| 2^c) (k - 1) else 0)) ⟨_,_,_,rfl,Qbt λk _=>?_⟩ ?_ ?_
     ·rw[if_neg (by omega),YR]
     ·rintro i d δ hd ⟨ds,x6,x7,rfl,rfl⟩;obtain⟨e,he,rfl⟩:=Qco hd;rw[Qo] at he;have hi:i<h:=by
       by_cases z:i<h
       ·exact z
       ·rw[QN (by rw[Qr];omega)] at he;cases he
      rw[Ja hi] at he;cases he;refine⟨rfl,i+1,_,?_,Qds (by omega),_,_,_,rfl,?_⟩
      ·rw[Qck];exact QiL (k:=i+1) (by omega)
      ·rw[Qo2 (by omega)];refine Qbt λk hk=>?_
       show(if k=i+1 then(Qem B (cols.take j) t (i+1)+if 1<=i+1/\i+1<=i then B (t ||| 2^c) (i+1 - 1) else 0)+B (t ||| 2^c) i else Qem B (cols.take j) t k+if 1<=k/\k<=i then B (t ||| 2^c) (k - 1) else 0)=Qem B (cols.take j) t k+if 1<=k/\k<=i+1 then B (t ||| 2^c) (k - 1) else 0
       by_cases z:k=i+1
       ·subst z;rw[if_pos rfl,if_neg (by omega),if_pos (by omega),Qeh,YR]
       ·rw[if_neg z];by_cases z2:1<=k/\k<=i
        ·rw[if_pos z2,if_pos (by omega)]
        ·rw[if_neg z2,if_neg (by omega)]
     ·rintro δ ⟨ds,x6,x7,rfl,rfl⟩;rw[Qcn,Qa,Qr];refine⟨_,_,_,_,_,rfl,Qbt λk hk=>?_⟩;unfold Qem;rw[et];by_cases z:k=0
      ·subst z;rw[if_pos rfl,if_neg (by omega),if_pos rfl];omega
      ·rw[if_neg z,if_neg z,if_pos (by omega),Qel,if_neg (by rw[hb];decide)];omega
  ·rintro δ ⟨ds,x4,x5,x6,x7,rfl,rfl⟩;unfold Yx;rw[Qa,JW];exact hR
theorem QpM:(["taken", "high"]:List Str).Nodup:=by decide +kernel
theorem QjK:(["at", "column", "row"]:List Str).Nodup:=by decide +kernel
theorem QpL:(["taken", "columns", "table"]:List Str).Nodup:=by decide +kernel
theorem QcH:JV ["board", "high", "wide", "cells", "table", "row", "columns"] ["board"] (QD QkE):=⟨rfl,rfl,rfl,by decide +kernel,rfl,by decide +kernel,by decide +kernel⟩
theorem Qun{f f1  : Addr}{fd fd1:Q6}(F:Fun K "ways_to_go_on" "ways_to_go_on" QkE f fd)(T:GlbA mg)
  (m1:mg "ways_with_row" = some (.ref f1))(G1:FnOk P w K mg base CX0 1 f1 fd1 ["below", "columns", "taken"] (ZP true QsW))(b1:Binds K fd1 ["below", "columns", "taken"] [])(k1:PySem.W.keepIn K (.ref f1)=true) :
  FnOk P w K mg base CX0 2 f fd ["board"] (ZP true QsX):=by
 refine okQ true F QcH (λargs R EX h=>?_) (λcdv A outer s H E hr=>?_)
 ·obtain⟨h,w,cs,rfl,_⟩:=h;rfl
 ·have hU:=Room.u60 hr;have hI:=Room.i60 hr;refine⟨_,QP (Qju (qv 0) (QbO rfl (Zp 1 (Zp 2 (Zp 3 QbP QcH.nd rfl (by first | exact QZ rfl | exact QV rfl)) QcH.nd rfl (by first | exact QZ rfl | exact QV rfl)) QcH.nd rfl (by first | exact QZ rfl | exact QV rfl))))
   (QP (Qbh 4 (Qcy (ZF (q_toD (q_comp ["taken", "high"] [none,some 1] (QaE (by rfl) T.range (q_toPF (Qav QjC QpI (JQ JE) (qp 2)))) (λcl ex s3 H3 C=>⟨(ZR 0 QpM rfl (QZ rfl) (QV rfl)),qts_nil,(q_toD (Qav Qag Qa8 (q_toPF (Qcy (ZF JE Q8))) (q_toPF (Qav Qgh QjG (q_toPF (Qcy (ZF JE Q8))) (qp 1)))))⟩))) Q8)) QcH.nd)
   (QP (QaK Je rfl (Qtu (by rfl) T.reversed (by rfl) T.range (qp 1)) (ZR 5 QcH.nd rfl (by first | exact QZ rfl | exact QV rfl))
    (QP (YF 6 (q_toD (q_comp ["at", "column", "row"] [none,none,some 5] (qi_tup (qp 3)) (λcl ex s3 H3 C=>⟨(QbO rfl (Zp 0 (Zp 1 QbP QjK rfl (QZ rfl) (QV rfl)) QjK rfl (QZ rfl) (QV rfl))),(QcJ (Yz QdI (Qhj hU) (qp 0) (qp 2) (ZT _))),(qv 1)⟩))) QcH.nd)
   (Jl (Qwu 4 JE (q_toD (q_comp ["taken", "columns", "table"] [none,some 6,some 4] (QaE (by rfl) T.range (q_toPF (Qav QjC QpI (JQ JE) (qp 2)))) (λcl ex s3 H3 C=>⟨(ZR 0 QpL rfl (QZ rfl) (QV rfl)),qts_nil,(q_toD (ZS G1 (hr.mono (by decide)) (by rfl) m1 k1 b1 Zw (Yt (QcK ZU Y4 (qp 2) (JQ JE) (λ_ _=>rfl)) (Yt (qv 1) (Yt (qv 0) JT)))))⟩)))))))
   (Jl (Qf8 4)))),λargs R EX h=>?_⟩
  obtain⟨h,w,cs,rfl,h6,w6,hb,hR⟩:=h;refine⟨rfl,⟨by omega,by omega,by decide⟩,?_,QfA (λ_=>.list (Qp 1::QL h (.int 0))) (λd hd k2 hk=>?_) ?_⟩
  ·exact Qr8 w6
  ·refine⟨⟨by omega,by omega,by rw[Qq];show 1*h<=_;omega⟩,?_⟩;rw[Qq,Qtm];refine⟨by rw[QaS];show 1+h<=_;omega,hk⟩
  ·have e0:(Qff 0 (1*2^((w:Nat):Int).toNat:Int).toNat).map (λ_=>YI (Qp 1::QL h (.int 0)))=Qky h w (Wc cs h 0):=by
    rw[Qgd,Qq];unfold Qff Qky;rw[QH];refine Q9 λt _=>?_
    show YI _=YI _;rw[Qo3]
   rw[e0];refine⟨⟨by omega,by omega⟩,YV (λi δ=>∃ds x5 x6,δ=[.v (bdD h w cs),.v (.int h),.v (.int w),.v (.tuple (cs.map pairD)),.own ds,x5,x6]/\ds=QrI cs h w i) ⟨_,_,_,rfl,rfl⟩ ?_ ?_⟩
   ·rintro i d δ hd ⟨ds,x5,x6,rfl,rfl⟩;obtain⟨hi,rfl⟩:=Qjr hd;rw[Qq] at hi;have er:((((h:Nat):Int).toNat:Nat):Int) - 1 - (i:Int)=((h - 1 - i:Nat):Int):=by omega
    rw[er];refine Qk8 (λd=>if(toP d).1=((h - 1 - i:Nat):Int) then some (.int (toP d).2) else none) (λd hd k1 k2 h1 h2=>?_) ?_
    ·obtain⟨p,_,rfl⟩:=Qs.mp hd;have h1:(if p.1=((h - 1 - i:Nat):Int) then some (Qp p.2) else none)=none->k1:=h1;have h2:∀e,(if p.1=((h - 1 - i:Nat):Int) then some (Qp p.2) else none)=some e->k2 e:=h2
     refine⟨rfl,?_⟩;show if decide (p.1=((h - 1 - i:Nat):Int))=true then k2 (.int p.2) else k1
     by_cases z:p.1=((h - 1 - i:Nat):Int)
     ·rw[if_pos (decide_eq_true z)];exact h2 _ (if_pos z)
     ·rw[if_neg (by simpa using z)];exact h1 (if_neg z)
    ·rw[QxZ cs (h - 1 - i) λp hp=>(hb p hp).1];refine⟨⟨by omega,by omega,by decide⟩,?_,QfA (λd=>match d with | .int t=>.list (Qd5 h (Wc cs h (i+1) t.toNat)) | _=>.none) (λd hd k2 hk=>?_) ?_⟩
     ·exact Qr8 w6
     ·obtain⟨t,ht⟩:=JR.mp hd;obtain⟨htl,rfl⟩:=QcI ht;rw[Qgd,Qq] at htl;have hk:k2 (.list (Qd5 h (Wc cs h (i+1) (0+(t:Int)).toNat))):=hk;rw[show(0+(t:Int)).toNat=t by omega] at hk;refine⟨_,JU (j:=0) (QlV cs h w i),h,w,Wc cs h i,Qrf cs (h - 1 - i),t,by rw[show(0:Int)+(t:Int)=(t:Int) by omega],htl,λc hc=>Qu9 hb hc,h6,w6,hk⟩
     ·refine⟨by rw[Qjk];omega,_,_,_,rfl,?_⟩;show YI _::QrI cs h w i=YI (Qky h w (Wc cs h (i+1)))::QrI cs h w i
      congr 2
      rw[Qgd,Qq];unfold Qff Qky;rw[QH];refine Q9 λt _=>?_
      show YI (Qd5 h (Wc cs h (i+1) (0+(t:Int)).toNat))=_;rw[show(0+(t:Int)).toNat=t by omega]
   ·rintro δ ⟨ds,x5,x6,rfl,rfl⟩;rw[Qf7,Qq];exact hR
theorem Qwc:JV ["board"] ["board"] (QD sCnt):=⟨rfl,rfl,rfl,by decide +kernel,rfl,by decide +kernel,by decide +kernel⟩
theorem Qxf{f f1 f2  : Addr}{fd fd1 fd2:Q6}(F:Fun K "counts" "counts" sCnt f fd)(T:GlbA mg)
  (m1:mg "ways_to_go_on" = some (.ref f1))(G1:FnOk P w K mg base CX0 2 f1 fd1 ["board"] (ZP true QsX))(b1:Binds K fd1 ["board"] [])(k1:PySem.W.keepIn K (.ref f1)=true)
  (m2:mg "most_size" = some (.ref f2))(G2:FnOk P w K mg base CX0 1 f2 fd2 ["board"] (ZP false Quz))(b2:Binds K fd2 ["board"] [])(k2:PySem.W.keepIn K (.ref f2)=true) :
  FnOk P w K mg base CX0 3 f fd ["board"] (ZP true QiV):=by
 refine okQ true F Qwc (λargs R EX h=>?_) (λcdv A outer s H E hr=>?_)
 ·obtain⟨h,w,cs,rfl,_⟩:=h;rfl
 ·have hU:=Room.u60 hr;have hI:=Room.i60 hr;refine⟨_,Jl (Ym (Qb7 (JQ (QcK ZU Y4 (JQ (QcK ZU Y4 (q_toPF (ZS G1 (hr.mono (by decide)) (by rfl) m1 k1 b1 Zw (Yt (qv 0) JT))) (JQ JE) (λ_ _=>rfl))) (JQ JE) (λ_ _=>rfl))) Qb6 (Qb5 (q_toPF (Qav Qag Qa8 (JQ (Yc G2 (hr.mono (by decide)) (by rfl) m2 k2 b2 Zw (Yt (qv 0) JT))) (JQ JE)))))),λargs R EX h=>?_⟩;obtain⟨h,w,cs,rfl,h6,w6,hb,hR⟩:=h;refine⟨_,_,_,rfl,h6,w6,hb,_,JU (j:=0) (QlV cs h w h),_,JU (j:=0) (Qin (Nat.two_pow_pos w)),_,_,_,rfl,?_⟩;have e:Dl.cutD (Qd5 h (Wc cs h h 0)) none (some (((min h w:Nat):Int)+1))=Qvb cs h w:=by
   rw[Qj6 _ _ (by omega)];unfold Qd5 Qvb;rw[<- Qa5,Qvw,show min (((min h w:Nat):Int)+1).toNat (h+1)=min h w+1 by omega]
  have hR:R (.list (Qvb cs h w)):=hR;rw[<- e] at hR;exact hR
theorem Quy:(["number", "numbers"]:List Str).Nodup:=by decide +kernel
theorem Qwb:JV ["many", "numbers"] ["many", "numbers"] (QD sOth):=⟨rfl,rfl,rfl,by decide +kernel,rfl,by decide +kernel,by decide +kernel⟩
theorem Qxc{f   : Addr}{fd  : Q6}(F:Fun K "others" "others" sOth f fd)(T:GlbA mg) :
  FnOk P w K mg base CX0 1 f fd ["many", "numbers"] (ZP false QzD):=by
 refine okQ false F Qwb (λargs R EX h=>?_) (λcdv A outer s H E hr=>?_)
 ·obtain⟨n,o,rfl,_⟩:=h;rfl
 ·have hU:=Room.u60 hr;have hI:=Room.i60 hr;refine⟨_,Jl (Ym (q_comp ["number", "numbers"] [none,some 1] (QaE (by rfl) T.range (qp 0)) (λcl ex s3 H3 C=>⟨(ZR 0 Quy rfl (QZ rfl) (QV rfl)),(QcJ (Yz Qeq (Qm1 hI) (qp 0) (qp 1) (by rfl))),(qv 0)⟩))),λargs R EX h=>?_⟩;obtain⟨n,o,rfl,n6,hR⟩:=h;refine⟨⟨by omega,by omega⟩,Qk8 (λd=>match d with | .int x=>if(!decide (x.toNat∈o))=true then some d else none | _=>none) (λd hd k1 k2 h1 h2=>?_) ?_⟩
  ·obtain⟨x,hx⟩:=JR.mp hd;obtain⟨hx,rfl⟩:=QcI hx;have h1:(if(!decide ((0+(x:Int)).toNat∈o))=true then some (Qp (0+(x:Int))) else none)=none->k1:=h1;have h2:∀e,(if(!decide ((0+(x:Int)).toNat∈o))=true then some (Qp (0+(x:Int))) else none)=some e->k2 e:=h2
   rw[show(0+(x:Int)).toNat=x by omega] at h1 h2;have ei:Yx o=(o.map λ(y:Nat)=>(y:Int)).map Qp:=by unfold Yx;rw[QH];rfl
   refine⟨⟨by rw[ei];exact Qd8 _,rfl,by show J8 (.int _)<=50;unfold J8;decide⟩,?_⟩;show if(!(Yx o).any λe=>Jf e (.int (0+(x:Int))))=true then _ else k1
   rw[ei,Qoc];have em:decide (0+(x:Int)∈o.map λ(y:Nat)=>(y:Int))=decide (x∈o):=decide_eq_decide.mpr (by
    rw[Qs];constructor
    ·rintro⟨y,hy,e⟩;have e:(y:Int)=0+(x:Int):=e;rw[show x=y by omega];exact hy
    ·intro hx;exact⟨x,hx,by show(x:Int)=0+x;omega⟩)
   rw[em];by_cases z:(!decide (x∈o))=true
   ·rw[if_pos z];exact h2 _ (if_pos z)
   ·rw[if_neg z];exact h1 (if_neg z)
  ·have er:(Qff 0 ((n:Nat):Int).toNat).filterMap (λd=>match d with | .int x=>if(!decide (x.toNat∈o))=true then some d else none | _=>none)=Yx (oth n o):=by
    unfold Qff Yx oth;rw[Qq,Yk];refine Qk6 (p:=λx => !decide (x∈o)) λx _=>?_
    show(if(!decide ((0+(x:Int)).toNat∈o))=true then some (Qp (0+(x:Int))) else none)=if(!decide (x∈o))=true then some (Qp (x:Int)) else none
    rw[show(0+(x:Int)).toNat=x by omega,show(0:Int)+(x:Int)=(x:Int) by omega]
   rw[er];exact hR
theorem QjO:(["order", "number", "many"]:List Str).Nodup:=by decide +kernel
theorem Qf2:JV ["many", "orders", "step"] ["many"] (QD QkH):=⟨rfl,rfl,rfl,by decide +kernel,rfl,by decide +kernel,by decide +kernel⟩
theorem Quu{f f1  : Addr}{fd fd1:Q6}(F:Fun K "all_orders" "all_orders" QkH f fd)(T:GlbA mg)
  (m1:mg "others" = some (.ref f1))(G1:FnOk P w K mg base CX0 1 f1 fd1 ["many", "numbers"] (ZP false QzD))(b1:Binds K fd1 ["many", "numbers"] [])(k1:PySem.W.keepIn K (.ref f1)=true) :
  FnOk P w K mg base CX0 2 f fd ["many"] (ZP true QkL):=by
 refine okQ true F Qf2 (λargs R EX h=>?_) (λcdv A outer s H E hr=>?_)
 ·obtain⟨n,rfl,_⟩:=h;rfl
 ·have hU:=Room.u60 hr;have hI:=Room.i60 hr;refine⟨_,QP (Qbh 1 (Qcy (ZF (q_toD (Z7 Q8)) Q8)) Qf2.nd)
   (QP (QaK Je rfl (QaE (by rfl) T.range (qp 0)) (ZR 2 Qf2.nd rfl (by first | exact QZ rfl | exact QV rfl))
    (Jl (Qmk ["order", "number", "many"] [none,none,some 0] 1 Qf2.nd (Qp5 0) (QbC (qp 1)) (λcl ex s3 H3 C=>⟨(ZR 0 QjO rfl (QZ rfl) (QV rfl)),qts_nil,(QbC (Yc G1 (hr.mono (by decide)) (by rfl) m1 k1 b1 Zw (Yt (qv 2) (Yt (qv 0) JT)))),(ZR 1 QjO rfl (QZ rfl) (QV rfl)),qts_nil,(q_toD (Qav Qag Qa8 (qp 0) (q_toPF (Z7 (ZF (qv 1) Q8)))))⟩))))
   (Jl (Qf8 1))),λargs R EX h=>?_⟩
  obtain⟨n,rfl,n6,hR⟩:=h;have eG:∀i,((ordsN n i).map tNn).flatMap (λd=>match d with | .tuple ds=>(oth n (ds.map λe=>(toI e).toNat)).map λx=>Jz (ds++[.int (x:Nat)]) | _=>[])=(ordsN n (i+1)).map tNn:=λi=>by
   show _=((ordsN n i).flatMap λo=>(oth n o).map λx=>o++[x]).map tNn;rw[List.flatMap_map,List.map_flatMap];refine Qfv λo _=>?_
   show(oth n ((Yx o).map λe=>(toI e).toNat)).map (λx=>Jz (Yx o++[.int (x:Nat)]))=((oth n o).map λx=>o++[x]).map tNn;rw[Qjj,QH];refine Q9 λx _=>?_
   show _=Jz (Yx (o++[x]));unfold Yx;rw[Q3];rfl
  refine⟨⟨by omega,by omega⟩,QdB (λi δ=>∃ds x2,δ=[.v (.int n),.own ds,x2]/\ds=(ordsN n i).map tNn) ⟨_,_,rfl,rfl⟩ ?_ ?_⟩
  ·rintro i δ hi ⟨ds,x2,rfl,rfl⟩;rw[Qq] at hi;refine Qvc (λd=>match d with | .tuple ds=>(oth n (ds.map λe=>(toI e).toNat)).map λx=>Jz (ds++[.int (x:Nat)]) | _=>[]) 50000 (by rw[eG,Qa];exact QjB n6 (i+1) (by omega)) (λd hd acc N hb hN=>?_) ?_
   ·obtain⟨o,ho,rfl⟩:=Qs.mp hd;have lo:=QbE ho;have hb:acc.length+((oth n ((Yx o).map λe=>(toI e).toNat)).map λx=>Jz (Yx o++[.int (x:Nat)])).length<=50000:=hb;have hN:N (acc++(oth n ((Yx o).map λe=>(toI e).toNat)).map λx=>Jz (Yx o++[.int (x:Nat)])):=hN;rw[Qjj] at hb hN;rw[Qa] at hb;have l1:(Yx o).length=o.length:=by unfold Yx;exact Qa _
    have l2:(Yx (oth n o)).length=(oth n o).length:=by unfold Yx;exact Qa _
    refine⟨_,_,rfl,n6,Qxy (λd=>.tuple (Yx o++[d])) (by rw[l2];exact YJ hb (by decide)) (λd hd k2 hk=>?_) ?_⟩
    ·exact⟨by rw[l1];show _+1<=_;omega,hk⟩
    ·have e:(Yx (oth n o)).map (λd=>Jz (Yx o++[d]))=(oth n o).map λx=>Jz (Yx o++[.int (x:Nat)]):=by
      conv=>lhs;unfold Yx
      rw[QH];rfl
     rw[e];exact hN
   ·rw[eG];exact⟨_,_,rfl,rfl⟩
  ·rintro δ ⟨ds,x2,rfl,rfl⟩;rw[Qq];exact hR
theorem QkS:(["_law_column", "_law_pot_here", "_law_row", "_law_thick"]:List Str).Nodup:=by decide +kernel
theorem Qc2:JV ["_law_pot_here", "_law_high", "_law_wide", "_law_thick", "_law_cells", "_law_row"] ["_law_pot_here", "_law_high", "_law_wide"] (QD Qfs):=⟨rfl,rfl,rfl,by decide +kernel,rfl,by decide +kernel,by decide +kernel⟩
theorem QmW{f f1  : Addr}{fd fd1:Q6}(F:Fun K "_law_board" "_law_board" Qfs f fd)(T:GlbA mg)
  (m1:mg "_law_take" = some (.ref f1))(G1:FnOk P w K mg base CX0 1 f1 fd1 ["_law_pot_here", "_law_far"] (ZP true QlU))(b1:Binds K fd1 ["_law_pot_here", "_law_far"] [])(k1:PySem.W.keepIn K (.ref f1)=true) :
  FnOk P w K mg base CX0 2 f fd ["_law_pot_here", "_law_high", "_law_wide"] (ZP false Qyy):=by
 refine okQ false F Qc2 (λargs R EX h=>?_) (λcdv A outer s H E hr=>?_)
 ·obtain⟨h,w,rfl,_⟩:=h;rfl
 ·have hU:=Room.u60 hr;have hI:=Room.i60 hr;refine⟨_,QP (YF 3 (q_toD (ZS G1 (hr.mono (by decide)) (by rfl) m1 k1 b1 Zw (QaJ 0 (Yt JE JT)))) Qc2.nd)
   (QP (Qbh 4 (Qcy Q8) Qc2.nd)
   (QP (QaK Je rfl (QaE (by rfl) T.range (qp 1)) (ZR 5 Qc2.nd rfl (by first | exact QZ rfl | exact QV rfl))
    (Jl (Qmj 4 (q_toPF (q_comp ["_law_column", "_law_pot_here", "_law_row", "_law_thick"] [none,some 0,some 5,some 3] (QaE (by rfl) T.range (qp 2)) (λcl ex s3 H3 C=>⟨(ZR 0 QkS rfl (QZ rfl) (QV rfl)),(QcJ (Yz Quj Qsj (q_toPF (ZS G1 (hr.mono (by decide)) (by rfl) m1 k1 b1 Zw (QaJ 1 (Yt JE JT)))) (qp 3) (ZT _))),(q_toD (Z7 (ZF (qv 2) (ZF (qv 0) Q8))))⟩))))))
   (Jl (Ym (Z7 (ZF (qv 1) (ZF (qv 2) (ZF (q_toD (q_callTy call_tuple_ofW cd_tuple (by rfl) T.tuple bt_tuple (qa_P (qp 4) Q8))) Q8)))))))),λargs R EX h=>?_⟩
  obtain⟨h,w,rfl,h6,w6,hR⟩:=h;refine⟨_,rfl,by decide,by decide,λth th0 th1=>⟨⟨by omega,by omega⟩,QdB (λi δ=>∃f ds x5,δ=[.pot,.v (.int h),.v (.int w),.v (.int th),.own ds,x5]/\ds=(cellsF i w f).map pairD) ⟨λ_ _=>false,_,_,rfl,rfl⟩ ?_ ?_⟩⟩
  ·rintro i δ hi ⟨f,ds,x5,rfl,rfl⟩;rw[Qq] at hi;refine⟨⟨by omega,by omega⟩,Qx2 (λd=>match d with | .int c=>pairD ((i:Int),c) | _=>.none) (λd hd k1 k2 h1 h2=>?_) λp=>?_⟩
   ·obtain⟨c,hc⟩:=JR.mp hd;obtain⟨hc2,rfl⟩:=QcI hc;refine⟨_,rfl,by decide,by decide,λr r0 r1=>?_⟩;refine ifC (λz=>?_) λz=>?_
    ·show k2 (pairD (0+(i:Int),0+(c:Int)));rw[show(0:Int)+(i:Int)=(i:Int) by omega];exact h2
    ·exact h1
   ·have er:((Qf (Qff 0 ((w:Nat):Int).toNat).length).filter p).map (λq=>(match (Qff 0 ((w:Nat):Int).toNat).getD q .none with | .int c=>pairD ((i:Int),c) | _=>.none))=(Qf5 i w λ_=>p).map pairD:=by
     rw[Qf6,Qq];unfold Qf5;rw[QH];refine Q9 λc hc=>?_
     have hc:=Qz.mp (JB.mp hc).1;have eg:(Qff 0 w).getD c .none=.int (0+(c:Int)):=by
      unfold Qff;rw[Qi,Qo,Ja hc];rfl
     rw[eg];show pairD ((i:Int),0+(c:Int))=pairD ((i:Int),(c:Int));rw[show(0:Int)+(c:Int)=(c:Int) by omega]
    rw[er];have l1:=Qbw w f i;have l2:=Qjq i w (λ_=>p);have l3:i*w<=6*6:=QbU (by omega) w6;refine⟨by rw[Qa,Qa];omega,λr c=>if r=i then p c else f r c,_,_,rfl,?_⟩;rw[Y5,Q3,QhM (f:=λr c=>if r=i then p c else f r c) (g:=f) λr c hr _=>if_neg (by omega),Qfe (f:=λr c=>if r=i then p c else f r c) (g:=λ_=>p) λc _=>if_pos rfl]
  ·rintro δ ⟨f,ds,x5,rfl,rfl⟩;rw[Qq];exact hR f
theorem QjL:(["row", "column"]:List Str).Nodup:=by decide +kernel
theorem QfZ:JV ["board", "high", "wide", "cells"] ["board"] (QD QkF):=⟨rfl,rfl,rfl,by decide +kernel,rfl,by decide +kernel,by decide +kernel⟩
theorem Quo{f   : Addr}{fd  : Q6}(F:Fun K "turned" "turned" QkF f fd)(T:GlbA mg) :
  FnOk P w K mg base CX0 2 f fd ["board"] (ZP false Qil):=by
 refine okQ false F QfZ (λargs R EX h=>?_) (λcdv A outer s H E hr=>?_)
 ·obtain⟨h,w,f,rfl,_⟩:=h;rfl
 ·have hU:=Room.u60 hr;have hI:=Room.i60 hr;refine⟨_,QP (Qju (qv 0) (QbO rfl (Zp 1 (Zp 2 (Zp 3 QbP QfZ.nd rfl (by first | exact QZ rfl | exact QV rfl)) QfZ.nd rfl (by first | exact QZ rfl | exact QV rfl)) QfZ.nd rfl (by first | exact QZ rfl | exact QV rfl))))
   (Jl (Ym (Z7 (ZF (qv 2) (ZF (qv 1) (ZF (q_toD (q_callTy call_tuple_ofW cd_tuple (by rfl) T.tuple bt_tuple (qa_P (q_toPF (Qbi QfB cd_sortP (by rfl) T.sorted QeH (qa_P (q_toPF (q_comp ["row", "column"] [none,none] (qi_tup (qp 3)) (λcl ex s3 H3 C=>⟨(QbO rfl (Zp 0 (Zp 1 QbP QjL rfl (QZ rfl) (QV rfl)) QjL rfl (QZ rfl) (QV rfl))),qts_nil,(q_toD (Z7 (ZF (qv 1) (ZF (qv 0) Q8))))⟩))) Q8))) Q8))) Q8)))))),λargs R EX h=>?_⟩
  obtain⟨h,w,f,rfl,h6,w6,hR⟩:=h;have hb:∀p∈cellsF h w f,0<=p.1/\p.1<h/\0<=p.2/\p.2<w:=λp hp=>QaY hp
  have nd1:(cellsF h w f).Nodup:=(pw_cellsF w f h).imp plt_ne;have nd2:(cellsF w h (tF f)).Nodup:=(pw_cellsF h (tF f) w).imp plt_ne;have ln:(cellsF h w f).length<=36:=QY (Qbw w f h) (QbU h6 w6);have es:((cellsF h w f).map pairD).map (λd=>pairD ((toP d).2,(toP d).1))=((cellsF h w f).map λp=>(p.2,p.1)).map pairD:=by rw[QH,QH];rfl
  have nd3:((cellsF h w f).map λp=>(p.2,p.1)).Nodup:=Qry.mpr (nd1.imp λ{a b} hne e=>hne (QcW (Qa1 e).2 (Qa1 e).1));refine⟨rfl,QfA (λd=>pairD ((toP d).2,(toP d).1)) (λd hd k2 hk=>?_) ?_⟩
  ·obtain⟨p,_,rfl⟩:=Qs.mp hd;exact⟨rfl,hk⟩
  ·rw[es];refine sortP_of nd3 (by rw[Qa];omega) (λp hp=>?_) λM pM pw=>?_
   ·obtain⟨q,hq,rfl⟩:=Qs.mp hp;have:=hb q hq;show 0<=q.1/\q.1<64;omega
   ·have pc:M.Perm (cellsF w h (tF f)):=pM.trans ((Yb nd3 nd2).mpr λp=>by
     rw[Qs,Z6];constructor
     ·rintro⟨q,hq,rfl⟩;obtain⟨r,c,hr,hc,hf,rfl⟩:=Z6.mp hq;exact⟨c,r,hc,hr,hf,rfl⟩
     ·rintro⟨r,c,hr,hc,hf,rfl⟩;exact⟨((c:Int),(r:Int)),Z6.mpr ⟨c,r,hc,hr,hf,rfl⟩,rfl⟩)
    have eM:M=cellsF w h (tF f):=Y7 (le:=plt) (λa b _ _ h1 h2=>by rcases h1 with x | x<;>rcases h2 with y | y<;>omega) pw (pw_cellsF h (tF f) w) pc;rw[eM];exact hR
theorem Qhp:(["_law_row", "_law_column"]:List Str).Nodup:=by decide +kernel
theorem QoU:JV ["_law_board_here"] ["_law_board_here"] (QD QkX):=⟨rfl,rfl,rfl,by decide +kernel,rfl,by decide +kernel,by decide +kernel⟩
theorem QpD{f   : Addr}{fd  : Q6}(F:Fun K "_law_turned" "_law_turned" QkX f fd)(T:GlbA mg) :
  FnOk P w K mg base CX0 2 f fd ["_law_board_here"] (ZP false Qil):=by
 refine okQ false F QoU (λargs R EX h=>?_) (λcdv A outer s H E hr=>?_)
 ·obtain⟨h,w,f,rfl,_⟩:=h;rfl
 ·have hU:=Room.u60 hr;have hI:=Room.i60 hr;refine⟨_,Jl (Ym (Z7 (ZF (QcK ZU Y4 (qp 0) (JQ JE) (λ_ _=>rfl)) (ZF (QcK ZU Y4 (qp 0) (JQ JE) (λ_ _=>rfl)) (ZF (q_toD (q_callTy call_tuple_ofW cd_tuple (by rfl) T.tuple bt_tuple (qa_P (q_toPF (Qbi QfB cd_sortP (by rfl) T.sorted QeH (qa_P (q_toPF (q_comp ["_law_row", "_law_column"] [none,none] (qi_tup (JQ (QcK ZU Y4 (qp 0) (JQ JE) (λ_ _=>rfl)))) (λcl ex s3 H3 C=>⟨(QbO rfl (Zp 0 (Zp 1 QbP Qhp rfl (QZ rfl) (QV rfl)) Qhp rfl (QZ rfl) (QV rfl))),qts_nil,(q_toD (Z7 (ZF (qv 1) (ZF (qv 0) Q8))))⟩))) Q8))) Q8))) Q8))))),λargs R EX h=>?_⟩;obtain⟨h,w,f,rfl,h6,w6,hR⟩:=h;have hb:∀p∈cellsF h w f,0<=p.1/\p.1<h/\0<=p.2/\p.2<w:=λp hp=>QaY hp
  have nd1:(cellsF h w f).Nodup:=(pw_cellsF w f h).imp plt_ne;have nd2:(cellsF w h (tF f)).Nodup:=(pw_cellsF h (tF f) w).imp plt_ne;have ln:(cellsF h w f).length<=36:=QY (Qbw w f h) (QbU h6 w6);have es:((cellsF h w f).map pairD).map (λd=>pairD ((toP d).2,(toP d).1))=((cellsF h w f).map λp=>(p.2,p.1)).map pairD:=by rw[QH,QH];rfl
  have nd3:((cellsF h w f).map λp=>(p.2,p.1)).Nodup:=Qry.mpr (nd1.imp λ{a b} hne e=>hne (QcW (Qa1 e).2 (Qa1 e).1));refine⟨_,JU (j:=1) rfl,_,JU (j:=0) rfl,_,JU (j:=2) rfl,QfA (λd=>pairD ((toP d).2,(toP d).1)) (λd hd k2 hk=>?_) ?_⟩
  ·obtain⟨p,_,rfl⟩:=Qs.mp hd;exact⟨rfl,hk⟩
  ·rw[es];refine sortP_of nd3 (by rw[Qa];omega) (λp hp=>?_) λM pM pw=>?_
   ·obtain⟨q,hq,rfl⟩:=Qs.mp hp;have:=hb q hq;show 0<=q.1/\q.1<64;omega
   ·have pc:M.Perm (cellsF w h (tF f)):=pM.trans ((Yb nd3 nd2).mpr λp=>by
     rw[Qs,Z6];constructor
     ·rintro⟨q,hq,rfl⟩;obtain⟨r,c,hr,hc,hf,rfl⟩:=Z6.mp hq;exact⟨c,r,hc,hr,hf,rfl⟩
     ·rintro⟨r,c,hr,hc,hf,rfl⟩;exact⟨((c:Int),(r:Int)),Z6.mpr ⟨c,r,hc,hr,hf,rfl⟩,rfl⟩)
    have eM:M=cellsF w h (tF f):=Y7 (le:=plt) (λa b _ _ h1 h2=>by rcases h1 with x | x<;>rcases h2 with y | y<;>omega) pw (pw_cellsF h (tF f) w) pc;rw[eM];exact hR
end
def Qjn:Sp:=λvs H Q _=>∃p n m,vs=[.ref p,.int m]/\H p=some (.lst [.int n])/\1<=m/\m<=6/\∀t (o:List Int) H' n',KX p H H'->H' p=some (.lst [.int n'])->t≠p->H' t=some (.tup (o.map V.int))->o.Perm (QdH m.toNat)->Q (.ref t) H'
theorem QhC{α β:Type}(f:α->β):∀(xs:List α)(k:Nat),(xs.map f).eraseIdx k=(xs.eraseIdx k).map f
 |[],k=>by cases k<;>rfl
 |x::xs,0=>rfl
 |x::xs,k+1=>by
  show f x::(xs.map f).eraseIdx k=f x::(xs.eraseIdx k).map f;rw[QhC f xs k]
theorem Qfx{α:Type}:∀(xs:List α)(k:Nat)(d:α),k<xs.length->(xs.getD k d::xs.eraseIdx k).Perm xs
 |[],k,d,h=>absurd h (Yv _)
 |x::xs,0,d,h=>Zy _
 |x::xs,k+1,d,h=>by
  have ih:=Qfx xs k d (by simpa using h);show(xs.getD k d::x::xs.eraseIdx k).Perm (x::xs);exact(QeX _ _ _).trans (ih.cons x)
theorem Qs1{vs:List V}{H:Hp}{Q:VK}{E:XK}(h:Qiq vs H Q E):QfW vs H Q E:=by
 obtain⟨p,n,f,rfl,hp,h0,h1,k⟩:=h;exact⟨p,n,f,rfl,hp,h0,QlF (QlG h1) (by decide),λr m r0 r1=>k r _ m KX.upd Jg r0 r1⟩
def QiI:DF:=λargs R _=>∃m:Int,args=[.pot,.v (.int m)]/\1<=m/\m<=6/\∀o:List Int,o.Perm (QdH m.toNat)->R (tN o)
theorem Quf{vs:List V}{H:Hp}{Q:VK}{Ex:XK}(h:ZP false QiI vs H Q Ex):Qjn vs H Q Ex:=by
 obtain⟨A,pt,args,R,EX,dm,hp,q,⟨m,rfl,m1,m6,hR⟩,k,_⟩:=h;cases q with
 |cons q1 q2=>cases q2 with
  |cons q2 q3=>
   cases q3;obtain⟨p,rfl,pp⟩:=q1;cases q2;obtain⟨pA,n,e⟩:=hp p pp;refine⟨p,n,m,rfl,e,m1,m6,λt o H' n' kx ep ne et po=>k _ (hR o po) _ _ ⟨λb u nb eb=>kx b u (λz=>nb (by rw[z];exact pp)) eb,λz hz=>?_⟩ (.tup (λz=>?_) et (Qd9 o)) λh=>by cases h⟩
   ·by_cases y:z=p
    ·rw[y];exact⟨n',ep⟩
    ·obtain⟨_,n2,e'⟩:=hp z hz;exact⟨n2,kx z _ y e'⟩
   ·obtain⟨xs,e'⟩:=dm t z;rw[kx t _ ne e'] at et;cases et
section
variable{P:Qy}{w:Jc}{K:PySem.W.Frag}{mg:Str->Option Value}{base:Heap}
theorem QkQ:(["_law_turn", "_law_left", "_law_pot_here"]:List Str).Nodup:=by decide +kernel
theorem Qg9:JV ["_law_pot_here", "_law_many", "_law_left"] ["_law_pot_here", "_law_many"] (QD Qfq):=⟨rfl,rfl,rfl,by decide +kernel,rfl,by decide +kernel,by decide +kernel⟩
theorem QmT{f f1  : Addr}{fd fd1:Q6}(F:Fun K "_law_order" "_law_order" Qfq f fd)(T:GlbA mg)
  (m1:mg "_law_take" = some (.ref f1))(G1:FnOk P w K mg base CX0 1 f1 fd1 ["_law_pot_here", "_law_far"] Qiq)(b1:Binds K fd1 ["_law_pot_here", "_law_far"] [])(k1:PySem.W.keepIn K (.ref f1)=true) :
  FnOk P w K mg base CX0 2 f fd ["_law_pot_here", "_law_many"] Qjn:=by
 refine F.ok Qg9 (λvs H Q E h=>?_) (λcdv A outer s H vs Q E hr h=>?_)
 ·obtain⟨p,n,m,rfl,_⟩:=h;rfl
 ·obtain⟨p,n,m,rfl,hp,hm1,hm6,k⟩:=h;have un:=hr.units;refine⟨_,Zs (Qa7 (i:=2) Qg9.nd rfl (by first | exact QZ rfl | exact QV rfl) (Qax (QeG rfl) (by rfl) T.list QeI (pa_cons (Qd6 (by rfl) T.range (pa_cons (pv 1) pa_nil)) pa_nil)))
   (Ya (Qaw (Qax Qc8 (by rfl) T.tuple bt_tuple (pa_cons (Qgg (M:=["_law_turn", "_law_left", "_law_pot_here"]) (cap:=[none,some 2,some 0]) (g:=(Qbk 0)) (tc:=Qek) (te:=(tBM K "list" QrZ (Qbs 1) (Qak (QlY Qiq [] E0 (Qak (Qbs 2) (Qak (tCB (Qtq K) (Qak (Qbs 1) Qe1)) Qe1))) Qe1))) rfl (by rfl) (Qb9 (by rfl) T.range (pa_cons (pv 1) pa_nil)) (λcl ex s3 H3 C=>⟨(Qbj (i:=0) QkQ rfl (QZ rfl) (QV rfl)),Qiw,(Qmx PySem.F.plainAttrs_list PySem.F.slot_list_pop PySem.F.type_list_pop QpO (pv 1) (pa_cons (QcL G1 (hr.mono (by decide)) (by rfl) m1 k1 b1 .nil Qt9 (pa_cons (pv 2) (pa_cons (pe_callB Yo (by rfl) T.len Qce (pa_cons (pv 1) pa_nil)) pa_nil))) pa_nil))⟩)) pa_nil)))),?_⟩
  refine⟨_,rfl,m,rfl,λr H1 s1 n1 e1=>⟨r,m,rfl,e1,by omega,by omega,λl H2 s2 n2 e2=>?_⟩⟩;have p2:=s2 _ _ (s1 _ _ hp);have nlp:l≠p:=QpN (s1 _ _ hp) n2;have el:H2 l=some (.lst ((QdH m.toNat).map V.int)):=by
   rw[e2];unfold QdH;rw[QH];rfl
  have nHl:H l=none:=s1.free n2;refine⟨_,rfl,m,rfl,by omega,by omega,λpl hpl=>?_⟩;have npl:pl≠p:=QpN p2 hpl;have npll:pl≠l:=QpN el hpl;refine Qdw m.toNat (λj H4=>∃(n'':Int)(fs ls:List Int),H4 p=some (.lst [.int n''])/\H4 pl=some (.lst (fs.map V.int))/\H4 l=some (.lst (ls.map V.int))/\(fs++ls).Perm (QdH m.toNat)/\fs.length=j/\KX p H H4)
   ⟨n,[],QdH m.toNat,Jn hpl _ _ p2,Jg,Jn hpl _ _ el,Zy _,rfl,KX.of ((s1.trans s2).trans (Jn hpl))⟩ (λj H4 hj ⟨n'',fs,ls,p4,f4,l4,pm,lf,x4⟩=>?_) λH4 ⟨n'',fs,ls,p4,f4,l4,pm,lf,x4⟩=>⟨by show _<=_;omega,?_⟩
  ·have hlen:=pm.length_eq;rw[Qw,Qdt] at hlen;refine⟨by show j<_;omega,λx H5 ⟨eH,ev⟩ kk hk=>?_⟩;subst eH ev;refine⟨⟨rfl,rfl,trivial⟩,Qux ?_⟩;refine⟨_,rfl,.inl ⟨rfl,_,SqL.of l4⟩,_,rfl,_,rfl,l,_,rfl,.inl (SqL.of l4),p,n'',_,rfl,p4,by rw[Qa];omega,by rw[Qa];omega,λr H6 n6 x6 p6 r0 r1=>?_⟩;rw[Qa] at r1;obtain⟨k',rfl⟩:=Qks r0;have hk':k'<ls.length:=by omega
   have l6:=x6 _ _ nlp l4;have f6:=x6 _ _ npl f4;refine⟨l,ls.map V.int,_,k',.int (ls.getD k' 0),rfl,rfl,l6,by omega,by omega,?_,?_,?_⟩
   ·rw[Qa];exact QeT (by omega) (by omega)
   ·rw[Qo,Qi,Qe hk'];rfl
   ·refine⟨fs.map V.int,?_,?_,?_⟩
    ·rw[Jw npll];exact f6
    ·rw[Qa];exact QuG (by omega)
    ·refine hk _ ⟨n6,fs++[ls.getD k' 0],ls.eraseIdx k',?_,?_,?_,?_,?_,?_⟩
     ·rw[Jw npl.symm,Jw nlp.symm];exact p6
     ·rw[Jg,Q3];rfl
     ·rw[Jw npll.symm,Jg,QhC]
     ·rw[QeR];exact((Qfx ls k' 0 hk').append_left fs).trans pm
     ·rw[Qw,lf];rfl
     ·intro b o nb eb;rw[Jw (Zl eb ((s1.trans s2).free hpl)),Jw (Zl eb nHl)];exact x6 b o nb (x4 b o nb eb)
  ·have hlen:=pm.length_eq;rw[Qw,Qdt] at hlen;have els:ls=[]:=Qja.mp (by omega);rw[els,Z5] at pm;refine⟨pl,_,rfl,.inl ⟨SqL.of f4,λt ht=>?_⟩⟩;have s5:=Jn (o:=.tup (fs.map V.int)) ht;exact k t fs _ n'' (x4.trans (KX.of s5)) (s5 _ _ p4) (QpN p4 ht) Jg pm
end
def Qon(cs:List (Int×Int))(cols:List Int)(r:Nat)(row:Int):List (Int×Int):=((Qf cols.length).filter λc=>decide ((row,cols.getD c 0)∈cs)).map λ(c:Nat)=>((r:Int),(c:Int))
def QAJ(cs:List (Int×Int))(rows cols:List Int):List (Int×Int):=(Qf rows.length).flatMap λr=>Qon cs cols r (rows.getD r 0)
def Qxo(cs:List (Int×Int))(r:Int)(i:Nat):PyData->Option PyData
 |.tuple [.int c,.int col]=>if(r,col)∈cs then some (pairD ((i:Int),c)) else none
 |_=>none
theorem Qxn(cs:List (Int×Int))(cols:List Int)(i:Nat)(r:Int):(QdU (cols.map Qp)).filterMap (Qxo cs r i)=(Qon cs cols i r).map pairD:=by
 unfold QdU Qon;rw[Yk,Qa,QH];have key:∀l:List Nat,(∀j∈l,j<cols.length)->l.filterMap (Qxo cs r i∘λ(j:Nat)=>Jz [Qp j,(cols.map Qp).getD j .none])=(l.filter λc=>decide ((r,cols.getD c 0)∈cs)).map (pairD∘λ(c:Nat)=>((i:Int),(c:Int))):=λl=>by
  induction l with
  |nil=>intro _;rfl
  |cons j l ih=>
   intro hl;have hj:=hl j (.head _);have e:(cols.map Qp).getD j .none=Qp (cols.getD j 0):=by
    rw[Qi,Qo,Qi,Qe hj];rfl
   have e2:(Qxo cs r i∘λ(j:Nat)=>Jz [Qp j,(cols.map Qp).getD j .none]) j=if(r,cols.getD j 0)∈cs then some (pairD ((i:Int),(j:Int))) else none:=by
    show Qxo cs r i (Jz [Qp j,(cols.map Qp).getD j .none])=_;rw[e];rfl
   rw[Z4,e2];by_cases z:(r,cols.getD j 0)∈cs
   ·rw[if_pos z,Qap (by simpa using z),Js,ih λk hk=>hl k (.tail _ hk)];rfl
   ·rw[if_neg z,Qaq (by simpa using z),ih λk hk=>hl k (.tail _ hk)]
 exact key _ λj hj=>Qz.mp hj
theorem QjQ(cs:List (Int×Int))(cols:List Int)(i:Nat)(r:Int):(Qon cs cols i r).length<=cols.length:=by
 unfold Qon;rw[Qa];have:=QcS (λc=>decide ((r,cols.getD c 0)∈cs)) (Qf cols.length);rw[Qr] at this;exact this
theorem QjP(cs:List (Int×Int))(cols:List Int)(g:Nat->Int):∀n,((Qf n).flatMap λr=>Qon cs cols r (g r)).length<=n*cols.length
 |0=>by simp
 |n+1=>by
  rw[JL,Z3,Qw];have h1:=QjP cs cols g n;have h2:=QjQ cs cols n (g n);have h3:([n].flatMap λr=>Qon cs cols r (g r)).length=(Qon cs cols n (g n)).length:=by simp
  rw[h3,Nat.add_mul];omega
def QuF:DF:=λargs R _=>∃(h w:Int)(cs:List (Int×Int))(rows cols:List Int),args=[.v (bdD h w cs),.v (tN rows),.v (tN cols)]/\rows.length<=6/\cols.length<=6/\R (bdD h w (QAJ cs rows cols))
def QuE:DF:=λargs R _=>∃(h w:Nat)(f:Nat->Nat->Bool),args=[.pot,.v (bdD h w (cellsF h w f))]/\1<=h/\h<=6/\1<=w/\w<=6/\∀(h2 w2:Nat)(f2:Nat->Nat->Bool),1<=h2->h2<=6->1<=w2->w2<=6->R (bdD h2 w2 (cellsF h2 w2 f2))
theorem QzK{h w:Nat}{cs:List (Int×Int)}{rs ms:List Int}(hr:rs.length=h)(hm:ms.length=w):QAJ cs rs ms=cellsF h w λr c=>decide ((rs.getD r 0,ms.getD c 0)∈cs):=by
 subst hr hm;rfl
theorem Ql0{h w:Nat}{M:List (Int×Int)}(pw:M.Pairwise plt)(hb:∀p∈M,0<=p.1/\p.1<h/\0<=p.2/\p.2<w):M=cellsF h w λr c=>decide (((r:Int),(c:Int))∈M):=by
 refine Y7 (le:=plt) (λa b _ _ h1 h2=>by rcases h1 with x | x<;>rcases h2 with y | y<;>omega) pw (pw_cellsF w _ h) ((Yb (pw.imp plt_ne) (nd_cellsF h w _)).mpr λp=>?_);rw[Z6];constructor
 ·intro hp;have b:=hb p hp;refine⟨p.1.toNat,p.2.toNat,by omega,by omega,?_,?_⟩
  ·rw[decide_eq_true_eq,Qbq b.1,Qbq b.2.2.1];exact hp
  ·rw[Qbq b.1,Qbq b.2.2.1]
 ·rintro⟨r,c,_,_,hf,rfl⟩;exact of_decide_eq_true hf
section
variable{P:Qy}{w:Jc}{K:PySem.W.Frag}{mg:Str->Option Value}{base:Heap}
theorem Qm5:(["_law_place", "_law_column", "_law_board_here", "_law_line", "_law_row"]:List Str).Nodup:=by decide +kernel
theorem Qjp:JV ["_law_board_here", "_law_rows", "_law_columns_here", "_law_cells", "_law_row", "_law_line"] ["_law_board_here", "_law_rows", "_law_columns_here"] (QD lLed):=⟨rfl,rfl,rfl,by decide +kernel,rfl,by decide +kernel,by decide +kernel⟩
theorem Qxd{f   : Addr}{fd  : Q6}(F:Fun K "_law_led" "_law_led" lLed f fd)(T:GlbA mg) :
  FnOk P w K mg base CX0 1 f fd ["_law_board_here", "_law_rows", "_law_columns_here"] (ZP false QuF):=by
 refine okQ false F Qjp (λargs R EX h=>?_) (λcdv A outer s H E hr=>?_)
 ·obtain⟨h,w,cs,rows,cols,rfl,_⟩:=h;rfl
 ·have hU:=Room.u60 hr;have hI:=Room.i60 hr;refine⟨_,QP (Qbh 3 (Qcy Q8) Qjp.nd)
   (QP (QaK Je rfl (Qjv (by rfl) T.enumerate (qv 1)) (QbO rfl (Zp 4 (Zp 5 QbP Qjp.nd rfl (by first | exact QZ rfl | exact QV rfl)) Qjp.nd rfl (by first | exact QZ rfl | exact QV rfl)))
    (Jl (Qmj 3 (q_toPF (q_comp ["_law_place", "_law_column", "_law_board_here", "_law_line", "_law_row"] [none,none,some 0,some 5,some 4] (Qjv (by rfl) T.enumerate (qp 2)) (λcl ex s3 H3 C=>⟨(QbO rfl (Zp 0 (Zp 1 QbP Qm5 rfl (QZ rfl) (QV rfl)) Qm5 rfl (QZ rfl) (QV rfl))),(QcJ (Yz Qsi (Qm1 hI) (q_toPF (Z7 (ZF (qv 3) (ZF (qv 1) Q8)))) (JQ (QcK ZU Y4 (qp 2) (JQ JE) (λ_ _=>rfl))) (by rfl))),(q_toD (Z7 (ZF (qv 4) (ZF (qv 0) Q8))))⟩))))))
   (Jl (Ym (Z7 (ZF (QcK ZU Y4 (qp 0) (JQ JE) (λ_ _=>rfl)) (ZF (QcK ZU Y4 (qp 0) (JQ JE) (λ_ _=>rfl)) (ZF (q_toD (q_callTy call_tuple_ofW cd_tuple (by rfl) T.tuple bt_tuple (qa_P (qp 3) Q8))) Q8))))))),λargs R EX h=>?_⟩
  obtain⟨h,w,cs,rows,cols,rfl,hr,hc,hR⟩:=h;refine YV (λi δ=>∃ds x4 x5,δ=[.v (bdD h w cs),.v (tN rows),.v (tN cols),.own ds,x4,x5]/\ds=((Qf i).flatMap λr=>Qon cs cols r (rows.getD r 0)).map pairD) ⟨_,_,_,rfl,rfl⟩ ?_ ?_
  ·rintro i d δ hd ⟨ds,x4,x5,rfl,rfl⟩;obtain⟨e,he,rfl⟩:=Qco hd;rw[Qo] at he;obtain⟨r,er,rfl⟩:∃r,rows[i]? = some r/\e=.int r:=by
    cases z:rows[i]? with
    |none=>rw[z] at he;cases he
    |some r=>rw[z] at he;cases he;exact⟨r,rfl,rfl⟩
   have hi:i<rows.length:=(QU.mp er).1;have eg:rows.getD i 0=r:=by rw[Qi,er];rfl
   refine⟨rfl,Qk8 (Qxo cs r i) (λd hd k1 k2 h1 h2=>?_) ?_⟩
   ·obtain⟨j,hj⟩:=JR.mp hd;obtain⟨e2,he2,rfl⟩:=Qco hj;rw[Qo] at he2;obtain⟨c,ec,rfl⟩:∃c,cols[j]? = some c/\e2=.int c:=by
     cases z:cols[j]? with
     |none=>rw[z] at he2;cases he2
     |some r=>rw[z] at he2;cases he2;exact⟨r,rfl,rfl⟩
    refine⟨rfl,_,JU (j:=2) rfl,⟨Qbv cs,rfl,QY (QcP (r,c)) (by decide)⟩,?_⟩;show if((cs.map pairD).any λe=>Jf e (pairD (r,c)))=true then k2 (pairD ((i:Int),(j:Int))) else k1
    rw[QeL];have h1:(if(r,c)∈cs then some (pairD ((i:Int),(j:Int))) else none)=none->k1:=h1;have h2:∀e,(if(r,c)∈cs then some (pairD ((i:Int),(j:Int))) else none)=some e->k2 e:=h2
    by_cases z:(r,c)∈cs
    ·rw[if_pos (decide_eq_true z)];exact h2 _ (if_pos z)
    ·rw[if_neg (by simpa using z)];exact h1 (if_neg z)
   ·rw[Qxn];have l1:=QjP cs cols (λr=>rows.getD r 0) i;have l2:=QjQ cs cols i r;have l3:i*cols.length<=6*6:=QbU (by omega) hc;refine⟨by rw[Qa,Qa];omega,_,_,_,rfl,?_⟩;rw[JL,Z3,Q3];show _=_++(List.flatMap (λr=>Qon cs cols r (rows.getD r 0)) [i]).map pairD;rw[Qko,eg]
  ·rintro δ ⟨ds,x4,x5,rfl,rfl⟩;refine⟨_,JU (j:=0) rfl,_,JU (j:=1) rfl,?_⟩;rw[Qcn,Qa];exact hR
theorem Qb3:JV ["_law_pot_here", "_law_board_here", "_law_high", "_law_wide", "_law_cells", "_law_way", "_law_found", "_law_spot", "_law_place"] ["_law_pot_here", "_law_board_here"] (QD Qfp):=⟨rfl,rfl,rfl,by decide +kernel,rfl,by decide +kernel,by decide +kernel⟩
theorem Quq{f f1 f2 f3 f4 f5  : Addr}{fd fd1 fd2 fd3 fd4 fd5:Q6}(F:Fun K "_law_other" "_law_other" Qfp f fd)(T:GlbA mg)
  (m1:mg "_law_take" = some (.ref f1))(G1:FnOk P w K mg base CX0 1 f1 fd1 ["_law_pot_here", "_law_far"] (ZP true QlU))(b1:Binds K fd1 ["_law_pot_here", "_law_far"] [])(k1:PySem.W.keepIn K (.ref f1)=true)
  (m2:mg "_law_board" = some (.ref f2))(G2:FnOk P w K mg base CX0 2 f2 fd2 ["_law_pot_here", "_law_high", "_law_wide"] (ZP false Qyy))(b2:Binds K fd2 ["_law_pot_here", "_law_high", "_law_wide"] [])(k2:PySem.W.keepIn K (.ref f2)=true)
  (m3:mg "_law_led" = some (.ref f3))(G3:FnOk P w K mg base CX0 1 f3 fd3 ["_law_board_here", "_law_rows", "_law_columns_here"] (ZP false QuF))(b3:Binds K fd3 ["_law_board_here", "_law_rows", "_law_columns_here"] [])(k3:PySem.W.keepIn K (.ref f3)=true)
  (m4:mg "_law_order" = some (.ref f4))(G4:FnOk P w K mg base CX0 2 f4 fd4 ["_law_pot_here", "_law_many"] (ZP false QiI))(b4:Binds K fd4 ["_law_pot_here", "_law_many"] [])(k4:PySem.W.keepIn K (.ref f4)=true)
  (m5:mg "_law_turned" = some (.ref f5))(G5:FnOk P w K mg base CX0 2 f5 fd5 ["_law_board_here"] (ZP false Qil))(b5:Binds K fd5 ["_law_board_here"] [])(k5:PySem.W.keepIn K (.ref f5)=true) :
  FnOk P w K mg base CX0 3 f fd ["_law_pot_here", "_law_board_here"] (ZP false QuE):=by
 refine okQ false F Qb3 (λargs R EX h=>?_) (λcdv A outer s H E hr=>?_)
 ·obtain⟨h,w,f,rfl,_⟩:=h;rfl
 ·have hU:=Room.u60 hr;have hI:=Room.i60 hr;refine⟨_,QP (Qju (qv 1) (QbO rfl (Zp 2 (Zp 3 (Zp 4 QbP Qb3.nd rfl (by first | exact QZ rfl | exact QV rfl)) Qb3.nd rfl (by first | exact QZ rfl | exact QV rfl)) Qb3.nd rfl (by first | exact QZ rfl | exact QV rfl))))
   (QP (YF 5 (q_toD (ZS G1 (hr.mono (by decide)) (by rfl) m1 k1 b1 Zw (QaJ 0 (Yt JE JT)))) Qb3.nd)
   (QP (Qb4 (Yz QdI (Qhj hU) (qp 5) (JQ JE) (ZT _)) (Jl (Qa6 (Yc G2 (hr.mono (by decide)) (by rfl) m2 k2 b2 Zw (QaJ 0 (Yt (q_toD (Qav Qag Qa8 (JQ JE) (q_toPF (ZS G1 (hr.mono (by decide)) (by rfl) m1 k1 b1 Zw (QaJ 0 (Yt (qv 2) JT)))))) (Yt (q_toD (Qav Qag Qa8 (JQ JE) (q_toPF (ZS G1 (hr.mono (by decide)) (by rfl) m1 k1 b1 Zw (QaJ 0 (Yt (qv 3) JT)))))) JT)))))) YE)
   (QP (YF 6 (Yc G3 (hr.mono (by decide)) (by rfl) m3 k3 b3 Zw (Yt (qv 1) (Yt (Yc G4 (hr.mono (by decide)) (by rfl) m4 k4 b4 Zw (QaJ 0 (Yt (qv 2) JT))) (Yt (Yc G4 (hr.mono (by decide)) (by rfl) m4 k4 b4 Zw (QaJ 0 (Yt (qv 3) JT))) JT)))) Qb3.nd)
   (QP (Qb4 (Yz QdI (Qhj hU) (qp 5) (JQ JE) (ZT _)) (Jl (Qa6 (Yc G5 (hr.mono (by decide)) (by rfl) m5 k5 b5 Zw (Yt (qv 6) JT)))) YE)
   (QP (Qb4 (Qzp (Qr1 (Yz QdI (Qhj hU) (qp 5) (JQ JE) (ZT _)) (Qmh (Yz Qfk (QkO hU) (qp 4) (q_toPF (Z7 Q8)) (ZT _))))) (QP (YF 7 (q_toD (ZS G1 (hr.mono (by decide)) (by rfl) m1 k1 b1 Zw (QaJ 0 (Yt (q_toD (Qbi Qc9 Qka (by rfl) T.len Qce (qa_P (qp 4) Q8))) JT)))) Qb3.nd)
   (QP (YF 8 (q_toD (Z7 (ZF (q_toD (ZS G1 (hr.mono (by decide)) (by rfl) m1 k1 b1 Zw (QaJ 0 (Yt (qv 2) JT)))) (ZF (q_toD (ZS G1 (hr.mono (by decide)) (by rfl) m1 k1 b1 Zw (QaJ 0 (Yt (qv 3) JT)))) Q8)))) Qb3.nd)
   (Jl (Ym (Z7 (ZF (qv 2) (ZF (qv 3) (ZF (q_toD (q_callTy call_tuple_ofW cd_tuple (by rfl) T.tuple bt_tuple (qa_P (q_toPF (QkI hU (by rfl) T.sorted (by rfl) T.set (q_toPF (Qav Qag Qa8 (q_toPF (Qav Qag Qa8 (q_toPF (Qb7 (qp 4) Qb6 (Qb5 (qp 7)))) (q_toPF (Qb7 (qp 4) (Qb5 (q_toPF (Qav Qag Qa8 (qp 7) (JQ JE)))) Qb6)))) (q_toPF (Z7 (ZF (qv 8) Q8))))))) Q8))) Q8)))))))) YE)
   (Jl (Qa6 (qv 6)))))))),λargs R EX h=>?_⟩
  obtain⟨h,w,f,rfl,h1,h6,w1,w6,hR⟩:=h;refine⟨rfl,_,rfl,by decide,by decide,λa a0 a1=>?_⟩;refine ifC (λz=>?_) λz=>?_
  ·refine⟨_,rfl,by omega,by omega,λb b0 b1=>⟨_,rfl,by omega,by omega,λc c0 c1=>?_⟩⟩;obtain⟨x,hx⟩:∃x:Nat,1+b=(x:Int):=⟨(1+b).toNat,by omega⟩
   obtain⟨y,hy⟩:∃y:Nat,1+c=(y:Int):=⟨(1+c).toNat,by omega⟩
   exact⟨x,y,by rw[<- hx,<- hy],by omega,by omega,λg=>hR x y g (by omega) (by omega) (by omega) (by omega)⟩
  ·refine⟨_,rfl,by omega,by omega,λrs pr=>⟨_,rfl,by omega,by omega,λms pm=>?_⟩⟩;have lr:=pr.length_eq;have lm:=pm.length_eq;rw[Qdt] at lr lm;refine⟨h,w,_,rs,ms,rfl,by omega,by omega,?_⟩;rw[QzK (h:=h) (w:=w) (by omega) (by omega)];have ln:(cellsF h w f).length<=36:=QY (Qbw w f h) (QbU h6 w6);refine ifC (λz=>?_) λz=>?_
   ·exact⟨h,w,_,rfl,h6,w6,hR w h _ w1 w6 h1 h6⟩
   ·refine ifC (λz2=>?_) λz2=>hR h w _ h1 h6 w1 w6
    refine⟨⟨Qbv _,rfl,.inr (by show 0+1<=50;decide)⟩,ifC (λz3=>?_) λz3=>hR h w _ h1 h6 w1 w6⟩;have lc:((cellsF h w f).map pairD).length=(cellsF h w f).length:=Qa _;have ne:1<=(cellsF h w f).length:=by
     cases e:cellsF h w f with
     |nil=>rw[e] at z3;cases z3
     |cons p r=>show 1<=r.length+1;omega
    refine⟨_,rfl,by rw[lc];omega,by rw[lc];omega,λk k0 k1=>⟨_,rfl,by omega,by omega,λp p0 p1=>⟨_,rfl,by omega,by omega,λq q0 q1=>?_⟩⟩⟩;rw[lc] at k1;obtain⟨kk,rfl⟩:∃kk:Nat,k=kk:=⟨k.toNat,by omega⟩
    have e1:Dl.cutD ((cellsF h w f).map pairD) none (some (kk:Int))=((cellsF h w f).take kk).map pairD:=by rw[Qj6 _ _ k0,Qq,Qa5]
    have e2:Dl.cutD ((cellsF h w f).map pairD) (some ((kk:Int)+1)) none=((cellsF h w f).drop (kk+1)).map pairD:=by rw[show(kk:Int)+1=((kk+1:Nat):Int) by omega,QnW,QdX]
    have l1:((cellsF h w f).take kk).length<=36:=QY (by rw[Zh];exact QcB _ _) ln;have l2:((cellsF h w f).drop (kk+1)).length<=36:=QY (by rw[Yg];exact Nat.sub_le _ _) ln;refine⟨by rw[e1,e2,Qa,Qa];omega,by rw[e1,e2,Qw,Qa,Qa];show _+1<=_;omega,?_⟩;show Qfa (.tuple (Dl.cutD ((cellsF h w f).map pairD) none (some (kk:Int))++Dl.cutD ((cellsF h w f).map pairD) (some ((kk:Int)+1)) none++[Jz [.int p,.int q]])) _;rw[e1,e2,<- Q3];have l3:((cellsF h w f).take kk).length+((cellsF h w f).drop (kk+1)).length<63:=by rw[Zh,Yg];omega
    have lb:∀x∈(cellsF h w f).take kk++(cellsF h w f).drop (kk+1)++[(p,q)],0<=x.1/\x.1<h/\0<=x.2/\x.2<w:=λx hx=>by
     rcases JM.mp hx with y | y
     ·rcases JM.mp y with y | y
      ·exact QaY (QlC y)
      ·exact QaY (Qde y)
     ·rw[Q5.mp y];exact⟨p0,p1,q0,q1⟩
    have eL:((cellsF h w f).take kk++(cellsF h w f).drop (kk+1)).map pairD++[Jz [.int p,.int q]]=((cellsF h w f).take kk++(cellsF h w f).drop (kk+1)++[(p,q)]).map pairD:=by
     rw[Q3 (l₂:=[(p,q)])];rfl
    rw[eL];refine QoY _ (by rw[Qw,Qw];show _+1<64;omega) (λx hx=>by have:=lb x hx;omega) λM lM hM pM=>?_
    have bM:∀x∈M,0<=x.1/\x.1<h/\0<=x.2/\x.2<w:=λx hx=>lb x ((hM x).mp hx)
    have pl:M.Pairwise plt:=QdZ (λ{a b} ha hb hc=>by
     have x1:=bM a ha;have x2:=bM b hb;have hc:64*a.1+a.2<64*b.1+b.2:=hc;by_cases y:a.1<b.1
     ·exact .inl y
     ·exact .inr ⟨by omega,by omega⟩) pM
    rw[Ql0 pl bM];exact hR h w _ h1 h6 w1 w6
end
def QrR:Sp:=λvs H Q _=>∃(b:Addr)(h w:Nat)(f:Nat->Nat->Bool),vs=[.ref b]/\Dat H (.ref b) (bdD h w (cellsF h w f))/\h<=6/\w<=6/\∀t H',Same H H'->H t=none->H' t=some (.lst ((cIw f h w).map V.int))->Q (.ref t) H'
section
variable{P:Qy}{w:Jc}{K:PySem.W.Frag}{mg:Str->Option Value}{base:Heap}
theorem Qbg:JV ["_law_board_here", "_law_ways", "_law_row", "_law_later", "_law_taken", "_law_column", "_law_key", "_law_found"] ["_law_board_here"] (QD Qcb):=⟨rfl,rfl,rfl,by decide +kernel,rfl,by decide +kernel,by decide +kernel⟩
theorem Qur{f   : Addr}{fd  : Q6}(zD:mg "dict" = none)(F:Fun K "_law_counts" "_law_counts" Qcb f fd)(T:GlbA mg) :
  FnOk P w K mg base CX0 1 f fd ["_law_board_here"] QrR:=by
 refine F.ok Qbg (λvs H Q E h=>?_) (λcdv A outer s H vs Q E hr h=>?_)
 ·obtain⟨b,h,w,f,rfl,_⟩:=h;rfl
 ·obtain⟨b,h,w,f,rfl,hb,h6,w6,k⟩:=h;have un:=hr.units;refine⟨_,Zs (Qa7 (i:=1) Qbg.nd rfl (by first | exact QZ rfl | exact QV rfl) (Qpi (Qnr hr) (Qgf pa_nil) pe_int))
   (Zs (Qfg Je rfl (Qb9 (by rfl) T.range (pa_cons (pe_ix ix_tup (pv 0) pe_int (λ_ _=>rfl)) pa_nil)) (Qbj (i:=2) Qbg.nd rfl (by first | exact QZ rfl | exact QV rfl))
    (Zs (Qa7 (i:=3) Qbg.nd rfl (by first | exact QZ rfl | exact QV rfl) (Qax Qlc (by rfl) zD Qvk (pa_cons (pv 1) pa_nil)))
   (Zs (Qfg Je rfl (Qmr (pv 1)) (Qbj (i:=4) Qbg.nd rfl (by first | exact QZ rfl | exact QV rfl))
    (Ya (Qfg Je rfl (Qb9 (by rfl) T.range (pa_cons (pe_ix ix_tup (pv 0) pe_int (λ_ _=>rfl)) pa_nil)) (Qbj (i:=5) Qbg.nd rfl (by first | exact QZ rfl | exact QV rfl))
    (Ya (Qgb (PW.pt (Qr7 (Qb8 Qsh (Qgf (pa_c (pv 2) (pa_c (pv 5) pa_nil))) (pe_ix ix_tup (pv 0) pe_int (λ_ _=>rfl)) (by rfl)) (Qmn (Qb8 Qhh (pv 5) (pv 4) (by rfl))))) (Zs (Qa7 (i:=6) Qbg.nd rfl (by first | exact QZ rfl | exact QV rfl) (Qax call_tuple_ofW (by rfl) T.tuple bt_tuple (pa_cons (pe_callB Qla (by rfl) T.sorted L2.boot_sorted (pa_cons (pe_op QmP (pv 4) (Qgf (pa_c (pv 5) pa_nil))) pa_nil)) pa_nil)))
   (Ya (QtA (Qnr hr) (pv 3) (pv 6) (pe_op op_add (Qpj (Qnr hr) (pv 3) (pv 6) pe_int ⟨rfl,rfl,rfl,rfl⟩) (Qmw (Qnr hr) (pv 1) (pv 4) (λ_ _=>rfl))) rfl))) QbD)))))
   (Ya (Qa7 (i:=1) Qbg.nd rfl (by first | exact QZ rfl | exact QV rfl) (pv 3))))))
   (Zs (Qa7 (i:=7) Qbg.nd rfl (by first | exact QZ rfl | exact QV rfl) (pe_op op_repW (pe_lstW (pa_c pe_int pa_nil)) (pe_op op_add (pe_callB (call_min2 rfl) (by rfl) T.min bt_min (pa_cons (pe_ix ix_tup (pv 0) pe_int (λ_ _=>rfl)) (pa_cons (pe_ix ix_tup (pv 0) pe_int (λ_ _=>rfl)) pa_nil))) pe_int)))
   (Zs (Qfg Je rfl (Qmr (pv 1)) (Qbj (i:=4) Qbg.nd rfl (by first | exact QZ rfl | exact QV rfl))
    (Ya (Qmp (pe_op op_add (pe_ix Qev (pv 7) (pe_callB Yo (by rfl) T.len Qce (pa_cons (pv 4) pa_nil)) (λ_ _=>rfl)) (Qmw (Qnr hr) (pv 1) (pv 4) (λ_ _=>rfl))) (Qsa (pv 7) (pe_callB Yo (by rfl) T.len Qce (pa_cons (pv 4) pa_nil)) QfY))))
   (Ya (Qaw (pv 7)))))),?_⟩
  refine Qvj (u:=(A.deeper (envOfC "_law_counts" (QD Qcb) s.heap.objs.size _ cdv)).in1.units) ?_ h6 w6 (Bf.of hb) k
  show(A.deeper (envOfC "_law_counts" (QD Qcb) s.heap.objs.size _ cdv)).units+1+60<cLine;omega
end
theorem QzI(h w:Int)(cs:List (Int×Int)):nd (bdD h w cs)=true:=by
 show(true&&(true&&(nds (cs.map pairD)&&true)))=true;rw[Qbv];rfl
def QuK:DF:=λargs R _=>∃(h w:Nat)(f:Nat->Nat->Bool),args=[.v (bdD h w (cellsF h w f))]/\h<=6/\w<=6/\R (.list ((cIw f h w).map Qp))
theorem QAc{vs:List V}{H:Hp}{Q:VK}{Ex:XK}(h:ZP true QuK vs H Q Ex):QrR vs H Q Ex:=by
 obtain⟨A,pt,args,R,EX,dm,hp,q,⟨hh,w,f,rfl,h6,w6,hR⟩,k,_⟩:=h;cases q with
 |cons q1 q2=>
  cases q2;cases q1 with
  |@tup b xs ds nb e qq=>
   refine⟨b,hh,w,f,rfl,Qfy _ _ (QzI _ _ _) (DA.tup nb e qq),h6,w6,λt H' s n e'=>k _ hR _ H' ⟨λb o _ e=>s _ _ e,λp pp=>?_⟩ (QdJ dm s n e' (Qd9 _)) λ_=>QaH n⟩;obtain⟨_,m,em⟩:=hp p pp;exact⟨m,s _ _ em⟩
theorem QmJ{a:List Int}{i:Nat}(h:i<a.length+6):(a.map Qp++(QL 6 [Qp 0]).flatten)[i]? = some (.int (a.getD i 0)):=by
 by_cases z:i<a.length
 ·rw[Yn (by rw[Qa];exact z),Qo,Qi,Qe z];rfl
 ·rw[JS (by rw[Qa];omega),Qa,Qgn (by omega)];obtain⟨k,hk⟩:∃k,i - a.length=k:=⟨_,rfl⟩
  rw[hk];have hk6:k<6:=by omega
  match k,hk6 with
  |0,_=>rfl
  |1,_=>rfl
  |2,_=>rfl
  |3,_=>rfl
  |4,_=>rfl
  |5,_=>rfl
theorem QvV{a b:List Int}{i:Nat}(i7:i<7)(hno:∀k,k<i->a.getD k 0=b.getD k 0)(z:¬a.getD i 0=b.getD i 0):Qkt a b 7=some i:=by
 unfold Qkt;have sp:Qf 7=Qf i++i::(Qf (6 - i)).map (·+(i+1)):=by
  rw[show 7=i+((6 - i)+1) by omega,QvO,Qkl,Js,QH]
  congr 2
  refine Q9 λk _=>?_
  show i+(k+1)=k+(i+1);omega
 rw[sp,QrA,Yj.mpr λk hk=>by rw[hno k (Qz.mp hk)];simp,QaD (by simpa using z)];rfl
theorem Qi0(f:Nat->Nat->Bool)(h w:Nat):(cIs f h w).length=min h w+1:=by unfold cIs;rw[Qa,Qr]
section
variable{P:Qy}{w:Jc}{K:PySem.W.Frag}{mg:Str->Option Value}{base:Heap}
theorem Qc1:JV ["_law_one", "_law_other_here", "_law_way", "_law_mine", "_law_theirs", "_law_size"] ["_law_one", "_law_other_here"] (QD QkY):=⟨rfl,rfl,rfl,by decide +kernel,rfl,by decide +kernel,by decide +kernel⟩
theorem QpE{f f1 f2 f3  : Addr}{fd fd1 fd2 fd3:Q6}(F:Fun K "_law_told_of" "_law_told_of" QkY f fd)(T:GlbA mg)
  (m1:mg "_law_first" = some (.ref f1))(G1:FnOk P w K mg base CX0 2 f1 fd1 ["_law_one", "_law_other_here"] (ZP false Qk5))(b1:Binds K fd1 ["_law_one", "_law_other_here"] [])(k1:PySem.W.keepIn K (.ref f1)=true)
  (m2:mg "_law_turned" = some (.ref f2))(G2:FnOk P w K mg base CX0 2 f2 fd2 ["_law_board_here"] (ZP false Qil))(b2:Binds K fd2 ["_law_board_here"] [])(k2:PySem.W.keepIn K (.ref f2)=true)
  (m3:mg "_law_counts" = some (.ref f3))(G3:FnOk P w K mg base CX0 1 f3 fd3 ["_law_board_here"] (ZP true QuK))(b3:Binds K fd3 ["_law_board_here"] [])(k3:PySem.W.keepIn K (.ref f3)=true) :
  FnOk P w K mg base CX0 3 f fd ["_law_one", "_law_other_here"] (ZP false alD):=by
 refine okQ false F Qc1 (λargs R EX h=>?_) (λcdv A outer s H E hr=>?_)
 ·obtain⟨h,w,f,h2,w2,f2,rfl,_⟩:=h;rfl
 ·have hU:=Room.u60 hr;have hI:=Room.i60 hr;refine⟨_,QP (YF 2 (Yc G1 (hr.mono (by decide)) (by rfl) m1 k1 b1 Zw (Yt (qv 0) (Yt (qv 1) JT))) Qc1.nd)
   (QP (Qb4 (Yz Qer Qhi (qp 2) (JQ Qe2) (ZT _)) (Jl (Ym (Z7 (ZF Qf9 (ZF (qv 2) Q8))))) YE)
   (QP (YF 2 (Yc G1 (hr.mono (by decide)) (by rfl) m1 k1 b1 Zw (Yt (Yc G2 (hr.mono (by decide)) (by rfl) m2 k2 b2 Zw (Yt (qv 0) JT)) (Yt (qv 1) JT))) Qc1.nd)
   (QP (Qb4 (Yz Qer Qhi (qp 2) (JQ Qe2) (ZT _)) (Jl (Ym (Z7 (ZF Qf9 (ZF (qv 2) Q8))))) YE)
   (QP (Qwt 3 4 (ZF (q_toD (Qav Qag Qa8 (q_toPF (ZS G3 (hr.mono (by decide)) (by rfl) m3 k3 b3 Zw (Yt (qv 0) JT))) (q_toPF (Qav Qgh QjG (q_toPF (Qcy (ZF JE Q8))) (JQ JE))))) (ZF (q_toD (Qav Qag Qa8 (q_toPF (ZS G3 (hr.mono (by decide)) (by rfl) m3 k3 b3 Zw (Yt (qv 1) JT))) (q_toPF (Qav Qgh QjG (q_toPF (Qcy (ZF JE Q8))) (JQ JE))))) Q8)) Qc1.nd)
   (QP (QaK Je rfl (QaE (by rfl) T.range (JQ JE)) (ZR 5 Qc1.nd rfl (by first | exact QZ rfl | exact QV rfl))
    (Jl (Qb4 (Yz Qfk (QkO hU) (JQ (QcK ZU Y4 (qp 3) (qp 5) (λ_ _=>rfl))) (JQ (QcK ZU Y4 (qp 4) (qp 5) (λ_ _=>rfl))) (ZT _)) (Jl (Ym (Z7 (ZF Qf9 (ZF (qv 5) (ZF (QcK ZU Y4 (qp 3) (qp 5) (λ_ _=>rfl)) (ZF (QcK ZU Y4 (qp 4) (qp 5) (λ_ _=>rfl)) Q8))))))) YE)))
   (Jl (Ym (Z7 (ZF Qf9 Q8))))))))),λargs R EX h=>?_⟩
  obtain⟨h,w,f,h2,w2,f2,rfl,h6,w6,h26,w26,hR⟩:=h;refine⟨h,w,f,h2,w2,f2,rfl,h6,w6,h26,w26,?_⟩;unfold alV at hR;cases e:fwD h w f h2 w2 f2 with
  |some p=>
   rw[e] at hR;exact hR
  |none=>
   rw[e] at hR;refine⟨h,w,f,rfl,h6,w6,w,h,tF f,h2,w2,f2,rfl,w6,h6,h26,w26,?_⟩;cases e2:fwD w h (tF f) h2 w2 f2 with
   |some p=>
    rw[e2] at hR;exact hR
   |none=>
    rw[e2] at hR;have la:=Qi0 f h w;have lb:=Qi0 f2 h2 w2;have pa:∀i,i<7->((cIw f h w).map Qp++(QL (QgZ 6) [Qp 0]).flatten)[i]? = some (.int ((cIs f h w).getD i 0)):=λi hi=>QmJ (a:=cIs f h w) (by omega)
    have pb:∀i,i<7->((cIw f2 h2 w2).map Qp++(QL (QgZ 6) [Qp 0]).flatten)[i]? = some (.int ((cIs f2 h2 w2).getD i 0)):=λi hi=>QmJ (a:=cIs f2 h2 w2) (by omega)
    have lz:∀(g:Nat->Nat->Bool)(x y:Nat),x<=6->((cIw g x y).map Qp).length+(QL (QgZ 6) [Qp 0]).flatten.length<=1000000:=λg x y hx=>by
     rw[Qa,show(cIw g x y).length=min x y+1 from Qi0 g x y];show _+6<=_;omega
    refine⟨h,w,f,rfl,h6,w6,⟨by decide,by decide,by decide⟩,lz f h w h6,h2,w2,f2,rfl,h26,w26,⟨by decide,by decide,by decide⟩,lz f2 h2 w2 h26,⟨by decide,by decide⟩,?_⟩;generalize (cIw f h w).map Qp++(QL (QgZ 6) [Qp 0]).flatten=A at pa ⊢;generalize (cIw f2 h2 w2).map Qp++(QL (QgZ 6) [Qp 0]).flatten=B at pb ⊢;generalize cIs f h w=a at hR pa;generalize cIs f2 h2 w2=b at hR pb;refine QdB (λi δ=>∃x5,δ=[.v (bdD h w (cellsF h w f)),.v (bdD h2 w2 (cellsF h2 w2 f2)),.v .none,.v (.list A),.v (.list B),x5]/\∀k,k<i->a.getD k 0=b.getD k 0) ⟨_,rfl,λk hk=>by omega⟩ ?_ ?_
    ·rintro i δ hi ⟨x5,rfl,hno⟩;have i7:i<7:=hi;refine⟨.int (a.getD i 0),by rw[Zk];exact JU (pa i i7),.int (b.getD i 0),by rw[Zk];exact JU (pb i i7),?_⟩;refine ifC (λz=>?_) λz=>?_
     ·have z:¬a.getD i 0=b.getD i 0:=Qm2 z;refine⟨.int (a.getD i 0),by rw[Zk];exact JU (pa i i7),.int (b.getD i 0),by rw[Zk];exact JU (pb i i7),?_⟩;rw[QvV i7 hno z] at hR;have hR:R (.tuple [.str "counts",.int (i:Int),.int (a.getD i 0),.int (b.getD i 0)]):=hR;rw[<- Zk (i:Int)] at hR;exact hR
     ·have z:a.getD i 0=b.getD i 0:=QnN z;refine⟨_,rfl,λk hk=>?_⟩;by_cases y:k=i
      ·rw[y];exact z
      ·exact hno k (by omega)
    ·rintro δ ⟨x5,rfl,hno⟩;have e:Qkt a b 7=none:=by
      unfold Qkt;rw[Yj];intro k hk;rw[hno k (Qz.mp hk)];simp
     rw[e] at hR;exact hR
end
theorem QrX{α:Type}(x:α):∀n,(QL n [x]).flatten=QL n x
 |0=>rfl
 |n+1=>by rw[J5,ZY,QrX x n,J5];rfl
theorem Qnc(o:List Nat)(h w:Nat):(QL w [Qp 0]).flatten=Qlq o h w []:=by
 rw[QrX];unfold Qlq;refine J7 λk=>?_
 rw[ZW,Qo];by_cases hk:k<w
 ·rw[if_pos hk,Ja hk];rfl
 ·rw[if_neg hk,QN (by rw[Qr];omega)];rfl
theorem Qgj(o:List Nat)(h w:Nat)(l:List (Int×Int)):(Qlq o h w l).length=w:=by unfold Qlq;rw[Qa,Qr]
theorem QiE(o:List Nat)(h:Nat){w c:Nat}(l:List (Int×Int))(hc:c<w):(Qlq o h w l)[c]? = some (.int (mkS o h l c)):=by unfold Qlq;rw[Qo,Ja hc];rfl
theorem QuA(o:List Nat)(h w r c:Nat)(l:List (Int×Int)):(Qlq o h w l).set c (.int (mkS o h l c+1*2^(h - 1 - o.idxOf r)))=Qlq o h w (l++[((r:Int),(c:Int))]):=by
 refine J7 λk=>?_
 rw[QeO,Qgj];by_cases hk:k<w
 ·rw[QiE _ _ _ hk,QiE _ _ _ hk,QiF];have e1:mkS o h [((r:Int),(c:Int))] k=if(c:Int)=(k:Int) then(2:Int)^(h - 1 - o.idxOf r) else 0:=by
   show(if(c:Int)=(k:Int) then(2:Int)^(h - 1 - o.idxOf ((r:Int)).toNat) else 0)+0=_;rw[Qq];omega
  rw[e1];by_cases z:c=k
  ·subst z;rw[if_pos rfl,if_pos hk,if_pos rfl,QoC]
  ·rw[if_neg z,if_neg (by omega),YR]
 ·rw[QN (by rw[Qgj];omega),QN (by rw[Qgj];omega)];split<;>(try split)<;>first | rfl | omega
theorem QuB{h w:Nat}{f:Nat->Nat->Bool}{o:List Nat}(ho:o.Perm (Qf h)):Qlq o h w (cellsF h w f)=(Qlp f o w).map Qp:=by
 unfold Qlq Qlp;rw[QH];refine Q9 λc hc=>?_
 show Qp (mkS o h (cellsF h w f) c)=.int (QhW (QdM f o c));rw[QpQ ho (Qz.mp hc)]
theorem QjY{o:List Nat}{r:Nat}(h:r∈o):(o.map λ(x:Nat)=>(x:Int))[o.idxOf r]? = some (r:Int)/\∀m,m<o.idxOf r->(o.map λ(x:Nat)=>(x:Int))[m]? ≠ some (r:Int):=by
 have hl:=YN h;refine⟨?_,λm hm e=>?_⟩
 ·rw[Qo,Qe hl,Qoz hl];rfl
 ·rw[Qo,Qe (by omega)] at e;have e:=Qx e;have e:o[m]=r:=by have:((o[m]:Nat):Int)=(r:Int):=e;omega
  have:=List.not_of_lt_findIdx hm;rw[e] at this;simp at this
def Qyz(m:Int)(t:List Nat):PyData->Option PyData
 |.tuple [.int c,.int x]=>if(decide (x=m) && !decide (c.toNat∈t))=true then some (.int c) else none
 |_=>none
theorem Qrb(ms:List Int)(m:Int)(t:List Nat):(QdU (ms.map Qp)).filterMap (Qyz m t)=Yx ((Qf ms.length).filter λc=>decide (ms.getD c 0=m) && !decide (c∈t)):=by
 unfold QdU Yx;rw[Qa,Yk];refine Qk6 (p:=λc=>decide (ms.getD c 0=m) && !decide (c∈t)) λc hc=>?_
 have hc:=Qz.mp hc;have e:(ms.map Qp).getD c .none=.int (ms.getD c 0):=by
  rw[Qi,Qo,Qe hc,Qi,Qe hc];rfl
 show Qyz m t (.tuple [.int c,(ms.map Qp).getD c .none])=_;rw[e];show(if(decide (ms.getD c 0=m) && !decide (((c:Int)).toNat∈t))=true then some (Qp (c:Int)) else none)=_;rw[Qq]
theorem QpY(t:List Nat):Yx t=(t.map λ(y:Nat)=>(y:Int)).map Qp:=by unfold Yx;rw[QH];rfl
theorem QkP(t:List Nat):nds (Yx t)=true:=by rw[QpY];exact Qd8 _
theorem Qya(t:List Nat)(x:Nat):((Yx t).any λe=>Jf e (.int (x:Int)))=decide (x∈t):=by
 rw[QpY,Qoc];exact decide_eq_decide.mpr (by
  rw[Qs];constructor
  ·rintro⟨y,hy,e⟩;have e:(y:Int)=(x:Int):=e;rw[show x=y by omega];exact hy
  ·intro hx;exact⟨x,hx,rfl⟩)
theorem Qo8{mt:Nat->Nat->Bool}{w i n:Nat}(h:putN mt w i=none)(hn:i<=n):putN mt w n=none:=by
 obtain⟨k,rfl⟩:∃k,n=i+k:=⟨n - i,by omega⟩
 clear hn;induction k with
 |zero=>exact h
 |succ k ih=>
  show(putN mt w (i+k)).bind _=none;rw[ih];rfl
theorem Qgi(f:Nat->Nat->Bool)(o:List Nat)(w:Nat):(Qlp f o w).length=w:=by unfold Qlp;rw[Qa,Qr]
theorem Qnb{f:Nat->Nat->Bool}{o:List Nat}{w c:Nat}(h:c<w):(Qlp f o w).getD c 0=QhW (QdM f o c):=by
 unfold Qlp;rw[Qi,Qo,Ja h];rfl
theorem QwE{f f2:Nat->Nat->Bool}{h w:Nat}{o:List Nat}(ho:o.length=h):putN (λj c=>decide ((Qlp f o w).getD c 0=(Qlp f2 (Qf h) w).getD j 0)) w w=putN (mtF f f2 h o) w w:=by
 refine Qhd λj c hj hc=>?_
 rw[Qnb hc,Qnb hj];refine Qvm ?_
 unfold QdM;rw[Qa,Qa,Qr,ho]
section
variable{P:Qy}{w:Jc}{K:PySem.W.Frag}{mg:Str->Option Value}{base:Heap}
theorem Qen:JV ["board", "rows", "high", "wide", "cells", "marks", "row", "column"] ["board", "rows"] (QD Qfb):=⟨rfl,rfl,rfl,by decide +kernel,rfl,by decide +kernel,by decide +kernel⟩
theorem Qxg{f   : Addr}{fd  : Q6}(F:Fun K "column_marks" "column_marks" Qfb f fd)(T:GlbA mg) :
  FnOk P w K mg base CX0 1 f fd ["board", "rows"] (ZP true QAd):=by
 refine okQ true F Qen (λargs R EX h=>?_) (λcdv A outer s H E hr=>?_)
 ·obtain⟨h,w,f,o,rfl,_⟩:=h;rfl
 ·have hU:=Room.u60 hr;have hI:=Room.i60 hr;refine⟨_,QP (Qju (qv 0) (QbO rfl (Zp 2 (Zp 3 (Zp 4 QbP Qen.nd rfl (by first | exact QZ rfl | exact QV rfl)) Qen.nd rfl (by first | exact QZ rfl | exact QV rfl)) Qen.nd rfl (by first | exact QZ rfl | exact QV rfl))))
   (QP (Qbh 5 (Qav Qgh QjG (q_toPF (Qcy (ZF JE Q8))) (qp 3)) Qen.nd)
   (QP (QaK Je rfl (qi_tup (qv 4)) (QbO rfl (Zp 6 (Zp 7 QbP Qen.nd rfl (by first | exact QZ rfl | exact QV rfl)) Qen.nd rfl (by first | exact QZ rfl | exact QV rfl)))
    (Jl (Qmm 5 Qsl Qm0 (qp 7) (q_toPF (Qav QjC QpI (JQ JE) (q_toPF (Qav QmM QjH (q_toPF (Qav QmM QjH (qp 2) (JQ JE))) (q_toPF (Qww (qp 1) (qp 6))))))))))
   (Jl (Qf8 5)))),λargs R EX h=>?_⟩
  obtain⟨h,w,f,o,rfl,h6,w6,ho,hR⟩:=h;refine⟨rfl,⟨by omega,by omega,by show 1*_<=_;omega⟩,?_⟩;rw[Qq,Qnc o h w];refine YV (λi δ=>∃x6 x7,δ=[.v (bdD h w (cellsF h w f)),.v (tNn o),.v (.int h),.v (.int w),.v (.tuple ((cellsF h w f).map pairD)),.own (Qlq o h w ((cellsF h w f).take i)),x6,x7]) ⟨_,_,rfl⟩ ?_ ?_
  ·rintro i d δ hd ⟨x6,x7,rfl⟩;rw[Qo] at hd;obtain⟨p,ep,rfl⟩:∃p,(cellsF h w f)[i]? = some p/\d=pairD p:=by
    cases e:(cellsF h w f)[i]? with
    |none=>rw[e] at hd;cases hd
    |some p=>rw[e] at hd;cases hd;exact⟨p,rfl,rfl⟩
   obtain⟨r,c,hr,hc,hf,rfl⟩:=Z6.mp (QJ ep);have mo:r∈o:=ho.mem_iff.mpr (Qz.mpr hr);obtain⟨i1,i2⟩:=QjY mo;have il:=YN mo;have ol:o.length=h:=by rw[ho.length_eq,Qr]
   refine⟨rfl,c,.int (mkS o h ((cellsF h w f).take i) c),QiL (by rw[Qgj];exact hc),QiE _ _ _ hc,o.map λ(x:Nat)=>(x:Int),(r:Int),o.idxOf r,by unfold Yx;rw[QH];rfl,rfl,i1,i2,⟨by omega,by omega,by decide⟩,.v (.int r),.v (.int c),?_⟩;have e1:((h:Int) - 1 - (o.idxOf r:Nat)).toNat=h - 1 - o.idxOf r:=by omega
   rw[JY,ep];show[Sl.v (bdD h w (cellsF h w f)),.v (tNn o),.v (.int h),.v (.int w),.v (.tuple ((cellsF h w f).map pairD)),.own ((Qlq o h w ((cellsF h w f).take i)).set c (.int (mkS o h ((cellsF h w f).take i) c+1*2^((h:Int) - 1 - (o.idxOf r:Nat)).toNat))),.v (.int r),.v (.int c)]=_;rw[e1,QuA];rfl
  ·rintro δ ⟨x6,x7,rfl⟩;rw[Qa,JW,QuB ho];exact hR
end
theorem QxC{h w:Nat}{f f2:Nat->Nat->Bool}{p:List Nat×List Nat}(e:fwN h w f f2=some p):p.1.length=h/\p.2.length=w:=by
 unfold fwN at e;obtain⟨o,ho,e⟩:=List.exists_of_findSome?_eq_some e
 cases q:putN (mtF f f2 h o) w w with
 |none=>rw[q] at e;cases e
 |some t=>
  rw[q] at e;cases e;exact⟨QbE ho,((Qeo (mtF f f2 h o) w w).1 t q).2⟩
theorem QnB{h w:Nat}{f:Nat->Nat->Bool}{h2 w2:Nat}{f2:Nat->Nat->Bool}{p:List Nat×List Nat}(e:fwD h w f h2 w2 f2=some p):p.1.length=h/\p.2.length=w:=by
 unfold fwD at e;split at e
 ·exact QxC e
 ·cases e
theorem Qsq{o:List Nat}(h:o.length<=1000)(n:Nat):QcO (n+1) (tNn o)=true:=by
 show(decide ((Yx o).length<=1000)&&(Yx o).all (QcO n))=true;rw[JK];refine⟨decide_eq_true (by unfold Yx;rw[Qa];exact h),Zi.mpr λd hd=>?_⟩;obtain⟨x,_,rfl⟩:=Qs.mp hd;cases n<;>rfl
theorem Qjf{s:Str}{o t:List Nat}(ho:o.length<=1000)(ht:t.length<=1000):nd (.tuple [.str s,.tuple [tNn o,tNn t]])=true/\QcO 3 (.tuple [.str s,.tuple [tNn o,tNn t]])=true:=by
 constructor
 ·show(true&&((nds (Yx o)&&(nds (Yx t)&&true))&&true))=true;rw[QkP,QkP];rfl
 ·show(true&&(true&&((true&&(QcO 1 (tNn o)&&(QcO 1 (tNn t)&&true)))&&true)))=true;rw[Qsq ho,Qsq ht];rfl
theorem Qod{h w:Nat}{f:Nat->Nat->Bool}{h2 w2:Nat}{f2:Nat->Nat->Bool}(h6:h<=6)(w6:w<=6):nd (alV h w f h2 w2 f2)=true/\QcO 3 (alV h w f h2 w2 f2)=true:=by
 unfold alV;cases e:fwD h w f h2 w2 f2 with
 |some p=>
  have:=QnB e;exact Qjf (by omega) (by omega)
 |none=>
  cases e2:fwD w h (tF f) h2 w2 f2 with
  |some p=>
   have:=QnB e2;exact Qjf (by omega) (by omega)
  |none=>
   show nd (Qyt _ _ (Qkt _ _ 7))=true/\QcO 3 (Qyt _ _ (Qkt _ _ 7))=true;cases Qkt (cIs f h w) (cIs f2 h2 w2) 7 with
   |none=>exact⟨rfl,rfl⟩
   |some k=>exact⟨rfl,rfl⟩
def g1(r c:Nat):Bool:=(r == 0&&c == 0)||(r == 0&&c == 1)||(r == 1&&c == 0)||(r == 2&&c == 2)
def g2(r c:Nat):Bool:=(r == 0&&c == 0)||(r == 0&&c == 1)||(r == 0&&c == 2)||(r == 1&&c == 3)
def g0(_ _:Nat):Bool:=false
theorem QxB:∃p,alV 2 1 g0 1 2 g0=.tuple [.str "turned",p]:=⟨_,rfl⟩
section
variable{P:Qy}{w:Jc}{K:PySem.W.Frag}{mg:Str->Option Value}{base:Heap}
theorem Qc3:JV ["_law_script", "_law_at", "_law_pot_here", "_law_most", "_law_board_here", "_law_other_here", "_law_due", "_law_one"] ["_law_script"] (QD sLaw):=⟨rfl,rfl,rfl,by decide +kernel,rfl,by decide +kernel,by decide +kernel⟩
theorem Qxe{f f1 f2 f3 f4 f5 f6 f7 f8  : Addr}{fd fd1 fd2 fd3 fd4 fd5 fd6 fd7 fd8:Q6}(F:Fun K "law" "law" sLaw f fd)(T:GlbA mg)
  (m1:mg "_law_cell_at" = some (.ref f1))(G1:FnOk P w K mg base CX0 1 f1 fd1 ["_law_script", "_law_k"] (Qc0 K))(b1:Binds K fd1 ["_law_script", "_law_k"] [])(k1:PySem.W.keepIn K (.ref f1)=true)
  (m2:mg "_law_pot" = some (.ref f2))(G2:FnOk P w K mg base CX0 1 f2 fd2 ["_law_cell"] (ZP true Qzu))(b2:Binds K fd2 ["_law_cell"] [])(k2:PySem.W.keepIn K (.ref f2)=true)
  (m3:mg "_law_take" = some (.ref f3))(G3:FnOk P w K mg base CX0 1 f3 fd3 ["_law_pot_here", "_law_far"] (ZP true QlU))(b3:Binds K fd3 ["_law_pot_here", "_law_far"] [])(k3:PySem.W.keepIn K (.ref f3)=true)
  (m4:mg "_law_board" = some (.ref f4))(G4:FnOk P w K mg base CX0 2 f4 fd4 ["_law_pot_here", "_law_high", "_law_wide"] (ZP false Qyy))(b4:Binds K fd4 ["_law_pot_here", "_law_high", "_law_wide"] [])(k4:PySem.W.keepIn K (.ref f4)=true)
  (m5:mg "_law_other" = some (.ref f5))(G5:FnOk P w K mg base CX0 3 f5 fd5 ["_law_pot_here", "_law_board_here"] (ZP false QuE))(b5:Binds K fd5 ["_law_pot_here", "_law_board_here"] [])(k5:PySem.W.keepIn K (.ref f5)=true)
  (m6:mg "_law_told_of" = some (.ref f6))(G6:FnOk P w K mg base CX0 3 f6 fd6 ["_law_one", "_law_other_here"] (ZP false alD))(b6:Binds K fd6 ["_law_one", "_law_other_here"] [])(k6:PySem.W.keepIn K (.ref f6)=true)
  (m7:mg "alike" = some (.ref f7))(G7:FnOk P w K mg base CX0 4 f7 fd7 ["one", "other"] (ZP false alD))(b7:Binds K fd7 ["one", "other"] [])(k7:PySem.W.keepIn K (.ref f7)=true)
  (m8:mg "_law_same" = some (.ref f8))(G8:FnOk P w K mg base CX0 5 f8 fd8 ["_law_found", "_law_due"] (ZP false (Qti 3)))(b8:Binds K fd8 ["_law_found", "_law_due"] [])(k8:PySem.W.keepIn K (.ref f8)=true) :
  FnOk P w K mg base CX0 6 f fd ["_law_script"] (Qe8 K):=by
 refine QBn F Qc3 (λcdv A outer s H E hr=>?_);have hU:=Room.u60 hr;have hI:=Room.i60 hr;refine⟨_,QP (QaK Je rfl (QaE (by rfl) T.range (q_toPF (Qbi (QhO rfl) Qn0 (by rfl) T.max QsB (qa_P (JQ JE) (qa_P (q_toPF (Qbi (call_min2 rfl) QnZ (by rfl) T.min bt_min (qa_P (q_toPF (Qwy 0 (by rfl) T.len)) (qa_P (JQ JE) Q8)))) Q8))))) (ZR 1 Qc3.nd rfl (by first | exact QZ rfl | exact QV rfl))
    (QP (Qtt 2 (ZS G2 (hr.mono (by decide)) (by rfl) m2 k2 b2 Zw (Yt (q_toD (QwA 0 G1 (hr.mono (by decide)) (by rfl) m1 k1 b1 (qp 1))) JT)) Qc3.nd)
   (QP (YF 3 (QcK ZU Y4 (q_toPF (Qcy (ZF JE (ZF JE (ZF JE Q8))))) (q_toPF (ZS G3 (hr.mono (by decide)) (by rfl) m3 k3 b3 Zw (QaJ 2 (Yt JE JT)))) (λ_ _=>rfl)) Qc3.nd)
   (QP (YF 4 (Yc G4 (hr.mono (by decide)) (by rfl) m4 k4 b4 Zw (QaJ 2 (Yt (q_toD (Qav Qag Qa8 (JQ JE) (q_toPF (ZS G3 (hr.mono (by decide)) (by rfl) m3 k3 b3 Zw (QaJ 2 (Yt (qv 3) JT)))))) (Yt (q_toD (Qav Qag Qa8 (JQ JE) (q_toPF (ZS G3 (hr.mono (by decide)) (by rfl) m3 k3 b3 Zw (QaJ 2 (Yt (qv 3) JT)))))) JT)))) Qc3.nd)
   (QP (YF 5 (Yc G5 (hr.mono (by decide)) (by rfl) m5 k5 b5 Zw (QaJ 2 (Yt (qv 4) JT))) Qc3.nd)
   (QP (YF 6 (Yc G6 (hr.mono (by decide)) (by rfl) m6 k6 b6 Zw (Yt (qv 4) (Yt (qv 5) JT))) Qc3.nd)
   (Jl (Qb4 (Qzp (Qzo (Qjt (Qr2 (q_toPF (Qga G8 (hr.mono (by decide)) (by rfl) m8 k8 b8 Zw (qa_P (JQ (Yc G7 (hr.mono (by decide)) (by rfl) m7 k7 b7 Zw (Yt (qv 4) (Yt (qv 5) JT)))) (qa_P (qp 6) Q8)))))) (Qwr (Qjt (Qr2 (q_toPF (Qga G8 (hr.mono (by decide)) (by rfl) m8 k8 b8 Zw (qa_P (JQ (Yc G7 (hr.mono (by decide)) (by rfl) m7 k7 b7 Zw (Yt (qv 4) (Yt (qv 5) JT)))) (qa_P (qp 6) Q8))))))))) (Jl (Qa6 QBm)) YE))))))))
   (QP (YF 7 (q_toD (Z7 (ZF JE (ZF JE (ZF (q_toD (Z7 (ZF (q_toD (Z7 (ZF JE (ZF JE Q8)))) (ZF (q_toD (Z7 (ZF JE (ZF JE Q8)))) (ZF (q_toD (Z7 (ZF JE (ZF JE Q8)))) (ZF (q_toD (Z7 (ZF JE (ZF JE Q8)))) Q8)))))) Q8))))) Qc3.nd)
   (QP (YF 5 (q_toD (Z7 (ZF JE (ZF JE (ZF (q_toD (Z7 (ZF (q_toD (Z7 (ZF JE (ZF JE Q8)))) (ZF (q_toD (Z7 (ZF JE (ZF JE Q8)))) (ZF (q_toD (Z7 (ZF JE (ZF JE Q8)))) (ZF (q_toD (Z7 (ZF JE (ZF JE Q8)))) Q8)))))) Q8))))) Qc3.nd)
   (Jl (Qa6 (QwB (q_toPF (Qga G8 (hr.mono (by decide)) (by rfl) m8 k8 b8 Zw (qa_P (JQ (Yc G7 (hr.mono (by decide)) (by rfl) m7 k7 b7 Zw (Yt (qv 7) (Yt (qv 5) JT)))) (qa_P (JQ (Yc G6 (hr.mono (by decide)) (by rfl) m6 k6 b6 Zw (Yt (qv 7) (Yt (qv 5) JT)))) Q8)))) (Qwx (q_toD (Qwz QdI (Qhj hU) (JQ (QcK ZU Y4 (JQ (Yc G7 (hr.mono (by decide)) (by rfl) m7 k7 b7 Zw (Yt (q_toD (Z7 (ZF JE (ZF JE (ZF (q_toD (Z7 Q8)) Q8))))) (Yt (q_toD (Z7 (ZF JE (ZF JE (ZF (q_toD (Z7 Q8)) Q8))))) JT)))) (JQ JE) (λ_ _=>rfl))) (JQ Qf9) (ZT _))))))))),?_⟩
 intro n0 n63;refine⟨⟨by split<;>split<;>omega,by split<;>split<;>omega⟩,QdB (λi δ=>∃x1 x2 x3 x4 x5 x6 x7,δ=[.scr,x1,x2,x3,x4,x5,x6,x7]) ⟨_,_,_,_,_,_,_,rfl⟩ ?_ ?_⟩
 ·rintro i δ hi ⟨x1,x2,x3,x4,x5,x6,x7,rfl⟩;refine⟨by omega,λc=>⟨c,rfl,λn1=>?_⟩⟩;refine⟨_,rfl,by decide,by decide,λa a0 a1=>QzL a0 a1 λd hd=>?_⟩;obtain⟨m,rfl,m4,m6⟩:=Qi5 (p:=λd=>∃m:Int,d=.int m/\4<=m/\m<=6) ⟨4,rfl,by decide,by decide⟩ (Qi5 ⟨4,rfl,by decide,by decide⟩ (Qi5 ⟨6,rfl,by decide,by decide⟩ Qyc)) d hd;refine⟨_,rfl,by omega,by omega,λb b0 b1=>⟨_,rfl,by omega,by omega,λc c0 c1=>?_⟩⟩;obtain⟨h,hh⟩:∃x:Nat,1+b=(x:Int):=⟨(1+b).toNat,by omega⟩
  obtain⟨w,hw⟩:∃y:Nat,1+c=(y:Int):=⟨(1+c).toNat,by omega⟩
  refine⟨h,w,by rw[<- hh,<- hw],by omega,by omega,λf=>?_⟩;refine⟨h,w,f,rfl,by omega,by omega,by omega,by omega,λh2 w2 f2 h21 h26 w21 w26=>?_⟩;refine⟨h,w,f,h2,w2,f2,rfl,by omega,by omega,h26,w26,?_⟩;obtain⟨fl1,fl2⟩:=Qod (h:=h) (w:=w) (f:=f) (h2:=h2) (w2:=w2) (f2:=f2) (by omega) (by omega);refine⟨h,w,f,h2,w2,f2,rfl,by omega,by omega,h26,w26,⟨_,rfl,fl1,fl2,rfl,?_⟩⟩;refine⟨h,w,f,h2,w2,f2,rfl,by omega,by omega,h26,w26,⟨_,rfl,fl1,fl2,rfl,?_⟩⟩;exact⟨_,_,_,_,_,_,_,rfl⟩
 ·rintro δ ⟨x1,x2,x3,x4,x5,x6,x7,rfl⟩;obtain⟨fl1,fl2⟩:=Qod (h:=4) (w:=4) (f:=g1) (h2:=4) (w2:=4) (f2:=g2) (by decide) (by decide);refine⟨4,4,g1,4,4,g2,rfl,by decide,by decide,by decide,by decide,4,4,g1,4,4,g2,rfl,by decide,by decide,by decide,by decide,⟨_,rfl,fl1,fl2,rfl,?_⟩⟩;obtain⟨p,ep⟩:=QxB;refine⟨2,1,g0,1,2,g0,rfl,by decide,by decide,by decide,by decide,?_⟩;rw[ep];refine⟨_,JU (j:=0) rfl,?_⟩;rfl
end
def Qnh:DF:=λargs R _=>∃(h w:Nat)(f:Nat->Nat->Bool)(o:List Nat),args=[.v (bdD h w (cellsF h w f)),.v (tNn o)]/\h<=6/\w<=6/\(∀x∈o,x<h)/\o.length<=6/\R (.list ((Qf w).map λc=>.tuple ((QdM f o c).map Ji)))
theorem QzJ{h w:Nat}{f:Nat->Nat->Bool}{r c:Nat}(hr:r<h)(hc:c<w):decide (((r:Int),(c:Int))∈cellsF h w f)=f r c:=by
 rw[Ze,decide_eq_true_eq,Z6];constructor
 ·rintro⟨r',c',_,_,hf,e⟩;have e1:(r:Int)=(r':Int):=(Qa1 e).1;have e2:(c:Int)=(c':Int):=(Qa1 e).2;rw[show r=r' by omega,show c=c' by omega];exact hf
 ·intro hf;exact⟨r,c,hr,hc,hf,rfl⟩
theorem Qho(l:List Bool):nds (l.map Ji)=true:=QiD.mpr λd hd=>by obtain⟨b,_,rfl⟩:=Qs.mp hd;rfl
theorem QiQ(l:List Bool):(Jz (l.map Ji)).depth<=50:=by
 show Qa3 (l.map Ji)+1<=50;have:=QeD (n:=0) (ds:=l.map Ji) λd hd=>by obtain⟨p,_,rfl⟩:=Qs.mp hd;exact Qg _
 omega
section
variable{P:Qy}{w:Jc}{K:PySem.W.Frag}{mg:Str->Option Value}{base:Heap}
theorem Qm7:(["_law_column", "_law_board_here", "_law_rows"]:List Str).Nodup:=by decide +kernel
theorem Qm6:(["_law_row", "_law_board_here", "_law_column"]:List Str).Nodup:=by decide +kernel
theorem QoV:JV ["_law_board_here", "_law_rows"] ["_law_board_here", "_law_rows"] (QD Qk1):=⟨rfl,rfl,rfl,by decide +kernel,rfl,by decide +kernel,by decide +kernel⟩
theorem QpG{f   : Addr}{fd  : Q6}(F:Fun K "_law_columns" "_law_columns" Qk1 f fd)(T:GlbA mg) :
  FnOk P w K mg base CX0 1 f fd ["_law_board_here", "_law_rows"] (ZP true Qnh):=by
 refine okQ true F QoV (λargs R EX h=>?_) (λcdv A outer s H E hr=>?_)
 ·obtain⟨h,w,f,o,rfl,_⟩:=h;rfl
 ·have hU:=Room.u60 hr;have hI:=Room.i60 hr;refine⟨_,Jl (Ym (Qtv ["_law_column", "_law_board_here", "_law_rows"] [none,some 0,some 1] (QaE (by rfl) T.range (JQ (QcK ZU Y4 (qp 0) (JQ JE) (λ_ _=>rfl)))) (λcl ex s3 H3 C=>⟨(ZR 0 Qm7 rfl (by first | exact QZ rfl | exact QV rfl) (by first | exact QZ rfl | exact QV rfl)),qts_nil,(q_toD (q_callTy call_tuple_ofW cd_tuple (by rfl) T.tuple bt_tuple (qa_P (q_toPF (q_comp ["_law_row", "_law_board_here", "_law_column"] [none,some 1,some 0] (qi_tup (qp 2)) (λcl ex s3 H3 C=>⟨(ZR 0 Qm6 rfl (QZ rfl) (QV rfl)),qts_nil,(q_toD (Qwz Qsi (Qm1 hI) (q_toPF (Z7 (ZF (qv 0) (ZF (qv 2) Q8)))) (JQ (QcK ZU Y4 (qp 1) (JQ JE) (λ_ _=>rfl))) (by rfl)))⟩))) Q8)))⟩))),λargs R EX h=>?_⟩;obtain⟨h,w,f,o,rfl,h6,w6,ho,ol,hR⟩:=h;refine⟨_,JU (j:=1) rfl,⟨by omega,by omega⟩,QfA (λd=>match d with | .int c=>.tuple ((QdM f o c.toNat).map Ji) | _=>.none) (λd hd k2 hk=>?_) ?_⟩
  ·obtain⟨c,hc⟩:=JR.mp hd;obtain⟨hcw,rfl⟩:=QcI hc;rw[Qq] at hcw;have hk:k2 (.tuple ((QdM f o (0+(c:Int)).toNat).map Ji)):=hk;rw[show(0+(c:Int)).toNat=c by omega] at hk;refine QfA (λd=>match d with | .int r=>.bool (f r.toNat c) | _=>.none) (λd hd k3 hk3=>?_) ?_
   ·obtain⟨r,hr,rfl⟩:=Qs.mp hd;have hrl:=ho r hr;have hk3:k3 (.bool (f ((r:Int)).toNat c)):=hk3;rw[Qq,<- QzJ (h:=h) (w:=w) (f:=f) (r:=r) (c:=c) hrl hcw] at hk3;refine⟨_,JU (j:=2) rfl,⟨Qbv _,rfl,QY (QcP ((r:Int),0+(c:Int))) (by decide)⟩,?_⟩;show k3 (.bool (((cellsF h w f).map pairD).any λe=>Jf e (pairD ((r:Int),0+(c:Int)))));rw[QeL,Zk];exact hk3
   ·have e:(Yx o).map (λd=>match d with | .int r=>Ji (f r.toNat c) | _=>.none)=(QdM f o c).map Ji:=by
     unfold Yx QdM;rw[QH,QH];refine Q9 λr _=>?_
     show Ji (f ((r:Int)).toNat c)=_;rw[Qq];rfl
    rw[e];exact hk
  ·have e:(Qff 0 ((w:Nat):Int).toNat).map (λd=>match d with | .int c=>Jz ((QdM f o c.toNat).map Ji) | _=>.none)=(Qf w).map λc=>Jz ((QdM f o c).map Ji):=by
    unfold Qff;rw[QH,Qq];refine Q9 λc _=>?_
    show Jz ((QdM f o (0+(c:Int)).toNat).map Ji)=_;rw[show(0+(c:Int)).toNat=c by omega]
   rw[e];exact hR
end
theorem QpT{mt:Nat->Nat->Bool}{w j c:Nat}{r:List Nat}(q:Qeb mt w j (lawN mt w j)=c::r):lawN mt w (j+1)=lawN mt w j++[c]:=by
 show(match Qeb mt w j (lawN mt w j) with | []=>lawN mt w j | c::_=>lawN mt w j++[c])=_;rw[q]
theorem QuL{mt:Nat->Nat->Bool}{w j:Nat}(q:Qeb mt w j (lawN mt w j)=[]):lawN mt w (j+1)=lawN mt w j:=by
 show(match Qeb mt w j (lawN mt w j) with | []=>lawN mt w j | c::_=>lawN mt w j++[c])=_;rw[q]
theorem QBy(p:Nat->Bool)(l:List Nat):(Yx l).filterMap (λd=>match d with | .int c=>if p c.toNat=true then some d else none | _=>none)=Yx (l.filter p):=by
 unfold Yx;rw[Yk];refine Qk6 (p:=p) λx _=>?_
 show(if p ((x:Int)).toNat=true then some (Qp (x:Int)) else none)=_;rw[Qq]
theorem QsF(t:List Nat)(c:Nat):Yx (t++[c])=Yx t++[.int (c:Int)]:=by unfold Yx;rw[Q3];rfl
theorem Qzh{w c:Nat}{t:List Nat}(h:c∈oth w t):(((oth w t).map λ(x:Nat)=>(x:Int)).eraseIdx ((oth w t).idxOf c)).map Qp=Yx (oth w (t++[c])):=by
 have nd:(oth w t).Nodup:=YC.filter _;have hl:=YN h;have g:(oth w t)[(oth w t).idxOf c]? = some c:=by rw[Qe hl,Qoz hl]
 have e1:∀(l:List Nat)(i:Nat),(l.map λ(x:Nat)=>(x:Int)).eraseIdx i=(l.eraseIdx i).map λ(x:Nat)=>(x:Int):=λl i=>by
  rw[ZB,ZB,Q3,Qa5,QdX]
 rw[e1,QhB nd g,Qub,QpY]
theorem QhF:(YI []).depth<=50:=by show 0+1<=50;decide
theorem Qra{α β:Type}(g:α->List β)(l:List α)(j:Nat):((l.take j).flatMap g).length<=(l.flatMap g).length:=by
 conv=>rhs;rw[<- Yi j l,Z3,Qw]
 omega
section
variable{P:Qy}{w:Jc}{K:PySem.W.Frag}{mg:Str->Option Value}{base:Heap}
theorem Qm4:(["_law_one", "_law_row"]:List Str).Nodup:=by decide +kernel
theorem Qcj:JV ["_law_many", "_law_found", "_law_turn", "_law_longer", "_law_row"] ["_law_many"] (QD Qdx):=⟨rfl,rfl,rfl,by decide +kernel,rfl,by decide +kernel,by decide +kernel⟩
theorem QpF{f   : Addr}{fd  : Q6}(F:Fun K "_law_orders" "_law_orders" Qdx f fd)(T:GlbA mg) :
  FnOk P w K mg base CX0 1 f fd ["_law_many"] (ZP false QkL):=by
 refine okQ false F Qcj (λargs R EX h=>?_) (λcdv A outer s H E hr=>?_)
 ·obtain⟨n,rfl,_⟩:=h;rfl
 ·have hU:=Room.u60 hr;have hI:=Room.i60 hr;refine⟨_,QP (YF 1 (q_toD (Qcy (ZF (q_toD (Z7 Q8)) Q8))) Qcj.nd)
   (QP (QaK Je rfl (QaE (by rfl) T.range (qp 0)) (ZR 2 Qcj.nd rfl (by first | exact QZ rfl | exact QV rfl))
    (QP (Qbh 3 (Qcy Q8) Qcj.nd)
   (QP (QaK Je rfl (QbC (qv 1)) (ZR 4 Qcj.nd rfl (by first | exact QZ rfl | exact QV rfl))
    (Jl (Qmj 3 (q_toPF (q_comp ["_law_one", "_law_row"] [none,some 4] (QaE (by rfl) T.range (qp 0)) (λcl ex s3 H3 C=>⟨(ZR 0 Qm4 rfl (QZ rfl) (QV rfl)),(QcJ (Yz Qeq (Qm1 hI) (qp 0) (qp 1) (by rfl))),(q_toD (Qav Qag Qa8 (qp 1) (q_toPF (Z7 (ZF (qv 0) Q8)))))⟩))))))
   (Jl (Qwv [3] (YF 1 (qv 3) Qcj.nd))))))
   (Jl (Qa6 (qv 1)))),λargs R EX h=>?_⟩
  obtain⟨n,rfl,n6,hR⟩:=h;refine⟨⟨by omega,by omega⟩,QdB (λi δ=>∃x2 x3 x4,δ=[.v (.int n),.v (.list ((ordsN n i).map tNn)),x2,x3,x4]) ⟨_,_,_,rfl⟩ ?_ ?_⟩
  ·rintro i δ hi ⟨x2,x3,x4,rfl⟩;rw[Qq] at hi;have fw:=QjB n6 (i+1) (by omega);refine YV (λj δ=>∃x4,δ=[.v (.int n),.v (.list ((ordsN n i).map tNn)),.v (.int (0+(i:Int))),.own ((((ordsN n i).take j).flatMap λo=>(oth n o).map λx=>o++[x]).map tNn),x4]) ⟨_,rfl⟩ ?_ ?_
   ·rintro j d δ hd ⟨x4,rfl⟩;rw[Qo] at hd;obtain⟨o,eo,rfl⟩:∃o,(ordsN n i)[j]? = some o/\d=tNn o:=by
     cases e:(ordsN n i)[j]? with
     |none=>rw[e] at hd;cases hd
     |some p=>rw[e] at hd;cases hd;exact⟨p,rfl,rfl⟩
    have lo:=QbE (QJ eo);have l1:(Yx o).length=o.length:=by unfold Yx;exact Qa _
    refine⟨⟨by omega,by omega⟩,Qk8 (λd=>match d with | .int x=>if(!decide (x.toNat∈o))=true then some (tNn (o++[x.toNat])) else none | _=>none) (λd hd k1 k2 h1 h2=>?_) ?_⟩
    ·obtain⟨x,hx⟩:=JR.mp hd;obtain⟨hx,rfl⟩:=QcI hx;have h1:(if(!decide ((0+(x:Int)).toNat∈o))=true then some (tNn (o++[(0+(x:Int)).toNat])) else none)=none->k1:=h1;have h2:∀e,(if(!decide ((0+(x:Int)).toNat∈o))=true then some (tNn (o++[(0+(x:Int)).toNat])) else none)=some e->k2 e:=h2
     rw[show(0+(x:Int)).toNat=x by omega] at h1 h2;refine⟨⟨QkP o,rfl,by show J8 (.int _)<=50;unfold J8;decide⟩,?_⟩;show if(!(Yx o).any λe=>Jf e (.int (0+(x:Int))))=true then _ else k1
     rw[Zk,Qya];by_cases z:(!decide (x∈o))=true
     ·rw[if_pos z];refine⟨by rw[l1];show _+1<=_;omega,?_⟩;have:=h2 _ (if_pos z);rw[show tNn (o++[x])=.tuple (Yx o++[.int (x:Int)]) by unfold tNn;rw[QsF]] at this;exact this
     ·rw[if_neg z];exact h1 (if_neg z)
    ·have er:(Qff 0 ((n:Nat):Int).toNat).filterMap (λd=>match d with | .int x=>if(!decide (x.toNat∈o))=true then some (tNn (o++[x.toNat])) else none | _=>none)=((oth n o).map λx=>o++[x]).map tNn:=by
      unfold Qff oth;rw[Qq,Yk,QH];refine Qk6 (p:=λx => !decide (x∈o)) λx _=>?_
      show(if(!decide ((0+(x:Int)).toNat∈o))=true then some (tNn (o++[(0+(x:Int)).toNat])) else none)=_;rw[show(0+(x:Int)).toNat=x by omega];rfl
     rw[er];have e2:((ordsN n i).take (j+1)).flatMap (λo=>(oth n o).map λx=>o++[x])=((ordsN n i).take j).flatMap (λo=>(oth n o).map λx=>o++[x])++(oth n o).map λx=>o++[x]:=by
      rw[JY,eo,Z3]
      congr 1
      show[o].flatMap _=_;rw[Qko]
     refine⟨?_,.v (tNn o),?_⟩
     ·have:=Qra (λo=>(oth n o).map λx=>o++[x]) (ordsN n i) (j+1);rw[e2,Qw] at this;rw[Qa,Qa];have e3:(ordsN n (i+1)).length=((ordsN n i).flatMap λo=>(oth n o).map λx=>o++[x]).length:=rfl;omega
     ·rw[e2,Q3];rfl
   ·rintro δ ⟨x4,rfl⟩;rw[Qa,JW];exact⟨_,_,_,rfl⟩
  ·rintro δ ⟨x2,x3,x4,rfl⟩;rw[Qq];exact hR
theorem QkR:(["_law_column", "_law_goal", "_law_own"]:List Str).Nodup:=by decide +kernel
theorem Qau:JV ["_law_one", "_law_other_here", "_law_goals", "_law_rows", "_law_own", "_law_left", "_law_columns_here", "_law_goal", "_law_some"] ["_law_one", "_law_other_here"] (QD Qfr):=⟨rfl,rfl,rfl,by decide +kernel,rfl,by decide +kernel,by decide +kernel⟩
theorem QmV{f f1 f2  : Addr}{fd fd1 fd2:Q6}(F:Fun K "_law_first" "_law_first" Qfr f fd)(T:GlbA mg)
  (m1:mg "_law_columns" = some (.ref f1))(G1:FnOk P w K mg base CX0 1 f1 fd1 ["_law_board_here", "_law_rows"] (ZP true Qnh))(b1:Binds K fd1 ["_law_board_here", "_law_rows"] [])(k1:PySem.W.keepIn K (.ref f1)=true)
  (m2:mg "_law_orders" = some (.ref f2))(G2:FnOk P w K mg base CX0 1 f2 fd2 ["_law_many"] (ZP false QkL))(b2:Binds K fd2 ["_law_many"] [])(k2:PySem.W.keepIn K (.ref f2)=true) :
  FnOk P w K mg base CX0 2 f fd ["_law_one", "_law_other_here"] (ZP false Qk5):=by
 refine okQ false F Qau (λargs R EX h=>?_) (λcdv A outer s H E hr=>?_)
 ·obtain⟨h,w,f,h2,w2,f2,rfl,_⟩:=h;rfl
 ·have hU:=Room.u60 hr;have hI:=Room.i60 hr;refine⟨_,QP (Qb4 (Yz Qfk (QkO hU) (q_toPF (Qb7 (qp 0) Qb6 (Qb5 (JQ JE)))) (q_toPF (Qb7 (qp 1) Qb6 (Qb5 (JQ JE)))) (ZT _)) (Jl (Qa6 Qe2)) YE)
   (QP (YF 2 (q_toD (ZS G1 (hr.mono (by decide)) (by rfl) m1 k1 b1 Zw (Yt (qv 1) (Yt (q_toD (Qjx (by rfl) T.tuple (by rfl) T.range (JQ (QcK ZU Y4 (qp 1) (JQ JE) (λ_ _=>rfl))))) JT)))) Qau.nd)
   (QP (QaK Je rfl (QbC (Yc G2 (hr.mono (by decide)) (by rfl) m2 k2 b2 Zw (Yt (QcK ZU Y4 (qp 0) (JQ JE) (λ_ _=>rfl)) JT))) (ZR 3 Qau.nd rfl (by first | exact QZ rfl | exact QV rfl))
    (QP (YF 4 (q_toD (ZS G1 (hr.mono (by decide)) (by rfl) m1 k1 b1 Zw (Yt (qv 0) (Yt (qv 3) JT)))) Qau.nd)
   (QP (Qbh 5 (Qo7 (by rfl) T.list (by rfl) T.range (JQ (QcK ZU Y4 (qp 0) (JQ JE) (λ_ _=>rfl)))) Qau.nd)
   (QP (Qbh 6 (Qcy Q8) Qau.nd)
   (QP (QaK Je rfl (QbC (qv 2)) (ZR 7 Qau.nd rfl (by first | exact QZ rfl | exact QV rfl))
    (QP (Qml ["_law_column", "_law_goal", "_law_own"] [none,some 7,some 4] 8 Qau.nd (QbC (qp 5)) (λcl ex s3 H3 C=>⟨(ZR 0 QkR rfl (QZ rfl) (QV rfl)),(QcJ (Yz QdI (Qhj hU) (JQ (QcK ZU Y4 (qp 2) (qp 0) (λ_ _=>rfl))) (qp 1) (ZT _))),(qv 0)⟩))
   (Jl (Qb4 (Yz Qfk (QkO hU) (qp 8) (q_toPF (Qcy Q8)) (ZT _)) (QP (Qr4 6 (QcK ZU Y4 (qp 8) (JQ JE) (λ_ _=>rfl)))
   (Jl (Qws 5 (QcK ZU Y4 (qp 8) (JQ JE) (λ_ _=>rfl))))) YE))))
   (Jl (Qb4 (Yz QdI (Qhj hU) (qp 5) (q_toPF (Qcy Q8)) (ZT _)) (Jl (Ym (Z7 (ZF (qv 3) (ZF (q_toD (q_callTy call_tuple_ofW cd_tuple (by rfl) T.tuple bt_tuple (qa_P (qp 6) Q8))) Q8))))) YE)))))))
   (Jl (Qa6 Qe2)))),λargs R EX h=>?_⟩
  obtain⟨h,w,f,h2,w2,f2,rfl,h6,w6,h26,w26,hR⟩:=h;refine⟨⟨rfl,rfl,.inl (by show 1<=_;decide)⟩,?_⟩;refine ifC (λz=>?_) λz=>?_
  ·have z:(!(((h:Int) == h2)&&(((w:Int) == w2)&&true)))=true:=z;have hne:¬(h=h2/\w=w2):=λq=>by
    rw[q.1,q.2] at z;simp at z
   unfold fwD at hR;rw[if_neg hne] at hR;exact hR
  ·have z:(!(((h:Int) == h2)&&(((w:Int) == w2)&&true)))=false:=z;have hq:h=h2/\w=w2:=by
    simp at z;omega
   obtain⟨rfl,rfl⟩:=hq;unfold fwD at hR;rw[if_pos ⟨rfl,rfl⟩] at hR;refine⟨_,JU (j:=0) rfl,⟨by omega,by omega⟩,h,w,f2,Qf h,by rw[Qq];rfl,h6,w6,λx hx=>Qz.mp hx,by rw[Qr];exact h6,?_⟩;refine⟨_,JU (j:=0) rfl,h,rfl,h6,YV (λi δ=>∃x3 x4 x5 x6 x7 x8,δ=[.v (bdD h w (cellsF h w f)),.v (bdD h w (cellsF h w f2)),.v (.list ((Qf w).map λc=>Jz ((QdM f2 (Qf h) c).map Ji))),x3,x4,x5,x6,x7,x8]/\∀o∈(ordsN h h).take i,putN (mtF f f2 h o) w w=none) ⟨_,_,_,_,_,_,rfl,λo ho=>by simp at ho⟩ ?_ ?_⟩
   ·rintro i d δ hd ⟨x3,x4,x5,x6,x7,x8,rfl,hno⟩;rw[Qo] at hd;obtain⟨o,eo,rfl⟩:∃o,(ordsN h h)[i]? = some o/\d=tNn o:=by
     cases e:(ordsN h h)[i]? with
     |none=>rw[e] at hd;cases hd
     |some p=>rw[e] at hd;cases hd;exact⟨p,rfl,rfl⟩
    have mo:=QJ eo;have ol:=QbE mo;refine⟨h,w,f,o,rfl,h6,w6,Qiy mo,by omega,?_⟩;refine⟨_,JU (j:=1) rfl,⟨by omega,by omega⟩,?_⟩;rw[Qq];refine YV (λj δ=>∃x7 x8,δ=[.v (bdD h w (cellsF h w f)),.v (bdD h w (cellsF h w f2)),.v (.list ((Qf w).map λc=>Jz ((QdM f2 (Qf h) c).map Ji))),.v (tNn o),.v (.list ((Qf w).map λc=>Jz ((QdM f o c).map Ji))),.own (Yx (oth w (lawN (mtF f f2 h o) w j))),.own (Yx (lawN (mtF f f2 h o) w j)),x7,x8]) ⟨x7,x8,by rw[show lawN (mtF f f2 h o) w 0=[] from rfl,Quc];rfl⟩ ?_ ?_
    ·rintro j d δ hd ⟨x7,x8,rfl⟩;rw[Qo] at hd;have jw:j<w:=by
      by_cases y:j<w
      ·exact y
      ·rw[QN (by rw[Qr];omega)] at hd;cases hd
     rw[Ja jw] at hd;cases hd;generalize ht:lawN (mtF f f2 h o) w j=t;refine Qk8 (λd=>match d with | .int c=>if mtF f f2 h o j c.toNat=true then some d else none | _=>none) (λd hd k1 k2 h1 h2=>?_) ?_
     ·obtain⟨c,hc,rfl⟩:=Qs.mp hd;have cw:c<w:=Qz.mp (JB.mp hc).1;have h1:(if mtF f f2 h o j ((c:Int)).toNat=true then some (Qp (c:Int)) else none)=none->k1:=h1;have h2:∀e,(if mtF f f2 h o j ((c:Int)).toNat=true then some (Qp (c:Int)) else none)=some e->k2 e:=h2
      rw[Qq] at h1 h2;refine⟨.tuple ((QdM f o c).map Ji),JU (by rw[Qo,Ja cw];rfl),⟨Qho _,Qho _,.inl (QiQ _)⟩,?_⟩;show if Jf (.tuple ((QdM f o c).map Ji)) (.tuple ((QdM f2 (Qf h) j).map Ji))=true then k2 (.int (c:Int)) else k1
      rw[QhE,show decide (QdM f o c=QdM f2 (Qf h) j)=mtF f f2 h o j c from rfl];by_cases y:mtF f f2 h o j c=true
      ·rw[if_pos y];exact h2 _ (if_pos y)
      ·rw[if_neg y];exact h1 (if_neg y)
     ·rw[QBy,QuV];refine⟨⟨QkP _,rfl,.inr QhF⟩,?_⟩;cases q:Qeb (mtF f f2 h o) w j t with
      |nil=>
       refine⟨.v (.tuple ((QdM f2 (Qf h) j).map Ji)),.v (.list (Yx [])),?_⟩;rw[QuL (by rw[ht];exact q),ht];rfl
      |cons c r=>
       have hc:=QnH (show c∈Qeb (mtF f f2 h o) w j t by rw[q];exact .head _);have mc:c∈oth w t:=JB.mpr ⟨Qz.mpr hc.1,by simpa using hc.2.1⟩;have ll:=QiJ (mtF f f2 h o) w j;rw[ht] at ll;obtain⟨i1,i2⟩:=QjY mc;refine⟨.int c,JU (j:=0) rfl,by show(Yx t).length<_;unfold Yx;rw[Qa];omega,.int c,JU (j:=0) rfl,(oth w t).map λ(x:Nat)=>(x:Int),(c:Int),(oth w t).idxOf c,QpY _,rfl,i1,i2,.v (.tuple ((QdM f2 (Qf h) j).map Ji)),.v (.list (Yx (c::r))),?_⟩;rw[Qzh mc,QpT (by rw[ht];exact q),ht,QsF];rfl
    ·rintro δ ⟨x7,x8,rfl⟩;rw[Qa,Qr];refine⟨⟨QkP _,rfl,.inr QhF⟩,?_⟩;have le:=QuM (mtF f f2 h o) w;have pl:=Qeo (mtF f f2 h o) w w;cases q:putN (mtF f f2 h o) w w with
     |none=>
      have ne:oth w (lawN (mtF f f2 h o) w w)≠[]:=λe=>by
       have:=le.mp e;rw[q] at this;cases this
      cases e:oth w (lawN (mtF f f2 h o) w w) with
      |nil=>exact absurd e ne
      |cons c r=>
       refine⟨_,_,_,_,_,_,rfl,λp hp=>?_⟩;rw[JY,eo] at hp;rcases JM.mp hp with y | y
       ·exact hno p y
       ·rw[Q5.mp y];exact q
     |some t=>
      have e:=le.mpr (by rw[q];rfl);obtain⟨e2,_⟩:=pl.1 t q;rw[e,e2];rw[Qnz eo hno q] at hR;exact hR
   ·rintro δ ⟨x3,x4,x5,x6,x7,x8,rfl,hno⟩;rw[Qa,JW] at hno;rw[QnA hno] at hR;exact hR
end
section
variable{P:Qy}{w:Jc}{K:PySem.W.Frag}{mg:Str->Option Value}{base:Heap}
theorem Qwd:JV ["told", "size"] ["told", "size"] (QD sCAt):=⟨rfl,rfl,rfl,by decide +kernel,rfl,by decide +kernel,by decide +kernel⟩
theorem Qxh{f   : Addr}{fd  : Q6}(F:Fun K "count_at" "count_at" sCAt f fd)(T:GlbA mg) :
  FnOk P w K mg base CX0 1 f fd ["told", "size"] (ZP false QAe):=by
 refine okQ false F Qwd (λargs R EX h=>?_) (λcdv A outer s H E hr=>?_)
 ·obtain⟨a,k,rfl,_⟩:=h;rfl
 ·have hU:=Room.u60 hr;have hI:=Room.i60 hr;refine⟨_,Jl (Qa6 (Qzs (Yz Quj Qsj (qp 1) (q_toPF (Qbi Qc9 Qka (by rfl) T.len Qce (qa_P (qp 0) Q8))) (ZT _)) (QcK ZU Y4 (qp 0) (qp 1) (λ_ _=>rfl)) JE)),λargs R EX h=>?_⟩;obtain⟨a,k,rfl,hR⟩:=h;refine ifC (λz=>?_) λz=>?_
  ·have z:(k:Int)<(a.map Qp).length:=of_decide_eq_true z;rw[Qa] at z;refine⟨.int (a.getD k 0),JU ?_,hR⟩;rw[Qo,Qi,Qe (by omega)];rfl
  ·have z:¬(k:Int)<(a.map Qp).length:=of_decide_eq_false z;rw[Qa] at z;rw[Qgn (by omega)] at hR;exact hR
theorem QrT:JV ["mine", "theirs", "size"] ["mine", "theirs"] (QD sUnl):=⟨rfl,rfl,rfl,by decide +kernel,rfl,by decide +kernel,by decide +kernel⟩
theorem Qxa{f f1  : Addr}{fd fd1:Q6}(F:Fun K "unlike" "unlike" sUnl f fd)(T:GlbA mg)
  (m1:mg "count_at" = some (.ref f1))(G1:FnOk P w K mg base CX0 1 f1 fd1 ["told", "size"] (ZP false QAe))(b1:Binds K fd1 ["told", "size"] [])(k1:PySem.W.keepIn K (.ref f1)=true) :
  FnOk P w K mg base CX0 2 f fd ["mine", "theirs"] (ZP false Qy9):=by
 refine okQ false F QrT (λargs R EX h=>?_) (λcdv A outer s H E hr=>?_)
 ·obtain⟨a,b,rfl,_⟩:=h;rfl
 ·have hU:=Room.u60 hr;have hI:=Room.i60 hr;refine⟨_,QP (QaK Je rfl (QaE (by rfl) T.range (q_toPF (Qbi (QhO rfl) Qn0 (by rfl) T.max QsB (qa_P (q_toPF (Qbi Qc9 Qka (by rfl) T.len Qce (qa_P (qp 0) Q8))) (qa_P (q_toPF (Qbi Qc9 Qka (by rfl) T.len Qce (qa_P (qp 1) Q8))) Q8))))) (ZR 2 QrT.nd rfl (by first | exact QZ rfl | exact QV rfl))
    (Jl (Qb4 (Yz Qfk (QkO hU) (JQ (Yc G1 (hr.mono (by decide)) (by rfl) m1 k1 b1 Zw (Yt (qv 0) (Yt (qv 2) JT)))) (JQ (Yc G1 (hr.mono (by decide)) (by rfl) m1 k1 b1 Zw (Yt (qv 1) (Yt (qv 2) JT)))) (ZT _)) (Jl (Ym (Z7 (ZF Qf9 (ZF (qv 2) (ZF (Yc G1 (hr.mono (by decide)) (by rfl) m1 k1 b1 Zw (Yt (qv 0) (Yt (qv 2) JT))) (ZF (Yc G1 (hr.mono (by decide)) (by rfl) m1 k1 b1 Zw (Yt (qv 1) (Yt (qv 2) JT))) Q8))))))) YE)))
   (Jl (Ym (Z7 (ZF Qf9 Q8)))),λargs R EX h=>?_⟩
  obtain⟨a,b,rfl,a7,b7,hR⟩:=h;have la:=QAH a;have lb:=QAH b;refine⟨⟨by split<;>omega,by split<;>omega⟩,QdB (λi δ=>∃x2,δ=[.v (.list (a.map Qp)),.v (.list (b.map Qp)),x2]/\∀k,k<i->a.getD k 0=b.getD k 0) ⟨_,rfl,λk hk=>by omega⟩ ?_ ?_⟩
  ·rintro i δ hi ⟨x2,rfl,hno⟩;have i7:i<7:=by split at hi<;>omega
   refine⟨a,i,by rw[Zk],b,i,by rw[Zk],?_⟩;refine ifC (λz=>?_) λz=>?_
   ·have z:¬a.getD i 0=b.getD i 0:=Qm2 z;refine⟨a,i,by rw[Zk],b,i,by rw[Zk],?_⟩;have e:Qkt a b 7=some i:=by
     unfold Qkt;have sp:Qf 7=Qf i++i::(Qf (6 - i)).map (·+(i+1)):=by
      rw[show 7=i+((6 - i)+1) by omega,QvO,Qkl,Js,QH]
      congr 2
      refine Q9 λk _=>?_
      show i+(k+1)=k+(i+1);omega
     rw[sp,QrA,Yj.mpr λk hk=>by rw[hno k (Qz.mp hk)];simp,QaD (by simpa using z)];rfl
    rw[e] at hR;have hR:R (.tuple [.str "counts",.int (i:Int),.int (a.getD i 0),.int (b.getD i 0)]):=hR;rw[<- Zk (i:Int)] at hR;exact hR
   ·have z:a.getD i 0=b.getD i 0:=QnN z;refine⟨_,rfl,λk hk=>?_⟩;by_cases y:k=i
    ·rw[y];exact z
    ·exact hno k (by omega)
  ·rintro δ ⟨x2,rfl,hno⟩;have e:Qkt a b 7=none:=by
    unfold Qkt;rw[Yj];intro k hk;by_cases y:k<a.length∨k<b.length
    ·rw[hno k (by split<;>omega)];simp
    ·rw[Qgn (by omega),Qgn (by omega)];simp
   rw[e] at hR;exact hR
theorem Qf3:JV ["one", "other", "way"] ["one", "other"] (QD Qfd):=⟨rfl,rfl,rfl,by decide +kernel,rfl,by decide +kernel,by decide +kernel⟩
theorem QpH{f f1 f2 f3 f4  : Addr}{fd fd1 fd2 fd3 fd4:Q6}(F:Fun K "alike" "alike" Qfd f fd)(T:GlbA mg)
  (m1:mg "first_way" = some (.ref f1))(G1:FnOk P w K mg base CX0 3 f1 fd1 ["one", "other"] (ZP false Qk5))(b1:Binds K fd1 ["one", "other"] [])(k1:PySem.W.keepIn K (.ref f1)=true)
  (m2:mg "turned" = some (.ref f2))(G2:FnOk P w K mg base CX0 2 f2 fd2 ["board"] (ZP false Qil))(b2:Binds K fd2 ["board"] [])(k2:PySem.W.keepIn K (.ref f2)=true)
  (m3:mg "counts" = some (.ref f3))(G3:FnOk P w K mg base CX0 3 f3 fd3 ["board"] (ZP true QiV))(b3:Binds K fd3 ["board"] [])(k3:PySem.W.keepIn K (.ref f3)=true)
  (m4:mg "unlike" = some (.ref f4))(G4:FnOk P w K mg base CX0 2 f4 fd4 ["mine", "theirs"] (ZP false Qy9))(b4:Binds K fd4 ["mine", "theirs"] [])(k4:PySem.W.keepIn K (.ref f4)=true) :
  FnOk P w K mg base CX0 4 f fd ["one", "other"] (ZP false alD):=by
 refine okQ false F Qf3 (λargs R EX h=>?_) (λcdv A outer s H E hr=>?_)
 ·obtain⟨h,w,f,h2,w2,f2,rfl,_⟩:=h;rfl
 ·have hU:=Room.u60 hr;have hI:=Room.i60 hr;refine⟨_,QP (YF 2 (Yc G1 (hr.mono (by decide)) (by rfl) m1 k1 b1 Zw (Yt (qv 0) (Yt (qv 1) JT))) Qf3.nd)
   (QP (Qb4 (Yz Qer Qhi (qp 2) (JQ Qe2) (ZT _)) (Jl (Ym (Z7 (ZF Qf9 (ZF (qv 2) Q8))))) YE)
   (QP (YF 2 (Yc G1 (hr.mono (by decide)) (by rfl) m1 k1 b1 Zw (Yt (Yc G2 (hr.mono (by decide)) (by rfl) m2 k2 b2 Zw (Yt (qv 0) JT)) (Yt (qv 1) JT))) Qf3.nd)
   (QP (Qb4 (Yz Qer Qhi (qp 2) (JQ Qe2) (ZT _)) (Jl (Ym (Z7 (ZF Qf9 (ZF (qv 2) Q8))))) YE)
   (Jl (Qa6 (Yc G4 (hr.mono (by decide)) (by rfl) m4 k4 b4 Zw (Yt (q_toD (ZS G3 (hr.mono (by decide)) (by rfl) m3 k3 b3 Zw (Yt (qv 0) JT))) (Yt (q_toD (ZS G3 (hr.mono (by decide)) (by rfl) m3 k3 b3 Zw (Yt (qv 1) JT))) JT)))))))),λargs R EX h=>?_⟩
  obtain⟨h,w,f,h2,w2,f2,rfl,h6,w6,h26,w26,hR⟩:=h;refine⟨h,w,f,h2,w2,f2,rfl,h6,w6,h26,w26,?_⟩;unfold alV at hR;cases e:fwD h w f h2 w2 f2 with
  |some p=>
   rw[e] at hR;exact hR
  |none=>
   rw[e] at hR;refine⟨h,w,f,rfl,h6,w6,w,h,tF f,h2,w2,f2,rfl,w6,h6,h26,w26,?_⟩;cases e2:fwD w h (tF f) h2 w2 f2 with
   |some p=>
    rw[e2] at hR;exact hR
   |none=>
    rw[e2] at hR;refine⟨h,w,_,rfl,h6,w6,λp hp=>(QaY hp).2.2,h2,w2,_,rfl,h26,w26,λp hp=>(QaY hp).2.2,cIs f h w,cIs f2 h2 w2,?_,?_,?_,hR⟩
    ·show[Sl.v (YI (Qvb (cellsF h w f) h w)),.v (.list (Qvb (cellsF h2 w2 f2) h2 w2))]=_;unfold cIs Qvb;rw[QH,QH];rfl
    ·unfold cIs;rw[Qa,Qr];omega
    ·unfold cIs;rw[Qa,Qr];omega
end
section
variable{P:Qy}{w:Jc}{K:PySem.W.Frag}{mg:Str->Option Value}{base:Heap}
theorem Qf0:JV ["one", "other", "wanted", "rows", "columns"] ["one", "other"] (QD Qfc):=⟨rfl,rfl,rfl,by decide +kernel,rfl,by decide +kernel,by decide +kernel⟩
theorem Qus{f f1 f2 f3  : Addr}{fd fd1 fd2 fd3:Q6}(F:Fun K "first_way" "first_way" Qfc f fd)(T:GlbA mg)
  (m1:mg "column_marks" = some (.ref f1))(G1:FnOk P w K mg base CX0 1 f1 fd1 ["board", "rows"] (ZP true QAd))(b1:Binds K fd1 ["board", "rows"] [])(k1:PySem.W.keepIn K (.ref f1)=true)
  (m2:mg "all_orders" = some (.ref f2))(G2:FnOk P w K mg base CX0 2 f2 fd2 ["many"] (ZP true QkL))(b2:Binds K fd2 ["many"] [])(k2:PySem.W.keepIn K (.ref f2)=true)
  (m3:mg "columns_put" = some (.ref f3))(G3:FnOk P w K mg base CX0 1 f3 fd3 ["marks", "wanted"] (ZP false Qu8))(b3:Binds K fd3 ["marks", "wanted"] [])(k3:PySem.W.keepIn K (.ref f3)=true) :
  FnOk P w K mg base CX0 3 f fd ["one", "other"] (ZP false Qk5):=by
 refine okQ false F Qf0 (λargs R EX h=>?_) (λcdv A outer s H E hr=>?_)
 ·obtain⟨h,w,f,h2,w2,f2,rfl,_⟩:=h;rfl
 ·have hU:=Room.u60 hr;have hI:=Room.i60 hr;refine⟨_,QP (Qb4 (Yz Qfk (QkO hU) (q_toPF (Qb7 (qp 0) Qb6 (Qb5 (JQ JE)))) (q_toPF (Qb7 (qp 1) Qb6 (Qb5 (JQ JE)))) (ZT _)) (Jl (Qa6 Qe2)) YE)
   (QP (YF 2 (q_toD (ZS G1 (hr.mono (by decide)) (by rfl) m1 k1 b1 Zw (Yt (qv 1) (Yt (q_toD (Qjx (by rfl) T.tuple (by rfl) T.range (JQ (QcK ZU Y4 (qp 1) (JQ JE) (λ_ _=>rfl))))) JT)))) Qf0.nd)
   (QP (QaK Je rfl (QbC (q_toD (ZS G2 (hr.mono (by decide)) (by rfl) m2 k2 b2 Zw (Yt (QcK ZU Y4 (qp 0) (JQ JE) (λ_ _=>rfl)) JT)))) (ZR 3 Qf0.nd rfl (by first | exact QZ rfl | exact QV rfl))
    (QP (YF 4 (Yc G3 (hr.mono (by decide)) (by rfl) m3 k3 b3 Zw (Yt (q_toD (ZS G1 (hr.mono (by decide)) (by rfl) m1 k1 b1 Zw (Yt (qv 0) (Yt (qv 3) JT)))) (Yt (qv 2) JT))) Qf0.nd)
   (Jl (Qb4 (Yz Qer Qhi (qp 4) (JQ Qe2) (ZT _)) (Jl (Ym (Z7 (ZF (qv 3) (ZF (qv 4) Q8))))) YE))))
   (Jl (Qa6 Qe2)))),λargs R EX h=>?_⟩
  obtain⟨h,w,f,h2,w2,f2,rfl,h6,w6,h26,w26,hR⟩:=h;refine⟨⟨rfl,rfl,.inl (by show 1<=_;decide)⟩,?_⟩;refine ifC (λz=>?_) λz=>?_
  ·have z:(!(((h:Int) == h2)&&(((w:Int) == w2)&&true)))=true:=z;have hne:¬(h=h2/\w=w2):=λq=>by
    rw[q.1,q.2] at z;simp at z
   unfold fwD at hR;rw[if_neg hne] at hR;exact hR
  ·have z:(!(((h:Int) == h2)&&(((w:Int) == w2)&&true)))=false:=z;have hq:h=h2/\w=w2:=by
    simp at z;omega
   obtain⟨rfl,rfl⟩:=hq;unfold fwD at hR;rw[if_pos ⟨rfl,rfl⟩] at hR;refine⟨_,JU (j:=0) rfl,⟨by omega,by omega⟩,h,w,f2,Qf h,by rw[Qq];rfl,h6,w6,Zy _,?_⟩;refine⟨_,JU (j:=0) rfl,h,rfl,h6,YV (λi δ=>∃x3 x4,δ=[.v (bdD h w (cellsF h w f)),.v (bdD h w (cellsF h w f2)),.v (.list ((Qlp f2 (Qf h) w).map Qp)),x3,x4]/\∀o∈(ordsN h h).take i,putN (mtF f f2 h o) w w=none) ⟨_,_,rfl,λo ho=>by simp at ho⟩ ?_ ?_⟩
   ·rintro i d δ hd ⟨x3,x4,rfl,hno⟩;rw[Qo] at hd;obtain⟨o,eo,rfl⟩:∃o,(ordsN h h)[i]? = some o/\d=tNn o:=by
     cases e:(ordsN h h)[i]? with
     |none=>rw[e] at hd;cases hd
     |some p=>rw[e] at hd;cases hd;exact⟨p,rfl,rfl⟩
    have mo:=QJ eo;refine⟨h,w,f,o,rfl,h6,w6,QmL mo,Qlp f o w,Qlp f2 (Qf h) w,rfl,by rw[Qgi];exact w6,by rw[Qgi];exact w6,?_⟩;rw[Qgi,Qgi,QwE (QbE mo)];cases q:putN (mtF f f2 h o) w w with
    |none=>
     refine⟨_,_,rfl,λp hp=>?_⟩;rw[JY,eo] at hp;rcases JM.mp hp with y | y
     ·exact hno p y
     ·rw[Q5.mp y];exact q
    |some t=>
     rw[Qnz eo hno q] at hR;exact hR
   ·rintro δ ⟨x3,x4,rfl,hno⟩;rw[Qa,JW] at hno;rw[QnA hno] at hR;exact hR
end
section
variable{P:Qy}{w:Jc}{K:PySem.W.Frag}{mg:Str->Option Value}{base:Heap}
theorem QjN:(["column", "other", "mark", "told"]:List Str).Nodup:=by decide +kernel
theorem Qf1:JV ["marks", "wanted", "told", "mark", "fitting"] ["marks", "wanted"] (QD sPut):=⟨rfl,rfl,rfl,by decide +kernel,rfl,by decide +kernel,by decide +kernel⟩
theorem Qut{f   : Addr}{fd  : Q6}(F:Fun K "columns_put" "columns_put" sPut f fd)(T:GlbA mg) :
  FnOk P w K mg base CX0 1 f fd ["marks", "wanted"] (ZP false Qu8):=by
 refine okQ false F Qf1 (λargs R EX h=>?_) (λcdv A outer s H E hr=>?_)
 ·obtain⟨ms,ws,rfl,_⟩:=h;rfl
 ·have hU:=Room.u60 hr;have hI:=Room.i60 hr;refine⟨_,QP (Qbh 2 (Qcy Q8) Qf1.nd)
   (QP (QaK Je rfl (QbC (qv 1)) (ZR 3 Qf1.nd rfl (by first | exact QZ rfl | exact QV rfl))
    (QP (Qml ["column", "other", "mark", "told"] [none,none,some 3,some 2] 4 Qf1.nd (Qjw (by rfl) T.enumerate (qp 0)) (λcl ex s3 H3 C=>⟨(QbO rfl (Zp 0 (Zp 1 QbP QjN rfl (QZ rfl) (QV rfl)) QjN rfl (QZ rfl) (QV rfl))),(QcJ (Qzp (Qr1 (Yz QdI (Qhj hU) (qp 1) (qp 2) (ZT _)) (Qmh (Yz Qeq (Qm1 hI) (qp 0) (qp 3) (by rfl)))))),(qv 0)⟩))
   (QP (Qb4 (Qjt (Qr3 (qp 4))) (Jl (Qa6 Qe2)) YE)
   (Jl (Qr4 2 (QcK ZU Y4 (qp 4) (JQ JE) (λ_ _=>rfl)))))))
   (Jl (Ym (q_callTy call_tuple_ofW cd_tuple (by rfl) T.tuple bt_tuple (qa_P (qp 2) Q8))))),λargs R EX h=>?_⟩
  obtain⟨ms,ws,rfl,m6,w6,hR⟩:=h;have G0:∀(i:Nat)(t:List Nat),(QdU (ms.map Qp)).filterMap (Qyz (ws.getD i 0) t)=Yx (Qeb (λj c=>decide (ms.getD c 0=ws.getD j 0)) ms.length i t):=λi t=>Qrb ms (ws.getD i 0) t
  refine YV (λi δ=>∃t x3 x4,putN (λj c=>decide (ms.getD c 0=ws.getD j 0)) ms.length i=some t/\δ=[.v (.list (ms.map Qp)),.v (.list (ws.map Qp)),.own (Yx t),x3,x4]) ⟨[],_,_,rfl,rfl⟩ ?_ ?_
  ·rintro i d δ hd ⟨t,x3,x4,hp,rfl⟩;rw[Qo] at hd;obtain⟨m,em,rfl⟩:∃m,ws[i]? = some m/\d=.int m:=by
    cases e:ws[i]? with
    |none=>rw[e] at hd;cases hd
    |some p=>rw[e] at hd;cases hd;exact⟨p,rfl,rfl⟩
   have eg:ws.getD i 0=m:=by rw[Qi,em];rfl
   have hi:i<ws.length:=(QU.mp em).1;have pl:=(Qeo (λj c=>decide (ms.getD c 0=ws.getD j 0)) ms.length i).1 t hp;refine Qk8 (Qyz m t) (λd hd k1 k2 h1 h2=>?_) ?_
   ·obtain⟨j,hj⟩:=JR.mp hd;obtain⟨e,he,rfl⟩:=Qco hj;obtain⟨x,_,rfl⟩:=Qs.mp (QJ he);have h1:(if(decide (x=m) && !decide (((j:Int)).toNat∈t))=true then some (Qp (j:Int)) else none)=none->k1:=h1;have h2:∀e,(if(decide (x=m) && !decide (((j:Int)).toNat∈t))=true then some (Qp (j:Int)) else none)=some e->k2 e:=h2
    rw[Qq] at h1 h2;refine⟨rfl,ifC (λz=>?_) λz=>?_⟩
    ·refine⟨⟨QkP t,rfl,by show J8 (.int _)<=50;unfold J8;decide⟩,?_⟩;show if(!(Yx t).any λe=>Jf e (.int (j:Int)))=true then k2 (.int (j:Int)) else k1
     rw[Qya];rw[z,Qjc] at h1 h2;by_cases y:(!decide (j∈t))=true
     ·rw[if_pos y];exact h2 _ (if_pos y)
     ·rw[if_neg y];exact h1 (if_neg y)
    ·rw[z,QvT] at h1;exact h1 rfl
   ·rw[<- eg,G0];have hs:putN (λj c=>decide (ms.getD c 0=ws.getD j 0)) ms.length (i+1)=(Qeb (λj c=>decide (ms.getD c 0=ws.getD j 0)) ms.length i t).head?.map λc=>t++[c]:=by
     show(putN _ _ i).bind _=_;rw[hp];rfl
    cases q:Qeb (λj c=>decide (ms.getD c 0=ws.getD j 0)) ms.length i t with
    |nil=>
     rw[q] at hs;rw[Qo8 hs (show i+1<=ws.length by omega)] at hR;exact⟨trivial,hR⟩
    |cons c r=>
     rw[q] at hs;refine⟨trivial,.int c,JU (j:=0) rfl,?_,?_⟩
     ·have li:(Yx t).length=t.length:=by unfold Yx;exact Qa _
      rw[li];omega
     ·refine⟨t++[c],.v (.int (ws.getD i 0)),.v (.list (Yx (c::r))),hs,?_⟩;show[Sl.v (.list (ms.map Qp)),.v (.list (ws.map Qp)),.own (Yx t++[.int (c:Int)]),.v (.int (ws.getD i 0)),.v (.list (Yx (c::r)))]=[Sl.v (.list (ms.map Qp)),.v (.list (ws.map Qp)),.own (Yx (t++[c])),.v (.int (ws.getD i 0)),.v (.list (Yx (c::r)))];rw[show Yx (t++[c])=Yx t++[.int (c:Int)] by unfold Yx;rw[Q3];rfl]
  ·rintro δ ⟨t,x3,x4,hp,rfl⟩;rw[Qa] at hp;rw[hp] at hR;exact hR
end
end Rk
namespace Rk
open L2 _root_.Rd
def Qxw:PyData->Bool
 |.tuple _=>true
 |.list _=>true
 |_=>false
def QBu:PyData->Bool
 |.list _=>true
 |_=>false
def QBr:PyData->Bool
 |.tuple _=>true
 |_=>false
def QBv:PyData->Bool
 |.bool _=>true
 |_=>false
def QBs:PyData->Bool
 |.str _=>true
 |_=>false
theorem QvX{K:PySem.W.Frag}{H:Hp}:∀{x:V}{d:PyData},Dat H x d->∃t,TyOf K H x t/\PySem.W.kitAny K t [.type "list",.type "tuple"]=some (Qxw d)/\PySem.W.kitOne K t (.type "list")=some (QBu d)/\PySem.W.kitOne K t (.type "tuple")=some (QBr d) /\
  PySem.W.kitOne K t (.type "bool")=some (QBv d)/\PySem.W.kitOne K t (.type "str")=some (QBs d)
 |_,_,.non=>⟨_,.non,rfl,rfl,rfl,rfl,rfl⟩
 |_,_,.bl _=>⟨_,.bl _,rfl,rfl,rfl,rfl,rfl⟩
 |_,_,.int _=>⟨_,.int _,rfl,rfl,rfl,rfl,rfl⟩
 |_,_,.str _ _=>⟨_,.str _,rfl,rfl,rfl,rfl,rfl⟩
 |_,_,.tup e _=>⟨_,.tup e,rfl,rfl,rfl,rfl,rfl⟩
 |_,_,.lst e _=>⟨_,.lst e,rfl,rfl,rfl,rfl,rfl⟩
def Ql3:Sp:=λvs H Q _=>∃p x,vs=[x]/\Kn p H x/\Q (.bl (isI x)) H
section
variable{P:Qy}{w:Jc}{K:PySem.W.Frag}{mg:Str->Option Value}{base:Heap}
theorem QoW:JV ["_law_found"] ["_law_found"] (QD QdK):=⟨rfl,rfl,rfl,by decide +kernel,rfl,by decide +kernel,by decide +kernel⟩
theorem QmQ{f:Addr}{fd:Q6}(F:Fun K "_law_whole" "_law_whole" QdK f fd)(T:GlbA mg):FnOk P w K mg base CX0 1 f fd ["_law_found"] Ql3:=by
 refine F.ok QoW (λvs H Q E h=>?_) (λcdv A outer s H vs Q E hr h=>?_)
 ·obtain⟨p,x,rfl,_⟩:=h;rfl
 ·obtain⟨p,x,rfl,kn,k⟩:=h;refine⟨_,Ya (Qaw (Qfi (pe_callB ZG (by rfl) T.isinstance Zc (pa_cons (pv 0) (pa_cons (QaF (v:=.ty "int") (by rfl) T.int Qn3 rfl) pa_nil)))
   (Qfh (Qsb (pe_callB ZG (by rfl) T.isinstance Zc (pa_cons (pv 0) (pa_cons (QaF (v:=.ty "bool") (by rfl) T.bool QgA rfl) pa_nil))))))),?_⟩
  obtain⟨t,ty,e⟩:=QjW (K:=K) kn;obtain⟨t2,ty2,e2⟩:=Qnp (K:=K) kn;refine⟨_,rfl,_,t,_,_,rfl,ty,e,_,rfl,?_⟩;cases x with
  |int i=>exact Qlr ⟨_,rfl,_,t2,_,_,rfl,ty2,e2,_,rfl,k⟩
  |bl i=>exact Qlr ⟨_,rfl,_,t2,_,_,rfl,ty2,e2,_,rfl,k⟩
  |_=>exact Qia k
theorem Qxp{H:Hp}:∀{x:V}{d:PyData},Dat H x d->∃p,Kn p H x
 |_,_,.non=>⟨0,trivial⟩
 |_,_,.bl _=>⟨0,trivial⟩
 |_,_,.int _=>⟨0,trivial⟩
 |_,_,.str _ _=>⟨0,trivial⟩
 |_,_,.tup (a:=a) e _=>⟨(a+1:Nat),Qv (QfI a),.inl ⟨_,e⟩⟩
 |_,_,.lst (a:=a) e _=>⟨(a+1:Nat),Qv (QfI a),.inr (.inl ⟨_,e⟩)⟩
theorem QjM:(["_law_one", "_law_other_here"]:List Str).Nodup:=by decide +kernel
theorem Qtg:JV ["_law_found", "_law_due"] ["_law_found", "_law_due"] (QD Qk0):=⟨rfl,rfl,rfl,by decide +kernel,rfl,by decide +kernel,by decide +kernel⟩
theorem QmS{f f1:Addr}{fd fd1:Q6}(F:Fun K "_law_same" "_law_same" Qk0 f fd)(T:GlbA mg)(mf:mg "_law_same" = some (.ref f))(bf:Binds K fd ["_law_found", "_law_due"] [])(kf:PySem.W.keepIn K (.ref f)=true)
  (m1:mg "_law_whole" = some (.ref f1))(G1:FnOk P w K mg base CX0 1 f1 fd1 ["_law_found"] Ql3)(b1:Binds K fd1 ["_law_found"] [])(k1:PySem.W.keepIn K (.ref f1)=true) :
  ∀n:Nat,FnOk P w K mg base CX0 (n+1) f fd ["_law_found", "_law_due"] (Qir n)
 |0=>⟨λ_ _ _ _ h=>h.elim,λ_ _ _ _ _ _ _ _ _ _ _ _ _ h=>h.elim⟩
 |n+1=>by
  have IH:=QmS F T mf bf kf m1 G1 b1 k1 n;refine F.ok Qtg (λvs H Q E h=>?_) (λcdv A outer s H vs Q E hr h=>?_)
  ·obtain⟨x,y,d,rfl,_⟩:=h;rfl
  ·obtain⟨x,y,d,rfl,qx,qy,fl,k⟩:=h;have hr1:Room 1 _:=hr.mono (by omega);refine⟨_,Zs (Qgb (Qb8 Qsg (pv 1) Qmu (ZT _)) (Ya (Qaw (Qdu Qsg (pv 0) Qmu (ZT _)))) QbD)
    (Zs (Qgb (Qjy (pe_callB ZG (by rfl) T.isinstance Zc (pa_cons (pv 1) (pa_cons (QaF (v:=.ty "bool") (by rfl) T.bool QgA rfl) pa_nil)))) (Ya (Qaw (Qfi (pe_callB ZG (by rfl) T.isinstance Zc (pa_cons (pv 0) (pa_cons (QaF (v:=.ty "bool") (by rfl) T.bool QgA rfl) pa_nil))) (Qfh (Qdu QjE (pv 0) (pv 1) (ZT _)))))) QbD)
    (Zs (Qgb (Qjy (pe_callB ZG (by rfl) T.isinstance Zc (pa_cons (pv 1) (pa_cons (QaF (v:=.ty "int") (by rfl) T.int Qn3 rfl) pa_nil)))) (Ya (Qaw (Qfi (QcL G1 hr1 (by rfl) m1 k1 b1 .nil Qt9 (pa_cons (pv 0) pa_nil)) (Qfh (Qdu QjE (pv 0) (pv 1) (ZT _)))))) QbD)
    (Zs (Qgb (Qjy (pe_callB ZG (by rfl) T.isinstance Zc (pa_cons (pv 1) (pa_cons (QaF (v:=.ty "str") (by rfl) T.str QsA rfl) pa_nil)))) (Ya (Qaw (Qfi (pe_callB ZG (by rfl) T.isinstance Zc (pa_cons (pv 0) (pa_cons (QaF (v:=.ty "str") (by rfl) T.str QsA rfl) pa_nil))) (Qfh (Qdu QjE (pv 0) (pv 1) (ZT _)))))) QbD)
    (Zs (Qgb (PW.pt (QwC (Qb8 Quh (pe_callB ZG (by rfl) T.isinstance Zc (pa_cons (pv 1) (pa_cons (QaF (v:=.ty "tuple") (by rfl) T.tuple bt_tuple rfl) pa_nil))) (pe_callB ZG (by rfl) T.isinstance Zc (pa_cons (pv 0) (pa_cons (QaF (v:=.ty "tuple") (by rfl) T.tuple bt_tuple rfl) pa_nil))) (ZT _)) (Qr6 (Qb8 Quh (pe_callB ZG (by rfl) T.isinstance Zc (pa_cons (pv 1) (pa_cons (QaF (v:=.ty "list") (by rfl) T.list QeI rfl) pa_nil))) (pe_callB ZG (by rfl) T.isinstance Zc (pa_cons (pv 0) (pa_cons (QaF (v:=.ty "list") (by rfl) T.list QeI rfl) pa_nil))) (ZT _))))) (Ya (Qaw QwL)) QbD)
    (Ya (Qaw (Qfi (Qdu Qw7 (pe_callB Yo (by rfl) T.len Qce (pa_cons (pv 0) pa_nil)) (pe_callB Yo (by rfl) T.len Qce (pa_cons (pv 1) pa_nil)) (ZT _)) (Qfh (pe_callB Qri (by rfl) T.all Qx6 (pa_cons (Qgg (M:=["_law_one", "_law_other_here"]) (cap:=[none,none]) (g:=(QzW K 2 (Qp8 (Qbk 0) (Qp8 (Qbk 1) QzX)))) (tc:=Qek) (te:=(QlY (Qir n) [] E0 (Qak (Qbs 0) (Qak (Qbs 1) Qe1)))) rfl (by rfl) (Qzv (QwH (by rfl) T.zip (pa_cons (pv 0) (pa_cons (pv 1) pa_nil))) (QtF (by rfl) T.zip (pa_cons (pv 0) (pa_cons (pv 1) pa_nil)))) (λcl ex s3 H3 C=>⟨(Qr9 rfl (Qge (Qbj (i:=0) QjM rfl (QZ rfl) (QV rfl)) (Qge (Qbj (i:=1) QjM rfl (QZ rfl) (QV rfl)) Qms))),Qiw,(QcL IH (hr.mono (Qg _)) (by rfl) mf kf bf .nil Qt9 (pa_cons (pv 0) (pa_cons (pv 1) pa_nil)))⟩)) pa_nil)))))))))),?_⟩
   obtain⟨t,ty,a1,a2,a3,a4,a5⟩:=QvX (K:=K) qy;obtain⟨t',ty',a1',a2',a3',a4',a5'⟩:=QvX (K:=K) qx;obtain⟨p0,kn⟩:=Qxp qy;obtain⟨tI,tyI,eI⟩:=QjW (K:=K) kn;cases d with
   |none=>
    have hy:y=.non:=by cases qy;rfl
    have hx:x=.non:=by cases qx;rfl
    subst hy hx;exact⟨_,rfl,rfl,_,rfl,Qlr ⟨_,rfl,rfl,k H (Same.refl H)⟩⟩
   |bool v=>
    have hy:y=.bl v:=by cases qy;rfl
    have hx:x=.bl v:=by cases qx;rfl
    subst hy hx;refine⟨_,rfl,rfl,_,rfl,Qia ⟨_,rfl,_,t,_,_,rfl,ty,a4,_,rfl,Qlr ⟨_,rfl,_,t',_,_,rfl,ty',a4',_,rfl,Qlr ?_⟩⟩⟩;refine⟨_,rfl,_,rfl,(Ji v),(Ji v),qx,qy,by rw[QcX];show _+J8 (Ji v)<cLine;rw[show J8 (Ji v)=0 from by simp[J8]];exact hr.units0,?_⟩;rw[QgS (Ji v) rfl];exact k H (Same.refl H)
   |int i=>
    have hy:y=.int i:=by cases qy;rfl
    have hx:x=.int i:=by cases qx;rfl
    subst hy hx;refine⟨_,rfl,rfl,_,rfl,Qia ⟨_,rfl,_,t,_,_,rfl,ty,a4,_,rfl,Qia ⟨_,rfl,_,tI,_,_,rfl,tyI,eI,_,rfl,Qlr ⟨_,rfl,0,.int i,rfl,trivial,_,rfl,Qlr ?_⟩⟩⟩⟩;refine⟨_,rfl,_,rfl,.int i,.int i,qx,qy,by rw[QcX];show _+J8 (.int i)<cLine;rw[show J8 (.int i)=0 from by simp[J8]];exact hr.units0,?_⟩;rw[QgS (.int i) rfl];exact k H (Same.refl H)
   |str v=>
    have cl:QaC (.str v)=true:=by cases qy with | str _ c=>exact c
    have hy:y=.str v:=by cases qy;rfl
    have hx:x=.str v:=by cases qx;rfl
    subst hy hx;refine⟨_,rfl,rfl,_,rfl,Qia ⟨_,rfl,_,t,_,_,rfl,ty,a4,_,rfl,Qia ⟨_,rfl,_,tI,_,_,rfl,tyI,eI,_,rfl,Qia ⟨_,rfl,_,t,_,_,rfl,ty,a5,_,rfl,Qlr ⟨_,rfl,_,t',_,_,rfl,ty',a5',_,rfl,Qlr ?_⟩⟩⟩⟩⟩;refine⟨_,rfl,_,rfl,(QdV v),(QdV v),qx,qy,by rw[QcX];show _+J8 (QdV v)<cLine;rw[show J8 (QdV v)=0 from by simp[J8]];exact hr.units0,?_⟩;rw[QgS (QdV v) cl];exact k H (Same.refl H)
   |tuple ds=>
    obtain⟨m,rfl⟩:∃m,n=m+1:=by
     cases n with
     |zero=>cases fl
     |succ m=>exact⟨m,rfl⟩
    have fl':=JZ.mp (show(decide (ds.length<=1000)&&ds.all (QcO m))=true from fl);have hdl:ds.length<=1000:=of_decide_eq_true fl'.1;cases qy with
    |@tup b ys _ eb qs=>
    cases qx with
    |@tup a xs _ ea ps=>
    refine⟨_,rfl,rfl,_,rfl,Qia ⟨_,rfl,_,t,_,_,rfl,ty,a4,_,rfl,Qia ⟨_,rfl,_,tI,_,_,rfl,tyI,eI,_,rfl,Qia ⟨_,rfl,_,t,_,_,rfl,ty,a5,_,rfl,Qia ?_⟩⟩⟩⟩;refine⟨_,rfl,_,t,_,_,rfl,ty,a3,_,rfl,_,t',_,_,rfl,ty',a3',rfl,_,rfl,QpX rfl ?_⟩;refine⟨_,rfl,_,t,_,_,rfl,ty,a2,_,rfl,_,t',_,_,rfl,ty',a2',rfl,_,rfl,QpX rfl ?_⟩;have hxl:=ps.length;have hyl:=qs.length;refine⟨_,rfl,a,xs,rfl,.inr (SqT.of ea),_,rfl,b,ys,rfl,.inr (SqT.of eb),rfl,_,rfl,?_⟩;rw[show decide (V.int (xs.length:Nat)=V.int (ys.length:Nat))=true from decide_eq_true (by rw[hxl,hyl])];refine Qlr (.inl ⟨_,rfl,_,rfl,a,b,xs,ys,rfl,ea,eb,λp hp=>?_⟩);refine Qfz ds.length (QaG hdl) (λ_=>true) hp (λi H2 hi2 s2=>?_) (λH2 s2=>?_) λH2 s2 e2=>?_
    ·have hx:xs[i]? = some xs[i]:=Qe (by omega);have hy:ys[i]? = some ys[i]:=Qe (by omega);have ea2:=s2 a _ ea;have eb2:=s2 b _ eb;refine⟨⟨xs,ys,_,_,ea2,eb2,hx,hy⟩,λv H3 ⟨r,x',y',hr0,ex,ey,ev,eH⟩ kk hk=>?_⟩;have ex':=ex xs ea2;have ey':=ey ys eb2;rw[hx] at ex';rw[hy] at ey';cases ex';cases ey';subst ev eH;obtain⟨d1,hd1,q1⟩:=ps.get i _ hx;obtain⟨d2,hd2,q2⟩:=qs.get i _ hy;rw[hd1] at hd2;cases hd2;have fd1:QcO m d1=true:=Zi.mp fl'.2 d1 (QJ hd1);refine⟨r,[xs[i],ys[i]],rfl,SqT.of Jg,rfl,xs[i],[ys[i]],rfl,ys[i],[],rfl,rfl,⟨trivial,?_⟩⟩;exact⟨_,rfl,_,rfl,xs[i],ys[i],d1,rfl,(q1.same s2).same (Jn hr0),(q2.same s2).same (Jn hr0),fd1,λH' s'=>hk H' ((Jn hr0).trans s')⟩
    ·refine⟨xs,ys,s2 a _ ea,s2 b _ eb,?_⟩;omega
    ·refine⟨p,_,rfl,SqL.of e2,rfl,?_⟩;have e3:((Qf ds.length).map λ_=>true).all id=true:=by
      rw[Zi];intro z hz;obtain⟨_,_,rfl⟩:=Qs.mp hz;rfl
     rw[e3];exact k H2 s2
   |list ds=>
    obtain⟨m,rfl⟩:∃m,n=m+1:=by
     cases n with
     |zero=>cases fl
     |succ m=>exact⟨m,rfl⟩
    have fl':=JZ.mp (show(decide (ds.length<=1000)&&ds.all (QcO m))=true from fl);have hdl:ds.length<=1000:=of_decide_eq_true fl'.1;cases qy with
    |@lst b ys _ eb qs=>
    cases qx with
    |@lst a xs _ ea ps=>
    refine⟨_,rfl,rfl,_,rfl,Qia ⟨_,rfl,_,t,_,_,rfl,ty,a4,_,rfl,Qia ⟨_,rfl,_,tI,_,_,rfl,tyI,eI,_,rfl,Qia ⟨_,rfl,_,t,_,_,rfl,ty,a5,_,rfl,Qia ?_⟩⟩⟩⟩;refine⟨_,rfl,_,t,_,_,rfl,ty,a3,_,rfl,_,t',_,_,rfl,ty',a3',rfl,_,rfl,QpX rfl ?_⟩;refine⟨_,rfl,_,t,_,_,rfl,ty,a2,_,rfl,_,t',_,_,rfl,ty',a2',rfl,_,rfl,QpX rfl ?_⟩;have hxl:=ps.length;have hyl:=qs.length;refine⟨_,rfl,a,xs,rfl,.inl (SqL.of ea),_,rfl,b,ys,rfl,.inl (SqL.of eb),rfl,_,rfl,?_⟩;rw[show decide (V.int (xs.length:Nat)=V.int (ys.length:Nat))=true from decide_eq_true (by rw[hxl,hyl])];refine Qlr (.inr ⟨_,rfl,_,rfl,a,b,xs,ys,rfl,ea,eb,λp hp=>?_⟩);refine Qfz ds.length (QaG hdl) (λ_=>true) hp (λi H2 hi2 s2=>?_) (λH2 s2=>?_) λH2 s2 e2=>?_
    ·have hx:xs[i]? = some xs[i]:=Qe (by omega);have hy:ys[i]? = some ys[i]:=Qe (by omega);have ea2:=s2 a _ ea;have eb2:=s2 b _ eb;refine⟨⟨xs,ys,_,_,ea2,eb2,hx,hy⟩,λv H3 ⟨r,x',y',hr0,ex,ey,ev,eH⟩ kk hk=>?_⟩;have ex':=ex xs ea2;have ey':=ey ys eb2;rw[hx] at ex';rw[hy] at ey';cases ex';cases ey';subst ev eH;obtain⟨d1,hd1,q1⟩:=ps.get i _ hx;obtain⟨d2,hd2,q2⟩:=qs.get i _ hy;rw[hd1] at hd2;cases hd2;have fd1:QcO m d1=true:=Zi.mp fl'.2 d1 (QJ hd1);refine⟨r,[xs[i],ys[i]],rfl,SqT.of Jg,rfl,xs[i],[ys[i]],rfl,ys[i],[],rfl,rfl,⟨trivial,?_⟩⟩;exact⟨_,rfl,_,rfl,xs[i],ys[i],d1,rfl,(q1.same s2).same (Jn hr0),(q2.same s2).same (Jn hr0),fd1,λH' s'=>hk H' ((Jn hr0).trans s')⟩
    ·refine⟨xs,ys,s2 a _ ea,s2 b _ eb,?_⟩;omega
    ·refine⟨p,_,rfl,SqL.of e2,rfl,?_⟩;have e3:((Qf ds.length).map λ_=>true).all id=true:=by
      rw[Zi];intro z hz;obtain⟨_,_,rfl⟩:=Qs.mp hz;rfl
     rw[e3];exact k H2 s2
   |dict ds=>cases qx
end
end Rk
def PySem.W.Fast.tw11866988958605750068:Nat:=0
def PySem.W.Fast.tw4708590437214855289:Nat:=0
def PySem.W.Fast.tw12884278511636466091:Nat:=0
def PySem.W.Fast.tw16894462004850265447:Nat:=0
def PySem.W.Fast.tw13052353471197130356:Nat:=0
def PySem.W.Fast.tw13519704021394228389:Nat:=0
def PySem.W.Fast.tw1057682904600813941:Nat:=0
def PySem.W.Fast.tw12791151314690407827:Nat:=0
def PySem.W.Fast.tw6821129352765940851:Nat:=0
def PySem.W.Fast.tw9812154374573883547:Nat:=0
def PySem.W.Fast.tw1994047012997566250:Nat:=0
def PySem.W.Fast.tw10017133790936674628:Nat:=0
def PySem.W.Fast.tw2576834677334396288:Nat:=0
def PySem.W.Fast.tw12879349170862626828:Nat:=0
def PySem.W.Fast.tw13403731077114942227:Nat:=0
def PySem.W.Fast.tw15611852759091916049:Nat:=0
def PySem.W.Fast.tw7125906411315286721:Nat:=0
def PySem.W.Fast.tw12790967625829936313:Nat:=0
def PySem.W.Fast.tw14647166114579100253:Nat:=0
def PySem.W.Fast.tw6527677357197422824:Nat:=0
def PySem.W.Fast.tw10145469704128676892:Nat:=0
def PySem.W.Fast.tw1784371144225305246:Nat:=0
def PySem.W.Fast.tw11389354342855110655:Nat:=0
def PySem.W.Fast.tw18301710158157825095:Nat:=0
def PySem.W.Fast.tw5065470045797638919:Nat:=0
def PySem.W.Fast.tw14462910966395327519:Nat:=0
def PySem.W.Fast.tw13787709897783730134:Nat:=0
def PySem.W.Fast.tw15051338081576408522:Nat:=0
def PySem.W.Fast.tw10593284617432502891:Nat:=0
def PySem.W.Fast.tw2733918586743690160:Nat:=0
def PySem.W.Fast.tw10629414920184454738:Nat:=0
def PySem.W.Fast.tw11829215322787656581:Nat:=0
def PySem.W.Fast.tw16369208529313672292:Nat:=0
def PySem.W.Fast.tw14874333676288824946:Nat:=0
def PySem.W.Fast.tw9411201971742069359:Nat:=0
def PySem.W.Fast.tw15922220950030761160:Nat:=0
def PySem.W.Fast.tw17656387902493383043:Nat:=0
def PySem.W.Fast.tw9914012072051252949:Nat:=0
def PySem.W.Fast.tw15736888898244961687:Nat:=0
def PySem.W.Fast.tw7283281888495757249:Nat:=0
def PySem.W.Fast.tw10186676122217855388:Nat:=0
def PySem.W.Fast.tw6415305081834808687:Nat:=0
def PySem.W.Fast.tw8470467878674976865:Nat:=0
def PySem.W.Fast.tw15285686136802631575:Nat:=0
def PySem.W.Fast.tw5995485779650436192:Nat:=0
def PySem.W.Fast.tw16014539629914235231:Nat:=0
def PySem.W.Fast.tw16530894579163677831:Nat:=0
def PySem.W.Fast.tw9066995761348035072:Nat:=0
def PySem.W.Fast.tw13920851669131642636:Nat:=0
def PySem.W.Fast.tw11803638125679702417:Nat:=0
def PySem.W.Fast.tw13219415823223304447:Nat:=0
def PySem.W.Fast.tw12384599718928548020:Nat:=0
def PySem.W.Fast.tw5527489136713022104:Nat:=0
def PySem.W.Fast.tw1270003668525329821:Nat:=0
def PySem.W.Fast.tw866848686812862951:Nat:=0
def PySem.W.Fast.tw12569493965311933540:Nat:=0
def PySem.W.Fast.tw2182341810381722029:Nat:=0
def PySem.W.Fast.tw3573383962220226286:Nat:=0
def PySem.W.Fast.tw4982913213457811912:Nat:=0
def PySem.W.Fast.tw16354422545501493958:Nat:=0
def PySem.W.Fast.tw11578555115559295505:Nat:=0
def PySem.W.Fast.tw7580743766970724667:Nat:=0
def PySem.W.Fast.tw7404629150055846322:Nat:=0
def PySem.W.Fast.tw16461221861957177441:Nat:=0
def PySem.W.Fast.tw14429652542956602283:Nat:=0
def PySem.W.Fast.tw10967717226542660460:Nat:=0
def PySem.W.Fast.tw1998318103028450392:Nat:=0
def PySem.W.Fast.tw5936832522014760246:Nat:=0
def PySem.W.Fast.tw8559834733213110005:Nat:=0
def PySem.W.Fast.tw12933374343810598787:Nat:=0
def PySem.W.Fast.tw15957438342754253743:Nat:=0
def PySem.W.Fast.tw3603324991419825595:Nat:=0
def PySem.W.Fast.tw1653011991528973217:Nat:=0
def PySem.W.Fast.tw7446094255426960041:Nat:=0
def PySem.W.Fast.tw14100986939705421563:Nat:=0
def PySem.W.Fast.tw11737569689874932218:Nat:=0
def PySem.W.Fast.tw428308319821528434:Nat:=0
def PySem.W.Fast.tw13362203107184701411:Nat:=0
def PySem.W.Fast.tw591612039516562922:Nat:=0
def PySem.W.Fast.tw10916810944612455838:Nat:=0
def PySem.W.Fast.tw1578798642786263470:Nat:=0
def PySem.W.Fast.tw16742674961138144776:Nat:=0
def PySem.W.Fast.tw10508311976279325237:Nat:=0
def PySem.W.Fast.tw7994771982084142004:Nat:=0
def PySem.W.Fast.tw6982151058684497146:Nat:=0
def PySem.W.Fast.tw14128067723465447670:Nat:=0
def PySem.W.Fast.tw13098798606160689596:Nat:=0
def PySem.W.Fast.tw12909362872558892726:Nat:=0
def PySem.W.Fast.tw7442052110903862960:Nat:=0
def PySem.W.Fast.tw5411344716323567398:Nat:=0
def PySem.W.Fast.tw11129303379295663025:Nat:=0
def PySem.W.Fast.tw1745854782140545708:Nat:=0
def PySem.W.Fast.tw6871547145283322801:Nat:=0
def PySem.W.Fast.tw929228269390831247:Nat:=0
def PySem.W.Fast.tw4866687611081501461:Nat:=0
def PySem.W.Fast.tw13924021850897548676:Nat:=0
def PySem.W.Fast.tw17036282880892480828:Nat:=0
def PySem.W.Fast.tw350237499673083275:Nat:=0
def PySem.W.Fast.tw6736329031135675318:Nat:=0
def PySem.W.Fast.tw1120106921024165567:Nat:=0
def PySem.W.Fast.tw10545683088590598089:Nat:=0
def PySem.W.Fast.tw16272113981689833230:Nat:=0
def PySem.W.Fast.tw4331468669662828335:Nat:=0
def PySem.W.Fast.tw12670270218644403073:Nat:=0
def PySem.W.Fast.tw7263529792722142511:Nat:=0
def PySem.W.Fast.tw16607641331991904074:Nat:=0
def PySem.W.Fast.tw3585376870519580772:Nat:=0
def PySem.W.Fast.tw2252464974511091147:Nat:=0
def PySem.W.Fast.tw3932004172001937129:Nat:=0
def PySem.W.Fast.tw18234133860331439816:Nat:=0
def PySem.W.Fast.tw42318340371455729:Nat:=0
def PySem.W.Fast.tw7505962925421960684:Nat:=0
def PySem.W.Fast.tw17238034091546959883:Nat:=0
namespace Rk
open L2
theorem Qyb{l:PySem.W.OpenLaw}{w:Jc}{K:PySem.W.Frag}{h:Heap}{mg:Str->Option Value}{fa f1 f2 f3 f4 f5 f6 f7 f8 f9 f10 f11 f12 f13 f14 f15 f16 f17 f18 f19 f20 f21 f22 f23 f24 f25 f26 f27 f28 f29:Addr}(X:K.In h)(G:h.Ns mainGlobals mg)(hfa:mg "law" = some (.ref fa))
  {od1 an1 od2 an2 od3 an3 od4 an4 od5 an5 od6 an6 od7 an7 od8 an8 od9 an9 od10 an10 od11 an11 od12 an12 od13 an13 od14 an14 od15 an15 od16 an16 od17 an17 od18 an18 od19 an19 od20 an20 od21 an21 od22 an22 od23 an23 od24 an24 od25 an25 od26 an26 od27 an27 od28 an28 od29 an29:Option Addr} {sl1 sl2 sl3 sl4 sl5 sl6 sl7 sl8 sl9 sl10 sl11 sl12 sl13 sl14 sl15 sl16 sl17 sl18 sl19 sl20 sl21 sl22 sl23 sl24 sl25 sl26 sl27 sl28 sl29:Array (Option Value)} {oc1 kV1 dc1 pm1 cd1 ct1 oc2 kV2 dc2 pm2 cd2 ct2 oc3 kV3 dc3 pm3 cd3 ct3 oc4 kV4 dc4 pm4 cd4 ct4 oc5 kV5 dc5 pm5 cd5 ct5 oc6 kV6 dc6 pm6 cd6 ct6 oc7 kV7 dc7 pm7 cd7 ct7 oc8 kV8 dc8 pm8 cd8 ct8 oc9 kV9 dc9 pm9 cd9 ct9 oc10 kV10 dc10 pm10 cd10 ct10 oc11 kV11 dc11 pm11 cd11 ct11 oc12 kV12 dc12 pm12 cd12 ct12 oc13 kV13 dc13 pm13 cd13 ct13 oc14 kV14 dc14 pm14 cd14 ct14 oc15 kV15 dc15 pm15 cd15 ct15 oc16 kV16 dc16 pm16 cd16 ct16 oc17 kV17 dc17 pm17 cd17 ct17 oc18 kV18 dc18 pm18 cd18 ct18 oc19 kV19 dc19 pm19 cd19 ct19 oc20 kV20 dc20 pm20 cd20 ct20 oc21 kV21 dc21 pm21 cd21 ct21 oc22 kV22 dc22 pm22 cd22 ct22 oc23 kV23 dc23 pm23 cd23 ct23 oc24 kV24 dc24 pm24 cd24 ct24 oc25 kV25 dc25 pm25 cd25 ct25 oc26 kV26 dc26 pm26 cd26 ct26 oc27 kV27 dc27 pm27 cd27 ct27 oc28 kV28 dc28 pm28 cd28 ct28 oc29 kV29 dc29 pm29 cd29 ct29:Value}
  (a1:PySem.W.nsIn K mainGlobals "turned" = some (some (.ref f1))) (l1:K.lookup f1=some ⟨oc1,od1,.func (PySem.W.fnOf "turned" "turned" (J4 QkF) (JP QkF) (QD QkF) .none kV1 dc1 pm1 an1 cd1 ct1),sl1⟩) (c1:PySem.W.codeIn K cd1 "turned" = true) (k1:PySem.W.keepIn K (.ref f1)=true)
  (a2:PySem.W.nsIn K mainGlobals "all_orders" = some (some (.ref f2)))(l2:K.lookup f2=some ⟨oc2,od2,.func (PySem.W.fnOf "all_orders" "all_orders" (J4 QkH) (JP QkH) (QD QkH) .none kV2 dc2 pm2 an2 cd2 ct2),sl2⟩)(c2:PySem.W.codeIn K cd2 "all_orders" = true)(k2:PySem.W.keepIn K (.ref f2)=true)
  (a3:PySem.W.nsIn K mainGlobals "others" = some (some (.ref f3)))(l3:K.lookup f3=some ⟨oc3,od3,.func (PySem.W.fnOf "others" "others" (J4 sOth) (JP sOth) (QD sOth) .none kV3 dc3 pm3 an3 cd3 ct3),sl3⟩)(c3:PySem.W.codeIn K cd3 "others" = true)(k3:PySem.W.keepIn K (.ref f3)=true)
  (a4:PySem.W.nsIn K mainGlobals "counts" = some (some (.ref f4)))(l4:K.lookup f4=some ⟨oc4,od4,.func (PySem.W.fnOf "counts" "counts" (J4 sCnt) (JP sCnt) (QD sCnt) .none kV4 dc4 pm4 an4 cd4 ct4),sl4⟩)(c4:PySem.W.codeIn K cd4 "counts" = true)(k4:PySem.W.keepIn K (.ref f4)=true)
  (a5:PySem.W.nsIn K mainGlobals "most_size" = some (some (.ref f5)))(l5:K.lookup f5=some ⟨oc5,od5,.func (PySem.W.fnOf "most_size" "most_size" (J4 QkG) (JP QkG) (QD QkG) .none kV5 dc5 pm5 an5 cd5 ct5),sl5⟩)(c5:PySem.W.codeIn K cd5 "most_size" = true)(k5:PySem.W.keepIn K (.ref f5)=true)
  (a6:PySem.W.nsIn K mainGlobals "ways_to_go_on" = some (some (.ref f6)))(l6:K.lookup f6=some ⟨oc6,od6,.func (PySem.W.fnOf "ways_to_go_on" "ways_to_go_on" (J4 QkE) (JP QkE) (QD QkE) .none kV6 dc6 pm6 an6 cd6 ct6),sl6⟩)(c6:PySem.W.codeIn K cd6 "ways_to_go_on" = true)(k6:PySem.W.keepIn K (.ref f6)=true)
  (a7:PySem.W.nsIn K mainGlobals "ways_with_row" = some (some (.ref f7)))(l7:K.lookup f7=some ⟨oc7,od7,.func (PySem.W.fnOf "ways_with_row" "ways_with_row" (J4 sRow) (JP sRow) (QD sRow) .none kV7 dc7 pm7 an7 cd7 ct7),sl7⟩)(c7:PySem.W.codeIn K cd7 "ways_with_row" = true)(k7:PySem.W.keepIn K (.ref f7)=true)
  (a8:PySem.W.nsIn K mainGlobals "alike" = some (some (.ref f8)))(l8:K.lookup f8=some ⟨oc8,od8,.func (PySem.W.fnOf "alike" "alike" (J4 Qfd) (JP Qfd) (QD Qfd) .none kV8 dc8 pm8 an8 cd8 ct8),sl8⟩)(c8:PySem.W.codeIn K cd8 "alike" = true)(k8:PySem.W.keepIn K (.ref f8)=true)
  (a9:PySem.W.nsIn K mainGlobals "first_way" = some (some (.ref f9)))(l9:K.lookup f9=some ⟨oc9,od9,.func (PySem.W.fnOf "first_way" "first_way" (J4 Qfc) (JP Qfc) (QD Qfc) .none kV9 dc9 pm9 an9 cd9 ct9),sl9⟩)(c9:PySem.W.codeIn K cd9 "first_way" = true)(k9:PySem.W.keepIn K (.ref f9)=true)
  (a10:PySem.W.nsIn K mainGlobals "column_marks" = some (some (.ref f10)))(l10:K.lookup f10=some ⟨oc10,od10,.func (PySem.W.fnOf "column_marks" "column_marks" (J4 Qfb) (JP Qfb) (QD Qfb) .none kV10 dc10 pm10 an10 cd10 ct10),sl10⟩)(c10:PySem.W.codeIn K cd10 "column_marks" = true)(k10:PySem.W.keepIn K (.ref f10)=true)
  (a11:PySem.W.nsIn K mainGlobals "columns_put" = some (some (.ref f11)))(l11:K.lookup f11=some ⟨oc11,od11,.func (PySem.W.fnOf "columns_put" "columns_put" (J4 sPut) (JP sPut) (QD sPut) .none kV11 dc11 pm11 an11 cd11 ct11),sl11⟩)(c11:PySem.W.codeIn K cd11 "columns_put" = true)(k11:PySem.W.keepIn K (.ref f11)=true)
  (a12:PySem.W.nsIn K mainGlobals "unlike" = some (some (.ref f12)))(l12:K.lookup f12=some ⟨oc12,od12,.func (PySem.W.fnOf "unlike" "unlike" (J4 sUnl) (JP sUnl) (QD sUnl) .none kV12 dc12 pm12 an12 cd12 ct12),sl12⟩)(c12:PySem.W.codeIn K cd12 "unlike" = true)(k12:PySem.W.keepIn K (.ref f12)=true)
  (a13:PySem.W.nsIn K mainGlobals "count_at" = some (some (.ref f13)))(l13:K.lookup f13=some ⟨oc13,od13,.func (PySem.W.fnOf "count_at" "count_at" (J4 sCAt) (JP sCAt) (QD sCAt) .none kV13 dc13 pm13 an13 cd13 ct13),sl13⟩)(c13:PySem.W.codeIn K cd13 "count_at" = true)(k13:PySem.W.keepIn K (.ref f13)=true)
  (a14:PySem.W.nsIn K mainGlobals "_law_cell_at" = some (some (.ref f14)))(l14:K.lookup f14=some ⟨oc14,od14,.func (PySem.W.fnOf "_law_cell_at" "_law_cell_at" (J4 Qdy) (JP Qdy) (QD Qdy) .none kV14 dc14 pm14 an14 cd14 ct14),sl14⟩)(c14:PySem.W.codeIn K cd14 "_law_cell_at" = true)(k14:PySem.W.keepIn K (.ref f14)=true)
  (a15:PySem.W.nsIn K mainGlobals "_law_pot" = some (some (.ref f15)))(l15:K.lookup f15=some ⟨oc15,od15,.func (PySem.W.fnOf "_law_pot" "_law_pot" (J4 lPot) (JP lPot) (QD lPot) .none kV15 dc15 pm15 an15 cd15 ct15),sl15⟩)(c15:PySem.W.codeIn K cd15 "_law_pot" = true)(k15:PySem.W.keepIn K (.ref f15)=true)
  (a16:PySem.W.nsIn K mainGlobals "_law_take" = some (some (.ref f16)))(l16:K.lookup f16=some ⟨oc16,od16,.func (PySem.W.fnOf "_law_take" "_law_take" (J4 QkZ) (JP QkZ) (QD QkZ) .none kV16 dc16 pm16 an16 cd16 ct16),sl16⟩)(c16:PySem.W.codeIn K cd16 "_law_take" = true)(k16:PySem.W.keepIn K (.ref f16)=true)
  (a17:PySem.W.nsIn K mainGlobals "_law_whole" = some (some (.ref f17)))(l17:K.lookup f17=some ⟨oc17,od17,.func (PySem.W.fnOf "_law_whole" "_law_whole" (J4 QdK) (JP QdK) (QD QdK) .none kV17 dc17 pm17 an17 cd17 ct17),sl17⟩)(c17:PySem.W.codeIn K cd17 "_law_whole" = true)(k17:PySem.W.keepIn K (.ref f17)=true)
  (a18:PySem.W.nsIn K mainGlobals "_law_same" = some (some (.ref f18)))(l18:K.lookup f18=some ⟨oc18,od18,.func (PySem.W.fnOf "_law_same" "_law_same" (J4 Qk0) (JP Qk0) (QD Qk0) .none kV18 dc18 pm18 an18 cd18 ct18),sl18⟩)(c18:PySem.W.codeIn K cd18 "_law_same" = true)(k18:PySem.W.keepIn K (.ref f18)=true)
  (a19:PySem.W.nsIn K mainGlobals "_law_board" = some (some (.ref f19)))(l19:K.lookup f19=some ⟨oc19,od19,.func (PySem.W.fnOf "_law_board" "_law_board" (J4 Qfs) (JP Qfs) (QD Qfs) .none kV19 dc19 pm19 an19 cd19 ct19),sl19⟩)(c19:PySem.W.codeIn K cd19 "_law_board" = true)(k19:PySem.W.keepIn K (.ref f19)=true)
  (a20:PySem.W.nsIn K mainGlobals "_law_order" = some (some (.ref f20)))(l20:K.lookup f20=some ⟨oc20,od20,.func (PySem.W.fnOf "_law_order" "_law_order" (J4 Qfq) (JP Qfq) (QD Qfq) .none kV20 dc20 pm20 an20 cd20 ct20),sl20⟩)(c20:PySem.W.codeIn K cd20 "_law_order" = true)(k20:PySem.W.keepIn K (.ref f20)=true)
  (a21:PySem.W.nsIn K mainGlobals "_law_orders" = some (some (.ref f21)))(l21:K.lookup f21=some ⟨oc21,od21,.func (PySem.W.fnOf "_law_orders" "_law_orders" (J4 Qdx) (JP Qdx) (QD Qdx) .none kV21 dc21 pm21 an21 cd21 ct21),sl21⟩)(c21:PySem.W.codeIn K cd21 "_law_orders" = true)(k21:PySem.W.keepIn K (.ref f21)=true)
  (a22:PySem.W.nsIn K mainGlobals "_law_counts" = some (some (.ref f22)))(l22:K.lookup f22=some ⟨oc22,od22,.func (PySem.W.fnOf "_law_counts" "_law_counts" (J4 Qcb) (JP Qcb) (QD Qcb) .none kV22 dc22 pm22 an22 cd22 ct22),sl22⟩)(c22:PySem.W.codeIn K cd22 "_law_counts" = true)(k22:PySem.W.keepIn K (.ref f22)=true)
  (a23:PySem.W.nsIn K mainGlobals "_law_led" = some (some (.ref f23)))(l23:K.lookup f23=some ⟨oc23,od23,.func (PySem.W.fnOf "_law_led" "_law_led" (J4 lLed) (JP lLed) (QD lLed) .none kV23 dc23 pm23 an23 cd23 ct23),sl23⟩)(c23:PySem.W.codeIn K cd23 "_law_led" = true)(k23:PySem.W.keepIn K (.ref f23)=true)
  (a24:PySem.W.nsIn K mainGlobals "_law_columns" = some (some (.ref f24)))(l24:K.lookup f24=some ⟨oc24,od24,.func (PySem.W.fnOf "_law_columns" "_law_columns" (J4 Qk1) (JP Qk1) (QD Qk1) .none kV24 dc24 pm24 an24 cd24 ct24),sl24⟩)(c24:PySem.W.codeIn K cd24 "_law_columns" = true)(k24:PySem.W.keepIn K (.ref f24)=true)
  (a25:PySem.W.nsIn K mainGlobals "_law_first" = some (some (.ref f25)))(l25:K.lookup f25=some ⟨oc25,od25,.func (PySem.W.fnOf "_law_first" "_law_first" (J4 Qfr) (JP Qfr) (QD Qfr) .none kV25 dc25 pm25 an25 cd25 ct25),sl25⟩)(c25:PySem.W.codeIn K cd25 "_law_first" = true)(k25:PySem.W.keepIn K (.ref f25)=true)
  (a26:PySem.W.nsIn K mainGlobals "_law_turned" = some (some (.ref f26)))(l26:K.lookup f26=some ⟨oc26,od26,.func (PySem.W.fnOf "_law_turned" "_law_turned" (J4 QkX) (JP QkX) (QD QkX) .none kV26 dc26 pm26 an26 cd26 ct26),sl26⟩)(c26:PySem.W.codeIn K cd26 "_law_turned" = true)(k26:PySem.W.keepIn K (.ref f26)=true)
  (a27:PySem.W.nsIn K mainGlobals "_law_told_of" = some (some (.ref f27)))(l27:K.lookup f27=some ⟨oc27,od27,.func (PySem.W.fnOf "_law_told_of" "_law_told_of" (J4 QkY) (JP QkY) (QD QkY) .none kV27 dc27 pm27 an27 cd27 ct27),sl27⟩)(c27:PySem.W.codeIn K cd27 "_law_told_of" = true)(k27:PySem.W.keepIn K (.ref f27)=true)
  (a28:PySem.W.nsIn K mainGlobals "_law_other" = some (some (.ref f28)))(l28:K.lookup f28=some ⟨oc28,od28,.func (PySem.W.fnOf "_law_other" "_law_other" (J4 Qfp) (JP Qfp) (QD Qfp) .none kV28 dc28 pm28 an28 cd28 ct28),sl28⟩)(c28:PySem.W.codeIn K cd28 "_law_other" = true)(k28:PySem.W.keepIn K (.ref f28)=true)
  (a29:PySem.W.nsIn K mainGlobals "law" = some (some (.ref f29)))(l29:K.lookup f29=some ⟨oc29,od29,.func (PySem.W.fnOf "law" "law" (J4 sLaw) (JP sLaw) (QD sLaw) .none kV29 dc29 pm29 an29 cd29 ct29),sl29⟩)(c29:PySem.W.codeIn K cd29 "law" = true)(k29:PySem.W.keepIn K (.ref f29)=true)
  (z1:PySem.W.nsIn K mainGlobals "isinstance" = some none)
  (z2:PySem.W.nsIn K mainGlobals "int" = some none)
  (z3:PySem.W.nsIn K mainGlobals "bool" = some none)
  (z4:PySem.W.nsIn K mainGlobals "str" = some none)
  (z5:PySem.W.nsIn K mainGlobals "tuple" = some none)
  (z6:PySem.W.nsIn K mainGlobals "list" = some none)
  (z7:PySem.W.nsIn K mainGlobals "all" = some none)
  (z8:PySem.W.nsIn K mainGlobals "len" = some none)
  (z9:PySem.W.nsIn K mainGlobals "zip" = some none)
  (z10:PySem.W.nsIn K mainGlobals "enumerate" = some none)
  (z11:PySem.W.nsIn K mainGlobals "range" = some none)
  (z12:PySem.W.nsIn K mainGlobals "max" = some none)
  (z13:PySem.W.nsIn K mainGlobals "min" = some none)
  (z14:PySem.W.nsIn K mainGlobals "sorted" = some none)
  (z15:PySem.W.nsIn K mainGlobals "sum" = some none)
  (z16:PySem.W.nsIn K mainGlobals "set" = some none)
  (z17:PySem.W.nsIn K mainGlobals "any" = some none)
  (z18:PySem.W.nsIn K mainGlobals "reversed" = some none)
  (z19:PySem.W.nsIn K mainGlobals "divmod" = some none)
  (zD:PySem.W.nsIn K mainGlobals "dict" = some none)
  :
  ∃fd:Q6,(∀(s:Shared)(v:Value),QoH s fd ⟨[v],[]⟩ [("_law_script",v)])/\∀base:Heap,K.In base->base.Ns mainGlobals mg->FnOk l.prog w K mg base CX0 6 fa fd ["_law_script"] (Dl.Qe8 K):=by
 have e:=hfa.symm.trans (PySem.W.mg_of X G a29);cases e;have T:=(⟨(PySem.W.mg_none_of X G z1),(PySem.W.mg_none_of X G z2),(PySem.W.mg_none_of X G z3),(PySem.W.mg_none_of X G z4),(PySem.W.mg_none_of X G z5),(PySem.W.mg_none_of X G z6),(PySem.W.mg_none_of X G z7),(PySem.W.mg_none_of X G z8),(PySem.W.mg_none_of X G z9),(PySem.W.mg_none_of X G z10),(PySem.W.mg_none_of X G z11),(PySem.W.mg_none_of X G z12),(PySem.W.mg_none_of X G z13),(PySem.W.mg_none_of X G z14),(PySem.W.mg_none_of X G z15),(PySem.W.mg_none_of X G z16),(PySem.W.mg_none_of X G z17),(PySem.W.mg_none_of X G z18),(PySem.W.mg_none_of X G z19)⟩:GlbA mg);have F1:=Z8 (st:=QkF) l1 c1 k1;have b1:=F1.binds (ps:=["board"]) λ_ _ _ _ _ _ us hl=>match us,hl with | [_],_=>rfl
 have m1:=PySem.W.mg_of X G a1;have F2:=Z8 (st:=QkH) l2 c2 k2;have b2:=F2.binds (ps:=["many"]) λ_ _ _ _ _ _ us hl=>match us,hl with | [_],_=>rfl
 have m2:=PySem.W.mg_of X G a2;have F3:=Z8 (st:=sOth) l3 c3 k3;have b3:=F3.binds (ps:=["many", "numbers"]) λ_ _ _ _ _ _ us hl=>match us,hl with | [_,_],_=>rfl
 have m3:=PySem.W.mg_of X G a3;have F4:=Z8 (st:=sCnt) l4 c4 k4;have b4:=F4.binds (ps:=["board"]) λ_ _ _ _ _ _ us hl=>match us,hl with | [_],_=>rfl
 have m4:=PySem.W.mg_of X G a4;have F5:=Z8 (st:=QkG) l5 c5 k5;have b5:=F5.binds (ps:=["board"]) λ_ _ _ _ _ _ us hl=>match us,hl with | [_],_=>rfl
 have m5:=PySem.W.mg_of X G a5;have F6:=Z8 (st:=QkE) l6 c6 k6;have b6:=F6.binds (ps:=["board"]) λ_ _ _ _ _ _ us hl=>match us,hl with | [_],_=>rfl
 have m6:=PySem.W.mg_of X G a6;have F7:=Z8 (st:=sRow) l7 c7 k7;have b7:=F7.binds (ps:=["below", "columns", "taken"]) λ_ _ _ _ _ _ us hl=>match us,hl with | [_,_,_],_=>rfl
 have m7:=PySem.W.mg_of X G a7;have F8:=Z8 (st:=Qfd) l8 c8 k8;have b8:=F8.binds (ps:=["one", "other"]) λ_ _ _ _ _ _ us hl=>match us,hl with | [_,_],_=>rfl
 have m8:=PySem.W.mg_of X G a8;have F9:=Z8 (st:=Qfc) l9 c9 k9;have b9:=F9.binds (ps:=["one", "other"]) λ_ _ _ _ _ _ us hl=>match us,hl with | [_,_],_=>rfl
 have m9:=PySem.W.mg_of X G a9;have F10:=Z8 (st:=Qfb) l10 c10 k10;have b10:=F10.binds (ps:=["board", "rows"]) λ_ _ _ _ _ _ us hl=>match us,hl with | [_,_],_=>rfl
 have m10:=PySem.W.mg_of X G a10;have F11:=Z8 (st:=sPut) l11 c11 k11;have b11:=F11.binds (ps:=["marks", "wanted"]) λ_ _ _ _ _ _ us hl=>match us,hl with | [_,_],_=>rfl
 have m11:=PySem.W.mg_of X G a11;have F12:=Z8 (st:=sUnl) l12 c12 k12;have b12:=F12.binds (ps:=["mine", "theirs"]) λ_ _ _ _ _ _ us hl=>match us,hl with | [_,_],_=>rfl
 have m12:=PySem.W.mg_of X G a12;have F13:=Z8 (st:=sCAt) l13 c13 k13;have b13:=F13.binds (ps:=["told", "size"]) λ_ _ _ _ _ _ us hl=>match us,hl with | [_,_],_=>rfl
 have m13:=PySem.W.mg_of X G a13;have F14:=Z8 (st:=Qdy) l14 c14 k14;have b14:=F14.binds (ps:=["_law_script", "_law_k"]) λ_ _ _ _ _ _ us hl=>match us,hl with | [_,_],_=>rfl
 have m14:=PySem.W.mg_of X G a14;have F15:=Z8 (st:=lPot) l15 c15 k15;have b15:=F15.binds (ps:=["_law_cell"]) λ_ _ _ _ _ _ us hl=>match us,hl with | [_],_=>rfl
 have m15:=PySem.W.mg_of X G a15;have F16:=Z8 (st:=QkZ) l16 c16 k16;have b16:=F16.binds (ps:=["_law_pot_here", "_law_far"]) λ_ _ _ _ _ _ us hl=>match us,hl with | [_,_],_=>rfl
 have m16:=PySem.W.mg_of X G a16;have F17:=Z8 (st:=QdK) l17 c17 k17;have b17:=F17.binds (ps:=["_law_found"]) λ_ _ _ _ _ _ us hl=>match us,hl with | [_],_=>rfl
 have m17:=PySem.W.mg_of X G a17;have F18:=Z8 (st:=Qk0) l18 c18 k18;have b18:=F18.binds (ps:=["_law_found", "_law_due"]) λ_ _ _ _ _ _ us hl=>match us,hl with | [_,_],_=>rfl
 have m18:=PySem.W.mg_of X G a18;have F19:=Z8 (st:=Qfs) l19 c19 k19;have b19:=F19.binds (ps:=["_law_pot_here", "_law_high", "_law_wide"]) λ_ _ _ _ _ _ us hl=>match us,hl with | [_,_,_],_=>rfl
 have m19:=PySem.W.mg_of X G a19;have F20:=Z8 (st:=Qfq) l20 c20 k20;have b20:=F20.binds (ps:=["_law_pot_here", "_law_many"]) λ_ _ _ _ _ _ us hl=>match us,hl with | [_,_],_=>rfl
 have m20:=PySem.W.mg_of X G a20;have F21:=Z8 (st:=Qdx) l21 c21 k21;have b21:=F21.binds (ps:=["_law_many"]) λ_ _ _ _ _ _ us hl=>match us,hl with | [_],_=>rfl
 have m21:=PySem.W.mg_of X G a21;have F22:=Z8 (st:=Qcb) l22 c22 k22;have b22:=F22.binds (ps:=["_law_board_here"]) λ_ _ _ _ _ _ us hl=>match us,hl with | [_],_=>rfl
 have m22:=PySem.W.mg_of X G a22;have F23:=Z8 (st:=lLed) l23 c23 k23;have b23:=F23.binds (ps:=["_law_board_here", "_law_rows", "_law_columns_here"]) λ_ _ _ _ _ _ us hl=>match us,hl with | [_,_,_],_=>rfl
 have m23:=PySem.W.mg_of X G a23;have F24:=Z8 (st:=Qk1) l24 c24 k24;have b24:=F24.binds (ps:=["_law_board_here", "_law_rows"]) λ_ _ _ _ _ _ us hl=>match us,hl with | [_,_],_=>rfl
 have m24:=PySem.W.mg_of X G a24;have F25:=Z8 (st:=Qfr) l25 c25 k25;have b25:=F25.binds (ps:=["_law_one", "_law_other_here"]) λ_ _ _ _ _ _ us hl=>match us,hl with | [_,_],_=>rfl
 have m25:=PySem.W.mg_of X G a25;have F26:=Z8 (st:=QkX) l26 c26 k26;have b26:=F26.binds (ps:=["_law_board_here"]) λ_ _ _ _ _ _ us hl=>match us,hl with | [_],_=>rfl
 have m26:=PySem.W.mg_of X G a26;have F27:=Z8 (st:=QkY) l27 c27 k27;have b27:=F27.binds (ps:=["_law_one", "_law_other_here"]) λ_ _ _ _ _ _ us hl=>match us,hl with | [_,_],_=>rfl
 have m27:=PySem.W.mg_of X G a27;have F28:=Z8 (st:=Qfp) l28 c28 k28;have b28:=F28.binds (ps:=["_law_pot_here", "_law_board_here"]) λ_ _ _ _ _ _ us hl=>match us,hl with | [_,_],_=>rfl
 have m28:=PySem.W.mg_of X G a28;have F29:=Z8 (st:=sLaw) l29 c29 k29;refine⟨PySem.W.fnOf "law" "law" (J4 sLaw) (JP sLaw) (QD sLaw) .none kV29 dc29 pm29 an29 cd29 ct29,λs v=>.of_eq rfl,λbase _ _=>?_⟩;have G1:FnOk l.prog w K mg base CX0 2 f1 _ ["board"] (Dl.ZP false Qil):=Quo F1 T ;have G3:FnOk l.prog w K mg base CX0 1 f3 _ ["many", "numbers"] (Dl.ZP false QzD):=Qxc F3 T ;have G2:FnOk l.prog w K mg base CX0 2 f2 _ ["many"] (Dl.ZP true QkL):=Quu F2 T m3 G3 b3 k3;have G5:FnOk l.prog w K mg base CX0 1 f5 _ ["board"] (Dl.ZP false Quz):=Qup F5 T ;have G7:FnOk l.prog w K mg base CX0 1 f7 _ ["below", "columns", "taken"] (Dl.ZP true QsW):=Qum F7 T ;have G6:FnOk l.prog w K mg base CX0 2 f6 _ ["board"] (Dl.ZP true QsX):=Qun F6 T m7 G7 b7 k7;have G4:FnOk l.prog w K mg base CX0 3 f4 _ ["board"] (Dl.ZP true QiV):=Qxf F4 T m6 G6 b6 k6 m5 G5 b5 k5;have G10:FnOk l.prog w K mg base CX0 1 f10 _ ["board", "rows"] (Dl.ZP true QAd):=Qxg F10 T ;have G11:FnOk l.prog w K mg base CX0 1 f11 _ ["marks", "wanted"] (Dl.ZP false Qu8):=Qut F11 T ;have G9:FnOk l.prog w K mg base CX0 3 f9 _ ["one", "other"] (Dl.ZP false Qk5):=Qus F9 T m10 G10 b10 k10 m2 G2 b2 k2 m11 G11 b11 k11;have G13:FnOk l.prog w K mg base CX0 1 f13 _ ["told", "size"] (Dl.ZP false QAe):=Qxh F13 T ;have G12:FnOk l.prog w K mg base CX0 2 f12 _ ["mine", "theirs"] (Dl.ZP false Qy9):=Qxa F12 T m13 G13 b13 k13;have G8:FnOk l.prog w K mg base CX0 4 f8 _ ["one", "other"] (Dl.ZP false alD):=QpH F8 T m9 G9 b9 k9 m1 G1 b1 k1 m4 G4 b4 k4 m12 G12 b12 k12;have G14:FnOk l.prog w K mg base CX0 1 f14 _ ["_law_script", "_law_k"] (Qc0 K):=QmX F14 T ;have G15:FnOk l.prog w K mg base CX0 1 f15 _ ["_law_cell"] (Dl.ZP true Dl.Qzu):=(Qxb F15 T).imp λ_ _ _ _ h=>Dl.Qzt h
 have G16:FnOk l.prog w K mg base CX0 1 f16 _ ["_law_pot_here", "_law_far"] (Dl.ZP true Dl.QlU):=(QmR F16 T).imp λ_ _ _ _ h=>Dl.Qv1 h
 have G17:FnOk l.prog w K mg base CX0 1 f17 _ ["_law_found"] (Dl.ZP false Dl.QrG):=QmU F17 T ;have G18:FnOk l.prog w K mg base CX0 5 f18 _ ["_law_found", "_law_due"] (Dl.ZP false (Dl.Qti 3)):=(QmS F18 T m18 b18 k18 m17 (QmQ F17 T) b17 k17 4).imp λ_ _ _ _ h=>Dl.Qwe h
 have G19:FnOk l.prog w K mg base CX0 2 f19 _ ["_law_pot_here", "_law_high", "_law_wide"] (Dl.ZP false Qyy):=QmW F19 T m16 G16 b16 k16;have G20:FnOk l.prog w K mg base CX0 2 f20 _ ["_law_pot_here", "_law_many"] (Dl.ZP false QiI):=(QmT F20 T m16 ((QmR F16 T).imp λ_ _ _ _ h=>Qs1 h) b16 k16).imp λ_ _ _ _ h=>Quf h
 have G21:FnOk l.prog w K mg base CX0 1 f21 _ ["_law_many"] (Dl.ZP false QkL):=QpF F21 T ;have G22:FnOk l.prog w K mg base CX0 1 f22 _ ["_law_board_here"] (Dl.ZP true QuK):=(Qur (PySem.W.mg_none_of X G zD) F22 T).imp λ_ _ _ _ h=>QAc h
 have G23:FnOk l.prog w K mg base CX0 1 f23 _ ["_law_board_here", "_law_rows", "_law_columns_here"] (Dl.ZP false QuF):=Qxd F23 T ;have G24:FnOk l.prog w K mg base CX0 1 f24 _ ["_law_board_here", "_law_rows"] (Dl.ZP true Qnh):=QpG F24 T ;have G25:FnOk l.prog w K mg base CX0 2 f25 _ ["_law_one", "_law_other_here"] (Dl.ZP false Qk5):=QmV F25 T m24 G24 b24 k24 m21 G21 b21 k21;have G26:FnOk l.prog w K mg base CX0 2 f26 _ ["_law_board_here"] (Dl.ZP false Qil):=QpD F26 T ;have G27:FnOk l.prog w K mg base CX0 3 f27 _ ["_law_one", "_law_other_here"] (Dl.ZP false alD):=QpE F27 T m25 G25 b25 k25 m26 G26 b26 k26 m22 G22 b22 k22;have G28:FnOk l.prog w K mg base CX0 3 f28 _ ["_law_pot_here", "_law_board_here"] (Dl.ZP false QuE):=Quq F28 T m16 G16 b16 k16 m19 G19 b19 k19 m23 G23 b23 k23 m20 G20 b20 k20 m26 G26 b26 k26;exact Qxe F29 T m14 G14 b14 k14 m15 G15 b15 k15 m16 G16 b16 k16 m19 G19 b19 k19 m28 G28 b28 k28 m27 G27 b27 k27 m8 G8 b8 k8 m18 G18 b18 k18
theorem QBd{l:PySem.W.OpenLaw}{q:Qy}{loose:List Str}{XP:(Str->Option Value)->Heap->Prop}{YP:Jc->Heap->Prop}{d:DefRec}{K:Params->PySem.W.Frag}(hn:l.most=some 63)(hdf:d.params.defaults=[])
  (hY:∀(w:Jc)(h:Heap),YP w h->(K w.params).In h)
  (F:∀(w:Jc)(mg:Str->Option Value)(fa:Addr)(h:Heap),(K w.params).In h->h.Ns mainGlobals mg->mg d.name=some (.ref fa) ->
   ∃fd:Q6,(∀(s:Shared)(u:Value),QoH s fd ⟨[u],[]⟩ [("_law_script",u)])/\∀base:Heap,(K w.params).In base->base.Ns mainGlobals mg->FnOk l.prog w (K w.params) mg base CX0 6 fa fd ["_law_script"] (Dl.Qe8 (K w.params))) :
  PySem.W.WalkO q loose XP YP l.row.toRowW d [] (λf vs=>PySem.call f vs):=
 L2.Qs0 (n:=63) (k:=6) (x := "_law_script") (CX:=λ_=>CX0) (sp:=λw=>(Dl.Qe8 (K w.params))) hn (by decide) hdf ⟨rfl,by decide,by decide⟩ hY F (λ_ _ a ns hl _ hS=>⟨a,ns,rfl,hS,hl,λ_=>rfl⟩) λ_ _ _ _ _ z=>z
end Rk
open PySem.W
set_option maxRecDepth 100000 in
set_option maxHeartbeats 0 in
theorem PySem.Challenge.cw_rooklands_k86_boards_alike_or_not_holds : PySem.Challenge.rw_rooklands_k86_boards_alike_or_not.Holds := by
 w_on;o_law;k_head;(case hw=>w_witness2)
 k_fill
 refine Rk.QBd (l:=PySem.Challenge.rw_rooklands_k86_boards_alike_or_not) rfl rfl (λw h Y=>PySem.W.kIn_of Y) ?F
 case F=>
  intro w mg fa h KX G hmg;refine' Rk.Qyb KX G hmg ?a1 ?l1 ?c1 ?k1 ?a2 ?l2 ?c2 ?k2 ?a3 ?l3 ?c3 ?k3 ?a4 ?l4 ?c4 ?k4 ?a5 ?l5 ?c5 ?k5 ?a6 ?l6 ?c6 ?k6 ?a7 ?l7 ?c7 ?k7 ?a8 ?l8 ?c8 ?k8 ?a9 ?l9 ?c9 ?k9 ?a10 ?l10 ?c10 ?k10 ?a11 ?l11 ?c11 ?k11 ?a12 ?l12 ?c12 ?k12 ?a13 ?l13 ?c13 ?k13 ?a14 ?l14 ?c14 ?k14 ?a15 ?l15 ?c15 ?k15 ?a16 ?l16 ?c16 ?k16 ?a17 ?l17 ?c17 ?k17 ?a18 ?l18 ?c18 ?k18 ?a19 ?l19 ?c19 ?k19 ?a20 ?l20 ?c20 ?k20 ?a21 ?l21 ?c21 ?k21 ?a22 ?l22 ?c22 ?k22 ?a23 ?l23 ?c23 ?k23 ?a24 ?l24 ?c24 ?k24 ?a25 ?l25 ?c25 ?k25 ?a26 ?l26 ?c26 ?k26 ?a27 ?l27 ?c27 ?k27 ?a28 ?l28 ?c28 ?k28 ?a29 ?l29 ?c29 ?k29 ?z1 ?z2 ?z3 ?z4 ?z5 ?z6 ?z7 ?z8 ?z9 ?z10 ?z11 ?z12 ?z13 ?z14 ?z15 ?z16 ?z17 ?z18 ?z19 ?zD
  (case a1=>k_is)
  (case l1=>k_is)
  (case c1=>k_is)
  (case k1=>k_is)
  (case a2=>k_is)
  (case l2=>k_is)
  (case c2=>k_is)
  (case k2=>k_is)
  (case a3=>k_is)
  (case l3=>k_is)
  (case c3=>k_is)
  (case k3=>k_is)
  (case a4=>k_is)
  (case l4=>k_is)
  (case c4=>k_is)
  (case k4=>k_is)
  (case a5=>k_is)
  (case l5=>k_is)
  (case c5=>k_is)
  (case k5=>k_is)
  (case a6=>k_is)
  (case l6=>k_is)
  (case c6=>k_is)
  (case k6=>k_is)
  (case a7=>k_is)
  (case l7=>k_is)
  (case c7=>k_is)
  (case k7=>k_is)
  (case a8=>k_is)
  (case l8=>k_is)
  (case c8=>k_is)
  (case k8=>k_is)
  (case a9=>k_is)
  (case l9=>k_is)
  (case c9=>k_is)
  (case k9=>k_is)
  (case a10=>k_is)
  (case l10=>k_is)
  (case c10=>k_is)
  (case k10=>k_is)
  (case a11=>k_is)
  (case l11=>k_is)
  (case c11=>k_is)
  (case k11=>k_is)
  (case a12=>k_is)
  (case l12=>k_is)
  (case c12=>k_is)
  (case k12=>k_is)
  (case a13=>k_is)
  (case l13=>k_is)
  (case c13=>k_is)
  (case k13=>k_is)
  (case a14=>k_is)
  (case l14=>k_is)
  (case c14=>k_is)
  (case k14=>k_is)
  (case a15=>k_is)
  (case l15=>k_is)
  (case c15=>k_is)
  (case k15=>k_is)
  (case a16=>k_is)
  (case l16=>k_is)
  (case c16=>k_is)
  (case k16=>k_is)
  (case a17=>k_is)
  (case l17=>k_is)
  (case c17=>k_is)
  (case k17=>k_is)
  (case a18=>k_is)
  (case l18=>k_is)
  (case c18=>k_is)
  (case k18=>k_is)
  (case a19=>k_is)
  (case l19=>k_is)
  (case c19=>k_is)
  (case k19=>k_is)
  (case a20=>k_is)
  (case l20=>k_is)
  (case c20=>k_is)
  (case k20=>k_is)
  (case a21=>k_is)
  (case l21=>k_is)
  (case c21=>k_is)
  (case k21=>k_is)
  (case a22=>k_is)
  (case l22=>k_is)
  (case c22=>k_is)
  (case k22=>k_is)
  (case a23=>k_is)
  (case l23=>k_is)
  (case c23=>k_is)
  (case k23=>k_is)
  (case a24=>k_is)
  (case l24=>k_is)
  (case c24=>k_is)
  (case k24=>k_is)
  (case a25=>k_is)
  (case l25=>k_is)
  (case c25=>k_is)
  (case k25=>k_is)
  (case a26=>k_is)
  (case l26=>k_is)
  (case c26=>k_is)
  (case k26=>k_is)
  (case a27=>k_is)
  (case l27=>k_is)
  (case c27=>k_is)
  (case k27=>k_is)
  (case a28=>k_is)
  (case l28=>k_is)
  (case c28=>k_is)
  (case k28=>k_is)
  (case a29=>k_is)
  (case l29=>k_is)
  (case c29=>k_is)
  (case k29=>k_is)
  (case z1=>k_is)
  (case z2=>k_is)
  (case z3=>k_is)
  (case z4=>k_is)
  (case z5=>k_is)
  (case z6=>k_is)
  (case z7=>k_is)
  (case z8=>k_is)
  (case z9=>k_is)
  (case z10=>k_is)
  (case z11=>k_is)
  (case z12=>k_is)
  (case z13=>k_is)
  (case z14=>k_is)
  (case z15=>k_is)
  (case z16=>k_is)
  (case z17=>k_is)
  (case z18=>k_is)
  (case z19=>k_is)
  (case zD=>k_is)
