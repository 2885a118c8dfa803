import PyProof.Rows.All
import Wide.All
import OpenK.AllK
import Wide.FinOn
import Lean
import PyProof.EqAt
import PyProof.EqKinds
import PyProof.TupleCall
import PyProof.P3Eq
import PyProof.Draws
import PyProof.EnumMake
import PyProof.NeData
import KE.LcSums
import PyProof.Rows.SortRuns
import PyProof.Rows.SortShellK
import PyProof.WalkInts
import PyProof.SeqI3
import KE.KSortTup
import KE.KRevIter
import PyProof.FactsAll.range_2
import PyProof.Rows.CallKwBuiltin
import PyProof.Rows.SortRev
import PyProof.SetRoads
import PyProof.FactsAll.set_1
import PyProof.Rows.SetFrom
import PyProof.CollectWalk
import PyProof.Walks
import PyProof.TupleIter
import PyProof.TupleKey
import PyProof.WalksMore
import KE.KDictOf
import PyProof.Rows.TupDisplay
import PySem.Challenge.RW_rooklands_k88_whole_likes
local macro_rules | `(tactic| omega) => `(tactic| first | lia | omega +splitDisjunctions)
open List renaming range->Qa,getElem?_eq_getElem->Qc,getD_eq_getElem?_getD->Qd,length_map->Qe,length_range->Qh,size_toArray->Qm,getElem?_map->Qo,getElem?_eq_none->Qp,getElem?_range->Qr,length_cons->Qt,mem_range->Qu,length_append->Qy,mem_cons->Qz,map_congr_left->QH,mem_filter->QN,mem_map->QQ,map_map->QV,map_cons->QY,replicate->QZ,ext_getElem?->Ja,getElem?_eq_some_iff->Jh,mem_singleton->Ji,nodup_range->Jl,lookup_cons->Jm,getElem?_append_right->Jn,mem_of_getElem?->Jo,pairwise_iff_getElem->Jq,mem_append_right->Jr,mem_cons_of_mem->Ju,mem_iff_getElem?->Jx,filter_cons_of_pos->Jy,filter_cons_of_neg->Jz,countP_eq_length_filter->JD,not_mem_nil->JJ,nodup_cons->JL,map_append->JO,replicate_succ->JU,idxOf_lt_length_of_mem->JV,countP_map->JW,take_length->JY,range_succ->J6,getElem?_append_left->J7,countP_congr->Zd,mem_cons_self->Zj,take_add_one->Zs,filterMap_map->ZB,mem_flatMap->ZD,getElem?_replicate->ZL,getElem?_cons_succ->ZM,flatten_cons->ZN,flatMap_cons->ZO,getElem_mem->Z1,toArray->Z3,sum_cons->Z4,filterMap_append->Z5,pairwise_map->Yf,nodup_append->Yg,mem_append->Yh,length_set->Yi,append_nil->Yj,toList_toArray->Yq,range'->Yr,filterMap_cons->Ys,mem_toArray->Yv,length_take->Yw,countP_cons->Yx,countP_append->YC,all_eq_true->Y5,length_nil->Qag,getElem_idxOf->Qah,take_append_drop->Qaw,length_replicate->Qax,length_drop->QaI,flatMap_append->QaZ,filter_eq_self->Qa0,countP_eq_zero->Qa1,perm_ext_iff_of_nodup->Qbd,findSome?_eq_none_iff->Qbe,zip_cons_cons->Qbi,find?_eq_none->Qbj,filter_append->Qbk,nodup_nil->Qbv,filter_congr->QbG,map_id->Qb2,length_eq_zero_iff->Qb3,take_of_length_le->Qcp,pairwise_lt_range->Qcq,length_pos_of_mem->Qcr,getElem?_set_self->Qcs,length_filter_le->QcR,isPerm_iff->QcS,mem_iff_getElem->Qdu,mem_append_left->Qdv,getElem?_set_ne->Qdw,pairwise_cons->Qeg,mem_filterMap->Qeh,map_take->Qei,length_range'->Qej,getElem?_set->Qfa,append_assoc->Qfb,map_flatMap->Qfu,flatMap_map->Qfv,take_range->Qhb,of_mem_zip->Qhc,lookup->Qhd,find?_some->Qhe,drop_zero->Qiq,drop_eq_getElem_cons->Qir,length_erase_of_mem->QiC,getElem?_cons_zero->Qjp,perm_append_comm->Qli,length_singleton->Qlj,count_cons_of_ne->Qlk,pairwise_append->Qlx,mem_of_mem_drop->Qly,mem_erase_of_ne->Qlz,getElem?_range'->QlA,count_cons_self->QlB,length->Qoj,countP_flatMap->Qok,zip_nil_right->Qow,map_filterMap->Qox,zip_nil_left->Qrz,take_sublist->QrA,reverse_cons->QrB,foldl->QrC,range'_succ->QsP,perm_middle->QsQ,getElem_map->QsR,getElem_inj->QsS,any_eq_true->QsT,sum_append->QvI,nil_append->QvJ,foldr_cons->QvK,foldl_cons->QvL,filter_nil->QvM,count_cons->QvN,count_nil->Qv1,take_nil->QyT,drop_nil->QyU,any_cons->QyV,zipWith->Qzv,map_nil->Qzw,any_map->Qzx
open PySem renaming PyData->Qb,wpAny_pure->Qj,Program->QB,FuncData->Q0,Around->Q1,Expr->Q3,wpAny_newObj_type->Jc,World->Jd,wpAny_holding->J3,codeAny_builtin->Zc,wpAny_call_entry->Ze,wpAny_of_eq->Zy,wpAny_callSpecial?_slot->ZT,wpAny_truthy_bool->ZV,wpAny_loadPart'->ZZ,plainId_quiet->Yb,sizeLine_eq->Yk,Builtin->YF,wpAny_askSetting->YM,Stmt->YO,wpAny_field->Y1,mem_of_lookup->Y4,Scope->Qan,wpAny_Call_Name_kw->Qat,ReadsAll->Qau,wpAny_setState_of->QaJ,call_meets->QaK,Keyword->QaL,NameKind->QaO,Paired->Qbc,wpAny_updateSeq->Qby,wpAny_passesOwn->Qbz,Fin->QbB,wpAny_typeOf->QbY,wpAny_pyIter_tuple->QbZ,codeAny_mono->Qb0,Operator->Qb1,wpAny_setField->Qcj,wpAny_seqItems->Qck,isSubtype_type->Qcl,wpAny_pyIter_list->Qcx,wpAny_pyIter_enum->Qcy,wpAny_comprehension_free->Qcz,rangeSize_one->QcU,wpAny_pyNext_list_item->Qdy,wpAny_pyIter_rangeiter->Qdz,codeAny_compStart_list->QdA,codeAny_of_tree->Qea,builtinLookup_eq_fast->Qeb,wpAny_newFunctionEnv->Qev,Reads->Qew,wpAny_tryCatch->Qe8,seqIndex_of->Qff,IsRange->Qfk,Comprehension->Qf6,intKind_is->Qhh,seqIndex_neg->Qim,IsPart->Qis,wpAny_forIn_list->Qix,wpAny_eqBool_int->Qiy,noFill_tuple_add->Qiz,wpAny_letGo->Qkp,wpAny_execs_nil->Qkq,typeLookup_type->Qkr,PyData->Qks,IsRangeIter->Qku,wpAny_letOwnedTupleGo_enum->Qle,wpAny_runValue->Qlp,Result->Qoh,wpAny_newList->Qoq,seq_tuple_add->Qor,call->Qot,BindsTo->QoB,wpAny_pyNext_range_end->Qrs,wpAny_getItem_list_neg->Qrt,wpAny_Call_method_late->Qru,richCompare_meets_room->Qrw,wpAny_pyNext_list_end->QsH,exec_Assign_Name_used->QsI,concat_meets->QsJ,CmpOp->QsV,wpAny_loadName_local->QvD,wpAny_setEntries_of->QvV,wpAny_loadName_cell->QvW,wpAny_List_spliced->QyO,Within->QyQ,wpAny_storeSet_of->Qy9,wpAny_sequenceKey->Qza,wpAny_pyIter_slot->Qzb,wpAny_load->Qzc,wpAny_assign_Name->Qzd,wpAny_Name->Qze,typeIs_int->Qzf,slot_list_getitem->Qzg,Model->Qzu
open PySem.W renaming Frag->Qf,keepIn->Qg,nsIn->Qx,codeIn->QM,fnOf->QR,mg_of->QX,mg_none_of->Q2,kia_one->Zi,methodObj->Qec,instObj->Qfh,OpenLaw->Qfi,lookIn->Qf2,kitOne->Qf3,cellsFrom_some->Qip,kitx_list->Qlr,kitx_dict->Qls,plainGet->Qoi,findIn->Qry,WalkO->QsM
open PySem.Heap renaming get?_push_of_some->Qi,lt_size->Qq,get?_push_size->Qs,get?_update_self->JX,get?_update_other->J5,size_push->Z9,SameBut->Qay
open PySem.PyData renaming int->Qk,eqv->QC,depthAll->Q5,canLayAll0->Q8,depth->Jw,tuple->Zk,list->YG,canLay0->Qbb,bool->Qds,eqvAll->QdZ,str->Qzt
open Nat renaming le_refl->Ql,le_trans->QJ,ne_of_lt->QL,lt_of_lt_of_le->QP,zero_le->Q9,le_of_lt->J4,lt_trichotomy->ZQ,lt_succ_of_lt->Ym,lt_of_le_of_lt->YI,add_sub_cancel->YJ,lt_irrefl->YV,zero_add->Qaz,ne_of_gt->QaA,pow_le_pow_right->QaN,succ_pos->Qbu,mul_le_mul->QbE,le_succ->Qcm,sub_zero->QcZ,sub_self->Qc0,mod_lt->Qdt,mul_assoc->Qex,min_le_right->Qf4,le_max_right->Qf5,not_lt_zero->Qhj,min_eq_left->Qhk,testBit_lt_two_pow->Qlh,succ_mul->Qlt,succ_add->Qlu,pow_succ->Qlv,add_comm->Qlw,testBit_two_pow->Qov,le_of_lt_succ->QsO,lt_succ_self->QvG,le_add_right->QvH,testBit_or->QyS
open Int renaming toNat_natCast->Qv,zero_add->YR,le_trans->Qfw,add_zero->Qfx,le_antisymm->Qhl,eq_ofNat_of_zero_le->Qkv,toNat->QlC,le_of_lt->QlD,le_refl->Qoy,natCast_nonneg->QrD,emod_lt_of_pos->QrE,natCast_mul->Qv2,emod_nonneg->Qv3
open Array renaming length_toList->Qw,getElem_toList->J1,getElem?_eq_getElem->Zu,getElem?_eq_none->ZS,getD_eq_getD_getElem?->YN,getD->QaP,perm_iff_toList_perm->Qa2,getElem?_toList->QcC,mem_toList_iff->Qc1,replicate->Qf9,mem_of_getElem?->Qkw,toList_append->QlE,size_map->QvQ,toList->QyY
open Bool renaming false_ne_true->QD,and_eq_true_iff->Jf,eq_iff_iff->JA,and_eq_true->JK,false_eq_true->Qaj,false_and->QdD,not_eq_true'->Qfc,and_false->Qiv,or_eq_true->QvP,true_and->QyX
open Option.some renaming inj->QK
open Or renaming inr->Q4,inl->Q6
open PySem.NameKind renaming free->Jb,cell->YK
open PySem.Builtin.Range renaming rangeSize->Jk,rangeFitsLong->JC,small->QbI,rangeFields->QzG
open PySem.Value renaming none->Js,ref->Zn,bool->ZA,int->Z0,type->YQ,builtin->QiA,notImplemented->Qlf,str->QsK,float->Qzk
open PySem.SetTable renaming bits->JE,below->JI,runEnd->Zr,Probe->ZY,leap->Ye,turns->Yp,insertAt->Qaf,fits->Qbt,advance->QbA,fresh->QcA,grown->Qft,toList_insertAt->Qf1,slot->Qg8,laid->Qg9,fill->Qha,has->Qio,layClean->Qlg
open PySem.Around renaming under_plainId->JH
open PySem.PassesOwn renaming never->JR
open PyProof.Rows renaming slot_tuple_getitem->JT,callWith_type1->Zb,IntsAre->Y2,Keyed->Y6,SortKind->Qbg,sortedHeap_old->Qe9,AllBare->Qfl,sortedHeap_at->QfZ,assignInOrder_cons->Qf0,size_push'->Qhg,list_sort_tree->Qlq,listUpdate_at->Qos,subscriptTail_builtinR->Qrv,seqEpoch_at->QvX,entry_tuple_getitem->QvY,args_tuple_getitem->QyP,assignInOrder_nil->Qzh
open Prod.mk renaming inj->J8
open PySem.Str renaming ofString->Zf
open PySem.Obj renaming mapSeq->Zg,data_mapFields->YH,isFreed_of_fields->QcY,cls_mapFields->Qfj,mapFields->Qkt,putSet->QsN
open PySem.Builtin.Int renaming intBits->Zl,intTooBig->Qf7
open PySem.Builtin.Tuple renaming tupleExact->Zo,tupleCompareSizes->QcB,tupleItemsOf->Qd0,tupleIsExact->QzD
open PySem.Builtin renaming bitAnd->Zp,bitOr->QdC
open PySem.SetTable.probe renaming go->Zw
open PySem.SetTable.layClean renaming free->Zx
open List.Perm renaming refl->ZE,eq_of_pairwise->YX,swap->Qol
open PySem.Heap.SameBut renaming update->ZF,refl->Qit
open ForInStep renaming yield->ZJ
open Option renaming map_eq_some_iff->ZP,getD_none->Qou,none->QyR
open Classical renaming byContradiction->ZW
open PySem.F renaming plainAttrs_list->Yl,plain_min_loop->YD,slot_tuple_iterator_next->Y3,called_set->Qai,args_tuple_add_2->Qbh,entry_tuple_add->QbC,slot_tuple_add->QbH,plain_list_iadd->Qcn,slot_range_reversed->QdB,entry_min_loop->Qhm,args_tuple_iterator_next_1->Qiu,slot_set_iter->QiB,entry_tuple_iterator_next->QiD,plain_proto_collect->Qoz,entry_proto_collect->QoA,plain_reversed_new->QrF,args_object_init_2->QrG,args_list_count_2->QsU,entry_list_count->QvO,slot_list_count->Qv4,entry_list_iadd->Qv5,slot_int_rmul->QzB,plain_set_new->QzC
open PySem.Builtin.SmallTypes renaming nextOf->Yt
open False renaming elim->Yy
open PyProof.Rows.F renaming plain_set_update_loop->YB,entry_set_update_loop->QbD
open PySem.Builtin.Slice renaming slicePlaces->YE,sliceAdjust->QaB,sliceApplied->Qd1,slicePartIndex->QzE,sliceFields->QzF
open PySem.Builtin.List renaming listTooLong->YS,listExtendWith->Qas,listSameRef->Qey
open Ne renaming symm->Qav
open PySem.SetTable.below renaming go->QaG
open PySem.Challenge renaming rw_rooklands_k88_whole_likes->QaH,pw_rooklands_k88_whole_likes->Qv0
open List.Pairwise renaming filter->QbF,imp_of_mem->Qek,nil->Qzy,map->Qzz,imp₂->QzA
open PySem.Builtin.Builtins renaming bindParams->QcT
open True renaming intro->QcV
open Sum renaming inl->QcW,inr->Qhi
open Prod renaming ext->QcX
open PySem.SeqAt renaming eqAt_reads->Qfg,list_countAt->Qog
open PySem.AutoSeq1 renaming sub_tuple_tuple->Qf8
open PySem.Calls renaming Name_function_global->Qhf,call_function_entry->Qhn,callWith_builtin->Qjq,evalArgs_plain->Qll
open PySem.Shared renaming TypeIs->Qin
open String renaming splitOnAux->Qof,splitOn->QsL
open PySem.pickOrder renaming go->Qrx
open PySem.Builtin.Frozenset renaming updateFrom->QsW,newClass->QsX
open Std.Legacy.Range renaming forIn_eq_forIn_range'->QvE
open PySem.Paired renaming length->QvF
open Sum.inl renaming inj->QvZ
open PySem.Heap.IsSliceOf renaming new->QyW
open PySem.Walks renaming range->Qzi
open PySem.W.WShape renaming has->Qzj
open PySem.EqMixed renaming ne_str_int->Qzl,ne_str_bool->Qzm,ne_int_str->Qzn,ne_bool_str->Qzo,eq_str_int->Qzp,eq_str_bool->Qzq,eq_int_str->Qzr,eq_bool_str->Qzs
open PySem PySem.Spec PyProof.Rows
set_option Elab.async false
set_option linter.all false
set_option maxRecDepth 100000
namespace L2
abbrev Key:=Sum Int Str
def Qx0:Key->Value->Bool
 |.inl k,v=>Value.isInt k v
 |.inr x,v=>Value.isStrOf x v
def QB7(w:Jd):Key->Int
 |.inl k=>hashInt k
 |.inr x=>hashStr w x
theorem Yd:∀{k:Key}{v:Value},Qx0 k v=true->(∃i t,k=QcW i/\v=Z0 i t)∨(∃x t,k=Qhi x/\v=QsK x t)
 |.inl i,v,h=>by
  obtain⟨t,e⟩:=Value.isInt_shape (k:=i) (v:=v) h;exact .inl ⟨i,t,rfl,e⟩
 |.inr x,v,h=>by
  obtain⟨t,e⟩:=Value.isStrOf_shape (x:=x) (v:=v) h;exact .inr ⟨x,t,rfl,e⟩
theorem QxZ(a b:Int):decide ((QcW a:Key)=QcW b)=(a == b):=by
 by_cases e:a=b
 ·subst e;simp
 ·have h:¬(QcW a:Key)=QcW b:=λq=>e (QvZ q)
  rw[decide_eq_false h];exact(beq_eq_false_iff_ne.mpr e).symm
theorem QxW(a b:Str):decide ((Qhi a:Key)=Qhi b)=decide (a=b):=by
 by_cases e:a=b
 ·subst e;simp
 ·have h:¬(Qhi a:Key)=Qhi b:=λq=>e (Sum.inr.inj q)
  rw[decide_eq_false h,decide_eq_false e]
theorem QxY(a:Int)(b:Str):decide ((QcW a:Key)=Qhi b)=false:=decide_eq_false (λq=>nomatch q)
theorem QxX(a:Str)(b:Int):decide ((Qhi a:Key)=QcW b)=false:=decide_eq_false (λq=>nomatch q)
def mixKind(prog:QB)(w:Jd):PySem.KeyKind prog w Key where
 is:=Qx0
 hash:=QB7 w
 inj:=λv a b ha hb=>by
  rcases Yd ha with⟨i,t,rfl,rfl⟩ | ⟨x,t,rfl,rfl⟩
  ·rcases Yd hb with⟨j,u,rfl,e⟩ | ⟨y,u,rfl,e⟩
   ·injection e with e1 _;rw[e1]
   ·exact nomatch e
  ·rcases Yd hb with⟨j,u,rfl,e⟩ | ⟨y,u,rfl,e⟩
   ·exact nomatch e
   ·injection e with e1 _;rw[e1]
 byValue:=λk v h=>by
  rcases Yd h with⟨i,t,rfl,rfl⟩ | ⟨x,t,rfl,rfl⟩<;>rfl
 pyHash:=λhv h=>by
  rcases Yd hv with⟨i,t,rfl,rfl⟩ | ⟨x,t,rfl,rfl⟩
  ·exact wpAny_pyHash_int h
  ·exact wpAny_pyHash_str h
 eqBool:=λhu hv h=>by
  rcases Yd hu with⟨i,t,rfl,rfl⟩ | ⟨x,t,rfl,rfl⟩
  ·rcases Yd hv with⟨j,u,rfl,rfl⟩ | ⟨y,u,rfl,rfl⟩
   ·rw[QxZ] at h;exact Qiy h
   ·rw[QxY] at h;exact SeqAt.EqAt.int_str i t y u _ _ _ _ h
  ·rcases Yd hv with⟨j,u,rfl,rfl⟩ | ⟨y,u,rfl,rfl⟩
   ·rw[QxX] at h;exact SeqAt.EqAt.str_int x t j u _ _ _ _ h
   ·rw[QxW] at h;exact wpAny_eqBool_str h
 «strs» := λk x t v h=>by
  rcases Yd h with⟨i,u,rfl,e⟩ | ⟨y,u,rfl,e⟩
  ·exact nomatch e
  ·injection e with e1 _
   subst e1;cases v<;>rfl
inductive V where
 |non | bl (b:Bool) | int (i:Int) | str (x:Str) | byt (b:Array UInt8) | flt (b:UInt64) | ref (a:Addr) | ty (n:String)
 deriving DecidableEq
def RelV:V->Value->Prop
 |.non,u=>u=Js
 |.bl b,u=>u=ZA b
 |.int i,u=>∃t,u=Z0 i t
 |.str x,u=>∃t,u=QsK x t
 |.byt b,u=>∃t,u=Value.bytes b t
 |.flt b,u=>∃t,u=Qzk b t
 |.ref a,u=>u=Zn a
 |.ty n,u=>u=YQ n
abbrev Vals:List V->List Value->Prop:=Qbc RelV
theorem Vals.length{xs:List V}{us:List Value}(r:Vals xs us):xs.length=us.length:=QvF r
theorem Vals.get:∀{xs:List V}{us:List Value}{i:Nat}{x:V},Vals xs us->xs[i]? = some x->∃u,us[i]? = some u/\RelV x u
 |_,_,_,_,.nil,e=>by simp at e
 |_,_,0,_,.cons r _,e=>by simp at e;subst e;exact⟨_,rfl,r⟩
 |_,_,i+1,x,.cons _ t,e=>by
  obtain⟨u,h1,h2⟩:=Vals.get (i:=i) (x:=x) t (by simpa using e);exact⟨u,by simpa using h1,h2⟩
theorem Vals.set{x:V}{u:Value}(r:RelV x u):∀{xs:List V}{us:List Value}(i:Nat),Vals xs us->Vals (xs.set i x) (us.set i u)
 |_,_,_,.nil=>.nil
 |_,_,0,.cons _ t=>.cons r t
 |_,_,i+1,.cons q t=>.cons q (Vals.set r i t)
theorem Vals.append:∀{xs ys:List V}{us ws:List Value},Vals xs us->Vals ys ws->Vals (xs++ys) (us++ws)
 |_,_,_,_,.nil,s=>s
 |_,_,_,_,.cons r t,s=>.cons r (Vals.append t s)
theorem Vals.take:∀{xs:List V}{us:List Value}(n:Nat),Vals xs us->Vals (xs.take n) (us.take n)
 |_,_,0,_=>.nil
 |_,_,_+1,.nil=>.nil
 |_,_,n+1,.cons r t=>.cons r (Vals.take n t)
theorem Vals.drop:∀{xs:List V}{us:List Value}(n:Nat),Vals xs us->Vals (xs.drop n) (us.drop n)
 |_,_,0,r=>r
 |_,_,_+1,.nil=>.nil
 |_,_,n+1,.cons _ t=>Vals.drop n t
def QAZ:Option V->Option Value->Prop
 |some v,some u=>RelV v u
 |none,none=>True
 |_,_=>False
def KV{κ:Type}:List (κ×V)->List (κ×Value)->Prop:=Qbc λ(p:κ×V)(q:κ×Value)=>p.1=q.1/\RelV p.2 q.2
def kV:Key->V
 |.inl i=>.int i
 |.inr x=>.str x
inductive HO where
 /-- a list -/
 |lst (xs:List V)
 /-- a tuple (never changes) -/
 |tup (xs:List V)
 /-- a dict whose keys are ints and texts;one whose keys are tuples of ints and texts (the empty one is both) -/
 |dK (kvs:List (Key×V)) | dT (kvs:List (List Key×V))
 /-- a set of ints: its members,its size -/
 |set (S:Int->Bool) (n:Nat)
 /-- an instance of the class at C,its dict at dx,its attributes -/
 |ins (C dx:Addr) (fs:List (Str×V))
 /-- the dict of the instance at x -/
 |own (x:Addr)
 /-- the dict of an exception -/
 |xd (fs:List (Str×V))
 /-- a bound method,f of x -/
 |met (f x:Addr)
 /-- a range object lo,lo+1,.. below hi -/
 |rng (lo hi:Int)
 /-- a thing that is known to the object (the script;a dict while a loop walks it): read,never written while it is so -/
 |frz (o:Obj) (u:HO)
 /-- a code object's table -/
 |tbl (ps:Array Value)
 /-- any other thing,by what is true of its one object (a def of one's own: SetO a S n:=HO.ext λh=>..) -/
 |ext (φ:Heap->Prop)
abbrev Hp:=Addr->Option HO
def upd(H:Hp)(a:Addr)(o:HO):Hp:=λb=>if b=a then some o else H b
theorem Jj{H:Hp}{a:Addr}{o:HO}:upd H a o a=some o:=by unfold upd;rw[if_pos rfl]
theorem JM{H:Hp}{a b:Addr}{o:HO}(h:b≠a):upd H a o b=H b:=by unfold upd;rw[if_neg h]
theorem ZI{H:Hp}{a b:Addr}{o:HO}(h:H a=some o)(h':H b=none):a≠b:=by
 intro e;subst e;rw[h] at h';cases h'
def TupN(h:Heap)(a:Addr)(items:Array Value):Prop:=∃o,h.get? a=some o/\o.cls=.type "tuple" /\ o.dict=none/\∃n,o.data=.seq items n
theorem TupN.tup{h:Heap}{a:Addr}{items:Array Value}(x:TupN h a items):IsTup h a items:=let ⟨o,e,c,_,d⟩:=x;⟨o,e,c,d⟩
theorem TupN.lt{h:Heap}{a:Addr}{items:Array Value}(x:TupN h a items):a<h.objs.size:=let ⟨_,e,_⟩:=x;Qq e
theorem TupN.new(h:Heap)(items:Array Value):TupN (h.push { cls:=.type "tuple",data:=.seq items }) h.objs.size items:=⟨_,Qs _ rfl,rfl,rfl,_,rfl⟩
section
variable(P:QB)(w:Jd)
def ObjOk(H:Hp)(h:Heap)(a:Addr):HO->Prop
 |.lst xs=>xs.length<=sizeLine/\∃(its:List Value)(n:Nat),Vals xs its/\h.get? a=some { cls:=.type "list",data:=.seq its.toArray n }
 |.tup xs=>xs.length<=sizeLine/\∃its:List Value,Vals xs its/\TupN h a its.toArray
 |.dK kvs=>kvs.length<=sizeLine/\(a == sysModules)=false/\∃vs,KV kvs vs/\h.DictOf (mixKind P w) a vs
 |.dT kvs=>kvs.length<=sizeLine/\(a == sysModules)=false/\∃xs:List (List Key×Addr×Value),
   Qbc (λ(p:List Key×V)(q:List Key×Addr×Value)=>p.1=q.1/\H q.2.1=some (.tup (p.1.map kV))/\RelV p.2 q.2.2) kvs xs /\
   ∃o es ep,h.get? a=some o/\o.ExactDict/\o.data=.dict es ep/\es.toList=xs.map (entryOfKey (tupleKind (mixKind P w)))/\(xs.map (·.1)).Nodup
 |.set S n=>h.SetOf (intKind P w) a S n
 |.ins C dx fs=>H dx=some (.own a)/\fs.length<=1000/\dx≠a/\h.get? a=some (PySem.W.instObj C dx) /\
   ∃mA,h.Ns1 dx mA/\(∀f,QAZ (fs.lookup f) (mA f))/\PySem.Within mA (fs.map (·.1))
 |.own _=>∃o,h.get? a=some o
 |.xd fs=>∃mA,h.Ns1 a mA/\∀f,QAZ (fs.lookup f) (mA f)
 |.rng lo hi=>∃t u v,h.get? a=some { cls:=.type "range",data:=.fields #[.int lo t,.int hi u,.int 1 v] }
 |.frz o u=>h.get? a=some o/\ObjOk H h a u
 |.tbl ps=>h.get? a=some { cls:=.none,data:=.fields ps }
 |.met f x=>h.get? a=some (PySem.W.methodObj (.ref f) (.ref x))
 |.ext φ=>φ h/\(∃o,h.get? a=some o)/\∀h1 h2:Heap,φ h1->(∀o,h1.get? a=some o->h2.get? a=some o)->φ h2
def HOk(H:Hp)(h:Heap):Prop:=∀a o,H a=some o->ObjOk P w H h a o
end
section
variable{P:QB}{w:Jd}{H H':Hp}{h h':Heap}{a:Addr}{o:HO}
theorem ObjOk.lt(x:ObjOk P w H h a o):a<h.objs.size:=by
 cases o with
 |lst xs=>obtain⟨_,_,_,_,e⟩:=x;exact Qq e
 |tup xs=>obtain⟨_,_,_,p⟩:=x;exact p.lt
 |dK kvs=>obtain⟨_,_,_,_,o,_,_,e,_⟩:=x;exact Qq e
 |dT kvs=>obtain⟨_,_,_,_,o,_,_,e,_⟩:=x;exact Qq e
 |set S n=>obtain⟨o,_,_,_,e,_⟩:=x;exact Qq e
 |ins C dx fs=>obtain⟨_,_,_,e,_⟩:=x;exact Qq e
 |own y=>obtain⟨_,e⟩:=x;exact Qq e
 |xd fs=>obtain⟨_,⟨_,_,_,e,_⟩,_⟩:=x;exact Qq e
 |rng lo hi=>obtain⟨_,_,_,e⟩:=x;exact Qq e
 |frz ob u=>obtain⟨e,_⟩:=x;exact Qq e
 |tbl ps=>exact Qq (show h.get? a=some _ from x)
 |met f y=>exact Qq (show h.get? a=some _ from x)
 |ext φ=>obtain⟨_,⟨_,e⟩,_⟩:=x;exact Qq e
theorem Qbc.mapP{α β:Type}{F G:α->β->Prop}:∀{l₁:List α}{l₂:List β},Qbc F l₁ l₂->(∀a b,F a b->G a b)->Qbc G l₁ l₂
 |_,_,.nil,_=>.nil
 |_,_,.cons r t,f=>.cons (f _ _ r) (Qbc.mapP t f)
theorem ObjOk.stay(x:ObjOk P w H h a o)(k:∀b u,(b=a∨H b=some (.own a))->h.get? b=some u->h'.get? b=some u)
  (ho:∀b,H b=some (.own a)->H' b=some (.own a))(ht:∀b xs,H b=some (.tup xs)->H' b=some (.tup xs)):ObjOk P w H' h' a o:=by
 induction o with
 |lst xs=>obtain⟨z,its,n,r,e⟩:=x;exact⟨z,its,n,r,k _ _ (.inl rfl) e⟩
 |tup xs=>obtain⟨z,its,r,ob,e,c⟩:=x;exact⟨z,its,r,ob,k _ _ (.inl rfl) e,c⟩
 |dK kvs=>obtain⟨z,y,vs,r,ob,es,ep,e,c⟩:=x;exact⟨z,y,vs,r,ob,es,ep,k _ _ (.inl rfl) e,c⟩
 |dT kvs=>
  obtain⟨z,y,xs,r,ob,es,ep,e,c⟩:=x;exact⟨z,y,xs,Qbc.mapP r λp q z=>⟨z.1,ht _ _ z.2.1,z.2.2⟩,ob,es,ep,k _ _ (.inl rfl) e,c⟩
 |set S n=>obtain⟨ob,es,ep,t,e,c⟩:=x;exact⟨ob,es,ep,t,k _ _ (.inl rfl) e,c⟩
 |ins C dx fs=>
  obtain⟨d,z,ne,e,mA,⟨od,es,ep,e2,c⟩,r⟩:=x;exact⟨ho _ d,z,ne,k _ _ (.inl rfl) e,mA,⟨od,es,ep,k _ _ (.inr d) e2,c⟩,r⟩
 |own y=>obtain⟨ob,e⟩:=x;exact⟨ob,k _ _ (.inl rfl) e⟩
 |xd fs=>obtain⟨mA,⟨od,es,ep,e,c⟩,r⟩:=x;exact⟨mA,⟨od,es,ep,k _ _ (.inl rfl) e,c⟩,r⟩
 |rng lo hi=>obtain⟨t,u,v,e⟩:=x;exact⟨t,u,v,k _ _ (.inl rfl) e⟩
 |frz ob u ih=>obtain⟨e,q⟩:=x;exact⟨k _ _ (.inl rfl) e,ih q⟩
 |tbl ps=>
  have e:h.get? a=some { cls:=.none,data:=.fields ps }:=x;show h'.get? a=some { cls:=.none,data:=.fields ps };exact k a _ (.inl rfl) e
 |met f y=>
  have e:h.get? a=some (PySem.W.methodObj (.ref f) (.ref y)):=x;show h'.get? a=some (PySem.W.methodObj (.ref f) (.ref y));exact k a _ (.inl rfl) e
 |ext φ=>obtain⟨p,⟨o,e⟩,st⟩:=x;exact⟨st _ _ p λo q=>k _ _ (.inl rfl) q,⟨o,k _ _ (.inl rfl) e⟩,st⟩
theorem HOk.lt(x:HOk P w H h)(e:H a=some o):a<h.objs.size:=(x a o e).lt
theorem HOk.fresh(x:HOk P w H h)(e:h.objs.size<=a):H a=none:=by
 cases q:H a with
 |none=>rfl
 |some u=>exact absurd (QP (x.lt q) e) (YV _)
theorem HOk.kept(x:HOk P w H h)(k:∀b u,h.get? b=some u->h'.get? b=some u):HOk P w H h':=λa o e=>
 (x a o e).stay (λb u _ q=>k b u q) (λ_ q=>q) λ_ _ q=>q
theorem HOk.laid(x:HOk P w H h)(k:∀b u,h.get? b=some u->h'.get? b=some u)(hp:h.objs.size<=a)(new:ObjOk P w (upd H a o) h' a o):HOk P w (upd H a o) h':=λb u e=>by
 have hn:=x.fresh hp;by_cases hb:b=a
 ·subst hb;rw[Jj] at e;cases e;exact new
 ·rw[JM hb] at e;exact(x b u e).stay (λc v _ q=>k c v q) (λc q=>by rw[JM (ZI q hn)];exact q) λc xs q=>by rw[JM (ZI q hn)];exact q
end
def Rd(H:Hp)(a:Addr)(u:HO):Prop:=H a=some u∨∃o,H a=some (.frz o u)
theorem Rd.ok{P:QB}{w:Jd}{H:Hp}{h:Heap}{a:Addr}{u:HO}(r:Rd H a u)(x:HOk P w H h):ObjOk P w H h a u:=by
 rcases r with r | ⟨o,r⟩
 ·exact x a u r
 ·obtain⟨_,q⟩:=x a _ r;exact q
def Mut:Option HO->Prop
 |some (.lst _)=>True
 |some (.dK _)=>True
 |some (.dT _)=>True
 |some (.set _ _)=>True
 |some (.ins _ _ _)=>True
 |some (.ext _)=>True
 |_=>False
section
variable{P:QB}{w:Jd}{H:Hp}{h h':Heap}{x e:Addr}{o':HO}
theorem HOk.write(ok:HOk P w H h)(mu:Mut (H x))(he:e=x∨H e=some (.own x))(k:∀b u,b≠e->h.get? b=some u->h'.get? b=some u)(heo:∃u,h'.get? e=some u)
  (new:ObjOk P w (upd H x o') h' x o'):HOk P w (upd H x o') h':=λb u q=>by
 have nown:∀c y,H c=some (.own y)->c≠x:=λc y r z=>by subst z;rw[r] at mu;exact mu
 have ntup:∀c xs,H c=some (.tup xs)->c≠x:=λc xs r z=>by subst z;rw[r] at mu;exact mu
 by_cases hb:b=x
 ·subst hb;rw[Jj] at q;cases q;exact new
 ·rw[JM hb] at q;by_cases hbe:b=e
  ·have q':H b=some (.own x):=by
    rcases he with z | z
    ·exact absurd (hbe.trans z) hb
    ·rw[hbe];exact z
   rw[q] at q';cases q';obtain⟨v,hv⟩:=heo;exact⟨v,by rw[hbe];exact hv⟩
  ·refine(ok b u q).stay (λc v hc r=>k c v ?_ r) (λc r=>by rw[JM (nown c b r)];exact r) λc xs r=>by rw[JM (ntup c xs r)];exact r
   rcases hc with rfl | hc
   ·exact hbe
   ·rintro rfl;rcases he with z | z
    ·exact nown c b hc z
    ·rw[hc] at z;cases z;exact hb rfl
end
structure Un (fs ex:List Addr) (H H':Hp) (h h':Heap):Prop where
 keep:∀b o,h.get? b=some o->H b=none->b∉fs->b∉ex->h'.get? b=some o
 slot:∀b o,h.get? b=some o->H b=none->b∈fs->b∉ex->∃sl,h'.get? b=some { o with slots:=sl }
 free:∀b o,h.get? b=some o->H b=none->b∉ex->H' b=none
 there:∀b o,h.get? b=some o->b∉ex->∃o',h'.get? b=some o'
 tups:∀b xs,H b=some (.tup xs)->H' b=some (.tup xs)
 frzs:∀b o u,H b=some (.frz o u)->H' b=some (.frz o u)
 tbls:∀b ps,H b=some (.tbl ps)->∃more,H' b=some (.tbl (ps++more))
section
variable{fs fs' ex ex':List Addr}{H H1 H2:Hp}{h h1 h2 h':Heap}{a x e:Addr}{o:HO}
theorem Un.any(u:Un fs ex H H1 h h1){b:Addr}{ob:Obj}(q:h.get? b=some ob)(n:H b=none)(hx:b∉ex):∃sl,h1.get? b=some { ob with slots:=sl }:=by
 by_cases hb:b∈fs
 ·exact u.slot b ob q n hb hx
 ·exact⟨ob.slots,u.keep b ob q n hb hx⟩
theorem Un.kept(k:∀b u,h.get? b=some u->h'.get? b=some u):Un fs ex H H h h':=
 ⟨λb ob q _ _ _=>k b ob q,λb ob q _ _ _=>⟨ob.slots,k b ob q⟩,λ_ _ _ n _=>n,λb ob q _=>⟨ob,k b ob q⟩,λ_ _ q=>q,λ_ _ _ q=>q,λ_ ps q=>⟨#[],by rw[q];simp⟩⟩
theorem Un.refl:Un fs ex H H h h:=Un.kept λ_ _ q=>q
theorem Un.laid(k:∀b u,h.get? b=some u->h'.get? b=some u)(hp:h.objs.size<=a)(hn:H a=none):Un fs ex H (upd H a o) h h' where
 keep:=λb u q _ _ _=>k b u q
 slot:=λb u q _ _ _=>⟨u.slots,k b u q⟩
 free:=λb u q n _=>by rw[JM (QL (QP (Qq q) hp))];exact n
 there:=λb u q _=>⟨u,k b u q⟩
 tups:=λb xs q=>by rw[JM (ZI q hn)];exact q
 frzs:=λb u xs q=>by rw[JM (ZI q hn)];exact q
 tbls:=λb ps q=>⟨#[],by rw[JM (ZI q hn),q];simp⟩
theorem Un.write(mu:Mut (H x))(he:e=x∨H e=some (.own x))(k:∀b u,b≠e->h.get? b=some u->h'.get? b=some u)(heo:∃u,h'.get? e=some u):Un fs ex H (upd H x o) h h':=by
 have hx:∀b,H b=none->b≠x:=λb n z=>by subst z;rw[n] at mu;exact mu
 have hb:∀b,H b=none->b≠e:=λb n z=>by
  subst z;rcases he with r | r
  ·exact hx b n r
  ·rw[n] at r;cases r
 have hm:∀b u,H b=some u->¬Mut (some u)->b≠x:=λb u q nm z=>by subst z;rw[q] at mu;exact nm mu
 refine⟨λb u q n _ _=>k b u (hb b n) q,λb u q n _ _=>⟨u.slots,k b u (hb b n) q⟩,λb u q n _=>by rw[JM (hx b n)];exact n,λb u q _=>?_,
  λb xs q=>by rw[JM (hm b _ q λz=>z)];exact q,λb u xs q=>by rw[JM (hm b _ q λz=>z)];exact q,λb ps q=>⟨#[],by rw[JM (hm b _ q λz=>z),q];simp⟩⟩
 by_cases hbe:b=e
 ·subst hbe;exact heo
 ·exact⟨u,k b u hbe q⟩
end
def trk(h:Heap)(H:Hp):List Addr:=(Qa h.objs.size).filter λa=>(H a).isSome
def Qp0(h:Heap)(H:Hp):Heap:=PySem.W.hideAll h (trk h H)
theorem Qni(h:Heap)(H:Hp):(Qp0 h H).objs.size=h.objs.size:=PySem.W.hideAll_size _ _
theorem QpZ{h:Heap}{H:Hp}{b:Addr}{o:Obj}(e:h.get? b=some o)(n:H b=none):(Qp0 h H).get? b=some o:=
 PySem.W.hideAll_get _ e λhm=>by
  have q:(H b).isSome=true:=(QN.mp hm).2;rw[n] at q;simp at q
theorem Quw{h:Heap}{H:Hp}{b:Addr}{o:Obj}(e:(Qp0 h H).get? b=some o):h.get? b=some o/\H b=none:=by
 have e':h.get? b=some o:=PySem.W.of_hideAll (trk h H) e;refine⟨e',?_⟩;cases q:H b with
 |none=>rfl
 |some x=>
  have hm:b∈trk h H:=QN.mpr ⟨Qu.mpr (Qq e'),by simp[q]⟩;have z:(Qp0 h H).get? b=none:=PySem.W.hideAll_none (trk h H) hm;rw[z] at e;cases e
def Qvz(g h:Heap)(L:Addr):List (Addr×Obj):=(Qa h.objs.size).filterMap λa=>if a=L∨(g.get? a).isSome=true then none else(h.get? a).map λo=>(a,o)
def rest(g h:Heap)(L d:Addr):List (Addr×Obj):=(Qvz g h L).filter λp=>decide (p.1≠d)
structure Mod (K:PySem.W.Frag) (mg:Str->Option Value) (base:Heap):Prop where
 kin:K.In base
 glob:base.Ns mainGlobals mg
 blt:∃mb,base.Ns builtinsNs mb/\∀x:Str,x ≠ "__name__" -> mb x=bootBuiltins x
 nolimit:base.NoLimit
structure Cx where
 prog:QB
 w:Jd
 K:PySem.W.Frag
 mg:Str->Option Value
 base:Heap
 A:Q1
 N:List Str
 s₀:Shared
 H₀:Hp
 env:Env
 outer:List Env
 stack:List Env
 ex:List Addr
 fn:Str->Bool
 calm:Bool
 pn:List (Addr×Obj)
 xe:Value->Shared->Prop
def frs(l:List Env):List Addr:=l.filterMap (·.frame)
abbrev Cx.fs (X:Cx):List Addr:=frs X.outer
def Vis(sc:Qan)(x:Str):Prop:=sc.names.lookup x=some .local∨sc.names.lookup x=some .cell∨sc.names.lookup x=some .free
def Loc(sc:Qan)(x:Str):Prop:=sc.names.lookup x=some .local∨sc.names.lookup x=some .cell
def Look(env:Env)(h:Heap)(m:Str->Option Value)(x:Str)(u:Value):Prop:=
 (env.kindOf x=some .local/\m x=some u)∨((env.kindOf x=some .cell∨env.kindOf x=some .free)/\∃c,env.cells.lookup x=some c/\h.IsCell c (some u))
structure Cx.Ok (X:Cx):Prop where
 mod:Mod X.K X.mg X.base
 kind:X.env.scope.kind=.function
 glob:X.env.globals=mainGlobals
 blt:X.env.builtins=builtinsNs
 above:X.s₀.heap.objs.size<=X.env.locals
 inj:∀x y c,X.env.cells.lookup x=some c->X.env.cells.lookup y=some c->x=y
 has:∀x,(X.env.kindOf x=some .cell∨X.env.kindOf x=some .free)->∃c,X.env.cells.lookup x=some c
 cab:∀x c,X.fn x=true->X.env.cells.lookup x=some c->X.s₀.heap.objs.size<=c
 hd:X.calm=true->X.A.handled=none
 frames:X.A.frames=some X.stack
 stk:X.stack=X.outer∨(X.stack=X.env::X.outer/\X.env.frame=some X.env.locals)
 exf:∀b∈X.ex,b≠X.env.locals/\∀x c,X.env.cells.lookup x=some c->c≠b
 bs:∀b o,X.base.get? b=some o->X.s₀.heap.get? b=some o/\X.H₀ b=none
 bsz:X.base.objs.size<=X.s₀.heap.objs.size
 noex:∀b o,X.base.get? b=some o->b∉X.ex
 exfs:∀b∈X.ex,b∉X.fs
 funs:X.s₀.heap.FunFrames X.base X.outer
 frf:∀b∈X.fs,X.H₀ b=none
structure Inv (X:Cx) (pins:List (Addr×Obj)) (σ:List (Option V)) (H:Hp) (s:Shared):Prop where
 ok:X.Ok
 os:s.os=X.s₀.os
 bare:Qfl s.gens
 base:Un X.fs X.ex X.H₀ H X.s₀.heap s.heap
 loc:∃m,s.heap.Ns X.env.locals m/\∀(i:Nat)(x:Str)(v:V),X.N[i]? = some x->σ[i]? = some (some v)->Vis X.env.scope x->∃u,RelV v u/\Look X.env s.heap m x u
 cell:∀x c,X.env.cells.lookup x=some c->∃v,s.heap.IsCell c v
 free:H X.env.locals=none
 freeC:∀x c,X.env.cells.lookup x=some c->H c=none
 pin:∀p∈X.pn++pins,s.heap.get? p.1=some p.2/\H p.1=none/\p.1≠X.env.locals/\p.1∉X.fs/\∀v,p.2.data≠.cell v
 hok:HOk X.prog X.w H s.heap
 len:σ.length=X.N.length
section
variable{X:Cx}{pins:List (Addr×Obj)}{σ:List (Option V)}{H H':Hp}{s:Shared}{h':Heap}
theorem Cx.Ok.nofr(ok:X.Ok){b:Addr}{o:Obj}(e:X.base.get? b=some o):b∉X.fs:=λhb=>by
 have:=(ok.funs.mem hb).1;rw[e] at this;cases this
theorem Inv.bs(I:Inv X pins σ H s):∀b o,X.base.get? b=some o->s.heap.get? b=some o/\H b=none:=λb o e=>
 ⟨I.base.keep b o (I.ok.bs b o e).1 (I.ok.bs b o e).2 (I.ok.nofr e) (I.ok.noex b o e),I.base.free b o (I.ok.bs b o e).1 (I.ok.bs b o e).2 (I.ok.noex b o e)⟩
theorem Inv.bk(I:Inv X pins σ H s):∀b o,X.base.get? b=some o->s.heap.get? b=some o:=λb o e=>(I.bs b o e).1
theorem Inv.mod(I:Inv X pins σ H s):Mod X.K X.mg X.base:=I.ok.mod
theorem Inv.kIn(I:Inv X pins σ H s):X.K.In s.heap:=I.ok.mod.kin.keeps I.bk
theorem Inv.fr(I:Inv X pins σ H s):∃m,Fr X.base X.env.locals s.heap m:=
 let ⟨m,hn,_⟩:=I.loc
 ⟨m,hn,I.bk,QJ I.ok.bsz I.ok.above⟩
theorem Inv.lt(I:Inv X pins σ H s):X.env.locals<s.heap.objs.size:=let ⟨_,hn,_⟩:=I.loc;hn.lt
theorem Inv.sz(I:Inv X pins σ H s):X.s₀.heap.objs.size<=s.heap.objs.size:=QJ I.ok.above (J4 I.lt)
theorem Inv.nofs(I:Inv X pins σ H s){a:Addr}(h:s.heap.objs.size<=a):a∉X.fs:=λhb=>by
 obtain⟨_,o,ho,_⟩:=I.ok.funs.mem hb;exact absurd (QP (Qq ho) (QJ I.sz h)) (YV _)
theorem Inv.cne(I:Inv X pins σ H s):∀x c,X.env.cells.lookup x=some c->c≠X.env.locals:=λx c e z=>by
 obtain⟨v,o,ho,hd⟩:=I.cell x c e;obtain⟨m,⟨o',es,ep,ho',hd',_⟩,_⟩:=I.loc;rw[z,ho'] at ho;cases ho;rw[hd'] at hd;cases hd
theorem Inv.funs(I:Inv X pins σ H s):s.heap.FunFrames X.base X.outer:=by
 have all:∀(l:List Env),(∀b∈frs l,b∈X.fs)->X.s₀.heap.FunFrames X.base l->s.heap.FunFrames X.base l:=by
  intro l;induction l with
  |nil=>intro _ _;trivial
  |cons env r ih=>
   intro hs hl;obtain⟨hk,⟨L,o,hf,hn,ho,hd⟩,hr⟩:=hl;have hL:L∈X.fs:=hs L (by unfold frs;rw[Ys,hf];exact Zj);obtain⟨sl,e⟩:=I.base.slot L o ho (I.ok.frf L hL) hL λz=>I.ok.exfs L z hL
   exact⟨hk,⟨L,_,hf,hn,e,hd⟩,ih (λb hb=>hs b (by unfold frs;rw[Ys,hf];exact Ju _ hb)) hr⟩
 exact all X.outer (λ_ hb=>hb) I.ok.funs
theorem Inv.stack(I:Inv X pins σ H s):s.heap.FunFrames X.base X.stack:=by
 rcases I.ok.stk with e | ⟨e,hf⟩
 ·rw[e];exact I.funs
 ·rw[e];obtain⟨m,hn,_⟩:=I.loc;refine .cons (by rw[I.ok.kind];decide) hf hn ?_ I.funs
  exact Heap.get?_none_of_le (QJ I.ok.bsz I.ok.above)
theorem Inv.stkSub(I:Inv X pins σ H s):∀b∈frs X.stack,b∈X.env.locals::X.fs:=λb hb=>by
 rcases I.ok.stk with e | ⟨e,hf⟩
 ·rw[e] at hb;exact Ju _ hb
 ·rw[e] at hb;unfold frs at hb;rw[Ys,hf] at hb;exact hb
theorem Inv.stkFree(I:Inv X pins σ H s):∀b∈frs X.stack,H b=none:=λb hb=>by
 rcases Qz.mp (I.stkSub b hb) with e | hb
 ·rw[e];exact I.free
 ·obtain⟨_,o,ho,_⟩:=I.ok.funs.mem hb;exact I.base.free b o ho (I.ok.frf b hb) λz=>I.ok.exfs b z hb
theorem Inv.step{g':Array GenState}{t':Nat}{d':Drawn}{ch:List Addr}(I:Inv X pins σ H s)
  (hch:∀b∈ch,(b∈X.ex∨X.s₀.heap.objs.size<=b)/\b≠X.env.locals/\(∀x c,X.env.cells.lookup x=some c->c≠b)/\∀p∈X.pn++pins,p.1≠b)
  (keep:∀b o,b≠X.env.locals->b∉X.fs->b∉ch->s.heap.get? b=some o->H b=none->h'.get? b=some o)
  (slot:∀b o,b≠X.env.locals->b∈X.fs->b∉ch->s.heap.get? b=some o->H b=none->∃sl,h'.get? b=some { o with slots:=sl })(free:∀b o,b∉ch->s.heap.get? b=some o->H b=none->H' b=none)
  (there:∀b o,b∉ch->s.heap.get? b=some o->∃o',h'.get? b=some o')
  (tups:∀b xs,H b=some (.tup xs)->H' b=some (.tup xs))(frzs:∀b o u,H b=some (.frz o u)->H' b=some (.frz o u))(tbls:∀b ps,H b=some (.tbl ps)->∃more,H' b=some (.tbl (ps++more)))
  (ns:∀m,s.heap.Ns X.env.locals m->h'.Ns X.env.locals m)(hok:HOk X.prog X.w H' h')(hg:Qfl g') :
  Inv X pins σ H' { s with heap:=h',gens:=g',drawn:=d',toks:=t' }:=by
 have neL:∀b o,X.s₀.heap.get? b=some o->b≠X.env.locals:=λb o e=>QL (QP (Qq e) I.ok.above)
 have neC:∀b o,X.s₀.heap.get? b=some o->b∉X.ex->b∉ch:=λb o e hx hb=>by
  rcases(hch b hb).1 with z | z
  ·exact hx z
  ·exact absurd (QP (Qq e) z) (YV _)
 have cellK:∀x c,X.env.cells.lookup x=some c->∀v,s.heap.IsCell c v->h'.IsCell c v:=λx c e v ⟨o,ho,hd⟩=>by
  have nch:c∉ch:=λz=>(hch c z).2.2.1 x c e rfl
  by_cases hc:c∈X.fs
  ·obtain⟨sl,q⟩:=slot c o (I.cne x c e) hc nch ho (I.freeC x c e);exact⟨_,q,hd⟩
  ·exact⟨o,keep c o (I.cne x c e) hc nch ho (I.freeC x c e),hd⟩
 refine⟨I.ok,I.os,hg,⟨λb o e n hb hx=>?_,λb o e n hb hx=>?_,λb o e n hx=>?_,λb o e hx=>?_,λb xs e=>tups b xs (I.base.tups b xs e),λb o xs e=>frzs b o xs (I.base.frzs b o xs e),λb ps e=>?_⟩,?_,λx c e=>?_,?_,λx c e=>?_,λp hp=>?_,hok,I.len⟩
 ·exact keep b o (neL b o e) hb (neC b o e hx) (I.base.keep b o e n hb hx) (I.base.free b o e n hx)
 ·obtain⟨sl,e1⟩:=I.base.slot b o e n hb hx;obtain⟨sl',e2⟩:=slot b _ (neL b o e) hb (neC b o e hx) e1 (I.base.free b o e n hx);exact⟨sl',e2⟩
 ·obtain⟨o',e1⟩:=I.base.there b o e hx;exact free b o' (neC b o e hx) e1 (I.base.free b o e n hx)
 ·obtain⟨o',e1⟩:=I.base.there b o e hx;exact there b o' (neC b o e hx) e1
 ·obtain⟨m1,e1⟩:=I.base.tbls b ps e;obtain⟨m2,e2⟩:=tbls b _ e1;exact⟨m1++m2,by rw[e2,Array.append_assoc]⟩
 ·obtain⟨m,hn,hl⟩:=I.loc;refine⟨m,ns m hn,λi x v e1 e2 e3=>?_⟩;obtain⟨u,r,l⟩:=hl i x v e1 e2 e3;refine⟨u,r,?_⟩;rcases l with l | ⟨k,c,e,z⟩
  ·exact .inl l
  ·exact .inr ⟨k,c,e,cellK x c e _ z⟩
 ·obtain⟨v,z⟩:=I.cell x c e;exact⟨v,cellK x c e v z⟩
 ·obtain⟨m,⟨o,_,_,ho,_⟩,_⟩:=I.loc;exact free _ o (λz=>(hch _ z).2.1 rfl) ho I.free
 ·obtain⟨v,o,ho,hd⟩:=I.cell x c e;exact free c o (λz=>(hch c z).2.2.1 x c e rfl) ho (I.freeC x c e)
 ·obtain⟨e,n,ne,nf,d⟩:=I.pin p hp;have nch:p.1∉ch:=λz=>(hch p.1 z).2.2.2 p hp rfl
  exact⟨keep p.1 p.2 ne nf nch e n,free p.1 p.2 nch e n,ne,nf,d⟩
theorem Inv.un{t':Nat}(I:Inv X pins σ H s)(u:Un X.fs [] H H' s.heap h')(hok:HOk X.prog X.w H' h'):Inv X pins σ H' { s with heap:=h',toks:=t' }:=by
 obtain⟨m,⟨o,es,ep,ho,r⟩,_⟩:=id I.loc;obtain⟨sl,hL⟩:=u.any ho I.free (by simp);exact I.step (g':=s.gens) (d':=s.drawn) (ch:=[]) (λ_ z=>nomatch z) (λb o _ hb _ e n=>u.keep b o e n hb (by simp)) (λb o _ hb _ e n=>u.slot b o e n hb (by simp)) (λb o _ e n=>u.free b o e n (by simp)) (λb o _ e=>u.there b o e (by simp)) u.tups u.frzs u.tbls (λm' hm=>by
  obtain⟨o',es',ep',ho',r'⟩:=hm;rw[ho] at ho';cases ho';exact⟨_,es',ep',hL,r'⟩) hok I.bare
theorem Inv.call{g':Array GenState}{t':Nat}{d':Drawn}{ch:List Addr}(I:Inv X pins σ H s)(u:Un (frs X.stack) ch H H' s.heap h')(hok:HOk X.prog X.w H' h')(hg:Qfl g')
  (hch:∀b∈ch,(b∈X.ex∨X.s₀.heap.objs.size<=b)/\b≠X.env.locals/\(∀x c,X.env.cells.lookup x=some c->c≠b)/\∀p∈X.pn++pins,p.1≠b) :
  Inv X pins σ H' { s with heap:=h',gens:=g',drawn:=d',toks:=t' }:=by
 obtain⟨m,⟨o,es,ep,ho,r⟩,_⟩:=id I.loc;obtain⟨sl,hL⟩:=u.any ho I.free λz=>(hch _ z).2.1 rfl
 exact I.step (ch:=ch) hch (λb o hL hb hc e n=>u.keep b o e n (λz=>(Qz.mp (I.stkSub b z)).elim hL hb) hc) (λb o _ _ hc e n=>u.any e n hc) (λb o hc e n=>u.free b o e n hc) (λb o hc e=>u.there b o e hc) u.tups u.frzs u.tbls (λm' hm=>by
  obtain⟨o',es',ep',ho',r'⟩:=hm;rw[ho] at ho';cases ho';exact⟨_,es',ep',hL,r'⟩) hok hg
theorem Inv.turned{t':Nat}{it:Addr}(I:Inv X pins σ H s)(k:∀b o,b≠it->s.heap.get? b=some o->h'.get? b=some o)(hn:H it=none)(hL:it≠X.env.locals)
  (h1:it∈X.ex∨X.s₀.heap.objs.size<=it)(h2:∀x c,X.env.cells.lookup x=some c->c≠it)(h3:∀p∈X.pn++pins,p.1≠it):Inv X pins σ H { s with heap:=h',toks:=t' }:=by
 have nit:∀b u,H b=some u->b≠it:=λb u e z=>by rw[z,hn] at e;cases e
 refine I.step (g':=s.gens) (d':=s.drawn) (ch:=[it]) (λb hb=>?_) (λb o _ _ hc e _=>k b o (λz=>hc (by simp[z])) e) (λb o _ _ hc e _=>⟨o.slots,k b o (λz=>hc (by simp[z])) e⟩) (λ_ _ _ _ n=>n)
  (λb o hc e=>⟨o,k b o (λz=>hc (by simp[z])) e⟩) (λ_ _ e=>e) (λ_ _ _ e=>e) (λb ps e=>⟨#[],by rw[e];simp⟩) (λm hm=>?_) (λb u e=>?_) I.bare
 ·have e:b=it:=by simpa using hb
  subst e;exact⟨h1,hL,h2,h3⟩
 ·obtain⟨o,es,ep,ho,r⟩:=hm;exact⟨o,es,ep,k _ o (Qav hL) ho,r⟩
 ·refine(I.hok b u e).stay (λc v hc q=>k c v ?_ q) (λ_ q=>q) λ_ _ q=>q
  rcases hc with z | z
  ·rw[z];exact nit b u e
  ·exact nit c _ z
theorem Inv.tok(I:Inv X pins σ H s)(t:Nat):Inv X pins σ H { s with toks:=t }:=I.un (h':=s.heap) (t':=t) Un.refl I.hok
theorem Inv.kept{t':Nat}(I:Inv X pins σ H s)(k:∀b u,s.heap.get? b=some u->h'.get? b=some u):Inv X pins σ H { s with heap:=h',toks:=t' }:=I.un (Un.kept k) (I.hok.kept k)
theorem Inv.laid{a:Addr}{o:HO}{t':Nat}(I:Inv X pins σ H s)(k:∀b u,s.heap.get? b=some u->h'.get? b=some u)(hp:s.heap.objs.size<=a)(new:ObjOk X.prog X.w (upd H a o) h' a o) :
  Inv X pins σ (upd H a o) { s with heap:=h',toks:=t' }:=I.un (Un.laid k hp (I.hok.fresh hp)) (I.hok.laid k hp new)
theorem Inv.write{x e:Addr}{o:HO}{t':Nat}(I:Inv X pins σ H s)(mu:Mut (H x))(he:e=x∨H e=some (.own x))(k:∀b u,b≠e->s.heap.get? b=some u->h'.get? b=some u)(heo:∃u,h'.get? e=some u)
  (new:ObjOk X.prog X.w (upd H x o) h' x o):Inv X pins σ (upd H x o) { s with heap:=h',toks:=t' }:=I.un (Un.write mu he k heo) (I.hok.write mu he k heo new)
theorem Inv.weak{σ':List (Option V)}(I:Inv X pins σ H s)(hl:σ'.length=σ.length)(w:∀(i:Nat) v,σ'[i]? = some (some v)->σ[i]? = some (some v)):Inv X pins σ' H s:=
 ⟨I.ok,I.os,I.bare,I.base,let ⟨m,hn,hl'⟩:=I.loc;⟨m,hn,λi x v e1 e2 e3=>hl' i x v e1 (w i v e2) e3⟩,I.cell,I.free,I.freeC,I.pin,I.hok,hl.trans I.len⟩
theorem Inv.pins_of{pins':List (Addr×Obj)}(I:Inv X pins σ H s)(h:∀p∈pins',s.heap.get? p.1=some p.2/\H p.1=none/\p.1≠X.env.locals/\p.1∉X.fs/\∀v,p.2.data≠.cell v):Inv X pins' σ H s:=
 ⟨I.ok,I.os,I.bare,I.base,I.loc,I.cell,I.free,I.freeC,λp hp=>(Yh.mp hp).elim (λz=>I.pin p (Qdv _ z)) (h p),I.hok,I.len⟩
theorem QjV{N:List Str}(hN:N.Nodup){i j:Nat}{x:Str}(a:N[i]? = some x)(b:N[j]? = some x):i=j:=by
 obtain⟨h1,e1⟩:=Jh.mp a;obtain⟨h2,e2⟩:=Jh.mp b;exact(QsS hN).mp (e1.trans e2.symm)
theorem Qhv{M:Qzu}{A:Q1}{E:Value->Shared->Prop}{i:Nat}{x:Str}{v:V}{u:Value}{Q:Unit->Shared->Prop}(I:Inv X pins σ H s)(hN:X.N.Nodup)(hi:X.N[i]? = some x)(hx:Loc X.env.scope x)(r:RelV v u)
  (h:∀s',Inv X pins (σ.set i (some v)) H s'->(∃a,Qay a s.heap s'.heap/\(a=X.env.locals∨X.env.cells.lookup x=some a))->Q () s')(hf:X.fn x=true∨X.env.scope.names.lookup x=some .local:=by first | exact .inl rfl | exact .inr rfl | assumption):wpAny M A (storeName X.env x u) Q E s:=by
 obtain⟨m,hn,hl⟩:=id I.loc;have hcls:(X.env.scope.kind == .class||(X.env.scope.kind == .module&&X.env.locals != X.env.globals))=false:=by rw[I.ok.kind];rfl
 have hiσ:i < σ.length:=by rw[I.len];exact(Jh.mp hi).1
 have cne:=I.cne;have tracked:∀{a:Addr}{h':Heap},(∃o,s.heap.get? a=some o/\H a=none)->Qay a s.heap h'->HOk X.prog X.w H h':=λ{a h'} ha hs b ob e=>by
  obtain⟨_,_,hfree⟩:=ha;refine(I.hok b ob e).stay (λc w' hc q=>(hs.2 c ?_).trans q) (λ_ q=>q) λ_ _ q=>q
  rintro rfl;rcases hc with rfl | hc
  ·rw[hfree] at e;cases e
  ·rw[hfree] at hc;cases hc
 rcases hx with hk | hk
 ·refine wpAny_storeName_local hk hn (λh' hn' hs=>?_) hcls;obtain⟨oL,_,_,hoL,_⟩:=id hn;refine h _ ⟨I.ok,I.os,I.bare,⟨λb o e n hb hx=>?_,λb o e n hb hx=>?_,I.base.free,λb o e hx=>?_,I.base.tups,I.base.frzs,I.base.tbls⟩,⟨_,hn',λj y v' e1 e2 e3=>?_⟩,λy c e=>?_,I.free,I.freeC,λp hp=>?_,tracked ⟨oL,hoL,I.free⟩ hs,by simpa using I.len⟩ ⟨_,hs,.inl rfl⟩
  ·exact(hs.2 b (QL (QP (Qq e) I.ok.above))).trans (I.base.keep b o e n hb hx)
  ·obtain⟨sl,e1⟩:=I.base.slot b o e n hb hx;exact⟨sl,(hs.2 b (QL (QP (Qq e) I.ok.above))).trans e1⟩
  ·obtain⟨o',e1⟩:=I.base.there b o e hx;exact⟨o',(hs.2 b (QL (QP (Qq e) I.ok.above))).trans e1⟩
  ·by_cases hj:j=i
   ·subst hj;rw[hi] at e1;cases e1;rw[Qcs hiσ] at e2;cases e2;exact⟨u,r,.inl ⟨hk,by simp⟩⟩
   ·rw[Qdw (Qav hj)] at e2;obtain⟨u',r',q⟩:=hl j y v' e1 e2 e3;refine⟨u',r',?_⟩;rcases q with⟨k,e⟩ | ⟨k,c,e,z⟩
    ·refine .inl ⟨k,?_⟩;have:y≠x:=λe=>hj (QjV hN e1 (e ▸ hi))
     simp[this,e]
    ·exact .inr ⟨k,c,e,z.sameBut hs (cne y c e)⟩
  ·obtain⟨w',z⟩:=I.cell y c e;exact⟨w',z.sameBut hs (cne y c e)⟩
  ·obtain⟨e,n,ne,nf,d⟩:=I.pin p hp;exact⟨(hs.2 p.1 ne).trans e,n,ne,nf,d⟩
 ·have hfn:X.fn x=true:=by
   rcases hf with z | z
   ·exact z
   ·rw[z] at hk;cases hk
  obtain⟨c,hc⟩:=I.ok.has x (.inl hk);obtain⟨w',z⟩:=I.cell x c hc;refine wpAny_storeName_cell I.ok.kind hk hc z (λh' hc' hs=>?_);obtain⟨oc,hoc,hocd⟩:=id z;refine h { s with heap:=h' } ⟨I.ok,I.os,I.bare,⟨λb o e n hb hx=>?_,λb o e n hb hx=>?_,I.base.free,λb o e hx=>?_,I.base.tups,I.base.frzs,I.base.tbls⟩,⟨m,hn.sameBut hs (Qav (cne x c hc)),λj y v' e1 e2 e3=>?_⟩,λy c' e=>?_,I.free,I.freeC,λp hp=>?_,tracked ⟨oc,hoc,I.freeC x c hc⟩ hs,by simpa using I.len⟩ ⟨c,hs,.inr hc⟩
  ·exact(hs.2 b (QL (QP (Qq e) (I.ok.cab x c hfn hc)))).trans (I.base.keep b o e n hb hx)
  ·obtain⟨sl,e1⟩:=I.base.slot b o e n hb hx;exact⟨sl,(hs.2 b (QL (QP (Qq e) (I.ok.cab x c hfn hc)))).trans e1⟩
  ·obtain⟨o',e1⟩:=I.base.there b o e hx;exact⟨o',(hs.2 b (QL (QP (Qq e) (I.ok.cab x c hfn hc)))).trans e1⟩
  ·by_cases hj:j=i
   ·subst hj;rw[hi] at e1;cases e1;rw[Qcs hiσ] at e2;cases e2;exact⟨u,r,.inr ⟨.inl hk,c,hc,hc'⟩⟩
   ·rw[Qdw (Qav hj)] at e2;obtain⟨u',r',q⟩:=hl j y v' e1 e2 e3;refine⟨u',r',?_⟩;rcases q with q | ⟨k,c',e,z'⟩
    ·exact .inl q
    ·refine .inr ⟨k,c',e,z'.sameBut hs ?_⟩;rintro rfl;exact hj (QjV hN e1 (I.ok.inj _ _ _ e hc ▸ hi))
  ·by_cases hcc:c'=c
   ·subst hcc;exact⟨_,hc'⟩
   ·obtain⟨w2,z2⟩:=I.cell y c' e;exact⟨w2,z2.sameBut hs hcc⟩
  ·obtain⟨e,n,ne,nf,d⟩:=I.pin p hp;refine⟨(hs.2 p.1 ?_).trans e,n,ne,nf,d⟩;intro q;rw[q,hoc] at e;have q':oc=p.2:=QK e;exact d w' (by rw[<- q'];exact hocd)
theorem Qc3{M:Qzu}{A:Q1}{E:Value->Shared->Prop}{i:Nat}{x:Str}{v:V}{u:Value}{Q:Unit->Shared->Prop}(I:Inv X pins σ H s)(hN:X.N.Nodup)(hi:X.N[i]? = some x)(hx:Loc X.env.scope x)(r:RelV v u)
  (h:∀s',Inv X pins (σ.set i (some v)) H s'->Q () s')(hf:X.fn x=true∨X.env.scope.names.lookup x=some .local:=by first | exact .inl rfl | exact .inr rfl | assumption):wpAny M A (storeName X.env x u) Q E s:=
 Qhv I hN hi hx r (λs' I' _=>h s' I') hf
theorem Inv.call'{s':Shared}{ch:List Addr}(I:Inv X pins σ H s)(ho:s'.os=s.os)(u:Un (frs X.stack) ch H H' s.heap s'.heap)(hok:HOk X.prog X.w H' s'.heap)(hg:Qfl s'.gens)
  (hch:∀b∈ch,(b∈X.ex∨X.s₀.heap.objs.size<=b)/\b≠X.env.locals/\(∀x c,X.env.cells.lookup x=some c->c≠b)/\∀p∈X.pn++pins,p.1≠b):Inv X pins σ H' s':=by
 obtain⟨h',g',d',t',o'⟩:=s';have e:o'=s.os:=ho;subst e;exact I.call (g':=g') (t':=t') (d':=d') u hok hg hch
end
abbrev XK:=Value->Option Addr->Hp->Prop
abbrev St:=List (Option V)
abbrev VK:=V->Hp->Prop
abbrev TE:=St->Hp->VK->Prop
abbrev TT:=St->Hp->(Bool->Hp->Prop)->Prop
abbrev TA:=St->Hp->(List V->Hp->Prop)->Prop
structure Ends where
 nx:St->Hp->Prop
 rt:VK
 bk:St->Hp->Prop:=λ_ _=>False
 ct:St->Hp->Prop:=λ_ _=>False
abbrev TS:=Ends->St->Hp->Prop
def EP(X:Cx)(pins:List (Addr×Obj))(σ:St)(Q:VK)(u:Value)(s':Shared):Prop:=∃v H',Inv X pins σ H' s'/\RelV v u/\Q v H'
def TP(X:Cx)(pins:List (Addr×Obj))(σ:St)(Q:Bool->Hp->Prop)(b:Bool)(s':Shared):Prop:=∃H',Inv X pins σ H' s'/\Q b H'
def AP(X:Cx)(pins:List (Addr×Obj))(σ:St)(Q:List V->Hp->Prop)(us:List Value)(s':Shared):Prop:=∃vs H',Inv X pins σ H' s'/\Vals vs us/\Q vs H'
def SP(X:Cx)(pins:List (Addr×Obj))(D:Ends)(f:Flow)(s':Shared):Prop:=
 match f with
 |.next=>∃σ' H',Inv X pins σ' H' s'/\D.nx σ' H'
 |.brk=>∃σ' H',Inv X pins σ' H' s'/\D.bk σ' H'
 |.cont=>∃σ' H',Inv X pins σ' H' s'/\D.ct σ' H'
 |.ret u=>∃v σ' H',Inv X pins σ' H' s'/\RelV v u/\D.rt v H'
def PE(X:Cx)(e:Q3)(t:TE):Prop:=
 ∀(pins:List (Addr×Obj))(s:Shared)(σ:St)(H:Hp)(Q:VK),Inv X pins σ H s->t σ H Q->wpAny (model X.prog X.w) X.A (eval e X.env) (EP X pins σ Q) X.xe s
def PT(X:Cx)(e:Q3)(t:TT):Prop:=
 ∀(pins:List (Addr×Obj))(s:Shared)(σ:St)(H:Hp)(Q:Bool->Hp->Prop),Inv X pins σ H s->t σ H Q->wpAny (model X.prog X.w) X.A (isTrue e X.env (eval e X.env)) (TP X pins σ Q) X.xe s
def PW(X:Cx)(e:Q3)(t:TT):Prop:=
 ∀(whole:Sem Value)(pins:List (Addr×Obj))(s:Shared)(σ:St)(H:Hp)(Q:Bool->Hp->Prop),Inv X pins σ H s->t σ H Q->wpAny (model X.prog X.w) X.A (isTrue e X.env whole) (TP X pins σ Q) X.xe s
theorem PW.pt{X:Cx}{e:Q3}{t:TT}(h:PW X e t):PT X e t:=h _
def PA(X:Cx)(es:List Q3)(t:TA):Prop:=
 ∀(pos:Pos)(pins:List (Addr×Obj))(s:Shared)(σ:St)(H:Hp)(Q:List V->Hp->Prop),Inv X pins σ H s->t σ H Q->wpAny (model X.prog X.w) X.A (spliced (backTo pos (starEach es X.env))) (AP X pins σ Q) X.xe s
def PS(X:Cx)(st:YO)(t:TS):Prop:=
 ∀(pins:List (Addr×Obj))(s:Shared)(σ:St)(H:Hp)(D:Ends),Inv X pins σ H s->t D σ H->wpAny (model X.prog X.w) X.A (exec st X.env) (SP X pins D) X.xe s
def PSs(X:Cx)(st:List YO)(t:TS):Prop:=
 ∀(pins:List (Addr×Obj))(s:Shared)(σ:St)(H:Hp)(D:Ends),Inv X pins σ H s->t D σ H->wpAny (model X.prog X.w) X.A (execs st X.env) (SP X pins D) X.xe s
theorem thn{α:Type}{t:Sem α}{Q Q':α->Shared->Prop}{M:Qzu}{A:Q1}{E:Value->Shared->Prop}{s:Shared}(h:wpAny M A t Q E s)(hQ:∀a s,Q a s->Q' a s):wpAny M A t Q' E s:=wpAny_mono h hQ λ_ _ x=>x
section
variable{X:Cx}
def QiG(i:Nat):TE:=λσ H Q=>∃v,σ[i]? = some (some v)/\Q v H
def tC(v:V):TE:=λ_ H Q=>Q v H
theorem QwX{i:Nat}{x:Str}{pos:Pos}(hN:X.N[i]? = some x)(hv:Vis X.env.scope x)(hd:(x == ("__debug__" : Str))=false:=by decide)(hcd:(x == ("__classdict__" : Str))=false:=by decide):PE X (.Name x pos) (QiG i):=by
 intro pins s σ H Q I h;obtain⟨v,e,h⟩:=h;obtain⟨m,hn,hl⟩:=I.loc;obtain⟨u,r,l⟩:=hl i x v hN e hv;have fin:EP X pins σ Q u s:=⟨v,H,I,r,h⟩;rcases l with⟨hk,hm⟩ | ⟨hk,c,hc,hcell⟩
 ·exact Qze (QvD I.ok.kind hk hn hm fin) hd
 ·rcases hk with hk | hk
  ·exact Qze (QvW I.ok.kind hk hc hcell fin) hd
  ·exact Qze (wpAny_loadName_free I.ok.kind hk hc hcell fin hcd) hd
theorem YY{i j pos}:PE X (.Constant (.int i) j pos) (tC (.int i)):=λ_ _ _ H _ I h=>wpAny_Constant_int ⟨.int i,H,I.tok _,⟨_,rfl⟩,h⟩
theorem QAa{b j pos}:PE X (.Constant (.bool b) j pos) (tC (.bl b)):=λ_ _ _ H _ I h=>Constant_bool ⟨.bl b,H,I,rfl,h⟩
theorem Qw1{j pos}:PE X (.Constant .none j pos) (tC .non):=λ_ _ _ H _ I h=>Constant_none ⟨.non,H,I,rfl,h⟩
theorem QwY{x j pos}:PE X (.Constant (.str x) j pos) (tC (.str x)):=λ_ _ _ H _ I h=>Calls.Constant_str ⟨.str x,H,I.tok _,⟨_,rfl⟩,h⟩
def Gl(X:Cx)(x:Str):Prop:=X.env.kindOf x=some .globalImplicit
theorem QuO{E:Value->Shared->Prop}{pins:List (Addr×Obj)}{s:Shared}{σ:St}{H:Hp}{x:Str}{u:Value}{pos:Pos}{Q:Value->Shared->Prop}(I:Inv X pins σ H s)(hg:Gl X x)(hm:X.mg x=some u)(h:Q u s)
  (hd:(x == ("__debug__" : Str))=false:=by decide):wpAny (model X.prog X.w) X.A (eval (.Name x pos) X.env) Q E s:=
 Qhf I.ok.kind hg (Calls.loadGlobal_global (by rw[I.ok.glob];exact I.mod.glob.keeps I.bk) hm h) hd
theorem Qdi{E:Value->Shared->Prop}{pins:List (Addr×Obj)}{s:Shared}{σ:St}{H:Hp}{x:Str}{u:Value}{pos:Pos}{Q:Value->Shared->Prop}(I:Inv X pins σ H s)(hg:Gl X x)(hm:X.mg x=none)(hv:bootBuiltins x=some u)(h:Q u s)
  (hn:x ≠ "__name__" := by decide)(hd:(x == ("__debug__" : Str))=false:=by decide):wpAny (model X.prog X.w) X.A (eval (.Name x pos) X.env) Q E s:=by
 obtain⟨mb,h1,h2⟩:=I.mod.blt;exact Qhf I.ok.kind hg (Calls.loadGlobal_builtin (by rw[I.ok.glob];exact I.mod.glob.keeps I.bk) hm (by rw[I.ok.blt];exact h1.keeps I.bk) ((h2 x hn).trans hv) h) hd
theorem QtM{x:Str}{v:V}{u:Value}{pos:Pos}(hg:Gl X x)(hm:X.mg x=none)(hv:bootBuiltins x=some u)(r:RelV v u)(hn:x ≠ "__name__" := by decide)(hd:(x == ("__debug__" : Str))=false:=by decide):PE X (.Name x pos) (tC v):=
 λ_ _ _ H _ I h=>Qdi I hg hm hv ⟨v,H,I,r,h⟩ hn hd
variable{a b:Q3}{ta tb:TE}{pos:Pos}
def tB(t:TE):TT:=λσ H Q=>t σ H λx H1=>∃c,x=.bl c/\Q c H1
theorem QwP{e:Q3}{t:TE}(h:PE X e t)(he:∀whole,isTrue e X.env whole=(do let v <- whole;standAt e.pos;holding [v] (truthy v)):=by intro _;rfl):PT X e (tB t):=by
 intro pins s σ H Q I hw;refine isTrue_plain (thn (h pins s σ H _ I hw) λv s1 ⟨x,H1,I1,r1,q1⟩=>?_) (he _);obtain⟨d,rfl,q⟩:=q1;cases r1;exact ZV ⟨H1,I1,q⟩
variable{tA tB':TT}{rest:List Q3}
def QBY(t u:TT):TT:=λσ H Q=>t σ H λc H1=>if c=true then u σ H1 Q else Q false H1
def tOr(t u:TT):TT:=λσ H Q=>t σ H λc H1=>if c=true then Q true H1 else u σ H1 Q
def QBV(t:TT):TT:=λσ H Q=>t σ H λc H1=>Q (!c) H1
theorem Qty(ha:PT X a tA):PW X (.BoolOp .And [a] pos) tA:=by
 intro wh pins s σ H Q I h;refine isTrue_and (thn (ha pins s σ H Q I h) λc s1 e=>?_);cases c with
 |true=>exact isTrue_and_nil e
 |false=>exact e
theorem QwM(ha:PT X a tA):PW X (.BoolOp .Or [a] pos) tA:=by
 intro wh pins s σ H Q I h;refine isTrue_or (thn (ha pins s σ H Q I h) λc s1 e=>?_);cases c with
 |false=>exact isTrue_or_nil e
 |true=>exact e
theorem QwN(ha:PT X a tA)(hb:PW X (.BoolOp .And (b::rest) pos) tB'):PW X (.BoolOp .And (a::b::rest) pos) (QBY tA tB'):=by
 intro wh pins s σ H Q I h;refine isTrue_and (thn (ha pins s σ H _ I h) λc s1 ⟨H1,I1,q1⟩=>?_);cases c with
 |true=>exact hb wh pins s1 σ H1 Q I1 q1
 |false=>exact⟨H1,I1,q1⟩
theorem Qz5(ha:PT X a tA)(hb:PW X (.BoolOp .Or (b::rest) pos) tB'):PW X (.BoolOp .Or (a::b::rest) pos) (tOr tA tB'):=by
 intro wh pins s σ H Q I h;refine isTrue_or (thn (ha pins s σ H _ I h) λc s1 ⟨H1,I1,q1⟩=>?_);cases c with
 |true=>exact⟨H1,I1,q1⟩
 |false=>exact hb wh pins s1 σ H1 Q I1 q1
theorem QwQ(ha:PT X a tA):PT X (.UnaryOp .Not a pos) (QBV tA):=by
 intro pins s σ H Q I h;exact isTrue_not (ha pins s σ H (λc H1=>Q (!c) H1) I h)
def QzO(ta tb:TE):TE:=λσ H Q=>ta σ H λx H1=>∃c,x=.bl c/\if c=true then tb σ H1 Q else Q (.bl false) H1
def QzL(ta:TE):TE:=λσ H Q=>ta σ H λx H1=>∃c,x=.bl c/\Q (.bl (!c)) H1
theorem QwZ{op}{t:TE}(h:PE X a t):PE X (.BoolOp op [a] pos) t:=λpins s σ H Q I hw=>BoolOp_one (h pins s σ H Q I hw)
theorem Qw2(ha:PE X a ta)(hb:PE X (.BoolOp .And (b::rest) pos) tb):PE X (.BoolOp .And (a::b::rest) pos) (QzO ta tb):=by
 intro pins s σ H Q I h;refine BoolOp_and (thn (ha pins s σ H _ I h) λv s1 ⟨x,H1,I1,r1,q1⟩=>?_);obtain⟨c,rfl,q1⟩:=q1;cases r1;refine ZV ?_
 cases c with
 |true=>exact hb pins s1 σ H1 Q I1 q1
 |false=>exact⟨.bl false,H1,I1,rfl,q1⟩
theorem Qw0(ha:PE X a ta):PE X (.UnaryOp .Not a pos) (QzL ta):=by
 intro pins s σ H Q I h;refine UnaryOp_ (thn (ha pins s σ H _ I h) λv s1 ⟨x,H1,I1,r1,q1⟩=>?_);obtain⟨c,rfl,q1⟩:=q1;cases r1;exact not_of (ZV ⟨.bl (!c),H1,I1,rfl,q1⟩)
def tIf(t:TT)(ta tb:TE):TE:=λσ H Q=>t σ H λc H1=>if c=true then ta σ H1 Q else tb σ H1 Q
theorem Qpe{c:Q3}(hc:PT X c tA)(ha:PE X a ta)(hb:PE X b tb):PE X (.IfExp c a b pos) (tIf tA ta tb):=by
 intro pins s σ H Q I h;refine wpAny_IfExp (thn (hc pins s σ H _ I h) λd s1 ⟨H1,I1,q1⟩=>?_);cases d with
 |true=>exact ha pins s1 σ H1 Q I1 q1
 |false=>exact hb pins s1 σ H1 Q I1 q1
end
def SqL(K:PySem.W.Frag)(H:Hp)(a:Addr)(xs:List V):Prop:=
 Rd H a (.lst xs) ∨
  ∃(o:Obj)(its:Array Value)(n:Nat),K.lookup a=some o/\o.cls=.type "list" /\ o.dict=none/\o.data=.seq its n/\its.size<=sizeLine/\Vals xs its.toList
def SqT(K:PySem.W.Frag)(H:Hp)(a:Addr)(xs:List V):Prop:=
 Rd H a (.tup xs) ∨
  ∃(o:Obj)(its:Array Value)(n:Nat),K.lookup a=some o/\o.cls=.type "tuple" /\ o.data=.seq its n/\its.size<=sizeLine/\Vals xs its.toList
def QCg:Value->Option V
 |.none=>some .non
 |.bool b=>some (.bl b)
 |.int i _=>some (.int i)
 |.str x _=>some (.str x)
 |.bytes b _=>some (.byt b)
 |.float b _=>some (.flt b)
 |.ref a=>some (.ref a)
 |.type n=>some (.ty n)
 |_=>none
theorem RelV.abs{x:V}{u:Value}(r:RelV x u):QCg u=some x:=by
 cases x with
 |non=>cases r;rfl
 |bl _=>cases r;rfl
 |int _=>obtain⟨t,rfl⟩:=r;rfl
 |str _=>obtain⟨t,rfl⟩:=r;rfl
 |byt _=>obtain⟨t,rfl⟩:=r;rfl
 |flt _=>obtain⟨t,rfl⟩:=r;rfl
 |ref _=>cases r;rfl
 |ty _=>cases r;rfl
theorem RelV.inj{x y:V}{u:Value}(r:RelV x u)(q:RelV y u):x=y:=QK (r.abs.symm.trans q.abs)
theorem Vals.inj:∀{xs ys:List V}{us:List Value},Vals xs us->Vals ys us->xs=ys
 |_,_,_,.nil,.nil=>rfl
 |_,_,_,.cons r t,.cons r' t'=>by rw[r.inj r',Vals.inj t t']
section
variable{X:Cx}{pins:List (Addr×Obj)}{σ:St}{H:Hp}{s:Shared}{a:Addr}{xs ys:List V}
theorem SqL.of{K:PySem.W.Frag}(h:H a=some (.lst xs)):SqL K H a xs:=.inl (.inl h)
theorem SqT.of{K:PySem.W.Frag}(h:H a=some (.tup xs)):SqT K H a xs:=.inl (.inl h)
theorem Inv.list(I:Inv X pins σ H s)(h:SqL X.K H a xs):∃its:List Value,Vals xs its/\PlainL s.heap a its.toArray/\xs.length<=sizeLine:=by
 rcases h with h | ⟨o,its,n,hk,hc,hd,hs,hz,r⟩
 ·obtain⟨z,its,n,r,e⟩:=h.ok I.hok;exact⟨its,r,⟨_,n,e,rfl,rfl,rfl⟩,z⟩
 ·refine⟨its.toList,r,⟨o,n,I.kIn a o hk,hc,hd,by simpa using hs⟩,?_⟩;have e:=r.length;simp only[Qw] at e;omega
theorem Inv.tuple(I:Inv X pins σ H s)(h:SqT X.K H a xs):∃its:List Value,Vals xs its/\IsTup s.heap a its.toArray/\xs.length<=sizeLine:=by
 rcases h with h | ⟨o,its,n,hk,hc,hs,hz,r⟩
 ·obtain⟨z,its,r,p⟩:=h.ok I.hok;exact⟨its,r,p.tup,z⟩
 ·refine⟨its.toList,r,⟨o,I.kIn a o hk,hc,n,by simpa using hs⟩,?_⟩;have e:=r.length;simp only[Qw] at e;omega
theorem Inv.list_inj(I:Inv X pins σ H s)(h:SqL X.K H a xs)(h':SqL X.K H a ys):xs=ys:=by
 obtain⟨its,r,⟨o,n,e,_,_,d⟩,_⟩:=I.list h;obtain⟨its',r',⟨o',n',e',_,_,d'⟩,_⟩:=I.list h';rw[e] at e';cases e';rw[d] at d';injection d' with d1 _
 have:its=its':=by simpa using congrArg QyY d1
 subst this;exact r.inj r'
theorem Inv.tuple_inj(I:Inv X pins σ H s)(h:SqT X.K H a xs)(h':SqT X.K H a ys):xs=ys:=by
 obtain⟨its,r,⟨o,e,_,n,d⟩,_⟩:=I.tuple h;obtain⟨its',r',⟨o',e',_,n',d'⟩,_⟩:=I.tuple h';rw[e] at e';cases e';rw[d] at d';injection d' with d1 _
 have:its=its':=by simpa using congrArg QyY d1
 subst this;exact r.inj r'
end
abbrev Cx.wish (X:Cx) (E:Value->Shared->Prop):Cx:={ X with xe:=E }
abbrev Cx.nox (X:Cx):Cx:=X.wish λ_ _=>False
theorem Cx.Ok.wish{X:Cx}(ok:X.Ok)(E:Value->Shared->Prop):(X.wish E).Ok:=
 ⟨ok.mod,ok.kind,ok.glob,ok.blt,ok.above,ok.inj,ok.has,ok.cab,ok.hd,ok.frames,ok.stk,ok.exf,ok.bs,ok.bsz,ok.noex,ok.exfs,ok.funs,ok.frf⟩
theorem Cx.Ok.unwish{X:Cx}{E:Value->Shared->Prop}(ok:(X.wish E).Ok):X.Ok:=
 ⟨ok.mod,ok.kind,ok.glob,ok.blt,ok.above,ok.inj,ok.has,ok.cab,ok.hd,ok.frames,ok.stk,ok.exf,ok.bs,ok.bsz,ok.noex,ok.exfs,ok.funs,ok.frf⟩
section
variable{X:Cx}{pins:List (Addr×Obj)}{σ:St}{H:Hp}{s:Shared}{E:Value->Shared->Prop}
theorem Inv.wish(I:Inv X pins σ H s)(E:Value->Shared->Prop):Inv (X.wish E) pins σ H s:=⟨I.ok.wish E,I.os,I.bare,I.base,I.loc,I.cell,I.free,I.freeC,I.pin,I.hok,I.len⟩
theorem Inv.unwish(I:Inv (X.wish E) pins σ H s):Inv X pins σ H s:=⟨I.ok.unwish,I.os,I.bare,I.base,I.loc,I.cell,I.free,I.freeC,I.pin,I.hok,I.len⟩
theorem SP.unwish{D:Ends}{f:Flow}{s':Shared}(h:SP (X.wish E) pins D f s'):SP X pins D f s':=by
 cases f with
 |next=>obtain⟨σ',H',I,q⟩:=h;exact⟨σ',H',I.unwish,q⟩
 |brk=>obtain⟨σ',H',I,q⟩:=h;exact⟨σ',H',I.unwish,q⟩
 |cont=>obtain⟨σ',H',I,q⟩:=h;exact⟨σ',H',I.unwish,q⟩
 |ret u=>obtain⟨v,σ',H',I,r,q⟩:=h;exact⟨v,σ',H',I.unwish,r,q⟩
theorem PE.nox{e:Q3}{t:TE}(h:PE X.nox e t):PE X e t:=λpins s σ H Q I hw=>
 wpAny_mono (h pins s σ H Q (I.wish _) hw) (λ_ _ ⟨v,H',I',r,q⟩=>⟨v,H',I'.unwish,r,q⟩) λ_ _ z=>Yy z
theorem PT.nox{e:Q3}{t:TT}(h:PT X.nox e t):PT X e t:=λpins s σ H Q I hw=>
 wpAny_mono (h pins s σ H Q (I.wish _) hw) (λ_ _ ⟨H',I',q⟩=>⟨H',I'.unwish,q⟩) λ_ _ z=>Yy z
theorem PSs.nox{st:List YO}{t:TS}(h:PSs X.nox st t):PSs X st t:=λpins s σ H D I hw=>
 wpAny_mono (h pins s σ H D (I.wish _) hw) (λ_ _ q=>q.unwish) λ_ _ z=>Yy z
end
section
variable{X:Cx}{st:YO}{rest:List YO}{t u:TS}{e:Q3}{te:TE}{pos:Pos}
def QzM:TS:=λD σ H=>D.nx σ H
def QBT(t u:TS):TS:=λD σ H=>t { D with nx:=u D } σ H
theorem QiN:PSs X [] QzM:=λ_ _ σ H _ I h=>Qkq ⟨σ,H,I,h⟩
theorem Qak(h1:PS X st t)(h2:PSs X rest u):PSs X (st::rest) (QBT t u):=by
 intro pins s σ H D I h;refine wpAny_execs_cons (thn (h1 pins s σ H { D with nx:=u D } I h) λf s1 q=>?_);cases f with
 |next=>
  obtain⟨σ',H',I',q⟩:=q;exact h2 pins s1 σ' H' D I' q
 |ret v=>exact q
 |brk=>exact q
 |cont=>exact q
theorem QbP(h1:PS X st t):PSs X [st] t:=by
 intro pins s σ H D I h;refine wpAny_execs_cons (thn (h1 pins s σ H D I h) λf s1 q=>?_);cases f with
 |next=>exact Qkq q
 |ret v=>exact q
 |brk=>exact q
 |cont=>exact q
theorem Inv.quiet{pins:List (Addr×Obj)}{σ:St}{H:Hp}{s:Shared}(I:Inv X pins σ H s):interactive X.env=false:=by simp[interactive,I.ok.kind]
def QoH(te:TE):TS:=λD σ H=>te σ H λ_ H1=>D.nx σ H1
theorem QiO(he:PE X e te)(hs:swapsWith e none pos.line X.env=pure false:=by rfl):PS X (.Expr e pos) (QoH te):=by
 intro pins s σ H D I h;exact wpAny_Expr_any (thn (he pins s σ H _ I h) λv s1 ⟨x,H1,I1,r1,q1⟩=>⟨σ,H1,I1,q1⟩) I.quiet hs
def QBU(te:TE):TS:=λD σ H=>te σ H D.rt
theorem Qdb(he:PE X e te):PS X (.Return (some e) pos) (QBU te):=by
 intro pins s σ H D I h;exact wpAny_Return_some (thn (he pins s σ H _ I h) λv s1 ⟨x,H1,I1,r1,q1⟩=>⟨x,σ,H1,I1,r1,q1⟩)
def QBX(c:TT)(t u:TS):TS:=λD σ H=>c σ H λb H1=>if b=true then t D σ H1 else u D σ H1
theorem QtA{c:Q3}{a b:List YO}{tc:TT}(hc:PT X c tc)(ha:PSs X a t)(hb:PSs X b u):PS X (.If c a b pos) (QBX tc t u):=by
 intro pins s σ H D I h;refine wpAny_If (thn (hc pins s σ H _ I h) λd s1 ⟨H1,I1,q1⟩=>?_);cases d with
 |true=>exact ha pins s1 σ H1 D I1 q1
 |false=>exact hb pins s1 σ H1 D I1 q1
end
abbrev TG:=V->St->Hp->(St->Hp->Prop)->Prop
abbrev TGs:=List V->St->Hp->(St->Hp->Prop)->Prop
def PG(X:Cx)(target:Q3)(t:TG):Prop:=
 ∀(pins:List (Addr×Obj))(s:Shared)(σ:St)(H:Hp)(v:V)(u:Value)(Q:St->Hp->Prop),Inv X pins σ H s->RelV v u->t v σ H Q ->
  wpAny (model X.prog X.w) X.A (assign target X.env u) (λ_ s'=>∃σ' H',Inv X pins σ' H' s'/\Q σ' H') X.xe s
def PGs(X:Cx)(ts:List Q3)(t:TGs):Prop:=
 ∀(pins:List (Addr×Obj))(s:Shared)(σ:St)(H:Hp)(vs:List V)(us:List Value)(Q:St->Hp->Prop),Inv X pins σ H s->Vals vs us->t vs σ H Q ->
  wpAny (model X.prog X.w) X.A (assignInOrder ((assignEach ts X.env).map (·.2)) us) (λ_ s'=>∃σ' H',Inv X pins σ' H' s'/\Q σ' H') X.xe s
abbrev TSet:=V->V->V->Hp->(Hp->Prop)->Prop
def QA0(X:Cx)(t:TSet):Prop:=
 ∀(pins:List (Addr×Obj))(s:Shared)(σ:St)(H:Hp)(o i v:V)(ov iv u:Value)(Q:Hp->Prop),Inv X pins σ H s->RelV o ov->RelV i iv->RelV v u->t o i v H Q ->
  wpAny (model X.prog X.w) X.A (setItem ov iv u) (λ_ s'=>∃H',Inv X pins σ H' s'/\Q H') X.xe s
abbrev TIp:=V->V->Hp->VK->Prop
def PIp(X:Cx)(op:Qb1)(t:TIp):Prop:=
 ∀(pins:List (Addr×Obj))(s:Shared)(σ:St)(H:Hp)(x y:V)(v u:Value)(Q:VK),Inv X pins σ H s->RelV x v->RelV y u->t x y H Q ->
  wpAny (model X.prog X.w) X.A (inplaceOp op v u) (EP X pins σ Q) X.xe s
section
variable{X:Cx}{pos:Pos}
def Qfq(i:Nat):TG:=λv σ H Q=>Q (σ.set i (some v)) H
theorem QgB{i:Nat}{x:Str}(hN:X.N.Nodup)(hi:X.N[i]? = some x)(hx:Loc X.env.scope x)(hf:X.fn x=true∨X.env.scope.names.lookup x=some .local:=by first | exact .inl rfl | exact .inr rfl | assumption):PG X (.Name x pos) (Qfq i):=by
 intro pins s σ H v u Q I r h;exact Qzd (Qc3 I hN hi hx r (λs' I'=>⟨_,H,I',h⟩) hf)
def QBu:TGs:=λvs σ H Q=>vs=[]/\Q σ H
def Qyc(t:TG)(u:TGs):TGs:=λvs σ H Q=>∃v r,vs=v::r/\t v σ H λσ' H'=>u r σ' H' Q
theorem QtI:PGs X [] QBu:=by
 intro pins s σ H vs us Q I r h;obtain⟨e,h⟩:=h;subst e;cases r;exact Qzh ⟨σ,H,I,h⟩
theorem Qpa{e:Q3}{es:List Q3}{t:TG}{u:TGs}(h1:PG X e t)(h2:PGs X es u)
  (hs:(assignEach (e::es) X.env).map (·.2)=assign e X.env::(assignEach es X.env).map (·.2):=by rfl):PGs X (e::es) (Qyc t u):=by
 intro pins s σ H vs us Q I r h;obtain⟨v,vr,e1,h⟩:=h;subst e1;cases r with
 |cons r rr=>
  rw[hs];refine Qf0 (thn (h1 pins s σ H _ _ _ I r h) λ_ s1 ⟨σ1,H1,I1,q1⟩=>?_);exact h2 pins s1 σ1 H1 _ _ Q I1 rr q1
def QBt(K:PySem.W.Frag)(n:Nat)(t:TGs):TG:=λv σ H Q=>∃a xs,v=.ref a/\SqT K H a xs/\xs.length=n/\t xs σ H Q
theorem QwV{es:List Q3}{k:Nat}{t:TGs}{n:Nat}(hc:X.calm=true)(h:PGs X es t)
  (hn:(assignEach es X.env).length=n:=by rfl)(hst:(assignEach es X.env).findIdx? (·.1)=none:=by rfl):PG X (.Tuple es k pos) (QBt X.K n t):=by
 intro pins s σ H v u Q I r hw;obtain⟨a,xs,e1,hq,hl,hw⟩:=hw;subst e1;cases r;obtain⟨its,rv,ht,hz⟩:=I.tuple hq;refine assign_Tuple_tuple (I.ok.hd hc) ht (by simp[hn,<- hl,rv.length]) hst λh' hx=>?_
 have I1:Inv X pins σ H { s with heap:=h' }:=I.kept (t':=s.toks) λb o e=>hx b o (QL (Qq e)) e
 exact h pins _ σ H xs _ Q I1 (by simpa using rv) hw
def gSub(to ti:TE)(t:TSet):TG:=λv σ H Q=>to σ H λo H1=>ti σ H1 λi H2=>t o i v H2 λH3=>Q σ H3
theorem QwW{o i:Q3}{to ti:TE}{t:TSet}(ho:PE X o to)(hi:PE X i ti)(hs:QA0 X t)
  (ha:∀v,assign (.Subscript o i pos) X.env v=(do
   let ov <- holding [v] (eval o X.env)
   let iv <- holding [v,ov] (eval i X.env)
   standAt pos
   holding [v,ov,iv] (setItem ov iv v)
   release [v,ov,iv] []):=by intro _;rfl):PG X (.Subscript o i pos) (gSub to ti t):=by
 intro pins s σ H v u Q I r h;rw[ha];refine wpAny_bind (J3 (thn (ho pins s σ H _ I h) λov s1 ⟨x,H1,I1,r1,q1⟩=>?_));refine wpAny_bind (J3 (thn (hi pins s1 σ H1 _ I1 q1) λiv s2 ⟨y,H2,I2,r2,q2⟩=>?_));refine wpAny_bind (wpAny_standAt (wpAny_bind (J3 (thn (hs pins s2 σ H2 x y v ov iv u _ I2 r1 r2 r q2) λ_ s3 ⟨H3,I3,q3⟩=>?_))));exact wpAny_release ⟨σ,H3,I3,q3⟩
def QrN(te:TE)(g:TG):TS:=λD σ H=>te σ H λx H1=>g x σ H1 D.nx
theorem Qr2{tg e:Q3}{te:TE}{g:TG}(he:PE X e te)(hg:PG X tg g)(hs:swapsWithSole [tg] e pos.line X.env=pure false:=by rfl)(hw:swappedStores [tg] e X.env=pure none:=by rfl)
  (h1:(assignEach [tg] X.env).map (·.2)=[assign tg X.env]:=by rfl):PS X (.Assign [tg] e pos) (QrN te g):=by
 intro pins s σ H D I h;refine wpAny_Assign_stores (thn (he pins s σ H _ I h) λv s1 ⟨x,H1,I1,r1,q1⟩=>?_) hs hw;rw[h1];exact thn (hg pins s1 σ H1 x v _ I1 r1 q1) λ_ s2 q=>q
theorem Qda{i:Nat}{x:Str}{e:Q3}{te:TE}{pos':Pos}(hN:X.N.Nodup)(hi:X.N[i]? = some x)(hx:Loc X.env.scope x)(he:PE X e te)(hs:swapsWith e (some (.Name x pos')) pos.line X.env=pure false:=by rfl)(hf:X.fn x=true∨X.env.scope.names.lookup x=some .local:=by first | exact .inl rfl | exact .inr rfl | assumption) :
  PS X (.Assign [.Name x pos'] e pos) (QrN te (Qfq i)):=by
 intro pins s σ H D I h;refine wpAny_Assign_Name (thn (he pins s σ H _ I h) λv s1 ⟨y,H1,I1,r1,q1⟩=>?_) hs;exact Qc3 I1 hN hi hx r1 (λs2 I2=>⟨_,H1,I2,q1⟩) hf
def QA6(i j:Nat)(ta:TA):TS:=λD σ H=>ta σ H λvs H1=>∃v w,vs=[v,w]/\D.nx ((σ.set i (some v)).set j (some w)) H1
theorem QwR{i j:Nat}{x y:Str}{a b:Q3}{ta:TA}{px py pt:Pos}{kt k2 pt2}(hc:X.calm=true)(hN:X.N.Nodup)(hi:X.N[i]? = some x)(hj:X.N[j]? = some y)(hij:i≠j)
  (hx:X.env.scope.names.lookup x=some .local)(hy:X.env.scope.names.lookup y=some .local)(ha:PA X [a,b] ta)
  (hw:swappedStores [.Tuple [.Name x px,.Name y py] kt pt] (.Tuple [a,b] k2 pt2) X.env=pure (some [x,y]))
  (hs:swapsWithSole [.Tuple [.Name x px,.Name y py] kt pt] (.Tuple [a,b] k2 pt2) pos.line X.env=pure false:=by rfl) :
  PS X (.Assign [.Tuple [.Name x px,.Name y py] kt pt] (.Tuple [a,b] k2 pt2) pos) (QA6 i j ta):=by
 intro pins s σ H D I h;rw[exec_Assign_arm];refine wpAny_bind (wpAny_standAt ?_);rw[hs];refine wpAny_bind (Qj ?_);rw[if_neg (by decide)];refine wpAny_bind (Tuple_ (thn (ha _ pins s σ H _ I h) λus s1 ⟨vs,H1,I1,r1,q1⟩=>?_));obtain⟨v,w,e1,q1⟩:=q1;subst e1;obtain⟨u1,u2,rfl,rv,rw'⟩:∃u1 u2,us=[u1,u2]/\RelV v u1/\RelV w u2:=by
  cases r1 with
  |cons p q=>
   cases q with
   |cons p' q'=>
    cases q';exact⟨_,_,rfl,p,p'⟩
 refine Jc ?_ (by show 2<=sizeLine;decide)
 have I2:Inv X pins σ H1 { s1 with heap:=s1.heap.push { cls:=.type "tuple",data:=.seq [u1,u2].toArray } }:=I1.kept (t':=s1.toks) λb o e=>Qi _ e
 rw[hw];refine wpAny_bind (Qj ?_);show wpAny (model X.prog X.w) X.A (do rule "assign.swapped-stores";let items <- unpackItems (.ref s1.heap.objs.size) 2 none;assignInOrder [λv=>bindName X.env y v,λv=>bindName X.env x v] items.reverse;pure Flow.next) _ _ _;refine wpAny_bind (wpAny_rule (wpAny_bind (unpackItems_tuple (items:=#[u1,u2]) (I.ok.hd hc) (IsTup.new s1.heap _) λh' hx'=>?_)));have I3:=I2.kept (h':=h') (t':=s1.toks) λb o e=>hx' b o (QL (Qq e)) e
 show wpAny _ _ (assignInOrder [λv=>bindName X.env y v,λv=>bindName X.env x v] [u2,u1] >>= λ_=>pure Flow.next) _ _ _;refine wpAny_bind (Qf0 (wpAny_bindName (Qc3 I3 hN hj (.inl hy) rw' (λs2 I4=>?_) (.inr hy))));refine Qf0 (wpAny_bindName (Qc3 I4 hN hi (.inl hx) rv (λs3 I5=>Qzh (Qj ?_)) (.inr hx)));rw[List.set_comm _ _ (Qav hij)] at I5;exact⟨_,H1,I5,q1⟩
def QA7(i:Nat)(te:TE)(ti:TIp):TS:=λD σ H=>∃x,σ[i]? = some (some x)/\te σ H λy H1=>ti x y H1 λz H2=>D.nx (σ.set i (some z)) H2
theorem QwS{i:Nat}{x:Str}{e:Q3}{te:TE}{op:Qb1}{ti:TIp}{pos':Pos}(hN:X.N.Nodup)(hi:X.N[i]? = some x)(hx:Loc X.env.scope x)(he:PE X e te)(ho:PIp X op ti)(hf:X.fn x=true∨X.env.scope.names.lookup x=some .local:=by first | exact .inl rfl | exact .inr rfl | assumption) :
  PS X (.AugAssign (.Name x pos') op e pos) (QA7 i te ti):=by
 intro pins s σ H D I h;obtain⟨v,e1,h⟩:=h;obtain⟨m,hn,hl⟩:=I.loc;have vis:Vis X.env.scope x:=by rcases hx with k | k;exact .inl k;exact .inr (.inl k)
 obtain⟨u,r,l⟩:=hl i x v hi e1 vis;refine wpAny_AugAssign_Name ?_
 have go:wpAny (model X.prog X.w) X.A (eval e X.env) (λw s₂=>wpAny (model X.prog X.w) X.A (inplaceOp op u w) (λr s₃=>wpAny (model X.prog X.w) X.A (storeName X.env x r) (λ_=>SP X pins D .next) X.xe s₃) X.xe s₂) X.xe s:=by
  refine thn (he pins s σ H _ I h) λw s1 ⟨y,H1,I1,r1,q1⟩=>?_
  refine thn (ho pins s1 σ H1 v y u w _ I1 r r1 q1) λz s2 ⟨zv,H2,I2,r2,q2⟩=>?_
  exact Qc3 I2 hN hi hx r2 (λs3 I3=>⟨_,H2,I3,q2⟩) hf
 rcases l with⟨hk,hm⟩ | ⟨hk,c,hc,hcell⟩
 ·exact QvD I.ok.kind hk hn hm go
 ·rcases hk with hk | hk
  ·exact QvW I.ok.kind hk hc hcell go
  ·rcases hx with k | k
   ·have:X.env.scope.names.lookup x=some .free:=hk;rw[k] at this;cases this
   ·have:X.env.scope.names.lookup x=some .free:=hk;rw[k] at this;cases this
def Qwi(to ti te:TE)(tget:V->V->Hp->VK->Prop)(tip:TIp)(tset:TSet):TS:=λD σ H=>to σ H λo H1=>ti σ H1 λi H2=>tget o i H2 λx H3=>te σ H3 λy H4=>tip x y H4 λz H5=>tset o i z H5 λH6=>D.nx σ H6
def QBN(X:Cx)(t:V->V->Hp->VK->Prop):Prop:=
 ∀(pins:List (Addr×Obj))(s:Shared)(σ:St)(H:Hp)(o i:V)(ov iv:Value)(Q:VK),Inv X pins σ H s->RelV o ov->RelV i iv->t o i H Q ->
  wpAny (model X.prog X.w) X.A (getItem ov iv) (EP X pins σ Q) X.xe s
theorem QtB{o i e:Q3}{to ti te:TE}{tget:V->V->Hp->VK->Prop}{tip:TIp}{tset:TSet}{op:Qb1}{tpos:Pos}(ho:PE X o to)(hi:PE X i ti)(hg:QBN X tget)(he:PE X e te)(hp:PIp X op tip)(hs:QA0 X tset)
  (ha:∀ov iv new,augStore i ov iv new=(do holding [new,ov,iv] (setItem ov iv new);release [new,ov,iv] [];pure .next):=by intros;rfl):PS X (.AugAssign (.Subscript o i tpos) op e pos) (Qwi to ti te tget tip tset):=by
 intro pins s σ H D I h;refine wpAny_AugAssign_SubscriptAny (thn (ho pins s σ H _ I h) λov s1 ⟨x1,H1,I1,r1,q1⟩=>?_) ha;refine thn (hi pins s1 σ H1 _ I1 q1) λiv s2 ⟨x2,H2,I2,r2,q2⟩=>?_
 refine thn (hg pins s2 σ H2 x1 x2 ov iv _ I2 r1 r2 q2) λold s3 ⟨x3,H3,I3,r3,q3⟩=>?_
 refine thn (he pins s3 σ H3 _ I3 q3) λv s4 ⟨x4,H4,I4,r4,q4⟩=>?_
 refine thn (hp pins s4 σ H4 x3 x4 old v _ I4 r3 r4 q4) λnew s5 ⟨x5,H5,I5,r5,q5⟩=>?_
 exact thn (hs pins s5 σ H5 x1 x2 x5 ov iv new _ I5 r1 r2 r5 q5) λ_ s6 ⟨H6,I6,q6⟩=>⟨σ,H6,I6,q6⟩
def ipI(f:Int->Int->Int):TIp:=λx y H Q=>∃i j,x=.int i/\y=.int j/\Q (.int (f i j)) H
theorem Qsi:PIp X .Add (ipI λi j=>i+j):=by
 intro pins s σ H x y v u Q I r1 r2 h;obtain⟨i,j,e1,e2,q⟩:=h;subst e1;subst e2;obtain⟨t,rfl⟩:=r1;obtain⟨t',rfl⟩:=r2;exact iadd_int ⟨.int _,H,I.tok _,⟨_,rfl⟩,q⟩
end
section
variable{X:Cx}{pos:Pos}
end
structure It where
 go:Nat->Hp->Prop
 yld:Nat->Hp->V->Hp->Prop
 stop:Nat->Hp->Prop
def FpOk(X:Cx)(pins:List (Addr×Obj))(H:Hp)(b:Addr):Prop:=
 H b=none/\b≠X.env.locals/\b∉X.fs/\(b∈X.ex∨X.s₀.heap.objs.size<=b)/\(∀x c,X.env.cells.lookup x=some c->c≠b)/\∀p∈X.pn++pins,p.1≠b
theorem Inv.fpOk{X:Cx}{pins:List (Addr×Obj)}{σ:St}{H H':Hp}{s:Shared}{b:Addr}(I:Inv X pins σ H s)(hb:s.heap.objs.size<=b)(hn:H' b=none):FpOk X pins H' b:=by
 refine⟨hn,QaA (QP I.lt hb),I.nofs hb,.inr (QJ I.sz hb),λx c e z=>?_,λp hp z=>?_⟩
 ·obtain⟨v,q⟩:=I.cell x c e;exact absurd (QP q.lt (by rw[z];exact hb)) (YV _)
 ·exact absurd (QP (Qq (I.pin p hp).1) (by rw[z];exact hb)) (YV _)
structure Turn (P:QB) (w:Jd) (K:PySem.W.Frag) (tg:Q3) (J:It) (fp:List Addr) (it:Addr) (tn:Nat->Heap->Prop):Prop where
 mem:it∈fp
 obj:∀i h,tn i h->∀b∈fp,∃o,h.get? b=some o/\∀v,o.data≠.cell v
 keep:∀i h h',tn i h->(∀b∈fp,∀o,h.get? b=some o->h'.get? b=some o)->tn i h'
 item:∀(X:Cx),X.prog=P->X.w=w->X.K=K->X.calm=true->∀(i:Nat)(pins:List (Addr×Obj))(s:Shared)(σ:St)(H:Hp)(E:Value->Shared->Prop),Inv X pins σ H s->(∀b∈fp,FpOk X pins H b)->tn i s.heap->J.go i H ->
  wpAny (model P w) X.A (pyNext (.ref it)) (λr s1=>∃u,r=some u /\
   wpAny (model P w) X.A (letOwnedTupleGo tg (.ref it) u) (λ_ s2=>∃x H',Inv X pins σ H' s2/\RelV x u/\J.yld i H x H'/\tn (i+1) s2.heap/\∀b∈fp,H' b=none) E s1) E s
 done:∀(X:Cx),X.prog=P->X.w=w->X.K=K->X.calm=true->∀(i:Nat)(pins:List (Addr×Obj))(s:Shared)(σ:St)(H:Hp)(E:Value->Shared->Prop),Inv X pins σ H s->(∀b∈fp,FpOk X pins H b)->tn i s.heap->J.stop i H ->
  wpAny (model P w) X.A (pyNext (.ref it)) (λr s1=>r=none/\Inv X pins σ H s1) E s
 self:∀(A:Q1)(i:Nat)(s:Shared)(Q:Value->Shared->Prop)(E:Value->Shared->Prop),tn i s.heap->Q (.ref it) s->wpAny (model P w) A (pyIter (.ref it)) Q E s
abbrev TI:=St->Hp->(It->Hp->Prop)->Prop
def PIE(X:Cx)(pins:List (Addr×Obj))(σ:St)(tg:Q3)(R:It->Hp->Prop)(itv:Value)(s2:Shared):Prop:=
 ∃(it:Addr)(fp:List Addr)(tn:Nat->Heap->Prop)(J:It)(H':Hp),itv=.ref it/\Inv X pins σ H' s2/\Turn X.prog X.w X.K tg J fp it tn/\tn 0 s2.heap/\(∀b∈fp,FpOk X pins H' b)/\R J H'
def PI(X:Cx)(tg iter:Q3)(wi:TI):Prop:=
 ∀(pins:List (Addr×Obj))(s:Shared)(σ:St)(H:Hp)(R:It->Hp->Prop),Inv X pins σ H s->wi σ H R ->
  wpAny (model X.prog X.w) X.A (eval iter X.env) (λv s1=>wpAny (model X.prog X.w) X.A (pyIter v) (PIE X pins σ tg R) X.xe s1) X.xe s
theorem Qp4{M:Qzu}{A:Q1}{E:Value->Shared->Prop}{s:Shared}{tg:Q3}{it:Addr}{u:Value}{o:Obj}{n:String}{vs:Array Value}{Q:Unit->Shared->Prop}(ho:s.heap.get? it=some o)(hc:o.cls=.type n)(hd:o.data=.fields vs)
  (hn:["enumerate", "zip", "dict_itemiterator", "dict_reverseitemiterator", "odict_iterator", "itertools.zip_longest", "itertools.pairwise"].contains n=false)(hQ:Q () s):wpAny M A (letOwnedTupleGo tg (.ref it) u) Q E s:=by
 unfold letOwnedTupleGo;cases tg<;>first
  |exact Qj hQ
  |(cases u<;>first
    |exact Qj hQ
    |(refine wpAny_bind (Qzc ho ?_)
      rw[hc,hd];show wpAny M A (if(["enumerate", "zip", "dict_itemiterator", "dict_reverseitemiterator", "odict_iterator", "itertools.zip_longest", "itertools.pairwise"].contains n&&vs[0]? == some (rawInt _))=true then _ else _) Q E s;rw[if_neg (by intro h;rw[hn,QdD] at h;cases h)];exact Qj hQ))
def Itl(K:PySem.W.Frag)(a:Addr):It:=
 ⟨λi H=>∃xs x,SqL K H a xs/\xs[i]? = some x,λi H x H'=>H'=H/\∀xs,SqL K H a xs->xs[i]? = some x,λi H=>∃xs,SqL K H a xs/\xs.length<=i⟩
def Itt(K:PySem.W.Frag)(a:Addr):It:=
 ⟨λi H=>∃xs x,SqT K H a xs/\xs[i]? = some x,λi H x H'=>H'=H/\∀xs,SqT K H a xs->xs[i]? = some x,λi H=>∃xs,SqT K H a xs/\xs.length<=i⟩
def Itr(lo:Int)(n:Nat):It:=⟨λi _=>i<n,λi H x H'=>H'=H/\x=.int (lo+i),λi _=>n<=i⟩
theorem QlK{P:QB}{w:Jd}{K:PySem.W.Frag}{tg:Q3}(a it:Addr):Turn P w K tg (Itl K a) [it] it (λi h=>h.IsListIter it a i) where
 mem:=by simp
 obj:=λi h st b hb=>by
  have e:b=it:=by simpa using hb
  subst e;obtain⟨o,e,c,d⟩:=st;exact⟨o,e,λv z=>by rw[d] at z;cases z⟩
 keep:=λi h h' st k=>st.at λo e=>k it (by simp) o e
 item:=by
  intro X hP hw hK hc i pins s σ H E I hf st hg;subst hP hw hK;obtain⟨xs,x,hq,hx⟩:=hg;obtain⟨its,rv,p,hz⟩:=I.list hq;obtain⟨u,hu,ru⟩:=rv.get hx;obtain⟨f0,f1,f2,f3,f4,f5⟩:=hf it (by simp);refine Qdy st p.isList (x:=u) (by simpa using hu) λh' st' sb=>?_
  have I1:Inv X pins σ H { s with heap:=h' }:=I.turned (t':=s.toks) (λb o hb e=>(sb.2 b hb).trans e) f0 f1 f3 f4 f5;obtain⟨o,e,c,d⟩:=id st';exact⟨u,rfl,Qp4 (s:={ s with heap:=h' }) e c d (by decide) ⟨x,H,I1,ru,⟨rfl,λys hy=>by rw[I.list_inj hy hq];exact hx⟩,st',λb hb=>(hf b hb).1⟩⟩
 done:=by
  intro X hP hw hK hc i pins s σ H E I hf st hg;subst hP hw hK;obtain⟨xs,hq,hx⟩:=hg;obtain⟨its,rv,p,hz⟩:=I.list hq;obtain⟨f0,f1,f2,f3,f4,f5⟩:=hf it (by simp);have hl:=rv.length;exact QsH (I.ok.hd hc) st p.isList (by simp;omega) λh' eb=>⟨rfl,I.turned (t':=s.toks) (λb o hb e=>eb b o hb e) f0 f1 f3 f4 f5⟩
 self:=λ_ _ _ _ _ st h=>wpAny_pyIter_listiter st h
theorem Qkx{P:QB}{w:Jd}{K:PySem.W.Frag}{tg:Q3}(a it:Addr):Turn P w K tg (Itt K a) [it] it (λi h=>h.IsTupleIter it a i) where
 mem:=by simp
 obj:=λi h st b hb=>by
  have e:b=it:=by simpa using hb
  subst e;obtain⟨o,e,c,d⟩:=st;exact⟨o,e,λv z=>by rw[d] at z;cases z⟩
 keep:=λi h h' st k=>st.at λo e=>k it (by simp) o e
 item:=by
  intro X hP hw hK hc i pins s σ H E I hf st hg;subst hP hw hK;obtain⟨xs,x,hq,hx⟩:=hg;obtain⟨its,rv,p,hz⟩:=I.tuple hq;obtain⟨u,hu,ru⟩:=rv.get hx;obtain⟨f0,f1,f2,f3,f4,f5⟩:=hf it (by simp);refine wpAny_pyNext_tuple_item st (show s.heap.IsTuple a its.toArray from p) (x:=u) (by simpa using hu) λh' st' sb=>?_
  have I1:Inv X pins σ H { s with heap:=h' }:=I.turned (t':=s.toks) (λb o hb e=>(sb.2 b hb).trans e) f0 f1 f3 f4 f5;obtain⟨o,e,c,d⟩:=id st';exact⟨u,rfl,Qp4 (s:={ s with heap:=h' }) e c d (by decide) ⟨x,H,I1,ru,⟨rfl,λys hy=>by rw[I.tuple_inj hy hq];exact hx⟩,st',λb hb=>(hf b hb).1⟩⟩
 done:=by
  intro X hP hw hK hc i pins s σ H E I hf st hg;subst hP hw hK;obtain⟨xs,hq,hx⟩:=hg;obtain⟨its,rv,p,hz⟩:=I.tuple hq;obtain⟨f0,f1,f2,f3,f4,f5⟩:=hf it (by simp);have hl:=rv.length;exact wpAny_pyNext_tuple_end (I.ok.hd hc) st (show s.heap.IsTuple a its.toArray from p) (by simp;omega) λh' eb=>⟨rfl,I.turned (t':=s.toks) (λb o hb e=>eb b o hb e) f0 f1 f3 f4 f5⟩
 self:=λ_ _ _ _ _ st h=>wpAny_pyIter_tupleiter st h
theorem Qky{P:QB}{w:Jd}{K:PySem.W.Frag}{tg:Q3}(it:Addr)(lo:Int)(n:Nat):Turn P w K tg (Itr lo n) [it] it (λi h=>Qku h it (lo+(i:Nat)*1) ((n:Int) - (i:Nat)) 1) where
 mem:=by simp
 obj:=λi h st b hb=>by
  have e:b=it:=by simpa using hb
  subst e;exact⟨_,st,λv z=>by
   have z':Data.fields _=Data.cell v:=z;cases z'⟩
 keep:=λi h h' st k=>k it (by simp) _ st
 item:=by
  intro X hP hw hK hc i pins s σ H E I hf st hg;subst hP hw hK;obtain⟨f0,f1,f2,f3,f4,f5⟩:=hf it (by simp);have W:=Qzi (prog:=X.prog) (w:=X.w) (I.ok.hd hc) it lo 1 n;refine W.item i s _ _ hg st λv h' tk hv st' kk=>?_
  obtain⟨t,rfl⟩:=hv;have I1:Inv X pins σ H { s with heap:=h',toks:=tk }:=I.turned (λb o hb e=>kk b o (by simpa using hb) e) f0 f1 f3 f4 f5;refine⟨_,rfl,Qp4 (s:={ s with heap:=h',toks:=tk }) (n := "range_iterator") st' rfl rfl (by decide) ⟨.int (lo+i),H,I1,⟨t,?_⟩,⟨rfl,rfl⟩,st',λb hb=>(hf b hb).1⟩⟩;rw[Int.mul_one]
 done:=by
  intro X hP hw hK hc i pins s σ H E I hf st hg;subst hP hw hK;obtain⟨f0,f1,f2,f3,f4,f5⟩:=hf it (by simp);exact Qrs (I.ok.hd hc) st (by have:n<=i:=hg;omega) λh' eb=>⟨rfl,I.turned (t':=s.toks) (λb o hb e=>eb b o hb e) f0 f1 f3 f4 f5⟩
 self:=λ_ _ _ _ _ st h=>Qdz st h
section
variable{X:Cx}{tg:Q3}
def QAF(K:PySem.W.Frag)(tl:TE):TI:=λσ H R=>tl σ H λx H1=>∃a,x=.ref a/\(∃xs,SqL K H1 a xs)/\R (Itl K a) H1
def QCa(K:PySem.W.Frag)(tl:TE):TI:=λσ H R=>tl σ H λx H1=>∃a,x=.ref a/\(∃xs,SqT K H1 a xs)/\R (Itt K a) H1
theorem QtF{l:Q3}{tl:TE}(hl:PE X l tl):PI X tg l (QAF X.K tl):=by
 intro pins s σ H R I h;refine thn (hl pins s σ H _ I h) λv s1 ⟨x,H1,I1,r1,q1⟩=>?_
 obtain⟨a,e,⟨xs,hq⟩,q⟩:=q1;subst e;cases r1;obtain⟨its,rv,p,hz⟩:=I1.list hq;refine Qcx p.isList ?_
 refine⟨s1.heap.objs.size,[s1.heap.objs.size],_,_,H1,rfl,I1.kept (t':=s1.toks) λb o e=>Qi _ e,QlK a _,⟨_,Qs _ rfl,rfl,rfl⟩,λb hb=>?_,q⟩;have e:b=s1.heap.objs.size:=by simpa using hb
 subst e;exact I1.fpOk (Ql _) (I1.hok.fresh (Ql _))
theorem QwU{l:Q3}{tl:TE}(hl:PE X l tl):PI X tg l (QCa X.K tl):=by
 intro pins s σ H R I h;refine thn (hl pins s σ H _ I h) λv s1 ⟨x,H1,I1,r1,q1⟩=>?_
 obtain⟨a,e,⟨xs,hq⟩,q⟩:=q1;subst e;cases r1;obtain⟨its,rv,p,hz⟩:=I1.tuple hq;refine QbZ (show s1.heap.IsTuple a its.toArray from p) ?_
 refine⟨s1.heap.objs.size,[s1.heap.objs.size],_,_,H1,rfl,I1.kept (t':=s1.toks) λb o e=>Qi _ e,Qkx a _,⟨_,Qs _ rfl,rfl,rfl⟩,λb hb=>?_,q⟩;have e:b=s1.heap.objs.size:=by simpa using hb
 subst e;exact I1.fpOk (Ql _) (I1.hok.fresh (Ql _))
theorem QoZ{pins:List (Addr×Obj)}{σ:St}{H:Hp}{s:Shared}{R:It->Hp->Prop}{E:Value->Shared->Prop}{lo hi:Int}{t u v:Tok}{tk:Nat}(I:Inv X pins σ H s)(h1 : -(2^62)<=lo)(h2:lo<2^62)(h3 : -(2^62)<=hi)(h4:hi<2^62)
  (q:R (Itr lo (hi - lo).toNat) H):wpAny (model X.prog X.w) X.A (pyIter (.ref s.heap.objs.size)) (PIE X pins σ tg R) E { s with heap:=s.heap.push { cls:=.type "range",data:=.fields #[.int lo t,.int hi u,.int 1 v] },toks:=tk }:=by
 refine wpAny_pyIter_range (IsRange.new ..) (small_one h1 h2 h3 h4) ?_
 have I1:Inv X pins σ H { s with heap:=s.heap.push { cls:=.type "range",data:=.fields #[.int lo t,.int hi u,.int 1 v] },toks:=tk }:=I.kept λb o e=>Qi _ e
 refine⟨(s.heap.push { cls:=.type "range",data:=.fields #[.int lo t,.int hi u,.int 1 v] }).objs.size,[(s.heap.push { cls:=.type "range",data:=.fields #[.int lo t,.int hi u,.int 1 v] }).objs.size],_,_,H,rfl,
  I1.kept (t':=tk) λb o e=>Qi _ e,Qky _ lo (hi - lo).toNat,?_,λb hb=>?_,q⟩
 ·have e1:lo+((0:Nat):Int)*1=lo:=by simp
  have e2:(((hi - lo).toNat:Nat):Int) - ((0:Nat):Int)=Jk lo hi 1:=by rw[QcU];split<;>omega
  show Qku _ _ (lo+((0:Nat):Int)*1) ((((hi - lo).toNat:Nat):Int) - ((0:Nat):Int)) 1;rw[e1,e2];exact Qs _ rfl
 ·have e:b=(s.heap.push { cls:=.type "range",data:=.fields #[.int lo t,.int hi u,.int 1 v] }).objs.size:=by simpa using hb
  subst e;exact I1.fpOk (Ql _) (I1.hok.fresh (Ql _))
def QAE(ta:TA):TI:=λσ H R=>ta σ H λvs H1=>∃j:Int,vs=[.int j] /\ -(2^62)<=j/\j<2^62/\R (Itr 0 j.toNat) H1
theorem QeK{a:Q3}{ta:TA}{p pos:Pos}(hg:Gl X "range")(hm:X.mg "range" = none)(ha:PA X [a] ta)(hs:starEach [a] X.env=[(false,eval a X.env)]:=by rfl):PI X tg (.Call (.Name "range" p) [a] [] pos) (QAE ta):=by
 intro pins s σ H R I h;refine Call_ (Qdi I hg hm boot_range (Zb (thn (ha pos pins s σ H _ I h) λus s1 ⟨vs,H1,I1,r1,q1⟩=>?_) hs rfl));obtain⟨j,e,q1,q2,q⟩:=q1;subst e;cases r1 with
 |cons r rr=>
  cases rr;obtain⟨t,rfl⟩:=r;exact call_range_1 (QoZ I1 (by omega) (by omega) q1 q2 (by simpa using q))
def tFor(wi:TI)(g:TG)(tb:TS):TS:=λD σ H=>wi σ H λJ H1=>∃W:Nat->Nat->St->Hp->Prop,(∃m,W 0 m σ H1)/\∀i m σ H,W i m σ H ->
 (J.stop i H/\D.nx σ H)∨(J.go i H/\∃N:St->Hp->Prop,(∀σ' H',N σ' H'->∃m',m'<m/\W (i+1) m' σ' H')/\∀x H',J.yld i H x H'->g x σ H' λσ2 H2=>tb { D with nx:=N,ct:=N,bk:=D.nx } σ2 H2)
def QjL(fp:List Addr)(h:Heap):List (Addr×Obj):=fp.filterMap λb=>(h.get? b).map λo=>(b,o)
theorem Qb9{fp:List Addr}{h:Heap}{b:Addr}{o:Obj}(hb:b∈fp)(e:h.get? b=some o):(b,o)∈QjL fp h:=Qeh.mpr ⟨b,hb,by rw[e];rfl⟩
theorem QmO{fp:List Addr}{h:Heap}{p:Addr×Obj}(hp:p∈QjL fp h):p.1∈fp/\h.get? p.1=some p.2:=by
 obtain⟨b,hb,e⟩:=Qeh.mp hp;cases q:h.get? b with
 |none=>rw[q] at e;cases e
 |some o=>
  rw[q] at e;have e':(b,o)=p:=QK e;subst e';exact⟨hb,q⟩
theorem Inv.pinned{pins:List (Addr×Obj)}{σ:St}{H:Hp}{s:Shared}{fp:List Addr}(I:Inv X pins σ H s)(hf:∀b∈fp,FpOk X pins H b)(ho:∀b∈fp,∃o,s.heap.get? b=some o/\∀v,o.data≠.cell v):Inv X (pins++QjL fp s.heap) σ H s:=
 I.pins_of λp hp=>(Yh.mp hp).elim (λz=>I.pin p (Jr _ z)) λz=>by
  obtain⟨hb,e⟩:=QmO z;obtain⟨f0,f1,f2,_⟩:=hf p.1 hb;obtain⟨o,e',d⟩:=ho p.1 hb;rw[e] at e';cases e';exact⟨e,f0,f1,f2,d⟩
theorem Inv.unpinned{pins pl:List (Addr×Obj)}{σ:St}{H:Hp}{s:Shared}(I:Inv X (pins++pl) σ H s):Inv X pins σ H s:=I.pins_of λp hp=>I.pin p (Jr _ (Qdv _ hp))
theorem Qr1{iter:Q3}{body:List YO}{wi:TI}{g:TG}{tb:TS}{pos:Pos}(hp:PassesOwn (model X.prog X.w) X.A X.env X.xe)(hc:X.calm=true)(hi:PI X tg iter wi)(hg:PG X tg g)(hb:PSs X body tb)
  (hs:∀x,foldedSetIterable iter X.env x=pure x:=by intro _;rfl):PS X (.For tg iter body [] pos) (tFor wi g tb):=by
 intro pins s σ H D I h;refine wpAny_For (thn (hi pins s σ H _ I h) λv s1 h1=>thn h1 λitv s2 h2=>?_) hs;obtain⟨it,fp,tn,J,H2,e,I2,T,st2,f2,W,⟨m0,w0⟩,turn⟩:=h2;subst e;have stat:∀{H':Hp},(∀b∈fp,H' b=none)->∀b∈fp,FpOk X pins H' b:=λhn b hb=>⟨hn b hb,(f2 b hb).2⟩
 refine codeAny_forLoop_any (λn s'=>∃i σ' H',Inv X pins σ' H' s'/\tn i s'.heap/\(∀b∈fp,H' b=none)/\W i n σ' H') ?_ m0 ⟨0,σ,H2,I2,st2,λb hb=>(f2 b hb).1,w0⟩
 rintro n s3 ⟨i,σ3,H3,I3,st3,fr3,w3⟩;rcases turn i n σ3 H3 w3 with⟨stop,qn⟩ | ⟨go,N,hN,step⟩
 ·refine Qbz hp (thn (T.done X rfl rfl rfl hc i pins s3 σ3 H3 X.xe I3 (stat fr3) st3 stop) λr s4 ⟨hr,I4⟩=>?_);subst hr;exact Qkq ⟨σ3,H3,I4,qn⟩
 ·refine Qbz hp (thn (T.item X rfl rfl rfl hc i pins s3 σ3 H3 X.xe I3 (stat fr3) st3 go) λr s4 ⟨u,hr,h4⟩=>?_);subst hr;refine Qbz hp (thn h4 λ_ s5 ⟨x,H5,I5,r5,y5,st5,fr5⟩=>?_);have I5':=I5.pinned (stat fr5) (T.obj _ _ st5);refine Qbz hp (thn (hg _ s5 σ3 H5 x u _ I5' r5 (step x H5 y5)) λ_ s6 ⟨σ6,H6,I6,q6⟩=>?_);refine Qbz hp (thn (hb _ s6 σ6 H6 _ I6 q6) λf s7 q7=>?_);have again:∀{σ7:St}{H7:Hp},Inv X (pins++QjL fp s5.heap) σ7 H7 s7->N σ7 H7->∃m,m<n/\∃i σ' H',Inv X pins σ' H' s7/\tn i s7.heap/\(∀b∈fp,H' b=none)/\W i m σ' H':=λ{σ7 H7} I7 n7=>by
   obtain⟨m',hm,w7⟩:=hN σ7 H7 n7;refine⟨m',hm,i+1,σ7,H7,I7.unpinned,T.keep _ _ _ st5 λb hb o e=>(I7.pin (b,o) (Jr _ (Jr _ (Qb9 hb e)))).1,λb hb=>?_,w7⟩;obtain⟨o,e,d⟩:=T.obj _ _ st5 b hb;exact(I7.pin (b,o) (Jr _ (Jr _ (Qb9 hb e)))).2.1
  cases f with
  |next=>obtain⟨σ7,H7,I7,n7⟩:=q7;exact again I7 n7
  |cont=>obtain⟨σ7,H7,I7,n7⟩:=q7;exact again I7 n7
  |brk=>obtain⟨σ7,H7,I7,q7⟩:=q7;exact⟨σ7,H7,I7.unpinned,q7⟩
  |ret v=>obtain⟨x7,σ7,H7,I7,r7,q7⟩:=q7;exact⟨x7,σ7,H7,I7.unpinned,r7,q7⟩
end
theorem Qns{lo:Int}{n:Nat}{g:TG}{tb:TS}{D:Ends}{σ:St}{H:Hp}(Pv:Nat->St->Hp->Prop)(h0:Pv 0 σ H)
  (hs:∀i σ H,i<n->Pv i σ H->g (.int (lo+i)) σ H λσ2 H2=>tb { D with nx:=Pv (i+1),ct:=Pv (i+1),bk:=D.nx } σ2 H2)(hd:∀σ H,Pv n σ H->D.nx σ H) :
  ∃W:Nat->Nat->St->Hp->Prop,(∃m,W 0 m σ H)/\∀i m σ H,W i m σ H ->
   ((Itr lo n).stop i H/\D.nx σ H)∨((Itr lo n).go i H/\∃N:St->Hp->Prop,(∀σ' H',N σ' H'->∃m',m'<m/\W (i+1) m' σ' H')/\∀x H',(Itr lo n).yld i H x H'->g x σ H' λσ2 H2=>tb { D with nx:=N,ct:=N,bk:=D.nx } σ2 H2):=by
 refine⟨λi m σ H=>m=n - i/\i<=n/\Pv i σ H,⟨n,by simp,Q9 _,h0⟩,?_⟩;rintro i m σ H ⟨rfl,hi,p⟩;by_cases hlt:i<n
 ·refine .inr ⟨hlt,Pv (i+1),λσ' H' p'=>⟨n - (i+1),by omega,rfl,hlt,p'⟩,λx H' y=>?_⟩;obtain⟨e,y⟩:=y;subst e y;exact hs i σ _ hlt p
 ·have e:i=n:=by omega
  subst e;exact .inl ⟨Ql _,hd σ H p⟩
abbrev R2:=V->V->Hp->VK->Prop
def OpR(X:Cx)(f:Value->Value->Sem Value)(r:R2):Prop:=
 ∀(pins:List (Addr×Obj))(s:Shared)(σ:St)(H:Hp)(x y:V)(v u:Value)(Q:VK),Inv X pins σ H s->RelV x v->RelV y u->r x y H Q ->
  wpAny (model X.prog X.w) X.A (f v u) (EP X pins σ Q) X.xe s
def UnR(X:Cx)(f:Value->Sem Value)(r:V->Hp->VK->Prop):Prop:=
 ∀(pins:List (Addr×Obj))(s:Shared)(σ:St)(H:Hp)(x:V)(v:Value)(Q:VK),Inv X pins σ H s->RelV x v->r x H Q ->
  wpAny (model X.prog X.w) X.A (f v) (EP X pins σ Q) X.xe s
def CallR(X:Cx)(f:Value)(r:List V->Hp->VK->Prop):Prop:=
 ∀(pins:List (Addr×Obj))(s:Shared)(σ:St)(H:Hp)(xs:List V)(us:List Value)(Q:VK),Inv X pins σ H s->Vals xs us->r xs H Q ->
  wpAny (model X.prog X.w) X.A (call f us) (EP X pins σ Q) X.xe s
def QCh(X:Cx)(r:V->Hp->(Bool->Hp->Prop)->Prop):Prop:=
 ∀(pins:List (Addr×Obj))(s:Shared)(σ:St)(H:Hp)(x:V)(v:Value)(Q:Bool->Hp->Prop),Inv X pins σ H s->RelV x v->r x H Q ->
  wpAny (model X.prog X.w) X.A (truthy v) (TP X pins σ Q) X.xe s
def tOp(r:R2)(ta tb:TE):TE:=λσ H Q=>ta σ H λx H1=>tb σ H1 λy H2=>r x y H2 Q
def tUn(r:V->Hp->VK->Prop)(ta:TE):TE:=λσ H Q=>ta σ H λx H1=>r x H1 Q
def rI(C:Int->Int->Prop)(g:Int->Int->V):R2:=λx y H Q=>∃i j,x=.int i/\y=.int j/\C i j/\Q (g i j) H
def rI0(g:Int->Int->V):R2:=λx y H Q=>∃i j,x=.int i/\y=.int j/\Q (g i j) H
def rU(g:Int->V):V->Hp->VK->Prop:=λx H Q=>∃i,x=.int i/\Q (g i) H
section
variable{X:Cx}{a b c:Q3}{ta tb tc:TE}{pos:Pos}
theorem QAU(ha:PE X a ta)(hb:PE X b tb){pins:List (Addr×Obj)}{s:Shared}{σ:St}{H:Hp}{R:V->V->Hp->Prop}(I:Inv X pins σ H s)
  (h:ta σ H λx H1=>tb σ H1 λy H2=>R x y H2){Q:Value->Shared->Prop}{f:Value->Value->Sem Value}
  (hf:∀v u s2 x y H2,Inv X pins σ H2 s2->RelV x v->RelV y u->R x y H2->wpAny (model X.prog X.w) X.A (f v u) Q X.xe s2) :
  wpAny (model X.prog X.w) X.A (eval a X.env) (λv s₁=>wpAny (model X.prog X.w) X.A (eval b X.env) (λu s₂=>wpAny (model X.prog X.w) X.A (f v u) Q X.xe s₂) X.xe s₁) X.xe s:=by
 refine thn (ha pins s σ H _ I h) λv s1 ⟨x,H1,I1,r1,q1⟩=>?_
 refine thn (hb pins s1 σ H1 _ I1 q1) λu s2 ⟨y,H2,I2,r2,q2⟩=>?_
 exact hf v u s2 x y H2 I2 r1 r2 q2
theorem Qbo{op:Qb1}{r:R2}(ho:OpR X (binaryOp op) r)(ha:PE X a ta)(hb:PE X b tb):PE X (.BinOp a op b pos) (tOp r ta tb):=by
 intro pins s σ H Q I h;exact wpAny_BinOp (QAU ha hb I h λv u s2 x y H2 I2 rx ry q=>ho pins s2 σ H2 x y v u Q I2 rx ry q)
theorem Qz8{op:UnaryOp}{r:V->Hp->VK->Prop}(ho:UnR X (unaryOp op) r)(ha:PE X a ta):PE X (.UnaryOp op a pos) (tUn r ta):=by
 intro pins s σ H Q I h;exact UnaryOp_ (thn (ha pins s σ H _ I h) λv s1 ⟨x,H1,I1,r1,q1⟩=>ho pins s1 σ H1 x v Q I1 r1 q1)
theorem opI{f:Value->Value->Sem Value}{C:Int->Int->Prop}{g:Int->Int->Int}
  (rule:∀(i j:Int)(t u:Tok)(s:Shared)(Q:Value->Shared->Prop)(E:Value->Shared->Prop),C i j->Q (.int (g i j) s.toks) { s with toks:=s.toks+1 }->wpAny (model X.prog X.w) X.A (f (.int i t) (.int j u)) Q E s) :
  OpR X f (rI C λi j=>.int (g i j)):=by
 intro pins s σ H x y v u Q I rx ry h;obtain⟨i,j,rfl,rfl,hc,q⟩:=h;obtain⟨t,rfl⟩:=rx;obtain⟨t',rfl⟩:=ry;exact rule i j t t' s _ _ hc ⟨.int (g i j),H,I.tok _,⟨_,rfl⟩,q⟩
theorem Qy3{f:Value->Value->Sem Value}{g:Int->Int->Int}
  (rule:∀(i j:Int)(t u:Tok)(s:Shared)(Q:Value->Shared->Prop)(E:Value->Shared->Prop),Q (.int (g i j) s.toks) { s with toks:=s.toks+1 }->wpAny (model X.prog X.w) X.A (f (.int i t) (.int j u)) Q E s) :
  OpR X f (rI0 λi j=>.int (g i j)):=by
 intro pins s σ H x y v u Q I rx ry h;obtain⟨i,j,rfl,rfl,q⟩:=h;obtain⟨t,rfl⟩:=rx;obtain⟨t',rfl⟩:=ry;exact rule i j t t' s _ _ ⟨.int (g i j),H,I.tok _,⟨_,rfl⟩,q⟩
theorem QAp{f:Value->Value->Sem Value}{g:Int->Int->Bool}
  (rule:∀(i j:Int)(t u:Tok)(s:Shared)(Q:Value->Shared->Prop)(E:Value->Shared->Prop),Q (.bool (g i j)) s->wpAny (model X.prog X.w) X.A (f (.int i t) (.int j u)) Q E s) :
  OpR X f (rI0 λi j=>.bl (g i j)):=by
 intro pins s σ H x y v u Q I rx ry h;obtain⟨i,j,rfl,rfl,q⟩:=h;obtain⟨t,rfl⟩:=rx;obtain⟨t',rfl⟩:=ry;exact rule i j t t' s _ _ ⟨.bl (g i j),H,I,rfl,q⟩
def QBQ(i j:Int):Prop:=0<=j/\j<=1000000/\i.natAbs<2^64
def CMul(i j:Int):Prop:=(-(2^64)<i/\i<2^64)∨(-(2^64)<j/\j<2^64)
theorem CMul.ok{i j:Int}(h:CMul i j):IntMulOk i j:=by
 rcases h with⟨h1,h2⟩ | ⟨h1,h2⟩
 ·exact .of_left (intBits_le_64 h1 h2)
 ·exact .of_right (intBits_le_64 h1 h2)
theorem QfM:OpR X (binaryOp .Add) (rI0 λi j=>.int (i+j)):=Qy3 λ_ _ _ _ _ _ _ q=>add_int q
theorem QeM:OpR X (binaryOp .Sub) (rI0 λi j=>.int (i - j)):=Qy3 λ_ _ _ _ _ _ _ q=>sub_int q
theorem QfL:OpR X (binaryOp .Mult) (rI CMul λi j=>.int (i*j)):=opI λ_ _ _ _ _ _ _ hc q=>mul_int q hc.ok
theorem QjR:OpR X (binaryOp .Mod) (rI (λ_ j=>0<j) λi j=>.int (i % j)):=opI λi j _ _ _ _ _ hc q=>by
 have h1:(0:Int)<j:=hc;exact mod_int' (by omega) (by rw[Int.fmod_eq_emod_of_nonneg i (by omega)];exact q)
theorem Qsa:OpR X (binaryOp .Pow) (rI QBQ λi j=>.int (i^j.toNat)):=opI λ_ _ _ _ _ _ _ hc q=>pow_int_small hc.1 hc.2.1 hc.2.2 q
theorem QhM:OpR X (binaryOp .LShift) (rI QBQ λi j=>.int (i*2^j.toNat)):=opI λ_ _ _ _ _ _ _ hc q=>lshift_int_small hc.1 hc.2.1 hc.2.2 q
theorem Qsc:OpR X (binaryOp .BitAnd) (rI0 λi j=>.int (Zp i j)):=Qy3 λ_ _ _ _ _ _ _ q=>and_int q
theorem QAl:OpR X (binaryOp .BitOr) (rI0 λi j=>.int (QdC i j)):=Qy3 λ_ _ _ _ _ _ _ q=>or_int q
theorem Qnd:OpR X (inplaceOp .Mult) (rI CMul λi j=>.int (i*j)):=opI λ_ _ _ _ _ _ _ hc q=>imul_int q hc.ok
theorem unI{f:Value->Sem Value}{g:Int->Int}
  (rule:∀(i:Int)(t:Tok)(s:Shared)(Q:Value->Shared->Prop)(E:Value->Shared->Prop),Q (.int (g i) s.toks) { s with toks:=s.toks+1 }->wpAny (model X.prog X.w) X.A (f (.int i t)) Q E s) :
  UnR X f (rU λi=>.int (g i)):=by
 intro pins s σ H x v Q I rx h;obtain⟨i,rfl,q⟩:=h;obtain⟨t,rfl⟩:=rx;exact rule i t s _ _ ⟨.int (g i),H,I.tok _,⟨_,rfl⟩,q⟩
theorem Qv8:UnR X (unaryOp .USub) (rU λi=>.int (-i)):=unI λ_ _ _ _ _ q=>neg_int q
end
def QA9:V->V->Bool
 |.non,.non=>true | .non,.int _=>true | .int _,.non=>true | .non,.bl _=>true | .bl _,.non=>true | .non,.str _=>true | .str _,.non=>true
 |.int _,.int _=>true | .bl _,.bl _=>true | .str _,.str _=>true | .byt _,.byt _=>true
 |.int _,.str _=>true | .str _,.int _=>true | .bl _,.str _=>true | .str _,.bl _=>true
 |_,_=>false
def rEq:R2:=λx y H Q=>QA9 x y=true/\Q (.bl (decide (x=y))) H
def rNe:R2:=λx y H Q=>QA9 x y=true/\Q (.bl (!decide (x=y))) H
theorem QnE{i j:Int}:decide (V.int i=V.int j)=(i == j):=by
 rw[JA];simp
theorem Qss{i j:Bool}:decide (V.bl i=V.bl j)=(i == j):=by
 rw[JA];simp
theorem QnD{i j:Str}:decide (V.str i=V.str j)=(i == j):=by
 rw[JA];simp
theorem QnF{i j:Array UInt8}:decide (V.byt i=V.byt j)=(i.toList == j.toList):=by
 rw[JA];cases i;cases j;simp
section
variable{X:Cx}{a b c:Q3}{ta tb tc:TE}{pos:Pos}
theorem ZH{pins:List (Addr×Obj)}{σ:St}{H:Hp}{s:Shared}{Q:VK}{k k':Bool}(I:Inv X pins σ H s)(q:Q (.bl k) H)(e:k=k'):EP X pins σ Q (.bool k') s:=by
 subst e;exact⟨.bl k,H,I,rfl,q⟩
theorem QAo:OpR X (compareOp .Eq) rEq:=by
 intro pins s σ H x y v u Q I rx ry h;obtain⟨hs,q⟩:=h;cases x with
 |non=>
  cases rx;cases y with
  |non=>cases ry;exact PySem.EqNone.eq_none_none (ZH I q (by simp))
  |bl j=>cases ry;exact PySem.EqNone.eq_none_bool (ZH I q (by simp))
  |int j=>obtain⟨t',rfl⟩:=ry;exact PySem.EqNone.eq_none_int (ZH I q (by simp))
  |str j=>obtain⟨t',rfl⟩:=ry;exact PySem.EqNone.eq_none_str (ZH I q (by simp))
  |_=>exact absurd (show false=true from hs) QD
 |bl i=>
  cases rx;cases y with
  |non=>cases ry;exact PySem.EqNone.eq_bool_none (ZH I q (by simp))
  |bl j=>cases ry;exact eq_bool (ZH I q Qss)
  |str j=>obtain⟨t',rfl⟩:=ry;exact PySem.EqMixed.eq_bool_str (ZH I q (by simp))
  |_=>exact absurd (show false=true from hs) QD
 |int i=>
  obtain⟨t,rfl⟩:=rx;cases y with
  |non=>cases ry;exact PySem.EqNone.eq_int_none (ZH I q (by simp))
  |int j=>obtain⟨t',rfl⟩:=ry;exact eq_int (ZH I q QnE)
  |str j=>obtain⟨t',rfl⟩:=ry;exact PySem.EqMixed.eq_int_str (ZH I q (by simp))
  |_=>exact absurd (show false=true from hs) QD
 |str i=>
  obtain⟨t,rfl⟩:=rx;cases y with
  |non=>cases ry;exact PySem.EqNone.eq_str_none (ZH I q (by simp))
  |bl j=>cases ry;exact PySem.EqMixed.eq_str_bool (ZH I q (by simp))
  |int j=>obtain⟨t',rfl⟩:=ry;exact PySem.EqMixed.eq_str_int (ZH I q (by simp))
  |str j=>obtain⟨t',rfl⟩:=ry;exact eq_str (ZH I q QnD)
  |_=>exact absurd (show false=true from hs) QD
 |byt i=>
  obtain⟨t,rfl⟩:=rx;cases y with
  |byt j=>obtain⟨t',rfl⟩:=ry;exact PySem.W.eq_bytes (ZH I q QnF)
  |_=>exact absurd (show false=true from hs) QD
 |_=>cases y<;>exact absurd (show false=true from hs) QD
theorem QAm:OpR X (compareOp .NotEq) rNe:=by
 intro pins s σ H x y v u Q I rx ry h;obtain⟨hs,q⟩:=h;cases x with
 |non=>
  cases rx;cases y with
  |non=>cases ry;exact PySem.EqNone.ne_none_none (ZH I q (by simp))
  |bl j=>cases ry;exact PySem.EqNone.ne_none_bool (ZH I q (by simp))
  |int j=>obtain⟨t',rfl⟩:=ry;exact PySem.EqNone.ne_none_int (ZH I q (by simp))
  |str j=>obtain⟨t',rfl⟩:=ry;exact PySem.EqNone.ne_none_str (ZH I q (by simp))
  |_=>exact absurd (show false=true from hs) QD
 |bl i=>
  cases rx;cases y with
  |non=>cases ry;exact PySem.EqNone.ne_bool_none (ZH I q (by simp))
  |bl j=>cases ry;exact ne_bool (ZH I q (congrArg not Qss))
  |str j=>obtain⟨t',rfl⟩:=ry;exact PySem.EqMixed.ne_bool_str (ZH I q (by simp))
  |_=>exact absurd (show false=true from hs) QD
 |int i=>
  obtain⟨t,rfl⟩:=rx;cases y with
  |non=>cases ry;exact PySem.EqNone.ne_int_none (ZH I q (by simp))
  |int j=>obtain⟨t',rfl⟩:=ry;exact ne_int (ZH I q (congrArg not QnE))
  |str j=>obtain⟨t',rfl⟩:=ry;exact PySem.EqMixed.ne_int_str (ZH I q (by simp))
  |_=>exact absurd (show false=true from hs) QD
 |str i=>
  obtain⟨t,rfl⟩:=rx;cases y with
  |non=>cases ry;exact PySem.EqNone.ne_str_none (ZH I q (by simp))
  |bl j=>cases ry;exact PySem.EqMixed.ne_str_bool (ZH I q (by simp))
  |int j=>obtain⟨t',rfl⟩:=ry;exact PySem.EqMixed.ne_str_int (ZH I q (by simp))
  |str j=>obtain⟨t',rfl⟩:=ry;exact ne_str (ZH I q (congrArg not QnD))
  |_=>exact absurd (show false=true from hs) QD
 |byt i=>
  obtain⟨t,rfl⟩:=rx;cases y with
  |byt j=>obtain⟨t',rfl⟩:=ry;exact PySem.W.ne_bytes (ZH I q (congrArg not QnF))
  |_=>exact absurd (show false=true from hs) QD
 |_=>cases y<;>exact absurd (show false=true from hs) QD
theorem Quj:OpR X (compareOp .Lt) (rI0 λi j=>.bl (decide (i<j))):=QAp λ_ _ _ _ _ _ _ q=>lt_int q
theorem Qxn:OpR X (compareOp .LtE) (rI0 λi j=>.bl (decide (i<=j))):=QAp λ_ _ _ _ _ _ _ q=>le_int q
theorem QAn:OpR X (compareOp .GtE) (rI0 λi j=>.bl (decide (j<=i))):=QAp λ_ _ _ _ _ _ _ q=>ge_int q
theorem Qxo:OpR X (compareOp .Is) (λx y H Q=>y=.non/\Q (.bl (decide (x=.non))) H):=by
 intro pins s σ H x y v u Q I rx ry h;obtain⟨rfl,q⟩:=h;cases ry;refine is_none_gen (ZH I q ?_);cases x<;>first
  |(cases rx;rfl)
  |(obtain⟨t,rfl⟩:=rx;rfl)
theorem Quh:OpR X (compareOp .IsNot) (λx y H Q=>y=.non/\Q (.bl (!decide (x=.non))) H):=by
 intro pins s σ H x y v u Q I rx ry h;obtain⟨rfl,q⟩:=h;cases ry;refine isnot_none_gen (ZH I q ?_);cases x<;>first
  |(cases rx;rfl)
  |(obtain⟨t,rfl⟩:=rx;rfl)
theorem OpR.or{f:Value->Value->Sem Value}{r r':R2}(h:OpR X f r)(h':OpR X f r'):OpR X f (λx y H Q=>r x y H Q∨r' x y H Q):=by
 intro pins s σ H x y v u Q I rx ry q;rcases q with q | q
 ·exact h pins s σ H x y v u Q I rx ry q
 ·exact h' pins s σ H x y v u Q I rx ry q
theorem Zz(b:Q3){op:QsV}(h:op≠.In:=by decide)(h2:op≠.NotIn:=by decide):behindInMarks op b=false:=by
 have e1:(op == CmpOp.In)=false:=by cases op<;>first | rfl | exact absurd rfl h
 have e2:(op == CmpOp.NotIn)=false:=by cases op<;>first | rfl | exact absurd rfl h2
 cases b<;>simp[behindInMarks,e1,e2]
theorem QtL{op:QsV}{r:R2}(ho:OpR X (compareOp op) r)(ha:PE X a ta)(hb:PE X b tb)(hm:behindInMarks op b=false):PE X (.Compare a [op] [b] pos) (tOp r ta tb):=by
 intro pins s σ H Q I h;exact wpAny_Compare1 (QAU ha hb I h λv u s2 x y H2 I2 rx ry q=>ho pins s2 σ H2 x y v u Q I2 rx ry q) hm
def QzJ(t:TE):TT:=λσ H Q=>t σ H λx H'=>∃k,x=.bl k/\Q k H'
theorem QiM{op:QsV}{r:R2}(ho:OpR X (compareOp op) r)(ha:PE X a ta)(hb:PE X b tb)(hm:behindInMarks op b=false):PT X (.Compare a [op] [b] pos) (QzJ (tOp r ta tb)):=by
 intro pins s σ H Q I h;refine wpAny_isTrue_Compare1 (thn (ha pins s σ H _ I h) λv s1 ⟨x,H1,I1,r1,q1⟩=>thn (hb pins s1 σ H1 _ I1 q1) λu s2 ⟨y,H2,I2,r2,q2⟩=>
  thn (ho pins s2 σ H2 x y v u _ I2 r1 r2 q2) λc s3 ⟨z,H3,I3,r3,k,e,q3⟩=>?_) hm
 subst e;cases r3;exact ZV ⟨H3,I3,q3⟩
def QrM(r r':R2)(ta tb tc:TE):TE:=λσ H Q=>ta σ H λx H1=>tb σ H1 λy H2=>r x y H2 λz H3=>∃k,z=.bl k /\
 (if k=true then tc σ H3 λw' H4=>r' y w' H4 Q else Q (.bl false) H3)
theorem Qpf{op op':QsV}{r r':R2}(ho:OpR X (compareOp op) r)(ho':OpR X (compareOp op') r')(ha:PE X a ta)(hb:PE X b tb)(hc:PE X c tc)
  (hm:lastMarks [op,op'] [b,c]=false:=by with_unfolding_all rfl):PE X (.Compare a [op,op'] [b,c] pos) (QrM r r' ta tb tc):=by
 intro pins s σ H Q I h;refine Compare_chain (thn (ha pins s σ H _ I h) λv s1 ⟨x,H1,I1,r1,q1⟩=>chain_link (thn (hb pins s1 σ H1 _ I1 q1) λu s2 ⟨y,H2,I2,r2,q2⟩=>
  thn (ho pins s2 σ H2 x y v u _ I2 r1 r2 q2) λd s3 ⟨z,H3,I3,r3,k,e,q3⟩=>?_)) hm
 subst e;cases r3;refine ZV ?_
 cases k with
 |false=>exact ite_ff ⟨.bl false,H3,I3,rfl,q3⟩
 |true=>exact ite_tt (chain_last (thn (hc pins s3 σ H3 _ I3 q3) λw' s4 ⟨z',H4,I4,r4,q4⟩=>ho' pins s4 σ H4 y z' u w' Q I4 r2 r4 q4))
def QAY(K:PySem.W.Frag)(x:V)(H:Hp)(k:Bool):Prop:=
 match x with
 |.non=>k=false
 |.bl b=>k=b
 |.int i=>k=(i != 0)
 |.str y=>y.length<=sizeLine/\k=((y.length:Int) != 0)
 |.byt y=>y.size<=sizeLine/\k=((y.size:Int) != 0)
 |.ref p=>(∃xs,SqL K H p xs/\k = !xs.isEmpty)∨(∃xs,SqT K H p xs/\k = !xs.isEmpty)∨∃kvs,H p=some (.dK kvs)/\k = !kvs.isEmpty
 |_=>False
theorem QkZ{κ:Type}{kvs:List (κ×V)}{vs:List (κ×Value)}(r:KV kvs vs):(!vs.isEmpty) = !kvs.isEmpty:=by
 cases r<;>rfl
theorem QfT{xs:List V}{its:List Value}(r:Vals xs its):(!its.toArray.isEmpty) = !xs.isEmpty:=by
 cases r<;>simp
theorem QfN:(sizeLine:Nat)<2^63:=by rw[Yk];decide
theorem Qwb:QCh X (λx H Q=>∃k,QAY X.K x H k/\Q k H):=by
 intro pins s σ H x v Q I rx h;obtain⟨k,e,q⟩:=h;have hl:=QfN;have hs:sizeLine=16777216:=Yk;cases x with
 |non=>
  cases rx;have e':k=false:=e;subst e';exact truthy_none ⟨H,I,q⟩
 |bl b=>
  cases rx;have e':k=b:=e;subst e';exact ZV ⟨H,I,q⟩
 |int i=>
  obtain⟨t,rfl⟩:=rx;have e':k=(i != 0):=e;subst e';exact PySem.P.truthy_int ⟨H,I,q⟩
 |str y=>
  obtain⟨t,rfl⟩:=rx;obtain⟨hy,e'⟩:y.length<=sizeLine/\k=((y.length:Int) != 0):=e;subst e';exact PySem.P.truthy_str (by omega) ⟨H,I.tok _,q⟩
 |byt y=>
  obtain⟨t,rfl⟩:=rx;obtain⟨hy,e'⟩:y.size<=sizeLine/\k=((y.size:Int) != 0):=e;subst e';exact PySem.W.truthy_bytes (by omega) ⟨H,I.tok _,q⟩
 |ref p=>
  cases rx;have e':(∃xs,SqL X.K H p xs/\k = !xs.isEmpty)∨(∃xs,SqT X.K H p xs/\k = !xs.isEmpty)∨∃kvs,H p=some (.dK kvs)/\k = !kvs.isEmpty:=e
  rcases e' with⟨xs,hx,e'⟩ | ⟨xs,hx,e'⟩ | ⟨kvs,hx,e'⟩
  ·subst e';obtain⟨its,r,pl,hz⟩:=I.list hx;have hlen:=r.length;exact wpAny_truthy_list pl.isList (by simp only[Qm];omega) ⟨H,I.tok _,by rw[QfT r];exact q⟩
  ·subst e';obtain⟨its,r,pl,hz⟩:=I.tuple hx;have hlen:=r.length;exact truthy_tuple pl (by simp only[Qm];omega) ⟨H,I.tok _,by rw[QfT r];exact q⟩
  ·subst e';obtain⟨hz,hS,vs,r,m⟩:kvs.length<=sizeLine/\(p == sysModules)=false/\∃vs,KV kvs vs/\s.heap.DictOf (mixKind X.prog X.w) p vs:=I.hok p _ hx
   have hlen:kvs.length=vs.length:=QvF r;exact wpAny_truthy_dict hS m (by omega) ⟨H,I.tok _,by rw[QkZ r];exact q⟩
 |_=>exact(show False from e).elim
theorem Qo5(ha:PE X a ta)(he:∀whole,isTrue a X.env whole=(do let v <- whole;standAt a.pos;holding [v] (truthy v))) :
  PT X a (λσ H Q=>ta σ H λx H'=>∃k,QAY X.K x H' k/\Q k H'):=by
 intro pins s σ H Q I h;exact isTrue_plain (thn (ha pins s σ H _ I h) λv s1 ⟨x,H1,I1,r1,q1⟩=>Qwb pins s1 σ H1 x v Q I1 r1 q1) (he _)
theorem vals1{x:V}{us:List Value}(r:Vals [x] us):∃u,us=[u]/\RelV x u:=by
 cases r with
 |cons r1 r2=>cases r2;exact⟨_,rfl,r1⟩
theorem vals2{x y:V}{us:List Value}(r:Vals [x,y] us):∃u w',us=[u,w']/\RelV x u/\RelV y w':=by
 cases r with
 |cons r1 r2=>
  cases r2 with
  |cons r3 r4=>cases r4;exact⟨_,_,rfl,r1,r3⟩
theorem Qic(hc:X.calm=true):CallR X (.builtin "max") (λxs H Q=>∃i j,xs=[.int i,.int j]/\Q (.int (if j > i then j else i)) H):=by
 intro pins s σ H xs us Q I r h;obtain⟨i,j,rfl,q⟩:=h;obtain⟨u,w',rfl,⟨t,rfl⟩,⟨t',rfl⟩⟩:=vals2 r;refine max_two_ints (I.ok.hd hc) λh' tk k=>⟨_,H,I.kept k,?_,q⟩
 by_cases hj:j > i
 ·rw[if_pos hj,if_pos hj];exact⟨_,rfl⟩
 ·rw[if_neg hj,if_neg hj];exact⟨_,rfl⟩
theorem Qib(hc:X.calm=true):CallR X (.builtin "min") (λxs H Q=>∃i j,xs=[.int i,.int j]/\Q (.int (if j<i then j else i)) H):=by
 intro pins s σ H xs us Q I r h;obtain⟨i,j,rfl,q⟩:=h;obtain⟨u,w',rfl,⟨t,rfl⟩,⟨t',rfl⟩⟩:=vals2 r;refine min_two_ints (I.ok.hd hc) λh' tk k=>⟨_,H,I.kept k,?_,q⟩
 by_cases hj:j<i
 ·rw[if_pos hj,if_pos hj];exact⟨_,rfl⟩
 ·rw[if_neg hj,if_neg hj];exact⟨_,rfl⟩
end
structure ObjM (h:Heap) (x dx C:Addr) (mA:Str->Option Value):Prop where
 obj:h.get? x=some (PySem.W.instObj C dx)
 ns:h.Ns1 dx mA
 ne:dx≠x
theorem Qm1{h:Heap}{dx:Addr}{mA:Str->Option Value}(n:h.Ns1 dx mA):∃od,h.get? dx=some od/\∀name,PySem.W.lookIn name od=some (mA name):=by
 obtain⟨o,es,ep,ho,hd,hk,_,hm⟩:=n;refine⟨o,ho,λname=>?_⟩;have e:=hm name;unfold nsFind findBy at e;rw[<- Array.find?_toList] at e;unfold PySem.W.lookIn;rw[hd]
 dsimp only
 split
 ·rename_i y q
  rw[q] at e;exact congrArg some e
 ·rename_i q
  rw[q] at e;have a:es.toList.any (·.refKey)=false:=by
   rw[List.any_eq_false];intro y hy;obtain⟨z,t,hkey⟩:=hk y (Qc1.mp hy);simp[DictEntry.refKey,hkey]
  have a':¬es.toList.any (·.refKey)=true:=by rw[a];exact QD
  rw[if_neg a'];exact congrArg some e
theorem ObjM.look{h:Heap}{x dx C:Addr}{mA:Str->Option Value}(I:ObjM h x dx C mA):∃od,PySem.W.InstAt h x (PySem.W.instObj C dx) C (some od)/\∀name,PySem.W.lookIn name od=some (mA name):=
 let ⟨od,ho,hl⟩:=Qm1 I.ns
 ⟨od,⟨I.obj,rfl,rfl,ho⟩,hl⟩
section
variable{prog:QB}{w:Jd}{A:Q1}{E:Value->Shared->Prop}{s:Shared}{K:PySem.W.Frag}{x dx C f:Addr}{mA:Str->Option Value}{name:Str}{v:Value}
end
section
variable{P:QB}{w:Jd}{H H':Hp}{h h':Heap}{a C dx:Addr}{fs fs':List (Str×V)}
theorem QuT(hok:HOk P w H h)(e:H a=some (.ins C dx fs)):∃mA,ObjM h a dx C mA/\(∀f,QAZ (fs.lookup f) (mA f))/\PySem.Within mA (fs.map (·.1))/\fs.length<=1000/\H dx=some (.own a):=by
 obtain⟨d,z,ne,ob,mA,n,r,q⟩:=(show ObjOk P w H h a (.ins C dx fs) from hok a _ e);exact⟨mA,⟨ob,n,ne⟩,r,q,z,d⟩
end
structure Cls (K:PySem.W.Frag) (C:Addr):Prop where
 pg:PySem.W.plainGet K C Str.empty=true
 hd:PySem.W.hasDictIn K C=true
 po:PySem.W.plainOver K C=true
 sa:PySem.W.findIn K (.ref C) "__setattr__" = some (some (.builtin "object.__setattr__"))
theorem Cls.get{K:PySem.W.Frag}{C:Addr}(c:Cls K C)(f:Str):PySem.W.plainGet K C f=true:=c.pg
section
variable{X:Cx}{pins:List (Addr×Obj)}{σ:St}{H:Hp}{s:Shared}{a C dx:Addr}{fs:List (Str×V)}{f:Str}{v:V}{A:Q1}{E:Value->Shared->Prop}
end
section
variable{X:Cx}{o e value:Q3}{f:Str}{pos pos' tpos:Pos}{ta tv:TE}
def rAdd:V->V->Hp->VK->Prop:=λx y H Q=>∃i j,x=.int i/\y=.int j/\Q (.int (i+j)) H
end
section
variable{X:Cx}{pins:List (Addr×Obj)}{σ:St}{H:Hp}{s:Shared}{A:Q1}{E:Value->Shared->Prop}{Q:Value->Shared->Prop}{c:Value}{b:Bool}
inductive TyOf (K:PySem.W.Frag) (H:Hp):V->Value->Prop where
 |non:TyOf K H .non (.type "NoneType")
 |bl (x:Bool):TyOf K H (.bl x) (.type "bool")
 |int (i:Int):TyOf K H (.int i) (.type "int")
 |str (x:Str):TyOf K H (.str x) (.type "str")
 |flt (x:UInt64):TyOf K H (.flt x) (.type "float")
 |lst {a:Addr} {xs:List V} (e:H a=some (.lst xs)):TyOf K H (.ref a) (.type "list")
 |frz {a:Addr} {o:Obj} {xs:List V} (e:H a=some (.frz o (.lst xs))):TyOf K H (.ref a) (.type "list")
 |tup {a:Addr} {xs:List V} (e:H a=some (.tup xs)):TyOf K H (.ref a) (.type "tuple")
 |dK {a:Addr} {kvs:List (Key×V)} (e:H a=some (.dK kvs)):TyOf K H (.ref a) (.type "dict")
 |dT {a:Addr} {kvs:List (List Key×V)} (e:H a=some (.dT kvs)):TyOf K H (.ref a) (.type "dict")
 |ins {a C dx:Addr} {fs:List (Str×V)} (e:H a=some (.ins C dx fs)) (cl:Cls K C) (ha:PySem.W.findIn K (.ref C) "__class__" = some (some (.builtin "object.__class__")))
   (hn:PySem.W.specialIn K (.builtin "object.__class__") "__get__" = some (some (.builtin "getset_descriptor.__get__"))) (htk:PySem.W.takesIn K (.builtin "object.__class__")=some true)
   (hm:PySem.W.mroIn K C (.type "object")=some true):TyOf K H (.ref a) (.ref C)
theorem Qnc{x:V}{u t:Value}(I:Inv X pins σ H s)(rx:RelV x u)(ty:TyOf X.K H x t)(e:PySem.W.kitOne X.K t c=some b)(h:∀tk,Q (.bool b) { s with toks:=tk }) :
  wpAny (model X.prog X.w) A (call (.builtin "isinstance") [u,c]) Q E s:=by
 cases ty with
 |non=>cases(show u=Js from rx);exact PySem.W.kia_one PySem.W.kitx_none I.kIn QcV e (λz=>nomatch z) h
 |bl y=>cases(show u=ZA y from rx);exact PySem.W.kia_one PySem.W.kitx_bool I.kIn QcV e (λz=>nomatch z) h
 |int i=>obtain⟨t,q⟩:=(show ∃t,u=Z0 i t from rx);cases q;exact PySem.W.kia_one PySem.W.kitx_int I.kIn QcV e (λz=>nomatch z) h
 |str y=>obtain⟨t,q⟩:=(show ∃t,u=QsK y t from rx);cases q;exact PySem.W.kia_one PySem.W.kitx_str I.kIn QcV e (λz=>nomatch z) h
 |flt y=>obtain⟨t,q⟩:=(show ∃t,u=Qzk y t from rx);cases q;exact PySem.W.kia_one PySem.W.kitx_float I.kIn QcV e (λz=>nomatch z) h
 |@lst a xs ea=>
  cases(show u=Zn a from rx);obtain⟨_,_,n,_,h1⟩:=(show ObjOk X.prog X.w H s.heap a (.lst xs) from I.hok a _ ea);exact PySem.W.kia_one PySem.W.kitx_list I.kIn ⟨_,h1,rfl⟩ e (λz=>nomatch z) h
 |@frz a ob xs ea=>
  cases(show u=Zn a from rx);obtain⟨_,_,_,n,_,h1⟩:=(show ObjOk X.prog X.w H s.heap a (.frz ob (.lst xs)) from I.hok a _ ea);exact PySem.W.kia_one PySem.W.kitx_list I.kIn ⟨_,h1,rfl⟩ e (λz=>nomatch z) h
 |@tup a xs ea=>
  cases(show u=Zn a from rx);obtain⟨_,_,_,p⟩:=(show ObjOk X.prog X.w H s.heap a (.tup xs) from I.hok a _ ea);obtain⟨o,h1,h2,_⟩:=p;exact PySem.W.kia_one PySem.W.kitx_tuple I.kIn ⟨o,h1,h2⟩ e (λz=>nomatch z) h
 |@dK a kvs ea=>
  cases(show u=Zn a from rx);obtain⟨_,_,vs,_,p⟩:=(show ObjOk X.prog X.w H s.heap a (.dK kvs) from I.hok a _ ea);obtain⟨o,es,ep,h1,h2,_⟩:=p;exact PySem.W.kia_one PySem.W.kitx_dict I.kIn ⟨o,h1,h2.1⟩ e (λz=>nomatch z) h
 |@dT a kvs ea=>
  cases(show u=Zn a from rx);obtain⟨_,_,xs,_,o,es,ep,h1,h2,_⟩:=(show ObjOk X.prog X.w H s.heap a (.dT kvs) from I.hok a _ ea);exact PySem.W.kia_one PySem.W.kitx_dict I.kIn ⟨o,h1,h2.1⟩ e (λz=>nomatch z) h
 |@ins a C dx fs ea cl ha hn htk hm=>
  cases(show u=Zn a from rx);obtain⟨mA,O,_⟩:=QuT I.hok ea;obtain⟨od,J,_⟩:=O.look;exact PySem.W.kia_one (PySem.W.kitx_own (cl.get _) cl.hd ha hn htk hm) I.kIn J e (λz=>nomatch z) h
end
structure Room (k:Nat) (A:Q1):Prop where
 hd:A.handled=none
 dp:A.depth+3*k+5<recursionLimit
 un:A.units+16*k+200<cLine
theorem Room.mono{j k:Nat}{A:Q1}(r:Room k A)(h:j<=k):Room j A:=⟨r.hd,by have:=r.dp;omega,by have:=r.un;omega⟩
theorem Room.deeper{k:Nat}{A:Q1}(r:Room (k+1) A)(env:Env):Room k (A.deeper env):=
 ⟨r.hd,by have:=r.dp;show A.depth+1+3*k+5<_;omega,by have:=r.un;show A.units+3+16*k+200<_;omega⟩
theorem Room.depth{k:Nat}{A:Q1}(r:Room k A):A.depth<recursionLimit:=by have:=r.dp;omega
theorem Room.units{k:Nat}{A:Q1}(r:Room k A):A.units+64<cLine:=by have:=r.un;omega
def Qom:TA:=λ_ H Q=>Q [] H
def Qc2(ta:TE)(tr:TA):TA:=λσ H Q=>ta σ H λx H1=>tr σ H1 λxs H2=>Q (x::xs) H2
section
variable{X:Cx}{e:Q3}{es:List Q3}{te:TE}{t:TA}{pos:Pos}
theorem Zv:PA X [] Qom:=λ_ _ _ _ H Q I h=>Calls.spliced_nil ⟨[],H,I,.nil,h⟩
theorem Y8(ha:PE X e te)(hr:PA X es t)(hs:starEach (e::es) X.env=(false,eval e X.env)::starEach es X.env:=by rfl):PA X (e::es) (Qc2 te t):=by
 intro pos pins s σ H Q I h;rw[hs];show wpAny _ _ (spliced ((false,eval e X.env)::backTo pos (starEach es X.env))) _ _ s;refine Calls.spliced_cons (thn (ha pins s σ H _ I h) λu s1 ⟨x,H1,I1,r1,q1⟩=>?_);exact thn (hr pos pins s1 σ H1 _ I1 q1) λus s2 ⟨xs,H2,I2,r2,q2⟩=>⟨x::xs,H2,I2,.cons r1 r2,q2⟩
def QBW(t:TA):TE:=λσ H Q=>t σ H λxs H1=>xs.length<=sizeLine/\∀p,H1 p=none->Q (.ref p) (upd H1 p (.lst xs))
theorem Qr6(h:PA X es t):PE X (.List es pos) (QBW t):=by
 intro pins s σ H Q I hq;refine QyO (thn (h pos pins s σ H _ I hq) λus s1 ⟨xs,H1,I1,r,z,q⟩=>⟨by rw[<- r.length];exact z,?_⟩);have hf:H1 s1.heap.objs.size=none:=I1.hok.fresh (Ql _);refine⟨.ref s1.heap.objs.size,upd H1 s1.heap.objs.size (.lst xs),I1.laid (t':=s1.toks) (λb u e=>Qi _ e) (Ql _) ?_,rfl,q _ hf⟩;exact⟨z,us,0,r,Qs _ rfl⟩
end
abbrev Sp:=List V->Hp->VK->XK->Prop
abbrev CXT:=List Env->Hp->Shared->XK->Value->Shared->Prop
structure Env0 (P:QB) (w:Jd) (K:PySem.W.Frag) (mg:Str->Option Value) (base:Heap) (A:Q1) (outer:List Env) (s:Shared) (H:Hp):Prop where
 frames:A.frames=some outer
 mod:Mod K mg base
 bs:∀b o,base.get? b=some o->s.heap.get? b=some o/\H b=none
 bsz:base.objs.size<=s.heap.objs.size
 funs:s.heap.FunFrames base outer
 frf:∀b∈frs outer,H b=none
 hok:HOk P w H s.heap
 bare:Qfl s.gens
def CE(outer:List Env)(P:QB)(w:Jd)(H:Hp)(s:Shared)(Q:VK)(u:Value)(s':Shared):Prop:=
 ∃v H',s'.os=s.os/\Qfl s'.gens/\Un (frs outer) [] H H' s.heap s'.heap/\HOk P w H' s'.heap/\RelV v u/\Q v H'
def CR(CX:CXT)(outer:List Env)(P:QB)(w:Jd)(H:Hp)(s:Shared)(Q:VK)(E:XK)(r:Qoh)(s':Shared):Prop:=
 match r with
 |.ok (.ret u)=>CE outer P w H s Q u s'
 |.ok _=>False
 |.error e=>CX outer H s E e s'
structure FnOk (P:QB) (w:Jd) (K:PySem.W.Frag) (mg:Str->Option Value) (base:Heap) (CX:CXT) (k:Nat) (f:Addr) (fd:Q0) (ps:List Str) (sp:Sp):Prop where
 len:∀vs H Q E,sp vs H Q E->vs.length=ps.length
 run:∀(A:Q1)(outer:List Env)(s:Shared)(H:Hp)(args:Args)(us:List Value)(vs:List V)(Q:VK)(E:XK),Room k A->Env0 P w K mg base A outer s H->QoB s fd args (ps.zip us)->Vals vs us->sp vs H Q E ->
  codeAny (model P w) A (.call (.ref f) args) (CR CX outer P w H s Q E) s
theorem FnOk.imp{P:QB}{w:Jd}{K:PySem.W.Frag}{mg:Str->Option Value}{base:Heap}{CX:CXT}{k:Nat}{f:Addr}{fd:Q0}{ps:List Str}{sp sp':Sp}(F:FnOk P w K mg base CX k f fd ps sp)
  (h:∀vs H Q E,sp' vs H Q E->sp vs H Q E):FnOk P w K mg base CX k f fd ps sp':=
 ⟨λvs H Q E q=>F.len vs H Q E (h _ _ _ _ q),λA outer s H args us vs Q E hr he hb hv hs=>F.run A outer s H args us vs Q E hr he hb hv (h _ _ _ _ hs)⟩
section
variable{X:Cx}{pins:List (Addr×Obj)}{σ:St}{H:Hp}{s s':Shared}
theorem Inv.env0(I:Inv X pins σ H s):Env0 X.prog X.w X.K X.mg X.base X.A X.stack s H:=
 ⟨I.ok.frames,I.ok.mod,I.bs,QJ I.ok.bsz I.sz,I.stack,I.stkFree,I.hok,I.bare⟩
theorem Inv.after{Q:VK}{u:Value}(I:Inv X pins σ H s)(h:CE X.stack X.prog X.w H s Q u s'):EP X pins σ Q u s':=by
 obtain⟨v,H',os,bare,un,hok,r,q⟩:=h;obtain⟨hh,g,d,t,os'⟩:=s';obtain rfl:os'=s.os:=os;exact⟨v,H',I.call (h':=hh) (g':=g) (d':=d) (t':=t) (ch:=[]) un hok bare (λb z=>absurd z (by simp)),r,q⟩
end
def Qs9(sp:Sp)(dvs:List V)(E:XK)(t:TA):TE:=λσ H Q=>t σ H λvs H1=>sp (vs++dvs) H1 Q E
def Binds(K:PySem.W.Frag)(fd:Q0)(ps:List Str)(ds:List Value):Prop:=
 ∀(s:Shared)(us:List Value),K.In s.heap->(us++ds).length=ps.length->QoB s fd ⟨us,[]⟩ (ps.zip (us++ds))
theorem Binds.all{K:PySem.W.Frag}{fd:Q0}{ps:List Str}(h:∀us:List Value,us.length=ps.length->bindArgs fd ⟨us,[]⟩=pure (ps.zip us)):Binds K fd ps []:=λs us _ hl=>by
 rw[Yj] at hl ⊢;exact .of_eq (h us hl)
def Qd9(CX:CXT)(X:Cx)(E:XK):Prop:=∀(pins:List (Addr×Obj))(σ:St)(H:Hp)(s:Shared)(e:Value)(s':Shared),Inv X pins σ H s->CX X.stack H s E e s'->X.xe e s'
section
variable{X:Cx}{CX:CXT}{k:Nat}{f C:Addr}{fd:Q0}{ps:List Str}{sp:Sp}{dvs:List V}{ds:List Value}{E:XK}{x m:Str}{p pos apos:Pos}{e o:Q3}{es:List Q3}{ta:TE}{t:TA}
theorem Qwu{pins:List (Addr×Obj)}{σ:St}{H:Hp}{s:Shared}{Q:VK}{us:List Value}{vs:List V}(F:FnOk X.prog X.w X.K X.mg X.base CX k f fd ps sp)(hr:Room k X.A)(hb:Binds X.K fd ps ds)(hd:Vals dvs ds)(hx:Qd9 CX X E)
  (I:Inv X pins σ H s)(r:Vals vs us)(h:sp (vs++dvs) H Q E):wpAny (model X.prog X.w) X.A (call (.ref f) us) (EP X pins σ Q) X.xe s:=by
 have r2:Vals (vs++dvs) (us++ds):=r.append hd;have hl:(us++ds).length=ps.length:=by rw[<- r2.length];exact F.len _ _ _ _ h
 refine wpAny_call (Qb0 (F.run X.A X.stack s H ⟨us,[]⟩ (us++ds) (vs++dvs) Q E hr I.env0 (hb s us I.kIn hl) r2 h) λr s' hq=>?_);cases r with
 |error e=>exact hx pins σ H s e s' I hq
 |ok fl=>
  cases fl with
  |ret u=>exact I.after hq
  |next=>exact Yy hq
  |brk=>exact Yy hq
  |cont=>exact Yy hq
theorem QgC(F:FnOk X.prog X.w X.K X.mg X.base CX k f fd ps sp)(hr:Room k X.A)(hg:Gl X x)(hm:X.mg x=some (.ref f))(hk:PySem.W.keepIn X.K (.ref f)=true)(hb:Binds X.K fd ps ds)(hd:Vals dvs ds)(hx:Qd9 CX X E)
  (ha:PA X (e::es) t)(hdb:(x == ("__debug__" : Str))=false:=by decide)(he:starEach (e::es) X.env=(false,eval e X.env)::starEach es X.env:=by rfl)(hpl:(backTo pos (starEach es X.env)).any (·.1)=false:=by rfl) :
  PE X (.Call (.Name x p) (e::es) [] pos) (Qs9 sp dvs E t):=by
 intro pins s σ H Q I h;refine Qat (QuO I hg hm ?_ hdb);refine PySem.W.callWith_K (h₀:=X.base) I.ok.mod.kin hk (thn (ha pos pins s σ H _ I h) λus s1 ⟨vs,H1,I1,r,q⟩=>⟨I1.kIn,?_⟩) he hpl;exact Qwu F hr hb hd hx I1 r q
end
section
variable{X:Cx}{CX:CXT}{k:Nat}{f C:Addr}{fd:Q0}{ps ks:List Str}{sp:Sp}{E:XK}{x m:Str}{p pos apos kpos:Pos}{e o:Q3}{es:List Q3}{kws:List QaL}{te ta:TE}{t tk:TA}{nm:Option Str}
variable{g:List Value->List Value->List Value}{gV:List V->List V->List V}
end
structure JN (N P:List Str) (sc:Qan):Prop where
 kind:sc.kind=.function
 co:sc.isCoroutine=false
 gen:sc.isGenerator=false
 nd:N.Nodup
 pre:N.take P.length=P
 par:∀x∈P,sc.names.lookup x=some .local∨sc.names.lookup x=some .cell
 nofree:∀y∈sc.names,y.2≠.free
theorem Qig{kindOf:Str->Option QaO}{x:Str}:∀{binds:List (Str×Value)}{m:Str->Option Value},(∀v,(x,v)∉binds)->bindL kindOf binds m x=m x
 |[],_,_=>rfl
 |(n,v)::r,m,h=>by
  unfold bindL;rw[Qig λw hw=>h w (Ju _ hw)];split
  ·have:x≠n:=by rintro rfl;exact h v Zj
   simp[this]
  ·rfl
theorem Qii{kindOf:Str->Option QaO}{x:Str}:∀{binds:List (Str×Value)}{m:Str->Option Value},(∀v,(x,v)∉binds)->bindC kindOf binds m x=m x
 |[],_,_=>rfl
 |(n,v)::r,m,h=>by
  unfold bindC;rw[Qii λw hw=>h w (Ju _ hw)];split
  ·rfl
  ·have:x≠n:=by rintro rfl;exact h v Zj
   simp[this]
theorem Qih{kindOf:Str->Option QaO}{x:Str}{v:Value}:∀{P:List Str}{vs:List Value}{i:Nat}{m:Str->Option Value},P.Nodup->P[i]? = some x->vs[i]? = some v->kindOf x=some .local ->
  bindL kindOf (P.zip vs) m x=some v
 |[],_,_,_,_,h,_,_=>by simp at h
 |_::_,[],_,_,_,_,h,_=>by simp at h
 |p::P,w::vs,0,m,nd,h1,h2,hk=>by
  simp at h1 h2;subst h1;subst h2;show bindL kindOf ((p,w)::P.zip vs) m p=_;unfold bindL;rw[Qig λv hv=>(JL.mp nd).1 (Qhc hv).1,if_pos hk];simp
 |p::P,w::vs,i+1,m,nd,h1,h2,hk=>by
  show bindL kindOf ((p,w)::P.zip vs) m x=_;unfold bindL;exact Qih (i:=i) (JL.mp nd).2 (by simpa using h1) (by simpa using h2) hk
theorem Qij{kindOf:Str->Option QaO}{x:Str}{v:Value}:∀{P:List Str}{vs:List Value}{i:Nat}{m:Str->Option Value},P.Nodup->P[i]? = some x->vs[i]? = some v->kindOf x≠some .local ->
  bindC kindOf (P.zip vs) m x=some v
 |[],_,_,_,_,h,_,_=>by simp at h
 |_::_,[],_,_,_,_,h,_=>by simp at h
 |p::P,w::vs,0,m,nd,h1,h2,hk=>by
  simp at h1 h2;subst h1;subst h2;show bindC kindOf ((p,w)::P.zip vs) m p=_;unfold bindC;rw[Qii λv hv=>(JL.mp nd).1 (Qhc hv).1,if_neg hk];simp
 |p::P,w::vs,i+1,m,nd,h1,h2,hk=>by
  show bindC kindOf ((p,w)::P.zip vs) m x=_;unfold bindC;exact Qij (i:=i) (JL.mp nd).2 (by simpa using h1) (by simpa using h2) hk
def start(N:List Str)(vs:List V):St:=vs.map some++QZ (N.length - vs.length) none
def Qon(CX:CXT)(P:QB)(w:Jd)(K:PySem.W.Frag)(mg:Str->Option Value)(base:Heap)(N:List Str)(qual:Str)(scope:Qan)(f:Addr)(cd:Value)(A:Q1)(outer:List Env)(s:Shared)(H:Hp)(E:XK):Cx where
 prog:=P
 w:=w
 K:=K
 mg:=mg
 base:=base
 A:=A.deeper (envOfC qual scope s.heap.objs.size f cd)
 N:=N
 s₀:=s
 H₀:=H
 env:=envOfC qual scope s.heap.objs.size f cd
 outer:=outer
 stack:=envOfC qual scope s.heap.objs.size f cd::outer
 ex:=[]
 calm:=true
 fn:=λ_=>true
 pn:=[]
 xe:=λe s'=>wpAny (model P w) (A.deeper (envOfC qual scope s.heap.objs.size f cd)) (leaving (envOfC qual scope s.heap.objs.size f cd) e) (λ_ s''=>CX outer H s E e s'') (λe' s''=>CX outer H s E e' s'') s'
theorem Qkm{sc:Qan}{n:Nat}{x:Str}(h:sc.names.lookup x=some .cell):∃c,(cellsFrom n sc.names []).lookup x=some c:=by
 have q:=PySem.W.cellsFrom_some sc.names n [] (.inl h);exact Option.isSome_iff_exists.mp q
theorem Qne{CX:CXT}{P:QB}{w:Jd}{K:PySem.W.Frag}{mg:Str->Option Value}{base:Heap}{N ps:List Str}{qual:Str}{scope:Qan}{f:Addr}{cd:Value}{A:Q1}{outer:List Env}{s s1:Shared}{H:Hp}{E:XK}{us:List Value}{vs:List V}
  (S:JN N ps scope)(hd:A.handled=none)(e0:Env0 P w K mg base A outer s H)(hl:vs.length=ps.length)(r:Vals vs us)
  (x:InCallC s s.heap.objs.size (bindL (envOfC qual scope s.heap.objs.size f cd).kindOf (ps.zip us) λ_=>none) (cellsFrom (s.heap.objs.size+1) scope.names []) (bindC (envOfC qual scope s.heap.objs.size f cd).kindOf (ps.zip us) λ_=>none) s1) :
  Inv (Qon CX P w K mg base N qual scope f cd A outer s H E) [] (start N vs) H s1:=by
 have hpl:ps.length<=N.length:=by have:=congrArg Qoj S.pre;rw[Yw] at this;omega
 obtain⟨h1,tk,rfl,hk⟩:=x.done;have noA:∀b:Addr,b∉(Qon CX P w K mg base N qual scope f cd A outer s H E).ex:=λb z=>absurd (show b∈([]:List Addr) from z) (by simp)
 refine⟨⟨e0.mod,S.kind,rfl,rfl,Ql _,λy z c h1 h2=>?_,λy hy=>?_,λy c _ h=>?_,λ_=>hd,Around.frames_deeper e0.frames,.inr ⟨rfl,rfl⟩,λb z=>absurd z (noA b),e0.bs,e0.bsz,λb _ _=>noA b,λb z=>absurd z (noA b),e0.funs,e0.frf⟩,
  rfl,e0.bare,Un.kept hk,⟨_,x.toInCall.ns,λi y v h1 h2 h3=>?_⟩,λy c h=>⟨_,x.cell y c h⟩,e0.hok.fresh (Ql _),λy c h=>?_,λp hp=>absurd (show p∈([]:List (Addr×Obj)) from hp) (by simp),e0.hok.kept hk,?_⟩
 ·exact name_of_addr x.apart (PySem.mem_of_lookup h1) (PySem.mem_of_lookup h2)
 ·have hy:scope.names.lookup y=some .cell∨scope.names.lookup y=some .free:=hy;rcases hy with hy | hy
  ·exact Qkm hy
  ·exact absurd rfl (S.nofree _ (PySem.mem_of_lookup hy))
 ·exact J4 (x.above y c (PySem.mem_of_lookup h))
 ·have hi:i<vs.length:=by
   unfold start at h2;by_cases hi:i<vs.length
   ·exact hi
   ·rw[Jn (by simpa using hi)] at h2;rw[ZL] at h2;split at h2<;>cases h2
  have ha:vs[i]? = some v:=by
   unfold start at h2;rw[J7 (by simpa using hi),Qo] at h2;cases e:vs[i]? with
   |none=>rw[e] at h2;cases h2
   |some a=>rw[e] at h2;cases h2;rfl
  obtain⟨u,hu,rv⟩:=r.get ha;have hp:ps[i]? = some y:=by
   rw[<- S.pre,List.getElem?_take_of_lt (by omega)];exact h1
  have ndP:ps.Nodup:=by rw[<- S.pre];exact S.nd.sublist (QrA _ _)
  refine⟨u,rv,?_⟩;rcases S.par y (Jo hp) with k | k
  ·exact .inl ⟨k,Qih ndP hp hu k⟩
  ·obtain⟨c,e⟩:=Qkm (n:=s.heap.objs.size+1) k;refine .inr ⟨.inl k,c,e,?_⟩;have q:=x.cell y c e;rw[Qij ndP hp hu (by show scope.names.lookup y≠_;rw[k];decide)] at q;exact q
 ·exact e0.hok.fresh (J4 (x.above y c (PySem.mem_of_lookup h)))
 ·unfold start;show _=N.length;rw[Qy,Qe,Qax];omega
theorem QAI{CX:CXT}{P:QB}{w:Jd}{K:PySem.W.Frag}{mg:Str->Option Value}{base:Heap}{k:Nat}{f:Addr}{name qual:Str}{params:Arguments}{body:List YO}{scope:Qan}{dV kV doc pm cdv ct oc:Value}{an od:Option Addr}
  {osl:Array (Option Value)} {N ps:List Str} {sp:Sp} (lk:K.lookup f=some ⟨oc,od,.func (PySem.W.fnOf name qual params body scope dV kV doc pm an cdv ct),osl⟩) (hcd:PySem.W.codeIn K cdv qual=true) (S:JN N ps scope)
  (len:∀vs H Q E,sp vs H Q E->vs.length=ps.length)
  (hbody:∀(A:Q1)(outer:List Env)(s:Shared)(H:Hp)(vs:List V)(Q:VK)(E:XK),Room k (A.deeper (envOfC qual scope s.heap.objs.size f cdv))->sp vs H Q E ->
   ∃t,PSs (Qon CX P w K mg base N qual scope f cdv A outer s H E) body t/\t { nx:=λ_ H'=>Q .non H',rt:=Q } (start N vs) H) :
  FnOk P w K mg base CX (k+1) f (PySem.W.fnOf name qual params body scope dV kV doc pm an cdv ct) ps sp:=by
 refine⟨len,λA outer s H args us vs Q E hr e0 hb r hsp=>?_⟩;have hl:=len _ _ _ _ hsp;have KX:K.In s.heap:=e0.mod.kin.keeps λb o e=>(e0.bs b o e).1
 have lim:s.heap.NoLimit:=e0.mod.nolimit.keeps λb o e=>(e0.bs b o e).1
 have hkind:∀y∈ps.zip us,scope.names.lookup y.1=some .local∨(scope.names.lookup y.1=some .cell/\((cellsFrom (s.heap.objs.size+1) scope.names []).lookup y.1).isSome=true):=λ⟨n,v⟩ hy=>by
  rcases S.par n (Qhc hy).1 with q | q
  ·exact .inl q
  ·exact .inr ⟨q,PySem.W.cellsFrom_some _ _ _ (.inl q)⟩
 refine codeAny_call_function hr.depth (KX _ _ lk) rfl S.co S.gen rfl (PySem.W.codeRec_of KX hcd) (hb _ _ _ _ ?_);refine wpAny_newFunctionEnv_cells S.kind hkind λenv he s1 x=>?_
 subst he;refine⟨lim.keeps x.toInCall.keep,codeAny_func ?_⟩;obtain⟨t,ht,hq⟩:=hbody A outer s H vs Q E (hr.deeper _) hsp;have I:Inv (Qon CX P w K mg base N qual scope f cdv A outer s H E) [] (start N vs) H s1:=Qne S hr.hd e0 hl r x;refine wpAny_mono (ht [] s1 (start N vs) H _ I hq) (λfl s' hs=>?_) λe s' hs=>hs
 have fin:∀{σ':St}{H':Hp}{v:V}{u:Value},Inv (Qon CX P w K mg base N qual scope f cdv A outer s H E) [] σ' H' s'->RelV v u->Q v H'->CE outer P w H s Q u s':=
  λ{σ' H' v u} J rv q=>⟨v,H',J.os,J.bare,J.base,J.hok,rv,q⟩
 cases fl with
 |ret u=>
  obtain⟨v,σ',H',J,rv,q⟩:=hs;exact fin J rv q
 |next=>
  obtain⟨σ',H',J,q⟩:=hs;exact fin (v:=V.non) (u:=Js) J rfl q
 |brk=>
  obtain⟨_,_,_,q⟩:=hs;exact Yy q
 |cont=>
  obtain⟨_,_,_,q⟩:=hs;exact Yy q
section
variable{X:Cx}{x:Str}{p pos:Pos}{e:Q3}{es:List Q3}{t:TA}{id T:String}{r:List V->Hp->VK->Prop}
def tCB(r:List V->Hp->VK->Prop)(t:TA):TE:=λσ H Q=>t σ H λvs H1=>r vs H1 Q
theorem Qb6(hc:CallR X (.builtin id) r)(hg:Gl X x)(hm:X.mg x=none)(hv:bootBuiltins x=some (.builtin id))(ha:PA X (e::es) t)(hn:x ≠ "__name__" := by decide)(hdb:(x == ("__debug__" : Str))=false:=by decide)
  (he:starEach (e::es) X.env=(false,eval e X.env)::starEach es X.env:=by rfl)(hpl:(backTo pos (starEach es X.env)).any (·.1)=false:=by rfl):PE X (.Call (.Name x p) (e::es) [] pos) (tCB r t):=by
 intro pins s σ H Q I h;refine Qat (Qdi I hg hm hv ?_ hn hdb);exact PyProof.Rows.callWith_builtin1 (thn (ha pos pins s σ H _ I h) λus s1 ⟨vs,H1,I1,r1,q1⟩=>hc pins s1 σ H1 vs us Q I1 r1 q1) he hpl
theorem Qa8(hc:CallR X (.type T) r)(hg:Gl X x)(hm:X.mg x=none)(hv:bootBuiltins x=some (.type T))(ha:PA X (e::es) t)(hn:x ≠ "__name__" := by decide)(hdb:(x == ("__debug__" : Str))=false:=by decide)
  (he:starEach (e::es) X.env=(false,eval e X.env)::starEach es X.env:=by rfl)(hpl:(backTo pos (starEach es X.env)).any (·.1)=false:=by rfl):PE X (.Call (.Name x p) (e::es) [] pos) (tCB r t):=by
 intro pins s σ H Q I h;refine Qat (Qdi I hg hm hv ?_ hn hdb);exact Zb (thn (ha pos pins s σ H _ I h) λus s1 ⟨vs,H1,I1,r1,q1⟩=>hc pins s1 σ H1 vs us Q I1 r1 q1) he hpl
end
end L2
namespace HT
theorem QoX(A:Q1)(s:Shared)(a:Int)(t:Tok)(c:Int)(u:Tok)(prog:QB)(w:Jd)(E:Value->Shared->Prop)(Q:Value->Shared->Prop)(h:Q (.bool (decide (a<c))) s) :
  wpAny (model prog w) A (richCompare .Lt (.int a t) (.int c u)) Q E s:=
 (PyProof.Rows.lt_int h:wpAny (model prog w) A (compareOp .Lt (.int a t) (.int c u)) Q E s)
section
open PySem.SeqAt
open PySem.AutoSeq1 (wpAny_loadPart')
open PySem.MeetsSeq PySem.MeetsSeq2 PySem.MeetsSeq3
end
section
variable{prog:QB}{w:Jd}{A:Q1}{E:Value->Shared->Prop}{s:Shared}
theorem Qvp{t b:Addr}{vs ws:List Value}{Q:Value->Shared->Prop}(ht:IsTup s.heap t vs.toArray)(hb:IsTup s.heap b ws.toArray)(hv:vs≠[])
  (h1:ws=[]->Q (.ref t) s)(h2:ws≠[]->Q (.ref s.heap.objs.size) { s with heap:=s.heap.push { cls:=.type "tuple",data:=.seq (vs++ws).toArray } })
  (hsz:vs.length+ws.length<=sizeLine):wpAny (model prog w) A (binaryOp .Add (.ref t) (.ref b)) Q E s:=by
 obtain⟨⟨cls,dd,data,sl⟩,ho,hc,n,hd⟩:=id ht;obtain⟨⟨cls2,dd2,data2,sl2⟩,ho2,hc2,n2,hd2⟩:=id hb;simp only at hc hd hc2 hd2;subst hc hd hc2 hd2;have e:vs.toArray++ws.toArray=(vs++ws).toArray:=by simp
 by_cases hw:ws=[]
 ·exact QsJ ⟨_,ho,rfl⟩ ⟨_,ho2,rfl⟩ Qiz Qor PySem.F.slot_tuple_add PySem.F.entry_tuple_add (PySem.F.args_tuple_add_2 _ _)
   (tuple_addW1 t b vs.toArray ws.toArray n n2 dd dd2 sl sl2 (by simpa using hv) (by simp[hw])) ⟨ho,ho2,h1 hw⟩
 ·refine QsJ ⟨_,ho,rfl⟩ ⟨_,ho2,rfl⟩ Qiz Qor PySem.F.slot_tuple_add PySem.F.entry_tuple_add (PySem.F.args_tuple_add_2 _ _)
   (tuple_addW2 t b vs.toArray ws.toArray n n2 dd dd2 sl sl2 (by simpa using hv) (by simpa using hw) (by rw[Qm,Qm];exact hsz)) ⟨ho,ho2,?_⟩
  rw[e];exact h2 hw
def sIx(n d:Nat):Option Int->Nat
 |none=>d
 |some v=>if v<0 then(v+(n:Int)).toNat else min v.toNat n
theorem QjB(n d:Nat):sIx n d none=d:=rfl
theorem Qti(n d k:Nat):sIx n d (some (k:Int))=min k n:=by
 show(if(k:Int)<0 then((k:Int)+(n:Int)).toNat else min (k:Int).toNat n)=min k n;rw[if_neg (by omega),Qv]
theorem Qws(n d:Nat)(hd:d<=n)(o:Option Int):sIx n d o<=n:=by
 cases o with
 |none=>exact hd
 |some v=>
  show(if v<0 then(v+(n:Int)).toNat else min v.toNat n)<=n;by_cases hv:v<0
  ·rw[if_pos hv];omega
  ·rw[if_neg hv];exact Qf4 _ _
theorem QnR(v:Int)(n d:Nat):(if v<0 then max (v+(n:Int)) 0 else min v (n:Int))=((sIx n d (some v):Nat):Int):=by
 show(if v<0 then max (v+(n:Int)) 0 else min v (n:Int))=(((if v<0 then(v+(n:Int)).toNat else min v.toNat n):Nat):Int);by_cases hv:v<0
 ·simp only[if_pos hv];omega
 ·simp only[if_neg hv];omega
theorem Qlc(lo hi:Option Int)(n:Nat):QaB lo hi 1 (n:Int)=(((sIx n 0 lo:Nat):Int),((sIx n n hi:Nat):Int)):=by
 have h1:¬((1:Int)<0):=by omega
 unfold QaB;simp only[h1,if_false];refine QcX ?_ ?_
 ·cases lo with
  |none=>rfl
  |some v=>exact QnR v n 0
 ·cases hi with
  |none=>rfl
  |some v=>exact QnR v n n
theorem QkO(i j:Nat):YE (i:Int) (j:Int) 1=j - i:=by
 unfold YE;have h1:(1:Int) > 0:=by omega
 simp only[h1,if_true,Int.ediv_one];split<;>omega
theorem QfC{v:Value}{o:Option Int}{Q:Option Int->Shared->Prop}(p:Qis v o)(h:Q o s):wpAny (model prog w) A (QzE v) Q E s:=by
 cases p with
 |none=>exact slicePart_none h
 |int i t=>exact slicePart_int h
theorem Qbw{sl:Addr}{vl vu:Value}{lo hi:Option Int}{n:Nat}{Q:Int×Int×Nat->Shared->Prop}(hs:s.heap.IsSliceOf sl vl vu .none)(pl:Qis vl lo)(pu:Qis vu hi)
  (h:Q (((sIx n 0 lo:Nat):Int),1,sIx n n hi - sIx n 0 lo) s):wpAny (model prog w) A (Qd1 (.ref sl) (pure (n:Int))) Q E s:=by
 obtain⟨os,hos,hcs,hds⟩:=id hs;unfold Qd1 QzF;refine wpAny_bind (wpAny_bind (Y1 hos hds (x:=vl) rfl (wpAny_bind (Y1 hos hds (x:=vu) rfl (wpAny_bind (Y1 hos hds (x:=.none) rfl (Qj ?_)))))));refine wpAny_bind (slicePart_none ?_);show wpAny _ _ (if((1:Int) == 0)=true then _ else _) _ _ s;rw[if_neg (by decide)];refine wpAny_bind (QfC pl (wpAny_bind (QfC pu (wpAny_bind (Qj ?_)))));show wpAny _ _ (match QaB lo hi 1 (n:Int) with | (lo,hi)=>pure (lo,(1:Int),YE lo hi 1)) _ _ s;rw[Qlc lo hi n];show wpAny _ _ (pure (((sIx n 0 lo:Nat):Int),(1:Int),YE ((sIx n 0 lo:Nat):Int) ((sIx n n hi:Nat):Int) 1)) _ _ s;rw[QkO];exact Qj h
theorem Qo8(xs:Array Value)(i k:Nat):((Qa k).filterMap λ(m:Nat)=>xs[((i:Int)+(m:Int)*1).toNat]?).toArray=((xs.toList.drop i).take k).toArray:=by
 have e:(λ(m:Nat)=>xs[((i:Int)+(m:Int)*1).toNat]?)=λm=>xs[i+m]? := by
  funext m
  have:((i:Int)+(m:Int)*1).toNat=i+m:=by omega
  rw[this]
 rw[e];have:=pick_run xs i k;rw[ZB] at this;have e2:((λx=>xs[x]?)∘λx=>i+x)=λm=>xs[i+m]? := rfl
 rw[e2] at this;rw[this]
theorem QdS{t sl:Addr}{items:Array Value}{vl vu:Value}{lo hi:Option Int}{Q:Value->Shared->Prop}(ht:IsTup s.heap t items)(hs:s.heap.IsSliceOf sl vl vu .none)(pl:Qis vl lo)(pu:Qis vu hi)
  (hw:¬(sIx items.size 0 lo=0/\sIx items.size items.size hi=items.size))
  (h:Q (.ref s.heap.objs.size) { s with heap:=s.heap.push { cls:=.type "tuple",data:=.seq ((items.toList.drop (sIx items.size 0 lo)).take (sIx items.size items.size hi - sIx items.size 0 lo)).toArray } })
  (hsz:items.size<=sizeLine):wpAny (model prog w) A (getItem (.ref t) (.ref sl)) Q E s:=by
 have htake:sizeOk (.seq ((items.toList.drop (sIx items.size 0 lo)).take (sIx items.size items.size hi - sIx items.size 0 lo)).toArray):=by
  show((items.toList.drop (sIx items.size 0 lo)).take (sIx items.size items.size hi - sIx items.size 0 lo)).toArray.size<=sizeLine;rw[Qm,Yw,QaI,Qw];omega
 have hj:sIx items.size items.size hi<=items.size:=Qws _ _ (Ql _) hi;obtain⟨os,hos,hcs,hds⟩:=id hs;have hTs:s.TypeIs (.ref sl) "slice" := ⟨os,hos,hcs⟩;unfold getItem
 try with_reducible refine J3 ?_
 first | refine wpAny_bind (Qj ?_) | skip
 refine wpAny_bind (Qza ht.typeIs (by decide) ?_);refine wpAny_bind (ZT (name:=Zf "__getitem__") ht.typeIs JT
  (Ze JT ht.typeIs QvY ?_ (QyP _ _)))
 show wpAny _ _ (Qd0 (.ref t) >>= _) _ _ s;refine wpAny_bind (tupleItemsOf_ ht ?_);refine wpAny_bind (QbY hTs ?_);rw[if_pos (by decide)];refine wpAny_bind (Qbw hs pl pu ?_);have hno:¬((((sIx items.size 0 lo:Nat):Int) == 0&&(1:Int) == 1&&(sIx items.size items.size hi - sIx items.size 0 lo) == items.size)=true):=by
  intro q;rw[JK,JK] at q;have q1:((sIx items.size 0 lo:Nat):Int)=0:=eq_of_beq q.1.1;have q2:sIx items.size items.size hi - sIx items.size 0 lo=items.size:=eq_of_beq q.2;exact hw ⟨by omega,by omega⟩
 show wpAny _ _ (if(((sIx items.size 0 lo:Nat):Int) == 0&&(1:Int) == 1&&(sIx items.size items.size hi - sIx items.size 0 lo) == items.size)=true then _ else _) _ _ s;rw[if_neg hno,Qo8]
 first
  |exact wpAny_bind (m:=Zo _) (Jc (Qj ⟨_,rfl,Qj h⟩) htake)
  |exact wpAny_bind (m:=Zo _) (Jc (wpAny_bind (Qj (Qj ⟨_,rfl,Qj h⟩))) htake)
  |exact wpAny_bind (wpAny_bind (m:=Zo _) (Jc (Qj (Qj ⟨_,rfl,Qj h⟩)) htake))
  |exact wpAny_bind (wpAny_bind (m:=Zo _) (Jc (Qj ⟨_,rfl,Qj h⟩) htake))
end
end HT
namespace L2
abbrev TO:=St->Hp->(Option Int->Hp->Prop)->Prop
def PO(X:Cx)(e:Option Q3)(t:TO):Prop:=
 ∀(pins:List (Addr×Obj))(s:Shared)(σ:St)(H:Hp)(Q:Option Int->Hp->Prop),Inv X pins σ H s->t σ H Q ->
  wpAny (model X.prog X.w) X.A (evalPart e X.env) (λu s'=>∃o H',Inv X pins σ H' s'/\Qis u o/\Q o H') X.xe s
def Qs8:TO:=λ_ H Q=>Q none H
def QzK(t:TE):TO:=λσ H Q=>t σ H λx H1=>∃i,x=.int i/\Q (some i) H1
theorem intsAre_of{ns:List Int}:∀{us:List Value},Vals (ns.map V.int) us->Y2 us ns:=by
 induction ns with
 |nil=>intro us r;rw[Qzw] at r;cases r;exact .nil
 |cons n ns ih=>
  intro us r;rw[QY] at r;cases r with
  |cons r1 r2=>
   obtain⟨t,e⟩:=r1;subst e;exact .cons n t (ih r2)
section
variable{X:Cx}{e:Q3}{te:TE}{lo hi:Option Q3}{tl th:TO}{pos p2:Pos}
theorem QtD:PO X none Qs8:=by
 intro pins s σ H Q I h;rw[evalPart_none];exact Qj ⟨none,H,I,.none,h⟩
theorem QtC(h:PE X e te):PO X (some e) (QzK te):=by
 intro pins s σ H Q I hw;rw[evalPart_some];refine thn (h pins s σ H _ I hw) λu s1 ⟨x,H1,I1,r1,q1⟩=>?_
 obtain⟨i,rfl,q⟩:=q1;obtain⟨t,rfl⟩:=r1;exact⟨some i,H1,I1,.int i t,q⟩
def SlR(X:Cx)(r:V->Option Int->Option Int->Hp->VK->Prop):Prop:=
 ∀(pins:List (Addr×Obj))(s:Shared)(σ:St)(H:Hp)(x:V)(v vl vu:Value)(lo hi:Option Int)(sl:Addr)(Q:VK),Inv X pins σ H s->RelV x v->s.heap.IsSliceOf sl vl vu .none->Qis vl lo->Qis vu hi->r x lo hi H Q ->
  ∃T id,typeLookup (.type T) "__getitem__" = pure (some (.builtin id))/\s.TypeIs v T/\wpAny (model X.prog X.w) X.A (getItem v (.ref sl)) (EP X pins σ Q) X.xe s
def tSl(r:V->Option Int->Option Int->Hp->VK->Prop)(te:TE)(tl th:TO):TE:=λσ H Q=>te σ H λx H1=>tl σ H1 λl H2=>th σ H2 λu H3=>r x l u H3 Q
theorem Qpc{r:V->Option Int->Option Int->Hp->VK->Prop}(hr:SlR X r)(he:PE X e te)(hl:PO X lo tl)(hu:PO X hi th):PE X (.Subscript e (.Slice lo hi none p2) pos) (tSl r te tl th):=by
 intro pins s σ H Q I h;refine Subscript_ (thn (he pins s σ H _ I h) λv s1 ⟨x,H1,I1,r1,q1⟩=>?_);refine wpAny_Slice (thn (hl pins s1 σ H1 _ I1 q1) λvl s2 ⟨l,H2,I2,pl,q2⟩=>thn (hu pins s2 σ H2 _ I2 q2) λvu s3 ⟨u,H3,I3,pu,q3⟩=>?_);rw[evalPart_none];refine Qj ?_
 have I4:Inv X pins σ H3 { s3 with heap:=s3.heap.push { cls:=.type "slice",data:=.fields #[vl,vu,.none] } }:=I3.kept (t':=s3.toks) λb ob q=>Qi _ q
 obtain⟨T,id,hT,ht,hg⟩:=hr pins { s3 with heap:=s3.heap.push { cls:=.type "slice",data:=.fields #[vl,vu,.none] } } σ H3 x v vl vu l u s3.heap.objs.size Q I4 r1 (QyW ..) pl pu q3;show wpAny (model X.prog X.w) X.A (subscriptTail e (.Slice lo hi none p2) v (.ref s3.heap.objs.size)) (EP X pins σ Q) X.xe { s3 with heap:=s3.heap.push { cls:=.type "slice",data:=.fields #[vl,vu,.none] } };exact tail_any (ops:=[.ref s3.heap.objs.size,v]) ht hT hg (by with_unfolding_all rfl)
def Qke(xs:List V)(lo hi:Option Int):List V:=(xs.drop (HT.sIx xs.length 0 lo)).take (HT.sIx xs.length xs.length hi - HT.sIx xs.length 0 lo)
theorem Qe0(xs:List V)(lo hi:Option Int):(Qke xs lo hi).length<=xs.length:=by
 unfold Qke;rw[Yw,QaI];omega
def QBZ(K:PySem.W.Frag):V->Option Int->Option Int->Hp->VK->Prop:=λx lo hi H Q=>∃a xs,x=.ref a/\SqT K H a xs /\
 ¬(HT.sIx xs.length 0 lo=0/\HT.sIx xs.length xs.length hi=xs.length)/\∀p,H p=none->Q (.ref p) (upd H p (.tup (Qke xs lo hi)))
theorem Qwl:SlR X (QBZ X.K):=by
 intro pins s σ H x v vl vu lo hi sl Q I rx hs pl pu h;obtain⟨a,xs,rfl,hx,hw,q⟩:=h;cases rx;obtain⟨its,r,ht,hz⟩:=I.tuple hx;have hlen:its.toArray.size=xs.length:=by rw[Qm];exact r.length.symm
 refine⟨"tuple",_,JT.lookup,ht.typeIs,?_⟩;refine HT.QdS ht hs pl pu (by rw[hlen];exact hw) ?_ (by rw[hlen];exact hz)
 rw[hlen];refine⟨.ref s.heap.objs.size,_,I.laid (t':=s.toks) (o:=.tup (Qke xs lo hi)) (λb ob q=>Qi _ q) (Ql _) ?_,rfl,q _ (I.hok.fresh (Ql _))⟩;exact⟨QJ (Qe0 xs lo hi) hz,_,(r.drop (HT.sIx xs.length 0 lo)).take (HT.sIx xs.length xs.length hi - HT.sIx xs.length 0 lo),TupN.new _ _⟩
def Qz0(K:PySem.W.Frag):R2:=λx y H Q=>∃a b xs ys,x=.ref a/\y=.ref b/\SqT K H a xs/\SqT K H b ys/\xs≠[]/\xs.length+ys.length<=sizeLine /\
 (ys=[]->Q (.ref a) H)/\(ys≠[]->∀p,H p=none->Q (.ref p) (upd H p (.tup (xs++ys))))
theorem Vals.nil_iff{xs:List V}{us:List Value}(r:Vals xs us):us=[]↔xs=[]:=by
 cases r with
 |nil=>simp
 |cons _ _=>simp
theorem Qul:OpR X (binaryOp .Add) (Qz0 X.K):=by
 intro pins s σ H x y v u Q I rx ry h;obtain⟨a,b,xs,ys,rfl,rfl,ha,hb,hx,hz,q1,q2⟩:=h;cases rx;cases ry;obtain⟨its,r1,p1,_⟩:=I.tuple ha;obtain⟨its2,r2,p2,_⟩:=I.tuple hb;refine HT.Qvp p1 p2 (λz=>hx (r1.nil_iff.mp z)) (λz=>⟨.ref a,H,I,rfl,q1 (r2.nil_iff.mp z)⟩) (λz=>?_) (by rw[<- r1.length,<- r2.length];exact hz);refine⟨.ref s.heap.objs.size,_,I.laid (t':=s.toks) (o:=.tup (xs++ys)) (λb ob q=>Qi _ q) (Ql _) ?_,rfl,q2 (λw=>z (r2.nil_iff.mpr w)) _ (I.hok.fresh (Ql _))⟩;exact⟨by rw[Qy];exact hz,_,r1.append r2,TupN.new _ _⟩
end
def ixN(n:Nat)(i:Int):Option Nat:=if 0<=i then(if i<n then some i.toNat else none) else if -(n:Int)<=i then some (i+n).toNat else none
def atI{α:Type}(xs:List α)(i:Int):Option α:=(ixN xs.length i).bind λj=>xs[j]?
theorem Qna{n:Nat}{i:Int}{j:Nat}(h:ixN n i=some j):seqIndex? i n=some j/\j<n /\ -(n:Int)<=i/\i<n:=by
 unfold ixN at h;by_cases h0:0<=i
 ·rw[if_pos h0] at h;by_cases h1:i<n
  ·rw[if_pos h1] at h;have e:i.toNat=j:=QK h;exact⟨by rw[Qff h0 h1,e],by omega,by omega,h1⟩
  ·rw[if_neg h1] at h;cases h
 ·rw[if_neg h0] at h;by_cases h1 : -(n:Int)<=i
  ·rw[if_pos h1] at h;have e:(i+n).toNat=j:=QK h;exact⟨by rw[Qim (by omega) h1,e],by omega,h1,by omega⟩
  ·rw[if_neg h1] at h;cases h
theorem Qjm{α:Type}{xs:List α}{i:Int}{v:α}(h:atI xs i=some v):∃j,seqIndex? i xs.length=some j/\xs[j]? = some v/\j<xs.length /\ -(xs.length:Int)<=i/\i<xs.length:=by
 unfold atI at h;cases e:ixN xs.length i with
 |none=>rw[e] at h;cases h
 |some j=>
  rw[e] at h;obtain⟨h1,h2,h3,h4⟩:=Qna e;exact⟨j,h1,h,h2,h3,h4⟩
theorem JG{α:Type}{xs:List α}{j:Nat}{v:α}(h:xs[j]? = some v):atI xs (j:Int)=some v:=by
 have hj:j<xs.length:=(Jh.mp h).1;have e:ixN xs.length (j:Int)=some j:=by
  unfold ixN;rw[if_pos (by omega),if_pos (by omega)];simp
 unfold atI;rw[e];exact h
def Qjn(b:Q3):Prop:=∀o i,subscripted b false o i=operate [o,i] (getItem o i)
def IxR(X:Cx)(r:R2):Prop:=
 ∀(value slice:Q3)(pins:List (Addr×Obj))(s:Shared)(σ:St)(H:Hp)(x y:V)(v u:Value)(Q:VK),Inv X pins σ H s->RelV x v->RelV y u->r x y H Q ->
  subscripted slice false v u=operate [v,u] (getItem v u)->wpAny (model X.prog X.w) X.A (subscriptTail value slice v u) (EP X pins σ Q) X.xe s
def MtR(X:Cx)(id:String)(r:V->List V->Hp->VK->Prop):Prop:=
 ∀(pins:List (Addr×Obj))(s:Shared)(σ:St)(H:Hp)(x:V)(xs:List V)(v:Value)(us:List Value)(Q:VK),Inv X pins σ H s->RelV x v->Vals xs us->r x xs H Q ->
  wpAny (model X.prog X.w) X.A (call (.builtin id) (v::us)) (EP X pins σ Q) X.xe s
section
variable{X:Cx}{a b:Q3}{ta tb:TE}{pos:Pos}
theorem Qpd{r:R2}(hr:IxR X r)(ha:PE X a ta)(hb:PE X b tb)(hs:Qjn b):PE X (.Subscript a b pos) (tOp r ta tb):=by
 intro pins s σ H Q I h;exact Subscript_ (QAU ha hb I h λv u s2 x y H2 I2 rx ry q=>hr a b pins s2 σ H2 x y v u Q I2 rx ry q (hs _ _))
def Qy0(K:PySem.W.Frag):R2:=λx y H Q=>∃p xs i v,x=.ref p/\y=.int i/\SqL K H p xs/\atI xs i=some v/\Q v H
def QBf(K:PySem.W.Frag):R2:=λx y H Q=>∃p xs i v,x=.ref p/\y=.int i/\SqT K H p xs/\atI xs i=some v/\Q v H
theorem QgJ:IxR X (Qy0 X.K):=by
 intro value slice pins s σ H x y v u Q I rx ry h hs;obtain⟨p,xs,i,z,rfl,rfl,hq,he,q⟩:=h;cases rx;obtain⟨t,rfl⟩:=ry;obtain⟨its,r,pl,hz⟩:=I.list hq;obtain⟨j,h1,h2,h3,h4,h5⟩:=Qjm he;obtain⟨w,ew,rw'⟩:=r.get h2;have hl:=r.length;have hn:=QfN;have fin:EP X pins σ Q w s:=⟨z,H,I,rw',q⟩;by_cases h0:0<=i
 ·have hj:i.toNat=j:=by
   rw[Qff h0 h5] at h1;exact QK h1
  exact item_listR pl.isList h0 (by omega) (by rw[hj];simpa using ew) fin hs
 ·have hj:(i+(its.toArray.size:Int)).toNat=j:=by
   rw[Qim (by omega) h4] at h1;rw[Qm,<- hl];exact QK h1
  exact Qrv (x:=w) pl.isList.typeIs Qzg.lookup
   (Qrt (Q:=λr s'=>r=w/\EP X pins σ Q r s') pl.isList (by omega) (by rw[Qm]<;>omega) (by omega) (by rw[hj];simpa using ew) ⟨rfl,fin⟩) hs
theorem Qx1:IxR X (QBf X.K):=by
 intro value slice pins s σ H x y v u Q I rx ry h hs;obtain⟨p,xs,i,z,rfl,rfl,hq,he,q⟩:=h;cases rx;obtain⟨t,rfl⟩:=ry;obtain⟨its,r,pl,hz⟩:=I.tuple hq;obtain⟨j,h1,h2,h3,h4,h5⟩:=Qjm he;obtain⟨w,ew,rw'⟩:=r.get h2;have hl:=r.length;have hn:=QfN;have fin:EP X pins σ Q w s:=⟨z,H,I,rw',q⟩;exact Qrv (x:=w) pl.typeIs slot_tuple_getitem.lookup
  (getItem_tuple (j:=j) (Q:=λr s'=>r=w/\EP X pins σ Q r s') pl (by omega) (by omega) (by rw[Qm,<- hl];exact h1) (by simpa using ew) ⟨rfl,fin⟩) hs
theorem QkV(its:List Value)(n j:Nat)(u:Value):Zg (·.setIfInBounds j u) { cls:=.type "list",data:=.seq its.toArray n }={ cls:=.type "list",data:=.seq (its.set j u).toArray n }:=by
 simp[Zg]
theorem Inv.lst{pins:List (Addr×Obj)}{σ:St}{H:Hp}{s:Shared}{p:Addr}{xs:List V}(I:Inv X pins σ H s)(h:H p=some (.lst xs)) :
  ∃(its:List Value)(n:Nat),Vals xs its/\s.heap.get? p=some { cls:=.type "list",data:=.seq its.toArray n }/\xs.length<=sizeLine:=by
 obtain⟨z,its,n,r,e⟩:=I.hok p _ h;exact⟨its,n,r,e,z⟩
theorem Inv.lstUpd{pins:List (Addr×Obj)}{σ:St}{H:Hp}{s:Shared}{p:Addr}{xs ys:List V}{its its':List Value}{n n':Nat}{f:Obj->Obj}(I:Inv X pins σ H s)(h:H p=some (.lst xs))
  (ho:s.heap.get? p=some { cls:=.type "list",data:=.seq its.toArray n })(hf:f { cls:=.type "list",data:=.seq its.toArray n }={ cls:=.type "list",data:=.seq its'.toArray n' })(r:Vals ys its')(hz:ys.length<=sizeLine)(t:Nat) :
  Inv X pins σ (upd H p (.lst ys)) { s with heap:=s.heap.update p f,toks:=t }:=by
 have e:(s.heap.update p f).get? p=some { cls:=.type "list",data:=.seq its'.toArray n' }:=by
  rw[JX f ho (by rw[hf]<;>rfl),hf]
 refine I.write (x:=p) (e:=p) (by rw[h];trivial) (.inl rfl) (λb u hb q=>(J5 _ _ (Qav hb)).trans q) ⟨_,e⟩ ?_
 exact⟨hz,its',n',r,e⟩
def Qwy:V->V->V->Hp->(Hp->Prop)->Prop:=λo i v H Q=>∃p xs k j,o=.ref p/\i=.int k/\H p=some (.lst xs)/\ixN xs.length k=some j/\Q (upd H p (.lst (xs.set j v)))
theorem Qjz:QA0 X Qwy:=by
 intro pins s σ H o i v ov iv u Q I ro ri rv h;obtain⟨p,xs,k,j,rfl,rfl,hp,hj,q⟩:=h;cases ro;obtain⟨t,rfl⟩:=ri;obtain⟨its,n,r,ho,hz⟩:=I.lst hp;obtain⟨h1,h2,h3,h4⟩:=Qna hj;have hl:=r.length;have hn:=QfN;have I':Inv X pins σ (upd H p (.lst (xs.set j v))) { s with heap:=s.heap.update p (Zg (·.setIfInBounds j u)) }:=
  I.lstUpd hp ho (QkV its n j u) (r.set rv j) (by rw[Yi];exact hz) s.toks
 by_cases h0:0<=k
 ·have hk:k.toNat=j:=by
   rw[Qff h0 h4] at h1;exact QK h1
  exact PySem.W.ki_setAt ho h0 (by omega) (by rw[Qm,<- hl];exact h4) (by rw[hk];exact⟨_,I',q⟩)
 ·have hk:(k+(its.toArray.size:Int)).toNat=j:=by
   rw[Qim (by omega) h3] at h1;rw[Qm,<- hl];exact QK h1
  exact PySem.W.ki_setBack ho (by omega) (by rw[Qm,<- hl];exact h3) (by omega) (by rw[hk];exact⟨_,I',q⟩)
theorem Qhz(lo hi:Option Int)(n:Nat):(sliceBounds lo hi none n).1=((HT.sIx n 0 lo:Nat):Int)/\(sliceBounds lo hi none n).2.1=((HT.sIx n n hi:Nat):Int)/\(sliceBounds lo hi none n).2.2=1:=by
 refine⟨?_,?_,rfl⟩
 ·cases lo with
  |none=>simp[sliceBounds,HT.sIx]
  |some i=>
   simp only[sliceBounds,HT.sIx,Qou,show(1:Int) > 0 by decide,if_true];by_cases h:i<0
   ·simp only[h,if_true]<;>omega
   ·simp only[h,if_false]<;>omega
 ·cases hi with
  |none=>simp[sliceBounds,HT.sIx]
  |some i=>
   simp only[sliceBounds,HT.sIx,Qou,show(1:Int) > 0 by decide,if_true];by_cases h:i<0
   ·simp only[h,if_true]<;>omega
   ·simp only[h,if_false]<;>omega
theorem Qgi(its:List Value)(lo hi:Option Int):slicePick its.toArray lo hi none=((its.drop (HT.sIx its.length 0 lo)).take (HT.sIx its.length its.length hi - HT.sIx its.length 0 lo)).toArray:=by
 obtain⟨h1,h2,h3⟩:=Qhz lo hi its.toArray.size;unfold slicePick;rw[h1,h2,h3];simp only[sliceRange_one,pick_run,Qm]<;>rfl
def QB0(K:PySem.W.Frag):V->Option Int->Option Int->Hp->VK->Prop:=λx lo hi H Q=>∃a xs,x=.ref a/\SqL K H a xs/\∀p,H p=none->Q (.ref p) (upd H p (.lst (Qke xs lo hi)))
theorem Qtd:SlR X (QB0 X.K):=by
 intro pins s σ H x v vl vu lo hi sl Q I rx hs pl pu h;obtain⟨a,xs,rfl,hx,q⟩:=h;cases rx;obtain⟨its,r,ht,hz⟩:=I.list hx;have hlen:=r.length;refine⟨"list",_,Qzg.lookup,ht.isList.typeIs,?_⟩;refine wpAny_getItem_list_slice ht.isList hs pl pu .none (by simp) ?_ (by rw[Qm]<;>omega)
 rw[Qgi,<- hlen];refine⟨.ref s.heap.objs.size,_,I.laid (t':=s.toks) (o:=.lst (Qke xs lo hi)) (λb ob q=>Qi _ q) (Ql _) ?_,rfl,q _ (I.hok.fresh (Ql _))⟩;exact⟨QJ (Qe0 xs lo hi) hz,_,0,(r.drop (HT.sIx xs.length 0 lo)).take (HT.sIx xs.length xs.length hi - HT.sIx xs.length 0 lo),Qs _ rfl⟩
theorem QaR:CallR X (.builtin "len") (λxs H Q=>∃p ys,xs=[.ref p]/\(SqL X.K H p ys∨SqT X.K H p ys)/\Q (.int ys.length) H):=by
 intro pins s σ H xs us Q I r h;obtain⟨p,ys,rfl,hq,q⟩:=h;obtain⟨u,rfl,rx⟩:=vals1 r;cases rx;have hn:=QfN;rcases hq with hq | hq
 ·obtain⟨its,r',pl,hz⟩:=I.list hq;have hlen:=r'.length;exact Calls.call_len_list pl.isList (by simp only[Qm]<;>omega) ⟨.int ys.length,H,I.tok _,⟨s.toks+1,by rw[Qm,hlen]⟩,q⟩
 ·obtain⟨its,r',pl,hz⟩:=I.tuple hq;have hlen:=r'.length;exact len_tuple pl (by simp only[Qm]<;>omega) ⟨.int ys.length,H,I.tok _,⟨s.toks+1,by rw[Qm,hlen]⟩,q⟩
theorem Qid:CallR X (.type "list") (λxs H Q=>∃p ys,xs=[.ref p]/\(SqL X.K H p ys∨SqT X.K H p ys)/\∀l,H l=none->Q (.ref l) (upd H l (.lst ys))):=by
 intro pins s σ H xs us Q I r h;obtain⟨p,ys,rfl,hq,q⟩:=h;obtain⟨u,rfl,rx⟩:=vals1 r;cases rx;have fin:∀(its:List Value),Vals ys its->ys.length<=sizeLine->∀(h':Heap)(c':Nat),(∀b o',s.heap.get? b=some o'->h'.get? b=some o') ->
   h'.get? s.heap.objs.size=some { cls:=.type "list",dict:=none,data:=.seq its.toArray c',slots:=#[] }->EP X pins σ Q (.ref s.heap.objs.size) { s with heap:=h' }:=λits r' hz h' c' kp e=>
  ⟨.ref s.heap.objs.size,_,I.laid (t':=s.toks) kp (Ql _) (show ObjOk X.prog X.w _ h' _ (.lst ys) from⟨hz,its,c',r',e⟩),rfl,q _ (I.hok.fresh (Ql _))⟩
 rcases hq with hq | hq
 ·obtain⟨its,r',pl,hz⟩:=I.list hq;have hlen:=r'.length;obtain⟨o,ho,hc,n,hd⟩:=pl.isList;exact call_list_seq p (.inl rfl) ho hc hd (λh' c' kp e=>fin its r' hz h' c' kp e) (by simp only[Qm]<;>omega)
 ·obtain⟨its,r',pl,hz⟩:=I.tuple hq;have hlen:=r'.length;obtain⟨o,ho,hc,n,hd⟩:=pl;exact call_list_seq p (.inr rfl) ho hc hd (λh' c' kp e=>fin its r' hz h' c' kp e) (by simp only[Qm]<;>omega)
theorem Qdp:CallR X (.type "tuple") (λxs H Q=>∃p ys,xs=[.ref p]/\((SqL X.K H p ys/\∀l,H l=none->Q (.ref l) (upd H l (.tup ys)))∨(SqT X.K H p ys/\Q (.ref p) H))):=by
 intro pins s σ H xs us Q I r h;obtain⟨p,ys,rfl,h⟩:=h;obtain⟨u,rfl,rx⟩:=vals1 r;cases rx;rcases h with⟨hq,q⟩ | ⟨hq,q⟩
 ·obtain⟨its,r',pl,hz⟩:=I.list hq;have hlen:=r'.length;refine call_tuple_list pl.isList (λh' kp=>?_) (by simp only[Qm]<;>omega);have I1:Inv X pins σ H { s with heap:=h' }:=I.kept (t':=s.toks) kp;have I2:Inv X pins σ (upd H h'.objs.size (.tup ys)) { s with heap:=h'.push { cls:=.type "tuple",data:=.seq its.toArray } }:=
   I1.laid (t':=s.toks) (λb o e=>Qi _ e) (Ql _) (show ObjOk X.prog X.w _ _ _ (.tup ys) from⟨hz,its,r',TupN.new _ _⟩)
  exact⟨.ref h'.objs.size,_,I2,rfl,q _ (I1.hok.fresh (Ql _))⟩
 ·obtain⟨its,r',pl,hz⟩:=I.tuple hq;exact call_tuple_same pl ⟨.ref p,H,I,rfl,q⟩
def tyV(K:PySem.W.Frag)(T:String)(x:V)(H:Hp):Prop:=match x with
 |.str _=>T = "str"
 |.int _=>T = "int"
 |.ref p=>(T = "list" /\ ∃xs,SqL K H p xs)∨(T = "tuple" /\ ∃o,K.lookup p=some o/\o.cls=.type "tuple" /\ o.dict=none) ∨
   (T = "dict" /\ ((∃kvs,H p=some (.dK kvs))∨∃kvs,H p=some (.dT kvs)))∨(T = "set" /\ ∃S n,H p=some (.set S n))
 |_=>False
theorem Qv9{pins:List (Addr×Obj)}{σ:St}{H:Hp}{s:Shared}{T:String}{x:V}{v:Value}(I:Inv X pins σ H s)(r:RelV x v)(ty:tyV X.K T x H) :
  s.TypeIs v T/\∀a,v=.ref a->∃ob,s.heap.get? a=some ob/\ob.dict=none:=by
 cases x with
 |str z=>
  obtain⟨t,rfl⟩:=r;cases(show T = "str" from ty);exact⟨typeIs_str s z t,λ_ e=>nomatch e⟩
 |int i=>
  obtain⟨t,rfl⟩:=r;cases(show T = "int" from ty);exact⟨Qzf s i t,λ_ e=>nomatch e⟩
 |ref p=>
  cases r;rcases ty with⟨rfl,xs,hq⟩ | ⟨rfl,o,hk,hc,hd⟩ | ⟨rfl,hk⟩ | ⟨rfl,S,n,hk⟩
  ·obtain⟨its,_,pl,_⟩:=I.list hq;refine⟨pl.isList.typeIs,λa e=>?_⟩;cases e;obtain⟨o,n,e,c,hd,_⟩:=pl;exact⟨o,e,hd⟩
  ·refine⟨⟨o,I.kIn p o hk,hc⟩,λa e=>?_⟩;cases e;exact⟨o,I.kIn _ o hk,hd⟩
  ·have z:∃o,s.heap.get? p=some o/\o.ExactDict:=by
    rcases hk with⟨kvs,hk⟩ | ⟨kvs,hk⟩
    ·obtain⟨_,_,_,_,o,_,_,e,ex,_⟩:=I.hok p _ hk;exact⟨o,e,ex⟩
    ·obtain⟨_,_,_,_,o,_,_,e,ex,_⟩:=I.hok p _ hk;exact⟨o,e,ex⟩
   obtain⟨o,e,ex⟩:=z;refine⟨⟨o,e,ex.1⟩,λa e2=>?_⟩;cases e2;exact⟨o,e,ex.2.1⟩
  ·obtain⟨o,_,_,_,e,ex,_⟩:=I.hok p _ hk;refine⟨⟨o,e,ex.1⟩,λa e2=>?_⟩;cases e2;exact⟨o,e,ex.2.1⟩
 |_=>exact Yy ty
def tBM(K:PySem.W.Frag)(T:String)(r:V->List V->Hp->VK->Prop)(to:TE)(t:TA):TE:=λσ H Q=>to σ H λx H1=>tyV K T x H1/\t σ H1 λxs H2=>r x xs H2 Q
variable{o e:Q3}{es:List Q3}{to:TE}{t:TA}{name:Str}{apos cpos:Pos}{T id:String}{r:V->List V->Hp->VK->Prop}
theorem Qmm(pa:PlainAttrs T)(slot:Slot T name id)(hty:typeOf (.builtin id)=pure (.type "method_descriptor"))(hm:MtR X id r)(ho:PE X o to)(ha:PA X (e::es) t)
  (hbase:attributeBase o name X.env (eval o X.env)=eval o X.env:=by rfl)
  (hfew:((backTo cpos (starEach (e::es) X.env)).all (λx => !x.1)&&(backToKw cpos (keywordEach [] X.env)).all (λx=>x.1.isSome)
   && decide ((e::es).length+([]:List QaL).length+(if([]:List QaL).isEmpty then 0 else 1)<30))=true:=by rfl)
  (hline:(apos.endLine == cpos.line)=true:=by rfl) (hs:starEach (e::es) X.env=(false,eval e X.env)::starEach es X.env:=by rfl) (hplain:(backTo cpos (starEach es X.env)).any (·.1)=false:=by rfl) :
  PE X (.Call (.Attribute o name apos) (e::es) [] cpos) (tBM X.K T r to t):=by
 intro pins s σ H Q I h;refine Qru hbase hfew hline rfl (thn (ho pins s σ H _ I h) λv s1 ⟨x,H1,I1,r1,ty,q1⟩=>?_);obtain⟨h1,h2⟩:=Qv9 I1 r1 ty;refine⟨T,id,pa,slot,hty,h1,h2,?_⟩;have hA:=ha cpos pins s1 σ H1 _ I1 q1;rw[hs] at hA ⊢;refine Qjq (by show(false||(backTo cpos (starEach es X.env)).any (·.1))=false;rw[hplain]<;>rfl) (Qll ?_);exact thn hA λus s2 ⟨vs,H2,I2,r2,q2⟩=>hm pins s2 σ H2 x vs v us Q I2 r1 r2 q2
end
def MtM(X:Cx)(id:String)(r:V->List V->Hp->VK->Prop):Prop:=
 ∀(pins:List (Addr×Obj))(s:Shared)(σ:St)(H:Hp)(x:V)(xs:List V)(v:Value)(us:List Value)(Q:VK),Inv X pins σ H s->RelV x v->Vals xs us->r x xs H Q ->
  wpAny (model X.prog X.w) X.A (call (.builtin id) (v::us)) (EP X pins σ Q) X.xe s
theorem Vals.one:∀{x:V}{us:List Value},Vals [x] us->∃u,us=[u]/\RelV x u
 |_,_,.cons r .nil=>⟨_,rfl,r⟩
theorem Vals.zero:∀{us:List Value},Vals [] us->us=[]
 |_,.nil=>rfl
theorem Vals.eraseIdx:∀{xs:List V}{us:List Value}(i:Nat),Vals xs us->Vals (xs.eraseIdx i) (us.eraseIdx i)
 |_,_,_,.nil=>.nil
 |_,_,0,.cons _ t=>t
 |_,_,i+1,.cons r t=>.cons r (Vals.eraseIdx i t)
theorem Vals.reverse{xs:List V}{us:List Value}(h:Vals xs us):Vals xs.reverse us.reverse:=by
 induction h with
 |nil=>exact .nil
 |cons r t ih=>rw[QrB,QrB];exact Vals.append ih (.cons r .nil)
theorem Vals.rep{xs:List V}{us:List Value}(h:Vals xs us):∀k:Nat,Vals (QZ k xs).flatten (QZ k us).flatten
 |0=>.nil
 |k+1=>by
  rw[JU,JU,ZN,ZN];exact Vals.append h (Vals.rep h k)
theorem QhS{α:Type}:∀(l:List α)(i:Nat),(l.eraseIdx i).length<=l.length
 |[],_=>Ql _
 |_::_,0=>Qcm _
 |_::r,i+1=>Nat.succ_le_succ (QhS r i)
theorem foldl_rep(its:List Value):∀(k:Nat)(acc:List Value),
  QrC (λx1 x2=>x1++x2) acc.toArray (QZ k its.toArray)=(acc++(QZ k its).flatten).toArray
 |0,acc=>by simp
 |k+1,acc=>by
  have e:acc.toArray++its.toArray=(acc++its).toArray:=by simp
  have e2:(acc++its)++(QZ k its).flatten=acc++(QZ (k+1) its).flatten:=by
   rw[JU,ZN,Qfb]
  rw[<- e2,<- foldl_rep its k (acc++its),<- e,JU,QvL]
section
variable{X:Cx}{pins:List (Addr×Obj)}{σ:St}{H:Hp}{s:Shared}{l b:Addr}{xs ys zs:List V}
theorem Inv.lset{its its':List Value}{n:Nat}{f:Array Value->Array Value}{t':Nat}(I:Inv X pins σ H s)(hH:H l=some (.lst xs))
  (e:s.heap.get? l=some { cls:=.type "list",data:=.seq its.toArray n })(hf:f its.toArray=its'.toArray)(hv:Vals ys its')(hz:ys.length<=sizeLine) :
  Inv X pins σ (upd H l (.lst ys)) { s with heap:=s.heap.update l (Zg f),toks:=t' }:=by
 have q:=PySem.IsL.update e f;rw[hf] at q;refine I.write (x:=l) (e:=l) (by rw[hH];exact trivial) (.inl rfl) (λb' u hb hu=>(J5 s.heap (Zg f) (Qav hb)).trans hu) ⟨_,q⟩ ?_
 exact⟨hz,its',_,hv,q⟩
theorem Inv.lnew{its:List Value}{t':Nat}(I:Inv X pins σ H s)(hv:Vals ys its)(hz:ys.length<=sizeLine) :
  Inv X pins σ (upd H s.heap.objs.size (.lst ys)) { s with heap:=s.heap.push { cls:=.type "list",data:=.seq its.toArray },toks:=t' }:=
 I.laid (λ_ _ q=>Qi _ q) (Ql _) ⟨hz,its,0,hv,Qs _ rfl⟩
theorem Inv.fresh(I:Inv X pins σ H s):H s.heap.objs.size=none:=I.hok.fresh (Ql _)
theorem Inv.lstM(I:Inv X pins σ H s)(hH:H l=some (.lst xs)):xs.length<=sizeLine/\∃(its:List Value)(n:Nat),Vals xs its/\xs.length=its.length/\s.heap.get? l=some { cls:=.type "list",data:=.seq its.toArray n }:=by
 obtain⟨z,its,n,r,e⟩:=I.hok l _ hH;exact⟨z,its,n,r,r.length,e⟩
theorem QjT{n:Nat}(h:n<=sizeLine):YS n=false:=by
 unfold YS;exact decide_eq_false (by omega)
end
section
variable{X:Cx}
def Qmd:V->List V->Hp->VK->Prop:=λx vs H Q=>∃l xs y,x=.ref l/\vs=[y]/\H l=some (.lst xs)/\xs.length<sizeLine/\Q .non (upd H l (.lst (xs++[y])))
theorem QhO:MtM X "list.append" Qmd:=by
 intro pins s σ H x vs v us Q I rx rv h;obtain⟨l,xs,y,rfl,rfl,hH,hz,q⟩:=h;cases rx;obtain⟨u,rfl,ru⟩:=rv.one;obtain⟨z,its,n,r,hl,e⟩:=I.lstM hH;refine QaK F.slot_list_append ⟨_,e,rfl⟩ F.entry_list_append (F.args_list_append_2 _ _) (PySem.list_append l its.toArray n u (by rw[Qm];omega)) ⟨e,?_⟩;refine⟨.non,_,I.lset (its':=its++[u]) hH e (by simp) (r.append (.cons ru .nil)) ?_,rfl,q⟩;rw[Qy,Qlj];omega
def Qmc:V->List V->Hp->VK->Prop:=λx vs H Q=>∃l b xs zs,x=.ref l/\vs=[.ref b]/\H l=some (.lst xs)/\H b=some (.lst zs)/\xs.length+zs.length<=sizeLine/\Q .non (upd H l (.lst (xs++zs)))
theorem QmW:MtM X "list.extend" Qmc:=by
 intro pins s σ H x vs v us Q I rx rv h;obtain⟨l,b,xs,zs,rfl,rfl,hH,hB,hz,q⟩:=h;cases rx;obtain⟨u,rfl,ru⟩:=rv.one;cases ru;obtain⟨z,its,n,r,hl,e⟩:=I.lstM hH;obtain⟨z2,its2,n2,r2,hl2,e2⟩:=I.lstM hB;have hsz:its.toArray.size+its2.toArray.size<=sizeLine:=by rw[Qm,Qm];omega
 have hlong:¬(!its.toArray.isEmpty&&YS (its.toArray.size+its2.toArray.size))=true:=by
  rw[QjT hsz,Qiv];exact QD
 refine QaK F.slot_list_extend ⟨_,e,rfl⟩ F.entry_list_extend (F.args_list_extend_2 _ _)
  (AutoSeq1.list_extend_list_list_0 l its.toArray n b its2.toArray n2 hlong (by rw[Qm];omega) (by omega)) ⟨e,e2,?_⟩
 refine⟨.non,_,I.lset (its':=its++its2) hH e (by simp) (r.append r2) ?_,rfl,q⟩;rw[Qy];omega
def QrY:V->List V->Hp->VK->Prop:=λx vs H Q=>∃l xs i k y,x=.ref l/\vs=[.int i]/\H l=some (.lst xs) /\ -(2^63)<=i/\i<2^63/\seqIndex? i xs.length=some k/\xs[k]? = some y/\Q y (upd H l (.lst (xs.eraseIdx k)))
theorem QpN:MtM X "list.pop" QrY:=by
 intro pins s σ H x vs v us Q I rx rv h;obtain⟨l,xs,i,k,y,rfl,rfl,hH,h1,h2,hk,hy,q⟩:=h;cases rx;obtain⟨u,rfl,ru⟩:=rv.one;obtain⟨t,rfl⟩:=ru;obtain⟨z,its,n,r,hl,e⟩:=I.lstM hH;obtain⟨w,hw,rw'⟩:=r.get hy;refine QaK F.slot_list_pop ⟨_,e,rfl⟩ F.entry_list_pop (F.args_list_pop_2 _ _)
  (MeetsSeq.list_pop_at l its.toArray n i t k w (fitsIndex_both h1 h2) (by rw[Qm,<- hl];exact hk) (by rw[<- QcC];exact hw) (by rw[Qm];omega)) ⟨e,?_⟩
 refine⟨y,_,I.lset (its':=its.eraseIdx k) hH e ?_ (r.eraseIdx k) ?_,rw',q⟩
 ·show its.toArray.eraseIdxIfInBounds k=(its.eraseIdx k).toArray;rw[List.eraseIdxIfInBounds_toArray]
 ·have:=QhS xs k;omega
def QBn:R2:=λx y H Q=>∃l b xs zs,x=.ref l/\y=.ref b/\H l=some (.lst xs)/\H b=some (.lst zs)/\xs.length+zs.length<=sizeLine/\∀p,H p=none->Q (.ref p) (upd H p (.lst (xs++zs)))
theorem Qxv:OpR X (binaryOp .Add) QBn:=by
 intro pins s σ H x y v u Q I rx ry h;obtain⟨l,b,xs,zs,rfl,rfl,hH,hB,hz,q⟩:=h;cases rx;cases ry;obtain⟨z,its,n,r,hl,e⟩:=I.lstM hH;obtain⟨z2,its2,n2,r2,hl2,e2⟩:=I.lstM hB;refine PySem.P.add_list e e2 ?_ (by rw[Qm,Qm];omega)
 have ea:its.toArray++its2.toArray=(its++its2).toArray:=by simp
 rw[ea];exact⟨.ref _,_,I.lnew (t':=s.toks) (r.append r2) (by rw[Qy];omega),rfl,q _ I.fresh⟩
def QBc:R2:=λx y H Q=>∃l k xs,x=.ref l/\y=.int k/\H l=some (.lst xs) /\ -(2^63)<=k/\k<2^63/\xs.length*k.toNat<=sizeLine /\
 ∀p,H p=none->Q (.ref p) (upd H p (.lst (QZ k.toNat xs).flatten))
theorem QuN{α:Type}(xs:List α)(k:Nat):(QZ k xs).flatten.length=k*xs.length:=by
 induction k with
 |zero=>simp
 |succ k ih=>rw[JU,ZN,Qy,ih,Qlt,Qlw]
theorem Qxk:OpR X (binaryOp .Mult) QBc:=by
 intro pins s σ H x y v u Q I rx ry h;obtain⟨l,k,xs,rfl,rfl,hH,h1,h2,hz,q⟩:=h;cases rx;obtain⟨t,rfl⟩:=ry;obtain⟨z,its,n,r,hl,e⟩:=I.lstM hH;have hlen:its.toArray.size*k.toNat<=sizeLine:=by rw[Qm,<- hl];exact hz
 have hcap:¬its.toArray.size*k.toNat > (2^63 - 1) / 8:=by
  have:(sizeLine:Nat)<=(2^63 - 1) / 8:=by decide
  omega
 have hfit:¬(!Builtin.List.listFitsIndex k)=true:=by
  rw[fitsIndex_both h1 h2];exact QD
 have hlong:¬YS (its.toArray.size*k.toNat)=true:=by
  rw[QjT hlen];exact QD
 have hnew:QrC (λx1 x2=>x1++x2) #[] (QZ (if its.toArray.isEmpty=true then 0 else k.toNat) its.toArray)=(QZ k.toNat its).flatten.toArray:=by
  have f0:∀m:Nat,QrC (λx1 x2=>x1++x2) #[] (QZ m its.toArray)=(QZ m its).flatten.toArray:=λm=>by
   have:=foldl_rep its m [];rw[QvJ] at this;exact this
  rw[f0];cases its with
  |nil=>simp
  |cons a r'=>rw[if_neg (by simp)]
 refine wpAny_binaryOp_repeat_ref (T := "list") (U := "int") (by decide) ⟨_,e,rfl⟩ (λs'=>Qzf s' k t) noFill_list_mul F.fills_int_mul QzB repeat_list F.slot_int_index.lookup
  (QaK QzB (Qzf s k t) F.entry_int_rmul (F.args_int_rmul_2 _ _) (int___rmul___int_list k t l its.toArray n)
   ⟨e,rfl,⟨_,e,rfl⟩,QaK F.slot_list_mul ⟨_,e,rfl⟩ F.entry_list_mul (F.args_list_mul_2 _ _) (AutoListH.list___mul___list_int_3 l its.toArray n k t hfit hcap hlong) ⟨e,?_⟩⟩)
 rw[hnew];exact⟨.ref _,_,I.lnew (t':=s.toks) (r.rep k.toNat) (by rw[QuN,Nat.mul_comm];exact hz),rfl,q _ I.fresh⟩
end
section
variable{prog:QB}{w:Jd}{A:Q1}{E:Value->Shared->Prop}{s:Shared}
end
section
variable{X:Cx}
end
end L2
namespace Att
open PySem.W PySem.Calls
theorem QeS{P:Params}{h:Heap}:∀(ns:List Int)(vs:List Value),WellAll P h vs (ns.map WData.int)->Y2 vs ns:=by
 intro ns;induction ns with
 |nil=>
  intro vs w;rw[Qzw] at w;cases w;exact .nil
 |cons n ns ih=>
  intro vs w;rw[QY] at w;cases w with
  |cons a b=>
   cases a;exact .cons _ _ (ih _ b)
theorem Ql1{l:OpenLaw}{n:Nat}(hn:l.most=some n){P:Params}{h:Heap}{args:List WData}{vals:List Value}
  (hpre:l.row.toRowW.claim.pre args=true)(hwl:WellAll P h vals args) :
  ∃a vs ns,vals=[Zn a]/\args=[WData.list (ns.map WData.int)]/\h.get? a=some { cls:=.type "list",data:=.seq vs.toArray }/\Y2 vs ns/\ns.length<=n:=by
 have hsh:WShape.hasAll [] args [.list .int]=true:=(pre_splitW hpre).1;have hc:l.pre.holds [] { args:=args }=true:=(pre_splitW hpre).2;obtain⟨d,r,rfl,h1,h2⟩:=hasAllW_cons hsh;obtain rfl:=hasAllW_nil h2;obtain⟨xs,rfl,h3⟩:=hasW_list h1;obtain⟨ns,rfl⟩:=items_int h3;have hlen:ns.length<=n:=by
  unfold OpenLaw.pre at hc;have h4:(WTm.not (.lt (.lit (.int (n:Int))) (.len (.arg 0)))).holds [] { args:=[.list (ns.map .int)] }=true:=by
   have h4:=(holds_andW hc).1;rw[hn] at h4;exact h4
  have h5:=condW_of h4 (w_not (w_lt w_lit (w_len_list (w_arg rfl))));rw[Qe] at h5;refine Nat.le_of_not_lt λq=>?_
  have q':(n:Int)<((ns.length:Nat):Int):=by omega
  first
   |(rw[decide_eq_true q'] at h5;exact absurd h5 (by decide))
   |(simp at h5;omega)
 cases hwl with
 |cons w1 w2=>
  cases w2;cases w1 with
  |list ho hall=>exact⟨_,_,ns,rfl,rfl,ho,QeS ns _ hall,hlen⟩
theorem Qmk(l:OpenLaw)(args:List WData):l.row.toRowW.claim.post args (.bool true) args=true:=
 postW_of (r:=l.row.toRowW) (X:=(true == true))
  (show Qzj [] (.bool true) .bool=true by first | rfl | decide | simp[Qzj,WShape.arms,WShape.armsAll])
  (show(WTm.eq .res (.lit (.bool true))).value [] { args:=args,res:=some (.bool true),after:=args }=some (.bool (true == true)) from w_eq_bool (w_res rfl) w_lit) rfl
theorem Qjl{l:OpenLaw}{n:Nat}{q:QB}{loose:List Str}{XP:(Str->Option Value)->Heap->Prop}{YP:Jd->Heap->Prop}{d:DefRec}
  (hn:l.most=some n)(hdf:d.params.defaults=[])
  (call:∀(w:Jd)(s₀ s₁:Shared)(mg mb:Str->Option Value)(fa:Addr)(o:Obj)(pm cd doc:Value)(a:Addr)(vs:List Value)(ns:List Int),
   Ground q loose [] XP w s₀ mg mb s₁.heap->YP w s₁.heap ->
   s₁.heap.get? fa=some o->o.data=.func (docDef d.name d.params d.body d.scope pm cd doc)->s₁.heap.CodeRec cd d.name->mg d.name=some (.ref fa) ->
   s₁.heap.get? a=some { cls:=.type "list",data:=.seq vs.toArray }->Y2 vs ns->ns.length<=n->s₁.gens=#[] ->
   codeAny (model l.prog w) callerA (.call (.ref fa) ⟨[.ref a],[]⟩) (λr s'=>r=.ok (.ret (.bool true))/\OldK s₁.heap s'.heap/\s'.os=s₁.os/\Qfl s'.gens) s₁) :
  WalkO q loose XP YP l.row.toRowW d [] (λf vs=>PySem.call f vs):=by
 intro w s₀ s₁ mg mb G Y fa o pm cd doc dV kV ho hd hcd hD hmg hg args vals as hpre hlay hrd hwl hlo;obtain rfl:dV=.none:=Dflts.none hD hdf;obtain rfl:kV=.none:=Dflts.noKw hD;obtain⟨a,vs,ns,rfl,rfl,hobj,hints,hlen⟩:=Ql1 hn hpre hwl;refine enter_call (Qb0 (call w s₀ s₁ mg mb fa o pm cd doc a vs ns G Y ho (fd_plain hd) hcd hmg hobj hints hlen hg) λr s' hq=>?_);obtain⟨rfl,h2,h3,h4⟩:=hq;exact⟨.inl ⟨.bool true,.bool true,[],rfl,λ_=>rfl,.bool true,Qmk l _,λ_=>⟨Qzy,λ_ hm=>(nomatch hm)⟩⟩,h2,h3,h4⟩
section
variable{prog:QB}{w:Jd}{A:Q1}{E:Value->Shared->Prop}{s:Shared}{K:Frag}
end
end Att
namespace L2
theorem Qho:∀{vs:List Value}{ns:List Int},Y2 vs ns->Vals (ns.map V.int) vs
 |_,_,.nil=>.nil
 |_,_,.cons n t h=>.cons ⟨t,rfl⟩ (Qho h)
def QA1(H:Hp):Prop:=∀b,H b=none∨∃o xs,H b=some (.frz o (.lst xs))
theorem QpV{P:QB}{w:Jd}{K:PySem.W.Frag}{mg mb:Str->Option Value}{CX:CXT}{k:Nat}{fa a:Addr}{fd:Q0}{x:Str}{sp:Sp}{s₁:Shared}{vs:List Value}{ns:List Int}
  (KX:K.In s₁.heap)(hns:s₁.heap.Ns mainGlobals mg)(hb:s₁.heap.Ns builtinsNs mb)(hbb:∀x:Str,x ≠ "__name__" -> mb x=bootBuiltins x)(hlim:s₁.heap.NoLimit)(hg:s₁.gens=#[])
  (ha:s₁.heap.get? a=some { cls:=.type "list",data:=.seq vs.toArray })(hi:Y2 vs ns)(hl:ns.length<=sizeLine)(hr:Room k callerA)
  (F:∀base:Heap,K.In base->base.Ns mainGlobals mg->FnOk P w K mg base CX k fa fd [x] sp)(hbind:∀(s:Shared)(u:Value),QoB s fd ⟨[u],[]⟩ [(x,u)])
  (hsp:∀H:Hp,QA1 H->SqL K H a (ns.map V.int)->sp [.ref a] H (λv _=>v=.bl true) λ_ _ _=>False)
  (hCX:∀H e s',CX [] H s₁ (λ_ _ _=>False) e s'->False) :
  codeAny (model P w) callerA (.call (.ref fa) ⟨[.ref a],[]⟩) (λr s'=>r=.ok (.ret (.bool true))/\OldK s₁.heap s'.heap/\s'.os=s₁.os/\Qfl s'.gens) s₁:=by
 have rv:=Qho hi;have lenV:=hi.length;have core:∀H:Hp,QA1 H->SqL K H a (ns.map V.int)->HOk P w H s₁.heap->(∀b,H b≠none->b=a)->(H a≠none->K.lookup a=none) ->
   codeAny (model P w) callerA (.call (.ref fa) ⟨[.ref a],[]⟩) (λr s'=>r=.ok (.ret (.bool true))/\OldK s₁.heap s'.heap/\s'.os=s₁.os/\Qfl s'.gens) s₁:=by
  intro H hO hS hok hA hK;have base_of:∀{b:Addr}{o:Obj},s₁.heap.get? b=some o->H b=none->(Qp0 s₁.heap H).get? b=some o:=λe n=>QpZ e n
  have noA:∀{b:Addr}{o:Obj}{es:Array DictEntry}{ep:Nat},s₁.heap.get? b=some o->o.data=.dict es ep->H b=none:=λ{b o es ep} e d=>by
   cases q:H b with
   |none=>rfl
   |some u=>
    have e':b=a:=hA b (by rw[q];simp);subst e';rw[ha] at e;cases e;have d':Data.seq vs.toArray _=Data.dict es ep:=d;cases d'
  have nsK:∀{b:Addr}{m:Str->Option Value},s₁.heap.Ns b m->(Qp0 s₁.heap H).Ns b m:=λ{b m} ⟨o,es,ep,e,d,r⟩=>⟨o,es,ep,base_of e (noA e d),d,r⟩
  have hKb:K.In (Qp0 s₁.heap H):=λb o e=>base_of (KX b o e) (by
   cases q:H b with
   |none=>rfl
   |some u=>
    have e':b=a:=hA b (by rw[q];simp);subst e';rw[hK (by rw[q];simp)] at e;cases e)
  have hM:Mod K mg (Qp0 s₁.heap H):=⟨hKb,nsK hns,⟨mb,nsK hb,hbb⟩,let ⟨mc,h1,h2⟩:=hlim;⟨mc,nsK h1,h2⟩⟩;have e0:Env0 P w K mg (Qp0 s₁.heap H) callerA [] s₁ H:=⟨rfl,hM,λb o e=>Quw e,Nat.le_of_eq (Qni _ _),trivial,λb hb=>absurd (show b∈([]:List Addr) from hb) (by simp),hok,.of_eq hg⟩;refine Qb0 ((F _ hKb (nsK hns)).run callerA [] s₁ H ⟨[.ref a],[]⟩ [.ref a] [.ref a] _ _ hr e0 (hbind s₁ (.ref a)) (.cons rfl .nil) (hsp H hO hS)) λr s' h=>?_
  cases r with
  |error e=>exact(hCX H e s' h).elim
  |ok fl=>
   cases fl with
   |next=>exact Yy h
   |brk=>exact Yy h
   |cont=>exact Yy h
   |ret u=>
    obtain⟨v,H',os,bare,un,hok',r',q⟩:=h;have q':v=.bl true:=q;subst q';obtain rfl:u=ZA true:=r';refine⟨rfl,OldK.of_keep λb o e=>?_,os,bare⟩;cases q:H b with
    |none=>exact un.keep b o e q (by intro z;exact absurd (show b∈([]:List Addr) from z) (by simp)) (by simp)
    |some u=>
     rcases hO b with z | ⟨ob,xs,z⟩
     ·rw[q] at z;cases z
     ·have z2:=un.frzs b ob _ z;obtain⟨e1,_⟩:=hok b _ z;obtain⟨e2,_⟩:=hok' b _ z2;rw[e] at e1;cases e1;exact e2
 cases hk:K.lookup a with
 |some o=>
  have e:=KX a o hk;rw[ha] at e;cases e;refine core (λ_=>none) (λ_=>.inl rfl) (.inr ⟨_,vs.toArray,_,hk,rfl,rfl,rfl,by rw[Qm,lenV];exact hl,by simpa using rv⟩) (λb u z=>by have z':(none:Option HO)=some u:=z;cases z') (λb z=>absurd rfl z) λz=>absurd rfl z
 |none=>
  refine core (λb=>if b=a then some (.frz { cls:=.type "list",data:=.seq vs.toArray } (.lst (ns.map V.int))) else none) (λb=>?_) (.inl (.inr ⟨{ cls:=.type "list",data:=.seq vs.toArray },if_pos rfl⟩)) (λb u z=>?_) (λb z=>?_) λ_=>hk
  ·by_cases hb:b=a
   ·exact .inr ⟨_,_,if_pos hb⟩
   ·exact .inl (if_neg hb)
  ·by_cases hb:b=a
   ·have z':=(if_pos hb).symm.trans z;cases z';subst hb;exact⟨ha,by rw[Qe];exact hl,vs,_,rv,ha⟩
   ·have z':=(if_neg hb).symm.trans z;cases z'
  ·by_cases hb:b=a
   ·exact hb
   ·exact absurd (if_neg hb) z
theorem Qs4{l:PySem.W.OpenLaw}{n k:Nat}{q:QB}{loose:List Str}{XP:(Str->Option Value)->Heap->Prop}{YP:Jd->Heap->Prop}{d:DefRec}{K:Params->PySem.W.Frag}{CX:Jd->CXT}{sp:Jd->Sp}{x:Str}
  (hn:l.most=some n)(hn2:n<=sizeLine)(hdf:d.params.defaults=[])(hr:Room k callerA)
  (hY:∀(w:Jd)(h:Heap),YP w h->(K w.params).In h)
  (F:∀(w:Jd)(mg:Str->Option Value)(fa:Addr)(h:Heap),(K w.params).In h->h.Ns mainGlobals mg->mg d.name=some (.ref fa) ->
   ∃fd:Q0,(∀(s:Shared)(u:Value),QoB s fd ⟨[u],[]⟩ [(x,u)]) /\
    ∀base:Heap,(K w.params).In base->base.Ns mainGlobals mg->FnOk l.prog w (K w.params) mg base (CX w) k fa fd [x] (sp w))
  (hsp:∀(w:Jd)(H:Hp)(a:Addr)(ns:List Int),ns.length<=n->QA1 H->SqL (K w.params) H a (ns.map V.int)->sp w [.ref a] H (λv _=>v=.bl true) λ_ _ _=>False)
  (hCX:∀(w:Jd)(H:Hp)(s:Shared)(e:Value)(s':Shared),CX w [] H s (λ_ _ _=>False) e s'->False) :
  PySem.W.WalkO q loose XP YP l.row.toRowW d [] (λf vs=>PySem.call f vs):=by
 refine Att.Qjl hn hdf λw s₀ s₁ mg mb fa o pm cd doc a vs ns G Y ho hd hcd hmg hobj hints hlen hg=>?_
 have KX:=hY w _ Y;obtain⟨fd,hb,hF⟩:=F w mg fa _ KX G.T.g hmg;exact QpV KX G.T.g G.T.b G.T.builtins G.T.nolimit hg hobj hints (QJ hlen hn2) hr hF hb (λH hO hS=>hsp w H a ns hlen hO hS) λH e s'=>hCX w H s₁ e s'
def JP(s:YO):Arguments:=match s with
 |.FunctionDef _ a _ _ _ _ _ _ _ _=>a
 |_=>{ posonlyargs:=[],args:=[],vararg:=none,kwonlyargs:=[],kw_defaults:=[],kwarg:=none,defaults:=[] }
def JF(s:YO):List YO:=match s with
 |.FunctionDef _ _ b _ _ _ _ _ _ _=>b
 |_=>[]
def QF(s:YO):Qan:=match s with
 |.FunctionDef _ _ _ _ _ _ sc _ _ _=>sc
 |_=>{ kind:=.function,names:=[],isGenerator:=false,isCoroutine:=false }
abbrev CX0:CXT:=λ_ _ _ _ _ _=>False
abbrev E0:XK:=λ_ _ _=>False
theorem QAh{X:Cx}:Qd9 CX0 X E0:=λ_ _ _ _ _ _ _ h=>h.elim
structure Fun (K:PySem.W.Frag) (x qual:Str) (st:YO) (f:Addr) (fd:Q0):Prop where
 ex:∃(oc:Value)(od:Option Addr)(kV doc pm:Value)(an:Option Addr)(cdv ct:Value)(osl:Array (Option Value)),
  fd=PySem.W.fnOf x qual (JP st) (JF st) (QF st) .none kV doc pm an cdv ct/\K.lookup f=some ⟨oc,od,.func fd,osl⟩/\PySem.W.codeIn K cdv qual=true
 kp:PySem.W.keepIn K (.ref f)=true
section
variable{P:QB}{w:Jd}{K:PySem.W.Frag}{mg:Str->Option Value}{base:Heap}
theorem Fun.ok{x qual:Str}{st:YO}{f:Addr}{fd:Q0}{N ps:List Str}{k:Nat}{sp:Sp}(F:Fun K x qual st f fd)(S:JN N ps (QF st))(len:∀vs H Q E,sp vs H Q E->vs.length=ps.length)
  (hbody:∀(cdv:Value)(A:Q1)(outer:List Env)(s:Shared)(H:Hp)(vs:List V)(Q:VK)(E:XK),Room k (A.deeper (envOfC qual (QF st) s.heap.objs.size f cdv))->sp vs H Q E ->
   ∃t,PSs (Qon CX0 P w K mg base N qual (QF st) f cdv A outer s H E).nox (JF st) t/\t { nx:=λ_ H'=>Q .non H',rt:=Q } (start N vs) H):FnOk P w K mg base CX0 (k+1) f fd ps sp:=by
 obtain⟨oc,od,kV,doc,pm,an,cdv,ct,osl,rfl,lk,hcd⟩:=F.ex;refine QAI lk hcd S len λA outer s H vs Q E hr hsp=>?_
 obtain⟨t,h,q⟩:=hbody cdv A outer s H vs Q E hr hsp;exact⟨t,h.nox,q⟩
theorem Fun.binds{x qual:Str}{st:YO}{f:Addr}{fd:Q0}{ps:List Str}(F:Fun K x qual st f fd)
  (h:∀(kV doc pm:Value)(an:Option Addr)(cdv ct:Value)(us:List Value),us.length=ps.length->bindArgs (PySem.W.fnOf x qual (JP st) (JF st) (QF st) .none kV doc pm an cdv ct) ⟨us,[]⟩=pure (ps.zip us)):Binds K fd ps []:=by
 obtain⟨oc,od,kV,doc,pm,an,cdv,ct,osl,rfl,lk,hcd⟩:=F.ex;exact .all (h kV doc pm an cdv ct)
theorem ZK{x qual:Str}{st:YO}{f:Addr}{oc:Value}{od an:Option Addr}{osl:Array (Option Value)}{kV doc pm cdv ct:Value}(l:K.lookup f=some ⟨oc,od,.func (PySem.W.fnOf x qual (JP st) (JF st) (QF st) .none kV doc pm an cdv ct),osl⟩)
  (c:PySem.W.codeIn K cdv qual=true)(k:PySem.W.keepIn K (.ref f)=true):Fun K x qual st f (PySem.W.fnOf x qual (JP st) (JF st) (QF st) .none kV doc pm an cdv ct):=⟨⟨oc,od,kV,doc,pm,an,cdv,ct,osl,rfl,l,c⟩,k⟩
end
section
variable{X:Cx}
theorem pv(i:Nat){x:Str}{pos:Pos}(hN:X.N[i]? = some x:=by rfl)(hv:Vis X.env.scope x:=by first | exact Q6 rfl | exact Q4 (Q6 rfl) | exact Q4 (Q4 rfl))(hd:(x == ("__debug__" : Str))=false:=by decide)
  (hcd:(x == ("__classdict__" : Str))=false:=by decide):PE X (.Name x pos) (QiG i):=QwX hN hv hd hcd
end
theorem QB8{A B:Prop}(h:B):if false=true then A else B:=by
 rw[if_neg QD];exact h
theorem QAA{A B:Prop}(h:A):if true=true then A else B:=by
 rw[if_pos rfl];exact h
theorem QBr{c A B:Prop}[Decidable c](h1:c->A)(h2:¬c->B):if c then A else B:=by
 by_cases h:c
 ·rw[if_pos h];exact h1 h
 ·rw[if_neg h];exact h2 h
def Same(H H':Hp):Prop:=∀b o,H b=some o->H' b=some o
theorem Same.refl(H:Hp):Same H H:=λ_ _ h=>h
theorem Same.trans{H H1 H2:Hp}(a:Same H H1)(b:Same H1 H2):Same H H2:=λc o h=>b c o (a c o h)
theorem Same.free{H H':Hp}(e:Same H H'){l:Addr}(h:H' l=QyR):H l=QyR:=by
 cases q:H l with
 |none=>rfl
 |some o=>
  rw[e l o q] at h;cases h
theorem Same.seq{K:PySem.W.Frag}{H H':Hp}{a:Addr}{xs:List V}(e:Same H H')(h:SqL K H a xs):SqL K H' a xs:=by
 rcases h with(h | ⟨o,h⟩) | h
 ·exact .inl (.inl (e _ _ h))
 ·exact .inl (.inr ⟨o,e _ _ h⟩)
 ·exact .inr h
end L2
set_option maxHeartbeats 4000000
namespace L2
def blk(X:Cx)(M:List Str)(scope:Qan)(cl:List (Str×Addr))(ex:List Addr)(s3:Shared)(H3:Hp)(C:Addr):Cx where
 prog:=X.prog
 w:=X.w
 K:=X.K
 mg:=X.mg
 base:=X.base
 A:=X.A
 N:=M
 s₀:=s3
 H₀:=H3
 env:=compEnvC scope cl C X.env
 outer:=X.stack
 stack:=X.stack
 ex:=ex
 fn:=λ_=>false
 calm:=X.calm
 pn:=[]
 xe:=λ_ _=>False
def Qcf(env:Env):List (Str×QaO)->List (Str×Addr)->List (Str×Addr)
 |[],acc=>acc
 |(n,k)::r,acc=>Qcf env r (if k=.free then(n,(env.cells.lookup n).getD 0)::acc else acc)
theorem Qja{env:Env}:∀(l:List (Str×QaO))(acc:List (Str×Addr)),(∀x∈l,x.2=.free->∃c,env.cells.lookup x.1=some c) ->
  (forIn (m:=Sem) l acc λx cs=>(if(x.2 == Jb)=true then do let a <- cellOf env x.1;pure (ZJ ((x.1,a)::cs)) else pure (ZJ cs)))=pure (Qcf env l acc)
 |[],acc,_=>rfl
 |(n,k)::r,acc,h=>by
  rw[List.forIn_cons];by_cases hk:k=.free
  ·subst hk;obtain⟨c,hc⟩:=h (n,.free) Zj rfl;have e1:cellOf env n=pure c:=by unfold cellOf;rw[hc]
   have e2:Qcf env ((n,.free)::r) acc=Qcf env r ((n,c)::acc):=by
    show Qcf env r (if Jb=.free then(n,(env.cells.lookup n).getD 0)::acc else acc)=_;rw[if_pos rfl,hc];rfl
   rw[e2];show((if(Jb == Jb)=true then do let a <- cellOf env n;pure (ZJ ((n,a)::acc)) else pure (ZJ acc)) >>= _)=_;rw[if_pos (show(Jb == Jb)=true by decide),e1];exact Qja r _ λx hx=>h x (Ju _ hx)
  ·have hb:(k == Jb)=false:=by simpa using hk
   have e2:Qcf env ((n,k)::r) acc=Qcf env r acc:=by
    show Qcf env r (if k=.free then(n,(env.cells.lookup n).getD 0)::acc else acc)=_;rw[if_neg hk]
   rw[e2];show((if(k == Jb)=true then _ else pure (ZJ acc)) >>= _)=_;rw[hb,if_neg QD];exact Qja r _ λx hx=>h x (Ju _ hx)
theorem Qjb{scope:Qan}{env:Env}(h:∀x∈scope.names,x.2=.free->∃c,env.cells.lookup x.1=some c):closureFor scope env=pure (Qcf env scope.names []):=by
 have e:=Qja (env:=env) scope.names [] h;unfold closureFor;show(forIn scope.names [] _ >>= _)=_;have e':(forIn (m:=Sem) scope.names ([]:List (Str×Addr)) λx cs=>match x with | (name,kind)=>(if(kind == Jb)=true then do let a <- cellOf env name;pure (ZJ ((name,a)::cs)) else pure (ZJ cs)))=pure (Qcf env scope.names []):=e
 first
  |(rw[e'];rfl)
  |(refine Eq.trans (congrArg (λt=>t >>= _) e') ?_;rfl)
theorem Qjc{env:Env}:∀(l:List (Str×QaO))(acc:List (Str×Addr)),(∀x∈l,x.2=.free->∃c,env.cells.lookup x.1=some c)->(∀x c,acc.lookup x=some c->env.cells.lookup x=some c) ->
  (∀x c,(Qcf env l acc).lookup x=some c->env.cells.lookup x=some c)/\(∀x c,acc.lookup x=some c->(Qcf env l acc).lookup x=some c)/\∀x,(x,Jb)∈l->∃c,(Qcf env l acc).lookup x=some c
 |[],acc,_,ha=>⟨ha,λ_ _ h=>h,λ_ h=>nomatch h⟩
 |(n,k)::r,acc,h,ha=>by
  have hr:∀x∈r,x.2=.free->∃c,env.cells.lookup x.1=some c:=λx hx=>h x (Ju _ hx)
  by_cases hk:k=.free
  ·subst hk;obtain⟨c,hc⟩:=h (n,.free) Zj rfl;have e2:Qcf env ((n,.free)::r) acc=Qcf env r ((n,c)::acc):=by
    show Qcf env r (if Jb=.free then(n,(env.cells.lookup n).getD 0)::acc else acc)=_;rw[if_pos rfl,hc];rfl
   rw[e2];have ha':∀x c',((n,c)::acc).lookup x=some c'->env.cells.lookup x=some c':=λx c' q=>by
    rw[Jm] at q;cases hx:x == n with
    |true=>
     rw[hx] at q;have z:c=c':=QK q;have y:x=n:=by simpa using hx
     rw[y,<- z];exact hc
    |false=>rw[hx] at q;exact ha x c' q
   obtain⟨i1,i2,i3⟩:=Qjc r ((n,c)::acc) hr ha';refine⟨i1,λx c' q=>?_,λx hx=>?_⟩
   ·refine i2 x c' ?_
    rw[Jm];cases hx:x == n with
    |true=>
     have y:x=n:=by simpa using hx
     have:=ha x c' q;rw[y,hc] at this;exact this
    |false=>exact q
   ·rcases Qz.mp hx with z | z
    ·cases z;exact⟨c,i2 n c (by rw[Jm,beq_self_eq_true])⟩
    ·exact i3 x z
  ·have e2:Qcf env ((n,k)::r) acc=Qcf env r acc:=by
    show Qcf env r (if k=.free then(n,(env.cells.lookup n).getD 0)::acc else acc)=_;rw[if_neg hk]
   rw[e2];obtain⟨i1,i2,i3⟩:=Qjc r acc hr ha;refine⟨i1,i2,λx hx=>?_⟩;rcases Qz.mp hx with z | z
   ·cases z;exact absurd rfl hk
   ·exact i3 x z
theorem Qca{l:List (Str×QaO)}{x:Str}{k:QaO}(h:l.lookup x=some k):(x,k)∈l:=by
 induction l with
 |nil=>cases h
 |cons p r ih=>
  obtain⟨n,q⟩:=p;rw[Jm] at h;cases hx:x == n with
  |true=>
   rw[hx] at h;have y:x=n:=by simpa using hx
   have z:q=k:=QK h;subst y z;exact Zj
  |false=>rw[hx] at h;exact Ju _ (ih h)
theorem QaT{env:Env}:∀{names:List (Str×QaO)}{x:Str}{k:QaO},(names.map λ(n,k)=>if(k == Jb&&env.scope.kind == .function&&env.kindOf n == some .cell) then(n,YK) else(n,k)).lookup x=some k ->
  names.lookup x=some k∨(k=.cell/\names.lookup x=some .free)
 |[],x,k,h=>by cases h
 |(n,q)::r,x,k,h=>by
  have ih:=@QaT env r x k;rw[QY] at h;have h':Qhd x ((if(q == Jb&&env.scope.kind == .function&&env.kindOf n == some .cell)=true then(n,YK) else(n,q))::_)=some k:=h;cases hx:x == n with
  |true=>
   by_cases hc:(q == Jb&&env.scope.kind == .function&&env.kindOf n == some .cell)=true
   ·rw[if_pos hc,Jm,hx] at h';have z:YK=k:=QK h';have y:q=.free:=by simp at hc;exact hc.1.1
    refine .inr ⟨z.symm,?_⟩;rw[Jm,hx,y]
   ·rw[if_neg hc,Jm,hx] at h';refine .inl ?_
    rw[Jm,hx];exact h'
  |false=>
   have h2:Qhd x (r.map λ(n,k)=>if(k == Jb&&env.scope.kind == .function&&env.kindOf n == some .cell) then(n,YK) else(n,k))=some k:=by
    by_cases hc:(q == Jb&&env.scope.kind == .function&&env.kindOf n == some .cell)=true
    ·rw[if_pos hc,Jm,hx] at h';exact h'
    ·rw[if_neg hc,Jm,hx] at h';exact h'
   rw[Jm,hx];exact ih h2
theorem relabel_free{env:Env}:∀{names:List (Str×QaO)}{x:Str},names.lookup x=some .free->(names.map λ(n,k)=>if(k == Jb&&env.scope.kind == .function&&env.kindOf n == some .cell) then(n,YK) else(n,k)).lookup x=some .cell ∨
   (names.map λ(n,k)=>if(k == Jb&&env.scope.kind == .function&&env.kindOf n == some .cell) then(n,YK) else(n,k)).lookup x=some .free
 |[],x,h=>by cases h
 |(n,q)::r,x,h=>by
  have ih:=@relabel_free env r x;rw[QY];show Qhd x ((if(q == Jb&&env.scope.kind == .function&&env.kindOf n == some .cell)=true then(n,YK) else(n,q))::_)=some .cell∨Qhd x ((if(q == Jb&&env.scope.kind == .function&&env.kindOf n == some .cell)=true then(n,YK) else(n,q))::_)=some .free;cases hx:x == n with
  |true=>
   rw[Jm,hx] at h;have z:q=Jb:=QK h;subst z;by_cases hc:(Jb == Jb&&env.scope.kind == .function&&env.kindOf n == some .cell)=true
   ·rw[if_pos hc,Jm,hx];exact .inl rfl
   ·rw[if_neg hc,Jm,hx];exact .inr rfl
  |false=>
   rw[Jm,hx] at h;by_cases hc:(q == Jb&&env.scope.kind == .function&&env.kindOf n == some .cell)=true
   ·rw[if_pos hc,Jm,hx];exact ih h
   ·rw[if_neg hc,Jm,hx];exact ih h
def Qfs(N:List Str)(sc:Qan)(M:List Str)(scope:Qan)(cap:List (Option Nat)):Bool:=
 cap.length == M.length&&(M.zip cap).all (λ(x,o)=>match o with
  |none=>scope.names.lookup x == some .local
  |some j=>N[j]? == some x&&(scope.names.lookup x == some .free&&(sc.names.lookup x == some .cell||sc.names.lookup x == some .free))) &&
 (scope.kind == .function&&scope.names.all λy=>y.2 != .cell&&((y.2 != .free||(sc.names.lookup y.1 == some .cell||sc.names.lookup y.1 == some .free))&&(y.2 != .local||scope.names.lookup y.1 == some .local)))
def QdV(cap:List (Option Nat))(σ:St):St:=cap.map λo=>match o with
 |none=>none
 |some j=>(σ[j]?).getD none
structure CapOk (N:List Str) (sc:Qan) (M:List Str) (scope:Qan) (cap:List (Option Nat)):Prop where
 len:cap.length=M.length
 own:∀(i j:Nat)(x:Str),M[i]? = some x->cap[i]? = some (some j)->N[j]? = some x/\scope.names.lookup x=some .free/\(sc.names.lookup x=some .cell∨sc.names.lookup x=some .free)
 kind:scope.kind=.function
 cell:∀y∈scope.names,y.2≠.cell
 free:∀y∈scope.names,y.2=.free->sc.names.lookup y.1=some .cell∨sc.names.lookup y.1=some .free
 loc:∀y∈scope.names,y.2=.local->scope.names.lookup y.1=some .local
theorem CapOk.of{N:List Str}{sc:Qan}{M:List Str}{scope:Qan}{cap:List (Option Nat)}(h:Qfs N sc M scope cap=true):CapOk N sc M scope cap:=by
 unfold Qfs at h;simp only[JK,Y5,beq_iff_eq] at h;obtain⟨⟨h1,h2⟩,h3,h4⟩:=h;refine⟨h1,λi j x e1 e2=>?_,h3,λy hy z=>?_,λy hy z=>?_,λy hy z=>?_⟩
 ·have hm:(x,some j)∈M.zip cap:=by
   have:(M.zip cap)[i]? = some (x,some j):=by rw[List.getElem?_zip_eq_some];exact⟨e1,e2⟩
   exact Jo this
  have:=h2 _ hm;simp only[JK,beq_iff_eq,QvP] at this;exact this
 ·have:=(h4 y hy).1;simp[z] at this
 ·have:=(h4 y hy).2.1
  simpa [z] using this
 ·have:=(h4 y hy).2.2
  simpa [z] using this
section
variable{X:Cx}{pins:List (Addr×Obj)}{σ:St}{H H3:Hp}{s3:Shared}{M:List Str}{scope:Qan}{cap:List (Option Nat)}{fp:List Addr}{h4:Heap}{t4:Nat}
theorem Cx.Ok.cells(ok:X.Ok){N:List Str}(c:CapOk N X.env.scope M scope cap):∀y∈scope.names,y.2=.free->∃d,X.env.cells.lookup y.1=some d:=λy hy z=>ok.has y.1 (c.free y hy z)
theorem Qe3(I:Inv X pins σ H3 s3)(c:CapOk X.N X.env.scope M scope cap)(hf:∀b∈fp,FpOk X pins H3 b)(hb:∀b∈fp,b<s3.heap.objs.size)
  (hn:h4.Ns s3.heap.objs.size λ_=>none)(hk:∀b o,s3.heap.get? b=some o->h4.get? b=some o) :
  Inv (blk X M scope (Qcf X.env scope.names []) fp s3 H3 s3.heap.objs.size) [] (QdV cap σ) H3 { s3 with heap:=h4,toks:=t4 }:=by
 obtain⟨c1,c2,c3⟩:=Qjc scope.names [] (I.ok.cells c) (λx d q=>by cases q);refine⟨⟨I.ok.mod,c.kind,I.ok.glob,I.ok.blt,Ql _,λx y d e1 e2=>I.ok.inj x y d (c1 x d e1) (c1 y d e2),λx hx=>?_,(λx d z=>nomatch z),I.ok.hd,I.ok.frames,.inl rfl,λb hb'=>?_,I.bs,
  QJ I.ok.bsz I.sz,λb o e z=>?_,λb hb' z=>?_,I.stack,I.stkFree⟩,rfl,I.bare,Un.kept hk,⟨_,hn,λi x v e1 e2 e3=>?_⟩,λx d e=>?_,I.hok.fresh (Ql _),λx d e=>I.freeC x d (c1 x d e),λp hp=>(nomatch hp),I.hok.kept hk,?_⟩
 ·have hx':(relabel scope X.env).names.lookup x=some .cell∨(relabel scope X.env).names.lookup x=some .free:=hx;rcases hx' with q | q
  ·rcases QaT q with z | ⟨_,z⟩
   ·exact absurd rfl (c.cell _ (Qca z))
   ·exact c3 x (Qca z)
  ·rcases QaT q with z | ⟨z,_⟩
   ·exact c3 x (Qca z)
   ·cases z
 ·obtain⟨f0,f1,f2,f3,f4,f5⟩:=hf b hb';exact⟨QL (hb b hb'),λx d e=>f4 x d (c1 x d e)⟩
 ·obtain⟨f0,f1,f2,f3,f4,f5⟩:=hf b z;rcases f3 with q | q
  ·exact I.ok.noex b o e q
  ·exact absurd (QP (Qq e) (QJ I.ok.bsz q)) (YV _)
 ·obtain⟨f0,f1,f2,f3,f4,f5⟩:=hf b hb';rcases Qz.mp (I.stkSub b z) with q | q
  ·exact f1 q
  ·exact f2 q
 ·have e2':(cap.map λo=>match o with | none=>none | some j=>(σ[j]?).getD none)[i]? = some (some v):=e2;rw[Qo] at e2';cases q:cap[i]? with
  |none=>rw[q] at e2';cases e2'
  |some o=>
   rw[q] at e2';cases o with
   |none=>cases e2'
   |some j=>
    have e4:(σ[j]?).getD none=some v:=QK e2';have e5:σ[j]? = some (some v):=by
     cases r:σ[j]? with
     |none=>rw[r] at e4;cases e4
     |some o=>rw[r] at e4;exact congrArg some e4
    obtain⟨n1,n2,n3⟩:=c.own i j x e1 q;obtain⟨m,hm,hl⟩:=I.loc;obtain⟨u,ru,lk⟩:=hl j x v n1 e5 (n3.elim (λz=>.inr (.inl z)) λz=>.inr (.inr z));refine⟨u,ru,.inr ?_⟩;rcases lk with⟨k1,_⟩ | ⟨_,d,k2,k3⟩
    ·have k1':X.env.scope.names.lookup x=some .local:=k1;rcases n3 with z | z<;>(rw[z] at k1';cases k1')
    ·obtain⟨d',hd'⟩:=c3 x (Qca n2);have ed:d'=d:=by
      have:=c1 x d' hd';rw[k2] at this;exact(QK this).symm
     subst ed;exact⟨(relabel_free n2:(relabel scope X.env).names.lookup x=some .cell∨(relabel scope X.env).names.lookup x=some .free),d',hd',k3.keeps hk⟩
 ·obtain⟨v,q⟩:=I.cell x d (c1 x d e);exact⟨v,q.keeps hk⟩
 ·show(cap.map _).length=M.length;rw[Qe];exact c.len
theorem Qn2{σ':St}{s':Shared}{h':Heap}(I:Inv X pins σ H3 s3)(hf:∀b∈fp,FpOk X pins H3 b)(J:Inv (blk X M scope (Qcf X.env scope.names []) fp s3 H3 s3.heap.objs.size) [] σ' H s')(hs:Qay s3.heap.objs.size s'.heap h') :
  Inv X pins σ H { s' with heap:=h' }:=by
 have u:Un (frs X.stack) fp H3 H s3.heap s'.heap:=J.base;have ne:∀b o,s3.heap.get? b=some o->b≠s3.heap.objs.size:=λb o e=>QL (Qq e)
 have hC:H s3.heap.objs.size=none:=J.free;refine I.call' (ch:=fp) (s':={ s' with heap:=h' }) J.os ⟨λb o e n hb hx=>(hs.2 b (ne b o e)).trans (u.keep b o e n hb hx),λb o e n hb hx=>?_,u.free,λb o e hx=>?_,u.tups,u.frzs,u.tbls⟩ (λb o e=>?_) J.bare λb hb=>?_
 ·obtain⟨sl,q⟩:=u.slot b o e n hb hx;exact⟨sl,(hs.2 b (ne b o e)).trans q⟩
 ·obtain⟨o',q⟩:=u.there b o e hx;exact⟨o',(hs.2 b (ne b o e)).trans q⟩
 ·refine(J.hok b o e).stay (λc v hc q=>(hs.2 c ?_).trans q) (λ_ q=>q) λ_ _ q=>q
  rintro rfl;rcases hc with z | z
  ·rw[<- z,hC] at e;cases e
  ·rw[hC] at z;cases z
 ·obtain⟨f0,f1,f2,f3,f4,f5⟩:=hf b hb;exact⟨f3,f1,f4,f5⟩
end
def Wk:St->St->Prop
 |[],[]=>True
 |none::a,_::b=>Wk a b
 |some v::a,some u::b=>v=u/\Wk a b
 |_,_=>False
theorem Wk.len:∀{a b:St},Wk a b->a.length=b.length
 |[],[],_=>rfl
 |none::a,_::b,h=>congrArg (·+1) (Wk.len (a:=a) (b:=b) h)
 |some v::a,some u::b,h=>congrArg (·+1) (Wk.len (a:=a) (b:=b) h.2)
 |[],_::_,h=>h.elim
 |some _::_,[],h=>h.elim
 |none::_,[],h=>h.elim
 |some _::_,none::_,h=>h.elim
theorem Wk.get:∀{a b:St},Wk a b->∀(i:Nat) v,a[i]? = some (some v)->b[i]? = some (some v)
 |[],[],_,i,v,h=>by simp at h
 |none::a,x::b,h,0,v,e=>by simp at e
 |none::a,x::b,h,i+1,v,e=>by
  simp only[ZM] at e ⊢;exact Wk.get (a:=a) (b:=b) h i v e
 |some q::a,some u::b,h,0,v,e=>by
  simp only[Qjp] at e ⊢;rw[<- h.1];exact e
 |some q::a,some u::b,h,i+1,v,e=>by
  simp only[ZM] at e ⊢;exact Wk.get (a:=a) (b:=b) h.2 i v e
 |[],_::_,h,_,_,_=>h.elim
 |some _::_,[],h,_,_,_=>h.elim
 |none::_,[],h,_,_,_=>h.elim
 |some _::_,none::_,h,_,_,_=>h.elim
theorem Inv.wk{X:Cx}{pins:List (Addr×Obj)}{σ σ':St}{H:Hp}{s:Shared}(I:Inv X pins σ H s)(h:Wk σ' σ):Inv X pins σ' H s:=I.weak h.len h.get
def QlS(J:It)(body:V->Hp->(Hp->Prop)->Prop)(Qn:Hp->Prop)(H:Hp):Prop:=
 ∃W:Nat->Nat->Hp->Prop,(∃m,W 0 m H)/\∀i m H2,W i m H2->(J.stop i H2/\Qn H2)∨(J.go i H2/\∀x H3,J.yld i H2 x H3->body x H3 λH6=>∃m',m'<m/\W (i+1) m' H6)
abbrev Act:=(Shared->Prop)->Shared->Prop
def BodyOk(Y:Cx)(σ:St)(act:Act)(b:Hp->(Hp->Prop)->Prop):Prop:=
 ∀(pins:List (Addr×Obj))(s:Shared)(H:Hp)(k:Hp->Prop)(Q:Shared->Prop),Inv Y pins σ H s->b H k->(∀s' H',Inv Y pins σ H' s'->k H'->Q s')->act Q s
theorem Qdm{Y:Cx}{σ:St}{tg:Q3}{elt:Q3}{gens:List Qf6}{scope:Qan}{cpos:Pos}{d:Nat}{it D:Addr}{fp:List Addr}{tn:Nat->Heap->Prop}{J:It}{pins:List (Addr×Obj)}{s:Shared}{H:Hp}{body:V->Hp->(Hp->Prop)->Prop}{Qn:Hp->Prop}{R:Qoh->Shared->Prop}{act:Value->Act}
  (hc:Y.calm=true)(T:Turn Y.prog Y.w Y.K tg J fp it tn)(st:tn 0 s.heap)(hf:∀b∈fp,FpOk Y pins H b)
  (hturn:∀(Q:PySem.Fin->Shared->Prop)(E:Value->Shared->Prop)(s:Shared),wpAny (model Y.prog Y.w) Y.A (pyNext (.ref it)) (λr s1=>match r with
   |none=>Q (.done .next) s1
   |some v=>wpAny (model Y.prog Y.w) Y.A (letOwnedTupleGo tg (.ref it) v) (λ_ s2=>act v (λs3=>Q (.again (.compLoop (.ListComp elt gens scope cpos) d (.ref it) (.ref D) Y.env)) s3) s2) E s1) E s ->
   wpAny (model Y.prog Y.w) Y.A (compTurn (.ListComp elt gens scope cpos) d (.ref it) (.ref D) Y.env) Q E s)
  (hact:∀(x:V)(u:Value),RelV x u->BodyOk Y σ (act u) (body x))
  (I:Inv Y pins σ H s)(h:QlS J body Qn H)(hR:∀s' H',Inv Y pins σ H' s'->Qn H'->R (.ok .next) s') :
  codeAny (model Y.prog Y.w) Y.A (.compLoop (.ListComp elt gens scope cpos) d (.ref it) (.ref D) Y.env) R s:=by
 obtain⟨W,⟨m0,w0⟩,turn⟩:=h;have stat:∀{H':Hp},(∀b∈fp,H' b=none)->∀b∈fp,FpOk Y pins H' b:=λhn b hb=>⟨hn b hb,(hf b hb).2⟩
 refine codeAny_loop rfl (λn s'=>∃i H',Inv Y pins σ H' s'/\tn i s'.heap/\(∀b∈fp,H' b=none)/\W i n H') (λn s3 hI=>?_) m0 ⟨0,H,I,st,λb hb=>(hf b hb).1,w0⟩;show wpAny _ Y.A ((compTurn (.ListComp elt gens scope cpos) d (.ref it) (.ref D) Y.env).onRaise (λx=>do noteFrame x Y.env;theTreesLotGoes x)) _ _ s3;refine wpAny_noted (hturn _ _ _ ?_);obtain⟨i,H3,I3,st3,fr3,w3⟩:=hI;rcases turn i n H3 w3 with⟨stop,qn⟩ | ⟨go,step⟩
 ·refine thn (T.done Y rfl rfl rfl hc i pins s3 σ H3 _ I3 (stat fr3) st3 stop) λr s4 ⟨hr,I4⟩=>?_
  subst hr;exact hR s4 H3 I4 qn
 ·refine thn (T.item Y rfl rfl rfl hc i pins s3 σ H3 _ I3 (stat fr3) st3 go) λr s4 ⟨u,hr,h4⟩=>?_
  subst hr;refine thn h4 λ_ s5 ⟨x,H5,I5,r5,y5,st5,fr5⟩=>?_
  have I5':=I5.pinned (stat fr5) (T.obj _ _ st5);refine hact x u r5 _ s5 H5 _ _ I5' (step x H5 y5) λs7 H7 I7 ⟨m',hm,w7⟩=>?_
  refine⟨rfl,m',hm,i+1,H7,I7.unpinned,T.keep _ _ _ st5 λb hb o e=>(I7.pin (b,o) (Jr _ (Jr _ (Qb9 hb e)))).1,λb hb=>?_,w7⟩;obtain⟨o,e,dd⟩:=T.obj _ _ st5 b hb;exact(I7.pin (b,o) (Jr _ (Jr _ (Qb9 hb e)))).2.1
abbrev QlQ (ifs:List Q3) (env:Env):Sem Bool:=forIn ifs true λc r=>if r=true then do let ok <- isTrue c env (eval c env);pure (ZJ ok) else pure (ZJ r)
def PTs(Y:Cx)(ifs:List Q3)(t:TT):Prop:=
 ∀(pins:List (Addr×Obj))(s:Shared)(σ:St)(H:Hp)(Q:Bool->Hp->Prop),Inv Y pins σ H s->t σ H Q->wpAny (model Y.prog Y.w) Y.A (QlQ ifs Y.env) (TP Y pins σ Q) Y.xe s
def QiH:TT:=λ_ H Q=>Q true H
theorem Qmj{Y:Cx}:PTs Y [] QiH:=λpins s σ H Q I h=>wpAny_tests_nil ⟨H,I,h⟩
theorem Qtz{Y:Cx}{c:Q3}{t:TT}(h:PT Y c t):PTs Y [c] t:=λpins s σ H Q I q=>wpAny_tests_one (h pins s σ H Q I q)
def Qrp(Y:Cx)(tg:Q3)(ifs:List Q3)(inner:Act):Value->Act:=λu Q s=>
 wpAny (model Y.prog Y.w) Y.A (assign tg Y.env u) (λ_ s4=>wpAny (model Y.prog Y.w) Y.A (QlQ ifs Y.env) (λok s5=>if ok=true then inner Q s5 else Q s5) (λ_ _=>False) s4) (λ_ _=>False) s
def bOf(σ:St)(g:TG)(tc:TT)(inner:St->Hp->(Hp->Prop)->Prop):V->Hp->(Hp->Prop)->Prop:=λx H k=>g x σ H λσ4 H4=>Wk σ σ4/\tc σ4 H4 λb H5=>
 if b=true then inner σ4 H5 k else k H5
theorem Qg0{Y:Cx}{σ:St}{tg:Q3}{ifs:List Q3}{g:TG}{tc:TT}{inner:Act}{ri:St->Hp->(Hp->Prop)->Prop}(hx:Y.xe=λ_ _=>False)(hg:PG Y tg g)(ht:PTs Y ifs tc)(he:∀σ4,BodyOk Y σ4 inner (ri σ4))(x:V)(u:Value)(r:RelV x u) :
  BodyOk Y σ (Qrp Y tg ifs inner u) (bOf σ g tc ri x):=by
 intro pins s H k Q I h hQ;have hx':∀(v:Value)(s':Shared),Y.xe v s'->False:=λv s' z=>by rw[hx] at z;exact z
 refine wpAny_mono (hg pins s σ H x u _ I r h) (λ_ s4 ⟨σ4,H4,I4,wk,q4⟩=>?_) hx';refine wpAny_mono (ht pins s4 σ4 H4 _ I4 q4) (λb s5 ⟨H5,I5,q5⟩=>?_) hx';cases b with
 |false=>
  rw[if_neg QD] at q5;rw[if_neg QD];exact hQ s5 H5 (I5.wk wk) q5
 |true=>
  rw[if_pos rfl] at q5;rw[if_pos rfl];exact he σ4 pins s5 H5 k Q I5 q5 λs' H' I' k'=>hQ s' H' (I'.wk wk) k'
def Qoc(Y:Cx)(elt:Q3)(D:Addr):Act:=λQ s=>wpAny (model Y.prog Y.w) Y.A (eval elt Y.env) (λv s6=>wpAny (model Y.prog Y.w) Y.A (call (.builtin "list.append") [.ref D,v]) (λ_ s7=>Q s7) (λ_ _=>False) s6) (λ_ _=>False) s
def QyH(p:Addr)(te:TE):St->Hp->(Hp->Prop)->Prop:=λσ H k=>te σ H λv H6=>∃ys,H6 p=some (.lst ys)/\ys.length<sizeLine/\k (upd H6 p (.lst (ys++[v])))
theorem Qg1{Y:Cx}{σ:St}{elt:Q3}{te:TE}{D:Addr}(hx:Y.xe=λ_ _=>False)(he:PE Y elt te):BodyOk Y σ (Qoc Y elt D) (QyH D te σ):=by
 intro pins s H k Q I h hQ;have hx':∀(v:Value)(s':Shared),Y.xe v s'->False:=λv s' z=>by rw[hx] at z;exact z
 refine wpAny_mono (he pins s σ H _ I h) (λv s6 ⟨y,H6,I6,r6,ys,e,hz,q⟩=>?_) hx';exact wpAny_mono (QhO (X:=Y) pins s6 σ H6 (.ref D) [y] (.ref D) [v] (λ_ H'=>k H') I6 rfl (.cons r6 .nil) ⟨D,ys,y,rfl,rfl,e,hz,q⟩) (λ_ s7 ⟨_,H7,I7,_,q7⟩=>hQ s7 H7 I7 q7) hx'
theorem Qju{Y:Cx}{elt tg iter:Q3}{ifs:List Q3}{scope:Qan}{cpos:Pos}{it D:Addr}(Q:PySem.Fin->Shared->Prop)(E:Value->Shared->Prop)(s:Shared)
  (h:wpAny (model Y.prog Y.w) Y.A (pyNext (.ref it)) (λr s1=>match r with
   |none=>Q (.done .next) s1
   |some v=>wpAny (model Y.prog Y.w) Y.A (letOwnedTupleGo tg (.ref it) v) (λ_ s2=>Qrp Y tg ifs (Qoc Y elt D) v (λs3=>Q (.again (.compLoop (.ListComp elt [⟨tg,iter,ifs,0⟩] scope cpos) 0 (.ref it) (.ref D) Y.env)) s3) s2) E s1) E s) :
  wpAny (model Y.prog Y.w) Y.A (compTurn (.ListComp elt [⟨tg,iter,ifs,0⟩] scope cpos) 0 (.ref it) (.ref D) Y.env) Q E s:=by
 rw[compTurn_list];refine wpAny_bind (wpAny_standAt (wpAny_bind (thn h λr s1 h1=>?_)));cases r with
 |none=>exact Qj h1
 |some v=>
  refine wpAny_bind (thn h1 λ_ s2 h2=>?_);refine wpAny_bind (wpAny_mono h2 (λ_ s4 h4=>wpAny_bind (wpAny_mono h4 (λok s5 h5=>?_) λ_ _ f=>f.elim)) λ_ _ f=>f.elim);cases ok with
  |false=>exact Qj h5
  |true=>exact wpAny_bind (wpAny_bind (wpAny_mono h5 (λx s6 h6=>wpAny_bind (wpAny_mono h6 (λ_ s7 h7=>Qj (Qj h7)) λ_ _ f=>f.elim)) λ_ _ f=>f.elim))
def tComp(cap:List (Option Nat))(wi:TI)(g:TG)(tc:TT)(te:TE):TE:=λσ H Q=>wi σ H λJ H1=>∀p,H1 p=none->QlS J (bOf (QdV cap σ) g tc (QyH p te)) (Q (.ref p)) (upd H1 p (.lst []))
theorem FpOk.upd{X:Cx}{pins:List (Addr×Obj)}{H:Hp}{b a:Addr}{o:HO}(h:FpOk X pins H b)(hne:b≠a):FpOk X pins (upd H a o) b:=⟨by rw[JM hne];exact h.1,h.2⟩
theorem QjM{X:Cx}{M:List Str}{cap:List (Option Nat)}{elt tg iter:Q3}{ifs:List Q3}{scope:Qan}{pos:Pos}{wi:TI}{g:TG}{tc:TT}{te:TE}(hc:X.calm=true)(ok:Qfs X.N X.env.scope M scope cap=true)
  (hi:PI X tg iter wi)(hb:∀cl ex s3 H3 C,PG (blk X M scope cl ex s3 H3 C) tg g/\PTs (blk X M scope cl ex s3 H3 C) ifs tc/\PE (blk X M scope cl ex s3 H3 C) elt te)
  (hs:∀x,foldedSetIterable iter X.env x=pure x:=by intro _;rfl):PE X (.ListComp elt [⟨tg,iter,ifs,0⟩] scope pos) (tComp cap wi g tc te):=by
 intro pins s σ H Q I h;have c:=CapOk.of ok;rw[eval_ListComp];refine Qcz (use:=none) rfl hs (Qjb (I.ok.cells c)) c.kind c.loc ?_
 refine thn (hi pins s σ H _ I h) λv s1 h1=>thn h1 λitv s2 h2=>?_
 obtain⟨it,fp,tn,J,H2,e,I2,T,st2,f2,hW⟩:=h2;subst e;refine Jc (Qev c.cell (by intro y hy;simp at hy) (λh₁ hns₁ hsb₁=>?_) c.kind);have I3:Inv X pins σ (upd H2 s2.heap.objs.size (.lst [])) { s2 with heap:=s2.heap.push { cls:=.type "list",data:=.seq ([]:List Value).toArray } }:=I2.lnew (t':=s2.toks) (ys:=[]) .nil (Q9 _);have lt2:∀b∈fp,b<s2.heap.objs.size:=λb hb=>by obtain⟨o,e,_⟩:=T.obj _ _ st2 b hb;exact Qq e
 have f3:∀b∈fp,FpOk X pins (upd H2 s2.heap.objs.size (.lst [])) b:=λb hb=>(f2 b hb).upd (QL (lt2 b hb))
 generalize hs3:({ s2 with heap:=s2.heap.push { cls:=.type "list",data:=.seq ([]:List Value).toArray } }:Shared)=s3 at I3;have e3:s3.heap=s2.heap.push { cls:=.type "list",data:=.seq ([]:List Value).toArray }:=by rw[<- hs3]
 have z3:s3.heap.objs.size=s2.heap.objs.size+1:=by rw[e3,Z9]
 have hk:∀b o,s3.heap.get? b=some o->h₁.get? b=some o:=λb o e=>hsb₁.extBut b o (by
  have:=Qq e;rw[e3] at this;exact QL this) (Qi _ (e3 ▸ e))
 have hn₁:h₁.Ns s3.heap.objs.size λ_=>none:=by rw[e3];exact hns₁
 have B:=Qe3 (t4:=s3.toks+([]:List (Str×Value)).length) (fp:=fp) I3 c f3 (λb hb=>by rw[z3];exact Ym (lt2 b hb)) hn₁ hk;have st4:tn 0 h₁:=T.keep _ _ _ st2 λb hb o e=>hk b o (by rw[e3];exact Qi _ e)
 have fp4:∀b∈fp,FpOk (blk X M scope (Qcf X.env scope.names []) fp s3 (upd H2 s2.heap.objs.size (.lst [])) s3.heap.objs.size) [] (upd H2 s2.heap.objs.size (.lst [])) b:=λb hb=>by
  refine⟨(f3 b hb).1,(B.ok.exf b hb).1,B.ok.exfs b hb,.inl hb,(B.ok.exf b hb).2,λp hp=>(nomatch hp)⟩
 obtain⟨hg,ht,he⟩:=hb (Qcf X.env scope.names []) fp s3 (upd H2 s2.heap.objs.size (.lst [])) s3.heap.objs.size;have loop:codeAny (model X.prog X.w) X.A (.compLoop (.ListComp elt [⟨tg,iter,ifs,0⟩] scope pos) 0 (.ref it) (.ref s2.heap.objs.size) (compEnvC scope (Qcf X.env scope.names []) s3.heap.objs.size X.env))
   (compPost (model X.prog X.w) X.A X.xe none (EP X pins σ Q) (.ref s2.heap.objs.size) s3.heap.objs.size) { s3 with heap:=h₁,toks:=s3.toks+([]:List (Str×Value)).length }:=by
  refine Qdm (Y:=blk X M scope (Qcf X.env scope.names []) fp s3 (upd H2 s2.heap.objs.size (.lst [])) s3.heap.objs.size) (gens:=[⟨tg,iter,ifs,0⟩]) (d:=0) hc T st4 fp4
   (λQ E s h=>Qju Q E s h) (λx u r=>Qg0 rfl hg ht (λσ4=>Qg1 rfl he) x u r) B (hW _ (I2.hok.fresh (Ql _))) λs' H' I' q=>?_
  obtain⟨m,hn,_⟩:=I'.loc;exact⟨m,hn,λh' hs'=>⟨.ref s2.heap.objs.size,H',Qn2 I3 f3 I' hs',rfl,q⟩⟩
 exact QdA loop (T.self _ 0 _ _ _ st4 loop)
section
variable{X:Cx}
theorem Qjh:CallR X (.builtin "isinstance") (λxs H Q=>∃x t T b,xs=[x,.ty T]/\TyOf X.K H x t/\PySem.W.kitOne X.K t (.type T)=some b/\Q (.bl b) H):=by
 intro pins s σ H xs us Q I r h;obtain⟨x,t,T,b,rfl,ty,e,q⟩:=h;obtain⟨u,v,rfl,ru,rv⟩:=vals2 r;cases(show v=YQ T from rv);exact Qnc I ru ty e λtk=>⟨.bl b,H,I.tok tk,rfl,q⟩
theorem Qrh{bs:List Bool}:∀{us:List Value},Vals (bs.map V.bl) us->LSm.BoolsAre us bs:=by
 induction bs with
 |nil=>intro us r;cases r;exact .nil
 |cons b bs ih=>
  intro us r;cases r with
  |cons r t=>
   cases(show _=ZA b from r);exact .cons b (ih t)
theorem Qrf:CallR X (.builtin "all") (λxs H Q=>∃(p:Addr)(bs:List Bool),xs=[.ref p]/\SqL X.K H p (bs.map V.bl)/\X.calm=true/\Q (.bl (bs.all id)) H):=by
 intro pins s σ H xs us Q I r h;obtain⟨p,bs,rfl,hp,hc,q⟩:=h;obtain⟨u,rfl,ru⟩:=vals1 r;cases ru;obtain⟨its,rv,pl,hz⟩:=I.list hp;have hl:=pl.isList;have hb:=Qrh rv;have hlt:p<s.heap.objs.size:=by obtain⟨_,e,_⟩:=hl;exact Qq e
 refine call_all_walk (Qcx hl ?_);refine⟨s.heap.objs.size,[s.heap.objs.size,p],[s.heap.objs.size],its.toArray.size,_,_,λi=>(bs[i]?).getD true,rfl,Walks.list (A:=X.A.in1) (I.ok.hd hc) _ p (QL hlt) its.toArray,
  ⟨⟨_,Qs _ rfl,rfl,rfl⟩,hl.push _⟩,λi v s' Q' E' hP hQ=>?_,λh' tk hk=>?_⟩
 ·obtain⟨b,e,rfl⟩:=hb.get i v (by simpa using hP);simp only[e,Option.getD_some] at hQ;exact ZV hQ
 ·have e:((Qa its.toArray.size).all λi=>(bs[i]?).getD true)=bs.all id:=by
   rw[Qm,hb.length];exact LSm.range_all bs
  rw[e];exact⟨.bl _,H,I.kept (LSm.kept_iter hk),rfl,q⟩
theorem QpA:OpR X (compareOp .Is) (λx y H Q=>∃a b,x=.bl a/\y=.bl b/\Q (.bl (a == b)) H):=by
 intro pins s σ H x y v u Q I rx ry h;obtain⟨a,b,rfl,rfl,q⟩:=h;cases(show v=ZA a from rx);cases(show u=ZA b from ry);refine is_bool ?_
 exact⟨.bl _,H,I,rfl,q⟩
def QBb:V->Option Int->Option Int->Hp->VK->Prop:=λx lo hi H Q=>∃a xs,x=.ref a/\H a=some (.tup xs)/\∀p H',Same H H'->H' p=some (.tup (Qke xs lo hi))->Q (.ref p) H'
theorem Jt{H:Hp}{p:Addr}{o:HO}(h:H p=none):Same H (upd H p o):=λb u e=>by rw[JM (ZI e h)];exact e
theorem QcL{prog:QB}{w:Jd}{A:Q1}{E:Value->Shared->Prop}{s:Shared}{t sl:Addr}{items:Array Value}{vl vu:Value}{lo hi:Option Int}{Q:Value->Shared->Prop}(ht:IsTup s.heap t items)(hs:s.heap.IsSliceOf sl vl vu .none)(pl:Qis vl lo)(pu:Qis vu hi)
  (h1:HT.sIx items.size 0 lo=0)(h2:HT.sIx items.size items.size hi=items.size)(h:Q (.ref t) s):wpAny (model prog w) A (getItem (.ref t) (.ref sl)) Q E s:=by
 obtain⟨os,hos,hcs,hds⟩:=id hs;have hTs:s.TypeIs (.ref sl) "slice" := ⟨os,hos,hcs⟩;unfold getItem
 try with_reducible refine J3 ?_
 first | refine wpAny_bind (Qj ?_) | skip
 refine wpAny_bind (Qza ht.typeIs (by decide) ?_);refine wpAny_bind (ZT (name:=Zf "__getitem__") ht.typeIs JT
  (Ze JT ht.typeIs QvY ?_ (QyP _ _)))
 show wpAny _ _ (Qd0 (.ref t) >>= _) _ _ s;refine wpAny_bind (tupleItemsOf_ ht ?_);refine wpAny_bind (QbY hTs ?_);rw[if_pos (by decide)];refine wpAny_bind (HT.Qbw hs pl pu ?_);show wpAny _ _ (if(((HT.sIx items.size 0 lo:Nat):Int) == 0&&(1:Int) == 1&&(HT.sIx items.size items.size hi - HT.sIx items.size 0 lo) == items.size)=true then _ else _) _ _ s;rw[if_pos (by rw[h1,h2];simp)];refine wpAny_bind (m:=QzD _) (wpAny_bind (QbY ht.typeIs (Qj ?_)));rw[if_pos (by decide)];exact wpAny_bind (wpAny_rule (Qj ⟨_,rfl,Qj h⟩))
theorem Qwm:SlR X QBb:=by
 intro pins s σ H x v vl vu lo hi sl Q I rx hs pl pu h;obtain⟨a,xs,rfl,hx,q⟩:=h;by_cases hw:HT.sIx xs.length 0 lo=0/\HT.sIx xs.length xs.length hi=xs.length
 ·cases rx;obtain⟨its,r,ht,hz⟩:=I.tuple (SqT.of hx);have hlen:its.toArray.size=xs.length:=by rw[Qm];exact r.length.symm
  refine⟨"tuple",_,JT.lookup,ht.typeIs,?_⟩;refine QcL ht hs pl pu (by rw[hlen];exact hw.1) (by rw[hlen];exact hw.2) ?_
  refine⟨.ref a,H,I,rfl,q a H (Same.refl H) ?_⟩;have e:Qke xs lo hi=xs:=by
   unfold Qke;rw[hw.1,hw.2];simp
  rw[e];exact hx
 ·exact Qwl pins s σ H (.ref a) v vl vu lo hi sl Q I rx hs pl pu ⟨a,xs,rfl,SqT.of hx,hw,λp hp=>q p _ (Jt hp) Jj⟩
def QwD:R2:=λx y H Q=>∃a b xs ys,x=.ref a/\y=.ref b/\H a=some (.tup xs)/\H b=some (.tup ys)/\xs.length+ys.length<=sizeLine/\∀p H',Same H H'->H' p=some (.tup (xs++ys))->Q (.ref p) H'
theorem Qum:OpR X (binaryOp .Add) QwD:=by
 intro pins s σ H x y v u Q I rx ry h;obtain⟨a,b,xs,ys,rfl,rfl,ha,hb,hz,q⟩:=h;by_cases hx:xs=[]
 ·subst hx;cases rx;cases ry;obtain⟨its,r1,p1,_⟩:=I.tuple (SqT.of ha);obtain⟨its2,r2,p2,_⟩:=I.tuple (SqT.of hb);cases r1;obtain⟨⟨cls,dd,data,sl⟩,ho,hc,n,hd⟩:=id p1;obtain⟨⟨cls2,dd2,data2,sl2⟩,ho2,hc2,n2,hd2⟩:=id p2;simp only at hc hd hc2 hd2;subst hc hd hc2 hd2;exact QsJ ⟨_,ho,rfl⟩ ⟨_,ho2,rfl⟩ Qiz Qor PySem.F.slot_tuple_add PySem.F.entry_tuple_add (PySem.F.args_tuple_add_2 _ _)
   (tuple_addW0 a b #[] its2.toArray n n2 dd dd2 sl sl2 rfl) ⟨ho,ho2,⟨.ref b,H,I,rfl,q b H (Same.refl H) hb⟩⟩
 ·exact Qul pins s σ H _ _ v u Q I rx ry ⟨a,b,xs,ys,rfl,rfl,SqT.of ha,SqT.of hb,hx,hz,λe=>q a H (Same.refl H) (by rw[e,Yj];exact ha),λ_ p hp=>q p _ (Jt hp) Jj⟩
end
end L2
namespace Rz
open Sem (wp)
section
variable{prog:QB}{w:Jd}{A:Q1}{E:Value->Shared->Prop}{s:Shared}
theorem QpG{it t:Addr}{i:Nat}{items:Array Value}{x:Value}{Q:Value->Shared->Prop}(hit:s.heap.IsTupleIter it t i)(ht:s.heap.IsTuple t items)(hx:items[i]? = some x)
  (hQ:∀h',h'.IsTupleIter it t (i+1)->Qay it s.heap h'->Q x { s with heap:=h' }):wpAny (model prog w) A (Yt (.ref it)) Q E s:=by
 obtain⟨o,ho,hc,hd⟩:=id hit;obtain⟨ol,hol,_,nl,hdl⟩:=ht;unfold Yt;refine wpAny_bind (ZT (name:=Zf "__next__") hit.typeIs Y3
  (Ze Y3 hit.typeIs QiD ?_ (Qiu _)))
 show wpAny _ _ (field (.ref it) 0 >>= _) _ _ s;refine wpAny_bind (Y1 ho hd (x:=.ref t) rfl ?_);show wpAny _ _ (if(Zn t == Js)=true then _ else _) _ _ s;rw[if_neg (show ¬((Zn t == Js)=true) from QD)];show wpAny _ _ (field (.ref it) 1 >>= _) _ _ s;refine wpAny_bind (Y1 ho hd (x:=.int i 0) rfl ?_);show wpAny _ _ (seqItems? (.ref t) >>= _) _ _ s;refine wpAny_bind (Qck hol hdl ?_);simp only[Qv,hx];refine wpAny_bind (Qcj ho hd (by simp) (Qj ⟨x,rfl,Qj (hQ _ ?_ (ZF ..))⟩));exact⟨_,JX _ ho (QcY (YH hd _)),(Qfj ..).trans hc,by
  rw[YH hd];simp[rawInt]⟩
theorem Qux{it t:Addr}{i:Nat}{items:Array Value}{Q:Value->Shared->Prop}(hh:A.handled=none)(hit:s.heap.IsTupleIter it t i)(ht:s.heap.IsTuple t items)(hx:items[i]? = none)
  (hE:∀h' e,Heap.ExtBut it s.heap h'->(∃o,h'.get? e=some o/\o.cls=.type "StopIteration")->E (.ref e) { s with heap:=h' }):wpAny (model prog w) A (Yt (.ref it)) Q E s:=by
 obtain⟨o,ho,hc,hd⟩:=id hit;obtain⟨ol,hol,_,nl,hdl⟩:=ht;unfold Yt;refine wpAny_bind (ZT (name:=Zf "__next__") hit.typeIs Y3
  (Ze Y3 hit.typeIs QiD ?_ (Qiu _)))
 show wpAny _ _ (field (.ref it) 0 >>= _) _ _ s;refine wpAny_bind (Y1 ho hd (x:=.ref t) rfl ?_);show wpAny _ _ (if(Zn t == Js)=true then _ else _) _ _ s;rw[if_neg (show ¬((Zn t == Js)=true) from QD)];show wpAny _ _ (field (.ref it) 1 >>= _) _ _ s;refine wpAny_bind (Y1 ho hd (x:=.int i 0) rfl ?_);show wpAny _ _ (seqItems? (.ref t) >>= _) _ _ s;refine wpAny_bind (Qck hol hdl ?_);simp only[Qv,hx];refine wpAny_bind (wpAny_rule (wpAny_bind (Qcj ho hd (by simp) ?_)));show wpAny _ _ (newExc (.type "StopIteration") [] >>= _) _ _ _;refine wpAny_bind ?_
 simp only[newExc,newTuple];refine wpAny_bind (Jc ?_ (by size_fits));refine wpAny_bind (m:=firstArgMember _ _) (Zy (a:=Js) (by first | rfl | (simp only[firstArgMember];rfl)) ?_);refine Jc ?_ (by size_fits)
 simp only[raiseNew];refine wpAny_bind (wpAny_handled ?_)
 first | rw[show A.in1.handled=none from hh] | rw[hh]
 refine wpAny_bind (Qj (wpAny_throw ?_));exact hE _ _ (((ZF ..).extBut.push _).push _) ⟨_,Qs _ rfl,rfl⟩
end
section
variable{prog:QB}{w:Jd}{A:Q1}{E:Value->Shared->Prop}{s:Shared}
end
end Rz
namespace L2
section
variable{X:Cx}{pins:List (Addr×Obj)}{σ:St}{H:Hp}{s:Shared}{h':Heap}
theorem Inv.turnedNew{t':Nat}{ch:List Addr}{a:Addr}{o:HO}(I:Inv X pins σ H s)(hch:∀b∈ch,FpOk X pins H b)(k:∀b u,b∉ch->s.heap.get? b=some u->h'.get? b=some u)(hp:s.heap.objs.size<=a)
  (new:ObjOk X.prog X.w (upd H a o) h' a o):Inv X pins σ (upd H a o) { s with heap:=h',toks:=t' }:=by
 have hn:H a=none:=I.hok.fresh hp;have nch:∀b u,H b=some u->b∉ch:=λb u e z=>by rw[(hch b z).1] at e;cases e
 refine I.step (g':=s.gens) (d':=s.drawn) (ch:=ch) (λb hb=>?_) (λb u _ _ hc e _=>k b u hc e) (λb u _ _ hc e _=>⟨u.slots,k b u hc e⟩) (λb u hc e n=>?_) (λb u hc e=>⟨u,k b u hc e⟩)
  (λb xs e=>by rw[JM (ZI e hn)];exact e) (λb u v e=>by rw[JM (ZI e hn)];exact e) (λb ps e=>⟨#[],by rw[JM (ZI e hn),e];simp⟩) (λm hm=>?_) (λb u e=>?_) I.bare
 ·obtain⟨f0,f1,f2,f3,f4,f5⟩:=hch b hb;exact⟨f3,f1,f4,f5⟩
 ·rw[JM (QL (QP (Qq e) hp))];exact n
 ·obtain⟨u,es,ep,ho,r⟩:=hm;exact⟨u,es,ep,k _ u (λz=>(hch _ z).2.1 rfl) ho,r⟩
 ·by_cases hb:b=a
  ·subst hb;rw[Jj] at e;cases e;exact new
  ·rw[JM hb] at e;refine(I.hok b u e).stay (λc v hc q=>k c v ?_ q) (λc q=>by rw[JM (ZI q hn)];exact q) λc xs q=>by rw[JM (ZI q hn)];exact q
   rcases hc with z | z
   ·rw[z];exact nch b u e
   ·exact nch c _ z
theorem Inv.turnedAll{t':Nat}{ch:List Addr}(I:Inv X pins σ H s)(hch:∀b∈ch,FpOk X pins H b)(k:∀b u,b∉ch->s.heap.get? b=some u->h'.get? b=some u):Inv X pins σ H { s with heap:=h',toks:=t' }:=by
 have nch:∀b u,H b=some u->b∉ch:=λb u e z=>by rw[(hch b z).1] at e;cases e
 refine I.step (g':=s.gens) (d':=s.drawn) (ch:=ch) (λb hb=>?_) (λb u _ _ hc e _=>k b u hc e) (λb u _ _ hc e _=>⟨u.slots,k b u hc e⟩) (λb u hc e n=>n) (λb u hc e=>⟨u,k b u hc e⟩)
  (λb xs e=>e) (λb u v e=>e) (λb ps e=>⟨#[],by rw[e];simp⟩) (λm hm=>?_) (λb u e=>?_) I.bare
 ·obtain⟨f0,f1,f2,f3,f4,f5⟩:=hch b hb;exact⟨f3,f1,f4,f5⟩
 ·obtain⟨u,es,ep,ho,r⟩:=hm;exact⟨u,es,ep,k _ u (λz=>(hch _ z).2.1 rfl) ho,r⟩
 ·refine(I.hok b u e).stay (λc v hc q=>k c v ?_ q) (λc q=>q) λc xs q=>q
  rcases hc with z | z
  ·rw[z];exact nch b u e
  ·exact nch c _ z
end
section
variable{X:Cx}
end
end L2
namespace Rk
open L2
def QA5:Option HO->Option (List V)
 |some (.tup xs)=>some xs
 |_=>none
def Qez(H:Hp):V->Option (List V)
 |.ref a=>QA5 (H a)
 |_=>none
theorem tupOf_at(H:Hp)(a:Addr):Qez H (.ref a)=QA5 (H a):=rfl
def isT(H:Hp)(x:V):Bool:=(Qez H x).isSome
def isI:V->Bool
 |.int _=>true
 |_=>false
def Kn(p:Addr)(H:Hp):V->Prop
 |.non=>True
 |.bl _=>True
 |.int _=>True
 |.str _=>True
 |.ref a=>a≠p/\((∃xs,H a=some (.tup xs))∨(∃xs,H a=some (.lst xs))∨∃kvs,H a=some (.dK kvs))
 |_=>False
def KnD(p:Addr):Nat->Hp->V->Prop
 |0,H,x=>Kn p H x
 |n+1,H,x=>Kn p H x/\∀xs,Qez H x=some xs->∀y∈xs,KnD p n H y
def KX(p:Addr)(H H':Hp):Prop:=∀b o,b≠p->H b=some o->H' b=some o
theorem KX.trans{p:Addr}{H H1 H2:Hp}(a:KX p H H1)(b:KX p H1 H2):KX p H H2:=λc o h e=>b c o h (a c o h e)
theorem KX.of{p:Addr}{H H':Hp}(h:Same H H'):KX p H H':=λb o _ e=>h b o e
theorem KX.upd{p:Addr}{H:Hp}{o:HO}:KX p H (upd H p o):=λb u n e=>by rw[JM n];exact e
theorem KX.new{p q:Addr}{H:Hp}{o:HO}(h:H q=none):KX p H (L2.upd H q o):=KX.of (Jt h)
theorem QvR{p:Addr}{H H':Hp}(k:KX p H H'):∀{x:V},Kn p H x->Qez H' x=Qez H x
 |.non,h=>rfl
 |.bl _,h=>rfl
 |.int _,h=>rfl
 |.str _,h=>rfl
 |.ref a,⟨n,h⟩=>by
  rcases h with⟨xs,e⟩ | ⟨xs,e⟩ | ⟨xs,e⟩<;>rw[tupOf_at,tupOf_at,e,k a _ n e]
 |.byt _,h=>h.elim
 |.flt _,h=>h.elim
 |.ty _,h=>h.elim
theorem KnD.low{p:Addr}{H:Hp}:∀{n:Nat}{x:V},KnD p (n+1) H x->KnD p n H x
 |0,x,h=>h.1
 |n+1,x,h=>⟨h.1,λxs e y hy=>KnD.low (h.2 xs e y hy)⟩
theorem KnD.tup{p:Addr}{H:Hp}{n:Nat}{a:Addr}{xs:List V}(hp:a≠p)(e:H a=some (.tup xs))(h:∀y∈xs,KnD p n H y):KnD p (n+1) H (.ref a):=
 ⟨⟨hp,.inl ⟨xs,e⟩⟩,λys z y hy=>h y (by
  have z':some xs=some ys:=by rw[<- z,tupOf_at,e];rfl
  cases z';exact hy)⟩
theorem Qhr{H:Hp}{a:Addr}{xs:List V}(e:H a=some (.tup xs)):Qez H (.ref a)=some xs:=by rw[tupOf_at,e];rfl
def Qsj(H:Hp)(x:V):List Int:=((Qez H x).getD []).map λy=>match y with
 |.int i=>i
 |_=>0
def IntsT(H:Hp)(x:V)(ns:List Int):Prop:=∃a,x=.ref a/\H a=some (.tup (ns.map V.int))
theorem IntsT.eq{H:Hp}{x:V}{ns:List Int}(h:IntsT H x ns):Qsj H x=ns:=by
 obtain⟨a,rfl,e⟩:=h;unfold Qsj;rw[Qhr e];show(ns.map V.int).map _=ns;rw[QV];exact Qb2 _
theorem QgZ:bootBuiltins "isinstance" = some (.builtin "isinstance"):=by decide +kernel
theorem QyD:bootBuiltins "int" = some (.type "int"):=by decide +kernel
theorem Qvs:bootBuiltins "bool" = some (.type "bool"):=by decide +kernel
theorem Qam:bootBuiltins "tuple" = some (.type "tuple"):=by decide +kernel
theorem Qji:bootBuiltins "list" = some (.type "list"):=by decide +kernel
theorem QyE:bootBuiltins "all" = some (.builtin "all"):=by decide +kernel
theorem QbW:bootBuiltins "len" = some (.builtin "len"):=by decide +kernel
theorem QsB:bootBuiltins "max" = some (.builtin "max"):=by decide +kernel
theorem QnZ:bootBuiltins "min" = some (.builtin "min"):=by decide +kernel
end Rk
namespace L2
theorem QeO{J:It}{body:V->Hp->(Hp->Prop)->Prop}{Qn:Hp->Prop}{H:Hp}(n:Nat)(Pv:Nat->Hp->Prop)(h0:Pv 0 H)
  (hs:∀i H2,i<n->Pv i H2->J.go i H2/\∀x H3,J.yld i H2 x H3->∀k:Hp->Prop,(∀H6,Pv (i+1) H6->k H6)->body x H3 k)(hd:∀H2,Pv n H2->J.stop n H2/\Qn H2):QlS J body Qn H:=by
 refine⟨λi m H=>m=n - i/\i<=n/\Pv i H,⟨n,by simp,Q9 _,h0⟩,?_⟩;rintro i m H2 ⟨rfl,hi,p⟩;by_cases hlt:i<n
 ·obtain⟨go,st⟩:=hs i H2 hlt p;exact .inr ⟨go,λx H3 y=>st x H3 y _ λH6 p6=>⟨n - (i+1),by omega,rfl,hlt,p6⟩⟩
 ·have e:i=n:=by omega
  subst e;exact .inl (hd H2 p)
end L2
namespace Rk
open L2
def Qc5(K:PySem.W.Frag):Sp:=λvs H Q _=>∃a ns k,vs=[.ref a,.int k]/\SqL K H a ((ns:List Int).map V.int)/\ns.length<2^20/\0<=k/\∀c,Q (.int c) H
def Qwk:Sp:=λvs H Q _=>∃c,vs=[.int c]/\∀p n,H p=none->Q (.ref p) (upd H p (.lst [.int n]))
def Cs(p:Addr)(H:Hp):List V->List (Int×Int)->Prop:=Qbc λx ij=>∃d,d≠p/\x=.ref d/\H d=some (.tup [.int ij.1,.int ij.2])
theorem Cs.mem{p:Addr}{H:Hp}:∀{ps:List V}{L:List (Int×Int)},Cs p H ps L->∀x∈ps,∃ij∈L,∃d,d≠p/\x=.ref d/\H d=some (.tup [.int ij.1,.int ij.2])
 |_,_,.nil,x,h=>nomatch h
 |_,_,.cons r t,x,h=>by
  rcases Qz.mp h with e | e
  ·subst e;exact⟨_,Zj,r⟩
  ·obtain⟨ij,m,q⟩:=Cs.mem t x e;exact⟨ij,Ju _ m,q⟩
def QyN(a b:Int×Int):Prop:=a.1<b.1∨(a.1=b.1/\a.2<b.2)
structure Good (h w:Int) (L:List (Int×Int)):Prop where
 asc:L.Pairwise QyN
 ins:∀x∈L,0<=x.1/\x.1<h/\0<=x.2/\x.2<w
 len:L.length<=36
structure QA3 (p:Addr) (H:Hp) (q:Addr) (h w:Int) (L:List (Int×Int)):Prop where
 ne:q≠p
 it:∃c ps,c≠p/\H q=some (.tup [.int h,.int w,.ref c])/\H c=some (.tup ps)/\Cs p H ps L
 h1:1<=h
 h6:h<=6
 w1:1<=w
 w6:w<=6
 good:Good h w L
theorem Qka(x:Int){m:Int}(h:0<m):0<=x % m/\x % m<m:=⟨Qv3 _ (by omega),QrE _ h⟩
def notStar:Q3->Bool
 |.Starred _ _=>false
 |_=>true
theorem Z7{e:Q3}{es:List Q3}{env:Env}(h:notStar e=true):starEach (e::es) env=(false,eval e env)::starEach es env:=by
 cases e<;>first | rfl | cases h
section
variable{X:Cx}
theorem QdO{e:Q3}{es:List Q3}{te:TE}{t:TA}(ha:PE X e te)(hr:PA X es t)(hs:notStar e=true:=by rfl):PA X (e::es) (Qc2 te t):=Y8 ha hr (Z7 hs)
inductive PEs (X:Cx):List Q3->List TE->Prop
 |nil:PEs X [] []
 |cons {e es te ts}:PE X e te->notStar e=true->PEs X es ts->PEs X (e::es) (te::ts)
def QA8:List TE->TA
 |[]=>Qom
 |t::ts=>Qc2 t (QA8 ts)
theorem PEs.pa{es:List Q3}{ts:List TE}(h:PEs X es ts):PA X es (QA8 ts):=by
 induction h with
 |nil=>exact Zv
 |cons a s _ ih=>exact QdO a ih s
end
def Sm(H:Hp)(x:V):Prop:=∀ps,Qez H x=some ps->ps.length<sizeLine
def Part(p:Addr)(H:Hp)(x:V):Prop:=KnD p 2 H x/\Sm H x
def QyM(p:Addr)(H:Hp)(x:V):Prop:=KnD p 3 H x/\Sm H x/\∀xs,Qez H x=some xs->∀y∈xs,Sm H y
theorem Qwa{H:Hp}{a:Addr}{xs ys:List V}(e:H a=some (.tup xs))(z:Qez H (.ref a)=some ys):ys=xs:=by
 rw[Qhr e] at z;cases z;rfl
theorem Part.tup{p:Addr}{H:Hp}{a:Addr}{xs:List V}(hp:a≠p)(e:H a=some (.tup xs))(hl:xs.length<sizeLine)(h:∀y∈xs,KnD p 1 H y):Part p H (.ref a):=
 ⟨KnD.tup hp e h,λps z=>by rw[Qwa e z];exact hl⟩
theorem QpJ{H:Hp}{p q:Addr}{o:HO}(e:H p=some o)(h:H q=none):q≠p:=λz=>by rw[z,e] at h;cases h
theorem Qar{n:Nat}(h:n<=1000):n<sizeLine:=YI h (by decide)
def Fine(p:Addr):Nat->Hp->V->Prop
 |0,H,x=>Kn p H x/\Sm H x
 |n+1,H,x=>Kn p H x/\Sm H x/\∀xs,Qez H x=some xs->∀y∈xs,Fine p n H y
theorem Fine.sm{p:Addr}{H:Hp}{x:V}:∀{n:Nat},Fine p n H x->Sm H x
 |0,h=>h.2
 |_+1,h=>h.2.1
theorem Fine.knd{p:Addr}{H:Hp}:∀{n:Nat}{x:V},Fine p n H x->KnD p n H x
 |0,_,h=>h.1
 |_+1,_,h=>⟨h.1,λxs e y hy=>(h.2.2 xs e y hy).knd⟩
theorem Fine.thing{p:Addr}{H:Hp}{x:V}(h:∀n,Fine p n H x):QyM p H x:=⟨(h 3).knd,(h 0).2,λxs e y hy=>((h 1).2.2 xs e y hy).2⟩
section
variable{X:Cx}
end
def QiJ:Sp:=λvs H Q _=>∃p n f,vs=[.ref p,.int f]/\H p=some (.lst [.int n])/\0<f/\f<1073741824/\∀r H' m,KX p H H'->H' p=some (.lst [.int m])->0<=r->r<f->Q (.int r) H'
def QzI(t:TA):TE:=λσ H Q=>t σ H λxs H1=>xs.length<=1000/\∀a H2,Same H1 H2->H1 a=none->H2 a=some (.tup xs)->Q (.ref a) H2
def QzN(t:TA):TE:=λσ H Q=>t σ H λxs H1=>xs.length<=1000/\∀a H2,Same H1 H2->H1 a=none->H2 a=some (.lst xs)->Q (.ref a) H2
section
variable{X:Cx}
theorem QtJ{es:List Q3}{t:TA}{x1}{pos:Pos}(h:PA X es t):PE X (.Tuple es x1 pos) (QzI t):=by
 intro pins s σ H Q I hq;refine wpAny_Tuple_spliced (thn (h pos pins s σ H _ I hq) λus s1 ⟨xs,H1,I1,r,z,q⟩=>⟨by rw[<- r.length];exact J4 (Qar z),?_⟩);have hf:H1 s1.heap.objs.size=none:=I1.hok.fresh (Ql _);refine⟨.ref s1.heap.objs.size,upd H1 s1.heap.objs.size (.tup xs),I1.laid (t':=s1.toks) (λb u e=>Qi _ e) (Ql _) ?_,rfl,q _ _ (Jt hf) hf Jj⟩;exact⟨J4 (Qar z),us,r,⟨_,Qs _ rfl,rfl,rfl,_,rfl⟩⟩
theorem QtK{es:List Q3}{t:TA}{pos:Pos}(h:PA X es t):PE X (.List es pos) (QzN t):=by
 intro pins s σ H Q I hq;refine QyO (thn (h pos pins s σ H _ I hq) λus s1 ⟨xs,H1,I1,r,z,q⟩=>⟨by rw[<- r.length];exact J4 (Qar z),?_⟩);have hf:H1 s1.heap.objs.size=none:=I1.hok.fresh (Ql _);refine⟨.ref s1.heap.objs.size,upd H1 s1.heap.objs.size (.lst xs),I1.laid (t':=s1.toks) (λb u e=>Qi _ e) (Ql _) ?_,rfl,q _ _ (Jt hf) hf Jj⟩;exact⟨J4 (Qar z),us,0,r,Qs _ rfl⟩
end
def FineA(p:Addr)(H:Hp)(x:V):Prop:=∀n,Fine p n H x
theorem FineA.thing{p:Addr}{H:Hp}{x:V}(h:FineA p H x):QyM p H x:=Fine.thing h
end Rk
namespace Rx
open PySem.Calls L2 PySem.W Builtin Builtin.ObjectAttr Builtin.Getset_descriptor
def ExAt(a C:Addr)(h:Heap):Prop:=∃o vs,h.get? a=some o/\o.cls=.ref C/\o.data=.fields vs
theorem ExAt.ty{M:Qzu}{h:Heap}{a C:Addr}(x:ExAt a C h):Looks M h (typeOf (.ref a)) (.ref C):=by
 obtain⟨o,vs,e,c,_⟩:=x;exact c ▸ (Looks.ld e).andThen .now
section
variable{prog:QB}{w:Jd}{A:Q1}{E:Value->Shared->Prop}{s:Shared}{K:PySem.W.Frag}{a C:Addr}
end
end Rx
namespace Rx
open PySem.Calls L2
section
variable{X:Cx}{E:XK}{C:Addr}{x:Str}{e0:Q3}{te:TE}{np cpos pos:Pos}
end
section
variable{X:Cx}{pins:List (Addr×Obj)}{σ:L2.St}{H:Hp}{s:Shared}
end
def XP(X:Cx)(pins:List (Addr×Obj))(Ex:L2.St->Addr->Hp->Prop)(e:Value)(s1:Shared):Prop:=
 ∃(σ:L2.St)(C:Addr)(H':Hp)(a t:Addr)(B:Heap),e=.ref a/\Heap.FlyingW B X.stack a (.ref C) (.ref t) s1.heap/\H' a=none/\X.s₀.heap.get? a=none/\(∀p∈X.pn++pins,p.1≠a) /\
  (∀(h2:Heap)(tk:Nat),B.StaysIn h2->s1.heap.UpToSlots h2->Inv X pins σ H' { s1 with heap:=h2,toks:=tk })/\Ex σ C H'
section
variable{X:Cx}{k:Nat}{f:Addr}{fd:Q0}{ps:List Str}{sp:Sp}{x:Str}{p pos:Pos}{e:Q3}{es:List Q3}{t:TA}
end
section
variable{X:Cx}{R:Addr}{i:Nat}{n r:Str}{call hx:Q3}{tc:TX}{th:TE}{rp np hp hpos pos:Pos}
end
section
variable{P:QB}{w:Jd}{K:PySem.W.Frag}{mg:Str->Option Value}{base:Heap}
end
section
variable{X:Cx}{k:Nat}{f:Addr}{fd:Q0}{ps:List Str}{sp:Sp}{x:Str}{p pos:Pos}{e:Q3}{es:List Q3}{t:TA}
end
section
variable{X:Cx}
theorem bools_eq{bs:List Bool}{us:List Value}(r:Vals (bs.map V.bl) us):us=bs.map ZA:=by
 induction bs generalizing us with
 |nil=>cases r;rfl
 |cons b bs ih=>
  cases r with
  |cons r t=>
   cases(show _=ZA b from r);rw[ih t];rfl
def Qi2:Value->Bool
 |.bool b=>b
 |_=>false
theorem Qk1(bs:List Bool):(bs.map ZA).countP Qi2=bs.countP id:=by
 rw[JW];exact Zd λb _=>Iff.rfl
def Qts:V->List V->Hp->VK->Prop:=λx vs H Q=>∃(l:Addr)(bs:List Bool),x=.ref l/\vs=[.bl true]/\H l=some (.lst (bs.map V.bl))/\Q (.int (bs.countP id:Nat)) H
theorem mt_count:MtR X "list.count" Qts:=by
 intro pins s σ H x vs v us Q I rx rv h;obtain⟨l,bs,rfl,rfl,hH,q⟩:=h;cases rx;obtain⟨u,rfl,ru⟩:=rv.one;cases(show u=ZA true from ru);obtain⟨z,its,n,r,hl,e⟩:=I.lstM hH;have hi:=bools_eq r;subst hi;refine QaK Qv4 ⟨_,e,rfl⟩ QvO (QsU _ _) (Qog l (bs.map ZA).toArray n none #[] (.bool true) Qi2) ⟨e,λy hy=>?_,?_⟩
 ·obtain⟨b,_,rfl⟩:=QQ.mp (Yv.mp hy);have:=SeqAt.EqAt.bool_bool (A:=X.A.in1) (s:=s) b true;rw[show(b == true)=b by cases b<;>rfl] at this;exact this
 ·have e2:((bs.map ZA).toArray.toList.countP Qi2:Nat)=bs.countP id:=Qk1 bs;rw[e2];exact⟨.int (bs.countP id:Nat),H,I.tok _,⟨_,rfl⟩,q⟩
end
end Rx
namespace Rd
open L2
mutual
inductive Dat (H:Hp):V->Qb->Prop
 |non:Dat H .non .none
 |bl (b:Bool):Dat H (.bl b) (.bool b)
 |int (i:Int):Dat H (.int i) (.int i)
 |str (x:Str):Qbb (.str x)=true->Dat H (.str x) (.str x)
 |tup {a:Addr} {xs:List V} {ds:List Qb}:H a=some (.tup xs)->Dats H xs ds->Dat H (.ref a) (.tuple ds)
 |lst {a:Addr} {xs:List V} {ds:List Qb}:H a=some (.lst xs)->Dats H xs ds->Dat H (.ref a) (.list ds)
inductive Dats (H:Hp):List V->List Qb->Prop
 |nil:Dats H [] []
 |cons {x:V} {xs:List V} {d:Qb} {ds:List Qb}:Dat H x d->Dats H xs ds->Dats H (x::xs) (d::ds)
end
mutual
theorem ZU{P:QB}{w:Jd}{H:Hp}{h:Heap}(ok:HOk P w H h):∀(d:Qb)(x:V)(v:Value),Dat H x d->RelV x v->(∃as,Qew h v d as)/\d.canLay0=true
 |.none,_,v,.non,r=>by cases r;exact⟨⟨_,.none⟩,rfl⟩
 |.bool b,_,v,.bl _,r=>by cases r;exact⟨⟨_,.bool b⟩,rfl⟩
 |.int i,_,v,.int _,r=>by obtain⟨t,rfl⟩:=r;exact⟨⟨_,.int i t⟩,rfl⟩
 |.str z,_,v,.str _ c,r=>by obtain⟨t,rfl⟩:=r;exact⟨⟨_,.str z t⟩,c⟩
 |.tuple ds,_,v,.tup (a:=a) (xs:=xs) e q,r=>by
  cases r;obtain⟨_,its,rv,o,ho,hc,_,n,hd⟩:=ok a _ e;obtain⟨⟨as,ra⟩,cl⟩:=Y0 ok ds xs its q rv;exact⟨⟨as,.tuple ho hc hd ra⟩,cl⟩
 |.list ds,_,v,.lst (a:=a) (xs:=xs) e q,r=>by
  cases r;obtain⟨_,its,n,rv,ho⟩:=ok a _ e;obtain⟨⟨as,ra⟩,cl⟩:=Y0 ok ds xs its q rv;exact⟨⟨a::as,.list ho rfl rfl ra⟩,cl⟩
 |.dict _,_,_,q,_=>nomatch q
theorem Y0{P:QB}{w:Jd}{H:Hp}{h:Heap}(ok:HOk P w H h):∀(ds:List Qb)(xs:List V)(vs:List Value),Dats H xs ds->Vals xs vs->(∃as,Qau h vs ds as)/\Q8 ds=true
 |[],_,vs,.nil,r=>by cases r;exact⟨⟨_,.nil⟩,rfl⟩
 |d::ds,_,vs,.cons (x:=x) (xs:=xs) q qs,r=>by
  cases r with
  |cons r rs=>
   obtain⟨⟨a1,r1⟩,c1⟩:=ZU ok d x _ q r;obtain⟨⟨a2,r2⟩,c2⟩:=Y0 ok ds xs _ qs rs;exact⟨⟨_,.cons r1 r2⟩,by simp[Q8,c1,c2]⟩
end
mutual
theorem Qkc{H H':Hp}(s:Same H H'):∀(d:Qb)(x:V),Dat H x d->Dat H' x d
 |.none,_,.non=>.non
 |.bool _,_,.bl _=>.bl _
 |.int _,_,.int _=>.int _
 |.str _,_,.str _ c=>.str _ c
 |.tuple ds,_,.tup (xs:=xs) e q=>.tup (s _ _ e) (QeZ s ds xs q)
 |.list ds,_,.lst (xs:=xs) e q=>.lst (s _ _ e) (QeZ s ds xs q)
 |.dict _,_,q=>nomatch q
theorem QeZ{H H':Hp}(s:Same H H'):∀(ds:List Qb)(xs:List V),Dats H xs ds->Dats H' xs ds
 |[],_,.nil=>.nil
 |d::ds,_,.cons (x:=x) (xs:=xs) q qs=>.cons (Qkc s d x q) (QeZ s ds xs qs)
end
theorem Dat.same{H H':Hp}{x:V}{d:Qb}(q:Dat H x d)(s:Same H H'):Dat H' x d:=Qkc s d x q
theorem Dats.length{H:Hp}:∀{xs:List V}{ds:List Qb},Dats H xs ds->xs.length=ds.length
 |_,_,.nil=>rfl
 |_,_,.cons _ q=>by rw[Qt,Qt,q.length]
section
variable{X:Cx}
def QB2(X:Cx):R2:=λx y H Q=>∃dx dy,Dat H x dx/\Dat H y dy/\X.A.units+min dx.depth dy.depth<cLine/\Q (.bl (QC dx dy)) H
theorem Qxu:OpR X (compareOp .Eq) (QB2 X):=by
 intro pins s σ H x y v u Q I rx ry h;obtain⟨dx,dy,qx,qy,hu,q⟩:=h;obtain⟨⟨as,ra⟩,ca⟩:=ZU I.hok dx x v qx rx;obtain⟨⟨bs,rb⟩,cb⟩:=ZU I.hok dy y u qy ry;exact SeqAt.compareEq_reads ra rb ca cb hu ⟨.bl _,H,I,rfl,q⟩
open Classical in
noncomputable def eqH (h:Heap) (d:Qb) (y:Value):Bool:=decide (∃e as,Qew h y e as/\e.canLay0=true/\QC e d=true)
open Classical in
theorem QAJ{h:Heap}{d:Qb}{y:Value}(q:∃e as,Qew h y e as/\e.canLay0=true/\QC e d=true):eqH h d y=true:=by
 unfold eqH;exact decide_eq_true q
open Classical in
theorem QAK{h:Heap}{d:Qb}{y:Value}(q:¬ ∃e as,Qew h y e as/\e.canLay0=true/\QC e d=true):eqH h d y=false:=by
 unfold eqH;exact decide_eq_false q
theorem QnA{h:Heap}{d e:Qb}{y:Value}{as:List Addr}(r:Qew h y e as)(c:e.canLay0=true):eqH h d y=QC e d:=by
 cases q:QC e d with
 |true=>exact QAJ ⟨e,as,r,c,q⟩
 |false=>
  refine QAK λ⟨e',as',r',c',q'⟩=>?_
  rw[<- SeqAt.Reads.unique e e' y as as' c r r',q] at q';cases q'
theorem Qe5{h:Heap}{d:Qb}:∀{vs:List Value}{ds:List Qb}{as:List Addr},Qau h vs ds as->Q8 ds=true->vs.any (eqH h d)=ds.any λe=>QC e d
 |_,_,_,.nil,_=>rfl
 |_,_,_,.cons r rs,c=>by
  simp only[Q8,JK] at c;rw[QyV,QyV,QnA r c.1,Qe5 rs c.2]
theorem QdQ{A:Q1}{s:Shared}{d:Qb}{v:Value}{bs:List Addr}(rv:Qew s.heap v d bs)(cv:d.canLay0=true):∀{vs:List Value}{ds:List Qb}{as:List Addr},Qau s.heap vs ds as->Q8 ds=true->A.units+d.depth<cLine ->
  ∀u∈vs,SeqAt.EqAt A s u v (eqH s.heap d u)
 |_,_,_,.nil,_,_=>λu hu=>nomatch hu
 |_,_,_,.cons (d:=e) r rs,c,hu=>λu hm=>by
  simp only[Q8,JK] at c;rcases Qz.mp hm with z | z
  ·subst z;rw[QnA r c.1];exact Qfg e d A s _ v _ bs r rv c.1 cv (YI (Nat.add_le_add_left (Qf4 _ _) _) hu)
  ·exact QdQ rv cv rs c.2 hu u z
def QBi(X:Cx)(neg:Bool):R2:=λx y H Q=>∃c ps ds d,y=.ref c/\H c=some (.tup ps)/\Dats H ps ds/\Dat H x d/\X.A.in1.units+d.depth<cLine/\Q (.bl (if neg then !(ds.any λe=>QC e d) else ds.any λe=>QC e d)) H
theorem Qxq:OpR X (compareOp .In) (QBi X false):=by
 intro pins s σ H x y v u Q I rx ry h;obtain⟨c,ps,ds,d,rfl,hc,qs,qx,hu,q⟩:=h;cases ry;obtain⟨⟨as,ra⟩,ca⟩:=ZU I.hok d x v qx rx;obtain⟨_,its,rv,tp⟩:=I.hok c _ hc;have tp:=TupN.tup tp;obtain⟨⟨bs,rb⟩,cb⟩:=Y0 I.hok ds ps its qs rv;refine SeqAt.in_tupleAt (eqH s.heap d) tp (λw hw=>QdQ ra ca rb cb hu w (Yv.mp hw)) ⟨.bl _,H,I,rfl,?_⟩;rw[show its.toArray.any (eqH s.heap d)=its.any (eqH s.heap d) by simp,Qe5 rb cb];exact q
theorem QmC:OpR X (compareOp .NotIn) (QBi X true):=by
 intro pins s σ H x y v u Q I rx ry h;obtain⟨c,ps,ds,d,rfl,hc,qs,qx,hu,q⟩:=h;cases ry;obtain⟨⟨as,ra⟩,ca⟩:=ZU I.hok d x v qx rx;obtain⟨_,its,rv,tp⟩:=I.hok c _ hc;have tp:=TupN.tup tp;obtain⟨⟨bs,rb⟩,cb⟩:=Y0 I.hok ds ps its qs rv;refine SeqAt.notIn_tupleAt (eqH s.heap d) tp (λw hw=>QdQ ra ca rb cb hu w (Yv.mp hw)) ⟨.bl _,H,I,rfl,?_⟩;rw[show its.toArray.any (eqH s.heap d)=its.any (eqH s.heap d) by simp,Qe5 rb cb];exact q
end
section
variable{X:Cx}
end
end Rd
namespace L2
def Ite(l:Addr):It:=
 ⟨λi H=>∃xs x,H l=some (.lst xs)/\xs[i]? = some x,
  λi H v H'=>∃p x,H p=none/\(∀xs,H l=some (.lst xs)->xs[i]? = some x)/\v=.ref p/\H'=upd H p (.tup [.int (i:Nat),x]),
  λi H=>∃xs,H l=some (.lst xs)/\xs.length<=i⟩
theorem QlN{P:QB}{w:Jd}{K:PySem.W.Frag}{elts:List Q3}{x1}{tpos:Pos}{e it l:Addr}(hne:e≠it) :
  Turn P w K (.Tuple elts x1 tpos) (Ite l) [e,it] e (λi h=>(∃old,IsEnum h e it (i:Nat) old)/\h.IsListIter it l i) where
 mem:=by simp
 obj:=λi h st b hb=>by
  obtain⟨⟨old,a1⟩,⟨o2,a2,_,d2⟩⟩:=st;simp only[Qz,JJ,or_false] at hb;rcases hb with rfl | rfl
  ·exact⟨_,a1,λv q=>nomatch q⟩
  ·exact⟨_,a2,λv q=>by rw[d2] at q;cases q⟩
 keep:=λi h h' st k=>by
  obtain⟨⟨old,a1⟩,⟨o2,a2,c2⟩⟩:=st;exact⟨⟨old,k e (by simp) _ a1⟩,o2,k it (by simp) _ a2,c2⟩
 item:=by
  intro X hP hw hK hc i pins s σ H E I hf st hg;subst hP hw hK;obtain⟨xs,x,h1,hx⟩:=hg;obtain⟨⟨old,a1⟩,a2⟩:=st;obtain⟨its,r1,p1,_⟩:=I.list (SqL.of h1);obtain⟨u,hu,ru⟩:=r1.get hx;refine wpAny_pyNext_enum_item a1 a2 p1.isList (x:=u) (by simpa using hu) hne λh' o' l' tp sz kp=>?_
  have fr:H s.heap.objs.size=none:=I.hok.fresh (Ql _);have n1:e≠s.heap.objs.size:=QL (Qq a1);have n2:it≠s.heap.objs.size:=by
   obtain⟨o2,a2,_⟩:=a2;exact QL (Qq a2)
  refine⟨_,rfl,Qle o' λh2 e2 s2=>?_⟩;have I1:Inv X pins σ (upd H s.heap.objs.size (.tup [.int (i:Nat),x])) { s with heap:=h2,toks:=s.toks+1 }:=by
   refine I.turnedNew (ch:=[e,it]) hf (λb v hb q=>?_) (Ql _) ⟨by show 2<=sizeLine;decide,[.int (i:Nat) s.toks,u],.cons ⟨_,rfl⟩ (.cons ru .nil),?_⟩
   ·simp only[Qz,JJ,or_false,not_or] at hb;exact s2.extBut _ _ hb.1 (kp b v hb.1 hb.2 q)
   ·exact⟨_,s2.extBut _ _ n1.symm tp,rfl,rfl,0,rfl⟩
  refine⟨.ref s.heap.objs.size,_,I1,rfl,⟨_,x,fr,λxs' q=>?_,rfl,rfl⟩,⟨⟨u,e2⟩,?_⟩,λb hb=>?_⟩
  ·rw[h1] at q;cases q;exact hx
  ·exact l'.extBut s2.extBut hne.symm
  ·simp only[Qz,JJ,or_false] at hb;rcases hb with rfl | rfl
   ·rw[JM n1];exact(hf _ (by simp)).1
   ·rw[JM n2];exact(hf _ (by simp)).1
 done:=by
  intro X hP hw hK hc i pins s σ H E I hf st hg;subst hP hw hK;obtain⟨xs,h1,he⟩:=hg;obtain⟨⟨old,a1⟩,a2⟩:=st;obtain⟨its,r1,p1,_⟩:=I.list (SqL.of h1);have l1:=r1.length;refine wpAny_pyNext_enum_end (I.ok.hd hc) a1 a2 p1.isList (by simp;omega) λh' kp=>⟨rfl,I.turnedAll (t':=s.toks) (ch:=[e,it]) hf λb v hb q=>?_⟩
  simp only[Qz,JJ,or_false,not_or] at hb;exact kp b v hb.2 q
 self:=λ_ _ _ _ _ st h=>by
  obtain⟨⟨old,a1⟩,_⟩:=st;exact Qcy a1 h
def QAG(ta:TA):TI:=λσ H R=>ta σ H λvs H1=>∃l xs,vs=[.ref l]/\H1 l=some (.lst xs)/\R (Ite l) H1
theorem Qie:bootBuiltins "enumerate" = some (.type "enumerate"):=by decide +kernel
section
variable{X:Cx}
theorem QtG{a:Q3}{elts:List Q3}{x1}{tpos:Pos}{ta:TA}{p pos:Pos}(hg:Gl X "enumerate")(hm:X.mg "enumerate" = none)(ha:PA X [a] ta)(hs:starEach [a] X.env=[(false,eval a X.env)]:=by rfl) :
  PI X (.Tuple elts x1 tpos) (.Call (.Name "enumerate" p) [a] [] pos) (QAG ta):=by
 intro pins s σ H R I h;refine Call_ (Qdi I hg hm Qie (Zb (thn (ha pos pins s σ H _ I h) λus s1 ⟨vs,H1,I1,r1,q1⟩=>?_) hs rfl));obtain⟨l,xs,e,h1,q⟩:=q1;subst e;obtain⟨u,rfl,ru⟩:=vals1 r1;cases(show u=Zn l from ru);obtain⟨its,w1,p1,_⟩:=I1.list (SqL.of h1);refine call_enumerate_list p1.isList λh' e1 i1 sz kp=>?_
 refine Qcy (s:={ s1 with heap:=h' }) e1 ?_
 refine⟨s1.heap.objs.size+1,_,_,_,H1,rfl,I1.kept (t':=s1.toks) kp,QlN (by show ¬(s1.heap.objs.size+1=s1.heap.objs.size);omega),⟨⟨_,e1⟩,i1⟩,λb hb=>?_,q⟩;have hb':s1.heap.objs.size<=b:=by
  simp only[Qz,JJ,or_false] at hb;rcases hb with rfl | rfl<;>omega
 exact I1.fpOk hb' (I1.hok.fresh hb')
end
section
variable{prog:QB}{w:Jd}{A:Q1}{R:Qoh->Shared->Prop}{s:Shared}
theorem Qhw{elt tg iter:Q3}{ifs:List Q3}{g0:Qf6}{scope:Qan}{pos:Pos}{it acc:Value}{env:Env}
  (h0:codeAny (model prog w) A (.compLoop (.ListComp elt [g0,⟨tg,iter,ifs,0⟩] scope pos) 1 it acc env) R s)
  (h:wpAny (model prog w) A (pyIter it) (λit' s'=>codeAny (model prog w) A (.compLoop (.ListComp elt [g0,⟨tg,iter,ifs,0⟩] scope pos) 1 it' acc env) R s') (notedBy (model prog w) A env λx s'=>R (.error x) s') s) :
  codeAny (model prog w) A (.compStart (.ListComp elt [g0,⟨tg,iter,ifs,0⟩] scope pos) 1 it acc env) R s:=by
 refine Qea ?_
 show wpAny _ _ ((compStart (.ListComp elt [g0,⟨tg,iter,ifs,0⟩] scope pos) 1 it acc env).onRaise (λx=>do noteFrame x env;standAt theWindowsPlace)) _ _ s;refine wpAny_notedAt ?_
 unfold compStart;show wpAny _ _ (ask >>= _) _ _ s;refine wpAny_bind (YM (wpAny_ite ?_));split
 ·first
   |exact wpAny_bind (Qj (Qj ⟨rfl,h0⟩))
   |exact Qj ⟨rfl,h0⟩
 ·first
   |exact wpAny_bind (wpAny_rule (wpAny_bind (wpAny_standAt (wpAny_bind (wpAny_mono h (λit' s' h'=>Qj ⟨rfl,h'⟩) λ_ _ x=>x)))))
   |exact wpAny_bind (wpAny_rule (wpAny_bind (wpAny_standAt (wpAny_bind (wpAny_mono h (λit' s' h'=>Qj (Qj ⟨rfl,h'⟩)) λ_ _ x=>x)))))
end
theorem QlL{Y:Cx}{elt tg iter:Q3}{ifs:List Q3}{g0:Qf6}{scope:Qan}{cpos:Pos}{it D:Addr}(Q:PySem.Fin->Shared->Prop)(E:Value->Shared->Prop)(s:Shared)
  (h:wpAny (model Y.prog Y.w) Y.A (pyNext (.ref it)) (λr s1=>match r with
   |none=>Q (.done .next) s1
   |some v=>wpAny (model Y.prog Y.w) Y.A (letOwnedTupleGo tg (.ref it) v) (λ_ s2=>Qrp Y tg ifs (Qoc Y elt D) v (λs3=>Q (.again (.compLoop (.ListComp elt [g0,⟨tg,iter,ifs,0⟩] scope cpos) 1 (.ref it) (.ref D) Y.env)) s3) s2) E s1) E s) :
  wpAny (model Y.prog Y.w) Y.A (compTurn (.ListComp elt [g0,⟨tg,iter,ifs,0⟩] scope cpos) 1 (.ref it) (.ref D) Y.env) Q E s:=by
 have e:compTurn (.ListComp elt [g0,⟨tg,iter,ifs,0⟩] scope cpos) 1 (.ref it) (.ref D) Y.env=(do
   standAt iter.pos
   match <- pyNext (.ref it) with
   |none=>pure (.done .next)
   |some v=>
    letOwnedTupleGo tg (.ref it) v
    assign tg Y.env v
    let mut ok:=true
    for c in ifs do
     if ok then ok <- isTrue c Y.env (eval c Y.env)
    if ok then
     (do let _ <- call (.builtin "list.append") [.ref D,<- eval elt Y.env])
    again (.compLoop (.ListComp elt [g0,⟨tg,iter,ifs,0⟩] scope cpos) 1 (.ref it) (.ref D) Y.env)):=by rfl
 rw[e];refine wpAny_bind (wpAny_standAt (wpAny_bind (thn h λr s1 h1=>?_)));cases r with
 |none=>exact Qj h1
 |some v=>
  refine wpAny_bind (thn h1 λ_ s2 h2=>?_);refine wpAny_bind (wpAny_mono h2 (λ_ s4 h4=>wpAny_bind (wpAny_mono h4 (λok s5 h5=>?_) λ_ _ f=>f.elim)) λ_ _ f=>f.elim);cases ok with
  |false=>exact Qj h5
  |true=>exact wpAny_bind (wpAny_bind (wpAny_mono h5 (λx s6 h6=>wpAny_bind (wpAny_mono h6 (λ_ s7 h7=>Qj (Qj h7)) λ_ _ f=>f.elim)) λ_ _ f=>f.elim))
def Qob(Y:Cx)(e:Q3)(iter:Q3)(D:Addr):Act:=λQ s=>wpAny (model Y.prog Y.w) Y.A (eval iter Y.env) (λx s1=>wpAny (model Y.prog Y.w) Y.A (pyIter x)
 (λitv s2=>codeAny (model Y.prog Y.w) Y.A (.compStart e 1 itv (.ref D) Y.env) (λr s3=>match r with | .ok _=>Q s3 | .error _=>False) s2) (λ_ _=>False) s1) (λ_ _=>False) s
def QyG(wi:TI)(g:TG)(tc:TT)(p:Addr)(te:TE):St->Hp->(Hp->Prop)->Prop:=λσ H k=>wi σ H λJ H1=>QlS J (bOf σ g tc (QyH p te)) k H1
theorem Qn1{Y:Cx}{σ:St}{elt tg iter:Q3}{ifs:List Q3}{g0:Qf6}{scope:Qan}{cpos:Pos}{D:Addr}{wi:TI}{g:TG}{tc:TT}{te:TE}(hx:Y.xe=λ_ _=>False)(hc:Y.calm=true)
  (hi:PI Y tg iter wi)(hg:PG Y tg g)(ht:PTs Y ifs tc)(he:PE Y elt te):BodyOk Y σ (Qob Y (.ListComp elt [g0,⟨tg,iter,ifs,0⟩] scope cpos) iter D) (QyG wi g tc D te σ):=by
 intro pins s H k Q I h hQ;have hx':∀(v:Value)(s':Shared),Y.xe v s'->False:=λv s' z=>by rw[hx] at z;exact z
 refine wpAny_mono (hi pins s σ H _ I h) (λv s1 h1=>wpAny_mono h1 (λitv s2 h2=>?_) hx') hx';obtain⟨it,fp,tn,J,H2,e,I2,T,st2,f2,hW⟩:=h2;subst e;have loop:codeAny (model Y.prog Y.w) Y.A (.compLoop (.ListComp elt [g0,⟨tg,iter,ifs,0⟩] scope cpos) 1 (.ref it) (.ref D) Y.env) (λr s3=>match r with | .ok _=>Q s3 | .error _=>False) s2:=
  Qdm (Y:=Y) (gens:=[g0,⟨tg,iter,ifs,0⟩]) (d:=1) hc T st2 f2 (λQ E s h=>QlL Q E s h) (λx u r=>Qg0 hx hg ht (λσ4=>Qg1 hx he) x u r) I2 hW λs' H' I' q=>hQ s' H' I' q
 exact Qhw loop (T.self _ 0 _ _ _ st2 loop)
theorem Qkz{Y:Cx}{elt tg iter tg2 iter2:Q3}{ifs ifs2:List Q3}{scope:Qan}{cpos:Pos}{it D:Addr}(hs:∀x,foldedSetIterable iter2 Y.env x=pure x)(Q:PySem.Fin->Shared->Prop)(E:Value->Shared->Prop)(s:Shared)
  (h:wpAny (model Y.prog Y.w) Y.A (pyNext (.ref it)) (λr s1=>match r with
   |none=>Q (.done .next) s1
   |some v=>wpAny (model Y.prog Y.w) Y.A (letOwnedTupleGo tg (.ref it) v) (λ_ s2=>Qrp Y tg ifs (Qob Y (.ListComp elt [⟨tg,iter,ifs,0⟩,⟨tg2,iter2,ifs2,0⟩] scope cpos) iter2 D) v (λs3=>Q (.again (.compLoop (.ListComp elt [⟨tg,iter,ifs,0⟩,⟨tg2,iter2,ifs2,0⟩] scope cpos) 0 (.ref it) (.ref D) Y.env)) s3) s2) E s1) E s) :
  wpAny (model Y.prog Y.w) Y.A (compTurn (.ListComp elt [⟨tg,iter,ifs,0⟩,⟨tg2,iter2,ifs2,0⟩] scope cpos) 0 (.ref it) (.ref D) Y.env) Q E s:=by
 have e:compTurn (.ListComp elt [⟨tg,iter,ifs,0⟩,⟨tg2,iter2,ifs2,0⟩] scope cpos) 0 (.ref it) (.ref D) Y.env=(do
   standAt iter.pos
   match <- pyNext (.ref it) with
   |none=>pure (.done .next)
   |some v=>
    letOwnedTupleGo tg (.ref it) v
    assign tg Y.env v
    let mut ok:=true
    for c in ifs do
     if ok then ok <- isTrue c Y.env (eval c Y.env)
    if ok then
     let x <- eval iter2 Y.env
     standAt iter2.pos
     let x <- foldedSetIterable iter2 Y.env x
     let _ <- runOwn (.compStart (.ListComp elt [⟨tg,iter,ifs,0⟩,⟨tg2,iter2,ifs2,0⟩] scope cpos) 1 (<- holding [x] (pyIter x)) (.ref D) Y.env) Y.env
    again (.compLoop (.ListComp elt [⟨tg,iter,ifs,0⟩,⟨tg2,iter2,ifs2,0⟩] scope cpos) 0 (.ref it) (.ref D) Y.env)):=by rfl
 rw[e];refine wpAny_bind (wpAny_standAt (wpAny_bind (thn h λr s1 h1=>?_)));cases r with
 |none=>exact Qj h1
 |some v=>
  refine wpAny_bind (thn h1 λ_ s2 h2=>?_);refine wpAny_bind (wpAny_mono h2 (λ_ s4 h4=>wpAny_bind (wpAny_mono h4 (λok s5 h5=>?_) λ_ _ f=>f.elim)) λ_ _ f=>f.elim);cases ok with
  |false=>exact Qj h5
  |true=>
   refine wpAny_bind (wpAny_mono h5 (λx s6 h6=>wpAny_bind (wpAny_standAt ?_)) λ_ _ f=>f.elim);rw[hs x];refine wpAny_bind (Qj (wpAny_bind (J3 (wpAny_mono h6 (λitv s7 h7=>?_) λ_ _ f=>f.elim))));refine wpAny_bind (wpAny_runOwn (h:=none) (Qb0 h7 λr s8 h8=>?_));cases r with
   |error z=>exact h8.elim
   |ok fl=>exact Qj h8
def QrL(cap:List (Option Nat))(wi:TI)(g:TG)(tc:TT)(wi2:TI)(g2:TG)(tc2:TT)(te:TE):TE:=λσ H Q=>wi σ H λJ H1=>∀p,H1 p=none->QlS J (bOf (QdV cap σ) g tc (QyG wi2 g2 tc2 p te)) (Q (.ref p)) (upd H1 p (.lst []))
end L2
namespace Rk
open L2 Rd
def pairD(ij:Int×Int):Qb:=.tuple [.int ij.1,.int ij.2]
theorem Qk0(b:Int×Int):Jw (pairD b)=1:=by
 unfold pairD;simp[Jw,Q5]
end Rk
namespace Rr
section
variable{prog:QB}{w:Jd}{A:Q1}{E:Value->Shared->Prop}{s:Shared}
theorem Qyb{Q:List Value->Shared->Prop}{r:Addr}{a b:Int}{t u v:Tok}{n:Nat}(hh:A.handled=none)(hr:Qfk s.heap r a b 1 t u v)(hsm:QbI a b 1=true)(hn:Jk a b 1=n)(hl:n<=2^24)
  (hQ:∀(h':Heap)(tk:Nat)(acc:Array Value),(∀c o,s.heap.get? c=some o->h'.get? c=some o)->ItemsOf (λi v=>∃t,v=.int (a+i*1) t) acc n->Q acc.toList { s with heap:=h',toks:=tk }) :
  wpAny (model prog w) A (collect (.ref r)) Q E s:=by
 unfold collect;refine wpAny_bind (Qlp (Zc QoA ?_));rw[JH Qoz _];show wpAny _ A.in1 (newList [] >>= λl=>again (.builtin "list.__iadd__" ⟨[l,.ref r],[]⟩)) _ _ s;refine wpAny_bind (Jc (Qj ⟨Yb Qcn _,Zc Qv5 ?_⟩));rw[JH Qcn _];have hS:(s.heap.push { cls:=.type "list",data:=.seq ([]:List Value).toArray }).get? s.heap.objs.size=some { cls:=.type "list",data:=.seq #[] }:=Qs _ rfl;show wpAny _ A.in1 (Qas (.ref s.heap.objs.size) (.ref r) (.ref s.heap.objs.size)) _ _ _;refine wpAny_extend_range (A:=A) (R:=λrr s'=>match rr with
  |.ok (.ret v)=>wpAny (model prog w) A (match v with
   |.ref a=>do
    let o <- load a
    match o.data with
    |.seq xs _=>pure xs.toList
    |_=>unsupported "internal:collect"
   |_=>unsupported "internal:collect") Q E s'
  |.ok _=>False
  |.error e=>E e s') (s:={ s with heap:=s.heap.push { cls:=.type "list",data:=.seq ([]:List Value).toArray } }) hh (Qi _ hr) hsm hn hl s.heap.objs.size (.ref s.heap.objs.size) 0 hS λh' tk acc' c' kp hS' hacc=>?_
 show wpAny _ A (load s.heap.objs.size >>= _) _ _ _;refine wpAny_bind (Qzc hS' (Qj (hQ h' tk acc' (λc o e=>kp c o (QL (Qq e)) (Qi _ e)) hacc)))
theorem QxM(r:Addr)(a b:Int)(t u v:Tok)(n:Nat)(hsm:QbI a b 1=true)(hn:Jk a b 1=n)(hl:n<=1000) :
  Meets (YF.«tuple.__new__» ⟨[.type "tuple",.ref r],[]⟩) (λA R s=>A.handled=none/\Qfk s.heap r a b 1 t u v/\∀(h':Heap)(tk:Nat)(acc:Array Value),(∀c o,s.heap.get? c=some o->h'.get? c=some o)->ItemsOf (λi v=>∃t,v=.int (a+i*1) t) acc n ->
    R (.ok (.ret (.ref h'.objs.size))) { s with heap:=h'.push { cls:=.type "tuple",data:=.seq acc },toks:=tk }):=
 .of_wp λprog w A R s h=>by
  obtain⟨hh,hr,h⟩:=h;have hsub:=sub_tuple_self;have hinit:=init_tuple_lookup;have hmh:=madeHere_tuple;have hT:s.TypeIs (.ref r) "range" := ⟨_,hr,rfl⟩;have hh1:A.in1.handled=none:=hh
  wp_walk using QbY hT,Qyb hh1 hr hsm hn (QJ hl (by decide))
  intro h' tk acc kp hacc;have hz:acc.size=n:=hacc.1;show wpAny _ _ (Zo acc.toList.toArray >>= λv=>ret v) _ _ _;unfold Zo;have e:acc.toList.toArray=acc:=by simp
  rw[e];refine wpAny_bind (Jc ?_ (by show acc.size<=sizeLine;rw[hz];exact QJ hl (by decide)));exact Qj ⟨_,rfl,h h' tk acc kp hacc⟩
theorem Qvr{Q:Value->Shared->Prop}{r:Addr}{a b:Int}{t u v:Tok}{n:Nat}(hh:A.handled=none)(hr:Qfk s.heap r a b 1 t u v)(hsm:QbI a b 1=true)(hn:Jk a b 1=n)(hl:n<=1000)
  (hQ:∀(h':Heap)(tk:Nat)(acc:Array Value),(∀c o,s.heap.get? c=some o->h'.get? c=some o)->ItemsOf (λi v=>∃t,v=.int (a+i*1) t) acc n->Q (.ref h'.objs.size) { s with heap:=h'.push { cls:=.type "tuple",data:=.seq acc },toks:=tk }) :
  wpAny (model prog w) A (call (.type "tuple") [.ref r]) Q E s:=
 callType_new F.called_tuple (by decide) (F.typeCall_tuple_1 _) (F.newCall_tuple_1 _) (λobj=>QrG obj _) F.entry_tuple_new (QxM r a b t u v n hsm hn hl)
  ⟨hh,hr,λh' tk acc kp hacc=>⟨⟨_,Qs _ rfl,rfl⟩,hQ h' tk acc kp hacc⟩⟩
end
end Rr
namespace L2
def Qwh(ta:TA):TE:=λσ H Q=>ta σ H λvs H1=>∃j,vs=[.int j]/\∀r H2,Same H1 H2->H1 r=none->H2 r=some (.rng 0 j)->Q (.ref r) H2
section
variable{X:Cx}
theorem Qep{a:Q3}{ta:TA}{p pos:Pos}(hg:Gl X "range")(hm:X.mg "range" = none)(ha:PA X [a] ta)(hs:starEach [a] X.env=[(false,eval a X.env)]:=by rfl):PE X (.Call (.Name "range" p) [a] [] pos) (Qwh ta):=by
 intro pins s σ H Q I h;refine Qat (Qdi I hg hm boot_range ?_);refine Zb (thn (ha pos pins s σ H _ I h) λus s1 ⟨vs,H1,I1,r1,q1⟩=>?_) hs rfl;obtain⟨j,e,q⟩:=q1;subst e;obtain⟨u,rfl,ru⟩:=vals1 r1;obtain⟨t,rfl⟩:=ru;refine call_range_1 ?_
 have hf:H1 s1.heap.objs.size=none:=I1.hok.fresh (Ql _);refine⟨.ref s1.heap.objs.size,upd H1 s1.heap.objs.size (.rng 0 j),I1.laid (t':=s1.toks+1+1) (λb u e=>Qi _ e) (Ql _) ⟨_,_,_,Qs _ rfl⟩,rfl,q _ _ (Jt hf) hf Jj⟩
theorem QfR{acc:Array Value}{n:Nat}(h:ItemsOf (λi v=>∃t,v=Z0 ((0:Int)+i*1) t) acc n):Vals ((Qa n).map λi=>V.int (i:Nat)) acc.toList:=by
 obtain⟨hs,hi⟩:=h;have key:∀(m:Nat)(l:List Value)(o:Nat),l.length=m->(∀i v,l[i]? = some v->∃t,v=Z0 ((0:Int)+((o+i:Nat):Int)*1) t)->Vals ((Yr o m).map λi=>V.int (i:Nat)) l:=by
  intro m;induction m with
  |zero=>intro l o hl _;cases l with
   |nil=>exact .nil
   |cons a b=>cases hl
  |succ m ih=>
   intro l o hl hv;cases l with
   |nil=>cases hl
   |cons a b=>
    rw[QsP,QY];refine .cons ?_ (ih b (o+1) (by simpa using hl) λi v e=>?_)
    ·obtain⟨t,rfl⟩:=hv 0 a rfl;exact⟨t,by simp⟩
    ·obtain⟨t,rfl⟩:=hv (i+1) v (by simpa using e);exact⟨t,by congr 3;omega⟩
 rw[List.range_eq_range'];refine key n acc.toList 0 (by simpa using hs) λi v e=>?_
 have:=hi i v (by simpa using e)
 simpa using this
def Qtn:List V->Hp->VK->Prop:=λxs H Q=>∃r j,xs=[.ref r]/\H r=some (.rng 0 j) /\ -1000<=j/\j<=1000/\∀t H2,Same H H2->H t=none->H2 t=some (.tup ((Qa j.toNat).map λi=>V.int (i:Nat)))->Q (.ref t) H2
theorem Qje(hc:X.calm=true):CallR X (.type "tuple") Qtn:=by
 intro pins s σ H xs us Q I r h;obtain⟨a,j,rfl,ha,h1,h2,q⟩:=h;obtain⟨u,rfl,ru⟩:=vals1 r;cases(show u=Zn a from ru);obtain⟨t1,t2,t3,e⟩:=I.hok a _ ha;have hn:Jk 0 j 1=((j.toNat:Nat):Int):=by rw[QcU];split<;>omega
 refine Rr.Qvr (n:=j.toNat) (I.ok.hd hc) (show Qfk s.heap a 0 j 1 t1 t2 t3 from e) (small_one (by omega) (by omega) (by omega) (by omega)) hn (by omega) λh' tk acc kp hacc=>?_
 have hz:acc.size=j.toNat:=hacc.1;have rv:=QfR hacc;have I1:Inv X pins σ H { s with heap:=h',toks:=tk }:=I.kept kp;have hf:H h'.objs.size=none:=I1.hok.fresh (Ql _);refine⟨.ref h'.objs.size,upd H h'.objs.size (.tup ((Qa j.toNat).map λi=>V.int (i:Nat))),I1.laid (t':=tk) (λb u e=>Qi _ e) (Ql _) ⟨?_,acc.toList,rv,⟨_,Qs _ rfl,rfl,rfl,0,by simp⟩⟩,rfl,q _ _ (Jt hf) hf Jj⟩;rw[Qe,Qh];exact J4 (Rk.Qar (by omega))
end
end L2
namespace Rs
open PySem.W
def sp{α:Type}(n:Nat)(c:Nat->Nat->Bool):KasT α->(α->Prop)->Prop
 |.ret a,Q=>Q a
 |.ask i j f,Q=>i<n/\j<n/\sp n c (f (c i j)) Q
theorem QaD{α:Type}{n:Nat}{c:Nat->Nat->Bool}{Q Q':α->Prop}(h:∀a,Q a->Q' a):∀{t:KasT α},sp n c t Q->sp n c t Q'
 |.ret a,q=>h a q
 |.ask i j f,q=>⟨q.1,q.2.1,QaD h (t:=f (c i j)) q.2.2⟩
theorem QdF{α β:Type}{n:Nat}{c:Nat->Nat->Bool}{f:α->KasT β}{Q:β->Prop}:∀{t:KasT α},sp n c t (λa=>sp n c (f a) Q)->sp n c (t.bind f) Q
 |.ret a,q=>q
 |.ask i j g,q=>⟨q.1,q.2.1,QdF (t:=g (c i j)) q.2.2⟩
theorem Qjr{α:Type}{n:Nat}{c:Nat->Nat->Bool}{cmp:Nat->Nat->(Bool->Shared->Prop)->Shared->Prop}{s:Shared}{Q:α->Shared->Prop}(hc:∀i j (C:Bool->Shared->Prop),i<n->j<n->C (c i j) s->cmp i j C s) :
  ∀{t:KasT α},sp n c t (λa=>Q a s)->t.kasWp cmp Q s
 |.ret a,q=>q
 |.ask i j f,q=>hc i j _ q.1 q.2.1 (Qjr hc (t:=f (c i j)) q.2.2)
section
variable{n:Nat}{K:Nat->Int}
abbrev cK (K:Nat->Int) (i j:Nat):Bool:=decide (K i<K j)
structure Good (n:Nat) (p:Array Nat):Prop where
 perm:p.toList.Perm (Qa n)
theorem Good.size{p:Array Nat}(g:Good n p):p.size=n:=by
 have:=g.perm.length_eq;rw[Qh,Qw] at this;exact this
def at_(p:Array Nat)(i:Nat):Nat:=p.getD i 0
theorem Qik{p:Array Nat}{i:Nat}(h:i<p.size):p[i]? = some (at_ p i):=by
 unfold at_;rw[YN,Zu h];rfl
theorem Qrl{p q:Array Nat}{i j:Nat}(h:p[i]? = q[j]?):at_ p i=at_ q j:=by
 unfold at_;rw[YN,YN,h]
theorem Good.lt{p:Array Nat}(g:Good n p)(h0:0<n)(i:Nat):at_ p i<n:=by
 by_cases h:i<p.size
 ·have e:=Qik h;have m:at_ p i∈p.toList:=by
   have:=Qkw e;exact Qc1.mpr this
  exact Qu.mp (g.perm.mem_iff.mp m)
 ·unfold at_;rw[YN,ZS (by omega)];exact h0
theorem Good.inj{p:Array Nat}(g:Good n p){i j:Nat}(hi:i<n)(hj:j<n)(e:at_ p i=at_ p j):i=j:=by
 have nd:p.toList.Nodup:=g.perm.nodup_iff.mpr Jl;have hs:=g.size;have hi':i<p.toList.length:=by rw[Qw];omega
 have hj':j<p.toList.length:=by rw[Qw];omega
 have ei:p.toList[i]=at_ p i:=by
  have:=Qik (p:=p) (i:=i) (by omega);rw[Zu (by omega)] at this;rw[J1];exact QK this
 have ej:p.toList[j]=at_ p j:=by
  have:=Qik (p:=p) (i:=j) (by omega);rw[Zu (by omega)] at this;rw[J1];exact QK this
 have pw:=Jq.mp nd;rcases ZQ i j with h | h | h
 ·exact absurd (ei.trans (e.trans ej.symm)) (pw i j hi' hj' h)
 ·exact h
 ·exact absurd (ej.trans (e.symm.trans ei.symm)) (pw j i hj' hi' h)
def kk(K:Nat->Int)(p:Array Nat)(i:Nat):Int:=K (at_ p i)
def Adj(K:Nat->Int)(p:Array Nat)(m:Nat):Prop:=∀i,i+1<m->kk K p i<=kk K p (i+1)
def Dsc(K:Nat->Int)(p:Array Nat)(m:Nat):Prop:=∀i,i+1<m->kk K p (i+1)<kk K p i
theorem Adj.le{p:Array Nat}{m:Nat}(h:Adj K p m){i:Nat}:∀{j:Nat},i<=j->j<m->kk K p i<=kk K p j
 |0,hij,_=>by cases Nat.le_zero.mp hij;exact Qoy _
 |j+1,hij,hj=>by
  by_cases e:i=j+1
  ·rw[e];exact Qoy _
  ·exact Qfw (h.le (i:=i) (j:=j) (by omega) (by omega)) (h j hj)
theorem QoW{p:Array Nat}(g:Good n p)(i j:Nat):Good n (kas_rev p i j):=⟨(Qa2.mp (mirror_perm p i j _)).trans g.perm⟩
theorem QrU{p:Array Nat}{m k:Nat}(hm:m<=p.size)(hk:k<m):at_ (kas_rev p 0 m) k=at_ p (m - 1 - k):=by
 refine Qrl ?_
 have:=getElem?_mirror_all (xs:=p) (i:=0) (j:=m) hm k
 rw[if_pos ⟨Q9 _,hk⟩,Qaz] at this;exact this
theorem Qtl{p:Array Nat}{m:Nat}(hm:m<=p.size)(d:Dsc K p m):Adj K (kas_rev p 0 m) m:=by
 intro i hi;unfold kk;rw[QrU hm (by omega),QrU hm hi];have:=d (m - 1 - (i+1)) (by omega);have e:m - 1 - (i+1)+1=m - 1 - i:=by omega
 rw[e] at this;exact QlD this
theorem QlX{p:Array Nat}(g:Good n p)(h0:0<n):∀(f a:Nat),1<=a->Adj K p a ->
  sp n (cK K) (kas_asc p f a) (λm=>a<=m/\m<=a+f/\Adj K p m/\(m=a+f∨kk K p m<kk K p (m - 1)))
 |0,a,_,h=>⟨Ql _,Ql _,h,.inl rfl⟩
 |f+1,a,ha,h=>by
  refine⟨g.lt h0 a,g.lt h0 (a - 1),?_⟩;show sp n (cK K) (if decide (kk K p a<kk K p (a - 1))=true then .ret a else kas_asc p f (a+1)) _;by_cases e:kk K p a<kk K p (a - 1)
  ·rw[decide_eq_true e,if_pos rfl];exact⟨Ql _,QvH _ _,h,.inr e⟩
  ·rw[decide_eq_false e,if_neg (by simp)];refine QaD ?_ (QlX g h0 f (a+1) (by omega) ?_)
   ·rintro m ⟨h1,h2,h3,h4⟩;exact⟨by omega,by omega,h3,h4.imp (λq=>by omega) id⟩
   ·intro i hi;by_cases q:i+1<a
    ·exact h i q
    ·have e1:i=a - 1:=by omega
     have e2:i+1=a:=by omega
     rw[e2,e1];exact Int.not_lt.mp e
theorem QuQ(inj:∀i j,i<n->j<n->K i=K j->i=j){p:Array Nat}(g:Good n p){i j:Nat}(hi:i<n)(hj:j<n)(h:i≠j):kk K p i≠kk K p j:=
 λe=>h (g.inj hi hj (inj _ _ (g.lt (by omega) i) (g.lt (by omega) j) e))
theorem QlW(inj:∀i j,i<n->j<n->K i=K j->i=j){p:Array Nat}(g:Good n p)(h0:0<n):∀(f a:Nat),1<=a->a+f<=n->Dsc K p a ->
  sp n (cK K) (kas_desc f p a 0) (λr=>r.1=p/\r.2.2=0/\a<=r.2.1/\r.2.1<=a+f/\Dsc K p r.2.1)
 |0,a,_,_,h=>⟨rfl,rfl,Ql _,Ql _,h⟩
 |f+1,a,ha,haf,h=>by
  refine⟨g.lt h0 a,g.lt h0 (a - 1),?_⟩;show sp n (cK K) (if decide (kk K p a<kk K p (a - 1))=true then(if 0 > 0 then kas_desc f (kas_rev p (a - (0+1)) a) (a+1) 0 else kas_desc f p (a+1) 0) else _) _;by_cases e:kk K p a<kk K p (a - 1)
  ·rw[decide_eq_true e,if_pos rfl,if_neg (by omega)];refine QaD ?_ (QlW inj g h0 f (a+1) (by omega) (by omega) ?_)
   ·rintro r ⟨h1,h2,h3,h4,h5⟩;exact⟨h1,h2,by omega,by omega,h5⟩
   ·intro i hi;by_cases q:i+1<a
    ·exact h i q
    ·have e1:i=a - 1:=by omega
     have e2:i+1=a:=by omega
     rw[e2,e1];exact e
  ·rw[decide_eq_false e,if_neg (by simp)];refine⟨g.lt h0 (a - 1),g.lt h0 a,?_⟩;show sp n (cK K) (if decide (kk K p (a - 1)<kk K p a)=true then .ret (p,a,0) else _) _;have ne:=QuQ (K:=K) inj g (i:=a - 1) (j:=a) (by omega) (by omega) (by omega);rw[decide_eq_true (by omega),if_pos rfl];exact⟨rfl,rfl,Ql _,QvH _ _,h⟩
def Run(K:Nat->Int)(n:Nat)(r:Nat×Array Nat):Prop:=Good n r.2/\1<=r.1/\r.1<=n/\Adj K r.2 r.1
theorem QoL{p:Array Nat}(g:Good n p){m:Nat}(h1:1<=m)(hm:m<=n)(d:Dsc K p m):sp n (cK K) (kas_tail3 m n p) (Run K n):=by
 refine QdF ?_
 have hs:=g.size;have g':=QoW g 0 m;refine QaD ?_ (QlX g' (by omega) (n - m) m h1 (Qtl (by omega) d))
 rintro k ⟨a,b,c,_⟩;exact⟨g',by omega,by omega,c⟩
theorem QiI(inj:∀i j,i<n->j<n->K i=K j->i=j){p:Array Nat}(g:Good n p){m:Nat}(hm:m+1<=n)(d:Dsc K p (m+1)):sp n (cK K) (kas_descPart m n p) (Run K n):=by
 refine QdF ?_
 refine QaD ?_ (QlW inj g (by omega) (n - (m+1)) (m+1) (by omega) (by omega) d)
 rintro⟨p',k,q⟩ ⟨e1,e2,h3,h4,h5⟩;have e1:p'=p:=e1;have e2:q=0:=e2;subst e1 e2;show sp n (cK K) (if 0 > 0 then _ else kas_tail3 k n p') _;rw[if_neg (by omega)];have h3:m+1<=k:=h3;have h4:k<=m+1+(n - (m+1)):=h4;exact QoL g (by omega) (by omega) h5
theorem QoM(inj:∀i j,i<n->j<n->K i=K j->i=j){p:Array Nat}(g:Good n p)(h0:0<n):sp n (cK K) (kas_count n p) (Run K n):=by
 refine QdF ?_
 refine QaD ?_ (QlX g h0 (n - 1) 1 (Ql _) (λi hi=>by omega))
 rintro m ⟨h1,h2,h3,h4⟩;show sp n (cK K) (if(m == n)=true then .ret (m,p) else if m > 1 then _ else kas_descPart m n p) _;by_cases e:m=n
 ·rw[if_pos (beq_iff_eq.mpr e)];exact⟨g,h1,by omega,h3⟩
 ·rw[if_neg (λq=>e (beq_iff_eq.mp q))];by_cases e2:m > 1
  ·rw[if_pos e2];refine⟨g.lt h0 0,g.lt h0 (m - 1),?_⟩;show sp n (cK K) (if decide (kk K p 0<kk K p (m - 1))=true then .ret (m,p) else _) _;have le:=h3.le (i:=0) (j:=m - 1) (by omega) (by omega);have ne:=QuQ (K:=K) inj g (i:=0) (j:=m - 1) (by omega) (by omega) (by omega);rw[decide_eq_true (by omega),if_pos rfl];exact⟨g,h1,by omega,h3⟩
  ·rw[if_neg e2];have em:m=1:=by omega
   subst em;refine QiI inj g (by omega) λi hi=>?_
   have ei:i=0:=by omega
   subst ei;rcases h4 with q | q
   ·omega
   ·exact q
theorem Qgg{p:Array Nat}(g:Good n p)(h0:0<n){k:Nat}(A:Adj K p k):∀(f l r:Nat),l<=r->r<=k->r - l<=f->(∀i,i<l->kk K p i<=kk K p k)->(∀i,r<=i->i<k->kk K p k<kk K p i) ->
  sp n (cK K) (kas_place p k f l r) (λm=>m<=k/\(∀i,i<m->kk K p i<=kk K p k)/\∀i,m<=i->i<k->kk K p k<kk K p i)
 |0,l,r,h1,h2,h3,a,b=>⟨by omega,a,λi hi hk=>b i (by omega) hk⟩
 |f+1,l,r,h1,h2,h3,a,b=>by
  show sp n (cK K) (if l≥r then .ret l else _) _;by_cases e:l≥r
  ·rw[if_pos e];exact⟨by omega,a,λi hi hk=>b i (by omega) hk⟩
  ·rw[if_neg e];refine⟨g.lt h0 k,g.lt h0 ((l+r) / 2),?_⟩;show sp n (cK K) (if decide (kk K p k<kk K p ((l+r) / 2))=true then kas_place p k f l ((l+r) / 2) else kas_place p k f ((l+r) / 2+1) r) _;by_cases q:kk K p k<kk K p ((l+r) / 2)
   ·rw[decide_eq_true q,if_pos rfl];refine Qgg g h0 A f l ((l+r) / 2) (by omega) (by omega) (by omega) a λi hi hk=>?_
    exact Int.lt_of_lt_of_le q (A.le hi hk)
   ·rw[decide_eq_false q,if_neg (by simp)];refine Qgg g h0 A f ((l+r) / 2+1) r (by omega) h2 (by omega) (λi hi=>?_) b;exact Qfw (A.le (i:=i) (j:=(l+r) / 2) (by omega) (by omega)) (Int.not_lt.mp q)
theorem QrO(h0:0<n):∀(f k:Nat){p:Array Nat},Good n p->k+f<=n->Adj K p k->sp n (cK K) (kas_bin f p k) (λp'=>Good n p'/\Adj K p' (k+f))
 |0,k,p,g,_,A=>⟨g,A⟩
 |f+1,k,p,g,hk,A=>by
  refine QdF ?_
  refine QaD ?_ (Qgg g h0 A k 0 k (Q9 _) (Ql _) (by omega) (λi hi=>by omega) (λi hi hk=>by omega))
  rintro l ⟨hl,lo,hi⟩;have hs:=g.size;have bb:∀j,at_ (bubble p k (k - l)) j=if j=l then at_ p k else if l<j/\j<=k then at_ p (j - 1) else at_ p j:=by
   intro j;have:=getElem?_bubble (xs:=p) (src:=k) (by omega) (k - l) (by omega) j
   have e:k - (k - l)=l:=by omega
   rw[e] at this;split
   ·rename_i q;rw[if_pos q] at this;exact Qrl this
   ·rename_i q
    rw[if_neg q] at this;split
    ·rename_i q2;rw[if_pos q2] at this;exact Qrl this
    ·rename_i q2;rw[if_neg q2] at this;exact Qrl this
  refine QaD ?_ (QrO h0 f (k+1) (p:=bubble p k (k - l)) ⟨(Qa2.mp (bubble_perm p k (k - l))).trans g.perm⟩ (by omega) ?_)
  ·rintro p' ⟨a,b⟩;exact⟨a,by rw[show k+(f+1)=k+1+f by omega];exact b⟩
  ·intro i hik;unfold kk;rw[bb,bb];by_cases c1:i+1<l
   ·rw[if_neg (by omega),if_neg (by omega),if_neg (by omega),if_neg (by omega)];exact A i (by omega)
   ·by_cases c2:i+1=l
    ·rw[if_neg (by omega),if_neg (by omega),if_pos c2];exact lo i (by omega)
    ·by_cases c3:i=l
     ·rw[if_pos c3,if_neg (by omega),if_pos ⟨by omega,by omega⟩];exact QlD (hi (i+1 - 1) (by omega) (by omega))
     ·rw[if_neg c3,if_pos ⟨by omega,by omega⟩,if_neg (by omega),if_pos ⟨by omega,by omega⟩];have:=A (i - 1) (by omega);rw[show i - 1+1=i+1 - 1 by omega] at this;exact this
theorem Qtc(inj:∀i j,i<n->j<n->K i=K j->i=j)(h0:0<n):sp n (cK K) (kas_sort n) (λp=>Good n p/\Adj K p n):=by
 have g:Good n (Z3 (Qa n)):=⟨ZE _⟩;refine QdF ?_
 refine QaD ?_ (QoM inj g h0)
 rintro⟨m,p⟩ ⟨g',h1,h2,A⟩;show sp n (cK K) (if m<n then kas_bin (n - max m 1) p (max m 1) else .ret p) _;have e:max m 1=m:=by have:1<=m:=h1;omega
 rw[e];by_cases q:m<n
 ·rw[if_pos q];refine QaD ?_ (QrO h0 (n - m) m g' (by omega) A)
  rintro p' ⟨a,b⟩;exact⟨a,by rw[show m+(n - m)=n by omega] at b;exact b⟩
 ·rw[if_neg q];have h2:m<=n:=h2;have e2:m=n:=by omega
  subst e2;exact⟨g',A⟩
end
end Rs
namespace Rs
open PySem.W PySem.Calls
section
variable{prog:QB}{w:Jd}{A:Q1}{E:Value->Shared->Prop}{s:Shared}
def Kept(a:Addr)(h h':Heap):Prop:=∀b x,b≠a->h.get? b=some x->h'.get? b=some x
theorem Qga{h:Heap}{a:Addr}(f:Obj->Obj):Kept a h (h.update a f):=λb x hb e=>(Heap.get?_update_ne _ _ _ _ hb).trans e
theorem QhH{h:Heap}{a:Addr}(o:Obj):Kept a h (h.push o):=λb x _ e=>Qi _ e
theorem Kept.trans{a:Addr}{h h1 h2:Heap}(k:Kept a h h1)(k':Kept a h1 h2):Kept a h h2:=λb x hb e=>k' b x hb (k b x hb e)
theorem Ql7(vs:List Value):(Qa vs.length).map (λi=>vs.getD i Js)=vs:=by
 apply Ja
 intro i;rw[Qo];by_cases h:i<vs.length
 ·rw[Qr h,Qc h];show some (vs.getD i Js)=_;rw[Qd,Qc h];rfl
 ·rw[Qp (by simpa using h),Qp (by omega)];rfl
theorem Qfp{a:Addr}{vs:List Value}{n:Nat}{P:PySem.Fin->Shared->Prop}(ho:s.heap.get? a=some (seqObj "list" vs.toArray n))(h64:vs.length<64)(K:Nat->Int)(κ:Qbg)
  (inj:∀i j,i<vs.length->j<vs.length->K i=K j->i=j)
  (hkind:2<=vs.length->∀h':Heap,Kept a s.heap h'->∀(Q':Qbg->Shared->Prop)(E':Value->Shared->Prop),Q' κ { s with heap:=h' }->wpAny (model prog w) A (keyKind' vs.toArray) Q' E' { s with heap:=h' })
  (hcmp:∀h':Heap,Kept a s.heap h'->∀(i j:Nat)(C:Bool->Shared->Prop),i<vs.length->j<vs.length->C (decide (K i<K j)) { s with heap:=h' }->wpAny (model prog w) A (keyLt' κ (vs.getD i Js) (vs.getD j Js)) C (λ_ _=>False) { s with heap:=h' })
  (h:∀p:Array Nat,Good vs.length p->Adj K p vs.length->∀(h':Heap)(e:Nat),Kept a s.heap h'->h'.get? a=some (seqObj "list" (Z3 (p.toList.map λi=>vs.getD i Js)) e)->P (.done (.ret .none)) { s with heap:=h' }) :
  wpAny (model prog w) A (YF.«list.sort» ⟨[.ref a],[]⟩) P E s:=by
 have ha:a<s.heap.objs.size:=Qq ho;obtain⟨e1,ho1⟩:∃e1,(s.heap.update a (Zg λ_=>(#[]:Array Value))).get? a=some (seqObj "list" #[] e1):=⟨_,get?_update_seq ho λ_=>#[]⟩
 have K3:Kept a s.heap (((s.heap.update a (Zg λ_=>(#[]:Array Value))).push (seqObj "tuple" vs.toArray 0)).push (seqObj "list" #[] 0)):=(Qga _).trans ((QhH _).trans (QhH _));have ho6:(((s.heap.update a (Zg λ_=>(#[]:Array Value))).push (seqObj "tuple" vs.toArray 0)).push (seqObj "list" #[] 0)).get? a=some (seqObj "list" #[] e1):=Qi _ (Qi _ ho1);rw[list_sort_plain];refine wpAny_bind (listItems_at ho rfl ?_);refine wpAny_bind (Qos ho rfl ?_ (by rw[Qm,Yk];omega) (Q9 _));refine wpAny_bind (QvX ho1 rfl ?_);refine wpAny_bind (wpAny_newTuple ?_ (by show vs.length<=_;rw[Yk];omega));refine wpAny_bind (Qoq ?_ (Q9 _));refine J3 ?_
 show wpAny (model prog w) A _ P E { s with heap:=((s.heap.update a (Zg λ_=>(#[]:Array Value))).push (seqObj "tuple" vs.toArray 0)).push (seqObj "list" #[] 0) }
 dsimp only
 generalize (((s.heap.update a (Zg λ_=>(#[]:Array Value))).push (seqObj "tuple" vs.toArray 0)).push (seqObj "list" #[] 0))=h3 at K3 ho6 ⊢;have fin:∀p:Array Nat,Good vs.length p->Adj K p vs.length->∀st':SortSt,(arrOf st').map (·.2)=Z3 (p.toList.map λi=>vs.getD i Js)->failedOf st'=none ->
   ∃e2,(h3.update a (Zg λ_=>Z3 (p.toList.map λi=>vs.getD i Js))).get? a=some (seqObj "list" (Z3 (p.toList.map λi=>vs.getD i Js)) e2):=λp _ _ _ _ _=>⟨_,get?_update_seq ho6 λ_=>_⟩
 by_cases h2:vs.toArray.size<2
 ·rw[if_pos h2,if_pos h2];refine wpAny_bind (Qj ?_);rw[StateT.run_pure];refine wpAny_bind (Qj ?_)
  dsimp only
  have gg:Good vs.length (Z3 (Qa vs.length)):=⟨ZE _⟩;have aa:Adj K (Z3 (Qa vs.length)) vs.length:=λi hi=>by rw[Qm] at h2;omega
  have out:(arrOf (SortSt.mk' general' (vs.toArray.zip vs.toArray) #[] 7 none)).map (·.2)=Z3 ((Z3 (Qa vs.length)).toList.map λi=>vs.getD i Js):=by
   show(vs.toArray.zip vs.toArray).map (·.2)=_;rw[Yq,Ql7];apply Array.toList_inj.mp
   rw[Array.toList_map,Array.toList_zip];show(vs.zip vs).map (·.2)=vs;exact List.map_snd_zip (Ql _)
  obtain⟨e2,he2⟩:=fin _ gg aa _ out rfl;rw[out];refine wpAny_bind (QvX ho6 rfl ?_);refine wpAny_bind (Qos ho6 rfl ?_ (Q9 _) (by rw[Qm,Qe,Yq,Qh,Yk];omega));simp only[bne_self_eq_false,Qaj,if_false];exact Qj (h _ gg aa _ e2 (K3.trans (Qga _)) he2)
 ·rw[if_neg h2,if_neg h2];have h2':2<=vs.length:=by rw[Qm] at h2;omega
  refine wpAny_bind (hkind h2' h3 K3 _ _ ?_);refine wpAny_bind (wpAny_mono (kat_run (Q:=λst' s'=>∃p:Array Nat,Good vs.length p/\Adj K p vs.length/\arrOf st'=p.map (kas_item (vs.toArray.zip vs.toArray))/\failedOf st'=none/\s'={ s with heap:=h3 })
   (G:=λp s'=>Good vs.length p/\Adj K p vs.length/\s'={ s with heap:=h3 }) rfl h2' h64 (λp' st' s' a1 a2 a3 a4=>⟨p',a4.1,a4.2.1,a2,a3,a4.2.2⟩)
   (Qjr (c:=cK K) (λi j C hi hj hC=>hcmp h3 K3 i j C hi hj hC) (QaD (λp q=>⟨q.1,q.2,rfl⟩) (Qtc inj (by omega))))) ?_ λ_ _ e=>e)
  rintro⟨⟨⟩,st'⟩ s' ⟨p,gg,aa,har,hf,rfl⟩
  dsimp only
  have out:=kat_snds (ks:=vs) rfl har;obtain⟨e2,he2⟩:=fin p gg aa st' out hf;rw[out];refine wpAny_bind (QvX ho6 rfl ?_);refine wpAny_bind (Qos ho6 rfl ?_ (Q9 _) (by rw[Qm,Qe,Qw,gg.size,Yk];omega));rw[hf];simp only[bne_self_eq_false,Qaj,if_false];exact Qj (h p gg aa _ e2 (K3.trans (Qga _)) he2)
theorem QbJ{Q:Value->Shared->Prop}{l:Addr}{T:String}{o:Obj}{vs:List Value}{n:Nat}(hT:T = "list" ∨ T = "tuple")(ho:s.heap.get? l=some o)(hc:o.cls=.type T)(hd:o.data=.seq vs.toArray n)(h64:vs.length<64)
  (h:∀h':Heap,(∀b x,s.heap.get? b=some x->h'.get? b=some x)->∀(P:PySem.Fin->Shared->Prop)(E':Value->Shared->Prop),(∀s2,Q (.ref h'.objs.size) s2->P (.done (.ret .none)) s2) ->
   wpAny (model prog w) A.in1.in1 (YF.«list.sort» ⟨[.ref h'.objs.size],[]⟩) P E' { s with heap:=h'.push (seqObj "list" vs.toArray 0) }) :
  wpAny (model prog w) A (call (.builtin "sorted") [.ref l]) Q E s:=by
 refine Qhn kind_sorted plain_sorted entry_sorted (args_sorted1 _) ?_
 unfold YF.«sorted»;refine wpAny_bind (m:=checkCount "sorted" 1 1 _) (Qj ?_);refine wpAny_bind (wpAny_collect_seq (items:=vs.toArray) l hT ho hc hd (λh' kp=>?_) (by rw[Qm,Yk];omega));refine wpAny_bind (Qoq ?_ (by rw[Yq,Yk];omega));have hoL:(h'.push (seqObj "list" vs.toArray 0)).get? h'.objs.size=some (seqObj "list" vs.toArray 0):=Qs _ rfl;show wpAny _ _ _ _ _ { s with heap:=h'.push (seqObj "list" vs.toArray 0) };refine wpAny_bind (J3 (Ze slot_list_sort ⟨_,hoL,rfl⟩ entry_list_sort ?body (args_list_sort _)));exact h h' kp _ _ λs2 hq=>⟨_,rfl,Qj ⟨_,rfl,hq⟩⟩
end
structure PairV (h:Heap) (v:Value) (ij:Int×Int):Prop where
 it:∃(a:Addr)(o:Obj)(n:Nat)(t u:Tok),v=.ref a/\h.get? a=some o/\o.cls=.type "tuple" /\ o.data=.seq #[.int ij.1 t,.int ij.2 u] n
theorem PairV.keep{h h':Heap}{v:Value}{ij:Int×Int}(q:PairV h v ij)(k:∀b x,h.get? b=some x->h'.get? b=some x):PairV h' v ij:=by
 obtain⟨a,o,n,t,u,e,g,c,d⟩:=q.it;exact⟨a,o,n,t,u,e,k _ _ g,c,d⟩
inductive PairsV (h:Heap):List Value->List (Int×Int)->Prop
 |nil:PairsV h [] []
 |cons {v:Value} {vs:List Value} {ij:Int×Int} {L:List (Int×Int)}:PairV h v ij->PairsV h vs L->PairsV h (v::vs) (ij::L)
theorem PairsV.keep{h h':Heap}(k:∀b x,h.get? b=some x->h'.get? b=some x):∀{vs:List Value}{L:List (Int×Int)},PairsV h vs L->PairsV h' vs L
 |_,_,.nil=>.nil
 |_,_,.cons q r=>.cons (q.keep k) (r.keep k)
theorem PairsV.len{h:Heap}:∀{vs:List Value}{L:List (Int×Int)},PairsV h vs L->vs.length=L.length
 |_,_,.nil=>rfl
 |_,_,.cons _ r=>by rw[Qt,Qt,r.len]
theorem PairsV.at_{h:Heap}:∀{vs:List Value}{L:List (Int×Int)},PairsV h vs L->∀i,i<vs.length->PairV h (vs.getD i Js) (L.getD i (0,0))
 |_,_,.nil,i,hi=>by simp at hi
 |_,_,.cons q r,0,hi=>q
 |_,_,.cons q r,i+1,hi=>by
  have:=r.at_ i (by simpa using hi)
  simpa using this
theorem PairsV.firsts{h:Heap}:∀{vs:List Value}{L:List (Int×Int)},PairsV h vs L->∃fs,KatTups h vs fs/\fs.length=vs.length/\∀v∈fs,∃i t,v=Z0 i t
 |_,_,.nil=>⟨[],.nil,rfl,λv hv=>nomatch hv⟩
 |_,_,.cons q r=>by
  obtain⟨fs,k,l,f⟩:=r.firsts;obtain⟨a,o,n,t,u,e,g,c,d⟩:=q.it;subst e;refine⟨_::fs,KatTups.cons g c d rfl k,by rw[Qt,Qt,l],λv hv=>?_⟩;rcases Qz.mp hv with z | z
  ·exact⟨_,_,z⟩
  ·exact f v z
def code(ij:Int×Int):Int:=64*ij.1+ij.2
section
variable{prog:QB}{w:Jd}{A:Q1}{E:Value->Shared->Prop}{s:Shared}
theorem Qvi{a b:Int×Int}(ha:0<=a.2/\a.2<64)(hb:0<=b.2/\b.2<64):decide (code a<code b)=if a.1=b.1 then(if a.2=b.2 then false else decide (a.2<b.2)) else decide (a.1<b.1):=by
 unfold code;split
 ·split
  ·exact decide_eq_false (by omega)
  ·by_cases q:a.2<b.2
   ·rw[decide_eq_true q];exact decide_eq_true (by omega)
   ·rw[decide_eq_false q];exact decide_eq_false (by omega)
 ·by_cases q:a.1<b.1
  ·rw[decide_eq_true q];exact decide_eq_true (by omega)
  ·rw[decide_eq_false q];exact decide_eq_false (by omega)
theorem Quc{v v':Value}{a b:Int×Int}{C:Bool->Shared->Prop}(pa:PairV s.heap v a)(pb:PairV s.heap v' b)(ha:0<=a.2/\a.2<64)(hb:0<=b.2/\b.2<64)(h:C (decide (code a<code b)) s) :
  wpAny (model prog w) A (keyLt' (tuples' true) v v') C E s:=by
 obtain⟨x,ox,n,t,u,rfl,gx,cx,dx⟩:=pa.it;obtain⟨y,oy,m,t',u',rfl,gy,cy,dy⟩:=pb.it;rw[Qvi ha hb] at h;refine kat_lt gx dx gy dy ?_
 show KatLex prog w A true false C [(.int a.1 t,.int b.1 t'),(.int a.2 u,.int b.2 u')] 0 s;refine kat_cons (Qiy ?_);by_cases e:a.1=b.1
 ·rw[if_pos e] at h;rw[show(a.1 == b.1)=true from beq_iff_eq.mpr e];refine kat_yes (kat_cons (Qiy ?_));by_cases e2:a.2=b.2
  ·rw[if_pos e2] at h;rw[show(a.2 == b.2)=true from beq_iff_eq.mpr e2];exact kat_yes (kat_nil h)
  ·rw[if_neg e2] at h;rw[show(a.2 == b.2)=false from beq_eq_false_iff_ne.mpr e2];exact kat_no (kat_one _ _ (lt_int h))
 ·rw[if_neg e] at h;rw[show(a.1 == b.1)=false from beq_eq_false_iff_ne.mpr e];exact kat_no (oneLt_int h)
theorem Qmv{vs:List Value}{L:List (Int×Int)}{Q:Qbg->Shared->Prop}(r:PairsV s.heap vs L)(h2:2<=vs.length)(h:Q (tuples' true) s):wpAny (model prog w) A (keyKind' vs.toArray) Q E s:=by
 obtain⟨fs,k,l,f⟩:=r.firsts;refine kat_kind (T:=.type "int") k (by omega) (λv hv=>?_) (by decide +kernel) ?_
 ·obtain⟨i,t,rfl⟩:=f v hv;exact Looks.of_pure rfl
 ·rw[show(YQ "int" != YQ "tuple")=true by decide +kernel];exact h
theorem QeP{a:Addr}{vs:List Value}{L:List (Int×Int)}{n:Nat}{P:PySem.Fin->Shared->Prop}(ho:s.heap.get? a=some (seqObj "list" vs.toArray n))(h64:vs.length<64)(r:∀h',Kept a s.heap h'->PairsV h' vs L)(nd:L.Nodup)(hb:∀ij∈L,0<=ij.2/\ij.2<64)
  (h:∀p:Array Nat,Good vs.length p->Adj (λi=>code (L.getD i (0,0))) p vs.length->∀(h':Heap)(e:Nat),Kept a s.heap h'->h'.get? a=some (seqObj "list" (Z3 (p.toList.map λi=>vs.getD i Js)) e)->P (.done (.ret .none)) { s with heap:=h' }) :
  wpAny (model prog w) A (YF.«list.sort» ⟨[.ref a],[]⟩) P E s:=by
 have hl:vs.length=L.length:=(r s.heap (λb x _ e=>e)).len;have hb':∀i,i<vs.length->0<=(L.getD i (0,0)).2/\(L.getD i (0,0)).2<64:=λi hi=>by
  rw[Qd,Qc (by omega)];exact hb _ (Z1 _)
 refine Qfp ho h64 (λi=>code (L.getD i (0,0))) (tuples' true) (λi j hi hj e=>?_) (λh2 h' k Q' E' q=>Qmv (s:={ s with heap:=h' }) (r h' k) h2 q) (λh' k i j C hi hj q=>Quc (s:={ s with heap:=h' }) ((r h' k).at_ i hi) ((r h' k).at_ j hj) (hb' i hi) (hb' j hj) q) h;have bi:=hb' i hi;have bj:=hb' j hj;have e:code (L.getD i (0,0))=code (L.getD j (0,0)):=e;unfold code at e;have e':L.getD i (0,0)=L.getD j (0,0):=QcX (by omega) (by omega);rw[Qd,Qd,Qc (by omega),Qc (by omega)] at e';have pw:=Jq.mp nd;rcases ZQ i j with q | q | q
 ·exact absurd e' (pw i j (by omega) (by omega) q)
 ·exact q
 ·exact absurd e'.symm (pw j i (by omega) (by omega) q)
end
theorem Qnk{α:Type}{L:List α}{d:α}{p:Array Nat}(g:Good L.length p):(p.toList.map λi=>L.getD i d).Perm L:=by
 have e:(Qa L.length).map (λi=>L.getD i d)=L:=by
  apply Ja
  intro i;rw[Qo];by_cases h:i<L.length
  ·rw[Qr h,Qc h];show some (L.getD i d)=_;rw[Qd,Qc h];rfl
  ·rw[Qp (by simpa using h),Qp (by omega)];rfl
 have:=g.perm.map λi=>L.getD i d
 rwa [e] at this
theorem Qnj{L:List (Int×Int)}{p:Array Nat}(g:Good L.length p)(ad:Adj (λi=>code (L.getD i (0,0))) p L.length)(inj:∀i j,i<L.length->j<L.length->code (L.getD i (0,0))=code (L.getD j (0,0))->i=j) :
  (p.toList.map λi=>L.getD i (0,0)).Pairwise λa b=>code a<code b:=by
 rw[Jq];intro i j hi hj hij;rw[Qe,Qw] at hi hj;have hs:=g.size;rw[QsR,QsR,J1,J1];have ei:p[i]=at_ p i:=by have:=Qik (p:=p) (i:=i) (by omega);rw[Zu (by omega)] at this;exact QK this
 have ej:p[j]=at_ p j:=by have:=Qik (p:=p) (i:=j) (by omega);rw[Zu (by omega)] at this;exact QK this
 rw[ei,ej];have le:=ad.le (i:=i) (j:=j) (by omega) (by omega);have ne:=QuQ (K:=λi=>code (L.getD i (0,0))) inj g (i:=i) (j:=j) (by omega) (by omega) (by omega);have le:code (L.getD (at_ p i) (0,0))<=code (L.getD (at_ p j) (0,0)):=le;have ne:code (L.getD (at_ p i) (0,0))≠code (L.getD (at_ p j) (0,0)):=ne;omega
end Rs
namespace L2
open _root_.Rd _root_.Rk _root_.Rs
section
variable{X:Cx}
theorem QhL{P:QB}{w:Jd}{H:Hp}{h:Heap}(ok:HOk P w H h):∀{xs:List V}{L:List (Int×Int)}{vs:List Value},Dats H xs (L.map Rk.pairD)->Vals xs vs->PairsV h vs L
 |_,[],vs,.nil,r=>by cases r;exact .nil
 |_,ij::L,vs,.cons (x:=x) (xs:=xs) q qs,r=>by
  cases r with
  |cons r rs=>
   refine .cons ?_ (QhL ok qs rs)
   cases q with
   |@tup a ys ds e q2=>
    cases r;obtain⟨_,its,rv,o,ho,hc,_,n,hd⟩:=ok a _ e;cases q2 with
    |cons q3 q4=>
     cases q4 with
     |cons q5 q6=>
      cases q6;cases q3;cases q5;cases rv with
      |cons r1 r2=>
       cases r2 with
       |cons r3 r4=>
        cases r4;obtain⟨t,rfl⟩:=r1;obtain⟨u,rfl⟩:=r3;exact⟨_,o,n,t,u,rfl,ho,hc,hd⟩
theorem QnG{H:Hp}:∀{xs:List V}{L:List (Int×Int)},Dats H xs (L.map Rk.pairD)->∀i,i<xs.length->Dat H (xs.getD i .non) (Rk.pairD (L.getD i (0,0)))
 |_,[],.nil,i,hi=>by simp at hi
 |_,ij::L,.cons q qs,0,hi=>q
 |_,ij::L,.cons q qs,i+1,hi=>by
  have:=QnG (L:=L) qs i (by simpa using hi)
  simpa using this
theorem QlI:∀{xs:List V}{vs:List Value},Vals xs vs->∀i,i<xs.length->RelV (xs.getD i .non) (vs.getD i Js)
 |_,_,.nil,i,hi=>by simp at hi
 |_,_,.cons q qs,0,hi=>q
 |_,_,.cons q qs,i+1,hi=>by
  have:=QlI qs i (by simpa using hi)
  simpa using this
theorem Qkb{H:Hp}{f:Nat->V}{g:Nat->Int×Int}:∀{is:List Nat},(∀i∈is,Dat H (f i) (Rk.pairD (g i)))->Dats H (is.map f) ((is.map g).map Rk.pairD)
 |[],_=>.nil
 |i::is,h=>.cons (h i (.head _)) (Qkb λj hj=>h j (.tail _ hj))
theorem Qjt{f:Nat->V}{g:Nat->Value}:∀{is:List Nat},(∀i∈is,RelV (f i) (g i))->Vals (is.map f) (is.map g)
 |[],_=>.nil
 |i::is,h=>.cons (h i (.head _)) (Qjt λj hj=>h j (.tail _ hj))
def Ql9:List V->Hp->VK->Prop:=λxs H Q=>∃(l:Addr)(vs:List V)(L:List (Int×Int)),xs=[.ref l]/\H l=some (.lst vs)/\Dats H vs (L.map Rk.pairD)/\L.Nodup/\L.length<64/\(∀ij∈L,0<=ij.2/\ij.2<64) /\
 ∀(t:Addr)(ys:List V)(M:List (Int×Int))(H2:Hp),Same H H2->H t=none->H2 t=some (.lst ys)->Dats H2 ys (M.map Rk.pairD)->M.Perm L->M.Pairwise (λa b=>Rs.code a<Rs.code b)->Q (.ref t) H2
theorem Qk6:CallR X (.builtin "sorted") Ql9:=by
 intro pins s σ H xs us Q I r h;obtain⟨l,vs,L,rfl,hl,ds,nd,h64,hb,q⟩:=h;obtain⟨u,rfl,ru⟩:=vals1 r;cases ru;obtain⟨hz,its,n,rv,ho⟩:=I.hok l _ hl;have pv:=QhL I.hok ds rv;have lv:=ds.length;rw[Qe] at lv;have li:=rv.length;have lp:=pv.len;refine QbJ (.inl rfl) ho rfl rfl (by omega) λh' kp P E' hP=>?_
 refine QeP (s:={ s with heap:=h'.push (seqObj "list" its.toArray 0) }) (vs:=its) (L:=L) (Qs _ rfl) (by omega) (λh2 k2=>?_) nd hb λp g ad h2 e k2 e2=>hP _ ?_
 ·exact(pv.keep kp).keep λb x e=>k2 b x (QL (Qq e)) (Qi _ e)
 ·have I1:Inv X pins σ H { s with heap:=h' }:=I.kept (t':=s.toks) kp;have hf:H h'.objs.size=none:=I1.hok.fresh (Ql _);have hp:∀i∈p.toList,i<vs.length:=λi hi=>by have:=Qu.mp (g.perm.mem_iff.mp hi);omega
  have I2:Inv X pins σ (upd H h'.objs.size (.lst (p.toList.map λi=>vs.getD i .non))) { s with heap:=h2 }:=
   I1.laid (t':=s.toks) (λb x e'=>k2 b x (QL (Qq e')) (Qi _ e')) (Ql _) (show ObjOk X.prog X.w _ _ _ (.lst _) from⟨by rw[Qe,Qw,g.size];exact J4 (Rk.Qar (by omega)),_,e,Qjt λi hi=>QlI rv i (hp i hi),e2⟩)
  have g':Good L.length p:=by rw[<- lp];exact g
  have ad':Adj (λi=>Rs.code (L.getD i (0,0))) p L.length:=by rw[<- lp];exact ad
  refine⟨.ref h'.objs.size,_,I2,rfl,q _ _ (p.toList.map λi=>L.getD i (0,0)) _ (Jt hf) hf Jj (Qkb λi hi=>(QnG ds i (hp i hi)).same (Jt hf)) (Qnk g') (Qnj g' ad' λi j hi hj e=>?_)⟩;have bi:0<=(L.getD i (0,0)).2/\(L.getD i (0,0)).2<64:=by rw[Qd,Qc hi];exact hb _ (Z1 _)
  have bj:0<=(L.getD j (0,0)).2/\(L.getD j (0,0)).2<64:=by rw[Qd,Qc hj];exact hb _ (Z1 _)
  unfold Rs.code at e;have e':L.getD i (0,0)=L.getD j (0,0):=QcX (by omega) (by omega);rw[Qd,Qd,Qc hi,Qc hj] at e';have pw:=Jq.mp nd;rcases ZQ i j with z | z | z
  ·exact absurd e' (pw i j hi hj z)
  ·exact z
  ·exact absurd e'.symm (pw j i hj hi z)
theorem Qeq:∀{ns:List Int}{vs:List Value},Vals (ns.map V.int) vs->Y2 vs ns
 |[],_,.nil=>.nil
 |i::ns,_,.cons ⟨t,e⟩ r=>by subst e;exact .cons _ _ (Qeq r)
theorem Qdr:∀{ns:List Int}{vs:List Value},Y2 vs ns->Vals (ns.map V.int) vs
 |_,_,.nil=>.nil
 |_,_,.cons n t r=>.cons ⟨t,rfl⟩ (Qdr r)
def QrW(K:PySem.W.Frag):List V->Hp->VK->Prop:=λxs H Q=>∃l ns,xs=[.ref l]/\SqT K H l ((ns:List Int).map V.int)/\ns.length<64 /\
 ∀t ms H2,Same H H2->H t=none->H2 t=some (.lst ((ms:List Int).map V.int))->ms.Perm ns->ms.Pairwise (·<=·)->Q (.ref t) H2
theorem Qk7:CallR X (.builtin "sorted") (QrW X.K):=by
 intro pins s σ H xs us Q I r h;obtain⟨l,ns,rfl,hl,h64,q⟩:=h;obtain⟨u,rfl,ru⟩:=vals1 r;cases ru;obtain⟨its,rv,tp,hz⟩:=I.tuple hl;obtain⟨o,ho,hc,n,hd⟩:=tp;have li:=rv.length;rw[Qe] at li;refine QbJ (.inr rfl) ho hc hd (by omega) λh' kp P E' hP=>?_
 have hn:(h'.push (seqObj "list" its.toArray 0)).get? h'.objs.size=some (seqObj "list" its.toArray 0):=Qs _ rfl;refine Qlq (s:={ s with heap:=h'.push (seqObj "list" its.toArray 0) }) hn (Qeq rv) (by omega) λout ns' ia pm pw=>hP _ ?_
 have I1:Inv X pins σ H { s with heap:=h' }:=I.kept (t':=s.toks) kp;have hf:H h'.objs.size=none:=I1.hok.fresh (Ql _);obtain⟨e,he⟩:∃e,(sortedHeap (h'.push (seqObj "list" its.toArray 0)) h'.objs.size its out).get? h'.objs.size=some (seqObj "list" out e):=QfZ hn
 have rv':=Qdr ia;have lp:=pm.length_eq;have I2:Inv X pins σ (upd H h'.objs.size (.lst (ns'.map V.int))) { s with heap:=sortedHeap (h'.push (seqObj "list" its.toArray 0)) h'.objs.size its out }:=
  I1.laid (t':=s.toks) (λb x e'=>(Qe9 (QL (Qq e')) (QP (Qq e') (by rw[Qhg];exact Qcm _))).trans (Qi _ e')) (Ql _) (show ObjOk X.prog X.w _ _ _ (.lst _) from⟨by rw[Qe];exact J4 (Rk.Qar (by omega)),out.toList,e,rv',by rw[he]⟩)
 exact⟨.ref h'.objs.size,_,I2,rfl,q _ ns' _ (Jt hf) hf Jj pm pw⟩
end
end L2
namespace Re
open AutoSeq1 (wpAny_loadPart')
theorem Qsq{prog:QB}{w:Jd}{A:Q1}{it t:Addr}{items:Array Value}(hh:A.handled=none)(hti:t≠it) :
  Draws prog w A it [it,t] items.size (λi x=>items[i]? = some x) (λi h=>h.IsTupleIter it t i/\h.IsTuple t items) where
 live:=λi h st=>by
  obtain⟨⟨o,ho,_⟩,_⟩:=st;exact⟨o,ho⟩
 frame:=λi h h' st k=>by
  obtain⟨⟨o,ho,c⟩,⟨o2,h2,c2⟩⟩:=st;exact⟨⟨o,k it (by simp) _ ho,c⟩,⟨o2,k t (by simp) _ h2,c2⟩⟩
 item:=λi s Q E hi st hQ=>by
  refine Rz.QpG st.1 st.2 (x:=items[i]) (by simp[hi]) λh' hit' hs'=>?_
  refine hQ _ h' s.toks (by simp[hi]) ⟨hit',?_⟩ hs';obtain⟨o2,h2,c2⟩:=st.2;exact⟨o2,(hs'.2 t hti).trans h2,c2⟩
 done:=λs Q E st hE=>Rz.Qux hh st.1 st.2 (by simp) hE
theorem QkU(l:Addr)(items:Array Value)(n:Nat)(dct:Option Addr)(sl:Array (Option Value)) :
  Meets (YF.«enumerate.__new__» ⟨[.type "enumerate",.ref l],[]⟩) (λ_ R s=>s.heap.get? l=some { cls:=.type "tuple",dict:=dct,data:=.seq items n,slots:=sl } /\
   R (.ok (.ret (.ref (s.heap.push { cls:=.type "tuple_iterator",data:=.fields #[.ref l,.int 0 0] }).objs.size)))
    { s with heap:=(s.heap.push { cls:=.type "tuple_iterator",data:=.fields #[.ref l,.int 0 0] }).push { cls:=.type "enumerate",data:=.fields #[.none,.bool false,.ref s.heap.objs.size,rawInt 0,.none,.none] } }):=
 .of_wp λprog w A R s h=>by
  obtain⟨hp,g,d,tk,os⟩:=s;obtain⟨hl,h⟩:=h;have hsub:=sub_enumerate;have hL:Heap.IsTuple (Shared.heap ⟨hp,g,d,tk,os⟩) l items:=⟨_,hl,rfl,n,rfl⟩
  wp_walk using ZZ hl
  refine wpAny_stack_any λst=>Qj ?_
  split
  ·rename_i c _ _ _ _ _
   cases(c == YQ "enumerate")
   ·wp_walk using ZZ hl,QbZ hL
    exact⟨_,rfl,h⟩
   ·wp_walk using ZZ hl,QbZ hL
    exact⟨_,rfl,h⟩
  ·wp_walk using ZZ hl,QbZ hL
   exact⟨_,rfl,h⟩
theorem Qk9{prog:QB}{w:Jd}{A:Q1}{E:Value->Shared->Prop}{s:Shared}{l:Addr}{items:Array Value}{Q:Value->Shared->Prop}(hL:s.heap.IsTuple l items)
  (h:∀h',IsEnum h' (s.heap.objs.size+1) s.heap.objs.size 0 .none->h'.IsTupleIter s.heap.objs.size l 0->(∀b o,s.heap.get? b=some o->h'.get? b=some o)->Q (.ref (s.heap.objs.size+1)) { s with heap:=h' }) :
  wpAny (model prog w) A (call (.type "enumerate") [.ref l]) Q E s:=by
 obtain⟨⟨c,dct,dt,sl⟩,hl,hc,n,hd⟩:=hL
 replace hc:c=.type "tuple" := hc
 replace hd:dt=.seq items n:=hd
 subst hc hd;refine callType_new F.called_enumerate (by decide) (F.typeCall_enumerate_1 _) (F.newCall_enumerate_1 _) (λobj=>QrG obj _) F.entry_enumerate_new (QkU l items n dct sl) ⟨hl,?_⟩;have hz:(s.heap.push { cls:=.type "tuple_iterator",data:=.fields #[.ref l,.int 0 0] }).objs.size=s.heap.objs.size+1:=Z9 ..;show _/\_;rw[hz];have he:=Qs (s.heap.push { cls:=.type "tuple_iterator",data:=.fields #[.ref l,.int 0 0] }) (o:={ cls:=.type "enumerate",data:=.fields #[.none,.bool false,.ref s.heap.objs.size,rawInt 0,.none,.none] }) rfl;rw[hz] at he;exact⟨⟨_,he,rfl⟩,h _ he ⟨_,Qi _ (Qs _ rfl),rfl,rfl⟩ λb o x=>Qi _ (Qi _ x)⟩
end Re
namespace L2
def Iet(l:Addr):It:=
 ⟨λi H=>∃xs x,H l=some (.tup xs)/\xs[i]? = some x,
  λi H v H'=>∃p x,H p=none/\(∀xs,H l=some (.tup xs)->xs[i]? = some x)/\v=.ref p/\H'=upd H p (.tup [.int (i:Nat),x]),
  λi H=>∃xs,H l=some (.tup xs)/\xs.length=i⟩
theorem QkA{P:QB}{w:Jd}{K:PySem.W.Frag}{elts:List Q3}{x1}{tpos:Pos}{e it l:Addr}(hne:e≠it) :
  Turn P w K (.Tuple elts x1 tpos) (Iet l) [e,it] e (λi h=>(∃old,IsEnum h e it (i:Nat) old)/\h.IsTupleIter it l i) where
 mem:=by simp
 obj:=λi h st b hb=>by
  obtain⟨⟨old,a1⟩,⟨o2,a2,_,d2⟩⟩:=st;simp only[Qz,JJ,or_false] at hb;rcases hb with rfl | rfl
  ·exact⟨_,a1,λv q=>nomatch q⟩
  ·exact⟨_,a2,λv q=>by rw[d2] at q;cases q⟩
 keep:=λi h h' st k=>by
  obtain⟨⟨old,a1⟩,⟨o2,a2,c2⟩⟩:=st;exact⟨⟨old,k e (by simp) _ a1⟩,o2,k it (by simp) _ a2,c2⟩
 item:=by
  intro X hP hw hK hc i pins s σ H E I hf st hg;subst hP hw hK;obtain⟨xs,x,h1,hx⟩:=hg;obtain⟨⟨old,a1⟩,a2⟩:=st;obtain⟨its,r1,p1,_⟩:=I.tuple (SqT.of h1);obtain⟨u,hu,ru⟩:=r1.get hx;have nel:e≠l:=λz=>by have q:=(hf e (by simp)).1;rw[z,h1] at q;cases q
  have nil:l≠it:=λz=>by have q:=(hf it (by simp)).1;rw[<- z,h1] at q;cases q
  have hi:i<its.toArray.size:=by
   have:=(Jh.mp hu).1
   simpa using this
  refine wpAny_pyNext_enum_itemD (Re.Qsq (A:=X.A.in1) (t:=l) (I.ok.hd hc) nil) a1 ⟨a2,p1⟩ hi hne (by simp[hne,nel]) λy h' tk hy o' l' tp sz kp=>?_
  have ey:y=u:=by
   have e1:its.toArray[i]? = some u:=by simpa using hu
   rw[e1] at hy;exact(QK hy).symm
  subst ey;obtain⟨l',tq⟩:=l';have fr:H s.heap.objs.size=none:=I.hok.fresh (Ql _);have n1:e≠s.heap.objs.size:=QL (Qq a1);have n2:it≠s.heap.objs.size:=by
   obtain⟨o2,a2,_⟩:=a2;exact QL (Qq a2)
  refine⟨_,rfl,Qle o' λh2 e2 s2=>?_⟩;have I1:Inv X pins σ (upd H s.heap.objs.size (.tup [.int (i:Nat),x])) { s with heap:=h2,toks:=tk+1 }:=by
   refine I.turnedNew (ch:=[e,it]) hf (λb v hb q=>?_) (Ql _) ⟨by show 2<=sizeLine;decide,[.int (i:Nat) tk,y],.cons ⟨_,rfl⟩ (.cons ru .nil),?_⟩
   ·simp only[Qz,JJ,or_false,not_or] at hb;exact s2.extBut _ _ hb.1 (kp b v hb.1 hb.2 q)
   ·exact⟨_,s2.extBut _ _ n1.symm tp,rfl,rfl,0,rfl⟩
  refine⟨.ref s.heap.objs.size,_,I1,rfl,⟨_,x,fr,λxs' q=>?_,rfl,rfl⟩,⟨⟨y,e2⟩,?_⟩,λb hb=>?_⟩
  ·rw[h1] at q;cases q;exact hx
  ·exact l'.extBut s2.extBut hne.symm
  ·simp only[Qz,JJ,or_false] at hb;rcases hb with rfl | rfl
   ·rw[JM n1];exact(hf _ (by simp)).1
   ·rw[JM n2];exact(hf _ (by simp)).1
 done:=by
  intro X hP hw hK hc i pins s σ H E I hf st hg;subst hP hw hK;obtain⟨xs,h1,he⟩:=hg;obtain⟨⟨old,a1⟩,a2⟩:=st;obtain⟨its,r1,p1,_⟩:=I.tuple (SqT.of h1);have l1:=r1.length;have nel:e≠l:=λz=>by have q:=(hf e (by simp)).1;rw[z,h1] at q;cases q
  have nil:l≠it:=λz=>by have q:=(hf it (by simp)).1;rw[<- z,h1] at q;cases q
  have e0:its.toArray.size=i:=by rw[Qm];omega
  have D:=Re.Qsq (prog:=X.prog) (w:=X.w) (A:=X.A.in1) (t:=l) (items:=its.toArray) (I.ok.hd hc) nil;rw[e0] at D;refine wpAny_pyNext_enum_endD D a1 ⟨a2,p1⟩ λh' kp=>⟨rfl,I.turnedAll (t':=s.toks) (ch:=[e,it]) hf λb v hb q=>?_⟩
  simp only[Qz,JJ,or_false,not_or] at hb;exact kp b v hb.2 q
 self:=λ_ _ _ _ _ st h=>by
  obtain⟨⟨old,a1⟩,_⟩:=st;exact Qcy a1 h
def Qx8(ta:TA):TI:=λσ H R=>ta σ H λvs H1=>∃l xs,vs=[.ref l]/\H1 l=some (.tup xs)/\R (Iet l) H1
section
variable{X:Cx}
theorem Qo9{a:Q3}{elts:List Q3}{x1}{tpos:Pos}{ta:TA}{p pos:Pos}(hg:Gl X "enumerate")(hm:X.mg "enumerate" = none)(ha:PA X [a] ta)(hs:starEach [a] X.env=[(false,eval a X.env)]:=by rfl) :
  PI X (.Tuple elts x1 tpos) (.Call (.Name "enumerate" p) [a] [] pos) (Qx8 ta):=by
 intro pins s σ H R I h;refine Call_ (Qdi I hg hm Qie (Zb (thn (ha pos pins s σ H _ I h) λus s1 ⟨vs,H1,I1,r1,q1⟩=>?_) hs rfl));obtain⟨l,xs,e,h1,q⟩:=q1;subst e;obtain⟨u,rfl,ru⟩:=vals1 r1;cases(show u=Zn l from ru);obtain⟨its,w1,p1,_⟩:=I1.tuple (SqT.of h1);refine Re.Qk9 p1 λh' e1 i1 kp=>?_
 refine Qcy (s:={ s1 with heap:=h' }) e1 ?_
 refine⟨s1.heap.objs.size+1,_,_,_,H1,rfl,I1.kept (t':=s1.toks) kp,QkA (by show ¬(s1.heap.objs.size+1=s1.heap.objs.size);omega),⟨⟨_,e1⟩,i1⟩,λb hb=>?_,q⟩;have hb':s1.heap.objs.size<=b:=by
  simp only[Qz,JJ,or_false] at hb;rcases hb with rfl | rfl<;>omega
 exact I1.fpOk hb' (I1.hok.fresh hb')
def Qtp:List V->Hp->VK->Prop:=λxs H Q=>∃r j,xs=[.ref r]/\H r=some (.rng 0 j) /\ -1000<=j/\j<=1000/\∀t H2,Same H H2->H t=none->H2 t=some (.lst ((Qa j.toNat).map λi=>V.int (i:Nat)))->Q (.ref t) H2
theorem Qe2(hc:X.calm=true):CallR X (.type "list") Qtp:=by
 intro pins s σ H xs us Q I r h;obtain⟨a,j,rfl,ha,h1,h2,q⟩:=h;obtain⟨u,rfl,ru⟩:=vals1 r;cases(show u=Zn a from ru);obtain⟨t1,t2,t3,e⟩:=I.hok a _ ha;have hn:Jk 0 j 1=((j.toNat:Nat):Int):=by rw[QcU];split<;>omega
 refine call_list_range (n:=j.toNat) (I.ok.hd hc) (show Qfk s.heap a 0 j 1 t1 t2 t3 from e) (small_one (by omega) (by omega) (by omega) (by omega)) hn (QJ (show j.toNat<=1000 by omega) (by decide)) λh' tk acc c' kp hS hacc=>?_
 have hz:acc.size=j.toNat:=hacc.1;have rv:=QfR hacc;have hf:H s.heap.objs.size=none:=I.hok.fresh (Ql _);refine⟨.ref s.heap.objs.size,upd H s.heap.objs.size (.lst ((Qa j.toNat).map λi=>V.int (i:Nat))),I.laid (t':=tk) kp (Ql _) ⟨?_,acc.toList,c',rv,by rw[hS]⟩,rfl,q _ _ (Jt hf) hf Jj⟩;rw[Qe,Qh];exact J4 (Rk.Qar (by omega))
end
end L2
namespace Rk
open L2
def QbL(m:Nat):List Int:=(Qa m).map λ(i:Nat)=>(i:Int)
theorem QfJ(m:Nat):(QbL m).length=m:=by
 unfold QbL;rw[Qe,Qh]
end Rk
namespace L2
section
variable{X:Cx}{pins:List (Addr×Obj)}{σ:St}{H:Hp}
theorem Qct{M:List Str}{scope:Qan}{fp:List Addr}{σ':St}{H3:Hp}{s3 s':Shared}{D:Addr}{i:Nat}{y:Str}{py:Pos}{Mo:Qzu}{A:Q1}{E:Value->Shared->Prop}{Q:Value->Shared->Prop}
  (I3:Inv X pins σ H3 s3)(f3:∀b∈fp,FpOk X pins H3 b)(J:Inv (blk X M scope (Qcf X.env scope.names []) fp s3 H3 s3.heap.objs.size) [] σ' H s')
  (hN:X.N.Nodup)(hi:X.N[i]? = some y)(hl:X.env.scope.names.lookup y=some .local)(hq:∀s2,Inv X pins (σ.set i (some (.ref D))) H s2->Q .none s2) :
  wpAny Mo A (assign (.Name y py) X.env (.ref D)) (λ_ s2=>∃m,s2.heap.Ns s3.heap.objs.size m/\∀h',Qay s3.heap.objs.size s2.heap h'->Q .none { s2 with heap:=h' }) E s':=by
 have J0:Inv X pins σ H s':=Qn2 I3 f3 J (Qit ..);obtain⟨m,hn,_⟩:=J.loc;have hC:H s3.heap.objs.size=none:=J.free;have lt:X.env.locals<s3.heap.objs.size:=I3.lt;refine Qzd (Qhv J0 hN hi (Q6 hl) (show RelV (.ref D) (.ref D) from rfl) (λs2 J2 ⟨a,sb,ha⟩=>?_) (.inr hl));have ea:a=X.env.locals∨X.env.cells.lookup y=some a:=ha;have na:s3.heap.objs.size≠a:=by
  rcases ea with z | z
  ·rw[z];exact QaA lt
  ·obtain⟨v,o,ho,_⟩:=I3.cell y a z;exact QaA (Qq ho)
 refine⟨m,hn.sameBut sb na,λh' hs=>hq _ ?_⟩;refine J2.turned (t':=s2.toks) (it:=s3.heap.objs.size) (λb o hb e=>hs.extBut b o hb e) hC (QaA lt) (.inr I3.sz) (λx c e z=>?_) λp hp z=>?_
 ·obtain⟨v,o,ho,_⟩:=I3.cell x c e;exact absurd (z ▸ Qq ho) (YV _)
 ·have e:=(I3.pin p hp).1;exact absurd (z ▸ Qq e) (YV _)
end
theorem Qo6{X:Cx}{M:List Str}{cap:List (Option Nat)}{elt tg iter:Q3}{ifs:List Q3}{scope:Qan}{pos:Pos}{wi:TI}{g:TG}{tc:TT}{te:TE}{i:Nat}{y:Str}{py spos:Pos}(hN:X.N.Nodup)(hiy:X.N[i]? = some y)(hly:X.env.scope.names.lookup y=some .local)(hc:X.calm=true)(ok:Qfs X.N X.env.scope M scope cap=true)
  (hi:PI X tg iter wi)(hb:∀cl ex s3 H3 C,PG (blk X M scope cl ex s3 H3 C) tg g/\PTs (blk X M scope cl ex s3 H3 C) ifs tc/\PE (blk X M scope cl ex s3 H3 C) elt te)
  (hs:∀x,foldedSetIterable iter X.env x=pure x:=by intro _;rfl)(hsw:swapsWith (.ListComp elt [⟨tg,iter,ifs,0⟩] scope pos) (some (.Name y py)) spos.line X.env=pure true:=by rfl):PS X (.Assign [.Name y py] (.ListComp elt [⟨tg,iter,ifs,0⟩] scope pos) spos) (QrN (tComp cap wi g tc te) (Qfq i)):=by
 intro pins s σ H D I h;have c:=CapOk.of ok;rw[QsI _ _ _ _ hsw];refine wpAny_bind (wpAny_standAt (wpAny_bind ?_));show wpAny _ X.A (do let _ <- comprehension (.ListComp elt [⟨tg,iter,ifs,0⟩] scope pos) scope X.env _ (newList []) false (eval iter X.env) (some (assign (.Name y py) X.env))) _ _ s;refine wpAny_bind (wpAny_mono (Qcz (use:=some (assign (.Name y py) X.env)) (Q:=λ_ s'=>SP X pins D .next s') rfl hs (Qjb (I.ok.cells c)) c.kind c.loc ?_) (λ_ s' hq=>Qj (Qj hq)) λ_ _ e=>e);refine thn (hi pins s σ H _ I h) λv s1 h1=>thn h1 λitv s2 h2=>?_
 obtain⟨it,fp,tn,J,H2,e,I2,T,st2,f2,hW⟩:=h2;subst e;refine Jc (Qev c.cell (by intro y hy;simp at hy) (λh₁ hns₁ hsb₁=>?_) c.kind);have I3:Inv X pins σ (upd H2 s2.heap.objs.size (.lst [])) { s2 with heap:=s2.heap.push { cls:=.type "list",data:=.seq ([]:List Value).toArray } }:=I2.lnew (t':=s2.toks) (ys:=[]) .nil (Q9 _);have lt2:∀b∈fp,b<s2.heap.objs.size:=λb hb=>by obtain⟨o,e,_⟩:=T.obj _ _ st2 b hb;exact Qq e
 have f3:∀b∈fp,FpOk X pins (upd H2 s2.heap.objs.size (.lst [])) b:=λb hb=>(f2 b hb).upd (QL (lt2 b hb))
 generalize hs3:({ s2 with heap:=s2.heap.push { cls:=.type "list",data:=.seq ([]:List Value).toArray } }:Shared)=s3 at I3;have e3:s3.heap=s2.heap.push { cls:=.type "list",data:=.seq ([]:List Value).toArray }:=by rw[<- hs3]
 have z3:s3.heap.objs.size=s2.heap.objs.size+1:=by rw[e3,Z9]
 have hk:∀b o,s3.heap.get? b=some o->h₁.get? b=some o:=λb o e=>hsb₁.extBut b o (by
  have:=Qq e;rw[e3] at this;exact QL this) (Qi _ (e3 ▸ e))
 have hn₁:h₁.Ns s3.heap.objs.size λ_=>none:=by rw[e3];exact hns₁
 have B:=Qe3 (t4:=s3.toks+([]:List (Str×Value)).length) (fp:=fp) I3 c f3 (λb hb=>by rw[z3];exact Ym (lt2 b hb)) hn₁ hk;have st4:tn 0 h₁:=T.keep _ _ _ st2 λb hb o e=>hk b o (by rw[e3];exact Qi _ e)
 have fp4:∀b∈fp,FpOk (blk X M scope (Qcf X.env scope.names []) fp s3 (upd H2 s2.heap.objs.size (.lst [])) s3.heap.objs.size) [] (upd H2 s2.heap.objs.size (.lst [])) b:=λb hb=>by
  refine⟨(f3 b hb).1,(B.ok.exf b hb).1,B.ok.exfs b hb,.inl hb,(B.ok.exf b hb).2,λp hp=>(nomatch hp)⟩
 obtain⟨hg,ht,he⟩:=hb (Qcf X.env scope.names []) fp s3 (upd H2 s2.heap.objs.size (.lst [])) s3.heap.objs.size;have loop:codeAny (model X.prog X.w) X.A (.compLoop (.ListComp elt [⟨tg,iter,ifs,0⟩] scope pos) 0 (.ref it) (.ref s2.heap.objs.size) (compEnvC scope (Qcf X.env scope.names []) s3.heap.objs.size X.env))
   (compPost (model X.prog X.w) X.A X.xe (some (assign (.Name y py) X.env)) (λ_ s'=>SP X pins D .next s') (.ref s2.heap.objs.size) s3.heap.objs.size) { s3 with heap:=h₁,toks:=s3.toks+([]:List (Str×Value)).length }:=by
  refine Qdm (Y:=blk X M scope (Qcf X.env scope.names []) fp s3 (upd H2 s2.heap.objs.size (.lst [])) s3.heap.objs.size) (gens:=[⟨tg,iter,ifs,0⟩]) (d:=0) hc T st4 fp4
   (λQ E s h=>Qju Q E s h) (λx u r=>Qg0 rfl hg ht (λσ4=>Qg1 rfl he) x u r) B (hW _ (I2.hok.fresh (Ql _))) λs' H' I' q=>?_
  exact Qct (Q:=λ_ s'=>SP X pins D .next s') I3 f3 I' hN hiy hly λs2' J2=>⟨_,H',J2,q⟩
 exact QdA loop (T.self _ 0 _ _ _ st4 loop)
theorem QhI{X:Cx}{M:List Str}{cap:List (Option Nat)}{elt tg iter tg2 iter2:Q3}{ifs ifs2:List Q3}{scope:Qan}{pos:Pos}{wi wi2:TI}{g g2:TG}{tc tc2:TT}{te:TE}{i:Nat}{y:Str}{py spos:Pos}(hN:X.N.Nodup)(hiy:X.N[i]? = some y)(hly:X.env.scope.names.lookup y=some .local)(hc:X.calm=true)(ok:Qfs X.N X.env.scope M scope cap=true)
  (hi:PI X tg iter wi)(hb:∀cl ex s3 H3 C,PG (blk X M scope cl ex s3 H3 C) tg g/\PTs (blk X M scope cl ex s3 H3 C) ifs tc/\PI (blk X M scope cl ex s3 H3 C) tg2 iter2 wi2/\PG (blk X M scope cl ex s3 H3 C) tg2 g2/\PTs (blk X M scope cl ex s3 H3 C) ifs2 tc2/\PE (blk X M scope cl ex s3 H3 C) elt te)
  (hs:∀x,foldedSetIterable iter X.env x=pure x:=by intro _;rfl)(hs2:∀env x,foldedSetIterable iter2 env x=pure x:=by intro _ _;rfl)(hsw:swapsWith (.ListComp elt [⟨tg,iter,ifs,0⟩,⟨tg2,iter2,ifs2,0⟩] scope pos) (some (.Name y py)) spos.line X.env=pure true:=by rfl):PS X (.Assign [.Name y py] (.ListComp elt [⟨tg,iter,ifs,0⟩,⟨tg2,iter2,ifs2,0⟩] scope pos) spos) (QrN (QrL cap wi g tc wi2 g2 tc2 te) (Qfq i)):=by
 intro pins s σ H D I h;have c:=CapOk.of ok;rw[QsI _ _ _ _ hsw];refine wpAny_bind (wpAny_standAt (wpAny_bind ?_));show wpAny _ X.A (do let _ <- comprehension (.ListComp elt [⟨tg,iter,ifs,0⟩,⟨tg2,iter2,ifs2,0⟩] scope pos) scope X.env _ (newList []) false (eval iter X.env) (some (assign (.Name y py) X.env))) _ _ s;refine wpAny_bind (wpAny_mono (Qcz (use:=some (assign (.Name y py) X.env)) (Q:=λ_ s'=>SP X pins D .next s') rfl hs (Qjb (I.ok.cells c)) c.kind c.loc ?_) (λ_ s' hq=>Qj (Qj hq)) λ_ _ e=>e);refine thn (hi pins s σ H _ I h) λv s1 h1=>thn h1 λitv s2 h2=>?_
 obtain⟨it,fp,tn,J,H2,e,I2,T,st2,f2,hW⟩:=h2;subst e;refine Jc (Qev c.cell (by intro y hy;simp at hy) (λh₁ hns₁ hsb₁=>?_) c.kind);have I3:Inv X pins σ (upd H2 s2.heap.objs.size (.lst [])) { s2 with heap:=s2.heap.push { cls:=.type "list",data:=.seq ([]:List Value).toArray } }:=I2.lnew (t':=s2.toks) (ys:=[]) .nil (Q9 _);have lt2:∀b∈fp,b<s2.heap.objs.size:=λb hb=>by obtain⟨o,e,_⟩:=T.obj _ _ st2 b hb;exact Qq e
 have f3:∀b∈fp,FpOk X pins (upd H2 s2.heap.objs.size (.lst [])) b:=λb hb=>(f2 b hb).upd (QL (lt2 b hb))
 generalize hs3:({ s2 with heap:=s2.heap.push { cls:=.type "list",data:=.seq ([]:List Value).toArray } }:Shared)=s3 at I3;have e3:s3.heap=s2.heap.push { cls:=.type "list",data:=.seq ([]:List Value).toArray }:=by rw[<- hs3]
 have z3:s3.heap.objs.size=s2.heap.objs.size+1:=by rw[e3,Z9]
 have hk:∀b o,s3.heap.get? b=some o->h₁.get? b=some o:=λb o e=>hsb₁.extBut b o (by
  have:=Qq e;rw[e3] at this;exact QL this) (Qi _ (e3 ▸ e))
 have hn₁:h₁.Ns s3.heap.objs.size λ_=>none:=by rw[e3];exact hns₁
 have B:=Qe3 (t4:=s3.toks+([]:List (Str×Value)).length) (fp:=fp) I3 c f3 (λb hb=>by rw[z3];exact Ym (lt2 b hb)) hn₁ hk;have st4:tn 0 h₁:=T.keep _ _ _ st2 λb hb o e=>hk b o (by rw[e3];exact Qi _ e)
 have fp4:∀b∈fp,FpOk (blk X M scope (Qcf X.env scope.names []) fp s3 (upd H2 s2.heap.objs.size (.lst [])) s3.heap.objs.size) [] (upd H2 s2.heap.objs.size (.lst [])) b:=λb hb=>by
  refine⟨(f3 b hb).1,(B.ok.exf b hb).1,B.ok.exfs b hb,.inl hb,(B.ok.exf b hb).2,λp hp=>(nomatch hp)⟩
 obtain⟨hg,ht,hi2,hg2,ht2,he⟩:=hb (Qcf X.env scope.names []) fp s3 (upd H2 s2.heap.objs.size (.lst [])) s3.heap.objs.size;have loop:codeAny (model X.prog X.w) X.A (.compLoop (.ListComp elt [⟨tg,iter,ifs,0⟩,⟨tg2,iter2,ifs2,0⟩] scope pos) 0 (.ref it) (.ref s2.heap.objs.size) (compEnvC scope (Qcf X.env scope.names []) s3.heap.objs.size X.env))
   (compPost (model X.prog X.w) X.A X.xe (some (assign (.Name y py) X.env)) (λ_ s'=>SP X pins D .next s') (.ref s2.heap.objs.size) s3.heap.objs.size) { s3 with heap:=h₁,toks:=s3.toks+([]:List (Str×Value)).length }:=by
  refine Qdm (Y:=blk X M scope (Qcf X.env scope.names []) fp s3 (upd H2 s2.heap.objs.size (.lst [])) s3.heap.objs.size) (gens:=[⟨tg,iter,ifs,0⟩,⟨tg2,iter2,ifs2,0⟩]) (d:=0) hc T st4 fp4
   (λQ E s h=>Qkz (hs2 _) Q E s h) (λx u r=>Qg0 rfl hg ht (λσ4=>Qn1 rfl hc hi2 hg2 ht2 he) x u r) B (hW _ (I2.hok.fresh (Ql _))) λs' H' I' q=>?_
  exact Qct (Q:=λ_ s'=>SP X pins D .next s') I3 f3 I' hN hiy hly λs2' J2=>⟨_,H',J2,q⟩
 exact QdA loop (T.self _ 0 _ _ _ st4 loop)
end L2
namespace Rk
open L2 _root_.Rd
section
variable{X:Cx}
def QB1(X:Cx):R2:=λx y H Q=>∃dx dy,Dat H x dx/\Dat H y dy/\X.A.units+min dx.depth dy.depth<cLine/\Q (.bl (!QC dx dy)) H
theorem Qxm:OpR X (compareOp .NotEq) (QB1 X):=by
 intro pins s σ H x y v u Q I rx ry h;obtain⟨dx,dy,qx,qy,hu,q⟩:=h;obtain⟨⟨as,ra⟩,ca⟩:=ZU I.hok dx x v qx rx;obtain⟨⟨bs,rb⟩,cb⟩:=ZU I.hok dy y u qy ry;exact SeqAt.compareNe_reads ra rb ca cb hu ⟨.bl _,H,I,rfl,q⟩
end
end Rk
namespace Rk
open L2
end Rk
namespace Rx
open PySem.Calls L2
section
variable{X:Cx}{E:XK}
end
section
variable{X:Cx}{tf:TE}{fe:Q3}{pos:Pos}{e:Q3}{es:List Q3}{t:TA}{M:Addr->Sp->Prop}
end
end Rx
namespace Rk
open L2 _root_.Rd
structure GlbA (mg:Str->Option Value):Prop where
 isinstance:mg "isinstance" = none
 int:mg "int" = none
 bool:mg "bool" = none
 str:mg "str" = none
 tuple:mg "tuple" = none
 list:mg "list" = none
 all:mg "all" = none
 len:mg "len" = none
 zip:mg "zip" = none
 enumerate:mg "enumerate" = none
 range:mg "range" = none
 max:mg "max" = none
 min:mg "min" = none
 sorted:mg "sorted" = none
 sum:mg "sum" = none
 set:mg "set" = none
 any:mg "any" = none
 reversed:mg "reversed" = none
 divmod:mg "divmod" = none
def QzY(u:Nat)(neg:Bool):R2:=λx y H Q=>∃c ps ds d,y=.ref c/\H c=some (.tup ps)/\Dats H ps ds/\Dat H x d/\u+d.depth<cLine/\Q (.bl (if neg then !(ds.any λe=>QC e d) else ds.any λe=>QC e d)) H
theorem Qxp{X:Cx}:OpR X (compareOp .In) (QzY X.A.in1.units false):=Qxq
end Rk
namespace Rx
open PySem.Calls L2
section
variable{P:QB}{w:Jd}{K:PySem.W.Frag}{mg:Str->Option Value}{base:Heap}
end
end Rx
namespace Rk
open L2 _root_.Rd
section
variable{X:Cx}{is js:List Nat}
end
end Rk
namespace L2
section
variable{prog:QB}{w:Jd}{A:Q1}{E:Value->Shared->Prop}{s:Shared}
end
section
variable{X:Cx}
end
def Qtq(K:PySem.W.Frag):List V->Hp->VK->Prop:=λxs H Q=>∃p ys,xs=[.ref p]/\(SqL K H p ys∨SqT K H p ys)/\Q (.int ys.length) H
theorem QsA:bootBuiltins "sum" = some (.builtin "sum"):=by decide +kernel
theorem bt_set:bootBuiltins "set" = some (.type "set"):=by decide +kernel
theorem QbV:bootBuiltins "sorted" = some (.builtin "sorted"):=by decide +kernel
def Qwv(K:PySem.W.Frag):List V->Hp->VK->Prop:=λxs H Q=>∃(p:Addr)(ns:List Int),xs=[.ref p]/\SqL K H p (ns.map V.int)/\Q (.int ns.sum) H
def CMulB(i j:Int):Prop:=∃k:Nat,k<=1000000/\i.natAbs<2^k/\j.natAbs<2^k
theorem Qn3{i:Int}{k:Nat}(h:i.natAbs<2^k):Zl i<=k:=by
 unfold Zl;split
 ·exact Q9 _
 ·rename_i z
  have hz:i.natAbs≠0:=by
   intro q;apply z
   have:i=0:=by omega
   subst this;rfl
  have:=(Nat.log2_lt hz).mpr h;omega
theorem CMulB.ok{i j:Int}(h:CMulB i j):IntMulOk i j:=by
 obtain⟨k,hk,h1,h2⟩:=h;have a:=Qn3 h1;have b:=Qn3 h2;unfold IntMulOk;have c:Qf7 (Zl i+Zl j:Nat)=false:=by
  unfold Qf7;rw[decide_eq_false];have:bitsLine=134217728:=by decide +kernel
  rw[this];omega
 intro z;rw[JK] at z;have z2:=z.2;have e:((Zl i+Zl j:Nat):Int)=(Zl i:Int)+(Zl j:Int):=by omega
 rw[e] at c;rw[c] at z2;cases z2
section
variable{X:Cx}
theorem Qui:OpR X (binaryOp .Mult) (rI CMulB λi j=>.int (i*j)):=opI λ_ _ _ _ _ _ _ hc q=>mul_int q hc.ok
theorem Qp5:QBN X (Qy0 X.K):=by
 intro pins s σ H o i ov iv Q I ro ri h;obtain⟨p,xs,k,z,rfl,rfl,hq,he,q⟩:=h;cases ro;obtain⟨t,rfl⟩:=ri;obtain⟨its,r,pl,hz⟩:=I.list hq;obtain⟨j,h1,h2,h3,h4,h5⟩:=Qjm he;obtain⟨w,ew,rw'⟩:=r.get h2;have hl:=r.length;have hn:=QfN;have fin:EP X pins σ Q w s:=⟨z,H,I,rw',q⟩;by_cases h0:0<=k
 ·have hj:k.toNat=j:=by
   rw[Qff h0 h5] at h1;exact QK h1
  exact wpAny_getItem_list pl.isList h0 (by omega) (by rw[hj];simpa using ew) fin
 ·have hj:(k+(its.toArray.size:Int)).toNat=j:=by
   rw[Qim (by omega) h4] at h1;rw[Qm,<- hl];exact QK h1
  exact Qrt pl.isList (by omega) (by rw[Qm]<;>omega) (by omega) (by rw[hj];simpa using ew) fin
theorem Qh9(hc:X.calm=true):CallR X (.builtin "sum") (Qwv X.K):=by
 intro pins s σ H xs us Q I r h;obtain⟨p,ns,rfl,hp,q⟩:=h;obtain⟨u,rfl,ru⟩:=vals1 r;cases ru;obtain⟨its,rv,pl,hz⟩:=I.list hp;have hi:Y2 its ns:=intsAre_of rv;obtain⟨ys,hx⟩:=hi.allInts.items;have hl':s.heap.IsList p (intItems ys):=hx ▸ pl.isList;refine sum_intListG (I.ok.hd hc) hl' λh' tk t' hk=>?_
 have e1:ns=ys.toList.map (·.1):=by
  rw[<- nums_intItems,<- hx];exact(show numsOf its.toArray.toList=ns from hi.numsOf).symm
 have e2:preSum (numAt ys) ys.size=ns.sum:=by
  rw[preSum_eq,Qcp (by simp),e1]
 rw[e2];exact⟨.int _,H,I.kept hk,⟨_,rfl⟩,q⟩
end
end L2
namespace Rk
open L2 _root_.Rd
def QBd(u:Nat):R2:=λx y H Q=>∃dx dy,Dat H x dx/\Dat H y dy/\u+min dx.depth dy.depth<cLine/\Q (.bl (!QC dx dy)) H
theorem Qxl{X:Cx}:OpR X (compareOp .NotEq) (QBd X.A.units):=Qxm
def QBk(u:Nat):R2:=λx y H Q=>∃dx dy,Dat H x dx/\Dat H y dy/\u+min dx.depth dy.depth<cLine/\Q (.bl (QC dx dy)) H
theorem Qxt{X:Cx}:OpR X (compareOp .Eq) (QBk X.A.units):=Qxu
theorem QmB{X:Cx}:OpR X (compareOp .NotIn) (QzY X.A.in1.units true):=QmC
theorem QuA{σ:L2.St}{H:Hp}{A B:Hp->Prop}(h:A H):QiH σ H λb H5=>if b=true then A H5 else B H5:=by
 show(if true=true then A H else B H);exact QAA h
end Rk
namespace Rx
open PySem.Calls L2
end Rx
namespace Rk
open L2 _root_.Rd
theorem QuL{n:Nat}(h:n<=1000000):n<sizeLine:=YI h (by decide)
theorem Qnb{n k:Nat}(h:k<n):ixN n (k:Nat)=some k:=by
 unfold ixN;rw[if_pos (by omega),if_pos (by omega)];simp
end Rk
namespace HT
theorem QoY(A:Q1)(s:Shared)(a:Int)(t:Tok)(c:Int)(u:Tok)(prog:QB)(w:Jd)(E:Value->Shared->Prop)(Q:Value->Shared->Prop)(h:Q (.bool (decide (c<a))) s) :
  wpAny (model prog w) A (richCompare .Gt (.int a t) (.int c u)) Q E s:=
 (PyProof.Rows.gt_int h:wpAny (model prog w) A (compareOp .Gt (.int a t) (.int c u)) Q E s)
section
open PySem.SeqAt
open PySem.AutoSeq1 (wpAny_loadPart')
open PySem.MeetsSeq PySem.MeetsSeq2 PySem.MeetsSeq3
end
section
variable{prog:QB}{w:Jd}{A:Q1}{E:Value->Shared->Prop}{s:Shared}
end
end HT
namespace L2
end L2
namespace Rt
abbrev le (c:Y6->Y6->Bool) (x y:Y6):Prop:=c y x=false
section
variable{c:Y6->Y6->Bool}
end
def kx(xs:Array Y6)(i:Nat):Y6:=(xs[i]?).getD (Js,Js)
structure SB (κ:Qbg) (a₀:Array Y6) (st:SortSt):Prop where
 perm:(arrOf st).Perm a₀
 kind:kindOf st=κ
 failed:failedOf st=none
theorem SB.size{κ:Qbg}{a₀:Array Y6}{st:SortSt}(h:SB κ a₀ st):(arrOf st).size=a₀.size:=h.perm.size_eq
theorem SB.mem{κ:Qbg}{a₀:Array Y6}{st:SortSt}(h:SB κ a₀ st){p:Y6}(e:p∈(arrOf st).toList):p∈a₀.toList:=(Qa2.mp h.perm).mem_iff.mp e
section
variable{prog:QB}{w:Jd}{A:Q1}{E:Value->Shared->Prop}{s:Shared}{a₀:Array Y6}{κ:Qbg}{c:Y6->Y6->Bool}
end
section
variable{c:Y6->Y6->Bool}
variable{a b r:Array Y6}{i j k:Nat}
end
structure Sm (st st':SortSt):Prop where
 kind:kindOf st'=kindOf st
 arr:arrOf st'=arrOf st
 pend:pendingOf st'=pendingOf st
 failed:failedOf st'=failedOf st
section
variable{prog:QB}{w:Jd}{A:Q1}{E:Value->Shared->Prop}{s:Shared}{a₀:Array Y6}{κ:Qbg}{c:Y6->Y6->Bool}
end
section
variable{c:Y6->Y6->Bool}
theorem Qj8(xs:Array Y6)(i:Nat):(xs.extract 0 i).toList=xs.toList.take i:=by
 rw[Array.toList_extract,List.extract_eq_take_drop,QcZ,Qiq]
variable{a b r:Array Y6}{i j t:Nat}
theorem Qy2(x y r:Array Y6)(i j:Nat):(x.extract 0 i++y.extract 0 j++r.reverse).toList=(x.toList.take i++y.toList.take j)++r.toList.reverse:=by
 rw[QlE,QlE,Qj8,Qj8,Array.toList_reverse]
end
section
variable{prog:QB}{w:Jd}{A:Q1}{E:Value->Shared->Prop}{s:Shared}{a₀:Array Y6}{κ:Qbg}{c:Y6->Y6->Bool}
end
section
variable{c:Y6->Y6->Bool}
end
section
variable{prog:QB}{w:Jd}{A:Q1}{E:Value->Shared->Prop}{s:Shared}{a₀:Array Y6}{κ:Qbg}{c:Y6->Y6->Bool}
end
def RunsOk:List (Nat×Nat)->Nat->Nat->Prop
 |[],s,e=>s=e
 |(s',n)::r,s,e=>s'=s/\1<=n/\RunsOk r (s+n) e
theorem RunsOk.le:∀{l:List (Nat×Nat)}{s e:Nat},RunsOk l s e->s+l.length<=e
 |[],s,e,h=>by cases(show s=e from h);exact Ql _
 |(s',n)::l,s,e,⟨_,h2,h3⟩=>by
  have:=RunsOk.le h3;rw[Qt];omega
theorem RunsOk.mem:∀{l:List (Nat×Nat)}{s e:Nat},RunsOk l s e->∀p∈l,s<=p.1/\p.1+p.2<=e
 |(s',n)::l,s,e,⟨h1,h2,h3⟩,p,hp=>by
  have hl:=RunsOk.le h3;rcases Qz.mp hp with z | z
  ·subst z;show s<=s'/\s'+n<=e;omega
  ·have:=RunsOk.mem h3 p z;omega
section
variable{prog:QB}{w:Jd}{A:Q1}{E:Value->Shared->Prop}{s:Shared}{a₀:Array Y6}{κ:Qbg}{c:Y6->Y6->Bool}
end
end Rt
namespace L2
def Qww(K:PySem.W.Frag):V->Option Int->Option Int->Hp->VK->Prop:=λx lo hi H Q=>∃a xs,x=.ref a/\SqL K H a xs/\∀p H',Same H H'->H p=none->H' p=some (.lst (Qke xs lo hi))->Q (.ref p) H'
theorem QoP{X:Cx}:SlR X (Qww X.K):=by
 intro pins s σ H x v vl vu lo hi sl Q I rx hs pl pu h;obtain⟨a,xs,e,hx,q⟩:=h;exact Qtd pins s σ H x v vl vu lo hi sl Q I rx hs pl pu ⟨a,xs,e,hx,λp hp=>q p _ (Jt hp) hp Jj⟩
theorem cut_last(xs:List V):(Qke xs (some (-1)) none).length<=1:=by
 unfold Qke;rw[Yw,QaI];have h2:xs.length - 1<=HT.sIx xs.length 0 (some (-1)):=by
  show xs.length - 1<=(if(-1:Int)<0 then((-1:Int)+(xs.length:Int)).toNat else min (-1:Int).toNat xs.length);rw[if_pos (by decide)];omega
 omega
end L2
namespace Rk
open L2 _root_.Rd
end Rk
namespace L2
section
variable{X:Cx}
def Ql8(K:PySem.W.Frag):List V->Hp->VK->Prop:=λxs H Q=>∃p ys,xs=[.ref p]/\((SqL K H p ys/\∀l H',Same H H'->H l=none->H' l=some (.tup ys)->Q (.ref l) H')∨(SqT K H p ys/\Q (.ref p) H))
theorem Yo:CallR X (.type "tuple") (Ql8 X.K):=by
 intro pins s σ H xs us Q I r h;obtain⟨p,ys,e,h⟩:=h;refine Qdp pins s σ H xs us Q I r ⟨p,ys,e,?_⟩;rcases h with⟨h1,h2⟩ | h
 ·exact .inl ⟨h1,λl hl=>h2 l _ (Jt hl) hl Jj⟩
 ·exact .inr h
def Qmb(K:PySem.W.Frag):List V->Hp->VK->Prop:=λxs H Q=>∃p ys,xs=[.ref p]/\(SqL K H p ys∨SqT K H p ys)/\∀l H',Same H H'->H l=none->H' l=some (.lst ys)->Q (.ref l) H'
theorem QgY:CallR X (.type "list") (Qmb X.K):=by
 intro pins s σ H xs us Q I r h;obtain⟨p,ys,e,h1,h2⟩:=h;exact Qid pins s σ H xs us Q I r ⟨p,ys,e,h1,λl hl=>h2 l _ (Jt hl) hl Jj⟩
end
end L2
namespace Rk
open L2 _root_.Rd
def Qlo:Nat->Int
 |0=>1
 |n+1=>Qlo n*((n:Int)+1)
theorem Qu3:∀n:Fin 13,0<Qlo n.val/\Qlo n.val<=479001600:=by decide +kernel
theorem Qye{n:Nat}(h:n<=12):0<Qlo n/\Qlo n<=479001600:=Qu3 ⟨n,by omega⟩
end Rk
namespace L2
section
variable{X:Cx}
theorem Qx6{op:Qb1}{r:R2}(h:OpR X (inplaceOp op) r):PIp X op r:=λpins s σ H x y v u Q I rx ry q=>h pins s σ H x y v u Q I rx ry q
end
section
variable{X:Cx}
end
end L2
namespace Rk
open L2 _root_.Rd
end Rk
namespace Rx
open PySem.Calls L2
section
variable{X:Cx}{e:Q3}{st:YO}{pos:Pos}{te:TX}{t u:TSX}{tc:TT}{c:Q3}{a b:List YO}
end
section
variable{X:Cx}{R:Addr}{i:Nat}{n r:Str}{body:List YO}{hx:Q3}{tb:TSX}{th:TE}{np hp hpos pos:Pos}
end
end Rx
namespace L2
section
variable{X:Cx}
end
end L2
namespace Rk
open L2 _root_.Rd
def isLV(H:Hp):V->Bool
 |.ref a=>match H a with
  |some (.lst _)=>true
  |_=>false
 |_=>false
end Rk
namespace Dl
open L2 _root_.Rd Rk
def dkV(kvs:List (Int×Int)):List (Key×V):=kvs.map λp=>(QcW p.1,V.int p.2)
def dkD(kvs:List (Int×Int)):List (Qb×Qb):=kvs.map λp=>(Qk p.1,Qk p.2)
mutual
inductive DA (A:Addr->Prop) (H:Hp):V->Qb->Prop
 |non:DA A H .non .none
 |bl (b:Bool):DA A H (.bl b) (.bool b)
 |int (i:Int):DA A H (.int i) (.int i)
 |str (x:Str):Qbb (.str x)=true->DA A H (.str x) (.str x)
 |tup {a:Addr} {xs:List V} {ds:List Qb}:¬A a->H a=some (.tup xs)->DAs A H xs ds->DA A H (.ref a) (.tuple ds)
 |lst {a:Addr} {xs:List V} {ds:List Qb}:¬A a->H a=some (.lst xs)->DAs A H xs ds->DA A H (.ref a) (.list ds)
 |dct {a:Addr} {kvs:List (Int×Int)} {ds:List (Qb×Qb)}:¬A a->H a=some (.dK (dkV kvs))->ds=dkD kvs->DA A H (.ref a) (.dict ds)
inductive DAs (A:Addr->Prop) (H:Hp):List V->List Qb->Prop
 |nil:DAs A H [] []
 |cons {x:V} {xs:List V} {d:Qb} {ds:List Qb}:DA A H x d->DAs A H xs ds->DAs A H (x::xs) (d::ds)
end
mutual
theorem Qyl{A A':Addr->Prop}{H H':Hp}(k:∀a o,¬A a->H a=some o->H' a=some o)(m:∀a,A' a->A a∨H a=none):∀(d:Qb)(x:V),DA A H x d->DA A' H' x d
 |.none,_,.non=>.non
 |.bool _,_,.bl _=>.bl _
 |.int _,_,.int _=>.int _
 |.str _,_,.str _ c=>.str _ c
 |.tuple ds,_,.tup (xs:=xs) n e q=>.tup (λz=>(m _ z).elim n λz=>by rw[z] at e;cases e) (k _ _ n e) (Qkd k m ds xs q)
 |.list ds,_,.lst (xs:=xs) n e q=>.lst (λz=>(m _ z).elim n λz=>by rw[z] at e;cases e) (k _ _ n e) (Qkd k m ds xs q)
 |.dict _,_,.dct n e q=>.dct (λz=>(m _ z).elim n λz=>by rw[z] at e;cases e) (k _ _ n e) q
theorem Qkd{A A':Addr->Prop}{H H':Hp}(k:∀a o,¬A a->H a=some o->H' a=some o)(m:∀a,A' a->A a∨H a=none):∀(ds:List Qb)(xs:List V),DAs A H xs ds->DAs A' H' xs ds
 |[],_,.nil=>.nil
 |d::ds,_,.cons (x:=x) (xs:=xs) q qs=>.cons (Qyl k m d x q) (Qkd k m ds xs qs)
end
theorem DA.mv{A A':Addr->Prop}{H H':Hp}{x:V}{d:Qb}(q:DA A H x d)(k:∀a o,¬A a->H a=some o->H' a=some o)(m:∀a,A' a->A a∨H a=none):DA A' H' x d:=Qyl k m d x q
theorem DAs.mv{A A':Addr->Prop}{H H':Hp}{x:List V}{d:List Qb}(q:DAs A H x d)(k:∀a o,¬A a->H a=some o->H' a=some o)(m:∀a,A' a->A a∨H a=none):DAs A' H' x d:=Qkd k m d x q
theorem DA.same{A:Addr->Prop}{H H':Hp}{x:V}{d:Qb}(q:DA A H x d)(s:Same H H'):DA A H' x d:=q.mv (λa o _ e=>s a o e) λa z=>.inl z
theorem DAs.same{A:Addr->Prop}{H H':Hp}{x:List V}{d:List Qb}(q:DAs A H x d)(s:Same H H'):DAs A H' x d:=q.mv (λa o _ e=>s a o e) λa z=>.inl z
theorem DAs.length{A:Addr->Prop}{H:Hp}:∀{xs:List V}{ds:List Qb},DAs A H xs ds->xs.length=ds.length
 |_,_,.nil=>rfl
 |_,_,.cons _ q=>by rw[Qt,Qt,q.length]
theorem DAs.get{A:Addr->Prop}{H:Hp}:∀{xs:List V}{ds:List Qb},DAs A H xs ds->∀(i:Nat)(d:Qb),ds[i]? = some d->∃x,xs[i]? = some x/\DA A H x d
 |_,_,.nil,i,x,e=>by simp at e
 |_,_,.cons q qs,0,x,e=>by simp at e;subst e;exact⟨_,rfl,q⟩
 |_,_,.cons q qs,i+1,x,e=>qs.get i x (by simpa using e)
theorem DAs.app{A:Addr->Prop}{H:Hp}:∀{xs ys:List V}{ds es:List Qb},DAs A H xs ds->DAs A H ys es->DAs A H (xs++ys) (ds++es)
 |_,_,_,_,.nil,q=>q
 |_,_,_,_,.cons a b,q=>.cons a (b.app q)
theorem DAs.take{A:Addr->Prop}{H:Hp}:∀{xs:List V}{ds:List Qb},DAs A H xs ds->∀n:Nat,DAs A H (xs.take n) (ds.take n)
 |_,_,.nil,n=>by rw[QyT,QyT];exact .nil
 |_,_,.cons a b,0=>.nil
 |_,_,.cons a b,n+1=>.cons a (b.take n)
theorem DAs.drop{A:Addr->Prop}{H:Hp}:∀{xs:List V}{ds:List Qb},DAs A H xs ds->∀n:Nat,DAs A H (xs.drop n) (ds.drop n)
 |_,_,.nil,n=>by rw[QyU,QyU];exact .nil
 |_,_,.cons a b,0=>.cons a b
 |_,_,.cons a b,n+1=>b.drop n
theorem DAs.set{A:Addr->Prop}{H:Hp}{x:V}{d:Qb}(q:DA A H x d):∀{xs:List V}{ds:List Qb},DAs A H xs ds->∀n:Nat,DAs A H (xs.set n x) (ds.set n d)
 |_,_,.nil,n=>.nil
 |_,_,.cons a b,0=>.cons q b
 |_,_,.cons a b,n+1=>.cons a (b.set q n)
mutual
def nd:Qb->Bool
 |.dict _=>false
 |.tuple ds=>nds ds
 |.list ds=>nds ds
 |_=>true
def nds:List Qb->Bool
 |[]=>true
 |d::ds=>nd d&&nds ds
end
mutual
theorem Qst{A:Addr->Prop}{H:Hp}:∀(d:Qb)(x:V),nd d=true->DA A H x d->Dat H x d
 |.none,_,_,.non=>.non
 |.bool _,_,_,.bl _=>.bl _
 |.int _,_,_,.int _=>.int _
 |.str _,_,_,.str _ c=>.str _ c
 |.tuple ds,_,n,.tup (xs:=xs) _ e q=>.tup e (Qal ds xs n q)
 |.list ds,_,n,.lst (xs:=xs) _ e q=>.lst e (Qal ds xs n q)
theorem Qal{A:Addr->Prop}{H:Hp}:∀(ds:List Qb)(xs:List V),nds ds=true->DAs A H xs ds->Dats H xs ds
 |[],_,_,.nil=>.nil
 |d::ds,_,n,.cons (x:=x) (xs:=xs) q qs=>by
  have n':=Jf.mp (show(nd d&&nds ds)=true from n);exact .cons (Qst d x n'.1 q) (Qal ds xs n'.2 qs)
end
theorem QmU{ds:List Qb}:nds ds=true↔∀d∈ds,nd d=true:=by
 induction ds with
 |nil=>exact⟨(λ_ _ h=>nomatch h),λ_=>rfl⟩
 |cons d ds ih=>
  rw[show nds (d::ds)=(nd d&&nds ds) from rfl,Jf,ih];constructor
  ·rintro⟨a,b⟩ e he;rcases Qz.mp he with z | z
   ·rw[z];exact a
   ·exact b e z
  ·intro h;exact⟨h d (by simp),λe he=>h e (by simp[he])⟩
def DP(A P:Addr->Prop)(H:Hp)(v:V)(d:Qb):Prop:=DA A H v d∨∃l xs ds,v=.ref l/\d=.list ds/\¬P l/\H l=some (.lst xs)/\DAs A H xs ds
theorem DP.dat{A P:Addr->Prop}{H:Hp}{v:V}{d:Qb}(h:DP A P H v d)(n:nd d=true):Dat H v d:=by
 rcases h with h | ⟨l,xs,ds,rfl,rfl,_,e,q⟩
 ·exact Qst d v n h
 ·exact .lst e (Qal ds xs n q)
theorem DP.list{A P:Addr->Prop}{H:Hp}{v:V}{ds:List Qb}(h:DP A P H v (.list ds)):∃l xs,v=.ref l/\H l=some (.lst xs)/\DAs A H xs ds:=by
 rcases h with h | ⟨l,xs,ds',rfl,e,_,h2,q⟩
 ·cases h with | lst n e q=>exact⟨_,_,rfl,e,q⟩
 ·cases e;exact⟨l,xs,rfl,h2,q⟩
theorem DP.tuple{A P:Addr->Prop}{H:Hp}{v:V}{ds:List Qb}(h:DP A P H v (.tuple ds)):∃l xs,v=.ref l/\H l=some (.tup xs)/\DAs A H xs ds:=by
 rcases h with h | ⟨l,xs,ds',rfl,e,_⟩
 ·cases h with | tup n e q=>exact⟨_,_,rfl,e,q⟩
 ·cases e
theorem DP.int{A P:Addr->Prop}{H:Hp}{v:V}{i:Int}(h:DP A P H v (.int i)):v=.int i:=by
 rcases h with h | ⟨l,xs,ds',rfl,e,_⟩
 ·cases h;rfl
 ·cases e
theorem DP.bool{A P:Addr->Prop}{H:Hp}{v:V}{i:Bool}(h:DP A P H v (.bool i)):v=.bl i:=by
 rcases h with h | ⟨l,xs,ds',rfl,e,_⟩
 ·cases h;rfl
 ·cases e
theorem DP.none{A P:Addr->Prop}{H:Hp}{v:V}(h:DP A P H v .none):v=.non:=by
 rcases h with h | ⟨l,xs,ds',rfl,e,_⟩
 ·cases h;rfl
 ·cases e
theorem DP.str{A P:Addr->Prop}{H:Hp}{v:V}{x:Str}(h:DP A P H v (.str x)):v=.str x/\Qbb (.str x)=true:=by
 rcases h with h | ⟨l,xs,ds',rfl,e,_⟩
 ·cases h with | str _ c=>exact⟨rfl,c⟩
 ·cases e
inductive Sl where
 |no | pot | scr
 |v (d:Qb)
 |own (ds:List Qb)
 |pk (ds:List Qb)
abbrev Sts:=List Sl
structure Fm where
 H0:Hp
 A0:Addr->Prop
 pt:Addr->Prop
def QBO(σ:L2.St)(δ:Sts)(i:Nat)(a:Addr):Prop:=σ[i]? = some (some (.ref a))/\(δ[i]? = some .pot∨∃ds,δ[i]? = some (.own ds))
def Av(F:Fm)(σ:L2.St)(δ:Sts)(a:Addr):Prop:=F.A0 a∨∃i,QBO σ δ i a
def Yu(σ:L2.St)(δ:Sts)(a:Addr):Prop:=∃i:Nat,σ[i]? = some (some (.ref a))/\δ[i]? = some .pot
def QBM(K:PySem.W.Frag)(F:Fm)(H:Hp)(A:Addr->Prop)(o:Option V):Sl->Prop
 |.no=>True
 |.v d=>∃v,o=some v/\DA A H v d
 |.own ds=>∃l xs,o=some (.ref l)/\H l=some (.lst xs)/\DAs A H xs ds/\F.H0 l=none
 |.pk ds=>∃l xs,o=some (.ref l)/\H l=some (.lst xs)/\DAs A H xs ds/\∃ys,F.H0 l=some (.lst ys)/\¬F.pt l
 |.pot=>∃p n,o=some (.ref p)/\H p=some (.lst [.int n])/\(F.pt p∨F.H0 p=none)
 |.scr=>∃a ns,o=some (.ref a)/\SqL K F.H0 a ((ns:List Int).map V.int)/\¬F.pt a/\ns.length<=63
structure Rel (K:PySem.W.Frag) (F:Fm) (σ:L2.St) (H:Hp) (δ:Sts):Prop where
 len:σ.length=δ.length
 dom:∀a,F.A0 a->∃xs,H a=some (.lst xs)
 dom0:∀a,F.A0 a->∃xs,F.H0 a=some (.lst xs)
 pt0:∀p,F.pt p->F.A0 p/\∃n,H p=some (.lst [.int n])
 kx:∀b o,¬F.pt b->F.H0 b=some o->H b=some o
 sl:∀(i:Nat) o x,σ[i]? = some o->δ[i]? = some x->QBM K F H (Av F σ δ) o x
 inj:∀(i j:Nat) a ds,δ[i]? = some (.own ds)->σ[i]? = some (some (.ref a))->QBO σ δ j a->i=j
def Kp(σ:L2.St)(δ:Sts)(H H':Hp):Prop:=(∀b o,¬Yu σ δ b->H b=some o->H' b=some o)/\∀b,Yu σ δ b->∃n,H' b=some (.lst [.int n])
def Stp(F:Fm)(σ:L2.St)(H:Hp)(δ:Sts)(σ':L2.St)(H':Hp)(δ':Sts):Prop:=(∀b o,¬Av F σ δ b->H b=some o->H' b=some o)/\∀b,Av F σ' δ' b->Av F σ δ b∨H b=none
def Ke(F:Fm)(H':Hp):Prop:=(∀b o,¬F.pt b->F.H0 b=some o->H' b=some o)/\∀p,F.pt p->∃n,H' p=some (.lst [.int n])
theorem Qac{F:Fm}{σ:L2.St}{δ:Sts}{a:Addr}(h:Yu σ δ a):Av F σ δ a:=let ⟨i,h1,h2⟩:=h;.inr ⟨i,h1,.inl h2⟩
theorem Rel.ke{K:PySem.W.Frag}{F:Fm}{σ:L2.St}{H:Hp}{δ:Sts}(r:Rel K F σ H δ):Ke F H:=⟨r.kx,λp hp=>(r.pt0 p hp).2⟩
theorem Rel.isl{K:PySem.W.Frag}{F:Fm}{σ:L2.St}{H:Hp}{δ:Sts}(r:Rel K F σ H δ){a:Addr}(h:Av F σ δ a):∃xs,H a=some (.lst xs):=by
 rcases h with h | ⟨i,h1,h2⟩
 ·exact r.dom a h
 ·rcases h2 with h2 | ⟨ds,h2⟩
  ·obtain⟨p,n,e,h,_⟩:=r.sl i _ _ h1 h2;cases e;exact⟨_,h⟩
  ·obtain⟨l,xs,e,h,_⟩:=r.sl i _ _ h1 h2;cases e;exact⟨_,h⟩
theorem Kp.refl{K:PySem.W.Frag}{F:Fm}{σ:L2.St}{H:Hp}{δ:Sts}(r:Rel K F σ H δ):Kp σ δ H H:=⟨λ_ _ _ e=>e,λb ⟨i,h1,h2⟩=>by
 obtain⟨p,n,e,h,_⟩:=r.sl i _ _ h1 h2;cases e;exact⟨n,h⟩⟩
theorem Kp.trans{σ:L2.St}{δ:Sts}{H H1 H2:Hp}(a:Kp σ δ H H1)(b:Kp σ δ H1 H2):Kp σ δ H H2:=⟨λc o n e=>b.1 c o n (a.1 c o n e),b.2⟩
theorem Kp.same{K:PySem.W.Frag}{F:Fm}{σ:L2.St}{H H':Hp}{δ:Sts}(r:Rel K F σ H δ)(s:Same H H'):Kp σ δ H H':=⟨λb o _ e=>s b o e,λb hb=>let ⟨n,h⟩:=(Kp.refl r).2 b hb;⟨n,s _ _ h⟩⟩
theorem Kp.da{F:Fm}{σ:L2.St}{H H':Hp}{δ:Sts}{v:V}{d:Qb}(k:Kp σ δ H H')(h:DA (Av F σ δ) H v d):DA (Av F σ δ) H' v d:=h.mv (λa o n e=>k.1 a o (λz=>n (Qac z)) e) λa z=>.inl z
theorem Kp.das{F:Fm}{σ:L2.St}{H H':Hp}{δ:Sts}{v:List V}{d:List Qb}(k:Kp σ δ H H')(h:DAs (Av F σ δ) H v d):DAs (Av F σ δ) H' v d:=h.mv (λa o n e=>k.1 a o (λz=>n (Qac z)) e) λa z=>.inl z
theorem Kp.dp{F:Fm}{σ:L2.St}{H H':Hp}{δ:Sts}{v:V}{d:Qb}(k:Kp σ δ H H')(h:DP (Av F σ δ) (Yu σ δ) H v d):DP (Av F σ δ) (Yu σ δ) H' v d:=by
 rcases h with h | ⟨l,xs,ds,e1,e2,n,e,q⟩
 ·exact .inl (k.da h)
 ·exact .inr ⟨l,xs,ds,e1,e2,n,k.1 _ _ n e,k.das q⟩
theorem Rel.own_pot{K:PySem.W.Frag}{F:Fm}{σ:L2.St}{H:Hp}{δ:Sts}(r:Rel K F σ H δ){i:Nat}{ds:List Qb}{l:Addr}(h:δ[i]? = some (.own ds))(e:σ[i]? = some (some (.ref l))):¬Yu σ δ l:=by
 rintro⟨j,h1,h2⟩;have:=r.inj i j l _ h e ⟨h1,.inl h2⟩;subst this;rw[h] at h2;cases h2
theorem Rel.pt_pot{K:PySem.W.Frag}{F:Fm}{σ:L2.St}{H H':Hp}{δ:Sts}(r:Rel K F σ H δ)(k:Kp σ δ H H'){p:Addr}(hp:F.pt p):∃n,H' p=some (.lst [.int n]):=by
 by_cases z:Yu σ δ p
 ·exact k.2 p z
 ·obtain⟨n,e⟩:=(r.pt0 p hp).2;exact⟨n,k.1 _ _ z e⟩
theorem Rel.kp{K:PySem.W.Frag}{F:Fm}{σ:L2.St}{H H':Hp}{δ:Sts}(r:Rel K F σ H δ)(k:Kp σ δ H H'):Rel K F σ H' δ where
 len:=r.len
 dom:=λa ha=>by
  by_cases z:Yu σ δ a
  ·exact⟨_,(k.2 a z).choose_spec⟩
  ·obtain⟨xs,e⟩:=r.dom a ha;exact⟨xs,k.1 _ _ z e⟩
 dom0:=r.dom0
 pt0:=λp hp=>⟨(r.pt0 p hp).1,r.pt_pot k hp⟩
 kx:=λb o n e=>by
  by_cases z:Yu σ δ b
  ·obtain⟨i,h1,h2⟩:=z;obtain⟨p,m,e1,h,q⟩:=r.sl i _ _ h1 h2;cases e1;rcases q with q | q
   ·exact absurd q n
   ·rw[q] at e;cases e
  ·exact k.1 _ _ z (r.kx b o n e)
 sl:=λi o x h1 h2=>by
  have h:=r.sl i o x h1 h2;cases x with
  |no=>trivial
  |v d=>obtain⟨v,e,q⟩:=h;exact⟨v,e,k.da q⟩
  |own ds=>obtain⟨l,xs,rfl,e,q,f⟩:=h;exact⟨l,xs,rfl,k.1 _ _ (r.own_pot h2 h1) e,k.das q,f⟩
  |pk ds=>
   obtain⟨l,xs,rfl,e,q,ys,f,f2⟩:=h;refine⟨l,xs,rfl,k.1 _ _ ?_ e,k.das q,ys,f,f2⟩;rintro⟨j,j1,j2⟩;obtain⟨p,m,e1,_,w⟩:=r.sl j _ _ j1 j2;cases e1;rcases w with w | w
   ·exact f2 w
   ·rw[w] at f;cases f
  |pot=>
   obtain⟨p,n,rfl,e,q⟩:=h;obtain⟨m,e'⟩:=k.2 p ⟨i,h1,h2⟩;exact⟨p,m,rfl,e',q⟩
  |scr=>exact h
 inj:=r.inj
theorem Rel.same{K:PySem.W.Frag}{F:Fm}{σ:L2.St}{H H':Hp}{δ:Sts}(r:Rel K F σ H δ)(s:Same H H'):Rel K F σ H' δ:=r.kp (Kp.same r s)
theorem Stp.refl{F:Fm}{σ:L2.St}{H:Hp}{δ:Sts}:Stp F σ H δ σ H δ:=⟨λ_ _ _ e=>e,λ_ z=>.inl z⟩
theorem Stp.trans{F:Fm}{σ σ1 σ2:L2.St}{H H1 H2:Hp}{δ δ1 δ2:Sts}(a:Stp F σ H δ σ1 H1 δ1)(b:Stp F σ1 H1 δ1 σ2 H2 δ2):Stp F σ H δ σ2 H2 δ2:=by
 refine⟨λc o n e=>?_,λc z=>?_⟩
 ·refine b.1 c o (λz=>?_) (a.1 c o n e);rcases a.2 c z with q | q
  ·exact n q
  ·rw[q] at e;cases e
 ·rcases b.2 c z with q | q
  ·exact a.2 c q
  ·by_cases y:Av F σ δ c
   ·exact .inl y
   ·right
    cases e:H c with
    |none=>rfl
    |some o=>rw[a.1 c o y e] at q;cases q
theorem Stp.kp{F:Fm}{σ:L2.St}{H H':Hp}{δ:Sts}(k:Kp σ δ H H'):Stp F σ H δ σ H' δ:=⟨λb o n e=>k.1 b o (λz=>n (Qac z)) e,λ_ z=>.inl z⟩
theorem Stp.da{F:Fm}{σ σ':L2.St}{H H':Hp}{δ δ':Sts}{v:V}{d:Qb}(k:Stp F σ H δ σ' H' δ')(h:DA (Av F σ δ) H v d):DA (Av F σ' δ') H' v d:=h.mv k.1 k.2
abbrev XP:=Addr->Prop
abbrev DE:=Sts->(Qb->Prop)->XP->Prop
abbrev DT:=Sts->(Bool->Prop)->XP->Prop
abbrev DAr:=Sts->(List Qb->Prop)->XP->Prop
abbrev DSl:=Sts->(List Sl->Prop)->XP->Prop
inductive Md where | D | P | F
def FrV(H H':Hp)(v:V):Prop:=∀l,v=.ref l->(∃xs,H' l=some (.lst xs))->H l=none
def Vok(m:Md)(F:Fm)(σ:L2.St)(δ:Sts)(H H':Hp)(v:V)(d:Qb):Prop:=
 match m with
 |.D=>DA (Av F σ δ) H' v d
 |.P=>DP (Av F σ δ) (Yu σ δ) H' v d
 |.F=>DA (Av F σ δ) H' v d/\FrV H H' v
def Out(F:Fm)(E:XK)(EX:XP):Prop:=∀C,EX C->∀H',Ke F H'->E (.ref C) none H'
def tX(m:Md)(K:PySem.W.Frag)(E:XK)(w:DE):TE:=λσ H Q=>∃(F:Fm)(δ:Sts)(R:Qb->Prop)(EX:XP),Rel K F σ H δ/\w δ R EX/\(∀d,R d->∀v H',Rel K F σ H' δ->Kp σ δ H H'->Vok m F σ δ H H' v d->Q v H')/\Out F E EX
def tT(K:PySem.W.Frag)(E:XK)(w:DT):TT:=λσ H Q=>∃(F:Fm)(δ:Sts)(R:Bool->Prop)(EX:XP),Rel K F σ H δ/\w δ R EX/\(∀b,R b->∀H',Rel K F σ H' δ->Kp σ δ H H'->Q b H')/\Out F E EX
def VD(m:Md)(A P:Addr->Prop)(H:Hp)(v:V)(d:Qb):Prop:=
 match m with
 |.P=>DP A P H v d
 |_=>DA A H v d
def tAr(n:Nat)(m:Md)(K:PySem.W.Frag)(E:XK)(w:DAr):TA:=λσ H Q=>∃(F:Fm)(δ:Sts)(R:List Qb->Prop)(EX:XP),Rel K F σ H δ/\w δ R EX/\(∀ds,R ds->ds.length=n->∀vs H',Rel K F σ H' δ->Kp σ δ H H'->Qbc (VD m (Av F σ δ) (Yu σ δ) H') vs ds->Q vs H')/\Out F E EX
def Qld(A pt:Addr->Prop)(H:Hp)(v:V):Sl->Prop
 |.v d=>DA A H v d
 |.pot=>∃p,v=.ref p/\pt p
 |_=>False
def tAs(K:PySem.W.Frag)(E:XK)(w:DSl):TA:=λσ H Q=>∃(F:Fm)(δ:Sts)(R:List Sl->Prop)(EX:XP),Rel K F σ H δ/\w δ R EX/\(∀ds,R ds->∀vs H',Rel K F σ H' δ->Kp σ δ H H'->Qbc (Qld (Av F σ δ) (Yu σ δ) H') vs ds->Q vs H')/\Out F E EX
theorem Kp.vd{m:Md}{F:Fm}{σ:L2.St}{H H':Hp}{δ:Sts}{v:V}{d:Qb}(k:Kp σ δ H H')(h:VD m (Av F σ δ) (Yu σ δ) H v d):VD m (Av F σ δ) (Yu σ δ) H' v d:=by
 cases m
 ·exact k.da h
 ·exact k.dp h
 ·exact k.da h
theorem Kp.arg{F:Fm}{σ:L2.St}{H H':Hp}{δ:Sts}{v:V}{d:Sl}(k:Kp σ δ H H')(h:Qld (Av F σ δ) (Yu σ δ) H v d):Qld (Av F σ δ) (Yu σ δ) H' v d:=by
 cases d with
 |v d=>exact k.da h
 |pot=>exact h
 |_=>exact h.elim
def QcQ(H:Hp):Prop:=∀a xs,H a=some (.lst xs)∨H a=some (.tup xs)->xs.length<=sizeLine
section
variable{X:Cx}{E:XK}
theorem Inv.lens{pins:List (Addr×Obj)}{σ:L2.St}{H:Hp}{s:Shared}(I:Inv X pins σ H s):QcQ H:=λa xs h=>by
 rcases h with h | h
 ·exact(I.hok a _ h).1
 ·exact(I.hok a _ h).1
theorem PE.imp{e:Q3}{t t':TE}(h:PE X e t)(i:∀σ H Q,t' σ H Q->t σ H Q):PE X e t':=λpins s σ H Q I q=>h pins s σ H Q I (i σ H Q q)
theorem PT.imp{e:Q3}{t t':TT}(h:PT X e t)(i:∀σ H Q,t' σ H Q->t σ H Q):PT X e t':=λpins s σ H Q I q=>h pins s σ H Q I (i σ H Q q)
theorem PW.imp{e:Q3}{t t':TT}(h:PW X e t)(i:∀σ H Q,t' σ H Q->t σ H Q):PW X e t':=λwh pins s σ H Q I q=>h wh pins s σ H Q I (i σ H Q q)
theorem PA.imp{e:List Q3}{t t':TA}(h:PA X e t)(i:∀σ H Q,t' σ H Q->t σ H Q):PA X e t':=λpos pins s σ H Q I q=>h pos pins s σ H Q I (i σ H Q q)
theorem OpR.len{f:Value->Value->Sem Value}{r:R2}(h:OpR X f r):OpR X f (λx y H Q=>QcQ H->r x y H Q):=λpins s σ H x y v u Q I rx ry q=>h pins s σ H x y v u Q I rx ry (q (Inv.lens I))
theorem CallR.len{f:Value}{r:List V->Hp->VK->Prop}(h:CallR X f r):CallR X f (λxs H Q=>QcQ H->r xs H Q):=λpins s σ H xs us Q I rx q=>h pins s σ H xs us Q I rx (q (Inv.lens I))
theorem IxR.len{r:R2}(h:IxR X r):IxR X (λx y H Q=>QcQ H->r x y H Q):=λa b pins s σ H x y v u Q I rx ry q hs=>h a b pins s σ H x y v u Q I rx ry (q (Inv.lens I)) hs
theorem OpR.or2{f:Value->Value->Sem Value}{r r':R2}(h:OpR X f r)(h':OpR X f r'):OpR X f (λx y H Q=>r x y H Q∨r' x y H Q):=OpR.or h h'
theorem IxR.or2{r r':R2}(h:IxR X r)(h':IxR X r'):IxR X (λx y H Q=>r x y H Q∨r' x y H Q):=λa b pins s σ H x y v u Q I rx ry q hs=>q.elim (λq=>h a b pins s σ H x y v u Q I rx ry q hs) λq=>h' a b pins s σ H x y v u Q I rx ry q hs
theorem SlR.or2{r r':V->Option Int->Option Int->Hp->VK->Prop}(h:SlR X r)(h':SlR X r'):SlR X (λx a b H Q=>r x a b H Q∨r' x a b H Q):=λpins s σ H x v vl vu lo hi sl Q I rx hs pl pu q=>q.elim (h pins s σ H x v vl vu lo hi sl Q I rx hs pl pu) (h' pins s σ H x v vl vu lo hi sl Q I rx hs pl pu)
theorem toD{e:Q3}{w:DE}(h:PE X e (tX .F X.K E w)):PE X e (tX .D X.K E w):=PE.imp h λσ H Q ⟨F,δ,R,EX,r,hw,k,o⟩=>⟨F,δ,R,EX,r,hw,λd hd v H' r' kp vk=>k d hd v H' r' kp vk.1,o⟩
theorem toP{e:Q3}{w:DE}(h:PE X e (tX .D X.K E w)):PE X e (tX .P X.K E w):=PE.imp h λσ H Q ⟨F,δ,R,EX,r,hw,k,o⟩=>⟨F,δ,R,EX,r,hw,λd hd v H' r' kp vk=>k d hd v H' r' kp (.inl vk),o⟩
theorem QBS{e:Q3}{w:DE}(h:PE X e (tX .F X.K E w)):PE X e (tX .P X.K E w):=toP (toD h)
def QAM(i:Nat):DE:=λδ Q _=>match δ[i]? with
 |some (.v d)=>Q d
 |_=>False
def dPk(i:Nat):DE:=λδ Q _=>match δ[i]? with
 |some (.v d)=>Q d
 |some (.own ds)=>Q (.list ds)
 |some (.pk ds)=>Q (.list ds)
 |_=>False
def dC(d:Qb):DE:=λ_ Q _=>Q d
theorem Rel.lt{K:PySem.W.Frag}{F:Fm}{σ:L2.St}{H:Hp}{δ:Sts}(r:Rel K F σ H δ){i:Nat}{x:Sl}(h:δ[i]? = some x):∃o,σ[i]? = some o:=by
 have:=(Jh.mp h).1;exact⟨σ[i]'(by rw[r.len];exact this),Qc _⟩
theorem Qw5{e:Q3}{i:Nat}(h:PE X e (QiG i)):PE X e (tX .D X.K E (QAM i)):=PE.imp h λσ H Q ⟨F,δ,R,EX,r,hw,k,o⟩=>by
 unfold QAM at hw;split at hw
 ·rename_i d hd
  obtain⟨x,hx⟩:=r.lt hd;obtain⟨v,rfl,q⟩:=r.sl i _ _ hx hd;exact⟨v,hx,k d hw v H r (Kp.refl r) q⟩
 ·exact hw.elim
theorem QAc{e:Q3}{i:Nat}(h:PE X e (QiG i)):PE X e (tX .P X.K E (dPk i)):=PE.imp h λσ H Q ⟨F,δ,R,EX,r,hw,k,o⟩=>by
 unfold dPk at hw;split at hw
 ·rename_i d hd
  obtain⟨x,hx⟩:=r.lt hd;obtain⟨v,rfl,q⟩:=r.sl i _ _ hx hd;exact⟨v,hx,k d hw v H r (Kp.refl r) (.inl q)⟩
 ·rename_i d hd
  obtain⟨x,hx⟩:=r.lt hd;obtain⟨l,xs,rfl,e,q,_⟩:=r.sl i _ _ hx hd;exact⟨_,hx,k _ hw _ H r (Kp.refl r) (.inr ⟨l,xs,d,rfl,rfl,r.own_pot hd hx,e,q⟩)⟩
 ·rename_i d hd
  obtain⟨x,hx⟩:=r.lt hd;obtain⟨l,xs,rfl,e,q,ys,f,f2⟩:=r.sl i _ _ hx hd;refine⟨_,hx,k _ hw _ H r (Kp.refl r) (.inr ⟨l,xs,d,rfl,rfl,?_,e,q⟩)⟩;rintro⟨j,j1,j2⟩;obtain⟨p,m,e1,_,w⟩:=r.sl j _ _ j1 j2;cases e1;rcases w with w | w
  ·exact f2 w
  ·rw[w] at f;cases f
 ·exact hw.elim
theorem Qy1{e:Q3}{v:V}{d:Qb}(h:PE X e (tC v))(q:∀(A:Addr->Prop)(H:Hp),DA A H v d):PE X e (tX .D X.K E (dC d)):=PE.imp h λσ H Q ⟨F,δ,R,EX,r,hw,k,o⟩=>k d hw v H r (Kp.refl r) (q _ _)
theorem Qxd{i:Int}{j pos}:PE X (.Constant (.int i) j pos) (tX .D X.K E (dC (.int i))):=Qy1 YY λ_ _=>.int i
theorem QAf{b:Bool}{j pos}:PE X (.Constant (.bool b) j pos) (tX .D X.K E (dC (.bool b))):=Qy1 QAa λ_ _=>.bl b
theorem Qxa{j pos}:PE X (.Constant .none j pos) (tX .D X.K E (dC .none)):=Qy1 Qw1 λ_ _=>.non
theorem Qw7{x:Str}{j pos}(h:Qbb (.str x)=true:=by decide +kernel):PE X (.Constant (.str x) j pos) (tX .D X.K E (dC (.str x))):=Qy1 QwY λ_ _=>.str x h
def OpD(r:R2)(rD:Qb->Qb->(Qb->Prop)->Prop):Prop:=∀(A P:Addr->Prop)(H:Hp)(x y:V)(d1 d2:Qb)(R:Qb->Prop)(Q:VK),QcQ H->(∀a,A a->∃xs,H a=some (.lst xs))->DP A P H x d1->DP A P H y d2->rD d1 d2 R ->
 (∀d,R d->∀v H',Same H H'->DA A H' v d->FrV H H' v->Q v H')->r x y H Q
def Qoo(r:R2)(rD:Qb->Qb->(Qb->Prop)->Prop):Prop:=∀(A P:Addr->Prop)(H:Hp)(x y:V)(d1 d2:Qb)(R:Qb->Prop)(Q:VK),QcQ H->(∀a,A a->∃xs,H a=some (.lst xs))->DP A P H x d1->DP A P H y d2->rD d1 d2 R ->
 (∀d,R d->∀v H',Same H H'->DA A H' v d->Q v H')->r x y H Q
def dOp(rD:Qb->Qb->(Qb->Prop)->Prop)(wa wb:DE):DE:=λδ Q EX=>wa δ (λd1=>wb δ (λd2=>rD d1 d2 Q) EX) EX
theorem QiS{K:PySem.W.Frag}{r:R2}{rD:Qb->Qb->(Qb->Prop)->Prop}{wa wb:DE}(hd:OpD r rD)(σ:L2.St)(H:Hp)(Q:VK)(h:tX .F K E (dOp rD wa wb) σ H Q) :
  tOp (λx y H Q=>QcQ H->r x y H Q) (tX .P K E wa) (tX .P K E wb) σ H Q:=by
 obtain⟨F,δ,R,EX,rel,hw,k,o⟩:=h;refine⟨F,δ,_,EX,rel,hw,λd1 h1 x H1 rel1 kp1 x1=>⟨F,δ,_,EX,rel1,h1,λd2 h2 y H2 rel2 kp2 y2=>λln=>?_,o⟩,o⟩;refine hd (Av F σ δ) (Yu σ δ) H2 x y d1 d2 R Q ln (λa ha=>rel2.isl ha) (kp2.dp x1) y2 h2 λd hR v H' s q f=>?_
 refine k d hR v H' (rel2.same s) ((kp1.trans kp2).trans (Kp.same rel2 s)) ⟨q,λl e1 e2=>?_⟩;have f2:=f l e1 e2;cases e:H l with
 |none=>rfl
 |some ob=>
  by_cases z:Yu σ δ l
  ·obtain⟨n,en⟩:=kp2.2 l z;rw[en] at f2;cases f2
  ·rw[(kp1.trans kp2).1 _ _ z e] at f2;cases f2
theorem Qpz{K:PySem.W.Frag}{r:R2}{rD:Qb->Qb->(Qb->Prop)->Prop}{wa wb:DE}(hd:Qoo r rD)(σ:L2.St)(H:Hp)(Q:VK)(h:tX .D K E (dOp rD wa wb) σ H Q) :
  tOp (λx y H Q=>QcQ H->r x y H Q) (tX .P K E wa) (tX .P K E wb) σ H Q:=by
 obtain⟨F,δ,R,EX,rel,hw,k,o⟩:=h;refine⟨F,δ,_,EX,rel,hw,λd1 h1 x H1 rel1 kp1 x1=>⟨F,δ,_,EX,rel1,h1,λd2 h2 y H2 rel2 kp2 y2=>λln=>?_,o⟩,o⟩;refine hd (Av F σ δ) (Yu σ δ) H2 x y d1 d2 R Q ln (λa ha=>rel2.isl ha) (kp2.dp x1) y2 h2 λd hR v H' s q=>?_
 exact k d hR v H' (rel2.same s) ((kp1.trans kp2).trans (Kp.same rel2 s)) q
variable{a b:Q3}{wa wb:DE}{pos:Pos}{r:R2}{rD:Qb->Qb->(Qb->Prop)->Prop}
theorem Qxg{op:Qb1}(ho:OpR X (binaryOp op) r)(hd:OpD r rD)(ha:PE X a (tX .P X.K E wa))(hb:PE X b (tX .P X.K E wb)):PE X (.BinOp a op b pos) (tX .F X.K E (dOp rD wa wb)):=PE.imp (Qbo (OpR.len ho) ha hb) (QiS hd)
theorem Qxf{op:QsV}(ho:OpR X (compareOp op) r)(hd:OpD r rD)(ha:PE X a (tX .P X.K E wa))(hb:PE X b (tX .P X.K E wb))(hm:behindInMarks op b=false):PE X (.Compare a [op] [b] pos) (tX .F X.K E (dOp rD wa wb)):=PE.imp (QtL (OpR.len ho) ha hb hm) (QiS hd)
theorem QAd{r:R2}{rD:Qb->Qb->(Qb->Prop)->Prop}(ho:IxR X r)(hd:Qoo r rD)(ha:PE X a (tX .P X.K E wa))(hb:PE X b (tX .P X.K E wb))(hs:Qjn b):PE X (.Subscript a b pos) (tX .D X.K E (dOp rD wa wb)):=PE.imp (Qpd (IxR.len ho) ha hb hs) (Qpz hd)
def dTst(w:DE):DT:=λδ Q EX=>w δ (λd=>match d with
 |.bool k=>Q k
 |_=>False) EX
theorem QtS{op:QsV}(ho:OpR X (compareOp op) r)(hd:OpD r rD)(ha:PE X a (tX .P X.K E wa))(hb:PE X b (tX .P X.K E wb))(hm:behindInMarks op b=false):PT X (.Compare a [op] [b] pos) (tT X.K E (dTst (dOp rD wa wb))):=by
 refine PT.imp (QiM (OpR.len ho) ha hb hm) λσ H Q ⟨F,δ,R,EX,rel,hw,k,o⟩=>?_
 refine QiS hd σ H (λx H'=>∃k,x=.bl k/\Q k H') ⟨F,δ,_,EX,rel,hw,λd hd2 v H' rel' kp vk=>?_,o⟩;split at hd2
 ·rename_i b
  have:v=.bl b:=by cases vk.1;rfl
  exact⟨b,this,k b hd2 H' rel' kp⟩
 ·exact hd2.elim
def tru:Qb->Bool
 |.none=>false
 |.bool b=>b
 |.int i=>i != 0
 |.str y=>(y.length:Int) != 0
 |.list ds => !ds.isEmpty
 |.tuple ds => !ds.isEmpty
 |.dict ds => !ds.isEmpty
def strOk:Qb->Prop
 |.str y=>y.length<=sizeLine
 |_=>True
def dTru(w:DE):DT:=λδ Q EX=>w δ (λd=>strOk d/\Q (tru d)) EX
theorem Qwc{K:PySem.W.Frag}{A P:Addr->Prop}{H:Hp}{v:V}{d:Qb}(h:DP A P H v d)(hs:strOk d):QAY K v H (tru d):=by
 have sq:∀{xs:List V}{ds:List Qb},DAs A H xs ds->(!ds.isEmpty) = !xs.isEmpty:=λq=>by cases q<;>rfl
 rcases h with h | ⟨l,xs,ds,rfl,rfl,_,e,q⟩
 ·cases h with
  |non=>rfl
  |bl b=>rfl
  |int i=>rfl
  |str x c=>exact⟨hs,rfl⟩
  |@tup a xs ds n e q=>exact .inr (.inl ⟨xs,SqT.of e,sq q⟩)
  |@lst a xs ds n e q=>exact .inl ⟨xs,SqL.of e,sq q⟩
  |@dct a kvs ds n e q=>subst q;exact .inr (.inr ⟨dkV kvs,e,by cases kvs<;>rfl⟩)
 ·exact .inl ⟨xs,SqL.of e,sq q⟩
theorem QtQ{e:Q3}{w:DE}(h:PE X e (tX .P X.K E w))(he:∀whole,isTrue e X.env whole=(do let v <- whole;standAt e.pos;holding [v] (truthy v))):PT X e (tT X.K E (dTru w)):=by
 refine PT.imp (Qo5 h he) λσ H Q ⟨F,δ,R,EX,rel,hw,k,o⟩=>?_
 exact⟨F,δ,_,EX,rel,hw,λd ⟨hs,hq⟩ v H' rel' kp vk=>⟨tru d,Qwc vk hs,k _ hq H' rel' kp⟩,o⟩
theorem QtP{e:Q3}{w:DE}(h:PE X e (tX .P X.K E w))(he:∀whole,isTrue e X.env whole=(do let v <- whole;standAt e.pos;holding [v] (truthy v)):=by intro _;rfl):PT X e (tT X.K E (dTst w)):=by
 refine PT.imp (QwP h he) λσ H Q ⟨F,δ,R,EX,rel,hw,k,o⟩=>?_
 refine⟨F,δ,_,EX,rel,hw,λd hd v H' rel' kp vk=>?_,o⟩;split at hd
 ·exact⟨_,DP.bool vk,k _ hd H' rel' kp⟩
 ·exact hd.elim
def QBK(wa wb:DT):DT:=λδ Q EX=>wa δ (λc=>if c=true then wb δ Q EX else Q false) EX
def dOr(wa wb:DT):DT:=λδ Q EX=>wa δ (λc=>if c=true then Q true else wb δ Q EX) EX
def QBA(wa:DT):DT:=λδ Q EX=>wa δ (λc=>Q (!c)) EX
theorem Qdj{c:Prop}[Decidable c]{p q p' q':Prop}(h:if c then p else q)(h1:p->p')(h2:q->q'):if c then p' else q':=by
 split at h
 ·rw[if_pos (by assumption)];exact h1 h
 ·rw[if_neg (by assumption)];exact h2 h
variable{rest:List Q3}{ta tb:DT}
theorem Qpg(ha:PT X a (tT X.K E ta)):PW X (.BoolOp .And [a] pos) (tT X.K E ta):=Qty ha
theorem QtN(ha:PT X a (tT X.K E ta)):PW X (.BoolOp .Or [a] pos) (tT X.K E ta):=QwM ha
theorem QtO(ha:PT X a (tT X.K E ta))(hb:PW X (.BoolOp .And (b::rest) pos) (tT X.K E tb)):PW X (.BoolOp .And (a::b::rest) pos) (tT X.K E (QBK ta tb)):=by
 refine PW.imp (QwN ha hb) λσ H Q ⟨F,δ,R,EX,rel,hw,k,o⟩=>?_
 refine⟨F,δ,_,EX,rel,hw,λc hc H' rel' kp=>?_,o⟩;exact Qdj hc (λz=>⟨F,δ,R,EX,rel',z,λc hc H2 rel2 kp2=>k c hc H2 rel2 (kp.trans kp2),o⟩) λz=>k _ z H' rel' kp
theorem Qw3(ha:PT X a (tT X.K E ta))(hb:PW X (.BoolOp .Or (b::rest) pos) (tT X.K E tb)):PW X (.BoolOp .Or (a::b::rest) pos) (tT X.K E (dOr ta tb)):=by
 refine PW.imp (Qz5 ha hb) λσ H Q ⟨F,δ,R,EX,rel,hw,k,o⟩=>?_
 refine⟨F,δ,_,EX,rel,hw,λc hc H' rel' kp=>?_,o⟩;exact Qdj hc (λz=>k _ z H' rel' kp) (λz=>⟨F,δ,R,EX,rel',z,λc hc H2 rel2 kp2=>k c hc H2 rel2 (kp.trans kp2),o⟩)
theorem QtR(ha:PT X a (tT X.K E ta)):PT X (.UnaryOp .Not a pos) (tT X.K E (QBA ta)):=by
 refine PT.imp (QwQ ha) λσ H Q ⟨F,δ,R,EX,rel,hw,k,o⟩=>?_
 exact⟨F,δ,_,EX,rel,hw,λc hc H' rel' kp=>k _ hc H' rel' kp,o⟩
def Qyu(wa wb:DE):DE:=λδ Q EX=>wa δ (λd=>match d with
 |.bool c=>if c=true then wb δ Q EX else Q (.bool false)
 |_=>False) EX
def Qyr(wa:DE):DE:=λδ Q EX=>wa δ (λd=>match d with
 |.bool c=>Q (.bool (!c))
 |_=>False) EX
theorem Qw8{op}{w:DE}(h:PE X a (tX .D X.K E w)):PE X (.BoolOp op [a] pos) (tX .D X.K E w):=QwZ h
theorem Qxh(ha:PE X a (tX .P X.K E wa))(hb:PE X (.BoolOp .And (b::rest) pos) (tX .D X.K E wb)):PE X (.BoolOp .And (a::b::rest) pos) (tX .D X.K E (Qyu wa wb)):=by
 refine PE.imp (Qw2 ha hb) λσ H Q ⟨F,δ,R,EX,rel,hw,k,o⟩=>?_
 refine⟨F,δ,_,EX,rel,hw,λd hd v H' rel' kp vk=>?_,o⟩;split at hd
 ·exact⟨_,DP.bool vk,Qdj hd (λz=>⟨F,δ,R,EX,rel',z,λd hd v H2 rel2 kp2=>k d hd v H2 rel2 (kp.trans kp2),o⟩) λz=>k _ z _ H' rel' kp (.bl _)⟩
 ·exact hd.elim
theorem Qw9(ha:PE X a (tX .P X.K E wa)):PE X (.UnaryOp .Not a pos) (tX .D X.K E (Qyr wa)):=by
 refine PE.imp (Qw0 ha) λσ H Q ⟨F,δ,R,EX,rel,hw,k,o⟩=>?_
 refine⟨F,δ,_,EX,rel,hw,λd hd v H' rel' kp vk=>?_,o⟩;split at hd
 ·exact⟨_,DP.bool vk,k _ hd _ H' rel' kp (.bl _)⟩
 ·exact hd.elim
def QBG(t:DT)(wa wb:DE):DE:=λδ Q EX=>t δ (λc=>if c=true then wa δ Q EX else wb δ Q EX) EX
theorem Qxe{c:Q3}(hc:PT X c (tT X.K E ta))(ha:PE X a (tX .D X.K E wa))(hb:PE X b (tX .D X.K E wb)):PE X (.IfExp c a b pos) (tX .D X.K E (QBG ta wa wb)):=by
 refine PE.imp (Qpe hc ha hb) λσ H Q ⟨F,δ,R,EX,rel,hw,k,o⟩=>?_
 refine⟨F,δ,_,EX,rel,hw,λd hd H' rel' kp=>?_,o⟩;exact Qdj hd (λz=>⟨F,δ,R,EX,rel',z,λd hd v H2 rel2 kp2=>k d hd v H2 rel2 (kp.trans kp2),o⟩) (λz=>⟨F,δ,R,EX,rel',z,λd hd v H2 rel2 kp2=>k d hd v H2 rel2 (kp.trans kp2),o⟩)
end
theorem QbS{A:Addr->Prop}{H H':Hp}{l:Addr}{xs:List V}{ds:List Qb}(dm:∀a,A a->∃xs,H a=some (.lst xs))(s:Same H H')(n:H l=none)(e:H' l=some (.lst xs))(q:DAs A H xs ds):DA A H' (.ref l) (.list ds):=
 .lst (λz=>by obtain⟨ys,e'⟩:=dm l z;rw[n] at e';cases e') e (q.same s)
theorem Qfy{A:Addr->Prop}{H H':Hp}{l:Addr}{xs:List V}{ds:List Qb}(dm:∀a,A a->∃xs,H a=some (.lst xs))(s:Same H H')(e:H' l=some (.tup xs))(q:DAs A H xs ds):DA A H' (.ref l) (.tuple ds):=
 .tup (λz=>by obtain⟨ys,e'⟩:=dm l z;rw[s _ _ e'] at e;cases e) e (q.same s)
theorem Qae{H H':Hp}{l:Addr}(n:H l=none):FrV H H' (.ref l):=λl' e _=>by cases e;exact n
theorem QdT{H H':Hp}{l:Addr}{xs:List V}(e:H' l=some (.tup xs)):FrV H H' (.ref l):=λl' e1 ⟨ys,e2⟩=>by cases e1;rw[e] at e2;cases e2
theorem Qaa{H H':Hp}{i:Int}:FrV H H' (.int i):=λl' e _=>by cases e
theorem YZ{H H':Hp}{i:Bool}:FrV H H' (.bl i):=λl' e _=>by cases e
theorem Qu1{H H':Hp}:FrV H H' .non:=λl' e _=>by cases e
theorem DAs.rep{A:Addr->Prop}{H:Hp}{xs:List V}{ds:List Qb}(q:DAs A H xs ds):∀k:Nat,DAs A H (QZ k xs).flatten (QZ k ds).flatten
 |0=>.nil
 |k+1=>by rw[JU,JU,ZN,ZN];exact q.app (DAs.rep q k)
def QCf:Qb->Qb->(Qb->Prop)->Prop
 |.int i,.int j,Q=>Q (.int (i+j))
 |.tuple a,.tuple b,Q=>a.length+b.length<=1000000/\Q (.tuple (a++b))
 |.list a,.list b,Q=>a.length+b.length<=1000000/\Q (.list (a++b))
 |_,_,_=>False
def iiD(C:Int->Int->Prop)(f:Int->Int->Qb):Qb->Qb->(Qb->Prop)->Prop
 |.int i,.int j,Q=>C i j/\Q (f i j)
 |_,_,_=>False
def ii0(f:Int->Int->Qb):Qb->Qb->(Qb->Prop)->Prop
 |.int i,.int j,Q=>Q (f i j)
 |_,_,_=>False
def QB6:Qb->Qb->(Qb->Prop)->Prop
 |.int i,.int j,Q=>(CMul i j∨CMulB i j)/\Q (.int (i*j))
 |.list a,.int k,Q=>(k<1000000 /\ -1000000<k/\a.length*k.toNat<=1000000)/\Q (.list (QZ k.toNat a).flatten)
 |_,_,_=>False
theorem QhR:1000000<=sizeLine:=by show 1000000<=2^24;decide
section
variable{X:Cx}{E:XK}
theorem QmT{C:Int->Int->Prop}{g:Int->Int->Int}:OpD (rI C λi j=>.int (g i j)) (iiD C λi j=>.int (g i j)):=λA P H x y d1 d2 R Q ln dm hx hy h k=>by
 cases d1<;>cases d2<;>first | exact h.elim | skip
 rw[hx.int,hy.int];exact⟨_,_,rfl,rfl,h.1,k _ h.2 _ H (Same.refl H) (.int _) Qaa⟩
theorem Qde{g:Int->Int->Int}:OpD (rI0 λi j=>.int (g i j)) (ii0 λi j=>.int (g i j)):=λA P H x y d1 d2 R Q ln dm hx hy h k=>by
 cases d1<;>cases d2<;>first | exact h.elim | skip
 rw[hx.int,hy.int];exact⟨_,_,rfl,rfl,k _ h _ H (Same.refl H) (.int _) Qaa⟩
theorem Qse{g:Int->Int->Bool}:OpD (rI0 λi j=>.bl (g i j)) (ii0 λi j=>.bool (g i j)):=λA P H x y d1 d2 R Q ln dm hx hy h k=>by
 cases d1<;>cases d2<;>first | exact h.elim | skip
 rw[hx.int,hy.int];exact⟨_,_,rfl,rfl,k _ h _ H (Same.refl H) (.bl _) YZ⟩
def rAdd:R2:=λx y H Q=>(rI0 (λi j=>.int (i+j)) x y H Q∨QwD x y H Q)∨QBn x y H Q
theorem QcI:OpR X (binaryOp .Add) rAdd:=OpR.or2 (OpR.or2 QfM Qum) Qxv
theorem QeN:OpD rAdd QCf:=λA P H x y d1 d2 R Q ln dm hx hy h k=>by
 cases d1<;>cases d2<;>first | exact h.elim | skip
 ·rw[hx.int,hy.int];exact .inl (.inl ⟨_,_,rfl,rfl,k _ h _ H (Same.refl H) (.int _) Qaa⟩)
 ·obtain⟨l1,xs,rfl,e1,q1⟩:=hx.list;obtain⟨l2,ys,rfl,e2,q2⟩:=hy.list;refine .inr ⟨l1,l2,xs,ys,rfl,rfl,e1,e2,QJ (by rw[q1.length,q2.length];exact h.1) QhR,λp hp=>?_⟩;exact k _ h.2 _ _ (Jt hp) (QbS dm (Jt hp) hp Jj (q1.app q2)) (Qae hp)
 ·obtain⟨l1,xs,rfl,e1,q1⟩:=hx.tuple;obtain⟨l2,ys,rfl,e2,q2⟩:=hy.tuple;refine .inl (.inr ⟨l1,l2,xs,ys,rfl,rfl,e1,e2,QJ (by rw[q1.length,q2.length];exact h.1) QhR,λp H' s e=>?_⟩);exact k _ h.2 _ _ s (Qfy dm s e (q1.app q2)) (QdT e)
def QwA:R2:=λx y H Q=>(rI CMul (λi j=>.int (i*j)) x y H Q∨rI CMulB (λi j=>.int (i*j)) x y H Q)∨QBc x y H Q
theorem QmD:OpR X (binaryOp .Mult) QwA:=OpR.or2 (OpR.or2 QfL Qui) Qxk
theorem Qsd:OpD QwA QB6:=λA P H x y d1 d2 R Q ln dm hx hy h k=>by
 cases d1<;>cases d2<;>first | exact h.elim | skip
 ·rw[hx.int,hy.int];rcases h.1 with c | c
  ·exact .inl (.inl ⟨_,_,rfl,rfl,c,k _ h.2 _ H (Same.refl H) (.int _) Qaa⟩)
  ·exact .inl (.inr ⟨_,_,rfl,rfl,c,k _ h.2 _ H (Same.refl H) (.int _) Qaa⟩)
 ·obtain⟨l1,xs,rfl,e1,q1⟩:=hx.list;rw[hy.int];obtain⟨⟨h1,h2,h3⟩,h4⟩:=h;refine .inr ⟨l1,_,xs,rfl,rfl,e1,by omega,by omega,QJ (by rw[q1.length];exact h3) QhR,λp hp=>?_⟩;exact k _ h4 _ _ (Jt hp) (QbS dm (Jt hp) hp Jj (q1.rep _)) (Qae hp)
def eqD:Qb->Qb->(Qb->Prop)->Prop
 |.int i,.int j,Q=>Q (.bool (decide (i=j)))
 |.bool i,.bool j,Q=>Q (.bool (decide (i=j)))
 |.str i,.str j,Q=>Q (.bool (decide (i=j)))
 |a,b,Q=>(nd a=true/\nd b=true/\(a.depth<=50∨b.depth<=50))/\Q (.bool (QC a b))
def neD:Qb->Qb->(Qb->Prop)->Prop
 |.int i,.int j,Q=>Q (.bool (!decide (i=j)))
 |.bool i,.bool j,Q=>Q (.bool (!decide (i=j)))
 |.str i,.str j,Q=>Q (.bool (!decide (i=j)))
 |a,b,Q=>(nd a=true/\nd b=true/\(a.depth<=50∨b.depth<=50))/\Q (.bool (!QC a b))
theorem QxN{a b:Qb}(h:a.depth<=50∨b.depth<=50):min a.depth b.depth<=50:=by rcases h with h | h<;>omega
def QBl(u:Nat):R2:=λx y H Q=>rEq x y H Q∨QBk u x y H Q
def QBe(u:Nat):R2:=λx y H Q=>rNe x y H Q∨QBd u x y H Q
theorem Qa9:OpR X (compareOp .Eq) (QBl X.A.units):=OpR.or2 QAo Qxt
theorem Qcw:OpR X (compareOp .NotEq) (QBe X.A.units):=OpR.or2 QAm Qxl
theorem Qyi{i j:Int}:decide (V.int i=V.int j)=decide (i=j):=by
 by_cases h:i=j
 ·subst h;simp
 ·rw[decide_eq_false h,decide_eq_false (λz=>h (V.int.inj z))]
theorem Qyj{i j:Bool}:decide (V.bl i=V.bl j)=decide (i=j):=by
 by_cases h:i=j
 ·subst h;simp
 ·rw[decide_eq_false h,decide_eq_false (λz=>h (V.bl.inj z))]
theorem Qyh{i j:Str}:decide (V.str i=V.str j)=decide (i=j):=by
 by_cases h:i=j
 ·subst h;simp
 ·rw[decide_eq_false h,decide_eq_false (λz=>h (V.str.inj z))]
theorem QdP{u:Nat}(hu:u+60<cLine):OpD (QBl u) eqD:=λA P H x y d1 d2 R Q ln dm hx hy h k=>by
 unfold eqD at h;split at h
 ·rw[hx.int,hy.int];exact .inl ⟨rfl,k (.bool (decide (V.int _=V.int _))) (by rw[Qyi];exact h) _ H (Same.refl H) (.bl _) YZ⟩
 ·rw[hx.bool,hy.bool];exact .inl ⟨rfl,k (.bool (decide (V.bl _=V.bl _))) (by rw[Qyj];exact h) _ H (Same.refl H) (.bl _) YZ⟩
 ·rw[hx.str.1,hy.str.1];exact .inl ⟨rfl,k (.bool (decide (V.str _=V.str _))) (by rw[Qyh];exact h) _ H (Same.refl H) (.bl _) YZ⟩
 ·obtain⟨⟨n1,n2,dp⟩,hR⟩:=h;have:=QxN dp;exact .inr ⟨_,_,hx.dat n1,hy.dat n2,by omega,k _ hR _ H (Same.refl H) (.bl _) YZ⟩
theorem Qfo{u:Nat}(hu:u+60<cLine):OpD (QBe u) neD:=λA P H x y d1 d2 R Q ln dm hx hy h k=>by
 unfold neD at h;split at h
 ·rw[hx.int,hy.int];exact .inl ⟨rfl,k (.bool (!decide (V.int _=V.int _))) (by rw[Qyi];exact h) _ H (Same.refl H) (.bl _) YZ⟩
 ·rw[hx.bool,hy.bool];exact .inl ⟨rfl,k (.bool (!decide (V.bl _=V.bl _))) (by rw[Qyj];exact h) _ H (Same.refl H) (.bl _) YZ⟩
 ·rw[hx.str.1,hy.str.1];exact .inl ⟨rfl,k (.bool (!decide (V.str _=V.str _))) (by rw[Qyh];exact h) _ H (Same.refl H) (.bl _) YZ⟩
 ·obtain⟨⟨n1,n2,dp⟩,hR⟩:=h;have:=QxN dp;exact .inr ⟨_,_,hx.dat n1,hy.dat n2,by omega,k _ hR _ H (Same.refl H) (.bl _) YZ⟩
def Qtr(u:Nat)(neg:Bool):R2:=λx y H Q=>∃c ps ds d,y=.ref c/\H c=some (.lst ps)/\Dats H ps ds/\Dat H x d/\u+d.depth<cLine/\Q (.bl (if neg then !(ds.any λe=>QC e d) else ds.any λe=>QC e d)) H
theorem Quk:OpR X (compareOp .In) (Qtr X.A.in1.units false):=by
 intro pins s σ H x y v u Q I rx ry h;obtain⟨c,ps,ds,d,rfl,hc,qs,qx,hu,q⟩:=h;cases ry;obtain⟨⟨as,ra⟩,ca⟩:=ZU I.hok d x v qx rx;obtain⟨its,rv,pl,hz⟩:=I.list (SqL.of hc);obtain⟨⟨bs,rb⟩,cb⟩:=Y0 I.hok ds ps its qs rv;refine SeqAt.in_listAt (eqH s.heap d) pl.isList (λw hw=>QdQ ra ca rb cb hu w (Yv.mp hw)) ⟨.bl _,H,I,rfl,?_⟩;rw[show its.toArray.any (eqH s.heap d)=its.any (eqH s.heap d) by simp,Qe5 rb cb];exact q
theorem QkQ:OpR X (compareOp .NotIn) (Qtr X.A.in1.units true):=by
 intro pins s σ H x y v u Q I rx ry h;obtain⟨c,ps,ds,d,rfl,hc,qs,qx,hu,q⟩:=h;cases ry;obtain⟨⟨as,ra⟩,ca⟩:=ZU I.hok d x v qx rx;obtain⟨its,rv,pl,hz⟩:=I.list (SqL.of hc);obtain⟨⟨bs,rb⟩,cb⟩:=Y0 I.hok ds ps its qs rv;refine SeqAt.notIn_listAt (eqH s.heap d) pl.isList (λw hw=>QdQ ra ca rb cb hu w (Yv.mp hw)) ⟨.bl _,H,I,rfl,?_⟩;rw[show its.toArray.any (eqH s.heap d)=its.any (eqH s.heap d) by simp,Qe5 rb cb];exact q
def inD(neg:Bool)(d:Qb):Qb->(Qb->Prop)->Prop
 |.list ds,Q=>(nds ds=true/\nd d=true/\d.depth<=50)/\Q (.bool (if neg then !(ds.any λe=>QC e d) else ds.any λe=>QC e d))
 |.tuple ds,Q=>(nds ds=true/\nd d=true/\d.depth<=50)/\Q (.bool (if neg then !(ds.any λe=>QC e d) else ds.any λe=>QC e d))
 |_,_=>False
def QzZ(u:Nat)(neg:Bool):R2:=λx y H Q=>QzY u neg x y H Q∨Qtr u neg x y H Q
theorem Qxr:OpR X (compareOp .In) (QzZ X.A.in1.units false):=OpR.or2 Qxp Quk
theorem Qdd:OpR X (compareOp .NotIn) (QzZ X.A.in1.units true):=OpR.or2 QmB QkQ
theorem QmS{u:Nat}{neg:Bool}(hu:u+60<cLine):OpD (QzZ u neg) (inD neg):=λA P H x y d1 d2 R Q ln dm hx hy h k=>by
 cases d2<;>first | exact h.elim | skip
 ·obtain⟨l,xs,rfl,e,q⟩:=hy.list;obtain⟨⟨n1,n2,n3⟩,hR⟩:=h;exact .inr ⟨l,xs,_,d1,rfl,e,Qal _ _ n1 q,hx.dat n2,by omega,k _ hR _ H (Same.refl H) (.bl _) YZ⟩
 ·obtain⟨l,xs,rfl,e,q⟩:=hy.tuple;obtain⟨⟨n1,n2,n3⟩,hR⟩:=h;exact .inl ⟨l,xs,_,d1,rfl,e,Qal _ _ n1 q,hx.dat n2,by omega,k _ hR _ H (Same.refl H) (.bl _) YZ⟩
def QAC:Qb->Bool
 |.none=>true
 |_=>false
def isD:Qb->Qb->(Qb->Prop)->Prop
 |.bool a,.bool b,Q=>Q (.bool (a == b))
 |a,.none,Q=>Q (.bool (QAC a))
 |_,_,_=>False
def QBs:Qb->Qb->(Qb->Prop)->Prop
 |.bool a,.bool b,Q=>Q (.bool (a != b))
 |a,.none,Q=>Q (.bool (!QAC a))
 |_,_,_=>False
theorem QiT:OpR X (compareOp .IsNot) (λx y H Q=>∃a b,x=.bl a/\y=.bl b/\Q (.bl (a != b)) H):=by
 intro pins s σ H x y v u Q I rx ry h;obtain⟨a,b,rfl,rfl,q⟩:=h;cases(show v=ZA a from rx);cases(show u=ZA b from ry);refine isnot_bool ?_
 exact⟨.bl _,H,I,rfl,q⟩
def QBh:R2:=λx y H Q=>(∃a b,x=.bl a/\y=.bl b/\Q (.bl (a == b)) H)∨(y=.non/\Q (.bl (decide (x=.non))) H)
def QwC:R2:=λx y H Q=>(∃a b,x=.bl a/\y=.bl b/\Q (.bl (a != b)) H)∨(y=.non/\Q (.bl (!decide (x=.non))) H)
theorem Qsb:OpR X (compareOp .Is) QBh:=OpR.or2 QpA Qxo
theorem QiU:OpR X (compareOp .IsNot) QwC:=OpR.or2 QiT Quh
theorem Qsr{A P:Addr->Prop}{H:Hp}{v:V}{d:Qb}(h:DP A P H v d):decide (v=.non)=QAC d:=by
 rcases h with h | ⟨l,xs,ds',rfl,rfl,_⟩
 ·cases h<;>first | rfl | exact decide_eq_false (λz=>by cases z)
 ·exact decide_eq_false (λz=>by cases z)
theorem QxI:OpD QBh isD:=λA P H x y d1 d2 R Q ln dm hx hy h k=>by
 unfold isD at h;split at h
 ·rw[hx.bool,hy.bool];exact .inl ⟨_,_,rfl,rfl,k _ h _ H (Same.refl H) (.bl _) YZ⟩
 ·refine .inr ⟨hy.none,?_⟩;rw[Qsr hx];exact k _ h _ H (Same.refl H) (.bl _) YZ
 ·exact h.elim
theorem QmR:OpD QwC QBs:=λA P H x y d1 d2 R Q ln dm hx hy h k=>by
 unfold QBs at h;split at h
 ·rw[hx.bool,hy.bool];exact .inl ⟨_,_,rfl,rfl,k _ h _ H (Same.refl H) (.bl _) YZ⟩
 ·refine .inr ⟨hy.none,?_⟩;rw[Qsr hx];exact k _ h _ H (Same.refl H) (.bl _) YZ
 ·exact h.elim
def ixD:Qb->Qb->(Qb->Prop)->Prop
 |.list ds,.int i,Q=>∃d,atI ds i=some d/\Q d
 |.tuple ds,.int i,Q=>∃d,atI ds i=some d/\Q d
 |_,_,_=>False
theorem QsF{A:Addr->Prop}{H:Hp}{xs:List V}{ds:List Qb}{i:Int}{d:Qb}(q:DAs A H xs ds)(h:atI ds i=some d):∃v,atI xs i=some v/\DA A H v d:=by
 unfold atI at h ⊢;rw[q.length];cases e:ixN ds.length i with
 |none=>rw[e] at h;cases h
 |some j=>
  rw[e] at h;exact q.get j d h
def QBg(K:PySem.W.Frag):R2:=λx y H Q=>Qy0 K x y H Q∨QBf K x y H Q
theorem ZG:IxR X (QBg X.K):=IxR.or2 QgJ Qx1
theorem YT{K:PySem.W.Frag}:Qoo (QBg K) ixD:=λA P H x y d1 d2 R Q ln dm hx hy h k=>by
 cases d1<;>cases d2<;>first | exact h.elim | skip
 ·obtain⟨l,xs,rfl,e,q⟩:=hx.list;obtain⟨d,hd,hR⟩:=h;obtain⟨v,hv,dv⟩:=QsF q hd;rw[hy.int];exact .inl ⟨l,xs,_,v,rfl,rfl,SqL.of e,hv,k d hR v H (Same.refl H) dv⟩
 ·obtain⟨l,xs,rfl,e,q⟩:=hx.tuple;obtain⟨d,hd,hR⟩:=h;obtain⟨v,hv,dv⟩:=QsF q hd;rw[hy.int];exact .inr ⟨l,xs,_,v,rfl,rfl,SqT.of e,hv,k d hR v H (Same.refl H) dv⟩
def dUn(rD:Qb->(Qb->Prop)->Prop)(wa:DE):DE:=λδ Q EX=>wa δ (λd=>rD d Q) EX
def QBo:Qb->(Qb->Prop)->Prop
 |.int i,Q=>Q (.int (-i))
 |_,_=>False
variable{a b c:Q3}{wa wb wc:DE}{pos:Pos}
theorem Qxb(ha:PE X a (tX .P X.K E wa)):PE X (.UnaryOp .USub a pos) (tX .F X.K E (dUn QBo wa)):=by
 refine PE.imp (Qz8 Qv8 ha) λσ H Q ⟨F,δ,R,EX,rel,hw,k,o⟩=>?_
 refine⟨F,δ,_,EX,rel,hw,λd hd v H' rel' kp vk=>?_,o⟩;cases d<;>first | exact(show False from hd).elim | skip
 exact⟨_,DP.int vk,k _ hd _ H' rel' kp ⟨.int _,Qaa⟩⟩
def dCh(p q:Int->Int->Bool)(wa wb wc:DE):DE:=λδ Q EX=>wa δ (λx=>wb δ (λy=>match x,y with
 |.int i,.int j=>if p i j=true then wc δ (λz=>match z with
  |.int k=>Q (.bool (q j k))
  |_=>False) EX else Q (.bool false)
 |_,_=>False) EX) EX
theorem Qvm{K:PySem.W.Frag}{p q:Int->Int->Bool}(σ:L2.St)(H:Hp)(Q:VK)(h:tX .F K E (dCh p q wa wb wc) σ H Q) :
  QrM (rI0 λi j=>.bl (p i j)) (rI0 λi j=>.bl (q i j)) (tX .P K E wa) (tX .P K E wb) (tX .P K E wc) σ H Q:=by
 obtain⟨F,δ,R,EX,rel,hw,k,o⟩:=h;refine⟨F,δ,_,EX,rel,hw,λd1 h1 x H1 rel1 kp1 x1=>⟨F,δ,_,EX,rel1,h1,λd2 h2 y H2 rel2 kp2 y2=>?_,o⟩,o⟩;cases d1<;>cases d2<;>first | exact(show False from h2).elim | skip
 rw[DP.int x1,DP.int y2];refine⟨_,_,rfl,rfl,_,rfl,Qdj h2 (λz=>⟨F,δ,_,EX,rel2,z,λd3 h3 v H3 rel3 kp3 v3=>?_,o⟩) λz=>k _ z _ H2 rel2 (kp1.trans kp2) ⟨.bl _,YZ⟩⟩;cases d3<;>first | exact(show False from h3).elim | skip
 rw[DP.int v3];exact⟨_,_,rfl,rfl,k _ h3 _ H3 rel3 ((kp1.trans kp2).trans kp3) ⟨.bl _,YZ⟩⟩
theorem QAe{op op':QsV}{p q:Int->Int->Bool}(ho:OpR X (compareOp op) (rI0 λi j=>.bl (p i j)))(ho':OpR X (compareOp op') (rI0 λi j=>.bl (q i j)))(ha:PE X a (tX .P X.K E wa))(hb:PE X b (tX .P X.K E wb))(hc:PE X c (tX .P X.K E wc))(hm:lastMarks [op,op'] [b,c]=false:=by with_unfolding_all rfl) :
  PE X (.Compare a [op,op'] [b,c] pos) (tX .F X.K E (dCh p q wa wb wc)):=PE.imp (Qpf ho ho' ha hb hc (hm:=hm)) Qvm
def QBB:DAr:=λ_ Q _=>Q []
def QnK(we:DE)(wr:DAr):DAr:=λδ Q EX=>we δ (λd=>wr δ (λds=>Q (d::ds)) EX) EX
theorem Qt6{m:Md}:PA X [] (tAr 0 m X.K E QBB):=PA.imp Zv λσ H Q ⟨F,δ,R,EX,rel,hw,k,o⟩=>k [] hw rfl [] H rel (Kp.refl rel) .nil
theorem Qn6{n:Nat}{m:Md}{K:PySem.W.Frag}{we:DE}{wr:DAr}(hm:∀{F:Fm}{σ:L2.St}{δ:Sts}{H H':Hp}{v:V}{d:Qb},Vok m F σ δ H H' v d->VD m (Av F σ δ) (Yu σ δ) H' v d)(σ:L2.St)(H:Hp)(Q:List V->Hp->Prop)(h:tAr (n+1) m K E (QnK we wr) σ H Q):Qc2 (tX m K E we) (tAr n m K E wr) σ H Q:=by
 obtain⟨F,δ,R,EX,rel,hw,k,o⟩:=h;refine⟨F,δ,_,EX,rel,hw,λd hd v H' rel' kp vk=>⟨F,δ,_,EX,rel',hd,λds hds hl vs H2 rel2 kp2 vks=>?_,o⟩,o⟩;exact k _ hds (by rw[Qt,hl]) (v::vs) H2 rel2 (kp.trans kp2) (.cons (kp2.vd (hm vk)) vks)
theorem Qmr{n:Nat}{e:Q3}{es:List Q3}{we:DE}{wr:DAr}(he:PE X e (tX .D X.K E we))(hr:PA X es (tAr n .D X.K E wr))(hs:notStar e=true:=by rfl):PA X (e::es) (tAr (n+1) .D X.K E (QnK we wr)):=PA.imp (QdO he hr hs) (Qn6 λh=>h)
theorem Qmq{n:Nat}{e:Q3}{es:List Q3}{we:DE}{wr:DAr}(he:PE X e (tX .P X.K E we))(hr:PA X es (tAr n .P X.K E wr))(hs:notStar e=true:=by rfl):PA X (e::es) (tAr (n+1) .P X.K E (QnK we wr)):=PA.imp (QdO he hr hs) (Qn6 λh=>h)
theorem QdN{A P:Addr->Prop}{H:Hp}:∀{vs:List V}{ds:List Qb},Qbc (VD .D A P H) vs ds->DAs A H vs ds
 |_,_,.nil=>.nil
 |_,_,.cons a b=>.cons a (QdN b)
def QBw(w:DAr):DE:=λδ Q EX=>w δ (λds=>Q (.tuple ds)) EX
def QBD(w:DAr):DE:=λδ Q EX=>w δ (λds=>Q (.list ds)) EX
theorem Qw6{n:Nat}{es:List Q3}{w:DAr}{x1}(h:PA X es (tAr n .D X.K E w))(hn:n<=1000:=by decide):PE X (.Tuple es x1 pos) (tX .F X.K E (QBw w)):=by
 refine PE.imp (QtJ h) λσ H Q ⟨F,δ,R,EX,rel,hw,k,o⟩=>?_
 refine⟨F,δ,_,EX,rel,hw,λds hds hl vs H' rel' kp q=>?_,o⟩;have q':=QdN q;refine⟨by rw[q'.length,hl];exact hn,λa H2 s n e=>k _ hds _ H2 (rel'.same s) (kp.trans (Kp.same rel' s)) ⟨Qfy (λa ha=>rel'.isl ha) s e q',QdT e⟩⟩
theorem QaX{σ:L2.St}{δ:Sts}{H H':Hp}{l:Addr}(k:Kp σ δ H H')(n:H' l=none):H l=none:=by
 cases e:H l with
 |none=>rfl
 |some ob=>
  by_cases z:Yu σ δ l
  ·obtain⟨m,em⟩:=k.2 l z;rw[em] at n;cases n
  ·rw[k.1 _ _ z e] at n;cases n
theorem Qxc{n:Nat}{es:List Q3}{w:DAr}(h:PA X es (tAr n .D X.K E w))(hn:n<=1000:=by decide):PE X (.List es pos) (tX .F X.K E (QBD w)):=by
 refine PE.imp (QtK h) λσ H Q ⟨F,δ,R,EX,rel,hw,k,o⟩=>?_
 refine⟨F,δ,_,EX,rel,hw,λds hds hl vs H' rel' kp q=>?_,o⟩;have q':=QdN q;refine⟨by rw[q'.length,hl];exact hn,λa H2 s n e=>k _ hds _ H2 (rel'.same s) (kp.trans (Kp.same rel' s)) ⟨QbS (λa ha=>rel'.isl ha) s n e q',Qae (QaX kp n)⟩⟩
def QbX(r:List V->Hp->VK->Prop)(rD:List Qb->(Qb->Prop)->Prop):Prop:=∀(A P:Addr->Prop)(H:Hp)(vs:List V)(ds:List Qb)(R:Qb->Prop)(Q:VK),QcQ H->(∀a,A a->∃xs,H a=some (.lst xs))->Qbc (DP A P H) vs ds->rD ds R ->
 (∀d,R d->∀v H',Same H H'->DA A H' v d->FrV H H' v->Q v H')->r vs H Q
def dCB(rD:List Qb->(Qb->Prop)->Prop)(wa:DAr):DE:=λδ Q EX=>wa δ (λds=>rD ds Q) EX
theorem QnV{n:Nat}{K:PySem.W.Frag}{r:List V->Hp->VK->Prop}{rD:List Qb->(Qb->Prop)->Prop}{wa:DAr}(hd:QbX r rD)(σ:L2.St)(H:Hp)(Q:VK)(h:tX .F K E (dCB rD wa) σ H Q) :
  tCB (λxs H Q=>QcQ H->r xs H Q) (tAr n .P K E wa) σ H Q:=by
 obtain⟨F,δ,R,EX,rel,hw,k,o⟩:=h;refine⟨F,δ,_,EX,rel,hw,λds hds hl vs H' rel' kp q ln=>?_,o⟩;refine hd (Av F σ δ) (Yu σ δ) H' vs ds R Q ln (λa ha=>rel'.isl ha) q hds λd hR v H2 s dv fr=>?_
 exact k d hR v H2 (rel'.same s) (kp.trans (Kp.same rel' s)) ⟨dv,λl e1 e2=>QaX kp (fr l e1 e2)⟩
variable{x:Str}{bid T:String}{p:Pos}{e:Q3}{es:List Q3}{n:Nat}{wr:DAr}{r:List V->Hp->VK->Prop}{rD:List Qb->(Qb->Prop)->Prop}
theorem Qpx(hc:CallR X (.builtin bid) r)(hd:QbX r rD)(hg:Gl X x)(hm:X.mg x=none)(hv:bootBuiltins x=some (.builtin bid))(ha:PA X (e::es) (tAr n .P X.K E wr))(hn:x ≠ "__name__" := by decide)(hdb:(x == ("__debug__" : Str))=false:=by decide)
  (he:starEach (e::es) X.env=(false,eval e X.env)::starEach es X.env:=by rfl)(hpl:(backTo pos (starEach es X.env)).any (·.1)=false:=by rfl):PE X (.Call (.Name x p) (e::es) [] pos) (tX .F X.K E (dCB rD wr)):=
 PE.imp (Qb6 (CallR.len hc) hg hm hv ha hn hdb he hpl) (QnV hd)
theorem Qmu(hc:CallR X (.type T) r)(hd:QbX r rD)(hg:Gl X x)(hm:X.mg x=none)(hv:bootBuiltins x=some (.type T))(ha:PA X (e::es) (tAr n .P X.K E wr))(hn:x ≠ "__name__" := by decide)(hdb:(x == ("__debug__" : Str))=false:=by decide)
  (he:starEach (e::es) X.env=(false,eval e X.env)::starEach es X.env:=by rfl)(hpl:(backTo pos (starEach es X.env)).any (·.1)=false:=by rfl):PE X (.Call (.Name x p) (e::es) [] pos) (tX .F X.K E (dCB rD wr)):=
 PE.imp (Qa8 (CallR.len hc) hg hm hv ha hn hdb he hpl) (QnV hd)
theorem pd1{A P:Addr->Prop}{H:Hp}{vs:List V}{d:Qb}(q:Qbc (DP A P H) vs [d]):∃v,vs=[v]/\DP A P H v d:=by
 cases q with
 |cons a b=>cases b;exact⟨_,rfl,a⟩
theorem pd2{A P:Addr->Prop}{H:Hp}{vs:List V}{d d':Qb}(q:Qbc (DP A P H) vs [d,d']):∃v v',vs=[v,v']/\DP A P H v d/\DP A P H v' d':=by
 cases q with
 |cons a b=>cases b with | cons b c=>cases c;exact⟨_,_,rfl,a,b⟩
def QBq:List Qb->(Qb->Prop)->Prop
 |[.list ds],Q=>Q (.int ds.length)
 |[.tuple ds],Q=>Q (.int ds.length)
 |_,_=>False
theorem Qd7{K:PySem.W.Frag}:QbX (Qtq K) QBq:=λA P H vs ds R Q ln dm q h k=>by
 unfold QBq at h;split at h
 ·obtain⟨v,rfl,hv⟩:=pd1 q;obtain⟨l,xs,rfl,e,qq⟩:=hv.list;exact⟨l,xs,rfl,.inl (SqL.of e),by rw[qq.length];exact k _ h _ H (Same.refl H) (.int _) Qaa⟩
 ·obtain⟨v,rfl,hv⟩:=pd1 q;obtain⟨l,xs,rfl,e,qq⟩:=hv.tuple;exact⟨l,xs,rfl,.inr (SqT.of e),by rw[qq.length];exact k _ h _ H (Same.refl H) (.int _) Qaa⟩
 ·exact h.elim
theorem Qap:CallR X (.builtin "len") (Qtq X.K):=QaR
def QuJ:List Qb->(Qb->Prop)->Prop
 |[.int i,.int j],Q=>Q (.int (if j<i then j else i))
 |_,_=>False
def QxP:List Qb->(Qb->Prop)->Prop
 |[.int i,.int j],Q=>Q (.int (if j > i then j else i))
 |_,_=>False
theorem QnT:QbX (λxs H Q=>∃i j,xs=[.int i,.int j]/\Q (.int (if j<i then j else i)) H) QuJ:=λA P H vs ds R Q ln dm q h k=>by
 unfold QuJ at h;split at h
 ·obtain⟨v,v',rfl,h1,h2⟩:=pd2 q;rw[h1.int,h2.int];exact⟨_,_,rfl,k _ h _ H (Same.refl H) (.int _) Qaa⟩
 ·exact h.elim
theorem QnU:QbX (λxs H Q=>∃i j,xs=[.int i,.int j]/\Q (.int (if j > i then j else i)) H) QxP:=λA P H vs ds R Q ln dm q h k=>by
 unfold QxP at h;split at h
 ·obtain⟨v,v',rfl,h1,h2⟩:=pd2 q;rw[h1.int,h2.int];exact⟨_,_,rfl,k _ h _ H (Same.refl H) (.int _) Qaa⟩
 ·exact h.elim
def QcP:List Qb->Option (List Bool)
 |[]=>some []
 |.bool b::ds=>(QcP ds).map (b::·)
 |_::_=>none
def QaS:List Qb->Option (List Int)
 |[]=>some []
 |.int b::ds=>(QaS ds).map (b::·)
 |_::_=>none
theorem Qn0(bs:List Bool):QcP (bs.map Qds)=some bs:=by
 induction bs with
 |nil=>rfl
 |cons b bs ih=>rw[QY,QcP,ih];rfl
theorem ints_map(bs:List Int):QaS (bs.map Qk)=some bs:=by
 induction bs with
 |nil=>rfl
 |cons b bs ih=>rw[QY,QaS,ih];rfl
theorem bools_eq:∀{ds:List Qb}{bs:List Bool},QcP ds=some bs->ds=bs.map Qds
 |[],bs,h=>by cases h;rfl
 |d::ds,bs,h=>by
  cases d<;>first | (unfold QcP at h;cases h;done) | skip
  rw[QcP] at h;obtain⟨cs,h1,rfl⟩:=ZP.mp h;rw[bools_eq h1];rfl
theorem QeT:∀{ds:List Qb}{bs:List Int},QaS ds=some bs->ds=bs.map Qk
 |[],bs,h=>by cases h;rfl
 |d::ds,bs,h=>by
  cases d<;>first | (unfold QaS at h;cases h;done) | skip
  rw[QaS] at h;obtain⟨cs,h1,rfl⟩:=ZP.mp h;rw[QeT h1];rfl
theorem Qh3{A:Addr->Prop}{H:Hp}:∀{bs:List Bool}{xs:List V},DAs A H xs (bs.map Qds)->xs=bs.map V.bl
 |[],_,.nil=>rfl
 |b::bs,_,.cons (.bl _) r=>by rw[Qh3 r];rfl
theorem Qbr{A:Addr->Prop}{H:Hp}:∀{bs:List Int}{xs:List V},DAs A H xs (bs.map Qk)->xs=bs.map V.int
 |[],_,.nil=>rfl
 |b::bs,_,.cons (.int _) r=>by rw[Qbr r];rfl
@[irreducible] def Qy8:List Qb->(Qb->Prop)->Prop
 |[.list ds],Q=>∃bs,QcP ds=some bs/\Q (.bool (bs.all id))
 |_,_=>False
theorem QyC{K:PySem.W.Frag}{cm:Bool}(hc:cm=true):QbX (λxs H Q=>∃(p:Addr)(bs:List Bool),xs=[.ref p]/\SqL K H p (bs.map V.bl)/\cm=true/\Q (.bl (bs.all id)) H) Qy8:=λA P H vs ds R Q ln dm q h k=>by
 unfold Qy8 at h;split at h
 ·obtain⟨v,rfl,hv⟩:=pd1 q;obtain⟨bs,hb,hR⟩:=h;rw[bools_eq hb] at hv;obtain⟨l,xs,rfl,e,qq⟩:=hv.list;rw[Qh3 qq] at e;exact⟨l,bs,rfl,SqL.of e,hc,k _ hR _ H (Same.refl H) (.bl _) YZ⟩
 ·exact h.elim
@[irreducible] def QyZ:List Qb->(Qb->Prop)->Prop
 |[.list ds],Q=>∃ns,QaS ds=some ns/\Q (.int ns.sum)
 |_,_=>False
theorem Qsy{K:PySem.W.Frag}:QbX (Qwv K) QyZ:=λA P H vs ds R Q ln dm q h k=>by
 unfold QyZ at h;split at h
 ·obtain⟨v,rfl,hv⟩:=pd1 q;obtain⟨bs,hb,hR⟩:=h;rw[QeT hb] at hv;obtain⟨l,xs,rfl,e,qq⟩:=hv.list;rw[Qbr qq] at e;exact⟨l,bs,rfl,SqL.of e,k _ hR _ H (Same.refl H) (.int _) Qaa⟩
 ·exact h.elim
def QrJ:List Qb->(Qb->Prop)->Prop
 |[.list ds],Q=>Q (.tuple ds)
 |[.tuple ds],Q=>Q (.tuple ds)
 |_,_=>False
def QxR:List Qb->(Qb->Prop)->Prop
 |[.list ds],Q=>Q (.list ds)
 |[.tuple ds],Q=>Q (.list ds)
 |_,_=>False
theorem Qcg{K:PySem.W.Frag}:QbX (Ql8 K) QrJ:=λA P H vs ds R Q ln dm q h k=>by
 unfold QrJ at h;split at h
 ·obtain⟨v,rfl,hv⟩:=pd1 q;obtain⟨l,xs,rfl,e,qq⟩:=hv.list;exact⟨l,xs,rfl,.inl ⟨SqL.of e,λl' H' s n e'=>k _ h _ H' s (Qfy dm s e' qq) (QdT e')⟩⟩
 ·obtain⟨v,rfl,hv⟩:=pd1 q;obtain⟨l,xs,rfl,e,qq⟩:=hv.tuple;exact⟨l,xs,rfl,.inr ⟨SqT.of e,k _ h _ H (Same.refl H) (Qfy dm (Same.refl H) e qq) (QdT e)⟩⟩
 ·exact h.elim
theorem Qvo{K:PySem.W.Frag}:QbX (Qmb K) QxR:=λA P H vs ds R Q ln dm q h k=>by
 unfold QxR at h;split at h
 ·obtain⟨v,rfl,hv⟩:=pd1 q;obtain⟨l,xs,rfl,e,qq⟩:=hv.list;exact⟨l,xs,rfl,.inl (SqL.of e),λl' H' s n e'=>k _ h _ H' s (QbS dm s n e' qq) (Qae n)⟩
 ·obtain⟨v,rfl,hv⟩:=pd1 q;obtain⟨l,xs,rfl,e,qq⟩:=hv.tuple;exact⟨l,xs,rfl,.inr (SqT.of e),λl' H' s n e'=>k _ h _ H' s (QbS dm s n e' qq) (Qae n)⟩
 ·exact h.elim
end
section
variable{X:Cx}{E:XK}
inductive Tn where | int | bool | str | tuple | list
def Tn.s:Tn->String
 |.int => "int"
 |.bool => "bool"
 |.str => "str"
 |.tuple => "tuple"
 |.list => "list"
def isT:Tn->Qb->Bool
 |.int,.int _=>true
 |.int,.bool _=>true
 |.bool,.bool _=>true
 |.str,.str _=>true
 |.tuple,.tuple _=>true
 |.list,.list _=>true
 |_,_=>false
theorem QuS{K:PySem.W.Frag}{A P:Addr->Prop}{H:Hp}{v:V}{d:Qb}(tn:Tn)(h:DP A P H v d):∃t,TyOf K H v t/\PySem.W.kitOne K t (.type tn.s)=some (isT tn d):=by
 rcases h with h | ⟨l,xs,ds,rfl,rfl,_,e,q⟩
 ·cases h with
  |non=>exact⟨_,.non,by cases tn<;>rfl⟩
  |bl b=>exact⟨_,.bl _,by cases tn<;>rfl⟩
  |int i=>exact⟨_,.int _,by cases tn<;>rfl⟩
  |str x c=>exact⟨_,.str _,by cases tn<;>rfl⟩
  |tup n e q=>exact⟨_,.tup e,by cases tn<;>rfl⟩
  |lst n e q=>exact⟨_,.lst e,by cases tn<;>rfl⟩
  |dct n e q=>exact⟨_,.dK e,by cases tn<;>rfl⟩
 ·exact⟨_,.lst e,by cases tn<;>rfl⟩
def Qyt(tn:Tn)(we:DE):DE:=λδ Q EX=>we δ (λd=>Q (.bool (isT tn d))) EX
theorem Qt8{e f:Q3}{we:DE}{p pos:Pos}(tn:Tn)(hg:Gl X "isinstance")(hm:X.mg "isinstance" = none)(he:PE X e (tX .P X.K E we))(hf:PE X f (tC (.ty tn.s)))(h1:notStar e=true:=by rfl)(h2:notStar f=true:=by rfl) :
  PE X (.Call (.Name "isinstance" p) [e,f] [] pos) (tX .F X.K E (Qyt tn we)):=by
 refine PE.imp (Qb6 Qjh hg hm QgZ (QdO he (QdO hf Zv h2) h1) (he:=Z7 h1) (hpl:=by rw[Z7 h2];rfl)) λσ H Q ⟨F,δ,R,EX,rel,hw,k,o⟩=>?_
 refine⟨F,δ,_,EX,rel,hw,λd hd v H' rel' kp vk=>?_,o⟩;obtain⟨t,ty,et⟩:=QuS (K:=X.K) tn vk;exact⟨v,t,tn.s,_,rfl,ty,et,k _ hd _ H' rel' kp ⟨.bl _,YZ⟩⟩
theorem QAg{x:Str}{pos:Pos}(tn:Tn)(hg:Gl X x)(hm:X.mg x=none)(hv:bootBuiltins x=some (.type tn.s))(hn:x ≠ "__name__" := by decide)(hd:(x == ("__debug__" : Str))=false:=by decide):PE X (.Name x pos) (tC (.ty tn.s)):=QtM (v:=.ty tn.s) hg hm hv rfl hn hd
abbrev DO:=Sts->(Option Int->Prop)->XP->Prop
def tO(K:PySem.W.Frag)(E:XK)(w:DO):TO:=λσ H Q=>∃(F:Fm)(δ:Sts)(R:Option Int->Prop)(EX:XP),Rel K F σ H δ/\w δ R EX/\(∀d,R d->∀H',Rel K F σ H' δ->Kp σ δ H H'->Q d H')/\Out F E EX
def dNo:DO:=λ_ Q _=>Q none
def dSo(we:DE):DO:=λδ Q EX=>we δ (λd=>match d with
 |.int i=>Q (some i)
 |_=>False) EX
theorem PO.imp{e:Option Q3}{t t':TO}(h:PO X e t)(i:∀σ H Q,t' σ H Q->t σ H Q):PO X e t':=λpins s σ H Q I q=>h pins s σ H Q I (i σ H Q q)
theorem Qpq:PO X none (tO X.K E dNo):=PO.imp QtD λσ H Q ⟨F,δ,R,EX,rel,hw,k,o⟩=>k _ hw H rel (Kp.refl rel)
theorem Qpp{e:Q3}{we:DE}(he:PE X e (tX .P X.K E we)):PO X (some e) (tO X.K E (dSo we)):=by
 refine PO.imp (QtC he) λσ H Q ⟨F,δ,R,EX,rel,hw,k,o⟩=>?_
 refine⟨F,δ,_,EX,rel,hw,λd hd v H' rel' kp vk=>?_,o⟩;cases d<;>first | exact(show False from hd).elim | skip
 exact⟨_,DP.int vk,k _ hd H' rel' kp⟩
def cutD(xs:List Qb)(lo hi:Option Int):List Qb:=(xs.drop (HT.sIx xs.length 0 lo)).take (HT.sIx xs.length xs.length hi - HT.sIx xs.length 0 lo)
theorem QnN{A:Addr->Prop}{H:Hp}{xs:List V}{ds:List Qb}(q:DAs A H xs ds)(lo hi:Option Int):DAs A H (Qke xs lo hi) (cutD ds lo hi):=by
 unfold Qke cutD;rw[q.length];exact(q.drop _).take _
def slD(d:Qb)(lo hi:Option Int)(Q:Qb->Prop):Prop:=
 match d with
 |.list ds=>Q (.list (cutD ds lo hi))
 |.tuple ds=>Q (.tuple (cutD ds lo hi))
 |_=>False
def dSl(we:DE)(wl wh:DO):DE:=λδ Q EX=>we δ (λd=>wl δ (λlo=>wh δ (λhi=>slD d lo hi Q) EX) EX) EX
def Qwx(K:PySem.W.Frag):V->Option Int->Option Int->Hp->VK->Prop:=λx a b H Q=>QBb x a b H Q∨Qww K x a b H Q
theorem Qpv{e:Q3}{lo hi:Option Q3}{we:DE}{wl wh:DO}{p2 pos:Pos}(he:PE X e (tX .P X.K E we))(hl:PO X lo (tO X.K E wl))(hh:PO X hi (tO X.K E wh)):PE X (.Subscript e (.Slice lo hi none p2) pos) (tX .F X.K E (dSl we wl wh)):=by
 refine PE.imp (Qpc (r:=Qwx X.K) (SlR.or2 Qwm QoP) he hl hh) λσ H Q ⟨F,δ,R,EX,rel,hw,k,o⟩=>?_
 refine⟨F,δ,_,EX,rel,hw,λd hd v H1 rel1 kp1 vk=>⟨F,δ,_,EX,rel1,hd,λa ha H2 rel2 kp2=>⟨F,δ,_,EX,rel2,ha,λb hb H3 rel3 kp3=>?_,o⟩,o⟩,o⟩;have v3:=kp3.dp (kp2.dp vk);have K3:=(kp1.trans kp2).trans kp3;cases d<;>first | exact(show False from hb).elim | skip
 ·obtain⟨l,xs,rfl,e,q⟩:=DP.list v3;exact .inr ⟨l,xs,rfl,SqL.of e,λp H' s n e'=>k _ hb _ H' (rel3.same s) (K3.trans (Kp.same rel3 s)) ⟨QbS (λa ha=>rel3.isl ha) s n e' (QnN q _ _),Qae (QaX K3 n)⟩⟩
 ·obtain⟨l,xs,rfl,e,q⟩:=DP.tuple v3;exact .inl ⟨l,xs,rfl,e,λp H' s e'=>k _ hb _ H' (rel3.same s) (K3.trans (Kp.same rel3 s)) ⟨Qfy (λa ha=>rel3.isl ha) s e' (QnN q _ _),QdT e'⟩⟩
abbrev DF:=List Sl->(Qb->Prop)->XP->Prop
def Kq(pt:Addr->Prop)(H H':Hp):Prop:=(∀b o,¬pt b->H b=some o->H' b=some o)/\∀p,pt p->∃n,H' p=some (.lst [.int n])
def Zq(fr:Bool)(f:DF):Sp:=λvs H Q Ex=>∃(A pt:Addr->Prop)(args:List Sl)(R:Qb->Prop)(EX:XP),(∀a,A a->∃xs,H a=some (.lst xs))/\(∀p,pt p->A p/\∃n,H p=some (.lst [.int n]))/\Qbc (Qld A pt H) vs args/\f args R EX /\
 (∀d,R d->∀v H',Kq pt H H'->DA A H' v d->(fr=true->FrV H H' v)->Q v H')/\∀C,EX C->∀H',Kq pt H H'->Ex (.ref C) none H'
def QBa:DSl:=λ_ Q _=>Q []
def sV(we:DE)(wr:DSl):DSl:=λδ Q EX=>we δ (λd=>wr δ (λds=>Q (.v d::ds)) EX) EX
def QzQ(i:Nat)(wr:DSl):DSl:=λδ Q EX=>match δ[i]? with
 |some .pot=>wr δ (λds=>Q (.pot::ds)) EX
 |_=>False
theorem QtX:PA X [] (tAs X.K E QBa):=PA.imp Zv λσ H Q ⟨F,δ,R,EX,rel,hw,k,o⟩=>k [] hw [] H rel (Kp.refl rel) .nil
theorem QAb{e:Q3}{es:List Q3}{we:DE}{wr:DSl}(he:PE X e (tX .D X.K E we))(hr:PA X es (tAs X.K E wr))(hs:notStar e=true:=by rfl):PA X (e::es) (tAs X.K E (sV we wr)):=by
 refine PA.imp (QdO he hr hs) λσ H Q ⟨F,δ,R,EX,rel,hw,k,o⟩=>?_
 refine⟨F,δ,_,EX,rel,hw,λd hd v H' rel' kp vk=>⟨F,δ,_,EX,rel',hd,λds hds vs H2 rel2 kp2 vks=>?_,o⟩,o⟩;exact k _ hds (v::vs) H2 rel2 (kp.trans kp2) (.cons (kp2.da vk) vks)
theorem QtU{e:Q3}{es:List Q3}{i:Nat}{wr:DSl}(he:PE X e (QiG i))(hr:PA X es (tAs X.K E wr))(hs:notStar e=true:=by rfl):PA X (e::es) (tAs X.K E (QzQ i wr)):=by
 refine PA.imp (QdO he hr hs) λσ H Q ⟨F,δ,R,EX,rel,hw,k,o⟩=>?_
 unfold QzQ at hw;split at hw
 ·rename_i hd
  obtain⟨x,hx⟩:=rel.lt hd;obtain⟨p,n,rfl,e,q⟩:=rel.sl i _ _ hx hd;refine⟨.ref p,hx,F,δ,_,EX,rel,hw,λds hds vs H2 rel2 kp2 vks=>?_,o⟩;exact k _ hds (.ref p::vs) H2 rel2 kp2 (.cons ⟨p,rfl,i,hx,hd⟩ vks)
 ·exact hw.elim
def QnM(f:DF)(wa:DSl):DE:=λδ Q EX=>wa δ (λargs=>f args Q EX) EX
theorem Kq.kp{K:PySem.W.Frag}{F:Fm}{σ:L2.St}{δ:Sts}{H H':Hp}(k:Kq (Yu σ δ) H H'):Kp σ δ H H':=k
theorem Qia{m:Md}{fr:Bool}{K:PySem.W.Frag}{f:DF}{wa:DSl}(hm:∀{F:Fm}{σ:L2.St}{δ:Sts}{H H':Hp}{v:V}{d:Qb},DA (Av F σ δ) H' v d->(fr=true->FrV H H' v)->Vok m F σ δ H H' v d)(σ:L2.St)(H:Hp)(Q:VK)(h:tX m K E (QnM f wa) σ H Q):Qs9 (Zq fr f) [] E (tAs K E wa) σ H Q:=by
 obtain⟨F,δ,R,EX,rel,hw,k,o⟩:=h;refine⟨F,δ,_,EX,rel,hw,λargs ha vs H1 rel1 kp1 q=>?_,o⟩;show Zq fr f (vs++[]) H1 Q E;rw[Yj];refine⟨Av F σ δ,Yu σ δ,args,R,EX,λa ha=>rel1.isl ha,λp hp=>⟨Qac hp,(Kp.refl rel1).2 p hp⟩,q,ha,λd hd v H' kq dv fr=>?_,λC hC H' kq=>o C hC H' (rel1.kp kq).ke⟩;exact k d hd v H' (rel1.kp kq) (kp1.trans kq) (hm dv λz l e1 e2=>QaX kp1 (fr z l e1 e2))
variable{CX:CXT}{k:Nat}{f:Addr}{fd:Q0}{ps:List Str}{x:Str}{p pos:Pos}{e:Q3}{es:List Q3}{fD:DF}{wa:DSl}
theorem Qub(G:FnOk X.prog X.w X.K X.mg X.base CX k f fd ps (Zq false fD))(hr:Room k X.A)(hg:Gl X x)(hm:X.mg x=some (.ref f))(hk:PySem.W.keepIn X.K (.ref f)=true)(hb:Binds X.K fd ps [])(hx:Qd9 CX X E)
  (ha:PA X (e::es) (tAs X.K E wa))(hdb:(x == ("__debug__" : Str))=false:=by decide)(he:starEach (e::es) X.env=(false,eval e X.env)::starEach es X.env:=by rfl)(hpl:(backTo pos (starEach es X.env)).any (·.1)=false:=by rfl) :
  PE X (.Call (.Name x p) (e::es) [] pos) (tX .D X.K E (QnM fD wa)):=PE.imp (QgC G hr hg hm hk hb .nil hx ha hdb he hpl) (Qia λh _=>h)
theorem Qpw(G:FnOk X.prog X.w X.K X.mg X.base CX k f fd ps (Zq true fD))(hr:Room k X.A)(hg:Gl X x)(hm:X.mg x=some (.ref f))(hk:PySem.W.keepIn X.K (.ref f)=true)(hb:Binds X.K fd ps [])(hx:Qd9 CX X E)
  (ha:PA X (e::es) (tAs X.K E wa))(hdb:(x == ("__debug__" : Str))=false:=by decide)(he:starEach (e::es) X.env=(false,eval e X.env)::starEach es X.env:=by rfl)(hpl:(backTo pos (starEach es X.env)).any (·.1)=false:=by rfl) :
  PE X (.Call (.Name x p) (e::es) [] pos) (tX .F X.K E (QnM fD wa)):=PE.imp (QgC G hr hg hm hk hb .nil hx ha hdb he hpl) (Qia λh z=>⟨h,z rfl⟩)
end
abbrev DG:=Qb->Sts->(Sts->Prop)->Prop
def tG(ix:List Nat)(K:PySem.W.Frag)(w:DG):TG:=λv σ H Q=>∃(F:Fm)(δ:Sts)(d:Qb)(R:Sts->Prop),Rel K F σ H δ/\DA (Av F σ δ) H v d/\w d δ R /\
 ∀δ',R δ'->∀σ',Rel K F σ' H δ'->Stp F σ H δ σ' H δ'->σ'.length=σ.length->(∀j,j∉ix->σ'[j]? = σ[j]?)->Q σ' H
theorem Qao{α:Type}{l:List α}{i j:Nat}{x:α}(h:j≠i):(l.set i x)[j]? = l[j]? := Qdw (Qav h)
theorem set_eq{α:Type}{l:List α}{i:Nat}{x y:α}(h:(l.set i x)[i]? = some y):y=x:=by
 rw[Qfa] at h;simp only[if_true] at h;split at h
 ·exact(QK h).symm
 ·cases h
theorem Qd8{F:Fm}{σ:L2.St}{δ:Sts}{i:Nat}{o:Option V}{d:Qb}{a:Addr}(h:Av F (σ.set i o) (δ.set i (.v d)) a):Av F σ δ a:=by
 rcases h with h | ⟨j,h1,h2⟩
 ·exact .inl h
 ·by_cases z:j=i
  ·subst z;rcases h2 with h2 | ⟨ds,h2⟩<;>cases set_eq h2
  ·rw[Qao z] at h1 h2;exact .inr ⟨j,h1,h2⟩
theorem Rel.setv{K:PySem.W.Frag}{F:Fm}{σ:L2.St}{H:Hp}{δ:Sts}(r:Rel K F σ H δ){i:Nat}{v:V}{d:Qb}(q:DA (Av F σ δ) H v d):Rel K F (σ.set i (some v)) H (δ.set i (.v d)) where
 len:=by rw[Yi,Yi];exact r.len
 dom:=r.dom
 dom0:=r.dom0
 pt0:=r.pt0
 kx:=r.kx
 sl:=λj o x h1 h2=>by
  have wk:∀{v:V}{d':Qb},DA (Av F σ δ) H v d'->DA (Av F (σ.set i (some v)) (δ.set i (.v d))) H v d':=λh=>h.mv (λ_ _ _ e=>e) λa z=>.inl (Qd8 z)
  by_cases z:j=i
  ·subst z;cases set_eq h1;cases set_eq h2;exact⟨v,rfl,q.mv (λ_ _ _ e=>e) λa z=>.inl (Qd8 z)⟩
  ·rw[Qao z] at h1 h2;have h:=r.sl j o x h1 h2;cases x with
   |no=>trivial
   |v d=>obtain⟨v',e,q'⟩:=h;exact⟨v',e,q'.mv (λ_ _ _ e=>e) λa z=>.inl (Qd8 z)⟩
   |own ds=>obtain⟨l,xs,e,e2,q',f⟩:=h;exact⟨l,xs,e,e2,q'.mv (λ_ _ _ e=>e) λa z=>.inl (Qd8 z),f⟩
   |pk ds=>obtain⟨l,xs,e,e2,q',f⟩:=h;exact⟨l,xs,e,e2,q'.mv (λ_ _ _ e=>e) λa z=>.inl (Qd8 z),f⟩
   |pot=>exact h
   |scr=>exact h
 inj:=λj k a ds h1 h2 ⟨h3,h4⟩=>by
  by_cases z:j=i
  ·subst z;cases set_eq h1
  ·rw[Qao z] at h1 h2;by_cases z2:k=i
   ·subst z2;rcases h4 with h4 | ⟨ds,h4⟩<;>cases set_eq h4
   ·rw[Qao z2] at h3 h4;exact r.inj j k a ds h1 h2 ⟨h3,h4⟩
theorem Stp.setv{F:Fm}{σ:L2.St}{H:Hp}{δ:Sts}{i:Nat}{o:Option V}{d:Qb}:Stp F σ H δ (σ.set i o) H (δ.set i (.v d)):=⟨λ_ _ _ e=>e,λa z=>.inl (Qd8 z)⟩
def gN(i:Nat):DG:=λd δ Q=>Q (δ.set i (.v d))
def QeC:Sts->List Nat->List Qb->Sts
 |δ,i::is,d::ds=>QeC (δ.set i (.v d)) is ds
 |δ,_,_=>δ
def gTN(is:List Nat):DG:=λd δ Q=>match d with
 |.tuple ds=>ds.length=is.length/\Q (QeC δ is ds)
 |_=>False
section
variable{X:Cx}{E:XK}
theorem PG.imp{e:Q3}{t t':TG}(h:PG X e t)(i:∀v σ H Q,t' v σ H Q->t v σ H Q):PG X e t':=λpins s σ H v u Q I r q=>h pins s σ H v u Q I r (i v σ H Q q)
theorem Qpt{e:Q3}{i:Nat}(h:PG X e (Qfq i)):PG X e (tG [i] X.K (gN i)):=PG.imp h λv σ H Q ⟨F,δ,d,R,rel,dv,hw,k⟩=>
 k _ hw _ (rel.setv dv) Stp.setv (Yi ..) λj hj=>Qao λz=>hj (by rw[z];exact Ji.mpr rfl)
def gNs:List Nat->TGs
 |[]=>QBu
 |i::is=>Qyc (Qfq i) (gNs is)
theorem Qj7{K:PySem.W.Frag}{F:Fm}{H:Hp}{Q:L2.St->Hp->Prop}:∀(is:List Nat)(vs:List V)(ds:List Qb)(σ:L2.St)(δ:Sts),ds.length=is.length->Rel K F σ H δ->DAs (Av F σ δ) H vs ds ->
  (∀σ',Rel K F σ' H (QeC δ is ds)->Stp F σ H δ σ' H (QeC δ is ds)->σ'.length=σ.length->(∀j,j∉is->σ'[j]? = σ[j]?)->Q σ' H)->gNs is vs σ H Q
 |[],vs,ds,σ,δ,hl,rel,q,k=>by
  cases ds with
  |nil=>cases q;exact⟨rfl,k σ rel Stp.refl rfl λ_ _=>rfl⟩
  |cons d ds=>cases hl
 |i::is,vs,ds,σ,δ,hl,rel,q,k=>by
  cases ds with
  |nil=>cases hl
  |cons d ds=>
   cases q with
   |@cons v vs _ _ q qs=>
    refine⟨v,vs,rfl,?_⟩;refine Qj7 is vs ds _ _ (by simpa using hl) (rel.setv q) (qs.mv (λ_ _ _ e=>e) λa z=>.inl (Qd8 z)) λσ' r' st hl' hj=>?_
    refine k σ' r' (Stp.setv.trans st) (by rw[hl',Yi]) λj hn=>?_
    rw[hj j (λz=>hn (Ju _ z)),Qao (λz=>hn (by rw[z];exact Zj))]
theorem Qt5{e:Q3}{n:Nat}{is:List Nat}(h:PG X e (QBt X.K n (gNs is)))(hn:is.length=n:=by rfl):PG X e (tG is X.K (gTN is)):=PG.imp h λv σ H Q ⟨F,δ,d,R,rel,dv,hw,k⟩=>by
 unfold gTN at hw;split at hw
 ·obtain⟨hl,hR⟩:=hw;cases dv with
  |@tup a xs ds na e q=>
   exact⟨a,xs,rfl,SqT.of e,by rw[q.length,hl,hn],Qj7 is xs _ σ δ hl rel q λσ' r' st hl' hj=>k _ hR σ' r' st hl' hj⟩
 ·exact hw.elim
def ItD(A S:Addr->Prop)(J:It)(items:List Qb)(H1:Hp):Prop:=items.length<=sizeLine/\∀(H2:Hp)(A':Addr->Prop),(∀b o,S b->H1 b=some o->H2 b=some o)->(∀b,A' b->A b∨H1 b=none)->(∀a,A' a->∃xs,H2 a=some (.lst xs)) ->
 (∀(i:Nat) d,items[i]? = some d->J.go i H2/\∀x H3,J.yld i H2 x H3->Same H2 H3/\DA A' H3 x d)/\J.stop items.length H2
def Sx(m:Md)(F:Fm)(σ:L2.St)(δ:Sts)(b:Addr):Prop:=
 match m with
 |.P=>¬Yu σ δ b
 |_=>¬Av F σ δ b
abbrev DI:=Sts->(List Qb->Prop)->XP->Prop
def tI(m:Md)(K:PySem.W.Frag)(E:XK)(w:DI):TI:=λσ H R=>∃(F:Fm)(δ:Sts)(R':List Qb->Prop)(EX:XP),Rel K F σ H δ/\w δ R' EX/\(∀items,R' items->∀J H',Rel K F σ H' δ->Kp σ δ H H'->ItD (Av F σ δ) (Sx m F σ δ) J items H'->R J H')/\Out F E EX
theorem PI.imp{tg e:Q3}{t t':TI}(h:PI X tg e t)(i:∀σ H R,QcQ H->t' σ H R->t σ H R):PI X tg e t':=λpins s σ H R I q=>h pins s σ H R I (i σ H R (Inv.lens I) q)
theorem PI.len{tg e:Q3}{t:TI}(h:PI X tg e t):PI X tg e (λσ H R=>t σ H λJ H1=>QcQ H1->R J H1):=λpins s σ H R I q=>by
 refine thn (h pins s σ H _ I q) λv s1 h1=>thn h1 λitv s2 h2=>?_
 obtain⟨it,fp,tn,J,H',e,I',T,t0,fo,hR⟩:=h2;exact⟨it,fp,tn,J,H',e,I',T,t0,fo,hR (Inv.lens I')⟩
def QBF(w:DE):DI:=λδ Q EX=>w δ (λd=>match d with
 |.list ds=>Q ds
 |_=>False) EX
def QBE(w:DE):DI:=λδ Q EX=>w δ (λd=>match d with
 |.tuple ds=>Q ds
 |_=>False) EX
theorem Qen{A S:Addr->Prop}{H H2:Hp}{A':Addr->Prop}{xs:List V}{ds:List Qb}(sA:∀b,¬A b->S b)(k:∀b o,S b->H b=some o->H2 b=some o)(m:∀b,A' b->A b∨H b=none)(q:DAs A H xs ds):DAs A' H2 xs ds:=q.mv (λa o n e=>k a o (sA a n) e) m
theorem QAz{K:PySem.W.Frag}{A S:Addr->Prop}{H:Hp}{l:Addr}{xs:List V}{ds:List Qb}(sA:∀b,¬A b->S b)(sl:S l)(e:H l=some (.lst xs))(q:DAs A H xs ds)(ln:xs.length<=sizeLine):ItD A S (Itl K l) ds H:=by
 refine⟨by rw[<- q.length];exact ln,λH2 A' k m dm=>⟨λi d hd=>?_,xs,SqL.of (k _ _ sl e),by rw[q.length];exact Ql _⟩⟩;obtain⟨x,hx,dx⟩:=(Qen sA k m q).get i d hd;refine⟨⟨xs,x,SqL.of (k _ _ sl e),hx⟩,λy H3 ⟨e3,hy⟩=>?_⟩;subst e3;have:=hy xs (SqL.of (k _ _ sl e));rw[hx] at this;cases this;exact⟨Same.refl _,dx⟩
theorem QAx{K:PySem.W.Frag}{A S:Addr->Prop}{H:Hp}{l:Addr}{xs:List V}{ds:List Qb}(sA:∀b,¬A b->S b)(sl:S l)(e:H l=some (.tup xs))(q:DAs A H xs ds)(ln:xs.length<=sizeLine):ItD A S (Itt K l) ds H:=by
 refine⟨by rw[<- q.length];exact ln,λH2 A' k m dm=>⟨λi d hd=>?_,xs,SqT.of (k _ _ sl e),by rw[q.length];exact Ql _⟩⟩;obtain⟨x,hx,dx⟩:=(Qen sA k m q).get i d hd;refine⟨⟨xs,x,SqT.of (k _ _ sl e),hx⟩,λy H3 ⟨e3,hy⟩=>?_⟩;subst e3;have:=hy xs (SqT.of (k _ _ sl e));rw[hx] at this;cases this;exact⟨Same.refl _,dx⟩
theorem QkC{m:Md}{F:Fm}{σ:L2.St}{δ:Sts}{b:Addr}(h:¬Av F σ δ b):Sx m F σ δ b:=by
 cases m
 ·exact h
 ·exact λz=>h (Qac z)
 ·exact h
theorem stL{m:Md}{F:Fm}{σ:L2.St}{δ:Sts}{H H':Hp}{v:V}{ds:List Qb}(h:VD m (Av F σ δ) (Yu σ δ) H v (.list ds)):∃l xs,v=.ref l/\Sx m F σ δ l/\H l=some (.lst xs)/\DAs (Av F σ δ) H xs ds:=by
 cases m
 ·cases h with | @lst a xs _ n e q=>exact⟨a,xs,rfl,n,e,q⟩
 ·rcases h with h | ⟨l,xs,ds',rfl,e,n,e2,q⟩
  ·cases h with | @lst a xs _ n e q=>exact⟨a,xs,rfl,QkC n,e,q⟩
  ·cases e;exact⟨l,xs,rfl,n,e2,q⟩
 ·cases h with | @lst a xs _ n e q=>exact⟨a,xs,rfl,n,e,q⟩
theorem stT{m:Md}{F:Fm}{σ:L2.St}{δ:Sts}{H H':Hp}{v:V}{ds:List Qb}(h:VD m (Av F σ δ) (Yu σ δ) H v (.tuple ds)):∃l xs,v=.ref l/\Sx m F σ δ l/\H l=some (.tup xs)/\DAs (Av F σ δ) H xs ds:=by
 cases m
 ·cases h with | @tup a xs _ n e q=>exact⟨a,xs,rfl,n,e,q⟩
 ·rcases h with h | ⟨l,xs,ds',rfl,e,n,e2,q⟩
  ·cases h with | @tup a xs _ n e q=>exact⟨a,xs,rfl,QkC n,e,q⟩
  ·cases e
 ·cases h with | @tup a xs _ n e q=>exact⟨a,xs,rfl,n,e,q⟩
theorem Qjs{m:Md}{F:Fm}{σ:L2.St}{δ:Sts}{H H':Hp}{v:V}{d:Qb}(h:Vok m F σ δ H H' v d):VD m (Av F σ δ) (Yu σ δ) H' v d:=by
 cases m
 ·exact h
 ·exact h
 ·exact h.1
variable{m:Md}{tg e e':Q3}{w w':DE}{p pos tpos:Pos}
theorem Qps(h:PE X e (tX m X.K E w)):PI X tg e (tI m X.K E (QBF w)):=by
 refine PI.imp (PI.len (QtF h)) λσ H R _ ⟨F,δ,R',EX,rel,hw,k,o⟩=>?_
 refine⟨F,δ,_,EX,rel,hw,λd hd v H' rel' kp vk=>?_,o⟩;cases d<;>first | exact(show False from hd).elim | skip
 obtain⟨l,xs,rfl,sl,e,q⟩:=stL (H':=H') (Qjs vk);exact⟨l,rfl,⟨xs,SqL.of e⟩,λln=>k _ hd _ H' rel' kp (QAz (λb=>QkC) sl e q (ln _ _ (.inl e)))⟩
theorem Qt4(h:PE X e (tX m X.K E w)):PI X tg e (tI m X.K E (QBE w)):=by
 refine PI.imp (PI.len (QwU h)) λσ H R _ ⟨F,δ,R',EX,rel,hw,k,o⟩=>?_
 refine⟨F,δ,_,EX,rel,hw,λd hd v H' rel' kp vk=>?_,o⟩;cases d<;>first | exact(show False from hd).elim | skip
 obtain⟨l,xs,rfl,sl,e,q⟩:=stT (H':=H') (Qjs vk);exact⟨l,rfl,⟨xs,SqT.of e⟩,λln=>k _ hd _ H' rel' kp (QAx (λb=>QkC) sl e q (ln _ _ (.inr e)))⟩
def Qfd(lo:Int)(n:Nat):List Qb:=(Qa n).map λ(i:Nat)=>.int (lo+i)
theorem QbK{lo:Int}{n i:Nat}{d:Qb}(h:(Qfd lo n)[i]? = some d):i<n/\d=.int (lo+i):=by
 unfold Qfd at h;rw[Qo] at h;by_cases z:i<n
 ·rw[Qr z] at h;exact⟨z,(QK h).symm⟩
 ·rw[Qp (by rw[Qh];omega)] at h;cases h
theorem QeG{lo:Int}{n:Nat}:(Qfd lo n).length=n:=by unfold Qfd;rw[Qe,Qh]
theorem QAy{A S:Addr->Prop}{H:Hp}{lo:Int}{n:Nat}(hn:n<=1000000):ItD A S (Itr lo n) (Qfd lo n) H:=by
 refine⟨by rw[QeG];exact QJ hn QhR,λH2 A' k m dm=>⟨λi d hd=>?_,by rw[QeG];exact Ql _⟩⟩;obtain⟨hi,rfl⟩:=QbK hd;exact⟨hi,λx H3 ⟨e1,e2⟩=>by subst e1 e2;exact⟨Same.refl _,.int _⟩⟩
def Qyp(w:DE):DI:=λδ Q EX=>w δ (λd=>match d with
 |.int j=>(-1000000<=j/\j<=1000000)/\Q (Qfd 0 j.toNat)
 |_=>False) EX
theorem Qpr(hg:Gl X "range")(hm:X.mg "range" = none)(h:PE X e (tX .P X.K E w))(hs:notStar e=true:=by rfl):PI X tg (.Call (.Name "range" p) [e] [] pos) (tI m X.K E (Qyp w)):=by
 refine PI.imp (QeK hg hm (QdO h Zv hs) (by rw[Z7 hs];rfl)) λσ H R _ ⟨F,δ,R',EX,rel,hw,k,o⟩=>?_
 refine⟨F,δ,_,EX,rel,hw,λd hd v H' rel' kp vk=>?_,o⟩;cases d<;>first | exact(show False from hd).elim | skip
 obtain⟨⟨h1,h2⟩,hR⟩:=hd;rw[DP.int vk];exact⟨_,rfl,by omega,by omega,k _ hR _ H' rel' kp (QAy (by omega))⟩
theorem Qmw{A':Addr->Prop}{H2:Hp}{r:Addr}{x y:V}{d d':Qb}(dm:∀a,A' a->∃xs,H2 a=some (.lst xs))(n:H2 r=none)(q:DA A' H2 x d)(q':DA A' H2 y d'):DA A' (upd H2 r (.tup [x,y])) (.ref r) (.tuple [d,d']):=
 .tup (λz=>by obtain⟨xs,e⟩:=dm r z;rw[n] at e;cases e) Jj (.cons (q.same (Jt n)) (.cons (q'.same (Jt n)) .nil))
def Qco(ds:List Qb):List Qb:=(Qa ds.length).map λ(i:Nat)=>.tuple [.int i,ds.getD i .none]
theorem Qbq{ds:List Qb}{i:Nat}{d:Qb}(h:(Qco ds)[i]? = some d):∃e,ds[i]? = some e/\d=.tuple [.int i,e]:=by
 unfold Qco at h;rw[Qo] at h;by_cases z:i<ds.length
 ·rw[Qr z] at h;refine⟨ds[i],Qc z,?_⟩;rw[<- QK h];show Zk [.int i,ds.getD i .none]=_;rw[Qd,Qc z];rfl
 ·rw[Qp (by rw[Qh];omega)] at h;cases h
theorem Qbp{ds:List Qb}:(Qco ds).length=ds.length:=by unfold Qco;rw[Qe,Qh]
def QBI(w:DE):DI:=λδ Q EX=>w δ (λd=>match d with
 |.list ds=>Q (Qco ds)
 |_=>False) EX
def QBH(w:DE):DI:=λδ Q EX=>w δ (λd=>match d with
 |.tuple ds=>Q (Qco ds)
 |_=>False) EX
variable{elts:List Q3}
theorem Qmp{x1}(hg:Gl X "enumerate")(hm:X.mg "enumerate" = none)(h:PE X e (tX m X.K E w))(hs:notStar e=true:=by rfl):PI X (.Tuple elts x1 tpos) (.Call (.Name "enumerate" p) [e] [] pos) (tI m X.K E (QBI w)):=by
 refine PI.imp (PI.len (QtG hg hm (QdO h Zv hs) (by rw[Z7 hs];rfl))) λσ H R _ ⟨F,δ,R',EX,rel,hw,k,o⟩=>?_
 refine⟨F,δ,_,EX,rel,hw,λd hd v H' rel' kp vk=>?_,o⟩;cases d<;>first | exact(show False from hd).elim | skip
 obtain⟨l,xs,rfl,sl,e,q⟩:=stL (H':=H') (Qjs vk);refine⟨l,xs,rfl,e,λln=>k _ hd _ H' rel' kp ⟨by rw[Qbp,<- q.length];exact ln _ _ (.inl e),λH2 A' kk mm dm=>⟨λi d hd'=>?_,xs,kk _ _ sl e,by rw[Qbp,q.length];exact Ql _⟩⟩⟩;obtain⟨d',hd2,rfl⟩:=Qbq hd';obtain⟨x,hx,dx⟩:=(Qen (S:=Sx m F σ δ) (λb=>QkC) kk mm q).get i d' hd2;refine⟨⟨xs,x,kk _ _ sl e,hx⟩,λy H3 ⟨r,x',nr,hx',e1,e2⟩=>?_⟩;subst e1 e2;have:=hx' xs (kk _ _ sl e);rw[hx] at this;cases this;exact⟨Jt nr,Qmw dm nr (.int _) dx⟩
theorem Qmo{x1}(hg:Gl X "enumerate")(hm:X.mg "enumerate" = none)(h:PE X e (tX m X.K E w))(hs:notStar e=true:=by rfl):PI X (.Tuple elts x1 tpos) (.Call (.Name "enumerate" p) [e] [] pos) (tI m X.K E (QBH w)):=by
 refine PI.imp (PI.len (Qo9 hg hm (QdO h Zv hs) (by rw[Z7 hs];rfl))) λσ H R _ ⟨F,δ,R',EX,rel,hw,k,o⟩=>?_
 refine⟨F,δ,_,EX,rel,hw,λd hd v H' rel' kp vk=>?_,o⟩;cases d<;>first | exact(show False from hd).elim | skip
 obtain⟨l,xs,rfl,sl,e,q⟩:=stT (H':=H') (Qjs vk);refine⟨l,xs,rfl,e,λln=>k _ hd _ H' rel' kp ⟨by rw[Qbp,<- q.length];exact ln _ _ (.inr e),λH2 A' kk mm dm=>⟨λi d hd'=>?_,xs,kk _ _ sl e,by rw[Qbp,q.length]⟩⟩⟩;obtain⟨d',hd2,rfl⟩:=Qbq hd';obtain⟨x,hx,dx⟩:=(Qen (S:=Sx m F σ δ) (λb=>QkC) kk mm q).get i d' hd2;refine⟨⟨xs,x,kk _ _ sl e,hx⟩,λy H3 ⟨r,x',nr,hx',e1,e2⟩=>?_⟩;subst e1 e2;have:=hx' xs (kk _ _ sl e);rw[hx] at this;cases this;exact⟨Jt nr,Qmw dm nr (.int _) dx⟩
end
def Qvq:Option Sl->Sl
 |some (.v d)=>.v d
 |some (.own ds)=>.pk ds
 |some (.pk ds)=>.pk ds
 |some .pot=>.pot
 |_=>.no
def Qet(cap:List (Option Nat))(δ:Sts):Sts:=cap.map λo=>match o with
 |none=>.no
 |some j=>Qvq δ[j]?
theorem QgW{cap:List (Option Nat)}{σ:L2.St}{i:Nat}{o:Option V}(h:(QdV cap σ)[i]? = some o):(cap[i]? = some none/\o=none)∨∃j,cap[i]? = some (some j)/\o=(σ[j]?).getD none:=by
 unfold QdV at h;rw[Qo] at h;obtain⟨c,hc,rfl⟩:=ZP.mp h;cases c with
 |none=>exact .inl ⟨hc,rfl⟩
 |some j=>exact .inr ⟨j,hc,rfl⟩
theorem QgX{cap:List (Option Nat)}{δ:Sts}{i:Nat}{x:Sl}(h:(Qet cap δ)[i]? = some x):(cap[i]? = some none/\x=.no)∨∃j,cap[i]? = some (some j)/\x=Qvq δ[j]? := by
 unfold Qet at h;rw[Qo] at h;obtain⟨c,hc,rfl⟩:=ZP.mp h;cases c with
 |none=>exact .inl ⟨hc,rfl⟩
 |some j=>exact .inr ⟨j,hc,rfl⟩
theorem QaQ{cap:List (Option Nat)}{σ:L2.St}{δ:Sts}{i:Nat}{o:Option V}{x:Sl}(h1:(QdV cap σ)[i]? = some o)(h2:(Qet cap δ)[i]? = some x)(hx:x≠.no):∃(j:Nat)(y:Sl),δ[j]? = some y/\x=Qvq (some y)/\o=(σ[j]?).getD none:=by
 rcases QgX h2 with⟨_,e⟩ | ⟨j,hj,e⟩
 ·exact absurd e hx
 ·rcases QgW h1 with⟨z,_⟩ | ⟨j',hj',e'⟩
  ·rw[hj] at z;cases z
  ·rw[hj] at hj';cases hj';cases e2:δ[j]? with
   |none=>rw[e2] at e;exact absurd e hx
   |some y=>exact⟨j,y,e2,by rw[e,e2],e'⟩
theorem QcO{cap:List (Option Nat)}{σ:L2.St}{δ:Sts}{a:Addr}(h:Yu (QdV cap σ) (Qet cap δ) a):Yu σ δ a:=by
 obtain⟨i,h1,h2⟩:=h;obtain⟨j,y,hy,e,eo⟩:=QaQ h1 h2 (λz=>by cases z);cases y<;>first | (cases e;done) | skip
 refine⟨j,?_,hy⟩;cases e2:σ[j]? with
 |none=>rw[e2] at eo;cases eo
 |some o'=>rw[e2] at eo;exact congrArg some eo.symm
def inF(A1:Addr->Prop)(cap:List (Option Nat))(σ:L2.St)(δ:Sts)(H:Hp):Fm:=⟨H,A1,Yu (QdV cap σ) (Qet cap δ)⟩
theorem Qj5{A1:Addr->Prop}{cap:List (Option Nat)}{σ:L2.St}{δ:Sts}{H:Hp}(h:∀a,Yu σ δ a->A1 a){a:Addr}:Av (inF A1 cap σ δ H) (QdV cap σ) (Qet cap δ) a↔A1 a:=by
 constructor
 ·rintro(z | ⟨i,h1,h2⟩)
  ·exact z
  ·rcases h2 with h2 | ⟨ds,h2⟩
   ·exact h a (QcO ⟨i,h1,h2⟩)
   ·obtain⟨j,y,hy,e,eo⟩:=QaQ h1 h2 (λz=>by cases z);cases y<;>cases e
 ·exact .inl
theorem Qng{K:PySem.W.Frag}{F:Fm}{σ:L2.St}{δ:Sts}{H1 H3:Hp}{A1:Addr->Prop}{cap:List (Option Nat)}(rel:Rel K F σ H1 δ)(hA:∀a,Av F σ δ a->A1 a)(hN:∀a,A1 a->Av F σ δ a∨H1 a=none)
  (dm:∀a,A1 a->∃xs,H3 a=some (.lst xs))(kp:Kp σ δ H1 H3):Rel K (inF A1 cap σ δ H3) (QdV cap σ) H3 (Qet cap δ) where
 len:=by unfold QdV Qet;rw[Qe,Qe]
 dom:=dm
 dom0:=dm
 pt0:=λp hp=>⟨hA p (Qac (QcO hp)),kp.2 p (QcO hp)⟩
 kx:=λb o _ e=>e
 sl:=λi o x h1 h2=>by
  have iv:∀{a:Addr},Av (inF A1 cap σ δ H3) (QdV cap σ) (Qet cap δ) a->A1 a:=λ{a}=>(Qj5 λa z=>hA a (Qac z)).mp
  have mv:∀{v:V}{d:Qb},DA (Av F σ δ) H1 v d->DA (Av (inF A1 cap σ δ H3) (QdV cap σ) (Qet cap δ)) H3 v d:=λq=>q.mv (λa o n e=>kp.1 a o (λz=>n (Qac z)) e) λa z=>hN a (iv z)
  have mvs:∀{v:List V}{d:List Qb},DAs (Av F σ δ) H1 v d->DAs (Av (inF A1 cap σ δ H3) (QdV cap σ) (Qet cap δ)) H3 v d:=λq=>q.mv (λa o n e=>kp.1 a o (λz=>n (Qac z)) e) λa z=>hN a (iv z)
  cases x with
  |no=>trivial
  |own ds=>
   obtain⟨j,y,hy,e,eo⟩:=QaQ h1 h2 (λz=>by cases z);cases y<;>cases e
  |scr=>
   obtain⟨j,y,hy,e,eo⟩:=QaQ h1 h2 (λz=>by cases z);cases y<;>cases e
  |v d=>
   obtain⟨j,y,hy,e,eo⟩:=QaQ h1 h2 (λz=>by cases z);cases y<;>first | (cases e;done) | skip
   cases e;obtain⟨x,hx⟩:=rel.lt hy;obtain⟨v,rfl,q⟩:=rel.sl j _ _ hx hy;rw[hx] at eo;exact⟨v,eo,mv q⟩
  |pk ds=>
   obtain⟨j,y,hy,e,eo⟩:=QaQ h1 h2 (λz=>by cases z);cases y<;>first | (cases e;done) | skip
   ·cases e;obtain⟨x,hx⟩:=rel.lt hy;obtain⟨l,xs,rfl,e,q,f⟩:=rel.sl j _ _ hx hy;rw[hx] at eo;have np:=rel.own_pot hy hx;exact⟨l,xs,eo,kp.1 _ _ np e,mvs q,xs,kp.1 _ _ np e,λz=>np (QcO z)⟩
   ·cases e;obtain⟨x,hx⟩:=rel.lt hy;obtain⟨l,xs,rfl,e,q,ys,f,f2⟩:=rel.sl j _ _ hx hy;rw[hx] at eo;have np:¬Yu σ δ l:=by
     rintro⟨j,j1,j2⟩;obtain⟨p,m,e1,_,w⟩:=rel.sl j _ _ j1 j2;cases e1;rcases w with w | w
     ·exact f2 w
     ·rw[w] at f;cases f
    exact⟨l,xs,eo,kp.1 _ _ np e,mvs q,xs,kp.1 _ _ np e,λz=>np (QcO z)⟩
  |pot=>
   obtain⟨j,y,hy,e,eo⟩:=QaQ h1 h2 (λz=>by cases z);cases y<;>first | (cases e;done) | skip
   obtain⟨x,hx⟩:=rel.lt hy;obtain⟨p,n,rfl,e,q⟩:=rel.sl j _ _ hx hy;rw[hx] at eo;obtain⟨m,em⟩:=kp.2 p ⟨j,hx,hy⟩;have eo':o=some (.ref p):=eo;subst eo';exact⟨p,m,rfl,em,.inl ⟨i,h1,h2⟩⟩
 inj:=λi j a ds h1 h2 _=>by
  obtain⟨j,y,hy,e,eo⟩:=QaQ h2 h1 (λz=>by cases z);cases y<;>cases e
theorem QoC:∀{σ σ':L2.St},σ'.length=σ.length->(∀(i:Nat) v,σ[i]? = some (some v)->σ'[i]? = some (some v))->Wk σ σ'
 |[],[],_,_=>trivial
 |[],_::_,h,_=>by cases h
 |_::_,[],h,_=>by cases h
 |none::a,x::b,h,g=>QoC (σ:=a) (σ':=b) (by simpa using h) λi v e=>by simpa using g (i+1) v (by simpa using e)
 |some u::a,x::b,h,g=>by
  have h0:=g 0 u rfl;simp only[Qjp,Option.some.injEq] at h0;subst h0;exact⟨rfl,QoC (σ:=a) (σ':=b) (by simpa using h) λi v e=>by simpa using g (i+1) v (by simpa using e)⟩
def QbU(cap:List (Option Nat))(ix:List Nat):Bool:=ix.all λi=>match cap[i]? with
 |some none=>true
 |_=>false
theorem Qsz{cap:List (Option Nat)}{ix:List Nat}(hf:QbU cap ix=true){σ σ4:L2.St}(hl:σ4.length=(QdV cap σ).length)(hj:∀j,j∉ix->σ4[j]? = (QdV cap σ)[j]?):Wk (QdV cap σ) σ4:=by
 refine QoC hl λi v e=>?_
 by_cases z:i∈ix
 ·have:=Y5.mp hf i z;rcases QgW e with⟨_,e2⟩ | ⟨j,hj2,_⟩
  ·cases e2
  ·rw[hj2] at this;cases this
 ·rw[hj i z];exact e
def XF:XP:=λ_=>False
@[irreducible] def Qg7(items:List Qb)(wg:DG)(wt:DT)(we:DE)(δ:Sts)(Q:Qb->Prop):Prop:=∃Iv:Nat->List Qb->Prop,Iv 0 [] /\
 (∀(i:Nat) acc d,items[i]? = some d->Iv i acc->wg d δ λδ4=>wt δ4 (λb=>if b=true then we δ4 (λe=>Iv (i+1) (acc++[e])) XF else Iv (i+1) acc) XF)/\∀acc,Iv items.length acc->Q (.list acc)
def dComp(cap:List (Option Nat))(wi:DI)(wg:DG)(wt:DT)(we:DE):DE:=λδ Q EX=>wi δ (λitems=>Qg7 items wg wt we (Qet cap δ) Q) EX
def QvU:DT:=λ_ Q _=>Q true
section
variable{X:Cx}{E:XK}
theorem Qr8{F:Fm}{E:XK}:Out F E XF:=λ_ z=>z.elim
theorem PTs.imp{es:List Q3}{t t':TT}(h:PTs X es t)(i:∀σ H Q,t' σ H Q->t σ H Q):PTs X es t':=λpins s σ H Q I q=>h pins s σ H Q I (i σ H Q q)
theorem Qpi:PTs X [] (tT X.K E QvU):=PTs.imp Qmj λσ H Q ⟨F,δ,R,EX,rel,hw,k,o⟩=>k _ hw H rel (Kp.refl rel)
theorem Qph{c:Q3}{t:DT}(h:PT X c (tT X.K E t)):PTs X [c] (tT X.K E t):=Qtz h
theorem Qi4{K:PySem.W.Frag}{A1:Addr->Prop}{cap:List (Option Nat)}{σ σ4:L2.St}{δ δ4:Sts}{H3 H4:Hp}(r:Rel K (inF A1 cap σ δ H3) σ4 H4 δ4)(hk:∀b o,¬Yu σ δ b->H4 b=some o->H3 b=none->False){b:Addr}(h:Yu σ4 δ4 b):Yu σ δ b:=by
 obtain⟨i,h1,h2⟩:=h;obtain⟨p,n,e,hp,w⟩:=r.sl i _ _ h1 h2;cases e;rcases w with w | w
 ·exact QcO w
 ·by_cases z:Yu σ δ b
  ·exact z
  ·exact(hk b _ z hp w).elim
theorem QlM{K:PySem.W.Frag}{F:Fm}{σ:L2.St}{δ:Sts}{H1 H3:Hp}{cap:List (Option Nat)}{ix:List Nat}{wg:DG}{wt:DT}{A1:Addr->Prop}{x:V}{d:Qb}{inner:L2.St->Hp->(Hp->Prop)->Prop}{kk:Hp->Prop}{T:Sts->Prop}{N:Prop}
  (hf:QbU cap ix=true)(rel:Rel K F σ H1 δ)(hA:∀a,Av F σ δ a->A1 a)(hN:∀a,A1 a->Av F σ δ a∨H1 a=none)(dm:∀a,A1 a->∃xs,H3 a=some (.lst xs))(kp:Kp σ δ H1 H3)(dx:DA A1 H3 x d)
  (h:wg d (Qet cap δ) λδ4=>wt δ4 (λb=>if b=true then T δ4 else N) XF)
  (hT:∀σ4 δ4 H5,T δ4->Rel K (inF A1 cap σ δ H3) σ4 H5 δ4->Kp σ δ H3 H5->(∀b,Yu σ4 δ4 b->Yu σ δ b)->inner σ4 H5 kk)(hF:N->∀H5,Kp σ δ H3 H5->kk H5) :
  bOf (QdV cap σ) (tG ix K wg) (tT K E0 wt) inner x H3 kk:=by
 have ri:=Qng (cap:=cap) rel hA hN dm kp;have iv:∀{a:Addr},Av (inF A1 cap σ δ H3) (QdV cap σ) (Qet cap δ) a->A1 a:=λ{a}=>(Qj5 λa z=>hA a (Qac z)).mp
 refine⟨inF A1 cap σ δ H3,Qet cap δ,d,_,ri,dx.mv (λ_ _ _ e=>e) λa z=>.inl (iv z),h,λδ4 h4 σ4 r4 st4 l4 j4=>⟨Qsz hf l4 j4,inF A1 cap σ δ H3,δ4,_,XF,r4,h4,λb hb H5 r5 kp5=>?_,Qr8⟩⟩;have pots:∀{b:Addr},Yu σ4 δ4 b->Yu σ δ b:=λz=>Qi4 r4 (λb o _ e1 e2=>by rw[e2] at e1;cases e1) z
 have K5:Kp σ δ H3 H5:=by
  refine⟨λb o n e=>kp5.1 b o (λz=>n (pots z)) e,λb hb=>?_⟩;by_cases z:Yu σ4 δ4 b
  ·exact kp5.2 b z
  ·obtain⟨n,e⟩:=kp.2 b hb;exact⟨n,kp5.1 _ _ z e⟩
 exact Qdj hb (λz=>hT σ4 δ4 H5 z r5 K5 λb=>pots) λz=>hF z H5 K5
structure Lp (σ:L2.St) (δ:Sts) (A1:Addr->Prop) (p:Addr) (H1 H2:Hp) (acc:List Qb):Prop where
 kp:Kp σ δ H1 H2
 at_:∃ys,H2 p=some (.lst ys)/\DAs A1 H2 ys acc
theorem Lp.step{σ:L2.St}{δ:Sts}{A1:Addr->Prop}{p:Addr}{H1 H2 H3:Hp}{acc:List Qb}(hpA:∀a,Yu σ δ a->A1 a)(hpn:¬Yu σ δ p)(h:Lp σ δ A1 p H1 H2 acc)(k:Kp σ δ H2 H3):Lp σ δ A1 p H1 H3 acc:=by
 obtain⟨ys,e,q⟩:=h.at_;exact⟨h.kp.trans k,ys,k.1 _ _ hpn e,q.mv (λa o n e=>k.1 a o (λz=>n (hpA a z)) e) λa z=>.inl z⟩
theorem Qsp{K:PySem.W.Frag}{σ σ4:L2.St}{δ δ4:Sts}{H1 H3 H5:Hp}{cap:List (Option Nat)}{we:DE}{A1:Addr->Prop}{p:Addr}{acc:List Qb}{kk:Hp->Prop}{G:Qb->Prop}
  (hpA:A1 p)(hP:∀a,Yu σ δ a->A1 a)(hp1:H1 p=none)(hpn:¬Yu σ δ p)(lp:Lp σ δ A1 p H1 H5 acc)(hl:acc.length<sizeLine)(r5:Rel K (inF A1 cap σ δ H3) σ4 H5 δ4)(pots:∀b,Yu σ4 δ4 b->Yu σ δ b)
  (h:we δ4 G XF)(hk:∀e,G e->∀H',Lp σ δ A1 p H1 H' (acc++[e])->kk H'):QyH p (tX .D K E0 we) σ4 H5 kk:=by
 refine⟨inF A1 cap σ δ H3,δ4,G,XF,r5,h,λe he v H6 r6 kp6 dv=>?_,Qr8⟩;have k56:Kp σ δ H5 H6:=by
  refine⟨λb o n e=>kp6.1 b o (λz=>n (pots b z)) e,λb hb=>?_⟩;by_cases z:Yu σ4 δ4 b
  ·exact kp6.2 b z
  ·obtain⟨n,e⟩:=lp.kp.2 b hb;exact⟨n,kp6.1 _ _ z e⟩
 obtain⟨k6,ys,e6,q6⟩:=lp.step hP hpn k56;have up:∀{b:Addr}{o:HO},¬A1 b->H6 b=some o->upd H6 p (.lst (ys++[v])) b=some o:=λ{b o} n e=>by rw[JM (λz=>n (by rw[z];exact hpA))];exact e
 refine⟨ys,e6,by rw[q6.length];exact hl,hk e he _ ⟨⟨λb o n e=>?_,λb hb=>?_⟩,ys++[v],Jj,DAs.app (q6.mv (λ_ _=>up) λa z=>.inl z) (.cons (DA.mv dv (λa o n e=>up (λz=>n (.inl z)) e) λa z=>.inl (.inl z)) .nil)⟩⟩
 ·rw[JM (λz=>by rw[z,hp1] at e;cases e)];exact k6.1 b o n e
 ·rw[JM (λz=>hpn (by rw[<- z];exact hb))];exact k6.2 b hb
theorem Qt9{M:List Str}{cap:List (Option Nat)}{elt tg iter:Q3}{ifs:List Q3}{scope:Qan}{pos:Pos}{ix:List Nat}{wi:DI}{wg:DG}{wt:DT}{we:DE}(hc:X.calm=true)(ok:Qfs X.N X.env.scope M scope cap=true)(hf:QbU cap ix=true)
  (hi:PI X tg iter (tI .P X.K E wi))(hb:∀cl ex s3 H3 C,PG (blk X M scope cl ex s3 H3 C) tg (tG ix X.K wg)/\PTs (blk X M scope cl ex s3 H3 C) ifs (tT X.K E0 wt)/\PE (blk X M scope cl ex s3 H3 C) elt (tX .D X.K E0 we))
  (hs:∀x,foldedSetIterable iter X.env x=pure x:=by intro _;rfl):PE X (.ListComp elt [⟨tg,iter,ifs,0⟩] scope pos) (tX .F X.K E (dComp cap wi wg wt we)):=by
 refine PE.imp (QjM hc ok hi hb hs) λσ H Q ⟨F,δ,R,EX,rel,hw,k,o⟩=>?_
 refine⟨F,δ,_,EX,rel,hw,λitems hC J H1 rel1 kp1 ⟨ln,it⟩ p hp=>?_,o⟩;unfold Qg7 at hC;obtain⟨Iv,i0,step,fin⟩:=hC;have hpn:¬Yu σ δ p:=λz=>by obtain⟨xs,e⟩:=rel1.isl (Qac (F:=F) z);rw[hp] at e;cases e
 let A1:Addr->Prop:=λa=>Av F σ δ a∨a=p
 have hP:∀a,Yu σ δ a->A1 a:=λa z=>.inl (Qac z)
 have hN:∀a,A1 a->Av F σ δ a∨H1 a=none:=λa z=>z.elim .inl λz=>.inr (by rw[z];exact hp)
 have dmK:∀{H2:Hp},Kp σ δ H1 H2->(∃ys,H2 p=some (.lst ys))->∀a,A1 a->∃xs,H2 a=some (.lst xs):=λ{H2} k2 e2 a z=>by
  rcases z with z | z
  ·exact(rel1.kp k2).isl z
  ·rw[z];exact e2
 refine QeO items.length (λi H2=>i<=items.length/\∃acc,Iv i acc/\acc.length<=i/\Lp σ δ A1 p H1 H2 acc) ⟨Q9 _,[],i0,Ql _,Kp.same rel1 (Jt hp),[],Jj,.nil⟩ (λi H2 hi ⟨_,acc,iv,hl,lp⟩=>?_) λH2 ⟨_,acc,iv,hl,lp⟩=>?_
 ·obtain⟨k2,ys,e2,q2⟩:=lp;obtain⟨go,_⟩:=it H2 A1 (λb o n e=>k2.1 b o n e) hN (dmK k2 ⟨ys,e2⟩);have hd:items[i]? = some items[i]:=Qc hi;obtain⟨g1,g2⟩:=go i _ hd;refine⟨g1,λx H3 y kk hk=>?_⟩;obtain⟨s3,dx⟩:=g2 x H3 y;have k23:=Kp.same (rel1.kp k2) s3;have lp3:Lp σ δ A1 p H1 H3 acc:=Lp.step hP hpn ⟨k2,ys,e2,q2⟩ k23;refine QlM hf rel1 (λa z=>.inl z) hN (dmK lp3.kp ⟨ys,s3 _ _ e2⟩) lp3.kp dx (step i acc _ hd iv) (λσ4 δ4 H5 h5 r5 k5 pots=>?_) λh5 H5 k5=>hk _ ⟨hi,acc,h5,by omega,lp3.step hP hpn k5⟩
  exact Qsp (.inr rfl) hP hp hpn (lp3.step hP hpn k5) (by omega) r5 pots h5 λe he H' lp'=>hk _ ⟨hi,acc++[e],he,by rw[Qy];show _+1<=_;omega,lp'⟩
 ·obtain⟨k2,ys,e2,q2⟩:=lp;obtain⟨_,st⟩:=it H2 A1 (λb o n e=>k2.1 b o n e) hN (dmK k2 ⟨ys,e2⟩);refine⟨st,k _ (fin acc iv) (.ref p) H2 (rel1.kp k2) (kp1.trans k2) ⟨.lst (λz=>?_) e2 (q2.mv (λ_ _ _ e=>e) λa z=>.inl (.inl z)),λl e1 _=>?_⟩⟩
  ·obtain⟨xs,e⟩:=rel1.isl z;rw[hp] at e;cases e
  ·cases e1;exact QaX kp1 hp
theorem Qrd{items:List Qb}{wg:DG}{wt:DT}{we:DE}{δ:Sts}{Q:Qb->Prop}(G:Qb->Option Qb)
  (h:∀d∈items,∀(k1:Prop)(k2:Qb->Prop),(G d=none->k1)->(∀e,G d=some e->k2 e)->wg d δ λδ4=>wt δ4 (λb=>if b=true then we δ4 k2 XF else k1) XF)(q:Q (.list (items.filterMap G))) :
  Qg7 items wg wt we δ Q:=by
 unfold Qg7;refine⟨λi acc=>acc=(items.take i).filterMap G,by simp,λi acc d hd e=>?_,λacc e=>by rw[e,JY];exact q⟩;have hs:(items.take (i+1)).filterMap G=(items.take i).filterMap G++(G d).toList:=by
  rw[Zs,hd,Z5];cases e2:G d<;>simp[e2]
 have e:acc=(items.take i).filterMap G:=e;refine h d (Jo hd) _ _ (λe2=>?_) λe' e2=>?_
 ·show acc=(items.take (i+1)).filterMap G;rw[hs,e2,e];simp
 ·show acc++[e']=(items.take (i+1)).filterMap G;rw[hs,e2,e];rfl
theorem Qh7{items:List Qb}{wg:DG}{we:DE}{δ:Sts}{Q:Qb->Prop}(G:Qb->Qb)
  (h:∀d∈items,∀(k2:Qb->Prop),k2 (G d)->wg d δ λδ4=>we δ4 k2 XF)(q:Q (.list (items.map G))) :
  Qg7 items wg QvU we δ Q:=by
 unfold Qg7;refine⟨λi acc=>acc=(items.take i).map G,by simp,λi acc d hd e=>?_,λacc e=>by rw[e,JY];exact q⟩;have hs:(items.take (i+1)).map G=(items.take i).map G++[G d]:=by
  rw[Zs,hd,JO];simp
 have e:acc=(items.take i).map G:=e;have hh:=h d (Jo hd) (λe=>acc++[e]=(items.take (i+1)).map G) (by show acc++[G d]=_;rw[hs,e]);simp only[QvU,if_true];exact hh
end
theorem QnC:∀{a b:List (Int×Int)},dkV a=dkV b->a=b
 |[],[],_=>rfl
 |[],_::_,h=>by cases h
 |_::_,[],h=>by cases h
 |p::a,q::b,h=>by
  have h:=List.cons.inj (show(QcW p.1,V.int p.2)::dkV a=(QcW q.1,V.int q.2)::dkV b from h);have h1:=J8 h.1;rw[QnC h.2,QcX (QvZ h1.1) (V.int.inj h1.2)]
mutual
theorem QnJ{A B:Addr->Prop}{H:Hp}:∀(d d':Qb)(x:V),DA A H x d->DA B H x d'->d=d'
 |.none,d',_,.non,h=>by cases h;rfl
 |.bool _,d',_,.bl _,h=>by cases h;rfl
 |.int _,d',_,.int _,h=>by cases h;rfl
 |.str _,d',_,.str _ _,h=>by cases h;rfl
 |.tuple ds,d',_,.tup (xs:=xs) n e q,h=>by
  cases h with
  |@tup a ys es n' e' q'=>
   rw[e] at e';cases e';rw[QgN ds es xs q q']
  |@lst a ys es n' e' q'=>rw[e] at e';cases e'
  |@dct a kvs' ds' n' e' q'=>rw[e] at e';cases e'
 |.list ds,d',_,.lst (xs:=xs) n e q,h=>by
  cases h with
  |@tup a ys es n' e' q'=>rw[e] at e';cases e'
  |@lst a ys es n' e' q'=>
   rw[e] at e';cases e';rw[QgN ds es xs q q']
  |@dct a kvs' ds' n' e' q'=>rw[e] at e';cases e'
 |.dict _,d',_,.dct (kvs:=kvs) n e q,h=>by
  cases h with
  |@tup a ys es n' e' q'=>rw[e] at e';cases e'
  |@lst a ys es n' e' q'=>rw[e] at e';cases e'
  |@dct a kvs' ds' n' e' q'=>
   rw[e] at e';rw[q,q',QnC (HO.dK.inj (QK e'))]
theorem QgN{A B:Addr->Prop}{H:Hp}:∀(ds es:List Qb)(xs:List V),DAs A H xs ds->DAs B H xs es->ds=es
 |[],es,_,.nil,h=>by cases h;rfl
 |d::ds,es,_,.cons q qs,h=>by
  cases h with
  |@cons x xs e es q' qs'=>rw[QnJ d e _ q q',QgN ds es _ qs qs']
end
mutual
theorem Qyk{A:Addr->Prop}{H:Hp}{l:Addr}{rs:List Qb}(root:DA A H (.ref l) (.list rs)):∀(d:Qb)(x:V),sizeOf d<sizeOf (YG rs)->DA A H x d->DA (λa=>A a∨a=l) H x d
 |.none,_,_,.non=>.non
 |.bool _,_,_,.bl _=>.bl _
 |.int _,_,_,.int _=>.int _
 |.str _,_,_,.str _ c=>.str _ c
 |.tuple ds,_,hs,.tup (a:=a) (xs:=xs) n e q=>.tup (λz=>z.elim n λz=>by subst z;cases root with | @lst _ ys _ n' e' q'=>(rw[e] at e';cases e')) e (QgO root ds xs (by simp at hs ⊢;omega) q)
 |.list ds,_,hs,.lst (a:=a) (xs:=xs) n e q=>.lst (λz=>z.elim n λz=>by
   subst z;have:=QnJ _ _ _ root (.lst n e q);rw[this] at hs;omega) e (QgO root ds xs (by simp at hs ⊢;omega) q)
 |.dict _,_,hs,.dct (a:=a) n e q=>.dct (λz=>z.elim n λz=>by subst z;cases root with | @lst _ ys _ n' e' q'=>(rw[e] at e';cases e')) e q
theorem QgO{A:Addr->Prop}{H:Hp}{l:Addr}{rs:List Qb}(root:DA A H (.ref l) (.list rs)):∀(ds:List Qb)(xs:List V),sizeOf ds<sizeOf (YG rs)->DAs A H xs ds->DAs (λa=>A a∨a=l) H xs ds
 |[],_,_,.nil=>.nil
 |d::ds,_,hs,.cons q qs=>.cons (Qyk root d _ (by simp at hs ⊢;omega) q) (QgO root ds _ (by simp at hs ⊢;omega) qs)
end
theorem DA.items{A:Addr->Prop}{H:Hp}{l:Addr}{ds:List Qb}(root:DA A H (.ref l) (.list ds)):∃xs,H l=some (.lst xs)/\DAs (λa=>A a∨a=l) H xs ds:=by
 have root':=root;cases root with
 |@lst _ xs _ n e q=>exact⟨xs,e,QgO root' ds xs (by simp) q⟩
structure Qg6 where
 nx:Sts->Prop
 rt:Qb->Prop
 rtF:Qb->Prop
 bk:Sts->Prop
 ct:Sts->Prop
 ex:XP
abbrev DS:=Qg6->Sts->Prop
structure Nx (K:PySem.W.Frag) (F:Fm) (σ:L2.St) (H:Hp) (δ:Sts) (R:Sts->Prop) (T:L2.St->Hp->Prop):Prop where
 go:∀δ',R δ'->∀σ' H',Rel K F σ' H' δ'->Stp F σ H δ σ' H' δ'->T σ' H'
structure Ends1 (K:PySem.W.Frag) (E:XK) (F:Fm) (σ:L2.St) (H:Hp) (δ:Sts) (DD:Qg6) (D:Ends):Prop where
 nx:Nx K F σ H δ DD.nx D.nx
 rt:∀d,DD.rt d->∀v H',Ke F H'->DA F.A0 H' v d->D.rt v H'
 rtF:∀d,DD.rtF d->∀v H',Ke F H'->DA F.A0 H' v d->FrV F.H0 H' v->D.rt v H'
 bk:Nx K F σ H δ DD.bk D.bk
 ct:Nx K F σ H δ DD.ct D.ct
 ex:Out F E DD.ex
def tS(K:PySem.W.Frag)(E:XK)(w:DS):TS:=λD σ H=>∃(F:Fm)(δ:Sts)(DD:Qg6),Rel K F σ H δ/\w DD δ/\Ends1 K E F σ H δ DD D
theorem Nx.step{K:PySem.W.Frag}{F:Fm}{σ σ1:L2.St}{H H1:Hp}{δ δ1:Sts}{R:Sts->Prop}{T:L2.St->Hp->Prop}(h:Nx K F σ H δ R T)(s:Stp F σ H δ σ1 H1 δ1):Nx K F σ1 H1 δ1 R T:=⟨λδ' hR σ' H' r st=>h.go δ' hR σ' H' r (s.trans st)⟩
theorem Ends1.step{K:PySem.W.Frag}{E:XK}{F:Fm}{σ σ1:L2.St}{H H1:Hp}{δ δ1:Sts}{DD:Qg6}{D:Ends}(h:Ends1 K E F σ H δ DD D)(s:Stp F σ H δ σ1 H1 δ1):Ends1 K E F σ1 H1 δ1 DD D:=⟨h.nx.step s,h.rt,h.rtF,h.bk.step s,h.ct.step s,h.ex⟩
section
variable{X:Cx}{E:XK}
theorem PS.imp{e:YO}{t t':TS}(h:PS X e t)(i:∀D σ H,t' D σ H->t D σ H):PS X e t':=λpins s σ H D I q=>h pins s σ H D I (i D σ H q)
theorem PSs.imp{e:List YO}{t t':TS}(h:PSs X e t)(i:∀D σ H,t' D σ H->t D σ H):PSs X e t':=λpins s σ H D I q=>h pins s σ H D I (i D σ H q)
def QBx(a b:DS):DS:=λD δ=>a { D with nx:=b D } δ
def Qyn:DS:=λD δ=>D.nx δ
theorem Qpj:PSs X [] (tS X.K E Qyn):=PSs.imp QiN λD σ H ⟨F,δ,DD,rel,hw,en⟩=>en.nx.go δ hw σ H rel Stp.refl
theorem QtW{st:YO}{w:DS}(h:PS X st (tS X.K E w)):PSs X [st] (tS X.K E w):=QbP h
theorem Qpn{st:YO}{rest:List YO}{w w':DS}(h:PS X st (tS X.K E w))(h':PSs X rest (tS X.K E w')):PSs X (st::rest) (tS X.K E (QBx w w')):=by
 refine PSs.imp (Qak h h') λD σ H ⟨F,δ,DD,rel,hw,en⟩=>?_
 exact⟨F,δ,_,rel,hw,⟨λδ' h' σ' H' r st=>⟨F,δ',DD,r,h',en.step st⟩⟩,en.rt,en.rtF,en.bk,en.ct,en.ex⟩
def Qy6(i:Nat)(we:DE):DS:=λD δ=>we δ (λd=>D.nx (δ.set i (.v d))) D.ex
def Qvb(i:Nat)(we:DE):DS:=λD δ=>we δ (λd=>match d with
 |.list ds=>D.nx (δ.set i (.own ds))
 |_=>False) D.ex
def Qyo(i:Nat)(we:DE):DS:=λD δ=>we δ (λd=>match d with
 |.list [.int _]=>D.nx (δ.set i .pot)
 |_=>False) D.ex
variable{i:Nat}{e:Q3}{st:YO}{we wi:DE}
theorem QiP(h:PS X st (QrN (tX .D X.K E we) (Qfq i))):PS X st (tS X.K E (Qy6 i we)):=by
 refine PS.imp h λD σ H ⟨F,δ,DD,rel,hw,en⟩=>?_
 refine⟨F,δ,_,DD.ex,rel,hw,λd hd v H' rel' kp vk=>?_,en.ex⟩;exact en.nx.go _ hd _ H' (rel'.setv vk) ((Stp.kp kp).trans Stp.setv)
theorem QsE{F:Fm}{σ:L2.St}{δ:Sts}{i:Nat}{l:Addr}{x:Sl}{a:Addr}(h:Av F (σ.set i (some (.ref l))) (δ.set i x) a):Av F σ δ a∨a=l:=by
 rcases h with h | ⟨j,h1,h2⟩
 ·exact .inl (.inl h)
 ·by_cases z:j=i
  ·subst z;cases set_eq h1;exact .inr rfl
  ·rw[Qao z] at h1 h2;exact .inl (.inr ⟨j,h1,h2⟩)
theorem Rel.seto{K:PySem.W.Frag}{F:Fm}{σ:L2.St}{H H':Hp}{δ:Sts}{l:Addr}{x:Sl}(r:Rel K F σ H δ)(r':Rel K F σ H' δ)(kp:Kp σ δ H H')(n:H l=none)(hx:∀A:Addr->Prop,(∀a,A a->Av F σ δ a∨H a=none)->(∀a,A a->Av F σ δ a∨a=l)->QBM K F H' A (some (.ref l)) x) :
  Rel K F (σ.set i (some (.ref l))) H' (δ.set i x)/\Stp F σ H δ (σ.set i (some (.ref l))) H' (δ.set i x):=by
 have nA:∀a,Av F (σ.set i (some (.ref l))) (δ.set i x) a->Av F σ δ a∨H a=none:=λa z=>(QsE z).elim .inl λz=>.inr (by rw[z];exact n)
 have kk:∀a o,¬Av F σ δ a->H a=some o->H' a=some o:=λa o m e=>kp.1 a o (λz=>m (Qac z)) e
 refine⟨?_,⟨kk,nA⟩⟩;exact{
  len:=by rw[Yi,Yi];exact r.len
  dom:=r'.dom
  dom0:=r'.dom0
  pt0:=r'.pt0
  kx:=r'.kx
  sl:=λj o y h1 h2=>by
   by_cases z:j=i
   ·subst z;cases set_eq h1;cases set_eq h2;exact hx _ nA λa z=>QsE z
   ·rw[Qao z] at h1 h2;have h:=r.sl j o y h1 h2;have h':=r'.sl j o y h1 h2;cases y with
    |no=>trivial
    |v d=>obtain⟨v',e,q'⟩:=h;exact⟨v',e,q'.mv kk nA⟩
    |own ds=>obtain⟨l',xs,rfl,e2,q',f⟩:=h;exact⟨l',xs,rfl,kp.1 _ _ (r.own_pot h2 h1) e2,q'.mv kk nA,f⟩
    |pk ds=>
     obtain⟨l',xs,rfl,e2,q',ys,f,f2⟩:=h;refine⟨l',xs,rfl,kp.1 _ _ ?_ e2,q'.mv kk nA,ys,f,f2⟩;rintro⟨j,j1,j2⟩;obtain⟨p,m,e1,_,w⟩:=r.sl j _ _ j1 j2;cases e1;rcases w with w | w
     ·exact f2 w
     ·rw[w] at f;cases f
    |pot=>exact h'
    |scr=>exact h'
  inj:=λj k a ds h1 h2 ⟨h3,h4⟩=>by
   have ne:∀(k:Nat),k≠i->σ[k]? = some (some (.ref l))->(δ[k]? = some .pot∨∃ds,δ[k]? = some (.own ds))->False:=λk _ h3 h4=>by
    obtain⟨xs,e⟩:=r.isl (a:=l) (.inr ⟨k,h3,h4⟩);rw[n] at e;cases e
   by_cases z:j=i
   ·subst z;cases set_eq h2;by_cases z2:k=j
    ·exact z2.symm
    ·rw[Qao z2] at h3 h4;exact(ne k z2 h3 h4).elim
   ·rw[Qao z] at h1 h2;by_cases z2:k=i
    ·subst z2;cases set_eq h3;exact(ne j z h2 (.inr ⟨ds,h1⟩)).elim
    ·rw[Qao z2] at h3 h4;exact r.inj j k a ds h1 h2 ⟨h3,h4⟩ }
theorem Qnp{K:PySem.W.Frag}{F:Fm}{σ:L2.St}{H:Hp}{δ:Sts}(r:Rel K F σ H δ){l:Addr}(n:H l=none):F.H0 l=none:=by
 cases e:F.H0 l with
 |none=>rfl
 |some o=>
  by_cases z:F.pt l
  ·obtain⟨_,m,e'⟩:=r.pt0 l z;rw[n] at e';cases e'
  ·rw[r.kx l o z e] at n;cases n
theorem QjN(h:PS X st (QrN (tX .F X.K E we) (Qfq i))):PS X st (tS X.K E (Qvb i we)):=by
 refine PS.imp h λD σ H ⟨F,δ,DD,rel,hw,en⟩=>?_
 refine⟨F,δ,_,DD.ex,rel,hw,λd hd v H' rel' kp ⟨vk,fr⟩=>?_,en.ex⟩;obtain⟨ds,rfl⟩:∃ds,d=.list ds:=by cases d<;>first | exact⟨_,rfl⟩ | exact(show False from hd).elim
 obtain⟨l,rfl⟩:∃l,v=.ref l:=by cases vk;exact⟨_,rfl⟩
 obtain⟨xs,e,q⟩:=DA.items vk;have n:=fr l rfl ⟨xs,e⟩;obtain⟨r2,st⟩:=rel.seto (i:=i) (x:=.own ds) rel' kp n λA hA hB=>⟨l,xs,rfl,e,q.mv (λ_ _ _ e=>e) λa z=>.inl (hB a z),Qnp rel n⟩
 exact en.nx.go _ hd _ H' r2 st
theorem Qpk(h:PS X st (QrN (tX .F X.K E we) (Qfq i))):PS X st (tS X.K E (Qyo i we)):=by
 refine PS.imp h λD σ H ⟨F,δ,DD,rel,hw,en⟩=>?_
 refine⟨F,δ,_,DD.ex,rel,hw,λd hd v H' rel' kp ⟨vk,fr⟩=>?_,en.ex⟩;split at hd
 ·cases vk with
  |@lst l xs ds na e q=>
   have n:=fr l rfl ⟨xs,e⟩;cases q with
   |cons q1 q2=>
    cases q1;cases q2;obtain⟨r2,st⟩:=rel.seto (i:=i) (x:=.pot) rel' kp n λA hA hB=>⟨l,_,rfl,e,.inr (Qnp rel n)⟩
    exact en.nx.go _ hd _ H' r2 st
 ·exact hd.elim
def QBJ(we:DE)(wg:DG):DS:=λD δ=>we δ (λd=>wg d δ D.nx) D.ex
theorem Qt2{ix:List Nat}{wg:DG}(h:PS X st (QrN (tX .D X.K E we) (tG ix X.K wg))):PS X st (tS X.K E (QBJ we wg)):=by
 refine PS.imp h λD σ H ⟨F,δ,DD,rel,hw,en⟩=>?_
 refine⟨F,δ,_,DD.ex,rel,hw,λd hd v H' rel' kp vk=>?_,en.ex⟩;exact⟨F,δ,d,_,rel',vk,hd,λδ' h' σ' r' st' _ _=>en.nx.go _ h' _ H' r' ((Stp.kp kp).trans st')⟩
def QBz(i j:Nat)(wa:DAr):DS:=λD δ=>wa δ (λds=>match ds with
 |[a,b]=>D.nx ((δ.set i (.v a)).set j (.v b))
 |_=>False) D.ex
theorem QtV{n i j:Nat}{wa:DAr}(h:PS X st (QA6 i j (tAr n .D X.K E wa))):PS X st (tS X.K E (QBz i j wa)):=by
 refine PS.imp h λD σ H ⟨F,δ,DD,rel,hw,en⟩=>?_
 refine⟨F,δ,_,DD.ex,rel,hw,λds hds _ vs H' rel' kp q=>?_,en.ex⟩;split at hds
 ·cases q with
  |cons q1 q2=>cases q2 with
   |cons q2 q3=>
    cases q3;refine⟨_,_,rfl,en.nx.go _ hds _ H' ((rel'.setv q1).setv (DA.mv q2 (λ_ _ _ e=>e) λa z=>.inl (Qd8 z))) (((Stp.kp kp).trans Stp.setv).trans Stp.setv)⟩
 ·exact hds.elim
def QBy(we:DE):DS:=λD δ=>we δ D.rt D.ex
def Qyq(we:DE):DS:=λD δ=>we δ D.rtF D.ex
theorem Qva{F:Fm}{σ:L2.St}{δ:Sts}{H:Hp}{v:V}{d:Qb}(h:DA (Av F σ δ) H v d):DA F.A0 H v d:=h.mv (λ_ _ _ e=>e) λa z=>.inl (.inl z)
theorem QtT{e:Q3}{pos:Pos}(h:PE X e (tX .D X.K E we)):PS X (.Return (some e) pos) (tS X.K E (QBy we)):=by
 refine PS.imp (Qdb h) λD σ H ⟨F,δ,DD,rel,hw,en⟩=>?_
 exact⟨F,δ,_,DD.ex,rel,hw,λd hd v H' rel' kp vk=>en.rt d hd v H' rel'.ke (Qva vk),en.ex⟩
theorem Qpm{e:Q3}{pos:Pos}(h:PE X e (tX .F X.K E we)):PS X (.Return (some e) pos) (tS X.K E (Qyq we)):=by
 refine PS.imp (Qdb h) λD σ H ⟨F,δ,DD,rel,hw,en⟩=>?_
 exact⟨F,δ,_,DD.ex,rel,hw,λd hd v H' rel' kp vk=>en.rtF d hd v H' rel'.ke (Qva vk.1) λl e1 e2=>Qnp rel (vk.2 l e1 e2),en.ex⟩
def Qvc(i:Nat):DS:=λD δ=>match δ[i]? with
 |some (.own ds)=>D.rtF (.list ds)
 |some (.v d)=>D.rt d
 |_=>False
theorem Qpl{e:Q3}{pos:Pos}(h:PE X e (QiG i)):PS X (.Return (some e) pos) (tS X.K E (Qvc i)):=by
 refine PS.imp (Qdb h) λD σ H ⟨F,δ,DD,rel,hw,en⟩=>?_
 unfold Qvc at hw;split at hw
 ·rename_i ds hd
  obtain⟨x,hx⟩:=rel.lt hd;obtain⟨l,xs,rfl,e,q,f⟩:=rel.sl i _ _ hx hd;refine⟨_,hx,en.rtF _ hw _ H rel.ke (.lst (λz=>?_) e (q.mv (λ_ _ _ e=>e) λa z=>.inl (.inl z))) λl' e1 _=>by cases e1;exact f⟩;obtain⟨ys,e'⟩:=rel.dom0 l z;rw[f] at e';cases e'
 ·rename_i d hd
  obtain⟨x,hx⟩:=rel.lt hd;obtain⟨v,rfl,q⟩:=rel.sl i _ _ hx hd;exact⟨v,hx,en.rt _ hw _ H rel.ke (Qva q)⟩
 ·exact hw.elim
def dIf(t:DT)(a b:DS):DS:=λD δ=>t δ (λc=>if c=true then a D δ else b D δ) D.ex
theorem Qw4{c:Q3}{a b:List YO}{pos:Pos}{t:DT}{w w':DS}(hc:PT X c (tT X.K E t))(ha:PSs X a (tS X.K E w))(hb:PSs X b (tS X.K E w')):PS X (.If c a b pos) (tS X.K E (dIf t w w')):=by
 refine PS.imp (QtA hc ha hb) λD σ H ⟨F,δ,DD,rel,hw,en⟩=>?_
 exact⟨F,δ,_,DD.ex,rel,hw,λb hb H' rel' kp=>Qdj hb (λz=>⟨F,δ,DD,rel',z,en.step (Stp.kp kp)⟩) λz=>⟨F,δ,DD,rel',z,en.step (Stp.kp kp)⟩,en.ex⟩
theorem Qmn{sts:List YO}:PSs X sts (tS X.K E λ_ _=>False):=λpins s σ H D I ⟨F,δ,DD,rel,hw,en⟩=>hw.elim
def QAR(i:Nat)(rD:Qb->Qb->(Qb->Prop)->Prop)(we:DE):DS:=λD δ=>match δ[i]? with
 |some (.v d)=>we δ (λe=>rD d e (λz=>D.nx (δ.set i (.v z)))) D.ex
 |_=>False
theorem Qt1{r:TIp}{rD:Qb->Qb->(Qb->Prop)->Prop}(hd:Qoo r rD)(h:PS X st (QA7 i (tX .P X.K E we) (λx y H Q=>QcQ H->r x y H Q))):PS X st (tS X.K E (QAR i rD we)):=by
 refine PS.imp h λD σ H ⟨F,δ,DD,rel,hw,en⟩=>?_
 unfold QAR at hw;split at hw
 ·rename_i d hd'
  obtain⟨x,hx⟩:=rel.lt hd';obtain⟨v,rfl,q⟩:=rel.sl i _ _ hx hd';refine⟨v,hx,F,δ,_,DD.ex,rel,hw,λe he y H' rel' kp yk ln=>?_,en.ex⟩;refine hd (Av F σ δ) (Yu σ δ) H' v y d e _ _ ln (λa ha=>rel'.isl ha) (.inl (kp.da q)) yk he λz hz u H2 s du=>?_
  exact en.nx.go _ hz _ H2 ((rel'.same s).setv du) (((Stp.kp kp).trans (Stp.kp (Kp.same rel' s))).trans Stp.setv)
 ·exact hw.elim
theorem QmQ{g:Int->Int->Int}:Qoo (ipI g) (ii0 λi j=>.int (g i j)):=λA P H x y d1 d2 R Q ln dm hx hy h k=>by
 cases d1<;>cases d2<;>first | exact h.elim | skip
 rw[hx.int,hy.int];exact⟨_,_,rfl,rfl,k _ h _ H (Same.refl H) (.int _)⟩
theorem QmP:Qoo (rI CMul λi j=>.int (i*j)) (iiD CMul λi j=>.int (i*j)):=λA P H x y d1 d2 R Q ln dm hx hy h k=>by
 cases d1<;>cases d2<;>first | exact h.elim | skip
 rw[hx.int,hy.int];exact⟨_,_,rfl,rfl,h.1,k _ h.2 _ H (Same.refl H) (.int _)⟩
theorem PIp.len{op:Qb1}{t:TIp}(h:PIp X op t):PIp X op (λx y H Q=>QcQ H->t x y H Q):=λpins s σ H x y v u Q I rx ry q=>h pins s σ H x y v u Q I rx ry (q (Inv.lens I))
theorem Rel.mut{K:PySem.W.Frag}{F:Fm}{σ:L2.St}{H:Hp}{δ:Sts}(r:Rel K F σ H δ){l:Addr}{ds ds':List Qb}{ys:List V}(h:δ[i]? = some (.own ds))(hx:σ[i]? = some (some (.ref l)))(q:DAs (Av F σ δ) H ys ds') :
  Rel K F σ (upd H l (.lst ys)) (δ.set i (.own ds'))/\Stp F σ H δ σ (upd H l (.lst ys)) (δ.set i (.own ds')):=by
 have hl:Av F σ δ l:=.inr ⟨i,hx,.inr ⟨ds,h⟩⟩;obtain⟨l',xs0,e0,el,_,f⟩:=r.sl i _ _ hx h;cases e0;have lt:i < δ.length:=(Jh.mp h).1;have ge:(δ.set i (.own ds'))[i]? = some (.own ds'):=by rw[Qcs lt]
 have kk:∀a o,¬Av F σ δ a->H a=some o->upd H l (.lst ys) a=some o:=λa o n e=>by rw[JM (λz=>n (by rw[z];exact hl))];exact e
 have av:∀a,Av F σ (δ.set i (.own ds')) a->Av F σ δ a:=λa z=>by
  rcases z with z | ⟨j,h1,h2⟩
  ·exact .inl z
  ·by_cases z:j=i
   ·subst z;exact .inr ⟨j,h1,.inr ⟨ds,h⟩⟩
   ·rw[Qao z] at h2;exact .inr ⟨j,h1,h2⟩
 have up:∀{b:Addr}{o:HO},b≠l->H b=some o->upd H l (.lst ys) b=some o:=λn e=>by rw[JM n];exact e
 refine⟨?_,⟨kk,λa z=>.inl (av a z)⟩⟩;exact{
  len:=by rw[Yi];exact r.len
  dom:=λa ha=>by
   by_cases z:a=l
   ·rw[z];exact⟨_,Jj⟩
   ·obtain⟨xs,e⟩:=r.dom a ha;exact⟨xs,up z e⟩
  dom0:=r.dom0
  pt0:=λp hp=>by
   obtain⟨h1,n,e⟩:=r.pt0 p hp;refine⟨h1,n,up (λz=>?_) e⟩;obtain⟨xs,e'⟩:=r.dom0 p h1;rw[z,f] at e';cases e'
  kx:=λb o n e=>up (λz=>by rw[z,f] at e;cases e) (r.kx b o n e)
  sl:=λj o y h1 h2=>by
   by_cases z:j=i
   ·subst z;rw[ge] at h2;cases h2;rw[hx] at h1;cases h1;exact⟨l,ys,rfl,Jj,q.mv kk λa z=>.inl (av a z),f⟩
   ·rw[Qao z] at h2;have hh:=r.sl j o y h1 h2;cases y with
    |no=>trivial
    |v d=>obtain⟨v',e,q'⟩:=hh;exact⟨v',e,q'.mv kk λa z=>.inl (av a z)⟩
    |own es=>
     obtain⟨l',xs,rfl,e2,q',f'⟩:=hh;exact⟨l',xs,rfl,up (λz2=>z (r.inj j i l' es h2 h1 ⟨by rw[z2];exact hx,.inr ⟨ds,h⟩⟩)) e2,q'.mv kk λa z=>.inl (av a z),f'⟩
    |pk es=>
     obtain⟨l',xs,rfl,e2,q',ys',f',f2⟩:=hh;exact⟨l',xs,rfl,up (λz2=>by rw[z2,f] at f';cases f') e2,q'.mv kk λa z=>.inl (av a z),ys',f',f2⟩
    |pot=>
     obtain⟨p,n,rfl,e2,w⟩:=hh;refine⟨p,n,rfl,up (λz2=>?_) e2,w⟩;subst z2;exact r.own_pot h hx ⟨j,h1,h2⟩
    |scr=>exact hh
  inj:=λj k a es h1 h2 ⟨h3,h4⟩=>by
   have h4':δ[k]? = some .pot∨∃ds,δ[k]? = some (.own ds):=by
    by_cases z:k=i
    ·subst z;exact .inr ⟨ds,h⟩
    ·rw[Qao z] at h4;exact h4
   by_cases z:j=i
   ·subst z;exact r.inj j k a ds h h2 ⟨h3,h4'⟩
   ·rw[Qao z] at h1;exact r.inj j k a es h1 h2 ⟨h3,h4'⟩ }
def QAS(i:Nat)(we:DE):DS:=λD δ=>match δ[i]? with
 |some (.own ds)=>we δ (λd=>ds.length<1000000/\D.nx (δ.set i (.own (ds++[d])))) D.ex
 |_=>False
theorem Qt3(h:PS X st (QoH (tBM X.K "list" Qmd (QiG i) (Qc2 (tX .D X.K E we) Qom)))):PS X st (tS X.K E (QAS i we)):=by
 refine PS.imp h λD σ H ⟨F,δ,DD,rel,hw,en⟩=>?_
 unfold QAS at hw;split at hw
 ·rename_i ds hd
  obtain⟨x,hx⟩:=rel.lt hd;obtain⟨l,xs,rfl,e,q,f⟩:=rel.sl i _ _ hx hd;have np:=rel.own_pot hd hx;refine⟨.ref l,hx,.inl ⟨rfl,_,SqL.of e⟩,F,δ,_,DD.ex,rel,hw,λd ⟨hl,hn⟩ v H' rel' kp vk=>?_,en.ex⟩;have q':=kp.das q;refine⟨l,xs,v,rfl,rfl,kp.1 _ _ np e,QP (by rw[q.length];exact hl) QhR,?_⟩;obtain⟨r2,st⟩:=rel'.mut hd hx (q'.app (.cons vk .nil));exact en.nx.go _ hn _ _ r2 ((Stp.kp kp).trans st)
 ·exact hw.elim
def QAP(i:Nat)(we:DE):DS:=λD δ=>match δ[i]? with
 |some (.own ds)=>we δ (λd=>match d with
  |.list es=>ds.length+es.length<=1000000/\D.nx (δ.set i (.own (ds++es)))
  |_=>False) D.ex
 |_=>False
theorem Qt0(h:PS X st (QoH (tBM X.K "list" Qmc (QiG i) (Qc2 (tX .P X.K E we) Qom)))):PS X st (tS X.K E (QAP i we)):=by
 refine PS.imp h λD σ H ⟨F,δ,DD,rel,hw,en⟩=>?_
 unfold QAP at hw;split at hw
 ·rename_i ds hd
  obtain⟨x,hx⟩:=rel.lt hd;obtain⟨l,xs,rfl,e,q,f⟩:=rel.sl i _ _ hx hd;have np:=rel.own_pot hd hx;refine⟨.ref l,hx,.inl ⟨rfl,_,SqL.of e⟩,F,δ,_,DD.ex,rel,hw,λd hd2 v H' rel' kp vk=>?_,en.ex⟩;cases d<;>first | exact(show False from hd2).elim | skip
  obtain⟨hl,hn⟩:=hd2;obtain⟨l2,ys,rfl,e2,q2⟩:=DP.list vk;have q':=kp.das q;refine⟨l,l2,xs,ys,rfl,rfl,kp.1 _ _ np e,e2,QJ (by rw[q.length,q2.length];exact hl) QhR,?_⟩;obtain⟨r2,st⟩:=rel'.mut hd hx (q'.app q2);exact en.nx.go _ hn _ _ r2 ((Stp.kp kp).trans st)
 ·exact hw.elim
def Qvf(i:Nat)(rD:Qb->Qb->(Qb->Prop)->Prop)(wi we:DE):DS:=λD δ=>match δ[i]? with
 |some (.own ds)=>wi δ (λz=>match z with
  |.int k=>∃j a,ixN ds.length k=some j/\ds[j]? = some a/\we δ (λe=>rD a e λb=>D.nx (δ.set i (.own (ds.set j b)))) D.ex
  |_=>False) D.ex
 |_=>False
theorem Qpo{r:TIp}{rD:Qb->Qb->(Qb->Prop)->Prop}(hd:Qoo r rD)(h:PS X st (Qwi (QiG i) (tX .P X.K E wi) (tX .P X.K E we) (Qy0 X.K) (λx y H Q=>QcQ H->r x y H Q) Qwy)):PS X st (tS X.K E (Qvf i rD wi we)):=by
 refine PS.imp h λD σ H ⟨F,δ,DD,rel,hw,en⟩=>?_
 unfold Qvf at hw;split at hw
 ·rename_i ds hds
  obtain⟨x,hx⟩:=rel.lt hds;obtain⟨l,xs,rfl,e,q,f⟩:=rel.sl i _ _ hx hds;have np:=rel.own_pot hds hx;refine⟨.ref l,hx,F,δ,_,DD.ex,rel,hw,λz hz y H1 rel1 kp1 yk=>?_,en.ex⟩;cases z<;>first | exact(show False from hz).elim | skip
  obtain⟨j,a,hj,ha,hn⟩:=hz;have q1:=kp1.das q;obtain⟨va,hva,da⟩:=q1.get j a ha;rw[DP.int yk];refine⟨l,xs,_,va,rfl,rfl,SqL.of (kp1.1 _ _ np e),by unfold atI;rw[q.length,hj];exact hva,F,δ,_,DD.ex,rel1,hn,λb hb u H2 rel2 kp2 uk ln=>?_,en.ex⟩;refine hd (Av F σ δ) (Yu σ δ) H2 va u a b _ _ ln (λa ha=>rel2.isl ha) (.inl (kp2.da da)) uk hb λc hc w H3 s dw=>?_
  have r3:=rel2.same s;have k3:=kp2.trans (Kp.same rel2 s);refine⟨l,xs,_,j,rfl,rfl,k3.1 _ _ np (kp1.1 _ _ np e),by rw[q.length];exact hj,?_⟩;obtain⟨r4,st⟩:=r3.mut hds hx ((k3.das q1).set dw j);exact en.nx.go _ hc _ _ r4 (((Stp.kp kp1).trans (Stp.kp k3)).trans st)
 ·exact hw.elim
@[irreducible] def QvC(items:List Qb)(wg:DG)(wb:DS)(D:Qg6)(δ:Sts):Prop:=∃Iv:Nat->Sts->Prop,Iv 0 δ/\(∀(i:Nat) d δ,items[i]? = some d->Iv i δ->wg d δ λδ2=>wb { D with nx:=Iv (i+1),ct:=Iv (i+1),bk:=D.nx } δ2)/\∀δ,Iv items.length δ->D.nx δ
def dFor(wi:DI)(wg:DG)(wb:DS):DS:=λD δ=>wi δ (λitems=>QvC items wg wb D δ) D.ex
theorem QtZ{tg iter:Q3}{body:List YO}{pos:Pos}{ix:List Nat}{wi:DI}{wg:DG}{wb:DS}(hp:PassesOwn (model X.prog X.w) X.A X.env X.xe)(hc:X.calm=true)(hi:PI X tg iter (tI .D X.K E wi))(hg:PG X tg (tG ix X.K wg))(hb:PSs X body (tS X.K E wb))
  (hs:∀x,foldedSetIterable iter X.env x=pure x:=by intro _;rfl):PS X (.For tg iter body [] pos) (tS X.K E (dFor wi wg wb)):=by
 refine PS.imp (Qr1 hp hc hi hg hb hs) λD σ H ⟨F,δ,DD,rel,hw,en⟩=>?_
 refine⟨F,δ,_,DD.ex,rel,hw,λitems hC J H1 rel1 kp1 ⟨ln,it⟩=>?_,en.ex⟩;unfold QvC at hC;obtain⟨Iv,i0,step,fin⟩:=hC;have en1:=en.step (Stp.kp (F:=F) kp1);refine⟨λi m σ' H'=>m=items.length - i/\i<=items.length/\∃δ',Iv i δ'/\Rel X.K F σ' H' δ'/\Stp F σ H1 δ σ' H' δ',⟨_,rfl,Q9 _,δ,i0,rel1,Stp.refl⟩,?_⟩;rintro i m σ' H' ⟨rfl,hi',δ',iv,r',st'⟩;obtain⟨go,stop⟩:=it H' (Av F σ' δ') st'.1 st'.2 λa ha=>r'.isl ha
 by_cases hlt:i<items.length
 ·have hd:items[i]? = some items[i]:=Qc hlt;obtain⟨g1,g2⟩:=go i _ hd;refine .inr ⟨g1,λσ2 H2=>∃δ2,Iv (i+1) δ2/\Rel X.K F σ2 H2 δ2/\Stp F σ H1 δ σ2 H2 δ2,λσ2 H2 ⟨δ2,h2,r2,s2⟩=>⟨_,by omega,rfl,hlt,δ2,h2,r2,s2⟩,λx H3 y=>?_⟩;obtain⟨s3,dx⟩:=g2 x H3 y;have r3:=r'.same s3;have st3:Stp F σ H1 δ σ' H3 δ':=st'.trans (Stp.kp (Kp.same r' s3));refine⟨F,δ',_,_,r3,dx,step i _ δ' hd iv,λδ4 h4 σ4 r4 st4 _ _=>⟨F,δ4,_,r4,h4,?_⟩⟩;have st5:=st3.trans st4;exact⟨⟨λδ6 h6 σ6 H6 r6 s6=>⟨δ6,h6,r6,st5.trans s6⟩⟩,en.rt,en.rtF,(en1.step st5).nx,⟨λδ6 h6 σ6 H6 r6 s6=>⟨δ6,h6,r6,st5.trans s6⟩⟩,en.ex⟩
 ·have e:i=items.length:=by omega
  subst e;exact .inl ⟨stop,(en1.step st').nx.go δ' (fin δ' iv) σ' H' r' Stp.refl⟩
theorem QeW{lo:Int}{n:Nat}{wg:DG}{wb:DS}{D:Qg6}{δ:Sts}(Iv:Nat->Sts->Prop)(h0:Iv 0 δ)
  (hs:∀(i:Nat) δ,i<n->Iv i δ->wg (.int (lo+i)) δ λδ2=>wb { D with nx:=Iv (i+1),ct:=Iv (i+1),bk:=D.nx } δ2)(hd:∀δ,Iv n δ->D.nx δ):QvC (Qfd lo n) wg wb D δ:=by
 unfold QvC;exact⟨Iv,h0,λi d δ hd iv=>by obtain⟨hi,rfl⟩:=QbK hd;exact hs i δ hi iv,λδ iv=>hd δ (by rw[QeG] at iv;exact iv)⟩
theorem QaF{items:List Qb}{wg:DG}{wb:DS}{D:Qg6}{δ:Sts}(Iv:Nat->Sts->Prop)(h0:Iv 0 δ)
  (hs:∀(i:Nat) d δ,items[i]? = some d->Iv i δ->wg d δ λδ2=>wb { D with nx:=Iv (i+1),ct:=Iv (i+1),bk:=D.nx } δ2)(hd:∀δ,Iv items.length δ->D.nx δ):QvC items wg wb D δ:=by
 unfold QvC;exact⟨Iv,h0,hs,hd⟩
end
def stD(N:List Str)(args:List Sl):Sts:=args++QZ (N.length - args.length) .no
theorem QfK{α β:Type}{R:α->β->Prop}:∀{xs:List α}{ys:List β},Qbc R xs ys->∀(i:Nat) x y,xs[i]? = some x->ys[i]? = some y->R x y
 |_,_,.nil,i,x,y,h,_=>by simp at h
 |_,_,.cons a b,0,x,y,h,h'=>by simp at h h';subst h h';exact a
 |_,_,.cons a b,i+1,x,y,h,h'=>QfK b i x y (by simpa using h) (by simpa using h')
theorem QlV{K:PySem.W.Frag}{N:List Str}{A pt:Addr->Prop}{H:Hp}{vs:List V}{args:List Sl}(dm:∀a,A a->∃xs,H a=some (.lst xs))(hp:∀p,pt p->A p/\∃n,H p=some (.lst [.int n]))(q:Qbc (Qld A pt H) vs args):Rel K ⟨H,A,pt⟩ (L2.start N vs) H (stD N args):=by
 have hl:vs.length=args.length:=q.length;have no:∀(i:Nat) x,(stD N args)[i]? = some x->(i<args.length/\args[i]? = some x)∨x=.no:=λi x h=>by
  unfold stD at h;by_cases z:i<args.length
  ·rw[J7 z] at h;exact .inl ⟨z,h⟩
  ·rw[Jn (by omega),ZL] at h;split at h
   ·exact .inr (QK h).symm
   ·cases h
 have arg:∀(i:Nat) o x,(L2.start N vs)[i]? = some o->(stD N args)[i]? = some x->x≠.no->∃v,o=some v/\Qld A pt H v x:=λi o x h1 h2 hx=>by
  rcases no i x h2 with⟨z,e⟩ | e
  ·unfold L2.start at h1;rw[J7 (by rw[Qe];omega),Qo] at h1;obtain⟨v,hv,rfl⟩:=ZP.mp h1;exact⟨v,rfl,QfK q i v x hv e⟩
  ·exact absurd e hx
 have av:∀a,Av ⟨H,A,pt⟩ (L2.start N vs) (stD N args) a->A a:=λa z=>by
  rcases z with z | ⟨i,h1,h2⟩
  ·exact z
  ·rcases h2 with h2 | ⟨ds,h2⟩
   ·obtain⟨v,e,p,rfl,hp'⟩:=arg i _ _ h1 h2 (λz=>by cases z);cases e;exact(hp _ hp').1
   ·obtain⟨v,e,hh⟩:=arg i _ _ h1 h2 (λz=>by cases z);exact hh.elim
 exact{
  len:=by unfold L2.start stD;rw[Qy,Qy,Qe,Qax,Qax,hl]
  dom:=dm
  dom0:=dm
  pt0:=hp
  kx:=λ_ _ _ e=>e
  sl:=λi o x h1 h2=>by
   cases x with
   |no=>trivial
   |v d=>
    obtain⟨v,e,hh⟩:=arg i _ _ h1 h2 (λz=>by cases z);exact⟨v,e,DA.mv hh (λ_ _ _ e=>e) λa z=>.inl (av a z)⟩
   |pot=>
    obtain⟨v,e,p,rfl,hp'⟩:=arg i _ _ h1 h2 (λz=>by cases z);obtain⟨_,n,en⟩:=hp p hp';exact⟨p,n,e,en,.inl hp'⟩
   |own ds=>obtain⟨v,e,hh⟩:=arg i _ _ h1 h2 (λz=>by cases z);exact hh.elim
   |pk ds=>obtain⟨v,e,hh⟩:=arg i _ _ h1 h2 (λz=>by cases z);exact hh.elim
   |scr=>obtain⟨v,e,hh⟩:=arg i _ _ h1 h2 (λz=>by cases z);exact hh.elim
  inj:=λi j a ds h1 h2 _=>by
   obtain⟨v,e,hh⟩:=arg i _ _ h2 h1 (λz=>by cases z);exact hh.elim }
def QB5:Qb->Bool
 |.list _=>false
 |_=>true
def rtD:Bool->(Qb->Prop)->Qb->Prop
 |true,R,d=>QB5 d=true/\R d
 |false,R,d=>R d
def Qu6(fr:Bool)(R:Qb->Prop)(EX:XP):Qg6:=⟨λ_=>R .none,rtD fr R,R,λ_=>False,λ_=>False,EX⟩
theorem Qu5{K:PySem.W.Frag}{E Ex:XK}{fr:Bool}{A pt:Addr->Prop}{H:Hp}{R:Qb->Prop}{EX EX':XP}{Q:VK}{σ:L2.St}{δ:Sts}(k:∀d,R d->∀v H',Kq pt H H'->DA A H' v d->(fr=true->FrV H H' v)->Q v H')(o:Out ⟨H,A,pt⟩ E EX') :
  Ends1 K E ⟨H,A,pt⟩ σ H δ (Qu6 fr R EX') { nx:=λ_ H'=>Q .non H',rt:=Q } where
 nx:=⟨λδ' hR σ' H' r st=>k _ hR _ H' r.ke .non λ_=>Qu1⟩
 rt:=λd h v H' ke dv=>by
  cases fr with
  |false=>exact k d h v H' ke dv λz=>by cases z
  |true=>
   obtain⟨h1,h2⟩:=h;refine k d h2 v H' ke dv λz l e1 ⟨xs,e2⟩=>?_
   subst e1;cases dv with
   |@tup a ys ds n e q=>rw[e] at e2;cases e2
   |@lst a ys ds n e q=>cases h1
   |@dct a kvs ds n e q=>rw[e] at e2;cases e2
 rtF:=λd h v H' ke dv fr'=>k d h v H' ke dv λ_=>fr'
 bk:=⟨λ_ h=>h.elim⟩
 ct:=⟨λ_ h=>h.elim⟩
 ex:=o
section
variable{P:QB}{w:Jd}{K:PySem.W.Frag}{mg:Str->Option Value}{base:Heap}
theorem okD{x qual:Str}{st:YO}{f:Addr}{fd:Q0}{N ps:List Str}{k:Nat}{fD:DF}(fr:Bool)(F:Fun K x qual st f fd)(S:JN N ps (QF st))(len:∀args R EX,fD args R EX->args.length=ps.length)
  (hbody:∀(cdv:Value)(A:Q1)(outer:List Env)(s:Shared)(H:Hp)(E:XK),Room k (A.deeper (envOfC qual (QF st) s.heap.objs.size f cdv)) ->
   ∃wd,PSs (Qon CX0 P w K mg base N qual (QF st) f cdv A outer s H E).nox (JF st) (tS K E0 wd)/\∀args R EX,fD args R EX->wd (Qu6 fr R XF) (stD N args)):FnOk P w K mg base CX0 (k+1) f fd ps (Zq fr fD):=by
 refine F.ok S (λvs H Q E h=>?_) λcdv A outer s H vs Q E hr h=>?_
 ·obtain⟨A,pt,args,R,EX,_,_,q,h,_⟩:=h;rw[q.length];exact len _ _ _ h
 ·obtain⟨wd,hp,hw⟩:=hbody cdv A outer s H E hr;obtain⟨A',pt,args,R,EX,dm,hpt,q,h,k,_⟩:=h;exact⟨_,hp,⟨H,A',pt⟩,_,_,QlV dm hpt q,hw args R EX h,Qu5 (Ex:=E) (EX:=EX) k Qr8⟩
end
end Dl
namespace L2
def QA2(i j:Int):Prop:=0<j/\j<=10^40
theorem QpB{X:Cx}:OpR X (binaryOp .FloorDiv) (rI QA2 λi j=>.int (i / j)):=opI λi j _ _ _ _ _ hc q=>by
 have h1:(0:Int)<j:=hc.1;have h2:j<=10^40:=hc.2;refine floordiv_int (by omega) (by rw[Int.fdiv_eq_ediv_of_nonneg i (by omega)];exact q) (.inl (PyProof.noPylong_of_log2 ?_));have h3:j.natAbs<2^200:=by
  have:(10:Int)^40<2^200:=by decide
  omega
 have:=(Nat.log2_lt (by omega:j.natAbs≠0)).mpr h3;omega
end L2
namespace Rk
open L2 _root_.Rd
def Qgh:Sp:=λvs H Q _=>∃p n f,vs=[.ref p,.int f]/\H p=some (.lst [.int n])/\0<f/\f<=10^40/\∀r m,0<=r->r<f->Q (.int r) (upd H p (.lst [.int m]))
end Rk
namespace Dl
open L2 _root_.Rd Rk
theorem JQ{X:Cx}{E:XK}:Qd9 CX0 X E:=λ_ _ _ _ _ _ _ h=>h.elim
theorem Room.u60{k:Nat}{A:Q1}(r:Room k A):A.units+60<cLine:=by have:=r.un;omega
theorem Room.i60{k:Nat}{A:Q1}(r:Room k A):A.in1.units+60<cLine:=by
 have:=r.un;show A.units+1+60<cLine;omega
section
variable{X:Cx}{E:XK}{CX:CXT}{k:Nat}{f:Addr}{fd:Q0}{ps:List Str}{x:Str}{p pos:Pos}{e:Q3}{es:List Q3}{fD:DF}
def QoG:DF:=λargs R _=>∃f,args=[.pot,.v (.int f)]/\0<f/\f<=10^40/\∀r,0<=r->r<f->R (.int r)
theorem Qwf{vs:List V}{H:Hp}{Q:VK}{Ex:XK}(h:Zq true QoG vs H Q Ex):Qgh vs H Q Ex:=by
 obtain⟨A,pt,args,R,EX,dm,hp,q,⟨f,rfl,f0,f1,hR⟩,k,_⟩:=h;cases q with
 |cons q1 q2=>cases q2 with
  |cons q2 q3=>
   cases q3;obtain⟨p,rfl,pp⟩:=q1;cases q2;obtain⟨_,n,e⟩:=hp p pp;refine⟨p,n,f,rfl,e,f0,f1,λr m r0 r1=>k _ (hR r r0 r1) _ _ ⟨λb o nb eb=>?_,λz hz=>?_⟩ (.int _) λ_=>Qaa⟩
   ·rw[JM (λz=>nb (by rw[z];exact pp))];exact eb
   ·by_cases y:z=p
    ·rw[y];exact⟨m,Jj⟩
    ·obtain⟨_,n',e'⟩:=hp z hz;exact⟨n',by rw[JM y];exact e'⟩
def Qz7:DF:=λargs R _=>∃c,args=[.v (.int c)]/\∀n,R (.list [.int n])
theorem Qz6{vs:List V}{H:Hp}{Q:VK}{Ex:XK}(h:Zq true Qz7 vs H Q Ex):Qwk vs H Q Ex:=by
 obtain⟨A,pt,args,R,EX,dm,hp,q,⟨c,rfl,hR⟩,k,_⟩:=h;cases q with
 |cons q1 q2=>
  cases q2;cases q1;refine⟨c,rfl,λp n hn=>k _ (hR n) _ _ ⟨λb o _ eb=>Jt hn b o eb,λz hz=>?_⟩ (.lst (λz=>?_) Jj (.cons (.int _) .nil)) λ_=>Qae hn⟩
  ·obtain⟨_,n',e'⟩:=hp z hz;exact⟨n',Jt hn _ _ e'⟩
  ·obtain⟨xs,e⟩:=dm p z;rw[hn] at e;cases e
def isW:Qb->Bool
 |.int _=>true
 |_=>false
def QlH:DF:=λargs R _=>∃d,args=[.v d]/\R (.bool (isW d))
theorem Ql2{K:PySem.W.Frag}{F:Fm}{σ:L2.St}{H:Hp}{δ:Sts}(r:Rel K F σ H δ){a:Addr}{xs:List V}(h:SqL K F.H0 a xs)(n:¬F.pt a):SqL K H a xs:=by
 rcases h with h | h
 ·rcases h with h | ⟨o,h⟩
  ·exact .inl (.inl (r.kx _ _ n h))
  ·exact .inl (.inr ⟨o,r.kx _ _ n h⟩)
 ·exact .inr h
def Qvd(i:Nat):DE:=λδ Q _=>match δ[i]? with
 |some .scr=>∀n:Nat,n<=63->Q (.int n)
 |_=>False
theorem Qt7{i:Nat}{a:Q3}(hg:Gl X "len")(hm:X.mg "len" = none)(h:PE X a (QiG i))(hs:notStar a=true:=by rfl):PE X (.Call (.Name "len" p) [a] [] pos) (tX .F X.K E (Qvd i)):=by
 refine PE.imp (Qb6 QaR hg hm QbW (QdO h Zv hs) (he:=by rw[Z7 hs])) λσ H Q ⟨F,δ,R,EX,rel,hw,k,o⟩=>?_
 unfold Qvd at hw;split at hw
 ·rename_i hd
  obtain⟨x,hx⟩:=rel.lt hd;obtain⟨l,ns,rfl,sq,np,n63⟩:=rel.sl i _ _ hx hd;refine⟨_,hx,l,_,rfl,.inl (Ql2 rel sq np),?_⟩;rw[Qe];exact k _ (hw _ n63) _ H rel (Kp.refl rel) ⟨.int _,Qaa⟩
 ·exact hw.elim
def Qve(i:Nat)(wb:DE):DE:=λδ Q EX=>match δ[i]? with
 |some .scr=>wb δ (λd=>match d with
  |.int k=>0<=k/\∀c,Q (.int c)
  |_=>False) EX
 |_=>False
theorem Qua{i:Nat}{a b:Q3}{wb:DE}(G:FnOk X.prog X.w X.K X.mg X.base CX0 k f fd ps (Qc5 X.K))(hr:Room k X.A)(hg:Gl X x)(hm:X.mg x=some (.ref f))(hk:PySem.W.keepIn X.K (.ref f)=true)(hb:Binds X.K fd ps [])
  (ha:PE X a (QiG i))(h:PE X b (tX .P X.K E wb))(h1:notStar a=true:=by rfl)(h2:notStar b=true:=by rfl)(hdb:(x == ("__debug__" : Str))=false:=by decide) :
  PE X (.Call (.Name x p) [a,b] [] pos) (tX .F X.K E (Qve i wb)):=by
 refine PE.imp (QgC (E:=E) G hr hg hm hk hb .nil JQ (QdO ha (QdO h Zv h2) h1) hdb (Z7 h1) (by rw[Z7 h2];rfl)) λσ H Q ⟨F,δ,R,EX,rel,hw,k,o⟩=>?_
 unfold Qve at hw;split at hw
 ·rename_i hd
  obtain⟨x,hx⟩:=rel.lt hd;obtain⟨l,ns,rfl,sq,np,n63⟩:=rel.sl i _ _ hx hd;refine⟨_,hx,F,δ,_,EX,rel,hw,λd hd2 v H' rel' kp vk=>?_,o⟩;cases d<;>first | exact(show False from hd2).elim | skip
  rw[DP.int vk];exact⟨l,ns,_,rfl,Ql2 rel' sq np,YI n63 (by decide),hd2.1,λc=>k _ (hd2.2 c) _ H' rel' kp ⟨.int _,Qaa⟩⟩
 ·exact hw.elim
end
section
variable{P:QB}{w:Jd}{K:PySem.W.Frag}{mg:Str->Option Value}{base:Heap}
def QfB(K:PySem.W.Frag):Sp:=λvs H Q _=>∃(a:Addr)(ns:List Int),vs=[.ref a]/\SqL K H a (ns.map V.int)/\ns.length<=63/\∀H',Q (.bl true) H'
def Qyg:Qg6:=⟨λ_=>False,λd=>d=.bool true,λd=>d=.bool true,λ_=>False,λ_=>False,XF⟩
theorem QAq{x qual:Str}{st:YO}{f:Addr}{fd:Q0}{N:List Str}{p:Str}{k:Nat}(F:Fun K x qual st f fd)(S:JN N [p] (QF st))
  (hbody:∀(cdv:Value)(A:Q1)(outer:List Env)(s:Shared)(H:Hp)(E:XK),Room k (A.deeper (envOfC qual (QF st) s.heap.objs.size f cdv)) ->
   ∃wd,PSs (Qon CX0 P w K mg base N qual (QF st) f cdv A outer s H E).nox (JF st) (tS K E0 wd)/\wd Qyg (stD N [.scr])):FnOk P w K mg base CX0 (k+1) f fd [p] (QfB K):=by
 refine F.ok S (λvs H Q E h=>?_) λcdv A outer s H vs Q E hr h=>?_
 ·obtain⟨a,ns,rfl,_⟩:=h;rfl
 ·obtain⟨wd,hp,hw⟩:=hbody cdv A outer s H E hr;obtain⟨a,ns,rfl,sq,n63,k⟩:=h;have get0:∀(i:Nat) o y,(L2.start N [V.ref a])[i]? = some o->(stD N [.scr])[i]? = some y->y≠.no->o=some (.ref a)/\y=.scr:=λi o y h1 h2 hy=>by
   cases i with
   |zero=>cases h1;cases h2;exact⟨rfl,rfl⟩
   |succ i=>
    unfold stD at h2;rw[Jn (by simp),ZL] at h2;split at h2
    ·exact absurd (QK h2).symm hy
    ·cases h2
  have noav:∀b,¬Av (⟨H,λ_=>False,λ_=>False⟩:Fm) (L2.start N [V.ref a]) (stD N [.scr]) b:=λb z=>by
   rcases z with z | ⟨i,h1,h2⟩
   ·exact z
   ·rcases h2 with h2 | ⟨ds,h2⟩
    ·cases(get0 i _ _ h1 h2 (λz=>by cases z)).2
    ·cases(get0 i _ _ h1 h2 (λz=>by cases z)).2
  refine⟨_,hp,⟨H,λ_=>False,λ_=>False⟩,_,_,?_,hw,?_⟩
  ·exact{
    len:=by unfold L2.start stD;simp
    dom:=λ_ h=>h.elim
    dom0:=λ_ h=>h.elim
    pt0:=λ_ h=>h.elim
    kx:=λ_ _ _ e=>e
    sl:=λi o y h1 h2=>by
     cases y with
     |no=>trivial
     |scr=>
      obtain⟨rfl,_⟩:=get0 i _ _ h1 h2 (λz=>by cases z);exact⟨a,ns,rfl,sq,λz=>z,n63⟩
     |v d=>cases(get0 i _ _ h1 h2 (λz=>by cases z)).2
     |own d=>cases(get0 i _ _ h1 h2 (λz=>by cases z)).2
     |pk d=>cases(get0 i _ _ h1 h2 (λz=>by cases z)).2
     |pot=>cases(get0 i _ _ h1 h2 (λz=>by cases z)).2
    inj:=λi j b ds h1 h2 _=>by cases(get0 i _ _ h2 h1 (λz=>by cases z)).2 }
  ·exact{
    nx:=⟨λ_ h=>h.elim⟩
    rt:=λd h v H' ke dv=>by cases(show d=.bool true from h);cases dv;exact k H'
    rtF:=λd h v H' ke dv _=>by cases(show d=.bool true from h);cases dv;exact k H'
    bk:=⟨λ_ h=>h.elim⟩
    ct:=⟨λ_ h=>h.elim⟩
    ex:=Qr8 }
end
theorem QsG{α:Type}{p:α->Prop}:∀x∈([]:List α),p x:=λ_ h=>nomatch h
theorem Qe6{α:Type}{p:α->Prop}{a:α}{l:List α}(h:p a)(t:∀x∈l,p x):∀x∈a::l,p x:=λx hx=>by
 rcases Qz.mp hx with z | z
 ·rw[z];exact h
 ·exact t x z
theorem QyJ{b c:Bool}{R:Qb->Prop}(h:R (.bool (b&&c))):if b=true then R (.bool c) else R (.bool false):=by
 cases b
 ·exact QB8 h
 ·exact QAA h
theorem ifF{c:Bool}{A B:Prop}(h:c=false)(k:B):if c=true then A else B:=by subst h;exact k
theorem ifT{c:Bool}{A B:Prop}(h:c=true)(k:A):if c=true then A else B:=by subst h;exact k
theorem ifC{c:Bool}{A B:Prop}(t:c=true->A)(f:c=false->B):if c=true then A else B:=by
 cases c
 ·exact f rfl
 ·exact t rfl
theorem Quz{p:Prop}[Decidable p](h:(!decide p)=true):¬p:=by simpa using h
theorem Qu9{p:Prop}[Decidable p](h:(!decide p)=false):p:=by simpa using h
theorem all_map{α:Type}(l:List α)(g:α->Bool):(l.map g).all id=l.all g:=by
 rw[List.all_map];rfl
theorem QvA{ds:List Qb}{Q:Qb->Prop}{g:Qb->Bool}{items:List Qb}(h:ds=[.list (items.map λd=>.bool (g d))])(q:Q (.bool (items.all g))):Qy8 ds Q:=by
 subst h;unfold Qy8;refine⟨items.map g,?_,by rw[all_map];exact q⟩;rw[show items.map (λd=>Qds (g d))=(items.map g).map Qds by rw[QV];rfl,Qn0]
theorem QlU{ds:List Qb}{Q:Qb->Prop}(ns:List Int)(h:ds=[.list (ns.map Qk)])(q:Q (.int ns.sum)):QyZ ds Q:=by
 subst h;unfold QyZ;exact⟨ns,ints_map ns,q⟩
end Dl
namespace L2
section
variable{X:Cx}
end
end L2
namespace Dl
open L2 _root_.Rd Rk
section
variable{X:Cx}{E:XK}
def QzT(d:Qb)(Q:Qb->Prop):Prop:=
 match d with
 |.list ds=>Q (.list ds.reverse)
 |_=>False
def QCd(we ws:DE):DE:=λδ Q EX=>we δ (λd=>ws δ (λs=>(match s with | .int i=>i = -1 | _=>False)/\QzT d Q) EX) EX
def Qym(w:DE):DE:=λδ Q EX=>w δ (λd=>match d with
 |.int j=>(-1000<=j/\j<=1000)/\Q (.tuple ((Qa j.toNat).map λ(i:Nat)=>.int i))
 |_=>False) EX
def Qys(w:DE):DE:=λδ Q EX=>w δ (λd=>match d with
 |.int j=>(-1000<=j/\j<=1000)/\Q (.list ((Qa j.toNat).map λ(i:Nat)=>.int i))
 |_=>False) EX
theorem QnH{A:Addr->Prop}{H:Hp}(l:List Nat):DAs A H (l.map λ(i:Nat)=>V.int (i:Nat)) (l.map λ(i:Nat)=>Qk (i:Nat)):=by
 induction l with
 |nil=>exact .nil
 |cons i l ih=>exact .cons (.int _) ih
variable{e:Q3}{w:DE}{p p2 pos pos2:Pos}
theorem Qms(hg:Gl X "tuple")(hm:X.mg "tuple" = none)(hg2:Gl X "range")(hm2:X.mg "range" = none)(h:PE X e (tX .P X.K E w))(hc:X.calm=true:=by rfl)(hs:notStar e=true:=by rfl):PE X (.Call (.Name "tuple" p) [.Call (.Name "range" p2) [e] [] pos2] [] pos) (tX .F X.K E (Qym w)):=by
 refine PE.imp (Qa8 (Qje hc) hg hm Qam (QdO (Qep hg2 hm2 (QdO h Zv hs) (by rw[Z7 hs];rfl)) Zv)) λσ H Q ⟨F,δ,R,EX,rel,hw,k,o⟩=>?_
 refine⟨F,δ,_,EX,rel,hw,λd hd v H1 rel1 kp1 vk=>?_,o⟩;cases d<;>first | exact(show False from hd).elim | skip
 obtain⟨⟨h1,h2⟩,hR⟩:=hd;rw[DP.int vk];refine⟨_,rfl,λr H2 s2 n2 e2=>⟨r,_,rfl,e2,h1,h2,λt H3 s3 n3 e3=>?_⟩⟩;have r2:=rel1.same s2;have K3:=(kp1.trans (Kp.same rel1 s2)).trans (Kp.same r2 s3);exact k _ hR _ H3 (r2.same s3) K3 ⟨Qfy (λa ha=>r2.isl ha) s3 e3 (QnH _),QdT e3⟩
theorem Qmt(hg:Gl X "list")(hm:X.mg "list" = none)(hg2:Gl X "range")(hm2:X.mg "range" = none)(h:PE X e (tX .P X.K E w))(hc:X.calm=true:=by rfl)(hs:notStar e=true:=by rfl):PE X (.Call (.Name "list" p) [.Call (.Name "range" p2) [e] [] pos2] [] pos) (tX .F X.K E (Qys w)):=by
 refine PE.imp (Qa8 (Qe2 hc) hg hm Qji (QdO (Qep hg2 hm2 (QdO h Zv hs) (by rw[Z7 hs];rfl)) Zv)) λσ H Q ⟨F,δ,R,EX,rel,hw,k,o⟩=>?_
 refine⟨F,δ,_,EX,rel,hw,λd hd v H1 rel1 kp1 vk=>?_,o⟩;cases d<;>first | exact(show False from hd).elim | skip
 obtain⟨⟨h1,h2⟩,hR⟩:=hd;rw[DP.int vk];refine⟨_,rfl,λr H2 s2 n2 e2=>⟨r,_,rfl,e2,h1,h2,λt H3 s3 n3 e3=>?_⟩⟩;have r2:=rel1.same s2;have K2:=kp1.trans (Kp.same rel1 s2);exact k _ hR _ H3 (r2.same s3) (K2.trans (Kp.same r2 s3)) ⟨QbS (λa ha=>r2.isl ha) s3 n3 e3 (QnH _),Qae (QaX K2 n3)⟩
end
theorem QyI{ds:List Qb}{i:Int}(h0:0<=i)(h1:i<ds.length):∃d,d∈ds/\atI ds i=some d:=by
 obtain⟨j,rfl⟩:∃j:Nat,i=j:=⟨i.toNat,by omega⟩
 have hj:j<ds.length:=by omega
 exact⟨ds[j],Z1 hj,JG (Qc hj)⟩
theorem Qx2{ds:List Qb}{i:Int}{Q:Qb->Prop}(h0:0<=i)(h1:i<ds.length)(q:∀d∈ds,Q d):∃d,atI ds i=some d/\Q d:=by
 obtain⟨d,hd,e⟩:=QyI h0 h1;exact⟨d,e,q d hd⟩
structure QE (m:Md) (X:Cx) (E:XK) (e:Q3) (w:DE):Prop where h:PE X e (tX m X.K E w)
structure QT (X:Cx) (E:XK) (e:Q3) (w:DT):Prop where h:PT X e (tT X.K E w)
structure QW (X:Cx) (E:XK) (e:Q3) (w:DT):Prop where h:PW X e (tT X.K E w)
structure QTs (X:Cx) (E:XK) (es:List Q3) (w:DT):Prop where h:PTs X es (tT X.K E w)
structure QA (n:Nat) (m:Md) (X:Cx) (E:XK) (es:List Q3) (w:DAr):Prop where h:PA X es (tAr n m X.K E w)
structure QAs (X:Cx) (E:XK) (es:List Q3) (w:DSl):Prop where h:PA X es (tAs X.K E w)
structure QO (X:Cx) (E:XK) (o:Option Q3) (w:DO):Prop where h:PO X o (tO X.K E w)
structure QG (ix:List Nat) (X:Cx) (tg:Q3) (w:DG):Prop where h:PG X tg (tG ix X.K w)
structure QI (m:Md) (X:Cx) (E:XK) (tg it:Q3) (w:DI):Prop where h:PI X tg it (tI m X.K E w)
structure QS (X:Cx) (E:XK) (st:YO) (w:DS):Prop where h:PS X st (tS X.K E w)
structure QSs (X:Cx) (E:XK) (sts:List YO) (w:DS):Prop where h:PSs X sts (tS X.K E w)
section
variable{X:Cx}{E:XK}
theorem Z2{e:Q3}{w:DE}(h:QE .F X E e w):QE .D X E e w:=⟨toD h.h⟩
theorem Jp{e:Q3}{w:DE}(h:QE .D X E e w):QE .P X E e w:=⟨toP h.h⟩
theorem Je{e:Q3}{w:DE}(h:QE .F X E e w):QE .P X E e w:=⟨QBS h.h⟩
theorem qv(i:Nat){x:Str}{pos:Pos}(hN:X.N[i]? = some x:=by rfl)(hv:Vis X.env.scope x:=by first | exact Q6 rfl | exact Q4 (Q6 rfl) | exact Q4 (Q4 rfl))(hd:(x == ("__debug__" : Str))=false:=by decide)(hcd:(x == ("__classdict__" : Str))=false:=by decide):QE .D X E (.Name x pos) (QAM i):=⟨Qw5 (pv i hN hv hd hcd)⟩
theorem qp(i:Nat){x:Str}{pos:Pos}(hN:X.N[i]? = some x:=by rfl)(hv:Vis X.env.scope x:=by first | exact Q6 rfl | exact Q4 (Q6 rfl) | exact Q4 (Q4 rfl))(hd:(x == ("__debug__" : Str))=false:=by decide)(hcd:(x == ("__classdict__" : Str))=false:=by decide):QE .P X E (.Name x pos) (dPk i):=⟨QAc (pv i hN hv hd hcd)⟩
theorem J9{i:Int}{j pos}:QE .D X E (.Constant (.int i) j pos) (dC (.int i)):=⟨Qxd⟩
theorem Qlm{b:Bool}{j pos}:QE .D X E (.Constant (.bool b) j pos) (dC (.bool b)):=⟨QAf⟩
theorem QkN{j pos}:QE .D X E (.Constant .none j pos) (dC .none):=⟨Qxa⟩
theorem Qfm{x:Str}{j pos}(h:Qbb (.str x)=true:=by decide +kernel):QE .D X E (.Constant (.str x) j pos) (dC (.str x)):=⟨Qw7 h⟩
theorem QaE{a b:Q3}{wa wb:DE}{pos:Pos}{r:R2}{rD:Qb->Qb->(Qb->Prop)->Prop}{op:Qb1}(ho:OpR X (binaryOp op) r)(hd:OpD r rD)(ha:QE .P X E a wa)(hb:QE .P X E b wb):QE .F X E (.BinOp a op b pos) (dOp rD wa wb):=⟨Qxg ho hd ha.h hb.h⟩
theorem Qfn{a b:Q3}{wa wb:DE}{pos:Pos}{r:R2}{rD:Qb->Qb->(Qb->Prop)->Prop}{op:QsV}(ho:OpR X (compareOp op) r)(hd:OpD r rD)(ha:QE .P X E a wa)(hb:QE .P X E b wb)(hm:behindInMarks op b=false):QE .F X E (.Compare a [op] [b] pos) (dOp rD wa wb):=⟨Qxf ho hd ha.h hb.h hm⟩
theorem Ya{a b:Q3}{wa wb:DE}{pos:Pos}{r:R2}{rD:Qb->Qb->(Qb->Prop)->Prop}{op:QsV}(ho:OpR X (compareOp op) r)(hd:OpD r rD)(ha:QE .P X E a wa)(hb:QE .P X E b wb)(hm:behindInMarks op b=false):QT X E (.Compare a [op] [b] pos) (dTst (dOp rD wa wb)):=⟨QtS ho hd ha.h hb.h hm⟩
theorem Qcv{a b:Q3}{wa wb:DE}{pos:Pos}{r:R2}{rD:Qb->Qb->(Qb->Prop)->Prop}(ho:IxR X r)(hd:Qoo r rD)(ha:QE .P X E a wa)(hb:QE .P X E b wb)(hs:Qjn b):QE .D X E (.Subscript a b pos) (dOp rD wa wb):=⟨QAd ho hd ha.h hb.h hs⟩
theorem Qz2{a:Q3}{wa:DE}{pos:Pos}(ha:QE .P X E a wa):QE .F X E (.UnaryOp .USub a pos) (dUn QBo wa):=⟨Qxb ha.h⟩
theorem QB3{a b c:Q3}{wa wb wc:DE}{pos:Pos}{op op':QsV}{p q:Int->Int->Bool}(ho:OpR X (compareOp op) (rI0 λi j=>.bl (p i j)))(ho':OpR X (compareOp op') (rI0 λi j=>.bl (q i j)))(ha:QE .P X E a wa)(hb:QE .P X E b wb)(hc:QE .P X E c wc)(hm:lastMarks [op,op'] [b,c]=false:=by with_unfolding_all rfl):QE .F X E (.Compare a [op,op'] [b,c] pos) (dCh p q wa wb wc):=⟨QAe ho ho' ha.h hb.h hc.h hm⟩
theorem Qme{e:Q3}{w:DE}(h:QE .P X E e w)(he:∀whole,isTrue e X.env whole=(do let v <- whole;standAt e.pos;holding [v] (truthy v)):=by intro _;rfl):QT X E e (dTru w):=⟨QtQ h.h he⟩
theorem QbN{e:Q3}{w:DE}(h:QE .P X E e w)(he:∀whole,isTrue e X.env whole=(do let v <- whole;standAt e.pos;holding [v] (truthy v)):=by intro _;rfl):QT X E e (dTst w):=⟨QtP h.h he⟩
theorem Qtt{a:Q3}{pos:Pos}{ta:DT}(ha:QT X E a ta):QW X E (.BoolOp .And [a] pos) ta:=⟨Qpg ha.h⟩
theorem QwE{a b:Q3}{rest:List Q3}{pos:Pos}{ta tb:DT}(ha:QT X E a ta)(hb:QW X E (.BoolOp .And (b::rest) pos) tb):QW X E (.BoolOp .And (a::b::rest) pos) (QBK ta tb):=⟨QtO ha.h hb.h⟩
theorem Qo2{a b:Q3}{rest:List Q3}{pos:Pos}{wa wb:DE}(ha:QE .P X E a wa)(hb:QE .D X E (.BoolOp .And (b::rest) pos) wb):QE .D X E (.BoolOp .And (a::b::rest) pos) (Qyu wa wb):=⟨Qxh ha.h hb.h⟩
theorem QeH{a:Q3}{pos:Pos}{ta:DT}(ha:QT X E a ta):QW X E (.BoolOp .Or [a] pos) ta:=⟨QtN ha.h⟩
theorem Qgr{a b:Q3}{rest:List Q3}{pos:Pos}{ta tb:DT}(ha:QT X E a ta)(hb:QW X E (.BoolOp .Or (b::rest) pos) tb):QW X E (.BoolOp .Or (a::b::rest) pos) (dOr ta tb):=⟨Qw3 ha.h hb.h⟩
theorem Qr0{e:Q3}{t:DT}(h:QW X E e t):QT X E e t:=⟨PW.pt h.h⟩
theorem Qa4{a:Q3}{pos:Pos}{ta:DT}(ha:QT X E a ta):QT X E (.UnaryOp .Not a pos) (QBA ta):=⟨QtR ha.h⟩
theorem Qo0{op}{a:Q3}{pos:Pos}{w:DE}(h:QE .D X E a w):QE .D X E (.BoolOp op [a] pos) w:=⟨Qw8 h.h⟩
theorem Qz1{a:Q3}{pos:Pos}{wa:DE}(ha:QE .P X E a wa):QE .D X E (.UnaryOp .Not a pos) (Qyr wa):=⟨Qw9 ha.h⟩
theorem Qz3{c a b:Q3}{pos:Pos}{ta:DT}{wa wb:DE}(hc:QT X E c ta)(ha:QE .D X E a wa)(hb:QE .D X E b wb):QE .D X E (.IfExp c a b pos) (QBG ta wa wb):=⟨Qxe hc.h ha.h hb.h⟩
theorem JB{m:Md}:QA 0 m X E [] QBB:=⟨Qt6⟩
theorem Qad{n:Nat}{e:Q3}{es:List Q3}{we:DE}{wr:DAr}(he:QE .D X E e we)(hr:QA n .D X E es wr)(hs:notStar e=true:=by rfl):QA (n+1) .D X E (e::es) (QnK we wr):=⟨Qmr he.h hr.h hs⟩
theorem QcE{n:Nat}{e:Q3}{es:List Q3}{we:DE}{wr:DAr}(he:QE .P X E e we)(hr:QA n .P X E es wr)(hs:notStar e=true:=by rfl):QA (n+1) .P X E (e::es) (QnK we wr):=⟨Qmq he.h hr.h hs⟩
theorem Qa7{n:Nat}{es:List Q3}{w:DAr}{x1}{pos:Pos}(h:QA n .D X E es w)(hn:n<=1000:=by decide):QE .F X E (.Tuple es x1 pos) (QBw w):=⟨Qw6 h.h hn⟩
theorem Qgy{n:Nat}{es:List Q3}{w:DAr}{pos:Pos}(h:QA n .D X E es w)(hn:n<=1000:=by decide):QE .F X E (.List es pos) (QBD w):=⟨Qxc h.h hn⟩
theorem Z8{x:Str}{bid:String}{p pos:Pos}{e:Q3}{es:List Q3}{n:Nat}{wr:DAr}{r:List V->Hp->VK->Prop}{rD:List Qb->(Qb->Prop)->Prop}(hc:CallR X (.builtin bid) r)(hd:QbX r rD)(hg:Gl X x)(hm:X.mg x=none)(hv:bootBuiltins x=some (.builtin bid))(ha:QA n .P X E (e::es) wr)(hn:x ≠ "__name__" := by decide)(hdb:(x == ("__debug__" : Str))=false:=by decide)(he:starEach (e::es) X.env=(false,eval e X.env)::starEach es X.env:=by rfl)(hpl:(backTo pos (starEach es X.env)).any (·.1)=false:=by rfl):QE .F X E (.Call (.Name x p) (e::es) [] pos) (dCB rD wr):=⟨Qpx hc hd hg hm hv ha.h hn hdb he hpl⟩
theorem Qbm{x:Str}{T:String}{p pos:Pos}{e:Q3}{es:List Q3}{n:Nat}{wr:DAr}{r:List V->Hp->VK->Prop}{rD:List Qb->(Qb->Prop)->Prop}(hc:CallR X (.type T) r)(hd:QbX r rD)(hg:Gl X x)(hm:X.mg x=none)(hv:bootBuiltins x=some (.type T))(ha:QA n .P X E (e::es) wr)(hn:x ≠ "__name__" := by decide)(hdb:(x == ("__debug__" : Str))=false:=by decide)(he:starEach (e::es) X.env=(false,eval e X.env)::starEach es X.env:=by rfl)(hpl:(backTo pos (starEach es X.env)).any (·.1)=false:=by rfl):QE .F X E (.Call (.Name x p) (e::es) [] pos) (dCB rD wr):=⟨Qmu hc hd hg hm hv ha.h hn hdb he hpl⟩
theorem QjI{e:Q3}{we:DE}{p pos pos2:Pos}{x:Str}(tn:Tn)(hg:Gl X "isinstance")(hm:X.mg "isinstance" = none)(he:QE .P X E e we)(hg2:Gl X x)(hm2:X.mg x=none)(hv:bootBuiltins x=some (.type tn.s))(hn:x ≠ "__name__" := by decide)(hd:(x == ("__debug__" : Str))=false:=by decide)(h1:notStar e=true:=by rfl):QE .F X E (.Call (.Name "isinstance" p) [e,.Name x pos2] [] pos) (Qyt tn we):=⟨Qt8 tn hg hm he.h (QAg tn hg2 hm2 hv hn hd) h1 rfl⟩
theorem Qgv  : QO X E none dNo:=⟨Qpq⟩
theorem Qgu{e:Q3}{we:DE}(he:QE .P X E e we):QO X E (some e) (dSo we):=⟨Qpp he.h⟩
theorem Qgx{e:Q3}{lo hi:Option Q3}{we:DE}{wl wh:DO}{p2 pos:Pos}(he:QE .P X E e we)(hl:QO X E lo wl)(hh:QO X E hi wh):QE .F X E (.Subscript e (.Slice lo hi none p2) pos) (dSl we wl wh):=⟨Qpv he.h hl.h hh.h⟩
theorem QjH{e:Q3}{w:DE}{p p2 pos pos2:Pos}(hg:Gl X "tuple")(hm:X.mg "tuple" = none)(hg2:Gl X "range")(hm2:X.mg "range" = none)(h:QE .P X E e w)(hc:X.calm=true:=by rfl)(hs:notStar e=true:=by rfl):QE .F X E (.Call (.Name "tuple" p) [.Call (.Name "range" p2) [e] [] pos2] [] pos) (Qym w):=⟨Qms hg hm hg2 hm2 h.h hc hs⟩
theorem Qo1{e:Q3}{w:DE}{p p2 pos pos2:Pos}(hg:Gl X "list")(hm:X.mg "list" = none)(hg2:Gl X "range")(hm2:X.mg "range" = none)(h:QE .P X E e w)(hc:X.calm=true:=by rfl)(hs:notStar e=true:=by rfl):QE .F X E (.Call (.Name "list" p) [.Call (.Name "range" p2) [e] [] pos2] [] pos) (Qys w):=⟨Qmt hg hm hg2 hm2 h.h hc hs⟩
theorem Jg  : QAs X E [] QBa:=⟨QtX⟩
theorem Zm{e:Q3}{es:List Q3}{we:DE}{wr:DSl}(he:QE .D X E e we)(hr:QAs X E es wr)(hs:notStar e=true:=by rfl):QAs X E (e::es) (sV we wr):=⟨QAb he.h hr.h hs⟩
theorem Qc9(i:Nat){x:Str}{pos:Pos}{es:List Q3}{wr:DSl}(hr:QAs X E es wr)(hN:X.N[i]? = some x:=by rfl)(hv:Vis X.env.scope x:=by first | exact Q6 rfl | exact Q4 (Q6 rfl) | exact Q4 (Q4 rfl))(hd:(x == ("__debug__" : Str))=false:=by decide)(hcd:(x == ("__classdict__" : Str))=false:=by decide):QAs X E (.Name x pos::es) (QzQ i wr):=⟨QtU (pv i hN hv hd hcd) hr.h rfl⟩
theorem JS{CX:CXT}{k:Nat}{f:Addr}{fd:Q0}{ps:List Str}{x:Str}{p pos:Pos}{e:Q3}{es:List Q3}{fD:DF}{wa:DSl}(G:FnOk X.prog X.w X.K X.mg X.base CX k f fd ps (Zq false fD))(hr:Room k X.A)(hg:Gl X x)(hm:X.mg x=some (.ref f))(hk:PySem.W.keepIn X.K (.ref f)=true)(hb:Binds X.K fd ps [])(hx:Qd9 CX X E)(ha:QAs X E (e::es) wa)(hdb:(x == ("__debug__" : Str))=false:=by decide)(he:starEach (e::es) X.env=(false,eval e X.env)::starEach es X.env:=by rfl)(hpl:(backTo pos (starEach es X.env)).any (·.1)=false:=by rfl):QE .D X E (.Call (.Name x p) (e::es) [] pos) (QnM fD wa):=⟨Qub G hr hg hm hk hb hx ha.h hdb he hpl⟩
theorem ZC{CX:CXT}{k:Nat}{f:Addr}{fd:Q0}{ps:List Str}{x:Str}{p pos:Pos}{e:Q3}{es:List Q3}{fD:DF}{wa:DSl}(G:FnOk X.prog X.w X.K X.mg X.base CX k f fd ps (Zq true fD))(hr:Room k X.A)(hg:Gl X x)(hm:X.mg x=some (.ref f))(hk:PySem.W.keepIn X.K (.ref f)=true)(hb:Binds X.K fd ps [])(hx:Qd9 CX X E)(ha:QAs X E (e::es) wa)(hdb:(x == ("__debug__" : Str))=false:=by decide)(he:starEach (e::es) X.env=(false,eval e X.env)::starEach es X.env:=by rfl)(hpl:(backTo pos (starEach es X.env)).any (·.1)=false:=by rfl):QE .F X E (.Call (.Name x p) (e::es) [] pos) (QnM fD wa):=⟨Qpw G hr hg hm hk hb hx ha.h hdb he hpl⟩
theorem QwL{k:Nat}{f:Addr}{fd:Q0}{ps:List Str}{x y:Str}{p pos pos2:Pos}{b:Q3}{wb:DE}(i:Nat)(G:FnOk X.prog X.w X.K X.mg X.base CX0 k f fd ps (Qc5 X.K))(hr:Room k X.A)(hg:Gl X x)(hm:X.mg x=some (.ref f))(hk:PySem.W.keepIn X.K (.ref f)=true)(hb:Binds X.K fd ps [])(h:QE .P X E b wb)(hN:X.N[i]? = some y:=by rfl)(hv:Vis X.env.scope y:=by first | exact Q6 rfl | exact Q4 (Q6 rfl) | exact Q4 (Q4 rfl))(hd:(y == ("__debug__" : Str))=false:=by decide)(hcd:(y == ("__classdict__" : Str))=false:=by decide)(h2:notStar b=true:=by rfl)(hdb:(x == ("__debug__" : Str))=false:=by decide):QE .F X E (.Call (.Name x p) [.Name y pos2,b] [] pos) (Qve i wb):=⟨Qua G hr hg hm hk hb (pv i hN hv hd hcd) h.h rfl h2 hdb⟩
theorem QwK{y:Str}{p pos pos2:Pos}(i:Nat)(hg:Gl X "len")(hm:X.mg "len" = none)(hN:X.N[i]? = some y:=by rfl)(hv:Vis X.env.scope y:=by first | exact Q6 rfl | exact Q4 (Q6 rfl) | exact Q4 (Q4 rfl))(hd:(y == ("__debug__" : Str))=false:=by decide)(hcd:(y == ("__classdict__" : Str))=false:=by decide):QE .F X E (.Call (.Name "len" p) [.Name y pos2] [] pos) (Qvd i):=⟨Qt7 hg hm (pv i hN hv hd hcd) rfl⟩
theorem ZR(i:Nat){x:Str}{pos:Pos}(hN:X.N.Nodup)(hi:X.N[i]? = some x)(hx:Loc X.env.scope x)(hf:X.fn x=true∨X.env.scope.names.lookup x=some .local:=by first | exact .inl rfl | exact .inr rfl | assumption):QG [i] X (.Name x pos) (gN i):=⟨Qpt (QgB hN hi hx hf)⟩
structure QGs (X:Cx) (es:List Q3) (is:List Nat):Prop where h:PGs X es (gNs is)
theorem Qa6  : QGs X [] []:=⟨QtI⟩
theorem Za(i:Nat){is:List Nat}{x:Str}{pos:Pos}{es:List Q3}(h:QGs X es is)(hN:X.N.Nodup)(hi:X.N[i]? = some x)(hx:Loc X.env.scope x)(hf:X.fn x=true∨X.env.scope.names.lookup x=some .local:=by first | exact .inl rfl | exact .inr rfl | assumption)(hs:(assignEach (.Name x pos::es) X.env).map (·.2)=assign (.Name x pos) X.env::(assignEach es X.env).map (·.2):=by rfl):QGs X (.Name x pos::es) (i::is):=⟨Qpa (QgB hN hi hx hf) h.h hs⟩
theorem Qa5{es:List Q3}{k:Nat}{pos:Pos}{is:List Nat}(hc:X.calm=true)(h:QGs X es is)(hn:(assignEach es X.env).length=is.length:=by rfl)(hst:(assignEach es X.env).findIdx? (·.1)=none:=by rfl):QG is X (.Tuple es k pos) (gTN is):=⟨Qt5 (QwV hc h.h hn hst) rfl⟩
theorem QbO{m:Md}{tg e:Q3}{w:DE}(h:QE m X E e w):QI m X E tg e (QBF w):=⟨Qps h.h⟩
theorem QjF{m:Md}{tg e:Q3}{w:DE}(h:QE m X E e w):QI m X E tg e (QBE w):=⟨Qt4 h.h⟩
theorem Qaq{m:Md}{tg e:Q3}{w:DE}{p pos:Pos}(hg:Gl X "range")(hm:X.mg "range" = none)(h:QE .P X E e w)(hs:notStar e=true:=by rfl):QI m X E tg (.Call (.Name "range" p) [e] [] pos) (Qyp w):=⟨Qpr hg hm h.h hs⟩
theorem Qgw{m:Md}{e:Q3}{w:DE}{p pos tpos:Pos}{elts:List Q3}{x1}(hg:Gl X "enumerate")(hm:X.mg "enumerate" = none)(h:QE m X E e w)(hs:notStar e=true:=by rfl):QI m X E (.Tuple elts x1 tpos) (.Call (.Name "enumerate" p) [e] [] pos) (QBI w):=⟨Qmp hg hm h.h hs⟩
theorem QjG{m:Md}{e:Q3}{w:DE}{p pos tpos:Pos}{elts:List Q3}{x1}(hg:Gl X "enumerate")(hm:X.mg "enumerate" = none)(h:QE m X E e w)(hs:notStar e=true:=by rfl):QI m X E (.Tuple elts x1 tpos) (.Call (.Name "enumerate" p) [e] [] pos) (QBH w):=⟨Qmo hg hm h.h hs⟩
theorem QaU  : QTs X E [] QvU:=⟨Qpi⟩
theorem QbM{c:Q3}{t:DT}(h:QT X E c t):QTs X E [c] t:=⟨Qph h.h⟩
theorem Qd4(M:List Str)(cap:List (Option Nat)){elt tg iter:Q3}{ifs:List Q3}{scope:Qan}{pos:Pos}{ix:List Nat}{wi:DI}{wg:DG}{wt:DT}{we:DE}(hi:QI .P X E tg iter wi)(hb:∀cl ex s3 H3 C,QG ix (blk X M scope cl ex s3 H3 C) tg wg/\QTs (blk X M scope cl ex s3 H3 C) E0 ifs wt/\QE .D (blk X M scope cl ex s3 H3 C) E0 elt we)(hc:X.calm=true:=by rfl)(ok:Qfs X.N X.env.scope M scope cap=true:=by rfl)(hf:QbU cap ix=true:=by rfl)(hs:∀x,foldedSetIterable iter X.env x=pure x:=by intro _;rfl):QE .F X E (.ListComp elt [⟨tg,iter,ifs,0⟩] scope pos) (dComp cap wi wg wt we):=⟨Qt9 hc ok hf hi.h (λcl ex s3 H3 C=>⟨(hb cl ex s3 H3 C).1.h,(hb cl ex s3 H3 C).2.1.h,(hb cl ex s3 H3 C).2.2.h⟩) hs⟩
theorem ZX  : QSs X E [] Qyn:=⟨Qpj⟩
theorem Q7{st:YO}{w:DS}(h:QS X E st w):QSs X E [st] w:=⟨QtW h.h⟩
theorem QU{st:YO}{rest:List YO}{w w':DS}(h:QS X E st w)(h':QSs X E rest w'):QSs X E (st::rest) (QBx w w'):=⟨Qpn h.h h'.h⟩
theorem QhE{sts:List YO}:QSs X E sts (λ_ _=>False):=⟨Qmn⟩
theorem Y7(i:Nat){x:Str}{e:Q3}{pos pos':Pos}{we:DE}(he:QE .D X E e we)(hN:X.N.Nodup)(hi:X.N[i]? = some x:=by rfl)(hx:Loc X.env.scope x:=by first | exact Q6 rfl | exact Q4 rfl)(hs:swapsWith e (some (.Name x pos')) pos.line X.env=pure false:=by rfl)(hf:X.fn x=true∨X.env.scope.names.lookup x=some .local:=by first | exact .inl rfl | exact .inr rfl | assumption):QS X E (.Assign [.Name x pos'] e pos) (Qy6 i we):=⟨QiP (Qda hN hi hx he.h hs hf)⟩
theorem QdM(i:Nat){x:Str}{e:Q3}{pos pos':Pos}{we:DE}(he:QE .F X E e we)(hN:X.N.Nodup)(hi:X.N[i]? = some x:=by rfl)(hx:Loc X.env.scope x:=by first | exact Q6 rfl | exact Q4 rfl)(hs:swapsWith e (some (.Name x pos')) pos.line X.env=pure false:=by rfl)(hf:X.fn x=true∨X.env.scope.names.lookup x=some .local:=by first | exact .inl rfl | exact .inr rfl | assumption):QS X E (.Assign [.Name x pos'] e pos) (Qvb i we):=⟨QjN (Qda hN hi hx he.h hs hf)⟩
theorem Qtu(i:Nat){x:Str}{e:Q3}{pos pos':Pos}{we:DE}(he:QE .F X E e we)(hN:X.N.Nodup)(hi:X.N[i]? = some x:=by rfl)(hx:Loc X.env.scope x:=by first | exact Q6 rfl | exact Q4 rfl)(hs:swapsWith e (some (.Name x pos')) pos.line X.env=pure false:=by rfl)(hf:X.fn x=true∨X.env.scope.names.lookup x=some .local:=by first | exact .inl rfl | exact .inr rfl | assumption):QS X E (.Assign [.Name x pos'] e pos) (Qyo i we):=⟨Qpk (Qda hN hi hx he.h hs hf)⟩
theorem QhF{tg e:Q3}{pos:Pos}{ix:List Nat}{we:DE}{wg:DG}(he:QE .D X E e we)(hg:QG ix X tg wg)(hs:swapsWithSole [tg] e pos.line X.env=pure false:=by rfl)(hw:swappedStores [tg] e X.env=pure none:=by rfl)(h1:(assignEach [tg] X.env).map (·.2)=[assign tg X.env]:=by rfl):QS X E (.Assign [tg] e pos) (QBJ we wg):=⟨Qt2 (Qr2 he.h hg.h hs hw h1)⟩
theorem QwF(i j:Nat){x y:Str}{a b:Q3}{n:Nat}{wa:DAr}{pos px py pt:Pos}{kt k2 pt2}(ha:QA n .D X E [a,b] wa)(hN:X.N.Nodup)(hc:X.calm=true:=by rfl)(hi:X.N[i]? = some x:=by rfl)(hj:X.N[j]? = some y:=by rfl)(hij:i≠j:=by decide)(hx:X.env.scope.names.lookup x=some .local:=by rfl)(hy:X.env.scope.names.lookup y=some .local:=by rfl)(hw:swappedStores [.Tuple [.Name x px,.Name y py] kt pt] (.Tuple [a,b] k2 pt2) X.env=pure (some [x,y]):=by rfl)(hs:swapsWithSole [.Tuple [.Name x px,.Name y py] kt pt] (.Tuple [a,b] k2 pt2) pos.line X.env=pure false:=by rfl):QS X E (.Assign [.Tuple [.Name x px,.Name y py] kt pt] (.Tuple [a,b] k2 pt2) pos) (QBz i j wa):=⟨QtV (QwR hc hN hi hj hij hx hy ha.h hw hs)⟩
theorem YL{e:Q3}{pos:Pos}{we:DE}(h:QE .D X E e we):QS X E (.Return (some e) pos) (QBy we):=⟨QtT h.h⟩
theorem Yc{e:Q3}{pos:Pos}{we:DE}(h:QE .F X E e we):QS X E (.Return (some e) pos) (Qyq we):=⟨Qpm h.h⟩
theorem Qgs(i:Nat){x:Str}{pos pos2:Pos}(hN:X.N[i]? = some x:=by rfl)(hv:Vis X.env.scope x:=by first | exact Q6 rfl | exact Q4 (Q6 rfl) | exact Q4 (Q4 rfl))(hd:(x == ("__debug__" : Str))=false:=by decide)(hcd:(x == ("__classdict__" : Str))=false:=by decide):QS X E (.Return (some (.Name x pos)) pos2) (Qvc i):=⟨Qpl (pv i hN hv hd hcd)⟩
theorem QaV{c:Q3}{a b:List YO}{pos:Pos}{t:DT}{w w':DS}(hc:QT X E c t)(ha:QSs X E a w)(hb:QSs X E b w'):QS X E (.If c a b pos) (dIf t w w'):=⟨Qw4 hc.h ha.h hb.h⟩
theorem QrZ(i:Nat){x:Str}{e:Q3}{we:DE}{op:Qb1}{ti:TIp}{rD:Qb->Qb->(Qb->Prop)->Prop}{pos pos':Pos}(ho:PIp X op ti)(hd:Qoo ti rD)(he:QE .P X E e we)(hN:X.N.Nodup)(hi:X.N[i]? = some x:=by rfl)(hx:Loc X.env.scope x:=by first | exact Q6 rfl | exact Q4 rfl)(hf:X.fn x=true∨X.env.scope.names.lookup x=some .local:=by first | exact .inl rfl | exact .inr rfl | assumption):QS X E (.AugAssign (.Name x pos') op e pos) (QAR i rD we):=⟨Qt1 hd (QwS hN hi hx he.h (PIp.len ho) hf)⟩
theorem QwI{y:Str}{e:Q3}{we:DE}{apos cpos pos npos:Pos}(i:Nat)(he:QE .D X E e we)(hN:X.N[i]? = some y:=by rfl)(hv:Vis X.env.scope y:=by first | exact Q6 rfl | exact Q4 (Q6 rfl) | exact Q4 (Q4 rfl))(hd:(y == ("__debug__" : Str))=false:=by decide)(hcd:(y == ("__classdict__" : Str))=false:=by decide)(hst:notStar e=true:=by rfl)(hbase:attributeBase (.Name y npos) "append" X.env (eval (.Name y npos) X.env)=eval (.Name y npos) X.env:=by rfl)(hfew:((backTo cpos (starEach [e] X.env)).all (λx => !x.1)&&(backToKw cpos (keywordEach [] X.env)).all (λx=>x.1.isSome)&&decide ([e].length+([]:List QaL).length+(if([]:List QaL).isEmpty then 0 else 1)<30))=true:=by rfl)(hline:(apos.endLine == cpos.line)=true:=by rfl)(hsw:swapsWith (.Call (.Attribute (.Name y npos) "append" apos) [e] [] cpos) none pos.line X.env=pure false:=by rfl):QS X E (.Expr (.Call (.Attribute (.Name y npos) "append" apos) [e] [] cpos) pos) (QAS i we):=⟨Qt3 (QiO (Qmm PySem.F.plainAttrs_list PySem.F.slot_list_append PySem.F.type_list_append QhO (pv i hN hv hd hcd) (QdO he.h Zv hst) hbase hfew hline (Z7 hst) rfl) hsw)⟩
theorem QwH{y:Str}{e:Q3}{we:DE}{apos cpos pos npos:Pos}(i:Nat)(he:QE .P X E e we)(hN:X.N[i]? = some y:=by rfl)(hv:Vis X.env.scope y:=by first | exact Q6 rfl | exact Q4 (Q6 rfl) | exact Q4 (Q4 rfl))(hd:(y == ("__debug__" : Str))=false:=by decide)(hcd:(y == ("__classdict__" : Str))=false:=by decide)(hst:notStar e=true:=by rfl)(hbase:attributeBase (.Name y npos) "extend" X.env (eval (.Name y npos) X.env)=eval (.Name y npos) X.env:=by rfl)(hfew:((backTo cpos (starEach [e] X.env)).all (λx => !x.1)&&(backToKw cpos (keywordEach [] X.env)).all (λx=>x.1.isSome)&&decide ([e].length+([]:List QaL).length+(if([]:List QaL).isEmpty then 0 else 1)<30))=true:=by rfl)(hline:(apos.endLine == cpos.line)=true:=by rfl)(hsw:swapsWith (.Call (.Attribute (.Name y npos) "extend" apos) [e] [] cpos) none pos.line X.env=pure false:=by rfl):QS X E (.Expr (.Call (.Attribute (.Name y npos) "extend" apos) [e] [] cpos) pos) (QAP i we):=⟨Qt0 (QiO (Qmm PySem.F.plainAttrs_list PySem.F.slot_list_extend PySem.F.type_list_extend QmW (pv i hN hv hd hcd) (QdO he.h Zv hst) hbase hfew hline (Z7 hst) rfl) hsw)⟩
theorem Qmh{y:Str}{e k:Q3}{we wk:DE}{op:Qb1}{ti:TIp}{rD:Qb->Qb->(Qb->Prop)->Prop}{pos tpos npos:Pos}(i:Nat)(ho:PIp X op ti)(hd:Qoo ti rD)(hk:QE .P X E k wk)(he:QE .P X E e we)(hN:X.N[i]? = some y:=by rfl)(hv:Vis X.env.scope y:=by first | exact Q6 rfl | exact Q4 (Q6 rfl) | exact Q4 (Q4 rfl))(hdd:(y == ("__debug__" : Str))=false:=by decide)(hcd:(y == ("__classdict__" : Str))=false:=by decide)(ha:∀ov iv new,augStore k ov iv new=(do holding [new,ov,iv] (setItem ov iv new);release [new,ov,iv] [];pure .next):=by intros;rfl):QS X E (.AugAssign (.Subscript (.Name y npos) k tpos) op e pos) (Qvf i rD wk we):=⟨Qpo hd (QtB (pv i hN hv hdd hcd) hk.h Qp5 he.h (PIp.len ho) Qjz ha)⟩
theorem Qbx{tg iter:Q3}{body:List YO}{pos:Pos}{ix:List Nat}{wi:DI}{wg:DG}{wb:DS}(hp:PassesOwn (model X.prog X.w) X.A X.env X.xe)(hc:X.calm=true)(hi:QI .D X E tg iter wi)(hg:QG ix X tg wg)(hb:QSs X E body wb)(hs:∀x,foldedSetIterable iter X.env x=pure x:=by intro _;rfl):QS X E (.For tg iter body [] pos) (dFor wi wg wb):=⟨QtZ hp hc hi.h hg.h hb.h hs⟩
end
section
variable{P:QB}{w:Jd}{K:PySem.W.Frag}{mg:Str->Option Value}{base:Heap}
theorem okQ{x qual:Str}{st:YO}{f:Addr}{fd:Q0}{N ps:List Str}{k:Nat}{fD:DF}(fr:Bool)(F:Fun K x qual st f fd)(S:JN N ps (QF st))(len:∀args R EX,fD args R EX->args.length=ps.length)
  (hbody:∀(cdv:Value)(A:Q1)(outer:List Env)(s:Shared)(H:Hp)(E:XK),Room k (A.deeper (envOfC qual (QF st) s.heap.objs.size f cdv)) ->
   ∃wd,QSs (Qon CX0 P w K mg base N qual (QF st) f cdv A outer s H E).nox E0 (JF st) wd/\∀args R EX,fD args R EX->wd (Qu6 fr R XF) (stD N args)):FnOk P w K mg base CX0 (k+1) f fd ps (Zq fr fD):=
 okD fr F S len λcdv A outer s H E hr=>let ⟨wd,h,q⟩:=hbody cdv A outer s H E hr;⟨wd,h.h,q⟩
theorem QB4{x qual:Str}{st:YO}{f:Addr}{fd:Q0}{N:List Str}{p:Str}{k:Nat}(F:Fun K x qual st f fd)(S:JN N [p] (QF st))
  (hbody:∀(cdv:Value)(A:Q1)(outer:List Env)(s:Shared)(H:Hp)(E:XK),Room k (A.deeper (envOfC qual (QF st) s.heap.objs.size f cdv)) ->
   ∃wd,QSs (Qon CX0 P w K mg base N qual (QF st) f cdv A outer s H E).nox E0 (JF st) wd/\wd Qyg (stD N [.scr])):FnOk P w K mg base CX0 (k+1) f fd [p] (QfB K):=
 QAq F S λcdv A outer s H E hr=>let ⟨wd,h,q⟩:=hbody cdv A outer s H E hr;⟨wd,h.h,q⟩
end
structure GOk (wg:DG):Prop where h:∀d δ Q,wg d δ Q->wg d δ λδ'=>(∀(j:Nat) x,δ'[j]? = some x->(∃e,x=.v e)∨δ[j]? = some x)/\Q δ'
theorem QgL(i:Nat):GOk (gN i):=⟨λd δ Q h=>⟨λj x e=>by
 by_cases z:j=i
 ·subst z;exact .inl ⟨d,set_eq e⟩
 ·rw[Qao z] at e;exact .inr e,h⟩⟩
theorem Qd2:∀(is:List Nat)(ds:List Qb)(δ:Sts)(j:Nat)(x:Sl),(QeC δ is ds)[j]? = some x->(∃e,x=.v e)∨δ[j]? = some x
 |[],_,δ,j,x,h=>.inr (by simpa [QeC] using h)
 |_::_,[],δ,j,x,h=>.inr (by simpa [QeC] using h)
 |i::is,d::ds,δ,j,x,h=>by
  rcases Qd2 is ds _ j x h with z | z
  ·exact .inl z
  ·by_cases y:j=i
   ·subst y;exact .inl ⟨d,set_eq z⟩
   ·rw[Qao y] at z;exact .inr z
theorem QuW(is:List Nat):GOk (gTN is):=⟨λd δ Q h=>by
 unfold gTN at h ⊢;split at h
 ·exact⟨h.1,Qd2 is _ δ,h.2⟩
 ·exact h.elim⟩
theorem Qnr{cap:List (Option Nat)}{ix:List Nat}(hf:QbU cap ix=true){i:Nat}(hi:i∈ix):cap[i]? = some none:=by
 have:=Y5.mp hf i hi;split at this
 ·assumption
 ·cases this
theorem Qer{cap:List (Option Nat)}{ix:List Nat}(hf:QbU cap ix=true){δ:Sts}{i:Nat}{x:Sl}(h:(Qet cap δ)[i]? = some x)(hx:x≠.no):i∉ix:=λz=>by
 rcases QgX h with⟨_,e⟩ | ⟨j,hj,_⟩
 ·exact hx e
 ·rw[Qnr hf z] at hj;cases hj
section
variable{K:PySem.W.Frag}{σ σ4:L2.St}{δ δ4:Sts}{cap:List (Option Nat)}{ix:List Nat}{A1:Addr->Prop}{H3 H5 H6:Hp}
theorem Qsk(hP:∀a,Yu σ δ a->A1 a)(hf:QbU cap ix=true)(j4:∀j,j∉ix->σ4[j]? = (QdV cap σ)[j]?)(gk:∀(j:Nat) x,δ4[j]? = some x->(∃e,x=.v e)∨(Qet cap δ)[j]? = some x){a:Addr}(h:Av (inF A1 cap σ δ H3) σ4 δ4 a):A1 a:=by
 rcases h with z | ⟨i,h1,h2⟩
 ·exact z
 ·refine(Qj5 (cap:=cap) (H:=H3) hP).mp ?_
  rcases h2 with h2 | ⟨ds,h2⟩
  ·rcases gk i _ h2 with⟨e,z⟩ | z
   ·cases z
   ·exact .inr ⟨i,by rw[<- j4 i (Qer hf z (λz=>by cases z))];exact h1,.inl z⟩
  ·rcases gk i _ h2 with⟨e,z⟩ | z
   ·cases z
   ·exact .inr ⟨i,by rw[<- j4 i (Qer hf z (λz=>by cases z))];exact h1,.inr ⟨ds,z⟩⟩
theorem QuU(hP:∀a,Yu σ δ a->A1 a)(hf:QbU cap ix=true)(j4:∀j,j∉ix->σ4[j]? = (QdV cap σ)[j]?)(gk:∀(j:Nat) x,δ4[j]? = some x->(∃e,x=.v e)∨(Qet cap δ)[j]? = some x)
  (ri:Rel K (inF A1 cap σ δ H6) (QdV cap σ) H6 (Qet cap δ))(r5:Rel K (inF A1 cap σ δ H3) σ4 H5 δ4)(kk:∀a o,¬A1 a->H5 a=some o->H6 a=some o):Rel K (inF A1 cap σ δ H6) σ4 H6 δ4 where
 len:=r5.len
 dom:=ri.dom
 dom0:=ri.dom0
 pt0:=ri.pt0
 kx:=ri.kx
 sl:=λi o x h1 h2=>by
  have iv:∀{a:Addr},Av (inF A1 cap σ δ H6) σ4 δ4 a->A1 a:=λ{a} z=>Qsk hP hf j4 gk z
  rcases gk i x h2 with⟨d,rfl⟩ | hx
  ·obtain⟨v,e,q⟩:=r5.sl i o _ h1 h2;exact⟨v,e,q.mv (λa o n e=>kk a o (λz=>n (.inl z)) e) λa z=>.inl (.inl (iv z))⟩
  ·by_cases hn:x=.no
   ·subst hn;trivial
   ·have h1':(QdV cap σ)[i]? = some o:=by rw[<- j4 i (Qer hf hx hn)];exact h1
    have h:=ri.sl i o x h1' hx;cases x with
    |no=>trivial
    |v d=>obtain⟨v',e,q'⟩:=h;exact⟨v',e,q'.mv (λ_ _ _ e=>e) λa z=>.inl (.inl (iv z))⟩
    |own ds=>obtain⟨l,xs,e,e2,q',f⟩:=h;exact⟨l,xs,e,e2,q'.mv (λ_ _ _ e=>e) λa z=>.inl (.inl (iv z)),f⟩
    |pk ds=>obtain⟨l,xs,e,e2,q',f⟩:=h;exact⟨l,xs,e,e2,q'.mv (λ_ _ _ e=>e) λa z=>.inl (.inl (iv z)),f⟩
    |pot=>exact h
    |scr=>exact h
 inj:=λi j a ds h1 h2 _=>by
  rcases gk i _ h1 with⟨e,z⟩ | z
  ·cases z
  ·rcases QgX z with⟨_,e⟩ | ⟨j,hj,e⟩
   ·cases e
   ·exfalso
    cases e2:δ[j]? with
    |none=>rw[e2] at e;cases e
    |some y=>rw[e2] at e;cases y<;>cases e
end
theorem QoE{K:PySem.W.Frag}{F:Fm}{σ:L2.St}{δ:Sts}{H1 H3:Hp}{cap:List (Option Nat)}{ix:List Nat}{wg:DG}{wt:DT}{A1:Addr->Prop}{x:V}{d:Qb}{inner:L2.St->Hp->(Hp->Prop)->Prop}{kk:Hp->Prop}{T:Sts->Prop}{N:Prop}(gok:GOk wg)
  (hf:QbU cap ix=true)(rel:Rel K F σ H1 δ)(hA:∀a,Av F σ δ a->A1 a)(hN:∀a,A1 a->Av F σ δ a∨H1 a=none)(dm:∀a,A1 a->∃xs,H3 a=some (.lst xs))(kp:Kp σ δ H1 H3)(dx:DA A1 H3 x d)
  (h:wg d (Qet cap δ) λδ4=>wt δ4 (λb=>if b=true then T δ4 else N) XF)
  (hT:∀σ4 δ4 H5,T δ4->Rel K (inF A1 cap σ δ H3) σ4 H5 δ4->Kp σ δ H3 H5->(∀j,j∉ix->σ4[j]? = (QdV cap σ)[j]?)->σ4.length=(QdV cap σ).length->(∀(j:Nat) x,δ4[j]? = some x->(∃e,x=.v e)∨(Qet cap δ)[j]? = some x)->inner σ4 H5 kk)(hF:N->∀H5,Kp σ δ H3 H5->kk H5) :
  bOf (QdV cap σ) (tG ix K wg) (tT K E0 wt) inner x H3 kk:=by
 have ri:=Qng (cap:=cap) rel hA hN dm kp;have iv:∀{a:Addr},Av (inF A1 cap σ δ H3) (QdV cap σ) (Qet cap δ) a->A1 a:=λ{a}=>(Qj5 λa z=>hA a (Qac z)).mp
 refine⟨inF A1 cap σ δ H3,Qet cap δ,d,_,ri,dx.mv (λ_ _ _ e=>e) λa z=>.inl (iv z),gok.h _ _ _ h,λδ4 ⟨g4,h4⟩ σ4 r4 st4 l4 j4=>⟨Qsz hf l4 j4,inF A1 cap σ δ H3,δ4,_,XF,r4,h4,λb hb H5 r5 kp5=>?_,Qr8⟩⟩;have pots:∀{b:Addr},Yu σ4 δ4 b->Yu σ δ b:=λz=>Qi4 r4 (λb o _ e1 e2=>by rw[e2] at e1;cases e1) z
 have K5:Kp σ δ H3 H5:=by
  refine⟨λb o n e=>kp5.1 b o (λz=>n (pots z)) e,λb hb=>?_⟩;by_cases z:Yu σ4 δ4 b
  ·exact kp5.2 b z
  ·obtain⟨n,e⟩:=kp.2 b hb;exact⟨n,kp5.1 _ _ z e⟩
 exact Qdj hb (λz=>hT σ4 δ4 H5 z r5 K5 j4 l4 g4) λz=>hF z H5 K5
theorem Qu8{K:PySem.W.Frag}{σ σ4:L2.St}{δ δ4:Sts}{H1 H3 H5:Hp}{cap:List (Option Nat)}{we:DE}{A1:Addr->Prop}{p:Addr}{acc:List Qb}{kk:Hp->Prop}{G:Qb->Prop}
  (hpA:A1 p)(hP:∀a,Yu σ δ a->A1 a)(hp1:H1 p=none)(hpn:¬Yu σ δ p)(lp:Lp σ δ A1 p H1 H5 acc)(hl:acc.length<sizeLine)(r5:Rel K (inF A1 cap σ δ H3) σ4 H5 δ4)(pots:∀b,Yu σ4 δ4 b->Yu σ δ b)
  (h:we δ4 G XF)(hk:∀e,G e->∀H',Lp σ δ A1 p H1 H' (acc++[e])->(∀b o,¬A1 b->H5 b=some o->H' b=some o)->kk H'):QyH p (tX .D K E0 we) σ4 H5 kk:=by
 refine⟨inF A1 cap σ δ H3,δ4,G,XF,r5,h,λe he v H6 r6 kp6 dv=>?_,Qr8⟩;have k56:Kp σ δ H5 H6:=by
  refine⟨λb o n e=>kp6.1 b o (λz=>n (pots b z)) e,λb hb=>?_⟩;by_cases z:Yu σ4 δ4 b
  ·exact kp6.2 b z
  ·obtain⟨n,e⟩:=lp.kp.2 b hb;exact⟨n,kp6.1 _ _ z e⟩
 obtain⟨k6,ys,e6,q6⟩:=lp.step hP hpn k56;have up:∀{b:Addr}{o:HO},¬A1 b->H6 b=some o->upd H6 p (.lst (ys++[v])) b=some o:=λ{b o} n e=>by rw[JM (λz=>n (by rw[z];exact hpA))];exact e
 refine⟨ys,e6,by rw[q6.length];exact hl,hk e he _ ⟨⟨λb o n e=>?_,λb hb=>?_⟩,ys++[v],Jj,DAs.app (q6.mv (λ_ _=>up) λa z=>.inl z) (.cons (DA.mv dv (λa o n e=>up (λz=>n (.inl z)) e) λa z=>.inl (.inl z)) .nil)⟩ λb o n e=>up n (kp6.1 b o (λz=>n (hP b (pots b z))) e)⟩
 ·rw[JM (λz=>by rw[z,hp1] at e;cases e)];exact k6.1 b o n e
 ·rw[JM (λz=>hpn (by rw[<- z];exact hb))];exact k6.2 b hb
def QkW:Nat:=1000000
@[irreducible] def InR(items2:List Qb)(wg2:DG)(wt2:DT)(we:DE)(δ4:Sts)(acc:List Qb)(N:List Qb->Prop):Prop:=∃Jv:Nat->List Qb->Prop,Jv 0 acc /\
 (∀(j:Nat) acc2 d2,items2[j]? = some d2->Jv j acc2->acc2.length<QkW/\wg2 d2 δ4 λδ5=>wt2 δ5 (λb=>if b=true then we δ5 (λe=>Jv (j+1) (acc2++[e])) XF else Jv (j+1) acc2) XF)/\∀acc2,Jv items2.length acc2->N acc2
@[irreducible] def Qko(items:List Qb)(wg:DG)(wt:DT)(wi2:DI)(wg2:DG)(wt2:DT)(we:DE)(δ:Sts)(Q:Qb->Prop):Prop:=∃Iv:Nat->List Qb->Prop,Iv 0 [] /\
 (∀(i:Nat) acc d,items[i]? = some d->Iv i acc->wg d δ λδ4=>wt δ4 (λb=>if b=true then wi2 δ4 (λitems2=>InR items2 wg2 wt2 we δ4 acc (Iv (i+1))) XF else Iv (i+1) acc) XF)/\∀acc,Iv items.length acc->Q (.list acc)
def QnL(cap:List (Option Nat))(wi:DI)(wg:DG)(wt:DT)(wi2:DI)(wg2:DG)(wt2:DT)(we:DE):DE:=λδ Q EX=>wi δ (λitems=>Qko items wg wt wi2 wg2 wt2 we (Qet cap δ) Q) EX
section
variable{X:Cx}{E:XK}
theorem QpS:QkW<=sizeLine:=QJ (by decide) QhR
end
section
variable{X:Cx}{E:XK}
end
theorem QpW{items2:List Qb}{wg2:DG}{wt2:DT}{we:DE}{δ4:Sts}{acc:List Qb}{N:List Qb->Prop}(G:Qb->Option Qb)(hl:acc.length+items2.length<QkW)
  (h:∀d∈items2,∀(k1:Prop)(k2:Qb->Prop),(G d=none->k1)->(∀e,G d=some e->k2 e)->wg2 d δ4 λδ5=>wt2 δ5 (λb=>if b=true then we δ5 k2 XF else k1) XF)(q:N (acc++items2.filterMap G)) :
  InR items2 wg2 wt2 we δ4 acc N:=by
 unfold InR;refine⟨λi acc2=>acc2=acc++(items2.take i).filterMap G,by simp,λi acc2 d hd e=>?_,λacc2 e=>by rw[e,JY];exact q⟩;have e:acc2=acc++(items2.take i).filterMap G:=e;have hs:(items2.take (i+1)).filterMap G=(items2.take i).filterMap G++(G d).toList:=by
  rw[Zs,hd,Z5];cases e2:G d<;>simp[e2]
 refine⟨?_,h d (Jo hd) _ _ (λe2=>?_) λe' e2=>?_⟩
 ·have:=List.length_filterMap_le G (items2.take i);have h2:(items2.take i).length<=items2.length:=by rw[Yw];exact Qf4 _ _
  rw[e,Qy];omega
 ·show acc2=acc++(items2.take (i+1)).filterMap G;rw[hs,e2,e];simp
 ·show acc2++[e']=acc++(items2.take (i+1)).filterMap G;rw[hs,e2,e];simp
theorem Qx7{items2:List Qb}{wg2:DG}{we:DE}{δ4:Sts}{acc:List Qb}{N:List Qb->Prop}(G:Qb->Qb)(hl:acc.length+items2.length<QkW)
  (h:∀d∈items2,∀(k2:Qb->Prop),k2 (G d)->wg2 d δ4 λδ5=>we δ5 k2 XF)(q:N (acc++items2.map G)):InR items2 wg2 QvU we δ4 acc N:=by
 refine QpW (λd=>some (G d)) hl (λd hd k1 k2 _ h2=>?_) (by rw[show items2.filterMap (λd=>some (G d))=items2.map G from by rw[<- List.filterMap_eq_map];rfl];exact q);have hh:=h d hd k2 (h2 _ rfl);simp only[QvU,if_true];exact hh
def Qma:List V->Hp->VK->Prop:=λxs H Q=>∃l ns,xs=[.ref l]/\H l=some (.lst ((ns:List Int).map V.int))/\ns.length<64 /\
 ∀t ms H2,Same H H2->H t=none->H2 t=some (.lst ((ms:List Int).map V.int))->ms.Perm ns->ms.Pairwise (·<=·)->Q (.ref t) H2
section
open Rs PySem.W PySem.Calls
variable{X:Cx}
theorem Qjf:CallR X (.builtin "sorted") Qma:=by
 intro pins s σ H xs us Q I r h;obtain⟨l,ns,rfl,hl,h64,q⟩:=h;obtain⟨u,rfl,ru⟩:=vals1 r;cases ru;obtain⟨hz,its,n,rv,ho⟩:=I.hok l _ hl;have li:=rv.length;rw[Qe] at li;refine QbJ (.inl rfl) ho rfl rfl (by omega) λh' kp P E' hP=>?_
 have hn:(h'.push (seqObj "list" its.toArray 0)).get? h'.objs.size=some (seqObj "list" its.toArray 0):=Qs _ rfl;refine Qlq (s:={ s with heap:=h'.push (seqObj "list" its.toArray 0) }) hn (Qeq rv) (by omega) λout ns' ia pm pw=>hP _ ?_
 have I1:Inv X pins σ H { s with heap:=h' }:=I.kept (t':=s.toks) kp;have hf:H h'.objs.size=none:=I1.hok.fresh (Ql _);obtain⟨e,he⟩:∃e,(sortedHeap (h'.push (seqObj "list" its.toArray 0)) h'.objs.size its out).get? h'.objs.size=some (seqObj "list" out e):=QfZ hn
 have rv':=Qdr ia;have lp:=pm.length_eq;have I2:Inv X pins σ (upd H h'.objs.size (.lst (ns'.map V.int))) { s with heap:=sortedHeap (h'.push (seqObj "list" its.toArray 0)) h'.objs.size its out }:=
  I1.laid (t':=s.toks) (λb x e'=>(Qe9 (QL (Qq e')) (QP (Qq e') (by rw[Qhg];exact Qcm _))).trans (Qi _ e')) (Ql _) (show ObjOk X.prog X.w _ _ _ (.lst _) from⟨by rw[Qe];exact J4 (Rk.Qar (by omega)),out.toList,e,rv',by rw[he]⟩)
 exact⟨.ref h'.objs.size,_,I2,rfl,q _ ns' _ (Jt hf) hf Jj pm pw⟩
def QrX(K:PySem.W.Frag):List V->Hp->VK->Prop:=λxs H Q=>QrW K xs H Q∨Qma xs H Q
theorem QdW:CallR X (.builtin "sorted") (QrX X.K):=by
 intro pins s σ H xs us Q I r h;rcases h with h | h
 ·exact Qk7 pins s σ H xs us Q I r h
 ·exact Qjf pins s σ H xs us Q I r h
end
@[irreducible] def QlY:List Qb->(Qb->Prop)->Prop
 |[.list ds],Q=>∃ns,QaS ds=some ns/\ns.length<64/\∀ms:List Int,ms.Perm ns->ms.Pairwise (·<=·)->Q (.list (ms.map .int))
 |[.tuple ds],Q=>∃ns,QaS ds=some ns/\ns.length<64/\∀ms:List Int,ms.Perm ns->ms.Pairwise (·<=·)->Q (.list (ms.map .int))
 |_,_=>False
theorem Qcb{A:Addr->Prop}{H:Hp}:∀ms:List Int,DAs A H (ms.map V.int) (ms.map .int)
 |[]=>.nil
 |m::ms=>.cons (.int m) (Qcb ms)
theorem Qjd{K:PySem.W.Frag}:QbX (QrX K) QlY:=λA P H vs ds R Q ln dm q h k=>by
 unfold QlY at h;split at h
 ·obtain⟨v,rfl,hv⟩:=pd1 q;obtain⟨bs,hb,h64,hR⟩:=h;rw[QeT hb] at hv;obtain⟨l,xs,rfl,e,qq⟩:=hv.list;rw[Qbr qq] at e;exact .inr ⟨l,bs,rfl,e,h64,λt ms H2 s n e2 pm pw=>k _ (hR ms pm pw) _ H2 s (QbS dm s n e2 (Qcb ms)) (Qae n)⟩
 ·obtain⟨v,rfl,hv⟩:=pd1 q;obtain⟨bs,hb,h64,hR⟩:=h;rw[QeT hb] at hv;obtain⟨l,xs,rfl,e,qq⟩:=hv.tuple;rw[Qbr qq] at e;exact .inl ⟨l,bs,rfl,SqT.of e,h64,λt ms H2 s n e2 pm pw=>k _ (hR ms pm pw) _ H2 s (QbS dm s n e2 (Qcb ms)) (Qae n)⟩
 ·exact h.elim
theorem QiK{ds:List Qb}{Q:Qb->Prop}{ns:List Int}(h:QaS ds=some ns)(h64:ns.length<64)(k:∀ms:List Int,ms.Perm ns->ms.Pairwise (·<=·)->Q (.list (ms.map .int))):QlY [.list ds] Q/\QlY [.tuple ds] Q:=by
 unfold QlY;exact⟨⟨ns,h,h64,k⟩,ns,h,h64,k⟩
end Dl
namespace PySem
namespace AutoSeq1
open PyProof
end AutoSeq1
end PySem
namespace L2
end L2
namespace Dl
open L2 _root_.Rd Rk
section
variable{X:Cx}{E:XK}
end
theorem QnO{K:PySem.W.Frag}{E:XK}{cap:List (Option Nat)}{ix:List Nat}{wi:DI}{wg:DG}{wt:DT}{we:DE}(hf:QbU cap ix=true)(σ:L2.St)(H:Hp)(Q:VK)(h:tX .F K E (dComp cap wi wg wt we) σ H Q) :
  tComp cap (tI .P K E wi) (tG ix K wg) (tT K E0 wt) (tX .D K E0 we) σ H Q:=by
 obtain⟨F,δ,R,EX,rel,hw,k,o⟩:=h;refine⟨F,δ,_,EX,rel,hw,λitems hC J H1 rel1 kp1 ⟨ln,it⟩ p hp=>?_,o⟩;unfold Qg7 at hC;obtain⟨Iv,i0,step,fin⟩:=hC;have hpn:¬Yu σ δ p:=λz=>by obtain⟨xs,e⟩:=rel1.isl (Qac (F:=F) z);rw[hp] at e;cases e
 let A1:Addr->Prop:=λa=>Av F σ δ a∨a=p
 have hP:∀a,Yu σ δ a->A1 a:=λa z=>.inl (Qac z)
 have hN:∀a,A1 a->Av F σ δ a∨H1 a=none:=λa z=>z.elim .inl λz=>.inr (by rw[z];exact hp)
 have dmK:∀{H2:Hp},Kp σ δ H1 H2->(∃ys,H2 p=some (.lst ys))->∀a,A1 a->∃xs,H2 a=some (.lst xs):=λ{H2} k2 e2 a z=>by
  rcases z with z | z
  ·exact(rel1.kp k2).isl z
  ·rw[z];exact e2
 refine QeO items.length (λi H2=>i<=items.length/\∃acc,Iv i acc/\acc.length<=i/\Lp σ δ A1 p H1 H2 acc) ⟨Q9 _,[],i0,Ql _,Kp.same rel1 (Jt hp),[],Jj,.nil⟩ (λi H2 hi ⟨_,acc,iv,hl,lp⟩=>?_) λH2 ⟨_,acc,iv,hl,lp⟩=>?_
 ·obtain⟨k2,ys,e2,q2⟩:=lp;obtain⟨go,_⟩:=it H2 A1 (λb o n e=>k2.1 b o n e) hN (dmK k2 ⟨ys,e2⟩);have hd:items[i]? = some items[i]:=Qc hi;obtain⟨g1,g2⟩:=go i _ hd;refine⟨g1,λx H3 y kk hk=>?_⟩;obtain⟨s3,dx⟩:=g2 x H3 y;have k23:=Kp.same (rel1.kp k2) s3;have lp3:Lp σ δ A1 p H1 H3 acc:=Lp.step hP hpn ⟨k2,ys,e2,q2⟩ k23;refine QlM hf rel1 (λa z=>.inl z) hN (dmK lp3.kp ⟨ys,s3 _ _ e2⟩) lp3.kp dx (step i acc _ hd iv) (λσ4 δ4 H5 h5 r5 k5 pots=>?_) λh5 H5 k5=>hk _ ⟨hi,acc,h5,by omega,lp3.step hP hpn k5⟩
  exact Qsp (.inr rfl) hP hp hpn (lp3.step hP hpn k5) (by omega) r5 pots h5 λe he H' lp'=>hk _ ⟨hi,acc++[e],he,by rw[Qy];show _+1<=_;omega,lp'⟩
 ·obtain⟨k2,ys,e2,q2⟩:=lp;obtain⟨_,st⟩:=it H2 A1 (λb o n e=>k2.1 b o n e) hN (dmK k2 ⟨ys,e2⟩);refine⟨st,k _ (fin acc iv) (.ref p) H2 (rel1.kp k2) (kp1.trans k2) ⟨.lst (λz=>?_) e2 (q2.mv (λ_ _ _ e=>e) λa z=>.inl (.inl z)),λl e1 _=>?_⟩⟩
  ·obtain⟨xs,e⟩:=rel1.isl z;rw[hp] at e;cases e
  ·cases e1;exact QaX kp1 hp
theorem QBv{K:PySem.W.Frag}{E:XK}{w:DE}(σ:L2.St)(H:Hp)(Q:VK)(h:tX .D K E w σ H Q):tX .F K E w σ H Q:=by
 obtain⟨F,δ,R,EX,rel,hw,k,o⟩:=h;exact⟨F,δ,R,EX,rel,hw,λd hd v H' r kp vk=>k d hd v H' r kp vk.1,o⟩
section
variable{X:Cx}{E:XK}
theorem Qmg(M:List Str)(cap:List (Option Nat))(i:Nat){elt tg iter:Q3}{ifs:List Q3}{scope:Qan}{pos py spos:Pos}{y:Str}{ix:List Nat}{wi:DI}{wg:DG}{wt:DT}{we:DE}(hN:X.N.Nodup)(hi:QI .P X E tg iter wi)(hb:∀cl ex s3 H3 C,QG ix (blk X M scope cl ex s3 H3 C) tg wg/\QTs (blk X M scope cl ex s3 H3 C) E0 ifs wt/\QE .D (blk X M scope cl ex s3 H3 C) E0 elt we)(hiy:X.N[i]? = some y:=by rfl)(hly:X.env.scope.names.lookup y=some .local:=by rfl)(hc:X.calm=true:=by rfl)(ok:Qfs X.N X.env.scope M scope cap=true:=by rfl)(hf:QbU cap ix=true:=by rfl)(hs:∀x,foldedSetIterable iter X.env x=pure x:=by intro _;rfl)(hsw:swapsWith (.ListComp elt [⟨tg,iter,ifs,0⟩] scope pos) (some (.Name y py)) spos.line X.env=pure true:=by rfl):QS X E (.Assign [.Name y py] (.ListComp elt [⟨tg,iter,ifs,0⟩] scope pos) spos) (Qy6 i (dComp cap wi wg wt we)):=
 ⟨QiP (PS.imp (PS.imp (Qo6 hN hiy hly hc ok hi.h (λcl ex s3 H3 C=>⟨(hb cl ex s3 H3 C).1.h,(hb cl ex s3 H3 C).2.1.h,(hb cl ex s3 H3 C).2.2.h⟩) hs hsw) λD σ H q=>QnO (E:=E) hf σ H _ q) λD σ H q=>QBv σ H _ q)⟩
end
theorem QfW{K:PySem.W.Frag}{E:XK}{cap:List (Option Nat)}{ix ix2:List Nat}{wi wi2:DI}{wg wg2:DG}{wt wt2:DT}{we:DE}(gok:GOk wg)(hf:QbU cap ix=true)(hf2:QbU cap ix2=true)(hd:ix2.all (λi => !ix.contains i)=true)(σ:L2.St)(H:Hp)(Q:VK)(h:tX .F K E (QnL cap wi wg wt wi2 wg2 wt2 we) σ H Q) :
  QrL cap (tI .P K E wi) (tG ix K wg) (tT K E0 wt) (tI .D K E0 wi2) (tG ix2 K wg2) (tT K E0 wt2) (tX .D K E0 we) σ H Q:=by
 obtain⟨F,δ,R,EX,rel,hw,k,o⟩:=h;refine⟨F,δ,_,EX,rel,hw,λitems hC J H1 rel1 kp1 ⟨ln,it⟩ p hp=>?_,o⟩;unfold Qko at hC;obtain⟨Iv,i0,step,fin⟩:=hC;have hpn:¬Yu σ δ p:=λz=>by obtain⟨xs,e⟩:=rel1.isl (Qac (F:=F) z);rw[hp] at e;cases e
 let A1:Addr->Prop:=λa=>Av F σ δ a∨a=p
 have hP:∀a,Yu σ δ a->A1 a:=λa z=>.inl (Qac z)
 have hN:∀a,A1 a->Av F σ δ a∨H1 a=none:=λa z=>z.elim .inl λz=>.inr (by rw[z];exact hp)
 have dmK:∀{H2:Hp},Kp σ δ H1 H2->(∃ys,H2 p=some (.lst ys))->∀a,A1 a->∃xs,H2 a=some (.lst xs):=λ{H2} k2 e2 a z=>by
  rcases z with z | z
  ·exact(rel1.kp k2).isl z
  ·rw[z];exact e2
 refine QeO items.length (λi H2=>i<=items.length/\∃acc,Iv i acc/\Lp σ δ A1 p H1 H2 acc) ⟨Q9 _,[],i0,Kp.same rel1 (Jt hp),[],Jj,.nil⟩ (λi H2 hi ⟨_,acc,iv,lp⟩=>?_) λH2 ⟨_,acc,iv,lp⟩=>?_
 ·obtain⟨k2,ys,e2,q2⟩:=lp;obtain⟨go,_⟩:=it H2 A1 (λb o n e=>k2.1 b o n e) hN (dmK k2 ⟨ys,e2⟩);have hd':items[i]? = some items[i]:=Qc hi;obtain⟨g1,g2⟩:=go i _ hd';refine⟨g1,λx H3 y kk hk=>?_⟩;obtain⟨s3,dx⟩:=g2 x H3 y;have k23:=Kp.same (rel1.kp k2) s3;have lp3:Lp σ δ A1 p H1 H3 acc:=Lp.step hP hpn ⟨k2,ys,e2,q2⟩ k23;refine QoE gok hf rel1 (λa z=>.inl z) hN (dmK lp3.kp ⟨ys,s3 _ _ e2⟩) lp3.kp dx (step i acc _ hd' iv) (λσ4 δ4 H5 h5 r5 k5 j4 l4 g4=>?_) λh5 H5 k5=>hk _ ⟨hi,acc,h5,lp3.step hP hpn k5⟩
  have av4:∀{H:Hp}{a:Addr},Av (inF A1 cap σ δ H) σ4 δ4 a->A1 a:=λ{H a} z=>Qsk hP hf j4 g4 z
  refine⟨inF A1 cap σ δ H3,δ4,_,XF,r5,h5,λitems2 hJ J2 H7 rel7 kp7 ⟨ln2,it2⟩=>?_,Qr8⟩;unfold InR at hJ;obtain⟨Jv,z0,step2,fin2⟩:=hJ;have pots4:∀{b:Addr},Yu σ4 δ4 b->Yu σ δ b:=λ{b} z=>by
   obtain⟨j,z1,z2⟩:=z;rcases g4 j _ z2 with⟨e,z⟩ | z
   ·cases z
   ·exact QcO ⟨j,by rw[<- j4 j (Qer hf z (λz=>by cases z))];exact z1,z⟩
  have k57:Kp σ δ H5 H7:=by
   refine⟨λb o n e=>kp7.1 b o (λz=>n (pots4 z)) e,λb hb=>?_⟩;by_cases z:Yu σ4 δ4 b
   ·exact kp7.2 b z
   ·obtain⟨n,e⟩:=k5.2 b hb;exact⟨n,kp7.1 _ _ z e⟩
  refine QeO items2.length (λj H8=>j<=items2.length/\∃acc2,Jv j acc2/\Lp σ δ A1 p H1 H8 acc2/\∀b o,¬A1 b->H7 b=some o->H8 b=some o) ⟨Q9 _,acc,z0,(lp3.step hP hpn k5).step hP hpn k57,λ_ _ _ e=>e⟩ (λj H8 hj ⟨_,acc2,jv,lp8,s78⟩=>?_) λH8 ⟨_,acc2,jv,lp8,s78⟩=>?_
  ·obtain⟨ys8,e8,q8⟩:=lp8.at_;obtain⟨go2,_⟩:=it2 H8 A1 (λb o n e=>s78 b o (λz=>n (.inl z)) e) (λb z=>.inl (.inl z)) (dmK lp8.kp ⟨ys8,e8⟩);have hd2:items2[j]? = some items2[j]:=Qc hj;obtain⟨g3,g5⟩:=go2 j _ hd2;refine⟨g3,λx2 H9 y2 kk2 hk2=>?_⟩;obtain⟨s9,dx2⟩:=g5 x2 H9 y2;have k89:=Kp.same (rel1.kp lp8.kp) s9;have lp9:Lp σ δ A1 p H1 H9 acc2:=lp8.step hP hpn k89;have ri:=Qng (cap:=cap) rel1 (λa z=>.inl z) hN (dmK lp9.kp ⟨ys8,s9 _ _ e8⟩) lp9.kp;have r9:=QuU hP hf j4 g4 ri r5 λa o n e=>s9 _ _ (s78 a o n (k57.1 a o (λz=>n (hP a z)) e))
   obtain⟨hl2,hw2⟩:=step2 j acc2 _ hd2 jv;refine⟨inF A1 cap σ δ H9,δ4,_,_,r9,dx2.mv (λ_ _ _ e=>e) λa z=>.inl (av4 z),hw2,λδ5 h6 σ5 r10 st5 l5 j5=>⟨QoC l5 λi v e=>?_,inF A1 cap σ δ H9,δ5,_,XF,r10,h6,λb hb H10 r11 kp11=>?_,Qr8⟩⟩
   ·by_cases z:i∈ix2
    ·have n1:i∉ix:=λz2=>by
      have:=Y5.mp hd i z;simp[z2] at this
     rw[j4 i n1] at e;rcases QgW e with⟨_,e2⟩ | ⟨j,hj2,_⟩
     ·cases e2
     ·rw[Qnr hf2 z] at hj2;cases hj2
    ·rw[j5 i z];exact e
   ·have pots:∀{b:Addr},Yu σ5 δ5 b->Yu σ δ b:=λz=>Qi4 r10 (λb o _ e1 e2=>by rw[e2] at e1;cases e1) z
    have K10:Kp σ δ H9 H10:=by
     refine⟨λb o n e=>kp11.1 b o (λz=>n (pots z)) e,λb hb=>?_⟩;by_cases z:Yu σ5 δ5 b
     ·exact kp11.2 b z
     ·obtain⟨n,e⟩:=lp9.kp.2 b hb;exact⟨n,kp11.1 _ _ z e⟩
    have s710:∀b o,¬A1 b->H7 b=some o->H10 b=some o:=λb o n e=>K10.1 b o (λz=>n (hP b z)) (s9 _ _ (s78 b o n e))
    refine Qdj hb (λz=>?_) λz=>hk2 _ ⟨hj,acc2,z,lp9.step hP hpn K10,s710⟩
    exact Qu8 (.inr rfl) hP hp hpn (lp9.step hP hpn K10) (QP hl2 QpS) r11 (λb=>pots) z λe he H' lp' kk'=>hk2 _ ⟨hj,acc2++[e],he,lp',λb o n e=>kk' b o n (s710 b o n e)⟩
  ·obtain⟨ys8,e8,q8⟩:=lp8.at_;obtain⟨_,st2⟩:=it2 H8 A1 (λb o n e=>s78 b o (λz=>n (.inl z)) e) (λb z=>.inl (.inl z)) (dmK lp8.kp ⟨ys8,e8⟩);exact⟨st2,hk _ ⟨hi,acc2,fin2 acc2 jv,lp8⟩⟩
 ·obtain⟨k2,ys,e2,q2⟩:=lp;obtain⟨_,st⟩:=it H2 A1 (λb o n e=>k2.1 b o n e) hN (dmK k2 ⟨ys,e2⟩);refine⟨st,k _ (fin acc iv) (.ref p) H2 (rel1.kp k2) (kp1.trans k2) ⟨.lst (λz=>?_) e2 (q2.mv (λ_ _ _ e=>e) λa z=>.inl (.inl z)),λl e1 _=>?_⟩⟩
  ·obtain⟨xs,e⟩:=rel1.isl z;rw[hp] at e;cases e
  ·cases e1;exact QaX kp1 hp
section
variable{X:Cx}{E:XK}
theorem Qmf(M:List Str)(cap:List (Option Nat))(i:Nat){elt tg iter tg2 iter2:Q3}{ifs ifs2:List Q3}{scope:Qan}{pos py spos:Pos}{y:Str}{ix ix2:List Nat}{wi wi2:DI}{wg wg2:DG}{wt wt2:DT}{we:DE}(hN:X.N.Nodup)(gok:GOk wg)(hi:QI .P X E tg iter wi)(hb:∀cl ex s3 H3 C,QG ix (blk X M scope cl ex s3 H3 C) tg wg/\QTs (blk X M scope cl ex s3 H3 C) E0 ifs wt/\QI .D (blk X M scope cl ex s3 H3 C) E0 tg2 iter2 wi2/\QG ix2 (blk X M scope cl ex s3 H3 C) tg2 wg2/\QTs (blk X M scope cl ex s3 H3 C) E0 ifs2 wt2/\QE .D (blk X M scope cl ex s3 H3 C) E0 elt we)(hiy:X.N[i]? = some y:=by rfl)(hly:X.env.scope.names.lookup y=some .local:=by rfl)(hc:X.calm=true:=by rfl)(ok:Qfs X.N X.env.scope M scope cap=true:=by rfl)(hf:QbU cap ix=true:=by rfl)(hf2:QbU cap ix2=true:=by rfl)(hd:ix2.all (λi => !ix.contains i)=true:=by rfl)(hs:∀x,foldedSetIterable iter X.env x=pure x:=by intro _;rfl)(hs2:∀env x,foldedSetIterable iter2 env x=pure x:=by intro _ _;rfl)(hsw:swapsWith (.ListComp elt [⟨tg,iter,ifs,0⟩,⟨tg2,iter2,ifs2,0⟩] scope pos) (some (.Name y py)) spos.line X.env=pure true:=by rfl):QS X E (.Assign [.Name y py] (.ListComp elt [⟨tg,iter,ifs,0⟩,⟨tg2,iter2,ifs2,0⟩] scope pos) spos) (Qvb i (QnL cap wi wg wt wi2 wg2 wt2 we)):=
 ⟨QjN (PS.imp (QhI hN hiy hly hc ok hi.h (λcl ex s3 H3 C=>⟨(hb cl ex s3 H3 C).1.h,(hb cl ex s3 H3 C).2.1.h,(hb cl ex s3 H3 C).2.2.1.h,(hb cl ex s3 H3 C).2.2.2.1.h,(hb cl ex s3 H3 C).2.2.2.2.1.h,(hb cl ex s3 H3 C).2.2.2.2.2.h⟩) hs hs2 hsw) λD σ H q=>QfW (E:=E) gok hf hf2 hd σ H _ q)⟩
theorem Qgt(M:List Str)(cap:List (Option Nat))(i:Nat){elt tg iter tg2 iter2:Q3}{ifs ifs2:List Q3}{scope:Qan}{pos py spos:Pos}{y:Str}{ix ix2:List Nat}{wi wi2:DI}{wg wg2:DG}{wt wt2:DT}{we:DE}(hN:X.N.Nodup)(gok:GOk wg)(hi:QI .P X E tg iter wi)(hb:∀cl ex s3 H3 C,QG ix (blk X M scope cl ex s3 H3 C) tg wg/\QTs (blk X M scope cl ex s3 H3 C) E0 ifs wt/\QI .D (blk X M scope cl ex s3 H3 C) E0 tg2 iter2 wi2/\QG ix2 (blk X M scope cl ex s3 H3 C) tg2 wg2/\QTs (blk X M scope cl ex s3 H3 C) E0 ifs2 wt2/\QE .D (blk X M scope cl ex s3 H3 C) E0 elt we)(hiy:X.N[i]? = some y:=by rfl)(hly:X.env.scope.names.lookup y=some .local:=by rfl)(hc:X.calm=true:=by rfl)(ok:Qfs X.N X.env.scope M scope cap=true:=by rfl)(hf:QbU cap ix=true:=by rfl)(hf2:QbU cap ix2=true:=by rfl)(hd:ix2.all (λi => !ix.contains i)=true:=by rfl)(hs:∀x,foldedSetIterable iter X.env x=pure x:=by intro _;rfl)(hs2:∀env x,foldedSetIterable iter2 env x=pure x:=by intro _ _;rfl)(hsw:swapsWith (.ListComp elt [⟨tg,iter,ifs,0⟩,⟨tg2,iter2,ifs2,0⟩] scope pos) (some (.Name y py)) spos.line X.env=pure true:=by rfl):QS X E (.Assign [.Name y py] (.ListComp elt [⟨tg,iter,ifs,0⟩,⟨tg2,iter2,ifs2,0⟩] scope pos) spos) (Qy6 i (QnL cap wi wg wt wi2 wg2 wt2 we)):=
 ⟨QiP (PS.imp (PS.imp (QhI hN hiy hly hc ok hi.h (λcl ex s3 H3 C=>⟨(hb cl ex s3 H3 C).1.h,(hb cl ex s3 H3 C).2.1.h,(hb cl ex s3 H3 C).2.2.1.h,(hb cl ex s3 H3 C).2.2.2.1.h,(hb cl ex s3 H3 C).2.2.2.2.1.h,(hb cl ex s3 H3 C).2.2.2.2.2.h⟩) hs hs2 hsw) λD σ H q=>QfW (E:=E) gok hf hf2 hd σ H _ q) λD σ H q=>QBv σ H _ q)⟩
end
theorem QhK{A:Addr->Prop}{H:Hp}(dm:∀a,A a->∃xs,H a=some (.lst xs)):∀(M:List (Int×Int))(ys:List V),Dats H ys (M.map Rk.pairD)->DAs A H ys (M.map Rk.pairD)
 |[],ys,h=>by cases h;exact .nil
 |m::M,ys,h=>by
  cases h with
  |@cons x xs _ _ h1 h2=>
   refine .cons ?_ (QhK dm M xs h2)
   cases h1 with
   |@tup a zs _ e q=>
    refine .tup (λz=>?_) e ?_
    ·obtain⟨xs,e'⟩:=dm a z;rw[e] at e';cases e'
    ·cases q with
     |cons a b=>
      cases a;cases b with
      |cons a b=>cases a;cases b;exact .cons (.int _) (.cons (.int _) .nil)
theorem QbT(L:List (Int×Int)):nds (L.map Rk.pairD)=true:=QmU.mpr λd hd=>by
 obtain⟨i,_,rfl⟩:=QQ.mp hd;rfl
@[irreducible] def sortPD:List Qb->(Qb->Prop)->Prop
 |[.list ds],Q=>∃L:List (Int×Int),ds=L.map Rk.pairD/\L.Nodup/\L.length<64/\(∀ij∈L,0<=ij.2/\ij.2<64)/\∀M:List (Int×Int),M.Perm L->M.Pairwise (λa b=>Rs.code a<Rs.code b)->Q (.list (M.map Rk.pairD))
 |_,_=>False
theorem cd_sortP:QbX Ql9 sortPD:=λA P H vs ds R Q ln dm q h k=>by
 unfold sortPD at h;split at h
 ·obtain⟨v,rfl,hv⟩:=pd1 q;obtain⟨L,rfl,nd',h64,hb,hR⟩:=h;obtain⟨l,xs,rfl,e,qq⟩:=hv.list;refine⟨l,xs,L,rfl,e,Qal _ _ (QbT L) qq,nd',h64,hb,λt ys M H2 s n e2 dts pm pw=>?_⟩;have dm2:∀a,A a->∃xs,H2 a=some (.lst xs):=λa z=>by obtain⟨xs,e⟩:=dm a z;exact⟨xs,s _ _ e⟩
  refine k _ (hR M pm pw) _ H2 s (.lst (λz=>?_) e2 (QhK dm2 M ys dts)) (Qae n);obtain⟨xs,e⟩:=dm t z;rw[n] at e;cases e
 ·exact h.elim
theorem sortP_of{L:List (Int×Int)}{Q:Qb->Prop}(h1:L.Nodup)(h2:L.length<64)(h3:∀ij∈L,0<=ij.2/\ij.2<64)(k:∀M:List (Int×Int),M.Perm L->M.Pairwise (λa b=>Rs.code a<Rs.code b)->Q (.list (M.map Rk.pairD))):sortPD [.list (L.map Rk.pairD)] Q:=by
 unfold sortPD;exact⟨L,rfl,h1,h2,h3,k⟩
def rkD:Qb->Nat
 |.int _=>0
 |.tuple _=>1
 |_=>2
def Qd6(i j:Int):Ordering:=if i<j then .lt else if i=j then .eq else .gt
def QCe(i j:Nat):Ordering:=if i<j then .lt else if i=j then .eq else .gt
def thn(o:Ordering)(p:Ordering):Ordering:=match o with
 |.eq=>p
 |o=>o
mutual
def QaM:Qb->Qb->Ordering
 |.int i,.int j=>Qd6 i j
 |.tuple a,.tuple b=>Qab a b
 |x,y=>QCe (rkD x) (rkD y)
def Qab:List Qb->List Qb->Ordering
 |[],[]=>.eq
 |[],_::_=>.lt
 |_::_,[]=>.gt
 |x::xs,y::ys=>thn (QaM x y) (Qab xs ys)
end
def isL:Ordering->Bool
 |.lt=>true
 |_=>false
def ltD(x y:Qb):Bool:=isL (QaM x y)
def QxQ(x y:List Qb):Bool:=isL (Qab x y)
def sw:Ordering->Ordering
 |.lt=>.gt
 |.gt=>.lt
 |.eq=>.eq
def QfS:Ordering->Bool
 |.gt=>false
 |_=>true
theorem Qwe(a b:Ordering):sw (thn a b)=thn (sw a) (sw b):=by cases a<;>rfl
theorem Qvk(i j:Int):Qd6 j i=sw (Qd6 i j):=by
 unfold Qd6;by_cases h:i<j
 ·rw[if_neg (by omega),if_neg (by omega),if_pos h];rfl
 ·by_cases h2:i=j
  ·rw[if_neg (by omega),if_pos h2.symm,if_neg h,if_pos h2];rfl
  ·rw[if_pos (by omega),if_neg h,if_neg h2];rfl
theorem Qvl(i j:Int):QfS (Qd6 i j)=decide (i<=j):=by
 unfold Qd6;by_cases h:i<j
 ·rw[if_pos h];exact(decide_eq_true (by omega)).symm
 ·by_cases h2:i=j
  ·rw[if_neg h,if_pos h2];exact(decide_eq_true (by omega)).symm
  ·rw[if_neg h,if_neg h2];exact(decide_eq_false (by omega)).symm
mutual
theorem QaY:∀(x y:Qb),QaM y x=sw (QaM x y)
 |.int i,.int j=>Qvk i j
 |.tuple a,.tuple b=>Qkl a b
 |.int _,.tuple _=>rfl
 |.tuple _,.int _=>rfl
 |.int _,.none=>rfl
 |.int _,.bool _=>rfl
 |.int _,.str _=>rfl
 |.int _,.list _=>rfl
 |.int _,.dict _=>rfl
 |.tuple _,.none=>rfl
 |.tuple _,.bool _=>rfl
 |.tuple _,.str _=>rfl
 |.tuple _,.list _=>rfl
 |.tuple _,.dict _=>rfl
 |.none,y=>by cases y<;>rfl
 |.bool _,y=>by cases y<;>rfl
 |.str _,y=>by cases y<;>rfl
 |.list _,y=>by cases y<;>rfl
 |.dict _,y=>by cases y<;>rfl
theorem Qkl:∀(xs ys:List Qb),Qab ys xs=sw (Qab xs ys)
 |[],[]=>rfl
 |[],_::_=>rfl
 |_::_,[]=>rfl
 |x::xs,y::ys=>by
  show thn (QaM y x) (Qab ys xs)=sw (thn (QaM x y) (Qab xs ys));rw[QaY x y,Qkl xs ys,Qwe]
end
theorem QxU{a c:Ordering}(hab:QfS a=true)(h:QfS (sw c)=true->QfS (sw a)=true)(ha:a=.lt):c=.lt:=by
 subst ha;cases c with
 |lt=>rfl
 |eq=>cases h rfl
 |gt=>cases h rfl
mutual
theorem QgT:∀(x y z:Qb),QfS (QaM x y)=true->QfS (QaM y z)=true->QfS (QaM x z)=true
 |.int i,.int j,.int k,h1,h2=>by
  have h1:QfS (Qd6 i j)=true:=h1;have h2:QfS (Qd6 j k)=true:=h2;show QfS (Qd6 i k)=true;rw[Qvl] at h1 h2 ⊢;have a:=of_decide_eq_true h1;have b:=of_decide_eq_true h2;exact decide_eq_true (by omega)
 |.tuple a,.tuple b,.tuple c,h1,h2=>Qkk a b c h1 h2
 |.int _,y,.tuple _,h1,h2=>rfl
 |.int _,.tuple _,.int _,h1,h2=>by cases h2
 |.tuple _,.int _,z,h1,h2=>by cases h1
 |.tuple _,.tuple _,.int _,h1,h2=>by cases h2
 |.int _,y,.none,_,_=>rfl
 |.int _,y,.bool _,_,_=>rfl
 |.int _,y,.str _,_,_=>rfl
 |.int _,y,.list _,_,_=>rfl
 |.int _,y,.dict _,_,_=>rfl
 |.tuple _,y,.none,_,_=>rfl
 |.tuple _,y,.bool _,_,_=>rfl
 |.tuple _,y,.str _,_,_=>rfl
 |.tuple _,y,.list _,_,_=>rfl
 |.tuple _,y,.dict _,_,_=>rfl
 |.int _,.none,.int _,h1,h2=>by cases h2
 |.int _,.bool _,.int _,h1,h2=>by cases h2
 |.int _,.str _,.int _,h1,h2=>by cases h2
 |.int _,.list _,.int _,h1,h2=>by cases h2
 |.int _,.dict _,.int _,h1,h2=>by cases h2
 |.tuple _,.none,.int _,h1,h2=>by cases h2
 |.tuple _,.bool _,.int _,h1,h2=>by cases h2
 |.tuple _,.str _,.int _,h1,h2=>by cases h2
 |.tuple _,.list _,.int _,h1,h2=>by cases h2
 |.tuple _,.dict _,.int _,h1,h2=>by cases h2
 |.tuple _,.none,.tuple _,h1,h2=>by cases h2
 |.tuple _,.bool _,.tuple _,h1,h2=>by cases h2
 |.tuple _,.str _,.tuple _,h1,h2=>by cases h2
 |.tuple _,.list _,.tuple _,h1,h2=>by cases h2
 |.tuple _,.dict _,.tuple _,h1,h2=>by cases h2
 |.none,y,z,h1,h2=>by cases y<;>cases z<;>first | rfl | (cases h1;done) | (cases h2;done)
 |.bool _,y,z,h1,h2=>by cases y<;>cases z<;>first | rfl | (cases h1;done) | (cases h2;done)
 |.str _,y,z,h1,h2=>by cases y<;>cases z<;>first | rfl | (cases h1;done) | (cases h2;done)
 |.list _,y,z,h1,h2=>by cases y<;>cases z<;>first | rfl | (cases h1;done) | (cases h2;done)
 |.dict _,y,z,h1,h2=>by cases y<;>cases z<;>first | rfl | (cases h1;done) | (cases h2;done)
 termination_by x y z=>sizeOf x+sizeOf y+sizeOf z
theorem Qkk:∀(xs ys zs:List Qb),QfS (Qab xs ys)=true->QfS (Qab ys zs)=true->QfS (Qab xs zs)=true
 |[],_,[],_,_=>rfl
 |[],_,_::_,_,_=>rfl
 |_::_,[],_,h1,_=>by cases h1
 |_::_,_::_,[],_,h2=>by cases h2
 |x::xs,y::ys,z::zs,h1,h2=>by
  have h1:QfS (thn (QaM x y) (Qab xs ys))=true:=h1;have h2:QfS (thn (QaM y z) (Qab ys zs))=true:=h2;show QfS (thn (QaM x z) (Qab xs zs))=true;have a1:QfS (QaM x y)=true:=by cases e:QaM x y<;>rw[e] at h1<;>first | rfl | cases h1
  have a2:QfS (QaM y z)=true:=by cases e:QaM y z<;>rw[e] at h2<;>first | rfl | cases h2
  have a3:=QgT x y z a1 a2;cases e1:QaM x y with
  |gt=>rw[e1] at a1;cases a1
  |lt=>
   have:QaM x z=.lt:=QxU (a:=QaM x y) a1 (λq=>by
    rw[<- QaY x z] at q;rw[<- QaY x y];exact QgT y z x a2 q) e1
   rw[this];rfl
  |eq=>
   cases e2:QaM y z with
   |gt=>rw[e2] at a2;cases a2
   |lt=>
    have:QaM x z=.lt:=QxU (a:=QaM y z) a2 (λq=>by
     rw[<- QaY x z] at q;rw[<- QaY y z];exact QgT z x y q a1) e2
    rw[this];rfl
   |eq=>
    rw[e1] at h1;rw[e2] at h2;cases e3:QaM x z with
    |gt=>rw[e3] at a3;cases a3
    |lt=>rfl
    |eq=>exact Qkk xs ys zs h1 h2
 termination_by x y z=>sizeOf x+sizeOf y+sizeOf z
end
theorem Qx5(o:Ordering):isL (sw o) = !QfS o:=by cases o<;>rfl
theorem Qsh(x y:Qb):ltD y x = !QfS (QaM x y):=by unfold ltD;rw[QaY x y,Qx5]
theorem Qj2(x y:Qb)(h:ltD x y=true):ltD y x=false:=by
 rw[Qsh];unfold ltD at h;cases e:QaM x y<;>rw[e] at h<;>first | rfl | cases h
theorem Qsg(x y z:Qb)(h1:ltD y x=false)(h2:ltD z y=false):ltD z x=false:=by
 rw[Qsh] at h1 h2 ⊢;rw[QgT x y z (by simpa using h1) (by simpa using h2)];rfl
mutual
def Qi9:Qb->Qb->Bool
 |.int _,.int _=>true
 |.tuple a,.tuple b=>QcN a b
 |_,_=>false
def QcN:List Qb->List Qb->Bool
 |x::xs,y::ys=>Qi9 x y&&QcN xs ys
 |_,_=>true
end
def isE:Ordering->Bool
 |.eq=>true
 |_=>false
theorem QuR(a b:Ordering):isE (thn a b)=(isE a&&isE b):=by cases a<;>rfl
mutual
theorem Qj9:∀(x y:Qb),Qi9 x y=true->QC x y=isE (QaM x y)
 |.int i,.int j,_=>by
  show(i == j)=isE (Qd6 i j);unfold Qd6;by_cases h:i=j
  ·subst h;simp[isE]
  ·rw[beq_eq_false_iff_ne.mpr h];split
   ·rfl
   ·rfl
 |.tuple a,.tuple b,h=>Qny a b h
 |.int _,.tuple _,h=>by cases h
 |.tuple _,.int _,h=>by cases h
 |.int _,.none,h=>by cases h
 |.int _,.bool _,h=>by cases h
 |.int _,.str _,h=>by cases h
 |.int _,.list _,h=>by cases h
 |.int _,.dict _,h=>by cases h
 |.tuple _,.none,h=>by cases h
 |.tuple _,.bool _,h=>by cases h
 |.tuple _,.str _,h=>by cases h
 |.tuple _,.list _,h=>by cases h
 |.tuple _,.dict _,h=>by cases h
 |.none,y,h=>by cases y<;>cases h
 |.bool _,y,h=>by cases y<;>cases h
 |.str _,y,h=>by cases y<;>cases h
 |.list _,y,h=>by cases y<;>cases h
 |.dict _,y,h=>by cases y<;>cases h
theorem Qny:∀(xs ys:List Qb),QcN xs ys=true->QdZ xs ys=isE (Qab xs ys)
 |[],[],_=>rfl
 |[],_::_,_=>rfl
 |_::_,[],_=>rfl
 |x::xs,y::ys,h=>by
  have h:=Jf.mp (show(Qi9 x y&&QcN xs ys)=true from h);show(QC x y&&QdZ xs ys)=isE (thn (QaM x y) (Qab xs ys));rw[Qj9 x y h.1,Qny xs ys h.2,QuR]
end
end Dl
namespace Rt
open PySem.Calls Dl
theorem QeY:∀{ds:List Qb}{d:Qb},d∈ds->d.depth<=Q5 ds
 |x::ds,d,h=>by
  show d.depth<=max x.depth (Q5 ds);rcases Qz.mp h with z | z
  ·subst z;exact Nat.le_max_left _ _
  ·exact QJ (QeY z) (Qf5 _ _)
theorem readsAll_len{h:Heap}:∀{vs:List Value}{ds:List Qb}{as:List Addr},Qau h vs ds as->vs.length=ds.length
 |_,_,_,.nil=>rfl
 |_,_,_,.cons _ r=>by rw[Qt,Qt,readsAll_len r]
section
open PySem.SeqAt
open PySem.AutoSeq1 (wpAny_loadPart')
open PySem.MeetsSeq PySem.MeetsSeq2 PySem.MeetsSeq3
theorem Qhp{l b:Addr}{items items2:Array Value}{n n2:Nat}{dd dd2:Option Addr}{sl sl2:Array (Option Value)}{ds es:List Qb}{as bs:List Addr}{N:Nat}(hk:QcN ds es=true)(hc1:Q8 ds=true)(hc2:Q8 es=true)(hd:Q5 ds<=N)
  (ih:∀(x y:Qb)(A:Q1)(s:Shared)(v u:Value)(p q:List Addr),Qew s.heap v x p->Qew s.heap u y q->x.canLay0=true->y.canLay0=true->Qi9 x y=true->x.depth<=N->A.units+2*N+2<cLine->∀(prog:QB)(w:Jd)(E Q:Value->Shared->Prop),Q (.bool (ltD x y)) s->wpAny (model prog w) A (richCompare .Lt v u) Q E s) :
  Meets (YF.«tuple.__lt__» ⟨[.ref l,.ref b],[]⟩)
   (λA R s=>s.heap.get? l=some { cls:=.type "tuple",dict:=dd,data:=.seq items n,slots:=sl }/\s.heap.get? b=some { cls:=.type "tuple",dict:=dd2,data:=.seq items2 n2,slots:=sl2 }/\Qau s.heap items.toList ds as/\Qau s.heap items2.toList es bs/\A.units+2*N+4<cLine /\
    R (.ok (.ret (.bool (QxQ ds es)))) s):=
 .of_wp λprog w A R s h=>by
  obtain⟨hp,g,d,tk,os⟩:=s;obtain⟨hl,hb,hr1,hr2,hu,h⟩:=h;have f2:=AutoSeq1.sub_tuple_tuple;have hu1:A.in1.units+2*N+2<cLine:=by show A.units+1+2*N+2<cLine;omega
  have z1:items.size=ds.length:=by rw[<- readsAll_len hr1];simp
  have z2:items2.size=es.length:=by rw[<- readsAll_len hr2];simp
  wp_walk using ZZ hl,ZZ hb,Qix _ (λrest b s'=>b.1=none/\s'=⟨hp,g,d,tk,os⟩/\∃(vs ws:List Value)(xs ys:List Qb)(p q:List Addr),rest=vs.zip ws /\
   Qau hp vs xs p/\Qau hp ws ys q/\QcN xs ys=true/\Q8 xs=true/\Q8 ys=true/\Q5 xs<=N/\xs.length+items2.size=ys.length+items.size/\R (.ok (.ret (.bool (QxQ xs ys)))) ⟨hp,g,d,tk,os⟩) _
  case turn=>
   rintro⟨y,x⟩ rest b s' ⟨hb',rfl,vs,ws,xs,ys,p,q,hz,hvi,hwi,hkk,c1,c2,hdd,hlen,hR⟩;cases hvi with
   |nil=>rw[Qrz] at hz;cases hz
   |@cons v0 vs0 d1 ds1 as1 as2 r1 hvi'=>
    cases hwi with
    |nil=>rw[Qow] at hz;cases hz
    |@cons u0 us0 d2 ds2 bs1 bs2 r2 hwi'=>
     rw[Qbi] at hz;injection hz with hyx hrest
     injection hyx with hy hx
     subst hy hx;have hkk:=Jf.mp (show(Qi9 d1 d2&&QcN ds1 ds2)=true from hkk);simp only[Q8,JK] at c1 c2;have dm1:d1.depth<=N:=QJ (QeY (ds:=d1::ds1) (.head _)) hdd;have dm2:Q5 ds1<=N:=QJ (show Q5 ds1<=max d1.depth (Q5 ds1) from Qf5 _ _) hdd;simp only[Qt] at hlen;have he:=Qfg d1 d2 A.in1 ⟨hp,g,d,tk,os⟩ y x _ _ r1 r2 c1.1 c2.1 (by omega);have hR:R (.ok (.ret (.bool (isL (thn (QaM d1 d2) (Qab ds1 ds2)))))) ⟨hp,g,d,tk,os⟩:=hR;rw[Qj9 d1 d2 hkk.1] at he;have hri:=λE Q=>ih d1 d2 A.in1 ⟨hp,g,d,tk,os⟩ y x _ _ r1 r2 c1.1 c2.1 hkk.1 dm1 hu1 prog w E Q
     unfold ltD at hri;cases e1:QaM d1 d2 with
     |lt=>
      rw[e1] at he hR hri;refine wpAny_bind (he prog w _ _ ?_)
      wp_walk using hri
      exact⟨_,rfl,hR⟩
     |gt=>
      rw[e1] at he hR hri;refine wpAny_bind (he prog w _ _ ?_)
      wp_walk using hri
      exact⟨_,rfl,hR⟩
     |eq=>
      rw[e1] at he hR;refine wpAny_bind (he prog w _ _ ?_)
      wp_walk
      exact⟨rfl,rfl,_,_,_,_,_,_,hrest,hvi',hwi',hkk.2,c1.2,c2.2,dm2,by omega,hR⟩
  case fin=>
   rintro⟨b1,b2⟩ s' ⟨hb',rfl,vs,ws,xs,ys,p,q,hz,hvi,hwi,hkk,c1,c2,hdd,hlen,hR⟩;simp only at hb';subst hb';have hv:QxQ xs ys=decide (items.size<items2.size):=by
    cases hvi with
    |nil=>
     cases hwi with
     |nil=>
      simp only[Qag] at hlen;exact(decide_eq_false (by omega)).symm
     |cons r2 hw=>
      simp only[Qag,Qt] at hlen;exact(decide_eq_true (by omega)).symm
    |cons r1 hv=>
     cases hwi with
     |nil=>
      simp only[Qag,Qt] at hlen;exact(decide_eq_false (by omega)).symm
     |cons r2 hw=>
      rw[Qbi] at hz;cases hz
   rw[hv] at hR
   wp_walk
   exact⟨_,rfl,by simpa [QcB] using hR⟩
  case h=>
   exact⟨rfl,rfl,items.toList,items2.toList,ds,es,as,bs,rfl,hr1,hr2,hk,hc1,hc2,hd,by omega,h⟩
end
end Rt
namespace Rt
open PySem.Calls PySem.W Dl
mutual
def okK:Qb->Bool
 |.int _=>true
 |.tuple ds=>QmM ds
 |_=>false
def QmM:List Qb->Bool
 |[]=>true
 |d::ds=>okK d&&QmM ds
end
theorem QzU:∀(N:Nat)(x y:Qb)(A:Q1)(s:Shared)(v u:Value)(p q:List Addr),Qew s.heap v x p->Qew s.heap u y q->x.canLay0=true->y.canLay0=true->Qi9 x y=true->x.depth<=N->A.units+2*N+2<cLine->∀(prog:QB)(w:Jd)(E Q:Value->Shared->Prop),Q (.bool (ltD x y)) s->wpAny (model prog w) A (richCompare .Lt v u) Q E s:=by
 intro N;have intz:∀(i j:Int)(A:Q1)(s:Shared)(v u:Value)(p q:List Addr),Qew s.heap v (.int i) p->Qew s.heap u (.int j) q->∀(prog:QB)(w:Jd)(E Q:Value->Shared->Prop),Q (.bool (ltD (.int i) (.int j))) s->wpAny (model prog w) A (richCompare .Lt v u) Q E s:=by
  intro i j A s v u p q r1 r2 prog w E Q h;cases r1;cases r2;refine HT.QoX A s i _ j _ prog w E Q ?_
  have e:ltD (.int i) (.int j)=decide (i<j):=by
   show isL (Qd6 i j)=_;unfold Qd6;by_cases z:i<j
   ·rw[if_pos z,decide_eq_true z];rfl
   ·rw[if_neg z,decide_eq_false z];split<;>rfl
  rw[e] at h;exact h
 induction N with
 |zero=>
  intro x y A s v u p q r1 r2 c1 c2 hk hd hu prog w E Q h;cases x<;>cases y<;>first | (cases hk;done) | skip
  ·exact intz _ _ A s v u p q r1 r2 prog w E Q h
  ·unfold Jw at hd;omega
 |succ N ih=>
  intro x y A s v u p q r1 r2 c1 c2 hk hd hu prog w E Q h;cases x<;>cases y<;>first | (cases hk;done) | skip
  ·exact intz _ _ A s v u p q r1 r2 prog w E Q h
  ·rename_i ds es
   cases r1 with
   |@tuple a o vs n _ _ ho hc hd' ra=>
    cases r2 with
    |@tuple b o2 vs2 n2 _ _ ho2 hc2 hd2 rb=>
     obtain⟨cls,dd,data,sl⟩:=o;obtain⟨cls2,dd2,data2,sl2⟩:=o2;simp only at hc hd' hc2 hd2;subst hc hd' hc2 hd2;have dd3:Q5 ds<=N:=by unfold Jw at hd;omega
     exact Qrw (op:=.Lt) ⟨_,ho,rfl⟩ ⟨_,ho2,rfl⟩ PySem.F.slot_tuple_lt PySem.F.entry_tuple_lt (PySem.F.args_tuple_lt_2 _ _) (Qhp (N:=N) hk c1 c2 dd3 ih)
      ⟨ho,ho2,ra,rb,by omega,show ZA (QxQ ds es)≠Qlf/\Q (.bool (QxQ ds es)) s from⟨(λx=>nomatch x),h⟩⟩ (by omega)
section
variable{prog:QB}{w:Jd}{A:Q1}{E:Value->Shared->Prop}{s:Shared}
end
section
variable{M:Qzu}{A:Q1}{E:Value->Shared->Prop}{s:Shared}
end
theorem QjS:∀{ds:List Qb},QmM ds=true->∀d∈ds,okK d=true
 |x::ds,h,d,hd=>by
  have h:=Jf.mp (show(okK x&&QmM ds)=true from h);rcases Qz.mp hd with z | z
  ·rw[z];exact h.1
  ·exact QjS h.2 d z
theorem QmL:∀{ds:List Qb},(∀d∈ds,okK d=true)->QmM ds=true
 |[],_=>rfl
 |x::ds,h=>by
  show(okK x&&QmM ds)=true;rw[h x (.head _),QmL λd hd=>h d (.tail _ hd)];rfl
section
variable{prog:QB}{w:Jd}{A:Q1}{E:Value->Shared->Prop}{s:Shared}
end
end Rt
namespace Rt
open PySem.Calls PySem.W Dl Rs
section
variable{prog:QB}{w:Jd}{A:Q1}{E:Value->Shared->Prop}{s:Shared}
theorem Qd5{α β:Type}(f:α->β){l m:List β}(p:l.Perm m):∀{T:List α},m=T.map f->∃T':List α,T'.Perm T/\l=T'.map f:=by
 induction p with
 |nil=>intro T e;exact⟨T,ZE _,e⟩
 |@cons x l1 l2 _ ih=>
  intro T e;cases T with
  |nil=>cases e
  |cons t T=>
   rw[QY] at e;injection e with e1 e2
   obtain⟨T',p',e'⟩:=ih e2;exact⟨t::T',p'.cons t,by rw[QY,<- e1,<- e']⟩
 |@swap x y l=>
  intro T e;cases T with
  |nil=>cases e
  |cons t T=>
   cases T with
   |nil=>rw[QY] at e;injection e with e1 e2;cases e2
   |cons t2 T=>
    rw[QY,QY] at e;injection e with e1 e2
    injection e2 with e3 e4
    exact⟨t2::t::T,Qol t t2 T,by rw[QY,QY,<- e1,<- e3,<- e4]⟩
 |@trans l1 l2 l3 _ _ ih1 ih2=>
  intro T e;obtain⟨T2,p2,e2⟩:=ih2 e;obtain⟨T1,p1,e1⟩:=ih1 e2;exact⟨T1,p1.trans p2,e1⟩
end
mutual
theorem QgS:∀(d:Qb),Qi9 d d=true->okK d=true
 |.int _,_=>rfl
 |.tuple ds,h=>Qkj ds h
 |.none,h=>by cases h
 |.bool _,h=>by cases h
 |.str _,h=>by cases h
 |.list _,h=>by cases h
 |.dict _,h=>by cases h
theorem Qkj:∀(ds:List Qb),QcN ds ds=true->QmM ds=true
 |[],_=>rfl
 |d::ds,h=>by
  have h:=Jf.mp (show(Qi9 d d&&QcN ds ds)=true from h);show(okK d&&QmM ds)=true;rw[QgS d h.1,Qkj ds h.2];rfl
end
structure Qbs (ds:List Qb):Prop where
 cmp:∀x∈ds,∀y∈ds,Qi9 x y=true
 dep:∀x∈ds,x.depth<=20
end Rt
namespace L2
open PySem.Calls _root_.Rd _root_.Rk _root_.Rs Rt Dl
section
variable{X:Cx}
end
end L2
namespace Dl
open L2 _root_.Rd Rk Rt
mutual
theorem QmN:∀(d:Qb),okK d=true->nd d=true
 |.int _,_=>rfl
 |.tuple ds,h=>QiV ds h
 |.none,h=>by cases h
 |.bool _,h=>by cases h
 |.str _,h=>by cases h
 |.list _,h=>by cases h
 |.dict _,h=>by cases h
theorem QiV:∀(ds:List Qb),QmM ds=true->nds ds=true
 |[],_=>rfl
 |d::ds,h=>by
  have h:=Jf.mp (show(okK d&&QmM ds)=true from h);show(nd d&&nds ds)=true;rw[QmN d h.1,QiV ds h.2];rfl
end
end Dl
namespace L2
open PySem.Calls _root_.Rd _root_.Rk Rt
section
variable{X:Cx}
def ddI(ns:List Int):List Int:=ns.foldl step_dedup []
theorem Qp8(ns:List Int):firstMet (λi=>ns.getD i 0) ns.length=ddI ns:=by
 unfold firstMet ddI
 congr 1
 apply Ja
 intro i;rw[Qo];by_cases h:i<ns.length
 ·rw[Qr h,Qc h];show some (ns.getD i 0)=_;rw[Qd,Qc h];rfl
 ·rw[Qp (by simpa using h),Qp (by omega)];rfl
def QzX(K:PySem.W.Frag):List V->Hp->VK->Prop:=λxs H Q=>∃(l:Addr)(ns:List Int),xs=[.ref l]/\SqL K H l (ns.map V.int)/\ns.length<=4000 /\
 ∀(t:Addr)(H2:Hp),Same H H2->H t=none->H2 t=some (.set (λk=>(ddI ns).any (· == k)) (ddI ns).length)->Q (.ref t) H2
theorem call_setI(hc:X.calm=true):CallR X (.type "set") (QzX X.K):=by
 intro pins s σ H xs us Q I r h;obtain⟨p,ns,rfl,hp,hn,q⟩:=h;obtain⟨u,rfl,ru⟩:=vals1 r;cases ru;obtain⟨its,rv,pl,hz⟩:=I.list hp;have hi:Y2 its ns:=intsAre_of rv;have hl:=hi.length;refine PySem.call_set_list (items:=its.toArray) (ns:=ns) (I.ok.hd hc) pl.isList (by simpa using hi) (by rw[Qm,hl];unfold scanBound;omega) λh' tk hS hk=>?_
 have ez:its.toArray.size=ns.length:=by rw[Qm];exact hl
 rw[ez,Qp8] at hS;have hf:H s.heap.objs.size=none:=I.hok.fresh (Ql _);refine⟨.ref s.heap.objs.size,upd H s.heap.objs.size (.set (λk=>(ddI ns).any (· == k)) (ddI ns).length),I.laid (t':=tk) (λb x e=>hk b x (Qq e) e) (Ql _) hS,rfl,q _ _ (Jt hf) hf Jj⟩
end
end L2
namespace Dl
open L2 _root_.Rd Rk Rt
section
variable{X:Cx}{E:XK}
theorem bt_set:bootBuiltins "set" = some (.type "set"):=by decide +kernel
end
end Dl
namespace Dl
def isG:Ordering->Bool
 |.gt=>true
 |_=>false
def gtD(x y:PySem.PyData):Bool:=isG (QaM x y)
def Qx9(x y:List PySem.PyData):Bool:=isG (Qab x y)
theorem Qya(x y:PySem.PyData):gtD x y=ltD y x:=by
 unfold gtD ltD;rw[QaY x y];cases QaM x y<;>rfl
end Dl
namespace Rt
open PySem.Calls PySem.W Dl Rs
section
open PySem.SeqAt
open PySem.AutoSeq1 (wpAny_loadPart')
open PySem.MeetsSeq PySem.MeetsSeq2 PySem.MeetsSeq3
theorem Qhq{l b:Addr}{items items2:Array Value}{n n2:Nat}{dd dd2:Option Addr}{sl sl2:Array (Option Value)}{ds es:List Qb}{as bs:List Addr}{N:Nat}(hk:QcN ds es=true)(hc1:Q8 ds=true)(hc2:Q8 es=true)(hd:Q5 ds<=N)
  (ih:∀(x y:Qb)(A:Q1)(s:Shared)(v u:Value)(p q:List Addr),Qew s.heap v x p->Qew s.heap u y q->x.canLay0=true->y.canLay0=true->Qi9 x y=true->x.depth<=N->A.units+2*N+2<cLine->∀(prog:QB)(w:Jd)(E Q:Value->Shared->Prop),Q (.bool (gtD x y)) s->wpAny (model prog w) A (richCompare .Gt v u) Q E s) :
  Meets (YF.«tuple.__gt__» ⟨[.ref l,.ref b],[]⟩)
   (λA R s=>s.heap.get? l=some { cls:=.type "tuple",dict:=dd,data:=.seq items n,slots:=sl }/\s.heap.get? b=some { cls:=.type "tuple",dict:=dd2,data:=.seq items2 n2,slots:=sl2 }/\Qau s.heap items.toList ds as/\Qau s.heap items2.toList es bs/\A.units+2*N+4<cLine /\
    R (.ok (.ret (.bool (Qx9 ds es)))) s):=
 .of_wp λprog w A R s h=>by
  obtain⟨hp,g,d,tk,os⟩:=s;obtain⟨hl,hb,hr1,hr2,hu,h⟩:=h;have f2:=AutoSeq1.sub_tuple_tuple;have hu1:A.in1.units+2*N+2<cLine:=by show A.units+1+2*N+2<cLine;omega
  have z1:items.size=ds.length:=by rw[<- readsAll_len hr1];simp
  have z2:items2.size=es.length:=by rw[<- readsAll_len hr2];simp
  wp_walk using ZZ hl,ZZ hb,Qix _ (λrest b s'=>b.1=none/\s'=⟨hp,g,d,tk,os⟩/\∃(vs ws:List Value)(xs ys:List Qb)(p q:List Addr),rest=vs.zip ws /\
   Qau hp vs xs p/\Qau hp ws ys q/\QcN xs ys=true/\Q8 xs=true/\Q8 ys=true/\Q5 xs<=N/\xs.length+items2.size=ys.length+items.size/\R (.ok (.ret (.bool (Qx9 xs ys)))) ⟨hp,g,d,tk,os⟩) _
  case turn=>
   rintro⟨y,x⟩ rest b s' ⟨hb',rfl,vs,ws,xs,ys,p,q,hz,hvi,hwi,hkk,c1,c2,hdd,hlen,hR⟩;cases hvi with
   |nil=>rw[Qrz] at hz;cases hz
   |@cons v0 vs0 d1 ds1 as1 as2 r1 hvi'=>
    cases hwi with
    |nil=>rw[Qow] at hz;cases hz
    |@cons u0 us0 d2 ds2 bs1 bs2 r2 hwi'=>
     rw[Qbi] at hz;injection hz with hyx hrest
     injection hyx with hy hx
     subst hy hx;have hkk:=Jf.mp (show(Qi9 d1 d2&&QcN ds1 ds2)=true from hkk);simp only[Q8,JK] at c1 c2;have dm1:d1.depth<=N:=QJ (QeY (ds:=d1::ds1) (.head _)) hdd;have dm2:Q5 ds1<=N:=QJ (show Q5 ds1<=max d1.depth (Q5 ds1) from Qf5 _ _) hdd;simp only[Qt] at hlen;have he:=Qfg d1 d2 A.in1 ⟨hp,g,d,tk,os⟩ y x _ _ r1 r2 c1.1 c2.1 (by omega);have hR:R (.ok (.ret (.bool (isG (thn (QaM d1 d2) (Qab ds1 ds2)))))) ⟨hp,g,d,tk,os⟩:=hR;rw[Qj9 d1 d2 hkk.1] at he;have hri:=λE Q=>ih d1 d2 A.in1 ⟨hp,g,d,tk,os⟩ y x _ _ r1 r2 c1.1 c2.1 hkk.1 dm1 hu1 prog w E Q
     unfold gtD at hri;cases e1:QaM d1 d2 with
     |lt=>
      rw[e1] at he hR hri;refine wpAny_bind (he prog w _ _ ?_)
      wp_walk using hri
      exact⟨_,rfl,hR⟩
     |gt=>
      rw[e1] at he hR hri;refine wpAny_bind (he prog w _ _ ?_)
      wp_walk using hri
      exact⟨_,rfl,hR⟩
     |eq=>
      rw[e1] at he hR;refine wpAny_bind (he prog w _ _ ?_)
      wp_walk
      exact⟨rfl,rfl,_,_,_,_,_,_,hrest,hvi',hwi',hkk.2,c1.2,c2.2,dm2,by omega,hR⟩
  case fin=>
   rintro⟨b1,b2⟩ s' ⟨hb',rfl,vs,ws,xs,ys,p,q,hz,hvi,hwi,hkk,c1,c2,hdd,hlen,hR⟩;simp only at hb';subst hb';have hv:Qx9 xs ys=decide (items2.size<items.size):=by
    cases hvi with
    |nil=>
     cases hwi with
     |nil=>
      simp only[Qag] at hlen;exact(decide_eq_false (by omega)).symm
     |cons r2 hw=>
      simp only[Qag,Qt] at hlen;exact(decide_eq_false (by omega)).symm
    |cons r1 hv=>
     cases hwi with
     |nil=>
      simp only[Qag,Qt] at hlen;exact(decide_eq_true (by omega)).symm
     |cons r2 hw=>
      rw[Qbi] at hz;cases hz
   rw[hv] at hR
   wp_walk
   exact⟨_,rfl,by simpa [QcB] using hR⟩
  case h=>
   exact⟨rfl,rfl,items.toList,items2.toList,ds,es,as,bs,rfl,hr1,hr2,hk,hc1,hc2,hd,by omega,h⟩
end
theorem QzV:∀(N:Nat)(x y:Qb)(A:Q1)(s:Shared)(v u:Value)(p q:List Addr),Qew s.heap v x p->Qew s.heap u y q->x.canLay0=true->y.canLay0=true->Qi9 x y=true->x.depth<=N->A.units+2*N+2<cLine->∀(prog:QB)(w:Jd)(E Q:Value->Shared->Prop),Q (.bool (gtD x y)) s->wpAny (model prog w) A (richCompare .Gt v u) Q E s:=by
 intro N;have intz:∀(i j:Int)(A:Q1)(s:Shared)(v u:Value)(p q:List Addr),Qew s.heap v (.int i) p->Qew s.heap u (.int j) q->∀(prog:QB)(w:Jd)(E Q:Value->Shared->Prop),Q (.bool (gtD (.int i) (.int j))) s->wpAny (model prog w) A (richCompare .Gt v u) Q E s:=by
  intro i j A s v u p q r1 r2 prog w E Q h;cases r1;cases r2;refine HT.QoY A s i _ j _ prog w E Q ?_
  have e:gtD (.int i) (.int j)=decide (j<i):=by
   show isG (Qd6 i j)=_;unfold Qd6;by_cases z:i<j
   ·rw[if_pos z,decide_eq_false (by omega)];rfl
   ·rw[if_neg z];by_cases y:i=j
    ·rw[if_pos y,decide_eq_false (by omega)];rfl
    ·rw[if_neg y,decide_eq_true (by omega)];rfl
  rw[e] at h;exact h
 induction N with
 |zero=>
  intro x y A s v u p q r1 r2 c1 c2 hk hd hu prog w E Q h;cases x<;>cases y<;>first | (cases hk;done) | skip
  ·exact intz _ _ A s v u p q r1 r2 prog w E Q h
  ·unfold Jw at hd;omega
 |succ N ih=>
  intro x y A s v u p q r1 r2 c1 c2 hk hd hu prog w E Q h;cases x<;>cases y<;>first | (cases hk;done) | skip
  ·exact intz _ _ A s v u p q r1 r2 prog w E Q h
  ·rename_i ds es
   cases r1 with
   |@tuple a o vs n _ _ ho hc hd' ra=>
    cases r2 with
    |@tuple b o2 vs2 n2 _ _ ho2 hc2 hd2 rb=>
     obtain⟨cls,dd,data,sl⟩:=o;obtain⟨cls2,dd2,data2,sl2⟩:=o2;simp only at hc hd' hc2 hd2;subst hc hd' hc2 hd2;have dd3:Q5 ds<=N:=by unfold Jw at hd;omega
     exact Qrw (op:=.Gt) ⟨_,ho,rfl⟩ ⟨_,ho2,rfl⟩ PySem.F.slot_tuple_gt PySem.F.entry_tuple_gt (PySem.F.args_tuple_gt_2 _ _) (Qhq (N:=N) hk c1 c2 dd3 ih)
      ⟨ho,ho2,ra,rb,by omega,show ZA (Qx9 ds es)≠Qlf/\Q (.bool (Qx9 ds es)) s from⟨(λx=>nomatch x),h⟩⟩ (by omega)
end Rt
namespace L2
open PySem.Calls _root_.Rd _root_.Rk _root_.Rs Rt Dl
section
variable{X:Cx}
def QBj:R2:=λx y H Q=>∃d e,Dat H x d/\Dat H y e/\Dl.Qi9 d e=true/\d.depth<=20/\Q (.bl (Dl.ltD e d)) H
theorem Qxs(hu:X.A.units+60<cLine):OpR X (compareOp .Gt) QBj:=by
 intro pins s σ H x y v u Q I rx ry h;obtain⟨d,e,qx,qy,hk,hd,q⟩:=h;obtain⟨⟨as,ra⟩,ca⟩:=ZU I.hok d x v qx rx;obtain⟨⟨bs,rb⟩,cb⟩:=ZU I.hok e y u qy ry;rw[<- Dl.Qya] at q;exact QzV 20 d e X.A s v u as bs ra rb ca cb hk hd (by omega) _ _ _ _ ⟨.bl _,H,I,rfl,q⟩
end
end L2
namespace Dl
open L2 _root_.Rd Rk Rt
def QCb:Qb->Qb->(Qb->Prop)->Prop:=λd e Q=>(okK d=true/\okK e=true/\Qi9 d e=true/\d.depth<=20)/\Q (.bool (ltD e d))
theorem QxJ:OpD QBj QCb:=λA P H x y d1 d2 R Q ln dm hx hy h k=>by
 obtain⟨⟨h1,h2,h3,h4⟩,hR⟩:=h;exact⟨d1,d2,hx.dat (QmN d1 h1),hy.dat (QmN d2 h2),h3,h4,k _ hR _ H (Same.refl H) (.bl _) YZ⟩
end Dl
namespace Rk
open L2 _root_.Rd Dl
def inW(d:Qb)(a b:Int):Bool:=match d with
 |.int i=>decide (a<=i)&&decide (i<=b)
 |_=>false
theorem QAD{i a b:Int}(h1:a<=i)(h2:i<=b):inW (.int i) a b=true:=by
 show(decide (a<=i)&&decide (i<=b))=true;rw[decide_eq_true h1,decide_eq_true h2];rfl
def QiE:DF:=λargs R _=>∃d a b,args=[.v d,.v (.int a),.v (.int b)]/\R (.bool (inW d a b))
theorem QBp(ns:List Int):(ns.map Qk).length=ns.length:=Qe _
def QiR:DF:=λargs R _=>∃m:Int,args=[.v (.int m)]/\0<=m/\m<=12/\R (.int (Qlo m.toNat))
theorem Y9(ns:List Int):nds (ns.map Qk)=true:=QmU.mpr λd hd=>by
 obtain⟨i,_,rfl⟩:=QQ.mp hd;rfl
theorem Qra(xs:List Qb)(k:Int)(h:0<=k):Dl.cutD xs none (some k)=xs.take k.toNat:=by
 unfold Dl.cutD;obtain⟨j,rfl⟩:∃j:Nat,k=j:=⟨k.toNat,by omega⟩
 rw[HT.QjB,HT.Qti,Qiq,QcZ,Qv];by_cases z:j<=xs.length
 ·rw[Qhk z]
 ·rw[Nat.min_eq_right (by omega),JY,Qcp (by omega)]
end Rk
namespace Rx
open PySem.Calls L2
section
variable{X:Cx}{e:Q3}{st:YO}{rest:List YO}{pos:Pos}{te:TX}{t u:TSX}
end
end Rx
namespace L2
open Dl
end L2
namespace Dl
open L2 _root_.Rd Rk
section
variable{X:Cx}
variable{k:Nat}{f:Addr}{fd:Q0}{ps:List Str}{x:Str}{p pos:Pos}{e:Q3}{es:List Q3}{fD:DF}{wa:DSl}
end
end Dl
namespace Rk
open L2 _root_.Rd Dl Rt
def QzS:List Qb->Bool
 |x::y::r=>ltD x y&&QzS (y::r)
 |_=>true
def ltP2:Qb->Bool
 |.tuple [a,b]=>ltD a b
 |_=>false
def toP:Qb->Int×Int
 |.tuple [.int a,.int b]=>(a,b)
 |_=>(0,0)
theorem QeX(p:Int×Int):(pairD p).depth<=1:=by
 show Q5 [.int p.1,.int p.2]+1<=1;simp[Q5,Jw]
theorem QcM{n:Nat}:∀{ds:List Qb},(∀d∈ds,d.depth<=n)->Q5 ds<=n
 |[],_=>Q9 _
 |d::ds,h=>by
  show max d.depth (Q5 ds)<=n;exact Nat.max_le.mpr ⟨h d (.head _),QcM λd hd=>h d (.tail _ hd)⟩
theorem Qe1:∀(L M:List (Int×Int)),QcN (L.map pairD) (M.map pairD)=true
 |[],[]=>rfl
 |[],_::_=>rfl
 |_::_,[]=>rfl
 |_::L,_::M=>by show(true&&QcN (L.map pairD) (M.map pairD))=true;rw[Qe1 L M];rfl
def plt(p q:Int×Int):Prop:=p.1<q.1∨(p.1=q.1/\p.2<q.2)
instance plt_dec (p q:Int×Int):Decidable (plt p q):=by unfold plt;exact inferInstance
theorem Qh0(p q:Int×Int):QC (pairD p) (pairD q)=decide (p=q):=by
 show((p.1 == q.1)&&((p.2 == q.2)&&true))=_;obtain⟨a,b⟩:=p;obtain⟨c,d⟩:=q;by_cases h1:a=c
 ·by_cases h2:b=d
  ·subst h1 h2;simp
  ·simp[h1,h2]
 ·simp[h1]
theorem Qil(cs:List (Int×Int))(p:Int×Int):((cs.map pairD).any λc=>QC c (pairD p))=decide (p∈cs):=by
 rw[Qzx,JA,QsT,decide_eq_true_iff];constructor
 ·rintro⟨c,hc,h⟩;have:c=p:=of_decide_eq_true (by rw[<- Qh0];exact h);rw[<- this];exact hc
 ·intro h;refine⟨p,h,?_⟩;show QC (pairD p) (pairD p)=true;rw[Qh0];simp
def bdD(h w:Int)(cs:List (Int×Int)):Qb:=.tuple [.int h,.int w,.tuple (cs.map pairD)]
theorem Qlb(ns:List Int):QaS (ns.map Qk)=some ns:=Dl.ints_map ns
def Qcu(r n:Nat)(f:Nat->Nat->Bool):List (Int×Int):=((Qa n).filter (f r)).map λ(c:Nat)=>((r:Int),(c:Int))
def cellsF(h w:Nat)(f:Nat->Nat->Bool):List (Int×Int):=(Qa h).flatMap λr=>Qcu r w f
theorem Yz(h w:Nat)(f:Nat->Nat->Bool):cellsF (h+1) w f=cellsF h w f++Qcu h w f:=by
 unfold cellsF;rw[J6,QaZ];simp
theorem Ql5(r n:Nat)(f:Nat->Nat->Bool):Qcu r (n+1) f=Qcu r n f++(if f r n=true then[((r:Int),(n:Int))] else[]):=by
 unfold Qcu;rw[J6,Qbk,JO]
 congr 1
 by_cases z:f r n=true
 ·rw[if_pos z];simp[z]
 ·rw[if_neg z];simp[z]
theorem QfI{r n:Nat}{f g:Nat->Nat->Bool}(h:∀c,c<n->f r c=g r c):Qcu r n f=Qcu r n g:=by
 unfold Qcu
 congr 1
 exact QbG λc hc=>h c (Qu.mp hc)
theorem YA{h w:Nat}{f g:Nat->Nat->Bool}(q:∀r c,r<h->c<w->f r c=g r c):cellsF h w f=cellsF h w g:=by
 induction h with
 |zero=>rfl
 |succ h ih=>rw[Yz,Yz,ih λr c hr=>q r c (by omega),QfI λc hc=>q h c (by omega) hc]
theorem Qdg{r n:Nat}{f:Nat->Nat->Bool}{p:Int×Int}:p∈Qcu r n f↔∃c:Nat,c<n/\f r c=true/\p=((r:Int),(c:Int)):=by
 unfold Qcu;rw[QQ];constructor
 ·rintro⟨c,hc,rfl⟩;have hc:=QN.mp hc;exact⟨c,Qu.mp hc.1,hc.2,rfl⟩
 ·rintro⟨c,hc,hf,rfl⟩;exact⟨c,QN.mpr ⟨Qu.mpr hc,hf⟩,rfl⟩
theorem Yn{h w:Nat}{f:Nat->Nat->Bool}{p:Int×Int}:p∈cellsF h w f↔∃r c:Nat,r<h/\c<w/\f r c=true/\p=((r:Int),(c:Int)):=by
 unfold cellsF;rw[ZD];constructor
 ·rintro⟨r,hr,hp⟩;obtain⟨c,hc,hf,rfl⟩:=Qdg.mp hp;exact⟨r,c,Qu.mp hr,hc,hf,rfl⟩
 ·rintro⟨r,c,hr,hc,hf,rfl⟩;exact⟨r,Qu.mpr hr,Qdg.mpr ⟨c,hc,hf,rfl⟩⟩
theorem YU{h w:Nat}{f:Nat->Nat->Bool}{p:Int×Int}(q:p∈cellsF h w f):0<=p.1/\p.1<h/\0<=p.2/\p.2<w:=by
 obtain⟨r,c,hr,hc,_,rfl⟩:=Yn.mp q;exact⟨QrD _,by show(r:Int)<h;omega,QrD _,by show(c:Int)<w;omega⟩
theorem QjC(r n:Nat)(f:Nat->Nat->Bool):(Qcu r n f).length<=n:=by
 unfold Qcu;rw[Qe];exact QJ (QcR _ _) (by rw[Qh];exact Ql _)
theorem Qba(w:Nat)(f:Nat->Nat->Bool):∀h,(cellsF h w f).length<=h*w
 |0=>Q9 _
 |h+1=>by
  have:=Qba w f h;have:=QjC h w f;rw[Yz,Qy,Qlt];omega
theorem Qtx(r n:Nat)(f:Nat->Nat->Bool):(Qcu r n f).Pairwise plt:=by
 unfold Qcu;refine Qzz (R:=λa b=>a<b) _ (λa b hab=>.inr ⟨rfl,by show(a:Int)<b;omega⟩) ?_
 exact QbF _ Qcq
theorem pw_cellsF(w:Nat)(f:Nat->Nat->Bool):∀h,(cellsF h w f).Pairwise plt
 |0=>.nil
 |h+1=>by
  rw[Yz];refine Qlx.mpr ⟨pw_cellsF w f h,Qtx h w f,λp hp q hq=>?_⟩;obtain⟨r,c,hr,_,_,rfl⟩:=Yn.mp hp;obtain⟨c',_,_,rfl⟩:=Qdg.mp hq;exact .inl (by show(r:Int)<h;omega)
theorem Qr5{p q:Int×Int}(h:plt p q):p≠q:=λe=>by subst e;rcases h with z | z<;>omega
def Qtj(cs:List (Int×Int))(r:Int):List (Int×Int):=cs.filter λp=>decide (p.1=r)
def QCc(cells L:List (Int×Int)):List (List (Int×Int)):=(cells.filter λc => !decide (c.2∈L.map (·.2))).map λc=>L++[c]
def QzP(cs:List (Int×Int)):Nat->List (List (Int×Int))
 |0=>[[]]
 |i+1=>QzP cs i++(QzP cs i).flatMap (QCc (Qtj cs i))
theorem Qn8(ns:List Int)(i:Int):((ns.map Qk).any λe=>QC e (.int i))=decide (i∈ns):=by
 rw[Qzx,JA,QsT,decide_eq_true_iff];constructor
 ·rintro⟨c,hc,h⟩;have:c=i:=by simpa [QC] using h
  rw[<- this];exact hc
 ·intro h;refine⟨i,h,?_⟩;show(i == i)=true;simp
def toI:Qb->Int
 |.int i=>i
 |_=>0
def QB9(L:List (Int×Int))(p:Int×Int):Bool := !(L.any λq=>(decide (q.2=p.2)&&decide (q.1≥p.1))||(decide (q.1=p.1)&&decide (q.2<p.2)))
theorem Qi5{α β:Type}{g:α->Option β}{p:α->Bool}{k:α->β}:∀{xs:List α},(∀x∈xs,g x=if p x=true then some (k x) else none)->xs.filterMap g=(xs.filter p).map k
 |[],_=>rfl
 |x::xs,h=>by
  have ih:=Qi5 (xs:=xs) λy hy=>h y (.tail _ hy)
  by_cases z:p x=true
  ·rw[List.filterMap_cons_some (by rw[h x (.head _),if_pos z]),ih,Jy z];rfl
  ·rw[List.filterMap_cons_none (by rw[h x (.head _),if_neg z]),ih,Jz z]
@[irreducible] def QpP:List Qb->(Qb->Prop)->Prop:=QuJ
theorem Qre:QbX (λxs H Q=>∃i j,xs=[.int i,.int j]/\Q (.int (if j<i then j else i)) H) QpP:=by unfold QpP;exact QnT
theorem QuI{i j k:Int}{Q:Qb->Prop}(e:(if j<i then j else i)=k)(h:Q (.int k)):QpP [.int i,.int j] Q:=by
 unfold QpP;show Q (.int (if j<i then j else i));rw[e];exact h
theorem QgU{items:List Qb}{wg wg2:DG}{wt wt2:DT}{wi2:DI}{we:DE}{δ:Sts}{Q:Qb->Prop}(G:Qb->List Qb)(k:Nat)(hl:(items.flatMap G).length<=k)
  (h:∀d∈items,∀(acc:List Qb)(N:List Qb->Prop),acc.length+(G d).length<=k->N (acc++G d)->wg d δ λδ4=>wt δ4 (λb=>if b=true then wi2 δ4 (λitems2=>InR items2 wg2 wt2 we δ4 acc N) XF else N acc) XF)(q:Q (.list (items.flatMap G))) :
  Qko items wg wt wi2 wg2 wt2 we δ Q:=by
 unfold Qko;refine⟨λi acc=>acc=(items.take i).flatMap G,by simp,λi acc d hd e=>?_,λacc e=>by rw[e,JY];exact q⟩;have e:acc=(items.take i).flatMap G:=e;have hs:(items.take (i+1)).flatMap G=(items.take i).flatMap G++G d:=by
  rw[Zs,hd,QaZ];simp
 refine h d (Jo hd) acc _ ?_ (by show acc++G d=_;rw[hs,e])
 have h1:(items.flatMap G).length=((items.take (i+1)).flatMap G).length+((items.drop (i+1)).flatMap G).length:=by
  rw[<- Qy,<- QaZ,Qaw]
 rw[hs,<- e,Qy] at h1;omega
end Rk
namespace Rv
theorem Qwj:isSubtype (.type "range_iterator") (.type "reversed")=pure false:=by rw[Qcl];kernel_rfl
section
variable{prog:QB}{w:Jd}{A:Q1}{E:Value->Shared->Prop}{s:Shared}
def QhC(a b:Int):Obj:={ cls:=.type "range_iterator",data:=.fields #[rawInt (a+(Jk a b 1 - 1)*1),rawInt (Jk a b 1),rawInt (-1)] }
theorem Qla{r:Addr}{j:Int}{t u v:Tok}{Q:Value->Shared->Prop}(hr:Qfk s.heap r 0 j 1 t u v)(h0 : -1000<=j)(h1:j<=1000)
  (h:Q (.ref s.heap.objs.size) { s with heap:=s.heap.push (QhC 0 j) }):wpAny (model prog w) A (call (.builtin "range.__reversed__") [.ref r]) Q E s:=by
 refine Ze QdB ⟨_,hr,rfl⟩ F.entry_range_reversed ?_ (F.args_range_reversed_1 _)
 unfold YF.«range.__reversed__»;refine wpAny_bind (Zy (a:=Zn r) rfl ?_);refine wpAny_bind ?_
 unfold QzG;refine wpAny_bind (Y1 hr rfl (x:=.int 0 t) rfl ?_);refine wpAny_bind (Zy (a:=some 0) rfl ?_);refine wpAny_bind (Y1 hr rfl (x:=.int j u) rfl ?_);refine wpAny_bind (Zy (a:=some j) rfl ?_);refine wpAny_bind (Y1 hr rfl (x:=.int 1 v) rfl ?_);refine wpAny_bind (Zy (a:=some 1) rfl ?_);refine Qj ?_
 dsimp only
 have hz:Jk 0 j 1=if 0<j then j else 0:=by rw[QcU];split<;>omega
 have fit:∀x:Int,-2000<=x->x<=2000->JC x=true:=λx a b=>by
  unfold JC;simp only[JK,decide_eq_true_eq];omega
 have hs:(JC 0&&JC j&&JC 1&&JC (-1)&&JC (0 - 1)&&JC (Jk 0 j 1))=true:=by
  rw[fit 0 (by decide) (by decide),fit j (by omega) (by omega),fit 1 (by decide) (by decide),fit (-1) (by decide) (by decide),fit (0 - 1) (by decide) (by decide),fit _ (by rw[hz];split<;>omega) (by rw[hz];split<;>omega)];rfl
 rw[hs,if_neg (by decide),if_pos rfl];exact wpAny_bind (Jc (Qj ⟨_,rfl,h⟩))
theorem Qrk{r:Addr}{j:Int}{t u v:Tok}{Q:Value->Shared->Prop}(hr:Qfk s.heap r 0 j 1 t u v)(h0 : -1000<=j)(h1:j<=1000)
  (h:Q (.ref s.heap.objs.size) { s with heap:=s.heap.push (QhC 0 j) }):codeAny (model prog w) A (.call (.builtin "reversed.__new__") ⟨[.type "reversed",.ref r],[]⟩) (wants Q E) s:=by
 have hT:s.TypeIs (.ref r) "range" := ⟨_,hr,rfl⟩;refine Qea ?_
 show wpAny _ A.in1 (do checkBuiltinCall "reversed.__new__" ⟨[.type "reversed",.ref r],[]⟩;again (.builtin "reversed.__new__" ⟨[.type "reversed",.ref r],[]⟩)) _ _ s;refine wpAny_bind (Zy (F.newCall_reversed_1 _) (Qj ⟨Yb QrF _,Zc F.entry_reversed_new ?_⟩));rw[JH QrF _];unfold YF.«reversed.__new__»;refine wpAny_bind (Zy (newClass_reversed _) ?_)
 dsimp only
 refine wpAny_bind (Zy (a:=()) (by first | rfl | kernel_rfl) ?_);refine wpAny_bind (Zy (a:=()) (by first | rfl | kernel_rfl) ?_)
 try dsimp only
 refine wpAny_bind (wpAny_specialOf hT QdB.lookup ?_)
 try dsimp only
 refine wpAny_bind (Zy (QdB.bind _) ?_)
 try dsimp only
 first
 |rw[if_neg (show ¬((QiA "range.__reversed__" == Js)=true) from QD)]
 |(show wpAny _ _ (if(QiA "range.__reversed__" == Js)=true then _ else _) _ _ _;rw[if_neg (show ¬((QiA "range.__reversed__" == Js)=true) from QD)])
 refine wpAny_bind (wpAny_rule ?_);refine wpAny_bind (m:=runValue (.call (.builtin "range.__reversed__") ⟨[.ref r],[]⟩)) (show wpAny _ _ (call (.builtin "range.__reversed__") [.ref r]) _ _ _ from Qla hr h0 h1 ?_)
 first
 |exact Qj h
 |exact wpAny_bind (Qj (Qj h))
theorem QnX{r:Addr}{j:Int}{t u v:Tok}{Q:Value->Shared->Prop}(hr:Qfk s.heap r 0 j 1 t u v)(h0 : -1000<=j)(h1:j<=1000)
  (h:Q (.ref s.heap.objs.size) { s with heap:=s.heap.push (QhC 0 j) }):wpAny (model prog w) A (call (.type "reversed") [.ref r]) Q E s:=by
 refine callType_other (U := "range_iterator") (Q₁:=λobj s₁=>obj=.ref s.heap.objs.size/\s₁={ s with heap:=s.heap.push (QhC 0 j) }) (by decide +kernel) F.create_reversed ⟨_,_,F.mro_reversed⟩ F.made_reversed Qwj (F.typeCall_reversed_1 _) (Qrk hr h0 h1 ⟨rfl,rfl⟩) ?_
 rintro obj s₁ ⟨rfl,rfl⟩;exact⟨⟨_,Qs _ rfl,rfl⟩,h⟩
end
end Rv
namespace L2
def Itv(n:Nat):It:=⟨λi _=>i<n,λi H x H'=>H'=H/\x=.int ((n:Int) - 1 - i),λi _=>n<=i⟩
theorem QlO{P:QB}{w:Jd}{K:PySem.W.Frag}{tg:Q3}(it:Addr)(n:Nat):Turn P w K tg (Itv n) [it] it (λi h=>Qku h it ((n:Int) - 1+(i:Nat)*(-1)) ((n:Int) - (i:Nat)) (-1)) where
 mem:=by simp
 obj:=λi h st b hb=>by
  have e:b=it:=by simpa using hb
  subst e;exact⟨_,st,λv z=>by
   have z':Data.fields _=Data.cell v:=z;cases z'⟩
 keep:=λi h h' st k=>k it (by simp) _ st
 item:=by
  intro X hP hw hK hc i pins s σ H E I hf st hg;subst hP hw hK;obtain⟨f0,f1,f2,f3,f4,f5⟩:=hf it (by simp);have W:=Qzi (prog:=X.prog) (w:=X.w) (I.ok.hd hc) it ((n:Int) - 1) (-1) n;refine W.item i s _ _ hg st λv h' tk hv st' kk=>?_
  obtain⟨t,rfl⟩:=hv;have I1:Inv X pins σ H { s with heap:=h',toks:=tk }:=I.turned (λb o hb e=>kk b o (by simpa using hb) e) f0 f1 f3 f4 f5;refine⟨_,rfl,Qp4 (s:={ s with heap:=h',toks:=tk }) (n := "range_iterator") st' rfl rfl (by decide) ⟨.int ((n:Int) - 1 - i),H,I1,⟨t,?_⟩,⟨rfl,rfl⟩,st',λb hb=>(hf b hb).1⟩⟩;rw[show(n:Int) - 1+(i:Int)*(-1)=(n:Int) - 1 - i by omega]
 done:=by
  intro X hP hw hK hc i pins s σ H E I hf st hg;subst hP hw hK;obtain⟨f0,f1,f2,f3,f4,f5⟩:=hf it (by simp);exact Qrs (I.ok.hd hc) st (by have:n<=i:=hg;omega) λh' eb=>⟨rfl,I.turned (t':=s.toks) (λb o hb e=>eb b o hb e) f0 f1 f3 f4 f5⟩
 self:=λ_ _ _ _ _ st h=>Qdz st h
def QAH(ta:TA):TI:=λσ H R=>ta σ H λvs H1=>∃(r:Addr)(j:Int),vs=[.ref r]/\H1 r=some (.rng 0 j) /\ -1000<=j/\j<=1000/\R (Itv j.toNat) H1
section
variable{X:Cx}{tg:Q3}
theorem QtH{a:Q3}{ta:TA}{p pos:Pos}(hg:Gl X "reversed")(hm:X.mg "reversed" = none)(ha:PA X [a] ta)(hs:starEach [a] X.env=[(false,eval a X.env)]:=by rfl):PI X tg (.Call (.Name "reversed" p) [a] [] pos) (QAH ta):=by
 intro pins s σ H R I h;refine Call_ (Qdi I hg hm boot_reversed (Zb (thn (ha pos pins s σ H _ I h) λus s1 ⟨vs,H1,I1,r1,q1⟩=>?_) hs rfl));obtain⟨r,j,e,hr,q1,q2,q⟩:=q1;subst e;obtain⟨u,rfl,ru⟩:=vals1 r1;cases(show u=Zn r from ru);obtain⟨t1,t2,t3,e⟩:=I1.hok r _ hr;refine Rv.QnX (show Qfk s1.heap r 0 j 1 t1 t2 t3 from e) q1 q2 ?_
 have hz:Jk 0 j 1=((j.toNat:Nat):Int):=by rw[QcU];split<;>omega
 have it0:Qku (s1.heap.push (Rv.QhC 0 j)) s1.heap.objs.size (((j.toNat:Nat):Int) - 1+((0:Nat):Int)*(-1)) (((j.toNat:Nat):Int) - ((0:Nat):Int)) (-1):=by
  have:=Qs (h:=s1.heap) (o:=Rv.QhC 0 j) rfl;unfold Rv.QhC at this;rw[hz,show(0:Int)+(((j.toNat:Nat):Int) - 1)*1=((j.toNat:Nat):Int) - 1+((0:Nat):Int)*(-1) by omega] at this;rw[show((j.toNat:Nat):Int) - ((0:Nat):Int)=((j.toNat:Nat):Int) by omega];unfold Rv.QhC;rw[hz,show(0:Int)+(((j.toNat:Nat):Int) - 1)*1=((j.toNat:Nat):Int) - 1+((0:Nat):Int)*(-1) by omega];exact this
 refine Qdz it0 ?_
 refine⟨s1.heap.objs.size,[s1.heap.objs.size],_,_,H1,rfl,I1.kept (t':=s1.toks) λb o e=>Qi _ e,QlO _ j.toNat,it0,λb hb=>?_,q⟩;have e:b=s1.heap.objs.size:=by simpa using hb
 subst e;exact I1.fpOk (Ql _) (I1.hok.fresh (Ql _))
end
section
variable{X:Cx}
def QjE:V->List V->Hp->VK->Prop:=λx vs H Q=>∃l xs y,x=.ref l/\vs=[.int 0,y]/\H l=some (.lst xs)/\xs.length<sizeLine/\Q .non (upd H l (.lst (y::xs)))
theorem QkT:MtM X "list.insert" QjE:=by
 intro pins s σ H x vs v us Q I rx rv h;obtain⟨l,xs,y,rfl,rfl,hH,hz,q⟩:=h;cases rx;cases rv with
 |cons r0 rv=>
  obtain⟨u,rfl,ru⟩:=Vals.one rv;obtain⟨t,rfl⟩:=r0;obtain⟨z,its,n,r,hl,e⟩:=I.lstM hH;refine QaK F.slot_list_insert ⟨_,e,rfl⟩ F.entry_list_insert (F.args_list_insert_3 _ _ _) (AutoSeq1.list_insert_list_int_val_1 l its.toArray n 0 t u (by decide) (by rw[Qm];omega)) ⟨e,?_⟩;refine⟨.non,_,I.lset (its':=u::its) hH e (by simp) (.cons ru r) ?_,rfl,q⟩;rw[Qt];omega
end
end L2
namespace Dl
open L2 _root_.Rd Rk
section
variable{X:Cx}{E:XK}{st:YO}{i:Nat}{we:DE}
def Qtk(n:Nat):List Qb:=(Qa n).map λ(i:Nat)=>.int ((n:Int) - 1 - i)
theorem Qgq(n:Nat):(Qtk n).length=n:=by unfold Qtk;rw[Qe,Qh]
theorem QjD{n i:Nat}{d:Qb}(h:(Qtk n)[i]? = some d):i<n/\d=.int ((n:Int) - 1 - i):=by
 unfold Qtk at h;rw[Qo] at h;by_cases z:i<n
 ·rw[Qr z] at h;exact⟨z,(QK h).symm⟩
 ·rw[Qp (by rw[Qh];omega)] at h;cases h
def QAQ(w:DE):DI:=λδ Q EX=>w δ (λd=>match d with
 |.int j=>(-1000<=j/\j<=1000)/\Q (Qtk j.toNat)
 |_=>False) EX
theorem QAB{A S:Addr->Prop}{n:Nat}{H1:Hp}(h:n<=sizeLine):ItD A S (Itv n) (Qtk n) H1:=by
 refine⟨by rw[Qgq];exact h,λH2 A' _ _ _=>⟨λi d hd=>?_,?_⟩⟩
 ·obtain⟨hi,rfl⟩:=QjD hd;refine⟨hi,λx H3 hy=>?_⟩;obtain⟨rfl,rfl⟩:=hy;exact⟨Same.refl _,.int _⟩
 ·show n<=(Qtk n).length;rw[Qgq];exact Ql _
theorem Qtv{m:Md}{tg e:Q3}{w:DE}{p p2 pos pos2:Pos}(hg:Gl X "reversed")(hm:X.mg "reversed" = none)(hg2:Gl X "range")(hm2:X.mg "range" = none)(h:QE .P X E e w)(hs:notStar e=true:=by rfl):QI m X E tg (.Call (.Name "reversed" p) [.Call (.Name "range" p2) [e] [] pos2] [] pos) (QAQ w):=⟨by
 refine PI.imp (QtH hg hm (QdO (Qep hg2 hm2 (QdO h.h Zv hs) (by rw[Z7 hs];rfl)) Zv)) λσ H R _ ⟨F,δ,R',EX,rel,hw,k,o⟩=>?_
 refine⟨F,δ,_,EX,rel,hw,λd hd v H' rel' kp vk=>?_,o⟩;cases d<;>first | exact(show False from hd).elim | skip
 obtain⟨⟨h1,h2⟩,hR⟩:=hd;rw[DP.int vk];exact⟨_,rfl,λr H2 s2 n2 e2=>⟨r,_,rfl,e2,h1,h2,k _ hR _ H2 (rel'.same s2) (kp.trans (Kp.same rel' s2)) (QAB (J4 (Rk.Qar (by omega))))⟩⟩⟩
def QAO(i:Nat)(we:DE):DS:=λD δ=>match δ[i]? with
 |some (.own ds)=>we δ (λd=>ds.length<1000000/\D.nx (δ.set i (.own (d::ds)))) D.ex
 |_=>False
theorem QtY(h:PS X st (QoH (tBM X.K "list" QjE (QiG i) (Qc2 (tX .D X.K E (dC (.int 0))) (Qc2 (tX .D X.K E we) Qom))))):PS X st (tS X.K E (QAO i we)):=by
 refine PS.imp h λD σ H ⟨F,δ,DD,rel,hw,en⟩=>?_
 unfold QAO at hw;split at hw
 ·rename_i ds hd
  obtain⟨x,hx⟩:=rel.lt hd;obtain⟨l,xs,rfl,e,q,f⟩:=rel.sl i _ _ hx hd;have np:=rel.own_pot hd hx;refine⟨.ref l,hx,.inl ⟨rfl,_,SqL.of e⟩,F,δ,(λd=>d=.int 0),DD.ex,rel,rfl,λd hd0 v0 H0 rel0 kp0 vk0=>?_,en.ex⟩;subst hd0;cases vk0;refine⟨F,δ,_,DD.ex,rel0,hw,λd ⟨hl,hn⟩ v H' rel' kp vk=>?_,en.ex⟩;have kk:=kp0.trans kp;have q':=kk.das q;refine⟨l,xs,v,rfl,rfl,kk.1 _ _ np e,QP (by rw[q.length];exact hl) QhR,?_⟩;obtain⟨r2,st⟩:=rel'.mut hd hx (.cons vk q');exact en.nx.go _ hn _ _ r2 ((Stp.kp kk).trans st)
 ·exact hw.elim
theorem QwG{y:Str}{e e0:Q3}{we:DE}{apos cpos pos npos:Pos}(i:Nat)(h0:QE .D X E e0 (dC (.int 0)))(he:QE .D X E e we)(hN:X.N[i]? = some y:=by rfl)(hv:Vis X.env.scope y:=by first | exact Q6 rfl | exact Q4 (Q6 rfl) | exact Q4 (Q4 rfl))(hd:(y == ("__debug__" : Str))=false:=by decide)(hcd:(y == ("__classdict__" : Str))=false:=by decide)(hs0:notStar e0=true:=by rfl)(hst:notStar e=true:=by rfl)(hbase:attributeBase (.Name y npos) "insert" X.env (eval (.Name y npos) X.env)=eval (.Name y npos) X.env:=by rfl)(hfew:((backTo cpos (starEach [e0,e] X.env)).all (λx => !x.1)&&(backToKw cpos (keywordEach [] X.env)).all (λx=>x.1.isSome)&&decide ([e0,e].length+([]:List QaL).length+(if([]:List QaL).isEmpty then 0 else 1)<30))=true:=by rfl)(hline:(apos.endLine == cpos.line)=true:=by rfl)(hsw:swapsWith (.Call (.Attribute (.Name y npos) "insert" apos) [e0,e] [] cpos) none pos.line X.env=pure false:=by rfl):QS X E (.Expr (.Call (.Attribute (.Name y npos) "insert" apos) [e0,e] [] cpos) pos) (QAO i we):=⟨QtY (QiO (Qmm PySem.F.plainAttrs_list PySem.F.slot_list_insert PySem.F.type_list_insert QkT (pv i hN hv hd hcd) (QdO h0.h (QdO he.h Zv hst) hs0) hbase hfew hline (Z7 hs0) (by rw[Z7 hst];rfl)) hsw)⟩
end
end Dl
namespace Rk
open L2 _root_.Rd Dl Rt
def QoJ(B:Nat->Nat->Int)(t:Nat):List Nat->Nat->Int
 |[],_=>0
 |c::cs,k=>(if t.testBit c=true then 0 else B (t ||| 2^c) k)+QoJ B t cs k
theorem QeB(B:Nat->Nat->Int)(t c k:Nat):∀cs:List Nat,QoJ B t (cs++[c]) k=QoJ B t cs k+(if t.testBit c=true then 0 else B (t ||| 2^c) k)
 |[]=>by show _+0=0+_;omega
 |d::cs=>by
  show _+QoJ B t (cs++[c]) k=_+QoJ B t cs k+_;rw[QeB B t c k cs];omega
def Qeo(h:Nat)(F:Nat->Int):List Qb:=(Qa (h+1)).map λ(k:Nat)=>.int (F k)
def QkB(h w:Nat)(B:Nat->Nat->Int):List Qb:=(Qa (2^w)).map λ(t:Nat)=>.list (Qeo h (B t))
def Qgf(B:Nat->Nat->Int)(cols:List Nat)(t k:Nat):Int:=B t k+if k=0 then 0 else QoJ B t cols (k - 1)
def Qrc(cs:List (Int×Int))(r:Nat):List Nat:=(Qtj cs r).map λp=>p.2.toNat
def Wc(cs:List (Int×Int))(h:Nat):Nat->Nat->Nat->Int
 |0,_,k=>if k=0 then 1 else 0
 |i+1,t,k=>Qgf (Wc cs h i) (Qrc cs (h - 1 - i)) t k
def QrK(cs:List (Int×Int))(h w:Nat):Nat->List Qb
 |0=>[.list (QkB h w (Wc cs h 0))]
 |i+1=>.list (QkB h w (Wc cs h (i+1)))::QrK cs h w i
def YW(ns:List Nat):List Qb:=ns.map λ(c:Nat)=>.int (c:Int)
def Qk3(cs:List (Int×Int))(h w:Nat):List Qb:=(Qa (min h w+1)).map λ(k:Nat)=>.int (Wc cs h h 0 k)
def QuE:DF:=λargs R _=>∃(h w:Nat)(cs:List (Int×Int)),args=[.v (bdD h w cs)]/\R (.int ((min h w:Nat):Int))
def QsZ:DF:=λargs R _=>∃(h w:Nat)(B:Nat->Nat->Int)(cols:List Nat)(t:Nat),args=[.v (.list (QkB h w B)),.v (.list (YW cols)),.v (.int t)]/\t<2^w/\(∀c∈cols,c<w)/\h<=6/\w<=6/\R (.list (Qeo h (Qgf B cols t)))
def Qs0:DF:=λargs R _=>∃(h w:Nat)(cs:List (Int×Int)),args=[.v (bdD h w cs)]/\h<=6/\w<=6/\(∀p∈cs,0<=p.2/\p.2<w)/\R (.list (QrK cs h w h))
def QgP:DF:=λargs R _=>∃(h w:Nat)(cs:List (Int×Int)),args=[.v (bdD h w cs)]/\h<=6/\w<=6/\(∀p∈cs,0<=p.2/\p.2<w)/\R (.list (Qk3 cs h w))
theorem QdL{h k:Nat}{F:Nat->Int}(hk:k<=h):(Qeo h F)[k]? = some (.int (F k)):=by
 unfold Qeo;rw[Qo,Qr (by omega)];rfl
theorem Qb5(h:Nat)(F:Nat->Int):(Qeo h F).length=h+1:=by unfold Qeo;rw[Qe,Qh]
theorem QiF{h w t:Nat}{B:Nat->Nat->Int}(ht:t<2^w):(QkB h w B)[t]? = some (.list (Qeo h (B t))):=by
 unfold QkB;rw[Qo,Qr ht];rfl
theorem Qa3{h:Nat}{F G:Nat->Int}(e:∀k,k<=h->F k=G k):Qeo h F=Qeo h G:=by
 unfold Qeo;refine QH λk hk=>?_
 rw[e k (by have:=Qu.mp hk;omega)]
theorem QoT{h j:Nat}{F:Nat->Int}{v:Int}(hj:j<=h):(Qeo h F).set j (.int v)=Qeo h (λk=>if k=j then v else F k):=by
 apply Ja
 intro k;rw[Qfa];by_cases z:j=k
 ·subst z;rw[if_pos rfl,if_pos (by rw[Qb5];omega),QdL hj,if_pos rfl]
 ·rw[if_neg z];by_cases z2:k<=h
  ·rw[QdL z2,QdL z2,if_neg (λe=>z e.symm)]
  ·rw[Qp (by rw[Qb5];omega),Qp (by rw[Qb5];omega)]
theorem cut_last(xs:List Qb):Dl.cutD xs none (some (-1))=xs.take (xs.length - 1):=by
 unfold Dl.cutD;rw[HT.QjB,Qiq,QcZ]
 congr 1
 have e:HT.sIx xs.length xs.length (some (-1))=((-1:Int)+(xs.length:Int)).toNat:=by unfold HT.sIx;dsimp only;rw[if_pos (by decide)]
 rw[e];omega
theorem Qvt:∀t:Fin 64,∀c:Fin 6,Zp ((t:Nat):Int) (1*2^((c:Nat):Int).toNat)=if(t:Nat).testBit c=true then 2^(c:Nat) else 0:=by decide +kernel
theorem QyF:∀t:Fin 64,∀c:Fin 6,QdC ((t:Nat):Int) (1*2^((c:Nat):Int).toNat)=(((t:Nat) ||| 2^(c:Nat):Nat):Int):=by decide +kernel
theorem QAk{t c w:Nat}(ht:t<2^w)(hc:c<w):t ||| 2^c<2^w:=Nat.or_lt_two_pow ht (Nat.pow_lt_pow_right (by decide) hc)
theorem QoV(h:Nat)(F:Nat->Int):Dl.cutD (Qeo h F) none (some (-1))=(Qa h).map λ(k:Nat)=>Qk (F k):=by
 rw[cut_last,Qb5];unfold Qeo;rw[<- Qei,YJ,Qhb,Qhk (Qcm h)]
theorem Qn9{t c w:Nat}(ht:t<2^w)(hc:c<w)(w6:w<=6):Zp (t:Int) (1*2^((c:Nat):Int).toNat)=if t.testBit c=true then 2^c else 0:=by
 have h64:2^w<=2^6:=QaN (by decide) w6;exact Qvt ⟨t,by have e:2^6=64:=rfl;omega⟩ ⟨c,by omega⟩
theorem Qxj{t c w:Nat}(ht:t<2^w)(hc:c<w)(w6:w<=6):QdC (t:Int) (1*2^((c:Nat):Int).toNat)=((t ||| 2^c:Nat):Int):=by
 have h64:2^w<=2^6:=QaN (by decide) w6;exact QyF ⟨t,by have e:2^6=64:=rfl;omega⟩ ⟨c,by omega⟩
theorem QgA(w:Nat):(1*2^((w:Nat):Int).toNat:Int)=((2^w:Nat):Int):=by
 rw[Int.one_mul,Qv];simp
theorem Qyw(cs:List (Int×Int))(r:Nat)(hb:∀p∈cs,0<=p.2):(cs.map pairD).filterMap (λd=>if(toP d).1=(r:Int) then some (.int (toP d).2) else none)=YW (Qrc cs r):=by
 unfold YW Qrc Qtj;rw[ZB,QV];refine Qi5 (p:=λp:Int×Int=>decide (p.1=(r:Int))) λp hp=>?_
 show(if p.1=(r:Int) then some (Qk p.2) else none)=if decide (p.1=(r:Int))=true then some (Qk ((p.2.toNat:Nat):Int)) else none
 rw[show((p.2.toNat:Nat):Int)=p.2 by have:=hb p hp;omega];by_cases z:p.1=(r:Int)
 ·rw[if_pos z,if_pos (decide_eq_true z)]
 ·rw[if_neg z,if_neg (by simpa using z)]
theorem Qvh{cs:List (Int×Int)}{w r c:Nat}(hb:∀p∈cs,0<=p.2/\p.2<w)(h:c∈Qrc cs r):c<w:=by
 unfold Qrc Qtj at h;obtain⟨p,hp,rfl⟩:=QQ.mp h;have:=hb p (QN.mp hp).1;omega
theorem Qjv(cs:List (Int×Int))(h w:Nat):∀i,(QrK cs h w i).length=i+1
 |0=>rfl
 |i+1=>by show(QrK cs h w i).length+1=_;rw[Qjv cs h w i]
theorem QlR(cs:List (Int×Int))(h w:Nat):∀i,(QrK cs h w i)[0]? = some (.list (QkB h w (Wc cs h i)))
 |0=>rfl
 |_+1=>rfl
theorem QoU(cs:List (Int×Int))(h t:Nat):Qeo h (Wc cs h 0 t)=Qk 1::QZ h (.int 0):=by
 apply Ja
 intro k;cases k with
 |zero=>rw[QdL (Q9 _)];rfl
 |succ k=>
  by_cases z:k+1<=h
  ·rw[QdL z,ZM,ZL,if_pos (by omega)];rfl
  ·rw[Qp (by rw[Qb5];omega),ZM,ZL,if_neg (by omega)]
theorem Qtm(h:Nat):(QZ h [Qk 0]).flatten=QZ h (.int 0):=by
 induction h with
 |zero=>rfl
 |succ h ih=>rw[JU,ZN,ih];rfl
theorem Qr4{w:Nat}(h:w<=6) : -1000000<=(1*2^((w:Nat):Int).toNat:Int)/\(1*2^((w:Nat):Int).toNat:Int)<=1000000:=by
 have p64:2^w<=64:=QaN (n:=2) (by decide) h;rw[QgA];generalize 2^w=x at p64;omega
def sumZ{α:Type}(f:α->Int):List α->Int
 |[]=>0
 |x::xs=>f x+sumZ f xs
theorem Z6{α:Type}{f g:α->Int}:∀{a:List α},(∀x∈a,f x=g x)->sumZ f a=sumZ g a
 |[],_=>rfl
 |x::a,h=>by show f x+_=g x+_;rw[h x (.head _),Z6 λy hy=>h y (.tail _ hy)]
theorem Qem{α:Type}(f g:α->Int):∀a:List α,sumZ (λx=>f x+g x) a=sumZ f a+sumZ g a
 |[]=>rfl
 |x::a=>by show(f x+g x)+sumZ _ a=f x+sumZ f a+(g x+sumZ g a);rw[Qem f g a];omega
theorem QaC{α:Type}(f:α->Int)(p:α->Bool):∀a:List α,sumZ f (a.filter p)=sumZ (λx=>if p x=true then f x else 0) a
 |[]=>rfl
 |x::a=>by
  by_cases z:p x=true
  ·rw[Jy z];show f x+_=(if p x=true then f x else 0)+_;rw[if_pos z,QaC f p a]
  ·rw[Jz z];show _=(if p x=true then f x else 0)+_;rw[if_neg z,QaC f p a,YR]
theorem sumZ_zero{α:Type}:∀a:List α,sumZ (λ_=>0) a=0
 |[]=>rfl
 |x::a=>by show 0+sumZ _ a=0;rw[sumZ_zero a];rfl
theorem Qht{α:Type}(B:Nat->Nat->Int)(t k:Nat)(g:α->Nat):∀a:List α,QoJ B t (a.map g) k=sumZ (λx=>if t.testBit (g x)=true then 0 else B (t ||| 2^g x) k) a
 |[]=>rfl
 |x::a=>by show _+QoJ B t (a.map g) k=_+_;rw[Qht B t k g a]
end Rk
namespace L2
section
variable{X:Cx}
end
end L2
namespace Dl
open L2 _root_.Rd Rk
end Dl
namespace Rk
open L2 _root_.Rd Dl Rt
def wo(cs:List (Int×Int))(c:Int×Int):List (Int×Int):=cs.filter λp => !decide (p=c)
theorem QfU{α β:Type}{f g:α->List β}:∀{xs:List α},(∀x∈xs,f x=g x)->xs.flatMap f=xs.flatMap g
 |[],_=>rfl
 |x::xs,h=>by rw[ZO,ZO,h x (.head _),QfU λy hy=>h y (.tail _ hy)]
def Bds(h w:Nat)(cs:List (Int×Int)):Prop:=h<=6/\w<=6/\∀p∈cs,0<=p.1/\p.1<h/\0<=p.2/\p.2<w
theorem Bds.wo{h w:Nat}{cs:List (Int×Int)}(b:Bds h w cs)(c:Int×Int):Bds h w (wo cs c):=⟨b.1,b.2.1,λp hp=>b.2.2 p (QN.mp hp).1⟩
theorem Bds.col{h w:Nat}{cs:List (Int×Int)}(b:Bds h w cs):∀p∈cs,0<=p.2/\p.2<(w:Int):=λp hp=>(b.2.2 p hp).2.2
theorem Qkh(p q:Int×Int):QaM (pairD p) (pairD q)=if plt p q then .lt else if p=q then .eq else .gt:=by
 obtain⟨a,b⟩:=p;obtain⟨c,d⟩:=q;show thn (Qd6 a c) (thn (Qd6 b d) .eq)=_;unfold Qd6;by_cases h1:a<c
 ·rw[if_pos h1,if_pos (show plt (a,b) (c,d) from Q6 h1)];rfl
 ·rw[if_neg h1];by_cases h2:a=c
  ·subst h2;rw[if_pos rfl];by_cases h3:b<d
   ·rw[if_pos h3,if_pos (show plt (a,b) (a,d) from Q4 ⟨rfl,h3⟩)];rfl
   ·have hn:¬plt (a,b) (a,d):=λz=>by
     have z:a<a∨(a=a/\b<d):=z;omega
    rw[if_neg h3,if_neg hn];by_cases h4:b=d
    ·subst h4;rw[if_pos rfl,if_pos rfl];rfl
    ·rw[if_neg h4,if_neg (λe=>h4 (J8 e).2)];rfl
  ·have hn:¬plt (a,b) (c,d):=λz=>by
    have z:a<c∨(a=c/\b<d):=z;omega
   rw[if_neg h2,if_neg hn,if_neg (λe=>h2 (J8 e).1)];rfl
end Rk
namespace Dl
open L2 _root_.Rd Rk
section
variable{X:Cx}{E:XK}{st:YO}{we:DE}
end
end Dl
namespace Rk
open L2 _root_.Rd Dl Rt
structure GB (h w:Nat) (cs:List (Int×Int)):Prop where
 bds:Bds h w cs
 srt:cs.Pairwise plt
 few:(QzP cs h).length<=200000
theorem GB.r0{h w:Nat}{cs:List (Int×Int)}(g:GB h w cs):∀p∈cs,0<=p.1:=λp hp=>(g.bds.2.2 p hp).1
end Rk
namespace L2
section
variable{X:Cx}
end
end L2
namespace Dl
open L2 _root_.Rd Rk Rt
end Dl
namespace Rk
open L2 _root_.Rd Dl Rt
theorem Qvj(p:Nat->Bool)(h:Nat):(Qa (h+1)).countP p=(Qa h).countP p+if p h=true then 1 else 0:=by
 rw[J6,YC,List.countP_singleton]
theorem QeA(g:Nat->Nat)(p:Nat->Bool):∀xs:List Nat,(xs.map λc=>g c+if p c=true then 1 else 0).sum=(xs.map g).sum+xs.countP p
 |[]=>rfl
 |x::xs=>by
  rw[QY,Z4,QeA g p xs,QY,Z4,Yx];omega
theorem QeQ(w:Nat)(f:Nat->Nat->Bool):∀h,(cellsF h w f).length=((Qa w).map λc=>(Qa h).countP λr=>f r c).sum
 |0=>by
  show 0=_;have:((Qa w).map λc=>(Qa 0).countP λr=>f r c)=QZ w 0:=by
   rw[show(λc=>(Qa 0).countP λr=>f r c)=λ_=>0 from rfl,List.map_const',Qh]
  rw[this];simp
 |h+1=>by
  rw[Yz,Qy,QeQ w f h];have:((Qa w).map λc=>(Qa (h+1)).countP λr=>f r c)=(Qa w).map λc=>((Qa h).countP λr=>f r c)+if f h c=true then 1 else 0:=QH λc _=>Qvj (λr=>f r c) h
  rw[this,QeA]
  congr 1
  unfold Qcu;rw[Qe,JD]
def wt(cs L:List (Int×Int)):Nat:=(cs.filter (QB9 L)).length
end Rk
namespace L2
open _root_.Rd
section
variable{X:Cx}
theorem QnQ{h:Heap}{d:Qb}:∀{vs:List Value}{ds:List Qb}{as:List Addr},Qau h vs ds as->Q8 ds=true->vs.countP (eqH h d)=ds.countP λe=>QC e d
 |_,_,_,.nil,_=>rfl
 |_,_,_,.cons r rs,c=>by
  simp only[Q8,JK] at c;rw[Yx,Yx,QnA r c.1,QnQ rs c.2]
def QBm(u:Nat):V->List V->Hp->VK->Prop:=λx vs H Q=>∃l ps ds y d,x=.ref l/\vs=[y]/\H l=some (.lst ps)/\Dats H ps ds/\Dat H y d/\u+d.depth<cLine/\Q (.int (ds.countP λe=>QC e d:Nat)) H
theorem mt_count:MtR X "list.count" (QBm X.A.in1.units):=by
 intro pins s σ H x vs v us Q I rx rv h;obtain⟨l,ps,ds,y,d,rfl,rfl,hH,qs,qy,hu,q⟩:=h;cases rx;obtain⟨u,rfl,ru⟩:=rv.one;obtain⟨⟨as,ra⟩,ca⟩:=ZU I.hok d y u qy ru;obtain⟨z,its,n,r,hl',e⟩:=I.lstM hH;obtain⟨⟨bs,rb⟩,cb⟩:=Y0 I.hok ds ps its qs r;refine QaK Qv4 ⟨_,e,rfl⟩ QvO (QsU _ _) (Qog l its.toArray n _ _ u (eqH s.heap d)) ⟨e,λy hy=>QdQ ra ca rb cb hu y (Yv.mp hy),?_⟩;rw[show its.toArray.toList=its from rfl,QnQ rb cb];exact⟨.int _,H,I.kept λ_ _ e=>e,⟨_,rfl⟩,q⟩
end
end L2
namespace Dl
open L2 _root_.Rd Rk Rt
section
variable{X:Cx}{E:XK}
def QBC(rD:List Qb->Qb->(Qb->Prop)->Prop)(wa wb:DE):DE:=λδ Q EX=>wa δ (λd1=>match d1 with
 |.list ds=>wb δ (λd2=>rD ds d2 Q) EX
 |_=>False) EX
def QBP(r:V->List V->Hp->VK->Prop)(rD:List Qb->Qb->(Qb->Prop)->Prop):Prop:=∀(A P:Addr->Prop)(H:Hp)(l:Addr)(y:V)(ds:List Qb)(d2:Qb)(R:Qb->Prop)(Q:VK),DP A P H (.ref l) (.list ds)->DP A P H y d2->rD ds d2 R->(∀i:Int,R (.int i)->Q (.int i) H)->r (.ref l) [y] H Q
theorem QpM{r:V->List V->Hp->VK->Prop}{rD:List Qb->Qb->(Qb->Prop)->Prop}{wa wb:DE}{K:PySem.W.Frag}(hd:QBP r rD)(σ:L2.St)(H:Hp)(Q:VK)(h:tX .F K E (QBC rD wa wb) σ H Q):tBM K "list" r (tX .P K E wa) (Qc2 (tX .P K E wb) Qom) σ H Q:=by
 obtain⟨F,δ,R,EX,rel,hw,k,o⟩:=h;refine⟨F,δ,_,EX,rel,hw,λd1 h1 x H1 rel1 kp1 x1=>?_,o⟩;cases d1<;>first | exact(show False from h1).elim | skip
 rename_i ds
 obtain⟨l,xs,rfl,e,q⟩:=DP.list x1;refine⟨.inl ⟨rfl,xs,SqL.of e⟩,F,δ,_,EX,rel1,h1,λd2 h2 y H2 rel2 kp2 y2=>?_,o⟩;refine hd (Av F σ δ) (Yu σ δ) H2 l y ds d2 R Q (kp2.dp x1) y2 h2 λi hR=>?_
 exact k _ hR _ H2 rel2 (kp1.trans kp2) ⟨.int i,λl e1 e2=>nomatch e1⟩
def Qyy(ds:List Qb)(d:Qb)(Q:Qb->Prop):Prop:=(nds ds=true/\nd d=true/\d.depth<=50)/\Q (.int (ds.countP λe=>QC e d:Nat))
theorem QxO{u:Nat}(hu:u+60<cLine):QBP (QBm u) Qyy:=λA P H l y ds d2 R Q hx hy h k=>by
 obtain⟨⟨n1,n2,n3⟩,hR⟩:=h;obtain⟨l',xs,e0,e,q⟩:=DP.list hx;cases e0;exact⟨l,xs,ds,y,d2,rfl,rfl,e,Qal _ _ n1 q,hy.dat n2,by omega,k _ hR⟩
theorem Qz4{o e:Q3}{wo we:DE}{apos cpos:Pos}(hu:X.A.in1.units+60<cLine)(ho:QE .P X E o wo)(he:QE .P X E e we)(hst:notStar e=true:=by rfl)(hbase:attributeBase o "count" X.env (eval o X.env)=eval o X.env:=by rfl)(hfew:((backTo cpos (starEach [e] X.env)).all (λx => !x.1)&&(backToKw cpos (keywordEach [] X.env)).all (λx=>x.1.isSome)&&decide ([e].length+([]:List QaL).length+(if([]:List QaL).isEmpty then 0 else 1)<30))=true:=by rfl)(hline:(apos.endLine == cpos.line)=true:=by rfl):QE .F X E (.Call (.Attribute o "count" apos) [e] [] cpos) (QBC Qyy wo we):=
 ⟨PE.imp (Qmm PySem.F.plainAttrs_list PySem.F.slot_list_count PySem.F.type_list_count mt_count ho.h (QdO he.h Zv hst) hbase hfew hline (Z7 hst) rfl) (QpM (QxO hu))⟩
end
end Dl
namespace Rk
open L2 _root_.Rd Dl Rt
def wo1(C:List Nat)(c:Nat):List Nat:=C.filter λd => !decide (d=c)
def Pf(f:Nat->Nat->Bool):List Nat->List Nat->Nat->Int
 |[],_,k=>if k=0 then 1 else 0
 |r::R,C,k=>Pf f R C k+(if k=0 then 0 else sumZ (λc=>Pf f R (wo1 C c) (k - 1)) (C.filter (f r)))
theorem Qi0{C:List Nat}{c d:Nat}:d∈wo1 C c↔d∈C/\d≠c:=by
 unfold wo1;rw[QN,Qfc,decide_eq_false_iff_not]
theorem Qsf{C:List Nat}(h:C.Nodup)(c:Nat):(wo1 C c).Nodup:=QbF _ h
theorem Qv6{C:List Nat}{c:Nat}(h:c∉C):wo1 C c=C:=by
 unfold wo1;rw[Qa0];intro d hd;rw[decide_eq_false (λe=>h (by rw[<- e];exact hd))];rfl
theorem Qm2:∀{C:List Nat}{c:Nat},C.Nodup->c∈C->(wo1 C c).length+1=C.length
 |d::C,c,nd,hc=>by
  have nd:=JL.mp nd;by_cases z:d=c
  ·subst z;have e:wo1 (d::C) d=wo1 C d:=by unfold wo1;rw[Jz (by simp)]
   rw[e,Qv6 nd.1];rfl
  ·have e:wo1 (d::C) c=d::wo1 C c:=by unfold wo1;rw[Jy (by simp[z])]
   have hc:c∈C:=by
    rcases Qz.mp hc with y | y
    ·exact absurd y.symm z
    ·exact y
   rw[e,Qt,Qm2 nd.2 hc];rfl
theorem Qhs{α β:Type}(g:α->β->Int):∀(C:List α)(D:List β),sumZ (λc=>sumZ (g c) D) C=sumZ (λd=>sumZ (λc=>g c d) C) D
 |[],D=>(sumZ_zero D).symm
 |c::C,D=>by
  show sumZ (g c) D+sumZ _ C=sumZ (λd=>g c d+sumZ (λc=>g c d) C) D;rw[Qhs g C D,Qem]
theorem Qta{α:Type}(F:α->Int)(p q:α->Bool)(a:List α):sumZ F ((a.filter p).filter q)=sumZ (λx=>if p x=true then(if q x=true then F x else 0) else 0) a:=by
 rw[QaC F q,QaC _ p]
theorem Qg4(f:Nat->Nat->Bool):∀(R C:List Nat),Pf f R C 0=1
 |[],_=>rfl
 |r::R,C=>by
  show Pf f R C 0+0=1;rw[Qg4 f R C];rfl
theorem Qjo(f:Nat->Nat->Bool):∀(R C:List Nat)(k:Nat),C.Nodup->C.length<k->Pf f R C k=0
 |[],_,k,_,h=>by
  show(if k=0 then(1:Int) else 0)=0;rw[if_neg (by omega)]
 |r::R,C,k,nd,h=>by
  show Pf f R C k+(if k=0 then 0 else _)=0;rw[Qjo f R C k nd h,if_neg (by omega),Z6 (g:=λ_=>0) λc hc=>?_,sumZ_zero]
  ·rfl
  ·have:=Qm2 nd (QN.mp hc).1;exact Qjo f R _ (k - 1) (Qsf nd c) (by omega)
def QjU(f:Nat->Nat->Bool):Nat->Nat->Bool:=λr c => !f r c
def QkL(h:Nat):Nat->List Nat
 |0=>[]
 |i+1=>(h - 1 - i)::QkL h i
def QgQ(w t:Nat):List Nat:=(Qa w).filter λc => !t.testBit c
theorem Qrb(w t c:Nat):QgQ w (t ||| 2^c)=wo1 (QgQ w t) c:=by
 unfold QgQ wo1;rw[List.filter_filter];refine QbG λd _=>?_
 rw[QyS,Qov,Bool.not_or,Bool.and_comm]
 congr 1
 rw[show decide (c=d)=decide (d=c) from decide_eq_decide.mpr ⟨λe=>e.symm,λe=>e.symm⟩]
theorem Qk2(w:Nat):QgQ w 0=Qa w:=by
 unfold QgQ;rw[Qa0];intro c _;simp
theorem QrT(w:Nat)(f:Nat->Nat->Bool){r:Nat}:∀h,r<h->Qtj (cellsF h w f) r=Qcu r w f
 |h+1,hr=>by
  unfold Qtj;rw[Yz,Qbk];have no:∀(q:Nat)(L:List (Int×Int)),(∀p∈L,p.1≠(r:Int))->L.filter (λp=>decide (p.1=(r:Int)))=[]:=λq L hL=>by
   rw[List.filter_eq_nil_iff];intro p hp;rw[decide_eq_false (hL p hp)];exact QD
  by_cases z:r<h
  ·have ih:=QrT w f h z;unfold Qtj at ih;rw[ih,no 0 _ λp hp=>?_,Yj];obtain⟨c,_,_,rfl⟩:=Qdg.mp hp;show(h:Int)≠r;omega
  ·have e:r=h:=by omega
   subst e;rw[no 0 (cellsF r w f) λp hp=>?_,QvJ,Qa0.mpr λp hp=>?_]
   ·obtain⟨c,_,_,rfl⟩:=Qdg.mp hp;exact decide_eq_true rfl
   ·have:=(YU hp).2.1;omega
theorem Qyx{h w r:Nat}(f:Nat->Nat->Bool)(hr:r<h):Qrc (cellsF h w f) r=(Qa w).filter (f r):=by
 unfold Qrc;rw[QrT w f h hr];unfold Qcu;rw[QV]
 conv=>rhs;rw[<- Qb2 ((Qa w).filter (f r))]
 exact QH λc _=>by show((c:Int)).toNat=c;omega
theorem QAX{h w:Nat}(f:Nat->Nat->Bool):∀(i t k:Nat),i<=h->Wc (cellsF h w f) h i t k=Pf f (QkL h i) (QgQ w t) k
 |0,t,k,_=>rfl
 |i+1,t,k,hi=>by
  show Wc (cellsF h w f) h i t k+(if k=0 then 0 else QoJ (Wc (cellsF h w f) h i) t (Qrc (cellsF h w f) (h - 1 - i)) (k - 1))=Pf f (QkL h i) (QgQ w t) k+(if k=0 then 0 else sumZ (λc=>Pf f (QkL h i) (wo1 (QgQ w t) c) (k - 1)) ((QgQ w t).filter (f (h - 1 - i))));rw[QAX f i t k (by omega)]
  congr 1
  by_cases z:k=0
  ·rw[if_pos z,if_pos z]
  ·rw[if_neg z,if_neg z,Qyx f (by omega)];have e:=Qht (Wc (cellsF h w f) h i) t (k - 1) (λc:Nat=>c) ((Qa w).filter (f (h - 1 - i)));rw[List.map_id'] at e;rw[e,QaC];show _=sumZ _ (((Qa w).filter λc => !t.testBit c).filter (f (h - 1 - i)));rw[Qta];refine Z6 λc _=>?_
   cases hb:t.testBit c with
   |true=>simp
   |false=>
    rw[if_neg QD,if_pos (show(!false)=true from rfl),QAX f i (t ||| 2^c) (k - 1) (by omega),Qrb]
theorem Qg3{h w:Nat}(f:Nat->Nat->Bool)(k:Nat):Wc (cellsF h w f) h h 0 k=Pf f (QkL h h) (Qa w) k:=by
 rw[QAX f h 0 k (Ql _),Qk2]
def oth(n:Nat)(o:List Nat):List Nat:=(Qa n).filter λx => !decide (x∈o)
def ordsN(n:Nat):Nat->List (List Nat)
 |0=>[[]]
 |i+1=>(ordsN n i).flatMap λo=>(oth n o).map λx=>o++[x]
theorem JZ{n:Nat}:∀{i:Nat}{o:List Nat},o∈ordsN n i->o.length=i
 |0,o,h=>by rw[Ji.mp h];rfl
 |i+1,o,h=>by
  obtain⟨p,hp,ho⟩:=ZD.mp h;obtain⟨x,_,rfl⟩:=QQ.mp ho;rw[Qy,JZ hp];rfl
theorem Quf(n:Nat)(o:List Nat):(oth n o).length<=n:=by
 unfold oth;exact QJ (QcR _ _) (by rw[Qh];exact Ql _)
theorem Qnv{α β:Type}(g:α->List β)(n:Nat):∀xs:List α,(∀x∈xs,(g x).length<=n)->(xs.flatMap g).length<=xs.length*n
 |[],_=>by simp
 |x::xs,h=>by
  rw[ZO,Qy,Qt,Qlt];have:=Qnv g n xs λy hy=>h y (.tail _ hy)
  have:=h x (.head _);omega
theorem QjP{n:Nat}(h6:n<=6):∀i,i<=6->(ordsN n i).length<=50000
 |i,hi=>by
  have q:∀i,(ordsN n i).length<=n^i:=λi=>by
   induction i with
   |zero=>exact Ql _
   |succ i ih=>
    refine QJ (Qnv _ n _ λo _=>by rw[Qe];exact Quf n o) ?_
    rw[Qlv];exact Nat.mul_le_mul_right _ ih
  have a:=q i;have b:n^i<=6^i:=Nat.pow_le_pow_left h6 i;have c:6^i<=6^6:=QaN (by decide) hi;have e:(6:Nat)^6=46656:=rfl;omega
def tNn(o:List Nat):Qb:=.tuple (YW o)
def QAj:DF:=λargs R _=>∃(n:Nat)(o:List Nat),args=[.v (.int n),.v (tNn o)]/\n<=6/\R (.list (YW (oth n o)))
def Qmz:DF:=λargs R _=>∃n:Nat,args=[.v (.int n)]/\n<=6/\R (.list ((ordsN n n).map tNn))
def Ql6:DF:=λargs R _=>∃(h w:Nat)(f:Nat->Nat->Bool),args=[.v (bdD h w (cellsF h w f))]/\h<=6/\w<=6/\R (bdD h w (cellsF h w (QjU f)))
def QAw:DF:=λargs R _=>∃h w:Nat,args=[.pot,.v (.int h),.v (.int w)]/\h<=6/\w<=6/\∀f:Nat->Nat->Bool,R (bdD h w (cellsF h w f))
theorem QcH{n:Nat}:∀{i:Nat}{o:List Nat},o∈ordsN n i->∀x∈o,x<n
 |0,o,h,x,hx=>by rw[Ji.mp h] at hx;cases hx
 |i+1,o,h,x,hx=>by
  obtain⟨p,hp,ho⟩:=ZD.mp h;obtain⟨y,hy,rfl⟩:=QQ.mp ho;rcases Yh.mp hx with z | z
  ·exact QcH hp x z
  ·rw[Ji.mp z];exact Qu.mp (QN.mp hy).1
theorem Qp9(ns:List Int):QC (.list (ns.map Qk)) (.list (ns.map Qk))=true:=by
 show QdZ (ns.map Qk) (ns.map Qk)=true;induction ns with
 |nil=>rfl
 |cons x ns ih=>
  show(QC (.int x) (.int x)&&QdZ (ns.map Qk) (ns.map Qk))=true;rw[ih,Bool.and_true];show decide (x=x)=true;exact decide_eq_true rfl
theorem Qcd(ns:List Int):(YG (ns.map Qk)).depth<=50:=by
 have:∀ns:List Int,Q5 (ns.map Qk)<=1:=λns=>by
  induction ns with
  |nil=>decide
  |cons x ns ih=>
   show max (Jw (.int x)) (Q5 (ns.map Qk))<=1;have:Jw (.int x)<=1:=by unfold Jw;decide
   omega
 have:=this ns;unfold Jw;omega
end Rk
namespace HT
section
open PySem.SeqAt
open PySem.AutoSeq1 (wpAny_loadPart')
open PySem.MeetsSeq PySem.MeetsSeq2 PySem.MeetsSeq3
end
section
variable{prog:QB}{w:Jd}{A:Q1}{E:Value->Shared->Prop}{s:Shared}
end
end HT
namespace L2
end L2
namespace Rk
open L2 _root_.Rd Dl Rt
theorem Qh2{A:Addr->Prop}{H:Hp}(dm:∀a,A a->∃xs,H a=some (.lst xs)):∀{ys:List V}{M:List (Int×Int)},Dats H ys (M.map pairD)->DAs A H ys (M.map pairD)
 |[],[],_=>.nil
 |y::ys,p::M,.cons q qs=>by
  refine .cons ?_ (Qh2 dm qs)
  cases q with
  |tup e q2=>
   refine .tup (λz=>?_) e ?_
   ·obtain⟨xs,e2⟩:=dm _ z;rw[e] at e2;cases e2
   ·cases q2 with
    |cons a b=>
     cases b with
     |cons b c=>cases c;cases a;cases b;exact .cons (.int _) (.cons (.int _) .nil)
@[irreducible] def sortPD:List Qb->(Qb->Prop)->Prop:=λds Q=>∃L:List (Int×Int),ds=[.list (L.map pairD)]/\L.Nodup/\L.length<64/\(∀p∈L,0<=p.2/\p.2<64)/\∀M:List (Int×Int),M.Perm L->M.Pairwise plt->Q (.list (M.map pairD))
theorem sortP_of{L:List (Int×Int)}{Q:Qb->Prop}(h1:L.Nodup)(h2:L.length<64)(h3:∀p∈L,0<=p.2/\p.2<64)(k:∀M:List (Int×Int),M.Perm L->M.Pairwise plt->Q (.list (M.map pairD))):sortPD [.list (L.map pairD)] Q:=by
 unfold sortPD;exact⟨L,rfl,h1,h2,h3,k⟩
theorem cd_sortP:QbX Ql9 sortPD:=λA P H vs ds R Q ln dm q h k=>by
 unfold sortPD at h;obtain⟨L,rfl,h1,h2,h3,hR⟩:=h;obtain⟨v,rfl,hv⟩:=pd1 q;obtain⟨l,xs,rfl,e,qq⟩:=hv.list;refine⟨l,xs,L,rfl,e,Qal _ _ (QbT L) qq,h1,h2,h3,λt ys M H2 s n e2 dts pm pw=>?_⟩;have dm2:∀a,A a->∃xs,H2 a=some (.lst xs):=λa z=>by obtain⟨xs,e⟩:=dm a z;exact⟨xs,s _ _ e⟩
 have pl:M.Pairwise plt:=by
  have hb:∀p∈M,0<=p.2/\p.2<64:=λp hp=>h3 p (pm.mem_iff.mp hp)
  refine Qek (λ{a b} ha hb' hc=>?_) pw;have:=hb a ha;have:=hb b hb';have hc:64*a.1+a.2<64*b.1+b.2:=hc;show a.1<b.1∨(a.1=b.1/\a.2<b.2);omega
 refine k _ (hR M pm pl) _ H2 s (.lst (λz=>?_) e2 (Qh2 dm2 dts)) (Qae n);obtain⟨xs,e⟩:=dm t z;rw[n] at e;cases e
end Rk
namespace Dl
open L2 _root_.Rd Rk Rt
end Dl
namespace Rk
open L2 _root_.Rd Dl Rt
def tF(f:Nat->Nat->Bool):Nat->Nat->Bool:=λr c=>f c r
theorem QlF{c:Nat}{C:List Nat}(h:c∉C):wo1 (c::C) c=C:=by
 have e:wo1 (c::C) c=wo1 C c:=by unfold wo1;rw[Jz (by simp)]
 rw[e,Qv6 h]
theorem QlG{c d:Nat}{C:List Nat}(h:c≠d):wo1 (c::C) d=c::wo1 C d:=by
 unfold wo1;rw[Jy (by simp[h])]
theorem Qv7{c d:Nat}{C:List Nat}(h:c∉C):c∉wo1 C d:=λz=>h (Qi0.mp z).1
theorem Qoe(f:Nat->Nat->Bool):∀(R:List Nat)(c:Nat)(C:List Nat)(k:Nat),R.Nodup->c∉C->Pf f R (c::C) k=Pf f R C k+(if k=0 then 0 else sumZ (λr=>Pf f (wo1 R r) C (k - 1)) (R.filter λr=>f r c))
 |[],c,C,k,_,_=>by
  show(if k=0 then(1:Int) else 0)=(if k=0 then 1 else 0)+(if k=0 then 0 else 0);split<;>rfl
 |r::R,c,C,k,nd,hc=>by
  have nd:=JL.mp nd;by_cases zk:k=0
  ·subst zk;rw[Qg4,Qg4];rfl
  ·obtain⟨k,rfl⟩:∃j,k=j+1:=⟨k - 1,by omega⟩
   show Pf f R (c::C) (k+1)+(if k+1=0 then 0 else sumZ (λd=>Pf f R (wo1 (c::C) d) (k+1 - 1)) ((c::C).filter (f r)))=Pf f R C (k+1)+(if k+1=0 then 0 else sumZ (λd=>Pf f R (wo1 C d) (k+1 - 1)) (C.filter (f r)))+(if k+1=0 then 0 else sumZ (λq=>Pf f (wo1 (r::R) q) C (k+1 - 1)) ((r::R).filter λq=>f q c));rw[if_neg zk,if_neg zk,if_neg zk,YJ,Qoe f R c C (k+1) nd.2 hc,if_neg zk,YJ];have a1:sumZ (λd=>Pf f R (wo1 (c::C) d) k) ((c::C).filter (f r))=(if f r c=true then Pf f R C k else 0)+sumZ (λd=>Pf f R (wo1 C d) k+(if k=0 then 0 else sumZ (λq=>Pf f (wo1 R q) (wo1 C d) (k - 1)) (R.filter λq=>f q c))) (C.filter (f r)):=by
    have tl:sumZ (λd=>Pf f R (wo1 (c::C) d) k) (C.filter (f r))=sumZ (λd=>Pf f R (wo1 C d) k+(if k=0 then 0 else sumZ (λq=>Pf f (wo1 R q) (wo1 C d) (k - 1)) (R.filter λq=>f q c))) (C.filter (f r)):=Z6 λd hd=>by
     have hd:=(QN.mp hd).1;rw[QlG (λe=>hc (by rw[e];exact hd)),Qoe f R c (wo1 C d) k nd.2 (Qv7 hc)]
    by_cases z:f r c=true
    ·rw[Jy z,if_pos z,<- tl];show Pf f R (wo1 (c::C) c) k+_=_;rw[QlF hc]
    ·rw[Jz z,if_neg z,YR,tl]
   have a2:sumZ (λq=>Pf f (wo1 (r::R) q) C k) ((r::R).filter λq=>f q c)=(if f r c=true then Pf f R C k else 0)+sumZ (λq=>Pf f (wo1 R q) C k+(if k=0 then 0 else sumZ (λd=>Pf f (wo1 R q) (wo1 C d) (k - 1)) (C.filter (f r)))) (R.filter λq=>f q c):=by
    have tl:sumZ (λq=>Pf f (wo1 (r::R) q) C k) (R.filter λq=>f q c)=sumZ (λq=>Pf f (wo1 R q) C k+(if k=0 then 0 else sumZ (λd=>Pf f (wo1 R q) (wo1 C d) (k - 1)) (C.filter (f r)))) (R.filter λq=>f q c):=Z6 λq hq=>by
     have hq:=(QN.mp hq).1;rw[QlG (λe=>nd.1 (by rw[e];exact hq))];rfl
    by_cases z:f r c=true
    ·rw[Jy (p:=λq=>f q c) z,if_pos z,<- tl];show Pf f (wo1 (r::R) r) C k+_=_;rw[QlF nd.1]
    ·rw[Jz (p:=λq=>f q c) z,if_neg z,YR,tl]
   rw[a1,a2,Qem,Qem];have sw:sumZ (λd=>if k=0 then 0 else sumZ (λq=>Pf f (wo1 R q) (wo1 C d) (k - 1)) (R.filter λq=>f q c)) (C.filter (f r))=sumZ (λq=>if k=0 then 0 else sumZ (λd=>Pf f (wo1 R q) (wo1 C d) (k - 1)) (C.filter (f r))) (R.filter λq=>f q c):=by
    by_cases z:k=0
    ·rw[Z6 (g:=λ_=>0) λ_ _=>if_pos z,sumZ_zero,Z6 (g:=λ_=>0) λ_ _=>if_pos z,sumZ_zero]
    ·rw[Z6 λd _=>if_neg z,Qhs];exact(Z6 λq _=>if_neg z).symm
   rw[sw];omega
theorem Qe7(f:Nat->Nat->Bool):∀(C R:List Nat)(k:Nat),C.Nodup->R.Nodup->Pf f R C k=Pf (tF f) C R k
 |[],R,k,_,_=>by
  show _=if k=0 then(1:Int) else 0
  by_cases z:k=0
  ·subst z;rw[Qg4];rfl
  ·rw[if_neg z,Qjo f R [] k .nil (by show 0<k;omega)]
 |c::C,R,k,nC,nR=>by
  have nC:=JL.mp nC;rw[Qoe f R c C k nR nC.1,Qe7 f C R k nC.2 nR];show _=Pf (tF f) C R k+(if k=0 then 0 else sumZ (λd=>Pf (tF f) C (wo1 R d) (k - 1)) (R.filter (tF f c)))
  congr 1
  by_cases z:k=0
  ·rw[if_pos z,if_pos z]
  ·rw[if_neg z,if_neg z];exact Z6 λr _=>Qe7 f C (wo1 R r) (k - 1) nC.2 (Qsf nR r)
theorem Qgp:∀n:Fin 7,QkL n n=Qa n:=by decide +kernel
def iN(o:List Nat):List Int:=o.map λ(x:Nat)=>(x:Int)
theorem Zh{n:Nat}{o:List Nat}(h:o∈ordsN n n):o.Perm (Qa n):=by
 have nd:∀{i:Nat}{o:List Nat},o∈ordsN n i->o.Nodup:=λ{i}=>by
  induction i with
  |zero=>intro o h;rw[Ji.mp h];exact .nil
  |succ i ih=>
   intro o h;obtain⟨p,hp,ho⟩:=ZD.mp h;obtain⟨x,hx,rfl⟩:=QQ.mp ho;refine Yg.mpr ⟨ih hp,by simp,λa ha b hb e=>?_⟩;rw[Ji.mp hb] at e;have:=(QN.mp hx).2;rw[Qfc,decide_eq_false_iff_not] at this;exact this (by rw[<- e];exact ha)
 have p1:o.Perm ((Qa n).filter λx=>decide (x∈o)):=(Qbd (nd h) (QbF _ Jl)).mpr λx=>by
  rw[QN,Qu];exact⟨λhx=>⟨QcH h x hx,decide_eq_true hx⟩,λhx=>of_decide_eq_true hx.2⟩
 have l1:=p1.length_eq;have l2:=List.length_eq_countP_add_countP (λx=>decide (x∈o)) (l:=Qa n);rw[Qh,JD,<- l1,JZ h] at l2;have l3:(Qa n).countP (λx=>decide (¬decide (x∈o)=true))=0:=by omega
 have al:(Qa n).filter (λx=>decide (x∈o))=Qa n:=Qa0.mpr λx hx=>by
  have:=Qa1.mp l3 x hx
  simpa using this
 rw[al] at p1;exact p1
theorem Qrm(o:List Nat):QaS (YW o)=some (iN o):=by
 have:YW o=(iN o).map Qk:=by unfold YW iN;rw[QV];rfl
 rw[this];exact Qlb _
end Rk
namespace Rm
open AutoSeq1 (wpAny_loadPart')
open MeetsSeq
theorem QdE{M:Qzu}{A:Q1}{E:Value->Shared->Prop}{s:Shared}{β:Type}(f:Nat->β->Sem (ForInStep β))(I:List Nat->β->Shared->Prop)(Q:β->Shared->Prop)
  (turn:∀x rest b s,I (x::rest) b s->wpAny M A (f x b) (λr s'=>match r with | .yield b'=>I rest b' s' | .done b'=>Q b' s') E s)
  (fin:∀b s,I [] b s->Q b s)(xs:Std.Legacy.Range)(b:β)(h:I (Yr xs.start xs.size xs.step) b s):wpAny M A (forIn xs b f) Q E s:=by
 rw[QvE];exact Qix f I Q turn fin _ b h
theorem Qgb(l:Addr)(items:Array Value)(n:Nat)(dd:Option Addr)(sl:Array (Option Value))(x:Value)(e:Value->Bool)(he:∀y,y∈items->EqGives y x (e y))(j:Nat)(hj:j<items.size)
  (hit:e items[j]=true)(hno:∀m (hm:m<items.size),m<j->e items[m]=false) :
  Meets (YF.«tuple.index» ⟨[.ref l,x],[]⟩)
   (λ_ R s=>s.heap.get? l=some { cls:=.type "tuple",dict:=dd,data:=.seq items n,slots:=sl }/\R (.ok (.ret (.int j s.toks))) { s with toks:=s.toks+1 }):=
 .of_wp λprog w A R s h=>by
  obtain⟨hp,g,d,tk,os⟩:=s;obtain⟨hl,h⟩:=h
  wp_walk using ZZ hl,QdE _ (λrest b s'=>b.1=none/\s'=⟨hp,g,d,tk,os⟩/\∃i,i<=j/\rest=Yr i (items.size - i)) _
  case turn=>
   rintro i rest b s' ⟨hb,rfl,i',hi,er⟩;obtain⟨k,hk⟩:∃k,items.size - i'=k+1:=⟨items.size - i' - 1,by omega⟩
   rw[hk,QsP] at er;injection er with e1 e2
   subst e1;have hlt:i<items.size:=by omega
   rw[show items[i]? = some items[i] from Zu hlt];refine wpAny_bind (he _ (Array.getElem_mem hlt) prog w _ _ _ _ ?_);by_cases z:i=j
   ·subst z;rw[hit]
    wp_walk
    exact⟨_,rfl,h⟩
   ·rw[hno i hlt (by omega)]
    wp_walk
    exact⟨rfl,rfl,i+1,by omega,by rw[e2,show items.size - (i+1)=k by omega]⟩
  case fin=>
   rintro b s' ⟨hb,rfl,i',hi,er⟩;have:=congrArg Qoj er;rw[Qej] at this;simp at this;omega
  case h=>
   refine⟨rfl,rfl,0,Q9 _,?_⟩;show Yr 0 ((min items.size items.size - 0+1 - 1) / 1) 1=_;rw[Nat.min_self];simp
end Rm
namespace L2
open _root_.Rd
theorem QeU:∀{vs:List Value}{ns:List Int},Y2 vs ns->∀(m:Nat)(v:Value),vs[m]? = some v->∃n t,ns[m]? = some n/\v=.int n t
 |_,_,.nil,m,v,h=>by simp at h
 |_,_,.cons n t h,0,v,e=>by simp at e;subst e;exact⟨n,t,rfl,rfl⟩
 |_,_,.cons n t h,m+1,v,e=>QeU h m v (by simpa using e)
theorem QhW{vs:List Value}{ns:List Int}{k:Int}(h:Y2 vs ns)(m:Nat)(hm:m<vs.length):isInt k vs[m]=decide (ns[m]? = some k):=by
 obtain⟨n,t,e1,e2⟩:=QeU h m vs[m] (Qc hm);rw[e2,e1];show(n == k)=_;rw[JA];simp
theorem Qi3{vs:List Value}{ns:List Int}(h:Y2 vs ns):vs.length=ns.length:=by
 induction h with
 |nil=>rfl
 |cons n t h ih=>rw[Qt,Qt,ih]
section
variable{X:Cx}
def tTM(r:V->List V->Hp->VK->Prop)(to:TE)(t:TA):TE:=λσ H Q=>to σ H λx H1=>(∃p xs,x=.ref p/\H1 p=some (.tup xs))/\t σ H1 λxs H2=>r x xs H2 Q
theorem Qz9{o e:Q3}{es:List Q3}{to:TE}{t:TA}{name:Str}{apos cpos:Pos}{id:String}{r:V->List V->Hp->VK->Prop}(slot:Slot "tuple" name id)(hty:typeOf (.builtin id)=pure (.type "method_descriptor"))(hm:MtR X id r)(ho:PE X o to)(ha:PA X (e::es) t)
  (hbase:attributeBase o name X.env (eval o X.env)=eval o X.env:=by rfl)
  (hfew:((backTo cpos (starEach (e::es) X.env)).all (λx => !x.1)&&(backToKw cpos (keywordEach [] X.env)).all (λx=>x.1.isSome)
   && decide ((e::es).length+([]:List QaL).length+(if([]:List QaL).isEmpty then 0 else 1)<30))=true:=by rfl)
  (hline:(apos.endLine == cpos.line)=true:=by rfl) (hs:starEach (e::es) X.env=(false,eval e X.env)::starEach es X.env:=by rfl) (hplain:(backTo cpos (starEach es X.env)).any (·.1)=false:=by rfl) :
  PE X (.Call (.Attribute o name apos) (e::es) [] cpos) (tTM r to t):=by
 intro pins s σ H Q I h;refine Qru hbase hfew hline rfl (thn (ho pins s σ H _ I h) λv s1 ⟨x,H1,I1,r1,ty,q1⟩=>?_);obtain⟨p,xs,rfl,hp⟩:=ty;cases r1;obtain⟨_,its,rv,ob,e1,e2,e3,_⟩:=I1.hok p _ hp;refine⟨"tuple",id,PySem.F.plainAttrs_tuple,slot,hty,⟨ob,e1,e2⟩,λa ea=>?_,?_⟩
 ·cases ea;exact⟨ob,e1,e3⟩
 have hA:=ha cpos pins s1 σ H1 _ I1 q1;rw[hs] at hA ⊢;refine Qjq (by show(false||(backTo cpos (starEach es X.env)).any (·.1))=false;rw[hplain]<;>rfl) (Qll ?_);exact thn hA λus s2 ⟨vs,H2,I2,r2,q2⟩=>hm pins s2 σ H2 (.ref p) vs _ us Q I2 (show RelV (.ref p) (.ref p) from rfl) r2 q2
def QzW:V->List V->Hp->VK->Prop:=λx vs H Q=>∃l ns k j,x=.ref l/\vs=[.int k]/\H l=some (.tup ((ns:List Int).map V.int))/\ns[j]? = some k/\(∀m,m<j->ns[m]? ≠ some k)/\Q (.int (j:Nat)) H
theorem QmV:MtR X "tuple.index" QzW:=by
 intro pins s σ H x vs v us Q I rx rv h;obtain⟨l,ns,k,j,rfl,rfl,hH,hj,hno,q⟩:=h;cases rx;obtain⟨u,rfl,ru⟩:=rv.one;obtain⟨t,rfl⟩:=ru;obtain⟨hz,its,r,⟨cls,dd,data,sl⟩,e,hc,_,n,hd⟩:=I.hok l _ hH;cases(show cls=.type "tuple" from hc);cases(show data=.seq its.toArray n from hd);have hi:Y2 its ns:=intsAre_of r;have li:=Qi3 hi;have hjl:j<its.length:=by rw[li];exact(Jh.mp hj).1
 refine QaK F.slot_tuple_index ⟨_,e,rfl⟩ F.entry_tuple_index (F.args_tuple_index_2 _ _) (Rm.Qgb l its.toArray n dd sl (.int k t) (isInt k) (λy hy=>eq_isInt k t hi y (Yv.mp hy)) j (by rw[Qm];exact hjl) ?_ ?_) ⟨e,?_⟩
 ·show isInt k its[j]=true;rw[QhW hi j hjl,hj];simp
 ·intro m hm hlt;rw[Qm] at hm;show isInt k its[m]=false;rw[QhW hi m hm];exact decide_eq_false (hno m hlt)
 ·exact⟨.int _,H,I.kept λ_ _ e=>e,⟨_,rfl⟩,q⟩
end
end L2
namespace Dl
open L2 _root_.Rd Rk Rt
section
variable{X:Cx}{E:XK}{st:YO}{i:Nat}{we:DE}
def QAN(wa wb:DE):DE:=λδ Q EX=>wa δ (λd1=>match d1 with
 |.tuple ds=>wb δ (λd2=>∃(ns:List Int)(k:Int)(j:Nat),ds=ns.map Qk/\d2=.int k/\ns[j]? = some k/\(∀m,m<j->ns[m]? ≠ some k)/\Q (.int (j:Nat))) EX
 |_=>False) EX
theorem QwJ{o e:Q3}{wo we:DE}{apos cpos:Pos}(ho:QE .P X E o wo)(he:QE .P X E e we)(hst:notStar e=true:=by rfl)(hbase:attributeBase o "index" X.env (eval o X.env)=eval o X.env:=by rfl)(hfew:((backTo cpos (starEach [e] X.env)).all (λx => !x.1)&&(backToKw cpos (keywordEach [] X.env)).all (λx=>x.1.isSome)&&decide ([e].length+([]:List QaL).length+(if([]:List QaL).isEmpty then 0 else 1)<30))=true:=by rfl)(hline:(apos.endLine == cpos.line)=true:=by rfl):QE .F X E (.Call (.Attribute o "index" apos) [e] [] cpos) (QAN wo we):=
 ⟨PE.imp (Qz9 PySem.F.slot_tuple_index PySem.F.type_tuple_index QmV ho.h (QdO he.h Zv hst) hbase hfew hline (Z7 hst) rfl) λσ H Q ⟨F,δ,R,EX,rel,hw,k,o⟩=>by
  refine⟨F,δ,_,EX,rel,hw,λd1 h1 x H1 rel1 kp1 x1=>?_,o⟩;cases d1<;>first | exact(show False from h1).elim | skip
  rename_i ds
  obtain⟨l,xs,rfl,e,q⟩:=DP.tuple x1;refine⟨⟨l,xs,rfl,e⟩,F,δ,_,EX,rel1,h1,λd2 h2 y H2 rel2 kp2 y2=>?_,o⟩;obtain⟨ns,kk,j,rfl,rfl,hj,hno,hR⟩:=h2;obtain⟨l',xs',e0,e',q'⟩:=DP.tuple (kp2.dp x1);cases e0;rw[Qbr q'] at e';cases y2.int;exact⟨l,ns,kk,j,rfl,rfl,e',hj,hno,k _ hR _ H2 rel2 (kp1.trans kp2) ⟨.int _,λl e1 e2=>nomatch e1⟩⟩⟩
end
end Dl
namespace Rk
open L2 _root_.Rd Dl Rt
def Qdx(f:Nat->Nat->Bool)(o:List Nat)(c:Nat):List Bool:=o.map λr=>f r c
def Qbf:List Bool->Int
 |[]=>0
 |b::bs=>(if b=true then(2:Int)^bs.length else 0)+Qbf bs
theorem QjK(n:Nat):(0:Int)<2^n:=Int.pow_pos (by decide)
theorem Qe4:∀bs,0<=Qbf bs/\Qbf bs<2^bs.length
 |[]=>⟨Qoy _,by decide⟩
 |b::bs=>by
  have h:=Qe4 bs;have p:=QjK bs.length;have e:(2:Int)^(b::bs).length=2*2^bs.length:=by rw[Qt,Int.pow_succ,Int.mul_comm]
  rw[e];show 0<=(if b=true then(2:Int)^bs.length else 0)+Qbf bs/\(if b=true then(2:Int)^bs.length else 0)+Qbf bs<2*2^bs.length;split<;>omega
theorem Qeu:∀{as bs:List Bool},as.length=bs.length->Qbf as=Qbf bs->as=bs
 |[],[],_,_=>rfl
 |[],_::_,h,_=>by simp at h
 |_::_,[],h,_=>by simp at h
 |a::as,b::bs,h,e=>by
  have hl:as.length=bs.length:=by simpa using h
  have e:(if a=true then(2:Int)^as.length else 0)+Qbf as=(if b=true then(2:Int)^bs.length else 0)+Qbf bs:=e;have ha:=Qe4 as;have hb:=Qe4 bs;rw[hl] at e ha;cases a<;>cases b<;>simp only[Qaj,if_false,if_true] at e
  ·rw[Qeu hl (by omega)]
  ·omega
  ·omega
  ·rw[Qeu hl (by omega)]
theorem Qvu{as bs:List Bool}(h:as.length=bs.length):decide (Qbf as=Qbf bs)=decide (as=bs):=decide_eq_decide.mpr ⟨Qeu h,λe=>by rw[e]⟩
theorem QoI{α:Type}{F:α->Int}{l m:List α}(p:l.Perm m):(l.map F).sum=(m.map F).sum:=by
 induction p with
 |nil=>rfl
 |cons x _ ih=>rw[QY,QY,Z4,Z4,ih]
 |swap x y l=>simp only[QY,Z4];omega
 |trans _ _ h1 h2=>exact h1.trans h2
def mkS(o:List Nat)(N:Nat)(l:List (Int×Int))(c:Nat):Int:=(l.map λp=>if p.2=(c:Int) then(2:Int)^(N - 1 - o.idxOf p.1.toNat) else 0).sum
theorem QiZ(o:List Nat)(N:Nat)(l m:List (Int×Int))(c:Nat):mkS o N (l++m) c=mkS o N l c+mkS o N m c:=by
 unfold mkS;rw[JO,QvI]
theorem QmZ(o:List Nat)(N r:Nat)(f:Nat->Nat->Bool)(c:Nat):∀w,mkS o N (Qcu r w f) c=if c<w/\f r c=true then(2:Int)^(N - 1 - o.idxOf r) else 0
 |0=>by rw[if_neg (by omega)];rfl
 |w+1=>by
  rw[Ql5,QiZ,QmZ o N r f c w];by_cases z:f r w=true
  ·rw[if_pos z];show _+((if((w:Nat):Int)=(c:Int) then(2:Int)^(N - 1 - o.idxOf ((r:Int)).toNat) else 0)+0)=_;rw[Qv];by_cases y:w=c
   ·subst y;rw[if_neg (by omega),if_pos rfl,if_pos ⟨by omega,z⟩];omega
   ·rw[if_neg (show ¬((w:Nat):Int)=(c:Int) by omega)];by_cases x:c<w/\f r c=true
    ·rw[if_pos x,if_pos ⟨by omega,x.2⟩];omega
    ·rw[if_neg x,if_neg λq=>x ⟨by omega,q.2⟩];omega
  ·rw[if_neg z];show _+0=_;by_cases x:c<w/\f r c=true
   ·rw[if_pos x,if_pos ⟨by omega,x.2⟩];omega
   ·rw[if_neg x,if_neg λq=>?_]
    ·omega
    ·by_cases y:c=w
     ·subst y;exact z q.2
     ·exact x ⟨by omega,q.2⟩
theorem Qm0(o:List Nat)(N w:Nat)(f:Nat->Nat->Bool){c:Nat}(hc:c<w):∀h,mkS o N (cellsF h w f) c=((Qa h).map λr=>if f r c=true then(2:Int)^(N - 1 - o.idxOf r) else 0).sum
 |0=>rfl
 |h+1=>by
  rw[Yz,QiZ,Qm0 o N w f hc h,QmZ,J6,JO,QvI]
  congr 1
  show _=(if f h c=true then(2:Int)^(N - 1 - o.idxOf h) else 0)+0;by_cases z:f h c=true
  ·rw[if_pos ⟨hc,z⟩,if_pos z];omega
  ·rw[if_neg λq=>z q.2,if_neg z];rfl
theorem Qn4(g:Nat->Bool):∀{o:List Nat},o.Nodup->Qbf (o.map g)=(o.map λr=>if g r=true then(2:Int)^(o.length - 1 - o.idxOf r) else 0).sum
 |[],_=>rfl
 |x::xs,h=>by
  have hx:=(JL.mp h).1;have ih:=Qn4 g (JL.mp h).2;show(if g x=true then(2:Int)^(xs.map g).length else 0)+Qbf (xs.map g)=_;rw[ih,QY,Z4,Qe,List.idxOf_cons_self,Qt]
  congr 1
  congr 1
  refine QH λr hr=>?_
  have ne:¬(x == r)=true:=λe=>hx (by rw[eq_of_beq e];exact hr)
  have hi:xs.idxOf r<xs.length:=JV hr;rw[List.idxOf_cons,show(x == r)=false by simpa using ne,cond_false,show xs.length+1 - 1 - (xs.idxOf r+1)=xs.length - 1 - xs.idxOf r by omega]
theorem QpR{h w:Nat}{f:Nat->Nat->Bool}{o:List Nat}{c:Nat}(ho:o.Perm (Qa h))(hc:c<w):mkS o h (cellsF h w f) c=Qbf (Qdx f o c):=by
 have nd:o.Nodup:=ho.nodup_iff.mpr Jl;have ln:o.length=h:=by rw[ho.length_eq,Qh]
 unfold Qdx;rw[Qm0 o h w f hc,Qn4 (λr=>f r c) nd,ln];exact(QoI ho).symm
def Qfe(mt:Nat->Nat->Bool)(w j:Nat)(t:List Nat):List Nat:=(Qa w).filter λc=>mt j c && !decide (c∈t)
def putN(mt:Nat->Nat->Bool)(w:Nat):Nat->Option (List Nat)
 |0=>some []
 |j+1=>(putN mt w j).bind λt=>(Qfe mt w j t).head?.map λc=>t++[c]
def QkX(mt:Nat->Nat->Bool)(w:Nat):Nat->List Nat
 |0=>[]
 |j+1=>match Qfe mt w j (QkX mt w j) with
  |[]=>QkX mt w j
  |c::_=>QkX mt w j++[c]
theorem QhG{mt mt':Nat->Nat->Bool}{w:Nat}:∀{n:Nat},(∀j c,j<n->c<w->mt j c=mt' j c)->putN mt w n=putN mt' w n
 |0,_=>rfl
 |n+1,h=>by
  have e:∀t,Qfe mt w n t=Qfe mt' w n t:=λt=>QbG λc hc=>by rw[h n c (by omega) (Qu.mp hc)]
  show(putN mt w n).bind _=(putN mt' w n).bind _;rw[QhG λj c hj hc=>h j c (by omega) hc]
  congr 1
  funext t
  rw[e]
theorem Qm9(mt:Nat->Nat->Bool)(w:Nat):∀j,(QkX mt w j).length<=j
 |0=>Ql _
 |j+1=>by
  have:=Qm9 mt w j;show(match Qfe mt w j (QkX mt w j) with | []=>QkX mt w j | c::_=>QkX mt w j++[c]).length<=_;split
  ·omega
  ·rw[Qy];show _+1<=_;omega
theorem Qmi(mt:Nat->Nat->Bool)(w:Nat):∀j,(∀t,putN mt w j=some t->QkX mt w j=t/\t.length=j)/\(putN mt w j=none->(QkX mt w j).length<j)
 |0=>⟨λt h=>(by cases h;exact⟨rfl,rfl⟩),λh=>(nomatch h)⟩
 |j+1=>by
  have ih:=Qmi mt w j;have ll:=Qm9 mt w j;have e1:putN mt w (j+1)=(putN mt w j).bind λt=>(Qfe mt w j t).head?.map λc=>t++[c]:=rfl
  have e2:QkX mt w (j+1)=match Qfe mt w j (QkX mt w j) with | []=>QkX mt w j | c::_=>QkX mt w j++[c]:=rfl
  cases p:putN mt w j with
  |none=>
   have:=ih.2 p;rw[e1,e2,p];refine⟨λt h=>(nomatch h),λ_=>?_⟩;split
   ·omega
   ·rw[Qy];show _+1<_;omega
  |some t0=>
   obtain⟨i1,i2⟩:=ih.1 t0 p;rw[e1,e2,p,i1];show(∀t,(Qfe mt w j t0).head?.map (λc=>t0++[c])=some t->_)/\((Qfe mt w j t0).head?.map (λc=>t0++[c])=none->_);cases q:Qfe mt w j t0 with
   |nil=>exact⟨λt h=>(nomatch h),λ_=>by show t0.length<_;omega⟩
   |cons c r=>exact⟨λt h=>(by cases h;exact⟨rfl,by rw[Qy,i2];rfl⟩),λh=>(nomatch h)⟩
theorem Qu2{mt:Nat->Nat->Bool}{w j:Nat}{t:List Nat}{c:Nat}(h:c∈Qfe mt w j t):c<w/\c∉t/\mt j c=true:=by
 have h:=QN.mp h;have h2:=Jf.mp h.2;exact⟨Qu.mp h.1,by simpa using h2.2,h2.1⟩
def mtF(f f2:Nat->Nat->Bool)(h:Nat)(o:List Nat)(j c:Nat):Bool:=decide (Qdx f o c=Qdx f2 (Qa h) j)
def fwN(h w:Nat)(f f2:Nat->Nat->Bool):Option (List Nat×List Nat):=(ordsN h h).findSome? λo=>(putN (mtF f f2 h o) w w).map λt=>(o,t)
def fwV:Option (List Nat×List Nat)->Qb
 |some p=>.tuple [tNn p.1,tNn p.2]
 |none=>.none
def fwD(h w:Nat)(f:Nat->Nat->Bool)(h2 w2:Nat)(f2:Nat->Nat->Bool):Option (List Nat×List Nat):=if h=h2/\w=w2 then fwN h w f f2 else none
def QrI(a b:List Int)(n:Nat):Option Nat:=(Qa n).find? λk => !decide (a.getD k 0=b.getD k 0)
def QA4(a b:List Int):Option Nat->Qb
 |some k=>.tuple [.str "counts",.int k,.int (a.getD k 0),.int (b.getD k 0)]
 |none=>.tuple [.str "none"]
def cIs(f:Nat->Nat->Bool)(h w:Nat):List Int:=(Qa (min h w+1)).map λk=>Wc (cellsF h w f) h h 0 k
def alV(h w:Nat)(f:Nat->Nat->Bool)(h2 w2:Nat)(f2:Nat->Nat->Bool):Qb:=match fwD h w f h2 w2 f2 with
 |some p=>.tuple [.str "alike",.tuple [tNn p.1,tNn p.2]]
 |none=>match fwD w h (tF f) h2 w2 f2 with
  |some p=>.tuple [.str "turned",.tuple [tNn p.1,tNn p.2]]
  |none=>QA4 (cIs f h w) (cIs f2 h2 w2) (QrI (cIs f h w) (cIs f2 h2 w2) 7)
theorem QeV{a:List Int}{k:Nat}(h:a.length<=k):a.getD k 0=0:=by rw[Qd,Qp h];rfl
theorem Qu0{h w:Nat}{f f2:Nat->Nat->Bool}(h0:∀o∈ordsN h h,putN (mtF f f2 h o) w w=none):fwN h w f f2=none:=by
 unfold fwN;rw[Qbe];intro o ho;rw[h0 o ho];rfl
theorem QuZ{h w:Nat}{f f2:Nat->Nat->Bool}{i:Nat}{o t:List Nat}(ho:(ordsN h h)[i]? = some o)(hno:∀p∈(ordsN h h).take i,putN (mtF f f2 h p) w w=none)(hp:putN (mtF f f2 h o) w w=some t):fwN h w f f2=some (o,t):=by
 obtain⟨hl,e⟩:=Jh.mp ho;have sp:ordsN h h=(ordsN h h).take i++o::(ordsN h h).drop (i+1):=by rw[<- e,<- Qir hl,Qaw]
 unfold fwN;rw[sp,List.findSome?_append,Qbe.mpr λp hp=>by rw[hno p hp];rfl,List.findSome?_cons,hp];rfl
def Qed:Nat->(Nat->Nat)->Nat
 |0,_=>1
 |n+1,f=>Qed n f*f n
theorem QcF{f g:Nat->Nat}:∀{n:Nat},(∀j,j<n->f j=g j)->Qed n f=Qed n g
 |0,_=>rfl
 |n+1,h=>by
  show Qed n f*f n=Qed n g*g n;rw[QcF λj hj=>h j (by omega),h n (by omega)]
theorem QeI(f:Nat->Nat):∀n,Qed (n+1) f=f 0*Qed n λj=>f (j+1)
 |0=>by show 1*f 0=f 0*1;omega
 |n+1=>by
  show Qed (n+1) f*f (n+1)=f 0*(Qed n (λj=>f (j+1))*f (n+1));rw[QeI f n,Qex]
def Qiw(B W:Nat->Int)(o:List Nat):Bool:=(Qa o.length).all λj=>decide (B (o.getD j 0)=W j)
theorem Qdl{B W:Nat->Int}{o:List Nat}:Qiw B W o=true↔∀j,j<o.length->B (o.getD j 0)=W j:=by
 unfold Qiw;rw[Y5];exact⟨λh j hj=>of_decide_eq_true (h j (Qu.mpr hj)),λh j hj=>decide_eq_true (h j (Qu.mp hj))⟩
theorem QhY(B W:Nat->Int)(o:List Nat)(x:Nat):Qiw B W (o++[x])=(Qiw B W o&&decide (B x=W o.length)):=by
 rw[JA,JK,Qdl,Qdl,decide_eq_true_eq];have g1:∀j,j<o.length->(o++[x]).getD j 0=o.getD j 0:=λj hj=>by rw[Qd,Qd,J7 hj]
 have g2:(o++[x]).getD o.length 0=x:=by rw[Qd,Jn (Ql _),Qc0];rfl
 rw[Qy,Qlj];constructor
 ·intro h;exact⟨λj hj=>by rw[<- g1 j hj];exact h j (by omega),by rw[<- g2];exact h _ (by omega)⟩
 ·rintro⟨h1,h2⟩ j hj;by_cases z:j<o.length
  ·rw[g1 j z];exact h1 j z
  ·have:j=o.length:=by omega
   rw[this,g2];exact h2
theorem QdU{α β:Type}{g:α->List β}{p:β->Bool}{q:α->Bool}{k:Nat}:∀{l:List α},(∀a∈l,(g a).countP p=if q a=true then k else 0)->(l.flatMap g).countP p=l.countP q*k
 |[],_=>by show 0=0*k;omega
 |a::l,h=>by
  rw[ZO,YC,h a (.head _),QdU λb hb=>h b (.tail _ hb),Yx,Nat.add_mul];cases q a
  ·simp
  ·simp[Qlw]
theorem QjO{n:Nat}:∀{i:Nat}{o:List Nat},o∈ordsN n i->o.Nodup
 |0,o,h=>by rw[Ji.mp h];exact Qbv
 |i+1,o,h=>by
  obtain⟨o',ho',h2⟩:=ZD.mp h;obtain⟨x,hx,rfl⟩:=QQ.mp h2;have:=(QN.mp hx).2;refine Yg.mpr ⟨QjO ho',by simp,λa ha b hb e=>?_⟩;rw[Ji.mp hb] at e;rw[e] at ha;simp[ha] at this
theorem Qmy{n:Nat}{o:List Nat}(nd:o.Nodup)(hb:∀x∈o,x<n):(Qa n).Perm (oth n o++o):=by
 have n1:(oth n o).Nodup:=Jl.filter _;refine(Qbd Jl (Yg.mpr ⟨n1,nd,λa ha b hb' e=>?_⟩)).mpr λx=>?_
 ·rw[<- e] at hb';have:=(QN.mp ha).2;simp[hb'] at this
 ·rw[Yh];unfold oth;rw[QN,Qu];constructor
  ·intro hx;by_cases z:x∈o
   ·exact .inr z
   ·exact .inl ⟨hx,by simp[z]⟩
  ·rintro(z | z)
   ·exact z.1
   ·exact hb x z
def Qu4(B W:Nat->Int)(n j:Nat):Nat:=(Qa n).countP (λx=>decide (B x=W j)) - (Qa j).countP (λi=>decide (W i=W j))
theorem Qun{B W:Nat->Int}{n i:Nat}{o:List Nat}(ho:o∈ordsN n i):((oth n o).map λx=>o++[x]).countP (Qiw B W)=if Qiw B W o=true then Qu4 B W n i else 0:=by
 have hl:=JZ ho;rw[JW];by_cases z:Qiw B W o=true
 ·rw[if_pos z];have e:(oth n o).countP (Qiw B W∘λx=>o++[x])=(oth n o).countP λx=>decide (B x=W i):=Zd λx _=>by
   show Qiw B W (o++[x])=true↔_;rw[QhY,z,QyX,hl]
  rw[e];have pc:=(Qmy (QjO ho) (QcH ho)).countP_eq (p:=λx=>decide (B x=W i));rw[YC] at pc;have eo:o.countP (λx=>decide (B x=W i))=(Qa i).countP λj=>decide (W j=W i):=by
   have q:o=(Qa i).map λj=>o.getD j 0:=by
    refine Ja λk=>?_
    rw[Qo];by_cases y:k<i
    ·rw[Qr y,Qc (by omega)];show _=some (o.getD k 0);rw[Qd,Qc (by omega)];rfl
    ·rw[Qp (by omega),Qp (by rw[Qh];omega)];rfl
   conv=>lhs;rw[q]
   rw[JW];refine Zd λj hj=>?_
   show decide (B (o.getD j 0)=W i)=true↔_;rw[Qdl.mp z j (by rw[hl];exact Qu.mp hj)]
  unfold Qu4;omega
 ·rw[if_neg z,Qa1];intro x _ y;have y:Qiw B W (o++[x])=true:=y;rw[QhY] at y;exact z (Jf.mp y).1
theorem QBL(B W:Nat->Int)(n:Nat):∀i,(ordsN n i).countP (Qiw B W)=Qed i (Qu4 B W n)
 |0=>rfl
 |i+1=>by
  show((ordsN n i).flatMap λo=>(oth n o).map λx=>o++[x]).countP (Qiw B W)=Qed i (Qu4 B W n)*Qu4 B W n i;rw[QdU (q:=Qiw B W) (k:=Qu4 B W n i) λo ho=>Qun ho,QBL B W n i]
def gL:List Int->Nat
 |[]=>1
 |x::L=>(L.count x+1)*gL L
theorem Qnn:∀L:List Int,Qed L.length (λj=>L.count (L.getD j 0) - (L.take j).count (L.getD j 0))=gL L
 |[]=>rfl
 |x::L=>by
  rw[Qt,QeI];show((x::L).count x - ([]:List Int).count x)*_=(L.count x+1)*gL L;rw[QlB,Qv1,QcZ,<- Qnn L]
  congr 1
  refine QcF λj hj=>?_
  show(x::L).count (L.getD j 0) - (x::L.take j).count (L.getD j 0)=_;rw[QvN,QvN];omega
def facO:Nat->Nat
 |0=>1
 |n+1=>(n+1)*facO n
theorem Qsm{ms:List Int}(nd:ms.Nodup):∀{L:List Int},(∀x∈L,x∈ms)->gL L=(ms.map λv=>facO (L.count v)).foldr (·*·) 1
 |[],_=>by
  have:∀ms:List Int,(ms.map λv=>facO (([]:List Int).count v)).foldr (·*·) 1=1:=λms=>by
   induction ms with
   |nil=>rfl
   |cons a ms ih=>show facO (([]:List Int).count a)*_=1;rw[ih,Qv1];rfl
  rw[this];rfl
 |x::L,h=>by
  show(L.count x+1)*gL L=_;rw[Qsm nd λy hy=>h y (.tail _ hy)];have key:∀ms:List Int,ms.Nodup->x∈ms->(L.count x+1)*(ms.map λv=>facO (L.count v)).foldr (·*·) 1=(ms.map λv=>facO ((x::L).count v)).foldr (·*·) 1:=λms=>by
   induction ms with
   |nil=>intro _ h;cases h
   |cons a ms ih=>
    intro nd hx;obtain⟨na,nd⟩:=JL.mp nd;show(L.count x+1)*(facO (L.count a)*_)=facO ((x::L).count a)*_;by_cases z:x=a
    ·subst z;rw[QlB];have e:(ms.map λv=>facO ((x::L).count v))=ms.map λv=>facO (L.count v):=QH λv hv=>by
      rw[Qlk];intro e;rw[e] at na;exact na hv
     rw[e,<- Qex];rfl
    ·rw[Qlk z,<- ih nd ((Qz.mp hx).resolve_left z),Nat.mul_left_comm]
  exact key ms nd (h x (.head _))
theorem Qh5(W:Nat->Int)(n:Nat)(v:Int):((Qa n).map W).count v=(Qa n).countP λx=>decide (W x=v):=by
 rw[List.count_eq_countP,JW];refine Zd λx _=>?_
 show(W x == v)=true↔_;simp
theorem QoF{j n:Nat}(h:j<=n):(Qa n).take j=Qa j:=by rw[Qhb,Qhk h]
theorem Qo3(B W:Nat->Int)(n:Nat):(ordsN n n).countP (Qiw B W)=if((Qa n).map B).Perm ((Qa n).map W) then gL ((Qa n).map W) else 0:=by
 split
 ·rename_i hp
  rw[QBL,<- Qnn,Qe,Qh];refine QcF λj hj=>?_
  have e:((Qa n).map W).getD j 0=W j:=by rw[Qd,Qo,Qr hj];rfl
  unfold Qu4;rw[e,<- Qei,QoF (J4 hj),Qh5 W j,<- Qh5 B,hp.count_eq]
 ·rename_i hp
  rw[Qa1];intro q hq z;refine hp ?_
  have pq:=Zh hq;have lq:=JZ hq;have e:(Qa n).map W=q.map B:=by
   refine Ja λk=>?_
   rw[Qo,Qo];by_cases y:k<n
   ·rw[Qr y,Qc (by omega)];have:=Qdl.mp z k (by omega);rw[Qd,Qc (by omega)] at this;exact congrArg some this.symm
   ·rw[Qp (by rw[Qh];omega),Qp (by omega)];rfl
  rw[e];exact(pq.map B).symm
theorem Qyz{x y:Int×Int}(h:QaM (pairD x) (pairD y)=.lt):plt x y:=by
 rw[Qkh] at h;by_cases a:plt x y
 ·exact a
 ·rw[if_neg a] at h;split at h<;>cases h
theorem Qsv{x y:Int×Int}(h:QaM (pairD x) (pairD y)=.eq):x=y:=by
 rw[Qkh] at h;by_cases a:plt x y
 ·rw[if_pos a] at h;cases h
 ·rw[if_neg a] at h;by_cases b:x=y
  ·exact b
  ·rw[if_neg b] at h;cases h
theorem Qbn{x:Int×Int}:¬plt x x:=λh=>by rcases h with a | a<;>omega
theorem QeJ{x y z:Int×Int}(h1:plt x y)(h2:plt y z):plt x z:=by
 rcases h1 with a | a<;>rcases h2 with b | b
 ·exact .inl (by omega)
 ·exact .inl (by omega)
 ·exact .inl (by omega)
 ·exact .inr ⟨by omega,by omega⟩
theorem Qj0:∀{X Y:List (Int×Int)},X.Pairwise plt->Y.Pairwise plt->X.length=Y.length->Qab (X.map pairD) (Y.map pairD)=.lt->∃p∈X,p∉Y/\∀q,plt q p->(q∈X↔q∈Y)
 |[],[],_,_,_,h=>by cases h
 |[],_::_,_,_,hl,_=>by simp at hl
 |_::_,[],_,_,hl,_=>by simp at hl
 |x::X,y::Y,px,py,hl,h=>by
  have h:thn (QaM (pairD x) (pairD y)) (Qab (X.map pairD) (Y.map pairD))=.lt:=h;obtain⟨px1,px2⟩:=Qeg.mp px;obtain⟨py1,py2⟩:=Qeg.mp py;cases e:QaM (pairD x) (pairD y) with
  |gt=>rw[e] at h;cases h
  |lt=>
   have l:=Qyz e;refine⟨x,.head _,λz=>?_,λq hq=>⟨λz=>?_,λz=>?_⟩⟩
   ·rcases Qz.mp z with z | z
    ·rw[z] at l;exact Qbn l
    ·exact Qbn (QeJ l (py1 x z))
   ·rcases Qz.mp z with z | z
    ·rw[z] at hq;exact(Qbn hq).elim
    ·exact(Qbn (QeJ hq (px1 q z))).elim
   ·rcases Qz.mp z with z | z
    ·rw[z] at hq;exact(Qbn (QeJ hq l)).elim
    ·exact(Qbn (QeJ hq (QeJ l (py1 q z)))).elim
  |eq=>
   have h9:Qab (X.map pairD) (Y.map pairD)=.lt:=by rw[e] at h;exact h
   have exy:=Qsv e;subst exy;obtain⟨p,hp,hn,hq⟩:=Qj0 px2 py2 (by simpa using hl) h9;refine⟨p,.tail _ hp,λz=>?_,λq hqp=>?_⟩
   ·rcases Qz.mp z with z | z
    ·rw[z] at hp;exact Qbn (px1 x hp)
    ·exact hn z
   ·rw[Qz,Qz,hq q hqp]
def clN(h:Nat)(M:Nat->Nat->Bool)(j:Nat):List Bool:=(Qa h).map λr=>M r j
theorem Qsx(h:Nat)(M:Nat->Nat->Bool)(j:Nat):(clN h M j).length=h:=by unfold clN;rw[Qe,Qh]
theorem Qg2:∀(as bs:List Bool),Qbf (as++bs)=Qbf as*2^bs.length+Qbf bs
 |[],bs=>by show Qbf bs=0*_+_;omega
 |a::as,bs=>by
  show(if a=true then(2:Int)^(as++bs).length else 0)+Qbf (as++bs)=((if a=true then(2:Int)^as.length else 0)+Qbf as)*2^bs.length+Qbf bs;rw[Qg2 as bs,Qy,Int.pow_add,Int.add_mul];split
  ·omega
  ·omega
theorem Qn5{as bs cs:List Bool}(hl:bs.length=cs.length):Qbf (as++false::cs)<Qbf (as++true::bs):=by
 rw[Qg2,Qg2,Qt,Qt,hl];have h1:Qbf (true::bs)=2^bs.length+Qbf bs:=rfl;have h2:Qbf (false::cs)=0+Qbf cs:=rfl;have b1:=Qe4 bs;have b2:=Qe4 cs;rw[h1,h2,hl];rw[hl] at b1;omega
theorem QgV{h r:Nat}(M:Nat->Nat->Bool)(j:Nat)(hr:r<h):clN h M j=clN r M j++M r j::(Yr (r+1) (h - (r+1))).map λr=>M r j:=by
 unfold clN;have e:Qa h=Qa r++r::Yr (r+1) (h - (r+1)):=by
  refine Ja λi=>?_
  rcases ZQ i r with z | z | z
  ·rw[J7 (by rw[Qh];exact z),Qr z,Qr (by omega)]
  ·subst z;rw[Jn (by rw[Qh];omega),Qh,Qc0,Qr (by omega)];rfl
  ·rw[Jn (by rw[Qh];omega),Qh,show i - r=(i - r - 1)+1 by omega,ZM];by_cases y:i<h
   ·rw[Qr y,QlA (by omega)]
    congr 1;omega
   ·rw[Qp (by rw[Qh];omega),Qp (by rw[Qej];omega)]
 rw[e,JO,QY]
def htC(pf:List Bool)(col:List Bool):Bool:=decide (col.take pf.length=pf)&&col.getD pf.length false
theorem Qnh{h r:Nat}{M:Nat->Nat->Bool}{j:Nat}(hr:r<h){pf:List Bool}(hp:pf.length=r):htC pf (clN h M j)=(decide (clN r M j=pf)&&M r j):=by
 unfold htC;rw[QgV M j hr,hp];have lc:=Qsx r M j;rw[List.take_append_of_le_length (by omega),Qcp (by omega),Qd,Jn (by omega),lc,Qc0];rfl
theorem QhD{w c:Nat}(hc:c<w):Qa w=Qa c++c::Yr (c+1) (w - (c+1)):=by
 refine Ja λi=>?_
 rcases ZQ i c with z | z | z
 ·rw[J7 (by rw[Qh];exact z),Qr z,Qr (by omega)]
 ·subst z;rw[Jn (by rw[Qh];omega),Qh,Qc0,Qr (by omega)];rfl
 ·rw[Jn (by rw[Qh];omega),Qh,show i - c=(i - c - 1)+1 by omega,ZM];by_cases y:i<w
  ·rw[Qr y,QlA (by omega)]
   congr 1;omega
  ·rw[Qp (by rw[Qh];omega),Qp (by rw[Qej];omega)]
theorem Qk4{h w:Nat}{M N:Nat->Nat->Bool}(hp:((Qa w).map (clN h N)).Perm ((Qa w).map (clN h M)))(hd:∀i j,i<j->j<w->Qbf (clN h M j)<=Qbf (clN h M i))
  {r c:Nat} (hr:r<h) (hc:c<w) (hN:N r c=true) (hM:M r c=false) (hb:∀r' c',r'<h->c'<w->(r'<r∨(r'=r/\c'<c))->N r' c'=M r' c'):False:=by
 have pre:∀j,j<w->clN r N j=clN r M j:=λj hj=>QH λr' hr'=>hb r' j (by have:=Qu.mp hr';omega) hj (.inl (Qu.mp hr'))
 have lp:(clN r M c).length=r:=Qsx r M c;have e:=hp.countP_eq (p:=htC (clN r M c));rw[JW,JW,QhD hc,YC,YC,Yx,Yx] at e;have e1:(Qa c).countP (htC (clN r M c)∘clN h N)=(Qa c).countP (htC (clN r M c)∘clN h M):=Zd λj hj=>by
  have hj:=Qu.mp hj;show htC (clN r M c) (clN h N j)=true↔htC (clN r M c) (clN h M j)=true;rw[Qnh hr lp,Qnh hr lp,pre j (by omega),hb r j hr (by omega) (.inr ⟨rfl,hj⟩)]
 have e2:(htC (clN r M c)∘clN h N) c=true:=by
  show htC (clN r M c) (clN h N c)=true;rw[Qnh hr lp,pre c hc,hN,decide_eq_true rfl];rfl
 have e3:(htC (clN r M c)∘clN h M) c=false:=by
  show htC (clN r M c) (clN h M c)=false;rw[Qnh hr lp,hM,Qiv]
 have e4:(Yr (c+1) (w - (c+1))).countP (htC (clN r M c)∘clN h M)=0:=by
  rw[Qa1];intro j hj;obtain⟨hj1,hj2⟩:=List.mem_range'_1.mp hj;show ¬htC (clN r M c) (clN h M j)=true;rw[Qnh hr lp];intro z;obtain⟨z1,z2⟩:=Jf.mp z;have z1:=of_decide_eq_true z1;have:=hd c j (by omega) (by omega);rw[QgV M j hr,QgV M c hr,z1,z2,hM] at this;have:=Qn5 (as:=clN r M c) (bs:=(Yr (r+1) (h - (r+1))).map λr=>M r j) (cs:=(Yr (r+1) (h - (r+1))).map λr=>M r c) (by rw[Qe,Qe]);omega
 rw[e1,e2,e3,e4] at e;simp at e
theorem Qrj{h w:Nat}{M N:Nat->Nat->Bool}(hp:((Qa w).map (clN h N)).Perm ((Qa w).map (clN h M)))(hd:∀i j,i<j->j<w->Qbf (clN h M j)<=Qbf (clN h M i)):ltD (bdD h w (cellsF h w N)) (bdD h w (cellsF h w M))=false:=by
 cases z:ltD (bdD h w (cellsF h w N)) (bdD h w (cellsF h w M)) with
 |false=>rfl
 |true=>
  exfalso
  have hl:(cellsF h w N).length=(cellsF h w M).length:=by
   rw[QeQ,QeQ];have k:∀(G:Nat->Nat->Bool)(c:Nat),((Qa h).countP λr=>G r c)=(clN h G c).countP id:=λG c=>by unfold clN;rw[JW];rfl
   have e:=(hp.map λcol=>col.countP id).sum_nat;rw[QV,QV] at e;have k2:∀G:Nat->Nat->Bool,((Qa w).map λc=>(Qa h).countP λr=>G r c)=(Qa w).map ((λcol=>col.countP id)∘clN h G):=λG=>QH λc _=>k G c
   rw[k2,k2];exact e
  have z:isL (Qab [.int h,.int w,.tuple ((cellsF h w N).map pairD)] [.int h,.int w,.tuple ((cellsF h w M).map pairD)])=true:=z;have ci:∀i:Int,Qd6 i i=.eq:=λi=>by unfold Qd6;rw[if_neg (by omega),if_pos rfl]
  have z2:Qab ((cellsF h w N).map pairD) ((cellsF h w M).map pairD)=.lt:=by
   have z:isL (thn (Qd6 h h) (thn (Qd6 w w) (thn (Qab ((cellsF h w N).map pairD) ((cellsF h w M).map pairD)) .eq)))=true:=z;rw[ci,ci] at z;cases y:Qab ((cellsF h w N).map pairD) ((cellsF h w M).map pairD) with
   |lt=>rfl
   |eq=>rw[y] at z;cases z
   |gt=>rw[y] at z;cases z
  obtain⟨p,hpN,hpM,hq⟩:=Qj0 (pw_cellsF w N h) (pw_cellsF w M h) hl z2;obtain⟨r,c,hr,hc,hN,rfl⟩:=Yn.mp hpN;have hin:∀{G:Nat->Nat->Bool}{r c:Nat},r<h->c<w->(((r:Int),(c:Int))∈cellsF h w G↔G r c=true):=λ{G r c} hr hc=>by
   rw[Yn];constructor
   ·rintro⟨r',c',_,_,hf,e⟩;have e1:(r:Int)=(r':Int):=(J8 e).1;have e2:(c:Int)=(c':Int):=(J8 e).2;rw[show r=r' by omega,show c=c' by omega];exact hf
   ·intro hf;exact⟨r,c,hr,hc,hf,rfl⟩
  refine Qk4 hp hd hr hc hN (by
   cases y:M r c with
   |false=>rfl
   |true=>exact absurd ((hin hr hc).mpr y) hpM) λr' c' hr' hc' lt=>?_
  have:=hq ((r':Int),(c':Int)) (by
   rcases lt with a | ⟨a,b⟩
   ·exact .inl (show(r':Int)<r by omega)
   ·exact .inr ⟨show(r':Int)=r by omega,show(c':Int)<c by omega⟩)
  rw[hin hr' hc',hin hr' hc'] at this;exact JA.mpr this
theorem Qdc{n:Nat}:∀{i:Nat}{o:List Nat},o.length=i->o.Nodup->(∀x∈o,x<n)->o∈ordsN n i
 |0,o,l,_,_=>by rw[Qb3.mp l];exact .head _
 |i+1,o,l,nd,lt=>by
  have ne:o≠[]:=λz=>by rw[z] at l;cases l
  have e:=List.dropLast_concat_getLast ne;rw[<- e] at nd lt l ⊢;rw[Qy] at l;obtain⟨n1,_,n3⟩:=Yg.mp nd;refine ZD.mpr ⟨_,Qdc (by simpa using l) n1 λx hx=>lt x (Qdv _ hx),QQ.mpr ⟨_,QN.mpr ⟨Qu.mpr (lt _ (Jr _ (.head _))),?_⟩,rfl⟩⟩;rw[Qfc,decide_eq_false_iff_not];exact λhx=>n3 _ hx _ (.head _) rfl
theorem QlT{α:Type}{F:α->Int}{l m:List α}(p:l.Perm m):sumZ F l=sumZ F m:=by
 induction p with
 |nil=>rfl
 |cons x _ ih=>show F x+sumZ F _=F x+sumZ F _;rw[ih]
 |swap x y l=>show F y+(F x+sumZ F l)=F x+(F y+sumZ F l);omega
 |trans _ _ h1 h2=>exact h1.trans h2
theorem Qg5(f:Nat->Nat->Bool):∀(R C D:List Nat)(k:Nat),C.Perm D->Pf f R C k=Pf f R D k
 |[],_,_,_,_=>rfl
 |r::R,C,D,k,p=>by
  show Pf f R C k+(if k=0 then 0 else sumZ (λc=>Pf f R (wo1 C c) (k - 1)) (C.filter (f r)))=Pf f R D k+(if k=0 then 0 else sumZ (λc=>Pf f R (wo1 D c) (k - 1)) (D.filter (f r)));rw[Qg5 f R C D k p,QlT (p.filter (f r)),Z6 λc _=>Qg5 f R (wo1 C c) (wo1 D c) (k - 1) (p.filter _)]
theorem Qrr(f:Nat->Nat->Bool){R S C:List Nat}(k:Nat)(p:R.Perm S)(nR:R.Nodup)(nC:C.Nodup):Pf f R C k=Pf f S C k:=by
 rw[Qe7 f C R k nC nR,Qe7 f C S k nC (p.nodup_iff.mp nR),Qg5 (tF f) C R S k p]
theorem QrH{g:Nat->Nat}:∀{C:List Nat}{c:Nat},(∀x∈C,∀y∈c::C,g x=g y->x=y)->(wo1 C c).map g=wo1 (C.map g) (g c)
 |[],_,_=>rfl
 |x::C,c,h=>by
  have ih:=QrH (g:=g) (C:=C) (c:=c) λa ha b hb e=>h a (.tail _ ha) b (by
   rcases Qz.mp hb with z | z
   ·rw[z];exact .head _
   ·exact .tail _ (.tail _ z)) e
  unfold wo1 at ih ⊢;by_cases z:x=c
  ·rw[Jz (by simp[z]),QY,Jz (by simp[z]),ih]
  ·have gz:g x≠g c:=λe=>z (h x (.head _) c (.head _) e)
   rw[Jy (by simp[z]),QY,QY,Jy (by simp[gz]),ih]
theorem Qod(f:Nat->Nat->Bool)(p q:Nat->Nat):∀(R C:List Nat)(k:Nat),(∀x∈C,∀y∈C,q x=q y->x=y)->Pf (λr c=>f (p r) (q c)) R C k=Pf f (R.map p) (C.map q) k
 |[],_,_,_=>rfl
 |r::R,C,k,h=>by
  show Pf (λr c=>f (p r) (q c)) R C k+(if k=0 then 0 else sumZ (λc=>Pf (λr c=>f (p r) (q c)) R (wo1 C c) (k - 1)) (C.filter λc=>f (p r) (q c)))=Pf f (R.map p) (C.map q) k+(if k=0 then 0 else sumZ (λc=>Pf f (R.map p) (wo1 (C.map q) c) (k - 1)) ((C.map q).filter (f (p r))));rw[Qod f p q R C k h]
  congr 1
  by_cases z:k=0
  ·rw[if_pos z,if_pos z]
  ·rw[if_neg z,if_neg z,List.filter_map];have e:∀l:List Nat,(∀c∈l,c∈C)->sumZ (λc=>Pf (λr c=>f (p r) (q c)) R (wo1 C c) (k - 1)) l=sumZ (λc=>Pf f (R.map p) (wo1 (C.map q) c) (k - 1)) (l.map q):=λl=>by
    induction l with
    |nil=>intro _;rfl
    |cons c l ih=>
     intro hl;have hc:=hl c (.head _);show Pf (λr c=>f (p r) (q c)) R (wo1 C c) (k - 1)+sumZ _ l=Pf f (R.map p) (wo1 (C.map q) (q c)) (k - 1)+sumZ _ (l.map q);rw[ih λd hd=>hl d (.tail _ hd),Qod f p q R (wo1 C c) (k - 1) λx hx y hy=>h x (Qi0.mp hx).1 y (Qi0.mp hy).1,QrH λx hx y hy=>h x hx y (by
      rcases Qz.mp hy with z | z
      ·rw[z];exact hc
      ·exact z)]
   exact e _ λc hc=>(QN.mp hc).1
theorem Qrq(f:Nat->Nat->Bool){h w:Nat}(h6:h<=6)(w6:w<=6)(k:Nat):Wc (cellsF w h (tF f)) w w 0 k=Wc (cellsF h w f) h h 0 k:=by
 rw[Qg3,Qg3,Qgp ⟨h,by omega⟩,Qgp ⟨w,by omega⟩];exact(Qe7 f _ _ k Jl Jl).symm
theorem QhQ{o:List Nat}{n:Nat}(h:o.length=n):(Qa n).map (λr=>o.getD r 0)=o:=by
 subst h;refine Ja λk=>?_
 rw[Qo];by_cases z:k<o.length
 ·rw[Qr z,Qc z];show some (o.getD k 0)=_;rw[Qd,Qc z];rfl
 ·rw[Qp (by rw[Qh];omega),Qp (by omega)];rfl
theorem QyL(f:Nat->Nat->Bool){h w:Nat}{rs ms:List Nat}(h6:h<=6)(w6:w<=6)(hr:rs∈ordsN h h)(hm:ms∈ordsN w w)(k:Nat):Wc (cellsF h w λr c=>f (rs.getD r 0) (ms.getD c 0)) h h 0 k=Wc (cellsF h w f) h h 0 k:=by
 have pr:=Zh hr;have pm:=Zh hm;have nm:ms.Nodup:=pm.nodup_iff.mpr Jl;rw[Qg3,Qg3,Qgp ⟨h,by omega⟩];show Pf (λr c=>f (rs.getD r 0) (ms.getD c 0)) (Qa h) (Qa w) k=Pf f (Qa h) (Qa w) k;rw[Qod f (λr=>rs.getD r 0) (λc=>ms.getD c 0) _ _ k,QhQ (JZ hr),QhQ (JZ hm),Qg5 f rs ms (Qa w) k pm,Qrr f k pr (pr.nodup_iff.mpr Jl) Jl];intro x hx y hy e;have hx:=Qu.mp hx;have hy:=Qu.mp hy;have lm:=JZ hm;rw[Qd,Qc (by omega),Qd,Qc (by omega)] at e;exact(QsS nm).mp e
end Rk
namespace L2
section
variable{κ:Type}[DecidableEq κ]
end
section
variable{P:QB}{w:Jd}{H:Hp}{h:Heap}{a:Addr}
end
section
variable{X:Cx}{pins:List (Addr×Obj)}{σ:St}{H:Hp}{s:Shared}{a:Addr}{y v:V}{u r:Value}{o:Option V}{A:Q1}{E:Value->Shared->Prop}
end
section
variable{X:Cx}{pins:List (Addr×Obj)}{σ:St}{H:Hp}{s:Shared}{a:Addr}{kvs:List (Key×V)}{k:Key}{u:Value}{A:Q1}{E:Value->Shared->Prop}
end
section
variable{X:Cx}{o i e value:Q3}{pos pos' tpos:Pos}{td ty tv:TE}
end
section
variable{X:Cx}{pos:Pos}
end
section
variable{X:Cx}{pins:List (Addr×Obj)}{σ:St}{H:Hp}{s:Shared}{a:Addr}{y d:V}{u r:Value}{o:Option V}{A:Q1}{E:Value->Shared->Prop}
end
section
variable{X:Cx}{o e f:Q3}{apos cpos:Pos}{td ty tx:TE}
end
section
variable{X:Cx}{pins:List (Addr×Obj)}{σ:St}{H:Hp}{s:Shared}{a:Addr}{kvs:List (Key×V)}{A:Q1}{E:Value->Shared->Prop}
end
section
variable{X:Cx}{pins:List (Addr×Obj)}{σ:St}{H:Hp}{s:Shared}{a:Addr}{y:V}{u:Value}{A:Q1}{E:Value->Shared->Prop}
end
section
variable{X:Cx}{pins:List (Addr×Obj)}{σ:St}{l it S fa:Addr}{xs:List V}{kw:List (Str×Value)}{val:Nat->Int}{H0:Hp}{R:Qoh->Shared->Prop}
def QdY(S:Addr)(H0 H:Hp):Prop:=∀b o,b≠S->H0 b=some o->H b=some o
theorem QiL{s:Shared}{H:Hp}{ys zs:List V}{vs:List Value}(I:Inv X pins σ H s)(e:H S=some (.lst ys))(r:Vals zs vs)(hz:zs.length<=sizeLine):Inv X pins σ (upd H S (.lst zs)) { s with heap:=s.heap.update S (Zg λ_=>vs.toArray) }:=by
 obtain⟨_,its,n,rv,ln,ho⟩:=I.lstM e;refine I.write (t':=s.toks) (x:=S) (e:=S) (by rw[e];exact QcV) (.inl rfl) (λb u hb z=>(J5 _ _ (Qav hb)).trans z) ⟨_,JX _ ho rfl⟩ ⟨hz,vs,_,r,JX _ ho rfl⟩
end
section
variable{prog:QB}{w:Jd}{A:Q1}{E:Value->Shared->Prop}{s:Shared}
end
section
variable{X:Cx}{pins:List (Addr×Obj)}{σ:St}{l fa:Addr}{xs:List V}{val:Nat->Int}
end
end L2
namespace Rt
open L2 _root_.Rd Rk _root_.Rs Dl
def atD(ds:List Qb)(i:Nat):Qb:=ds.getD i .none
def Qjj(ds:List Qb)(j:Nat):Nat:=argBest (λa b=>ltD (atD ds a) (atD ds b)) j
theorem Qj1(x:Qb):ltD x x=false:=by
 cases h:ltD x x with
 |false=>rfl
 |true=>rw[Qj2 x x h] at h;exact h.symm
theorem QfX(ds:List Qb):∀k,Qjj ds k<=k/\∀j,j<=k->ltD (atD ds j) (atD ds (Qjj ds k))=false
 |0=>⟨Ql _,λj hj=>by
   have:j=0:=by omega
   subst this;exact Qj1 _⟩
 |k+1=>by
  obtain⟨h1,h2⟩:=QfX ds k;have eb:Qjj ds (k+1)=if ltD (atD ds (k+1)) (atD ds (Qjj ds k))=true then k+1 else Qjj ds k:=rfl
  rw[eb];cases hb:ltD (atD ds (k+1)) (atD ds (Qjj ds k)) with
  |true=>
   rw[if_pos rfl];refine⟨Ql _,λj hj=>?_⟩;by_cases z:j=k+1
   ·rw[z];exact Qj1 _
   ·exact Qsg _ _ _ (Qj2 _ _ hb) (h2 j (by omega))
  |false=>
   rw[if_neg QD];refine⟨by omega,λj hj=>?_⟩;by_cases z:j=k+1
   ·rw[z];exact hb
   ·exact h2 j (by omega)
end Rt
namespace L2
open PySem.Calls _root_.Rd _root_.Rk _root_.Rs Rt Dl
section
variable{X:Cx}{pins:List (Addr×Obj)}{σ:St}{l it S:Addr}{xs:List V}{ds:List Qb}{H0:Hp}{R:Qoh->Shared->Prop}
theorem QgM{H:Hp}:∀{xs:List V}{ds:List Qb},Dats H xs ds->∀(i:Nat)(x:V),xs[i]? = some x->Dat H x (atD ds i)/\atD ds i∈ds
 |_,_,.nil,i,x,h=>nomatch h
 |_,_,.cons a b,0,x,h=>by cases h;exact⟨a,.head _⟩
 |_,_,.cons a b,i+1,x,h=>by
  obtain⟨p,q⟩:=QgM b i x h;exact⟨p,.tail _ q⟩
theorem Qh1{H:Hp}:∀{xs:List V}{ds:List Qb},Dats H xs ds->xs.length=ds.length
 |_,_,.nil=>rfl
 |_,_,.cons _ b=>by rw[Qt,Qt,Qh1 b]
theorem QhP(hl:H0 l=some (.lst xs))(hS0:H0 S=none)(dts:Dats H0 xs ds)(so:Qbs ds)(hu:X.A.units+60<cLine)(hc:X.calm=true)
  (hR:∀u s' H' x,xs[Qjj ds (xs.length - 1)]? = some x->RelV x u->Inv X pins σ H' s'->QdY S H0 H'->R (.ok (.ret u)) s') :
  ∀(k j:Nat)(s:Shared)(H:Hp)(x:V),xs.length - (j+1)=k->j+1<=xs.length->Inv X pins σ H s->FpOk X pins H it->s.heap.IsListIter it l (j+1)->QdY S H0 H->H S=some (.lst [x,x])->xs[Qjj ds j]? = some x ->
  codeAny (model X.prog X.w) X.A (.builtin "min.loop" ⟨[.ref it,.none,.ref S],[]⟩) R s:=by
 have hname:(toString "min" ++ toString ".loop" : String) = "min.loop" := by decide
 have hlS:l≠S:=λz=>by rw[z,hS0] at hl;cases hl
 intro k;induction k with
 |zero=>
  intro j s H x hk hj I hf st kp eS hx;have hin:j+1=xs.length:=by omega
  obtain⟨_,its,n,rv,ln,ho⟩:=I.lstM eS;obtain⟨u,w',e2,r1,r2⟩:∃u w',its=[u,w']/\RelV x u/\RelV x w':=by
   match its,rv with
   |[u,w'],.cons a (.cons b .nil)=>exact⟨u,w',rfl,a,b⟩
  subst e2;obtain⟨hz,its,n2,rl,ll,hol⟩:=I.lstM (kp _ _ hlS hl);obtain⟨f0,f1,f2,f3,f4,f5⟩:=hf;refine Zc Qhm ?_
  rw[JH YD _];show wpAny _ X.A.in1 (seqItems? (.ref S) >>= _) _ _ s;refine wpAny_bind (Qck ho rfl ?_);show wpAny _ X.A.in1 (tryCatch (pyNext (.ref it)) _ >>= _) _ _ s;refine wpAny_bind (Qe8 (QsH (I.ok.hd hc) st ⟨_,hol,rfl,_,rfl⟩ (by simp;omega) λh' eb=>?_));have I1:Inv X pins σ H { s with heap:=h' }:=I.turned (t':=s.toks) (λb o hb e=>eb b o hb e) f0 f1 f3 f4 f5;have ho1:h'.get? S=_:=eb S _ (λz=>by rw[z,f0] at eS;cases eS) ho;show wpAny _ X.A.in1 (updateSeq S (λ_=>#[]) >>= _) _ _ _;refine wpAny_bind ?_
  refine Qby ho1 rfl (wpAny_bind (Qkp (Qj ?_)));refine hR u _ _ x (by rw[<- hin];exact hx) r1 (QiL (vs:=[]) (zs:=[]) I1 eS .nil (Q9 _)) λb o hb e=>?_
  rw[JM hb];exact kp b o hb e
 |succ k ih=>
  intro j s H x hk hj I hf st kp eS hx;have hlt:j+1<xs.length:=by omega
  obtain⟨_,its,n,rv,ln,ho⟩:=I.lstM eS;obtain⟨u,w',e2,r1,r2⟩:∃u w',its=[u,w']/\RelV x u/\RelV x w':=by
   match its,rv with
   |[u,w'],.cons a (.cons b .nil)=>exact⟨u,w',rfl,a,b⟩
  subst e2;obtain⟨hz,its,n2,rl,ll,hol⟩:=I.lstM (kp _ _ hlS hl);obtain⟨v,hv,rv2⟩:=rl.get (i:=j+1) (x:=xs[j+1]) (Qc hlt);obtain⟨f0,f1,f2,f3,f4,f5⟩:=id hf;have nS:S≠it:=λz=>by rw[z,f0] at eS;cases eS
  refine Zc Qhm ?_
  rw[JH YD _];show wpAny _ X.A.in1 (seqItems? (.ref S) >>= _) _ _ s;refine wpAny_bind (Qck ho rfl ?_);show wpAny _ X.A.in1 (tryCatch (pyNext (.ref it)) _ >>= _) _ _ s;refine wpAny_bind (Qe8 (Qdy st ⟨_,hol,rfl,_,rfl⟩ (x:=v) (by simpa using hv) λh' st' sb=>?_));have I1:Inv X pins σ H { s with heap:=h' }:=I.turned (t':=s.toks) (λb o hb e=>(sb.2 b hb).trans e) f0 f1 f3 f4 f5;have ho2:h'.get? S=_:=(sb.2 S nS).trans ho;have sm:Same H0 H:=λb o e=>kp b o (λz=>by rw[z,hS0] at e;cases e) e
  obtain⟨dj,mj⟩:=QgM dts (j+1) _ (Qc hlt);obtain⟨db,mb⟩:=QgM dts _ _ hx;obtain⟨⟨b1,q1⟩,c1⟩:=ZU I1.hok _ _ _ (dj.same sm) rv2;obtain⟨⟨b2,q2⟩,c2⟩:=ZU I1.hok _ _ _ (db.same sm) r2;show wpAny _ X.A.in1 (tryCatch (holding [v,v] (richCompare .Lt v w' >>= _)) _ >>= _) _ _ _;refine wpAny_bind (Qe8 (J3 (wpAny_bind (QzU 20 _ _ X.A.in1 _ v w' _ _ q1 q2 c1 c2 (so.cmp _ mj _ mb) (so.dep _ mj) (by show X.A.units+1+2*20+2<cLine;omega) _ _ _ _ ?_))));refine wpAny_bind (J3 (ZV ?_));refine wpAny_bind (Qkp (Qj ?_));have eb:Qjj ds (j+1)=if ltD (atD ds (j+1)) (atD ds (Qjj ds j))=true then j+1 else Qjj ds j:=rfl
  cases hb:ltD (atD ds (j+1)) (atD ds (Qjj ds j)) with
  |true=>
   rw[hb,if_pos rfl] at eb;simp only[if_true];refine wpAny_bind ?_
   refine Qby ho2 rfl (wpAny_bind (Qkp ?_));rw[hname];have I3:=QiL (vs:=[v,v]) (zs:=[xs[j+1],xs[j+1]]) I1 eS (.cons rv2 (.cons rv2 .nil)) (by show 2<=sizeLine;decide);refine Qj ⟨Yb YD _,ih (j+1) _ _ xs[j+1] (by omega) hlt I3 ⟨by rw[JM (Qav nS)];exact f0,f1,f2,f3,f4,f5⟩ (st'.at λo e=>(J5 _ _ nS).trans e) (λb o hb e=>by rw[JM hb];exact kp b o hb e) Jj (by rw[eb];exact Qc hlt)⟩
  |false=>
   rw[hb,if_neg QD] at eb;simp only[Qaj,if_false];refine wpAny_bind (Qkp ?_);rw[hname];exact Qj ⟨Yb YD _,ih (j+1) _ _ x (by omega) hlt I1 ⟨f0,f1,f2,f3,f4,f5⟩ st' kp eS (by rw[eb];exact hx)⟩
theorem QgH(hl:H0 l=some (.lst xs))(hS0:H0 S=none)(dts:Dats H0 xs ds)(so:Qbs ds)(hu:X.A.units+60<cLine)(hc:X.calm=true)(hn:0<xs.length)
  (hR:∀u s' H' x,xs[Qjj ds (xs.length - 1)]? = some x->RelV x u->Inv X pins σ H' s'->QdY S H0 H'->R (.ok (.ret u)) s'){s:Shared}{H:Hp}(I:Inv X pins σ H s)(hf:FpOk X pins H it)(st:s.heap.IsListIter it l 0)(kp:QdY S H0 H)(eS:H S=some (.lst [])) :
  codeAny (model X.prog X.w) X.A (.builtin "min.loop" ⟨[.ref it,.none,.ref S],[]⟩) R s:=by
 have hname:(toString "min" ++ toString ".loop" : String) = "min.loop" := by decide
 have hlS:l≠S:=λz=>by rw[z,hS0] at hl;cases hl
 obtain⟨_,its,n,rv,ln,ho⟩:=I.lstM eS;cases rv;obtain⟨hz,its,n2,rl,ll,hol⟩:=I.lstM (kp _ _ hlS hl);obtain⟨v,hv,rv2⟩:=rl.get (i:=0) (x:=xs[0]) (Qc hn);obtain⟨f0,f1,f2,f3,f4,f5⟩:=id hf;have nS:S≠it:=λz=>by rw[z,f0] at eS;cases eS
 refine Zc Qhm ?_
 rw[JH YD _];show wpAny _ X.A.in1 (seqItems? (.ref S) >>= _) _ _ s;refine wpAny_bind (Qck ho rfl ?_);show wpAny _ X.A.in1 (tryCatch (pyNext (.ref it)) _ >>= _) _ _ s;refine wpAny_bind (Qe8 (Qdy st ⟨_,hol,rfl,_,rfl⟩ (x:=v) (by simpa using hv) λh' st' sb=>?_));have I1:Inv X pins σ H { s with heap:=h' }:=I.turned (t':=s.toks) (λb o hb e=>(sb.2 b hb).trans e) f0 f1 f3 f4 f5;have ho2:h'.get? S=_:=(sb.2 S nS).trans ho;show wpAny _ X.A.in1 (updateSeq S (λ_=>#[v,v]) >>= _) _ _ _;refine wpAny_bind ?_
 refine Qby ho2 rfl ?_
 rw[hname];have I3:=QiL (vs:=[v,v]) (zs:=[xs[0],xs[0]]) I1 eS (.cons rv2 (.cons rv2 .nil)) (by show 2<=sizeLine;decide);exact Qj ⟨Yb YD _,QhP hl hS0 dts so hu hc hR _ 0 _ _ xs[0] rfl hn I3 ⟨by rw[JM (Qav nS)];exact f0,f1,f2,f3,f4,f5⟩ (st'.at λo e=>(J5 _ _ nS).trans e) (λb o hb e=>by rw[JM hb];exact kp b o hb e) Jj (Qc hn)⟩
end
section
variable{X:Cx}
def QwB:List V->Hp->VK->Prop:=λvs H Q=>∃(l:Addr)(xs:List V)(ds:List Qb),vs=[.ref l]/\H l=some (.lst xs)/\Dats H xs ds/\Qbs ds/\0<xs.length /\
 ∀x,xs[Qjj ds (xs.length - 1)]? = some x->∀H',Same H H'->Q x H'
theorem QnW(hc:X.calm=true)(hu:X.A.units+60<cLine):CallR X (.builtin "min") QwB:=by
 intro pins s σ H vs us Q I r h;obtain⟨l,xs,ds,rfl,hl,dts,so,hn,q⟩:=h;obtain⟨u,rfl,ru⟩:=vals1 r;cases ru;have hname:(toString "min" ++ toString ".loop" : String) = "min.loop" := by decide
 refine call_function_tree F.kind_min F.plain_min F.entry_min (F.args_min1 _) ?_
 show wpAny _ X.A.in1 (QcT "min" ["key", "default"] 0 ⟨[],[]⟩ >>= _) _ _ s;refine wpAny_bind (Zy (show QcT "min" ["key", "default"] 0 ⟨[],[]⟩=pure [none,none] from rfl) ?_);refine wpAny_bind (Qj ?_);obtain⟨hz,its,n,rl,ll,hol⟩:=I.lstM hl;refine wpAny_bind (Qcx (l:=l) ⟨_,hol,rfl,_,rfl⟩ ?_);have I1:Inv X pins σ H { s with heap:=s.heap.push { cls:=.type "list_iterator",data:=.fields #[.ref l,.int 0 0] } }:=I.kept (t':=s.toks) λb o e=>Qi _ e
 have hf:FpOk X pins H s.heap.objs.size:=I.fpOk (Ql _) (I.hok.fresh (Ql _));generalize hs1:({ s with heap:=s.heap.push { cls:=.type "list_iterator",data:=.fields #[.ref l,.int 0 0] } }:Shared)=s1 at I1;have st1:s1.heap.IsListIter s.heap.objs.size l 0:=by rw[<- hs1];exact⟨_,Qs _ rfl,rfl,rfl⟩
 have z1:s1.heap.objs.size=s.heap.objs.size+1:=by rw[<- hs1];exact Z9 ..
 refine wpAny_bind (Jc ?_);have I2:=I1.lnew (t':=s1.toks) (ys:=[]) (its:=[]) .nil (Q9 _);have fS:H s1.heap.objs.size=none:=I1.hok.fresh (Ql _);have nit:s.heap.objs.size≠s1.heap.objs.size:=by rw[z1];exact QL (QvG _)
 have kp:QdY s1.heap.objs.size H (upd H s1.heap.objs.size (.lst [])):=λb o hb e=>by rw[JM hb];exact e
 obtain⟨f0,f1,f2,f3,f4,f5⟩:=hf;have hf2:FpOk X pins (upd H s1.heap.objs.size (.lst [])) s.heap.objs.size:=⟨by rw[JM nit];exact f0,f1,f2,f3,f4,f5⟩;have st2:(s1.heap.push { cls:=.type "list",data:=.seq ([]:List Value).toArray }).IsListIter s.heap.objs.size l 0:=st1.at λo e=>Qi _ e
 have sm:∀{H':Hp},QdY s1.heap.objs.size H H'->Same H H':=λk b o e=>k b o (λz=>by rw[z,fS] at e;cases e) e
 rw[hname];refine Qj ⟨Yb YD _,?_⟩;exact QgH hl fS dts so hu hc hn (λu s' H' x hx r I' k=>⟨x,H',I',r,q x hx H' (sm k)⟩) I2 hf2 st2 kp Jj
end
end L2
namespace Dl
open L2 _root_.Rd Rk Rt
@[irreducible] def QpO:List Qb->(Qb->Prop)->Prop
 |[.list ds],Q=>Qbs ds/\0<ds.length/\∀m∈ds,(∀y∈ds,ltD y m=false)->Q m
 |_,_=>False
theorem QuH{ds:List Qb}{Q:Qb->Prop}(h:Qbs ds)(h0:0<ds.length)(k:∀m∈ds,(∀y∈ds,ltD y m=false)->Q m):QpO [.list ds] Q:=by
 unfold QpO;exact⟨h,h0,k⟩
theorem QnI{A:Addr->Prop}{H:Hp}:∀{xs:List V}{ds:List Qb},DAs A H xs ds->∀(i:Nat)(x:V),xs[i]? = some x->∃d,ds[i]? = some d/\DA A H x d
 |_,_,.nil,i,x,h=>nomatch h
 |_,_,.cons a b,0,x,h=>by cases h;exact⟨_,rfl,a⟩
 |_,_,.cons a b,i+1,x,h=>QnI b i x h
theorem Qvn:QbX QwB QpO:=λA P H vs ds R Q ln dm q h k=>by
 unfold QpO at h;split at h
 ·rename_i ds
  obtain⟨v,rfl,hv⟩:=pd1 q;obtain⟨l,xs,rfl,e,qq⟩:=hv.list;obtain⟨so,h0,hR⟩:=h;have okds:QmM ds=true:=QmL λd hd=>QgS d (so.cmp d hd d hd)
  have dts:=Qal _ _ (QiV ds okds) qq;have hlen:=Qh1 dts;refine⟨l,xs,ds,rfl,e,dts,so,by omega,λx hx H' sm=>?_⟩;obtain⟨d,hd,da⟩:=QnI qq _ x hx;have hm:=Jo hd;have ed:atD ds (Qjj ds (xs.length - 1))=d:=by unfold atD;rw[Qd,hd];rfl
  refine k d (hR d hm λy hy=>?_) x H' sm (da.same sm) ?_
  ·obtain⟨i,hi⟩:=Jx.mp hy;have hil:=(Jh.mp hi).1;have:=(QfX ds (xs.length - 1)).2 i (by omega)
   rwa [ed,show atD ds i=y by unfold atD;rw[Qd,hi];rfl] at this
  ·have ok:=QjS okds d hm;intro l' e1 ⟨ys,e2⟩;subst e1;have da2:=da.same sm;cases d with
   |tuple es=>
    cases da2 with
    |tup _ e4 _=>rw[e4] at e2;cases e2
   |int i=>cases da2
   |_=>cases ok
 ·exact h.elim
end Dl
namespace L2
open PySem.Calls _root_.Rd _root_.Rk
section
variable{X:Cx}{k:Nat}{fa:Addr}{fd:Q0}{pn:Str}{sp:Sp}{E0:XK}
end
end L2
namespace L2
open PySem.Calls _root_.Rd _root_.Rk _root_.Rs
section
variable{X:Cx}
theorem Qk5{pins:List (Addr×Obj)}{σ:St}{l:Addr}{ns:List Int}{H:Hp}{s:Shared}{Q:VK}{E:Value->Shared->Prop}(I:Inv X pins σ H s)(hl:H l=some (.lst (ns.map V.int)))(h64:ns.length<64)
  (q:∀t ms H2,Same H H2->H t=none->H2 t=some (.lst ((ms:List Int).map V.int))->ms.Perm ns->ms.Pairwise (·≥·)->Q (.ref t) H2) :
  wpAny (model X.prog X.w) X.A (call (.builtin "sorted") [.ref l] [(Zf "reverse",.bool true)]) (EP X pins σ Q) E s:=by
 obtain⟨hz,its,n,rv,ho⟩:=I.hok l _ hl;have li:=rv.length;rw[Qe] at li;refine sorted_ints_rev (b:=true) ⟨_,ho,rfl,_,rfl⟩ (Qeq rv) (by omega) λout ns' ia pm pw=>?_
 have pw:ns'.Pairwise (·≥·):=pw;unfold sortedAll;have kp:∀b x,s.heap.get? b=some x->((s.heap.push (seqObj "list" #[] 0)).update s.heap.objs.size (Zg (·++its.toArray))).get? b=some x:=λb x e=>
  (J5 _ _ (Qav (QL (Qq e)))).trans (Qi _ e)
 have hsz:((s.heap.push (seqObj "list" #[] 0)).update s.heap.objs.size (Zg (·++its.toArray))).objs.size=s.heap.objs.size+1:=by
  rw[Heap.size_update,Qhg]
 rw[<- hsz];generalize ((s.heap.push (seqObj "list" #[] 0)).update s.heap.objs.size (Zg (·++its.toArray)))=h' at *;have hn:(h'.push (seqObj "list" its.toArray 0)).get? h'.objs.size=some (seqObj "list" its.toArray 0):=Qs _ rfl;have I1:Inv X pins σ H { s with heap:=h' }:=I.kept (t':=s.toks) kp;have hf:H h'.objs.size=none:=I1.hok.fresh (Ql _);obtain⟨e,he⟩:∃e,(sortedHeap (h'.push (seqObj "list" its.toArray 0)) h'.objs.size its out).get? h'.objs.size=some (seqObj "list" out e):=QfZ hn
 have rv':=Qdr ia;have lp:=pm.length_eq;have I2:Inv X pins σ (upd H h'.objs.size (.lst (ns'.map V.int))) { s with heap:=sortedHeap (h'.push (seqObj "list" its.toArray 0)) h'.objs.size its out }:=
  I1.laid (t':=s.toks) (λb x e'=>(Qe9 (QL (Qq e')) (QP (Qq e') (by rw[Qhg];exact Qcm _))).trans (Qi _ e')) (Ql _) (show ObjOk X.prog X.w _ _ _ (.lst _) from⟨by rw[Qe];exact J4 (Rk.Qar (by omega)),out.toList,e,rv',by rw[he]⟩)
 exact⟨.ref h'.objs.size,_,I2,rfl,q _ ns' _ (Jt hf) hf Jj pm pw⟩
def Qwg(t:TE):TE:=λσ H Q=>t σ H λv H1=>∃(l:Addr)(ns:List Int),v=.ref l/\H1 l=some (.lst (ns.map V.int))/\ns.length<64 /\
 ∀t ms H2,Same H1 H2->H1 t=none->H2 t=some (.lst ((ms:List Int).map V.int))->ms.Perm ns->ms.Pairwise (·≥·)->Q (.ref t) H2
theorem Qpb{e:Q3}{t:TE}{ck:Nat}{p cp kp pos:Pos}(hg:Gl X "sorted")(hm:X.mg "sorted" = none)(h:PE X e t)(he:starEach [e] X.env=(false,eval e X.env)::starEach [] X.env:=by rfl) :
  PE X (.Call (.Name "sorted" p) [e] [⟨some "reverse",.Constant (.bool true) ck cp,kp⟩] pos) (Qwg t):=by
 intro pins s σ H Q I hh;refine Qat (Qdi I hg hm (by rfl) ?_ (by decide) (by decide));have hh:Qc2 t Qom σ H (λvs H1=>match vs with
   |[v]=>∃(l:Addr)(ns:List Int),v=.ref l/\H1 l=some (.lst (ns.map V.int))/\ns.length<64/\∀t ms H2,Same H1 H2->H1 t=none->H2 t=some (.lst ((ms:List Int).map V.int))->ms.Perm ns->ms.Pairwise (·≥·)->Q (.ref t) H2
   |_=>False):=hh
 refine PyProof.Rows.callWith_kw (thn ((Y8 h Zv he) pos pins s σ H _ I hh) λus s1 ⟨vs,H1,I1,r1,q1⟩=>?_) ?_ ?_ ?_ ?_
 ·dsimp only at q1
  split at q1
  ·obtain⟨l,ns,rfl,hl,h64,hQ⟩:=q1;obtain⟨u,rfl,ru⟩:=vals1 r1;cases ru;refine kws_cons (Constant_bool (kws_nil ?_));show wpAny (model X.prog X.w) X.A (call (.builtin "sorted") [.ref l] [("reverse",.bool true)]) _ _ s1;exact Qk5 I1 hl h64 hQ
  ·exact q1.elim
 ·rw[he];rfl
 ·rw[he];rfl
 ·rfl
 ·rfl
end
end L2
namespace Dl
open L2 _root_.Rd Rk
section
variable{X:Cx}{E:XK}
@[irreducible] def Qhy:Qb->(Qb->Prop)->Prop
 |.list ds,Q=>∃ns,QaS ds=some ns/\ns.length<64/\∀ms:List Int,ms.Perm ns->ms.Pairwise (·≥·)->Q (.list (ms.map .int))
 |_,_=>False
theorem QoO{ds:List Qb}{Q:Qb->Prop}{ns:List Int}(h:QaS ds=some ns)(h64:ns.length<64)(k:∀ms:List Int,ms.Perm ns->ms.Pairwise (·≥·)->Q (.list (ms.map .int))):Qhy (.list ds) Q:=by
 unfold Qhy;exact⟨ns,h,h64,k⟩
def Qsu(w:DE):DE:=λδ Q EX=>w δ (λd=>Qhy d Q) EX
theorem Qpu{e:Q3}{w:DE}{ck:Nat}{p cp kp pos:Pos}(hg:Gl X "sorted")(hm:X.mg "sorted" = none)(h:PE X e (tX .P X.K E w))(hs:notStar e=true:=by rfl):PE X (.Call (.Name "sorted" p) [e] [⟨some "reverse",.Constant (.bool true) ck cp,kp⟩] pos) (tX .F X.K E (Qsu w)):=by
 refine PE.imp (Qpb hg hm h (Z7 hs)) λσ H Q ⟨F,δ,R,EX,rel,hw,k,o⟩=>?_
 refine⟨F,δ,_,EX,rel,hw,λd hd v H1 rel1 kp1 vk=>?_,o⟩;have hd:Qhy d _:=hd;unfold Qhy at hd;split at hd
 ·rename_i ds
  obtain⟨ns,hn,h64,hQ⟩:=hd;rw[QeT hn] at vk;obtain⟨l,xs,rfl,e,q⟩:=DP.list vk;rw[Qbr q] at e;refine⟨l,ns,rfl,e,h64,λt ms H2 sm hf e2 pm pw=>?_⟩;refine k _ (hQ ms pm pw) _ H2 (rel1.same sm) (kp1.trans (Kp.same rel1 sm)) ⟨QbS (λa ha=>rel1.isl ha) sm hf e2 (Qcb ms),λl e1 e2=>?_⟩;cases e1;exact QaX kp1 hf
 ·exact hd.elim
theorem Qtw{e:Q3}{w:DE}{ck:Nat}{p cp kp pos:Pos}(hg:Gl X "sorted")(hm:X.mg "sorted" = none)(h:QE .P X E e w)(hs:notStar e=true:=by rfl):QE .F X E (.Call (.Name "sorted" p) [e] [⟨some "reverse",.Constant (.bool true) ck cp,kp⟩] pos) (Qsu w):=⟨Qpu hg hm h.h hs⟩
end
end Dl
namespace Zt
def f5(M x:Nat):Nat:=(x*5+1) % M
def it5(M:Nat):Nat->Nat->Nat
 |0,x=>x
 |n+1,x=>it5 M n (f5 M x)
theorem QgK(M:Nat):∀(m n x:Nat),it5 M (m+n) x=it5 M n (it5 M m x)
 |0,n,x=>by rw[Qaz];rfl
 |m+1,n,x=>by rw[Qlu];exact QgK M m n (f5 M x)
def Qyv(M:Nat):Nat->Nat->Nat->Nat
 |0,_,acc=>acc
 |n+1,x,acc=>Qyv M n (f5 M x) (acc ||| 2^x)
theorem Qkf(M j:Nat):∀(n x acc:Nat),(Qyv M n x acc).testBit j=true->acc.testBit j=true∨∃b,b<n/\it5 M b x=j
 |0,_,_,h=>.inl h
 |n+1,x,acc,h=>by
  rcases Qkf M j n (f5 M x) (acc ||| 2^x) h with z | ⟨b,hb,e⟩
  ·rw[QyS,QvP,Qov] at z;rcases z with z | z
   ·exact .inl z
   ·exact .inr ⟨0,by omega,by show x=j;simpa using z⟩
  ·exact .inr ⟨b+1,by omega,e⟩
def Qdk(M:Nat):Bool:=decide (Qyv M M 0 0=2^M - 1)&&decide (it5 M M 0=0)
theorem Qsl:Qdk 8=true:=by decide +kernel
theorem QuV:Qdk 32=true:=by decide +kernel
theorem Qp3:Qdk 128=true:=by decide +kernel
theorem Qp2:Qdk 512=true:=by decide +kernel
theorem Qnm:Qdk 2048=true:=by decide +kernel
theorem Qp1{M:Nat}(h:Qdk M=true){i j:Nat}(hi:i<M)(hj:j<M):∃n,n<M/\it5 M n i=j:=by
 have h:=Jf.mp h;have h1:Qyv M M 0 0=2^M - 1:=of_decide_eq_true h.1;have h2:it5 M M 0=0:=of_decide_eq_true h.2;have all:∀k,k<M->∃b,b<M/\it5 M b 0=k:=λk hk=>by
  have:(Qyv M M 0 0).testBit k=true:=by rw[h1,Nat.testBit_two_pow_sub_one];exact decide_eq_true hk
  rcases Qkf M k M 0 0 this with z | z
  ·simp at z
  ·exact z
 obtain⟨a,ha,rfl⟩:=all i hi;obtain⟨b,hb,rfl⟩:=all j hj;by_cases z:a<=b
 ·exact⟨b - a,by omega,by rw[<- QgK,show a+(b - a)=b by omega]⟩
 ·refine⟨M - a+b,by omega,?_⟩;rw[<- QgK,show a+(M - a+b)=M+b by omega,QgK,h2]
def QcK(mask:Nat):Nat->Nat×Nat->Nat×Nat
 |0,p=>p
 |n+1,p=>QcK mask n (Ye mask p.1 p.2)
theorem QhV(mask:Nat):∀(m n:Nat)(p:Nat×Nat),QcK mask (m+n) p=QcK mask n (QcK mask m p)
 |0,n,p=>by rw[Qaz];rfl
 |m+1,n,p=>by rw[Qlu];exact QhV mask m n _
theorem QhT(mask:Nat):∀(n:Nat)(p:Nat×Nat),(QcK mask n p).2=p.2 / 32^n
 |0,p=>by show p.2=p.2 / 1;omega
 |n+1,p=>by
  show(QcK mask n (Ye mask p.1 p.2)).2=_;rw[QhT mask n];show p.2 / 32 / 32^n=_;rw[Nat.div_div_eq_div_mul,Qlv,Nat.mul_comm]
theorem QhU(mask:Nat):∀(n i:Nat),QcK mask n (i,0)=(it5 (mask+1) n i,0)
 |0,i=>rfl
 |n+1,i=>by
  show QcK mask n (Ye mask i 0)=_;have:Ye mask i 0=(f5 (mask+1) i,0):=by
   show((i*5+1+0 / 32) % (mask+1),0 / 32)=_;simp[f5]
  rw[this,QhU mask n];rfl
theorem Qj4{mask:Nat}:∀(n:Nat)(p:Nat×Nat),p.1<mask+1->(QcK mask n p).1<mask+1
 |0,_,h=>h
 |n+1,p,_=>Qj4 n _ (Qdt _ (Qbu _))
theorem QfO{mask:Nat}(hg:Qdk (mask+1)=true){i perturb j:Nat}(hi:i<mask+1)(hp:perturb<2^64)(hj:j<mask+1):∃n,n<mask+14/\(QcK mask n (i,perturb)).1=j:=by
 have h13:=QhT mask 13 (i,perturb);have:perturb / 32^13=0:=Nat.div_eq_of_lt (QP hp (by decide));rw[show(i,perturb).2=perturb from rfl,this] at h13;have hl:=Qj4 13 (i,perturb) hi;obtain⟨n,hn,e⟩:=Qp1 hg hl hj;refine⟨13+n,by omega,?_⟩;rw[QhV,show QcK mask 13 (i,perturb)=((QcK mask 13 (i,perturb)).1,0) from QcX rfl h13,QhU];exact e
def stps(t:SetTable):Nat->ZY->ZY
 |0,p=>p
 |n+1,p=>stps t n (t.advance p)
theorem Qge(t:SetTable):∀(m n:Nat)(p:ZY),stps t (m+n) p=stps t n (stps t m p)
 |0,n,p=>by rw[Qaz];rfl
 |m+1,n,p=>by rw[Qlu];exact Qge t m n _
def QvS(t:SetTable)(i perturb:Nat)(d:Option Nat):ZY:={ j:=i,more:=Zr t.mask i - i,i:=i,perturb:=perturb,dummy:=d }
theorem Qhu(t:SetTable):∀(m j i perturb:Nat)(d:Option Nat),stps t m { j:=j,more:=m,i:=i,perturb:=perturb,dummy:=d }={ j:=j+m,more:=0,i:=i,perturb:=perturb,dummy:=d }
 |0,_,_,_,_=>rfl
 |m+1,j,i,perturb,d=>by
  show stps t m (t.advance _)=_;have:t.advance { j:=j,more:=m+1,i:=i,perturb:=perturb,dummy:=d }={ j:=j+1,more:=m,i:=i,perturb:=perturb,dummy:=d }:=by
   unfold QbA;rw[if_pos (by show m+1 > 0;omega)];rfl
  rw[this,Qhu t m,show j+1+m=j+(m+1) by omega]
theorem Qwt(mask i:Nat):Zr mask i - i<=9:=by unfold Zr;split<;>omega
theorem QoK(t:SetTable)(i perturb:Nat)(d:Option Nat):stps t (Zr t.mask i - i+1) (QvS t i perturb d)=QvS t (Ye t.mask i perturb).1 (Ye t.mask i perturb).2 d:=by
 rw[Qge];unfold QvS;rw[Qhu];simp only[stps];unfold QbA;rw[if_neg (by show ¬(0:Nat) > 0;omega)]
theorem Qfz(t:SetTable)(d:Option Nat):∀(n i perturb:Nat),∃m,m<=10*n/\stps t m (QvS t i perturb d)=QvS t (QcK t.mask n (i,perturb)).1 (QcK t.mask n (i,perturb)).2 d
 |0,i,perturb=>⟨0,by omega,rfl⟩
 |n+1,i,perturb=>by
  obtain⟨m,hm,e⟩:=Qfz t d n (Ye t.mask i perturb).1 (Ye t.mask i perturb).2;have:=Qwt t.mask i;refine⟨Zr t.mask i - i+1+m,by omega,?_⟩;rw[Qge,QoK,e];rfl
theorem Qif(h:Int):JE h<2^64:=by
 unfold JE;have:=QrE h (show(0:Int)<2^64 by decide);have:=Qv3 h (show(2^64:Int)≠0 by decide);omega
theorem QkD(t:SetTable)(hg:Qdk (t.mask+1)=true)(h:Int){j:Nat}(hj:j<t.mask+1):∃m,m<10*Yp t.mask/\(stps t m (t.probeStart h)).j=j:=by
 obtain⟨n,hn,e⟩:=QfO (mask:=t.mask) hg (i:=JE h % (t.mask+1)) (Qdt _ (Qbu _)) (Qif h) hj;obtain⟨m,hm,e2⟩:=Qfz t none n (JE h % (t.mask+1)) (JE h);refine⟨m,by unfold Yp;omega,?_⟩;have:t.probeStart h=QvS t (JE h % (t.mask+1)) (JE h) none:=rfl;rw[this,e2];exact e
theorem Qgd:∀{P Q:List Nat},P.Nodup->(∀p∈P,p∈Q)->P.length<=Q.length
 |[],_,_,_=>Q9 _
 |p::P,Q,nd,h=>by
  have nd:=JL.mp nd;have hp:=h p (.head _);have:=Qgd (P:=P) (Q:=Q.erase p) nd.2 λx hx=>(Qlz (show x≠p from λe=>nd.1 (e ▸ hx))).mpr (h x (.tail _ hx))
  rw[QiC hp] at this;have:=Qcr hp;rw[Qt];omega
theorem Qri{xs:Array Nat}{j:Nat}(pw:xs.toList.Pairwise (· < ·)):∀(fuel lo hi:Nat),hi - lo<=fuel->lo<=hi->hi<=xs.size->(∀k (hk:k<xs.size),k<lo->xs[k]<j)->(∀k (hk:k<xs.size),hi<=k->j<=xs[k]) ->
  QaG xs j fuel lo hi<=xs.size/\(∀k (hk:k<xs.size),k<QaG xs j fuel lo hi->xs[k]<j)/\∀k (hk:k<xs.size),QaG xs j fuel lo hi<=k->j<=xs[k]:=by
 have mono:∀a b (ha:a<xs.size) (hb:b<xs.size),a<=b->xs[a]<=xs[b]:=λa b ha hb h=>by
  by_cases e:a=b
  ·subst e;exact Ql _
  ·have:=Jq.mp pw a b (by simpa using ha) (by simpa using hb) (by omega);simp only[J1] at this;omega
 intro fuel;induction fuel with
 |zero=>
  intro lo hi h1 h2 h3 h4 h5;have:lo=hi:=by omega
  subst this;exact⟨h3,h4,h5⟩
 |succ fuel ih=>
  intro lo hi h1 h2 h3 h4 h5;unfold QaG;by_cases z:lo<hi
  ·rw[if_pos z]
   dsimp only
   have hm:(lo+hi) / 2<xs.size:=by omega
   have eg:xs.getD ((lo+hi) / 2) j=xs[(lo+hi) / 2]:=by simp[QaP,hm]
   rw[eg];by_cases y:xs[(lo+hi) / 2]<j
   ·rw[if_pos y];refine ih _ _ (by omega) (by omega) h3 (λk hk hlt=>?_) h5;have:=mono k ((lo+hi) / 2) hk hm (by omega);omega
   ·rw[if_neg y];refine ih _ _ (by omega) (by omega) (by omega) h4 λk hk hle=>?_
    have:=mono ((lo+hi) / 2) k hm hk hle;omega
  ·rw[if_neg z];have:lo=hi:=by omega
   subst this;exact⟨h3,h4,h5⟩
theorem Qch{xs:Array Nat}(pw:xs.toList.Pairwise (· < ·))(j:Nat):JI xs j<=xs.size/\(∀k (hk:k<xs.size),k<JI xs j->xs[k]<j)/\∀k (hk:k<xs.size),JI xs j<=k->j<=xs[k]:=
 Qri pw _ 0 xs.size (by omega) (Q9 _) (Ql _) (λk hk h=>by omega) λk hk h=>by omega
structure Tab (t:SetTable):Prop where
 pw:t.place.toList.Pairwise (· < ·)
 le:∀x∈t.place.toList,x<=t.mask
 dm:t.dummies=#[]
 gd:Qdk (t.mask+1)=true
 pl:t.plain=true
 od:t.mask % 2=1
theorem Tab.slot_no{t:SetTable}(x:Tab t){j:Nat}(h:j∉t.place.toList):t.slot j=.empty:=by
 unfold Qg8
 dsimp only
 rw[if_neg,x.dm]
 ·rfl
 ·intro z;have z:=eq_of_beq z;exact h (Qc1.mpr (Qkw z))
theorem Tab.slot_dm{t:SetTable}(x:Tab t)(j:Nat):t.slot j≠.dummy:=by
 unfold Qg8
 dsimp only
 split
 ·exact λe=>by cases e
 ·rw[x.dm,if_neg (by simp[Qio])];exact λe=>by cases e
theorem Tab.slot_e{t:SetTable}(x:Tab t){j:Nat}(h:t.slot j=.empty):j∉t.place.toList:=λhj=>by
 obtain⟨i,hi,e⟩:=Qdu.mp hj;have hi':i<t.place.size:=by simpa using hi
 have e':t.place[i]=j:=by simpa using e
 obtain⟨b1,b2,b3⟩:=Qch x.pw j;have hb:JI t.place j=i:=by
  rcases ZQ (JI t.place j) i with z | z | z
  ·have hb':JI t.place j<t.place.size:=by omega
   have h1:=b3 _ hb' (Ql _);have:=Jq.mp x.pw (JI t.place j) i (by simpa using hb') hi z;simp only[J1] at this;omega
  ·exact z
  ·have:=b2 i hi' z;omega
 unfold Qg8 at h
 dsimp only at h
 rw[hb,if_pos (by simp[hi',e'])] at h;cases h
theorem Tab.room{t:SetTable}(x:Tab t)(hs:t.place.size<=t.mask):∃j,j<t.mask+1/\j∉t.place.toList:=by
 apply ZW
 intro hn;have:∀p∈Qa (t.mask+1),p∈t.place.toList:=λp hp=>by
  apply ZW
  intro h;exact hn ⟨p,Qu.mp hp,h⟩
 have:=Qgd Jl this;rw[Qh,Qw] at this;omega
theorem Qoa(t:SetTable)(p:ZY):(t.advance p).dummy=p.dummy:=by
 unfold QbA;split<;>rfl
theorem QuX{t:SetTable}(x:Tab t)(hashAt:Nat->Int)(h:Int):∀(n fuel:Nat)(p:ZY),n<fuel->t.slot (stps t n p).j=.empty->p.dummy=none ->
  ∃k,k<=n/\((Zw t hashAt h fuel p=some (.empty (stps t k p).j none)/\t.slot (stps t k p).j=.empty)∨(k<n/\∃i,Zw t hashAt h fuel p=some (.candidate (stps t k p).j i (stps t (k+1) p))/\t.slot (stps t k p).j=.live i/\hashAt i=h)):=by
 intro n;induction n with
 |zero=>
  intro fuel p hf he hd;obtain⟨fuel,rfl⟩:∃m,fuel=m+1:=⟨fuel - 1,by omega⟩
  refine⟨0,Ql _,.inl ⟨?_,he⟩⟩;unfold Zw;rw[show t.slot p.j=.empty from he]
  dsimp only
  rw[hd];rfl
 |succ n ih=>
  intro fuel p hf he hd;obtain⟨fuel,rfl⟩:∃m,fuel=m+1:=⟨fuel - 1,by omega⟩
  cases hs:t.slot p.j with
  |empty=>
   refine⟨0,Q9 _,.inl ⟨?_,hs⟩⟩;unfold Zw;rw[hs]
   dsimp only
   rw[hd];rfl
  |dummy=>exact absurd hs (x.slot_dm _)
  |live i=>
   by_cases z:hashAt i=h
   ·refine⟨0,Q9 _,.inr ⟨Qbu _,i,?_,hs,z⟩⟩;unfold Zw;rw[hs]
    dsimp only
    rw[if_pos (by simp[z])];rfl
   ·obtain⟨k,hk,q⟩:=ih fuel (t.advance p) (by omega) he (by rw[Qoa];exact hd);have eg:Zw t hashAt h (fuel+1) p=Zw t hashAt h fuel (t.advance p):=by
     conv=>lhs;unfold Zw
     rw[hs]
     dsimp only
     rw[if_neg (by simp[z])]
    rcases q with⟨q1,q2⟩ | ⟨q0,i',q1,q2,q3⟩
    ·exact⟨k+1,by omega,.inl ⟨by rw[eg];exact q1,q2⟩⟩
    ·exact⟨k+1,by omega,.inr ⟨by omega,i',by rw[eg];exact q1,q2,q3⟩⟩
theorem Tab.put{t:SetTable}(x:Tab t){j:Nat}(hj:j∉t.place.toList)(hm:j<=t.mask):Tab (t.put j).1/\(t.put j).1.place.toList=t.place.toList.take (t.put j).2++j::t.place.toList.drop (t.put j).2/\(t.put j).1.mask=t.mask/\(t.put j).1.led=t.led/\(t.put j).1.moves=t.moves/\(t.put j).1.dummies=#[]:=by
 obtain⟨b1,b2,b3⟩:=Qch x.pw j;have hp:(t.put j).2=JI t.place j:=rfl;have hl:(t.put j).1.place.toList=t.place.toList.take (t.put j).2++j::t.place.toList.drop (t.put j).2:=Qf1 _ _ _;have hd:(t.put j).1.dummies=#[]:=by
  show(if Qio t.dummies j=true then _ else t.dummies)=#[];rw[x.dm,if_neg (by simp[Qio])]
 have lo:∀a∈t.place.toList.take (JI t.place j),a<j:=λa ha=>by
  obtain⟨k,hk,e⟩:=Qdu.mp ha;rw[Yw] at hk;rw[List.getElem_take] at e;have hk2:k<t.place.size:=by rw[Qw] at hk;omega
  have:=b2 k hk2 (by omega);rw[J1] at e;omega
 have hi:∀a∈t.place.toList.drop (JI t.place j),j<a:=λa ha=>by
  have hne:a≠j:=λe=>hj (e ▸ Qly ha)
  obtain⟨k,hk,e⟩:=Qdu.mp ha;rw[QaI,Qw] at hk;rw[List.getElem_drop,J1] at e;have:=b3 (JI t.place j+k) (by omega) (by omega);omega
 refine⟨⟨?_,?_,hd,x.gd,x.pl,x.od⟩,hl,rfl,rfl,rfl,hd⟩
 ·rw[hl,hp,Qlx,Qeg];refine⟨x.pw.sublist (QrA _ _),⟨hi,x.pw.sublist (List.drop_sublist _ _)⟩,λa ha b hb=>?_⟩;rcases Qz.mp hb with z | z
  ·subst z;exact lo a ha
  ·have:=lo a ha;have:=hi b z;omega
 ·intro a ha;rw[hl] at ha;rcases Yh.mp ha with z | z
  ·exact x.le a (List.mem_of_mem_take z)
  ·rcases Qz.mp z with z | z
   ·subst z;exact hm
   ·exact x.le a (Qly z)
theorem Qnq{mask:Nat}{owner:Array (Option Nat)}:∀(n fuel i perturb:Nat),n<fuel->owner.getD (QcK mask n (i,perturb)).1 (some 0)=none->∃j,Zx mask owner fuel i perturb=some j/\owner.getD j (some 0)=none:=by
 intro n;induction n with
 |zero=>
  intro fuel i perturb hf he;obtain⟨fuel,rfl⟩:∃m,fuel=m+1:=⟨fuel - 1,by omega⟩
  unfold Zx;cases hfd:(Qa (Zr mask i+1 - i)).find? λk=>(owner.getD (i+k) (some 0)).isNone with
  |some k=>
   have:=Qhe hfd;exact⟨i+k,rfl,by simpa using this⟩
  |none=>
   have:=Qbj.mp hfd 0 (Qu.mpr (by unfold Zr;split<;>omega));rw[Nat.add_zero,show owner.getD i (some 0)=none from he] at this;exact absurd rfl this
 |succ n ih=>
  intro fuel i perturb hf he;obtain⟨fuel,rfl⟩:∃m,fuel=m+1:=⟨fuel - 1,by omega⟩
  unfold Zx;cases hfd:(Qa (Zr mask i+1 - i)).find? λk=>(owner.getD (i+k) (some 0)).isNone with
  |some k=>
   have:=Qhe hfd;exact⟨i+k,rfl,by simpa using this⟩
  |none=>exact ih fuel _ _ (by omega) he
theorem Qcc{f g:Nat->Option Nat}:∀{l:List Nat},(∀x∈l,f x=g x)->l.filterMap f=l.filterMap g
 |[],_=>rfl
 |x::l,h=>by
  rw[Ys,Ys,h x (.head _),Qcc λy hy=>h y (.tail _ hy)]
theorem Qso(f:Nat->Option Nat)(j k:Nat)(hf:f j=none):∀M,j<M->((Qa M).filterMap λx=>if x=j then some k else f x).Perm (k::(Qa M).filterMap f)
 |0,h=>absurd h (Qhj _)
 |M+1,h=>by
  rw[J6,Z5,Z5];by_cases z:M=j
  ·subst z;have e:((Qa M).filterMap λx=>if x=M then some k else f x)=(Qa M).filterMap f:=Qcc λx hx=>if_neg (by have:=Qu.mp hx;omega)
   rw[e];have e2:([M].filterMap λx=>if x=M then some k else f x)=[k]:=by simp
   have e3:[M].filterMap f=[]:=by simp[hf]
   rw[e2,e3,Yj];exact Qli
  ·have ih:=Qso f j k hf M (by omega);have e2:([M].filterMap λx=>if x=j then some k else f x)=[M].filterMap f:=Qcc λx hx=>by
    rw[Ji.mp hx,if_neg z]
   rw[e2];exact ih.append_right _
def Lv(mask:Nat)(owner:Array (Option Nat)):List Nat:=(Qa (mask+1)).filterMap λj=>owner.getD j none
theorem Qnu{f:Nat->Option Nat}:∀{M:Nat},(∀j,j<M->f j≠none)->((Qa M).filterMap f).length=M
 |0,_=>rfl
 |M+1,h=>by
  rw[J6,Z5,Qy,Qnu λj hj=>h j (by omega)];cases e:f M with
  |none=>exact absurd e (h M (by omega))
  |some y=>simp[e]
structure Own (mask:Nat) (owner:Array (Option Nat)) (k:Nat):Prop where
 sz:owner.size=mask+1
 pm:(Lv mask owner).Perm (Qa k)
theorem QpU{mask:Nat}(hg:Qdk (mask+1)=true){owner:Array (Option Nat)}{k:Nat}(x:Own mask owner k)(hk:k<=mask)(h:Int):∃j,Zx mask owner (Yp mask) (JE h % (mask+1)) (JE h)=some j/\Own mask (owner.setIfInBounds j (some k)) (k+1):=by
 obtain⟨e,he,hn⟩:∃e,e<mask+1/\owner.getD e none=none:=by
  apply ZW
  intro hno;have:=Qnu (f:=λj=>owner.getD j none) (M:=mask+1) λj hj z=>hno ⟨j,hj,z⟩
  have h2:=x.pm.length_eq;rw[Qh] at h2;unfold Lv at h2;omega
 have gd:∀j,j<mask+1->owner.getD j (some 0)=owner.getD j none:=λj hj=>by
  have:j<owner.size:=by rw[x.sz];exact hj
  simp[QaP,this]
 obtain⟨n,hn',e2⟩:=QfO hg (i:=JE h % (mask+1)) (perturb:=JE h) (Qdt _ (Qbu _)) (Qif h) he;obtain⟨j,hj,hj0⟩:=Qnq (mask:=mask) (owner:=owner) n (Yp mask) (JE h % (mask+1)) (JE h) (by unfold Yp;omega) (by rw[e2,gd e he];exact hn);have hjs:j<owner.size:=by
  apply ZW
  intro z;simp[QaP,z] at hj0
 refine⟨j,hj,by rw[Array.size_setIfInBounds];exact x.sz,?_⟩;have e3:Lv mask (owner.setIfInBounds j (some k))=(Qa (mask+1)).filterMap λy=>if y=j then some k else owner.getD y none:=Qcc λy hy=>by
  have hy:=Qu.mp hy;have hys:y<owner.size:=by rw[x.sz];exact hy
  by_cases z:y=j
  ·subst z;simp[QaP,hys]
  ·rw[if_neg z];simp[QaP,hys,Array.getElem_setIfInBounds,Qav z]
 rw[e3];refine(Qso _ j k (by rw[<- gd j (by rw[<- x.sz];exact hjs)];exact hj0) _ (by rw[<- x.sz];exact hjs)).trans ?_
 refine(show(k::(Qa (mask+1)).filterMap λy=>owner.getD y none).Perm (k::Qa k) from x.pm.cons k).trans ?_
 rw[show Qa (k+1)=Qa k++[k] from J6];exact Qli (l₁:=[k])
theorem Qm8{mask:Nat}(hg:Qdk (mask+1)=true):∀(hs:List Int)(owner:Array (Option Nat))(k:Nat),Own mask owner k->k+hs.length<=mask+1->∃owner',hs.foldl (λacc h=>do
  let (owner,k) <- acc
  let j <- Zx mask owner (Yp mask) (JE h % (mask+1)) (JE h)
  pure (owner.setIfInBounds j (some k),k+1)) (some (owner,k))=some (owner',k+hs.length)/\Own mask owner' (k+hs.length)
 |[],owner,k,x,_=>⟨owner,rfl,x⟩
 |h::hs,owner,k,x,hl=>by
  rw[Qt] at hl;obtain⟨j,hj,y⟩:=QpU hg x (by omega) h;obtain⟨o',e,z⟩:=Qm8 hg hs _ (k+1) y (by omega);refine⟨o',?_,by rw[Qt,show k+(hs.length+1)=k+1+hs.length by omega];exact z⟩;rw[QvL,Qt,show k+(hs.length+1)=k+1+hs.length by omega,<- e]
  congr 1
  show(Zx mask owner (Yp mask) (JE h % (mask+1)) (JE h)).bind _=_;rw[hj];rfl
theorem Qud(mask:Nat):Own mask (Qf9 (mask+1) none) 0:=by
 refine⟨by simp,?_⟩;have:Lv mask (Qf9 (mask+1) none)=[]:=by
  unfold Lv;rw[List.filterMap_eq_nil_iff];intro j hj;have:=Qu.mp hj;simp[QaP,this]
 rw[this];exact ZE _
theorem QuP{mask finger moves:Nat}{led:Bool}(hg:Qdk (mask+1)=true)(ho:mask % 2=1)(hashes:Array Int)(hl:hashes.size<=mask) :
  ∃t order,Qg9 mask finger moves led true hashes=some (t,order)/\Tab t/\t.mask=mask/\t.led=led/\t.place.size=hashes.size/\order.toList.Perm (Qa hashes.size):=by
 obtain⟨owner,e,x⟩:=Qm8 hg hashes.toList (Qf9 (mask+1) none) 0 (Qud mask) (by rw[Qw];omega);rw[Qaz,Qw] at e x;have ec:Qlg mask hashes=some owner:=by
  unfold Qlg;rw[<- Array.foldl_toList];exact congrArg (λz=>z.map (·.1)) e
 have el:Qg9 mask finger moves led true hashes=some ({ mask:=mask,place:=(((Qa (mask+1)).filterMap λj=>(owner.getD j none).map (j,·)).map (·.1)).toArray,dummies:=#[],finger:=finger,led:=led,moves:=moves,plain:=true },(((Qa (mask+1)).filterMap λj=>(owner.getD j none).map (j,·)).map (·.2)).toArray):=by
  unfold Qg9;rw[ec];rfl
 have e2:((Qa (mask+1)).filterMap λj=>(owner.getD j none).map (j,·)).map (·.2)=Lv mask owner:=by
  unfold Lv;rw[Qox];exact Qcc λy _=>by cases owner.getD y none<;>rfl
 have e1:((Qa (mask+1)).filterMap λj=>(owner.getD j none).map (j,·)).map (·.1)=(Qa (mask+1)).filterMap λj=>(owner.getD j none).map λ_=>j:=by
  rw[Qox];exact Qcc λy _=>by cases owner.getD y none<;>rfl
 have len:(((Qa (mask+1)).filterMap λj=>(owner.getD j none).map (j,·)).map (·.1)).length=hashes.size:=by
  rw[Qe];have h1:=congrArg Qoj e2;rw[Qe,x.pm.length_eq,Qh] at h1;exact h1
 refine⟨_,_,el,⟨?_,?_,rfl,hg,rfl,ho⟩,rfl,rfl,by rw[Qm];exact len,by rw[Yq,e2];exact x.pm⟩
 ·show List.Pairwise (· < ·) (Z3 _).toList;rw[Yq,e1,List.pairwise_filterMap];refine Qcq.imp λ{a b} h=>?_
  intro c hc d hd;cases hoa:owner.getD a none with
  |none=>rw[hoa] at hc;cases hc
  |some _=>
   cases hob:owner.getD b none with
   |none=>rw[hob] at hd;cases hd
   |some _=>rw[hoa] at hc;rw[hob] at hd;cases hc;cases hd;exact h
 ·intro y hy;have hy:y∈(((Qa (mask+1)).filterMap λj=>(owner.getD j none).map (j,·)).map (·.1)).toArray.toList:=hy;rw[Yq,e1] at hy;obtain⟨a,ha,e⟩:=Qeh.mp hy;have:=Qu.mp ha;cases hoa:owner.getD a none with
  |none=>rw[hoa] at e;cases e
  |some _=>
   rw[hoa] at e;cases e;show a<=mask;omega
theorem QkP{α:Type}{es:Array α}{order:Array Nat}(h:order.toList.Perm (Qa es.size)):(order.filterMap (es[·]?)).toList.Perm es.toList:=by
 rw[Array.toList_filterMap];refine(h.filterMap _).trans ?_
 have:(Qa es.size).filterMap (es[·]?)=es.toList:=by
  apply Ja
  intro i;have key:∀n,n<=es.size->(Qa n).filterMap (es[·]?)=es.toList.take n:=λn=>by
   induction n with
   |zero=>intro _;rfl
   |succ n ih=>
    intro hn;rw[J6,Z5,ih (by omega),Zs];have:es[n]? = some es[n]:=by simp[show n<es.size by omega]
    simp[this]
  rw[key _ (Ql _),<- Qw,JY]
 rw[this]
structure PIn (t:SetTable) (p:ZY):Prop where
 a:p.j+p.more<=t.mask
 b:p.i<=t.mask
theorem QhB{mask i:Nat}(h:i<=mask):i+(Zr mask i - i)<=mask:=by unfold Zr;split<;>omega
theorem PIn.adv{t:SetTable}{p:ZY}(x:PIn t p):PIn t (t.advance p):=by
 unfold QbA;split
 ·exact⟨by show p.j+1+(p.more - 1)<=_;have:=x.a;omega,x.b⟩
 ·have:(Ye t.mask p.i p.perturb).1<=t.mask:=QsO (Qdt _ (Qbu _));exact⟨QhB this,this⟩
theorem PIn.stps{t:SetTable}:∀(n:Nat){p:ZY},PIn t p->PIn t (stps t n p)
 |0,_,x=>x
 |n+1,_,x=>PIn.stps n x.adv
theorem PIn.start(t:SetTable)(h:Int):PIn t (t.probeStart h):=by
 have:JE h % (t.mask+1)<=t.mask:=QsO (Qdt _ (Qbu _));exact⟨QhB this,this⟩
theorem Qtb(t:SetTable)(h:Int)(n:Nat):(stps t n (t.probeStart h)).j<=t.mask:=by
 have:=(PIn.stps n (PIn.start t h)).a;omega
def Rch(t:SetTable)(j:Nat)(h:Int):Prop:=∃n,(stps t n (t.probeStart h)).j=j/\∀m,m<n->(stps t m (t.probeStart h)).j∈t.place.toList
def tM(mask:Nat):SetTable:={ mask:=mask,place:=#[],dummies:=#[],finger:=0,led:=true,moves:=0,plain:=true }
theorem QdG:Slot "set_iterator" "__next__" "set_iterator.__next__" :=
 .of (owner := "set_iterator") (n := "__next__") (by rw[Qkr,Qeb];kernel_rfl) (by decide +kernel) (by decide +kernel) (by decide +kernel) (by first | exact .inl (by decide +kernel) | exact .inr (by decide +kernel)) (by rw[Qcl];kernel_rfl)
theorem QnB:entryFor table "set_iterator.__next__" = some YF.«set_iterator.__next__» := entryFor_of_fast (by kernel_rfl)
theorem Qxi:Manifest.owners.lookup (String.ofList ['r', 'o', 't', 'a', 'r', 'e', 't', 'i', '_', 't', 'e', 's'].reverse)=some Manifest.sig_set_iterator:=by kernel_rfl
theorem Qn7(a:Value):argsOk "set_iterator.__next__" ⟨[a],[]⟩:=by
 unfold argsOk;rw[signature?_of (id := "set_iterator.__next__") (n:=['_', '_', 't', 'x', 'e', 'n', '_', '_']) (o:=['r', 'o', 't', 'a', 'r', 'e', 't', 'i', '_', 't', 'e', 's']) (by kernel_rfl) Qxi];kernel_rfl
theorem Qu7:entryFor table "set.__iter__" = some YF.«frozenset.__iter__» := entryFor_alias (id' := "frozenset.__iter__") (by kernel_rfl) (by first | rfl | decide +kernel | (unfold QsL;simp +decide [Qof])) (by decide +kernel) (by kernel_rfl)
def IsSI(h:Heap)(I:Addr)(first:Value)(i a n ep:Nat):Prop:=∃o,h.get? I=some o/\o.cls=.type "set_iterator" /\ o.data=.fields #[first,.int i 0,.ref a,.int n 0,.int ep 0]
theorem IsSI.typeIs{s:Shared}{I:Addr}{first:Value}{i a n ep:Nat}(x:IsSI s.heap I first i a n ep):s.TypeIs (.ref I) "set_iterator" := let ⟨o,h,c,_⟩:=x;⟨o,h,c⟩
structure SetAt (h:Heap) (a:Addr) (es:Array (Int×Value)) (ep:Nat) (t:SetTable):Prop where
 at_:∃o,h.get? a=some o/\o.ExactSet/\o.data=.set es ep t
 ft:t.fits es.size=true
section
variable{prog:QB}{w:Jd}{A:Q1}{E:Value->Shared->Prop}{s:Shared}
theorem Quy{I a:Addr}{i ep slot nx:Nat}{es:Array (Int×Value)}{t:SetTable}{x:Value}{Q:Option Value->Shared->Prop}(hit:IsSI s.heap I (.int slot 0) i a es.size ep)(ha:SetAt s.heap a es ep t)
  (hN:∀(A:Q1)(E:Value->Shared->Prop)(Q':Option (Value×Nat)->Shared->Prop),Q' (some (x,nx)) s->wpAny (model prog w) A (setNext a slot i ep) Q' E s)
  (hQ:∀h',IsSI h' I (.int nx 0) (i+1) a es.size ep->Qay I s.heap h'->Q (some x) { s with heap:=h' }):wpAny (model prog w) A (pyNext (.ref I)) Q E s:=by
 obtain⟨o,ho,hc,hd⟩:=id hit;obtain⟨os,hos,hex,hds⟩:=ha.at_;unfold pyNext;refine wpAny_bind (wpAny_attempt (ZT (name:=Zf "__next__") hit.typeIs QdG (Ze QdG hit.typeIs QnB ?_ (Qn7 _))));unfold YF.«set_iterator.__next__»
 wp_walk
 rw[hd];refine Qj ?_
 dsimp only
 refine wpAny_bind (QvV hos hds ha.ft ?_);rw[if_neg (by simp)];refine wpAny_bind ?_
 refine hN _ _ _ ?_
 dsimp only
 refine wpAny_bind (Qcj ho hd (by simp) ?_);have g1:(s.heap.update I (Qkt λx=>x.setIfInBounds 0 (rawInt ↑nx))).get? I=some (Qkt (λx=>x.setIfInBounds 0 (rawInt ↑nx)) o):=JX _ ho (QcY (YH hd _));have d1:(Qkt (λx=>x.setIfInBounds 0 (rawInt ↑nx)) o).data=.fields #[.int nx 0,.int i 0,.ref a,.int es.size 0,.int ep 0]:=by rw[YH hd];simp[rawInt]
 refine wpAny_bind (Qcj g1 d1 (by simp) (Qj ⟨x,rfl,Qj (hQ _ ?_ ((ZF ..).trans (ZF ..)))⟩));exact⟨_,JX _ g1 (QcY (YH d1 _)),(Qfj ..).trans ((Qfj ..).trans hc),by rw[YH d1];simp[rawInt]⟩
theorem QxK{I a:Addr}{i ep slot:Nat}{es:Array (Int×Value)}{t:SetTable}{Q:Option Value->Shared->Prop}(hh:A.handled=none)(hit:IsSI s.heap I (.int slot 0) i a es.size ep)(ha:SetAt s.heap a es ep t)
  (hN:∀(A:Q1)(E:Value->Shared->Prop)(Q':Option (Value×Nat)->Shared->Prop),Q' none s->wpAny (model prog w) A (setNext a slot i ep) Q' E s)
  (hQ:∀h',Heap.ExtBut I s.heap h'->Q none { s with heap:=h' }):wpAny (model prog w) A (pyNext (.ref I)) Q E s:=by
 obtain⟨o,ho,hc,hd⟩:=id hit;obtain⟨os,hos,hex,hds⟩:=ha.at_;unfold pyNext;refine wpAny_bind (wpAny_attempt (ZT (name:=Zf "__next__") hit.typeIs QdG (Ze QdG hit.typeIs QnB ?_ (Qn7 _))));unfold YF.«set_iterator.__next__»
 wp_walk
 rw[hd];refine Qj ?_
 dsimp only
 refine wpAny_bind (QvV hos hds ha.ft ?_);rw[if_neg (by simp)];refine wpAny_bind ?_
 refine hN _ _ _ ?_
 dsimp only
 refine wpAny_bind (Qcj ho hd (by simp) ?_);refine wpAny_bind ?_
 simp only[newExc,newTuple];refine wpAny_bind (Jc ?_ (by size_fits));refine wpAny_bind (m:=firstArgMember _ _) (Zy (a:=Js) (by first | rfl | (simp only[firstArgMember];rfl)) ?_);refine Jc ?_ (by size_fits)
 simp only[raiseNew];refine wpAny_bind (wpAny_handled ?_)
 first | rw[show A.in1.handled=none from hh] | rw[hh]
 refine wpAny_bind (Qj (wpAny_throw ?_));refine wpAny_bind (wpAny_isInstance (T := "StopIteration") (b:=true) ⟨_,Qs _ rfl,rfl⟩ (by rw[Qcl];kernel_rfl) ?_);exact Qj (hQ _ (((ZF ..).extBut.push _).push _))
theorem QrP{a:Addr}{ep slot given:Nat}{es:Array (Int×Value)}{t:SetTable}{Q:Option (Value×Nat)->Shared->Prop}(hb:w.params.followText "set-order" = false)(ha:SetAt s.heap a es ep t)(hp:t.plain=true)(hl:t.led=true)
  (h:Q (match es[JI t.place slot]?,t.place[JI t.place slot]? with | some (_,x),some j=>some (x,j+1) | _,_=>none) s):wpAny (model prog w) A (setNext a slot given ep) Q E s:=by
 obtain⟨os,hos,hex,hds⟩:=ha.at_;unfold setNext;refine wpAny_bind (QaJ hos hds ha.ft ?_)
 dsimp only
 unfold setsByText;refine wpAny_bind (wpAny_bind (YM (Qj ?_)));rw[show(model prog w).w.params.followText "set-order" = false from hb,if_neg QD];split
 ·rename_i hdr
  exact absurd (show(!t.plain&&decide (es.size > 1))=true from hdr) (by rw[hp];simp)
 ·refine wpAny_bind ?_
  show wpAny (model prog w) A (if(!t.led && !es.isEmpty)=true then unsupported "set:maker-not-led" else pure ()) _ E s;rw[if_neg (by rw[hl];simp)];exact Qj (Qj h)
theorem QlZ{a:Addr}{ep slot given:Nat}{es:Array (Int×Value)}{t:SetTable}{Q:Option (Value×Nat)->Shared->Prop}(hb:w.params.followText "set-order" = true)(ha:SetAt s.heap a es ep t)
  (h:Q (((pickOrder (w.params.setOrder a ep) es)[given]?).map λe=>(e.2,slot)) s):wpAny (model prog w) A (setNext a slot given ep) Q E s:=by
 obtain⟨os,hos,hex,hds⟩:=ha.at_;unfold setNext;refine wpAny_bind (QaJ hos hds ha.ft ?_)
 dsimp only
 unfold setsByText;refine wpAny_bind (wpAny_bind (YM (Qj ?_)));rw[show(model prog w).w.params.followText "set-order" = true from hb,if_pos rfl,if_neg (by simp)];refine wpAny_bind ?_
 unfold setWalk;refine wpAny_bind (QaJ hos hds ha.ft ?_)
 dsimp only
 unfold setsByText;refine wpAny_bind (wpAny_bind (YM (Qj ?_)));rw[show(model prog w).w.params.followText "set-order" = true from hb,if_pos rfl];refine wpAny_bind (YM (Qj ?_));exact Qj h
theorem QhJ{α:Type}(next:Nat->Nat)(xs:Array α):(pickOrder next xs).toList.Perm xs.toList:=by
 unfold pickOrder;have go:∀(n k:Nat)(left:List α)(out:Array α),left.length=n->(Qrx next n k left out).toList.Perm (out.toList++left):=λn=>by
  induction n with
  |zero=>
   intro k left out hl;rw[Qb3.mp hl,Yj];exact ZE _
  |succ n ih=>
   intro k left out hl;have hi:next k % left.length<left.length:=Qdt _ (by omega)
   unfold Qrx;rw[Qc hi]
   dsimp only
   refine(ih (k+1) _ _ (by rw[List.length_eraseIdx,if_pos hi];omega)).trans ?_
   rw[Array.toList_push,Qfb];refine List.Perm.append_left _ ?_
   have sp:left=left.take (next k % left.length)++left[next k % left.length]::left.drop (next k % left.length+1):=by rw[<- Qir hi,Qaw]
   have pm:=(QsQ (a:=left[next k % left.length]) (l₁:=left.take (next k % left.length)) (l₂:=left.drop (next k % left.length+1))).symm;rw[<- sp,<- List.eraseIdx_eq_take_drop_succ] at pm;exact pm
 have:=go xs.size 0 xs.toList #[] (by simp)
 simpa using this
theorem Qx3{a:Addr}{ep:Nat}{es:Array (Int×Value)}{t:SetTable}{Q:Value->Shared->Prop}(ha:SetAt s.heap a es ep t)(hp:t.plain=true)
  (hQ:Q (.ref s.heap.objs.size) { s with heap:=s.heap.push { cls:=.type "set_iterator",data:=.fields #[.int 0 0,.int 0 0,.ref a,.int es.size 0,.int ep 0] } }):wpAny (model prog w) A (pyIter (.ref a)) Q E s:=by
 obtain⟨os,hos,hex,hds⟩:=ha.at_;have hT:s.TypeIs (.ref a) "set" := ⟨os,hos,hex.1⟩;refine Qzb hT PySem.F.slot_set_iter (Ze PySem.F.slot_set_iter hT Qu7 ?_ (PySem.F.args_set_iter_1 _));unfold YF.«frozenset.__iter__»
 wp_walk
 have nf:¬(t.place.size != es.size||decide (t.fill > t.mask))=true:=by
  have hf:=ha.ft;simp only[Qbt,JK,beq_iff_eq,decide_eq_true_eq] at hf;simp[hf.1,Nat.not_lt.mpr hf.2]
 rw[hds]
 dsimp only
 rw[if_neg nf];refine Qj (Qj (Qj ?_));refine wpAny_bind ?_
 unfold setDrawn;refine wpAny_bind (QaJ hos hds ha.ft ?_)
 dsimp only
 unfold setsByText;refine wpAny_bind (wpAny_bind (YM (Qj ?_)));refine Qj ?_
 split
 ·rename_i hdr
  have hdr:(!(w.params.followText "set-order")&&(!t.plain&&decide (es.size > 1)))=true:=hdr;rw[hp] at hdr;simp at hdr
 ·refine wpAny_bind (Qj ?_);refine wpAny_bind (wpAny_setEpoch_of hos hds ha.ft ?_);exact wpAny_bind (Jc (Qj ⟨_,rfl, "set_iterator",_,⟨_,Qs _ rfl,rfl⟩,QdG.lookup,hQ⟩))
theorem SetAt.at'{h h':Heap}{a:Addr}{es:Array (Int×Value)}{ep:Nat}{t:SetTable}(x:SetAt h a es ep t)(k:∀o,h.get? a=some o->h'.get? a=some o):SetAt h' a es ep t:=let ⟨o,h1,h2⟩:=x.at_;⟨⟨o,k o h1,h2⟩,x.ft⟩
theorem IsSI.at'{h h':Heap}{I:Addr}{first:Value}{i a n ep:Nat}(x:IsSI h I first i a n ep)(k:∀o,h.get? I=some o->h'.get? I=some o):IsSI h' I first i a n ep:=let ⟨o,h1,h2⟩:=x;⟨o,k o h1,h2⟩
end
structure Way (prog:QB) (w:Jd) (a:Addr) (es:Array (Int×Value)) (ep:Nat) (t:SetTable) (so:Nat->Nat) (vs:Array (Int×Value)):Prop where
 pm:vs.toList.Perm es.toList
 s0:so 0=0
 item:∀(s:Shared)(A:Q1)(E:Value->Shared->Prop)(Q:Option (Value×Nat)->Shared->Prop)(i:Nat)(e:Int×Value),SetAt s.heap a es ep t->vs[i]? = some e->Q (some (e.2,so (i+1))) s->wpAny (model prog w) A (setNext a (so i) i ep) Q E s
 fin:∀(s:Shared)(A:Q1)(E:Value->Shared->Prop)(Q:Option (Value×Nat)->Shared->Prop),SetAt s.heap a es ep t->Q none s->wpAny (model prog w) A (setNext a (so es.size) es.size ep) Q E s
theorem Way.walks{prog:QB}{w:Jd}{A:Q1}(hh:A.handled=none){a:Addr}{es:Array (Int×Value)}{ep:Nat}{t:SetTable}{so:Nat->Nat}{vs:Array (Int×Value)}(W:Way prog w a es ep t so vs)(I:Addr)(hne:a≠I)(self:∀(s:Shared)(Q:Value->Shared->Prop)(E:Value->Shared->Prop)(i:Nat),IsSI s.heap I (.int (so i) 0) i a es.size ep->Q (.ref I) s->wpAny (model prog w) A (pyIter (.ref I)) Q E s) :
  Walks prog w A I [I,a] [I] es.size (λi v=>(vs[i]?).map (·.2)=some v) (λi h=>IsSI h I (.int (so i) 0) i a es.size ep/\SetAt h a es ep t) where
 sub:=λb hb=>by simp at hb;simp[hb]
 frame:=λ_ _ _ st hk=>⟨st.1.at' λo e=>hk I (by simp) o e,st.2.at' λo e=>hk a (by simp) o e⟩
 item:=λi s Q E hi st hQ=>by
  have hl:vs.size=es.size:=by rw[<- Qw,W.pm.length_eq,Qw]
  have hv:vs[i]? = some vs[i]:=by simp[hl,hi]
  refine Quy st.1 st.2 (x:=vs[i].2) (nx:=so (i+1)) (λA E Q' q=>W.item s A E Q' i _ st.2 hv q) λh' hit' hs'=>?_
  refine hQ _ h' s.toks (by rw[hv];rfl) ⟨hit',st.2.at' λo e=>hs'.extBut a o (λz=>hne z) e⟩ λb o hb e=>hs'.extBut b o (λz=>hb (by simp[z])) e
 done:=λs Q E st hQ=>QxK hh st.1 st.2 (λA E Q' q=>W.fin s A E Q' st.2 q) λh' he'=>hQ h' s.toks λb o hb e=>he' b o (λz=>hb (by simp[z])) e
 self:=λi s Q E st hQ=>self s Q E i st.1 hQ
theorem QoD{prog:QB}{w:Jd}(hb:w.params.followText "set-order" = true)(a:Addr)(es:Array (Int×Value))(ep:Nat)(t:SetTable):Way prog w a es ep t (λ_=>0) (pickOrder (w.params.setOrder a ep) es) where
 pm:=QhJ _ _
 s0:=rfl
 item:=λs A E Q i e ha hv q=>QlZ hb ha (by rw[hv];exact q)
 fin:=λs A E Q ha q=>QlZ hb ha (by
  have hl:(pickOrder (w.params.setOrder a ep) es).size=es.size:=by rw[<- Qw,(QhJ _ _).length_eq,Qw]
  rw[ZS (by omega)];exact q)
theorem Qs2{prog:QB}{w:Jd}(hb:w.params.followText "set-order" = false)(a:Addr)(es:Array (Int×Value))(ep:Nat)(t:SetTable)(hp:t.plain=true)(hl:t.led=true)(hz:t.place.size=es.size)(so:Nat->Nat)(s0:so 0=0)(hs:∀i,i<t.place.size->so (i+1)=t.place.getD i 0+1)(hbel:∀i,i<=t.place.size->JI t.place (so i)=i):Way prog w a es ep t so es where
 pm:=ZE _
 s0:=s0
 item:=λs A E Q i e ha hv q=>QrP hb ha hp hl (by
  have hi:i<es.size:=by
   by_cases z:i<es.size
   ·exact z
   ·rw[ZS (by omega)] at hv;cases hv
  rw[hbel i (by omega),hv,show t.place[i]? = some (t.place.getD i 0) by simp[QaP,show i<t.place.size by omega]]
  dsimp only
  rw[<- hs i (by omega)];exact q)
 fin:=λs A E Q ha q=>QrP hb ha hp hl (by
  rw[hbel es.size (by omega),ZS (Ql _)];exact q)
section
variable{prog:QB}{w:Jd}{A:Q1}{E:Value->Shared->Prop}{s:Shared}
end
section
variable{prog:QB}{w:Jd}{A:Q1}{E:Value->Shared->Prop}{s:Shared}
structure TS (prog:QB) (w:Jd) (h:Heap) (a:Addr) (es:Array (Int×Value)) (ep:Nat) (t:SetTable) (ps:List (List Int×Addr)):Prop where
 at_:SetAt h a es ep t
 tab:Tab t
 ent:es.toList=ps.map λp=>(tupleKeyHash (intKind prog w) p.1,Zn p.2)
 key:∀p∈ps,IsTupleKey (intKind prog w) h p.1 p.2
 nd:(ps.map (·.1)).Nodup
 rch:∀(i j:Nat)(e:Int×Value),t.place[i]? = some j->es[i]? = some e->Rch t j e.1
 mks:t.mask=7∨t.mask=31∨t.mask=127∨t.mask=511∨t.mask=2047
 few:t.place.size*5<t.mask*3
variable{a:Addr}{es:Array (Int×Value)}{ep:Nat}{t:SetTable}{ps:List (List Int×Addr)}
theorem TS.size(x:TS prog w s.heap a es ep t ps):es.size=ps.length:=by rw[<- Qw,x.ent,Qe]
end
def Sm(m:Nat):List Nat:=(Qa 6).filter m.testBit
def so(m i:Nat):Nat:=match i with
 |0=>0
 |i+1=>(Sm m).toArray.getD i 0+1
def EsOk(es:Array (Int×Value))(S:List Nat):Prop:=∃tks:List Tok,tks.length=S.length/\es.toList=Qzv (λ(v:Nat)(tk:Tok)=>((v:Int),Z0 (v:Int) tk)) S tks
theorem EsOk.size{es:Array (Int×Value)}{S:List Nat}(h:EsOk es S):es.size=S.length:=by
 obtain⟨tks,hl,e⟩:=h;rw[<- Qw,e,List.length_zipWith,hl,Nat.min_self]
theorem QsY{S:List Nat}{e:Int×Value}:∀{tks:List Tok},e∈Qzv (λ(v:Nat)(tk:Tok)=>((v:Int),Z0 (v:Int) tk)) S tks->∃v∈S,∃tk,e=((v:Int),.int v tk):=by
 induction S with
 |nil=>intro tks h;cases tks<;>cases h
 |cons x S ih=>
  intro tks h;cases tks with
  |nil=>cases h
  |cons t tks=>
   rcases Qz.mp h with z | z
   ·exact⟨x,.head _,t,z⟩
   ·obtain⟨v,hv,r⟩:=ih z;exact⟨v,.tail _ hv,r⟩
theorem EsOk.mem{es:Array (Int×Value)}{S:List Nat}(h:EsOk es S){e:Int×Value}(he:e∈es.toList):∃v∈S,∃tk,e=((v:Int),.int v tk):=by
 obtain⟨tks,hl,e'⟩:=h;rw[e'] at he;exact QsY he
theorem SetAt.store{h:Heap}{a:Addr}{es es':Array (Int×Value)}{ep:Nat}{t t':SetTable}(x:SetAt h a es ep t)(hf:t'.fits es'.size=true):SetAt (h.update a (QsN es' t')) a es' (ep+1) t':=by
 obtain⟨o,ho,hex,hd⟩:=x.at_;have hg:=JX (QsN es' t') ho (by rw[putSet_of es' t' hd];rfl);rw[putSet_of es' t' hd] at hg;exact⟨⟨_,hg,hex,rfl⟩,hf⟩
section
variable{prog:QB}{w:Jd}{A:Q1}{E:Value->Shared->Prop}{s:Shared}
end
section
variable{prog:QB}{w:Jd}{A:Q1}{R:Qoh->Shared->Prop}{I:Addr}{fp wr:List Addr}{n:Nat}{P:Nat->Value->Prop}{St:Nat->Heap->Prop}
end
section
variable{prog:QB}{w:Jd}{A:Q1}{E:Value->Shared->Prop}{s:Shared}{a:Addr}{es:Array (Int×Value)}{ep:Nat}{t:SetTable}{ps:List (List Int×Addr)}
theorem TS.other(x:TS prog w s.heap a es ep t ps){ks:List Int}{b:Addr}(hk:IsTupleKey (intKind prog w) s.heap ks b):b≠a:=λe=>by
 subst e;obtain⟨o,ho,hex,hd⟩:=x.at_.at_;obtain⟨o',it,n,ho',hc,_⟩:=hk;rw[ho] at ho';cases ho';rw[hex.1] at hc;exact absurd hc (by decide)
end
theorem Qnl{t:SetTable}(h:t.mask=7∨t.mask=31∨t.mask=127∨t.mask=511∨t.mask=2047):Qdk (t.mask+1)=true:=by
 rcases h with h | h | h | h | h<;>rw[h]
 ·exact Qsl
 ·exact QuV
 ·exact Qp3
 ·exact Qp2
 ·exact Qnm
section
variable{prog:QB}{w:Jd}{A:Q1}{E:Value->Shared->Prop}{s:Shared}{a:Addr}{es:Array (Int×Value)}{ep:Nat}{t:SetTable}{ps:List (List Int×Addr)}
end
section
variable{prog:QB}{w:Jd}{A:Q1}{E:Value->Shared->Prop}{s:Shared}
def QaW(w:Jd):Bool := !w.params.followText "set-order"
theorem Qtf(a:Value){Q:Value->Shared->Prop}(h:Q (.ref s.heap.objs.size) { s with heap:=s.heap.push { cls:=.type "set",dict:=none,data:=.set #[] 0 (.fresh 0 0 (QaW w)) } }):codeAny (model prog w) A (.call (.builtin "set.__new__") ⟨[.type "set",a],[]⟩) (wants Q E) s:=by
 refine Qea (by
  show wpAny _ A.in1 (do checkBuiltinCall "set.__new__" ⟨[.type "set",a],[]⟩;again (.builtin "set.__new__" ⟨[.type "set",a],[]⟩)) _ _ s;refine wpAny_bind (Zy (PySem.F.newCall_set_1 a) (Qj ⟨Yb QzC _,Zc F.entry_set_new ?_⟩));rw[JH QzC _];unfold YF.«set.__new__» QsX;have hsub:=sub_set_self;obtain⟨hp,g,d,tk,os⟩:=s
  dsimp only;wp_walk
  refine YM (Qj ?_);dsimp only;simp only[newObj];refine wpAny_bind (wpAny_alloc (Qj ?_));exact Qj h)
end
section
variable{prog:QB}{w:Jd}{s:Shared}{a:Addr}{es:Array (Int×Value)}{ep:Nat}{t:SetTable}{ps:List (List Int×Addr)}
theorem Qs7(led:Bool):Tab (QcA 0 0 led):=⟨by simp[QcA],by simp[QcA],rfl,Qsl,rfl,by show 7 % 2=1;decide⟩
variable{A:Q1}{R:Qoh->Shared->Prop}{I:Addr}{fp wr:List Addr}{n:Nat}{P:Nat->Value->Prop}{St:Nat->Heap->Prop}
end
section
variable{prog:QB}{w:Jd}{A:Q1}{E:Value->Shared->Prop}{s:Shared}
end
theorem Ql0:Slot "set_iterator" "__iter__" "set_iterator.__iter__" :=
 .of (owner := "set_iterator") (n := "__iter__") (by rw[Qkr,Qeb];kernel_rfl) (by decide +kernel) (by decide +kernel) (by decide +kernel) (by first | exact .inl (by decide +kernel) | exact .inr (by decide +kernel)) (by rw[Qcl];kernel_rfl)
theorem QAL:entryFor table "set_iterator.__iter__" = some YF.«dict_keyiterator.__iter__» := entryFor_alias (id' := "dict_keyiterator.__iter__") (by kernel_rfl) (by first | rfl | decide +kernel | (unfold QsL;simp +decide [Qof])) (by decide +kernel) (by kernel_rfl)
theorem QAV(a:Value):argsOk "set_iterator.__iter__" ⟨[a],[]⟩:=by
 unfold argsOk;rw[signature?_of (id := "set_iterator.__iter__") (n:=['_', '_', 'r', 'e', 't', 'i', '_', '_']) (o:=['r', 'o', 't', 'a', 'r', 'e', 't', 'i', '_', 't', 'e', 's']) (by kernel_rfl) Qxi];kernel_rfl
theorem QuM:typeLookup (.type "set") "__len__" = pure (some (.builtin "set.__len__")):=by rw[Qkr,Qeb];kernel_rfl
section
variable{prog:QB}{w:Jd}{A:Q1}{E:Value->Shared->Prop}{s:Shared}
theorem Qte{I a:Addr}{first:Value}{i n ep:Nat}{Q:Value->Shared->Prop}(hit:IsSI s.heap I first i a n ep)(h:Q (.ref I) s):wpAny (model prog w) A (pyIter (.ref I)) Q E s:=by
 refine Qzb hit.typeIs Ql0 (Ze Ql0 hit.typeIs QAL ?_ (QAV _));show wpAny _ _ (ret (.ref I)) _ _ s;exact Qj ⟨_,rfl, "set_iterator",_,hit.typeIs,QdG.lookup,h⟩
theorem Qi7{a:Addr}{es vs:Array (Int×Value)}{ep:Nat}{t:SetTable}{so:Nat->Nat}{Q:List Value->Shared->Prop}(hh:A.handled=none)(W:Way prog w a es ep t so vs)(ha:SetAt s.heap a es ep t)(hp:t.plain=true)(hn:es.size<=sizeLine)
  (hQ:∀(h':Heap)(tk:Nat),(∀b o,s.heap.get? b=some o->h'.get? b=some o)->Q (vs.toList.map (·.2)) { s with heap:=h',toks:=tk }):wpAny (model prog w) A (collect (.ref a)) Q E s:=by
 have hlt:a<s.heap.objs.size:=let ⟨o,ho,_⟩:=ha.at_;Qq ho
 unfold collect;refine wpAny_bind (Qlp (Zc QoA ?_));rw[JH Qoz _];show wpAny _ A.in1 (newList [] >>= λl=>again (.builtin "list.__iadd__" ⟨[l,.ref a],[]⟩)) _ _ s;refine wpAny_bind (Jc (Qj ⟨Yb Qcn _,Zc Qv5 ?_⟩));rw[JH Qcn _];generalize hH:s.heap.push { cls:=.type "list",data:=.seq ([]:List Value).toArray }=H;have hHs:H.objs.size=s.heap.objs.size+1:=by rw[<- hH,Z9]
 have keep:∀b o,s.heap.get? b=some o->H.get? b=some o:=λb o e=>hH ▸ Qi _ e
 have hS:H.get? s.heap.objs.size=some { cls:=.type "list",data:=.seq ([]:List Value).toArray }:=hH ▸ Qs _ rfl;have ha1:SetAt H a es ep t:=ha.at' λo e=>keep a o e
 have hT:Qin { s with heap:=H } (.ref a) "set" := let ⟨o,ho,hx,_⟩:=ha1.at_;⟨o,ho,hx.1⟩
 show wpAny _ A.in1 (Qas (.ref s.heap.objs.size) (.ref a) (.ref s.heap.objs.size)) _ _ { s with heap:=H };unfold Qas;refine wpAny_bind (QbY hT ?_);have h1:Qey (.ref s.heap.objs.size) (.ref a)=false:=by simp[Qey,QaA hlt]
 have h2:(YQ "set" == YQ "list")=false:=by decide
 have h3:(YQ "set" == YQ "tuple")=false:=by decide
 simp only[h1,h2,h3,Bool.or_false,Qaj,if_false];refine wpAny_bind (Qx3 ha1 hp ?_);generalize hH2:Heap.push H { cls:=.type "set_iterator",data:=.fields #[.int 0 0,.int 0 0,.ref a,.int es.size 0,.int ep 0] }=H2;have keep2:∀b o,H.get? b=some o->H2.get? b=some o:=λb o e=>hH2 ▸ Qi _ e
 have hT2:Qin { s with heap:=H2 } (.ref a) "set" := let ⟨o,ho,hc⟩:=hT;⟨o,keep2 a o ho,hc⟩
 have hI:IsSI H2 H.objs.size (.int (so 0) 0) 0 a es.size ep:=⟨_,hH2 ▸ Qs _ rfl,rfl,by rw[W.s0];rfl⟩;refine wpAny_bind (J3 ?_);show wpAny _ A.in1 _ _ _ { s with heap:=H2 };unfold Builtin.List.listLengthHint;refine wpAny_bind (wpAny_specialOf hT2 QuM ?_)
 wp_delta
 refine wpAny_bind (wpAny_isInstance (b:=true) hT2 (by rw[Qcl];kernel_rfl) ?_);show wpAny _ A.in1 (typeOf (Zn a) >>= _) _ _ _;refine wpAny_bind (QbY hT2 (Qj ?_));show wpAny _ A.in1 (rule "list.extend.makes-room" >>= λ_=>Builtin.List.listTouch (.ref s.heap.objs.size) >>= λ_=>again (.builtin "list.extend.loop" ⟨[.ref s.heap.objs.size,.ref H.objs.size,.ref s.heap.objs.size],[]⟩)) _ _ _;refine wpAny_bind (wpAny_rule (wpAny_bind ?_));show wpAny _ A.in1 (updateSeq s.heap.objs.size (·.push .none) >>= λ_=>updateSeq s.heap.objs.size (·.pop)) _ _ _;have hS1:=keep2 _ _ hS;refine wpAny_bind (Qby hS1 rfl ?_);have hS2:=JX (Zg (·.push Js)) hS1 rfl;refine Qby hS2 rfl ?_
 have hS3:=JX (Zg (·.pop)) hS2 rfl;generalize hH3:(H2.update s.heap.objs.size (Zg (·.push Js))).update s.heap.objs.size (Zg (·.pop))=H3 at hS3 ⊢;have oth:∀b o,b≠s.heap.objs.size->H2.get? b=some o->H3.get? b=some o:=λb o hb e=>hH3 ▸ (J5 _ _ (Qav hb)).trans ((J5 _ _ (Qav hb)).trans e)
 have hIS:H.objs.size≠s.heap.objs.size:=by omega
 have hne:a≠H.objs.size:=by rw[hHs];exact QL (Ym hlt)
 have hSf:s.heap.objs.size∉[H.objs.size,a]:=by simp only[Qz,JJ,or_false,not_or];exact⟨by omega,QaA hlt⟩
 have WW:=(Way.walks (A:=A.in1) hh W H.objs.size hne λs Q E i st q=>Qte st q).toS;refine Qj ⟨Yb F.plain_extend_loop _,codeAny_extend_loopS WW hn _ hSf _ es.size 0 { s with heap:=H3 } _ _ rfl (Q9 _) ⟨hI.at' λo e=>oth _ o hIS e,ha1.at' λo e=>oth a o (QL hlt) (keep2 a o e)⟩ hS3 (ItemsOf.nil _) λs' acc' c' hm hS' hacc=>?_⟩;show wpAny _ A (load s.heap.objs.size >>= _) _ _ s';refine wpAny_bind (Qzc hS' (Qj ?_));have hl:vs.size=es.size:=by rw[<- Qw,W.pm.length_eq,Qw]
 have he:acc'.toList=vs.toList.map (·.2):=by
  apply Ja
  intro j;rw[Qo,QcC,QcC];by_cases z:j<acc'.size
  ·have:=hacc.2 j acc'[j] (by simp[z]);rw[this];simp[z]
  ·rw[ZS (by omega),ZS (by have:=hacc.1;omega)];rfl
 show Q acc'.toList s';rw[he];have es':s'={ s with heap:=s'.heap,toks:=s'.toks }:=by
  obtain⟨hp',g',d',tk',os'⟩:=s';have e1:=hm.gens;have e2:=hm.drawn;have e3:=hm.os;simp only at e1 e2 e3;rw[e1,e2,e3]
 rw[es'];refine hQ _ _ λb o e=>?_
 have hb:=Qq e;refine hm.heap b o ?_ (oth b o (QL hb) (keep2 b o (keep b o e)))
 simp only[Qz,JJ,or_false,not_or];exact⟨QL hb,by rw[hHs];exact QL (Ym hb)⟩
end
end Zt
namespace Zt
open PySem.W PySem.Calls Rs
section
variable{prog:QB}{w:Jd}{A:Q1}{E:Value->Shared->Prop}{s:Shared}
end
end Zt
namespace L2
open Zt
section
variable{X:Cx}
end
end L2
namespace Dl
open L2 _root_.Rd Rk Zt
section
variable{X:Cx}{E:XK}
end
end Dl
namespace L2
open PySem.Calls _root_.Rd _root_.Rk _root_.Rs Rt Dl
section
variable{X:Cx}
end
end L2
namespace Zt
section
variable{prog:QB}{w:Jd}{A:Q1}{E:Value->Shared->Prop}{s:Shared}
theorem Qs1{a:Addr}{es:Array (Int×Value)}{ep:Nat}{t:SetTable}(hs:SetAt s.heap a es ep t)(T:Tab t)(hl:t.led=QaW w):∃so vs,Way prog w a es ep t so vs:=by
 have hz:t.place.size=es.size:=by
  have:=hs.ft;unfold Qbt at this;exact eq_of_beq (Jf.mp this).1
 cases hb:w.params.followText "set-order" with
 |true=>exact⟨_,_,QoD hb a es ep _⟩
 |false=>
  have hl:t.led=true:=by rw[hl];unfold QaW;rw[hb];rfl
  let so:Nat->Nat:=λi=>match i with
   |0=>0
   |i+1=>t.place.getD i 0+1
  refine⟨so,es,Qs2 hb a es ep t T.pl hl hz so rfl (λi hi=>rfl) (λi hi=>?_)⟩;obtain⟨b1,b2,b3⟩:=Qch T.pw (so i);cases i with
  |zero=>
   cases hB:JI t.place (so 0) with
   |zero=>rfl
   |succ k=>
    have:=b2 0 (by omega) (by omega);exact absurd this (Qhj _)
  |succ i=>
   have e:so (i+1)=t.place[i]+1:=by show t.place.getD i 0+1=_;simp[QaP,show i<t.place.size by omega]
   rcases ZQ (JI t.place (so (i+1))) (i+1) with z | z | z
   ·have h1:=b3 i (by omega) (by omega);omega
   ·exact z
   ·have hi2:i+1<t.place.size:=by omega
    have h1:=b2 (i+1) hi2 z;have:=Jq.mp T.pw i (i+1) (by simp;omega) (by simp;omega) (by omega);simp only[J1] at this;omega
end
end Zt
namespace Rk
open L2 _root_.Rd Dl Rt
theorem QyB{items:List Qb}{wg:DG}{wt:DT}{we:DE}{δ:Sts}{Q:Qb->Prop}(G:Qb->Qb)
  (h:∀d∈items,∀(k1:Prop)(k2:Qb->Prop),k1->k2 (G d)->wg d δ λδ4=>wt δ4 (λb=>if b=true then we δ4 k2 XF else k1) XF)(q:∀p:Nat->Bool,Q (.list (((Qa items.length).filter p).map λi=>G (items.getD i .none)))):Qg7 items wg wt we δ Q:=by
 unfold Qg7;refine⟨λi acc=>∃p:Nat->Bool,acc=((Qa i).filter p).map λi=>G (items.getD i .none),⟨λ_=>false,rfl⟩,λi acc d hd ⟨p,e⟩=>?_,λacc ⟨p,e⟩=>by rw[e];exact q p⟩;have ed:items.getD i .none=d:=by rw[Qd,hd];rfl
 have same:∀b,(Qa i).filter (λn=>if n=i then b else p n)=(Qa i).filter p:=λb=>QbG λn hn=>if_neg (by have:=Qu.mp hn;omega)
 refine h d (Jo hd) _ _ ⟨λn=>if n=i then false else p n,?_⟩ ⟨λn=>if n=i then true else p n,?_⟩
 ·rw[J6,Qbk,same,Jz (by simp),QvM,Yj];exact e
 ·rw[J6,Qbk,same,Jy (by simp),QvM,JO,<- e];show acc++[G d]=acc++[G (items.getD i .none)];rw[ed]
def tN(ns:List Int):Qb:=.tuple (ns.map Qk)
end Rk
namespace L2
open Zt _root_.Rd _root_.Rk Dl Rt
section
variable{X:Cx}
end
end L2
namespace Dl
open L2 _root_.Rd Rk Zt Rt
section
variable{X:Cx}{E:XK}
end
end Dl
namespace Zt
def entI(p:Int×Tok):Int×Value:=(hashInt p.1,Z0 p.1 p.2)
structure TIt (h:Heap) (a:Addr) (ps:List (Int×Tok)) (led:Bool):Prop where
 ex:∃es ep t,SetAt h a es ep t/\Tab t/\t.led=led/\es.toList=ps.map entI/\(ps.map (·.1)).Nodup/\(t.mask=7∨t.mask=31∨t.mask=127∨t.mask=511∨t.mask=2047)/\t.place.size*5<t.mask*3
theorem TIt.at'{h h':Heap}{a:Addr}{ps:List (Int×Tok)}{led:Bool}(x:TIt h a ps led)(k:∀o,h.get? a=some o->h'.get? a=some o):TIt h' a ps led:=by
 obtain⟨es,ep,t,sa,r⟩:=x.ex;exact⟨es,ep,t,sa.at' k,r⟩
theorem Qwd{h:Heap}{a:Addr}{led:Bool}(ho:h.get? a=some { cls:=.type "set",dict:=none,data:=.set #[] 0 (.fresh 0 0 led) }):TIt h a [] led:=
 ⟨#[],0,QcA 0 0 led,⟨⟨_,ho,⟨rfl,rfl,rfl⟩,rfl⟩,by cases led<;>rfl⟩,Qs7 _,rfl,rfl,Qbv,.inl rfl,by show 0*5<7*3;decide⟩
section
variable{prog:QB}{w:Jd}{A:Q1}{E:Value->Shared->Prop}{s:Shared}
theorem Qo7{t:SetTable}{n:Nat}(h:t.fits n=true):t.place.size=n:=by
 unfold Qbt at h;exact eq_of_beq (Jf.mp h).1
theorem Qp6{t:SetTable}(T:Tab t)(hm:t.mask=7∨t.mask=31∨t.mask=127∨t.mask=511∨t.mask=2047)(hs:t.place.size<=t.mask)(h:Int):∃j,t.freeSlot h=some (j,false)/\j∉t.place.toList/\j<=t.mask:=by
 obtain⟨j0,hj0,hj1⟩:=T.room hs;obtain⟨n,hn,en⟩:=QkD t (Qnl hm) h hj0;obtain⟨k,_,q⟩:=QuX T (λ_=>h+1) h n (10*Yp t.mask) (t.probeStart h) hn (by rw[en];exact T.slot_no hj1) rfl;rcases q with⟨q1,q2⟩ | ⟨_,i,_,_,q3⟩
 ·refine⟨_,?_,T.slot_e q2,Qtb t h k⟩;unfold SetTable.freeSlot;rw[show t.probe (λ_=>h+1) h (t.probeStart h)=some (.empty (stps t k (t.probeStart h)).j none) from q1];rfl
 ·have q3:h+1=h:=q3;omega
theorem add_int{a:Addr}{ps:List (Int×Tok)}{led:Bool}{k:Int}{tk:Tok}{Q:Bool->Shared->Prop}(x:TIt s.heap a ps led)(hl:ps.length<1000)
  (h:∀h' b ps',Qay a s.heap h'->TIt h' a ps' led->((k∈ps.map (·.1)/\ps'=ps)∨(k∉ps.map (·.1)/\ps'.Perm ((k,tk)::ps)))->Q b { s with heap:=h' }):wpAny (model prog w) A (setAddHashed a (.int k tk) (hashInt k)) Q E s:=by
 obtain⟨es,ep,t,sa,T,hled,ent,nd,mks,few⟩:=x.ex;obtain⟨o,ho,hex,hd⟩:=sa.at_;have sz:es.size=ps.length:=by rw[<- Qw,ent,Qe]
 have psz:t.place.size=ps.length:=by rw[Qo7 sa.ft,sz]
 have hel:ElemsOf (intKind prog w) es.toList:=λe he=>by
  rw[ent] at he;obtain⟨p,hp,rfl⟩:=QQ.mp he;exact⟨⟨p.1,Qhh _ _ _ _,rfl⟩,rfl⟩
 have hb:es.size<scanBound:=by unfold scanBound;omega
 unfold setAddHashed setAddHashedIn;refine J3 (wpAny_bind (QaJ ho hd sa.ft ?_))
 dsimp only
 rw[byScan_of (knd:=intKind prog w) (x:=.int k tk) rfl hb hel,if_pos rfl];unfold setAddByScan;refine wpAny_bind (wpAny_bind (wpAny_rule (wpAny_bind (wpAny_setScan_of (knd:=intKind prog w) (k:=k) (Qhh _ _ _ _) ho hd sa.ft hel ?_))));cases hr:List.findIdx? (λe=>(intKind prog w).is k e.2) es.toList with
 |some j=>
  obtain⟨hj,hpj,_⟩:=List.findIdx?_eq_some_iff_getElem.mp hr
  have hin:∀e,e∈es.toList->e∈ps.map entI:=λe he=>by rw[ent] at he;exact he
  obtain⟨p,hp,ee⟩:=QQ.mp (hin _ (Z1 hj));have hpj:(intKind prog w).is k (es.toList[j]).2=true:=hpj;rw[<- ee] at hpj;have e2:p.1=k:=(intKind prog w).inj (.int p.1 p.2) p.1 k (Qhh _ _ _ _) hpj
  dsimp only
  refine Qj (Qj ?_);have e:s={ s with heap:=s.heap }:=by cases s;rfl
  rw[e];exact h s.heap false ps (Qit a s.heap) x (.inl ⟨QQ.mpr ⟨p,hp,e2⟩,rfl⟩)
 |none=>
  have nk:k∉ps.map (·.1):=λhk=>by
   obtain⟨p,hp,e⟩:=QQ.mp hk;have:=List.findIdx?_eq_none_iff.mp hr (entI p) (by rw[ent];exact QQ.mpr ⟨p,hp,rfl⟩)
   rw[show(entI p).2=Z0 k p.2 by rw[<- e];rfl,Qhh] at this;cases this
  obtain⟨j,fj,hj,hjm⟩:=Qp6 T mks (by omega) (hashInt k);obtain⟨T1,pl,m1,m2,m3,m4⟩:=T.put hj hjm;have hle:(t.put j).2<=t.place.toList.length:=by
   rw[Qw];exact(Qch T.pw j).1
  have hsz:(t.put j).1.place.size=ps.length+1:=by
   rw[<- Qw,pl,<- psz,<- Qw,Qy,Qt,Yw,QaI];omega
  have hent:(Qaf es (t.put j).2 (hashInt k,Z0 k tk)).toList=(ps.take (t.put j).2++(k,tk)::ps.drop (t.put j).2).map entI:=by
   rw[Qf1,ent,JO,QY,Qei,List.map_drop];rfl
  have hpm:(ps.take (t.put j).2++(k,tk)::ps.drop (t.put j).2).Perm ((k,tk)::ps):=by
   refine QsQ.trans ?_
   rw[Qaw]
  have hs1:(Qaf es (t.put j).2 (hashInt k,Z0 k tk)).size=ps.length+1:=by
   rw[<- Qw,hent,Qe,hpm.length_eq,Qt]
  have hfew:(t.put j).1.place.size<=(t.put j).1.mask:=by rw[hsz,m1,<- psz];omega
  have ft:(t.put j).1.fits (Qaf es (t.put j).2 (hashInt k,Z0 k tk)).size=true:=by
   unfold Qbt Qha;rw[m4,hsz,hs1];rw[hsz] at hfew;simp[hfew]
  have hnd:((ps.take (t.put j).2++(k,tk)::ps.drop (t.put j).2).map (·.1)).Nodup:=(hpm.map (·.1)).nodup_iff.mpr (by rw[QY];exact JL.mpr ⟨nk,nd⟩);have hfill:(t.put j).1.fill=ps.length+1:=by unfold Qha;rw[m4,hsz];rfl
  have lay:layNew t es (hashInt k) (.int k tk)=(Qaf es (t.put j).2 (hashInt k,.int k tk),(t.put j).1,false,false):=by
   unfold layNew;rw[fj]
   dsimp only
   unfold SetTable.orStandIn;rw[ft];rfl
  have sa1:=sa.store ft;generalize hpt:t.put j=pt at *;obtain⟨t1,p1⟩:=pt
  dsimp only at *
  generalize he1:Qaf es p1 (hashInt k,Z0 k tk)=es1 at *;generalize hq1:ps.take p1++(k,tk)::ps.drop p1=ps1 at *;have lp1:ps1.length=ps.length+1:=by rw[hpm.length_eq,Qt]
  rw[lay]
  dsimp only
  refine wpAny_bind (Zy (a:=()) rfl ?_);rw[if_pos T1.pl,hashByValue_scannable 8 (x:=.int k tk) rfl];refine wpAny_bind (Qj ?_);have pk:plainKind (.int k tk)=true:=rfl;simp only[pk,if_true];have sb1:=ZF s.heap a (QsN es1 t1);refine wpAny_bind (Qy9 ho hd ?_ (by rw[hs1,Yk];omega));by_cases z:t1.tooFull=true
  ·rw[if_pos (by rw[z];rfl)];have z':t1.fill*5≥t1.mask*3:=of_decide_eq_true z;rw[hfill,m1] at z';obtain⟨m,hw,hm,hf⟩:∃m,SetTable.sizeAbove (Qft (ps.length+1))=m+1/\(m=7∨m=31∨m=127∨m=511∨m=2047)/\(ps.length+1)*5<m*3:=by
    rcases mks with e | e | e | e | e
    ·have:ps.length=4:=by omega
     rw[this];exact⟨31,by decide,by decide,by decide⟩
    ·have:ps.length=18:=by omega
     rw[this];exact⟨127,by decide,by decide,by decide⟩
    ·have:ps.length=76:=by omega
     rw[this];exact⟨511,by decide,by decide,by decide⟩
    ·have:ps.length=306:=by omega
     rw[this];exact⟨2047,by decide,by decide,by decide⟩
    ·omega
   have hg:Qdk (m+1)=true:=Qnl (t:=tM m) hm;obtain⟨t2,order,el,T2,n1,n2,n3,n4⟩:=QuP (finger:=t1.finger) (moves:=t1.movedTo m) (led:=t1.led) hg (by omega) (es1.map (·.1)) (by rw[QvQ,hs1];omega);rw[QvQ] at n3 n4;have pe:=QkP (es:=es1) n4;have sz2:(order.filterMap (es1[·]?)).size=es1.size:=by rw[<- Qw,pe.length_eq,Qw]
   have erl:t1.relaid (es1.map (·.1)) (Qft es1.size)=some (t2,order):=by
    unfold SetTable.relaid;rw[hs1,hw,YJ,T1.pl];exact el
   have fit:t2.fits (order.filterMap (es1[·]?)).size=true:=by
    unfold Qbt Qha;rw[T2.dm,n3,sz2,hs1,n1];simp;omega
   have rl:relayAll t1 es1 (Qft es1.size)=(order.filterMap (es1[·]?),t2,false):=by
    unfold relayAll;rw[erl]
    dsimp only
    rw[fit,show coversAll order es1.size=true from QcS.mpr n4];rfl
   rw[rl]
   dsimp only
   refine wpAny_bind (Zy (a:=()) rfl ?_);obtain⟨o1,ho1,hex1,hd1⟩:=sa1.at_;refine wpAny_bind (Qy9 ho1 hd1 ?_ (by rw[sz2,hs1,Yk];omega));refine Qj ?_
   dsimp only
   obtain⟨ps2,pp,e2⟩:∃ps2:List (Int×Tok),ps2.Perm ps1/\(order.filterMap (es1[·]?)).toList=ps2.map entI:=by
    rw[hent] at pe;obtain⟨T',p',e'⟩:=Rt.Qd5 entI pe (T:=ps1) rfl;exact⟨T',p',e'⟩
   exact Qj (h _ _ ps2 (sb1.trans (ZF _ a _)) ⟨_,_,t2,sa1.store fit,T2,n2.trans (m2.trans hled),e2,(pp.map (·.1)).nodup_iff.mpr hnd,by rw[n1];exact hm,by rw[n3,hs1,n1];exact hf⟩ (.inr ⟨nk,pp.trans hpm⟩))
  ·rw[if_neg (by rw[Bool.eq_false_iff.mpr z];decide)];have z':¬t1.fill*5≥t1.mask*3:=λc=>z (decide_eq_true c)
   rw[hfill] at z';refine Qj ?_
   dsimp only
   exact Qj (h _ _ ps1 sb1 ⟨_,_,t1,sa1,T1,m2.trans hled,hent,hnd,by rw[m1];exact mks,by rw[hsz];omega⟩ (.inr ⟨nk,hpm⟩))
end
structure TIv (h:Heap) (a:Addr) (vals:List Int) (led:Bool):Prop where
 ex:∃ps,TIt h a ps led/\ps.length<=vals.length/\∀v,v∈ps.map (·.1)↔v∈vals
theorem TIv.at'{h h':Heap}{a:Addr}{vals:List Int}{led:Bool}(x:TIv h a vals led)(k:∀o,h.get? a=some o->h'.get? a=some o):TIv h' a vals led:=by
 obtain⟨ps,t,r⟩:=x.ex;exact⟨ps,t.at' k,r⟩
section
variable{prog:QB}{w:Jd}{A:Q1}{R:Qoh->Shared->Prop}{I:Addr}{fp wr:List Addr}{n:Nat}{P:Nat->Value->Prop}{St:Nat->Heap->Prop}
theorem QlJ(W:Walks prog w A.in1 I fp wr n P St)(S:Addr)(hSf:S∉fp){led:Bool}(val:Nat->Int)(hval:∀i v,P i v->∃t,v=.int (val i) t)(h6:n<=900) :
  ∀(k i:Nat)(s:Shared),n - i=k->i<=n->St i s.heap->TIv s.heap S ((Qa i).map val) led ->
   (∀h' tk,(∀b o,b∉S::wr->s.heap.get? b=some o->h'.get? b=some o)->TIv h' S ((Qa n).map val) led->R (.ok (.ret .none)) { s with heap:=h',toks:=tk }) ->
   codeAny (model prog w) A (.builtin "set.update.loop" ⟨[.ref S,.ref I],[]⟩) R s:=by
 have hSw:S∉wr:=λz=>hSf (W.sub _ z)
 intro k;induction k with
 |zero=>
  intro i s hk hi hst hS hR;obtain rfl:i=n:=by omega
  refine Zc QbD ?_
  rw[JH YB _];show wpAny _ A.in1 (pyNext (.ref I) >>= _) _ _ s;refine wpAny_bind (W.done s _ _ hst λh' tk hk'=>Qj (hR h' tk (λb o hb e=>hk' b o (λz=>hb (Ju _ z)) e) (hS.at' λo e=>hk' S o hSw e)))
 |succ k ih=>
  intro i s hk hi hst hS hR;have hlt:i<n:=by omega
  refine Zc QbD ?_
  rw[JH YB _];show wpAny _ A.in1 (pyNext (.ref I) >>= _) _ _ s;refine wpAny_bind (W.item i s _ _ hlt hst λv h' tk hP hst' hk'=>?_);obtain⟨t,rfl⟩:=hval i v hP;have hS':=hS.at' λo e=>hk' S o hSw e
  show wpAny _ A.in1 (holding [_] (setAdd S _) >>= _) _ _ _;refine wpAny_bind (J3 ?_);unfold setAdd;refine J3 (wpAny_bind ((intKind prog w).pyHash (k:=val i) (Qhh _ _ _ _) ?_));obtain⟨ps,tps,lps,mps⟩:=hS'.ex;rw[Qe,Qh] at lps;refine add_int (s:={ s with heap:=h',toks:=tk+1 }) tps (by omega) λh2 b ps2 hsb ht2 hc=>?_
  have er:(Qa (i+1)).map val=(Qa i).map val++[val i]:=by rw[J6,JO];rfl
  have hS2:TIv h2 S ((Qa (i+1)).map val) led:=by
   refine⟨ps2,ht2,?_,λv=>?_⟩
   ·rw[Qe,Qh];rcases hc with⟨_,rfl⟩ | ⟨_,pp⟩
    ·omega
    ·rw[pp.length_eq,Qt];omega
   ·rw[er,Yh,Ji,<- mps v];rcases hc with⟨hin,rfl⟩ | ⟨_,pp⟩
    ·exact⟨.inl,λz=>z.elim id λe=>by rw[e];exact hin⟩
    ·rw[(pp.map (·.1)).mem_iff,QY,Qz];exact⟨λz=>z.elim .inr .inl,λz=>z.elim .inr .inl⟩
  refine Qj ⟨Yb YB _,ih (i+1) _ (by omega) hlt (W.frame _ h' _ hst' λb hb o e=>?_) hS2 λh3 tk3 hk3 hS3=>hR h3 tk3 (λb o hb e=>?_) hS3⟩
  ·show h2.get? b=some o;rw[hsb.2 b (λz:b=S=>hSf (by rw[<- z];exact hb))];exact e
  ·refine hk3 b o hb ?_
   show h2.get? b=some o;rw[hsb.2 b (λz:b=S=>hb (by rw[z];exact Zj))];exact hk' b o (λz=>hb (Ju _ z)) e
end
section
variable{prog:QB}{w:Jd}{A:Q1}{E:Value->Shared->Prop}{s:Shared}
theorem call_setI{l:Addr}{items:Array Value}{n:Nat}{val:Nat->Int}{Q:Value->Shared->Prop}(hh:A.handled=none)(hl:s.heap.IsList l items)(hn:items.size=n)(hval:∀(i:Nat)(v:Value),items[i]? = some v->∃t,v=Z0 (val i) t)(h6:n<=900)
  (h:∀(h':Heap)(tk:Nat),TIv h' s.heap.objs.size ((Qa n).map val) (QaW w)->(∀b o,b<s.heap.objs.size->s.heap.get? b=some o->h'.get? b=some o)->Q (.ref s.heap.objs.size) { s with heap:=h',toks:=tk }):wpAny (model prog w) A (call (.type "set") [.ref l]) Q E s:=by
 obtain⟨c,tl,hmro⟩:=Qai.mro;have hmade:=Qai.made;have hsub:=Qai.sub;refine wpAny_call (Qea (by
  show wpAny _ _ (callAny (.type "set") _) _ _ _;refine Qj ⟨Code.quiet_builtin _ (by decide +kernel),Zc F.entry_type_call ?_⟩;rw[Around.under_plain (weight_type_call_type "set" [.ref l] []) rfl];have h1:=Qai.notType;have h2:=Qai.canCreate;have hct:=F.typeCall_set_1 (.ref l)
  repeat (any_goals (first | assumption | wp_step))
  refine Qb0 (Qtf (.ref l) (E:=E) (Q:=λobj s₁=>obj=.ref s.heap.objs.size/\s₁={ s with heap:=s.heap.push { cls:=.type "set",dict:=none,data:=.set #[] 0 (.fresh 0 0 (QaW w)) } }) ⟨rfl,rfl⟩) λr s₁ hr=>?_
  cases r with
  |error e=>exact hr
  |ok fl=>
   cases fl with
   |ret obj=>
    obtain⟨rfl,rfl⟩:=hr;have hS:(s.heap.push { cls:=.type "set",dict:=none,data:=.set #[] 0 (.fresh 0 0 (QaW w)) }).get? s.heap.objs.size=some { cls:=.type "set",dict:=none,data:=.set #[] 0 (.fresh 0 0 (QaW w)) }:=Qs _ rfl;have hT:Qin { s with heap:=s.heap.push { cls:=.type "set",dict:=none,data:=.set #[] 0 (.fresh 0 0 (QaW w)) } } (.ref s.heap.objs.size) "set" := ⟨_,hS,rfl⟩;have hli:=Qai.init.lookup;have hbi:=Qai.init.bind (.ref s.heap.objs.size)
    repeat (any_goals (first | assumption | wp_step))
    refine Qb0 (codeAny_call_builtin (R:=wants (λr s₂=>r=.none/\∃h' tk,s₂={ s with heap:=h',toks:=tk }/\TIv h' s.heap.objs.size ((Qa n).map val) (QaW w)/\(∀b o,b<s.heap.objs.size->s.heap.get? b=some o->h'.get? b=some o)) E) Qai.init.plain F.entry_set_init (check_set_init_1 hT ?_)) λr₂ s₂ hr₂=>?_
    ·obtain⟨⟨ocls,odict,odata,oslots⟩,hol,hcl,nl,hdl⟩:=hl;simp only at hcl hdl;subst hcl hdl;have hol':(s.heap.push { cls:=.type "set",dict:=none,data:=.set #[] 0 (.fresh 0 0 (QaW w)) }).get? l=some { cls:=.type "list",dict:=odict,data:=.seq items nl,slots:=oslots }:=Qi _ hol;have hsls:=F.sub_list_set;have hslf:=F.sub_list_frozenset;have hne:(YQ "list" == YQ "dict")=false:=by decide
     have hl1:(s.heap.push { cls:=.type "set",dict:=none,data:=.set #[] 0 (.fresh 0 0 (QaW w)) }).IsList l items:=⟨_,hol',rfl,nl,rfl⟩;unfold YF.«set.__init__» noKeywords QsW;generalize hPI:pyIter=PI;wp_walk;subst hPI;refine Qcx hl1 (wpAny_bind (Qlp ?_));have hlS:l<s.heap.objs.size:=Qq hol;have hneI:l≠(s.heap.push { cls:=.type "set",dict:=none,data:=.set #[] 0 (.fresh 0 0 (QaW w)) }).objs.size:=by rw[Z9];exact QL (Ym hlS)
     have hSf:s.heap.objs.size∉[(s.heap.push { cls:=.type "set",dict:=none,data:=.set #[] 0 (.fresh 0 0 (QaW w)) }).objs.size,l]:=by
      rw[Z9];simp only[Qz,JJ,or_false,not_or];exact⟨QL (QvG _),QaA hlS⟩
     have w0:=Walks.list (prog:=prog) (w:=w) (A:=A.in1.in1.in1) (by simp[hh]) (s.heap.push { cls:=.type "set",dict:=none,data:=.set #[] 0 (.fresh 0 0 (QaW w)) }).objs.size l hneI items;rw[hn] at w0;refine QlJ (led:=QaW w) w0 s.heap.objs.size hSf val (λi v hv=>hval i v hv) h6 n 0 _ (by omega) (Q9 _) ⟨⟨_,Qs _ rfl,rfl,rfl⟩,hl1.push _⟩ ?hS0 ?hR
     case hS0=>
      exact⟨[],Qwd (Qi _ hS),Q9 _,λv=>Iff.rfl⟩
     case hR=>
      intro h' tk hk hS';refine Qj ?_
      refine Qj ⟨rfl,h',tk,rfl,hS',λb o hb e=>?_⟩;have hb2:b≠(s.heap.push { cls:=.type "set",dict:=none,data:=.set #[] 0 (.fresh 0 0 (QaW w)) }).objs.size:=by rw[Z9];exact QL (Ym hb)
      exact hk b o (by simp only[Qz,JJ,or_false,not_or];exact⟨QL hb,hb2⟩) (Qi _ (Qi _ e))
    ·cases r₂ with
     |error e=>exact hr₂
     |ok fl₂=>
      cases fl₂ with
      |ret r=>
       obtain⟨rfl,h',tk,rfl,hS',hk'⟩:=hr₂
       repeat (any_goals (first | assumption | wp_step))
       exact h _ _ hS' hk'
      |_=>exact hr₂
   |_=>exact hr))
end
section
open PySem.W PySem.Calls Rs
variable{prog:QB}{w:Jd}{A:Q1}{E:Value->Shared->Prop}{s:Shared}
theorem QhX:∀(l:List (Int×Tok)),Y2 ((l.map entI).map (·.2)) (l.map (·.1))
 |[]=>.nil
 |e::l=>.cons _ e.2 (QhX l)
theorem Qi8{a:Addr}{vals:List Int}{Q:List Value->Shared->Prop}(hh:A.handled=none)(hl:vals.length<=900)(x:TIv s.heap a vals (QaW w))
  (hQ:∀(h':Heap)(tk:Nat)(us:List Value)(ns:List Int),(∀b o,s.heap.get? b=some o->h'.get? b=some o)->Y2 us ns->ns.Nodup->ns.length<=vals.length->(∀v,v∈ns↔v∈vals)->Q us { s with heap:=h',toks:=tk }):wpAny (model prog w) A (collect (.ref a)) Q E s:=by
 obtain⟨ps,tps,lps,mps⟩:=x.ex;obtain⟨es,ep,t,sa,T,hled,ent,nd,mks,few⟩:=tps.ex;obtain⟨so,vs,W⟩:=Qs1 (prog:=prog) (w:=w) sa T hled;have sz:es.size=ps.length:=by rw[<- Qw,ent,Qe]
 refine Qi7 hh W sa T.pl (by rw[sz,Yk];omega) λh' tk kp=>?_
 have pm:=W.pm;rw[ent] at pm;obtain⟨T',p',e'⟩:=Rt.Qd5 entI pm (T:=ps) rfl;have pn:=p'.map (·.1);refine hQ h' tk _ (T'.map (·.1)) kp (by rw[e'];exact QhX T') (pn.nodup_iff.mpr nd) (by rw[Qe,p'.length_eq];exact lps) λv=>?_
 rw[pn.mem_iff];exact mps v
theorem QkE{Q:Value->Shared->Prop}{a:Addr}{vals:List Int}(hh:A.handled=none)(hl:vals.length<=900)(x:TIv s.heap a vals (QaW w))
  (h:∀(h':Heap)(tk:Nat)(us:List Value)(ns:List Int),(∀b x,s.heap.get? b=some x->h'.get? b=some x)->Y2 us ns->ns.Nodup->ns.length<=vals.length->(∀v,v∈ns↔v∈vals)->∀(P:PySem.Fin->Shared->Prop)(E':Value->Shared->Prop),(∀s2,Q (.ref h'.objs.size) s2->P (.done (.ret .none)) s2) ->
   wpAny (model prog w) A.in1.in1 (YF.«list.sort» ⟨[.ref h'.objs.size],[]⟩) P E' { s with heap:=h'.push (seqObj "list" us.toArray 0),toks:=tk }) :
  wpAny (model prog w) A (call (.builtin "sorted") [.ref a]) Q E s:=by
 refine Qhn kind_sorted plain_sorted entry_sorted (args_sorted1 _) ?_
 unfold YF.«sorted»;refine wpAny_bind (m:=checkCount "sorted" 1 1 _) (Qj ?_);refine wpAny_bind (Qi8 (A:=A.in1) hh hl x λh' tk us ns kp ia nd ln mm=>?_);have hlen:us.length<=900:=by have:=ia.length;omega
 refine wpAny_bind (Qoq ?_ (by rw[Yk];omega));have hoL:(h'.push (seqObj "list" us.toArray 0)).get? h'.objs.size=some (seqObj "list" us.toArray 0):=Qs _ rfl;show wpAny _ _ _ _ _ { s with heap:=h'.push (seqObj "list" us.toArray 0),toks:=tk };refine wpAny_bind (J3 (Ze slot_list_sort ⟨_,hoL,rfl⟩ entry_list_sort ?body (args_list_sort _)));exact h h' tk us ns kp ia nd ln mm _ _ λs2 hq=>⟨_,rfl,Qj ⟨_,rfl,hq⟩⟩
end
end Zt
namespace L2
open Zt
section
variable{X:Cx}
def Qwz(led:Bool)(K:PySem.W.Frag):List V->Hp->VK->Prop:=λxs H Q=>∃(l:Addr)(ns:List Int),xs=[.ref l]/\SqL K H l (ns.map V.int)/\ns.length<=900 /\
 ∀(t:Addr)(H2:Hp),Same H H2->H t=none->H2 t=some (.ext λh=>TIv h t ns led)->Q (.ref t) H2
theorem Qk8(hc:X.calm=true):CallR X (.type "set") (Qwz (QaW X.w) X.K):=by
 intro pins s σ H xs us Q I r h;obtain⟨p,ns,rfl,hp,h9,q⟩:=h;obtain⟨u,rfl,ru⟩:=vals1 r;cases ru;obtain⟨its,rv,pl,hz⟩:=I.list hp;have hi:Y2 its ns:=intsAre_of rv;have hl:=hi.length;have eR:(Qa ns.length).map (λi=>ns.getD i 0)=ns:=by
  refine Ja λi=>?_
  rw[Qo];by_cases z:i<ns.length
  ·rw[Qr z,Qc z];show some (ns.getD i 0)=_;rw[Qd,Qc z];rfl
  ·rw[Qp (by rw[Qh];omega),Qp (by omega)];rfl
 refine Zt.call_setI (items:=its.toArray) (n:=ns.length) (val:=λi=>ns.getD i 0) (I.ok.hd hc) pl.isList (by rw[Qm];exact hl) (λi v hv=>?_) h9 λh' tk hS hk=>?_
 ·have key:∀(us:List Value)(ms:List Int),Y2 us ms->∀i v,us[i]? = some v->∃t,v=Z0 (ms.getD i 0) t:=λus ms=>by
   induction ms generalizing us with
   |nil=>intro h;cases h;intro i v hv;simp at hv
   |cons n ms ih=>
    intro h;cases h with
    |cons _ t h'=>
     intro i v hv;cases i with
     |zero=>exact⟨t,(QK hv).symm⟩
     |succ i=>exact ih _ h' i v hv
  exact key its ns hi i v (by simpa using hv)
 ·have hf:H s.heap.objs.size=none:=I.hok.fresh (Ql _);rw[eR] at hS;refine⟨.ref s.heap.objs.size,upd H s.heap.objs.size (.ext λh=>TIv h s.heap.objs.size ns (QaW X.w)),I.laid (t':=tk) (λb x e=>hk b x (Qq e) e) (Ql _) ⟨hS,?_,λh1 h2 a b=>a.at' b⟩,rfl,q _ _ (Jt hf) hf Jj⟩;obtain⟨ps,tps,_⟩:=hS.ex;obtain⟨es,ep,t,sa,_⟩:=tps.ex;obtain⟨o,ho,_⟩:=sa.at_;exact⟨o,ho⟩
def Qto(led:Bool):List V->Hp->VK->Prop:=λxs H Q=>∃(a:Addr)(vals:List Int),xs=[.ref a]/\vals.length<64/\H a=some (.ext λh=>TIv h a vals led) /\
 ∀(t:Addr)(H2:Hp)(ms:List Int),Same H H2->H t=none->H2 t=some (.lst (ms.map V.int))->ms.Pairwise (· < ·)->(∀v,v∈ms↔v∈vals)->Q (.ref t) H2
theorem Qjg(hc:X.calm=true):CallR X (.builtin "sorted") (Qto (QaW X.w)):=by
 intro pins s σ H xs us Q I r h;obtain⟨a,vals,rfl,h64,ha,q⟩:=h;obtain⟨u,rfl,ru⟩:=vals1 r;cases ru;obtain⟨hS,_⟩:=I.hok a _ ha;refine QkE (I.ok.hd hc) (by omega) hS λh' tk its ns kp ia nd ln mm P E' hP=>?_
 have hn:(h'.push (seqObj "list" its.toArray 0)).get? h'.objs.size=some (seqObj "list" its.toArray 0):=Qs _ rfl;have h6':=ia.length;refine Qlq (s:={ s with heap:=h'.push (seqObj "list" its.toArray 0),toks:=tk }) hn ia (by omega) λout ns' ia' pm' pw=>hP _ ?_
 have I1:Inv X pins σ H { s with heap:=h',toks:=tk }:=I.kept (t':=tk) kp;have hf:H h'.objs.size=none:=I1.hok.fresh (Ql _);obtain⟨e,he⟩:∃e,(sortedHeap (h'.push (seqObj "list" its.toArray 0)) h'.objs.size its out).get? h'.objs.size=some (seqObj "list" out e):=QfZ hn
 have rv':=Qdr ia';have lp:=pm'.length_eq;have pws:ns'.Pairwise (· < ·):=by
  have n2:ns'.Pairwise (·≠·):=pm'.nodup_iff.mpr nd;exact QzA (λa b h1 h2=>by omega) pw n2
 have I2:Inv X pins σ (upd H h'.objs.size (.lst (ns'.map V.int))) { s with heap:=sortedHeap (h'.push (seqObj "list" its.toArray 0)) h'.objs.size its out,toks:=tk }:=
  I1.laid (t':=tk) (λb x e'=>(Qe9 (QL (Qq e')) (QP (Qq e') (by rw[Qhg];exact Qcm _))).trans (Qi _ e')) (Ql _) (show ObjOk X.prog X.w _ _ _ (.lst _) from⟨by
   rw[Qe];exact J4 (Rk.Qar (by omega)),out.toList,e,rv',by rw[he]⟩)
 exact⟨.ref h'.objs.size,_,I2,rfl,q _ _ _ (Jt hf) hf Jj pws λv=>pm'.mem_iff.trans (mm v)⟩
end
end L2
namespace Dl
open L2 _root_.Rd Rk Zt
section
variable{X:Cx}{E:XK}
@[irreducible] def Ql4:Qb->(Qb->Prop)->Prop
 |.list ds,Q=>∃ns:List Int,ds=ns.map Qk/\ns.length<64/\∀ms:List Int,ms.Pairwise (· < ·)->(∀x,x∈ms↔x∈ns)->Q (.list (ms.map Qk))
 |_,_=>False
theorem QoS{Q:Qb->Prop}(ns:List Int)(h6:ns.length<64)(h:∀ms:List Int,ms.Pairwise (· < ·)->(∀x,x∈ms↔x∈ns)->Q (.list (ms.map Qk))):Ql4 (.list (ns.map Qk)) Q:=by
 unfold Ql4;exact⟨ns,rfl,h6,h⟩
def Qh4(w:DE):DE:=λδ Q EX=>w δ (λd=>Ql4 d Q) EX
theorem QiQ{e:Q3}{w:DE}{p p2 pos pos2:Pos}(hg:Gl X "sorted")(hm:X.mg "sorted" = none)(hg2:Gl X "set")(hm2:X.mg "set" = none)(h:PE X e (tX .P X.K E w))(hc:X.calm=true)(hs:notStar e=true):PE X (.Call (.Name "sorted" p) [.Call (.Name "set" p2) [e] [] pos2] [] pos) (tX .F X.K E (Qh4 w)):=by
 refine PE.imp (Qb6 (L2.Qjg hc) hg hm QbV (QdO (Qa8 (L2.Qk8 hc) hg2 hm2 bt_set (QdO h Zv hs) (he:=Z7 hs)) Zv)) λσ H Q ⟨F,δ,R,EX,rel,hw,k,o⟩=>?_
 refine⟨F,δ,_,EX,rel,hw,λd hd v H1 rel1 kp1 vk=>?_,o⟩;have hd:Ql4 d _:=hd;unfold Ql4 at hd;split at hd
 ·obtain⟨ns,rfl,h6,hR⟩:=hd;obtain⟨l,xs,rfl,e,q⟩:=DP.list vk;rw[Qbr q] at e;refine⟨l,ns,rfl,SqL.of e,by omega,λt H2 s2 n2 e2=>⟨t,ns,rfl,h6,e2,λt3 H3 ms s3 n3 e3 pw mm=>?_⟩⟩;have s13:=s2.trans s3;have n13:H1 t3=none:=by
   cases z:H1 t3 with
   |none=>rfl
   |some o=>rw[s2 _ _ z] at n3;cases n3
  refine k _ (hR ms pw mm) _ H3 (rel1.same s13) (kp1.trans (Kp.same rel1 s13)) ?_
  exact⟨QbS (λa ha=>rel1.isl ha) s13 n13 e3 (Qcb ms),Qae (QaX kp1 n13)⟩
 ·exact hd.elim
theorem QkM{e:Q3}{w:DE}{p p2 pos pos2:Pos}(hg:Gl X "sorted")(hm:X.mg "sorted" = none)(hg2:Gl X "set")(hm2:X.mg "set" = none)(h:QE .P X E e w)(hc:X.calm=true:=by rfl)(hs:notStar e=true:=by rfl):QE .F X E (.Call (.Name "sorted" p) [.Call (.Name "set" p2) [e] [] pos2] [] pos) (Qh4 w):=⟨QiQ hg hm hg2 hm2 h.h hc hs⟩
end
end Dl
namespace Rk
open L2 _root_.Rd Dl Rt
def optN:Option (List Nat)->Qb
 |some o=>tNn o
 |none=>.none
def Qy4:DF:=λargs R _=>∃(n:Nat)(o:List Nat),args=[.v (.int n),.v (tNn o)]/\n<=6/\o∈ordsN n n/\R (.bool true)
theorem Qx4{n:Nat}{o:List Nat}(h:o∈ordsN n n){ms:List Int}(p:ms.Perm (iN o))(s:ms.Pairwise (·<=·)):ms=iN (Qa n):=by
 have p2:ms.Perm (iN (Qa n)):=p.trans ((Zh h).map _);have s2:(iN (Qa n)).Pairwise (·<=·):=Yf.mpr (Qcq.imp λ{a b}(z:a<b)=>by show(a:Int)<=b;omega);exact YX (le:=(·<=·)) (λa b _ _ h1 h2=>Qhl h1 h2) s s2 p2
end Rk
namespace Dl
open L2 _root_.Rd Rk
section
variable{X:Cx}{E:XK}
end
end Dl
namespace L2
section
variable{X:Cx}{pins:List (Addr×Obj)}{σ:St}{H H3:Hp}{s3:Shared}{M:List Str}{scope:Qan}{cap:List (Option Nat)}{fp:List Addr}{h4:Heap}{t4:Nat}
end
section
variable{X:Cx}{pins:List (Addr×Obj)}{σ:St}{H:Hp}
end
end L2
namespace Rk
open L2 _root_.Rd Dl
end Rk
namespace Dl
open L2
section
variable{X:Cx}{E:XK}
end
end Dl
namespace Zt
section
variable{prog:QB}{w:Jd}{A:Q1}{E:Value->Shared->Prop}{s:Shared}
end
end Zt
namespace L2
open Zt _root_.Rd _root_.Rk Dl Rt
section
variable{X:Cx}
end
end L2
namespace Dl
open L2 _root_.Rd Rk Zt Rt
section
variable{X:Cx}{E:XK}
end
end Dl
namespace L2
open PySem.Calls Zt _root_.Rd _root_.Rk _root_.Rs Dl Rt
section
variable{X:Cx}
end
end L2
namespace Dl
open L2 _root_.Rd Rk Zt Rt
section
variable{X:Cx}{E:XK}
end
end Dl
namespace Dl
open L2 _root_.Rd Rk
section
variable{X:Cx}{E:XK}{i:Nat}{st:YO}{we wa wb:DE}
end
end Dl
namespace Dz
section
variable{prog:QB}{w:Jd}{A:Q1}{E:Value->Shared->Prop}{s:Shared}
end
end Dz
namespace L2
open Dz
section
variable{X:Cx}
end
end L2
namespace Dz
section
variable{prog:QB}{w:Jd}{A:Q1}{E:Value->Shared->Prop}{s:Shared}
end
end Dz
namespace L2
open Dz
section
variable{X:Cx}
end
section
variable{X:Cx}
end
end L2
namespace Rk
end Rk
namespace Rk
open L2 _root_.Rd Dl Rt
section
variable(K:PySem.W.Frag)(P:QB)(W:Jd)(u:Nat)
end
end Rk
namespace Rk
open L2 _root_.Rd
def top(i:Nat):YO:=PySem.Challenge.pw_rooklands_k88_whole_likes.main.body.getD i (.Pass ⟨0,0,0,0⟩)
abbrev QfD:YO:=top 4
abbrev QdI:YO:=top 5
abbrev QdK:YO:=top 6
abbrev QkH:YO:=top 8
abbrev QfE:YO:=top 9
abbrev sIsO:YO:=top 10
abbrev QkK:YO:=top 11
abbrev sLed:YO:=top 12
abbrev QdJ:YO:=top 13
abbrev sOth:YO:=top 14
abbrev sCnt:YO:=top 16
abbrev QkJ:YO:=top 17
abbrev QkG:YO:=top 18
abbrev sRow:YO:=top 19
abbrev sWay:YO:=top 21
abbrev QfH:YO:=top 22
abbrev QfG:YO:=top 23
abbrev QfF:YO:=top 24
abbrev sPut:YO:=top 25
abbrev sUnl:YO:=top 26
abbrev sCAt:YO:=top 27
abbrev QkI:YO:=top 28
abbrev sLbc:YO:=top 29
abbrev sOwn:YO:=top 30
abbrev QdR:YO:=top 32
abbrev lPot:YO:=top 33
abbrev QkY:YO:=top 34
abbrev QfQ:YO:=top 35
abbrev QfP:YO:=top 36
abbrev lTwo:YO:=top 37
abbrev sLaw:YO:=top 38
section
variable{P:QB}{w:Jd}{K:PySem.W.Frag}{mg:Str->Option Value}{base:Heap}
theorem QoR:JN ["_law_script", "_law_k"] ["_law_script", "_law_k"] (QF QdR):=⟨rfl,rfl,rfl,by decide +kernel,rfl,by decide +kernel,by decide +kernel⟩
theorem QmK{f:Addr}{fd:Q0}(F:Fun K "_law_cell_at" "_law_cell_at" QdR f fd)(T:GlbA mg):FnOk P w K mg base CX0 1 f fd ["_law_script", "_law_k"] (Qc5 K):=by
 refine F.ok QoR (λvs H Q E h=>?_) (λcdv A outer s H vs Q E hr h=>?_)
 ·obtain⟨a,ns,k,rfl,_⟩:=h;rfl
 ·obtain⟨a,ns,n,rfl,hs,hl,h0,k⟩:=h;refine⟨_,Qak (QtA (QiM Quj (pv 1) (Qb6 QaR (by rfl) T.len QbW (Y8 (pv 0) Zv)) (Zz _)) (QbP (Qdb (Qpd QgJ (pv 0) (pv 1) (λ_ _=>rfl)))) QiN) (QbP (Qdb YY)),?_⟩;refine⟨_,rfl,_,rfl,a,_,rfl,.inl hs,_,_,rfl,rfl,_,rfl,?_⟩;refine QBr (λhlt=>?_) (λ_=>k 0);have hlt':n<(ns.map V.int).length:=of_decide_eq_true hlt;rw[Qe] at hlt';obtain⟨j,rfl⟩:=Qkv h0;have hj:j<ns.length:=by omega
  refine⟨_,rfl,_,rfl,a,_,_,.int ns[j],rfl,rfl,hs,JG ?_,k _⟩;rw[Qo,Qc hj];rfl
theorem QkF:JN ["_law_cell", "_law_number", "_law_j", "_law_more"] ["_law_cell"] (QF lPot):=⟨rfl,rfl,rfl,by decide +kernel,rfl,by decide +kernel,by decide +kernel⟩
theorem Qxy{f:Addr}{fd:Q0}(F:Fun K "_law_pot" "_law_pot" lPot f fd)(T:GlbA mg):FnOk P w K mg base CX0 1 f fd ["_law_cell"] Qwk:=by
 refine F.ok QkF (λvs H Q E h=>?_) (λcdv A outer s H vs Q E hr h=>?_)
 ·obtain⟨c,rfl,_⟩:=h;rfl
 ·obtain⟨c,rfl,k⟩:=h;refine⟨_,Qak (QtA (QiM QAn (pv 0) (Qbo Qsa YY YY) (Zz _)) (QbP (Qdb (Qr6 (Y8 (Qbo QeM (pv 0) (Qbo Qsa YY YY)) Zv)))) QiN)
   (Qak (Qda (i:=1) QkF.nd rfl (Q6 rfl) YY)
   (Qak (Qr1 JR rfl (QeK (by rfl) T.range (Y8 YY Zv)) (QgB (i:=2) QkF.nd rfl (Q6 rfl))
    (Qak (Qda (i:=3) QkF.nd rfl (Q6 rfl) (Qbo QjR (Qbo QfL (Qbo QfM (Qbo QfM (Qbo QjR (pv 0) YY) (Qbo QfL YY (pv 2))) YY) YY) YY))
    (Qak (Qda (i:=3) QkF.nd rfl (Q6 rfl) (Qbo QjR (Qbo QfM (Qbo QfM (Qbo QfL (pv 3) (pv 3)) (Qbo QfL YY (pv 2))) YY) YY))
    (QbP (Qda (i:=1) QkF.nd rfl (Q6 rfl) (Qbo QfM (Qbo QfL (pv 1) YY) (pv 3)))))))
   (QbP (Qdb (Qr6 (Y8 (pv 1) Zv)))))),?_⟩
  refine⟨_,rfl,_,_,rfl,rfl,⟨by decide,by decide,by decide⟩,_,_,rfl,rfl,_,rfl,?_⟩;refine QBr (λ_=>?_) (λ_=>?_)
  ·exact⟨_,rfl,_,_,rfl,rfl,⟨by decide,by decide,by decide⟩,_,_,rfl,rfl,by show 1<=sizeLine;decide,λp hp=>k p _ hp⟩
  ·refine⟨64,rfl,by decide,by decide,Qns (n:=64) (λi σ H2=>∃n v u,σ=[some (.int c),some (.int n),v,u]/\H2=H) ⟨0,none,none,rfl,rfl⟩ ?_ ?_⟩
   ·rintro i σ H2 hi ⟨n,v,u,rfl,rfl⟩;have b1:=Qka ((c % 2147483629+7919*(0+(i:Int))+1)*48271) (m:=2147483647) (by decide);refine⟨_,rfl,_,_,rfl,rfl,by show(0:Int)<2147483629;decide,_,rfl,_,_,rfl,rfl,.inl ⟨by decide,by decide⟩,_,_,rfl,rfl,_,_,rfl,rfl,_,_,rfl,rfl,.inr ⟨by decide,by decide⟩,_,_,rfl,rfl,by show(0:Int)<2147483647;decide,?_⟩;refine⟨_,rfl,_,rfl,_,_,rfl,rfl,.inl ⟨by omega,by omega⟩,_,rfl,_,_,rfl,rfl,.inl ⟨by decide,by decide⟩,_,_,rfl,rfl,_,_,rfl,rfl,_,_,rfl,rfl,by show(0:Int)<2147483587;decide,?_⟩;exact⟨_,rfl,_,_,rfl,rfl,.inr ⟨by decide,by decide⟩,_,rfl,_,_,rfl,rfl,_,_,_,rfl,rfl⟩
   ·rintro σ H2 ⟨n,v,u,rfl,rfl⟩;exact⟨_,rfl,by show 1<=sizeLine;decide,λp hp=>k p _ hp⟩
theorem QrS:JN ["_law_pot_here", "_law_far", "_law_found"] ["_law_pot_here", "_law_far"] (QF QkY):=⟨rfl,rfl,rfl,by decide +kernel,rfl,by decide +kernel,by decide +kernel⟩
theorem QmF{f:Addr}{fd:Q0}(F:Fun K "_law_take" "_law_take" QkY f fd)(T:GlbA mg):FnOk P w K mg base CX0 1 f fd ["_law_pot_here", "_law_far"] Qgh:=by
 refine F.ok QrS (λvs H Q E h=>?_) (λcdv A outer s H vs Q E hr h=>?_)
 ·obtain⟨p,n,m,rfl,_⟩:=h;rfl
 ·obtain⟨p,n,m,rfl,hp,h0,h1,k⟩:=h;refine⟨_,Qak (Qda (i:=2) QrS.nd rfl (Q6 rfl) (Qbo QjR (Qpd QgJ (pv 0) YY (λ_ _=>rfl)) (pv 1)))
   (Qak (Qr2 (Qbo QpB (Qpd QgJ (pv 0) YY (λ_ _=>rfl)) (pv 1)) (QwW (pv 0) YY Qjz))
   (QbP (Qdb (pv 2)))),?_⟩
  have b:=Qka n h0;exact⟨_,rfl,p,_,_,_,rfl,rfl,SqL.of hp,rfl,_,rfl,_,_,rfl,rfl,h0,_,rfl,p,_,_,_,rfl,rfl,SqL.of hp,rfl,_,rfl,_,_,rfl,rfl,⟨h0,h1⟩,_,rfl,p,_,_,_,rfl,rfl,hp,rfl,_,rfl,k _ _ b.1 b.2⟩
end
end Rk
namespace Rk
open L2 _root_.Rd
open Dl
open Rt
theorem Qgc(o:List Nat):(YW o).map (λe=>(toI e).toNat)=o:=by
 unfold YW;rw[QV]
 conv=>rhs;rw[<- Qb2 o]
 exact QH λx _=>by show((x:Int)).toNat=x;omega
def QlP:DF:=λargs R _=>∃(h w:Nat)(f:Nat->Nat->Bool),args=[.v (bdD h w (cellsF h w f))]/\h<=6/\w<=6/\R (bdD w h (cellsF w h (tF f)))
def Qln(o:List Nat)(h w:Nat)(l:List (Int×Int)):List Qb:=(Qa w).map λc=>Qk (mkS o h l c)
def Qb8(f:Nat->Nat->Bool)(o:List Nat)(w:Nat):List Int:=(Qa w).map λc=>Qbf (Qdx f o c)
def QyA:DF:=λargs R _=>∃(h w:Nat)(f:Nat->Nat->Bool)(o:List Nat),args=[.v (bdD h w (cellsF h w f)),.v (tNn o)]/\h<=6/\w<=6/\o.Perm (Qa h)/\R (.list ((Qb8 f o w).map Qk))
def Qvg:DF:=λargs R _=>∃ms ws:List Int,args=[.v (.list (ms.map Qk)),.v (.list (ws.map Qk))]/\ms.length<=6/\ws.length<=6/\R (optN (putN (λj c=>decide (ms.getD c 0=ws.getD j 0)) ms.length ws.length))
def QuY:DF:=λargs R _=>∃(h w:Nat)(f:Nat->Nat->Bool)(h2 w2:Nat)(f2:Nat->Nat->Bool),args=[.v (bdD h w (cellsF h w f)),.v (bdD h2 w2 (cellsF h2 w2 f2))]/\h<=6/\w<=6/\h2<=6/\w2<=6/\R (fwV (fwD h w f h2 w2 f2))
def QAT:DF:=λargs R _=>∃(a:List Int)(k:Nat),args=[.v (.list (a.map Qk)),.v (.int k)]/\R (.int (a.getD k 0))
def QzH:DF:=λargs R _=>∃a b:List Int,args=[.v (.list (a.map Qk)),.v (.list (b.map Qk))]/\a.length<=7/\b.length<=7/\R (QA4 a b (QrI a b 7))
def alD:DF:=λargs R _=>∃(h w:Nat)(f:Nat->Nat->Bool)(h2 w2:Nat)(f2:Nat->Nat->Bool),args=[.v (bdD h w (cellsF h w f)),.v (bdD h2 w2 (cellsF h2 w2 f2))]/\h<=6/\w<=6/\h2<=6/\w2<=6/\R (alV h w f h2 w2 f2)
def ldF(f:Nat->Nat->Bool)(o q:List Nat):Nat->Nat->Bool:=λr j=>f (o.getD r 0) (q.getD j 0)
def ldB(h w:Nat)(f:Nat->Nat->Bool)(o q:List Nat):Qb:=bdD h w (cellsF h w (ldF f o q))
def mkO(f:Nat->Nat->Bool)(o:List Nat)(c:Nat):Int:=Qbf (Qdx f o c)
def QfA(f:Nat->Nat->Bool)(o:List Nat)(w:Nat):List Nat:=(Qa w).mergeSort λa b=>decide (mkO f o b<=mkO f o a)
def QAv:DF:=λargs R _=>∃(h w:Nat)(f:Nat->Nat->Bool)(o:List Nat),args=[.v (bdD h w (cellsF h w f)),.v (tNn o)]/\h<=6/\w<=6/\o.Perm (Qa h)/\R (ldB h w f o (QfA f o w))
def QpL:DF:=λargs R _=>∃(h w:Nat)(f:Nat->Nat->Bool),args=[.v (bdD h w (cellsF h w f))]/\h<=6/\w<=6/\∀o q,o∈ordsN h h->q.Perm (Qa w)->(∀o' q',o'∈ordsN h h->q'.Perm (Qa w)->ltD (ldB h w f o' q') (ldB h w f o q)=false)->R (ldB h w f o q)
def ownN(h w:Nat)(f:Nat->Nat->Bool):Nat:=(ordsN h h).countP (λo=>(Qb8 f o w).isPerm (Qb8 f (Qa h) w))*gL (Qb8 f (Qa h) w)
def QAi:DF:=λargs R _=>∃(h w:Nat)(f:Nat->Nat->Bool),args=[.v (bdD h w (cellsF h w f))]/\h<=6/\w<=6/\R (.int (ownN h w f))
section
variable{P:QB}{w:Jd}{K:PySem.W.Frag}{mg:Str->Option Value}{base:Heap}
theorem QoQ:JN ["thing"] ["thing"] (QF QfD):=⟨rfl,rfl,rfl,by decide +kernel,rfl,by decide +kernel,by decide +kernel⟩
theorem QpC{f   : Addr}{fd  : Q0}(F:Fun K "is_whole" "is_whole" QfD f fd)(T:GlbA mg) :
  FnOk P w K mg base CX0 1 f fd ["thing"] (Zq false QlH):=by
 refine okQ false F QoQ (λargs R EX h=>?_) (λcdv A outer s H E hr=>?_)
 ·obtain⟨d,rfl,_⟩:=h;rfl
 ·have hU:=Room.u60 hr;have hI:=Room.i60 hr;refine⟨_,Q7 (YL (Qo2 (Je (QjI .int (by rfl) T.isinstance (qp 0) (by rfl) T.int QyD)) (Qo0 (Qz1 (Je (QjI .bool (by rfl) T.isinstance (qp 0) (by rfl) T.bool Qvs)))))),λargs R EX h=>?_⟩;obtain⟨d,rfl,hR⟩:=h;cases d<;>exact hR
theorem Ql3:JN ["thing", "least", "most"] ["thing", "least", "most"] (QF QdI):=⟨rfl,rfl,rfl,by decide +kernel,rfl,by decide +kernel,by decide +kernel⟩
theorem QmE{f f1  : Addr}{fd fd1:Q0}(F:Fun K "is_whole_within" "is_whole_within" QdI f fd)(T:GlbA mg)
  (m1:mg "is_whole" = some (.ref f1))(G1:FnOk P w K mg base CX0 1 f1 fd1 ["thing"] (Zq false QlH))(b1:Binds K fd1 ["thing"] [])(k1:PySem.W.keepIn K (.ref f1)=true) :
  FnOk P w K mg base CX0 2 f fd ["thing", "least", "most"] (Zq false QiE):=by
 refine okQ false F Ql3 (λargs R EX h=>?_) (λcdv A outer s H E hr=>?_)
 ·obtain⟨d,a,b,rfl,_⟩:=h;rfl
 ·have hU:=Room.u60 hr;have hI:=Room.i60 hr;refine⟨_,Q7 (YL (Qo2 (Jp (JS G1 (hr.mono (by decide)) (by rfl) m1 k1 b1 JQ (Zm (qv 0) Jg))) (Qo0 (Z2 (QB3 Qxn Qxn (qp 1) (qp 0) (qp 2)))))),λargs R EX h=>?_⟩;obtain⟨d,a,b,rfl,hR⟩:=h;refine⟨d,rfl,?_⟩;cases d with
  |int i=>exact QAA (QyJ hR)
  |_=>exact hR
theorem Qc7:JN ["many", "told", "number"] ["many"] (QF QdK):=⟨rfl,rfl,rfl,by decide +kernel,rfl,by decide +kernel,by decide +kernel⟩
theorem QmH{f   : Addr}{fd  : Q0}(F:Fun K "how_many_orders" "how_many_orders" QdK f fd)(T:GlbA mg) :
  FnOk P w K mg base CX0 1 f fd ["many"] (Zq false QiR):=by
 refine okQ false F Qc7 (λargs R EX h=>?_) (λcdv A outer s H E hr=>?_)
 ·obtain⟨m,rfl,_⟩:=h;rfl
 ·have hU:=Room.u60 hr;have hI:=Room.i60 hr;refine⟨_,QU (Y7 1 J9 Qc7.nd)
   (QU (Qbx JR rfl (Qaq (by rfl) T.range (qp 0)) (ZR 2 Qc7.nd rfl (by first | exact Q6 rfl | exact Q4 rfl))
    (Q7 (QrZ 1 (Qx6 Qnd) QmP (Je (QaE QcI QeN (qp 2) (Jp J9))) Qc7.nd)))
   (Q7 (YL (qv 1)))),λargs R EX h=>?_⟩
  obtain⟨m,rfl,h0,h1,hR⟩:=h;refine⟨⟨by omega,by omega⟩,QeW (λi δ=>∃x,δ=[.v (.int m),.v (.int (Qlo i)),x]) ⟨_,rfl⟩ ?_ ?_⟩
  ·rintro i δ hi ⟨x,rfl⟩;have:=Qye (show i<=12 by omega);refine⟨.inl ⟨by omega,by omega⟩,.v (.int (0+(i:Int))),?_⟩;show[Sl.v (.int m),.v (.int (Qlo i*(0+(i:Int)+1))),.v (.int (0+(i:Int)))]=_;rw[show(0:Int)+(i:Int)+1=(i:Int)+1 by omega];rfl
  ·rintro δ ⟨x,rfl⟩;exact hR
theorem Qth:JN ["board"] ["board"] (QF QkJ):=⟨rfl,rfl,rfl,by decide +kernel,rfl,by decide +kernel,by decide +kernel⟩
theorem Qus{f   : Addr}{fd  : Q0}(F:Fun K "most_size" "most_size" QkJ f fd)(T:GlbA mg) :
  FnOk P w K mg base CX0 1 f fd ["board"] (Zq false QuE):=by
 refine okQ false F Qth (λargs R EX h=>?_) (λcdv A outer s H E hr=>?_)
 ·obtain⟨h,w,cs,rfl,_⟩:=h;rfl
 ·have hU:=Room.u60 hr;have hI:=Room.i60 hr;refine⟨_,Q7 (Yc (Z8 (Qib rfl) Qre (by rfl) T.min QnZ (QcE (Jp (Qcv ZG YT (qp 0) (Jp J9) (λ_ _=>rfl))) (QcE (Jp (Qcv ZG YT (qp 0) (Jp J9) (λ_ _=>rfl))) JB)))),λargs R EX h=>?_⟩;obtain⟨h,w,cs,rfl,hR⟩:=h;exact⟨_,JG (j:=0) rfl,_,JG (j:=1) rfl,QuI (by split<;>omega) hR⟩
theorem QdH:JN ["below", "columns", "taken", "ways", "column", "bit", "size", "many"] ["below", "columns", "taken"] (QF sRow):=⟨rfl,rfl,rfl,by decide +kernel,rfl,by decide +kernel,by decide +kernel⟩
theorem Quo{f   : Addr}{fd  : Q0}(F:Fun K "ways_with_row" "ways_with_row" sRow f fd)(T:GlbA mg) :
  FnOk P w K mg base CX0 1 f fd ["below", "columns", "taken"] (Zq true QsZ):=by
 refine okQ true F QdH (λargs R EX h=>?_) (λcdv A outer s H E hr=>?_)
 ·obtain⟨h,w,B,cols,t,rfl,_⟩:=h;rfl
 ·have hU:=Room.u60 hr;have hI:=Room.i60 hr;refine⟨_,QU (QdM 3 (Qbm QgY Qvo (by rfl) T.list Qji (QcE (Jp (Qcv ZG YT (qp 0) (qp 2) (λ_ _=>rfl))) JB)) QdH.nd)
   (QU (Qbx JR rfl (QbO (qv 1)) (ZR 4 QdH.nd rfl (by first | exact Q6 rfl | exact Q4 rfl))
    (QU (Y7 5 (Z2 (QaE QhM QmT (Jp J9) (qp 4))) QdH.nd)
   (Q7 (QaV (Qa4 (Qme (Je (QaE Qsc Qde (qp 2) (qp 5))))) (Q7 (Qbx JR rfl (Qgw (by rfl) T.enumerate (Z2 (Qgx (Jp (Qcv ZG YT (qp 0) (Je (QaE QAl Qde (qp 2) (qp 5))) (λ_ _=>rfl))) Qgv (Qgu (Je (Qz2 (Jp J9))))))) (Qa5 rfl (Za 6 (Za 7 Qa6 QdH.nd rfl (by first | exact Q6 rfl | exact Q4 rfl)) QdH.nd rfl (by first | exact Q6 rfl | exact Q4 rfl)))
    (Q7 (Qmh 3 Qsi QmQ (Je (QaE QcI QeN (qp 6) (Jp J9))) (qp 7))))) ZX))))
   (Q7 (Qgs 3))),λargs R EX h=>?_⟩
  obtain⟨h,w,B,cols,t,rfl,ht,hc,h6,w6,hR⟩:=h;refine⟨_,JG (QiF ht),?_⟩;refine QaF (λj δ=>∃ds x4 x5 x6 x7,δ=[.v (.list (QkB h w B)),.v (.list (YW cols)),.v (.int t),.own ds,x4,x5,x6,x7]/\ds=Qeo h (Qgf B (cols.take j) t)) ⟨_,_,_,_,_,rfl,Qa3 λk _=>?_⟩ ?_ ?_
  ·show B t k=B t k+if k=0 then 0 else 0
   split<;>omega
  ·rintro j d δ hd ⟨ds,x4,x5,x6,x7,rfl,rfl⟩;unfold YW at hd;rw[Qo] at hd;obtain⟨c,ec,rfl⟩:∃c:Nat,cols[j]? = some c/\d=.int (c:Int):=by
    cases e:cols[j]? with
    |none=>rw[e] at hd;cases hd
    |some p=>rw[e] at hd;cases hd;exact⟨p,rfl,rfl⟩
   have hcw:=hc c (Jo ec);have et:cols.take (j+1)=cols.take j++[c]:=by rw[Zs,ec];rfl
   refine⟨⟨by omega,by omega,by decide⟩,trivial,?_⟩;show if(!tru (.int (Zp (t:Int) (1*2^((c:Nat):Int).toNat))))=true then _ else _
   rw[Qn9 ht hcw w6];cases hb:t.testBit c with
   |true=>
    have np:(2:Int)^c≠0:=by
     have:(0:Int)<2^c:=Int.pow_pos (by decide);omega
    rw[if_pos rfl];refine ifF ?_ ⟨_,_,_,_,_,rfl,Qa3 λk _=>?_⟩
    ·show(!((2:Int)^c != 0))=false;simp[np]
    ·unfold Qgf;rw[et,QeB,if_pos hb,Qfx]
   |false=>
    refine ifT rfl ?_
    have olt:=QAk ht hcw;refine⟨.list (Qeo h (B (t ||| 2^c))),?_,?_⟩
    ·show atI (QkB h w B) (QdC (t:Int) (1*2^((c:Nat):Int).toNat))=_;rw[Qxj ht hcw w6];exact JG (QiF olt)
    ·show QvC (Qco (Dl.cutD (Qeo h (B (t ||| 2^c))) none (some (-1)))) _ _ _ _;rw[QoV];refine QaF (λi δ=>∃ds x6 x7,δ=[.v (.list (QkB h w B)),.v (.list (YW cols)),.v (.int t),.own ds,.v (.int c),.v (.int (1*2^((c:Nat):Int).toNat)),x6,x7]/\ds=Qeo h (λk=>Qgf B (cols.take j) t k+if 1<=k/\k<=i then B (t ||| 2^c) (k - 1) else 0)) ⟨_,_,_,rfl,Qa3 λk _=>?_⟩ ?_ ?_
     ·rw[if_neg (by omega),Qfx]
     ·rintro i d δ hd ⟨ds,x6,x7,rfl,rfl⟩;obtain⟨e,he,rfl⟩:=Qbq hd;rw[Qo] at he;have hi:i<h:=by
       by_cases z:i<h
       ·exact z
       ·rw[Qp (by rw[Qh];omega)] at he;cases he
      rw[Qr hi] at he;cases he;refine⟨rfl,i+1,_,?_,QdL (by omega),_,_,_,rfl,?_⟩
      ·rw[Qb5];exact Qnb (k:=i+1) (by omega)
      ·rw[QoT (by omega)];refine Qa3 λk hk=>?_
       show(if k=i+1 then(Qgf B (cols.take j) t (i+1)+if 1<=i+1/\i+1<=i then B (t ||| 2^c) (i+1 - 1) else 0)+B (t ||| 2^c) i else Qgf B (cols.take j) t k+if 1<=k/\k<=i then B (t ||| 2^c) (k - 1) else 0)=Qgf B (cols.take j) t k+if 1<=k/\k<=i+1 then B (t ||| 2^c) (k - 1) else 0
       by_cases z:k=i+1
       ·subst z;rw[if_pos rfl,if_neg (by omega),if_pos (by omega),YJ,Qfx]
       ·rw[if_neg z];by_cases z2:1<=k/\k<=i
        ·rw[if_pos z2,if_pos (by omega)]
        ·rw[if_neg z2,if_neg (by omega)]
     ·rintro δ ⟨ds,x6,x7,rfl,rfl⟩;rw[Qbp,Qe,Qh];refine⟨_,_,_,_,_,rfl,Qa3 λk hk=>?_⟩;unfold Qgf;rw[et];by_cases z:k=0
      ·subst z;rw[if_pos rfl,if_neg (by omega),if_pos rfl];omega
      ·rw[if_neg z,if_neg z,if_pos (by omega),QeB,if_neg (by rw[hb];decide)];omega
  ·rintro δ ⟨ds,x4,x5,x6,x7,rfl,rfl⟩;unfold YW;rw[Qe,JY];exact hR
theorem QpI:(["taken", "high"]:List Str).Nodup:=by decide +kernel
theorem QjW:(["at", "column", "row"]:List Str).Nodup:=by decide +kernel
theorem QpH:(["taken", "columns", "table"]:List Str).Nodup:=by decide +kernel
theorem QcD:JN ["board", "high", "wide", "cells", "table", "row", "columns"] ["board"] (QF QkG):=⟨rfl,rfl,rfl,by decide +kernel,rfl,by decide +kernel,by decide +kernel⟩
theorem Qup{f f1  : Addr}{fd fd1:Q0}(F:Fun K "ways_to_go_on" "ways_to_go_on" QkG f fd)(T:GlbA mg)
  (m1:mg "ways_with_row" = some (.ref f1))(G1:FnOk P w K mg base CX0 1 f1 fd1 ["below", "columns", "taken"] (Zq true QsZ))(b1:Binds K fd1 ["below", "columns", "taken"] [])(k1:PySem.W.keepIn K (.ref f1)=true) :
  FnOk P w K mg base CX0 2 f fd ["board"] (Zq true Qs0):=by
 refine okQ true F QcD (λargs R EX h=>?_) (λcdv A outer s H E hr=>?_)
 ·obtain⟨h,w,cs,rfl,_⟩:=h;rfl
 ·have hU:=Room.u60 hr;have hI:=Room.i60 hr;refine⟨_,QU (QhF (qv 0) (Qa5 rfl (Za 1 (Za 2 (Za 3 Qa6 QcD.nd rfl (by first | exact Q6 rfl | exact Q4 rfl)) QcD.nd rfl (by first | exact Q6 rfl | exact Q4 rfl)) QcD.nd rfl (by first | exact Q6 rfl | exact Q4 rfl))))
   (QU (QdM 4 (Qgy (Qad (Z2 (Qd4 ["taken", "high"] [none,some 1] (Qaq (by rfl) T.range (Je (QaE QhM QmT (Jp J9) (qp 2)))) (λcl ex s3 H3 C=>⟨(ZR 0 QpI rfl (Q6 rfl) (Q4 rfl)),QaU,(Z2 (QaE QcI QeN (Je (Qgy (Qad J9 JB))) (Je (QaE QmD Qsd (Je (Qgy (Qad J9 JB))) (qp 1)))))⟩))) JB)) QcD.nd)
   (QU (Qbx JR rfl (Qtv (by rfl) T.reversed (by rfl) T.range (qp 1)) (ZR 5 QcD.nd rfl (by first | exact Q6 rfl | exact Q4 rfl))
    (QU (Y7 6 (Z2 (Qd4 ["at", "column", "row"] [none,none,some 5] (QjF (qp 3)) (λcl ex s3 H3 C=>⟨(Qa5 rfl (Za 0 (Za 1 Qa6 QjW rfl (Q6 rfl) (Q4 rfl)) QjW rfl (Q6 rfl) (Q4 rfl))),(QbM (Ya Qa9 (QdP hU) (qp 0) (qp 2) (Zz _))),(qv 1)⟩))) QcD.nd)
   (Q7 (QwG 4 J9 (Z2 (Qd4 ["taken", "columns", "table"] [none,some 6,some 4] (Qaq (by rfl) T.range (Je (QaE QhM QmT (Jp J9) (qp 2)))) (λcl ex s3 H3 C=>⟨(ZR 0 QpH rfl (Q6 rfl) (Q4 rfl)),QaU,(Z2 (ZC G1 (hr.mono (by decide)) (by rfl) m1 k1 b1 JQ (Zm (Qcv ZG YT (qp 2) (Jp J9) (λ_ _=>rfl)) (Zm (qv 1) (Zm (qv 0) Jg)))))⟩)))))))
   (Q7 (Qgs 4)))),λargs R EX h=>?_⟩
  obtain⟨h,w,cs,rfl,h6,w6,hb,hR⟩:=h;refine⟨rfl,⟨by omega,by omega,by decide⟩,?_,Qh7 (λ_=>.list (Qk 1::QZ h (.int 0))) (λd hd k2 hk=>?_) ?_⟩
  ·exact Qr4 w6
  ·refine⟨⟨by omega,by omega,by rw[Qv];show 1*h<=_;omega⟩,?_⟩;rw[Qv,Qtm];refine⟨by rw[Qax];show 1+h<=_;omega,hk⟩
  ·have e0:(Qfd 0 (1*2^((w:Nat):Int).toNat:Int).toNat).map (λ_=>YG (Qk 1::QZ h (.int 0)))=QkB h w (Wc cs h 0):=by
    rw[QgA,Qv];unfold Qfd QkB;rw[QV];refine QH λt _=>?_
    show YG _=YG _;rw[QoU]
   rw[e0];refine⟨⟨by omega,by omega⟩,QaF (λi δ=>∃ds x5 x6,δ=[.v (bdD h w cs),.v (.int h),.v (.int w),.v (.tuple (cs.map pairD)),.own ds,x5,x6]/\ds=QrK cs h w i) ⟨_,_,_,rfl,rfl⟩ ?_ ?_⟩
   ·rintro i d δ hd ⟨ds,x5,x6,rfl,rfl⟩;obtain⟨hi,rfl⟩:=QjD hd;rw[Qv] at hi;have er:((((h:Nat):Int).toNat:Nat):Int) - 1 - (i:Int)=((h - 1 - i:Nat):Int):=by omega
    rw[er];refine Qrd (λd=>if(toP d).1=((h - 1 - i:Nat):Int) then some (.int (toP d).2) else none) (λd hd k1 k2 h1 h2=>?_) ?_
    ·obtain⟨p,_,rfl⟩:=QQ.mp hd;have h1:(if p.1=((h - 1 - i:Nat):Int) then some (Qk p.2) else none)=none->k1:=h1;have h2:∀e,(if p.1=((h - 1 - i:Nat):Int) then some (Qk p.2) else none)=some e->k2 e:=h2
     refine⟨rfl,?_⟩;show if decide (p.1=((h - 1 - i:Nat):Int))=true then k2 (.int p.2) else k1
     by_cases z:p.1=((h - 1 - i:Nat):Int)
     ·rw[if_pos (decide_eq_true z)];exact h2 _ (if_pos z)
     ·rw[if_neg (by simpa using z)];exact h1 (if_neg z)
    ·rw[Qyw cs (h - 1 - i) λp hp=>(hb p hp).1];refine⟨⟨by omega,by omega,by decide⟩,?_,Qh7 (λd=>match d with | .int t=>.list (Qeo h (Wc cs h (i+1) t.toNat)) | _=>.none) (λd hd k2 hk=>?_) ?_⟩
     ·exact Qr4 w6
     ·obtain⟨t,ht⟩:=Jx.mp hd;obtain⟨htl,rfl⟩:=QbK ht;rw[QgA,Qv] at htl;have hk:k2 (.list (Qeo h (Wc cs h (i+1) (0+(t:Int)).toNat))):=hk;rw[show(0+(t:Int)).toNat=t by omega] at hk;refine⟨_,JG (j:=0) (QlR cs h w i),h,w,Wc cs h i,Qrc cs (h - 1 - i),t,by rw[show(0:Int)+(t:Int)=(t:Int) by omega],htl,λc hc=>Qvh hb hc,h6,w6,hk⟩
     ·refine⟨by rw[Qjv];omega,_,_,_,rfl,?_⟩;show YG _::QrK cs h w i=YG (QkB h w (Wc cs h (i+1)))::QrK cs h w i
      congr 2
      rw[QgA,Qv];unfold Qfd QkB;rw[QV];refine QH λt _=>?_
      show YG (Qeo h (Wc cs h (i+1) (0+(t:Int)).toNat))=_;rw[show(0+(t:Int)).toNat=t by omega]
   ·rintro δ ⟨ds,x5,x6,rfl,rfl⟩;rw[Qgq,Qv];exact hR
theorem Qwq:JN ["board"] ["board"] (QF sCnt):=⟨rfl,rfl,rfl,by decide +kernel,rfl,by decide +kernel,by decide +kernel⟩
theorem QxF{f f1 f2  : Addr}{fd fd1 fd2:Q0}(F:Fun K "counts" "counts" sCnt f fd)(T:GlbA mg)
  (m1:mg "ways_to_go_on" = some (.ref f1))(G1:FnOk P w K mg base CX0 2 f1 fd1 ["board"] (Zq true Qs0))(b1:Binds K fd1 ["board"] [])(k1:PySem.W.keepIn K (.ref f1)=true)
  (m2:mg "most_size" = some (.ref f2))(G2:FnOk P w K mg base CX0 1 f2 fd2 ["board"] (Zq false QuE))(b2:Binds K fd2 ["board"] [])(k2:PySem.W.keepIn K (.ref f2)=true) :
  FnOk P w K mg base CX0 3 f fd ["board"] (Zq true QgP):=by
 refine okQ true F Qwq (λargs R EX h=>?_) (λcdv A outer s H E hr=>?_)
 ·obtain⟨h,w,cs,rfl,_⟩:=h;rfl
 ·have hU:=Room.u60 hr;have hI:=Room.i60 hr;refine⟨_,Q7 (Yc (Qgx (Jp (Qcv ZG YT (Jp (Qcv ZG YT (Je (ZC G1 (hr.mono (by decide)) (by rfl) m1 k1 b1 JQ (Zm (qv 0) Jg))) (Jp J9) (λ_ _=>rfl))) (Jp J9) (λ_ _=>rfl))) Qgv (Qgu (Je (QaE QcI QeN (Jp (JS G2 (hr.mono (by decide)) (by rfl) m2 k2 b2 JQ (Zm (qv 0) Jg))) (Jp J9)))))),λargs R EX h=>?_⟩;obtain⟨h,w,cs,rfl,h6,w6,hb,hR⟩:=h;refine⟨_,_,_,rfl,h6,w6,hb,_,JG (j:=0) (QlR cs h w h),_,JG (j:=0) (QiF (Nat.two_pow_pos w)),_,_,_,rfl,?_⟩;have e:Dl.cutD (Qeo h (Wc cs h h 0)) none (some (((min h w:Nat):Int)+1))=Qk3 cs h w:=by
   rw[Qra _ _ (by omega)];unfold Qeo Qk3;rw[<- Qei,Qhb,show min (((min h w:Nat):Int)+1).toNat (h+1)=min h w+1 by omega]
  have hR:R (.list (Qk3 cs h w)):=hR;rw[<- e] at hR;exact hR
theorem QuC:(["number", "numbers"]:List Str).Nodup:=by decide +kernel
theorem Qwn:JN ["many", "numbers"] ["many", "numbers"] (QF sOth):=⟨rfl,rfl,rfl,by decide +kernel,rfl,by decide +kernel,by decide +kernel⟩
theorem QxA{f   : Addr}{fd  : Q0}(F:Fun K "others" "others" sOth f fd)(T:GlbA mg) :
  FnOk P w K mg base CX0 1 f fd ["many", "numbers"] (Zq false QAj):=by
 refine okQ false F Qwn (λargs R EX h=>?_) (λcdv A outer s H E hr=>?_)
 ·obtain⟨n,o,rfl,_⟩:=h;rfl
 ·have hU:=Room.u60 hr;have hI:=Room.i60 hr;refine⟨_,Q7 (Yc (Qd4 ["number", "numbers"] [none,some 1] (Qaq (by rfl) T.range (qp 0)) (λcl ex s3 H3 C=>⟨(ZR 0 QuC rfl (Q6 rfl) (Q4 rfl)),(QbM (Ya Qdd (QmS hI) (qp 0) (qp 1) (by rfl))),(qv 0)⟩))),λargs R EX h=>?_⟩;obtain⟨n,o,rfl,n6,hR⟩:=h;refine⟨⟨by omega,by omega⟩,Qrd (λd=>match d with | .int x=>if(!decide (x.toNat∈o))=true then some d else none | _=>none) (λd hd k1 k2 h1 h2=>?_) ?_⟩
  ·obtain⟨x,hx⟩:=Jx.mp hd;obtain⟨hx,rfl⟩:=QbK hx;have h1:(if(!decide ((0+(x:Int)).toNat∈o))=true then some (Qk (0+(x:Int))) else none)=none->k1:=h1;have h2:∀e,(if(!decide ((0+(x:Int)).toNat∈o))=true then some (Qk (0+(x:Int))) else none)=some e->k2 e:=h2
   rw[show(0+(x:Int)).toNat=x by omega] at h1 h2;have ei:YW o=(o.map λ(y:Nat)=>(y:Int)).map Qk:=by unfold YW;rw[QV];rfl
   refine⟨⟨by rw[ei];exact Y9 _,rfl,by show Jw (.int _)<=50;unfold Jw;decide⟩,?_⟩;show if(!(YW o).any λe=>QC e (.int (0+(x:Int))))=true then _ else k1
   rw[ei,Qn8];have em:decide (0+(x:Int)∈o.map λ(y:Nat)=>(y:Int))=decide (x∈o):=decide_eq_decide.mpr (by
    rw[QQ];constructor
    ·rintro⟨y,hy,e⟩;have e:(y:Int)=0+(x:Int):=e;rw[show x=y by omega];exact hy
    ·intro hx;exact⟨x,hx,by show(x:Int)=0+x;omega⟩)
   rw[em];by_cases z:(!decide (x∈o))=true
   ·rw[if_pos z];exact h2 _ (if_pos z)
   ·rw[if_neg z];exact h1 (if_neg z)
  ·have er:(Qfd 0 ((n:Nat):Int).toNat).filterMap (λd=>match d with | .int x=>if(!decide (x.toNat∈o))=true then some d else none | _=>none)=YW (oth n o):=by
    unfold Qfd YW oth;rw[Qv,ZB];refine Qi5 (p:=λx => !decide (x∈o)) λx _=>?_
    show(if(!decide ((0+(x:Int)).toNat∈o))=true then some (Qk (0+(x:Int))) else none)=if(!decide (x∈o))=true then some (Qk (x:Int)) else none
    rw[show(0+(x:Int)).toNat=x by omega,show(0:Int)+(x:Int)=(x:Int) by omega]
   rw[er];exact hR
theorem QjZ:(["order", "number", "many"]:List Str).Nodup:=by decide +kernel
theorem Qgn:JN ["many", "orders", "step"] ["many"] (QF QkK):=⟨rfl,rfl,rfl,by decide +kernel,rfl,by decide +kernel,by decide +kernel⟩
theorem Quv{f f1  : Addr}{fd fd1:Q0}(F:Fun K "all_orders" "all_orders" QkK f fd)(T:GlbA mg)
  (m1:mg "others" = some (.ref f1))(G1:FnOk P w K mg base CX0 1 f1 fd1 ["many", "numbers"] (Zq false QAj))(b1:Binds K fd1 ["many", "numbers"] [])(k1:PySem.W.keepIn K (.ref f1)=true) :
  FnOk P w K mg base CX0 2 f fd ["many"] (Zq true Qmz):=by
 refine okQ true F Qgn (λargs R EX h=>?_) (λcdv A outer s H E hr=>?_)
 ·obtain⟨n,rfl,_⟩:=h;rfl
 ·have hU:=Room.u60 hr;have hI:=Room.i60 hr;refine⟨_,QU (QdM 1 (Qgy (Qad (Z2 (Qa7 JB)) JB)) Qgn.nd)
   (QU (Qbx JR rfl (Qaq (by rfl) T.range (qp 0)) (ZR 2 Qgn.nd rfl (by first | exact Q6 rfl | exact Q4 rfl))
    (Q7 (Qmf ["order", "number", "many"] [none,none,some 0] 1 Qgn.nd (QgL 0) (QbO (qp 1)) (λcl ex s3 H3 C=>⟨(ZR 0 QjZ rfl (Q6 rfl) (Q4 rfl)),QaU,(QbO (JS G1 (hr.mono (by decide)) (by rfl) m1 k1 b1 JQ (Zm (qv 2) (Zm (qv 0) Jg)))),(ZR 1 QjZ rfl (Q6 rfl) (Q4 rfl)),QaU,(Z2 (QaE QcI QeN (qp 0) (Je (Qa7 (Qad (qv 1) JB)))))⟩))))
   (Q7 (Qgs 1))),λargs R EX h=>?_⟩
  obtain⟨n,rfl,n6,hR⟩:=h;have eG:∀i,((ordsN n i).map tNn).flatMap (λd=>match d with | .tuple ds=>(oth n (ds.map λe=>(toI e).toNat)).map λx=>Zk (ds++[.int (x:Nat)]) | _=>[])=(ordsN n (i+1)).map tNn:=λi=>by
   show _=((ordsN n i).flatMap λo=>(oth n o).map λx=>o++[x]).map tNn;rw[Qfv,Qfu];refine QfU λo _=>?_
   show(oth n ((YW o).map λe=>(toI e).toNat)).map (λx=>Zk (YW o++[.int (x:Nat)]))=((oth n o).map λx=>o++[x]).map tNn;rw[Qgc,QV];refine QH λx _=>?_
   show _=Zk (YW (o++[x]));unfold YW;rw[JO];rfl
  refine⟨⟨by omega,by omega⟩,QeW (λi δ=>∃ds x2,δ=[.v (.int n),.own ds,x2]/\ds=(ordsN n i).map tNn) ⟨_,_,rfl,rfl⟩ ?_ ?_⟩
  ·rintro i δ hi ⟨ds,x2,rfl,rfl⟩;rw[Qv] at hi;refine QgU (λd=>match d with | .tuple ds=>(oth n (ds.map λe=>(toI e).toNat)).map λx=>Zk (ds++[.int (x:Nat)]) | _=>[]) 50000 (by rw[eG,Qe];exact QjP n6 (i+1) (by omega)) (λd hd acc N hb hN=>?_) ?_
   ·obtain⟨o,ho,rfl⟩:=QQ.mp hd;have lo:=JZ ho;have hb:acc.length+((oth n ((YW o).map λe=>(toI e).toNat)).map λx=>Zk (YW o++[.int (x:Nat)])).length<=50000:=hb;have hN:N (acc++(oth n ((YW o).map λe=>(toI e).toNat)).map λx=>Zk (YW o++[.int (x:Nat)])):=hN;rw[Qgc] at hb hN;rw[Qe] at hb;have l1:(YW o).length=o.length:=by unfold YW;exact Qe _
    have l2:(YW (oth n o)).length=(oth n o).length:=by unfold YW;exact Qe _
    refine⟨_,_,rfl,n6,Qx7 (λd=>.tuple (YW o++[d])) (by rw[l2];exact YI hb (by decide)) (λd hd k2 hk=>?_) ?_⟩
    ·exact⟨by rw[l1];show _+1<=_;omega,hk⟩
    ·have e:(YW (oth n o)).map (λd=>Zk (YW o++[d]))=(oth n o).map λx=>Zk (YW o++[.int (x:Nat)]):=by
      conv=>lhs;unfold YW
      rw[QV];rfl
     rw[e];exact hN
   ·rw[eG];exact⟨_,_,rfl,rfl⟩
  ·rintro δ ⟨ds,x2,rfl,rfl⟩;rw[Qv];exact hR
theorem QkS:(["_law_column", "_law_pot_here", "_law_row", "_law_thick"]:List Str).Nodup:=by decide +kernel
theorem Qc8:JN ["_law_pot_here", "_law_high", "_law_wide", "_law_thick", "_law_cells", "_law_row"] ["_law_pot_here", "_law_high", "_law_wide"] (QF QfQ):=⟨rfl,rfl,rfl,by decide +kernel,rfl,by decide +kernel,by decide +kernel⟩
theorem QmJ{f f1  : Addr}{fd fd1:Q0}(F:Fun K "_law_board" "_law_board" QfQ f fd)(T:GlbA mg)
  (m1:mg "_law_take" = some (.ref f1))(G1:FnOk P w K mg base CX0 1 f1 fd1 ["_law_pot_here", "_law_far"] (Zq true QoG))(b1:Binds K fd1 ["_law_pot_here", "_law_far"] [])(k1:PySem.W.keepIn K (.ref f1)=true) :
  FnOk P w K mg base CX0 2 f fd ["_law_pot_here", "_law_high", "_law_wide"] (Zq false QAw):=by
 refine okQ false F Qc8 (λargs R EX h=>?_) (λcdv A outer s H E hr=>?_)
 ·obtain⟨h,w,rfl,_⟩:=h;rfl
 ·have hU:=Room.u60 hr;have hI:=Room.i60 hr;refine⟨_,QU (Y7 3 (Z2 (ZC G1 (hr.mono (by decide)) (by rfl) m1 k1 b1 JQ (Qc9 0 (Zm J9 Jg)))) Qc8.nd)
   (QU (QdM 4 (Qgy JB) Qc8.nd)
   (QU (Qbx JR rfl (Qaq (by rfl) T.range (qp 1)) (ZR 5 Qc8.nd rfl (by first | exact Q6 rfl | exact Q4 rfl))
    (Q7 (QwH 4 (Je (Qd4 ["_law_column", "_law_pot_here", "_law_row", "_law_thick"] [none,some 0,some 5,some 3] (Qaq (by rfl) T.range (qp 2)) (λcl ex s3 H3 C=>⟨(ZR 0 QkS rfl (Q6 rfl) (Q4 rfl)),(QbM (Ya Quj Qse (Je (ZC G1 (hr.mono (by decide)) (by rfl) m1 k1 b1 JQ (Qc9 1 (Zm J9 Jg)))) (qp 3) (Zz _))),(Z2 (Qa7 (Qad (qv 2) (Qad (qv 0) JB))))⟩))))))
   (Q7 (Yc (Qa7 (Qad (qv 1) (Qad (qv 2) (Qad (Z2 (Qbm Yo Qcg (by rfl) T.tuple Qam (QcE (qp 4) JB))) JB)))))))),λargs R EX h=>?_⟩
  obtain⟨h,w,rfl,h6,w6,hR⟩:=h;refine⟨_,rfl,by decide,by decide,λth th0 th1=>⟨⟨by omega,by omega⟩,QeW (λi δ=>∃f ds x5,δ=[.pot,.v (.int h),.v (.int w),.v (.int th),.own ds,x5]/\ds=(cellsF i w f).map pairD) ⟨λ_ _=>false,_,_,rfl,rfl⟩ ?_ ?_⟩⟩
  ·rintro i δ hi ⟨f,ds,x5,rfl,rfl⟩;rw[Qv] at hi;refine⟨⟨by omega,by omega⟩,QyB (λd=>match d with | .int c=>pairD ((i:Int),c) | _=>.none) (λd hd k1 k2 h1 h2=>?_) λp=>?_⟩
   ·obtain⟨c,hc⟩:=Jx.mp hd;obtain⟨hc2,rfl⟩:=QbK hc;refine⟨_,rfl,by decide,by decide,λr r0 r1=>?_⟩;refine ifC (λz=>?_) λz=>?_
    ·show k2 (pairD (0+(i:Int),0+(c:Int)));rw[show(0:Int)+(i:Int)=(i:Int) by omega];exact h2
    ·exact h1
   ·have er:((Qa (Qfd 0 ((w:Nat):Int).toNat).length).filter p).map (λq=>(match (Qfd 0 ((w:Nat):Int).toNat).getD q .none with | .int c=>pairD ((i:Int),c) | _=>.none))=(Qcu i w λ_=>p).map pairD:=by
     rw[QeG,Qv];unfold Qcu;rw[QV];refine QH λc hc=>?_
     have hc:=Qu.mp (QN.mp hc).1;have eg:(Qfd 0 w).getD c .none=.int (0+(c:Int)):=by
      unfold Qfd;rw[Qd,Qo,Qr hc];rfl
     rw[eg];show pairD ((i:Int),0+(c:Int))=pairD ((i:Int),(c:Int));rw[show(0:Int)+(c:Int)=(c:Int) by omega]
    rw[er];have l1:=Qba w f i;have l2:=QjC i w (λ_=>p);have l3:i*w<=6*6:=QbE (by omega) w6;refine⟨by rw[Qe,Qe];omega,λr c=>if r=i then p c else f r c,_,_,rfl,?_⟩;rw[Yz,JO,YA (f:=λr c=>if r=i then p c else f r c) (g:=f) λr c hr _=>if_neg (by omega),QfI (f:=λr c=>if r=i then p c else f r c) (g:=λ_=>p) λc _=>if_pos rfl]
  ·rintro δ ⟨f,ds,x5,rfl,rfl⟩;rw[Qv];exact hR f
theorem QjX:(["row", "column"]:List Str).Nodup:=by decide +kernel
theorem Qgj:JN ["board", "high", "wide", "cells"] ["board"] (QF QkH):=⟨rfl,rfl,rfl,by decide +kernel,rfl,by decide +kernel,by decide +kernel⟩
theorem Quq{f   : Addr}{fd  : Q0}(F:Fun K "turned" "turned" QkH f fd)(T:GlbA mg) :
  FnOk P w K mg base CX0 2 f fd ["board"] (Zq false QlP):=by
 refine okQ false F Qgj (λargs R EX h=>?_) (λcdv A outer s H E hr=>?_)
 ·obtain⟨h,w,f,rfl,_⟩:=h;rfl
 ·have hU:=Room.u60 hr;have hI:=Room.i60 hr;refine⟨_,QU (QhF (qv 0) (Qa5 rfl (Za 1 (Za 2 (Za 3 Qa6 Qgj.nd rfl (by first | exact Q6 rfl | exact Q4 rfl)) Qgj.nd rfl (by first | exact Q6 rfl | exact Q4 rfl)) Qgj.nd rfl (by first | exact Q6 rfl | exact Q4 rfl))))
   (Q7 (Yc (Qa7 (Qad (qv 2) (Qad (qv 1) (Qad (Z2 (Qbm Yo Qcg (by rfl) T.tuple Qam (QcE (Je (Z8 Qk6 cd_sortP (by rfl) T.sorted QbV (QcE (Je (Qd4 ["row", "column"] [none,none] (QjF (qp 3)) (λcl ex s3 H3 C=>⟨(Qa5 rfl (Za 0 (Za 1 Qa6 QjX rfl (Q6 rfl) (Q4 rfl)) QjX rfl (Q6 rfl) (Q4 rfl))),QaU,(Z2 (Qa7 (Qad (qv 1) (Qad (qv 0) JB))))⟩))) JB))) JB))) JB)))))),λargs R EX h=>?_⟩
  obtain⟨h,w,f,rfl,h6,w6,hR⟩:=h;have hb:∀p∈cellsF h w f,0<=p.1/\p.1<h/\0<=p.2/\p.2<w:=λp hp=>YU hp
  have nd1:(cellsF h w f).Nodup:=(pw_cellsF w f h).imp Qr5;have nd2:(cellsF w h (tF f)).Nodup:=(pw_cellsF h (tF f) w).imp Qr5;have ln:(cellsF h w f).length<=36:=QJ (Qba w f h) (QbE h6 w6);have es:((cellsF h w f).map pairD).map (λd=>pairD ((toP d).2,(toP d).1))=((cellsF h w f).map λp=>(p.2,p.1)).map pairD:=by rw[QV,QV];rfl
  have nd3:((cellsF h w f).map λp=>(p.2,p.1)).Nodup:=Yf.mpr (nd1.imp λ{a b} hne e=>hne (QcX (J8 e).2 (J8 e).1));refine⟨rfl,Qh7 (λd=>pairD ((toP d).2,(toP d).1)) (λd hd k2 hk=>?_) ?_⟩
  ·obtain⟨p,_,rfl⟩:=QQ.mp hd;exact⟨rfl,hk⟩
  ·rw[es];refine sortP_of nd3 (by rw[Qe];omega) (λp hp=>?_) λM pM pw=>?_
   ·obtain⟨q,hq,rfl⟩:=QQ.mp hp;have:=hb q hq;show 0<=q.1/\q.1<64;omega
   ·have pc:M.Perm (cellsF w h (tF f)):=pM.trans ((Qbd nd3 nd2).mpr λp=>by
     rw[QQ,Yn];constructor
     ·rintro⟨q,hq,rfl⟩;obtain⟨r,c,hr,hc,hf,rfl⟩:=Yn.mp hq;exact⟨c,r,hc,hr,hf,rfl⟩
     ·rintro⟨r,c,hr,hc,hf,rfl⟩;exact⟨((c:Int),(r:Int)),Yn.mpr ⟨c,r,hc,hr,hf,rfl⟩,rfl⟩)
    have eM:M=cellsF w h (tF f):=YX (le:=plt) (λa b _ _ h1 h2=>by rcases h1 with x | x<;>rcases h2 with y | y<;>omega) pw (pw_cellsF h (tF f) w) pc;rw[eM];exact hR
theorem QhN:(["row", "column", "cells", "wide"]:List Str).Nodup:=by decide +kernel
theorem Qc6:JN ["board", "high", "wide", "cells", "left"] ["board"] (QF QfE):=⟨rfl,rfl,rfl,by decide +kernel,rfl,by decide +kernel,by decide +kernel⟩
theorem QpD{f   : Addr}{fd  : Q0}(F:Fun K "rest" "rest" QfE f fd)(T:GlbA mg) :
  FnOk P w K mg base CX0 1 f fd ["board"] (Zq false Ql6):=by
 refine okQ false F Qc6 (λargs R EX h=>?_) (λcdv A outer s H E hr=>?_)
 ·obtain⟨h,w,f,rfl,_⟩:=h;rfl
 ·have hU:=Room.u60 hr;have hI:=Room.i60 hr;refine⟨_,QU (QhF (qv 0) (Qa5 rfl (Za 1 (Za 2 (Za 3 Qa6 Qc6.nd rfl (by first | exact Q6 rfl | exact Q4 rfl)) Qc6.nd rfl (by first | exact Q6 rfl | exact Q4 rfl)) Qc6.nd rfl (by first | exact Q6 rfl | exact Q4 rfl))))
   (QU (Qgt ["row", "column", "cells", "wide"] [none,none,some 3,some 2] 4 Qc6.nd (QgL 0) (Qaq (by rfl) T.range (qp 1)) (λcl ex s3 H3 C=>⟨(ZR 0 QhN rfl (Q6 rfl) (Q4 rfl)),QaU,(Qaq (by rfl) T.range (qp 3)),(ZR 1 QhN rfl (Q6 rfl) (Q4 rfl)),(QbM (Ya Qdd (QmS hI) (Je (Qa7 (Qad (qv 0) (Qad (qv 1) JB)))) (qp 2) (by rfl))),(Z2 (Qa7 (Qad (qv 0) (Qad (qv 1) JB))))⟩))
   (Q7 (Yc (Qa7 (Qad (qv 1) (Qad (qv 2) (Qad (Z2 (Qbm Yo Qcg (by rfl) T.tuple Qam (QcE (qp 4) JB))) JB))))))),λargs R EX h=>?_⟩
  obtain⟨h,w,f,rfl,h6,w6,hR⟩:=h;have fl:∀i,(cellsF i w (QjU f)).length<=i*w:=Qba w (QjU f)
  have e0:∀n:Nat,(Qfd 0 n).flatMap (λd=>match d with | .int r=>(Qcu r.toNat w (QjU f)).map pairD | _=>[])=(cellsF n w (QjU f)).map pairD:=λn=>by
   unfold Qfd cellsF;rw[Qfv,Qfu]
   congr 1
   funext r
   show(Qcu (0+(r:Int)).toNat w (QjU f)).map pairD=_;rw[show(0+(r:Int)).toNat=r by omega]
  refine⟨rfl,⟨by omega,by omega⟩,QgU (λd=>match d with | .int r=>(Qcu r.toNat w (QjU f)).map pairD | _=>[]) 36 ?_ (λd hd acc N hb hN=>?_) ?_⟩
  ·rw[Qv,e0,Qe];exact QJ (fl h) (QbE h6 w6)
  ·obtain⟨i,hi⟩:=Jx.mp hd;obtain⟨hi2,rfl⟩:=QbK hi;rw[Qv] at hi2;have hN:N (acc++(Qcu (0+(i:Int)).toNat w (QjU f)).map pairD):=hN;have hb:acc.length+((Qcu (0+(i:Int)).toNat w (QjU f)).map pairD).length<=36:=hb;rw[show(0+(i:Int)).toNat=i by omega] at hN hb;refine⟨⟨by omega,by omega⟩,QpW (λd=>match d with | .int c=>if(!f i c.toNat)=true then some (pairD ((i:Int),c)) else none | _=>none) ?_ (λd hd k1 k2 h1 h2=>?_) ?_⟩
   ·rw[QeG];exact YI (show acc.length+((w:Nat):Int).toNat<=42 by omega) (by decide)
   ·obtain⟨c,hc⟩:=Jx.mp hd;obtain⟨hc2,rfl⟩:=QbK hc;rw[Qv] at hc2;have h1:(if(!f i (0+(c:Int)).toNat)=true then some (pairD ((i:Int),0+(c:Int))) else none)=none->k1:=h1;have h2:∀e,(if(!f i (0+(c:Int)).toNat)=true then some (pairD ((i:Int),0+(c:Int))) else none)=some e->k2 e:=h2
    rw[show(0+(c:Int)).toNat=c by omega] at h1 h2;refine⟨⟨QbT _,rfl,by have:=Qk0 ((0+(i:Int)),(0+(c:Int)));exact QJ (Nat.le_of_eq this) (by decide)⟩,?_⟩;show if(!((cellsF h w f).map pairD).any λe=>QC e (pairD (0+(i:Int),0+(c:Int))))=true then k2 (pairD (0+(i:Int),0+(c:Int))) else k1
    rw[Qil];have em:decide ((0+(i:Int),0+(c:Int))∈cellsF h w f)=f i c:=by
     rw[show(0:Int)+(i:Int)=(i:Int) by omega,show(0:Int)+(c:Int)=(c:Int) by omega,JA,decide_eq_true_eq,Yn];constructor
     ·rintro⟨r,d,_,_,hf,e⟩;have e1:(i:Int)=r:=(J8 e).1;have e2:(c:Int)=d:=(J8 e).2;rw[show i=r by omega,show c=d by omega];exact hf
     ·intro hf;exact⟨i,c,hi2,hc2,hf,rfl⟩
    rw[em,show(0:Int)+(i:Int)=(i:Int) by omega];by_cases z:(!f i c)=true
    ·rw[if_pos z];exact h2 _ (if_pos z)
    ·rw[if_neg z];exact h1 (if_neg z)
   ·have er:(Qfd 0 ((w:Nat):Int).toNat).filterMap (λd=>match d with | .int c=>if(!f i c.toNat)=true then some (pairD ((i:Int),c)) else none | _=>none)=(Qcu i w (QjU f)).map pairD:=by
     unfold Qfd Qcu;rw[Qv,ZB,QV];refine Qi5 (p:=QjU f i) λc _=>?_
     show(if(!f i (0+(c:Int)).toNat)=true then some (pairD ((i:Int),0+(c:Int))) else none)=if(!f i c)=true then some (pairD ((i:Int),(c:Int))) else none
     rw[show(0+(c:Int)).toNat=c by omega,show(0:Int)+(c:Int)=(c:Int) by omega]
    rw[er];exact hN
  ·rw[Qv,e0];exact hR
theorem QuD:(["part", "many"]:List Str).Nodup:=by decide +kernel
theorem Qwp:JN ["many", "thing"] ["many", "thing"] (QF sIsO):=⟨rfl,rfl,rfl,by decide +kernel,rfl,by decide +kernel,by decide +kernel⟩
theorem QxE{f f1  : Addr}{fd fd1:Q0}(F:Fun K "is_order" "is_order" sIsO f fd)(T:GlbA mg)
  (m1:mg "is_whole_within" = some (.ref f1))(G1:FnOk P w K mg base CX0 2 f1 fd1 ["thing", "least", "most"] (Zq false QiE))(b1:Binds K fd1 ["thing", "least", "most"] [])(k1:PySem.W.keepIn K (.ref f1)=true) :
  FnOk P w K mg base CX0 3 f fd ["many", "thing"] (Zq false Qy4):=by
 refine okQ false F Qwp (λargs R EX h=>?_) (λcdv A outer s H E hr=>?_)
 ·obtain⟨n,o,rfl,_⟩:=h;rfl
 ·have hU:=Room.u60 hr;have hI:=Room.i60 hr;refine⟨_,QU (QaV (Qr0 (Qgr (Qa4 (QbN (Je (QjI .tuple (by rfl) T.isinstance (qp 1) (by rfl) T.tuple Qam)))) (QeH (Ya Qcw (Qfo hU) (Je (Z8 Qap Qd7 (by rfl) T.len QbW (QcE (qp 1) JB))) (qp 0) (Zz _))))) (Q7 (YL Qlm)) ZX)
   (QU (QaV (Qa4 (QbN (Je (Z8 Qrf (QyC rfl) (by rfl) T.all QyE (QcE (Je (Qd4 ["part", "many"] [none,some 0] (QjF (qp 1)) (λcl ex s3 H3 C=>⟨(ZR 0 QuD rfl (Q6 rfl) (Q4 rfl)),QaU,(JS G1 (hr.mono (by decide)) (by rfl) m1 k1 b1 JQ (Zm (qv 0) (Zm J9 (Zm (Z2 (QaE QeM Qde (qp 1) (Jp J9))) Jg))))⟩))) JB))))) (Q7 (YL Qlm)) ZX)
   (Q7 (Yc (Qfn Qa9 (QdP hU) (Je (Z8 QdW Qjd (by rfl) T.sorted QbV (QcE (qp 1) JB))) (Je (Qo1 (by rfl) T.list (by rfl) T.range (qp 0))) (Zz _))))),λargs R EX h=>?_⟩
  obtain⟨n,o,rfl,n6,ho,hR⟩:=h;have lo:=JZ ho;have li:(YW o).length=o.length:=by unfold YW;exact Qe _
  refine ifF (by show(!decide ((((YW o).length:Nat):Int)=(n:Int)))=false;rw[li,lo,decide_eq_true rfl];rfl) ?_
  refine Qh7 (λ_=>.bool true) (λd hd k2 hk=>?_) (QvA (g:=λ_=>true) (items:=YW o) rfl ?_)
  ·unfold YW at hd;obtain⟨x,hx,rfl⟩:=QQ.mp hd;have:=QcH ho x hx;refine⟨_,_,_,rfl,?_⟩;rw[show inW (.int (x:Int)) 0 ((n:Int) - 1)=true from QAD (by omega) (by omega)];exact hk
  ·rw[Y5.mpr λ_ _=>rfl];refine((QiK (Qrm o) (by unfold iN;rw[Qe];omega) λms pm pw=>?_).2);refine⟨⟨by omega,by omega⟩,?_⟩;have er:(Qa n).map (λ(i:Nat)=>Qk (i:Int))=(iN (Qa n)).map Qk:=by unfold iN;rw[QV];rfl
   rw[Qx4 ho pm pw,Qv,er];refine⟨⟨Y9 _,Y9 _,.inl (Qcd _)⟩,?_⟩;rw[Qp9];exact hR
end
theorem QrV{α:Type}(x:α):∀n,(QZ n [x]).flatten=QZ n x
 |0=>rfl
 |n+1=>by rw[JU,ZN,QrV x n,JU];rfl
theorem QmY(o:List Nat)(h w:Nat):(QZ w [Qk 0]).flatten=Qln o h w []:=by
 rw[QrV];unfold Qln;refine Ja λk=>?_
 rw[ZL,Qo];by_cases hk:k<w
 ·rw[if_pos hk,Qr hk];rfl
 ·rw[if_neg hk,Qp (by rw[Qh];omega)];rfl
theorem QgG(o:List Nat)(h w:Nat)(l:List (Int×Int)):(Qln o h w l).length=w:=by unfold Qln;rw[Qe,Qh]
theorem QiY(o:List Nat)(h:Nat){w c:Nat}(l:List (Int×Int))(hc:c<w):(Qln o h w l)[c]? = some (.int (mkS o h l c)):=by unfold Qln;rw[Qo,Qr hc];rfl
theorem QuF(o:List Nat)(h w r c:Nat)(l:List (Int×Int)):(Qln o h w l).set c (.int (mkS o h l c+1*2^(h - 1 - o.idxOf r)))=Qln o h w (l++[((r:Int),(c:Int))]):=by
 refine Ja λk=>?_
 rw[Qfa,QgG];by_cases hk:k<w
 ·rw[QiY _ _ _ hk,QiY _ _ _ hk,QiZ];have e1:mkS o h [((r:Int),(c:Int))] k=if(c:Int)=(k:Int) then(2:Int)^(h - 1 - o.idxOf r) else 0:=by
   show(if(c:Int)=(k:Int) then(2:Int)^(h - 1 - o.idxOf ((r:Int)).toNat) else 0)+0=_;rw[Qv];omega
  rw[e1];by_cases z:c=k
  ·subst z;rw[if_pos rfl,if_pos hk,if_pos rfl,Int.one_mul]
  ·rw[if_neg z,if_neg (by omega),Qfx]
 ·rw[Qp (by rw[QgG];omega),Qp (by rw[QgG];omega)];split<;>(try split)<;>first | rfl | omega
theorem QuG{h w:Nat}{f:Nat->Nat->Bool}{o:List Nat}(ho:o.Perm (Qa h)):Qln o h w (cellsF h w f)=(Qb8 f o w).map Qk:=by
 unfold Qln Qb8;rw[QV];refine QH λc hc=>?_
 show Qk (mkS o h (cellsF h w f) c)=.int (Qbf (Qdx f o c));rw[QpR ho (Qu.mp hc)]
theorem QpX{o:List Nat}{r:Nat}(h:r∈o):(o.map λ(x:Nat)=>(x:Int))[o.idxOf r]? = some (r:Int)/\∀m,m<o.idxOf r->(o.map λ(x:Nat)=>(x:Int))[m]? ≠ some (r:Int):=by
 have hl:=JV h;refine⟨?_,λm hm e=>?_⟩
 ·rw[Qo,Qc hl,Qah hl];rfl
 ·rw[Qo,Qc (by omega)] at e;have e:=QK e;have e:o[m]=r:=by have:((o[m]:Nat):Int)=(r:Int):=e;omega
  have:=List.not_of_lt_findIdx hm;rw[e] at this;simp at this
def Qy5(m:Int)(t:List Nat):Qb->Option Qb
 |.tuple [.int c,.int x]=>if(decide (x=m) && !decide (c.toNat∈t))=true then some (.int c) else none
 |_=>none
theorem Qp7(ms:List Int)(m:Int)(t:List Nat):(Qco (ms.map Qk)).filterMap (Qy5 m t)=YW ((Qa ms.length).filter λc=>decide (ms.getD c 0=m) && !decide (c∈t)):=by
 unfold Qco YW;rw[Qe,ZB];refine Qi5 (p:=λc=>decide (ms.getD c 0=m) && !decide (c∈t)) λc hc=>?_
 have hc:=Qu.mp hc;have e:(ms.map Qk).getD c .none=.int (ms.getD c 0):=by
  rw[Qd,Qo,Qc hc,Qd,Qc hc];rfl
 show Qy5 m t (.tuple [.int c,(ms.map Qk).getD c .none])=_;rw[e];show(if(decide (ms.getD c 0=m) && !decide (((c:Int)).toNat∈t))=true then some (Qk (c:Int)) else none)=_;rw[Qv]
theorem QpY(t:List Nat):YW t=(t.map λ(y:Nat)=>(y:Int)).map Qk:=by unfold YW;rw[QV];rfl
theorem QAt(t:List Nat):nds (YW t)=true:=by rw[QpY];exact Y9 _
theorem QAW(t:List Nat)(x:Nat):((YW t).any λe=>QC e (.int (x:Int)))=decide (x∈t):=by
 rw[QpY,Qn8];exact decide_eq_decide.mpr (by
  rw[QQ];constructor
  ·rintro⟨y,hy,e⟩;have e:(y:Int)=(x:Int):=e;rw[show x=y by omega];exact hy
  ·intro hx;exact⟨x,hx,rfl⟩)
theorem Qo4{mt:Nat->Nat->Bool}{w i n:Nat}(h:putN mt w i=none)(hn:i<=n):putN mt w n=none:=by
 obtain⟨k,rfl⟩:∃k,n=i+k:=⟨n - i,by omega⟩
 clear hn;induction k with
 |zero=>exact h
 |succ k ih=>
  show(putN mt w (i+k)).bind _=none;rw[ih];rfl
theorem QcJ(f:Nat->Nat->Bool)(o:List Nat)(w:Nat):(Qb8 f o w).length=w:=by unfold Qb8;rw[Qe,Qh]
theorem QmX{f:Nat->Nat->Bool}{o:List Nat}{w c:Nat}(h:c<w):(Qb8 f o w).getD c 0=Qbf (Qdx f o c):=by
 unfold Qb8;rw[Qd,Qo,Qr h];rfl
theorem QwO{f f2:Nat->Nat->Bool}{h w:Nat}{o:List Nat}(ho:o.length=h):putN (λj c=>decide ((Qb8 f o w).getD c 0=(Qb8 f2 (Qa h) w).getD j 0)) w w=putN (mtF f f2 h o) w w:=by
 refine QhG λj c hj hc=>?_
 rw[QmX hc,QmX hj];refine Qvu ?_
 unfold Qdx;rw[Qe,Qe,Qh,ho]
section
variable{P:QB}{w:Jd}{K:PySem.W.Frag}{mg:Str->Option Value}{base:Heap}
theorem QeF:JN ["board", "rows", "high", "wide", "cells", "marks", "row", "column"] ["board", "rows"] (QF QfF):=⟨rfl,rfl,rfl,by decide +kernel,rfl,by decide +kernel,by decide +kernel⟩
theorem QxG{f   : Addr}{fd  : Q0}(F:Fun K "column_marks" "column_marks" QfF f fd)(T:GlbA mg) :
  FnOk P w K mg base CX0 1 f fd ["board", "rows"] (Zq true QyA):=by
 refine okQ true F QeF (λargs R EX h=>?_) (λcdv A outer s H E hr=>?_)
 ·obtain⟨h,w,f,o,rfl,_⟩:=h;rfl
 ·have hU:=Room.u60 hr;have hI:=Room.i60 hr;refine⟨_,QU (QhF (qv 0) (Qa5 rfl (Za 2 (Za 3 (Za 4 Qa6 QeF.nd rfl (by first | exact Q6 rfl | exact Q4 rfl)) QeF.nd rfl (by first | exact Q6 rfl | exact Q4 rfl)) QeF.nd rfl (by first | exact Q6 rfl | exact Q4 rfl))))
   (QU (QdM 5 (QaE QmD Qsd (Je (Qgy (Qad J9 JB))) (qp 3)) QeF.nd)
   (QU (Qbx JR rfl (QjF (qv 4)) (Qa5 rfl (Za 6 (Za 7 Qa6 QeF.nd rfl (by first | exact Q6 rfl | exact Q4 rfl)) QeF.nd rfl (by first | exact Q6 rfl | exact Q4 rfl)))
    (Q7 (Qmh 5 Qsi QmQ (qp 7) (Je (QaE QhM QmT (Jp J9) (Je (QaE QeM Qde (Je (QaE QeM Qde (qp 2) (Jp J9))) (Je (QwJ (qp 1) (qp 6))))))))))
   (Q7 (Qgs 5)))),λargs R EX h=>?_⟩
  obtain⟨h,w,f,o,rfl,h6,w6,ho,hR⟩:=h;refine⟨rfl,⟨by omega,by omega,by show 1*_<=_;omega⟩,?_⟩;rw[Qv,QmY o h w];refine QaF (λi δ=>∃x6 x7,δ=[.v (bdD h w (cellsF h w f)),.v (tNn o),.v (.int h),.v (.int w),.v (.tuple ((cellsF h w f).map pairD)),.own (Qln o h w ((cellsF h w f).take i)),x6,x7]) ⟨_,_,rfl⟩ ?_ ?_
  ·rintro i d δ hd ⟨x6,x7,rfl⟩;rw[Qo] at hd;obtain⟨p,ep,rfl⟩:∃p,(cellsF h w f)[i]? = some p/\d=pairD p:=by
    cases e:(cellsF h w f)[i]? with
    |none=>rw[e] at hd;cases hd
    |some p=>rw[e] at hd;cases hd;exact⟨p,rfl,rfl⟩
   obtain⟨r,c,hr,hc,hf,rfl⟩:=Yn.mp (Jo ep);have mo:r∈o:=ho.mem_iff.mpr (Qu.mpr hr);obtain⟨i1,i2⟩:=QpX mo;have il:=JV mo;have ol:o.length=h:=by rw[ho.length_eq,Qh]
   refine⟨rfl,c,.int (mkS o h ((cellsF h w f).take i) c),Qnb (by rw[QgG];exact hc),QiY _ _ _ hc,o.map λ(x:Nat)=>(x:Int),(r:Int),o.idxOf r,by unfold YW;rw[QV];rfl,rfl,i1,i2,⟨by omega,by omega,by decide⟩,.v (.int r),.v (.int c),?_⟩;have e1:((h:Int) - 1 - (o.idxOf r:Nat)).toNat=h - 1 - o.idxOf r:=by omega
   rw[Zs,ep];show[Sl.v (bdD h w (cellsF h w f)),.v (tNn o),.v (.int h),.v (.int w),.v (.tuple ((cellsF h w f).map pairD)),.own ((Qln o h w ((cellsF h w f).take i)).set c (.int (mkS o h ((cellsF h w f).take i) c+1*2^((h:Int) - 1 - (o.idxOf r:Nat)).toNat))),.v (.int r),.v (.int c)]=_;rw[e1,QuF];rfl
  ·rintro δ ⟨x6,x7,rfl⟩;rw[Qe,JY,QuG ho];exact hR
end
theorem Qc4(f:Nat->Nat->Bool)(o:List Nat)(w:Nat):(QfA f o w).Perm (Qa w):=List.mergeSort_perm _ _
theorem Qhx(f:Nat->Nat->Bool)(o:List Nat)(w:Nat):((QfA f o w).map (mkO f o)).Pairwise (·≥·):=by
 refine Yf.mpr ((List.pairwise_mergeSort (λa b c h1 h2=>?_) (λa b=>?_) _).imp λ{a b} h=>of_decide_eq_true h)
 ·have h1:=of_decide_eq_true h1;have h2:=of_decide_eq_true h2;exact decide_eq_true (Qfw h2 h1)
 ·rcases Int.le_total (mkO f o a) (mkO f o b) with z | z
  ·rw[decide_eq_true z,Bool.or_true]
  ·rw[decide_eq_true z,Bool.true_or]
theorem Qb4(f:Nat->Nat->Bool)(o:List Nat)(w:Nat):(QfA f o w).length=w:=by rw[(Qc4 f o w).length_eq,Qh]
def binN:List Bool->Nat
 |[]=>0
 |b::bs=>(if b=true then 2^bs.length else 0)+binN bs
theorem Qjk:∀bs,binN bs<2^bs.length
 |[]=>by decide
 |b::bs=>by
  have h:=Qjk bs;show(if b=true then 2^bs.length else 0)+binN bs<2^(bs.length+1);rw[Qlv];split<;>omega
theorem QsC:∀bs,Qbf bs=(binN bs:Int)
 |[]=>rfl
 |b::bs=>by
  show(if b=true then(2:Int)^bs.length else 0)+Qbf bs=(((if b=true then 2^bs.length else 0)+binN bs:Nat):Int);rw[QsC bs,Int.natCast_add];split
  ·rw[Int.natCast_pow];rfl
  ·rfl
theorem Qkn:∀(bs:List Bool)(p:Nat),p<bs.length->(binN bs).testBit (bs.length - 1 - p)=bs.getD p false
 |[],p,h=>by simp at h
 |b::bs,0,_=>by
  have hl:=Qjk bs;show((if b=true then 2^bs.length else 0)+binN bs).testBit (bs.length+1 - 1 - 0)=b;rw[YJ,QcZ];cases b
  ·show(0+binN bs).testBit bs.length=false;rw[Qaz];exact Qlh hl
  ·show(2^bs.length+binN bs).testBit bs.length=true;rw[Nat.testBit_two_pow_add_eq,Qlh hl];rfl
 |b::bs,p+1,h=>by
  have h:p<bs.length:=by simpa using h
  have e:(b::bs).length - 1 - (p+1)=bs.length - 1 - p:=by rw[Qt];omega
  rw[e];show((if b=true then 2^bs.length else 0)+binN bs).testBit (bs.length - 1 - p)=bs.getD p false;rw[<- Qkn bs p h];cases b
  ·show(0+binN bs).testBit _=_;rw[Qaz]
  ·exact Nat.testBit_two_pow_add_gt (by omega) _
theorem Qrn{bs:List Bool}{p:Nat}(h6:bs.length<=6)(hp:p<bs.length):(Zp (Qbf bs) (1*2^((bs.length - 1 - p:Nat):Int).toNat) != 0)=bs.getD p false:=by
 rw[QsC,Qn9 (Qjk bs) (by omega) h6,Qkn bs p hp];cases bs.getD p false with
 |false=>rfl
 |true=>
  rw[if_pos rfl];have:=QjK (bs.length - 1 - p);simp only[bne_iff_ne,ne_eq];omega
theorem Qdn{f:Nat->Nat->Bool}{o:List Nat}{c r:Nat}(hr:r<o.length):(Qdx f o c).getD r false=f (o.getD r 0) c:=by
 unfold Qdx;rw[Qd,Qo,Qc hr,Qd,Qc hr];rfl
def rwG(h r:Nat):Qb->Option Qb
 |.tuple [.int c,.int m]=>if(Zp m (1*2^((h:Int) - 1 - (0+(r:Int))).toNat) != 0)=true then some (pairD (0+(r:Int),c)) else none
 |_=>none
theorem QzR{h r w:Nat}{f:Nat->Nat->Bool}{o q:List Nat}(h6:h<=6)(ho:o.length=h)(hq:q.length=w)(hr:r<h):(Qco ((q.map (mkO f o)).map Qk)).filterMap (rwG h r)=(Qcu r w (ldF f o q)).map pairD:=by
 unfold Qco Qcu;rw[Qe,Qe,ZB,hq];refine(Qi5 (p:=ldF f o q r) (k:=λc:Nat=>pairD ((r:Int),(c:Int))) λc hc=>?_).trans (by rw[QV];rfl);have hc:=Qu.mp hc;have e:((q.map (mkO f o)).map Qk).getD c .none=.int (Qbf (Qdx f o (q.getD c 0))):=by
  rw[Qd,Qo,Qo,Qc (by omega),Qd,Qc (by omega)];rfl
 show rwG h r (.tuple [.int c,((q.map (mkO f o)).map Qk).getD c .none])=_;rw[e];show(if(Zp (Qbf (Qdx f o (q.getD c 0))) (1*2^((h:Int) - 1 - (0+(r:Int))).toNat) != 0)=true then some (pairD (0+(r:Int),(c:Int))) else none)=_;have lc:(Qdx f o (q.getD c 0)).length=h:=by unfold Qdx;rw[Qe,ho]
 have ee:((h:Int) - 1 - (0+(r:Int))).toNat=(((Qdx f o (q.getD c 0)).length - 1 - r:Nat):Int).toNat:=by rw[lc];omega
 rw[ee,Qrn (by omega) (by omega),Qdn (by omega),YR];rfl
section
variable{P:QB}{w:Jd}{K:PySem.W.Frag}{mg:Str->Option Value}{base:Heap}
theorem QiX:(["place", "column", "mark", "high", "marks"]:List Str).Nodup:=by decide +kernel
theorem QjA:JN ["board", "rows", "high", "marks", "cells"] ["board", "rows"] (QF sLbc):=⟨rfl,rfl,rfl,by decide +kernel,rfl,by decide +kernel,by decide +kernel⟩
theorem QxC{f f1  : Addr}{fd fd1:Q0}(F:Fun K "least_by_columns" "least_by_columns" sLbc f fd)(T:GlbA mg)
  (m1:mg "column_marks" = some (.ref f1))(G1:FnOk P w K mg base CX0 1 f1 fd1 ["board", "rows"] (Zq true QyA))(b1:Binds K fd1 ["board", "rows"] [])(k1:PySem.W.keepIn K (.ref f1)=true) :
  FnOk P w K mg base CX0 2 f fd ["board", "rows"] (Zq false QAv):=by
 refine okQ false F QjA (λargs R EX h=>?_) (λcdv A outer s H E hr=>?_)
 ·obtain⟨h,w,f,o,rfl,_⟩:=h;rfl
 ·have hU:=Room.u60 hr;have hI:=Room.i60 hr;refine⟨_,QU (Y7 2 (Qcv ZG YT (qp 0) (Jp J9) (λ_ _=>rfl)) QjA.nd)
   (QU (Y7 3 (Z2 (Qtw (by rfl) T.sorted (Je (ZC G1 (hr.mono (by decide)) (by rfl) m1 k1 b1 JQ (Zm (qv 0) (Zm (qv 1) Jg)))))) QjA.nd)
   (QU (Qgt ["place", "column", "mark", "high", "marks"] [none,none,none,some 2,some 3] 4 QjA.nd (QgL 0) (Qaq (by rfl) T.range (qp 2)) (λcl ex s3 H3 C=>⟨(ZR 0 QiX rfl (Q6 rfl) (Q4 rfl)),QaU,(Qgw (by rfl) T.enumerate (qv 4)),(Qa5 rfl (Za 1 (Za 2 Qa6 QiX rfl (Q6 rfl) (Q4 rfl)) QiX rfl (Q6 rfl) (Q4 rfl))),(QbM (Qme (Je (QaE Qsc Qde (qp 2) (Je (QaE QhM QmT (Jp J9) (Je (QaE QeM Qde (Je (QaE QeM Qde (qp 3) (Jp J9))) (qp 0))))))))),(Z2 (Qa7 (Qad (qv 0) (Qad (qv 1) JB))))⟩))
   (Q7 (Yc (Qa7 (Qad (qv 2) (Qad (Qcv ZG YT (qp 0) (Jp J9) (λ_ _=>rfl)) (Qad (Z2 (Qbm Yo Qcg (by rfl) T.tuple Qam (QcE (qp 4) JB))) JB)))))))),λargs R EX h=>?_⟩
  obtain⟨h,w,f,o,rfl,h6,w6,ho,hR⟩:=h;refine⟨_,JG (j:=0) rfl,h,w,f,o,rfl,h6,w6,ho,?_⟩;refine QoO (ints_map _) (by rw[QcJ];omega) λms pm pw=>?_
  have em:ms=(QfA f o w).map (mkO f o):=YX (le:=(·≥·)) (λa b _ _ h1 h2=>Qhl h2 h1) pw (Qhx f o w) (pm.trans ((Qc4 f o w).map (mkO f o)).symm);subst em;have lq:=Qb4 f o w;have lo:o.length=h:=by rw[ho.length_eq,Qh]
  have ec:(Qfd 0 ((h:Nat):Int).toNat).flatMap (λd=>match d with | .int r=>(Qcu r.toNat w (ldF f o (QfA f o w))).map pairD | _=>[])=(cellsF h w (ldF f o (QfA f o w))).map pairD:=by
   unfold Qfd cellsF;rw[Qv,Qfv,Qfu];have:∀r:Nat,(0+(r:Int)).toNat=r:=λr=>by omega
   simp only[this]
  have l36:(cellsF h w (ldF f o (QfA f o w))).length<=36:=QJ (Qba w _ h) (QbE h6 w6);refine⟨⟨by omega,by omega⟩,QgU (λd=>match d with | .int r=>(Qcu r.toNat w (ldF f o (QfA f o w))).map pairD | _=>[]) 36 (by rw[ec,Qe];exact l36) (λd hd acc N hb hN=>?_) ?_⟩
  ·obtain⟨r,hr⟩:=Jx.mp hd;obtain⟨hrh,rfl⟩:=QbK hr;rw[Qv] at hrh;have hN:N (acc++(Qcu (0+(r:Int)).toNat w (ldF f o (QfA f o w))).map pairD):=hN;rw[show(0+(r:Int)).toNat=r by omega,<- QzR h6 lo lq hrh] at hN;refine QpW (rwG h r) (by rw[Qbp,Qe,Qe,lq];unfold QkW;omega) (λd hd k1 k2 h1 h2=>?_) hN;obtain⟨j,hj⟩:=Jx.mp hd;obtain⟨e,he,rfl⟩:=Qbq hj;obtain⟨m,_,rfl⟩:=QQ.mp (Jo he);have h1:(if(Zp m (1*2^((h:Int) - 1 - (0+(r:Int))).toNat) != 0)=true then some (pairD (0+(r:Int),(j:Int))) else none)=none->k1:=h1;have h2:∀e,(if(Zp m (1*2^((h:Int) - 1 - (0+(r:Int))).toNat) != 0)=true then some (pairD (0+(r:Int),(j:Int))) else none)=some e->k2 e:=h2
   refine⟨rfl,⟨by omega,by omega,by decide⟩,trivial,?_⟩;show if(Zp m (1*2^((h:Int) - 1 - (0+(r:Int))).toNat) != 0)=true then k2 (pairD (0+(r:Int),(j:Int))) else k1
   by_cases z:(Zp m (1*2^((h:Int) - 1 - (0+(r:Int))).toNat) != 0)=true
   ·rw[if_pos z];exact h2 _ (if_pos z)
   ·rw[if_neg z];exact h1 (if_neg z)
  ·rw[ec];exact⟨_,JG (j:=1) rfl,hR⟩
end
theorem Qbl{q:List Nat}{w:Nat}(h:q.length=w):(Qa w).map (λj=>q.getD j 0)=q:=by
 refine Ja λk=>?_
 rw[Qo];by_cases y:k<w
 ·rw[Qr y,Qc (by omega)];show some (q.getD k 0)=_;rw[Qd,Qc (by omega)];rfl
 ·rw[Qp (by rw[Qh];omega),Qp (by omega)];rfl
theorem Qh8{h:Nat}{f:Nat->Nat->Bool}{o q:List Nat}(ho:o.length=h)(j:Nat):clN h (ldF f o q) j=Qdx f o (q.getD j 0):=by
 unfold clN Qdx
 conv=>rhs;rw[<- Qbl ho]
 rw[QV];rfl
theorem QnS{h w:Nat}{f:Nat->Nat->Bool}{o q:List Nat}(ho:o.length=h)(hq:q.length=w):(Qa w).map (clN h (ldF f o q))=q.map (Qdx f o):=by
 conv=>rhs;rw[<- Qbl hq]
 rw[QV];exact QH λj _=>Qh8 ho j
theorem Qm4{h w:Nat}{f:Nat->Nat->Bool}{o q:List Nat}(ho:o.length=h)(hq:q.Perm (Qa w)):ltD (ldB h w f o q) (ldB h w f o (QfA f o w))=false:=by
 have lq:q.length=w:=by rw[hq.length_eq,Qh]
 refine Qrj ?_ λi j hij hj=>?_
 ·rw[QnS ho lq,QnS ho (Qb4 f o w)];exact(hq.trans (Qc4 f o w).symm).map _
 ·rw[Qh8 ho,Qh8 ho];have:=Jq.mp (Yf.mp (Qhx f o w)) i j (by rw[Qb4];omega) (by rw[Qb4];omega) hij;have e:∀k,(hk:k<w)->(QfA f o w).getD k 0=(QfA f o w)[k]'(by rw[Qb4];exact hk):=λk hk=>by rw[Qd,Qc (by rw[Qb4];exact hk)];rfl
  rw[e i (by omega),e j hj];exact this
theorem QsD(h w:Int)(X Y:List (Int×Int)):Qi9 (bdD h w X) (bdD h w Y)=true:=by
 show(true&&(true&&(QcN (X.map pairD) (Y.map pairD)&&true)))=true;rw[Qe1];rfl
theorem Qdq(h w:Int)(cs:List (Int×Int)):(bdD h w cs).depth<=20:=by
 have h1:=QcM (n:=1) (ds:=cs.map pairD) λd hd=>by obtain⟨p,_,rfl⟩:=QQ.mp hd;exact QeX p
 show Q5 [.int h,.int w,.tuple (cs.map pairD)]+1<=20;have h2:=QcM (n:=2) (ds:=[.int h,.int w,.tuple (cs.map pairD)]) λd hd=>by
  rcases Qz.mp hd with z | z
  ·rw[z];unfold Jw;omega
  rcases Qz.mp z with z | z
  ·rw[z];unfold Jw;omega
  ·rw[Ji.mp z];show Q5 (cs.map pairD)+1<=2;omega
 omega
theorem Qjy{h w:Int}{ds:List Qb}(hd:∀d∈ds,∃cs,d=bdD h w cs):Qbs ds:=⟨λx hx y hy=>by
  obtain⟨a,rfl⟩:=hd x hx;obtain⟨b,rfl⟩:=hd y hy;exact QsD h w a b,λx hx=>by
  obtain⟨a,rfl⟩:=hd x hx;exact Qdq h w a⟩
def Qee:Qb->List Nat
 |.tuple es=>es.map λe=>(toI e).toNat
 |_=>[]
theorem QgF(o:List Nat):Qee (tNn o)=o:=Qgc o
theorem QbR(h:Nat):Qa h∈ordsN h h:=Qdc (by rw[Qh]) Jl λx hx=>Qu.mp hx
section
variable{P:QB}{w:Jd}{K:PySem.W.Frag}{mg:Str->Option Value}{base:Heap}
theorem QpK:(["rows", "board"]:List Str).Nodup:=by decide +kernel
theorem Qtg:JN ["board"] ["board"] (QF QkI):=⟨rfl,rfl,rfl,by decide +kernel,rfl,by decide +kernel,by decide +kernel⟩
theorem Qur{f f1 f2  : Addr}{fd fd1 fd2:Q0}(F:Fun K "name_of" "name_of" QkI f fd)(T:GlbA mg)
  (m1:mg "least_by_columns" = some (.ref f1))(G1:FnOk P w K mg base CX0 2 f1 fd1 ["board", "rows"] (Zq false QAv))(b1:Binds K fd1 ["board", "rows"] [])(k1:PySem.W.keepIn K (.ref f1)=true)
  (m2:mg "all_orders" = some (.ref f2))(G2:FnOk P w K mg base CX0 2 f2 fd2 ["many"] (Zq true Qmz))(b2:Binds K fd2 ["many"] [])(k2:PySem.W.keepIn K (.ref f2)=true) :
  FnOk P w K mg base CX0 3 f fd ["board"] (Zq false QpL):=by
 refine okQ false F Qtg (λargs R EX h=>?_) (λcdv A outer s H E hr=>?_)
 ·obtain⟨h,w,f,rfl,_⟩:=h;rfl
 ·have hU:=Room.u60 hr;have hI:=Room.i60 hr;refine⟨_,Q7 (Yc (Z8 (QnW rfl hU) Qvn (by rfl) T.min QnZ (QcE (Je (Qd4 ["rows", "board"] [none,some 0] (QbO (Je (ZC G2 (hr.mono (by decide)) (by rfl) m2 k2 b2 JQ (Zm (Qcv ZG YT (qp 0) (Jp J9) (λ_ _=>rfl)) Jg)))) (λcl ex s3 H3 C=>⟨(ZR 0 QpK rfl (Q6 rfl) (Q4 rfl)),QaU,(JS G1 (hr.mono (by decide)) (by rfl) m1 k1 b1 JQ (Zm (qv 1) (Zm (qv 0) Jg)))⟩))) JB))),λargs R EX h=>?_⟩;obtain⟨h,w,f,rfl,h6,w6,hR⟩:=h;refine⟨_,JG (j:=0) rfl,h,rfl,h6,Qh7 (λd=>ldB h w f (Qee d) (QfA f (Qee d) w)) (λd hd k2 hk=>?_) ?_⟩
  ·obtain⟨o,ho,rfl⟩:=QQ.mp hd;have hk:k2 (ldB h w f (Qee (tNn o)) (QfA f (Qee (tNn o)) w)):=hk;rw[QgF] at hk;exact⟨h,w,f,o,rfl,h6,w6,Zh ho,hk⟩
  ·have e:((ordsN h h).map tNn).map (λd=>ldB h w f (Qee d) (QfA f (Qee d) w))=(ordsN h h).map λo=>ldB h w f o (QfA f o w):=by
    rw[QV];refine QH λo _=>?_
    show ldB h w f (Qee (tNn o)) (QfA f (Qee (tNn o)) w)=_;rw[QgF]
   rw[e];refine QuH (Qjy (h:=h) (w:=w) λd hd=>?_) ?_ λm hm hl=>?_
   ·obtain⟨o,_,rfl⟩:=QQ.mp hd;exact⟨_,rfl⟩
   ·rw[Qe];exact Qcr (QbR h)
   ·obtain⟨o,ho,rfl⟩:=QQ.mp hm;exact hR o (QfA f o w) ho (Qc4 f o w) λo' q' ho' hq'=>Qsg _ (ldB h w f o' (QfA f o' w)) _ (hl _ (QQ.mpr ⟨o',ho',rfl⟩)) (Qm4 (JZ ho') hq')
end
theorem Qkg(ns:List Int)(c:Int):((ns.map Qk).countP λe=>QC e (.int c))=ns.count c:=by
 rw[JW];rfl
theorem Qi6:∀a b:List Int,QC (.list (a.map Qk)) (.list (b.map Qk))=decide (a=b)
 |[],[]=>rfl
 |[],_::_=>rfl
 |_::_,[]=>rfl
 |x::a,y::b=>by
  show((x == y)&&QC (.list (a.map Qk)) (.list (b.map Qk)))=_;rw[Qi6 a b,JA,JK,beq_iff_eq,decide_eq_true_eq,decide_eq_true_eq,List.cons.injEq]
theorem Qnw:∀n,Qlo n=(facO n:Int)
 |0=>rfl
 |n+1=>by
  show Qlo n*((n:Int)+1)=(((n+1)*facO n:Nat):Int);rw[Qnw n,Qv2,Int.mul_comm];rfl
theorem Qnt(l:List Nat)(a:Nat):(l++[a]).foldr (·*·) 1=l.foldr (·*·) 1*a:=by
 induction l with
 |nil=>show a*1=1*a;omega
 |cons x l ih=>rw[List.cons_append,QvK,QvK,ih,Qex]
theorem Qyf:∀n:Fin 7,1<=facO n/\facO n<=720:=by decide
theorem QoN{a b:List Int}(pa:a.Pairwise (·<=·))(pb:b.Pairwise (·<=·))(p:a.Perm b):a=b:=YX (le:=(·<=·)) (λa b _ _ h1 h2=>Qhl h1 h2) pa pb p
def Qfr(f:Nat->Nat->Bool)(h w:Nat)(o:List Nat):Bool:=(Qb8 f o w).isPerm (Qb8 f (Qa h) w)
theorem Qyd{f:Nat->Nat->Bool}{h w:Nat}(L:List (List Nat)):(L.map tNn).filterMap (λd=>if Qfr f h w (Qee d)=true then some d else none)=(L.filter (Qfr f h w)).map tNn:=by
 rw[ZB];refine Qi5 (p:=Qfr f h w) (k:=tNn) λo _=>?_
 show(if Qfr f h w (Qee (tNn o))=true then some (tNn o) else none)=_;rw[QgF]
section
variable{P:QB}{w:Jd}{K:PySem.W.Frag}{mg:Str->Option Value}{base:Heap}
theorem QuB:(["rows", "board", "goal"]:List Str).Nodup:=by decide +kernel
theorem QeE:JN ["board", "wanted", "goal", "fitting", "told", "mark"] ["board"] (QF sOwn):=⟨rfl,rfl,rfl,by decide +kernel,rfl,by decide +kernel,by decide +kernel⟩
theorem Qxz{f f1 f2 f3  : Addr}{fd fd1 fd2 fd3:Q0}(F:Fun K "own_ways" "own_ways" sOwn f fd)(T:GlbA mg)
  (m1:mg "column_marks" = some (.ref f1))(G1:FnOk P w K mg base CX0 1 f1 fd1 ["board", "rows"] (Zq true QyA))(b1:Binds K fd1 ["board", "rows"] [])(k1:PySem.W.keepIn K (.ref f1)=true)
  (m2:mg "all_orders" = some (.ref f2))(G2:FnOk P w K mg base CX0 2 f2 fd2 ["many"] (Zq true Qmz))(b2:Binds K fd2 ["many"] [])(k2:PySem.W.keepIn K (.ref f2)=true)
  (m3:mg "how_many_orders" = some (.ref f3))(G3:FnOk P w K mg base CX0 1 f3 fd3 ["many"] (Zq false QiR))(b3:Binds K fd3 ["many"] [])(k3:PySem.W.keepIn K (.ref f3)=true) :
  FnOk P w K mg base CX0 3 f fd ["board"] (Zq false QAi):=by
 refine okQ false F QeE (λargs R EX h=>?_) (λcdv A outer s H E hr=>?_)
 ·obtain⟨h,w,f,rfl,_⟩:=h;rfl
 ·have hU:=Room.u60 hr;have hI:=Room.i60 hr;refine⟨_,QU (Y7 1 (Z2 (ZC G1 (hr.mono (by decide)) (by rfl) m1 k1 b1 JQ (Zm (qv 0) (Zm (Z2 (QjH (by rfl) T.tuple (by rfl) T.range (Jp (Qcv ZG YT (qp 0) (Jp J9) (λ_ _=>rfl))))) Jg)))) QeE.nd)
   (QU (Y7 2 (Z2 (Z8 QdW Qjd (by rfl) T.sorted QbV (QcE (qp 1) JB))) QeE.nd)
   (QU (Qmg ["rows", "board", "goal"] [none,some 0,some 2] 3 QeE.nd (QbO (Je (ZC G2 (hr.mono (by decide)) (by rfl) m2 k2 b2 JQ (Zm (Qcv ZG YT (qp 0) (Jp J9) (λ_ _=>rfl)) Jg)))) (λcl ex s3 H3 C=>⟨(ZR 0 QuB rfl (Q6 rfl) (Q4 rfl)),(QbM (Ya Qa9 (QdP hU) (Je (Z8 QdW Qjd (by rfl) T.sorted QbV (QcE (Je (ZC G1 (hr.mono (by decide)) (by rfl) m1 k1 b1 JQ (Zm (qv 1) (Zm (qv 0) Jg)))) JB))) (qp 2) (Zz _))),(qv 0)⟩))
   (QU (Y7 4 (Z2 (Z8 Qap Qd7 (by rfl) T.len QbW (QcE (qp 3) JB))) QeE.nd)
   (QU (Qbx JR rfl (QbO (Z2 (QkM (by rfl) T.sorted (by rfl) T.set (qp 1)))) (ZR 5 QeE.nd rfl (by first | exact Q6 rfl | exact Q4 rfl))
    (Q7 (QrZ 4 (Qx6 Qnd) QmP (Jp (JS G3 (hr.mono (by decide)) (by rfl) m3 k3 b3 JQ (Zm (Z2 (Qz4 hI (qp 1) (qp 5))) Jg))) QeE.nd)))
   (Q7 (YL (qv 4))))))),λargs R EX h=>?_⟩
  obtain⟨h,w,f,rfl,h6,w6,hR⟩:=h;have lW:(Qb8 f (Qa h) w).length=w:=QcJ _ _ _;refine⟨_,JG (j:=0) rfl,⟨by omega,by omega⟩,h,w,f,Qa h,by rw[Qv];rfl,h6,w6,ZE _,?_⟩;refine(QiK (ints_map _) (by rw[lW];omega) λgs pg pw=>?_).1;refine⟨_,JG (j:=0) rfl,h,rfl,h6,Qrd (λd=>if Qfr f h w (Qee d)=true then some d else none) (λd hd k1 k2 h1 h2=>?_) ?_⟩
  ·obtain⟨o,ho,rfl⟩:=QQ.mp hd;rw[QgF] at h1 h2;refine⟨h,w,f,o,rfl,h6,w6,Zh ho,(QiK (ints_map _) (by rw[QcJ];omega) λms pm pw2=>?_).1⟩;refine⟨⟨Y9 _,Y9 _,.inl (Qcd _)⟩,?_⟩;show if(QC (.list (ms.map Qk)) (.list (gs.map Qk)))=true then k2 (tNn o) else k1
   have e:decide (ms=gs)=Qfr f h w o:=by
    rw[JA,decide_eq_true_eq];unfold Qfr;rw[QcS];exact⟨λz=>by rw[z] at pm;exact pm.symm.trans pg,λz=>QoN pw2 pw (pm.trans (z.trans pg.symm))⟩
   rw[Qi6,e];by_cases z:Qfr f h w o=true
   ·rw[if_pos z];exact h2 _ (if_pos z)
   ·rw[if_neg z];exact h1 (if_neg z)
  ·rw[Qyd];have lf:(((ordsN h h).filter (Qfr f h w)).map tNn).length=(ordsN h h).countP (Qfr f h w):=by rw[Qe,JD]
   have nb:(ordsN h h).countP (Qfr f h w)<=50000:=QJ List.countP_le_length (QjP h6 h h6);have hlen:(((((ordsN h h).filter (Qfr f h w)).map tNn).length:Nat):Int)=(((ordsN h h).countP (Qfr f h w)*(([]:List Int).map λv=>facO ((Qb8 f (Qa h) w).count v)).foldr (·*·) 1:Nat):Int):=by
    rw[lf];show(((ordsN h h).countP (Qfr f h w):Nat):Int)=(((ordsN h h).countP (Qfr f h w)*1:Nat):Int);rw[Nat.mul_one]
   refine QoS (Qb8 f (Qa h) w) (by rw[lW];omega) λvs pv mv=>?_
   refine QaF (λi δ=>∃x5,δ=[.v (bdD h w (cellsF h w f)),.v (.list ((Qb8 f (Qa h) w).map Qk)),.v (.list (gs.map Qk)),.v (.list (((ordsN h h).filter (Qfr f h w)).map tNn)),.v (.int (((ordsN h h).countP (Qfr f h w)*((vs.take i).map λv=>facO ((Qb8 f (Qa h) w).count v)).foldr (·*·) 1:Nat):Int)),x5]) ⟨.no,?_⟩ ?_ ?_
   ·show[Sl.v (bdD h w (cellsF h w f)),.v (.list ((Qb8 f (Qa h) w).map Qk)),.v (.list (gs.map Qk)),.v (.list (((ordsN h h).filter (Qfr f h w)).map tNn)),.v (.int ((((ordsN h h).filter (Qfr f h w)).map tNn).length:Nat)),.no]=_;rw[hlen];rfl
   ·rintro i d δ hd ⟨x5,rfl⟩;rw[Qo] at hd;obtain⟨v,ev,rfl⟩:∃v,vs[i]? = some v/\d=.int v:=by
     cases e:vs[i]? with
     |none=>rw[e] at hd;cases hd
     |some p=>rw[e] at hd;cases hd;exact⟨p,rfl,rfl⟩
    have c6:(Qb8 f (Qa h) w).count v<=6:=QJ List.count_le_length (by rw[lW];exact w6);have fb:=Qyf ⟨(Qb8 f (Qa h) w).count v,by omega⟩;have ef:Qlo ((((Qb8 f (Qa h) w).map Qk).countP λe=>QC e (.int v):Nat):Int).toNat=((facO ((Qb8 f (Qa h) w).count v):Nat):Int):=by rw[Qkg,Qv,Qnw]
    have fb2:facO ((Qb8 f (Qa h) w).count v)<=720:=fb.2;refine⟨⟨Y9 _,rfl,by show Jw (.int _)<=50;unfold Jw;decide⟩,_,rfl,by omega,by rw[Qkg];omega,.inr ⟨?_,?_⟩,.v (.int v),?_⟩
    ·rw[ef];omega
    ·rw[ef];omega
    ·rw[Zs,ev];show[Sl.v (bdD h w (cellsF h w f)),.v (.list ((Qb8 f (Qa h) w).map Qk)),.v (.list (gs.map Qk)),.v (.list (((ordsN h h).filter (Qfr f h w)).map tNn)),.v (.int ((((ordsN h h).countP (Qfr f h w)*((vs.take i).map λv=>facO ((Qb8 f (Qa h) w).count v)).foldr (·*·) 1:Nat):Int)*Qlo ((((Qb8 f (Qa h) w).map Qk).countP λe=>QC e (.int v):Nat):Int).toNat)),.v (.int v)]=_;rw[ef,<- Qv2,Qex,<- Qnt,Option.toList_some,JO];rfl
   ·rintro δ ⟨x5,rfl⟩;rw[Qe,JY,<- Qsm (pv.imp λh=>by omega) λx hx=>(mv x).mpr hx];exact hR
end
def Qm6(cs:List (Int×Int))(cols:List Int)(r:Nat)(row:Int):List (Int×Int):=((Qa cols.length).filter λc=>decide ((row,cols.getD c 0)∈cs)).map λ(c:Nat)=>((r:Int),(c:Int))
def QvT(cs:List (Int×Int))(rows cols:List Int):List (Int×Int):=(Qa rows.length).flatMap λr=>Qm6 cs cols r (rows.getD r 0)
def QxT(cs:List (Int×Int))(r:Int)(i:Nat):Qb->Option Qb
 |.tuple [.int c,.int col]=>if(r,col)∈cs then some (pairD ((i:Int),c)) else none
 |_=>none
theorem QxS(cs:List (Int×Int))(cols:List Int)(i:Nat)(r:Int):(Qco (cols.map Qk)).filterMap (QxT cs r i)=(Qm6 cs cols i r).map pairD:=by
 unfold Qco Qm6;rw[ZB,Qe,QV];have key:∀l:List Nat,(∀j∈l,j<cols.length)->l.filterMap (QxT cs r i∘λ(j:Nat)=>Zk [Qk j,(cols.map Qk).getD j .none])=(l.filter λc=>decide ((r,cols.getD c 0)∈cs)).map (pairD∘λ(c:Nat)=>((i:Int),(c:Int))):=λl=>by
  induction l with
  |nil=>intro _;rfl
  |cons j l ih=>
   intro hl;have hj:=hl j (.head _);have e:(cols.map Qk).getD j .none=Qk (cols.getD j 0):=by
    rw[Qd,Qo,Qd,Qc hj];rfl
   have e2:(QxT cs r i∘λ(j:Nat)=>Zk [Qk j,(cols.map Qk).getD j .none]) j=if(r,cols.getD j 0)∈cs then some (pairD ((i:Int),(j:Int))) else none:=by
    show QxT cs r i (Zk [Qk j,(cols.map Qk).getD j .none])=_;rw[e];rfl
   rw[Ys,e2];by_cases z:(r,cols.getD j 0)∈cs
   ·rw[if_pos z,Jy (by simpa using z),QY,ih λk hk=>hl k (.tail _ hk)];rfl
   ·rw[if_neg z,Jz (by simpa using z),ih λk hk=>hl k (.tail _ hk)]
 exact key _ λj hj=>Qu.mp hj
theorem QpT(cs:List (Int×Int))(cols:List Int)(i:Nat)(r:Int):(Qm6 cs cols i r).length<=cols.length:=by
 unfold Qm6;rw[Qe];have:=QcR (λc=>decide ((r,cols.getD c 0)∈cs)) (Qa cols.length);rw[Qh] at this;exact this
theorem Qj3(cs:List (Int×Int))(cols:List Int)(g:Nat->Int):∀n,((Qa n).flatMap λr=>Qm6 cs cols r (g r)).length<=n*cols.length
 |0=>by simp
 |n+1=>by
  rw[J6,QaZ,Qy];have h1:=Qj3 cs cols g n;have h2:=QpT cs cols n (g n);have h3:([n].flatMap λr=>Qm6 cs cols r (g r)).length=(Qm6 cs cols n (g n)).length:=by simp
  rw[h3,Nat.add_mul];omega
def QtE(cs:List (Int×Int))(cols:List Int):Qb->List Qb
 |.tuple [.int i,.int r]=>(Qm6 cs cols i.toNat r).map pairD
 |_=>[]
theorem Qml(cs:List (Int×Int))(rows cols:List Int):(Qco (rows.map Qk)).flatMap (QtE cs cols)=(QvT cs rows cols).map pairD:=by
 unfold Qco QvT;rw[Qe];have key:∀l:List Nat,(∀j∈l,j<rows.length)->(l.map λ(i:Nat)=>Zk [Qk i,(rows.map Qk).getD i .none]).flatMap (QtE cs cols)=(l.flatMap λr=>Qm6 cs cols r (rows.getD r 0)).map pairD:=λl=>by
  induction l with
  |nil=>intro _;rfl
  |cons j l ih=>
   intro hl;have hj:=hl j (.head _);have e:(rows.map Qk).getD j .none=Qk (rows.getD j 0):=by
    rw[Qd,Qo,Qd,Qc hj];rfl
   rw[QY,ZO,ih λk hk=>hl k (.tail _ hk),e,ZO,JO];rfl
 exact key _ λj hj=>Qu.mp hj
theorem QpQ{h w:Nat}{f:Nat->Nat->Bool}{r c:Nat}(hr:r<h)(hc:c<w):decide (((r:Int),(c:Int))∈cellsF h w f)=f r c:=by
 rw[JA,decide_eq_true_eq,Yn];constructor
 ·rintro⟨r',c',_,_,hf,e⟩;have e1:(r:Int)=(r':Int):=(J8 e).1;have e2:(c:Int)=(c':Int):=(J8 e).2;rw[show r=r' by omega,show c=c' by omega];exact hf
 ·intro hf;exact⟨r,c,hr,hc,hf,rfl⟩
theorem QAu{h w:Nat}{f:Nat->Nat->Bool}{rs ms:List Nat}(hr:∀x∈rs,x<h)(hm:∀x∈ms,x<w):QvT (cellsF h w f) (rs.map λ(x:Nat)=>(x:Int)) (ms.map λ(x:Nat)=>(x:Int))=cellsF rs.length ms.length (ldF f rs ms):=by
 have e:QvT (cellsF h w f) (rs.map λ(x:Nat)=>(x:Int)) (ms.map λ(x:Nat)=>(x:Int))=cellsF (rs.map λ(x:Nat)=>(x:Int)).length (ms.map λ(x:Nat)=>(x:Int)).length λr c=>decide (((rs.map λ(x:Nat)=>(x:Int)).getD r 0,(ms.map λ(x:Nat)=>(x:Int)).getD c 0)∈cellsF h w f):=rfl
 rw[e,Qe,Qe];refine YA λr c hr' hc'=>?_
 have g:∀(l:List Nat)(i:Nat),i<l.length->(l.map λ(x:Nat)=>(x:Int)).getD i 0=((l.getD i 0:Nat):Int)/\l.getD i 0∈l:=λl i hi=>by
  rw[Qd,Qo,Qd,Qc hi];exact⟨rfl,Z1 hi⟩
 rw[(g rs r hr').1,(g ms c hc').1,QpQ (hr _ (g rs r hr').2) (hm _ (g ms c hc').2)];rfl
theorem Qh6:∀{X Y:List (Int×Int)},Qab (X.map pairD) (Y.map pairD)=.eq->X=Y
 |[],[],_=>rfl
 |[],_::_,h=>by cases h
 |_::_,[],h=>by cases h
 |x::X,y::Y,h=>by
  have h:thn (QaM (pairD x) (pairD y)) (Qab (X.map pairD) (Y.map pairD))=.eq:=h;cases e:QaM (pairD x) (pairD y) with
  |lt=>rw[e] at h;cases h
  |gt=>rw[e] at h;cases h
  |eq=>
   rw[e] at h;rw[Qsv e,Qh6 (X:=X) (Y:=Y) h]
theorem Qsw{h w:Int}{X Y:List (Int×Int)}(e:QaM (bdD h w X) (bdD h w Y)=.eq):X=Y:=by
 have ci:∀i:Int,Qd6 i i=.eq:=λi=>by unfold Qd6;rw[if_neg (by omega),if_pos rfl]
 have e:thn (Qd6 h h) (thn (Qd6 w w) (thn (Qab (X.map pairD) (Y.map pairD)) .eq))=.eq:=e;rw[ci,ci] at e;cases y:Qab (X.map pairD) (Y.map pairD) with
 |lt=>rw[y] at e;cases e
 |gt=>rw[y] at e;cases e
 |eq=>exact Qh6 y
theorem Qvx{h w:Int}{X Y:List (Int×Int)}(h1:ltD (bdD h w X) (bdD h w Y)=false)(h2:ltD (bdD h w Y) (bdD h w X)=false):X=Y:=by
 unfold ltD at h1 h2;rw[QaY] at h2;cases e:QaM (bdD h w X) (bdD h w Y) with
 |lt=>rw[e] at h1;cases h1
 |gt=>rw[e] at h2;cases h2
 |eq=>exact Qsw e
theorem Qvv(h w:Int)(X:List (Int×Int)):QaM (bdD h w X) (bdD h w X)=.eq:=by
 cases e:QaM (bdD h w X) (bdD h w X) with
 |eq=>rfl
 |lt=>
  have:=QaY (bdD h w X) (bdD h w X);rw[e] at this;cases this
 |gt=>
  have:=QaY (bdD h w X) (bdD h w X);rw[e] at this;cases this
theorem QfY(h w:Int)(X Y:List (Int×Int)):QC (bdD h w X) (bdD h w Y)=decide (X=Y):=by
 rw[Qj9 _ _ (QsD h w X Y),JA,decide_eq_true_eq];constructor
 ·intro z;cases e:QaM (bdD h w X) (bdD h w Y) with
  |lt=>rw[e] at z;cases z
  |gt=>rw[e] at z;cases z
  |eq=>exact Qsw e
 ·intro z;rw[z,Qvv];rfl
def Qnx(h w:Nat)(f:Nat->Nat->Bool)(n:Nat):List Qb:=((ordsN h h).take n).flatMap λo=>(ordsN w w).map (ldB h w f o)
theorem Qdf(h w:Int)(cs:List (Int×Int)):nd (bdD h w cs)=true:=by
 show(true&&(true&&(nds (cs.map pairD)&&true)))=true;rw[QbT];rfl
theorem Qm5{h w:Nat}{f:Nat->Nat->Bool}{o q:List Nat}(ho:o∈ordsN h h)(hq:q∈ordsN w w):QC (ldB h w f o q) (bdD h w (cellsF h w f))=Qiw (mkO f o) (mkO f (Qa h)) q:=by
 have lo:=JZ ho;have lq:=JZ hq;unfold ldB;rw[QfY,JA,decide_eq_true_eq,Qdl];have key:∀c,c<w->(mkO f o (q.getD c 0)=mkO f (Qa h) c↔∀r,r<h->ldF f o q r c=f r c):=λc hc=>by
  unfold mkO;have l1:(Qdx f o (q.getD c 0)).length=(Qdx f (Qa h) c).length:=by unfold Qdx;rw[Qe,Qe,Qh,lo]
  constructor
  ·intro e r hr;have e:=Qeu l1 e;have g1:=Qdn (f:=f) (o:=o) (c:=q.getD c 0) (r:=r) (by omega);have g2:=Qdn (f:=f) (o:=Qa h) (c:=c) (r:=r) (by rw[Qh];exact hr);rw[e,g2] at g1;show f (o.getD r 0) (q.getD c 0)=f r c;rw[<- g1,Qd,Qr hr];rfl
  ·intro e
   congr 1
   rw[<- Qh8 (f:=f) (q:=q) lo c];unfold clN Qdx;exact QH λr hr=>e r (Qu.mp hr)
 constructor
 ·intro e j hj;refine(key j (by omega)).mpr λr hr=>?_
  have m1:∀G:Nat->Nat->Bool,(((r:Int),(j:Int))∈cellsF h w G↔G r j=true):=λG=>by rw[<- QpQ (h:=h) (w:=w) (f:=G) hr (show j<w by omega),decide_eq_true_eq]
  rw[JA,<- m1,<- m1,e]
 ·intro e;exact YA λr c hr hc=>(key c hc).mp (e c (by omega)) r hr
theorem Qmx(h w:Nat)(f:Nat->Nat->Bool):(Qnx h w f (ordsN h h).length).countP (λe=>QC e (bdD h w (cellsF h w f)))=ownN h w f:=by
 unfold Qnx ownN;rw[JY];refine QdU λo ho=>?_
 rw[JW];have e:(ordsN w w).countP ((λe=>QC e (bdD h w (cellsF h w f)))∘ldB h w f o)=(ordsN w w).countP (Qiw (mkO f o) (mkO f (Qa h))):=Zd λq hq=>by
  show QC (ldB h w f o q) (bdD h w (cellsF h w f))=true↔_;rw[Qm5 ho hq]
 rw[e,Qo3];have m:∀o,(Qa w).map (mkO f o)=Qb8 f o w:=λ_=>rfl
 rw[m,m];by_cases z:(Qb8 f o w).Perm (Qb8 f (Qa h) w)
 ·rw[if_pos z,if_pos (QcS.mpr z)]
 ·rw[if_neg z,if_neg λy=>z (QcS.mp y)]
def QcG:DF:=λargs R _=>∃(h w:Nat)(f:Nat->Nat->Bool)(rs ms:List Nat),args=[.v (bdD h w (cellsF h w f)),.v (tNn rs),.v (tNn ms)]/\h<=6/\w<=6/\rs∈ordsN h h/\ms∈ordsN w w/\R (ldB h w f rs ms)
def Qs3:DF:=λargs R _=>∃(h w:Nat)(f:Nat->Nat->Bool)(o q:List Nat),args=[.v (bdD h w (cellsF h w f)),.v (ldB h w f o q),.v (.tuple [tNn o,tNn q])]/\h<=6/\w<=6/\o∈ordsN h h/\q∈ordsN w w/\R (.bool true)
section
variable{P:QB}{w:Jd}{K:PySem.W.Frag}{mg:Str->Option Value}{base:Heap}
theorem Qb7:(["new_row", "row", "new_column", "column", "cells", "columns"]:List Str).Nodup:=by decide +kernel
theorem QeD:JN ["board", "rows", "columns", "cells", "kept"] ["board", "rows", "columns"] (QF QdJ):=⟨rfl,rfl,rfl,by decide +kernel,rfl,by decide +kernel,by decide +kernel⟩
theorem QmG{f   : Addr}{fd  : Q0}(F:Fun K "picked" "picked" QdJ f fd)(T:GlbA mg) :
  FnOk P w K mg base CX0 1 f fd ["board", "rows", "columns"] (Zq false QcG):=by
 refine okQ false F QeD (λargs R EX h=>?_) (λcdv A outer s H E hr=>?_)
 ·obtain⟨h,w,f,rs,ms,rfl,_⟩:=h;rfl
 ·have hU:=Room.u60 hr;have hI:=Room.i60 hr;refine⟨_,QU (Y7 3 (Qcv ZG YT (qp 0) (Jp J9) (λ_ _=>rfl)) QeD.nd)
   (QU (Qgt ["new_row", "row", "new_column", "column", "cells", "columns"] [none,none,none,none,some 3,some 2] 4 QeD.nd (QuW [0,1]) (QjG (by rfl) T.enumerate (qp 1)) (λcl ex s3 H3 C=>⟨(Qa5 rfl (Za 0 (Za 1 Qa6 Qb7 rfl (Q6 rfl) (Q4 rfl)) Qb7 rfl (Q6 rfl) (Q4 rfl))),QaU,(QjG (by rfl) T.enumerate (qv 5)),(Qa5 rfl (Za 2 (Za 3 Qa6 Qb7 rfl (Q6 rfl) (Q4 rfl)) Qb7 rfl (Q6 rfl) (Q4 rfl))),(QbM (Ya Qxr (QmS hI) (Je (Qa7 (Qad (qv 1) (Qad (qv 3) JB)))) (qp 4) (by rfl))),(Z2 (Qa7 (Qad (qv 0) (Qad (qv 2) JB))))⟩))
   (Q7 (Yc (Qa7 (Qad (Z2 (Z8 Qap Qd7 (by rfl) T.len QbW (QcE (qp 1) JB))) (Qad (Z2 (Z8 Qap Qd7 (by rfl) T.len QbW (QcE (qp 2) JB))) (Qad (Z2 (Qbm Yo Qcg (by rfl) T.tuple Qam (QcE (qp 4) JB))) JB))))))),λargs R EX h=>?_⟩
  obtain⟨h,w,f,rs,ms,rfl,h6,w6,hr,hm,hR⟩:=h;have l1:=JZ hr;have l2:=JZ hm;have hR:R (bdD ((rs.map λ(x:Nat)=>(x:Int)).length:Nat) ((ms.map λ(x:Nat)=>(x:Int)).length:Nat) (QvT (cellsF h w f) (rs.map λ(x:Nat)=>(x:Int)) (ms.map λ(x:Nat)=>(x:Int)))):=by
   rw[QAu (QcH hr) (QcH hm),Qe,Qe,l1,l2];exact hR
  have hr:(rs.map λ(x:Nat)=>(x:Int)).length<=60:=by rw[Qe];omega
  have hc:(ms.map λ(x:Nat)=>(x:Int)).length<=60:=by rw[Qe];omega
  unfold tNn;rw[QpY,QpY];clear hm;generalize (rs.map λ(x:Nat)=>(x:Int))=rows at *;generalize (ms.map λ(x:Nat)=>(x:Int))=cols at *;generalize cellsF h w f=cs at *;refine⟨_,JG (j:=2) rfl,?_⟩;have lN:=Qj3 cs cols (λr=>rows.getD r 0) rows.length;have l36:rows.length*cols.length<=60*60:=QbE hr hc;refine QgU (QtE cs cols) 3600 (by rw[Qml,Qe];exact QJ lN l36) (λd hd acc N hb hN=>?_) ?_
  ·obtain⟨i,hi⟩:=Jx.mp hd;obtain⟨e,he,rfl⟩:=Qbq hi;rw[Qo] at he;obtain⟨r,er,rfl⟩:∃r,rows[i]? = some r/\e=.int r:=by
    cases z:rows[i]? with
    |none=>rw[z] at he;cases he
    |some r=>rw[z] at he;cases he;exact⟨r,rfl,rfl⟩
   have hN:N (acc++(Qm6 cs cols ((i:Int)).toNat r).map pairD):=hN;rw[Qv,<- QxS] at hN;have la:acc.length<=3600:=by omega
   refine⟨rfl,QpW (QxT cs r i) (by rw[Qbp,Qe];unfold QkW;omega) (λd hd k1 k2 h1 h2=>?_) hN⟩;obtain⟨j,hj⟩:=Jx.mp hd;obtain⟨e2,he2,rfl⟩:=Qbq hj;rw[Qo] at he2;obtain⟨c,ec,rfl⟩:∃c,cols[j]? = some c/\e2=.int c:=by
    cases z:cols[j]? with
    |none=>rw[z] at he2;cases he2
    |some r=>rw[z] at he2;cases he2;exact⟨r,rfl,rfl⟩
   refine⟨rfl,⟨QbT cs,rfl,QJ (QeX (r,c)) (by decide)⟩,?_⟩;show if((cs.map pairD).any λe=>QC e (pairD (r,c)))=true then k2 (pairD ((i:Int),(j:Int))) else k1
   rw[Qil];have h1:(if(r,c)∈cs then some (pairD ((i:Int),(j:Int))) else none)=none->k1:=h1;have h2:∀e,(if(r,c)∈cs then some (pairD ((i:Int),(j:Int))) else none)=some e->k2 e:=h2
   by_cases z:(r,c)∈cs
   ·rw[if_pos (decide_eq_true z)];exact h2 _ (if_pos z)
   ·rw[if_neg (by simpa using z)];exact h1 (if_neg z)
  ·rw[Qml];have hR:R (.tuple [.int ((rows.map Qk).length:Int),.int ((cols.map Qk).length:Int),.tuple ((QvT cs rows cols).map pairD)]):=by
    rw[Qe,Qe];exact hR
   exact hR
theorem Qwo:JN ["board", "rows", "columns"] ["board", "rows", "columns"] (QF sLed):=⟨rfl,rfl,rfl,by decide +kernel,rfl,by decide +kernel,by decide +kernel⟩
theorem QxB{f f1 f2  : Addr}{fd fd1 fd2:Q0}(F:Fun K "led" "led" sLed f fd)(T:GlbA mg)
  (m1:mg "is_order" = some (.ref f1))(G1:FnOk P w K mg base CX0 3 f1 fd1 ["many", "thing"] (Zq false Qy4))(b1:Binds K fd1 ["many", "thing"] [])(k1:PySem.W.keepIn K (.ref f1)=true)
  (m2:mg "picked" = some (.ref f2))(G2:FnOk P w K mg base CX0 1 f2 fd2 ["board", "rows", "columns"] (Zq false QcG))(b2:Binds K fd2 ["board", "rows", "columns"] [])(k2:PySem.W.keepIn K (.ref f2)=true) :
  FnOk P w K mg base CX0 4 f fd ["board", "rows", "columns"] (Zq false QcG):=by
 refine okQ false F Qwo (λargs R EX h=>?_) (λcdv A outer s H E hr=>?_)
 ·obtain⟨h,w,f,rs,ms,rfl,_⟩:=h;rfl
 ·have hU:=Room.u60 hr;have hI:=Room.i60 hr;refine⟨_,QU (QaV (Qa4 (QbN (Jp (JS G1 (hr.mono (by decide)) (by rfl) m1 k1 b1 JQ (Zm (Qcv ZG YT (qp 0) (Jp J9) (λ_ _=>rfl)) (Zm (qv 1) Jg)))))) QhE ZX)
   (QU (QaV (Qa4 (QbN (Jp (JS G1 (hr.mono (by decide)) (by rfl) m1 k1 b1 JQ (Zm (Qcv ZG YT (qp 0) (Jp J9) (λ_ _=>rfl)) (Zm (qv 2) Jg)))))) QhE ZX)
   (Q7 (YL (JS G2 (hr.mono (by decide)) (by rfl) m2 k2 b2 JQ (Zm (qv 0) (Zm (qv 1) (Zm (qv 2) Jg))))))),λargs R EX h=>?_⟩
  obtain⟨h,w,f,rs,ms,rfl,h6,w6,hr,hm,hR⟩:=h;exact⟨_,JG (j:=0) rfl,h,rs,rfl,h6,hr,_,JG (j:=1) rfl,w,ms,rfl,w6,hm,h,w,f,rs,ms,rfl,h6,w6,hr,hm,hR⟩
theorem Qgk:JN ["one", "other", "thing", "rows", "columns"] ["one", "other", "thing"] (QF sWay):=⟨rfl,rfl,rfl,by decide +kernel,rfl,by decide +kernel,by decide +kernel⟩
theorem QpE{f f1 f2  : Addr}{fd fd1 fd2:Q0}(F:Fun K "is_way" "is_way" sWay f fd)(T:GlbA mg)
  (m1:mg "is_order" = some (.ref f1))(G1:FnOk P w K mg base CX0 3 f1 fd1 ["many", "thing"] (Zq false Qy4))(b1:Binds K fd1 ["many", "thing"] [])(k1:PySem.W.keepIn K (.ref f1)=true)
  (m2:mg "picked" = some (.ref f2))(G2:FnOk P w K mg base CX0 1 f2 fd2 ["board", "rows", "columns"] (Zq false QcG))(b2:Binds K fd2 ["board", "rows", "columns"] [])(k2:PySem.W.keepIn K (.ref f2)=true) :
  FnOk P w K mg base CX0 4 f fd ["one", "other", "thing"] (Zq false Qs3):=by
 refine okQ false F Qgk (λargs R EX h=>?_) (λcdv A outer s H E hr=>?_)
 ·obtain⟨h,w,f,o,q,rfl,_⟩:=h;rfl
 ·have hU:=Room.u60 hr;have hI:=Room.i60 hr;refine⟨_,QU (QaV (Qr0 (Qgr (Qa4 (QbN (Je (QjI .tuple (by rfl) T.isinstance (qp 2) (by rfl) T.tuple Qam)))) (QeH (Ya Qcw (Qfo hU) (Je (Z8 Qap Qd7 (by rfl) T.len QbW (QcE (qp 2) JB))) (Jp J9) (Zz _))))) (Q7 (YL Qlm)) ZX)
   (QU (QhF (qv 2) (Qa5 rfl (Za 3 (Za 4 Qa6 Qgk.nd rfl (by first | exact Q6 rfl | exact Q4 rfl)) Qgk.nd rfl (by first | exact Q6 rfl | exact Q4 rfl))))
   (QU (QaV (Qr0 (Qgr (Qa4 (QbN (Jp (JS G1 (hr.mono (by decide)) (by rfl) m1 k1 b1 JQ (Zm (Qcv ZG YT (qp 0) (Jp J9) (λ_ _=>rfl)) (Zm (qv 3) Jg)))))) (QeH (Qa4 (QbN (Jp (JS G1 (hr.mono (by decide)) (by rfl) m1 k1 b1 JQ (Zm (Qcv ZG YT (qp 0) (Jp J9) (λ_ _=>rfl)) (Zm (qv 4) Jg))))))))) (Q7 (YL Qlm)) ZX)
   (Q7 (Yc (Qfn Qa9 (QdP hU) (Jp (JS G2 (hr.mono (by decide)) (by rfl) m2 k2 b2 JQ (Zm (qv 0) (Zm (qv 3) (Zm (qv 4) Jg))))) (qp 1) (Zz _)))))),λargs R EX h=>?_⟩
  obtain⟨h,w,f,o,q,rfl,h6,w6,ho,hq,hR⟩:=h;refine⟨rfl,_,JG (j:=0) rfl,h,o,rfl,h6,ho,_,JG (j:=1) rfl,w,q,rfl,w6,hq,h,w,f,o,q,rfl,h6,w6,ho,hq,⟨Qdf _ _ _,Qdf _ _ _,.inl (QJ (Qdq _ _ _) (by decide))⟩,?_⟩;show R (.bool (QC (ldB h w f o q) (ldB h w f o q)));unfold ldB;rw[QfY,decide_eq_true rfl];exact hR
end
section
variable{P:QB}{w:Jd}{K:PySem.W.Frag}{mg:Str->Option Value}{base:Heap}
theorem QjY:(["column", "other", "mark", "told"]:List Str).Nodup:=by decide +kernel
theorem Qgm:JN ["marks", "wanted", "told", "mark", "fitting"] ["marks", "wanted"] (QF sPut):=⟨rfl,rfl,rfl,by decide +kernel,rfl,by decide +kernel,by decide +kernel⟩
theorem Quu{f   : Addr}{fd  : Q0}(F:Fun K "columns_put" "columns_put" sPut f fd)(T:GlbA mg) :
  FnOk P w K mg base CX0 1 f fd ["marks", "wanted"] (Zq false Qvg):=by
 refine okQ false F Qgm (λargs R EX h=>?_) (λcdv A outer s H E hr=>?_)
 ·obtain⟨ms,ws,rfl,_⟩:=h;rfl
 ·have hU:=Room.u60 hr;have hI:=Room.i60 hr;refine⟨_,QU (QdM 2 (Qgy JB) Qgm.nd)
   (QU (Qbx JR rfl (QbO (qv 1)) (ZR 3 Qgm.nd rfl (by first | exact Q6 rfl | exact Q4 rfl))
    (QU (Qmg ["column", "other", "mark", "told"] [none,none,some 3,some 2] 4 Qgm.nd (Qgw (by rfl) T.enumerate (qp 0)) (λcl ex s3 H3 C=>⟨(Qa5 rfl (Za 0 (Za 1 Qa6 QjY rfl (Q6 rfl) (Q4 rfl)) QjY rfl (Q6 rfl) (Q4 rfl))),(QbM (Qr0 (QwE (Ya Qa9 (QdP hU) (qp 1) (qp 2) (Zz _)) (Qtt (Ya Qdd (QmS hI) (qp 0) (qp 3) (by rfl)))))),(qv 0)⟩))
   (QU (QaV (Qa4 (Qme (qp 4))) (Q7 (YL QkN)) ZX)
   (Q7 (QwI 2 (Qcv ZG YT (qp 4) (Jp J9) (λ_ _=>rfl)))))))
   (Q7 (Yc (Qbm Yo Qcg (by rfl) T.tuple Qam (QcE (qp 2) JB))))),λargs R EX h=>?_⟩
  obtain⟨ms,ws,rfl,m6,w6,hR⟩:=h;have G0:∀(i:Nat)(t:List Nat),(Qco (ms.map Qk)).filterMap (Qy5 (ws.getD i 0) t)=YW (Qfe (λj c=>decide (ms.getD c 0=ws.getD j 0)) ms.length i t):=λi t=>Qp7 ms (ws.getD i 0) t
  refine QaF (λi δ=>∃t x3 x4,putN (λj c=>decide (ms.getD c 0=ws.getD j 0)) ms.length i=some t/\δ=[.v (.list (ms.map Qk)),.v (.list (ws.map Qk)),.own (YW t),x3,x4]) ⟨[],_,_,rfl,rfl⟩ ?_ ?_
  ·rintro i d δ hd ⟨t,x3,x4,hp,rfl⟩;rw[Qo] at hd;obtain⟨m,em,rfl⟩:∃m,ws[i]? = some m/\d=.int m:=by
    cases e:ws[i]? with
    |none=>rw[e] at hd;cases hd
    |some p=>rw[e] at hd;cases hd;exact⟨p,rfl,rfl⟩
   have eg:ws.getD i 0=m:=by rw[Qd,em];rfl
   have hi:i<ws.length:=(Jh.mp em).1;have pl:=(Qmi (λj c=>decide (ms.getD c 0=ws.getD j 0)) ms.length i).1 t hp;refine Qrd (Qy5 m t) (λd hd k1 k2 h1 h2=>?_) ?_
   ·obtain⟨j,hj⟩:=Jx.mp hd;obtain⟨e,he,rfl⟩:=Qbq hj;obtain⟨x,_,rfl⟩:=QQ.mp (Jo he);have h1:(if(decide (x=m) && !decide (((j:Int)).toNat∈t))=true then some (Qk (j:Int)) else none)=none->k1:=h1;have h2:∀e,(if(decide (x=m) && !decide (((j:Int)).toNat∈t))=true then some (Qk (j:Int)) else none)=some e->k2 e:=h2
    rw[Qv] at h1 h2;refine⟨rfl,ifC (λz=>?_) λz=>?_⟩
    ·refine⟨⟨QAt t,rfl,by show Jw (.int _)<=50;unfold Jw;decide⟩,?_⟩;show if(!(YW t).any λe=>QC e (.int (j:Int)))=true then k2 (.int (j:Int)) else k1
     rw[QAW];rw[z,QyX] at h1 h2;by_cases y:(!decide (j∈t))=true
     ·rw[if_pos y];exact h2 _ (if_pos y)
     ·rw[if_neg y];exact h1 (if_neg y)
    ·rw[z,QdD] at h1;exact h1 rfl
   ·rw[<- eg,G0];have hs:putN (λj c=>decide (ms.getD c 0=ws.getD j 0)) ms.length (i+1)=(Qfe (λj c=>decide (ms.getD c 0=ws.getD j 0)) ms.length i t).head?.map λc=>t++[c]:=by
     show(putN _ _ i).bind _=_;rw[hp];rfl
    cases q:Qfe (λj c=>decide (ms.getD c 0=ws.getD j 0)) ms.length i t with
    |nil=>
     rw[q] at hs;rw[Qo4 hs (show i+1<=ws.length by omega)] at hR;exact⟨trivial,hR⟩
    |cons c r=>
     rw[q] at hs;refine⟨trivial,.int c,JG (j:=0) rfl,?_,?_⟩
     ·have li:(YW t).length=t.length:=by unfold YW;exact Qe _
      rw[li];omega
     ·refine⟨t++[c],.v (.int (ws.getD i 0)),.v (.list (YW (c::r))),hs,?_⟩;show[Sl.v (.list (ms.map Qk)),.v (.list (ws.map Qk)),.own (YW t++[.int (c:Int)]),.v (.int (ws.getD i 0)),.v (.list (YW (c::r)))]=[Sl.v (.list (ms.map Qk)),.v (.list (ws.map Qk)),.own (YW (t++[c])),.v (.int (ws.getD i 0)),.v (.list (YW (c::r)))];rw[show YW (t++[c])=YW t++[.int (c:Int)] by unfold YW;rw[JO];rfl]
  ·rintro δ ⟨t,x3,x4,hp,rfl⟩;rw[Qe] at hp;rw[hp] at hR;exact hR
theorem Qgl:JN ["one", "other", "wanted", "rows", "columns"] ["one", "other"] (QF QfG):=⟨rfl,rfl,rfl,by decide +kernel,rfl,by decide +kernel,by decide +kernel⟩
theorem Qut{f f1 f2 f3  : Addr}{fd fd1 fd2 fd3:Q0}(F:Fun K "first_way" "first_way" QfG f fd)(T:GlbA mg)
  (m1:mg "column_marks" = some (.ref f1))(G1:FnOk P w K mg base CX0 1 f1 fd1 ["board", "rows"] (Zq true QyA))(b1:Binds K fd1 ["board", "rows"] [])(k1:PySem.W.keepIn K (.ref f1)=true)
  (m2:mg "all_orders" = some (.ref f2))(G2:FnOk P w K mg base CX0 2 f2 fd2 ["many"] (Zq true Qmz))(b2:Binds K fd2 ["many"] [])(k2:PySem.W.keepIn K (.ref f2)=true)
  (m3:mg "columns_put" = some (.ref f3))(G3:FnOk P w K mg base CX0 1 f3 fd3 ["marks", "wanted"] (Zq false Qvg))(b3:Binds K fd3 ["marks", "wanted"] [])(k3:PySem.W.keepIn K (.ref f3)=true) :
  FnOk P w K mg base CX0 3 f fd ["one", "other"] (Zq false QuY):=by
 refine okQ false F Qgl (λargs R EX h=>?_) (λcdv A outer s H E hr=>?_)
 ·obtain⟨h,w,f,h2,w2,f2,rfl,_⟩:=h;rfl
 ·have hU:=Room.u60 hr;have hI:=Room.i60 hr;refine⟨_,QU (QaV (Ya Qcw (Qfo hU) (Je (Qgx (qp 0) Qgv (Qgu (Jp J9)))) (Je (Qgx (qp 1) Qgv (Qgu (Jp J9)))) (Zz _)) (Q7 (YL QkN)) ZX)
   (QU (Y7 2 (Z2 (ZC G1 (hr.mono (by decide)) (by rfl) m1 k1 b1 JQ (Zm (qv 1) (Zm (Z2 (QjH (by rfl) T.tuple (by rfl) T.range (Jp (Qcv ZG YT (qp 1) (Jp J9) (λ_ _=>rfl))))) Jg)))) Qgl.nd)
   (QU (Qbx JR rfl (QbO (Z2 (ZC G2 (hr.mono (by decide)) (by rfl) m2 k2 b2 JQ (Zm (Qcv ZG YT (qp 0) (Jp J9) (λ_ _=>rfl)) Jg)))) (ZR 3 Qgl.nd rfl (by first | exact Q6 rfl | exact Q4 rfl))
    (QU (Y7 4 (JS G3 (hr.mono (by decide)) (by rfl) m3 k3 b3 JQ (Zm (Z2 (ZC G1 (hr.mono (by decide)) (by rfl) m1 k1 b1 JQ (Zm (qv 0) (Zm (qv 3) Jg)))) (Zm (qv 2) Jg))) Qgl.nd)
   (Q7 (QaV (Ya QiU QmR (qp 4) (Jp QkN) (Zz _)) (Q7 (Yc (Qa7 (Qad (qv 3) (Qad (qv 4) JB))))) ZX))))
   (Q7 (YL QkN)))),λargs R EX h=>?_⟩
  obtain⟨h,w,f,h2,w2,f2,rfl,h6,w6,h26,w26,hR⟩:=h;refine⟨⟨rfl,rfl,.inl (by show 1<=_;decide)⟩,?_⟩;refine ifC (λz=>?_) λz=>?_
  ·have z:(!(((h:Int) == h2)&&(((w:Int) == w2)&&true)))=true:=z;have hne:¬(h=h2/\w=w2):=λq=>by
    rw[q.1,q.2] at z;simp at z
   unfold fwD at hR;rw[if_neg hne] at hR;exact hR
  ·have z:(!(((h:Int) == h2)&&(((w:Int) == w2)&&true)))=false:=z;have hq:h=h2/\w=w2:=by
    simp at z;omega
   obtain⟨rfl,rfl⟩:=hq;unfold fwD at hR;rw[if_pos ⟨rfl,rfl⟩] at hR;refine⟨_,JG (j:=0) rfl,⟨by omega,by omega⟩,h,w,f2,Qa h,by rw[Qv];rfl,h6,w6,ZE _,?_⟩;refine⟨_,JG (j:=0) rfl,h,rfl,h6,QaF (λi δ=>∃x3 x4,δ=[.v (bdD h w (cellsF h w f)),.v (bdD h w (cellsF h w f2)),.v (.list ((Qb8 f2 (Qa h) w).map Qk)),x3,x4]/\∀o∈(ordsN h h).take i,putN (mtF f f2 h o) w w=none) ⟨_,_,rfl,λo ho=>by simp at ho⟩ ?_ ?_⟩
   ·rintro i d δ hd ⟨x3,x4,rfl,hno⟩;rw[Qo] at hd;obtain⟨o,eo,rfl⟩:∃o,(ordsN h h)[i]? = some o/\d=tNn o:=by
     cases e:(ordsN h h)[i]? with
     |none=>rw[e] at hd;cases hd
     |some p=>rw[e] at hd;cases hd;exact⟨p,rfl,rfl⟩
    have mo:=Jo eo;refine⟨h,w,f,o,rfl,h6,w6,Zh mo,Qb8 f o w,Qb8 f2 (Qa h) w,rfl,by rw[QcJ];exact w6,by rw[QcJ];exact w6,?_⟩;rw[QcJ,QcJ,QwO (JZ mo)];cases q:putN (mtF f f2 h o) w w with
    |none=>
     refine⟨_,_,rfl,λp hp=>?_⟩;rw[Zs,eo] at hp;rcases Yh.mp hp with y | y
     ·exact hno p y
     ·rw[Ji.mp y];exact q
    |some t=>
     rw[QuZ eo hno q] at hR;exact hR
   ·rintro δ ⟨x3,x4,rfl,hno⟩;rw[Qe,JY] at hno;rw[Qu0 hno] at hR;exact hR
theorem Qwr:JN ["told", "size"] ["told", "size"] (QF sCAt):=⟨rfl,rfl,rfl,by decide +kernel,rfl,by decide +kernel,by decide +kernel⟩
theorem QxH{f   : Addr}{fd  : Q0}(F:Fun K "count_at" "count_at" sCAt f fd)(T:GlbA mg) :
  FnOk P w K mg base CX0 1 f fd ["told", "size"] (Zq false QAT):=by
 refine okQ false F Qwr (λargs R EX h=>?_) (λcdv A outer s H E hr=>?_)
 ·obtain⟨a,k,rfl,_⟩:=h;rfl
 ·have hU:=Room.u60 hr;have hI:=Room.i60 hr;refine⟨_,Q7 (YL (Qz3 (Ya Quj Qse (qp 1) (Je (Z8 Qap Qd7 (by rfl) T.len QbW (QcE (qp 0) JB))) (Zz _)) (Qcv ZG YT (qp 0) (qp 1) (λ_ _=>rfl)) J9)),λargs R EX h=>?_⟩;obtain⟨a,k,rfl,hR⟩:=h;refine ifC (λz=>?_) λz=>?_
  ·have z:(k:Int)<(a.map Qk).length:=of_decide_eq_true z;rw[Qe] at z;refine⟨.int (a.getD k 0),JG ?_,hR⟩;rw[Qo,Qd,Qc (by omega)];rfl
  ·have z:¬(k:Int)<(a.map Qk).length:=of_decide_eq_false z;rw[Qe] at z;rw[QeV (by omega)] at hR;exact hR
theorem QrQ:JN ["mine", "theirs", "size"] ["mine", "theirs"] (QF sUnl):=⟨rfl,rfl,rfl,by decide +kernel,rfl,by decide +kernel,by decide +kernel⟩
theorem Qxw{f f1  : Addr}{fd fd1:Q0}(F:Fun K "unlike" "unlike" sUnl f fd)(T:GlbA mg)
  (m1:mg "count_at" = some (.ref f1))(G1:FnOk P w K mg base CX0 1 f1 fd1 ["told", "size"] (Zq false QAT))(b1:Binds K fd1 ["told", "size"] [])(k1:PySem.W.keepIn K (.ref f1)=true) :
  FnOk P w K mg base CX0 2 f fd ["mine", "theirs"] (Zq false QzH):=by
 refine okQ false F QrQ (λargs R EX h=>?_) (λcdv A outer s H E hr=>?_)
 ·obtain⟨a,b,rfl,_⟩:=h;rfl
 ·have hU:=Room.u60 hr;have hI:=Room.i60 hr;refine⟨_,QU (Qbx JR rfl (Qaq (by rfl) T.range (Je (Z8 (Qic rfl) QnU (by rfl) T.max QsB (QcE (Je (Z8 Qap Qd7 (by rfl) T.len QbW (QcE (qp 0) JB))) (QcE (Je (Z8 Qap Qd7 (by rfl) T.len QbW (QcE (qp 1) JB))) JB))))) (ZR 2 QrQ.nd rfl (by first | exact Q6 rfl | exact Q4 rfl))
    (Q7 (QaV (Ya Qcw (Qfo hU) (Jp (JS G1 (hr.mono (by decide)) (by rfl) m1 k1 b1 JQ (Zm (qv 0) (Zm (qv 2) Jg)))) (Jp (JS G1 (hr.mono (by decide)) (by rfl) m1 k1 b1 JQ (Zm (qv 1) (Zm (qv 2) Jg)))) (Zz _)) (Q7 (Yc (Qa7 (Qad Qfm (Qad (qv 2) (Qad (JS G1 (hr.mono (by decide)) (by rfl) m1 k1 b1 JQ (Zm (qv 0) (Zm (qv 2) Jg))) (Qad (JS G1 (hr.mono (by decide)) (by rfl) m1 k1 b1 JQ (Zm (qv 1) (Zm (qv 2) Jg))) JB))))))) ZX)))
   (Q7 (Yc (Qa7 (Qad Qfm JB)))),λargs R EX h=>?_⟩
  obtain⟨a,b,rfl,a7,b7,hR⟩:=h;have la:=QBp a;have lb:=QBp b;refine⟨⟨by split<;>omega,by split<;>omega⟩,QeW (λi δ=>∃x2,δ=[.v (.list (a.map Qk)),.v (.list (b.map Qk)),x2]/\∀k,k<i->a.getD k 0=b.getD k 0) ⟨_,rfl,λk hk=>by omega⟩ ?_ ?_⟩
  ·rintro i δ hi ⟨x2,rfl,hno⟩;have i7:i<7:=by split at hi<;>omega
   refine⟨a,i,by rw[YR],b,i,by rw[YR],?_⟩;refine ifC (λz=>?_) λz=>?_
   ·have z:¬a.getD i 0=b.getD i 0:=Quz z;refine⟨a,i,by rw[YR],b,i,by rw[YR],?_⟩;have e:QrI a b 7=some i:=by
     unfold QrI;have sp:Qa 7=Qa i++i::(Qa (6 - i)).map (·+(i+1)):=by
      rw[show 7=i+((6 - i)+1) by omega,List.range_add,List.range_succ_eq_map,QY,QV]
      congr 2
      refine QH λk _=>?_
      show i+(k+1)=k+(i+1);omega
     rw[sp,List.find?_append,Qbj.mpr λk hk=>by rw[hno k (Qu.mp hk)];simp,List.find?_cons_of_pos (by simpa using z)];rfl
    rw[e] at hR;have hR:R (.tuple [.str "counts",.int (i:Int),.int (a.getD i 0),.int (b.getD i 0)]):=hR;rw[<- YR (i:Int)] at hR;exact hR
   ·have z:a.getD i 0=b.getD i 0:=Qu9 z;refine⟨_,rfl,λk hk=>?_⟩;by_cases y:k=i
    ·rw[y];exact z
    ·exact hno k (by omega)
  ·rintro δ ⟨x2,rfl,hno⟩;have e:QrI a b 7=none:=by
    unfold QrI;rw[Qbj];intro k hk;by_cases y:k<a.length∨k<b.length
    ·rw[hno k (by split<;>omega)];simp
    ·rw[QeV (by omega),QeV (by omega)];simp
   rw[e] at hR;exact hR
theorem Qgo:JN ["one", "other", "way"] ["one", "other"] (QF QfH):=⟨rfl,rfl,rfl,by decide +kernel,rfl,by decide +kernel,by decide +kernel⟩
theorem QpF{f f1 f2 f3 f4  : Addr}{fd fd1 fd2 fd3 fd4:Q0}(F:Fun K "alike" "alike" QfH f fd)(T:GlbA mg)
  (m1:mg "first_way" = some (.ref f1))(G1:FnOk P w K mg base CX0 3 f1 fd1 ["one", "other"] (Zq false QuY))(b1:Binds K fd1 ["one", "other"] [])(k1:PySem.W.keepIn K (.ref f1)=true)
  (m2:mg "turned" = some (.ref f2))(G2:FnOk P w K mg base CX0 2 f2 fd2 ["board"] (Zq false QlP))(b2:Binds K fd2 ["board"] [])(k2:PySem.W.keepIn K (.ref f2)=true)
  (m3:mg "counts" = some (.ref f3))(G3:FnOk P w K mg base CX0 3 f3 fd3 ["board"] (Zq true QgP))(b3:Binds K fd3 ["board"] [])(k3:PySem.W.keepIn K (.ref f3)=true)
  (m4:mg "unlike" = some (.ref f4))(G4:FnOk P w K mg base CX0 2 f4 fd4 ["mine", "theirs"] (Zq false QzH))(b4:Binds K fd4 ["mine", "theirs"] [])(k4:PySem.W.keepIn K (.ref f4)=true) :
  FnOk P w K mg base CX0 4 f fd ["one", "other"] (Zq false alD):=by
 refine okQ false F Qgo (λargs R EX h=>?_) (λcdv A outer s H E hr=>?_)
 ·obtain⟨h,w,f,h2,w2,f2,rfl,_⟩:=h;rfl
 ·have hU:=Room.u60 hr;have hI:=Room.i60 hr;refine⟨_,QU (Y7 2 (JS G1 (hr.mono (by decide)) (by rfl) m1 k1 b1 JQ (Zm (qv 0) (Zm (qv 1) Jg))) Qgo.nd)
   (QU (QaV (Ya QiU QmR (qp 2) (Jp QkN) (Zz _)) (Q7 (Yc (Qa7 (Qad Qfm (Qad (qv 2) JB))))) ZX)
   (QU (Y7 2 (JS G1 (hr.mono (by decide)) (by rfl) m1 k1 b1 JQ (Zm (JS G2 (hr.mono (by decide)) (by rfl) m2 k2 b2 JQ (Zm (qv 0) Jg)) (Zm (qv 1) Jg))) Qgo.nd)
   (QU (QaV (Ya QiU QmR (qp 2) (Jp QkN) (Zz _)) (Q7 (Yc (Qa7 (Qad Qfm (Qad (qv 2) JB))))) ZX)
   (Q7 (YL (JS G4 (hr.mono (by decide)) (by rfl) m4 k4 b4 JQ (Zm (Z2 (ZC G3 (hr.mono (by decide)) (by rfl) m3 k3 b3 JQ (Zm (qv 0) Jg))) (Zm (Z2 (ZC G3 (hr.mono (by decide)) (by rfl) m3 k3 b3 JQ (Zm (qv 1) Jg))) Jg)))))))),λargs R EX h=>?_⟩
  obtain⟨h,w,f,h2,w2,f2,rfl,h6,w6,h26,w26,hR⟩:=h;refine⟨h,w,f,h2,w2,f2,rfl,h6,w6,h26,w26,?_⟩;unfold alV at hR;cases e:fwD h w f h2 w2 f2 with
  |some p=>
   rw[e] at hR;exact hR
  |none=>
   rw[e] at hR;refine⟨h,w,f,rfl,h6,w6,w,h,tF f,h2,w2,f2,rfl,w6,h6,h26,w26,?_⟩;cases e2:fwD w h (tF f) h2 w2 f2 with
   |some p=>
    rw[e2] at hR;exact hR
   |none=>
    rw[e2] at hR;refine⟨h,w,_,rfl,h6,w6,λp hp=>(YU hp).2.2,h2,w2,_,rfl,h26,w26,λp hp=>(YU hp).2.2,cIs f h w,cIs f2 h2 w2,?_,?_,?_,hR⟩
    ·show[Sl.v (YG (Qk3 (cellsF h w f) h w)),.v (.list (Qk3 (cellsF h2 w2 f2) h2 w2))]=_;unfold cIs Qk3;rw[QV,QV];rfl
    ·unfold cIs;rw[Qe,Qh];omega
    ·unfold cIs;rw[Qe,Qh];omega
end
def QgR(a b:List Nat):List Nat:=b.map λx=>a.getD x 0
theorem QeL{n:Nat}{o:List Nat}:o∈ordsN n n↔o.Perm (Qa n):=⟨Zh,λp=>Qdc (by rw[p.length_eq,Qh]) (p.nodup_iff.mpr Jl) λx hx=>Qu.mp (p.mem_iff.mp hx)⟩
theorem Qce{n:Nat}{a b:List Nat}(ha:a∈ordsN n n)(hb:b∈ordsN n n):QgR a b∈ordsN n n:=by
 refine QeL.mpr (((Zh hb).map _).trans ?_);rw[Qbl (JZ ha)];exact Zh ha
theorem Qes{a b:List Nat}{r:Nat}(hr:r<b.length):(QgR a b).getD r 0=a.getD (b.getD r 0) 0:=by
 unfold QgR;rw[Qd,Qo,Qc hr,Qd (l:=b),Qc hr];rfl
theorem Qj6{o:List Nat}(nd:o.Nodup){i:Nat}(h:i<o.length):o.idxOf o[i]=i:=by
 have hl:=JV (Z1 h);have e:=Qah hl;rcases ZQ (o.idxOf o[i]) i with z | z | z
 ·exact absurd e (Jq.mp nd _ _ hl h z)
 ·exact z
 ·exact absurd e.symm (Jq.mp nd _ _ h hl z)
theorem QjQ{n:Nat}{a o:List Nat}(ha:a∈ordsN n n)(ho:o∈ordsN n n):∃b∈ordsN n n,QgR a b=o:=by
 have pa:=Zh ha;have na:a.Nodup:=pa.nodup_iff.mpr Jl;have la:=JZ ha;have e1:a.map (λx=>a.idxOf x)=Qa n:=by
  refine Ja λk=>?_
  rw[Qo];by_cases y:k<n
  ·rw[Qc (by omega),Qr y];exact congrArg some (Qj6 na (by omega))
  ·rw[Qp (by omega),Qp (by rw[Qh];omega)];rfl
 refine⟨o.map λx=>a.idxOf x,QeL.mpr ?_,?_⟩
 ·have:=((Zh ho).trans pa.symm).map λx=>a.idxOf x
  rwa [e1] at this
 ·unfold QgR;rw[QV]
  conv=>rhs;rw[<- Qb2 o]
  refine QH λx hx=>?_
  have mx:x∈a:=pa.mem_iff.mpr ((Zh ho).mem_iff.mp hx);have hl:=JV mx;show a.getD (a.idxOf x) 0=x;rw[Qd,Qc hl,Qah hl];rfl
theorem Qr9{n:Nat}{o:List Nat}(ho:o∈ordsN n n){r:Nat}(hr:r<n):o.getD r 0<n:=by
 have lo:=JZ ho;rw[Qd,Qc (by omega)];exact QcH ho _ (Z1 (by omega))
theorem Qdo{h w:Nat}{f g:Nat->Nat->Bool}:cellsF h w f=cellsF h w g↔∀r c,r<h->c<w->f r c=g r c:=by
 constructor
 ·intro e r c hr hc;rw[<- QpQ (h:=h) (w:=w) (f:=f) hr hc,<- QpQ (h:=h) (w:=w) (f:=g) hr hc,e]
 ·intro e;exact YA e
theorem Qm7{h w:Nat}{f:Nat->Nat->Bool}{o1 q1 o q:List Nat}(ho:o∈ordsN h h)(hq:q∈ordsN w w):cellsF h w (ldF (ldF f o1 q1) o q)=cellsF h w (ldF f (QgR o1 o) (QgR q1 q)):=by
 have lo:=JZ ho;have lq:=JZ hq;refine YA λr c hr hc=>?_
 show f (o1.getD (o.getD r 0) 0) (q1.getD (q.getD c 0) 0)=f ((QgR o1 o).getD r 0) ((QgR q1 q).getD c 0);rw[Qes (by omega),Qes (by omega)]
theorem Qdh{h w:Nat}{f g:Nat->Nat->Bool}{o q:List Nat}(ho:o∈ordsN h h)(hq:q∈ordsN w w)(e:cellsF h w f=cellsF h w g):cellsF h w (ldF f o q)=cellsF h w (ldF g o q):=YA λr c hr hc=>Qdo.mp e _ _ (Qr9 ho hr) (Qr9 hq hc)
theorem QxV{h w:Nat}(f:Nat->Nat->Bool):cellsF h w (ldF f (Qa h) (Qa w))=cellsF h w f:=YA λr c hr hc=>by
 show f ((Qa h).getD r 0) ((Qa w).getD c 0)=f r c;rw[Qd,Qd,Qr hr,Qr hc];rfl
def QdX(h w:Nat)(f g:Nat->Nat->Bool):Prop:=∃o∈ordsN h h,∃q∈ordsN w w,cellsF h w (ldF f o q)=cellsF h w g
theorem Qm3{h w:Nat}{f g k:Nat->Nat->Bool}(a:QdX h w f g)(b:QdX h w g k):QdX h w f k:=by
 obtain⟨o1,ho1,q1,hq1,e1⟩:=a;obtain⟨o2,ho2,q2,hq2,e2⟩:=b;exact⟨_,Qce ho1 ho2,_,Qce hq1 hq2,by rw[<- Qm7 ho2 hq2,Qdh ho2 hq2 e1,e2]⟩
theorem QgI{h w:Nat}{f g:Nat->Nat->Bool}(a:QdX h w f g):QdX h w g f:=by
 obtain⟨o,ho,q,hq,e⟩:=a;obtain⟨o2,ho2,e1⟩:=QjQ ho (QbR h);obtain⟨q2,hq2,e2⟩:=QjQ hq (QbR w);refine⟨o2,ho2,q2,hq2,?_⟩;rw[<- Qdh ho2 hq2 e,Qm7 ho2 hq2,e1,e2,QxV]
def Qop(h w:Nat)(f:Nat->Nat->Bool)(o q:List Nat):Prop:=o∈ordsN h h/\q∈ordsN w w/\∀o' q',o'∈ordsN h h->q'∈ordsN w w->ltD (ldB h w f o' q') (ldB h w f o q)=false
theorem QiW{h w:Nat}{f g:Nat->Nat->Bool}(a:QdX h w f g){o q o2 q2:List Nat}(h1:Qop h w f o q)(h2:Qop h w g o2 q2):cellsF h w (ldF f o q)=cellsF h w (ldF g o2 q2):=by
 have go:∀{f g:Nat->Nat->Bool}{o q o2 q2:List Nat},QdX h w f g->Qop h w f o q->Qop h w g o2 q2->ltD (ldB h w g o2 q2) (ldB h w f o q)=false:=λ{f g o q o2 q2} a h1 h2=>by
  obtain⟨o1,ho1,q1,hq1,e1⟩:=a;have:=h1.2.2 (QgR o1 o2) (QgR q1 q2) (Qce ho1 h2.1) (Qce hq1 h2.2.1);unfold ldB at this ⊢
  rwa [<- Qm7 h2.1 h2.2.1,Qdh h2.1 h2.2.1 e1] at this
 exact(Qvx (go a h1 h2) (go (QgI a) h2 h1)).symm
theorem QxL{h w:Nat}{f g:Nat->Nat->Bool}{o q o2 q2:List Nat}(h1:Qop h w f o q)(h2:Qop h w g o2 q2)(e:cellsF h w (ldF f o q)=cellsF h w (ldF g o2 q2)):QdX h w f g:=
 Qm3 ⟨o,h1.1,q,h1.2.1,e⟩ (QgI ⟨o2,h2.1,q2,h2.2.1,rfl⟩)
theorem Qgz(mt:Nat->Nat->Bool)(w:Nat):∀(j:Nat)(t:List Nat),putN mt w j=some t->t.length=j/\t.Nodup/\(∀x∈t,x<w)/\∀i,i<j->mt i (t.getD i 0)=true
 |0,t,h=>by cases h;exact⟨rfl,Qbv,(λx hx=>by cases hx),λi hi=>by omega⟩
 |j+1,t,h=>by
  have h:((putN mt w j).bind λt=>(Qfe mt w j t).head?.map λc=>t++[c])=some t:=h;cases p:putN mt w j with
  |none=>rw[p] at h;cases h
  |some t0=>
   rw[p] at h;have h:(Qfe mt w j t0).head?.map (λc=>t0++[c])=some t:=h;obtain⟨l0,n0,b0,m0⟩:=Qgz mt w j t0 p;cases q:Qfe mt w j t0 with
   |nil=>rw[q] at h;cases h
   |cons c r=>
    rw[q] at h;have h:t0++[c]=t:=QK h;subst h;obtain⟨c1,c2,c3⟩:=Qu2 (mt:=mt) (w:=w) (j:=j) (t:=t0) (c:=c) (by rw[q];exact .head _);refine⟨by rw[Qy,l0];rfl,Yg.mpr ⟨n0,by simp,λa ha b hb e=>?_⟩,λx hx=>?_,λi hi=>?_⟩
    ·rw[Ji.mp hb] at e;rw[e] at ha;exact c2 ha
    ·rcases Yh.mp hx with z | z
     ·exact b0 x z
     ·rw[Ji.mp z];exact c1
    ·rw[Qd];by_cases z:i<j
     ·rw[J7 (by omega),<- Qd];exact m0 i z
     ·have:i=t0.length:=by omega
      rw[this,Jn (Ql _),Qc0];show mt t0.length c=true;rw[l0];exact c3
theorem QjJ{α:Type}[DecidableEq α]{C D:Nat->α}{w:Nat}{q:List Nat}(hq:q∈ordsN w w)(hm:∀i,i<w->C (q.getD i 0)=D i):∀j,j<=w->putN (λj c=>decide (C c=D j)) w j≠none
 |0,_=>λe=>nomatch e
 |j+1,hj=>λe=>by
  cases p:putN (λj c=>decide (C c=D j)) w j with
  |none=>exact QjJ hq hm j (by omega) p
  |some t=>
   obtain⟨l0,n0,b0,m0⟩:=Qgz _ w j t p;have e:((putN (λj c=>decide (C c=D j)) w j).bind λt=>(Qfe (λj c=>decide (C c=D j)) w j t).head?.map λc=>t++[c])=none:=e;rw[p] at e;have e:(Qfe (λj c=>decide (C c=D j)) w j t).head?.map (λc=>t++[c])=none:=e;have fe:Qfe (λj c=>decide (C c=D j)) w j t=[]:=by
    cases z:Qfe (λj c=>decide (C c=D j)) w j t with
    |nil=>rfl
    |cons c r=>rw[z] at e;cases e
   have all:∀c,c<w->C c=D j->c∈t:=λc hc e2=>ZW λhn=>by
    have:c∈Qfe (λj c=>decide (C c=D j)) w j t:=QN.mpr ⟨Qu.mpr hc,by simp[e2,hn]⟩;rw[fe] at this;cases this
   have lq:=JZ hq;have c1:(Qa w).countP (λc=>decide (C c=D j))=(Qa w).countP (λi=>decide (D i=D j)):=by
    have:=(Zh hq).countP_eq (p:=λc=>decide (C c=D j));rw[<- this]
    conv=>lhs;rw[<- Qbl lq]
    rw[JW];refine Zd λi hi=>?_
    show decide (C (q.getD i 0)=D j)=true↔_;rw[hm i (Qu.mp hi)]
   have c2:(Qa w).countP (λc=>decide (C c=D j))<=t.countP λc=>decide (C c=D j):=by
    rw[JD,JD];refine Zt.Qgd (Jl.filter _) λx hx=>?_
    obtain⟨x1,x2⟩:=QN.mp hx;exact QN.mpr ⟨all x (Qu.mp x1) (of_decide_eq_true x2),x2⟩
   have c3:(t.countP λc=>decide (C c=D j))=(Qa j).countP λi=>decide (D i=D j):=by
    conv=>lhs;rw[<- Qbl l0]
    rw[JW];refine Zd λi hi=>?_
    show decide (C (t.getD i 0)=D j)=true↔_;rw[of_decide_eq_true (m0 i (Qu.mp hi))]
   have c4:(Qa w).countP (λi=>decide (D i=D j))=(Qa j).countP (λi=>decide (D i=D j))+(1+(Yr (j+1) (w - (j+1))).countP λi=>decide (D i=D j)):=by
    conv=>lhs;rw[QhD (show j<w by omega)]
    rw[YC,Yx,decide_eq_true rfl,if_pos rfl,Qlw 1]
   omega
theorem QnP{h w:Nat}{f f2:Nat->Nat->Bool}{o q:List Nat}(ho:o∈ordsN h h):(∀j,j<w->Qdx f o (q.getD j 0)=Qdx f2 (Qa h) j)↔cellsF h w (ldF f o q)=cellsF h w f2:=by
 have lo:=JZ ho;rw[Qdo];constructor
 ·intro e r c hr hc;have g1:=Qdn (f:=f) (o:=o) (c:=q.getD c 0) (r:=r) (by omega);have g2:=Qdn (f:=f2) (o:=Qa h) (c:=c) (r:=r) (by rw[Qh];exact hr);rw[e c hc,g2] at g1;show f (o.getD r 0) (q.getD c 0)=f2 r c;rw[<- g1,Qd,Qr hr];rfl
 ·intro e j hj;rw[<- Qh8 (f:=f) (q:=q) lo j];unfold clN Qdx;exact QH λr hr=>e r j (Qu.mp hr) hj
theorem Qno{h w:Nat}{f f2:Nat->Nat->Bool}{o t:List Nat}(e:fwN h w f f2=some (o,t)):o∈ordsN h h/\t∈ordsN w w/\cellsF h w (ldF f o t)=cellsF h w f2:=by
 unfold fwN at e;obtain⟨l1,o',l2,e0,e1,_⟩:=List.findSome?_eq_some_iff.mp e
 obtain⟨t',p,e2⟩:=ZP.mp e1;cases e2;have ho:o∈ordsN h h:=by rw[e0];exact Jr _ (.head _)
 obtain⟨l0,n0,b0,m0⟩:=Qgz _ w w t p;exact⟨ho,Qdc l0 n0 b0,(QnP ho).mp λj hj=>of_decide_eq_true (m0 j hj)⟩
theorem Qsn{h w:Nat}{f f2:Nat->Nat->Bool}(a:QdX h w f f2):∃o t,fwN h w f f2=some (o,t):=by
 cases e:fwN h w f f2 with
 |some p=>exact⟨p.1,p.2,rfl⟩
 |none=>
  obtain⟨o,ho,q,hq,ec⟩:=a;unfold fwN at e;have:=Qbe.mp e o ho;have:=Option.map_eq_none_iff.mp this;exact absurd this (QjJ (C:=λc=>Qdx f o c) (D:=λj=>Qdx f2 (Qa h) j) hq ((QnP ho).mpr ec) w (Ql _))
theorem Qjw{α:Type}[DecidableEq α]:∀{P Q:List α},P.Nodup->(∀p∈P,p∈Q)->P.length<=Q.length
 |[],_,_,_=>Q9 _
 |p::P,Q,nd,h=>by
  obtain⟨n1,n2⟩:=JL.mp nd;have hp:=h p (.head _);have ih:=Qjw (P:=P) (Q:=Q.erase p) n2 λx hx=>(Qlz (λe=>n1 (by rw[<- e];exact hx))).mpr (h x (.tail _ hx))
  have e:=QiC hp;have:=Qcr hp;rw[Qt];omega
theorem Qnf{α β:Type}[DecidableEq β]{P:List α}{Q:List β}(φ:α->β)(nd:P.Nodup)(hi:∀a∈P,∀b∈P,φ a=φ b->a=b)(h:∀p∈P,φ p∈Q):P.length<=Q.length:=by
 have n:(P.map φ).Nodup:=by
  refine Yf.mpr (Qek (λ{a b} ha hb hn e=>hn (hi a ha b hb e)) nd)
 have:=Qjw n λx hx=>by
  obtain⟨p,hp,rfl⟩:=QQ.mp hx;exact h p hp
 rwa [Qe] at this
theorem QgE(n:Nat):∀i,(ordsN n i).Nodup
 |0=>by simp[ordsN]
 |i+1=>by
  show((ordsN n i).flatMap λo=>(oth n o).map λx=>o++[x]).Nodup;have key:∀L:List (List Nat),L.Nodup->(L.flatMap λo=>(oth n o).map λx=>o++[x]).Nodup:=λL=>by
   induction L with
   |nil=>intro _;exact Qbv
   |cons o L ih=>
    intro nd;obtain⟨n1,n2⟩:=JL.mp nd;rw[ZO];refine Yg.mpr ⟨?_,ih n2,λa ha b hb e=>?_⟩
    ·exact Yf.mpr ((Jl.filter _).imp λ{a b} hne e=>hne (by simpa using e))
    ·obtain⟨x,_,rfl⟩:=QQ.mp ha;obtain⟨o',ho',hb⟩:=ZD.mp hb;obtain⟨y,_,rfl⟩:=QQ.mp hb;have:=List.append_inj_left' e rfl;rw[this] at n1;exact n1 ho'
  exact key _ (QgE n i)
def QwT(h w:Nat):List (List Nat×List Nat):=(ordsN h h).flatMap λo=>(ordsN w w).map λq=>(o,q)
theorem QbQ{h w:Nat}{p:List Nat×List Nat}:p∈QwT h w↔p.1∈ordsN h h/\p.2∈ordsN w w:=by
 unfold QwT;rw[ZD];constructor
 ·rintro⟨o,ho,hp⟩;obtain⟨q,hq,rfl⟩:=QQ.mp hp;exact⟨ho,hq⟩
 ·rintro⟨h1,h2⟩;exact⟨p.1,h1,QQ.mpr ⟨p.2,h2,rfl⟩⟩
theorem Qr3(h w:Nat):(QwT h w).Nodup:=by
 have key:∀L:List (List Nat),L.Nodup->(L.flatMap λo=>(ordsN w w).map λq=>(o,q)).Nodup:=λL=>by
  induction L with
  |nil=>intro _;exact Qbv
  |cons o L ih=>
   intro nd;obtain⟨n1,n2⟩:=JL.mp nd;rw[ZO];refine Yg.mpr ⟨Yf.mpr ((QgE w w).imp λ{a b} hne e=>hne (J8 e).2),ih n2,λa ha b hb e=>?_⟩;obtain⟨x,_,rfl⟩:=QQ.mp ha;obtain⟨o',ho',hb⟩:=ZD.mp hb;obtain⟨y,_,rfl⟩:=QQ.mp hb;rw[(J8 e).1] at n1;exact n1 ho'
 exact key _ (QgE h h)
def Qy7(h w:Nat)(f g:Nat->Nat->Bool):Nat:=((QwT h w).filter λp=>decide (cellsF h w (ldF f p.1 p.2)=cellsF h w g)).length
theorem QgD(h w:Nat)(f:Nat->Nat->Bool):ownN h w f=Qy7 h w f f:=by
 rw[<- Qmx];unfold Qnx Qy7 QwT;rw[JY,<- JD,Qok,Qok]
 congr 1
 refine QH λo _=>?_
 show((ordsN w w).map (ldB h w f o)).countP _=((ordsN w w).map λq=>(o,q)).countP _;rw[JW,JW];refine Zd λq _=>?_
 show QC (ldB h w f o q) (bdD h w (cellsF h w f))=true↔decide (cellsF h w (ldF f o q)=cellsF h w f)=true;unfold ldB;rw[QfY]
theorem Qki{n:Nat}{a b s:List Nat}(ha:a∈ordsN n n)(hb:b∈ordsN n n)(hs:s∈ordsN n n)(e:QgR a s=QgR b s):a=b:=by
 have la:=JZ ha;have lb:=JZ hb;have ls:=JZ hs;rw[<- Qbl la,<- Qbl lb];refine QH λi hi=>?_
 have mi:i∈s:=(Zh hs).mem_iff.mpr hi;have hl:=JV mi;have g1:=Qes (a:=a) hl;have g2:=Qes (a:=b) hl;rw[Qd (l:=s),Qc hl,Qah hl] at g1 g2;rw[e,g2] at g1;exact g1.symm
def Qvy(a o:List Nat):List Nat:=o.map λx=>a.idxOf x
theorem Qci{n:Nat}{a o:List Nat}(ha:a∈ordsN n n)(ho:o∈ordsN n n):Qvy a o∈ordsN n n/\QgR a (Qvy a o)=o:=by
 have pa:=Zh ha;have na:a.Nodup:=pa.nodup_iff.mpr Jl;have la:=JZ ha;have e1:a.map (λx=>a.idxOf x)=Qa n:=by
  refine Ja λk=>?_
  rw[Qo];by_cases y:k<n
  ·rw[Qc (by omega),Qr y];exact congrArg some (Qj6 na (by omega))
  ·rw[Qp (by omega),Qp (by rw[Qh];omega)];rfl
 refine⟨QeL.mpr ?_,?_⟩
 ·have:=((Zh ho).trans pa.symm).map λx=>a.idxOf x
  rwa [e1] at this
 ·unfold QgR Qvy;rw[QV]
  conv=>rhs;rw[<- Qb2 o]
  refine QH λx hx=>?_
  have mx:x∈a:=pa.mem_iff.mpr ((Zh ho).mem_iff.mp hx);have hl:=JV mx;show a.getD (a.idxOf x) 0=x;rw[Qd,Qc hl,Qah hl];rfl
theorem Qr7{h w:Nat}{f g:Nat->Nat->Bool}(a:QdX h w f g):ownN h w f<=ownN h w g:=by
 obtain⟨o1,ho1,q1,hq1,e1⟩:=a;rw[QgD,QgD];refine QJ (m:=Qy7 h w f g) ?_ ?_
 ·refine Qnf (λp=>(QgR p.1 o1,QgR p.2 q1)) ((Qr3 h w).filter _) (λa ha b hb e=>?_) λp hp=>?_
  ·have ha:=QbQ.mp (QN.mp ha).1;have hb:=QbQ.mp (QN.mp hb).1;exact QcX (Qki ha.1 hb.1 ho1 (J8 e).1) (Qki ha.2 hb.2 hq1 (J8 e).2)
  ·obtain⟨m,e⟩:=QN.mp hp;have m:=QbQ.mp m;have e:=of_decide_eq_true e;refine QN.mpr ⟨QbQ.mpr ⟨Qce m.1 ho1,Qce m.2 hq1⟩,decide_eq_true ?_⟩;show cellsF h w (ldF f (QgR p.1 o1) (QgR p.2 q1))=_;rw[<- Qm7 ho1 hq1,Qdh ho1 hq1 e,e1]
 ·refine Qnf (λp=>(Qvy o1 p.1,Qvy q1 p.2)) ((Qr3 h w).filter _) (λa ha b hb e=>?_) λp hp=>?_
  ·have ha:=QbQ.mp (QN.mp ha).1;have hb:=QbQ.mp (QN.mp hb).1;refine QcX ?_ ?_
   ·rw[<- (Qci ho1 ha.1).2,<- (Qci ho1 hb.1).2,(J8 e).1]
   ·rw[<- (Qci hq1 ha.2).2,<- (Qci hq1 hb.2).2,(J8 e).2]
  ·obtain⟨m,e⟩:=QN.mp hp;have m:=QbQ.mp m;have e:=of_decide_eq_true e;obtain⟨b1,c1⟩:=Qci ho1 m.1;obtain⟨b2,c2⟩:=Qci hq1 m.2;refine QN.mpr ⟨QbQ.mpr ⟨b1,b2⟩,decide_eq_true ?_⟩;show cellsF h w (ldF g (Qvy o1 p.1) (Qvy q1 p.2))=_;rw[<- Qdh b1 b2 e1,Qm7 b1 b2,c1,c2,e]
theorem Que{h w:Nat}{f g:Nat->Nat->Bool}(a:QdX h w f g):ownN h w f=ownN h w g:=Nat.le_antisymm (Qr7 a) (Qr7 (QgI a))
theorem Qpy(h w:Nat)(f:Nat->Nat->Bool):ownN h w (λr c => !f r c)=ownN h w f:=by
 rw[QgD,QgD];unfold Qy7;rw[<- JD,<- JD];refine Zd λp _=>?_
 rw[decide_eq_true_eq,decide_eq_true_eq,Qdo,Qdo];constructor
 ·intro e r c hr hc;have:=e r c hr hc;have this:(!f (p.1.getD r 0) (p.2.getD c 0)) = !f r c:=this;exact Bool.not_inj this
 ·intro e r c hr hc;have:=e r c hr hc;have this:f (p.1.getD r 0) (p.2.getD c 0)=f r c:=this;show(!f (p.1.getD r 0) (p.2.getD c 0)) = !f r c;rw[this]
def Qjx:Sp:=λvs H Q _=>∃p n m,vs=[.ref p,.int m]/\H p=some (.lst [.int n])/\1<=m/\m<=6/\∀t (o:List Int) H' n',KX p H H'->H' p=some (.lst [.int n'])->t≠p->H' t=some (.tup (o.map V.int))->o.Perm (QbL m.toNat)->Q (.ref t) H'
theorem QhZ{α β:Type}(f:α->β):∀(xs:List α)(k:Nat),(xs.map f).eraseIdx k=(xs.eraseIdx k).map f
 |[],k=>by cases k<;>rfl
 |x::xs,0=>rfl
 |x::xs,k+1=>by
  show f x::(xs.map f).eraseIdx k=f x::(xs.eraseIdx k).map f;rw[QhZ f xs k]
theorem QfV{α:Type}:∀(xs:List α)(k:Nat)(d:α),k<xs.length->(xs.getD k d::xs.eraseIdx k).Perm xs
 |[],k,d,h=>absurd h (Qhj _)
 |x::xs,0,d,h=>ZE _
 |x::xs,k+1,d,h=>by
  have ih:=QfV xs k d (by simpa using h);show(xs.getD k d::x::xs.eraseIdx k).Perm (x::xs);exact(Qol _ _ _).trans (ih.cons x)
theorem Qs6{vs:List V}{H:Hp}{Q:VK}{E:XK}(h:QiJ vs H Q E):Qgh vs H Q E:=by
 obtain⟨p,n,f,rfl,hp,h0,h1,k⟩:=h;exact⟨p,n,f,rfl,hp,h0,Qfw (QlD h1) (by decide),λr m r0 r1=>k r _ m KX.upd Jj r0 r1⟩
def Qi1:DF:=λargs R _=>∃m:Int,args=[.pot,.v (.int m)]/\1<=m/\m<=6/\∀o:List Int,o.Perm (QbL m.toNat)->R (tN o)
theorem Qug{vs:List V}{H:Hp}{Q:VK}{Ex:XK}(h:Zq false Qi1 vs H Q Ex):Qjx vs H Q Ex:=by
 obtain⟨A,pt,args,R,EX,dm,hp,q,⟨m,rfl,m1,m6,hR⟩,k,_⟩:=h;cases q with
 |cons q1 q2=>cases q2 with
  |cons q2 q3=>
   cases q3;obtain⟨p,rfl,pp⟩:=q1;cases q2;obtain⟨pA,n,e⟩:=hp p pp;refine⟨p,n,m,rfl,e,m1,m6,λt o H' n' kx ep ne et po=>k _ (hR o po) _ _ ⟨λb u nb eb=>kx b u (λz=>nb (by rw[z];exact pp)) eb,λz hz=>?_⟩ (.tup (λz=>?_) et (Qcb o)) λh=>by cases h⟩
   ·by_cases y:z=p
    ·rw[y];exact⟨n',ep⟩
    ·obtain⟨_,n2,e'⟩:=hp z hz;exact⟨n2,kx z _ y e'⟩
   ·obtain⟨xs,e'⟩:=dm t z;rw[kx t _ ne e'] at et;cases et
section
variable{P:QB}{w:Jd}{K:PySem.W.Frag}{mg:Str->Option Value}{base:Heap}
theorem QkR:(["_law_turn", "_law_left", "_law_pot_here"]:List Str).Nodup:=by decide +kernel
theorem QhA:JN ["_law_pot_here", "_law_many", "_law_left"] ["_law_pot_here", "_law_many"] (QF QfP):=⟨rfl,rfl,rfl,by decide +kernel,rfl,by decide +kernel,by decide +kernel⟩
theorem QmI{f f1  : Addr}{fd fd1:Q0}(F:Fun K "_law_order" "_law_order" QfP f fd)(T:GlbA mg)
  (m1:mg "_law_take" = some (.ref f1))(G1:FnOk P w K mg base CX0 1 f1 fd1 ["_law_pot_here", "_law_far"] QiJ)(b1:Binds K fd1 ["_law_pot_here", "_law_far"] [])(k1:PySem.W.keepIn K (.ref f1)=true) :
  FnOk P w K mg base CX0 2 f fd ["_law_pot_here", "_law_many"] Qjx:=by
 refine F.ok QhA (λvs H Q E h=>?_) (λcdv A outer s H vs Q E hr h=>?_)
 ·obtain⟨p,n,m,rfl,_⟩:=h;rfl
 ·obtain⟨p,n,m,rfl,hp,hm1,hm6,k⟩:=h;have un:=hr.units;refine⟨_,Qak (Qda (i:=2) QhA.nd rfl (by first | exact Q6 rfl | exact Q4 rfl) (Qa8 (Qe2 rfl) (by rfl) T.list Qji (Y8 (Qep (by rfl) T.range (Y8 (pv 1) Zv)) Zv)))
   (QbP (Qdb (Qa8 Qdp (by rfl) T.tuple Qam (Y8 (QjM (M:=["_law_turn", "_law_left", "_law_pot_here"]) (cap:=[none,some 2,some 0]) (g:=(Qfq 0)) (tc:=QiH) (te:=(tBM K "list" QrY (QiG 1) (Qc2 (Qs9 QiJ [] E0 (Qc2 (QiG 2) (Qc2 (tCB (Qtq K) (Qc2 (QiG 1) Qom)) Qom))) Qom))) rfl (by rfl) (QeK (by rfl) T.range (Y8 (pv 1) Zv)) (λcl ex s3 H3 C=>⟨(QgB (i:=0) QkR rfl (Q6 rfl) (Q4 rfl)),Qmj,(Qmm PySem.F.plainAttrs_list PySem.F.slot_list_pop PySem.F.type_list_pop QpN (pv 1) (Y8 (QgC G1 (hr.mono (by decide)) (by rfl) m1 k1 b1 .nil QAh (Y8 (pv 2) (Y8 (Qb6 QaR (by rfl) T.len QbW (Y8 (pv 1) Zv)) Zv))) Zv))⟩)) Zv)))),?_⟩
  refine⟨_,rfl,m,rfl,λr H1 s1 n1 e1=>⟨r,m,rfl,e1,by omega,by omega,λl H2 s2 n2 e2=>?_⟩⟩;have p2:=s2 _ _ (s1 _ _ hp);have nlp:l≠p:=QpJ (s1 _ _ hp) n2;have el:H2 l=some (.lst ((QbL m.toNat).map V.int)):=by
   rw[e2];unfold QbL;rw[QV];rfl
  have nHl:H l=none:=s1.free n2;refine⟨_,rfl,m,rfl,by omega,by omega,λpl hpl=>?_⟩;have npl:pl≠p:=QpJ p2 hpl;have npll:pl≠l:=QpJ el hpl;refine QeO m.toNat (λj H4=>∃(n'':Int)(fs ls:List Int),H4 p=some (.lst [.int n''])/\H4 pl=some (.lst (fs.map V.int))/\H4 l=some (.lst (ls.map V.int))/\(fs++ls).Perm (QbL m.toNat)/\fs.length=j/\KX p H H4)
   ⟨n,[],QbL m.toNat,Jt hpl _ _ p2,Jj,Jt hpl _ _ el,ZE _,rfl,KX.of ((s1.trans s2).trans (Jt hpl))⟩ (λj H4 hj ⟨n'',fs,ls,p4,f4,l4,pm,lf,x4⟩=>?_) λH4 ⟨n'',fs,ls,p4,f4,l4,pm,lf,x4⟩=>⟨by show _<=_;omega,?_⟩
  ·have hlen:=pm.length_eq;rw[Qy,QfJ] at hlen;refine⟨by show j<_;omega,λx H5 ⟨eH,ev⟩ kk hk=>?_⟩;subst eH ev;refine⟨⟨rfl,rfl,trivial⟩,QuA ?_⟩;refine⟨_,rfl,.inl ⟨rfl,_,SqL.of l4⟩,_,rfl,_,rfl,l,_,rfl,.inl (SqL.of l4),p,n'',_,rfl,p4,by rw[Qe];omega,by rw[Qe];omega,λr H6 n6 x6 p6 r0 r1=>?_⟩;rw[Qe] at r1;obtain⟨k',rfl⟩:=Qkv r0;have hk':k'<ls.length:=by omega
   have l6:=x6 _ _ nlp l4;have f6:=x6 _ _ npl f4;refine⟨l,ls.map V.int,_,k',.int (ls.getD k' 0),rfl,rfl,l6,by omega,by omega,?_,?_,?_⟩
   ·rw[Qe];exact Qff (by omega) (by omega)
   ·rw[Qo,Qd,Qc hk'];rfl
   ·refine⟨fs.map V.int,?_,?_,?_⟩
    ·rw[JM npll];exact f6
    ·rw[Qe];exact QuL (by omega)
    ·refine hk _ ⟨n6,fs++[ls.getD k' 0],ls.eraseIdx k',?_,?_,?_,?_,?_,?_⟩
     ·rw[JM npl.symm,JM nlp.symm];exact p6
     ·rw[Jj,JO];rfl
     ·rw[JM npll.symm,Jj,QhZ]
     ·rw[Qfb];exact((QfV ls k' 0 hk').append_left fs).trans pm
     ·rw[Qy,lf];rfl
     ·intro b o nb eb;rw[JM (ZI eb ((s1.trans s2).free hpl)),JM (ZI eb nHl)];exact x6 b o nb (x4 b o nb eb)
  ·have hlen:=pm.length_eq;rw[Qy,QfJ] at hlen;have els:ls=[]:=Qb3.mp (by omega);rw[els,Yj] at pm;refine⟨pl,_,rfl,.inl ⟨SqL.of f4,λt ht=>?_⟩⟩;have s5:=Jt (o:=.tup (fs.map V.int)) ht;exact k t fs _ n'' (x4.trans (KX.of s5)) (s5 _ _ p4) (QpJ p4 ht) Jj pm
end
def QuK:DF:=λargs R _=>∃(h w:Nat)(f:Nat->Nat->Bool)(h2 w2:Nat)(f2:Nat->Nat->Bool),args=[.v (bdD h w (cellsF h w f)),.v (bdD h2 w2 (cellsF h2 w2 f2))]/\1<=h/\h<=6/\1<=w/\w<=6/\1<=h2/\h2<=6/\1<=w2/\w2<=6/\R (.bool true)
theorem Qvw(h w h2 w2:Nat)(X Y:List (Int×Int)):QC (bdD h w X) (bdD h2 w2 Y)=decide (h=h2/\w=w2/\X=Y):=by
 by_cases z:h=h2/\w=w2
 ·obtain⟨rfl,rfl⟩:=z;rw[QfY];exact decide_eq_decide.mpr ⟨λe=>⟨rfl,rfl,e⟩,λe=>e.2.2⟩
 ·rw[decide_eq_false λy=>z ⟨y.1,y.2.1⟩];show(((h:Int) == (h2:Int))&&(((w:Int) == (w2:Int))&&(QC (.tuple (X.map pairD)) (.tuple (Y.map pairD))&&true)))=false;by_cases y:h=h2
  ·have:((w:Int) == (w2:Int))=false:=by
    rw[beq_eq_false_iff_ne];exact λq=>z ⟨y,by omega⟩
   rw[this,QdD,Qiv]
  ·have:((h:Int) == (h2:Int))=false:=by
    rw[beq_eq_false_iff_ne];exact λq=>y (by omega)
   rw[this,QdD]
theorem QeR{h w:Nat}{f:Nat->Nat->Bool}{o q:List Nat}(ho:o∈ordsN h h)(hq:q.Perm (Qa w))(hl:∀o' q',o'∈ordsN h h->q'.Perm (Qa w)->ltD (ldB h w f o' q') (ldB h w f o q)=false):Qop h w f o q:=⟨ho,QeL.mpr hq,λo' q' h1 h2=>hl o' q' h1 (Zh h2)⟩
theorem Qro{h w:Nat}{f:Nat->Nat->Bool}{h2 w2:Nat}{f2:Nat->Nat->Bool}{o q o2 q2:List Nat}(n1:Qop h w f o q)(n2:Qop h2 w2 f2 o2 q2):QC (ldB h w f o q) (ldB h2 w2 f2 o2 q2)=(fwD h w f h2 w2 f2).isSome:=by
 unfold ldB;rw[Qvw];unfold fwD;by_cases z:h=h2/\w=w2
 ·rw[if_pos z];obtain⟨rfl,rfl⟩:=z;cases e:fwN h w f f2 with
  |some p=>
   obtain⟨a,b,c⟩:=Qno (o:=p.1) (t:=p.2) e;exact decide_eq_true ⟨rfl,rfl,QiW ⟨_,a,_,b,c⟩ n1 n2⟩
  |none=>
   refine decide_eq_false λy=>?_
   obtain⟨a,b,c⟩:=Qsn (QxL n1 n2 y.2.2);rw[e] at c;cases c
 ·rw[if_neg z];exact decide_eq_false λy=>z ⟨y.1,y.2.1⟩
theorem Qef(f:Nat->Nat->Bool)(h w:Nat):Qk3 (cellsF h w f) h w=(cIs f h w).map Qk:=by
 unfold cIs Qk3;rw[QV];rfl
theorem QnY{h w:Nat}{f f2:Nat->Nat->Bool}{o t:List Nat}(h6:h<=6)(w6:w<=6)(ho:o∈ordsN h h)(ht:t∈ordsN w w)(e:cellsF h w (ldF f o t)=cellsF h w f2):cIs f2 h w=cIs f h w:=by
 unfold cIs;refine QH λk _=>?_
 rw[<- e];exact QyL f h6 w6 ho ht k
theorem Qrg{h w:Nat}(f:Nat->Nat->Bool)(h6:h<=6)(w6:w<=6):cIs (tF f) w h=cIs f h w:=by
 unfold cIs;rw[Nat.min_comm];exact QH λk _=>Qrq f h6 w6 k
theorem Qnz{a b:List Int}(e:a=b):QC (.list (a.map Qk)) (.list (b.map Qk))=true:=by rw[Qi6,decide_eq_true e]
theorem Qel:∀(a b:List Int),(∀k,a.getD k 0=b.getD k 0)->a.sum=b.sum
 |[],[],_=>rfl
 |[],y::b,h=>by
  have h0:(0:Int)=y:=h 0;have:=Qel [] b λk=>h (k+1)
  rw[Z4,<- this,<- h0];rfl
 |x::a,[],h=>by
  have h0:x=(0:Int):=h 0;have:=Qel a [] λk=>h (k+1)
  rw[Z4,this,h0];rfl
 |x::a,y::b,h=>by
  have h0:x=y:=h 0;rw[Z4,Z4,Qel a b λk=>h (k+1),h0]
theorem Qs5{f f2:Nat->Nat->Bool}{h w h2 w2:Nat}(h6:h<=6)(h26:h2<=6)(e:QrI (cIs f h w) (cIs f2 h2 w2) 7=none):(cIs f h w).sum=(cIs f2 h2 w2).sum:=by
 have l1:(cIs f h w).length<=7:=by unfold cIs;rw[Qe,Qh];omega
 have l2:(cIs f2 h2 w2).length<=7:=by unfold cIs;rw[Qe,Qh];omega
 refine Qel _ _ λk=>?_
 by_cases z:k<7
 ·have:=Qbj.mp e k (Qu.mpr z)
  simpa using this
 ·rw[QeV (by omega),QeV (by omega)]
section
variable{P:QB}{w:Jd}{K:PySem.W.Frag}{mg:Str->Option Value}{base:Heap}
theorem QrR:JN ["_law_one", "_law_other", "_law_told"] ["_law_one", "_law_other"] (QF lTwo):=⟨rfl,rfl,rfl,by decide +kernel,rfl,by decide +kernel,by decide +kernel⟩
theorem Qxx{f f1 f2 f3 f4 f5  : Addr}{fd fd1 fd2 fd3 fd4 fd5:Q0}(F:Fun K "_law_two_right" "_law_two_right" lTwo f fd)(T:GlbA mg)
  (m1:mg "alike" = some (.ref f1))(G1:FnOk P w K mg base CX0 4 f1 fd1 ["one", "other"] (Zq false alD))(b1:Binds K fd1 ["one", "other"] [])(k1:PySem.W.keepIn K (.ref f1)=true)
  (m2:mg "name_of" = some (.ref f2))(G2:FnOk P w K mg base CX0 3 f2 fd2 ["board"] (Zq false QpL))(b2:Binds K fd2 ["board"] [])(k2:PySem.W.keepIn K (.ref f2)=true)
  (m3:mg "is_way" = some (.ref f3))(G3:FnOk P w K mg base CX0 4 f3 fd3 ["one", "other", "thing"] (Zq false Qs3))(b3:Binds K fd3 ["one", "other", "thing"] [])(k3:PySem.W.keepIn K (.ref f3)=true)
  (m4:mg "counts" = some (.ref f4))(G4:FnOk P w K mg base CX0 3 f4 fd4 ["board"] (Zq true QgP))(b4:Binds K fd4 ["board"] [])(k4:PySem.W.keepIn K (.ref f4)=true)
  (m5:mg "turned" = some (.ref f5))(G5:FnOk P w K mg base CX0 2 f5 fd5 ["board"] (Zq false QlP))(b5:Binds K fd5 ["board"] [])(k5:PySem.W.keepIn K (.ref f5)=true) :
  FnOk P w K mg base CX0 5 f fd ["_law_one", "_law_other"] (Zq false QuK):=by
 refine okQ false F QrR (λargs R EX h=>?_) (λcdv A outer s H E hr=>?_)
 ·obtain⟨h,w,f,h2,w2,f2,rfl,_⟩:=h;rfl
 ·have hU:=Room.u60 hr;have hI:=Room.i60 hr;refine⟨_,QU (Y7 2 (JS G1 (hr.mono (by decide)) (by rfl) m1 k1 b1 JQ (Zm (qv 0) (Zm (qv 1) Jg))) QrR.nd)
   (QU (QaV (Ya Qcw (Qfo hU) (Je (Qfn Qa9 (QdP hU) (Jp (Qcv ZG YT (qp 2) (Jp J9) (λ_ _=>rfl))) (Jp Qfm) (Zz _))) (Je (Qfn Qa9 (QdP hU) (Jp (JS G2 (hr.mono (by decide)) (by rfl) m2 k2 b2 JQ (Zm (qv 0) Jg))) (Jp (JS G2 (hr.mono (by decide)) (by rfl) m2 k2 b2 JQ (Zm (qv 1) Jg))) (Zz _))) (Zz _)) (Q7 (YL Qlm)) ZX)
   (QU (QaV (Ya Qa9 (QdP hU) (Jp (Qcv ZG YT (qp 2) (Jp J9) (λ_ _=>rfl))) (Jp Qfm) (Zz _)) (Q7 (YL (Qo2 (Je (Qfn Qsb QxI (Jp (JS G3 (hr.mono (by decide)) (by rfl) m3 k3 b3 JQ (Zm (qv 0) (Zm (qv 1) (Zm (Qcv ZG YT (qp 2) (Jp J9) (λ_ _=>rfl)) Jg))))) (Jp Qlm) (Zz _))) (Qo0 (Z2 (Qfn Qa9 (QdP hU) (Je (ZC G4 (hr.mono (by decide)) (by rfl) m4 k4 b4 JQ (Zm (qv 0) Jg))) (Je (ZC G4 (hr.mono (by decide)) (by rfl) m4 k4 b4 JQ (Zm (qv 1) Jg))) (Zz _))))))) ZX)
   (QU (QaV (Ya Qa9 (QdP hU) (Jp (Qcv ZG YT (qp 2) (Jp J9) (λ_ _=>rfl))) (Jp Qfm) (Zz _)) (Q7 (YL (Qo2 (Je (Qfn Qsb QxI (Jp (JS G3 (hr.mono (by decide)) (by rfl) m3 k3 b3 JQ (Zm (JS G5 (hr.mono (by decide)) (by rfl) m5 k5 b5 JQ (Zm (qv 0) Jg)) (Zm (qv 1) (Zm (Qcv ZG YT (qp 2) (Jp J9) (λ_ _=>rfl)) Jg))))) (Jp Qlm) (Zz _))) (Qo0 (Z2 (Qfn Qa9 (QdP hU) (Je (ZC G4 (hr.mono (by decide)) (by rfl) m4 k4 b4 JQ (Zm (qv 0) Jg))) (Je (ZC G4 (hr.mono (by decide)) (by rfl) m4 k4 b4 JQ (Zm (qv 1) Jg))) (Zz _))))))) ZX)
   (QU (QaV (Ya Qa9 (QdP hU) (Jp (Qcv ZG YT (qp 2) (Jp J9) (λ_ _=>rfl))) (Jp Qfm) (Zz _)) (Q7 (Yc (Qfn Qa9 (QdP hU) (Je (Z8 (Qh9 rfl) Qsy (by rfl) T.sum QsA (QcE (Je (ZC G4 (hr.mono (by decide)) (by rfl) m4 k4 b4 JQ (Zm (qv 0) Jg))) JB))) (Je (Z8 (Qh9 rfl) Qsy (by rfl) T.sum QsA (QcE (Je (ZC G4 (hr.mono (by decide)) (by rfl) m4 k4 b4 JQ (Zm (qv 1) Jg))) JB))) (Zz _)))) ZX)
   (Q7 (Yc (Qfn Qcw (Qfo hU) (Jp (Qcv ZG YT (qp 2) (Jp J9) (λ_ _=>rfl))) (Jp (Qcv ZG YT (qp 2) (Jp J9) (λ_ _=>rfl))) (Zz _)))))))),λargs R EX h=>?_⟩
  obtain⟨h,w,f,h2,w2,f2,rfl,h1,h6,w1,w6,h21,h26,w21,w26,hR⟩:=h;refine⟨h,w,f,h2,w2,f2,rfl,h6,w6,h26,w26,?_⟩;unfold alV;cases e:fwD h w f h2 w2 f2 with
  |some p=>
   refine⟨_,JG (j:=0) rfl,h,w,f,rfl,h6,w6,λo1 q1 ho1 pq1 hl1=>⟨h2,w2,f2,rfl,h26,w26,λo2 q2 ho2 pq2 hl2=>⟨⟨Qdf _ _ _,Qdf _ _ _,.inl (QJ (Qdq _ _ _) (by decide))⟩,?_⟩⟩⟩;have en:=Qro (QeR ho1 pq1 hl1) (QeR ho2 pq2 hl2);rw[e] at en;refine ifF (show(!decide (decide (Zf "alike" = Zf "alike")=QC (ldB h w f o1 q1) (ldB h2 w2 f2 o2 q2)))=false by rw[en];simp) ?_
   unfold fwD at e;split at e
   ·rename_i z
    obtain⟨rfl,rfl⟩:=z;obtain⟨ho,ht,ec⟩:=Qno (o:=p.1) (t:=p.2) e;refine⟨_,JG (j:=0) rfl,_,JG (j:=1) rfl,h,w,f,p.1,p.2,?_,h6,w6,ho,ht,?_⟩
    ·show[Sl.v (bdD h w (cellsF h w f)),.v (bdD h w (cellsF h w f2)),.v (.tuple [tNn p.1,tNn p.2])]=_;rw[<- ec];rfl
    ·refine⟨h,w,_,rfl,h6,w6,λp hp=>(YU hp).2.2,h,w,_,rfl,h6,w6,λp hp=>(YU hp).2.2,⟨by rw[Qef];exact Y9 _,by rw[Qef];exact Y9 _,.inl (by rw[Qef];exact Qcd _)⟩,?_⟩;show R (.bool (QC (.list (Qk3 (cellsF h w f) h w)) (.list (Qk3 (cellsF h w f2) h w))));rw[Qef,Qef,Qnz (QnY h6 w6 ho ht ec).symm];exact hR
   ·cases e
  |none=>
   cases e2:fwD w h (tF f) h2 w2 f2 with
   |some p=>
    refine⟨_,JG (j:=0) rfl,h,w,f,rfl,h6,w6,λo1 q1 ho1 pq1 hl1=>⟨h2,w2,f2,rfl,h26,w26,λo2 q2 ho2 pq2 hl2=>⟨⟨Qdf _ _ _,Qdf _ _ _,.inl (QJ (Qdq _ _ _) (by decide))⟩,?_⟩⟩⟩;have en:=Qro (QeR ho1 pq1 hl1) (QeR ho2 pq2 hl2);rw[e] at en;refine ifF (show(!decide (decide (Zf "turned" = Zf "alike")=QC (ldB h w f o1 q1) (ldB h2 w2 f2 o2 q2)))=false by rw[en];decide) ?_
    unfold fwD at e2;split at e2
    ·rename_i z
     obtain⟨rfl,rfl⟩:=z;obtain⟨ho,ht,ec⟩:=Qno (o:=p.1) (t:=p.2) e2;refine⟨_,JG (j:=0) rfl,_,JG (j:=0) rfl,h,w,f,rfl,h6,w6,_,JG (j:=1) rfl,w,h,tF f,p.1,p.2,?_,w6,h6,ho,ht,?_⟩
     ·show[Sl.v (bdD w h (cellsF w h (tF f))),.v (bdD w h (cellsF w h f2)),.v (.tuple [tNn p.1,tNn p.2])]=_;rw[<- ec];rfl
     ·refine⟨h,w,_,rfl,h6,w6,λp hp=>(YU hp).2.2,w,h,_,rfl,w6,h6,λp hp=>(YU hp).2.2,⟨by rw[Qef];exact Y9 _,by rw[Qef];exact Y9 _,.inl (by rw[Qef];exact Qcd _)⟩,?_⟩;show R (.bool (QC (.list (Qk3 (cellsF h w f) h w)) (.list (Qk3 (cellsF w h f2) w h))));rw[Qef,Qef,Qnz ((QnY w6 h6 ho ht ec).trans (Qrg f h6 w6)).symm];exact hR
    ·cases e2
   |none=>
    cases eu:QrI (cIs f h w) (cIs f2 h2 w2) 7 with
    |some k=>
     refine⟨_,JG (j:=0) rfl,h,w,f,rfl,h6,w6,λo1 q1 ho1 pq1 hl1=>⟨h2,w2,f2,rfl,h26,w26,λo2 q2 ho2 pq2 hl2=>⟨⟨Qdf _ _ _,Qdf _ _ _,.inl (QJ (Qdq _ _ _) (by decide))⟩,?_⟩⟩⟩;have en:=Qro (QeR ho1 pq1 hl1) (QeR ho2 pq2 hl2);rw[e] at en;refine ifF (show(!decide (decide (Zf "counts" = Zf "alike")=QC (ldB h w f o1 q1) (ldB h2 w2 f2 o2 q2)))=false by rw[en];decide) ?_
     have nk:=Qhe eu;refine⟨_,JG (j:=0) rfl,_,JG (j:=0) rfl,_,JG (j:=0) rfl,_,JG (j:=2) rfl,_,JG (j:=3) rfl,?_⟩;show R (.bool (!decide ((cIs f h w).getD k 0=(cIs f2 h2 w2).getD k 0)));rw[nk];exact hR
    |none=>
     refine⟨_,JG (j:=0) rfl,h,w,f,rfl,h6,w6,λo1 q1 ho1 pq1 hl1=>⟨h2,w2,f2,rfl,h26,w26,λo2 q2 ho2 pq2 hl2=>⟨⟨Qdf _ _ _,Qdf _ _ _,.inl (QJ (Qdq _ _ _) (by decide))⟩,?_⟩⟩⟩;have en:=Qro (QeR ho1 pq1 hl1) (QeR ho2 pq2 hl2);rw[e] at en;refine ifF (show(!decide (decide (Zf "none" = Zf "alike")=QC (ldB h w f o1 q1) (ldB h2 w2 f2 o2 q2)))=false by rw[en];decide) ?_
     refine⟨_,JG (j:=0) rfl,_,JG (j:=0) rfl,_,JG (j:=0) rfl,h,w,_,rfl,h6,w6,λp hp=>(YU hp).2.2,QlU (cIs f h w) (by rw[Qef]) ⟨h2,w2,_,rfl,h26,w26,λp hp=>(YU hp).2.2,QlU (cIs f2 h2 w2) (by rw[Qef]) ?_⟩⟩;show R (.bool (decide ((cIs f h w).sum=(cIs f2 h2 w2).sum)));rw[decide_eq_true (Qs5 h6 h26 eu)];exact hR
end
theorem QmA{n:Nat}{o:List Int}(p:o.Perm (QbL n)):∃rs∈ordsN n n,tN o=tNn rs:=by
 have h0:∀x∈o,0<=x:=λx hx=>by
  obtain⟨i,_,rfl⟩:=QQ.mp (p.mem_iff.mp hx);omega
 refine⟨o.map QlC,QeL.mpr ?_,?_⟩
 ·have:=p.map QlC;have e:(QbL n).map QlC=Qa n:=by
   unfold QbL;rw[QV]
   conv=>rhs;rw[<- Qb2 (Qa n)]
   exact QH λi _=>Qv i
  rwa [e] at this
 ·show Zk (o.map Qk)=.tuple (YW (o.map QlC));unfold YW;rw[QV];refine congrArg _ (QH λx hx=>?_);show Qk x=.int ((x.toNat:Nat):Int);rw[Int.toNat_of_nonneg (h0 x hx)]
theorem QvB{h w:Nat}(f:Nat->Nat->Bool){rs ms:List Nat}(hr:rs∈ordsN h h)(hm:ms∈ordsN w w):(∃d ds,alV h w f w h (tF (ldF f rs ms))=.tuple (d::ds)/\(d=.str "alike" ∨ d=.str "turned")):=by
 unfold alV;cases e:fwD h w f w h (tF (ldF f rs ms)) with
 |some p=>exact⟨_,_,rfl,.inl rfl⟩
 |none=>
  obtain⟨o,t,e2⟩:=Qsn (h:=w) (w:=h) (f:=tF f) (f2:=tF (ldF f rs ms)) ⟨ms,hm,rs,hr,rfl⟩;have e3:fwD w h (tF f) w h (tF (ldF f rs ms))=some (o,t):=by unfold fwD;rw[if_pos ⟨rfl,rfl⟩,e2]
  rw[e3];exact⟨_,_,rfl,.inr rfl⟩
theorem QAr{h w:Nat}{f:Nat->Nat->Bool}{o q:List Nat}(n:Qop h w f o q):ltD (bdD h w (cellsF h w f)) (ldB h w f o q)=false:=by
 have:=n.2.2 _ _ (QbR h) (QbR w);unfold ldB at this ⊢
 rwa [QxV] at this
section
variable{P:QB}{w:Jd}{K:PySem.W.Frag}{mg:Str->Option Value}{base:Heap}
theorem Qd3:JN ["_law_script", "_law_at", "_law_pot_here", "_law_most", "_law_high", "_law_wide", "_law_board_here", "_law_other", "_law_name"] ["_law_script"] (QF sLaw):=⟨rfl,rfl,rfl,by decide +kernel,rfl,by decide +kernel,by decide +kernel⟩
theorem QxD{f f1 f2 f3 f4 f5 f6 f7 f8 f9 f10 f11 f12  : Addr}{fd fd1 fd2 fd3 fd4 fd5 fd6 fd7 fd8 fd9 fd10 fd11 fd12:Q0}(F:Fun K "law" "law" sLaw f fd)(T:GlbA mg)
  (m1:mg "_law_cell_at" = some (.ref f1))(G1:FnOk P w K mg base CX0 1 f1 fd1 ["_law_script", "_law_k"] (Qc5 K))(b1:Binds K fd1 ["_law_script", "_law_k"] [])(k1:PySem.W.keepIn K (.ref f1)=true)
  (m2:mg "_law_pot" = some (.ref f2))(G2:FnOk P w K mg base CX0 1 f2 fd2 ["_law_cell"] (Zq true Qz7))(b2:Binds K fd2 ["_law_cell"] [])(k2:PySem.W.keepIn K (.ref f2)=true)
  (m3:mg "_law_take" = some (.ref f3))(G3:FnOk P w K mg base CX0 1 f3 fd3 ["_law_pot_here", "_law_far"] (Zq true QoG))(b3:Binds K fd3 ["_law_pot_here", "_law_far"] [])(k3:PySem.W.keepIn K (.ref f3)=true)
  (m4:mg "_law_board" = some (.ref f4))(G4:FnOk P w K mg base CX0 2 f4 fd4 ["_law_pot_here", "_law_high", "_law_wide"] (Zq false QAw))(b4:Binds K fd4 ["_law_pot_here", "_law_high", "_law_wide"] [])(k4:PySem.W.keepIn K (.ref f4)=true)
  (m5:mg "led" = some (.ref f5))(G5:FnOk P w K mg base CX0 4 f5 fd5 ["board", "rows", "columns"] (Zq false QcG))(b5:Binds K fd5 ["board", "rows", "columns"] [])(k5:PySem.W.keepIn K (.ref f5)=true)
  (m6:mg "_law_order" = some (.ref f6))(G6:FnOk P w K mg base CX0 2 f6 fd6 ["_law_pot_here", "_law_many"] (Zq false Qi1))(b6:Binds K fd6 ["_law_pot_here", "_law_many"] [])(k6:PySem.W.keepIn K (.ref f6)=true)
  (m7:mg "name_of" = some (.ref f7))(G7:FnOk P w K mg base CX0 3 f7 fd7 ["board"] (Zq false QpL))(b7:Binds K fd7 ["board"] [])(k7:PySem.W.keepIn K (.ref f7)=true)
  (m8:mg "own_ways" = some (.ref f8))(G8:FnOk P w K mg base CX0 3 f8 fd8 ["board"] (Zq false QAi))(b8:Binds K fd8 ["board"] [])(k8:PySem.W.keepIn K (.ref f8)=true)
  (m9:mg "_law_two_right" = some (.ref f9))(G9:FnOk P w K mg base CX0 5 f9 fd9 ["_law_one", "_law_other"] (Zq false QuK))(b9:Binds K fd9 ["_law_one", "_law_other"] [])(k9:PySem.W.keepIn K (.ref f9)=true)
  (m10:mg "alike" = some (.ref f10))(G10:FnOk P w K mg base CX0 4 f10 fd10 ["one", "other"] (Zq false alD))(b10:Binds K fd10 ["one", "other"] [])(k10:PySem.W.keepIn K (.ref f10)=true)
  (m11:mg "turned" = some (.ref f11))(G11:FnOk P w K mg base CX0 2 f11 fd11 ["board"] (Zq false QlP))(b11:Binds K fd11 ["board"] [])(k11:PySem.W.keepIn K (.ref f11)=true)
  (m12:mg "rest" = some (.ref f12))(G12:FnOk P w K mg base CX0 1 f12 fd12 ["board"] (Zq false Ql6))(b12:Binds K fd12 ["board"] [])(k12:PySem.W.keepIn K (.ref f12)=true) :
  FnOk P w K mg base CX0 6 f fd ["_law_script"] (QfB K):=by
 refine QB4 F Qd3 (λcdv A outer s H E hr=>?_);have hU:=Room.u60 hr;have hI:=Room.i60 hr;refine⟨_,QU (Qbx JR rfl (Qaq (by rfl) T.range (Je (Z8 (Qic rfl) QnU (by rfl) T.max QsB (QcE (Jp J9) (QcE (Je (Z8 (Qib rfl) QnT (by rfl) T.min QnZ (QcE (Je (QwK 0 (by rfl) T.len)) (QcE (Jp J9) JB)))) JB))))) (ZR 1 Qd3.nd rfl (by first | exact Q6 rfl | exact Q4 rfl))
    (QU (Qtu 2 (ZC G2 (hr.mono (by decide)) (by rfl) m2 k2 b2 JQ (Zm (Z2 (QwL 0 G1 (hr.mono (by decide)) (by rfl) m1 k1 b1 (qp 1))) Jg)) Qd3.nd)
   (QU (Y7 3 (Qcv ZG YT (Je (Qgy (Qad J9 (Qad J9 (Qad J9 JB))))) (Je (ZC G3 (hr.mono (by decide)) (by rfl) m3 k3 b3 JQ (Qc9 2 (Zm J9 Jg)))) (λ_ _=>rfl)) Qd3.nd)
   (QU (QwF 4 5 (Qad (Z2 (QaE QcI QeN (Jp J9) (Je (ZC G3 (hr.mono (by decide)) (by rfl) m3 k3 b3 JQ (Qc9 2 (Zm (qv 3) Jg)))))) (Qad (Z2 (QaE QcI QeN (Jp J9) (Je (ZC G3 (hr.mono (by decide)) (by rfl) m3 k3 b3 JQ (Qc9 2 (Zm (Qcv ZG YT (Je (Qgy (Qad J9 (Qad J9 JB)))) (Je (QaE QeM Qde (qp 3) (Jp J9))) (λ_ _=>rfl)) Jg)))))) JB)) Qd3.nd)
   (QU (Y7 6 (JS G4 (hr.mono (by decide)) (by rfl) m4 k4 b4 JQ (Qc9 2 (Zm (qv 4) (Zm (qv 5) Jg)))) Qd3.nd)
   (QU (Y7 7 (JS G5 (hr.mono (by decide)) (by rfl) m5 k5 b5 JQ (Zm (qv 6) (Zm (JS G6 (hr.mono (by decide)) (by rfl) m6 k6 b6 JQ (Qc9 2 (Zm (qv 4) Jg))) (Zm (JS G6 (hr.mono (by decide)) (by rfl) m6 k6 b6 JQ (Qc9 2 (Zm (qv 5) Jg))) Jg)))) Qd3.nd)
   (QU (Y7 8 (JS G7 (hr.mono (by decide)) (by rfl) m7 k7 b7 JQ (Zm (qv 6) Jg)) Qd3.nd)
   (QU (QaV (Qr0 (Qgr (Ya Qcw (Qfo hU) (Jp (JS G7 (hr.mono (by decide)) (by rfl) m7 k7 b7 JQ (Zm (qv 7) Jg))) (qp 8) (Zz _)) (Qgr (Ya Qcw (Qfo hU) (Jp (JS G8 (hr.mono (by decide)) (by rfl) m8 k8 b8 JQ (Zm (qv 7) Jg))) (Jp (JS G8 (hr.mono (by decide)) (by rfl) m8 k8 b8 JQ (Zm (qv 6) Jg))) (Zz _)) (Qgr (Ya Qcw (Qfo hU) (Jp (JS G7 (hr.mono (by decide)) (by rfl) m7 k7 b7 JQ (Zm (qv 8) Jg))) (qp 8) (Zz _)) (QeH (Ya (Qxs hU) QxJ (qp 8) (qp 6) (Zz _))))))) (Q7 (YL Qlm)) ZX)
   (QU (QaV (Qr0 (Qgr (Qa4 (QbN (Jp (JS G9 (hr.mono (by decide)) (by rfl) m9 k9 b9 JQ (Zm (qv 6) (Zm (qv 7) Jg)))))) (QeH (Qa4 (QbN (Jp (JS G9 (hr.mono (by decide)) (by rfl) m9 k9 b9 JQ (Zm (qv 6) (Zm (qv 8) Jg))))))))) (Q7 (YL Qlm)) ZX)
   (QU (QaV (Qr0 (Qgr (Ya Qdd (QmS hI) (Jp (Qcv ZG YT (Jp (JS G10 (hr.mono (by decide)) (by rfl) m10 k10 b10 JQ (Zm (qv 6) (Zm (JS G11 (hr.mono (by decide)) (by rfl) m11 k11 b11 JQ (Zm (qv 7) Jg)) Jg)))) (Jp J9) (λ_ _=>rfl))) (Je (Qa7 (Qad Qfm (Qad Qfm JB)))) (by rfl)) (QeH (Ya Qcw (Qfo hU) (Jp (JS G8 (hr.mono (by decide)) (by rfl) m8 k8 b8 JQ (Zm (JS G12 (hr.mono (by decide)) (by rfl) m12 k12 b12 JQ (Zm (qv 6) Jg)) Jg))) (Jp (JS G8 (hr.mono (by decide)) (by rfl) m8 k8 b8 JQ (Zm (qv 6) Jg))) (Zz _))))) (Q7 (YL Qlm)) ZX)
   (Q7 (QaV (Qr0 (Qgr (Qa4 (QbN (Jp (JS G9 (hr.mono (by decide)) (by rfl) m9 k9 b9 JQ (Zm (qv 6) (Zm (JS G11 (hr.mono (by decide)) (by rfl) m11 k11 b11 JQ (Zm (qv 7) Jg)) Jg)))))) (QeH (Qa4 (QbN (Jp (JS G9 (hr.mono (by decide)) (by rfl) m9 k9 b9 JQ (Zm (qv 6) (Zm (JS G4 (hr.mono (by decide)) (by rfl) m4 k4 b4 JQ (Qc9 2 (Zm (qv 4) (Zm (qv 5) Jg)))) Jg))))))))) (Q7 (YL Qlm)) ZX))))))))))))
   (Q7 (YL Qlm)),?_⟩
 intro n0 n63;refine⟨⟨by split<;>split<;>omega,by split<;>split<;>omega⟩,QeW (λi δ=>∃x1 x2 x3 x4 x5 x6 x7 x8,δ=[.scr,x1,x2,x3,x4,x5,x6,x7,x8]) ⟨_,_,_,_,_,_,_,_,rfl⟩ ?_ ?_⟩
 ·rintro i δ hi ⟨x1,x2,x3,x4,x5,x6,x7,x8,rfl⟩;refine⟨by omega,λc=>⟨c,rfl,λn1=>?_⟩⟩;refine⟨_,rfl,by decide,by decide,λa a0 a1=>Qx2 a0 a1 λd hd=>?_⟩;obtain⟨m,rfl,m5⟩:=Qe6 (p:=λd=>∃m:Int,d=.int m/\(m=5∨m=6)) ⟨5,rfl,.inl rfl⟩ (Qe6 ⟨5,rfl,.inl rfl⟩ (Qe6 ⟨6,rfl,.inr rfl⟩ QsG)) d hd;refine⟨_,rfl,by omega,by omega,λb b0 b1=>?_⟩;refine Qx2 (i:=m - 5) (by omega) (by show m - 5<2;omega) λd hd=>?_
  obtain⟨v,rfl,v5⟩:=Qe6 (p:=λd=>∃m:Int,d=.int m/\(m=5∨m=3)) ⟨5,rfl,.inl rfl⟩ (Qe6 ⟨3,rfl,.inr rfl⟩ QsG) d hd;refine⟨_,rfl,by omega,by omega,λc c0 c1=>?_⟩;obtain⟨h,hh⟩:∃x:Nat,1+b=(x:Int):=⟨(1+b).toNat,by omega⟩
  obtain⟨w,hw⟩:∃y:Nat,1+c=(y:Int):=⟨(1+c).toNat,by omega⟩
  refine⟨h,w,by rw[<- hh,<- hw],by omega,by omega,λf=>?_⟩;have h1:1<=h:=by omega
  have w1:1<=w:=by omega
  have h6:h<=6:=by omega
  have w6:w<=6:=by omega
  refine⟨1+b,rfl,by omega,by omega,λo po=>⟨1+c,rfl,by omega,by omega,λq pq=>?_⟩⟩;obtain⟨rs,hr,er⟩:=QmA (n:=h) (o:=o) (by rw[show h=(1+b).toNat by omega];exact po);obtain⟨ms,hm,em⟩:=QmA (n:=w) (o:=q) (by rw[show w=(1+c).toNat by omega];exact pq);rw[er,em];refine⟨h,w,f,rs,ms,rfl,h6,w6,hr,hm,?_⟩;refine⟨h,w,f,rfl,h6,w6,λo1 q1 ho1 pq1 hl1=>?_⟩;have n1:=QeR ho1 pq1 hl1;have ld1:QdX h w f (ldF f rs ms):=⟨rs,hr,ms,hm,rfl⟩;have ld2:QdX h w f (ldF f o1 q1):=⟨o1,n1.1,q1,n1.2.1,rfl⟩;refine⟨h,w,ldF f rs ms,rfl,h6,w6,λo2 q2 ho2 pq2 hl2=>?_⟩;have n2:=QeR ho2 pq2 hl2;refine⟨⟨Qdf _ _ _,Qdf _ _ _,.inl (QJ (Qdq _ _ _) (by decide))⟩,?_⟩;refine ifF (show(!QC (ldB h w (ldF f rs ms) o2 q2) (ldB h w f o1 q1))=false by unfold ldB;rw[QfY,decide_eq_true (QiW ld1 n1 n2).symm];rfl) ?_
  refine⟨h,w,ldF f rs ms,rfl,h6,w6,h,w,f,rfl,h6,w6,ifF (show(!decide (((ownN h w (ldF f rs ms):Nat):Int)=((ownN h w f:Nat):Int)))=false by rw[Que ld1];simp) ?_⟩;refine⟨h,w,ldF f o1 q1,rfl,h6,w6,λo3 q3 ho3 pq3 hl3=>⟨⟨Qdf _ _ _,Qdf _ _ _,.inl (QJ (Qdq _ _ _) (by decide))⟩,?_⟩⟩;refine ifF (show(!QC (ldB h w (ldF f o1 q1) o3 q3) (ldB h w f o1 q1))=false by unfold ldB;rw[QfY,decide_eq_true (QiW ld2 n1 (QeR ho3 pq3 hl3)).symm];rfl) ?_
  have so:Qbs [ldB h w f o1 q1,bdD h w (cellsF h w f)]:=Qjy (h:=h) (w:=w) λd hd=>by
   rcases Qz.mp hd with rfl | hd
   ·exact⟨_,rfl⟩
   ·rw[Ji.mp hd];exact⟨_,rfl⟩
  have so1:=so.1 _ (.head _) _ (.tail _ (.head _));refine⟨⟨QgS _ (so.1 _ (.head _) _ (.head _)),QgS _ (so.1 _ (.tail _ (.head _)) _ (.tail _ (.head _))),so1,QJ (Qdq _ _ _) (by decide)⟩,?_⟩;refine ifF (QAr n1) ?_
  refine⟨h,w,f,h,w,ldF f rs ms,rfl,h1,h6,w1,w6,h1,h6,w1,w6,?_⟩;refine⟨h,w,f,h,w,ldF f o1 q1,rfl,h1,h6,w1,w6,h1,h6,w1,w6,?_⟩;refine⟨h,w,ldF f rs ms,rfl,h6,w6,h,w,f,w,h,tF (ldF f rs ms),rfl,h6,w6,w6,h6,?_⟩;obtain⟨d,ds,ed,d2⟩:=QvB f hr hm;rw[ed];have go:∀D:Qb,(D=.str "alike" ∨ D=.str "turned")->nd D=true/\D.depth<=50/\([Qzt "alike",.str "turned"].any λe=>QC e D)=true:=λD hD=>by
   rcases hD with rfl | rfl
   ·exact⟨rfl,by unfold Jw;decide,rfl⟩
   ·exact⟨rfl,by unfold Jw;decide,rfl⟩
  obtain⟨g1,g2,g3⟩:=go d d2;refine⟨_,JG (j:=0) rfl,⟨rfl,g1,g2⟩,ifF (show(!([Qzt "alike",.str "turned"].any λe=>QC e d))=false by rw[g3];rfl) ?_⟩;refine⟨h,w,f,rfl,h6,w6,h,w,QjU f,rfl,h6,w6,h,w,f,rfl,h6,w6,ifF (show(!decide (((ownN h w (QjU f):Nat):Int)=((ownN h w f:Nat):Int)))=false by rw[show ownN h w (QjU f)=ownN h w f from Qpy h w f];simp) ?_⟩;refine⟨h,w,ldF f rs ms,rfl,h6,w6,h,w,f,w,h,tF (ldF f rs ms),rfl,h1,h6,w1,w6,w1,w6,h1,h6,?_⟩;refine⟨h,w,by rw[<- hh,<- hw],h6,w6,λf2=>⟨h,w,f,h,w,f2,rfl,h1,h6,w1,w6,h1,h6,w1,w6,?_⟩⟩;exact⟨_,_,_,_,_,_,_,_,rfl⟩
 ·rintro δ ⟨x1,x2,x3,x4,x5,x6,x7,x8,rfl⟩;rfl
end
end Rk
def PySem.W.Fast.tw13569400744559669794:Nat:=0
def PySem.W.Fast.tw9285877450394270398:Nat:=0
def PySem.W.Fast.tw1486755514432902663:Nat:=0
def PySem.W.Fast.tw15510988698224820922:Nat:=0
def PySem.W.Fast.tw16124807683356912632:Nat:=0
def PySem.W.Fast.tw7531119821002416907:Nat:=0
def PySem.W.Fast.tw12219855973051132100:Nat:=0
def PySem.W.Fast.tw17154695293236976178:Nat:=0
def PySem.W.Fast.tw17082814182738365998:Nat:=0
def PySem.W.Fast.tw3374646543026337602:Nat:=0
def PySem.W.Fast.tw6794403700454145401:Nat:=0
def PySem.W.Fast.tw4085430269701814219:Nat:=0
def PySem.W.Fast.tw13467432765889176050:Nat:=0
def PySem.W.Fast.tw11930800369683099349:Nat:=0
def PySem.W.Fast.tw11396309753051887715:Nat:=0
def PySem.W.Fast.tw7291243767917310027:Nat:=0
def PySem.W.Fast.tw6018314088273441484:Nat:=0
def PySem.W.Fast.tw6338232231420948708:Nat:=0
def PySem.W.Fast.tw2448073925868448680:Nat:=0
def PySem.W.Fast.tw14257630858154303720:Nat:=0
def PySem.W.Fast.tw5495102981746803656:Nat:=0
def PySem.W.Fast.tw7434423294296592922:Nat:=0
def PySem.W.Fast.tw2160087358530507172:Nat:=0
def PySem.W.Fast.tw18431996532917851988:Nat:=0
def PySem.W.Fast.tw8422233538713968837:Nat:=0
def PySem.W.Fast.tw8873779471838683078:Nat:=0
def PySem.W.Fast.tw13335278847891605082:Nat:=0
def PySem.W.Fast.tw5396932508922769145:Nat:=0
def PySem.W.Fast.tw9163845783145487280:Nat:=0
def PySem.W.Fast.tw9427557448100811178:Nat:=0
def PySem.W.Fast.tw9954462715662517141:Nat:=0
def PySem.W.Fast.tw6397092405614251361:Nat:=0
def PySem.W.Fast.tw14484140264701859614:Nat:=0
def PySem.W.Fast.tw17558011028147208995:Nat:=0
def PySem.W.Fast.tw14496325925391341995:Nat:=0
def PySem.W.Fast.tw7956740749561940382:Nat:=0
def PySem.W.Fast.tw2280199184916062997:Nat:=0
def PySem.W.Fast.tw16889431644259350875:Nat:=0
def PySem.W.Fast.tw1139050871971449188:Nat:=0
def PySem.W.Fast.tw12724711801285864608:Nat:=0
def PySem.W.Fast.tw14750956376189683793:Nat:=0
def PySem.W.Fast.tw3725001595954842241:Nat:=0
def PySem.W.Fast.tw12837736060632069093:Nat:=0
def PySem.W.Fast.tw7090656825593497838:Nat:=0
def PySem.W.Fast.tw6480104046500345943:Nat:=0
def PySem.W.Fast.tw2792288212169417484:Nat:=0
def PySem.W.Fast.tw8776645235541631280:Nat:=0
def PySem.W.Fast.tw13202822463185363977:Nat:=0
def PySem.W.Fast.tw9760716617586486869:Nat:=0
def PySem.W.Fast.tw767466240752787631:Nat:=0
def PySem.W.Fast.tw1133235095574085773:Nat:=0
def PySem.W.Fast.tw14713649761372323537:Nat:=0
def PySem.W.Fast.tw13652079178825951995:Nat:=0
def PySem.W.Fast.tw5514572888265567904:Nat:=0
def PySem.W.Fast.tw11952405773493482439:Nat:=0
def PySem.W.Fast.tw4390680266689907896:Nat:=0
def PySem.W.Fast.tw2005900447963136800:Nat:=0
def PySem.W.Fast.tw2046765872469233830:Nat:=0
def PySem.W.Fast.tw2917796624829636759:Nat:=0
def PySem.W.Fast.tw6822408515657800876:Nat:=0
def PySem.W.Fast.tw3107766844192449458:Nat:=0
def PySem.W.Fast.tw14246947544685340347:Nat:=0
def PySem.W.Fast.tw1559521180850345992:Nat:=0
def PySem.W.Fast.tw9277910830580876957:Nat:=0
def PySem.W.Fast.tw3856499987793547762:Nat:=0
def PySem.W.Fast.tw16807680430721337221:Nat:=0
def PySem.W.Fast.tw5977041185697434702:Nat:=0
def PySem.W.Fast.tw318580954488345855:Nat:=0
def PySem.W.Fast.tw14536428372465547341:Nat:=0
def PySem.W.Fast.tw1929538413616108380:Nat:=0
def PySem.W.Fast.tw3491926386133978430:Nat:=0
def PySem.W.Fast.tw17649251937414247264:Nat:=0
def PySem.W.Fast.tw15188113240371763613:Nat:=0
def PySem.W.Fast.tw15249214936319217149:Nat:=0
def PySem.W.Fast.tw5916995304990850282:Nat:=0
def PySem.W.Fast.tw14836823728640114882:Nat:=0
def PySem.W.Fast.tw15610475165726656463:Nat:=0
def PySem.W.Fast.tw14450699324149718006:Nat:=0
def PySem.W.Fast.tw3206591814952692628:Nat:=0
def PySem.W.Fast.tw5218972274225372270:Nat:=0
def PySem.W.Fast.tw10782485279867431066:Nat:=0
def PySem.W.Fast.tw4949907302761284049:Nat:=0
def PySem.W.Fast.tw11420381734956046743:Nat:=0
def PySem.W.Fast.tw886745777218419131:Nat:=0
def PySem.W.Fast.tw1522300286890996327:Nat:=0
def PySem.W.Fast.tw1486607705138943265:Nat:=0
def PySem.W.Fast.tw16008971700460585227:Nat:=0
def PySem.W.Fast.tw1469300415549776100:Nat:=0
def PySem.W.Fast.tw7921327671560936569:Nat:=0
def PySem.W.Fast.tw16870076051556622678:Nat:=0
def PySem.W.Fast.tw3361462943650728503:Nat:=0
def PySem.W.Fast.tw11791001794934824503:Nat:=0
def PySem.W.Fast.tw1522195387791068558:Nat:=0
def PySem.W.Fast.tw11076885185452079500:Nat:=0
def PySem.W.Fast.tw6786814577516775023:Nat:=0
def PySem.W.Fast.tw3316167485372680250:Nat:=0
def PySem.W.Fast.tw5033461768942622908:Nat:=0
def PySem.W.Fast.tw9227965585565888607:Nat:=0
def PySem.W.Fast.tw164310612416925323:Nat:=0
def PySem.W.Fast.tw11295131469868986756:Nat:=0
def PySem.W.Fast.tw17358820422302652935:Nat:=0
def PySem.W.Fast.tw13145883989712202423:Nat:=0
def PySem.W.Fast.tw95273093843774903:Nat:=0
def PySem.W.Fast.tw16229238721509509006:Nat:=0
def PySem.W.Fast.tw16986639175647360926:Nat:=0
def PySem.W.Fast.tw7140260907006334582:Nat:=0
def PySem.W.Fast.tw3374166030154578579:Nat:=0
def PySem.W.Fast.tw14056409354575244521:Nat:=0
def PySem.W.Fast.tw1580513176420866828:Nat:=0
def PySem.W.Fast.tw4571864832948891180:Nat:=0
def PySem.W.Fast.tw234989641597959285:Nat:=0
def PySem.W.Fast.tw13092697731640159229:Nat:=0
def PySem.W.Fast.tw12678650996198900793:Nat:=0
def PySem.W.Fast.tw12617330296363683468:Nat:=0
def PySem.W.Fast.tw8983594446234527730:Nat:=0
def PySem.W.Fast.tw1805500048888324841:Nat:=0
def PySem.W.Fast.tw15382919101052586400:Nat:=0
def PySem.W.Fast.tw6545545794717050680:Nat:=0
def PySem.W.Fast.tw9118037875338437335:Nat:=0
def PySem.W.Fast.tw18156066150389449551:Nat:=0
def PySem.W.Fast.tw6954424839485054901:Nat:=0
def PySem.W.Fast.tw4313850968382850117:Nat:=0
def PySem.W.Fast.tw17687814713603311058:Nat:=0
def PySem.W.Fast.tw3084894194476954549:Nat:=0
def PySem.W.Fast.tw12444178584446682302:Nat:=0
def PySem.W.Fast.tw3043669851813105716:Nat:=0
def PySem.W.Fast.tw13667521828680830655:Nat:=0
def PySem.W.Fast.tw228064948659389841:Nat:=0
def PySem.W.Fast.tw10517951072533300727:Nat:=0
def PySem.W.Fast.tw15966193779833866859:Nat:=0
def PySem.W.Fast.tw890008472545025533:Nat:=0
def PySem.W.Fast.tw3417457609855643498:Nat:=0
def PySem.W.Fast.tw11386084806060570841:Nat:=0
namespace Rk
open L2
theorem QyK{l:PySem.W.OpenLaw}{w:Jd}{K:PySem.W.Frag}{h:Heap}{mg:Str->Option Value}{fa f1 f2 f3 f4 f5 f6 f7 f8 f9 f10 f11 f12 f13 f14 f15 f16 f17 f18 f19 f20 f21 f22 f23 f24 f25 f26 f27 f28 f29 f30 f31:Addr}(X:K.In h)(G:h.Ns mainGlobals mg)(hfa:mg "law" = some (.ref fa))
  {od1 an1 od2 an2 od3 an3 od4 an4 od5 an5 od6 an6 od7 an7 od8 an8 od9 an9 od10 an10 od11 an11 od12 an12 od13 an13 od14 an14 od15 an15 od16 an16 od17 an17 od18 an18 od19 an19 od20 an20 od21 an21 od22 an22 od23 an23 od24 an24 od25 an25 od26 an26 od27 an27 od28 an28 od29 an29 od30 an30 od31 an31:Option Addr} {sl1 sl2 sl3 sl4 sl5 sl6 sl7 sl8 sl9 sl10 sl11 sl12 sl13 sl14 sl15 sl16 sl17 sl18 sl19 sl20 sl21 sl22 sl23 sl24 sl25 sl26 sl27 sl28 sl29 sl30 sl31:Array (Option Value)} {oc1 kV1 dc1 pm1 cd1 ct1 oc2 kV2 dc2 pm2 cd2 ct2 oc3 kV3 dc3 pm3 cd3 ct3 oc4 kV4 dc4 pm4 cd4 ct4 oc5 kV5 dc5 pm5 cd5 ct5 oc6 kV6 dc6 pm6 cd6 ct6 oc7 kV7 dc7 pm7 cd7 ct7 oc8 kV8 dc8 pm8 cd8 ct8 oc9 kV9 dc9 pm9 cd9 ct9 oc10 kV10 dc10 pm10 cd10 ct10 oc11 kV11 dc11 pm11 cd11 ct11 oc12 kV12 dc12 pm12 cd12 ct12 oc13 kV13 dc13 pm13 cd13 ct13 oc14 kV14 dc14 pm14 cd14 ct14 oc15 kV15 dc15 pm15 cd15 ct15 oc16 kV16 dc16 pm16 cd16 ct16 oc17 kV17 dc17 pm17 cd17 ct17 oc18 kV18 dc18 pm18 cd18 ct18 oc19 kV19 dc19 pm19 cd19 ct19 oc20 kV20 dc20 pm20 cd20 ct20 oc21 kV21 dc21 pm21 cd21 ct21 oc22 kV22 dc22 pm22 cd22 ct22 oc23 kV23 dc23 pm23 cd23 ct23 oc24 kV24 dc24 pm24 cd24 ct24 oc25 kV25 dc25 pm25 cd25 ct25 oc26 kV26 dc26 pm26 cd26 ct26 oc27 kV27 dc27 pm27 cd27 ct27 oc28 kV28 dc28 pm28 cd28 ct28 oc29 kV29 dc29 pm29 cd29 ct29 oc30 kV30 dc30 pm30 cd30 ct30 oc31 kV31 dc31 pm31 cd31 ct31:Value}
  (a1:PySem.W.nsIn K mainGlobals "is_whole" = some (some (.ref f1))) (l1:K.lookup f1=some ⟨oc1,od1,.func (PySem.W.fnOf "is_whole" "is_whole" (JP QfD) (JF QfD) (QF QfD) .none kV1 dc1 pm1 an1 cd1 ct1),sl1⟩) (c1:PySem.W.codeIn K cd1 "is_whole" = true) (k1:PySem.W.keepIn K (.ref f1)=true)
  (a2:PySem.W.nsIn K mainGlobals "is_whole_within" = some (some (.ref f2)))(l2:K.lookup f2=some ⟨oc2,od2,.func (PySem.W.fnOf "is_whole_within" "is_whole_within" (JP QdI) (JF QdI) (QF QdI) .none kV2 dc2 pm2 an2 cd2 ct2),sl2⟩)(c2:PySem.W.codeIn K cd2 "is_whole_within" = true)(k2:PySem.W.keepIn K (.ref f2)=true)
  (a3:PySem.W.nsIn K mainGlobals "how_many_orders" = some (some (.ref f3)))(l3:K.lookup f3=some ⟨oc3,od3,.func (PySem.W.fnOf "how_many_orders" "how_many_orders" (JP QdK) (JF QdK) (QF QdK) .none kV3 dc3 pm3 an3 cd3 ct3),sl3⟩)(c3:PySem.W.codeIn K cd3 "how_many_orders" = true)(k3:PySem.W.keepIn K (.ref f3)=true)
  (a4:PySem.W.nsIn K mainGlobals "turned" = some (some (.ref f4)))(l4:K.lookup f4=some ⟨oc4,od4,.func (PySem.W.fnOf "turned" "turned" (JP QkH) (JF QkH) (QF QkH) .none kV4 dc4 pm4 an4 cd4 ct4),sl4⟩)(c4:PySem.W.codeIn K cd4 "turned" = true)(k4:PySem.W.keepIn K (.ref f4)=true)
  (a5:PySem.W.nsIn K mainGlobals "rest" = some (some (.ref f5)))(l5:K.lookup f5=some ⟨oc5,od5,.func (PySem.W.fnOf "rest" "rest" (JP QfE) (JF QfE) (QF QfE) .none kV5 dc5 pm5 an5 cd5 ct5),sl5⟩)(c5:PySem.W.codeIn K cd5 "rest" = true)(k5:PySem.W.keepIn K (.ref f5)=true)
  (a6:PySem.W.nsIn K mainGlobals "is_order" = some (some (.ref f6)))(l6:K.lookup f6=some ⟨oc6,od6,.func (PySem.W.fnOf "is_order" "is_order" (JP sIsO) (JF sIsO) (QF sIsO) .none kV6 dc6 pm6 an6 cd6 ct6),sl6⟩)(c6:PySem.W.codeIn K cd6 "is_order" = true)(k6:PySem.W.keepIn K (.ref f6)=true)
  (a7:PySem.W.nsIn K mainGlobals "all_orders" = some (some (.ref f7)))(l7:K.lookup f7=some ⟨oc7,od7,.func (PySem.W.fnOf "all_orders" "all_orders" (JP QkK) (JF QkK) (QF QkK) .none kV7 dc7 pm7 an7 cd7 ct7),sl7⟩)(c7:PySem.W.codeIn K cd7 "all_orders" = true)(k7:PySem.W.keepIn K (.ref f7)=true)
  (a8:PySem.W.nsIn K mainGlobals "led" = some (some (.ref f8)))(l8:K.lookup f8=some ⟨oc8,od8,.func (PySem.W.fnOf "led" "led" (JP sLed) (JF sLed) (QF sLed) .none kV8 dc8 pm8 an8 cd8 ct8),sl8⟩)(c8:PySem.W.codeIn K cd8 "led" = true)(k8:PySem.W.keepIn K (.ref f8)=true)
  (a9:PySem.W.nsIn K mainGlobals "picked" = some (some (.ref f9)))(l9:K.lookup f9=some ⟨oc9,od9,.func (PySem.W.fnOf "picked" "picked" (JP QdJ) (JF QdJ) (QF QdJ) .none kV9 dc9 pm9 an9 cd9 ct9),sl9⟩)(c9:PySem.W.codeIn K cd9 "picked" = true)(k9:PySem.W.keepIn K (.ref f9)=true)
  (a10:PySem.W.nsIn K mainGlobals "others" = some (some (.ref f10)))(l10:K.lookup f10=some ⟨oc10,od10,.func (PySem.W.fnOf "others" "others" (JP sOth) (JF sOth) (QF sOth) .none kV10 dc10 pm10 an10 cd10 ct10),sl10⟩)(c10:PySem.W.codeIn K cd10 "others" = true)(k10:PySem.W.keepIn K (.ref f10)=true)
  (a11:PySem.W.nsIn K mainGlobals "counts" = some (some (.ref f11)))(l11:K.lookup f11=some ⟨oc11,od11,.func (PySem.W.fnOf "counts" "counts" (JP sCnt) (JF sCnt) (QF sCnt) .none kV11 dc11 pm11 an11 cd11 ct11),sl11⟩)(c11:PySem.W.codeIn K cd11 "counts" = true)(k11:PySem.W.keepIn K (.ref f11)=true)
  (a12:PySem.W.nsIn K mainGlobals "most_size" = some (some (.ref f12)))(l12:K.lookup f12=some ⟨oc12,od12,.func (PySem.W.fnOf "most_size" "most_size" (JP QkJ) (JF QkJ) (QF QkJ) .none kV12 dc12 pm12 an12 cd12 ct12),sl12⟩)(c12:PySem.W.codeIn K cd12 "most_size" = true)(k12:PySem.W.keepIn K (.ref f12)=true)
  (a13:PySem.W.nsIn K mainGlobals "ways_to_go_on" = some (some (.ref f13)))(l13:K.lookup f13=some ⟨oc13,od13,.func (PySem.W.fnOf "ways_to_go_on" "ways_to_go_on" (JP QkG) (JF QkG) (QF QkG) .none kV13 dc13 pm13 an13 cd13 ct13),sl13⟩)(c13:PySem.W.codeIn K cd13 "ways_to_go_on" = true)(k13:PySem.W.keepIn K (.ref f13)=true)
  (a14:PySem.W.nsIn K mainGlobals "ways_with_row" = some (some (.ref f14)))(l14:K.lookup f14=some ⟨oc14,od14,.func (PySem.W.fnOf "ways_with_row" "ways_with_row" (JP sRow) (JF sRow) (QF sRow) .none kV14 dc14 pm14 an14 cd14 ct14),sl14⟩)(c14:PySem.W.codeIn K cd14 "ways_with_row" = true)(k14:PySem.W.keepIn K (.ref f14)=true)
  (a15:PySem.W.nsIn K mainGlobals "is_way" = some (some (.ref f15)))(l15:K.lookup f15=some ⟨oc15,od15,.func (PySem.W.fnOf "is_way" "is_way" (JP sWay) (JF sWay) (QF sWay) .none kV15 dc15 pm15 an15 cd15 ct15),sl15⟩)(c15:PySem.W.codeIn K cd15 "is_way" = true)(k15:PySem.W.keepIn K (.ref f15)=true)
  (a16:PySem.W.nsIn K mainGlobals "alike" = some (some (.ref f16)))(l16:K.lookup f16=some ⟨oc16,od16,.func (PySem.W.fnOf "alike" "alike" (JP QfH) (JF QfH) (QF QfH) .none kV16 dc16 pm16 an16 cd16 ct16),sl16⟩)(c16:PySem.W.codeIn K cd16 "alike" = true)(k16:PySem.W.keepIn K (.ref f16)=true)
  (a17:PySem.W.nsIn K mainGlobals "first_way" = some (some (.ref f17)))(l17:K.lookup f17=some ⟨oc17,od17,.func (PySem.W.fnOf "first_way" "first_way" (JP QfG) (JF QfG) (QF QfG) .none kV17 dc17 pm17 an17 cd17 ct17),sl17⟩)(c17:PySem.W.codeIn K cd17 "first_way" = true)(k17:PySem.W.keepIn K (.ref f17)=true)
  (a18:PySem.W.nsIn K mainGlobals "column_marks" = some (some (.ref f18)))(l18:K.lookup f18=some ⟨oc18,od18,.func (PySem.W.fnOf "column_marks" "column_marks" (JP QfF) (JF QfF) (QF QfF) .none kV18 dc18 pm18 an18 cd18 ct18),sl18⟩)(c18:PySem.W.codeIn K cd18 "column_marks" = true)(k18:PySem.W.keepIn K (.ref f18)=true)
  (a19:PySem.W.nsIn K mainGlobals "columns_put" = some (some (.ref f19)))(l19:K.lookup f19=some ⟨oc19,od19,.func (PySem.W.fnOf "columns_put" "columns_put" (JP sPut) (JF sPut) (QF sPut) .none kV19 dc19 pm19 an19 cd19 ct19),sl19⟩)(c19:PySem.W.codeIn K cd19 "columns_put" = true)(k19:PySem.W.keepIn K (.ref f19)=true)
  (a20:PySem.W.nsIn K mainGlobals "unlike" = some (some (.ref f20)))(l20:K.lookup f20=some ⟨oc20,od20,.func (PySem.W.fnOf "unlike" "unlike" (JP sUnl) (JF sUnl) (QF sUnl) .none kV20 dc20 pm20 an20 cd20 ct20),sl20⟩)(c20:PySem.W.codeIn K cd20 "unlike" = true)(k20:PySem.W.keepIn K (.ref f20)=true)
  (a21:PySem.W.nsIn K mainGlobals "count_at" = some (some (.ref f21)))(l21:K.lookup f21=some ⟨oc21,od21,.func (PySem.W.fnOf "count_at" "count_at" (JP sCAt) (JF sCAt) (QF sCAt) .none kV21 dc21 pm21 an21 cd21 ct21),sl21⟩)(c21:PySem.W.codeIn K cd21 "count_at" = true)(k21:PySem.W.keepIn K (.ref f21)=true)
  (a22:PySem.W.nsIn K mainGlobals "name_of" = some (some (.ref f22)))(l22:K.lookup f22=some ⟨oc22,od22,.func (PySem.W.fnOf "name_of" "name_of" (JP QkI) (JF QkI) (QF QkI) .none kV22 dc22 pm22 an22 cd22 ct22),sl22⟩)(c22:PySem.W.codeIn K cd22 "name_of" = true)(k22:PySem.W.keepIn K (.ref f22)=true)
  (a23:PySem.W.nsIn K mainGlobals "least_by_columns" = some (some (.ref f23)))(l23:K.lookup f23=some ⟨oc23,od23,.func (PySem.W.fnOf "least_by_columns" "least_by_columns" (JP sLbc) (JF sLbc) (QF sLbc) .none kV23 dc23 pm23 an23 cd23 ct23),sl23⟩)(c23:PySem.W.codeIn K cd23 "least_by_columns" = true)(k23:PySem.W.keepIn K (.ref f23)=true)
  (a24:PySem.W.nsIn K mainGlobals "own_ways" = some (some (.ref f24)))(l24:K.lookup f24=some ⟨oc24,od24,.func (PySem.W.fnOf "own_ways" "own_ways" (JP sOwn) (JF sOwn) (QF sOwn) .none kV24 dc24 pm24 an24 cd24 ct24),sl24⟩)(c24:PySem.W.codeIn K cd24 "own_ways" = true)(k24:PySem.W.keepIn K (.ref f24)=true)
  (a25:PySem.W.nsIn K mainGlobals "_law_cell_at" = some (some (.ref f25)))(l25:K.lookup f25=some ⟨oc25,od25,.func (PySem.W.fnOf "_law_cell_at" "_law_cell_at" (JP QdR) (JF QdR) (QF QdR) .none kV25 dc25 pm25 an25 cd25 ct25),sl25⟩)(c25:PySem.W.codeIn K cd25 "_law_cell_at" = true)(k25:PySem.W.keepIn K (.ref f25)=true)
  (a26:PySem.W.nsIn K mainGlobals "_law_pot" = some (some (.ref f26)))(l26:K.lookup f26=some ⟨oc26,od26,.func (PySem.W.fnOf "_law_pot" "_law_pot" (JP lPot) (JF lPot) (QF lPot) .none kV26 dc26 pm26 an26 cd26 ct26),sl26⟩)(c26:PySem.W.codeIn K cd26 "_law_pot" = true)(k26:PySem.W.keepIn K (.ref f26)=true)
  (a27:PySem.W.nsIn K mainGlobals "_law_take" = some (some (.ref f27)))(l27:K.lookup f27=some ⟨oc27,od27,.func (PySem.W.fnOf "_law_take" "_law_take" (JP QkY) (JF QkY) (QF QkY) .none kV27 dc27 pm27 an27 cd27 ct27),sl27⟩)(c27:PySem.W.codeIn K cd27 "_law_take" = true)(k27:PySem.W.keepIn K (.ref f27)=true)
  (a28:PySem.W.nsIn K mainGlobals "_law_board" = some (some (.ref f28)))(l28:K.lookup f28=some ⟨oc28,od28,.func (PySem.W.fnOf "_law_board" "_law_board" (JP QfQ) (JF QfQ) (QF QfQ) .none kV28 dc28 pm28 an28 cd28 ct28),sl28⟩)(c28:PySem.W.codeIn K cd28 "_law_board" = true)(k28:PySem.W.keepIn K (.ref f28)=true)
  (a29:PySem.W.nsIn K mainGlobals "_law_order" = some (some (.ref f29)))(l29:K.lookup f29=some ⟨oc29,od29,.func (PySem.W.fnOf "_law_order" "_law_order" (JP QfP) (JF QfP) (QF QfP) .none kV29 dc29 pm29 an29 cd29 ct29),sl29⟩)(c29:PySem.W.codeIn K cd29 "_law_order" = true)(k29:PySem.W.keepIn K (.ref f29)=true)
  (a30:PySem.W.nsIn K mainGlobals "_law_two_right" = some (some (.ref f30)))(l30:K.lookup f30=some ⟨oc30,od30,.func (PySem.W.fnOf "_law_two_right" "_law_two_right" (JP lTwo) (JF lTwo) (QF lTwo) .none kV30 dc30 pm30 an30 cd30 ct30),sl30⟩)(c30:PySem.W.codeIn K cd30 "_law_two_right" = true)(k30:PySem.W.keepIn K (.ref f30)=true)
  (a31:PySem.W.nsIn K mainGlobals "law" = some (some (.ref f31)))(l31:K.lookup f31=some ⟨oc31,od31,.func (PySem.W.fnOf "law" "law" (JP sLaw) (JF sLaw) (QF sLaw) .none kV31 dc31 pm31 an31 cd31 ct31),sl31⟩)(c31:PySem.W.codeIn K cd31 "law" = true)(k31:PySem.W.keepIn K (.ref f31)=true)
  (z1:PySem.W.nsIn K mainGlobals "isinstance" = some none)
  (z2:PySem.W.nsIn K mainGlobals "int" = some none)
  (z3:PySem.W.nsIn K mainGlobals "bool" = some none)
  (z4:PySem.W.nsIn K mainGlobals "str" = some none)
  (z5:PySem.W.nsIn K mainGlobals "tuple" = some none)
  (z6:PySem.W.nsIn K mainGlobals "list" = some none)
  (z7:PySem.W.nsIn K mainGlobals "all" = some none)
  (z8:PySem.W.nsIn K mainGlobals "len" = some none)
  (z9:PySem.W.nsIn K mainGlobals "zip" = some none)
  (z10:PySem.W.nsIn K mainGlobals "enumerate" = some none)
  (z11:PySem.W.nsIn K mainGlobals "range" = some none)
  (z12:PySem.W.nsIn K mainGlobals "max" = some none)
  (z13:PySem.W.nsIn K mainGlobals "min" = some none)
  (z14:PySem.W.nsIn K mainGlobals "sorted" = some none)
  (z15:PySem.W.nsIn K mainGlobals "sum" = some none)
  (z16:PySem.W.nsIn K mainGlobals "set" = some none)
  (z17:PySem.W.nsIn K mainGlobals "any" = some none)
  (z18:PySem.W.nsIn K mainGlobals "reversed" = some none)
  (z19:PySem.W.nsIn K mainGlobals "divmod" = some none)
  :
  ∃fd:Q0,(∀(s:Shared)(v:Value),QoB s fd ⟨[v],[]⟩ [("_law_script",v)])/\∀base:Heap,K.In base->base.Ns mainGlobals mg->FnOk l.prog w K mg base CX0 6 fa fd ["_law_script"] (Dl.QfB K):=by
 have e:=hfa.symm.trans (PySem.W.mg_of X G a31);cases e;have T:=(⟨(PySem.W.mg_none_of X G z1),(PySem.W.mg_none_of X G z2),(PySem.W.mg_none_of X G z3),(PySem.W.mg_none_of X G z4),(PySem.W.mg_none_of X G z5),(PySem.W.mg_none_of X G z6),(PySem.W.mg_none_of X G z7),(PySem.W.mg_none_of X G z8),(PySem.W.mg_none_of X G z9),(PySem.W.mg_none_of X G z10),(PySem.W.mg_none_of X G z11),(PySem.W.mg_none_of X G z12),(PySem.W.mg_none_of X G z13),(PySem.W.mg_none_of X G z14),(PySem.W.mg_none_of X G z15),(PySem.W.mg_none_of X G z16),(PySem.W.mg_none_of X G z17),(PySem.W.mg_none_of X G z18),(PySem.W.mg_none_of X G z19)⟩:GlbA mg);have F1:=ZK (st:=QfD) l1 c1 k1;have b1:=F1.binds (ps:=["thing"]) λ_ _ _ _ _ _ us hl=>match us,hl with | [_],_=>rfl
 have m1:=PySem.W.mg_of X G a1;have F2:=ZK (st:=QdI) l2 c2 k2;have b2:=F2.binds (ps:=["thing", "least", "most"]) λ_ _ _ _ _ _ us hl=>match us,hl with | [_,_,_],_=>rfl
 have m2:=PySem.W.mg_of X G a2;have F3:=ZK (st:=QdK) l3 c3 k3;have b3:=F3.binds (ps:=["many"]) λ_ _ _ _ _ _ us hl=>match us,hl with | [_],_=>rfl
 have m3:=PySem.W.mg_of X G a3;have F4:=ZK (st:=QkH) l4 c4 k4;have b4:=F4.binds (ps:=["board"]) λ_ _ _ _ _ _ us hl=>match us,hl with | [_],_=>rfl
 have m4:=PySem.W.mg_of X G a4;have F5:=ZK (st:=QfE) l5 c5 k5;have b5:=F5.binds (ps:=["board"]) λ_ _ _ _ _ _ us hl=>match us,hl with | [_],_=>rfl
 have m5:=PySem.W.mg_of X G a5;have F6:=ZK (st:=sIsO) l6 c6 k6;have b6:=F6.binds (ps:=["many", "thing"]) λ_ _ _ _ _ _ us hl=>match us,hl with | [_,_],_=>rfl
 have m6:=PySem.W.mg_of X G a6;have F7:=ZK (st:=QkK) l7 c7 k7;have b7:=F7.binds (ps:=["many"]) λ_ _ _ _ _ _ us hl=>match us,hl with | [_],_=>rfl
 have m7:=PySem.W.mg_of X G a7;have F8:=ZK (st:=sLed) l8 c8 k8;have b8:=F8.binds (ps:=["board", "rows", "columns"]) λ_ _ _ _ _ _ us hl=>match us,hl with | [_,_,_],_=>rfl
 have m8:=PySem.W.mg_of X G a8;have F9:=ZK (st:=QdJ) l9 c9 k9;have b9:=F9.binds (ps:=["board", "rows", "columns"]) λ_ _ _ _ _ _ us hl=>match us,hl with | [_,_,_],_=>rfl
 have m9:=PySem.W.mg_of X G a9;have F10:=ZK (st:=sOth) l10 c10 k10;have b10:=F10.binds (ps:=["many", "numbers"]) λ_ _ _ _ _ _ us hl=>match us,hl with | [_,_],_=>rfl
 have m10:=PySem.W.mg_of X G a10;have F11:=ZK (st:=sCnt) l11 c11 k11;have b11:=F11.binds (ps:=["board"]) λ_ _ _ _ _ _ us hl=>match us,hl with | [_],_=>rfl
 have m11:=PySem.W.mg_of X G a11;have F12:=ZK (st:=QkJ) l12 c12 k12;have b12:=F12.binds (ps:=["board"]) λ_ _ _ _ _ _ us hl=>match us,hl with | [_],_=>rfl
 have m12:=PySem.W.mg_of X G a12;have F13:=ZK (st:=QkG) l13 c13 k13;have b13:=F13.binds (ps:=["board"]) λ_ _ _ _ _ _ us hl=>match us,hl with | [_],_=>rfl
 have m13:=PySem.W.mg_of X G a13;have F14:=ZK (st:=sRow) l14 c14 k14;have b14:=F14.binds (ps:=["below", "columns", "taken"]) λ_ _ _ _ _ _ us hl=>match us,hl with | [_,_,_],_=>rfl
 have m14:=PySem.W.mg_of X G a14;have F15:=ZK (st:=sWay) l15 c15 k15;have b15:=F15.binds (ps:=["one", "other", "thing"]) λ_ _ _ _ _ _ us hl=>match us,hl with | [_,_,_],_=>rfl
 have m15:=PySem.W.mg_of X G a15;have F16:=ZK (st:=QfH) l16 c16 k16;have b16:=F16.binds (ps:=["one", "other"]) λ_ _ _ _ _ _ us hl=>match us,hl with | [_,_],_=>rfl
 have m16:=PySem.W.mg_of X G a16;have F17:=ZK (st:=QfG) l17 c17 k17;have b17:=F17.binds (ps:=["one", "other"]) λ_ _ _ _ _ _ us hl=>match us,hl with | [_,_],_=>rfl
 have m17:=PySem.W.mg_of X G a17;have F18:=ZK (st:=QfF) l18 c18 k18;have b18:=F18.binds (ps:=["board", "rows"]) λ_ _ _ _ _ _ us hl=>match us,hl with | [_,_],_=>rfl
 have m18:=PySem.W.mg_of X G a18;have F19:=ZK (st:=sPut) l19 c19 k19;have b19:=F19.binds (ps:=["marks", "wanted"]) λ_ _ _ _ _ _ us hl=>match us,hl with | [_,_],_=>rfl
 have m19:=PySem.W.mg_of X G a19;have F20:=ZK (st:=sUnl) l20 c20 k20;have b20:=F20.binds (ps:=["mine", "theirs"]) λ_ _ _ _ _ _ us hl=>match us,hl with | [_,_],_=>rfl
 have m20:=PySem.W.mg_of X G a20;have F21:=ZK (st:=sCAt) l21 c21 k21;have b21:=F21.binds (ps:=["told", "size"]) λ_ _ _ _ _ _ us hl=>match us,hl with | [_,_],_=>rfl
 have m21:=PySem.W.mg_of X G a21;have F22:=ZK (st:=QkI) l22 c22 k22;have b22:=F22.binds (ps:=["board"]) λ_ _ _ _ _ _ us hl=>match us,hl with | [_],_=>rfl
 have m22:=PySem.W.mg_of X G a22;have F23:=ZK (st:=sLbc) l23 c23 k23;have b23:=F23.binds (ps:=["board", "rows"]) λ_ _ _ _ _ _ us hl=>match us,hl with | [_,_],_=>rfl
 have m23:=PySem.W.mg_of X G a23;have F24:=ZK (st:=sOwn) l24 c24 k24;have b24:=F24.binds (ps:=["board"]) λ_ _ _ _ _ _ us hl=>match us,hl with | [_],_=>rfl
 have m24:=PySem.W.mg_of X G a24;have F25:=ZK (st:=QdR) l25 c25 k25;have b25:=F25.binds (ps:=["_law_script", "_law_k"]) λ_ _ _ _ _ _ us hl=>match us,hl with | [_,_],_=>rfl
 have m25:=PySem.W.mg_of X G a25;have F26:=ZK (st:=lPot) l26 c26 k26;have b26:=F26.binds (ps:=["_law_cell"]) λ_ _ _ _ _ _ us hl=>match us,hl with | [_],_=>rfl
 have m26:=PySem.W.mg_of X G a26;have F27:=ZK (st:=QkY) l27 c27 k27;have b27:=F27.binds (ps:=["_law_pot_here", "_law_far"]) λ_ _ _ _ _ _ us hl=>match us,hl with | [_,_],_=>rfl
 have m27:=PySem.W.mg_of X G a27;have F28:=ZK (st:=QfQ) l28 c28 k28;have b28:=F28.binds (ps:=["_law_pot_here", "_law_high", "_law_wide"]) λ_ _ _ _ _ _ us hl=>match us,hl with | [_,_,_],_=>rfl
 have m28:=PySem.W.mg_of X G a28;have F29:=ZK (st:=QfP) l29 c29 k29;have b29:=F29.binds (ps:=["_law_pot_here", "_law_many"]) λ_ _ _ _ _ _ us hl=>match us,hl with | [_,_],_=>rfl
 have m29:=PySem.W.mg_of X G a29;have F30:=ZK (st:=lTwo) l30 c30 k30;have b30:=F30.binds (ps:=["_law_one", "_law_other"]) λ_ _ _ _ _ _ us hl=>match us,hl with | [_,_],_=>rfl
 have m30:=PySem.W.mg_of X G a30;have F31:=ZK (st:=sLaw) l31 c31 k31;refine⟨PySem.W.fnOf "law" "law" (JP sLaw) (JF sLaw) (QF sLaw) .none kV31 dc31 pm31 an31 cd31 ct31,λs v=>.of_eq rfl,λbase _ _=>?_⟩;have G1:FnOk l.prog w K mg base CX0 1 f1 _ ["thing"] (Dl.Zq false Dl.QlH):=QpC F1 T ;have G2:FnOk l.prog w K mg base CX0 2 f2 _ ["thing", "least", "most"] (Dl.Zq false QiE):=QmE F2 T m1 G1 b1 k1;have G3:FnOk l.prog w K mg base CX0 1 f3 _ ["many"] (Dl.Zq false QiR):=QmH F3 T ;have G4:FnOk l.prog w K mg base CX0 2 f4 _ ["board"] (Dl.Zq false QlP):=Quq F4 T ;have G5:FnOk l.prog w K mg base CX0 1 f5 _ ["board"] (Dl.Zq false Ql6):=QpD F5 T ;have G6:FnOk l.prog w K mg base CX0 3 f6 _ ["many", "thing"] (Dl.Zq false Qy4):=QxE F6 T m2 G2 b2 k2;have G9:FnOk l.prog w K mg base CX0 1 f9 _ ["board", "rows", "columns"] (Dl.Zq false QcG):=QmG F9 T ;have G8:FnOk l.prog w K mg base CX0 4 f8 _ ["board", "rows", "columns"] (Dl.Zq false QcG):=QxB F8 T m6 G6 b6 k6 m9 G9 b9 k9;have G15:FnOk l.prog w K mg base CX0 4 f15 _ ["one", "other", "thing"] (Dl.Zq false Qs3):=QpE F15 T m6 G6 b6 k6 m9 G9 b9 k9;have G10:FnOk l.prog w K mg base CX0 1 f10 _ ["many", "numbers"] (Dl.Zq false QAj):=QxA F10 T ;have G7:FnOk l.prog w K mg base CX0 2 f7 _ ["many"] (Dl.Zq true Qmz):=Quv F7 T m10 G10 b10 k10;have G12:FnOk l.prog w K mg base CX0 1 f12 _ ["board"] (Dl.Zq false QuE):=Qus F12 T ;have G14:FnOk l.prog w K mg base CX0 1 f14 _ ["below", "columns", "taken"] (Dl.Zq true QsZ):=Quo F14 T ;have G13:FnOk l.prog w K mg base CX0 2 f13 _ ["board"] (Dl.Zq true Qs0):=Qup F13 T m14 G14 b14 k14;have G11:FnOk l.prog w K mg base CX0 3 f11 _ ["board"] (Dl.Zq true QgP):=QxF F11 T m13 G13 b13 k13 m12 G12 b12 k12;have G18:FnOk l.prog w K mg base CX0 1 f18 _ ["board", "rows"] (Dl.Zq true QyA):=QxG F18 T ;have G19:FnOk l.prog w K mg base CX0 1 f19 _ ["marks", "wanted"] (Dl.Zq false Qvg):=Quu F19 T ;have G17:FnOk l.prog w K mg base CX0 3 f17 _ ["one", "other"] (Dl.Zq false QuY):=Qut F17 T m18 G18 b18 k18 m7 G7 b7 k7 m19 G19 b19 k19;have G21:FnOk l.prog w K mg base CX0 1 f21 _ ["told", "size"] (Dl.Zq false QAT):=QxH F21 T ;have G20:FnOk l.prog w K mg base CX0 2 f20 _ ["mine", "theirs"] (Dl.Zq false QzH):=Qxw F20 T m21 G21 b21 k21;have G16:FnOk l.prog w K mg base CX0 4 f16 _ ["one", "other"] (Dl.Zq false alD):=QpF F16 T m17 G17 b17 k17 m4 G4 b4 k4 m11 G11 b11 k11 m20 G20 b20 k20;have G23:FnOk l.prog w K mg base CX0 2 f23 _ ["board", "rows"] (Dl.Zq false QAv):=QxC F23 T m18 G18 b18 k18;have G22:FnOk l.prog w K mg base CX0 3 f22 _ ["board"] (Dl.Zq false QpL):=Qur F22 T m23 G23 b23 k23 m7 G7 b7 k7;have G24:FnOk l.prog w K mg base CX0 3 f24 _ ["board"] (Dl.Zq false QAi):=Qxz F24 T m18 G18 b18 k18 m7 G7 b7 k7 m3 G3 b3 k3;have G25:FnOk l.prog w K mg base CX0 1 f25 _ ["_law_script", "_law_k"] (Qc5 K):=QmK F25 T ;have G26:FnOk l.prog w K mg base CX0 1 f26 _ ["_law_cell"] (Dl.Zq true Dl.Qz7):=(Qxy F26 T).imp λ_ _ _ _ h=>Dl.Qz6 h
 have G27:FnOk l.prog w K mg base CX0 1 f27 _ ["_law_pot_here", "_law_far"] (Dl.Zq true Dl.QoG):=(QmF F27 T).imp λ_ _ _ _ h=>Dl.Qwf h
 have G28:FnOk l.prog w K mg base CX0 2 f28 _ ["_law_pot_here", "_law_high", "_law_wide"] (Dl.Zq false QAw):=QmJ F28 T m27 G27 b27 k27;have G29:FnOk l.prog w K mg base CX0 2 f29 _ ["_law_pot_here", "_law_many"] (Dl.Zq false Qi1):=(QmI F29 T m27 ((QmF F27 T).imp λ_ _ _ _ h=>Qs6 h) b27 k27).imp λ_ _ _ _ h=>Qug h
 have G30:FnOk l.prog w K mg base CX0 5 f30 _ ["_law_one", "_law_other"] (Dl.Zq false QuK):=Qxx F30 T m16 G16 b16 k16 m22 G22 b22 k22 m15 G15 b15 k15 m11 G11 b11 k11 m4 G4 b4 k4;exact QxD F31 T m25 G25 b25 k25 m26 G26 b26 k26 m27 G27 b27 k27 m28 G28 b28 k28 m8 G8 b8 k8 m29 G29 b29 k29 m22 G22 b22 k22 m24 G24 b24 k24 m30 G30 b30 k30 m16 G16 b16 k16 m4 G4 b4 k4 m5 G5 b5 k5
theorem QBR{l:PySem.W.OpenLaw}{q:QB}{loose:List Str}{XP:(Str->Option Value)->Heap->Prop}{YP:Jd->Heap->Prop}{d:DefRec}{K:Params->PySem.W.Frag}(hn:l.most=some 63)(hdf:d.params.defaults=[])
  (hY:∀(w:Jd)(h:Heap),YP w h->(K w.params).In h)
  (F:∀(w:Jd)(mg:Str->Option Value)(fa:Addr)(h:Heap),(K w.params).In h->h.Ns mainGlobals mg->mg d.name=some (.ref fa) ->
   ∃fd:Q0,(∀(s:Shared)(u:Value),QoB s fd ⟨[u],[]⟩ [("_law_script",u)])/\∀base:Heap,(K w.params).In base->base.Ns mainGlobals mg->FnOk l.prog w (K w.params) mg base CX0 6 fa fd ["_law_script"] (Dl.QfB (K w.params))) :
  PySem.W.WalkO q loose XP YP l.row.toRowW d [] (λf vs=>PySem.call f vs):=
 L2.Qs4 (n:=63) (k:=6) (x := "_law_script") (CX:=λ_=>CX0) (sp:=λw=>(Dl.QfB (K w.params))) hn (by decide) hdf ⟨rfl,by decide,by decide⟩ hY F (λ_ _ a ns hl _ hS=>⟨a,ns,rfl,hS,hl,λ_=>rfl⟩) λ_ _ _ _ _ z=>z
end Rk
open PySem.W
set_option maxRecDepth 100000 in
set_option maxHeartbeats 0 in
theorem PySem.Challenge.cw_rooklands_k88_whole_likes_holds : PySem.Challenge.rw_rooklands_k88_whole_likes.Holds := by
 w_on;o_law;k_head;(case hw=>w_witness2)
 k_fill
 refine Rk.QBR (l:=PySem.Challenge.rw_rooklands_k88_whole_likes) rfl rfl (λw h Y=>PySem.W.kIn_of Y) ?F
 case F=>
  intro w mg fa h KX G hmg;refine' Rk.QyK KX G hmg ?a1 ?l1 ?c1 ?k1 ?a2 ?l2 ?c2 ?k2 ?a3 ?l3 ?c3 ?k3 ?a4 ?l4 ?c4 ?k4 ?a5 ?l5 ?c5 ?k5 ?a6 ?l6 ?c6 ?k6 ?a7 ?l7 ?c7 ?k7 ?a8 ?l8 ?c8 ?k8 ?a9 ?l9 ?c9 ?k9 ?a10 ?l10 ?c10 ?k10 ?a11 ?l11 ?c11 ?k11 ?a12 ?l12 ?c12 ?k12 ?a13 ?l13 ?c13 ?k13 ?a14 ?l14 ?c14 ?k14 ?a15 ?l15 ?c15 ?k15 ?a16 ?l16 ?c16 ?k16 ?a17 ?l17 ?c17 ?k17 ?a18 ?l18 ?c18 ?k18 ?a19 ?l19 ?c19 ?k19 ?a20 ?l20 ?c20 ?k20 ?a21 ?l21 ?c21 ?k21 ?a22 ?l22 ?c22 ?k22 ?a23 ?l23 ?c23 ?k23 ?a24 ?l24 ?c24 ?k24 ?a25 ?l25 ?c25 ?k25 ?a26 ?l26 ?c26 ?k26 ?a27 ?l27 ?c27 ?k27 ?a28 ?l28 ?c28 ?k28 ?a29 ?l29 ?c29 ?k29 ?a30 ?l30 ?c30 ?k30 ?a31 ?l31 ?c31 ?k31 ?z1 ?z2 ?z3 ?z4 ?z5 ?z6 ?z7 ?z8 ?z9 ?z10 ?z11 ?z12 ?z13 ?z14 ?z15 ?z16 ?z17 ?z18 ?z19
  (case a1=>k_is)
  (case l1=>k_is)
  (case c1=>k_is)
  (case k1=>k_is)
  (case a2=>k_is)
  (case l2=>k_is)
  (case c2=>k_is)
  (case k2=>k_is)
  (case a3=>k_is)
  (case l3=>k_is)
  (case c3=>k_is)
  (case k3=>k_is)
  (case a4=>k_is)
  (case l4=>k_is)
  (case c4=>k_is)
  (case k4=>k_is)
  (case a5=>k_is)
  (case l5=>k_is)
  (case c5=>k_is)
  (case k5=>k_is)
  (case a6=>k_is)
  (case l6=>k_is)
  (case c6=>k_is)
  (case k6=>k_is)
  (case a7=>k_is)
  (case l7=>k_is)
  (case c7=>k_is)
  (case k7=>k_is)
  (case a8=>k_is)
  (case l8=>k_is)
  (case c8=>k_is)
  (case k8=>k_is)
  (case a9=>k_is)
  (case l9=>k_is)
  (case c9=>k_is)
  (case k9=>k_is)
  (case a10=>k_is)
  (case l10=>k_is)
  (case c10=>k_is)
  (case k10=>k_is)
  (case a11=>k_is)
  (case l11=>k_is)
  (case c11=>k_is)
  (case k11=>k_is)
  (case a12=>k_is)
  (case l12=>k_is)
  (case c12=>k_is)
  (case k12=>k_is)
  (case a13=>k_is)
  (case l13=>k_is)
  (case c13=>k_is)
  (case k13=>k_is)
  (case a14=>k_is)
  (case l14=>k_is)
  (case c14=>k_is)
  (case k14=>k_is)
  (case a15=>k_is)
  (case l15=>k_is)
  (case c15=>k_is)
  (case k15=>k_is)
  (case a16=>k_is)
  (case l16=>k_is)
  (case c16=>k_is)
  (case k16=>k_is)
  (case a17=>k_is)
  (case l17=>k_is)
  (case c17=>k_is)
  (case k17=>k_is)
  (case a18=>k_is)
  (case l18=>k_is)
  (case c18=>k_is)
  (case k18=>k_is)
  (case a19=>k_is)
  (case l19=>k_is)
  (case c19=>k_is)
  (case k19=>k_is)
  (case a20=>k_is)
  (case l20=>k_is)
  (case c20=>k_is)
  (case k20=>k_is)
  (case a21=>k_is)
  (case l21=>k_is)
  (case c21=>k_is)
  (case k21=>k_is)
  (case a22=>k_is)
  (case l22=>k_is)
  (case c22=>k_is)
  (case k22=>k_is)
  (case a23=>k_is)
  (case l23=>k_is)
  (case c23=>k_is)
  (case k23=>k_is)
  (case a24=>k_is)
  (case l24=>k_is)
  (case c24=>k_is)
  (case k24=>k_is)
  (case a25=>k_is)
  (case l25=>k_is)
  (case c25=>k_is)
  (case k25=>k_is)
  (case a26=>k_is)
  (case l26=>k_is)
  (case c26=>k_is)
  (case k26=>k_is)
  (case a27=>k_is)
  (case l27=>k_is)
  (case c27=>k_is)
  (case k27=>k_is)
  (case a28=>k_is)
  (case l28=>k_is)
  (case c28=>k_is)
  (case k28=>k_is)
  (case a29=>k_is)
  (case l29=>k_is)
  (case c29=>k_is)
  (case k29=>k_is)
  (case a30=>k_is)
  (case l30=>k_is)
  (case c30=>k_is)
  (case k30=>k_is)
  (case a31=>k_is)
  (case l31=>k_is)
  (case c31=>k_is)
  (case k31=>k_is)
  (case z1=>k_is)
  (case z2=>k_is)
  (case z3=>k_is)
  (case z4=>k_is)
  (case z5=>k_is)
  (case z6=>k_is)
  (case z7=>k_is)
  (case z8=>k_is)
  (case z9=>k_is)
  (case z10=>k_is)
  (case z11=>k_is)
  (case z12=>k_is)
  (case z13=>k_is)
  (case z14=>k_is)
  (case z15=>k_is)
  (case z16=>k_is)
  (case z17=>k_is)
  (case z18=>k_is)
  (case z19=>k_is)
